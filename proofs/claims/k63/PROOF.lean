import PyProof.Rows.All
import Wide.All
import OpenK.AllK
import Wide.FinOn
import Lean
import PyProof.EqAt
import PyProof.EqKinds
import PyProof.TupleCall
import PyProof.ListMulRoad
import PyProof.FactsAll.tuple
import PyProof.MaxThree
import PyProof.SeqI3
import PyProof.Draws
import PyProof.ZipIter
import PyProof.NeKinds
import PyProof.Rows.SortShell
import PyProof.ListRange
import PyProof.DictTable
import PyProof.Rows.Range3
import PyProof.FactsAll.range_2
import PyProof.Rows.SeqMore2
import PySem.Challenge.RW_fewbits_k63_trades_of_drawn_programs
set_option compiler.extract_closed false
set_option genInjectivity false
set_option genSizeOf false
open List renaming getElem?_eq_getElem->yAa,length_map->yAb,replicate->yAd,size_toArray->yAe,getElem?_append_right->yAf,take_length->yAh,range->yAo,replicate_succ->yAv,getElem?_set_self->yAx,getElem?_set_ne->yAy,map_append->yAz,map_cons->yBa,getElem?_cons_zero->yBb,length_set->yBe,length_cons->yBi,getD_cons_zero->yBl,length_range->yBn,getD_cons_succ->yBp,getElem?_cons_succ->yBq,map_map->yBs,take_of_length_le->yBu,foldl_cons->yBv,length_take->yBx,lookup_cons->yBy,append_assoc->yCf,map_congr_left->yCh,not_mem_nil->yCo,mem_cons->yCt,flatten_cons->yCx,filterMap_cons->yCy,length_nil->yDb,getElem?_eq_none->yDf,getElem?_toArray->yDg,getElem?_take_of_lt->yDm,forIn_cons->yDn,forIn_nil->yDw,foldl_nil->yDx,mem_singleton->yDy,append_nil->yEb,length_replicate->yEc,nil_append->yEh,length_filter_le->yEj,drop_eq_getElem_cons->yEm,take->yEn,drop_zero->yEo,replicate_zero->yEt,getElem?_replicate->yFa,take_succ_eq_append_getElem->yFi,reverse_cons->yFm,length_drop->yFt,zipIdx_cons->yFv,filter_cons->yFw,cons_append->yFx,getElem?_of_mem->yFy,zipIdx_nil->yGb,map_nil->yGg,set_cons_zero->yGj,set_cons_succ->yGk,map_replicate->yGm,nodup_append->yGq,getD->yGr,getElem_inj->yGx,drop_length->yGz,all_eq_true->yHc,set_set->yHi
open Nat renaming le_refl->yAc,testBit_and->yAg,mod_two_eq_zero_or_one->yAp,pow_le_pow_right->yAq,testBit_xor->yAs,testBit_two_pow_sub_one->yBf,or_lt_two_pow->yBg,zero_testBit->yBj,testBit_two_pow->yBk,sub_self->yBo,testBit_mod_two_pow->yBr,lt_irrefl->yBz,xor_lt_two_pow->yCa,lt_pow_two_of_testBit->yCj,and_le_left->yCl,and_two_pow_sub_one_eq_mod->yCm,testBit_succ->yCp,pow_lt_pow_right->yCq,testBit_div_two_pow->yCu,testBit_zero->yDc,add_comm->yDe,toNat_testBit->yDo,le_of_lt->yDz,zero_add->yEe,div_lt_iff_lt_mul->yEi,lt_succ_of_lt->yEk,lt_succ_self->yEp,min_eq_right->yEq,and_le_right->yEr,ne_of_gt->yEu,pow_succ->yEy,not_lt_zero->yFe,min_eq_left->yFf,reduceAdd->yFg,testBit_eq_decide_div_mod_eq->yFj,pow_zero->yFp,le_of_ble_eq_true->yFs,le_of_not_lt->yFu,zero_le->yFz,div_add_mod->yGc,lt_or_ge->yGh,sub_zero->yGi,sub_le->yGt,reduceSub->yGv,pow_add->yGw,mod_eq_of_lt->yHa,reduceLeDiff->yHb,le_of_eq->yHe,mul_comm->yHg
open Int renaming toNat_natCast->yAr,natCast_emod->yEs,natCast_nonneg->yEz,natCast_mul->yFh,mul_le_mul_of_nonneg_right->yFr,emod_lt_of_pos->yGl,le_trans->yHh
open Bool renaming false_and->yAl,true_and->yAn,false_eq_true->yAt,and_eq_true->yAu,false_ne_true->yAw,and_true->yBh,not_false->yDj,and_false->yDk,eq_false_or_eq_true->yDp,or_false->yDr,not_true->yDt,or_eq_true->yEg,eq_iff_iff->yFd,or_true->yFq
open Option renaming bind_some->yCc,bind->yCz,some_ne_none->yDu,getD_none->yGy
open PySem.Builtin.Range renaming rangeSize->yCr,small->yHl
open PySem.Builtin.SmallTypes renaming nextOf->yAi,ownedTupleIsFree->yAj,ownedTupleHandOut->yBw
open PySem.Builtin.Int renaming intBits->yAk
open PyProof.Rows renaming callWith_type1->yBd,slot_tuple_getitem->yCe
open PySem.Heap renaming size_push->yBc,get?_update_other->yBt,get?_update_self->yCk,SameBut->yEa
open PySem.PyData renaming int->yAm,depthAll->yCb,eqv->yCg,canLayAll0->yCi,tuple->yCw,bool->yDs,str->yHj,list->yHm
open PySem.W renaming emptyDict->yCd,keepIn->yCv,fnOf->yDd,instObj->yDl,kia_one->yEf,nsIn->yEx,findIn->yFn,codeIn->yFo,methodObj->yGp,OpenLaw->yHf,lookIn->yHk
open PySem.F renaming plain_extend_loop->yDi,slot_int_rmul->yEd,args_tuple_add_2->yEv,args_tuple_mul_2->yEw,entry_tuple_add->yFb,entry_tuple_mul->yFc,slot_tuple_add->yFk,slot_tuple_mul->yFl,slot_int_bit_length->yGa,entry_extend_loop->yGo
open PySem.Builtin renaming bitNot->yBm,divisionGoesByPylong->yCs,bitAnd->yDv,bitXor->yGn,bitOr->yGu
open PySem.Builtin.Slice renaming slicePlaces->yDh,sliceAdjust->yEl,sliceApplied->yGd
open PySem.Builtin.Tuple renaming tupleExact->yCn,tupleItemsOf->yGe,tupleTooMany->yGf
open PySem.Builtin.List renaming listExtendWith->yDa,listSameRef->yGs,listItems->yHd
open Array renaming length_toList->yDq
open PySem renaming Value->qx,Shared->qj,Addr->qv,Expr->qw,wpAny->qy,sizeLine->qk,wpAny_field->qu,Program->qo,starEach->zq,wpAny_seqItems->zx,sizeLine_eq->zj,wpAny_setField_rec->zv,World->zw,Around->zy,Scope->zk,wpAny_holding->zu,binaryOp->zo,IsPair->xq,wpAny_call_entry->xz,assignEach->xj,wpAny_Call_Name_kw->xy,wpAny_newObj_type->xk,mainGlobals->xu,IsZip->xo,bootBuiltins->jq,wpAny_onRaise->jz,Stmt->jx,compareOp->jj,foldedSetIterable->jv,wpAny_truthy_bool->jw,wpAny_pyIter_list->jy,wpAny_letGo->jk,behindInMarks->ju,pyNext->jo,Operator->vq,FuncData->vz,NameKind->vx,wpAny_rule->vj,CmpOp->vv,wpAny_attempt->vw,codeAny->vy,wpAny_passesOwn->vk,wpAny_updateSeq->vo,sliceBounds->wq,wpAny_pyNext_list_item->wz,wpAny_pyNext_list_end->wj,call_meets->ww,wpAny_updateSeq_pair->wu,letOwnedTupleGo->yq,shortFactorBits->yz,UnaryOp->yx,rawInt->yj,typeIs_int->yv,wpAny_binaryOp_repeat_ref->yw,swappedStores->yy,wpAny_standAt->yk,wpAny_isInstance->yu,wpAny_pyIter_zip->yo,wpAny_pyIter_rangeiter->kq,wpAny_specialOf->kz,IsRangeIter->kx,isSubtype_stop->kj
open Option renaming some->qq,none->qz
abbrev wB:=@PySem.wpAny_bind
abbrev wP:=@PySem.wpAny_pure
abbrev hpS:=@PySem.Heap.get?_push_of_some
theorem gIm {α:Type _}{l:List α}{i:Nat}{a:α}:l[i]? = qq a->∃ h,l[i]=a:=List.getElem?_eq_some_iff.mp
abbrev dqF:=@decide_eq_false
abbrev dqT:=@decide_eq_true
abbrev oqT:=@of_decide_eq_true
abbrev FrG:=PySem.W.Frag
abbrev xAa:=@PySem.Heap.lt_size
abbrev xAb:=@List.getElem?_map
abbrev xAc:=@Nat.lt_of_lt_of_le
abbrev xAd:=@List.mem_cons_self
abbrev xAe:=@PySem.Heap.get?_push_size
abbrev xAf:=@Nat.two_pow_pos
abbrev xAg:=@List.mem_cons_of_mem
abbrev xAh:=@List.getD_eq_getElem?_getD
abbrev xAi:=@Nat.le_trans
abbrev xAj:=@Nat.lt_of_le_of_lt
abbrev xAk:=@Nat.ne_of_lt
abbrev xAl:=@List.mem_of_getElem?
abbrev xAm:=@Nat.eq_of_testBit_eq
abbrev xAn:=@List.getElem?_append_left
abbrev xAo:=@List.length_append
abbrev xAp:=@Nat.testBit_or
abbrev xAq:=@List.mem_append_right
set_option Elab.async false
set_option linter.all false
set_option maxRecDepth 100000
namespace L2
open PySem PySem.Spec PyProof.Rows
noncomputable abbrev fO:=Sum Int Str
noncomputable def pV:fO->qx->Bool
 | .inl k,v=>Value.isInt k v
 | .inr x,v=>Value.isStrOf x v
noncomputable def aU8(w:zw):fO->Int
 | .inl k=>hashInt k
 | .inr x=>hashStr w x
theorem mC:∀ {k:fO}{v:qx},pV k v=true->(∃ i t,k=Sum.inl i/\v=Value.int i t)\/(∃ x t,k=Sum.inr x/\v=Value.str x t)
 | .inl i,v,h=>by
   obtain⟨t,e⟩:=Value.isInt_shape (k:=i) (v:=v) h;exact .inl ⟨i,t,rfl,e⟩
 | .inr x,v,h=>by
   obtain⟨t,e⟩:=Value.isStrOf_shape (x:=x) (v:=v) h;exact .inr ⟨x,t,rfl,e⟩
theorem aFq(x:Str)(t:Tok):pV (.inr x) (.str x t)=true:=by simp[pV,Value.isStrOf]
theorem aSb(a b:Int):decide ((Sum.inl a:fO)=Sum.inl b)=(a==b):=by
 by_cases e:a=b
 ·subst e;simp
 ·have h:¬ (Sum.inl a:fO)=Sum.inl b:=λ q=>e (Sum.inl.inj q)
  rw[dqF h];exact(beq_eq_false_iff_ne.mpr e).symm
theorem aQY(a b:Str):decide ((Sum.inr a:fO)=Sum.inr b)=decide (a=b):=by
 by_cases e:a=b
 ·subst e;simp
 ·have h:¬ (Sum.inr a:fO)=Sum.inr b:=λ q=>e (Sum.inr.inj q)
  rw[dqF h,dqF e]
theorem aQV(a:Int)(b:Str):decide ((Sum.inl a:fO)=Sum.inr b)=false:=dqF (λ q=>nomatch q)
theorem aSv(a:Str)(b:Int):decide ((Sum.inr a:fO)=Sum.inl b)=false:=dqF (λ q=>nomatch q)
noncomputable def nT(prog:qo)(w:zw):PySem.KeyKind prog w fO where
 is:=pV
 hash:=aU8 w
 inj:=λ v a b ha hb=>by
  rcases mC ha with ⟨i,t,rfl,rfl⟩ | ⟨x,t,rfl,rfl⟩
  ·rcases mC hb with ⟨j,u,rfl,e⟩ | ⟨y,u,rfl,e⟩
   ·injection e with e1 _;rw[e1]
   ·exact nomatch e
  ·rcases mC hb with ⟨j,u,rfl,e⟩ | ⟨y,u,rfl,e⟩
   ·exact nomatch e
   ·injection e with e1 _;rw[e1]
 byValue:=λ k v h=>by
  rcases mC h with ⟨i,t,rfl,rfl⟩ | ⟨x,t,rfl,rfl⟩<;>rfl
 pyHash:=λ hv h=>by
  rcases mC hv with ⟨i,t,rfl,rfl⟩ | ⟨x,t,rfl,rfl⟩
  ·exact wpAny_pyHash_int h
  ·exact wpAny_pyHash_str h
 eqBool:=λ hu hv h=>by
  rcases mC hu with ⟨i,t,rfl,rfl⟩ | ⟨x,t,rfl,rfl⟩
  ·rcases mC hv with ⟨j,u,rfl,rfl⟩ | ⟨y,u,rfl,rfl⟩
   ·rw[aSb] at h;exact wpAny_eqBool_int h
   ·rw[aQV] at h;exact SeqAt.EqAt.int_str i t y u _ _ _ _ h
  ·rcases mC hv with ⟨j,u,rfl,rfl⟩ | ⟨y,u,rfl,rfl⟩
   ·rw[aSv] at h;exact SeqAt.EqAt.str_int x t j u _ _ _ _ h
   ·rw[aQY] at h;exact wpAny_eqBool_str h
 «strs»:=λ k x t v h=>by
  rcases mC h with ⟨i,u,rfl,e⟩ | ⟨y,u,rfl,e⟩
  ·exact nomatch e
  ·injection e with e1 _
   subst e1;cases v<;>rfl
end L2
namespace L2
open PySem PySem.Spec PyProof.Rows
inductive V where
 | non | bl (b:Bool) | int (i:Int) | str (x:Str) | byt (b:Array UInt8) | flt (b:UInt64) | ref (a:qv) | ty (n:String)
 deriving DecidableEq
noncomputable def aZ:V->qx->Prop
 | .non,u=>u=Value.none
 | .bl b,u=>u=Value.bool b
 | .int i,u=>∃ t,u=Value.int i t
 | .str x,u=>∃ t,u=Value.str x t
 | .byt b,u=>∃ t,u=Value.bytes b t
 | .flt b,u=>∃ t,u=Value.float b t
 | .ref a,u=>u=Value.ref a
 | .ty n,u=>u=Value.type n
noncomputable abbrev aU:List V->List qx->Prop:=Paired aZ
theorem aU.length{xs:List V}{us:List qx}(r:aU xs us):xs.length=us.length:=Paired.length r
theorem aU.get:∀ {xs:List V}{us:List qx}{i:Nat}{x:V},aU xs us->xs[i]? = qq x->∃ u,us[i]? = qq u/\aZ x u
 | _,_,_,_,.nil,e=>by simp at e
 | _,_,0,_,.cons r _,e=>by simp at e;subst e;exact⟨_,rfl,r⟩
 | _,_,i+1,x,.cons _ t,e=>by
   obtain⟨u,h1,h2⟩:=aU.get (i:=i) (x:=x) t (by simpa using e)
   exact⟨u,by simpa using h1,h2⟩
theorem aU.set{x:V}{u:qx}(r:aZ x u):∀ {xs:List V}{us:List qx} (i:Nat),aU xs us->aU (xs.set i x) (us.set i u)
 | _,_,_,.nil=>.nil
 | _,_,0,.cons _ t=>.cons r t
 | _,_,i+1,.cons q t=>.cons q (aU.set r i t)
theorem aU.append:∀ {xs ys:List V}{us ws:List qx},aU xs us->aU ys ws->aU (xs++ys) (us++ws)
 | _,_,_,_,.nil,s=>s
 | _,_,_,_,.cons r t,s=>.cons r (aU.append t s)
theorem aU.take:∀ {xs:List V}{us:List qx} (n:Nat),aU xs us->aU (xs.take n) (us.take n)
 | _,_,0,_=>.nil
 | _,_,_+1,.nil=>.nil
 | _,_,n+1,.cons r t=>.cons r (aU.take n t)
theorem aU.drop:∀ {xs:List V}{us:List qx} (n:Nat),aU xs us->aU (xs.drop n) (us.drop n)
 | _,_,0,r=>r
 | _,_,_+1,.nil=>.nil
 | _,_,n+1,.cons _ t=>aU.drop n t
noncomputable def aJN:Option V->Option qx->Prop
 | some v,qq u=>aZ v u
 | none,qz=>True
 | _,_=>False
noncomputable def KV{κ:Type}:List (κ×V)->List (κ×qx)->Prop:=Paired λ(p:κ×V) (q:κ×qx)=>p.1=q.1/\aZ p.2 q.2
noncomputable def kV:fO->V
 | .inl i=>.int i
 | .inr x=>.str x
inductive HO where
 | lst (xs:List V)
 | tup (xs:List V)
 | dK (aX:List (fO×V)) | dT (aX:List (List fO×V))
 | set (S:Int->Bool) (n:Nat)
 | ins (C dx:qv) (fs:List (Str×V))
 | own (x:qv)
 | xd (fs:List (Str×V))
 | met (f x:qv)
 | rng (lo hi:Int)
 | frz (o:Obj) (u:HO)
 | tbl (ps:Array qx)
 | ext (φ:Heap->Prop)
noncomputable abbrev Hp:=qv->Option HO
noncomputable def bE(H:Hp)(a:qv)(o:HO):Hp:=λ b=>if b=a then qq o else H b
theorem dE{H:Hp}{a:qv}{o:HO}:bE H a o a=qq o:=by unfold bE;rw[if_pos rfl]
theorem bN{H:Hp}{a b:qv}{o:HO}(h:b≠a):bE H a o b=H b:=by unfold bE;rw[if_neg h]
theorem eB{H:Hp}{a b:qv}{o:HO}(h:H a=qq o)(h':H b=qz):a≠b:=by
 intro e;subst e;rw[h] at h';cases h'
section
variable (P : qo)(w : zw)
noncomputable def hJ(H:Hp)(h:Heap)(a:qv):HO->Prop
 | .lst xs=>xs.length<=qk/\∃ (aF:List qx) (n:Nat),aU xs aF/\h.get? a=qq {cls:=.type "list",data:=.seq aF.toArray n }
 | .tup xs=>xs.length<=qk/\∃ aF:List qx,aU xs aF/\IsTup h a aF.toArray
 | .dK aX=>aX.length<=qk/\(a==sysModules)=false/\∃ vs,KV aX vs/\h.DictOf (nT P w) a vs
 | .dT aX=>aX.length<=qk/\(a==sysModules)=false/\∃ xs:List (List fO×qv×qx),
    Paired (λ(p:List fO×V) (q:List fO×qv×qx)=>p.1=q.1/\H q.2.1=qq (.tup (p.1.map kV))/\aZ p.2 q.2.2) aX xs /\
    ∃ o es ep,h.get? a=qq o/\o.ExactDict/\o.data=.dict es ep/\es.toList=xs.map (entryOfKey (tupleKind (nT P w)))/\(xs.map (·.1)).Nodup
 | .set S n=>h.SetOf (intKind P w) a S n
 | .ins C dx fs=>H dx=qq (.own a)/\fs.length<=1000/\dx≠a/\h.get? a=qq (yDl C dx) /\
    ∃ mA,h.Ns1 dx mA/\(∀ f,aJN (fs.lookup f) (mA f))/\PySem.Within mA (fs.map (·.1))
 | .own _=>∃ o,h.get? a=qq o
 | .xd fs=>∃ mA,h.Ns1 a mA/\∀ f,aJN (fs.lookup f) (mA f)
 | .rng lo hi=>∃ t u v,h.get? a=qq {cls:=.type "range",data:=.fields #[.int lo t,.int hi u,.int 1 v] }
 | .frz o u=>h.get? a=qq o/\hJ H h a u
 | .tbl ps=>h.get? a=qq {cls:=.none,data:=.fields ps }
 | .met f x=>h.get? a=qq (yGp (.ref f) (.ref x))
 | .ext φ=>φ h/\(∃ o,h.get? a=qq o)/\∀ h1 h2:Heap,φ h1->(∀ o,h1.get? a=qq o->h2.get? a=qq o)->φ h2
def dL(H:Hp)(h:Heap):Prop:=∀ a o,H a=qq o->hJ P w H h a o
end
section
variable {P : qo}{w : zw}{H H' : Hp}{h h' : Heap}{a : qv}{o : HO}
theorem hJ.lt(x:hJ P w H h a o):a<h.objs.size:=by
 cases o with
 | lst xs=>obtain⟨_,_,_,_,e⟩:=x;exact xAa e
 | tup xs=>obtain⟨_,_,_,p⟩:=x;exact p.lt
 | dK aX=>obtain⟨_,_,_,_,o,_,_,e,_⟩:=x;exact xAa e
 | dT aX=>obtain⟨_,_,_,_,o,_,_,e,_⟩:=x;exact xAa e
 | set S n=>obtain⟨o,_,_,_,e,_⟩:=x;exact xAa e
 | ins C dx fs=>obtain⟨_,_,_,e,_⟩:=x;exact xAa e
 | own y=>obtain⟨_,e⟩:=x;exact xAa e
 | xd fs=>obtain⟨_,⟨_,_,_,e,_⟩,_⟩:=x;exact xAa e
 | rng lo hi=>obtain⟨_,_,_,e⟩:=x;exact xAa e
 | frz ob u=>obtain⟨e,_⟩:=x;exact xAa e
 | tbl ps=>exact xAa (show h.get? a=qq _ from x)
 | met f y=>exact xAa (show h.get? a=qq _ from x)
 | ext φ=>obtain⟨_,⟨_,e⟩,_⟩:=x;exact xAa e
theorem Paired.mapP{α β:Type}{F G:α->β->Prop}:∀ {l₁:List α}{l₂:List β},Paired F l₁ l₂->(∀ a b,F a b->G a b)->Paired G l₁ l₂
 | _,_,.nil,_=>.nil
 | _,_,.cons r t,f=>.cons (f _ _ r) (Paired.mapP t f)
theorem hJ.stay(x:hJ P w H h a o)(k:∀ b u,(b=a\/H b=qq (.own a))->h.get? b=qq u->h'.get? b=qq u)
 (ho:∀ b,H b=qq (.own a)->H' b=qq (.own a)) (ht:∀ b xs,H b=qq (.tup xs)->H' b=qq (.tup xs)):hJ P w H' h' a o:=by
 induction o with
 | lst xs=>obtain⟨z,aF,n,r,e⟩:=x;exact⟨z,aF,n,r,k _ _ (.inl rfl) e⟩
 | tup xs=>obtain⟨z,aF,r,ob,e,c⟩:=x;exact⟨z,aF,r,ob,k _ _ (.inl rfl) e,c⟩
 | dK aX=>obtain⟨z,y,vs,r,ob,es,ep,e,c⟩:=x;exact⟨z,y,vs,r,ob,es,ep,k _ _ (.inl rfl) e,c⟩
 | dT aX =>
   obtain⟨z,y,xs,r,ob,es,ep,e,c⟩:=x;exact⟨z,y,xs,Paired.mapP r λ p q z=>⟨z.1,ht _ _ z.2.1,z.2.2⟩,ob,es,ep,k _ _ (.inl rfl) e,c⟩
 | set S n=>obtain⟨ob,es,ep,t,e,c⟩:=x;exact⟨ob,es,ep,t,k _ _ (.inl rfl) e,c⟩
 | ins C dx fs =>
   obtain⟨d,z,ne,e,mA,⟨od,es,ep,e2,c⟩,r⟩:=x;exact⟨ho _ d,z,ne,k _ _ (.inl rfl) e,mA,⟨od,es,ep,k _ _ (.inr d) e2,c⟩,r⟩
 | own y=>obtain⟨ob,e⟩:=x;exact⟨ob,k _ _ (.inl rfl) e⟩
 | xd fs=>obtain⟨mA,⟨od,es,ep,e,c⟩,r⟩:=x;exact⟨mA,⟨od,es,ep,k _ _ (.inl rfl) e,c⟩,r⟩
 | rng lo hi=>obtain⟨t,u,v,e⟩:=x;exact⟨t,u,v,k _ _ (.inl rfl) e⟩
 | frz ob u ih=>obtain⟨e,q⟩:=x;exact⟨k _ _ (.inl rfl) e,ih q⟩
 | tbl ps =>
   have e:h.get? a=qq {cls:=.none,data:=.fields ps }:=x;show h'.get? a=qq {cls:=.none,data:=.fields ps };exact k a _ (.inl rfl) e
 | met f y =>
   have e:h.get? a=qq (yGp (.ref f) (.ref y)):=x;show h'.get? a=qq (yGp (.ref f) (.ref y));exact k a _ (.inl rfl) e
 | ext φ=>obtain⟨p,⟨o,e⟩,st⟩:=x;exact⟨st _ _ p λ o q=>k _ _ (.inl rfl) q,⟨o,k _ _ (.inl rfl) e⟩,st⟩
theorem dL.lt(x:dL P w H h)(e:H a=qq o):a<h.objs.size:=(x a o e).lt
theorem dL.fresh(x:dL P w H h)(e:h.objs.size<=a):H a=qz:=by
 cases q:H a with
 | none=>rfl
 | some u=>exact absurd (xAc (x.lt q) e) (yBz _)
theorem dL.kept(x:dL P w H h)(k:∀ b u,h.get? b=qq u->h'.get? b=qq u):dL P w H h':=λ a o e =>
 (x a o e).stay (λ b u _ q=>k b u q) (λ _ q=>q) λ _ _ q=>q
theorem dL.laid(x:dL P w H h)(k:∀ b u,h.get? b=qq u->h'.get? b=qq u)(hp:h.objs.size<=a)(new:hJ P w (bE H a o) h' a o):dL P w (bE H a o) h':=λ b u e=>by
 have hn:=x.fresh hp
 by_cases hb:b=a
 ·subst hb;rw[dE] at e;cases e;exact new
 ·rw[bN hb] at e;exact(x b u e).stay (λ c v _ q=>k c v q) (λ c q=>by rw[bN (eB q hn)];exact q) λ c xs q=>by rw[bN (eB q hn)];exact q
end
def Rd(H:Hp)(a:qv)(u:HO):Prop:=H a=qq u\/∃ o,H a=qq (.frz o u)
theorem Rd.of{H:Hp}{a:qv}{u:HO}(h:H a=qq u):Rd H a u:=.inl h
theorem Rd.ok{P:qo}{w:zw}{H:Hp}{h:Heap}{a:qv}{u:HO}(r:Rd H a u)(x:dL P w H h):hJ P w H h a u:=by
 rcases r with r | ⟨o,r⟩
 ·exact x a u r
 ·obtain⟨_,q⟩:=x a _ r;exact q
noncomputable def Mut:Option HO->Prop
 | some (.lst _)=>True
 | some (.dK _)=>True
 | some (.dT _)=>True
 | some (.set _ _)=>True
 | some (.ins _ _ _)=>True
 | some (.ext _)=>True
 | _=>False
section
variable {P : qo}{w : zw}{H : Hp}{h h' : Heap}{x e : qv}{o' : HO}
theorem dL.write(ok:dL P w H h)(mu:Mut (H x))(he:e=x\/H e=qq (.own x))(k:∀ b u,b≠e->h.get? b=qq u->h'.get? b=qq u)(heo:∃ u,h'.get? e=qq u)
 (new:hJ P w (bE H x o') h' x o'):dL P w (bE H x o') h':=λ b u q=>by
 have nown:∀ c y,H c=qq (.own y)->c≠x:=λ c y r z=>by subst z;rw[r] at mu;exact mu
 have ntup:∀ c xs,H c=qq (.tup xs)->c≠x:=λ c xs r z=>by subst z;rw[r] at mu;exact mu
 by_cases hb:b=x
 ·subst hb;rw[dE] at q;cases q;exact new
 ·rw[bN hb] at q
  by_cases hbe:b=e
  ·have q':H b=qq (.own x):=by
    rcases he with z | z
    ·exact absurd (hbe.trans z) hb
    ·rw[hbe];exact z
   rw[q] at q';cases q';obtain⟨v,hv⟩:=heo;exact⟨v,by rw[hbe];exact hv⟩
  ·refine(ok b u q).stay (λ c v hc r=>k c v ?_ r) (λ c r=>by rw[bN (nown c b r)];exact r) λ c xs r=>by rw[bN (ntup c xs r)];exact r
   rcases hc with rfl | hc
   ·exact hbe
   ·rintro rfl;rcases he with z | z
    ·exact nown c b hc z
    ·rw[hc] at z;cases z;exact hb rfl
end
structure Un(fs ex:List qv)(H H':Hp)(h h':Heap):Prop where
 keep:∀ b o,h.get? b=qq o->H b=qz->b ∉ fs->b ∉ ex->h'.get? b=qq o
 slot:∀ b o,h.get? b=qq o->H b=qz->b∈fs->b ∉ ex->∃ sl,h'.get? b=qq {o with slots:=sl }
 free:∀ b o,h.get? b=qq o->H b=qz->b ∉ ex->H' b=qz
 there:∀ b o,h.get? b=qq o->b ∉ ex->∃ o',h'.get? b=qq o'
 tups:∀ b xs,H b=qq (.tup xs)->H' b=qq (.tup xs)
 frzs:∀ b o u,H b=qq (.frz o u)->H' b=qq (.frz o u)
 tbls:∀ b ps,H b=qq (.tbl ps)->∃ more,H' b=qq (.tbl (ps++more))
section
variable {fs fs' ex ex' : List qv}{H H1 H2 : Hp}{h h1 h2 h' : Heap}{a x e : qv}{o : HO}
theorem Un.any(u:Un fs ex H H1 h h1){b:qv}{ob:Obj}(q:h.get? b=qq ob)(n:H b=qz)(hx:b ∉ ex):∃ sl,h1.get? b=qq {ob with slots:=sl }:=by
 by_cases hb:b∈fs
 ·exact u.slot b ob q n hb hx
 ·exact⟨ob.slots,u.keep b ob q n hb hx⟩
theorem Un.trans(a:Un fs ex H H1 h h1)(b:Un fs ex H1 H2 h1 h2):Un fs ex H H2 h h2 where
 keep:=λ c ob q n hc hx=>b.keep c ob (a.keep c ob q n hc hx) (a.free c ob q n hx) hc hx
 slot:=λ c ob q n hc hx=>by
  obtain⟨sl,e1⟩:=a.slot c ob q n hc hx;obtain⟨sl',e2⟩:=b.slot c _ e1 (a.free c ob q n hx) hc hx;exact⟨sl',e2⟩
 free:=λ c ob q n hx=>by
  obtain⟨o',e1⟩:=a.there c ob q hx;exact b.free c o' e1 (a.free c ob q n hx) hx
 there:=λ c ob q hx=>by
  obtain⟨o',e1⟩:=a.there c ob q hx;exact b.there c o' e1 hx
 tups:=λ c xs q=>b.tups c xs (a.tups c xs q)
 frzs:=λ c ob xs q=>b.frzs c ob xs (a.frzs c ob xs q)
 tbls:=λ c ps q=>by
  obtain⟨m1,e1⟩:=a.tbls c ps q;obtain⟨m2,e2⟩:=b.tbls c _ e1;exact⟨m1++m2,by rw[e2,Array.append_assoc]⟩
theorem Un.kept(k:∀ b u,h.get? b=qq u->h'.get? b=qq u):Un fs ex H H h h':=
 ⟨λ b ob q _ _ _=>k b ob q,λ b ob q _ _ _=>⟨ob.slots,k b ob q⟩,λ _ _ _ n _=>n,λ b ob q _=>⟨ob,k b ob q⟩,λ _ _ q=>q,λ _ _ _ q=>q,λ _ ps q=>⟨#[],by rw[q];simp⟩⟩
theorem Un.refl:Un fs ex H H h h:=Un.kept λ _ _ q=>q
theorem Un.laid(k:∀ b u,h.get? b=qq u->h'.get? b=qq u)(hp:h.objs.size<=a)(hn:H a=qz):Un fs ex H (bE H a o) h h' where
 keep:=λ b u q _ _ _=>k b u q
 slot:=λ b u q _ _ _=>⟨u.slots,k b u q⟩
 free:=λ b u q n _=>by rw[bN (xAk (xAc (xAa q) hp))];exact n
 there:=λ b u q _=>⟨u,k b u q⟩
 tups:=λ b xs q=>by rw[bN (eB q hn)];exact q
 frzs:=λ b u xs q=>by rw[bN (eB q hn)];exact q
 tbls:=λ b ps q=>⟨#[],by rw[bN (eB q hn),q];simp⟩
theorem Un.write(mu:Mut (H x))(he:e=x\/H e=qq (.own x))(k:∀ b u,b≠e->h.get? b=qq u->h'.get? b=qq u)(heo:∃ u,h'.get? e=qq u):Un fs ex H (bE H x o) h h':=by
 have hx:∀ b,H b=qz->b≠x:=λ b n z=>by subst z;rw[n] at mu;exact mu
 have hb:∀ b,H b=qz->b≠e:=λ b n z=>by
  subst z;rcases he with r | r
  ·exact hx b n r
  ·rw[n] at r;cases r
 have hm:∀ b u,H b=qq u->¬ Mut (qq u)->b≠x:=λ b u q nm z=>by subst z;rw[q] at mu;exact nm mu
 refine⟨λ b u q n _ _=>k b u (hb b n) q,λ b u q n _ _=>⟨u.slots,k b u (hb b n) q⟩,λ b u q n _=>by rw[bN (hx b n)];exact n,λ b u q _=>?_,
  λ b xs q=>by rw[bN (hm b _ q λ z=>z)];exact q,λ b u xs q=>by rw[bN (hm b _ q λ z=>z)];exact q,λ b ps q=>⟨#[],by rw[bN (hm b _ q λ z=>z),q];simp⟩⟩
 by_cases hbe:b=e
 ·subst hbe;exact heo
 ·exact⟨u,k b u hbe q⟩
theorem Un.mono(u:Un fs ex H H1 h h1)(hs:∀ b∈fs,b∈fs')(hx:∀ b∈ex,b∈ex'):Un fs' ex' H H1 h h1:=
 ⟨λ b ob q n hb he=>u.keep b ob q n (λ z=>hb (hs b z)) λ z=>he (hx b z),λ _ _ q n _ he=>u.any q n λ z=>he (hx _ z),λ b ob q n he=>u.free b ob q n λ z=>he (hx b z),λ b ob q he=>u.there b ob q λ z=>he (hx b z),u.tups,u.frzs,u.tbls⟩
end
noncomputable def trk(h:Heap)(H:Hp):List qv:=(yAo h.objs.size).filter λ a=>(H a).isSome
noncomputable def mV(h:Heap)(H:Hp):Heap:=PySem.W.hideAll h (trk h H)
theorem aMP(h:Heap)(H:Hp):(mV h H).objs.size=h.objs.size:=PySem.W.hideAll_size _ _
theorem aNU{h:Heap}{H:Hp}{b:qv}{o:Obj}(e:h.get? b=qq o)(n:H b=qz):(mV h H).get? b=qq o:=
 PySem.W.hideAll_get _ e λ hm=>by
  have q:(H b).isSome=true:=(List.mem_filter.mp hm).2;rw[n] at q;simp at q
theorem aOy{h:Heap}{H:Hp}{b:qv}{o:Obj}(e:(mV h H).get? b=qq o):h.get? b=qq o/\H b=qz:=by
 have e':h.get? b=qq o:=PySem.W.of_hideAll (trk h H) e;refine⟨e',?_⟩;cases q:H b with
 | none=>rfl
 | some x =>
   have hm:b∈trk h H:=List.mem_filter.mpr ⟨List.mem_range.mpr (xAa e'),by simp[q]⟩
   have z:(mV h H).get? b=qz:=PySem.W.hideAll_none (trk h H) hm;rw[z] at e;cases e
noncomputable def aPM(g h:Heap)(L:qv):List (qv×Obj):=(yAo h.objs.size).filterMap λ a=>if a=L\/(g.get? a).isSome=true then qz else (h.get? a).map λ o=>(a,o)
noncomputable def cT(g h:Heap)(L d:qv):List (qv×Obj):=(aPM g h L).filter λ p=>decide (p.1≠d)
end L2
namespace L2
open PySem PySem.Spec PyProof.Rows
structure Mod(K:FrG)(mg:Str->Option qx)(base:Heap):Prop where
 kin:K.In base
 glob:base.Ns xu mg
 blt:∃ mb,base.Ns builtinsNs mb/\∀ x:Str,x ≠ "__name__" -> mb x=jq x
 nolimit:base.NoLimit
structure Cx where
 prog:qo
 w:zw
 K:FrG
 mg:Str->Option qx
 base:Heap
 A:zy
 N:List Str
 s₀:qj
 H₀:Hp
 env:Env
 outer:List Env
 stack:List Env
 ex:List qv
 fn:Str->Bool
 calm:Bool
 pn:List (qv×Obj)
 xe:qx->qj->Prop
noncomputable def iA(l:List Env):List qv:=l.filterMap (·.frame)
noncomputable abbrev Cx.fs(X:Cx):List qv:=iA X.outer
def wS(sc:zk)(x:Str):Prop:=sc.names.lookup x=qq .local\/sc.names.lookup x=qq .cell\/sc.names.lookup x=qq .free
def Loc(sc:zk)(x:Str):Prop:=sc.names.lookup x=qq .local\/sc.names.lookup x=qq .cell
def aWd(env:Env)(h:Heap)(m:Str->Option qx)(x:Str)(u:qx):Prop:=
 (env.kindOf x=qq .local/\m x=qq u)\/((env.kindOf x=qq .cell\/env.kindOf x=qq .free)/\∃ c,env.cells.lookup x=qq c/\h.IsCell c (qq u))
structure Cx.Ok(X:Cx):Prop where
 mod:Mod X.K X.mg X.base
 kind:X.env.scope.kind=.function
 glob:X.env.globals=xu
 blt:X.env.builtins=builtinsNs
 above:X.s₀.heap.objs.size<=X.env.locals
 inj:∀ x y c,X.env.cells.lookup x=qq c->X.env.cells.lookup y=qq c->x=y
 has:∀ x,(X.env.kindOf x=qq .cell\/X.env.kindOf x=qq .free)->∃ c,X.env.cells.lookup x=qq c
 cab:∀ x c,X.fn x=true->X.env.cells.lookup x=qq c->X.s₀.heap.objs.size<=c
 hd:X.calm=true->X.A.handled=qz
 frames:X.A.frames=qq X.stack
 stk:X.stack=X.outer\/(X.stack=X.env::X.outer/\X.env.frame=qq X.env.locals)
 exf:∀ b∈X.ex,b≠X.env.locals/\∀ x c,X.env.cells.lookup x=qq c->c≠b
 bs:∀ b o,X.base.get? b=qq o->X.s₀.heap.get? b=qq o/\X.H₀ b=qz
 bsz:X.base.objs.size<=X.s₀.heap.objs.size
 noex:∀ b o,X.base.get? b=qq o->b ∉ X.ex
 exfs:∀ b∈X.ex,b ∉ X.fs
 funs:X.s₀.heap.FunFrames X.base X.outer
 frf:∀ b∈X.fs,X.H₀ b=qz
structure Inv(X:Cx)(aB:List (qv×Obj))(σ:List (Option V))(H:Hp)(s:qj):Prop where
 ok:X.Ok
 os:s.os=X.s₀.os
 bare:AllBare s.gens
 base:Un X.fs X.ex X.H₀ H X.s₀.heap s.heap
 loc:∃ m,s.heap.Ns X.env.locals m/\∀ (i:Nat) (x:Str) (v:V),X.N[i]? = qq x->σ[i]? = qq (qq v)->wS X.env.scope x->∃ u,aZ v u/\aWd X.env s.heap m x u
 cell:∀ x c,X.env.cells.lookup x=qq c->∃ v,s.heap.IsCell c v
 free:H X.env.locals=qz
 freeC:∀ x c,X.env.cells.lookup x=qq c->H c=qz
 pin:∀ p∈X.pn++aB,s.heap.get? p.1=qq p.2/\H p.1=qz/\p.1≠X.env.locals/\p.1 ∉ X.fs/\∀ v,p.2.data≠.cell v
 hok:dL X.prog X.w H s.heap
 len:σ.length=X.N.length
section
variable {X : Cx}{aB : List (qv×Obj)}{σ : List (Option V)}{H H' : Hp}{s : qj}{h' : Heap}
theorem Cx.Ok.nofr(ok:X.Ok){b:qv}{o:Obj}(e:X.base.get? b=qq o):b ∉ X.fs:=λ hb=>by
 have:=(ok.funs.mem hb).1;rw[e] at this;cases this
theorem Inv.bs(I:Inv X aB σ H s):∀ b o,X.base.get? b=qq o->s.heap.get? b=qq o/\H b=qz:=λ b o e =>
 ⟨I.base.keep b o (I.ok.bs b o e).1 (I.ok.bs b o e).2 (I.ok.nofr e) (I.ok.noex b o e),I.base.free b o (I.ok.bs b o e).1 (I.ok.bs b o e).2 (I.ok.noex b o e)⟩
theorem Inv.bk(I:Inv X aB σ H s):∀ b o,X.base.get? b=qq o->s.heap.get? b=qq o:=λ b o e=>(I.bs b o e).1
theorem Inv.mod(I:Inv X aB σ H s):Mod X.K X.mg X.base:=I.ok.mod
theorem Inv.kIn(I:Inv X aB σ H s):X.K.In s.heap:=I.ok.mod.kin.keeps I.bk
theorem Inv.nolimit(I:Inv X aB σ H s):s.heap.NoLimit:=I.ok.mod.nolimit.keeps I.bk
theorem Inv.fr(I:Inv X aB σ H s):∃ m,Fr X.base X.env.locals s.heap m:=
 let ⟨m,hn,_⟩:=I.loc
 ⟨m,hn,I.bk,xAi I.ok.bsz I.ok.above⟩
theorem Inv.lt(I:Inv X aB σ H s):X.env.locals<s.heap.objs.size:=let ⟨_,hn,_⟩:=I.loc;hn.lt
theorem Inv.sz(I:Inv X aB σ H s):X.s₀.heap.objs.size<=s.heap.objs.size:=xAi I.ok.above (yDz I.lt)
theorem Inv.nofs(I:Inv X aB σ H s){a:qv}(h:s.heap.objs.size<=a):a ∉ X.fs:=λ hb=>by
 obtain⟨_,o,ho,_⟩:=I.ok.funs.mem hb;exact absurd (xAc (xAa ho) (xAi I.sz h)) (yBz _)
theorem Inv.cne(I:Inv X aB σ H s):∀ x c,X.env.cells.lookup x=qq c->c≠X.env.locals:=λ x c e z=>by
 obtain⟨v,o,ho,hd⟩:=I.cell x c e;obtain⟨m,⟨o',es,ep,ho',hd',_⟩,_⟩:=I.loc;rw[z,ho'] at ho;cases ho;rw[hd'] at hd;cases hd
theorem Inv.funs(I:Inv X aB σ H s):s.heap.FunFrames X.base X.outer:=by
 have all:∀ (l:List Env),(∀ b∈iA l,b∈X.fs)->X.s₀.heap.FunFrames X.base l->s.heap.FunFrames X.base l:=by
  intro l
  induction l with
  | nil=>intro _ _;trivial
  | cons env r ih =>
    intro hs hl;obtain⟨hk,⟨L,o,hf,hn,ho,hd⟩,hr⟩:=hl;have hL:L∈X.fs:=hs L (by unfold iA;rw[yCy,hf];exact xAd)
    obtain⟨sl,e⟩:=I.base.slot L o ho (I.ok.frf L hL) hL λ z=>I.ok.exfs L z hL
    exact⟨hk,⟨L,_,hf,hn,e,hd⟩,ih (λ b hb=>hs b (by unfold iA;rw[yCy,hf];exact xAg _ hb)) hr⟩
 exact all X.outer (λ _ hb=>hb) I.ok.funs
theorem Inv.stack(I:Inv X aB σ H s):s.heap.FunFrames X.base X.stack:=by
 rcases I.ok.stk with e | ⟨e,hf⟩
 ·rw[e];exact I.funs
 ·rw[e];obtain⟨m,hn,_⟩:=I.loc;refine .cons (by rw[I.ok.kind];decide) hf hn ?_ I.funs
  exact Heap.get?_none_of_le (xAi I.ok.bsz I.ok.above)
theorem Inv.stkSub(I:Inv X aB σ H s):∀ b∈iA X.stack,b∈X.env.locals::X.fs:=λ b hb=>by
 rcases I.ok.stk with e | ⟨e,hf⟩
 ·rw[e] at hb;exact xAg _ hb
 ·rw[e] at hb;unfold iA at hb;rw[yCy,hf] at hb;exact hb
theorem Inv.stkFree(I:Inv X aB σ H s):∀ b∈iA X.stack,H b=qz:=λ b hb=>by
 rcases List.mem_cons.mp (I.stkSub b hb) with e | hb
 ·rw[e];exact I.free
 ·obtain⟨_,o,ho,_⟩:=I.ok.funs.mem hb;exact I.base.free b o ho (I.ok.frf b hb) λ z=>I.ok.exfs b z hb
theorem Inv.step{g':Array GenState}{t':Nat}{d':Drawn}{ch:List qv}(I:Inv X aB σ H s)
 (hch:∀ b∈ch,(b∈X.ex\/X.s₀.heap.objs.size<=b)/\b≠X.env.locals/\(∀ x c,X.env.cells.lookup x=qq c->c≠b)/\∀ p∈X.pn++aB,p.1≠b)
 (keep:∀ b o,b≠X.env.locals->b ∉ X.fs->b ∉ ch->s.heap.get? b=qq o->H b=qz->h'.get? b=qq o)
 (slot:∀ b o,b≠X.env.locals->b∈X.fs->b ∉ ch->s.heap.get? b=qq o->H b=qz->∃ sl,h'.get? b=qq {o with slots:=sl }) (free:∀ b o,b ∉ ch->s.heap.get? b=qq o->H b=qz->H' b=qz)
 (there:∀ b o,b ∉ ch->s.heap.get? b=qq o->∃ o',h'.get? b=qq o')
 (tups:∀ b xs,H b=qq (.tup xs)->H' b=qq (.tup xs)) (frzs:∀ b o u,H b=qq (.frz o u)->H' b=qq (.frz o u)) (tbls:∀ b ps,H b=qq (.tbl ps)->∃ more,H' b=qq (.tbl (ps++more)))
 (ns:∀ m,s.heap.Ns X.env.locals m->h'.Ns X.env.locals m) (hok:dL X.prog X.w H' h') (hg:AllBare g') :
 Inv X aB σ H' {s with heap:=h',gens:=g',drawn:=d',toks:=t' }:=by
 have neL:∀ b o,X.s₀.heap.get? b=qq o->b≠X.env.locals:=λ b o e=>xAk (xAc (xAa e) I.ok.above)
 have neC:∀ b o,X.s₀.heap.get? b=qq o->b ∉ X.ex->b ∉ ch:=λ b o e hx hb=>by
  rcases (hch b hb).1 with z | z
  ·exact hx z
  ·exact absurd (xAc (xAa e) z) (yBz _)
 have cellK:∀ x c,X.env.cells.lookup x=qq c->∀ v,s.heap.IsCell c v->h'.IsCell c v:=λ x c e v aV=>by
  obtain⟨o,ho,hd⟩:=aV;have nch:c ∉ ch:=λ z=>(hch c z).2.2.1 x c e rfl
  by_cases hc:c∈X.fs
  ·obtain⟨sl,q⟩:=slot c o (I.cne x c e) hc nch ho (I.freeC x c e);exact⟨_,q,hd⟩
  ·exact⟨o,keep c o (I.cne x c e) hc nch ho (I.freeC x c e),hd⟩
 refine⟨I.ok,I.os,hg,⟨λ b o e n hb hx=>?_,λ b o e n hb hx=>?_,λ b o e n hx=>?_,λ b o e hx=>?_,λ b xs e=>tups b xs (I.base.tups b xs e),λ b o xs e=>frzs b o xs (I.base.frzs b o xs e),λ b ps e=>?_⟩,?_,λ x c e=>?_,?_,λ x c e=>?_,λ p hp=>?_,hok,I.len⟩
 ·exact keep b o (neL b o e) hb (neC b o e hx) (I.base.keep b o e n hb hx) (I.base.free b o e n hx)
 ·obtain⟨sl,e1⟩:=I.base.slot b o e n hb hx;obtain⟨sl',e2⟩:=slot b _ (neL b o e) hb (neC b o e hx) e1 (I.base.free b o e n hx);exact⟨sl',e2⟩
 ·obtain⟨o',e1⟩:=I.base.there b o e hx;exact free b o' (neC b o e hx) e1 (I.base.free b o e n hx)
 ·obtain⟨o',e1⟩:=I.base.there b o e hx;exact there b o' (neC b o e hx) e1
 ·obtain⟨m1,e1⟩:=I.base.tbls b ps e;obtain⟨m2,e2⟩:=tbls b _ e1;exact⟨m1++m2,by rw[e2,Array.append_assoc]⟩
 ·obtain⟨m,hn,hl⟩:=I.loc;refine⟨m,ns m hn,λ i x v e1 e2 e3=>?_⟩
  obtain⟨u,r,l⟩:=hl i x v e1 e2 e3;refine⟨u,r,?_⟩;rcases l with l | ⟨k,c,e,z⟩
  ·exact .inl l
  ·exact .inr ⟨k,c,e,cellK x c e _ z⟩
 ·obtain⟨v,z⟩:=I.cell x c e;exact⟨v,cellK x c e v z⟩
 ·obtain⟨m,⟨o,_,_,ho,_⟩,_⟩:=I.loc;exact free _ o (λ z=>(hch _ z).2.1 rfl) ho I.free
 ·obtain⟨v,o,ho,hd⟩:=I.cell x c e;exact free c o (λ z=>(hch c z).2.2.1 x c e rfl) ho (I.freeC x c e)
 ·obtain⟨e,n,ne,nf,d⟩:=I.pin p hp;have nch:p.1 ∉ ch:=λ z=>(hch p.1 z).2.2.2 p hp rfl
  exact⟨keep p.1 p.2 ne nf nch e n,free p.1 p.2 nch e n,ne,nf,d⟩
theorem Inv.un{t':Nat}(I:Inv X aB σ H s)(u:Un X.fs [] H H' s.heap h')(hok:dL X.prog X.w H' h'):Inv X aB σ H' {s with heap:=h',toks:=t' }:=by
 obtain⟨m,⟨o,es,ep,ho,r⟩,_⟩:=id I.loc;obtain⟨sl,hL⟩:=u.any ho I.free (by simp)
 exact I.step (g':=s.gens) (d':=s.drawn) (ch:=[]) (λ _ z=>nomatch z) (λ b o _ hb _ e n=>u.keep b o e n hb (by simp)) (λ b o _ hb _ e n=>u.slot b o e n hb (by simp)) (λ b o _ e n=>u.free b o e n (by simp)) (λ b o _ e=>u.there b o e (by simp)) u.tups u.frzs u.tbls (λ m' hm=>by
  obtain⟨o',es',ep',ho',r'⟩:=hm;rw[ho] at ho';cases ho';exact⟨_,es',ep',hL,r'⟩) hok I.bare
theorem Inv.call{g':Array GenState}{t':Nat}{d':Drawn}{ch:List qv}(I:Inv X aB σ H s)(u:Un (iA X.stack) ch H H' s.heap h')(hok:dL X.prog X.w H' h')(hg:AllBare g')
 (hch:∀ b∈ch,(b∈X.ex\/X.s₀.heap.objs.size<=b)/\b≠X.env.locals/\(∀ x c,X.env.cells.lookup x=qq c->c≠b)/\∀ p∈X.pn++aB,p.1≠b) :
 Inv X aB σ H' {s with heap:=h',gens:=g',drawn:=d',toks:=t' }:=by
 obtain⟨m,⟨o,es,ep,ho,r⟩,_⟩:=id I.loc;obtain⟨sl,hL⟩:=u.any ho I.free λ z=>(hch _ z).2.1 rfl
 exact I.step (ch:=ch) hch (λ b o hL hb hc e n=>u.keep b o e n (λ z=>(List.mem_cons.mp (I.stkSub b z)).elim hL hb) hc) (λ b o _ _ hc e n=>u.any e n hc) (λ b o hc e n=>u.free b o e n hc) (λ b o hc e=>u.there b o e hc) u.tups u.frzs u.tbls (λ m' hm=>by
  obtain⟨o',es',ep',ho',r'⟩:=hm;rw[ho] at ho';cases ho';exact⟨_,es',ep',hL,r'⟩) hok hg
theorem Inv.turned{t':Nat}{it:qv}(I:Inv X aB σ H s)(k:∀ b o,b≠it->s.heap.get? b=qq o->h'.get? b=qq o)(hn:H it=qz)(hL:it≠X.env.locals)
 (h1:it∈X.ex\/X.s₀.heap.objs.size<=it) (h2:∀ x c,X.env.cells.lookup x=qq c->c≠it) (h3:∀ p∈X.pn++aB,p.1≠it):Inv X aB σ H {s with heap:=h',toks:=t' }:=by
 have nit:∀ b u,H b=qq u->b≠it:=λ b u e z=>by rw[z,hn] at e;cases e
 refine I.step (g':=s.gens) (d':=s.drawn) (ch:=[it]) (λ b hb=>?_) (λ b o _ _ hc e _=>k b o (λ z=>hc (by simp[z])) e) (λ b o _ _ hc e _=>⟨o.slots,k b o (λ z=>hc (by simp[z])) e⟩) (λ _ _ _ _ n=>n)
  (λ b o hc e=>⟨o,k b o (λ z=>hc (by simp[z])) e⟩) (λ _ _ e=>e) (λ _ _ _ e=>e) (λ b ps e=>⟨#[],by rw[e];simp⟩) (λ m hm=>?_) (λ b u e=>?_) I.bare
 ·have e:b=it:=by simpa using hb
  subst e;exact⟨h1,hL,h2,h3⟩
 ·obtain⟨o,es,ep,ho,r⟩:=hm;exact⟨o,es,ep,k _ o (Ne.symm hL) ho,r⟩
 ·refine(I.hok b u e).stay (λ c v hc q=>k c v ?_ q) (λ _ q=>q) λ _ _ q=>q
  rcases hc with z | z
  ·rw[z];exact nit b u e
  ·exact nit c _ z
theorem Inv.tok(I:Inv X aB σ H s)(t:Nat):Inv X aB σ H {s with toks:=t }:=I.un (h':=s.heap) (t':=t) Un.refl I.hok
theorem Inv.kept{t':Nat}(I:Inv X aB σ H s)(k:∀ b u,s.heap.get? b=qq u->h'.get? b=qq u):Inv X aB σ H {s with heap:=h',toks:=t' }:=I.un (Un.kept k) (I.hok.kept k)
theorem Inv.laid{a:qv}{o:HO}{t':Nat}(I:Inv X aB σ H s)(k:∀ b u,s.heap.get? b=qq u->h'.get? b=qq u)(hp:s.heap.objs.size<=a)(new:hJ X.prog X.w (bE H a o) h' a o) :
 Inv X aB σ (bE H a o) {s with heap:=h',toks:=t' }:=I.un (Un.laid k hp (I.hok.fresh hp)) (I.hok.laid k hp new)
theorem Inv.write{x e:qv}{o:HO}{t':Nat}(I:Inv X aB σ H s)(mu:Mut (H x))(he:e=x\/H e=qq (.own x))(k:∀ b u,b≠e->s.heap.get? b=qq u->h'.get? b=qq u)(heo:∃ u,h'.get? e=qq u)
 (new:hJ X.prog X.w (bE H x o) h' x o):Inv X aB σ (bE H x o) {s with heap:=h',toks:=t' }:=I.un (Un.write mu he k heo) (I.hok.write mu he k heo new)
theorem Inv.weak{σ':List (Option V)}(I:Inv X aB σ H s)(hl:σ'.length=σ.length)(w:∀ (i:Nat) v,σ'[i]? = qq (qq v)->σ[i]? = qq (qq v)):Inv X aB σ' H s:=
 ⟨I.ok,I.os,I.bare,I.base,let ⟨m,hn,hl'⟩:=I.loc;⟨m,hn,λ i x v e1 e2 e3=>hl' i x v e1 (w i v e2) e3⟩,I.cell,I.free,I.freeC,I.pin,I.hok,hl.trans I.len⟩
theorem Inv.pins_of{pins':List (qv×Obj)}(I:Inv X aB σ H s)(h:∀ p∈pins',s.heap.get? p.1=qq p.2/\H p.1=qz/\p.1≠X.env.locals/\p.1 ∉ X.fs/\∀ v,p.2.data≠.cell v):Inv X pins' σ H s:=
 ⟨I.ok,I.os,I.bare,I.base,I.loc,I.cell,I.free,I.freeC,λ p hp=>(List.mem_append.mp hp).elim (λ z=>I.pin p (List.mem_append_left _ z)) (h p),I.hok,I.len⟩
theorem aGe{N:List Str}(hN:N.Nodup){i j:Nat}{x:Str}(a:N[i]? = qq x)(b:N[j]? = qq x):i=j:=by
 obtain⟨h1,e1⟩:=gIm a;obtain⟨h2,e2⟩:=gIm b;exact(yGx hN).mp (e1.trans e2.symm)
theorem aMI{M:Model}{A:zy}{E:qx->qj->Prop}{i:Nat}{x:Str}{v:V}{u:qx}{Q:Unit->qj->Prop}(I:Inv X aB σ H s)(hN:X.N.Nodup)(hi:X.N[i]? = qq x)(hx:Loc X.env.scope x)(r:aZ v u)
 (h:∀ s',Inv X aB (σ.set i (qq v)) H s'->(∃ a,yEa a s.heap s'.heap/\(a=X.env.locals\/X.env.cells.lookup x=qq a))->Q () s') (hf:X.fn x=true\/X.env.scope.names.lookup x=qq .local:=by first | exact .inl rfl | exact .inr rfl | assumption):qy M A (storeName X.env x u) Q E s:=by
 obtain⟨m,hn,hl⟩:=id I.loc;have hcls:(X.env.scope.kind==.class||(X.env.scope.kind==.module&&X.env.locals != X.env.globals))=false:=by rw[I.ok.kind];rfl
 have hiσ:i<σ.length:=by rw[I.len];exact(gIm hi).1
 have cne:=I.cne;have tracked:∀ {a:qv}{h':Heap},(∃ o,s.heap.get? a=qq o/\H a=qz)->yEa a s.heap h'->dL X.prog X.w H h':=λ {a h'} ha hs b ob e=>by
  obtain⟨_,_,hfree⟩:=ha;refine(I.hok b ob e).stay (λ c w' hc q=>(hs.2 c ?_).trans q) (λ _ q=>q) λ _ _ q=>q
  rintro rfl;rcases hc with rfl | hc
  ·rw[hfree] at e;cases e
  ·rw[hfree] at hc;cases hc
 rcases hx with hk | hk
 ·refine wpAny_storeName_local hk hn (λ h' hn' hs=>?_) hcls
  obtain⟨oL,_,_,hoL,_⟩:=id hn;refine h _ ⟨I.ok,I.os,I.bare,⟨λ b o e n hb hx=>?_,λ b o e n hb hx=>?_,I.base.free,λ b o e hx=>?_,I.base.tups,I.base.frzs,I.base.tbls⟩,⟨_,hn',λ j y v' e1 e2 e3=>?_⟩,λ y c e=>?_,I.free,I.freeC,λ p hp=>?_,tracked ⟨oL,hoL,I.free⟩ hs,by simpa using I.len⟩ ⟨_,hs,.inl rfl⟩
  ·exact(hs.2 b (xAk (xAc (xAa e) I.ok.above))).trans (I.base.keep b o e n hb hx)
  ·obtain⟨sl,e1⟩:=I.base.slot b o e n hb hx;exact⟨sl,(hs.2 b (xAk (xAc (xAa e) I.ok.above))).trans e1⟩
  ·obtain⟨o',e1⟩:=I.base.there b o e hx;exact⟨o',(hs.2 b (xAk (xAc (xAa e) I.ok.above))).trans e1⟩
  ·by_cases hj:j=i
   ·subst hj;rw[hi] at e1;cases e1;rw[yAx hiσ] at e2;cases e2;exact⟨u,r,.inl ⟨hk,by simp⟩⟩
   ·rw[yAy (Ne.symm hj)] at e2;obtain⟨u',r',q⟩:=hl j y v' e1 e2 e3;refine⟨u',r',?_⟩;rcases q with ⟨k,e⟩ | ⟨k,c,e,z⟩
    ·refine .inl ⟨k,?_⟩;have:y≠x:=λ e=>hj (aGe hN e1 (e▸hi))
     simp[this,e]
    ·exact .inr ⟨k,c,e,z.sameBut hs (cne y c e)⟩
  ·obtain⟨w',z⟩:=I.cell y c e;exact⟨w',z.sameBut hs (cne y c e)⟩
  ·obtain⟨e,n,ne,nf,d⟩:=I.pin p hp;exact⟨(hs.2 p.1 ne).trans e,n,ne,nf,d⟩
 ·have hfn:X.fn x=true:=by
   rcases hf with z | z
   ·exact z
   ·rw[z] at hk;cases hk
  obtain⟨c,hc⟩:=I.ok.has x (.inl hk);obtain⟨w',z⟩:=I.cell x c hc;refine wpAny_storeName_cell I.ok.kind hk hc z (λ h' hc' hs=>?_)
  obtain⟨oc,hoc,hocd⟩:=id z;refine h {s with heap:=h' } ⟨I.ok,I.os,I.bare,⟨λ b o e n hb hx=>?_,λ b o e n hb hx=>?_,I.base.free,λ b o e hx=>?_,I.base.tups,I.base.frzs,I.base.tbls⟩,⟨m,hn.sameBut hs (Ne.symm (cne x c hc)),λ j y v' e1 e2 e3=>?_⟩,λ y c' e=>?_,I.free,I.freeC,λ p hp=>?_,tracked ⟨oc,hoc,I.freeC x c hc⟩ hs,by simpa using I.len⟩ ⟨c,hs,.inr hc⟩
  ·exact(hs.2 b (xAk (xAc (xAa e) (I.ok.cab x c hfn hc)))).trans (I.base.keep b o e n hb hx)
  ·obtain⟨sl,e1⟩:=I.base.slot b o e n hb hx;exact⟨sl,(hs.2 b (xAk (xAc (xAa e) (I.ok.cab x c hfn hc)))).trans e1⟩
  ·obtain⟨o',e1⟩:=I.base.there b o e hx;exact⟨o',(hs.2 b (xAk (xAc (xAa e) (I.ok.cab x c hfn hc)))).trans e1⟩
  ·by_cases hj:j=i
   ·subst hj;rw[hi] at e1;cases e1;rw[yAx hiσ] at e2;cases e2;exact⟨u,r,.inr ⟨.inl hk,c,hc,hc'⟩⟩
   ·rw[yAy (Ne.symm hj)] at e2;obtain⟨u',r',q⟩:=hl j y v' e1 e2 e3;refine⟨u',r',?_⟩;rcases q with q | ⟨k,c',e,z'⟩
    ·exact .inl q
    ·refine .inr ⟨k,c',e,z'.sameBut hs ?_⟩;rintro rfl;exact hj (aGe hN e1 (I.ok.inj _ _ _ e hc▸hi))
  ·by_cases hcc:c'=c
   ·subst hcc;exact⟨_,hc'⟩
   ·obtain⟨w2,z2⟩:=I.cell y c' e;exact⟨w2,z2.sameBut hs hcc⟩
  ·obtain⟨e,n,ne,nf,d⟩:=I.pin p hp;refine⟨(hs.2 p.1 ?_).trans e,n,ne,nf,d⟩;intro q;rw[q,hoc] at e;have q':oc=p.2:=Option.some.inj e;exact d w' (by rw[<- q'];exact hocd)
theorem aGn{M:Model}{A:zy}{E:qx->qj->Prop}{i:Nat}{x:Str}{v:V}{u:qx}{Q:Unit->qj->Prop}(I:Inv X aB σ H s)(hN:X.N.Nodup)(hi:X.N[i]? = qq x)(hx:Loc X.env.scope x)(r:aZ v u)
 (h:∀ s',Inv X aB (σ.set i (qq v)) H s'->Q () s') (hf:X.fn x=true\/X.env.scope.names.lookup x=qq .local:=by first | exact .inl rfl | exact .inr rfl | assumption):qy M A (storeName X.env x u) Q E s:=
 aMI I hN hi hx r (λ s' I' _=>h s' I') hf
theorem Inv.call'{s':qj}{ch:List qv}(I:Inv X aB σ H s)(ho:s'.os=s.os)(u:Un (iA X.stack) ch H H' s.heap s'.heap)(hok:dL X.prog X.w H' s'.heap)(hg:AllBare s'.gens)
 (hch:∀ b∈ch,(b∈X.ex\/X.s₀.heap.objs.size<=b)/\b≠X.env.locals/\(∀ x c,X.env.cells.lookup x=qq c->c≠b)/\∀ p∈X.pn++aB,p.1≠b):Inv X aB σ H' s':=by
 obtain⟨h',g',d',t',o'⟩:=s';have e:o'=s.os:=ho;subst e;exact I.call (g':=g') (t':=t') (d':=d') u hok hg hch
end
noncomputable abbrev XK:=qx->Option qv->Hp->Prop
noncomputable abbrev St:=List (Option V)
noncomputable abbrev VK:=V->Hp->Prop
noncomputable abbrev TE:=St->Hp->VK->Prop
noncomputable abbrev TT:=St->Hp->(Bool->Hp->Prop)->Prop
noncomputable abbrev TA:=St->Hp->(List V->Hp->Prop)->Prop
structure Ends where
 nx:St->Hp->Prop
 rt:VK
 bk:St->Hp->Prop:=λ _ _=>False
 ct:St->Hp->Prop:=λ _ _=>False
noncomputable abbrev TS:=Ends->St->Hp->Prop
def EP(X:Cx)(aB:List (qv×Obj))(σ:St)(Q:VK)(u:qx)(s':qj):Prop:=∃ v H',Inv X aB σ H' s'/\aZ v u/\Q v H'
def TP(X:Cx)(aB:List (qv×Obj))(σ:St)(Q:Bool->Hp->Prop)(b:Bool)(s':qj):Prop:=∃ H',Inv X aB σ H' s'/\Q b H'
def AP(X:Cx)(aB:List (qv×Obj))(σ:St)(Q:List V->Hp->Prop)(us:List qx)(s':qj):Prop:=∃ vs H',Inv X aB σ H' s'/\aU vs us/\Q vs H'
def SP(X:Cx)(aB:List (qv×Obj))(D:Ends)(f:Flow)(s':qj):Prop:=
 match f with
 | .next=>∃ σ' H',Inv X aB σ' H' s'/\D.nx σ' H'
 | .brk=>∃ σ' H',Inv X aB σ' H' s'/\D.bk σ' H'
 | .cont=>∃ σ' H',Inv X aB σ' H' s'/\D.ct σ' H'
 | .ret u=>∃ v σ' H',Inv X aB σ' H' s'/\aZ v u/\D.rt v H'
def PE(X:Cx)(e:qw)(t:TE):Prop:=
 ∀ (aB:List (qv×Obj)) (s:qj) (σ:St) (H:Hp) (Q:VK),Inv X aB σ H s->t σ H Q->qy (model X.prog X.w) X.A (eval e X.env) (EP X aB σ Q) X.xe s
def PT(X:Cx)(e:qw)(t:TT):Prop:=
 ∀ (aB:List (qv×Obj)) (s:qj) (σ:St) (H:Hp) (Q:Bool->Hp->Prop),Inv X aB σ H s->t σ H Q->qy (model X.prog X.w) X.A (isTrue e X.env (eval e X.env)) (TP X aB σ Q) X.xe s
def PW(X:Cx)(e:qw)(t:TT):Prop:=
 ∀ (fG:Sem qx) (aB:List (qv×Obj)) (s:qj) (σ:St) (H:Hp) (Q:Bool->Hp->Prop),Inv X aB σ H s->t σ H Q->qy (model X.prog X.w) X.A (isTrue e X.env fG) (TP X aB σ Q) X.xe s
theorem PW.pt{X:Cx}{e:qw}{t:TT}(h:PW X e t):PT X e t:=h _
def PA(X:Cx)(es:List qw)(t:TA):Prop:=
 ∀ (pos:Pos) (aB:List (qv×Obj)) (s:qj) (σ:St) (H:Hp) (Q:List V->Hp->Prop),Inv X aB σ H s->t σ H Q->qy (model X.prog X.w) X.A (spliced (backTo pos (zq es X.env))) (AP X aB σ Q) X.xe s
def PS(X:Cx)(st:jx)(t:TS):Prop:=
 ∀ (aB:List (qv×Obj)) (s:qj) (σ:St) (H:Hp) (D:Ends),Inv X aB σ H s->t D σ H->qy (model X.prog X.w) X.A (exec st X.env) (SP X aB D) X.xe s
def dR(X:Cx)(st:List jx)(t:TS):Prop:=
 ∀ (aB:List (qv×Obj)) (s:qj) (σ:St) (H:Hp) (D:Ends),Inv X aB σ H s->t D σ H->qy (model X.prog X.w) X.A (execs st X.env) (SP X aB D) X.xe s
theorem bC{α:Type}{t:Sem α}{Q Q':α->qj->Prop}{M:Model}{A:zy}{E:qx->qj->Prop}{s:qj}(h:qy M A t Q E s)(hQ:∀ a s,Q a s->Q' a s):qy M A t Q' E s:=wpAny_mono h hQ λ _ _ x=>x
end L2
namespace L2
open PySem PySem.Spec PyProof.Rows
section
variable {X : Cx}
theorem bin{a b:qw}{ta tb:TE}(ha:PE X a ta)(hb:PE X b tb){aB:List (qv×Obj)}{s:qj}{σ:St}{H:Hp}{R:V->V->Hp->Prop}(I:Inv X aB σ H s)(h:ta σ H λ x H1=>tb σ H1 λ y H2=>R x y H2)
 {α:Type}{Q:α->qj->Prop}{f:qx->qx->Sem α}
 (hf:∀ v u s2 x y H2,Inv X aB σ H2 s2->aZ x v->aZ y u->R x y H2->qy (model X.prog X.w) X.A (f v u) Q X.xe s2) :
 qy (model X.prog X.w) X.A (eval a X.env) (λ v s₁=>qy (model X.prog X.w) X.A (eval b X.env) (λ u s₂=>qy (model X.prog X.w) X.A (f v u) Q X.xe s₂) X.xe s₁) X.xe s:=by
 refine bC (ha aB s σ H _ I h) λ v s1 hPq0=>?_
 obtain⟨x,H1,I1,r1,q1⟩:=hPq0;refine bC (hb aB s1 σ H1 _ I1 q1) λ u s2 hPq1=>?_
 obtain⟨y,H2,I2,r2,q2⟩:=hPq1;exact hf v u s2 x y H2 I2 r1 r2 q2
noncomputable def aVy(i:Nat):TE:=λ σ H Q=>∃ v,σ[i]? = qq (qq v)/\Q v H
noncomputable def tC(v:V):TE:=λ _ H Q=>Q v H
theorem aRM{i:Nat}{x:Str}{pos:Pos}(hN:X.N[i]? = qq x)(hv:wS X.env.scope x)(hd:(x==("__debug__" : Str))=false:=by decide)(hcd:(x==("__classdict__" : Str))=false:=by decide):PE X (.Name x pos) (aVy i):=by
 intro aB s σ H Q I h;obtain⟨v,e,h⟩:=h;obtain⟨m,hn,hl⟩:=I.loc;obtain⟨u,r,l⟩:=hl i x v hN e hv;have bJ:EP X aB σ Q u s:=⟨v,H,I,r,h⟩;rcases l with ⟨hk,hm⟩ | ⟨hk,c,hc,hcell⟩
 ·exact wpAny_Name (wpAny_loadName_local I.ok.kind hk hn hm bJ) hd
 ·rcases hk with hk | hk
  ·exact wpAny_Name (wpAny_loadName_cell I.ok.kind hk hc hcell bJ) hd
  ·exact wpAny_Name (wpAny_loadName_free I.ok.kind hk hc hcell bJ hcd) hd
theorem aSj{i j pos}:PE X (.Constant (.int i) j pos) (tC (.int i)):=λ _ _ _ H _ I h=>wpAny_Constant_int ⟨.int i,H,I.tok _,⟨_,rfl⟩,h⟩
theorem aTq{b j pos}:PE X (.Constant (.bool b) j pos) (tC (.bl b)):=λ _ _ _ H _ I h=>Constant_bool ⟨.bl b,H,I,rfl,h⟩
theorem aQZ{j pos}:PE X (.Constant .none j pos) (tC .non):=λ _ _ _ H _ I h=>Constant_none ⟨.non,H,I,rfl,h⟩
theorem aRH{x j pos}:PE X (.Constant (.str x) j pos) (tC (.str x)):=λ _ _ _ H _ I h=>Calls.Constant_str ⟨.str x,H,I.tok _,⟨_,rfl⟩,h⟩
def Gl(X:Cx)(x:Str):Prop:=X.env.kindOf x=qq .globalImplicit
theorem aCL{E:qx->qj->Prop}{aB:List (qv×Obj)}{s:qj}{σ:St}{H:Hp}{x:Str}{u:qx}{pos:Pos}{Q:qx->qj->Prop}(I:Inv X aB σ H s)(hg:Gl X x)(hm:X.mg x=qq u)(h:Q u s)
 (hd:(x==("__debug__" : Str))=false:=by decide):qy (model X.prog X.w) X.A (eval (.Name x pos) X.env) Q E s:=
 Calls.Name_function_global I.ok.kind hg (Calls.loadGlobal_global (by rw[I.ok.glob];exact I.mod.glob.keeps I.bk) hm h) hd
theorem lA{E:qx->qj->Prop}{aB:List (qv×Obj)}{s:qj}{σ:St}{H:Hp}{x:Str}{u:qx}{pos:Pos}{Q:qx->qj->Prop}(I:Inv X aB σ H s)(hg:Gl X x)(hm:X.mg x=qz)(hv:jq x=qq u)(h:Q u s)
 (hn:x ≠ "__name__":=by decide) (hd:(x==("__debug__" : Str))=false:=by decide):qy (model X.prog X.w) X.A (eval (.Name x pos) X.env) Q E s:=by
 obtain⟨mb,h1,h2⟩:=I.mod.blt;exact Calls.Name_function_global I.ok.kind hg (Calls.loadGlobal_builtin (by rw[I.ok.glob];exact I.mod.glob.keeps I.bk) hm (by rw[I.ok.blt];exact h1.keeps I.bk) ((h2 x hn).trans hv) h) hd
theorem aHh{x:Str}{v:V}{u:qx}{pos:Pos}(hg:Gl X x)(hm:X.mg x=qq u)(r:aZ v u)(hd:(x==("__debug__" : Str))=false:=by decide):PE X (.Name x pos) (tC v):=
 λ _ _ _ H _ I h=>aCL I hg hm ⟨v,H,I,r,h⟩ hd
theorem aPE{x:Str}{v:V}{u:qx}{pos:Pos}(hg:Gl X x)(hm:X.mg x=qz)(hv:jq x=qq u)(r:aZ v u)(hn:x ≠ "__name__":=by decide)(hd:(x==("__debug__" : Str))=false:=by decide):PE X (.Name x pos) (tC v):=
 λ _ _ _ H _ I h=>lA I hg hm hv ⟨v,H,I,r,h⟩ hn hd
variable {a b : qw}{ta tb : TE}{pos : Pos}
variable {tA tB' : TT}{cT : List qw}
noncomputable def aJR(t u:TT):TT:=λ σ H Q=>t σ H λ c H1=>if c=true then u σ H1 Q else Q false H1
noncomputable def tOr(t u:TT):TT:=λ σ H Q=>t σ H λ c H1=>if c=true then Q true H1 else u σ H1 Q
noncomputable def aVe(t:TT):TT:=λ σ H Q=>t σ H λ c H1=>Q (!c) H1
theorem aOe(ha:PT X a tA):PW X (.BoolOp .And [a] pos) tA:=by
 intro wh aB s σ H Q I h;refine isTrue_and (bC (ha aB s σ H Q I h) λ c s1 e=>?_)
 cases c with
 | true=>exact isTrue_and_nil e
 | false=>exact e
theorem aRw(ha:PT X a tA):PW X (.BoolOp .Or [a] pos) tA:=by
 intro wh aB s σ H Q I h;refine isTrue_or (bC (ha aB s σ H Q I h) λ c s1 e=>?_)
 cases c with
 | false=>exact isTrue_or_nil e
 | true=>exact e
theorem aIv(ha:PT X a tA)(hb:PW X (.BoolOp .And (b::cT) pos) tB'):PW X (.BoolOp .And (a::b::cT) pos) (aJR tA tB'):=by
 intro wh aB s σ H Q I h;refine isTrue_and (bC (ha aB s σ H _ I h) λ c s1 hPq2=>?_)
 obtain⟨H1,I1,q1⟩:=hPq2;cases c with
 | true=>exact hb wh aB s1 σ H1 Q I1 q1
 | false=>exact⟨H1,I1,q1⟩
theorem aI8(ha:PT X a tA)(hb:PW X (.BoolOp .Or (b::cT) pos) tB'):PW X (.BoolOp .Or (a::b::cT) pos) (tOr tA tB'):=by
 intro wh aB s σ H Q I h;refine isTrue_or (bC (ha aB s σ H _ I h) λ c s1 hPq3=>?_)
 obtain⟨H1,I1,q1⟩:=hPq3;cases c with
 | true=>exact⟨H1,I1,q1⟩
 | false=>exact hb wh aB s1 σ H1 Q I1 q1
theorem aQi(ha:PT X a tA):PT X (.UnaryOp .Not a pos) (aVe tA):=by
 intro aB s σ H Q I h;exact isTrue_not (ha aB s σ H (λ c H1=>Q (!c) H1) I h)
noncomputable def aJm(ta tb:TE):TE:=λ σ H Q=>ta σ H λ x H1=>∃ c,x=.bl c/\if c=true then tb σ H1 Q else Q (.bl false) H1
noncomputable def aJ8(ta tb:TE):TE:=λ σ H Q=>ta σ H λ x H1=>∃ c,x=.bl c/\if c=true then Q (.bl true) H1 else tb σ H1 Q
noncomputable def aU0(ta:TE):TE:=λ σ H Q=>ta σ H λ x H1=>∃ c,x=.bl c/\Q (.bl (!c)) H1
theorem aIu{op}{t:TE}(h:PE X a t):PE X (.BoolOp op [a] pos) t:=λ aB s σ H Q I hw=>BoolOp_one (h aB s σ H Q I hw)
theorem aIH(ha:PE X a ta)(hb:PE X (.BoolOp .And (b::cT) pos) tb):PE X (.BoolOp .And (a::b::cT) pos) (aJm ta tb):=by
 intro aB s σ H Q I h;refine BoolOp_and (bC (ha aB s σ H _ I h) λ v s1 hPq4=>?_)
 obtain⟨x,H1,I1,r1,q1⟩:=hPq4;obtain⟨c,rfl,q1⟩:=q1;cases r1;refine jw ?_;cases c with
 | true=>exact hb aB s1 σ H1 Q I1 q1
 | false=>exact⟨.bl false,H1,I1,rfl,q1⟩
theorem aJB(ha:PE X a ta)(hb:PE X (.BoolOp .Or (b::cT) pos) tb):PE X (.BoolOp .Or (a::b::cT) pos) (aJ8 ta tb):=by
 intro aB s σ H Q I h;refine BoolOp_or (bC (ha aB s σ H _ I h) λ v s1 hPq5=>?_)
 obtain⟨x,H1,I1,r1,q1⟩:=hPq5;obtain⟨c,rfl,q1⟩:=q1;cases r1;refine jw ?_;cases c with
 | false=>exact hb aB s1 σ H1 Q I1 q1
 | true=>exact⟨.bl true,H1,I1,rfl,q1⟩
theorem aRc(ha:PE X a ta):PE X (.UnaryOp .Not a pos) (aU0 ta):=by
 intro aB s σ H Q I h;refine UnaryOp_ (bC (ha aB s σ H _ I h) λ v s1 hPq6=>?_)
 obtain⟨x,H1,I1,r1,q1⟩:=hPq6;obtain⟨c,rfl,q1⟩:=q1;cases r1;exact not_of (jw ⟨.bl (!c),H1,I1,rfl,q1⟩)
noncomputable def tIf(t:TT)(ta tb:TE):TE:=λ σ H Q=>t σ H λ c H1=>if c=true then ta σ H1 Q else tb σ H1 Q
theorem aNC{c:qw}(hc:PT X c tA)(ha:PE X a ta)(hb:PE X b tb):PE X (.IfExp c a b pos) (tIf tA ta tb):=by
 intro aB s σ H Q I h;refine wpAny_IfExp (bC (hc aB s σ H _ I h) λ d s1 hPq7=>?_)
 obtain⟨H1,I1,q1⟩:=hPq7;cases d with
 | true=>exact ha aB s1 σ H1 Q I1 q1
 | false=>exact hb aB s1 σ H1 Q I1 q1
end
end L2
namespace L2
open PySem PySem.Spec PyProof.Rows
def bV(K:FrG)(H:Hp)(a:qv)(xs:List V):Prop:=
 Rd H a (.lst xs) \/
  ∃ (o:Obj) (aF:Array qx) (n:Nat),K.lookup a=qq o/\o.cls=.type "list" /\ o.dict=qz/\o.data=.seq aF n/\aF.size<=qk/\aU xs aF.toList
def cD(K:FrG)(H:Hp)(a:qv)(xs:List V):Prop:=
 Rd H a (.tup xs) \/
  ∃ (o:Obj) (aF:Array qx) (n:Nat),K.lookup a=qq o/\o.cls=.type "tuple" /\ o.data=.seq aF n/\aF.size<=qk/\aU xs aF.toList
noncomputable def aV1:qx->Option V
 | .none=>qq .non
 | .bool b=>qq (.bl b)
 | .int i _=>qq (.int i)
 | .str x _=>qq (.str x)
 | .bytes b _=>qq (.byt b)
 | .float b _=>qq (.flt b)
 | .ref a=>qq (.ref a)
 | .type n=>qq (.ty n)
 | _=>qz
theorem aZ.abs{x:V}{u:qx}(r:aZ x u):aV1 u=qq x:=by
 cases x with
 | non=>cases r;rfl
 | bl _=>cases r;rfl
 | int _=>obtain⟨t,rfl⟩:=r;rfl
 | str _=>obtain⟨t,rfl⟩:=r;rfl
 | byt _=>obtain⟨t,rfl⟩:=r;rfl
 | flt _=>obtain⟨t,rfl⟩:=r;rfl
 | ref _=>cases r;rfl
 | ty _=>cases r;rfl
theorem aZ.inj{x y:V}{u:qx}(r:aZ x u)(q:aZ y u):x=y:=Option.some.inj (r.abs.symm.trans q.abs)
theorem aU.inj:∀ {xs ys:List V}{us:List qx},aU xs us->aU ys us->xs=ys
 | _,_,_,.nil,.nil=>rfl
 | _,_,_,.cons r t,.cons r' t'=>by rw[r.inj r',aU.inj t t']
section
variable {X : Cx}{aB : List (qv×Obj)}{σ : St}{H : Hp}{s : qj}{a : qv}{xs ys : List V}
theorem bV.of{K:FrG}(h:H a=qq (.lst xs)):bV K H a xs:=.inl (.inl h)
theorem cD.of{K:FrG}(h:H a=qq (.tup xs)):cD K H a xs:=.inl (.inl h)
theorem Inv.list(I:Inv X aB σ H s)(h:bV X.K H a xs):∃ aF:List qx,aU xs aF/\PlainL s.heap a aF.toArray/\xs.length<=qk:=by
 rcases h with h | ⟨o,aF,n,hk,hc,hd,hs,hz,r⟩
 ·obtain⟨z,aF,n,r,e⟩:=h.ok I.hok;exact⟨aF,r,⟨_,n,e,rfl,rfl,rfl⟩,z⟩
 ·refine⟨aF.toList,r,⟨o,n,I.kIn a o hk,hc,hd,by simpa using hs⟩,?_⟩
  have e:=r.length;simp only[yDq] at e;omega
theorem Inv.tuple(I:Inv X aB σ H s)(h:cD X.K H a xs):∃ aF:List qx,aU xs aF/\IsTup s.heap a aF.toArray/\xs.length<=qk:=by
 rcases h with h | ⟨o,aF,n,hk,hc,hs,hz,r⟩
 ·obtain⟨z,aF,r,p⟩:=h.ok I.hok;exact⟨aF,r,p,z⟩
 ·refine⟨aF.toList,r,⟨o,I.kIn a o hk,hc,n,by simpa using hs⟩,?_⟩
  have e:=r.length;simp only[yDq] at e;omega
theorem Inv.list_inj(I:Inv X aB σ H s)(h:bV X.K H a xs)(h':bV X.K H a ys):xs=ys:=by
 obtain⟨aF,r,⟨o,n,e,_,_,d⟩,_⟩:=I.list h;obtain⟨its',r',⟨o',n',e',_,_,d'⟩,_⟩:=I.list h';rw[e] at e';cases e';rw[d] at d';injection d' with d1 _
 have:aF=its':=by simpa using congrArg Array.toList d1
 subst this;exact r.inj r'
theorem Inv.tuple_inj(I:Inv X aB σ H s)(h:cD X.K H a xs)(h':cD X.K H a ys):xs=ys:=by
 obtain⟨aF,r,⟨o,e,_,n,d⟩,_⟩:=I.tuple h;obtain⟨its',r',⟨o',e',_,n',d'⟩,_⟩:=I.tuple h';rw[e] at e';cases e';rw[d] at d';injection d' with d1 _
 have:aF=its':=by simpa using congrArg Array.toList d1
 subst this;exact r.inj r'
end
noncomputable abbrev Cx.wish(X:Cx)(E:qx->qj->Prop):Cx:={X with xe:=E }
noncomputable abbrev Cx.nox(X:Cx):Cx:=X.wish λ _ _=>False
theorem Cx.Ok.wish{X:Cx}(ok:X.Ok)(E:qx->qj->Prop):(X.wish E).Ok:=
 ⟨ok.mod,ok.kind,ok.glob,ok.blt,ok.above,ok.inj,ok.has,ok.cab,ok.hd,ok.frames,ok.stk,ok.exf,ok.bs,ok.bsz,ok.noex,ok.exfs,ok.funs,ok.frf⟩
theorem Cx.Ok.unwish{X:Cx}{E:qx->qj->Prop}(ok:(X.wish E).Ok):X.Ok:=
 ⟨ok.mod,ok.kind,ok.glob,ok.blt,ok.above,ok.inj,ok.has,ok.cab,ok.hd,ok.frames,ok.stk,ok.exf,ok.bs,ok.bsz,ok.noex,ok.exfs,ok.funs,ok.frf⟩
section
variable {X : Cx}{aB : List (qv×Obj)}{σ : St}{H : Hp}{s : qj}{E : qx -> qj -> Prop}
theorem Inv.wish(I:Inv X aB σ H s)(E:qx->qj->Prop):Inv (X.wish E) aB σ H s:=⟨I.ok.wish E,I.os,I.bare,I.base,I.loc,I.cell,I.free,I.freeC,I.pin,I.hok,I.len⟩
theorem Inv.unwish(I:Inv (X.wish E) aB σ H s):Inv X aB σ H s:=⟨I.ok.unwish,I.os,I.bare,I.base,I.loc,I.cell,I.free,I.freeC,I.pin,I.hok,I.len⟩
theorem SP.unwish{D:Ends}{f:Flow}{s':qj}(h:SP (X.wish E) aB D f s'):SP X aB D f s':=by
 cases f with
 | next=>obtain⟨σ',H',I,q⟩:=h;exact⟨σ',H',I.unwish,q⟩
 | brk=>obtain⟨σ',H',I,q⟩:=h;exact⟨σ',H',I.unwish,q⟩
 | cont=>obtain⟨σ',H',I,q⟩:=h;exact⟨σ',H',I.unwish,q⟩
 | ret u=>obtain⟨v,σ',H',I,r,q⟩:=h;exact⟨v,σ',H',I.unwish,r,q⟩
theorem PE.nox{e:qw}{t:TE}(h:PE X.nox e t):PE X e t:=λ aB s σ H Q I hw =>
 wpAny_mono (h aB s σ H Q (I.wish _) hw) (λ _ _ hPr0=>by obtain⟨v,H',I',r,q⟩:=hPr0;exact⟨v,H',I'.unwish,r,q⟩) λ _ _ z=>False.elim z
theorem PT.nox{e:qw}{t:TT}(h:PT X.nox e t):PT X e t:=λ aB s σ H Q I hw =>
 wpAny_mono (h aB s σ H Q (I.wish _) hw) (λ _ _ hPr1=>by obtain⟨H',I',q⟩:=hPr1;exact⟨H',I'.unwish,q⟩) λ _ _ z=>False.elim z
theorem dR.nox{st:List jx}{t:TS}(h:dR X.nox st t):dR X st t:=λ aB s σ H D I hw =>
 wpAny_mono (h aB s σ H D (I.wish _) hw) (λ _ _ q=>q.unwish) λ _ _ z=>False.elim z
end
section
variable {X : Cx}{st : jx}{cT : List jx}{t u : TS}{e : qw}{te : TE}{pos : Pos}
noncomputable def aUS:TS:=λ D σ H=>D.nx σ H
noncomputable def aVZ(t u:TS):TS:=λ D σ H=>t {D with nx:=u D } σ H
theorem aOE:dR X [] aUS:=λ _ _ σ H _ I h=>wpAny_execs_nil ⟨σ,H,I,h⟩
theorem aN2(h1:PS X st t)(h2:dR X cT u):dR X (st::cT) (aVZ t u):=by
 intro aB s σ H D I h;refine wpAny_execs_cons (bC (h1 aB s σ H {D with nx:=u D } I h) λ f s1 q=>?_)
 cases f with
 | next =>
   obtain⟨σ',H',I',q⟩:=q;exact h2 aB s1 σ' H' D I' q
 | ret v=>exact q
 | brk=>exact q
 | cont=>exact q
theorem Inv.quiet{aB:List (qv×Obj)}{σ:St}{H:Hp}{s:qj}(I:Inv X aB σ H s):interactive X.env=false:=by simp[interactive,I.ok.kind]
noncomputable def aSK(te:TE):TS:=λ D σ H=>te σ H λ _ H1=>D.nx σ H1
theorem aOl(he:PE X e te)(hs:swapsWith e qz pos.line X.env=pure false:=by rfl):PS X (.Expr e pos) (aSK te):=by
 intro aB s σ H D I h;exact wpAny_Expr_any (bC (he aB s σ H _ I h) λ v s1 ⟨x,H1,I1,r1,q1⟩=>⟨σ,H1,I1,q1⟩) I.quiet hs
noncomputable def aVF(te:TE):TS:=λ D σ H=>te σ H D.rt
theorem aRv(he:PE X e te):PS X (.Return (qq e) pos) (aVF te):=by
 intro aB s σ H D I h;exact wpAny_Return_some (bC (he aB s σ H _ I h) λ v s1 ⟨x,H1,I1,r1,q1⟩=>⟨x,σ,H1,I1,r1,q1⟩)
noncomputable def aWh(c:TT)(t u:TS):TS:=λ D σ H=>c σ H λ b H1=>if b=true then t D σ H1 else u D σ H1
theorem aU4{c:qw}{a b:List jx}{tc:TT}(hc:PT X c tc)(ha:dR X a t)(hb:dR X b u):PS X (.If c a b pos) (aWh tc t u):=by
 intro aB s σ H D I h;refine wpAny_If (bC (hc aB s σ H _ I h) λ d s1 hPq8=>?_)
 obtain⟨H1,I1,q1⟩:=hPq8;cases d with
 | true=>exact ha aB s1 σ H1 D I1 q1
 | false=>exact hb aB s1 σ H1 D I1 q1
end
noncomputable abbrev TG:=V->St->Hp->(St->Hp->Prop)->Prop
noncomputable abbrev iT:=List V->St->Hp->(St->Hp->Prop)->Prop
def PG(X:Cx)(target:qw)(t:TG):Prop:=
 ∀ (aB:List (qv×Obj)) (s:qj) (σ:St) (H:Hp) (v:V) (u:qx) (Q:St->Hp->Prop),Inv X aB σ H s->aZ v u->t v σ H Q ->
  qy (model X.prog X.w) X.A (assign target X.env u) (λ _ s'=>∃ σ' H',Inv X aB σ' H' s'/\Q σ' H') X.xe s
def qL(X:Cx)(ts:List qw)(t:iT):Prop:=
 ∀ (aB:List (qv×Obj)) (s:qj) (σ:St) (H:Hp) (vs:List V) (us:List qx) (Q:St->Hp->Prop),Inv X aB σ H s->aU vs us->t vs σ H Q ->
  qy (model X.prog X.w) X.A (assignInOrder ((xj ts X.env).map (·.2)) us) (λ _ s'=>∃ σ' H',Inv X aB σ' H' s'/\Q σ' H') X.xe s
noncomputable abbrev aDt:=V->V->V->Hp->(Hp->Prop)->Prop
def aKi(X:Cx)(t:aDt):Prop:=
 ∀ (aB:List (qv×Obj)) (s:qj) (σ:St) (H:Hp) (o i v:V) (ov iv u:qx) (Q:Hp->Prop),Inv X aB σ H s->aZ o ov->aZ i iv->aZ v u->t o i v H Q ->
  qy (model X.prog X.w) X.A (setItem ov iv u) (λ _ s'=>∃ H',Inv X aB σ H' s'/\Q H') X.xe s
section
variable {X : Cx}{pos : Pos}
noncomputable def oE(i:Nat):TG:=λ v σ H Q=>Q (σ.set i (qq v)) H
theorem aCD{i:Nat}{x:Str}(hN:X.N.Nodup)(hi:X.N[i]? = qq x)(hx:Loc X.env.scope x)(hf:X.fn x=true\/X.env.scope.names.lookup x=qq .local:=by first | exact .inl rfl | exact .inr rfl | assumption):PG X (.Name x pos) (oE i):=by
 intro aB s σ H v u Q I r h;exact wpAny_assign_Name (aGn I hN hi hx r (λ s' I'=>⟨_,H,I',h⟩) hf)
noncomputable def aDm:iT:=λ vs σ H Q=>vs=[]/\Q σ H
noncomputable def aC9(t:TG)(u:iT):iT:=λ vs σ H Q=>∃ v r,vs=v::r/\t v σ H λ σ' H'=>u r σ' H' Q
theorem aO2:qL X [] aDm:=by
 intro aB s σ H vs us Q I r h;obtain⟨e,h⟩:=h;subst e;cases r;exact assignInOrder_nil ⟨σ,H,I,h⟩
theorem aN0{e:qw}{es:List qw}{t:TG}{u:iT}(h1:PG X e t)(h2:qL X es u)
 (hs:(xj (e::es) X.env).map (·.2)=assign e X.env::(xj es X.env).map (·.2):=by rfl):qL X (e::es) (aC9 t u):=by
 intro aB s σ H vs us Q I r h;obtain⟨v,vr,e1,h⟩:=h;subst e1;cases r with
 | cons r rr =>
   rw[hs];refine assignInOrder_cons (bC (h1 aB s σ H _ _ _ I r h) λ _ s1 hPq9=>?_)
   obtain⟨σ1,H1,I1,q1⟩:=hPq9;exact h2 aB s1 σ1 H1 _ _ Q I1 rr q1
noncomputable def aVo(K:FrG)(n:Nat)(t:iT):TG:=λ v σ H Q=>∃ a xs,v=.ref a/\cD K H a xs/\xs.length=n/\t xs σ H Q
theorem aRp{es:List qw}{k:Nat}{t:iT}{n:Nat}(hc:X.calm=true)(h:qL X es t)
 (hn:(xj es X.env).length=n:=by rfl) (hst:(xj es X.env).findIdx? (·.1)=qz:=by rfl):PG X (.Tuple es k pos) (aVo X.K n t):=by
 intro aB s σ H v u Q I r hw;obtain⟨a,xs,e1,hq,hl,hw⟩:=hw;subst e1;cases r;obtain⟨aF,rv,ht,hz⟩:=I.tuple hq;refine assign_Tuple_tuple (I.ok.hd hc) ht (by simp[hn,<- hl,rv.length]) hst λ h' hx=>?_
 have I1:Inv X aB σ H {s with heap:=h' }:=I.kept (t':=s.toks) λ b o e=>hx b o (xAk (xAa e)) e
 exact h aB _ σ H xs _ Q I1 (by simpa using rv) hw
noncomputable def aKA(to ti:TE)(t:aDt):TG:=λ v σ H Q=>to σ H λ o H1=>ti σ H1 λ i H2=>t o i v H2 λ H3=>Q σ H3
theorem aSl{o i:qw}{to ti:TE}{t:aDt}(ho:PE X o to)(hi:PE X i ti)(hs:aKi X t)
 (ha:∀ v,assign (.Subscript o i pos) X.env v=(do
   let ov <- holding [v] (eval o X.env)
   let iv <- holding [v,ov] (eval i X.env)
   standAt pos
   holding [v,ov,iv] (setItem ov iv v)
   release [v,ov,iv] []):=by intro _;rfl):PG X (.Subscript o i pos) (aKA to ti t):=by
 intro aB s σ H v u Q I r h;rw[ha];refine wB (zu (bC (ho aB s σ H _ I h) λ ov s1 hPq10=>?_))
 obtain⟨x,H1,I1,r1,q1⟩:=hPq10;refine wB (zu (bC (hi aB s1 σ H1 _ I1 q1) λ iv s2 hPq11=>?_))
 obtain⟨y,H2,I2,r2,q2⟩:=hPq11;refine wB (yk (wB (zu (bC (hs aB s2 σ H2 x y v ov iv u _ I2 r1 r2 r q2) λ _ s3 hPq12=>?_))))
 obtain⟨H3,I3,q3⟩:=hPq12;exact wpAny_release ⟨σ,H3,I3,q3⟩
noncomputable def wR(te:TE)(g:TG):TS:=λ D σ H=>te σ H λ x H1=>g x σ H1 D.nx
theorem aHV{tg e:qw}{te:TE}{g:TG}(he:PE X e te)(hg:PG X tg g)(hs:swapsWithSole [tg] e pos.line X.env=pure false:=by rfl)(hw:yy [tg] e X.env=pure qz:=by rfl)
 (h1:(xj [tg] X.env).map (·.2)=[assign tg X.env]:=by rfl):PS X (.Assign [tg] e pos) (wR te g):=by
 intro aB s σ H D I h;refine wpAny_Assign_stores (bC (he aB s σ H _ I h) λ v s1 hPq13=>?_) hs hw
 obtain⟨x,H1,I1,r1,q1⟩:=hPq13;rw[h1];exact bC (hg aB s1 σ H1 x v _ I1 r1 q1) λ _ s2 q=>q
theorem aR9{i:Nat}{x:Str}{e:qw}{te:TE}{pos':Pos}(hN:X.N.Nodup)(hi:X.N[i]? = qq x)(hx:Loc X.env.scope x)(he:PE X e te)(hs:swapsWith e (qq (.Name x pos')) pos.line X.env=pure false:=by rfl)(hf:X.fn x=true\/X.env.scope.names.lookup x=qq .local:=by first | exact .inl rfl | exact .inr rfl | assumption) :
 PS X (.Assign [.Name x pos'] e pos) (wR te (oE i)):=by
 intro aB s σ H D I h;refine wpAny_Assign_Name (bC (he aB s σ H _ I h) λ v s1 hPq14=>?_) hs
 obtain⟨y,H1,I1,r1,q1⟩:=hPq14;exact aGn I1 hN hi hx r1 (λ s2 I2=>⟨_,H1,I2,q1⟩) hf
end
section
variable {X : Cx}{pos : Pos}
end
structure It where
 go:Nat->Hp->Prop
 yld:Nat->Hp->V->Hp->Prop
 stop:Nat->Hp->Prop
def gJ(X:Cx)(aB:List (qv×Obj))(H:Hp)(b:qv):Prop:=
 H b=qz/\b≠X.env.locals/\b ∉ X.fs/\(b∈X.ex\/X.s₀.heap.objs.size<=b)/\(∀ x c,X.env.cells.lookup x=qq c->c≠b)/\∀ p∈X.pn++aB,p.1≠b
theorem Inv.fpOk{X:Cx}{aB:List (qv×Obj)}{σ:St}{H H':Hp}{s:qj}{b:qv}(I:Inv X aB σ H s)(hb:s.heap.objs.size<=b)(hn:H' b=qz):gJ X aB H' b:=by
 refine⟨hn,yEu (xAc I.lt hb),I.nofs hb,.inr (xAi I.sz hb),λ x c e z=>?_,λ p hp z=>?_⟩
 ·obtain⟨v,q⟩:=I.cell x c e;exact absurd (xAc q.lt (by rw[z];exact hb)) (yBz _)
 ·exact absurd (xAc (xAa (I.pin p hp).1) (by rw[z];exact hb)) (yBz _)
structure Turn(P:qo)(w:zw)(K:FrG)(tg:qw)(J:It)(fp:List qv)(it:qv)(tn:Nat->Heap->Prop):Prop where
 mem:it∈fp
 obj:∀ i h,tn i h->∀ b∈fp,∃ o,h.get? b=qq o/\∀ v,o.data≠.cell v
 keep:∀ i h h',tn i h->(∀ b∈fp,∀ o,h.get? b=qq o->h'.get? b=qq o)->tn i h'
 item:∀ (X:Cx),X.prog=P->X.w=w->X.K=K->X.calm=true->∀ (i:Nat) (aB:List (qv×Obj)) (s:qj) (σ:St) (H:Hp) (E:qx->qj->Prop),Inv X aB σ H s->(∀ b∈fp,gJ X aB H b)->tn i s.heap->J.go i H ->
  qy (model P w) X.A (jo (.ref it)) (λ r s1=>∃ u,r=qq u /\
   qy (model P w) X.A (yq tg (.ref it) u) (λ _ s2=>∃ x H',Inv X aB σ H' s2/\aZ x u/\J.yld i H x H'/\tn (i+1) s2.heap/\∀ b∈fp,H' b=qz) E s1) E s
 done:∀ (X:Cx),X.prog=P->X.w=w->X.K=K->X.calm=true->∀ (i:Nat) (aB:List (qv×Obj)) (s:qj) (σ:St) (H:Hp) (E:qx->qj->Prop),Inv X aB σ H s->(∀ b∈fp,gJ X aB H b)->tn i s.heap->J.stop i H ->
  qy (model P w) X.A (jo (.ref it)) (λ r s1=>r=qz/\Inv X aB σ H s1) E s
 self:∀ (A:zy) (i:Nat) (s:qj) (Q:qx->qj->Prop) (E:qx->qj->Prop),tn i s.heap->Q (.ref it) s->qy (model P w) A (pyIter (.ref it)) Q E s
noncomputable abbrev TI:=St->Hp->(It->Hp->Prop)->Prop
def PIE(X:Cx)(aB:List (qv×Obj))(σ:St)(tg:qw)(R:It->Hp->Prop)(itv:qx)(s2:qj):Prop:=
 ∃ (it:qv) (fp:List qv) (tn:Nat->Heap->Prop) (J:It) (H':Hp),itv=.ref it/\Inv X aB σ H' s2/\Turn X.prog X.w X.K tg J fp it tn/\tn 0 s2.heap/\(∀ b∈fp,gJ X aB H' b)/\R J H'
def PI(X:Cx)(tg iter:qw)(wi:TI):Prop:=
 ∀ (aB:List (qv×Obj)) (s:qj) (σ:St) (H:Hp) (R:It->Hp->Prop),Inv X aB σ H s->wi σ H R ->
  qy (model X.prog X.w) X.A (eval iter X.env) (λ v s1=>qy (model X.prog X.w) X.A (pyIter v) (PIE X aB σ tg R) X.xe s1) X.xe s
theorem aAO{M:Model}{A:zy}{E:qx->qj->Prop}{s:qj}{tg:qw}{it:qv}{u:qx}{o:Obj}{n:String}{vs:Array qx}{Q:Unit->qj->Prop}(ho:s.heap.get? it=qq o)(hc:o.cls=.type n)(hd:o.data=.fields vs)
 (hn:["enumerate", "zip", "dict_itemiterator", "dict_reverseitemiterator", "odict_iterator", "itertools.zip_longest", "itertools.pairwise"].contains n=false) (hQ:Q () s):qy M A (yq tg (.ref it) u) Q E s:=by
 unfold yq;cases tg<;>first
  | exact wP hQ
  | (cases u<;>first
      | exact wP hQ
      | (refine wB (wpAny_load ho ?_)
         rw[hc,hd];show qy M A (if (["enumerate", "zip", "dict_itemiterator", "dict_reverseitemiterator", "odict_iterator", "itertools.zip_longest", "itertools.pairwise"].contains n&&vs[0]?==qq (yj _))=true then _ else _) Q E s
         rw[if_neg (by intro h;rw[hn,yAl] at h;cases h)]
         exact wP hQ))
noncomputable def Itl(K:FrG)(a:qv):It:=
 ⟨λ i H=>∃ xs x,bV K H a xs/\xs[i]? = qq x,λ i H x H'=>H'=H/\∀ xs,bV K H a xs->xs[i]? = qq x,λ i H=>∃ xs,bV K H a xs/\xs.length<=i⟩
noncomputable def Itt(K:FrG)(a:qv):It:=
 ⟨λ i H=>∃ xs x,cD K H a xs/\xs[i]? = qq x,λ i H x H'=>H'=H/\∀ xs,cD K H a xs->xs[i]? = qq x,λ i H=>∃ xs,cD K H a xs/\xs.length<=i⟩
noncomputable def Itr(lo:Int)(n:Nat):It:=⟨λ i _=>i<n,λ i H x H'=>H'=H/\x=.int (lo+i),λ i _=>n<=i⟩
theorem aMB{P:qo}{w:zw}{K:FrG}{tg:qw}(a it:qv):Turn P w K tg (Itl K a) [it] it (λ i h=>h.IsListIter it a i) where
 mem:=by simp
 obj:=λ i h st b hb=>by
  have e:b=it:=by simpa using hb
  subst e;obtain⟨o,e,c,d⟩:=st;exact⟨o,e,λ v z=>by rw[d] at z;cases z⟩
 keep:=λ i h h' st k=>st.at λ o e=>k it (by simp) o e
 item:=by
  intro X hP hw hK hc i aB s σ H E I hf st hg;subst hP hw hK;obtain⟨xs,x,hq,hx⟩:=hg;obtain⟨aF,rv,p,hz⟩:=I.list hq;obtain⟨u,hu,ru⟩:=rv.get hx;obtain⟨f0,f1,f2,f3,f4,f5⟩:=hf it (by simp)
  refine wz st p.isList (x:=u) (by simpa using hu) λ h' st' sb=>?_
  have I1:Inv X aB σ H {s with heap:=h' }:=I.turned (t':=s.toks) (λ b o hb e=>(sb.2 b hb).trans e) f0 f1 f3 f4 f5
  obtain⟨o,e,c,d⟩:=id st';exact⟨u,rfl,aAO (s:={s with heap:=h' }) e c d (by decide) ⟨x,H,I1,ru,⟨rfl,λ ys hy=>by rw[I.list_inj hy hq];exact hx⟩,st',λ b hb=>(hf b hb).1⟩⟩
 done:=by
  intro X hP hw hK hc i aB s σ H E I hf st hg;subst hP hw hK;obtain⟨xs,hq,hx⟩:=hg;obtain⟨aF,rv,p,hz⟩:=I.list hq;obtain⟨f0,f1,f2,f3,f4,f5⟩:=hf it (by simp)
  have hl:=rv.length;exact wj (I.ok.hd hc) st p.isList (by simp;omega) λ h' eb=>⟨rfl,I.turned (t':=s.toks) (λ b o hb e=>eb b o hb e) f0 f1 f3 f4 f5⟩
 self:=λ _ _ _ _ _ st h=>wpAny_pyIter_listiter st h
theorem aLU{P:qo}{w:zw}{K:FrG}{tg:qw}(a it:qv):Turn P w K tg (Itt K a) [it] it (λ i h=>h.IsTupleIter it a i) where
 mem:=by simp
 obj:=λ i h st b hb=>by
  have e:b=it:=by simpa using hb
  subst e;obtain⟨o,e,c,d⟩:=st;exact⟨o,e,λ v z=>by rw[d] at z;cases z⟩
 keep:=λ i h h' st k=>st.at λ o e=>k it (by simp) o e
 item:=by
  intro X hP hw hK hc i aB s σ H E I hf st hg;subst hP hw hK;obtain⟨xs,x,hq,hx⟩:=hg;obtain⟨aF,rv,p,hz⟩:=I.tuple hq;obtain⟨u,hu,ru⟩:=rv.get hx;obtain⟨f0,f1,f2,f3,f4,f5⟩:=hf it (by simp)
  refine wpAny_pyNext_tuple_item st (show s.heap.IsTuple a aF.toArray from p) (x:=u) (by simpa using hu) λ h' st' sb=>?_
  have I1:Inv X aB σ H {s with heap:=h' }:=I.turned (t':=s.toks) (λ b o hb e=>(sb.2 b hb).trans e) f0 f1 f3 f4 f5
  obtain⟨o,e,c,d⟩:=id st';exact⟨u,rfl,aAO (s:={s with heap:=h' }) e c d (by decide) ⟨x,H,I1,ru,⟨rfl,λ ys hy=>by rw[I.tuple_inj hy hq];exact hx⟩,st',λ b hb=>(hf b hb).1⟩⟩
 done:=by
  intro X hP hw hK hc i aB s σ H E I hf st hg;subst hP hw hK;obtain⟨xs,hq,hx⟩:=hg;obtain⟨aF,rv,p,hz⟩:=I.tuple hq;obtain⟨f0,f1,f2,f3,f4,f5⟩:=hf it (by simp)
  have hl:=rv.length;exact wpAny_pyNext_tuple_end (I.ok.hd hc) st (show s.heap.IsTuple a aF.toArray from p) (by simp;omega) λ h' eb=>⟨rfl,I.turned (t':=s.toks) (λ b o hb e=>eb b o hb e) f0 f1 f3 f4 f5⟩
 self:=λ _ _ _ _ _ st h=>wpAny_pyIter_tupleiter st h
theorem aLN{P:qo}{w:zw}{K:FrG}{tg:qw}(it:qv)(lo:Int)(n:Nat):Turn P w K tg (Itr lo n) [it] it (λ i h=>kx h it (lo+(i:Nat)*1) ((n:Int)-(i:Nat)) 1) where
 mem:=by simp
 obj:=λ i h st b hb=>by
  have e:b=it:=by simpa using hb
  subst e;exact⟨_,st,λ v z=>by
   have z':Data.fields _=Data.cell v:=z;cases z'⟩
 keep:=λ i h h' st k=>k it (by simp) _ st
 item:=by
  intro X hP hw hK hc i aB s σ H E I hf st hg;subst hP hw hK;obtain⟨f0,f1,f2,f3,f4,f5⟩:=hf it (by simp)
  have W:=Walks.range (prog:=X.prog) (w:=X.w) (I.ok.hd hc) it lo 1 n;refine W.item i s _ _ hg st λ v h' tk hv st' kk=>?_
  obtain⟨t,rfl⟩:=hv;have I1:Inv X aB σ H {s with heap:=h',toks:=tk }:=I.turned (λ b o hb e=>kk b o (by simpa using hb) e) f0 f1 f3 f4 f5
  refine⟨_,rfl,aAO (s:={s with heap:=h',toks:=tk }) (n:="range_iterator") st' rfl rfl (by decide) ⟨.int (lo+i),H,I1,⟨t,?_⟩,⟨rfl,rfl⟩,st',λ b hb=>(hf b hb).1⟩⟩
  rw[Int.mul_one]
 done:=by
  intro X hP hw hK hc i aB s σ H E I hf st hg;subst hP hw hK;obtain⟨f0,f1,f2,f3,f4,f5⟩:=hf it (by simp)
  exact wpAny_pyNext_range_end (I.ok.hd hc) st (by have:n<=i:=hg;omega) λ h' eb=>⟨rfl,I.turned (t':=s.toks) (λ b o hb e=>eb b o hb e) f0 f1 f3 f4 f5⟩
 self:=λ _ _ _ _ _ st h=>kq st h
end L2
namespace L2
open PySem PySem.Spec PyProof.Rows
section
variable {X : Cx}{tg : qw}
noncomputable def aTI(K:FrG)(tl:TE):TI:=λ σ H R=>tl σ H λ x H1=>∃ a,x=.ref a/\(∃ xs,bV K H1 a xs)/\R (Itl K a) H1
noncomputable def aV5(K:FrG)(tl:TE):TI:=λ σ H R=>tl σ H λ x H1=>∃ a,x=.ref a/\(∃ xs,cD K H1 a xs)/\R (Itt K a) H1
theorem aOM{l:qw}{tl:TE}(hl:PE X l tl):PI X tg l (aTI X.K tl):=by
 intro aB s σ H R I h;refine bC (hl aB s σ H _ I h) λ v s1 hPq15=>?_
 obtain⟨x,H1,I1,r1,q1⟩:=hPq15;obtain⟨a,e,⟨xs,hq⟩,q⟩:=q1;subst e;cases r1;obtain⟨aF,rv,p,hz⟩:=I1.list hq;refine jy p.isList ?_;refine⟨s1.heap.objs.size,[s1.heap.objs.size],_,_,H1,rfl,I1.kept (t':=s1.toks) λ b o e=>hpS _ e,aMB a _,⟨_,xAe _ rfl,rfl,rfl⟩,λ b hb=>?_,q⟩
 have e:b=s1.heap.objs.size:=by simpa using hb
 subst e;exact I1.fpOk (yAc _) (I1.hok.fresh (yAc _))
theorem aRA{l:qw}{tl:TE}(hl:PE X l tl):PI X tg l (aV5 X.K tl):=by
 intro aB s σ H R I h;refine bC (hl aB s σ H _ I h) λ v s1 hPq16=>?_
 obtain⟨x,H1,I1,r1,q1⟩:=hPq16;obtain⟨a,e,⟨xs,hq⟩,q⟩:=q1;subst e;cases r1;obtain⟨aF,rv,p,hz⟩:=I1.tuple hq;refine wpAny_pyIter_tuple (show s1.heap.IsTuple a aF.toArray from p) ?_
 refine⟨s1.heap.objs.size,[s1.heap.objs.size],_,_,H1,rfl,I1.kept (t':=s1.toks) λ b o e=>hpS _ e,aLU a _,⟨_,xAe _ rfl,rfl,rfl⟩,λ b hb=>?_,q⟩
 have e:b=s1.heap.objs.size:=by simpa using hb
 subst e;exact I1.fpOk (yAc _) (I1.hok.fresh (yAc _))
theorem aNN{aB:List (qv×Obj)}{σ:St}{H:Hp}{s:qj}{R:It->Hp->Prop}{E:qx->qj->Prop}{lo hi:Int}{t u v:Tok}{tk:Nat}(I:Inv X aB σ H s)(h1 : -(2^62)<=lo)(h2:lo<2^62)(h3 : -(2^62)<=hi)(h4:hi<2^62)
 (q:R (Itr lo (hi-lo).toNat) H):qy (model X.prog X.w) X.A (pyIter (.ref s.heap.objs.size)) (PIE X aB σ tg R) E {s with heap:=s.heap.push {cls:=.type "range",data:=.fields #[.int lo t,.int hi u,.int 1 v] },toks:=tk }:=by
 refine wpAny_pyIter_range (IsRange.new ..) (small_one h1 h2 h3 h4) ?_;have I1:Inv X aB σ H {s with heap:=s.heap.push {cls:=.type "range",data:=.fields #[.int lo t,.int hi u,.int 1 v] },toks:=tk }:=I.kept λ b o e=>hpS _ e
 refine⟨(s.heap.push {cls:=.type "range",data:=.fields #[.int lo t,.int hi u,.int 1 v] }).objs.size,[(s.heap.push {cls:=.type "range",data:=.fields #[.int lo t,.int hi u,.int 1 v] }).objs.size],_,_,H,rfl,
  I1.kept (t':=tk) λ b o e=>hpS _ e,aLN _ lo (hi-lo).toNat,?_,λ b hb=>?_,q⟩
 ·have e1:lo+((0:Nat):Int)*1=lo:=by simp
  have e2:(((hi-lo).toNat:Nat):Int)-((0:Nat):Int)=yCr lo hi 1:=by rw[rangeSize_one];split<;>omega
  show kx _ _ (lo+((0:Nat):Int)*1) ((((hi-lo).toNat:Nat):Int)-((0:Nat):Int)) 1;rw[e1,e2];exact xAe _ rfl
 ·have e:b=(s.heap.push {cls:=.type "range",data:=.fields #[.int lo t,.int hi u,.int 1 v] }).objs.size:=by simpa using hb
  subst e;exact I1.fpOk (yAc _) (I1.hok.fresh (yAc _))
noncomputable def aJL(ta:TA):TI:=λ σ H R=>ta σ H λ vs H1=>∃ j:Int,vs=[.int j] /\ -(2^62)<=j/\j<2^62/\R (Itr 0 j.toNat) H1
theorem aMp{a:qw}{ta:TA}{p pos:Pos}(hg:Gl X "range")(hm:X.mg "range" = qz)(ha:PA X [a] ta)(hs:zq [a] X.env=[(false,eval a X.env)]:=by rfl):PI X tg (.Call (.Name "range" p) [a] [] pos) (aJL ta):=by
 intro aB s σ H R I h;refine Call_ (lA I hg hm boot_range (yBd (bC (ha pos aB s σ H _ I h) λ us s1 hPq17=>?_) hs rfl))
 obtain⟨vs,H1,I1,r1,q1⟩:=hPq17;obtain⟨j,e,q1,q2,q⟩:=q1;subst e;cases r1 with
 | cons r rr =>
   cases rr;obtain⟨t,rfl⟩:=r;exact call_range_1 (aNN I1 (by omega) (by omega) q1 q2 (by simpa using q))
noncomputable def aV3(wi:TI)(g:TG)(tb:TS):TS:=λ D σ H=>wi σ H λ J H1=>∃ W:Nat->Nat->St->Hp->Prop,(∃ m,W 0 m σ H1)/\∀ i m σ H,W i m σ H ->
 (J.stop i H/\D.nx σ H)\/(J.go i H/\∃ N:St->Hp->Prop,(∀ σ' H',N σ' H'->∃ m',m'<m/\W (i+1) m' σ' H')/\∀ x H',J.yld i H x H'->g x σ H' λ σ2 H2=>tb {D with nx:=N,ct:=N,bk:=D.nx } σ2 H2)
noncomputable def vH(fp:List qv)(h:Heap):List (qv×Obj):=fp.filterMap λ b=>(h.get? b).map λ o=>(b,o)
theorem tM{fp:List qv}{h:Heap}{b:qv}{o:Obj}(hb:b∈fp)(e:h.get? b=qq o):(b,o)∈vH fp h:=List.mem_filterMap.mpr ⟨b,hb,by rw[e];rfl⟩
theorem aMC{fp:List qv}{h:Heap}{p:qv×Obj}(hp:p∈vH fp h):p.1∈fp/\h.get? p.1=qq p.2:=by
 obtain⟨b,hb,e⟩:=List.mem_filterMap.mp hp;cases q:h.get? b with
 | none=>rw[q] at e;cases e
 | some o =>
   rw[q] at e;have e':(b,o)=p:=Option.some.inj e;subst e';exact⟨hb,q⟩
theorem Inv.pinned{aB:List (qv×Obj)}{σ:St}{H:Hp}{s:qj}{fp:List qv}(I:Inv X aB σ H s)(hf:∀ b∈fp,gJ X aB H b)(ho:∀ b∈fp,∃ o,s.heap.get? b=qq o/\∀ v,o.data≠.cell v):Inv X (aB++vH fp s.heap) σ H s:=
 I.pins_of λ p hp=>(List.mem_append.mp hp).elim (λ z=>I.pin p (xAq _ z)) λ z=>by
  obtain⟨hb,e⟩:=aMC z;obtain⟨f0,f1,f2,_⟩:=hf p.1 hb;obtain⟨o,e',d⟩:=ho p.1 hb;rw[e] at e';cases e';exact⟨e,f0,f1,f2,d⟩
theorem Inv.unpinned{aB pl:List (qv×Obj)}{σ:St}{H:Hp}{s:qj}(I:Inv X (aB++pl) σ H s):Inv X aB σ H s:=I.pins_of λ p hp=>I.pin p (xAq _ (List.mem_append_left _ hp))
theorem aQr{iter:qw}{body:List jx}{wi:TI}{g:TG}{tb:TS}{pos:Pos}(hp:PassesOwn (model X.prog X.w) X.A X.env X.xe)(hc:X.calm=true)(hi:PI X tg iter wi)(hg:PG X tg g)(hb:dR X body tb)
 (hs:∀ x,jv iter X.env x=pure x:=by intro _;rfl):PS X (.For tg iter body [] pos) (aV3 wi g tb):=by
 intro aB s σ H D I h;refine wpAny_For (bC (hi aB s σ H _ I h) λ v s1 h1=>bC h1 λ itv s2 h2=>?_) hs
 obtain⟨it,fp,tn,J,H2,e,I2,T,st2,f2,W,⟨m0,w0⟩,turn⟩:=h2;subst e;have stat:∀ {H':Hp},(∀ b∈fp,H' b=qz)->∀ b∈fp,gJ X aB H' b:=λ hn b hb=>⟨hn b hb,(f2 b hb).2⟩
 refine codeAny_forLoop_any (λ n s'=>∃ i σ' H',Inv X aB σ' H' s'/\tn i s'.heap/\(∀ b∈fp,H' b=qz)/\W i n σ' H') ?_ m0 ⟨0,σ,H2,I2,st2,λ b hb=>(f2 b hb).1,w0⟩
 rintro n s3 ⟨i,σ3,H3,I3,st3,fr3,w3⟩;rcases turn i n σ3 H3 w3 with ⟨stop,qn⟩ | ⟨go,N,hN,step⟩
 ·refine vk hp (bC (T.done X rfl rfl rfl hc i aB s3 σ3 H3 X.xe I3 (stat fr3) st3 stop) λ r s4 hPq18=>?_)
  obtain⟨hr,I4⟩:=hPq18;subst hr;exact wpAny_execs_nil ⟨σ3,H3,I4,qn⟩
 ·refine vk hp (bC (T.item X rfl rfl rfl hc i aB s3 σ3 H3 X.xe I3 (stat fr3) st3 go) λ r s4 hPq19=>?_)
  obtain⟨u,hr,h4⟩:=hPq19;subst hr;refine vk hp (bC h4 λ _ s5 hPq20=>?_)
  obtain⟨x,H5,I5,r5,y5,st5,fr5⟩:=hPq20;have I5':=I5.pinned (stat fr5) (T.obj _ _ st5);refine vk hp (bC (hg _ s5 σ3 H5 x u _ I5' r5 (step x H5 y5)) λ _ s6 hPq21=>?_)
  obtain⟨σ6,H6,I6,q6⟩:=hPq21;refine vk hp (bC (hb _ s6 σ6 H6 _ I6 q6) λ f s7 q7=>?_)
  have again:∀ {σ7:St}{H7:Hp},Inv X (aB++vH fp s5.heap) σ7 H7 s7->N σ7 H7->∃ m,m<n/\∃ i σ' H',Inv X aB σ' H' s7/\tn i s7.heap/\(∀ b∈fp,H' b=qz)/\W i m σ' H':=λ {σ7 H7} I7 n7=>by
   obtain⟨m',hm,w7⟩:=hN σ7 H7 n7;refine⟨m',hm,i+1,σ7,H7,I7.unpinned,T.keep _ _ _ st5 λ b hb o e=>(I7.pin (b,o) (xAq _ (xAq _ (tM hb e)))).1,λ b hb=>?_,w7⟩
   obtain⟨o,e,d⟩:=T.obj _ _ st5 b hb;exact(I7.pin (b,o) (xAq _ (xAq _ (tM hb e)))).2.1
  cases f with
  | next=>obtain⟨σ7,H7,I7,n7⟩:=q7;exact again I7 n7
  | cont=>obtain⟨σ7,H7,I7,n7⟩:=q7;exact again I7 n7
  | brk=>obtain⟨σ7,H7,I7,q7⟩:=q7;exact⟨σ7,H7,I7.unpinned,q7⟩
  | ret v=>obtain⟨x7,σ7,H7,I7,r7,q7⟩:=q7;exact⟨x7,σ7,H7,I7.unpinned,r7,q7⟩
end
end L2
namespace L2
open PySem PySem.Spec PyProof.Rows
noncomputable abbrev R2:=V->V->Hp->VK->Prop
def cJ(X:Cx)(f:qx->qx->Sem qx)(r:R2):Prop:=
 ∀ (aB:List (qv×Obj)) (s:qj) (σ:St) (H:Hp) (x y:V) (v u:qx) (Q:VK),Inv X aB σ H s->aZ x v->aZ y u->r x y H Q ->
  qy (model X.prog X.w) X.A (f v u) (EP X aB σ Q) X.xe s
def UnR(X:Cx)(f:qx->Sem qx)(r:V->Hp->VK->Prop):Prop:=
 ∀ (aB:List (qv×Obj)) (s:qj) (σ:St) (H:Hp) (x:V) (v:qx) (Q:VK),Inv X aB σ H s->aZ x v->r x H Q ->
  qy (model X.prog X.w) X.A (f v) (EP X aB σ Q) X.xe s
def dF(X:Cx)(f:qx)(r:List V->Hp->VK->Prop):Prop:=
 ∀ (aB:List (qv×Obj)) (s:qj) (σ:St) (H:Hp) (xs:List V) (us:List qx) (Q:VK),Inv X aB σ H s->aU xs us->r xs H Q ->
  qy (model X.prog X.w) X.A (call f us) (EP X aB σ Q) X.xe s
def aVD(X:Cx)(r:V->Hp->(Bool->Hp->Prop)->Prop):Prop:=
 ∀ (aB:List (qv×Obj)) (s:qj) (σ:St) (H:Hp) (x:V) (v:qx) (Q:Bool->Hp->Prop),Inv X aB σ H s->aZ x v->r x H Q ->
  qy (model X.prog X.w) X.A (truthy v) (TP X aB σ Q) X.xe s
noncomputable def xC(r:R2)(ta tb:TE):TE:=λ σ H Q=>ta σ H λ x H1=>tb σ H1 λ y H2=>r x y H2 Q
noncomputable def tUn(r:V->Hp->VK->Prop)(ta:TE):TE:=λ σ H Q=>ta σ H λ x H1=>r x H1 Q
noncomputable def rI(C:Int->Int->Prop)(g:Int->Int->V):R2:=λ x y H Q=>∃ i j,x=.int i/\y=.int j/\C i j/\Q (g i j) H
noncomputable def jI(g:Int->Int->V):R2:=λ x y H Q=>∃ i j,x=.int i/\y=.int j/\Q (g i j) H
noncomputable def rU(g:Int->V):V->Hp->VK->Prop:=λ x H Q=>∃ i,x=.int i/\Q (g i) H
section
variable {X : Cx}{a b c : qw}{ta tb tc : TE}{pos : Pos}
theorem aDD(ha:PE X a ta)(hb:PE X b tb){aB:List (qv×Obj)}{s:qj}{σ:St}{H:Hp}{R:V->V->Hp->Prop}(I:Inv X aB σ H s)
 (h:ta σ H λ x H1=>tb σ H1 λ y H2=>R x y H2) {Q:qx->qj->Prop}{f:qx->qx->Sem qx}
 (hf:∀ v u s2 x y H2,Inv X aB σ H2 s2->aZ x v->aZ y u->R x y H2->qy (model X.prog X.w) X.A (f v u) Q X.xe s2) :
 qy (model X.prog X.w) X.A (eval a X.env) (λ v s₁=>qy (model X.prog X.w) X.A (eval b X.env) (λ u s₂=>qy (model X.prog X.w) X.A (f v u) Q X.xe s₂) X.xe s₁) X.xe s:=by
 refine bC (ha aB s σ H _ I h) λ v s1 hPq22=>?_
 obtain⟨x,H1,I1,r1,q1⟩:=hPq22;refine bC (hb aB s1 σ H1 _ I1 q1) λ u s2 hPq23=>?_
 obtain⟨y,H2,I2,r2,q2⟩:=hPq23;exact hf v u s2 x y H2 I2 r1 r2 q2
theorem aJe{op:vq}{r:R2}(ho:cJ X (zo op) r)(ha:PE X a ta)(hb:PE X b tb):PE X (.BinOp a op b pos) (xC r ta tb):=by
 intro aB s σ H Q I h;exact wpAny_BinOp (aDD ha hb I h λ v u s2 x y H2 I2 rx ry q=>ho aB s2 σ H2 x y v u Q I2 rx ry q)
theorem aTe{op:yx}{r:V->Hp->VK->Prop}(ho:UnR X (unaryOp op) r)(ha:PE X a ta):PE X (.UnaryOp op a pos) (tUn r ta):=by
 intro aB s σ H Q I h;exact UnaryOp_ (bC (ha aB s σ H _ I h) λ v s1 ⟨x,H1,I1,r1,q1⟩=>ho aB s1 σ H1 x v Q I1 r1 q1)
theorem xI{f:qx->qx->Sem qx}{C:Int->Int->Prop}{g:Int->Int->Int}
 (rule:∀ (i j:Int) (t u:Tok) (s:qj) (Q:qx->qj->Prop) (E:qx->qj->Prop),C i j->Q (.int (g i j) s.toks) {s with toks:=s.toks+1 }->qy (model X.prog X.w) X.A (f (.int i t) (.int j u)) Q E s) :
 cJ X f (rI C λ i j=>.int (g i j)):=by
 intro aB s σ H x y v u Q I rx ry h;obtain⟨i,j,rfl,rfl,hc,q⟩:=h;obtain⟨t,rfl⟩:=rx;obtain⟨t',rfl⟩:=ry;exact rule i j t t' s _ _ hc ⟨.int (g i j),H,I.tok _,⟨_,rfl⟩,q⟩
theorem vT{f:qx->qx->Sem qx}{g:Int->Int->Int}
 (rule:∀ (i j:Int) (t u:Tok) (s:qj) (Q:qx->qj->Prop) (E:qx->qj->Prop),Q (.int (g i j) s.toks) {s with toks:=s.toks+1 }->qy (model X.prog X.w) X.A (f (.int i t) (.int j u)) Q E s) :
 cJ X f (jI λ i j=>.int (g i j)):=by
 intro aB s σ H x y v u Q I rx ry h;obtain⟨i,j,rfl,rfl,q⟩:=h;obtain⟨t,rfl⟩:=rx;obtain⟨t',rfl⟩:=ry;exact rule i j t t' s _ _ ⟨.int (g i j),H,I.tok _,⟨_,rfl⟩,q⟩
theorem aA9{f:qx->qx->Sem qx}{g:Int->Int->Bool}
 (rule:∀ (i j:Int) (t u:Tok) (s:qj) (Q:qx->qj->Prop) (E:qx->qj->Prop),Q (.bool (g i j)) s->qy (model X.prog X.w) X.A (f (.int i t) (.int j u)) Q E s) :
 cJ X f (jI λ i j=>.bl (g i j)):=by
 intro aB s σ H x y v u Q I rx ry h;obtain⟨i,j,rfl,rfl,q⟩:=h;obtain⟨t,rfl⟩:=rx;obtain⟨t',rfl⟩:=ry;exact rule i j t t' s _ _ ⟨.bl (g i j),H,I,rfl,q⟩
def aVM(i j:Int):Prop:=0<=j/\j<=1000000/\i.natAbs<2^64
def aJX(i j:Int):Prop:=(-(2^64)<i/\i<2^64)\/(-(2^64)<j/\j<2^64)
theorem aJX.ok{i j:Int}(h:aJX i j):IntMulOk i j:=by
 rcases h with ⟨h1,h2⟩ | ⟨h1,h2⟩
 ·exact .of_left (intBits_le_64 h1 h2)
 ·exact .of_right (intBits_le_64 h1 h2)
theorem aLJ(k:Nat):(0:Int)<=2^k:=by
 rw[two_pow_cast];exact yEz _
theorem aQm:cJ X (zo .Add) (jI λ i j=>.int (i+j)):=vT λ _ _ _ _ _ _ _ q=>add_int q
theorem aQI:cJ X (zo .Sub) (jI λ i j=>.int (i-j)):=vT λ _ _ _ _ _ _ _ q=>sub_int q
theorem aPf:cJ X (zo .Mod) (rI (λ _ j=>j≠0) λ i j=>.int (i.fmod j)):=xI λ _ _ _ _ _ _ _ hc q=>mod_int' hc q
theorem aSy:cJ X (zo .Pow) (rI aVM λ i j=>.int (i^j.toNat)):=xI λ _ _ _ _ _ _ _ hc q=>pow_int_small hc.1 hc.2.1 hc.2.2 q
theorem aRz:cJ X (zo .RShift) (rI (λ _ j=>0<=j) λ i j=>.int (i/2^j.toNat)):=xI λ i j _ _ _ _ _ hc q =>
 rshift_int hc (by rw[Int.fdiv_eq_ediv_of_nonneg i (aLJ _)];exact q)
theorem aRV:cJ X (zo .BitAnd) (jI λ i j=>.int (yDv i j)):=vT λ _ _ _ _ _ _ _ q=>and_int q
theorem aUc:cJ X (zo .BitOr) (jI λ i j=>.int (yGu i j)):=vT λ _ _ _ _ _ _ _ q=>or_int q
theorem aR3:cJ X (zo .BitXor) (jI λ i j=>.int (yGn i j)):=vT λ _ _ _ _ _ _ _ q=>xor_int q
theorem unI{f:qx->Sem qx}{g:Int->Int}
 (rule:∀ (i:Int) (t:Tok) (s:qj) (Q:qx->qj->Prop) (E:qx->qj->Prop),Q (.int (g i) s.toks) {s with toks:=s.toks+1 }->qy (model X.prog X.w) X.A (f (.int i t)) Q E s) :
 UnR X f (rU λ i=>.int (g i)):=by
 intro aB s σ H x v Q I rx h;obtain⟨i,rfl,q⟩:=h;obtain⟨t,rfl⟩:=rx;exact rule i t s _ _ ⟨.int (g i),H,I.tok _,⟨_,rfl⟩,q⟩
theorem aRl:UnR X (unaryOp .USub) (rU λ i=>.int (-i)):=unI λ _ _ _ _ _ q=>neg_int q
theorem aSC:UnR X (unaryOp .Invert) (rU λ i=>.int (yBm i)):=unI λ _ _ _ _ _ q=>invert_int q
end
section
variable {X : Cx}{a b c : qw}{ta tb tc : TE}{pos : Pos}
theorem aH6{aB:List (qv×Obj)}{σ:St}{H:Hp}{s:qj}{Q:VK}{k k':Bool}(I:Inv X aB σ H s)(q:Q (.bl k) H)(e:k=k'):EP X aB σ Q (.bool k') s:=by
 subst e;exact⟨.bl k,H,I,rfl,q⟩
theorem aSS:cJ X (jj .Lt) (jI λ i j=>.bl (decide (i<j))):=aA9 λ _ _ _ _ _ _ _ q=>lt_int q
theorem aT8:cJ X (jj .LtE) (jI λ i j=>.bl (decide (i<=j))):=aA9 λ _ _ _ _ _ _ _ q=>le_int q
theorem aTg:cJ X (jj .Gt) (jI λ i j=>.bl (decide (j<i))):=aA9 λ _ _ _ _ _ _ _ q=>gt_int q
theorem aUE:cJ X (jj .GtE) (jI λ i j=>.bl (decide (j<=i))):=aA9 λ _ _ _ _ _ _ _ q=>ge_int q
theorem aRF:cJ X (jj .Is) (λ x y H Q=>y=.non/\Q (.bl (decide (x=.non))) H):=by
 intro aB s σ H x y v u Q I rx ry h;obtain⟨rfl,q⟩:=h;cases ry;refine is_none_gen (aH6 I q ?_);cases x<;>first
  | (cases rx;rfl)
  | (obtain⟨t,rfl⟩:=rx;rfl)
theorem aOh:cJ X (jj .IsNot) (λ x y H Q=>y=.non/\Q (.bl (!decide (x=.non))) H):=by
 intro aB s σ H x y v u Q I rx ry h;obtain⟨rfl,q⟩:=h;cases ry;refine isnot_none_gen (aH6 I q ?_);cases x<;>first
  | (cases rx;rfl)
  | (obtain⟨t,rfl⟩:=rx;rfl)
theorem cJ.or{f:qx->qx->Sem qx}{r r':R2}(h:cJ X f r)(h':cJ X f r'):cJ X f (λ x y H Q=>r x y H Q\/r' x y H Q):=by
 intro aB s σ H x y v u Q I rx ry q;rcases q with q | q
 ·exact h aB s σ H x y v u Q I rx ry q
 ·exact h' aB s σ H x y v u Q I rx ry q
theorem aWt(b:qw){op:vv}(h:op≠.In:=by decide)(h2:op≠.NotIn:=by decide):ju op b=false:=by
 have e1:(op==CmpOp.In)=false:=by cases op<;>first | rfl | exact absurd rfl h
 have e2:(op==CmpOp.NotIn)=false:=by cases op<;>first | rfl | exact absurd rfl h2
 cases b<;>simp[ju,e1,e2]
theorem aOT{op:vv}{r:R2}(ho:cJ X (jj op) r)(ha:PE X a ta)(hb:PE X b tb)(hm:ju op b=false):PE X (.Compare a [op] [b] pos) (xC r ta tb):=by
 intro aB s σ H Q I h;exact wpAny_Compare1 (aDD ha hb I h λ v u s2 x y H2 I2 rx ry q=>ho aB s2 σ H2 x y v u Q I2 rx ry q) hm
noncomputable def aUi(t:TE):TT:=λ σ H Q=>t σ H λ x H'=>∃ k,x=.bl k/\Q k H'
theorem aOi{op:vv}{r:R2}(ho:cJ X (jj op) r)(ha:PE X a ta)(hb:PE X b tb)(hm:ju op b=false):PT X (.Compare a [op] [b] pos) (aUi (xC r ta tb)):=by
 intro aB s σ H Q I h;refine wpAny_isTrue_Compare1 (bC (ha aB s σ H _ I h) λ v s1 ⟨x,H1,I1,r1,q1⟩=>bC (hb aB s1 σ H1 _ I1 q1) λ u s2 ⟨y,H2,I2,r2,q2⟩ =>
  bC (ho aB s2 σ H2 x y v u _ I2 r1 r2 q2) λ c s3 ⟨z,H3,I3,r3,k,e,q3⟩=>?_) hm
 subst e;cases r3;exact jw ⟨H3,I3,q3⟩
def aDB(K:FrG)(x:V)(H:Hp)(k:Bool):Prop:=
 match x with
 | .non=>k=false
 | .bl b=>k=b
 | .int i=>k=(i != 0)
 | .str y=>y.length<=qk/\k=((y.length:Int) != 0)
 | .byt y=>y.size<=qk/\k=((y.size:Int) != 0)
 | .ref p=>(∃ xs,bV K H p xs/\k = !xs.isEmpty)\/(∃ xs,cD K H p xs/\k = !xs.isEmpty)\/∃ aX,H p=qq (.dK aX)/\k = !aX.isEmpty
 | _=>False
theorem aMc{κ:Type}{aX:List (κ×V)}{vs:List (κ×qx)}(r:KV aX vs):(!vs.isEmpty) = !aX.isEmpty:=by
 cases r<;>rfl
theorem aEW{xs:List V}{aF:List qx}(r:aU xs aF):(!aF.toArray.isEmpty) = !xs.isEmpty:=by
 cases r<;>simp
theorem pL:(qk:Nat)<2^63:=by rw[zj];decide
theorem aSp:aVD X (λ x H Q=>∃ k,aDB X.K x H k/\Q k H):=by
 intro aB s σ H x v Q I rx h;obtain⟨k,e,q⟩:=h;have hl:=pL;have hs:qk=16777216:=zj;cases x with
 | non =>
   cases rx;have e':k=false:=e;subst e';exact truthy_none ⟨H,I,q⟩
 | bl b =>
   cases rx;have e':k=b:=e;subst e';exact jw ⟨H,I,q⟩
 | int i =>
   obtain⟨t,rfl⟩:=rx;have e':k=(i != 0):=e;subst e';exact PySem.P.truthy_int ⟨H,I,q⟩
 | str y =>
   obtain⟨t,rfl⟩:=rx;obtain⟨hy,e'⟩:y.length<=qk/\k=((y.length:Int) != 0):=e;subst e';exact PySem.P.truthy_str (by omega) ⟨H,I.tok _,q⟩
 | byt y =>
   obtain⟨t,rfl⟩:=rx;obtain⟨hy,e'⟩:y.size<=qk/\k=((y.size:Int) != 0):=e;subst e';exact PySem.W.truthy_bytes (by omega) ⟨H,I.tok _,q⟩
 | ref p =>
   cases rx;have e':(∃ xs,bV X.K H p xs/\k = !xs.isEmpty)\/(∃ xs,cD X.K H p xs/\k = !xs.isEmpty)\/∃ aX,H p=qq (.dK aX)/\k = !aX.isEmpty:=e;rcases e' with ⟨xs,hx,e'⟩ | ⟨xs,hx,e'⟩ | ⟨aX,hx,e'⟩
   ·subst e';obtain⟨aF,r,pl,hz⟩:=I.list hx;have cF:=r.length;exact wpAny_truthy_list pl.isList (by simp only[yAe];omega) ⟨H,I.tok _,by rw[aEW r];exact q⟩
   ·subst e';obtain⟨aF,r,pl,hz⟩:=I.tuple hx;have cF:=r.length;exact truthy_tuple pl (by simp only[yAe];omega) ⟨H,I.tok _,by rw[aEW r];exact q⟩
   ·subst e';obtain⟨hz,hS,vs,r,m⟩:aX.length<=qk/\(p==sysModules)=false/\∃ vs,KV aX vs/\s.heap.DictOf (nT X.prog X.w) p vs:=I.hok p _ hx;have cF:aX.length=vs.length:=Paired.length r;exact wpAny_truthy_dict hS m (by omega) ⟨H,I.tok _,by rw[aMc r];exact q⟩
 | _=>exact(show False from e).elim
theorem aNA(ha:PE X a ta)(he:∀ fG,isTrue a X.env fG=(do let v <- fG;standAt a.pos;holding [v] (truthy v))) :
 PT X a (λ σ H Q=>ta σ H λ x H'=>∃ k,aDB X.K x H' k/\Q k H'):=by
 intro aB s σ H Q I h;exact isTrue_plain (bC (ha aB s σ H _ I h) λ v s1 ⟨x,H1,I1,r1,q1⟩=>aSp aB s1 σ H1 x v Q I1 r1 q1) (he _)
theorem aLM:cJ X (zo .Add) (λ x y H Q=>∃ i j,x=.str i/\y=.str j/\i.length+j.length<=qk/\Q (.str (i++j)) H):=by
 intro aB s σ H x y v u Q I rx ry h;obtain⟨i,j,rfl,rfl,hz,q⟩:=h;obtain⟨t,rfl⟩:=rx;obtain⟨t',rfl⟩:=ry;exact add_str (λ t' tk=>⟨.str (i++j),H,I.tok _,⟨_,rfl⟩,q⟩) hz
theorem iZ{x:V}{us:List qx}(r:aU [x] us):∃ u,us=[u]/\aZ x u:=by
 cases r with
 | cons r1 r2=>cases r2;exact⟨_,rfl,r1⟩
theorem aAR{x y:V}{us:List qx}(r:aU [x,y] us):∃ u w',us=[u,w']/\aZ x u/\aZ y w':=by
 cases r with
 | cons r1 r2 =>
   cases r2 with
   | cons r3 r4=>cases r4;exact⟨_,_,rfl,r1,r3⟩
theorem aM8:dF X (.builtin "abs") (λ xs H Q=>∃ i,xs=[.int i]/\Q (.int (if i<0 then -i else i)) H):=by
 intro aB s σ H xs us Q I r h;obtain⟨i,rfl,q⟩:=h;obtain⟨u,rfl,t,rfl⟩:=iZ r;exact call_abs_int λ u tk=>⟨.int (if i<0 then -i else i),H,I.tok _,⟨_,rfl⟩,q⟩
theorem aM0(hc:X.calm=true):dF X (.builtin "max") (λ xs H Q=>∃ i j,xs=[.int i,.int j]/\Q (.int (if j>i then j else i)) H):=by
 intro aB s σ H xs us Q I r h;obtain⟨i,j,rfl,q⟩:=h;obtain⟨u,w',rfl,⟨t,rfl⟩,⟨t',rfl⟩⟩:=aAR r;refine max_two_ints (I.ok.hd hc) λ h' tk k=>⟨_,H,I.kept k,?_,q⟩
 by_cases hj:j>i
 ·rw[if_pos hj,if_pos hj];exact⟨_,rfl⟩
 ·rw[if_neg hj,if_neg hj];exact⟨_,rfl⟩
theorem aMg(hc:X.calm=true):dF X (.builtin "min") (λ xs H Q=>∃ i j,xs=[.int i,.int j]/\Q (.int (if j<i then j else i)) H):=by
 intro aB s σ H xs us Q I r h;obtain⟨i,j,rfl,q⟩:=h;obtain⟨u,w',rfl,⟨t,rfl⟩,⟨t',rfl⟩⟩:=aAR r;refine min_two_ints (I.ok.hd hc) λ h' tk k=>⟨_,H,I.kept k,?_,q⟩
 by_cases hj:j<i
 ·rw[if_pos hj,if_pos hj];exact⟨_,rfl⟩
 ·rw[if_neg hj,if_neg hj];exact⟨_,rfl⟩
theorem aFt:dF X (.type "int") (λ xs H Q=>(∃ i,xs=[.int i]/\Q (.int i) H)\/∃ k,xs=[.bl k]/\Q (.int (if k then 1 else 0)) H):=by
 intro aB s σ H xs us Q I r h;rcases h with ⟨i,rfl,q⟩ | ⟨k,rfl,q⟩
 ·obtain⟨u,rfl,t,rfl⟩:=iZ r;exact call_int_int ⟨.int i,H,I,⟨_,rfl⟩,q⟩
 ·obtain⟨u,rfl,r1⟩:=iZ r;cases r1;exact call_int_bool ⟨.int (if k then 1 else 0),H,I.tok _,⟨_,rfl⟩,q⟩
end
end L2
namespace L2
open PySem PySem.Spec PyProof.Rows
structure ObjM(h:Heap)(x dx C:qv)(mA:Str->Option qx):Prop where
 obj:h.get? x=qq (yDl C dx)
 ns:h.Ns1 dx mA
 ne:dx≠x
theorem aMm{h:Heap}{dx:qv}{mA:Str->Option qx}(n:h.Ns1 dx mA):∃ od,h.get? dx=qq od/\∀ name,yHk name od=qq (mA name):=by
 obtain⟨o,es,ep,ho,hd,hk,_,hm⟩:=n;refine⟨o,ho,λ name=>?_⟩
 have e:=hm name;unfold nsFind findBy at e;rw[<- Array.find?_toList] at e;unfold yHk;rw[hd];dsimp only
 split
 ·rename_i y q;rw[q] at e;exact congrArg qq e
 ·rename_i q;rw[q] at e;have a:es.toList.any (·.refKey)=false:=by
   rw[List.any_eq_false];intro y hy;obtain⟨z,t,hkey⟩:=hk y (Array.mem_toList_iff.mp hy);simp[DictEntry.refKey,hkey]
  have a':¬ es.toList.any (·.refKey)=true:=by rw[a];exact yAw
  rw[if_neg a'];exact congrArg qq e
theorem ObjM.look{h:Heap}{x dx C:qv}{mA:Str->Option qx}(I:ObjM h x dx C mA):∃ od,PySem.W.InstAt h x (yDl C dx) C (qq od)/\∀ name,yHk name od=qq (mA name):=
 let ⟨od,ho,hl⟩:=aMm I.ns
 ⟨od,⟨I.obj,rfl,rfl,ho⟩,hl⟩
section
variable {prog : qo}{w : zw}{A : zy}{E : qx -> qj -> Prop}{s : qj}{K : FrG}{x dx C f : qv}{mA : Str -> Option qx}{name : Str}{v : qx}
end
section
variable {P : qo}{w : zw}{H H' : Hp}{h h' : Heap}{a C dx : qv}{fs fs' : List (Str×V)}
end
structure Cls(K:FrG)(C:qv):Prop where
 pg:PySem.W.plainGet K C Str.empty=true
 hd:PySem.W.hasDictIn K C=true
 po:PySem.W.plainOver K C=true
 sa:yFn K (.ref C) "__setattr__" = qq (qq (.builtin "object.__setattr__"))
theorem Cls.get{K:FrG}{C:qv}(c:Cls K C)(f:Str):PySem.W.plainGet K C f=true:=c.pg
structure Con(K:FrG)(C:qv)(f:Str)(v:V)(u:qx):Prop where
 at_:yFn K (.ref C) f=qq (qq u)
 rel:aZ v u
 get:PySem.W.specialIn K u "__get__" = qq qz
 cp:PySem.W.copiedNames.contains f=false
structure Meth(K:FrG)(C:qv)(m:Str)(f:qv):Prop where
 at_:yFn K (.ref C) m=qq (qq (.ref f))
 fn:PySem.W.isFn K (.ref f)=true
 kp:yCv K (.ref f)=true
section
variable {X : Cx}{aB : List (qv×Obj)}{σ : St}{H : Hp}{s : qj}{a C dx : qv}{fs : List (Str×V)}{f : Str}{v : V}{A : zy}{E : qx -> qj -> Prop}
theorem Inv.made(I:Inv X aB σ H s):Inv X aB σ (bE (bE H s.heap.objs.size (.own (s.heap.objs.size+1))) (s.heap.objs.size+1) (.ins C s.heap.objs.size []))
 {s with heap:=(s.heap.push yCd).push (yDl C s.heap.objs.size) }:=by
 have e1:(s.heap.push yCd).get? s.heap.objs.size=qq yCd:=xAe s.heap rfl;have e2:((s.heap.push yCd).push (yDl C s.heap.objs.size)).get? (s.heap.objs.size+1)=qq (yDl C s.heap.objs.size):=by
  have:=xAe (s.heap.push yCd) (o:=yDl C s.heap.objs.size) rfl;rwa [yBc] at this
 have e3:(s.heap.push yCd).Ns s.heap.objs.size (λ _=>qz):=⟨yCd,#[],_,e1,rfl,(λ e he=>absurd he (by simp)),λ _=>rfl⟩
 have I1:=I.laid (a:=s.heap.objs.size) (o:=.own (s.heap.objs.size+1)) (h':=s.heap.push yCd) (t':=s.toks) (λ b u q=>hpS _ q) (yAc _) ⟨_,e1⟩
 refine I1.laid (a:=s.heap.objs.size+1) (o:=.ins C s.heap.objs.size []) (t':=s.toks) (λ b u q=>hpS _ q) (yHe (yBc _ _)) ?_
 have ne:s.heap.objs.size≠s.heap.objs.size+1:=xAk (yEp _);refine⟨by rw[bN ne,dE],yFz _,ne,e2,λ _=>qz,(Heap.Ns1.of_empty e3).at λ o q=>hpS _ q,λ _=>True.intro,λ y hy=>absurd rfl hy⟩
end
section
variable {X : Cx}{o e value : qw}{f : Str}{pos pos' tpos : Pos}{ta tv : TE}
end
section
variable {X : Cx}{aB : List (qv×Obj)}{σ : St}{H : Hp}{s : qj}{A : zy}{E : qx -> qj -> Prop}{Q : qx -> qj -> Prop}{c : qx}{b : Bool}
inductive TyOf (K:FrG) (H:Hp):V->qx->Prop where
 | non:TyOf K H .non (.type "NoneType")
 | bl (x:Bool):TyOf K H (.bl x) (.type "bool")
 | int (i:Int):TyOf K H (.int i) (.type "int")
 | str (x:Str):TyOf K H (.str x) (.type "str")
 | flt (x:UInt64):TyOf K H (.flt x) (.type "float")
 | lst {a:qv}{xs:List V} (e:H a=qq (.lst xs)):TyOf K H (.ref a) (.type "list")
 | frz {a:qv}{o:Obj}{xs:List V} (e:H a=qq (.frz o (.lst xs))):TyOf K H (.ref a) (.type "list")
 | tup {a:qv}{xs:List V} (e:H a=qq (.tup xs)):TyOf K H (.ref a) (.type "tuple")
 | dK {a:qv}{aX:List (fO×V)} (e:H a=qq (.dK aX)):TyOf K H (.ref a) (.type "dict")
 | dT {a:qv}{aX:List (List fO×V)} (e:H a=qq (.dT aX)):TyOf K H (.ref a) (.type "dict")
 | ins {a C dx:qv}{fs:List (Str×V)} (e:H a=qq (.ins C dx fs)) (cl:Cls K C) (ha:yFn K (.ref C) "__class__" = qq (qq (.builtin "object.__class__")))
    (hn:PySem.W.specialIn K (.builtin "object.__class__") "__get__" = qq (qq (.builtin "getset_descriptor.__get__"))) (htk:PySem.W.takesIn K (.builtin "object.__class__")=qq true)
    (hm:PySem.W.mroIn K C (.type "object")=qq true):TyOf K H (.ref a) (.ref C)
end
end L2
namespace L2
open PySem PySem.Spec PyProof.Rows
structure Room(k:Nat)(A:zy):Prop where
 hd:A.handled=qz
 dp:A.depth+3*k+5<recursionLimit
 un:A.units+16*k+200<cLine
theorem Room.mono{j k:Nat}{A:zy}(r:Room k A)(h:j<=k):Room j A:=⟨r.hd,by have:=r.dp;omega,by have:=r.un;omega⟩
theorem Room.deeper{k:Nat}{A:zy}(r:Room (k+1) A)(env:Env):Room k (A.deeper env):=
 ⟨r.hd,by have:=r.dp;show A.depth+1+3*k+5<_;omega,by have:=r.un;show A.units+3+16*k+200<_;omega⟩
theorem Room.in1{k:Nat}{A:zy}(r:Room (k+1) A):Room k A.in1:=
 ⟨r.hd,by have:=r.dp;show A.depth+3*k+5<_;omega,by have:=r.un;show A.units+1+16*k+200<_;omega⟩
theorem aL4{A:zy}{C:qv}{us:List qx}{kw:List (Str×qx)}:(A.under (.builtin "type.__call__" ⟨.ref C::us,kw⟩)).depth=A.depth+1:=by
 first | rfl | simp[Around.under,Code.weight,Code.isCreation,Code.isGuard,Code.isCaller,Code.frames,Code.isFrame,guardIds]
theorem aL8{A:zy}{C:qv}{us:List qx}{kw:List (Str×qx)}:(A.under (.builtin "type.__call__" ⟨.ref C::us,kw⟩)).units=A.units+1:=by
 first | rfl | simp[Around.under,Code.cUnits,Code.frames,Code.isFrame]
theorem Room.make{k:Nat}{A:zy}(r:Room (k+1) A)(C:qv)(us:List qx)(kw:List (Str×qx)):Room k (A.under (.builtin "type.__call__" ⟨.ref C::us,kw⟩)):=
 ⟨r.hd,by have:=r.dp;rw[aL4];omega,by have:=r.un;rw[aL8];omega⟩
theorem Room.depth{k:Nat}{A:zy}(r:Room k A):A.depth<recursionLimit:=by have:=r.dp;omega
theorem Room.units{k:Nat}{A:zy}(r:Room k A):A.units+64<cLine:=by have:=r.un;omega
noncomputable def aKe:TA:=λ _ H Q=>Q [] H
noncomputable def aUt(ta:TE)(tr:TA):TA:=λ σ H Q=>ta σ H λ x H1=>tr σ H1 λ xs H2=>Q (x::xs) H2
section
variable {X : Cx}{e : qw}{es : List qw}{te : TE}{t : TA}{pos : Pos}
theorem aIp:PA X [] aKe:=λ _ _ _ _ H Q I h=>Calls.spliced_nil ⟨[],H,I,.nil,h⟩
theorem aCy(ha:PE X e te)(hr:PA X es t)(hs:zq (e::es) X.env=(false,eval e X.env)::zq es X.env:=by rfl):PA X (e::es) (aUt te t):=by
 intro pos aB s σ H Q I h;rw[hs];show qy _ _ (spliced ((false,eval e X.env)::backTo pos (zq es X.env))) _ _ s;refine Calls.spliced_cons (bC (ha aB s σ H _ I h) λ u s1 hPq24=>?_)
 obtain⟨x,H1,I1,r1,q1⟩:=hPq24;exact bC (hr pos aB s1 σ H1 _ I1 q1) λ us s2 ⟨xs,H2,I2,r2,q2⟩=>⟨x::xs,H2,I2,.cons r1 r2,q2⟩
noncomputable def aVY(t:TA):TE:=λ σ H Q=>t σ H λ xs H1=>xs.length<=qk/\∀ p,H1 p=qz->Q (.ref p) (bE H1 p (.tup xs))
noncomputable def aVp(t:TA):TE:=λ σ H Q=>t σ H λ xs H1=>xs.length<=qk/\∀ p,H1 p=qz->Q (.ref p) (bE H1 p (.lst xs))
theorem aQ0{x1}(h:PA X es t):PE X (.Tuple es x1 pos) (aVY t):=by
 intro aB s σ H Q I hq;refine wpAny_Tuple_spliced (bC (h pos aB s σ H _ I hq) λ us s1 ⟨xs,H1,I1,r,z,q⟩=>⟨by rw[<- r.length];exact z,?_⟩)
 have hf:H1 s1.heap.objs.size=qz:=I1.hok.fresh (yAc _);refine⟨.ref s1.heap.objs.size,bE H1 s1.heap.objs.size (.tup xs),I1.laid (t':=s1.toks) (λ b u e=>hpS _ e) (yAc _) ?_,rfl,q _ hf⟩
 exact⟨z,us,r,⟨_,xAe _ rfl,rfl,_,rfl⟩⟩
theorem aQW(h:PA X es t):PE X (.List es pos) (aVp t):=by
 intro aB s σ H Q I hq;refine wpAny_List_spliced (bC (h pos aB s σ H _ I hq) λ us s1 ⟨xs,H1,I1,r,z,q⟩=>⟨by rw[<- r.length];exact z,?_⟩)
 have hf:H1 s1.heap.objs.size=qz:=I1.hok.fresh (yAc _);refine⟨.ref s1.heap.objs.size,bE H1 s1.heap.objs.size (.lst xs),I1.laid (t':=s1.toks) (λ b u e=>hpS _ e) (yAc _) ?_,rfl,q _ hf⟩
 exact⟨z,us,0,r,xAe _ rfl⟩
end
noncomputable abbrev Sp:=List V->Hp->VK->XK->Prop
noncomputable abbrev jG:=List Env->Hp->qj->XK->qx->qj->Prop
structure Env0(P:qo)(w:zw)(K:FrG)(mg:Str->Option qx)(base:Heap)(A:zy)(outer:List Env)(s:qj)(H:Hp):Prop where
 frames:A.frames=qq outer
 mod:Mod K mg base
 bs:∀ b o,base.get? b=qq o->s.heap.get? b=qq o/\H b=qz
 bsz:base.objs.size<=s.heap.objs.size
 funs:s.heap.FunFrames base outer
 frf:∀ b∈iA outer,H b=qz
 hok:dL P w H s.heap
 bare:AllBare s.gens
def CE(outer:List Env)(P:qo)(w:zw)(H:Hp)(s:qj)(Q:VK)(u:qx)(s':qj):Prop:=
 ∃ v H',s'.os=s.os/\AllBare s'.gens/\Un (iA outer) [] H H' s.heap s'.heap/\dL P w H' s'.heap/\aZ v u/\Q v H'
def CR(CX:jG)(outer:List Env)(P:qo)(w:zw)(H:Hp)(s:qj)(Q:VK)(E:XK)(r:Result)(s':qj):Prop:=
 match r with
 | .ok (.ret u)=>CE outer P w H s Q u s'
 | .ok _=>False
 | .error e=>CX outer H s E e s'
structure FnOk(P:qo)(w:zw)(K:FrG)(mg:Str->Option qx)(base:Heap)(CX:jG)(k:Nat)(f:qv)(fd:vz)(ps:List Str)(sp:Sp):Prop where
 len:∀ vs H Q E,sp vs H Q E->vs.length=ps.length
 run:∀ (A:zy) (outer:List Env) (s:qj) (H:Hp) (args:Args) (us:List qx) (vs:List V) (Q:VK) (E:XK),Room k A->Env0 P w K mg base A outer s H->BindsTo s fd args (ps.zip us)->aU vs us->sp vs H Q E ->
  vy (model P w) A (.call (.ref f) args) (CR CX outer P w H s Q E) s
theorem FnOk.mono{P:qo}{w:zw}{K:FrG}{mg:Str->Option qx}{base:Heap}{CX:jG}{j k:Nat}{f:qv}{fd:vz}{ps:List Str}{sp:Sp}(F:FnOk P w K mg base CX j f fd ps sp)(h:j<=k) :
 FnOk P w K mg base CX k f fd ps sp:=⟨F.len,λ A outer s H args us vs Q E hr=>F.run A outer s H args us vs Q E (hr.mono h)⟩
theorem Env0.make{P:qo}{w:zw}{K:FrG}{mg:Str->Option qx}{base:Heap}{A:zy}{outer:List Env}{s:qj}{H:Hp}(e:Env0 P w K mg base A outer s H)(C:qv)(us:List qx)(kw:List (Str×qx)) :
 Env0 P w K mg base (A.under (.builtin "type.__call__" ⟨.ref C::us,kw⟩)) outer s H:=⟨by first | exact e.frames | (simpa [Around.under,Code.envs,Code.isFrame,pushEnvs] using e.frames),e.mod,e.bs,e.bsz,e.funs,e.frf,e.hok,e.bare⟩
theorem Env0.in1{P:qo}{w:zw}{K:FrG}{mg:Str->Option qx}{base:Heap}{A:zy}{outer:List Env}{s:qj}{H:Hp}(e:Env0 P w K mg base A outer s H) :
 Env0 P w K mg base A.in1 outer s H:=⟨e.frames,e.mod,e.bs,e.bsz,e.funs,e.frf,e.hok,e.bare⟩
section
variable {X : Cx}{aB : List (qv×Obj)}{σ : St}{H : Hp}{s s' : qj}
theorem Inv.env0(I:Inv X aB σ H s):Env0 X.prog X.w X.K X.mg X.base X.A X.stack s H:=
 ⟨I.ok.frames,I.ok.mod,I.bs,xAi I.ok.bsz I.sz,I.stack,I.stkFree,I.hok,I.bare⟩
theorem Inv.after{Q:VK}{u:qx}(I:Inv X aB σ H s)(h:CE X.stack X.prog X.w H s Q u s'):EP X aB σ Q u s':=by
 obtain⟨v,H',os,bare,un,hok,r,q⟩:=h;obtain⟨hh,g,d,t,os'⟩:=s';obtain rfl:os'=s.os:=os;exact⟨v,H',I.call (h':=hh) (g':=g) (d':=d) (t':=t) (ch:=[]) un hok bare (λ b z=>absurd z (by simp)),r,q⟩
end
noncomputable def aAB(sp:Sp)(dvs:List V)(E:XK)(t:TA):TE:=λ σ H Q=>t σ H λ vs H1=>sp (vs++dvs) H1 Q E
def mO(K:FrG)(fd:vz)(ps:List Str)(ds:List qx):Prop:=
 ∀ (s:qj) (us:List qx),K.In s.heap->(us++ds).length=ps.length->BindsTo s fd ⟨us,[]⟩ (ps.zip (us++ds))
theorem mO.all{K:FrG}{fd:vz}{ps:List Str}(h:∀ us:List qx,us.length=ps.length->bindArgs fd ⟨us,[]⟩=pure (ps.zip us)):mO K fd ps []:=λ s us _ hl=>by
 rw[yEb] at hl ⊢;exact .of_eq (h us hl)
def zZ(CX:jG)(X:Cx)(E:XK):Prop:=∀ (aB:List (qv×Obj)) (σ:St) (H:Hp) (s:qj) (e:qx) (s':qj),Inv X aB σ H s->CX X.stack H s E e s'->X.xe e s'
section
variable {X : Cx}{CX : jG}{k : Nat}{f C : qv}{fd : vz}{ps : List Str}{sp : Sp}{dvs : List V}{ds : List qx}{E : XK}{x m : Str}{p pos apos : Pos}{e o : qw}{es : List qw}{ta : TE}{t : TA}
theorem aIF{aB:List (qv×Obj)}{σ:St}{H:Hp}{s:qj}{Q:VK}{us:List qx}{vs:List V}(F:FnOk X.prog X.w X.K X.mg X.base CX k f fd ps sp)(hr:Room k X.A)(hb:mO X.K fd ps ds)(hd:aU dvs ds)(hx:zZ CX X E)
 (I:Inv X aB σ H s) (r:aU vs us) (h:sp (vs++dvs) H Q E):qy (model X.prog X.w) X.A (call (.ref f) us) (EP X aB σ Q) X.xe s:=by
 have r2:aU (vs++dvs) (us++ds):=r.append hd;have hl:(us++ds).length=ps.length:=by rw[<- r2.length];exact F.len _ _ _ _ h
 refine wpAny_call (codeAny_mono (F.run X.A X.stack s H ⟨us,[]⟩ (us++ds) (vs++dvs) Q E hr I.env0 (hb s us I.kIn hl) r2 h) λ r s' hq=>?_)
 cases r with
 | error e=>exact hx aB σ H s e s' I hq
 | ok fl =>
   cases fl with
   | ret u=>exact I.after hq
   | next=>exact False.elim hq
   | brk=>exact False.elim hq
   | cont=>exact False.elim hq
theorem aP3(F:FnOk X.prog X.w X.K X.mg X.base CX k f fd ps sp)(hr:Room k X.A)(hg:Gl X x)(hm:X.mg x=qq (.ref f))(hk:yCv X.K (.ref f)=true)(hb:mO X.K fd ps ds)(hd:aU dvs ds)(hx:zZ CX X E)
 (ha:PA X (e::es) t) (hdb:(x==("__debug__" : Str))=false:=by decide) (he:zq (e::es) X.env=(false,eval e X.env)::zq es X.env:=by rfl) (hpl:(backTo pos (zq es X.env)).any (·.1)=false:=by rfl) :
 PE X (.Call (.Name x p) (e::es) [] pos) (aAB sp dvs E t):=by
 intro aB s σ H Q I h;refine xy (aCL I hg hm ?_ hdb);refine PySem.W.callWith_K (h₀:=X.base) I.ok.mod.kin hk (bC (ha pos aB s σ H _ I h) λ us s1 ⟨vs,H1,I1,r,q⟩=>⟨I1.kIn,?_⟩) he hpl
 exact aIF F hr hb hd hx I1 r q
theorem aNW(F:FnOk X.prog X.w X.K X.mg X.base CX k f fd ps sp)(hr:Room k X.A)(hg:Gl X x)(hm:X.mg x=qq (.ref f))(hk:yCv X.K (.ref f)=true)(hb:mO X.K fd ps ds)(hd:aU dvs ds)(hx:zZ CX X E)
 (hdb:(x==("__debug__" : Str))=false:=by decide):PE X (.Call (.Name x p) [] [] pos) (aAB sp dvs E aKe):=by
 intro aB s σ H Q I h;refine xy (aCL I hg hm ?_ hdb);exact PySem.W.callWith_K0 I.kIn hk (aIF (us:=[]) F hr hb hd hx I .nil h)
structure Mk(K:FrG)(C f:qv):Prop where
 makes:PySem.W.makesIn K C=true
 init:yFn K (.ref C) "__init__" = qq (qq (.ref f))
 fn:PySem.W.isFn K (.ref f)=true
 kp:yCv K (.ref C)=true
end
section
variable {X : Cx}{CX : jG}{k : Nat}{f C : qv}{fd : vz}{ps ks : List Str}{sp : Sp}{E : XK}{x m : Str}{p pos apos kpos : Pos}{e o : qw}{es : List qw}{kws : List Keyword}{te ta : TE}{t tk : TA}{nm : Option Str}
structure KBinds(K:FrG)(fd:vz)(ps ks:List Str)(g:List qx->List qx->List qx)(gV:List V->List V->List V):Prop where
 to:∀ (s:qj) (us ws:List qx),K.In s.heap->(g us ws).length=ps.length->BindsTo s fd ⟨us,ks.zip ws⟩ (ps.zip (g us ws))
 rel:∀ {vs:List V}{us:List qx}{zs:List V}{ws:List qx},aU vs us->aU zs ws->aU (gV vs zs) (g us ws)
variable {g : List qx -> List qx -> List qx}{gV : List V -> List V -> List V}
end
structure FnScope(N P:List Str)(sc:zk):Prop where
 kind:sc.kind=.function
 co:sc.isCoroutine=false
 gen:sc.isGenerator=false
 nd:N.Nodup
 pre:N.take P.length=P
 par:∀ x∈P,sc.names.lookup x=qq .local\/sc.names.lookup x=qq .cell
 nofree:∀ y∈sc.names,y.2≠.free
theorem aFz{kindOf:Str->Option vx}{x:Str}:∀ {binds:List (Str×qx)}{m:Str->Option qx},(∀ v,(x,v) ∉ binds)->bindL kindOf binds m x=m x
 | [],_,_=>rfl
 | (n,v)::r,m,h=>by
   unfold bindL;rw[aFz λ w hw=>h w (xAg _ hw)]
   split
   ·have:x≠n:=by rintro rfl;exact h v xAd
    simp[this]
   ·rfl
theorem aFv{kindOf:Str->Option vx}{x:Str}:∀ {binds:List (Str×qx)}{m:Str->Option qx},(∀ v,(x,v) ∉ binds)->bindC kindOf binds m x=m x
 | [],_,_=>rfl
 | (n,v)::r,m,h=>by
   unfold bindC;rw[aFv λ w hw=>h w (xAg _ hw)]
   split
   ·rfl
   ·have:x≠n:=by rintro rfl;exact h v xAd
    simp[this]
theorem aFE{kindOf:Str->Option vx}{x:Str}{v:qx}:∀ {P:List Str}{vs:List qx}{i:Nat}{m:Str->Option qx},P.Nodup->P[i]? = qq x->vs[i]? = qq v->kindOf x=qq .local ->
 bindL kindOf (P.zip vs) m x=qq v
 | [],_,_,_,_,h,_,_=>by simp at h
 | _::_,[],_,_,_,_,h,_=>by simp at h
 | p::P,w::vs,0,m,nd,h1,h2,hk=>by
   simp at h1 h2;subst h1;subst h2;show bindL kindOf ((p,w)::P.zip vs) m p=_;unfold bindL;rw[aFz λ v hv=>(List.nodup_cons.mp nd).1 (List.of_mem_zip hv).1,if_pos hk]
   simp
 | p::P,w::vs,i+1,m,nd,h1,h2,hk=>by
   show bindL kindOf ((p,w)::P.zip vs) m x=_;unfold bindL;exact aFE (i:=i) (List.nodup_cons.mp nd).2 (by simpa using h1) (by simpa using h2) hk
theorem aFR{kindOf:Str->Option vx}{x:Str}{v:qx}:∀ {P:List Str}{vs:List qx}{i:Nat}{m:Str->Option qx},P.Nodup->P[i]? = qq x->vs[i]? = qq v->kindOf x≠qq .local ->
 bindC kindOf (P.zip vs) m x=qq v
 | [],_,_,_,_,h,_,_=>by simp at h
 | _::_,[],_,_,_,_,h,_=>by simp at h
 | p::P,w::vs,0,m,nd,h1,h2,hk=>by
   simp at h1 h2;subst h1;subst h2;show bindC kindOf ((p,w)::P.zip vs) m p=_;unfold bindC;rw[aFv λ v hv=>(List.nodup_cons.mp nd).1 (List.of_mem_zip hv).1,if_neg hk]
   simp
 | p::P,w::vs,i+1,m,nd,h1,h2,hk=>by
   show bindC kindOf ((p,w)::P.zip vs) m x=_;unfold bindC;exact aFR (i:=i) (List.nodup_cons.mp nd).2 (by simpa using h1) (by simpa using h2) hk
noncomputable def start(N:List Str)(vs:List V):St:=vs.map qq++yAd (N.length-vs.length) qz
noncomputable def sQ(CX:jG)(P:qo)(w:zw)(K:FrG)(mg:Str->Option qx)(base:Heap)(N:List Str)(cK:Str)(scope:zk)(f:qv)(cd:qx)(A:zy)(outer:List Env)(s:qj)(H:Hp)(E:XK):Cx where
 prog:=P
 w:=w
 K:=K
 mg:=mg
 base:=base
 A:=A.deeper (envOfC cK scope s.heap.objs.size f cd)
 N:=N
 s₀:=s
 H₀:=H
 env:=envOfC cK scope s.heap.objs.size f cd
 outer:=outer
 stack:=envOfC cK scope s.heap.objs.size f cd::outer
 ex:=[]
 calm:=true
 fn:=λ _=>true
 pn:=[]
 xe:=λ e s'=>qy (model P w) (A.deeper (envOfC cK scope s.heap.objs.size f cd)) (leaving (envOfC cK scope s.heap.objs.size f cd) e) (λ _ s''=>CX outer H s E e s'') (λ e' s''=>CX outer H s E e' s'') s'
theorem aGc{sc:zk}{n:Nat}{x:Str}(h:sc.names.lookup x=qq .cell):∃ c,(cellsFrom n sc.names []).lookup x=qq c:=by
 have q:=PySem.W.cellsFrom_some sc.names n [] (.inl h);exact Option.isSome_iff_exists.mp q
theorem aMf{CX:jG}{P:qo}{w:zw}{K:FrG}{mg:Str->Option qx}{base:Heap}{N ps:List Str}{cK:Str}{scope:zk}{f:qv}{cd:qx}{A:zy}{outer:List Env}{s s1:qj}{H:Hp}{E:XK}{us:List qx}{vs:List V}
 (S:FnScope N ps scope) (hd:A.handled=qz) (e0:Env0 P w K mg base A outer s H) (hl:vs.length=ps.length) (r:aU vs us)
 (x:InCallC s s.heap.objs.size (bindL (envOfC cK scope s.heap.objs.size f cd).kindOf (ps.zip us) λ _=>qz) (cellsFrom (s.heap.objs.size+1) scope.names []) (bindC (envOfC cK scope s.heap.objs.size f cd).kindOf (ps.zip us) λ _=>qz) s1) :
 Inv (sQ CX P w K mg base N cK scope f cd A outer s H E) [] (start N vs) H s1:=by
 have hpl:ps.length<=N.length:=by have:=congrArg List.length S.pre;rw[yBx] at this;omega
 obtain⟨h1,tk,rfl,hk⟩:=x.done;have noA:∀ b:qv,b ∉ (sQ CX P w K mg base N cK scope f cd A outer s H E).ex:=λ b z=>absurd (show b∈([]:List qv) from z) (by simp)
 refine⟨⟨e0.mod,S.kind,rfl,rfl,yAc _,λ y z c h1 h2=>?_,λ y hy=>?_,λ y c _ h=>?_,λ _=>hd,Around.frames_deeper e0.frames,.inr ⟨rfl,rfl⟩,λ b z=>absurd z (noA b),e0.bs,e0.bsz,λ b _ _=>noA b,λ b z=>absurd z (noA b),e0.funs,e0.frf⟩,
  rfl,e0.bare,Un.kept hk,⟨_,x.toInCall.ns,λ i y v h1 h2 h3=>?_⟩,λ y c h=>⟨_,x.cell y c h⟩,e0.hok.fresh (yAc _),λ y c h=>?_,λ p hp=>absurd (show p∈([]:List (qv×Obj)) from hp) (by simp),e0.hok.kept hk,?_⟩
 ·exact name_of_addr x.apart (PySem.mem_of_lookup h1) (PySem.mem_of_lookup h2)
 ·have hy:scope.names.lookup y=qq .cell\/scope.names.lookup y=qq .free:=hy;rcases hy with hy | hy
  ·exact aGc hy
  ·exact absurd rfl (S.nofree _ (PySem.mem_of_lookup hy))
 ·exact yDz (x.above y c (PySem.mem_of_lookup h))
 ·have hi:i<vs.length:=by
   unfold start at h2
   by_cases hi:i<vs.length
   ·exact hi
   ·rw[yAf (by simpa using hi)] at h2
    rw[yFa] at h2
    split at h2<;>cases h2
  have ha:vs[i]? = qq v:=by
   unfold start at h2;rw[xAn (by simpa using hi),xAb] at h2
   cases e:vs[i]? with
   | none=>rw[e] at h2;cases h2
   | some a=>rw[e] at h2;cases h2;rfl
  obtain⟨u,hu,rv⟩:=r.get ha;have hp:ps[i]? = qq y:=by
   rw[<- S.pre,yDm (by omega)];exact h1
  have ndP:ps.Nodup:=by rw[<- S.pre];exact S.nd.sublist (List.take_sublist _ _)
  refine⟨u,rv,?_⟩;rcases S.par y (xAl hp) with k | k
  ·exact .inl ⟨k,aFE ndP hp hu k⟩
  ·obtain⟨c,e⟩:=aGc (n:=s.heap.objs.size+1) k;refine .inr ⟨.inl k,c,e,?_⟩;have q:=x.cell y c e;rw[aFR ndP hp hu (by show scope.names.lookup y≠_;rw[k];decide)] at q
   exact q
 ·exact e0.hok.fresh (yDz (x.above y c (PySem.mem_of_lookup h)))
 ·unfold start;show _=N.length;rw[xAo,yAb,yEc];omega
theorem aT6{CX:jG}{P:qo}{w:zw}{K:FrG}{mg:Str->Option qx}{base:Heap}{k:Nat}{f:qv}{name cK:Str}{params:Arguments}{body:List jx}{scope:zk}{dV kV doc pm cdv ct oc:qx}{an od:Option qv}
 {osl:Array (Option qx)}{N ps:List Str}{sp:Sp} (lk:K.lookup f=qq ⟨oc,od,.func (yDd name cK params body scope dV kV doc pm an cdv ct),osl⟩) (hcd:yFo K cdv cK=true) (S:FnScope N ps scope)
 (len:∀ vs H Q E,sp vs H Q E->vs.length=ps.length)
 (hbody:∀ (A:zy) (outer:List Env) (s:qj) (H:Hp) (vs:List V) (Q:VK) (E:XK),Room k (A.deeper (envOfC cK scope s.heap.objs.size f cdv))->sp vs H Q E ->
   ∃ t,dR (sQ CX P w K mg base N cK scope f cdv A outer s H E) body t/\t {nx:=λ _ H'=>Q .non H',rt:=Q } (start N vs) H) :
 FnOk P w K mg base CX (k+1) f (yDd name cK params body scope dV kV doc pm an cdv ct) ps sp:=by
 refine⟨len,λ A outer s H args us vs Q E hr e0 hb r hsp=>?_⟩
 have hl:=len _ _ _ _ hsp;have KX:K.In s.heap:=e0.mod.kin.keeps λ b o e=>(e0.bs b o e).1
 have lim:s.heap.NoLimit:=e0.mod.nolimit.keeps λ b o e=>(e0.bs b o e).1
 have hkind:∀ y∈ps.zip us,scope.names.lookup y.1=qq .local\/(scope.names.lookup y.1=qq .cell/\((cellsFrom (s.heap.objs.size+1) scope.names []).lookup y.1).isSome=true):=λ aV hy=>by
  obtain⟨n,v⟩:=aV;rcases S.par n (List.of_mem_zip hy).1 with q | q
  ·exact .inl q
  ·exact .inr ⟨q,PySem.W.cellsFrom_some _ _ _ (.inl q)⟩
 refine codeAny_call_function hr.depth (KX _ _ lk) rfl S.co S.gen rfl (PySem.W.codeRec_of KX hcd) (hb _ _ _ _ ?_);refine wpAny_newFunctionEnv_cells S.kind hkind λ env he s1 x=>?_
 subst he;refine⟨lim.keeps x.toInCall.keep,codeAny_func ?_⟩;obtain⟨t,ht,hq⟩:=hbody A outer s H vs Q E (hr.deeper _) hsp;have I:Inv (sQ CX P w K mg base N cK scope f cdv A outer s H E) [] (start N vs) H s1:=aMf S hr.hd e0 hl r x;refine wpAny_mono (ht [] s1 (start N vs) H _ I hq) (λ fl s' hs=>?_) λ e s' hs=>hs
 have bJ:∀ {σ':St}{H':Hp}{v:V}{u:qx},Inv (sQ CX P w K mg base N cK scope f cdv A outer s H E) [] σ' H' s'->aZ v u->Q v H'->CE outer P w H s Q u s':=
  λ {σ' H' v u} J rv q=>⟨v,H',J.os,J.bare,J.base,J.hok,rv,q⟩
 cases fl with
 | ret u =>
   obtain⟨v,σ',H',J,rv,q⟩:=hs;exact bJ J rv q
 | next =>
   obtain⟨σ',H',J,q⟩:=hs;exact bJ (v:=V.non) (u:=Value.none) J rfl q
 | brk =>
   obtain⟨_,_,_,q⟩:=hs;exact False.elim q
 | cont =>
   obtain⟨_,_,_,q⟩:=hs;exact False.elim q
end L2
namespace L2
open PySem PySem.Spec PyProof.Rows
section
variable {X : Cx}{x : Str}{p pos : Pos}{e : qw}{es : List qw}{t : TA}{id T : String}{r : List V -> Hp -> VK -> Prop}
noncomputable def tCB(r:List V->Hp->VK->Prop)(t:TA):TE:=λ σ H Q=>t σ H λ vs H1=>r vs H1 Q
theorem nP(hc:dF X (.builtin id) r)(hg:Gl X x)(hm:X.mg x=qz)(hv:jq x=qq (.builtin id))(ha:PA X (e::es) t)(hn:x ≠ "__name__":=by decide)(hdb:(x==("__debug__" : Str))=false:=by decide)
 (he:zq (e::es) X.env=(false,eval e X.env)::zq es X.env:=by rfl) (hpl:(backTo pos (zq es X.env)).any (·.1)=false:=by rfl):PE X (.Call (.Name x p) (e::es) [] pos) (tCB r t):=by
 intro aB s σ H Q I h;refine xy (lA I hg hm hv ?_ hn hdb);exact PyProof.Rows.callWith_builtin1 (bC (ha pos aB s σ H _ I h) λ us s1 ⟨vs,H1,I1,r1,q1⟩=>hc aB s1 σ H1 vs us Q I1 r1 q1) he hpl
theorem aFO(hc:dF X (.type T) r)(hg:Gl X x)(hm:X.mg x=qz)(hv:jq x=qq (.type T))(ha:PA X (e::es) t)(hn:x ≠ "__name__":=by decide)(hdb:(x==("__debug__" : Str))=false:=by decide)
 (he:zq (e::es) X.env=(false,eval e X.env)::zq es X.env:=by rfl) (hpl:(backTo pos (zq es X.env)).any (·.1)=false:=by rfl):PE X (.Call (.Name x p) (e::es) [] pos) (tCB r t):=by
 intro aB s σ H Q I h;refine xy (lA I hg hm hv ?_ hn hdb);exact yBd (bC (ha pos aB s σ H _ I h) λ us s1 ⟨vs,H1,I1,r1,q1⟩=>hc aB s1 σ H1 vs us Q I1 r1 q1) he hpl
end
end L2
namespace HT
open PySem PyProof.Rows
section
open PySem.SeqAt
open PySem.AutoSeq1 (wpAny_loadPart')
open PySem.MeetsSeq PySem.MeetsSeq2 PySem.MeetsSeq3
end
section
variable {prog : qo}{w : zw}{A : zy}{E : qx -> qj -> Prop}{s : qj}
theorem cat_tup{t b:qv}{vs ws:List qx}{Q:qx->qj->Prop}(ht:IsTup s.heap t vs.toArray)(hb:IsTup s.heap b ws.toArray)(hv:vs≠[])
 (h1:ws=[]->Q (.ref t) s) (h2:ws≠[]->Q (.ref s.heap.objs.size) {s with heap:=s.heap.push {cls:=.type "tuple",data:=.seq (vs++ws).toArray } })
 (hsz:vs.length+ws.length<=qk):qy (model prog w) A (zo .Add (.ref t) (.ref b)) Q E s:=by
 obtain⟨⟨cls,dd,data,sl⟩,ho,hc,n,hd⟩:=id ht;obtain⟨⟨cls2,dd2,data2,sl2⟩,ho2,hc2,n2,hd2⟩:=id hb;simp only at hc hd hc2 hd2;subst hc hd hc2 hd2;have e:vs.toArray++ws.toArray=(vs++ws).toArray:=by simp
 by_cases hw:ws=[]
 ·exact concat_meets ⟨_,ho,rfl⟩ ⟨_,ho2,rfl⟩ noFill_tuple_add seq_tuple_add yFk yFb (yEv _ _)
   (tuple_addW1 t b vs.toArray ws.toArray n n2 dd dd2 sl sl2 (by simpa using hv) (by simp[hw])) ⟨ho,ho2,h1 hw⟩
 ·refine concat_meets ⟨_,ho,rfl⟩ ⟨_,ho2,rfl⟩ noFill_tuple_add seq_tuple_add yFk yFb (yEv _ _)
   (tuple_addW2 t b vs.toArray ws.toArray n n2 dd dd2 sl sl2 (by simpa using hv) (by simpa using hw) (by rw[yAe,yAe];exact hsz)) ⟨ho,ho2,?_⟩
  rw[e];exact h2 hw
noncomputable def sIx(n d:Nat):Option Int->Nat
 | none=>d
 | some v=>if v<0 then (v+(n:Int)).toNat else min v.toNat n
theorem sIx_none(n d:Nat):sIx n d qz=d:=rfl
theorem sIx_nat(n d k:Nat):sIx n d (qq (k:Int))=min k n:=by
 show(if (k:Int)<0 then ((k:Int)+(n:Int)).toNat else min (k:Int).toNat n)=min k n
 rw[if_neg (by omega),yAr]
theorem aQH(n d:Nat)(hd:d<=n)(o:Option Int):sIx n d o<=n:=by
 cases o with
 | none=>exact hd
 | some v =>
   show(if v<0 then (v+(n:Int)).toNat else min v.toNat n)<=n
   by_cases hv:v<0
   ·rw[if_pos hv];omega
   ·rw[if_neg hv];exact Nat.min_le_right _ _
theorem aG6(v:Int)(n d:Nat):(if v<0 then max (v+(n:Int)) 0 else min v (n:Int))=((sIx n d (qq v):Nat):Int):=by
 show(if v<0 then max (v+(n:Int)) 0 else min v (n:Int))=(((if v<0 then (v+(n:Int)).toNat else min v.toNat n):Nat):Int)
 by_cases hv:v<0
 ·simp only[if_pos hv];omega
 ·simp only[if_neg hv];omega
theorem aLX(lo hi:Option Int)(n:Nat):yEl lo hi 1 (n:Int)=(((sIx n 0 lo:Nat):Int),((sIx n n hi:Nat):Int)):=by
 have h1:¬ ((1:Int)<0):=by omega
 unfold yEl;simp only[h1,if_false];refine Prod.ext ?_ ?_
 ·cases lo with
  | none=>rfl
  | some v=>exact aG6 v n 0
 ·cases hi with
  | none=>rfl
  | some v=>exact aG6 v n n
theorem aLZ(i j:Nat):yDh (i:Int) (j:Int) 1=j-i:=by
 unfold yDh;have h1:(1:Int)>0:=by omega
 simp only[h1,if_true,Int.ediv_one]
 split<;>omega
theorem aEZ{v:qx}{o:Option Int}{Q:Option Int->qj->Prop}(p:IsPart v o)(h:Q o s):qy (model prog w) A (Builtin.Slice.slicePartIndex v) Q E s:=by
 cases p with
 | none=>exact slicePart_none h
 | int i t=>exact slicePart_int h
theorem sliceApplied_gen{sl:qv}{vl vu:qx}{lo hi:Option Int}{n:Nat}{Q:Int×Int×Nat->qj->Prop}(hs:s.heap.IsSliceOf sl vl vu .none)(pl:IsPart vl lo)(pu:IsPart vu hi)
 (h:Q (((sIx n 0 lo:Nat):Int),1,sIx n n hi-sIx n 0 lo) s):qy (model prog w) A (yGd (.ref sl) (pure (n:Int))) Q E s:=by
 obtain⟨os,hos,hcs,hds⟩:=id hs;unfold yGd Builtin.Slice.sliceFields;refine wB (wB (qu hos hds (x:=vl) rfl (wB (qu hos hds (x:=vu) rfl (wB (qu hos hds (x:=.none) rfl (wP ?_)))))));refine wB (slicePart_none ?_);show qy _ _ (if ((1:Int)==0)=true then _ else _) _ _ s
 rw[if_neg (by decide)]
 refine wB (aEZ pl (wB (aEZ pu (wB (wP ?_)))));show qy _ _ (match yEl lo hi 1 (n:Int) with | (lo,hi)=>pure (lo,(1:Int),yDh lo hi 1)) _ _ s
 rw[aLX lo hi n];show qy _ _ (pure (((sIx n 0 lo:Nat):Int),(1:Int),yDh ((sIx n 0 lo:Nat):Int) ((sIx n n hi:Nat):Int) 1)) _ _ s;rw[aLZ];exact wP h
theorem aM9(xs:Array qx)(i k:Nat):((yAo k).filterMap λ(m:Nat)=>xs[((i:Int)+(m:Int)*1).toNat]?).toArray=((xs.toList.drop i).take k).toArray:=by
 have e:(λ(m:Nat)=>xs[((i:Int)+(m:Int)*1).toNat]?)=λ m=>xs[i+m]?:=by
  funext m
  have:((i:Int)+(m:Int)*1).toNat=i+m:=by omega
  rw[this]
 rw[e];have:=pick_run xs i k;rw[List.filterMap_map] at this;have e2:((λ x=>xs[x]?) ∘ λ x=>i+x)=λ m=>xs[i+m]?:=rfl
 rw[e2] at this;rw[this]
theorem getItem_tuple_cut{t sl:qv}{aQ:Array qx}{vl vu:qx}{lo hi:Option Int}{Q:qx->qj->Prop}(ht:IsTup s.heap t aQ)(hs:s.heap.IsSliceOf sl vl vu .none)(pl:IsPart vl lo)(pu:IsPart vu hi)
 (hw:¬ (sIx aQ.size 0 lo=0/\sIx aQ.size aQ.size hi=aQ.size))
 (h:Q (.ref s.heap.objs.size) {s with heap:=s.heap.push {cls:=.type "tuple",data:=.seq ((aQ.toList.drop (sIx aQ.size 0 lo)).take (sIx aQ.size aQ.size hi-sIx aQ.size 0 lo)).toArray } })
 (hsz:aQ.size<=qk):qy (model prog w) A (getItem (.ref t) (.ref sl)) Q E s:=by
 have htake:sizeOk (.seq ((aQ.toList.drop (sIx aQ.size 0 lo)).take (sIx aQ.size aQ.size hi-sIx aQ.size 0 lo)).toArray):=by
  show((aQ.toList.drop (sIx aQ.size 0 lo)).take (sIx aQ.size aQ.size hi-sIx aQ.size 0 lo)).toArray.size<=qk;rw[yAe,yBx,yFt,yDq];omega
 have hj:sIx aQ.size aQ.size hi<=aQ.size:=aQH _ _ (yAc _) hi;obtain⟨os,hos,hcs,hds⟩:=id hs;have hTs:s.TypeIs (.ref sl) "slice":=⟨os,hos,hcs⟩;unfold getItem
 try with_reducible refine zu ?_
 first | refine wB (wP ?_) | skip
 refine wB (wpAny_sequenceKey ht.typeIs (by decide) ?_)
 refine wB (wpAny_callSpecial?_slot (name:=Str.ofString "__getitem__") ht.typeIs yCe
  (xz yCe ht.typeIs entry_tuple_getitem ?_ (args_tuple_getitem _ _)))
 show qy _ _ (yGe (.ref t) >>= _) _ _ s;refine wB (tupleItemsOf_ ht ?_);refine wB (wpAny_typeOf hTs ?_);rw[if_pos (by decide)]
 refine wB (sliceApplied_gen hs pl pu ?_);have hno:¬ ((((sIx aQ.size 0 lo:Nat):Int)==0&&(1:Int)==1&&(sIx aQ.size aQ.size hi-sIx aQ.size 0 lo)==aQ.size)=true):=by
  intro q;rw[yAu,yAu] at q;have q1:((sIx aQ.size 0 lo:Nat):Int)=0:=eq_of_beq q.1.1;have q2:sIx aQ.size aQ.size hi-sIx aQ.size 0 lo=aQ.size:=eq_of_beq q.2;exact hw ⟨by omega,by omega⟩
 show qy _ _ (if (((sIx aQ.size 0 lo:Nat):Int)==0&&(1:Int)==1&&(sIx aQ.size aQ.size hi-sIx aQ.size 0 lo)==aQ.size)=true then _ else _) _ _ s
 rw[if_neg hno,aM9]
 first
  | exact wB (m:=yCn _) (xk (wP ⟨_,rfl,wP h⟩) htake)
  | exact wB (m:=yCn _) (xk (wB (wP (wP ⟨_,rfl,wP h⟩))) htake)
  | exact wB (wB (m:=yCn _) (xk (wP (wP ⟨_,rfl,wP h⟩)) htake))
  | exact wB (wB (m:=yCn _) (xk (wP ⟨_,rfl,wP h⟩) htake))
end
end HT
namespace L2
open PySem PySem.Spec PyProof.Rows
noncomputable abbrev TO:=St->Hp->(Option Int->Hp->Prop)->Prop
def PO(X:Cx)(e:Option qw)(t:TO):Prop:=
 ∀ (aB:List (qv×Obj)) (s:qj) (σ:St) (H:Hp) (Q:Option Int->Hp->Prop),Inv X aB σ H s->t σ H Q ->
  qy (model X.prog X.w) X.A (evalPart e X.env) (λ u s'=>∃ o H',Inv X aB σ H' s'/\IsPart u o/\Q o H') X.xe s
noncomputable def aPR:TO:=λ _ H Q=>Q qz H
noncomputable def aTW(t:TE):TO:=λ σ H Q=>t σ H λ x H1=>∃ i,x=.int i/\Q (qq i) H1
section
variable {X : Cx}{e : qw}{te : TE}{lo hi : Option qw}{tl th : TO}{pos p2 : Pos}
theorem aPk:PO X qz aPR:=by
 intro aB s σ H Q I h;rw[evalPart_none];exact wP ⟨qz,H,I,.none,h⟩
theorem aCH(h:PE X e te):PO X (qq e) (aTW te):=by
 intro aB s σ H Q I hw;rw[evalPart_some];refine bC (h aB s σ H _ I hw) λ u s1 hPq25=>?_
 obtain⟨x,H1,I1,r1,q1⟩:=hPq25;obtain⟨i,rfl,q⟩:=q1;obtain⟨t,rfl⟩:=r1;exact⟨qq i,H1,I1,.int i t,q⟩
def oW(X:Cx)(r:V->Option Int->Option Int->Hp->VK->Prop):Prop:=
 ∀ (aB:List (qv×Obj)) (s:qj) (σ:St) (H:Hp) (x:V) (v vl vu:qx) (lo hi:Option Int) (sl:qv) (Q:VK),Inv X aB σ H s->aZ x v->s.heap.IsSliceOf sl vl vu .none->IsPart vl lo->IsPart vu hi->r x lo hi H Q ->
  ∃ T id,typeLookup (.type T) "__getitem__" = pure (qq (.builtin id))/\s.TypeIs v T/\qy (model X.prog X.w) X.A (getItem v (.ref sl)) (EP X aB σ Q) X.xe s
theorem oW.or{r r':V->Option Int->Option Int->Hp->VK->Prop}(h:oW X r)(h':oW X r'):oW X (λ x lo hi H Q=>r x lo hi H Q\/r' x lo hi H Q):=by
 intro aB s σ H x v vl vu lo hi sl Q I rx hs pl pu q;rcases q with q | q
 ·exact h aB s σ H x v vl vu lo hi sl Q I rx hs pl pu q
 ·exact h' aB s σ H x v vl vu lo hi sl Q I rx hs pl pu q
noncomputable def tSl(r:V->Option Int->Option Int->Hp->VK->Prop)(te:TE)(tl th:TO):TE:=λ σ H Q=>te σ H λ x H1=>tl σ H1 λ l H2=>th σ H2 λ u H3=>r x l u H3 Q
theorem aGw{r:V->Option Int->Option Int->Hp->VK->Prop}(hr:oW X r)(he:PE X e te)(hl:PO X lo tl)(hu:PO X hi th):PE X (.Subscript e (.Slice lo hi qz p2) pos) (tSl r te tl th):=by
 intro aB s σ H Q I h;refine Subscript_ (bC (he aB s σ H _ I h) λ v s1 hPq26=>?_)
 obtain⟨x,H1,I1,r1,q1⟩:=hPq26;refine wpAny_Slice (bC (hl aB s1 σ H1 _ I1 q1) λ vl s2 ⟨l,H2,I2,pl,q2⟩=>bC (hu aB s2 σ H2 _ I2 q2) λ vu s3 hPq27=>?_)
 obtain⟨u,H3,I3,pu,q3⟩:=hPq27;rw[evalPart_none];refine wP ?_;have I4:Inv X aB σ H3 {s3 with heap:=s3.heap.push {cls:=.type "slice",data:=.fields #[vl,vu,.none] } }:=I3.kept (t':=s3.toks) λ b ob q=>hpS _ q
 obtain⟨T,id,hT,ht,hg⟩:=hr aB {s3 with heap:=s3.heap.push {cls:=.type "slice",data:=.fields #[vl,vu,.none] } } σ H3 x v vl vu l u s3.heap.objs.size Q I4 r1 (Heap.IsSliceOf.new ..) pl pu q3
 show qy (model X.prog X.w) X.A (subscriptTail e (.Slice lo hi qz p2) v (.ref s3.heap.objs.size)) (EP X aB σ Q) X.xe {s3 with heap:=s3.heap.push {cls:=.type "slice",data:=.fields #[vl,vu,.none] } }
 exact tail_any (ops:=[.ref s3.heap.objs.size,v]) ht hT hg (by with_unfolding_all rfl)
noncomputable def mU(xs:List V)(lo hi:Option Int):List V:=(xs.drop (HT.sIx xs.length 0 lo)).take (HT.sIx xs.length xs.length hi-HT.sIx xs.length 0 lo)
theorem aEG(xs:List V)(lo hi:Option Int):(mU xs lo hi).length<=xs.length:=by
 unfold mU;rw[yBx,yFt];omega
noncomputable def aVS(K:FrG):V->Option Int->Option Int->Hp->VK->Prop:=λ x lo hi H Q=>∃ a xs,x=.ref a/\cD K H a xs /\
 ¬ (HT.sIx xs.length 0 lo=0/\HT.sIx xs.length xs.length hi=xs.length)/\∀ p,H p=qz->Q (.ref p) (bE H p (.tup (mU xs lo hi)))
theorem aQa:oW X (aVS X.K):=by
 intro aB s σ H x v vl vu lo hi sl Q I rx hs pl pu h;obtain⟨a,xs,rfl,hx,hw,q⟩:=h;cases rx;obtain⟨aF,r,ht,hz⟩:=I.tuple hx;have cF:aF.toArray.size=xs.length:=by rw[yAe];exact r.length.symm
 refine⟨"tuple",_,PyProof.Rows.slot_tuple_getitem.lookup,ht.typeIs,?_⟩;refine HT.getItem_tuple_cut ht hs pl pu (by rw[cF];exact hw) ?_ (by rw[cF];exact hz)
 rw[cF];refine⟨.ref s.heap.objs.size,_,I.laid (t':=s.toks) (o:=.tup (mU xs lo hi)) (λ b ob q=>hpS _ q) (yAc _) ?_,rfl,q _ (I.hok.fresh (yAc _))⟩
 exact⟨xAi (aEG xs lo hi) hz,_,(r.drop (HT.sIx xs.length 0 lo)).take (HT.sIx xs.length xs.length hi-HT.sIx xs.length 0 lo),IsTup.new _ _⟩
noncomputable def aUO(K:FrG):R2:=λ x y H Q=>∃ a b xs ys,x=.ref a/\y=.ref b/\cD K H a xs/\cD K H b ys/\xs≠[]/\xs.length+ys.length<=qk /\
 (ys=[]->Q (.ref a) H)/\(ys≠[]->∀ p,H p=qz->Q (.ref p) (bE H p (.tup (xs++ys))))
theorem aU.nil_iff{xs:List V}{us:List qx}(r:aU xs us):us=[] ↔ xs=[]:=by
 cases r with
 | nil=>simp
 | cons _ _=>simp
theorem aPB:cJ X (zo .Add) (aUO X.K):=by
 intro aB s σ H x y v u Q I rx ry h;obtain⟨a,b,xs,ys,rfl,rfl,ha,hb,hx,hz,q1,q2⟩:=h;cases rx;cases ry;obtain⟨aF,r1,p1,_⟩:=I.tuple ha;obtain⟨eG,r2,p2,_⟩:=I.tuple hb;refine HT.cat_tup p1 p2 (λ z=>hx (r1.nil_iff.mp z)) (λ z=>⟨.ref a,H,I,rfl,q1 (r2.nil_iff.mp z)⟩) (λ z=>?_) (by rw[<- r1.length,<- r2.length];exact hz)
 refine⟨.ref s.heap.objs.size,_,I.laid (t':=s.toks) (o:=.tup (xs++ys)) (λ b ob q=>hpS _ q) (yAc _) ?_,rfl,q2 (λ w=>z (r2.nil_iff.mpr w)) _ (I.hok.fresh (yAc _))⟩
 exact⟨by rw[xAo];exact hz,_,r1.append r2,IsTup.new _ _⟩
end
end L2
namespace L2
open PySem PySem.Spec PyProof.Rows
noncomputable def jJ(n:Nat)(i:Int):Option Nat:=if 0<=i then (if i<n then qq i.toNat else qz) else if -(n:Int)<=i then qq (i+n).toNat else qz
noncomputable def kH{α:Type}(xs:List α)(i:Int):Option α:=(jJ xs.length i).bind λ j=>xs[j]?
theorem aHc{n:Nat}{i:Int}{j:Nat}(h:jJ n i=qq j):seqIndex? i n=qq j/\j<n /\ -(n:Int)<=i/\i<n:=by
 unfold jJ at h
 by_cases h0:0<=i
 ·rw[if_pos h0] at h
  by_cases h1:i<n
  ·rw[if_pos h1] at h;have e:i.toNat=j:=Option.some.inj h;exact⟨by rw[seqIndex_of h0 h1,e],by omega,by omega,h1⟩
  ·rw[if_neg h1] at h;cases h
 ·rw[if_neg h0] at h
  by_cases h1 : -(n:Int)<=i
  ·rw[if_pos h1] at h;have e:(i+n).toNat=j:=Option.some.inj h;exact⟨by rw[seqIndex_neg (by omega) h1,e],by omega,h1,by omega⟩
  ·rw[if_neg h1] at h;cases h
theorem aCB{α:Type}{xs:List α}{i:Int}{v:α}(h:kH xs i=qq v):∃ j,seqIndex? i xs.length=qq j/\xs[j]? = qq v/\j<xs.length /\ -(xs.length:Int)<=i/\i<xs.length:=by
 unfold kH at h;cases e:jJ xs.length i with
 | none=>rw[e] at h;cases h
 | some j =>
   rw[e] at h;obtain⟨h1,h2,h3,h4⟩:=aHc e;exact⟨j,h1,h,h2,h3,h4⟩
def zR(b:qw):Prop:=∀ o i,subscripted b false o i=operate [o,i] (getItem o i)
def lW(X:Cx)(r:R2):Prop:=
 ∀ (value iV:qw) (aB:List (qv×Obj)) (s:qj) (σ:St) (H:Hp) (x y:V) (v u:qx) (Q:VK),Inv X aB σ H s->aZ x v->aZ y u->r x y H Q ->
  subscripted iV false v u=operate [v,u] (getItem v u)->qy (model X.prog X.w) X.A (subscriptTail value iV v u) (EP X aB σ Q) X.xe s
def qH(X:Cx)(id:String)(r:V->List V->Hp->VK->Prop):Prop:=
 ∀ (aB:List (qv×Obj)) (s:qj) (σ:St) (H:Hp) (x:V) (xs:List V) (v:qx) (us:List qx) (Q:VK),Inv X aB σ H s->aZ x v->aU xs us->r x xs H Q ->
  qy (model X.prog X.w) X.A (call (.builtin id) (v::us)) (EP X aB σ Q) X.xe s
section
variable {X : Cx}{a b : qw}{ta tb : TE}{pos : Pos}
theorem lW.or{r r':R2}(h:lW X r)(h':lW X r'):lW X (λ x y H Q=>r x y H Q\/r' x y H Q):=by
 intro value iV aB s σ H x y v u Q I rx ry q hs;rcases q with q | q
 ·exact h value iV aB s σ H x y v u Q I rx ry q hs
 ·exact h' value iV aB s σ H x y v u Q I rx ry q hs
theorem qH.or{id:String}{r r':V->List V->Hp->VK->Prop}(h:qH X id r)(h':qH X id r'):qH X id (λ x xs H Q=>r x xs H Q\/r' x xs H Q):=by
 intro aB s σ H x xs v us Q I rx rs q;rcases q with q | q
 ·exact h aB s σ H x xs v us Q I rx rs q
 ·exact h' aB s σ H x xs v us Q I rx rs q
theorem aJa{r:R2}(hr:lW X r)(ha:PE X a ta)(hb:PE X b tb)(hs:zR b):PE X (.Subscript a b pos) (xC r ta tb):=by
 intro aB s σ H Q I h;exact Subscript_ (aDD ha hb I h λ v u s2 x y H2 I2 rx ry q=>hr a b aB s2 σ H2 x y v u Q I2 rx ry q (hs _ _))
noncomputable def aVw(K:FrG):R2:=λ x y H Q=>∃ p xs i v,x=.ref p/\y=.int i/\bV K H p xs/\kH xs i=qq v/\Q v H
noncomputable def aWa(K:FrG):R2:=λ x y H Q=>∃ p xs i v,x=.ref p/\y=.int i/\cD K H p xs/\kH xs i=qq v/\Q v H
noncomputable def aVi:R2:=λ x y H Q=>∃ z i c,x=.str z/\y=.int i/\z.length<=qk/\kH z.cps.toList i=qq c/\Q (.str ⟨#[c]⟩) H
theorem aPw:lW X (aVw X.K):=by
 intro value iV aB s σ H x y v u Q I rx ry h hs;obtain⟨p,xs,i,z,rfl,rfl,hq,he,q⟩:=h;cases rx;obtain⟨t,rfl⟩:=ry;obtain⟨aF,r,pl,hz⟩:=I.list hq;obtain⟨j,h1,h2,h3,h4,h5⟩:=aCB he;obtain⟨w,ew,rw'⟩:=r.get h2;have hl:=r.length;have hn:=pL;have bJ:EP X aB σ Q w s:=⟨z,H,I,rw',q⟩
 by_cases h0:0<=i
 ·have hj:i.toNat=j:=by
   rw[seqIndex_of h0 h5] at h1;exact Option.some.inj h1
  exact item_listR pl.isList h0 (by omega) (by rw[hj];simpa using ew) bJ hs
 ·have hj:(i+(aF.toArray.size:Int)).toNat=j:=by
   rw[seqIndex_neg (by omega) h4] at h1
   rw[yAe,<- hl];exact Option.some.inj h1
  exact subscriptTail_builtinR (x:=w) pl.isList.typeIs slot_list_getitem.lookup
   (wpAny_getItem_list_neg (Q:=λ r s'=>r=w/\EP X aB σ Q r s') pl.isList (by omega) (by rw[yAe]<;>omega) (by omega) (by rw[hj];simpa using ew) ⟨rfl,bJ⟩) hs
theorem aQK:lW X (aWa X.K):=by
 intro value iV aB s σ H x y v u Q I rx ry h hs;obtain⟨p,xs,i,z,rfl,rfl,hq,he,q⟩:=h;cases rx;obtain⟨t,rfl⟩:=ry;obtain⟨aF,r,pl,hz⟩:=I.tuple hq;obtain⟨j,h1,h2,h3,h4,h5⟩:=aCB he;obtain⟨w,ew,rw'⟩:=r.get h2;have hl:=r.length;have hn:=pL;have bJ:EP X aB σ Q w s:=⟨z,H,I,rw',q⟩;exact subscriptTail_builtinR (x:=w) pl.typeIs slot_tuple_getitem.lookup
  (getItem_tuple (j:=j) (Q:=λ r s'=>r=w/\EP X aB σ Q r s') pl (by omega) (by omega) (by rw[yAe,<- hl];exact h1) (by simpa using ew) ⟨rfl,bJ⟩) hs
theorem aQR:lW X aVi:=by
 intro value iV aB s σ H x y v u Q I rx ry h hs;obtain⟨z,i,c,rfl,rfl,hz,he,q⟩:=h;obtain⟨t,rfl⟩:=rx;obtain⟨t',rfl⟩:=ry;obtain⟨j,h1,h2,h3,h4,h5⟩:=aCB he;have hl:z.cps.toList.length=z.length:=by simp[Str.length]
 rw[hl] at h1 h4 h5;have hn:=pL;exact tail_any (typeIs_str s z t) slot_str_getitem.lookup (getItem_str (c:=c) (by
  have e1:decide (i < -(2^63:Int))=false:=dqF (by omega)
  have e2:decide (i ≥ 2^63)=false:=dqF (by omega)
  rw[e1,e2,yDr]) (by rw[h1];simpa using h2) ⟨.str ⟨#[c]⟩,H,I.tok _,⟨_,rfl⟩,q⟩) hs
theorem aMb(aF:List qx)(n j:Nat)(u:qx):Obj.mapSeq (·.setIfInBounds j u) {cls:=.type "list",data:=.seq aF.toArray n }={cls:=.type "list",data:=.seq (aF.set j u).toArray n }:=by
 simp[Obj.mapSeq]
theorem Inv.lst{aB:List (qv×Obj)}{σ:St}{H:Hp}{s:qj}{p:qv}{xs:List V}(I:Inv X aB σ H s)(h:H p=qq (.lst xs)) :
 ∃ (aF:List qx) (n:Nat),aU xs aF/\s.heap.get? p=qq {cls:=.type "list",data:=.seq aF.toArray n }/\xs.length<=qk:=by
 obtain⟨z,aF,n,r,e⟩:=I.hok p _ h;exact⟨aF,n,r,e,z⟩
theorem Inv.lstUpd{aB:List (qv×Obj)}{σ:St}{H:Hp}{s:qj}{p:qv}{xs ys:List V}{aF its':List qx}{n n':Nat}{f:Obj->Obj}(I:Inv X aB σ H s)(h:H p=qq (.lst xs))
 (ho:s.heap.get? p=qq {cls:=.type "list",data:=.seq aF.toArray n }) (hf:f {cls:=.type "list",data:=.seq aF.toArray n }={cls:=.type "list",data:=.seq its'.toArray n' }) (r:aU ys its') (hz:ys.length<=qk) (t:Nat) :
 Inv X aB σ (bE H p (.lst ys)) {s with heap:=s.heap.update p f,toks:=t }:=by
 have e:(s.heap.update p f).get? p=qq {cls:=.type "list",data:=.seq its'.toArray n' }:=by
  rw[yCk f ho (by rw[hf]<;>rfl),hf]
 refine I.write (x:=p) (e:=p) (by rw[h];trivial) (.inl rfl) (λ b u hb q=>(yBt _ _ (Ne.symm hb)).trans q) ⟨_,e⟩ ?_
 exact⟨hz,its',n',r,e⟩
noncomputable def aJA:V->V->V->Hp->(Hp->Prop)->Prop:=λ o i v H Q=>∃ p xs k j,o=.ref p/\i=.int k/\H p=qq (.lst xs)/\jJ xs.length k=qq j/\Q (bE H p (.lst (xs.set j v)))
theorem aNw:aKi X aJA:=by
 intro aB s σ H o i v ov iv u Q I ro ri rv h;obtain⟨p,xs,k,j,rfl,rfl,hp,hj,q⟩:=h;cases ro;obtain⟨t,rfl⟩:=ri;obtain⟨aF,n,r,ho,hz⟩:=I.lst hp;obtain⟨h1,h2,h3,h4⟩:=aHc hj;have hl:=r.length;have hn:=pL;have I':Inv X aB σ (bE H p (.lst (xs.set j v))) {s with heap:=s.heap.update p (Obj.mapSeq (·.setIfInBounds j u)) }:=
  I.lstUpd hp ho (aMb aF n j u) (r.set rv j) (by rw[yBe];exact hz) s.toks
 by_cases h0:0<=k
 ·have hk:k.toNat=j:=by
   rw[seqIndex_of h0 h4] at h1;exact Option.some.inj h1
  exact PySem.W.ki_setAt ho h0 (by omega) (by rw[yAe,<- hl];exact h4) (by rw[hk];exact⟨_,I',q⟩)
 ·have hk:(k+(aF.toArray.size:Int)).toNat=j:=by
   rw[seqIndex_neg (by omega) h3] at h1
   rw[yAe,<- hl];exact Option.some.inj h1
  exact PySem.W.ki_setBack ho (by omega) (by rw[yAe,<- hl];exact h3) (by omega) (by rw[hk];exact⟨_,I',q⟩)
theorem aLl(lo hi:Option Int)(n:Nat):(wq lo hi qz n).1=((HT.sIx n 0 lo:Nat):Int)/\(wq lo hi qz n).2.1=((HT.sIx n n hi:Nat):Int)/\(wq lo hi qz n).2.2=1:=by
 refine⟨?_,?_,rfl⟩
 ·cases lo with
  | none=>simp[wq,HT.sIx]
  | some i =>
    simp only[wq,HT.sIx,yGy,show(1:Int)>0 by decide,if_true]
    by_cases h:i<0
    ·simp only[h,if_true]<;>omega
    ·simp only[h,if_false]<;>omega
 ·cases hi with
  | none=>simp[wq,HT.sIx]
  | some i =>
    simp only[wq,HT.sIx,yGy,show(1:Int)>0 by decide,if_true]
    by_cases h:i<0
    ·simp only[h,if_true]<;>omega
    ·simp only[h,if_false]<;>omega
theorem aLd(aF:List qx)(lo hi:Option Int):slicePick aF.toArray lo hi qz=((aF.drop (HT.sIx aF.length 0 lo)).take (HT.sIx aF.length aF.length hi-HT.sIx aF.length 0 lo)).toArray:=by
 obtain⟨h1,h2,h3⟩:=aLl lo hi aF.toArray.size;unfold slicePick;rw[h1,h2,h3];simp only[sliceRange_one,pick_run,yAe]<;>rfl
noncomputable def aVj(K:FrG):V->Option Int->Option Int->Hp->VK->Prop:=λ x lo hi H Q=>∃ a xs,x=.ref a/\bV K H a xs/\∀ p,H p=qz->Q (.ref p) (bE H p (.lst (mU xs lo hi)))
theorem aOn:oW X (aVj X.K):=by
 intro aB s σ H x v vl vu lo hi sl Q I rx hs pl pu h;obtain⟨a,xs,rfl,hx,q⟩:=h;cases rx;obtain⟨aF,r,ht,hz⟩:=I.list hx;have cF:=r.length;refine⟨"list",_,slot_list_getitem.lookup,ht.isList.typeIs,?_⟩;refine wpAny_getItem_list_slice ht.isList hs pl pu .none (by simp) ?_ (by rw[yAe]<;>omega)
 rw[aLd,<- cF];refine⟨.ref s.heap.objs.size,_,I.laid (t':=s.toks) (o:=.lst (mU xs lo hi)) (λ b ob q=>hpS _ q) (yAc _) ?_,rfl,q _ (I.hok.fresh (yAc _))⟩
 exact⟨xAi (aEG xs lo hi) hz,_,0,(r.drop (HT.sIx xs.length 0 lo)).take (HT.sIx xs.length xs.length hi-HT.sIx xs.length 0 lo),xAe _ rfl⟩
noncomputable def lI:V->Bool
 | .non=>true
 | .bl _=>true
 | .int _=>true
 | .str _=>true
 | _=>false
noncomputable def nE:V->V->Bool
 | .non,.non=>true
 | .bl a,.bl b=>a==b
 | .bl a,.int b=>(if a then 1 else 0)==b
 | .int a,.bl b=>a==(if b then 1 else 0)
 | .int a,.int b=>a==b
 | .str a,.str b=>a==b
 | _,_=>false
theorem aSd{A:zy}{s:qj}{y x:V}{u v:qx}(ry:aZ y u)(rx:aZ x v)(fy:lI y=true)(fx:lI x=true):SeqAt.EqAt A s u v (nE y x):=by
 cases y with
 | non =>
   cases ry;cases x with
   | non=>cases rx;exact SeqAt.EqAt.same _
   | bl b=>cases rx;exact SeqAt.EqAt.none_bool b
   | int b=>obtain⟨t,rfl⟩:=rx;exact SeqAt.EqAt.none_int b t
   | str b=>obtain⟨t,rfl⟩:=rx;exact SeqAt.EqAt.none_str b t
   | _=>exact absurd (show false=true from fx) yAw
 | bl a =>
   cases ry;cases x with
   | non=>cases rx;exact SeqAt.EqAt.bool_none a
   | bl b=>cases rx;exact SeqAt.EqAt.bool_bool a b
   | int b=>obtain⟨t,rfl⟩:=rx;exact SeqAt.EqAt.bool_int a b t
   | str b=>obtain⟨t,rfl⟩:=rx;exact SeqAt.EqAt.bool_str a b t
   | _=>exact absurd (show false=true from fx) yAw
 | int a =>
   obtain⟨t',rfl⟩:=ry;cases x with
   | non=>cases rx;exact SeqAt.EqAt.int_none a t'
   | bl b=>cases rx;exact SeqAt.EqAt.int_bool a t' b
   | int b=>obtain⟨t,rfl⟩:=rx;exact SeqAt.EqAt.int_int a t' b t
   | str b=>obtain⟨t,rfl⟩:=rx;exact SeqAt.EqAt.int_str a t' b t
   | _=>exact absurd (show false=true from fx) yAw
 | str a =>
   obtain⟨t',rfl⟩:=ry;cases x with
   | non=>cases rx;exact SeqAt.EqAt.str_none a t'
   | bl b=>cases rx;exact SeqAt.EqAt.str_bool a t' b
   | int b=>obtain⟨t,rfl⟩:=rx;exact SeqAt.EqAt.str_int a t' b t
   | str b=>obtain⟨t,rfl⟩:=rx;exact SeqAt.EqAt.str_str a t' b t
   | _=>exact absurd (show false=true from fx) yAw
 | _=>exact absurd (show false=true from fy) yAw
noncomputable def gU(x:V)(u:qx):Bool:=match u with
 | .none=>nE .non x
 | .bool b=>nE (.bl b) x
 | .int i _=>nE (.int i) x
 | .str z _=>nE (.str z) x
 | _=>false
theorem aIs{x y:V}{u:qx}(r:aZ y u)(f:lI y=true):gU x u=nE y x:=by
 cases y with
 | non=>cases r;rfl
 | bl b=>cases r;rfl
 | int i=>obtain⟨t,rfl⟩:=r;rfl
 | str z=>obtain⟨t,rfl⟩:=r;rfl
 | _=>exact absurd (show false=true from f) yAw
theorem uT{x:V}:∀ {xs:List V}{us:List qx},aU xs us->xs.all lI=true->us.any (gU x)=xs.any λ y=>nE y x
 | _,_,.nil,_=>rfl
 | y::xs,u::us,.cons r t,f=>by
   rw[List.all_cons,yAu] at f;rw[List.any_cons,List.any_cons,aIs r f.1,uT t f.2]
theorem uI{A:zy}{s:qj}{x:V}{v:qx}(rx:aZ x v)(fx:lI x=true):∀ {xs:List V}{us:List qx},aU xs us->xs.all lI=true->∀ u∈us,SeqAt.EqAt A s u v (gU x u)
 | _,_,.nil,_=>λ u hu=>by cases hu
 | y::xs,u::us,.cons r t,f=>λ u' hu=>by
   rw[List.all_cons,yAu] at f;rcases List.mem_cons.mp hu with rfl | hu
   ·rw[aIs r f.1];exact aSd r rx f.1 fx
   ·exact uI rx fx t f.2 u' hu
noncomputable def sY(x:V)(xs:List V):Bool:=xs.any λ y=>nE y x
noncomputable def rIn(K:FrG)(neg:Bool):R2:=λ x y H Q=>∃ p xs,y=.ref p/\(bV K H p xs\/cD K H p xs)/\lI x=true/\xs.all lI=true/\Q (.bl (if neg then !sY x xs else sY x xs)) H
theorem aMW:cJ X (jj .In) (rIn X.K false):=by
 intro aB s σ H x y v u Q I rx ry h;obtain⟨p,xs,rfl,hq,fx,fs,q⟩:=h;cases ry;rcases hq with hq | hq
 ·obtain⟨aF,r,pl,hz⟩:=I.list hq;refine SeqAt.in_listAt (gU x) pl.isList (λ w hw=>uI rx fx r fs w (by simpa using hw)) ⟨.bl _,H,I,rfl,?_⟩
  rw[show aF.toArray.any (gU x)=aF.any (gU x) by simp,uT r fs]
  exact q
 ·obtain⟨aF,r,pl,hz⟩:=I.tuple hq;refine SeqAt.in_tupleAt (gU x) pl (λ w hw=>uI rx fx r fs w (by simpa using hw)) ⟨.bl _,H,I,rfl,?_⟩
  rw[show aF.toArray.any (gU x)=aF.any (gU x) by simp,uT r fs]
  exact q
theorem aLu:cJ X (jj .NotIn) (rIn X.K true):=by
 intro aB s σ H x y v u Q I rx ry h;obtain⟨p,xs,rfl,hq,fx,fs,q⟩:=h;cases ry;rcases hq with hq | hq
 ·obtain⟨aF,r,pl,hz⟩:=I.list hq;refine SeqAt.notIn_listAt (gU x) pl.isList (λ w hw=>uI rx fx r fs w (by simpa using hw)) ⟨.bl _,H,I,rfl,?_⟩
  rw[show aF.toArray.any (gU x)=aF.any (gU x) by simp,uT r fs]
  exact q
 ·obtain⟨aF,r,pl,hz⟩:=I.tuple hq;refine SeqAt.notIn_tupleAt (gU x) pl (λ w hw=>uI rx fx r fs w (by simpa using hw)) ⟨.bl _,H,I,rfl,?_⟩
  rw[show aF.toArray.any (gU x)=aF.any (gU x) by simp,uT r fs]
  exact q
theorem aEE:dF X (.builtin "len") (λ xs H Q=>∃ p ys,xs=[.ref p]/\(bV X.K H p ys\/cD X.K H p ys)/\Q (.int ys.length) H):=by
 intro aB s σ H xs us Q I r h;obtain⟨p,ys,rfl,hq,q⟩:=h;obtain⟨u,rfl,rx⟩:=iZ r;cases rx;have hn:=pL;rcases hq with hq | hq
 ·obtain⟨aF,r',pl,hz⟩:=I.list hq;have cF:=r'.length;exact Calls.call_len_list pl.isList (by simp only[yAe]<;>omega) ⟨.int ys.length,H,I.tok _,⟨s.toks+1,by rw[yAe,cF]⟩,q⟩
 ·obtain⟨aF,r',pl,hz⟩:=I.tuple hq;have cF:=r'.length;exact len_tuple pl (by simp only[yAe]<;>omega) ⟨.int ys.length,H,I.tok _,⟨s.toks+1,by rw[yAe,cF]⟩,q⟩
theorem aLm:dF X (.builtin "len") (λ xs H Q=>∃ z,xs=[.str z]/\z.length<=qk/\Q (.int z.length) H):=by
 intro aB s σ H xs us Q I r h;obtain⟨z,rfl,hz,q⟩:=h;obtain⟨u,rfl,t,rfl⟩:=iZ r;have hn:=pL;exact len_str (by omega) ⟨.int z.length,H,I.tok _,⟨_,rfl⟩,q⟩
theorem dF.or{f:qx}{r r':List V->Hp->VK->Prop}(h:dF X f r)(h':dF X f r'):dF X f (λ xs H Q=>r xs H Q\/r' xs H Q):=by
 intro aB s σ H xs us Q I rs q;rcases q with q | q
 ·exact h aB s σ H xs us Q I rs q
 ·exact h' aB s σ H xs us Q I rs q
theorem aEt:dF X (.type "tuple") (λ xs H Q=>∃ p ys,xs=[.ref p]/\((bV X.K H p ys/\∀ l,H l=qz->Q (.ref l) (bE H l (.tup ys)))\/(cD X.K H p ys/\Q (.ref p) H))):=by
 intro aB s σ H xs us Q I r h;obtain⟨p,ys,rfl,h⟩:=h;obtain⟨u,rfl,rx⟩:=iZ r;cases rx;rcases h with ⟨hq,q⟩ | ⟨hq,q⟩
 ·obtain⟨aF,r',pl,hz⟩:=I.list hq;have cF:=r'.length;refine call_tuple_list pl.isList (λ h' kp=>?_) (by simp only[yAe]<;>omega)
  have I1:Inv X aB σ H {s with heap:=h' }:=I.kept (t':=s.toks) kp
  have I2:Inv X aB σ (bE H h'.objs.size (.tup ys)) {s with heap:=h'.push {cls:=.type "tuple",data:=.seq aF.toArray } }:=
   I1.laid (t':=s.toks) (λ b o e=>hpS _ e) (yAc _) (show hJ X.prog X.w _ _ _ (.tup ys) from ⟨hz,aF,r',IsTup.new _ _⟩)
  exact⟨.ref h'.objs.size,_,I2,rfl,q _ (I1.hok.fresh (yAc _))⟩
 ·obtain⟨aF,r',pl,hz⟩:=I.tuple hq;exact call_tuple_same pl ⟨.ref p,H,I,rfl,q⟩
def tyV(K:FrG)(T:String)(x:V)(H:Hp):Prop:=match x with
 | .str _=>T = "str"
 | .int _=>T = "int"
 | .ref p=>(T = "list" /\ ∃ xs,bV K H p xs)\/(T = "tuple" /\ ∃ o,K.lookup p=qq o/\o.cls=.type "tuple" /\ o.dict=qz) \/
    (T = "dict" /\ ((∃ aX,H p=qq (.dK aX))\/∃ aX,H p=qq (.dT aX)))\/(T = "set" /\ ∃ S n,H p=qq (.set S n))
 | _=>False
theorem aIn{aB:List (qv×Obj)}{σ:St}{H:Hp}{s:qj}{T:String}{x:V}{v:qx}(I:Inv X aB σ H s)(r:aZ x v)(ty:tyV X.K T x H) :
 s.TypeIs v T/\∀ a,v=.ref a->∃ ob,s.heap.get? a=qq ob/\ob.dict=qz:=by
 cases x with
 | str z =>
   obtain⟨t,rfl⟩:=r;cases (show T = "str" from ty)
   exact⟨typeIs_str s z t,λ _ e=>nomatch e⟩
 | int i =>
   obtain⟨t,rfl⟩:=r;cases (show T = "int" from ty)
   exact⟨yv s i t,λ _ e=>nomatch e⟩
 | ref p =>
   cases r;rcases ty with ⟨rfl,xs,hq⟩ | ⟨rfl,o,hk,hc,hd⟩ | ⟨rfl,hk⟩ | ⟨rfl,S,n,hk⟩
   ·obtain⟨aF,_,pl,_⟩:=I.list hq;refine⟨pl.isList.typeIs,λ a e=>?_⟩
    cases e;obtain⟨o,n,e,c,hd,_⟩:=pl;exact⟨o,e,hd⟩
   ·refine⟨⟨o,I.kIn p o hk,hc⟩,λ a e=>?_⟩
    cases e;exact⟨o,I.kIn _ o hk,hd⟩
   ·have z:∃ o,s.heap.get? p=qq o/\o.ExactDict:=by
     rcases hk with ⟨aX,hk⟩ | ⟨aX,hk⟩
     ·obtain⟨_,_,_,_,o,_,_,e,ex,_⟩:=I.hok p _ hk;exact⟨o,e,ex⟩
     ·obtain⟨_,_,_,_,o,_,_,e,ex,_⟩:=I.hok p _ hk;exact⟨o,e,ex⟩
    obtain⟨o,e,ex⟩:=z;refine⟨⟨o,e,ex.1⟩,λ a e2=>?_⟩
    cases e2;exact⟨o,e,ex.2.1⟩
   ·obtain⟨o,_,_,_,e,ex,_⟩:=I.hok p _ hk;refine⟨⟨o,e,ex.1⟩,λ a e2=>?_⟩
    cases e2;exact⟨o,e,ex.2.1⟩
 | _=>exact False.elim ty
noncomputable def aVQ(K:FrG)(T:String)(r:V->List V->Hp->VK->Prop)(to:TE):TE:=λ σ H Q=>to σ H λ x H1=>tyV K T x H1/\r x [] H1 Q
noncomputable def tBM(K:FrG)(T:String)(r:V->List V->Hp->VK->Prop)(to:TE)(t:TA):TE:=λ σ H Q=>to σ H λ x H1=>tyV K T x H1/\t σ H1 λ xs H2=>r x xs H2 Q
variable {o e : qw}{es : List qw}{to : TE}{t : TA}{name : Str}{apos cpos : Pos}{T id : String}{r : V -> List V -> Hp -> VK -> Prop}
theorem aSe(pa:PlainAttrs T)(slot:Slot T name id)(hty:typeOf (.builtin id)=pure (.type "method_descriptor"))(hm:qH X id r)(ho:PE X o to)
 (hbase:attributeBase o name X.env (eval o X.env)=eval o X.env:=by rfl) (hline:(apos.endLine==cpos.line)=true:=by rfl):PE X (.Call (.Attribute o name apos) [] [] cpos) (aVQ X.K T r to):=by
 intro aB s σ H Q I h;refine wpAny_Call_method0_late hbase hline (bC (ho aB s σ H _ I h) λ v s1 hPq28=>?_)
 obtain⟨x,H1,I1,r1,ty,q1⟩:=hPq28;obtain⟨h1,h2⟩:=aIn I1 r1 ty;exact⟨T,id,pa,slot,hty,h1,h2,Calls.callWith_builtin rfl (PySem.evalArgs_none (hm aB s1 σ H1 x [] v [] Q I1 r1 .nil q1))⟩
theorem aTu(pa:PlainAttrs T)(slot:Slot T name id)(hty:typeOf (.builtin id)=pure (.type "method_descriptor"))(hm:qH X id r)(ho:PE X o to)(ha:PA X (e::es) t)
 (hbase:attributeBase o name X.env (eval o X.env)=eval o X.env:=by rfl)
 (hfew:((backTo cpos (zq (e::es) X.env)).all (λ x=>!x.1)&&(backToKw cpos (keywordEach [] X.env)).all (λ x=>x.1.isSome)
   && decide ((e::es).length+([]:List Keyword).length+(if ([]:List Keyword).isEmpty then 0 else 1)<30))=true:=by rfl)
 (hline:(apos.endLine==cpos.line)=true:=by rfl) (hs:zq (e::es) X.env=(false,eval e X.env)::zq es X.env:=by rfl) (hplain:(backTo cpos (zq es X.env)).any (·.1)=false:=by rfl) :
 PE X (.Call (.Attribute o name apos) (e::es) [] cpos) (tBM X.K T r to t):=by
 intro aB s σ H Q I h;refine wpAny_Call_method_late hbase hfew hline rfl (bC (ho aB s σ H _ I h) λ v s1 hPq29=>?_)
 obtain⟨x,H1,I1,r1,ty,q1⟩:=hPq29;obtain⟨h1,h2⟩:=aIn I1 r1 ty;refine⟨T,id,pa,slot,hty,h1,h2,?_⟩;have hA:=ha cpos aB s1 σ H1 _ I1 q1;rw[hs] at hA ⊢;refine Calls.callWith_builtin (by show(false||(backTo cpos (zq es X.env)).any (·.1))=false;rw[hplain]<;>rfl) (Calls.evalArgs_plain ?_)
 exact bC hA λ us s2 ⟨vs,H2,I2,r2,q2⟩=>hm aB s2 σ H2 x vs v us Q I2 r1 r2 q2
end
end L2
namespace L2
open PySem PySem.Spec PyProof.Rows
def MtM(X:Cx)(id:String)(r:V->List V->Hp->VK->Prop):Prop:=
 ∀ (aB:List (qv×Obj)) (s:qj) (σ:St) (H:Hp) (x:V) (xs:List V) (v:qx) (us:List qx) (Q:VK),Inv X aB σ H s->aZ x v->aU xs us->r x xs H Q ->
  qy (model X.prog X.w) X.A (call (.builtin id) (v::us)) (EP X aB σ Q) X.xe s
theorem aU.one:∀ {x:V}{us:List qx},aU [x] us->∃ u,us=[u]/\aZ x u
 | _,_,.cons r .nil=>⟨_,rfl,r⟩
theorem aU.two:∀ {x y:V}{us:List qx},aU [x,y] us->∃ u v,us=[u,v]/\aZ x u/\aZ y v
 | _,_,_,.cons r (.cons q .nil)=>⟨_,_,rfl,r,q⟩
theorem aU.zero:∀ {us:List qx},aU [] us->us=[]
 | _,.nil=>rfl
theorem aU.reverse{xs:List V}{us:List qx}(h:aU xs us):aU xs.reverse us.reverse:=by
 induction h with
 | nil=>exact .nil
 | cons r t ih=>rw[yFm,yFm];exact aU.append ih (.cons r .nil)
theorem aU.rep{xs:List V}{us:List qx}(h:aU xs us):∀ k:Nat,aU (yAd k xs).flatten (yAd k us).flatten
 | 0=>.nil
 | k+1=>by
   rw[yAv,yAv,yCx,yCx];exact aU.append h (aU.rep h k)
theorem yS(aF:List qx):∀ (k:Nat) (aH:List qx),
 List.foldl (λ x1 x2=>x1++x2) aH.toArray (yAd k aF.toArray)=(aH++(yAd k aF).flatten).toArray
 | 0,aH=>by simp
 | k+1,aH=>by
   have e:aH.toArray++aF.toArray=(aH++aF).toArray:=by simp
   have e2:(aH++aF)++(yAd k aF).flatten=aH++(yAd (k+1) aF).flatten:=by
    rw[yAv,yCx,yCf]
   rw[<- e2,<- yS aF k (aH++aF),<- e,yAv,yBv]
section
variable {X : Cx}{aB : List (qv×Obj)}{σ : St}{H : Hp}{s : qj}{l b : qv}{xs ys zs : List V}
theorem Inv.lset{aF its':List qx}{n:Nat}{f:Array qx->Array qx}{t':Nat}(I:Inv X aB σ H s)(hH:H l=qq (.lst xs))
 (e:s.heap.get? l=qq {cls:=.type "list",data:=.seq aF.toArray n }) (hf:f aF.toArray=its'.toArray) (hv:aU ys its') (hz:ys.length<=qk) :
 Inv X aB σ (bE H l (.lst ys)) {s with heap:=s.heap.update l (Obj.mapSeq f),toks:=t' }:=by
 have q:=PySem.IsL.update e f;rw[hf] at q;refine I.write (x:=l) (e:=l) (by rw[hH];exact trivial) (.inl rfl) (λ b' u hb hu=>(yBt s.heap (Obj.mapSeq f) (Ne.symm hb)).trans hu) ⟨_,q⟩ ?_
 exact⟨hz,its',_,hv,q⟩
theorem Inv.lnew{aF:List qx}{t':Nat}(I:Inv X aB σ H s)(hv:aU ys aF)(hz:ys.length<=qk) :
 Inv X aB σ (bE H s.heap.objs.size (.lst ys)) {s with heap:=s.heap.push {cls:=.type "list",data:=.seq aF.toArray },toks:=t' }:=
 I.laid (λ _ _ q=>hpS _ q) (yAc _) ⟨hz,aF,0,hv,xAe _ rfl⟩
theorem Inv.fresh(I:Inv X aB σ H s):H s.heap.objs.size=qz:=I.hok.fresh (yAc _)
theorem Inv.lstM(I:Inv X aB σ H s)(hH:H l=qq (.lst xs)):xs.length<=qk/\∃ (aF:List qx) (n:Nat),aU xs aF/\xs.length=aF.length/\s.heap.get? l=qq {cls:=.type "list",data:=.seq aF.toArray n }:=by
 obtain⟨z,aF,n,r,e⟩:=I.hok l _ hH;exact⟨z,aF,n,r,r.length,e⟩
end
section
variable {X : Cx}
noncomputable def aHg:V->List V->Hp->VK->Prop:=λ x vs H Q=>∃ l xs y,x=.ref l/\vs=[y]/\H l=qq (.lst xs)/\xs.length<qk/\Q .non (bE H l (.lst (xs++[y])))
theorem aFi:MtM X "list.append" aHg:=by
 intro aB s σ H x vs v us Q I rx rv h;obtain⟨l,xs,y,rfl,rfl,hH,hz,q⟩:=h;cases rx;obtain⟨u,rfl,ru⟩:=rv.one;obtain⟨z,aF,n,r,hl,e⟩:=I.lstM hH;refine ww F.slot_list_append ⟨_,e,rfl⟩ F.entry_list_append (F.args_list_append_2 _ _) (PySem.list_append l aF.toArray n u (by rw[yAe];omega)) ⟨e,?_⟩
 refine⟨.non,_,I.lset (its':=aF++[u]) hH e (by simp) (r.append (.cons ru .nil)) ?_,rfl,q⟩
 rw[xAo,List.length_singleton];omega
theorem aOJ{α:Type}(xs:List α)(k:Nat):(yAd k xs).flatten.length=k*xs.length:=by
 induction k with
 | zero=>simp
 | succ k ih=>rw[yAv,yCx,xAo,ih,Nat.succ_mul,yDe]
end
section
variable {prog : qo}{w : zw}{A : zy}{E : qx -> qj -> Prop}{s : qj}
end
section
variable {X : Cx}
end
end L2
namespace Att
open PySem PySem.W PySem.Calls PyProof.Rows
theorem aKY{P:Params}{h:Heap}:∀ (ns:List Int) (vs:List qx),WellAll P h vs (ns.map WData.int)->IntsAre vs ns:=by
 intro ns
 induction ns with
 | nil =>
   intro vs w;rw[yGg] at w;cases w;exact .nil
 | cons n ns ih =>
   intro vs w;rw[yBa] at w;cases w with
   | cons a b =>
     cases a;exact .cons _ _ (ih _ b)
theorem script_of{l:OpenLaw}{n:Nat}(hn:l.most=qq n){P:Params}{h:Heap}{args:List WData}{vals:List qx}
 (hpre:l.row.toRowW.claim.pre args=true) (hwl:WellAll P h vals args) :
 ∃ a vs ns,vals=[Value.ref a]/\args=[WData.list (ns.map WData.int)]/\h.get? a=qq {cls:=.type "list",data:=.seq vs.toArray }/\IntsAre vs ns/\ns.length<=n:=by
 have hsh:WShape.hasAll [] args [.list .int]=true:=(pre_splitW hpre).1;have hc:l.pre.holds [] {args:=args }=true:=(pre_splitW hpre).2;obtain⟨d,r,rfl,h1,h2⟩:=hasAllW_cons hsh;obtain rfl:=hasAllW_nil h2;obtain⟨xs,rfl,h3⟩:=hasW_list h1;obtain⟨ns,rfl⟩:=items_int h3;have cF:ns.length<=n:=by
  unfold OpenLaw.pre at hc;have h4:(WTm.not (.lt (.lit (.int (n:Int))) (.len (.arg 0)))).holds [] {args:=[.list (ns.map .int)] }=true:=by
   have h4:=(holds_andW hc).1;rw[hn] at h4;exact h4
  have h5:=condW_of h4 (w_not (w_lt w_lit (w_len_list (w_arg rfl))));rw[yAb] at h5;refine yFu λ q=>?_
  have q':(n:Int)<((ns.length:Nat):Int):=by omega
  first
   | (rw[dqT q'] at h5;exact absurd h5 (by decide))
   | (simp at h5;omega)
 cases hwl with
 | cons w1 w2 =>
   cases w2;cases w1 with
   | list ho hall=>exact⟨_,_,ns,rfl,rfl,ho,aKY ns _ hall,cF⟩
theorem post_true(l:OpenLaw)(args:List WData):l.row.toRowW.claim.post args (.bool true) args=true:=
 postW_of (r:=l.row.toRowW) (X:=(true==true))
  (show WShape.has [] (.bool true) .bool=true by first | rfl | decide | simp[WShape.has,WShape.arms,WShape.armsAll])
  (show(WTm.eq .res (.lit (.bool true))).value [] {args:=args,res:=qq (.bool true),after:=args }=qq (.bool (true==true)) from w_eq_bool (w_res rfl) w_lit) rfl
theorem attach_call{l:OpenLaw}{n:Nat}{q:qo}{loose:List Str}{XP:(Str->Option qx)->Heap->Prop}{YP:zw->Heap->Prop}{d:DefRec}
 (hn:l.most=qq n) (hdf:d.params.defaults=[])
 (call:∀ (w:zw) (s₀ s₁:qj) (mg mb:Str->Option qx) (fa:qv) (o:Obj) (pm cd doc:qx) (a:qv) (vs:List qx) (ns:List Int),
   Ground q loose [] XP w s₀ mg mb s₁.heap->YP w s₁.heap ->
   s₁.heap.get? fa=qq o->o.data=.func (docDef d.name d.params d.body d.scope pm cd doc)->s₁.heap.CodeRec cd d.name->mg d.name=qq (.ref fa) ->
   s₁.heap.get? a=qq {cls:=.type "list",data:=.seq vs.toArray }->IntsAre vs ns->ns.length<=n->s₁.gens = #[] ->
   vy (model l.prog w) callerA (.call (.ref fa) ⟨[.ref a],[]⟩) (λ r s'=>r=.ok (.ret (.bool true))/\OldK s₁.heap s'.heap/\s'.os=s₁.os/\AllBare s'.gens) s₁) :
 WalkO q loose XP YP l.row.toRowW d [] (λ f vs=>PySem.call f vs):=by
 intro w s₀ s₁ mg mb G Y fa o pm cd doc dV kV ho hd hcd hD hmg hg args vals as hpre hlay hrd hwl hlo;obtain rfl:dV=.none:=Dflts.none hD hdf;obtain rfl:kV=.none:=Dflts.noKw hD;obtain⟨a,vs,ns,rfl,rfl,hobj,hints,cF⟩:=script_of hn hpre hwl;refine enter_call (codeAny_mono (call w s₀ s₁ mg mb fa o pm cd doc a vs ns G Y ho (fd_plain hd) hcd hmg hobj hints cF hg) λ r s' hq=>?_)
 obtain⟨rfl,h2,h3,h4⟩:=hq;exact⟨.inl ⟨.bool true,.bool true,[],rfl,λ _=>rfl,.bool true,post_true l _,λ _=>⟨List.Pairwise.nil,λ _ hm=>(nomatch hm)⟩⟩,h2,h3,h4⟩
section
variable {prog : qo}{w : zw}{A : zy}{E : qx -> qj -> Prop}{s : qj}{K : Frag}
noncomputable def aWu(h:Heap)(L d:qv):List (qv×Obj):=(yAo h.objs.size).filterMap λ a=>if a=L\/a=d then qz else (h.get? a).map λ o=>(a,o)
end
end Att
namespace L2
open PySem PySem.Spec PyProof.Rows
theorem aFd:∀ {vs:List qx}{ns:List Int},IntsAre vs ns->aU (ns.map V.int) vs
 | _,_,.nil=>.nil
 | _,_,.cons n t h=>.cons ⟨t,rfl⟩ (aFd h)
def aDn(H:Hp):Prop:=∀ b,H b=qz\/∃ o xs,H b=qq (.frz o (.lst xs))
theorem law_call{P:qo}{w:zw}{K:FrG}{mg mb:Str->Option qx}{CX:jG}{k:Nat}{fa a:qv}{fd:vz}{x:Str}{sp:Sp}{s₁:qj}{vs:List qx}{ns:List Int}
 (KX:K.In s₁.heap) (hns:s₁.heap.Ns xu mg) (hb:s₁.heap.Ns builtinsNs mb) (hbb:∀ x:Str,x ≠ "__name__" -> mb x=jq x) (hlim:s₁.heap.NoLimit) (hg:s₁.gens = #[])
 (ha:s₁.heap.get? a=qq {cls:=.type "list",data:=.seq vs.toArray }) (hi:IntsAre vs ns) (hl:ns.length<=qk) (hr:Room k callerA)
 (F:∀ base:Heap,K.In base->base.Ns xu mg->FnOk P w K mg base CX k fa fd [x] sp) (hbind:∀ (s:qj) (u:qx),BindsTo s fd ⟨[u],[]⟩ [(x,u)])
 (hsp:∀ H:Hp,aDn H->bV K H a (ns.map V.int)->sp [.ref a] H (λ v _=>v=.bl true) λ _ _ _=>False)
 (hCX:∀ H e s',CX [] H s₁ (λ _ _ _=>False) e s'->False) :
 vy (model P w) callerA (.call (.ref fa) ⟨[.ref a],[]⟩) (λ r s'=>r=.ok (.ret (.bool true))/\OldK s₁.heap s'.heap/\s'.os=s₁.os/\AllBare s'.gens) s₁:=by
 have rv:=aFd hi;have lenV:=hi.length;have core:∀ H:Hp,aDn H->bV K H a (ns.map V.int)->dL P w H s₁.heap->(∀ b,H b≠qz->b=a)->(H a≠qz->K.lookup a=qz) ->
  vy (model P w) callerA (.call (.ref fa) ⟨[.ref a],[]⟩) (λ r s'=>r=.ok (.ret (.bool true))/\OldK s₁.heap s'.heap/\s'.os=s₁.os/\AllBare s'.gens) s₁:=by
  intro H hO hS hok hA hK;have uR:∀ {b:qv}{o:Obj},s₁.heap.get? b=qq o->H b=qz->(mV s₁.heap H).get? b=qq o:=λ e n=>aNU e n
  have noA:∀ {b:qv}{o:Obj}{es:Array DictEntry}{ep:Nat},s₁.heap.get? b=qq o->o.data=.dict es ep->H b=qz:=λ {b o es ep} e d=>by
   cases q:H b with
   | none=>rfl
   | some u =>
     have e':b=a:=hA b (by rw[q];simp)
     subst e';rw[ha] at e;cases e;have d':Data.seq vs.toArray _=Data.dict es ep:=d;cases d'
  have nsK:∀ {b:qv}{m:Str->Option qx},s₁.heap.Ns b m->(mV s₁.heap H).Ns b m:=λ {b m} ⟨o,es,ep,e,d,r⟩=>⟨o,es,ep,uR e (noA e d),d,r⟩
  have hKb:K.In (mV s₁.heap H):=λ b o e=>uR (KX b o e) (by
   cases q:H b with
   | none=>rfl
   | some u =>
     have e':b=a:=hA b (by rw[q];simp)
     subst e';rw[hK (by rw[q];simp)] at e;cases e)
  have hM:Mod K mg (mV s₁.heap H):=⟨hKb,nsK hns,⟨mb,nsK hb,hbb⟩,let ⟨mc,h1,h2⟩:=hlim;⟨mc,nsK h1,h2⟩⟩;have e0:Env0 P w K mg (mV s₁.heap H) callerA [] s₁ H:=⟨rfl,hM,λ b o e=>aOy e,yHe (aMP _ _),trivial,λ b hb=>absurd (show b∈([]:List qv) from hb) (by simp),hok,.of_eq hg⟩
  refine codeAny_mono ((F _ hKb (nsK hns)).run callerA [] s₁ H ⟨[.ref a],[]⟩ [.ref a] [.ref a] _ _ hr e0 (hbind s₁ (.ref a)) (.cons rfl .nil) (hsp H hO hS)) λ r s' h=>?_
  cases r with
  | error e=>exact(hCX H e s' h).elim
  | ok fl =>
    cases fl with
    | next=>exact False.elim h
    | brk=>exact False.elim h
    | cont=>exact False.elim h
    | ret u =>
      obtain⟨v,H',os,bare,un,hok',r',q⟩:=h;have q':v=.bl true:=q;subst q';obtain rfl:u=Value.bool true:=r';refine⟨rfl,OldK.of_keep λ b o e=>?_,os,bare⟩
      cases q:H b with
      | none=>exact un.keep b o e q (by intro z;exact absurd (show b∈([]:List qv) from z) (by simp)) (by simp)
      | some u =>
        rcases hO b with z | ⟨ob,xs,z⟩
        ·rw[q] at z;cases z
        ·have z2:=un.frzs b ob _ z;obtain⟨e1,_⟩:=hok b _ z;obtain⟨e2,_⟩:=hok' b _ z2;rw[e] at e1;cases e1;exact e2
 cases hk:K.lookup a with
 | some o =>
   have e:=KX a o hk;rw[ha] at e;cases e;refine core (λ _=>qz) (λ _=>.inl rfl) (.inr ⟨_,vs.toArray,_,hk,rfl,rfl,rfl,by rw[yAe,lenV];exact hl,by simpa using rv⟩) (λ b u z=>by have z':(qz:Option HO)=qq u:=z;cases z') (λ b z=>absurd rfl z) λ z=>absurd rfl z
 | none =>
   refine core (λ b=>if b=a then qq (.frz {cls:=.type "list",data:=.seq vs.toArray } (.lst (ns.map V.int))) else qz) (λ b=>?_) (.inl (.inr ⟨{cls:=.type "list",data:=.seq vs.toArray },if_pos rfl⟩)) (λ b u z=>?_) (λ b z=>?_) λ _=>hk
   ·by_cases hb:b=a
    ·exact .inr ⟨_,_,if_pos hb⟩
    ·exact .inl (if_neg hb)
   ·by_cases hb:b=a
    ·have z':=(if_pos hb).symm.trans z;cases z';subst hb;exact⟨ha,by rw[yAb];exact hl,vs,_,rv,ha⟩
    ·have z':=(if_neg hb).symm.trans z;cases z'
   ·by_cases hb:b=a
    ·exact hb
    ·exact absurd (if_neg hb) z
end L2
namespace L2
open PySem PySem.Spec PyProof.Rows
noncomputable abbrev KOf{K:FrG}{h:Heap}(_:K.In h):FrG:=K
theorem aWs{l:yHf}{n k:Nat}{q:qo}{loose:List Str}{XP:(Str->Option qx)->Heap->Prop}{YP:zw->Heap->Prop}{d:DefRec}{K:Params->FrG}{CX:zw->jG}{sp:zw->Sp}{x:Str}
 (hn:l.most=qq n) (hn2:n<=qk) (hdf:d.params.defaults=[]) (hr:Room k callerA)
 (hY:∀ (w:zw) (h:Heap),YP w h->(K w.params).In h)
 (F:∀ (w:zw) (mg:Str->Option qx) (fa:qv) (h:Heap),(K w.params).In h->h.Ns xu mg->mg d.name=qq (.ref fa) ->
   ∃ fd:vz,(∀ (s:qj) (u:qx),BindsTo s fd ⟨[u],[]⟩ [(x,u)]) /\
    ∀ base:Heap,(K w.params).In base->base.Ns xu mg->FnOk l.prog w (K w.params) mg base (CX w) k fa fd [x] (sp w))
 (hsp:∀ (w:zw) (H:Hp) (a:qv) (ns:List Int),ns.length<=n->aDn H->bV (K w.params) H a (ns.map V.int)->sp w [.ref a] H (λ v _=>v=.bl true) λ _ _ _=>False)
 (hCX:∀ (w:zw) (H:Hp) (s:qj) (e:qx) (s':qj),CX w [] H s (λ _ _ _=>False) e s'->False) :
 PySem.W.WalkO q loose XP YP l.row.toRowW d [] (λ f vs=>PySem.call f vs):=by
 refine Att.attach_call hn hdf λ w s₀ s₁ mg mb fa o pm cd doc a vs ns G Y ho hd hcd hmg hobj hints cF hg=>?_
 have KX:=hY w _ Y;obtain⟨fd,hb,hF⟩:=F w mg fa _ KX G.T.g hmg;exact law_call KX G.T.g G.T.b G.T.builtins G.T.nolimit hg hobj hints (xAi cF hn2) hr hF hb (λ H hO hS=>hsp w H a ns cF hO hS) λ H e s'=>hCX w H s₁ e s'
end L2
namespace L2
open PySem PySem.Spec PyProof.Rows
noncomputable def nU(s:jx):Arguments:=match s with
 | .FunctionDef _ a _ _ _ _ _ _ _ _=>a
 | _=>{posonlyargs:=[],args:=[],vararg:=qz,kwonlyargs:=[],kw_defaults:=[],kwarg:=qz,defaults:=[] }
noncomputable def kU(s:jx):List jx:=match s with
 | .FunctionDef _ _ b _ _ _ _ _ _ _=>b
 | _=>[]
noncomputable def eO(s:jx):zk:=match s with
 | .FunctionDef _ _ _ _ _ _ sc _ _ _=>sc
 | _=>{kind:=.function,names:=[],isGenerator:=false,isCoroutine:=false }
noncomputable abbrev sX:jG:=λ _ _ _ _ _ _=>False
noncomputable abbrev E0:XK:=λ _ _ _=>False
theorem aIV{X:Cx}:zZ sX X E0:=λ _ _ _ _ _ _ _ h=>h.elim
structure Fun(K:FrG)(x cK:Str)(st:jx)(f:qv)(fd:vz):Prop where
 ex:∃ (oc:qx) (od:Option qv) (kV doc pm:qx) (an:Option qv) (cdv ct:qx) (osl:Array (Option qx)),
  fd=yDd x cK (nU st) (kU st) (eO st) .none kV doc pm an cdv ct/\K.lookup f=qq ⟨oc,od,.func fd,osl⟩/\yFo K cdv cK=true
 kp:yCv K (.ref f)=true
section
variable {P : qo}{w : zw}{K : FrG}{mg : Str -> Option qx}{base : Heap}
theorem Fun.ok{x cK:Str}{st:jx}{f:qv}{fd:vz}{N ps:List Str}{k:Nat}{sp:Sp}(F:Fun K x cK st f fd)(S:FnScope N ps (eO st))(len:∀ vs H Q E,sp vs H Q E->vs.length=ps.length)
 (hbody:∀ (cdv:qx) (A:zy) (outer:List Env) (s:qj) (H:Hp) (vs:List V) (Q:VK) (E:XK),Room k (A.deeper (envOfC cK (eO st) s.heap.objs.size f cdv))->sp vs H Q E ->
   ∃ t,dR (sQ sX P w K mg base N cK (eO st) f cdv A outer s H E).nox (kU st) t/\t {nx:=λ _ H'=>Q .non H',rt:=Q } (start N vs) H):FnOk P w K mg base sX (k+1) f fd ps sp:=by
 obtain⟨oc,od,kV,doc,pm,an,cdv,ct,osl,rfl,lk,hcd⟩:=F.ex;refine aT6 lk hcd S len λ A outer s H vs Q E hr hsp=>?_
 obtain⟨t,h,q⟩:=hbody cdv A outer s H vs Q E hr hsp;exact⟨t,h.nox,q⟩
theorem Fun.binds{x cK:Str}{st:jx}{f:qv}{fd:vz}{ps:List Str}(F:Fun K x cK st f fd)
 (h:∀ (kV doc pm:qx) (an:Option qv) (cdv ct:qx) (us:List qx),us.length=ps.length->bindArgs (yDd x cK (nU st) (kU st) (eO st) .none kV doc pm an cdv ct) ⟨us,[]⟩=pure (ps.zip us)):mO K fd ps []:=by
 obtain⟨oc,od,kV,doc,pm,an,cdv,ct,osl,rfl,lk,hcd⟩:=F.ex;exact .all (h kV doc pm an cdv ct)
theorem aQG{x cK:Str}{st:jx}{f:qv}{oc:qx}{od an:Option qv}{osl:Array (Option qx)}{kV doc pm cdv ct:qx}(l:K.lookup f=qq ⟨oc,od,.func (yDd x cK (nU st) (kU st) (eO st) .none kV doc pm an cdv ct),osl⟩)
 (c:yFo K cdv cK=true) (k:yCv K (.ref f)=true):Fun K x cK st f (yDd x cK (nU st) (kU st) (eO st) .none kV doc pm an cdv ct):=⟨⟨oc,od,kV,doc,pm,an,cdv,ct,osl,rfl,l,c⟩,k⟩
end
section
variable {X : Cx}
end
theorem sS{A B:Prop}(h:B):if false=true then A else B:=by
 rw[if_neg yAw];exact h
theorem sL{A B:Prop}(h:A):if true=true then A else B:=by
 rw[if_pos rfl];exact h
def bY(H H':Hp):Prop:=∀ b o,H b=qq o->H' b=qq o
theorem bY.refl(H:Hp):bY H H:=λ _ _ h=>h
theorem bY.trans{H H1 H2:Hp}(a:bY H H1)(b:bY H1 H2):bY H H2:=λ c o h=>b c o (a c o h)
theorem bY.free{H H':Hp}(e:bY H H'){l:qv}(h:H' l=Option.none):H l=Option.none:=by
 cases q:H l with
 | none=>rfl
 | some o =>
   rw[e l o q] at h;cases h
theorem bY.seq{K:FrG}{H H':Hp}{a:qv}{xs:List V}(e:bY H H')(h:bV K H a xs):bV K H' a xs:=by
 rcases h with (h | ⟨o,h⟩) | h
 ·exact .inl (.inl (e _ _ h))
 ·exact .inl (.inr ⟨o,e _ _ h⟩)
 ·exact .inr h
end L2
set_option maxHeartbeats 4000000
namespace EV
open PySem L2 PySem.Spec PyProof.Rows
noncomputable abbrev D:=PyData
inductive W where
 | d (x:D) | loc (n:Nat)
noncomputable abbrev aC:=List (Option (List D))
noncomputable abbrev aY:=List (Option W)
noncomputable abbrev St:=L2.St
section
variable (K : FrG)(F : Hp)
mutual
inductive Den:D->V->Prop
 | non:Den .none .non
 | bl (b:Bool):Den (.bool b) (.bl b)
 | int (i:Int):Den (.int i) (.int i)
 | str (x:Str):Den (.str x) (.str x)
 | lst {a:qv}{xs:List V}{ds:List D}:bV K F a xs->DenL ds xs->Den (.list ds) (.ref a)
 | tup {a:qv}{xs:List V}{ds:List D}:cD K F a xs->DenL ds xs->Den (.tuple ds) (.ref a)
inductive DenL:List D->List V->Prop
 | nil:DenL [] []
 | cons {d:D}{ds:List D}{x:V}{xs:List V}:Den d x->DenL ds xs->DenL (d::ds) (x::xs)
end
end
theorem mP{K:FrG}{H H':Hp}{a:qv}{xs:List V}(e:bY H H')(h:cD K H a xs):cD K H' a xs:=by
 rcases h with (h | ⟨o,h⟩) | h
 ·exact .inl (.inl (e _ _ h))
 ·exact .inl (.inr ⟨o,e _ _ h⟩)
 ·exact .inr h
section
variable {K : FrG}{F F' : Hp}
mutual
theorem Den.mono(e:bY F F'):∀ {d:D}{v:V},Den K F d v->Den K F' d v
 | _,_,.non=>.non
 | _,_,.bl b=>.bl b
 | _,_,.int i=>.int i
 | _,_,.str x=>.str x
 | _,_,.lst h r=>.lst (e.seq h) (DenL.mono e r)
 | _,_,.tup h r=>.tup (mP e h) (DenL.mono e r)
theorem DenL.mono(e:bY F F'):∀ {ds:List D}{xs:List V},DenL K F ds xs->DenL K F' ds xs
 | _,_,.nil=>.nil
 | _,_,.cons h r=>.cons (Den.mono e h) (DenL.mono e r)
end
theorem DenL.length:∀ {ds:List D}{xs:List V},DenL K F ds xs->ds.length=xs.length
 | _,_,.nil=>rfl
 | _,_,.cons _ r=>congrArg (· + 1) (DenL.length r)
theorem DenL.get:∀ {ds:List D}{xs:List V}{i:Nat}{d:D},DenL K F ds xs->ds[i]? = qq d->∃ x,xs[i]? = qq x/\Den K F d x
 | _,_,_,_,.nil,e=>by simp at e
 | _,_,0,_,.cons h _,e=>by simp at e;subst e;exact⟨_,rfl,h⟩
 | _,_,i+1,d,.cons _ r,e=>by
   obtain⟨x,h1,h2⟩:=DenL.get (i:=i) (d:=d) r (by simpa using e)
   exact⟨x,by simpa using h1,h2⟩
theorem DenL.append:∀ {ds es:List D}{xs ys:List V},DenL K F ds xs->DenL K F es ys->DenL K F (ds++es) (xs++ys)
 | _,_,_,_,.nil,s=>s
 | _,_,_,_,.cons h r,s=>.cons h (DenL.append r s)
theorem DenL.take:∀ {ds:List D}{xs:List V} (n:Nat),DenL K F ds xs->DenL K F (ds.take n) (xs.take n)
 | _,_,0,_=>.nil
 | _,_,_+1,.nil=>.nil
 | _,_,n+1,.cons h r=>.cons h (DenL.take n r)
theorem DenL.drop:∀ {ds:List D}{xs:List V} (n:Nat),DenL K F ds xs->DenL K F (ds.drop n) (xs.drop n)
 | _,_,0,r=>r
 | _,_,_+1,.nil=>.nil
 | _,_,n+1,.cons _ r=>DenL.drop n r
theorem DenL.set:∀ {ds:List D}{xs:List V} (i:Nat) {d:D}{x:V},DenL K F ds xs->Den K F d x->DenL K F (ds.set i d) (xs.set i x)
 | _,_,_,_,_,.nil,_=>.nil
 | _,_,0,_,_,.cons _ r,h=>.cons h r
 | _,_,i+1,_,_,.cons q r,h=>.cons q (DenL.set i r h)
theorem DenL.reverse:∀ {ds:List D}{xs:List V},DenL K F ds xs->DenL K F ds.reverse xs.reverse
 | _,_,.nil=>.nil
 | _,_,.cons h r=>by
   rw[yFm,yFm];exact DenL.append (DenL.reverse r) (.cons h .nil)
theorem DenL.rep{ds:List D}{xs:List V}(h:DenL K F ds xs):∀ n:Nat,DenL K F (yAd n ds).flatten (yAd n xs).flatten
 | 0=>.nil
 | n+1=>by
   rw[yAv,yAv,yCx,yCx];exact h.append (DenL.rep h n)
theorem DenL.of_ints:∀ (ns:List Int),DenL K F (ns.map yAm) (ns.map V.int)
 | []=>.nil
 | n::r=>.cons (.int n) (DenL.of_ints r)
end
structure Rel(K:FrG)(F:Hp)(L:List qv)(S:aC)(H:Hp):Prop where
 sub:bY F H
 nd:L.Nodup
 len:L.length=S.length
 loc:∀ (n:Nat) (a:qv) (ds:List D),L[n]? = qq a->S[n]? = qq (qq ds)->F a=qz/\∃ xs,H a=qq (.lst xs)/\DenL K F ds xs
 tr:∀ (n:Nat) (a:qv),L[n]? = qq a->∃ xs,H a=qq (.lst xs)
noncomputable def eE(K:FrG)(F:Hp)(L:List qv):W->V->Prop
 | .d x,v=>Den K F x v
 | .loc n,v=>∃ a,L[n]? = qq a/\v=.ref a
structure EnvR(K:FrG)(F:Hp)(L:List qv)(env:aY)(σ:St):Prop where
 len:env.length=σ.length
 get:∀ (i:Nat) (w:W),env[i]? = qq (qq w)->∃ v,σ[i]? = qq (qq v)/\eE K F L w v
structure Gr(F:Hp)(L:List qv)(F':Hp)(L':List qv):Prop where
 f:bY F F'
 l:∃ M,L'=L++M
section
variable {K : FrG}{F F' F'' H H' : Hp}{L L' L'' : List qv}{S S' : aC}
theorem Gr.refl:Gr F L F L:=⟨bY.refl _,[],by simp⟩
theorem Gr.trans(a:Gr F L F' L')(b:Gr F' L' F'' L''):Gr F L F'' L'':=by
 obtain⟨f1,M,rfl⟩:=a;obtain⟨f2,N,rfl⟩:=b;exact⟨f1.trans f2,M++N,by rw[yCf]⟩
theorem Gr.get(g:Gr F L F' L'){n:Nat}{a:qv}(h:L[n]? = qq a):L'[n]? = qq a:=by
 obtain⟨_,M,rfl⟩:=g;rw[xAn (gIm h).1];exact h
theorem eE.mono(g:Gr F L F' L'){w:W}{v:V}(h:eE K F L w v):eE K F' L' w v:=by
 cases w with
 | d x=>exact Den.mono g.f h
 | loc n=>obtain⟨a,e,r⟩:=h;exact⟨a,g.get e,r⟩
theorem EnvR.mono(g:Gr F L F' L'){env:aY}{σ:St}(h:EnvR K F L env σ):EnvR K F' L' env σ:=
 ⟨h.len,λ i w e=>let ⟨v,e1,r⟩:=h.get i w e;⟨v,e1,r.mono g⟩⟩
theorem EnvR.set{env:aY}{σ:St}(h:EnvR K F L env σ)(i:Nat){w:W}{v:V}(r:eE K F L w v):EnvR K F L (env.set i (qq w)) (σ.set i (qq v)):=by
 refine⟨by rw[yBe,yBe];exact h.len,λ j u e=>?_⟩
 by_cases hj:i=j
 ·subst hj;have hl:i<env.length:=by
   rcases yGh i env.length with q | q
   ·exact q
   ·rw[yDf (by rw[yBe];exact q)] at e;cases e
  rw[yAx hl] at e;cases e;exact⟨v,yAx (by rw[<- h.len];exact hl),r⟩
 ·rw[yAy hj] at e;obtain⟨x,e1,r1⟩:=h.get j u e;exact⟨x,by rw[yAy hj];exact e1,r1⟩
theorem eI{p:qv}{o:HO}(h:H p=qz):bY H (bE H p o):=λ b u q=>by rw[bN (eB q h)];exact q
theorem Rel.new(r:Rel K F L S H){p:qv}{o:HO}(h:H p=qz):Rel K (bE F p o) L S (bE H p o):=by
 have hF:F p=qz:=r.sub.free h;refine⟨λ b u q=>?_,r.nd,r.len,λ n a ds e1 e2=>?_,λ n a e=>?_⟩
 ·by_cases hb:b=p
  ·subst hb;rw[dE] at q ⊢;exact q
  ·rw[bN hb] at q ⊢;exact r.sub _ _ q
 ·obtain⟨f,xs,e3,dl⟩:=r.loc n a ds e1 e2;have ne:a≠p:=eB e3 h;exact⟨by rw[bN ne];exact f,xs,by rw[bN ne];exact e3,DenL.mono (eI hF) dl⟩
 ·obtain⟨xs,hx⟩:=r.tr n a e;exact⟨xs,by rw[bN (eB hx h)];exact hx⟩
theorem Gr.new{p:qv}{o:HO}(h:F p=qz):Gr F L (bE F p o) L:=⟨eI h,[],by simp⟩
theorem Rel.newLoc(r:Rel K F L S H){p:qv}{xs:List V}{ds:List D}(h:H p=qz)(dl:DenL K F ds xs):Rel K F (L++[p]) (S++[qq ds]) (bE H p (.lst xs)):=by
 have hF:F p=qz:=r.sub.free h;refine⟨λ b u q=>?_,?_,by rw[xAo,xAo,r.len]<;>rfl,λ n a es e1 e2=>?_,λ n a e=>?_⟩
 ·rw[bN (eB q hF)];exact r.sub _ _ q
 ·rw[yGq];refine⟨r.nd,by simp,λ a ha b hb=>?_⟩
  rw[yDy] at hb;subst hb;obtain⟨n,hn⟩:=yFy ha;obtain⟨xs,hx⟩:=r.tr n a hn;exact eB hx h
 ·by_cases hn:n<L.length
  ·rw[xAn hn] at e1;rw[xAn (by rw[<- r.len];exact hn)] at e2
   obtain⟨f,ys,e3,dl'⟩:=r.loc n a es e1 e2;exact⟨f,ys,by rw[bN (eB e3 h)];exact e3,dl'⟩
  ·rw[yAf (by omega)] at e1
   rw[yAf (by rw[<- r.len];omega)] at e2
   have z:n-L.length=0:=by
    have:=(gIm e1).1;simp at this;omega
   rw[<- r.len] at e2;rw[z] at e1 e2;simp at e1 e2;subst e1 e2;exact⟨hF,xs,dE,dl⟩
 ·by_cases hn:n<L.length
  ·rw[xAn hn] at e;obtain⟨ys,hy⟩:=r.tr n a e;exact⟨ys,by rw[bN (eB hy h)];exact hy⟩
  ·rw[yAf (by omega)] at e
   have z:a=p:=by
    have h1:=xAl e;simpa using h1
   exact⟨xs,by rw[z];exact dE⟩
theorem Rel.lay(r:Rel K F L S H){p:qv}{o:HO}(h:H p=qz):Rel K F L S (bE H p o):=by
 refine⟨λ b u q=>by rw[bN (eB q (r.sub.free h))];exact r.sub _ _ q,r.nd,r.len,λ n a ds e1 e2=>?_,λ n a e=>?_⟩
 ·obtain⟨f,xs,e3,dl⟩:=r.loc n a ds e1 e2;exact⟨f,xs,by rw[bN (eB e3 h)];exact e3,dl⟩
 ·obtain⟨xs,hx⟩:=r.tr n a e;exact⟨xs,by rw[bN (eB hx h)];exact hx⟩
theorem Rel.notin(r:Rel K F L S H){p:qv}(h:H p=qz):p ∉ L:=λ hp=>by
 obtain⟨n,hn⟩:=yFy hp;obtain⟨xs,hx⟩:=r.tr n p hn;rw[h] at hx;cases hx
theorem Rel.adopt(r:Rel K F L S H){p:qv}{xs:List V}(hF:F p=qz)(hL:p ∉ L)(hH:H p=qq (.lst xs)):Rel K (bE F p (.lst xs)) L S H:=by
 refine⟨λ b u q=>?_,r.nd,r.len,λ n a ds e1 e2=>?_,r.tr⟩
 ·by_cases hb:b=p
  ·subst hb;rw[dE] at q;rw[hH];exact q
  ·rw[bN hb] at q;exact r.sub _ _ q
 ·obtain⟨f,ys,e3,dl⟩:=r.loc n a ds e1 e2;have ne:a≠p:=λ z=>hL (by rw[<- z];exact xAl e1)
  exact⟨by rw[bN ne];exact f,ys,e3,dl.mono (eI hF)⟩
theorem Rel.adoptLoc(r:Rel K F L S H){p:qv}{xs:List V}{ds:List D}(hF:F p=qz)(hL:p ∉ L)(hH:H p=qq (.lst xs))(dl:DenL K F ds xs):Rel K F (L++[p]) (S++[qq ds]) H:=by
 refine⟨r.sub,?_,by rw[xAo,xAo,r.len]<;>rfl,λ n a es e1 e2=>?_,λ n a e=>?_⟩
 ·rw[yGq];refine⟨r.nd,by simp,λ a ha b hb=>?_⟩
  rw[yDy] at hb;subst hb;exact λ z=>hL (z▸ha)
 ·by_cases hn:n<L.length
  ·rw[xAn hn] at e1;rw[xAn (by rw[<- r.len];exact hn)] at e2
   exact r.loc n a es e1 e2
  ·rw[yAf (by omega)] at e1
   rw[yAf (by rw[<- r.len];omega)] at e2
   have z:n-L.length=0:=by
    have:=(gIm e1).1;simp at this;omega
   rw[<- r.len] at e2;rw[z] at e1 e2;simp at e1 e2;subst e1 e2;exact⟨hF,xs,hH,dl⟩
 ·by_cases hn:n<L.length
  ·rw[xAn hn] at e;exact r.tr n a e
  ·rw[yAf (by omega)] at e
   have z:a=p:=by
    have h1:=xAl e;simpa using h1
   exact⟨xs,by rw[z];exact hH⟩
theorem Gr.newLoc{p:qv}:Gr F L F (L++[p]):=⟨bY.refl _,[p],rfl⟩
theorem Rel.put(r:Rel K F L S H){n:Nat}{a:qv}{ys:List V}{es:List D}(e:L[n]? = qq a)(hF:F a=qz)(dl:DenL K F es ys):Rel K F L (S.set n (qq es)) (bE H a (.lst ys)):=by
 refine⟨λ b u q=>by rw[bN (eB q hF)];exact r.sub _ _ q,r.nd,by rw[yBe];exact r.len,λ m b fs e1 e2=>?_,λ m b e1=>?_⟩
 ·by_cases hm:n=m
  ·subst hm;rw[e] at e1;cases e1;have hl:n<S.length:=by rw[<- r.len];exact(gIm e).1
   rw[yAx hl] at e2;cases e2;exact⟨hF,ys,dE,dl⟩
  ·rw[yAy hm] at e2;have ne:b≠a:=λ z=>by
    subst z;have h1:=(gIm e);have h2:=(gIm e1);obtain⟨l1,g1⟩:=h1;obtain⟨l2,g2⟩:=h2;exact hm ((yGx r.nd).mp (g1.trans g2.symm))
   obtain⟨f,xs,e3,d3⟩:=r.loc m b fs e1 e2;exact⟨f,xs,by rw[bN ne];exact e3,d3⟩
 ·by_cases hb:b=a
  ·exact⟨ys,by rw[hb];exact dE⟩
  ·obtain⟨zs,hz⟩:=r.tr m b e1;exact⟨zs,by rw[bN hb];exact hz⟩
theorem Rel.freeze(r:Rel K F L S H){n:Nat}{a:qv}{ds:List D}(e:L[n]? = qq a)(es:S[n]? = qq (qq ds)) :
 ∃ F',Gr F L F' L/\Rel K F' L (S.set n qz) H/\Den K F' (.list ds) (.ref a):=by
 obtain⟨hF,xs,e3,dl⟩:=r.loc n a ds e es;refine⟨bE F a (.lst xs),Gr.new hF,⟨λ b u q=>?_,r.nd,by rw[yBe];exact r.len,λ m b fs e1 e2=>?_,r.tr⟩,.lst (bV.of dE) (dl.mono (eI hF))⟩
 ·by_cases hb:b=a
  ·subst hb;rw[dE] at q;rw[e3];exact q
  ·rw[bN hb] at q;exact r.sub _ _ q
 ·by_cases hm:n=m
  ·subst hm;have hl:n<S.length:=(gIm es).1;rw[yAx hl] at e2;cases e2
  ·rw[yAy hm] at e2;have ne:b≠a:=λ z=>by
    subst z;obtain⟨l1,g1⟩:=gIm e;obtain⟨l2,g2⟩:=gIm e1;exact hm ((yGx r.nd).mp (g1.trans g2.symm))
   obtain⟨f,ys,e4,d4⟩:=r.loc m b fs e1 e2;exact⟨by rw[bN ne];exact f,ys,e4,d4.mono (eI hF)⟩
theorem Rel.cut{M:List qv}(r:Rel K F (L++M) S H):Rel K F L (S.take L.length) H:=by
 have hl:L.length<=S.length:=by have:=r.len;rw[xAo] at this;omega
 refine⟨r.sub,(List.nodup_append.mp r.nd).1,by rw[yBx];omega,λ n a ds e1 e2=>?_,λ n a e1=>?_⟩
 ·have hn:n<L.length:=(gIm e1).1;rw[yDm hn] at e2;exact r.loc n a ds (by rw[xAn hn];exact e1) e2
 ·have hn:n<L.length:=(gIm e1).1;exact r.tr n a (by rw[xAn hn];exact e1)
end
def bO(K:FrG)(F H:Hp)(x:D)(v:V):Prop:=Den K F x v\/∃ ds a xs,x=.list ds/\v=.ref a/\H a=qq (.lst xs)/\DenL K F ds xs
noncomputable def dr(S:aC):W->Option D
 | .d x=>qq x
 | .loc n=>match S[n]? with
   | some (qq ds)=>qq (.list ds)
   | _=>qz
theorem jT{K:FrG}{F H:Hp}{L:List qv}{S:aC}{w:W}{x:D}{v:V}(r:Rel K F L S H)(h:eE K F L w v)(e:dr S w=qq x):bO K F H x v:=by
 cases w with
 | d y=>cases e;exact .inl h
 | loc n =>
   obtain⟨a,e1,rfl⟩:=h;cases e2:S[n]? with
   | none=>simp[dr,e2] at e
   | some o =>
     cases o with
     | none=>simp[dr,e2] at e
     | some ds =>
       simp[dr,e2] at e;subst e;obtain⟨f,xs,e3,dl⟩:=r.loc n a ds e1 e2;exact .inr ⟨ds,a,xs,rfl,rfl,e3,dl⟩
section
variable {K : FrG}{F H : Hp}{v : V}
theorem bO.non(h:bO K F H .none v):v=.non:=by
 rcases h with h | ⟨_,_,_,e,_⟩
 ·cases h;rfl
 ·cases e
theorem bO.bl{b:Bool}(h:bO K F H (.bool b) v):v=.bl b:=by
 rcases h with h | ⟨_,_,_,e,_⟩
 ·cases h;rfl
 ·cases e
theorem bO.int{i:Int}(h:bO K F H (.int i) v):v=.int i:=by
 rcases h with h | ⟨_,_,_,e,_⟩
 ·cases h;rfl
 ·cases e
theorem bO.str{x:Str}(h:bO K F H (.str x) v):v=.str x:=by
 rcases h with h | ⟨_,_,_,e,_⟩
 ·cases h;rfl
 ·cases e
theorem bO.lst{ds:List D}(s:bY F H)(h:bO K F H (.list ds) v):∃ a xs,v=.ref a/\bV K H a xs/\DenL K F ds xs:=by
 rcases h with h | ⟨_,a,xs,e,e2,e3,dl⟩
 ·cases h with
  | lst q r=>exact⟨_,_,rfl,s.seq q,r⟩
 ·cases e;exact⟨a,xs,e2,bV.of e3,dl⟩
theorem bO.tup{ds:List D}(s:bY F H)(h:bO K F H (.tuple ds) v):∃ a xs,v=.ref a/\cD K H a xs/\DenL K F ds xs:=by
 rcases h with h | ⟨_,_,_,e,_⟩
 ·cases h with
  | tup q r=>exact⟨_,_,rfl,mP s q,r⟩
 ·cases e
theorem bO.dict{aX:List (D×D)}(h:bO K F H (.dict aX) v):False:=by
 rcases h with h | ⟨_,_,_,e,_⟩
 ·cases h
 ·cases e
end
theorem aKX:fillsNumberSlot (.type "tuple") "mul" = pure false:=
 PySem.fillsNumberSlot_seq (id:="tuple.__mul__") (r:=qq (.builtin "tuple.__rmul__")) PySem.F.slot_tuple_mul.lookup (by decide +kernel) PySem.F.slot_tuple_rmul.lookup (by decide +kernel)
theorem aLo:seqRepeat? (.type "tuple")=pure (qq (.builtin "tuple.__mul__")):=by
 unfold seqRepeat?;rw[PySem.seqSlot_of (T:="tuple") (name:="__mul__") (id:="tuple.__mul__") PySem.F.slot_tuple_mul.lookup (by decide +kernel),PySem.seqSlot_of (T:="tuple") (name:="__rmul__") (id:="tuple.__rmul__") PySem.F.slot_tuple_rmul.lookup (by decide +kernel)]
 rfl
theorem aK6(a:Int)(t:Tok)(l:qv)(aQ:Array qx)(n:Nat)(d:Option qv)(sl:Array (Option qx)) :
 Meets (Builtin.«int.__rmul__» ⟨[.int a t,.ref l],[]⟩) (λ _ R s=>s.heap.get? l=qq {cls:=.type "tuple",dict:=d,data:=.seq aQ n,slots:=sl }/\R (.ok (.ret Value.notImplemented)) s):=
 .of_wp λ prog w A R s h=>by obtain⟨hp,g,d,tk,os⟩:=s;obtain⟨hl,h⟩:=h;wp_walk;exact⟨_,rfl,h⟩
theorem aLk(l:qv)(aQ:Array qx)(n:Nat)(d:Option qv)(sl:Array (Option qx))(t:Tok) :
 Meets (Builtin.«tuple.__mul__» ⟨[.ref l,.int 1 t],[]⟩) (λ _ R s=>s.heap.get? l=qq {cls:=.type "tuple",dict:=d,data:=.seq aQ n,slots:=sl }/\R (.ok (.ret (.ref l))) s):=
 .of_wp λ prog w A R s h=>by
  obtain⟨hp,g,d,tk,os⟩:=s;obtain⟨hl,h⟩:=h
  wp_walk
  exact⟨_,rfl,h⟩
theorem aK9(l:qv)(x:qx)(n:Nat)(d:Option qv)(sl:Array (Option qx))(t:Tok) :
 Meets (Builtin.«tuple.__mul__» ⟨[.ref l,.int 0 t],[]⟩) (λ _ R s=>s.heap.get? l=qq {cls:=.type "tuple",dict:=d,data:=.seq #[x] n,slots:=sl }/\R (.ok (.ret (.ref s.heap.objs.size))) {s with heap:=s.heap.push {cls:=.type "tuple",data:=.seq #[] } }):=
 .of_wp λ prog w A R s h=>by
  obtain⟨hp,g,d,tk,os⟩:=s;obtain⟨hl,h⟩:=h
  wp_walk
  exact⟨_,rfl,h⟩
theorem yS(x:qx):∀ (k:Nat) (aH:Array qx),(yAd k #[x]).foldl (· ++ ·) aH=aH++(yAd k x).toArray
 | 0,aH=>by simp
 | k+1,aH=>by
   rw[yAv,yBv,yS x k];apply Array.ext';simp[yAv]
theorem aLj(l:qv)(x:qx)(n:Nat)(d:Option qv)(sl:Array (Option qx))(k:Nat)(hk:2<=k)(hk2:k<=1000)(t:Tok) :
 Meets (Builtin.«tuple.__mul__» ⟨[.ref l,.int (k:Nat) t],[]⟩) (λ _ R s=>s.heap.get? l=qq {cls:=.type "tuple",dict:=d,data:=.seq #[x] n,slots:=sl }/\R (.ok (.ret (.ref s.heap.objs.size))) {s with heap:=s.heap.push {cls:=.type "tuple",data:=.seq (yAd k x).toArray } }):=
 .of_wp λ prog w A R s h=>by
  obtain⟨hp,g,d,tk,os⟩:=s;obtain⟨hl,h⟩:=h;have c1:(decide (((k:Nat):Int) < -(2^63))||decide (((k:Nat):Int) ≥ 2^63))=false:=by simp;omega
  have c2:(((k:Nat):Int)==1)=false:=by rw[beq_eq_false_iff_ne];omega
  have c3:decide (((k:Nat):Int)<=0)=false:=dqF (by omega)
  have c4:((#[x]:Array qx).isEmpty||(((k:Nat):Int)==1))=false:=by rw[c2];rfl
  have c5:(decide (((k:Nat):Int)<=0)||(#[x]:Array qx).isEmpty)=false:=by rw[c3];rfl
  have c6:¬ (((#[x]:Array qx).size:Int)*((k:Nat):Int)>(2^63-1)/8):=by
   show ¬ (((1:Nat):Int)*((k:Nat):Int)>(2^63-1)/8);omega
  have hsz:qk=16777216:=by decide
  have c7:yGf (((#[x]:Array qx).size:Int)*((k:Nat):Int))=false:=by
   unfold yGf;refine dqF ?_;show ¬ (((1:Nat):Int)*((k:Nat):Int)>((qk:Nat):Int));omega
  wp_walk
  rw[if_neg (by rw[c1];exact yAw)]
  refine wB (wpAny_tupleItemsOf hl rfl ?_);simp only[c4,c5,c6,c7,yAt,if_false];rw[yAr,yS,show(#[]:Array qx)++(yAd k x).toArray=(yAd k x).toArray by simp]
  refine wB (m:=yCn _) (xk (wP ⟨_,rfl,h⟩) ?_);show(yAd k x).toArray.size<=qk;rw[yAe,yEc,hsz];omega
section
variable {X : Cx}{aB : List (qv×Obj)}{σ : L2.St}{H : Hp}{s : qj}{Q : VK}
theorem aGm{x:V}{u:qx}(r:aZ x u):∀ k:Nat,aU (yAd k x) (yAd k u)
 | 0=>.nil
 | k+1=>.cons r (aGm r k)
theorem aVT{a:qv}{x:V}{k:Nat}{t:Tok}(I:Inv X aB σ H s)(ha:cD X.K H a [x])(hk:k<=1000)
 (q1:k=1->Q (.ref a) H) (q:∀ p,H p=qz->Q (.ref p) (bE H p (.tup (yAd k x)))):qy (model X.prog X.w) X.A (zo .Mult (.ref a) (.int (k:Nat) t)) (EP X aB σ Q) X.xe s:=by
 obtain⟨aF,r1,p1,_⟩:=I.tuple ha;obtain⟨u,rfl,ru⟩:∃ u,aF=[u]/\aZ x u:=by
  cases r1 with
  | cons r r'=>cases r';exact⟨_,rfl,r⟩
 obtain⟨⟨cls,d,data,sl⟩,ho,hcl,n,hd⟩:=p1;simp only at hcl hd;subst hcl hd;have hsz:qk=16777216:=by decide
 have bJ:∀ (aF:List qx),aF=yAd k u->EP X aB σ Q (.ref s.heap.objs.size) {s with heap:=s.heap.push {cls:=.type "tuple",data:=.seq aF.toArray } }:=λ aF e=>by
  subst e;exact⟨.ref _,_,I.laid (t':=s.toks) (o:=.tup (yAd k x)) (λ b ob q=>hpS _ q) (yAc _) ⟨by rw[yEc,hsz];omega,_,aGm ru k,⟨_,xAe _ rfl,rfl,0,rfl⟩⟩,rfl,q _ (I.hok.fresh (yAc _))⟩
 refine yw (T:="tuple") (U:="int") (by decide) ⟨_,ho,rfl⟩ (λ s'=>yv s' k t) aKX PySem.F.fills_int_mul yEd aLo PySem.F.slot_int_index.lookup
  (ww yEd (yv s k t) PySem.F.entry_int_rmul (PySem.F.args_int_rmul_2 _ _) (aK6 k t a _ n d sl)
    ⟨ho,rfl,⟨_,ho,rfl⟩,?_⟩)
 by_cases h1:k=1
 ·subst h1;exact ww yFl ⟨_,ho,rfl⟩ yFc (yEw _ _) (aLk a _ n d sl t) ⟨ho,.ref a,H,I,rfl,q1 rfl⟩
 ·by_cases h0:k=0
  ·subst h0;exact ww yFl ⟨_,ho,rfl⟩ yFc (yEw _ _) (aK9 a u n d sl t) ⟨ho,bJ [] rfl⟩
  ·exact ww yFl ⟨_,ho,rfl⟩ yFc (yEw _ _) (aLj a u n d sl k (by omega) hk t) ⟨ho,bJ _ rfl⟩
end
noncomputable def oI(i j:Int):Bool:=!(decide (yAk i>yz)&&decide (yAk j>yz)&&Builtin.Int.intTooBig (yAk i+yAk j))
noncomputable def wL{α:Type}(n:Nat)(xs:List α):List α:=(yAd n xs).flatten
noncomputable def aDr:D->D->Option D
 | .int i,.int j=>qq (.int (i+j))
 | .str x,.str y=>if x.length+y.length<=qk then qq (.str (x++y)) else qz
 | .tuple [],.tuple ys=>qq (.tuple ys)
 | .tuple xs,.tuple ys=>if xs.isEmpty=false/\xs.length+ys.length<=qk then qq (.tuple (xs++ys)) else qz
 | .list xs,.list ys=>if xs.length+ys.length<=qk then qq (.list (xs++ys)) else qz
 | _,_=>qz
noncomputable def aDL:D->D->Option D
 | .int i,.int j=>if oI i j=true then qq (.int (i*j)) else qz
 | .list xs,.int k=>if k<2^63 /\ -(2^63)<=k/\xs.length*k.toNat<=qk then qq (.list (wL k.toNat xs)) else qz
 | .tuple [x],.int k=>if 0<=k/\k<=1000 then qq (.tuple (yAd k.toNat x)) else qz
 | _,_=>qz
noncomputable def i2{α:Type}(f:Int->Int->Option α):D->D->Option α
 | .int i,.int j=>f i j
 | _,_=>qz
theorem lB{α:Type}{f:Int->Int->Option α}{i j:Int}:i2 f (.int i) (.int j)=f i j:=rfl
theorem iL{α:Type}{f:Int->Int->Option α}{x y:D}{z:α}(h:i2 f x y=qq z):∃ i j,x=.int i/\y=.int j/\f i j=qq z:=by
 cases x<;>first | (cases h;done) | skip
 cases y<;>first | (cases h;done) | exact⟨_,_,rfl,rfl,h⟩
noncomputable def rV:D->Bool
 | .none=>true
 | _=>false
theorem aGj{x:D}(h:rV x=true):x=.none:=by cases x<;>first | rfl | cases h
noncomputable def bR(op:vq)(x y:D):Option D:=match op with
 | .Add=>aDr x y
 | .Sub=>i2 (λ i j=>qq (.int (i-j))) x y
 | .Mult=>aDL x y
 | .MatMult=>qz
 | .Div=>qz
 | .Mod=>i2 (λ i j=>if j≠0 then qq (.int (i.fmod j)) else qz) x y
 | .Pow=>i2 (λ i j=>if 0<=j/\j<=1000000/\i.natAbs<2^64 then qq (.int (i^j.toNat)) else qz) x y
 | .LShift=>i2 (λ i j=>if 0<=j/\(yAk i:Int)+j<=2^27 then qq (.int (i*2^j.toNat)) else qz) x y
 | .RShift=>i2 (λ i j=>if 0<=j then qq (.int (i/2^j.toNat)) else qz) x y
 | .BitOr=>i2 (λ i j=>qq (.int (yGu i j))) x y
 | .BitXor=>i2 (λ i j=>qq (.int (yGn i j))) x y
 | .BitAnd=>i2 (λ i j=>qq (.int (yDv i j))) x y
 | .FloorDiv=>i2 (λ i j=>if j≠0/\yCs i j=false then qq (.int (i.fdiv j)) else qz) x y
noncomputable def oT:yx->D->Option D
 | .USub,.int i=>qq (.int (-i))
 | .Invert,.int i=>qq (.int (yBm i))
 | _,_=>qz
noncomputable def jA:D->Bool
 | .none | .bool _ | .int _ | .str _=>true
 | _=>false
noncomputable def pJ:List D->Bool
 | []=>true
 | d::r=>jA d&&pJ r
noncomputable def inD(x:D):List D->Bool
 | []=>false
 | y::r=>yCg y x||inD x r
noncomputable def aDe:D->Option (List D)
 | .list xs=>qq xs
 | .tuple xs=>qq xs
 | _=>qz
noncomputable def sR(op:vv)(x y:D):Option Bool:=match op with
 | .Eq=>if x.canLay0=true/\y.canLay0=true/\x.depth<=60 then qq (yCg x y) else qz
 | .NotEq=>if x.canLay0=true/\y.canLay0=true/\x.depth<=60 then qq (!yCg x y) else qz
 | .Lt=>i2 (λ i j=>qq (decide (i<j))) x y
 | .LtE=>i2 (λ i j=>qq (decide (i<=j))) x y
 | .Gt=>i2 (λ i j=>qq (decide (j<i))) x y
 | .GtE=>i2 (λ i j=>qq (decide (j<=i))) x y
 | .Is=>if rV y=true then qq (rV x) else qz
 | .IsNot=>if rV y=true then qq (!rV x) else qz
 | .In=>(aDe y).bind λ ys=>if jA x=true/\pJ ys=true then qq (inD x ys) else qz
 | .NotIn=>(aDe y).bind λ ys=>if jA x=true/\pJ ys=true then qq (!inD x ys) else qz
noncomputable def qA:D->Option Bool
 | .none=>qq false
 | .bool b=>qq b
 | .int i=>qq (i != 0)
 | .str x=>if x.length<=qk then qq ((x.length:Int) != 0) else qz
 | .list xs=>qq (!xs.isEmpty)
 | .tuple xs=>qq (!xs.isEmpty)
 | .dict _=>qz
section
variable {X : Cx}{aB : List (qv×Obj)}{s : qj}{σ : L2.St}{H : Hp}{x y : V}{v u : qx}{Q : VK}{F : Hp}{L : List qv}{S : aC}{dx dy z : D}
abbrev fN(X:Cx)(F:Hp)(L:List qv)(S:aC)(z:D)(Q:VK):Prop:=∀ F' H' r,bY F F'->Rel X.K F' L S H'->Den X.K F' z r->Q r H'
abbrev aA5(X:Cx)(F:Hp)(H:Hp)(zs:List D)(Q:VK):Prop:=∀ p xs,H p=qz->DenL X.K F zs xs->Q (.ref p) (bE H p (.lst xs))
theorem fN.here(R:Rel X.K F L S H)(q:fN X F L S z Q){r:V}(h:Den X.K F z r):Q r H:=q F H r (bY.refl _) R h
theorem aA5.out{zs:List D}(R:Rel X.K F L S H)(q:fN X F L S (.list zs) Q):aA5 X F H zs Q:=λ p xs hp dl =>
 q _ _ _ (eI (R.sub.free hp)) (R.new hp) (.lst (bV.of dE) (dl.mono (eI (R.sub.free hp))))
theorem fN.tup{zs:List D}(R:Rel X.K F L S H)(q:fN X F L S (.tuple zs) Q){p:qv}{xs:List V}(hp:H p=qz)(dl:DenL X.K F zs xs):Q (.ref p) (bE H p (.tup xs)):=
 q _ _ _ (eI (R.sub.free hp)) (R.new hp) (.tup (cD.of dE) (dl.mono (eI (R.sub.free hp))))
theorem aV8{a b:qv}{xs ys:List V}(I:Inv X aB σ H s)(ha:bV X.K H a xs)(hb:bV X.K H b ys)(hz:xs.length+ys.length<=qk)
 (q:∀ p,H p=qz->Q (.ref p) (bE H p (.lst (xs++ys)))):qy (model X.prog X.w) X.A (zo .Add (.ref a) (.ref b)) (EP X aB σ Q) X.xe s:=by
 obtain⟨aF,r1,p1,_⟩:=I.list ha;obtain⟨eG,r2,p2,_⟩:=I.list hb;obtain⟨⟨cls,dd,data,sl⟩,ho,hc,n,hd⟩:=p1.isList;obtain⟨⟨cls2,dd2,data2,sl2⟩,ho2,hc2,n2,hd2⟩:=p2.isList;simp only at hc hd hc2 hd2;subst hc hd hc2 hd2;have e:aF.toArray++eG.toArray=(aF++eG).toArray:=by simp
 refine concat_meets ⟨_,ho,rfl⟩ ⟨_,ho2,rfl⟩ noFill_list_add seq_list_add PySem.F.slot_list_add PySem.F.entry_list_add (PySem.F.args_list_add_2 _ _) (list_addW a b aF.toArray eG.toArray n n2 dd dd2 sl sl2 (by rw[yAe,yAe,<- r1.length,<- r2.length];exact hz)) ⟨ho,ho2,?_⟩
 rw[e];exact⟨.ref _,_,I.lnew (t':=s.toks) (r1.append r2) (by rw[xAo];omega),rfl,q _ I.fresh⟩
theorem aJ9{a:qv}{xs:List V}{k:Int}{t:Tok}(I:Inv X aB σ H s)(ha:bV X.K H a xs)(h1 : -(2^63)<=k)(h2:k<2^63)(hz:xs.length*k.toNat<=qk)
 (q:∀ p,H p=qz->Q (.ref p) (bE H p (.lst (yAd k.toNat xs).flatten))):qy (model X.prog X.w) X.A (zo .Mult (.ref a) (.int k t)) (EP X aB σ Q) X.xe s:=by
 obtain⟨aF,r1,p1,_⟩:=I.list ha;obtain⟨⟨cls,d,data,sl⟩,ho,hcl,n,hd⟩:=p1.isList;simp only at hcl hd;subst hcl hd;have hsz:aF.toArray.size*k.toNat<=2^24:=by
  rw[yAe,<- r1.length];have:qk=2^24:=rfl;rw[<- this];exact hz
 refine yw (T:="list") (U:="int") (by decide) ⟨_,ho,rfl⟩ (λ s'=>yv s' k t) noFill_list_mul PySem.F.fills_int_mul yEd repeat_list PySem.F.slot_int_index.lookup
  (ww yEd (yv s k t) PySem.F.entry_int_rmul (PySem.F.args_int_rmul_2 _ _) (lm_int_rmul_list_any k t a aF.toArray n d sl)
    ⟨ho,rfl,⟨_,ho,rfl⟩,ww PySem.F.slot_list_mul ⟨_,ho,rfl⟩ PySem.F.entry_list_mul (PySem.F.args_list_mul_2 _ _)
     (lm_list_mul_any a aF.toArray n d sl k t (by simp[Builtin.List.listFitsIndex];omega) (by omega) (by simp[Builtin.List.listTooLong,qk];simpa using hsz))
     ⟨ho,?_⟩⟩)
 rw[listMul_foldl_if];exact⟨.ref _,_,I.lnew (t':=s.toks) (r1.rep k.toNat) (by rw[aOJ,yHg];exact hz),rfl,q _ I.fresh⟩
theorem aSV{a b:qv}{ys:List V}(I:Inv X aB σ H s)(ha:cD X.K H a [])(hb:cD X.K H b ys)(q:Q (.ref b) H):qy (model X.prog X.w) X.A (zo .Add (.ref a) (.ref b)) (EP X aB σ Q) X.xe s:=by
 obtain⟨aF,r1,p1,_⟩:=I.tuple ha;obtain⟨eG,r2,p2,_⟩:=I.tuple hb;cases r1;obtain⟨⟨cls,dd,data,sl⟩,ho,hc,n,hd⟩:=p1;obtain⟨⟨cls2,dd2,data2,sl2⟩,ho2,hc2,n2,hd2⟩:=p2;simp only at hc hd hc2 hd2;subst hc hd hc2 hd2;exact concat_meets ⟨_,ho,rfl⟩ ⟨_,ho2,rfl⟩ noFill_tuple_add seq_tuple_add yFk yFb (yEv _ _) (tuple_addW0 a b _ eG.toArray n n2 dd dd2 sl sl2 rfl) ⟨ho,ho2,⟨.ref b,H,I,rfl,q⟩⟩
theorem aQQ(I:Inv X aB σ H s)(rx:aZ x v)(ry:aZ y u)(R:Rel X.K F L S H)(nx:bO X.K F H dx x)(ny:bO X.K F H dy y)(e:aDr dx dy=qq z)(q:fN X F L S z Q) :
 qy (model X.prog X.w) X.A (zo .Add v u) (EP X aB σ Q) X.xe s:=by
 unfold aDr at e
 split at e
 ·rename_i i j;cases e;exact aQm aB s σ H x y v u Q I rx ry ⟨i,j,nx.int,ny.int,q.here R (.int _)⟩
 ·rename_i a b
  split at e
  ·rename_i c;cases e;exact aLM aB s σ H x y v u Q I rx ry ⟨a,b,nx.str,ny.str,c,q.here R (.str _)⟩
  ·cases e
 ·rename_i ys;cases e;obtain⟨a,vs,rfl,h1,d1⟩:=nx.tup R.sub;obtain⟨b,ws,rfl,h2,d2⟩:=ny.tup R.sub;cases d1;cases rx;cases ry;refine aSV I h1 h2 (q F H _ (bY.refl _) R ?_);rcases ny with ny | ⟨_,_,_,e,_⟩
  ·exact ny
  ·cases e
 ·rename_i xs ys _
  split at e
  ·rename_i c;cases e;obtain⟨a,vs,rfl,h1,d1⟩:=nx.tup R.sub;obtain⟨b,ws,rfl,h2,d2⟩:=ny.tup R.sub;have hne:vs≠[]:=λ z=>by
    have:=d1.length;rw[z] at this;cases xs with
    | nil=>simp at c
    | cons _ _=>simp at this
   refine aPB aB s σ H _ _ v u Q I rx ry ⟨a,b,vs,ws,rfl,rfl,h1,h2,hne,by rw[<- d1.length,<- d2.length];exact c.2,λ z=>?_,λ z p hp=>?_⟩
   ·have:ys=[]:=by
     have h:=d2.length;rw[z] at h;exact List.eq_nil_of_length_eq_zero h
    subst this;refine q F H _ (bY.refl _) R ?_;rw[yEb];rcases nx with nx | ⟨_,_,_,e,_⟩
    ·exact nx
    ·cases e
   ·exact q.tup R hp (d1.append d2)
  ·cases e
 ·rename_i xs ys
  split at e
  ·rename_i c;cases e;obtain⟨a,vs,rfl,h1,d1⟩:=nx.lst R.sub;obtain⟨b,ws,rfl,h2,d2⟩:=ny.lst R.sub;cases rx;cases ry;exact aV8 I h1 h2 (by rw[<- d1.length,<- d2.length];exact c) λ p hp=>aA5.out R q p _ hp (d1.append d2)
  ·cases e
 ·cases e
theorem aHP{K:FrG}{F:Hp}{x:D}{v:V}(h:Den K F x v):∀ k:Nat,DenL K F (yAd k x) (yAd k v)
 | 0=>.nil
 | k+1=>.cons h (aHP h k)
theorem aP9(I:Inv X aB σ H s)(rx:aZ x v)(ry:aZ y u)(R:Rel X.K F L S H)(nx:bO X.K F H dx x)(ny:bO X.K F H dy y)(e:aDL dx dy=qq z)(q:fN X F L S z Q) :
 qy (model X.prog X.w) X.A (zo .Mult v u) (EP X aB σ Q) X.xe s:=by
 unfold aDL at e
 split at e
 ·rename_i i j
  split at e
  ·rename_i c;cases e;obtain rfl:=nx.int;obtain rfl:=ny.int;obtain⟨t,rfl⟩:=rx;obtain⟨t',rfl⟩:=ry;refine PyProof.Rows.mul_int ⟨.int (i*j),H,I.tok _,⟨_,rfl⟩,q.here R (.int _)⟩ ?_;unfold IntMulOk;unfold oI at c;intro z;rw[z] at c;cases c
  ·cases e
 ·rename_i xs k
  split at e
  ·rename_i c;cases e;obtain⟨a,vs,rfl,h1,d1⟩:=nx.lst R.sub;obtain rfl:=ny.int;cases rx;obtain⟨t',rfl⟩:=ry;exact aJ9 I h1 c.2.1 c.1 (by rw[<- d1.length];exact c.2.2) λ p hp=>aA5.out R q p _ hp (d1.rep _)
  ·cases e
 ·rename_i xd k
  split at e
  ·rename_i c;cases e;obtain⟨a,vs,rfl,h1,d1⟩:=nx.tup R.sub;obtain rfl:=ny.int;cases rx;obtain⟨t',rfl⟩:=ry;obtain⟨kk,rfl⟩:∃ kk:Nat,k=(kk:Nat):=⟨k.toNat,by omega⟩
   rw[yAr] at q;cases d1 with
   | cons dx dn =>
     cases dn;refine aVT I h1 (by omega) (λ hk=>?_) λ p hp=>fN.tup R q hp (aHP dx kk)
     subst hk;refine q F H _ (bY.refl _) R ?_;rcases nx with nx | ⟨_,_,_,z,_⟩
     ·exact nx
     ·cases z
  ·cases e
 ·cases e
theorem vG{op:vq}{C:Int->Int->Prop}{g:Int->Int->Int}(rule:cJ X (zo op) (rI C λ i j=>.int (g i j))){i j:Int}(c:C i j)(I:Inv X aB σ H s)(rx:aZ x v)(ry:aZ y u)(R:Rel X.K F L S H)
 (nx:bO X.K F H (.int i) x) (ny:bO X.K F H (.int j) y) (q:fN X F L S (.int (g i j)) Q) :
 qy (model X.prog X.w) X.A (zo op v u) (EP X aB σ Q) X.xe s:=
 rule aB s σ H x y v u Q I rx ry ⟨i,j,nx.int,ny.int,c,q.here R (.int _)⟩
theorem zS{op:vq}{g:Int->Int->Int}(rule:cJ X (zo op) (jI λ i j=>.int (g i j))){i j:Int}(I:Inv X aB σ H s)(rx:aZ x v)(ry:aZ y u)(R:Rel X.K F L S H)
 (nx:bO X.K F H (.int i) x) (ny:bO X.K F H (.int j) y) (q:fN X F L S (.int (g i j)) Q) :
 qy (model X.prog X.w) X.A (zo op v u) (EP X aB σ Q) X.xe s:=
 rule aB s σ H x y v u Q I rx ry ⟨i,j,nx.int,ny.int,q.here R (.int _)⟩
theorem aOW:cJ X (zo .FloorDiv) (rI (λ i j=>j≠0/\yCs i j=false) λ i j=>.int (i.fdiv j)):=xI λ _ _ _ _ _ _ _ hc q=>floordiv_int hc.1 q (.inl hc.2)
theorem aSU:cJ X (zo .LShift) (rI (λ i j=>0<=j/\(yAk i:Int)+j<=2^27) λ i j=>.int (i*2^j.toNat)):=xI λ _ _ _ _ _ _ _ hc q=>lshift_int hc.1 hc.2 q
theorem bind_some{α β:Type}{o:Option α}{f:α->Option β}{b:β}(h:o.bind f=qq b):∃ a,o=qq a/\f a=qq b:=by
 cases o with
 | none=>cases h
 | some a=>exact⟨a,rfl,h⟩
theorem jV{α:Type}{p:Prop} [Decidable p]{a z:α}(h:(if p then qq a else qz)=qq z):p/\a=z:=by
 split at h
 ·rename_i c;cases h;exact⟨c,rfl⟩
 ·cases h
theorem aRb{op:vq}(I:Inv X aB σ H s)(rx:aZ x v)(ry:aZ y u)(R:Rel X.K F L S H)(nx:bO X.K F H dx x)(ny:bO X.K F H dy y)(e:bR op dx dy=qq z)(q:fN X F L S z Q) :
 qy (model X.prog X.w) X.A (zo op v u) (EP X aB σ Q) X.xe s:=by
 cases op with
 | Add=>exact aQQ I rx ry R nx ny e q
 | Mult=>exact aP9 I rx ry R nx ny e q
 | MatMult=>cases e
 | Div=>cases e
 | Sub=>obtain⟨i,j,rfl,rfl,e⟩:=iL e;cases e;exact zS aQI I rx ry R nx ny q
 | BitAnd=>obtain⟨i,j,rfl,rfl,e⟩:=iL e;cases e;exact zS aRV I rx ry R nx ny q
 | BitOr=>obtain⟨i,j,rfl,rfl,e⟩:=iL e;cases e;exact zS aUc I rx ry R nx ny q
 | BitXor=>obtain⟨i,j,rfl,rfl,e⟩:=iL e;cases e;exact zS aR3 I rx ry R nx ny q
 | FloorDiv=>obtain⟨i,j,rfl,rfl,e⟩:=iL e;obtain⟨c,rfl⟩:=jV e;exact vG aOW c I rx ry R nx ny q
 | Mod=>obtain⟨i,j,rfl,rfl,e⟩:=iL e;obtain⟨c,rfl⟩:=jV e;exact vG aPf c I rx ry R nx ny q
 | Pow=>obtain⟨i,j,rfl,rfl,e⟩:=iL e;obtain⟨c,rfl⟩:=jV e;exact vG aSy c I rx ry R nx ny q
 | LShift=>obtain⟨i,j,rfl,rfl,e⟩:=iL e;obtain⟨c,rfl⟩:=jV e;exact vG aSU c I rx ry R nx ny q
 | RShift=>obtain⟨i,j,rfl,rfl,e⟩:=iL e;obtain⟨c,rfl⟩:=jV e;exact vG aRz c I rx ry R nx ny q
theorem aTn{op:yx}(I:Inv X aB σ H s)(rx:aZ x v)(R:Rel X.K F L S H)(nx:bO X.K F H dx x)(e:oT op dx=qq z)(q:fN X F L S z Q) :
 qy (model X.prog X.w) X.A (unaryOp op v) (EP X aB σ Q) X.xe s:=by
 unfold oT at e
 split at e
 ·cases e;exact aRl aB s σ H x v Q I rx ⟨_,nx.int,q.here R (.int _)⟩
 ·cases e;exact aSC aB s σ H x v Q I rx ⟨_,nx.int,q.here R (.int _)⟩
 ·cases e
mutual
theorem aFx(I:Inv X aB σ H s)(sb:bY F H):∀ {d:D}{x:V}{v:qx},Den X.K F d x->aZ x v->∃ as,Reads s.heap v d as
 | _,_,v,.non,r=>by cases (show v=Value.none from r);exact⟨_,.none⟩
 | _,_,v,.bl b,r=>by cases (show v=Value.bool b from r);exact⟨_,.bool b⟩
 | _,_,v,.int i,r=>by obtain⟨t,rfl⟩:=(show ∃ t,v=Value.int i t from r);exact⟨_,.int i t⟩
 | _,_,v,.str y,r=>by obtain⟨t,rfl⟩:=(show ∃ t,v=Value.str y t from r);exact⟨_,.str y t⟩
 | _,_,v,.lst (a:=a) h dl,r=>by
   cases (show v=Value.ref a from r)
   obtain⟨aF,rv,p1,_⟩:=I.list (sb.seq h);obtain⟨o,ho,hc,n,hd⟩:=p1.isList;obtain⟨as,ra⟩:=yL I sb dl rv;exact⟨_,.list ho hc hd (by simpa using ra)⟩
 | _,_,v,.tup (a:=a) h dl,r=>by
   cases (show v=Value.ref a from r)
   obtain⟨aF,rv,p1,_⟩:=I.tuple (mP sb h);obtain⟨o,ho,hc,n,hd⟩:=p1;obtain⟨as,ra⟩:=yL I sb dl rv;exact⟨_,.tuple ho hc hd (by simpa using ra)⟩
theorem yL(I:Inv X aB σ H s)(sb:bY F H):∀ {ds:List D}{xs:List V}{us:List qx},DenL X.K F ds xs->aU xs us->∃ as,ReadsAll s.heap us ds as
 | _,_,_,.nil,r=>by cases r;exact⟨_,.nil⟩
 | _,_,_,.cons h dl,.cons r rs=>by
   obtain⟨as,ra⟩:=aFx I sb h r;obtain⟨bs,rb⟩:=yL I sb dl rs;exact⟨_,.cons ra rb⟩
end
theorem yU(I:Inv X aB σ H s)(R:Rel X.K F L S H)(rx:aZ x v)(nx:bO X.K F H dx x):∃ as,Reads s.heap v dx as:=by
 rcases nx with nx | ⟨ds,a,xs,rfl,rfl,e,dl⟩
 ·exact aFx I R.sub nx rx
 ·cases rx;obtain⟨aF,rv,p1,_⟩:=I.list (bV.of e);obtain⟨o,ho,hc,n,hd⟩:=p1.isList;obtain⟨as,ra⟩:=yL I R.sub dl rv;exact⟨_,.list ho hc hd (by simpa using ra)⟩
theorem aTL(hu:X.A.units+64<cLine)(I:Inv X aB σ H s)(rx:aZ x v)(ry:aZ y u)(R:Rel X.K F L S H)(nx:bO X.K F H dx x)(ny:bO X.K F H dy y)
 (c1:dx.canLay0=true) (c2:dy.canLay0=true) (c3:dx.depth<=60) (q:Q (.bl (yCg dx dy)) H):qy (model X.prog X.w) X.A (jj .Eq v u) (EP X aB σ Q) X.xe s:=by
 obtain⟨as,ra⟩:=yU I R rx nx;obtain⟨bs,rb⟩:=yU I R ry ny;refine SeqAt.compareEq_reads ra rb c1 c2 ?_ ⟨.bl _,H,I,rfl,q⟩;have:min dx.depth dy.depth<=dx.depth:=Nat.min_le_left _ _;omega
theorem aTh(hu:X.A.units+64<cLine)(I:Inv X aB σ H s)(rx:aZ x v)(ry:aZ y u)(R:Rel X.K F L S H)(nx:bO X.K F H dx x)(ny:bO X.K F H dy y)
 (c1:dx.canLay0=true) (c2:dy.canLay0=true) (c3:dx.depth<=60) (q:Q (.bl (!yCg dx dy)) H):qy (model X.prog X.w) X.A (jj .NotEq v u) (EP X aB σ Q) X.xe s:=by
 obtain⟨as,ra⟩:=yU I R rx nx;obtain⟨bs,rb⟩:=yU I R ry ny;refine SeqAt.compareNe_reads ra rb c1 c2 ?_ ⟨.bl _,H,I,rfl,q⟩;have:min dx.depth dy.depth<=dx.depth:=Nat.min_le_left _ _;omega
end
theorem aNt{K:FrG}{F:Hp}{d e:D}{x y:V}(h1:Den K F d x)(h2:Den K F e y)(f1:jA d=true)(f2:jA e=true):nE x y=yCg d e:=by
 cases h1<;>first | (simp[jA] at f1;done) | skip
 all_goals cases h2<;>first | (simp[jA] at f2;done) | rfl | skip
theorem aCa{K:FrG}{F:Hp}{d:D}{x:V}(h1:Den K F d x)(f1:jA d=true):lI x=true:=by
 cases h1<;>first | rfl | (simp[jA] at f1;done)
theorem aCj{K:FrG}{F:Hp}:∀ {ds:List D}{xs:List V},DenL K F ds xs->pJ ds=true->xs.all lI=true
 | _,_,.nil,_=>rfl
 | _,_,.cons h r,f=>by
   simp only[pJ,yAu] at f;rw[List.all_cons,aCa h f.1,aCj r f.2];rfl
theorem aCC{K:FrG}{F:Hp}{e:D}{y:V}(h2:Den K F e y)(f2:jA e=true):∀ {ds:List D}{xs:List V},DenL K F ds xs->pJ ds=true->sY y xs=inD e ds
 | _,_,.nil,_=>rfl
 | _,_,.cons h r,f=>by
   simp only[pJ,yAu] at f;have ih:=aCC h2 f2 r f.2;unfold sY at ih ⊢;rw[List.any_cons,ih,aNt h h2 f.1 f2];rfl
section
variable {X : Cx}{aB : List (qv×Obj)}{s : qj}{σ : L2.St}{H : Hp}{x y : V}{v u : qx}{Q : VK}{F : Hp}{L : List qv}{S : aC}{dx dy : D}{b : Bool}
theorem bO.flat{d:D}{z:V}(h:bO X.K F H d z)(f:jA d=true):Den X.K F d z:=by
 rcases h with h | ⟨ds,_,_,rfl,_⟩
 ·exact h
 ·simp[jA] at f
theorem aHz{d:D}{ys:List D}{z:V}(sb:bY F H)(h:bO X.K F H d z)(e:aDe d=qq ys):∃ p xs,z=.ref p/\(bV X.K H p xs\/cD X.K H p xs)/\DenL X.K F ys xs:=by
 cases d with
 | list l=>cases e;obtain⟨a,xs,e1,q,dl⟩:=h.lst sb;exact⟨a,xs,e1,.inl q,dl⟩
 | tuple l=>cases e;obtain⟨a,xs,e1,q,dl⟩:=h.tup sb;exact⟨a,xs,e1,.inr q,dl⟩
 | _=>cases e
theorem aGQ(R:Rel X.K F L S H)(nx:bO X.K F H dx x):decide (x=.non)=rV dx:=by
 cases dx with
 | none=>rw[nx.non];rfl
 | bool c=>rw[nx.bl];rfl
 | int c=>rw[nx.int];rfl
 | str c=>rw[nx.str];rfl
 | list c=>obtain⟨a,xs,rfl,_⟩:=nx.lst R.sub;rfl
 | tuple c=>obtain⟨a,xs,rfl,_⟩:=nx.tup R.sub;rfl
 | dict c=>exact nx.dict.elim
theorem aP8{op:vv}(hu:X.A.units+64<cLine)(I:Inv X aB σ H s)(rx:aZ x v)(ry:aZ y u)(R:Rel X.K F L S H)(nx:bO X.K F H dx x)(ny:bO X.K F H dy y)(e:sR op dx dy=qq b)(q:Q (.bl b) H) :
 qy (model X.prog X.w) X.A (jj op v u) (EP X aB σ Q) X.xe s:=by
 cases op with
 | Lt=>obtain⟨i,j,rfl,rfl,e⟩:=iL e;cases e;exact aSS aB s σ H x y v u Q I rx ry ⟨_,_,nx.int,ny.int,q⟩
 | LtE=>obtain⟨i,j,rfl,rfl,e⟩:=iL e;cases e;exact aT8 aB s σ H x y v u Q I rx ry ⟨_,_,nx.int,ny.int,q⟩
 | Gt=>obtain⟨i,j,rfl,rfl,e⟩:=iL e;cases e;exact aTg aB s σ H x y v u Q I rx ry ⟨_,_,nx.int,ny.int,q⟩
 | GtE=>obtain⟨i,j,rfl,rfl,e⟩:=iL e;cases e;exact aUE aB s σ H x y v u Q I rx ry ⟨_,_,nx.int,ny.int,q⟩
 | Eq=>obtain⟨c,rfl⟩:=jV e;exact aTL hu I rx ry R nx ny c.1 c.2.1 c.2.2 q
 | NotEq=>obtain⟨c,rfl⟩:=jV e;exact aTh hu I rx ry R nx ny c.1 c.2.1 c.2.2 q
 | Is =>
   obtain⟨c,rfl⟩:=jV e;cases aGj c;exact aRF aB s σ H x y v u Q I rx ry ⟨ny.non,by rw[aGQ R nx];exact q⟩
 | IsNot =>
   obtain⟨c,rfl⟩:=jV e;cases aGj c;exact aOh aB s σ H x y v u Q I rx ry ⟨ny.non,by rw[aGQ R nx];exact q⟩
 | In =>
   obtain⟨ys,hs,e⟩:=bind_some e;obtain⟨c,rfl⟩:=jV e;obtain⟨p,xs,e1,sq,dl⟩:=aHz R.sub ny hs;refine aMW aB s σ H x y v u Q I rx ry ⟨p,xs,e1,sq,aCa (nx.flat c.1) c.1,aCj dl c.2,?_⟩;show Q (.bl (sY x xs)) H;rw[aCC (nx.flat c.1) c.1 dl c.2];exact q
 | NotIn =>
   obtain⟨ys,hs,e⟩:=bind_some e;obtain⟨c,rfl⟩:=jV e;obtain⟨p,xs,e1,sq,dl⟩:=aHz R.sub ny hs;refine aLu aB s σ H x y v u Q I rx ry ⟨p,xs,e1,sq,aCa (nx.flat c.1) c.1,aCj dl c.2,?_⟩;show Q (.bl (!sY x xs)) H;rw[aCC (nx.flat c.1) c.1 dl c.2];exact q
theorem aER{K:FrG}{ds:List D}{xs:List V}(h:DenL K F ds xs):xs.isEmpty=ds.isEmpty:=by cases h<;>rfl
theorem aPx{b:Bool}(R:Rel X.K F L S H)(nx:bO X.K F H dx x)(e:qA dx=qq b):aDB X.K x H b:=by
 cases dx with
 | none=>cases e;rw[nx.non];exact rfl
 | bool c=>cases e;rw[nx.bl];exact rfl
 | int c=>cases e;rw[nx.int];exact rfl
 | str c =>
   rw[nx.str];have e':(if c.length<=qk then qq ((c.length:Int) != 0) else qz)=qq b:=e
   split at e'
   ·rename_i h;cases e';exact⟨h,rfl⟩
   ·cases e'
 | list c=>cases e;obtain⟨a,xs,rfl,sq,dl⟩:=nx.lst R.sub;exact .inl ⟨xs,sq,by rw[aER dl]⟩
 | tuple c=>cases e;obtain⟨a,xs,rfl,sq,dl⟩:=nx.tup R.sub;exact .inr (.inl ⟨xs,sq,by rw[aER dl]⟩)
 | dict c=>cases e
end
noncomputable abbrev FE:=aY->aC->Option (W×aC)
noncomputable abbrev FT:=aY->aC->Option (Bool×aC)
noncomputable abbrev FA:=aY->aC->Option (List W×aC)
noncomputable abbrev FL:=aY->aC->Option (List D×aC)
inductive Fl where
 | nx (env:aY) | rt (w:W) | bk (env:aY) | ct (env:aY)
noncomputable abbrev FS:=aY->aC->Option (Fl×aC)
inductive WDenL (K:FrG) (F:Hp) (L:List qv):List W->List V->Prop
 | nil:WDenL K F L [] []
 | cons {w:W}{ws:List W}{x:V}{xs:List V}:eE K F L w x->WDenL K F L ws xs->WDenL K F L (w::ws) (x::xs)
theorem WDenL.mono{K:FrG}{F F':Hp}{L L':List qv}(g:Gr F L F' L'):∀ {ws:List W}{xs:List V},WDenL K F L ws xs->WDenL K F' L' ws xs
 | _,_,.nil=>.nil
 | _,_,.cons h r=>.cons (h.mono g) (r.mono g)
theorem WDenL.length{K:FrG}{F:Hp}{L:List qv}:∀ {ws:List W}{xs:List V},WDenL K F L ws xs->ws.length=xs.length
 | _,_,.nil=>rfl
 | _,_,.cons _ r=>congrArg (· + 1) r.length
section
variable (K : FrG)
noncomputable def aW(f:FE):TE:=λ σ H Q=>∃ F L S env w S',Rel K F L S H/\EnvR K F L env σ/\f env S=qq (w,S')/\∀ F' L' H' v,Gr F L F' L'->Rel K F' L' S' H'->eE K F' L' w v->Q v H'
noncomputable def fL(f:FT):TT:=λ σ H Q=>∃ F L S env b S',Rel K F L S H/\EnvR K F L env σ/\f env S=qq (b,S')/\∀ F' L' H',Gr F L F' L'->Rel K F' L' S' H'->Q b H'
noncomputable def iF(f:FA):TA:=λ σ H Q=>∃ F L S env ws S',Rel K F L S H/\EnvR K F L env σ/\f env S=qq (ws,S')/\∀ F' L' H' vs,Gr F L F' L'->Rel K F' L' S' H'->WDenL K F' L' ws vs->Q vs H'
noncomputable def iC(f:FL):TE:=λ σ H Q=>∃ F L S env ds S',Rel K F L S H/\EnvR K F L env σ/\f env S=qq (ds,S')/\∀ F' L' H' p xs,Gr F L F' L'->Rel K F' L' S' H'->F' p=qz->p ∉ L'->H' p=qq (.lst xs)->DenL K F' ds xs->Q (.ref p) H'
noncomputable def dI(f:FS):TS:=λ D σ H=>∃ F L S env fl S',Rel K F L S H/\EnvR K F L env σ/\f env S=qq (fl,S')/\∀ F' L' H',Gr F L F' L'->Rel K F' L' S' H'->match fl with
 | .nx aM=>∀ σ',EnvR K F' L' aM σ'->D.nx σ' H'
 | .rt w=>∀ v,eE K F' L' w v->D.rt v H'
 | .bk aM=>∀ σ',EnvR K F' L' aM σ'->D.bk σ' H'
 | .ct aM=>∀ σ',EnvR K F' L' aM σ'->D.ct σ' H'
end
section
variable {X : Cx}
theorem PE.weak{e:qw}{t t':TE}(h:PE X e t)(w:∀ σ H Q,t' σ H Q->t σ H Q):PE X e t':=λ aB s σ H Q I q=>h aB s σ H Q I (w σ H Q q)
theorem PT.weak{e:qw}{t t':TT}(h:PT X e t)(w:∀ σ H Q,t' σ H Q->t σ H Q):PT X e t':=λ aB s σ H Q I q=>h aB s σ H Q I (w σ H Q q)
theorem PW.weak{e:qw}{t t':TT}(h:PW X e t)(w:∀ σ H Q,t' σ H Q->t σ H Q):PW X e t':=λ wh aB s σ H Q I q=>h wh aB s σ H Q I (w σ H Q q)
theorem PA.weak{e:List qw}{t t':TA}(h:PA X e t)(w:∀ σ H Q,t' σ H Q->t σ H Q):PA X e t':=λ pos aB s σ H Q I q=>h pos aB s σ H Q I (w σ H Q q)
theorem PS.weak{e:jx}{t t':TS}(h:PS X e t)(w:∀ D σ H,t' D σ H->t D σ H):PS X e t':=λ aB s σ H D I q=>h aB s σ H D I (w D σ H q)
theorem dR.weak{e:List jx}{t t':TS}(h:dR X e t)(w:∀ D σ H,t' D σ H->t D σ H):dR X e t':=λ aB s σ H D I q=>h aB s σ H D I (w D σ H q)
abbrev sH(K:FrG)(F:Hp)(L:List qv)(S':aC)(w:W)(Q:VK):Prop:=∀ F' L' H' v,Gr F L F' L'->Rel K F' L' S' H'->eE K F' L' w v->Q v H'
noncomputable def f2(fa fb:FE)(g:aC->W->W->Option (W×aC)):FE:=λ env S=>(fa env S).bind λ p=>(fb env p.2).bind λ q=>g q.2 p.1 q.1
noncomputable def f1(fa:FE)(g:aC->W->Option (W×aC)):FE:=λ env S=>(fa env S).bind λ p=>g p.2 p.1
theorem aAX{K:FrG}{fa fb:FE}{g:aC->W->W->Option (W×aC)}{r:R2}
 (hr:∀ F L S H x y wx wy w S' Q,Rel K F L S H->eE K F L wx x->eE K F L wy y->g S wx wy=qq (w,S')->sH K F L S' w Q->r x y H Q)
 (σ:St) (H:Hp) (Q:VK) (h:aW K (f2 fa fb g) σ H Q):xC r (aW K fa) (aW K fb) σ H Q:=by
 obtain⟨F,L,S,env,w,S',R,E,e,q⟩:=h;unfold f2 at e;cases ea:fa env S with
 | none=>rw[ea] at e;cases e
 | some p =>
   obtain⟨wx,S1⟩:=p;rw[ea] at e;dsimp only[yCz] at e;cases eb:fb env S1 with
   | none=>rw[eb] at e;cases e
   | some p2 =>
     obtain⟨wy,S2⟩:=p2;rw[eb] at e;dsimp only at e;refine⟨F,L,S,env,wx,S1,R,E,ea,λ F1 L1 H1 x g1 R1 d1=>⟨F1,L1,S1,env,wy,S2,R1,E.mono g1,eb,λ F2 L2 H2 y g2 R2 d2=>?_⟩⟩
     exact hr F2 L2 S2 H2 x y wx wy w S' Q R2 (d1.mono g2) d2 e λ F3 L3 H3 v g3 R3 d3=>q F3 L3 H3 v ((g1.trans g2).trans g3) R3 d3
theorem aVh{K:FrG}{fa:FE}{g:aC->W->Option (W×aC)}{r:V->Hp->VK->Prop}
 (hr:∀ F L S H x wx w S' Q,Rel K F L S H->eE K F L wx x->g S wx=qq (w,S')->sH K F L S' w Q->r x H Q)
 (σ:St) (H:Hp) (Q:VK) (h:aW K (f1 fa g) σ H Q):tUn r (aW K fa) σ H Q:=by
 obtain⟨F,L,S,env,w,S',R,E,e,q⟩:=h;unfold f1 at e;cases ea:fa env S with
 | none=>rw[ea] at e;cases e
 | some p =>
   obtain⟨wx,S1⟩:=p;rw[ea] at e;dsimp only[yCz] at e;refine⟨F,L,S,env,wx,S1,R,E,ea,λ F1 L1 H1 x g1 R1 d1=>?_⟩
   exact hr F1 L1 S1 H1 x wx w S' Q R1 d1 e λ F3 L3 H3 v g3 R3 d3=>q F3 L3 H3 v (g1.trans g3) R3 d3
noncomputable def iN(i:Nat):FE:=λ env S=>match env[i]? with
 | some (qq w)=>qq (w,S)
 | _=>qz
theorem aMs{i:Nat}{env:aY}{S S':aC}{w:W}(h:iN i env S=qq (w,S')):env[i]? = qq (qq w)/\S'=S:=by
 unfold iN at h
 split at h
 ·rename_i w' e;cases h;exact⟨e,rfl⟩
 ·cases h
theorem aTE{i:Nat}{x:Str}{pos:Pos}(hN:X.N[i]? = qq x)(hv:wS X.env.scope x)(hd:(x==("__debug__" : Str))=false)(hcd:(x==("__classdict__" : Str))=false):PE X (.Name x pos) (aW X.K (iN i)):=
 PE.weak (aRM hN hv hd hcd) λ σ H Q aV=>by
  obtain⟨F,L,S,env,w,S',R,E,e,q⟩:=aV;obtain⟨e1,rfl⟩:=aMs e;obtain⟨v,e2,d⟩:=E.get i w e1;exact⟨v,e2,q F L H v Gr.refl R d⟩
noncomputable def fC(d:D):FE:=λ _ S=>qq (.d d,S)
theorem aUy{i j pos}:PE X (.Constant (.int i) j pos) (aW X.K (fC (.int i))):=
 PE.weak aSj λ σ H Q aV=>by obtain⟨F,L,S,env,w,S',R,E,e,q⟩:=aV;cases e;exact q F L H _ Gr.refl R (.int i)
theorem aWf{b j pos}:PE X (.Constant (.bool b) j pos) (aW X.K (fC (.bool b))):=
 PE.weak aTq λ σ H Q aV=>by obtain⟨F,L,S,env,w,S',R,E,e,q⟩:=aV;cases e;exact q F L H _ Gr.refl R (.bl b)
theorem aTY{j pos}:PE X (.Constant .none j pos) (aW X.K (fC .none)):=
 PE.weak aQZ λ σ H Q aV=>by obtain⟨F,L,S,env,w,S',R,E,e,q⟩:=aV;cases e;exact q F L H _ Gr.refl R .non
theorem aUf{x j pos}:PE X (.Constant (.str x) j pos) (aW X.K (fC (.str x))):=
 PE.weak aRH λ σ H Q aV=>by obtain⟨F,L,S,env,w,S',R,E,e,q⟩:=aV;cases e;exact q F L H _ Gr.refl R (.str x)
noncomputable def gN(g:D->D->Option D)(S:aC)(x y:W):Option (W×aC):=(dr S x).bind λ a=>(dr S y).bind λ b=>(g a b).bind λ z=>qq (.d z,S)
noncomputable def fZ(g:D->Option D)(S:aC)(x:W):Option (W×aC):=(dr S x).bind λ a=>(g a).bind λ z=>qq (.d z,S)
theorem aGr{g:D->D->Option D}{S S':aC}{x y w:W}(h:gN g S x y=qq (w,S')):∃ a b z,dr S x=qq a/\dr S y=qq b/\g a b=qq z/\w=.d z/\S'=S:=by
 unfold gN at h;cases e1:dr S x with
 | none=>rw[e1] at h;cases h
 | some a =>
   cases e2:dr S y with
   | none=>rw[e1,e2] at h;cases h
   | some b =>
     rw[e1,e2] at h;dsimp only[yCz] at h;cases e3:g a b with
     | none=>rw[e3] at h;cases h
     | some z=>rw[e3] at h;cases h;exact⟨a,b,z,rfl,rfl,e3,rfl,rfl⟩
theorem uJ{g:D->Option D}{S S':aC}{x w:W}(h:fZ g S x=qq (w,S')):∃ a z,dr S x=qq a/\g a=qq z/\w=.d z/\S'=S:=by
 unfold fZ at h;cases e1:dr S x with
 | none=>rw[e1] at h;cases h
 | some a =>
   rw[e1] at h;dsimp only[yCz] at h;cases e3:g a with
   | none=>rw[e3] at h;cases h
   | some z=>rw[e3] at h;cases h;exact⟨a,z,rfl,e3,rfl,rfl⟩
theorem zI{K:FrG}{F:Hp}{L:List qv}{S:aC}{z:D}{Q:VK}(X:Cx)(hK:X.K=K)(q:sH K F L S (.d z) Q):fN X F L S z Q:=λ F' H' r sf R d=>by
 subst hK;exact q F' L H' r ⟨sf,[],by simp⟩ R d
noncomputable def rD2(X:Cx)(g:D->D->Option D):R2:=λ x y H Q=>∃ F L S dx dy z,Rel X.K F L S H/\bO X.K F H dx x/\bO X.K F H dy y/\g dx dy=qq z/\fN X F L S z Q
theorem aAw{g:D->D->Option D}(F:Hp)(L:List qv)(S:aC)(H:Hp)(x y:V)(wx wy w:W)(S':aC)(Q:VK)(R:Rel X.K F L S H)(h1:eE X.K F L wx x)(h2:eE X.K F L wy y)(e:gN g S wx wy=qq (w,S'))(q:sH X.K F L S' w Q):rD2 X g x y H Q:=by
 obtain⟨a,b,z,e1,e2,e3,rfl,rfl⟩:=aGr e;exact⟨F,L,S',a,b,z,R,jT R h1 e1,jT R h2 e2,e3,zI X rfl q⟩
noncomputable def qE(op:vq)(fa fb:FE):FE:=f2 fa fb (gN (bR op))
theorem aUD{a b:qw}{op:vq}{pos:Pos}{fa fb:FE}(ha:PE X a (aW X.K fa))(hb:PE X b (aW X.K fb)):PE X (.BinOp a op b pos) (aW X.K (qE op fa fb)):=
 PE.weak (aJe (r:=rD2 X (bR op)) (λ aB s σ H x y v u Q I rx ry hPr2=>by obtain⟨F,L,S,dx,dy,z,R,nx,ny,e,q⟩:=hPr2;exact aRb I rx ry R nx ny e q) ha hb) (aAX aAw)
noncomputable def xJ(op:yx)(fa:FE):FE:=f1 fa (fZ (oT op))
theorem aV9{a:qw}{op:yx}{pos:Pos}{fa:FE}(ha:PE X a (aW X.K fa)):PE X (.UnaryOp op a pos) (aW X.K (xJ op fa)):=
 PE.weak (aTe (r:=λ x H Q=>∃ F L S dx z,Rel X.K F L S H/\bO X.K F H dx x/\oT op dx=qq z/\fN X F L S z Q) (λ aB s σ H x v Q I rx hPr3=>by obtain⟨F,L,S,dx,z,R,nx,e,q⟩:=hPr3;exact aTn I rx R nx e q) ha)
  (aVh λ F L S H x wx w S' Q R d e q=>by
    obtain⟨a,z,e1,e3,rfl,rfl⟩:=uJ e;exact⟨F,L,S',a,z,R,jT R d e1,e3,zI X rfl q⟩)
noncomputable def aJ(op:vv)(x y:D):Option D:=(sR op x y).map yDs
theorem aFW{op:vv}(hu:X.A.units+64<cLine):cJ X (jj op) (rD2 X (aJ op)):=λ aB s σ H x y v u Q I rx ry aV=>by
 obtain⟨F,L,S,dx,dy,z,R,nx,ny,e,q⟩:=aV;unfold aJ at e;cases ec:sR op dx dy with
 | none=>rw[ec] at e;cases e
 | some b=>rw[ec] at e;cases e;exact aP8 hu I rx ry R nx ny ec (q.here R (.bl b))
noncomputable def mY(op:vv)(fa fb:FE):FE:=f2 fa fb (gN (aJ op))
theorem aS7{a b:qw}{op:vv}{pos:Pos}{fa fb:FE}(hu:X.A.units+64<cLine)(ha:PE X a (aW X.K fa))(hb:PE X b (aW X.K fb))(hm:ju op b=false):PE X (.Compare a [op] [b] pos) (aW X.K (mY op fa fb)):=
 PE.weak (aOT (aFW hu) ha hb hm) (aAX aAw)
noncomputable def dB(fa:FE):FT:=λ env S=>(fa env S).bind λ p=>(dr p.2 p.1).bind λ d=>(qA d).bind λ b=>qq (b,p.2)
theorem aFk{fa:FE}{env:aY}{S S':aC}{b:Bool}(h:dB fa env S=qq (b,S')):∃ w d,fa env S=qq (w,S')/\dr S' w=qq d/\qA d=qq b:=by
 unfold dB at h;cases ea:fa env S with
 | none=>rw[ea] at h;cases h
 | some p =>
   obtain⟨w,S1⟩:=p;rw[ea] at h;dsimp only[yCz] at h;cases e1:dr S1 w with
   | none=>rw[e1] at h;cases h
   | some d =>
     rw[e1] at h;dsimp only at h;cases e2:qA d with
     | none=>rw[e2] at h;cases h
     | some c=>rw[e2] at h;cases h;exact⟨w,d,rfl,e1,e2⟩
theorem aUQ{a:qw}{fa:FE}(ha:PE X a (aW X.K fa))(he:∀ fG,isTrue a X.env fG=(do let v <- fG;standAt a.pos;holding [v] (truthy v))):PT X a (fL X.K (dB fa)):=
 PT.weak (aNA ha he) λ σ H Q aV=>by
  obtain⟨F,L,S,env,b,S',R,E,e,q⟩:=aV;obtain⟨w,d,e1,e2,e3⟩:=aFk e;exact⟨F,L,S,env,w,S',R,E,e1,λ F1 L1 H1 v g1 R1 d1=>⟨b,aPx R1 (jT R1 d1 e2) e3,q F1 L1 H1 g1 R1⟩⟩
theorem aQP{a b:qw}{op:vv}{pos:Pos}{fa fb:FE}(hu:X.A.units+64<cLine)(ha:PE X a (aW X.K fa))(hb:PE X b (aW X.K fb))(hm:ju op b=false):PT X (.Compare a [op] [b] pos) (fL X.K (dB (mY op fa fb))):=
 PT.weak (aOi (aFW hu) ha hb hm) λ σ H Q aV=>by
  obtain⟨F,L,S,env,b,S',R,E,e,q⟩:=aV;obtain⟨w,d,e1,e2,e3⟩:=aFk e;refine aAX (fa:=fa) (fb:=fb) (g:=gN (aJ op)) aAw σ H _ ⟨F,L,S,env,w,S',R,E,e1,λ F1 L1 H1 v g1 R1 d1=>?_⟩
  have hc:∃ c,w=.d (.bool c):=by
   unfold mY f2 at e1;cases ea:fa env S with
   | none=>rw[ea] at e1;cases e1
   | some p =>
     rw[ea] at e1;dsimp only[yCz] at e1;cases eb:fb env p.2 with
     | none=>rw[eb] at e1;cases e1
     | some p2 =>
       rw[eb] at e1;dsimp only at e1;obtain⟨_,_,z,_,_,e6,rfl,_⟩:=aGr e1;unfold aJ at e6;cases e7:sR op _ _ with
       | none=>rw[e7] at e6;cases e6
       | some c=>rw[e7] at e6;cases e6;exact⟨c,rfl⟩
  obtain⟨c,rfl⟩:=hc;cases e2;cases e3;have hv:v=.bl b:=by cases (show Den X.K F1 (.bool b) v from d1);rfl
  exact⟨b,hv,q F1 L1 H1 g1 R1⟩
end
section
variable {X : Cx}{pos : Pos}
noncomputable def wE(fa fb:FT):FT:=λ env S=>(fa env S).bind λ p=>if p.1=true then fb env p.2 else qq (false,p.2)
noncomputable def xE(fa fb:FT):FT:=λ env S=>(fa env S).bind λ p=>if p.1=true then qq (true,p.2) else fb env p.2
noncomputable def wF(fa:FT):FT:=λ env S=>(fa env S).bind λ p=>qq (!p.1,p.2)
theorem aIY{K:FrG}{fa fb:FT}(σ:St)(H:Hp)(Q:Bool->Hp->Prop)(h:fL K (wE fa fb) σ H Q):aJR (fL K fa) (fL K fb) σ H Q:=by
 obtain⟨F,L,S,env,b,S',R,E,e,q⟩:=h;obtain⟨⟨c,S1⟩,e1,e2⟩:=bind_some e;refine⟨F,L,S,env,c,S1,R,E,e1,λ F1 L1 H1 g1 R1=>?_⟩
 dsimp only at e2;cases c with
 | true=>exact sL ⟨F1,L1,S1,env,b,S',R1,E.mono g1,by simpa using e2,λ F2 L2 H2 g2 R2=>q F2 L2 H2 (g1.trans g2) R2⟩
 | false =>
   have e3:qq (false,S1)=qq (b,S'):=by simpa using e2
   cases e3;exact sS (q F1 L1 H1 g1 R1)
theorem aJ1{K:FrG}{fa fb:FT}(σ:St)(H:Hp)(Q:Bool->Hp->Prop)(h:fL K (xE fa fb) σ H Q):tOr (fL K fa) (fL K fb) σ H Q:=by
 obtain⟨F,L,S,env,b,S',R,E,e,q⟩:=h;obtain⟨⟨c,S1⟩,e1,e2⟩:=bind_some e;refine⟨F,L,S,env,c,S1,R,E,e1,λ F1 L1 H1 g1 R1=>?_⟩
 dsimp only at e2;cases c with
 | false=>exact sS ⟨F1,L1,S1,env,b,S',R1,E.mono g1,by simpa using e2,λ F2 L2 H2 g2 R2=>q F2 L2 H2 (g1.trans g2) R2⟩
 | true =>
   have e3:qq (true,S1)=qq (b,S'):=by simpa using e2
   cases e3;exact sL (q F1 L1 H1 g1 R1)
theorem aS8{a:qw}{fa:FT}(ha:PT X a (fL X.K fa)):PT X (.UnaryOp .Not a pos) (fL X.K (wF fa)):=
 PT.weak (aQi ha) λ σ H Q aV=>by
  obtain⟨F,L,S,env,b,S',R,E,e,q⟩:=aV;obtain⟨⟨c,S1⟩,e1,e2⟩:=bind_some e;cases e2;exact⟨F,L,S,env,c,S1,R,E,e1,q⟩
noncomputable def vM(fa fb:FE):FE:=λ env S=>(fa env S).bind λ p=>match p.1 with
 | .d (.bool true)=>fb env p.2
 | .d (.bool false)=>qq (.d (.bool false),p.2)
 | _=>qz
noncomputable def wG(fa fb:FE):FE:=λ env S=>(fa env S).bind λ p=>match p.1 with
 | .d (.bool false)=>fb env p.2
 | .d (.bool true)=>qq (.d (.bool true),p.2)
 | _=>qz
noncomputable def vS(fa:FE):FE:=λ env S=>(fa env S).bind λ p=>match p.1 with
 | .d (.bool b)=>qq (.d (.bool (!b)),p.2)
 | _=>qz
theorem vK{K:FrG}{F:Hp}{L:List qv}{b:Bool}{v:V}(h:eE K F L (.d (.bool b)) v):v=.bl b:=by cases (show Den K F (.bool b) v from h);rfl
theorem aId{K:FrG}{fa fb:FE}(σ:St)(H:Hp)(Q:VK)(h:aW K (vM fa fb) σ H Q):aJm (aW K fa) (aW K fb) σ H Q:=by
 obtain⟨F,L,S,env,w,S',R,E,e,q⟩:=h;obtain⟨⟨c,S1⟩,e1,e2⟩:=bind_some e;dsimp only at e2
 split at e2
 ·exact⟨F,L,S,env,_,S1,R,E,e1,λ F1 L1 H1 v g1 R1 d1=>⟨true,vK d1,sL ⟨F1,L1,S1,env,w,S',R1,E.mono g1,e2,λ F2 L2 H2 v2 g2 R2 d2=>q F2 L2 H2 v2 (g1.trans g2) R2 d2⟩⟩⟩
 ·cases e2;exact⟨F,L,S,env,_,_,R,E,e1,λ F1 L1 H1 v g1 R1 d1=>⟨false,vK d1,sS (q F1 L1 H1 _ g1 R1 (Den.bl false))⟩⟩
 ·cases e2
theorem aJh{K:FrG}{fa fb:FE}(σ:St)(H:Hp)(Q:VK)(h:aW K (wG fa fb) σ H Q):aJ8 (aW K fa) (aW K fb) σ H Q:=by
 obtain⟨F,L,S,env,w,S',R,E,e,q⟩:=h;obtain⟨⟨c,S1⟩,e1,e2⟩:=bind_some e;dsimp only at e2
 split at e2
 ·exact⟨F,L,S,env,_,S1,R,E,e1,λ F1 L1 H1 v g1 R1 d1=>⟨false,vK d1,sS ⟨F1,L1,S1,env,w,S',R1,E.mono g1,e2,λ F2 L2 H2 v2 g2 R2 d2=>q F2 L2 H2 v2 (g1.trans g2) R2 d2⟩⟩⟩
 ·cases e2;exact⟨F,L,S,env,_,_,R,E,e1,λ F1 L1 H1 v g1 R1 d1=>⟨true,vK d1,sL (q F1 L1 H1 _ g1 R1 (Den.bl true))⟩⟩
 ·cases e2
theorem aSw{a:qw}{fa:FE}(ha:PE X a (aW X.K fa)):PE X (.UnaryOp .Not a pos) (aW X.K (vS fa)):=
 PE.weak (aRc ha) λ σ H Q aV=>by
  obtain⟨F,L,S,env,w,S',R,E,e,q⟩:=aV;obtain⟨⟨c,S1⟩,e1,e2⟩:=bind_some e;dsimp only at e2
  split at e2
  ·cases e2;exact⟨F,L,S,env,_,_,R,E,e1,λ F1 L1 H1 v g1 R1 d1=>⟨_,vK d1,q F1 L1 H1 _ g1 R1 (Den.bl _)⟩⟩
  ·cases e2
noncomputable def wJ(fc:FT)(fa fb:FE):FE:=λ env S=>(fc env S).bind λ p=>if p.1=true then fa env p.2 else fb env p.2
theorem aUd{c a b:qw}{fc:FT}{fa fb:FE}(hc:PT X c (fL X.K fc))(ha:PE X a (aW X.K fa))(hb:PE X b (aW X.K fb)):PE X (.IfExp c a b pos) (aW X.K (wJ fc fa fb)):=
 PE.weak (aNC hc ha hb) λ σ H Q aV=>by
  obtain⟨F,L,S,env,w,S',R,E,e,q⟩:=aV;obtain⟨⟨c,S1⟩,e1,e2⟩:=bind_some e;refine⟨F,L,S,env,c,S1,R,E,e1,λ F1 L1 H1 g1 R1=>?_⟩
  dsimp only at e2;cases c with
  | true=>exact sL ⟨F1,L1,S1,env,w,S',R1,E.mono g1,by simpa using e2,λ F2 L2 H2 v g2 R2 d2=>q F2 L2 H2 v (g1.trans g2) R2 d2⟩
  | false=>exact sS ⟨F1,L1,S1,env,w,S',R1,E.mono g1,by simpa using e2,λ F2 L2 H2 v g2 R2 d2=>q F2 L2 H2 v (g1.trans g2) R2 d2⟩
noncomputable def lU:FA:=λ _ S=>qq ([],S)
noncomputable def eQ(fa:FE)(fr:FA):FA:=λ env S=>(fa env S).bind λ p=>(fr env p.2).bind λ q=>qq (p.1::q.1,q.2)
theorem aAD:PA X [] (iF X.K lU):=PA.weak aIp λ σ H Q aV=>by obtain⟨F,L,S,env,ws,S',R,E,e,q⟩:=aV;cases e;exact q F L H [] Gr.refl R .nil
theorem mI{e:qw}{es:List qw}{fa:FE}{fr:FA}(ha:PE X e (aW X.K fa))(hr:PA X es (iF X.K fr))(hs:zq (e::es) X.env=(false,eval e X.env)::zq es X.env):PA X (e::es) (iF X.K (eQ fa fr)):=
 PA.weak (aCy ha hr hs) λ σ H Q aV=>by
  obtain⟨F,L,S,env,ws,S',R,E,e,q⟩:=aV;obtain⟨⟨w,S1⟩,e1,e2⟩:=bind_some e;obtain⟨⟨wr,S2⟩,e3,e4⟩:=bind_some e2;cases e4;exact⟨F,L,S,env,w,S1,R,E,e1,λ F1 L1 H1 v g1 R1 d1=>⟨F1,L1,S1,env,wr,S2,R1,E.mono g1,e3,λ F2 L2 H2 vs g2 R2 d2=>q F2 L2 H2 _ (g1.trans g2) R2 (.cons (d1.mono g2) d2)⟩⟩
noncomputable def qC:List W->Option (List D)
 | []=>qq []
 | .d x::r=>(qC r).bind λ l=>qq (x::l)
 | .loc _::_=>qz
theorem aCn{K:FrG}{F:Hp}{L:List qv}:∀ {ws:List W}{xs:List V}{ds:List D},WDenL K F L ws xs->qC ws=qq ds->DenL K F ds xs
 | _,_,_,.nil,e=>by cases e;exact .nil
 | .d x::r,_,_,.cons h t,e=>by
   obtain⟨l,e1,e2⟩:=bind_some e;cases e2;exact .cons h (aCn t e1)
 | .loc _::_,_,_,.cons _ _,e=>by cases e
noncomputable def vX(fs:FA):FE:=λ env S=>(fs env S).bind λ p=>(qC p.1).bind λ ds=>if ds.length<=qk then qq (.d (.tuple ds),p.2) else qz
theorem aTN{es:List qw}{k:Nat}{fs:FA}(h:PA X es (iF X.K fs)):PE X (.Tuple es k pos) (aW X.K (vX fs)):=
 PE.weak (aQ0 h) λ σ H Q aV=>by
  obtain⟨F,L,S,env,w,S',R,E,e,q⟩:=aV;obtain⟨⟨ws,S1⟩,e1,e2⟩:=bind_some e;obtain⟨ds,e3,e4⟩:=bind_some e2
  split at e4
  ·rename_i hz;cases e4;refine⟨F,L,S,env,ws,_,R,E,e1,λ F1 L1 H1 vs g1 R1 d1=>?_⟩
   have dl:=aCn d1 e3;refine⟨by rw[<- dl.length];exact hz,λ p hp=>?_⟩
   exact q _ L1 _ _ (g1.trans (Gr.new (R1.sub.free hp))) (R1.new hp) (Den.tup (cD.of dE) (dl.mono (eI (R1.sub.free hp))))
  ·cases e4
noncomputable def vW(fs:FA):FL:=λ env S=>(fs env S).bind λ p=>(qC p.1).bind λ ds=>if ds.length<=qk then qq (ds,p.2) else qz
theorem aTd{es:List qw}{fs:FA}(h:PA X es (iF X.K fs)):PE X (.List es pos) (iC X.K (vW fs)):=
 PE.weak (aQW h) λ σ H Q aV=>by
  obtain⟨F,L,S,env,ds,S',R,E,e,q⟩:=aV;obtain⟨⟨ws,S1⟩,e1,e2⟩:=bind_some e;obtain⟨ds',e3,e4⟩:=bind_some e2
  split at e4
  ·rename_i hz;cases e4;refine⟨F,L,S,env,ws,_,R,E,e1,λ F1 L1 H1 vs g1 R1 d1=>?_⟩
   have dl:=aCn d1 e3;exact⟨by rw[<- dl.length];exact hz,λ p hp=>q F1 L1 _ p vs g1 (R1.lay hp) (R1.sub.free hp) (R1.notin hp) dE dl⟩
  ·cases e4
noncomputable def cO(f:FL):FE:=λ env S=>(f env S).bind λ p=>qq (.d (.list p.1),p.2)
theorem aKn{e:qw}{f:FL}(h:PE X e (iC X.K f)):PE X e (aW X.K (cO f)):=
 PE.weak h λ σ H Q aV=>by
  obtain⟨F,L,S,env,w,S',R,E,e,q⟩:=aV;obtain⟨⟨ds,S1⟩,e1,e2⟩:=bind_some e;cases e2;exact⟨F,L,S,env,ds,_,R,E,e1,λ F1 L1 H1 p xs g1 R1 hF hL hH dl=>q _ L1 _ _ (g1.trans (Gr.new hF)) (R1.adopt hF hL hH) (Den.lst (bV.of dE) (dl.mono (eI hF)))⟩
noncomputable def gK(f:FL):FE:=λ env S=>(f env S).bind λ p=>qq (.loc p.2.length,p.2++[qq p.1])
theorem aUa{e:qw}{f:FL}(h:PE X e (iC X.K f)):PE X e (aW X.K (gK f)):=
 PE.weak h λ σ H Q aV=>by
  obtain⟨F,L,S,env,w,S',R,E,e,q⟩:=aV;obtain⟨⟨ds,S1⟩,e1,e2⟩:=bind_some e;cases e2;refine⟨F,L,S,env,ds,_,R,E,e1,λ F1 L1 H1 p xs g1 R1 hF hL hH dl=>q _ _ _ _ (g1.trans Gr.newLoc) (R1.adoptLoc hF hL hH dl) ⟨p,?_,rfl⟩⟩
  dsimp only;rw[<- R1.len,yAf (yAc _)];simp
noncomputable def aO:D->D->Option D
 | .list xs,.int i=>kH xs i
 | .tuple xs,.int i=>kH xs i
 | .str z,.int i=>if z.length<=qk then (kH z.cps.toList i).bind λ c=>qq (.str ⟨#[c]⟩) else qz
 | _,_=>qz
theorem aGU{K:FrG}{F:Hp}{ds:List D}{xs:List V}{i:Int}{d:D}(h:DenL K F ds xs)(e:kH ds i=qq d):∃ x,kH xs i=qq x/\Den K F d x:=by
 unfold kH at e ⊢;rw[<- h.length];obtain⟨j,e1,e2⟩:=bind_some e;obtain⟨x,e3,dx⟩:=h.get e2;exact⟨x,by rw[e1];exact e3,dx⟩
theorem aOg:lW X (rD2 X aO):=λ value iV aB s σ H x y v u Q I rx ry aV hs=>by
 obtain⟨F,L,S,dx,dy,z,R,nx,ny,e,q⟩:=aV;unfold aO at e
 split at e
 ·obtain⟨a,xs,rfl,sq,dl⟩:=nx.lst R.sub;obtain⟨r,e1,d1⟩:=aGU dl e;exact aPw value iV aB s σ H _ y v u Q I rx ry ⟨a,xs,_,r,rfl,ny.int,sq,e1,q.here R d1⟩ hs
 ·obtain⟨a,xs,rfl,sq,dl⟩:=nx.tup R.sub;obtain⟨r,e1,d1⟩:=aGU dl e;exact aQK value iV aB s σ H _ y v u Q I rx ry ⟨a,xs,_,r,rfl,ny.int,sq,e1,q.here R d1⟩ hs
 ·split at e
  ·rename_i hz;obtain⟨c,e1,e2⟩:=bind_some e;cases e2;exact aQR value iV aB s σ H x y v u Q I rx ry ⟨_,_,c,nx.str,ny.int,hz,e1,q.here R (.str _)⟩ hs
  ·cases e
 ·cases e
noncomputable def nF(fa fb:FE):FE:=f2 fa fb (gN aO)
theorem aV4{a b:qw}{fa fb:FE}(ha:PE X a (aW X.K fa))(hb:PE X b (aW X.K fb))(hs:zR b):PE X (.Subscript a b pos) (aW X.K (nF fa fb)):=
 PE.weak (aJa aOg ha hb hs) (aAX aAw)
noncomputable abbrev FO:=aY->aC->Option (Option Int×aC)
noncomputable def xF:FO:=λ _ S=>qq (qz,S)
noncomputable def oK(fa:FE):FO:=λ env S=>(fa env S).bind λ p=>match p.1 with
 | .d (.int i)=>qq (qq i,p.2)
 | _=>qz
noncomputable def lS(K:FrG)(f:FO):TO:=λ σ H Q=>∃ F L S env o S',Rel K F L S H/\EnvR K F L env σ/\f env S=qq (o,S')/\∀ F' L' H',Gr F L F' L'->Rel K F' L' S' H'->Q o H'
theorem aVO:PO X qz (lS X.K xF):=λ aB s σ H Q I aV=>by
 obtain⟨F,L,S,env,o,S',R,E,e,q⟩:=aV;cases e;exact aPk aB s σ H Q I (q F L H Gr.refl R)
theorem aQM{a:qw}{fa:FE}(ha:PE X a (aW X.K fa)):PO X (qq a) (lS X.K (oK fa)):=λ aB s σ H Q I aV=>by
 obtain⟨F,L,S,env,o,S',R,E,e,q⟩:=aV;obtain⟨⟨w,S1⟩,e1,e2⟩:=bind_some e;dsimp only at e2
 split at e2
 ·cases e2;refine aCH ha aB s σ H Q I ⟨F,L,S,env,_,_,R,E,e1,λ F1 L1 H1 v g1 R1 d1=>?_⟩
  cases (show Den X.K F1 (.int _) v from d1)
  exact⟨_,rfl,q F1 L1 H1 g1 R1⟩
 ·cases e2
noncomputable def eS(xs:List D)(lo hi:Option Int):List D:=(xs.drop (HT.sIx xs.length 0 lo)).take (HT.sIx xs.length xs.length hi-HT.sIx xs.length 0 lo)
theorem aHk{K:FrG}{F:Hp}{ds:List D}{xs:List V}(h:DenL K F ds xs)(lo hi:Option Int):DenL K F (eS ds lo hi) (mU xs lo hi):=by
 unfold eS mU;rw[h.length];exact(h.drop _).take _
noncomputable def slL:D->Option Int->Option Int->Option (List D)
 | .list xs,lo,hi=>qq (eS xs lo hi)
 | _,_,_=>qz
noncomputable def aJ6(fa:FE)(fl fh:FO):FL:=λ env S=>(fa env S).bind λ p=>(fl env p.2).bind λ q=>(fh env q.2).bind λ r=>(dr r.2 p.1).bind λ d=>(slL d q.1 r.1).bind λ z=>qq (z,r.2)
theorem aTv{a:qw}{lo hi:Option qw}{p2:Pos}{fa:FE}{fl fh:FO}(ha:PE X a (aW X.K fa))(hl:PO X lo (lS X.K fl))(hh:PO X hi (lS X.K fh)):PE X (.Subscript a (.Slice lo hi qz p2) pos) (iC X.K (aJ6 fa fl fh)):=
 PE.weak (aGw aOn ha hl hh) λ σ H Q aV=>by
  obtain⟨F,L,S,env,ds,S',R,E,e,q⟩:=aV;obtain⟨⟨w,S1⟩,e1,e⟩:=bind_some e;obtain⟨⟨l,S2⟩,e2,e⟩:=bind_some e;obtain⟨⟨h,S3⟩,e3,e⟩:=bind_some e;obtain⟨d,e4,e⟩:=bind_some e;obtain⟨z,e5,e⟩:=bind_some e;cases e;refine⟨F,L,S,env,w,S1,R,E,e1,λ F1 L1 H1 v g1 R1 d1=>⟨F1,L1,S1,env,l,S2,R1,E.mono g1,e2,λ F2 L2 H2 g2 R2=>⟨F2,L2,S2,env,h,S3,R2,E.mono (g1.trans g2),e3,λ F3 L3 H3 g3 R3=>?_⟩⟩⟩
  have n:=jT R3 (d1.mono (g2.trans g3)) e4;cases d with
  | list xs =>
    cases e5;obtain⟨a,vs,rfl,sq,dl⟩:=n.lst R3.sub;exact⟨a,vs,rfl,sq,λ p hp=>q F3 L3 _ p _ ((g1.trans g2).trans g3) (R3.lay hp) (R3.sub.free hp) (R3.notin hp) dE (aHk dl l h)⟩
  | _=>cases e5
noncomputable def sT(K:FrG)(np:Nat)(call:List W->aC->Option (W×aC)):Sp:=λ vs H Q _=>∃ F L S ws w S',ws.length=np/\Rel K F L S H/\WDenL K F L ws vs/\call ws S=qq (w,S')/\sH K F L S' w Q
noncomputable def aAE(fs:FA)(np:Nat)(call:List W->aC->Option (W×aC)):FE:=λ env S=>(fs env S).bind λ p=>if p.1.length=np then call p.1 p.2 else qz
theorem aQs{K:FrG}{fs:FA}{np:Nat}{call:List W->aC->Option (W×aC)}(σ:St)(H:Hp)(Q:VK)(h:aW K (aAE fs np call) σ H Q):aAB (sT K np call) [] E0 (iF K fs) σ H Q:=by
 obtain⟨F,L,S,env,w,S',R,E,e,q⟩:=h;obtain⟨⟨ws,S1⟩,e1,e⟩:=bind_some e
 split at e
 ·rename_i hn;refine⟨F,L,S,env,ws,S1,R,E,e1,λ F1 L1 H1 vs g1 R1 d1=>⟨F1,L1,S1,ws,w,S',hn,R1,by rw[yEb];exact d1,e,λ F2 L2 H2 v g2 R2 d2=>q F2 L2 H2 v (g1.trans g2) R2 d2⟩⟩
 ·cases e
inductive NowL (K:FrG) (F H:Hp):List D->List V->Prop
 | nil:NowL K F H [] []
 | cons {d:D}{ds:List D}{x:V}{xs:List V}:bO K F H d x->NowL K F H ds xs->NowL K F H (d::ds) (x::xs)
noncomputable def nH(S:aC):List W->Option (List D)
 | []=>qq []
 | w::r=>(dr S w).bind λ d=>(nH S r).bind λ l=>qq (d::l)
theorem aHL{K:FrG}{F H:Hp}{L:List qv}{S:aC}(R:Rel K F L S H):∀ {ws:List W}{xs:List V}{ds:List D},WDenL K F L ws xs->nH S ws=qq ds->NowL K F H ds xs
 | _,_,_,.nil,e=>by cases e;exact .nil
 | _,_,_,.cons h t,e=>by
   obtain⟨d,e1,e⟩:=bind_some e;obtain⟨l,e2,e⟩:=bind_some e;cases e;exact .cons (jT R h e1) (aHL R t e2)
noncomputable def mB(X:Cx)(g:List D->Option D):List V->Hp->VK->Prop:=λ xs H Q=>∃ F L S ds z,Rel X.K F L S H/\NowL X.K F H ds xs/\g ds=qq z/\fN X F L S z Q
noncomputable def qB(fs:FA)(g:List D->Option D):FE:=λ env S=>(fs env S).bind λ p=>(nH p.2 p.1).bind λ ds=>(g ds).bind λ z=>qq (.d z,p.2)
theorem mM{fs:FA}{g:List D->Option D}(σ:St)(H:Hp)(Q:VK)(h:aW X.K (qB fs g) σ H Q):tCB (mB X g) (iF X.K fs) σ H Q:=by
 obtain⟨F,L,S,env,w,S',R,E,e,q⟩:=h;obtain⟨⟨ws,S1⟩,e1,e⟩:=bind_some e;obtain⟨ds,e2,e⟩:=bind_some e;obtain⟨z,e3,e⟩:=bind_some e;cases e;refine⟨F,L,S,env,ws,_,R,E,e1,λ F1 L1 H1 vs g1 R1 d1=>⟨F1,L1,S1,ds,z,R1,aHL R1 d1 e2,e3,zI X rfl λ F2 L2 H2 v g2 R2 d2=>q F2 L2 H2 v (g1.trans g2) R2 d2⟩⟩
end
section
variable {prog : qo}{w : zw}{A : zy}{E : qx -> qj -> Prop}{s : qj}
theorem aFj{it t:qv}{aQ:Array qx}(hne:t≠it):∀ (n i:Nat) (s:qj) (Q:List qx->qj->Prop),s.heap.IsListIter it t i->s.heap.IsList t aQ->i+n<=aQ.size ->
 (∀ h',h'.IsListIter it t (i+n)->yEa it s.heap h'->Q ((aQ.toList.drop i).take n) {s with heap:=h' })->qy (model prog w) A (draw (.ref it) n) Q E s
 | 0,i,s,Q,hit,_,_,hQ=>wP (by simpa using hQ s.heap hit (Heap.SameBut.refl _ _))
 | n+1,i,s,Q,hit,hl,hle,hQ=>by
   have hlt:i<aQ.size:=by omega
   show qy _ _ (jo (.ref it) >>= _) Q E s;refine wB (wz hit hl (x:=aQ[i]) (by simp[hlt]) λ h1 hit1 hs1=>?_)
   refine wB (zu (aFj hne n (i+1) _ _ hit1 (hl.extBut hs1.extBut hne) (by omega) λ h2 hit2 hs2=>wP ?_))
   have q:=hQ h2 (by rw[show i+(n+1)=i+1+n by omega];exact hit2) (hs1.trans hs2)
   rw[yEm (by simpa using hlt),List.take_succ_cons] at q
   exact q
theorem aLx{env:Env}{elts:List qw}{x1}{pos:Pos}{t:qv}{aQ:Array qx}{Q:Unit->qj->Prop}(hh:A.handled=qz)(hl:s.heap.IsList t aQ)
 (hn:(xj elts env).length=aQ.size) (hstar:(xj elts env).findIdx? (·.1)=qz)
 (h:∀ h',Heap.ExtBut s.heap.objs.size s.heap h'->qy (model prog w) A (assignInOrder ((xj elts env).map (·.2)) aQ.toList) Q E {s with heap:=h' }) :
 qy (model prog w) A (assign (.Tuple elts x1 pos) env (.ref t)) Q E s:=by
 have hlt:t≠s.heap.objs.size:=by obtain⟨o,ho,_⟩:=hl;exact xAk (xAa ho)
 have hl1:∀ o,(s.heap.push o).IsList t aQ:=λ o=>let ⟨u,hu,r⟩:=hl;⟨u,hpS _ hu,r⟩
 rw[arm_assign_Tuple];refine wB (yk ?_);unfold unpack;rw[hn,hstar];refine wB (zu ?_);unfold unpackItems;refine wB ?_;unfold notIterableAtAll;refine wB (kz hl.typeIs slot_list_iter.lookup (wP ?_));simp only[yAt,if_false];refine wB (zu (jy hl ?_));refine wB (zu (aFj hlt aQ.size 0 _ _ ⟨_,xAe _ rfl,rfl,rfl⟩ (hl1 _) (by omega) λ h1 hit1 hs1=>?_))
 rw[show yEn aQ.size (List.drop 0 aQ.toList)=aQ.toList by rw[yEo];exact yBu (by simp)]
 rw[if_neg (by simp)]
 have hl2:h1.IsList t aQ:=(hl1 _).extBut hs1.extBut hlt;refine wB (zu (wj hh hit1 hl2 (by simp) λ h2 he2=>?_))
 simp only[Option.isSome_none,yAt,if_false];exact wP (h h2 λ b o hb e=>he2 b o hb (hs1.extBut b o hb (hpS _ e)))
end
section
variable {X : Cx}
noncomputable def aDy(K:FrG)(n:Nat)(t:iT):TG:=λ v σ H Q=>∃ a xs,v=.ref a/\(cD K H a xs\/bV K H a xs)/\xs.length=n/\t xs σ H Q
theorem aQx{es:List qw}{k:Nat}{t:iT}{n:Nat}{pos:Pos}(hc:X.calm=true)(h:qL X es t)(hn:(xj es X.env).length=n)(hst:(xj es X.env).findIdx? (·.1)=qz):PG X (.Tuple es k pos) (aDy X.K n t):=by
 intro aB s σ H v u Q I r hw;obtain⟨a,xs,e1,hq,hl,hw⟩:=hw;rcases hq with hq | hq
 ·exact aRp hc h hn hst aB s σ H v u Q I r ⟨a,xs,e1,hq,hl,hw⟩
 ·subst e1;cases r;obtain⟨aF,rv,pl,hz⟩:=I.list hq;refine aLx (I.ok.hd hc) pl.isList (by simp[hn,<- hl,rv.length]) hst λ h' hx=>?_
  have I1:Inv X aB σ H {s with heap:=h' }:=I.kept (t':=s.toks) λ b o e=>hx b o (xAk (xAa e)) e
  exact h aB _ σ H xs _ Q I1 (by simpa using rv) hw
end
section
variable {X : Cx}{pos : Pos}
noncomputable def aKj(K:FrG)(D:Ends)(F':Hp)(L':List qv)(H':Hp):Fl->Prop
 | .nx aM=>∀ σ',EnvR K F' L' aM σ'->D.nx σ' H'
 | .rt w=>∀ v,eE K F' L' w v->D.rt v H'
 | .bk aM=>∀ σ',EnvR K F' L' aM σ'->D.bk σ' H'
 | .ct aM=>∀ σ',EnvR K F' L' aM σ'->D.ct σ' H'
theorem mJ{K:FrG}{f:FS}{D:Ends}{σ:St}{H F:Hp}{L:List qv}{S:aC}{env:aY}{fl:Fl}{S':aC}(R:Rel K F L S H)(E:EnvR K F L env σ)(e:f env S=qq (fl,S'))
 (q:∀ F' L' H',Gr F L F' L'->Rel K F' L' S' H'->aKj K D F' L' H' fl):dI K f D σ H:=⟨F,L,S,env,fl,S',R,E,e,λ F' L' H' g R'=>by
 have:=q F' L' H' g R';cases fl<;>exact this⟩
theorem mG{K:FrG}{f:FS}{D:Ends}{σ:St}{H:Hp}(h:dI K f D σ H):∃ F L S env fl S',Rel K F L S H/\EnvR K F L env σ/\f env S=qq (fl,S')/\∀ F' L' H',Gr F L F' L'->Rel K F' L' S' H'->aKj K D F' L' H' fl:=by
 obtain⟨F,L,S,env,fl,S',R,E,e,q⟩:=h;exact⟨F,L,S,env,fl,S',R,E,e,λ F' L' H' g R'=>by
  have:=q F' L' H' g R';cases fl<;>exact this⟩
noncomputable def sF:FS:=λ env S=>qq (.nx env,S)
theorem aSr:dR X [] (dI X.K sF):=dR.weak aOE λ D σ H h=>by
 obtain⟨F,L,S,env,fl,S',R,E,e,q⟩:=mG h;cases e;exact q F L H Gr.refl R σ E
noncomputable def cZ(fa fb:FS):FS:=λ env S=>(fa env S).bind λ p=>match p.1 with
 | .nx e=>fb e p.2
 | fl=>qq (fl,p.2)
theorem aS5{a:jx}{b:List jx}{fa fb:FS}(ha:PS X a (dI X.K fa))(hb:dR X b (dI X.K fb)):dR X (a::b) (dI X.K (cZ fa fb)):=dR.weak (aN2 ha hb) λ D σ H h=>by
 obtain⟨F,L,S,env,fl,S',R,E,e,q⟩:=mG h;obtain⟨⟨f1,S1⟩,e1,e2⟩:=bind_some e;cases f1 with
 | nx e'=>exact mJ R E e1 λ F1 L1 H1 g1 R1 σ1 E1=>mJ R1 E1 e2 λ F2 L2 H2 g2 R2=>q F2 L2 H2 (g1.trans g2) R2
 | rt w=>cases e2;exact mJ R E e1 λ F1 L1 H1 g1 R1=>q F1 L1 H1 g1 R1
 | bk e'=>cases e2;exact mJ R E e1 λ F1 L1 H1 g1 R1=>q F1 L1 H1 g1 R1
 | ct e'=>cases e2;exact mJ R E e1 λ F1 L1 H1 g1 R1=>q F1 L1 H1 g1 R1
noncomputable def vR(fa:FE):FS:=λ env S=>(fa env S).bind λ p=>qq (.nx env,p.2)
theorem aRY{e:qw}{fa:FE}(h:PE X e (aW X.K fa))(hs:swapsWith e qz pos.line X.env=pure false):PS X (.Expr e pos) (dI X.K (vR fa)):=PS.weak (aOl h hs) λ D σ H h=>by
 obtain⟨F,L,S,env,fl,S',R,E,e,q⟩:=mG h;obtain⟨⟨w,S1⟩,e1,e2⟩:=bind_some e;cases e2;exact⟨F,L,S,env,w,_,R,E,e1,λ F1 L1 H1 v g1 R1 d1=>q F1 L1 H1 g1 R1 σ (E.mono g1)⟩
noncomputable def mW(fa:FE):FS:=λ env S=>(fa env S).bind λ p=>qq (.rt p.1,p.2)
theorem aUg{e:qw}{fa:FE}(h:PE X e (aW X.K fa)):PS X (.Return (qq e) pos) (dI X.K (mW fa)):=PS.weak (aRv h) λ D σ H h=>by
 obtain⟨F,L,S,env,fl,S',R,E,e,q⟩:=mG h;obtain⟨⟨w,S1⟩,e1,e2⟩:=bind_some e;cases e2;exact⟨F,L,S,env,w,_,R,E,e1,λ F1 L1 H1 v g1 R1 d1=>q F1 L1 H1 g1 R1 v d1⟩
noncomputable def aSX:FS:=λ env S=>qq (.rt (.d .none),S)
noncomputable def nL(fc:FT)(fa fb:FS):FS:=λ env S=>(fc env S).bind λ p=>if p.1=true then fa env p.2 else fb env p.2
theorem aVB{c:qw}{a b:List jx}{fc:FT}{fa fb:FS}(hc:PT X c (fL X.K fc))(ha:dR X a (dI X.K fa))(hb:dR X b (dI X.K fb)):PS X (.If c a b pos) (dI X.K (nL fc fa fb)):=PS.weak (aU4 hc ha hb) λ D σ H h=>by
 obtain⟨F,L,S,env,fl,S',R,E,e,q⟩:=mG h;obtain⟨⟨c,S1⟩,e1,e2⟩:=bind_some e;refine⟨F,L,S,env,c,S1,R,E,e1,λ F1 L1 H1 g1 R1=>?_⟩
 cases c with
 | true=>exact sL (mJ R1 (E.mono g1) (by simpa using e2) λ F2 L2 H2 g2 R2=>q F2 L2 H2 (g1.trans g2) R2)
 | false=>exact sS (mJ R1 (E.mono g1) (by simpa using e2) λ F2 L2 H2 g2 R2=>q F2 L2 H2 (g1.trans g2) R2)
noncomputable def jE(i:Nat)(fa:FE):FS:=λ env S=>(fa env S).bind λ p=>qq (.nx (env.set i (qq p.1)),p.2)
theorem aI3{K:FrG}{i:Nat}{fa:FE}(D:Ends)(σ:St)(H:Hp)(h:dI K (jE i fa) D σ H):wR (aW K fa) (oE i) D σ H:=by
 obtain⟨F,L,S,env,fl,S',R,E,e,q⟩:=mG h;obtain⟨⟨w,S1⟩,e1,e2⟩:=bind_some e;cases e2;exact⟨F,L,S,env,w,_,R,E,e1,λ F1 L1 H1 v g1 R1 d1=>q F1 L1 H1 g1 R1 _ ((E.mono g1).set i d1)⟩
theorem aJy{i:Nat}{x:Str}{e:qw}{fa:FE}{pos':Pos}(hN:X.N.Nodup)(hi:X.N[i]? = qq x)(hx:Loc X.env.scope x)(he:PE X e (aW X.K fa))(hs:swapsWith e (qq (.Name x pos')) pos.line X.env=pure false)(hf:X.fn x=true\/X.env.scope.names.lookup x=qq .local) :
 PS X (.Assign [.Name x pos'] e pos) (dI X.K (jE i fa)):=PS.weak (aR9 hN hi hx he hs hf) aI3
noncomputable def nW:List Nat->List D->aY->Option aY
 | [],[],env=>qq env
 | i::is,d::ds,env=>nW is ds (env.set i (qq (.d d)))
 | _,_,_=>qz
inductive Tg where
 | one (i:Nat) | many (is:List Nat)
noncomputable def Tg.put:Tg->D->aY->Option aY
 | .one i,d,env=>qq (env.set i (qq (.d d)))
 | .many is,.tuple ds,env=>nW is ds env
 | .many is,.list ds,env=>nW is ds env
 | .many _,_,_=>qz
def GA(K:FrG)(t:Tg)(g:TG):Prop:=∀ (d:D) (x:V) (σ:St) (H F:Hp) (L:List qv) (S:aC) (env aM:aY) (Q:St->Hp->Prop),
 Rel K F L S H->EnvR K F L env σ->Den K F d x->t.put d env=qq aM->(∀ σ',EnvR K F L aM σ'->Q σ' H)->g x σ H Q
theorem aRN{K:FrG}(i:Nat):GA K (.one i) (oE i):=λ d x σ H F L S env aM Q R E dn e q=>by
 cases e;exact q _ (E.set i (w:=.d d) dn)
def xB(K:FrG)(is:List Nat)(g:iT):Prop:=∀ (ds:List D) (xs:List V) (σ:St) (H F:Hp) (L:List qv) (S:aC) (env aM:aY) (Q:St->Hp->Prop),
 Rel K F L S H->EnvR K F L env σ->DenL K F ds xs->nW is ds env=qq aM->(∀ σ',EnvR K F L aM σ'->Q σ' H)->g xs σ H Q
theorem aPN{K:FrG}:xB K [] aDm:=λ ds xs σ H F L S env aM Q R E dn e q=>by
 cases dn with
 | nil=>cases e;exact⟨rfl,q σ E⟩
 | cons _ _=>cases e
theorem aNu{K:FrG}{i:Nat}{is:List Nat}{g:iT}(h:xB K is g):xB K (i::is) (aC9 (oE i) g):=λ ds xs σ H F L S env aM Q R E dn e q=>by
 cases dn with
 | nil=>cases e
 | cons d1 dr=>exact⟨_,_,rfl,h _ _ _ H F L S _ aM Q R (E.set i (w:=.d _) d1) dr e q⟩
theorem aBU:∀ {is:List Nat}{ds:List D}{env aM:aY},nW is ds env=qq aM->is.length=ds.length
 | [],[],_,_,_=>rfl
 | _::is,_::ds,_,_,e=>congrArg (· + 1) (aBU (is:=is) (ds:=ds) e)
 | [],_::_,_,_,e=>by cases e
 | _::_,[],_,_,e=>by cases e
theorem aP5{K:FrG}{is:List Nat}{g:iT}(h:xB K is g):GA K (.many is) (aDy K is.length g):=λ d x σ H F L S env aM Q R E dn e q=>by
 cases d with
 | tuple ds =>
   cases dn with
   | tup sq dl=>exact⟨_,_,rfl,.inl (mP R.sub sq),by rw[<- dl.length];exact(aBU e).symm,h _ _ σ H F L S env aM Q R E dl e q⟩
 | list ds =>
   cases dn with
   | lst sq dl=>exact⟨_,_,rfl,.inr (R.sub.seq sq),by rw[<- dl.length];exact(aBU e).symm,h _ _ σ H F L S env aM Q R E dl e q⟩
 | _=>cases e
noncomputable def aAG(t:Tg)(fa:FE):FS:=λ env S=>(fa env S).bind λ p=>match p.1 with
 | .d d=>(t.put d env).bind λ e=>qq (.nx e,p.2)
 | _=>qz
theorem aQy{K:FrG}{t:Tg}{g:TG}{fa:FE}(hg:GA K t g)(D:Ends)(σ:St)(H:Hp)(h:dI K (aAG t fa) D σ H):wR (aW K fa) g D σ H:=by
 obtain⟨F,L,S,env,fl,S',R,E,e,q⟩:=mG h;obtain⟨⟨w,S1⟩,e1,e2⟩:=bind_some e;dsimp only at e2
 split at e2
 ·obtain⟨e',e3,e4⟩:=bind_some e2;cases e4;exact⟨F,L,S,env,_,_,R,E,e1,λ F1 L1 H1 v g1 R1 d1=>hg _ v σ H1 F1 L1 _ env e' _ R1 (E.mono g1) d1 e3 λ σ' E'=>q F1 L1 H1 g1 R1 σ' E'⟩
 ·cases e2
noncomputable def jW(S:aC):W->W->W->Option aC
 | .loc n,.d (.int k),.d x=>match S[n]? with
   | some (qq ds)=>(jJ ds.length k).bind λ j=>qq (S.set n (qq (ds.set j x)))
   | _=>qz
 | _,_,_=>qz
noncomputable def lK(fo fi fe:FE):FS:=λ env S=>(fe env S).bind λ p=>(fo env p.2).bind λ q=>(fi env q.2).bind λ r=>(jW r.2 q.1 r.1 p.1).bind λ S'=>qq (.nx env,S')
theorem aLV{S S':aC}{o i x:W}(h:jW S o i x=qq S'):∃ n k d ds j,o=.loc n/\i=.d (.int k)/\x=.d d/\S[n]? = qq (qq ds)/\jJ ds.length k=qq j/\S'=S.set n (qq (ds.set j d)):=by
 unfold jW at h
 split at h
 ·split at h
  ·rename_i ds e;obtain⟨j,e1,e2⟩:=bind_some h;cases e2;exact⟨_,_,_,ds,j,rfl,rfl,rfl,e,e1,rfl⟩
  ·cases h
 ·cases h
theorem aT2{K:FrG}{fo fi fe:FE}(D:Ends)(σ:St)(H:Hp)(h:dI K (lK fo fi fe) D σ H):wR (aW K fe) (aKA (aW K fo) (aW K fi) aJA) D σ H:=by
 obtain⟨F,L,S,env,fl,S',R,E,e,q⟩:=mG h;obtain⟨⟨we,S1⟩,e1,e⟩:=bind_some e;obtain⟨⟨wo,S2⟩,e2,e⟩:=bind_some e;obtain⟨⟨wi,S3⟩,e3,e⟩:=bind_some e;obtain⟨S4,e4,e⟩:=bind_some e;cases e;obtain⟨n,k,d,ds,j,rfl,rfl,rfl,e5,e6,rfl⟩:=aLV e4;refine⟨F,L,S,env,_,S1,R,E,e1,λ F1 L1 H1 v g1 R1 d1=>⟨F1,L1,S1,env,_,S2,R1,E.mono g1,e2,λ F2 L2 H2 o g2 R2 d2=>⟨F2,L2,S2,env,_,S3,R2,E.mono (g1.trans g2),e3,λ F3 L3 H3 i g3 R3 d3=>?_⟩⟩⟩
 obtain⟨a,ea,rfl⟩:=d2.mono g3;obtain⟨fa,xs,ha,dl⟩:=R3.loc n a ds ea e5;have hi:i=.int k:=by cases (show Den K F3 (.int k) i from d3);rfl
 refine⟨a,xs,k,j,rfl,hi,ha,by rw[<- dl.length];exact e6,?_⟩
 exact q F3 L3 _ ((g1.trans g2).trans g3) (R3.put ea fa (dl.set j (show Den K F3 d v from d1.mono (g2.trans g3)))) σ (E.mono ((g1.trans g2).trans g3))
theorem aUW{o i e:qw}{fo fi fe:FE}{pos':Pos}(ho:PE X o (aW X.K fo))(hi:PE X i (aW X.K fi))(he:PE X e (aW X.K fe))(ha:∀ v,assign (.Subscript o i pos') X.env v=(do
 let ov <- holding [v] (eval o X.env)
 let iv <- holding [v,ov] (eval i X.env)
 standAt pos'
 holding [v,ov,iv] (setItem ov iv v)
 release [v,ov,iv] [])) (hs:swapsWithSole [.Subscript o i pos'] e pos.line X.env=pure false) (hw:yy [.Subscript o i pos'] e X.env=pure qz):PS X (.Assign [.Subscript o i pos'] e pos) (dI X.K (lK fo fi fe)):=
 PS.weak (aHV he (aSl ho hi aNw ha) hs hw) aT2
noncomputable def dP(S:aC):W->W->Option (W×aC)
 | .loc n,.d x=>match S[n]? with
   | some (qq ds)=>if ds.length<qk then qq (.d .none,S.set n (qq (ds++[x]))) else qz
   | _=>qz
 | _,_=>qz
theorem aFA{S S':aC}{o x w:W}(h:dP S o x=qq (w,S')):∃ n d ds,o=.loc n/\x=.d d/\S[n]? = qq (qq ds)/\ds.length<qk/\w=.d .none/\S'=S.set n (qq (ds++[d])):=by
 unfold dP at h
 split at h
 ·split at h
  ·rename_i ds e
   split at h
   ·rename_i hz;cases h;exact⟨_,_,ds,rfl,rfl,e,hz,rfl,rfl⟩
   ·cases h
  ·cases h
 ·cases h
noncomputable def hZ(fo fe:FE):FE:=f2 fo fe dP
theorem aUq{K:FrG}{fo fe:FE}(σ:St)(H:Hp)(Q:VK)(h:aW K (hZ fo fe) σ H Q):tBM K "list" aHg (aW K fo) (iF K (eQ fe lU)) σ H Q:=by
 obtain⟨F,L,S,env,w,S',R,E,e,q⟩:=h;obtain⟨⟨wo,S1⟩,e1,e⟩:=bind_some e;obtain⟨⟨we,S2⟩,e2,e⟩:=bind_some e;obtain⟨n,d,ds,rfl,rfl,e5,hz,rfl,rfl⟩:=aFA e;refine⟨F,L,S,env,_,S1,R,E,e1,λ F1 L1 H1 o g1 R1 d1=>?_⟩
 obtain⟨a,ea,rfl⟩:=d1;refine⟨.inl ⟨rfl,?_⟩,F1,L1,S1,env,[.d d],S2,R1,E.mono g1,?_,λ F2 L2 H2 vs g2 R2 d2=>?_⟩
 ·obtain⟨xs,hx⟩:=R1.tr n a ea;exact⟨xs,bV.of hx⟩
 ·unfold eQ;rw[e2];rfl
 ·cases d2 with
  | cons dd dr =>
    cases dr;have ea2:=g2.get ea;obtain⟨fa,xs,ha,dl⟩:=R2.loc n a ds ea2 e5;exact⟨a,xs,_,rfl,rfl,ha,by rw[<- dl.length];exact hz,q F2 L2 _ _ (g1.trans g2) (R2.put ea2 fa (dl.append (.cons dd .nil))) Den.non⟩
end
section
variable {X : Cx}{pos : Pos}
structure Wk(K:FrG)(F:Hp)(L:List qv)(J:It)(ds:List D):Prop where
 go:∀ (i:Nat) (H:Hp),bY F H->i<ds.length->J.go i H
 stop:∀ (H:Hp),bY F H->J.stop ds.length H
 yld:∀ (i:Nat) (H F1:Hp) (L1:List qv) (S:aC) (x:V) (H':Hp) (d:D),Gr F L F1 L1->Rel K F1 L1 S H->ds[i]? = qq d->J.yld i H x H'->∃ F2,bY F1 F2/\Rel K F2 L1 S H'/\Den K F2 d x
noncomputable def kP(K:FrG)(f:FL):TI:=λ σ H R=>∃ F L S env ds S',Rel K F L S H/\EnvR K F L env σ/\f env S=qq (ds,S')/\∀ F' L' H' J,Gr F L F' L'->Rel K F' L' S' H'->Wk K F' L' J ds->R J H'
theorem PI.weak{tg iter:qw}{t t':TI}(h:PI X tg iter t)(w:∀ σ H R,t' σ H R->t σ H R):PI X tg iter t':=λ aB s σ H R I q=>h aB s σ H R I (w σ H R q)
theorem aOG{K:FrG}{F:Hp}{L:List qv}{a:qv}{xs:List V}{ds:List D}(sq:bV K F a xs)(dl:DenL K F ds xs):Wk K F L (Itl K a) ds where
 go:=λ i H s hi=>⟨xs,xs[i]'(by rw[<- dl.length];exact hi),s.seq sq,by simp[dl.length▸hi]⟩
 stop:=λ H s=>⟨xs,s.seq sq,yHe dl.length.symm⟩
 yld:=λ i H F1 L1 S x H' d g R e y=>by
  obtain⟨e1,y⟩:=y;subst e1;have h:=y xs ((g.f.trans R.sub).seq sq);obtain⟨x',e2,dx⟩:=dl.get e;rw[h] at e2;cases e2;exact⟨F1,bY.refl _,R,dx.mono g.f⟩
theorem aQo{K:FrG}{F:Hp}{L:List qv}{a:qv}{xs:List V}{ds:List D}(sq:cD K F a xs)(dl:DenL K F ds xs):Wk K F L (Itt K a) ds where
 go:=λ i H s hi=>⟨xs,xs[i]'(by rw[<- dl.length];exact hi),mP s sq,by simp[dl.length▸hi]⟩
 stop:=λ H s=>⟨xs,mP s sq,yHe dl.length.symm⟩
 yld:=λ i H F1 L1 S x H' d g R e y=>by
  obtain⟨e1,y⟩:=y;subst e1;have h:=y xs (mP (g.f.trans R.sub) sq);obtain⟨x',e2,dx⟩:=dl.get e;rw[h] at e2;cases e2;exact⟨F1,bY.refl _,R,dx.mono g.f⟩
noncomputable def kB(lo:Int):Nat->List D
 | 0=>[]
 | n+1=>.int lo::kB (lo+1) n
theorem xW(n:Nat):∀ lo:Int,(kB lo n).length=n:=by
 induction n with
 | zero=>intro lo;rfl
 | succ n ih=>intro lo;simp[kB,ih]
theorem aGz:∀ (n:Nat) (lo:Int) (i:Nat),i<n->(kB lo n)[i]? = qq (.int (lo+i))
 | 0,_,_,h=>by omega
 | n+1,lo,0,_=>by simp[kB]
 | n+1,lo,i+1,h=>by
   rw[kB,yBq,aGz n (lo+1) i (by omega)]
   congr 2
   push_cast
   omega
theorem aNp{K:FrG}{F:Hp}{L:List qv}(lo:Int)(n:Nat):Wk K F L (Itr lo n) (kB lo n) where
 go:=λ i H s hi=>by rw[xW] at hi;exact hi
 stop:=λ H s=>by rw[xW];exact yAc _
 yld:=λ i H F1 L1 S x H' d g R e y=>by
  obtain⟨rfl,rfl⟩:=y;have hi:i<n:=by
   have:=(gIm e).1;rw[xW] at this;exact this
  rw[aGz n lo i hi] at e;cases e;exact⟨F1,bY.refl _,R,.int _⟩
noncomputable def aKB(fa:FE):FL:=λ env S=>(fa env S).bind λ p=>match p.1 with
 | .d (.list ds)=>qq (ds,p.2)
 | _=>qz
noncomputable def aJ7(fa:FE):FL:=λ env S=>(fa env S).bind λ p=>match p.1 with
 | .d (.tuple ds)=>qq (ds,p.2)
 | _=>qz
theorem aUI{tg a:qw}{fa:FE}(ha:PE X a (aW X.K fa)):PI X tg a (kP X.K (aKB fa)):=PI.weak (aOM ha) λ σ H Rr aV=>by
 obtain⟨F,L,S,env,ds,S',R,E,e,q⟩:=aV;obtain⟨⟨w,S1⟩,e1,e2⟩:=bind_some e;dsimp only at e2
 split at e2
 ·cases e2;refine⟨F,L,S,env,_,_,R,E,e1,λ F1 L1 H1 v g1 R1 d1=>?_⟩
  cases (show Den X.K F1 (.list ds) v from d1) with
  | lst sq dl=>exact⟨_,rfl,⟨_,R1.sub.seq sq⟩,q F1 L1 H1 _ g1 R1 (aOG sq dl)⟩
 ·cases e2
theorem aTw{tg a:qw}{fa:FE}(ha:PE X a (aW X.K fa)):PI X tg a (kP X.K (aJ7 fa)):=PI.weak (aRA ha) λ σ H Rr aV=>by
 obtain⟨F,L,S,env,ds,S',R,E,e,q⟩:=aV;obtain⟨⟨w,S1⟩,e1,e2⟩:=bind_some e;dsimp only at e2
 split at e2
 ·cases e2;refine⟨F,L,S,env,_,_,R,E,e1,λ F1 L1 H1 v g1 R1 d1=>?_⟩
  cases (show Den X.K F1 (.tuple ds) v from d1) with
  | tup sq dl=>exact⟨_,rfl,⟨_,mP R1.sub sq⟩,q F1 L1 H1 _ g1 R1 (aQo sq dl)⟩
 ·cases e2
noncomputable def lJ(fa:FE):FL:=λ env S=>(fa env S).bind λ p=>match p.1 with
 | .d (.int j)=>if -(2^62)<=j/\j<2^62 then qq (kB 0 j.toNat,p.2) else qz
 | _=>qz
theorem aRP{K:FrG}{fa:FE}(σ:St)(H:Hp)(Rr:It->Hp->Prop)(h:kP K (lJ fa) σ H Rr):aJL (iF K (eQ fa lU)) σ H Rr:=by
 obtain⟨F,L,S,env,ds,S',R,E,e,q⟩:=h;obtain⟨⟨w,S1⟩,e1,e2⟩:=bind_some e;dsimp only at e2
 split at e2
 ·split at e2
  ·rename_i j c;cases e2;refine⟨F,L,S,env,[.d (.int j)],_,R,E,by unfold eQ;rw[e1];rfl,λ F1 L1 H1 vs g1 R1 d1=>?_⟩
   cases d1 with
   | cons dd dr =>
     cases dr;cases (show Den K F1 (.int j) _ from dd)
     exact⟨j,rfl,c.1,c.2,q F1 L1 H1 _ g1 R1 (aNp 0 j.toNat)⟩
  ·cases e2
 ·cases e2
noncomputable def fU(t:Tg)(fb:FS):List D->FS
 | []=>λ env S=>qq (.nx env,S)
 | d::ds=>λ env S=>(t.put d env).bind λ e1=>(fb e1 S).bind λ q=>(match q.1 with
    | .nx e=>fU t fb ds e q.2
    | .ct e=>fU t fb ds e q.2
    | .bk e=>qq (.nx e,q.2)
    | .rt w=>qq (.rt w,q.2))
noncomputable def dA(t:Tg)(fi:FL)(fb:FS):FS:=λ env S=>(fi env S).bind λ p=>fU t fb p.1 env p.2
theorem aTf{tg iter:qw}{b:List jx}{t:Tg}{g:TG}{fi:FL}{fb:FS}(hp:PassesOwn (model X.prog X.w) X.A X.env X.xe)(hc:X.calm=true)(hi:PI X tg iter (kP X.K fi))(hg:PG X tg g)(ga:GA X.K t g)(hb:dR X b (dI X.K fb))
 (hs:∀ x,jv iter X.env x=pure x):PS X (.For tg iter b [] pos) (dI X.K (dA t fi fb)):=PS.weak (aQr hp hc hi hg hb hs) λ D σ H h=>by
 obtain⟨F,L,S,env,fl,S',R,E,e,q⟩:=mG h;obtain⟨⟨ds,S1⟩,e1,e2⟩:=bind_some e;refine⟨F,L,S,env,ds,S1,R,E,e1,λ F0 L0 H0 J g0 R0 wk=>?_⟩
 dsimp only at e2;refine⟨λ i m σ1 H1=>i+m=ds.length/\∃ F1 L1 S1 env1,Gr F0 L0 F1 L1/\Rel X.K F1 L1 S1 H1/\EnvR X.K F1 L1 env1 σ1/\fU t fb (ds.drop i) env1 S1=qq (fl,S'),
  ⟨ds.length,yEe _,F0,L0,S1,env,Gr.refl,R0,E.mono g0,by rw[yEo];exact e2⟩,?_⟩
 rintro i m σ1 H1 ⟨him,F1,L1,S1',env1,g1,R1,E1,e3⟩;cases m with
 | zero =>
   have hi:i=ds.length:=by omega
   subst hi;rw[yGz] at e3;cases e3;exact .inl ⟨wk.stop H1 (g1.f.trans R1.sub),q F1 L1 H1 (g0.trans g1) R1 σ1 E1⟩
 | succ m =>
   have hi:i<ds.length:=by omega
   refine .inr ⟨wk.go i H1 (g1.f.trans R1.sub) hi,λ σ3 H3=>∃ F3 L3 S3 env3,Gr F0 L0 F3 L3/\Rel X.K F3 L3 S3 H3/\EnvR X.K F3 L3 env3 σ3/\fU t fb (ds.drop (i+1)) env3 S3=qq (fl,S'),
    λ σ3 H3 h3=>⟨m,yEp m,by omega,h3⟩,λ x H2 y=>?_⟩
   rw[yEm hi] at e3;obtain⟨env2,e4,e5⟩:=bind_some e3;obtain⟨⟨f6,S6⟩,e6,e7⟩:=bind_some e5;obtain⟨F2,s2,R2,d2⟩:=wk.yld i H1 F1 L1 S1' x H2 ds[i] g1 R1 (yAa hi) y;have g2:Gr F1 L1 F2 L1:=⟨s2,[],by simp⟩
   refine ga ds[i] x σ1 H2 F2 L1 S1' env1 env2 _ R2 (E1.mono g2) d2 e4 λ σ2 E2=>?_
   refine mJ R2 E2 e6 λ F3 L3 H3 g3 R3=>?_
   have g03:=(g1.trans g2).trans g3;cases f6 with
   | nx e'=>exact λ σ3 E3=>⟨F3,L3,S6,e',g03,R3,E3,e7⟩
   | ct e'=>exact λ σ3 E3=>⟨F3,L3,S6,e',g03,R3,E3,e7⟩
   | bk e'=>cases e7;exact λ σ3 E3=>q F3 L3 H3 (g0.trans g03) R3 σ3 E3
   | rt w=>cases e7;exact λ v d=>q F3 L3 H3 (g0.trans g03) R3 v d
noncomputable def lQ(k:Nat)(S:aC):W->Option (W×aC)
 | .d x=>qq (.d x,S.take k)
 | .loc m=>if m<k then qq (.loc m,S.take k) else match S[m]? with
   | some (qq ds)=>qq (.d (.list ds),S.take k)
   | _=>qz
noncomputable def fD(fb:FS)(n:Nat)(ws:List W)(S:aC):Option (W×aC):=(fb (ws.map qq++yAd (n-ws.length) qz) S).bind λ p=>match p.1 with
 | .rt w=>lQ S.length p.2 w
 | .nx _=>qq (.d .none,p.2.take S.length)
 | _=>qz
theorem aL1{K:FrG}{F:Hp}{L:List qv}{N:List Str}:∀ {ws:List W}{vs:List V},WDenL K F L ws vs->EnvR K F L (ws.map qq++yAd (N.length-ws.length) qz) (L2.start N vs):=by
 intro ws vs h;unfold L2.start;rw[h.length];generalize N.length-vs.length=k;refine⟨by simp[h.length],?_⟩
 induction h with
 | nil =>
   intro i w e;have:=xAl e;simp at this
 | cons hd tl ih =>
   intro i w e;cases i with
   | zero=>simp at e;subst e;exact⟨_,rfl,hd⟩
   | succ i =>
     obtain⟨v,e1,d⟩:=ih i w (by simpa using e)
     exact⟨v,by simpa using e1,d⟩
theorem aIx{K:FrG}{F F1 H1:Hp}{L L1:List qv}{S S1:aC}{w w':W}{S':aC}{v:V}{Q:VK}(R:L.length=S.length)(g:Gr F L F1 L1)(R1:Rel K F1 L1 S1 H1)(d:eE K F1 L1 w v)(e:lQ S.length S1 w=qq (w',S'))(q:sH K F L S' w' Q):Q v H1:=by
 obtain⟨sf,M,rfl⟩:=g;cases w with
 | d x =>
   cases e;have R2:=R1.cut;rw[R] at R2;exact q F1 L H1 v ⟨sf,[],by simp⟩ R2 d
 | loc m =>
   have e':(if m<S.length then qq (W.loc m,S1.take S.length) else match S1[m]? with | some (qq ds)=>qq (W.d (.list ds),S1.take S.length) | _=>qz)=qq (w',S'):=e
   split at e'
   ·rename_i hm;cases e';have R2:=R1.cut;rw[R] at R2;obtain⟨a,ea,rfl⟩:=d;rw[xAn (by rw[R];exact hm)] at ea
    exact q F1 L H1 _ ⟨sf,[],by simp⟩ R2 ⟨a,ea,rfl⟩
   ·rename_i hm
    split at e'
    ·rename_i ds es;cases e';obtain⟨a,ea,rfl⟩:=d;obtain⟨F2,g2,R2,d2⟩:=R1.freeze ea es;have R3:=R2.cut;rw[R,List.take_set,List.set_eq_of_length_le (by rw[yBx];omega)] at R3
     exact q F2 L H1 _ ⟨sf.trans g2.f,[],by simp⟩ R3 d2
    ·cases e'
theorem aQe{K:FrG}{fb:FS}{N:List Str}{np:Nat}{vs:List V}{H:Hp}{Q:VK}{E:XK}(h:sT K np (fD fb N.length) vs H Q E):dI K fb {nx:=λ _ H'=>Q .non H',rt:=Q } (L2.start N vs) H:=by
 obtain⟨F,L,S,ws,w,S',hn,R,dl,e,q⟩:=h;obtain⟨⟨fl,S1⟩,e1,e2⟩:=bind_some e;refine mJ R (aL1 dl) e1 λ F1 L1 H1 g1 R1=>?_
 cases fl with
 | nx aM =>
   cases e2;exact λ σ' E'=>aIx (w:=.d .none) R.len g1 R1 Den.non rfl q
 | rt w'=>exact λ v d=>aIx R.len g1 R1 d e2 q
 | bk aM=>cases e2
 | ct aM=>cases e2
end
theorem aEy{α β:Type}{f:α->β->Sem (ForInStep β)}{g:α->β->β}:∀ (l:List α) (c:β),(∀ x∈l,∀ c,f x c=pure (ForInStep.yield (g x c)))->forIn l c f=pure (l.foldl (λ c x=>g x c) c)
 | [],c,_=>rfl
 | x::l,c,h=>by
   rw[yDn,h x xAd c,pure_bind];exact aEy l (g x c) λ y hy=>h y (xAg _ hy)
noncomputable def jR(env:Env)(x:Str×vx)(cs:List (Str×qv)):List (Str×qv):=if (x.2==NameKind.free)=true then (x.1,(env.cells.lookup x.1).getD 0)::cs else cs
noncomputable def wD(scope:zk)(env:Env):List (Str×qv):=scope.names.foldl (λ c x=>jR env x c) []
theorem aL0{scope:zk}{env:Env}(h:∀ x∈scope.names,x.2=.free->∃ c,env.cells.lookup x.1=qq c):closureFor scope env=pure (wD scope env):=by
 unfold closureFor wD;dsimp only;rw[aEy (g:=jR env) scope.names [] (λ x hx c=>?_)]
 ·rfl
 ·obtain⟨n,k⟩:=x;unfold jR;dsimp only
  by_cases hk:k=.free
  ·obtain⟨a,ha⟩:=h (n,k) hx hk;rw[if_pos (by simp[hk]),if_pos (by simp[hk])]
   have:cellOf env n=pure a:=by unfold cellOf;rw[ha]
   rw[this,pure_bind,ha];rfl
  ·rw[if_neg (by simp[hk]),if_neg (by simp[hk])]
theorem aGi{env:Env}:∀ (l:List (Str×vx)) (aH:List (Str×qv)),(∀ x∈l,x.2=.free->∃ c,env.cells.lookup x.1=qq c)->(∀ x c,aH.lookup x=qq c->env.cells.lookup x=qq c) ->
 ∀ x c,(l.foldl (λ c x=>jR env x c) aH).lookup x=qq c->env.cells.lookup x=qq c
 | [],aH,_,ha,x,c,e=>ha x c e
 | y::l,aH,h,ha,x,c,e=>by
   refine aGi l (jR env y aH) (λ z hz=>h z (xAg _ hz)) (λ z d ez=>?_) x c e
   unfold jR at ez
   split at ez
   ·rename_i hk;obtain⟨a,hy⟩:=h y xAd (by simpa using hk)
    rw[yBy] at ez
    split at ez
    ·rename_i hz;cases ez;have:z=y.1:=by simpa using hz
     rw[this,hy];rfl
    ·exact ha z d ez
   ·exact ha z d ez
theorem aCO{env:Env}:∀ (l:List (Str×vx)) (aH:List (Str×qv)) (x:Str),((∃ k,(x,k)∈l/\k=.free)\/∃ c,aH.lookup x=qq c)->∃ c,(l.foldl (λ c x=>jR env x c) aH).lookup x=qq c
 | [],aH,x,h=>by
   rcases h with ⟨k,hk,_⟩ | h
   ·simp at hk
   ·exact h
 | y::l,aH,x,h=>by
   refine aCO l (jR env y aH) x ?_;have step:(∃ c,aH.lookup x=qq c)->∃ c,(jR env y aH).lookup x=qq c:=λ aV=>by
    obtain⟨c,e⟩:=aV;unfold jR
    split
    ·rw[yBy]
     split
     ·exact⟨_,rfl⟩
     ·exact⟨c,e⟩
    ·exact⟨c,e⟩
   rcases h with ⟨k,hk,e⟩ | h
   ·rcases List.mem_cons.mp hk with z | z
    ·right
     subst z e;unfold jR;rw[if_pos (by simp)]
     exact⟨(env.cells.lookup x).getD 0,by rw[yBy];simp⟩
    ·exact .inl ⟨k,z,e⟩
   ·exact .inr (step h)
theorem aEH{x:Str}(h:Str->vx->vx):∀ l:List (Str×vx),(l.map λ p=>(p.1,h p.1 p.2)).lookup x=(l.lookup x).map (h x)
 | []=>rfl
 | (n,k)::r=>by
   have ih:=aEH (x:=x) h r;rw[yBa,yBy,yBy];cases hx:x==n with
   | true =>
     have e:x=n:=by simpa using hx
     subst e;rfl
   | false=>exact ih
theorem aLb{env:Env}{x:Str}(names:List (Str×vx)) :
 (names.map λ(n,k)=>if (k==NameKind.free&&env.scope.kind==.function&&env.kindOf n==qq .cell) then (n,NameKind.cell) else (n,k)).lookup x =
   (names.lookup x).map λ k=>if (k==NameKind.free&&env.scope.kind==.function&&env.kindOf x==qq .cell) then NameKind.cell else k:=by
 have e:(λ(p:Str×vx)=>match p with | (n,k)=>if (k==NameKind.free&&env.scope.kind==.function&&env.kindOf n==qq .cell)=true then (n,NameKind.cell) else (n,k)) =
  λ p=>(p.1,if (p.2==NameKind.free&&env.scope.kind==.function&&env.kindOf p.1==qq .cell)=true then NameKind.cell else p.2):=funext λ aV=>by
  obtain⟨n,k⟩:=aV;dsimp only
  split<;>rfl
 rw[e];exact aEH (λ n k=>if (k==NameKind.free&&env.scope.kind==.function&&env.kindOf n==qq .cell)=true then NameKind.cell else k) names
section
variable {prog : qo}{w : zw}{A : zy}{R : Result -> qj -> Prop}{s : qj}
theorem aLn{elt target iter:qw}{ifs:List qw}{scope:zk}{pos:Pos}{it aH:qx}{env:Env}(I:Nat->qj->Prop)
 (turn:∀ n s,I n s->qy (model prog w) A (jo it) (λ r s₁=>match r with
   | none=>R (.ok .next) s₁
   | some v=>qy (model prog w) A (yq target it v) (λ _ s₀=>qy (model prog w) A (assign target env v) (λ _ s₂ =>
      qy (model prog w) A (forIn ifs true λ c r=>if r=true then do let ok <- isTrue c env (eval c env);pure (ForInStep.yield ok) else pure (ForInStep.yield r)) (λ ok s₃ =>
       if ok=true then qy (model prog w) A (eval elt env) (λ x s₄ =>
        qy (model prog w) A (call (.builtin "list.append") [aH,x]) (λ _ s₅=>∃ m,m<n/\I m s₅) (λ _ _=>False) s₄) (λ _ _=>False) s₃
       else ∃ m,m<n/\I m s₃) (λ _ _=>False) s₂) (λ _ _=>False) s₀) (λ _ _=>False) s₁) (λ _ _=>False) s)
 (n:Nat) (h:I n s):vy (model prog w) A (.compLoop (.ListComp elt [⟨target,iter,ifs,0⟩] scope pos) 0 it aH env) R s:=by
 have up:∀ {α:Type}{t:Sem α}{Q Q':α->qj->Prop}{E:qx->qj->Prop}{s:qj},qy (model prog w) A t Q (λ _ _=>False) s->(∀ a s,Q a s->Q' a s)->qy (model prog w) A t Q' E s:=
  λ h hq=>wpAny_mono h hq λ _ _ f=>f.elim
 refine codeAny_loop rfl I (λ n s hI=>?_) n h
 show qy _ A ((compTurn (.ListComp elt [⟨target,iter,ifs,0⟩] scope pos) 0 it aH env).onRaise (λ x=>do noteFrame x env;theTreesLotGoes x)) _ _ s
 refine wpAny_noted ?_;rw[compTurn_list];refine wB (yk (wB (up (turn n s hI) λ r s₁ h₁=>?_)))
 cases r with
 | none=>exact wP h₁
 | some v =>
   refine wB (up h₁ λ _ s₀ h₀=>?_)
   refine wB (up h₀ λ _ s₂ h₂=>wB (up h₂ λ ok s₃ h₃=>?_))
   cases ok with
   | false=>exact wP ⟨rfl,h₃⟩
   | true =>
     exact wB (wB (up h₃ λ x s₄ h₄=>wB (up h₄ λ _ s₅ h₅=>wP (wP ⟨rfl,h₅⟩))))
end
noncomputable def kJ(X:Cx)(aB:List (qv×Obj))(fp:List qv)(scope:zk)(C:qv)(s₀:qj)(H₀:Hp):Cx:=
 {X with s₀:=s₀,H₀:=H₀,env:=compEnvC scope (wD scope X.env) C X.env,outer:=X.stack,stack:=X.stack,ex:=fp,fn:=λ _=>false,pn:=X.pn++aB,xe:=λ _ _=>False }
def jO(X:Cx)(scope:zk)(Y:Cx):Prop:=∃ aB fp C s₀ H₀,Y=kJ X aB fp scope C s₀ H₀
structure ScOk(scope osc:zk):Prop where
 kind:scope.kind=.function
 nocell:∀ x∈scope.names,x.2≠.cell
 free:∀ x∈scope.names,x.2=.free->osc.names.lookup x.1=qq .cell\/osc.names.lookup x.1=qq .free
 loc:∀ x∈scope.names,x.2=.local->scope.names.lookup x.1=qq .local
theorem mem_of_lookup{α:Type}{x:Str}{k:α}:∀ {l:List (Str×α)},l.lookup x=qq k->(x,k)∈l
 | [],h=>by simp at h
 | (n,j)::r,h=>by
   rw[yBy] at h
   split at h
   ·rename_i hx;cases h;have:x=n:=by simpa using hx
    subst this;exact xAd
   ·exact xAg _ (mem_of_lookup h)
section
variable {X : Cx}{aB : List (qv×Obj)}{σ : L2.St}{H : Hp}{s : qj}{scope : zk}{fp : List qv}
theorem aFF{C:qv}{s₀:qj}{H₀:Hp}{x:Str}:(kJ X aB fp scope C s₀ H₀).env.kindOf x=(scope.names.lookup x).map λ k=>if (k==NameKind.free&&X.env.scope.kind==.function&&X.env.kindOf x==qq .cell) then NameKind.cell else k:=
 aLb scope.names
theorem aFP(ok:ScOk scope X.env.scope){C:qv}{s₀:qj}{H₀:Hp}{x:Str}(h:(kJ X aB fp scope C s₀ H₀).env.kindOf x=qq .cell\/(kJ X aB fp scope C s₀ H₀).env.kindOf x=qq .free):scope.names.lookup x=qq .free:=by
 rw[aFF] at h;cases e:scope.names.lookup x with
 | none=>rw[e] at h;simp at h
 | some k =>
   rw[e] at h;have nc:=ok.nocell (x,k) (mem_of_lookup e);cases k with
   | free=>rfl
   | cell=>exact absurd rfl nc
   | «local» => simp at h
   | globalExplicit=>simp at h
   | globalImplicit=>simp at h
theorem aGW(I:Inv X aB σ H s)(hfp:∀ b∈fp,gJ X aB H b):∀ b∈fp,b ∉ iA X.stack:=λ b hb z=>by
 rcases List.mem_cons.mp (I.stkSub b z) with q | q
 ·exact(hfp b hb).2.1 q
 ·exact(hfp b hb).2.2.1 q
theorem aFI(I:Inv X aB σ H s)(ok:ScOk scope X.env.scope):∀ x∈scope.names,x.2=.free->∃ c,X.env.cells.lookup x.1=qq c:=λ x hx e=>by
 rcases ok.free x hx e with q | q
 ·exact I.ok.has x.1 (.inl q)
 ·exact I.ok.has x.1 (.inr q)
theorem pM(I:Inv X aB σ H s)(ok:ScOk scope X.env.scope){x:Str}{c:qv}(h:(wD scope X.env).lookup x=qq c):X.env.cells.lookup x=qq c:=
 aGi scope.names [] (aFI I ok) (λ x c e=>by simp at e) x c h
theorem aPG(I:Inv X aB σ H s)(ok:ScOk scope X.env.scope)(hfp:∀ b∈fp,gJ X aB H b)(hth:∀ b∈fp,b<s.heap.objs.size){C:qv}(hC:s.heap.objs.size<=C):(kJ X aB fp scope C s H).Ok where
 mod:=I.ok.mod
 kind:=ok.kind
 glob:=I.ok.glob
 blt:=I.ok.blt
 above:=hC
 inj:=λ x y c h1 h2=>I.ok.inj x y c (pM I ok h1) (pM I ok h2)
 has:=λ x h=>aCO scope.names [] x (.inl ⟨.free,mem_of_lookup (aFP ok h),rfl⟩)
 cab:=λ x c h _=>nomatch h
 hd:=I.ok.hd
 frames:=I.ok.frames
 stk:=.inl rfl
 exf:=λ b hb=>⟨λ z=>absurd (xAc (hth b hb) hC) (by have z':b=C:=z;rw[z'];exact yBz _),λ x c h=>(hfp b hb).2.2.2.2.1 x c (pM I ok h)⟩
 bs:=I.bs
 bsz:=xAi I.ok.bsz I.sz
 noex:=λ b o e hb=>by
  rcases (hfp b hb).2.2.2.1 with z | z
  ·exact I.ok.noex b o e z
  ·exact absurd (xAc (xAa e) (xAi I.ok.bsz z)) (yBz _)
 exfs:=λ b hb=>aGW I hfp b hb
 funs:=I.stack
 frf:=I.stkFree
end
noncomputable def clr{α:Type}(is:List Nat)(l:List (Option α)):List (Option α):=is.foldl (λ e i=>e.set i qz) l
theorem yB{α:Type}:∀ (is:List Nat) (l:List (Option α)),(clr is l).length=l.length
 | [],_=>rfl
 | i::is,l=>by
   show(clr is (l.set i qz)).length=_;rw[yB is,yBe]
theorem zT{α:Type}:∀ (is:List Nat) (l:List (Option α)) (j:Nat) (v:α),(clr is l)[j]? = qq (qq v)->l[j]? = qq (qq v)/\j ∉ is
 | [],_,_,_,h=>⟨h,by simp⟩
 | i::is,l,j,v,h=>by
   obtain⟨h1,h2⟩:=zT is (l.set i qz) j v h
   by_cases hj:i=j
   ·subst hj;rcases yGh i l.length with q | q
    ·rw[yAx q] at h1;cases h1
    ·rw[yDf (by rw[yBe];exact q)] at h1;cases h1
   ·rw[yAy hj] at h1;exact⟨h1,λ z=>(List.mem_cons.mp z).elim (λ e=>hj e.symm) h2⟩
theorem aGF{α:Type}:∀ (is:List Nat) (l:List (Option α)) (j:Nat),j ∉ is->(clr is l)[j]? = l[j]?
 | [],_,_,_=>rfl
 | i::is,l,j,h=>by
   show(clr is (l.set i qz))[j]? = _;rw[aGF is _ j (λ z=>h (xAg _ z)),yAy (λ z=>h (by rw[z];exact xAd))]
noncomputable def Tg.slots:Tg->List Nat
 | .one i=>[i]
 | .many is=>is
theorem EnvR.clr{K:FrG}{F:Hp}{L:List qv}{env:aY}{σ:St}(h:EnvR K F L env σ)(is:List Nat):EnvR K F L (EV.clr is env) (EV.clr is σ):=
 ⟨by rw[yB,yB];exact h.len,λ j w e=>by
  obtain⟨e1,hj⟩:=zT is env j w e;obtain⟨v,e2,d⟩:=h.get j w e1;exact⟨v,by rw[aGF is σ j hj];exact e2,d⟩⟩
theorem aBK:∀ {is:List Nat}{ds:List D}{env aM:aY}{j:Nat},nW is ds env=qq aM->j ∉ is->aM[j]? = env[j]?
 | [],[],_,_,_,e,_=>by cases e;rfl
 | i::is,d::ds,env,aM,j,e,h=>by
   rw[aBK (is:=is) (ds:=ds) e (λ z=>h (xAg _ z)),yAy (λ z=>h (by rw[z];exact xAd))]
 | [],_::_,_,_,_,e,_=>by cases e
 | _::_,[],_,_,_,e,_=>by cases e
theorem Tg.put_keep{t:Tg}{d:D}{env aM:aY}{j:Nat}(e:t.put d env=qq aM)(h:j ∉ t.slots):aM[j]? = env[j]?:=by
 cases t with
 | one i=>cases e;exact yAy (λ z=>h (by rw[z];exact xAd))
 | many is =>
   cases d with
   | tuple ds=>exact aBK e h
   | list ds=>exact aBK e h
   | _=>cases e
theorem aBF:∀ {is:List Nat}{ds:List D}{env aM:aY},nW is ds env=qq aM->aM.length=env.length
 | [],[],_,_,e=>by cases e;rfl
 | i::is,d::ds,env,aM,e=>by rw[aBF (is:=is) (ds:=ds) e,yBe]
 | [],_::_,_,_,e=>by cases e
 | _::_,[],_,_,e=>by cases e
theorem Tg.put_length{t:Tg}{d:D}{env aM:aY}(e:t.put d env=qq aM):aM.length=env.length:=by
 cases t with
 | one i=>cases e;exact yBe
 | many is =>
   cases d with
   | tuple ds=>exact aBF e
   | list ds=>exact aBF e
   | _=>cases e
theorem EnvR.back{K:FrG}{F:Hp}{L:List qv}{env aM:aY}{σ:St}{t:Tg}{d:D}(e:t.put d (EV.clr t.slots env)=qq aM)(h:EnvR K F L aM σ):EnvR K F L (EV.clr t.slots env) σ:=
 ⟨by rw[<- h.len,Tg.put_length e],λ j w q=>by
  obtain⟨_,hj⟩:=zT t.slots env j w q;exact h.get j w (by rw[Tg.put_keep e hj];exact q)⟩
noncomputable def hV(t:Tg)(fc:FT)(fe:FE)(n:Nat)(env:aY):List D->aC->Option aC
 | [],S=>qq S
 | d::ds,S=>(t.put d env).bind λ e1=>(fc e1 S).bind λ c=>if c.1=true then (fe e1 c.2).bind λ p=>(dP p.2 (.loc n) p.1).bind λ r=>hV t fc fe n env ds r.2 else hV t fc fe n env ds c.2
noncomputable def gR(t:Tg)(fi:FL)(fc:FT)(fe:FE):FL:=λ env S=>(fi env S).bind λ p=>(hV t fc fe p.2.length (clr t.slots env) p.1 (p.2++[qq []])).bind λ S'=>match S'[p.2.length]? with
 | some (qq zs)=>qq (zs,S'.take p.2.length)
 | _=>qz
def mF(Y:Cx)(ifs:List qw)(fc:FT):Prop:=∀ (aB:List (qv×Obj)) (s:qj) (σ:St) (H:Hp) (Q:Bool->Hp->Prop),Inv Y aB σ H s->fL Y.K fc σ H Q ->
 qy (model Y.prog Y.w) Y.A (forIn ifs true λ c r=>if r=true then do let ok <- isTrue c Y.env (eval c Y.env);pure (ForInStep.yield ok) else pure (ForInStep.yield r)) (TP Y aB σ Q) Y.xe s
noncomputable def mZ:FT:=λ _ S=>qq (true,S)
theorem aFC{Y:Cx}:mF Y [] mZ:=λ aB s σ H Q I aV=>by
 obtain⟨F,L,S,env,b,S',R,E,e,q⟩:=aV;cases e;exact wpAny_tests_nil ⟨H,I,q F L H Gr.refl R⟩
theorem aFS{Y:Cx}{c:qw}{fc:FT}(h:PT Y c (fL Y.K fc)):mF Y [c] fc:=λ aB s σ H Q I q=>wpAny_tests_one (h aB s σ H Q I q)
def aDj(N:List Str)(scope:zk)(is:List Nat):Prop:=∀ (i:Nat) (x:Str),N[i]? = qq x->scope.names.lookup x=qq .local->i∈is
section
variable {X : Cx}{scope : zk}{tg iter elt : qw}{ifs : List qw}{pos : Pos}{t : Tg}{g : TG}{fi : FL}{fc : FT}{fe : FE}
theorem aFg(use:Option (qx->Sem Unit))(hc:X.calm=true)(ok:ScOk scope X.env.scope)(own:aDj X.N scope t.slots)(hi:PI X tg iter (kP X.K fi))(hg:∀ Y,jO X scope Y->PG Y tg g)(ga:GA X.K t g)
 (ht:∀ Y,jO X scope Y->mF Y ifs fc) (he:∀ Y,jO X scope Y->PE Y elt (aW X.K fe)) (hs:∀ x,jv iter X.env x=pure x)
 {aB:List (qv×Obj)}{s:qj}{σ:St}{H:Hp}{Q:VK}{QQ:qx->qj->Prop}{pp:Pos} (I:Inv X aB σ H s) (h:iC X.K (gR t fi fc fe) σ H Q)
 (hend:∀ (p C:qv) (s1:qj) (H':Hp),gJ X aB H' C->(∃ m,s1.heap.Ns C m)->(∀ h',yEa C s1.heap h'->Inv X aB σ H' {s1 with heap:=h' })->Q (.ref p) H' ->
   compPost (model X.prog X.w) X.A X.xe use QQ (.ref p) C (.ok .next) s1) :
 qy (model X.prog X.w) X.A (comprehension (.ListComp elt [⟨tg,iter,ifs,0⟩] scope pos) scope X.env pp (newList []) false (eval iter X.env) use) QQ X.xe s:=by
 obtain⟨F,L,S,env,zs,S',R,E,e,q⟩:=h;obtain⟨⟨ds,S1⟩,e1,e⟩:=bind_some e;obtain⟨S2,e2,e⟩:=bind_some e;dsimp only at e e2;have hz:S2[S1.length]? = qq (qq zs)/\S'=S2.take S1.length:=by
  split at e
  ·rename_i z ez;cases e;exact⟨ez,rfl⟩
  ·cases e
 obtain⟨hz,rfl⟩:=hz;refine wpAny_comprehension_free (use:=use) rfl hs (aL0 (aFI I ok)) ok.kind ok.loc ?_;refine bC (hi aB s σ H (λ J H'=>∃ F' L',Gr F L F' L'/\Rel X.K F' L' S1 H'/\Wk X.K F' L' J ds) I ⟨F,L,S,env,ds,S1,R,E,e1,λ F' L' H' J g R' wk=>⟨F',L',g,R',wk⟩⟩) λ v s1 h1=>bC h1 λ itv s2 h2=>?_
 obtain⟨it,fp,tn,J,H2,rfl,I2,T,st2,f2,F1,L1,g1,R1,wk⟩:=h2;refine xk (wpAny_newFunctionEnv ok.nocell (by intro y hy;simp at hy) (λ h₁ hns₁ hsb₁=>?_) ok.kind)
 dsimp only at hns₁ hsb₁ ⊢;have I3:Inv X aB σ (bE H2 s2.heap.objs.size (.lst [])) {s2 with heap:=s2.heap.push {cls:=.type "list",dict:=qz,data:=.seq ([]:List qx).toArray } }:=I2.lnew (aF:=[]) (t':=s2.toks) .nil (yFz _)
 generalize hs3:({s2 with heap:=s2.heap.push {cls:=.type "list",dict:=qz,data:=.seq ([]:List qx).toArray } }:qj)=s3 at I3
 have hh3:s2.heap.push {cls:=.type "list",dict:=qz,data:=.seq ([]:List qx).toArray }=s3.heap:=by rw[<- hs3]
 generalize hD:s2.heap.objs.size=Dd at I3;generalize hH3:bE H2 Dd (.lst [])=H3 at I3;have hfr2:H2 Dd=qz:=by rw[<- hD];exact I2.fresh
 rw[hh3] at hns₁ hsb₁;rw[hh3];have hst:({heap:=h₁,gens:=s2.gens,drawn:=s2.drawn,toks:=s2.toks+([]:List (Str×qx)).length,os:=s2.os }:qj)={s3 with heap:=h₁,toks:=s3.toks+([]:List (Str×qx)).length }:=by rw[<- hs3]
 rw[hst];clear hst;generalize hC:s3.heap.objs.size=C at hns₁ hsb₁;have old:∀ b u,s3.heap.get? b=qq u->h₁.get? b=qq u:=λ b u q=>by
  have hb:b≠C:=by rw[<- hC];exact xAk (xAa q)
  exact hsb₁.extBut b u hb (hpS _ q)
 have lt2:∀ b∈fp,b<s2.heap.objs.size:=λ b hb=>by
  obtain⟨o,eo,_⟩:=T.obj 0 _ st2 b hb;exact xAa eo
 have up23:∀ b u,s2.heap.get? b=qq u->s3.heap.get? b=qq u:=λ b u q=>by rw[<- hh3];exact hpS _ q
 have lt3:∀ b∈fp,b<s3.heap.objs.size:=λ b hb=>by
  obtain⟨o,eo,_⟩:=T.obj 0 _ st2 b hb;exact xAa (up23 b o eo)
 have f3:∀ b∈fp,gJ X aB H3 b:=λ b hb=>by
  refine⟨?_,(f2 b hb).2⟩;have ne:b≠Dd:=by rw[<- hD];exact xAk (lt2 b hb)
  rw[<- hH3,bN ne];exact(f2 b hb).1
 have okY:(kJ X aB fp scope C s3 H3).Ok:=aPG I3 ok f3 lt3 (by rw[hC];exact yAc _)
 have hIC:jO X scope (kJ X aB fp scope C s3 H3):=⟨aB,fp,C,s3,H3,rfl⟩;generalize hY:kJ X aB fp scope C s3 H3=Y at okY hIC;have yE:Y.env=compEnvC scope (wD scope X.env) C X.env:=by rw[<- hY];rfl
 have I4:Inv Y [] (clr t.slots σ) H3 {s3 with heap:=h₁,toks:=s3.toks+([]:List (Str×qx)).length }:=by
  rw[<- hY] at okY ⊢;refine⟨okY,rfl,I3.bare,Un.kept old,⟨_,hns₁,λ i x v a1 a2 a3=>?_⟩,λ x c a=>?_,?_,λ x c a=>I3.freeC x c (pM I3 ok a),λ p hp=>?_,I3.hok.kept old,by rw[yB];exact I3.len⟩
  ·obtain⟨a4,a5⟩:=zT t.slots σ i v a2;have nl:scope.names.lookup x≠qq .local:=λ z=>a5 (own i x a1 z)
   have qJ:(kJ X aB fp scope C s3 H3).env.kindOf x=qq .cell\/(kJ X aB fp scope C s3 H3).env.kindOf x=qq .free:=by
    rcases a3 with z | z | z
    ·exfalso;have z':(kJ X aB fp scope C s3 H3).env.kindOf x=qq .local:=z;rw[aFF] at z';cases ek:scope.names.lookup x with
     | none=>rw[ek] at z';cases z'
     | some k =>
       rw[ek] at z';cases k with
       | «local» => exact nl ek
       | free =>
         simp only[Option.map_some,Option.some.injEq] at z'
         split at z'<;>cases z'
       | cell=>exact ok.nocell (x,.cell) (mem_of_lookup ek) rfl
       | globalExplicit=>simp at z'
       | globalImplicit=>simp at z'
    ·exact .inl z
    ·exact .inr z
   have fr:=aFP ok qJ;have ov:=ok.free (x,.free) (mem_of_lookup fr) rfl;obtain⟨m,hm,hl⟩:=I3.loc;obtain⟨u,ru,lk⟩:=hl i x v a1 a4 (ov.elim (λ z=>.inr (.inl z)) λ z=>.inr (.inr z))
   refine⟨u,ru,.inr ⟨qJ,?_⟩⟩;obtain⟨c,hcl⟩:=aCO (env:=X.env) scope.names [] x (.inl ⟨.free,mem_of_lookup fr,rfl⟩);have hc2:=pM I3 ok hcl;rcases lk with ⟨z,_⟩ | ⟨_,c',e',o',ho',hd'⟩
   ·exfalso;have z':X.env.scope.names.lookup x=qq .local:=z;rcases ov with w | w
    ·rw[w] at z';cases z'
    ·rw[w] at z';cases z'
   ·rw[hc2] at e';cases e';exact⟨c,hcl,o',old _ _ ho',hd'⟩
  ·obtain⟨v,o,ho,hd⟩:=I3.cell x c (pM I3 ok a);exact⟨v,o,old _ _ ho,hd⟩
  ·show H3 C=qz;rw[<- hC];exact I3.fresh
  ·have hp':p∈X.pn++aB:=by
    have:p∈(X.pn++aB)++[]:=hp;rwa [yEb] at this
   obtain⟨b1,b2,b3,b4,b5⟩:=I3.pin p hp';refine⟨old _ _ b1,b2,?_,λ z=>?_,b5⟩
   ·show p.1≠C;rw[<- hC];exact xAk (xAa b1)
   ·rcases List.mem_cons.mp (I3.stkSub p.1 z) with w | w
    ·exact b3 w
    ·exact b4 w
 have fpY:∀ {H':Hp},(∀ b∈fp,H' b=qz)->∀ b∈fp,gJ Y [] H' b:=λ hn b hb=>by
  rw[<- hY];refine⟨hn b hb,?_,aGW I3 f3 b hb,.inl hb,λ x c a=>(f3 b hb).2.2.2.2.1 x c (pM I3 ok a),λ p hp=>?_⟩
  ·show b≠C;rw[<- hC];exact xAk (lt3 b hb)
  ·have hp':p∈X.pn++aB:=by
    have:p∈(X.pn++aB)++[]:=hp;rwa [yEb] at this
   exact(f3 b hb).2.2.2.2.2 p hp'
 have yA:Y.A=X.A:=by rw[<- hY];rfl
 have yP:Y.prog=X.prog:=by rw[<- hY];rfl
 have yW:Y.w=X.w:=by rw[<- hY];rfl
 have yK:Y.K=X.K:=by rw[<- hY];rfl
 have yC:Y.calm=true:=by rw[<- hY];exact hc
 have yX:Y.xe=λ _ _=>False:=by rw[<- hY];rfl
 have R3:Rel X.K F1 (L1++[Dd]) (S1++[qq []]) H3:=by rw[<- hH3];exact R1.newLoc hfr2 .nil
 obtain⟨PP,hPP⟩:∃ PP:Result->qj->Prop,PP=compPost (model X.prog X.w) X.A X.xe use QQ (.ref Dd) C:=⟨_,rfl⟩;have bJ:∀ (s1:qj) (σ':L2.St) (H' F':Hp) (L':List qv),Inv Y [] σ' H' s1->Gr F1 (L1++[Dd]) F' L'->Rel X.K F' L' S2 H'->PP (.ok .next) s1:=by
  intro s1 σ' H' F' L' J' gg RR;rw[hPP];rw[<- hY] at J';obtain⟨m,hmC,_⟩:=J'.loc;have hCn:H' C=qz:=J'.free;have hfC:gJ X aB H' C:=I3.fpOk (by rw[hC];exact yAc _) hCn
  obtain⟨sf,M,rfl⟩:=gg;have cF:L1.length=S1.length:=R1.len;have eL:((L1++[Dd])++M)[S1.length]? = qq Dd:=by
   rw[yCf,yAf (by rw[cF];exact yAc _),cF,yBo];rfl
  obtain⟨hF,xs,hx,dl⟩:=RR.loc S1.length Dd zs eL hz;have RR2:Rel X.K F' (L1++([Dd]++M)) S2 H':=by rw[<- yCf];exact RR
  have Rc:=RR2.cut;rw[cF] at Rc;have hnd:Dd ∉ L1:=λ z=>by
   have nd:=RR2.nd;rw[yGq] at nd;exact nd.2.2 Dd z Dd (by simp) rfl
  refine hend Dd C s1 H' hfC ⟨m,hmC⟩ (λ h' sb=>?_) (q F' L1 H' Dd xs (g1.trans ⟨sf,[],by simp⟩) Rc hF hnd hx dl)
  have neC:∀ b u,s3.heap.get? b=qq u->b≠C:=λ b u z=>by rw[<- hC];exact xAk (xAa z)
  have kp:∀ b u,b≠C->s1.heap.get? b=qq u->h'.get? b=qq u:=λ b u z w=>sb.extBut b u z w
  have bU:Un (iA X.stack) fp H3 H' s3.heap s1.heap:=J'.base;have u:Un (iA X.stack) fp H3 H' s3.heap h':=
   ⟨λ b o z n hb hx=>kp b o (neC b o z) (bU.keep b o z n hb hx),λ b o z n hb hx=>by obtain⟨sl,w⟩:=bU.slot b o z n hb hx;exact⟨sl,kp b _ (neC b o z) w⟩,bU.free,
    λ b o z hx=>by obtain⟨o',w⟩:=bU.there b o z hx;exact⟨o',kp b _ (neC b o z) w⟩,bU.tups,bU.frzs,bU.tbls⟩
  have hokY:dL X.prog X.w H' s1.heap:=J'.hok;have hok':dL X.prog X.w H' h':=λ b o z=>(hokY b o z).stay (λ c v hc2 w=>kp c v (λ zz=>by
   rcases hc2 with w2 | w2
   ·rw[w2] at zz;rw[zz,hCn] at z;cases z
   ·rw[zz,hCn] at w2;cases w2) w) (λ _ w=>w) λ _ _ w=>w
  have os1:s1.os=s3.os:=J'.os;exact I3.call' (s':={s1 with heap:=h' }) os1 u hok' J'.bare λ b hb=>⟨(f3 b hb).2.2.2.1,(f3 b hb).2.1,(f3 b hb).2.2.2.2.1,(f3 b hb).2.2.2.2.2⟩
 have loop:∀ s5:qj,Inv Y [] (clr t.slots σ) H3 s5->tn 0 s5.heap ->
  vy (model X.prog X.w) X.A (.compLoop (.ListComp elt [⟨tg,iter,ifs,0⟩] scope pos) 0 (.ref it) (.ref Dd) Y.env) PP s5:=by
  intro s5 I5 st5;have E0:EnvR X.K F1 (L1++[Dd]) (clr t.slots env) (clr t.slots σ):=(E.mono (g1.trans Gr.newLoc)).clr t.slots;obtain⟨Iv,hIv⟩:∃ Iv:Nat->qj->Prop,∀ n s',Iv n s' ↔ (∃ i σ' H' F' L' S',Inv Y [] σ' H' s'/\tn i s'.heap/\(∀ b∈fp,H' b=qz)/\Gr F1 (L1++[Dd]) F' L'/\Rel X.K F' L' S' H'/\EnvR X.K F' L' (clr t.slots env) σ'/\i+n=ds.length /\
   hV t fc fe S1.length (clr t.slots env) (ds.drop i) S'=qq S2):=⟨_,λ _ _=>Iff.rfl⟩
  refine aLn Iv ?_ ds.length ((hIv _ _).mpr ⟨0,clr t.slots σ,H3,F1,L1++[Dd],S1++[qq []],I5,st5,λ b hb=>(f3 b hb).1,Gr.refl,R3,E0,yEe _,by rw[yEo];exact e2⟩)
  intro n s6 h6;obtain⟨i,σ6,H6,F6,L6,S6,I6,st6,fr6,g6,R6,E6,hin,ec⟩:=(hIv _ _).mp h6;clear h6;have g16:Gr F1 L1 F6 L6:=Gr.newLoc.trans g6;have toA:∀ {α:Type}{tt:Sem α}{QQ:α->qj->Prop}{EE:qx->qj->Prop}{ss:qj},qy (model X.prog X.w) Y.A tt QQ EE ss->qy (model X.prog X.w) X.A tt QQ EE ss:=λ hh=>by rw[yA] at hh;exact hh
  cases n with
  | zero =>
    have hi':i=ds.length:=by omega
    subst hi';rw[yGz] at ec;cases ec;refine bC (toA (T.done Y yP yW yK yC ds.length [] s6 σ6 H6 _ I6 (fpY fr6) st6 (wk.stop H6 (g16.f.trans R6.sub)))) λ r s7 hPq30=>?_
    obtain⟨hr,I7⟩:=hPq30;subst hr;exact bJ s7 σ6 H6 F6 L6 I7 g6 R6
  | succ n =>
    have hi':i<ds.length:=by omega
    refine bC (toA (T.item Y yP yW yK yC i [] s6 σ6 H6 _ I6 (fpY fr6) st6 (wk.go i H6 (g16.f.trans R6.sub) hi'))) λ r s7 hPq31=>?_
    obtain⟨u,hr,h7⟩:=hPq31;subst hr;refine bC (toA h7) λ _ s8 hPq32=>?_
    obtain⟨x,H8,I8,r8,y8,st8,fr8⟩:=hPq32;obtain⟨F8,sf8,R8,d8⟩:=wk.yld i H6 F6 L6 S6 x H8 ds[i] g16 R6 (yAa hi') y8;have g8:Gr F6 L6 F8 L6:=⟨sf8,[],by simp⟩
    rw[yEm hi'] at ec;obtain⟨env9,ep,ec⟩:=bind_some ec;obtain⟨⟨cb,S9⟩,et,ec⟩:=bind_some ec;have I8':=I8.pinned (fpY fr8) (T.obj _ _ st8);have toF:∀ {α:Type}{tt:Sem α}{QQ:α->qj->Prop}{ss:qj},qy (model Y.prog Y.w) Y.A tt QQ Y.xe ss->qy (model X.prog X.w) X.A tt QQ (λ _ _=>False) ss:=λ hh=>by rw[yX,yP,yW,yA] at hh;exact hh
    refine toF (bC (hg Y hIC _ s8 σ6 H8 x u (λ σ' H'=>H'=H8/\EnvR X.K F8 L6 env9 σ') I8' r8 (ga ds[i] x σ6 H8 F8 L6 S6 (clr t.slots env) env9 _ R8 (E6.mono g8) d8 ep λ σ' E'=>⟨rfl,E'⟩)) λ _ s9 hPq33=>?_)
    obtain⟨σ9,H9,I9,hH9,E9⟩:=hPq33;subst hH9;refine toF (bC (ht Y hIC _ s9 σ9 H9 (λ b H'=>∃ F' L',Gr F8 L6 F' L'/\Rel X.K F' L' S9 H'/\b=cb) I9 (by rw[yK];exact⟨F8,L6,S6,env9,cb,S9,R8,E9,et,λ F' L' H' g' R'=>⟨F',L',g',R',rfl⟩⟩)) λ ok2 s10 hPq34=>?_)
    obtain⟨H10,I10,F10,L10,g10,R10,hb10⟩:=hPq34;subst hb10;dsimp only at ec;have again:∀ {σ7:L2.St}{H7 F7:Hp}{L7:List qv}{S7:aC}{s7':qj},Inv Y ([]++vH fp s8.heap) σ7 H7 s7'->Gr F8 L6 F7 L7->Rel X.K F7 L7 S7 H7->EnvR X.K F7 L7 env9 σ7->hV t fc fe S1.length (clr t.slots env) (ds.drop (i+1)) S7=qq S2 ->
     ∃ m,m<n+1/\Iv m s7':=by
     intro σ7 H7 F7 L7 S7 s7' I7 g7 R7 E7 ec7;refine⟨n,yEp n,(hIv _ _).mpr ⟨i+1,σ7,H7,F7,L7,S7,I7.unpinned,T.keep _ _ _ st8 λ b hb o eo=>(I7.pin (b,o) (xAq _ (xAq _ (tM hb eo)))).1,λ b hb=>?_,(g6.trans g8).trans g7,R7,EnvR.back ep E7,by omega,ec7⟩⟩
     obtain⟨o,eo,_⟩:=T.obj _ _ st8 b hb;exact(I7.pin (b,o) (xAq _ (xAq _ (tM hb eo)))).2.1
    cases ok2 with
    | false =>
      rw[if_neg (by simp)] at ec
      rw[if_neg (by simp)]
      exact again I10 g10 R10 (E9.mono g10) ec
    | true =>
      rw[if_pos rfl] at ec;rw[if_pos rfl];obtain⟨⟨wv,S11⟩,ee,ec⟩:=bind_some ec;obtain⟨⟨wn,S12⟩,ea,ec⟩:=bind_some ec;obtain⟨n',dv,zs',hn',hw',es',hlt,hwn,rfl⟩:=aFA ea;cases hn';subst hw';refine toF (bC (he Y hIC _ s10 σ9 H10 (λ v H'=>∃ F' L',Gr F10 L10 F' L'/\Rel X.K F' L' S11 H'/\Den X.K F' dv v) I10 ⟨F10,L10,S9,env9,_,S11,R10,E9.mono g10,ee,λ F' L' H' v g' R' d'=>⟨F',L',g',R',d'⟩⟩) λ xv s11 hPq35=>?_)
      obtain⟨v11,H11,I11,r11,F11,L11,g11,R11,d11⟩:=hPq35;have gA:Gr F1 (L1++[Dd]) F11 L11:=((g6.trans g8).trans g10).trans g11;have eL:L11[S1.length]? = qq Dd:=gA.get (by rw[yAf (by rw[R1.len];exact yAc _),R1.len,yBo];rfl)
      obtain⟨hF,xs,hx,dl⟩:=R11.loc S1.length Dd zs' eL es';refine toF (bC (aFi (X:=Y) _ s11 σ9 H11 (.ref Dd) [v11] (.ref Dd) [xv] (λ _ H'=>Rel X.K F11 L11 (S11.set S1.length (qq (zs'++[dv]))) H') I11 rfl (.cons r11 .nil) ⟨Dd,xs,v11,rfl,rfl,hx,by rw[<- dl.length];exact hlt,R11.put eL hF (dl.append (.cons d11 .nil))⟩) λ _ s12 hPq36=>?_)
      obtain⟨_,H12,I12,_,R12⟩:=hPq36;exact again I12 (g10.trans g11) R12 (E9.mono (g10.trans g11)) ec
 rw[yE,hPP] at loop;have st4:tn 0 h₁:=T.keep 0 _ _ st2 λ b _ o eo=>old b o (up23 b o eo)
 exact codeAny_compStart_list (loop _ I4 st4) (T.self X.A 0 _ _ _ st4 (loop _ I4 st4))
theorem aIe(hc:X.calm=true)(ok:ScOk scope X.env.scope)(own:aDj X.N scope t.slots)(hi:PI X tg iter (kP X.K fi))(hg:∀ Y,jO X scope Y->PG Y tg g)(ga:GA X.K t g)
 (ht:∀ Y,jO X scope Y->mF Y ifs fc) (he:∀ Y,jO X scope Y->PE Y elt (aW X.K fe)) (hs:∀ x,jv iter X.env x=pure x) :
 PE X (.ListComp elt [⟨tg,iter,ifs,0⟩] scope pos) (iC X.K (gR t fi fc fe)):=λ aB s σ H Q I h=>by
 rw[eval_ListComp];exact aFg qz hc ok own hi hg ga ht he hs I h λ p C s1 H' _ hm hI q=>hm.elim λ m hm=>⟨m,hm,λ h' sb=>⟨.ref p,H',hI h' sb,rfl,q⟩⟩
theorem aMF{i:Nat}{x:Str}{pos' spos:Pos}{fa:FE}(hN:X.N.Nodup)(hx1:X.N[i]? = qq x)(hx2:L2.Loc X.env.scope x)(hf:X.fn x=true\/X.env.scope.names.lookup x=qq .local)
 (hc:X.calm=true) (ok:ScOk scope X.env.scope) (own:aDj X.N scope t.slots) (hi:PI X tg iter (kP X.K fi)) (hg:∀ Y,jO X scope Y->PG Y tg g) (ga:GA X.K t g)
 (ht:∀ Y,jO X scope Y->mF Y ifs fc) (he:∀ Y,jO X scope Y->PE Y elt (aW X.K fe)) (hs:∀ x,jv iter X.env x=pure x)
 (hw:∀ σ H Q,aW X.K fa σ H Q->iC X.K (gR t fi fc fe) σ H Q) :
 PS X (.Assign [.Name x pos'] (.ListComp elt [⟨tg,iter,ifs,0⟩] scope pos) spos) (dI X.K (jE i fa)):=by
 have hb:∃ b,swapsWith (.ListComp elt [⟨tg,iter,ifs,0⟩] scope pos) (qq (.Name x pos')) spos.line X.env=pure b:=⟨_,rfl⟩;obtain⟨b,hb⟩:=hb;cases b with
 | false=>exact aJy hN hx1 hx2 (PE.weak (aIe hc ok own hi hg ga ht he hs) hw) hb hf
 | true =>
   intro aB s σ H DD I h;have h2:=aI3 DD σ H h;rw[exec_Assign_Name_used _ _ _ _ hb];refine wB (yk (wB ?_));show qy _ X.A (do let _ <- comprehension (.ListComp elt [⟨tg,iter,ifs,0⟩] scope pos) scope X.env _ (newList []) false (eval iter X.env) (qq (assign (.Name x pos') X.env))) _ _ s
   refine wB (bC (aFg (QQ:=λ _ s'=>SP X aB DD .next s') (qq (assign (.Name x pos') X.env)) hc ok own hi hg ga ht he hs I (hw _ _ _ h2) λ p C s1 H' hC hm hI q=>?_) λ _ s' hq=>wP (wP hq))
   obtain⟨m,hm⟩:=hm;have I1:Inv X aB σ H' s1:=hI s1.heap (Heap.SameBut.refl _ _);obtain⟨o,es,ep,ho,hd,r⟩:=hm;have I2:=I1.pinned (fp:=[C]) (λ b hb=>by rw[List.mem_singleton.mp hb];exact hC) λ b hb=>by rw[List.mem_singleton.mp hb];exact⟨o,ho,λ v z=>by rw[hd] at z;cases z⟩
   refine bC (aCD (pos:=pos') hN hx1 hx2 hf _ s1 σ H' (.ref p) (.ref p) _ I2 rfl q) λ _ s2 hPq37=>?_
   obtain⟨σ2,H2,I3,q3⟩:=hPq37;obtain⟨b1,b2,_⟩:=I3.pin (C,o) (xAq _ (xAq _ (tM (by simp) ho)))
   refine⟨m,⟨o,es,ep,b1,hd,r⟩,λ h' sb=>⟨σ2,H2,?_,q3⟩⟩
   exact I3.unpinned.turned (t':=s2.toks) (λ b o hb e=>sb.extBut b o hb e) b2 hC.2.1 hC.2.2.2.1 hC.2.2.2.2.1 hC.2.2.2.2.2
end
noncomputable def nX:List D->Option (List Int)
 | []=>qq []
 | .int i::r=>(nX r).bind λ l=>qq (i::l)
 | _::_=>qz
noncomputable def rE:List D->Option (List Bool)
 | []=>qq []
 | .bool i::r=>(rE r).bind λ l=>qq (i::l)
 | _::_=>qz
noncomputable def eT:List D->Option D
 | [.list xs]=>qq (.int xs.length)
 | [.tuple xs]=>qq (.int xs.length)
 | [.str z]=>if z.length<=qk then qq (.int z.length) else qz
 | _=>qz
noncomputable def mX:List D->Option D
 | [.int i,.int j]=>qq (.int (if j>i then j else i))
 | [.int i,.int j,.int k]=>qq (.int (if j>i then (if k>j then k else j) else (if k>i then k else i)))
 | [.list xs]=>match nX xs with
   | some (i::r)=>qq (.int (r.foldl max i))
   | _=>qz
 | _=>qz
noncomputable def qF:List D->Option D
 | [.int i,.int j]=>qq (.int (if j<i then j else i))
 | [.list xs]=>match nX xs with
   | some (i::r)=>qq (.int (r.foldl min i))
   | _=>qz
 | _=>qz
noncomputable def pZ:List D->Option D
 | [.int i]=>qq (.int i)
 | [.bool k]=>qq (.int (if k then 1 else 0))
 | _=>qz
noncomputable def aDA:List D->Option D
 | [.int i]=>qq (.int (if i<0 then -i else i))
 | _=>qz
noncomputable def vB:List D->Option D
 | [.list xs]=>qq (.tuple xs)
 | [.tuple xs]=>qq (.tuple xs)
 | _=>qz
noncomputable def aDk:List D->Option D
 | [.list xs]=>(nX xs).bind λ l=>qq (.int l.sum)
 | _=>qz
noncomputable def wN:List D->Option D
 | [.list xs]=>(rE xs).bind λ l=>qq (.bool (l.all id))
 | _=>qz
noncomputable def sI:List D->Option D
 | [.list xs]=>(rE xs).bind λ l=>qq (.bool (l.any id))
 | _=>qz
section
variable {X : Cx}
theorem iP{F H:Hp}{d:D}{xs:List V}(h:NowL X.K F H [d] xs):∃ x,xs=[x]/\bO X.K F H d x:=by
 cases h with
 | cons a b=>cases b;exact⟨_,rfl,a⟩
theorem aJ2{F H:Hp}{d e:D}{xs:List V}(h:NowL X.K F H [d,e] xs):∃ x y,xs=[x,y]/\bO X.K F H d x/\bO X.K F H e y:=by
 cases h with
 | cons a b =>
   cases b with
   | cons c d=>cases d;exact⟨_,_,rfl,a,c⟩
theorem aVc{F H:Hp}{d e f:D}{xs:List V}(h:NowL X.K F H [d,e,f] xs):∃ x y z,xs=[x,y,z]/\bO X.K F H d x/\bO X.K F H e y/\bO X.K F H f z:=by
 cases h with
 | cons a b=>cases b with
   | cons c d=>cases d with
     | cons e f=>cases f;exact⟨_,_,_,rfl,a,c,e⟩
theorem aJk{x y z:V}{us:List qx}(r:aU [x,y,z] us):∃ u v w',us=[u,v,w']/\aZ x u/\aZ y v/\aZ z w':=by
 cases r with
 | cons r1 r2=>cases r2 with
   | cons r3 r4=>cases r4 with
     | cons r5 r6=>cases r6;exact⟨_,_,_,rfl,r1,r3,r5⟩
theorem aMi(hc:X.calm=true):dF X (.builtin "max") (λ xs H Q=>∃ i j k,xs=[.int i,.int j,.int k]/\Q (.int (if j>i then (if k>j then k else j) else (if k>i then k else i))) H):=by
 intro aB s σ H xs us Q I r h;obtain⟨i,j,k,rfl,q⟩:=h;obtain⟨u,v,w',rfl,⟨t,rfl⟩,⟨t',rfl⟩,⟨t2,rfl⟩⟩:=aJk r;refine max_three_ints (I.ok.hd hc) λ h' tk kk=>⟨_,H,I.kept kk,?_,q⟩
 by_cases h1:j>i<;>by_cases h2:k>j<;>by_cases h3:k>i<;>simp only[h1,h2,h3,if_true,if_false]<;>exact⟨_,rfl⟩
theorem yD{K:FrG}{F:Hp}:∀ {ds:List D}{xs:List V}{ns:List Int},DenL K F ds xs->nX ds=qq ns->xs=ns.map V.int
 | _,_,_,.nil,e=>by cases e;rfl
 | .int i::r,_,_,.cons h t,e=>by
   obtain⟨l,e1,e2⟩:=bind_some e;cases e2;cases h;rw[yBa,yD t e1]
 | .none::_,_,_,.cons _ _,e=>by cases e
 | .bool _::_,_,_,.cons _ _,e=>by cases e
 | .str _::_,_,_,.cons _ _,e=>by cases e
 | .list _::_,_,_,.cons _ _,e=>by cases e
 | .tuple _::_,_,_,.cons _ _,e=>by cases e
 | .dict _::_,_,_,.cons _ _,e=>by cases e
theorem aG4:∀ (l:List Int) (i:Int),(l.foldl max i∈i::l)/\∀ a∈i::l,a<=l.foldl max i
 | [],i=>⟨List.mem_singleton.mpr rfl,λ a h=>by rw[List.mem_singleton.mp h];exact Int.le_refl _⟩
 | b::l,i=>by
   obtain⟨h1,h2⟩:=aG4 l (max i b);rw[yBv];refine⟨?_,λ a ha=>?_⟩
   ·rcases List.mem_cons.mp h1 with h | h
    ·rw[h];rcases Int.le_total i b with q | q
     ·rw[Int.max_eq_right q];simp
     ·rw[Int.max_eq_left q];simp
    ·simp[h]
   ·have h3:=h2 (max i b) xAd;simp only[yCt] at ha;rcases ha with rfl | rfl | ha
    ·exact yHh (Int.le_max_left _ _) h3
    ·exact yHh (Int.le_max_right _ _) h3
    ·exact h2 a (xAg _ ha)
theorem aHO:∀ (l:List Int) (i:Int),(l.foldl min i∈i::l)/\∀ a∈i::l,l.foldl min i<=a
 | [],i=>⟨List.mem_singleton.mpr rfl,λ a h=>by rw[List.mem_singleton.mp h];exact Int.le_refl _⟩
 | b::l,i=>by
   obtain⟨h1,h2⟩:=aHO l (min i b);rw[yBv];refine⟨?_,λ a ha=>?_⟩
   ·rcases List.mem_cons.mp h1 with h | h
    ·rw[h];rcases Int.le_total i b with q | q
     ·rw[Int.min_eq_left q];simp
     ·rw[Int.min_eq_right q];simp
    ·simp[h]
   ·have h3:=h2 (min i b) xAd;simp only[yCt] at ha;rcases ha with rfl | rfl | ha
    ·exact yHh h3 (Int.min_le_left _ _)
    ·exact yHh h3 (Int.min_le_right _ _)
    ·exact h2 a (xAg _ ha)
theorem aBP:∀ {l:List Int}{us:List qx},aU (l.map V.int) us->∃ ps:List (Int×Tok),us=ps.map (λ p=>Value.int p.1 p.2)/\ps.map (·.1)=l
 | [],us,r=>by cases r;exact⟨[],rfl,rfl⟩
 | i::l,us,r=>by
   cases r with
   | cons h t =>
     obtain⟨tk,rfl⟩:=h;obtain⟨ps,rfl,rfl⟩:=aBP t;exact⟨(i,tk)::ps,rfl,rfl⟩
theorem aMM(hc:X.calm=true):dF X (.builtin "max") (λ xs H Q=>∃ (a:qv) (l:List Int),xs=[.ref a]/\bV X.K H a (l.map V.int)/\0<l.length/\∀ M,M∈l->(∀ i∈l,i<=M)->Q (.int M) H):=by
 intro aB s σ H xs us Q I r h;obtain⟨a,l,rfl,sq,hl,q⟩:=h;obtain⟨u,rfl,ru⟩:=iZ r;cases ru;obtain⟨aF,rv,pl,hz⟩:=I.list sq;obtain⟨ps,rfl,rfl⟩:=aBP rv;have hIL:s.heap.IsList a (intItems ps.toArray):=by
  have e:intItems ps.toArray=(ps.map (λ p=>Value.int p.1 p.2)).toArray:=by simp[intItems]
  rw[e];exact pl.isList
 refine max_intList (xs:=ps.toArray) (I.ok.hd hc) hIL (by simpa using hl) λ v h' tk hv hk=>?_
 obtain⟨t,rfl⟩:=intItems_at hv;obtain⟨h1,h2⟩:=argBest_gt (numAt ps.toArray) (ps.toArray.size-1);refine⟨.int _,H,I.kept hk,⟨_,rfl⟩,q _ ?_ λ i hi=>?_⟩
 ·rw[numAt_eq];have hz':0<ps.toArray.size:=by simpa using hl
  exact getD_mem (by rw[yAb,yDq];exact xAj h1 (Nat.sub_lt hz' Nat.one_pos))
 ·obtain⟨j,hj,rfl⟩:=mem_getD hi;rw[yAb] at hj;have:=h2 j (by rw[yAe];omega)
  rw[numAt_eq (j:=j)] at this;exact this
theorem aMl(hc:X.calm=true):dF X (.builtin "min") (λ xs H Q=>∃ (a:qv) (l:List Int),xs=[.ref a]/\bV X.K H a (l.map V.int)/\0<l.length/\∀ M,M∈l->(∀ i∈l,M<=i)->Q (.int M) H):=by
 intro aB s σ H xs us Q I r h;obtain⟨a,l,rfl,sq,hl,q⟩:=h;obtain⟨u,rfl,ru⟩:=iZ r;cases ru;obtain⟨aF,rv,pl,hz⟩:=I.list sq;obtain⟨ps,rfl,rfl⟩:=aBP rv;have hIL:s.heap.IsList a (intItems ps.toArray):=by
  have e:intItems ps.toArray=(ps.map (λ p=>Value.int p.1 p.2)).toArray:=by simp[intItems]
  rw[e];exact pl.isList
 refine min_intList (xs:=ps.toArray) (I.ok.hd hc) hIL (by simpa using hl) λ v h' tk hv hk=>?_
 obtain⟨t,rfl⟩:=intItems_at hv;obtain⟨h1,h2⟩:=argBest_lt (numAt ps.toArray) (ps.toArray.size-1);refine⟨.int _,H,I.kept hk,⟨_,rfl⟩,q _ ?_ λ i hi=>?_⟩
 ·rw[numAt_eq];have hz':0<ps.toArray.size:=by simpa using hl
  exact getD_mem (by rw[yAb,yDq];exact xAj h1 (Nat.sub_lt hz' Nat.one_pos))
 ·obtain⟨j,hj,rfl⟩:=mem_getD hi;rw[yAb] at hj;have:=h2 j (by rw[yAe];omega)
  rw[numAt_eq (j:=j)] at this;exact this
theorem aT4:dF X (.builtin "len") (mB X eT):=λ aB s σ H xs us Q I r aV=>by
 obtain⟨F,L,S,ds,z,R,n,e,q⟩:=aV;unfold eT at e
 split at e
 ·cases e;obtain⟨x,rfl,nx⟩:=iP n;obtain⟨a,ys,rfl,sq,dl⟩:=nx.lst R.sub;exact aEE aB s σ H _ us Q I r ⟨a,ys,rfl,.inl sq,by rw[<- dl.length];exact q.here R (.int _)⟩
 ·cases e;obtain⟨x,rfl,nx⟩:=iP n;obtain⟨a,ys,rfl,sq,dl⟩:=nx.tup R.sub;exact aEE aB s σ H _ us Q I r ⟨a,ys,rfl,.inr sq,by rw[<- dl.length];exact q.here R (.int _)⟩
 ·split at e
  ·rename_i hz;cases e;obtain⟨x,rfl,nx⟩:=iP n;exact aLm aB s σ H _ us Q I r ⟨_,by rw[nx.str],hz,q.here R (.int _)⟩
  ·cases e
 ·cases e
theorem aUF(hc:X.calm=true):dF X (.builtin "max") (mB X mX):=λ aB s σ H xs us Q I r aV=>by
 obtain⟨F,L,S,ds,z,R,n,e,q⟩:=aV;unfold mX at e
 split at e
 ·cases e;obtain⟨x,y,rfl,nx,ny⟩:=aJ2 n;exact aM0 hc aB s σ H _ us Q I r ⟨_,_,by rw[nx.int,ny.int],q.here R (.int _)⟩
 ·cases e;obtain⟨x,y,u,rfl,nx,ny,nu⟩:=aVc n;exact aMi hc aB s σ H _ us Q I r ⟨_,_,_,by rw[nx.int,ny.int,nu.int],q.here R (.int _)⟩
 ·split at e
  ·rename_i xs' i r' hi;cases e;obtain⟨x,rfl,nx⟩:=iP n;obtain⟨a,ys,rfl,sq,dl⟩:=nx.lst R.sub;obtain rfl:=yD dl hi;refine aMM hc aB s σ H _ us Q I r ⟨a,i::r',rfl,sq,by simp,λ M h1 h2=>?_⟩
   have f:=aG4 r' i;have:M=r'.foldl max i:=Int.le_antisymm (f.2 _ h1) (h2 _ f.1);rw[this];exact q.here R (.int _)
  ·cases e
 ·cases e
theorem aU1(hc:X.calm=true):dF X (.builtin "min") (mB X qF):=λ aB s σ H xs us Q I r aV=>by
 obtain⟨F,L,S,ds,z,R,n,e,q⟩:=aV;unfold qF at e
 split at e
 ·cases e;obtain⟨x,y,rfl,nx,ny⟩:=aJ2 n;exact aMg hc aB s σ H _ us Q I r ⟨_,_,by rw[nx.int,ny.int],q.here R (.int _)⟩
 ·split at e
  ·rename_i xs' i r' hi;cases e;obtain⟨x,rfl,nx⟩:=iP n;obtain⟨a,ys,rfl,sq,dl⟩:=nx.lst R.sub;obtain rfl:=yD dl hi;refine aMl hc aB s σ H _ us Q I r ⟨a,i::r',rfl,sq,by simp,λ M h1 h2=>?_⟩
   have f:=aHO r' i;have:M=r'.foldl min i:=Int.le_antisymm (h2 _ f.1) (f.2 _ h1);rw[this];exact q.here R (.int _)
  ·cases e
 ·cases e
theorem aS0:dF X (.type "int") (mB X pZ):=λ aB s σ H xs us Q I r aV=>by
 obtain⟨F,L,S,ds,z,R,n,e,q⟩:=aV;unfold pZ at e
 split at e
 ·cases e;obtain⟨x,rfl,nx⟩:=iP n;exact aFt aB s σ H _ us Q I r (.inl ⟨_,by rw[nx.int],q.here R (.int _)⟩)
 ·cases e;obtain⟨x,rfl,nx⟩:=iP n;exact aFt aB s σ H _ us Q I r (.inr ⟨_,by rw[nx.bl],q.here R (.int _)⟩)
 ·cases e
theorem aUz:dF X (.builtin "abs") (mB X aDA):=λ aB s σ H xs us Q I r aV=>by
 obtain⟨F,L,S,ds,z,R,n,e,q⟩:=aV;unfold aDA at e
 split at e
 ·cases e;obtain⟨x,rfl,nx⟩:=iP n;exact aM8 aB s σ H _ us Q I r ⟨_,by rw[nx.int],q.here R (.int _)⟩
 ·cases e
theorem aPr:dF X (.type "tuple") (mB X vB):=λ aB s σ H xs us Q I r aV=>by
 obtain⟨F,L,S,ds,z,R,n,e,q⟩:=aV;unfold vB at e
 split at e
 ·cases e;obtain⟨x,rfl,nx⟩:=iP n;obtain⟨a,ys,rfl,sq,dl⟩:=nx.lst R.sub;exact aEt aB s σ H _ us Q I r ⟨a,ys,rfl,.inl ⟨sq,λ l hl=>q.tup R hl dl⟩⟩
 ·cases e;obtain⟨x,rfl,nx⟩:=iP n;have nx':=nx;obtain⟨a,ys,rfl,sq,dl⟩:=nx.tup R.sub;refine aEt aB s σ H _ us Q I r ⟨a,ys,rfl,.inr ⟨sq,q.here R ?_⟩⟩;rcases nx' with nx | ⟨_,_,_,e,_⟩
  ·exact nx
  ·cases e
 ·cases e
theorem aBJ{prog:qo}{w:zw}{A:zy}(hh:A.handled=qz)(I ax:qv)(hne:ax≠I)(aQ:Array qx) :
 WalksS prog w A I [I,ax] [I] (λ a b=>b=a) aQ.size (λ i v=>aQ[i]? = qq v) (λ i s=>s.heap.IsListIter I ax i/\s.heap.IsList ax aQ) where
 sub:=λ b hb=>by simp at hb;simp[hb]
 grefl:=λ _=>rfl
 gtrans:=λ _ _ _ h1 h2=>h2.trans h1
 frame:=λ _ _ _ _ st _ hk=>⟨st.1.at λ o e=>hk I (by simp) o e,st.2.at λ o e=>hk ax (by simp) o e⟩
 item:=λ i s Q E hi st hQ=>by
  refine wz st.1 st.2 (x:=aQ[i]) (by simp[hi]) λ h' hit' hs'=>?_
  exact hQ _ _ (by simp[hi]) ⟨hit',st.2.extBut hs'.extBut hne⟩ ⟨λ b o hb e=>hs'.extBut b o (λ h=>hb (by simp[h])) e,rfl,rfl,rfl,yAc _⟩
 done:=λ s Q E st hQ=>wj hh st.1 st.2 (by simp) λ h' he'=>hQ _ ⟨λ b o hb e=>he' b o (λ h=>hb (by simp[h])) e,rfl,rfl,rfl,yAc _⟩
 self:=λ _ _ _ _ st hQ=>wpAny_pyIter_listiter st.1 hQ
theorem aES:∀ (ns:List Int) (k:Nat),k<=ns.length->preSum (λ i=>ns.getD i 0) k=(ns.take k).sum
 | _,0,_=>by simp[preSum]
 | ns,k+1,h=>by
   rw[preSum,aES ns k (by omega),yFi (by omega),List.sum_append]
   have:ns.getD k 0=ns[k]:=by simp[yGr,yAa (show k<ns.length by omega)]
   rw[this];simp
theorem aBN{K:FrG}{F:Hp}:∀ {ds:List D}{xs:List V}{ns:List Bool},DenL K F ds xs->rE ds=qq ns->xs=ns.map V.bl
 | _,_,_,.nil,e=>by cases e;rfl
 | .bool i::r,_,_,.cons h t,e=>by
   obtain⟨l,e1,e2⟩:=bind_some e;cases e2;cases h;rw[yBa,aBN t e1]
 | .none::_,_,_,.cons _ _,e=>by cases e
 | .int _::_,_,_,.cons _ _,e=>by cases e
 | .str _::_,_,_,.cons _ _,e=>by cases e
 | .list _::_,_,_,.cons _ _,e=>by cases e
 | .tuple _::_,_,_,.cons _ _,e=>by cases e
 | .dict _::_,_,_,.cons _ _,e=>by cases e
theorem aLF{ns:List Int}{us:List qx}(r:aU (ns.map V.int) us){i:Nat}{v:qx}(e:us[i]? = qq v):∃ t,v=.int (ns.getD i 0) t:=by
 have hl:=r.length;rw[yAb] at hl;have hi:i<ns.length:=by rw[hl];exact(gIm e).1
 obtain⟨u,e1,ru⟩:=aU.get r (i:=i) (x:=.int ns[i]) (by rw[xAb,yAa hi];rfl)
 rw[e] at e1;cases e1;obtain⟨t,rfl⟩:=ru;exact⟨t,by simp[yGr,yAa hi]⟩
theorem aEx{ns:List Bool}{us:List qx}(r:aU (ns.map V.bl) us){i:Nat}{v:qx}(e:us[i]? = qq v):v=.bool (ns.getD i false):=by
 have hl:=r.length;rw[yAb] at hl;have hi:i<ns.length:=by rw[hl];exact(gIm e).1
 obtain⟨u,e1,ru⟩:=aU.get r (i:=i) (x:=.bl ns[i]) (by rw[xAb,yAa hi];rfl)
 rw[e] at e1;cases e1;obtain rfl:=ru;simp[yGr,yAa hi]
theorem aUx(hc:X.calm=true):dF X (.builtin "sum") (mB X aDk):=λ aB s σ H xs us Q I r aV=>by
 obtain⟨F,L,S,ds,z,R,n,e,q⟩:=aV;unfold aDk at e
 split at e
 ·obtain⟨ns,e1,e2⟩:=bind_some e;cases e2;obtain⟨x,rfl,nx⟩:=iP n;obtain⟨a,ys,rfl,sq,dl⟩:=nx.lst R.sub;obtain rfl:=yD dl e1;obtain⟨u,rfl,ru⟩:=iZ r;cases ru;obtain⟨aF,rv,pl,hz⟩:=I.list sq;have hh:X.A.in1.handled=qz:=I.ok.hd hc;refine call_sum_walkAnyS (jy pl.isList ?_);have hne:a≠s.heap.objs.size:=by
   obtain⟨o,ho,_⟩:=pl.isList;exact xAk (xAa ho)
  have hl:=rv.length;rw[yAb] at hl;refine⟨_,_,_,_,_,_,_,λ i=>ns.getD i 0,rfl,aBJ hh s.heap.objs.size a hne aF.toArray,⟨⟨_,xAe _ rfl,rfl,rfl⟩,?_⟩,λ b hb=>?_,λ i v e=>aLF rv (by simpa using e),λ s' t' mv=>?_⟩
  ·obtain⟨o,ho,r'⟩:=pl.isList;exact⟨o,hpS _ ho,r'⟩
  ·obtain⟨o,ho,_⟩:=pl.isList;have h1:=xAa ho;simp only[yCt,yCo,or_false] at hb;rw[yBc];rcases hb with rfl | rfl
   ·exact yEp _
   ·exact yEk h1
  ·obtain⟨h',g',d',t2,o'⟩:=s';obtain⟨mh,mg,md,mo,mt⟩:=mv;dsimp only at mh mg md mo;subst mg md mo;have I':Inv X aB σ H {s with heap:=h',toks:=t2 }:=I.kept λ b o e=>mh b o (λ z=>by
    have:b=s.heap.objs.size:=by simpa using z
    exact yBz _ (this▸xAa e)) (hpS _ e)
   have e3:preSum (λ i=>ns.getD i 0) aF.toArray.size=ns.sum:=by
    rw[yAe,<- hl,aES ns ns.length (yAc _),yAh]
   rw[e3];exact⟨.int ns.sum,H,I',⟨_,rfl⟩,q.here R (.int _)⟩
 ·cases e
theorem aFb{prog:qo}{w:zw}{A:zy}{b:Bool}{s:qj}{Q:Bool->qj->Prop}{E:qx->qj->Prop}(h:Q b s):qy (model prog w) A (truthy (.bool b)) Q E s:=by
 first
  | exact jw h
  | exact PySem.wpAny_truthy_bool h
  | exact truthy_bool h
theorem aMr(bs:List Bool):(yAo bs.length).all (λ i=>bs.getD i false)=bs.all id:=by
 have h:(yAo bs.length).map (λ i=>bs.getD i false)=bs:=by
  apply List.ext_getElem
  ·simp
  ·intro i h1 h2;simp[yGr,yAa h2]
 have h2:bs.all id=((yAo bs.length).map (λ i=>bs.getD i false)).all id:=by rw[h]
 rw[h2,List.all_map];rfl
theorem aMq(bs:List Bool):(yAo bs.length).any (λ i=>bs.getD i false)=bs.any id:=by
 have h:(yAo bs.length).map (λ i=>bs.getD i false)=bs:=by
  apply List.ext_getElem
  ·simp
  ·intro i h1 h2;simp[yGr,yAa h2]
 have h2:bs.any id=((yAo bs.length).map (λ i=>bs.getD i false)).any id:=by rw[h]
 rw[h2,List.any_map];rfl
theorem aU6(hc:X.calm=true):dF X (.builtin "all") (mB X wN):=λ aB s σ H xs us Q I r aV=>by
 obtain⟨F,L,S,ds,z,R,n,e,q⟩:=aV;unfold wN at e
 split at e
 ·obtain⟨bs,e1,e2⟩:=bind_some e;cases e2;obtain⟨x,rfl,nx⟩:=iP n;obtain⟨a,ys,rfl,sq,dl⟩:=nx.lst R.sub;obtain rfl:=aBN dl e1;obtain⟨u,rfl,ru⟩:=iZ r;cases ru;obtain⟨aF,rv,pl,hz⟩:=I.list sq;have hh:X.A.in1.handled=qz:=I.ok.hd hc;refine call_all_walkS (jy pl.isList ?_);have hne:a≠s.heap.objs.size:=by
   obtain⟨o,ho,_⟩:=pl.isList;exact xAk (xAa ho)
  have hl:=rv.length;rw[yAb] at hl;refine⟨_,_,_,_,_,_,_,λ i=>bs.getD i false,rfl,aBJ hh s.heap.objs.size a hne aF.toArray,⟨⟨_,xAe _ rfl,rfl,rfl⟩,?_⟩,λ i v s' Q' E' e hq=>?_,λ s' mv=>?_⟩
  ·obtain⟨o,ho,r'⟩:=pl.isList;exact⟨o,hpS _ ho,r'⟩
  ·obtain rfl:=aEx rv (i:=i) (by simpa using e)
   exact aFb hq
  ·obtain⟨h',g',d',t2,o'⟩:=s';obtain⟨mh,mg,md,mo,mt⟩:=mv;dsimp only at mh mg md mo;subst mg md mo;have I':Inv X aB σ H {s with heap:=h',toks:=t2 }:=I.kept λ b o e=>mh b o (λ z=>by
    have:b=s.heap.objs.size:=by simpa using z
    exact yBz _ (this▸xAa e)) (hpS _ e)
   rw[yAe,<- hl,aMr];exact⟨.bl (bs.all id),H,I',rfl,q.here R (.bl _)⟩
 ·cases e
theorem aU3(hc:X.calm=true):dF X (.builtin "any") (mB X sI):=λ aB s σ H xs us Q I r aV=>by
 obtain⟨F,L,S,ds,z,R,n,e,q⟩:=aV;unfold sI at e
 split at e
 ·obtain⟨bs,e1,e2⟩:=bind_some e;cases e2;obtain⟨x,rfl,nx⟩:=iP n;obtain⟨a,ys,rfl,sq,dl⟩:=nx.lst R.sub;obtain rfl:=aBN dl e1;obtain⟨u,rfl,ru⟩:=iZ r;cases ru;obtain⟨aF,rv,pl,hz⟩:=I.list sq;have hh:X.A.in1.handled=qz:=I.ok.hd hc;refine call_any_walkS (jy pl.isList ?_);have hne:a≠s.heap.objs.size:=by
   obtain⟨o,ho,_⟩:=pl.isList;exact xAk (xAa ho)
  have hl:=rv.length;rw[yAb] at hl;refine⟨_,_,_,_,_,_,_,λ i=>bs.getD i false,rfl,aBJ hh s.heap.objs.size a hne aF.toArray,⟨⟨_,xAe _ rfl,rfl,rfl⟩,?_⟩,λ i v s' Q' E' e hq=>?_,λ s' mv=>?_⟩
  ·obtain⟨o,ho,r'⟩:=pl.isList;exact⟨o,hpS _ ho,r'⟩
  ·obtain rfl:=aEx rv (i:=i) (by simpa using e)
   exact aFb hq
  ·obtain⟨h',g',d',t2,o'⟩:=s';obtain⟨mh,mg,md,mo,mt⟩:=mv;dsimp only at mh mg md mo;subst mg md mo;have I':Inv X aB σ H {s with heap:=h',toks:=t2 }:=I.kept λ b o e=>mh b o (λ z=>by
    have:b=s.heap.objs.size:=by simpa using z
    exact yBz _ (this▸xAa e)) (hpS _ e)
   rw[yAe,<- hl,aMq];exact⟨.bl (bs.any id),H,I',rfl,q.here R (.bl _)⟩
 ·cases e
noncomputable def tyD:D->Option String
 | .none=>qq "NoneType"
 | .bool _=>qq "bool"
 | .int _=>qq "int"
 | .str _=>qq "str"
 | .list _=>qq "list"
 | .tuple _=>qq "tuple"
 | .dict _=>qz
noncomputable def wH(K:FrG)(n:String)(d:D):Option D:=(tyD d).bind λ t=>(PySem.W.kitOne K (.type t) (.type n)).map yDs
theorem aRf{aB:List (qv×Obj)}{s:qj}{σ:L2.St}{H F:Hp}{L:List qv}{S:aC}{x:V}{v:qx}{d z:D}{n:String}{Q:VK}(I:Inv X aB σ H s)(R:Rel X.K F L S H)(rx:aZ x v)(nx:bO X.K F H d x)(e:wH X.K n d=qq z)(q:fN X F L S z Q) :
 qy (model X.prog X.w) X.A (call (.builtin "isinstance") [v,.type n]) (EP X aB σ Q) X.xe s:=by
 obtain⟨t,e1,e2⟩:=bind_some e;cases ek:PySem.W.kitOne X.K (.type t) (.type n) with
 | none=>rw[ek] at e2;cases e2
 | some b =>
   rw[ek] at e2;cases e2;have bJ:∀ tk,EP X aB σ Q (.bool b) {s with toks:=tk }:=λ tk=>⟨.bl b,H,I.tok _,rfl,q.here R (.bl b)⟩
   cases d with
   | none=>cases e1;obtain rfl:=nx.non;cases (show v=Value.none from rx);exact yEf PySem.W.kitx_none I.kIn True.intro ek (λ z=>nomatch z) bJ
   | bool y=>cases e1;obtain rfl:=nx.bl;cases (show v=Value.bool y from rx);exact yEf PySem.W.kitx_bool I.kIn True.intro ek (λ z=>nomatch z) bJ
   | int i=>cases e1;obtain rfl:=nx.int;obtain⟨t,q⟩:=(show ∃ t,v=Value.int i t from rx);cases q;exact yEf PySem.W.kitx_int I.kIn True.intro ek (λ z=>nomatch z) bJ
   | str y=>cases e1;obtain rfl:=nx.str;obtain⟨t,q⟩:=(show ∃ t,v=Value.str y t from rx);cases q;exact yEf PySem.W.kitx_str I.kIn True.intro ek (λ z=>nomatch z) bJ
   | list l =>
     cases e1;obtain⟨a,xs,rfl,sq,dl⟩:=nx.lst R.sub;cases (show v=Value.ref a from rx)
     obtain⟨aF,rv,pl,_⟩:=I.list sq;obtain⟨o,ho,hc,_⟩:=pl.isList;exact yEf PySem.W.kitx_list I.kIn ⟨o,ho,hc⟩ ek (λ z=>nomatch z) bJ
   | tuple l =>
     cases e1;obtain⟨a,xs,rfl,sq,dl⟩:=nx.tup R.sub;cases (show v=Value.ref a from rx)
     obtain⟨aF,rv,pl,_⟩:=I.tuple sq;obtain⟨o,ho,hc,_⟩:=pl;exact yEf PySem.W.kitx_tuple I.kIn ⟨o,ho,hc⟩ ek (λ z=>nomatch z) bJ
   | dict l=>cases e1
noncomputable def aJU(K:FrG)(n:String)(fa:FE):FE:=f1 fa (fZ (wH K n))
theorem aTB{a:qw}{fa:FE}{n:String}{x:Str}{p p' pos:Pos}(ha:PE X a (aW X.K fa))(hg:Gl X "isinstance")(hm:X.mg "isinstance" = qz)(hv:jq "isinstance" = qq (.builtin "isinstance"))(hg':Gl X x)(hm':X.mg x=qz)(hv':jq x=qq (.type n))(hn:x ≠ "__name__")(hd:(x==("__debug__" : Str))=false)
 (h1:zq [a,.Name x p'] X.env=(false,eval a X.env)::zq [.Name x p'] X.env):PE X (.Call (.Name "isinstance" p) [a,.Name x p'] [] pos) (aW X.K (aJU X.K n fa)):=by
 have pt:PE X (.Name x p') (tC (.ty n)):=aPE hg' hm' hv' rfl hn hd;have rule:dF X (.builtin "isinstance") (λ xs H Q=>∃ F L S y d z,xs=[y,.ty n]/\Rel X.K F L S H/\bO X.K F H d y/\wH X.K n d=qq z/\fN X F L S z Q):=λ aB s σ H xs us Q I r aV=>by
  obtain⟨F,L,S,y,d,z,e,R,ny,e2,q⟩:=aV;subst e;obtain⟨u,u2,rfl,r1,r2⟩:=aAR r;cases (show u2=Value.type n from r2)
  exact aRf I R r1 ny e2 q
 refine PE.weak (nP rule hg hm hv (aCy ha (aCy pt aIp) h1) (by decide) (by decide) h1 rfl) λ σ H Q hPq38=>?_
 obtain⟨F,L,S,env,w,S',R,E,e,q⟩:=hPq38;obtain⟨⟨w1,S1⟩,e1,e2⟩:=bind_some e;obtain⟨d,z,e3,e4,rfl,rfl⟩:=uJ e2;exact⟨F,L,S,env,w1,_,R,E,e1,λ F1 L1 H1 v g1 R1 d1=>⟨F1,L1,_,v,d,z,rfl,R1,jT R1 d1 e3,e4,zI X rfl λ F2 L2 H2 v2 g2 R2 d2=>q F2 L2 H2 v2 (g1.trans g2) R2 d2⟩⟩
noncomputable def aJv:D->Option D
 | .int i=>qq (.int ((yAk i:Nat):Int))
 | _=>qz
noncomputable def aDd(fa:FE):FE:=f1 fa (fZ aJv)
theorem aOp:qH X "int.bit_length" (λ x xs H Q=>∃ i,x=.int i/\xs=[]/\Q (.int ((yAk i:Nat):Int)) H):=λ aB s σ H x xs v us Q I rx rs aV=>by
 obtain⟨i,e1,e2,q⟩:=aV;subst e1 e2;obtain⟨t,rfl⟩:=rx;cases rs;exact call_gives yGa (yv s i t) PySem.F.entry_int_bit_length (PySem.F.args_int_bit_length_1 _) (PySem.AutoIntG2.int_bit_length_int_0 i t) (show EP X aB σ Q _ _ from ⟨.int _,H,I.tok _,⟨_,rfl⟩,q⟩)
end
section
variable {X : Cx}{aB : List (qv×Obj)}{σ : L2.St}{H : Hp}{s : qj}{h' : Heap}
theorem aE1{ch:List qv}{p:qv}{o:HO}{t':Nat}(I:Inv X aB σ H s)(hch:∀ b∈ch,gJ X aB H b)(k:∀ b u,b ∉ ch->s.heap.get? b=qq u->h'.get? b=qq u)(hp:s.heap.objs.size<=p)
 (new:hJ X.prog X.w (bE H p o) h' p o):Inv X aB σ (bE H p o) {s with heap:=h',toks:=t' }:=by
 have hn:=I.hok.fresh hp;have nch:∀ b u,H b=qq u->b ∉ ch:=λ b u e z=>by rw[(hch b z).1] at e;cases e
 have nep:∀ b u,s.heap.get? b=qq u->b≠p:=λ b u e z=>absurd (xAc (xAa e) hp) (by rw[z];exact yBz _)
 refine I.step (g':=s.gens) (d':=s.drawn) (ch:=ch) (λ b hb=>⟨(hch b hb).2.2.2.1,(hch b hb).2.1,(hch b hb).2.2.2.2.1,(hch b hb).2.2.2.2.2⟩) (λ b o _ _ hc e _=>k b o hc e) (λ b o _ _ hc e _=>⟨o.slots,k b o hc e⟩) (λ b o _ e n=>by rw[bN (nep b o e)];exact n)
  (λ b o hc e=>⟨o,k b o hc e⟩) (λ b xs e=>by rw[bN (eB e hn)];exact e) (λ b u v e=>by rw[bN (eB e hn)];exact e) (λ b ps e=>⟨#[],by rw[bN (eB e hn),e];simp⟩) (λ m hm=>?_) (λ b u e=>?_) I.bare
 ·obtain⟨o,es,ep,ho,r⟩:=hm;exact⟨o,es,ep,k _ o (λ z=>(hch _ z).2.1 rfl) ho,r⟩
 ·by_cases hb:b=p
  ·subst hb;rw[dE] at e;cases e;exact new
  ·rw[bN hb] at e;refine(I.hok b u e).stay (λ c v hc q=>k c v ?_ q) (λ c q=>by rw[bN (eB q hn)];exact q) λ c xs q=>by rw[bN (eB q hn)];exact q
   rcases hc with z | z
   ·rw[z];exact nch b u e
   ·exact nch c _ z
end
section
variable {X : Cx}
noncomputable def aSF(k:Int):List D->List D
 | []=>[]
 | d::r=>.tuple [.int k,d]::aSF (k+1) r
end
section
variable {prog : qo}{w : zw}{A : zy}{E : qx -> qj -> Prop}{s : qj}
theorem aKZ{it t:qv}{i:Nat}{aQ:Array qx}{x:qx}{Q:qx->qj->Prop}(hit:s.heap.IsTupleIter it t i)(ht:s.heap.IsTuple t aQ)(hx:aQ[i]? = qq x)
 (hQ:∀ h',h'.IsTupleIter it t (i+1)->yEa it s.heap h'->Q x {s with heap:=h' }):qy (model prog w) A (yAi (.ref it)) Q E s:=by
 obtain⟨o,ho,hc,hd⟩:=id hit;obtain⟨ol,hol,_,nl,hdl⟩:=ht;unfold yAi;refine wB (wpAny_callSpecial?_slot (name:=Str.ofString "__next__") hit.typeIs F.slot_tuple_iterator_next (xz F.slot_tuple_iterator_next hit.typeIs F.entry_tuple_iterator_next ?_ (F.args_tuple_iterator_next_1 _)));show qy _ _ (field (.ref it) 0 >>= _) _ _ s;refine wB (qu ho hd (x:=.ref t) rfl ?_);show qy _ _ (if (Value.ref t==Value.none)=true then _ else _) _ _ s
 rw[if_neg (show ¬ ((Value.ref t==Value.none)=true) from yAw)]
 show qy _ _ (field (.ref it) 1 >>= _) _ _ s;refine wB (qu ho hd (x:=.int i 0) rfl ?_);show qy _ _ (seqItems? (.ref t) >>= _) _ _ s;refine wB (zx hol hdl ?_);simp only[yAr,hx];refine wB (wpAny_setField ho hd (by simp) (wP ⟨x,rfl,wP (hQ _ ⟨_,yCk _ ho (Obj.isFreed_of_fields (Obj.data_mapFields hd _)),(Obj.cls_mapFields ..).trans hc,?_⟩ (Heap.SameBut.update ..))⟩))
 rw[Obj.data_mapFields hd];simp[yj]
theorem aK8{it t:qv}{i:Nat}{aQ:Array qx}{Q:qx->qj->Prop}(hh:A.handled=qz)(hit:s.heap.IsTupleIter it t i)(ht:s.heap.IsTuple t aQ)(hx:aQ[i]? = qz)
 (hE:∀ h' e,Heap.ExtBut it s.heap h'->(∃ o,h'.get? e=qq o/\o.cls=.type "StopIteration")->E (.ref e) {s with heap:=h' }):qy (model prog w) A (yAi (.ref it)) Q E s:=by
 obtain⟨o,ho,hc,hd⟩:=id hit;obtain⟨ol,hol,_,nl,hdl⟩:=ht;unfold yAi;refine wB (wpAny_callSpecial?_slot (name:=Str.ofString "__next__") hit.typeIs F.slot_tuple_iterator_next (xz F.slot_tuple_iterator_next hit.typeIs F.entry_tuple_iterator_next ?_ (F.args_tuple_iterator_next_1 _)));show qy _ _ (field (.ref it) 0 >>= _) _ _ s;refine wB (qu ho hd (x:=.ref t) rfl ?_);show qy _ _ (if (Value.ref t==Value.none)=true then _ else _) _ _ s
 rw[if_neg (show ¬ ((Value.ref t==Value.none)=true) from yAw)]
 show qy _ _ (field (.ref it) 1 >>= _) _ _ s;refine wB (qu ho hd (x:=.int i 0) rfl ?_);show qy _ _ (seqItems? (.ref t) >>= _) _ _ s;refine wB (zx hol hdl ?_);simp only[yAr,hx];refine wB (vj (wB (wpAny_setField ho hd (by simp) ?_)))
 show qy _ _ (newExc (.type "StopIteration") [] >>= _) _ _ _;refine wB ?_;simp only[newExc,newTuple];refine wB (xk (wB (m:=firstArgMember _ _) (wpAny_of_eq (a:=Value.none) (by first | rfl | (simp only[firstArgMember];rfl)) (xk ?_ (by size_fits)))) (by size_fits))
 simp only[raiseNew];refine wB (wpAny_handled ?_)
 first | rw[show A.in1.handled=qz from hh] | rw[hh]
 exact wB (wP (wpAny_throw (hE _ _ (((Heap.SameBut.update ..).extBut.push _).push _) ⟨_,xAe _ rfl,rfl⟩)))
theorem aMv(hh:A.handled=qz)(it t:qv)(hne:t≠it)(aQ:Array qx):Draws prog w A it [it,t] aQ.size (λ i v=>aQ[i]? = qq v) (λ i h=>h.IsTupleIter it t i/\h.IsTuple t aQ) where
 live:=λ _ _ st=>let ⟨o,ho,_⟩:=st.1;⟨o,ho⟩
 frame:=λ _ _ _ st hk=>⟨st.1.at λ o e=>hk it (by simp) o e,let ⟨u,hu,r⟩:=st.2;⟨u,hk t (by simp) u hu,r⟩⟩
 item:=λ i s Q E hi st hQ=>aKZ st.1 st.2 (x:=aQ[i]) (by simp[hi]) λ h' hit' hs'=>hQ _ h' s.toks (by simp[hi]) ⟨hit',let ⟨u,hu,r⟩:=st.2;⟨u,hs'.extBut t u hne hu,r⟩⟩ hs'
 done:=λ s Q E st hE=>aK8 hh st.1 st.2 (by simp) hE
end
section
variable {X : Cx}
end
inductive Tv where
 | int (i:Int) | str (x:Str) | bool (b:Bool)
 deriving DecidableEq
noncomputable def Tv.d:Tv->D
 | .int i=>.int i | .str x=>.str x | .bool b=>.bool b
noncomputable def Tv.v:Tv->V
 | .int i=>.int i | .str x=>.str x | .bool b=>.bl b
theorem Tv.den{K:FrG}{F:Hp}(t:Tv):Den K F t.d t.v:=by
 cases t
 ·exact .int _
 ·exact .str _
 ·exact .bl _
noncomputable def sA(w:zw):List DictEntry->List (Str×Tv)->Prop
 | [],[]=>True
 | e::r,(x,v)::aX=>e.hash=hashStr w x/\(∃ t,e.key=.str x t)/\aZ v.v e.val/\sA w r aX
 | _,_=>False
def vQ(K:FrG)(w:zw)(a:qv)(aX:List (Str×Tv)):Prop:=∃ es ep,K.lookup a=qq {cls:=.type "dict",data:=.dict es ep }/\sA w es.toList aX
noncomputable def aBa(aX:List (Str×Tv)):D->Option D
 | .str x=>(aX.lookup x).map Tv.d
 | _=>qz
theorem aGp{P:qo}{w:zw}:∀ {l:List DictEntry}{aX:List (Str×Tv)},sA w l aX->∀ e∈l,∃ k,(nT P w).is k e.key=true/\e.hash=(nT P w).hash k
 | [],[],_,e,h=>by cases h
 | e::r,(x,v)::aX,ok,e',h=>by
   obtain⟨h1,⟨t,h2⟩,_,h4⟩:=ok;rcases List.mem_cons.mp h with rfl | h
   ·exact⟨.inr x,by rw[h2];exact aFq x t,h1⟩
   ·exact aGp h4 e' h
 | [],_::_,ok,_,_=>ok.elim
 | _::_,[],ok,_,_=>ok.elim
theorem aM3(x y:Str)(t:Tok):pV (.inr x) (.str y t)=(x==y):=by
 have h:(y==x)=(x==y):=by
  rw[yFd];constructor<;>intro z<;>simp at z ⊢ <;> exact z.symm
 simp[pV,Value.isStrOf,h]
theorem aGu{w:zw}{k:Str}{v:Tv}:∀ {l:List DictEntry}{aX:List (Str×Tv)},sA w l aX->aX.lookup k=qq v->∃ u,(l.find? λ e=>pV (.inr k) e.key).map (·.val)=qq u/\aZ v.v u
 | [],[],_,h=>by cases h
 | e::r,(x,v')::aX,ok,h=>by
   obtain⟨h1,⟨t,h2⟩,h3,h4⟩:=ok;rw[yBy] at h;rw[List.find?_cons,h2,aM3];cases q:k==x with
   | true =>
     rw[q] at h;cases h;exact⟨e.val,rfl,h3⟩
   | false =>
     rw[q] at h;exact aGu h4 h
 | [],_::_,ok,_=>ok.elim
 | _::_,[],ok,_=>ok.elim
section
variable {X : Cx}
theorem aQ1{aX:List (Str×Tv)}:lW X (λ x y H Q=>∃ a k v,x=.ref a/\vQ X.K X.w a aX/\y=.str k/\aX.lookup k=qq v/\Q v.v H):=by
 intro value iV aB s σ H x y v u Q I rx ry h hs;obtain⟨a,k,tv,rfl,⟨es,ep,hl,ok⟩,rfl,hv,q⟩:=h;cases rx;obtain⟨t,rfl⟩:=ry;obtain⟨z,e1,e2⟩:=aGu ok hv;have hm:s.heap.MapOf (nT X.prog X.w) a (λ k=>findBy (nT X.prog X.w).is es k):=⟨_,es,ep,I.kIn a _ hl,⟨rfl,rfl,rfl⟩,rfl,λ e he=>aGp ok e (by simpa using he),λ _=>rfl⟩
 have hz:findBy (nT X.prog X.w).is es (.inr k)=qq z:=by
  unfold findBy;rw[<- Array.find?_toList];exact e1
 exact tail_any hm.typeIs PySem.F.slot_dict_getitem.lookup (wpAny_getItem_of (aFq k t) hm hz ⟨_,H,I.tok _,e2,q⟩) hs
theorem aUC{x:Str}{k:qw}{fk:FE}{p pos:Pos}{aX:List (Str×Tv)}(hg:Gl X x)(hd:(x==("__debug__" : Str))=false)(ht:∃ a,X.mg x=qq (.ref a)/\vQ X.K X.w a aX)(hk:PE X k (aW X.K fk))(hs:zR k) :
 PE X (.Subscript (.Name x p) k pos) (aW X.K (f1 fk (fZ (aBa aX)))):=by
 obtain⟨a,hm,ta⟩:=ht;refine PE.weak (aJa (aQ1 (aX:=aX)) (aHh (v:=.ref a) hg hm rfl hd) hk hs) λ σ H Q hPq39=>?_
 obtain⟨F,L,S,env,w,S',R,E,e,q⟩:=hPq39;obtain⟨⟨w1,S1⟩,e1,e2⟩:=bind_some e;obtain⟨d,z,e3,e4,rfl,rfl⟩:=uJ e2;cases d with
 | str y =>
   obtain⟨v,hv,rfl⟩:=Option.map_eq_some_iff.mp (show(aX.lookup y).map Tv.d=qq z from e4)
   refine⟨F,L,S,env,w1,_,R,E,e1,λ F1 L1 H1 u g1 R1 d1=>⟨a,y,v,rfl,ta,(jT R1 d1 e3).str,hv,?_⟩⟩
   exact q F1 L1 H1 v.v g1 R1 (show Den X.K F1 v.d v.v from v.den)
 | _=>cases e4
end
section
variable {prog : qo}{w : zw}{A : zy}{s : qj}{R : Result -> qj -> Prop}{J : qv}{fp wr : List qv}{Gg : Array GenState -> Array GenState -> Prop}{m : Nat}{P : Nat -> qx -> Prop}{St : Nat -> qj -> Prop}
end
section
variable {prog : qo}{w : zw}{A : zy}{E : qx -> qj -> Prop}{s : qj}{J : qv}{fp wr : List qv}{Gg : Array GenState -> Array GenState -> Prop}{m : Nat}{P : Nat -> qx -> Prop}{St : Nat -> qj -> Prop}
end
section
variable {X : Cx}
end
noncomputable def aAA:List qx->List Tv->Prop
 | [],[]=>True
 | u::us,t::ts=>aZ t.v u/\aAA us ts
 | _,_=>False
theorem aGa:∀ {us:List qx}{ts:List Tv},aAA us ts->aU (ts.map Tv.v) us
 | [],[],_=>.nil
 | _::_,_::_,⟨h1,h2⟩=>.cons h1 (aGa h2)
 | [],_::_,h=>h.elim
 | _::_,[],h=>h.elim
theorem aHb{K:FrG}{F:Hp}:∀ ts:List Tv,DenL K F (ts.map Tv.d) (ts.map Tv.v)
 | []=>.nil
 | t::ts=>.cons t.den (aHb ts)
def rX(K:FrG)(a:qv)(ts:List Tv):Prop:=∃ (o:Obj) (aF:Array qx) (n:Nat),K.lookup a=qq o/\o.cls=.type "tuple" /\ o.data=.seq aF n/\aF.size<=qk/\aAA aF.toList ts
theorem aPS{K:FrG}{F:Hp}{a:qv}{ts:List Tv}(h:rX K a ts):Den K F (.tuple (ts.map Tv.d)) (.ref a):=by
 obtain⟨o,aF,n,h1,h2,h3,h4,h5⟩:=h;exact .tup (.inr ⟨o,aF,n,h1,h2,h3,h4,aGa h5⟩) (aHb ts)
section
variable {X : Cx}
theorem aTi{x:Str}{p:Pos}{ts:List Tv}(hg:Gl X x)(hd:(x==("__debug__" : Str))=false)(ht:∃ a,X.mg x=qq (.ref a)/\rX X.K a ts):PE X (.Name x p) (aW X.K (fC (.tuple (ts.map Tv.d)))):=by
 obtain⟨a,hm,ca⟩:=ht;refine PE.weak (aHh (v:=.ref a) hg hm rfl hd) λ σ H Q hPq40=>?_
 obtain⟨F,L,S,env,w,S',R,E,e,q⟩:=hPq40;cases e;exact q F L H _ Gr.refl R (aPS ca)
noncomputable def aRe(op op':vv)(fa fb fc:FE):FE:=λ env S=>(fa env S).bind λ p=>(fb env p.2).bind λ q=>(gN (aJ op) q.2 p.1 q.1).bind λ r=>match r.1 with
 | .d (.bool true)=>(fc env r.2).bind λ t=>gN (aJ op') t.2 q.1 t.1
 | .d (.bool false)=>qq (.d (.bool false),r.2)
 | _=>qz
theorem aKT{prog:qo}{w:zw}{A:zy}{E:qx->qj->Prop}{s:qj}{t sl:qv}{aQ:Array qx}{vl vu:qx}{lo hi:Option Int}{Q:qx->qj->Prop}(ht:IsTup s.heap t aQ)(hs:s.heap.IsSliceOf sl vl vu .none)(pl:IsPart vl lo)(pu:IsPart vu hi)
 (hw:HT.sIx aQ.size 0 lo=0/\HT.sIx aQ.size aQ.size hi=aQ.size) (h:Q (.ref t) s):qy (model prog w) A (getItem (.ref t) (.ref sl)) Q E s:=by
 obtain⟨os,hos,hcs,hds⟩:=id hs;have hTs:s.TypeIs (.ref sl) "slice":=⟨os,hos,hcs⟩;unfold getItem
 try with_reducible refine zu ?_
 first | refine wB (wP ?_) | skip
 refine wB (wpAny_sequenceKey ht.typeIs (by decide) ?_)
 refine wB (wpAny_callSpecial?_slot (name:=Str.ofString "__getitem__") ht.typeIs yCe
  (xz yCe ht.typeIs entry_tuple_getitem ?_ (args_tuple_getitem _ _)))
 show qy _ _ (yGe (.ref t) >>= _) _ _ s;refine wB (tupleItemsOf_ ht ?_);refine wB (wpAny_typeOf hTs ?_);rw[if_pos (by decide)]
 refine wB (HT.sliceApplied_gen hs pl pu ?_);have hyes:(((HT.sIx aQ.size 0 lo:Nat):Int)==0&&(1:Int)==1&&(HT.sIx aQ.size aQ.size hi-HT.sIx aQ.size 0 lo)==aQ.size)=true:=by
  rw[hw.1,hw.2];simp
 show qy _ _ (if (((HT.sIx aQ.size 0 lo:Nat):Int)==0&&(1:Int)==1&&(HT.sIx aQ.size aQ.size hi-HT.sIx aQ.size 0 lo)==aQ.size)=true then _ else _) _ _ s
 rw[if_pos hyes];unfold Builtin.Tuple.tupleIsExact;refine wB (wB (wpAny_typeOf ht.typeIs (wP ?_)));rw[if_pos (by decide)]
 first
  | exact wB (vj (wP ⟨_,rfl,wP h⟩))
  | exact wB (vj (wB (wP (wP ⟨_,rfl,wP h⟩))))
  | exact wB (vj (wP ⟨_,rfl,h⟩))
noncomputable def aUb(K:FrG):V->Option Int->Option Int->Hp->VK->Prop:=λ x lo hi H Q=>∃ a xs,x=.ref a/\cD K H a xs /\
 (((HT.sIx xs.length 0 lo=0/\HT.sIx xs.length xs.length hi=xs.length)/\Q (.ref a) H)\/(¬ (HT.sIx xs.length 0 lo=0/\HT.sIx xs.length xs.length hi=xs.length)/\∀ p,H p=qz->Q (.ref p) (bE H p (.tup (mU xs lo hi)))))
theorem aO3:oW X (aUb X.K):=by
 intro aB s σ H x v vl vu lo hi sl Q I rx hs pl pu h;obtain⟨a,xs,rfl,hx,⟨hw,q⟩ | ⟨hw,q⟩⟩:=h
 ·cases rx;obtain⟨aF,r,ht,hz⟩:=I.tuple hx;have cF:aF.toArray.size=xs.length:=by rw[yAe];exact r.length.symm
  refine⟨"tuple",_,PyProof.Rows.slot_tuple_getitem.lookup,ht.typeIs,?_⟩;exact aKT ht hs pl pu (by rw[cF];exact hw) ⟨.ref a,H,I,rfl,q⟩
 ·exact aQa aB s σ H _ v vl vu lo hi sl Q I rx hs pl pu ⟨a,xs,rfl,hx,hw,q⟩
noncomputable def aJY:D->Option Int->Option Int->Option D
 | .tuple xs,lo,hi=>qq (.tuple (eS xs lo hi))
 | _,_,_=>qz
noncomputable def aJb(fa:FE)(fl fh:FO):FE:=λ env S=>(fa env S).bind λ p=>(fl env p.2).bind λ q=>(fh env q.2).bind λ r=>(dr r.2 p.1).bind λ d=>(aJY d q.1 r.1).bind λ z=>qq (.d z,r.2)
theorem aQd{a:qw}{lo hi:Option qw}{p2 pos:Pos}{fa:FE}{fl fh:FO}(ha:PE X a (aW X.K fa))(hl:PO X lo (lS X.K fl))(hh:PO X hi (lS X.K fh)):PE X (.Subscript a (.Slice lo hi qz p2) pos) (aW X.K (aJb fa fl fh)):=
 PE.weak (aGw aO3 ha hl hh) λ σ H Q aV=>by
  obtain⟨F,L,S,env,ds,S',R,E,e,q⟩:=aV;obtain⟨⟨w,S1⟩,e1,e⟩:=bind_some e;obtain⟨⟨l,S2⟩,e2,e⟩:=bind_some e;obtain⟨⟨h,S3⟩,e3,e⟩:=bind_some e;obtain⟨d,e4,e⟩:=bind_some e;obtain⟨z,e5,e⟩:=bind_some e;cases e;refine⟨F,L,S,env,w,S1,R,E,e1,λ F1 L1 H1 v g1 R1 d1=>⟨F1,L1,S1,env,l,S2,R1,E.mono g1,e2,λ F2 L2 H2 g2 R2=>⟨F2,L2,S2,env,h,S3,R2,E.mono (g1.trans g2),e3,λ F3 L3 H3 g3 R3=>?_⟩⟩⟩
  have n:=jT R3 (d1.mono (g2.trans g3)) e4;cases d with
  | tuple xs =>
    cases e5;obtain⟨a,vs,rfl,sq,dl⟩:=n.tup R3.sub;refine⟨a,vs,rfl,sq,?_⟩
    by_cases hw:HT.sIx vs.length 0 l=0/\HT.sIx vs.length vs.length h=vs.length
    ·refine .inl ⟨hw,q F3 L3 H3 _ ((g1.trans g2).trans g3) R3 ?_⟩;have ec:eS xs l h=xs:=by
      unfold eS;rw[dl.length,hw.1,hw.2,yEo,yGi,<- dl.length,yAh]
     rw[ec];rcases n with n | ⟨_,_,_,z,_⟩
     ·exact n
     ·cases z
    ·exact .inr ⟨hw,λ p hp=>q _ L3 _ _ (((g1.trans g2).trans g3).trans (Gr.new (R3.sub.free hp))) (R3.new hp) (Den.tup (cD.of dE) ((aHk dl l h).mono (eI (R3.sub.free hp))))⟩
  | _=>cases e5
noncomputable def aT7(X:Cx):R2:=λ x y H Q=>∃ a k xs,x=.ref a/\y=.int k/\bV X.K H a xs /\ -(2^63)<=k/\k<2^63/\xs.length*k.toNat<=qk/\∀ p,H p=qz->Q (.ref p) (bE H p (.lst (yAd k.toNat xs).flatten))
noncomputable def wI(fa fb:FE):FL:=λ env S=>(fa env S).bind λ p=>(fb env p.2).bind λ q=>(dr q.2 p.1).bind λ d=>match d,q.1 with
 | .list xs,.d (.int k)=>if k<2^63 /\ -(2^63)<=k/\xs.length*k.toNat<=qk then qq (wL k.toNat xs,q.2) else qz
 | _,_=>qz
theorem aUA{a b:qw}{pos:Pos}{fa fb:FE}(ha:PE X a (aW X.K fa))(hb:PE X b (aW X.K fb)):PE X (.BinOp a .Mult b pos) (iC X.K (wI fa fb)):=by
 refine PE.weak (aJe (r:=aT7 X) (λ aB s σ H x y v u Q I rx ry ⟨a,k,xs,hx,hy,sq,h1,h2,hz,q⟩=>?_) ha hb) λ σ H Q ⟨F,L,S,env,ds,S',R,E,e,q⟩=>?_
 ·subst hx hy;cases rx;obtain⟨t,rfl⟩:=ry;exact aJ9 I sq h1 h2 hz q
 ·obtain⟨⟨w1,S1⟩,e1,e⟩:=bind_some e;obtain⟨⟨w2,S2⟩,e2,e⟩:=bind_some e;obtain⟨d,e3,e⟩:=bind_some e;dsimp only at e e2 e3;refine⟨F,L,S,env,w1,S1,R,E,e1,λ F1 L1 H1 x g1 R1 d1=>⟨F1,L1,S1,env,w2,S2,R1,E.mono g1,e2,λ F2 L2 H2 y g2 R2 d2=>?_⟩⟩
  cases d with
  | list xs =>
    cases w2 with
    | loc n=>cases e
    | d v =>
      cases v with
      | int kk =>
        dsimp only at e
        split at e
        ·rename_i c;cases e;obtain⟨a,vs,rfl,sq,dl⟩:=(jT R2 (d1.mono g2) e3).lst R2.sub;cases (show Den X.K F2 (.int kk) y from d2)
         exact⟨a,kk,vs,rfl,rfl,sq,c.2.1,c.1,by rw[<- dl.length];exact c.2.2,λ p hp=>q F2 L2 _ p _ (g1.trans g2) (R2.lay hp) (R2.sub.free hp) (R2.notin hp) dE (dl.rep kk.toNat)⟩
        ·cases e
      | _=>cases e
  | _=>cases e
end
structure ZA(z TI TO i1 i2:qv)(cB cC:List qv):Prop where
 TIz:TI≠z
 TOz:TO≠z
 i1z:i1≠z
 i2z:i2≠z
 TITO:TI≠TO
 TIi1:TI≠i1
 TIi2:TI≠i2
 TOi1:TO≠i1
 TOi2:TO≠i2
 f1:∀ b∈cB,b≠z/\b≠TO/\b≠i2
 f2:∀ b∈cC,b≠z/\b≠TO/\b≠i1
section
variable {prog : qo}{w : zw}{A : zy}{E : qx -> qj -> Prop}{s : qj}
theorem aK7{z TI TO i1 i2:qv}{cB cC:List qv}{n1 n2 k:Nat}{P1 P2:Nat->qx->Prop}{bG bF:Nat->Heap->Prop}{a b:qx}{Q:qx->qj->Prop}
 (D1:Draws prog w A i1 cB n1 P1 bG) (D2:Draws prog w A i2 cC n2 P2 bF) (Z:ZA z TI TO i1 i2 cB cC)
 (hz:xo s.heap z TI TO .none) (bZ:xq s.heap TI (.ref i1) (.ref i2)) (cL:xq s.heap TO a b) (s1:bG k s.heap) (s2:bF k s.heap) (k1:k<n1) (k2:k<n2)
 (hQ:∀ x y h' tk,P1 k x->P2 k y->xo h' z TI TO (yj s.heap.objs.size)->xq h' TO x y->xq h' TI (.ref i1) (.ref i2)->bG (k+1) h'->bF (k+1) h'->xq h' s.heap.objs.size x y->h'.objs.size=s.heap.objs.size+1 ->
   (∀ c o,c≠z->c≠TO->c≠i1->c≠i2->s.heap.get? c=qq o->h'.get? c=qq o)->Q (.ref s.heap.objs.size) {s with heap:=h',toks:=tk }) :
 qy (model prog w) A (Builtin.«zip.__next__» ⟨[.ref z],[]⟩) (λ bJ s'=>∃ v,bJ=.done (.ret v)/\Q v s') E s:=by
 show qy _ _ (field (.ref z) 2 >>= _) _ _ _;refine wB (qu hz rfl (x:=.bool false) rfl ?_);show qy _ _ (field (.ref z) 3 >>= _) _ _ _;refine wB (qu hz rfl (x:=.ref TI) rfl ?_);refine wB (zx bZ rfl ?_);show qy _ _ (yAj (.ref z) >>= _) _ _ _;refine wB ?_;unfold yAj;refine wB (qu hz rfl (x:=.none) rfl (wP ?_));simp only[if_true];refine wB (vj ?_);refine wB (qu hz rfl (x:=.ref TO) rfl ?_);refine wB (zv hz (by simp) λ h₁ hz₁ hs₁=>?_)
 replace hz₁:xo h₁ z TI TO .ellipsis:=hz₁
 refine wB ?_;simp only[yFv,yGb,yDn,yDw];have s11:bG k h₁:=D1.frame k _ _ s1 λ c hc o e=>hs₁.extBut _ _ (Z.f1 c hc).1 e
 have s21:bF k h₁:=D2.frame k _ _ s2 λ c hc o e=>hs₁.extBut _ _ (Z.f2 c hc).1 e
 refine wB (wB (jz ?_));show qy _ _ (yAi (.ref i1) >>= _) _ _ _;refine wB (D1.item k _ _ _ k1 s11 λ x h₂ tk₂ px s12 hs₂=>wP ?_)
 have s22:bF k h₂:=D2.frame k _ _ s21 λ c hc o e=>hs₂.extBut _ _ (Z.f2 c hc).2.2 e
 have hTO₂:xq h₂ TO a b:=hs₂.extBut _ _ Z.TOi1 (hs₁.extBut _ _ Z.TOz cL);refine wB (zx hTO₂ rfl ?_);refine wB (wu hTO₂ λ h₃ hTO₃ hs₃=>?_)
 replace hTO₃:xq h₃ TO x b:=hTO₃
 have s13:bG (k+1) h₃:=D1.frame _ _ _ s12 λ c hc o e=>hs₃.extBut _ _ (Z.f1 c hc).2.1 e
 have s23:bF k h₃:=D2.frame k _ _ s22 λ c hc o e=>hs₃.extBut _ _ (Z.f2 c hc).2.1 e
 refine wB (jk (wP ?_));refine wB (wB (jz ?_));show qy _ _ (yAi (.ref i2) >>= _) _ _ _;refine wB (D2.item k _ _ _ k2 s23 λ y h₄ tk₄ py s24 hs₄=>wP ?_)
 have s14:bG (k+1) h₄:=D1.frame _ _ _ s13 λ c hc o e=>hs₄.extBut _ _ (Z.f1 c hc).2.2 e
 have hTO₄:xq h₄ TO x b:=hs₄.extBut _ _ Z.TOi2 hTO₃;refine wB (zx hTO₄ rfl ?_);refine wB (wu hTO₄ λ h₅ hTO₅ hs₅=>?_)
 replace hTO₅:xq h₅ TO x y:=hTO₅
 have s15:bG (k+1) h₅:=D1.frame _ _ _ s14 λ c hc o e=>hs₅.extBut _ _ (Z.f1 c hc).2.1 e
 have s25:bF (k+1) h₅:=D2.frame _ _ _ s24 λ c hc o e=>hs₅.extBut _ _ (Z.f2 c hc).2.1 e
 refine wB (jk (wP (wP ?_)));refine wB (zx hTO₅ rfl ?_);refine wB (wpAny_newTuple ?_);have hsz:h₅.objs.size=s.heap.objs.size:=by rw[hs₅.1,hs₄.1,hs₃.1,hs₂.1,hs₁.1]
 have hz₅:xo h₅ z TI TO .ellipsis:=hs₅.extBut _ _ Z.TOz.symm (hs₄.extBut _ _ Z.i2z.symm (hs₃.extBut _ _ Z.TOz.symm (hs₂.extBut _ _ Z.i1z.symm hz₁)));have hk₅:∀ c o,c≠z->c≠TO->c≠i1->c≠i2->s.heap.get? c=qq o->h₅.get? c=qq o:=λ c o c1 c2 c3 c4 e =>
  hs₅.extBut _ _ c2 (hs₄.extBut _ _ c4 (hs₃.extBut _ _ c2 (hs₂.extBut _ _ c3 (hs₁.extBut _ _ c1 e))))
 have hzlt:z<h₅.objs.size:=xAa hz₅;show qy _ _ (yBw (.ref z) (.ref h₅.objs.size) >>= _) _ _ _;refine wB ?_;unfold yBw;have hz₆:xo (h₅.push {cls:=.type "tuple",data:=.seq #[x,y] }) z TI TO .ellipsis:=hpS _ hz₅;refine wB (zv hz₆ (by simp) λ h₇ hz₇ hs₇=>?_)
 replace hz₇:xo h₇ z TI TO (yj h₅.objs.size):=hz₇
 refine zv hz₇ (by simp) λ h₈ hz₈ hs₈=>?_
 replace hz₈:xo h₈ z TI TO (yj h₅.objs.size):=hz₈
 have up:∀ c o,c≠z->h₅.get? c=qq o->h₈.get? c=qq o:=λ c o c1 e=>hs₈.extBut _ _ c1 (hs₇.extBut _ _ c1 (hpS _ e))
 have hT₈:xq h₈ h₅.objs.size x y:=hs₈.extBut _ _ (yEu hzlt) (hs₇.extBut _ _ (yEu hzlt) (xAe _ rfl));have hz8:h₈.objs.size=h₅.objs.size+1:=by rw[hs₈.1,hs₇.1,yBc]
 rw[hsz] at hz₈ hT₈ hz8;refine wP ⟨_,rfl,?_⟩;show Q (.ref h₅.objs.size) _;rw[hsz];exact hQ x y h₈ _ px py hz₈ (up _ _ Z.TOz hTO₅) (up _ _ Z.TIz (hk₅ _ _ Z.TIz Z.TITO Z.TIi1 Z.TIi2 bZ)) (D1.frame _ _ _ s15 λ c hc o e=>up c o (Z.f1 c hc).1 e) (D2.frame _ _ _ s25 λ c hc o e=>up c o (Z.f2 c hc).1 e) hT₈ hz8 λ c o c1 c2 c3 c4 e=>up c o c1 (hk₅ c o c1 c2 c3 c4 e)
theorem aLg{z TI TO i1 i2:qv}{cB cC:List qv}{n1 n2 k:Nat}{P1 P2:Nat->qx->Prop}{bG bF:Nat->Heap->Prop}{a b:qx}{Q:Fin->qj->Prop}
 (D1:Draws prog w A i1 cB n1 P1 bG) (D2:Draws prog w A i2 cC n2 P2 bF) (Z:ZA z TI TO i1 i2 cB cC)
 (hz:xo s.heap z TI TO .none) (bZ:xq s.heap TI (.ref i1) (.ref i2)) (cL:xq s.heap TO a b) (s1:bG k s.heap) (s2:bF k s.heap) (hend:k=n1\/(k<n1/\k=n2))
 (hE:∀ h' tk e,(∀ c o,c≠z->c≠TO->c≠i1->c≠i2->s.heap.get? c=qq o->h'.get? c=qq o)->(∃ o,h'.get? e=qq o/\o.cls=.type "StopIteration")->E (.ref e) {s with heap:=h',toks:=tk }) :
 qy (model prog w) A (Builtin.«zip.__next__» ⟨[.ref z],[]⟩) Q E s:=by
 show qy _ _ (field (.ref z) 2 >>= _) _ _ _;refine wB (qu hz rfl (x:=.bool false) rfl ?_);show qy _ _ (field (.ref z) 3 >>= _) _ _ _;refine wB (qu hz rfl (x:=.ref TI) rfl ?_);refine wB (zx bZ rfl ?_);show qy _ _ (yAj (.ref z) >>= _) _ _ _;refine wB ?_;unfold yAj;refine wB (qu hz rfl (x:=.none) rfl (wP ?_));simp only[if_true];refine wB (vj ?_);refine wB (qu hz rfl (x:=.ref TO) rfl ?_);refine wB (zv hz (by simp) λ h₁ hz₁ hs₁=>?_)
 replace hz₁:xo h₁ z TI TO .ellipsis:=hz₁
 refine wB ?_;simp only[yFv,yGb,yDn,yDw];have s11:bG k h₁:=D1.frame k _ _ s1 λ c hc o e=>hs₁.extBut _ _ (Z.f1 c hc).1 e
 have s21:bF k h₁:=D2.frame k _ _ s2 λ c hc o e=>hs₁.extBut _ _ (Z.f2 c hc).1 e
 refine wB (wB (jz ?_));show qy _ _ (yAi (.ref i1) >>= _) _ _ _;rcases hend with rfl | ⟨k1,rfl⟩
 ·refine wB (D1.done _ _ _ s11 λ h₂ e hs₂ he=>?_)
  obtain⟨oe,hoe,hce⟩:=he;have hz₂:xo h₂ z TI TO .ellipsis:=hs₂ _ _ Z.i1z.symm hz₁;have hez:e≠z:=λ x=>by subst x;rw[hz₂] at hoe;cases hoe;simp at hce
  exact zv hz₂ (by simp) λ h₃ _ hs₃=>hE h₃ _ e (λ c o c1 _ c3 _ x=>hs₃.extBut _ _ c1 (hs₂ _ _ c3 (hs₁.extBut _ _ c1 x))) ⟨oe,hs₃.extBut _ _ hez hoe,hce⟩
 ·refine wB (D1.item k _ _ _ k1 s11 λ x h₂ tk₂ px s12 hs₂=>wP ?_)
  have s22:bF k h₂:=D2.frame k _ _ s21 λ c hc o e=>hs₂.extBut _ _ (Z.f2 c hc).2.2 e
  have hTO₂:xq h₂ TO a b:=hs₂.extBut _ _ Z.TOi1 (hs₁.extBut _ _ Z.TOz cL);refine wB (zx hTO₂ rfl ?_);refine wB (wu hTO₂ λ h₃ hTO₃ hs₃=>?_)
  have s23:bF k h₃:=D2.frame k _ _ s22 λ c hc o e=>hs₃.extBut _ _ (Z.f2 c hc).2.1 e
  refine wB (jk (wP ?_));refine wB (wB (jz ?_));show qy _ _ (yAi (.ref i2) >>= _) _ _ _;refine wB (D2.done _ _ _ s23 λ h₄ e hs₄ he=>?_)
  obtain⟨oe,hoe,hce⟩:=he;have hz₄:xo h₄ z TI TO .ellipsis:=hs₄ _ _ Z.i2z.symm (hs₃.extBut _ _ Z.TOz.symm (hs₂.extBut _ _ Z.i1z.symm hz₁));have hez:e≠z:=λ x=>by subst x;rw[hz₄] at hoe;cases hoe;simp at hce
  exact zv hz₄ (by simp) λ h₅ _ hs₅=>hE h₅ _ e (λ c o c1 c2 c3 c4 x=>hs₅.extBut _ _ c1 (hs₄ _ _ c4 (hs₃.extBut _ _ c2 (hs₂.extBut _ _ c3 (hs₁.extBut _ _ c1 x))))) ⟨oe,hs₅.extBut _ _ hez hoe,hce⟩
theorem aKU{z TI TO i1 i2:qv}{cB cC:List qv}{n1 n2 k:Nat}{P1 P2:Nat->qx->Prop}{bG bF:Nat->Heap->Prop}{a b:qx}{Q:Option qx->qj->Prop}
 (D1:Draws prog w A.in1 i1 cB n1 P1 bG) (D2:Draws prog w A.in1 i2 cC n2 P2 bF) (Z:ZA z TI TO i1 i2 cB cC)
 (hz:xo s.heap z TI TO .none) (bZ:xq s.heap TI (.ref i1) (.ref i2)) (cL:xq s.heap TO a b) (s1:bG k s.heap) (s2:bF k s.heap) (k1:k<n1) (k2:k<n2)
 (hQ:∀ x y h' tk,P1 k x->P2 k y->xo h' z TI TO (yj s.heap.objs.size)->xq h' TO x y->xq h' TI (.ref i1) (.ref i2)->bG (k+1) h'->bF (k+1) h'->xq h' s.heap.objs.size x y->h'.objs.size=s.heap.objs.size+1 ->
   (∀ c o,c≠z->c≠TO->c≠i1->c≠i2->s.heap.get? c=qq o->h'.get? c=qq o)->Q (qq (.ref s.heap.objs.size)) {s with heap:=h',toks:=tk }) :
 qy (model prog w) A (jo (.ref z)) Q E s:=by
 have hT:s.TypeIs (.ref z) "zip":=⟨_,hz,rfl⟩;unfold jo;exact wB (vw (wpAny_callSpecial?_slot (name:=Str.ofString "__next__") hT F.slot_zip_next
  (xz F.slot_zip_next hT F.entry_zip_next
    (aK7 D1 D2 Z hz bZ cL s1 s2 k1 k2 λ x y h' tk a0 b0 a1 a2 a3 a4 a5 a6 a7 a8=>wP (hQ x y h' tk a0 b0 a1 a2 a3 a4 a5 a6 a7 a8)) (F.args_zip_next_1 _))))
theorem aK1{z TI TO i1 i2:qv}{cB cC:List qv}{n1 n2 k:Nat}{P1 P2:Nat->qx->Prop}{bG bF:Nat->Heap->Prop}{a b:qx}{Q:Option qx->qj->Prop}
 (D1:Draws prog w A.in1 i1 cB n1 P1 bG) (D2:Draws prog w A.in1 i2 cC n2 P2 bF) (Z:ZA z TI TO i1 i2 cB cC)
 (hz:xo s.heap z TI TO .none) (bZ:xq s.heap TI (.ref i1) (.ref i2)) (cL:xq s.heap TO a b) (s1:bG k s.heap) (s2:bF k s.heap) (hend:k=n1\/(k<n1/\k=n2))
 (hQ:∀ h' tk,(∀ c o,c≠z->c≠TO->c≠i1->c≠i2->s.heap.get? c=qq o->h'.get? c=qq o)->Q qz {s with heap:=h',toks:=tk }):qy (model prog w) A (jo (.ref z)) Q E s:=by
 have hT:s.TypeIs (.ref z) "zip":=⟨_,hz,rfl⟩;unfold jo;refine wB (vw (wpAny_callSpecial?_slot (name:=Str.ofString "__next__") hT F.slot_zip_next
  (xz F.slot_zip_next hT F.entry_zip_next (aLg D1 D2 Z hz bZ cL s1 s2 hend λ h' tk e hk he=>?_) (F.args_zip_next_1 _))))
 obtain⟨o,ho,hc⟩:=he;refine wB (yu (T:="StopIteration") (b:=true) ⟨o,ho,hc⟩ kj ?_);exact wP (hQ _ _ hk)
end
noncomputable def rM(t:Bool):String:=if t then "tuple_iterator" else "list_iterator"
def dC(t:Bool)(h:Heap)(a:qv)(aF:Array qx):Prop:=match t with
 | true=>h.IsTuple a aF
 | false=>h.IsList a aF
def dS(t:Bool)(h:Heap)(it a:qv)(i:Nat):Prop:=match t with
 | true=>h.IsTupleIter it a i
 | false=>h.IsListIter it a i
def Sq(t:Bool)(K:FrG)(H:Hp)(a:qv)(xs:List V):Prop:=match t with
 | true=>cD K H a xs
 | false=>bV K H a xs
theorem dS.at{t:Bool}{h h':Heap}{it a:qv}{i:Nat}(x:dS t h it a i)(q:∀ o,h.get? it=qq o->h'.get? it=qq o):dS t h' it a i:=by
 cases t with
 | true=>exact Heap.IsTupleIter.at (h:=h) x q
 | false=>exact Heap.IsListIter.at (h:=h) x q
theorem dS.obj{t:Bool}{h:Heap}{it a:qv}{i:Nat}(x:dS t h it a i):∃ o,h.get? it=qq o/\∀ v,o.data≠.cell v:=by
 cases t with
 | true=>obtain⟨o,ho,hc,hd⟩:=x;exact⟨o,ho,λ v z=>by rw[hd] at z;cases z⟩
 | false=>obtain⟨o,ho,hc,hd⟩:=x;exact⟨o,ho,λ v z=>by rw[hd] at z;cases z⟩
theorem dC.lt{t:Bool}{h:Heap}{a:qv}{aF:Array qx}(x:dC t h a aF):a<h.objs.size:=by
 cases t with
 | true=>obtain⟨o,ho,_⟩:=x;exact xAa ho
 | false=>obtain⟨o,ho,_⟩:=x;exact xAa ho
theorem kT{prog:qo}{w:zw}{A:zy}(hh:A.handled=qz)(t:Bool)(it l:qv)(hne:l≠it)(aQ:Array qx):Draws prog w A it [it,l] aQ.size (λ i v=>aQ[i]? = qq v) (λ i h=>dS t h it l i/\dC t h l aQ):=by
 cases t with
 | true=>exact aMv hh it l hne aQ
 | false=>exact Draws.list hh it l hne aQ
theorem gS{X:Cx}{aB:List (qv×Obj)}{σ:L2.St}{H:Hp}{s:qj}{t:Bool}{a:qv}{xs:List V}(I:Inv X aB σ H s)(h:Sq t X.K H a xs):∃ aF:List qx,aU xs aF/\dC t s.heap a aF.toArray:=by
 cases t with
 | true=>obtain⟨aF,rv,pl,hz⟩:=I.tuple h;exact⟨aF,rv,pl⟩
 | false=>obtain⟨aF,rv,pl,hz⟩:=I.list h;exact⟨aF,rv,pl.isList⟩
theorem aCR{X:Cx}{aB:List (qv×Obj)}{σ:L2.St}{H:Hp}{s:qj}{t:Bool}{a:qv}{xs ys:List V}(I:Inv X aB σ H s)(h:Sq t X.K H a xs)(h':Sq t X.K H a ys):xs=ys:=by
 cases t with
 | true=>exact I.tuple_inj h h'
 | false=>exact I.list_inj h h'
theorem fH{t:Bool}{K:FrG}{H H':Hp}{a:qv}{xs:List V}(e:bY H H')(h:Sq t K H a xs):Sq t K H' a xs:=by
 cases t with
 | true=>exact mP e h
 | false=>exact e.seq h
theorem aE7{X:Cx}{aB:List (qv×Obj)}{σ:L2.St}{H:Hp}{s:qj}{h':Heap}{ch:List qv}{t':Nat}(I:Inv X aB σ H s)(hch:∀ b∈ch,gJ X aB H b)(k:∀ b u,b ∉ ch->s.heap.get? b=qq u->h'.get? b=qq u) :
 Inv X aB σ H {s with heap:=h',toks:=t' }:=by
 have nch:∀ b u,H b=qq u->b ∉ ch:=λ b u e z=>by rw[(hch b z).1] at e;cases e
 refine I.step (g':=s.gens) (d':=s.drawn) (ch:=ch) (λ b hb=>⟨(hch b hb).2.2.2.1,(hch b hb).2.1,(hch b hb).2.2.2.2.1,(hch b hb).2.2.2.2.2⟩) (λ b o _ _ hc e _=>k b o hc e) (λ b o _ _ hc e _=>⟨o.slots,k b o hc e⟩) (λ _ _ _ _ n=>n)
  (λ b o hc e=>⟨o,k b o hc e⟩) (λ _ _ e=>e) (λ _ _ _ e=>e) (λ b ps e=>⟨#[],by rw[e];simp⟩) (λ m hm=>?_) (λ b u e=>?_) I.bare
 ·obtain⟨o,es,ep,ho,r⟩:=hm;exact⟨o,es,ep,k _ o (λ z=>(hch _ z).2.1 rfl) ho,r⟩
 ·refine(I.hok b u e).stay (λ c v hc q=>k c v ?_ q) (λ _ q=>q) λ _ _ q=>q
  rcases hc with z | z
  ·rw[z];exact nch b u e
  ·exact nch c _ z
theorem kI{a c:qv}{l:List qv}(h:c ∉ a::l):c≠a:=λ q=>h (q▸xAd)
theorem cU{a c:qv}{l:List qv}(h:c ∉ a::l):c ∉ l:=λ q=>h (xAg _ q)
theorem mT{a b:qv}{l:List qv}(h:a∈l):a∈b::l:=xAg _ h
theorem jH{P:qv->Prop}{a:qv}{l:List qv}(h:P a)(t:∀ b∈l,P b):∀ b∈a::l,P b:=List.forall_mem_cons.mpr ⟨h,t⟩
theorem aln{P:qv->Prop}:∀ b∈([]:List qv),P b:=λ _ h=>nomatch h
section
variable {prog : qo}{w : zw}{A : zy}{E : qx -> qj -> Prop}{s : qj}
noncomputable abbrev xG(h:Heap)(t:Bool)(l1:qv):Heap:=h.push {cls:=.type (rM t),data:=.fields #[.ref l1,.int 0 0] }
noncomputable abbrev zH2(h:Heap)(t u:Bool)(l1 l2:qv):Heap:=(xG h t l1).push {cls:=.type (rM u),data:=.fields #[.ref l2,.int 0 0] }
noncomputable abbrev zH3(h:Heap)(t u:Bool)(l1 l2:qv):Heap:=(zH2 h t u l1 l2).push {cls:=.type "tuple",data:=.seq #[.ref h.objs.size,.ref (xG h t l1).objs.size] }
noncomputable abbrev zH4(h:Heap)(t u:Bool)(l1 l2:qv):Heap:=(zH3 h t u l1 l2).push {cls:=.type "tuple",data:=.seq #[.none,.none] }
noncomputable abbrev nC(h:Heap)(t u:Bool)(l1 l2:qv):Heap:=(zH4 h t u l1 l2).push {cls:=.type "zip",data:=.fields #[.none,.bool false,.bool false,.ref (zH2 h t u l1 l2).objs.size,.ref (zH3 h t u l1 l2).objs.size] }
theorem tT{t:Bool}{l:qv}{aQ:Array qx}{Q:qx->qj->Prop}(hl:dC t s.heap l aQ)
 (h:Q (.ref s.heap.objs.size) {s with heap:=s.heap.push {cls:=.type (rM t),data:=.fields #[.ref l,.int 0 0] } }):qy (model prog w) A (pyIter (.ref l)) Q E s:=by
 cases t with
 | true=>exact wpAny_pyIter_tuple hl h
 | false=>exact jy hl h
theorem dC.push{t:Bool}{h:Heap}{a:qv}{aF:Array qx}(x:dC t h a aF)(o:Obj):dC t (h.push o) a aF:=by
 cases t with
 | true=>obtain⟨o,ho,r⟩:=x;exact⟨o,hpS _ ho,r⟩
 | false=>obtain⟨o,ho,r⟩:=x;exact⟨o,hpS _ ho,r⟩
theorem aK4(t u:Bool)(l1 l2:qv)(xs ys:Array qx) :
 Meets (Builtin.«zip.__new__» ⟨[.type "zip",.ref l1,.ref l2],[]⟩) (λ _ R s=>dC t s.heap l1 xs/\dC u s.heap l2 ys /\
  R (.ok (.ret (.ref (zH4 s.heap t u l1 l2).objs.size))) {s with heap:=nC s.heap t u l1 l2 }):=
 .of_wp λ prog w A R s h=>by
  obtain⟨hp,g,d,tk,os⟩:=s;obtain⟨hl1,hl2,h⟩:=h;have hsub:=sub_zip;have hL1:dC t (Shared.heap ⟨hp,g,d,tk,os⟩) l1 xs:=hl1;have hL2:dC u (Shared.heap ⟨xG hp t l1,g,d,tk,os⟩) l2 ys:=dC.push hl2 _
  wp_walk using tT hL1,tT hL2
  exact⟨_,rfl,h⟩
theorem aMA{t u:Bool}{l1 l2:qv}{xs ys:Array qx}{Q:qx->qj->Prop}(hl1:dC t s.heap l1 xs)(hl2:dC u s.heap l2 ys)
 (h:∀ h',xo h' (s.heap.objs.size+4) (s.heap.objs.size+2) (s.heap.objs.size+3) .none->xq h' (s.heap.objs.size+2) (.ref s.heap.objs.size) (.ref (s.heap.objs.size+1)) ->
   xq h' (s.heap.objs.size+3) .none .none->dS t h' s.heap.objs.size l1 0->dS u h' (s.heap.objs.size+1) l2 0->h'.objs.size=s.heap.objs.size+5 ->
   (∀ c o,s.heap.get? c=qq o->h'.get? c=qq o)->Q (.ref (s.heap.objs.size+4)) {s with heap:=h' }) :
 qy (model prog w) A (call (.type "zip") [.ref l1,.ref l2]) Q E s:=by
 refine callType_new F.called_zip (by decide) (F.typeCall_zip_2 _ _) (F.newCall_zip_2 _ _) (λ obj=>F.args_object_init_3 obj _ _) F.entry_zip_new
  (aK4 t u l1 l2 xs ys) ⟨hl1,hl2,?_⟩
 have z1:(xG s.heap t l1).objs.size=s.heap.objs.size+1:=yBc ..;have z2:(zH2 s.heap t u l1 l2).objs.size=s.heap.objs.size+2:=by rw[yBc,z1]
 have z3:(zH3 s.heap t u l1 l2).objs.size=s.heap.objs.size+3:=by rw[yBc,z2]
 have z4:(zH4 s.heap t u l1 l2).objs.size=s.heap.objs.size+4:=by rw[yBc,z3]
 have z5:(nC s.heap t u l1 l2).objs.size=s.heap.objs.size+5:=by rw[yBc,z4]
 have g5:(nC s.heap t u l1 l2).get? (zH4 s.heap t u l1 l2).objs.size=qq _:=xAe _ rfl;have g4:(nC s.heap t u l1 l2).get? (zH3 s.heap t u l1 l2).objs.size=qq _:=hpS _ (xAe _ rfl);have g3:(nC s.heap t u l1 l2).get? (zH2 s.heap t u l1 l2).objs.size=qq _:=hpS _ (hpS _ (xAe _ rfl));have g2:(nC s.heap t u l1 l2).get? (xG s.heap t l1).objs.size=qq _:=hpS _ (hpS _ (hpS _ (xAe _ rfl)));have g1:(nC s.heap t u l1 l2).get? s.heap.objs.size=qq _:=hpS _ (hpS _ (hpS _ (hpS _ (xAe _ rfl))));show _/\_;rw[z2,z3,z4] at g5;rw[z1,z2] at g3;rw[z3] at g4;rw[z1] at g2;rw[z4];have i1:dS t (nC s.heap t u l1 l2) s.heap.objs.size l1 0:=by cases t<;>exact⟨_,g1,rfl,rfl⟩
 have i2:dS u (nC s.heap t u l1 l2) (s.heap.objs.size+1) l2 0:=by cases u<;>exact⟨_,g2,rfl,rfl⟩
 exact⟨⟨_,g5,rfl⟩,h _ g5 g3 g4 i1 i2 z5 λ c o x =>
  hpS _ (hpS _ (hpS _ (hpS _ (hpS _ x))))⟩
end
theorem aRd{n a b:Nat}(ha:a<n)(hb:b<n):ZA (n+4) (n+2) (n+3) n (n+1) [n,a] [n+1,b]:=by
 have h:∀ i j:Nat,i≠j->(n+i:Nat)≠(n+j:Nat):=λ i j h=>by omega
 have l:∀ (c i:Nat),c<n->(c:Nat)≠(n+i:Nat):=λ c i h=>by omega
 refine⟨h 2 4 (by decide),h 3 4 (by decide),h 0 4 (by decide),h 1 4 (by decide),h 2 3 (by decide),h 2 0 (by decide),h 2 1 (by decide),h 3 0 (by decide),h 3 1 (by decide),λ c hc=>?_,λ c hc=>?_⟩
 ·rcases List.mem_cons.mp hc with e | e
  ·rw[e];exact⟨h 0 4 (by decide),h 0 3 (by decide),h 0 1 (by decide)⟩
  ·rw[List.mem_singleton.mp e];exact⟨l a 4 ha,l a 3 ha,l a 1 ha⟩
 ·rcases List.mem_cons.mp hc with e | e
  ·rw[e];exact⟨h 1 4 (by decide),h 1 3 (by decide),h 1 0 (by decide)⟩
  ·rw[List.mem_singleton.mp e];exact⟨l b 4 hb,l b 3 hb,l b 0 hb⟩
section
variable {X : Cx}
noncomputable def dQ:List D->List D->List D
 | a::as,b::bs=>.tuple [a,b]::dQ as bs
 | _,_=>[]
theorem aEU:∀ as bs:List D,(dQ as bs).length=min as.length bs.length
 | [],_=>by simp[dQ]
 | _::_,[]=>by simp[dQ]
 | _::as,_::bs=>by simp[dQ,aEU as bs]
theorem aFZ:∀ (as bs:List D) (i:Nat) (d:D),(dQ as bs)[i]? = qq d->∃ a b,as[i]? = qq a/\bs[i]? = qq b/\d=.tuple [a,b]
 | [],_,i,d,h=>by simp[dQ] at h
 | _::_,[],i,d,h=>by simp[dQ] at h
 | a::as,b::bs,0,d,h=>by simp[dQ] at h;exact⟨a,b,rfl,rfl,h.symm⟩
 | a::as,b::bs,i+1,d,h=>by
   obtain⟨x,y,h1,h2,h3⟩:=aFZ as bs i d (by simpa [dQ] using h)
   exact⟨x,y,by simpa using h1,by simpa using h2,h3⟩
end
section
variable {X : Cx}
noncomputable def oP:W->Option (List D)
 | .d (.list ds)=>qq ds
 | .d (.tuple ds)=>qq ds
 | _=>qz
noncomputable def aA4(fa fb:FE):FL:=λ env S=>(fa env S).bind λ p=>(fb env p.2).bind λ q=>(oP p.1).bind λ ds=>(oP q.1).bind λ es=>qq (dQ ds es,q.2)
theorem tV{K:FrG}{F:Hp}{L:List qv}{w:W}{ds:List D}{v:V}(h:oP w=qq ds)(d:eE K F L w v):∃ t a xs,v=.ref a/\Sq t K F a xs/\DenL K F ds xs:=by
 unfold oP at h
 split at h
 ·cases h;cases (show Den K F (.list ds) v from d) with
  | lst sq dl=>exact⟨false,_,_,rfl,sq,dl⟩
 ·cases h;cases (show Den K F (.tuple ds) v from d) with
  | tup sq dl=>exact⟨true,_,_,rfl,sq,dl⟩
 ·cases h
end
abbrev cR(h:Heap)(T:qv)(a b c:qx):Prop:=h.get? T=qq {cls:=.type "tuple",data:=.seq #[a,b,c] }
structure ZB(z TI TO i1 i2 i3:qv)(cB cC fp3:List qv):Prop where
 TIz:TI≠z
 TOz:TO≠z
 i1z:i1≠z
 i2z:i2≠z
 i3z:i3≠z
 TITO:TI≠TO
 TIi1:TI≠i1
 TIi2:TI≠i2
 TIi3:TI≠i3
 TOi1:TO≠i1
 TOi2:TO≠i2
 TOi3:TO≠i3
 f1:∀ b∈cB,b≠z/\b≠TO/\b≠i2/\b≠i3
 f2:∀ b∈cC,b≠z/\b≠TO/\b≠i1/\b≠i3
 f3:∀ b∈fp3,b≠z/\b≠TO/\b≠i1/\b≠i2
section
variable {prog : qo}{w : zw}{A : zy}{E : qx -> qj -> Prop}{s : qj}
theorem uD{T:qv}{a b c x:qx}{k:Nat}{Q:Unit->qj->Prop}(hT:cR s.heap T a b c)
 (h:∀ h',h'.get? T=qq {cls:=.type "tuple",data:=.seq ((#[a,b,c]:Array qx).setIfInBounds k x) }->yEa T s.heap h'->Q () {s with heap:=h' }) :
 qy (model prog w) A (updateSeq T (·.setIfInBounds k x)) Q E s:=by
 refine vo hT rfl (h _ ?_ (Heap.SameBut.update ..));rw[yCk _ hT rfl];simp[Obj.mapSeq]
theorem aMx{z TI TO i1 i2 i3:qv}{cB cC fp3:List qv}{n1 n2 n3 k:Nat}{P1 P2 P3:Nat->qx->Prop}{bG bF St3:Nat->Heap->Prop}{a b c:qx}{Q:qx->qj->Prop}
 (D1:Draws prog w A i1 cB n1 P1 bG) (D2:Draws prog w A i2 cC n2 P2 bF) (D3:Draws prog w A i3 fp3 n3 P3 St3) (Z:ZB z TI TO i1 i2 i3 cB cC fp3)
 (hz:xo s.heap z TI TO .none) (bZ:cR s.heap TI (.ref i1) (.ref i2) (.ref i3)) (cL:cR s.heap TO a b c) (s1:bG k s.heap) (s2:bF k s.heap) (s3:St3 k s.heap) (k1:k<n1) (k2:k<n2) (k3:k<n3)
 (hQ:∀ x y u h' tk,P1 k x->P2 k y->P3 k u->xo h' z TI TO (yj s.heap.objs.size)->cR h' TO x y u->cR h' TI (.ref i1) (.ref i2) (.ref i3)->bG (k+1) h'->bF (k+1) h'->St3 (k+1) h'->cR h' s.heap.objs.size x y u->h'.objs.size=s.heap.objs.size+1 ->
   (∀ c o,c≠z->c≠TO->c≠i1->c≠i2->c≠i3->s.heap.get? c=qq o->h'.get? c=qq o)->Q (.ref s.heap.objs.size) {s with heap:=h',toks:=tk }) :
 qy (model prog w) A (Builtin.«zip.__next__» ⟨[.ref z],[]⟩) (λ bJ s'=>∃ v,bJ=.done (.ret v)/\Q v s') E s:=by
 show qy _ _ (field (.ref z) 2 >>= _) _ _ _;refine wB (qu hz rfl (x:=.bool false) rfl ?_);show qy _ _ (field (.ref z) 3 >>= _) _ _ _;refine wB (qu hz rfl (x:=.ref TI) rfl ?_);refine wB (zx bZ rfl ?_);show qy _ _ (yAj (.ref z) >>= _) _ _ _;refine wB ?_;unfold yAj;refine wB (qu hz rfl (x:=.none) rfl (wP ?_));simp only[if_true];refine wB (vj ?_);refine wB (qu hz rfl (x:=.ref TO) rfl ?_);refine wB (zv hz (by simp) λ h₁ hz₁ hs₁=>?_)
 replace hz₁:xo h₁ z TI TO .ellipsis:=hz₁
 refine wB ?_;simp only[yFv,yGb,yDn,yDw];have s11:bG k h₁:=D1.frame k _ _ s1 λ c hc o e=>hs₁.extBut _ _ (Z.f1 c hc).1 e
 have s21:bF k h₁:=D2.frame k _ _ s2 λ c hc o e=>hs₁.extBut _ _ (Z.f2 c hc).1 e
 have s31:St3 k h₁:=D3.frame k _ _ s3 λ c hc o e=>hs₁.extBut _ _ (Z.f3 c hc).1 e
 refine wB (wB (jz ?_));show qy _ _ (yAi (.ref i1) >>= _) _ _ _;refine wB (D1.item k _ _ _ k1 s11 λ x h₂ tk₂ px s12 hs₂=>wP ?_)
 have s22:bF k h₂:=D2.frame k _ _ s21 λ c hc o e=>hs₂.extBut _ _ (Z.f2 c hc).2.2.1 e
 have s32:St3 k h₂:=D3.frame k _ _ s31 λ c hc o e=>hs₂.extBut _ _ (Z.f3 c hc).2.2.1 e
 have hTO₂:cR h₂ TO a b c:=hs₂.extBut _ _ Z.TOi1 (hs₁.extBut _ _ Z.TOz cL);refine wB (zx hTO₂ rfl ?_);refine wB (uD hTO₂ λ h₃ hTO₃ hs₃=>?_)
 replace hTO₃:cR h₃ TO x b c:=hTO₃
 have s13:bG (k+1) h₃:=D1.frame _ _ _ s12 λ c hc o e=>hs₃.extBut _ _ (Z.f1 c hc).2.1 e
 have s23:bF k h₃:=D2.frame k _ _ s22 λ c hc o e=>hs₃.extBut _ _ (Z.f2 c hc).2.1 e
 have s33:St3 k h₃:=D3.frame k _ _ s32 λ c hc o e=>hs₃.extBut _ _ (Z.f3 c hc).2.1 e
 refine wB (jk (wP ?_));refine wB (wB (jz ?_));show qy _ _ (yAi (.ref i2) >>= _) _ _ _;refine wB (D2.item k _ _ _ k2 s23 λ y h₄ tk₄ py s24 hs₄=>wP ?_)
 have s14:bG (k+1) h₄:=D1.frame _ _ _ s13 λ c hc o e=>hs₄.extBut _ _ (Z.f1 c hc).2.2.1 e
 have s34:St3 k h₄:=D3.frame _ _ _ s33 λ c hc o e=>hs₄.extBut _ _ (Z.f3 c hc).2.2.2 e
 have hTO₄:cR h₄ TO x b c:=hs₄.extBut _ _ Z.TOi2 hTO₃;refine wB (zx hTO₄ rfl ?_);refine wB (uD hTO₄ λ h₅ hTO₅ hs₅=>?_)
 replace hTO₅:cR h₅ TO x y c:=hTO₅
 have s15:bG (k+1) h₅:=D1.frame _ _ _ s14 λ c hc o e=>hs₅.extBut _ _ (Z.f1 c hc).2.1 e
 have s25:bF (k+1) h₅:=D2.frame _ _ _ s24 λ c hc o e=>hs₅.extBut _ _ (Z.f2 c hc).2.1 e
 have s35:St3 k h₅:=D3.frame _ _ _ s34 λ c hc o e=>hs₅.extBut _ _ (Z.f3 c hc).2.1 e
 refine wB (jk (wP ?_));refine wB (wB (jz ?_));show qy _ _ (yAi (.ref i3) >>= _) _ _ _;refine wB (D3.item k _ _ _ k3 s35 λ u h₆ tk₆ pu s36 hs₆=>wP ?_)
 have s16:bG (k+1) h₆:=D1.frame _ _ _ s15 λ c hc o e=>hs₆.extBut _ _ (Z.f1 c hc).2.2.2 e
 have s26:bF (k+1) h₆:=D2.frame _ _ _ s25 λ c hc o e=>hs₆.extBut _ _ (Z.f2 c hc).2.2.2 e
 have hTO₆:cR h₆ TO x y c:=hs₆.extBut _ _ Z.TOi3 hTO₅;refine wB (zx hTO₆ rfl ?_);refine wB (uD hTO₆ λ h₇ hTO₇ hs₇=>?_)
 replace hTO₇:cR h₇ TO x y u:=hTO₇
 have s17:bG (k+1) h₇:=D1.frame _ _ _ s16 λ c hc o e=>hs₇.extBut _ _ (Z.f1 c hc).2.1 e
 have s27:bF (k+1) h₇:=D2.frame _ _ _ s26 λ c hc o e=>hs₇.extBut _ _ (Z.f2 c hc).2.1 e
 have s37:St3 (k+1) h₇:=D3.frame _ _ _ s36 λ c hc o e=>hs₇.extBut _ _ (Z.f3 c hc).2.1 e
 refine wB (jk (wP (wP ?_)));refine wB (zx hTO₇ rfl ?_);refine wB (wpAny_newTuple ?_);have hsz:h₇.objs.size=s.heap.objs.size:=by rw[hs₇.1,hs₆.1,hs₅.1,hs₄.1,hs₃.1,hs₂.1,hs₁.1]
 have hz₇:xo h₇ z TI TO .ellipsis:=hs₇.extBut _ _ Z.TOz.symm (hs₆.extBut _ _ Z.i3z.symm (hs₅.extBut _ _ Z.TOz.symm (hs₄.extBut _ _ Z.i2z.symm (hs₃.extBut _ _ Z.TOz.symm (hs₂.extBut _ _ Z.i1z.symm hz₁)))));have hk₇:∀ c o,c≠z->c≠TO->c≠i1->c≠i2->c≠i3->s.heap.get? c=qq o->h₇.get? c=qq o:=λ c o c1 c2 c3 c4 c5 e =>
  hs₇.extBut _ _ c2 (hs₆.extBut _ _ c5 (hs₅.extBut _ _ c2 (hs₄.extBut _ _ c4 (hs₃.extBut _ _ c2 (hs₂.extBut _ _ c3 (hs₁.extBut _ _ c1 e))))))
 have hzlt:z<h₇.objs.size:=xAa hz₇;show qy _ _ (yBw (.ref z) (.ref h₇.objs.size) >>= _) _ _ _;refine wB ?_;unfold yBw;have hz₈:xo (h₇.push {cls:=.type "tuple",data:=.seq #[x,y,u] }) z TI TO .ellipsis:=hpS _ hz₇;refine wB (zv hz₈ (by simp) λ g₇ hz₉ hs₉=>?_)
 replace hz₉:xo g₇ z TI TO (yj h₇.objs.size):=hz₉
 refine zv hz₉ (by simp) λ g₈ hg₈ hs₈=>?_
 replace hg₈:xo g₈ z TI TO (yj h₇.objs.size):=hg₈
 have up:∀ c o,c≠z->h₇.get? c=qq o->g₈.get? c=qq o:=λ c o c1 e=>hs₈.extBut _ _ c1 (hs₉.extBut _ _ c1 (hpS _ e))
 have hT₈:cR g₈ h₇.objs.size x y u:=hs₈.extBut _ _ (yEu hzlt) (hs₉.extBut _ _ (yEu hzlt) (xAe _ rfl));have hz8:g₈.objs.size=h₇.objs.size+1:=by rw[hs₈.1,hs₉.1,yBc]
 rw[hsz] at hg₈ hT₈ hz8;refine wP ⟨_,rfl,?_⟩;show Q (.ref h₇.objs.size) _;rw[hsz];exact hQ x y u g₈ _ px py pu hg₈ (up _ _ Z.TOz hTO₇) (up _ _ Z.TIz (hk₇ _ _ Z.TIz Z.TITO Z.TIi1 Z.TIi2 Z.TIi3 bZ)) (D1.frame _ _ _ s17 λ c hc o e=>up c o (Z.f1 c hc).1 e) (D2.frame _ _ _ s27 λ c hc o e=>up c o (Z.f2 c hc).1 e) (D3.frame _ _ _ s37 λ c hc o e=>up c o (Z.f3 c hc).1 e) hT₈ hz8 λ c o c1 c2 c3 c4 c5 e=>up c o c1 (hk₇ c o c1 c2 c3 c4 c5 e)
theorem aNI{z TI TO i1 i2 i3:qv}{cB cC fp3:List qv}{n1 n2 n3 k:Nat}{P1 P2 P3:Nat->qx->Prop}{bG bF St3:Nat->Heap->Prop}{a b c:qx}{Q:Fin->qj->Prop}
 (D1:Draws prog w A i1 cB n1 P1 bG) (D2:Draws prog w A i2 cC n2 P2 bF) (D3:Draws prog w A i3 fp3 n3 P3 St3) (Z:ZB z TI TO i1 i2 i3 cB cC fp3)
 (hz:xo s.heap z TI TO .none) (bZ:cR s.heap TI (.ref i1) (.ref i2) (.ref i3)) (cL:cR s.heap TO a b c) (s1:bG k s.heap) (s2:bF k s.heap) (s3:St3 k s.heap) (hend:k=n1\/(k<n1/\k=n2)\/(k<n1/\k<n2/\k=n3))
 (hE:∀ h' tk e,(∀ c o,c≠z->c≠TO->c≠i1->c≠i2->c≠i3->s.heap.get? c=qq o->h'.get? c=qq o)->(∃ o,h'.get? e=qq o/\o.cls=.type "StopIteration")->E (.ref e) {s with heap:=h',toks:=tk }) :
 qy (model prog w) A (Builtin.«zip.__next__» ⟨[.ref z],[]⟩) Q E s:=by
 show qy _ _ (field (.ref z) 2 >>= _) _ _ _;refine wB (qu hz rfl (x:=.bool false) rfl ?_);show qy _ _ (field (.ref z) 3 >>= _) _ _ _;refine wB (qu hz rfl (x:=.ref TI) rfl ?_);refine wB (zx bZ rfl ?_);show qy _ _ (yAj (.ref z) >>= _) _ _ _;refine wB ?_;unfold yAj;refine wB (qu hz rfl (x:=.none) rfl (wP ?_));simp only[if_true];refine wB (vj ?_);refine wB (qu hz rfl (x:=.ref TO) rfl ?_);refine wB (zv hz (by simp) λ h₁ hz₁ hs₁=>?_)
 replace hz₁:xo h₁ z TI TO .ellipsis:=hz₁
 refine wB ?_;simp only[yFv,yGb,yDn,yDw];have s11:bG k h₁:=D1.frame k _ _ s1 λ c hc o e=>hs₁.extBut _ _ (Z.f1 c hc).1 e
 have s21:bF k h₁:=D2.frame k _ _ s2 λ c hc o e=>hs₁.extBut _ _ (Z.f2 c hc).1 e
 have s31:St3 k h₁:=D3.frame k _ _ s3 λ c hc o e=>hs₁.extBut _ _ (Z.f3 c hc).1 e
 refine wB (wB (jz ?_));show qy _ _ (yAi (.ref i1) >>= _) _ _ _
 by_cases e1:k=n1
 ·subst e1;refine wB (D1.done _ _ _ s11 λ h₂ e hs₂ he=>?_)
  obtain⟨oe,hoe,hce⟩:=he;have hz₂:xo h₂ z TI TO .ellipsis:=hs₂ _ _ Z.i1z.symm hz₁;have hez:e≠z:=λ x=>by subst x;rw[hz₂] at hoe;cases hoe;simp at hce
  exact zv hz₂ (by simp) λ h₃ _ hs₃=>hE h₃ _ e (λ c o c1 _ c3 _ _ x=>hs₃.extBut _ _ c1 (hs₂ _ _ c3 (hs₁.extBut _ _ c1 x))) ⟨oe,hs₃.extBut _ _ hez hoe,hce⟩
 have k1:k<n1:=by
  rcases hend with q | ⟨q,_⟩ | ⟨q,_⟩
  ·exact absurd q e1
  ·exact q
  ·exact q
 refine wB (D1.item k _ _ _ k1 s11 λ x h₂ tk₂ px s12 hs₂=>wP ?_)
 have s22:bF k h₂:=D2.frame k _ _ s21 λ c hc o e=>hs₂.extBut _ _ (Z.f2 c hc).2.2.1 e
 have s32:St3 k h₂:=D3.frame k _ _ s31 λ c hc o e=>hs₂.extBut _ _ (Z.f3 c hc).2.2.1 e
 have hTO₂:cR h₂ TO a b c:=hs₂.extBut _ _ Z.TOi1 (hs₁.extBut _ _ Z.TOz cL);refine wB (zx hTO₂ rfl ?_);refine wB (uD hTO₂ λ h₃ hTO₃ hs₃=>?_)
 replace hTO₃:cR h₃ TO x b c:=hTO₃
 have s23:bF k h₃:=D2.frame k _ _ s22 λ c hc o e=>hs₃.extBut _ _ (Z.f2 c hc).2.1 e
 have s33:St3 k h₃:=D3.frame k _ _ s32 λ c hc o e=>hs₃.extBut _ _ (Z.f3 c hc).2.1 e
 have hz₃:xo h₃ z TI TO .ellipsis:=hs₃.extBut _ _ Z.TOz.symm (hs₂.extBut _ _ Z.i1z.symm hz₁);have kp₃:∀ c o,c≠z->c≠TO->c≠i1->s.heap.get? c=qq o->h₃.get? c=qq o:=λ c o c1 c2 c3 x=>hs₃.extBut _ _ c2 (hs₂.extBut _ _ c3 (hs₁.extBut _ _ c1 x))
 refine wB (jk (wP ?_));refine wB (wB (jz ?_));show qy _ _ (yAi (.ref i2) >>= _) _ _ _
 by_cases e2:k=n2
 ·subst e2;refine wB (D2.done _ _ _ s23 λ h₄ e hs₄ he=>?_)
  obtain⟨oe,hoe,hce⟩:=he;have hz₄:xo h₄ z TI TO .ellipsis:=hs₄ _ _ Z.i2z.symm hz₃;have hez:e≠z:=λ x=>by subst x;rw[hz₄] at hoe;cases hoe;simp at hce
  exact zv hz₄ (by simp) λ h₅ _ hs₅=>hE h₅ _ e (λ c o c1 c2 c3 c4 _ x=>hs₅.extBut _ _ c1 (hs₄ _ _ c4 (kp₃ c o c1 c2 c3 x))) ⟨oe,hs₅.extBut _ _ hez hoe,hce⟩
 have k2:k<n2/\k=n3:=by
  rcases hend with q | ⟨_,q⟩ | ⟨_,q⟩
  ·exact absurd q e1
  ·exact absurd q e2
  ·exact q
 obtain⟨k2,rfl⟩:=k2;refine wB (D2.item k _ _ _ k2 s23 λ y h₄ tk₄ py s24 hs₄=>wP ?_)
 have s34:St3 k h₄:=D3.frame _ _ _ s33 λ c hc o e=>hs₄.extBut _ _ (Z.f3 c hc).2.2.2 e
 have hTO₄:cR h₄ TO x b c:=hs₄.extBut _ _ Z.TOi2 hTO₃;refine wB (zx hTO₄ rfl ?_);refine wB (uD hTO₄ λ h₅ hTO₅ hs₅=>?_)
 have s35:St3 k h₅:=D3.frame _ _ _ s34 λ c hc o e=>hs₅.extBut _ _ (Z.f3 c hc).2.1 e
 refine wB (jk (wP ?_));refine wB (wB (jz ?_));show qy _ _ (yAi (.ref i3) >>= _) _ _ _;refine wB (D3.done _ _ _ s35 λ h₆ e hs₆ he=>?_)
 obtain⟨oe,hoe,hce⟩:=he;have hz₆:xo h₆ z TI TO .ellipsis:=hs₆ _ _ Z.i3z.symm (hs₅.extBut _ _ Z.TOz.symm (hs₄.extBut _ _ Z.i2z.symm hz₃));have hez:e≠z:=λ x=>by subst x;rw[hz₆] at hoe;cases hoe;simp at hce
 exact zv hz₆ (by simp) λ h₇ _ hs₇=>hE h₇ _ e (λ c o c1 c2 c3 c4 c5 x=>hs₇.extBut _ _ c1 (hs₆ _ _ c5 (hs₅.extBut _ _ c2 (hs₄.extBut _ _ c4 (kp₃ c o c1 c2 c3 x))))) ⟨oe,hs₇.extBut _ _ hez hoe,hce⟩
theorem aLa{z TI TO i1 i2 i3:qv}{cB cC fp3:List qv}{n1 n2 n3 k:Nat}{P1 P2 P3:Nat->qx->Prop}{bG bF St3:Nat->Heap->Prop}{a b c:qx}{Q:Option qx->qj->Prop}
 (D1:Draws prog w A.in1 i1 cB n1 P1 bG) (D2:Draws prog w A.in1 i2 cC n2 P2 bF) (D3:Draws prog w A.in1 i3 fp3 n3 P3 St3) (Z:ZB z TI TO i1 i2 i3 cB cC fp3)
 (hz:xo s.heap z TI TO .none) (bZ:cR s.heap TI (.ref i1) (.ref i2) (.ref i3)) (cL:cR s.heap TO a b c) (s1:bG k s.heap) (s2:bF k s.heap) (s3:St3 k s.heap) (k1:k<n1) (k2:k<n2) (k3:k<n3)
 (hQ:∀ x y u h' tk,P1 k x->P2 k y->P3 k u->xo h' z TI TO (yj s.heap.objs.size)->cR h' TO x y u->cR h' TI (.ref i1) (.ref i2) (.ref i3)->bG (k+1) h'->bF (k+1) h'->St3 (k+1) h'->cR h' s.heap.objs.size x y u->h'.objs.size=s.heap.objs.size+1 ->
   (∀ c o,c≠z->c≠TO->c≠i1->c≠i2->c≠i3->s.heap.get? c=qq o->h'.get? c=qq o)->Q (qq (.ref s.heap.objs.size)) {s with heap:=h',toks:=tk }) :
 qy (model prog w) A (jo (.ref z)) Q E s:=by
 have hT:s.TypeIs (.ref z) "zip":=⟨_,hz,rfl⟩;unfold jo;exact wB (vw (wpAny_callSpecial?_slot (name:=Str.ofString "__next__") hT F.slot_zip_next
  (xz F.slot_zip_next hT F.entry_zip_next
    (aMx D1 D2 D3 Z hz bZ cL s1 s2 s3 k1 k2 k3 λ x y u h' tk a0 b0 c0 a1 a2 a3 a4 a5 a6 a7 a8 a9=>wP (hQ x y u h' tk a0 b0 c0 a1 a2 a3 a4 a5 a6 a7 a8 a9)) (F.args_zip_next_1 _))))
theorem aLi{z TI TO i1 i2 i3:qv}{cB cC fp3:List qv}{n1 n2 n3 k:Nat}{P1 P2 P3:Nat->qx->Prop}{bG bF St3:Nat->Heap->Prop}{a b c:qx}{Q:Option qx->qj->Prop}
 (D1:Draws prog w A.in1 i1 cB n1 P1 bG) (D2:Draws prog w A.in1 i2 cC n2 P2 bF) (D3:Draws prog w A.in1 i3 fp3 n3 P3 St3) (Z:ZB z TI TO i1 i2 i3 cB cC fp3)
 (hz:xo s.heap z TI TO .none) (bZ:cR s.heap TI (.ref i1) (.ref i2) (.ref i3)) (cL:cR s.heap TO a b c) (s1:bG k s.heap) (s2:bF k s.heap) (s3:St3 k s.heap) (hend:k=n1\/(k<n1/\k=n2)\/(k<n1/\k<n2/\k=n3))
 (hQ:∀ h' tk,(∀ c o,c≠z->c≠TO->c≠i1->c≠i2->c≠i3->s.heap.get? c=qq o->h'.get? c=qq o)->Q qz {s with heap:=h',toks:=tk }):qy (model prog w) A (jo (.ref z)) Q E s:=by
 have hT:s.TypeIs (.ref z) "zip":=⟨_,hz,rfl⟩;unfold jo;refine wB (vw (wpAny_callSpecial?_slot (name:=Str.ofString "__next__") hT F.slot_zip_next
  (xz F.slot_zip_next hT F.entry_zip_next (aNI D1 D2 D3 Z hz bZ cL s1 s2 s3 hend λ h' tk e hk he=>?_) (F.args_zip_next_1 _))))
 obtain⟨o,ho,hc⟩:=he;refine wB (yu (T:="StopIteration") (b:=true) ⟨o,ho,hc⟩ kj ?_);exact wP (hQ _ _ hk)
end
noncomputable def aDu(K:FrG)(t u v:Bool)(a b c:qv):It:=
 ⟨λ i H=>∃ xs x ys y zs z,Sq t K H a xs/\xs[i]? = qq x/\Sq u K H b ys/\ys[i]? = qq y/\Sq v K H c zs/\zs[i]? = qq z,
  λ i H r H'=>∃ p x y z,H p=qz/\H'=bE H p (.tup [x,y,z])/\r=.ref p/\(∀ xs,Sq t K H a xs->xs[i]? = qq x)/\(∀ ys,Sq u K H b ys->ys[i]? = qq y)/\∀ zs,Sq v K H c zs->zs[i]? = qq z,
  λ i H=>∃ xs ys zs,Sq t K H a xs/\Sq u K H b ys/\Sq v K H c zs/\i=min xs.length (min ys.length zs.length)⟩
theorem aMh{P:qo}{w:zw}{K:FrG}{elts:List qw}{k:Nat}{pos:Pos}(t u v:Bool)(a b c z TI TO i1 i2 i3:qv)(Z:ZB z TI TO i1 i2 i3 [i1,a] [i2,b] [i3,c])(h1:a≠i1)(h2:b≠i2)(h3:c≠i3) :
 Turn P w K (.Tuple elts k pos) (aDu K t u v a b c) [z,TI,TO,i1,i2,i3] z (λ i h=>xo h z TI TO .none/\cR h TI (.ref i1) (.ref i2) (.ref i3)/\(∃ x y z,cR h TO x y z)/\dS t h i1 a i/\dS u h i2 b i/\dS v h i3 c i) where
 mem:=xAd
 obj:=λ i h ⟨hz,bZ,⟨x,y,_,cL⟩,hi1,hi2,hi3⟩=>jH ⟨_,hz,λ v=>by intro z;cases z⟩ (jH ⟨_,bZ,λ v=>by intro z;cases z⟩ (jH ⟨_,cL,λ v=>by intro z;cases z⟩ (jH hi1.obj (jH hi2.obj (jH hi3.obj aln)))))
 keep:=λ i h h' ⟨hz,bZ,⟨x,y,z',cL⟩,hi1,hi2,hi3⟩ q=>⟨q z xAd _ hz,q TI (mT xAd) _ bZ,⟨x,y,z',q TO (mT (mT xAd)) _ cL⟩,hi1.at λ o e=>q i1 (mT (mT (mT xAd))) o e,hi2.at λ o e=>q i2 (mT (mT (mT (mT xAd)))) o e,hi3.at λ o e=>q i3 (mT (mT (mT (mT (mT xAd))))) o e⟩
 item:=λ X hP hW hK hc i aB s σ H E I hf aV aEi=>by
  obtain⟨hz,bZ,⟨x0,y0,z0,cL⟩,hi1,hi2,hi3⟩:=aV;obtain⟨xs,x,ys,y,zs,zz,sq1,hx,sq2,hy,sq3,hzz⟩:=aEi;subst hP hW hK;have hh:X.A.in1.handled=qz:=I.ok.hd hc;obtain⟨gC,rv1,pl1⟩:=gS I sq1;obtain⟨eG,rv2,pl2⟩:=gS I sq2;obtain⟨its3,rv3,pl3⟩:=gS I sq3;obtain⟨u1,hu1,ru1⟩:=rv1.get hx;obtain⟨u2,hu2,ru2⟩:=rv2.get hy;obtain⟨u3,hu3,ru3⟩:=rv3.get hzz;have lt1:i<gC.toArray.size:=by rw[yAe];exact(gIm hu1).1
  have lt2:i<eG.toArray.size:=by rw[yAe];exact(gIm hu2).1
  have lt3:i<its3.toArray.size:=by rw[yAe];exact(gIm hu3).1
  refine aLa (kT (prog:=X.prog) (w:=X.w) hh t i1 a h1 gC.toArray) (kT (prog:=X.prog) (w:=X.w) hh u i2 b h2 eG.toArray) (kT (prog:=X.prog) (w:=X.w) hh v i3 c h3 its3.toArray) Z hz bZ cL ⟨hi1,pl1⟩ ⟨hi2,pl2⟩ ⟨hi3,pl3⟩ lt1 lt2 lt3 λ x' y' z' h₁ tk px py pz hz₁ hTO₁ hTI₁ s1 s2 s3 hT₁ hsz hk=>⟨_,rfl,?_⟩
  have ex:x'=u1:=by rw[yDg,hu1] at px;exact(Option.some.inj px).symm
  have ey:y'=u2:=by rw[yDg,hu2] at py;exact(Option.some.inj py).symm
  have ez:z'=u3:=by rw[yDg,hu3] at pz;exact(Option.some.inj pz).symm
  subst ex ey ez;have zLt:z<s.heap.objs.size:=xAa hz;refine wpAny_letOwnedTupleGo_zip hz₁ λ h₂ hz₂ hs₂=>?_
  have hs2:yEa z h₁ h₂:=hs₂;have ht₂:cR h₂ s.heap.objs.size x' y' z':=hs2.extBut _ _ (yEu zLt) hT₁;have I2:Inv X aB σ (bE H s.heap.objs.size (.tup [x,y,zz])) {s with heap:=h₂,toks:=tk }:=by
   refine aE1 I hf (λ c o hb e'=>?_) (yAc _) ⟨by show 3<=qk;decide,[x',y',z'],.cons ru1 (.cons ru2 (.cons ru3 .nil)),⟨_,ht₂,rfl,0,rfl⟩⟩
   exact hs2.extBut c o (kI hb) (hk c o (kI hb) (kI (cU (cU hb))) (kI (cU (cU (cU hb)))) (kI (cU (cU (cU (cU hb))))) (kI (cU (cU (cU (cU (cU hb)))))) e')
  refine⟨.ref s.heap.objs.size,_,I2,rfl,⟨s.heap.objs.size,x,y,zz,I.fresh,rfl,rfl,λ zs hy=>by rw[aCR I hy sq1];exact hx,λ zs hz=>by rw[aCR I hz sq2];exact hy,λ zs hz=>by rw[aCR I hz sq3];exact hzz⟩,⟨hz₂,hs2.extBut _ _ Z.TIz hTI₁,⟨_,_,_,hs2.extBut _ _ Z.TOz hTO₁⟩,s1.1.at λ o e=>hs2.extBut _ _ Z.i1z e,s2.1.at λ o e=>hs2.extBut _ _ Z.i2z e,s3.1.at λ o e=>hs2.extBut _ _ Z.i3z e⟩,λ c hb=>?_⟩
  have:c<s.heap.objs.size:=jH (P:=λ c=>c<s.heap.objs.size) zLt (jH (xAa bZ) (jH (xAa cL) (jH (let ⟨_,ho,_⟩:=hi1.obj;xAa ho) (jH (let ⟨_,ho,_⟩:=hi2.obj;xAa ho) (jH (let ⟨_,ho,_⟩:=hi3.obj;xAa ho) aln))))) c hb
  rw[bN (xAk this)];exact(hf c hb).1
 done:=λ X hP hW hK hc i aB s σ H E I hf aV aEi=>by
  obtain⟨hz,bZ,⟨x0,y0,z0,cL⟩,hi1,hi2,hi3⟩:=aV;obtain⟨xs,ys,zs,sq1,sq2,sq3,hi⟩:=aEi;subst hP hW hK;have hh:X.A.in1.handled=qz:=I.ok.hd hc;obtain⟨gC,rv1,pl1⟩:=gS I sq1;obtain⟨eG,rv2,pl2⟩:=gS I sq2;obtain⟨its3,rv3,pl3⟩:=gS I sq3;have l1:=rv1.length;have l2:=rv2.length;have l3:=rv3.length;have hend:i=gC.toArray.size\/(i<gC.toArray.size/\i=eG.toArray.size)\/(i<gC.toArray.size/\i<eG.toArray.size/\i=its3.toArray.size):=by
   rw[yAe,yAe,yAe];omega
  refine aLi (kT (prog:=X.prog) (w:=X.w) hh t i1 a h1 gC.toArray) (kT (prog:=X.prog) (w:=X.w) hh u i2 b h2 eG.toArray) (kT (prog:=X.prog) (w:=X.w) hh v i3 c h3 its3.toArray) Z hz bZ cL ⟨hi1,pl1⟩ ⟨hi2,pl2⟩ ⟨hi3,pl3⟩ hend λ h₁ tk hk=>⟨rfl,?_⟩
  exact aE7 I hf λ c o hb e'=>hk c o (kI hb) (kI (cU (cU hb))) (kI (cU (cU (cU hb)))) (kI (cU (cU (cU (cU hb))))) (kI (cU (cU (cU (cU (cU hb)))))) e'
 self:=λ A i s Q E ⟨hz,_⟩ hq=>yo hz hq
section
variable {prog : qo}{w : zw}{A : zy}{E : qx -> qj -> Prop}{s : qj}
noncomputable abbrev xA(h:Heap)(t:Bool)(l1:qv):Heap:=h.push {cls:=.type (rM t),data:=.fields #[.ref l1,.int 0 0] }
noncomputable abbrev wZ(h:Heap)(t u:Bool)(l1 l2:qv):Heap:=(xA h t l1).push {cls:=.type (rM u),data:=.fields #[.ref l2,.int 0 0] }
noncomputable abbrev yH3(h:Heap)(t u v:Bool)(l1 l2 l3:qv):Heap:=(wZ h t u l1 l2).push {cls:=.type (rM v),data:=.fields #[.ref l3,.int 0 0] }
noncomputable abbrev yH4(h:Heap)(t u v:Bool)(l1 l2 l3:qv):Heap:=(yH3 h t u v l1 l2 l3).push {cls:=.type "tuple",data:=.seq #[.ref h.objs.size,.ref (xA h t l1).objs.size,.ref (wZ h t u l1 l2).objs.size] }
noncomputable abbrev yH5(h:Heap)(t u v:Bool)(l1 l2 l3:qv):Heap:=(yH4 h t u v l1 l2 l3).push {cls:=.type "tuple",data:=.seq #[.none,.none,.none] }
noncomputable abbrev kN(h:Heap)(t u v:Bool)(l1 l2 l3:qv):Heap:=(yH5 h t u v l1 l2 l3).push {cls:=.type "zip",data:=.fields #[.none,.bool false,.bool false,.ref (yH3 h t u v l1 l2 l3).objs.size,.ref (yH4 h t u v l1 l2 l3).objs.size] }
theorem aLO(t u v:Bool)(l1 l2 l3:qv)(xs ys zs:Array qx) :
 Meets (Builtin.«zip.__new__» ⟨[.type "zip",.ref l1,.ref l2,.ref l3],[]⟩) (λ _ R s=>dC t s.heap l1 xs/\dC u s.heap l2 ys/\dC v s.heap l3 zs /\
  R (.ok (.ret (.ref (yH5 s.heap t u v l1 l2 l3).objs.size))) {s with heap:=kN s.heap t u v l1 l2 l3 }):=
 .of_wp λ prog w A R s h=>by
  obtain⟨hp,g,d,tk,os⟩:=s;obtain⟨hl1,hl2,hl3,h⟩:=h;have hsub:=sub_zip;have hL1:dC t (Shared.heap ⟨hp,g,d,tk,os⟩) l1 xs:=hl1;have hL2:dC u (Shared.heap ⟨xA hp t l1,g,d,tk,os⟩) l2 ys:=dC.push hl2 _;have hL3:dC v (Shared.heap ⟨wZ hp t u l1 l2,g,d,tk,os⟩) l3 zs:=dC.push (dC.push hl3 _) _
  wp_walk using tT hL1,tT hL2,tT hL3
  exact⟨_,rfl,h⟩
theorem aOf(a b c:qx):checkTypeCall "zip" ⟨[a,b,c],[]⟩=pure ():=by kernel_rfl
theorem aPi(a b c:qx):checkBuiltinCall "zip.__new__" ⟨[.type "zip",a,b,c],[]⟩=pure ():=by kernel_rfl
theorem aNK(a b c d:qx):argsOk "object.__init__" ⟨[a,b,c,d],[]⟩:=by
 unfold argsOk;rw[signature?_of (id:="object.__init__") (n:=['_','_','t','i','n','i','_','_']) (o:=['t','c','e','j','b','o']) (by kernel_rfl) F.owner_object];kernel_rfl
theorem aMV{t u v:Bool}{l1 l2 l3:qv}{xs ys zs:Array qx}{Q:qx->qj->Prop}(hl1:dC t s.heap l1 xs)(hl2:dC u s.heap l2 ys)(hl3:dC v s.heap l3 zs)
 (h:∀ h',xo h' (s.heap.objs.size+5) (s.heap.objs.size+3) (s.heap.objs.size+4) .none->cR h' (s.heap.objs.size+3) (.ref s.heap.objs.size) (.ref (s.heap.objs.size+1)) (.ref (s.heap.objs.size+2)) ->
   cR h' (s.heap.objs.size+4) .none .none .none->dS t h' s.heap.objs.size l1 0->dS u h' (s.heap.objs.size+1) l2 0->dS v h' (s.heap.objs.size+2) l3 0->h'.objs.size=s.heap.objs.size+6 ->
   (∀ c o,s.heap.get? c=qq o->h'.get? c=qq o)->Q (.ref (s.heap.objs.size+5)) {s with heap:=h' }) :
 qy (model prog w) A (call (.type "zip") [.ref l1,.ref l2,.ref l3]) Q E s:=by
 refine callType_new F.called_zip (by decide) (aOf _ _ _) (aPi _ _ _) (λ obj=>aNK obj _ _ _) F.entry_zip_new
  (aLO t u v l1 l2 l3 xs ys zs) ⟨hl1,hl2,hl3,?_⟩
 have z1:(xA s.heap t l1).objs.size=s.heap.objs.size+1:=yBc ..;have z2:(wZ s.heap t u l1 l2).objs.size=s.heap.objs.size+2:=by rw[yBc,z1]
 have z3:(yH3 s.heap t u v l1 l2 l3).objs.size=s.heap.objs.size+3:=by rw[yBc,z2]
 have z4:(yH4 s.heap t u v l1 l2 l3).objs.size=s.heap.objs.size+4:=by rw[yBc,z3]
 have z5:(yH5 s.heap t u v l1 l2 l3).objs.size=s.heap.objs.size+5:=by rw[yBc,z4]
 have z6:(kN s.heap t u v l1 l2 l3).objs.size=s.heap.objs.size+6:=by rw[yBc,z5]
 have g6:(kN s.heap t u v l1 l2 l3).get? (yH5 s.heap t u v l1 l2 l3).objs.size=qq _:=xAe _ rfl;have g5:(kN s.heap t u v l1 l2 l3).get? (yH4 s.heap t u v l1 l2 l3).objs.size=qq _:=hpS _ (xAe _ rfl);have g4:(kN s.heap t u v l1 l2 l3).get? (yH3 s.heap t u v l1 l2 l3).objs.size=qq _:=hpS _ (hpS _ (xAe _ rfl));have g3:(kN s.heap t u v l1 l2 l3).get? (wZ s.heap t u l1 l2).objs.size=qq _:=hpS _ (hpS _ (hpS _ (xAe _ rfl)));have g2:(kN s.heap t u v l1 l2 l3).get? (xA s.heap t l1).objs.size=qq _:=hpS _ (hpS _ (hpS _ (hpS _ (xAe _ rfl))));have g1:(kN s.heap t u v l1 l2 l3).get? s.heap.objs.size=qq _:=hpS _ (hpS _ (hpS _ (hpS _ (hpS _ (xAe _ rfl)))));show _/\_;rw[z3,z4,z5] at g6;rw[z1,z2,z3] at g4;rw[z4] at g5;rw[z2] at g3;rw[z1] at g2;rw[z5];have i1:dS t (kN s.heap t u v l1 l2 l3) s.heap.objs.size l1 0:=by cases t<;>exact⟨_,g1,rfl,rfl⟩
 have i2:dS u (kN s.heap t u v l1 l2 l3) (s.heap.objs.size+1) l2 0:=by cases u<;>exact⟨_,g2,rfl,rfl⟩
 have i3:dS v (kN s.heap t u v l1 l2 l3) (s.heap.objs.size+2) l3 0:=by cases v<;>exact⟨_,g3,rfl,rfl⟩
 exact⟨⟨_,g6,rfl⟩,h _ g6 g4 g5 i1 i2 i3 z6 λ c o x =>
  hpS _ (hpS _ (hpS _ (hpS _ (hpS _ (hpS _ x)))))⟩
end
theorem aSm{n a b c:Nat}(ha:a<n)(hb:b<n)(hc:c<n):ZB (n+5) (n+3) (n+4) n (n+1) (n+2) [n,a] [n+1,b] [n+2,c]:=by
 have h:∀ i j:Nat,i≠j->(n+i:Nat)≠(n+j:Nat):=λ i j h=>by omega
 have l:∀ (c i:Nat),c<n->(c:Nat)≠(n+i:Nat):=λ c i h=>by omega
 refine⟨h 3 5 (by decide),h 4 5 (by decide),h 0 5 (by decide),h 1 5 (by decide),h 2 5 (by decide),h 3 4 (by decide),h 3 0 (by decide),h 3 1 (by decide),h 3 2 (by decide),h 4 0 (by decide),h 4 1 (by decide),h 4 2 (by decide),λ d hd=>?_,λ d hd=>?_,λ d hd=>?_⟩
 ·rcases List.mem_cons.mp hd with e | e
  ·rw[e];exact⟨h 0 5 (by decide),h 0 4 (by decide),h 0 1 (by decide),h 0 2 (by decide)⟩
  ·rw[List.mem_singleton.mp e];exact⟨l a 5 ha,l a 4 ha,l a 1 ha,l a 2 ha⟩
 ·rcases List.mem_cons.mp hd with e | e
  ·rw[e];exact⟨h 1 5 (by decide),h 1 4 (by decide),h 1 0 (by decide),h 1 2 (by decide)⟩
  ·rw[List.mem_singleton.mp e];exact⟨l b 5 hb,l b 4 hb,l b 0 hb,l b 2 hb⟩
 ·rcases List.mem_cons.mp hd with e | e
  ·rw[e];exact⟨h 2 5 (by decide),h 2 4 (by decide),h 2 0 (by decide),h 2 1 (by decide)⟩
  ·rw[List.mem_singleton.mp e];exact⟨l c 5 hc,l c 4 hc,l c 0 hc,l c 1 hc⟩
section
variable {X : Cx}
noncomputable def aJJ(K:FrG)(ta:TA):TI:=λ σ H R=>ta σ H λ vs H1=>∃ a b c t u v,vs=[.ref a,.ref b,.ref c]/\(∃ xs,Sq t K H1 a xs)/\(∃ ys,Sq u K H1 b ys)/\(∃ zs,Sq v K H1 c zs)/\R (aDu K t u v a b c) H1
theorem aOO{elts:List qw}{k:Nat}{pp:Pos}{a b c:qw}{ta:TA}{p pos:Pos}(hg:Gl X "zip")(hm:X.mg "zip" = qz)(ha:PA X [a,b,c] ta)(hs:zq [a,b,c] X.env=(false,eval a X.env)::zq [b,c] X.env)(hs2:zq [b,c] X.env=(false,eval b X.env)::zq [c] X.env)(hs3:zq [c] X.env=[(false,eval c X.env)]):PI X (.Tuple elts k pp) (.Call (.Name "zip" p) [a,b,c] [] pos) (aJJ X.K ta):=by
 intro aB s σ H R I h;refine Call_ (lA I hg hm boot_zip (yBd (bC (ha pos aB s σ H _ I h) λ us s1 hPq41=>?_) hs (by rw[hs2,hs3];rfl)))
 obtain⟨vs,H1,I1,r1,q1⟩:=hPq41;obtain⟨l1,l2,l3,t,u,v,rfl,⟨xs,sq1⟩,⟨ys,sq2⟩,⟨zs,sq3⟩,q⟩:=q1;obtain⟨u1,u2,u3,rfl,ru1,ru2,ru3⟩:=aJk r1;cases ru1;cases ru2;cases ru3;obtain⟨gC,rv1,pl1⟩:=gS I1 sq1;obtain⟨eG,rv2,pl2⟩:=gS I1 sq2;obtain⟨its3,rv3,pl3⟩:=gS I1 sq3;have a1:=pl1.lt;have a2:=pl2.lt;have a3:=pl3.lt;refine aMV pl1 pl2 pl3 λ h' hz bZ cL hi1 hi2 hi3 hsz hk=>yo hz ?_
 have I2:Inv X aB σ H1 {s1 with heap:=h' }:=I1.kept (t':=s1.toks) hk
 have hb':∀ b∈[s1.heap.objs.size+5,s1.heap.objs.size+3,s1.heap.objs.size+4,s1.heap.objs.size,s1.heap.objs.size+1,s1.heap.objs.size+2],s1.heap.objs.size<=b:=λ b hb=>by
  simp only[yCt,yCo,or_false] at hb;omega
 have Z:=aSm (n:=s1.heap.objs.size) (a:=l1) (b:=l2) (c:=l3) a1 a2 a3;exact⟨s1.heap.objs.size+5,[s1.heap.objs.size+5,s1.heap.objs.size+3,s1.heap.objs.size+4,s1.heap.objs.size,s1.heap.objs.size+1,s1.heap.objs.size+2],_,_,H1,rfl,I2,aMh t u v l1 l2 l3 _ _ _ _ _ _ Z (xAk a1) (xAk (yEk a2)) (xAk (yEk (yEk a3))),⟨hz,bZ,⟨_,_,_,cL⟩,hi1,hi2,hi3⟩,λ b hb=>I1.fpOk (hb' b hb) (I1.hok.fresh (hb' b hb)),q⟩
noncomputable def gI:List D->List D->List D->List D
 | a::as,b::bs,c::cs=>.tuple [a,b,c]::gI as bs cs
 | _,_,_=>[]
theorem aBH:∀ as bs cs:List D,(gI as bs cs).length=min as.length (min bs.length cs.length)
 | [],_,_=>by simp[gI]
 | _::_,[],_=>by simp[gI]
 | _::_,_::_,[]=>by simp[gI]
 | _::as,_::bs,_::cs=>by simp[gI,aBH as bs cs]
theorem aFH:∀ (as bs cs:List D) (i:Nat) (d:D),(gI as bs cs)[i]? = qq d->∃ a b c,as[i]? = qq a/\bs[i]? = qq b/\cs[i]? = qq c/\d=.tuple [a,b,c]
 | [],_,_,i,d,h=>by simp[gI] at h
 | _::_,[],_,i,d,h=>by simp[gI] at h
 | _::_,_::_,[],i,d,h=>by simp[gI] at h
 | a::as,b::bs,c::cs,0,d,h=>by simp[gI] at h;exact⟨a,b,c,rfl,rfl,rfl,h.symm⟩
 | a::as,b::bs,c::cs,i+1,d,h=>by
   obtain⟨x,y,z,h1,h2,h3,h4⟩:=aFH as bs cs i d (by simpa [gI] using h)
   exact⟨x,y,z,by simpa using h1,by simpa using h2,by simpa using h3,h4⟩
theorem aOx{K:FrG}{F:Hp}{L:List qv}{t u v:Bool}{a b c:qv}{xs ys zs:List V}{ds es gs:List D}(sq1:Sq t K F a xs)(dl1:DenL K F ds xs)(sq2:Sq u K F b ys)(dl2:DenL K F es ys)(sq3:Sq v K F c zs)(dl3:DenL K F gs zs):Wk K F L (aDu K t u v a b c) (gI ds es gs) where
 go:=λ i H s hi=>by
  rw[aBH] at hi;have h1:i<xs.length:=by rw[<- dl1.length];omega
  have h2:i<ys.length:=by rw[<- dl2.length];omega
  have h3:i<zs.length:=by rw[<- dl3.length];omega
  exact⟨xs,xs[i],ys,ys[i],zs,zs[i],fH s sq1,by simp[h1],fH s sq2,by simp[h2],fH s sq3,by simp[h3]⟩
 stop:=λ H s=>⟨xs,ys,zs,fH s sq1,fH s sq2,fH s sq3,by rw[aBH,dl1.length,dl2.length,dl3.length]⟩
 yld:=λ i H F1 L1 S x H' d g R e y=>by
  obtain⟨p,x',y',z',hp,rfl,rfl,hx,hy,hz⟩:=y;obtain⟨d1,d2,d3,e1,e2,e0,rfl⟩:=aFH ds es gs i d e;obtain⟨x1,e3,dx⟩:=dl1.get e1;obtain⟨y1,e4,dy⟩:=dl2.get e2;obtain⟨z1,e5,dz⟩:=dl3.get e0;have q1:=hx xs (fH (g.f.trans R.sub) sq1);rw[q1] at e3;cases e3;have q2:=hy ys (fH (g.f.trans R.sub) sq2);rw[q2] at e4;cases e4;have q3:=hz zs (fH (g.f.trans R.sub) sq3);rw[q3] at e5;cases e5;have hF:F1 p=qz:=R.sub.free hp;exact⟨bE F1 p (.tup [x',y',z']),eI hF,R.new hp,.tup (cD.of dE) (.cons (dx.mono (g.f.trans (eI hF))) (.cons (dy.mono (g.f.trans (eI hF))) (.cons (dz.mono (g.f.trans (eI hF))) .nil)))⟩
noncomputable def aAW(fa fb fc:FE):FL:=λ env S=>(fa env S).bind λ p=>(fb env p.2).bind λ q=>(fc env q.2).bind λ r=>(oP p.1).bind λ ds=>(oP q.1).bind λ es=>(oP r.1).bind λ gs=>qq (gI ds es gs,r.2)
theorem aQt{K:FrG}{fa fb fc:FE}(σ:L2.St)(H:Hp)(Rr:It->Hp->Prop)(h:kP K (aAW fa fb fc) σ H Rr):aJJ K (iF K (eQ fa (eQ fb (eQ fc lU)))) σ H Rr:=by
 obtain⟨F,L,S,env,ds,S',R,E,e,q⟩:=h;obtain⟨⟨w1,S1⟩,e1,e⟩:=bind_some e;obtain⟨⟨w2,S2⟩,e2,e⟩:=bind_some e;obtain⟨⟨w3,S3⟩,e0,e⟩:=bind_some e;obtain⟨ds1,e3,e⟩:=bind_some e;obtain⟨ds2,e4,e⟩:=bind_some e;obtain⟨ds3,e5,e⟩:=bind_some e;dsimp only at e e2 e3 e4 e0 e5;cases e;refine⟨F,L,S,env,[w1,w2,w3],S',R,E,by unfold eQ;simp only[e1,e2,e0,lU,yCc],λ F1 L1 H1 vs g1 R1 d1=>?_⟩
 cases d1 with
 | cons da dr =>
   cases dr with
   | cons db dn =>
     cases dn with
     | cons dc dn =>
       cases dn;obtain⟨t,a,xs,rfl,sq1,dl1⟩:=tV e3 da;obtain⟨u,b,ys,rfl,sq2,dl2⟩:=tV e4 db;obtain⟨v,c,zs,rfl,sq3,dl3⟩:=tV e5 dc;exact⟨a,b,c,t,u,v,rfl,⟨xs,fH R1.sub sq1⟩,⟨ys,fH R1.sub sq2⟩,⟨zs,fH R1.sub sq3⟩,q F1 L1 H1 _ g1 R1 (aOx sq1 dl1 sq2 dl2 sq3 dl3)⟩
end
section
variable {X : Cx}
end
section
open PySem.SeqAt
open PySem.AutoSeq1 (wpAny_loadPart')
open PySem.MeetsSeq PySem.MeetsSeq2 PySem.MeetsSeq3
theorem rH:∀ {vs:List qx}{ns:List Int}{i:Nat},IntsAre vs ns->i<vs.length->∃ a t,vs[i]? = qq (.int a t)/\ns.drop i=a::ns.drop (i+1)
 | _,_,i,.nil,h=>absurd h (yFe i)
 | _,_,0,.cons a t _,_=>⟨a,t,rfl,rfl⟩
 | _,_,i+1,.cons a t r,h=>by
   obtain⟨b,u,h1,h2⟩:=rH (i:=i) r (by simpa using h)
   exact⟨b,u,by simpa using h1,by simpa using h2⟩
end
section
variable {prog : qo}{w : zw}{A : zy}{E : qx -> qj -> Prop}{s : qj}
end
section
variable {X : Cx}
end
section
variable {X : Cx}
end
noncomputable def pX(lo:Int):Nat->List V
 | 0=>[]
 | n+1=>.int lo::pX (lo+1) n
theorem aFp:∀ (n:Nat) (lo:Int),(pX lo n).length=n
 | 0,_=>rfl
 | n+1,lo=>by rw[pX,yBi,aFp n]
theorem aGC{K:FrG}{F:Hp}:∀ (n:Nat) (lo:Int),DenL K F (kB lo n) (pX lo n)
 | 0,_=>.nil
 | n+1,lo=>.cons (.int lo) (aGC n (lo+1))
theorem aFn:∀ (n:Nat) (lo:Int) (l:List qx),l.length=n->(∀ (i:Nat) (v:qx),l[i]? = qq v->∃ t,v=.int (lo+(i:Nat)) t)->aU (pX lo n) l
 | 0,_,[],_,_=>.nil
 | n+1,lo,v::l,h,hv=>.cons (by
    obtain⟨t,e⟩:=hv 0 v rfl;exact⟨t,by rw[e];congr 1;simp⟩) (aFn n (lo+1) l (by simpa using h) λ i u hu=>by
    obtain⟨t,e⟩:=hv (i+1) u (by simpa using hu)
    exact⟨t,by rw[e];congr 1;push_cast;omega⟩)
noncomputable def oQ(f:FL):FL:=λ env S=>(f env S).bind λ p=>if p.1.length<=1000000 then qq p else qz
theorem aE0:1000000<=qk:=by rw[zj];decide
section
variable {X : Cx}
theorem aNS{aB:List (qv×Obj)}{σ:St}{H1:Hp}{s1:qj}{Q:VK}{E:qx->qj->Prop}{lo hi:Int}{t u v:Tok}{tk:Nat}{n:Nat}(I1:Inv X aB σ H1 s1)(hc:X.calm=true)(h1 : -(2^62)<=lo)(h2:lo<2^62)(h3 : -(2^62)<=hi)(h4:hi<2^62)(hn:(hi-lo).toNat=n)(hl:n<=1000000)
 (q:∀ l,H1 l=qz->Q (.ref l) (bE H1 l (.lst (pX lo n)))):qy (model X.prog X.w) X.A (call (.type "list") [.ref s1.heap.objs.size]) (EP X aB σ Q) E {s1 with heap:=s1.heap.push {cls:=.type "range",data:=.fields #[.int lo t,.int hi u,.int 1 v] },toks:=tk }:=by
 have hs:yCr lo hi 1=(n:Int):=by rw[rangeSize_one];split<;>omega
 refine call_list_range (I1.ok.hd hc) (IsRange.new ..) (small_one h1 h2 h3 h4) hs (xAi hl (by decide)) λ h' tk' aH c' hk hS' ha=>?_
 have sz:(s1.heap.push {cls:=.type "range",data:=.fields #[.int lo t,.int hi u,.int 1 v] }).objs.size=s1.heap.objs.size+1:=yBc _ _;dsimp only at hS' hk ⊢;rw[sz] at hS' ⊢;have hfr:H1 (s1.heap.objs.size+1)=qz:=I1.hok.fresh (Nat.le_succ _);have kp:∀ b o,s1.heap.get? b=qq o->h'.get? b=qq o:=λ b o eo=>hk b o (hpS _ eo)
 refine⟨.ref (s1.heap.objs.size+1),bE H1 (s1.heap.objs.size+1) (.lst (pX lo n)),I1.laid (t':=tk') kp (Nat.le_succ _) ⟨by rw[aFp];exact xAi hl aE0,aH.toList,c',?_,by simpa using hS'⟩,rfl,q _ hfr⟩
 obtain⟨a1,a2⟩:=ha;refine aFn n lo aH.toList (by simpa using a1) λ i w hw=>?_
 obtain⟨t,e⟩:=a2 i w (by simpa using hw)
 exact⟨t,by rw[e];congr 1;rw[Int.mul_one]⟩
theorem aSt{a:qw}{fa:FE}{p p2 pos pos2:Pos}(ha:PE X a (aW X.K fa))(hc:X.calm=true)(hg:Gl X "list")(hm:X.mg "list" = qz)(hg2:Gl X "range")(hm2:X.mg "range" = qz)
 (hs:zq [a] X.env=[(false,eval a X.env)]):PE X (.Call (.Name "list" p) [.Call (.Name "range" p2) [a] [] pos2] [] pos) (iC X.K (oQ (lJ fa))):=by
 rintro aB s σ H Q I ⟨F,L,S,env,ds,S',R,E,e,q⟩;obtain⟨⟨ds1,S1⟩,e1,e⟩:=bind_some e;obtain⟨⟨w1,S2⟩,e1,e2⟩:=bind_some e1;dsimp only at e e2
 split at e2
 ·split at e2
  ·split at e
   ·rename_i j c l;cases e2;cases e;rw[xW] at l;refine xy (lA I hg hm (show jq "list" = qq (.type "list") by decide +kernel) ?_)
    refine yBd ?_ rfl rfl;show qy _ _ (spliced ((false,eval (.Call (.Name "range" p2) [a] [] pos2) X.env)::[])) _ _ s;refine Calls.spliced_cons ?_;refine xy (lA I hg2 hm2 boot_range ?_);refine yBd ?_ hs rfl;refine bC (mI ha aAD hs pos2 aB s σ H (λ vs H1=>∃ v F1 L1,vs=[v]/\Gr F L F1 L1/\Rel X.K F1 L1 S' H1/\eE X.K F1 L1 (.d (.int j)) v) I ⟨F,L,S,env,[.d (.int j)],_,R,E,by unfold eQ;rw[e1];rfl,λ F1 L1 H1 vs g1 R1 d1=>by
     cases d1 with
     | cons d0 dr=>cases dr;exact⟨_,F1,L1,rfl,g1,R1,d0⟩⟩) λ us s1 ⟨vs,H1,I1,r1,v,F1,L1,ev,g1,R1,d1⟩=>?_
    subst ev;obtain⟨u,rfl,ru⟩:=iZ r1;cases (show Den X.K F1 (.int j) v from d1)
    obtain⟨t,rfl⟩:=ru;refine call_range_1 ?_;refine Calls.spliced_nil ?_;refine aNS (n:=j.toNat) I1 hc (by omega) (by omega) c.1 c.2 (by rw[Int.sub_zero]) l λ l' hl'=>?_
    exact q F1 L1 _ _ _ g1 (R1.lay hl') (R1.sub.free hl') (R1.notin hl') dE (aGC _ _)
   ·cases e
  ·cases e2
 ·cases e2
end
section
variable {X : Cx}
end
noncomputable def Itd(hi:Int)(n:Nat):It:=⟨λ i _=>i<n,λ i H x H'=>H'=H/\x=.int (hi-i),λ i _=>n<=i⟩
theorem aMQ{P:qo}{w:zw}{K:FrG}{tg:qw}(it:qv)(hi:Int)(n:Nat):Turn P w K tg (Itd hi n) [it] it (λ i h=>kx h it (hi+(i:Nat)*(-1)) ((n:Int)-(i:Nat)) (-1)) where
 mem:=by simp
 obj:=λ i h st b hb=>by
  have e:b=it:=by simpa using hb
  subst e;exact⟨_,st,λ v z=>by
   have z':Data.fields _=Data.cell v:=z;cases z'⟩
 keep:=λ i h h' st k=>k it (by simp) _ st
 item:=by
  intro X hP hw hK hc i aB s σ H E I hf st hg;subst hP hw hK;obtain⟨f0,f1,f2,f3,f4,f5⟩:=hf it (by simp)
  have W:=Walks.range (prog:=X.prog) (w:=X.w) (I.ok.hd hc) it hi (-1) n;refine W.item i s _ _ hg st λ v h' tk hv st' kk=>?_
  obtain⟨t,rfl⟩:=hv;have I1:Inv X aB σ H {s with heap:=h',toks:=tk }:=I.turned (λ b o hb e=>kk b o (by simpa using hb) e) f0 f1 f3 f4 f5
  refine⟨_,rfl,aAO (s:={s with heap:=h',toks:=tk }) (n:="range_iterator") st' rfl rfl (by decide) ⟨.int (hi-i),H,I1,⟨t,?_⟩,⟨rfl,rfl⟩,st',λ b hb=>(hf b hb).1⟩⟩
  congr 1;omega
 done:=by
  intro X hP hw hK hc i aB s σ H E I hf st hg;subst hP hw hK;obtain⟨f0,f1,f2,f3,f4,f5⟩:=hf it (by simp)
  exact wpAny_pyNext_range_end (I.ok.hd hc) st (by have:n<=i:=hg;omega) λ h' eb=>⟨rfl,I.turned (t':=s.toks) (λ b o hb e=>eb b o hb e) f0 f1 f3 f4 f5⟩
 self:=λ _ _ _ _ _ st h=>kq st h
theorem aEn(a b:Int):yCr a b (-1)=if b<a then a-b else 0:=by
 unfold yCr;simp only[show ¬ ((-1:Int)>0) by decide,if_false,Int.neg_neg,Int.ediv_one,gt_iff_lt]
 split<;>omega
theorem aLY{a b:Int}(ha : -(2^62)<=a)(ha':a<2^62)(hb : -(2^62)<=b)(hb':b<2^62):yHl a b (-1)=true:=by
 unfold yHl;rw[aEn];simp only[Builtin.Range.rangeFitsLong,yAu,yEg,decide_eq_true_eq,beq_iff_eq,show ¬ ((-1:Int)>0) by decide,if_false]
 split<;>omega
section
variable {X : Cx}{tg : qw}
theorem aPT{aB:List (qv×Obj)}{σ:L2.St}{H:Hp}{s:qj}{R:It->Hp->Prop}{E:qx->qj->Prop}{hi lo:Int}{t u v:Tok}{tk:Nat}(I:Inv X aB σ H s)(h1 : -(2^62)<=hi)(h2:hi<2^62)(h3 : -(2^62)<=lo)(h4:lo<2^62)
 (q:R (Itd hi (hi-lo).toNat) H):qy (model X.prog X.w) X.A (pyIter (.ref s.heap.objs.size)) (PIE X aB σ tg R) E {s with heap:=s.heap.push {cls:=.type "range",data:=.fields #[.int hi t,.int lo u,.int (-1) v] },toks:=tk }:=by
 refine wpAny_pyIter_range (IsRange.new ..) (aLY h1 h2 h3 h4) ?_;have I1:Inv X aB σ H {s with heap:=s.heap.push {cls:=.type "range",data:=.fields #[.int hi t,.int lo u,.int (-1) v] },toks:=tk }:=I.kept λ b o e=>hpS _ e
 refine⟨(s.heap.push {cls:=.type "range",data:=.fields #[.int hi t,.int lo u,.int (-1) v] }).objs.size,[(s.heap.push {cls:=.type "range",data:=.fields #[.int hi t,.int lo u,.int (-1) v] }).objs.size],_,_,H,rfl,
  I1.kept (t':=tk) λ b o e=>hpS _ e,aMQ _ hi (hi-lo).toNat,?_,λ b hb=>?_,q⟩
 ·have e1:hi+((0:Nat):Int)*(-1)=hi:=by simp
  have e2:(((hi-lo).toNat:Nat):Int)-((0:Nat):Int)=yCr hi lo (-1):=by rw[aEn];split<;>omega
  show kx _ _ (hi+((0:Nat):Int)*(-1)) ((((hi-lo).toNat:Nat):Int)-((0:Nat):Int)) (-1);rw[e1,e2];exact xAe _ rfl
 ·have e:b=(s.heap.push {cls:=.type "range",data:=.fields #[.int hi t,.int lo u,.int (-1) v] }).objs.size:=by simpa using hb
  subst e;exact I1.fpOk (yAc _) (I1.hok.fresh (yAc _))
noncomputable def aJM(ta:TA):TI:=λ σ H R=>ta σ H λ vs H1=>∃ i j:Int,vs=[.int i,.int j,.int (-1)]/\(-(2^62)<=i/\i<2^62 /\ -(2^62)<=j/\j<2^62)/\R (Itd i (i-j).toNat) H1
theorem aML{a b c:qw}{ta:TA}{p pos:Pos}(hg:Gl X "range")(hm:X.mg "range" = qz)(ha:PA X [a,b,c] ta)(hs:zq [a,b,c] X.env=(false,eval a X.env)::zq [b,c] X.env)(hs2:zq [b,c] X.env=[(false,eval b X.env),(false,eval c X.env)]) :
 PI X tg (.Call (.Name "range" p) [a,b,c] [] pos) (aJM ta):=by
 intro aB s σ H R I h;refine Call_ (lA I hg hm boot_range (yBd (bC (ha pos aB s σ H _ I h) λ us s1 hPq42=>?_) hs (by rw[hs2];rfl)))
 obtain⟨vs,H1,I1,r1,q1⟩:=hPq42;obtain⟨i,j,e,⟨q1,q2,q3,q4⟩,q⟩:=q1;subst e;cases r1 with
 | cons r rr =>
   cases rr with
   | cons r' rr =>
     cases rr with
     | cons r'' rr =>
       cases rr;obtain⟨t,rfl⟩:=r;obtain⟨t',rfl⟩:=r';obtain⟨t'',rfl⟩:=r'';exact call_range_3 (by decide) (aPT I1 q1 q2 q3 q4 q)
noncomputable def kZ(hi:Int):Nat->List D
 | 0=>[]
 | n+1=>.int hi::kZ (hi-1) n
theorem qQ:∀ (n:Nat) (hi:Int),(kZ hi n).length=n
 | 0,_=>rfl
 | n+1,hi=>by rw[kZ,yBi,qQ n]
theorem aBQ:∀ (n:Nat) (hi:Int) (i:Nat),i<n->(kZ hi n)[i]? = qq (.int (hi-i))
 | 0,_,_,h=>by omega
 | n+1,hi,0,_=>by simp[kZ]
 | n+1,hi,i+1,h=>by
   rw[kZ,yBq,aBQ n (hi-1) i (by omega)]
   congr 2
   push_cast
   omega
theorem aPh{K:FrG}{F:Hp}{L:List qv}(hi:Int)(n:Nat):Wk K F L (Itd hi n) (kZ hi n) where
 go:=λ i H s hi=>by rw[qQ] at hi;exact hi
 stop:=λ H s=>by rw[qQ];exact yAc _
 yld:=λ i H F1 L1 S x H' d g R e y=>by
  obtain⟨rfl,rfl⟩:=y;have hi:i<n:=by
   have:=(gIm e).1;rw[qQ] at this;exact this
  rw[aBQ n _ i hi] at e;cases e;exact⟨F1,bY.refl _,R,.int _⟩
noncomputable def aAK(fa fb fc:FE):FL:=λ env S=>(fa env S).bind λ p=>(fb env p.2).bind λ q=>(fc env q.2).bind λ r=>match p.1,q.1,r.1 with
 | .d (.int i),.d (.int j),.d (.int k)=>if (-(2^62)<=i/\i<2^62 /\ -(2^62)<=j/\j<2^62)/\k = -1 then qq (kZ i (i-j).toNat,r.2) else qz
 | _,_,_=>qz
theorem aRQ{K:FrG}{fa fb fc:FE}(σ:L2.St)(H:Hp)(Rr:It->Hp->Prop)(h:kP K (aAK fa fb fc) σ H Rr):aJM (iF K (eQ fa (eQ fb (eQ fc lU)))) σ H Rr:=by
 obtain⟨F,L,S,env,ds,S',R,E,e,q⟩:=h;obtain⟨⟨w,S1⟩,e1,e2⟩:=bind_some e;obtain⟨⟨w2,S2⟩,e3,e4⟩:=bind_some e2;obtain⟨⟨w3,S3⟩,e5,e6⟩:=bind_some e4;dsimp only at e6 e3 e5
 split at e6
 ·split at e6
  ·rename_i c;obtain⟨c,rfl⟩:=c;cases e6;refine⟨F,L,S,env,[.d (.int _),.d (.int _),.d (.int _)],_,R,E,by unfold eQ;rw[e1];dsimp only[yCz];rw[e3];dsimp only[yCz];rw[e5];rfl,λ F1 L1 H1 vs g1 R1 d1=>?_⟩
   cases d1 with
   | cons dd dr =>
     cases dr with
     | cons dd2 dr =>
       cases dr with
       | cons dd3 dr =>
         cases dr;cases (show Den K F1 (.int _) _ from dd)
         cases (show Den K F1 (.int _) _ from dd2)
         cases (show Den K F1 (.int _) _ from dd3)
         exact⟨_,_,rfl,c,q F1 L1 H1 _ g1 R1 (aPh _ _)⟩
  ·cases e6
 ·cases e6
end
abbrev jQ(h:Heap)(z TI TO a:qv)(f:Bool):Prop:=
 h.get? z=qq {cls:=.type "zip",dict:=qz,data:=.fields #[yj a,.bool f,.bool false,.ref TI,.ref TO],slots:=#[] }
section
variable {prog : qo}{w : zw}{A : zy}{E : qx -> qj -> Prop}{s : qj}
theorem aMH{a:qv}{Q:Option Obj->qj->Prop}(h:Q (s.heap.get? a) s):qy (model prog w) A (loadIfAlive a) Q E s:=λ _ _ _=>h
theorem aE2{z TI TO a:qv}{f:Bool}{Q:Bool->qj->Prop}(hz:jQ s.heap z TI TO a f)(ha:∃ o,s.heap.get? a=qq o)
 (hQ:∀ h',jQ h' z TI TO a true->yEa z s.heap h'->Q false {s with heap:=h' }):qy (model prog w) A (yAj (.ref z)) Q E s:=by
 unfold yAj;refine wB (qu hz rfl (x:=yj a) rfl ?_);obtain⟨o,ho⟩:=ha;have hn:((s.heap.get? ((a:Int)).toNat).isNone)=false:=by
  rw[yAr,ho];rfl
 show qy _ _ (loadIfAlive ((a:Int)).toNat >>= _) _ _ _;refine wB (aMH ?_);rw[hn];simp only[yAt,if_false];cases f with
 | true =>
   refine wB (qu hz rfl (x:=.bool true) rfl ?_);rw[if_neg (by decide)]
   exact wP (hQ s.heap hz (Heap.SameBut.refl _ _))
 | false =>
   refine wB (qu hz rfl (x:=.bool false) rfl ?_);rw[if_pos (by decide)]
   exact wB (zv hz (by simp) λ h₁ hz₁ hs₁=>wP (hQ h₁ hz₁ hs₁))
theorem aK5{z TI TO i1 i2 a:qv}{f:Bool}{cB cC:List qv}{n1 n2 k:Nat}{P1 P2:Nat->qx->Prop}{bG bF:Nat->Heap->Prop}{Q:qx->qj->Prop}
 (D1:Draws prog w A i1 cB n1 P1 bG) (D2:Draws prog w A i2 cC n2 P2 bF) (Z:ZA z TI TO i1 i2 cB cC)
 (hz:jQ s.heap z TI TO a f) (ha:∃ o,s.heap.get? a=qq o) (bZ:xq s.heap TI (.ref i1) (.ref i2)) (s1:bG k s.heap) (s2:bF k s.heap) (k1:k<n1) (k2:k<n2)
 (hQ:∀ x y h' tk,P1 k x->P2 k y->jQ h' z TI TO a true->xq h' TI (.ref i1) (.ref i2)->bG (k+1) h'->bF (k+1) h'->xq h' s.heap.objs.size x y->h'.objs.size=s.heap.objs.size+1 ->
   (∀ c o,c≠z->c≠i1->c≠i2->s.heap.get? c=qq o->h'.get? c=qq o)->Q (.ref s.heap.objs.size) {s with heap:=h',toks:=tk }) :
 qy (model prog w) A (Builtin.«zip.__next__» ⟨[.ref z],[]⟩) (λ bJ s'=>∃ v,bJ=.done (.ret v)/\Q v s') E s:=by
 show qy _ _ (field (.ref z) 2 >>= _) _ _ _;refine wB (qu hz rfl (x:=.bool false) rfl ?_);show qy _ _ (field (.ref z) 3 >>= _) _ _ _;refine wB (qu hz rfl (x:=.ref TI) rfl ?_);refine wB (zx bZ rfl ?_);show qy _ _ (yAj (.ref z) >>= _) _ _ _;refine wB (aE2 hz ha λ h₁ hz₁ hs₁=>?_)
 have s11:bG k h₁:=D1.frame k _ _ s1 λ c hc o e=>hs₁.extBut _ _ (Z.f1 c hc).1 e
 have s21:bF k h₁:=D2.frame k _ _ s2 λ c hc o e=>hs₁.extBut _ _ (Z.f2 c hc).1 e
 simp only[yAt,if_false];rw[<- Array.forIn_toList];simp only[yDn,yDw];refine wB ?_;refine wB (wB (zu ?_));show qy _ _ (yAi (.ref i1) >>= _) _ _ _;refine wB (D1.item k _ _ _ k1 s11 λ x h₂ tk₂ px s12 hs₂=>wP ?_)
 have s22:bF k h₂:=D2.frame k _ _ s21 λ c hc o e=>hs₂.extBut _ _ (Z.f2 c hc).2.2 e
 refine wP ?_;refine wB (wB (zu ?_));show qy _ _ (yAi (.ref i2) >>= _) _ _ _;refine wB (D2.item k _ _ _ k2 s22 λ y h₃ tk₃ py s23 hs₃=>wP ?_)
 have s13:bG (k+1) h₃:=D1.frame _ _ _ s12 λ c hc o e=>hs₃.extBut _ _ (Z.f1 c hc).2.2 e
 refine wP (wP ?_);refine wB (wpAny_newTuple (hsz:=show 2<=qk by decide) ?_)
 have hsz:h₃.objs.size=s.heap.objs.size:=by rw[hs₃.1,hs₂.1,hs₁.1]
 have up:∀ c o,c≠z->c≠i1->c≠i2->s.heap.get? c=qq o->h₃.get? c=qq o:=λ c o c1 c3 c4 e=>hs₃.extBut _ _ c4 (hs₂.extBut _ _ c3 (hs₁.extBut _ _ c1 e))
 have hz₃:jQ h₃ z TI TO a true:=hs₃.extBut _ _ Z.i2z.symm (hs₂.extBut _ _ Z.i1z.symm hz₁);refine wP ⟨_,rfl,?_⟩;show Q (.ref h₃.objs.size) _;rw[hsz];have ps:∀ c o,h₃.get? c=qq o->(h₃.push {cls:=.type "tuple",data:=.seq #[x,y] }).get? c=qq o:=λ c o e=>hpS _ e
 have hT:xq (h₃.push {cls:=.type "tuple",data:=.seq #[x,y] }) s.heap.objs.size x y:=by rw[<- hsz];exact xAe _ rfl
 exact hQ x y _ _ px py (ps _ _ hz₃) (ps _ _ (up _ _ Z.TIz Z.TIi1 Z.TIi2 bZ)) (D1.frame _ _ _ s13 λ c hc o e=>ps c o e) (D2.frame _ _ _ s23 λ c hc o e=>ps c o e) hT (by rw[yBc,hsz]) λ c o c1 c3 c4 e=>ps c o (up c o c1 c3 c4 e)
theorem aLf{z TI TO i1 i2 a:qv}{f:Bool}{cB cC:List qv}{n1 n2 k:Nat}{P1 P2:Nat->qx->Prop}{bG bF:Nat->Heap->Prop}{Q:Fin->qj->Prop}
 (D1:Draws prog w A i1 cB n1 P1 bG) (D2:Draws prog w A i2 cC n2 P2 bF) (Z:ZA z TI TO i1 i2 cB cC)
 (hz:jQ s.heap z TI TO a f) (ha:∃ o,s.heap.get? a=qq o) (bZ:xq s.heap TI (.ref i1) (.ref i2)) (s1:bG k s.heap) (s2:bF k s.heap) (hend:k=n1\/(k<n1/\k=n2))
 (hE:∀ h' tk e,(∀ c o,c≠z->c≠i1->c≠i2->s.heap.get? c=qq o->h'.get? c=qq o)->(∃ o,h'.get? e=qq o/\o.cls=.type "StopIteration")->E (.ref e) {s with heap:=h',toks:=tk }) :
 qy (model prog w) A (Builtin.«zip.__next__» ⟨[.ref z],[]⟩) Q E s:=by
 show qy _ _ (field (.ref z) 2 >>= _) _ _ _;refine wB (qu hz rfl (x:=.bool false) rfl ?_);show qy _ _ (field (.ref z) 3 >>= _) _ _ _;refine wB (qu hz rfl (x:=.ref TI) rfl ?_);refine wB (zx bZ rfl ?_);show qy _ _ (yAj (.ref z) >>= _) _ _ _;refine wB (aE2 hz ha λ h₁ hz₁ hs₁=>?_)
 have s11:bG k h₁:=D1.frame k _ _ s1 λ c hc o e=>hs₁.extBut _ _ (Z.f1 c hc).1 e
 have s21:bF k h₁:=D2.frame k _ _ s2 λ c hc o e=>hs₁.extBut _ _ (Z.f2 c hc).1 e
 simp only[yAt,if_false];rw[<- Array.forIn_toList];simp only[yDn,yDw];refine wB ?_;refine wB (wB (zu ?_));show qy _ _ (yAi (.ref i1) >>= _) _ _ _;rcases hend with rfl | ⟨k1,rfl⟩
 ·exact wB (D1.done _ _ _ s11 λ h₂ e hs₂ he=>hE h₂ _ e (λ c o c1 c3 _ x=>hs₂ _ _ c3 (hs₁.extBut _ _ c1 x)) he)
 ·refine wB (D1.item k _ _ _ k1 s11 λ x h₂ tk₂ px s12 hs₂=>wP ?_)
  have s22:bF k h₂:=D2.frame k _ _ s21 λ c hc o e=>hs₂.extBut _ _ (Z.f2 c hc).2.2 e
  refine wP ?_;refine wB (wB (zu ?_));show qy _ _ (yAi (.ref i2) >>= _) _ _ _;exact wB (D2.done _ _ _ s22 λ h₃ e hs₃ he=>hE h₃ _ e (λ c o c1 c3 c4 x=>hs₃ _ _ c4 (hs₂.extBut _ _ c3 (hs₁.extBut _ _ c1 x))) he)
theorem aKV{z TI TO i1 i2 a:qv}{f:Bool}{cB cC:List qv}{n1 n2 k:Nat}{P1 P2:Nat->qx->Prop}{bG bF:Nat->Heap->Prop}{Q:Option qx->qj->Prop}
 (D1:Draws prog w A.in1 i1 cB n1 P1 bG) (D2:Draws prog w A.in1 i2 cC n2 P2 bF) (Z:ZA z TI TO i1 i2 cB cC)
 (hz:jQ s.heap z TI TO a f) (ha:∃ o,s.heap.get? a=qq o) (bZ:xq s.heap TI (.ref i1) (.ref i2)) (s1:bG k s.heap) (s2:bF k s.heap) (k1:k<n1) (k2:k<n2)
 (hQ:∀ x y h' tk,P1 k x->P2 k y->jQ h' z TI TO a true->xq h' TI (.ref i1) (.ref i2)->bG (k+1) h'->bF (k+1) h'->xq h' s.heap.objs.size x y->h'.objs.size=s.heap.objs.size+1 ->
   (∀ c o,c≠z->c≠i1->c≠i2->s.heap.get? c=qq o->h'.get? c=qq o)->Q (qq (.ref s.heap.objs.size)) {s with heap:=h',toks:=tk }) :
 qy (model prog w) A (jo (.ref z)) Q E s:=by
 have hT:s.TypeIs (.ref z) "zip":=⟨_,hz,rfl⟩;unfold jo;exact wB (vw (wpAny_callSpecial?_slot (name:=Str.ofString "__next__") hT F.slot_zip_next
  (xz F.slot_zip_next hT F.entry_zip_next
    (aK5 D1 D2 Z hz ha bZ s1 s2 k1 k2 λ x y h' tk a0 b0 a1 a3 a4 a5 a6 a7 a8=>wP (hQ x y h' tk a0 b0 a1 a3 a4 a5 a6 a7 a8)) (F.args_zip_next_1 _))))
theorem aK2{z TI TO i1 i2 a:qv}{f:Bool}{cB cC:List qv}{n1 n2 k:Nat}{P1 P2:Nat->qx->Prop}{bG bF:Nat->Heap->Prop}{Q:Option qx->qj->Prop}
 (D1:Draws prog w A.in1 i1 cB n1 P1 bG) (D2:Draws prog w A.in1 i2 cC n2 P2 bF) (Z:ZA z TI TO i1 i2 cB cC)
 (hz:jQ s.heap z TI TO a f) (ha:∃ o,s.heap.get? a=qq o) (bZ:xq s.heap TI (.ref i1) (.ref i2)) (s1:bG k s.heap) (s2:bF k s.heap) (hend:k=n1\/(k<n1/\k=n2))
 (hQ:∀ h' tk,(∀ c o,c≠z->c≠i1->c≠i2->s.heap.get? c=qq o->h'.get? c=qq o)->Q qz {s with heap:=h',toks:=tk }):qy (model prog w) A (jo (.ref z)) Q E s:=by
 have hT:s.TypeIs (.ref z) "zip":=⟨_,hz,rfl⟩;unfold jo;refine wB (vw (wpAny_callSpecial?_slot (name:=Str.ofString "__next__") hT F.slot_zip_next
  (xz F.slot_zip_next hT F.entry_zip_next (aLf D1 D2 Z hz ha bZ s1 s2 hend λ h' tk e hk he=>?_) (F.args_zip_next_1 _))))
 obtain⟨o,ho,hc⟩:=he;refine wB (yu (T:="StopIteration") (b:=true) ⟨o,ho,hc⟩ kj ?_);exact wP (hQ _ _ hk)
end
theorem Rel.relay{K:FrG}{F:Hp}{L:List qv}{S:aC}{H:Hp}(r:Rel K F L S H){p:qv}{o:HO}(hF:F p=qz)(hL:p ∉ L):Rel K F L S (bE H p o):=by
 refine⟨λ b u q=>by rw[bN (eB q hF)];exact r.sub _ _ q,r.nd,r.len,λ n a ds e1 e2=>?_,λ n a e=>?_⟩
 ·obtain⟨f,xs,e3,dl⟩:=r.loc n a ds e1 e2;have ne:a≠p:=λ z=>hL (by rw[<- z];exact xAl e1)
  exact⟨f,xs,by rw[bN ne];exact e3,dl⟩
 ·obtain⟨xs,hx⟩:=r.tr n a e;have ne:a≠p:=λ z=>hL (by rw[<- z];exact xAl e)
  exact⟨xs,by rw[bN ne];exact hx⟩
theorem aFG{K:FrG}{F:Hp}{d:D}{v:V}(k:Den K F d v):∀ {ds:List D}{xs:List V},DenL K F ds xs->DenL K F (ds++[d]) (xs++[v])
 | _,_,.nil=>.cons k .nil
 | _,_,.cons a b=>.cons a (aFG k b)
structure ZW(X:Cx)(aB:List (qv×Obj))(σ:L2.St)(F1:Hp)(L1:List qv)(S1:aC)(SA z TI TO i1 i2:qv)(ds:List D)(H F:Hp)(vs:List V)(s:qj):Prop where
 inv:Inv X aB σ H s
 same:bY F1 F
 rel:Rel X.K F L1 S1 H
 free:F SA=qz
 lst:H SA=qq (.lst vs)
 den:DenL X.K F ds vs
 fp:∀ c∈[z,TI,TO,i1,i2],gJ X aB H c
structure ZH(z TI TO i1 i2 a b:qv)(t u:Bool)(i:Nat)(h:Heap):Prop where
 ti:xq h TI (.ref i1) (.ref i2)
 q1:dS t h i1 a i
 q2:dS u h i2 b i
 to:∃ o,h.get? TO=qq o
 z:(xo h z TI TO .none/\∃ x y,xq h TO x y)\/∃ a0 f,jQ h z TI TO a0 f/\∃ o,h.get? a0=qq o
theorem ZH.zlt{z TI TO i1 i2 a b:qv}{t u:Bool}{i:Nat}{h:Heap}(x:ZH z TI TO i1 i2 a b t u i h):∃ o,h.get? z=qq o:=by
 rcases x.z with ⟨y,_⟩ | ⟨_,_,y,_⟩
 ·exact⟨_,y⟩
 ·exact⟨_,y⟩
theorem ZH.keep{z TI TO i1 i2 a b:qv}{t u:Bool}{i:Nat}{h h':Heap}(x:ZH z TI TO i1 i2 a b t u i h)(k:∀ c o,c∈[z,TI,TO,i1,i2]->h.get? c=qq o->h'.get? c=qq o)(k2:∀ c o,h.get? c=qq o->∃ o',h'.get? c=qq o'):ZH z TI TO i1 i2 a b t u i h':=by
 refine⟨k _ _ (by simp) x.ti,x.q1.at λ o e=>k _ _ (by simp) e,x.q2.at λ o e=>k _ _ (by simp) e,let ⟨o,e⟩:=x.to;k2 _ _ e,?_⟩
 rcases x.z with ⟨y,p,q,r⟩ | ⟨a0,f,y,o,e⟩
 ·exact .inl ⟨k _ _ (by simp) y,p,q,k _ _ (by simp) r⟩
 ·exact .inr ⟨a0,f,k _ _ (by simp) y,k2 _ _ e⟩
section
variable {X : Cx}{aB : List (qv×Obj)}{σ : L2.St}{F1 : Hp}{L1 : List qv}{S1 : aC}{SA z TI TO i1 i2 a b : qv}{t u : Bool}{ds : List D}{H F : Hp}{vs : List V}{s : qj}{xs ys : List V}{ds1 ds2 : List D}{A : zy}{E : qx -> qj -> Prop}{i : Nat}
theorem aNH{Q:Option qx->qj->Prop}(hh:A.in1.handled=qz)(Z:ZA z TI TO i1 i2 [i1,a] [i2,b])(n1:a≠i1)(n2:b≠i2)(sq1:Sq t X.K F1 a xs)(dl1:DenL X.K F1 ds1 xs)(sq2:Sq u X.K F1 b ys)(dl2:DenL X.K F1 ds2 ys)
 (hw:ZW X aB σ F1 L1 S1 SA z TI TO i1 i2 ds H F vs s) (hz:ZH z TI TO i1 i2 a b t u i s.heap) {d:D} (hd:(dQ ds1 ds2)[i]? = qq d)
 (hQ:∀ s' p H' F',ZW X aB σ F1 L1 S1 SA z TI TO i1 i2 ds H' F' vs s'->ZH z TI TO i1 i2 a b t u (i+1) s'.heap->Den X.K F' d (.ref p)->Q (qq (.ref p)) s'):qy (model X.prog X.w) A (jo (.ref z)) Q E s:=by
 obtain⟨d1,d2,e1,e2,rfl⟩:=aFZ ds1 ds2 i d hd;obtain⟨x,hx,dx⟩:=dl1.get e1;obtain⟨y,hy,dy⟩:=dl2.get e2;have I:=hw.inv;obtain⟨gC,rv1,pl1⟩:=gS I (fH (hw.same.trans hw.rel.sub) sq1);obtain⟨eG,rv2,pl2⟩:=gS I (fH (hw.same.trans hw.rel.sub) sq2);obtain⟨u1,hu1,ru1⟩:=rv1.get hx;obtain⟨u2,hu2,ru2⟩:=rv2.get hy;have lt1:i<gC.toArray.size:=by rw[yAe];exact(gIm hu1).1
 have lt2:i<eG.toArray.size:=by rw[yAe];exact(gIm hu2).1
 have D1:=kT (prog:=X.prog) (w:=X.w) (A:=A.in1) hh t i1 a n1 gC.toArray;have D2:=kT (prog:=X.prog) (w:=X.w) (A:=A.in1) hh u i2 b n2 eG.toArray;have hp:H s.heap.objs.size=qz:=I.fresh;have bJ:∀ x' y' h' tk,gC.toArray[i]? = qq x'->eG.toArray[i]? = qq y'->xq h' TI (.ref i1) (.ref i2)->dS t h' i1 a (i+1)->dS u h' i2 b (i+1)->xq h' s.heap.objs.size x' y' ->
  (∀ c o,c≠z->c≠TO->c≠i1->c≠i2->s.heap.get? c=qq o->h'.get? c=qq o)->(∃ o,h'.get? TO=qq o)->(∃ a0 f,jQ h' z TI TO a0 f/\∃ o,h'.get? a0=qq o)->Q (qq (.ref s.heap.objs.size)) {s with heap:=h',toks:=tk }:=λ x' y' h' tk px py ti q1 q2 hT hk hto hzb=>by
  have ex:x'=u1:=by rw[yDg,hu1] at px;exact(Option.some.inj px).symm
  have ey:y'=u2:=by rw[yDg,hu2] at py;exact(Option.some.inj py).symm
  subst ex ey;have I2:Inv X aB σ (bE H s.heap.objs.size (.tup [x,y])) {s with heap:=h',toks:=tk }:=by
   refine aE1 I hw.fp (λ c o hb e'=>?_) (yAc _) ⟨by show 2<=qk;decide,[x',y'],.cons ru1 (.cons ru2 .nil),⟨_,hT,rfl,0,rfl⟩⟩
   exact hk c o (λ q=>hb (by simp[q])) (λ q=>hb (by simp[q])) (λ q=>hb (by simp[q])) (λ q=>hb (by simp[q])) e'
  have hF:F s.heap.objs.size=qz:=hw.rel.sub.free hp;have neS:SA≠s.heap.objs.size:=λ q=>by rw[<- q,hw.lst] at hp;cases hp
  refine hQ _ s.heap.objs.size _ (bE F s.heap.objs.size (.tup [x,y])) ⟨I2,hw.same.trans (eI hF),hw.rel.new hp,by rw[bN neS];exact hw.free,by rw[bN neS];exact hw.lst,hw.den.mono (eI hF),λ c hc=>?_⟩ ⟨ti,q1,q2,hto,.inr hzb⟩ ?_
  ·have f:=hw.fp c hc;have:c≠s.heap.objs.size:=by
    have hc':∃ o,s.heap.get? c=qq o:=by
     simp only[yCt,yCo,or_false] at hc;rcases hc with rfl | rfl | rfl | rfl | rfl
     ·exact hz.zlt
     ·exact⟨_,hz.ti⟩
     ·exact hz.to
     ·obtain⟨o,ho,_⟩:=hz.q1.obj;exact⟨o,ho⟩
     ·obtain⟨o,ho,_⟩:=hz.q2.obj;exact⟨o,ho⟩
    obtain⟨o,ho⟩:=hc';exact xAk (xAa ho)
   exact⟨by rw[bN this];exact f.1,f.2⟩
  ·exact .tup (cD.of dE) (.cons (dx.mono (hw.same.trans (eI hF))) (.cons (dy.mono (hw.same.trans (eI hF))) .nil))
 rcases hz.z with ⟨hz0,p,q,cL⟩ | ⟨a0,f,hzb,ha0⟩
 ·refine aKU D1 D2 Z hz0 hz.ti cL ⟨hz.q1,pl1⟩ ⟨hz.q2,pl2⟩ lt1 lt2 λ x' y' h₁ tk px py hz₁ hTO₁ hTI₁ s1 s2 hT₁ hsz hk=>?_
  exact bJ x' y' h₁ tk px py hTI₁ s1.1 s2.1 hT₁ hk ⟨_,hTO₁⟩ ⟨s.heap.objs.size,false,hz₁,_,hT₁⟩
 ·refine aKV D1 D2 Z hzb ha0 hz.ti ⟨hz.q1,pl1⟩ ⟨hz.q2,pl2⟩ lt1 lt2 λ x' y' h₁ tk px py hz₁ hTI₁ s1 s2 hT₁ hsz hk=>?_
  refine bJ x' y' h₁ tk px py hTI₁ s1.1 s2.1 hT₁ (λ c o c1 _ c3 c4 e=>hk c o c1 c3 c4 e) (let ⟨o,e⟩:=hz.to;⟨o,hk _ o Z.TOz Z.TOi1 Z.TOi2 e⟩) ⟨a0,true,hz₁,?_⟩
  obtain⟨o,ho⟩:=ha0
  by_cases c1:a0=z
  ·rw[c1];exact⟨_,hz₁⟩
  by_cases c2:a0=i1
  ·rw[c2];obtain⟨o,ho,_⟩:=s1.1.obj;exact⟨o,ho⟩
  by_cases c3:a0=i2
  ·rw[c3];obtain⟨o,ho,_⟩:=s2.1.obj;exact⟨o,ho⟩
  exact⟨o,hk a0 o c1 c2 c3 ho⟩
theorem aOX{p:qv}{d:D}{aF:List qx}{n:Nat}{tk:Nat}(hL:SA ∉ L1)(hw:ZW X aB σ F1 L1 S1 SA z TI TO i1 i2 ds H F vs s)(hz:ZH z TI TO i1 i2 a b t u i s.heap)(hd:Den X.K F d (.ref p))(hl:vs.length+1<=qk)
 (rv:aU vs aF) (e:s.heap.get? SA=qq {cls:=.type "list",data:=.seq aF.toArray n }) :
 ∃ H',ZW X aB σ F1 L1 S1 SA z TI TO i1 i2 (ds++[d]) H' F (vs++[.ref p]) {s with heap:=s.heap.update SA (Obj.mapSeq (·.push (.ref p))),toks:=tk }/\ZH z TI TO i1 i2 a b t u i (s.heap.update SA (Obj.mapSeq (·.push (.ref p)))):=by
 have I3:Inv X aB σ (bE H SA (.lst (vs++[.ref p]))) {s with heap:=s.heap.update SA (Obj.mapSeq (·.push (.ref p))),toks:=tk }:=hw.inv.lset (its':=aF++[.ref p]) hw.lst e (by simp) (aU.append rv (.cons (show aZ (.ref p) (Value.ref p) from rfl) .nil)) (by rw[xAo];exact hl)
 have ne:∀ c∈[z,TI,TO,i1,i2],c≠SA:=λ c hc q=>by
  have:=(hw.fp c hc).1;rw[q,hw.lst] at this;cases this
 refine⟨_,⟨I3,hw.same,Rel.relay hw.rel hw.free hL,hw.free,dE,aFG hd hw.den,λ c hc=>⟨by rw[bN (ne c hc)];exact(hw.fp c hc).1,(hw.fp c hc).2⟩⟩,hz.keep (λ c o hc q=>(yBt _ _ (Ne.symm (ne c hc))).trans q) λ c o q=>?_⟩
 by_cases c1:c=SA
 ·subst c1;exact⟨_,PySem.IsL.update e _⟩
 ·exact⟨o,(yBt _ _ (Ne.symm c1)).trans q⟩
theorem aNF{R:Result->qj->Prop}{res:qx}(hh:A.in1.in1.handled=qz)(Z:ZA z TI TO i1 i2 [i1,a] [i2,b])(n1:a≠i1)(n2:b≠i2)(sq1:Sq t X.K F1 a xs)(dl1:DenL X.K F1 ds1 xs)(sq2:Sq u X.K F1 b ys)(dl2:DenL X.K F1 ds2 ys)(hL:SA ∉ L1)(cF:(dQ ds1 ds2).length<=1000000)
 (hR:∀ s' H' F' vs',ZW X aB σ F1 L1 S1 SA z TI TO i1 i2 (dQ ds1 ds2) H' F' vs' s'->R (.ok (.ret res)) s') :
 ∀ (k i:Nat) (s:qj) (H F:Hp) (vs:List V),(dQ ds1 ds2).length-i=k->i<=(dQ ds1 ds2).length->ZW X aB σ F1 L1 S1 SA z TI TO i1 i2 ((dQ ds1 ds2).take i) H F vs s->ZH z TI TO i1 i2 a b t u i s.heap ->
 vy (model X.prog X.w) A (.builtin "list.extend.loop" ⟨[.ref SA,.ref z,res],[]⟩) R s:=by
 intro k
 induction k with
 | zero =>
   intro i s H F vs hk hi hw hz;have hin:i=(dQ ds1 ds2).length:=by omega
   refine codeAny_builtin yGo ?_;rw[Around.under_plainId yDi _];show qy _ A.in1 (jo (.ref z) >>= _) _ _ s;rw[hin,yAh] at hw;have I:=hw.inv;obtain⟨gC,rv1,pl1⟩:=gS I (fH (hw.same.trans hw.rel.sub) sq1);obtain⟨eG,rv2,pl2⟩:=gS I (fH (hw.same.trans hw.rel.sub) sq2);have D1:=kT (prog:=X.prog) (w:=X.w) (A:=A.in1.in1) hh t i1 a n1 gC.toArray;have D2:=kT (prog:=X.prog) (w:=X.w) (A:=A.in1.in1) hh u i2 b n2 eG.toArray;have l1:=rv1.length;have l2:=rv2.length;have m1:=dl1.length;have m2:=dl2.length;rw[aEU] at hin;have hend:i=gC.toArray.size\/(i<gC.toArray.size/\i=eG.toArray.size):=by
    rw[yAe,yAe];omega
   have bJ:∀ h' tk,(∀ c o,c≠z->c≠TO->c≠i1->c≠i2->s.heap.get? c=qq o->h'.get? c=qq o)->R (.ok (.ret res)) {s with heap:=h',toks:=tk }:=λ h' tk hk' =>
    hR _ H F vs ⟨aE7 I hw.fp λ c o hb e'=>hk' c o (λ q=>hb (by simp[q])) (λ q=>hb (by simp[q])) (λ q=>hb (by simp[q])) (λ q=>hb (by simp[q])) e',hw.same,hw.rel,hw.free,hw.lst,hw.den,hw.fp⟩
   rcases hz.z with ⟨hz0,p,q,cL⟩ | ⟨a0,f,hzb,ha0⟩
   ·exact wB (aK1 D1 D2 Z hz0 hz.ti cL ⟨hz.q1,pl1⟩ ⟨hz.q2,pl2⟩ hend λ h₁ tk hk'=>wP (bJ h₁ tk hk'))
   ·exact wB (aK2 D1 D2 Z hzb ha0 hz.ti ⟨hz.q1,pl1⟩ ⟨hz.q2,pl2⟩ hend λ h₁ tk hk'=>wP (bJ h₁ tk λ c o c1 _ c3 c4 e=>hk' c o c1 c3 c4 e))
 | succ k ih =>
   intro i s H F vs hk hi hw hz;have hlt:i<(dQ ds1 ds2).length:=by omega
   refine codeAny_builtin yGo ?_;rw[Around.under_plainId yDi _];show qy _ A.in1 (jo (.ref z) >>= _) _ _ s;refine wB (aNH hh Z n1 n2 sq1 dl1 sq2 dl2 hw hz (yAa hlt) λ s' p H' F' hw' hz' hd=>?_)
   obtain⟨hv,aF,n,rv,hl,e⟩:=hw'.inv.lstM hw'.lst;have vl:vs.length=i:=by
    have:=hw'.den.length;rw[yBx] at this;omega
   have hs:1000000<=qk:=aE0;show qy _ A.in1 (updateSeq SA (·.push (.ref p)) >>= _) _ _ _;obtain⟨H3,hw3,hz3⟩:=aOX (tk:=s'.toks) hL hw' hz' hd (by omega) rv e
   rw[show(dQ ds1 ds2).take i++[(dQ ds1 ds2)[i]]=(dQ ds1 ds2).take (i+1) from (yFi hlt).symm] at hw3
   refine wB (vo e rfl (wP ⟨plainId_quiet yDi _,ih (i+1) _ H3 F' _ (by omega) hlt hw3 hz3⟩) (by simp;omega) (by simp;omega))
end
theorem aLQ:typeLookup (.type "zip") "__len__" = pure qz:=by rw[typeLookup_type,builtinLookup_eq_fast];kernel_rfl
theorem aLD:typeLookup (.type "zip") "__length_hint__" = pure qz:=by rw[typeLookup_type,builtinLookup_eq_fast];kernel_rfl
section
variable {prog : qo}{w : zw}{A : zy}{s : qj}{R : Result -> qj -> Prop}{z TI TO : qv}{f0 : qx}
theorem aL2(S:qv)(res:qx)(c₀:Nat)(hz:xo s.heap z TI TO f0)(hSz:S≠z)(hS:s.heap.get? S=qq {cls:=.type "list",data:=.seq #[] c₀ })
 (hR:∀ h' c,(∀ b o,b≠S->s.heap.get? b=qq o->h'.get? b=qq o)->h'.get? S=qq {cls:=.type "list",data:=.seq #[] c }->vy (model prog w) A (.builtin "list.extend.loop" ⟨[.ref S,.ref z,res],[]⟩) R {s with heap:=h' }) :
 qy (model prog w) A.in1 (yDa (.ref S) (.ref z) res)
  (λ bJ s'=>match bJ with | .done f=>R (.ok f) s' | .again c'=>c'.quiet=true/\vy (model prog w) A c' R s') (λ e s'=>R (.error e) s') s:=by
 have hT:s.TypeIs (.ref z) "zip":=⟨_,hz,rfl⟩;unfold yDa;refine wB (wpAny_typeOf hT ?_);have h1:yGs (.ref S) (.ref z)=false:=by simp[yGs,hSz]
 have h2:(Value.type "zip" == Value.type "list")=false:=by decide
 have h3:(Value.type "zip" == Value.type "tuple")=false:=by decide
 simp only[h1,h2,h3,yDr,yAt,if_false];refine wB (yo hz ?_);refine wB (zu ?_);unfold Builtin.List.listLengthHint;refine wB (kz hT aLQ ?_);show qy _ A.in1 (specialOf (Value.ref z) (Str.ofString "__length_hint__") >>= _) _ _ _;refine wB (kz hT aLD ?_);refine wP ?_;show qy _ A.in1 (rule "list.extend.makes-room" >>= λ _=>Builtin.List.listTouch (.ref S) >>= λ _ =>
  again (.builtin "list.extend.loop" ⟨[.ref S,.ref z,res],[]⟩)) _ _ _
 refine wB (vj ?_);refine wB ?_;show qy _ A.in1 (updateSeq S (·.push .none) >>= λ _=>updateSeq S (·.pop)) _ _ _
 refine wB (vo hS rfl ?_);have hS₂:=yCk (Obj.mapSeq (·.push Value.none)) hS rfl;refine vo (hz:=by seq_fits) hS₂ rfl ?_
 have hS₃:=yCk (Obj.mapSeq (·.pop)) hS₂ rfl;have oth:∀ b o,b≠S->s.heap.get? b=qq o->((s.heap.update S (Obj.mapSeq (·.push Value.none))).update S (Obj.mapSeq (·.pop))).get? b=qq o:=
  λ b o hb e=>(yBt _ _ (Ne.symm hb)).trans ((yBt _ _ (Ne.symm hb)).trans e)
 exact wP ⟨plainId_quiet yDi _,hR _ _ oth hS₃⟩
theorem aNf(S:qv)(hz:xo s.heap z TI TO f0)(hSz:S≠z)(hS:s.heap.get? S=qq {cls:=.type "list",data:=.seq #[] })
 (hR:∀ h' c,(∀ b o,b≠S->s.heap.get? b=qq o->h'.get? b=qq o)->h'.get? S=qq {cls:=.type "list",data:=.seq #[] c }->vy (model prog w) A (.builtin "list.extend.loop" ⟨[.ref S,.ref z,.none],[]⟩) R {s with heap:=h' }) :
 qy (model prog w) A.in1 (Builtin.«list.__init__» ⟨[.ref S,.ref z],[]⟩)
  (λ bJ s'=>match bJ with | .done f=>R (.ok f) s' | .again c'=>c'.quiet=true/\vy (model prog w) A c' R s') (λ e s'=>R (.error e) s') s:=by
 show qy _ A.in1 (yHd (.ref S) >>= λ old=>Builtin.List.listUpdate (.ref S) (λ _=>#[]) >>= λ _=>letGo old.toList.reverse >>= λ _=>yDa (.ref S) (.ref z) .none) _ _ s
 refine wB ?_;unfold yHd;refine wB (zx hS rfl (wP ?_));show qy _ A.in1 (updateSeq S (λ _=>#[]) >>= λ _=>letGo (#[]:Array qx).toList.reverse >>= λ _=>yDa (.ref S) (.ref z) .none) _ _ s
 have hS2:=yCk (Obj.mapSeq (λ _=>(#[]:Array qx))) hS rfl
 have oth:∀ b o,b≠S->s.heap.get? b=qq o->(s.heap.update S (Obj.mapSeq (λ _=>(#[]:Array qx)))).get? b=qq o:=λ b o hb e=>(yBt _ _ (Ne.symm hb)).trans e
 refine wB (vo hS rfl (wB (jk ?_)));exact aL2 S .none _ (oth _ _ (Ne.symm hSz) hz) hSz hS2 λ h' c hk hS'=>hR h' c (λ b o hb e=>hk b o hb (oth b o hb e)) hS'
end
section
variable {prog : qo}{w : zw}{A : zy}{E : qx -> qj -> Prop}{s : qj}{z TI TO : qv}{f0 : qx}
theorem aLe{Q:qx->qj->Prop}(hz:xo s.heap z TI TO f0)
 (hQ:∀ h' c (R:Result->qj->Prop),(∀ b o,s.heap.get? b=qq o->h'.get? b=qq o)->h'.get? s.heap.objs.size=qq {cls:=.type "list",data:=.seq #[] c }->(∀ s',Q (.ref s.heap.objs.size) s'->R (.ok (.ret .none)) s')->vy (model prog w) A.in1 (.builtin "list.extend.loop" ⟨[.ref s.heap.objs.size,.ref z,.none],[]⟩) R {s with heap:=h' }) :
 qy (model prog w) A (call (.type "list") [.ref z]) Q E s:=by
 have hSz:s.heap.objs.size≠z:=yEu (xAa hz);have hS:(s.heap.push {cls:=.type "list",data:=.seq #[] }).get? s.heap.objs.size=qq {cls:=.type "list",data:=.seq #[] }:=xAe _ rfl;refine callType_codes (Q₁:=λ ob s1=>ob=.ref s.heap.objs.size/\s1={s with heap:=s.heap.push {cls:=.type "list",data:=.seq #[] } }) PySem.F.called_list (PySem.F.typeCall_list_1 _) PySem.F.entry_list_init (code_list_new _ ⟨rfl,rfl⟩) λ ob s1 h1=>?_
 obtain⟨rfl,rfl⟩:=h1;refine⟨⟨_,hS,rfl⟩,PySem.F.args_list_init_2 _ _,aNf _ (hpS _ hz) hSz hS λ h' c hk hS'=>?_⟩
 exact hQ h' c _ (λ b o e=>hk b o (xAk (xAa e)) (hpS _ e)) hS' λ s' q=>⟨rfl,q⟩
end
noncomputable def sE(fa fb:FE):FL:=oQ (aA4 fa fb)
section
variable {X : Cx}
theorem aQF{a b:qw}{fa fb:FE}{p p2 pos pos2:Pos}(ha:PE X a (aW X.K fa))(hb:PE X b (aW X.K fb))(hc:X.calm=true)(hg:Gl X "list")(hm:X.mg "list" = qz)(hg2:Gl X "zip")(hm2:X.mg "zip" = qz)
 (hs:zq [a,b] X.env=(false,eval a X.env)::zq [b] X.env) (hs2:zq [b] X.env=[(false,eval b X.env)]):PE X (.Call (.Name "list" p) [.Call (.Name "zip" p2) [a,b] [] pos2] [] pos) (iC X.K (sE fa fb)):=by
 rintro aB s σ H Q I ⟨F,L,S,env,ds,S',R,E,e,q⟩;obtain⟨⟨ds',S1'⟩,e0,e⟩:=bind_some e;obtain⟨⟨w1,S1⟩,e1,e2⟩:=bind_some e0;obtain⟨⟨w2,S2⟩,e3,e4⟩:=bind_some e2;obtain⟨ds1,e5,e6⟩:=bind_some e4;obtain⟨ds2,e7,e8⟩:=bind_some e6;dsimp only at e e3 e5 e7;cases e8
 split at e
 ·rename_i cF;cases e;refine xy (lA I hg hm (show jq "list" = qq (.type "list") by decide +kernel) ?_)
  refine yBd ?_ rfl rfl;show qy _ _ (spliced ((false,eval (.Call (.Name "zip" p2) [a,b] [] pos2) X.env)::[])) _ _ s;refine Calls.spliced_cons ?_;refine xy (lA I hg2 hm2 boot_zip ?_);refine yBd ?_ hs (by rw[hs2];rfl)
  refine bC (mI ha (mI hb aAD hs2) hs pos2 aB s σ H (λ vs H1=>∃ v v2 F1 L1,vs=[v,v2]/\Gr F L F1 L1/\Rel X.K F1 L1 S2 H1/\eE X.K F1 L1 w1 v/\eE X.K F1 L1 w2 v2) I ⟨F,L,S,env,[w1,w2],_,R,E,by unfold eQ;rw[e1];dsimp only[yCz];rw[e3];rfl,λ F1 L1 H1 vs g1 R1 d1=>by
   cases d1 with
   | cons d0 dr =>
     cases dr with
     | cons d2 dr=>cases dr;exact⟨_,_,F1,L1,rfl,g1,R1,d0,d2⟩⟩) λ us s1 ⟨vs,H1,I1,r1,v,v2,F1,L1,ev,g1,R1,d1,d2⟩=>?_
  subst ev;obtain⟨u1,u2,rfl,ru1,ru2⟩:=aAR r1;obtain⟨t,l1,xs,rfl,sq1,dl1⟩:=tV e5 d1;obtain⟨u,l2,ys,rfl,sq2,dl2⟩:=tV e7 d2;cases ru1;cases ru2;obtain⟨gC,rv1,pl1⟩:=gS I1 (fH R1.sub sq1);obtain⟨eG,rv2,pl2⟩:=gS I1 (fH R1.sub sq2);have a1:=pl1.lt;have a2:=pl2.lt;refine aMA pl1 pl2 λ h' hz bZ cL hi1 hi2 hsz hk=>?_
  refine Calls.spliced_nil ?_;have I2:Inv X aB σ H1 {s1 with heap:=h' }:=I1.kept (t':=s1.toks) hk
  have hb':∀ b∈[s1.heap.objs.size+4,s1.heap.objs.size+2,s1.heap.objs.size+3,s1.heap.objs.size,s1.heap.objs.size+1],s1.heap.objs.size<=b/\b<s1.heap.objs.size+5:=λ b hb=>by
   simp only[yCt,yCo,or_false] at hb;omega
  have Z:=aRd (n:=s1.heap.objs.size) (a:=l1) (b:=l2) a1 a2;refine aLe hz λ h2 c R2 hk2 hS hR2=>?_
  dsimp only at hk2 hS hR2 ⊢;have fr:H1 h'.objs.size=qz:=I2.hok.fresh (yAc _);have I3:Inv X aB σ (bE H1 h'.objs.size (.lst [])) {s1 with heap:=h2 }:=I2.laid (t':=s1.toks) hk2 (yAc _) ⟨yFz _,[],c,.nil,hS⟩
  have nS:h'.objs.size ∉ L1:=R1.notin fr;have fpk:∀ b∈[s1.heap.objs.size+4,s1.heap.objs.size+2,s1.heap.objs.size+3,s1.heap.objs.size,s1.heap.objs.size+1],gJ X aB (bE H1 h'.objs.size (.lst [])) b:=λ b hb=>by
   have f:=I1.fpOk (hb' b hb).1 (I1.hok.fresh (hb' b hb).1);exact⟨by rw[bN (by rw[hsz];exact xAk (hb' b hb).2)];exact f.1,f.2⟩
  refine aNF (X:=X) (A:=X.A.in1) (aB:=aB) (σ:=σ) (F1:=F1) (L1:=L1) (S1:=S2) (ds1:=ds1) (ds2:=ds2) (show X.A.in1.in1.in1.handled=qz from I.ok.hd hc) Z (xAk a1) (xAk (yEk a2)) sq1 dl1 sq2 dl2 nS cF (λ s' H' F' vs' hw=>hR2 s' ?_) _ 0 _ (bE H1 h'.objs.size (.lst [])) F1 [] rfl (yFz _)
   ⟨I3,bY.refl _,R1.lay fr,R1.sub.free fr,dE,.nil,fpk⟩ ⟨hk2 _ _ bZ,hi1.at λ o e=>hk2 _ _ e,hi2.at λ o e=>hk2 _ _ e,⟨_,hk2 _ _ cL⟩,.inl ⟨hk2 _ _ hz,_,_,hk2 _ _ cL⟩⟩
  exact⟨.ref h'.objs.size,H',hw.inv,rfl,q F' L1 H' _ vs' (g1.trans ⟨hw.same,[],by simp⟩) hw.rel hw.free nS hw.lst hw.den⟩
 ·cases e
end
section
variable {prog : qo}{w : zw}{A : zy}{E : qx -> qj -> Prop}{s : qj}
end
section
variable {X : Cx}{tg : qw}
end
section
variable {X : Cx}
end
noncomputable def kE(fa:FE)(fl fh:FO):FE:=λ env S=>(fa env S).bind λ p=>(fl env p.2).bind λ q=>(fh env q.2).bind λ r=>(dr r.2 p.1).bind λ d=>match d with
 | .list xs=>qq (.d (.list (eS xs q.1 r.1)),r.2)
 | .tuple xs=>qq (.d (.tuple (eS xs q.1 r.1)),r.2)
 | _=>qz
noncomputable def fM(fa:FE):FL:=λ env S=>(fa env S).bind λ p=>match p.1 with
 | .d (.list ds)=>qq (ds,p.2)
 | .d (.tuple ds)=>qq (ds,p.2)
 | _=>qz
section
variable {X : Cx}{pos : Pos}
theorem aVq{a:qw}{lo hi:Option qw}{p2:Pos}{fa:FE}{fl fh:FO}(ha:PE X a (aW X.K fa))(hl:PO X lo (lS X.K fl))(hh:PO X hi (lS X.K fh)):PE X (.Subscript a (.Slice lo hi qz p2) pos) (aW X.K (kE fa fl fh)):=by
 rintro aB s σ H Q I ⟨F,L,S,env,w,S',R,E,e,q⟩;obtain⟨⟨w1,S1⟩,e1,e⟩:=bind_some e;obtain⟨⟨l,S2⟩,e2,e⟩:=bind_some e;obtain⟨⟨h,S3⟩,e3,e⟩:=bind_some e;obtain⟨d,e4,e⟩:=bind_some e;dsimp only at e e2 e3 e4;cases d with
 | list xs =>
   cases e;refine aKn (aTv ha hl hh) aB s σ H Q I ⟨F,L,S,env,_,_,R,E,?_,q⟩;unfold cO aJ6;rw[e1];dsimp only[yCz];rw[e2];dsimp only;rw[e3];dsimp only;rw[e4];rfl
 | tuple xs =>
   cases e;refine aQd ha hl hh aB s σ H Q I ⟨F,L,S,env,_,_,R,E,?_,q⟩;unfold aJb;rw[e1];dsimp only[yCz];rw[e2];dsimp only;rw[e3];dsimp only;rw[e4];dsimp only[aJY]
 | _=>cases e
theorem aVd{tg a:qw}{fa:FE}(ha:PE X a (aW X.K fa)):PI X tg a (kP X.K (fM fa)):=by
 rintro aB s σ H Rr I ⟨F,L,S,env,ds,S',R,E,e,q⟩;obtain⟨⟨w1,S1⟩,e1,e⟩:=bind_some e;dsimp only at e
 split at e
 ·rename_i ds';cases e;refine aUI ha aB s σ H Rr I ⟨F,L,S,env,_,_,R,E,?_,q⟩;unfold aKB;rw[e1];rfl
 ·cases e;refine aTw ha aB s σ H Rr I ⟨F,L,S,env,_,_,R,E,?_,q⟩;unfold aJ7;rw[e1];rfl
 ·cases e
end
inductive Ty where
 | int | bool | str | lst | tup
 deriving DecidableEq
noncomputable def Ty.s:Ty->String
 | .int => "int" | .bool => "bool" | .str => "str" | .lst => "list" | .tup => "tuple"
noncomputable def Ty.n:Ty->Str
 | .int => "int" | .bool => "bool" | .str => "str" | .lst => "list" | .tup => "tuple"
noncomputable def fS:Ty->D->Option D
 | _,.dict _=>qz
 | .int,.int _=>qq (.bool true)
 | .int,.bool _=>qq (.bool true)
 | .bool,.bool _=>qq (.bool true)
 | .str,.str _=>qq (.bool true)
 | .lst,.list _=>qq (.bool true)
 | .tup,.tuple _=>qq (.bool true)
 | _,_=>qq (.bool false)
theorem aTb{i:Int}:fS .int (.int i)=qq (.bool true):=rfl
theorem aUw{i:Int}:fS .bool (.int i)=qq (.bool false):=rfl
theorem aUJ{xs:List D}:fS .tup (.tuple xs)=qq (.bool true):=rfl
theorem aUn{b:Bool}:fS .bool (.bool b)=qq (.bool true):=rfl
theorem aSM{b:Bool}:fS .int (.bool b)=qq (.bool true):=rfl
theorem aRi(K:FrG){ty:Ty}{d z:D}(h:fS ty d=qq z):wH K ty.s d=qq z:=by
 cases ty<;>cases d<;>first | (cases h;done) | (cases h;rfl)
inductive B where
 | len | mx | mn | int | abs | tup | sum | all | any
 deriving DecidableEq
noncomputable def B.g:B->List D->Option D
 | .len=>eT | .mx=>mX | .mn=>qF | .int=>pZ | .abs=>aDA | .tup=>vB | .sum=>aDk | .all=>wN | .any=>sI
noncomputable def B.n:B->Str
 | .len => "len" | .mx => "max" | .mn => "min" | .int => "int" | .abs => "abs" | .tup => "tuple" | .sum => "sum" | .all => "all" | .any => "any"
inductive E where
 | var (i:Nat) | int (i:Int) | bl (b:Bool) | non | str (x:Str)
 | bin (op:vq) (a b:E) | un (op:yx) (a:E) | cmp (op:vv) (a b:E) | ltl (a b:E)
 | and (a b:E) | or (a b:E) | not (a:E) | ite (c a b:E)
 | tup (es:E) | lst (es:E) | nil | cons (a r:E)
 | chn (op op':vv) (a b c:E) | con (x:Str) (ts:List Tv)
 | ix (a b:E) | dsp (k l m:Str) (a b c i:E) | tab (x:Str) (aX:List (Str×Tv)) (k:E) | slL (a lo hi:E) | sl (a lo hi:E) | no
 | call (f:Nat) (es:E) | blt (b:B) (es:E) | isi (a:E) (n:Ty) | bits (a:E) | app (o a:E) | pop (o a:E) | idx (o a:E)
 | lof (a:E) | lzip (a b:E) | lrg1 (a:E) | lrg2 (a b:E) | srt (a:E) | lrev (a:E) | lrep (a b:E) | comp (elt:E) (t:Tg) (it:E) (cond:E)
 | it (a:E) | rng1 (a:E) | rng2 (a b:E) | rng3 (a b c:E) | rrng (a:E) | enm (a:E) | zip (a b:E) | zip3 (a b c:E)
 | fz (a:E) | new (a:E)
noncomputable abbrev Calls:=Nat->Option (Nat×(List W->aC->Option (W×aC)))
noncomputable def kX(C:Calls)(f:Nat)(fs:FA):FE:=λ env S=>match C f with
 | some (np,call)=>aAE fs np call env S
 | none=>qz
section
variable (C : Calls)
mutual
noncomputable def ev:E->FE
 | .var i=>iN i
 | .int i=>fC (.int i)
 | .bl b=>fC (.bool b)
 | .non=>fC .none
 | .str x=>fC (.str x)
 | .bin op a b=>qE op (ev a) (ev b)
 | .un op a=>xJ op (ev a)
 | .cmp op a b=>mY op (ev a) (ev b)
 | .and a b=>vM (ev a) (ev b)
 | .or a b=>wG (ev a) (ev b)
 | .not a=>vS (ev a)
 | .ite c a b=>wJ (tv c) (ev a) (ev b)
 | .tup es=>vX (av es)
 | .ix a b=>nF (ev a) (ev b)
 | .tab _ aX k=>f1 (ev k) (fZ (aBa aX))
 | .con _ ts=>fC (.tuple (ts.map Tv.d))
 | .sl a lo hi=>kE (ev a) (ov lo) (ov hi)
 | .call f es=>kX C f (av es)
 | .blt b es=>qB (av es) b.g
 | .isi a n=>f1 (ev a) (fZ (fS n))
 | .bits a=>aDd (ev a)
 | .app o a=>hZ (ev o) (ev a)
 | .fz a=>cO (lv a)
 | .new a=>gK (lv a)
 | _=>λ _ _=>qz
noncomputable def tv:E->FT
 | .and a b=>wE (tv a) (tv b)
 | .or a b=>xE (tv a) (tv b)
 | .not a=>wF (tv a)
 | .var i=>dB (iN i)
 | .cmp op a b=>dB (mY op (ev a) (ev b))
 | .ix a b=>dB (nF (ev a) (ev b))
 | .call f es=>dB (kX C f (av es))
 | .blt b es=>dB (qB (av es) b.g)
 | .isi a n=>dB (f1 (ev a) (fZ (fS n)))
 | .bin op a b=>dB (qE op (ev a) (ev b))
 | .bl b=>dB (fC (.bool b))
 | .no=>mZ
 | _=>λ _ _=>qz
noncomputable def av:E->FA
 | .nil=>lU
 | .cons a r=>eQ (ev a) (av r)
 | _=>λ _ _=>qz
noncomputable def ov:E->FO
 | .no=>xF
 | .cons a .nil=>oK (ev a)
 | _=>λ _ _=>qz
noncomputable def lv:E->FL
 | .lst es=>vW (av es)
 | .lzip a b=>sE (ev a) (ev b)
 | .lrg1 a=>oQ (lJ (ev a))
 | .lrep a b=>wI (ev a) (ev b)
 | .comp elt t it cond=>gR t (lv it) (tv cond) (ev elt)
 | .it a=>fM (ev a)
 | .rng1 a=>lJ (ev a)
 | .rng3 a b c=>aAK (ev a) (ev b) (ev c)
 | .zip3 a b c=>aAW (ev a) (ev b) (ev c)
 | _=>λ _ _=>qz
end
inductive Sx where
 | skip | seq (a b:Sx) | expr (e:E) | ret (e:E)
 | ifs (c:E) (a b:Sx) | set (i:Nat) (e:E) | setC (nw:Bool) (i:Nat) (e:E) | setT (t:Tg) (e:E) | put (o i e:E)
 | loop (t:Tg) (it:E) (b:Sx)
noncomputable def xs:Sx->FS
 | .skip=>sF
 | .seq a b=>cZ (xs a) (xs b)
 | .expr e=>vR (ev C e)
 | .ret e=>mW (ev C e)
 | .ifs c a b=>nL (tv C c) (xs a) (xs b)
 | .set i e=>jE i (ev C e)
 | .setC nw i e=>jE i (match nw with | true=>gK (lv C e) | false=>cO (lv C e))
 | .setT t e=>aAG t (ev C e)
 | .put o i e=>lK (ev C o) (ev C i) (ev C e)
 | .loop t it b=>dA t (lv C it) (xs b)
theorem aAh{i}:ev C (.var i)=iN i:=rfl
theorem aR5{i}:ev C (.int i)=fC (.int i):=rfl
theorem aUm{b}:ev C (.bl b)=fC (.bool b):=rfl
theorem aSh:ev C .non=fC .none:=rfl
theorem aRn{x}:ev C (.str x)=fC (.str x):=rfl
theorem aHU{op a b}:ev C (.bin op a b)=qE op (ev C a) (ev C b):=rfl
theorem aJE{op a}:ev C (.un op a)=xJ op (ev C a):=rfl
theorem aC4{op a b}:ev C (.cmp op a b)=mY op (ev C a) (ev C b):=rfl
theorem aIf{a b}:ev C (.and a b)=vM (ev C a) (ev C b):=rfl
theorem aI6{a b}:ev C (.or a b)=wG (ev C a) (ev C b):=rfl
theorem aIQ{a}:ev C (.not a)=vS (ev C a):=rfl
theorem aIE{c a b}:ev C (.ite c a b)=wJ (tv C c) (ev C a) (ev C b):=rfl
theorem aIC{es}:ev C (.tup es)=vX (av C es):=rfl
theorem aAT{a b}:ev C (.ix a b)=nF (ev C a) (ev C b):=rfl
theorem aQC{n0 aX k}:ev C (.tab n0 aX k)=f1 (ev C k) (fZ (aBa aX)):=rfl
theorem aR8{n0 ts}:ev C (.con n0 ts)=fC (.tuple (ts.map Tv.d)):=rfl
theorem aDb{a lo hi}:ev C (.sl a lo hi)=kE (ev C a) (ov C lo) (ov C hi):=rfl
theorem aHe{f es}:ev C (.call f es)=kX C f (av C es):=rfl
theorem aIy{b es}:ev C (.blt b es)=qB (av C es) b.g:=rfl
theorem aIj{a n}:ev C (.isi a n)=f1 (ev C a) (fZ (fS n)):=rfl
theorem aOD{a}:ev C (.bits a)=aDd (ev C a):=rfl
theorem aHT{o a}:ev C (.app o a)=hZ (ev C o) (ev C a):=rfl
theorem aDc{a}:ev C (.fz a)=cO (lv C a):=rfl
theorem aC6{a}:ev C (.new a)=gK (lv C a):=rfl
theorem aIz{a b}:tv C (.and a b)=wE (tv C a) (tv C b):=rfl
theorem aJH{a b}:tv C (.or a b)=xE (tv C a) (tv C b):=rfl
theorem aHW{a}:tv C (.not a)=wF (tv C a):=rfl
theorem aRD{i}:tv C (.var i)=dB (iN i):=rfl
theorem aIg{op a b}:tv C (.cmp op a b)=dB (mY op (ev C a) (ev C b)):=rfl
theorem aUs{a b}:tv C (.ix a b)=dB (nF (ev C a) (ev C b)):=rfl
theorem aP6{f es}:tv C (.call f es)=dB (kX C f (av C es)):=rfl
theorem aRR{b es}:tv C (.blt b es)=dB (qB (av C es) b.g):=rfl
theorem aRk{a n}:tv C (.isi a n)=dB (f1 (ev C a) (fZ (fS n))):=rfl
theorem aQh{op a b}:tv C (.bin op a b)=dB (qE op (ev C a) (ev C b)):=rfl
theorem aUk{b}:tv C (.bl b)=dB (fC (.bool b)):=rfl
theorem aUj:tv C .no=mZ:=rfl
theorem aQ9:av C .nil=lU:=rfl
theorem aHB{a r}:av C (.cons a r)=eQ (ev C a) (av C r):=rfl
theorem aS2:ov C .no=xF:=rfl
theorem aHf{a}:ov C (.cons a .nil)=oK (ev C a):=rfl
theorem aH9{es}:lv C (.lst es)=vW (av C es):=rfl
theorem aOA{a b}:lv C (.lzip a b)=sE (ev C a) (ev C b):=rfl
theorem rB{a b c}:lv C (.rng3 a b c)=aAK (ev C a) (ev C b) (ev C c):=rfl
theorem aHy{a}:lv C (.lrg1 a)=oQ (lJ (ev C a)):=rfl
theorem aHp{a b}:lv C (.lrep a b)=wI (ev C a) (ev C b):=rfl
theorem aO7{elt t it cond}:lv C (.comp elt t it cond)=gR t (lv C it) (tv C cond) (ev C elt):=rfl
theorem rY{a}:lv C (.it a)=fM (ev C a):=rfl
theorem rA{a}:lv C (.rng1 a)=lJ (ev C a):=rfl
theorem rC{a b c}:lv C (.zip3 a b c)=aAW (ev C a) (ev C b) (ev C c):=rfl
theorem aHu:xs C .skip=sF:=rfl
theorem iW{a b}:xs C (.seq a b)=cZ (xs C a) (xs C b):=rfl
theorem aHD{e}:xs C (.expr e)=vR (ev C e):=rfl
theorem aAe{e}:xs C (.ret e)=mW (ev C e):=rfl
theorem rP{c a b}:xs C (.ifs c a b)=nL (tv C c) (xs C a) (xs C b):=rfl
theorem aAb{i e}:xs C (.set i e)=jE i (ev C e):=rfl
theorem aHR{nw i e}:xs C (.setC nw i e)=jE i (match nw with | true=>gK (lv C e) | false=>cO (lv C e)):=rfl
theorem aPn{t e}:xs C (.setT t e)=aAG t (ev C e):=rfl
theorem aIh{o i e}:xs C (.put o i e)=lK (ev C o) (ev C i) (ev C e):=rfl
theorem zU{t it b}:xs C (.loop t it b)=dA t (lv C it) (xs C b):=rfl
end
theorem no{P:Prop}(h:false=true):P:=by cases h
theorem gT{a b:Bool}(h:(a&&b)=true):a=true/\b=true:=by
 cases a with
 | false=>exact no h
 | true=>exact⟨rfl,h⟩
theorem aL{a b:Bool}(h:(a&&b)=true):a=true:=(gT h).1
theorem aR{a b:Bool}(h:(a&&b)=true):b=true:=(gT h).2
theorem fF{c:Prop}{d:Decidable c}{f:c->Bool}(h:(@dite _ c d f λ _=>false)=true):c:=by
 cases d with
 | isTrue k=>exact k
 | isFalse _=>exact no h
noncomputable def iS(k:Str->Pos->Bool)(x:qw):Bool:=if h:x.ctorIdx=23 then @Expr.Name.elim (λ _=>Bool) x h k else false
theorem mS{P:qw->Prop}{k:Str->Pos->Bool}{x:qw}(h:iS k x=true)(g:∀ a b,k a b=true->P (.Name a b)):P x:=@Expr.Name.elim (λ e=>iS k e=true->P e) x (fF h) g h
noncomputable def kCo(k:Const->Nat->Pos->Bool)(x:qw):Bool:=if h:x.ctorIdx=19 then @Expr.Constant.elim (λ _=>Bool) x h k else false
theorem aVK{P:qw->Prop}{k:Const->Nat->Pos->Bool}{x:qw}(h:kCo k x=true)(g:∀ a b c,k a b c=true->P (.Constant a b c)):P x:=@Expr.Constant.elim (λ e=>kCo k e=true->P e) x (fF h) g h
noncomputable def wU(k:qw->vq->qw->Pos->Bool)(x:qw):Bool:=if h:x.ctorIdx=2 then @Expr.BinOp.elim (λ _=>Bool) x h k else false
theorem aKg{P:qw->Prop}{k:qw->vq->qw->Pos->Bool}{x:qw}(h:wU k x=true)(g:∀ a b c d,k a b c d=true->P (.BinOp a b c d)):P x:=@Expr.BinOp.elim (λ e=>wU k e=true->P e) x (fF h) g h
noncomputable def wV(k:yx->qw->Pos->Bool)(x:qw):Bool:=if h:x.ctorIdx=3 then @Expr.UnaryOp.elim (λ _=>Bool) x h k else false
theorem aDN{P:qw->Prop}{k:yx->qw->Pos->Bool}{x:qw}(h:wV k x=true)(g:∀ a b c,k a b c=true->P (.UnaryOp a b c)):P x:=@Expr.UnaryOp.elim (λ e=>wV k e=true->P e) x (fF h) g h
noncomputable def kCm(k:qw->List vv->List qw->Pos->Bool)(x:qw):Bool:=if h:x.ctorIdx=15 then @Expr.Compare.elim (λ _=>Bool) x h k else false
theorem aVG{P:qw->Prop}{k:qw->List vv->List qw->Pos->Bool}{x:qw}(h:kCm k x=true)(g:∀ a b c d,k a b c d=true->P (.Compare a b c d)):P x:=@Expr.Compare.elim (λ e=>kCm k e=true->P e) x (fF h) g h
noncomputable def kBo(k:BoolOp->List qw->Pos->Bool)(x:qw):Bool:=if h:x.ctorIdx=0 then @Expr.BoolOp.elim (λ _=>Bool) x h k else false
theorem aVx{P:qw->Prop}{k:BoolOp->List qw->Pos->Bool}{x:qw}(h:kBo k x=true)(g:∀ a b c,k a b c=true->P (.BoolOp a b c)):P x:=@Expr.BoolOp.elim (λ e=>kBo k e=true->P e) x (fF h) g h
noncomputable def kIe(k:qw->qw->qw->Pos->Bool)(x:qw):Bool:=if h:x.ctorIdx=5 then @Expr.IfExp.elim (λ _=>Bool) x h k else false
theorem aVW{P:qw->Prop}{k:qw->qw->qw->Pos->Bool}{x:qw}(h:kIe k x=true)(g:∀ a b c d,k a b c d=true->P (.IfExp a b c d)):P x:=@Expr.IfExp.elim (λ e=>kIe k e=true->P e) x (fF h) g h
noncomputable def wY(k:List qw->Nat->Pos->Bool)(x:qw):Bool:=if h:x.ctorIdx=25 then @Expr.Tuple.elim (λ _=>Bool) x h k else false
theorem aBc{P:qw->Prop}{k:List qw->Nat->Pos->Bool}{x:qw}(h:wY k x=true)(g:∀ a b c,k a b c=true->P (.Tuple a b c)):P x:=@Expr.Tuple.elim (λ e=>wY k e=true->P e) x (fF h) g h
noncomputable def kLi(k:List qw->Pos->Bool)(x:qw):Bool:=if h:x.ctorIdx=24 then @Expr.List.elim (λ _=>Bool) x h k else false
theorem aVn{P:qw->Prop}{k:List qw->Pos->Bool}{x:qw}(h:kLi k x=true)(g:∀ a b,k a b=true->P (.List a b)):P x:=@Expr.List.elim (λ e=>kLi k e=true->P e) x (fF h) g h
noncomputable def kSu(k:qw->qw->Pos->Bool)(x:qw):Bool:=if h:x.ctorIdx=21 then @Expr.Subscript.elim (λ _=>Bool) x h k else false
theorem aJW{P:qw->Prop}{k:qw->qw->Pos->Bool}{x:qw}(h:kSu k x=true)(g:∀ a b c,k a b c=true->P (.Subscript a b c)):P x:=@Expr.Subscript.elim (λ e=>kSu k e=true->P e) x (fF h) g h
noncomputable def kSl(k:Option qw->Option qw->Option qw->Pos->Bool)(x:qw):Bool:=if h:x.ctorIdx=26 then @Expr.Slice.elim (λ _=>Bool) x h k else false
theorem aVk{P:qw->Prop}{k:Option qw->Option qw->Option qw->Pos->Bool}{x:qw}(h:kSl k x=true)(g:∀ a b c d,k a b c d=true->P (.Slice a b c d)):P x:=@Expr.Slice.elim (λ e=>kSl k e=true->P e) x (fF h) g h
noncomputable def kCa(k:qw->List qw->List Keyword->Pos->Bool)(x:qw):Bool:=if h:x.ctorIdx=16 then @Expr.Call.elim (λ _=>Bool) x h k else false
theorem aJ3{P:qw->Prop}{k:qw->List qw->List Keyword->Pos->Bool}{x:qw}(h:kCa k x=true)(g:∀ a b c d,k a b c d=true->P (.Call a b c d)):P x:=@Expr.Call.elim (λ e=>kCa k e=true->P e) x (fF h) g h
noncomputable def kAt(k:qw->Str->Pos->Bool)(x:qw):Bool:=if h:x.ctorIdx=20 then @Expr.Attribute.elim (λ _=>Bool) x h k else false
theorem aVv{P:qw->Prop}{k:qw->Str->Pos->Bool}{x:qw}(h:kAt k x=true)(g:∀ a b c,k a b c=true->P (.Attribute a b c)):P x:=@Expr.Attribute.elim (λ e=>kAt k e=true->P e) x (fF h) g h
noncomputable def kLc(k:qw->List Comprehension->zk->Pos->Bool)(x:qw):Bool:=if h:x.ctorIdx=8 then @Expr.ListComp.elim (λ _=>Bool) x h k else false
theorem aU7{P:qw->Prop}{k:qw->List Comprehension->zk->Pos->Bool}{x:qw}(h:kLc k x=true)(g:∀ a b c d,k a b c d=true->P (.ListComp a b c d)):P x:=@Expr.ListComp.elim (λ e=>kLc k e=true->P e) x (fF h) g h
noncomputable def kEx(k:qw->Pos->Bool)(x:jx):Bool:=if h:x.ctorIdx=24 then @Stmt.Expr.elim (λ _=>Bool) x h k else false
theorem aWe{P:jx->Prop}{k:qw->Pos->Bool}{x:jx}(h:kEx k x=true)(g:∀ a b,k a b=true->P (.Expr a b)):P x:=@Stmt.Expr.elim (λ e=>kEx k e=true->P e) x (fF h) g h
noncomputable def kRe(k:Option qw->Pos->Bool)(x:jx):Bool:=if h:x.ctorIdx=3 then @Stmt.Return.elim (λ _=>Bool) x h k else false
theorem aVV{P:jx->Prop}{k:Option qw->Pos->Bool}{x:jx}(h:kRe k x=true)(g:∀ a b,k a b=true->P (.Return a b)):P x:=@Stmt.Return.elim (λ e=>kRe k e=true->P e) x (fF h) g h
noncomputable def kSf(k:qw->List jx->List jx->Pos->Bool)(x:jx):Bool:=if h:x.ctorIdx=12 then @Stmt.If.elim (λ _=>Bool) x h k else false
theorem aVf{P:jx->Prop}{k:qw->List jx->List jx->Pos->Bool}{x:jx}(h:kSf k x=true)(g:∀ a b c d,k a b c d=true->P (.If a b c d)):P x:=@Stmt.If.elim (λ e=>kSf k e=true->P e) x (fF h) g h
noncomputable def sV(k:List qw->qw->Pos->Bool)(x:jx):Bool:=if h:x.ctorIdx=5 then @Stmt.Assign.elim (λ _=>Bool) x h k else false
theorem aA1{P:jx->Prop}{k:List qw->qw->Pos->Bool}{x:jx}(h:sV k x=true)(g:∀ a b c,k a b c=true->P (.Assign a b c)):P x:=@Stmt.Assign.elim (λ e=>sV k e=true->P e) x (fF h) g h
noncomputable def kFo(k:qw->qw->List jx->List jx->Pos->Bool)(x:jx):Bool:=if h:x.ctorIdx=9 then @Stmt.For.elim (λ _=>Bool) x h k else false
theorem aVu{P:jx->Prop}{k:qw->qw->List jx->List jx->Pos->Bool}{x:jx}(h:kFo k x=true)(g:∀ a b c d e,k a b c d e=true->P (.For a b c d e)):P x:=@Stmt.For.elim (λ e=>kFo k e=true->P e) x (fF h) g h
noncomputable def kC{α:Type}(k:α->Bool)(l:List α):Bool:=match l with
 | [a]=>k a
 | _=>false
theorem lG{α:Type}{P:List α->Prop}{k:α->Bool}:∀ {l:List α},kC k l=true->(∀ a,k a=true->P [a])->P l
 | [],h,_=>no h
 | [a],h,g=>g a h
 | _::_::_,h,_=>no h
noncomputable def aDF{α:Type}(k:α->α->Bool)(l:List α):Bool:=match l with
 | a::r=>kC (k a) r
 | []=>false
theorem aJG{α:Type}{P:List α->Prop}{k:α->α->Bool}:∀ {l:List α},aDF k l=true->(∀ a b,k a b=true->P [a,b])->P l
 | [],h,_=>no h
 | a::_,h,g=>lG (P:=λ r=>P (a::r)) h (g a)
noncomputable def aKr{α:Type}(k:α->α->α->Bool)(l:List α):Bool:=match l with
 | a::r=>aDF (k a) r
 | []=>false
theorem aS6{α:Type}{P:List α->Prop}{k:α->α->α->Bool}:∀ {l:List α},aKr k l=true->(∀ a b c,k a b c=true->P [a,b,c])->P l
 | [],h,_=>no h
 | a::_,h,g=>aJG (P:=λ r=>P (a::r)) h (g a)
theorem oC{α:Type}{P:List α->Prop}:∀ {l:List α},l.isEmpty=true->P []->P l
 | [],_,g=>g
 | _::_,h,_=>no h
noncomputable def aDx{α:Type}(o:Option α):Bool:=match o with
 | none=>true
 | some _=>false
theorem aJx{α:Type}{P:Option α->Prop}:∀ {o:Option α},aDx o=true->P qz->P o
 | none,_,g=>g
 | some _,h,_=>no h
theorem aJq{α:Type}{P:Option α->Prop}{k:α->Bool}:∀ {o:Option α},o.any k=true->(∀ a,k a=true->P (qq a))->P o
 | none,h,_=>no h
 | some a,h,g=>g a h
theorem dT{p:Prop}{d:Decidable p}(h:decide p=true):p:=oqT h
noncomputable def qJ(sc:zk)(x:Str):Bool:=match sc.names.lookup x with
 | some .local=>true | some .cell=>true | some .free=>true | _=>false
noncomputable def loc(sc:zk)(x:Str):Bool:=match sc.names.lookup x with
 | some .local=>true | some .cell=>true | _=>false
noncomputable def aJl(e:E):Bool:=decide (e.ctorIdx=E.nil.ctorIdx)
theorem aVR{P:E->Prop}{e:E}(h:aJl e=true)(g:P .nil):P e:=@E.nil.elim P e (dT h) g
noncomputable def lo(sc:zk)(x:Str):Bool:=decide (sc.names.lookup x=qq .local)
noncomputable def gl(sc:zk)(x:Str):Bool:=decide (sc.names.lookup x=qq .globalImplicit)
noncomputable def cQ(e:qw):Bool:=![7,22,26].contains e.ctorIdx
noncomputable def lT(e:qw):Bool:=![0,3,5,15].contains e.ctorIdx
noncomputable def aAg(e:qw):Bool:=![16].contains e.ctorIdx
noncomputable def rQ(e:qw):Bool:=![8,9,10].contains e.ctorIdx
noncomputable def aAJ(e:qw):Bool:=wY (λ _ _ _=>true) e
noncomputable def qW:List qw->Bool
 | []=>true
 | e::r=>cQ e&&qW r
noncomputable def pY(scope osc:zk):zk:={scope with names:=scope.names.map λ(n,k)=>if (k==.free&&osc.kind==.function&&osc.names.lookup n==qq .cell) then (n,.cell) else (n,k) }
noncomputable def aDg(scope osc:zk):Bool:=decide (scope.kind=.function)&&scope.names.all λ x=>(!decide (x.2=.cell))&&(!decide (x.2=.free)||decide (osc.names.lookup x.1=qq .cell)||decide (osc.names.lookup x.1=qq .free))&&(!decide (x.2=.local)||decide (scope.names.lookup x.1=qq .local))
noncomputable def aA7(N:List Str)(scope:zk)(is:List Nat):Nat->Bool
 | 0=>true
 | n+1=>aA7 N scope is n&&(match N[n]? with
   | some x=>!decide (scope.names.lookup x=qq .local)||is.contains n
   | none=>true)
noncomputable def aCQ(b:Bool)(N:List Str)(sc:zk)(i:Nat)(x:Str):Bool:=decide (N[i]? = qq x)&&(match b with
 | true=>decide (sc.names.lookup x=qq .local)
 | false=>loc sc x)
noncomputable def aCr(b:Bool)(N:List Str)(sc:zk):List Nat->List qw->Bool
 | [],es=>es.isEmpty
 | i::is,es=>(match es with
   | e::r=>iS (λ x _=>aCQ b N sc i x&&aCr b N sc is r) e
   | []=>false)
noncomputable def wO(b:Bool)(N:List Str)(sc:zk)(t:Tg)(e:qw):Bool:=match t with
 | .one i=>iS (λ x _=>aCQ b N sc i x) e
 | .many is=>wY (λ es _ _=>aCr b N sc is es) e
noncomputable def aG7(e:E):Bool:=decide (e.ctorIdx=(E.comp .no (.one 0) .no .no).ctorIdx)
theorem aVX{P:E->Prop}{e:E}(h:aG7 e=true)(g:∀ a t b c,P (.comp a t b c)):P e:=@E.comp.elim P e (dT h) g
noncomputable def aDp(e:E):Bool:=decide (e.ctorIdx=E.no.ctorIdx)
theorem aKv{P:E->Prop}{e:E}(h:aDp e=true)(g:P .no):P e:=@E.no.elim P e (dT h) g
noncomputable def sJ(c:Const)(e:qw):Bool:=kCo (λ d _ _=>decide (d=c)) e
theorem aAy{P:qw->Prop}{c:Const}{x:qw}(h:sJ c x=true)(g:∀ k p,P (.Constant c k p)):P x:=
 aVK h λ _ k p z=>(dT z)▸g k p
noncomputable def aDl(k:qw->vv->qw->Bool)(e:qw):Bool:=kCm (λ x os ys _=>kC (λ o=>kC (λ y=>k x o y&&cQ y) ys) os) e
theorem aJd{P:qw->Prop}{k:qw->vv->qw->Bool}{x:qw}(h:aDl k x=true)(g:∀ a o b p,k a o b=true->cQ b=true->P (.Compare a [o] [b] p)):P x:=
 aVG h λ a os _ p z=>lG (P:=λ os=>P (.Compare a os _ p)) z λ o z=>lG (P:=λ ys=>P (.Compare a [o] ys p)) z λ b z=>g a o b p (aL z) (aR z)
noncomputable def vI(op:BoolOp)(k:qw->qw->Bool)(e:qw):Bool:=kBo (λ o es p=>decide (o=op)&&(match es with
 | [x,y]=>k x y
 | x::y::z::r=>k x (.BoolOp op (y::z::r) p)
 | _=>false)) e
theorem aAd{P:qw->Prop}{op:BoolOp}{k:qw->qw->Bool}{x:qw}(h:vI op k x=true)(g:∀ a b p,k a b=true->P (.BoolOp op [a,b] p))(f:∀ a b c r p,k a (.BoolOp op (b::c::r) p)=true->P (.BoolOp op (a::b::c::r) p)):P x:=
 aVx h λ o es p z=>by
  obtain rfl:=dT (aL z)
  match es,aR z with
  | [a,b],z=>exact g a b p z
  | a::b::c::r,z=>exact f a b c r p z
  | [],z=>exact no z
  | [_],z=>exact no z
noncomputable def wW(k:qw->qw->Bool)(e:qw):Bool:=kSu (λ x y _=>k x y&&cQ y) e
theorem aDw{P:qw->Prop}{k:qw->qw->Bool}{x:qw}(h:wW k x=true)(g:∀ a b p,k a b=true->cQ b=true->P (.Subscript a b p)):P x:=aJW h λ a b p z=>g a b p (aL z) (aR z)
noncomputable def aKp(k:qw->Option qw->Option qw->Bool)(e:qw):Bool:=kSu (λ x s _=>kSl (λ l h t _=>aDx t&&k x l h) s) e
theorem aUP{P:qw->Prop}{k:qw->Option qw->Option qw->Bool}{x:qw}(h:aKp k x=true)(g:∀ a l u p q,k a l u=true->P (.Subscript a (.Slice l u qz p) q)):P x:=
 aJW h λ a _ q z=>aVk (P:=λ s=>P (.Subscript a s q)) z λ l u _ p z=>aJx (P:=λ t=>P (.Subscript a (.Slice l u t p) q)) (aL z) (g a l u p q (aR z))
noncomputable def oF(k:Str->List qw->Bool)(e:qw):Bool:=kCa (λ f xs ks _=>iS (λ n _=>ks.isEmpty&&k n xs) f) e
theorem vC{P:qw->Prop}{k:Str->List qw->Bool}{x:qw}(h:oF k x=true)(g:∀ n p xs q,k n xs=true->P (.Call (.Name n p) xs [] q)):P x:=
 aJ3 h λ _ xs ks q z=>mS (P:=λ f=>P (.Call f xs ks q)) z λ n p z=>oC (P:=λ ks=>P (.Call (.Name n p) xs ks q)) (aL z) (g n p xs q (aR z))
noncomputable def xD(nm:Str)(sc:zk)(k:qw->Bool)(e:qw):Bool:=oF (λ n xs=>decide (n=nm)&&gl sc n&&kC (λ y=>k y&&cQ y) xs) e
theorem aA2{P:qw->Prop}{nm:Str}{sc:zk}{k:qw->Bool}{x:qw}(h:xD nm sc k x=true)(g:∀ p y q,gl sc nm=true->k y=true->cQ y=true->P (.Call (.Name nm p) [y] [] q)):P x:=
 vC h λ n p xs q z=>by
  obtain rfl:=dT (aL (aL z));exact lG (P:=λ xs=>P (.Call (.Name n p) xs [] q)) (aR z) λ y u=>g p y q (aR (aL z)) (aL u) (aR u)
noncomputable def kB2(nm:Str)(sc:zk)(k l:qw->Bool)(e:qw):Bool:=oF (λ n xs=>decide (n=nm)&&gl sc n&&aDF (λ y z=>(k y&&cQ y)&&(l z&&cQ z)) xs) e
theorem aKt{P:qw->Prop}{nm:Str}{sc:zk}{k l:qw->Bool}{x:qw}(h:kB2 nm sc k l x=true)(g:∀ p y z q,gl sc nm=true->k y=true->cQ y=true->l z=true->cQ z=true->P (.Call (.Name nm p) [y,z] [] q)):P x:=
 vC h λ n p xs q z=>by
  obtain rfl:=dT (aL (aL z));exact aJG (P:=λ xs=>P (.Call (.Name n p) xs [] q)) (aR z) λ y w u=>g p y w q (aR (aL z)) (aL (aL u)) (aR (aL u)) (aL (aR u)) (aR (aR u))
noncomputable def kB3(nm:Str)(sc:zk)(k l m:qw->Bool)(e:qw):Bool:=oF (λ n xs=>decide (n=nm)&&gl sc n&&aKr (λ y z w=>(k y&&cQ y)&&((l z&&cQ z)&&(m w&&cQ w))) xs) e
theorem aJP{P:qw->Prop}{nm:Str}{sc:zk}{k l m:qw->Bool}{x:qw}(h:kB3 nm sc k l m x=true)(g:∀ p y z w q,gl sc nm=true->k y=true->cQ y=true->l z=true->cQ z=true->m w=true->cQ w=true->P (.Call (.Name nm p) [y,z,w] [] q)):P x:=
 vC h λ n p xs q z=>by
  obtain rfl:=dT (aL (aL z));exact aS6 (P:=λ xs=>P (.Call (.Name n p) xs [] q)) (aR z) λ y w v u=>g p y w v q (aR (aL z)) (aL (aL u)) (aR (aL u)) (aL (aL (aR u))) (aR (aL (aR u))) (aL (aR (aR u))) (aR (aR (aR u)))
noncomputable def kMe(nm:Str)(k:qw->List qw->Bool)(e:qw):Bool:=kCa (λ f xs ks cp=>kAt (λ o m ap=>ks.isEmpty&&(ap.endLine==cp.line)&&decide (m=nm)&&aAg o&&k o xs) f) e
theorem aKo{P:qw->Prop}{nm:Str}{k:qw->List qw->Bool}{x:qw}(h:kMe nm k x=true)(g:∀ o ap xs cp,(ap.endLine==cp.line)=true->aAg o=true->k o xs=true->P (.Call (.Attribute o nm ap) xs [] cp)):P x:=
 aJ3 h λ _ xs ks cp z=>aVv (P:=λ f=>P (.Call f xs ks cp)) z λ o m ap z=>by
  obtain rfl:=dT (aR (aL (aL z)));exact oC (P:=λ ks=>P (.Call (.Attribute o m ap) xs ks cp)) (aL (aL (aL (aL z)))) (g o ap xs cp (aR (aL (aL (aL z)))) (aR (aL z)) (aR z))
noncomputable def aKz(nm:Str)(k l:qw->Bool)(e:qw):Bool:=kMe nm (λ o xs=>k o&&kC (λ y=>l y&&cQ y) xs) e
theorem aUu{P:qw->Prop}{nm:Str}{k l:qw->Bool}{x:qw}(h:aKz nm k l x=true)(g:∀ o ap y cp,(ap.endLine==cp.line)=true->aAg o=true->k o=true->l y=true->cQ y=true->P (.Call (.Attribute o nm ap) [y] [] cp)):P x:=
 aKo h λ o ap xs cp h1 h2 z=>lG (P:=λ xs=>P (.Call (.Attribute o nm ap) xs [] cp)) (aR z) λ y u=>g o ap y cp h1 h2 (aL z) (aL u) (aR u)
noncomputable def aIX(k:qw->qw->qw->List qw->zk->Bool)(e:qw):Bool:=kLc (λ el gs sc _=>kC (λ g=>decide (g.is_async=0)&&k el g.target g.iter g.ifs sc) gs) e
theorem aRh{P:qw->Prop}{k:qw->qw->qw->List qw->zk->Bool}{x:qw}(h:aIX k x=true)(g:∀ e tg it ifs sc p,k e tg it ifs sc=true->P (.ListComp e [⟨tg,it,ifs,0⟩] sc p)):P x:=
 aU7 h λ e _ sc p z=>lG (P:=λ gs=>P (.ListComp e gs sc p)) z λ aV z=>by
  obtain⟨tg,it,ifs,as⟩:=aV;obtain rfl:as=0:=dT (aL z);exact g e tg it ifs sc p (aR z)
noncomputable def aJ5(N:List Str)(t:Tg)(cond:E)(sc:zk)(fI:qw->qw->Bool)(fT fE:zk->qw->Bool)(x:qw):Bool:=aIX (λ e tg iter ifs scope=>aDg scope sc&&aA7 N scope t.slots N.length&&wO true N (pY scope sc) t tg&&fI tg iter&&cQ iter &&
 (match ifs with | []=>aDp cond | y::r=>r.isEmpty&&fT (pY scope sc) y)&&fE (pY scope sc) e) x
theorem aKu{P:qw->Prop}{N:List Str}{t:Tg}{cond:E}{sc:zk}{fI:qw->qw->Bool}{fT fE:zk->qw->Bool}{x:qw}(h:aJ5 N t cond sc fI fT fE x=true)(g:∀ e tg iter ifs scope p,aDg scope sc=true->aA7 N scope t.slots N.length=true->wO true N (pY scope sc) t tg=true->fI tg iter=true->cQ iter=true->(match ifs with | []=>aDp cond | y::r=>r.isEmpty&&fT (pY scope sc) y)=true->fE (pY scope sc) e=true->P (.ListComp e [⟨tg,iter,ifs,0⟩] scope p)):P x:=
 aRh h λ e tg iter ifs scope p h=>g e tg iter ifs scope p (aL (aL (aL (aL (aL (aL h)))))) (aR (aL (aL (aL (aL (aL h)))))) (aR (aL (aL (aL (aL h))))) (aR (aL (aL (aL h)))) (aR (aL (aL h))) (aR (aL h)) (aR h)
structure Tx where
 fn:List (Str×Nat)
 tb:List (Str×List (Str×Tv))
 cn:List (Str×List Tv)
section
variable (T : Tx)(N : List Str)
mutual
noncomputable def bL:E->zk->qw->Bool
 | .var i,sc,x=>iS (λ x _=>decide (N[i]? = qq x)&&qJ sc x && !(x==("__debug__" : Str)) && !(x==("__classdict__" : Str))) x
 | .int i,_,x=>sJ (.int i) x
 | .bl i,_,x=>sJ (.bool i) x
 | .non,_,x=>sJ .none x
 | .str i,_,x=>sJ (.str i) x
 | .bin op a b,sc,x=>wU (λ x op' y _=>decide (op'=op)&&bL a sc x&&bL b sc y) x
 | .un op a,sc,x=>wV (λ op' x _=>decide (op'=op) && !decide (op=.Not)&&bL a sc x) x
 | .cmp op a b,sc,x=>aDl (λ x op' y=>decide (op'=op)&&bL a sc x&&bL b sc y) x
 | .and a b,sc,x=>vI .And (λ x y=>bL a sc x&&bL b sc y) x
 | .or a b,sc,x=>vI .Or (λ x y=>bL a sc x&&bL b sc y) x
 | .not a,sc,x=>wV (λ o x _=>decide (o=.Not)&&bL a sc x) x
 | .ite c a b,sc,x=>kIe (λ x y z _=>lY c sc x&&bL a sc y&&bL b sc z) x
 | .tup es,sc,x=>wY (λ xs _ _=>nG es sc xs) x
 | .ix a b,sc,x=>wW (λ x y=>bL a sc x&&bL b sc y) x
 | .con n ts,sc,x=>iS (λ x _=>decide (x=n)&&T.cn.contains (n,ts)&&gl sc x && !(x==("__debug__" : Str))) x
 | .tab n aX k,sc,x=>wW (λ x y=>bL k sc y&&iS (λ x _=>decide (x=n)&&T.tb.contains (n,aX)&&gl sc x && !(x==("__debug__" : Str))) x) x
 | .sl a lo hi,sc,x=>aKp (λ x l h=>bL a sc x&&okO lo sc l&&okO hi sc h) x
 | .call f es,sc,x=>oF (λ x xs=>decide ((T.fn[f]?).map (·.1)=qq x)&&gl sc x && !(x==("__debug__" : Str))&&nG es sc xs&&qW xs) x
 | .blt b es,sc,x=>oF (λ x ys=>!ys.isEmpty&&decide (x=b.n)&&gl sc x&&nG es sc ys&&qW ys) x
 | .isi a n,sc,x=>kB2 "isinstance" sc (λ y=>bL a sc y) (λ z=>iS (λ z _=>decide (z=n.n)&&gl sc z) z) x
 | .bits a,sc,x=>kMe "bit_length" (λ x ys=>bL a sc x&&ys.isEmpty) x
 | .app o a,sc,x=>aKz "append" (λ x=>bL o sc x) (λ y=>bL a sc y) x
 | .fz a,sc,e=>wT a sc e
 | .new a,sc,e=>wT a sc e
 | _,_,_=>false
noncomputable def lY:E->zk->qw->Bool
 | .and a b,sc,x=>vI .And (λ x y=>lY a sc x&&lY b sc y) x
 | .or a b,sc,x=>vI .Or (λ x y=>lY a sc x&&lY b sc y) x
 | .not a,sc,x=>wV (λ o x _=>decide (o=.Not)&&lY a sc x) x
 | .cmp op a b,sc,x=>aDl (λ x op' y=>decide (op'=op)&&bL a sc x&&bL b sc y) x
 | .var i,sc,x=>iS (λ x _=>decide (N[i]? = qq x)&&qJ sc x && !(x==("__debug__" : Str)) && !(x==("__classdict__" : Str))) x&&lT x
 | .bl i,_,x=>sJ (.bool i) x&&lT x
 | .bin op a b,sc,x=>wU (λ x op' y _=>decide (op'=op)&&bL a sc x&&bL b sc y) x&&lT x
 | .ix a b,sc,x=>wW (λ x y=>bL a sc x&&bL b sc y) x&&lT x
 | .call f es,sc,x=>oF (λ x xs=>decide ((T.fn[f]?).map (·.1)=qq x)&&gl sc x && !(x==("__debug__" : Str))&&nG es sc xs&&qW xs) x&&lT x
 | .blt b es,sc,x=>oF (λ x ys=>!ys.isEmpty&&decide (x=b.n)&&gl sc x&&nG es sc ys&&qW ys) x&&lT x
 | .isi a n,sc,x=>kB2 "isinstance" sc (λ y=>bL a sc y) (λ z=>iS (λ z _=>decide (z=n.n)&&gl sc z) z) x&&lT x
 | _,_,_=>false
noncomputable def nG:E->zk->List qw->Bool
 | .nil,_,xs=>xs.isEmpty
 | .cons a r,sc,xs=>(match xs with
   | x::xs=>bL a sc x&&cQ x&&nG r sc xs
   | []=>false)
 | _,_,_=>false
noncomputable def okO:E->zk->Option qw->Bool
 | .no,_,x=>aDx x
 | .cons a r,sc,x=>aJl r&&x.any λ x=>bL a sc x
 | _,_,_=>false
noncomputable def wT:E->zk->qw->Bool
 | .lst es,sc,x=>kLi (λ xs _=>nG es sc xs) x
 | .lzip a b,sc,x=>xD "list" sc (λ y=>kB2 "zip" sc (λ z=>bL a sc z) (λ w=>bL b sc w) y) x
 | .lrg1 a,sc,x=>xD "list" sc (λ y=>xD "range" sc (λ z=>bL a sc z) y) x
 | .lrep a b,sc,x=>wU (λ x o y _=>decide (o=.Mult)&&bL a sc x&&bL b sc y) x
 | .comp elt t it cond,sc,x=>aJ5 N t cond sc (λ g y=>okI it sc g y) (λ s y=>lY cond s y) (λ s y=>bL elt s y) x
 | _,_,_=>false
noncomputable def okI:E->zk->qw->qw->Bool
 | .it a,sc,_,x=>bL a sc x
 | .rng1 a,sc,_,x=>xD "range" sc (λ y=>bL a sc y) x
 | .rng3 a b c,sc,_,x=>kB3 "range" sc (λ y=>bL a sc y) (λ z=>bL b sc z) (λ w=>bL c sc w) x
 | .zip3 a b c,sc,tg,x=>aAJ tg&&kB3 "zip" sc (λ y=>bL a sc y) (λ z=>bL b sc z) (λ w=>bL c sc w) x
 | _,_,_,_=>false
end
mutual
noncomputable def okS:Sx->zk->jx->Bool
 | .expr e,sc,st=>kEx (λ x _=>bL T N e sc x&&rQ x) st
 | .ret e,sc,st=>kRe (λ v _=>v.any λ x=>bL T N e sc x) st
 | .ifs c a b,sc,st=>kSf (λ x y z _=>lY T N c sc x&&oO a sc y&&oO b sc z) st
 | .set i e,sc,st=>sV (λ ts y _=>bL T N e sc y&&rQ y&&kC (λ t=>iS (λ x _=>decide (N[i]? = qq x)&&loc sc x) t) ts) st
 | .setC _ i e,sc,st=>sV (λ ts y _=>aG7 e&&wT T N e sc y&&kC (λ t=>iS (λ x _=>decide (N[i]? = qq x)&&loc sc x) t) ts) st
 | .setT t e,sc,st=>sV (λ ts y _=>bL T N e sc y&&rQ y && !aAJ y&&kC (λ tg=>aAJ tg&&wO false N sc t tg) ts) st
 | .put o i e,sc,st=>sV (λ ts z _=>bL T N e sc z&&rQ z&&kC (λ t=>wW (λ x y=>bL T N o sc x&&bL T N i sc y) t) ts) st
 | .loop t it b,sc,st=>kFo (λ tg x y z _=>z.isEmpty&&wO false N sc t tg&&okI T N it sc tg x&&cQ x&&oO b sc y) st
 | _,_,_=>false
noncomputable def oO:Sx->zk->List jx->Bool
 | .skip,_,l=>l.isEmpty
 | .seq a b,sc,l=>(match l with
   | st::r=>okS a sc st&&oO b sc r
   | []=>false)
 | _,_,_=>false
end
end
noncomputable def bltNames:List Str:=["len", "max", "min", "int", "abs", "tuple", "sum", "all", "any", "isinstance", "list", "range", "enumerate", "bool", "str", "reversed", "zip", "sorted"]
structure Ctx(T:Tx)(C:Calls)(X:Cx):Prop where
 nd:X.N.Nodup
 calm:X.calm=true
 xe:X.xe=λ _ _=>False
 kind:X.env.scope.kind=.function
 room:∃ k,Room k X.A/\∀ f np call x,C f=qq (np,call)->(T.fn[f]?).map (·.1)=qq x->∃ fa fd ps,X.mg x=qq (.ref fa)/\yCv X.K (.ref fa)=true/\mO X.K fd ps []/\FnOk X.prog X.w X.K X.mg X.base sX k fa fd ps (sT X.K np call)
 blt:∀ x∈bltNames,X.mg x=qz
 tbs:∀ x aX,(x,aX)∈T.tb->∃ a,X.mg x=qq (.ref a)/\vQ X.K X.w a aX
 cns:∀ x ts,(x,ts)∈T.cn->∃ a,X.mg x=qq (.ref a)/\rX X.K a ts
theorem Ctx.units{T:Tx}{C:Calls}{X:Cx}(h:Ctx T C X):X.A.units+64<cLine:=let ⟨_,r,_⟩:=h.room;r.units
theorem Ctx.own{T:Tx}{C:Calls}{X:Cx}(h:Ctx T C X):PassesOwn (model X.prog X.w) X.A X.env X.xe:=by rw[h.xe];exact PassesOwn.never
theorem Ctx.comp{T:Tx}{C:Calls}{X Y:Cx}{scope:zk}(h:Ctx T C X)(hk:scope.kind=.function)(hy:jO X scope Y):Ctx T C Y/\Y.env.scope=pY scope X.env.scope/\Y.N=X.N/\Y.K=X.K:=by
 obtain⟨aB,fp,Ca,s₀,H₀,rfl⟩:=hy;exact⟨⟨h.nd,h.calm,rfl,hk,h.room,h.blt,h.tbs,h.cns⟩,rfl,rfl,rfl⟩
theorem iK{e:qw}(h:cQ e=true)(es:List qw)(env:Env):zq (e::es) env=(false,eval e env)::zq es env:=by
 cases e<;>first | rfl | exact no h
theorem aCo:∀ {es:List qw} (h:qW es=true) (env:Env) (pos:Pos),(backTo pos (zq es env)).any (·.1)=false
 | [],_,_,_=>rfl
 | e::es,h,env,pos=>by
   obtain⟨h1,h2⟩:=gT h;rw[iK h1];show(false||(backTo pos (zq es env)).any (·.1))=false
   rw[aCo h2 env pos];rfl
theorem aJp{e:qw}(h:cQ e=true):zR e:=by
 intro o i;cases e<;>first | rfl | exact no h
theorem aGb{e:qw}(h:cQ e=true)(op:vv):ju op e=false:=by
 cases e<;>first | rfl | exact no h
theorem aB5{e:qw}(h:cQ e=true)(env:Env)(x:qx):jv e env x=pure x:=by
 cases e<;>first | rfl | exact no h
theorem uR{e:qw}(h:aAg e=true)(m:Str)(env:Env):attributeBase e m env (eval e env)=eval e env:=by
 cases e<;>first | rfl | exact no h
theorem aCl{e:qw}(h:rQ e=true)(t:Option qw)(line:Nat)(env:Env):swapsWith e t line env=pure false:=by
 cases e<;>first | rfl | exact no h
theorem aRI{e:qw}(h:lT e=true)(env:Env)(fG:Sem qx):isTrue e env fG=(do let v <- fG;standAt e.pos;holding [v] (truthy v)):=by
 cases e<;>first | rfl | exact no h
theorem aMy{o i:qw}{pos:Pos}{env:Env}(h:cQ i=true)(v:qx):assign (.Subscript o i pos) env v=(do
 let ov <- holding [v] (eval o env)
 let iv <- holding [v,ov] (eval i env)
 standAt pos
 holding [v,ov,iv] (setItem ov iv v)
 release [v,ov,iv] []):=by
 cases i<;>first | rfl | exact no h
section
variable {X : Cx}
theorem aRs{x:Str}(h:qJ X.env.scope x=true):wS X.env.scope x:=by
 unfold qJ at h;unfold wS
 split at h<;>first | exact .inl (by assumption) | exact .inr (.inl (by assumption)) | exact .inr (.inr (by assumption)) | exact no h
theorem aCW{x:Str}(h:loc X.env.scope x=true):L2.Loc X.env.scope x:=by
 unfold loc at h;unfold L2.Loc
 split at h<;>first | exact .inl (by assumption) | exact .inr (by assumption) | exact no h
theorem iM{x:Str}(h:gl X.env.scope x=true):Gl X x:=(oqT h:X.env.scope.names.lookup x=qq .globalImplicit)
theorem tR{x y:Str}(h:(!(x==y))=true):(x==y)=false:=by
 cases e:x==y with
 | false=>rfl
 | true=>rw[e] at h;exact no h
def aCZ(b:Bool)(X:Cx):Prop:=b=true\/∀ x,X.fn x=true
theorem aHq{b:Bool}(st:aCZ b X){i:Nat}{x:Str}(h:aCQ b X.N X.env.scope i x=true):X.N[i]? = qq x/\L2.Loc X.env.scope x/\(X.fn x=true\/X.env.scope.names.lookup x=qq .local):=by
 obtain⟨h1,h2⟩:=gT h;cases b with
 | true =>
   have h3:=oqT h2;exact⟨oqT h1,.inl h3,.inr h3⟩
 | false =>
   refine⟨oqT h1,aCW h2,?_⟩;rcases st with z | z
   ·cases z
   ·exact .inl (z x)
noncomputable def wC:List Nat->iT
 | []=>aDm
 | i::is=>aC9 (oE i) (wC is)
noncomputable def tD(K:FrG):Tg->TG
 | .one i=>oE i
 | .many is=>aDy K is.length (wC is)
theorem aH4(K:FrG):∀ is:List Nat,xB K is (wC is)
 | []=>aPN
 | _::is=>aNu (aH4 K is)
theorem aAN(K:FrG)(t:Tg):GA K t (tD K t):=by
 cases t with
 | one i=>exact aRN i
 | many is=>exact aP5 (aH4 K is)
theorem aF3{b:Bool}(st:aCZ b X)(nd:X.N.Nodup):∀ {is:List Nat}{es:List qw},aCr b X.N X.env.scope is es=true->qL X es (wC is)/\(xj es X.env).length=is.length/\(xj es X.env).findIdx? (·.1)=qz
 | [],[],_=>⟨aO2,rfl,rfl⟩
 | [],_::_,h=>no h
 | _::_,[],h=>no h
 | i::is,e::r,h=>mS (P:=λ e=>qL X (e::r) (wC (i::is))/\(xj (e::r) X.env).length=(i::is).length/\(xj (e::r) X.env).findIdx? (·.1)=qz) h λ x p h=>by
   obtain⟨a1,a2,a3⟩:=aHq st (aL h);obtain⟨pg,hl2,hf⟩:=aF3 st nd (aR h);refine⟨aN0 (aCD nd a1 a2 a3) pg rfl,?_,?_⟩
   ·show((false,assign (.Name x p) X.env)::xj r X.env).length=_;rw[yBi,yBi,hl2]
   ·show((false,assign (.Name x p) X.env)::xj r X.env).findIdx? (·.1)=qz;rw[List.findIdx?_cons,hf];rfl
theorem aAH{b:Bool}(st:aCZ b X)(nd:X.N.Nodup)(hc:X.calm=true){t:Tg}{tg:qw}(h:wO b X.N X.env.scope t tg=true):PG X tg (tD X.K t):=by
 cases t with
 | one i=>exact mS (P:=λ e=>PG X e (oE i)) h λ x p h=>let ⟨a1,a2,a3⟩:=aHq st h;aCD nd a1 a2 a3
 | many is=>exact aBc (P:=λ e=>PG X e (tD X.K (.many is))) h λ es k p h=>let ⟨pg,hl2,hf⟩:=aF3 st nd h;aQx hc pg hl2 hf
end
section
variable (T : Tx)(C : Calls)
def SE(c:E):Prop:=∀ X,Ctx T C X->∀ x,bL T X.N c X.env.scope x=true->PE X x (aW X.K (ev C c))
def ST(c:E):Prop:=∀ X,Ctx T C X->∀ x,lY T X.N c X.env.scope x=true->PT X x (fL X.K (tv C c))/\∀ op es p,x=.BoolOp op es p->PW X x (fL X.K (tv C c))
def SA(c:E):Prop:=∀ X,Ctx T C X->∀ x,nG T X.N c X.env.scope x=true->PA X x (iF X.K (av C c))
def SO(c:E):Prop:=∀ X,Ctx T C X->∀ x,okO T X.N c X.env.scope x=true->PO X x (lS X.K (ov C c))
def SL(c:E):Prop:=∀ X,Ctx T C X->∀ x,wT T X.N c X.env.scope x=true->PE X x (iC X.K (lv C c))
def SI(c:E):Prop:=∀ X,Ctx T C X->∀ tg x,okI T X.N c X.env.scope tg x=true->PI X tg x (kP X.K (lv C c))
end
section
variable {T : Tx}{C : Calls}
theorem aPj{X:Cx}{x:qw}{f:FE}(h:∀ env S,f env S=qz):PE X x (aW X.K f):=λ aB s σ H Q I aV=>by
 obtain⟨F,L,S,env,w,S',R,E,e,q⟩:=aV;rw[h] at e;cases e
theorem aSG{X:Cx}{x:qw}{f:FE}(h:PE X x (aW X.K f))(ht:lT x=true):PT X x (fL X.K (dB f))/\∀ op es p,x=.BoolOp op es p->PW X x (fL X.K (dB f)):=
 ⟨aUQ h λ fG=>aRI ht X.env fG,λ op es p e=>by subst e;exact no ht⟩
theorem aH3(i:Nat):SE T C (.var i):=λ X hX x hx=>mS (P:=λ x=>PE X x _) hx λ y p h=>aTE (dT (aL (aL (aL h)))) (aRs (aR (aL (aL h)))) (tR (aR (aL h))) (tR (aR h))
theorem aR7(i:Int):SE T C (.int i):=λ X hX x h=>aAy (P:=λ x=>PE X x _) h λ k p=>aUy
theorem aJD(i:Bool):SE T C (.bl i):=λ X hX x h=>aAy (P:=λ x=>PE X x _) h λ k p=>aWf
theorem aR0:SE T C .non:=λ X hX x h=>aAy (P:=λ x=>PE X x _) h λ k p=>aTY
theorem aQ6(i:Str):SE T C (.str i):=λ X hX x h=>aAy (P:=λ x=>PE X x _) h λ k p=>aUf
theorem aIJ{op:vq}{a b:E}(ha:SE T C a)(hb:SE T C b):SE T C (.bin op a b):=λ X hX x hx=>aKg (P:=λ x=>PE X x _) hx λ l o r p h=>by
 obtain rfl:=dT (aL (aL h));exact aUD (ha X hX _ (aR (aL h))) (hb X hX _ (aR h))
theorem aT9{op:yx}{a:E}(ha:SE T C a):SE T C (.un op a):=λ X hX x hx=>aDN (P:=λ x=>PE X x _) hx λ o r p h=>by
 obtain rfl:=dT (aL (aL h));exact aV9 (ha X hX _ (aR h))
theorem aRT{op:vv}{a b:E}(ha:SE T C a)(hb:SE T C b):SE T C (.cmp op a b):=λ X hX x hx=>aJd (P:=λ x=>PE X x _) hx λ l o r p h h4=>by
 obtain rfl:=dT (aL (aL h));exact aS7 hX.units (ha X hX _ (aR (aL h))) (hb X hX _ (aR h)) (aGb h4 o)
theorem aJj{X:Cx}{x:qw}{t:TT}(h:PT X x t)(n:x.ctorIdx≠0):PT X x t/\∀ op es p,x=.BoolOp op es p->PW X x t:=
 ⟨h,λ op es p e=>absurd (congrArg Expr.ctorIdx e) n⟩
theorem aR1{op:vv}{a b:E}(ha:SE T C a)(hb:SE T C b):ST T C (.cmp op a b):=λ X hX x hx=>aJd (P:=λ x=>PT X x _/\∀ op es p,x=.BoolOp op es p->PW X x _) hx λ l o r p h h4=>by
 obtain rfl:=dT (aL (aL h));exact aJj (aQP hX.units (ha X hX _ (aR (aL h))) (hb X hX _ (aR h)) (aGb h4 o)) (Nat.succ_ne_zero 14)
theorem aRO{n:Str}{ts:List Tv}:SE T C (.con n ts):=λ X hX x hx=>mS (P:=λ x=>PE X x _) hx λ y p h=>by
 obtain rfl:=dT (aL (aL (aL h)));exact aTi (iM (aR (aL h))) (tR (aR h)) (hX.cns _ _ (List.contains_iff_mem.mp (aR (aL (aL h)))))
theorem aRC{a b:E}(ha:SE T C a)(hb:SE T C b):SE T C (.and a b):=λ X hX x hx=>aAd (P:=λ x=>PE X x _) hx
 (λ l r p h=>PE.weak (aIH (ha X hX _ (aL h)) (aIu (hb X hX _ (aR h)))) aId) λ l b c r p h=>PE.weak (aIH (ha X hX _ (aL h)) (hb X hX _ (aR h))) aId
theorem aSW{a b:E}(ha:SE T C a)(hb:SE T C b):SE T C (.or a b):=λ X hX x hx=>aAd (P:=λ x=>PE X x _) hx
 (λ l r p h=>PE.weak (aJB (ha X hX _ (aL h)) (aIu (hb X hX _ (aR h)))) aJh) λ l b c r p h=>PE.weak (aJB (ha X hX _ (aL h)) (hb X hX _ (aR h))) aJh
theorem aHY{X:Cx}{x:qw}{t:TT}(k:PW X x t):PT X x t/\∀ op es p,x=.BoolOp op es p->PW X x t:=⟨k.pt,λ _ _ _ _=>k⟩
theorem aQf{a b:E}(ha:ST T C a)(hb:ST T C b):ST T C (.and a b):=λ X hX x hx=>aHY (aAd (P:=λ x=>PW X x _) hx
 (λ l r p h=>PW.weak (aIv (ha X hX _ (aL h)).1 (aOe (hb X hX _ (aR h)).1)) aIY) λ l b c r p h=>PW.weak (aIv (ha X hX _ (aL h)).1 ((hb X hX _ (aR h)).2 _ _ _ rfl)) aIY)
theorem aSJ{a b:E}(ha:ST T C a)(hb:ST T C b):ST T C (.or a b):=λ X hX x hx=>aHY (aAd (P:=λ x=>PW X x _) hx
 (λ l r p h=>PW.weak (aI8 (ha X hX _ (aL h)).1 (aRw (hb X hX _ (aR h)).1)) aJ1) λ l b c r p h=>PW.weak (aI8 (ha X hX _ (aL h)).1 ((hb X hX _ (aR h)).2 _ _ _ rfl)) aJ1)
theorem aRJ{a:E}(ha:SE T C a):SE T C (.not a):=λ X hX x hx=>aDN (P:=λ x=>PE X x _) hx λ o y p h=>by
 obtain rfl:=dT (aL h);exact aSw (ha X hX _ (aR h))
theorem aRg{a:E}(ha:ST T C a):ST T C (.not a):=λ X hX x hx=>aDN (P:=λ x=>PT X x _/\∀ op es p,x=.BoolOp op es p->PW X x _) hx λ o y p h=>by
 obtain rfl:=dT (aL h);exact aJj (aS8 (ha X hX _ (aR h)).1) (Nat.succ_ne_zero 2)
theorem aRo{c a b:E}(hc:ST T C c)(ha:SE T C a)(hb:SE T C b):SE T C (.ite c a b):=λ X hX x hx=>aVW (P:=λ x=>PE X x _) hx λ x y z p h=>aUd (hc X hX _ (aL (aL h))).1 (ha X hX _ (aR (aL h))) (hb X hX _ (aR h))
theorem aRq{a:E}(ha:SA T C a):SE T C (.tup a):=λ X hX x hx=>aBc (P:=λ x=>PE X x _) hx λ xs k p h=>aTN (ha X hX _ h)
theorem aQz{a:E}(ha:SA T C a):SL T C (.lst a):=λ X hX x hx=>aVn (P:=λ x=>PE X x _) hx λ xs p h=>aTd (ha X hX _ h)
theorem aRy:SA T C .nil:=λ X hX x h=>oC (P:=λ x=>PA X x _) h aAD
theorem aPb{a r:E}(ha:SE T C a)(hr:SA T C r):SA T C (.cons a r):=λ X hX x h=>by
 cases x with
 | nil=>exact no h
 | cons y ys=>exact mI (ha X hX _ (aL (aL h))) (hr X hX _ (aR h)) (iK (aR (aL h)) _ _)
theorem aUG:SO T C .no:=λ X hX x h=>aJx (P:=λ x=>PO X x _) h aVO
theorem aOk{a r:E}(ha:SE T C a):SO T C (.cons a r):=λ X hX x h=>aVR (P:=λ r=>PO X x (lS X.K (ov C (.cons a r)))) (aL h) (aJq (P:=λ x=>PO X x _) (aR h) λ y h=>aQM (ha X hX _ h))
theorem aI2{a b:E}(ha:SE T C a)(hb:SE T C b):SE T C (.ix a b):=λ X hX x hx=>aDw (P:=λ x=>PE X x _) hx λ l r p h h3=>aV4 (ha X hX _ (aL h)) (hb X hX _ (aR h)) (aJp h3)
theorem aQJ{n:Str}{aX:List (Str×Tv)}{k:E}(hk:SE T C k):SE T C (.tab n aX k):=λ X hX x hx=>aDw (P:=λ x=>PE X x _) hx λ y z p g h6=>mS (P:=λ y=>PE X (.Subscript y z p) _) (aR g) λ u q h=>by
 obtain rfl:=dT (aL (aL (aL h)));exact aUC (iM (aR (aL h))) (tR (aR h)) (hX.tbs _ _ (List.contains_iff_mem.mp (aR (aL (aL h))))) (hk X hX _ (aL g)) (aJp h6)
theorem aUr{a lo hi:E}(ha:SE T C a)(hl:SO T C lo)(hh:SO T C hi):SE T C (.sl a lo hi):=λ X hX x hx=>aUP (P:=λ x=>PE X x _) hx λ y l u p q h=>aVq (ha X hX _ (aL (aL h))) (hl X hX _ (aR (aL h))) (hh X hX _ (aR h))
theorem aPD{N:List Str}{a:E}{sc:zk}(h:nG T N a sc []=true):a=.nil:=by
 cases a<;>first | rfl | exact no h
theorem aMZ{f np:Nat}{call:List W->aC->Option (W×aC)}{fs:FA}(h:C f=qq (np,call)):kX C f fs=aAE fs np call:=by
 funext env S
 unfold kX;rw[h]
theorem aG5{f:Nat}{a:E}(ha:SA T C a):SE T C (.call f a):=λ X hX x hx=>vC (P:=λ x=>PE X x _) hx λ y p zs q h=>by
 cases hC:C f with
 | none=>exact aPj λ env S=>by show kX C f (av C a) env S=qz;unfold kX;rw[hC]
 | some nc =>
   obtain⟨k,rm,fs⟩:=hX.room;obtain⟨fa,fd,ps,m1,m2,m3,m4⟩:=fs f nc.1 nc.2 y hC (dT (aL (aL (aL (aL h)))));have hw:∀ σ H Q,aW X.K (ev C (.call f a)) σ H Q->aAB (sT X.K nc.1 nc.2) [] E0 (iF X.K (av C a)) σ H Q:=λ σ H Q hq=>aQs σ H Q (aMZ (fs:=av C a) hC▸hq)
   have h2:=iM (aR (aL (aL (aL h))));have h3:=tR (aR (aL (aL h)));cases zs with
   | nil =>
     refine PE.weak (aNW m4 rm h2 m1 m2 m3 .nil aIV h3) λ σ H Q hq=>?_
     obtain⟨F,L,S,env,ws,S',R,E,e,q2⟩:=hw σ H Q hq;cases aPD (aR (aL h));cases e;exact q2 F L H [] Gr.refl R .nil
   | cons z zr=>exact PE.weak (aP3 m4 rm h2 m1 m2 m3 .nil aIV (ha X hX _ (aR (aL h))) h3 (iK (aL (aR h)) _ _) (aCo (aR (aR h)) _ _)) hw
theorem aH2{b:B}{a:E}(ha:SA T C a):SE T C (.blt b a):=λ X hX x hx=>vC (P:=λ x=>PE X x _) hx λ y p zs q h=>by
 obtain rfl:=dT (aR (aL (aL (aL h))));cases zs with
 | nil=>exact no (aL (aL (aL (aL h))))
 | cons z zr =>
 have A:=ha X hX _ (aR (aL h));have G:=iM (aR (aL (aL h)));have s1:=iK (aL (aR h)) zr X.env;have s2:=aCo (aR (aR h)) X.env q;cases b with
 | len=>exact PE.weak (nP aT4 G (hX.blt _ (by decide)) (by decide +kernel) A (by decide) (by decide) s1 s2) mM
 | mx=>exact PE.weak (nP (aUF hX.calm) G (hX.blt _ (by decide)) (by decide +kernel) A (by decide) (by decide) s1 s2) mM
 | mn=>exact PE.weak (nP (aU1 hX.calm) G (hX.blt _ (by decide)) (by decide +kernel) A (by decide) (by decide) s1 s2) mM
 | abs=>exact PE.weak (nP aUz G (hX.blt _ (by decide)) (by decide +kernel) A (by decide) (by decide) s1 s2) mM
 | sum=>exact PE.weak (nP (aUx hX.calm) G (hX.blt _ (by decide)) (by decide +kernel) A (by decide) (by decide) s1 s2) mM
 | all=>exact PE.weak (nP (aU6 hX.calm) G (hX.blt _ (by decide)) (by decide +kernel) A (by decide) (by decide) s1 s2) mM
 | any=>exact PE.weak (nP (aU3 hX.calm) G (hX.blt _ (by decide)) (by decide +kernel) A (by decide) (by decide) s1 s2) mM
 | int=>exact PE.weak (aFO aS0 G (hX.blt _ (by decide)) (by decide +kernel) A (by decide) (by decide) s1 s2) mM
 | tup=>exact PE.weak (aFO aPr G (hX.blt _ (by decide)) (by decide +kernel) A (by decide) (by decide) s1 s2) mM
theorem aFY(n:Ty):jq n.n=qq (.type n.s)/\n.n∈bltNames:=by cases n<;>exact⟨by decide +kernel,by decide⟩
theorem aIN{a:E}{n:Ty}(ha:SE T C a):SE T C (.isi a n):=λ X hX x hx=>aKt (P:=λ x=>PE X x _) hx λ p y w q h3 h5 h6 h7 _=>mS (P:=λ w=>PE X (.Call (.Name "isinstance" p) [y,w] [] q) _) h7 λ z pz h=>by
 obtain rfl:=dT (aL h);have k:=aTB (X:=X) (n:=n.s) (x:=n.n) (p:=p) (p':=pz) (pos:=q) (ha X hX _ h5) (iM h3) (hX.blt _ (by decide)) (by decide +kernel) (iM (aR h)) (hX.blt _ (aFY n).2) (aFY n).1 (by cases n<;>decide) (by cases n<;>decide) (iK h6 _ _)
 refine PE.weak k λ σ H Q ⟨F,L,S,env,w,S',R,E,e,q2⟩=>⟨F,L,S,env,w,S',R,E,?_,q2⟩
 obtain⟨⟨w1,S1⟩,e1,e2⟩:=bind_some e;obtain⟨d,z,e3,e4,rfl,rfl⟩:=uJ e2;unfold aJU f1;rw[e1];show fZ (wH X.K n.s) _ w1=_;unfold fZ;rw[e3];dsimp only[yCz];rw[aRi X.K e4]
theorem aOw{a:E}(ha:SE T C a):SE T C (.bits a):=λ X hX x hx=>aKo (P:=λ x=>PE X x _) hx λ o ap xs cp h4 h3 h=>oC (P:=λ xs=>PE X (.Call (.Attribute o "bit_length" ap) xs [] cp) _) (aR h) (by
 refine PE.weak (aSe PySem.F.plainAttrs_int yGa PySem.F.type_int_bit_length aOp (ha X hX _ (aL h)) (uR h3 _ _) h4) λ σ H Q hPq43=>?_
 obtain⟨F,L,S,env,w,S',R,E,e,q⟩:=hPq43;obtain⟨⟨w1,S1⟩,e1,e2⟩:=bind_some e;obtain⟨d,z,e3,e4,rfl,rfl⟩:=uJ e2;refine⟨F,L,S,env,w1,_,R,E,e1,λ F1 L1 H1 v g1 R1 d1=>?_⟩
 have nw:=jT R1 d1 e3;cases d<;>first | (cases e4;done) | skip
 cases e4;obtain rfl:=nw.int;exact⟨rfl,_,rfl,rfl,q F1 L1 H1 _ g1 R1 (Den.int _)⟩)
theorem oU{X:Cx}{z:qw}(h:cQ z=true):zq [z] X.env=(false,eval z X.env)::zq [] X.env:=iK h [] X.env
theorem sc1{X:Cx}{a:E}{z:qw}(ha:SE T C a)(hX:Ctx T C X)(h:bL T X.N a X.env.scope z=true)(hp:cQ z=true):PA X [z] (iF X.K (eQ (ev C a) lU)):=mI (ha X hX _ h) aAD (oU hp)
theorem aQw{o a:E}(ho:SE T C o)(ha:SE T C a):SE T C (.app o a):=λ X hX x hx=>aUu (P:=λ x=>PE X x _) hx λ y ap z cp h4 h3 h2 h5 h6 =>
 PE.weak (aTu PySem.F.plainAttrs_list PySem.F.slot_list_append PySem.F.type_list_append aFi (ho X hX _ h2) (sc1 ha hX h5 h6) (uR h3 _ _) (by rw[oU h6];rfl) h4 (oU h6) rfl) aUq
theorem aPJ{a b:E}(ha:SE T C a)(hb:SE T C b):SL T C (.lzip a b):=λ X hX x hx=>aA2 (P:=λ x=>PE X x _) hx λ p y q h2 h3 _=>aKt (P:=λ y=>PE X (.Call (.Name "list" p) [y] [] q) _) h3 λ p' z w q' h4 h5 h6 h7 h8 =>
 aQF (ha X hX _ h5) (hb X hX _ h7) hX.calm (iM h2) (hX.blt _ (by decide)) (iM h4) (hX.blt _ (by decide)) (iK h6 [w] X.env) (oU h8)
theorem aPL{a:E}(ha:SE T C a):SL T C (.lrg1 a):=λ X hX x hx=>aA2 (P:=λ x=>PE X x _) hx λ p y q h2 h3 _=>aA2 (P:=λ y=>PE X (.Call (.Name "list" p) [y] [] q) _) h3 λ p' z q' h4 h5 h6 =>
 aSt (ha X hX _ h5) hX.calm (iM h2) (hX.blt _ (by decide)) (iM h4) (hX.blt _ (by decide)) (oU h6)
theorem aPm{a b:E}(ha:SE T C a)(hb:SE T C b):SL T C (.lrep a b):=λ X hX x hx=>aKg (P:=λ x=>PE X x _) hx λ l o r p h=>by
 obtain rfl:=dT (aL (aL h));exact aUA (ha X hX _ (aR (aL h))) (hb X hX _ (aR h))
theorem aTX{a:E}(ha:SE T C a):SI T C (.it a):=λ X hX tg x h=>aVd (ha X hX _ h)
theorem aPY{a:E}(ha:SE T C a):SI T C (.rng1 a):=λ X hX tg x hx=>aA2 (P:=λ x=>PI X tg x _) hx λ p z q h2 h3 h4 =>
 PI.weak (aMp (iM h2) (hX.blt _ (by decide)) (sc1 ha hX h3 h4) (oU h4)) aRP
theorem aPW{a b c:E}(ha:SE T C a)(hb:SE T C b)(hc:SE T C c):SI T C (.rng3 a b c):=λ X hX tg x hx=>aJP (P:=λ x=>PI X tg x _) hx λ p z w v q h2 h3 h4 h5 h6 h7 h8=>by
 have st:=iK h4 [w,v] X.env;have st2:=iK h6 [v] X.env;exact PI.weak (aML (iM h2) (hX.blt _ (by decide)) (mI (ha X hX _ h3) (mI (hb X hX _ h5) (sc1 hc hX h7 h8) st2) st) st (by rw[st2,oU h8];rfl)) aRQ
theorem aOH{a b c:E}(ha:SE T C a)(hb:SE T C b)(hc:SE T C c):SI T C (.zip3 a b c):=λ X hX tg x hx=>aBc (P:=λ tg=>PI X tg x _) (aL hx) λ ts k tp _=>aJP (P:=λ x=>PI X _ x _) (aR hx) λ p z z2 z3 q h2 h3 h4 h5 h6 h7 h8 =>
 PI.weak (aOO (iM h2) (hX.blt _ (by decide)) (mI (ha X hX _ h3) (mI (hb X hX _ h5) (sc1 hc hX h7 h8) (iK h6 [z3] X.env)) (iK h4 [z2,z3] X.env)) (iK h4 [z2,z3] X.env) (iK h6 [z3] X.env) (oU h8)) aQt
theorem or2{a b:Bool}(h:(a||b)=true)(n:a=false):b=true:=by
 rw[n] at h;exact h
theorem aHo{scope osc:zk}(h:aDg scope osc=true):ScOk scope osc:=by
 have h2:=List.all_eq_true.mp (aR h);refine⟨dT (aL h),λ x hx e=>?_,λ x hx e=>?_,λ x hx e=>?_⟩
 ·have:=h2 x hx;simp[e] at this
 ·have:=h2 x hx;simp[e] at this;exact this
 ·have:=h2 x hx;simp[e] at this;exact this
theorem aCP{N:List Str}{scope:zk}{is:List Nat}:∀ {n:Nat},aA7 N scope is n=true->∀ i,i<n->∀ x,N[i]? = qq x->scope.names.lookup x=qq .local->i∈is
 | 0,_,i,hi,_,_,_=>absurd hi (yFe i)
 | n+1,h,i,hi,x,e,el=>by
   rcases Nat.lt_succ_iff_lt_or_eq.mp hi with z | z
   ·exact aCP (aL h) i z x e el
   ·subst z;have h2:=aR h;rw[e] at h2;exact List.contains_iff_mem.mp (or2 h2 (by rw[el];rfl))
theorem aO0{elt it cond:E}{t:Tg}(he:SE T C elt)(hi:SI T C it)(hc:ST T C cond):SL T C (.comp elt t it cond):=λ X hX x hx=>aKu (P:=λ x=>PE X x _) hx λ e tg iter ifs scope p h1 h2 h3 h4 h5 h6 h7=>by
 have sok:=aHo h1;refine aIe (g:=tD X.K t) hX.calm sok (λ i x a1 a2=>aCP h2 i (gIm a1).1 x a1 a2) (hi X hX tg iter h4) (λ Y hY=>?_) (aAN X.K t) (λ Y hY=>?_) (λ Y hY=>?_) (aB5 h5 X.env)
 ·obtain⟨c1,c2,c3,c4⟩:=hX.comp sok.kind hY;rw[<- c4];exact aAH (.inl rfl) c1.nd c1.calm (by rw[c2,c3];exact h3)
 ·obtain⟨c1,c2,c3,c4⟩:=hX.comp sok.kind hY;cases ifs with
  | nil=>exact aKv (P:=λ cond=>mF Y [] (tv C cond)) h6 aFC
  | cons y r=>exact oC (P:=λ r=>mF Y (y::r) _) (aL h6) (aFS (hc Y c1 y (by rw[c2,c3];exact aR h6)).1)
 ·obtain⟨c1,c2,c3,c4⟩:=hX.comp sok.kind hY;rw[<- c4];exact he Y c1 e (by rw[c2,c3];exact h7)
theorem aSH{a:E}(ha:SL T C a):SE T C (.fz a):=λ X hX x h=>aKn (ha X hX x h)
theorem aQ3{a:E}(ha:SL T C a):SE T C (.new a):=λ X hX x h=>aUa (ha X hX x h)
theorem pU{c:E}(h:SE T C c)(ht:tv C c=dB (ev C c))(hk:∀ N sc x,lY T N c sc x=(bL T N c sc x&&lT x)):ST T C c:=λ X hX x q=>by
 rw[hk] at q;rw[ht];exact aSG (h X hX x (aL q)) (aR q)
structure Sn(T:Tx)(C:Calls)(c:E):Prop where
 e:SE T C c:=by exact λ _ _ _ h=>no h
 t:ST T C c:=by exact λ _ _ _ h=>no h
 a:SA T C c:=by exact λ _ _ _ h=>no h
 o:SO T C c:=by exact λ _ _ _ h=>no h
 l:SL T C c:=by exact λ _ _ _ h=>no h
 i:SI T C c:=by exact λ _ _ _ _ h=>no h
theorem sn(c:E):Sn T C c:=by
 induction c with
 | var i=>exact {e:=aH3 i,t:=pU (aH3 i) rfl λ _ _ _=>rfl }
 | int i=>exact {e:=aR7 i }
 | bl b=>exact {e:=aJD b,t:=pU (aJD b) rfl λ _ _ _=>rfl }
 | non=>exact {e:=aR0 }
 | str x=>exact {e:=aQ6 x }
 | bin op a b bA cE=>exact {e:=aIJ bA.e cE.e,t:=pU (aIJ bA.e cE.e) rfl λ _ _ _=>rfl }
 | un op a bA=>exact {e:=aT9 bA.e }
 | cmp op a b bA cE=>exact {e:=aRT bA.e cE.e,t:=aR1 bA.e cE.e }
 | ltl a b bA cE=>exact {}
 | and a b bA cE=>exact {e:=aRC bA.e cE.e,t:=aQf bA.t cE.t }
 | or a b bA cE=>exact {e:=aSW bA.e cE.e,t:=aSJ bA.t cE.t }
 | not a bA=>exact {e:=aRJ bA.e,t:=aRg bA.t }
 | ite c a b ihc bA cE=>exact {e:=aRo ihc.t bA.e cE.e }
 | tup a bA=>exact {e:=aRq bA.a }
 | lst a bA=>exact {l:=aQz bA.a }
 | nil=>exact {a:=aRy }
 | cons a r bA ihr=>exact {a:=aPb bA.e ihr.a,o:=aOk bA.e }
 | chn op gN a b c bA cE ihc=>exact {}
 | con x ts=>exact {e:=aRO }
 | ix a b bA cE=>exact {e:=aI2 bA.e cE.e,t:=pU (aI2 bA.e cE.e) rfl λ _ _ _=>rfl }
 | dsp k l m a b c i bA cE ihc ihi=>exact {}
 | tab x aX k ihk=>exact {e:=aQJ ihk.e }
 | slL a lo hi bA ihlo ihhi=>exact {}
 | sl a lo hi bA ihlo ihhi=>exact {e:=aUr bA.e ihlo.o ihhi.o }
 | no=>exact {o:=aUG }
 | call f a bA=>exact {e:=aG5 bA.a,t:=pU (aG5 bA.a) rfl λ _ _ _=>rfl }
 | blt b a bA=>exact {e:=aH2 bA.a,t:=pU (aH2 bA.a) rfl λ _ _ _=>rfl }
 | isi a n bA=>exact {e:=aIN bA.e,t:=pU (aIN bA.e) rfl λ _ _ _=>rfl }
 | bits a bA=>exact {e:=aOw bA.e }
 | app o a iho bA=>exact {e:=aQw iho.e bA.e }
 | pop o a iho bA=>exact {}
 | idx o a iho bA=>exact {}
 | lof a bA=>exact {}
 | lzip a b bA cE=>exact {l:=aPJ bA.e cE.e }
 | lrg1 a bA=>exact {l:=aPL bA.e }
 | lrg2 a b bA cE=>exact {}
 | srt a bA=>exact {}
 | lrev a bA=>exact {}
 | lrep a b bA cE=>exact {l:=aPm bA.e cE.e }
 | comp elt t it cond ihelt ihit ihcond=>exact {l:=aO0 ihelt.e ihit.i ihcond.t }
 | it a bA=>exact {i:=aTX bA.e }
 | rng1 a bA=>exact {i:=aPY bA.e }
 | rng2 a b bA cE=>exact {}
 | rng3 a b c bA cE ihc=>exact {i:=aPW bA.e cE.e ihc.e }
 | rrng a bA=>exact {}
 | enm a bA=>exact {}
 | zip a b bA cE=>exact {}
 | zip3 a b c bA cE ihc=>exact {i:=aOH bA.e cE.e ihc.e }
 | fz a bA=>exact {e:=aSH bA.l }
 | new a bA=>exact {e:=aQ3 bA.l }
end
section
variable (T : Tx)(C : Calls)
def SS(c:Sx):Prop:=∀ X,Ctx T C X->(∀ x,X.fn x=true)->∀ st,okS T X.N c X.env.scope st=true->PS X st (dI X.K (xs C c))
def oS(c:Sx):Prop:=∀ X,Ctx T C X->(∀ x,X.fn x=true)->∀ st,oO T X.N c X.env.scope st=true->dR X st (dI X.K (xs C c))
end
section
variable {T : Tx}{C : Calls}
theorem aHn{e t:qw}(h:rQ e=true)(line:Nat)(env:Env):swapsWithSole [t] e line env=pure false:=aCl h _ _ _
theorem aLR{e:qw}{ts:List qw}{k:Nat}{p:Pos}{env:Env}(h:aAJ e=false):yy [.Tuple ts k p] e env=pure qz:=by
 cases e<;>first | rfl | exact no h.symm
theorem aLA{o i e:qw}{p:Pos}{env:Env}:yy [.Subscript o i p] e env=pure qz:=by
 cases e<;>rfl
theorem aQp{a b:Sx}(ha:SS T C a)(hb:oS T C b):oS T C (.seq a b):=λ X hX hf st h=>by
 cases st with
 | nil=>exact no h
 | cons s r =>
   obtain⟨h1,h2⟩:=gT h;exact aS5 (ha X hX hf _ h1) (hb X hX hf _ h2)
theorem aPH:oS T C .skip:=λ X hX hf st h=>oC (P:=λ st=>dR X st _) h aSr
theorem aPU{e:E}:SS T C (.expr e):=λ X hX hf st h=>aWe (P:=λ st=>PS X st _) h λ x p h=>aRY ((sn e).e X hX _ (aL h)) (aCl (aR h) _ _ _)
theorem aQT{e:E}:SS T C (.ret e):=λ X hX hf st h=>aVV (P:=λ st=>PS X st _) h λ _ p h=>aJq (P:=λ v=>PS X (.Return v p) _) h λ x h=>aUg ((sn e).e X hX _ h)
theorem aRU{c:E}{a b:Sx}(ha:oS T C a)(hb:oS T C b):SS T C (.ifs c a b):=λ X hX hf st h=>aVf (P:=λ st=>PS X st _) h λ x y z p h=>aVB ((sn c).t X hX _ (aL (aL h))).1 (ha X hX hf _ (aR (aL h))) (hb X hX hf _ (aR h))
theorem aRj{i:Nat}{e:E}:SS T C (.set i e):=λ X hX hf st h=>aA1 (P:=λ st=>PS X st _) h λ _ y p h=>lG (P:=λ ts=>PS X (.Assign ts y p) _) (aR h) λ _ g=>mS (P:=λ t=>PS X (.Assign [t] y p) _) g λ x q g =>
 aJy hX.nd (dT (aL g)) (aCW (aR g)) ((sn e).e X hX _ (aL (aL h))) (aCl (aR (aL h)) _ _ _) (.inl (hf _))
theorem aVU{K:FrG}{f:FL}(σ:St)(H:Hp)(Q:VK)(h:aW K (cO f) σ H Q):iC K f σ H Q:=by
 obtain⟨F,L,S,env,w,S',R,E,e,q⟩:=h;obtain⟨⟨ds,S1⟩,e1,e2⟩:=bind_some e;cases e2;exact⟨F,L,S,env,ds,_,R,E,e1,λ F1 L1 H1 p xs g1 R1 hF hL hH dl=>q _ L1 _ _ (g1.trans (Gr.new hF)) (R1.adopt hF hL hH) (Den.lst (bV.of dE) (dl.mono (eI hF)))⟩
theorem aTs{K:FrG}{f:FL}(σ:St)(H:Hp)(Q:VK)(h:aW K (gK f) σ H Q):iC K f σ H Q:=by
 obtain⟨F,L,S,env,w,S',R,E,e,q⟩:=h;obtain⟨⟨ds,S1⟩,e1,e2⟩:=bind_some e;cases e2;refine⟨F,L,S,env,ds,_,R,E,e1,λ F1 L1 H1 p xs g1 R1 hF hL hH dl=>q _ _ _ _ (g1.trans Gr.newLoc) (R1.adoptLoc hF hL hH dl) ⟨p,?_,rfl⟩⟩
 dsimp only;rw[<- R1.len,yAf (yAc _)];simp
theorem aVA{K:FrG}{f:FL}(nw:Bool):∀ (σ:St) (H:Hp) (Q:VK),aW K (match nw with | true=>gK f | false=>cO f) σ H Q->iC K f σ H Q:=by
 cases nw
 ·exact aVU
 ·exact aTs
theorem aPd{nw:Bool}{i:Nat}{e:E}:SS T C (.setC nw i e):=λ X hX hf st h=>aA1 (P:=λ st=>PS X st _) h λ _ y p h=>lG (P:=λ ts=>PS X (.Assign ts y p) _) (aR h) λ _ g=>mS (P:=λ t=>PS X (.Assign [t] y p) _) g λ x q g=>by
 refine aVX (P:=λ e=>wT T X.N e X.env.scope y=true->PS X (.Assign [.Name x q] y p) (dI X.K (xs C (.setC nw i e)))) (aL (aL h)) (λ elt t it cond hL=>aKu (P:=λ y=>PS X (.Assign [.Name x q] y p) (dI X.K (xs C (.setC nw i (.comp elt t it cond))))) hL λ e tg iter ifs scope r h1 h2 h3 h4 h5 h6 h7=>?_) (aR (aL h))
 have sok:=aHo h1;refine aMF (g:=tD X.K t) hX.nd (dT (aL g)) (aCW (aR g)) (.inl (hf _)) hX.calm sok (λ i x a1 a2=>aCP h2 i (gIm a1).1 x a1 a2) ((sn it).i X hX tg iter h4) (λ Y hY=>?_) (aAN X.K t) (λ Y hY=>?_) (λ Y hY=>?_) (aB5 h5 X.env) (aVA nw)
 ·obtain⟨c1,c2,c3,c4⟩:=hX.comp sok.kind hY;rw[<- c4];exact aAH (.inl rfl) c1.nd c1.calm (by rw[c2,c3];exact h3)
 ·obtain⟨c1,c2,c3,c4⟩:=hX.comp sok.kind hY;cases ifs with
  | nil=>exact aKv (P:=λ cond=>mF Y [] (tv C cond)) h6 aFC
  | cons y r=>exact oC (P:=λ r=>mF Y (y::r) _) (aL h6) (aFS ((sn cond).t Y c1 y (by rw[c2,c3];exact aR h6)).1)
 ·obtain⟨c1,c2,c3,c4⟩:=hX.comp sok.kind hY;rw[<- c4];exact(sn elt).e Y c1 e (by rw[c2,c3];exact h7)
theorem aVs{b:Bool}(h:(!b)=true):b=false:=by
 cases b with
 | false=>rfl
 | true=>exact no h
theorem aPo{t:Tg}{e:E}:SS T C (.setT t e):=λ X hX hf st h=>aA1 (P:=λ st=>PS X st _) h λ _ v p h=>lG (P:=λ ts=>PS X (.Assign ts v p) _) (aR h) λ tg g=>by
 have h1:=aAH (.inr hf) hX.nd hX.calm (aR g)
 revert h1
 exact aBc (P:=λ tg=>PG X tg (tD X.K t)->PS X (.Assign [tg] v p) (dI X.K (xs C (.setT t e)))) (aL g) λ ts k q _ h1=>PS.weak (aHV ((sn e).e X hX _ (aL (aL (aL h)))) h1 (aHn (aR (aL (aL h))) _ _) (aLR (aVs (aR (aL h)))) rfl) (aQy (aAN X.K t))
theorem aQn{o i e:E}:SS T C (.put o i e):=λ X hX hf st h=>aA1 (P:=λ st=>PS X st _) h λ _ z p h=>lG (P:=λ ts=>PS X (.Assign ts z p) _) (aR h) λ _ g=>aDw (P:=λ t=>PS X (.Assign [t] z p) _) g λ x y q g h3 =>
 aUW ((sn o).e X hX _ (aL g)) ((sn i).e X hX _ (aR g)) ((sn e).e X hX _ (aL (aL h))) (aMy h3) (aHn (aR (aL h)) _ _) aLA
theorem aPv{t:Tg}{it:E}{b:Sx}(hb:oS T C b):SS T C (.loop t it b):=λ X hX hf st h=>aVu (P:=λ st=>PS X st _) h λ tg x y z p h=>oC (P:=λ z=>PS X (.For tg x y z p) _) (aL (aL (aL (aL h))))
 (aTf hX.own hX.calm ((sn it).i X hX _ _ (aR (aL (aL h)))) (aAH (.inr hf) hX.nd hX.calm (aR (aL (aL (aL h))))) (aAN X.K t) (hb X hX hf _ (aR h)) (aB5 (aR (aL h)) X.env))
theorem ss(c:Sx):SS T C c/\oS T C c:=by
 have N2:∀ {c:Sx},SS T C c->(∀ N sc st,oO T N c sc st=false)->SS T C c/\oS T C c:=λ q hh=>⟨q,λ X hX hf st h=>by rw[hh] at h;exact no h⟩
 induction c with
 | skip=>exact⟨λ X hX hf st h=>no h,aPH⟩
 | seq a b bA cE=>exact⟨λ X hX hf st h=>no h,aQp bA.1 cE.2⟩
 | expr e=>exact N2 aPU λ _ _ _=>rfl
 | ret e=>exact N2 aQT λ _ _ _=>rfl
 | ifs c a b bA cE=>exact N2 (aRU bA.2 cE.2) λ _ _ _=>rfl
 | set i e=>exact N2 aRj λ _ _ _=>rfl
 | setC nw i e=>exact N2 aPd λ _ _ _=>rfl
 | setT t e=>exact N2 aPo λ _ _ _=>rfl
 | put o i e=>exact N2 aQn λ _ _ _=>rfl
 | loop t it b cE=>exact N2 (aPv cE.2) λ _ _ _=>rfl
end
structure Fn where
 name:Str
 np:Nat
 N:List Str
 body:Sx
 st:jx
noncomputable def aD(fs:List Fn):Nat->Calls
 | 0=>λ _=>qz
 | d+1=>λ f=>(fs[f]?).map λ F=>(F.np,fD (xs (aD fs d) F.body) F.N.length)
structure Tbs where
 tb:List (Str×List (Str×Tv))
 cn:List (Str×List Tv)
noncomputable def tab(fs:List Fn)(tb:Tbs):Tx:=⟨fs.map λ F=>(F.name,F.np),tb.tb,tb.cn⟩
noncomputable def aCN:List Str->Bool
 | []=>true
 | x::r=>!r.contains x&&aCN r
theorem aF6:∀ {l:List Str},aCN l=true->l.Nodup
 | [],_=>List.nodup_nil
 | x::r,h=>by
   obtain⟨h1,h2⟩:=gT h;refine List.nodup_cons.mpr ⟨λ z=>?_,aF6 h2⟩
   have:r.contains x=true:=by simpa using z
   rw[this] at h1;exact no h1
noncomputable def aBd(fs:List Fn)(tb:Tbs)(F:Fn):Bool:=
 decide ((eO F.st).kind=.function) && !(eO F.st).isCoroutine && !(eO F.st).isGenerator&&aCN F.N&&decide (F.np<=F.N.length)&&(F.N.take F.np).all (loc (eO F.st))&&(eO F.st).names.all (λ y=>!decide (y.2=.free)) &&
  oO (tab fs tb) F.N F.body (eO F.st) (kU F.st)
theorem aQl{sc:zk}{x:Str}(h:loc sc x=true):sc.names.lookup x=qq .local\/sc.names.lookup x=qq .cell:=by
 unfold loc at h
 split at h<;>first | exact .inl (by assumption) | exact .inr (by assumption) | exact no h
theorem aN5{fs:List Fn}{tb:Tbs}{F:Fn}(h:aBd fs tb F=true):FnScope F.N (F.N.take F.np) (eO F.st)/\oO (tab fs tb) F.N F.body (eO F.st) (kU F.st)=true/\(F.N.take F.np).length=F.np:=by
 obtain⟨h,h8⟩:=gT h;obtain⟨h,h7⟩:=gT h;obtain⟨h,h6⟩:=gT h;obtain⟨h,h5⟩:=gT h;obtain⟨h,h4⟩:=gT h;obtain⟨h,h3⟩:=gT h;obtain⟨h1,h2⟩:=gT h;have hl:(F.N.take F.np).length=F.np:=by
  rw[yBx];have:=oqT h5;omega
 refine⟨⟨oqT h1,?_,?_,aF6 h4,by rw[hl],λ x hx=>aQl (List.all_eq_true.mp h6 x hx),λ y hy=>?_⟩,h8,hl⟩
 ·cases q:(eO F.st).isCoroutine with
  | false=>rfl
  | true=>rw[q] at h2;exact no h2
 ·cases q:(eO F.st).isGenerator with
  | false=>rfl
  | true=>rw[q] at h3;exact no h3
 ·have:=List.all_eq_true.mp h7 y hy;intro z;rw[dqT z] at this;exact no this
section
variable {P : qo}{w : zw}{K : FrG}{mg : Str -> Option qx}{base : Heap}
theorem aGL(fs:List Fn)(tb:Tbs)(hk:∀ F∈fs,aBd fs tb F=true)(top:∀ F∈fs,∃ fa fd,Fun K F.name F.name F.st fa fd/\mg F.name=qq (.ref fa)/\mO K fd (F.N.take F.np) [])(hb:∀ x∈bltNames,mg x=qz)(ht:∀ x aX,(x,aX)∈tb.tb->∃ a,mg x=qq (.ref a)/\vQ K w a aX)(hcn:∀ x ts,(x,ts)∈tb.cn->∃ a,mg x=qq (.ref a)/\rX K a ts) :
 ∀ d f F np call fa fd,fs[f]? = qq F->aD fs d f=qq (np,call)->Fun K F.name F.name F.st fa fd->FnOk P w K mg base sX d fa fd (F.N.take F.np) (sT K np call)
 | 0,f,F,np,call,fa,fd,eF,e,Fu=>by cases e
 | d+1,f,F,np,call,fa,fd,eF,e,Fu=>by
   have ih:=aGL fs tb hk top hb ht hcn d;have e2:(F.np,fD (xs (aD fs d) F.body) F.N.length)=(np,call):=by
    have e':(fs[f]?).map (λ F=>(F.np,fD (xs (aD fs d) F.body) F.N.length))=qq (np,call):=e
    rw[eF] at e';exact Option.some.inj e'
   cases e2;have hm:F∈fs:=xAl eF;obtain⟨sc,hok,hl⟩:=aN5 (hk F hm);refine Fu.ok sc (λ vs H Q E h=>?_) λ cdv A outer s H vs Q E hr h=>?_
   ·obtain⟨F1,L,S,ws,w1,S',hn,R,dl,_⟩:=h;rw[hl,<- hn];exact dl.length.symm
   ·refine⟨_,(ss (T:=tab fs tb) (C:=aD fs d) F.body).2 _ ⟨sc.nd,rfl,rfl,sc.kind,⟨d,hr,λ f' np' call' x' e1 e2=>?_⟩,hb,λ x aX hx=>ht x aX hx,λ x ts hx=>hcn x ts hx⟩ (λ _=>rfl) _ hok,aQe h⟩
    have e2:((fs.map λ F=>(F.name,F.np))[f']?).map (·.1)=qq x':=e2
    rw[xAb] at e2;cases q:fs[f']? with
    | none=>rw[q] at e2;cases e2
    | some F' =>
      rw[q] at e2;have hx:F'.name=x':=Option.some.inj e2;subst hx;obtain⟨fa',fd',Fu',hmg',hbi'⟩:=top F' (xAl q);exact⟨fa',fd',_,hmg',Fu'.kp,hbi',ih f' F' np' call' fa' fd' q e1 Fu'⟩
end
structure TopFn(K:FrG)(F:Fn):Prop where
 ex:∃ (f:qv) (oc:qx) (od an:Option qv) (sl:Array (Option qx)) (kV dc pm cd ct:qx),yEx K xu F.name=qq (qq (.ref f)) /\
  K.lookup f=qq ⟨oc,od,.func (yDd F.name F.name (nU F.st) (kU F.st) (eO F.st) .none kV dc pm an cd ct),sl⟩/\yFo K cd F.name=true/\yCv K (.ref f)=true
theorem top_mk{K:FrG}{F:Fn}{f:qv}{oc:qx}{od an:Option qv}{sl:Array (Option qx)}{kV dc pm cd ct:qx}(a:yEx K xu F.name=qq (qq (.ref f)))
 (l:K.lookup f=qq ⟨oc,od,.func (yDd F.name F.name (nU F.st) (kU F.st) (eO F.st) .none kV dc pm an cd ct),sl⟩) (c:yFo K cd F.name=true) (k:yCv K (.ref f)=true):TopFn K F:=
 ⟨f,oc,od,an,sl,kV,dc,pm,cd,ct,a,l,c,k⟩
structure TabTop(K:FrG)(w:zw)(t:Str×List (Str×Tv)):Prop where
 ex:∃ (a:qv) (es:Array DictEntry) (ep:Nat),yEx K xu t.1=qq (qq (.ref a))/\K.lookup a=qq {cls:=.type "dict",data:=.dict es ep }/\sA w es.toList t.2
theorem tab_mk{K:FrG}{w:zw}{t:Str×List (Str×Tv)}{a:qv}{es:Array DictEntry}{ep:Nat}(a1:yEx K xu t.1=qq (qq (.ref a)))
 (l1:K.lookup a=qq {cls:=.type "dict",data:=.dict es ep }) (c1:sA w es.toList t.2):TabTop K w t:=⟨a,es,ep,a1,l1,c1⟩
structure ConTop(K:FrG)(t:Str×List Tv):Prop where
 ex:∃ a:qv,yEx K xu t.1=qq (qq (.ref a))/\rX K a t.2
theorem con_mk{K:FrG}{t:Str×List Tv}{a:qv}{aF:Array qx}{n:Nat}{od:Option qv}{sl:Array (Option qx)}(a1:yEx K xu t.1=qq (qq (.ref a)))
 (l1:K.lookup a=qq {cls:=.type "tuple",dict:=od,data:=.seq aF n,slots:=sl }) (z1:aF.size<=100) (c1:aAA aF.toList t.2):ConTop K t:=
 ⟨a,a1,_,aF,n,l1,rfl,rfl,xAi z1 (by decide),c1⟩
def aCt(F:Fn):Prop:=∀ (kV doc pm:qx) (an:Option qv) (cdv ct:qx) (us:List qx),us.length=(F.N.take F.np).length->bindArgs (yDd F.name F.name (nU F.st) (kU F.st) (eO F.st) .none kV doc pm an cdv ct) ⟨us,[]⟩=pure ((F.N.take F.np).zip us)
noncomputable def aC7(F:Fn):Bool:=match nU F.st with
 | ⟨[],as,qz,[],_,qz,_⟩=>decide (F.N.take F.np=as.map (·.arg))&&decide (F.N.take F.np).Nodup
 | _=>false
theorem aGf:∀ {ns:List Str}{us:List qx},ns.Nodup->us.length=ns.length->(∀ n∈ns,((ns.zip us).lookup n).isNone=false)/\ns.filterMap (λ n=>((ns.zip us).lookup n).map (n,·))=ns.zip us
 | [],us,_,_=>⟨λ n h=>(nomatch h),by cases us<;>rfl⟩
 | x::ns,[],_,h=>by cases h
 | x::ns,u::us,hn,hl=>by
   obtain⟨h1,h2⟩:=List.nodup_cons.mp hn;obtain⟨i1,i2⟩:=aGf h2 (Nat.succ.inj hl);have e:∀ n∈ns,((x,u)::ns.zip us).lookup n=(ns.zip us).lookup n:=λ n m=>by
    rw[yBy];have:(n==x)=false:=by
     rw[beq_eq_false_iff_ne];rintro rfl;exact h1 m
    rw[this]
   refine⟨λ n m=>?_,?_⟩
   ·rw[List.zip_cons_cons];rcases List.mem_cons.mp m with rfl | m
    ·rw[yBy,beq_self_eq_true];rfl
    ·rw[e n m];exact i1 n m
   ·rw[List.zip_cons_cons,yCy,yBy,beq_self_eq_true];show(x,u)::_=_;congr 1;rw[<- i2];rw[i2];have g:∀ l:List Str,(∀ n∈l,n∈ns)->l.filterMap (λ n=>(((x,u)::ns.zip us).lookup n).map (n,·))=l.filterMap (λ n=>((ns.zip us).lookup n).map (n,·)):=λ l=>by
     induction l with
     | nil=>intro _;rfl
     | cons y l ih=>intro hl;rw[yCy,yCy,e y (hl y xAd),ih λ n m=>hl n (xAg _ m)]
    rw[g ns λ n m=>m,i2]
theorem aM6{F:Fn}(h:aC7 F=true):aCt F:=by
 intro kV doc pm an cdv ct us hu;unfold aC7 at h
 split at h
 ·rename_i as kd df e;obtain⟨h1,h2⟩:=gT h;have h1:=oqT h1;rw[e];rw[h1] at hu h2 ⊢;obtain⟨i1,i2⟩:=aGf (oqT h2) hu;have m:((as.map (·.arg)).take (as.map (·.arg)).length).filter (λ n=>(((as.map (·.arg)).zip us).lookup n).isNone)=[]:=by
   rw[yAh,List.filter_eq_nil_iff];intro n hn;rw[i1 n hn];decide
  unfold bindArgs;have q:seqItems? Value.none=(pure qz:Sem (Option (Array qx))):=rfl;simp only[yDd,q,pure_bind,yGg,yEh,yEb,yDw,yGy,yDb,List.drop_nil,List.zip_nil_right,yGi,hu,gt_iff_lt,yBz,decide_false,yAl,yAt,if_false,m,List.isEmpty_nil,yDt,i2,Option.isNone_none]
 ·exact no h
theorem aEF:∀ {ns:List Int}{i:Int},i∈ns->yAk i<=PySem.W.WData.weightAll (ns.map PySem.W.WData.int)
 | [],i,h=>by cases h
 | n::r,i,h=>by
   have e:PySem.W.WData.weightAll ((n::r).map PySem.W.WData.int)=yAk n+1+PySem.W.WData.weightAll (r.map PySem.W.WData.int):=rfl;rw[e];rcases List.mem_cons.mp h with z | z
   ·subst z;omega
   ·have:=aEF z;omega
theorem aN9{ns:List Int}(h:PySem.W.WData.layableAll [PySem.W.WData.list (ns.map PySem.W.WData.int)]=true):∀ i∈ns,yAk i<=1048576:=λ i hi=>by
 have h1:PySem.W.WData.layable (PySem.W.WData.list (ns.map PySem.W.WData.int))=true:=by
  have:=List.all_eq_true.mp h _ xAd;exact this
 have h2:PySem.W.WData.weight (PySem.W.WData.list (ns.map PySem.W.WData.int))<=2^20:=oqT (gT h1).2;exact xAi (aEF hi) h2
theorem aO9{l:yHf}{n:Nat}{q:qo}{loose:List Str}{XP:(Str->Option qx)->Heap->Prop}{YP:zw->Heap->Prop}{d:DefRec}
 (hn:l.most=qq n) (hdf:d.params.defaults=[])
 (go:∀ (w:zw) (s₀ s₁:qj) (mg mb:Str->Option qx) (fa:qv) (a:qv) (vs:List qx) (ns:List Int),
   PySem.W.Ground q loose [] XP w s₀ mg mb s₁.heap->YP w s₁.heap->mg d.name=qq (.ref fa) ->
   s₁.heap.get? a=qq {cls:=.type "list",data:=.seq vs.toArray }->IntsAre vs ns->ns.length<=n->(∀ i∈ns,yAk i<=1048576)->s₁.gens = #[] ->
   vy (model l.prog w) callerA (.call (.ref fa) ⟨[.ref a],[]⟩) (λ r s'=>r=.ok (.ret (.bool true))/\OldK s₁.heap s'.heap/\s'.os=s₁.os/\AllBare s'.gens) s₁) :
 PySem.W.WalkO q loose XP YP l.row.toRowW d [] (λ f vs=>PySem.call f vs):=by
 intro w s₀ s₁ mg mb G Y fa o pm cd doc dV kV ho hd hcd hD hmg hg args vals as hpre hlay hrd hwl hlo;obtain rfl:dV=.none:=PySem.W.Dflts.none hD hdf;obtain rfl:kV=.none:=PySem.W.Dflts.noKw hD;obtain⟨a,vs,ns,rfl,rfl,hobj,hints,cF⟩:=Att.script_of hn hpre hwl;refine PySem.W.enter_call (codeAny_mono (go w s₀ s₁ mg mb fa a vs ns G Y hmg hobj hints cF (aN9 hlay) hg) λ r s' hq=>?_)
 obtain⟨rfl,h2,h3,h4⟩:=hq;exact⟨.inl ⟨.bool true,.bool true,[],rfl,λ _=>rfl,.bool true,Att.post_true l _,λ _=>⟨List.Pairwise.nil,λ _ hm=>(nomatch hm)⟩⟩,h2,h3,h4⟩
theorem law_of{l:yHf}{q:qo}{loose:List Str}{XP:(Str->Option qx)->Heap->Prop}{YP:zw->Heap->Prop}{d:DefRec}{K:Params->FrG}(fs:List Fn)(tb:Tbs)(f D:Nat)(L:Fn)(x:Str)
 (hn:l.most=qq 63) (hdf:d.params.defaults=[]) (hr:Room D callerA) (hY:∀ (w:zw) (h:Heap),YP w h->(K w.params).In h)
 (hk:∀ F∈fs,aBd fs tb F=true) (hb:∀ F∈fs,aCt F) (hL:fs[f]? = qq L) (hname:L.name=d.name) (hps:L.N.take L.np=[x])
 (top:∀ w:zw,∀ h:Heap,(K w.params).In h->∀ F∈fs,TopFn (K w.params) F) (tbl:∀ w:zw,∀ h:Heap,(K w.params).In h->∀ t∈tb.tb,TabTop (K w.params) w t) (cnl:∀ w:zw,∀ h:Heap,(K w.params).In h->∀ t∈tb.cn,ConTop (K w.params) t) (tbn:∀ w:zw,∀ h:Heap,(K w.params).In h->∀ x∈bltNames,yEx (K w.params) xu x=qq qz)
 (main:∀ ns:List Int,ns.length<=63->(∀ i∈ns,yAk i<=1048576)->∃ call S',aD fs D f=qq (1,call)/\call [.d (.list (ns.map yAm))] []=qq (.d (.bool true),S')) :
 PySem.W.WalkO q loose XP YP l.row.toRowW d [] (λ f vs=>PySem.call f vs):=by
 obtain⟨call,S0,hcall,_⟩:=main [] (by simp) (by simp)
 refine aO9 hn hdf λ w s₀ s₁ mg mb fa a vs ns G Y hmg hobj hints cF hsm hg=>?_
 have KX:=hY w _ Y;have tops:∀ F∈fs,∃ fa fd,Fun (K w.params) F.name F.name F.st fa fd/\mg F.name=qq (.ref fa)/\mO (K w.params) fd (F.N.take F.np) []:=λ F hF=>by
  obtain⟨f,oc,od,an,sl,kV,dc,pm,cd,ct,a,l,c,k⟩:=(top w _ KX F hF).ex;have Fu:=aQG (st:=F.st) l c k;exact⟨f,_,Fu,PySem.W.mg_of KX G.T.g a,Fu.binds (hb F hF)⟩
 have hblt:∀ x∈bltNames,mg x=qz:=λ y hy=>PySem.W.mg_none_of KX G.T.g (tbn w _ KX y hy)
 have htab:∀ x aX,(x,aX)∈tb.tb->∃ a,mg x=qq (.ref a)/\vQ (K w.params) w a aX:=λ x aX hx=>by
  obtain⟨a,es,ep,a1,l1,c1⟩:=(tbl w _ KX (x,aX) hx).ex;exact⟨a,PySem.W.mg_of KX G.T.g a1,es,ep,l1,c1⟩
 have hcon:∀ x ts,(x,ts)∈tb.cn->∃ a,mg x=qq (.ref a)/\rX (K w.params) a ts:=λ x ts hx=>by
  obtain⟨a,a1,c1⟩:=(cnl w _ KX (x,ts) hx).ex;exact⟨a,PySem.W.mg_of KX G.T.g a1,c1⟩
 obtain⟨fa1,fd,Fu,hmg1,hbi⟩:=tops L (xAl hL);rw[<- hname,hmg1] at hmg;cases hmg;refine L2.law_call (fd:=fd) (sp:=sT (K w.params) 1 call) (CX:=sX) (x:=x) KX G.T.g G.T.b G.T.builtins G.T.nolimit hg hobj hints (xAi cF (by decide)) hr (λ base kb nb=>?_) (λ s u=>?_) (λ H hO hS=>?_) λ _ _ _ z=>z
 ·have P1:=aGL (P:=l.prog) (w:=w) (base:=base) fs tb hk tops hblt htab hcon D f L 1 call _ _ hL hcall Fu;rw[hps] at P1;exact P1
 ·obtain⟨oc,od,kV,doc,pm,an,cdv,ct,osl,rfl,lk,hcd⟩:=Fu.ex;have:=hb L (xAl hL) kV doc pm an cdv ct [u] (by rw[hps];rfl)
  rw[hps] at this;exact .of_eq this
 ·obtain⟨call',S',hcall',hrun⟩:=main ns cF hsm;rw[hcall] at hcall';cases hcall';refine⟨H,[],[],[.d (.list (ns.map yAm))],.d (.bool true),S',rfl,⟨bY.refl _,List.nodup_nil,rfl,λ n a ds e=>by simp at e,λ n a e=>by simp at e⟩,.cons (Den.lst hS (DenL.of_ints ns)) .nil,hrun,λ F' L' H' v g R d=>?_⟩
  cases (show Den (K w.params) F' (.bool true) v from d)
  rfl
end EV
namespace EV
open PySem L2
theorem aCF{α:Type}(S:List α)(a b:α):(S++[a]).set S.length b=S++[b]:=by simp
theorem aCm{α:Type}{t:Tg}{fc:FT}{fe:FE}{env:aY}{S:aC}(enc g:α->D)(p:α->Bool):∀ (l:List α) (aH:List D),aH.length+l.length<=qk ->
 (∀ a∈l,∃ e1,t.put (enc a) env=qq e1/\(∀ S',fc e1 S'=qq (p a,S'))/\(p a=true->∀ S',fe e1 S'=qq (.d (g a),S'))) ->
 hV t fc fe S.length env (l.map enc) (S++[qq aH])=qq (S++[qq (aH++(l.filter p).map g)])
 | [],aH,_,_=>by simp[hV]
 | a::l,aH,hz,h=>by
   obtain⟨e1,h1,h2,h3⟩:=h a xAd;have hlt:aH.length<qk:=by simp at hz;omega
   have cT:=λ x (hx:x∈l)=>h x (xAg _ hx)
   simp only[yBa,hV,h1,yCc,h2];cases hp:p a with
   | false =>
     simp only[yAt,if_false];rw[aCm enc g p l aH (by simp at hz;omega) cT]
     simp[yFw,hp]
   | true =>
     have ea:dP (S++[qq aH]) (.loc S.length) (.d (g a))=qq (.d .none,S++[qq (aH++[g a])]):=by
      unfold dP;simp only[yAf (yAc S.length),yBo,yBb];rw[if_pos hlt,aCF]
     simp only[if_true,h3 hp,yCc,ea];rw[aCm enc g p l (aH++[g a]) (by simp at hz ⊢;omega) cT]
     simp[yFw,hp]
theorem zD{α:Type}{t:Tg}{fi:FL}{fc:FT}{fe:FE}{env:aY}{S S1:aC}(enc g:α->D)(p:α->Bool)(l:List α)(hi:fi env S=qq (l.map enc,S1))(hz:l.length<=qk)
 (h:∀ a∈l,∃ e1,t.put (enc a) (clr t.slots env)=qq e1/\(∀ S',fc e1 S'=qq (p a,S'))/\(p a=true->∀ S',fe e1 S'=qq (.d (g a),S'))):gR t fi fc fe env S=qq ((l.filter p).map g,S1):=by
 unfold gR;rw[hi];simp only[yCc];rw[aCm enc g p l [] (by simpa using hz) h]
 simp
theorem aCg{α:Type}{t:Tg}{fc:FT}{fe:FE}{env:aY}{S:aC}(enc g:α->D)(p:α->Bool):∀ (l:List α) (aH:List D),aH.length+l.length<=qk ->
 (∀ a∈l,∃ e1,t.put (enc a) env=qq e1/\(∀ aH,fc e1 (S++[qq aH])=qq (p a,S++[qq aH]))/\(p a=true->∀ aH,fe e1 (S++[qq aH])=qq (.d (g a),S++[qq aH]))) ->
 hV t fc fe S.length env (l.map enc) (S++[qq aH])=qq (S++[qq (aH++(l.filter p).map g)])
 | [],aH,_,_=>by simp[hV]
 | a::l,aH,hz,h=>by
   obtain⟨e1,h1,h2,h3⟩:=h a xAd;have hlt:aH.length<qk:=by simp at hz;omega
   have cT:=λ x (hx:x∈l)=>h x (xAg _ hx)
   simp only[yBa,hV,h1,yCc,h2];cases hp:p a with
   | false =>
     simp only[yAt,if_false];rw[aCg enc g p l aH (by simp at hz;omega) cT]
     simp[yFw,hp]
   | true =>
     have ea:dP (S++[qq aH]) (.loc S.length) (.d (g a))=qq (.d .none,S++[qq (aH++[g a])]):=by
      unfold dP;simp only[yAf (yAc S.length),yBo,yBb];rw[if_pos hlt,aCF]
     simp only[if_true,h3 hp,yCc,ea];rw[aCg enc g p l (aH++[g a]) (by simp at hz ⊢;omega) cT]
     simp[yFw,hp]
theorem aNj{α:Type}{t:Tg}{fi:FL}{fc:FT}{fe:FE}{env:aY}{S S1:aC}(enc g:α->D)(p:α->Bool)(l:List α)(hi:fi env S=qq (l.map enc,S1))(hz:l.length<=qk)
 (h:∀ a∈l,∃ e1,t.put (enc a) (clr t.slots env)=qq e1/\(∀ aH,fc e1 (S1++[qq aH])=qq (p a,S1++[qq aH]))/\(p a=true->∀ aH,fe e1 (S1++[qq aH])=qq (.d (g a),S1++[qq aH]))):gR t fi fc fe env S=qq ((l.filter p).map g,S1):=by
 unfold gR;rw[hi];simp only[yCc];rw[aCg enc g p l [] (by simpa using hz) h]
 simp
theorem uP{α:Type}{t:Tg}{fi:FL}{fe:FE}{env:aY}{S S1:aC}(enc g:α->D)(l:List α)(hi:fi env S=qq (l.map enc,S1))(hz:l.length<=qk)
 (h:∀ a∈l,∃ e1,t.put (enc a) (clr t.slots env)=qq e1/\∀ S',fe e1 S'=qq (.d (g a),S')):gR t fi mZ fe env S=qq (l.map g,S1):=by
 rw[zD (fc:=mZ) enc g (λ _=>true) l hi hz λ a ha=>let ⟨e1,h1,h2⟩:=h a ha;⟨e1,h1,λ _=>rfl,λ _=>h2⟩]
 rw[List.filter_eq_self.mpr (λ _ _=>rfl)]
theorem aGy{t:Tg}{fb:FS}{S:aC}(P:aY->Prop):∀ (ds:List D) (env:aY),P env->(∀ d∈ds,∀ env,P env->∃ e1 aM,t.put d env=qq e1/\fb e1 S=qq (.nx aM,S)/\P aM) ->
 ∃ aM,fU t fb ds env S=qq (.nx aM,S)/\P aM
 | [],env,h0,_=>⟨env,rfl,h0⟩
 | d::ds,env,h0,h=>by
   obtain⟨e1,aM,h1,h2,h3⟩:=h d xAd env h0;obtain⟨env2,h4,h5⟩:=aGy P ds aM h3 λ x hx=>h x (xAg _ hx)
   exact⟨env2,by simp only[fU,h1,yCc,h2];exact h4,h5⟩
theorem aN8(n:Nat):∀ lo:Int,kB lo n=(yAo n).map λ k=>yAm (lo+(k:Nat)):=by
 induction n with
 | zero=>intro lo;rfl
 | succ n ih =>
   intro lo;rw[kB,ih,List.range_succ_eq_map,yBa,yBs];congr 1
   ·simp
   ·apply yCh;intro k _;simp only[Function.comp];congr 1
    push_cast
    omega
end EV
namespace BM
theorem uH(n:Nat):0<2^n:=xAf n
noncomputable def oN(n w:Nat):List Bool:=(yAo w).map n.testBit
theorem aMt(n w i:Nat):(oN n w).getD i false=(decide (i<w)&&n.testBit i):=by
 unfold oN
 by_cases h:i<w
 ·simp[yGr,h]
 ·simp[yGr,h]
theorem cW{n w i:Nat}(h:n<2^w)(hi:w<=i):n.testBit i=false:=Nat.testBit_lt_two_pow (xAc h (yAq (by decide) hi))
noncomputable def bl(n:Nat):Nat:=if n=0 then 0 else n.log2+1
theorem rN{n:Nat}(h:n≠0):bl n=n.log2+1:=if_neg h
theorem mQ(n:Nat):n<2^bl n:=by
 by_cases h:n=0
 ·subst h;decide
 ·rw[rN h];exact Nat.lt_log2_self
theorem nZ{n:Nat}(h:n≠0):n.testBit (bl n-1)=true:=by
 rw[rN h,Nat.add_sub_cancel];have h1:2^n.log2<=n:=Nat.log2_self_le h;have h2:n<2^(n.log2+1):=Nat.lt_log2_self;rw[yFj];have:n/2^n.log2=1:=by
  apply Nat.div_eq_of_lt_le
  ·omega
  ·rw[yEy] at h2;omega
 simp[this]
theorem jX{n w:Nat}(h:n<2^w):bl n<=w:=by
 by_cases h0:n=0
 ·subst h0;simp[bl]
 ·rw[rN h0];exact(Nat.log2_lt h0).mpr h
theorem aFo{n k:Nat}(h1:n<2^k)(h2:k=0\/n.testBit (k-1)=true):bl n=k:=by
 rcases h2 with h2 | h2
 ·subst h2;have:n=0:=by simpa using h1
  subst this;rfl
 ·have h3:=jX h1;rcases yGh (bl n) k with h4 | h4
  ·exfalso;have:=cW (mQ n) (show bl n<=k-1 by omega)
   rw[this] at h2;cases h2
  ·omega
theorem eH(w i:Nat):(2^w-1).testBit i=decide (i<w):=yBf w i
noncomputable def jZ(l:List Bool):Nat:=(l.takeWhile id).length
theorem aGx:jZ []=0:=rfl
theorem aFr(r:List Bool):jZ (true::r)=jZ r+1:=by simp[jZ]
theorem aE6(r:List Bool):jZ (false::r)=0:=by simp[jZ]
theorem aGl:∀ (l:List Bool) (i:Nat),i<jZ l->l[i]? = qq true
 | [],i,h=>by simp[jZ] at h
 | false::r,i,h=>by simp[aE6] at h
 | true::r,0,h=>rfl
 | true::r,i+1,h=>by rw[aFr] at h;simpa using aGl r i (by omega)
theorem aLr(m:Nat):(2*m+1)^^^(2*m+1+1)=2*(m^^^(m+1))+1:=by
 apply xAm;intro i;cases i with
 | zero=>rw[yAs];simp[yDc];omega
 | succ i =>
   rw[yAs,yCp,yCp,yCp];rw[show(2*m+1)/2=m by omega,show(2*m+1+1)/2=m+1 by omega,show(2*(m^^^(m+1))+1)/2=(m^^^(m+1)) by omega,yAs]
theorem aLh(m:Nat):(2*m)^^^(2*m+1)=1:=by
 apply xAm;intro i;cases i with
 | zero=>rw[yAs];simp[yDc]
 | succ i =>
   rw[yAs,yCp,yCp,yCp];rw[show(2*m)/2=m by omega,show(2*m+1)/2=m by omega]
   simp
theorem aMX(x:Nat):bl (2*x+1)=bl x+1:=by
 apply aFo
 ·have:=mQ x;rw[yEy];omega
 ·right
  rw[Nat.add_sub_cancel]
  by_cases h:x=0
  ·subst h;rfl
  ·have h2:=nZ h;have h3:bl x=(bl x-1)+1:=by rw[rN h];omega
   rw[h3,yCp,show(2*x+1)/2=x by omega]
   exact h2
theorem aEM(n:Nat):n^^^(n+1)≠0:=by
 intro h;have:n=n+1:=by
  have:=congrArg (λ z=>z^^^(n+1)) h
  simpa [Nat.xor_assoc] using this
 omega
theorem tS{n:Nat}(h:n≠0):1<=bl n:=by rw[rN h];omega
theorem aLH(n w:Nat):oN n (w+1)=n.testBit 0::oN (n/2) w:=by
 unfold oN;rw[List.range_succ_eq_map,yBa,yBs];congr 1;apply yCh;intro i _;simp only[Function.comp];exact yCp n i
theorem aFc:∀ (w n:Nat),n<2^w->bl (n^^^(n+1))-1=jZ (oN n w)
 | 0,n,h=>by
   have:n=0:=by simpa using h
   subst this;rfl
 | w+1,n,h=>by
   rw[aLH];have hd:n/2<2^w:=by rw[yEy] at h;omega
   have ih:=aFc w (n/2) hd;rcases yAp n with p | p
   ·have e:n=2*(n/2):=by omega
    have e2:n^^^(n+1)=1:=by rw[e];exact aLh _
    rw[e2,yDc,p];rw[show bl 1=1 from by decide];simp[aE6]
   ·have e:n=2*(n/2)+1:=by omega
    have e2:n^^^(n+1)=2*((n/2)^^^(n/2+1))+1:=by
     have:=aLr (n/2);rw[<- e] at this;exact this
    rw[e2,aMX,yDc,p];simp only[decide_true,aFr];have:=tS (aEM (n/2));omega
noncomputable def hi(l:List Bool):Nat:=l.length-jZ (l.reverse.map (!·))
theorem aLw{n w:Nat}(h:n<2^w):n^^^(2^w-1)<2^w:=yCa h (by have:=uH w;omega)
noncomputable def eC(n w v:Nat):Nat:=if n&&&2^(w-1)=0 then n else n|||((2^v-1)^^^(2^w-1))
theorem aED(n k:Nat):(n&&&2^k=0) ↔ n.testBit k=false:=by
 constructor
 ·intro h;have:=congrArg (λ z=>z.testBit k) h
  simpa [yAg,Nat.testBit_two_pow_self] using this
 ·intro h;apply xAm;intro i;rw[yAg,yBk,yBj]
  by_cases e:k=i
  ·subst e;simp[h]
  ·simp[e]
theorem aEz{n w v:Nat}(h:n<2^w)(hw:0<w)(hv:w<=v)(i:Nat):(eC n w v).testBit i=if i<w then n.testBit i else (decide (i<v)&&n.testBit (w-1)):=by
 unfold eC;cases e:n.testBit (w-1) with
 | false =>
   rw[if_pos ((aED _ _).mpr e)]
   split
   ·rfl
   ·rw[cW h (by omega)];simp
 | true =>
   rw[if_neg (λ z=>by rw[(aED _ _).mp z] at e;cases e)]
   rw[xAp,yAs,eH,eH]
   split
   ·rename_i hi;have:i<v:=by omega
    simp[hi,this]
   ·rename_i hi;rw[cW h (by omega)]
    simp[hi]
theorem tL{n w v:Nat}(h:n<2^w)(hw:0<w)(hv:w<=v):eC n w v<2^v:=by
 apply yCj;intro i hi;rw[aEz h hw hv,if_neg (by omega)]
 have:¬ i<v:=by omega
 simp[this]
noncomputable def aAr(x d:Nat):Nat:=x/2^d*2^d
theorem yQ(x d i:Nat):(aAr x d).testBit i=(decide (d<=i)&&x.testBit i):=by
 unfold aAr;rw[Nat.testBit_mul_two_pow]
 by_cases h:d<=i
 ·simp[h,yCu,show i-d+d=i by omega]
 ·simp[h]
noncomputable def qI(x w:Nat):Nat:=2^w-1-x
theorem rF{x w:Nat}(h:x<2^w)(i:Nat):(qI x w).testBit i=(decide (i<w) && !x.testBit i):=by
 unfold qI;rw[show 2^w-1-x=2^w-(x+1) by omega]
 exact Nat.testBit_two_pow_sub_succ h i
noncomputable def vF(l g w:Nat):Nat:=(2^w-1)^^^(2^bl (l^^^g)-1)
theorem aBW{l g w:Nat}(hl:l<2^w)(hg:g<2^w)(i:Nat):(vF l g w).testBit i=(decide (i<w)&&decide (bl (l^^^g)<=i)):=by
 unfold vF;rw[yAs,eH,eH];have hd:bl (l^^^g)<=w:=jX (yCa hl hg)
 by_cases h1:i<w<;>by_cases h2:i<bl (l^^^g)
 ·simp[h1,h2,show ¬ bl (l^^^g)<=i by omega]
 ·simp[h1,h2,show bl (l^^^g)<=i by omega]
 ·omega
 ·simp[h1,h2]
noncomputable def oG(l g w:Nat):Nat:=vF l g w&&&l
noncomputable def uB(l g w:Nat):Nat:=vF l g w^^^oG l g w
theorem aN1{l g w:Nat}(hl:l<2^w)(hg:g<2^w):oG l g w=aAr l (bl (l^^^g)):=by
 apply xAm;intro i;rw[oG,yAg,aBW hl hg,yQ]
 by_cases h1:i<w
 ·simp[h1]
 ·rw[cW hl (by omega)];simp
theorem aLv{l g w:Nat}(hl:l<2^w)(hg:g<2^w):uB l g w=aAr (qI l w) (bl (l^^^g)):=by
 apply xAm;intro i;rw[uB,yAs,oG,yAg,aBW hl hg,yQ,rF hl]
 by_cases h1:i<w<;>by_cases h2:bl (l^^^g)<=i<;>cases l.testBit i<;>simp[h1,h2]
theorem aWv{l g i:Nat}(h:bl (l^^^g)<=i):l.testBit i=g.testBit i:=by
 have:=cW (mQ (l^^^g)) h;rw[yAs] at this;cases a:l.testBit i<;>cases b:g.testBit i<;>simp[a,b] at this ⊢
theorem aMo{l g d:Nat}(h:l^^^g<2^d):l/2^d=g/2^d:=by
 apply xAm;intro i;rw[yCu,yCu];have:=cW h (show d<=i+d by omega)
 rw[yAs] at this;cases a:l.testBit (i+d)<;>cases b:g.testBit (i+d)<;>simp[a,b] at this ⊢
theorem aLy{l m g:Nat}(h1:l<=m)(h2:m<=g):m/2^bl (l^^^g)=l/2^bl (l^^^g):=by
 have e:=aMo (mQ (l^^^g));have a:=Nat.div_le_div_right (c:=2^bl (l^^^g)) h1;have b:=Nat.div_le_div_right (c:=2^bl (l^^^g)) h2;omega
theorem aEP{l m g i:Nat}(h1:l<=m)(h2:m<=g)(hi:bl (l^^^g)<=i):m.testBit i=l.testBit i:=by
 have:=congrArg (λ z=>z.testBit (i-bl (l^^^g))) (aLy h1 h2)
 simp only[yCu] at this;rwa [show i-bl (l^^^g)+bl (l^^^g)=i by omega] at this
theorem aK0{l m g w:Nat}(hl:l<2^w)(hg:g<2^w)(h1:l<=m)(h2:m<=g):m&&&uB l g w=0:=by
 apply xAm;intro i;rw[yAg,aLv hl hg,yQ,rF hl,yBj]
 by_cases h:bl (l^^^g)<=i
 ·rw[aEP h1 h2 h];cases l.testBit i<;>simp
 ·simp[h]
theorem aLs{l m g w:Nat}(hl:l<2^w)(hg:g<2^w)(h1:l<=m)(h2:m<=g):m&&&oG l g w=oG l g w:=by
 apply xAm;intro i;rw[yAg,aN1 hl hg,yQ]
 by_cases h:bl (l^^^g)<=i
 ·rw[aEP h1 h2 h];cases l.testBit i<;>simp
 ·simp[h]
end BM
namespace BM
theorem kW(n k i:Nat):(n/2^k).testBit i=n.testBit (k+i):=by rw[yCu,yDe]
theorem jN(n:Nat):n=0 ↔ ∀ i,n.testBit i=false:=by
 constructor
 ·rintro rfl i;simp
 ·intro h;apply xAm;intro i;simp[h i]
theorem aBG(m k:Nat):m/2^k=0 ↔ ∀ i,k<=i->m.testBit i=false:=by
 rw[jN];constructor
 ·intro h i hi;have:=h (i-k);rw[kW,show k+(i-k)=i by omega] at this
  exact this
 ·intro h i;rw[kW];exact h _ (by omega)
noncomputable def bI(a b:Nat):Nat:=a-(a&&&b)
theorem aOI(a b:Nat):bI a b=a^^^(a&&&b):=by
 have h:(a^^^(a&&&b))+(a&&&b)=a:=by
  have key:∀ (n x y:Nat),x<=n->(x^^^(x&&&y))+(x&&&y)=x:=by
   intro n
   induction n with
   | zero =>
     intro x y hx;have:x=0:=by omega
     subst this;simp
   | succ n ih =>
     intro x y hx
     by_cases h0:x=0
     ·subst h0;simp
     ·have ih':=ih (x/2) (y/2) (by omega)
      have e1:(x^^^(x&&&y))/2=(x/2)^^^((x/2)&&&(y/2)):=by
       apply xAm;intro i;simp[Nat.testBit_div_two]
      have e2:(x&&&y)/2=(x/2)&&&(y/2):=by
       apply xAm;intro i;simp[Nat.testBit_div_two]
      have m1:(x^^^(x&&&y))%2=(x%2+(x&&&y)%2)%2:=by
       have a1:=yDo (x^^^(x&&&y)) 0;have a2:=yDo x 0;have a3:=yDo (x&&&y) 0;simp only[yFp,Nat.div_one] at a1 a2 a3;rw[<- a1,<- a2,<- a3,yAs,yAg];cases x.testBit 0<;>cases y.testBit 0<;>rfl
      have m2:(x&&&y)%2<=x%2:=by
       have a2:=yDo x 0;have a3:=yDo (x&&&y) 0;simp only[yFp,Nat.div_one] at a2 a3;rw[<- a2,<- a3,yAg];cases x.testBit 0<;>cases y.testBit 0<;>decide
      rw[<- e1,<- e2] at ih';omega
  exact key a a b (yAc _)
 unfold bI;omega
theorem kS(a b i:Nat):(bI a b).testBit i=(a.testBit i && !b.testBit i):=by
 rw[aOI,yAs,yAg];cases a.testBit i<;>cases b.testBit i<;>rfl
theorem tP(a b:Nat):bI a b=0 ↔ ∀ i,a.testBit i=true->b.testBit i=true:=by
 rw[jN];constructor
 ·intro h i ha;have:=h i;rw[kS,ha] at this;simpa using this
 ·intro h i;rw[kS];cases ha:a.testBit i with
  | false=>rfl
  | true=>rw[h i ha];rfl
theorem aEL{x k q:Nat}(h:x<2^k)(i:Nat):(x+q*2^k).testBit i=if i<k then x.testBit i else q.testBit (i-k):=by
 rw[yDe,yHg,Nat.testBit_two_pow_mul_add _ h]
theorem aOB{n w:Nat}(h:n<2^w)(hw:0<w):n/2^(w-1)=(n.testBit (w-1)).toNat:=by
 rw[yDo];have:n/2^(w-1)<2:=by
  rw[yEi (xAf _),<- Nat.pow_succ'];rw[show(w-1).succ=w by omega]
  exact h
 exact(yHa this).symm
end BM
namespace BM
open PySem
theorem aKa(a b:Nat):yDv a b=((a&&&b:Nat):Int):=by
 unfold yDv;rw[dqT (yEz a),dqT (yEz b)];simp
theorem bOr(a b:Nat):yGu a b=((a|||b:Nat):Int):=by
 unfold yGu yDv yBm;rw[dqF (show ¬ (0:Int) <= -(a:Int)-1 by omega),dqF (show ¬ (0:Int) <= -(b:Int)-1 by omega)]
 have e1:(-(-(a:Int)-1)-1).toNat=a:=by omega
 have e2:(-(-(b:Int)-1)-1).toNat=b:=by omega
 simp only[e1,e2];omega
theorem aEQ:∀ (n a b:Nat),a<=n->(a^^^b)+(a&&&b)=(a|||b)
 | 0,a,b,h=>by
   have:a=0:=by omega
   subst this;simp
 | n+1,a,b,h=>by
   by_cases ha:a=0
   ·subst ha;simp
   have ih:=aEQ n (a/2) (b/2) (by omega)
   have x2:=Nat.xor_div_two (a:=a) (b:=b);have a2:=Nat.and_div_two (a:=a) (b:=b);have o2:=Nat.or_div_two (a:=a) (b:=b);have xm:(a^^^b)%2=(a%2+b%2)%2:=by
    have:=yAs a b 0;simp only[yDc] at this;rcases yAp a with p | p<;>rcases yAp b with q | q<;>rcases yAp (a^^^b) with r | r<;>simp[p,q,r] at this ⊢
   have am:(a&&&b)%2=(a%2)*(b%2):=by
    have:=yAg a b 0;simp only[yDc] at this;rcases yAp a with p | p<;>rcases yAp b with q | q<;>rcases yAp (a&&&b) with r | r<;>simp[p,q,r] at this ⊢
   have om:(a|||b)%2=(a%2+b%2)-(a%2)*(b%2):=by
    have:=xAp a b 0;simp only[yDc] at this;rcases yAp a with p | p<;>rcases yAp b with q | q<;>rcases yAp (a|||b) with r | r<;>simp[p,q,r] at this ⊢
   have h1:=yGc (a^^^b) 2;have h2:=yGc (a&&&b) 2;have h3:=yGc (a|||b) 2
   rcases yAp a with p | p<;>rcases yAp b with q | q<;>rw[p,q] at xm am om<;>omega
theorem aVb(a b:Nat):yGn a b=((a^^^b:Nat):Int):=by
 unfold yGn;rw[aKa,bOr];have:=aEQ a a b (yAc _);omega
theorem aL7(a:Nat):((a:Int)).natAbs=a:=by omega
theorem aEI(a:Nat):yAk a=if a=0 then 0 else a.log2+1:=by
 unfold yAk
 by_cases h:a=0
 ·subst h;rfl
 ·rw[if_neg h,if_neg (by simp;omega),aL7]
theorem aLT{a n:Nat}(h:a<2^n):yAk a<=n:=by
 rw[aEI]
 split
 ·exact yFz _
 ·rename_i h0;exact(Nat.log2_lt h0).mpr h
theorem aB7(n:Nat):((2^n:Nat):Int)=(2:Int)^n:=by simp
theorem aV2{x y:Int}(h:y.natAbs.log2<9000):yCs x y=false:=by
 unfold yCs;dsimp only;have:¬ ((if (y==0)=true then 0 else y.natAbs.log2/30+1)>300):=by
  split
  ·omega
  ·omega
 rw[dqF this];rfl
end BM
namespace EV
open PySem L2 BM
theorem eD(i j:Int):bR .Add (.int i) (.int j)=qq (.int (i+j)):=rfl
theorem cH(i j:Int):bR .Sub (.int i) (.int j)=qq (.int (i-j)):=rfl
theorem cX(a b:Nat):bR .BitAnd (.int a) (.int b)=qq (.int ((a&&&b:Nat):Int)):=by simp only[bR,lB,aKa]
theorem cM(a b:Nat):bR .BitOr (.int a) (.int b)=qq (.int ((a|||b:Nat):Int)):=by simp only[bR,lB,bOr]
theorem mH(a b:Nat):bR .BitXor (.int a) (.int b)=qq (.int ((a^^^b:Nat):Int)):=by simp only[bR,lB,aVb]
theorem iJ{w:Nat}(h1:w<=100000):bR .LShift (.int 1) (.int w)=qq (.int ((2^w:Nat):Int)):=by
 have c:(0:Int)<=w/\(yAk 1:Int)+w<=2^27:=⟨by omega,by(have:(yAk 1:Int)=1:=(by decide);omega)⟩
 simp only[bR,lB];rw[if_pos c,Int.one_mul,yAr,aB7]
theorem uQ{n a k:Nat}(h:n<2^a)(h2:a+k<=100000):bR .LShift (.int (n:Nat)) (.int (k:Nat))=qq (.int ((n*2^k:Nat):Int)):=by
 have c:(0:Int)<=(k:Nat)/\((yAk (n:Int):Nat):Int)+(k:Nat)<=2^27:=by
  have:=aLT h;exact⟨by omega,by omega⟩
 simp only[bR,lB];rw[if_pos c,yAr,<- aB7];congr 2
theorem fP{i j:Int}(h:0<j):bR .Mod (.int i) (.int j)=qq (.int (i%j)):=by
 simp only[bR,lB];rw[if_pos (by omega),Int.fmod_eq_emod_of_nonneg _ (by omega)]
theorem nR{i j:Int}(h:0<j)(h2:j<2^64):bR .FloorDiv (.int i) (.int j)=qq (.int (i/j)):=by
 simp only[bR,lB];have h3:j.natAbs.log2<9000:=Nat.lt_trans ((Nat.log2_lt (by omega)).mpr (show j.natAbs<2^64 by omega)) (by decide)
 rw[if_pos ⟨by omega,aV2 h3⟩,Int.fdiv_eq_ediv_of_nonneg _ (by omega)]
theorem aLz{i j:Int}(h1 : -(2^64)<j)(h2:j<2^64):oI i j=true:=by
 unfold oI;have:=intBits_le_64 h1 h2;have h:¬ (yAk j>yz):=Nat.not_lt.mpr this;rw[dqF h];simp
theorem aLt{i j:Int}(h1 : -(2^64)<i)(h2:i<2^64):oI i j=true:=by
 unfold oI;have:=intBits_le_64 h1 h2;have h:¬ (yAk i>yz):=Nat.not_lt.mpr this;rw[dqF h];simp
theorem zM{i j:Int}(h1 : -(2^64)<j)(h2:j<2^64):bR .Mult (.int i) (.int j)=qq (.int (i*j)):=by
 show(if oI i j=true then qq (yAm (i*j)) else qz)=_
 rw[if_pos (aLz h1 h2)]
theorem pG{i j:Int}(h1 : -(2^64)<i)(h2:i<2^64):bR .Mult (.int i) (.int j)=qq (.int (i*j)):=by
 show(if oI i j=true then qq (yAm (i*j)) else qz)=_
 rw[if_pos (aLt h1 h2)]
theorem aP1{xs ys:List D}(h:xs.length+ys.length<=1000000):bR .Add (.list xs) (.list ys)=qq (.list (xs++ys)):=by
 show(if xs.length+ys.length<=qk then qq (yHm (xs++ys)) else qz)=_
 rw[if_pos (by rw[zj];omega)]
theorem aNi{α:Type}(k:Nat)(x:α):wL k [x]=yAd k x:=by
 unfold wL
 induction k with
 | zero=>rfl
 | succ k ih=>rw[yAv,yCx,ih,yAv];rfl
theorem aS(i j:Int):aJ .Eq (.int i) (.int j)=qq (.bool (i==j)):=rfl
theorem iX(i j:Int):aJ .NotEq (.int i) (.int j)=qq (.bool (!(i==j))):=rfl
theorem fA(i j:Int):aJ .Lt (.int i) (.int j)=qq (.bool (decide (i<j))):=rfl
theorem jP(i j:Int):aJ .Gt (.int i) (.int j)=qq (.bool (decide (j<i))):=rfl
theorem aAn(i j:Int):aJ .GtE (.int i) (.int j)=qq (.bool (decide (j<=i))):=rfl
end EV
namespace EV
open PySem L2 BM
theorem oB{α β:Type}(a:α)(f:α->Option β):(qq a).bind f=f a:=of_eq_true (eq_self (f a))
theorem oM{α β:Type}(a:α)(f:α->β):(qq a).map f=qq (f a):=of_eq_true (eq_self (qq (f a)))
noncomputable def cl(fs:List Fn)(d f:Nat)(ws:List W)(S:aC):Option (W×aC):=match aD fs d f with
 | some (np,call)=>if ws.length=np then call ws S else qz
 | none=>qz
theorem aFh(fs:List Fn)(d f:Nat)(fa:FA)(env:aY)(S:aC):kX (aD fs d) f fa env S=(fa env S).bind λ p=>cl fs d f p.1 p.2:=by
 unfold kX cl aAE;cases aD fs d f with
 | none=>cases fa env S<;>rfl
 | some q=>rfl
theorem aT{fs:List Fn}{f:Nat}{F:Fn}(h:fs[f]? = qq F)(d:Nat)(ws:List W)(S:aC)(hw:ws.length=F.np):cl fs (d+1) f ws S=fD (xs (aD fs d) F.body) F.N.length ws S:=by
 have e:aD fs (d+1) f=qq (F.np,fD (xs (aD fs d) F.body) F.N.length):=by
  show(fs[f]?).map _=_;rw[h];rfl
 unfold cl;rw[e];exact if_pos hw
theorem aPX{fs:List Fn}{f d:Nat}{F:Fn}{w r:W}{S:aC}(h:fs[f]? = qq F)(hn:F.np=1)(e:cl fs (d+1) f [w] []=qq (r,S)):∃ call S',aD fs (d+1) f=qq (1,call)/\call [w] []=qq (r,S'):=by
 refine⟨fD (xs (aD fs d) F.body) F.N.length,S,?_,?_⟩
 ·show(fs[f]?).map _=_;rw[h,<- hn];rfl
 ·rw[<- aT h d [w] [] (by rw[hn];rfl)]
  exact e
theorem szT{n:Nat}(h:n<=1000):(n<=qk)=True:=by
 rw[zj];exact eq_true (by omega)
end EV
namespace EV
open PySem L2 BM
theorem aB6(w:Nat):((2^w:Nat):Int)-1=((2^w-1:Nat):Int):=by
 have:=uH w;omega
theorem qS{fa:FE}{env:aY}{S S1:aC}{w:Nat}(h:fa env S=qq (.d (.int w),S1))(hw:w<=1000000):lJ fa env S=qq ((yAo w).map (λ k=>yAm (k:Nat)),S1):=by
 have c : -(2^62)<=((w:Nat):Int)/\((w:Nat):Int)<2^62:=⟨by omega,by omega⟩
 unfold lJ;rw[h,oB];simp only[];rw[if_pos c,aN8,yAr];congr 2;apply yCh;intro k _;rw[Int.zero_add]
theorem aGE{i:Nat}{env:aY}{S:aC}{w:W}(h:env[i]? = qq (qq w)):iN i env S=qq (w,S):=by
 unfold iN;rw[h]
theorem jS{xs:List D}{k:Nat}{x:D}(h:xs[k]? = qq x):aO (.list xs) (.int (k:Nat))=qq x:=by
 have hl:k<xs.length:=(gIm h).1;show(jJ xs.length ((k:Nat):Int)).bind (λ j=>xs[j]?)=qq x
 unfold jJ;rw[if_pos (by omega),if_pos (by omega),oB,yAr]
 exact h
theorem gQ{xs:List D}{k:Nat}{x:D}(h:xs[k]? = qq x):aO (.tuple xs) (.int (k:Nat))=qq x:=jS (xs:=xs) h
theorem aQ4(xs:List D)(k:Nat):eS xs qz (qq (k:Nat))=xs.take k:=by
 unfold eS;rw[HT.sIx_none,HT.sIx_nat,yEo,yGi];rcases Nat.le_total k xs.length with h | h
 ·rw[yFf h]
 ·rw[yEq h,yAh,yBu h]
theorem aQc{t:Tg}{fi:FL}{fb:FS}{env:aY}{S S1:aC}{ds:List D}(P:aY->Prop)(hi:fi env S=qq (ds,S1))(h0:P env)(h:∀ d∈ds,∀ env,P env->∃ e1 aM,t.put d env=qq e1/\fb e1 S1=qq (.nx aM,S1)/\P aM) :
 ∃ aM,dA t fi fb env S=qq (.nx aM,S1)/\P aM:=by
 obtain⟨aM,h1,h2⟩:=aGy (t:=t) (fb:=fb) (S:=S1) P ds env h0 h;exact⟨aM,by unfold dA;rw[hi,oB];exact h1,h2⟩
theorem aHE{t:Tg}{fb:FS}(P:Nat->aY->aC->Prop):∀ (ds:List D) (i:Nat) (env:aY) (S:aC),P i env S->(∀ j d env S,ds[j]? = qq d->P (i+j) env S->∃ e1 aM S',t.put d env=qq e1/\fb e1 S=qq (.nx aM,S')/\P (i+j+1) aM S') ->
 ∃ aM S',fU t fb ds env S=qq (.nx aM,S')/\P (i+ds.length) aM S'
 | [],i,env,S,h0,_=>⟨env,S,rfl,h0⟩
 | d::ds,i,env,S,h0,h=>by
   obtain⟨e1,aM,S',h1,h2,h3⟩:=h 0 d env S rfl h0;obtain⟨env2,S2,h4,h5⟩:=aHE P ds (i+1) aM S' h3 λ j d' env S a b=>by
    have:=h (j+1) d' env S (by simpa using a) (by rw[show i+(j+1)=i+1+j by omega];exact b)
    rw[show i+(j+1)=i+1+j by omega] at this
    exact this
   refine⟨env2,S2,by simp only[fU,h1,oB,h2];exact h4,?_⟩
   have:i+(d::ds).length=i+1+ds.length:=by simp;omega
   rw[this];exact h5
theorem rK{t:Tg}{fi:FL}{fb:FS}{env:aY}{S S1:aC}{ds:List D}(P:Nat->aY->aC->Prop)(hi:fi env S=qq (ds,S1))(h0:P 0 env S1)(h:∀ j d env S,ds[j]? = qq d->P j env S->∃ e1 aM S',t.put d env=qq e1/\fb e1 S=qq (.nx aM,S')/\P (j+1) aM S') :
 ∃ aM S',dA t fi fb env S=qq (.nx aM,S')/\P ds.length aM S':=by
 obtain⟨aM,S',h1,h2⟩:=aHE (t:=t) (fb:=fb) P ds 0 env S1 h0 λ j d env S a b=>by
  have:=h j d env S a (by simpa using b)
  simpa using this
 exact⟨aM,S',by unfold dA;rw[hi,oB];exact h1,by simpa using h2⟩
theorem dX{xs:List D}:eT [.list xs]=qq (.int xs.length):=rfl
theorem dU{xs:List D}:eT [.tuple xs]=qq (.int xs.length):=rfl
theorem lD{xs:List D}:vB [.list xs]=qq (.tuple xs):=rfl
theorem lC{xs:List D}:vB [.tuple xs]=qq (.tuple xs):=rfl
theorem aAs{i:Int}:pZ [.int i]=qq (.int i):=rfl
theorem zY{k:Bool}:pZ [.bool k]=qq (.int (if k then 1 else 0)):=rfl
theorem mE(n k:Nat):bR .RShift (.int (n:Nat)) (.int (k:Nat))=qq (.int ((n/2^k:Nat):Int)):=by
 have c:(0:Int)<=(k:Nat):=by omega
 simp only[bR,lB];rw[if_pos c,yAr,<- aB7];congr 2
theorem aGA(a b:Nat):bR .BitAnd (.int (a:Nat)) (.int (yBm (b:Nat)))=qq (.int ((bI a b:Nat):Int)):=by
 have h1:decide ((0:Int)<=(a:Nat))=true:=dqT (by omega)
 have h2:decide ((0:Int)<=yBm (b:Nat))=false:=dqF (by unfold yBm;omega)
 have h3:(yBm (yBm (b:Nat))).toNat=b:=by unfold yBm;omega
 have h4:a&&&b<=a:=yCl;simp only[bR,lB];unfold yDv;rw[h1,h2];simp only[h3,yAr];congr 2;unfold bI;omega
theorem aG9(i:Int):oT .Invert (.int i)=qq (.int (yBm i)):=rfl
theorem aGI{x:D}{k:Nat}(h:k<=1000):bR .Mult (.tuple [x]) (.int (k:Nat))=qq (.tuple (yAd k x)):=by
 show(if 0<=((k:Nat):Int)/\((k:Nat):Int)<=1000 then qq (yCw (yAd ((k:Nat):Int).toNat x)) else qz)=_
 rw[if_pos ⟨by omega,by omega⟩,yAr]
theorem aF8{α:Type}{t:Tg}{fe:FE}{env:aY}{n N:Nat}(enc:α->D)(I:Nat->aC->Prop)(Q:α->D->Prop):∀ (l:List α) (aH:List D) (j:Nat) (S:aC),aH.length+l.length<=qk->j+l.length<=N->S.length=n->I j S ->
 (∀ a∈l,∃ e1,t.put (enc a) env=qq e1/\∀ j S aH,j<N->S.length=n->I j S->∃ v S',fe e1 (S++[qq aH])=qq (.d v,S'++[qq aH])/\S'.length=n/\I (j+1) S'/\Q a v) ->
 ∃ vs S',hV t mZ fe n env (l.map enc) (S++[qq aH])=qq (S'++[qq (aH++vs)])/\S'.length=n/\I (j+l.length) S'/\vs.length=l.length/\∀ (i:Nat) (a:α),l[i]? = qq a->∃ v,vs[i]? = qq v/\Q a v
 | [],aH,j,S,_,_,hn,hI,_=>⟨[],S,by simp[hV],hn,hI,rfl,by simp⟩
 | a::l,aH,j,S,hz,hN,hn,hI,h=>by
   obtain⟨e1,h1,h2⟩:=h a xAd;obtain⟨v,S1,h3,h4,h5,h6⟩:=h2 j S aH (by simp at hN;omega) hn hI
   have hlt:aH.length<qk:=by simp at hz;omega
   have ea:dP (S1++[qq aH]) (.loc n) (.d v)=qq (.d .none,S1++[qq (aH++[v])]):=by
    unfold dP;subst h4;simp only[yAf (yAc S1.length),yBo,yBb];rw[if_pos hlt,aCF]
   obtain⟨vs,S2,h7,h8,h9,h10,h11⟩:=aF8 enc I Q l (aH++[v]) (j+1) S1 (by simp at hz ⊢;omega) (by simp at hN;omega) h4 h5 λ x hx=>h x (xAg _ hx)
   refine⟨v::vs,S2,?_,h8,by rw[yBi,show j+(l.length+1)=j+1+l.length by omega];exact h9,by simp[h10],λ i b hb=>?_⟩
   ·simp only[yBa,hV,h1,mZ,oB,if_true,h3,ea];rw[h7];simp
   ·cases i with
    | zero=>simp at hb;subst hb;exact⟨v,rfl,h6⟩
    | succ i=>simpa using h11 i b (by simpa using hb)
theorem aCd{α:Type}{t:Tg}{fi:FL}{fe:FE}{env:aY}{S S1:aC}(enc:α->D)(I:Nat->aC->Prop)(Q:α->D->Prop)(l:List α)(hi:fi env S=qq (l.map enc,S1))(hz:l.length<=qk)(h0:I 0 S1)
 (h:∀ a∈l,∃ e1,t.put (enc a) (clr t.slots env)=qq e1/\∀ j S aH,j<l.length->S.length=S1.length->I j S->∃ v S',fe e1 (S++[qq aH])=qq (.d v,S'++[qq aH])/\S'.length=S1.length/\I (j+1) S'/\Q a v) :
 ∃ vs S',gR t fi mZ fe env S=qq (vs,S')/\S'.length=S1.length/\I l.length S'/\vs.length=l.length/\∀ (i:Nat) (a:α),l[i]? = qq a->∃ v,vs[i]? = qq v/\Q a v:=by
 obtain⟨vs,S',h1,h2,h3,h4,h5⟩:=aF8 (fe:=fe) (n:=S1.length) (N:=l.length) enc I Q l [] 0 S1 (by simpa using hz) (by simp) rfl h0 h
 refine⟨vs,S',?_,h2,by simpa using h3,h4,h5⟩
 unfold gR;rw[hi];simp only[oB];rw[h1];simp[<- h2]
theorem aAc{α:Type}(a:α):yEn 1 [a]=[a]:=rfl
theorem aAi{α:Type}(a b:α):yEn 1 [a,b]=[a]:=rfl
theorem aAk{α:Type}(a b:α):yEn 2 [a,b]=[a,b]:=rfl
end EV
namespace EV
open PySem L2 BM
section
variable {C : Calls}{env : aY}{S S1 S2 S3 S4 : aC}{a b c e es r : E}
theorem aTM{i:Nat}{w:W}(h:env[i]? = qq (qq w)):ev C (.var i) env S=qq (w,S):=by rw[aAh];exact aGE h
theorem aTT{i:Int}:ev C (.int i) env S=qq (.d (.int i),S):=rfl
theorem aVJ{i:Bool}:ev C (.bl i) env S=qq (.d (.bool i),S):=rfl
theorem aTC:ev C .non env S=qq (.d .none,S):=rfl
theorem aSY{i:Str}:ev C (.str i) env S=qq (.d (.str i),S):=rfl
theorem aST{op:vq}{x y z:D}(ha:ev C a env S=qq (.d x,S1))(hb:ev C b env S1=qq (.d y,S2))(hz:bR op x y=qq z):ev C (.bin op a b) env S=qq (.d z,S2):=by
 simp only[aHU,qE,f2,ha,oB,hb,gN,dr,hz]
theorem aVl{op:yx}{x z:D}(ha:ev C a env S=qq (.d x,S1))(hz:oT op x=qq z):ev C (.un op a) env S=qq (.d z,S1):=by
 simp only[aJE,xJ,f1,ha,oB,fZ,dr,hz]
theorem aJI{op:vv}{x y z:D}(ha:ev C a env S=qq (.d x,S1))(hb:ev C b env S1=qq (.d y,S2))(hz:aJ op x y=qq z):ev C (.cmp op a b) env S=qq (.d z,S2):=by
 simp only[aC4,mY,f2,ha,oB,hb,gN,dr,hz]
theorem aVE{wa:W}{x y z:D}(ha:ev C a env S=qq (wa,S1))(hb:ev C b env S1=qq (.d y,S2))(hx:dr S2 wa=qq x)(hz:aO x y=qq z):ev C (.ix a b) env S=qq (.d z,S2):=by
 have h2:dr S2 (.d y)=qq y:=rfl;simp only[aAT,nF,f2,ha,oB,hb,gN,hx,h2,hz]
theorem aUl{x:D}:dr S (.d x)=qq x:=rfl
theorem aUK{n:Nat}{l:List D}(h:S[n]? = qq (qq l)):dr S (.loc n)=qq (.list l):=by
 simp only[dr,h]
theorem aQb:nH S []=qq []:=rfl
theorem aTp{w:W}{ws:List W}{x:D}{ds:List D}(h:dr S w=qq x)(k:nH S ws=qq ds):nH S (w::ws)=qq (x::ds):=by
 simp only[nH,h,k,oB]
noncomputable def slD(d:D)(l h:Option Int):Option D:=match d with
 | .list xs=>qq (.list (eS xs l h))
 | .tuple xs=>qq (.tuple (eS xs l h))
 | _=>qz
theorem aWb{lo hi:E}{wa:W}{l h:Option Int}{x z:D}(ha:ev C a env S=qq (wa,S1))(hl:ov C lo env S1=qq (l,S2))(hh:ov C hi env S2=qq (h,S3))(hx:dr S3 wa=qq x)(hz:slD x l h=qq z):ev C (.sl a lo hi) env S=qq (.d z,S3):=by
 simp only[aDb,kE,ha,oB,hl,hh,hx];cases x<;>first | (cases hz;done) | (cases hz;rfl)
theorem aVH:ov C .no env S=qq (qz,S):=rfl
theorem aSx{i:Int}(h:ev C a env S=qq (.d (.int i),S1)):ov C (.cons a .nil) env S=qq (qq i,S1):=by
 simp only[aHf,oK,h,oB]
theorem aUB{o:E}{wo wa w:W}(ho:ev C o env S=qq (wo,S1))(ha:ev C a env S1=qq (wa,S2))(h:dP S2 wo wa=qq (w,S3)):ev C (.app o a) env S=qq (w,S3):=by
 simp only[aHT,hZ,f2,ho,oB,ha,h]
theorem aTJ{p:Bool}{R:Option (W×aC)}(ht:tv C c env S=qq (p,S1))(k:cond p (ev C a env S1) (ev C b env S1)=R):ev C (.ite c a b) env S=R:=by
 rw[<- k];cases p<;>simp only[aIE,wJ,ht,oB,yAt,if_false,if_true,cond_true,cond_false]
theorem aUe{p:Bool}{R:Option (W×aC)}(ha:ev C a env S=qq (.d (.bool p),S1))(k:cond p (ev C b env S1) (qq (.d (.bool false),S1))=R):ev C (.and a b) env S=R:=by
 rw[<- k];cases p<;>simp only[aIf,vM,ha,oB,cond_true,cond_false]
theorem aVt{p:Bool}{R:Option (W×aC)}(ha:ev C a env S=qq (.d (.bool p),S1))(k:cond p (qq (.d (.bool true),S1)) (ev C b env S1)=R):ev C (.or a b) env S=R:=by
 rw[<- k];cases p<;>simp only[aI6,wG,ha,oB,cond_true,cond_false]
theorem aUh{p:Bool}(ha:ev C a env S=qq (.d (.bool p),S1)):ev C (.not a) env S=qq (.d (.bool (!p)),S1):=by
 simp only[aIQ,vS,ha,oB]
theorem aUo{ty:Ty}{wa:W}{x z:D}(ha:ev C a env S=qq (wa,S1))(hx:dr S1 wa=qq x)(hz:fS ty x=qq z):ev C (.isi a ty) env S=qq (.d z,S1):=by
 simp only[aIj,f1,ha,oB,fZ,hx,hz]
theorem aQg{fs:List Fn}{d f:Nat}{ws:List W}{w:W}(ha:av (aD fs d) es env S=qq (ws,S1))(hc:cl fs d f ws S1=qq (w,S2)):ev (aD fs d) (.call f es) env S=qq (w,S2):=by
 rw[aHe,aFh,ha,oB];exact hc
theorem aTO{t:B}{ws:List W}{ds:List D}{z:D}(ha:av C es env S=qq (ws,S1))(hd:nH S1 ws=qq ds)(hz:t.g ds=qq z):ev C (.blt t es) env S=qq (.d z,S1):=by
 simp only[aIy,qB,ha,oB,hd,hz]
theorem aTQ{ws:List W}{ds:List D}(ha:av C es env S=qq (ws,S1))(hd:qC ws=qq ds)(hl:ds.length<=1000):ev C (.tup es) env S=qq (.d (.tuple ds),S1):=by
 simp only[aIC,vX,ha,oB,hd,szT hl,if_true]
theorem aU9{ds:List D}(h:lv C a env S=qq (ds,S1)):ev C (.fz a) env S=qq (.d (.list ds),S1):=by
 simp only[aDc,cO,h,oB]
theorem aT1{ws:List W}{ds:List D}(ha:av C es env S=qq (ws,S1))(hd:qC ws=qq ds)(hl:ds.length<=1000):lv C (.lst es) env S=qq (ds,S1):=by
 simp only[aH9,vW,ha,oB,hd,szT hl,if_true]
theorem aUV{ds:List D}(h:lv C a env S=qq (ds,S1)):ev C (.new a) env S=qq (.loc S1.length,S1++[qq ds]):=by
 simp only[aC6,gK,h,oB]
theorem aTZ:av C .nil env S=qq ([],S):=rfl
theorem aQX{w:W}{ws:List W}(ha:ev C a env S=qq (w,S1))(hr:av C r env S1=qq (ws,S2)):av C (.cons a r) env S=qq (w::ws,S2):=by
 simp only[aHB,eQ,ha,oB,hr]
theorem aRW{op:vv}{x y:D}{p:Bool}(ha:ev C a env S=qq (.d x,S1))(hb:ev C b env S1=qq (.d y,S2))(hz:aJ op x y=qq (.bool p)):tv C (.cmp op a b) env S=qq (p,S2):=by
 have:=aJI ha hb hz;rw[aC4] at this;simp only[aIg,dB,this,oB,dr,qA]
theorem aS1{x:D}{p:Bool}(ht:tv C e=dB (ev C e))(ha:ev C e env S=qq (.d x,S1))(hz:qA x=qq p):tv C e env S=qq (p,S1):=by
 rw[ht];simp only[dB,ha,oB,dr,hz]
theorem aRB{p:Bool}{R:Option (Bool×aC)}(ha:tv C a env S=qq (p,S1))(hb:cond p (tv C b env S1) (qq (false,S1))=R):tv C (.and a b) env S=R:=by
 rw[<- hb];cases p<;>simp only[aIz,wE,ha,oB,yAt,if_false,if_true,cond_true,cond_false]
theorem aTc{p:Bool}{R:Option (Bool×aC)}(ha:tv C a env S=qq (p,S1))(hb:cond p (qq (true,S1)) (tv C b env S1)=R):tv C (.or a b) env S=R:=by
 rw[<- hb];cases p<;>simp only[aJH,xE,ha,oB,yAt,if_false,if_true,cond_true,cond_false]
theorem aRE{p:Bool}(ha:tv C a env S=qq (p,S1)):tv C (.not a) env S=qq (!p,S1):=by
 simp only[aHW,wF,ha,oB]
theorem sO{α:Type}{x y z:α}(h:x=z):cond true x y=z:=h
theorem sM{α:Type}{x y z:α}(h:y=z):cond false x y=z:=h
variable {s t u : Sx}{aM : aY}{R : Option (Fl×aC)}{w : W}
theorem mN{fl:Fl}(h:xs C s env S=qq (fl,S1))(k:qq (fl,S1)=R):xs C s env S=R:=h.trans k
theorem rZ{w:W}{R:Option (W×aC)}(h:ev C e env S=qq (w,S1))(k:qq (w,S1)=R):ev C e env S=R:=h.trans k
theorem sC{p:Bool}{R:Option (Bool×aC)}(h:tv C e env S=qq (p,S1))(k:qq (p,S1)=R):tv C e env S=R:=h.trans k
theorem rS{l:List D}{R:Option (List D×aC)}(h:lv C e env S=qq (l,S1))(k:qq (l,S1)=R):lv C e env S=R:=h.trans k
theorem aRm:xs C .skip env S=qq (.nx env,S):=rfl
noncomputable def sN(C:Calls)(t:Sx)(fl:Fl)(S:aC):Option (Fl×aC):=match fl with
 | .nx e=>xs C t e S
 | fl=>qq (fl,S)
theorem aT5{fl:Fl}(h:xs C s env S=qq (fl,S1))(k:sN C t fl S1=R):xs C (.seq s t) env S=R:=by
 rw[<- k];cases fl<;>simp only[iW,cZ,h,oB,sN]
theorem aVC(k:xs C t aM S=R):sN C t (.nx aM) S=R:=k
theorem aWc(k:qq (.rt w,S)=R):sN C t (.rt w) S=R:=k
theorem aVN(k:qq (.bk aM,S)=R):sN C t (.bk aM) S=R:=k
theorem aV6(k:qq (.ct aM,S)=R):sN C t (.ct aM) S=R:=k
theorem aUv{o i:E}{wo wi we:W}(he:ev C e env S=qq (we,S1))(ho:ev C o env S1=qq (wo,S2))(hi:ev C i env S2=qq (wi,S3))(h:jW S3 wo wi we=qq S4):xs C (.put o i e) env S=qq (.nx env,S4):=by
 simp only[aIh,lK,he,oB,ho,hi,h]
theorem aSQ{i:Nat}(h:ev C e env S=qq (w,S1))(he:env.set i (qq w)=aM):xs C (.set i e) env S=qq (.nx aM,S1):=by
 rw[<- he];simp only[aAb,jE,h,oB]
theorem aSI(h:ev C e env S=qq (w,S1)):xs C (.ret e) env S=qq (.rt w,S1):=by
 simp only[aAe,mW,h,oB]
theorem aQU(h:ev C e env S=qq (w,S1)):xs C (.expr e) env S=qq (.nx env,S1):=by
 simp only[aHD,vR,h,oB]
theorem aSD{p:Bool}(ht:tv C a env S=qq (p,S1))(k:cond p (xs C s env S1) (xs C t env S1)=R):xs C (.ifs a s t) env S=R:=by
 rw[<- k];cases p<;>simp only[rP,nL,ht,oB,yAt,if_false,if_true,cond_true,cond_false]
theorem aQD{tg:Tg}(h:dA tg (lv C a) (xs C s) env S=R):xs C (.loop tg a s) env S=R:=h
theorem aCV{body:Sx}{n:Nat}{ws:List W}{x:D}(he:ws.map qq++yAd (n-ws.length) qz=env)(k:xs C body env S=qq (.rt (.d x),S1))(hS:S1.take S.length=S2):fD (xs C body) n ws S=qq (.d x,S2):=by
 subst he;simp only[fD,k,oB,lQ,hS]
end
end EV
namespace K63
open PySem L2 EV BM
local macro_rules
 | `(tactic| omega)=>`(tactic| first | (with_reducible assumption) | (with_reducible exact yAc _) | (with_reducible exact Nat.le_add_right _ _) | (with_reducible exact xAi ‹_› (by decide)) | (with_reducible exact xAc ‹_› (by decide)) | (with_reducible exact xAj ‹_› (by decide)) | (with_reducible exact yDz ‹_›) | (with_reducible exact xAi (yDz ‹_›) (by decide)) | (with_reducible exact xAi (Nat.add_le_add_right ‹_› _) (by decide)) | (with_reducible exact Nat.add_le_add_left (by decide) _) | (with_reducible exact yFu ‹_›) | (with_reducible exact Nat.lt_of_not_le ‹_›) | (with_reducible exact Nat.not_lt_of_le ‹_›) | (with_reducible exact Nat.not_le_of_lt ‹_›) | (with_reducible exact xAc ‹_› ‹_›) | (with_reducible exact xAi ‹_› ‹_›) | (with_reducible exact xAi ‹_› (Nat.add_le_add_left (by decide) _)) | (with_reducible exact xAi ‹_› (xAi (Nat.add_le_add_right ‹_› _) (by decide))) | omega (config:={}))
 | `(tactic| simp only[evs])=>`(tactic| simp only[evs,True])
 | `(tactic| simp only[evs,$ls,*])=>`(tactic| simp only[aAh,aR5,aUm,aSh,aRn,aHU,aJE,aC4,aIf,aI6,aIQ,aIE,aIC,aAT,aQC,aR8,aDb,aHe,aIy,aIj,aOD,aHT,aDc,aC6,aIz,aJH,aHW,aRD,aIg,aUs,aP6,aRR,aRk,aQh,aUk,aUj,aQ9,aHB,aS2,aHf,aH9,aHy,aHp,aO7,rY,rA,rB,aOA,rC,aHu,iW,aHD,aAe,rP,aAb,aHR,aPn,aIh,zU,cZ,jE,aAG,nL,mW,aSX,vR,sF,qE,xJ,mY,dB,f2,f1,gN,fZ,dr,nH,fC,iN,lQ,aFh,eQ,lU,vX,vW,cO,qB,nF,wE,xE,wF,vM,wG,vS,wJ,qC,B.g,aTb,aUw,aUJ,aUn,aSM,qA,Tg.put,nW,Tg.slots,yBa,yGg,yBi,yDb,yFg,yGv,yEe,yAv,yEt,yFx,yEh,yBb,yBq,yGj,yGk,oB,oM,yAh,yDj,yDt,yAt,if_true,if_false,reduceIte,yHb,Nat.reduceEqDiff,szT,List.take_nil,List.take_zero,aRe,aA4,aAW,oP,aAc,aAi,aAk,$ls,*])
 | `(tactic| simp only[gc,$as,*])=>`(tactic| first | (with_reducible assumption) | (focus (simp only[$as,*]<;>with_reducible rfl)))
 | `(tactic| simp only[gl,$as,*])=>`(tactic| first | (focus (simp only[$as,*]<;>rfl)) | (focus rfl))
 | `(tactic| simp only[go,$as,*])=>`(tactic| first | with_reducible exact aTT | with_reducible exact aSY | with_reducible exact aVJ | with_reducible exact aTC | with_reducible exact aTZ | with_reducible exact aRm | with_reducible exact aVH | with_reducible exact aUl | with_reducible exact aQb | ((with_reducible apply aTM);rfl) | ((with_reducible apply aQX);simp only[go,$as,*];simp only[go,$as,*]) | ((with_reducible apply aT5);simp only[go,$as,*];first | ((with_reducible apply aVC);simp only[go,$as,*]) | ((with_reducible apply aWc);rfl) | ((with_reducible apply aVN);rfl) | ((with_reducible apply aV6);rfl)) | ((with_reducible apply aSQ);simp only[go,$as,*];(focus (dsimp only[yGj,yGk]<;>rfl))) | ((with_reducible apply aSI);simp only[go,$as,*]) | ((with_reducible apply aQU);simp only[go,$as,*]) | ((with_reducible apply aQg);simp only[go,$as,*];simp only[gc,$as,*]) | ((with_reducible apply aST);simp only[go,$as,*];simp only[go,$as,*];simp only[gl,$as,*]) | ((with_reducible apply aVE);simp only[go,$as,*];simp only[go,$as,*];simp only[go,$as,*];simp only[gl,$as,*]) | ((with_reducible apply aUK);simp only[gl,$as,*]) | ((with_reducible apply aSD);simp only[go,$as,*];first | ((with_reducible apply sO);simp only[go,$as,*]) | ((with_reducible apply sM);simp only[go,$as,*])) | ((with_reducible apply aRW);simp only[go,$as,*];simp only[go,$as,*];simp only[gl,$as,*]) | ((with_reducible apply aRB);simp only[go,$as,*];first | ((with_reducible apply sO);simp only[go,$as,*]) | ((with_reducible apply sM);rfl)) | ((with_reducible apply aTc);simp only[go,$as,*];first | ((with_reducible apply sO);rfl) | ((with_reducible apply sM);simp only[go,$as,*])) | ((with_reducible apply aRE);simp only[go,$as,*]) | ((with_reducible apply aTO);simp only[go,$as,*];simp only[go,$as,*];simp only[gl,B.g,$as,*]) | ((with_reducible apply aTp);simp only[go,$as,*];simp only[go,$as,*]) | ((with_reducible apply aTQ);simp only[go,$as,*];rfl;simp only[gl,yBi,yDb,yFg,yHb,$as,*]) | ((with_reducible apply aU9);simp only[go,$as,*]) | ((with_reducible apply aT1);simp only[go,$as,*];rfl;simp only[gl,yBi,yDb,yFg,yHb,$as,*]) | ((with_reducible apply aUV);simp only[go,$as,*]) | ((with_reducible apply aWb);simp only[go,$as,*];simp only[go,$as,*];simp only[go,$as,*];simp only[go,$as,*];simp only[gl,slD,$as,*]) | ((with_reducible apply aSx);simp only[go,$as,*]) | ((with_reducible apply aVl);simp only[go,$as,*];simp only[gl,$as,*]) | ((with_reducible apply aJI);simp only[go,$as,*];simp only[go,$as,*];simp only[gl,$as,*]) | ((with_reducible apply aUB);simp only[go,$as,*];simp only[go,$as,*];simp only[gl,$as,*]) | ((with_reducible apply aUv);simp only[go,$as,*];simp only[go,$as,*];simp only[go,$as,*];simp only[gl,$as,*]) | ((with_reducible apply aTJ);simp only[go,$as,*];first | ((with_reducible apply sO);simp only[go,$as,*]) | ((with_reducible apply sM);simp only[go,$as,*])) | ((with_reducible apply aUe);simp only[go,$as,*];first | ((with_reducible apply sO);simp only[go,$as,*]) | ((with_reducible apply sM);rfl)) | ((with_reducible apply aVt);simp only[go,$as,*];first | ((with_reducible apply sO);rfl) | ((with_reducible apply sM);simp only[go,$as,*])) | ((with_reducible apply aUh);simp only[go,$as,*]) | ((with_reducible apply aUo);simp only[go,$as,*];simp only[go,$as,*];rfl) | ((with_reducible apply aQD);simp only[gc,$as,*]) | ((with_reducible apply aS1 rfl);simp only[go,$as,*];rfl) | simp only[gc,$as,*] | (focus (simp only[evs,$as,*]<;>with_reducible rfl)))
local macro_rules
 | `(tactic| simp only[gR1,$d0:term,$as,*])=>`(tactic| first | (apply aCV rfl;(focus (dsimp only[$d0:term,List.map,yBi,yDb,yFg,yGv,yEe,yAv,yEt,yFx,yEh];apply mN;simp only[go,$as,*];(first | (focus rfl) | (focus (simp only[$as,*]<;>rfl)))));(first | exact yAh | (focus (simp only[aAc,aAi,aAk,$as,*]<;>rfl)) | (focus rfl))) | (simp only[evs,fD,$d0:term,$as,*]<;>rfl))
local macro_rules
 | `(tactic| simp only[gR2,$d0:term,$d1:term,$as,*])=>`(tactic| first | (apply aCV rfl;(focus (dsimp only[$d0:term,$d1:term,List.map,yBi,yDb,yFg,yGv,yEe,yAv,yEt,yFx,yEh];apply mN;simp only[go,$as,*];(first | (focus rfl) | (focus (simp only[$as,*]<;>rfl)))));(first | exact yAh | (focus (simp only[aAc,aAi,aAk,$as,*]<;>rfl)) | (focus rfl))) | (simp only[evs,fD,$d0:term,$d1:term,$as,*]<;>rfl))
local macro_rules
 | `(tactic| simp only[gR3,$d0:term,$d1:term,$d2:term,$as,*])=>`(tactic| first | (apply aCV rfl;(focus (dsimp only[$d0:term,$d1:term,$d2:term,List.map,yBi,yDb,yFg,yGv,yEe,yAv,yEt,yFx,yEh];apply mN;simp only[go,$as,*];(first | (focus rfl) | (focus (simp only[$as,*]<;>rfl)))));(first | exact yAh | (focus (simp only[aAc,aAi,aAk,$as,*]<;>rfl)) | (focus rfl))) | (simp only[evs,fD,$d0:term,$d1:term,$d2:term,$as,*]<;>rfl))
local macro_rules
 | `(tactic| simp only[gS0,$as,*])=>`(tactic| first | ((first | apply mN | apply rZ | apply sC | apply rS);simp only[go,$as,*];(first | (focus rfl) | (focus (simp only[$as,*]<;>rfl)))) | (simp only[evs,$as,*]<;>rfl))
local macro_rules
 | `(tactic| simp only[gS1,$d0:term,$as,*])=>`(tactic| first | (dsimp only[$d0:term];(first | apply mN | apply rZ | apply sC | apply rS);simp only[go,$as,*];(first | (focus rfl) | (focus (simp only[$as,*]<;>rfl)))) | (simp only[evs,$d0:term,$as,*]<;>rfl))
local macro_rules
 | `(tactic| simp only[gS2,$d0:term,$d1:term,$as,*])=>`(tactic| first | (dsimp only[$d0:term,$d1:term];(first | apply mN | apply rZ | apply sC | apply rS);simp only[go,$as,*];(first | (focus rfl) | (focus (simp only[$as,*]<;>rfl)))) | (simp only[evs,$d0:term,$d1:term,$as,*]<;>rfl))
local macro_rules
 | `(tactic| simp only[gS3,$d0:term,$d1:term,$d2:term,$as,*])=>`(tactic| first | (dsimp only[$d0:term,$d1:term,$d2:term];(first | apply mN | apply rZ | apply sC | apply rS);simp only[go,$as,*];(first | (focus rfl) | (focus (simp only[$as,*]<;>rfl)))) | (simp only[evs,$d0:term,$d1:term,$d2:term,$as,*]<;>rfl))
local macro_rules
 | `(tactic| simp only[gS4,$d0:term,$d1:term,$d2:term,$d3:term,$as,*])=>`(tactic| first | (dsimp only[$d0:term,$d1:term,$d2:term,$d3:term];(first | apply mN | apply rZ | apply sC | apply rS);simp only[go,$as,*];(first | (focus rfl) | (focus (simp only[$as,*]<;>rfl)))) | (simp only[evs,$d0:term,$d1:term,$d2:term,$d3:term,$as,*]<;>rfl))
local macro_rules
 | `(tactic| simp only[gS5,$d0:term,$d1:term,$d2:term,$d3:term,$d4:term,$as,*])=>`(tactic| first | (dsimp only[$d0:term,$d1:term,$d2:term,$d3:term,$d4:term];(first | apply mN | apply rZ | apply sC | apply rS);simp only[go,$as,*];(first | (focus rfl) | (focus (simp only[$as,*]<;>rfl)))) | (simp only[evs,$d0:term,$d1:term,$d2:term,$d3:term,$d4:term,$as,*]<;>rfl))
noncomputable def top(i:Nat):jx:=PySem.Challenge.pw_fewbits_k63_trades_of_drawn_programs.main.body.getD i (.Pass ⟨0,0,0,0⟩)
noncomputable def tF:List (Str×Tv):=[("in",.int 0),("num",.int 0),("not",.int 1),("and",.int 2),("or",.int 2),("xor",.int 2),("add",.int 2),("sub",.int 2),("mul",.int 2),("left",.int 1),("right",.int 1),("slide",.int 1),("cut",.int 1),("wide",.int 1),("sign",.int 1),("same",.int 2),("less",.int 2),("under",.int 2),("pick",.int 3)]
noncomputable def pH:List Tv:=[.str "left",.str "right",.str "slide"]
noncomputable def aCY:List Tv:=[.str "add",.str "sub",.str "mul"]
noncomputable def tN:List Tv:=[.str "same",.str "less",.str "under"]
noncomputable def qV:List Tv:=[.int 0,.int 0,.int 1]
noncomputable def tZ:List Tv:=[.int 1,.int 0,.int 1]
noncomputable def vP:List Tv:=[.int 0,.int 1,.int 1]
noncomputable def aBE:List Tv:=[.str "and",.str "or",.str "xor",.str "add",.str "mul"]
noncomputable def tbs:Tbs:=⟨[("OPERAND_COUNTS",tF)],[("SHIFTS",pH),("SUMS",aCY),("COMPARES",tN),("NOTHING",qV),("NOUGHT",tZ),("ONE",vP),("EXCHANGEABLE",aBE)]⟩
abbrev J0:E:=.int 0
abbrev J1:E:=.int 1
abbrev J2:E:=.int 2
abbrev J3:E:=.int 3
abbrev J4:E:=.int 4
abbrev J5:E:=.int 5
abbrev J7:E:=.int 7
abbrev J8:E:=.int 8
abbrev V0:E:=.var 0
abbrev V1:E:=.var 1
abbrev V2:E:=.var 2
abbrev V3:E:=.var 3
abbrev V4:E:=.var 4
abbrev V5:E:=.var 5
abbrev V6:E:=.var 6
abbrev V7:E:=.var 7
abbrev V8:E:=.var 8
abbrev V9:E:=.var 9
noncomputable def aIU:Sx:=(.seq (.ret (.bin .Sub (.bin .LShift J1 V0) J1))
 .skip)
noncomputable def aH7:Sx:=(.seq (.ret (.bits V0))
 .skip)
noncomputable def aIr:Sx:=(.seq (.ret (.call 0 (.cons (.call 1 (.cons V0 .nil)) .nil)))
 .skip)
noncomputable def aF9:Sx:=(.seq (.ret (.bin .Sub (.call 1 (.cons (.bin .BitXor V0 (.bin .Add V0 J1)) .nil)) J1))
 .skip)
noncomputable def aGh:Sx:=(.seq (.ret (.bin .Sub V1 (.call 1 (.cons (.bin .BitXor V0 (.call 0 (.cons V1 .nil))) .nil))))
 .skip)
noncomputable def aBS:Sx:=(.seq (.set 3 (.bin .LShift J1 (.bin .Sub V1 J1)))
 (.seq (.ifs (.cmp .Eq (.bin .BitAnd V0 V3) J0) (.seq (.ret V0)
 .skip) .skip)
 (.seq (.ret (.bin .BitOr V0 (.bin .BitXor (.call 0 (.cons V2 .nil)) (.call 0 (.cons V1 .nil)))))
 .skip)))
noncomputable def aEJ:Sx:=(.seq (.set 3 (.bin .BitXor (.call 0 (.cons V2 .nil)) (.call 2 (.cons (.bin .BitXor V0 V1) .nil))))
 (.seq (.set 4 (.bin .BitAnd V3 V0))
 (.seq (.ret (.tup (.cons (.bin .BitXor V3 V4) (.cons V4 .nil))))
 .skip)))
noncomputable def aMd:Sx:=(.seq (.ret (.sl V0 (.cons J2 .nil) (.cons (.bin .Add J2 (.tab "OPERAND_COUNTS" tF (.ix V0 J0))) .nil)))
 .skip)
noncomputable def aEm:Sx:=(.seq (.ret (.bin .Add (.bin .Add (.sl V0 .no (.cons J2 .nil)) V1) (.sl V0 (.cons (.bin .Add J2 (.blt .len (.cons V1 .nil))) .nil) .no)))
 .skip)
noncomputable def aEl:E:=(.comp (.ix V1 V2) (.one 2) (.it (.call 7 (.cons V0 .nil))) .no)
noncomputable def aEB:Sx:=(.seq (.ret (.blt .tup (.cons (.fz aEl) .nil)))
 .skip)
noncomputable def aFU:Sx:=(.seq (.set 2 (.ix V0 J0))
 (.seq (.ret (.ix (.ix V2 V1) J1))
 .skip))
noncomputable def aEr:E:=(.comp (.ix V1 J1) (.one 1) (.it (.ix V0 J0)) .no)
noncomputable def aE9:Sx:=(.seq (.ret (.blt .tup (.cons (.fz aEr) .nil)))
 .skip)
noncomputable def aEq:Sx:=(.seq (.ret (.tup (.cons (.bin .BitAnd V2 (.un .Invert (.bin .BitAnd V1 (.un .Invert V0)))) (.cons (.bin .BitAnd V2 (.un .Invert V0)) .nil))))
 .skip)
noncomputable def aFV:Sx:=(.seq (.set 3 (.call 1 (.cons V2 .nil)))
 (.seq (.set 4 (.blt .mn (.cons V3 (.cons (.call 3 (.cons V1 .nil)) .nil))))
 (.seq (.set 5 (.blt .mn (.cons (.bin .Sub V3 V4) (.cons (.call 3 (.cons V0 .nil)) .nil))))
 (.seq (.ret (.tup (.cons (.call 0 (.cons (.bin .Sub V3 V4) .nil)) (.cons (.call 0 (.cons (.bin .Sub V3 V5) .nil)) .nil))))
 .skip))))
noncomputable def aCp:Sx:=(.seq (.ifs (.cmp .Eq (.bin .RShift V0 V1) J0) (.seq (.ret V0)
 .skip) .skip)
 (.seq (.ret (.bin .BitOr (.bin .BitAnd V0 (.call 0 (.cons V1 .nil))) (.bin .LShift J1 (.bin .Sub V1 J1))))
 .skip))
noncomputable def xZ:Sx:=(.seq (.ifs (.cmp .Eq V0 (.str "left")) (.seq (.ret (.bin .RShift V3 V2))
 .skip) .skip)
 (.seq (.ifs (.cmp .Eq V0 (.str "right")) (.seq (.ret (.bin .BitAnd (.bin .LShift V3 V2) (.call 0 (.cons V1 .nil))))
 .skip) .skip)
 (.seq (.ret (.call 14 (.cons (.bin .LShift V3 V2) (.cons V1 .nil))))
 .skip)))
noncomputable def yG:Sx:=(.seq (.ifs (.cmp .Eq (.ix V0 J1) J1) (.seq (.ret (.tup (.cons J1 (.cons V1 (.cons J0 .nil)))))
 .skip) .skip)
 (.seq (.ifs (.cmp .Eq (.ix V0 J0) J1) (.seq (.ret (.tup (.cons J1 (.cons J0 (.cons V1 .nil)))))
 .skip) .skip)
 (.seq (.ret (.tup (.cons J1 (.cons V1 (.cons V1 .nil)))))
 .skip)))
noncomputable def aEC:Sx:=(.seq (.set 4 (.ix V0 J0))
 (.seq (.ifs (.cmp .Eq V4 (.str "and")) (.seq (.ret (.call 12 (.cons (.ix (.ix V2 J0) J0) (.cons (.ix (.ix V2 J1) J0) (.cons V3 .nil)))))
 .skip) .skip)
 (.seq (.ifs (.cmp .Eq V4 (.str "or")) (.seq (.ret (.call 12 (.cons (.ix (.ix V2 J0) J1) (.cons (.ix (.ix V2 J1) J1) (.cons V3 .nil)))))
 .skip) .skip)
 (.seq (.ifs (.cmp .In V4 (.tup (.cons (.str "add") (.cons (.str "sub") .nil)))) (.seq (.ret (.tup (.cons (.call 2 (.cons V3 .nil)) (.cons (.call 2 (.cons V3 .nil)) .nil))))
 .skip) .skip)
 (.seq (.ifs (.cmp .Eq V4 (.str "mul")) (.seq (.ret (.call 13 (.cons (.ix (.ix V2 J0) J0) (.cons (.ix (.ix V2 J1) J0) (.cons V3 .nil)))))
 .skip) .skip)
 (.seq (.ifs (.cmp .In V4 (.con "SHIFTS" pH)) (.seq (.ret (.tup (.cons (.call 15 (.cons V4 (.cons (.ix V0 J1) (.cons (.ix V0 J3) (.cons V3 .nil))))) .nil)))
 .skip) .skip)
 (.seq (.ifs (.cmp .Eq V4 (.str "wide")) (.seq (.ret (.tup (.cons (.bin .BitAnd V3 (.call 0 (.cons (.ix V1 J0) .nil))) .nil)))
 .skip) .skip)
 (.seq (.ifs (.cmp .Eq V4 (.str "sign")) (.seq (.ret (.tup (.cons (.call 14 (.cons V3 (.cons (.ix V1 J0) .nil))) .nil)))
 .skip) .skip)
 (.seq (.ifs (.cmp .In V4 (.con "COMPARES" tN)) (.seq (.ret (.tup (.cons (.call 0 (.cons (.ix V1 J0) .nil)) (.cons (.call 0 (.cons (.ix V1 J1) .nil)) .nil))))
 .skip) .skip)
 (.seq (.ifs (.cmp .Eq V4 (.str "pick")) (.seq (.ret (.call 16 (.cons (.ix V2 J0) (.cons V3 .nil))))
 .skip) .skip)
 (.seq (.ret (.bin .Mult (.tup (.cons V3 .nil)) (.blt .len (.cons (.call 7 (.cons V0 .nil)) .nil))))
 .skip)))))))))))
noncomputable def aC8:Sx:=(.seq (.ifs (.cmp .Eq V3 J0) (.seq (.ret (.bin .Mult (.tup (.cons J0 .nil)) (.blt .len (.cons (.call 7 (.cons V0 .nil)) .nil))))
 .skip) .skip)
 (.seq (.ret (.call 17 (.cons V0 (.cons V1 (.cons V2 (.cons V3 .nil))))))
 .skip))
noncomputable def aEs:E:=(.comp (.call 10 (.cons V0 (.cons V7 .nil))) (.one 7) (.it (.call 7 (.cons V4 .nil))) .no)
noncomputable def aFa:Sx:=(.seq (.set 4 (.ix (.ix V0 J0) V2))
 (.seq (.set 5 (.blt .tup (.cons (.fz aEs) .nil)))
 (.seq (.set 6 (.call 18 (.cons V4 (.cons V5 (.cons (.call 9 (.cons V4 (.cons V1 .nil))) (.cons V3 .nil))))))
 (.seq (.ret (.fz (.lzip (.call 7 (.cons V4 .nil)) V6)))
 .skip))))
noncomputable def zB:E:=(.it (.call 19 (.cons V0 (.cons V1 (.cons V4 (.cons (.ix V2 V4) .nil))))))
noncomputable def yV:Sx:=(.seq (.put V2 V7 (.bin .BitOr (.ix V2 V7) V8))
 .skip)
noncomputable def zA:E:=(.rng3 (.bin .Sub (.blt .len (.cons V5 .nil)) J1) (.un .USub J1) (.un .USub J1))
noncomputable def aB1:Sx:=(.seq (.loop (.many [7,8]) zB yV)
 .skip)
noncomputable def aB3:E:=(.it V6)
noncomputable def aB2:Sx:=(.seq (.put V2 V3 (.call 0 (.cons (.call 10 (.cons V0 (.cons V3 .nil))) .nil)))
 .skip)
noncomputable def gE:Sx:=(.seq (.setT (.many [5,6]) V0)
 (.seq (.set 2 (.new (.lrep (.fz (.lst (.cons J0 .nil))) (.blt .len (.cons V5 .nil)))))
 (.seq (.loop (.one 3) aB3 aB2)
 (.seq (.loop (.one 4) zA aB1)
 (.seq (.ret (.blt .tup (.cons V2 .nil)))
 .skip)))))
noncomputable def aFe:Sx:=(.seq (.ret (.bin .BitXor (.call 0 (.cons V1 .nil)) (.call 0 (.cons (.bin .Sub V1 V0) .nil))))
 .skip)
noncomputable def aEN:Sx:=(.seq (.ret (.bin .BitOr (.ix V0 J0) (.ix V0 J1)))
 .skip)
noncomputable def uO:Sx:=(.seq (.setT (.many [3,4,5]) V0)
 (.seq (.set 2 (.call 21 (.cons V5 (.cons V1 .nil))))
 (.seq (.ifs (.cmp .NotEq (.bin .BitAnd V3 V2) J0) (.seq (.set 3 (.bin .BitOr V3 V2))
 .skip) .skip)
 (.seq (.ifs (.cmp .NotEq (.bin .BitAnd V4 V2) J0) (.seq (.set 4 (.bin .BitOr V4 V2))
 .skip) .skip)
 (.seq (.ret (.tup (.cons V3 (.cons V4 (.cons (.blt .mx (.cons V5 (.cons (.call 4 (.cons V3 (.cons V1 .nil))) (.cons (.call 4 (.cons V4 (.cons V1 .nil))) .nil)))) .nil)))))
 .skip)))))
noncomputable def aIM:Sx:=(.seq (.ret (.ix V0 J1))
 .skip)
noncomputable def aFy:Sx:=(.seq (.ret (.bin .BitXor (.call 0 (.cons V1 .nil)) (.ix V0 J0)))
 .skip)
noncomputable def aM5:Sx:=(.seq (.ifs (.cmp .Eq V0 (.str "add")) (.seq (.ret (.bin .Add V1 V2))
 .skip) .skip)
 (.seq (.ifs (.cmp .Eq V0 (.str "sub")) (.seq (.ret (.bin .Sub V1 V2))
 .skip) .skip)
 (.seq (.ret (.bin .Mult V1 V2))
 .skip)))
noncomputable def aE4:Sx:=(.seq (.set 3 (.call 0 (.cons (.call 3 (.cons (.bin .BitAnd (.call 22 (.cons V1 .nil)) (.call 22 (.cons V2 .nil))) .nil)) .nil)))
 (.seq (.set 4 (.bin .BitAnd (.call 26 (.cons V0 (.cons (.call 24 (.cons V1 .nil)) (.cons (.call 24 (.cons V2 .nil)) .nil)))) V3))
 (.seq (.ret (.tup (.cons (.bin .BitXor V3 V4) (.cons V4 .nil))))
 .skip)))
noncomputable def xU:Sx:=(.seq (.ifs (.cmp .NotEq V0 (.str "mul")) (.seq (.ret J0)
 .skip) .skip)
 (.seq (.ret (.call 0 (.cons (.blt .mn (.cons V1 (.cons (.bin .Add (.call 3 (.cons (.ix V2 J0) .nil)) (.call 3 (.cons (.ix V3 J0) .nil))) .nil))) .nil)))
 .skip))
noncomputable def zJ:Sx:=(.seq (.ifs (.cmp .Eq V0 (.str "sub")) (.seq (.ret (.tup (.cons (.bin .Sub (.call 24 (.cons V2 .nil)) (.call 25 (.cons V3 (.cons V1 .nil)))) (.cons (.bin .Sub (.call 25 (.cons V2 (.cons V1 .nil))) (.call 24 (.cons V3 .nil))) .nil))))
 .skip) .skip)
 (.seq (.set 4 (.call 26 (.cons V0 (.cons (.call 24 (.cons V2 .nil)) (.cons (.call 24 (.cons V3 .nil)) .nil)))))
 (.seq (.set 5 (.call 26 (.cons V0 (.cons (.call 25 (.cons V2 (.cons V1 .nil))) (.cons (.call 25 (.cons V3 (.cons V1 .nil))) .nil)))))
 (.seq (.ret (.tup (.cons V4 (.cons V5 .nil))))
 .skip))))
noncomputable def yJ:Sx:=(.seq (.setT (.many [4,5]) (.call 29 (.cons V0 (.cons V1 (.cons V2 (.cons V3 .nil))))))
 (.seq (.ifs (.or (.cmp .Lt V4 J0) (.cmp .Gt V5 (.call 0 (.cons V1 .nil)))) (.seq (.ret (.tup (.cons J0 (.cons J0 .nil))))
 .skip) .skip)
 (.seq (.ret (.call 6 (.cons V4 (.cons V5 (.cons V1 .nil)))))
 .skip)))
noncomputable def yM:Sx:=(.seq (.ifs (.cmp .Eq V0 (.str "mul")) (.seq (.ret J1)
 .skip) .skip)
 (.seq (.ret (.blt .mx (.cons J1 (.cons (.bin .Sub (.blt .mn (.cons (.ix V1 J2) (.cons (.ix V2 J2) .nil))) J1) .nil))))
 .skip))
noncomputable def aFw:Sx:=(.seq (.set 4 (.call 27 (.cons V0 (.cons V2 (.cons V3 .nil)))))
 (.seq (.set 5 (.call 30 (.cons V0 (.cons V1 (.cons V2 (.cons V3 .nil))))))
 (.seq (.set 6 (.bin .BitOr (.bin .BitOr (.ix V4 J0) (.ix V5 J0)) (.call 28 (.cons V0 (.cons V1 (.cons V2 (.cons V3 .nil)))))))
 (.seq (.ret (.tup (.cons V6 (.cons (.bin .BitOr (.ix V4 J1) (.ix V5 J1)) (.cons (.call 31 (.cons V0 (.cons V2 (.cons V3 .nil)))) .nil)))))
 .skip))))
noncomputable def aFs:Sx:=(.seq (.ret (.tup (.cons (.bin .BitXor (.call 0 (.cons V0 .nil)) V1) (.cons V1 (.cons J1 .nil)))))
 .skip)
noncomputable def aEu:Sx:=(.seq (.ret (.bin .BitOr (.bin .BitAnd (.ix V0 J0) (.ix V1 J1)) (.bin .BitAnd (.ix V0 J1) (.ix V1 J0))))
 .skip)
noncomputable def xO:Sx:=(.seq (.set 3 (.blt .mn (.cons (.ix V1 J2) (.cons (.ix V2 J2) .nil))))
 (.seq (.ifs (.cmp .Eq V0 (.str "and")) (.seq (.ret (.tup (.cons (.bin .BitOr (.ix V1 J0) (.ix V2 J0)) (.cons (.bin .BitAnd (.ix V1 J1) (.ix V2 J1)) (.cons V3 .nil)))))
 .skip) .skip)
 (.seq (.ifs (.cmp .Eq V0 (.str "or")) (.seq (.ret (.tup (.cons (.bin .BitAnd (.ix V1 J0) (.ix V2 J0)) (.cons (.bin .BitOr (.ix V1 J1) (.ix V2 J1)) (.cons V3 .nil)))))
 .skip) .skip)
 (.seq (.set 4 (.bin .BitOr (.bin .BitAnd (.ix V1 J0) (.ix V2 J0)) (.bin .BitAnd (.ix V1 J1) (.ix V2 J1))))
 (.seq (.ret (.tup (.cons V4 (.cons (.call 34 (.cons V1 (.cons V2 .nil))) (.cons V3 .nil)))))
 .skip)))))
noncomputable def aE3:Sx:=(.seq (.set 3 (.bin .BitOr (.bin .LShift (.ix V1 J0) V2) (.call 0 (.cons V2 .nil))))
 (.seq (.ret (.tup (.cons (.bin .BitAnd V3 (.call 0 (.cons V0 .nil))) (.cons (.bin .BitAnd (.bin .LShift (.ix V1 J1) V2) (.call 0 (.cons V0 .nil))) (.cons (.blt .mx (.cons J1 (.cons (.bin .Sub (.ix V1 J2) V2) .nil))) .nil)))))
 .skip))
noncomputable def aBO:Sx:=(.seq (.set 3 (.bin .BitOr (.bin .RShift (.ix V1 J0) V2) (.call 21 (.cons (.blt .mn (.cons V2 (.cons V0 .nil))) (.cons V0 .nil)))))
 (.seq (.ret (.tup (.cons V3 (.cons (.bin .RShift (.ix V1 J1) V2) (.cons (.ite (.cmp .Eq V2 J0) (.ix V1 J2) J1) .nil)))))
 .skip))
noncomputable def aEK:Sx:=(.seq (.set 3 (.bin .Add V0 V2))
 (.seq (.ret (.tup (.cons (.bin .RShift (.call 5 (.cons (.ix V1 J0) (.cons V0 (.cons V3 .nil)))) V2) (.cons (.bin .RShift (.call 5 (.cons (.ix V1 J1) (.cons V0 (.cons V3 .nil)))) V2) (.cons (.blt .mn (.cons V0 (.cons (.bin .Add (.ix V1 J2) V2) .nil))) .nil)))))
 .skip))
noncomputable def aLB:Sx:=(.seq (.ifs (.cmp .Eq V0 (.str "left")) (.seq (.ret (.call 36 (.cons V1 (.cons V2 (.cons V3 .nil)))))
 .skip) .skip)
 (.seq (.ifs (.cmp .Eq V0 (.str "right")) (.seq (.ret (.call 37 (.cons V1 (.cons V2 (.cons V3 .nil)))))
 .skip) .skip)
 (.seq (.ret (.call 38 (.cons V1 (.cons V2 (.cons V3 .nil)))))
 .skip)))
noncomputable def tU:Sx:=(.seq (.setT (.many [4,5,6]) V3)
 (.seq (.ifs (.cmp .Eq V0 (.str "cut")) (.seq (.ret (.tup (.cons (.bin .BitAnd V4 (.call 0 (.cons V2 .nil))) (.cons (.bin .BitAnd V5 (.call 0 (.cons V2 .nil))) (.cons (.blt .mx (.cons J1 (.cons (.bin .Sub V6 (.bin .Sub V1 V2)) .nil))) .nil)))))
 .skip) .skip)
 (.seq (.ifs (.cmp .Eq V0 (.str "wide")) (.seq (.ret (.tup (.cons (.bin .BitOr V4 (.call 21 (.cons (.bin .Sub V2 V1) (.cons V2 .nil)))) (.cons V5 (.cons (.ite (.cmp .Eq V2 V1) V6 J1) .nil)))))
 .skip) .skip)
 (.seq (.ret (.tup (.cons (.call 5 (.cons V4 (.cons V1 (.cons V2 .nil)))) (.cons (.call 5 (.cons V5 (.cons V1 (.cons V2 .nil)))) (.cons (.bin .Add V6 (.bin .Sub V2 V1)) .nil)))))
 .skip))))
noncomputable def yR:Sx:=(.seq (.ifs (.cmp .NotEq (.call 34 (.cons V1 (.cons V2 .nil))) J0) (.seq (.ret (.con "NOUGHT" tZ))
 .skip) .skip)
 (.seq (.ifs (.cmp .Eq (.bin .BitAnd (.call 22 (.cons V1 .nil)) (.call 22 (.cons V2 .nil))) (.call 0 (.cons V0 .nil))) (.seq (.ret (.con "ONE" vP))
 .skip) .skip)
 (.seq (.ret (.con "NOTHING" qV))
 .skip)))
noncomputable def yH:Sx:=(.seq (.ifs (.cmp .Lt (.call 25 (.cons V1 (.cons V0 .nil))) (.call 24 (.cons V2 .nil))) (.seq (.ret (.con "ONE" vP))
 .skip) .skip)
 (.seq (.ifs (.cmp .GtE (.call 24 (.cons V1 .nil)) (.call 25 (.cons V2 (.cons V0 .nil)))) (.seq (.ret (.con "NOUGHT" tZ))
 .skip) .skip)
 (.seq (.ret (.con "NOTHING" qV))
 .skip)))
noncomputable def aEV:Sx:=(.seq (.setT (.many [3,4,5]) V0)
 (.seq (.set 2 (.bin .BitAnd (.bin .BitXor V3 V4) (.call 21 (.cons J1 (.cons V1 .nil)))))
 (.seq (.ret (.tup (.cons (.bin .BitXor V3 V2) (.cons (.bin .BitXor V4 V2) (.cons V5 .nil)))))
 .skip)))
noncomputable def aLc:Sx:=(.seq (.ifs (.cmp .Eq V0 (.str "same")) (.seq (.ret (.call 41 (.cons V1 (.cons V2 (.cons V3 .nil)))))
 .skip) .skip)
 (.seq (.ifs (.cmp .Eq V0 (.str "less")) (.seq (.ret (.call 42 (.cons V1 (.cons V2 (.cons V3 .nil)))))
 .skip) .skip)
 (.seq (.ret (.call 42 (.cons V1 (.cons (.call 43 (.cons V2 (.cons V1 .nil))) (.cons (.call 43 (.cons V3 (.cons V1 .nil))) .nil)))))
 .skip)))
noncomputable def yN:Sx:=(.seq (.ifs (.cmp .Eq (.ix V0 J1) J1) (.seq (.ret V1)
 .skip) .skip)
 (.seq (.ifs (.cmp .Eq (.ix V0 J0) J1) (.seq (.ret V2)
 .skip) .skip)
 (.seq (.ret (.tup (.cons (.bin .BitAnd (.ix V1 J0) (.ix V2 J0)) (.cons (.bin .BitAnd (.ix V1 J1) (.ix V2 J1)) (.cons (.blt .mn (.cons (.ix V1 J2) (.cons (.ix V2 J2) .nil))) .nil)))))
 .skip)))
noncomputable def aLI:Sx:=(.seq (.set 3 (.ix V0 J0))
 (.seq (.set 4 (.ix V0 J1))
 (.seq (.ifs (.cmp .Eq V3 (.str "in")) (.seq (.ret (.con "NOTHING" qV))
 .skip) .skip)
 (.seq (.ifs (.cmp .Eq V3 (.str "num")) (.seq (.ret (.call 33 (.cons V4 (.cons (.ix V0 J2) .nil))))
 .skip) .skip)
 (.seq (.ifs (.cmp .Eq V3 (.str "not")) (.seq (.ret (.tup (.cons (.ix (.ix V2 J0) J1) (.cons (.ix (.ix V2 J0) J0) (.cons (.ix (.ix V2 J0) J2) .nil)))))
 .skip) .skip)
 (.seq (.ifs (.cmp .In V3 (.con "SUMS" aCY)) (.seq (.ret (.call 32 (.cons V3 (.cons V4 (.cons (.ix V2 J0) (.cons (.ix V2 J1) .nil))))))
 .skip) .skip)
 (.seq (.ifs (.cmp .In V3 (.con "SHIFTS" pH)) (.seq (.ret (.call 39 (.cons V3 (.cons V4 (.cons (.ix V2 J0) (.cons (.ix V0 J3) .nil))))))
 .skip) .skip)
 (.seq (.ifs (.cmp .In V3 (.con "COMPARES" tN)) (.seq (.ret (.call 44 (.cons V3 (.cons (.ix V1 J0) (.cons (.ix V2 J0) (.cons (.ix V2 J1) .nil))))))
 .skip) .skip)
 (.seq (.ifs (.cmp .Eq V3 (.str "pick")) (.seq (.ret (.call 45 (.cons (.ix V2 J0) (.cons (.ix V2 J1) (.cons (.ix V2 J2) .nil)))))
 .skip) .skip)
 (.seq (.ifs (.cmp .In V3 (.tup (.cons (.str "and") (.cons (.str "or") (.cons (.str "xor") .nil))))) (.seq (.ret (.call 35 (.cons V3 (.cons (.ix V2 J0) (.cons (.ix V2 J1) .nil)))))
 .skip) .skip)
 (.seq (.ret (.call 40 (.cons V3 (.cons (.ix V1 J0) (.cons V4 (.cons (.ix V2 J0) .nil))))))
 .skip)))))))))))
noncomputable def aJc:Sx:=(.seq (.ret (.call 23 (.cons (.call 46 (.cons V0 (.cons V1 (.cons V2 .nil)))) (.cons (.ix V0 J1) .nil))))
 .skip)
noncomputable def xT:E:=(.it (.ix V0 J0))
noncomputable def xS:Sx:=(.seq (.expr (.app V2 (.call 47 (.cons V3 (.cons (.call 9 (.cons V3 (.cons V1 .nil))) (.cons (.call 9 (.cons V3 (.cons V2 .nil))) .nil))))))
 .skip)
noncomputable def aFf:Sx:=(.seq (.set 1 (.call 11 (.cons V0 .nil)))
 (.seq (.set 2 (.new (.lst .nil)))
 (.seq (.loop (.one 3) xT xS)
 (.seq (.ret (.blt .tup (.cons V2 .nil)))
 .skip))))
noncomputable def aIP:Sx:=(.seq (.ret (.cmp .Eq (.bin .BitAnd V0 (.un .Invert V1)) J0))
 .skip)
noncomputable def tK:Sx:=(.seq (.set 2 (.bin .BitAnd (.ix V0 J1) V1))
 (.seq (.ifs (.or (.cmp .Eq V2 J0) (.or (.cmp .NotEq (.bin .BitAnd V2 (.bin .Sub V2 J1)) J0) (.not (.call 49 (.cons V1 (.cons (.call 22 (.cons V0 .nil)) .nil)))))) (.seq (.ret .non)
 .skip) .skip)
 (.seq (.ret (.bin .Sub (.call 1 (.cons V2 .nil)) J1))
 .skip)))
noncomputable def pB:Sx:=(.seq (.set 4 (.ix V0 J0))
 (.seq (.ifs (.call 49 (.cons V2 (.cons (.call 22 (.cons V1 .nil)) .nil))) (.seq (.ret (.ix V1 J1))
 .skip) .skip)
 (.seq (.ifs (.and (.cmp .In V4 (.tup (.cons (.str "xor") (.cons (.str "sub") (.cons (.str "less") (.cons (.str "under") .nil)))))) (.cmp .Eq (.ix V3 J0) (.ix V3 J1))) (.seq (.ret J0)
 .skip) .skip)
 (.seq (.ifs (.and (.cmp .Eq V4 (.str "same")) (.cmp .Eq (.ix V3 J0) (.ix V3 J1))) (.seq (.ret J1)
 .skip) .skip)
 (.seq (.ret .non)
 .skip)))))
noncomputable def qP:Sx:=(.seq (.ifs (.cmp .Eq V0 (.str "and")) (.seq (.ret (.call 49 (.cons V2 (.cons (.ix V1 J1) .nil))))
 .skip) .skip)
 (.seq (.ifs (.cmp .In V0 (.tup (.cons (.str "or") (.cons (.str "xor") .nil)))) (.seq (.ret (.call 49 (.cons V2 (.cons (.ix V1 J0) .nil))))
 .skip) .skip)
 (.seq (.ifs (.cmp .In V0 (.tup (.cons (.str "add") (.cons (.str "sub") .nil)))) (.seq (.ret (.call 49 (.cons (.call 2 (.cons V2 .nil)) (.cons (.ix V1 J0) .nil))))
 .skip) .skip)
 (.seq (.ret (.and (.cmp .Eq V0 (.str "mul")) (.cmp .Eq (.call 50 (.cons V1 (.cons (.call 2 (.cons V2 .nil)) .nil))) J0)))
 .skip))))
noncomputable def tJ:Sx:=(.seq (.ifs (.or (.cmp .Eq (.ix V1 J1) (.ix V1 J2)) (.cmp .Eq (.ix V0 J1) J1)) (.seq (.ret J1)
 .skip) .skip)
 (.seq (.ret (.ite (.cmp .Eq (.ix V0 J0) J1) J2 .non))
 .skip))
noncomputable def gO:Sx:=(.seq (.set 5 (.ix V0 J0))
 (.seq (.ifs (.and (.cmp .In V5 (.tup (.cons (.str "and") (.cons (.str "or") .nil)))) (.cmp .Eq (.ix V4 J0) (.ix V4 J1))) (.seq (.ret J0)
 .skip) .skip)
 (.seq (.ifs (.cmp .Eq V5 (.str "pick")) (.seq (.ret (.call 53 (.cons (.ix V3 J0) (.cons V4 .nil))))
 .skip) .skip)
 (.seq (.ifs (.cmp .In V5 (.con "SHIFTS" pH)) (.seq (.ret (.ite (.cmp .Eq (.ix V0 J3) J0) J0 .non))
 .skip) .skip)
 (.seq (.ifs (.cmp .In V5 (.tup (.cons (.str "cut") (.cons (.str "wide") (.cons (.str "sign") .nil))))) (.seq (.ret (.ite (.cmp .Eq (.ix V2 J0) (.ix V0 J1)) J0 .non))
 .skip) .skip)
 (.seq (.ifs (.and (.cmp .Eq (.blt .len (.cons V4 .nil)) J2) (.call 52 (.cons V5 (.cons (.ix V3 J1) (.cons V1 .nil))))) (.seq (.ret J0)
 .skip) .skip)
 (.seq (.ifs (.and (.cmp .In V5 (.con "EXCHANGEABLE" aBE)) (.call 52 (.cons V5 (.cons (.ix V3 J0) (.cons V1 .nil))))) (.seq (.ret J1)
 .skip) .skip)
 (.seq (.ret .non)
 .skip))))))))
noncomputable def aBA:E:=(.it (.tup (.cons (.tup (.cons J0 (.cons J1 .nil))) (.cons (.tup (.cons J1 (.cons J0 .nil))) .nil))))
noncomputable def tE:Sx:=(.seq (.set 6 (.call 50 (.cons (.ix V2 V5) (.cons V1 .nil))))
 (.seq (.ifs (.cmp .IsNot V6 .non) (.seq (.ret (.tup (.cons (.str "left") (.cons (.ix V0 J1) (.cons (.ix V3 V4) (.cons V6 .nil))))))
 .skip) .skip)
 .skip))
noncomputable def pA:Sx:=(.seq (.loop (.many [4,5]) aBA tE)
 (.seq (.ret .non)
 .skip))
noncomputable def pC:Sx:=(.seq (.set 4 (.call 2 (.cons V1 .nil)))
 (.seq (.ifs (.cmp .Eq (.ix V0 J0) (.str "mul")) (.seq (.ret (.call 55 (.cons V0 (.cons V4 (.cons V2 (.cons V3 .nil))))))
 .skip) .skip)
 (.seq (.ifs (.and (.cmp .Eq (.ix V0 J0) (.str "add")) (.call 49 (.cons V4 (.cons (.bin .BitOr (.ix (.ix V2 J0) J0) (.ix (.ix V2 J1) J0)) .nil)))) (.seq (.ret (.bin .Add (.tup (.cons (.str "or") (.cons (.ix V0 J1) .nil))) V3))
 .skip) .skip)
 (.seq (.ifs (.and (.cmp .Eq (.ix V0 J0) (.str "sub")) (.call 49 (.cons V4 (.cons (.bin .BitOr (.ix (.ix V2 J1) J0) (.ix (.ix V2 J0) J1)) .nil)))) (.seq (.ret (.bin .Add (.tup (.cons (.str "xor") (.cons (.ix V0 J1) .nil))) V3))
 .skip) .skip)
 (.seq (.ret .non)
 .skip)))))
noncomputable def nY:Sx:=(.seq (.ifs (.cmp .Eq (.ix V0 J0) (.str "in")) (.seq (.ret (.tup (.cons (.str "kept") (.cons V0 (.cons .non .nil)))))
 .skip) .skip)
 (.seq (.ifs (.cmp .Eq V2 J0) (.seq (.ret (.tup (.cons (.str "gone") (.cons .non (.cons .non .nil)))))
 .skip) .skip)
 (.seq (.ifs (.cmp .Eq (.ix V0 J0) (.str "num")) (.seq (.ret (.tup (.cons (.str "kept") (.cons V0 (.cons .non .nil)))))
 .skip) .skip)
 (.seq (.set 6 (.call 51 (.cons V0 (.cons V1 (.cons V2 (.cons V5 .nil))))))
 (.seq (.ifs (.cmp .IsNot V6 .non) (.seq (.ret (.tup (.cons (.str "known") (.cons (.tup (.cons (.str "num") (.cons (.ix V0 J1) (.cons V6 .nil)))) (.cons .non .nil)))))
 .skip) .skip)
 (.seq (.set 7 (.call 54 (.cons V0 (.cons V2 (.cons V3 (.cons V4 (.cons V5 .nil)))))))
 (.seq (.ifs (.cmp .IsNot V7 .non) (.seq (.ret (.tup (.cons (.str "passed") (.cons .non (.cons (.ix V5 V7) .nil)))))
 .skip) .skip)
 (.seq (.set 8 (.call 56 (.cons V0 (.cons V2 (.cons V4 (.cons V5 .nil))))))
 (.seq (.ifs (.cmp .IsNot V8 .non) (.seq (.ret (.tup (.cons (.str "cheaper") (.cons V8 (.cons .non .nil)))))
 .skip) .skip)
 (.seq (.ret (.tup (.cons (.str "kept") (.cons (.call 8 (.cons V0 (.cons V5 .nil))) (.cons .non .nil)))))
 .skip))))))))))
noncomputable def yI:E:=(.comp (.ix V5 (.var 15)) (.one 15) (.it (.ix V0 J1)) .no)
noncomputable def yO:E:=(.zip3 (.ix V0 J0) V1 V2)
noncomputable def qT:Sx:=(.seq (.set 11 (.tup (.cons (.call 9 (.cons V8 (.cons V3 .nil))) (.cons (.call 9 (.cons V8 (.cons V1 .nil))) (.cons (.call 9 (.cons V8 (.cons V5 .nil))) .nil)))))
 (.seq (.setT (.many [12,13,14]) (.call 57 (.cons V8 (.cons V9 (.cons (.var 10) (.cons (.ix (.var 11) J0) (.cons (.ix (.var 11) J1) (.cons (.ix (.var 11) J2) .nil))))))))
 (.seq (.ifs (.cmp .IsNot (.var 13) .non) (.seq (.set 14 (.blt .len (.cons V4 .nil)))
 (.seq (.expr (.app V4 (.var 13)))
 .skip)) .skip)
 (.seq (.expr (.app V5 (.var 14)))
 (.seq (.expr (.app V6 (.var 12)))
 .skip)))))
noncomputable def aG0:Sx:=(.seq (.set 1 (.call 48 (.cons V0 .nil)))
 (.seq (.set 2 (.call 20 (.cons V0 (.cons V1 .nil))))
 (.seq (.set 3 (.call 11 (.cons V0 .nil)))
 (.seq (.set 4 (.new (.lst .nil)))
 (.seq (.set 5 (.new (.lst .nil)))
 (.seq (.set 6 (.new (.lst .nil)))
 (.seq (.loop (.many [8,9,10]) yO qT)
 (.seq (.set 7 (.blt .tup (.cons (.fz yI) .nil)))
 (.seq (.ret (.tup (.cons (.tup (.cons (.blt .tup (.cons V4 .nil)) (.cons V7 .nil))) (.cons (.blt .tup (.cons V6 .nil)) .nil))))
 .skip)))))))))
noncomputable def iI:Sx:=(.seq (.setT (.many [3,4]) (.sl V0 .no (.cons J2 .nil)))
 (.seq (.put V0 J1 (.bin .Add V4 J1))
 (.seq (.ifs (.and (.cmp .Lt (.bin .Add (.bin .FloorDiv V4 (.int 12)) J1) (.blt .len (.cons V3 .nil))) (.cmp .Eq (.bin .Mod (.ix V3 J0) J2) J1)) (.seq (.ifs (.cmp .Eq (.bin .Mod V4 (.int 12)) J0) (.seq (.put V0 J2 (.ix V3 (.bin .Add (.bin .FloorDiv V4 (.int 12)) J1)))
 .skip) .skip)
 (.seq (.set 5 (.bin .Mod (.ix V0 J2) V1))
 (.seq (.put V0 J2 (.bin .FloorDiv (.ix V0 J2) V1))
 (.seq (.ret V5)
 .skip)))) .skip)
 (.seq (.ifs (.cmp .Lt V4 (.blt .len (.cons V3 .nil))) (.seq (.ret (.bin .Mod (.ix V3 V4) V1))
 .skip) .skip)
 (.seq (.set 2 (.bin .Add (.bin .Mult V4 (.int 7919)) J5))
 (.seq (.ifs (.cmp .Gt (.blt .len (.cons (.ix V0 J0) .nil)) J0) (.seq (.set 2 (.bin .Add V2 (.bin .Mult (.ix (.ix V0 J0) (.bin .Mod (.bin .Mult V4 J7) (.blt .len (.cons (.ix V0 J0) .nil)))) (.bin .Add (.int 48271) V4))))
 .skip) .skip)
 (.seq (.set 2 (.bin .Mod (.bin .Mult (.bin .Mod V2 (.int 2147483629)) (.bin .Add V4 J3)) (.int 2147483629)))
 (.seq (.set 2 (.bin .Mod (.bin .Mult V2 V2) (.int 2147483587)))
 (.seq (.ret (.bin .Mod (.bin .Mod (.bin .Mult V2 V2) (.int 1999999973)) V1))
 .skip)))))))))
noncomputable def aBI:Sx:=(.seq (.ifs (.cmp .Lt V1 (.int 31)) (.seq (.ret (.call 59 (.cons V0 (.cons (.bin .LShift J1 V1) .nil))))
 .skip) .skip)
 (.seq (.ret (.bin .Add (.call 59 (.cons V0 (.cons (.bin .LShift J1 (.int 30)) .nil))) (.bin .LShift (.call 59 (.cons V0 (.cons (.bin .LShift J1 (.bin .Sub V1 (.int 30))) .nil))) (.int 30))))
 .skip))
noncomputable def aEO:Sx:=(.seq (.ret (.ix (.fz (.lst (.cons J1 (.cons (.int 64) (.cons (.bin .Add J1 (.call 59 (.cons V0 (.cons J8 .nil)))) (.cons (.bin .Add J1 (.call 59 (.cons V0 (.cons (.int 64) .nil)))) .nil)))))) (.call 59 (.cons V0 (.cons J4 .nil)))))
 .skip)
noncomputable def aB0:Sx:=(.seq (.set 2 (.call 59 (.cons V0 (.cons J5 .nil))))
 (.seq (.set 3 (.fz (.lst (.cons J0 (.cons (.bin .Sub (.bin .LShift J1 V1) J1) (.cons (.bin .LShift J1 (.call 59 (.cons V0 (.cons V1 .nil)))) (.cons (.bin .Sub (.bin .LShift J1 (.call 59 (.cons V0 (.cons V1 .nil)))) J1) .nil)))))))
 (.seq (.ifs (.cmp .Lt V2 J4) (.seq (.ret (.ix V3 V2))
 .skip) .skip)
 (.seq (.ret (.call 60 (.cons V0 (.cons V1 .nil))))
 .skip))))
noncomputable def tQ:Sx:=(.seq (.ifs (.cmp .Eq (.ix (.ix V1 V2) J1) V3) (.seq (.ret V2)
 .skip) .skip)
 (.seq (.set 4 (.ix (.fz (.lst (.cons (.str "wide") (.cons (.str "sign") .nil)))) (.call 59 (.cons V0 (.cons J2 .nil)))))
 (.seq (.ifs (.cmp .Gt (.ix (.ix V1 V2) J1) V3) (.seq (.set 4 (.str "cut"))
 .skip) .skip)
 (.seq (.expr (.app V1 (.tup (.cons V4 (.cons V3 (.cons V2 .nil))))))
 (.seq (.ret (.bin .Sub (.blt .len (.cons V1 .nil)) J1))
 .skip)))))
noncomputable def aKW:E:=(.comp V4 (.one 4) (.rng1 (.blt .len (.cons V1 .nil))) (.cmp .Eq (.ix (.ix V1 V4) J1) V2))
noncomputable def tH:Sx:=(.seq (.setC false 3 aKW)
 (.seq (.ifs (.and (.cmp .NotEq V3 (.fz (.lst .nil))) (.cmp .Gt (.call 59 (.cons V0 (.cons J4 .nil))) J0)) (.seq (.ret (.ix V3 (.bin .Sub (.bin .Sub (.blt .len (.cons V3 .nil)) J1) (.call 59 (.cons V0 (.cons (.blt .len (.cons V3 .nil)) .nil))))))
 .skip) .skip)
 (.seq (.ret (.call 63 (.cons V0 (.cons V1 (.cons (.call 59 (.cons V0 (.cons (.blt .len (.cons V1 .nil)) .nil))) (.cons V2 .nil))))))
 .skip)))
noncomputable def aBB:Sx:=(.seq (.set 3 (.call 59 (.cons V0 (.cons (.blt .len (.cons V1 .nil)) .nil))))
 (.seq (.set 4 (.ix (.ix V1 V3) J1))
 (.seq (.ifs (.cmp .Eq V2 (.str "cut")) (.seq (.ret (.tup (.cons (.str "cut") (.cons (.bin .Add J1 (.call 59 (.cons V0 (.cons V4 .nil)))) (.cons V3 .nil)))))
 .skip) .skip)
 (.seq (.ret (.tup (.cons V2 (.cons (.bin .Add V4 (.call 59 (.cons V0 (.cons (.bin .Sub (.int 65) V4) .nil)))) (.cons V3 .nil)))))
 .skip))))
noncomputable def aBM:Sx:=(.seq (.set 4 (.ix (.fz (.lst (.cons (.call 59 (.cons V0 (.cons V3 .nil))) (.cons (.call 59 (.cons V0 (.cons (.int 64) .nil))) .nil)))) (.bin .FloorDiv (.call 59 (.cons V0 (.cons J4 .nil))) J3)))
 (.seq (.ret (.tup (.cons V2 (.cons V3 (.cons (.call 64 (.cons V0 (.cons V1 (.cons V3 .nil)))) (.cons V4 .nil))))))
 .skip))
noncomputable def aBX:Sx:=(.seq (.set 4 (.call 64 (.cons V0 (.cons V1 (.cons V3 .nil)))))
 (.seq (.set 5 (.call 64 (.cons V0 (.cons V1 (.cons V3 .nil)))))
 (.seq (.ifs (.cmp .In V2 (.tup (.cons (.str "same") (.cons (.str "less") (.cons (.str "under") .nil))))) (.seq (.set 3 J1)
 .skip) .skip)
 (.seq (.ret (.tup (.cons V2 (.cons V3 (.cons V4 (.cons V5 .nil))))))
 .skip))))
noncomputable def jM:Sx:=(.seq (.set 2 (.fz (.lst (.cons (.str "in") (.cons (.str "num") (.cons (.str "num") (.cons (.str "not") (.cons (.str "and") (.cons (.str "or") (.cons (.str "xor") (.cons (.str "add") (.cons (.str "sub") (.cons (.str "mul") (.cons (.str "left") (.cons (.str "right") (.cons (.str "slide") (.cons (.str "cut") .nil)))))))))))))))))
 (.seq (.set 2 (.bin .Add V2 (.fz (.lst (.cons (.str "wide") (.cons (.str "sign") (.cons (.str "same") (.cons (.str "less") (.cons (.str "under") (.cons (.str "pick") .nil))))))))))
 (.seq (.set 3 (.ix V2 (.call 59 (.cons V0 (.cons (.int 20) .nil)))))
 (.seq (.set 4 (.ix (.ix V1 (.call 59 (.cons V0 (.cons (.blt .len (.cons V1 .nil)) .nil)))) J1))
 (.seq (.ifs (.cmp .Eq (.call 59 (.cons V0 (.cons J4 .nil))) J1) (.seq (.set 4 (.call 61 (.cons V0 .nil)))
 .skip) .skip)
 (.seq (.ifs (.cmp .Eq V3 (.str "in")) (.seq (.set 5 (.tup (.cons (.str "in") (.cons V4 .nil))))
 .skip) (.seq (.ifs (.cmp .Eq V3 (.str "num")) (.seq (.set 5 (.tup (.cons (.str "num") (.cons V4 (.cons (.call 62 (.cons V0 (.cons V4 .nil))) .nil)))))
 .skip) (.seq (.ifs (.cmp .Eq V3 (.str "not")) (.seq (.set 5 (.tup (.cons (.str "not") (.cons V4 (.cons (.call 64 (.cons V0 (.cons V1 (.cons V4 .nil)))) .nil)))))
 .skip) (.seq (.ifs (.cmp .In V3 (.tup (.cons (.str "left") (.cons (.str "right") (.cons (.str "slide") .nil))))) (.seq (.set 5 (.call 66 (.cons V0 (.cons V1 (.cons V3 (.cons V4 .nil))))))
 .skip) (.seq (.ifs (.cmp .In V3 (.tup (.cons (.str "cut") (.cons (.str "wide") (.cons (.str "sign") .nil))))) (.seq (.set 5 (.call 65 (.cons V0 (.cons V1 (.cons V3 .nil)))))
 .skip) (.seq (.ifs (.cmp .Eq V3 (.str "pick")) (.seq (.set 6 (.call 64 (.cons V0 (.cons V1 (.cons J1 .nil)))))
 (.seq (.set 5 (.bin .Add (.tup (.cons (.str "pick") (.cons V4 (.cons V6 .nil)))) (.sl (.call 67 (.cons V0 (.cons V1 (.cons V3 (.cons V4 .nil))))) (.cons J2 .nil) .no)))
 .skip)) (.seq (.set 5 (.call 67 (.cons V0 (.cons V1 (.cons V3 (.cons V4 .nil))))))
 .skip))
 .skip))
 .skip))
 .skip))
 .skip))
 .skip))
 (.seq (.expr (.app V1 V5))
 .skip)))))))
noncomputable def aBD:E:=(.rng1 (.ix (.fz (.lst (.cons (.call 59 (.cons V0 (.cons J3 .nil))) (.cons J7 .nil)))) (.blt .int (.cons (.cmp .Eq (.call 59 (.cons V0 (.cons J8 .nil))) J1) .nil))))
noncomputable def aBC:Sx:=(.seq (.expr (.app V6 (.call 59 (.cons V0 (.cons (.blt .len (.cons V3 .nil)) .nil)))))
 .skip)
noncomputable def xL:E:=(.rng1 V1)
noncomputable def xK:Sx:=(.seq (.ifs (.cmp .Lt (.blt .len (.cons V3 .nil)) (.int 37)) (.seq (.expr (.call 68 (.cons V0 (.cons V3 .nil))))
 .skip) .skip)
 .skip)
noncomputable def gP:Sx:=(.seq (.set 2 (.call 61 (.cons V0 .nil)))
 (.seq (.set 3 (.new (.lst (.cons (.tup (.cons (.str "in") (.cons V2 .nil))) .nil))))
 (.seq (.ifs (.cmp .Eq (.call 59 (.cons V0 (.cons J8 .nil))) J1) (.seq (.set 3 (.new (.lst (.cons (.tup (.cons (.str "num") (.cons V2 (.cons (.call 62 (.cons V0 (.cons V2 .nil))) .nil)))) .nil))))
 .skip) .skip)
 (.seq (.loop (.one 4) xL xK)
 (.seq (.set 5 (.fz (.lst (.cons (.bin .Sub (.blt .len (.cons V3 .nil)) J1) (.cons (.call 59 (.cons V0 (.cons (.blt .len (.cons V3 .nil)) .nil))) .nil)))))
 (.seq (.set 6 (.new (.lst (.cons (.ix V5 (.blt .int (.cons (.cmp .Eq (.call 59 (.cons V0 (.cons J4 .nil))) J1) .nil))) .nil))))
 (.seq (.loop (.one 4) aBD aBC)
 (.seq (.ret (.tup (.cons (.blt .tup (.cons V3 .nil)) (.cons (.blt .tup (.cons V6 .nil)) .nil))))
 .skip))))))))
noncomputable def aEp:E:=(.comp V1 (.one 1) (.rng1 (.int 64)) (.cmp .Eq (.bin .BitAnd (.bin .RShift V0 V1) J1) J1))
noncomputable def aE8:Sx:=(.seq (.ret (.fz aEp))
 .skip)
noncomputable def aFK:Sx:=(.seq (.ret (.fz (.lrg1 (.bin .Add (.blt .mx (.cons (.call 70 (.cons V0 .nil)) .nil)) J1))))
 .skip)
noncomputable def aEw:E:=(.comp (.cmp .Eq (.bin .BitAnd (.bin .RShift V0 V2) J1) J1) (.one 2) (.it V1) .no)
noncomputable def aFD:Sx:=(.seq (.ret (.blt .all (.cons (.fz aEw) .nil)))
 .skip)
noncomputable def aEk:E:=(.comp V3 (.one 3) (.it (.call 71 (.cons V1 .nil))) (.cmp .NotEq V3 (.ix V2 J0)))
noncomputable def xM:E:=(.comp V3 (.one 3) (.it (.call 71 (.cons V1 .nil))) (.cmp .Eq (.bin .BitAnd (.bin .RShift (.ix V0 J1) V3) J1) J1))
noncomputable def tI:Sx:=(.seq (.setC false 2 xM)
 (.seq (.ifs (.and (.cmp .Eq (.blt .len (.cons V2 .nil)) J1) (.call 72 (.cons (.ix V0 J0) (.cons (.fz aEk) .nil)))) (.seq (.ret (.ix V2 J0))
 .skip) .skip)
 (.seq (.ret (.un .USub J1))
 .skip)))
noncomputable def qO:Sx:=(.seq (.ifs (.cmp .Eq V0 (.str "and")) (.seq (.ret (.call 72 (.cons (.ix V1 J1) (.cons (.call 70 (.cons V2 .nil)) .nil))))
 .skip) .skip)
 (.seq (.ifs (.cmp .In V0 (.tup (.cons (.str "or") (.cons (.str "xor") .nil)))) (.seq (.ret (.call 72 (.cons (.ix V1 J0) (.cons (.call 70 (.cons V2 .nil)) .nil))))
 .skip) .skip)
 (.seq (.ifs (.cmp .In V0 (.tup (.cons (.str "add") (.cons (.str "sub") .nil)))) (.seq (.ret (.call 72 (.cons (.ix V1 J0) (.cons (.call 71 (.cons V2 .nil)) .nil))))
 .skip) .skip)
 (.seq (.ret (.and (.cmp .Eq V0 (.str "mul")) (.cmp .Eq (.call 73 (.cons V1 (.cons V2 .nil))) J0)))
 .skip))))
noncomputable def nN:Sx:=(.seq (.ifs (.call 72 (.cons (.bin .BitOr (.ix V1 J0) (.ix V1 J1)) (.cons (.call 70 (.cons V2 .nil)) .nil))) (.seq (.ret (.ix V1 J1))
 .skip) .skip)
 (.seq (.ifs (.and V3 (.cmp .In (.ix V0 J0) (.tup (.cons (.str "xor") (.cons (.str "sub") (.cons (.str "less") (.cons (.str "under") (.cons (.str "same") .nil)))))))) (.seq (.ret (.blt .int (.cons (.cmp .Eq (.ix V0 J0) (.str "same")) .nil)))
 .skip) .skip)
 (.seq (.ret .non)
 .skip)))
noncomputable def eY:Sx:=(.seq (.set 5 (.ix V0 J0))
 (.seq (.ifs (.cmp .Eq V5 (.str "pick")) (.seq (.ifs (.or (.cmp .Eq (.ix V4 J1) (.ix V4 J2)) (.cmp .Eq (.ix (.ix V2 J0) J1) J1)) (.seq (.ret (.ix V4 J1))
 .skip) .skip)
 (.seq (.ret (.ix (.fz (.lst (.cons .non (.cons (.ix V4 J2) .nil)))) (.blt .int (.cons (.cmp .Eq (.ix (.ix V2 J0) J0) J1) .nil))))
 .skip)) .skip)
 (.seq (.ifs (.or (.and (.cmp .In V5 (.tup (.cons (.str "left") (.cons (.str "right") (.cons (.str "slide") .nil))))) (.cmp .Eq (.ix V0 J3) J0)) (.and (.cmp .In V5 (.tup (.cons (.str "cut") (.cons (.str "wide") (.cons (.str "sign") .nil))))) (.cmp .Eq (.ix V0 J1) V1))) (.seq (.ret (.ix V4 J0))
 .skip) .skip)
 (.seq (.ifs (.cmp .Eq (.blt .len (.cons V4 .nil)) J2) (.seq (.ifs (.or (.and (.cmp .In V5 (.tup (.cons (.str "and") (.cons (.str "or") .nil)))) (.cmp .Eq (.ix V4 J0) (.ix V4 J1))) (.call 74 (.cons V5 (.cons (.ix V2 J1) (.cons V3 .nil))))) (.seq (.ret (.ix V4 J0))
 .skip) .skip)
 (.seq (.ifs (.and (.cmp .NotEq V5 (.str "sub")) (.call 74 (.cons V5 (.cons (.ix V2 J0) (.cons V3 .nil))))) (.seq (.ret (.ix V4 J1))
 .skip) .skip)
 .skip)) .skip)
 (.seq (.ret .non)
 .skip)))))
noncomputable def nO:E:=(.rng1 J2)
noncomputable def kQ:Sx:=(.seq (.set 5 (.call 73 (.cons (.ix V1 (.bin .Sub J1 V4)) (.cons V2 .nil))))
 (.seq (.ifs (.cmp .GtE V5 J0) (.seq (.ret (.tup (.cons (.str "left") (.cons (.ix V0 J1) (.cons (.ix V3 V4) (.cons V5 .nil))))))
 .skip) .skip)
 .skip))
noncomputable def mD:Sx:=(.seq (.ifs (.cmp .Eq (.ix V0 J0) (.str "mul")) (.seq (.loop (.one 4) nO kQ)
 .skip) .skip)
 (.seq (.ifs (.and (.cmp .Eq (.ix V0 J0) (.str "add")) (.call 72 (.cons (.bin .BitOr (.ix (.ix V1 J0) J0) (.ix (.ix V1 J1) J0)) (.cons (.call 71 (.cons V2 .nil)) .nil)))) (.seq (.ret (.bin .Add (.tup (.cons (.str "or") (.cons (.ix V0 J1) .nil))) V3))
 .skip) .skip)
 (.seq (.ifs (.and (.cmp .Eq (.ix V0 J0) (.str "sub")) (.call 72 (.cons (.bin .BitOr (.ix (.ix V1 J0) J1) (.ix (.ix V1 J1) J0)) (.cons (.call 71 (.cons V2 .nil)) .nil)))) (.seq (.ret (.bin .Add (.tup (.cons (.str "xor") (.cons (.ix V0 J1) .nil))) V3))
 .skip) .skip)
 (.seq (.ret .non)
 .skip))))
noncomputable def aEj:E:=(.comp (.ix V2 (.var 11)) (.one 11) (.it V6) .no)
noncomputable def iG:Sx:=(.seq (.set 5 (.ix (.ix V0 J0) V1))
 (.seq (.ifs (.or (.cmp .Eq (.ix V5 J0) (.str "in")) (.and (.cmp .Eq (.ix V5 J0) (.str "num")) (.cmp .Gt V3 J0))) (.seq (.ret (.tup (.cons V5 (.cons (.str "kept") .nil))))
 .skip) .skip)
 (.seq (.ifs (.cmp .Eq V3 J0) (.seq (.ret (.tup (.cons .non (.cons (.str "gone") .nil))))
 .skip) .skip)
 (.seq (.set 6 (.call 7 (.cons V5 .nil)))
 (.seq (.setC false 7 aEj)
 (.seq (.set 8 (.call 75 (.cons V5 (.cons (.ix V2 V1) (.cons V3 (.cons (.and (.cmp .Eq (.blt .len (.cons V4 .nil)) J2) (.cmp .Eq (.ix V4 J0) (.ix V4 J1))) .nil))))))
 (.seq (.ifs (.cmp .IsNot V8 .non) (.seq (.ret (.tup (.cons (.tup (.cons (.str "num") (.cons (.ix V5 J1) (.cons V8 .nil)))) (.cons (.str "known") .nil))))
 .skip) .skip)
 (.seq (.set 9 (.call 76 (.cons V5 (.cons (.ix (.ix (.ix V0 J0) (.ix V6 J0)) J1) (.cons V7 (.cons V3 (.cons V4 .nil)))))))
 (.seq (.ifs (.cmp .IsNot V9 .non) (.seq (.ret (.tup (.cons V9 (.cons (.str "passed") .nil))))
 .skip) .skip)
 (.seq (.set 10 (.call 77 (.cons V5 (.cons V7 (.cons V3 (.cons V4 .nil))))))
 (.seq (.ifs (.cmp .IsNot (.var 10) .non) (.seq (.ret (.tup (.cons (.var 10) (.cons (.str "cheaper") .nil))))
 .skip) .skip)
 (.seq (.ret (.tup (.cons (.bin .Add (.bin .Add (.sl V5 .no (.cons J2 .nil)) V4) (.sl V5 (.cons (.bin .Add J2 (.blt .len (.cons V4 .nil))) .nil) .no)) (.cons (.str "kept") .nil))))
 .skip))))))))))))
noncomputable def xR:E:=(.comp (.ix V4 V6) (.one 6) (.it (.ix V0 J1)) .no)
noncomputable def aEA:E:=(.comp (.ix V4 (.var 10)) (.one 10) (.it (.call 7 (.cons (.ix (.ix V0 J0) V6) .nil))) .no)
noncomputable def xP:E:=(.rng1 (.blt .len (.cons V2 .nil)))
noncomputable def qR:Sx:=(.seq (.set 7 (.blt .tup (.cons (.fz aEA) .nil)))
 (.seq (.setT (.many [8,9]) (.call 78 (.cons V0 (.cons V6 (.cons V1 (.cons (.ix V2 V6) (.cons V7 .nil)))))))
 (.seq (.expr (.app V5 V9))
 (.seq (.ifs (.isi V8 .tup) (.seq (.expr (.app V3 V8))
 (.seq (.set 8 (.bin .Sub (.blt .len (.cons V3 .nil)) J1))
 .skip)) .skip)
 (.seq (.expr (.app V4 V8))
 .skip)))))
noncomputable def aFL:Sx:=(.seq (.set 1 (.call 48 (.cons V0 .nil)))
 (.seq (.set 2 (.call 20 (.cons V0 (.cons V1 .nil))))
 (.seq (.set 3 (.new (.lst .nil)))
 (.seq (.set 4 (.new (.lst .nil)))
 (.seq (.set 5 (.new (.lst .nil)))
 (.seq (.loop (.one 6) xP qR)
 (.seq (.ret (.tup (.cons (.tup (.cons (.blt .tup (.cons V3 .nil)) (.cons (.blt .tup (.cons (.fz xR) .nil)) .nil))) (.cons (.blt .tup (.cons V5 .nil)) .nil))))
 .skip)))))))
noncomputable def aEo:E:=(.comp (.isi V2 .bool) (.one 2) (.it V1) .no)
noncomputable def xN:E:=(.it (.bin .Add (.ix (.ix V0 J0) J0) (.tup (.cons (.ix (.ix V0 J0) J1) .nil))))
noncomputable def tG:Sx:=(.seq (.ifs (.or (.not (.isi V1 .tup)) (.blt .any (.cons (.fz aEo) .nil))) (.seq (.ret (.bl false))
 .skip) .skip)
 .skip)
noncomputable def aET:Sx:=(.seq (.ifs (.or (.not (.isi V0 .tup)) (.or (.cmp .NotEq (.blt .len (.cons V0 .nil)) J2) (.or (.not (.isi (.ix V0 J0) .tup)) (.cmp .NotEq (.blt .len (.cons (.ix V0 J0) .nil)) J2)))) (.seq (.ret (.bl false))
 .skip) .skip)
 (.seq (.loop (.one 1) xN tG)
 (.seq (.ret (.bl true))
 .skip)))
noncomputable def iQ:Sx:=(.seq (.set 1 (.new (.lst (.cons V0 (.cons J0 (.cons J0 .nil))))))
 (.seq (.set 2 (.call 69 (.cons V1 (.cons (.bin .Add J1 (.blt .mn (.cons (.blt .len (.cons V0 .nil)) (.cons (.int 24) .nil)))) .nil))))
 (.seq (.set 3 (.call 58 (.cons V2 .nil)))
 (.seq (.ret (.and (.call 80 (.cons V3 .nil)) (.cmp .Eq V3 (.call 79 (.cons V2 .nil)))))
 .skip))))
noncomputable def fns:List Fn:=[
 {name:="full",np:=1,N:=["width"],body:=aIU,st:=top 1 },
 {name:="reach",np:=1,N:=["number"],body:=aH7,st:=top 2 },
 {name:="below",np:=1,N:=["number"],body:=aIr,st:=top 3 },
 {name:="low_run",np:=1,N:=["number"],body:=aF9,st:=top 4 },
 {name:="top_run",np:=2,N:=["number", "width"],body:=aGh,st:=top 5 },
 {name:="stretched",np:=3,N:=["number", "width", "wider", "top"],body:=aBS,st:=top 6 },
 {name:="shared_top",np:=3,N:=["least", "greatest", "width", "known", "ones"],body:=aEJ,st:=top 7 },
 {name:="operands",np:=1,N:=["row"],body:=aMd,st:=top 13 },
 {name:="with_operands",np:=2,N:=["row", "numbers"],body:=aEm,st:=top 14 },
 {name:="of_operands",np:=2,N:=["row", "values", "k"],body:=aEB,st:=top 15 },
 {name:="width_of",np:=2,N:=["program", "k", "rows"],body:=aFU,st:=top 16 },
 {name:="widths_of",np:=1,N:=["program", "row"],body:=aE9,st:=top 17 },
 {name:="settled_need",np:=3,N:=["first", "second", "mask"],body:=aEq,st:=top 19 },
 {name:="mul_need",np:=3,N:=["first", "second", "mask", "h", "u", "g"],body:=aFV,st:=top 20 },
 {name:="folded",np:=2,N:=["mask", "width"],body:=aCp,st:=top 21 },
 {name:="shift_need",np:=4,N:=["word", "width", "k", "mask"],body:=xZ,st:=top 22 },
 {name:="pick_need",np:=2,N:=["choice", "mask"],body:=yG,st:=top 23 },
 {name:="asking_need",np:=4,N:=["row", "widths", "facts", "mask", "word"],body:=aEC,st:=top 24 },
 {name:="need",np:=4,N:=["row", "widths", "facts", "mask"],body:=aC8,st:=top 25 },
 {name:="row_needs",np:=4,N:=["program", "facts", "k", "mask", "row", "widths", "needs", "operand"],body:=aFa,st:=top 27 },
 {name:="asked",np:=2,N:=["program", "facts", "masks", "out", "k", "rows", "outs", "operand", "mask"],body:=gE,st:=top 28 },
 {name:="top_mask",np:=2,N:=["count", "width"],body:=aFe,st:=top 30 },
 {name:="known_bits",np:=1,N:=["fact"],body:=aEN,st:=top 31 },
 {name:="closed",np:=2,N:=["fact", "width", "top", "noughts", "ones", "alike"],body:=uO,st:=top 32 },
 {name:="least",np:=1,N:=["fact"],body:=aIM,st:=top 33 },
 {name:="greatest",np:=2,N:=["fact", "width"],body:=aFy,st:=top 34 },
 {name:="outcome",np:=3,N:=["word", "one", "other"],body:=aM5,st:=top 36 },
 {name:="low_masks",np:=3,N:=["word", "one", "other", "low", "ones"],body:=aE4,st:=top 37 },
 {name:="low_noughts",np:=4,N:=["word", "width", "one", "other"],body:=xU,st:=top 38 },
 {name:="bounds",np:=4,N:=["word", "width", "one", "other", "lowest", "highest"],body:=zJ,st:=top 39 },
 {name:="top_masks",np:=4,N:=["word", "width", "one", "other", "lowest", "highest"],body:=yJ,st:=top 40 },
 {name:="sum_alike",np:=3,N:=["word", "one", "other"],body:=yM,st:=top 41 },
 {name:="sum_fact",np:=4,N:=["word", "width", "one", "other", "low", "top", "noughts"],body:=aFw,st:=top 42 },
 {name:="num_fact",np:=2,N:=["width", "number"],body:=aFs,st:=top 47 },
 {name:="unlike_bits",np:=2,N:=["one", "other"],body:=aEu,st:=top 48 },
 {name:="bitwise_fact",np:=3,N:=["word", "one", "other", "alike", "noughts"],body:=xO,st:=top 49 },
 {name:="left_fact",np:=3,N:=["width", "fact", "k", "noughts"],body:=aE3,st:=top 50 },
 {name:="right_fact",np:=3,N:=["width", "fact", "k", "noughts"],body:=aBO,st:=top 51 },
 {name:="slide_fact",np:=3,N:=["width", "fact", "k", "wider"],body:=aEK,st:=top 52 },
 {name:="shift_fact",np:=4,N:=["word", "width", "fact", "k"],body:=aLB,st:=top 53 },
 {name:="fit_fact",np:=4,N:=["word", "v", "w", "fact", "noughts", "ones", "alike"],body:=tU,st:=top 54 },
 {name:="same_fact",np:=3,N:=["width", "one", "other"],body:=yR,st:=top 55 },
 {name:="less_fact",np:=3,N:=["width", "one", "other"],body:=yH,st:=top 56 },
 {name:="top_turned",np:=2,N:=["fact", "width", "turning", "noughts", "ones", "alike"],body:=aEV,st:=top 57 },
 {name:="compare_fact",np:=4,N:=["word", "width", "one", "other"],body:=aLc,st:=top 58 },
 {name:="pick_fact",np:=3,N:=["choice", "one", "other"],body:=yN,st:=top 59 },
 {name:="open_fact",np:=3,N:=["row", "widths", "facts", "word", "width"],body:=aLI,st:=top 60 },
 {name:="rule",np:=3,N:=["row", "widths", "facts"],body:=aJc,st:=top 61 },
 {name:="facts_of",np:=1,N:=["program", "widths", "facts", "row"],body:=aFf,st:=top 62 },
 {name:="among",np:=2,N:=["mask", "other"],body:=aIP,st:=top 65 },
 {name:="single_bit",np:=2,N:=["fact", "mask", "ones"],body:=tK,st:=top 66 },
 {name:="known_number",np:=4,N:=["row", "fact", "mask", "places", "word"],body:=pB,st:=top 67 },
 {name:="changes_nothing",np:=3,N:=["word", "fact", "mask"],body:=qP,st:=top 68 },
 {name:="passed_side",np:=2,N:=["choice", "places"],body:=tJ,st:=top 69 },
 {name:="passed_operand",np:=5,N:=["row", "mask", "widths", "facts", "places", "word"],body:=gO,st:=top 70 },
 {name:="product_by_shift",np:=4,N:=["row", "low", "facts", "places", "one", "other", "k"],body:=pA,st:=top 71 },
 {name:="cheaper_row",np:=4,N:=["row", "mask", "facts", "places", "low"],body:=pC,st:=top 72 },
 {name:="trade",np:=6,N:=["row", "fact", "mask", "widths", "facts", "places", "number", "operand", "cheaper"],body:=nY,st:=top 73 },
 {name:="traded",np:=1,N:=["program", "facts", "masks", "widths", "rows", "places", "words", "outs", "row", "fact", "mask", "about", "word", "made", "place", "out"],body:=aG0,st:=top 74 },
 {name:="_law_draw",np:=2,N:=["_law_state", "_law_many", "_law_cell", "_law_script", "_law_k", "_law_digit"],body:=iI,st:=top 76 },
 {name:="_law_number",np:=2,N:=["_law_state", "_law_width_here"],body:=aBI,st:=top 77 },
 {name:="_law_width",np:=1,N:=["_law_state"],body:=aEO,st:=top 78 },
 {name:="_law_num",np:=2,N:=["_law_state", "_law_width_here", "_law_sort", "_law_some"],body:=aB0,st:=top 79 },
 {name:="_law_fit",np:=4,N:=["_law_state", "_law_rows", "_law_a", "_law_width_here", "_law_word"],body:=tQ,st:=top 80 },
 {name:="_law_operand",np:=3,N:=["_law_state", "_law_rows", "_law_width_here", "_law_some", "_law_k"],body:=tH,st:=top 81 },
 {name:="_law_turned_width",np:=3,N:=["_law_state", "_law_rows", "_law_word", "_law_a", "_law_width_here"],body:=aBB,st:=top 82 },
 {name:="_law_shift",np:=4,N:=["_law_state", "_law_rows", "_law_word", "_law_width_here", "_law_k"],body:=aBM,st:=top 83 },
 {name:="_law_pair",np:=4,N:=["_law_state", "_law_rows", "_law_word", "_law_width_here", "_law_a", "_law_b"],body:=aBX,st:=top 84 },
 {name:="_law_row",np:=2,N:=["_law_state", "_law_rows", "_law_some", "_law_word", "_law_width_here", "_law_row_here", "_law_c"],body:=jM,st:=top 85 },
 {name:="_law_program",np:=2,N:=["_law_state", "_law_most", "_law_width_here", "_law_rows", "_law_k", "_law_last", "_law_outs"],body:=gP,st:=top 86 },
 {name:="_law_bits",np:=1,N:=["_law_mask", "_law_i"],body:=aE8,st:=top 87 },
 {name:="_law_low",np:=1,N:=["_law_mask"],body:=aFK,st:=top 88 },
 {name:="_law_has",np:=2,N:=["_law_place", "_law_bits_here", "_law_i"],body:=aFD,st:=top 89 },
 {name:="_law_one_at",np:=2,N:=["_law_fact", "_law_mask", "_law_ones", "_law_i"],body:=tI,st:=top 90 },
 {name:="_law_tells_other",np:=3,N:=["_law_word", "_law_fact", "_law_mask"],body:=qO,st:=top 91 },
 {name:="_law_number_known",np:=4,N:=["_law_row_here", "_law_fact", "_law_mask", "_law_twice"],body:=nN,st:=top 92 },
 {name:="_law_side",np:=5,N:=["_law_row_here", "_law_width_here", "_law_facts", "_law_mask", "_law_news", "_law_word"],body:=eY,st:=top 93 },
 {name:="_law_lower",np:=4,N:=["_law_row_here", "_law_facts", "_law_mask", "_law_news", "_law_which", "_law_k"],body:=mD,st:=top 94 },
 {name:="_law_becomes",np:=5,N:=["_law_program_here", "_law_k", "_law_facts", "_law_mask", "_law_news", "_law_row_here", "_law_ahead", "_law_some", "_law_number_here", "_law_side_here", "_law_lower_here", "_law_a"],body:=iG,st:=top 95 },
 {name:="_law_due",np:=1,N:=["_law_program_here", "_law_facts", "_law_masks", "_law_rows", "_law_news", "_law_words", "_law_k", "_law_there", "_law_what", "_law_word", "_law_a"],body:=aFL,st:=top 96 },
 {name:="_law_shape",np:=1,N:=["_law_found", "_law_part", "_law_one"],body:=aET,st:=top 97 },
 {name:="law",np:=1,N:=["_law_script", "_law_state", "_law_program_here", "_law_found"],body:=iQ,st:=top 98 }]
noncomputable def bW(ns:List Int)(k:Nat)(x:Int):List D:=[.list (ns.map yAm),.int (k:Nat),.int x]
theorem aOt{α:Type}{S:List α}{n:Nat}{a v:α}(h:S[n]? = qq a):(S.set n v)[n]? = qq v:=yAx (gIm h).1
theorem aBY{α:Type}(S:List α)(n:Nat)(v:α):(S.set n v).take S.length=S.set n v:=by
 rw[yBu];rw[yBe];exact yAc _
theorem aIb(a b c:D):aO (.list [a,b,c]) (.int 0)=qq a:=rfl
theorem aIk(a b c:D):aO (.list [a,b,c]) (.int 2)=qq c:=rfl
theorem aVr(a b c:D):eS [a,b,c] qz (qq 2)=[a,b]:=rfl
theorem rH{ns:List Int}{k:Nat}(h:k<ns.length):aO (.list (ns.map yAm)) (.int (k:Nat))=qq (.int ns[k]):=jS (by rw[xAb,yAa h];rfl)
theorem uX(i:Int){w:Nat}(hw:0<w):∃ r:Nat,i%(w:Int)=(r:Int)/\r<w:=by
 have h0:=Int.emod_nonneg i (show(w:Int)≠0 by omega)
 have h1:=yGl i (show(0:Int)<(w:Int) by omega)
 exact⟨(i%(w:Int)).toNat,by omega,by omega⟩
theorem aTm:jJ 3 1=qq 1:=rfl
theorem aJn:jJ 3 2=qq 2:=rfl
theorem pI(ns:List Int):(ns.map yAm).length=ns.length:=yAb ..
noncomputable def qX:Sx:=match iI with
 | .seq _ (.seq _ (.seq _ r))=>r
 | _=>.skip
theorem qU(i p:Int)(hp:0<p)(hp2:p<=2147483647) : -(2^64)<i%p/\i%p<2^64:=by
 have h0:=Int.emod_nonneg i (show p≠0 by omega)
 have h1:=yGl i hp;exact⟨by omega,by omega⟩
theorem aM1(C:Calls)(n k m:Nat)(ns:List Int)(x:Int)(S:aC)(e2 e5:Option W)(hS:S[n]? = qq (qq (bW ns (k+1) x)))(hm:0<m)(hk:k<=100000) :
 ∃ r:Nat,r<m/\xs C qX [qq (.loc n),qq (.d (.int (m:Nat))),e2,qq (.d (.list (ns.map yAm))),qq (.d (.int (k:Nat))),e5] S=qq (.rt (.d (.int (r:Nat))),S):=by
 unfold bW at hS;have hm':(0:Int)<(m:Int):=by omega
 by_cases c1:k<ns.length
 ·have d1:decide ((k:Int)<((ns.length:Nat):Int))=true:=dqT (by omega)
  obtain⟨r,er,hr⟩:=uX ns[k] hm;refine⟨r,hr,?_⟩;simp only[gS2,qX,iI,dX,dU,pI,fA,d1,rH c1,fP hm',er]
 ·have d1:decide ((k:Int)<((ns.length:Nat):Int))=false:=dqF (by omega)
  have bJ:∀ c:Int,∃ r:Nat,r<m/\c%2147483629*((k:Int)+3)%2147483629*(c%2147483629*((k:Int)+3)%2147483629)%2147483587*(c%2147483629*((k:Int)+3)%2147483629*(c%2147483629*((k:Int)+3)%2147483629)%2147483587)%1999999973%(m:Int)=(r:Int):=λ c=>by
   obtain⟨r,er,hr⟩:=uX (c%2147483629*((k:Int)+3)%2147483629*(c%2147483629*((k:Int)+3)%2147483629)%2147483587*(c%2147483629*((k:Int)+3)%2147483629*(c%2147483629*((k:Int)+3)%2147483629)%2147483587)%1999999973) hm;exact⟨r,hr,er⟩
  by_cases c2:0<ns.length
  ·have d2:decide ((0:Int)<((ns.length:Nat):Int))=true:=dqT (by omega)
   obtain⟨q,eq,hq⟩:=uX ((k:Int)*7) c2;obtain⟨r,hr,er⟩:=bJ ((k:Int)*7919+5+ns[q]*(48271+(k:Int)));refine⟨r,hr,?_⟩;have s1:=qU ((k:Int)*7919+5+ns[q]*(48271+(k:Int))) 2147483629 (by decide) (by decide)
   have s2:=qU (((k:Int)*7919+5+ns[q]*(48271+(k:Int)))%2147483629*((k:Int)+3)) 2147483629 (by decide) (by decide)
   have s3:=qU (((k:Int)*7919+5+ns[q]*(48271+(k:Int)))%2147483629*((k:Int)+3)%2147483629*(((k:Int)*7919+5+ns[q]*(48271+(k:Int)))%2147483629*((k:Int)+3)%2147483629)) 2147483587 (by decide) (by decide)
   simp only[evs,qX,iI,dX,dU,pI,fA,d1,zM (i:=(k:Int)) (j:=7919) (by decide) (by decide),eD,hS,aIb,jP,d2,zM (i:=(k:Int)) (j:=7) (by decide) (by decide),fP (i:=(k:Int)*7) (j:=((ns.length:Nat):Int)) (by omega),eq,rH hq,
    zM (i:=ns[q]) (j:=48271+(k:Int)) (by omega) (by omega),fP (j:=2147483629) (by decide),pG s1.1 s1.2,pG s2.1 s2.2,fP (j:=2147483587) (by decide),pG s3.1 s3.2,fP (j:=1999999973) (by decide),fP hm',er]
  ·have d2:decide ((0:Int)<((ns.length:Nat):Int))=false:=dqF (by omega)
   obtain⟨r,hr,er⟩:=bJ ((k:Int)*7919+5);refine⟨r,hr,?_⟩;have s1:=qU ((k:Int)*7919+5) 2147483629 (by decide) (by decide)
   have s2:=qU (((k:Int)*7919+5)%2147483629*((k:Int)+3)) 2147483629 (by decide) (by decide)
   have s3:=qU (((k:Int)*7919+5)%2147483629*((k:Int)+3)%2147483629*(((k:Int)*7919+5)%2147483629*((k:Int)+3)%2147483629)) 2147483587 (by decide) (by decide)
   have hq1:=zM (i:=(k:Int)) (j:=7919) (by decide) (by decide)
   have hq2:=λ i=>fP (i:=i) (j:=2147483629) (by decide)
   have hq3:=λ i=>fP (i:=i) (j:=2147483587) (by decide)
   have hq4:=λ i=>fP (i:=i) (j:=1999999973) (by decide)
   simp only[gS2,qX,iI,dX,dU,pI,fA,d1,hq1,eD,hS,aIb,jP,d2,hq2,pG s1.1 s1.2,pG s2.1 s2.2,hq3,pG s3.1 s3.2,hq4,fP hm',er]
noncomputable def pO:Sx:=match iI with
 | .seq _ (.seq _ (.seq i _))=>i
 | _=>.skip
noncomputable def aCK:Sx:=match iI with
 | .seq _ (.seq p _)=>p
 | _=>.skip
noncomputable def zQ:Sx:=match iI with
 | .seq p _=>p
 | _=>.skip
theorem aPp(d n k m:Nat)(ns:List Int)(x:Int)(S:aC)(hS:S[n]? = qq (qq (bW ns k x)))(hm:0<m)(hm2:m<2^64)(hk:k<=100000) :
 ∃ (r:Nat) (x':Int),r<m/\cl fns (d+1) 59 [.loc n,.d (.int (m:Nat))] S=qq (.d (.int (r:Nat)),S.set n (qq (bW ns (k+1) x'))):=by
 have hm':(0:Int)<(m:Int):=by omega
 have hm2':(m:Int)<2^64:=by exact_mod_cast hm2
 have e1:(k:Int)/12+1=((k/12+1:Nat):Int):=by omega
 have e2:(k:Int)+1=((k+1:Nat):Int):=by omega
 have gs:=λ v=>aOt (v:=v) hS
 have start:(cZ (xs (aD fns d) zQ) (xs (aD fns d) aCK)) [qq (.loc n),qq (.d (.int (m:Nat))),qz,qz,qz,qz] S=qq (.nx [qq (.loc n),qq (.d (.int (m:Nat))),qz,qq (.d (.list (ns.map yAm))),qq (.d (.int (k:Nat))),qz],S.set n (qq (bW ns (k+1) x))):=by
  unfold bW at hS ⊢;simp only[gS3,zQ,aCK,iI,kE,oK,xF,hS,aVr,lK,jW,aTm,eD,e2]
 have fG:∀ (R:Option (Fl×aC)),cZ (xs (aD fns d) pO) (xs (aD fns d) qX) [qq (.loc n),qq (.d (.int (m:Nat))),qz,qq (.d (.list (ns.map yAm))),qq (.d (.int (k:Nat))),qz] (S.set n (qq (bW ns (k+1) x)))=R ->
  cl fns (d+1) 59 [.loc n,.d (.int (m:Nat))] S=R.bind λ p=>match p.1 with
   | .rt w=>lQ S.length p.2 w
   | .nx _=>qq (.d .none,p.2.take S.length)
   | _=>qz:=λ R hR=>by
  rw[aT rfl d _ S rfl,<- hR];simp only[cZ] at start ⊢;cases q:xs (aD fns d) zQ [qq (.loc n),qq (.d (.int (m:Nat))),qz,qz,qz,qz] S with
  | none=>rw[q] at start;cases start
  | some z =>
    obtain⟨fl,S1⟩:=z;rw[q] at start;simp only[oB] at start;cases fl with
    | nx e =>
      simp only at start;show((cZ (xs (aD fns d) zQ) (cZ (xs (aD fns d) aCK) (cZ (xs (aD fns d) pO) (xs (aD fns d) qX)))) [qq (.loc n),qq (.d (.int (m:Nat))),qz,qz,qz,qz] S).bind _=_;simp only[cZ,q,oB,start]
      all_goals rfl
    | rt w=>cases start
    | bk e=>cases start
    | ct e=>cases start
 have hS2:(S.set n (qq (bW ns (k+1) x)))[n]? = qq (qq (bW ns (k+1) x)):=gs _;have skip:xs (aD fns d) pO [qq (.loc n),qq (.d (.int (m:Nat))),qz,qq (.d (.list (ns.map yAm))),qq (.d (.int (k:Nat))),qz] (S.set n (qq (bW ns (k+1) x)))=qq (.nx [qq (.loc n),qq (.d (.int (m:Nat))),qz,qq (.d (.list (ns.map yAm))),qq (.d (.int (k:Nat))),qz],S.set n (qq (bW ns (k+1) x))) ->
  ∃ (r:Nat) (x':Int),r<m/\cl fns (d+1) 59 [.loc n,.d (.int (m:Nat))] S=qq (.d (.int (r:Nat)),S.set n (qq (bW ns (k+1) x'))):=λ h=>by
  obtain⟨r,hr,ht⟩:=aM1 (aD fns d) n k m ns x _ qz qz hS2 hm hk;refine⟨r,x,hr,?_⟩;rw[fG _ rfl];simp only[cZ,h,oB,ht,lQ,aBY]
 by_cases c1:k/12+1<ns.length
 ·have d1:decide (((k/12+1:Nat):Int)<((ns.length:Nat):Int))=true:=dqT (by omega)
  have i0:aO (.list (ns.map yAm)) (.int 0)=qq (.int ns[0]):=rH (k:=0) (by omega)
  rcases yDp (ns[0]%2==1) with c2 | c2
  ·rcases yDp ((k:Int)%12==0) with c3 | c3
   ·obtain⟨r,er,hr⟩:=uX ns[k/12+1] hm;refine⟨r,ns[k/12+1]/(m:Int),hr,?_⟩;rw[fG _ rfl];unfold bW at hS2 ⊢;have hq5:=nR (i:=(k:Int)) (j:=12) (by decide) (by decide)
    have hq6:=fP (i:=ns[0]) (j:=2) (by decide)
    have hq7:=fP (i:=(k:Int)) (j:=12) (by decide)
    simp only[gS2,pO,iI,lK,jW,aJn,eD,hq5,e1,dX,dU,pI,fA,d1,i0,hq6,aS,c2,hq7,c3,hS2,gs,yHi,rH c1,aIk,fP hm',er,nR hm' hm2',aBY]
   ·obtain⟨r,er,hr⟩:=uX x hm;refine⟨r,x/(m:Int),hr,?_⟩;rw[fG _ rfl];unfold bW at hS2 ⊢;have hq8:=nR (i:=(k:Int)) (j:=12) (by decide) (by decide)
    have hq9:=fP (i:=ns[0]) (j:=2) (by decide)
    have hq10:=fP (i:=(k:Int)) (j:=12) (by decide)
    simp only[gS2,pO,iI,lK,jW,aJn,eD,hq8,e1,dX,dU,pI,fA,d1,i0,hq9,aS,c2,hq10,c3,hS2,gs,yHi,aIk,fP hm',er,nR hm' hm2',aBY]
  ·apply skip;have hq11:=nR (i:=(k:Int)) (j:=12) (by decide) (by decide)
   have hq12:=fP (i:=ns[0]) (j:=2) (by decide)
   simp only[gS2,pO,iI,eD,hq11,e1,dX,dU,pI,fA,d1,i0,hq12,aS,c2]
 ·have d1:decide (((k/12+1:Nat):Int)<((ns.length:Nat):Int))=false:=dqF (by omega)
  apply skip;have hq13:=nR (i:=(k:Int)) (j:=12) (by decide) (by decide)
  simp only[gS2,pO,iI,eD,hq13,e1,dX,dU,pI,fA,d1]
inductive Wd where
 | «in» | num | not | and | or | xor | add | sub | mul | left | right | slide | cut | wide | sign | same | less | under | pick
 deriving DecidableEq
noncomputable def Wd.s:Wd->Str
 | .in => "in" | .num => "num" | .not => "not" | .and => "and" | .or => "or" | .xor => "xor" | .add => "add" | .sub => "sub" | .mul => "mul" | .left => "left" | .right => "right" | .slide => "slide"
 | .cut => "cut" | .wide => "wide" | .sign => "sign" | .same => "same" | .less => "less" | .under => "under" | .pick => "pick"
structure Rw where
 wd:Wd
 w:Nat
 args:List Nat
noncomputable def nD(n:Nat):D:=.int (n:Nat)
noncomputable def Rw.d(r:Rw):D:=.tuple (.str r.wd.s::nD r.w::r.args.map nD)
def gG(ws:List Nat)(r:Rw):Prop:=1<=r.w/\r.w<=64/\match r.wd,r.args with
 | .in,[]=>True
 | .num,[n]=>n<2^r.w
 | .not,[a]=>ws[a]? = qq r.w
 | .and,[a,b] | .or,[a,b] | .xor,[a,b] | .add,[a,b] | .sub,[a,b] | .mul,[a,b]=>ws[a]? = qq r.w/\ws[b]? = qq r.w
 | .left,[a,k] | .right,[a,k] | .slide,[a,k]=>ws[a]? = qq r.w/\k<64
 | .cut,[a]=>∃ v,ws[a]? = qq v/\r.w<=v
 | .wide,[a] | .sign,[a]=>∃ v,ws[a]? = qq v/\v<=r.w
 | .same,[a,b] | .less,[a,b] | .under,[a,b]=>r.w=1/\∃ v,ws[a]? = qq v/\ws[b]? = qq v
 | .pick,[c,a,b]=>ws[c]? = qq 1/\ws[a]? = qq r.w/\ws[b]? = qq r.w
 | _,_=>False
noncomputable def dM:List Nat->List Rw->Prop
 | _,[]=>True
 | ws,r::rs=>gG ws r/\dM (ws++[r.w]) rs
theorem aBL:∀ {rs:List Rw}{ws:List Nat}{r:Rw},dM ws rs->gG (ws++rs.map (·.w)) r->dM ws (rs++[r])
 | [],ws,r,_,h=>⟨by simpa using h,True.intro⟩
 | q::rs,ws,r,⟨h1,h2⟩,h=>⟨h1,aBL h2 (by simpa using h)⟩
noncomputable def aP(S:aC)(n p:Nat)(ns:List Int)(k:Nat)(x:Int)(rs:List Rw):aC:=(S.set n (qq (bW ns k x))).set p (qq (rs.map Rw.d))
section
variable {S : aC}{n p : Nat}{ns : List Int}{k : Nat}{x : Int}{rs : List Rw}
structure At0(S:aC)(n p:Nat):Prop where
 hn:n<S.length
 ne:n≠p
structure At(S:aC)(n p:Nat):Prop extends At0 S n p where
 hp:p<S.length
theorem At0.state(h:At0 S n p):(aP S n p ns k x rs)[n]? = qq (qq (bW ns k x)):=by
 unfold aP;rw[yAy h.ne.symm,yAx h.hn]
theorem At.rows(h:At S n p):(aP S n p ns k x rs)[p]? = qq (qq (rs.map Rw.d)):=by
 unfold aP;rw[yAx (by rw[yBe];exact h.hp)]
theorem At.rowsT(h:At S n p)(T:aC):(aP S n p ns k x rs++T)[p]? = qq (qq (rs.map Rw.d)):=by
 rw[xAn (by simp[aP];exact h.hp)]
 exact h.rows
theorem At0.len(h:At0 S n p):(aP S n p ns k x rs).length=S.length:=by simp[aP]
theorem At0.take(h:At0 S n p)(k':Nat)(x':Int)(aN:List Rw):(aP S n p ns k' x' aN).take (aP S n p ns k x rs).length=aP S n p ns k' x' aN:=by
 rw[h.len,yBu];rw[h.len];exact yAc _
theorem At0.put(h:At0 S n p)(k':Nat)(x':Int):(aP S n p ns k x rs).set n (qq (bW ns k' x'))=aP S n p ns k' x' rs:=by
 unfold aP;rw[List.set_comm _ _ h.ne.symm,yHi]
theorem At.putR(h:At S n p)(r:Rw):(aP S n p ns k x rs).set p (qq (rs.map Rw.d++[r.d]))=aP S n p ns k x (rs++[r]):=by
 unfold aP;rw[yHi,yAz];rfl
end
section
variable {S : aC}{n p : Nat}{ns : List Int}{k : Nat}{x : Int}{rs : List Rw}
theorem gD(h:At0 S n p)(d m:Nat)(hm:0<m)(hm2:m<2^64)(hk:k<=100000):∃ (r:Nat) (x':Int),r<m/\cl fns (d+1) 59 [.loc n,.d (.int (m:Nat))] (aP S n p ns k x rs)=qq (.d (.int (r:Nat)),aP S n p ns (k+1) x' rs):=by
 obtain⟨r,x',hr,e⟩:=aPp d n k m ns x _ h.state hm hm2 hk;exact⟨r,x',hr,by rw[e,h.put]⟩
theorem gX(h:At0 S n p)(d m:Nat){i:Int}(hi:i=(m:Nat))(hm:0<m)(hm2:m<2^64)(hk:k<=100000):∃ (r:Nat) (x':Int),r<m/\cl fns (d+1) 59 [.loc n,.d (.int i)] (aP S n p ns k x rs)=qq (.d (.int (r:Nat)),aP S n p ns (k+1) x' rs):=by
 subst hi;exact gD h d m hm hm2 hk
theorem aGt{w:Nat}(h:w<64):2^w<2^64:=yCq (by decide) h
theorem aMO(h:At0 S n p)(d w:Nat)(hw:w<=64)(hk:k<=99000):∃ (r k':Nat) (x':Int),r<2^w/\k'<=k+2/\cl fns (d+2) 60 [.loc n,.d (.int (w:Nat))] (aP S n p ns k x rs)=qq (.d (.int (r:Nat)),aP S n p ns k' x' rs):=by
 by_cases c:w<31
 ·have d1:decide ((w:Int)<31)=true:=dqT (by omega)
  obtain⟨r,x',hr,e⟩:=gD (ns:=ns) (k:=k) (x:=x) (rs:=rs) h d (2^w) (uH w) (aGt (by omega)) (by omega)
  refine⟨r,k+1,x',hr,by omega,?_⟩
  rw[aT rfl (d+1) _ _ rfl];have hq14:=iJ (show w<=100000 by omega)
  simp only[gR1,aBI,fA,d1,hq14,e,h.take]
 ·have d1:decide ((w:Int)<31)=false:=dqF (by omega)
  have e1:(w:Int)-30=((w-30:Nat):Int):=by omega
  have s30:=iJ (w:=30) (by decide)
  rw[show((30:Nat):Int)=30 from rfl] at s30
  obtain⟨r,x',hr,e⟩:=gD (ns:=ns) (k:=k) (x:=x) (rs:=rs) h d (2^30) (by decide) (by decide) (by omega)
  obtain⟨q,x2,hq,e'⟩:=gD (ns:=ns) (k:=k+1) (x:=x') (rs:=rs) h d (2^(w-30)) (uH _) (aGt (by omega)) (by omega)
  have hb:r+q*2^30<2^w:=by
   have e3:(2:Nat)^w=2^(w-30)*2^30:=by rw[<- yGw,show w-30+30=w by omega]
   have h3:(q+1)*2^30<=2^(w-30)*2^30:=Nat.mul_le_mul_right _ hq;rw[Nat.add_mul] at h3;omega
  have sh:bR .LShift (.int (q:Nat)) (.int 30)=qq (.int ((q*2^30:Nat):Int)):=uQ (n:=q) (a:=w-30) (k:=30) hq (by omega)
  have ad:(r:Int)+((q*2^30:Nat):Int)=((r+q*2^30:Nat):Int):=(Int.natCast_add _ _).symm;refine⟨r+q*2^30,k+2,x2,hb,by omega,?_⟩
  rw[aT rfl (d+1) _ _ rfl];have hq15:=iJ (show w-30<=100000 by omega)
  simp only[gR1,aBI,fA,d1,s30,e,cH,e1,hq15,e',sh,eD,ad,h.take]
end
theorem at4(a b c e:D){r:Nat}(h1:r<4):∃ x,(x=a\/x=b\/x=c\/x=e)/\aO (.list [a,b,c,e]) (.int (r:Nat))=qq x:=by
 have:r=0\/r=1\/r=2\/r=3:=by omega
 rcases this with rfl | rfl | rfl | rfl
 ·exact⟨a,.inl rfl,rfl⟩
 ·exact⟨b,.inr (.inl rfl),rfl⟩
 ·exact⟨c,.inr (.inr (.inl rfl)),rfl⟩
 ·exact⟨e,.inr (.inr (.inr rfl)),rfl⟩
section
variable {S : aC}{n p : Nat}{ns : List Int}{k : Nat}{x : Int}{rs : List Rw}
theorem aF2(h:At0 S n p)(d:Nat)(hk:k<=99000):∃ (w:Nat) (x':Int),1<=w/\w<=64/\cl fns (d+2) 61 [.loc n] (aP S n p ns k x rs)=qq (.d (.int (w:Nat)),aP S n p ns (k+3) x' rs):=by
 obtain⟨r1,x1,h1,e1⟩:=gX (ns:=ns) (k:=k) (x:=x) (rs:=rs) h d 8 (i:=8) rfl (by decide) (by decide) (by omega)
 obtain⟨r2,x2,h2,e2⟩:=gX (ns:=ns) (k:=k+1) (x:=x1) (rs:=rs) h d 64 (i:=64) rfl (by decide) (by decide) (by omega)
 obtain⟨r3,x3,h3,e3⟩:=gX (ns:=ns) (k:=k+2) (x:=x2) (rs:=rs) h d 4 (i:=4) rfl (by decide) (by decide) (by omega)
 have a1:(1:Int)+(r1:Int)=((1+r1:Nat):Int):=by omega
 have a2:(1:Int)+(r2:Int)=((1+r2:Nat):Int):=by omega
 obtain⟨y,hy,e⟩:=at4 (.int 1) (.int 64) (.int ((1+r1:Nat):Int)) (.int ((1+r2:Nat):Int)) h3;obtain⟨w,cG,bX,rfl⟩:∃ w:Nat,1<=w/\w<=64/\y=.int (w:Nat):=by
  rcases hy with rfl | rfl | rfl | rfl
  ·exact⟨1,by decide,by decide,rfl⟩
  ·exact⟨64,by decide,by decide,rfl⟩
  ·exact⟨_,by omega,by omega,rfl⟩
  ·exact⟨_,by omega,by omega,rfl⟩
 refine⟨w,x3,cG,bX,?_⟩;rw[aT rfl (d+1) _ _ rfl];simp only[gR1,aEO,e1,e2,e3,eD,a1,a2,e,h.take]
end
theorem aDa(a b:D):aO (.list [a,b]) (.int ((0:Nat):Int))=qq a:=rfl
theorem aDi(a b:D):aO (.list [a,b]) (.int ((1:Nat):Int))=qq b:=rfl
theorem aHs{t:Tg}{fb:FS}(P:Nat->aY->aC->Prop):∀ (ds:List D) (i:Nat) (env:aY) (S:aC),P i env S->(∀ j d env S,i<=j->j<i+ds.length->P j env S->∃ e1 aM S',t.put d env=qq e1/\fb e1 S=qq (.nx aM,S')/\P (j+1) aM S') ->
 ∃ aM S',fU t fb ds env S=qq (.nx aM,S')/\P (i+ds.length) aM S'
 | [],i,env,S,h0,_=>⟨env,S,rfl,h0⟩
 | d::ds,i,env,S,h0,h=>by
   obtain⟨e1,aM,S',h1,h2,h3⟩:=h i d env S (yAc _) (by simp) h0
   obtain⟨env2,S2,h4,h5⟩:=aHs P ds (i+1) aM S' h3 λ j d' env S a b=>h j d' env S (by omega) (by simp at b ⊢;omega)
   refine⟨env2,S2,by simp only[fU,h1,oB,h2];exact h4,?_⟩
   have:i+(d::ds).length=i+1+ds.length:=by simp;omega
   rw[this];exact h5
theorem aIc{t:Tg}{fi:FL}{fb:FS}{env:aY}{S S1:aC}{ds:List D}(P:Nat->aY->aC->Prop)(hi:fi env S=qq (ds,S1))(h0:P 0 env S1)(h:∀ j d env S,j<ds.length->P j env S->∃ e1 aM S',t.put d env=qq e1/\fb e1 S=qq (.nx aM,S')/\P (j+1) aM S') :
 ∃ aM S',dA t fi fb env S=qq (.nx aM,S')/\P ds.length aM S':=by
 obtain⟨aM,S',h1,h2⟩:=aHs (t:=t) (fb:=fb) P ds 0 env S1 h0 λ j d env S _ b=>h j d env S (by omega)
 exact⟨aM,S',by unfold dA;rw[hi,oB];exact h1,by simpa using h2⟩
theorem b2i(b:Bool):∃ q:Nat,q<2/\(if b then (1:Int) else 0)=(q:Int):=by
 cases b
 ·exact⟨0,by decide,rfl⟩
 ·exact⟨1,by decide,rfl⟩
theorem at2(a b:D){r:Nat}(h1:r<2):∃ x,(x=a\/x=b)/\aO (.list [a,b]) (.int (r:Nat))=qq x:=by
 have:r=0\/r=1:=by omega
 rcases this with rfl | rfl
 ·exact⟨a,.inl rfl,rfl⟩
 ·exact⟨b,.inr rfl,rfl⟩
theorem eZ{C:Calls}{a r:Sx}{env e1:aY}{S S1:aC}(h:xs C a env S=qq (.nx e1,S1)):xs C (.seq a r) env S=xs C r e1 S1:=by simp only[iW,cZ,h,oB]
theorem aKs(ns:List Int)(k:Nat)(x:Int):aP [qz] 0 1 ns k x []=[qq (bW ns k x)]:=rfl
theorem at1:At0 [qz] 0 1:=⟨by decide,by decide⟩
noncomputable abbrev s0(ns:List Int)(k:Nat)(x:Int):aC:=[qq (bW ns k x)]
section
variable {ns : List Int}{k : Nat}{x : Int}
end
theorem aCk(a:Nat):bR .BitAnd (.int (a:Nat)) (.int 1)=qq (.int ((a&&&1:Nat):Int)):=cX a 1
theorem bT(n:Nat):(((n:Nat):Int)==0)=(n==0):=by
 rw[yFd,beq_iff_eq,beq_iff_eq];omega
section
variable {S : aC}{n p : Nat}{ns : List Int}{k : Nat}{x : Int}{rs : List Rw}
theorem aH1(h:At0 S n p)(d w:Nat)(hw:1<=w)(bX:w<=64)(hk:k<=98000):∃ (r k':Nat) (x':Int),r<2^w/\k'<=k+5/\cl fns (d+3) 62 [.loc n,.d (.int (w:Nat))] (aP S n p ns k x rs)=qq (.d (.int (r:Nat)),aP S n p ns k' x' rs):=by
 have hw3:w<2^64:=by omega
 have hp:=uH w;obtain⟨r1,x1,h1,e1⟩:=gX (ns:=ns) (k:=k) (x:=x) (rs:=rs) h (d+1) 5 (i:=5) rfl (by decide) (by decide) (by omega)
 obtain⟨r2,x2,h2,e2⟩:=gD (ns:=ns) (k:=k+1) (x:=x1) (rs:=rs) h (d+1) w (by omega) hw3 (by omega)
 obtain⟨r3,x3,h3,e3⟩:=gD (ns:=ns) (k:=k+2) (x:=x2) (rs:=rs) h (d+1) w (by omega) hw3 (by omega)
 by_cases c:r1<4
 ·have d1:decide ((r1:Int)<4)=true:=dqT (by omega)
  obtain⟨y,hy,e⟩:=at4 (.int 0) (.int ((2^w-1:Nat):Int)) (.int ((2^r2:Nat):Int)) (.int ((2^r3-1:Nat):Int)) c;obtain⟨q,hq,rfl⟩:∃ q:Nat,q<2^w/\y=.int (q:Nat):=by
   have l2:2^r2<2^w:=yCq (by decide) h2
   have l3:2^r3<2^w:=yCq (by decide) h3
   rcases hy with rfl | rfl | rfl | rfl
   ·exact⟨0,hp,rfl⟩
   ·exact⟨_,by omega,rfl⟩
   ·exact⟨_,l2,rfl⟩
   ·exact⟨_,by omega,rfl⟩
  refine⟨q,k+3,x3,hq,by omega,?_⟩
  rw[aT rfl (d+2) _ _ rfl];have hq16:=iJ (show w<=100000 by omega)
  have hq17:=iJ (show r2<=100000 by omega)
  have hq18:=iJ (show r3<=100000 by omega)
  simp only[gR1,aB0,e1,hq16,cH,aB6,e2,hq17,e3,hq18,fA,d1,e,h.take]
 ·have d1:decide ((r1:Int)<4)=false:=dqF (by omega)
  obtain⟨r,k',x',hr,hk',e⟩:=aMO (ns:=ns) (k:=k+3) (x:=x3) (rs:=rs) h d w bX (by omega)
  refine⟨r,k',x',hr,by omega,?_⟩
  rw[aT rfl (d+2) _ _ rfl];have hq19:=iJ (show w<=100000 by omega)
  have hq20:=iJ (show r2<=100000 by omega)
  have hq21:=iJ (show r3<=100000 by omega)
  simp only[gR1,aB0,e1,hq19,cH,aB6,e2,hq20,e3,hq21,fA,d1,e,h.take]
end
theorem aIa:∀ L:List Nat,yCi (L.map nD)=true
 | []=>rfl
 | a::r=>by
   have ih:=aIa r;simp only[yBa,yCi,ih,yBh];rfl
theorem aF7:∀ L:List Nat,yCb (L.map nD)=0
 | []=>rfl
 | a::r=>by
   have ih:=aF7 r;simp only[yBa,yCb,ih];rfl
theorem aQ8(L:List Nat):aJ .NotEq (.list (L.map nD)) (.list [])=qq (.bool (!L.isEmpty)):=by
 have h1:(yHm (L.map nD)).canLay0=true:=aIa L;have h2:(yHm (L.map nD)).depth<=60:=by
  show yCb (L.map nD)+1<=60;rw[aF7];decide
 unfold aJ sR;simp only[];rw[if_pos ⟨h1,rfl,h2⟩];cases L<;>rfl
theorem eK(r:Rw):aO r.d (.int 1)=qq (.int (r.w:Nat)):=gQ (xs:=.str r.wd.s::nD r.w::r.args.map nD) (k:=1) rfl
noncomputable def wdE(a b:Wd):Bool:=match aJ .Eq (.str a.s) (.str b.s) with
 | some (.bool c)=>c==decide (a=b)
 | _=>false
theorem aQE(a b:Wd):wdE a b=true:=by
 have h:∀ i:Fin 19,∀ j:Fin 19,wdE (Wd.ofNat i) (Wd.ofNat j)=true:=by decide +kernel
 have e:∀ a:Wd,∃ i:Fin 19,Wd.ofNat i=a:=λ a=>⟨⟨a.ctorIdx,by cases a<;>decide⟩,Wd.ofNat_ctorIdx a⟩
 obtain⟨i,rfl⟩:=e a;obtain⟨j,rfl⟩:=e b;exact h i j
theorem bH(a b:Wd):aJ .Eq (.str a.s) (.str b.s)=qq (.bool (decide (a=b))):=by
 have h:=aQE a b;unfold wdE at h
 split at h
 ·rename_i c e;rw[e,eq_of_beq h]
 ·cases h
theorem tY(a:Wd):aJ .In (.str a.s) (.tuple [.str "left",.str "right",.str "slide"])=qq (.bool (decide (a=.left\/a=.right\/a=.slide))):=by cases a<;>rfl
theorem aIG(a:Wd):aJ .In (.str a.s) (.tuple [.str "cut",.str "wide",.str "sign"])=qq (.bool (decide (a=.cut\/a=.wide\/a=.sign))):=by cases a<;>rfl
theorem zN(a:Wd):aJ .In (.str a.s) (.tuple [.str "same",.str "less",.str "under"])=qq (.bool (decide (a=.same\/a=.less\/a=.under))):=by cases a<;>rfl
theorem bQ{C:Calls}{c:E}{t cT:Sx}{env:aY}{S S1:aC}{r:Option (Fl×aC)}(h:tv C c env S=qq (false,S1))(k:xs C cT env S1=r):xs C (.seq (.ifs c t .skip) cT) env S=r:=by
 rw[<- k];simp only[iW,rP,aHu,cZ,nL,sF,h,oB,yAt,if_false]
theorem dW{C:Calls}{c:E}{t e cT:Sx}{env:aY}{S S1 S2:aC}{w:W}(h:tv C c env S=qq (true,S1))(k:xs C t env S1=qq (.rt w,S2)):xs C (.seq (.ifs c t e) cT) env S=qq (.rt w,S2):=by
 simp only[iW,rP,cZ,nL,h,oB,if_true,k]
theorem cS{C:Calls}{e:E}{cT:Sx}{env:aY}{S S1:aC}{w:W}(h:ev C e env S=qq (w,S1)):xs C (.seq (.ret e) cT) env S=qq (.rt w,S1):=by
 simp only[iW,aAe,cZ,mW,h,oB]
theorem eJ{C:Calls}{i:Nat}{e:E}{cT:Sx}{env aM:aY}{S S1:aC}{w:W}{r:Option (Fl×aC)}(h:ev C e env S=qq (w,S1))(he:env.set i (qq w)=aM)(k:xs C cT aM S1=r):xs C (.seq (.set i e) cT) env S=r:=by
 subst he;rw[<- k];simp only[iW,aAb,cZ,jE,h,oB]
theorem fB{fs:List Fn}{f:Nat}{F:Fn}(h:fs[f]? = qq F)(d:Nat){ws:List W}{env:aY}{S S1:aC}{x:D}(hw:ws.length=F.np)(he:ws.map qq++yAd (F.N.length-ws.length) qz=env)(hS:S1.take S.length=S1)(k:xs (aD fs d) F.body env S=qq (.rt (.d x),S1)):cl fs (d+1) f ws S=qq (.d x,S1):=by
 subst he;rw[aT h d ws S hw];simp only[fD,k,oB,lQ,hS]
theorem dN{C:Calls}{i:Nat}{x:Str}{env:aY}{S:aC}{a:D}{b:Bool}(h:env[i]? = qq (qq (.d a)))(hc:aJ .Eq a (.str x)=qq (.bool b)):tv C (.cmp .Eq (.var i) (.str x)) env S=qq (b,S):=by
 simp only[gS0,h,hc]
theorem jU{C:Calls}{i:Nat}{e:E}{env:aY}{S:aC}{a t:D}{b:Bool}(h:env[i]? = qq (qq (.d a)))(he:ev C e env S=qq (.d t,S))(hc:aJ .In a t=qq (.bool b)):tv C (.cmp .In (.var i) e) env S=qq (b,S):=by
 simp only[gS0,h,he,hc]
noncomputable def bM:Sx->Sx
 | .seq _ b=>b
 | x=>x
noncomputable def cP:Sx->Sx
 | .seq a _=>a
 | x=>x
theorem rR{C:Calls}{c:E}{a b:Sx}{env:aY}{S S1:aC}{r:Option (Fl×aC)}(h:tv C c env S=qq (true,S1))(k:xs C a env S1=r):xs C (.ifs c a b) env S=r:=by
 rw[<- k];simp only[rP,nL,h,oB,if_true]
theorem aI4{C:Calls}{c:E}{a b:Sx}{env:aY}{S S1:aC}{r:Option (Fl×aC)}(h:tv C c env S=qq (false,S1))(k:xs C b env S1=r):xs C (.ifs c a b) env S=r:=by
 rw[<- k];simp only[rP,nL,h,oB,yAt,if_false]
theorem aTF{C:Calls}{a b:Sx}{env e1:aY}{S S1:aC}{r:Option (Fl×aC)}(h:xs C a env S=qq (.nx e1,S1))(k:xs C b e1 S1=r):xs C (.seq a b) env S=r:=by
 rw[eZ h];exact k
theorem aSB{C:Calls}{a:Sx}{env e1:aY}{S S1:aC}(h:xs C a env S=qq (.nx e1,S1)):xs C (.seq a .skip) env S=qq (.nx e1,S1):=aTF h rfl
theorem pS{C:Calls}{i:Nat}{e:E}{env:aY}{S S1:aC}{w:W}(h:ev C e env S=qq (w,S1)):xs C (.seq (.set i e) .skip) env S=qq (.nx (env.set i (qq w)),S1):=eJ h rfl rfl
theorem vY{C:Calls}{s:Sx}{c:E}{a b:Sx}{env r:aY}{S S1:aC}(hs:s=.ifs c a (.seq b .skip))(h:tv C c env S=qq (false,S))(k:xs C b env S=qq (.nx r,S1)):xs C s env S=qq (.nx r,S1):=by
 rw[hs];exact aI4 h (aSB k)
namespace GP
section
variable {S : aC}{n p : Nat}{ns : List Int}{k : Nat}{x : Int}{rs : List Rw}
theorem aAo{a:Nat}{r:Rw}(h:rs[a]? = qq r):aO (.list (rs.map Rw.d)) (.int (a:Nat))=qq r.d:=jS (by rw[xAb,h];rfl)
theorem rows_len(rs:List Rw):(rs.map Rw.d).length=rs.length:=yAb ..
theorem aGN(h:At S n p)(hl:rs.length<=1000)(r:Rw):dP (aP S n p ns k x rs) (.loc p) (.d r.d)=qq (.d .none,aP S n p ns k x (rs++[r])):=by
 unfold dP;simp only[h.rows];rw[if_pos (by rw[rows_len,zj];omega),h.putR]
structure Opd(rs aN:List Rw)(a w:Nat):Prop where
 ext:∃ t,aN=rs++t/\t.length<=1
 ok:dM [] aN
 wd:(aN.map (·.w))[a]? = qq w
theorem oR{a:Nat}{r:Rw}(h:rs[a]? = qq r):(rs.map (·.w))[a]? = qq r.w:=by rw[xAb,h];rfl
theorem aIl(h:At S n p)(d a w:Nat)(hr:dM [] rs)(ha:a<rs.length)(hl:rs.length<=100)(hw:1<=w)(bX:w<=64)(hk:k<=99000) :
 ∃ (a' k':Nat) (x':Int) (aN:List Rw),Opd rs aN a' w/\k'<=k+1/\cl fns (d+2) 63 [.loc n,.loc p,.d (.int (a:Nat)),.d (.int (w:Nat))] (aP S n p ns k x rs)=qq (.d (.int (a':Nat)),aP S n p ns k' x' aN):=by
 obtain⟨r,hra⟩:∃ r,rs[a]? = qq r:=⟨rs[a],yAa ha⟩;have ga:=aAo hra
 by_cases c:r.w=w
 ·refine⟨a,k,x,rs,⟨⟨[],by simp,by simp⟩,hr,by rw[oR hra,c]⟩,by omega,?_⟩
  rw[aT rfl (d+1) _ _ rfl];simp only[gR1,tQ,h.rows,ga,eK,aS,c,beq_self_eq_true,h.take]
 ·have c':(((r.w:Nat):Int)==((w:Nat):Int))=false:=by
   rw[beq_eq_false_iff_ne];intro z;exact c (by exact_mod_cast z)
  obtain⟨q,x',hq,e⟩:=gX (ns:=ns) (k:=k) (x:=x) (rs:=rs) h.toAt0 d 2 (i:=2) rfl (by decide) (by decide) (by omega)
  have bJ:∀ wd:Wd,gG ([]++rs.map (·.w)) ⟨wd,w,[a]⟩->Opd rs (rs++[⟨wd,w,[a]⟩]) rs.length w:=λ wd ok=>⟨⟨_,rfl,yAc _⟩,aBL hr ok,by simp⟩
  have aAY:∀ r:Rw,((rs++[r]).length:Int)-1=((rs.length:Nat):Int):=λ r=>by simp
  have ap:∀ wd:Wd,dP (aP S n p ns (k+1) x' rs) (.loc p) (.d (.tuple [.str wd.s,.int (w:Nat),.int (a:Nat)]))=qq (.d .none,aP S n p ns (k+1) x' (rs++[⟨wd,w,[a]⟩])):=λ wd=>aGN h (by omega) ⟨wd,w,[a]⟩
  by_cases c2:w<r.w
  ·have d2:decide (((w:Nat):Int)<((r.w:Nat):Int))=true:=dqT (by omega)
   refine⟨rs.length,k+1,x',_,bJ .cut ⟨hw,bX,r.w,by simpa using oR hra,yDz c2⟩,by omega,?_⟩
   have ap':=ap .cut;simp only[Wd.s] at ap';have:q=0\/q=1:=by omega
   rw[aT rfl (d+1) _ _ rfl];rcases this with rfl | rfl
   all_goals simp only[evs,fD,tQ,h.rows,ga,eK,aS,c',e,aDa,aDi,jP,d2,hZ,ap',dX,dU,rows_len,cH,aAY,h.take]
  ·have d2:decide (((w:Nat):Int)<((r.w:Nat):Int))=false:=dqF (by omega)
   have:q=0\/q=1:=by omega
   rcases this with rfl | rfl
   ·refine⟨rs.length,k+1,x',_,bJ .wide ⟨hw,bX,r.w,by simpa using oR hra,yFu c2⟩,by omega,?_⟩
    have ap':=ap .wide;simp only[Wd.s] at ap';rw[aT rfl (d+1) _ _ rfl];simp only[gR1,tQ,h.rows,ga,eK,aS,c',e,aDa,jP,d2,hZ,ap',dX,dU,rows_len,cH,aAY,h.take]
   ·refine⟨rs.length,k+1,x',_,bJ .sign ⟨hw,bX,r.w,by simpa using oR hra,yFu c2⟩,by omega,?_⟩
    have ap':=ap .sign;simp only[Wd.s] at ap';rw[aT rfl (d+1) _ _ rfl];simp only[gR1,tQ,h.rows,ga,eK,aS,c',e,aDi,jP,d2,hZ,ap',dX,dU,rows_len,cH,aAY,h.take]
end
section
variable {S : aC}{n p : Nat}{ns : List Int}{k : Nat}{x : Int}{rs : List Rw}
theorem aBV:∀ {rs:List Rw}{ws:List Nat}{a:Nat}{r:Rw},dM ws rs->rs[a]? = qq r->1<=r.w/\r.w<=64
 | q::rs,ws,0,r,⟨h1,_⟩,e=>by
   have e':q=r:=by simpa using e
   subst e';exact⟨h1.1,h1.2.1⟩
 | q::rs,ws,a+1,r,⟨_,h2⟩,e=>aBV h2 (by simpa using e)
 | [],_,_,_,_,e=>by simp at e
noncomputable def uF:Sx:=match tH with
 | .seq _ r=>r
 | _=>.skip
theorem tO(h:At S n p)(d w:Nat)(hr:dM [] rs)(h0:0<rs.length)(hl:rs.length<=100)(hw:1<=w)(bX:w<=64)(hk:k<=98000) :
 ∃ (a k':Nat) (x':Int) (aN:List Rw),Opd rs aN a w/\k'<=k+3/\cl fns (d+3) 64 [.loc n,.loc p,.d (.int (w:Nat))] (aP S n p ns k x rs)=qq (.d (.int (a:Nat)),aP S n p ns k' x' aN):=by
 have hc:gR (.one 4) (lv (aD fns (d+2)) (.rng1 (.blt .len (.cons (.var 1) .nil)))) (tv (aD fns (d+2)) (.cmp .Eq (.ix (.ix (.var 1) (.var 4)) (.int 1)) (.var 2))) (ev (aD fns (d+2)) (.var 4)) [qq (.loc n),qq (.loc p),qq (.d (.int (w:Nat))),qz,qz] (aP S n p ns k x rs)
  = qq (((yAo rs.length).filter λ j=>(rs.map (·.w))[j]?==qq w).map nD,aP S n p ns k x rs):=by
  refine aNj nD nD (λ j=>(rs.map (·.w))[j]?==qq w) (yAo rs.length) ?_ (by rw[yBn,zj];omega) (λ j hj=>?_)
  ·simp only[rY,rA,rB,rC];refine qS ?_ (by omega)
   simp only[gS0,h.rows,dX,dU,rows_len]
  ·have hj':j<rs.length:=by simpa using hj
   obtain⟨r,hrj⟩:∃ r,rs[j]? = qq r:=⟨rs[j],yAa hj'⟩;have hb:((rs.map (·.w))[j]?==qq w)=(((r.w:Nat):Int)==((w:Nat):Int)):=by
    rw[oR hrj,yFd];simp;omega
   refine⟨_,rfl,λ aH=>?_,λ _ aH=>?_⟩
   ·rw[hb];simp only[gS0,clr,yBv,yDx,nD,h.rowsT,aAo hrj,eK,aS]
   ·simp only[gS0,clr,yBv,yDx,nD]
 generalize hL:(yAo rs.length).filter (λ j=>(rs.map (·.w))[j]?==qq w)=L at hc
 have hmem:∀ a∈L,(rs.map (·.w))[a]? = qq w:=λ a ha=>by
  rw[<- hL] at ha;simpa using (List.mem_filter.mp ha).2
 have cF:L.length<=rs.length:=by
  rw[<- hL];have:=yEj (λ j=>(rs.map (·.w))[j]?==qq w) (yAo rs.length)
  simpa using this
 have set:xs (aD fns (d+2)) (.setC false 3 (.comp (.var 4) (.one 4) (.rng1 (.blt .len (.cons (.var 1) .nil))) (.cmp .Eq (.ix (.ix (.var 1) (.var 4)) (.int 1)) (.var 2)))) [qq (.loc n),qq (.loc p),qq (.d (.int (w:Nat))),qz,qz] (aP S n p ns k x rs)=qq (.nx [qq (.loc n),qq (.loc p),qq (.d (.int (w:Nat))),qq (.d (.list (L.map nD))),qz],aP S n p ns k x rs):=by
  simp only[aHR,jE,cO];show((gR _ _ _ _ _ _).bind _).bind _=_;rw[hc];simp only[gS0,True]
 have fG:∀ R,xs (aD fns (d+2)) uF [qq (.loc n),qq (.loc p),qq (.d (.int (w:Nat))),qq (.d (.list (L.map nD))),qz] (aP S n p ns k x rs)=R->cl fns (d+3) 64 [.loc n,.loc p,.d (.int (w:Nat))] (aP S n p ns k x rs)=R.bind λ q=>match q.1 with
  | .rt w=>lQ (aP S n p ns k x rs).length q.2 w
  | .nx _=>qq (.d .none,q.2.take (aP S n p ns k x rs).length)
  | _=>qz:=λ R hR=>by
  rw[aT rfl (d+2) _ _ rfl,<- hR];show((cZ (xs (aD fns (d+2)) (.setC false 3 (.comp (.var 4) (.one 4) (.rng1 (.blt .len (.cons (.var 1) .nil))) (.cmp .Eq (.ix (.ix (.var 1) (.var 4)) (.int 1)) (.var 2))))) (xs (aD fns (d+2)) uF)) [qq (.loc n),qq (.loc p),qq (.d (.int (w:Nat))),qz,qz] (aP S n p ns k x rs)).bind _=_;simp only[cZ,set,oB]
  all_goals rfl
 rw[fG _ rfl];clear fG set hc;have hr64:rs.length<2^64:=by omega
 have nn:=aQ8 L;have ll:(L.map nD).length=L.length:=yAb ..;rcases yDp L.isEmpty with hE | hE
 ·rw[hE] at nn;obtain⟨q,x1,hq,e1⟩:=gD (ns:=ns) (k:=k) (x:=x) (rs:=rs) h.toAt0 (d+1) rs.length h0 hr64 (by omega)
  obtain⟨a,k',x',aN,ho,hk',e2⟩:=aIl (ns:=ns) (k:=k+1) (x:=x1) h d q w hr hq hl hw bX (by omega)
  refine⟨a,k',x',aN,ho,by omega,?_⟩
  simp only[gS2,uF,tH,nn,h.rows,dX,dU,rows_len,e1,e2,h.take]
 ·rw[hE] at nn;have hL0:0<L.length:=by
   cases L with
   | nil=>cases hE
   | cons b r=>simp
  obtain⟨q4,x1,hq4,e1⟩:=gX (ns:=ns) (k:=k) (x:=x) (rs:=rs) h.toAt0 (d+1) 4 (i:=4) rfl (by decide) (by decide) (by omega)
  by_cases c:0<q4
  ·have d1:decide ((0:Int)<(q4:Int))=true:=dqT (by omega)
   obtain⟨q,x2,hq,e2⟩:=gD (ns:=ns) (k:=k+1) (x:=x1) (rs:=rs) h.toAt0 (d+1) L.length hL0 (by omega) (by omega)
   have e3:((L.length:Nat):Int)-1-(q:Int)=((L.length-1-q:Nat):Int):=by omega
   obtain⟨a,ha⟩:∃ a,L[L.length-1-q]? = qq a:=⟨L[L.length-1-q],yAa (by omega)⟩
   have ga:aO (.list (L.map nD)) (.int ((L.length-1-q:Nat):Int))=qq (.int (a:Nat)):=jS (by rw[xAb,ha];rfl)
   refine⟨a,k+2,x2,rs,⟨⟨[],by simp,by simp⟩,hr,hmem a (xAl ha)⟩,by omega,?_⟩
   simp only[gS2,uF,tH,nn,e1,jP,d1,dX,dU,ll,cH,e2,e3,ga,h.take]
  ·have d1:decide ((0:Int)<(q4:Int))=false:=dqF (by omega)
   obtain⟨q,x2,hq,e2⟩:=gD (ns:=ns) (k:=k+1) (x:=x1) (rs:=rs) h.toAt0 (d+1) rs.length h0 hr64 (by omega)
   obtain⟨a,k',x',aN,ho,hk',e3⟩:=aIl (ns:=ns) (k:=k+2) (x:=x2) h d q w hr hq hl hw bX (by omega)
   refine⟨a,k',x',aN,ho,by omega,?_⟩
   simp only[gS2,uF,tH,nn,e1,jP,d1,h.rows,dX,dU,rows_len,e2,e3,h.take]
end
section
variable {S : aC}{n p : Nat}{ns : List Int}{k : Nat}{x : Int}{rs : List Rw}
theorem yY(h:At S n p)(d:Nat)(wd:Wd)(bD:wd=.cut\/wd=.wide\/wd=.sign)(hr:dM [] rs)(h0:0<rs.length)(hl:rs.length<=100)(hk:k<=98000) :
 ∃ (r:Rw) (x':Int),gG (rs.map (·.w)) r/\cl fns (d+2) 65 [.loc n,.loc p,.d (.str wd.s)] (aP S n p ns k x rs)=qq (.d r.d,aP S n p ns (k+2) x' rs):=by
 obtain⟨a,x1,ha,e1⟩:=gD (ns:=ns) (k:=k) (x:=x) (rs:=rs) h.toAt0 d rs.length h0 (by omega) (by omega)
 obtain⟨r,hra⟩:∃ r,rs[a]? = qq r:=⟨rs[a],yAa ha⟩;obtain⟨cG,bX⟩:=aBV hr hra;have ga:=aAo hra;have cw:=bH wd .cut;rw[show Wd.cut.s=("cut" : Str) from rfl] at cw
 have e65:(65:Int)-(r.w:Int)=((65-r.w:Nat):Int):=by omega
 by_cases c:wd=.cut
 ·subst c;obtain⟨q,x2,hq,e2⟩:=gD (ns:=ns) (k:=k+1) (x:=x1) (rs:=rs) h.toAt0 d r.w (by omega) (by omega) (by omega)
  have a1:(1:Int)+(q:Int)=((1+q:Nat):Int):=by omega
  refine⟨⟨.cut,1+q,[a]⟩,x2,⟨by show 1<=1+q;omega,by show 1+q<=64;omega,r.w,oR hra,by show 1+q<=r.w;omega⟩,?_⟩
  rw[aT rfl (d+1) _ _ rfl];simp only[gR1,aBB,h.rows,dX,dU,rows_len,e1,ga,eK,cw,decide_true,e2,eD,a1,h.take]
 ·obtain⟨q,x2,hq,e2⟩:=gD (ns:=ns) (k:=k+1) (x:=x1) (rs:=rs) h.toAt0 d (65-r.w) (by omega) (by omega) (by omega)
  have a1:(r.w:Int)+(q:Int)=((r.w+q:Nat):Int):=by omega
  rw[dqF c] at cw;have ok:gG (rs.map (·.w)) ⟨wd,r.w+q,[a]⟩:=by
   refine⟨by show 1<=r.w+q;omega,by show r.w+q<=64;omega,?_⟩
   rcases bD with rfl | rfl | rfl
   ·exact absurd rfl c
   ·exact⟨r.w,oR hra,by show r.w<=r.w+q;omega⟩
   ·exact⟨r.w,oR hra,by show r.w<=r.w+q;omega⟩
  refine⟨⟨wd,r.w+q,[a]⟩,x2,ok,?_⟩;rw[aT rfl (d+1) _ _ rfl];simp only[gR1,aBB,h.rows,dX,dU,rows_len,e1,ga,eK,cw,cH,e65,e2,eD,a1,h.take]
theorem Opd.len{rs aN:List Rw}{a w:Nat}(o:Opd rs aN a w):rs.length<=aN.length/\aN.length<=rs.length+1:=by
 obtain⟨t,rfl,h⟩:=o.ext;simp;omega
theorem Opd.keep{rs aN:List Rw}{a w b v:Nat}(o:Opd rs aN a w)(h:(rs.map (·.w))[b]? = qq v):(aN.map (·.w))[b]? = qq v:=by
 obtain⟨t,rfl,_⟩:=o.ext;rw[yAz,xAn (gIm h).1];exact h
theorem aB9(h:At S n p)(d w:Nat)(wd:Wd)(bD:wd=.left\/wd=.right\/wd=.slide)(hr:dM [] rs)(h0:0<rs.length)(hl:rs.length<=90)(hw:1<=w)(bX:w<=64)(hk:k<=97000) :
 ∃ (r:Rw) (k':Nat) (x':Int) (aN:List Rw),dM [] aN/\rs.length<=aN.length/\aN.length<=rs.length+1/\gG (aN.map (·.w)) r/\k'<=k+6/\cl fns (d+4) 66 [.loc n,.loc p,.d (.str wd.s),.d (.int (w:Nat))] (aP S n p ns k x rs)=qq (.d r.d,aP S n p ns k' x' aN):=by
 obtain⟨q1,x1,h1,e1⟩:=gD (ns:=ns) (k:=k) (x:=x) (rs:=rs) h.toAt0 (d+2) w (by omega) (by omega) (by omega)
 obtain⟨q2,x2,h2,e2⟩:=gX (ns:=ns) (k:=k+1) (x:=x1) (rs:=rs) h.toAt0 (d+2) 64 (i:=64) rfl (by decide) (by decide) (by omega)
 obtain⟨q3,x3,h3,e3⟩:=gX (ns:=ns) (k:=k+2) (x:=x2) (rs:=rs) h.toAt0 (d+2) 4 (i:=4) rfl (by decide) (by decide) (by omega)
 obtain⟨a,k',x',aN,ho,hk',e4⟩:=tO (ns:=ns) (k:=k+3) (x:=x3) h d w hr h0 (by omega) hw bX (by omega)
 have bJ:∀ kk:Nat,kk<64->gG (aN.map (·.w)) ⟨wd,w,[a,kk]⟩:=λ kk hkk=>by
  refine⟨hw,bX,?_⟩;rcases bD with rfl | rfl | rfl<;>exact⟨ho.wd,hkk⟩
 have hq:(q3:Int)/3=((0:Nat):Int)\/(q3:Int)/3=((1:Nat):Int):=by omega
 rcases hq with hq | hq
 ·refine⟨⟨wd,w,[a,q1]⟩,k',x',aN,ho.ok,ho.len.1,ho.len.2,bJ q1 (by omega),by omega,?_⟩
  rw[aT rfl (d+3) _ _ rfl];have hq22:=nR (i:=(q3:Int)) (j:=3) (by decide) (by decide)
  simp only[gR1,aBM,e1,e2,e3,hq22,hq,aDa,e4,h.take]
 ·refine⟨⟨wd,w,[a,q2]⟩,k',x',aN,ho.ok,ho.len.1,ho.len.2,bJ q2 (by omega),by omega,?_⟩
  rw[aT rfl (d+3) _ _ rfl];have hq23:=nR (i:=(q3:Int)) (j:=3) (by decide) (by decide)
  simp only[gR1,aBM,e1,e2,e3,hq23,hq,aDi,e4,h.take]
noncomputable def vO(wd:Wd)(w:Nat):Nat:=if (wd=.same\/wd=.less\/wd=.under) then 1 else w
theorem aG1(h:At S n p)(d w:Nat)(wd:Wd)(hr:dM [] rs)(h0:0<rs.length)(hl:rs.length<=90)(hw:1<=w)(bX:w<=64)(hk:k<=97000) :
 ∃ (a b k':Nat) (x':Int) (aN:List Rw),dM [] aN/\(∃ t,aN=rs++t/\t.length<=2)/\(aN.map (·.w))[a]? = qq w/\(aN.map (·.w))[b]? = qq w/\k'<=k+6 /\
  cl fns (d+4) 67 [.loc n,.loc p,.d (.str wd.s),.d (.int (w:Nat))] (aP S n p ns k x rs)=qq (.d (.tuple [.str wd.s,.int (vO wd w:Nat),.int (a:Nat),.int (b:Nat)]),aP S n p ns k' x' aN):=by
 obtain⟨a,k1,x1,rs1,o1,hk1,e1⟩:=tO (ns:=ns) (k:=k) (x:=x) h d w hr h0 (by omega) hw bX (by omega)
 have l1:=o1.len;obtain⟨b,k2,x2,rs2,o2,hk2,e2⟩:=tO (ns:=ns) (k:=k1) (x:=x1) h d w o1.ok (by omega) (by omega) hw bX (by omega)
 refine⟨a,b,k2,x2,rs2,o2.ok,?_,o2.keep o1.wd,o2.wd,by omega,?_⟩
 ·obtain⟨t1,rfl,ht1⟩:=o1.ext;obtain⟨t2,rfl,ht2⟩:=o2.ext;exact⟨t1++t2,by simp,by simp;omega⟩
 ·rw[aT rfl (d+3) _ _ rfl]
  by_cases c:wd=.same\/wd=.less\/wd=.under
  ·have is:=zN wd;rw[dqT c] at is;have pw:vO wd w=1:=if_pos c;simp only[gR1,aBX,e1,e2,is,pw,h.take]
  ·have is:=zN wd;rw[dqF c] at is;have pw:vO wd w=w:=if_neg c;simp only[gR1,aBX,e1,e2,is,pw,h.take]
end
noncomputable def dY(k:Nat):Sx:=match jM with
 | .seq a1 (.seq a2 (.seq a3 (.seq a4 (.seq a5 (.seq a6 (.seq a7 _))))))=>[a1,a2,a3,a4,a5,a6,a7].getD k .skip
 | _=>.skip
theorem aMU:jM=.seq (dY 0) (.seq (dY 1) (.seq (dY 2) (.seq (dY 3) (.seq (dY 4) (.seq (dY 5) (.seq (dY 6) .skip)))))):=rfl
theorem aUN(a b c e f:D):bR .Add (.tuple [a,b,c]) (.tuple [e,f])=qq (.tuple [a,b,c,e,f]):=by
 show(if [a,b,c].isEmpty=false/\[a,b,c].length+[e,f].length<=qk then qq (yCw ([a,b,c]++[e,f])) else qz)=_
 rw[if_pos ⟨rfl,by rw[zj];show 3+2<=16777216;decide⟩]
 rfl
theorem aSN(a b c e:D):eS [a,b,c,e] (qq 2) qz=[c,e]:=rfl
theorem aTH:(HT.sIx 4 0 (qq 2)=0/\HT.sIx 4 4 qz=4)=False:=by simp[HT.sIx]
section
variable {S : aC}{n p : Nat}{ns : List Int}{k : Nat}{x : Int}{rs : List Rw}
theorem aO5(h:At S n p)(d w:Nat)(wd:Wd)(l2 e5 e6:Option W)(hr:dM [] rs)(h0:0<rs.length)(hl:rs.length<=80)(hw:1<=w)(bX:w<=64)(hk:k<=96000) :
 ∃ (r:Rw) (k':Nat) (x':Int) (aN:List Rw) (e6':Option W),dM [] aN/\rs.length<=aN.length/\aN.length<=rs.length+3/\gG (aN.map (·.w)) r/\k'<=k+12 /\
  xs (aD fns (d+4)) (dY 5) [qq (.loc n),qq (.loc p),l2,qq (.d (.str wd.s)),qq (.d (.int (w:Nat))),e5,e6] (aP S n p ns k x rs)=qq (.nx [qq (.loc n),qq (.loc p),l2,qq (.d (.str wd.s)),qq (.d (.int (w:Nat))),qq (.d r.d),e6'],aP S n p ns k' x' aN):=by
 have c1:aJ .Eq (.str wd.s) (.str "in")=qq (.bool (decide (wd=.in))):=bH wd .in
 by_cases k1:wd=.in
 ·subst k1;refine⟨⟨.in,w,[]⟩,k,x,rs,e6,hr,by omega,by omega,⟨hw,bX,True.intro⟩,by omega,?_⟩
  exact rR (dN rfl c1) (pS rfl)
 rw[dqF k1] at c1;have q1:=λ {r S1}=>vY (C:=aD fns (d+4)) (s:=dY 5) (env:=[qq (.loc n),qq (.loc p),l2,qq (.d (.str wd.s)),qq (.d (.int (w:Nat))),e5,e6]) (S:=aP S n p ns k x rs) (r:=r) (S1:=S1) rfl (dN rfl c1)
 clear c1;have c2:aJ .Eq (.str wd.s) (.str "num")=qq (.bool (decide (wd=.num))):=bH wd .num
 by_cases k2:wd=.num
 ·subst k2;obtain⟨q,k',x',hq,hk',e⟩:=aH1 (ns:=ns) (k:=k) (x:=x) (rs:=rs) h.toAt0 (d+1) w hw bX (by omega)
  refine⟨⟨.num,w,[q]⟩,k',x',rs,e6,hr,by omega,by omega,⟨hw,bX,hq⟩,by omega,q1 (rR (dN rfl c2) (pS ?_))⟩
  simp only[gS0,e]
 rw[dqF k2] at c2;have q2:=λ {r S1} h=>q1 (vY (r:=r) (S1:=S1) rfl (dN rfl c2) h)
 clear c2;have c3:aJ .Eq (.str wd.s) (.str "not")=qq (.bool (decide (wd=.not))):=bH wd .not
 by_cases k3:wd=.not
 ·subst k3;obtain⟨a,k',x',aN,o,hk',e⟩:=tO (ns:=ns) (k:=k) (x:=x) h (d+1) w hr h0 (by omega) hw bX (by omega)
  have l:=o.len;refine⟨⟨.not,w,[a]⟩,k',x',aN,e6,o.ok,by omega,by omega,⟨hw,bX,o.wd⟩,by omega,q2 (rR (dN rfl c3) (pS ?_))⟩
  simp only[gS0,e]
 rw[dqF k3] at c3;have q3:=λ {r S1} h=>q2 (vY (r:=r) (S1:=S1) rfl (dN rfl c3) h)
 clear c3;have c4:=tY wd
 by_cases k4:wd=.left\/wd=.right\/wd=.slide
 ·rw[dqT k4] at c4;obtain⟨r,k',x',aN,ok,l1,l2,okr,hk',e⟩:=aB9 (ns:=ns) (k:=k) (x:=x) h d w wd k4 hr h0 (by omega) hw bX (by omega)
  refine⟨r,k',x',aN,e6,ok,by omega,by omega,okr,by omega,q3 (rR (jU rfl rfl c4) (pS ?_))⟩
  simp only[gS0,e]
 rw[dqF k4] at c4;have q4:=λ {r S1} h=>q3 (vY (r:=r) (S1:=S1) rfl (jU rfl rfl c4) h)
 clear c4;have c5:=aIG wd
 by_cases k5:wd=.cut\/wd=.wide\/wd=.sign
 ·rw[dqT k5] at c5;obtain⟨r,x',okr,e⟩:=yY (ns:=ns) (k:=k) (x:=x) h (d+2) wd k5 hr h0 (by omega) (by omega)
  refine⟨r,k+2,x',rs,e6,hr,by omega,by omega,okr,by omega,q4 (rR (jU rfl rfl c5) (pS ?_))⟩
  simp only[gS0,e]
 rw[dqF k5] at c5;have q5:=λ {r S1} h=>q4 (vY (r:=r) (S1:=S1) rfl (jU rfl rfl c5) h)
 clear c5;have c6:aJ .Eq (.str wd.s) (.str "pick")=qq (.bool (decide (wd=.pick))):=bH wd .pick
 by_cases k6:wd=.pick
 ·subst k6;obtain⟨c,k1',x1,rs1,o1,hk1,e1⟩:=tO (ns:=ns) (k:=k) (x:=x) h (d+1) 1 hr h0 (by omega) (by decide) (by decide) (by omega)
  have l1:=o1.len;obtain⟨a,b,k',x',aN,ok,⟨t,rfl,ht⟩,wa,wb,hk',e2⟩:=aG1 (ns:=ns) (k:=k1') (x:=x1) h d w .pick o1.ok (by omega) (by omega) hw bX (by omega)
  have wc:((rs1++t).map (·.w))[c]? = qq 1:=by
   rw[yAz,xAn (gIm o1.wd).1];exact o1.wd
  rw[show((1:Nat):Int)=1 from rfl] at e1
  refine⟨⟨.pick,w,[c,a,b]⟩,k',x',rs1++t,qq (.d (.int (c:Nat))),ok,by simp;omega,by simp;omega,⟨hw,bX,wc,wa,wb⟩,by omega,q5 (rR (dN rfl c6) (eJ (S1:=aP S n p ns k1' x1 rs1) (w:=.d (.int (c:Nat))) ?_ rfl (pS ?_)))⟩
  ·simp only[gS0,e1]
  ·simp only[gS0,e2,kE,oK,xF,aTH,aSN,aUN]
 rw[dqF k6] at c6;obtain⟨a,b,k',x',aN,ok,⟨t,rfl,ht⟩,wa,wb,hk',e2⟩:=aG1 (ns:=ns) (k:=k) (x:=x) h d w wd hr h0 (by omega) hw bX (by omega)
 have okr:gG ((rs++t).map (·.w)) ⟨wd,vO wd w,[a,b]⟩:=by
  clear q1 q2 q3 q4 q5 c6 e2;cases wd
  all_goals first | exact⟨hw,bX,wa,wb⟩ | exact⟨yAc 1,oqT rfl,rfl,w,wa,wb⟩ | exact absurd rfl k1 | exact absurd rfl k2 | exact absurd rfl k3 | exact absurd rfl k6 | exact absurd (.inl rfl) k4 | exact absurd (.inr (.inl rfl)) k4 | exact absurd (.inr (.inr rfl)) k4 | exact absurd (.inl rfl) k5 | exact absurd (.inr (.inl rfl)) k5 | exact absurd (.inr (.inr rfl)) k5
 refine⟨⟨wd,vO wd w,[a,b]⟩,k',x',rs++t,e6,ok,by simp,by simp;omega,okr,by omega,q5 (aI4 (dN rfl c6) (pS ?_))⟩
 simp only[gS0,e2]
end
noncomputable def wds:List Wd:=[.in,.num,.num,.not,.and,.or,.xor,.add,.sub,.mul,.left,.right,.slide,.cut,.wide,.sign,.same,.less,.under,.pick]
noncomputable def kL:D:=.list (wds.map λ w=>yHj w.s)
section
variable {S : aC}{n p : Nat}{ns : List Int}{k : Nat}{x : Int}{rs : List Rw}
theorem row_ok(h:At S n p)(d:Nat)(hr:dM [] rs)(h0:0<rs.length)(hl:rs.length<=80)(hk:k<=95000) :
 ∃ (k':Nat) (x':Int) (aN:List Rw),dM [] aN/\rs.length<=aN.length/\aN.length<=rs.length+4/\k'<=k+20/\cl fns (d+5) 68 [.loc n,.loc p] (aP S n p ns k x rs)=qq (.d .none,aP S n p ns k' x' aN):=by
 have s01:xs (aD fns (d+4)) (.seq (dY 0) (dY 1)) [qq (.loc n),qq (.loc p),qz,qz,qz,qz,qz] (aP S n p ns k x rs)=qq (.nx [qq (.loc n),qq (.loc p),qq (.d kL),qz,qz,qz,qz],aP S n p ns k x rs):=by
  simp only[evs,dY,jM,yBp,yBl];rw[aP1 (by simp)]
  simp only[gS0,True]
 obtain⟨q1,x1,h1,e1⟩:=gX (ns:=ns) (k:=k) (x:=x) (rs:=rs) h.toAt0 (d+3) 20 (i:=20) rfl (by decide) (by decide) (by omega)
 obtain⟨wd,bD⟩:∃ wd,wds[q1]? = qq wd:=⟨wds[q1],yAa (by simpa [wds] using h1)⟩
 have gw:aO kL (.int (q1:Nat))=qq (.str wd.s):=jS (by rw[xAb,bD];rfl)
 have s2:xs (aD fns (d+4)) (dY 2) [qq (.loc n),qq (.loc p),qq (.d kL),qz,qz,qz,qz] (aP S n p ns k x rs)=qq (.nx [qq (.loc n),qq (.loc p),qq (.d kL),qq (.d (.str wd.s)),qz,qz,qz],aP S n p ns (k+1) x1 rs):=by
  simp only[gS2,dY,jM,yBp,yBl,e1,gw]
 obtain⟨a,x2,ha,e2⟩:=gD (ns:=ns) (k:=k+1) (x:=x1) (rs:=rs) h.toAt0 (d+3) rs.length h0 (by omega) (by omega)
 obtain⟨r,hra⟩:∃ r,rs[a]? = qq r:=⟨rs[a],yAa ha⟩;obtain⟨cG,bX⟩:=aBV hr hra;have s3:xs (aD fns (d+4)) (dY 3) [qq (.loc n),qq (.loc p),qq (.d kL),qq (.d (.str wd.s)),qz,qz,qz] (aP S n p ns (k+1) x1 rs)=qq (.nx [qq (.loc n),qq (.loc p),qq (.d kL),qq (.d (.str wd.s)),qq (.d (.int (r.w:Nat))),qz,qz],aP S n p ns (k+2) x2 rs):=by
  simp only[gS2,dY,jM,yBp,yBl,h.rows,dX,dU,rows_len,e2,aAo hra,eK]
 obtain⟨q3,x3,h3,e3⟩:=gX (ns:=ns) (k:=k+2) (x:=x2) (rs:=rs) h.toAt0 (d+3) 4 (i:=4) rfl (by decide) (by decide) (by omega)
 obtain⟨w,k4,x4,hw3,hw4,hk4,s4⟩:∃ (w k4:Nat) (x4:Int),1<=w/\w<=64/\k4<=k+6/\xs (aD fns (d+4)) (dY 4) [qq (.loc n),qq (.loc p),qq (.d kL),qq (.d (.str wd.s)),qq (.d (.int (r.w:Nat))),qz,qz] (aP S n p ns (k+2) x2 rs)=qq (.nx [qq (.loc n),qq (.loc p),qq (.d kL),qq (.d (.str wd.s)),qq (.d (.int (w:Nat))),qz,qz],aP S n p ns k4 x4 rs):=by
  rcases yDp ((q3:Int)==1) with c | c
  ·obtain⟨w,x4,g1,g2,e4⟩:=aF2 (ns:=ns) (k:=k+3) (x:=x3) (rs:=rs) h.toAt0 (d+2) (by omega)
   refine⟨w,k+6,x4,g1,g2,by omega,?_⟩
   simp only[gS2,dY,jM,yBp,yBl,e3,aS,c,e4]
  ·refine⟨r.w,k+3,x3,cG,bX,by omega,?_⟩
   simp only[gS2,dY,jM,yBp,yBl,e3,aS,c]
 obtain⟨rr,k',x',aN,e6',ok,l1,l2,okr,hk',s5⟩:=aO5 (ns:=ns) (k:=k4) (x:=x4) h d w wd (qq (.d kL)) qz qz hr h0 hl hw3 hw4 (by omega)
 refine⟨k',x',aN++[rr],aBL ok (by simpa using okr),by simp;omega,by simp;omega,by omega,?_⟩
 rw[aT rfl (d+4) _ _ rfl];have full:xs (aD fns (d+4)) jM [qq (.loc n),qq (.loc p),qz,qz,qz,qz,qz] (aP S n p ns k x rs)=qq (.nx [qq (.loc n),qq (.loc p),qq (.d kL),qq (.d (.str wd.s)),qq (.d (.int (w:Nat))),qq (.d rr.d),e6'],aP S n p ns k' x' (aN++[rr])):=by
  have s01':∀ r:Sx,xs (aD fns (d+4)) (.seq (dY 0) (.seq (dY 1) r)) [qq (.loc n),qq (.loc p),qz,qz,qz,qz,qz] (aP S n p ns k x rs)=xs (aD fns (d+4)) r [qq (.loc n),qq (.loc p),qq (.d kL),qz,qz,qz,qz] (aP S n p ns k x rs):=λ r=>by
   simp only[iW,cZ] at s01 ⊢;cases q:xs (aD fns (d+4)) (dY 0) [qq (.loc n),qq (.loc p),qz,qz,qz,qz,qz] (aP S n p ns k x rs) with
   | none=>rw[q] at s01;cases s01
   | some z =>
     obtain⟨fl,S1⟩:=z;rw[q] at s01;cases fl with
     | nx e =>
       simp only[oB] at s01 ⊢;rw[s01];simp only[oB]
     | rt w=>cases s01
     | bk e=>cases s01
     | ct e=>cases s01
  rw[aMU,s01',eZ s2,eZ s3,eZ s4,eZ s5];have hq24:=λ ns k x=>aGN (ns:=ns) (k:=k) (x:=x) h (show aN.length<=1000 by omega)
  simp only[gS2,dY,jM,yBp,yBl,hZ,hq24]
 show((xs (aD fns (d+4)) jM [qq (.loc n),qq (.loc p),qz,qz,qz,qz,qz] (aP S n p ns k x rs)).bind _)=_;rw[full];simp only[oB,h.take]
end
end GP
noncomputable def tr(n w:Nat):Nat:=w-bl (n^^^(2^w-1))
theorem aRx(n w i:Nat):(n^^^(2^w-1)).testBit i=(n.testBit i ^^ decide (i<w)):=by rw[yAs,eH]
theorem aI0(n w:Nat):tr n w<=w:=yGt _ _
theorem aGO{n w i:Nat}(hi:w-tr n w<=i)(hw:i<w):n.testBit i=true:=by
 have h1:bl (n^^^(2^w-1))<=i:=by unfold tr at hi;omega
 have h2:=cW (mQ (n^^^(2^w-1))) h1;rw[aRx,dqT hw] at h2;cases q:n.testBit i with
 | true=>rfl
 | false=>rw[q] at h2;cases h2
noncomputable def cY(a w:Nat):Nat:=(2^w-1)^^^(2^(w-a)-1)
theorem nQ{a w i:Nat}:(cY a w).testBit i=(decide (w-a<=i)&&decide (i<w)):=by
 unfold cY;rw[yAs,eH,eH]
 by_cases h1:i<w<;>by_cases h2:i<w-a
 ·rw[dqT h1,dqT h2,dqF (by omega)];rfl
 ·rw[dqT h1,dqF h2,dqT (by omega)];rfl
 ·omega
 ·rw[dqF h1,dqF h2,yDk];rfl
theorem aCU{x y:Nat}:x&&&y≠0 ↔ ∃ i,x.testBit i=true/\y.testBit i=true:=by
 constructor
 ·intro h
  by_cases c:∃ i,x.testBit i=true/\y.testBit i=true
  ·exact c
  ·refine absurd ((jN _).mpr λ i=>?_) h
   rw[yAg];cases h1:x.testBit i<;>cases h2:y.testBit i<;>first | rfl | exact absurd ⟨i,h1,h2⟩ c
 ·rintro ⟨i,h1,h2⟩ z;rw[jN] at z;have:=z i;rw[yAg,h1,h2] at this;cases this
noncomputable def cV(x a w:Nat):Nat:=if x&&&cY a w=0 then x else x|||cY a w
theorem aAV{x a w:Nat}(h:x<2^w):cV x a w<2^w:=by
 unfold cV
 split
 ·exact h
 ·exact yBg h (by
   apply yCj;intro i hi;rw[nQ,dqF (show ¬ i<w by omega),yDk])
theorem aAl{x a w i:Nat}:(cV x a w).testBit i=true ↔ x.testBit i=true\/((w-a<=i/\i<w)/\∃ j,(w-a<=j/\j<w)/\x.testBit j=true):=by
 unfold cV
 split
 ·rename_i h;constructor
  ·intro z;exact .inl z
  ·rintro (z | ⟨_,j,h1,h2⟩)
   ·exact z
   ·refine absurd h (aCU.mpr ⟨j,h2,?_⟩);rw[nQ,dqT h1.1,dqT h1.2];rfl
 ·rename_i h;obtain⟨j,h1,h2⟩:=aCU.mp h;rw[nQ,yAu,decide_eq_true_eq,decide_eq_true_eq] at h2;rw[xAp,yEg,nQ,yAu,decide_eq_true_eq,decide_eq_true_eq];constructor
  ·rintro (z | z)
   ·exact .inl z
   ·exact .inr ⟨z,j,h2,h1⟩
  ·rintro (z | ⟨z,_⟩)
   ·exact .inl z
   ·exact .inr z
noncomputable def vZ(i j k:Nat):Nat:=max (max i j) k
structure Ft where
 N:Nat
 O:Nat
 A:Nat
noncomputable def gM(f:Ft)(w:Nat):Ft:=⟨cV f.N f.A w,cV f.O f.A w,vZ f.A (tr (cV f.N f.A w) w) (tr (cV f.O f.A w) w)⟩
def Hd(f:Ft)(n w:Nat):Prop:=(∀ i,f.N.testBit i=true->n.testBit i=false)/\(∀ i,f.O.testBit i=true->n.testBit i=true)/\((∀ i,w-f.A<=i->i<w->n.testBit i=true)\/(∀ i,w-f.A<=i->i<w->n.testBit i=false))
structure FtOk(f:Ft)(w:Nat):Prop where
 lN:f.N<2^w
 lO:f.O<2^w
 a1:1<=f.A
 aw:f.A<=w
theorem aTz{f:Ft}{w:Nat}(h:FtOk f w):FtOk (gM f w) w:=by
 have h1:=aI0 (cV f.N f.A w) w;have h2:=aI0 (cV f.O f.A w) w;have h3:=h.a1;have h4:=h.aw;exact⟨aAV h.lN,aAV h.lO,by show 1<=max (max _ _) _;omega,by show max (max _ _) _<=w;omega⟩
theorem aOa{f:Ft}{n w:Nat}(h:FtOk f w):Hd (gM f w) n w ↔ Hd f n w:=by
 have aA:f.A<=(gM f w).A:=by show f.A<=max (max _ _) _;omega
 constructor
 ·rintro ⟨h1,h2,h3⟩;refine⟨λ i hi=>h1 i (aAl.mpr (.inl hi)),λ i hi=>h2 i (aAl.mpr (.inl hi)),?_⟩
  rcases h3 with h3 | h3
  ·exact .inl λ i a b=>h3 i (by omega) b
  ·exact .inr λ i a b=>h3 i (by omega) b
 ·rintro ⟨h1,h2,h3⟩;have hN:∀ i,(gM f w).N.testBit i=true->n.testBit i=false:=λ i hi=>by
   rcases aAl.mp hi with z | ⟨⟨a,b⟩,j,⟨c,d⟩,e⟩
   ·exact h1 i z
   ·rcases h3 with h3 | h3
    ·have x1:=h3 j c d;rw[h1 j e] at x1;cases x1
    ·exact h3 i a b
  have hO:∀ i,(gM f w).O.testBit i=true->n.testBit i=true:=λ i hi=>by
   rcases aAl.mp hi with z | ⟨⟨a,b⟩,j,⟨c,d⟩,e⟩
   ·exact h2 i z
   ·rcases h3 with h3 | h3
    ·exact h3 i a b
    ·have x1:=h3 j c d;rw[h2 j e] at x1;cases x1
  refine⟨hN,hO,?_⟩;have cA:(gM f w).A=f.A\/(gM f w).A=tr (gM f w).N w\/(gM f w).A=tr (gM f w).O w:=by
   show max (max _ _) _=_\/max (max _ _) _=tr (cV f.N f.A w) w\/max (max _ _) _=tr (cV f.O f.A w) w;omega
  rcases cA with c | c | c
  ·rw[c];exact h3
  ·rw[c];exact .inr λ i a b=>hN i (aGO a b)
  ·rw[c];exact .inl λ i a b=>hO i (aGO a b)
theorem aVP{f:Ft}{n w:Nat}(h:Hd f n w):f.N&&&f.O=0:=by
 by_cases c:f.N&&&f.O=0
 ·exact c
 ·obtain⟨i,h1,h2⟩:=aCU.mp c;have x:=h.1 i h1;rw[h.2.1 i h2] at x;cases x
theorem aAa{n w i:Nat}(hn:n<2^w)(hi:i<w):(2^w-1-n).testBit i = !n.testBit i:=by
 have:=rF hn i;unfold qI at this;rw[this,dqT hi,yAn]
theorem aNT{n w a:Nat}(hn:n<2^w)(ha:a<=w):n/2^(w-a)=2^a-1 ↔ ∀ i,w-a<=i->i<w->n.testBit i=true:=by
 constructor
 ·intro h i h1 h2;have:(n/2^(w-a)).testBit (i-(w-a))=(2^a-1).testBit (i-(w-a)):=by rw[h]
  rw[kW,eH,show w-a+(i-(w-a))=i by omega,dqT (by omega)] at this
  exact this
 ·intro h;apply xAm;intro i;rw[kW,eH]
  by_cases c:i<a
  ·rw[h _ (by omega) (by omega),dqT c]
  ·rw[cW hn (by omega),dqF c]
theorem aM7{n w a:Nat}(hn:n<2^w)(ha:a<=w):n/2^(w-a)=0 ↔ ∀ i,w-a<=i->i<w->n.testBit i=false:=by
 rw[aBG];constructor
 ·intro h i h1 _;exact h i h1
 ·intro h i h1
  by_cases c:i<w
  ·exact h i h1 c
  ·exact cW hn (by omega)
theorem zH{x y:Nat}:(x&&&y=0) ↔ ∀ i,y.testBit i=true->x.testBit i=false:=by
 rw[jN];constructor
 ·intro h i hy;have:=h i;rw[yAg,hy,yBh] at this;exact this
 ·intro h i;rw[yAg];cases hy:y.testBit i with
  | false=>exact yDk _
  | true=>rw[h i hy];rfl
theorem aFl{x y:Nat}:(x&&&y=y) ↔ ∀ i,y.testBit i=true->x.testBit i=true:=by
 constructor
 ·intro h i hy;have:=congrArg (λ z=>z.testBit i) h
  simp only[yAg,hy,yBh] at this;exact this
 ·intro h;apply xAm;intro i;rw[yAg];cases hy:y.testBit i with
  | false=>exact yDk _
  | true=>rw[h i hy];rfl
theorem dH(d w:Nat)(h:w<=100000)(S:aC):cl fns (d+1) 0 [.d (.int w)] S=qq (.d (.int ((2^w-1:Nat):Int)),S):=by
 rw[aT rfl d _ S rfl];simp only[gR1,aIU,iJ h,cH,aB6]
theorem aPg(n:Nat):yAk (n:Int)=bl n:=aEI n
theorem uE(d n:Nat)(S:aC):cl fns (d+1) 1 [.d (.int n)] S=qq (.d (.int ((bl n:Nat):Int)),S):=by
 rw[aT rfl d _ S rfl];simp only[gR1,aH7,aDd,aJv,aPg]
noncomputable def lr(n:Nat):Nat:=bl (n^^^(n+1))-1
theorem aOY(n:Nat):lr n=jZ (oN n (bl n+1)):=aFc (bl n+1) n (xAc (mQ n) (yAq (by decide) (by omega)))
theorem zF(d n:Nat)(S:aC)(h:n<2^10000):cl fns (d+2) 2 [.d (.int n)] S=qq (.d (.int ((2^bl n-1:Nat):Int)),S):=by
 rw[aT rfl (d+1) _ S rfl];have hq25:=dH d (bl n) (xAi (jX h) (by decide))
 simp only[gR1,aIr,uE d n,hq25]
theorem aIm{n w:Nat}(h:n<2^w)(hw:w<=10000):n<2^10000:=xAc h (yAq (by decide) hw)
theorem aCX(d n:Nat)(S:aC):cl fns (d+2) 3 [.d (.int n)] S=qq (.d (.int ((lr n:Nat):Int)),S):=by
 have h1:=tS (aEM n);have e1:(n:Int)+1=((n+1:Nat):Int):=by omega
 have e2:((bl (n^^^(n+1)):Nat):Int)-1=((lr n:Nat):Int):=by unfold lr;omega
 rw[aT rfl (d+1) _ S rfl];simp only[gR1,aF9,eD,e1,mH,uE d,cH,e2]
noncomputable def Ft.d(f:Ft):D:=.tuple [.int (f.N:Nat),.int (f.O:Nat),.int (f.A:Nat)]
theorem dG(f:Ft):aO f.d (.int 0)=qq (.int (f.N:Nat)):=rfl
theorem dO(f:Ft):aO f.d (.int 1)=qq (.int (f.O:Nat)):=rfl
theorem kA(f:Ft):aO f.d (.int 2)=qq (.int (f.A:Nat)):=rfl
theorem zE(a b:Nat):(((a:Nat):Int)==((b:Nat):Int))=(a==b):=by
 rw[yFd,beq_iff_eq,beq_iff_eq];omega
theorem aFm(d n w:Nat)(S:aC)(hn:n<2^w)(hw:w<=64):cl fns (d+2) 4 [.d (.int (n:Nat)),.d (.int (w:Nat))] S=qq (.d (.int ((tr n w:Nat):Int)),S):=by
 have h1:=jX (aLw hn);have e2:(w:Int)-((bl (n^^^(2^w-1)):Nat):Int)=((tr n w:Nat):Int):=by unfold tr;omega
 rw[aT rfl (d+1) _ S rfl];have hq26:=dH d w (by omega)
 simp only[gR1,aGh,hq26,mH,uE d,cH,e2]
theorem pF(d a w:Nat)(S:aC)(ha:a<=w)(hw:w<=64):cl fns (d+2) 21 [.d (.int (a:Nat)),.d (.int (w:Nat))] S=qq (.d (.int ((cY a w:Nat):Int)),S):=by
 have e:(w:Int)-(a:Int)=((w-a:Nat):Int):=by omega
 rw[aT rfl (d+1) _ S rfl];have hq27:=dH d w (by omega)
 have hq28:=dH d (w-a) (by omega)
 simp only[gR1,aFe,hq27,cH,e,hq28,mH]
theorem mxI(i j:Nat):(if (j:Int)>(i:Int) then ((j:Nat):Int) else ((i:Nat):Int))=((max i j:Nat):Int):=by
 by_cases h:(j:Int)>(i:Int)
 ·rw[if_pos h];omega
 ·rw[if_neg h];omega
theorem yZ(i j k:Nat):mX [.int (i:Nat),.int (j:Nat),.int (k:Nat)]=qq (.int ((vZ i j k:Nat):Int)):=by
 show qq (yAm (if (j:Int)>(i:Int) then (if (k:Int)>(j:Int) then ((k:Nat):Int) else ((j:Nat):Int)) else (if (k:Int)>(i:Int) then ((k:Nat):Int) else ((i:Nat):Int))))=_
 rw[mxI,mxI];unfold vZ
 by_cases h:(j:Int)>(i:Int)
 ·rw[if_pos h,show max (max i j) k=max j k by omega]
 ·rw[if_neg h,show max (max i j) k=max i k by omega]
theorem aC0{x a w:Nat}(h:(x&&&cY a w==0)=true):cV x a w=x:=by
 unfold cV;rw[if_pos (eq_of_beq h)]
theorem aC1{x a w:Nat}(h:(x&&&cY a w==0)=false):cV x a w=x|||cY a w:=by
 unfold cV;rw[if_neg (by simpa using h)]
theorem aMR(d:Nat)(f:Ft)(w:Nat)(k:FtOk f w)(hw:w<=64)(S:aC):cl fns (d+3) 23 [.d f.d,.d (.int (w:Nat))] S=qq (.d (gM f w).d,S):=by
 have t1:=aFm d (cV f.N f.A w) w S (aAV k.lN) hw;have t2:=aFm d (cV f.O f.A w) w S (aAV k.lO) hw;rw[aT rfl (d+2) _ S rfl];show _=qq (W.d (.tuple [.int ((cV f.N f.A w:Nat):Int),.int ((cV f.O f.A w:Nat):Int),.int ((vZ f.A (tr (cV f.N f.A w) w) (tr (cV f.O f.A w) w):Nat):Int)]),S);cases c1:(f.N&&&cY f.A w==0) with
 | true =>
   rw[aC0 c1] at t1 ⊢;cases c2:(f.O&&&cY f.A w==0) with
   | true =>
     rw[aC0 c2] at t2 ⊢;simp only[gR1,uO,Ft.d,pF (d:=d) (a:=f.A) (w:=w) (S:=S) k.aw hw,cX,iX,bT,c1,c2,t1,t2,yZ]
   | false =>
     rw[aC1 c2] at t2 ⊢;simp only[gR1,uO,Ft.d,pF (d:=d) (a:=f.A) (w:=w) (S:=S) k.aw hw,cX,iX,bT,c1,c2,cM,t1,t2,yZ]
 | false =>
   rw[aC1 c1] at t1 ⊢;cases c2:(f.O&&&cY f.A w==0) with
   | true =>
     rw[aC0 c2] at t2 ⊢;simp only[gR1,uO,Ft.d,pF (d:=d) (a:=f.A) (w:=w) (S:=S) k.aw hw,cX,iX,bT,c1,c2,cM,t1,t2,yZ]
   | false =>
     rw[aC1 c2] at t2 ⊢;simp only[gR1,uO,Ft.d,pF (d:=d) (a:=f.A) (w:=w) (S:=S) k.aw hw,cX,iX,bT,c1,c2,cM,t1,t2,yZ]
theorem uK(d:Nat)(f:Ft)(S:aC):cl fns (d+1) 24 [.d f.d] S=qq (.d (.int (f.O:Nat)),S):=by
 rw[aT rfl d _ S rfl];simp only[gR1,aIM,dO]
theorem xY(d:Nat)(f:Ft)(w:Nat)(lN:f.N<2^w)(hw:w<=64)(S:aC):cl fns (d+2) 25 [.d f.d,.d (.int (w:Nat))] S=qq (.d (.int ((2^w-1-f.N:Nat):Int)),S):=by
 have e:(2^w-1)^^^f.N=2^w-1-f.N:=by
  apply xAm;intro i;have:=rF lN i;unfold qI at this;rw[this,yAs,eH]
  by_cases c:i<w
  ·rw[dqT c];cases f.N.testBit i<;>rfl
  ·rw[dqF c,cW lN (by omega)];rfl
 rw[aT rfl (d+1) _ S rfl];have hq29:=dH d w (by omega)
 simp only[gR1,aFy,dG,hq29,mH,e]
theorem xQ(d n w v:Nat)(S:aC)(hw:0<w)(hv:v<=1000)(bX:w<=64):cl fns (d+2) 5 [.d (.int (n:Nat)),.d (.int (w:Nat)),.d (.int (v:Nat))] S=qq (.d (.int ((eC n w v:Nat):Int)),S):=by
 have e1:(w:Int)-1=((w-1:Nat):Int):=by omega
 rw[aT rfl (d+1) _ S rfl];unfold eC
 by_cases c:n&&&2^(w-1)=0
 ·have d1:(n&&&2^(w-1)==0)=true:=by rw[beq_iff_eq];exact c
  rw[if_pos c];have hq30:=iJ (show w-1<=100000 by omega)
  simp only[gR1,aBS,cH,e1,hq30,cX,aS,bT,d1]
 ·have d1:(n&&&2^(w-1)==0)=false:=by rw[beq_eq_false_iff_ne];exact c
  rw[if_neg c];have hq31:=iJ (show w-1<=100000 by omega)
  have hq32:=dH d v (by omega)
  have hq33:=dH d w (by omega)
  simp only[gR1,aBS,cH,e1,hq31,cX,aS,bT,d1,hq32,hq33,mH,cM]
theorem aCe(a k:Nat):mX [.int 1,.int ((a:Nat)-(k:Nat):Int)]=qq (.int ((max 1 (a-k):Nat):Int)):=by
 unfold mX;simp only[];congr 2
 by_cases h1:(a:Int)-(k:Int)>1<;>simp only[h1,if_true,if_false]<;>omega
theorem kR(i j:Nat):qF [.int (i:Nat),.int (j:Nat)]=qq (.int ((min i j:Nat):Int)):=by
 unfold qF;simp only[];congr 2
 by_cases h1:(j:Int)<(i:Int)<;>simp only[h1,if_true,if_false]<;>omega
noncomputable def vL(w:Nat)(f:Ft)(k:Nat):Ft:=⟨(f.N*2^k|||(2^k-1))&&&(2^w-1),f.O*2^k&&&(2^w-1),max 1 (f.A-k)⟩
theorem aPK(d w:Nat)(f:Ft)(k:Nat)(hf:FtOk f w)(hw:w<=64)(hk:k<=1000)(S:aC):cl fns (d+2) 36 [.d (.int (w:Nat)),.d f.d,.d (.int (k:Nat))] S=qq (.d (vL w f k).d,S):=by
 rw[aT rfl (d+1) _ S rfl];have hq34:=uQ hf.lN (show w+k<=100000 by omega)
 have hq35:=uQ hf.lO (show w+k<=100000 by omega)
 have hq36:=dH d k (by omega)
 have hq37:=dH d w (by omega)
 simp only[gR1,aE3,dG,dO,kA,hq34,hq35,hq36,hq37,cM,cX,cH,aCe]
noncomputable def mK(w:Nat)(f:Ft)(k:Nat):Ft:=⟨f.N/2^k|||cY (min k w) w,f.O/2^k,if k=0 then f.A else 1⟩
theorem aNq(d w:Nat)(f:Ft)(k:Nat)(hw:w<=64)(S:aC):cl fns (d+3) 37 [.d (.int (w:Nat)),.d f.d,.d (.int (k:Nat))] S=qq (.d (mK w f k).d,S):=by
 have tm:=pF d (min k w) w S (by omega) hw
 rw[aT rfl (d+2) _ S rfl]
 by_cases c:k=0
 ·have d1:(k==0)=true:=by rw[beq_iff_eq];exact c
  have e:(mK w f k).d=.tuple [.int ((f.N/2^k|||cY (min k w) w:Nat):Int),.int ((f.O/2^k:Nat):Int),.int (f.A:Nat)]:=by unfold mK;rw[if_pos c];rfl
  rw[e];simp only[gR1,aBO,dG,dO,kA,mE,kR,tm,cM,aS,bT,d1]
 ·have d1:(k==0)=false:=by rw[beq_eq_false_iff_ne];exact c
  have e:(mK w f k).d=.tuple [.int ((f.N/2^k|||cY (min k w) w:Nat):Int),.int ((f.O/2^k:Nat):Int),.int 1]:=by unfold mK;rw[if_neg c];rfl
  rw[e];simp only[gR1,aBO,dG,dO,kA,mE,kR,tm,cM,aS,bT,d1]
noncomputable def uY(w:Nat)(f:Ft)(k:Nat):Ft:=⟨eC f.N w (w+k)/2^k,eC f.O w (w+k)/2^k,min w (f.A+k)⟩
theorem aNn(d w:Nat)(f:Ft)(k:Nat)(cG:1<=w)(hw:w<=64)(hk:k<=900)(S:aC):cl fns (d+3) 38 [.d (.int (w:Nat)),.d f.d,.d (.int (k:Nat))] S=qq (.d (uY w f k).d,S):=by
 have e1:(w:Int)+(k:Int)=((w+k:Nat):Int):=by omega
 have e2:(f.A:Int)+(k:Int)=((f.A+k:Nat):Int):=by omega
 rw[aT rfl (d+2) _ S rfl];have hq38:=xQ d f.N w (w+k) S (by omega) (by omega) hw
 have hq39:=xQ d f.O w (w+k) S (by omega) (by omega) hw
 simp only[gR1,aEK,dG,dO,kA,eD,e1,e2,hq38,hq39,mE,kR]
noncomputable def wM(v w:Nat)(f:Ft):Ft:=⟨f.N&&&(2^w-1),f.O&&&(2^w-1),max 1 (f.A-(v-w))⟩
noncomputable def mL(v w:Nat)(f:Ft):Ft:=⟨f.N|||cY (w-v) w,f.O,if w=v then f.A else 1⟩
noncomputable def vJ(v w:Nat)(f:Ft):Ft:=⟨eC f.N v w,eC f.O v w,f.A+(w-v)⟩
theorem aQ5(d v w:Nat)(f:Ft)(hv:w<=v)(hw:w<=64)(S:aC):cl fns (d+2) 40 [.d (.str "cut"),.d (.int (v:Nat)),.d (.int (w:Nat)),.d f.d] S=qq (.d (wM v w f).d,S):=by
 have c1:aJ .Eq (.str "cut") (.str "cut")=qq (.bool true):=bH .cut .cut;have e1:(v:Int)-(w:Int)=((v-w:Nat):Int):=by omega
 rw[aT rfl (d+1) _ S rfl];have hq40:=dH d w (by omega)
 simp only[gR1,tU,Ft.d,c1,hq40,cX,cH,e1,aCe]
theorem aOS(d v w:Nat)(f:Ft)(hv:v<=w)(hw:w<=64)(S:aC):cl fns (d+3) 40 [.d (.str "wide"),.d (.int (v:Nat)),.d (.int (w:Nat)),.d f.d] S=qq (.d (mL v w f).d,S):=by
 have c1:aJ .Eq (.str "wide") (.str "cut")=qq (.bool false):=bH .wide .cut;have c2:aJ .Eq (.str "wide") (.str "wide")=qq (.bool true):=bH .wide .wide;have e1:(w:Int)-(v:Int)=((w-v:Nat):Int):=by omega
 have tm:=pF d (w-v) w S (by omega) hw
 rw[aT rfl (d+2) _ S rfl]
 by_cases c:w=v
 ·have d1:(w==v)=true:=by rw[beq_iff_eq];exact c
  have e:(mL v w f).d=.tuple [.int ((f.N|||cY (w-v) w:Nat):Int),.int (f.O:Nat),.int (f.A:Nat)]:=by unfold mL;rw[if_pos c];rfl
  rw[e];simp only[gR1,tU,Ft.d,c1,c2,cH,e1,tm,cM,aS,zE,d1]
 ·have d1:(w==v)=false:=by rw[beq_eq_false_iff_ne];exact c
  have e:(mL v w f).d=.tuple [.int ((f.N|||cY (w-v) w:Nat):Int),.int (f.O:Nat),.int 1]:=by unfold mL;rw[if_neg c];rfl
  rw[e];simp only[gR1,tU,Ft.d,c1,c2,cH,e1,tm,cM,aS,zE,d1]
theorem aPA(d v w:Nat)(f:Ft)(hv1:1<=v)(hv:v<=w)(hw:w<=64)(S:aC):cl fns (d+3) 40 [.d (.str "sign"),.d (.int (v:Nat)),.d (.int (w:Nat)),.d f.d] S=qq (.d (vJ v w f).d,S):=by
 have c1:aJ .Eq (.str "sign") (.str "cut")=qq (.bool false):=bH .sign .cut;have c2:aJ .Eq (.str "sign") (.str "wide")=qq (.bool false):=bH .sign .wide;have e1:(w:Int)-(v:Int)=((w-v:Nat):Int):=by omega
 have e2:(f.A:Int)+((w-v:Nat):Int)=((f.A+(w-v):Nat):Int):=by omega
 rw[aT rfl (d+2) _ S rfl];have hq41:=xQ d f.N v w S (by omega) (by omega) (by omega)
 have hq42:=xQ d f.O v w S (by omega) (by omega) (by omega)
 simp only[gR1,tU,Ft.d,c1,c2,cH,e1,hq41,hq42,eD,e2]
noncomputable def bwN(wd:Wd)(f g:Ft):Ft:=match wd with
 | .and=>⟨f.N|||g.N,f.O&&&g.O,min f.A g.A⟩
 | .or=>⟨f.N&&&g.N,f.O|||g.O,min f.A g.A⟩
 | _=>⟨f.N&&&g.N|||f.O&&&g.O,f.N&&&g.O|||f.O&&&g.N,min f.A g.A⟩
theorem yT(d:Nat)(f g:Ft)(S:aC):cl fns (d+1) 34 [.d f.d,.d g.d] S=qq (.d (.int ((f.N&&&g.O|||f.O&&&g.N:Nat):Int)),S):=by
 rw[aT rfl d _ S rfl];simp only[gR1,aEu,dG,dO,cM,cX]
theorem aLP(d:Nat)(wd:Wd)(bD:wd=.and\/wd=.or\/wd=.xor)(f g:Ft)(S:aC):cl fns (d+2) 35 [.d (.str wd.s),.d f.d,.d g.d] S=qq (.d (bwN wd f g).d,S):=by
 have c1:aJ .Eq (.str wd.s) (.str "and")=qq (.bool (decide (wd=.and))):=bH wd .and;have c2:aJ .Eq (.str wd.s) (.str "or")=qq (.bool (decide (wd=.or))):=bH wd .or;rw[aT rfl (d+1) _ S rfl];rcases bD with rfl | rfl | rfl
 ·simp only[decide_true] at c1;simp only[gR1,xO,dG,dO,kA,kR,c1,cM,cX]
 ·simp only[reduceCtorEq,decide_false,decide_true] at c1 c2;simp only[gR1,xO,dG,dO,kA,kR,c1,c2,cM,cX]
 ·simp only[reduceCtorEq,decide_false] at c1 c2;simp only[gR1,xO,dG,dO,kA,kR,c1,c2,cM,cX,yT d]
noncomputable def dD(f:Ft)(k:Nat):Nat:=2-2*(f.N.testBit k).toNat-(f.O.testBit k).toNat
theorem gH{f:Ft}(hd:f.N&&&f.O=0)(k:Nat):(dD f k==0)=f.N.testBit k:=by
 have:=(jN _).mp hd k;rw[yAg] at this;unfold dD
 revert this
 cases f.N.testBit k<;>cases f.O.testBit k<;>decide
theorem gF{f:Ft}(hd:f.N&&&f.O=0)(k:Nat):(dD f k==1)=f.O.testBit k:=by
 have:=(jN _).mp hd k;rw[yAg] at this;unfold dD
 revert this
 cases f.N.testBit k<;>cases f.O.testBit k<;>decide
theorem vE(f:Ft)(k:Nat):dD f k<3:=by
 unfold dD;omega
noncomputable def ntN(x:Nat):Nat:=[1,0,2].getD x 2
noncomputable def aAC(f:Ft)(k i:Nat):Nat:=if i<k then 0 else dD f (i-k)
noncomputable def aAj(f:Ft)(w k i:Nat):Nat:=if i+k<w then dD f (i+k) else 0
noncomputable def aKh(f:Ft)(w i:Nat):Nat:=dD f (min i (w-1))
noncomputable def aAP(f:Ft)(w i:Nat):Nat:=if i<w then dD f i else 0
structure Mk(t:Nat->Nat)(n:Nat)(g:Ft):Prop where
 lN:g.N<2^n
 lO:g.O<2^n
 b0:∀ i,i<n->g.N.testBit i=(t i==0)
 b1:∀ i,i<n->g.O.testBit i=(t i==1)
theorem aKy{f:Ft}(hd:f.N&&&f.O=0)(k:Nat):(ntN (dD f k)==0)=f.O.testBit k:=by
 rw[<- gF hd k];have:=vE f k
 revert this
 generalize dD f k=x;intro h;have:x=0\/x=1\/x=2:=by omega
 rcases this with rfl | rfl | rfl<;>rfl
theorem aKw{f:Ft}(hd:f.N&&&f.O=0)(k:Nat):(ntN (dD f k)==1)=f.N.testBit k:=by
 rw[<- gH hd k];have:=vE f k
 revert this
 generalize dD f k=x;intro h;have:x=0\/x=1\/x=2:=by omega
 rcases this with rfl | rfl | rfl<;>rfl
theorem aQB{f:Ft}{w:Nat}(hf:FtOk f w)(hd:f.N&&&f.O=0):Mk (λ i=>ntN (dD f i)) w ⟨f.O,f.N,f.A⟩:=
 ⟨hf.lO,hf.lN,λ i _=>(aKy hd i).symm,λ i _=>(aKw hd i).symm⟩
theorem uN(w:Nat):2^w-1<2^w:=by have:=xAf w;omega
theorem yF(n k i:Nat):(n*2^k).testBit i=(decide (k<=i)&&n.testBit (i-k)):=by
 have:=aEL (x:=0) (k:=k) (q:=n) (xAf k) i;rw[yEe] at this;rw[this]
 by_cases c:i<k
 ·rw[if_pos c,dqF (by omega),yBj,yAl]
 ·rw[if_neg c,dqT (by omega),yAn]
theorem aHC{f:Ft}{w:Nat}(k:Nat)(hd:f.N&&&f.O=0):Mk (aAC f k) w (vL w f k):=by
 refine⟨xAj yEr (uN w),xAj yEr (uN w),λ i hi=>?_,λ i hi=>?_⟩
 ·show((f.N*2^k|||(2^k-1))&&&(2^w-1)).testBit i=_
  rw[yAg,xAp,eH,eH,yF,dqT hi,yBh];unfold aAC
  by_cases c:i<k
  ·rw[if_pos c,dqT c,yFq];rfl
  ·rw[if_neg c,dqF c,yDr,dqT (by omega),yAn,gH hd]
 ·show(f.O*2^k&&&(2^w-1)).testBit i=_;rw[yAg,eH,yF,dqT hi,yBh];unfold aAC
  by_cases c:i<k
  ·rw[if_pos c,dqF (by omega),yAl];rfl
  ·rw[if_neg c,dqT (by omega),yAn,gF hd]
theorem aC5(a w:Nat):cY a w<2^w:=by
 apply yCj;intro i hi;rw[nQ,dqF (show ¬ i<w by omega),yDk]
theorem aFQ{n k w:Nat}(h:n<2^w):n/2^k<2^w:=xAj (Nat.div_le_self _ _) h
theorem aF0{f:Ft}{w:Nat}(k:Nat)(hf:FtOk f w)(hd:f.N&&&f.O=0):Mk (aAj f w k) w (mK w f k):=by
 refine⟨yBg (aFQ hf.lN) (aC5 _ _),aFQ hf.lO,λ i hi=>?_,λ i hi=>?_⟩
 ·show(f.N/2^k|||cY (min k w) w).testBit i=_
  rw[xAp,kW,nQ,dqT hi,yBh];unfold aAj
  by_cases c:i+k<w
  ·rw[if_pos c,dqF (by omega),yDr,gH hd,yDe]
  ·rw[if_neg c,dqT (by omega),yFq];rfl
 ·show(f.O/2^k).testBit i=_;rw[kW];unfold aAj
  by_cases c:i+k<w
  ·rw[if_pos c,gF hd,yDe]
  ·rw[if_neg c,cW hf.lO (by omega)];rfl
theorem qZ{n w v:Nat}(h:n<2^w)(hw:0<w)(hv:w<=v){i:Nat}(hi:i<v):(eC n w v).testBit i=n.testBit (min i (w-1)):=by
 rw[aEz h hw hv]
 by_cases c:i<w
 ·rw[if_pos c,yFf (by omega)]
 ·rw[if_neg c,dqT hi,yAn,yEq (by omega)]
theorem aGs{f:Ft}{w:Nat}(k:Nat)(hw:1<=w)(hf:FtOk f w)(hd:f.N&&&f.O=0):Mk (λ i=>aKh f w (i+k)) w (uY w f k):=by
 have hl:∀ n,n<2^w->eC n w (w+k)/2^k<2^w:=λ n hn=>by
  rw[yEi (xAf k),<- yGw];exact tL hn hw (by omega)
 refine⟨hl _ hf.lN,hl _ hf.lO,λ i hi=>?_,λ i hi=>?_⟩
 ·show(eC f.N w (w+k)/2^k).testBit i=(dD f (min (i+k) (w-1))==0);rw[kW,qZ hf.lN hw (by omega) (by omega),gH hd,yDe]
 ·show(eC f.O w (w+k)/2^k).testBit i=(dD f (min (i+k) (w-1))==1);rw[kW,qZ hf.lO hw (by omega) (by omega),gF hd,yDe]
theorem aIR{f:Ft}(v w:Nat)(hd:f.N&&&f.O=0):Mk (dD f) w (wM v w f):=by
 refine⟨xAj yEr (uN w),xAj yEr (uN w),λ i hi=>?_,λ i hi=>?_⟩
 ·show(f.N&&&(2^w-1)).testBit i=_;rw[yAg,eH,dqT hi,yBh,gH hd]
 ·show(f.O&&&(2^w-1)).testBit i=_;rw[yAg,eH,dqT hi,yBh,gF hd]
theorem aHt{n v w:Nat}(h:n<2^v)(hv:v<=w):n<2^w:=xAc h (yAq (by decide) hv)
theorem aGZ{f:Ft}{v w:Nat}(hv:v<=w)(hf:FtOk f v)(hd:f.N&&&f.O=0):Mk (aAP f v) w (mL v w f):=by
 refine⟨yBg (aHt hf.lN hv) (aC5 _ _),aHt hf.lO hv,λ i hi=>?_,λ i hi=>?_⟩
 ·show(f.N|||cY (w-v) w).testBit i=_
  rw[xAp,nQ,dqT hi,yBh];unfold aAP
  by_cases c:i<v
  ·rw[if_pos c,dqF (by omega),yDr,gH hd]
  ·rw[if_neg c,dqT (by omega),yFq];rfl
 ·show f.O.testBit i=_;unfold aAP
  by_cases c:i<v
  ·rw[if_pos c,gF hd]
  ·rw[if_neg c,cW hf.lO (by omega)];rfl
theorem aGV{f:Ft}{v w:Nat}(h1:1<=v)(hv:v<=w)(hf:FtOk f v)(hd:f.N&&&f.O=0):Mk (aKh f v) w (vJ v w f):=by
 refine⟨tL hf.lN h1 hv,tL hf.lO h1 hv,λ i hi=>?_,λ i hi=>?_⟩
 ·show(eC f.N v w).testBit i=(dD f (min i (v-1))==0);rw[qZ hf.lN h1 hv hi,gH hd]
 ·show(eC f.O v w).testBit i=(dD f (min i (v-1))==1);rw[qZ hf.lO h1 hv hi,gF hd]
noncomputable def btN(b:Nat)(x y:Nat):Nat:=match b with
 | 0=>if x=0\/y=0 then 0 else if x<2/\y<2 then x*y else 2
 | 1=>if x=1\/y=1 then 1 else if x<2/\y<2 then x+y else 2
 | _=>if x<2/\y<2 then (if x=y then 0 else 1) else 2
theorem iY(f:Ft)(k:Nat):dD f k=0\/dD f k=1\/dD f k=2:=by
 have:=vE f k;omega
noncomputable def sW(b:Nat)(f g:Ft):Ft:=match b with
 | 0=>⟨f.N|||g.N,f.O&&&g.O,min f.A g.A⟩
 | 1=>⟨f.N&&&g.N,f.O|||g.O,min f.A g.A⟩
 | _=>⟨f.N&&&g.N|||f.O&&&g.O,f.N&&&g.O|||f.O&&&g.N,min f.A g.A⟩
theorem aJC(b:Nat)(hb:b=0\/b=1\/b=2){f g:Ft}{w:Nat}(hf:FtOk f w)(hd:f.N&&&f.O=0)(hg:FtOk g w)(he:g.N&&&g.O=0):Mk (λ i=>btN b (dD f i) (dD g i)) w (sW b f g):=by
 have an:∀ {x y:Nat},x<2^w->x&&&y<2^w:=λ h=>xAj yCl h
 rcases hb with rfl | rfl | rfl
 ·refine⟨yBg hf.lN hg.lN,an hf.lO,λ i _=>?_,λ i _=>?_⟩
  ·show(f.N|||g.N).testBit i=_
   rw[xAp,<- gH hd,<- gH he];rcases iY f i with h | h | h<;>rcases iY g i with h' | h' | h'<;>rw[h,h']<;>rfl
  ·show(f.O&&&g.O).testBit i=_;rw[yAg,<- gF hd,<- gF he];rcases iY f i with h | h | h<;>rcases iY g i with h' | h' | h'<;>rw[h,h']<;>rfl
 ·refine⟨an hf.lN,yBg hf.lO hg.lO,λ i _=>?_,λ i _=>?_⟩
  ·show(f.N&&&g.N).testBit i=_;rw[yAg,<- gH hd,<- gH he];rcases iY f i with h | h | h<;>rcases iY g i with h' | h' | h'<;>rw[h,h']<;>rfl
  ·show(f.O|||g.O).testBit i=_
   rw[xAp,<- gF hd,<- gF he];rcases iY f i with h | h | h<;>rcases iY g i with h' | h' | h'<;>rw[h,h']<;>rfl
 ·refine⟨yBg (an hf.lN) (an hf.lO),yBg (an hf.lN) (an hf.lO),λ i _=>?_,λ i _=>?_⟩
  ·show(f.N&&&g.N|||f.O&&&g.O).testBit i=_
   rw[xAp,yAg,yAg,<- gH hd,<- gH he,<- gF hd,<- gF he];rcases iY f i with h | h | h<;>rcases iY g i with h' | h' | h'<;>rw[h,h']<;>rfl
  ·show(f.N&&&g.O|||f.O&&&g.N).testBit i=_
   rw[xAp,yAg,yAg,<- gH hd,<- gH he,<- gF hd,<- gF he];rcases iY f i with h | h | h<;>rcases iY g i with h' | h' | h'<;>rw[h,h']<;>rfl
noncomputable def rs(x:Int)(w:Nat):Nat:=(x%((2^w:Nat):Int)).toNat
theorem oA(x:Int)(w:Nat):((rs x w:Nat):Int)=x%((2^w:Nat):Int):=by
 unfold rs;have:(0:Int)<((2^w:Nat):Int):=by have:=xAf w;omega
 have:=Int.emod_nonneg x (b:=((2^w:Nat):Int)) (by omega)
 omega
theorem oD(x:Int)(w:Nat):rs x w<2^w:=by
 have h:=oA x w;have:(0:Int)<((2^w:Nat):Int):=by have:=xAf w;omega
 have:=yGl x this;omega
theorem aTj{x:Int}{w:Nat}(h0:0<=x)(h1:x<((2^w:Nat):Int)):((rs x w:Nat):Int)=x:=by
 rw[oA,Int.emod_eq_of_lt h0 h1]
theorem aRG(x:Int){w L:Nat}(h:L<=w):rs x w%2^L=rs x L:=by
 have e:((rs x w%2^L:Nat):Int)=((rs x L:Nat):Int):=by
  rw[yEs,oA,oA];exact Int.emod_emod_of_dvd x (by
   have:(2:Nat)^L ∣ 2^w:=Nat.pow_dvd_pow 2 h;exact Int.natCast_dvd_natCast.mpr this)
 omega
theorem aQN(x:Int){w L i:Nat}(h:L<=w)(hi:i<L):(rs x w).testBit i=(rs x L).testBit i:=by
 rw[<- aRG x h,yBr,dqT hi,yAn]
theorem uW{n i:Nat}(h:i<lr n):n.testBit i=true:=by
 rw[aOY] at h;have h1:=aGl _ i h;have h2:(oN n (bl n+1)).getD i false=true:=by rw[xAh,h1];rfl
 rw[aMt,yAu] at h2;exact h2.2
theorem aTR{n w:Nat}(h:n<2^w):lr n<=w:=by
 by_cases c:lr n<=w
 ·exact c
 ·have:=uW (n:=n) (i:=w) (by omega)
  rw[cW h (yAc _)] at this;cases this
theorem aCs{x y:Nat}(h:∀ i,x.testBit i=true->y.testBit i=true):x<=y:=by
 have:y&&&x=x:=by
  rw[aFl];exact h
 rw[<- this];exact yCl
theorem aIK{x y w:Nat}(hx:x<2^w)(hy:y<2^w)(h:∀ i,x.testBit i=true->y.testBit i=false):y<=2^w-1-x:=by
 refine aCs (y:=qI x w) λ i hi=>?_
 have hiw:i<w:=by
  by_cases c:i<w
  ·exact c
  ·rw[cW hy (by omega)] at hi
   cases hi
 rw[rF hx,dqT hiw,yAn];cases q:x.testBit i with
 | false=>rfl
 | true=>rw[h i q] at hi;cases hi
theorem aAx{f:Ft}{n w:Nat}(h:Hd f n w):f.O<=n:=aCs h.2.1
theorem aAz{f:Ft}{n w:Nat}(k:FtOk f w)(hn:n<2^w)(h:Hd f n w):n<=2^w-1-f.N:=aIK k.lN hn h.1
theorem aII{f:Ft}{n w L:Nat}(h:Hd f n w)(hk:∀ i,i<L->(f.N|||f.O).testBit i=true):n%2^L=f.O%2^L:=by
 apply xAm;intro i;rw[yBr,yBr]
 by_cases c:i<L
 ·rw[dqT c,yAn,yAn];have q:=hk i c;rw[xAp] at q;cases o:f.O.testBit i with
  | true=>exact h.2.1 i o
  | false =>
    rw[o,yDr] at q;exact h.1 i q
 ·rw[dqF c,yAl,yAl]
inductive Sw where | add | sub | mul
noncomputable def Sw.oc:Sw->Int->Int->Int
 | .add,a,b=>a+b
 | .sub,a,b=>a-b
 | .mul,a,b=>a*b
theorem aE5{a b:Nat}{L:Nat}(h:a%2^L=b%2^L):((a:Nat):Int)%((2^L:Nat):Int)=((b:Nat):Int)%((2^L:Nat):Int):=by
 rw[<- yEs,<- yEs,h]
theorem aR6(s:Sw){a b c e:Nat}{L:Nat}(h1:a%2^L=c%2^L)(h2:b%2^L=e%2^L):rs (s.oc a b) L=rs (s.oc c e) L:=by
 have g1:=aE5 h1;have g2:=aE5 h2;have:s.oc a b%((2^L:Nat):Int)=s.oc c e%((2^L:Nat):Int):=by
  cases s with
  | add=>show((a:Nat)+(b:Nat):Int)%_=((c:Nat)+(e:Nat):Int)%_;rw[Int.add_emod,g1,g2,<- Int.add_emod]
  | sub=>show((a:Nat)-(b:Nat):Int)%_=((c:Nat)-(e:Nat):Int)%_;rw[Int.sub_emod,g1,g2,<- Int.sub_emod]
  | mul=>show((a:Nat)*(b:Nat):Int)%_=((c:Nat)*(e:Nat):Int)%_;rw[Int.mul_emod,g1,g2,<- Int.mul_emod]
 unfold rs;rw[this]
noncomputable def fW(f g:Ft):Nat:=lr ((f.N|||f.O)&&&(g.N|||g.O))
theorem aCw{f g:Ft}{w:Nat}(k:FtOk f w):fW f g<=w:=aTR (xAj yCl (yBg k.lN k.lO))
noncomputable def kD(s:Sw)(f g:Ft):Nat:=rs (s.oc (f.O:Nat) (g.O:Nat)) (fW f g)
noncomputable def sP(s:Sw)(f g:Ft):Nat:=(2^fW f g-1)^^^kD s f g
theorem aGG(s:Sw){f g:Ft}{a b w:Nat}(k:FtOk f w)(h1:Hd f a w)(h2:Hd g b w){i:Nat}(hi:i<fW f g):(rs (s.oc (a:Nat) (b:Nat)) w).testBit i=(kD s f g).testBit i:=by
 have hk:∀ i,i<fW f g->(f.N|||f.O).testBit i=true/\(g.N|||g.O).testBit i=true:=λ i hi=>by
  have:=uW hi;rw[yAg,yAu] at this;exact this
 rw[aQN _ (aCw k) hi,aR6 s (aII h1 λ i hi=>(hk i hi).1) (aII h2 λ i hi=>(hk i hi).2)]
 rfl
theorem aNk{s:Sw}{f g:Ft}{i:Nat}(h:(kD s f g).testBit i=true):i<fW f g:=by
 by_cases c:i<fW f g
 ·exact c
 ·have hl:kD s f g<2^fW f g:=oD _ _;rw[cW hl (by omega)] at h
  cases h
theorem aNP{s:Sw}{f g:Ft}{i:Nat}(h:(sP s f g).testBit i=true):i<fW f g/\(kD s f g).testBit i=false:=by
 unfold sP at h;rw[yAs,eH] at h;have hl:kD s f g<2^fW f g:=oD _ _
 by_cases c:i<fW f g
 ·rw[dqT c] at h;refine⟨c,?_⟩;cases q:(kD s f g).testBit i with
  | false=>rfl
  | true=>rw[q] at h;cases h
 ·rw[dqF c,cW hl (by omega)] at h
  cases h
noncomputable def gB(s:Sw)(w:Nat)(f g:Ft):Int:=match s with
 | .sub=>(f.O:Nat)-((2^w-1-g.N:Nat):Int)
 | s=>s.oc (f.O:Nat) (g.O:Nat)
noncomputable def fY(s:Sw)(w:Nat)(f g:Ft):Int:=match s with
 | .sub=>((2^w-1-f.N:Nat):Int)-(g.O:Nat)
 | s=>s.oc ((2^w-1-f.N:Nat):Int) ((2^w-1-g.N:Nat):Int)
theorem aIW(s:Sw){f g:Ft}{a b w:Nat}(kf:FtOk f w)(kg:FtOk g w)(ha:a<2^w)(hb:b<2^w)(h1:Hd f a w)(h2:Hd g b w):gB s w f g<=s.oc (a:Nat) (b:Nat)/\s.oc (a:Nat) (b:Nat)<=fY s w f g:=by
 have l1:=aAx h1;have l2:=aAx h2;have m1:=aAz kf ha h1;have m2:=aAz kg hb h2;cases s with
 | add =>
   show((f.O:Nat)+(g.O:Nat):Int)<=(a:Nat)+(b:Nat)/\((a:Nat)+(b:Nat):Int)<=((2^w-1-f.N:Nat):Int)+((2^w-1-g.N:Nat):Int);generalize 2^w-1-f.N=F at *;generalize 2^w-1-g.N=G at *;omega
 | sub =>
   show((f.O:Nat)-((2^w-1-g.N:Nat):Int))<=(a:Nat)-(b:Nat)/\((a:Nat)-(b:Nat):Int)<=((2^w-1-f.N:Nat):Int)-(g.O:Nat);generalize 2^w-1-f.N=F at *;generalize 2^w-1-g.N=G at *;omega
 | mul =>
   show((f.O:Nat)*(g.O:Nat):Int)<=(a:Nat)*(b:Nat)/\((a:Nat)*(b:Nat):Int)<=((2^w-1-f.N:Nat):Int)*((2^w-1-g.N:Nat):Int);rw[<- yFh,<- yFh,<- yFh];exact⟨Int.ofNat_le.mpr (Nat.mul_le_mul l1 l2),Int.ofNat_le.mpr (Nat.mul_le_mul m1 m2)⟩
noncomputable def qK(s:Sw)(w:Nat)(f g:Ft):Nat:=if gB s w f g<0\/fY s w f g>((2^w-1:Nat):Int) then 0 else uB (gB s w f g).toNat (fY s w f g).toNat w
noncomputable def qN(s:Sw)(w:Nat)(f g:Ft):Nat:=if gB s w f g<0\/fY s w f g>((2^w-1:Nat):Int) then 0 else oG (gB s w f g).toNat (fY s w f g).toNat w
theorem aNX{l g w:Nat}(hl:l<2^w)(hg:g<2^w):vF l g w<2^w:=by
 apply yCj;intro i hi;rw[aBW hl hg,dqF (by omega),yAl]
theorem aGg(s:Sw){f g:Ft}{a b w:Nat}(kf:FtOk f w)(kg:FtOk g w)(ha:a<2^w)(hb:b<2^w)(h1:Hd f a w)(h2:Hd g b w) :
 (∀ i,(qK s w f g).testBit i=true->(rs (s.oc (a:Nat) (b:Nat)) w).testBit i=false)/\(∀ i,(qN s w f g).testBit i=true->(rs (s.oc (a:Nat) (b:Nat)) w).testBit i=true)/\qK s w f g<2^w/\qN s w f g<2^w:=by
 have hb':=aIW s kf kg ha hb h1 h2;have hp:=xAf w;unfold qK qN
 by_cases c:gB s w f g<0\/fY s w f g>((2^w-1:Nat):Int)
 ·rw[if_pos c,if_pos c];refine⟨λ i hi=>?_,λ i hi=>?_,hp,hp⟩
  ·rw[yBj] at hi;cases hi
  ·rw[yBj] at hi;cases hi
 ·rw[if_neg c,if_neg c];have e:=aTj (x:=s.oc (a:Nat) (b:Nat)) (w:=w) (by omega) (by omega)
  have q1:(gB s w f g).toNat<=rs (s.oc (a:Nat) (b:Nat)) w:=by omega
  have q2:rs (s.oc (a:Nat) (b:Nat)) w<=(fY s w f g).toNat:=by omega
  have q3:(gB s w f g).toNat<2^w:=by omega
  have q4:(fY s w f g).toNat<2^w:=by omega
  have n1:=aK0 q3 q4 q1 q2;have n2:=aLs q3 q4 q1 q2;rw[zH] at n1;rw[aFl] at n2;have kl:=aNX q3 q4;exact⟨n1,n2,yCa kl (xAj yCl kl),xAj yCl kl⟩
noncomputable def qM(s:Sw)(w:Nat)(f g:Ft):Nat:=match s with
 | .mul=>2^min w (lr f.N+lr g.N)-1
 | _=>0
theorem aHi{n L:Nat}(h:∀ i,i<L->n.testBit i=false):2^L ∣ n:=by
 have:n%2^L=0:=by
  rw[jN];intro i;rw[yBr]
  by_cases c:i<L
  ·rw[h i c,yDk]
  ·rw[dqF c,yAl]
 exact Nat.dvd_of_mod_eq_zero this
theorem aOq(s:Sw){f g:Ft}{a b w:Nat}(h1:Hd f a w)(h2:Hd g b w):∀ i,(qM s w f g).testBit i=true->(rs (s.oc (a:Nat) (b:Nat)) w).testBit i=false:=by
 intro i hi;cases s with
 | add=>rw[show qM .add w f g=0 from rfl,yBj] at hi;cases hi
 | sub=>rw[show qM .sub w f g=0 from rfl,yBj] at hi;cases hi
 | mul =>
   have hi':(2^min w (lr f.N+lr g.N)-1).testBit i=true:=hi;rw[eH,decide_eq_true_eq] at hi';obtain⟨c,hc⟩:=aHi (L:=lr f.N) (n:=a) λ i hi=>h1.1 i (uW hi)
   obtain⟨e,he⟩:=aHi (L:=lr g.N) (n:=b) λ i hi=>h2.1 i (uW hi)
   have ex:rs (Sw.mul.oc (a:Nat) (b:Nat)) w=a*b%2^w:=by
    have:=oA (Sw.mul.oc (a:Nat) (b:Nat)) w;have e2:Sw.mul.oc (a:Nat) (b:Nat)=((a*b:Nat):Int):=(yFh a b).symm;rw[e2,<- yEs] at this;rw[e2];omega
   rw[ex,yBr,dqT (by omega),yAn]
   have:a*b=c*e*2^(lr f.N+lr g.N):=by
    rw[hc,he,yGw];simp only[yHg,Nat.mul_left_comm,Nat.mul_assoc]
   rw[this,yF,dqF (by omega),yAl]
theorem aC2{n w a:Nat}(hn:n<2^w)(ha:a<=w):((∀ i,w-a<=i->i<w->n.testBit i=true)\/(∀ i,w-a<=i->i<w->n.testBit i=false)) ↔ 2^w-2^(w-a)<=n\/n<2^(w-a):=by
 have hp:=xAf (w-a);have e1:(2:Nat)^w=2^a*2^(w-a):=by rw[<- yGw,show a+(w-a)=w by omega]
 have hpa:=xAf a;rw[<- aNT hn ha,<- aM7 hn ha];have q0:n/2^(w-a)=0 ↔ n<2^(w-a):=by
  rw[Nat.div_eq_zero_iff];omega
 have q1:n/2^(w-a)=2^a-1 ↔ 2^w-2^(w-a)<=n:=by
  have es:(2^a-1)*2^(w-a)=2^w-2^(w-a):=by rw[Nat.sub_mul,Nat.one_mul,<- e1]
  constructor
  ·intro h;have:=Nat.div_mul_le_self n (2^(w-a));rw[h,es] at this;exact this
  ·intro h;have g1:2^a-1<=n/2^(w-a):=by
    rw[Nat.le_div_iff_mul_le hp,es];exact h
   have g2:n/2^(w-a)<2^a:=by
    rw[yEi hp,<- e1];exact hn
   omega
 rw[q0,q1]
noncomputable def kM(s:Sw)(f g:Ft):Nat:=match s with
 | .mul=>1
 | _=>max 1 (min f.A g.A-1)
theorem rD{n w a m:Nat}(ha:m<=a)(h:(∀ i,w-a<=i->i<w->n.testBit i=true)\/(∀ i,w-a<=i->i<w->n.testBit i=false)):(∀ i,w-m<=i->i<w->n.testBit i=true)\/(∀ i,w-m<=i->i<w->n.testBit i=false):=by
 rcases h with h | h
 ·exact .inl λ i a b=>h i (by omega) b
 ·exact .inr λ i a b=>h i (by omega) b
theorem kY(n w:Nat):(∀ i,w-1<=i->i<w->n.testBit i=true)\/(∀ i,w-1<=i->i<w->n.testBit i=false):=by
 cases c:n.testBit (w-1) with
 | true=>exact .inl λ i h1 h2=>by rw[show i=w-1 by omega];exact c
 | false=>exact .inr λ i h1 h2=>by rw[show i=w-1 by omega];exact c
theorem aIt{a T W:Nat}(ha:a<W)(h:W-T<=a\/a<T)(hT:T<=W):∃ x k:Int,((a:Nat):Int)=x+k*((W:Nat):Int) /\ -((T:Nat):Int)<=x/\x<((T:Nat):Int):=by
 rcases h with h | h
 ·exact⟨(a:Int)-W,1,by omega,by omega,by omega⟩
 ·exact⟨(a:Int),0,by omega,by omega,by omega⟩
theorem aO8{x W T r k:Int}(h:r=x+k*W)(h1 : -(2*T)<=x)(h2:x<2*T)(hT:2*T<=W)(r0:0<=r)(rW:r<W):W-2*T<=r\/r<2*T:=by
 rcases (show k <= -1\/k=0\/k=1\/2<=k by omega) with c | rfl | rfl | c
 ·have:k*W<=(-1)*W:=yFr c (by omega)
  omega
 ·exact .inr (by omega)
 ·exact .inl (by omega)
 ·have:2*W<=k*W:=yFr c (by omega)
  omega
theorem aR2{x y k l W z:Int}:(x+k*W+(y+l*W))-W*z=x+y+(k+l-z)*W:=by
 rw[Int.sub_mul,Int.add_mul,Int.mul_comm W z];omega
theorem aSz{x y k l W z:Int}:(x+k*W-(y+l*W))-W*z=x-y+(k-l-z)*W:=by
 rw[Int.sub_mul,Int.sub_mul,Int.mul_comm W z];omega
theorem aVa{s:Sw}{f g:Ft}(c:kM s f g≠1):(kM s f g=min f.A g.A-1/\2<=min f.A g.A-1)/\s≠.mul:=by
 cases s with
 | mul=>exact absurd rfl c
 | add =>
   have e:kM .add f g=max 1 (min f.A g.A-1):=rfl;exact⟨by omega,λ h=>nomatch h⟩
 | sub =>
   have e:kM .sub f g=max 1 (min f.A g.A-1):=rfl;exact⟨by omega,λ h=>nomatch h⟩
theorem aPu(s:Sw){f g:Ft}{a b w:Nat}(kf:FtOk f w)(kg:FtOk g w)(ha:a<2^w)(hb:b<2^w)(h1:Hd f a w)(h2:Hd g b w) :
 (∀ i,w-kM s f g<=i->i<w->(rs (s.oc (a:Nat) (b:Nat)) w).testBit i=true)\/(∀ i,w-kM s f g<=i->i<w->(rs (s.oc (a:Nat) (b:Nat)) w).testBit i=false):=by
 by_cases c:kM s f g=1
 ·rw[c];exact kY _ _
 ·have hw:=kf.aw;obtain⟨⟨hA,hm⟩,hs⟩:=aVa c;have g1:min f.A g.A<=f.A:=Nat.min_le_left ..;have g2:min f.A g.A<=g.A:=Nat.min_le_right ..;rw[hA];generalize min f.A g.A=m at *;have hmw:m<=w:=xAi g1 hw;rw[aC2 (oD _ _) (xAi (yGt m 1) hmw)];have a1:=(aC2 ha hmw).mp (rD g1 h1.2.2);have a2:=(aC2 hb hmw).mp (rD g2 h2.2.2);have e:(2:Nat)^(w-(m-1))=2*2^(w-m):=by
   rw[show w-(m-1)=w-m+1 by omega,yEy,yHg]
  have hT:2*2^(w-m)<=2^w:=by
   rw[<- e];exact yAq (by decide) (yGt ..)
  rw[e];have hT1:2^(w-m)<=2^w:=yAq (by decide) (yGt ..)
  obtain⟨x,k,e1,x1,x2⟩:=aIt ha a1 hT1;obtain⟨y,l,e2,y1,y2⟩:=aIt hb a2 hT1;have hr:=oA (s.oc (a:Nat) (b:Nat)) w;have hl:=oD (s.oc (a:Nat) (b:Nat)) w;rw[Int.emod_def] at hr;generalize rs (s.oc (a:Nat) (b:Nat)) w=r at *;generalize s.oc (a:Nat) (b:Nat)/((2^w:Nat):Int)=z at *;generalize (2:Nat)^w=W at *;generalize (2:Nat)^(w-m)=T at *;clear a1 a2 h1 h2 e g1 g2 hmw hw hm hA c;have bJ:∀ {x k:Int},((r:Nat):Int)=x+k*((W:Nat):Int) -> -(2*((T:Nat):Int))<=x->x<2*((T:Nat):Int)->W-2*T<=r\/r<2*T:=λ q1 q2 q3=>by
   rcases aO8 q1 q2 q3 (by omega) (by omega) (by omega) with q | q
   ·exact .inl (by omega)
   ·exact .inr (by omega)
  cases s with
  | mul=>exact absurd rfl hs
  | add =>
    have hk:((r:Nat):Int)=((a:Nat):Int)+((b:Nat):Int)-((W:Nat):Int)*z:=hr;rw[e1,e2,aR2] at hk;exact bJ hk (by omega) (by omega)
  | sub =>
    have hk:((r:Nat):Int)=((a:Nat):Int)-((b:Nat):Int)-((W:Nat):Int)*z:=hr;rw[e1,e2,aSz] at hk;exact bJ hk (by omega) (by omega)
noncomputable def wQ(s:Sw)(w:Nat)(f g:Ft):Ft:=⟨sP s f g|||qK s w f g|||qM s w f g,kD s f g|||qN s w f g,kM s f g⟩
theorem aNa(s:Sw){f g:Ft}{a b w:Nat}(kf:FtOk f w)(kg:FtOk g w)(ha:a<2^w)(hb:b<2^w)(h1:Hd f a w)(h2:Hd g b w):Hd (wQ s w f g) (rs (s.oc (a:Nat) (b:Nat)) w) w:=by
 obtain⟨t1,t2,_,_⟩:=aGg s kf kg ha hb h1 h2;refine⟨λ i hi=>?_,λ i hi=>?_,aPu s kf kg ha hb h1 h2⟩
 ·have hi':(sP s f g|||qK s w f g|||qM s w f g).testBit i=true:=hi
  rw[xAp,xAp,yEg,yEg] at hi';rcases hi' with (q | q) | q
  ·obtain⟨q1,q2⟩:=aNP q;rw[aGG s kf h1 h2 q1,q2]
  ·exact t1 i q
  ·exact aOq s h1 h2 i q
 ·have hi':(kD s f g|||qN s w f g).testBit i=true:=hi
  rw[xAp,yEg] at hi';rcases hi' with q | q
  ·rw[aGG s kf h1 h2 (aNk q),q]
  ·exact t2 i q
theorem aBZ{n v w:Nat}(h:n<2^v)(hv:v<=w):n<2^w:=xAc h (yAq (by decide) hv)
theorem aR4(s:Sw){f g:Ft}{a b w:Nat}(kf:FtOk f w)(kg:FtOk g w)(ha:a<2^w)(hb:b<2^w)(h1:Hd f a w)(h2:Hd g b w):FtOk (wQ s w f g) w:=by
 obtain⟨_,_,t3,t4⟩:=aGg s kf kg ha hb h1 h2;have hL:=aCw (g:=g) kf;have hO:kD s f g<2^fW f g:=oD _ _;have hN:sP s f g<2^fW f g:=yCa (by have:=xAf (fW f g);omega) hO
 have hl:qM s w f g<2^w:=by
  have:=xAf w;cases s with
  | add=>exact this
  | sub=>exact this
  | mul=>exact aBZ (v:=min w (lr f.N+lr g.N)) (by show 2^min w (lr f.N+lr g.N)-1<_;have:=xAf (min w (lr f.N+lr g.N));omega) (by omega)
 have q1:=kf.aw;have q2:=kf.a1;refine⟨yBg (yBg (aBZ hN hL) t3) hl,yBg (aBZ hO hL) t4,?_,?_⟩
 ·show 1<=kM s f g;cases s with
  | mul=>exact yAc 1
  | add=>show 1<=max 1 (min f.A g.A-1);omega
  | sub=>show 1<=max 1 (min f.A g.A-1);omega
 ·show kM s f g<=w;cases s with
  | mul=>show 1<=w;omega
  | add=>show max 1 (min f.A g.A-1)<=w;omega
  | sub=>show max 1 (min f.A g.A-1)<=w;omega
noncomputable def F1:Ft:=⟨0,1,1⟩
noncomputable def F0:Ft:=⟨1,0,1⟩
noncomputable def jK:Ft:=⟨0,0,1⟩
noncomputable def l3(a b c e:Int):Ft:=if b<c then F1 else if e<=a then F0 else jK
theorem aKc(a b c e:Int):l3 a b c e=F1\/l3 a b c e=F0\/l3 a b c e=jK:=by
 unfold l3
 split
 ·exact .inl rfl
 ·split
  ·exact .inr (.inl rfl)
  ·exact .inr (.inr rfl)
theorem zO{r k:Nat}(h:r<2^k):r^^^2^k=r+2^k:=by
 apply xAm;intro i;have e:r+2^k=r+1*2^k:=by omega
 rw[e,aEL h,yAs,yBk]
 by_cases c:i<k
 ·rw[if_pos c,dqF (by omega),Bool.xor_false]
 ·rw[if_neg c,cW h (by omega),Bool.false_xor]
  by_cases c2:k=i
  ·subst c2;rw[dqT rfl,yBo];rfl
  ·rw[dqF c2];have:1<2^(i-k):=Nat.one_lt_two_pow (by omega)
   rw[cW this (yAc _)]
theorem aCi{n k:Nat}(h1:2^k<=n)(h2:n<2^(k+1)):n^^^2^k=n-2^k:=by
 have hr:n-2^k<2^k:=by rw[yEy] at h2;omega
 have e:(n-2^k)^^^2^k=n:=by rw[zO hr];omega
 calc n^^^2^k=((n-2^k)^^^2^k)^^^2^k:=by rw[e]
  _=n-2^k:=by rw[Nat.xor_assoc,Nat.xor_self,Nat.xor_zero]
theorem aI7{n w:Nat}(h:n<2^w)(hw:0<w):n.testBit (w-1)=decide (2^(w-1)<=n):=by
 have hb:=aOB h hw;have hp:=xAf (w-1);cases c:n.testBit (w-1) with
 | true =>
   rw[c] at hb;have:2^(w-1)<=n:=by
    by_cases q:n<2^(w-1)
    ·rw[Nat.div_eq_of_lt q] at hb;exact absurd hb (by decide)
    ·omega
   rw[dqT this]
 | false =>
   rw[c] at hb;have:¬ 2^(w-1)<=n:=λ q=>by
    have h3:=Nat.div_pos q hp;rw[hb] at h3;exact absurd h3 (by decide)
   rw[dqF this]
noncomputable def tt(f:Ft)(w:Nat):Ft:=⟨f.N^^^((f.N^^^f.O)&&&cY 1 w),f.O^^^((f.N^^^f.O)&&&cY 1 w),f.A⟩
theorem aGJ{w i:Nat}(hw:1<=w):(cY 1 w).testBit i=decide (w-1=i):=by
 rw[nQ]
 by_cases c:w-1=i
 ·rw[dqT c,dqT (by omega),dqT (by omega)];rfl
 ·rw[dqF c]
  by_cases c2:w-1<=i
  ·rw[dqF (show ¬ i<w by omega),yDk]
  ·rw[dqF c2,yAl]
theorem aNY{f:Ft}{w:Nat}(k:FtOk f w)(hd:f.N&&&f.O=0)(hw:1<=w) :
 (f.N<2^(w-1)/\f.O<2^(w-1)/\(tt f w).N=f.N/\(tt f w).O=f.O)\/(f.N<2^(w-1)/\2^(w-1)<=f.O/\(tt f w).N=f.N+2^(w-1)/\(tt f w).O=f.O-2^(w-1))\/(2^(w-1)<=f.N/\f.O<2^(w-1)/\(tt f w).N=f.N-2^(w-1)/\(tt f w).O=f.O+2^(w-1)):=by
 have hN:=aI7 k.lN (show 0<w by omega)
 have hO:=aI7 k.lO (show 0<w by omega)
 have lN:=k.lN;have lO:=k.lO;have e:w-1+1=w:=by omega
 have tb:∀ b:Bool,(f.N.testBit (w-1) ^^ f.O.testBit (w-1))=b->(f.N^^^f.O)&&&cY 1 w=if b=true then 2^(w-1) else 0:=λ b hb=>by
  apply xAm;intro i;rw[yAg,aGJ hw,yAs]
  by_cases c:w-1=i
  ·subst c;rw[hb,dqT rfl,yBh];cases b
   ·simp
   ·simp
  ·rw[dqF c,yDk];cases b
   ·simp
   ·rw[if_pos rfl,yBk,dqF c]
 by_cases c1:2^(w-1)<=f.N
 ·by_cases c2:2^(w-1)<=f.O
  ·exfalso;have:=(jN _).mp hd (w-1);rw[yAg,hN,hO,dqT c1,dqT c2] at this;cases this
  ·refine .inr (.inr ⟨c1,by omega,?_,?_⟩)
   ·show f.N^^^_=_;rw[tb true (by rw[hN,hO,dqT c1,dqF c2];rfl),if_pos rfl,aCi c1 (by rw[e];exact lN)]
   ·show f.O^^^_=_;rw[tb true (by rw[hN,hO,dqT c1,dqF c2];rfl),if_pos rfl,zO (by omega)]
 ·by_cases c2:2^(w-1)<=f.O
  ·refine .inr (.inl ⟨by omega,c2,?_,?_⟩)
   ·show f.N^^^_=_;rw[tb true (by rw[hN,hO,dqT c2,dqF c1];rfl),if_pos rfl,zO (by omega)]
   ·show f.O^^^_=_;rw[tb true (by rw[hN,hO,dqT c2,dqF c1];rfl),if_pos rfl,aCi c2 (by rw[e];exact lO)]
  ·refine .inl ⟨by omega,by omega,?_,?_⟩
   ·show f.N^^^_=_;rw[tb false (by rw[hN,hO,dqF c2,dqF c1];rfl),if_neg (by decide),Nat.xor_zero]
   ·show f.O^^^_=_;rw[tb false (by rw[hN,hO,dqF c2,dqF c1];rfl),if_neg (by decide),Nat.xor_zero]
theorem aJK{f:Ft}{w:Nat}(k:FtOk f w)(hd:f.N&&&f.O=0)(hw:1<=w):(tt f w).N<2^w:=by
 have h2:(2:Nat)^w=2^(w-1)+2^(w-1):=by
  have:(2:Nat)^(w-1+1)=2^(w-1)*2:=yEy ..;rw[show w-1+1=w by omega] at this
  omega
 have lN:=k.lN;rcases aNY k hd hw with ⟨_,_,h,_⟩ | ⟨_,_,h,_⟩ | ⟨_,_,h,_⟩<;>rw[h]<;>omega
noncomputable def nK(w:Nat)(f g:Ft):Ft:=if f.N&&&g.O|||f.O&&&g.N≠0 then F0 else if (f.N|||f.O)&&&(g.N|||g.O)=2^w-1 then F1 else jK
theorem aS9(w:Nat)(f g:Ft):nK w f g=F1\/nK w f g=F0\/nK w f g=jK:=by
 unfold nK
 split
 ·exact .inr (.inl rfl)
 ·split
  ·exact .inl rfl
  ·exact .inr (.inr rfl)
noncomputable def oX(t f g:Ft):Ft:=if t.O=1 then f else if t.N=1 then g else ⟨f.N&&&g.N,f.O&&&g.O,min f.A g.A⟩
theorem aSL{t f g:Ft}{w:Nat}(hf:FtOk f w)(hg:FtOk g w):FtOk (oX t f g) w:=by
 unfold oX
 split
 ·exact hf
 ·split
  ·exact hg
  ·have h1:=hf.a1;have h2:=hg.a1;have h3:=hf.aw;exact⟨xAj yCl hf.lN,xAj yCl hf.lO,by show 1<=min f.A g.A;omega,by show min f.A g.A<=w;omega⟩
def Al(n w a:Nat):Prop:=(∀ i,w-a<=i->i<w->n.testBit i=true)\/(∀ i,w-a<=i->i<w->n.testBit i=false)
theorem oJ{f:Ft}{a w:Nat}(hd:f.N&&&f.O=0)(h:Hd f a w)(j:Nat):(dD f j=0->a.testBit j=false)/\(dD f j=1->a.testBit j=true):=by
 refine⟨λ e=>h.1 j ?_,λ e=>h.2.1 j ?_⟩
 ·rw[<- gH hd j,beq_iff_eq];exact e
 ·rw[<- gF hd j,beq_iff_eq];exact e
theorem nV{t:Nat->Nat}{n:Nat}{g:Ft}{z:Nat}(m:Mk t n g)(hz:∀ i,i<n->(t i=0->z.testBit i=false)/\(t i=1->z.testBit i=true))(ha:Al z n g.A):Hd g z n:=by
 have hl:∀ {x:Nat},x<2^n->∀ i,x.testBit i=true->i<n:=λ {x} hx i hi=>by
  by_cases c:i<n
  ·exact c
  ·rw[cW hx (by omega)] at hi;cases hi
 refine⟨λ i hi=>?_,λ i hi=>?_,ha⟩
 ·have c:=hl m.lN i hi;rw[m.b0 i c,beq_iff_eq] at hi;exact(hz i c).1 hi
 ·have c:=hl m.lO i hi;rw[m.b1 i c,beq_iff_eq] at hi;exact(hz i c).2 hi
theorem aP7(n w:Nat):rs ((n:Nat):Int) w=n%2^w:=by
 have:=oA ((n:Nat):Int) w;rw[<- yEs] at this;omega
section
variable {f : Ft}{a w : Nat}(hf : FtOk f w)(hd : f.N&&&f.O = 0)(ha : a<2 ^ w)(h : Hd f a w)
include hf hd ha h
theorem aNh:Hd ⟨f.O,f.N,f.A⟩ (2^w-1-a) w:=by
 refine nV (aQB hf hd) (λ i hi=>?_) ?_
 ·rw[aAa ha hi];refine⟨λ e=>?_,λ e=>?_⟩
  ·have:f.O.testBit i=true:=by rw[<- aKy hd i,beq_iff_eq];exact e
   rw[h.2.1 i this];rfl
  ·have:f.N.testBit i=true:=by rw[<- aKw hd i,beq_iff_eq];exact e
   rw[h.1 i this];rfl
 ·rcases h.2.2 with q | q
  ·exact .inr λ i h1 h2=>by rw[aAa ha h2,q i h1 h2];rfl
  ·exact .inl λ i h1 h2=>by rw[aAa ha h2,q i h1 h2];rfl
theorem aMj(k:Nat):Hd (vL w f k) (a*2^k%2^w) w:=by
 have hb:∀ i,i<w->(a*2^k%2^w).testBit i=(decide (k<=i)&&a.testBit (i-k)):=λ i hi=>by
  rw[yBr,dqT hi,yAn,yF]
 refine nV (aHC k hd) (λ i hi=>?_) ?_
 ·rw[hb i hi];unfold aAC
  by_cases c:i<k
  ·rw[if_pos c,dqF (by omega),yAl]
   exact⟨λ _=>rfl,λ e=>nomatch e⟩
  ·rw[if_neg c,dqT (by omega),yAn]
   exact oJ hd h (i-k)
 ·show Al _ w (max 1 (f.A-k))
  by_cases c:f.A-k<=1
  ·rw[Nat.max_eq_left c];exact kY _ _
  ·rw[Nat.max_eq_right (by omega)]
   have:=hf.aw;rcases h.2.2 with q | q
   ·exact .inl λ i h1 h2=>by rw[hb i h2,dqT (by omega),yAn];exact q _ (by omega) (by omega)
   ·exact .inr λ i h1 h2=>by rw[hb i h2,dqT (by omega),yAn];exact q _ (by omega) (by omega)
theorem aLK(k:Nat):Hd (mK w f k) (a/2^k) w:=by
 refine nV (aF0 k hf hd) (λ i hi=>?_) ?_
 ·rw[kW];unfold aAj
  by_cases c:i+k<w
  ·rw[if_pos c,yDe k i];exact oJ hd h (i+k)
  ·rw[if_neg c,cW ha (by omega)]
   exact⟨λ _=>rfl,λ e=>nomatch e⟩
 ·show Al _ w (if k=0 then f.A else 1)
  by_cases c:k=0
  ·subst c;rw[if_pos rfl,yFp,Nat.div_one];exact h.2.2
  ·rw[if_neg c];exact kY _ _
theorem aMa(hw:1<=w)(k:Nat):Hd (uY w f k) (eC a w (w+k)/2^k) w:=by
 have hb:∀ i,i<w->(eC a w (w+k)/2^k).testBit i=a.testBit (min (i+k) (w-1)):=λ i hi=>by
  rw[kW,qZ ha hw (by omega) (by omega),yDe]
 refine nV (aGs k hw hf hd) (λ i hi=>?_) ?_
 ·rw[hb i hi];exact oJ hd h _
 ·have h1:=hf.a1;show Al _ w (min w (f.A+k));rcases h.2.2 with q | q
  ·exact .inl λ i h1 h2=>by rw[hb i h2];exact q _ (by omega) (by omega)
  ·exact .inr λ i h1 h2=>by rw[hb i h2];exact q _ (by omega) (by omega)
theorem aNe{v:Nat}(hv:v<=w):Hd (wM w v f) (a%2^v) v:=by
 have hb:∀ i,i<v->(a%2^v).testBit i=a.testBit i:=λ i hi=>by rw[yBr,dqT hi,yAn]
 refine nV (aIR w v hd) (λ i hi=>?_) ?_
 ·rw[hb i hi];exact oJ hd h _
 ·have h1:=hf.aw;show Al _ v (max 1 (f.A-(w-v)))
  by_cases c:f.A-(w-v)<=1
  ·rw[Nat.max_eq_left c];exact kY _ _
  ·rw[Nat.max_eq_right (by omega)]
   rcases h.2.2 with q | q
   ·exact .inl λ i h1 h2=>by rw[hb i h2];exact q _ (by omega) (by omega)
   ·exact .inr λ i h1 h2=>by rw[hb i h2];exact q _ (by omega) (by omega)
theorem aMw{v:Nat}(hv:w<=v):Hd (mL w v f) a v:=by
 refine nV (aGZ hv hf hd) (λ i hi=>?_) ?_
 ·unfold aAP
  by_cases c:i<w
  ·rw[if_pos c];exact oJ hd h i
  ·rw[if_neg c,cW ha (by omega)]
   exact⟨λ _=>rfl,λ e=>nomatch e⟩
 ·show Al _ v (if v=w then f.A else 1)
  by_cases c:v=w
  ·subst c;rw[if_pos rfl];exact h.2.2
  ·rw[if_neg c];exact kY _ _
theorem aMY(hw:1<=w){v:Nat}(hv:w<=v):Hd (vJ w v f) (eC a w v) v:=by
 have hb:∀ i,i<v->(eC a w v).testBit i=a.testBit (min i (w-1)):=λ i hi=>qZ ha hw hv hi
 refine nV (aGV hw hv hf hd) (λ i hi=>?_) ?_
 ·rw[hb i hi];exact oJ hd h _
 ·have h1:=hf.a1;show Al _ v (f.A+(v-w));rcases h.2.2 with q | q
  ·exact .inl λ i h1 h2=>by rw[hb i h2];exact q _ (by omega) (by omega)
  ·exact .inr λ i h1 h2=>by rw[hb i h2];exact q _ (by omega) (by omega)
end
noncomputable def bwv(b:Nat)(x y:Nat):Nat:=match b with
 | 0=>x&&&y
 | 1=>x|||y
 | _=>x^^^y
noncomputable def bwB(b:Nat)(x y:Bool):Bool:=match b with
 | 0=>x&&y
 | 1=>x||y
 | _=>x ^^ y
theorem aCA{b:Nat}(hb:b=0\/b=1\/b=2)(x y i:Nat):(bwv b x y).testBit i=bwB b (x.testBit i) (y.testBit i):=by
 rcases hb with rfl | rfl | rfl
 ·exact yAg ..
 ·exact xAp ..
 ·exact yAs ..
theorem aQS:∀ (b p q:Fin 3) (x y:Bool),(p.1=0->x=false)/\(p.1=1->x=true)->(q.1=0->y=false)/\(q.1=1->y=true)->(btN b.1 p.1 q.1=0->bwB b.1 x y=false)/\(btN b.1 p.1 q.1=1->bwB b.1 x y=true):=by decide
theorem aOU{b:Nat}(hb:b=0\/b=1\/b=2){f g:Ft}{x y w:Nat}(hf:FtOk f w)(hd:f.N&&&f.O=0)(h:Hd f x w)(hg:FtOk g w)(he:g.N&&&g.O=0)(h':Hd g y w):Hd (sW b f g) (bwv b x y) w:=by
 refine nV (aJC b hb hf hd hg he) (λ i hi=>?_) ?_
 ·rw[aCA hb];exact aQS ⟨b,by omega⟩ ⟨_,vE f i⟩ ⟨_,vE g i⟩ _ _ (oJ hd h i) (oJ he h' i)
 ·have hA:(sW b f g).A=min f.A g.A:=by rcases hb with rfl | rfl | rfl<;>rfl
  rw[hA];have q1:Al x w (min f.A g.A):=rD (by omega) h.2.2
  have q2:Al y w (min f.A g.A):=rD (by omega) h'.2.2
  have go:∀ (p q:Bool),(∀ i,w-min f.A g.A<=i->i<w->x.testBit i=p)->(∀ i,w-min f.A g.A<=i->i<w->y.testBit i=q)->Al (bwv b x y) w (min f.A g.A):=λ p q hp hq=>by
   cases c:bwB b p q with
   | true=>exact .inl λ i h1 h2=>by rw[aCA hb,hp i h1 h2,hq i h1 h2,c]
   | false=>exact .inr λ i h1 h2=>by rw[aCA hb,hp i h1 h2,hq i h1 h2,c]
  rcases q1 with q1 | q1<;>rcases q2 with q2 | q2
  ·exact go _ _ q1 q2
  ·exact go _ _ q1 q2
  ·exact go _ _ q1 q2
  ·exact go _ _ q1 q2
noncomputable def oV(a w:Nat):Int:=if 2^(w-1)<=a then (a:Nat)-((2^w:Nat):Int) else (a:Nat)
theorem rG{i:Nat}{p:Prop}(h:(0:Nat).testBit i=true):p:=by
 rw[yBj] at h;cases h
theorem aGP:Hd F1 1 1:=⟨λ i h=>rG h,λ i h=>h,kY _ _⟩
theorem aHJ:Hd F0 0 1:=⟨λ i h=>yBj i,λ i h=>rG h,kY _ _⟩
theorem aHr(z:Nat):Hd jK z 1:=⟨λ i h=>rG h,λ i h=>rG h,kY _ _⟩
theorem aHw{a b c e x y:Int}(h1:a<=x)(h2:x<=b)(h3:c<=y)(h4:y<=e):Hd (l3 a b c e) (decide (x<y)).toNat 1:=by
 unfold l3
 by_cases c1:b<c
 ·rw[if_pos c1,dqT (by omega)]
  exact aGP
 ·rw[if_neg c1]
  by_cases c2:e<=a
  ·rw[if_pos c2,dqF (by omega)]
   exact aHJ
  ·rw[if_neg c2];exact aHr _
theorem aMe{f g:Ft}{a b w:Nat}(kf:FtOk f w)(kg:FtOk g w)(ha:a<2^w)(hb:b<2^w)(h1:Hd f a w)(h2:Hd g b w):Hd (l3 (f.O:Nat) ((2^w-1-f.N:Nat):Int) (g.O:Nat) ((2^w-1-g.N:Nat):Int)) (decide ((a:Int)<(b:Int))).toNat 1:=
 aHw (Int.ofNat_le.mpr (aAx h1)) (Int.ofNat_le.mpr (aAz kf ha h1)) (Int.ofNat_le.mpr (aAx h2)) (Int.ofNat_le.mpr (aAz kg hb h2))
theorem aMk{f g:Ft}{a b w:Nat}(kf:FtOk f w)(ha:a<2^w)(hb:b<2^w)(h1:Hd f a w)(h2:Hd g b w):Hd (nK w f g) (decide (a=b)).toNat 1:=by
 unfold nK
 by_cases c1:f.N&&&g.O|||f.O&&&g.N=0
 ·rw[if_neg (by simp[c1])]
  by_cases c2:(f.N|||f.O)&&&(g.N|||g.O)=2^w-1
  ·rw[if_pos c2];have:a=b:=by
    apply xAm;intro i
    by_cases c:i<w
    ·have q:((f.N|||f.O)&&&(g.N|||g.O)).testBit i=true:=by rw[c2,eH,dqT c]
     have z:=(jN _).mp c1 i;rw[yAg,xAp,xAp] at q;rw[xAp,yAg,yAg] at z;have p1:=h1.1 i;have p2:=h1.2.1 i;have p3:=h2.1 i;have p4:=h2.2.1 i
     revert q z p1 p2 p3 p4
     generalize f.N.testBit i=y0;generalize f.O.testBit i=y1;generalize g.N.testBit i=y2;generalize g.O.testBit i=y3;generalize a.testBit i=y4;generalize b.testBit i=y5
     revert y0 y1 y2 y3 y4 y5
     decide
    ·rw[cW ha (by omega),cW hb (by omega)]
   rw[dqT this];exact aGP
  ·rw[if_neg c2];exact aHr _
 ·rw[if_pos c1];have:a≠b:=by
   rintro rfl;apply c1;rw[jN];intro i;rw[xAp,yAg,yAg];have p1:=h1.1 i;have p2:=h1.2.1 i;have p3:=h2.1 i;have p4:=h2.2.1 i
   revert p1 p2 p3 p4
   generalize f.N.testBit i=y0;generalize f.O.testBit i=y1;generalize g.N.testBit i=y2;generalize g.O.testBit i=y3;generalize a.testBit i=y4
   revert y0 y1 y2 y3 y4
   decide
  rw[dqF this];exact aHJ
noncomputable def tw(a w:Nat):Int:=oV a w+((2^(w-1):Nat):Int)
theorem aTK{w:Nat}(hw:1<=w):(2:Nat)^w=2^(w-1)+2^(w-1):=by
 have:(2:Nat)^(w-1+1)=2^(w-1)*2:=yEy ..;rw[show w-1+1=w by omega] at this
 omega
theorem aQu{a w:Nat}(ha:a<2^w)(hw:1<=w):((a^^^2^(w-1):Nat):Int)=tw a w:=by
 have h2:=aTK hw;unfold tw oV
 by_cases c:2^(w-1)<=a
 ·rw[if_pos c,aCi c (by rw[show w-1+1=w by omega];exact ha)]
  omega
 ·rw[if_neg c,zO (by omega)]
  omega
theorem aHv{f:Ft}{a w:Nat}(hw:1<=w)(h:Hd f a w)(i:Nat):((tt f w).N.testBit i=true->(a^^^2^(w-1)).testBit i=false)/\((tt f w).O.testBit i=true->(a^^^2^(w-1)).testBit i=true):=by
 have h1:=h.1 i;have h2:=h.2.1 i;show((f.N^^^((f.N^^^f.O)&&&cY 1 w)).testBit i=true->_)/\((f.O^^^((f.N^^^f.O)&&&cY 1 w)).testBit i=true->_);simp only[yAs,yAg,aGJ hw,yBk];have key:∀ b n o x:Bool,(n=true->x=false)->(o=true->x=true)->((n ^^ ((n ^^ o)&&b))=true->(x ^^ b)=false)/\((o ^^ ((n ^^ o)&&b))=true->(x ^^ b)=true):=by decide
 exact key _ _ _ _ h1 h2
theorem aIZ{f:Ft}{a w:Nat}(kf:FtOk f w)(hd:f.N&&&f.O=0)(hw:1<=w)(ha:a<2^w)(h:Hd f a w):(((tt f w).O:Nat):Int)<=tw a w/\tw a w<=((2^w-1-(tt f w).N:Nat):Int):=by
 have hp:2^(w-1)<2^w:=yCq (by decide) (by omega)
 have lN:(tt f w).N<2^w:=yCa kf.lN (xAj yEr (aC5 1 w));rw[<- aQu ha hw];exact⟨Int.ofNat_le.mpr (aCs λ i=>(aHv hw h i).2),Int.ofNat_le.mpr (aIK lN (yCa ha hp) λ i=>(aHv hw h i).1)⟩
theorem aLS{f g:Ft}{a b w:Nat}(kf:FtOk f w)(kg:FtOk g w)(fd:f.N&&&f.O=0)(gd:g.N&&&g.O=0)(hw:1<=w)(ha:a<2^w)(hb:b<2^w)(h1:Hd f a w)(h2:Hd g b w):Hd (l3 ((tt f w).O:Nat) ((2^w-1-(tt f w).N:Nat):Int) ((tt g w).O:Nat) ((2^w-1-(tt g w).N:Nat):Int)) (decide (oV a w<oV b w)).toNat 1:=by
 have i1:=aIZ kf fd hw ha h1;have i2:=aIZ kg gd hw hb h2;have e:decide (oV a w<oV b w)=decide (tw a w<tw b w):=by
  rw[decide_eq_decide];unfold tw;omega
 rw[e];exact aHw i1.1 i1.2 i2.1 i2.2
theorem aME{t f g:Ft}{c a b w:Nat}(ht:Hd t c 1)(hc:c<2)(h1:Hd f a w)(h2:Hd g b w):Hd (oX t f g) (if c=1 then a else b) w:=by
 unfold oX
 by_cases c1:t.O=1
 ·have:c=1:=by
   have:=ht.2.1 0 (by rw[c1];rfl)
   rcases (show c=0\/c=1 by omega) with rfl | rfl
   ·cases this
   ·rfl
  rw[if_pos c1,if_pos this];exact h1
 ·rw[if_neg c1]
  by_cases c2:t.N=1
  ·have:c=0:=by
    have:=ht.1 0 (by rw[c2];rfl)
    rcases (show c=0\/c=1 by omega) with rfl | rfl
    ·rfl
    ·cases this
   rw[if_pos c2,if_neg (by omega)]
   exact h2
  ·rw[if_neg c2];have go:∀ {z:Nat}{h:Ft},Hd h z w->(∀ i,(f.N&&&g.N).testBit i=true->h.N.testBit i=true)->(∀ i,(f.O&&&g.O).testBit i=true->h.O.testBit i=true)->min f.A g.A<=h.A->Hd ⟨f.N&&&g.N,f.O&&&g.O,min f.A g.A⟩ z w:=λ {z h} q q1 q2 q3 =>
    ⟨λ i hi=>q.1 i (q1 i hi),λ i hi=>q.2.1 i (q2 i hi),rD q3 q.2.2⟩
   have an:∀ {x y:Nat} i,(x&&&y).testBit i=true->x.testBit i=true/\y.testBit i=true:=λ i hi=>by
    rw[yAg,yAu] at hi;exact hi
   split
   ·exact go h1 (λ i hi=>(an i hi).1) (λ i hi=>(an i hi).1) (by omega)
   ·exact go h2 (λ i hi=>(an i hi).2) (λ i hi=>(an i hi).2) (by omega)
theorem aUZ(a b:D):aO (.tuple [a,b]) (.int 0)=qq a:=rfl
theorem aT3(a b:D):aO (.tuple [a,b]) (.int 1)=qq b:=rfl
theorem aO6(a:Wd):aJ .In (.str a.s) (.tuple [.str "add",.str "sub",.str "mul"])=qq (.bool (decide (a=.add\/a=.sub\/a=.mul))):=by cases a<;>rfl
theorem aUT(a:Wd):aJ .In (.str a.s) (.tuple [.str "and",.str "or",.str "xor"])=qq (.bool (decide (a=.and\/a=.or\/a=.xor))):=by cases a<;>rfl
theorem fJ{C:Calls}{i:Nat}{j:Int}{env:aY}{R x:D}{S:aC}(h:env[i]? = qq (qq (.d R)))(e:aO R (.int j)=qq x):ev C (.ix (.var i) (.int j)) env S=qq (.d x,S):=by
 simp only[gS0,h,e]
noncomputable abbrev oe(R Wi Fs:D)(wd:Wd)(v:Int):aY:=[qq (.d R),qq (.d Wi),qq (.d Fs),qq (.d (.str wd.s)),qq (.d (.int v))]
section
variable (C : Calls)(R Wi Fs : D)(v : Int)(S : aC)(wd : Wd)
theorem nB:tv C (.cmp .Eq (.var 3) (.str "in")) (oe R Wi Fs wd v) S=qq (decide (wd=.in),S):=dN rfl (bH wd .in)
theorem oH:tv C (.cmp .Eq (.var 3) (.str "num")) (oe R Wi Fs wd v) S=qq (decide (wd=.num),S):=dN rfl (bH wd .num)
theorem pW:tv C (.cmp .Eq (.var 3) (.str "not")) (oe R Wi Fs wd v) S=qq (decide (wd=.not),S):=dN rfl (bH wd .not)
theorem aCS:tv C (.cmp .Eq (.var 3) (.str "pick")) (oe R Wi Fs wd v) S=qq (decide (wd=.pick),S):=dN rfl (bH wd .pick)
theorem rJ:tv C (.cmp .In (.var 3) (.con "SUMS" aCY)) (oe R Wi Fs wd v) S=qq (decide (wd=.add\/wd=.sub\/wd=.mul),S):=jU rfl rfl (aO6 wd)
theorem tW:tv C (.cmp .In (.var 3) (.con "SHIFTS" pH)) (oe R Wi Fs wd v) S=qq (decide (wd=.left\/wd=.right\/wd=.slide),S):=jU rfl rfl (tY wd)
theorem aAt:tv C (.cmp .In (.var 3) (.con "COMPARES" tN)) (oe R Wi Fs wd v) S=qq (decide (wd=.same\/wd=.less\/wd=.under),S):=jU rfl rfl (zN wd)
theorem aKx:tv C (.cmp .In (.var 3) (.tup (.cons (.str "and") (.cons (.str "or") (.cons (.str "xor") .nil))))) (oe R Wi Fs wd v) S=qq (decide (wd=.and\/wd=.or\/wd=.xor),S):=jU rfl rfl (aUT wd)
end
theorem aRa{wd:Wd}(h:wd=.cut\/wd=.wide\/wd=.sign):¬ wd=.in/\¬ wd=.num/\¬ wd=.not/\¬ (wd=.add\/wd=.sub\/wd=.mul)/\¬ (wd=.left\/wd=.right\/wd=.slide)/\¬ (wd=.same\/wd=.less\/wd=.under)/\¬ wd=.pick/\¬ (wd=.and\/wd=.or\/wd=.xor):=by
 rcases h with rfl | rfl | rfl<;>decide
theorem aS4{wd:Wd}(h:wd=.and\/wd=.or\/wd=.xor):¬ wd=.in/\¬ wd=.num/\¬ wd=.not/\¬ (wd=.add\/wd=.sub\/wd=.mul)/\¬ (wd=.left\/wd=.right\/wd=.slide)/\¬ (wd=.same\/wd=.less\/wd=.under)/\¬ wd=.pick:=by
 rcases h with rfl | rfl | rfl<;>decide
theorem aTP{wd:Wd}(h:wd=.left\/wd=.right\/wd=.slide):¬ wd=.in/\¬ wd=.num/\¬ wd=.not/\¬ (wd=.add\/wd=.sub\/wd=.mul):=by
 rcases h with rfl | rfl | rfl<;>decide
section
variable (d : Nat)(R Wi Fs : D)(v : Int)(S : aC)
theorem aNJ(f:Ft)(e0:aO R (.int 0)=qq (.str "not"))(e1:aO R (.int 1)=qq (.int v))(ef:aO Fs (.int 0)=qq f.d):cl fns (d+1) 46 [.d R,.d Wi,.d Fs] S=qq (.d (Ft.mk f.O f.N f.A).d,S):=by
 have t1:=nB (aD fns d) R Wi Fs v S .not;have t2:=oH (aD fns d) R Wi Fs v S .not;have t3:=pW (aD fns d) R Wi Fs v S .not;refine fB (S1:=S) rfl d rfl rfl yAh (eJ (S1:=S) (w:=.d (.str Wd.not.s)) (fJ rfl e0) rfl (eJ (S1:=S) (w:=.d (.int v)) (fJ rfl e1) rfl (bQ t1 (bQ t2 (dW t3 (cS ?_))))));simp only[gS0,ef,dG,dO,kA]
theorem aLW(wd:Wd)(bD:wd=.left\/wd=.right\/wd=.slide)(f:Ft)(k:Nat)(g:D)(e0:aO R (.int 0)=qq (.str wd.s))(e1:aO R (.int 1)=qq (.int v))(e3:aO R (.int 3)=qq (.int (k:Nat)))(ef:aO Fs (.int 0)=qq f.d)(hk:cl fns d 39 [.d (.str wd.s),.d (.int v),.d f.d,.d (.int (k:Nat))] S=qq (.d g,S)):cl fns (d+1) 46 [.d R,.d Wi,.d Fs] S=qq (.d g,S):=by
 have t1:=nB (aD fns d) R Wi Fs v S wd;have t2:=oH (aD fns d) R Wi Fs v S wd;have t3:=pW (aD fns d) R Wi Fs v S wd;have t4:=rJ (aD fns d) R Wi Fs v S wd;have t5:=tW (aD fns d) R Wi Fs v S wd;rw[dqT bD] at t5;obtain⟨n1,n2,n3,n4⟩:=aTP bD;rw[dqF n1] at t1;rw[dqF n2] at t2;rw[dqF n3] at t3;rw[dqF n4] at t4;refine fB (S1:=S) rfl d rfl rfl yAh (eJ (S1:=S) (w:=.d (.str wd.s)) (fJ rfl e0) rfl (eJ (S1:=S) (w:=.d (.int v)) (fJ rfl e1) rfl (bQ t1 (bQ t2 (bQ t3 (bQ t4 (dW t5 (cS ?_))))))));simp only[gS0,ef,e3,hk]
theorem aOo(wd:Wd)(bD:wd=.and\/wd=.or\/wd=.xor)(f g:Ft)(e0:aO R (.int 0)=qq (.str wd.s))(e1:aO R (.int 1)=qq (.int v))(ef:aO Fs (.int 0)=qq f.d)(eg:aO Fs (.int 1)=qq g.d):cl fns (d+3) 46 [.d R,.d Wi,.d Fs] S=qq (.d (bwN wd f g).d,S):=by
 have t1:=nB (aD fns (d+2)) R Wi Fs v S wd;have t2:=oH (aD fns (d+2)) R Wi Fs v S wd;have t3:=pW (aD fns (d+2)) R Wi Fs v S wd;have t4:=rJ (aD fns (d+2)) R Wi Fs v S wd;have t5:=tW (aD fns (d+2)) R Wi Fs v S wd;have t6:=aAt (aD fns (d+2)) R Wi Fs v S wd;have t7:=aCS (aD fns (d+2)) R Wi Fs v S wd;have t8:=aKx (aD fns (d+2)) R Wi Fs v S wd;rw[dqT bD] at t8;obtain⟨n1,n2,n3,n4,n5,n6,n7⟩:=aS4 bD;rw[dqF n1] at t1;rw[dqF n2] at t2;rw[dqF n3] at t3;rw[dqF n4] at t4;rw[dqF n5] at t5;rw[dqF n6] at t6;rw[dqF n7] at t7;refine fB (S1:=S) rfl (d+2) rfl rfl yAh (eJ (S1:=S) (w:=.d (.str wd.s)) (fJ rfl e0) rfl (eJ (S1:=S) (w:=.d (.int v)) (fJ rfl e1) rfl (bQ t1 (bQ t2 (bQ t3 (bQ t4 (bQ t5 (bQ t6 (bQ t7 (dW t8 (cS ?_)))))))))));simp only[gS0,ef,eg,aLP d wd bD f g]
theorem aCb(wd:Wd)(bD:wd=.cut\/wd=.wide\/wd=.sign)(f:Ft)(w:Int)(g:D)(e0:aO R (.int 0)=qq (.str wd.s))(e1:aO R (.int 1)=qq (.int v))(ew:aO Wi (.int 0)=qq (.int w))(ef:aO Fs (.int 0)=qq f.d)(hk:cl fns d 40 [.d (.str wd.s),.d (.int w),.d (.int v),.d f.d] S=qq (.d g,S)):cl fns (d+1) 46 [.d R,.d Wi,.d Fs] S=qq (.d g,S):=by
 have t1:=nB (aD fns d) R Wi Fs v S wd;have t2:=oH (aD fns d) R Wi Fs v S wd;have t3:=pW (aD fns d) R Wi Fs v S wd;have t4:=rJ (aD fns d) R Wi Fs v S wd;have t5:=tW (aD fns d) R Wi Fs v S wd;have t6:=aAt (aD fns d) R Wi Fs v S wd;have t7:=aCS (aD fns d) R Wi Fs v S wd;have t8:=aKx (aD fns d) R Wi Fs v S wd;obtain⟨n1,n2,n3,n4,n5,n6,n7,n8⟩:=aRa bD;rw[dqF n1] at t1;rw[dqF n2] at t2;rw[dqF n3] at t3;rw[dqF n4] at t4;rw[dqF n5] at t5;rw[dqF n6] at t6;rw[dqF n7] at t7;rw[dqF n8] at t8;refine fB (S1:=S) rfl d rfl rfl yAh (eJ (S1:=S) (w:=.d (.str wd.s)) (fJ rfl e0) rfl (eJ (S1:=S) (w:=.d (.int v)) (fJ rfl e1) rfl (bQ t1 (bQ t2 (bQ t3 (bQ t4 (bQ t5 (bQ t6 (bQ t7 (bQ t8 (cS ?_)))))))))));simp only[gS0,ew,ef,hk]
theorem aCq(n:Nat)(g:Ft)(e1:aO R (.int 1)=qq (.int (n:Nat)))(ho:cl fns (d+3) 46 [.d R,.d Wi,.d Fs] S=qq (.d g.d,S))(hg:FtOk g n)(hn:n<=64):cl fns (d+4) 47 [.d R,.d Wi,.d Fs] S=qq (.d (gM g n).d,S):=by
 rw[aT rfl (d+3) _ S rfl];simp only[gR1,aJc,ho,e1,aMR d g n hg hn]
end
noncomputable def shN(wd:Wd)(w:Nat)(f:Ft)(k:Nat):Ft:=match wd with
 | .left=>vL w f k
 | .right=>mK w f k
 | _=>uY w f k
theorem aB9(d:Nat)(wd:Wd)(bD:wd=.left\/wd=.right\/wd=.slide)(w:Nat)(f:Ft)(k:Nat)(hf:FtOk f w)(cG:1<=w)(hw:w<=64)(hk:k<=900)(S:aC):cl fns (d+4) 39 [.d (.str wd.s),.d (.int (w:Nat)),.d f.d,.d (.int (k:Nat))] S=qq (.d (shN wd w f k).d,S):=by
 have t1:=dN (C:=aD fns (d+3)) (i:=0) (S:=S) (x:="left") (env:=[qq (.d (.str wd.s)),qq (.d (.int (w:Nat))),qq (.d f.d),qq (.d (.int (k:Nat)))]) rfl (bH wd .left);have t2:=dN (C:=aD fns (d+3)) (i:=0) (S:=S) (x:="right") (env:=[qq (.d (.str wd.s)),qq (.d (.int (w:Nat))),qq (.d f.d),qq (.d (.int (k:Nat)))]) rfl (bH wd .right);rcases bD with rfl | rfl | rfl
 ·refine fB (S1:=S) rfl (d+3) rfl rfl yAh (dW t1 (cS ?_));have hq43:=aPK (d+1) w f k hf hw (by omega)
  simp only[gS0,hq43]
 ·refine fB (S1:=S) rfl (d+3) rfl rfl yAh (bQ t1 (dW t2 (cS ?_)));simp only[gS0,aNq d w f k hw]
 ·refine fB (S1:=S) rfl (d+3) rfl rfl yAh (bQ t1 (bQ t2 (cS ?_)));simp only[gS0,aNn d w f k cG hw hk]
theorem tX(d:Nat)(f:Ft)(S:aC):cl fns (d+1) 22 [.d f.d] S=qq (.d (.int ((f.N|||f.O:Nat):Int)),S):=by
 rw[aT rfl d _ S rfl];simp only[gR1,aEN,dG,dO,cM]
theorem iH(n:Nat):(((n:Nat):Int)==1)=(n==1):=by
 rw[yFd,beq_iff_eq,beq_iff_eq];omega
theorem aHH(d w:Nat)(f g:Ft)(hf:f.N<2^w)(hg:g.N<2^w)(hw:w<=64)(S:aC):cl fns (d+3) 42 [.d (.int (w:Nat)),.d f.d,.d g.d] S=qq (.d (l3 (f.O:Nat) ((2^w-1-f.N:Nat):Int) (g.O:Nat) ((2^w-1-g.N:Nat):Int)).d,S):=by
 have g1:=xY d f w hf hw S;have g2:=xY d g w hg hw S;have l1:=uK (d+1) f S;have l2:=uK (d+1) g S;rw[aT rfl (d+2) _ S rfl];unfold l3
 by_cases c1:((2^w-1-f.N:Nat):Int)<((g.O:Nat):Int)
 ·rw[if_pos c1];simp only[gR1,yH,g1,l2,fA,dqT c1,vP,Tv.d]
 ·rw[if_neg c1]
  by_cases c2:((2^w-1-g.N:Nat):Int)<=((f.O:Nat):Int)
  ·rw[if_pos c2];simp only[gR1,yH,g1,l2,fA,dqF c1,l1,g2,aAn,dqT c2,tZ,Tv.d]
  ·rw[if_neg c2];simp only[gR1,yH,g1,l2,fA,dqF c1,l1,g2,aAn,dqF c2,qV,Tv.d]
theorem yY(d w:Nat)(f:Ft)(cG:1<=w)(hw:w<=64)(S:aC):cl fns (d+3) 43 [.d f.d,.d (.int (w:Nat))] S=qq (.d (tt f w).d,S):=by
 have t:cl fns (d+2) 21 [.d (.int 1),.d (.int (w:Nat))] S=qq (.d (.int ((cY 1 w:Nat):Int)),S):=pF d 1 w S cG hw;rw[aT rfl (d+2) _ S rfl];simp only[gR1,aEV,Ft.d,t,mH,cX]
theorem aOR(d w:Nat)(f g:Ft)(hw:w<=64)(S:aC):cl fns (d+3) 41 [.d (.int (w:Nat)),.d f.d,.d g.d] S=qq (.d (nK w f g).d,S):=by
 rw[aT rfl (d+2) _ S rfl];unfold nK
 by_cases c1:f.N&&&g.O|||f.O&&&g.N=0
 ·have d1:(f.N&&&g.O|||f.O&&&g.N==0)=true:=by rw[beq_iff_eq];exact c1
  rw[if_neg (by simp[c1])]
  by_cases c2:(f.N|||f.O)&&&(g.N|||g.O)=2^w-1
  ·have d2:((f.N|||f.O)&&&(g.N|||g.O)==2^w-1)=true:=by rw[beq_iff_eq];exact c2
   rw[if_pos c2];have hq44:=dH (d+1) w (by omega)
   simp only[gR1,yR,yT (d+1),iX,bT,d1,tX (d+1),cX,hq44,aS,zE,d2,vP,Tv.d]
  ·have d2:((f.N|||f.O)&&&(g.N|||g.O)==2^w-1)=false:=by rw[beq_eq_false_iff_ne];exact c2
   rw[if_neg c2];have hq45:=dH (d+1) w (by omega)
   simp only[gR1,yR,yT (d+1),iX,bT,d1,tX (d+1),cX,hq45,aS,zE,d2,qV,Tv.d]
 ·have d1:(f.N&&&g.O|||f.O&&&g.N==0)=false:=by rw[beq_eq_false_iff_ne];exact c1
  rw[if_pos c1];simp only[gR1,yR,yT (d+1),iX,bT,d1,tZ,Tv.d]
theorem aOu(d:Nat)(t f g:Ft)(S:aC):cl fns (d+1) 45 [.d t.d,.d f.d,.d g.d] S=qq (.d (oX t f g).d,S):=by
 rw[aT rfl d _ S rfl];unfold oX
 by_cases c1:t.O=1
 ·have d1:(t.O==1)=true:=by rw[beq_iff_eq];exact c1
  rw[if_pos c1];simp only[gR1,yN,dO,aS,iH,d1]
 ·have d1:(t.O==1)=false:=by rw[beq_eq_false_iff_ne];exact c1
  rw[if_neg c1]
  by_cases c2:t.N=1
  ·have d2:(t.N==1)=true:=by rw[beq_iff_eq];exact c2
   rw[if_pos c2];simp only[gR1,yN,dO,dG,aS,iH,d1,d2]
  ·have d2:(t.N==1)=false:=by rw[beq_eq_false_iff_ne];exact c2
   rw[if_neg c2];simp only[gR1,yN,dO,dG,kA,aS,iH,d1,d2,cX,kR]
noncomputable def oY(wd:Wd)(w:Nat)(f g:Ft):Ft:=match wd with
 | .same=>nK w f g
 | .less=>l3 (f.O:Nat) ((2^w-1-f.N:Nat):Int) (g.O:Nat) ((2^w-1-g.N:Nat):Int)
 | _=>l3 ((tt f w).O:Nat) ((2^w-1-(tt f w).N:Nat):Int) ((tt g w).O:Nat) ((2^w-1-(tt g w).N:Nat):Int)
theorem aUU(wd:Wd)(w:Nat)(f g:Ft):oY wd w f g=F1\/oY wd w f g=F0\/oY wd w f g=jK:=by
 unfold oY
 split
 ·exact aS9 ..
 ·exact aKc ..
 ·exact aKc ..
structure Ftd(f:Ft)(w:Nat):Prop where
 ok:FtOk f w
 dj:f.N&&&f.O=0
theorem aLL(d:Nat)(wd:Wd)(bD:wd=.same\/wd=.less\/wd=.under)(w:Nat)(f g:Ft)(hf:Ftd f w)(hg:Ftd g w)(cG:1<=w)(hw:w<=64)(S:aC):cl fns (d+4) 44 [.d (.str wd.s),.d (.int (w:Nat)),.d f.d,.d g.d] S=qq (.d (oY wd w f g).d,S):=by
 have t1:=dN (C:=aD fns (d+3)) (i:=0) (S:=S) (x:="same") (env:=[qq (.d (.str wd.s)),qq (.d (.int (w:Nat))),qq (.d f.d),qq (.d g.d)]) rfl (bH wd .same);have t2:=dN (C:=aD fns (d+3)) (i:=0) (S:=S) (x:="less") (env:=[qq (.d (.str wd.s)),qq (.d (.int (w:Nat))),qq (.d f.d),qq (.d g.d)]) rfl (bH wd .less);rcases bD with rfl | rfl | rfl
 ·refine fB (S1:=S) rfl (d+3) rfl rfl yAh (dW t1 (cS ?_));simp only[gS0,aOR d w f g hw]
 ·refine fB (S1:=S) rfl (d+3) rfl rfl yAh (bQ t1 (dW t2 (cS ?_)));simp only[gS0,aHH d w f g hf.ok.lN hg.ok.lN hw]
 ·refine fB (S1:=S) rfl (d+3) rfl rfl yAh (bQ t1 (bQ t2 (cS ?_)));simp only[gS0,yY d w f cG hw,yY d w g cG hw,aHH d w (tt f w) (tt g w) (aJK hf.ok hf.dj cG) (aJK hg.ok hg.dj cG) hw]
noncomputable def Sw.wd:Sw->Wd
 | .add=>.add
 | .sub=>.sub
 | .mul=>.mul
theorem aLq(x:Int)(L:Nat):bR .BitAnd (.int x) (.int ((2^L-1:Nat):Int))=qq (.int ((rs x L:Nat):Int)):=by
 have hp:=xAf L
 by_cases c:0<=x
 ·obtain⟨n,rfl⟩:∃ n:Nat,x=(n:Nat):=⟨x.toNat,by omega⟩
  rw[cX,aP7,yCm]
 ·have h1:decide ((0:Int)<=x)=false:=dqF c;have h2:decide ((0:Int)<=((2^L-1:Nat):Int))=true:=dqT (by omega)
  obtain⟨b,hb⟩:∃ b:Nat,yBm x=(b:Nat):=⟨(yBm x).toNat,by unfold yBm;omega⟩
  have hx:x = -((b:Nat):Int)-1:=by unfold yBm at hb;omega
  have e:(2^L-1)&&&b=b%2^L:=by rw[Nat.and_comm,yCm]
  have hm:=Nat.mod_lt b hp;have hr:=oA x L;have e2:x%((2^L:Nat):Int)=((2^L:Nat):Int)-1-((b%2^L:Nat):Int):=by
   have hd:((b:Nat):Int)=((2^L:Nat):Int)*((b/2^L:Nat):Int)+((b%2^L:Nat):Int):=by
    rw[<- yFh,<- Int.natCast_add,yGc]
   have hx2:x=(((2^L:Nat):Int)-1-((b%2^L:Nat):Int))+((2^L:Nat):Int)*(-((b/2^L:Nat):Int)-1):=by
    rw[hx,hd,Int.mul_sub,Int.mul_neg,Int.mul_one];omega
   rw[hx2,Int.add_mul_emod_self_left,Int.emod_eq_of_lt (by omega) (by omega)]
  simp only[bR,lB];unfold yDv;rw[h1,h2];simp only[hb,yAr,e];congr 2;omega
theorem aBT(d:Nat)(s:Sw)(x y:Nat)(hx:x<2^64)(S:aC):cl fns (d+1) 26 [.d (.str s.wd.s),.d (.int (x:Nat)),.d (.int (y:Nat))] S=qq (.d (.int (s.oc (x:Nat) (y:Nat))),S):=by
 have t1:=dN (C:=aD fns d) (i:=0) (S:=S) (x:="add") (env:=[qq (.d (.str s.wd.s)),qq (.d (.int (x:Nat))),qq (.d (.int (y:Nat)))]) rfl (bH s.wd .add);have t2:=dN (C:=aD fns d) (i:=0) (S:=S) (x:="sub") (env:=[qq (.d (.str s.wd.s)),qq (.d (.int (x:Nat))),qq (.d (.int (y:Nat)))]) rfl (bH s.wd .sub);cases s with
 | add =>
   refine fB (S1:=S) rfl d rfl rfl yAh (dW t1 (cS ?_));simp only[gS0,eD]
 | sub =>
   refine fB (S1:=S) rfl d rfl rfl yAh (bQ t1 (dW t2 (cS ?_)));simp only[gS0,cH]
 | mul =>
   refine fB (S1:=S) rfl d rfl rfl yAh (bQ t1 (bQ t2 (cS ?_)));have hq46:=pG (i:=((x:Nat):Int)) (j:=((y:Nat):Int)) (by omega) (by omega)
   simp only[gS0,hq46]
theorem p64{n w:Nat}(h:n<2^w)(hw:w<=64):n<2^64:=xAc h (yAq (by decide) hw)
theorem aPz(d:Nat)(s:Sw)(w:Nat)(f g:Ft)(hf:FtOk f w)(hw:w<=64)(S:aC):cl fns (d+3) 27 [.d (.str s.wd.s),.d f.d,.d g.d] S=qq (.d (.tuple [.int ((sP s f g:Nat):Int),.int ((kD s f g:Nat):Int)]),S):=by
 have hL:=aCw (g:=g) hf;have e1:=aCX d ((f.N|||f.O)&&&(g.N|||g.O)) S
 have e2:=dH (d+1) (fW f g) (show fW f g<=100000 by omega) S
 rw[aT rfl (d+2) _ S rfl];simp only[evs,fD,aE4,tX (d+1),cX];rw[e1];simp only[evs,show lr ((f.N|||f.O)&&&(g.N|||g.O))=fW f g from rfl]
 rw[e2];simp only[gS0,uK (d+1),aBT (d+1) s f.O g.O (p64 hf.lO hw),aLq,mH]
theorem aMu(d:Nat)(s:Sw)(w:Nat)(f g:Ft)(hf:FtOk f w)(hg:FtOk g w)(hw:w<=64)(S:aC):cl fns (d+3) 29 [.d (.str s.wd.s),.d (.int (w:Nat)),.d f.d,.d g.d] S=qq (.d (.tuple [.int (gB s w f g),.int (fY s w f g)]),S):=by
 have g1:=xY d f w hf.lN hw S;have g2:=xY d g w hg.lN hw S;have l1:=uK (d+1) f S;have l2:=uK (d+1) g S;have hp:=xAf w;have o1:=aBT (d+1) s f.O g.O (p64 hf.lO hw) S;have o2:=aBT (d+1) s (2^w-1-f.N) (2^w-1-g.N) (p64 (w:=w) (by omega) hw) S
 have t1:aJ .Eq (.str s.wd.s) (.str "sub")=qq (.bool (decide (s.wd=.sub))):=bH s.wd .sub;rw[aT rfl (d+2) _ S rfl];cases s with
 | sub =>
   have t:aJ .Eq (.str Sw.sub.wd.s) (.str "sub")=qq (.bool true):=t1;simp only[gR1,zJ,t,g1,g2,l1,l2,cH]
 | add =>
   have t:aJ .Eq (.str Sw.add.wd.s) (.str "sub")=qq (.bool false):=t1;simp only[gR1,zJ,t,g1,g2,l1,l2,o1,o2]
 | mul =>
   have t:aJ .Eq (.str Sw.mul.wd.s) (.str "sub")=qq (.bool false):=t1;simp only[gR1,zJ,t,g1,g2,l1,l2,o1,o2]
theorem aMT(d l g w:Nat)(S:aC)(hl:l<2^w)(hg:g<2^w)(hw:w<=64):cl fns (d+3) 6 [.d (.int (l:Nat)),.d (.int (g:Nat)),.d (.int (w:Nat))] S=qq (.d (.tuple [.int (uB l g w:Nat),.int (oG l g w:Nat)]),S):=by
 have hx:l^^^g<2^10000:=aIm (yCa hl hg) (by omega)
 rw[aT rfl (d+2) _ S rfl];have hq47:=dH (d+1) w (by omega)
 simp only[gR1,aEJ,hq47,mH,zF d (l^^^g) _ hx,cX]
theorem aUX(s:Sw)(w:Nat)(f g:Ft){a b:Nat}(hf:FtOk f w)(hg:FtOk g w)(ha:a<2^w)(hb:b<2^w)(h1:Hd f a w)(h2:Hd g b w):gB s w f g<=fY s w f g:=by
 have:=aIW s hf hg ha hb h1 h2;omega
theorem aOQ(d:Nat)(s:Sw)(w:Nat)(f g:Ft)(hf:FtOk f w)(hg:FtOk g w)(hb:gB s w f g<=fY s w f g)(hw:w<=64)(S:aC):cl fns (d+4) 30 [.d (.str s.wd.s),.d (.int (w:Nat)),.d f.d,.d g.d] S=qq (.d (.tuple [.int ((qK s w f g:Nat):Int),.int ((qN s w f g:Nat):Int)]),S):=by
 have b1:=aMu d s w f g hf hg hw S;have hp:=xAf w;rw[aT rfl (d+3) _ S rfl];unfold qK qN
 by_cases c1:gB s w f g<0
 ·rw[if_pos (.inl c1),if_pos (.inl c1)];simp only[gR1,yJ,b1,fA,dqT c1]
 ·by_cases c2:((2^w-1:Nat):Int)<fY s w f g
  ·rw[if_pos (.inr c2),if_pos (.inr c2)];have hq48:=dH (d+2) w (by omega)
   simp only[gR1,yJ,b1,fA,dqF c1,hq48,jP,dqT c2]
  ·have c:¬ (gB s w f g<0\/fY s w f g>((2^w-1:Nat):Int)):=λ h=>h.elim c1 c2
   rw[if_neg c,if_neg c];obtain⟨l,hl⟩:∃ l:Nat,gB s w f g=(l:Nat):=⟨(gB s w f g).toNat,by omega⟩
   obtain⟨u,hu⟩:∃ u:Nat,fY s w f g=(u:Nat):=⟨(fY s w f g).toNat,by omega⟩
   rw[hl] at c1;rw[hu] at c2;rw[hl,hu] at b1 hb;rw[hl,hu,yAr,yAr];have hq49:=dH (d+2) w (by omega)
   have hq50:=aMT d l u w S (by omega) (by omega) hw
   simp only[gR1,yJ,b1,fA,dqF c1,hq49,jP,dqF c2,hq50]
theorem aO1(d:Nat)(s:Sw)(w:Nat)(f g:Ft)(hw:w<=64)(S:aC):cl fns (d+3) 28 [.d (.str s.wd.s),.d (.int (w:Nat)),.d f.d,.d g.d] S=qq (.d (.int ((qM s w f g:Nat):Int)),S):=by
 rw[aT rfl (d+2) _ S rfl];cases s with
 | add =>
   have t:aJ .NotEq (.str Sw.add.wd.s) (.str "mul")=qq (.bool true):=by kernel_rfl
   simp only[gR1,xU,t]
 | sub =>
   have t:aJ .NotEq (.str Sw.sub.wd.s) (.str "mul")=qq (.bool true):=by kernel_rfl
   simp only[gR1,xU,t]
 | mul =>
   have t:aJ .NotEq (.str Sw.mul.wd.s) (.str "mul")=qq (.bool false):=by kernel_rfl
   have e:((lr f.N:Nat):Int)+((lr g.N:Nat):Int)=((lr f.N+lr g.N:Nat):Int):=by omega
   have hq51:=dH (d+1) (min w (lr f.N+lr g.N)) (by omega)
   simp only[gR1,xU,t,dG,aCX d,eD,e,kR,hq51]
theorem aMG(d:Nat)(s:Sw)(f g:Ft)(S:aC):cl fns (d+1) 31 [.d (.str s.wd.s),.d f.d,.d g.d] S=qq (.d (.int ((kM s f g:Nat):Int)),S):=by
 have e:∀ m:Nat,mX [.int 1,.int (((m:Nat):Int)-1)]=qq (.int ((max 1 (m-1):Nat):Int)):=λ m=>aCe m 1
 rw[aT rfl d _ S rfl];cases s with
 | add =>
   have t:aJ .Eq (.str Sw.add.wd.s) (.str "mul")=qq (.bool false):=bH .add .mul;simp only[gR1,yM,t,kA,kR,cH,e]
 | sub =>
   have t:aJ .Eq (.str Sw.sub.wd.s) (.str "mul")=qq (.bool false):=bH .sub .mul;simp only[gR1,yM,t,kA,kR,cH,e]
 | mul =>
   have t:aJ .Eq (.str Sw.mul.wd.s) (.str "mul")=qq (.bool true):=bH .mul .mul;simp only[gR1,yM,t]
theorem aRu(d:Nat)(s:Sw)(w:Nat)(f g:Ft)(hf:FtOk f w)(hg:FtOk g w)(hb:gB s w f g<=fY s w f g)(hw:w<=64)(S:aC):cl fns (d+5) 32 [.d (.str s.wd.s),.d (.int (w:Nat)),.d f.d,.d g.d] S=qq (.d (wQ s w f g).d,S):=by
 rw[aT rfl (d+4) _ S rfl];simp only[gR1,aFw,aPz (d+1) s w f g hf hw,aOQ d s w f g hf hg hb hw,aUZ,aT3,cM,aO1 (d+1) s w f g hw,aMG (d+3) s f g]
section
variable (d : Nat)(R Wi Fs : D)(v : Nat)(S : aC)
theorem aNB(s:Sw)(f g:Ft)(e0:aO R (.int 0)=qq (.str s.wd.s))(e1:aO R (.int 1)=qq (.int (v:Nat)))(ef:aO Fs (.int 0)=qq f.d)(eg:aO Fs (.int 1)=qq g.d)(hf:FtOk f v)(hg:FtOk g v)(hb:gB s v f g<=fY s v f g)(hv:v<=64):cl fns (d+6) 46 [.d R,.d Wi,.d Fs] S=qq (.d (wQ s v f g).d,S):=by
 have bD:s.wd=.add\/s.wd=.sub\/s.wd=.mul:=by
  cases s
  ·exact .inl rfl
  ·exact .inr (.inl rfl)
  ·exact .inr (.inr rfl)
 have t1:=nB (aD fns (d+5)) R Wi Fs (v:Nat) S s.wd;have t2:=oH (aD fns (d+5)) R Wi Fs (v:Nat) S s.wd;have t3:=pW (aD fns (d+5)) R Wi Fs (v:Nat) S s.wd;have t4:=rJ (aD fns (d+5)) R Wi Fs (v:Nat) S s.wd;rw[dqT bD] at t4;rw[dqF (by rcases bD with h | h | h<;>rw[h]<;>decide)] at t1 t2 t3
 refine fB (S1:=S) rfl (d+5) rfl rfl yAh (eJ (S1:=S) (w:=.d (.str s.wd.s)) (fJ rfl e0) rfl (eJ (S1:=S) (w:=.d (.int (v:Nat))) (fJ rfl e1) rfl (bQ t1 (bQ t2 (bQ t3 (dW t4 (cS ?_)))))));simp only[gS0,ef,eg,aRu d s v f g hf hg hb hv]
end
section
variable {f : Ft}{w : Nat}(hf : FtOk f w)(hd : f.N&&&f.O = 0)(cG : 1 <= w)
include hf hd cG
theorem aOv(k:Nat):FtOk (vL w f k) w:=by
 have m:=aHC (w:=w) k hd;have:=hf.aw;exact⟨m.lN,m.lO,by show 1<=max 1 (f.A-k);omega,by show max 1 (f.A-k)<=w;omega⟩
theorem aNs(k:Nat):FtOk (mK w f k) w:=by
 have m:=aF0 k hf hd;have h1:=hf.aw;have h2:=hf.a1;refine⟨m.lN,m.lO,?_,?_⟩
 ·show 1<=if k=0 then f.A else 1
  split<;>omega
 ·show(if k=0 then f.A else 1)<=w
  split<;>omega
theorem aNz(k:Nat):FtOk (uY w f k) w:=by
 have m:=aGs k cG hf hd;have h1:=hf.a1;exact⟨m.lN,m.lO,by show 1<=min w (f.A+k);omega,by show min w (f.A+k)<=w;omega⟩
theorem aQA{v:Nat}(hv1:1<=v)(hv:v<=w):FtOk (wM w v f) v:=by
 have m:=aIR w v hd;have h1:=hf.aw;exact⟨m.lN,m.lO,by show 1<=max 1 (f.A-(w-v));omega,by show max 1 (f.A-(w-v))<=v;omega⟩
theorem aON{v:Nat}(hv:w<=v):FtOk (mL w v f) v:=by
 have m:=aGZ hv hf hd;have h1:=hf.aw;have h2:=hf.a1;refine⟨m.lN,m.lO,?_,?_⟩
 ·show 1<=if v=w then f.A else 1
  split<;>omega
 ·show(if v=w then f.A else 1)<=v
  split<;>omega
theorem aOr{v:Nat}(hv:w<=v):FtOk (vJ w v f) v:=by
 have m:=aGV cG hv hf hd;have h1:=hf.aw;have h2:=hf.a1;exact⟨m.lN,m.lO,by show 1<=f.A+(v-w);omega,by show f.A+(v-w)<=v;omega⟩
end
theorem aSZ{b:Nat}{f g:Ft}{w:Nat}(hb:b=0\/b=1\/b=2)(hf:FtOk f w)(hd:f.N&&&f.O=0)(hg:FtOk g w)(he:g.N&&&g.O=0):FtOk (sW b f g) w:=by
 have m:=aJC b hb hf hd hg he;have h1:=hf.a1;have h2:=hg.a1;have h3:=hf.aw;rcases hb with rfl | rfl | rfl<;>exact⟨m.lN,m.lO,by show 1<=min f.A g.A;omega,by show min f.A g.A<=w;omega⟩
section
variable (d : Nat)(R Wi Fs : D)(v : Int)(S : aC)
theorem aMz(wd:Wd)(bD:wd=.same\/wd=.less\/wd=.under)(w:Nat)(f g:Ft)(e0:aO R (.int 0)=qq (.str wd.s))(e1:aO R (.int 1)=qq (.int v))(ew:aO Wi (.int 0)=qq (.int (w:Nat)))(ef:aO Fs (.int 0)=qq f.d)(eg:aO Fs (.int 1)=qq g.d)(hf:Ftd f w)(hg:Ftd g w)(cG:1<=w)(hw:w<=64):cl fns (d+5) 46 [.d R,.d Wi,.d Fs] S=qq (.d (oY wd w f g).d,S):=by
 have t1:=nB (aD fns (d+4)) R Wi Fs v S wd;have t2:=oH (aD fns (d+4)) R Wi Fs v S wd;have t3:=pW (aD fns (d+4)) R Wi Fs v S wd;have t4:=rJ (aD fns (d+4)) R Wi Fs v S wd;have t5:=tW (aD fns (d+4)) R Wi Fs v S wd;have t6:=aAt (aD fns (d+4)) R Wi Fs v S wd;rw[dqT bD] at t6;rw[dqF (by rcases bD with rfl | rfl | rfl<;>decide)] at t1 t2 t3 t4 t5
 refine fB (S1:=S) rfl (d+4) rfl rfl yAh (eJ (S1:=S) (w:=.d (.str wd.s)) (fJ rfl e0) rfl (eJ (S1:=S) (w:=.d (.int v)) (fJ rfl e1) rfl (bQ t1 (bQ t2 (bQ t3 (bQ t4 (bQ t5 (dW t6 (cS ?_)))))))));simp only[gS0,ew,ef,eg,aLL d wd bD w f g hf hg cG hw]
theorem aL9(t f g:Ft)(e0:aO R (.int 0)=qq (.str "pick"))(e1:aO R (.int 1)=qq (.int v))(et:aO Fs (.int 0)=qq t.d)(ef:aO Fs (.int 1)=qq f.d)(eg:aO Fs (.int 2)=qq g.d):cl fns (d+2) 46 [.d R,.d Wi,.d Fs] S=qq (.d (oX t f g).d,S):=by
 have t1:=nB (aD fns (d+1)) R Wi Fs v S .pick;have t2:=oH (aD fns (d+1)) R Wi Fs v S .pick;have t3:=pW (aD fns (d+1)) R Wi Fs v S .pick;have t4:=rJ (aD fns (d+1)) R Wi Fs v S .pick;have t5:=tW (aD fns (d+1)) R Wi Fs v S .pick;have t6:=aAt (aD fns (d+1)) R Wi Fs v S .pick;have t7:=aCS (aD fns (d+1)) R Wi Fs v S .pick;refine fB (S1:=S) rfl (d+1) rfl rfl yAh (eJ (S1:=S) (w:=.d (.str Wd.pick.s)) (fJ rfl e0) rfl (eJ (S1:=S) (w:=.d (.int v)) (fJ rfl e1) rfl (bQ t1 (bQ t2 (bQ t3 (bQ t4 (bQ t5 (bQ t6 (dW t7 (cS ?_))))))))));simp only[gS0,et,ef,eg,aOu d t f g]
end
structure Op(f:Ft)(w:Nat):Prop where
 ok:FtOk f w
 ho:∃ a,a<2^w/\Hd f a w
 w1:1<=w
 w2:w<=64
theorem Op.dj{f:Ft}{w:Nat}(o:Op f w):f.N&&&f.O=0:=by
 obtain⟨a,_,h⟩:=o.ho;exact aVP h
noncomputable def aI:Wd->Nat
 | .in | .num=>0
 | .not | .left | .right | .slide | .cut | .wide | .sign=>1
 | .pick=>3
 | _=>2
theorem aOZ(wd:Wd):aBa tF (.str wd.s)=qq (.int (aI wd:Nat)):=by cases wd<;>kernel_rfl
theorem lH(r:Rw):aO r.d (.int 0)=qq (.str r.wd.s):=gQ (xs:=.str r.wd.s::nD r.w::r.args.map nD) (k:=0) rfl
theorem aPc{fa:FE}{fl fh:FO}{env:aY}{S:aC}(r:Rw)(c:Nat)(h1:fa env S=qq (.d r.d,S))(h2:fl env S=qq (qq 2,S))(h3:fh env S=qq (qq ((2+c:Nat):Int),S)):kE fa fl fh env S=qq (.d (.tuple ((r.args.take c).map nD)),S):=by
 have i2:HT.sIx (yHj r.wd.s::nD r.w::r.args.map nD).length 0 (qq 2)=2:=by
  rw[show(2:Int)=((2:Nat):Int) from rfl,HT.sIx_nat]
  simp
 have e:eS (yHj r.wd.s::nD r.w::r.args.map nD) (qq 2) (qq ((2+c:Nat):Int))=(r.args.take c).map nD:=by
  unfold eS;rw[i2,HT.sIx_nat];simp only[List.drop_succ_cons,yEo,yBi,yAb];rw[List.map_take];rcases Nat.le_total c r.args.length with z | z
  ·rw[yFf (by omega),show 2+c-2=c by omega]
  ·rw[yEq (by omega),yBu (by simp),yBu (by simpa using z)]
 unfold kE;rw[h1,oB];simp only[];rw[h2,oB];simp only[];rw[h3,oB];simp only[dr,oB,Rw.d];rw[e]
theorem pE(d:Nat)(r:Rw)(S:aC):cl fns (d+1) 7 [.d r.d] S=qq (.d (.tuple ((r.args.take (aI r.wd)).map nD)),S):=by
 have e2:(2:Int)+((aI r.wd:Nat):Int)=((2+aI r.wd:Nat):Int):=by omega
 have sl:ev (aD fns d) (.sl (.var 0) (.cons (.int 2) .nil) (.cons (.bin .Add (.int 2) (.tab "OPERAND_COUNTS" tF (.ix (.var 0) (.int 0)))) .nil)) [qq (.d r.d)] S=qq (.d (.tuple ((r.args.take (aI r.wd)).map nD)),S):=by
  simp only[aDb];refine aPc r (aI r.wd) (by simp only[evs]) (by simp only[evs,oK]) ?_
  simp only[gS0,oK,lH,aOZ,eD,e2]
 rw[aT rfl d _ S rfl];show((cZ (mW (ev (aD fns d) (.sl (.var 0) (.cons (.int 2) .nil) (.cons (.bin .Add (.int 2) (.tab "OPERAND_COUNTS" tF (.ix (.var 0) (.int 0)))) .nil)))) sF) [qq (.d r.d)] S).bind _=_;simp only[cZ,mW,sl,oB,lQ,yAh]
inductive RwOk:Rw->List Nat->Prop
 | inp {w:Nat} (h1:1<=w) (h2:w<=64):RwOk ⟨.in,w,[]⟩ []
 | num {w n:Nat} (h1:1<=w) (h2:w<=64) (hn:n<2^w):RwOk ⟨.num,w,[n]⟩ []
 | nt {w a:Nat} (h1:1<=w) (h2:w<=64):RwOk ⟨.not,w,[a]⟩ [w]
 | sh {wd:Wd}{w a k:Nat} (h1:1<=w) (h2:w<=64) (bD:wd=.left\/wd=.right\/wd=.slide) (hk:k<64):RwOk ⟨wd,w,[a,k]⟩ [w]
 | cut {w v a:Nat} (h1:1<=w) (hv:w<=v) (h2:v<=64):RwOk ⟨.cut,w,[a]⟩ [v]
 | wide {w v a:Nat} (h1:1<=v) (hv:v<=w) (h2:w<=64):RwOk ⟨.wide,w,[a]⟩ [v]
 | sign {w v a:Nat} (h1:1<=v) (hv:v<=w) (h2:w<=64):RwOk ⟨.sign,w,[a]⟩ [v]
 | bw {wd:Wd}{w a b:Nat} (h1:1<=w) (h2:w<=64) (bD:wd=.and\/wd=.or\/wd=.xor):RwOk ⟨wd,w,[a,b]⟩ [w,w]
 | sm {s:Sw}{w a b:Nat} (h1:1<=w) (h2:w<=64):RwOk ⟨s.wd,w,[a,b]⟩ [w,w]
 | cmp {wd:Wd}{v a b:Nat} (h1:1<=v) (h2:v<=64) (bD:wd=.same\/wd=.less\/wd=.under):RwOk ⟨wd,1,[a,b]⟩ [v,v]
 | pick {w c a b:Nat} (h1:1<=w) (h2:w<=64):RwOk ⟨.pick,w,[c,a,b]⟩ [1,w,w]
noncomputable def sU:List Nat->List Nat->Prop
 | w::ws,n::ns=>n<2^w/\sU ws ns
 | [],[]=>True
 | _,_=>False
theorem aA8{w:Nat}{ns:List Nat}(h:sU [w] ns):∃ a,ns=[a]/\a<2^w:=by
 rcases ns with _ | ⟨a,_ | ⟨b,r⟩⟩
 ·exact h.elim
 ·exact⟨a,rfl,h.1⟩
 ·exact h.2.elim
theorem aJV{w v:Nat}{ns:List Nat}(h:sU [w,v] ns):∃ a b,ns=[a,b]/\a<2^w/\b<2^v:=by
 rcases ns with _ | ⟨a,_ | ⟨b,_ | ⟨c,r⟩⟩⟩
 ·exact h.elim
 ·exact h.2.elim
 ·exact⟨a,b,rfl,h.1,h.2.1⟩
 ·exact h.2.2.elim
theorem aVI{w v u:Nat}{ns:List Nat}(h:sU [w,v,u] ns):∃ a b c,ns=[a,b,c]/\a<2^w/\b<2^v/\c<2^u:=by
 rcases ns with _ | ⟨a,_ | ⟨b,_ | ⟨c,_ | ⟨e,r⟩⟩⟩⟩
 ·exact h.elim
 ·exact h.2.elim
 ·exact h.2.2.elim
 ·exact⟨a,b,c,rfl,h.1,h.2.1,h.2.2.1⟩
 ·exact h.2.2.2.elim
noncomputable def shV(wd:Wd)(w a k:Nat):Nat:=match wd with
 | .left=>a*2^k%2^w
 | .right=>a/2^k
 | _=>eC a w (w+k)/2^k
noncomputable def cmV(wd:Wd)(w a b:Nat):Bool:=match wd with
 | .same=>decide (a=b)
 | .less=>decide ((a:Int)<(b:Int))
 | _=>decide (oV a w<oV b w)
noncomputable def cbV(wd:Wd)(w a b:Nat):Nat:=match wd with
 | .and=>a&&&b
 | .or=>a|||b
 | .xor=>a^^^b
 | .add=>rs ((a:Nat)+(b:Nat):Int) w
 | .sub=>rs ((a:Nat)-(b:Nat):Int) w
 | _=>rs ((a:Nat)*(b:Nat):Int) w
noncomputable def g0(l:List Nat)(i:Nat):Nat:=l.getD i 0
noncomputable def iU(r:Rw)(ws ns:List Nat):Nat:=match r.wd with
 | .in=>0
 | .num=>g0 r.args 0
 | .not=>2^r.w-1-g0 ns 0
 | .left | .right | .slide=>shV r.wd r.w (g0 ns 0) (g0 r.args 1)
 | .cut=>g0 ns 0%2^r.w
 | .wide=>g0 ns 0
 | .sign=>eC (g0 ns 0) (g0 ws 0) r.w
 | .same | .less | .under=>(cmV r.wd (g0 ws 0) (g0 ns 0) (g0 ns 1)).toNat
 | .pick=>if g0 ns 0=1 then g0 ns 1 else g0 ns 2
 | wd=>cbV wd r.w (g0 ns 0) (g0 ns 1)
theorem aOV{n w:Nat}(hn:n<2^w):n^^^(2^w-1)=2^w-1-n:=by
 apply xAm;intro i;rw[yAs,eH];have:=rF hn i;unfold qI at this;rw[this]
 by_cases c:i<w
 ·rw[dqT c,yAn];cases n.testBit i<;>rfl
 ·rw[dqF c,cW hn (by omega)]
  rfl
theorem aIi(wd:Wd):aI wd<=3:=by cases wd<;>decide
theorem aGH(S0:aC)(l:List D)(x:D)(h:l.length<=1000):dP (S0++[qq l]) (.loc S0.length) (.d x)=qq (.d .none,S0++[qq (l++[x])]):=by
 unfold dP;simp only[yAf (yAc S0.length),yBo,yBb];rw[if_pos (by rw[zj];omega)]
 rw[List.set_append_right _ _ (yAc _),yBo];rfl
theorem qY(S0:aC)(l:List D):(S0++[qq l])[S0.length]? = qq (qq l):=by
 rw[yAf (yAc _),yBo];rfl
noncomputable def bB(r:Rw)(l:List Nat):List Nat:=(r.args.take (aI r.wd)).map (g0 l)
theorem aBR{α:Type}{l:List α}{vs:List D}{f:α->D}(h1:vs.length=l.length)(h2:∀ (i:Nat) (a:α),l[i]? = qq a->∃ v,vs[i]? = qq v/\v=f a):vs=l.map f:=by
 apply List.ext_getElem?;intro i;rw[xAb]
 by_cases c:i<l.length
 ·obtain⟨v,h3,rfl⟩:=h2 i l[i] (yAa c);rw[h3,yAa c];rfl
 ·rw[yDf (by omega),yDf (by omega)]
  rfl
theorem uA(d:Nat)(r:Rw)(w:W)(x:D)(f:Nat->D)(S:aC)(hv:∀ aH,dr (S++[qq aH]) w=qq x)(hx:∀ a∈r.args.take (aI r.wd),aO x (nD a)=qq (f a)):cl fns (d+2) 9 [.d r.d,w] S=qq (.d (.tuple ((r.args.take (aI r.wd)).map f)),S):=by
 have cF:(r.args.take (aI r.wd)).length<=3:=by have:=aIi r.wd;rw[yBx];omega
 obtain⟨vs,S',e1,hS',hI,hvl,hq⟩:=aCd (t:=.one 2) (fi:=lv (aD fns (d+1)) (.it (.call 7 (.cons (.var 0) .nil)))) (fe:=ev (aD fns (d+1)) (.ix (.var 1) (.var 2))) (env:=[qq (.d r.d),qq w,qz]) (S:=S) (S1:=S) nD (λ _ S'=>S'=S) (λ a v=>v=f a) (r.args.take (aI r.wd)) (by
  simp only[evs,pE d,fM]) (by rw[zj];omega) rfl (by
  intro a ha;refine⟨_,rfl,?_⟩;rintro j S' aH hj hS rfl;refine⟨f a,S',?_,rfl,rfl,rfl⟩;have hd:∀ {k:D->Option (W×aC)},(dr (S'++[qq aH]) w).bind k=k x:=λ {k}=>by rw[hv aH];rfl
  simp only[aAT,aAh,nF,f2,iN,gN,clr,Tg.slots,yBv,yDx,yGk,yGj,yBq,yBb,oB,hd];show((aO x (nD a)).bind λ z=>qq (W.d z,S'++[qq aH]))=_
  rw[hx a ha];rfl)
 subst hI;have e2:vs=(r.args.take (aI r.wd)).map f:=aBR hvl hq;subst e2;have e1':lv (aD fns (d+1)) aEl [qq (.d r.d),qq w,qz] S'=qq ((r.args.take (aI r.wd)).map f,S'):=e1;rw[aT rfl (d+1) _ S' rfl];simp only[gR1,aEB,e1',lD,lC]
theorem aJw{l:List Nat}{a:Nat}(h:a<l.length):(l.map nD)[a]? = qq (nD (g0 l a)):=by
 rw[xAb,yAa h];show qq (nD l[a])=qq (nD (l.getD a 0));rw[xAh,yAa h];rfl
theorem aHA(d:Nat)(r:Rw)(l:List Nat)(S:aC)(h:∀ a∈r.args.take (aI r.wd),a<l.length):cl fns (d+2) 9 [.d r.d,.d (.tuple (l.map nD))] S=qq (.d (.tuple ((bB r l).map nD)),S):=by
 have:=uA d r (.d (.tuple (l.map nD))) (.tuple (l.map nD)) (λ a=>nD (g0 l a)) S (λ _=>rfl) λ a ha=>gQ (aJw (h a ha))
 rw[this,bB,yBs];rfl
theorem aEv(d:Nat)(rs:List Rw)(o:D)(hl:rs.length<=1000)(S:aC):cl fns (d+1) 11 [.d (.tuple [.tuple (rs.map Rw.d),o])] S=qq (.d (.tuple ((rs.map (·.w)).map nD)),S):=by
 have i0:aO (.tuple [.tuple (rs.map Rw.d),o]) (.int 0)=qq (.tuple (rs.map Rw.d)):=rfl;have hc:lv (aD fns d) aEr [qq (.d (.tuple [.tuple (rs.map Rw.d),o])),qz] S=qq ((rs.map (·.w)).map nD,S):=by
  rw[yBs];refine uP (fi:=lv (aD fns d) (.it (.ix (.var 0) (.int 0)))) (fe:=ev (aD fns d) (.ix (.var 1) (.int 1))) Rw.d (nD ∘ λ r=>r.w) rs ?_ (by rw[zj];omega) λ r hr=>?_
  ·simp only[gS0,i0,fM]
  ·refine⟨_,rfl,λ S'=>?_⟩
   simp only[gS0,clr,yBv,yDx,eK]
 rw[aT rfl d _ S rfl];simp only[gR1,aE9,hc,lD,lC]
noncomputable def gZ:List Rw->List Nat->Prop
 | [],is=>is=[]
 | r::rs,is=>if r.wd=.in then ∃ n is',is=n::is'/\n<2^r.w/\gZ rs is' else gZ rs is
def aDv(rs:List Rw):Prop:=∀ (j:Nat) (r:Rw),rs[j]? = qq r->RwOk r (bB r (rs.map (·.w)))/\∀ a∈r.args.take (aI r.wd),a<j
theorem aHd{W aH:List Nat}(h:∀ (i a w:Nat),aH[i]? = qq a->W[i]? = qq w->a<2^w):∀ (l:List Nat),(∀ a∈l,a<aH.length/\a<W.length)->sU (l.map (g0 W)) (l.map (g0 aH))
 | [],_=>True.intro
 | a::l,hl=>by
   obtain⟨h1,h2⟩:=hl a xAd;refine⟨h a _ _ ?_ ?_,aHd h l λ b hb=>hl b (xAg _ hb)⟩
   ·show aH[a]? = qq (aH.getD a 0);rw[xAh,yAa h1];rfl
   ·show W[a]? = qq (W.getD a 0);rw[xAh,yAa h2];rfl
theorem aSc{r:Rw}{ws ns:List Nat}(h:RwOk r ws)(hl:sU ws ns):iU r ws ns<2^r.w:=by
 have hp:=xAf r.w;cases h with
 | inp=>exact hp
 | num h1 h2 hn=>exact hn
 | nt =>
   obtain⟨x,rfl,hx⟩:=aA8 hl;exact xAj (yGt _ _) (by omega)
 | sh h1 h2 bD hk =>
   obtain⟨x,rfl,hx⟩:=aA8 hl;rcases bD with rfl | rfl | rfl
   ·exact Nat.mod_lt _ hp
   ·exact xAj (Nat.div_le_self _ _) hx
   ·rename_i w a k;show eC x w (w+k)/2^k<2^w;rw[yEi (xAf k),<- yGw];exact tL hx h1 (by omega)
 | cut=>exact Nat.mod_lt _ hp
 | wide h1 hv h2 =>
   obtain⟨x,rfl,hx⟩:=aA8 hl;exact xAc hx (yAq (by decide) hv)
 | sign h1 hv h2 =>
   obtain⟨x,rfl,hx⟩:=aA8 hl;exact tL hx h1 hv
 | bw h1 h2 bD =>
   obtain⟨x,y,rfl,hx,hy⟩:=aJV hl;rcases bD with rfl | rfl | rfl
   ·exact xAj yCl hx
   ·exact yBg hx hy
   ·exact yCa hx hy
 | sm h1 h2 =>
   obtain⟨x,y,rfl,hx,hy⟩:=aJV hl;rename_i s w a b;cases s
   ·exact oD (((x:Nat):Int)+((y:Nat):Int)) w
   ·exact oD (((x:Nat):Int)-((y:Nat):Int)) w
   ·exact oD (((x:Nat):Int)*((y:Nat):Int)) w
 | cmp h1 h2 bD =>
   have q:∀ b:Bool,b.toNat<2^1:=λ b=>by cases b<;>decide
   rcases bD with rfl | rfl | rfl<;>exact q _
 | pick h1 h2 =>
   obtain⟨z,x,y,rfl,hz,hx,hy⟩:=aVI hl;show(if z=1 then x else y)<_
   split
   ·exact hx
   ·exact hy
noncomputable def dZ:List Rw->List Nat->List Nat->List Nat->List Nat
 | [],_,_,aH=>aH
 | r::rs,W,is,aH=>if r.wd=.in then dZ rs W is.tail (aH++[g0 is 0]) else dZ rs W is (aH++[iU r (bB r W) (bB r aH)])
structure Prg(rs:List Rw):Prop where
 l:rs.length<=100
 fit:aDv rs
 ins:∃ is,gZ rs is
 ws:∀ (j:Nat) (r:Rw),rs[j]? = qq r->1<=r.w/\r.w<=64
theorem rO{l:List Nat}{a:Nat}(h:a<l.length):l[a]? = qq (g0 l a):=by
 show l[a]? = qq (l.getD a 0);rw[xAh,yAa h];rfl
theorem aB8:∀ (rs:List Rw) (W is aH:List Nat),∃ t,dZ rs W is aH=aH++t
 | [],W,is,aH=>⟨[],by simp[dZ]⟩
 | r::rs,W,is,aH=>by
   unfold dZ
   split
   ·obtain⟨t,h⟩:=aB8 rs W is.tail (aH++[g0 is 0]);exact⟨[g0 is 0]++t,by rw[h,yCf]⟩
   ·obtain⟨t,h⟩:=aB8 rs W is (aH++[iU r (bB r W) (bB r aH)]);exact⟨[iU r (bB r W) (bB r aH)]++t,by rw[h,yCf]⟩
theorem aCJ:∀ (rs:List Rw) (W is aH:List Nat) (j:Nat) (r:Rw),rs[j]? = qq r->r.wd≠.in->(dZ rs W is aH)[aH.length+j]? = qq (iU r (bB r W) (bB r ((dZ rs W is aH).take (aH.length+j))))
 | [],W,is,aH,j,r,h,_=>by simp at h
 | q::rs,W,is,aH,0,r,h,hw=>by
   cases h;unfold dZ;rw[if_neg hw];obtain⟨t,ht⟩:=aB8 rs W is (aH++[iU q (bB q W) (bB q aH)]);rw[ht,Nat.add_zero,yCf,List.take_left,yAf (yAc _),yBo];rfl
 | q::rs,W,is,aH,j+1,r,h,hw=>by
   have h':rs[j]? = qq r:=by simpa using h
   unfold dZ
   split
   ·have:=aCJ rs W is.tail (aH++[g0 is 0]) j r h' hw;rw[xAo,show aH.length+[g0 is 0].length+j=aH.length+(j+1) by simp;omega] at this
    exact this
   ·have:=aCJ rs W is (aH++[iU q (bB q W) (bB q aH)]) j r h' hw;rw[xAo,show aH.length+[iU q (bB q W) (bB q aH)].length+j=aH.length+(j+1) by simp;omega] at this
    exact this
theorem aM2{r:Rw}{l:List Nat}{m:Nat}(h:∀ a∈r.args.take (aI r.wd),a<m):bB r (l.take m)=bB r l:=by
 unfold bB;refine yCh λ a ha=>?_
 show(l.take m).getD a 0=l.getD a 0;rw[xAh,xAh,yDm (h a ha)]
theorem aRX{rs:List Rw}(hf:aDv rs)(is:List Nat){j:Nat}{r:Rw}(hr:rs[j]? = qq r)(hw:r.wd≠.in):(dZ rs (rs.map (·.w)) is [])[j]? = qq (iU r (bB r (rs.map (·.w))) (bB r (dZ rs (rs.map (·.w)) is []))):=by
 have:=aCJ rs (rs.map (·.w)) is [] j r hr hw;rw[yDb,yEe,aM2 (hf j r hr).2] at this;exact this
theorem aCf:∀ (rs:List Rw) (W is aH:List Nat),(dZ rs W is aH).length=aH.length+rs.length
 | [],_,_,_=>rfl
 | r::rs,W,is,aH=>by
   unfold dZ
   split
   ·rw[aCf rs,xAo];simp;omega
   ·rw[aCf rs,xAo];simp;omega
theorem aGK{W aH:List Nat}{z w:Nat}(h:∀ (i a w:Nat),aH[i]? = qq a->W[i]? = qq w->a<2^w)(hw:W[aH.length]? = qq w)(hz:z<2^w):∀ (i a w:Nat),(aH++[z])[i]? = qq a->W[i]? = qq w->a<2^w:=λ i a v h1 h2=>by
 by_cases c:i<aH.length
 ·rw[xAn c] at h1;exact h i a v h1 h2
 ·have ci:i=aH.length:=by
   have:=(gIm h1).1;simp at this;omega
  subst ci;rw[yAf (yAc _),yBo] at h1;cases h1;rw[hw] at h2;cases h2;exact hz
theorem aCE{rs0:List Rw}(hf:aDv rs0):∀ (rs:List Rw) (is aH:List Nat),rs=rs0.drop aH.length->gZ rs is->(∀ (i a w:Nat),aH[i]? = qq a->(rs0.map (·.w))[i]? = qq w->a<2^w)->∀ (i a w:Nat),(dZ rs (rs0.map (·.w)) is aH)[i]? = qq a->(rs0.map (·.w))[i]? = qq w->a<2^w
 | [],is,aH,_,_,hb=>hb
 | r::rs,is,aH,hd,hi,hb=>by
   have hr:rs0[aH.length]? = qq r:=by
    have:=congrArg (λ l=>l[0]?) hd
    simp only[yBb,List.getElem?_drop,Nat.add_zero] at this;exact this.symm
   have hd':∀ z:Nat,rs=rs0.drop (aH++[z]).length:=λ z=>by
    rw[xAo,List.length_singleton];have:=congrArg List.tail hd;rw[List.tail_drop] at this;exact this
   have hw:(rs0.map (·.w))[aH.length]? = qq r.w:=by rw[xAb,hr];rfl
   have hj:aH.length<rs0.length:=(gIm hr).1;unfold dZ
   split
   ·rename_i c;rw[gZ,if_pos c] at hi;obtain⟨n,is',rfl,hn,hi'⟩:=hi;exact aCE hf rs is' (aH++[n]) (hd' n) hi' (aGK hb hw hn)
   ·rename_i c;rw[gZ,if_neg c] at hi;obtain⟨f1,f2⟩:=hf _ r hr;have lt:=aHd hb (r.args.take (aI r.wd)) λ a ha=>⟨f2 a ha,by have:=f2 a ha;rw[yAb];omega⟩
    exact aCE hf rs is _ (hd' _) hi (aGK hb hw (aSc f1 lt))
theorem aCu{rs:List Rw}(p:Prg rs){is:List Nat}(hi:gZ rs is):(dZ rs (rs.map (·.w)) is []).length=rs.length:=by
 rw[aCf];simp
theorem aIS{rs:List Rw}(p:Prg rs){is:List Nat}(hi:gZ rs is){i a w:Nat}(h1:(dZ rs (rs.map (·.w)) is [])[i]? = qq a)(h2:(rs.map (·.w))[i]? = qq w):a<2^w:=aCE p.fit rs is [] rfl hi (λ i a w h=>by simp at h) i a w h1 h2
theorem aNc{n w:Nat}(hn:n<2^w):(2^w-1)^^^n=2^w-1-n:=by
 rw[Nat.xor_comm];exact aOV hn
noncomputable def sZ(n w:Nat):Ft:=⟨2^w-1-n,n,1⟩
theorem aJf{n w:Nat}(hn:n<2^w)(hw:1<=w):FtOk (sZ n w) w:=⟨by show 2^w-1-n<2^w;have:=xAf w;omega,hn,yAc 1,hw⟩
theorem aPa{n w:Nat}(hn:n<2^w):Hd (sZ n w) n w:=by
 refine⟨λ i hi=>?_,λ i hi=>hi,kY _ _⟩
 have hi':(2^w-1-n).testBit i=true:=hi
 by_cases c:i<w
 ·rw[aAa hn c] at hi';simpa using hi'
 ·exact cW hn (by omega)
theorem aHG{w:Nat}(hw:1<=w):gM jK w=jK:=by
 have u:cV 0 1 w=0:=by
  unfold cV;rw[Nat.zero_and,if_pos rfl]
 have t:tr 0 w=0:=by
  unfold tr;rw[Nat.zero_xor];have:bl (2^w-1)=w:=aFo (uN w) (.inr (by rw[eH,dqT (by omega)]))
  omega
 show Ft.mk (cV 0 1 w) (cV 0 1 w) (vZ 1 (tr (cV 0 1 w) w) (tr (cV 0 1 w) w))=⟨0,0,1⟩;rw[u,t];rfl
theorem aN7(d n w:Nat)(hn:n<2^w)(cG:1<=w)(hw:w<=64)(S:aC):cl fns (d+4) 47 [.d (.tuple [.str "num",.int (w:Nat),.int (n:Nat)]),.d (.tuple []),.d (.tuple [])] S=qq (.d (gM (sZ n w) w).d,S):=by
 have nf:cl fns (d+2) 33 [.d (.int (w:Nat)),.d (.int (n:Nat))] S=qq (.d (sZ n w).d,S):=by
  rw[aT rfl (d+1) _ S rfl];have hq52:=dH d w (by omega)
  simp only[gR1,aFs,hq52,mH,aNc hn]
 have i2:aO (.tuple [.str "num",.int (w:Nat),.int (n:Nat)]) (.int 2)=qq (.int (n:Nat)):=rfl;refine aCq d _ _ _ S w (sZ n w) rfl ?_ (aJf hn cG) hw;have t1:=nB (aD fns (d+2)) (.tuple [.str "num",.int (w:Nat),.int (n:Nat)]) (.tuple []) (.tuple []) (w:Nat) S .num;have t2:=oH (aD fns (d+2)) (.tuple [.str "num",.int (w:Nat),.int (n:Nat)]) (.tuple []) (.tuple []) (w:Nat) S .num;refine fB (S1:=S) rfl (d+2) rfl rfl yAh (eJ (S1:=S) (w:=.d (.str Wd.num.s)) (fJ rfl rfl) rfl (eJ (S1:=S) (w:=.d (.int (w:Nat))) (fJ rfl rfl) rfl (bQ t1 (dW t2 (cS ?_)))));simp only[gS0,i2,nf]
theorem aP0(d w:Nat)(cG:1<=w)(hw:w<=64)(S:aC):cl fns (d+4) 47 [.d (.tuple [.str "in",.int (w:Nat)]),.d (.tuple []),.d (.tuple [])] S=qq (.d jK.d,S):=by
 have t1:=nB (aD fns (d+2)) (.tuple [.str "in",.int (w:Nat)]) (.tuple []) (.tuple []) (w:Nat) S .in;have hk:FtOk jK w:=⟨xAf w,xAf w,yAc 1,cG⟩;have r:=aCq d (.tuple [.str "in",.int (w:Nat)]) (.tuple []) (.tuple []) S w jK rfl (fB (S1:=S) rfl (d+2) rfl rfl yAh (eJ (S1:=S) (w:=.d (.str Wd.in.s)) (fJ rfl rfl) rfl (eJ (S1:=S) (w:=.d (.int (w:Nat))) (fJ rfl rfl) rfl (dW t1 (cS rfl))))) hk hw;rw[aHG cG] at r;exact r
noncomputable def qG:List Ft->List Nat->List Nat->Prop
 | f::Fs,w::ws,n::ns=>(n<2^w/\Hd f n w)/\qG Fs ws ns
 | [],[],[]=>True
 | _,_,_=>False
noncomputable def sK:List Ft->List Nat->Prop
 | f::Fs,w::ws=>Op f w/\sK Fs ws
 | [],[]=>True
 | _,_=>False
structure RG(r:Rw)(ws:List Nat)(Fs:List Ft):Prop where
 g:∃ g:Ft,FtOk g r.w/\(∀ d S,cl fns (d+7) 47 [.d r.d,.d (.tuple (ws.map nD)),.d (.tuple (Fs.map Ft.d))] S=qq (.d (gM g r.w).d,S))/\(∀ ns,qG Fs ws ns->r.wd≠.in->Hd g (iU r ws ns) r.w)/\(r.wd=.in->∀ z,Hd g z r.w)
theorem wK{w:Nat}{Fs:List Ft}(h:sK Fs [w]):∃ f,Fs=[f]/\Op f w:=by
 rcases Fs with _ | ⟨a,_ | ⟨b,r⟩⟩
 ·exact h.elim
 ·exact⟨a,rfl,h.1⟩
 ·exact h.2.elim
theorem aDq{w v:Nat}{Fs:List Ft}(h:sK Fs [w,v]):∃ f g,Fs=[f,g]/\Op f w/\Op g v:=by
 rcases Fs with _ | ⟨a,_ | ⟨b,_ | ⟨c,r⟩⟩⟩
 ·exact h.elim
 ·exact h.2.elim
 ·exact⟨a,b,rfl,h.1,h.2.1⟩
 ·exact h.2.2.elim
theorem aVL{w v u:Nat}{Fs:List Ft}(h:sK Fs [w,v,u]):∃ f g k,Fs=[f,g,k]/\Op f w/\Op g v/\Op k u:=by
 rcases Fs with _ | ⟨a,_ | ⟨b,_ | ⟨c,_ | ⟨e,r⟩⟩⟩⟩
 ·exact h.elim
 ·exact h.2.elim
 ·exact h.2.2.elim
 ·exact⟨a,b,c,rfl,h.1,h.2.1,h.2.2.1⟩
 ·exact h.2.2.2.elim
theorem vU{f:Ft}{w:Nat}{ns:List Nat}(h:qG [f] [w] ns):∃ a,ns=[a]/\a<2^w/\Hd f a w:=by
 rcases ns with _ | ⟨a,_ | ⟨b,r⟩⟩
 ·exact h.elim
 ·exact⟨a,rfl,h.1⟩
 ·exact h.2.elim
theorem aDs{f g:Ft}{w v:Nat}{ns:List Nat}(h:qG [f,g] [w,v] ns):∃ a b,ns=[a,b]/\(a<2^w/\Hd f a w)/\b<2^v/\Hd g b v:=by
 rcases ns with _ | ⟨a,_ | ⟨b,_ | ⟨c,r⟩⟩⟩
 ·exact h.elim
 ·exact h.2.elim
 ·exact⟨a,b,rfl,h.1,h.2.1⟩
 ·exact h.2.2.elim
theorem aVz{f g k:Ft}{w v u:Nat}{ns:List Nat}(h:qG [f,g,k] [w,v,u] ns):∃ a b c,ns=[a,b,c]/\(a<2^w/\Hd f a w)/\(b<2^v/\Hd g b v)/\c<2^u/\Hd k c u:=by
 rcases ns with _ | ⟨a,_ | ⟨b,_ | ⟨c,_ | ⟨e,r⟩⟩⟩⟩
 ·exact h.elim
 ·exact h.2.elim
 ·exact h.2.2.elim
 ·exact⟨a,b,c,rfl,h.1,h.2.1,h.2.2.1⟩
 ·exact h.2.2.2.elim
theorem mR{r:Rw}{ws:List Nat}{Fs:List Ft}(hi:r.wd≠.in)(h2:r.w<=64)(g:Ft)(hg:FtOk g r.w)(ho:∀ d S,cl fns (d+6) 46 [.d r.d,.d (.tuple (ws.map nD)),.d (.tuple (Fs.map Ft.d))] S=qq (.d g.d,S))(hh:∀ ns,qG Fs ws ns->Hd g (iU r ws ns) r.w):RG r ws Fs:=
 ⟨g,hg,λ d S=>aCq (d+3) _ _ _ S r.w g (eK r) (ho d S) hg h2,λ ns h _=>hh ns h,λ h=>absurd h hi⟩
theorem aRt{f:Ft}{w a:Nat}(o:Op f w):RG ⟨.not,w,[a]⟩ [w] [f]:=
 mR (λ h=>nomatch h) o.w2 ⟨f.O,f.N,f.A⟩ ⟨o.ok.lO,o.ok.lN,o.ok.a1,o.ok.aw⟩ (λ d S=>aNJ (d+5) _ _ _ (w:Nat) S f rfl rfl rfl) λ ns h=>by
  obtain⟨x,rfl,hx,hf⟩:=vU h;exact aNh o.ok o.dj hx hf
theorem aTx{wd:Wd}(h:wd=.left\/wd=.right\/wd=.slide):wd≠.in:=by rcases h with rfl | rfl | rfl<;>decide
theorem aTa{wd:Wd}(h:wd=.and\/wd=.or\/wd=.xor):wd≠.in:=by rcases h with rfl | rfl | rfl<;>decide
theorem aSE{wd:Wd}(h:wd=.same\/wd=.less\/wd=.under):wd≠.in:=by rcases h with rfl | rfl | rfl<;>decide
theorem aTV(s:Sw):s.wd≠.in:=by cases s<;>decide
theorem aTU{f:Ft}{w a k:Nat}(wd:Wd)(bD:wd=.left\/wd=.right\/wd=.slide)(hk:k<64)(o:Op f w):RG ⟨wd,w,[a,k]⟩ [w] [f]:=by
 refine mR (aTx bD) o.w2 (shN wd w f k) ?_ (λ d S=>aLW (d+5) _ _ _ (w:Nat) S wd bD f k _ rfl rfl rfl rfl (aB9 (d+1) wd bD w f k o.ok o.w1 o.w2 (by omega) S)) λ ns h=>?_
 ·rcases bD with rfl | rfl | rfl
  ·exact aOv o.ok o.dj o.w1 k
  ·exact aNs o.ok o.dj o.w1 k
  ·exact aNz o.ok o.dj o.w1 k
 ·obtain⟨x,rfl,hx,hf⟩:=vU h;rcases bD with rfl | rfl | rfl
  ·exact aMj o.ok o.dj hx hf k
  ·exact aLK o.ok o.dj hx hf k
  ·exact aMa o.ok o.dj hx hf o.w1 k
theorem aRK{f:Ft}{w v a:Nat}(h1:1<=w)(hv:w<=v)(o:Op f v):RG ⟨.cut,w,[a]⟩ [v] [f]:=
 mR (λ h=>nomatch h) (xAi hv o.w2) (wM v w f) (aQA o.ok o.dj o.w1 h1 hv) (λ d S=>aCb (d+5) _ _ _ (w:Nat) S .cut (.inl rfl) f (v:Nat) _ rfl rfl rfl rfl (aQ5 (d+3) v w f hv (xAi hv o.w2) S)) λ ns h=>by
  obtain⟨x,rfl,hx,hf⟩:=vU h;exact aNe o.ok o.dj hx hf hv
theorem aPe{f:Ft}{w v a:Nat}(hv:v<=w)(h2:w<=64)(o:Op f v):RG ⟨.wide,w,[a]⟩ [v] [f]:=
 mR (λ h=>nomatch h) h2 (mL v w f) (aON o.ok o.dj o.w1 hv) (λ d S=>aCb (d+5) _ _ _ (w:Nat) S .wide (.inr (.inl rfl)) f (v:Nat) _ rfl rfl rfl rfl (aOS (d+2) v w f hv h2 S)) λ ns h=>by
  obtain⟨x,rfl,hx,hf⟩:=vU h;exact aMw o.ok o.dj hx hf hv
theorem aOF{f:Ft}{w v a:Nat}(hv:v<=w)(h2:w<=64)(o:Op f v):RG ⟨.sign,w,[a]⟩ [v] [f]:=
 mR (λ h=>nomatch h) h2 (vJ v w f) (aOr o.ok o.dj o.w1 hv) (λ d S=>aCb (d+5) _ _ _ (w:Nat) S .sign (.inr (.inr rfl)) f (v:Nat) _ rfl rfl rfl rfl (aPA (d+2) v w f o.w1 hv h2 S)) λ ns h=>by
  obtain⟨x,rfl,hx,hf⟩:=vU h;exact aMY o.ok o.dj hx hf o.w1 hv
theorem aS3{f g:Ft}{w a b:Nat}(wd:Wd)(bD:wd=.and\/wd=.or\/wd=.xor)(o:Op f w)(o':Op g w):RG ⟨wd,w,[a,b]⟩ [w,w] [f,g]:=by
 obtain⟨n,hb',eb,ej⟩:∃ n,(n=0\/n=1\/n=2)/\bwN wd f g=sW n f g/\∀ x y:Nat,iU ⟨wd,w,[a,b]⟩ [w,w] [x,y]=bwv n x y:=by
  rcases bD with rfl | rfl | rfl
  ·exact⟨0,.inl rfl,rfl,λ x y=>rfl⟩
  ·exact⟨1,.inr (.inl rfl),rfl,λ x y=>rfl⟩
  ·exact⟨2,.inr (.inr rfl),rfl,λ x y=>rfl⟩
 refine mR (aTa bD) o.w2 (sW n f g) (aSZ hb' o.ok o.dj o'.ok o'.dj) (λ d S=>?_) λ ns h=>?_
 ·have q:=aOo (d+3) (Rw.mk wd w [a,b]).d (.tuple [nD w,nD w]) (.tuple [f.d,g.d]) (w:Nat) S wd bD f g rfl rfl rfl rfl;rw[eb] at q;exact q
 ·obtain⟨x,y,rfl,⟨hx,h1⟩,hy,h2⟩:=aDs h;rw[ej];exact aOU hb' o.ok o.dj h1 o'.ok o'.dj h2
theorem aTk{f g:Ft}{w a b:Nat}(s:Sw)(o:Op f w)(o':Op g w):RG ⟨s.wd,w,[a,b]⟩ [w,w] [f,g]:=by
 obtain⟨p,hp,h⟩:=o.ho;obtain⟨q,hq,h'⟩:=o'.ho;refine mR (aTV s) o.w2 (wQ s w f g) (aR4 s o.ok o'.ok hp hq h h') (λ d S=>aNB d _ _ _ w S s f g rfl rfl rfl rfl o.ok o'.ok (aUX s w f g o.ok o'.ok hp hq h h') o.w2) λ ns hn=>?_
 obtain⟨x,y,rfl,⟨hx,h1⟩,hy,h2⟩:=aDs hn;have e:iU ⟨s.wd,w,[a,b]⟩ [w,w] [x,y]=rs (s.oc (x:Nat) (y:Nat)) w:=by cases s<;>rfl
 rw[e];exact aNa s o.ok o'.ok hx hy h1 h2
theorem aSg{f g:Ft}{v a b:Nat}(wd:Wd)(bD:wd=.same\/wd=.less\/wd=.under)(o:Op f v)(o':Op g v):RG ⟨wd,1,[a,b]⟩ [v,v] [f,g]:=by
 have hk:FtOk (oY wd v f g) 1:=by rcases aUU wd v f g with h | h | h<;>rw[h]<;>exact⟨by decide,by decide,by decide,by decide⟩
 refine mR (aSE bD) (show 1<=64 by omega) (oY wd v f g) hk (λ d S=>aMz (d+1) _ _ _ ((1:Nat):Int) S wd bD v f g rfl rfl rfl rfl rfl ⟨o.ok,o.dj⟩ ⟨o'.ok,o'.dj⟩ o.w1 o.w2) λ ns hn=>?_
 obtain⟨x,y,rfl,⟨hx,h1⟩,hy,h2⟩:=aDs hn;rcases bD with rfl | rfl | rfl
 ·exact aMk o.ok hx hy h1 h2
 ·exact aMe o.ok o'.ok hx hy h1 h2
 ·exact aLS o.ok o'.ok o.dj o'.dj o.w1 hx hy h1 h2
theorem aPP{t f g:Ft}{w c a b:Nat}(ot:Op t 1)(o:Op f w)(o':Op g w):RG ⟨.pick,w,[c,a,b]⟩ [1,w,w] [t,f,g]:=
 mR (λ h=>nomatch h) o.w2 (oX t f g) (aSL o.ok o'.ok) (λ d S=>aL9 (d+4) _ _ _ (w:Nat) S t f g rfl rfl rfl rfl rfl) λ ns hn=>by
  obtain⟨z,x,y,rfl,⟨hz,h0⟩,⟨hx,h1⟩,hy,h2⟩:=aVz hn;exact aME h0 hz h1 h2
theorem aSs{w n:Nat}(h1:1<=w)(h2:w<=64)(hn:n<2^w):RG ⟨.num,w,[n]⟩ [] []:=
 ⟨sZ n w,aJf hn h1,λ d S=>aN7 (d+3) n w hn h1 h2 S,λ ns _ _=>aPa hn,λ h=>nomatch h⟩
theorem aU5{w:Nat}(h1:1<=w)(h2:w<=64):RG ⟨.in,w,[]⟩ [] []:=by
 refine⟨jK,⟨xAf w,xAf w,yAc 1,h1⟩,λ d S=>?_,λ ns _ h=>absurd rfl h,λ _ z=>⟨λ i h=>rG h,λ i h=>rG h,kY _ _⟩⟩
 have:=aP0 (d+3) w h1 h2 S;rw[aHG h1];exact this
theorem rg{r:Rw}{ws:List Nat}(h:RwOk r ws){Fs:List Ft}(o:sK Fs ws):RG r ws Fs:=by
 cases h with
 | inp h1 h2 =>
   rcases Fs with _ | ⟨f,Fs⟩
   ·exact aU5 h1 h2
   ·exact o.elim
 | num h1 h2 hn =>
   rcases Fs with _ | ⟨f,Fs⟩
   ·exact aSs h1 h2 hn
   ·exact o.elim
 | nt h1 h2 =>
   obtain⟨f,rfl,o1⟩:=wK o;exact aRt o1
 | sh h1 h2 bD hk =>
   obtain⟨f,rfl,o1⟩:=wK o;exact aTU _ bD hk o1
 | cut h1 hv h2 =>
   obtain⟨f,rfl,o1⟩:=wK o;exact aRK h1 hv o1
 | wide h1 hv h2 =>
   obtain⟨f,rfl,o1⟩:=wK o;exact aPe hv h2 o1
 | sign h1 hv h2 =>
   obtain⟨f,rfl,o1⟩:=wK o;exact aOF hv h2 o1
 | bw h1 h2 bD =>
   obtain⟨f,g,rfl,o1,o2⟩:=aDq o;exact aS3 _ bD o1 o2
 | sm h1 h2 =>
   obtain⟨f,g,rfl,o1,o2⟩:=aDq o;exact aTk _ o1 o2
 | cmp h1 h2 bD =>
   obtain⟨f,g,rfl,o1,o2⟩:=aDq o;exact aSg _ bD o1 o2
 | pick h1 h2 =>
   obtain⟨t,f,g,rfl,ot,o1,o2⟩:=aVL o;exact aPP ot o1 o2
noncomputable def f0(F:List Ft)(a:Nat):Ft:=F.getD a ⟨0,0,1⟩
noncomputable def bK(r:Rw)(F:List Ft):List Ft:=(r.args.take (aI r.wd)).map (f0 F)
structure Snd(rs:List Rw)(F:List Ft):Prop where
 ok:∀ (i:Nat) (f:Ft) (w:Nat),F[i]? = qq f->(rs.map (·.w))[i]? = qq w->FtOk f w
 hold:∀ is,gZ rs is->∀ (i:Nat) (f:Ft) (w n:Nat),F[i]? = qq f->(rs.map (·.w))[i]? = qq w->(dZ rs (rs.map (·.w)) is [])[i]? = qq n->Hd f n w
theorem pN{F:List Ft}{a:Nat}(h:a<F.length):F[a]? = qq (f0 F a):=by
 show F[a]? = qq (F.getD a ⟨0,0,1⟩);rw[xAh,yAa h];rfl
theorem aOP{rs:List Rw}(p:Prg rs){a w:Nat}(h:(rs.map (·.w))[a]? = qq w):1<=w/\w<=64:=by
 rw[xAb] at h;obtain⟨r,hr,rfl⟩:=Option.map_eq_some_iff.mp h;exact p.ws a r hr
theorem aHS{rs:List Rw}(p:Prg rs){F:List Ft}(s:Snd rs F):∀ (l:List Nat),(∀ a∈l,a<F.length/\a<rs.length)->sK (l.map (f0 F)) (l.map (g0 (rs.map (·.w))))
 | [],_=>True.intro
 | a::l,h=>by
   obtain⟨h1,h2⟩:=h a xAd;have hw:=rO (l:=rs.map (·.w)) (a:=a) (by rw[yAb];exact h2)
   have hf:=pN h1;obtain⟨is,hi⟩:=p.ins;have hn:=rO (l:=dZ rs (rs.map (·.w)) is []) (a:=a) (by rw[aCu p hi];exact h2)
   obtain⟨w1,w2⟩:=aOP p hw;exact⟨⟨s.ok a _ _ hf hw,⟨_,aIS p hi hn hw,s.hold is hi a _ _ _ hf hw hn⟩,w1,w2⟩,aHS p s l λ b hb=>h b (xAg _ hb)⟩
theorem aHX{rs:List Rw}(p:Prg rs){F:List Ft}(s:Snd rs F){is:List Nat}(hi:gZ rs is):∀ (l:List Nat),(∀ a∈l,a<F.length/\a<rs.length)->qG (l.map (f0 F)) (l.map (g0 (rs.map (·.w)))) (l.map (g0 (dZ rs (rs.map (·.w)) is [])))
 | [],_=>True.intro
 | a::l,h=>by
   obtain⟨h1,h2⟩:=h a xAd;have hw:=rO (l:=rs.map (·.w)) (a:=a) (by rw[yAb];exact h2)
   have hf:=pN h1;have hn:=rO (l:=dZ rs (rs.map (·.w)) is []) (a:=a) (by rw[aCu p hi];exact h2)
   exact⟨⟨aIS p hi hn hw,s.hold is hi a _ _ _ hf hw hn⟩,aHX p s hi l λ b hb=>h b (xAg _ hb)⟩
structure Nx(rs:List Rw)(F:List Ft)(j:Nat)(r:Rw)(g:Ft):Prop where
 ok:FtOk g r.w
 rule:∀ d S,cl fns (d+7) 47 [.d r.d,.d (.tuple ((bB r (rs.map (·.w))).map nD)),.d (.tuple ((bK r F).map Ft.d))] S=qq (.d g.d,S)
 hold:∀ is,gZ rs is->∀ n,(dZ rs (rs.map (·.w)) is [])[j]? = qq n->Hd g n r.w
theorem aMJ{rs:List Rw}(p:Prg rs){F:List Ft}(s:Snd rs F){j:Nat}{r:Rw}(hr:rs[j]? = qq r)(hF:j<=F.length):∃ g,Nx rs F j r g:=by
 obtain⟨f1,f2⟩:=p.fit j r hr;have hj:j<rs.length:=(gIm hr).1;have hb:∀ a∈r.args.take (aI r.wd),a<F.length/\a<rs.length:=λ a ha=>by have:=f2 a ha;omega
 obtain⟨g,gk,rl,h1,h2⟩:=(rg f1 (aHS p s _ hb)).g;refine⟨gM g r.w,aTz gk,rl,λ is hi n hn=>(aOa gk).mpr ?_⟩
 by_cases c:r.wd=.in
 ·exact h2 c n
 ·have e:=aRX p.fit is hr c;rw[hn] at e;cases e;exact h1 _ (aHX p s hi _ hb) c
theorem aNZ{rs:List Rw}{F:List Ft}(s:Snd rs F){r:Rw}{g f:Ft}(hr:rs[F.length]? = qq r)(nx:Nx rs F F.length r g)(fk:FtOk f r.w)(hN:∀ i,f.N.testBit i=true->g.N.testBit i=true)(hO:∀ i,f.O.testBit i=true->g.O.testBit i=true)(hA:f.A<=g.A):Snd rs (F++[f]):=by
 have last:∀ {i:Nat}{x:Ft},(F++[f])[i]? = qq x->F[i]? = qq x\/(i=F.length/\x=f):=λ {i x} h=>by
  by_cases c:i<F.length
  ·rw[xAn c] at h;exact .inl h
  ·have hl:=(gIm h).1;simp at hl;have:i=F.length:=by omega
   subst this;rw[yAf (yAc _),yBo] at h;cases h;exact .inr ⟨rfl,rfl⟩
 have hw:(rs.map (·.w))[F.length]? = qq r.w:=by rw[xAb,hr];rfl
 refine⟨λ i x w h1 h2=>?_,λ is hi i x w n h1 h2 h3=>?_⟩
 ·rcases last h1 with h | ⟨rfl,rfl⟩
  ·exact s.ok i x w h h2
  ·rw[hw] at h2;cases h2;exact fk
 ·rcases last h1 with h | ⟨rfl,rfl⟩
  ·exact s.hold is hi i x w n h h2 h3
  ·rw[hw] at h2;cases h2;have q:=nx.hold is hi n h3;exact⟨λ i hi=>q.1 i (hN i hi),λ i hi=>q.2.1 i (hO i hi),rD hA q.2.2⟩
theorem aPQ(rs:List Rw):Snd rs []:=⟨λ i f w h=>by simp at h,λ is hi i f w n h=>by simp at h⟩
theorem aPZ(d:Nat)(r:Rw)(F:List Ft)(S0:aC)(h:∀ a∈r.args.take (aI r.wd),a<F.length):cl fns (d+2) 9 [.d r.d,.loc S0.length] (S0++[qq (F.map Ft.d)])=qq (.d (.tuple ((bK r F).map Ft.d)),S0++[qq (F.map Ft.d)]):=by
 have:=uA d r (.loc S0.length) (.list (F.map Ft.d)) (λ a=>(f0 F a).d) (S0++[qq (F.map Ft.d)]) (λ aH=>by
  show(match (S0++[qq (F.map Ft.d)]++[qq aH])[S0.length]? with | some (qq ds)=>qq (yHm ds) | _=>qz)=_
  rw[yCf,yAf (yAc _),yBo];rfl) λ a ha=>jS (by rw[xAb,pN (h a ha)];rfl)
 rw[this,bK,yBs];rfl
theorem aNG{r:Rw}{F:List Ft}{f:Ft}(h:∀ a∈r.args.take (aI r.wd),a<F.length):bK r (F++[f])=bK r F:=by
 unfold bK;refine yCh λ a ha=>?_
 show(F++[f]).getD a ⟨0,0,1⟩=F.getD a ⟨0,0,1⟩;rw[xAh,xAh,xAn (h a ha)]
theorem aSf{F:List Ft}{f:Ft}{a:Nat}(h:a<F.length):f0 (F++[f]) a=f0 F a:=by
 show(F++[f]).getD a ⟨0,0,1⟩=F.getD a ⟨0,0,1⟩;rw[xAh,xAh,xAn h]
theorem aSa(F:List Ft)(f:Ft):f0 (F++[f]) F.length=f:=by
 show(F++[f]).getD F.length ⟨0,0,1⟩=f;rw[xAh,yAf (yAc _),yBo];rfl
def Own(rs:List Rw)(F:List Ft):Prop:=∀ (i:Nat) (r:Rw),i<F.length->rs[i]? = qq r->∃ g,g=f0 F i/\Nx rs F i r g
theorem aHF{rs:List Rw}(p:Prg rs){F:List Ft}{f:Ft}{i:Nat}{r:Rw}{g:Ft}(hi:i<=F.length)(hr:rs[i]? = qq r)(nx:Nx rs F i r g):Nx rs (F++[f]) i r g:=by
 refine⟨nx.ok,?_,nx.hold⟩;rw[aNG λ a ha=>by have:=(p.fit i r hr).2 a ha;omega]
 exact nx.rule
theorem aND{rs:List Rw}(p:Prg rs){F:List Ft}(h:Own rs F){r:Rw}{g:Ft}(hr:rs[F.length]? = qq r)(nx:Nx rs F F.length r g):Own rs (F++[g]):=λ i q hi hq=>by
 by_cases c:i<F.length
 ·obtain⟨g',rfl,h1⟩:=h i q c hq;exact⟨_,(aSf c).symm,aHF p (by omega) hq h1⟩
 ·have ci:i=F.length:=by simp at hi;omega
  subst ci;rw[hr] at hq;cases hq;exact⟨g,(aSa F g).symm,aHF p (yAc _) hr nx⟩
theorem aLG(d:Nat)(rs:List Rw)(o:D)(p:Prg rs)(S:aC):∃ F:List Ft,F.length=rs.length/\Snd rs F/\Own rs F/\cl fns (d+9) 48 [.d (.tuple [.tuple (rs.map Rw.d),o])] S=qq (.d (.tuple (F.map Ft.d)),S):=by
 have i0:aO (.tuple [.tuple (rs.map Rw.d),o]) (.int 0)=qq (.tuple (rs.map Rw.d)):=rfl;have pl:=p.l;obtain⟨aM,S',p1,F,c3,rfl,rfl,fl,fs,fo⟩:=rK (t:=.one 3) (fi:=lv (aD fns (d+8)) xT) (fb:=xs (aD fns (d+8)) xS) (env:=[qq (.d (.tuple [.tuple (rs.map Rw.d),o])),qq (.d (.tuple ((rs.map (·.w)).map nD))),qq (.loc S.length),qz]) (S:=S++[qq []]) (S1:=S++[qq []]) (ds:=rs.map Rw.d)
  (λ j env S'=>∃ (F:List Ft) (c3:Option W),env=[qq (.d (.tuple [.tuple (rs.map Rw.d),o])),qq (.d (.tuple ((rs.map (·.w)).map nD))),qq (.loc S.length),c3]/\S'=S++[qq (F.map Ft.d)]/\F.length=j/\Snd rs F/\Own rs F)
  (by
    simp only[evs,xT,i0,fM]) ⟨[],qz,rfl,rfl,rfl,aPQ rs,λ i r hi=>absurd hi (yFe i)⟩ (by
    rintro j dd env S' hd ⟨F,c3,rfl,rfl,fl,fs,fo⟩;rw[xAb] at hd;obtain⟨r,hr,rfl⟩:=Option.map_eq_some_iff.mp hd;subst fl;obtain⟨f1,f2⟩:=p.fit _ r hr;have hj:F.length<rs.length:=(gIm hr).1;have hWl:(rs.map (·.w)).length=rs.length:=yAb ..;obtain⟨g,nx⟩:=aMJ p fs hr (yAc _);have o1:=aHA (d+6) r (rs.map (·.w)) (S++[qq (F.map Ft.d)]) λ a ha=>by have:=f2 a ha;omega
    have o2:=aPZ (d+6) r F S λ a ha=>f2 a ha
    have rl:=nx.rule (d+1) (S++[qq (F.map Ft.d)]);have ap:dP (S++[qq (F.map Ft.d)]) (.loc S.length) (.d g.d)=qq (.d .none,S++[qq ((F++[g]).map Ft.d)]):=by
     rw[aGH S (F.map Ft.d) _ (by rw[yAb];omega),yAz]
     rfl
    refine⟨_,[qq (.d (.tuple [.tuple (rs.map Rw.d),o])),qq (.d (.tuple ((rs.map (·.w)).map nD))),qq (.loc S.length),qq (.d r.d)],S++[qq ((F++[g]).map Ft.d)],rfl,?_,F++[g],_,rfl,rfl,by simp,aNZ fs hr nx nx.ok (λ i h=>h) (λ i h=>h) (yAc _),aND p fo hr nx⟩
    simp only[evs,xS,o1,o2,rl,hZ,ap])
 rw[yAb] at fl;refine⟨F,fl,fs,fo,?_⟩;have p1':dA (.one 3) (lv (aD fns (d+8)) xT) (xs (aD fns (d+8)) xS) [qq (.d (.tuple [.tuple (rs.map Rw.d),o])),qq (.d (.tuple ((rs.map (·.w)).map nD))),qq (.loc S.length),qz] (S++[qq []])=qq (.nx [qq (.d (.tuple [.tuple (rs.map Rw.d),o])),qq (.d (.tuple ((rs.map (·.w)).map nD))),qq (.loc S.length),c3],S++[qq (F.map Ft.d)]):=p1;have tk1:∀ x,yEn S.length (S++[x])=S:=λ x=>List.take_left
 rw[aT rfl (d+8) _ S rfl];have hq53:=aEv (d+7) rs o (by omega)
 simp only[gR1,aFf,hq53,gK,p1',qY,lD,lC,tk1]
theorem aB4:∀ (rs:List Rw) (ws:List Nat),dM ws rs->∀ (j:Nat) (r:Rw),rs[j]? = qq r->gG (ws++(rs.take j).map (·.w)) r
 | [],_,_,j,r,h=>by simp at h
 | q::rs,ws,⟨h1,h2⟩,0,r,h=>by
   cases h;simpa using h1
 | q::rs,ws,⟨h1,h2⟩,j+1,r,h=>by
   have:=aB4 rs (ws++[q.w]) h2 j r (by simpa using h)
   simpa using this
theorem aJO{a n:Nat}(h:a<n):∀ x∈[a],x<n:=λ x hx=>by
 rw[List.mem_singleton.mp hx];exact h
theorem aJZ{a b n:Nat}(h:a<n)(h':b<n):∀ x∈[a,b],x<n:=λ x hx=>by
 rcases List.mem_cons.mp hx with rfl | hx
 ·exact h
 ·exact aJO h' x hx
theorem aV0{a b c n:Nat}(h:a<n)(h':b<n)(h'':c<n):∀ x∈[a,b,c],x<n:=λ x hx=>by
 rcases List.mem_cons.mp hx with rfl | hx
 ·exact h
 ·exact aJZ h' h'' x hx
theorem aJ0{n:Nat}:∀ x∈([]:List Nat),x<n:=λ x hx=>by simp at hx
section
variable {ws W : List Nat}{n : Nat}(hw : ∀ a v, ws[a]? = qq v -> g0 W a = v /\ 1 <= v /\ v <= 64 /\ a<n)
include hw
theorem pQ{wd:Wd}{w a v:Nat}{args:List Nat}(e:(args.take (aI wd))=[a])(h:ws[a]? = qq v)(k:RwOk ⟨wd,w,args⟩ [v]):RwOk ⟨wd,w,args⟩ (bB ⟨wd,w,args⟩ W)/\∀ x∈args.take (aI wd),x<n:=by
 obtain⟨e1,_,_,e4⟩:=hw a v h;have:bB ⟨wd,w,args⟩ W=[v]:=by
  show(args.take (aI wd)).map (g0 W)=[v];rw[e,yBa,yGg,e1]
 rw[this,e];exact⟨k,aJO e4⟩
theorem pK{wd:Wd}{w a b v u:Nat}{args:List Nat}(e:(args.take (aI wd))=[a,b])(h:ws[a]? = qq v)(h':ws[b]? = qq u)(k:RwOk ⟨wd,w,args⟩ [v,u]):RwOk ⟨wd,w,args⟩ (bB ⟨wd,w,args⟩ W)/\∀ x∈args.take (aI wd),x<n:=by
 obtain⟨e1,_,_,e4⟩:=hw a v h;obtain⟨d1,_,_,d4⟩:=hw b u h';have:bB ⟨wd,w,args⟩ W=[v,u]:=by
  show(args.take (aI wd)).map (g0 W)=[v,u];rw[e,yBa,yBa,yGg,e1,d1]
 rw[this,e];exact⟨k,aJZ e4 d4⟩
omit hw in
theorem aSO{wd:Wd}{w:Nat}(h:gG ws ⟨wd,w,[]⟩):RwOk ⟨wd,w,[]⟩ (bB ⟨wd,w,[]⟩ W)/\∀ x∈yEn (aI wd) [],x<n:=by
 cases wd
 case «in» => exact⟨.inp h.1 h.2.1,aJ0⟩
 all_goals exact h.2.2.elim
theorem aUR{wd:Wd}{w a:Nat}(h:gG ws ⟨wd,w,[a]⟩):RwOk ⟨wd,w,[a]⟩ (bB ⟨wd,w,[a]⟩ W)/\∀ x∈yEn (aI wd) [a],x<n:=by
 cases wd
 case num=>exact⟨.num h.1 h.2.1 h.2.2,aJ0⟩
 case not=>exact pQ hw rfl h.2.2 (.nt h.1 h.2.1)
 case cut =>
  obtain⟨v,q1,q2⟩:=h.2.2;exact pQ hw rfl q1 (.cut h.1 q2 (hw a v q1).2.2.1)
 case wide =>
  obtain⟨v,q1,q2⟩:=h.2.2;exact pQ hw rfl q1 (.wide (hw a v q1).2.1 q2 h.2.1)
 case sign =>
  obtain⟨v,q1,q2⟩:=h.2.2;exact pQ hw rfl q1 (.sign (hw a v q1).2.1 q2 h.2.1)
 all_goals exact h.2.2.elim
theorem aCT{wd:Wd}(bD:wd=.same\/wd=.less\/wd=.under){w a b:Nat}(q:w=1/\∃ v,ws[a]? = qq v/\ws[b]? = qq v)(e:aI wd=2):RwOk ⟨wd,w,[a,b]⟩ (bB ⟨wd,w,[a,b]⟩ W)/\∀ x∈yEn (aI wd) [a,b],x<n:=by
 obtain⟨rfl,v,q1,q2⟩:=q;exact pK hw (by rw[e];rfl) q1 q2 (.cmp (hw a v q1).2.1 (hw a v q1).2.2.1 bD)
theorem aUM{wd:Wd}{w a b:Nat}(h:gG ws ⟨wd,w,[a,b]⟩):RwOk ⟨wd,w,[a,b]⟩ (bB ⟨wd,w,[a,b]⟩ W)/\∀ x∈yEn (aI wd) [a,b],x<n:=by
 cases wd
 case left=>exact pQ hw rfl h.2.2.1 (.sh h.1 h.2.1 (.inl rfl) h.2.2.2)
 case right=>exact pQ hw rfl h.2.2.1 (.sh h.1 h.2.1 (.inr (.inl rfl)) h.2.2.2)
 case slide=>exact pQ hw rfl h.2.2.1 (.sh h.1 h.2.1 (.inr (.inr rfl)) h.2.2.2)
 case and=>exact pK hw rfl h.2.2.1 h.2.2.2 (.bw h.1 h.2.1 (.inl rfl))
 case or=>exact pK hw rfl h.2.2.1 h.2.2.2 (.bw h.1 h.2.1 (.inr (.inl rfl)))
 case xor=>exact pK hw rfl h.2.2.1 h.2.2.2 (.bw h.1 h.2.1 (.inr (.inr rfl)))
 case add=>exact pK hw rfl h.2.2.1 h.2.2.2 (.sm (s:=.add) h.1 h.2.1)
 case sub=>exact pK hw rfl h.2.2.1 h.2.2.2 (.sm (s:=.sub) h.1 h.2.1)
 case mul=>exact pK hw rfl h.2.2.1 h.2.2.2 (.sm (s:=.mul) h.1 h.2.1)
 case same=>exact aCT hw (.inl rfl) h.2.2 rfl
 case less=>exact aCT hw (.inr (.inl rfl)) h.2.2 rfl
 case under=>exact aCT hw (.inr (.inr rfl)) h.2.2 rfl
 all_goals exact h.2.2.elim
theorem aUL{wd:Wd}{w a b c:Nat}(h:gG ws ⟨wd,w,[a,b,c]⟩):RwOk ⟨wd,w,[a,b,c]⟩ (bB ⟨wd,w,[a,b,c]⟩ W)/\∀ x∈yEn (aI wd) [a,b,c],x<n:=by
 cases wd
 case pick =>
  obtain⟨q1,q2,q3⟩:=h.2.2;obtain⟨e1,_,_,e4⟩:=hw a _ q1;obtain⟨d1,_,_,d4⟩:=hw b _ q2;obtain⟨c1,_,_,c4⟩:=hw c _ q3;have:bB ⟨.pick,w,[a,b,c]⟩ W=[1,w,w]:=by
   show [g0 W a,g0 W b,g0 W c]=[1,w,w];rw[e1,d1,c1]
  rw[this];exact⟨.pick h.1 h.2.1,aV0 e4 d4 c4⟩
 all_goals exact h.2.2.elim
omit hw in
theorem aTy{wd:Wd}{w a b c e:Nat}{t:List Nat}(h:gG ws ⟨wd,w,a::b::c::e::t⟩):False:=by
 cases wd
 all_goals exact h.2.2
theorem aPF{r:Rw}(h:gG ws r):RwOk r (bB r W)/\∀ x∈r.args.take (aI r.wd),x<n:=by
 obtain⟨wd,w,args⟩:=r
 match args,h with
 | [],h=>exact aSO h
 | [a],h=>exact aUR hw h
 | [a,b],h=>exact aUM hw h
 | [a,b,c],h=>exact aUL hw h
 | _::_::_::_::_,h=>exact(aTy h).elim
end
theorem aGv:∀ rs:List Rw,∃ is,gZ rs is
 | []=>⟨[],rfl⟩
 | r::rs=>by
   obtain⟨is,h⟩:=aGv rs
   by_cases c:r.wd=.in
   ·refine⟨0::is,?_⟩;rw[gZ,if_pos c];exact⟨0,is,rfl,xAf _,h⟩
   ·refine⟨is,?_⟩;rw[gZ,if_neg c];exact h
theorem aSo{rs:List Rw}(h:dM [] rs)(hl:rs.length<=100):Prg rs:=by
 have ws:∀ (j:Nat) (r:Rw),rs[j]? = qq r->1<=r.w/\r.w<=64:=λ j r hr=>by
  have:=aB4 rs [] h j r hr;exact⟨this.1,this.2.1⟩
 refine⟨hl,λ j r hr=>?_,aGv rs,ws⟩
 have ok:=aB4 rs [] h j r hr;rw[yEh] at ok;refine aPF (n:=j) (λ a v ha=>?_) ok
 have hj:j<rs.length:=(gIm hr).1;have haj:a<j:=by
  have:=(gIm ha).1;rw[yAb,yBx] at this;omega
 rw[xAb,yDm haj] at ha;obtain⟨q,hq,rfl⟩:=Option.map_eq_some_iff.mp ha;obtain⟨w1,w2⟩:=ws a q hq;refine⟨?_,w1,w2,haj⟩;show(rs.map (·.w)).getD a 0=q.w;rw[xAh,xAb,hq];rfl
section
variable {ns : List Int}{k : Nat}{x : Int}
end
theorem aSR{m i:Nat}(h:m.testBit i=true):i<bl m:=by
 by_cases c:i<bl m
 ·exact c
 ·rw[cW (mQ m) (by omega)] at h
  cases h
theorem aPC(i t:Nat):(2^i).testBit t=decide (i=t):=yBk
noncomputable def hU(x w:Nat):Nat:=if x/2^w=0 then x else (x&&&(2^w-1))|||2^(w-1)
theorem aNQ{x w t:Nat}(hw:1<=w):(hU x w).testBit t=true ↔ (t<w/\x.testBit t=true)\/(t=w-1/\∃ j,w<=j/\x.testBit j=true):=by
 unfold hU
 split
 ·rename_i h;rw[aBG] at h;constructor
  ·intro z;refine .inl ⟨?_,z⟩
   by_cases c:t<w
   ·exact c
   ·rw[h t (by omega)] at z;cases z
  ·rintro (⟨_,z⟩ | ⟨_,j,h1,h2⟩)
   ·exact z
   ·rw[h j h1] at h2;cases h2
 ·rename_i h;rw[xAp,yAg,eH,aPC];have h':∃ j,w<=j/\x.testBit j=true:=by
   rw[aBG] at h
   by_cases c:∃ j,w<=j/\x.testBit j=true
   ·exact c
   ·refine absurd (λ i hi=>?_) h
    cases q:x.testBit i with
    | false=>rfl
    | true=>exact absurd ⟨i,hi,q⟩ c
  constructor
  ·intro z;simp only[yEg,yAu,decide_eq_true_eq] at z;rcases z with ⟨z1,z2⟩ | z
   ·exact .inl ⟨z2,z1⟩
   ·exact .inr ⟨z.symm,h'⟩
  ·rintro (⟨z1,z2⟩ | ⟨z,_⟩)
   ·simp[z1,z2]
   ·simp[z]
theorem aHa{x w:Nat}(hw:1<=w):hU x w<2^w:=by
 apply yCj;intro i hi;cases q:(hU x w).testBit i with
 | false=>rfl
 | true =>
   rcases (aNQ hw).mp q with ⟨h,_⟩ | ⟨h,_⟩<;>omega
structure Fc where
 N:Nat
 O:Nat
 A:Nat
noncomputable instance:Inhabited Fc:=⟨⟨0,0,0⟩⟩
noncomputable def bS(wd:Wd)(w kk:Nat)(ws:List Nat)(fs:List Fc)(m:Nat):List Nat:=
 if m=0 then yAd (aI wd) 0 else
 match wd with
 | .in | .num=>[]
 | .not | .cut=>[m]
 | .xor=>[m,m]
 | .and=>[bI m (bI (fs.getD 1 default).N (fs.getD 0 default).N),bI m (fs.getD 0 default).N]
 | .or=>[bI m (bI (fs.getD 1 default).O (fs.getD 0 default).O),bI m (fs.getD 0 default).O]
 | .add | .sub=>[2^bl m-1,2^bl m-1]
 | .mul=>[2^(bl m-min (bl m) (lr (fs.getD 1 default).N))-1,2^(bl m-min (bl m-min (bl m) (lr (fs.getD 1 default).N)) (lr (fs.getD 0 default).N))-1]
 | .left=>[m/2^kk]
 | .right=>[(m*2^kk)&&&(2^w-1)]
 | .slide=>[hU (m*2^kk) w]
 | .wide=>[m&&&(2^ws.getD 0 0-1)]
 | .sign=>[hU m (ws.getD 0 0)]
 | .same | .less | .under=>[2^ws.getD 0 0-1,2^ws.getD 1 0-1]
 | .pick=>if (fs.getD 0 default).O=1 then [1,m,0] else if (fs.getD 0 default).N=1 then [1,0,m] else [1,m,m]
def aAZ(wd:Wd)(w:Nat)(ws:List Nat):Prop:=1<=w/\w<=64/\match wd with
 | .in | .num=>ws=[]
 | .not | .left | .right | .slide=>ws=[w]
 | .and | .or | .xor | .add | .sub | .mul=>ws=[w,w]
 | .cut=>∃ v,ws=[v]/\w<=v/\v<=64
 | .wide | .sign=>∃ v,ws=[v]/\v<=w/\1<=v
 | .same | .less | .under=>w=1/\∃ v,ws=[v,v]/\1<=v/\v<=64
 | .pick=>ws=[1,w,w]
theorem aGB{wd:Wd}{w kk m:Nat}{ws:List Nat}{fs:List Fc}:(bS wd w kk ws fs m).length=aI wd:=by
 unfold bS
 split
 ·simp
 ·cases wd<;>first | rfl | (simp only;split<;>first | rfl | (split<;>rfl))
theorem gY{k v:Nat}(h:k<=v):2^k-1<2^v:=by
 have h1:=xAf k;have h2:(2:Nat)^k<=2^v:=yAq (by decide) h
 omega
theorem zW{m y v:Nat}(h:m<2^v):bI m y<2^v:=xAj (yGt _ _) h
theorem aPq(wd:Wd)(w kk:Nat)(ws:List Nat)(fs:List Fc)(m c v:Nat)(hk:aAZ wd w ws)(hm:m<2^w)(hv:ws[c]? = qq v):(bS wd w kk ws fs m).getD c 0<2^v:=by
 by_cases h0:m=0
 ·subst h0;have e:(bS wd w kk ws fs 0).getD c 0=0:=by
   unfold bS;rw[if_pos rfl,xAh,yFa]
   split<;>rfl
  rw[e];exact xAf _
 have hb:bl m<=w:=jX hm;have e0:bS wd w kk ws fs m=_:=if_neg h0;rw[e0];have one:∀ {a u:Nat},ws=[u]->a<2^u->[a].getD c 0<2^v:=λ {a u} e h=>by
  subst e
  match c,hv with
  | 0,hv=>cases hv;exact h
  | c+1,hv=>simp at hv
 have two:∀ {a b u x:Nat},ws=[u,x]->a<2^u->b<2^x->[a,b].getD c 0<2^v:=λ {a b u x} e h h2=>by
  subst e
  match c,hv with
  | 0,hv=>cases hv;exact h
  | 1,hv=>cases hv;exact h2
  | c+2,hv=>simp at hv
 have three:∀ {a b e u x y:Nat},ws=[u,x,y]->a<2^u->b<2^x->e<2^y->[a,b,e].getD c 0<2^v:=λ {a b e u x y} e' h h2 h3=>by
  subst e'
  match c,hv with
  | 0,hv=>cases hv;exact h
  | 1,hv=>cases hv;exact h2
  | 2,hv=>cases hv;exact h3
  | c+3,hv=>simp at hv
 obtain⟨cG,bX,hk⟩:=hk;cases wd with
 | «in» => rw[hk] at hv;simp at hv
 | num=>rw[hk] at hv;simp at hv
 | not=>exact one hk hm
 | cut =>
   obtain⟨u,e,h1,h2⟩:=hk;exact one e (xAc hm (yAq (by decide) h1))
 | xor=>exact two hk hm hm
 | and=>exact two hk (zW hm) (zW hm)
 | or=>exact two hk (zW hm) (zW hm)
 | add=>exact two hk (gY hb) (gY hb)
 | sub=>exact two hk (gY hb) (gY hb)
 | mul=>exact two hk (gY (by omega)) (gY (by omega))
 | left=>exact one hk (xAj (Nat.div_le_self _ _) hm)
 | right=>exact one hk (Nat.and_lt_two_pow _ (gY (yAc _)))
 | slide=>exact one hk (aHa cG)
 | wide =>
   obtain⟨u,e,h1,h2⟩:=hk;subst e;exact one rfl (Nat.and_lt_two_pow _ (gY (yAc _)))
 | sign =>
   obtain⟨u,e,h1,h2⟩:=hk;subst e;exact one rfl (aHa h2)
 | same =>
   obtain⟨_,u,e,h1,h2⟩:=hk;subst e;exact two rfl (gY (yAc _)) (gY (yAc _))
 | less =>
   obtain⟨_,u,e,h1,h2⟩:=hk;subst e;exact two rfl (gY (yAc _)) (gY (yAc _))
 | under =>
   obtain⟨_,u,e,h1,h2⟩:=hk;subst e;exact two rfl (gY (yAc _)) (gY (yAc _))
 | pick =>
   simp only
   split
   ·exact three hk (by decide) hm (xAf _)
   ·split
    ·exact three hk (by decide) (xAf _) hm
    ·exact three hk (by decide) hm hm
noncomputable def Fc.d(f:Fc):D:=.tuple [.int (f.N:Nat),.int (f.O:Nat),.int (f.A:Nat)]
theorem aA3(f:Fc):aO f.d (.int 0)=qq (.int (f.N:Nat)):=rfl
theorem aA0(f:Fc):aO f.d (.int 1)=qq (.int (f.O:Nat)):=rfl
theorem aJg(a:D):aO (.tuple [a]) (.int 0)=qq a:=rfl
theorem aAL(a b:D):aO (.tuple [a,b]) (.int 0)=qq a:=rfl
theorem aAM(a b:D):aO (.tuple [a,b]) (.int 1)=qq b:=rfl
theorem aTo(a b c:D):aO (.tuple [a,b,c]) (.int 0)=qq a:=rfl
theorem aEX(d a b m:Nat)(S:aC):cl fns (d+1) 12 [.d (.int (a:Nat)),.d (.int (b:Nat)),.d (.int (m:Nat))] S=qq (.d (.tuple [.int ((bI m (bI b a):Nat):Int),.int ((bI m a:Nat):Int)]),S):=by
 rw[aT rfl d _ S rfl];simp only[gR1,aEq,aG9,aGA]
theorem aOd(i j:Nat):(if ((j:Nat):Int)<((i:Nat):Int) then ((j:Nat):Int) else ((i:Nat):Int))=((min i j:Nat):Int):=by
 by_cases c:j<i
 ·rw[if_pos (by omega),yEq (by omega)]
 ·rw[if_neg (by omega),yFf (by omega)]
theorem aLC(d a b m:Nat)(hm:m<2^64)(S:aC):cl fns (d+3) 13 [.d (.int (a:Nat)),.d (.int (b:Nat)),.d (.int (m:Nat))] S=qq (.d (.tuple [.int ((2^(bl m-min (bl m) (lr b))-1:Nat):Int),.int ((2^(bl m-min (bl m-min (bl m) (lr b)) (lr a))-1:Nat):Int)]),S):=by
 have hb:=jX hm;have e1:((bl m:Nat):Int)-((min (bl m) (lr b):Nat):Int)=((bl m-min (bl m) (lr b):Nat):Int):=by omega
 have e2:((bl m:Nat):Int)-((min (bl m-min (bl m) (lr b)) (lr a):Nat):Int)=((bl m-min (bl m-min (bl m) (lr b)) (lr a):Nat):Int):=by omega
 rw[aT rfl (d+2) _ S rfl];simp only[evs,fD,aFV,uE (d+1),aCX d,qF,aOd,cH,e1,e2,dH (d+1) (bl m-min (bl m) (lr b)) (by omega),dH (d+1) (bl m-min (bl m-min (bl m) (lr b)) (lr a)) (by omega)]
theorem aFB(d y w:Nat)(hw:1<=w)(bX:w<=1000)(S:aC):cl fns (d+2) 14 [.d (.int (y:Nat)),.d (.int (w:Nat))] S=qq (.d (.int ((hU y w:Nat):Int)),S):=by
 have e1:(w:Int)-1=((w-1:Nat):Int):=by omega
 rw[aT rfl (d+1) _ S rfl];unfold hU
 by_cases c:y/2^w=0
 ·have d1:(y/2^w==0)=true:=by rw[beq_iff_eq];exact c
  rw[if_pos c];simp only[gR1,aCp,mE,aS,bT,d1]
 ·have d1:(y/2^w==0)=false:=by rw[beq_eq_false_iff_ne];exact c
  rw[if_neg c];have hq54:=dH d w (by omega)
  have hq55:=iJ (show w-1<=100000 by omega)
  simp only[gR1,aCp,mE,aS,bT,d1,hq54,cX,cH,e1,hq55,cM]
theorem aPt(d w kk m:Nat)(S:aC):cl fns (d+3) 15 [.d (.str "left"),.d (.int (w:Nat)),.d (.int (kk:Nat)),.d (.int (m:Nat))] S=qq (.d (.int ((m/2^kk:Nat):Int)),S):=by
 have c1:aJ .Eq (.str "left") (.str "left")=qq (.bool true):=bH .left .left;rw[aT rfl (d+2) _ S rfl];simp only[gR1,xZ,c1,mE]
theorem aN4(d w kk m:Nat)(hw:w<=64)(hk:kk<=64)(hm:m<2^64)(S:aC):cl fns (d+3) 15 [.d (.str "right"),.d (.int (w:Nat)),.d (.int (kk:Nat)),.d (.int (m:Nat))] S=qq (.d (.int (((m*2^kk)&&&(2^w-1):Nat):Int)),S):=by
 have c1:aJ .Eq (.str "right") (.str "left")=qq (.bool false):=bH .right .left;have c2:aJ .Eq (.str "right") (.str "right")=qq (.bool true):=bH .right .right;rw[aT rfl (d+2) _ S rfl];have hq56:=uQ hm (show 64+kk<=100000 by omega)
 have hq57:=dH (d+1) w (by omega)
 simp only[gR1,xZ,c1,c2,hq56,hq57,cX]
theorem aNx(d w kk m:Nat)(cG:1<=w)(hw:w<=64)(hk:kk<=64)(hm:m<2^64)(S:aC):cl fns (d+3) 15 [.d (.str "slide"),.d (.int (w:Nat)),.d (.int (kk:Nat)),.d (.int (m:Nat))] S=qq (.d (.int ((hU (m*2^kk) w:Nat):Int)),S):=by
 have c1:aJ .Eq (.str "slide") (.str "left")=qq (.bool false):=bH .slide .left;have c2:aJ .Eq (.str "slide") (.str "right")=qq (.bool false):=bH .slide .right;rw[aT rfl (d+2) _ S rfl];have hq58:=uQ hm (show 64+kk<=100000 by omega)
 simp only[gR1,xZ,c1,c2,hq58,aFB d _ w cG (by omega)]
theorem aLp(d:Nat)(f:Fc)(m:Nat)(S:aC):cl fns (d+1) 16 [.d f.d,.d (.int (m:Nat))] S=qq (.d (.tuple ((if f.O=1 then [1,m,0] else if f.N=1 then [1,0,m] else [1,m,m]).map nD)),S):=by
 rw[aT rfl d _ S rfl]
 by_cases c1:f.O=1
 ·have d1:(f.O==1)=true:=by rw[beq_iff_eq];exact c1
  rw[if_pos c1];simp only[gR1,yG,aA0,aS,iH,d1]
 ·have d1:(f.O==1)=false:=by rw[beq_eq_false_iff_ne];exact c1
  rw[if_neg c1]
  by_cases c2:f.N=1
  ·have d2:(f.N==1)=true:=by rw[beq_iff_eq];exact c2
   rw[if_pos c2];simp only[gR1,yG,aA0,aA3,aS,iH,d1,d2]
  ·have d2:(f.N==1)=false:=by rw[beq_eq_false_iff_ne];exact c2
   rw[if_neg c2];simp only[gR1,yG,aA0,aA3,aS,iH,d1,d2]
def vA(wd:Wd)(args:List Nat)(kk:Nat):Prop:=match wd with
 | .in=>args=[]
 | .num=>∃ n,args=[n]
 | .not | .cut | .wide | .sign=>∃ a,args=[a]
 | .left | .right | .slide=>∃ a,args=[a,kk]/\kk<64
 | .pick=>∃ a b c,args=[a,b,c]
 | _=>∃ a b,args=[a,b]
theorem zG{wd:Wd}{args:List Nat}{kk:Nat}(h:vA wd args kk):(args.take (aI wd)).length=aI wd:=by
 cases wd<;>first
  | (obtain rfl:=h;rfl)
  | (obtain⟨a,b,c,rfl⟩:=h;rfl)
  | (obtain⟨a,b,rfl⟩:=h;rfl)
  | (obtain⟨a,rfl,_⟩:=h;rfl)
  | (obtain⟨a,rfl⟩:=h;rfl)
theorem aDf(a:Wd):aJ .In (.str a.s) (.tuple [.str "add",.str "sub"])=qq (.bool (decide (a=.add\/a=.sub))):=by cases a<;>rfl
theorem aUY{wd:Wd}{w a k:Nat}:aO (Rw.mk wd w [a,k]).d (.int 3)=qq (.int (k:Nat)):=rfl
theorem aAY{α:Type}{l:List α}(h:l.length=1):∃ a,l=[a]:=List.length_eq_one_iff.mp h
theorem aDI{α:Type}{l:List α}(h:l.length=2):∃ a b,l=[a,b]:=by
 match l,h with
 | [a,b],_=>exact⟨a,b,rfl⟩
theorem aV7{α:Type}{l:List α}(h:l.length=3):∃ a b c,l=[a,b,c]:=by
 match l,h with
 | [a,b,c],_=>exact⟨a,b,c,rfl⟩
noncomputable abbrev eA(R W G:D)(m:Nat)(x:Wd):aY:=[qq (.d R),qq (.d W),qq (.d G),qq (.d (.int (m:Nat))),qq (.d (.str x.s))]
noncomputable def aK:Nat->Sx
 | 0=>bM aEC
 | k+1=>bM (aK k)
section
variable (C : Calls)(R W G : D)(m : Nat)(S : aC)(x : Wd)
theorem aDK:tv C (.cmp .Eq (.var 4) (.str "and")) (eA R W G m x) S=qq (decide (x=.and),S):=dN rfl (bH x .and)
theorem aJQ:tv C (.cmp .Eq (.var 4) (.str "or")) (eA R W G m x) S=qq (decide (x=.or),S):=dN rfl (bH x .or)
theorem aKb:tv C (.cmp .In (.var 4) (.tup (.cons (.str "add") (.cons (.str "sub") .nil)))) (eA R W G m x) S=qq (decide (x=.add\/x=.sub),S):=jU rfl rfl (aDf x)
theorem aJ4:tv C (.cmp .Eq (.var 4) (.str "mul")) (eA R W G m x) S=qq (decide (x=.mul),S):=dN rfl (bH x .mul)
theorem aJT:tv C (.cmp .In (.var 4) (.con "SHIFTS" pH)) (eA R W G m x) S=qq (decide (x=.left\/x=.right\/x=.slide),S):=jU rfl rfl (tY x)
theorem aDz:tv C (.cmp .Eq (.var 4) (.str "wide")) (eA R W G m x) S=qq (decide (x=.wide),S):=dN rfl (bH x .wide)
theorem aKf:tv C (.cmp .Eq (.var 4) (.str "sign")) (eA R W G m x) S=qq (decide (x=.sign),S):=dN rfl (bH x .sign)
theorem aDE:tv C (.cmp .In (.var 4) (.con "COMPARES" tN)) (eA R W G m x) S=qq (decide (x=.same\/x=.less\/x=.under),S):=jU rfl rfl (zN x)
theorem aKd:tv C (.cmp .Eq (.var 4) (.str "pick")) (eA R W G m x) S=qq (decide (x=.pick),S):=dN rfl (bH x .pick)
variable {C R W G m S}{r : Option (Fl×aC)}
theorem jF{k:Nat}{c:E}{t:Sx}{b:Bool}(e:aK k=.seq (.ifs c t .skip) (aK (k+1)))(h:tv C c (eA R W G m x) S=qq (b,S))(hb:b=false)(g:xs C (aK (k+1)) (eA R W G m x) S=r):xs C (aK k) (eA R W G m x) S=r:=by
 subst hb;rw[e];exact bQ h g
theorem aKq(h:(decide (x=.and)||decide (x=.or))=false)(g:xs C (aK 2) (eA R W G m x) S=r):xs C (aK 0) (eA R W G m x) S=r:=by
 obtain⟨h1,h2⟩:=Bool.or_eq_false_iff.mp h;exact jF x rfl (aDK C R W G m S x) h1 (jF x rfl (aJQ C R W G m S x) h2 g)
theorem aKm(h:(decide (x=.and)||decide (x=.or))=false)(h2:decide (x=.add\/x=.sub)=false)(g:xs C (aK 3) (eA R W G m x) S=r):xs C (aK 0) (eA R W G m x) S=r:=aKq x h (jF x rfl (aKb C R W G m S x) h2 g)
theorem aKk(h:(decide (x=.and)||decide (x=.or))=false)(h2:(decide (x=.add\/x=.sub)||decide (x=.mul))=false)(g:xs C (aK 4) (eA R W G m x) S=r):xs C (aK 0) (eA R W G m x) S=r:=by
 obtain⟨h3,h4⟩:=Bool.or_eq_false_iff.mp h2;exact aKm x h h3 (jF x rfl (aJ4 C R W G m S x) h4 g)
theorem aDo(h:(decide (x=.and)||decide (x=.or))=false)(h2:(decide (x=.add\/x=.sub)||decide (x=.mul))=false)(h5:decide (x=.left\/x=.right\/x=.slide)=false)(g:xs C (aK 5) (eA R W G m x) S=r):xs C (aK 0) (eA R W G m x) S=r:=aKk x h h2 (jF x rfl (aJT C R W G m S x) h5 g)
theorem aDC(h:(decide (x=.and)||decide (x=.or))=false)(h2:(decide (x=.add\/x=.sub)||decide (x=.mul))=false)(h5:decide (x=.left\/x=.right\/x=.slide)=false)(h6:(decide (x=.wide)||decide (x=.sign))=false)(g:xs C (aK 7) (eA R W G m x) S=r):xs C (aK 0) (eA R W G m x) S=r:=by
 obtain⟨h3,h4⟩:=Bool.or_eq_false_iff.mp h6;exact aDo x h h2 h5 (jF x rfl (aDz C R W G m S x) h3 (jF x rfl (aKf C R W G m S x) h4 g))
theorem aVg(h:(decide (x=.and)||decide (x=.or))=false)(h2:(decide (x=.add\/x=.sub)||decide (x=.mul))=false)(h5:decide (x=.left\/x=.right\/x=.slide)=false)(h6:(decide (x=.wide)||decide (x=.sign))=false)(h8:(decide (x=.same\/x=.less\/x=.under)||decide (x=.pick))=false)(g:xs C (aK 9) (eA R W G m x) S=r):xs C (aK 0) (eA R W G m x) S=r:=by
 obtain⟨h3,h4⟩:=Bool.or_eq_false_iff.mp h8;exact aDC x h h2 h5 h6 (jF x rfl (aDE C R W G m S x) h3 (jF x rfl (aKd C R W G m S x) h4 g))
end
section
variable (d w kk m : Nat)(ws : List Nat)(R W : D)(S : aC)(h0 : m≠0)
include h0
theorem aP4(f g:Fc):xs (aD fns (d+3)) (aK 0) (eA R W (.tuple ([f,g].map Fc.d)) m .and) S=qq (.rt (.d (.tuple ((bS .and w kk ws [f,g] m).map nD))),S):=by
 rw[show bS .and w kk ws [f,g] m=_ from if_neg h0]
 refine dW (aDK _ _ _ _ _ _ .and) (cS ?_);simp only[gS0,aAL,aAM,aA3,aEX (d+2),nD,yBl,yBp]
theorem aSk(f g:Fc):xs (aD fns (d+3)) (aK 0) (eA R W (.tuple ([f,g].map Fc.d)) m .or) S=qq (.rt (.d (.tuple ((bS .or w kk ws [f,g] m).map nD))),S):=by
 rw[show bS .or w kk ws [f,g] m=_ from if_neg h0]
 refine jF .or rfl (aDK _ _ _ _ _ _ .or) rfl (dW (aJQ _ _ _ _ _ _ .or) (cS ?_));simp only[gS0,aAL,aAM,aA0,aEX (d+2),nD,yBl,yBp]
theorem aG3(x:Wd)(hx:decide (x=.add\/x=.sub)=true)(h1:(decide (x=.and)||decide (x=.or))=false)(G:D)(bm:m<2^10000):xs (aD fns (d+3)) (aK 0) (eA R W G m x) S=qq (.rt (.d (.tuple ([2^bl m-1,2^bl m-1].map nD))),S):=by
 have t:=aKb (aD fns (d+3)) R W G m S x;rw[hx] at t;refine aKq x h1 (dW t (cS ?_));simp only[gS0,zF (d+1) m _ bm,nD]
theorem aOz(f g:Fc)(hm:m<2^64):xs (aD fns (d+3)) (aK 0) (eA R W (.tuple ([f,g].map Fc.d)) m .mul) S=qq (.rt (.d (.tuple ((bS .mul w kk ws [f,g] m).map nD))),S):=by
 rw[show bS .mul w kk ws [f,g] m=_ from if_neg h0]
 refine aKm .mul rfl rfl (dW (aJ4 _ _ _ _ _ _ .mul) (cS ?_));simp only[evs,aAL,aAM,aA3,aLC d f.N g.N m hm,nD,yBl,yBp]
theorem aC3(x:Wd)(hx:decide (x=.left\/x=.right\/x=.slide)=true)(h1:(decide (x=.and)||decide (x=.or))=false)(h2:(decide (x=.add\/x=.sub)||decide (x=.mul))=false)(a:Nat)(G:D){z:Nat}(sl:cl fns (d+3) 15 [.d (.str x.s),.d (.int (w:Nat)),.d (.int (kk:Nat)),.d (.int (m:Nat))] S=qq (.d (.int (z:Nat)),S)):xs (aD fns (d+3)) (aK 0) (eA (Rw.mk x w [a,kk]).d W G m x) S=qq (.rt (.d (.tuple ([z].map nD))),S):=by
 have t:=aJT (aD fns (d+3)) (Rw.mk x w [a,kk]).d W G m S x;rw[hx] at t;have r1:aO (Rw.mk x w [a,kk]).d (.int 1)=qq (.int (w:Nat)):=eK _;refine aKk x h1 h2 (dW t (cS ?_));simp only[evs,r1,aUY,sl,nD]
theorem aOc(v:Nat)(hv:v<=64)(G:D):xs (aD fns (d+3)) (aK 0) (eA R (.tuple ([v].map nD)) G m .wide) S=qq (.rt (.d (.tuple ([m&&&(2^v-1)].map nD))),S):=by
 refine aDo .wide rfl rfl rfl (dW (aDz _ _ _ _ _ _ .wide) (cS ?_));have hq59:=dH (d+2) v (by omega)
 simp only[gS0,nD,aJg,hq59,cX]
theorem aN3(v:Nat)(hv1:1<=v)(hv:v<=64)(G:D):xs (aD fns (d+3)) (aK 0) (eA R (.tuple ([v].map nD)) G m .sign) S=qq (.rt (.d (.tuple ([hU m v].map nD))),S):=by
 refine aDo .sign rfl rfl rfl (jF .sign rfl (aDz _ _ _ _ _ _ .sign) rfl (dW (aKf _ _ _ _ _ _ .sign) (cS ?_)));have hq60:=aFB (d+1) m v hv1 (by omega)
 simp only[gS0,nD,aJg,hq60]
theorem aCz(x:Wd)(hx:decide (x=.same\/x=.less\/x=.under)=true)(h1:(decide (x=.and)||decide (x=.or))=false)(h2:(decide (x=.add\/x=.sub)||decide (x=.mul))=false)(h5:decide (x=.left\/x=.right\/x=.slide)=false)(h6:(decide (x=.wide)||decide (x=.sign))=false)(v:Nat)(hv:v<=64)(G:D):xs (aD fns (d+3)) (aK 0) (eA R (.tuple ([v,v].map nD)) G m x) S=qq (.rt (.d (.tuple ([2^v-1,2^v-1].map nD))),S):=by
 have t:=aDE (aD fns (d+3)) R (.tuple ([v,v].map nD)) G m S x;rw[hx] at t;refine aDC x h1 h2 h5 h6 (dW t (cS ?_));have hq61:=dH (d+2) v (by omega)
 simp only[gS0,nD,aAL,aAM,hq61]
theorem aM4(f g h:Fc):xs (aD fns (d+3)) (aK 0) (eA R W (.tuple ([f,g,h].map Fc.d)) m .pick) S=qq (.rt (.d (.tuple ((bS .pick w kk ws [f,g,h] m).map nD))),S):=by
 rw[show bS .pick w kk ws [f,g,h] m=_ from if_neg h0]
 refine aDC .pick rfl rfl rfl rfl (jF .pick rfl (aDE _ _ _ _ _ _ .pick) rfl (dW (aKd _ _ _ _ _ _ .pick) (cS ?_)));simp only[gS0,aTo,aLp (d+2),yBl]
omit h0 in
theorem aT0(n:Nat)(h:n<=10):bR .Mult (.tuple [.int (m:Nat)]) (.int ((n:Nat):Int))=qq (.tuple ((yAd n m).map nD)):=by
 rw[aGI (k:=n) (by omega),yGm]
 rfl
theorem uC(x:Wd)(args:List Nat)(ha:vA x args kk)(h1:(decide (x=.and)||decide (x=.or))=false)(h2:(decide (x=.add\/x=.sub)||decide (x=.mul))=false)(h5:decide (x=.left\/x=.right\/x=.slide)=false)(h6:(decide (x=.wide)||decide (x=.sign))=false)(h8:(decide (x=.same\/x=.less\/x=.under)||decide (x=.pick))=false)(G:D):xs (aD fns (d+3)) (aK 0) (eA (Rw.mk x w args).d W G m x) S=qq (.rt (.d (.tuple ((yAd (aI x) m).map nD))),S):=by
 have op:cl fns (d+3) 7 [.d (Rw.mk x w args).d] S=qq (.d (.tuple ((args.take (aI x)).map nD)),S):=pE (d+2) ⟨x,w,args⟩ S;have lop:eT [.tuple ((args.take (aI x)).map nD)]=qq (.int ((aI x:Nat):Int)):=by
  simp only[dX,dU,yAb,zG ha]
 have rp:=aT0 m (aI x) (by cases x<;>decide)
 refine aVg x h1 h2 h5 h6 h8 (cS ?_);simp only[gS0,op,lop,rp]
end
theorem aMn(d:Nat)(wd:Wd)(w:Nat)(args:List Nat)(kk:Nat)(ws:List Nat)(fs:List Fc)(m:Nat)(hk:aAZ wd w ws)(hf:fs.length=aI wd)(ha:vA wd args kk)(hm:m<2^w)(h0:m≠0)(S:aC) :
 cl fns (d+4) 17 [.d (Rw.mk wd w args).d,.d (.tuple (ws.map nD)),.d (.tuple (fs.map Fc.d)),.d (.int (m:Nat))] S=qq (.d (.tuple ((bS wd w kk ws fs m).map nD)),S):=by
 have hm64:m<2^64:=xAc hm (yAq (by decide) hk.2.1)
 have r0:aO (Rw.mk wd w args).d (.int 0)=qq (.str wd.s):=lH _;have bm:m<2^10000:=aIm hm64 (by decide)
 refine fB rfl (d+3) rfl rfl (yAh) (eJ (S1:=S) (w:=.d (.str wd.s)) (aM:=eA (Rw.mk wd w args).d (.tuple (ws.map nD)) (.tuple (fs.map Fc.d)) m wd) (by simp only[evs,r0]) rfl ?_)
 show xs (aD fns (d+3)) (aK 0) (eA (Rw.mk wd w args).d (.tuple (ws.map nD)) (.tuple (fs.map Fc.d)) m wd) S=_;clear r0;obtain⟨cG,bX,hk⟩:=hk;have e0:bS wd w kk ws fs m=_:=if_neg h0;cases wd
 case and=>obtain⟨f,g,rfl⟩:=aDI hf;exact aP4 d w kk m ws _ _ S h0 f g
 case or=>obtain⟨f,g,rfl⟩:=aDI hf;exact aSk d w kk m ws _ _ S h0 f g
 case add=>rw[e0];exact aG3 d m _ _ S h0 .add rfl rfl _ bm
 case sub=>rw[e0];exact aG3 d m _ _ S h0 .sub rfl rfl _ bm
 case mul=>obtain⟨f,g,rfl⟩:=aDI hf;exact aOz d w kk m ws _ _ S h0 f g hm64
 case left =>
  obtain⟨a,rfl,hkk⟩:=ha;rw[e0];exact aC3 d w kk m _ S h0 .left rfl rfl rfl a _ (aPt d w kk m S)
 case right =>
  obtain⟨a,rfl,hkk⟩:=ha;rw[e0];exact aC3 d w kk m _ S h0 .right rfl rfl rfl a _ (aN4 d w kk m bX (by omega) hm64 S)
 case slide =>
  obtain⟨a,rfl,hkk⟩:=ha;rw[e0];exact aC3 d w kk m _ S h0 .slide rfl rfl rfl a _ (aNx d w kk m cG bX (by omega) hm64 S)
 case wide =>
  obtain⟨v,rfl,hv1,hv2⟩:=hk;rw[e0];exact aOc d m _ S h0 v (by omega) _
 case sign =>
  obtain⟨v,rfl,hv1,hv2⟩:=hk;rw[e0];exact aN3 d m _ S h0 v (by omega) (by omega) _
 case same =>
  obtain⟨_,v,rfl,hv1,hv2⟩:=hk;rw[e0];exact aCz d m _ S h0 .same rfl rfl rfl rfl rfl v (by omega) _
 case less =>
  obtain⟨_,v,rfl,hv1,hv2⟩:=hk;rw[e0];exact aCz d m _ S h0 .less rfl rfl rfl rfl rfl v (by omega) _
 case under =>
  obtain⟨_,v,rfl,hv1,hv2⟩:=hk;rw[e0];exact aCz d m _ S h0 .under rfl rfl rfl rfl rfl v (by omega) _
 case pick=>obtain⟨f,g,h,rfl⟩:=aV7 hf;exact aM4 d w kk m ws _ _ S h0 f g h
 case «in» => rw[e0];exact uC d w kk m _ S h0 .in args ha rfl rfl rfl rfl rfl _
 case num=>rw[e0];exact uC d w kk m _ S h0 .num args ha rfl rfl rfl rfl rfl _
 case not=>rw[e0];exact uC d w kk m _ S h0 .not args ha rfl rfl rfl rfl rfl _
 case cut=>rw[e0];exact uC d w kk m _ S h0 .cut args ha rfl rfl rfl rfl rfl _
 case xor=>rw[e0];exact uC d w kk m _ S h0 .xor args ha rfl rfl rfl rfl rfl _
theorem aNr(n:Nat)(h:n<=10):bR .Mult (.tuple [.int 0]) (.int ((n:Nat):Int))=qq (.tuple ((yAd n 0).map nD)):=by
 rw[aGI (k:=n) (by omega),yGm]
 rfl
theorem aPO(d:Nat)(wd:Wd)(w:Nat)(args:List Nat)(kk:Nat)(ws:List Nat)(fs:List Fc)(m:Nat)(hk:aAZ wd w ws)(hf:fs.length=aI wd)(ha:vA wd args kk)(hm:m<2^w)(S:aC) :
 cl fns (d+5) 18 [.d (Rw.mk wd w args).d,.d (.tuple (ws.map nD)),.d (.tuple (fs.map Fc.d)),.d (.int (m:Nat))] S=qq (.d (.tuple ((bS wd w kk ws fs m).map nD)),S):=by
 rw[aT rfl (d+4) _ S rfl]
 by_cases h0:m=0
 ·have d0:(m==0)=true:=by rw[beq_iff_eq];exact h0
  have e0:bS wd w kk ws fs m=yAd (aI wd) 0:=if_pos h0;have lop:eT [.tuple ((args.take (aI wd)).map nD)]=qq (.int ((aI wd:Nat):Int)):=by
   simp only[dX,dU,yAb,zG ha]
  have op:cl fns (d+4) 7 [.d (Rw.mk wd w args).d] S=qq (.d (.tuple ((args.take (aI wd)).map nD)),S):=pE (d+3) ⟨wd,w,args⟩ S;rw[e0];have hq62:=aNr (aI wd) (by cases wd<;>decide)
  simp only[gR1,aC8,aS,bT,d0,op,lop,hq62]
 ·have d0:(m==0)=false:=by rw[beq_eq_false_iff_ne];exact h0
  simp only[gR1,aC8,aS,bT,d0,aMn d wd w args kk ws fs m hk hf ha hm h0]
noncomputable def pT:Sx:=bM (bM (bM gP))
noncomputable def pR(k:Nat):Sx:=match k with
 | 0=>cP gP
 | 1=>cP (bM gP)
 | 2=>cP (bM (bM gP))
 | 4=>cP pT
 | 5=>cP (bM pT)
 | 6=>cP (bM (bM pT))
 | 7=>cP (bM (bM (bM pT)))
 | _=>cP (bM (bM (bM (bM pT))))
theorem aNE:pT=.seq (pR 4) (.seq (pR 5) (.seq (pR 6) (.seq (pR 7) (.seq (pR 8) .skip)))):=rfl
theorem aP2:gP=.seq (pR 0) (.seq (pR 1) (.seq (pR 2) pT)):=rfl
theorem aOb{S:aC}{p:Nat}(h:At S 0 p)(ns:List Int)(k:Nat)(x:Int)(rs:List Rw):∃ T,aP S 0 p ns k x rs=qq (bW ns k x)::T:=by
 have hs:=h.toAt0.state (ns:=ns) (k:=k) (x:=x) (rs:=rs);rcases e:aP S 0 p ns k x rs with _ | ⟨a,T⟩
 ·rw[e] at hs;cases hs
 ·rw[e] at hs;cases hs;exact⟨T,rfl⟩
theorem zX{S:aC}{p:Nat}(h:At S 0 p)(ns:List Int)(k:Nat)(x:Int)(rs:List Rw)(T:aC):aP (S++T) 0 p ns k x rs=aP S 0 p ns k x rs++T:=by
 unfold aP;rw[List.set_append_left _ _ h.hn,List.set_append_left _ _ (by rw[yBe];exact h.hp)]
theorem At.app{S:aC}{p:Nat}(h:At S 0 p)(T:aC):At (S++T) 0 p:=⟨⟨by rw[xAo];have:=h.hn;omega,h.ne⟩,by rw[xAo];have:=h.hp;omega⟩
theorem aNd{l:List Nat}{q n:Nat}(h:∀ o∈l,o<n)(hq:q<n):∀ o∈l++[q],o<n:=λ o ho=>by
 rcases List.mem_append.mp ho with ho | ho
 ·exact h o ho
 ·rw[yDy] at ho;subst ho;exact hq
theorem aOm{a m:Nat}(h:a=m+1)(h2:m<=7):a<=8:=by omega
theorem aI9{S:aC}{p:Nat}(h:At S 0 p){ns:List Int}{k:Nat}{x:Int}{rs:List Rw}(d most q:Nat)(hm:most<=30)(ok:dM [] rs)(l0:0<rs.length)(l1:rs.length<=40)(hk:k<=50000) :
 ∃ (aN:List Rw) (aE:List Nat) (k':Nat) (x':Int) (T:aC),dM [] aN/\0<aN.length/\aN.length<=40/\k'<=k+700/\(∀ o∈aE,o<aN.length)/\aE.length<=8/\xs (aD fns (d+5)) pT [qq (.loc 0),qq (.d (.int (most:Nat))),qq (.d (.int (q:Nat))),qq (.loc p),qz,qz,qz] (aP S 0 p ns k x rs)=qq (.rt (.d (.tuple [.tuple (aN.map Rw.d),.tuple (aE.map nD)])),qq (bW ns k' x')::T):=by
 obtain⟨env1,S1,p1,a4,aN,k1,x1,ok1,l0',l1',hk1,rfl,rfl⟩:=aIc (t:=.one 4) (fi:=lv (aD fns (d+5)) xL) (fb:=xs (aD fns (d+5)) xK) (env:=[qq (.loc 0),qq (.d (.int (most:Nat))),qq (.d (.int (q:Nat))),qq (.loc p),qz,qz,qz]) (S:=aP S 0 p ns k x rs)
  (λ j env S'=>∃ (a4:Option W) (rs:List Rw) (k':Nat) (x:Int),dM [] rs/\0<rs.length/\rs.length<=40/\k'<=k+20*j/\env=[qq (.loc 0),qq (.d (.int (most:Nat))),qq (.d (.int (q:Nat))),qq (.loc p),a4,qz,qz]/\S'=aP S 0 p ns k' x rs)
  (show lv (aD fns (d+5)) xL _ _=qq ((yAo most).map (λ k=>yAm (k:Nat)),_) by
    simp only[xL,rY,rA,rB,rC];exact qS rfl (by omega))
  ⟨qz,rs,k,x,ok,l0,l1,by omega,rfl,rfl⟩ (by
   rintro j dd env S' hj ⟨a4,rs,k',x,ok,l0,l1,hk',rfl,rfl⟩;have hj':j<most:=by simpa using hj
   refine⟨[qq (.loc 0),qq (.d (.int (most:Nat))),qq (.d (.int (q:Nat))),qq (.loc p),qq (.d dd),qz,qz],[qq (.loc 0),qq (.d (.int (most:Nat))),qq (.d (.int (q:Nat))),qq (.loc p),qq (.d dd),qz,qz],?_⟩
   by_cases c:rs.length<37
   ·have d1:decide (((rs.length:Nat):Int)<37)=true:=dqT (by omega)
    obtain⟨k2,x',aN,ok',g1,g2,hk2,e⟩:=GP.row_ok (ns:=ns) (k:=k') (x:=x) h d ok l0 (by omega) (by omega)
    refine⟨_,rfl,?_,qq (.d dd),aN,k2,x',ok',by omega,by omega,by omega,rfl,rfl⟩
    simp only[gS1,xK,h.rows,dX,dU,GP.rows_len,fA,d1,e]
   ·have d1:decide (((rs.length:Nat):Int)<37)=false:=dqF (by omega)
    refine⟨_,rfl,?_,qq (.d dd),rs,k',x,ok,l0,l1,by omega,rfl,rfl⟩
    simp only[evs,xK,h.rows,dX,dU,GP.rows_len,fA,d1])
 have hk2:k1<=k+600:=by simp at hk1;omega
 obtain⟨q2,x2,hq2,e2⟩:=gD (ns:=ns) (k:=k1) (x:=x1) (rs:=aN) h.toAt0 (d+4) aN.length l0' (by omega) (by omega)
 obtain⟨q3,x3,hq3,e3⟩:=gX (ns:=ns) (k:=k1+1) (x:=x2) (rs:=aN) h.toAt0 (d+4) 4 (i:=4) rfl (by decide) (by decide) (by omega)
 obtain⟨b3,hb3,eb3⟩:=b2i ((q3:Int)==1);obtain⟨y,hy,ey⟩:=at2 (.int (((aN.length:Nat):Int)-1)) (.int (q2:Nat)) hb3;obtain⟨y0,hy0,rfl⟩:∃ y0:Nat,y0<aN.length/\y=nD y0:=by
  rcases hy with rfl | rfl
  ·have e9:((aN.length:Nat):Int)-1=((aN.length-1:Nat):Int):=by omega
   exact⟨aN.length-1,by omega,by rw[e9];rfl⟩
  ·exact⟨q2,hq2,rfl⟩
 have p5:xs (aD fns (d+5)) (pR 5) [qq (.loc 0),qq (.d (.int (most:Nat))),qq (.d (.int (q:Nat))),qq (.loc p),a4,qz,qz] (aP S 0 p ns k1 x1 aN)=qq (.nx [qq (.loc 0),qq (.d (.int (most:Nat))),qq (.d (.int (q:Nat))),qq (.loc p),a4,qq (.d (.list [.int (((aN.length:Nat):Int)-1),.int (q2:Nat)])),qz],aP S 0 p ns (k1+1) x2 aN):=by
  simp only[gS5,pR,pT,bM,cP,gP,h.rows,dX,dU,GP.rows_len,cH,e2]
 have p6:xs (aD fns (d+5)) (pR 6) [qq (.loc 0),qq (.d (.int (most:Nat))),qq (.d (.int (q:Nat))),qq (.loc p),a4,qq (.d (.list [.int (((aN.length:Nat):Int)-1),.int (q2:Nat)])),qz] (aP S 0 p ns (k1+1) x2 aN)=qq (.nx [qq (.loc 0),qq (.d (.int (most:Nat))),qq (.d (.int (q:Nat))),qq (.loc p),a4,qq (.d (.list [.int (((aN.length:Nat):Int)-1),.int (q2:Nat)])),qq (.loc S.length)],aP (S++[qq [nD y0]]) 0 p ns (k1+2) x3 aN):=by
  have hl:(aP S 0 p ns (k1+1+1) x3 aN).length=S.length:=h.toAt0.len;rw[zX h];simp only[gS5,pR,pT,bM,cP,gP,gK,e3,aS,aAs,zY,eb3,ey,hl]
 obtain⟨q4,x4,hq4,e4⟩:=gX (ns:=ns) (k:=k1+2) (x:=x3) (rs:=aN) (At.app h [qq [nD y0]]).toAt0 (d+4) 3 (i:=3) rfl (by decide) (by decide) (by omega)
 obtain⟨q5,x5,hq5,e5⟩:=gX (ns:=ns) (k:=k1+3) (x:=x4) (rs:=aN) (At.app h [qq [nD y0]]).toAt0 (d+4) 8 (i:=8) rfl (by decide) (by decide) (by omega)
 obtain⟨b5,hb5,eb5⟩:=b2i ((q5:Int)==1);obtain⟨z,hz,ez⟩:=at2 (.int (q4:Nat)) (.int 7) hb5;obtain⟨m,hm7,rfl⟩:∃ m:Nat,m<=7/\z=.int (m:Nat):=by
  rcases hz with rfl | rfl
  ·exact⟨_,by omega,rfl⟩
  ·exact⟨7,by decide,rfl⟩
 obtain⟨env2,S2,p4,a4',aE,k6,x6,ol,oa,hk6,rfl,rfl⟩:=aIc (t:=.one 4) (fi:=lv (aD fns (d+5)) aBD) (fb:=xs (aD fns (d+5)) aBC) (env:=[qq (.loc 0),qq (.d (.int (most:Nat))),qq (.d (.int (q:Nat))),qq (.loc p),a4,qq (.d (.list [.int (((aN.length:Nat):Int)-1),.int (q2:Nat)])),qq (.loc S.length)]) (S:=aP (S++[qq [nD y0]]) 0 p ns (k1+2) x3 aN) (S1:=aP (S++[qq [nD y0]]) 0 p ns (k1+2+1+1) x5 aN) (ds:=(yAo m).map (λ k=>yAm (k:Nat)))
  (λ j env S'=>∃ (a4:Option W) (aE:List Nat) (k:Nat) (x:Int),aE.length=j+1/\(∀ o∈aE,o<aN.length)/\k<=k1+4+j/\env=[qq (.loc 0),qq (.d (.int (most:Nat))),qq (.d (.int (q:Nat))),qq (.loc p),a4,qq (.d (.list [.int (((aN.length:Nat):Int)-1),.int (q2:Nat)])),qq (.loc S.length)]/\S'=aP (S++[qq (aE.map nD)]) 0 p ns k x aN)
  (by
    simp only[aBD,rY,rA,rB,rC];refine qS ?_ (by omega)
    simp only[evs,e4,e5,aS,aAs,zY,eb5,ez])
  ⟨a4,[y0],k1+4,x5,rfl,λ o ho=>by rw[yDy] at ho;subst ho;exact hy0,by omega,rfl,rfl⟩ (by
   rintro j dd env S' hj ⟨a4,aE,k,x,ol,oa,hk,rfl,rfl⟩;have hj':j<m:=by simpa using hj
   have hA:=At.app h [qq (aE.map nD)];obtain⟨q6,x6,hq6,e6⟩:=gD (ns:=ns) (k:=k) (x:=x) (rs:=aN) hA.toAt0 (d+4) aN.length l0' (by omega) (by omega)
   refine⟨[qq (.loc 0),qq (.d (.int (most:Nat))),qq (.d (.int (q:Nat))),qq (.loc p),qq (.d dd),qq (.d (.list [.int (((aN.length:Nat):Int)-1),.int (q2:Nat)])),qq (.loc S.length)],[qq (.loc 0),qq (.d (.int (most:Nat))),qq (.d (.int (q:Nat))),qq (.loc p),qq (.d dd),qq (.d (.list [.int (((aN.length:Nat):Int)-1),.int (q2:Nat)])),qq (.loc S.length)],aP (S++[qq ((aE++[q6]).map nD)]) 0 p ns (k+1) x6 aN,rfl,?_,qq (.d dd),aE++[q6],k+1,x6,by simp[ol],aNd oa hq6,by omega,rfl,rfl⟩
   have ap:dP (aP (S++[qq (aE.map nD)]) 0 p ns (k+1) x6 aN) (.loc S.length) (.d (.int (q6:Nat)))=qq (.d .none,aP (S++[qq ((aE++[q6]).map nD)]) 0 p ns (k+1) x6 aN):=by
    rw[zX h,zX h,yAz];have hl:(aP S 0 p ns (k+1) x6 aN).length=S.length:=h.toAt0.len;have:=aGH (aP S 0 p ns (k+1) x6 aN) (aE.map nD) (.int (q6:Nat)) (by rw[yAb];omega)
    rw[hl] at this;exact this
   simp only[evs,aBC,hA.rows,dX,dU,GP.rows_len,e6,hZ,ap])
 have hk7:k6<=k1+4+m:=by simpa using hk6
 obtain⟨T,hT⟩:=aOb (At.app h [qq (aE.map nD)]) ns k6 x6 aN;refine⟨aN,aE,k6,x6,T,ok1,l0',l1',by omega,oa,aOm (by simpa using ol) hm7,?_⟩
 have p4':xs (aD fns (d+5)) (pR 4) [qq (.loc 0),qq (.d (.int (most:Nat))),qq (.d (.int (q:Nat))),qq (.loc p),qz,qz,qz] (aP S 0 p ns k x rs)=qq (.nx [qq (.loc 0),qq (.d (.int (most:Nat))),qq (.d (.int (q:Nat))),qq (.loc p),a4,qz,qz],aP S 0 p ns k1 x1 aN):=p1;have p7':xs (aD fns (d+5)) (pR 7) [qq (.loc 0),qq (.d (.int (most:Nat))),qq (.d (.int (q:Nat))),qq (.loc p),a4,qq (.d (.list [.int (((aN.length:Nat):Int)-1),.int (q2:Nat)])),qq (.loc S.length)] (aP (S++[qq [nD y0]]) 0 p ns (k1+2) x3 aN)=qq (.nx [qq (.loc 0),qq (.d (.int (most:Nat))),qq (.d (.int (q:Nat))),qq (.loc p),a4',qq (.d (.list [.int (((aN.length:Nat):Int)-1),.int (q2:Nat)])),qq (.loc S.length)],aP (S++[qq (aE.map nD)]) 0 p ns k6 x6 aN):=p4;rw[aNE,eZ p4',eZ p5,eZ p6,eZ p7',<- hT];have g2:(aP (S++[qq (aE.map nD)]) 0 p ns k6 x6 aN)[S.length]? = qq (qq (aE.map nD)):=by
  rw[zX h];have hl:(aP S 0 p ns k6 x6 aN).length=S.length:=h.toAt0.len;rw[<- hl];exact qY _ _
 simp only[gS5,pR,pT,bM,cP,gP,(At.app h [qq (aE.map nD)]).rows,g2,lD,lC]
theorem A2:At [qz,qz] 0 1:=⟨⟨by decide,by decide⟩,by decide⟩
theorem A3(j:List D):At [qz,qq j,qz] 0 2:=⟨⟨by show 0<3;decide,by decide⟩,by show 2<3;decide⟩
theorem aRS(d most:Nat)(ns:List Int)(hm:most<=30)(kk:Nat)(xx:Int)(hkk:kk<=40000):∃ (rs:List Rw) (aE:List Nat) (k:Nat) (x:Int),dM [] rs/\0<rs.length/\rs.length<=40/\k<=kk+800/\(∀ o∈aE,o<rs.length)/\aE.length<=8/\cl fns (d+6) 69 [.loc 0,.d (.int (most:Nat))] [qq (bW ns kk xx)]=qq (.d (.tuple [.tuple (rs.map Rw.d),.tuple (aE.map nD)]),[qq (bW ns k x)]):=by
 obtain⟨w,x0,cG,bX,e0⟩:=aF2 (ns:=ns) (k:=kk) (x:=xx) (rs:=[]) at1 (d+3) (by omega)
 rw[aKs,aKs] at e0;have p0:xs (aD fns (d+5)) (pR 0) [qq (.loc 0),qq (.d (.int (most:Nat))),qz,qz,qz,qz,qz] [qq (bW ns kk xx)]=qq (.nx [qq (.loc 0),qq (.d (.int (most:Nat))),qq (.d (.int (w:Nat))),qz,qz,qz,qz],[qq (bW ns (kk+3) x0)]):=by
  simp only[gS3,pR,cP,gP,e0]
 have p1:xs (aD fns (d+5)) (pR 1) [qq (.loc 0),qq (.d (.int (most:Nat))),qq (.d (.int (w:Nat))),qz,qz,qz,qz] [qq (bW ns (kk+3) x0)]=qq (.nx [qq (.loc 0),qq (.d (.int (most:Nat))),qq (.d (.int (w:Nat))),qq (.loc 1),qz,qz,qz],aP [qz,qz] 0 1 ns (kk+3) x0 [⟨.in,w,[]⟩]):=by
  simp only[gS4,pR,cP,bM,gP,gK]
 obtain⟨q,x1,hq,e1⟩:=gX (ns:=ns) (k:=kk+3) (x:=x0) (rs:=[⟨.in,w,[]⟩]) A2.toAt0 (d+4) 8 (i:=8) rfl (by decide) (by decide) (by omega)
 have ok0:dM [] [⟨.in,w,[]⟩]:=⟨⟨cG,bX,True.intro⟩,True.intro⟩
 suffices H:∃ (rs:List Rw) (aE:List Nat) (k:Nat) (x:Int) (T:aC),dM [] rs/\0<rs.length/\rs.length<=40/\k<=kk+800/\(∀ o∈aE,o<rs.length)/\aE.length<=8/\xs (aD fns (d+5)) (.seq (pR 2) pT) [qq (.loc 0),qq (.d (.int (most:Nat))),qq (.d (.int (w:Nat))),qq (.loc 1),qz,qz,qz] (aP [qz,qz] 0 1 ns (kk+3) x0 [⟨.in,w,[]⟩])=qq (.rt (.d (.tuple [.tuple (rs.map Rw.d),.tuple (aE.map nD)])),qq (bW ns k x)::T) by
  obtain⟨rs,aE,k,x,T,h1,h2,h3,h4,h6,h7,h5⟩:=H;refine⟨rs,aE,k,x,h1,h2,h3,h4,h6,h7,?_⟩;have full:xs (aD fns (d+5)) gP [qq (.loc 0),qq (.d (.int (most:Nat))),qz,qz,qz,qz,qz] [qq (bW ns kk xx)]=qq (.rt (.d (.tuple [.tuple (rs.map Rw.d),.tuple (aE.map nD)])),qq (bW ns k x)::T):=by
   rw[aP2,eZ p0,eZ p1];exact h5
  rw[aT rfl (d+5) _ _ rfl];show((xs (aD fns (d+5)) gP [qq (.loc 0),qq (.d (.int (most:Nat))),qz,qz,qz,qz,qz] [qq (bW ns kk xx)]).bind _)=_;rw[full];rfl
 by_cases c:q=1
 ·have dq:(((q:Nat):Int)==1)=true:=by rw[beq_iff_eq];omega
  obtain⟨n,k2,x2,hn,hk2,e2⟩:=aH1 (ns:=ns) (k:=kk+3+1) (x:=x1) (rs:=[⟨.in,w,[]⟩]) A2.toAt0 (d+2) w cG bX (by omega)
  have hl:(aP [qz,qz] 0 1 ns k2 x2 [⟨.in,w,[]⟩]).length=2:=rfl;have p2:xs (aD fns (d+5)) (pR 2) [qq (.loc 0),qq (.d (.int (most:Nat))),qq (.d (.int (w:Nat))),qq (.loc 1),qz,qz,qz] (aP [qz,qz] 0 1 ns (kk+3) x0 [⟨.in,w,[]⟩])=qq (.nx [qq (.loc 0),qq (.d (.int (most:Nat))),qq (.d (.int (w:Nat))),qq (.loc 2),qz,qz,qz],aP [qz,qq ([(⟨.in,w,[]⟩:Rw)].map Rw.d),qz] 0 2 ns k2 x2 [⟨.num,w,[n]⟩]):=by
   simp only[gS4,pR,cP,bM,gP,e1,aS,dq,e2,gK,hl]
  obtain⟨rs,aE,k,x,T,h1,h2,h3,h4,h6,h7,h5⟩:=aI9 (A3 ([(⟨.in,w,[]⟩:Rw)].map Rw.d)) (ns:=ns) (k:=k2) (x:=x2) (rs:=[⟨.num,w,[n]⟩]) d most w hm ⟨⟨cG,bX,hn⟩,True.intro⟩ (by simp) (by simp) (by omega)
  refine⟨rs,aE,k,x,T,h1,h2,h3,by omega,h6,h7,?_⟩
  rw[eZ p2];exact h5
 ·have dq:(((q:Nat):Int)==1)=false:=by rw[beq_eq_false_iff_ne];omega
  have p2:xs (aD fns (d+5)) (pR 2) [qq (.loc 0),qq (.d (.int (most:Nat))),qq (.d (.int (w:Nat))),qq (.loc 1),qz,qz,qz] (aP [qz,qz] 0 1 ns (kk+3) x0 [⟨.in,w,[]⟩])=qq (.nx [qq (.loc 0),qq (.d (.int (most:Nat))),qq (.d (.int (w:Nat))),qq (.loc 1),qz,qz,qz],aP [qz,qz] 0 1 ns (kk+3+1) x1 [⟨.in,w,[]⟩]):=by
   simp only[gS4,pR,cP,bM,gP,e1,aS,dq]
  obtain⟨rs,aE,k,x,T,h1,h2,h3,h4,h6,h7,h5⟩:=aI9 A2 (ns:=ns) (k:=kk+3+1) (x:=x1) (rs:=[⟨.in,w,[]⟩]) d most w hm ok0 (by simp) (by simp) (by omega)
  refine⟨rs,aE,k,x,T,h1,h2,h3,by omega,h6,h7,?_⟩
  rw[eZ p2];exact h5
noncomputable def lZ(r:Rw):List Nat:=r.args.take (aI r.wd)
noncomputable def jC(r:Rw):Nat:=r.args.getD 1 0
noncomputable def iB(r:Rw)(F:List Ft):List Fc:=(bK r F).map λ f=>⟨f.N,f.O,f.A⟩
noncomputable def kG(rs:List Rw)(F:List Ft)(r:Rw)(m:Nat):List Nat:=bS r.wd r.w (jC r) (bB r (rs.map (·.w))) (iB r F) m
noncomputable def eM(rs:List Rw)(F:List Ft)(r:Rw)(m:Nat):List (Nat×Nat):=(lZ r).zip (kG rs F r m)
noncomputable def pD(p:Nat×Nat):D:=.tuple [nD p.1,nD p.2]
theorem rT{r:Rw}{ws:List Nat}(h:RwOk r ws):aAZ r.wd r.w ws/\vA r.wd r.args (jC r):=by
 cases h with
 | inp h1 h2=>exact⟨⟨h1,h2,rfl⟩,rfl⟩
 | num h1 h2 hn=>exact⟨⟨h1,h2,rfl⟩,_,rfl⟩
 | nt h1 h2=>exact⟨⟨h1,h2,rfl⟩,_,rfl⟩
 | sh h1 h2 bD hk=>rcases bD with rfl | rfl | rfl<;>exact⟨⟨h1,h2,rfl⟩,_,rfl,hk⟩
 | cut h1 hv h2=>exact⟨⟨h1,xAi hv h2,_,rfl,hv,h2⟩,_,rfl⟩
 | wide h1 hv h2=>exact⟨⟨xAi h1 hv,h2,_,rfl,hv,h1⟩,_,rfl⟩
 | sign h1 hv h2=>exact⟨⟨xAi h1 hv,h2,_,rfl,hv,h1⟩,_,rfl⟩
 | bw h1 h2 bD=>rcases bD with rfl | rfl | rfl<;>exact⟨⟨h1,h2,rfl⟩,_,_,rfl⟩
 | sm h1 h2 =>
   rename_i s w a b;cases s<;>exact⟨⟨h1,h2,rfl⟩,_,_,rfl⟩
 | cmp h1 h2 bD=>rcases bD with rfl | rfl | rfl<;>exact⟨⟨yAc 1,(show 1<=64 by decide),rfl,_,rfl,h1,h2⟩,_,_,rfl⟩
 | pick h1 h2=>exact⟨⟨h1,h2,rfl⟩,_,_,_,rfl⟩
theorem aH0:∀ as bs:List Nat,dQ (as.map nD) (bs.map nD)=(as.zip bs).map pD
 | [],_=>by cases ‹List Nat› <;> rfl
 | _::_,[]=>rfl
 | a::as,b::bs=>by
   show yCw [nD a,nD b]::dQ (as.map nD) (bs.map nD)=pD (a,b)::(as.zip bs).map pD;rw[aH0 as bs];rfl
theorem aTt(r:Rw)(F:List Ft):(iB r F).map Fc.d=(bK r F).map Ft.d:=by
 unfold iB;rw[yBs];rfl
theorem aIB(d a:Nat){rs:List Rw}{r:Rw}(hr:rs[a]? = qq r)(o:D)(S:aC):cl fns (d+1) 10 [.d (.tuple [.tuple (rs.map Rw.d),o]),.d (.int (a:Nat))] S=qq (.d (.int (r.w:Nat)),S):=by
 have i0:aO (.tuple [.tuple (rs.map Rw.d),o]) (.int 0)=qq (.tuple (rs.map Rw.d)):=rfl;have e1:aO (.tuple (rs.map Rw.d)) (.int (a:Nat))=qq r.d:=gQ (by rw[xAb,hr];rfl)
 rw[aT rfl d _ S rfl];simp only[gR1,aFU,i0,e1,eK]
theorem vV{rs:List Rw}{a:Nat}{r:Rw}(hr:rs[a]? = qq r):g0 (rs.map (·.w)) a=r.w:=by
 show(rs.map (·.w)).getD a 0=_;rw[xAh,xAb,hr];rfl
theorem aPI{fa fb:FE}{env:aY}{S S1 S2:aC}{as bs:List Nat}(h1:fa env S=qq (.d (.tuple (as.map nD)),S1))(h2:fb env S1=qq (.d (.tuple (bs.map nD)),S2))(hl:as.length<=1000):sE fa fb env S=qq ((as.zip bs).map pD,S2):=by
 have e:aA4 fa fb env S=qq ((as.zip bs).map pD,S2):=by
  unfold aA4;rw[h1,oB,h2,oB,<- aH0];rfl
 unfold sE oQ;rw[e,oB,if_pos];show((as.zip bs).map pD).length<=1000000;rw[yAb,List.length_zip];omega
theorem aCI(r:Rw):(lZ r).length<=3:=by
 have:=aIi r.wd;unfold lZ;rw[yBx];omega
section
variable {rs : List Rw}{F : List Ft}{r : Rw}{k m : Nat}
theorem aPs(p:Prg rs)(hr:rs[k]? = qq r):(iB r F).length=aI r.wd:=by
 have h:=(rT (p.fit k r hr).1).2;unfold iB bK;rw[yAb,yAb];exact zG h
theorem aLE(d:Nat)(p:Prg rs)(hr:rs[k]? = qq r)(hF:F.length=rs.length)(hm:m<2^r.w)(o:D)(S:aC):cl fns (d+6) 19 [.d (.tuple [.tuple (rs.map Rw.d),o]),.d (.tuple (F.map Ft.d)),.d (.int (k:Nat)),.d (.int (m:Nat))] S=qq (.d (.list ((eM rs F r m).map pD)),S):=by
 have i0:aO (.tuple [.tuple (rs.map Rw.d),o]) (.int 0)=qq (.tuple (rs.map Rw.d)):=rfl;have e1:aO (.tuple (rs.map Rw.d)) (.int (k:Nat))=qq r.d:=gQ (by rw[xAb,hr];rfl)
 obtain⟨f1,f2'⟩:=p.fit k r hr;have hk:k<rs.length:=(gIm hr).1;have ol:=aCI r;have hc:lv (aD fns (d+5)) aEs [qq (.d (.tuple [.tuple (rs.map Rw.d),o])),qq (.d (.tuple (F.map Ft.d))),qq (.d (.int (k:Nat))),qq (.d (.int (m:Nat))),qq (.d r.d),qz,qz,qz] S=qq ((bB r (rs.map (·.w))).map nD,S):=by
  unfold bB;rw[yBs];refine uP (fi:=lv (aD fns (d+5)) (.it (.call 7 (.cons (.var 4) .nil)))) (fe:=ev (aD fns (d+5)) (.call 10 (.cons (.var 0) (.cons (.var 7) .nil)))) nD (nD ∘ g0 (rs.map (·.w))) (r.args.take (aI r.wd)) ?_ (by rw[zj];have:(r.args.take (aI r.wd)).length<=3:=ol;omega) λ a ha=>?_
  ·simp only[gS0,pE (d+4),fM]
  ·refine⟨_,rfl,λ S'=>?_⟩
   have haj:=f2' a ha;have hq:rs[a]? = qq rs[a]:=yAa (by omega)
   have e2:=aIB (d+4) a hq o S';have e2':cl fns (d+5) 10 [.d (.tuple [.tuple (rs.map Rw.d),o]),.d (nD a)] S'=qq (.d (.int (rs[a].w:Nat)),S'):=e2;simp only[evs,clr,yBv,yDx,e2'];show _=qq (W.d (nD (g0 (rs.map (·.w)) a)),S');rw[vV hq];rfl
 have o2:=uA (d+3) r (.d (.tuple (F.map Ft.d))) (.tuple (F.map Ft.d)) (λ a=>(f0 F a).d) S (λ _=>rfl) λ a ha=>gQ (by rw[xAb,pN (by have:=f2' a ha;omega)];rfl)
 have o2':cl fns (d+5) 9 [.d r.d,.d (.tuple (F.map Ft.d))] S=qq (.d (.tuple ((iB r F).map Fc.d)),S):=by
  rw[o2,aTt,bK,yBs];rfl
 obtain⟨w1,w2⟩:=rT f1;have nk:=aPO d r.wd r.w r.args (jC r) (bB r (rs.map (·.w))) (iB r F) m w1 (aPs p hr) w2 hm S;have nk':cl fns (d+5) 18 [.d r.d,.d (.tuple ((bB r (rs.map (·.w))).map nD)),.d (.tuple ((iB r F).map Fc.d)),.d (.int (m:Nat))] S=qq (.d (.tuple ((kG rs F r m).map nD)),S):=nk;have lz:∀ fa:FE,∀ env:aY,fa env S=qq (.d (.tuple ((lZ r).map nD)),S)->env[6]? = qq (qq (.d (.tuple ((kG rs F r m).map nD))))->sE fa (iN 6) env S=qq ((eM rs F r m).map pD,S):=λ fa env h h6=>aPI h (aGE h6) (by omega)
 rw[aT rfl (d+5) _ S rfl];simp only[evs,fD,aFa,i0,e1,hc,lD,lC,o2',nk'];rw[lz _ _ (by simp only[evs,pE (d+4)];rfl) rfl]
 simp only[gS0,True]
end
noncomputable def cN(M:List Nat)(q:Nat×Nat):List Nat:=M.set q.1 (M.getD q.1 0|||q.2)
noncomputable def fV(rs:List Rw)(F:List Ft)(M:List Nat)(k:Nat):List Nat:=match rs[k]? with
 | some r=>(eM rs F r (M.getD k 0)).foldl cN M
 | none=>M
noncomputable def jY(rs:List Rw)(F:List Ft):Nat->List Nat->List Nat
 | 0,M=>M
 | k+1,M=>jY rs F k (fV rs F M k)
noncomputable def fQ(rs:List Rw)(M:List Nat)(o:Nat):List Nat:=M.set o (2^g0 (rs.map (·.w)) o-1)
noncomputable def nA(rs:List Rw)(aE:List Nat):List Nat:=aE.foldl (fQ rs) (yAd rs.length 0)
noncomputable def fX(rs:List Rw)(F:List Ft)(aE:List Nat):List Nat:=jY rs F rs.length (nA rs aE)
structure Bd(rs:List Rw)(M:List Nat):Prop where
 l:M.length=rs.length
 lt:∀ (i:Nat) (r:Rw),rs[i]? = qq r->M.getD i 0<2^r.w
theorem aEY{α β:Type}{f:β->α->β}{l:List α}{j:Nat}{q:α}(M:β)(h:l[j]? = qq q):(l.take (j+1)).foldl f M=f ((l.take j).foldl f M) q:=by
 rw[List.take_add_one,h];simp
theorem xX{M:List Nat}{a i v:Nat}(h:a≠i):(M.set a v).getD i 0=M.getD i 0:=by
 rw[xAh,xAh,yAy h]
theorem xV{M:List Nat}{a v:Nat}(h:a<M.length):(M.set a v).getD a 0=v:=by
 rw[xAh,yAx h];rfl
theorem aCx{M:List Nat}{i:Nat}(h:i<M.length):M[i]? = qq (M.getD i 0):=by
 rw[xAh,yAa h];rfl
section
variable {rs : List Rw}{F : List Ft}{r : Rw}{k m : Nat}{M : List Nat}
theorem aAu(p:Prg rs)(hr:rs[k]? = qq r)(hm:m<2^r.w)(q:Nat×Nat)(hq:q∈eM rs F r m):q.1<k/\∀ r',rs[q.1]? = qq r'->q.2<2^r'.w:=by
 obtain⟨f1,f2⟩:=p.fit k r hr;obtain⟨w1,w2⟩:=rT f1;obtain⟨c,hc⟩:=yFy hq;obtain⟨a,b⟩:=q;unfold eM at hc;rw[List.getElem?_zip_eq_some] at hc;obtain⟨h1,h2⟩:=hc;refine⟨f2 a (xAl h1),λ r' hr'=>?_⟩
 have hv:(bB r (rs.map (·.w)))[c]? = qq r'.w:=by
  unfold bB;have h1':(r.args.take (aI r.wd))[c]? = qq a:=h1;rw[xAb,h1'];show qq (g0 (rs.map (·.w)) a)=_;rw[vV hr']
 have:=aPq r.wd r.w (jC r) (bB r (rs.map (·.w))) (iB r F) m c r'.w w1 hm hv;have e:(kG rs F r m).getD c 0=b:=by
  rw[xAh,h2];rfl
 rw[<- e];exact this
theorem aI1(h:Bd rs M){q:Nat×Nat}(h1:q.1<rs.length)(h2:∀ r',rs[q.1]? = qq r'->q.2<2^r'.w):Bd rs (cN M q):=by
 refine⟨by unfold cN;rw[yBe];exact h.l,λ i r hr=>?_⟩
 unfold cN
 by_cases c:q.1=i
 ·rw[c] at h1 h2 ⊢;rw[xV (by rw[h.l];exact h1)]
  exact yBg (h.lt i r hr) (h2 r hr)
 ·rw[xX c];exact h.lt i r hr
theorem aID(p:Prg rs)(hr:rs[k]? = qq r)(hm:m<2^r.w):∀ (l:List (Nat×Nat)) (M:List Nat),(∀ q∈l,q∈eM rs F r m)->Bd rs M->Bd rs (l.foldl cN M)
 | [],_,_,h=>h
 | q::l,M,hl,h=>by
   have hk:k<rs.length:=(gIm hr).1;obtain⟨a,b⟩:=aAu p hr hm q (hl q xAd);exact aID p hr hm l _ (λ x hx=>hl x (xAg _ hx)) (aI1 h (by omega) b)
theorem aHI:Bd rs (yAd rs.length 0):=by
 refine⟨yEc,λ i r hr=>?_⟩
 have hi:i<rs.length:=(gIm hr).1;rw[xAh,yFa,if_pos hi];exact xAf _
theorem aMK{o:Nat}(hr:rs[o]? = qq r):fQ rs M o=M.set o (2^r.w-1):=by
 unfold fQ;rw[vV hr]
theorem aHM(h:Bd rs M){o:Nat}(ho:o<rs.length):Bd rs (fQ rs M o):=by
 refine⟨by unfold fQ;rw[yBe];exact h.l,λ i r hr=>?_⟩
 unfold fQ
 by_cases c:o=i
 ·subst c;rw[xV (by rw[h.l];exact ho),vV hr]
  have:=xAf r.w;omega
 ·rw[xX c];exact h.lt i r hr
theorem aHj:∀ (l:List Nat) (M:List Nat),(∀ o∈l,o<rs.length)->Bd rs M->Bd rs (l.foldl (fQ rs) M)
 | [],_,_,h=>h
 | o::l,M,hl,h=>aHj l _ (λ x hx=>hl x (xAg _ hx)) (aHM h (hl o xAd))
theorem aG8(S:aC)(M:List Nat)(a v:Nat)(ha:a<M.length):jW (S++[qq (M.map nD)]) (.loc S.length) (.d (.int (a:Nat))) (.d (.int (v:Nat)))=qq (S++[qq ((M.set a v).map nD)]):=by
 unfold jW;simp only[qY];unfold jJ;rw[yAb,if_pos (by omega),if_pos (by omega),oB,yAr,List.set_append_right _ _ (yAc _),yBo,List.map_set]
 rfl
theorem aIO{M:List Nat}{i:Nat}(h:i<M.length):aO (.list (M.map nD)) (.int (i:Nat))=qq (.int ((M.getD i 0:Nat):Int)):=jS (by rw[xAb,aCx h];rfl)
theorem aUp{fa fb:FE}{env:aY}{S:aC}{n:Nat}(h1:fa env S=qq (.d (.list [.int 0]),S))(h2:fb env S=qq (.d (.int (n:Nat)),S))(hn:n<=1000):wI fa fb env S=qq ((yAd n 0).map nD,S):=by
 have hz:(([.int 0]:List D)).length*(((n:Nat):Int)).toNat<=qk:=by rw[yAr,zj];simp;omega
 have hd:dr S (.d (.list [.int 0]))=qq (.list [.int 0]):=rfl;unfold wI;rw[h1,oB,h2,oB];show((dr S (.d (.list [.int 0]))).bind _)=_;rw[hd,oB];show(if ((n:Nat):Int)<2^63 /\ -(2^63)<=((n:Nat):Int)/\(([.int 0]:List D)).length*(((n:Nat):Int)).toNat<=qk then qq (wL (((n:Nat):Int)).toNat [yAm 0],S) else qz)=_
 rw[if_pos ⟨by omega,by omega,hz⟩,yAr,aNi,yGm]
 rfl
theorem aMD(d:Nat)(p:Prg rs)(hr:rs[k]? = qq r)(hF:F.length=rs.length)(o:D)(S:aC)(h:Bd rs M)(c3 c5 c6 c7 c8:Option W):∃ c7' c8':Option W,Bd rs (fV rs F M k)/\dA (.many [7,8]) (lv (aD fns (d+6)) zB) (xs (aD fns (d+6)) yV) [qq (.d (.tuple [.tuple (rs.map Rw.d),o])),qq (.d (.tuple (F.map Ft.d))),qq (.loc S.length),c3,qq (.d (.int (k:Nat))),c5,c6,c7,c8] (S++[qq (M.map nD)])=qq (.nx [qq (.d (.tuple [.tuple (rs.map Rw.d),o])),qq (.d (.tuple (F.map Ft.d))),qq (.loc S.length),c3,qq (.d (.int (k:Nat))),c5,c6,c7',c8'],S++[qq ((fV rs F M k).map nD)]):=by
 have hk:k<rs.length:=(gIm hr).1;have hm:=h.lt k r hr;have e0:=aIO (M:=M) (i:=k) (by rw[h.l];exact hk)
 have rn:=aLE d p hr hF hm o (S++[qq (M.map nD)]);have eR:fV rs F M k=(eM rs F r (M.getD k 0)).foldl cN M:=by unfold fV;rw[hr]
 obtain⟨aM,S',p1,c7',c8',hb,rfl,rfl⟩:=rK (t:=.many [7,8]) (fi:=lv (aD fns (d+6)) zB) (fb:=xs (aD fns (d+6)) yV) (env:=[qq (.d (.tuple [.tuple (rs.map Rw.d),o])),qq (.d (.tuple (F.map Ft.d))),qq (.loc S.length),c3,qq (.d (.int (k:Nat))),c5,c6,c7,c8]) (S:=S++[qq (M.map nD)]) (S1:=S++[qq (M.map nD)]) (ds:=(eM rs F r (M.getD k 0)).map pD)
  (λ j env S'=>∃ c7 c8:Option W,Bd rs (((eM rs F r (M.getD k 0)).take j).foldl cN M)/\env=[qq (.d (.tuple [.tuple (rs.map Rw.d),o])),qq (.d (.tuple (F.map Ft.d))),qq (.loc S.length),c3,qq (.d (.int (k:Nat))),c5,c6,c7,c8]/\S'=S++[qq ((((eM rs F r (M.getD k 0)).take j).foldl cN M).map nD)])
  (by simp only[evs,zB,qY,e0,rn,fM]) ⟨c7,c8,h,rfl,rfl⟩ (by
    rintro j dd env S' hd ⟨c7,c8,hb,rfl,rfl⟩;rw[xAb] at hd;obtain⟨q,hq,rfl⟩:=Option.map_eq_some_iff.mp hd;obtain⟨q1,q2⟩:=aAu p hr hm q (xAl hq);have ql:q.1<(((eM rs F r (M.getD k 0)).take j).foldl cN M).length:=by rw[hb.l];omega
    have ft:=aEY (f:=cN) M hq;have e1:=aIO ql;have pe:jW (S++[qq ((((eM rs F r (M.getD k 0)).take j).foldl cN M).map nD)]) (.loc S.length) (.d (.int (q.1:Nat))) (.d (.int (((((eM rs F r (M.getD k 0)).take j).foldl cN M).getD q.1 0|||q.2:Nat):Int)))=qq (S++[qq ((cN (((eM rs F r (M.getD k 0)).take j).foldl cN M) q).map nD)]):=aG8 S _ q.1 _ ql
    refine⟨[qq (.d (.tuple [.tuple (rs.map Rw.d),o])),qq (.d (.tuple (F.map Ft.d))),qq (.loc S.length),c3,qq (.d (.int (k:Nat))),c5,c6,qq (.d (.int (q.1:Nat))),qq (.d (.int (q.2:Nat)))],[qq (.d (.tuple [.tuple (rs.map Rw.d),o])),qq (.d (.tuple (F.map Ft.d))),qq (.loc S.length),c3,qq (.d (.int (k:Nat))),c5,c6,qq (.d (.int (q.1:Nat))),qq (.d (.int (q.2:Nat)))],S++[qq ((cN (((eM rs F r (M.getD k 0)).take j).foldl cN M) q).map nD)],rfl,?_,_,_,?_,rfl,by rw[ft]⟩
    ·simp only[gS1,yV,qY,e1,cM,lK,pe]
    ·rw[ft];exact aI1 hb (by omega) q2)
 rw[yAb,yAh,<- eR] at hb p1;exact⟨c7',c8',hb,p1⟩
theorem aGD(d:Nat)(p:Prg rs)(hF:F.length=rs.length)(aE:List Nat)(ho:∀ o∈aE,o<rs.length)(S:aC):Bd rs (fX rs F aE)/\cl fns (d+7) 20 [.d (.tuple [.tuple (rs.map Rw.d),.tuple (aE.map nD)]),.d (.tuple (F.map Ft.d))] S=qq (.d (.tuple ((fX rs F aE).map nD)),S):=by
 have pl:=p.l;have lR:eT [.tuple (rs.map Rw.d)]=qq (.int (rs.length:Nat)):=by
  show qq (yAm (((rs.map Rw.d).length:Nat):Int))=_;rw[yAb]
 obtain⟨env1,S1,p1,c3,hb0,rfl,rfl⟩:=rK (t:=.one 3) (fi:=lv (aD fns (d+6)) aB3) (fb:=xs (aD fns (d+6)) aB2) (env:=[qq (.d (.tuple [.tuple (rs.map Rw.d),.tuple (aE.map nD)])),qq (.d (.tuple (F.map Ft.d))),qq (.loc S.length),qz,qz,qq (.d (.tuple (rs.map Rw.d))),qq (.d (.tuple (aE.map nD))),qz,qz]) (S:=S++[qq ((yAd rs.length 0).map nD)]) (S1:=S++[qq ((yAd rs.length 0).map nD)]) (ds:=aE.map nD)
  (λ j env S'=>∃ c3:Option W,Bd rs ((aE.take j).foldl (fQ rs) (yAd rs.length 0))/\env=[qq (.d (.tuple [.tuple (rs.map Rw.d),.tuple (aE.map nD)])),qq (.d (.tuple (F.map Ft.d))),qq (.loc S.length),c3,qz,qq (.d (.tuple (rs.map Rw.d))),qq (.d (.tuple (aE.map nD))),qz,qz]/\S'=S++[qq (((aE.take j).foldl (fQ rs) (yAd rs.length 0)).map nD)])
  (by simp only[evs,aB3,fM]) ⟨qz,aHI,rfl,rfl⟩ (by
    rintro j dd env S' hd ⟨c3,hb,rfl,rfl⟩;rw[xAb] at hd;obtain⟨q,hq,rfl⟩:=Option.map_eq_some_iff.mp hd;have hql:=ho q (xAl hq);have hr:rs[q]? = qq rs[q]:=yAa hql;have ft:=aEY (f:=fQ rs) (yAd rs.length 0) hq;have wo:=aIB (d+5) q hr (.tuple (aE.map nD)) (S++[qq (((aE.take j).foldl (fQ rs) (yAd rs.length 0)).map nD)]);have fu:=dH (d+5) rs[q].w (by have:=(p.ws q _ hr).2;omega) (S++[qq (((aE.take j).foldl (fQ rs) (yAd rs.length 0)).map nD)])
    have pe:jW (S++[qq (((aE.take j).foldl (fQ rs) (yAd rs.length 0)).map nD)]) (.loc S.length) (.d (.int (q:Nat))) (.d (.int ((2^rs[q].w-1:Nat):Int)))=qq (S++[qq ((fQ rs ((aE.take j).foldl (fQ rs) (yAd rs.length 0)) q).map nD)]):=by
     rw[aMK hr];exact aG8 S _ q _ (by rw[hb.l];exact hql)
    refine⟨[qq (.d (.tuple [.tuple (rs.map Rw.d),.tuple (aE.map nD)])),qq (.d (.tuple (F.map Ft.d))),qq (.loc S.length),qq (.d (.int (q:Nat))),qz,qq (.d (.tuple (rs.map Rw.d))),qq (.d (.tuple (aE.map nD))),qz,qz],[qq (.d (.tuple [.tuple (rs.map Rw.d),.tuple (aE.map nD)])),qq (.d (.tuple (F.map Ft.d))),qq (.loc S.length),qq (.d (.int (q:Nat))),qz,qq (.d (.tuple (rs.map Rw.d))),qq (.d (.tuple (aE.map nD))),qz,qz],S++[qq ((fQ rs ((aE.take j).foldl (fQ rs) (yAd rs.length 0)) q).map nD)],rfl,?_,_,?_,rfl,by rw[ft]⟩
    ·simp only[gS1,aB2,wo,fu,lK,pe]
    ·rw[ft];exact aHM hb hql)
 rw[yAb,yAh] at hb0 p1;have un1:oT .USub (.int 1)=qq (.int (-1)):=rfl;have i3:lv (aD fns (d+6)) zA [qq (.d (.tuple [.tuple (rs.map Rw.d),.tuple (aE.map nD)])),qq (.d (.tuple (F.map Ft.d))),qq (.loc S.length),c3,qz,qq (.d (.tuple (rs.map Rw.d))),qq (.d (.tuple (aE.map nD))),qz,qz] (S++[qq ((nA rs aE).map nD)])=qq (kZ (((rs.length:Nat):Int)-1) rs.length,S++[qq ((nA rs aE).map nD)]):=by
  have hc:(-(2^62)<=((rs.length:Nat):Int)-1/\((rs.length:Nat):Int)-1<2^62 /\ -(2^62)<=(-1:Int)/\(-1:Int)<2^62)/\(-1:Int) = -1:=⟨⟨by omega,by omega,by decide,by decide⟩,rfl⟩
  have hn:(((rs.length:Nat):Int)-1-(-1)).toNat=rs.length:=by omega
  simp only[evs,zA,aAK,lR,cH,un1];rw[if_pos ⟨hc.1,True.intro⟩,hn]
 obtain⟨env2,S2,p2,c4,c7,c8,M,hb,hM,rfl,rfl⟩:=rK (t:=.one 4) (fi:=lv (aD fns (d+6)) zA) (fb:=xs (aD fns (d+6)) aB1) (env:=[qq (.d (.tuple [.tuple (rs.map Rw.d),.tuple (aE.map nD)])),qq (.d (.tuple (F.map Ft.d))),qq (.loc S.length),c3,qz,qq (.d (.tuple (rs.map Rw.d))),qq (.d (.tuple (aE.map nD))),qz,qz]) (S:=S++[qq ((nA rs aE).map nD)]) (S1:=S++[qq ((nA rs aE).map nD)]) (ds:=kZ (((rs.length:Nat):Int)-1) rs.length)
  (λ j env S'=>∃ (c4 c7 c8:Option W) (M:List Nat),Bd rs M/\jY rs F (rs.length-j) M=fX rs F aE/\env=[qq (.d (.tuple [.tuple (rs.map Rw.d),.tuple (aE.map nD)])),qq (.d (.tuple (F.map Ft.d))),qq (.loc S.length),c3,c4,qq (.d (.tuple (rs.map Rw.d))),qq (.d (.tuple (aE.map nD))),c7,c8]/\S'=S++[qq (M.map nD)])
  i3 ⟨qz,qz,qz,nA rs aE,hb0,rfl,rfl,rfl⟩ (by
   rintro j dd env S' hd ⟨c4,c7,c8,M,hb,hM,rfl,rfl⟩;have hj:j<rs.length:=by
    have:=(gIm hd).1;rw[qQ] at this;exact this
   rw[aBQ _ _ j hj] at hd;have ek:((rs.length:Nat):Int)-1-((j:Nat):Int)=((rs.length-1-j:Nat):Int):=by omega
   rw[ek] at hd;cases hd;have hr:rs[rs.length-1-j]? = qq rs[rs.length-1-j]:=yAa (by omega)
   obtain⟨c7',c8',hb',e⟩:=aMD d p hr hF (.tuple (aE.map nD)) S hb c3 (qq (.d (.tuple (rs.map Rw.d)))) (qq (.d (.tuple (aE.map nD)))) c7 c8;refine⟨[qq (.d (.tuple [.tuple (rs.map Rw.d),.tuple (aE.map nD)])),qq (.d (.tuple (F.map Ft.d))),qq (.loc S.length),c3,qq (.d (.int ((rs.length-1-j:Nat):Int))),qq (.d (.tuple (rs.map Rw.d))),qq (.d (.tuple (aE.map nD))),c7,c8],[qq (.d (.tuple [.tuple (rs.map Rw.d),.tuple (aE.map nD)])),qq (.d (.tuple (F.map Ft.d))),qq (.loc S.length),c3,qq (.d (.int ((rs.length-1-j:Nat):Int))),qq (.d (.tuple (rs.map Rw.d))),qq (.d (.tuple (aE.map nD))),c7',c8'],S++[qq ((fV rs F M (rs.length-1-j)).map nD)],rfl,?_,_,_,_,_,hb',?_,rfl,rfl⟩
   ·simp only[gS1,aB1,e]
   ·rw[<- hM,show rs.length-j=(rs.length-1-j)+1 by omega]
    show _=jY rs F (rs.length-1-j) (fV rs F M (rs.length-1-j));rw[show rs.length-(j+1)=rs.length-1-j by omega])
 rw[qQ,yBo] at hM;have hM':M=fX rs F aE:=hM;subst hM';refine⟨hb,?_⟩;have tk1:∀ x,yEn S.length (S++[x])=S:=λ x=>List.take_left
 have q0:xs (aD fns (d+6)) (cP gE) [qq (.d (.tuple [.tuple (rs.map Rw.d),.tuple (aE.map nD)])),qq (.d (.tuple (F.map Ft.d))),qz,qz,qz,qz,qz,qz,qz] S=qq (.nx [qq (.d (.tuple [.tuple (rs.map Rw.d),.tuple (aE.map nD)])),qq (.d (.tuple (F.map Ft.d))),qz,qz,qz,qq (.d (.tuple (rs.map Rw.d))),qq (.d (.tuple (aE.map nD))),qz,qz],S):=by
  simp only[gS2,cP,gE,True]
 have q1:xs (aD fns (d+6)) (cP (bM gE)) [qq (.d (.tuple [.tuple (rs.map Rw.d),.tuple (aE.map nD)])),qq (.d (.tuple (F.map Ft.d))),qz,qz,qz,qq (.d (.tuple (rs.map Rw.d))),qq (.d (.tuple (aE.map nD))),qz,qz] S=qq (.nx [qq (.d (.tuple [.tuple (rs.map Rw.d),.tuple (aE.map nD)])),qq (.d (.tuple (F.map Ft.d))),qq (.loc S.length),qz,qz,qq (.d (.tuple (rs.map Rw.d))),qq (.d (.tuple (aE.map nD))),qz,qz],S++[qq ((yAd rs.length 0).map nD)]):=by
  simp only[cP,bM,gE,aAb,aC6,aHp,jE,gK];rw[aUp (n:=rs.length) (by simp only[evs]) (by simp only[evs,lR]) (by omega)]
  simp only[gS0,True]
 have e:gE=.seq (cP gE) (.seq (cP (bM gE)) (.seq (cP (bM (bM gE))) (.seq (cP (bM (bM (bM gE)))) (bM (bM (bM (bM gE))))))):=rfl;have p1':xs (aD fns (d+6)) (cP (bM (bM gE))) [qq (.d (.tuple [.tuple (rs.map Rw.d),.tuple (aE.map nD)])),qq (.d (.tuple (F.map Ft.d))),qq (.loc S.length),qz,qz,qq (.d (.tuple (rs.map Rw.d))),qq (.d (.tuple (aE.map nD))),qz,qz] (S++[qq ((yAd rs.length 0).map nD)])=qq (.nx [qq (.d (.tuple [.tuple (rs.map Rw.d),.tuple (aE.map nD)])),qq (.d (.tuple (F.map Ft.d))),qq (.loc S.length),c3,qz,qq (.d (.tuple (rs.map Rw.d))),qq (.d (.tuple (aE.map nD))),qz,qz],S++[qq ((nA rs aE).map nD)]):=p1;have p2':xs (aD fns (d+6)) (cP (bM (bM (bM gE)))) [qq (.d (.tuple [.tuple (rs.map Rw.d),.tuple (aE.map nD)])),qq (.d (.tuple (F.map Ft.d))),qq (.loc S.length),c3,qz,qq (.d (.tuple (rs.map Rw.d))),qq (.d (.tuple (aE.map nD))),qz,qz] (S++[qq ((nA rs aE).map nD)])=qq (.nx [qq (.d (.tuple [.tuple (rs.map Rw.d),.tuple (aE.map nD)])),qq (.d (.tuple (F.map Ft.d))),qq (.loc S.length),c3,c4,qq (.d (.tuple (rs.map Rw.d))),qq (.d (.tuple (aE.map nD))),c7,c8],S++[qq ((fX rs F aE).map nD)]):=p2;have fl:xs (aD fns (d+6)) gE [qq (.d (.tuple [.tuple (rs.map Rw.d),.tuple (aE.map nD)])),qq (.d (.tuple (F.map Ft.d))),qz,qz,qz,qz,qz,qz,qz] S=qq (.rt (.d (.tuple ((fX rs F aE).map nD))),S++[qq ((fX rs F aE).map nD)]):=by
  rw[e,eZ q0,eZ q1,eZ p1',eZ p2'];simp only[gS2,bM,gE,qY,lD,lC]
 rw[aT rfl (d+6) _ S rfl];show((xs (aD fns (d+6)) gE [qq (.d (.tuple [.tuple (rs.map Rw.d),.tuple (aE.map nD)])),qq (.d (.tuple (F.map Ft.d))),qz,qz,qz,qz,qz,qz,qz] S).bind _)=_;rw[fl];simp only[oB,lQ,tk1]
end
theorem aFM{α:Type}(g:α->Bool)(l:List α):rE (l.map λ x=>yDs (g x))=qq (l.map g):=by
 induction l with
 | nil=>rfl
 | cons x r ih=>simp only[yBa,rE,ih,yCc]
theorem aRL{α:Type}(g:α->Bool)(l:List α):sI [.list (l.map λ x=>yDs (g x))]=qq (.bool (l.any g)):=by
 simp only[sI,aFM,oB];congr 2;rw[List.any_map];rfl
section
variable {rs : List Rw}{F : List Ft}{r : Rw}{k m : Nat}{M : List Nat}
theorem aPy{M:List Nat}{i:Nat}(h:i<M.length):aO (.tuple (M.map nD)) (.int (i:Nat))=qq (.int ((M.getD i 0:Nat):Int)):=gQ (by rw[xAb,aCx h];rfl)
end
section
variable {rs : List Rw}{F : List Ft}{r : Rw}{k m : Nat}{M : List Nat}
theorem aNR{n j:Nat}{dd:D}(h:((yAo n).map λ k=>yAm ((k:Nat):Int))[j]? = qq dd):j<n/\dd=.int (j:Nat):=by
 have hj:j<n:=by
  have:=(gIm h).1;simpa using this
 rw[xAb,List.getElem?_range hj] at h;cases h;exact⟨hj,rfl⟩
end
def Sb(a b:Nat):Prop:=∀ i,a.testBit i=true->b.testBit i=true
theorem Sb.refl(a:Nat):Sb a a:=λ _ h=>h
theorem aGq:∀ (l:List (Nat×Nat)) (M:List Nat) (i:Nat),(∀ q∈l,q.1≠i)->(l.foldl cN M).getD i 0=M.getD i 0
 | [],_,_,_=>rfl
 | q::l,M,i,h=>by
   show(l.foldl cN (cN M q)).getD i 0=_;rw[aGq l (cN M q) i λ x hx=>h x (xAg _ hx)]
   unfold cN;exact xX (h q xAd)
section
variable {rs : List Rw}{F : List Ft}{r : Rw}{k m : Nat}{M : List Nat}
theorem aCM(hr:rs[k]? = qq r):fV rs F M k=(eM rs F r (M.getD k 0)).foldl cN M:=by unfold fV;rw[hr]
theorem aGM(p:Prg rs)(hk:k<rs.length)(h:Bd rs M):Bd rs (fV rs F M k):=by
 have hr:rs[k]? = qq rs[k]:=yAa hk;rw[aCM hr];exact aID p hr (h.lt k _ hr) _ M (λ q hq=>hq) h
theorem aNO(p:Prg rs)(h:Bd rs M){i:Nat}(hi:k<=i)(hk:k<rs.length):(fV rs F M k).getD i 0=M.getD i 0:=by
 have hr:rs[k]? = qq rs[k]:=yAa hk;rw[aCM hr];refine aGq _ M i λ q hq=>?_
 have:=(aAu p hr (h.lt k _ hr) q hq).1;omega
theorem aGo(p:Prg rs):∀ (k:Nat) (M:List Nat) (i:Nat),Bd rs M->k<=rs.length->k<=i+1->(jY rs F k M).getD i 0=M.getD i 0
 | 0,_,_,_,_,_=>rfl
 | k+1,M,i,h,hk,hi=>by
   show(jY rs F k (fV rs F M k)).getD i 0=_;rw[aGo p k _ i (aGM p (by omega) h) (by omega) (by omega),aNO p h (by omega) (by omega)]
end
theorem aDM(n b:Nat):((((n/2^b)&&&1:Nat):Int)==1)=n.testBit b:=by
 rw[iH,Nat.and_one_is_mod,yFj];cases h:decide (n/2^b%2=1) with
 | true=>rw[oqT h];rfl
 | false=>rw[beq_eq_false_iff_ne];exact of_decide_eq_false h
noncomputable def aG:Option Nat->D
 | none=>.none
 | some n=>.int (n:Nat)
theorem pP(a b:Option Nat):aJ .Eq (aG a) (aG b)=qq (.bool (decide (a=b))):=by
 cases a with
 | none =>
   cases b with
   | none=>rfl
   | some n=>rfl
 | some m =>
   cases b with
   | none=>rfl
   | some n =>
     show aJ .Eq (.int (m:Nat)) (.int (n:Nat))=_;rw[aS];congr 2
     by_cases c:m=n
     ·subst c;rw[beq_self_eq_true,dqT rfl]
     ·rw[dqF (λ h=>c (Option.some.inj h)),beq_eq_false_iff_ne]
      omega
theorem aAI(a:Option Nat):aJ .IsNot (aG a) .none=qq (.bool a.isSome):=by
 cases a<;>rfl
theorem zC(d m y:Nat)(S:aC):cl fns (d+1) 49 [.d (.int (m:Nat)),.d (.int (y:Nat))] S=qq (.d (.bool (bI m y==0)),S):=by
 rw[aT rfl d _ S rfl];simp only[gR1,aIP,aG9,aGA,aS,bT]
noncomputable def eN(f:Ft)(m:Nat):Option Nat:=if f.O&&&m=0\/(f.O&&&m)&&&((f.O&&&m)-1)≠0\/bI m (f.N|||f.O)≠0 then qz else qq (bl (f.O&&&m)-1)
theorem jB{n:Nat}(h:n=0):(n==0)=true:=by rw[h];rfl
theorem iO{n:Nat}(h:¬ n=0):(n==0)=false:=beq_eq_false_iff_ne.mpr h
theorem aFu(d:Nat)(f:Ft)(m:Nat)(S:aC):cl fns (d+2) 50 [.d f.d,.d (.int (m:Nat))] S=qq (.d (aG (eN f m)),S):=by
 have e1:=zC d m (f.N|||f.O) S
 have e2:=tX d f S;have f1:=dO f;obtain⟨o,ho⟩:∃ o,o=f.O&&&m:=⟨_,rfl⟩;have e3:=uE d o S;have b1:bR .BitAnd (.int (f.O:Nat)) (.int (m:Nat))=qq (.int (o:Nat)):=by rw[ho];exact cX _ _
 rw[aT rfl (d+1) _ S rfl];unfold eN;rw[<- ho]
 by_cases c1:o=0
 ·have t1:=jB c1;rw[if_pos (.inl c1)];simp only[gR1,tK,f1,b1,aS,bT,t1]
 ·have t1:=iO c1;have s1:((o:Nat):Int)-1=((o-1:Nat):Int):=by omega
  by_cases c2:o&&&(o-1)=0
  ·have t2:=jB c2
   by_cases c3:bI m (f.N|||f.O)=0
   ·have t3:=jB c3;have s2:((bl o:Nat):Int)-1=((bl o-1:Nat):Int):=by have:=rN (n:=o) (by omega);omega
    rw[if_neg (λ h=>h.elim c1 λ h=>h.elim (λ h=>h c2) λ h=>h c3)]
    rw[t3] at e1;simp only[gR1,tK,f1,b1,aS,iX,bT,t1,cH,s1,cX,t2,e1,e2,e3,s2,yDt,yDj]
   ·have t3:=iO c3;rw[if_pos (.inr (.inr c3))];rw[t3] at e1;simp only[gR1,tK,f1,b1,aS,iX,bT,t1,cH,s1,cX,t2,e1,e2,yDt,yDj]
  ·have t2:=iO c2;rw[if_pos (.inr (.inl c2))];simp only[gR1,tK,f1,b1,aS,iX,bT,t1,cH,s1,cX,t2,yDt,yDj]
noncomputable def pg(P:List (Option Nat))(i:Nat):Option Nat:=P.getD i qz
theorem sD{P:List (Option Nat)}{i:Nat}(h:i<P.length):aO (.tuple (P.map aG)) (.int (i:Nat))=qq (aG (pg P i)):=gQ (by
 rw[xAb,yAa h];show qq (aG P[i])=qq (aG (P.getD i qz));rw[xAh,yAa h];rfl)
theorem wA{P:List (Option Nat)}(h:0<P.length):aO (.tuple (P.map aG)) (.int 0)=qq (aG (pg P 0)):=sD h
theorem qD{P:List (Option Nat)}(h:1<P.length):aO (.tuple (P.map aG)) (.int 1)=qq (aG (pg P 1)):=sD h
theorem aKl{P:List (Option Nat)}(h:2<P.length):aO (.tuple (P.map aG)) (.int 2)=qq (aG (pg P 2)):=sD h
noncomputable def gL(P:List (Option Nat)):Bool:=decide (pg P 0=pg P 1)
noncomputable def tB(wd:Wd):Bool:=decide (wd=.xor\/wd=.sub\/wd=.less\/wd=.under)
theorem aTD(a:Wd):aJ .In (.str a.s) (.tuple [.str "xor",.str "sub",.str "less",.str "under"])=qq (.bool (tB a)):=by cases a<;>rfl
noncomputable def kF(wd:Wd)(f:Ft)(m:Nat)(P:List (Option Nat)):Option Nat:=if bI m (f.N|||f.O)=0 then qq f.O else if (tB wd&&gL P)=true then qq 0 else if (decide (wd=.same)&&gL P)=true then qq 1 else qz
theorem uZ{wd:Wd}{P:List (Option Nat)}(hP:P.length=aI wd)(h:tB wd=true\/wd=.same):1<P.length:=by
 rw[hP]
 revert h
 cases wd<;>decide
theorem aK3(d:Nat)(r:Rw)(f:Ft)(m:Nat)(P:List (Option Nat))(hP:P.length=aI r.wd)(S:aC):cl fns (d+2) 51 [.d r.d,.d f.d,.d (.int (m:Nat)),.d (.tuple (P.map aG))] S=qq (.d (aG (kF r.wd f m P)),S):=by
 have e1:=zC d m (f.N|||f.O) S
 have e2:=tX d f S;have f1:=dO f;have r0:=lH r;have i1:=aTD r.wd;have i2:aJ .Eq (.str r.wd.s) (.str "same")=qq (.bool (decide (r.wd=.same))):=bH r.wd .same;have q:=pP (pg P 0) (pg P 1);rw[aT rfl (d+1) _ S rfl];unfold kF
 by_cases c1:bI m (f.N|||f.O)=0
 ·rw[if_pos c1];rw[jB c1] at e1;simp only[gR1,pB,r0,e1,e2,f1]
 ·rw[if_neg c1];rw[iO c1] at e1;cases c2:tB r.wd with
  | true =>
    have ns:decide (r.wd=.same)=false:=by
     rw[decide_eq_false_iff_not];intro h;rw[h] at c2;cases c2
    have p0:=wA (P:=P) (by have:=uZ hP (.inl c2);omega)
    have p1:=qD (uZ hP (.inl c2));rw[c2] at i1;rw[ns] at i2;rw[ns,yAn,yAl];cases c3:gL P with
    | true =>
      have q':aJ .Eq (aG (pg P 0)) (aG (pg P 1))=qq (.bool true):=by rw[q];exact congrArg _ (congrArg _ c3)
      simp only[gR1,pB,r0,e1,e2,i1,p0,p1,q']
    | false =>
      have q':aJ .Eq (aG (pg P 0)) (aG (pg P 1))=qq (.bool false):=by rw[q];exact congrArg _ (congrArg _ c3)
      simp only[gR1,pB,r0,e1,e2,i1,i2,p0,p1,q']
  | false =>
    rw[c2] at i1;rw[yAl,if_neg yAw];cases c3:decide (r.wd=.same) with
    | true =>
      have p0:=wA (P:=P) (by have:=uZ hP (.inr (oqT c3));omega)
      have p1:=qD (uZ hP (.inr (oqT c3)));rw[c3] at i2;rw[yAn];cases c4:gL P with
      | true =>
        have q':aJ .Eq (aG (pg P 0)) (aG (pg P 1))=qq (.bool true):=by rw[q];exact congrArg _ (congrArg _ c4)
        simp only[gR1,pB,r0,e1,e2,i1,i2,p0,p1,q']
      | false =>
        have q':aJ .Eq (aG (pg P 0)) (aG (pg P 1))=qq (.bool false):=by rw[q];exact congrArg _ (congrArg _ c4)
        simp only[gR1,pB,r0,e1,e2,i1,i2,p0,p1,q']
    | false =>
      rw[c3] at i2;rw[yAl,if_neg yAw];simp only[gR1,pB,r0,e1,e2,i1,i2]
noncomputable def cI(wd:Wd)(f:Ft)(m:Nat):Bool:=match wd with
 | .and=>bI m f.O==0
 | .or=>bI m f.N==0
 | .xor=>bI m f.N==0
 | .add=>bI (2^bl m-1) f.N==0
 | .sub=>bI (2^bl m-1) f.N==0
 | .mul=>decide (eN f (2^bl m-1)=qq 0)
 | _=>false
theorem aJr(a:Wd):aJ .In (.str a.s) (.tuple [.str "or",.str "xor"])=qq (.bool (decide (a=.or\/a=.xor))):=by cases a<;>rfl
theorem aQO(a:Option Nat):aJ .Eq (aG a) (.int 0)=qq (.bool (decide (a=qq 0))):=pP a (qq 0)
theorem aL6(d:Nat)(wd:Wd)(f:Ft)(m:Nat)(hm:m<2^64)(S:aC):cl fns (d+3) 52 [.d (.str wd.s),.d f.d,.d (.int (m:Nat))] S=qq (.d (.bool (cI wd f m)),S):=by
 have f0:=dG f;have f1:=dO f;have am:=λ m y=>zC (d+1) m y S
 have bo:=zF d m S (Nat.lt_trans hm (yCq (by decide) (by decide)))
 have sb:=aFu d f (2^bl m-1) S;have i1:aJ .Eq (.str wd.s) (.str "and")=qq (.bool (decide (wd=.and))):=bH wd .and;have i2:=aJr wd;have i3:=aDf wd;have i4:aJ .Eq (.str wd.s) (.str "mul")=qq (.bool (decide (wd=.mul))):=bH wd .mul;rw[aT rfl (d+2) _ S rfl]
 by_cases c1:wd=.and
 ·rw[dqT c1] at i1;have e:cI wd f m=(bI m f.O==0):=by rw[c1];rfl
  have a1:=am m f.O;rw[e];simp only[gR1,qP,i1,f1,a1]
 ·rw[dqF c1] at i1
  by_cases c2:wd=.or\/wd=.xor
  ·rw[dqT c2] at i2;have e:cI wd f m=(bI m f.N==0):=by rcases c2 with c2 | c2<;>rw[c2]<;>rfl
   have a1:=am m f.N;rw[e];simp only[gR1,qP,i1,i2,f0,a1]
  ·rw[dqF c2] at i2
   by_cases c3:wd=.add\/wd=.sub
   ·rw[dqT c3] at i3;have e:cI wd f m=(bI (2^bl m-1) f.N==0):=by rcases c3 with c3 | c3<;>rw[c3]<;>rfl
    have a1:=am (2^bl m-1) f.N;rw[e];simp only[gR1,qP,i1,i2,i3,f0,bo,a1]
   ·rw[dqF c3] at i3
    by_cases c4:wd=.mul
    ·rw[dqT c4] at i4;have e:cI wd f m=decide (eN f (2^bl m-1)=qq 0):=by rw[c4];rfl
     have p0:=aQO (eN f (2^bl m-1));rw[e];simp only[gR1,qP,i1,i2,i3,i4,bo,sb,p0]
    ·rw[dqF c4] at i4;have e:cI wd f m=false:=by
      revert c1 c2 c3 c4
      cases wd<;>first | (intros;rfl) | (intro a b c d;exact absurd rfl a) | (intro a b c d;exact absurd (.inl rfl) b) | (intro a b c d;exact absurd (.inr rfl) b) | (intro a b c d;exact absurd (.inl rfl) c) | (intro a b c d;exact absurd (.inr rfl) c) | (intro a b c d;exact absurd rfl d)
     rw[e];simp only[gR1,qP,i1,i2,i3,i4]
noncomputable def nI(t:Ft)(P:List (Option Nat)):Option Nat:=if pg P 1=pg P 2\/t.O=1 then qq 1 else if t.N=1 then qq 2 else qz
theorem aAU{n:Nat}(h:n=1):(n==1)=true:=by rw[h];rfl
theorem aAF{n:Nat}(h:¬ n=1):(n==1)=false:=beq_eq_false_iff_ne.mpr h
theorem aNm(d:Nat)(t:Ft)(P:List (Option Nat))(hP:P.length=3)(S:aC):cl fns (d+1) 53 [.d t.d,.d (.tuple (P.map aG))] S=qq (.d (aG (nI t P)),S):=by
 have f0:=dG t;have f1:=dO t;have p1:=qD (P:=P) (by omega)
 have p2:=aKl (P:=P) (by omega)
 have q:=pP (pg P 1) (pg P 2);rw[aT rfl d _ S rfl];unfold nI
 by_cases c1:pg P 1=pg P 2
 ·rw[if_pos (.inl c1)];rw[dqT c1] at q;simp only[gR1,tJ,p1,p2,q]
 ·rw[dqF c1] at q
  by_cases c2:t.O=1
  ·have o1:=aAU c2;rw[if_pos (.inr c2)];simp only[gR1,tJ,p1,p2,q,f1,aS,iH,o1]
  ·have o1:=aAF c2;rw[if_neg (λ h=>h.elim c1 c2)]
   by_cases c3:t.N=1
   ·have o2:=aAU c3;rw[if_pos c3];simp only[gR1,tJ,p1,p2,q,f1,f0,aS,iH,o1,o2]
   ·have o2:=aAF c3;rw[if_neg c3];simp only[gR1,tJ,p1,p2,q,f1,f0,aS,iH,o1,o2]
noncomputable def kK(wd:Wd):Bool:=decide (wd=.and\/wd=.or)
noncomputable def nJ(wd:Wd):Bool:=decide (wd=.left\/wd=.right\/wd=.slide)
noncomputable def oZ(wd:Wd):Bool:=decide (wd=.cut\/wd=.wide\/wd=.sign)
noncomputable def iR(wd:Wd):Bool:=decide (wd=.and\/wd=.or\/wd=.xor\/wd=.add\/wd=.mul)
theorem aJo(a:Wd):aJ .In (.str a.s) (.tuple [.str "and",.str "or"])=qq (.bool (kK a)):=by cases a<;>rfl
theorem aSP(a:Wd):aJ .In (.str a.s) (.tuple (aBE.map Tv.d))=qq (.bool (iR a)):=by cases a<;>rfl
theorem aTr(a:Wd):aJ .In (.str a.s) (.tuple (pH.map Tv.d))=qq (.bool (nJ a)):=tY a
theorem aI5(a:Wd):aJ .In (.str a.s) (.tuple [.str "cut",.str "wide",.str "sign"])=qq (.bool (oZ a)):=aIG a
noncomputable def fK(r:Rw)(m:Nat)(ws:List Nat)(Fs:List Ft)(P:List (Option Nat)):Option Nat:=
 cond (kK r.wd&&gL P) (qq 0) (cond (decide (r.wd=.pick)) (nI (f0 Fs 0) P) (cond (nJ r.wd) (cond (jC r==0) (qq 0) qz) (cond (oZ r.wd) (cond (g0 ws 0==r.w) (qq 0) qz)
  (cond (decide (P.length=2)&&cI r.wd (f0 Fs 1) m) (qq 0) (cond (iR r.wd&&cI r.wd (f0 Fs 0) m) (qq 1) qz)))))
theorem aJt{r:Rw}(h:1<r.args.length):aO r.d (.int 3)=qq (.int ((jC r:Nat):Int)):=gQ (xs:=.str r.wd.s::nD r.w::r.args.map nD) (k:=3) (by
 show(r.args.map nD)[1]? = qq (nD (r.args.getD 1 0));rw[xAb,xAh,yAa h];rfl)
theorem sG{Fs:List Ft}{i:Nat}(h:i<Fs.length):aO (.tuple (Fs.map Ft.d)) (.int (i:Nat))=qq (f0 Fs i).d:=gQ (by rw[xAb,pN h];rfl)
theorem aDG{Fs:List Ft}(h:0<Fs.length):aO (.tuple (Fs.map Ft.d)) (.int 0)=qq (f0 Fs 0).d:=sG h
theorem aBb{Fs:List Ft}(h:1<Fs.length):aO (.tuple (Fs.map Ft.d)) (.int 1)=qq (f0 Fs 1).d:=sG h
theorem aWg{ws:List Nat}(h:0<ws.length):aO (.tuple (ws.map nD)) (.int 0)=qq (.int ((g0 ws 0:Nat):Int)):=gQ (k:=0) (aJw h)
theorem zK(a b:Nat):(((a:Nat):Int)==((b:Nat):Int))=(a==b):=by
 by_cases c:a=b
 ·subst c;rw[beq_self_eq_true,beq_self_eq_true]
 ·rw[beq_eq_false_iff_ne.mpr c,beq_eq_false_iff_ne];omega
theorem aIA{wd:Wd}(h:kK wd=true):aI wd=2:=by revert h;cases wd<;>decide
theorem aGS{r:Rw}{ws:List Nat}(h:RwOk r ws)(c:nJ r.wd=true):1<r.args.length:=by
 have k:=(rT h).2;rcases oqT c with c' | c' | c'
 all_goals
  rw[c'] at k;obtain⟨a,e,_⟩:=k;rw[e];exact yEp 1
theorem aUH(d:Nat)(r:Rw)(m:Nat)(hm:m<2^64)(ws:List Nat)(Fs:List Ft)(P:List (Option Nat))(ok:RwOk r ws)(hi:r.wd≠.in)(hn:r.wd≠.num)(lw:ws.length=aI r.wd)(lF:Fs.length=aI r.wd)(hP:P.length=aI r.wd)(S:aC):cl fns (d+4) 54 [.d r.d,.d (.int (m:Nat)),.d (.tuple (ws.map nD)),.d (.tuple (Fs.map Ft.d)),.d (.tuple (P.map aG))] S=qq (.d (aG (fK r m ws Fs P)),S):=by
 have c1:0<aI r.wd:=by
  revert hi hn
  cases r.wd<;>decide
 have r0:=lH r;have r1:=eK r;have i1:=aJo r.wd;have i2:aJ .Eq (.str r.wd.s) (.str "pick")=qq (.bool (decide (r.wd=.pick))):=bH r.wd .pick;have i3:=aTr r.wd;have i4:=aI5 r.wd;have i5:=aSP r.wd;have q:=pP (pg P 0) (pg P 1);have F0:=aDG (Fs:=Fs) (by omega)
 have W0:=aWg (ws:=ws) (by omega)
 have lP:eT [.tuple (P.map aG)]=qq (.int (P.length:Nat)):=by
  show qq (yAm (((P.map aG).length:Nat):Int))=_;rw[yAb]
 have ch:=λ f=>aL6 d r.wd f m hm S
 have ch0:=ch (f0 Fs 0);have ch1:=ch (f0 Fs 1);rw[aT rfl (d+3) _ S rfl];unfold fK;have q':aJ .Eq (aG (pg P 0)) (aG (pg P 1))=qq (.bool (gL P)):=q;cases a1:kK r.wd with
 | true =>
   have h2:=aIA a1;have p0:=wA (P:=P) (by omega)
   have p1:=qD (P:=P) (by omega)
   have F1:=aBb (Fs:=Fs) (by omega)
   have n2:decide (r.wd=.pick)=false:=by revert a1;cases r.wd<;>decide
   have n3:nJ r.wd=false:=by revert a1;cases r.wd<;>decide
   have n4:oZ r.wd=false:=by revert a1;cases r.wd<;>decide
   have n5:iR r.wd=true:=by revert a1;cases r.wd<;>decide
   have n6:decide (P.length=2)=true:=dqT (by omega)
   have lE:(((P.length:Nat):Int)==2)=true:=by rw[beq_iff_eq];omega
   rw[a1] at i1;rw[n2] at i2;rw[n3] at i3;rw[n4] at i4;rw[n5] at i5;rw[n2,n3,n4,n5,n6,yAn,yAn,yAn];cases a2:gL P with
   | true =>
     rw[a2] at q';simp only[gR1,gO,r0,i1,p0,p1,q']
   | false =>
     rw[a2] at q';cases a3:cI r.wd (f0 Fs 1) m with
     | true =>
       rw[a3] at ch1;simp only[gR1,gO,r0,i1,p0,p1,q',i2,i3,i4,lP,aS,lE,F1,ch1]
     | false =>
       rw[a3] at ch1;cases a4:cI r.wd (f0 Fs 0) m with
       | true =>
         rw[a4] at ch0;simp only[gR1,gO,r0,i1,p0,p1,q',i2,i3,i4,i5,lP,aS,lE,F1,ch1,F0,ch0]
       | false =>
         rw[a4] at ch0;simp only[gR1,gO,r0,i1,p0,p1,q',i2,i3,i4,i5,lP,aS,lE,F1,ch1,F0,ch0]
 | false =>
   rw[a1] at i1;rw[yAl];cases a2:decide (r.wd=.pick) with
   | true =>
     have e3:aI r.wd=3:=by rw[oqT a2];rfl
     have ps:=aNm (d+2) (f0 Fs 0) P (by omega) S
     rw[a2] at i2;simp only[gR1,gO,r0,i1,i2,F0,ps]
   | false =>
     rw[a2] at i2;cases a3:nJ r.wd with
     | true =>
       have r3:=aJt (aGS ok a3);rw[a3] at i3;cases a4:jC r==0 with
       | true =>
         simp only[gR1,gO,r0,i1,i2,i3,r3,aS,bT,a4]
       | false =>
         simp only[gR1,gO,r0,i1,i2,i3,r3,aS,bT,a4]
     | false =>
       rw[a3] at i3;cases a4:oZ r.wd with
       | true =>
         rw[a4] at i4;cases a5:g0 ws 0==r.w with
         | true =>
           simp only[gR1,gO,r0,i1,i2,i3,i4,W0,r1,aS,zK,a5]
         | false =>
           simp only[gR1,gO,r0,i1,i2,i3,i4,W0,r1,aS,zK,a5]
       | false =>
         rw[a4] at i4;have tl:(iR r.wd&&cI r.wd (f0 Fs 0) m)=true\/(iR r.wd&&cI r.wd (f0 Fs 0) m)=false:=by cases (iR r.wd&&cI r.wd (f0 Fs 0) m)<;>simp
         by_cases c6:P.length=2
         ·have lE:(((P.length:Nat):Int)==2)=true:=by rw[beq_iff_eq];omega
          have F1:=aBb (Fs:=Fs) (by omega)
          rw[dqT c6,yAn];cases a6:cI r.wd (f0 Fs 1) m with
          | true =>
            rw[a6] at ch1;simp only[gR1,gO,r0,i1,i2,i3,i4,lP,aS,lE,F1,ch1]
          | false =>
            rw[a6] at ch1;cases a7:iR r.wd with
            | true =>
              rw[a7] at i5;cases a8:cI r.wd (f0 Fs 0) m with
              | true =>
                rw[a8] at ch0;simp only[gR1,gO,r0,i1,i2,i3,i4,i5,lP,aS,lE,F1,ch1,F0,ch0]
              | false =>
                rw[a8] at ch0;simp only[gR1,gO,r0,i1,i2,i3,i4,i5,lP,aS,lE,F1,ch1,F0,ch0]
            | false =>
              rw[a7] at i5;simp only[gR1,gO,r0,i1,i2,i3,i4,i5,lP,aS,lE,F1,ch1]
         ·have lE:(((P.length:Nat):Int)==2)=false:=by rw[beq_eq_false_iff_ne];omega
          rw[dqF c6,yAl];have a7:iR r.wd=false:=by
           rw[hP] at c6
           revert c6
           cases r.wd<;>decide
          rw[a7] at i5;rw[a7];simp only[gR1,gO,r0,i1,i2,i3,i4,i5,lP,aS,lE]
theorem aA6(a b:List D)(h:a.length+b.length<=1000):bR .Add (.tuple a) (.tuple b)=qq (.tuple (a++b)):=by
 cases a with
 | nil=>rfl
 | cons x r =>
   show(if (x::r).isEmpty=false/\(x::r).length+b.length<=qk then qq (yCw ((x::r)++b)) else qz)=_
   rw[if_pos ⟨rfl,by rw[zj];omega⟩]
theorem aN6(a:List D)(k:Nat):eS a (qq (k:Nat)) qz=a.drop k:=by
 unfold eS;rw[HT.sIx_none,HT.sIx_nat];rcases Nat.le_total k a.length with h | h
 ·rw[yFf h,yBu (by rw[yFt];omega)]
 ·rw[yEq h,yGz,List.drop_of_length_le h,List.take_nil]
inductive Am where
 | s (x:Wd) | n (k:Nat) | z
noncomputable def Am.d:Am->D
 | .s x=>.str x.s
 | .n k=>.int (k:Nat)
 | .z=>.none
noncomputable def eV:Option Nat->Am
 | none=>.z
 | some k=>.n k
theorem sB(a:Option Nat):(eV a).d=aG a:=by cases a<;>rfl
theorem aHl(P:List (Option Nat)):(P.map eV).map Am.d=P.map aG:=by
 rw[yBs];exact yCh λ a _=>sB a
noncomputable def tA(l:List Am):D:=.tuple (l.map Am.d)
noncomputable def lX(r:Rw):List Am:=.s r.wd :: .n r.w::r.args.map Am.n
theorem aIq(l:List Nat):(l.map Am.n).map Am.d=l.map nD:=by rw[yBs];rfl
theorem aJs(r:Rw):tA (lX r)=r.d:=by
 show yCw (.str r.wd.s::nD r.w::(r.args.map Am.n).map Am.d)=_;rw[aIq];rfl
noncomputable def iD:Option (List Am)->D
 | none=>.none
 | some l=>tA l
theorem aJF(a:Option (List Am)):aJ .IsNot (iD a) .none=qq (.bool a.isSome):=by cases a<;>rfl
noncomputable def nM(r:Rw)(a:Option Nat)(k:Nat):List Am:=[.s .left,.n r.w,eV a,.n k]
noncomputable def wX(r:Rw)(lo:Nat)(Fs:List Ft)(P:List (Option Nat)):Option (List Am):=match eN (f0 Fs 1) lo with
 | some k=>qq (nM r (pg P 0) k)
 | none=>(match eN (f0 Fs 0) lo with
   | some k=>qq (nM r (pg P 1) k)
   | none=>qz)
theorem aJu(r:Rw)(a:Option Nat)(k:Nat):tA (nM r a k)=.tuple [.str "left",.int (r.w:Nat),aG a,.int (k:Nat)]:=by
 show yCw [.str "left",.int (r.w:Nat),(eV a).d,.int (k:Nat)]=_;rw[sB]
noncomputable abbrev eP(R:D)(lo:Nat)(G Q:D)(c4 c5 c6:Option W):aY:=[qq (.d R),qq (.d (.int (lo:Nat))),qq (.d G),qq (.d Q),c4,c5,c6]
theorem aGT(d:Nat)(r:Rw)(lo i j:Nat)(Fs:List Ft)(P:List (Option Nat))(hi:i<P.length)(hj:j<Fs.length)(c6:Option W)(S:aC):xs (aD fns (d+2)) tE (eP r.d lo (.tuple (Fs.map Ft.d)) (.tuple (P.map aG)) (qq (.d (.int (i:Nat)))) (qq (.d (.int (j:Nat)))) c6) S=(match eN (f0 Fs j) lo with
 | some k=>qq (.rt (.d (tA (nM r (pg P i) k))),S)
 | none=>qq (.nx (eP r.d lo (.tuple (Fs.map Ft.d)) (.tuple (P.map aG)) (qq (.d (.int (i:Nat)))) (qq (.d (.int (j:Nat)))) (qq (.d .none))),S)):=by
 have e1:=sG hj;have e2:=sD hi;have r1:=eK r;have sb:=aFu d (f0 Fs j) lo S;cases c:eN (f0 Fs j) lo with
 | none =>
   rw[c] at sb;have sb':cl fns (d+2) 50 [.d (f0 Fs j).d,.d (.int (lo:Nat))] S=qq (.d .none,S):=sb;have is:aJ .IsNot .none .none=qq (.bool false):=rfl;simp only[gS2,tE,eP,e1,sb',is]
 | some k =>
   rw[c] at sb;have sb':cl fns (d+2) 50 [.d (f0 Fs j).d,.d (.int (lo:Nat))] S=qq (.d (.int (k:Nat)),S):=sb;have is:aJ .IsNot (.int (k:Nat)) .none=qq (.bool true):=rfl;simp only[gS2,tE,eP,aJu,e1,sb',is,r1,e2]
theorem aTl(d:Nat)(r:Rw)(lo:Nat)(Fs:List Ft)(P:List (Option Nat))(lF:Fs.length=2)(lP:P.length=2)(S:aC):cl fns (d+3) 55 [.d r.d,.d (.int (lo:Nat)),.d (.tuple (Fs.map Ft.d)),.d (.tuple (P.map aG))] S=qq (.d (iD (wX r lo Fs P)),S):=by
 have t1:=aGT d r lo 0 1 Fs P (by omega) (by omega) qz S
 have t2:=aGT d r lo 1 0 Fs P (by omega) (by omega) (qq (.d .none)) S
 obtain⟨R,hR⟩:∃ R:D,R=r.d:=⟨_,rfl⟩;obtain⟨G,hG⟩:∃ G:D,G=.tuple (Fs.map Ft.d):=⟨_,rfl⟩;obtain⟨Q,hQ⟩:∃ Q:D,Q=.tuple (P.map aG):=⟨_,rfl⟩;rw[<- hR,<- hG,<- hQ] at t1 t2 ⊢;have it:∀ e,lv (aD fns (d+2)) aBA e S=qq ([.tuple [.int 0,.int 1],.tuple [.int 1,.int 0]],S):=λ e=>rfl
 have q1:Tg.put (.many [4,5]) (.tuple [.int 0,.int 1]) (eP R lo G Q qz qz qz)=qq (eP R lo G Q (qq (.d (.int ((0:Nat):Int)))) (qq (.d (.int ((1:Nat):Int)))) qz):=rfl;have q2:Tg.put (.many [4,5]) (.tuple [.int 1,.int 0]) (eP R lo G Q (qq (.d (.int ((0:Nat):Int)))) (qq (.d (.int ((1:Nat):Int)))) (qq (.d .none)))=qq (eP R lo G Q (qq (.d (.int ((1:Nat):Int)))) (qq (.d (.int ((0:Nat):Int)))) (qq (.d .none))):=rfl;have b:pA=.seq (.loop (.many [4,5]) aBA tE) (bM pA):=rfl;rw[aT rfl (d+2) _ S rfl];show((xs (aD fns (d+2)) pA (eP R lo G Q qz qz qz) S).bind _)=_;unfold wX;cases c1:eN (f0 Fs 1) lo with
 | some k =>
   rw[c1] at t1;have lp:xs (aD fns (d+2)) pA (eP R lo G Q qz qz qz) S=qq (.rt (.d (tA (nM r (pg P 0) k))),S):=by
    rw[b];simp only[iW,zU,cZ,dA,it,oB,fU,q1,t1]
   rw[lp];exact congrArg qq (Prod.ext rfl yAh)
 | none =>
   rw[c1] at t1;cases c2:eN (f0 Fs 0) lo with
   | some k =>
     rw[c2] at t2;have lp:xs (aD fns (d+2)) pA (eP R lo G Q qz qz qz) S=qq (.rt (.d (tA (nM r (pg P 1) k))),S):=by
      rw[b];simp only[iW,zU,cZ,dA,it,oB,fU,q1,t1,q2,t2]
     rw[lp];exact congrArg qq (Prod.ext rfl yAh)
   | none =>
     rw[c2] at t2;have lp:xs (aD fns (d+2)) pA (eP R lo G Q qz qz qz) S=qq (.rt (.d .none),S):=by
      rw[b];simp only[iW,zU,cZ,dA,it,oB,fU,q1,t1,q2,t2];rfl
     rw[lp];exact congrArg qq (Prod.ext rfl yAh)
noncomputable def jD(r:Rw)(m:Nat)(Fs:List Ft)(P:List (Option Nat)):Option (List Am):=
 if r.wd=.mul then wX r (2^bl m-1) Fs P else if r.wd=.add/\bI (2^bl m-1) ((f0 Fs 0).N|||(f0 Fs 1).N)=0 then qq (.s .or :: .n r.w::P.map eV)
 else if r.wd=.sub/\bI (2^bl m-1) ((f0 Fs 1).N|||(f0 Fs 0).O)=0 then qq (.s .xor :: .n r.w::P.map eV) else qz
theorem zV(x:Wd)(w:Nat)(P:List (Option Nat))(h:P.length<=3):bR .Add (.tuple [.str x.s,.int (w:Nat)]) (.tuple (P.map aG))=qq (tA (.s x :: .n w::P.map eV)):=by
 rw[aA6 [.str x.s,.int (w:Nat)] (P.map aG) (by rw[yAb];show 2+P.length<=1000;omega)]
 show _=qq (yCw (.str x.s :: .int (w:Nat)::(P.map eV).map Am.d));rw[aHl];rfl
theorem aL5(d:Nat)(r:Rw)(m:Nat)(hm:m<2^64)(Fs:List Ft)(P:List (Option Nat))(lF:Fs.length=aI r.wd)(lP:P.length=aI r.wd)(S:aC):cl fns (d+4) 56 [.d r.d,.d (.int (m:Nat)),.d (.tuple (Fs.map Ft.d)),.d (.tuple (P.map aG))] S=qq (.d (iD (jD r m Fs P)),S):=by
 have r0:=lH r;have r1:=eK r;have bo:=zF (d+1) m S (Nat.lt_trans hm (yCq (by decide) (by decide)))
 have i1:aJ .Eq (.str r.wd.s) (.str "mul")=qq (.bool (decide (r.wd=.mul))):=bH r.wd .mul;have i2:aJ .Eq (.str r.wd.s) (.str "add")=qq (.bool (decide (r.wd=.add))):=bH r.wd .add;have i3:aJ .Eq (.str r.wd.s) (.str "sub")=qq (.bool (decide (r.wd=.sub))):=bH r.wd .sub;have am:=λ y=>zC (d+2) (2^bl m-1) y S
 rw[aT rfl (d+3) _ S rfl];unfold jD
 by_cases c1:r.wd=.mul
 ·have h2:aI r.wd=2:=by rw[c1];rfl
  have pb:=aTl d r (2^bl m-1) Fs P (by omega) (by omega) S
  rw[if_pos c1];rw[dqT c1] at i1;simp only[gR1,pC,bo,r0,i1,pb]
 ·rw[if_neg c1];rw[dqF c1] at i1
  by_cases c2:r.wd=.add
  ·have h2:aI r.wd=2:=by rw[c2];rfl
   have F0:=aDG (Fs:=Fs) (by omega)
   have F1:=aBb (Fs:=Fs) (by omega)
   have g0':=dG (f0 Fs 0);have g1:=dG (f0 Fs 1);have ct:bR .Add (.tuple [.str "or",.int (r.w:Nat)]) (.tuple (P.map aG))=qq (tA (.s .or :: .n r.w::P.map eV)):=zV .or r.w P (by omega)
   have n3:¬ r.wd=.sub:=by rw[c2];decide
   have a:=am ((f0 Fs 0).N|||(f0 Fs 1).N)
   rw[dqT c2] at i2;rw[dqF n3] at i3
   by_cases c3:bI (2^bl m-1) ((f0 Fs 0).N|||(f0 Fs 1).N)=0
   ·rw[if_pos ⟨c2,c3⟩];rw[jB c3] at a;simp only[gR1,pC,bo,r0,r1,i1,i2,F0,F1,g0',g1,cM,a,ct]
   ·rw[if_neg (λ h=>c3 h.2),if_neg (λ h=>n3 h.1)]
    rw[iO c3] at a;simp only[gR1,pC,bo,r0,i1,i2,i3,F0,F1,g0',g1,cM,a]
  ·rw[dqF c2] at i2;rw[if_neg (λ h=>c2 h.1)]
   by_cases c4:r.wd=.sub
   ·have h2:aI r.wd=2:=by rw[c4];rfl
    have F0:=aDG (Fs:=Fs) (by omega)
    have F1:=aBb (Fs:=Fs) (by omega)
    have g0':=dO (f0 Fs 0);have g1:=dG (f0 Fs 1);have ct:bR .Add (.tuple [.str "xor",.int (r.w:Nat)]) (.tuple (P.map aG))=qq (tA (.s .xor :: .n r.w::P.map eV)):=zV .xor r.w P (by omega)
    have a:=am ((f0 Fs 1).N|||(f0 Fs 0).O)
    rw[dqT c4] at i3
    by_cases c3:bI (2^bl m-1) ((f0 Fs 1).N|||(f0 Fs 0).O)=0
    ·rw[if_pos ⟨c4,c3⟩];rw[jB c3] at a;simp only[gR1,pC,bo,r0,r1,i1,i2,i3,F0,F1,g0',g1,cM,a,ct]
    ·rw[if_neg (λ h=>c3 h.2)]
     rw[iO c3] at a;simp only[gR1,pC,bo,r0,i1,i2,i3,F0,F1,g0',g1,cM,a]
   ·rw[dqF c4] at i3;rw[if_neg (λ h=>c4 h.1)]
    simp only[gR1,pC,bo,r0,i1,i2,i3]
noncomputable def woA(r:Rw)(P:List (Option Nat)):List Am:=.s r.wd :: .n r.w::(P.map eV++(r.args.drop P.length).map Am.n)
theorem aIL(r:Rw)(P:List (Option Nat))(h:P.length<=3)(ha:r.args.length<=10):∃ a b,eS (.str r.wd.s::nD r.w::r.args.map nD) qz (qq 2)=a/\eS (.str r.wd.s::nD r.w::r.args.map nD) (qq ((2+P.length:Nat):Int)) qz=b/\bR .Add (.tuple a) (.tuple (P.map aG))=qq (.tuple (a++P.map aG))/\bR .Add (.tuple (a++P.map aG)) (.tuple b)=qq (tA (woA r P)):=by
 refine⟨_,_,aQ4 _ 2,aN6 _ _,aA6 _ _ (by simp;omega),?_⟩
 rw[aA6 _ _ (by simp;omega)]
 have e:(yHj r.wd.s::nD r.w::r.args.map nD).drop (2+P.length)=(r.args.drop P.length).map nD:=by
  rw[yDe 2,List.map_drop];rfl
 rw[e];show _=qq (yCw (.str r.wd.s::nD r.w::(P.map eV++(r.args.drop P.length).map Am.n).map Am.d));rw[yAz,aHl,aIq];rfl
theorem aOj(d:Nat)(r:Rw)(P:List (Option Nat))(h:P.length<=3)(ha:r.args.length<=10)(S:aC):cl fns (d+1) 8 [.d r.d,.d (.tuple (P.map aG))] S=qq (.d (tA (woA r P)),S):=by
 obtain⟨a,b,h1,h2,h3,h4⟩:=aIL r P h ha;have lP:eT [.tuple (P.map aG)]=qq (.int (P.length:Nat)):=by
  show qq (yAm (((P.map aG).length:Nat):Int))=_;rw[yAb]
 have ad:(2:Int)+((P.length:Nat):Int)=((2+P.length:Nat):Int):=by omega
 have rd:r.d=.tuple (.str r.wd.s::nD r.w::r.args.map nD):=rfl;rw[aT rfl d _ S rfl];rw[rd];simp only[gR1,aEm,kE,lP,eD,ad,h1,h2,h3,h4]
inductive Vd where
 | gone | kept | known | passed | cheaper
 deriving DecidableEq
noncomputable def Vd.s:Vd->Str
 | .gone => "gone" | .kept => "kept" | .known => "known" | .passed => "passed" | .cheaper => "cheaper"
structure Tr where
 v:Vd
 md:Option (List Am)
 pl:Option Nat
noncomputable def Tr.d(t:Tr):D:=.tuple [.str t.v.s,iD t.md,aG t.pl]
noncomputable def aVm(w n:Nat):List Am:=[.s .num,.n w,.n n]
noncomputable def gW(r:Rw)(f:Ft)(m:Nat)(ws:List Nat)(Fs:List Ft)(P:List (Option Nat)):Tr:=
 if r.wd=.in then ⟨.kept,qq (lX r),qz⟩ else if m=0 then ⟨.gone,qz,qz⟩ else if r.wd=.num then ⟨.kept,qq (lX r),qz⟩ else match kF r.wd f m P with
 | some n=>⟨.known,qq (aVm r.w n),qz⟩
 | none=>(match fK r m ws Fs P with
   | some i=>⟨.passed,qz,pg P i⟩
   | none=>(match jD r m Fs P with
     | some l=>⟨.cheaper,qq l,qz⟩
     | none=>⟨.kept,qq (woA r P),qz⟩))
theorem aTS{r:Rw}{m:Nat}{ws:List Nat}{Fs:List Ft}{P:List (Option Nat)}{i:Nat}(hP:P.length=aI r.wd)(c1:0<aI r.wd)(h:fK r m ws Fs P=qq i):i<P.length:=by
 unfold fK at h;cases a1:(kK r.wd&&gL P) with
 | true =>
   rw[a1] at h;have h:qq 0=qq i:=h;cases h;omega
 | false =>
   rw[a1] at h;cases a2:decide (r.wd=.pick) with
   | true =>
     rw[a2] at h;have e3:aI r.wd=3:=by rw[oqT a2];rfl
     have h:nI (f0 Fs 0) P=qq i:=h;unfold nI at h
     split at h
     ·cases h;omega
     ·split at h
      ·cases h;omega
      ·cases h
   | false =>
     rw[a2] at h;have z:∀ {b:Bool},cond b (qq 0) qz=qq i->i<P.length:=λ {b} q=>by
      cases b with
      | true =>
        have q:qq 0=qq i:=q;cases q;omega
      | false=>cases q
     cases a3:nJ r.wd with
     | true=>rw[a3] at h;exact z h
     | false =>
       rw[a3] at h;cases a4:oZ r.wd with
       | true=>rw[a4] at h;exact z h
       | false =>
         rw[a4] at h;cases a5:(decide (P.length=2)&&cI r.wd (f0 Fs 1) m) with
         | true =>
           rw[a5] at h;have h:qq 0=qq i:=h;cases h;omega
         | false =>
           rw[a5] at h;cases a6:iR r.wd with
           | true =>
             have e2:aI r.wd=2:=by revert a6;cases r.wd<;>decide
             rw[a6,yAn] at h;cases a7:cI r.wd (f0 Fs 0) m with
             | true =>
               rw[a7] at h;have h:qq 1=qq i:=h;cases h;omega
             | false=>rw[a7] at h;cases h
           | false=>rw[a6,yAl] at h;cases h
theorem aCh{r:Rw}{ws:List Nat}(h:RwOk r ws):r.args.length<=10:=by
 cases h<;>(show _<=10;simp)
theorem aNV(d:Nat)(r:Rw)(f:Ft)(m:Nat)(hm:m<2^64)(ws:List Nat)(Fs:List Ft)(P:List (Option Nat))(ok:RwOk r ws)(lw:ws.length=aI r.wd)(lF:Fs.length=aI r.wd)(hP:P.length=aI r.wd)(S:aC):cl fns (d+5) 57 [.d r.d,.d f.d,.d (.int (m:Nat)),.d (.tuple (ws.map nD)),.d (.tuple (Fs.map Ft.d)),.d (.tuple (P.map aG))] S=qq (.d (gW r f m ws Fs P).d,S):=by
 have r0:=lH r;have r1:=eK r;have i1:aJ .Eq (.str r.wd.s) (.str "in")=qq (.bool (decide (r.wd=.in))):=bH r.wd .in;have i2:aJ .Eq (.str r.wd.s) (.str "num")=qq (.bool (decide (r.wd=.num))):=bH r.wd .num;have rd:=aJs r;have c3:aI r.wd<=3:=by cases r.wd<;>decide
 rw[aT rfl (d+4) _ S rfl];unfold gW
 by_cases c1:r.wd=.in
 ·rw[if_pos c1];rw[dqT c1] at i1;show _=qq (W.d (.tuple [.str "kept",tA (lX r),.none]),S);rw[rd];simp only[gR1,nY,r0,i1]
 ·rw[if_neg c1];rw[dqF c1] at i1
  by_cases c2:m=0
  ·have t0:=jB c2;rw[if_pos c2];simp only[gR1,nY,r0,i1,aS,bT,t0]
  ·have t0:=iO c2;rw[if_neg c2]
   by_cases c4:r.wd=.num
   ·rw[if_pos c4];rw[dqT c4] at i2;show _=qq (W.d (.tuple [.str "kept",tA (lX r),.none]),S);rw[rd];simp only[gR1,nY,r0,i1,aS,bT,t0,i2]
   ·rw[if_neg c4];rw[dqF c4] at i2;have pos:0<aI r.wd:=by revert c1 c4;cases r.wd<;>decide
    have kn:=aK3 (d+2) r f m P hP S;have po:=aUH d r m hm ws Fs P ok c1 c4 lw lF hP S;have ch:=aL5 d r m hm Fs P lF hP S;have wo:=aOj (d+3) r P (by omega) (aCh ok) S
    have is1:=aAI (kF r.wd f m P);have is2:=aAI (fK r m ws Fs P);have is3:=aJF (jD r m Fs P);cases k1:kF r.wd f m P with
    | some n =>
      rw[k1] at kn is1;have is1:aJ .IsNot (aG (qq n)) .none=qq (.bool true):=is1;simp only[gR1,nY,r0,i1,aS,bT,t0,i2,kn,is1,r1]
    | none =>
      rw[k1] at kn is1;have is1:aJ .IsNot (aG qz) .none=qq (.bool false):=is1;cases k2:fK r m ws Fs P with
      | some i =>
        have il:=aTS hP pos k2;have pi:=sD il;rw[k2] at po is2;have is2:aJ .IsNot (aG (qq i)) .none=qq (.bool true):=is2;have pe:aG (qq i)=.int (i:Nat):=rfl;rw[pe] at po is2;simp only[gR1,nY,r0,i1,aS,bT,t0,i2,kn,is1,po,is2,pi]
      | none =>
        rw[k2] at po is2;have is2:aJ .IsNot (aG qz) .none=qq (.bool false):=is2;cases k3:jD r m Fs P with
        | some l =>
          rw[k3] at ch is3;have is3:aJ .IsNot (iD (qq l)) .none=qq (.bool true):=is3;simp only[gR1,nY,r0,i1,aS,bT,t0,i2,kn,is1,po,is2,ch,is3]
        | none =>
          rw[k3] at ch is3;have is3:aJ .IsNot (iD qz) .none=qq (.bool false):=is3;simp only[gR1,nY,r0,i1,aS,bT,t0,i2,kn,is1,po,is2,ch,is3,wo]
noncomputable def z3:List Rw->List Ft->List Nat->List (Rw×Ft×Nat)
 | r::rs,f::F,m::M=>(r,f,m)::z3 rs F M
 | _,_,_=>[]
theorem aJS:∀ (rs:List Rw) (F:List Ft) (M:List Nat),gI (rs.map Rw.d) (F.map Ft.d) (M.map nD)=(z3 rs F M).map λ t=>yCw [t.1.d,t.2.1.d,nD t.2.2]
 | [],_,_=>rfl
 | _::_,[],_=>rfl
 | _::_,_::_,[]=>rfl
 | r::rs,f::F,m::M=>by
   have ih:=aJS rs F M;simp only[yBa,gI,z3,ih]
theorem aHZ:∀ (rs:List Rw) (F:List Ft) (M:List Nat) (k:Nat) (t:Rw×Ft×Nat),(z3 rs F M)[k]? = qq t ↔ rs[k]? = qq t.1/\F[k]? = qq t.2.1/\M[k]? = qq t.2.2
 | [],_,_,k,t=>by simp[z3]
 | _::_,[],_,k,t=>by simp[z3]
 | _::_,_::_,[],k,t=>by simp[z3]
 | r::rs,f::F,m::M,0,(a,b,c)=>by simp[z3]
 | r::rs,f::F,m::M,k+1,t=>by
   have ih:=aHZ rs F M k t;simpa [z3] using ih
theorem aH5:∀ (rs:List Rw) (F:List Ft) (M:List Nat),F.length=rs.length->M.length=rs.length->(z3 rs F M).length=rs.length
 | [],_,_,_,_=>rfl
 | _::_,[],_,h,_=>by cases h
 | _::_,_::_,[],_,h=>by cases h
 | r::rs,f::F,m::M,h1,h2=>by
   have ih:=aH5 rs F M (Nat.succ.inj h1) (Nat.succ.inj h2);simp only[z3,yBi,ih]
theorem ap1(s:Option (List D))(l:List D)(T:aC)(y:D)(h:l.length<=1000):dP (s::qq l::T) (.loc 1) (.d y)=qq (.d .none,s::qq (l++[y])::T):=by
 unfold dP;simp only[yBq,yBb];rw[if_pos (by rw[zj];omega)]
 rfl
theorem ap2(s t:Option (List D))(l:List D)(T:aC)(y:D)(h:l.length<=1000):dP (s::t::qq l::T) (.loc 2) (.d y)=qq (.d .none,s::t::qq (l++[y])::T):=by
 unfold dP;simp only[yBq,yBb];rw[if_pos (by rw[zj];omega)]
 rfl
theorem ap3(s t u:Option (List D))(l:List D)(T:aC)(y:D)(h:l.length<=1000):dP (s::t::u::qq l::T) (.loc 3) (.d y)=qq (.d .none,s::t::u::qq (l++[y])::T):=by
 unfold dP;simp only[yBq,yBb];rw[if_pos (by rw[zj];omega)]
 rfl
structure S3 where
 R:List (List Am)
 P:List (Option Nat)
 V:List Vd
noncomputable def vD(v:Vd):D:=.str v.s
noncomputable def iE(t:Tr)(s:S3):S3:=match t.md with
 | some l=>⟨s.R++[l],s.P++[qq s.R.length],s.V++[t.v]⟩
 | none=>⟨s.R,s.P++[t.pl],s.V++[t.v]⟩
noncomputable def dJ(r:Rw)(P:List (Option Nat)):List (Option Nat):=(r.args.take (aI r.wd)).map (pg P)
noncomputable def jL(rs:List Rw)(F:List Ft)(M:List Nat)(j:Nat)(r:Rw)(P:List (Option Nat)):Tr:=gW r (f0 F j) (M.getD j 0) (bB r (rs.map (·.w))) (bK r F) (dJ r P)
noncomputable def eX(rs:List Rw)(F:List Ft)(M:List Nat):Nat->S3
 | 0=>⟨[],[],[]⟩
 | j+1=>match rs[j]? with
   | some r=>iE (jL rs F M j r (eX rs F M j).P) (eX rs F M j)
   | none=>eX rs F M j
noncomputable abbrev bP(s0:Option (List D))(s:S3):aC:=[s0,qq (s.R.map tA),qq (s.P.map aG),qq (s.V.map vD)]
structure Ln(s:S3)(j:Nat):Prop where
 p:s.P.length=j
 v:s.V.length=j
 r:s.R.length<=j
theorem aSq{t:Tr}{s:S3}{j:Nat}(h:Ln s j):Ln (iE t s) (j+1):=by
 unfold iE;cases t.md with
 | some l=>exact⟨by simp[h.p],by simp[h.v],by have:=h.r;simp;omega⟩
 | none=>exact⟨by simp[h.p],by simp[h.v],by have:=h.r;show s.R.length<=j+1;omega⟩
theorem vN{rs:List Rw}(p:Prg rs){k:Nat}{r:Rw}(hr:rs[k]? = qq r):(r.args.take (aI r.wd)).length=aI r.wd:=zG (rT (p.fit k r hr).1).2
theorem zP{rs:List Rw}(p:Prg rs){k:Nat}{r:Rw}(hr:rs[k]? = qq r)(P:List (Option Nat)):(dJ r P).length=aI r.wd:=by
 unfold dJ;rw[yAb];exact vN p hr
section
variable {rs : List Rw}{F : List Ft}{M : List Nat}
noncomputable abbrev eR(P:D)(F:List Ft)(M:List Nat)(Wi:D)(c7 c8 c9 c10 c11 c12 c13 c14:Option W):aY:=[qq (.d P),qq (.d (.tuple (F.map Ft.d))),qq (.d (.tuple (M.map nD))),qq (.d Wi),qq (.loc 1),qq (.loc 2),qq (.loc 3),c7,c8,c9,c10,c11,c12,c13,c14,qz]
theorem aOs(d:Nat)(p:Prg rs)(hF:F.length=rs.length)(h:Bd rs M){j:Nat}{r:Rw}(hr:rs[j]? = qq r){s:S3}(hs:Ln s j)(s0:Option (List D))(P0:D)(c11 c12 c13 c14:Option W):∃ c11' c12' c13' c14':Option W,xs (aD fns (d+5)) qT (eR P0 F M (.tuple ((rs.map (·.w)).map nD)) qz (qq (.d r.d)) (qq (.d (f0 F j).d)) (qq (.d (.int ((M.getD j 0:Nat):Int)))) c11 c12 c13 c14) (bP s0 s)=qq (.nx (eR P0 F M (.tuple ((rs.map (·.w)).map nD)) qz (qq (.d r.d)) (qq (.d (f0 F j).d)) (qq (.d (.int ((M.getD j 0:Nat):Int)))) c11' c12' c13' c14'),bP s0 (iE (jL rs F M j r s.P) s)):=by
 have hj:j<rs.length:=(gIm hr).1;have pl:=p.l;obtain⟨f1,f2⟩:=p.fit j r hr;have hw:=p.ws j r hr;have hm:M.getD j 0<2^64:=xAc (h.lt j r hr) (yAq (by decide) hw.2)
 have o1:=aHA (d+3) r (rs.map (·.w)) (bP s0 s) λ a ha=>by have:=f2 a ha;rw[yAb];omega
 have o2:cl fns (d+5) 9 [.d r.d,.d (.tuple (F.map Ft.d))] (bP s0 s)=qq (.d (.tuple ((bK r F).map Ft.d)),bP s0 s):=by
  have:=uA (d+3) r (.d (.tuple (F.map Ft.d))) (.tuple (F.map Ft.d)) (λ a=>(f0 F a).d) (bP s0 s) (λ _=>rfl) λ a ha=>sG (by have:=f2 a ha;omega)
  rw[this,bK,yBs];rfl
 have o3:cl fns (d+5) 9 [.d r.d,.loc 2] (bP s0 s)=qq (.d (.tuple ((dJ r s.P).map aG)),bP s0 s):=by
  have:=uA (d+3) r (.loc 2) (.list (s.P.map aG)) (λ a=>aG (pg s.P a)) (bP s0 s) (λ _=>rfl) λ a ha=>jS (by
   have hl:a<s.P.length:=by have:=f2 a ha;rw[hs.p];exact this
   rw[xAb,yAa hl];show qq (aG s.P[a])=qq (aG (s.P.getD a qz));rw[xAh,yAa hl];rfl)
  rw[this,dJ,yBs];rfl
 have la:=vN p hr;have lw:(bB r (rs.map (·.w))).length=aI r.wd:=by unfold bB;rw[yAb];exact la
 have lF:(bK r F).length=aI r.wd:=by unfold bK;rw[yAb];exact la
 have tr:=aNV d r (f0 F j) (M.getD j 0) hm (bB r (rs.map (·.w))) (bK r F) (dJ r s.P) f1 lw lF (zP p hr s.P) (bP s0 s);have tr':cl fns (d+5) 57 [.d r.d,.d (f0 F j).d,.d (.int ((M.getD j 0:Nat):Int)),.d (.tuple ((bB r (rs.map (·.w))).map nD)),.d (.tuple ((bK r F).map Ft.d)),.d (.tuple ((dJ r s.P).map aG))] (bP s0 s)=qq (.d (jL rs F M j r s.P).d,bP s0 s):=tr;obtain⟨⟨v,md,pl'⟩,ht⟩:∃ t,t=jL rs F M j r s.P:=⟨_,rfl⟩;rw[<- ht] at tr' ⊢;obtain⟨R,P,V⟩:=s;have h1:=hs.p;have h2:=hs.v;have h3:=hs.r;dsimp only at h1 h2 h3;generalize hA:(bB r (rs.map (·.w))).map nD=A1 at o1 tr';generalize hB:(bK r F).map Ft.d=A2 at o2 tr';generalize hC:(dJ r P).map aG=A3 at o3 tr';have t0:aO (.tuple [.tuple A1,.tuple A2,.tuple A3]) (.int 0)=qq (.tuple A1):=rfl;have t1:aO (.tuple [.tuple A1,.tuple A2,.tuple A3]) (.int 1)=qq (.tuple A2):=rfl;have t2:aO (.tuple [.tuple A1,.tuple A2,.tuple A3]) (.int 2)=qq (.tuple A3):=rfl;have dt:(Tr.mk v md pl').d=.tuple [vD v,iD md,aG pl']:=rfl;rw[dt] at tr';cases md with
 | some l =>
   have is:aJ .IsNot (tA l) .none=qq (.bool true):=rfl;have em:iD (qq l)=tA l:=rfl;rw[em] at tr';have lR:eT [.list (R.map tA)]=qq (.int (R.length:Nat)):=by
    show qq (yAm (((R.map tA).length:Nat):Int))=_;rw[yAb]
   have a1:=ap1 s0 (R.map tA) [qq (P.map aG),qq (V.map vD)] (tA l) (by rw[yAb];omega)
   have a2:=ap2 s0 (qq (R.map tA++[tA l])) (P.map aG) [qq (V.map vD)] (.int (R.length:Nat)) (by rw[yAb];omega)
   have a3:=ap3 s0 (qq (R.map tA++[tA l])) (qq (P.map aG++[.int (R.length:Nat)])) (V.map vD) [] (vD v) (by rw[yAb];omega)
   have es:bP s0 (iE ⟨v,qq l,pl'⟩ ⟨R,P,V⟩)=[s0,qq (R.map tA++[tA l]),qq (P.map aG++[.int (R.length:Nat)]),qq (V.map vD++[vD v])]:=by
    show [s0,qq ((R++[l]).map tA),qq ((P++[qq R.length]).map aG),qq ((V++[v]).map vD)]=_;rw[yAz,yAz,yAz];rfl
   refine⟨qq (.d (.tuple [.tuple A1,.tuple A2,.tuple A3])),qq (.d (vD v)),qq (.d (tA l)),qq (.d (.int (R.length:Nat))),?_⟩;rw[es];simp only[gS2,qT,eR,bP,o1,o2,o3,t0,t1,t2,tr',is,lR,hZ,a1,a2,a3]
 | none =>
   have is:aJ .IsNot .none .none=qq (.bool false):=rfl;have em:iD qz=.none:=rfl;rw[em] at tr';have a2:=ap2 s0 (qq (R.map tA)) (P.map aG) [qq (V.map vD)] (aG pl') (by rw[yAb];omega)
   have a3:=ap3 s0 (qq (R.map tA)) (qq (P.map aG++[aG pl'])) (V.map vD) [] (vD v) (by rw[yAb];omega)
   have es:bP s0 (iE ⟨v,qz,pl'⟩ ⟨R,P,V⟩)=[s0,qq (R.map tA),qq (P.map aG++[aG pl']),qq (V.map vD++[vD v])]:=by
    show [s0,qq (R.map tA),qq ((P++[pl']).map aG),qq ((V++[v]).map vD)]=_;rw[yAz,yAz];rfl
   refine⟨qq (.d (.tuple [.tuple A1,.tuple A2,.tuple A3])),qq (.d (vD v)),qq (.d .none),qq (.d (aG pl')),?_⟩;rw[es];simp only[gS2,qT,eR,bP,o1,o2,o3,t0,t1,t2,tr',is,hZ,a2,a3]
end
theorem uG{rs:List Rw}{F:List Ft}{M:List Nat}{j:Nat}{r:Rw}(hr:rs[j]? = qq r):eX rs F M (j+1)=iE (jL rs F M j r (eX rs F M j).P) (eX rs F M j):=by
 show(match rs[j]? with | some r=>_ | none=>_)=_
 rw[hr]
theorem rL{rs:List Rw}{F:List Ft}{M:List Nat}:∀ j,j<=rs.length->Ln (eX rs F M j) j
 | 0,_=>⟨rfl,rfl,yAc _⟩
 | j+1,h=>by
   rw[uG (yAa (show j<rs.length from h))]
   exact aSq (rL j (Nat.le_of_succ_le h))
noncomputable def fR(s:S3)(aE:List Nat):D:=.tuple [.tuple [.tuple (s.R.map tA),.tuple (aE.map λ o=>aG (pg s.P o))],.tuple (s.V.map vD)]
section
variable {rs : List Rw}{F : List Ft}{M : List Nat}
theorem aFN(C:Calls)(c:E)(x i k:Nat)(env e1:aY)(aE:List Nat)(s:S3)(s0:Option (List D))(hl:aE.length<=8)(hin:∀ o∈aE,o<s.P.length)(hi:lv C (.it (.ix (.var x) (.int 1))) env (bP s0 s)=qq (aE.map nD,bP s0 s))(hp:∀ a:D,Tg.put (.one i) a (clr [i] env)=qq (e1.set i (qq (.d a))))(hk:∀ a:D,(e1.set i (qq (.d a)))[k]? = qq (qq (.loc 2)))(hv:∀ a:D,(e1.set i (qq (.d a)))[i]? = qq (qq (.d a))):gR (.one i) (lv C (.it (.ix (.var x) (.int 1)))) mZ (ev C (.ix (.var k) (.var i))) env (bP s0 s)=qq (aE.map λ o=>aG (pg s.P o),bP s0 s):=by
 obtain⟨vs,S2,ec,hS2,hI,hvl,hq⟩:=aCd (t:=.one i) (fi:=lv C (.it (.ix (.var x) (.int 1)))) (fe:=ev C (.ix (.var k) (.var i))) (env:=env) (S:=bP s0 s) (S1:=bP s0 s) nD (λ _ S'=>S'=bP s0 s) (λ a v=>v=aG (pg s.P a)) aE hi (by rw[zj];omega) rfl (by
  intro a ha;refine⟨_,hp (nD a),?_⟩;rintro j S3 aH hj hSl rfl;have hx:aO (.list (s.P.map aG)) (nD a)=qq (aG (pg s.P a)):=jS (by
   have hl:=hin a ha;rw[xAb,yAa hl];show qq (aG s.P[a])=qq (aG (s.P.getD a qz));rw[xAh,yAa hl];rfl)
  refine⟨aG (pg s.P a),_,?_,rfl,rfl,rfl⟩;have h1:=hk (nD a);have h2:=hv (nD a);simp only[aAT,aAh,nF,f2,iN,h1,h2,oB,gN];show((aO (.list (s.P.map aG)) (nD a)).bind λ z=>qq (W.d z,bP s0 s++[qq aH]))=_
  rw[hx];rfl)
 subst hI;rw[ec,aBR hvl hq]
theorem aMS(d:Nat)(p:Prg rs)(hF:F.length=rs.length)(aE:List Nat)(ho:∀ o∈aE,o<rs.length)(hol:aE.length<=8)(s0:Option (List D))(eF:cl fns (d+9) 48 [.d (.tuple [.tuple (rs.map Rw.d),.tuple (aE.map nD)])] [s0]=qq (.d (.tuple (F.map Ft.d)),[s0])):cl fns (d+10) 58 [.d (.tuple [.tuple (rs.map Rw.d),.tuple (aE.map nD)])] [s0]=qq (.d (fR (eX rs F (fX rs F aE) rs.length) aE),[s0]):=by
 have pl:=p.l;obtain⟨hb,eA⟩:=aGD (d+2) p hF aE ho [s0];have eW:=aEv (d+8) rs (.tuple (aE.map nD)) (by omega) [s0]
 obtain⟨M,hM⟩:∃ M,M=fX rs F aE:=⟨_,rfl⟩;rw[<- hM] at hb eA ⊢;have i0:aO (.tuple [.tuple (rs.map Rw.d),.tuple (aE.map nD)]) (.int 0)=qq (.tuple (rs.map Rw.d)):=rfl;have i1:aO (.tuple [.tuple (rs.map Rw.d),.tuple (aE.map nD)]) (.int 1)=qq (.tuple (aE.map nD)):=rfl;obtain⟨P,hP⟩:∃ P:D,P=.tuple [.tuple (rs.map Rw.d),.tuple (aE.map nD)]:=⟨_,rfl⟩;rw[<- hP] at eF eA eW i0 i1 ⊢;obtain⟨Wi,hWi⟩:∃ Wi:D,Wi=.tuple ((rs.map (·.w)).map nD):=⟨_,rfl⟩;rw[<- hWi] at eW;have hz:=aJS rs F M;have it:lv (aD fns (d+9)) yO (eR P F M Wi qz qz qz qz qz qz qz qz) (bP s0 ⟨[],[],[]⟩)=qq ((z3 rs F M).map (λ t=>yCw [t.1.d,t.2.1.d,nD t.2.2]),bP s0 ⟨[],[],[]⟩):=by
  simp only[gS2,yO,eR,i0,hz]
 obtain⟨aM,S',p1,c8,c9,c10,c11,c12,c13,c14,rfl,rfl⟩:=rK (t:=.many [8,9,10]) (fb:=xs (aD fns (d+9)) qT)
  (λ j env S'=>∃ c8 c9 c10 c11 c12 c13 c14:Option W,env=eR P F M Wi qz c8 c9 c10 c11 c12 c13 c14/\S'=bP s0 (eX rs F M j))
  it ⟨qz,qz,qz,qz,qz,qz,qz,rfl,rfl⟩ (by
   rintro j dd env S' hd ⟨c8,c9,c10,c11,c12,c13,c14,rfl,rfl⟩;rw[xAb] at hd;obtain⟨⟨r,f,m⟩,ht,rfl⟩:=Option.map_eq_some_iff.mp hd;obtain⟨hr,hf,hm⟩:=(aHZ rs F M j _).mp ht;have hj:j<rs.length:=(gIm hr).1;have ef:f=f0 F j:=by
    show f=F.getD j ⟨0,0,1⟩;rw[xAh,hf];rfl
   have em:m=M.getD j 0:=by rw[xAh,hm];rfl
   obtain⟨a11,a12,a13,a14,e⟩:=aOs (d+4) p hF hb hr (rL j (yDz hj)) s0 P c11 c12 c13 c14;rw[<- hWi,<- ef,<- em] at e;exact⟨eR P F M Wi qz (qq (.d r.d)) (qq (.d f.d)) (qq (.d (.int (m:Nat)))) c11 c12 c13 c14,eR P F M Wi qz (qq (.d r.d)) (qq (.d f.d)) (qq (.d (.int (m:Nat)))) a11 a12 a13 a14,_,rfl,e,_,_,_,a11,a12,a13,a14,rfl,by rw[uG hr]⟩)
 rw[yAb,aH5 rs F M hF hb.l] at p1;have ln:=rL (F:=F) (M:=M) rs.length (yAc _);generalize eX rs F M rs.length=s at p1 ln ⊢;have oc:lv (aD fns (d+9)) yI [qq (.d P),qq (.d (.tuple (F.map Ft.d))),qq (.d (.tuple (M.map nD))),qq (.d Wi),qq (.loc 1),qq (.loc 2),qq (.loc 3),qz,c8,c9,c10,c11,c12,c13,c14,qz] (bP s0 s)=qq (aE.map λ o=>aG (pg s.P o),bP s0 s):=by
  refine aFN (aD fns (d+9)) yI 0 15 5 _ [qq (.d P),qq (.d (.tuple (F.map Ft.d))),qq (.d (.tuple (M.map nD))),qq (.d Wi),qq (.loc 1),qq (.loc 2),qq (.loc 3),qz,c8,c9,c10,c11,c12,c13,c14,qz] aE s s0 hol (λ o h=>by rw[ln.p];exact ho o h) ?_ (λ a=>rfl) (λ a=>rfl) λ a=>rfl
  simp only[gS0,i1,fM]
 have p1':dA (.many [8,9,10]) (lv (aD fns (d+9)) yO) (xs (aD fns (d+9)) qT) [qq (.d P),qq (.d (.tuple (F.map Ft.d))),qq (.d (.tuple (M.map nD))),qq (.d Wi),qq (.loc 1),qq (.loc 2),qq (.loc 3),qz,qz,qz,qz,qz,qz,qz,qz,qz] [s0,qq [],qq [],qq []]=qq (.nx (eR P F M Wi qz c8 c9 c10 c11 c12 c13 c14),bP s0 s):=p1;have oc':lv (aD fns (d+9)) yI [qq (.d P),qq (.d (.tuple (F.map Ft.d))),qq (.d (.tuple (M.map nD))),qq (.d Wi),qq (.loc 1),qq (.loc 2),qq (.loc 3),qz,c8,c9,c10,c11,c12,c13,c14,qz] [s0,qq (s.R.map tA),qq (s.P.map aG),qq (s.V.map vD)]=qq (aE.map λ o=>aG (pg s.P o),[s0,qq (s.R.map tA),qq (s.P.map aG),qq (s.V.map vD)]):=oc
 rw[aT rfl (d+9) _ [s0] rfl];simp only[gR3,aG0,eA,eR,eF,eW,gK,p1',bP,oc',lD,lC]
end
theorem aQq{α:Type}(g:α->Bool)(l:List α):wN [.list (l.map λ x=>yDs (g x))]=qq (.bool (l.all g)):=by
 simp only[wN,aFM,oB];congr 2;rw[List.all_map];rfl
theorem aFJ:∀ l:List Nat,nX (l.map nD)=qq (l.map λ n=>((n:Nat):Int))
 | []=>rfl
 | a::r=>by
   show(nX (r.map nD)).bind _=_;rw[aFJ r];rfl
theorem aFX:∀ (l:List Nat) (a m:Nat),(m=a\/m∈l)->a<=m->(∀ b∈l,b<=m)->(l.map λ n=>((n:Nat):Int)).foldl max ((a:Nat):Int)=((m:Nat):Int)
 | [],a,m,h,_,_=>by
   rcases h with rfl | h
   ·rfl
   ·cases h
 | b::l,a,m,h,ha,hb=>by
   have hbm:=hb b xAd;have e:max ((a:Nat):Int) ((b:Nat):Int)=((max a b:Nat):Int):=by omega
   show(l.map λ n=>((n:Nat):Int)).foldl max (max ((a:Nat):Int) ((b:Nat):Int))=_
   rw[e];refine aFX l (max a b) m ?_ (by omega) λ c hc=>hb c (xAg _ hc)
   rcases h with rfl | h
   ·left;omega
   ·rcases List.mem_cons.mp h with rfl | h
    ·left;omega
    ·exact .inr h
theorem aQj{l:List Nat}{m:Nat}(h:m∈l)(h2:∀ b∈l,b<=m):mX [.list (l.map nD)]=qq (.int (m:Nat)):=by
 cases l with
 | nil=>cases h
 | cons a l =>
   show(match nX ((a::l).map nD) with | some (i::r)=>qq (yAm (r.foldl max i)) | _=>qz)=_
   rw[aFJ];show qq (yAm ((l.map λ n=>((n:Nat):Int)).foldl max ((a:Nat):Int)))=_
   rw[aFX l a m ((List.mem_cons.mp h).elim .inl .inr) (h2 a xAd) λ b hb=>h2 b (xAg _ hb)]
noncomputable def lV(m:Nat):List Nat:=(yAo 64).filter m.testBit
theorem aCc(d m:Nat)(S:aC):cl fns (d+1) 70 [.d (.int (m:Nat))] S=qq (.d (.list ((lV m).map nD)),S):=by
 have hc:lv (aD fns d) aEp [qq (.d (.int (m:Nat))),qz] S=qq ((lV m).map nD,S):=by
  refine zD (fi:=lv (aD fns d) (.rng1 (.int 64))) (fc:=tv (aD fns d) (.cmp .Eq (.bin .BitAnd (.bin .RShift (.var 0) (.var 1)) (.int 1)) (.int 1))) (fe:=ev (aD fns d) (.var 1)) nD nD m.testBit (yAo 64) ?_ (by rw[zj,yBn];omega) λ i _=>?_
  ·simp only[rY,rA,rB,rC];exact qS (w:=64) rfl (by omega)
  ·refine⟨[qq (.d (.int (m:Nat))),qq (.d (.int (i:Nat)))],rfl,λ S'=>?_,λ _ S'=>rfl⟩
   simp only[gS0,mE,aCk,aS,aDM]
 rw[aT rfl d _ S rfl];simp only[gR1,aE8,hc,cO]
theorem aAq{m i:Nat}(hm:m<2^64):i∈lV m ↔ m.testBit i=true:=by
 unfold lV;rw[List.mem_filter,List.mem_range];refine⟨λ h=>h.2,λ h=>⟨?_,h⟩⟩
 rcases yGh i 64 with c | c
 ·exact c
 ·rw[cW hm c] at h;cases h
theorem aCv(d m:Nat)(hm:m<2^64)(h0:m≠0)(S:aC):cl fns (d+2) 71 [.d (.int (m:Nat))] S=qq (.d (.list ((yAo (bl m)).map nD)),S):=by
 have e1:=aCc d m S;have hb:=tS h0;have b64:=jX hm;have mx:mX [.list ((lV m).map nD)]=qq (.int ((bl m-1:Nat):Int)):=aQj ((aAq hm).mpr (nZ h0)) λ b hb=>by
  have:=aSR ((aAq hm).mp hb);omega
 have ad:((bl m-1:Nat):Int)+1=((bl m:Nat):Int):=by omega
 have lr:oQ (lJ (ev (aD fns (d+1)) (.bin .Add (.blt .mx (.cons (.call 70 (.cons (.var 0) .nil)) .nil)) (.int 1)))) [qq (.d (.int (m:Nat)))] S=qq ((yAo (bl m)).map nD,S):=by
  unfold oQ;rw[qS (w:=bl m) (S1:=S) (by simp only[evs,e1,mx,eD,ad]) (by omega),oB,if_pos (by show((yAo (bl m)).map _).length<=1000000;rw[yAb,yBn];omega)]
  rfl
 rw[aT rfl (d+1) _ S rfl];simp only[fD,aFK,iW,aAe,aDc,aHy,cZ,mW,cO];show((((oQ (lJ (ev (aD fns (d+1)) (.bin .Add (.blt .mx (.cons (.call 70 (.cons (.var 0) .nil)) .nil)) (.int 1)))) [qq (.d (.int (m:Nat)))] S).bind _).bind _).bind _).bind _=_;rw[lr];exact congrArg qq (Prod.ext rfl yAh)
theorem uM(d y:Nat)(L:List Nat)(hL:L.length<=64)(S:aC):cl fns (d+1) 72 [.d (.int (y:Nat)),.d (.list (L.map nD))] S=qq (.d (.bool (L.all y.testBit)),S):=by
 have hc:lv (aD fns d) aEw [qq (.d (.int (y:Nat))),qq (.d (.list (L.map nD))),qz] S=qq (L.map λ i=>yDs (y.testBit i),S):=by
  refine uP (fi:=lv (aD fns d) (.it (.var 1))) (fe:=ev (aD fns d) (.cmp .Eq (.bin .BitAnd (.bin .RShift (.var 0) (.var 2)) (.int 1)) (.int 1))) nD (λ i=>yDs (y.testBit i)) L ?_ (by rw[zj];omega) λ i _=>?_
  ·simp only[gS0,fM]
  ·refine⟨[qq (.d (.int (y:Nat))),qq (.d (.list (L.map nD))),qq (.d (.int (i:Nat)))],rfl,λ S'=>?_⟩
   simp only[gS0,mE,aCk,aS,aDM]
 have al:=aQq y.testBit L;rw[aT rfl d _ S rfl];simp only[gR1,aFD,hc,cO,al]
theorem tP{m y:Nat}:(bI m y==0)=true ↔ ∀ i,m.testBit i=true->y.testBit i=true:=by
 rw[beq_iff_eq];constructor
 ·intro h i hi;have:=kS m y i;rw[h,yBj,hi,yAn] at this;cases c:y.testBit i with
  | true=>rfl
  | false=>rw[c] at this;cases this
 ·intro h;apply xAm;intro i;rw[kS,yBj];cases c:m.testBit i with
  | false=>rfl
  | true=>rw[h i c];rfl
theorem uS{a b:Bool}(h:a=true ↔ b=true):a=b:=by
 cases a<;>cases b<;>first | rfl | (have:=h.mp rfl;cases this) | (have:=h.mpr rfl;cases this)
theorem aF5{m y:Nat}(hm:m<2^64):(lV m).all y.testBit=(bI m y==0):=uS (by
 rw[yHc,tP];exact⟨λ h i hi=>h i ((aAq hm).mpr hi),λ h i hi=>h i ((aAq hm).mp hi)⟩)
theorem aGY{b y:Nat}:(yAo b).all y.testBit=(bI (2^b-1) y==0):=uS (by
 rw[yHc,tP];constructor
 ·intro h i hi;rw[yBf] at hi;exact h i (List.mem_range.mpr (oqT hi))
 ·intro h i hi;refine h i ?_;rw[yBf];exact dqT (List.mem_range.mp hi))
theorem aGk:∀ (b h:Nat),h<b->(yAo b).filter (λ i=>decide (i=h))=[h]
 | b+1,h,hb=>by
   rw[List.range_succ,List.filter_append]
   by_cases c:h=b
   ·subst c;rw[List.filter_eq_nil_iff.mpr λ i hi=>by have:=List.mem_range.mp hi;rw[decide_eq_true_eq];omega]
    simp
   ·rw[aGk b h (by omega)]
    have:decide (b=h)=false:=dqF (by omega)
    simp[this]
theorem aHm{o:Nat}(h0:o≠0):o&&&(o-1)=0 ↔ o=2^(bl o-1):=by
 have hb:=tS h0;have lt:=mQ o;have ge:2^(bl o-1)<=o:=Nat.ge_two_pow_of_testBit (nZ h0);constructor
 ·intro h;apply Decidable.byContradiction;intro c;have p0:=xAf (bl o-1);have e:bl (o-1)=bl o:=by
   have h1:=jX (n:=o-1) (w:=bl o) (by omega)
   rcases yGh (bl (o-1)) (bl o) with c2 | c2
   ·have h2:=mQ (o-1);have h3:=yAq (show 0<2 by decide) (show bl (o-1)<=bl o-1 by omega)
    omega
   ·omega
  have hi:=nZ (n:=o-1) (by omega)
  rw[e] at hi;have:=(zH.mp h) (bl o-1) hi;rw[nZ h0] at this;cases this
 ·intro h;refine zH.mpr λ i hi=>?_
  rw[h,yBf] at hi;rw[h,yBk];have:=oqT hi;exact dqF (by omega)
section
variable {f : Ft}{b : Nat}
theorem aAv(i:Nat):(f.O&&&(2^b-1)).testBit i=(f.O.testBit i&&decide (i<b)):=by
 rw[yAg,yBf]
theorem aGx(h:f.O&&&(2^b-1)=0):(yAo b).filter f.O.testBit=[]:=by
 refine List.filter_eq_nil_iff.mpr λ i hi=>?_
 have:=aAv (f:=f) (b:=b) i;rw[h,yBj,dqT (List.mem_range.mp hi),yBh] at this;rw[<- this];decide
theorem aNy{h:Nat}(e:f.O&&&(2^b-1)=2^h):h<b/\(yAo b).filter f.O.testBit=[h]:=by
 have q:=λ i=>aAv (f:=f) (b:=b) i
 simp only[e,yBk] at q;have hb:h<b:=by
  have:=q h;rw[dqT rfl] at this;have:=(yAu _ _▸this.symm:_/\_).2;exact oqT this
 refine⟨hb,?_⟩;rw[<- aGk b h hb];refine List.filter_congr λ i hi=>?_
 have:=q i;rw[dqT (List.mem_range.mp hi),yBh] at this;rw[<- this];exact decide_eq_decide.mpr ⟨λ z=>z.symm,λ z=>z.symm⟩
theorem aNg{k:Nat}(e:(yAo b).filter f.O.testBit=[k]):f.O&&&(2^b-1)=2^k:=by
 apply xAm;intro i;rw[aAv,yBk];have hm:∀ i,i∈(yAo b).filter f.O.testBit ↔ i=k:=λ i=>by rw[e,yDy]
 refine uS ?_;rw[yAu,decide_eq_true_eq,decide_eq_true_eq];have:=hm i;rw[List.mem_filter,List.mem_range] at this;exact⟨λ z=>(this.mp ⟨z.2,z.1⟩).symm,λ z=>let ⟨a,c⟩:=this.mpr z.symm;⟨c,a⟩⟩
theorem aNl{h:Nat}(e:f.O&&&(2^b-1)=2^h):((yAo b).filter λ i=>!decide (i=h)).all f.N.testBit=(bI (2^b-1) (f.N|||f.O)==0):=by
 have q:=λ i=>aAv (f:=f) (b:=b) i
 simp only[e,yBk] at q;refine uS ?_;rw[yHc,tP];constructor
 ·intro a i hi;rw[yBf] at hi;rw[xAp]
  by_cases c:i=h
  ·have:=q i;rw[dqT c.symm,hi,yBh] at this;rw[<- this,yFq]
  ·rw[a i (List.mem_filter.mpr ⟨List.mem_range.mpr (oqT hi),by rw[dqF c];rfl⟩),Bool.true_or]
 ·intro a i hi;obtain⟨h1,h2⟩:=List.mem_filter.mp hi;have h1:=List.mem_range.mp h1;have c:¬ i=h:=λ z=>by rw[dqT z] at h2;cases h2
  have h3:=a i (by rw[yBf];exact dqT h1)
  have:=q i;rw[dqF (λ z=>c z.symm),dqT h1,yBh] at this
  rw[xAp,<- this,yDr] at h3;exact h3
end
noncomputable def oaI:Option Nat->Int
 | some k=>((k:Nat):Int)
 | none=>-1
theorem aF4(d:Nat)(f:Ft)(m:Nat)(hm:m<2^64)(h0:m≠0)(S:aC):cl fns (d+3) 73 [.d f.d,.d (.int (m:Nat))] S=qq (.d (.int (oaI (eN f (2^bl m-1)))),S):=by
 have lo:=λ S=>aCv d m hm h0 S
 have b64:=jX hm;have f0:=dG f;have f1:=dO f;have us:oT .USub (.int 1)=qq (.int (-1)):=rfl;have hC:lv (aD fns (d+2)) xM [qq (.d f.d),qq (.d (.int (m:Nat))),qz,qz] S=qq (((yAo (bl m)).filter f.O.testBit).map nD,S):=by
  refine zD (fi:=lv (aD fns (d+2)) (.it (.call 71 (.cons (.var 1) .nil)))) (fc:=tv (aD fns (d+2)) (.cmp .Eq (.bin .BitAnd (.bin .RShift (.ix (.var 0) (.int 1)) (.var 3)) (.int 1)) (.int 1))) (fe:=ev (aD fns (d+2)) (.var 3)) nD nD f.O.testBit (yAo (bl m)) ?_ (by rw[zj,yBn];omega) λ i _=>?_
  ·simp only[gS0,lo,fM]
  ·refine⟨[qq (.d f.d),qq (.d (.int (m:Nat))),qz,qq (.d (.int (i:Nat)))],rfl,λ S'=>?_,λ _ S'=>rfl⟩
   simp only[gS0,f1,mE,aCk,aS,aDM]
 have ll:∀ L:List Nat,eT [.list (L.map nD)]=qq (.int (L.length:Nat)):=λ L=>by
  show qq (yAm (((L.map nD).length:Nat):Int))=_;rw[yAb]
 generalize hb:bl m=b at *;rw[aT rfl (d+2) _ S rfl];have two:∀ L:List Nat,L.length≠1->lv (aD fns (d+2)) xM [qq (.d f.d),qq (.d (.int (m:Nat))),qz,qz] S=qq (L.map nD,S)->(fD (xs (aD fns (d+2)) tI) 4 [.d f.d,.d (.int (m:Nat))] S)=qq (.d (.int (-1)),S):=λ L hL hC=>by
  have t1:(((L.length:Nat):Int)==1)=false:=by rw[beq_eq_false_iff_ne];omega
  have lL:=ll L;simp only[gR1,tI,hC,cO,lL,aS,t1,us]
 unfold eN
 by_cases c1:f.O&&&(2^b-1)=0
 ·rw[if_pos (.inl c1)];exact two _ (by rw[aGx c1];decide) hC
 ·by_cases c2:(f.O&&&(2^b-1))&&&((f.O&&&(2^b-1))-1)=0
  ·have e:=(aHm c1).mp c2;obtain⟨hh,eL⟩:=aNy e;have rh:=aNl e;rw[eL] at hC;generalize bl (f.O&&&(2^b-1))-1=h at *;have x0:aO (.list [nD h]) (.int 0)=qq (.int (h:Nat)):=rfl;have hC0:lv (aD fns (d+2)) aEk [qq (.d f.d),qq (.d (.int (m:Nat))),qq (.d (.list [nD h])),qz] S=qq (((yAo b).filter λ i=>!decide (i=h)).map nD,S):=by
    refine zD (fi:=lv (aD fns (d+2)) (.it (.call 71 (.cons (.var 1) .nil)))) (fc:=tv (aD fns (d+2)) (.cmp .NotEq (.var 3) (.ix (.var 2) (.int 0)))) (fe:=ev (aD fns (d+2)) (.var 3)) nD nD (λ i=>!decide (i=h)) (yAo b) ?_ (by rw[zj,yBn];omega) λ i _=>?_
    ·simp only[gS0,lo,fM]
    ·have bd:(((i:Nat):Int)==((h:Nat):Int))=decide (i=h):=by
      rw[zK]
      by_cases c:i=h
      ·subst c;rw[beq_self_eq_true,dqT rfl]
      ·rw[dqF c,beq_eq_false_iff_ne];exact c
     refine⟨[qq (.d f.d),qq (.d (.int (m:Nat))),qq (.d (.list [nD h])),qq (.d (.int (i:Nat)))],rfl,λ S'=>?_,λ _ S'=>rfl⟩
     simp only[gS0,x0,iX,bd]
   have hs:=uM (d+1) f.N ((yAo b).filter λ i=>!decide (i=h)) (xAi (yEj _ _) (by rw[yBn];omega)) S
   rw[rh] at hs;have t1:(((1:Nat):Int)==1)=true:=rfl;have lL:eT [.list [nD h]]=qq (.int ((1:Nat):Int)):=rfl;have hC':lv (aD fns (d+2)) xM [qq (.d f.d),qq (.d (.int (m:Nat))),qz,qz] S=qq ([nD h],S):=hC
   by_cases c3:bI (2^b-1) (f.N|||f.O)=0
   ·rw[if_neg (λ z=>z.elim c1 λ z=>z.elim (λ z=>z c2) λ z=>z c3)]
    rw[jB c3] at hs;simp only[gR1,tI,hC',hC0,cO,lL,aS,t1,f0,hs,x0]
   ·rw[if_pos (.inr (.inr c3))];rw[iO c3] at hs;simp only[gR1,tI,hC',hC0,cO,lL,aS,t1,f0,hs,us]
  ·rw[if_pos (.inr (.inl c2))];refine two _ (λ h1=>c2 ?_) hC
   obtain⟨k,hk⟩:=List.length_eq_one_iff.mp h1;have e:=aNg hk;rw[e];refine zH.mpr λ i hi=>?_
   rw[yBf] at hi;rw[yBk];have:=oqT hi;exact dqF (by omega)
theorem aOL(o:Option Nat):(oaI o==0)=decide (o=qq 0):=by
 cases o with
 | none=>rfl
 | some k =>
   show(((k:Nat):Int)==0)=_;rw[bT]
   by_cases c:k=0
   ·subst c;rfl
   ·rw[iO c,dqF (λ h=>c (Option.some.inj h))]
theorem aF1(d:Nat)(wd:Wd)(f:Ft)(m:Nat)(hm:m<2^64)(h0:m≠0)(S:aC):cl fns (d+4) 74 [.d (.str wd.s),.d f.d,.d (.int (m:Nat))] S=qq (.d (.bool (cI wd f m)),S):=by
 have f0:=dG f;have f1:=dO f;have bl64:(lV m).length<=64:=xAi (yEj _ _) (by rw[yBn];omega)
 have hb:=λ y=>uM (d+2) y (lV m) bl64 S
 have hl:=λ y=>uM (d+2) y (yAo (bl m)) (by rw[yBn];exact jX hm) S
 simp only[aF5 hm,aGY] at hb hl;have bs:=aCc (d+2) m S;have lo:=aCv (d+1) m hm h0 S;have oa:=aF4 d f m hm h0 S;have i1:aJ .Eq (.str wd.s) (.str "and")=qq (.bool (decide (wd=.and))):=bH wd .and;have i2:=aJr wd;have i3:=aDf wd;have i4:aJ .Eq (.str wd.s) (.str "mul")=qq (.bool (decide (wd=.mul))):=bH wd .mul;rw[aT rfl (d+3) _ S rfl]
 by_cases c1:wd=.and
 ·rw[dqT c1] at i1;have e:cI wd f m=(bI m f.O==0):=by rw[c1];rfl
  have a1:=hb f.O;rw[e];simp only[gR1,qO,i1,f1,bs,a1]
 ·rw[dqF c1] at i1
  by_cases c2:wd=.or\/wd=.xor
  ·rw[dqT c2] at i2;have e:cI wd f m=(bI m f.N==0):=by rcases c2 with c2 | c2<;>rw[c2]<;>rfl
   have a1:=hb f.N;rw[e];simp only[gR1,qO,i1,i2,f0,bs,a1]
  ·rw[dqF c2] at i2
   by_cases c3:wd=.add\/wd=.sub
   ·rw[dqT c3] at i3;have e:cI wd f m=(bI (2^bl m-1) f.N==0):=by rcases c3 with c3 | c3<;>rw[c3]<;>rfl
    have a1:=hl f.N;rw[e];simp only[gR1,qO,i1,i2,i3,f0,lo,a1]
   ·rw[dqF c3] at i3
    by_cases c4:wd=.mul
    ·rw[dqT c4] at i4;have e:cI wd f m=decide (eN f (2^bl m-1)=qq 0):=by rw[c4];rfl
     have z:=aOL (eN f (2^bl m-1));rw[e];simp only[gR1,qO,i1,i2,i3,i4,oa,aS,z]
    ·rw[dqF c4] at i4;have e:cI wd f m=false:=by
      revert c1 c2 c3 c4
      cases wd<;>first | (intros;rfl) | (intro a b c d;exact absurd rfl a) | (intro a b c d;exact absurd (.inl rfl) b) | (intro a b c d;exact absurd (.inr rfl) b) | (intro a b c d;exact absurd (.inl rfl) c) | (intro a b c d;exact absurd (.inr rfl) c) | (intro a b c d;exact absurd rfl d)
     rw[e];simp only[gR1,qO,i1,i2,i3,i4]
theorem aU2(a:Wd):aJ .In (.str a.s) (.tuple [.str "xor",.str "sub",.str "less",.str "under",.str "same"])=qq (.bool (tB a||decide (a=.same))):=by cases a<;>rfl
theorem aQ2(d:Nat)(r:Rw)(f:Ft)(m:Nat)(hm:m<2^64)(P:List (Option Nat))(hP:P.length=aI r.wd)(S:aC):cl fns (d+2) 75 [.d r.d,.d f.d,.d (.int (m:Nat)),.d (.bool (decide (P.length=2)&&gL P))] S=qq (.d (aG (kF r.wd f m P)),S):=by
 have f0:=dG f;have f1:=dO f;have r0:=lH r;have bl64:(lV m).length<=64:=xAi (yEj _ _) (by rw[yBn];omega)
 have hb:=uM d (f.N|||f.O) (lV m) bl64 S
 rw[aF5 hm] at hb;have bs:=aCc d m S;have i1:=aU2 r.wd;have i2:aJ .Eq (.str r.wd.s) (.str "same")=qq (.bool (decide (r.wd=.same))):=bH r.wd .same;rw[aT rfl (d+1) _ S rfl];unfold kF
 by_cases c1:bI m (f.N|||f.O)=0
 ·rw[if_pos c1];rw[jB c1] at hb;simp only[gR1,nN,f0,f1,cM,bs,hb]
 ·rw[if_neg c1];rw[iO c1] at hb;cases c2:tB r.wd with
  | true =>
    have h2:=uZ hP (.inl c2);have ns:decide (r.wd=.same)=false:=by
     rw[decide_eq_false_iff_not];intro h;rw[h] at c2;cases c2
    have l2:decide (P.length=2)=true:=by
     rw[hP]
     revert c2
     cases r.wd<;>decide
    rw[c2,Bool.true_or] at i1;rw[ns] at i2;rw[ns,l2,yAn,yAl];cases c3:gL P with
    | true =>
      simp only[gR1,nN,f0,f1,cM,bs,hb,r0,i1,i2,aAs,zY]
    | false =>
      simp only[gR1,nN,f0,f1,cM,bs,hb]
  | false =>
    rw[yAl,if_neg yAw];cases c3:decide (r.wd=.same) with
    | true =>
      have l2:decide (P.length=2)=true:=by
       rw[hP]
       revert c3
       cases r.wd<;>decide
      rw[c2,c3,yFq] at i1;rw[c3] at i2;rw[l2,yAn];cases c4:gL P with
      | true =>
        simp only[gR1,nN,f0,f1,cM,bs,hb,r0,i1,i2,aAs,zY]
      | false =>
        simp only[gR1,nN,f0,f1,cM,bs,hb]
    | false =>
      rw[c2,c3,yDr] at i1;rw[yAl,if_neg yAw];cases c5:(decide (P.length=2)&&gL P) with
      | true =>
        simp only[gR1,nN,f0,f1,cM,bs,hb,r0,i1]
      | false =>
        simp only[gR1,nN,f0,f1,cM,bs,hb]
theorem aQL(a:Wd):aJ .NotEq (.str a.s) (.str "sub")=qq (.bool !decide (a=.sub)):=by cases a<;>kernel_rfl
noncomputable def kO(r:Rw)(m:Nat)(ws:List Nat)(Fs:List Ft)(P:List (Option Nat)):Option Nat:=(fK r m ws Fs P).bind (pg P)
theorem aDh{Fs:List Ft}{i:Nat}(h:i<Fs.length):aO (.list (Fs.map Ft.d)) (.int (i:Nat))=qq (f0 Fs i).d:=jS (by rw[xAb,pN h];rfl)
theorem aDJ{Fs:List Ft}(h:0<Fs.length):aO (.list (Fs.map Ft.d)) (.int 0)=qq (f0 Fs 0).d:=aDh h
theorem aDH{Fs:List Ft}(h:1<Fs.length):aO (.list (Fs.map Ft.d)) (.int 1)=qq (f0 Fs 1).d:=aDh h
theorem aNL(d:Nat)(r:Rw)(m:Nat)(hm:m<2^64)(h0:m≠0)(ws:List Nat)(Fs:List Ft)(P:List (Option Nat))(ok:RwOk r ws)(hi:r.wd≠.in)(hn:r.wd≠.num)(lF:Fs.length=aI r.wd)(hP:P.length=aI r.wd)(S:aC):cl fns (d+5) 76 [.d r.d,.d (.int ((g0 ws 0:Nat):Int)),.d (.list (Fs.map Ft.d)),.d (.int (m:Nat)),.d (.tuple (P.map aG))] S=qq (.d (aG (kO r m ws Fs P)),S):=by
 have c1:0<aI r.wd:=by
  revert hi hn
  cases r.wd<;>decide
 have r0:=lH r;have r1:=eK r;have p0:=wA (P:=P) (by omega)
 have F0:=aDJ (Fs:=Fs) (by omega)
 have i1:=aJo r.wd;have i2:aJ .Eq (.str r.wd.s) (.str "pick")=qq (.bool (decide (r.wd=.pick))):=bH r.wd .pick;have i3:aJ .In (.str r.wd.s) (.tuple [.str "left",.str "right",.str "slide"])=qq (.bool (nJ r.wd)):=tY r.wd;have i4:=aI5 r.wd;have i6:=aQL r.wd;have lP:eT [.tuple (P.map aG)]=qq (.int (P.length:Nat)):=by
  show qq (yAm (((P.map aG).length:Nat):Int))=_;rw[yAb]
 have q:aJ .Eq (aG (pg P 0)) (aG (pg P 1))=qq (.bool (gL P)):=pP (pg P 0) (pg P 1);have te0:=aF1 d r.wd (f0 Fs 0) m hm h0 S;have te1:=aF1 d r.wd (f0 Fs 1) m hm h0 S;rw[aT rfl (d+4) _ S rfl];unfold kO fK;cases a2:decide (r.wd=.pick) with
 | true =>
   have e3:aI r.wd=3:=by rw[oqT a2];rfl
   have n1:kK r.wd=false:=by rw[oqT a2];rfl
   have p1:=qD (P:=P) (by omega)
   have p2:=aKl (P:=P) (by omega)
   have q2:=pP (pg P 1) (pg P 2);have g0':=dG (f0 Fs 0);have g1':=dO (f0 Fs 0);have x0:aO (.list [.none,aG (pg P 2)]) (.int 0)=qq .none:=rfl;have x1:aO (.list [.none,aG (pg P 2)]) (.int 1)=qq (aG (pg P 2)):=rfl;have d0:pZ [.bool false]=qq (.int 0):=rfl;have d1:pZ [.bool true]=qq (.int 1):=rfl;rw[a2] at i2;rw[n1,yAl];show _=qq (W.d (aG ((nI (f0 Fs 0) P).bind (pg P))),S);unfold nI
   by_cases c2:pg P 1=pg P 2
   ·rw[if_pos (.inl c2)];rw[dqT c2] at q2;simp only[gR1,eY,r0,i2,p1,p2,q2]
   ·rw[dqF c2] at q2
    by_cases c3:(f0 Fs 0).O=1
    ·have o1:=aAU c3;rw[if_pos (.inr c3)];simp only[gR1,eY,r0,i2,p1,p2,q2,F0,g1',aS,iH,o1]
    ·have o1:=aAF c3;rw[if_neg (λ h=>h.elim c2 c3)]
     by_cases c4:(f0 Fs 0).N=1
     ·have o2:=aAU c4;rw[if_pos c4];simp only[gR1,eY,r0,i2,p1,p2,q2,F0,g1',g0',aS,iH,o1,o2,cO,d1,x1]
     ·have o2:=aAF c4;rw[if_neg c4];simp only[gR1,eY,r0,i2,p1,p2,q2,F0,g1',g0',aS,iH,o1,o2,cO,d0,x0]
 | false =>
   rw[a2] at i2;cases a3:nJ r.wd with
   | true =>
     have n1:kK r.wd=false:=by revert a3;cases r.wd<;>decide
     have n4:oZ r.wd=false:=by revert a3;cases r.wd<;>decide
     have e1:aI r.wd=1:=by revert a3;cases r.wd<;>decide
     have lE:(((P.length:Nat):Int)==2)=false:=by rw[beq_eq_false_iff_ne];omega
     have r3:=aJt (aGS ok a3);rw[a3] at i3;rw[n4] at i4;rw[n1,yAl];cases a4:jC r==0 with
     | true =>
       simp only[gR1,eY,r0,i2,i3,r3,aS,bT,a4,p0]
     | false =>
       simp only[gR1,eY,r0,i2,i3,r3,aS,bT,a4,i4,lP,lE]
   | false =>
     rw[a3] at i3;cases a4:oZ r.wd with
     | true =>
       have n1:kK r.wd=false:=by revert a4;cases r.wd<;>decide
       have e1:aI r.wd=1:=by revert a4;cases r.wd<;>decide
       have lE:(((P.length:Nat):Int)==2)=false:=by rw[beq_eq_false_iff_ne];omega
       have sw:(((r.w:Nat):Int)==((g0 ws 0:Nat):Int))=(g0 ws 0==r.w):=by
        rw[zK];exact uS ⟨λ h=>beq_iff_eq.mpr (beq_iff_eq.mp h).symm,λ h=>beq_iff_eq.mpr (beq_iff_eq.mp h).symm⟩
       rw[a4] at i4;rw[n1,yAl];cases a5:g0 ws 0==r.w with
       | true =>
         rw[a5] at sw;simp only[gR1,eY,r0,i2,i3,i4,r1,aS,sw,p0]
       | false =>
         rw[a5] at sw;simp only[gR1,eY,r0,i2,i3,i4,r1,aS,sw,lP,lE]
     | false =>
       rw[a4] at i4
       by_cases c6:P.length=2
       ·have lE:(((P.length:Nat):Int)==2)=true:=by rw[beq_iff_eq];omega
        have p1:=qD (P:=P) (by omega)
        have F1:=aDH (Fs:=Fs) (by omega)
        have ne:(!decide (r.wd=.sub)&&cI r.wd (f0 Fs 0) m)=(iR r.wd&&cI r.wd (f0 Fs 0) m):=by
         rw[hP] at c6
         revert c6
         cases r.wd<;>first | (intro _;rfl) | (intro c;revert c;decide)
        rw[dqT c6,yAn];cases a1:kK r.wd with
        | true =>
          rw[a1] at i1;rw[yAn];cases a5:gL P with
          | true =>
            rw[a5] at q;simp only[gR1,eY,r0,i2,i3,i4,lP,aS,lE,i1,p0,p1,q]
          | false =>
            rw[a5] at q;cases a6:cI r.wd (f0 Fs 1) m with
            | true =>
              rw[a6] at te1;simp only[gR1,eY,r0,i2,i3,i4,lP,aS,lE,i1,p0,p1,q,F1,te1]
            | false =>
              rw[a6] at te1;rw[<- ne];cases a7:decide (r.wd=.sub) with
              | true =>
                rw[a7] at i6;simp only[gR1,eY,r0,i2,i3,i4,lP,aS,lE,i1,p0,p1,q,F1,te1,i6,yDt]
              | false =>
                rw[a7] at i6;cases a8:cI r.wd (f0 Fs 0) m with
                | true =>
                  rw[a8] at te0;simp only[gR1,eY,r0,i2,i3,i4,lP,aS,lE,i1,p0,p1,q,F1,te1,i6,yDj,F0,te0]
                | false =>
                  rw[a8] at te0;simp only[gR1,eY,r0,i2,i3,i4,lP,aS,lE,i1,p0,p1,q,F1,te1,i6,yDj,F0,te0]
        | false =>
          rw[a1] at i1;rw[yAl];cases a6:cI r.wd (f0 Fs 1) m with
          | true =>
            rw[a6] at te1;simp only[gR1,eY,r0,i2,i3,i4,lP,aS,lE,i1,p0,F1,te1]
          | false =>
            rw[a6] at te1;rw[<- ne];cases a7:decide (r.wd=.sub) with
            | true =>
              rw[a7] at i6;simp only[gR1,eY,r0,i2,i3,i4,lP,aS,lE,i1,F1,te1,i6,yDt]
            | false =>
              rw[a7] at i6;cases a8:cI r.wd (f0 Fs 0) m with
              | true =>
                rw[a8] at te0;simp only[gR1,eY,r0,i2,i3,i4,lP,aS,lE,i1,p1,F1,te1,i6,yDj,F0,te0]
              | false =>
                rw[a8] at te0;simp only[gR1,eY,r0,i2,i3,i4,lP,aS,lE,i1,F1,te1,i6,yDj,F0,te0]
       ·have lE:(((P.length:Nat):Int)==2)=false:=by rw[beq_eq_false_iff_ne];omega
        have n1:kK r.wd=false:=by
         rw[hP] at c6
         revert c6
         cases r.wd<;>decide
        have n5:iR r.wd=false:=by
         rw[hP] at c6
         revert c6
         cases r.wd<;>decide
        rw[n1,n5,dqF c6,yAl,yAl,yAl];simp only[gR1,eY,r0,i2,i3,i4,lP,aS,lE]
noncomputable abbrev eL(R G:D)(m:Nat)(Q:D)(c4 c5:Option W):aY:=[qq (.d R),qq (.d G),qq (.d (.int (m:Nat))),qq (.d Q),c4,c5]
theorem aG2(d:Nat)(r:Rw)(m:Nat)(hm:m<2^64)(h0:m≠0)(i j:Nat)(Fs:List Ft)(P:List (Option Nat))(hi:i<P.length)(hj:j<Fs.length)(hij:(1:Int)-((i:Nat):Int)=((j:Nat):Int))(c5:Option W)(S:aC):xs (aD fns (d+3)) kQ (eL r.d (.list (Fs.map Ft.d)) m (.tuple (P.map aG)) (qq (.d (.int (i:Nat)))) c5) S=(match eN (f0 Fs j) (2^bl m-1) with
 | some k=>qq (.rt (.d (tA (nM r (pg P i) k))),S)
 | none=>qq (.nx (eL r.d (.list (Fs.map Ft.d)) m (.tuple (P.map aG)) (qq (.d (.int (i:Nat)))) (qq (.d (.int (-1))))),S)):=by
 have e1:=aDh hj;have e2:=sD hi;have r1:=eK r;have oa:=aF4 d (f0 Fs j) m hm h0 S;cases c:eN (f0 Fs j) (2^bl m-1) with
 | none =>
   rw[c] at oa;have oa':cl fns (d+3) 73 [.d (f0 Fs j).d,.d (.int (m:Nat))] S=qq (.d (.int (-1)),S):=oa;have ge:decide ((-1:Int) ≥ 0)=false:=rfl;simp only[gS2,kQ,eL,cH,hij,e1,oa',aAn,ge]
 | some k =>
   rw[c] at oa;have oa':cl fns (d+3) 73 [.d (f0 Fs j).d,.d (.int (m:Nat))] S=qq (.d (.int (k:Nat)),S):=oa;have ge:decide (((k:Nat):Int) ≥ 0)=true:=dqT (yEz k);simp only[gS2,kQ,eL,aJu,cH,hij,e1,oa',aAn,ge,r1,e2]
theorem aMN(d:Nat)(r:Rw)(m:Nat)(hm:m<2^64)(h0:m≠0)(Fs:List Ft)(P:List (Option Nat))(lF:Fs.length=aI r.wd)(hP:P.length=aI r.wd)(S:aC):cl fns (d+4) 77 [.d r.d,.d (.list (Fs.map Ft.d)),.d (.int (m:Nat)),.d (.tuple (P.map aG))] S=qq (.d (iD (jD r m Fs P)),S):=by
 have r0:=lH r;have r1:=eK r;have i1:aJ .Eq (.str r.wd.s) (.str "mul")=qq (.bool (decide (r.wd=.mul))):=bH r.wd .mul;have i2:aJ .Eq (.str r.wd.s) (.str "add")=qq (.bool (decide (r.wd=.add))):=bH r.wd .add;have i3:aJ .Eq (.str r.wd.s) (.str "sub")=qq (.bool (decide (r.wd=.sub))):=bH r.wd .sub;have hl:=λ y=>uM (d+2) y (yAo (bl m)) (by rw[yBn];exact jX hm) S
 simp only[aGY] at hl;have lo:=aCv (d+1) m hm h0 S;rw[aT rfl (d+3) _ S rfl];unfold jD
 by_cases c1:r.wd=.mul
 ·have h2:aI r.wd=2:=by rw[c1];rfl
  have n2:decide (r.wd=.add)=false:=by rw[c1];rfl
  have n3:decide (r.wd=.sub)=false:=by rw[c1];rfl
  have t1:=aG2 d r m hm h0 0 1 Fs P (by omega) (by omega) rfl qz S
  have t2:=aG2 d r m hm h0 1 0 Fs P (by omega) (by omega) rfl (qq (.d (.int (-1)))) S
  rw[if_pos c1];rw[dqT c1] at i1;rw[n2] at i2;rw[n3] at i3;obtain⟨R,hR⟩:∃ R:D,R=r.d:=⟨_,rfl⟩;obtain⟨G,hG⟩:∃ G:D,G=.list (Fs.map Ft.d):=⟨_,rfl⟩;obtain⟨Q,hQ⟩:∃ Q:D,Q=.tuple (P.map aG):=⟨_,rfl⟩;rw[<- hR,<- hG,<- hQ] at t1 t2 ⊢;rw[<- hR] at r0;have it:∀ e,lv (aD fns (d+3)) nO e S=qq ([.int ((0:Nat):Int),.int ((1:Nat):Int)],S):=λ e=>rfl
  have q1:Tg.put (.one 4) (.int ((0:Nat):Int)) (eL R G m Q qz qz)=qq (eL R G m Q (qq (.d (.int ((0:Nat):Int)))) qz):=rfl;have q2:Tg.put (.one 4) (.int ((1:Nat):Int)) (eL R G m Q (qq (.d (.int ((0:Nat):Int)))) (qq (.d (.int (-1)))))=qq (eL R G m Q (qq (.d (.int ((1:Nat):Int)))) (qq (.d (.int (-1))))):=rfl;unfold wX;cases k1:eN (f0 Fs 1) (2^bl m-1) with
  | some k =>
    rw[k1] at t1;have lp:dA (.one 4) (lv (aD fns (d+3)) nO) (xs (aD fns (d+3)) kQ) [qq (.d R),qq (.d G),qq (.d (.int (m:Nat))),qq (.d Q),qz,qz] S=qq (.rt (.d (tA (nM r (pg P 0) k))),S):=by
     show dA (.one 4) (lv (aD fns (d+3)) nO) (xs (aD fns (d+3)) kQ) (eL R G m Q qz qz) S=_;simp only[dA,it,oB,fU,q1,t1]
    simp only[gR1,mD,r0,i1,lp]
  | none =>
    rw[k1] at t1;cases k2:eN (f0 Fs 0) (2^bl m-1) with
    | some k =>
      rw[k2] at t2;have lp:dA (.one 4) (lv (aD fns (d+3)) nO) (xs (aD fns (d+3)) kQ) [qq (.d R),qq (.d G),qq (.d (.int (m:Nat))),qq (.d Q),qz,qz] S=qq (.rt (.d (tA (nM r (pg P 1) k))),S):=by
       show dA (.one 4) (lv (aD fns (d+3)) nO) (xs (aD fns (d+3)) kQ) (eL R G m Q qz qz) S=_;simp only[dA,it,oB,fU,q1,t1,q2,t2]
      simp only[gR1,mD,r0,i1,lp]
    | none =>
      rw[k2] at t2;have lp:dA (.one 4) (lv (aD fns (d+3)) nO) (xs (aD fns (d+3)) kQ) [qq (.d R),qq (.d G),qq (.d (.int (m:Nat))),qq (.d Q),qz,qz] S=qq (.nx (eL R G m Q (qq (.d (.int ((1:Nat):Int)))) (qq (.d (.int (-1))))),S):=by
       show dA (.one 4) (lv (aD fns (d+3)) nO) (xs (aD fns (d+3)) kQ) (eL R G m Q qz qz) S=_;simp only[dA,it,oB,fU,q1,t1,q2,t2]
      simp only[gR2,mD,eL,r0,i1,lp,i2,i3]
 ·rw[if_neg c1];rw[dqF c1] at i1
  by_cases c2:r.wd=.add
  ·have h2:aI r.wd=2:=by rw[c2];rfl
   have F0:=aDJ (Fs:=Fs) (by omega)
   have F1:=aDH (Fs:=Fs) (by omega)
   have g0':=dG (f0 Fs 0);have g1:=dG (f0 Fs 1);have ct:bR .Add (.tuple [.str "or",.int (r.w:Nat)]) (.tuple (P.map aG))=qq (tA (.s .or :: .n r.w::P.map eV)):=zV .or r.w P (by omega)
   have n3:¬ r.wd=.sub:=by rw[c2];decide
   have a:=hl ((f0 Fs 0).N|||(f0 Fs 1).N)
   rw[dqT c2] at i2;rw[dqF n3] at i3
   by_cases c3:bI (2^bl m-1) ((f0 Fs 0).N|||(f0 Fs 1).N)=0
   ·rw[if_pos ⟨c2,c3⟩];rw[jB c3] at a;simp only[gR1,mD,r0,r1,i1,i2,F0,F1,g0',g1,cM,lo,a,ct]
   ·rw[if_neg (λ h=>c3 h.2),if_neg (λ h=>n3 h.1)]
    rw[iO c3] at a;simp only[gR1,mD,r0,i1,i2,i3,F0,F1,g0',g1,cM,lo,a]
  ·rw[dqF c2] at i2;rw[if_neg (λ h=>c2 h.1)]
   by_cases c4:r.wd=.sub
   ·have h2:aI r.wd=2:=by rw[c4];rfl
    have F0:=aDJ (Fs:=Fs) (by omega)
    have F1:=aDH (Fs:=Fs) (by omega)
    have g0':=dO (f0 Fs 0);have g1:=dG (f0 Fs 1);have ct:bR .Add (.tuple [.str "xor",.int (r.w:Nat)]) (.tuple (P.map aG))=qq (tA (.s .xor :: .n r.w::P.map eV)):=zV .xor r.w P (by omega)
    have a:=hl ((f0 Fs 0).O|||(f0 Fs 1).N)
    have oc:(f0 Fs 1).N|||(f0 Fs 0).O=(f0 Fs 0).O|||(f0 Fs 1).N:=Nat.or_comm _ _
    rw[oc];rw[dqT c4] at i3
    by_cases c3:bI (2^bl m-1) ((f0 Fs 0).O|||(f0 Fs 1).N)=0
    ·rw[if_pos ⟨c4,c3⟩];rw[jB c3] at a;simp only[gR1,mD,r0,r1,i1,i2,i3,F0,F1,g0',g1,cM,lo,a,ct]
    ·rw[if_neg (λ h=>c3 h.2)]
     rw[iO c3] at a;simp only[gR1,mD,r0,i1,i2,i3,F0,F1,g0',g1,cM,lo,a]
   ·rw[dqF c4] at i3;rw[if_neg (λ h=>c4 h.1)]
    simp only[gR1,mD,r0,i1,i2,i3]
noncomputable def whD(t:Tr):D:=match t.md with
 | some l=>tA l
 | none=>aG t.pl
section
variable {rs : List Rw}{F : List Ft}
theorem aL3(d:Nat)(p:Prg rs)(hF:F.length=rs.length){j:Nat}{r:Rw}(hr:rs[j]? = qq r)(m:Nat)(hm:m<2^64)(P:List (Option Nat))(hP:P.length=aI r.wd)(nn:∀ i,m≠0->r.wd≠.in->r.wd≠.num->fK r m (bB r (rs.map (·.w))) (bK r F) P=qq i->pg P i≠qz)(o:D)(S:aC):cl fns (d+6) 78 [.d (.tuple [.tuple (rs.map Rw.d),o]),.d (.int (j:Nat)),.d (.tuple (F.map Ft.d)),.d (.int (m:Nat)),.d (.tuple (P.map aG))] S=qq (.d (.tuple [whD (gW r (f0 F j) m (bB r (rs.map (·.w))) (bK r F) P),vD (gW r (f0 F j) m (bB r (rs.map (·.w))) (bK r F) P).v]),S):=by
 have hj:j<rs.length:=(gIm hr).1;obtain⟨f1,f2⟩:=p.fit j r hr;have la:=vN p hr;have ol:=aCI r;have lw:(bB r (rs.map (·.w))).length=aI r.wd:=by unfold bB;rw[yAb];exact la
 have lF:(bK r F).length=aI r.wd:=by unfold bK;rw[yAb];exact la
 have i0:aO (.tuple [.tuple (rs.map Rw.d),o]) (.int 0)=qq (.tuple (rs.map Rw.d)):=rfl;have rj:aO (.tuple (rs.map Rw.d)) (.int (j:Nat))=qq r.d:=gQ (by rw[xAb,hr];rfl)
 have r0:=lH r;have r1:=eK r;have i1:aJ .Eq (.str r.wd.s) (.str "in")=qq (.bool (decide (r.wd=.in))):=bH r.wd .in;have i2:aJ .Eq (.str r.wd.s) (.str "num")=qq (.bool (decide (r.wd=.num))):=bH r.wd .num;have rd:=aJs r;have Fj:=sG (Fs:=F) (i:=j) (by omega)
 have op:cl fns (d+5) 7 [.d r.d] S=qq (.d (.tuple ((lZ r).map nD)),S):=pE (d+4) r S;obtain⟨X,hX⟩:∃ X:D,X=.tuple [.tuple (rs.map Rw.d),o]:=⟨_,rfl⟩;rw[<- hX] at i0 ⊢;have lP:eT [.tuple (P.map aG)]=qq (.int (P.length:Nat)):=by
  show qq (yAm (((P.map aG).length:Nat):Int))=_;rw[yAb]
 obtain⟨G,hG⟩:∃ G:D,G=.tuple (F.map Ft.d):=⟨_,rfl⟩;have hc:∀ c7,lv (aD fns (d+5)) aEj [qq (.d X),qq (.d (.int (j:Nat))),qq (.d (.tuple (F.map Ft.d))),qq (.d (.int (m:Nat))),qq (.d (.tuple (P.map aG))),qq (.d r.d),qq (.d (.tuple ((lZ r).map nD))),c7,qz,qz,qz,qz] S=qq ((bK r F).map Ft.d,S):=λ c7=>by
  rw[bK,yBs];refine uP (fi:=lv (aD fns (d+5)) (.it (.var 6))) (fe:=ev (aD fns (d+5)) (.ix (.var 2) (.var 11))) nD (Ft.d ∘ f0 F) (r.args.take (aI r.wd)) ?_ (by rw[zj];have:(r.args.take (aI r.wd)).length<=3:=ol;omega) λ a ha=>?_
  ·simp only[gS0,fM]
  ·refine⟨_,rfl,λ S'=>?_⟩
   have hx:aO (.tuple (F.map Ft.d)) (nD a)=qq (f0 F a).d:=sG (by have:=f2 a ha;omega)
   simp only[gS0,clr,yBv,yDx,hx]
 have hc':=hc qz;rw[aT rfl (d+5) _ S rfl]
 by_cases c1:r.wd=.in
 ·have e:gW r (f0 F j) m (bB r (rs.map (·.w))) (bK r F) P=⟨.kept,qq (lX r),qz⟩:=by unfold gW;rw[if_pos c1]
  rw[e];rw[dqT c1] at i1;show _=qq (W.d (.tuple [tA (lX r),.str "kept"]),S);rw[rd];simp only[gR1,iG,i0,rj,r0,i1]
 ·rw[dqF c1] at i1
  by_cases c2:m=0
  ·have e:gW r (f0 F j) m (bB r (rs.map (·.w))) (bK r F) P=⟨.gone,qz,qz⟩:=by unfold gW;rw[if_neg c1,if_pos c2]
   have t0:=jB c2;have gt:decide (((m:Nat):Int)>0)=false:=dqF (by omega)
   rw[e];cases c3:decide (r.wd=.num) with
   | true =>
     rw[c3] at i2;simp only[gR1,iG,i0,rj,r0,i1,i2,jP,gt,aS,bT,t0]
   | false =>
     rw[c3] at i2;simp only[gR1,iG,i0,rj,r0,i1,i2,aS,bT,t0]
  ·have t0:=iO c2;have gt:decide (((m:Nat):Int)>0)=true:=dqT (by omega)
   by_cases c4:r.wd=.num
   ·have e:gW r (f0 F j) m (bB r (rs.map (·.w))) (bK r F) P=⟨.kept,qq (lX r),qz⟩:=by unfold gW;rw[if_neg c1,if_neg c2,if_pos c4]
    rw[e];rw[dqT c4] at i2;show _=qq (W.d (.tuple [tA (lX r),.str "kept"]),S);rw[rd];simp only[gR1,iG,i0,rj,r0,i1,i2,jP,gt]
   ·rw[dqF c4] at i2;have pos:0<aI r.wd:=by revert c1 c4;cases r.wd<;>decide
    have c3:aI r.wd<=3:=by cases r.wd<;>decide
    have kn:=aQ2 (d+3) r (f0 F j) m hm P hP S;have si:=aNL d r m hm c2 (bB r (rs.map (·.w))) (bK r F) P f1 c1 c4 lF hP S;have lo:=aMN (d+1) r m hm c2 (bK r F) P lF hP S;obtain⟨a,b,h1,h2,h3,h4⟩:=aIL r P (by omega) (aCh f1)
    have ad:(2:Int)+((P.length:Nat):Int)=((2+P.length:Nat):Int):=by omega
    have p0:=wA (P:=P) (by omega)
    have q:aJ .Eq (aG (pg P 0)) (aG (pg P 1))=qq (.bool (gL P)):=pP (pg P 0) (pg P 1);obtain⟨a0,ha0⟩:∃ a0,(r.args.take (aI r.wd))[0]? = qq a0:=⟨_,yAa (by omega)⟩
    have a0l:=f2 a0 (xAl ha0);have hra:rs[a0]? = qq rs[a0]:=yAa (by omega)
    have x0:aO (.tuple ((lZ r).map nD)) (.int 0)=qq (.int (a0:Nat)):=gQ (k:=0) (by
     show(((r.args.take (aI r.wd)).map nD)[0]?)=_;rw[xAb,ha0];rfl)
    have xr:aO (.tuple (rs.map Rw.d)) (.int (a0:Nat))=qq rs[a0].d:=gQ (by rw[xAb,hra];rfl)
    have xw:=eK rs[a0];have ew:rs[a0].w=g0 (bB r (rs.map (·.w))) 0:=by
     unfold bB;show _=((r.args.take (aI r.wd)).map (g0 (rs.map (·.w)))).getD 0 0;rw[xAh,xAb,ha0];exact(vV hra).symm
    rw[ew] at xw;have is1:=aAI (kF r.wd (f0 F j) m P);have is2:=aAI (kO r m (bB r (rs.map (·.w))) (bK r F) P);have is3:=aJF (jD r m (bK r F) P);have rdd:r.d=.tuple (.str r.wd.s::nD r.w::r.args.map nD):=rfl;unfold gW;rw[if_neg c1,if_neg c2,if_neg c4]
    by_cases c6:P.length=2
    ·have lE:(((P.length:Nat):Int)==2)=true:=by rw[beq_iff_eq];omega
     have p1:=qD (P:=P) (by omega)
     rw[dqT c6,yAn] at kn;cases k1:kF r.wd (f0 F j) m P with
     | some n =>
       rw[k1] at kn is1;have is1:aJ .IsNot (aG (qq n)) .none=qq (.bool true):=is1;simp only[gR1,iG,i0,rj,r0,i1,i2,aS,bT,t0,op,hc',cO,Fj,lP,lE,p0,p1,q,kn,is1,r1]
     | none =>
       rw[k1] at kn is1;have is1:aJ .IsNot (aG qz) .none=qq (.bool false):=is1;cases k2:fK r m (bB r (rs.map (·.w))) (bK r F) P with
       | some i =>
         have so:kO r m (bB r (rs.map (·.w))) (bK r F) P=pg P i:=by unfold kO;rw[k2];rfl
         rw[so] at si is2;have ni:=nn i c2 c1 c4 k2;obtain⟨v,hv⟩:∃ v,pg P i=qq v:=Option.ne_none_iff_exists'.mp ni;rw[hv] at si is2;have is2:aJ .IsNot (aG (qq v)) .none=qq (.bool true):=is2;show _=qq (W.d (.tuple [aG (pg P i),.str "passed"]),S);rw[hv];simp only[gR1,iG,i0,rj,r0,i1,i2,aS,bT,t0,op,hc',cO,Fj,lP,lE,p0,p1,q,kn,is1,x0,xr,xw,si,is2]
       | none =>
         have so:kO r m (bB r (rs.map (·.w))) (bK r F) P=qz:=by unfold kO;rw[k2];rfl
         rw[so] at si is2;have is2:aJ .IsNot (aG qz) .none=qq (.bool false):=is2;cases k3:jD r m (bK r F) P with
         | some l =>
           rw[k3] at lo is3;have is3:aJ .IsNot (iD (qq l)) .none=qq (.bool true):=is3;simp only[gR1,iG,i0,rj,r0,i1,i2,aS,bT,t0,op,hc',cO,Fj,lP,lE,p0,p1,q,kn,is1,x0,xr,xw,si,is2,lo,is3]
         | none =>
           rw[k3] at lo is3;have is3:aJ .IsNot (iD qz) .none=qq (.bool false):=is3;rw[rdd] at rj r0 op hc' kn si lo;simp only[gR1,iG,i0,rj,r0,i1,i2,aS,bT,t0,op,hc',cO,Fj,lP,lE,p0,p1,q,kn,is1,x0,xr,xw,si,is2,lo,is3,kE,eD,ad,h1,h2,h3,h4]
    ·have lE:(((P.length:Nat):Int)==2)=false:=by rw[beq_eq_false_iff_ne];omega
     rw[dqF c6,yAl] at kn;cases k1:kF r.wd (f0 F j) m P with
     | some n =>
       rw[k1] at kn is1;have is1:aJ .IsNot (aG (qq n)) .none=qq (.bool true):=is1;simp only[gR1,iG,i0,rj,r0,i1,i2,aS,bT,t0,op,hc',cO,Fj,lP,lE,p0,kn,is1,r1]
     | none =>
       rw[k1] at kn is1;have is1:aJ .IsNot (aG qz) .none=qq (.bool false):=is1;cases k2:fK r m (bB r (rs.map (·.w))) (bK r F) P with
       | some i =>
         have so:kO r m (bB r (rs.map (·.w))) (bK r F) P=pg P i:=by unfold kO;rw[k2];rfl
         rw[so] at si is2;have ni:=nn i c2 c1 c4 k2;obtain⟨v,hv⟩:∃ v,pg P i=qq v:=Option.ne_none_iff_exists'.mp ni;rw[hv] at si is2;have is2:aJ .IsNot (aG (qq v)) .none=qq (.bool true):=is2;show _=qq (W.d (.tuple [aG (pg P i),.str "passed"]),S);rw[hv];simp only[gR1,iG,i0,rj,r0,i1,i2,aS,bT,t0,op,hc',cO,Fj,lP,lE,p0,kn,is1,x0,xr,xw,si,is2]
       | none =>
         have so:kO r m (bB r (rs.map (·.w))) (bK r F) P=qz:=by unfold kO;rw[k2];rfl
         rw[so] at si is2;have is2:aJ .IsNot (aG qz) .none=qq (.bool false):=is2;cases k3:jD r m (bK r F) P with
         | some l =>
           rw[k3] at lo is3;have is3:aJ .IsNot (iD (qq l)) .none=qq (.bool true):=is3;simp only[gR1,iG,i0,rj,r0,i1,i2,aS,bT,t0,op,hc',cO,Fj,lP,lE,p0,kn,is1,x0,xr,xw,si,is2,lo,is3]
         | none =>
           rw[k3] at lo is3;have is3:aJ .IsNot (iD qz) .none=qq (.bool false):=is3;rw[rdd] at rj r0 op hc' kn si lo;simp only[gR1,iG,i0,rj,r0,i1,i2,aS,bT,t0,op,hc',cO,Fj,lP,lE,p0,kn,is1,x0,xr,xw,si,is2,lo,is3,kE,eD,ad,h1,h2,h3,h4]
end
theorem aAm{n t:Nat}(h:n.testBit t=true):n≠0:=λ z=>by rw[z,yBj] at h;cases h
theorem uU{m:Nat}(h:m≠0):2^bl m-1≠0:=by
 have:=tS h;have:=yAq (show 0<2 by decide) this
 omega
theorem aFT{m w:Nat}(h:m<2^w):hU m w=m:=by
 unfold hU;rw[if_pos (Nat.div_eq_of_lt h)]
theorem aGR{f:Ft}{m:Nat}(h:eN f m=qq 0):f.O.testBit 0=true:=by
 unfold eN at h
 split at h
 ·cases h
 ·rename_i c;have c1:f.O&&&m≠0:=λ z=>c (.inl z)
  have c2:(f.O&&&m)&&&((f.O&&&m)-1)=0:=Decidable.byContradiction λ z=>c (.inr (.inl z))
  have e:=(aHm c1).mp c2;have h:bl (f.O&&&m)-1=0:=Option.some.inj h;rw[h] at e;have:(f.O&&&m).testBit 0=true:=by rw[e];rfl
  rw[yAg,yAu] at this;exact this.1
section
variable {wd : Wd}{w kk m : Nat}{ws : List Nat}{fs : List Fc}{f g : Ft}
def Dj(f:Ft):Prop:=∀ t,f.O.testBit t=true->f.N.testBit t=false
theorem aHN{f:Ft}(hd:Dj f)(h:f.O.testBit 0=true):lr f.N=0:=by
 apply Decidable.byContradiction;intro c;have:=uW (n:=f.N) (i:=0) (by omega)
 rw[hd 0 h] at this;cases this
theorem aAf(h0:m≠0)(e0:fs.getD 0 default=⟨f.N,f.O,f.A⟩)(e1:fs.getD 1 default=⟨g.N,g.O,g.A⟩):(bS .and w kk ws fs m).getD 0 0=bI m (bI g.N f.N)/\(bS .and w kk ws fs m).getD 1 0=bI m f.N:=by
 unfold bS;rw[if_neg h0,e0,e1];exact⟨rfl,rfl⟩
theorem aAQ(h0:m≠0)(e0:fs.getD 0 default=⟨f.N,f.O,f.A⟩)(e1:fs.getD 1 default=⟨g.N,g.O,g.A⟩):(bS .or w kk ws fs m).getD 0 0=bI m (bI g.O f.O)/\(bS .or w kk ws fs m).getD 1 0=bI m f.O:=by
 unfold bS;rw[if_neg h0,e0,e1];exact⟨rfl,rfl⟩
theorem aH8{x y:Nat}(h0:m≠0):bI m (bI y x)≠0\/bI m x≠0:=by
 have t:=nZ h0;cases c:x.testBit (bl m-1) with
 | true =>
   left
   refine aAm (t:=bl m-1) ?_;rw[kS,kS,t,c];simp
 | false =>
   right
   refine aAm (t:=bl m-1) ?_;rw[kS,t,c];rfl
theorem aAp{x y:Nat}(h0:m≠0)(hs:(bI m x==0)=true)(hd:∀ t,x.testBit t=true->y.testBit t=false):bI m y≠0:=by
 have t:=nZ h0;refine aAm (t:=bl m-1) ?_;rw[kS,t,hd _ (tP.mp hs _ t)];rfl
theorem aNo(h0:m≠0)(hd:Dj g)(e0:fs.getD 0 default=⟨f.N,f.O,f.A⟩)(e1:fs.getD 1 default=⟨g.N,g.O,g.A⟩)(h:cI wd g m=true):(bS wd w kk ws fs m).getD 0 0≠0:=by
 cases wd with
 | and =>
   rw[(aAf h0 e0 e1).1];refine aAp h0 h λ t ht=>?_
   rw[kS,hd t ht,yAl]
 | or =>
   rw[(aAQ h0 e0 e1).1];refine aAp h0 h λ t ht=>?_
   have:g.O.testBit t=false:=by
    cases c:g.O.testBit t with
    | false=>rfl
    | true=>rw[hd t c] at ht;cases ht
   rw[kS,this,yAl]
 | xor=>unfold bS;rw[if_neg h0];exact h0
 | add=>unfold bS;rw[if_neg h0];exact uU h0
 | sub=>unfold bS;rw[if_neg h0];exact uU h0
 | mul =>
   have z:=aHN hd (aGR (oqT h));unfold bS;rw[if_neg h0,e1];show 2^(bl m-min (bl m) (lr g.N))-1≠0;rw[z,Nat.min_zero,yGi];exact uU h0
 | _=>cases h
theorem aNv(h0:m≠0)(hd:Dj f)(e0:fs.getD 0 default=⟨f.N,f.O,f.A⟩)(e1:fs.getD 1 default=⟨g.N,g.O,g.A⟩)(h5:iR wd=true)(h:cI wd f m=true):(bS wd w kk ws fs m).getD 1 0≠0:=by
 cases wd with
 | and =>
   rw[(aAf h0 e0 e1).2];exact aAp h0 h λ t ht=>hd t ht
 | or =>
   rw[(aAQ h0 e0 e1).2];refine aAp h0 h λ t ht=>?_
   cases c:f.O.testBit t with
   | false=>rfl
   | true=>rw[hd t c] at ht;cases ht
 | xor=>unfold bS;rw[if_neg h0];exact h0
 | add=>unfold bS;rw[if_neg h0];exact uU h0
 | mul =>
   have z:=aHN hd (aGR (oqT h));unfold bS;rw[if_neg h0,e0];show 2^(bl m-min (bl m-min (bl m) (lr (fs.getD 1 default).N)) (lr f.N))-1≠0;rw[z,Nat.min_zero,yGi];exact uU h0
 | _=>cases h5
end
section
variable {rs : List Rw}{F : List Ft}
theorem aJz(p:Prg rs)(s:Snd rs F)(hF:F.length=rs.length){a:Nat}(ha:a<rs.length):Dj (f0 F a):=λ t ht=>by
 obtain⟨is,hi⟩:=p.ins;have hw:=rO (l:=rs.map (·.w)) (a:=a) (by rw[yAb];omega)
 have hn:=rO (l:=dZ rs (rs.map (·.w)) is []) (a:=a) (by rw[aCu p hi];omega)
 obtain⟨h1,h2,_⟩:=s.hold is hi a _ _ _ (pN (by omega)) hw hn
 cases c:(f0 F a).N.testBit t with
 | false=>rfl
 | true =>
   have z:=h1 t c;rw[h2 t ht] at z;cases z
theorem aAS{r:Rw}{c a:Nat}(h:(r.args.take (aI r.wd))[c]? = qq a):(iB r F).getD c default=⟨(f0 F a).N,(f0 F a).O,(f0 F a).A⟩/\f0 (bK r F) c=f0 F a:=by
 constructor
 ·unfold iB bK;rw[xAh,xAb,xAb,h];rfl
 ·show(bK r F).getD c ⟨0,0,1⟩=_;unfold bK;rw[xAh,xAb,h];rfl
theorem aCH(p:Prg rs)(s:Snd rs F)(hF:F.length=rs.length){j:Nat}{r:Rw}(hr:rs[j]? = qq r){m:Nat}(h0:m≠0)(hm:m<2^r.w)(P:List (Option Nat))(hP:P.length=aI r.wd)(hp:∀ c,(kG rs F r m).getD c 0≠0->pg P c≠qz)(i:Nat)(hi:r.wd≠.in)(hn:r.wd≠.num)(h:fK r m (bB r (rs.map (·.w))) (bK r F) P=qq i):pg P i≠qz:=by
 obtain⟨f1,f2⟩:=p.fit j r hr;have hj:j<rs.length:=(gIm hr).1;have la:=vN p hr;obtain⟨w1,w2⟩:=rT f1;have at_:∀ c,c<aI r.wd->∃ a,(r.args.take (aI r.wd))[c]? = qq a/\a<rs.length:=λ c hc=>by
  refine⟨_,yAa (by omega),?_⟩
  have:=f2 _ (List.getElem_mem (l:=r.args.take (aI r.wd)) (n:=c) (by omega))
  omega
 have c1:0<aI r.wd:=by
  revert hi hn
  cases r.wd<;>decide
 obtain⟨a,ha,hal⟩:=at_ 0 c1;obtain⟨e0,e0'⟩:=aAS (F:=F) ha;have d0:=aJz p s hF hal;unfold kG at hp;unfold fK at h;cases a1:(kK r.wd&&gL P) with
 | true =>
   rw[a1] at h;have h:qq 0=qq i:=h;cases h;obtain⟨b1,b2⟩:=(yAu _ _▸a1:_/\_);have b2:=oqT b2;have h2:=aIA b1;obtain⟨a',ha',_⟩:=at_ 1 (by omega)
   obtain⟨e1,_⟩:=aAS (F:=F) ha';have bJ:(bS r.wd r.w (jC r) (bB r (rs.map (·.w))) (iB r F) m).getD 0 0≠0\/(bS r.wd r.w (jC r) (bB r (rs.map (·.w))) (iB r F) m).getD 1 0≠0:=by
    rcases oqT b1 with q | q
    ·rw[q,(aAf h0 e0 e1).1,(aAf h0 e0 e1).2];exact aH8 h0
    ·rw[q,(aAQ h0 e0 e1).1,(aAQ h0 e0 e1).2];exact aH8 h0
   rcases bJ with q | q
   ·exact hp 0 q
   ·rw[b2];exact hp 1 q
 | false =>
   rw[a1] at h;cases a2:decide (r.wd=.pick) with
   | true =>
     rw[a2] at h;have q:=oqT a2;have h:nI (f0 (bK r F) 0) P=qq i:=h;rw[e0'] at h;have nd:bS r.wd r.w (jC r) (bB r (rs.map (·.w))) (iB r F) m=if (f0 F a).O=1 then [1,m,0] else if (f0 F a).N=1 then [1,0,m] else [1,m,m]:=by
      rw[q];unfold bS;rw[if_neg h0,e0]
     rw[nd] at hp;unfold nI at h
     by_cases k1:(f0 F a).O=1
     ·rw[if_pos (.inr k1)] at h;cases h;rw[if_pos k1] at hp;exact hp 1 h0
     ·rw[if_neg k1] at hp
      by_cases k2:(f0 F a).N=1
      ·rw[if_pos k2] at hp;have p2:=hp 2 h0
       split at h
       ·rename_i c;cases h;rcases c with c | c
        ·rw[c];exact p2
        ·exact absurd c k1
       ·cases h;exact p2
      ·rw[if_neg k2] at hp
       split at h
       ·cases h;exact hp 1 h0
       ·cases h
   | false =>
     rw[a2] at h;cases a3:nJ r.wd with
     | true =>
       rw[a3] at h;cases a4:jC r==0 with
       | false=>rw[a4] at h;cases h
       | true =>
         rw[a4] at h;have h:qq 0=qq i:=h;cases h;have k0:=beq_iff_eq.mp a4;refine hp 0 ?_;rw[k0];rcases oqT a3 with q | q | q
         ·rw[q];unfold bS;rw[if_neg h0];show m/2^0≠0;rw[yFp,Nat.div_one];exact h0
         ·rw[q];unfold bS;rw[if_neg h0];show(m*2^0)&&&(2^r.w-1)≠0;rw[yFp,Nat.mul_one,yCm,yHa hm];exact h0
         ·rw[q];unfold bS;rw[if_neg h0];show hU (m*2^0) r.w≠0;rw[yFp,Nat.mul_one,aFT hm];exact h0
     | false =>
       rw[a3] at h;cases a4:oZ r.wd with
       | true =>
         rw[a4] at h;cases a5:g0 (bB r (rs.map (·.w))) 0==r.w with
         | false=>rw[a5] at h;cases h
         | true =>
           rw[a5] at h;have h:qq 0=qq i:=h;cases h;have k0:(bB r (rs.map (·.w))).getD 0 0=r.w:=beq_iff_eq.mp a5;refine hp 0 ?_;rcases oqT a4 with q | q | q
           ·rw[q];unfold bS;rw[if_neg h0];exact h0
           ·rw[q];unfold bS;rw[if_neg h0];show m&&&(2^(bB r (rs.map (·.w))).getD 0 0-1)≠0;rw[k0,yCm,yHa hm];exact h0
           ·rw[q];unfold bS;rw[if_neg h0];show hU m ((bB r (rs.map (·.w))).getD 0 0)≠0;rw[k0,aFT hm];exact h0
       | false =>
         rw[a4] at h;cases a5:(decide (P.length=2)&&cI r.wd (f0 (bK r F) 1) m) with
         | true =>
           rw[a5] at h;have h:qq 0=qq i:=h;cases h;obtain⟨b1,b2⟩:=(yAu _ _▸a5:_/\_);have b1:=oqT b1;obtain⟨a',ha',hal'⟩:=at_ 1 (by omega)
           obtain⟨e1,e1'⟩:=aAS (F:=F) ha';rw[e1'] at b2;exact hp 0 (aNo h0 (aJz p s hF hal') e0 e1 b2)
         | false =>
           rw[a5] at h;cases a6:(iR r.wd&&cI r.wd (f0 (bK r F) 0) m) with
           | false=>rw[a6] at h;cases h
           | true =>
             rw[a6] at h;have h:qq 1=qq i:=h;cases h;obtain⟨b1,b2⟩:=(yAu _ _▸a6:_/\_);have h2:aI r.wd=2:=by revert b1;cases r.wd<;>decide
             obtain⟨a',ha',hal'⟩:=at_ 1 (by omega)
             obtain⟨e1,e1'⟩:=aAS (F:=F) ha';rw[e0'] at b2;exact hp 1 (aNv h0 d0 e0 e1 b1 b2)
end
section
variable {rs : List Rw}{F : List Ft}{M : List Nat}
def xH(M:List Nat)(s:S3)(j:Nat):Prop:=∀ k,k<j->M.getD k 0≠0->pg s.P k≠qz
theorem aSn{P:List (Option Nat)}{x:Option Nat}{k:Nat}(h:k<P.length):pg (P++[x]) k=pg P k:=by
 show(P++[x]).getD k qz=P.getD k qz;rw[xAh,xAh,xAn h]
theorem aSu(P:List (Option Nat))(x:Option Nat):pg (P++[x]) P.length=x:=by
 show(P++[x]).getD P.length qz=x;rw[xAh,yAf (yAc _),yBo];rfl
theorem aTG(t:Tr)(s:S3):(iE t s).P=s.P++[match t.md with | some _=>qq s.R.length | none=>t.pl]:=by
 unfold iE;cases t.md<;>rfl
theorem aJi(p:Prg rs)(s:Snd rs F)(hF:F.length=rs.length){aE:List Nat}(hb:Bd rs M)(hmet:∀ (j:Nat) (r:Rw),rs[j]? = qq r->∀ q∈eM rs F r (M.getD j 0),Sb q.2 (M.getD q.1 0)){j:Nat}{r:Rw}(hr:rs[j]? = qq r){st:S3}(hl:st.P.length=j)(hpl:xH M st j)(i:Nat)(h0:M.getD j 0≠0)(hi:r.wd≠.in)(hn:r.wd≠.num)(h:fK r (M.getD j 0) (bB r (rs.map (·.w))) (bK r F) (dJ r st.P)=qq i):pg (dJ r st.P) i≠qz:=by
 refine aCH p s hF hr h0 (hb.lt j r hr) (dJ r st.P) (zP p hr st.P) (λ c hc=>?_) i hi hn h
 obtain⟨f1,f2⟩:=p.fit j r hr;have la:=vN p hr;have hcl:c<aI r.wd:=by
  apply Decidable.byContradiction;intro z;apply hc;rw[xAh,yDf (by unfold kG;rw[aGB];omega)]
  rfl
 have ha:(r.args.take (aI r.wd))[c]? = qq (r.args.take (aI r.wd))[c]:=yAa (by omega)
 generalize (r.args.take (aI r.wd))[c]=a at ha;have haj:=f2 a (xAl ha);have e:pg (dJ r st.P) c=pg st.P a:=by
  show((r.args.take (aI r.wd)).map (pg st.P)).getD c qz=_;rw[xAh,xAb,ha];rfl
 rw[e];refine hpl a haj ?_;have hv:(kG rs F r (M.getD j 0))[c]? = qq ((kG rs F r (M.getD j 0)).getD c 0):=aCx (by unfold kG;rw[aGB];omega)
 have hm:(a,(kG rs F r (M.getD j 0)).getD c 0)∈eM rs F r (M.getD j 0):=by
  refine xAl (i:=c) ?_;unfold eM lZ;rw[List.getElem?_zip_eq_some];exact⟨ha,hv⟩
 have sb:=hmet j r hr _ hm;exact aAm (sb _ (nZ hc))
theorem aOK(hb:Bd rs M){j:Nat}{r:Rw}(hr:rs[j]? = qq r){s:S3}(hs:Ln s j)(h:xH M s j)(nn:∀ i,M.getD j 0≠0->r.wd≠.in->r.wd≠.num->fK r (M.getD j 0) (bB r (rs.map (·.w))) (bK r F) (dJ r s.P)=qq i->pg (dJ r s.P) i≠qz):xH M (iE (jL rs F M j r s.P) s) (j+1):=λ k hk h0=>by
 rw[aTG]
 by_cases c:k<j
 ·rw[aSn (by rw[hs.p];exact c)]
  exact h k c h0
 ·have ck:k=s.P.length:=by rw[hs.p];omega
  rw[ck,aSu];rw[ck,hs.p] at h0;unfold jL gW
  by_cases c1:r.wd=.in
  ·rw[if_pos c1];exact yDu _
  ·rw[if_neg c1,if_neg h0]
   by_cases c2:r.wd=.num
   ·rw[if_pos c2];exact yDu _
   ·rw[if_neg c2];cases k1:kF r.wd (f0 F j) (M.getD j 0) (dJ r s.P) with
    | some n=>exact yDu _
    | none =>
      cases k2:fK r (M.getD j 0) (bB r (rs.map (·.w))) (bK r F) (dJ r s.P) with
      | some i=>exact nn i h0 c1 c2 k2
      | none =>
        cases k3:jD r (M.getD j 0) (bK r F) (dJ r s.P) with
        | some l=>exact yDu _
        | none=>exact yDu _
noncomputable abbrev eU(P:D)(F:List Ft)(M:List Nat)(c6 c7 c8 c9:Option W):aY:=[qq (.d P),qq (.d (.tuple (F.map Ft.d))),qq (.d (.tuple (M.map nD))),qq (.loc 1),qq (.loc 2),qq (.loc 3),c6,c7,c8,c9,qz]
theorem aO4(d:Nat)(p:Prg rs)(hF:F.length=rs.length)(hb:Bd rs M){j:Nat}{r:Rw}(hr:rs[j]? = qq r){s:S3}(hs:Ln s j)(nn:∀ i,M.getD j 0≠0->r.wd≠.in->r.wd≠.num->fK r (M.getD j 0) (bB r (rs.map (·.w))) (bK r F) (dJ r s.P)=qq i->pg (dJ r s.P) i≠qz)(s0:Option (List D))(o:D)(c7 c8 c9:Option W):∃ c7' c8' c9':Option W,xs (aD fns (d+6)) qR (eU (.tuple [.tuple (rs.map Rw.d),o]) F M (qq (.d (.int (j:Nat)))) c7 c8 c9) (bP s0 s)=qq (.nx (eU (.tuple [.tuple (rs.map Rw.d),o]) F M (qq (.d (.int (j:Nat)))) c7' c8' c9'),bP s0 (iE (jL rs F M j r s.P) s)):=by
 have hj:j<rs.length:=(gIm hr).1;have pl:=p.l;obtain⟨f1,f2⟩:=p.fit j r hr;have hw:=p.ws j r hr;have ol:=aCI r;have hm:M.getD j 0<2^64:=xAc (hb.lt j r hr) (yAq (by decide) hw.2)
 have be:=aL3 d p hF hr (M.getD j 0) hm (dJ r s.P) (zP p hr s.P) nn o (bP s0 s);have i0:aO (.tuple [.tuple (rs.map Rw.d),o]) (.int 0)=qq (.tuple (rs.map Rw.d)):=rfl;have rj:aO (.tuple (rs.map Rw.d)) (.int (j:Nat))=qq r.d:=gQ (by rw[xAb,hr];rfl)
 have mj:=aPy (M:=M) (i:=j) (by rw[hb.l];exact hj)
 obtain⟨X,hX⟩:∃ X:D,X=.tuple [.tuple (rs.map Rw.d),o]:=⟨_,rfl⟩;rw[<- hX] at i0 be ⊢;have op:=λ S'=>pE (d+5) r S'
 have op':∀ S',cl fns (d+6) 7 [.d r.d] S'=qq (.d (.tuple ((lZ r).map nD)),S'):=op;obtain⟨vs,S2,ec,hS2,hI,hvl,hq⟩:=aCd (t:=.one 10) (fi:=lv (aD fns (d+6)) (.it (.call 7 (.cons (.ix (.ix (.var 0) (.int 0)) (.var 6)) .nil)))) (fe:=ev (aD fns (d+6)) (.ix (.var 4) (.var 10))) (env:=eU X F M (qq (.d (.int (j:Nat)))) c7 c8 c9) (S:=bP s0 s) (S1:=bP s0 s) nD (λ _ S'=>S'=bP s0 s) (λ a v=>v=aG (pg s.P a)) (lZ r) (by
  simp only[evs,eU,i0,rj,op',fM]) (by rw[zj];omega) rfl (by
  intro a ha;refine⟨_,rfl,?_⟩;rintro i S3 aH hi hSl rfl;have hl:a<s.P.length:=by have:=f2 a ha;rw[hs.p];exact this
  have hx:aO (.list (s.P.map aG)) (nD a)=qq (aG (pg s.P a)):=jS (by
   rw[xAb,yAa hl];show qq (aG s.P[a])=qq (aG (s.P.getD a qz));rw[xAh,yAa hl];rfl)
  refine⟨aG (pg s.P a),_,?_,rfl,rfl,rfl⟩;simp only[evs,eU,bP,clr,yBv,yDx,hx])
 subst hI;have ev1:vs=(dJ r s.P).map aG:=by
  rw[aBR hvl hq,dJ,yBs];rfl
 subst ev1;have ec':lv (aD fns (d+6)) aEA [qq (.d X),qq (.d (.tuple (F.map Ft.d))),qq (.d (.tuple (M.map nD))),qq (.loc 1),qq (.loc 2),qq (.loc 3),qq (.d (.int (j:Nat))),c7,c8,c9,qz] [s0,qq (s.R.map tA),qq (s.P.map aG),qq (s.V.map vD)]=qq ((dJ r s.P).map aG,[s0,qq (s.R.map tA),qq (s.P.map aG),qq (s.V.map vD)]):=ec;have be':cl fns (d+6) 78 [.d X,.d (.int (j:Nat)),.d (.tuple (F.map Ft.d)),.d (.int ((M.getD j 0:Nat):Int)),.d (.tuple ((dJ r s.P).map aG))] [s0,qq (s.R.map tA),qq (s.P.map aG),qq (s.V.map vD)]=qq (.d (.tuple [whD (jL rs F M j r s.P),vD (jL rs F M j r s.P).v]),[s0,qq (s.R.map tA),qq (s.P.map aG),qq (s.V.map vD)]):=be;obtain⟨⟨v,md,pl'⟩,ht⟩:∃ t,t=jL rs F M j r s.P:=⟨_,rfl⟩;rw[<- ht] at be' ⊢;obtain⟨R,P,V⟩:=s;have h1:=hs.p;have h2:=hs.v;have h3:=hs.r;dsimp only at h1 h2 h3 ec' be';generalize hC:(dJ r P).map aG=A3 at ec' be';have a3:=ap3 s0 (qq (R.map tA)) (qq (P.map aG)) (V.map vD) [] (vD v) (by rw[yAb];omega)
 cases md with
 | some l =>
   have is:fS .tup (tA l)=qq (.bool true):=rfl;have be2:cl fns (d+6) 78 [.d X,.d (.int (j:Nat)),.d (.tuple (F.map Ft.d)),.d (.int ((M.getD j 0:Nat):Int)),.d (.tuple A3)] [s0,qq (R.map tA),qq (P.map aG),qq (V.map vD)]=qq (.d (.tuple [tA l,vD v]),[s0,qq (R.map tA),qq (P.map aG),qq (V.map vD)]):=be';have lR:eT [.list (R.map tA++[tA l])]=qq (.int ((R.length+1:Nat):Int)):=by
    show qq (yAm (((R.map tA++[tA l]).length:Nat):Int))=_;rw[xAo,yAb];rfl
   have sb:((R.length+1:Nat):Int)-1=((R.length:Nat):Int):=by omega
   have a1:=ap1 s0 (R.map tA) [qq (P.map aG),qq (V.map vD++[vD v])] (tA l) (by rw[yAb];omega)
   have a2:=ap2 s0 (qq (R.map tA++[tA l])) (P.map aG) [qq (V.map vD++[vD v])] (.int (R.length:Nat)) (by rw[yAb];omega)
   have es:bP s0 (iE ⟨v,qq l,pl'⟩ ⟨R,P,V⟩)=[s0,qq (R.map tA++[tA l]),qq (P.map aG++[.int (R.length:Nat)]),qq (V.map vD++[vD v])]:=by
    show [s0,qq ((R++[l]).map tA),qq ((P++[qq R.length]).map aG),qq ((V++[v]).map vD)]=_;rw[yAz,yAz,yAz];rfl
   refine⟨qq (.d (.tuple A3)),qq (.d (.int (R.length:Nat))),qq (.d (vD v)),?_⟩;rw[es];simp only[gS2,qR,eU,bP,ec',cO,lD,lC,mj,be2,hZ,a3,is,a1,lR,cH,sb,a2]
 | none =>
   have is:fS .tup (aG pl')=qq (.bool false):=by cases pl'<;>rfl
   have be2:cl fns (d+6) 78 [.d X,.d (.int (j:Nat)),.d (.tuple (F.map Ft.d)),.d (.int ((M.getD j 0:Nat):Int)),.d (.tuple A3)] [s0,qq (R.map tA),qq (P.map aG),qq (V.map vD)]=qq (.d (.tuple [aG pl',vD v]),[s0,qq (R.map tA),qq (P.map aG),qq (V.map vD)]):=be';have a2:=ap2 s0 (qq (R.map tA)) (P.map aG) [qq (V.map vD++[vD v])] (aG pl') (by rw[yAb];omega)
   have es:bP s0 (iE ⟨v,qz,pl'⟩ ⟨R,P,V⟩)=[s0,qq (R.map tA),qq (P.map aG++[aG pl']),qq (V.map vD++[vD v])]:=by
    show [s0,qq (R.map tA),qq ((P++[pl']).map aG),qq ((V++[v]).map vD)]=_;rw[yAz,yAz];rfl
   refine⟨qq (.d (.tuple A3)),qq (.d (aG pl')),qq (.d (vD v)),?_⟩;rw[es];simp only[gS2,qR,eU,bP,ec',cO,lD,lC,mj,be2,hZ,a3,is,a2]
end
theorem Sb.trans{a b c:Nat}(h:Sb a b)(k:Sb b c):Sb a c:=λ i x=>k i (h i x)
theorem aQ7(a b:Nat):Sb a (a|||b):=λ i h=>by rw[xAp,h,Bool.true_or]
theorem aSA(a b:Nat):Sb b (a|||b):=λ i h=>by rw[xAp,h,yFq]
theorem aOC(M:List Nat)(q:Nat×Nat)(i:Nat):Sb (M.getD i 0) ((cN M q).getD i 0):=by
 unfold cN
 by_cases c:q.1=i
 ·subst c
  by_cases l:q.1<M.length
  ·rw[xV l];exact aQ7 _ _
  ·rw[List.set_eq_of_length_le (by omega)]
   exact Sb.refl _
 ·rw[xX c];exact Sb.refl _
theorem aCG:∀ (l:List (Nat×Nat)) (M:List Nat) (i:Nat),Sb (M.getD i 0) ((l.foldl cN M).getD i 0)
 | [],_,_=>Sb.refl _
 | q::l,M,i=>(aOC M q i).trans (aCG l (cN M q) i)
theorem aNM(M:List Nat)(q:Nat×Nat):(cN M q).length=M.length:=by unfold cN;rw[yBe]
theorem aHK:∀ (l:List (Nat×Nat)) (M:List Nat) (q:Nat×Nat),q∈l->q.1<M.length->Sb q.2 ((l.foldl cN M).getD q.1 0)
 | [],_,_,h,_=>by cases h
 | x::l,M,q,h,hl=>by
   rcases List.mem_cons.mp h with rfl | h
   ·refine Sb.trans ?_ (aCG l (cN M q) q.1);unfold cN;rw[xV hl];exact aSA _ _
   ·exact aHK l (cN M x) q h (by rw[aNM];exact hl)
section
variable {rs : List Rw}{F : List Ft}{r : Rw}{k m : Nat}{M : List Nat}
theorem aHx:∀ (k:Nat) (M:List Nat) (i:Nat),Sb (M.getD i 0) ((jY rs F k M).getD i 0)
 | 0,_,_=>Sb.refl _
 | k+1,M,i=>by
   refine Sb.trans ?_ (aHx k (fV rs F M k) i);unfold fV;cases rs[k]? with
   | none=>exact Sb.refl _
   | some r=>exact aCG _ M i
theorem aGd(p:Prg rs):∀ (k:Nat) (M:List Nat),Bd rs M->k<=rs.length->∀ (j:Nat) (r:Rw),j<k->rs[j]? = qq r->∀ q∈eM rs F r ((jY rs F k M).getD j 0),Sb q.2 ((jY rs F k M).getD q.1 0)
 | 0,_,_,_,j,_,hj,_,_,_=>absurd hj (yFe j)
 | k+1,M,h,hk,j,r,hj,hr,q,hq=>by
   have hb:=aGM (F:=F) p (show k<rs.length by omega) h
   by_cases c:j=k
   ·subst c;have e:(jY rs F (j+1) M).getD j 0=M.getD j 0:=aGo p (j+1) M j h hk (yAc _);rw[e] at hq;have a:=(aAu p hr (h.lt j r hr) q hq).1;show Sb q.2 ((jY rs F j (fV rs F M j)).getD q.1 0);refine Sb.trans ?_ (aHx j (fV rs F M j) q.1);rw[aCM hr];exact aHK _ M q hq (by rw[h.l];omega)
   ·exact aGd p k (fV rs F M k) hb (by omega) j r (by omega) hr q hq
end
theorem aIT(a:Am):yCg a.d a.d=true:=by
 cases a<;>simp[Am.d,yCg]
theorem aGX{α:Type}{g:α->D}(h:∀ a,yCg (g a) (g a)=true):∀ l:List α,PyData.eqvAll (l.map g) (l.map g)=true
 | []=>rfl
 | a::r=>by
   have ih:=aGX h r;simp only[yBa,PyData.eqvAll,h a,ih,yBh]
theorem zL{α:Type}{g:α->D}(h:∀ a,yCg (g a) (g a)=true)(l:List α):yCg (.tuple (l.map g)) (.tuple (l.map g))=true:=by
 have:=aGX h l;simp only[yCg,this]
theorem uV{α:Type}{g:α->D}(h:∀ a,(g a).canLay0=true):∀ l:List α,yCi (l.map g)=true
 | []=>rfl
 | a::r=>by
   have ih:=uV h r;simp only[yBa,yCi,h a,ih,yBh]
theorem uL{α:Type}{g:α->D}{n:Nat}(h:∀ a,(g a).depth<=n):∀ l:List α,yCb (l.map g)<=n
 | []=>yFz _
 | a::r=>by
   have ih:=uL h r;have:=h a;simp only[yBa,yCb];omega
theorem aRZ(a:Option Nat):yCg (aG a) (aG a)=true:=by rw[<- sB];exact aIT _
theorem aQv(a:Wd):(yHj a.s).canLay0=true:=by cases a<;>kernel_rfl
theorem aTA(a:Vd):(vD a).canLay0=true:=by cases a<;>kernel_rfl
theorem aIo(a:Am):(a.d).canLay0=true:=by
 cases a with
 | s x=>exact aQv x
 | n k=>rfl
 | z=>rfl
theorem aIw(a:Am):(a.d).depth<=0:=by cases a<;>exact yAc _
theorem aSi(s:S3)(aE:List Nat):aJ .Eq (fR s aE) (fR s aE)=qq (.bool true):=by
 have e1:=zL (g:=tA) (λ l=>zL aIT l) s.R
 have e2:=zL (g:=λ o=>aG (pg s.P o)) (λ o=>aRZ _) aE
 have e3:=zL (g:=vD) (λ v=>by simp[vD,yCg]) s.V
 have h3:yCg (fR s aE) (fR s aE)=true:=by
  unfold fR;simp only[yCg,PyData.eqvAll,yBh] at e1 e2 e3 ⊢;rw[e1,e2,e3];rfl
 have l1:yCi (s.R.map tA)=true:=uV (g:=tA) (λ l=>uV aIo l) s.R
 have l2:yCi (aE.map λ o=>aG (pg s.P o))=true:=uV (λ o=>by rw[<- sB];exact aIo _) aE
 have l3:yCi (s.V.map vD)=true:=uV aTA s.V;have h1:(fR s aE).canLay0=true:=by
  unfold fR;simp only[PyData.canLay0,yCi,l1,l2,l3,yBh]
 have d1:yCb (s.R.map tA)<=1:=uL (g:=tA) (λ l=>by
  show yCb (l.map Am.d)+1<=1;have:=uL aIw l;omega) s.R
 have d2:yCb (aE.map λ o=>aG (pg s.P o))<=0:=uL (λ o=>by rw[<- sB];exact aIw _) aE
 have d3:yCb (s.V.map vD)<=0:=uL (g:=vD) (n:=0) (λ v=>yAc 0) s.V
 have h2:(fR s aE).depth<=60:=by
  unfold fR;simp only[PyData.depth,yCb];omega
 unfold aJ sR;simp only[];rw[if_pos ⟨h1,h1,h2⟩,h3];rfl
section
variable {rs : List Rw}{F : List Ft}{M : List Nat}
theorem aQk(d:Nat)(p:Prg rs)(sd:Snd rs F)(hF:F.length=rs.length)(aE:List Nat)(ho:∀ o∈aE,o<rs.length)(hol:aE.length<=8)(s0:Option (List D))(eF:cl fns (d+9) 48 [.d (.tuple [.tuple (rs.map Rw.d),.tuple (aE.map nD)])] [s0]=qq (.d (.tuple (F.map Ft.d)),[s0])):cl fns (d+10) 79 [.d (.tuple [.tuple (rs.map Rw.d),.tuple (aE.map nD)])] [s0]=qq (.d (fR (eX rs F (fX rs F aE) rs.length) aE),[s0]):=by
 have pl:=p.l;obtain⟨hb,eA⟩:=aGD (d+2) p hF aE ho [s0];have met:=aGd (F:=F) p rs.length (nA rs aE) (aHj aE _ ho aHI) (yAc _);have met':∀ (j:Nat) (r:Rw),rs[j]? = qq r->∀ q∈eM rs F r ((fX rs F aE).getD j 0),Sb q.2 ((fX rs F aE).getD q.1 0):=λ j r hr=>met j r (gIm hr).1 hr
 obtain⟨M,hM⟩:∃ M,M=fX rs F aE:=⟨_,rfl⟩;rw[<- hM] at hb eA met' ⊢;have i1:aO (.tuple [.tuple (rs.map Rw.d),.tuple (aE.map nD)]) (.int 1)=qq (.tuple (aE.map nD)):=rfl;have lM:eT [.tuple (M.map nD)]=qq (.int (rs.length:Nat)):=by
  show qq (yAm (((M.map nD).length:Nat):Int))=_;rw[yAb,hb.l]
 have turn:=λ(j:Nat) (r:Rw) (hr:rs[j]? = qq r) (s:S3) (hs:Ln s j) (hpl:xH M s j)=>aO4 (d+3) p hF hb hr hs (aJi (aE:=aE) p sd hF hb met' hr hs.p hpl) s0 (.tuple (aE.map nD))
 obtain⟨P,hP⟩:∃ P:D,P=.tuple [.tuple (rs.map Rw.d),.tuple (aE.map nD)]:=⟨_,rfl⟩;simp only[<- hP] at eF eA i1 turn ⊢;have it:lv (aD fns (d+9)) xP (eU P F M qz qz qz qz) (bP s0 ⟨[],[],[]⟩)=qq ((yAo rs.length).map (λ k=>yAm ((k:Nat):Int)),bP s0 ⟨[],[],[]⟩):=by
  simp only[xP,rY,rA,rB,rC];exact qS (by simp only[evs,eU,lM]) (by omega)
 obtain⟨aM,S',p1,c6,c7,c8,c9,hpl,rfl,rfl⟩:=rK (t:=.one 6) (fb:=xs (aD fns (d+9)) qR)
  (λ j env S'=>∃ c6 c7 c8 c9:Option W,xH M (eX rs F M j) j/\env=eU P F M c6 c7 c8 c9/\S'=bP s0 (eX rs F M j))
  it ⟨qz,qz,qz,qz,(λ k hk=>absurd hk (yFe k)),rfl,rfl⟩ (by
   rintro j dd env S' hd ⟨c6,c7,c8,c9,hpl,rfl,rfl⟩;obtain⟨hj,rfl⟩:=aNR hd;have hr:rs[j]? = qq rs[j]:=yAa hj;generalize rs[j]=r at hr;have ln:=rL (F:=F) (M:=M) j (yDz hj);obtain⟨a7,a8,a9,e⟩:=turn j r hr (eX rs F M j) ln hpl c7 c8 c9;refine⟨eU P F M (qq (.d (.int (j:Nat)))) c7 c8 c9,eU P F M (qq (.d (.int (j:Nat)))) a7 a8 a9,_,rfl,e,_,a7,a8,a9,?_,rfl,by rw[uG hr]⟩
   rw[uG hr];exact aOK hb hr ln hpl (aJi (aE:=aE) p sd hF hb met' hr ln.p hpl))
 rw[yAb,yBn] at p1;have ln:=rL (F:=F) (M:=M) rs.length (yAc _);generalize eX rs F M rs.length=s at p1 ln ⊢;have oc:lv (aD fns (d+9)) xR [qq (.d P),qq (.d (.tuple (F.map Ft.d))),qq (.d (.tuple (M.map nD))),qq (.loc 1),qq (.loc 2),qq (.loc 3),c6,c7,c8,c9,qz] (bP s0 s)=qq (aE.map λ o=>aG (pg s.P o),bP s0 s):=by
  refine aFN (aD fns (d+9)) xR 0 6 4 _ [qq (.d P),qq (.d (.tuple (F.map Ft.d))),qq (.d (.tuple (M.map nD))),qq (.loc 1),qq (.loc 2),qq (.loc 3),c6,c7,c8,c9,qz] aE s s0 hol (λ o h=>by rw[ln.p];exact ho o h) ?_ (λ a=>rfl) (λ a=>rfl) λ a=>rfl
  simp only[gS0,i1,fM]
 have p1':dA (.one 6) (lv (aD fns (d+9)) xP) (xs (aD fns (d+9)) qR) [qq (.d P),qq (.d (.tuple (F.map Ft.d))),qq (.d (.tuple (M.map nD))),qq (.loc 1),qq (.loc 2),qq (.loc 3),qz,qz,qz,qz,qz] [s0,qq [],qq [],qq []]=qq (.nx (eU P F M c6 c7 c8 c9),bP s0 s):=p1;have oc':lv (aD fns (d+9)) xR [qq (.d P),qq (.d (.tuple (F.map Ft.d))),qq (.d (.tuple (M.map nD))),qq (.loc 1),qq (.loc 2),qq (.loc 3),c6,c7,c8,c9,qz] [s0,qq (s.R.map tA),qq (s.P.map aG),qq (s.V.map vD)]=qq (aE.map λ o=>aG (pg s.P o),[s0,qq (s.R.map tA),qq (s.P.map aG),qq (s.V.map vD)]):=oc
 rw[aT rfl (d+9) _ [s0] rfl];simp only[gR3,aFL,eA,eU,eF,gK,p1',bP,oc',cO,lD,lC]
end
theorem aPV(C:Calls)(f0':W)(l:List Am)(S:aC)(c2:Option W)(hl:l.length<=1000):xs C tG [qq f0',qq (.d (tA l)),c2] S=qq (.nx [qq f0',qq (.d (tA l)),c2],S):=by
 have hc:lv C aEo [qq f0',qq (.d (tA l)),c2] S=qq (l.map λ _=>yDs false,S):=by
  refine uP (fi:=lv C (.it (.var 1))) (fe:=ev C (.isi (.var 2) .bool)) Am.d (λ _=>yDs false) l ?_ (by rw[zj];omega) λ a _=>?_
  ·simp only[gS0,tA,fM]
  ·refine⟨[qq f0',qq (.d (tA l)),qq (.d a.d)],rfl,λ S'=>?_⟩
   have is:fS .bool a.d=qq (.bool false):=by cases a<;>rfl
   simp only[gS0,is]
 have an:sI [.list (l.map λ _=>yDs false)]=qq (.bool false):=by
  rw[aRL (λ _:Am=>false) l,List.any_eq_false.mpr λ _ _=>by decide]
 have is:fS .tup (tA l)=qq (.bool true):=rfl;simp only[gS1,tG,is,hc,cO,an]
theorem aNb(d:Nat)(s:S3)(aE:List Nat)(hR:s.R.length<=100)(hA:∀ l∈s.R,l.length<=1000)(hol:aE.length<=8)(S:aC):cl fns (d+1) 80 [.d (fR s aE)] S=qq (.d (.bool true),S):=by
 have i0:aO (fR s aE) (.int 0)=qq (.tuple [.tuple (s.R.map tA),.tuple (aE.map λ o=>aG (pg s.P o))]):=rfl
 have is0:fS .tup (fR s aE)=qq (.bool true):=rfl;have l0:eT [fR s aE]=qq (.int 2):=rfl;have ne:((2:Int)==2)=true:=rfl;have j0:aO (.tuple [.tuple (s.R.map tA),.tuple (aE.map λ o=>aG (pg s.P o))]) (.int 0)=qq (.tuple (s.R.map tA)):=rfl
 have j1:aO (.tuple [.tuple (s.R.map tA),.tuple (aE.map λ o=>aG (pg s.P o))]) (.int 1)=qq (.tuple (aE.map λ o=>aG (pg s.P o))):=rfl
 have is1:fS .tup (.tuple [.tuple (s.R.map tA),.tuple (aE.map λ o=>aG (pg s.P o))])=qq (.bool true):=rfl
 have l1:eT [.tuple [.tuple (s.R.map tA),.tuple (aE.map λ o=>aG (pg s.P o))]]=qq (.int 2):=rfl
 have oe:(.tuple (aE.map λ o=>aG (pg s.P o)):D)=tA (aE.map λ o=>eV (pg s.P o)):=by
  unfold tA;rw[yBs];exact congrArg yCw (yCh λ o _=>(sB _).symm)
 have ct:bR .Add (.tuple (s.R.map tA)) (.tuple [.tuple (aE.map λ o=>aG (pg s.P o))])=qq (.tuple ((s.R++[aE.map λ o=>eV (pg s.P o)]).map tA)):=by
  rw[aA6 _ _ (by rw[yAb];show s.R.length+1<=1000;omega),oe,yAz]
  rfl
 obtain⟨x,hx⟩:∃ x,x=fR s aE:=⟨_,rfl⟩;rw[<- hx] at i0 is0 l0 ⊢;have it:lv (aD fns d) xN [qq (.d x),qz,qz] S=qq ((s.R++[aE.map λ o=>eV (pg s.P o)]).map tA,S):=by
  simp only[gS1,xN,i0,j0,j1,ct,fM]
 obtain⟨env1,p1,c1,rfl⟩:=aQc (t:=.one 1) (fb:=xs (aD fns d) tG) (λ env=>∃ c1:Option W,env=[qq (.d x),c1,qz]) it ⟨qz,rfl⟩ (by
  rintro dd hdd env ⟨c1,rfl⟩;obtain⟨l,hl,rfl⟩:=List.mem_map.mp hdd;refine⟨_,_,rfl,aPV (aD fns d) (.d x) l S qz ?_,_,rfl⟩;rcases List.mem_append.mp hl with h | h
  ·exact hA l h
  ·rw[List.mem_singleton.mp h,yAb];omega)
 have p1':dA (.one 1) (lv (aD fns d) xN) (xs (aD fns d) tG) [qq (.d x),qz,qz] S=qq (.nx [qq (.d x),c1,qz],S):=p1;rw[aT rfl d _ S rfl];simp only[gR1,aET,is0,l0,i0,is1,l1,iX,ne,p1',yDt]
theorem aPl{r:Rw}{f:Ft}{m:Nat}{ws:List Nat}{Fs:List Ft}{P:List (Option Nat)}{l:List Am}(ha:r.args.length<=10)(hP:P.length<=3)(h:(gW r f m ws Fs P).md=qq l):l.length<=1000:=by
 have hr:(lX r).length<=1000:=by show(r.args.map Am.n).length+1+1<=1000;rw[yAb];omega
 unfold gW at h
 split at h
 ·cases h;exact hr
 ·split at h
  ·cases h
  ·split at h
   ·cases h;exact hr
   ·split at h
    ·cases h;exact yFs rfl
    ·split at h
     ·cases h
     ·split at h
      ·rename_i l' e;cases h;unfold jD at e;have hp:(Am.s Wd.or::Am.n r.w::P.map eV).length<=1000:=by show(P.map eV).length+1+1<=1000;rw[yAb];omega
       split at e
       ·unfold wX at e
        split at e
        ·cases e;exact yFs rfl
        ·split at e
         ·cases e;exact yFs rfl
         ·cases e
       ·split at e
        ·cases e;exact hp
        ·split at e
         ·cases e;exact hp
         ·cases e
      ·cases h;show(P.map eV++(r.args.drop P.length).map Am.n).length+1+1<=1000;rw[xAo,yAb,yAb,yFt];omega
theorem aHQ{rs:List Rw}{F:List Ft}{M:List Nat}(p:Prg rs):∀ j,j<=rs.length->∀ l∈(eX rs F M j).R,l.length<=1000
 | 0,_,l,h=>by cases h
 | j+1,hj,l,h=>by
   have hr:rs[j]? = qq rs[j]:=yAa hj;generalize rs[j]=r at hr;rw[uG hr] at h;have ih:=aHQ (F:=F) (M:=M) p j (Nat.le_of_succ_le hj);have c3:aI r.wd<=3:=by cases r.wd<;>decide
   unfold iE at h;cases c:(jL rs F M j r (eX rs F M j).P).md with
   | none=>rw[c] at h;exact ih l h
   | some l' =>
     rw[c] at h;rcases List.mem_append.mp h with h | h
     ·exact ih l h
     ·rw[List.mem_singleton.mp h];exact aPl (aCh (p.fit j r hr).1) (by rw[zP p hr];exact c3) c
theorem aRr(d:Nat)(ns:List Int)(h1:ns.length<=63):∃ S',cl fns (d+11) 81 [.d (.list (ns.map yAm))] []=qq (.d (.bool true),S'):=by
 obtain⟨most,hm,et⟩:∃ t:Nat,t<=30/\(1:Int)+(if (24:Int)<((ns.length:Nat):Int) then 24 else ((ns.length:Nat):Int))=((t:Nat):Int):=by
  refine⟨1+min ns.length 24,by omega,?_⟩
  split<;>omega
 obtain⟨rs,aE,k0,x0,ok,l0,l1,hk0,ho,hol,e0⟩:=aRS (d+4) most ns hm 0 0 (by omega)
 have mn:qF [.int ((ns.length:Nat):Int),.int 24]=qq (.int (if (24:Int)<((ns.length:Nat):Int) then 24 else ((ns.length:Nat):Int))):=rfl
 have lN:eT [.list (ns.map yAm)]=qq (.int (ns.length:Nat)):=by
  show qq (yAm (((ns.map yAm).length:Nat):Int))=_;rw[yAb]
 have p:=aSo ok (by omega)
 obtain⟨F,hF,sd,_,eF⟩:=aLG d rs (.tuple (aE.map nD)) p [qq (bW ns k0 x0)];have tr:=aMS d p hF aE ho hol (qq (bW ns k0 x0)) eF;have du:=aQk d p sd hF aE ho hol (qq (bW ns k0 x0)) eF;have ln:=rL (F:=F) (M:=fX rs F aE) rs.length (yAc _);have sh:=aNb (d+9) (eX rs F (fX rs F aE) rs.length) aE (by have:=ln.r;omega) (aHQ p rs.length (yAc _)) hol [qq (bW ns k0 x0)]
 have eq:=aSi (eX rs F (fX rs F aE) rs.length) aE;generalize fR (eX rs F (fX rs F aE) rs.length) aE=x at tr du sh eq;obtain⟨P,hP⟩:∃ P:D,P=.tuple [.tuple (rs.map Rw.d),.tuple (aE.map nD)]:=⟨_,rfl⟩;rw[<- hP] at e0 tr du;obtain⟨sc,hsc⟩:∃ sc:Option W,sc=qq (.d (.list (ns.map yAm))):=⟨_,rfl⟩;have e:iQ=.seq (cP iQ) (.seq (cP (bM iQ)) (bM (bM iQ))):=rfl;refine⟨[],?_⟩;rw[aT rfl (d+10) _ [] rfl];have s0:xs (aD fns (d+10)) (cP iQ) [qq (.d (.list (ns.map yAm))),qz,qz,qz] []=qq (.nx [qq (.d (.list (ns.map yAm))),qq (.loc 0),qz,qz],[qq (bW ns 0 0)]):=by
  simp only[gS2,cP,iQ,gK]
 have s1:xs (aD fns (d+10)) (cP (bM iQ)) [qq (.d (.list (ns.map yAm))),qq (.loc 0),qz,qz] [qq (bW ns 0 0)]=qq (.nx [qq (.d (.list (ns.map yAm))),qq (.loc 0),qq (.d P),qz],[qq (bW ns k0 x0)]):=by
  simp only[gS3,cP,bM,iQ,lN,mn,eD,et,e0]
 rw[<- hsc] at s1 s0;have tl:xs (aD fns (d+10)) (bM (bM iQ)) [sc,qq (.loc 0),qq (.d P),qz] [qq (bW ns k0 x0)]=qq (.rt (.d (.bool true)),[qq (bW ns k0 x0)]):=by
  simp only[gS2,bM,iQ,tr,sh,du,eq]
 have full:xs (aD fns (d+10)) iQ [sc,qz,qz,qz] []=qq (.rt (.d (.bool true)),[qq (bW ns k0 x0)]):=by
  rw[e,eZ s0,eZ s1,tl]
 rw[hsc] at full;show((xs (aD fns (d+10)) iQ [qq (.d (.list (ns.map yAm))),qz,qz,qz] []).bind _)=_;rw[full];rfl
theorem main(ns:List Int)(h1:ns.length<=63)(h2:∀ i∈ns,yAk i<=1048576):∃ call S',aD fns 12 81=qq (1,call)/\call [.d (.list (ns.map yAm))] []=qq (.d (.bool true),S'):=by
 obtain⟨S',e⟩:=aRr 1 ns h1;exact aPX (d:=11) rfl rfl e
theorem oks:∀ F∈fns,aBd fns tbs F=true:=by decide +kernel
theorem bok:∀ F∈fns,aC7 F=true:=by decide +kernel
theorem binds:∀ F∈fns,aCt F:=λ F hF=>aM6 (bok F hF)
end K63
structure PySem.W.Fast:Prop where (tw797505018267007277 tw7950973511655964640 tw5585315925181674191 tw660708077299227707 tw11739010296733287205 tw18105754317851717402 tw1875919237623318140 tw4534608200125803235 tw278359820958623447 tw7038335388492491499 tw7725342184922206489 tw467175871127343029 tw10919713714063650059 tw1401583508298072788 tw7068235032580343302 tw18227028086466469665 tw7312898622870971831 tw6304595418932787552 tw779579142750085963 tw6783019943509255349 tw11175961937597424490 tw18192194089635526660 tw11620879896997860284 tw15865363003313631549 tw14649865627903175031 tw2066178438403094099 tw7902752837068587261 tw4475241362978995060 tw10723460962489056671 tw15304948541691524943 tw11579304919195774073 tw12261121555809524606 tw17448406707282206150 tw9633700773723596799 tw12841900168213087994 tw708070536504986296 tw6570014748810646879 tw3619273981105176330 tw18076897972004945110 tw9713920580255457335 tw16353913243757480155 tw578078427929113430 tw7500161059641360120 tw5283436135041007120 tw2836353783124152521 tw3465192180172222542 tw18349037416846974593 tw10409179129213126405 tw2232067474675013166 tw14606138304147505260 tw1314564534342476495 tw16632061949054430404 tw15504065344343036231 tw12634160543519676481 tw3925561633858282965 tw17206836833490249819 tw7953516937210700809 tw8798462387067646057 tw6234156380159561318 tw749861562901269597 tw8632808133053742312 tw13896815201473362064 tw10498397692827645950 tw3047996130885439056 tw18229573165199444781 tw13088472302869804593 tw16440446737272644969 tw18241576942520289186 tw3137546220927527607 tw12309865889610610062 tw5078293551705030592 tw18142843911982977632 tw13676207921747447391 tw10576775153921364885 tw15207766486727362055 tw7532887046763524704 tw10465516111869011829 tw4141383564662897653 tw7921424657974479412 tw13790484199656281834 tw6517876300945953717 tw16104390229330668091 tw2497360928154656171 tw7298914564627833934 tw10911070966534909409 tw7188934179284909133 tw7114311190070352243 tw15901456429117725294 tw17008114803247598750 tw12079660424057938142 tw3037020880389690540 tw1049553643154365018 tw7996176202776693564 tw6524364618984579799 tw13560906791512196292 tw12709042609837935616 tw14673781623758523068 tw17498392341450407827 tw16912331986344428292 tw7198113679852757004 tw18095931513013514176 tw236112994716401207 tw11902696424012769109 tw3256391350722418269 tw10576840210671789112 tw7648397436462440928 tw18309551241384368466 tw1271918522489098807 tw2817846914126285514 tw4882907591742743798 tw3917032914927726259 tw13761729399983213335 tw16242122988654276489 tw2665485889861804325 tw4907853647970362821 tw8306309131225263646 tw15348264274501966004 tw4725669408804755683 tw329328333317125518 tw8436047383474200332 tw7900956972279591277 tw10133688058238971348 tw11637824145979196575 tw5023817563824351949 tw16178969507187853659 tw896892034789419988 tw11558373062273240656 tw9833627347281898124 tw18021508080576392053 tw4464227367235223481 tw1092676605190075595 tw8059273299463011638 tw3748138999963188168 tw6352258165521135164 tw7547400390342280862 tw11788511257784967844 tw14856981669170359107 tw994349781320895230 tw10641560768069859876 tw9025137127494911021 tw10594448139098636765 tw11800791030657022340 tw8975883777729341944 tw6652892354251748988 tw17354141886060127487 tw14876104393475819378 tw1860032466159588512 tw2826949118532196272 tw14358183961448684380 tw9163915664805902575 tw7430428933172524564 tw3943476897075362732 tw769713564172135367 tw8913796673576393555 tw15039674118026167792 tw18089202835510305649 tw12586510941236576025 tw5518914720934755033 tw12820680147338090028 tw14823185200096266861 tw763523113085896898 tw186438309698221068 tw9438391506784536530 tw13652497340522940410 tw7237179019045892416 tw6684403136851081365 tw2270049080974619240 tw14539751554259425685 tw6224689673717339660 tw1016639307555558478 tw961796942177025076 tw4599483188574286605 tw17399291295547478645 tw16738831683555010024 tw15758849928336738480 tw4139868234221082012 tw1066704657966728288 tw9899104445458277046 tw17460053928948176651 tw10122240006982000489 tw3082069245140349898 tw1419212692210760751 tw363522925409715204 tw10221401219269649821 tw5188644083997169433 tw9645517572812892692 tw17936987774465285763 tw3625750153321972502 tw13632168519299785966 tw14148833212995781438 tw18001962357762822934 tw4252289073642481253 tw5302783828955517404 tw13398112007609612871 tw487262149940088754 tw6753986143766178841 tw12703958269782494331 tw11224425210485186609 tw7542801035723345801 tw552865781999926743 tw13908163811383565485 tw2095431401928422866 tw15113093153849178366 tw7411064326268485892 tw5476448494359959354 tw8967865730846624978 tw2758450787746748394 tw2820727809951637524 tw8205157766717488933 tw5682485914684931699 tw4938950438381324242 tw16217062110873925844 tw15678269310347258018 tw5415107974498475202 tw6345258644067568707 tw1938052158761574261 tw10295168843479585250 tw10402941243568885289 tw539096109243293272 tw5060563155663561950 tw10770049483402997498 tw16108374882721729221 tw2108290907422240872 tw5465033781092592636 tw5782538839166883077 tw2188917241238963731 tw11410921707013424082 tw4983694170147581800 tw15446092754476558618 tw18005524326118125802 tw1511582659696758346 tw3738459817979918617 tw8309648220267732013 tw17066343712799812434 tw15686915108504523202 tw14459987595128463771 tw15728774216212222401 tw14287721420993837952 tw5403093460103962712 tw4584654632366448019 tw11886466575821725664 tw4129990004293420533 tw11303535475947407162 tw5738358986441311692 tw17524583478888370386 tw10145922720512423275 tw9672125444352930132 tw94233191707479003 tw13043964822426561424 tw1603470034913416718 tw12166424834956452669 tw2239941523885535231 tw6045050206290694198 tw8529400107262387264 tw8495931563988116963 tw4105567151673109644 tw6456849537660877626 tw8074664659057388642 tw49032682259224504 tw11579892101802949498 tw5550373682936151886 tw14290421358872511868 tw15698939063871094248 tw4803703325335907682 tw6038063476394184030 tw8069520827467430889 tw3158368491462273725 tw11466721599064446233 tw1915617651304959430 tw4029156004099091005 tw15724691362792312821 tw13111876546046569041 tw3643985028669466454 tw6469443664623999516 tw13298548531047219862 tw5510497484431227922 tw14424036337996409556 tw14094092243896257601 tw14400764950452760192 tw17835369642864361253 tw18077381356189519911 tw9824082794349379153 tw8529904455807942344 tw5134948218199712100 tw16372895102231669800 tw7038577092073258652 tw14464386187038908425 tw5147370175839079340 tw12001509299073698807 tw17392642552006096319 tw17330794056337537308 tw4064920217972760407 tw12760164182776000788 tw15424996558045107749 tw2314313228558974322 tw9081522820320698266 tw18355249744709653101 tw16829913719324665433 tw8454381099142319384 tw11444674575918137299 tw11125346204790301984 tw764947666233956051 tw11709045294546358467 tw8102419774710916456 tw6449163832394471038 tw5315653732481346890 tw17925763500229202741 tw7616101686868708844 tw619747701132667637 tw15173060010259692151 tw13598814834460001112 tw5104442752823243812 tw5718950437646087240 tw10672557122957823369 tw16944265931009877623 tw7612943506859372960 tw8600206773730992058 tw11068646453193164003 tw1293144762470508634 tw9682739061961652496 tw13156952767289205299 tw3640183230816722103 tw315468748010141307 tw6450544891147830386 tw10768123851570878818 tw2222470062670381056 tw10326437118302949273 tw9458513463623593136 tw273103396594248263 tw11275973651319963696 tw15063553303417550763 tw14843709657728290659 tw5648112337518226391 tw1610349100559729091 tw7410446196903368344 tw16583430125315113707 tw11066707001101037420 tw545680306773086081 tw11457517016785245643 tw15266880712020501239 tw16422983520513625116 tw472381275188078342 tw5845448726696732222 tw7191140666331634734 tw10406929951963107294 tw2795039394078091151 tw9846847844728507017 tw4438237986520053216 tw14665926432902990250 tw14428765758016164066 tw6791060541389721499 tw13286826780700935309 tw10643374014673113267 tw470652463670943188 tw2415632216574577588 tw10090761569121491219 tw4025304453379872343 tw7543467771945571735 tw8516816164491719270 tw922537979229055196 tw2092650686665671531 tw3068346373954060033 tw554569700190855039 tw6558592735871033557 tw7831441686538132098 tw15752112050846475499 tw18069829222128693272 tw17645684423708917093 tw17192856267976862639 tw1675100615087056917 tw4949247326600735809 tw5739633468824634141 tw505686848291662660 tw12574375600262820425 tw13309465803792209341 tw16197478582943653408 tw3512639691870524986 tw2386659911190314020 tw5290507105592077131 tw8219020885040466797 tw4062234849757259136 tw10573942343651063177 tw13798480203489352116 tw5244897473494996957 tw11204203528017631444 tw15743254839385131501 tw15115065534555790174 tw14790471768814939623 tw4302403792892891554 tw7166702686250103568 tw481763839921853430 tw1192549709711191679 tw2245414213067837532 tw2088742494876925197 tw4390515486038131598 tw4144681358651661836 tw9936101650133065027 tw9430902579506227692 tw13255788611500461681:True)
set_option maxRecDepth 100000 in
set_option maxHeartbeats 0 in
theorem PySem.Challenge.cw_fewbits_k63_trades_of_drawn_programs_holds : PySem.Challenge.rw_fewbits_k63_trades_of_drawn_programs.Holds := by
 w_on;o_law;k_head;(case hw=>w_witness2)
 k_fill
 refine EV.law_of (l:=PySem.Challenge.rw_fewbits_k63_trades_of_drawn_programs) K63.fns K63.tbs 81 12 _ "_law_script" rfl rfl ⟨rfl,by decide,by decide⟩ (λ w h Y=>PySem.W.kIn_of Y) K63.oks K63.binds rfl rfl rfl ?top ?tbl ?cnl ?tbn K63.main
 case top =>
  intro w h KX F hF;simp only[K63.fns,yCt,yCo,or_false] at hF;rcases hF with rfl | rfl | rfl | rfl | rfl | rfl | rfl | rfl | rfl | rfl | rfl | rfl | rfl | rfl | rfl | rfl | rfl | rfl | rfl | rfl | rfl | rfl | rfl | rfl | rfl | rfl | rfl | rfl | rfl | rfl | rfl | rfl | rfl | rfl | rfl | rfl | rfl | rfl | rfl | rfl | rfl | rfl | rfl | rfl | rfl | rfl | rfl | rfl | rfl | rfl | rfl | rfl | rfl | rfl | rfl | rfl | rfl | rfl | rfl | rfl | rfl | rfl | rfl | rfl | rfl | rfl | rfl | rfl | rfl | rfl | rfl | rfl | rfl | rfl | rfl | rfl | rfl | rfl | rfl | rfl | rfl | rfl
  all_goals
   refine' EV.top_mk ?a1 ?l1 ?c1 ?k1
   (case a1=>k_is)
   (case l1=>k_is)
   (case c1=>k_is)
   (case k1=>k_is)
 case tbl =>
  intro w h KX t ht;simp only[K63.tbs,yCt,yCo,or_false] at ht;rcases ht with rfl
  all_goals
   refine' EV.tab_mk ?a1 ?l1 ?c1
   (case a1=>k_is)
   (case l1=>k_is)
   (case c1=>(repeat' (first | exact True.intro | apply And.intro))<;>first | rfl | exact⟨_,rfl⟩)
 case cnl =>
  intro w h KX t ht;simp only[K63.tbs,yCt,yCo,or_false] at ht;rcases ht with rfl | rfl | rfl | rfl | rfl | rfl | rfl
  all_goals
   refine' EV.con_mk ?a1 ?l1 ?z1 ?c1
   (case a1=>k_is)
   (case l1=>k_is)
   (case z1=>decide)
   (case c1=>(repeat' (first | exact True.intro | apply And.intro))<;>first | rfl | exact⟨_,rfl⟩)
 case tbn =>
  intro w h KX x hx;simp only[EV.bltNames,yCt,yCo,or_false] at hx;rcases hx with rfl | rfl | rfl | rfl | rfl | rfl | rfl | rfl | rfl | rfl | rfl | rfl | rfl | rfl | rfl | rfl | rfl | rfl
  all_goals k_is
