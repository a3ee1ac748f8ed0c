import PyProof.Rows.All
import Wide.All
import OpenK.AllK
import Wide.FinOn
import Lean
import PyProof.EqAt
import PyProof.EqKinds
import PyProof.TupleCall
import PyProof.ListMulRoad
import PyProof.FactsAll.tuple
import PyProof.MaxThree
import PyProof.SeqI3
import PyProof.Draws
import PyProof.ZipIter
import PyProof.NeKinds
import PyProof.Rows.SortShell
import PyProof.ListRange
import PyProof.DictTable
import PyProof.Rows.Range3
import PyProof.FactsAll.range_2
import PyProof.Rows.SeqMore2
import PySem.Challenge.RW_fewbits_k62_trades_between_known_bits
set_option compiler.extract_closed false
set_option genInjectivity false
set_option genSizeOf false
open List renaming getElem?_eq_getElem->yAa,length_map->yAb,replicate->yAd,size_toArray->yAe,getElem?_append_right->yAf,take_length->yAh,range->yAm,replicate_succ->yAu,getElem?_cons_zero->yAw,getElem?_set_self->yAy,getElem?_set_ne->yAz,map_append->yBa,map_cons->yBb,length_range->yBd,length_cons->yBg,length_set->yBi,getElem?_cons_succ->yBj,length_take->yBo,take_of_length_le->yBq,map_map->yBs,lookup_cons->yBv,foldl_cons->yBy,append_assoc->yCf,map_congr_left->yCh,not_mem_nil->yCo,mem_cons->yCs,flatten_cons->yCv,filterMap_cons->yCw,length_nil->yCz,getElem?_eq_none->yDd,getElem?_toArray->yDe,getElem?_take_of_lt->yDl,forIn_cons->yDm,nil_append->yDn,forIn_nil->yDv,set_cons_zero->yDw,append_nil->yDy,length_replicate->yDz,length_filter_le->yEg,drop_eq_getElem_cons->yEj,take->yEk,drop_zero->yEl,foldl_nil->yEm,cons_append->yEp,replicate_zero->yEs,getD_cons_zero->yEt,set_eq_of_length_le->yEy,getElem?_replicate->yFc,mem_singleton->yFe,set_cons_succ->yFk,take_succ_eq_append_getElem->yFl,reverse_cons->yFp,length_drop->yFw,zipIdx_cons->yFx,filter_cons->yFy,getElem?_of_mem->yFz,zipIdx_nil->yGc,getD_cons_succ->yGe,map_nil->yGi,map_replicate->yGm,nodup_append->yGq,getD->yGr,getElem_inj->yGx,drop_length->yGz,all_eq_true->yHc,getElem_mem->yHd
open Nat renaming le_refl->yAc,testBit_and->yAg,mod_two_eq_zero_or_one->yAp,pow_le_pow_right->yAq,testBit_xor->yAs,testBit_two_pow_sub_one->yBf,or_lt_two_pow->yBh,zero_testBit->yBl,sub_self->yBm,testBit_two_pow->yBn,testBit_mod_two_pow->yBr,lt_irrefl->yBx,xor_lt_two_pow->yBz,pow_lt_pow_right->yCb,lt_pow_two_of_testBit->yCj,and_le_left->yCl,and_two_pow_sub_one_eq_mod->yCm,testBit_succ->yCp,testBit_div_two_pow->yCt,testBit_zero->yDa,add_comm->yDc,toNat_testBit->yDo,zero_add->yEb,div_lt_iff_lt_mul->yEe,lt_succ_of_lt->yEh,lt_succ_self->yEn,min_eq_right->yEo,and_le_right->yEq,le_of_lt->yEu,ne_of_gt->yEv,pow_succ->yFa,not_lt_zero->yFh,min_eq_left->yFi,reduceAdd->yFj,testBit_eq_decide_div_mod_eq->yFm,pow_zero->yFs,le_of_ble_eq_true->yFv,zero_le->yGa,div_add_mod->yGd,lt_or_ge->yGj,sub_zero->yGk,sub_le->yGt,reduceSub->yGv,pow_add->yGw,mod_eq_of_lt->yHa,reduceLeDiff->yHb,le_of_eq->yHf,mul_comm->yHh
open Int renaming toNat_natCast->yAr,natCast_mul->yEf,natCast_emod->yEr,natCast_nonneg->yFb,mul_le_mul_of_nonneg_right->yFu,emod_lt_of_pos->yGl,le_trans->yHi
open Bool renaming false_and->yAl,true_and->yAo,and_eq_true->yAt,false_eq_true->yAv,false_ne_true->yAx,and_true->yBk,eq_false_or_eq_true->yBw,not_false->yDi,and_false->yDj,or_false->yDq,not_true->yDs,or_eq_true->yEd,eq_iff_iff->yFg,or_true->yFt
open Option renaming bind_some->yCc,bind->yCx,some_ne_none->yDt,getD_none->yGy
open PySem.Builtin.Range renaming rangeSize->yCq,small->yHk
open PySem.Builtin.SmallTypes renaming nextOf->yAi,ownedTupleIsFree->yAj,ownedTupleHandOut->yBu
open PySem.Builtin.Int renaming intBits->yAk
open PyProof.Rows renaming callWith_type1->yBe,slot_tuple_getitem->yCe
open PySem.Heap renaming size_push->yBc,get?_update_other->yBt,get?_update_self->yCk,SameBut->yDx
open PySem.PyData renaming int->yAn,depthAll->yCa,eqv->yCg,canLayAll0->yCi,tuple->yDf,bool->yDr,list->yHl
open PySem.W renaming emptyDict->yCd,keepIn->yCu,fnOf->yDb,instObj->yDk,kia_one->yEc,nsIn->yEz,findIn->yFq,codeIn->yFr,methodObj->yGp,OpenLaw->yHg,lookIn->yHj
open PySem.F renaming plain_extend_loop->yDh,slot_int_rmul->yEa,args_tuple_add_2->yEw,args_tuple_mul_2->yEx,entry_tuple_add->yFd,entry_tuple_mul->yFf,slot_tuple_add->yFn,slot_tuple_mul->yFo,slot_int_bit_length->yGb,entry_extend_loop->yGo
open PySem.Builtin renaming bitNot->yBp,divisionGoesByPylong->yCr,bitAnd->yDu,bitXor->yGn,bitOr->yGu
open PySem.Builtin.Slice renaming slicePlaces->yDg,sliceAdjust->yEi,sliceApplied->yGf
open PySem.Builtin.Tuple renaming tupleExact->yCn,tupleItemsOf->yGg,tupleTooMany->yGh
open PySem.Builtin.List renaming listExtendWith->yCy,listSameRef->yGs,listItems->yHe
open Array renaming length_toList->yDp
open PySem renaming Value->qx,Shared->qj,Addr->qv,Expr->qw,wpAny->qy,sizeLine->qk,wpAny_field->qu,Program->qo,starEach->zq,wpAny_seqItems->zx,sizeLine_eq->zj,wpAny_setField_rec->zv,World->zw,Around->zy,Scope->zk,wpAny_holding->zu,binaryOp->zo,IsPair->xq,wpAny_call_entry->xz,assignEach->xx,wpAny_Call_Name_kw->xj,wpAny_newObj_type->xy,mainGlobals->xk,IsZip->xu,bootBuiltins->xo,wpAny_onRaise->jq,Stmt->jz,compareOp->jx,foldedSetIterable->jj,wpAny_truthy_bool->jv,wpAny_pyIter_list->jw,wpAny_letGo->jy,behindInMarks->jk,pyNext->ju,Operator->jo,FuncData->vq,NameKind->vz,wpAny_rule->vx,CmpOp->vj,wpAny_attempt->vv,codeAny->vw,wpAny_passesOwn->vy,wpAny_updateSeq->vk,sliceBounds->vo,wpAny_pyNext_list_item->wq,wpAny_pyNext_list_end->wz,call_meets->wj,wpAny_updateSeq_pair->ww,letOwnedTupleGo->wu,shortFactorBits->yq,UnaryOp->yz,rawInt->yx,typeIs_int->yj,wpAny_binaryOp_repeat_ref->yv,swappedStores->yw,wpAny_standAt->yy,wpAny_isInstance->yk,wpAny_pyIter_zip->yu,wpAny_pyIter_rangeiter->yo,wpAny_specialOf->kq,IsRangeIter->kz,isSubtype_stop->kx
open Option renaming some->qq,none->qz
abbrev wB:=@PySem.wpAny_bind
abbrev wP:=@PySem.wpAny_pure
abbrev hpS:=@PySem.Heap.get?_push_of_some
theorem gIm {α:Type _}{l:List α}{i:Nat}{a:α}:l[i]? = qq a->∃ h,l[i]=a:=List.getElem?_eq_some_iff.mp
abbrev dqF:=@decide_eq_false
abbrev dqT:=@decide_eq_true
abbrev oqT:=@of_decide_eq_true
abbrev FrG:=PySem.W.Frag
abbrev xAa:=@PySem.Heap.lt_size
abbrev xAb:=@List.getElem?_map
abbrev xAc:=@Nat.lt_of_lt_of_le
abbrev xAd:=@List.mem_cons_self
abbrev xAe:=@PySem.Heap.get?_push_size
abbrev xAf:=@Nat.two_pow_pos
abbrev xAg:=@List.mem_cons_of_mem
abbrev xAh:=@List.getD_eq_getElem?_getD
abbrev xAi:=@Nat.le_trans
abbrev xAj:=@Nat.lt_of_le_of_lt
abbrev xAk:=@Nat.ne_of_lt
abbrev xAl:=@List.mem_of_getElem?
abbrev xAm:=@Nat.eq_of_testBit_eq
abbrev xAn:=@List.getElem?_append_left
abbrev xAo:=@List.length_append
abbrev xAp:=@Nat.testBit_or
abbrev xAq:=@List.mem_append_right
set_option Elab.async false
set_option linter.all false
set_option maxRecDepth 100000
namespace L2
open PySem PySem.Spec PyProof.Rows
abbrev fM:=Sum Int Str
noncomputable def pY:fM->qx->Bool
 | .inl k,v=>Value.isInt k v
 | .inr x,v=>Value.isStrOf x v
noncomputable def aVX(w:zw):fM->Int
 | .inl k=>hashInt k
 | .inr x=>hashStr w x
theorem mB:∀ {k:fM}{v:qx},pY k v=true->(∃ i t,k=Sum.inl i/\v=Value.int i t)\/(∃ x t,k=Sum.inr x/\v=Value.str x t)
 | .inl i,v,h=>by
   obtain⟨t,e⟩:=Value.isInt_shape (k:=i) (v:=v) h;exact .inl ⟨i,t,rfl,e⟩
 | .inr x,v,h=>by
   obtain⟨t,e⟩:=Value.isStrOf_shape (x:=x) (v:=v) h;exact .inr ⟨x,t,rfl,e⟩
theorem aFA(x:Str)(t:Tok):pY (.inr x) (.str x t)=true:=by simp[pY,Value.isStrOf]
theorem aSF(a b:Int):decide ((Sum.inl a:fM)=Sum.inl b)=(a==b):=by
 by_cases e:a=b
 ·subst e;simp
 ·have h:¬ (Sum.inl a:fM)=Sum.inl b:=λ q=>e (Sum.inl.inj q)
  rw[dqF h];exact(beq_eq_false_iff_ne.mpr e).symm
theorem aQt(a b:Str):decide ((Sum.inr a:fM)=Sum.inr b)=decide (a=b):=by
 by_cases e:a=b
 ·subst e;simp
 ·have h:¬ (Sum.inr a:fM)=Sum.inr b:=λ q=>e (Sum.inr.inj q)
  rw[dqF h,dqF e]
theorem aQm(a:Int)(b:Str):decide ((Sum.inl a:fM)=Sum.inr b)=false:=dqF (λ q=>nomatch q)
theorem aQ0(a:Str)(b:Int):decide ((Sum.inr a:fM)=Sum.inl b)=false:=dqF (λ q=>nomatch q)
noncomputable def nX(prog:qo)(w:zw):PySem.KeyKind prog w fM where
 is:=pY
 hash:=aVX w
 inj:=λ v a b ha hb=>by
  rcases mB ha with ⟨i,t,rfl,rfl⟩ | ⟨x,t,rfl,rfl⟩
  ·rcases mB hb with ⟨j,u,rfl,e⟩ | ⟨y,u,rfl,e⟩
   ·injection e with e1 _;rw[e1]
   ·exact nomatch e
  ·rcases mB hb with ⟨j,u,rfl,e⟩ | ⟨y,u,rfl,e⟩
   ·exact nomatch e
   ·injection e with e1 _;rw[e1]
 byValue:=λ k v h=>by
  rcases mB h with ⟨i,t,rfl,rfl⟩ | ⟨x,t,rfl,rfl⟩<;>rfl
 pyHash:=λ hv h=>by
  rcases mB hv with ⟨i,t,rfl,rfl⟩ | ⟨x,t,rfl,rfl⟩
  ·exact wpAny_pyHash_int h
  ·exact wpAny_pyHash_str h
 eqBool:=λ hu hv h=>by
  rcases mB hu with ⟨i,t,rfl,rfl⟩ | ⟨x,t,rfl,rfl⟩
  ·rcases mB hv with ⟨j,u,rfl,rfl⟩ | ⟨y,u,rfl,rfl⟩
   ·rw[aSF] at h;exact wpAny_eqBool_int h
   ·rw[aQm] at h;exact SeqAt.EqAt.int_str i t y u _ _ _ _ h
  ·rcases mB hv with ⟨j,u,rfl,rfl⟩ | ⟨y,u,rfl,rfl⟩
   ·rw[aQ0] at h;exact SeqAt.EqAt.str_int x t j u _ _ _ _ h
   ·rw[aQt] at h;exact wpAny_eqBool_str h
 «strs»:=λ k x t v h=>by
  rcases mB h with ⟨i,u,rfl,e⟩ | ⟨y,u,rfl,e⟩
  ·exact nomatch e
  ·injection e with e1 _
   subst e1;cases v<;>rfl
end L2
namespace L2
open PySem PySem.Spec PyProof.Rows
inductive V where
 | non | bl (b:Bool) | int (i:Int) | str (x:Str) | byt (b:Array UInt8) | flt (b:UInt64) | ref (a:qv) | ty (n:String)
 deriving DecidableEq
noncomputable def aZ:V->qx->Prop
 | .non,u=>u=Value.none
 | .bl b,u=>u=Value.bool b
 | .int i,u=>∃ t,u=Value.int i t
 | .str x,u=>∃ t,u=Value.str x t
 | .byt b,u=>∃ t,u=Value.bytes b t
 | .flt b,u=>∃ t,u=Value.float b t
 | .ref a,u=>u=Value.ref a
 | .ty n,u=>u=Value.type n
noncomputable abbrev aS:List V->List qx->Prop:=Paired aZ
theorem aS.length{xs:List V}{us:List qx}(r:aS xs us):xs.length=us.length:=Paired.length r
theorem aS.get:∀ {xs:List V}{us:List qx}{i:Nat}{x:V},aS xs us->xs[i]? = qq x->∃ u,us[i]? = qq u/\aZ x u
 | _,_,_,_,.nil,e=>by simp at e
 | _,_,0,_,.cons r _,e=>by simp at e;subst e;exact⟨_,rfl,r⟩
 | _,_,i+1,x,.cons _ t,e=>by
   obtain⟨u,h1,h2⟩:=aS.get (i:=i) (x:=x) t (by simpa using e)
   exact⟨u,by simpa using h1,h2⟩
theorem aS.set{x:V}{u:qx}(r:aZ x u):∀ {xs:List V}{us:List qx} (i:Nat),aS xs us->aS (xs.set i x) (us.set i u)
 | _,_,_,.nil=>.nil
 | _,_,0,.cons _ t=>.cons r t
 | _,_,i+1,.cons q t=>.cons q (aS.set r i t)
theorem aS.append:∀ {xs ys:List V}{us ws:List qx},aS xs us->aS ys ws->aS (xs++ys) (us++ws)
 | _,_,_,_,.nil,s=>s
 | _,_,_,_,.cons r t,s=>.cons r (aS.append t s)
theorem aS.take:∀ {xs:List V}{us:List qx} (n:Nat),aS xs us->aS (xs.take n) (us.take n)
 | _,_,0,_=>.nil
 | _,_,_+1,.nil=>.nil
 | _,_,n+1,.cons r t=>.cons r (aS.take n t)
theorem aS.drop:∀ {xs:List V}{us:List qx} (n:Nat),aS xs us->aS (xs.drop n) (us.drop n)
 | _,_,0,r=>r
 | _,_,_+1,.nil=>.nil
 | _,_,n+1,.cons _ t=>aS.drop n t
noncomputable def aKd:Option V->Option qx->Prop
 | some v,qq u=>aZ v u
 | none,qz=>True
 | _,_=>False
noncomputable def KV{κ:Type}:List (κ×V)->List (κ×qx)->Prop:=Paired λ(p:κ×V) (q:κ×qx)=>p.1=q.1/\aZ p.2 q.2
noncomputable def kV:fM->V
 | .inl i=>.int i
 | .inr x=>.str x
inductive HO where
 | lst (xs:List V)
 | tup (xs:List V)
 | dK (aW:List (fM×V)) | dT (aW:List (List fM×V))
 | set (S:Int->Bool) (n:Nat)
 | ins (C dx:qv) (fs:List (Str×V))
 | own (x:qv)
 | xd (fs:List (Str×V))
 | met (f x:qv)
 | rng (lo hi:Int)
 | frz (o:Obj) (u:HO)
 | tbl (ps:Array qx)
 | ext (φ:Heap->Prop)
abbrev Hp:=qv->Option HO
noncomputable def bE(H:Hp)(a:qv)(o:HO):Hp:=λ b=>if b=a then qq o else H b
theorem dE{H:Hp}{a:qv}{o:HO}:bE H a o a=qq o:=by unfold bE;rw[if_pos rfl]
theorem bP{H:Hp}{a b:qv}{o:HO}(h:b≠a):bE H a o b=H b:=by unfold bE;rw[if_neg h]
theorem eC{H:Hp}{a b:qv}{o:HO}(h:H a=qq o)(h':H b=qz):a≠b:=by
 intro e;subst e;rw[h] at h';cases h'
section
variable (P : qo)(w : zw)
noncomputable def gW(H:Hp)(h:Heap)(a:qv):HO->Prop
 | .lst xs=>xs.length<=qk/\∃ (aF:List qx) (n:Nat),aS xs aF/\h.get? a=qq {cls:=.type "list",data:=.seq aF.toArray n }
 | .tup xs=>xs.length<=qk/\∃ aF:List qx,aS xs aF/\IsTup h a aF.toArray
 | .dK aW=>aW.length<=qk/\(a==sysModules)=false/\∃ vs,KV aW vs/\h.DictOf (nX P w) a vs
 | .dT aW=>aW.length<=qk/\(a==sysModules)=false/\∃ xs:List (List fM×qv×qx),
    Paired (λ(p:List fM×V) (q:List fM×qv×qx)=>p.1=q.1/\H q.2.1=qq (.tup (p.1.map kV))/\aZ p.2 q.2.2) aW xs /\
    ∃ o es ep,h.get? a=qq o/\o.ExactDict/\o.data=.dict es ep/\es.toList=xs.map (entryOfKey (tupleKind (nX P w)))/\(xs.map (·.1)).Nodup
 | .set S n=>h.SetOf (intKind P w) a S n
 | .ins C dx fs=>H dx=qq (.own a)/\fs.length<=1000/\dx≠a/\h.get? a=qq (yDk C dx) /\
    ∃ mA,h.Ns1 dx mA/\(∀ f,aKd (fs.lookup f) (mA f))/\PySem.Within mA (fs.map (·.1))
 | .own _=>∃ o,h.get? a=qq o
 | .xd fs=>∃ mA,h.Ns1 a mA/\∀ f,aKd (fs.lookup f) (mA f)
 | .rng lo hi=>∃ t u v,h.get? a=qq {cls:=.type "range",data:=.fields #[.int lo t,.int hi u,.int 1 v] }
 | .frz o u=>h.get? a=qq o/\gW H h a u
 | .tbl ps=>h.get? a=qq {cls:=.none,data:=.fields ps }
 | .met f x=>h.get? a=qq (yGp (.ref f) (.ref x))
 | .ext φ=>φ h/\(∃ o,h.get? a=qq o)/\∀ h1 h2:Heap,φ h1->(∀ o,h1.get? a=qq o->h2.get? a=qq o)->φ h2
def dM(H:Hp)(h:Heap):Prop:=∀ a o,H a=qq o->gW P w H h a o
end
section
variable {P : qo}{w : zw}{H H' : Hp}{h h' : Heap}{a : qv}{o : HO}
theorem gW.lt(x:gW P w H h a o):a<h.objs.size:=by
 cases o with
 | lst xs=>obtain⟨_,_,_,_,e⟩:=x;exact xAa e
 | tup xs=>obtain⟨_,_,_,p⟩:=x;exact p.lt
 | dK aW=>obtain⟨_,_,_,_,o,_,_,e,_⟩:=x;exact xAa e
 | dT aW=>obtain⟨_,_,_,_,o,_,_,e,_⟩:=x;exact xAa e
 | set S n=>obtain⟨o,_,_,_,e,_⟩:=x;exact xAa e
 | ins C dx fs=>obtain⟨_,_,_,e,_⟩:=x;exact xAa e
 | own y=>obtain⟨_,e⟩:=x;exact xAa e
 | xd fs=>obtain⟨_,⟨_,_,_,e,_⟩,_⟩:=x;exact xAa e
 | rng lo hi=>obtain⟨_,_,_,e⟩:=x;exact xAa e
 | frz ob u=>obtain⟨e,_⟩:=x;exact xAa e
 | tbl ps=>exact xAa (show h.get? a=qq _ from x)
 | met f y=>exact xAa (show h.get? a=qq _ from x)
 | ext φ=>obtain⟨_,⟨_,e⟩,_⟩:=x;exact xAa e
theorem Paired.mapP{α β:Type}{F G:α->β->Prop}:∀ {l₁:List α}{l₂:List β},Paired F l₁ l₂->(∀ a b,F a b->G a b)->Paired G l₁ l₂
 | _,_,.nil,_=>.nil
 | _,_,.cons r t,f=>.cons (f _ _ r) (Paired.mapP t f)
theorem gW.stay(x:gW P w H h a o)(k:∀ b u,(b=a\/H b=qq (.own a))->h.get? b=qq u->h'.get? b=qq u)
 (ho:∀ b,H b=qq (.own a)->H' b=qq (.own a)) (ht:∀ b xs,H b=qq (.tup xs)->H' b=qq (.tup xs)):gW P w H' h' a o:=by
 induction o with
 | lst xs=>obtain⟨z,aF,n,r,e⟩:=x;exact⟨z,aF,n,r,k _ _ (.inl rfl) e⟩
 | tup xs=>obtain⟨z,aF,r,ob,e,c⟩:=x;exact⟨z,aF,r,ob,k _ _ (.inl rfl) e,c⟩
 | dK aW=>obtain⟨z,y,vs,r,ob,es,ep,e,c⟩:=x;exact⟨z,y,vs,r,ob,es,ep,k _ _ (.inl rfl) e,c⟩
 | dT aW =>
   obtain⟨z,y,xs,r,ob,es,ep,e,c⟩:=x;exact⟨z,y,xs,Paired.mapP r λ p q z=>⟨z.1,ht _ _ z.2.1,z.2.2⟩,ob,es,ep,k _ _ (.inl rfl) e,c⟩
 | set S n=>obtain⟨ob,es,ep,t,e,c⟩:=x;exact⟨ob,es,ep,t,k _ _ (.inl rfl) e,c⟩
 | ins C dx fs =>
   obtain⟨d,z,ne,e,mA,⟨od,es,ep,e2,c⟩,r⟩:=x;exact⟨ho _ d,z,ne,k _ _ (.inl rfl) e,mA,⟨od,es,ep,k _ _ (.inr d) e2,c⟩,r⟩
 | own y=>obtain⟨ob,e⟩:=x;exact⟨ob,k _ _ (.inl rfl) e⟩
 | xd fs=>obtain⟨mA,⟨od,es,ep,e,c⟩,r⟩:=x;exact⟨mA,⟨od,es,ep,k _ _ (.inl rfl) e,c⟩,r⟩
 | rng lo hi=>obtain⟨t,u,v,e⟩:=x;exact⟨t,u,v,k _ _ (.inl rfl) e⟩
 | frz ob u ih=>obtain⟨e,q⟩:=x;exact⟨k _ _ (.inl rfl) e,ih q⟩
 | tbl ps =>
   have e:h.get? a=qq {cls:=.none,data:=.fields ps }:=x;show h'.get? a=qq {cls:=.none,data:=.fields ps };exact k a _ (.inl rfl) e
 | met f y =>
   have e:h.get? a=qq (yGp (.ref f) (.ref y)):=x;show h'.get? a=qq (yGp (.ref f) (.ref y));exact k a _ (.inl rfl) e
 | ext φ=>obtain⟨p,⟨o,e⟩,st⟩:=x;exact⟨st _ _ p λ o q=>k _ _ (.inl rfl) q,⟨o,k _ _ (.inl rfl) e⟩,st⟩
theorem dM.lt(x:dM P w H h)(e:H a=qq o):a<h.objs.size:=(x a o e).lt
theorem dM.fresh(x:dM P w H h)(e:h.objs.size<=a):H a=qz:=by
 cases q:H a with
 | none=>rfl
 | some u=>exact absurd (xAc (x.lt q) e) (yBx _)
theorem dM.kept(x:dM P w H h)(k:∀ b u,h.get? b=qq u->h'.get? b=qq u):dM P w H h':=λ a o e =>
 (x a o e).stay (λ b u _ q=>k b u q) (λ _ q=>q) λ _ _ q=>q
theorem dM.laid(x:dM P w H h)(k:∀ b u,h.get? b=qq u->h'.get? b=qq u)(hp:h.objs.size<=a)(new:gW P w (bE H a o) h' a o):dM P w (bE H a o) h':=λ b u e=>by
 have hn:=x.fresh hp
 by_cases hb:b=a
 ·subst hb;rw[dE] at e;cases e;exact new
 ·rw[bP hb] at e;exact(x b u e).stay (λ c v _ q=>k c v q) (λ c q=>by rw[bP (eC q hn)];exact q) λ c xs q=>by rw[bP (eC q hn)];exact q
end
def Rd(H:Hp)(a:qv)(u:HO):Prop:=H a=qq u\/∃ o,H a=qq (.frz o u)
theorem Rd.of{H:Hp}{a:qv}{u:HO}(h:H a=qq u):Rd H a u:=.inl h
theorem Rd.ok{P:qo}{w:zw}{H:Hp}{h:Heap}{a:qv}{u:HO}(r:Rd H a u)(x:dM P w H h):gW P w H h a u:=by
 rcases r with r | ⟨o,r⟩
 ·exact x a u r
 ·obtain⟨_,q⟩:=x a _ r;exact q
noncomputable def Mut:Option HO->Prop
 | some (.lst _)=>True
 | some (.dK _)=>True
 | some (.dT _)=>True
 | some (.set _ _)=>True
 | some (.ins _ _ _)=>True
 | some (.ext _)=>True
 | _=>False
section
variable {P : qo}{w : zw}{H : Hp}{h h' : Heap}{x e : qv}{o' : HO}
theorem dM.write(ok:dM P w H h)(mu:Mut (H x))(he:e=x\/H e=qq (.own x))(k:∀ b u,b≠e->h.get? b=qq u->h'.get? b=qq u)(heo:∃ u,h'.get? e=qq u)
 (new:gW P w (bE H x o') h' x o'):dM P w (bE H x o') h':=λ b u q=>by
 have nown:∀ c y,H c=qq (.own y)->c≠x:=λ c y r z=>by subst z;rw[r] at mu;exact mu
 have ntup:∀ c xs,H c=qq (.tup xs)->c≠x:=λ c xs r z=>by subst z;rw[r] at mu;exact mu
 by_cases hb:b=x
 ·subst hb;rw[dE] at q;cases q;exact new
 ·rw[bP hb] at q
  by_cases hbe:b=e
  ·have q':H b=qq (.own x):=by
    rcases he with z | z
    ·exact absurd (hbe.trans z) hb
    ·rw[hbe];exact z
   rw[q] at q';cases q';obtain⟨v,hv⟩:=heo;exact⟨v,by rw[hbe];exact hv⟩
  ·refine(ok b u q).stay (λ c v hc r=>k c v ?_ r) (λ c r=>by rw[bP (nown c b r)];exact r) λ c xs r=>by rw[bP (ntup c xs r)];exact r
   rcases hc with rfl | hc
   ·exact hbe
   ·rintro rfl;rcases he with z | z
    ·exact nown c b hc z
    ·rw[hc] at z;cases z;exact hb rfl
end
structure Un(fs ex:List qv)(H H':Hp)(h h':Heap):Prop where
 keep:∀ b o,h.get? b=qq o->H b=qz->b ∉ fs->b ∉ ex->h'.get? b=qq o
 slot:∀ b o,h.get? b=qq o->H b=qz->b∈fs->b ∉ ex->∃ sl,h'.get? b=qq {o with slots:=sl }
 free:∀ b o,h.get? b=qq o->H b=qz->b ∉ ex->H' b=qz
 there:∀ b o,h.get? b=qq o->b ∉ ex->∃ o',h'.get? b=qq o'
 tups:∀ b xs,H b=qq (.tup xs)->H' b=qq (.tup xs)
 frzs:∀ b o u,H b=qq (.frz o u)->H' b=qq (.frz o u)
 tbls:∀ b ps,H b=qq (.tbl ps)->∃ more,H' b=qq (.tbl (ps++more))
section
variable {fs fs' ex ex' : List qv}{H H1 H2 : Hp}{h h1 h2 h' : Heap}{a x e : qv}{o : HO}
theorem Un.any(u:Un fs ex H H1 h h1){b:qv}{ob:Obj}(q:h.get? b=qq ob)(n:H b=qz)(hx:b ∉ ex):∃ sl,h1.get? b=qq {ob with slots:=sl }:=by
 by_cases hb:b∈fs
 ·exact u.slot b ob q n hb hx
 ·exact⟨ob.slots,u.keep b ob q n hb hx⟩
theorem Un.trans(a:Un fs ex H H1 h h1)(b:Un fs ex H1 H2 h1 h2):Un fs ex H H2 h h2 where
 keep:=λ c ob q n hc hx=>b.keep c ob (a.keep c ob q n hc hx) (a.free c ob q n hx) hc hx
 slot:=λ c ob q n hc hx=>by
  obtain⟨sl,e1⟩:=a.slot c ob q n hc hx;obtain⟨sl',e2⟩:=b.slot c _ e1 (a.free c ob q n hx) hc hx;exact⟨sl',e2⟩
 free:=λ c ob q n hx=>by
  obtain⟨o',e1⟩:=a.there c ob q hx;exact b.free c o' e1 (a.free c ob q n hx) hx
 there:=λ c ob q hx=>by
  obtain⟨o',e1⟩:=a.there c ob q hx;exact b.there c o' e1 hx
 tups:=λ c xs q=>b.tups c xs (a.tups c xs q)
 frzs:=λ c ob xs q=>b.frzs c ob xs (a.frzs c ob xs q)
 tbls:=λ c ps q=>by
  obtain⟨m1,e1⟩:=a.tbls c ps q;obtain⟨m2,e2⟩:=b.tbls c _ e1;exact⟨m1++m2,by rw[e2,Array.append_assoc]⟩
theorem Un.kept(k:∀ b u,h.get? b=qq u->h'.get? b=qq u):Un fs ex H H h h':=
 ⟨λ b ob q _ _ _=>k b ob q,λ b ob q _ _ _=>⟨ob.slots,k b ob q⟩,λ _ _ _ n _=>n,λ b ob q _=>⟨ob,k b ob q⟩,λ _ _ q=>q,λ _ _ _ q=>q,λ _ ps q=>⟨#[],by rw[q];simp⟩⟩
theorem Un.refl:Un fs ex H H h h:=Un.kept λ _ _ q=>q
theorem Un.laid(k:∀ b u,h.get? b=qq u->h'.get? b=qq u)(hp:h.objs.size<=a)(hn:H a=qz):Un fs ex H (bE H a o) h h' where
 keep:=λ b u q _ _ _=>k b u q
 slot:=λ b u q _ _ _=>⟨u.slots,k b u q⟩
 free:=λ b u q n _=>by rw[bP (xAk (xAc (xAa q) hp))];exact n
 there:=λ b u q _=>⟨u,k b u q⟩
 tups:=λ b xs q=>by rw[bP (eC q hn)];exact q
 frzs:=λ b u xs q=>by rw[bP (eC q hn)];exact q
 tbls:=λ b ps q=>⟨#[],by rw[bP (eC q hn),q];simp⟩
theorem Un.write(mu:Mut (H x))(he:e=x\/H e=qq (.own x))(k:∀ b u,b≠e->h.get? b=qq u->h'.get? b=qq u)(heo:∃ u,h'.get? e=qq u):Un fs ex H (bE H x o) h h':=by
 have hx:∀ b,H b=qz->b≠x:=λ b n z=>by subst z;rw[n] at mu;exact mu
 have hb:∀ b,H b=qz->b≠e:=λ b n z=>by
  subst z;rcases he with r | r
  ·exact hx b n r
  ·rw[n] at r;cases r
 have hm:∀ b u,H b=qq u->¬ Mut (qq u)->b≠x:=λ b u q nm z=>by subst z;rw[q] at mu;exact nm mu
 refine⟨λ b u q n _ _=>k b u (hb b n) q,λ b u q n _ _=>⟨u.slots,k b u (hb b n) q⟩,λ b u q n _=>by rw[bP (hx b n)];exact n,λ b u q _=>?_,
  λ b xs q=>by rw[bP (hm b _ q λ z=>z)];exact q,λ b u xs q=>by rw[bP (hm b _ q λ z=>z)];exact q,λ b ps q=>⟨#[],by rw[bP (hm b _ q λ z=>z),q];simp⟩⟩
 by_cases hbe:b=e
 ·subst hbe;exact heo
 ·exact⟨u,k b u hbe q⟩
theorem Un.mono(u:Un fs ex H H1 h h1)(hs:∀ b∈fs,b∈fs')(hx:∀ b∈ex,b∈ex'):Un fs' ex' H H1 h h1:=
 ⟨λ b ob q n hb he=>u.keep b ob q n (λ z=>hb (hs b z)) λ z=>he (hx b z),λ _ _ q n _ he=>u.any q n λ z=>he (hx _ z),λ b ob q n he=>u.free b ob q n λ z=>he (hx b z),λ b ob q he=>u.there b ob q λ z=>he (hx b z),u.tups,u.frzs,u.tbls⟩
end
noncomputable def trk(h:Heap)(H:Hp):List qv:=(yAm h.objs.size).filter λ a=>(H a).isSome
noncomputable def mV(h:Heap)(H:Hp):Heap:=PySem.W.hideAll h (trk h H)
theorem aMm(h:Heap)(H:Hp):(mV h H).objs.size=h.objs.size:=PySem.W.hideAll_size _ _
theorem aNT{h:Heap}{H:Hp}{b:qv}{o:Obj}(e:h.get? b=qq o)(n:H b=qz):(mV h H).get? b=qq o:=
 PySem.W.hideAll_get _ e λ hm=>by
  have q:(H b).isSome=true:=(List.mem_filter.mp hm).2;rw[n] at q;simp at q
theorem aPp{h:Heap}{H:Hp}{b:qv}{o:Obj}(e:(mV h H).get? b=qq o):h.get? b=qq o/\H b=qz:=by
 have e':h.get? b=qq o:=PySem.W.of_hideAll (trk h H) e;refine⟨e',?_⟩;cases q:H b with
 | none=>rfl
 | some x =>
   have hm:b∈trk h H:=List.mem_filter.mpr ⟨List.mem_range.mpr (xAa e'),by simp[q]⟩
   have z:(mV h H).get? b=qz:=PySem.W.hideAll_none (trk h H) hm;rw[z] at e;cases e
noncomputable def aPA(g h:Heap)(L:qv):List (qv×Obj):=(yAm h.objs.size).filterMap λ a=>if a=L\/(g.get? a).isSome=true then qz else (h.get? a).map λ o=>(a,o)
noncomputable def cT(g h:Heap)(L d:qv):List (qv×Obj):=(aPA g h L).filter λ p=>decide (p.1≠d)
end L2
namespace L2
open PySem PySem.Spec PyProof.Rows
structure Mod(K:FrG)(mg:Str->Option qx)(base:Heap):Prop where
 kin:K.In base
 glob:base.Ns xk mg
 blt:∃ mb,base.Ns builtinsNs mb/\∀ x:Str,x ≠ "__name__" -> mb x=xo x
 nolimit:base.NoLimit
structure Cx where
 prog:qo
 w:zw
 K:FrG
 mg:Str->Option qx
 base:Heap
 A:zy
 N:List Str
 s₀:qj
 H₀:Hp
 env:Env
 outer:List Env
 stack:List Env
 ex:List qv
 fn:Str->Bool
 calm:Bool
 pn:List (qv×Obj)
 xe:qx->qj->Prop
noncomputable def hV(l:List Env):List qv:=l.filterMap (·.frame)
noncomputable abbrev Cx.fs(X:Cx):List qv:=hV X.outer
def xI(sc:zk)(x:Str):Prop:=sc.names.lookup x=qq .local\/sc.names.lookup x=qq .cell\/sc.names.lookup x=qq .free
def Loc(sc:zk)(x:Str):Prop:=sc.names.lookup x=qq .local\/sc.names.lookup x=qq .cell
def aWc(env:Env)(h:Heap)(m:Str->Option qx)(x:Str)(u:qx):Prop:=
 (env.kindOf x=qq .local/\m x=qq u)\/((env.kindOf x=qq .cell\/env.kindOf x=qq .free)/\∃ c,env.cells.lookup x=qq c/\h.IsCell c (qq u))
structure Cx.Ok(X:Cx):Prop where
 mod:Mod X.K X.mg X.base
 kind:X.env.scope.kind=.function
 glob:X.env.globals=xk
 blt:X.env.builtins=builtinsNs
 above:X.s₀.heap.objs.size<=X.env.locals
 inj:∀ x y c,X.env.cells.lookup x=qq c->X.env.cells.lookup y=qq c->x=y
 has:∀ x,(X.env.kindOf x=qq .cell\/X.env.kindOf x=qq .free)->∃ c,X.env.cells.lookup x=qq c
 cab:∀ x c,X.fn x=true->X.env.cells.lookup x=qq c->X.s₀.heap.objs.size<=c
 hd:X.calm=true->X.A.handled=qz
 frames:X.A.frames=qq X.stack
 stk:X.stack=X.outer\/(X.stack=X.env::X.outer/\X.env.frame=qq X.env.locals)
 exf:∀ b∈X.ex,b≠X.env.locals/\∀ x c,X.env.cells.lookup x=qq c->c≠b
 bs:∀ b o,X.base.get? b=qq o->X.s₀.heap.get? b=qq o/\X.H₀ b=qz
 bsz:X.base.objs.size<=X.s₀.heap.objs.size
 noex:∀ b o,X.base.get? b=qq o->b ∉ X.ex
 exfs:∀ b∈X.ex,b ∉ X.fs
 funs:X.s₀.heap.FunFrames X.base X.outer
 frf:∀ b∈X.fs,X.H₀ b=qz
structure Inv(X:Cx)(aB:List (qv×Obj))(σ:List (Option V))(H:Hp)(s:qj):Prop where
 ok:X.Ok
 os:s.os=X.s₀.os
 bare:AllBare s.gens
 base:Un X.fs X.ex X.H₀ H X.s₀.heap s.heap
 loc:∃ m,s.heap.Ns X.env.locals m/\∀ (i:Nat) (x:Str) (v:V),X.N[i]? = qq x->σ[i]? = qq (qq v)->xI X.env.scope x->∃ u,aZ v u/\aWc X.env s.heap m x u
 cell:∀ x c,X.env.cells.lookup x=qq c->∃ v,s.heap.IsCell c v
 free:H X.env.locals=qz
 freeC:∀ x c,X.env.cells.lookup x=qq c->H c=qz
 pin:∀ p∈X.pn++aB,s.heap.get? p.1=qq p.2/\H p.1=qz/\p.1≠X.env.locals/\p.1 ∉ X.fs/\∀ v,p.2.data≠.cell v
 hok:dM X.prog X.w H s.heap
 len:σ.length=X.N.length
section
variable {X : Cx}{aB : List (qv×Obj)}{σ : List (Option V)}{H H' : Hp}{s : qj}{h' : Heap}
theorem Cx.Ok.nofr(ok:X.Ok){b:qv}{o:Obj}(e:X.base.get? b=qq o):b ∉ X.fs:=λ hb=>by
 have:=(ok.funs.mem hb).1;rw[e] at this;cases this
theorem Inv.bs(I:Inv X aB σ H s):∀ b o,X.base.get? b=qq o->s.heap.get? b=qq o/\H b=qz:=λ b o e =>
 ⟨I.base.keep b o (I.ok.bs b o e).1 (I.ok.bs b o e).2 (I.ok.nofr e) (I.ok.noex b o e),I.base.free b o (I.ok.bs b o e).1 (I.ok.bs b o e).2 (I.ok.noex b o e)⟩
theorem Inv.bk(I:Inv X aB σ H s):∀ b o,X.base.get? b=qq o->s.heap.get? b=qq o:=λ b o e=>(I.bs b o e).1
theorem Inv.mod(I:Inv X aB σ H s):Mod X.K X.mg X.base:=I.ok.mod
theorem Inv.kIn(I:Inv X aB σ H s):X.K.In s.heap:=I.ok.mod.kin.keeps I.bk
theorem Inv.nolimit(I:Inv X aB σ H s):s.heap.NoLimit:=I.ok.mod.nolimit.keeps I.bk
theorem Inv.fr(I:Inv X aB σ H s):∃ m,Fr X.base X.env.locals s.heap m:=
 let ⟨m,hn,_⟩:=I.loc
 ⟨m,hn,I.bk,xAi I.ok.bsz I.ok.above⟩
theorem Inv.lt(I:Inv X aB σ H s):X.env.locals<s.heap.objs.size:=let ⟨_,hn,_⟩:=I.loc;hn.lt
theorem Inv.sz(I:Inv X aB σ H s):X.s₀.heap.objs.size<=s.heap.objs.size:=xAi I.ok.above (yEu I.lt)
theorem Inv.nofs(I:Inv X aB σ H s){a:qv}(h:s.heap.objs.size<=a):a ∉ X.fs:=λ hb=>by
 obtain⟨_,o,ho,_⟩:=I.ok.funs.mem hb;exact absurd (xAc (xAa ho) (xAi I.sz h)) (yBx _)
theorem Inv.cne(I:Inv X aB σ H s):∀ x c,X.env.cells.lookup x=qq c->c≠X.env.locals:=λ x c e z=>by
 obtain⟨v,o,ho,hd⟩:=I.cell x c e;obtain⟨m,⟨o',es,ep,ho',hd',_⟩,_⟩:=I.loc;rw[z,ho'] at ho;cases ho;rw[hd'] at hd;cases hd
theorem Inv.funs(I:Inv X aB σ H s):s.heap.FunFrames X.base X.outer:=by
 have all:∀ (l:List Env),(∀ b∈hV l,b∈X.fs)->X.s₀.heap.FunFrames X.base l->s.heap.FunFrames X.base l:=by
  intro l
  induction l with
  | nil=>intro _ _;trivial
  | cons env r ih =>
    intro hs hl;obtain⟨hk,⟨L,o,hf,hn,ho,hd⟩,hr⟩:=hl;have hL:L∈X.fs:=hs L (by unfold hV;rw[yCw,hf];exact xAd)
    obtain⟨sl,e⟩:=I.base.slot L o ho (I.ok.frf L hL) hL λ z=>I.ok.exfs L z hL
    exact⟨hk,⟨L,_,hf,hn,e,hd⟩,ih (λ b hb=>hs b (by unfold hV;rw[yCw,hf];exact xAg _ hb)) hr⟩
 exact all X.outer (λ _ hb=>hb) I.ok.funs
theorem Inv.stack(I:Inv X aB σ H s):s.heap.FunFrames X.base X.stack:=by
 rcases I.ok.stk with e | ⟨e,hf⟩
 ·rw[e];exact I.funs
 ·rw[e];obtain⟨m,hn,_⟩:=I.loc;refine .cons (by rw[I.ok.kind];decide) hf hn ?_ I.funs
  exact Heap.get?_none_of_le (xAi I.ok.bsz I.ok.above)
theorem Inv.stkSub(I:Inv X aB σ H s):∀ b∈hV X.stack,b∈X.env.locals::X.fs:=λ b hb=>by
 rcases I.ok.stk with e | ⟨e,hf⟩
 ·rw[e] at hb;exact xAg _ hb
 ·rw[e] at hb;unfold hV at hb;rw[yCw,hf] at hb;exact hb
theorem Inv.stkFree(I:Inv X aB σ H s):∀ b∈hV X.stack,H b=qz:=λ b hb=>by
 rcases List.mem_cons.mp (I.stkSub b hb) with e | hb
 ·rw[e];exact I.free
 ·obtain⟨_,o,ho,_⟩:=I.ok.funs.mem hb;exact I.base.free b o ho (I.ok.frf b hb) λ z=>I.ok.exfs b z hb
theorem Inv.step{g':Array GenState}{t':Nat}{d':Drawn}{ch:List qv}(I:Inv X aB σ H s)
 (hch:∀ b∈ch,(b∈X.ex\/X.s₀.heap.objs.size<=b)/\b≠X.env.locals/\(∀ x c,X.env.cells.lookup x=qq c->c≠b)/\∀ p∈X.pn++aB,p.1≠b)
 (keep:∀ b o,b≠X.env.locals->b ∉ X.fs->b ∉ ch->s.heap.get? b=qq o->H b=qz->h'.get? b=qq o)
 (slot:∀ b o,b≠X.env.locals->b∈X.fs->b ∉ ch->s.heap.get? b=qq o->H b=qz->∃ sl,h'.get? b=qq {o with slots:=sl }) (free:∀ b o,b ∉ ch->s.heap.get? b=qq o->H b=qz->H' b=qz)
 (there:∀ b o,b ∉ ch->s.heap.get? b=qq o->∃ o',h'.get? b=qq o')
 (tups:∀ b xs,H b=qq (.tup xs)->H' b=qq (.tup xs)) (frzs:∀ b o u,H b=qq (.frz o u)->H' b=qq (.frz o u)) (tbls:∀ b ps,H b=qq (.tbl ps)->∃ more,H' b=qq (.tbl (ps++more)))
 (ns:∀ m,s.heap.Ns X.env.locals m->h'.Ns X.env.locals m) (hok:dM X.prog X.w H' h') (hg:AllBare g') :
 Inv X aB σ H' {s with heap:=h',gens:=g',drawn:=d',toks:=t' }:=by
 have neL:∀ b o,X.s₀.heap.get? b=qq o->b≠X.env.locals:=λ b o e=>xAk (xAc (xAa e) I.ok.above)
 have neC:∀ b o,X.s₀.heap.get? b=qq o->b ∉ X.ex->b ∉ ch:=λ b o e hx hb=>by
  rcases (hch b hb).1 with z | z
  ·exact hx z
  ·exact absurd (xAc (xAa e) z) (yBx _)
 have cellK:∀ x c,X.env.cells.lookup x=qq c->∀ v,s.heap.IsCell c v->h'.IsCell c v:=λ x c e v aT=>by
  obtain⟨o,ho,hd⟩:=aT;have nch:c ∉ ch:=λ z=>(hch c z).2.2.1 x c e rfl
  by_cases hc:c∈X.fs
  ·obtain⟨sl,q⟩:=slot c o (I.cne x c e) hc nch ho (I.freeC x c e);exact⟨_,q,hd⟩
  ·exact⟨o,keep c o (I.cne x c e) hc nch ho (I.freeC x c e),hd⟩
 refine⟨I.ok,I.os,hg,⟨λ b o e n hb hx=>?_,λ b o e n hb hx=>?_,λ b o e n hx=>?_,λ b o e hx=>?_,λ b xs e=>tups b xs (I.base.tups b xs e),λ b o xs e=>frzs b o xs (I.base.frzs b o xs e),λ b ps e=>?_⟩,?_,λ x c e=>?_,?_,λ x c e=>?_,λ p hp=>?_,hok,I.len⟩
 ·exact keep b o (neL b o e) hb (neC b o e hx) (I.base.keep b o e n hb hx) (I.base.free b o e n hx)
 ·obtain⟨sl,e1⟩:=I.base.slot b o e n hb hx;obtain⟨sl',e2⟩:=slot b _ (neL b o e) hb (neC b o e hx) e1 (I.base.free b o e n hx);exact⟨sl',e2⟩
 ·obtain⟨o',e1⟩:=I.base.there b o e hx;exact free b o' (neC b o e hx) e1 (I.base.free b o e n hx)
 ·obtain⟨o',e1⟩:=I.base.there b o e hx;exact there b o' (neC b o e hx) e1
 ·obtain⟨m1,e1⟩:=I.base.tbls b ps e;obtain⟨m2,e2⟩:=tbls b _ e1;exact⟨m1++m2,by rw[e2,Array.append_assoc]⟩
 ·obtain⟨m,hn,hl⟩:=I.loc;refine⟨m,ns m hn,λ i x v e1 e2 e3=>?_⟩
  obtain⟨u,r,l⟩:=hl i x v e1 e2 e3;refine⟨u,r,?_⟩;rcases l with l | ⟨k,c,e,z⟩
  ·exact .inl l
  ·exact .inr ⟨k,c,e,cellK x c e _ z⟩
 ·obtain⟨v,z⟩:=I.cell x c e;exact⟨v,cellK x c e v z⟩
 ·obtain⟨m,⟨o,_,_,ho,_⟩,_⟩:=I.loc;exact free _ o (λ z=>(hch _ z).2.1 rfl) ho I.free
 ·obtain⟨v,o,ho,hd⟩:=I.cell x c e;exact free c o (λ z=>(hch c z).2.2.1 x c e rfl) ho (I.freeC x c e)
 ·obtain⟨e,n,ne,nf,d⟩:=I.pin p hp;have nch:p.1 ∉ ch:=λ z=>(hch p.1 z).2.2.2 p hp rfl
  exact⟨keep p.1 p.2 ne nf nch e n,free p.1 p.2 nch e n,ne,nf,d⟩
theorem Inv.un{t':Nat}(I:Inv X aB σ H s)(u:Un X.fs [] H H' s.heap h')(hok:dM X.prog X.w H' h'):Inv X aB σ H' {s with heap:=h',toks:=t' }:=by
 obtain⟨m,⟨o,es,ep,ho,r⟩,_⟩:=id I.loc;obtain⟨sl,hL⟩:=u.any ho I.free (by simp)
 exact I.step (g':=s.gens) (d':=s.drawn) (ch:=[]) (λ _ z=>nomatch z) (λ b o _ hb _ e n=>u.keep b o e n hb (by simp)) (λ b o _ hb _ e n=>u.slot b o e n hb (by simp)) (λ b o _ e n=>u.free b o e n (by simp)) (λ b o _ e=>u.there b o e (by simp)) u.tups u.frzs u.tbls (λ m' hm=>by
  obtain⟨o',es',ep',ho',r'⟩:=hm;rw[ho] at ho';cases ho';exact⟨_,es',ep',hL,r'⟩) hok I.bare
theorem Inv.call{g':Array GenState}{t':Nat}{d':Drawn}{ch:List qv}(I:Inv X aB σ H s)(u:Un (hV X.stack) ch H H' s.heap h')(hok:dM X.prog X.w H' h')(hg:AllBare g')
 (hch:∀ b∈ch,(b∈X.ex\/X.s₀.heap.objs.size<=b)/\b≠X.env.locals/\(∀ x c,X.env.cells.lookup x=qq c->c≠b)/\∀ p∈X.pn++aB,p.1≠b) :
 Inv X aB σ H' {s with heap:=h',gens:=g',drawn:=d',toks:=t' }:=by
 obtain⟨m,⟨o,es,ep,ho,r⟩,_⟩:=id I.loc;obtain⟨sl,hL⟩:=u.any ho I.free λ z=>(hch _ z).2.1 rfl
 exact I.step (ch:=ch) hch (λ b o hL hb hc e n=>u.keep b o e n (λ z=>(List.mem_cons.mp (I.stkSub b z)).elim hL hb) hc) (λ b o _ _ hc e n=>u.any e n hc) (λ b o hc e n=>u.free b o e n hc) (λ b o hc e=>u.there b o e hc) u.tups u.frzs u.tbls (λ m' hm=>by
  obtain⟨o',es',ep',ho',r'⟩:=hm;rw[ho] at ho';cases ho';exact⟨_,es',ep',hL,r'⟩) hok hg
theorem Inv.turned{t':Nat}{it:qv}(I:Inv X aB σ H s)(k:∀ b o,b≠it->s.heap.get? b=qq o->h'.get? b=qq o)(hn:H it=qz)(hL:it≠X.env.locals)
 (h1:it∈X.ex\/X.s₀.heap.objs.size<=it) (h2:∀ x c,X.env.cells.lookup x=qq c->c≠it) (h3:∀ p∈X.pn++aB,p.1≠it):Inv X aB σ H {s with heap:=h',toks:=t' }:=by
 have nit:∀ b u,H b=qq u->b≠it:=λ b u e z=>by rw[z,hn] at e;cases e
 refine I.step (g':=s.gens) (d':=s.drawn) (ch:=[it]) (λ b hb=>?_) (λ b o _ _ hc e _=>k b o (λ z=>hc (by simp[z])) e) (λ b o _ _ hc e _=>⟨o.slots,k b o (λ z=>hc (by simp[z])) e⟩) (λ _ _ _ _ n=>n)
  (λ b o hc e=>⟨o,k b o (λ z=>hc (by simp[z])) e⟩) (λ _ _ e=>e) (λ _ _ _ e=>e) (λ b ps e=>⟨#[],by rw[e];simp⟩) (λ m hm=>?_) (λ b u e=>?_) I.bare
 ·have e:b=it:=by simpa using hb
  subst e;exact⟨h1,hL,h2,h3⟩
 ·obtain⟨o,es,ep,ho,r⟩:=hm;exact⟨o,es,ep,k _ o (Ne.symm hL) ho,r⟩
 ·refine(I.hok b u e).stay (λ c v hc q=>k c v ?_ q) (λ _ q=>q) λ _ _ q=>q
  rcases hc with z | z
  ·rw[z];exact nit b u e
  ·exact nit c _ z
theorem Inv.tok(I:Inv X aB σ H s)(t:Nat):Inv X aB σ H {s with toks:=t }:=I.un (h':=s.heap) (t':=t) Un.refl I.hok
theorem Inv.kept{t':Nat}(I:Inv X aB σ H s)(k:∀ b u,s.heap.get? b=qq u->h'.get? b=qq u):Inv X aB σ H {s with heap:=h',toks:=t' }:=I.un (Un.kept k) (I.hok.kept k)
theorem Inv.laid{a:qv}{o:HO}{t':Nat}(I:Inv X aB σ H s)(k:∀ b u,s.heap.get? b=qq u->h'.get? b=qq u)(hp:s.heap.objs.size<=a)(new:gW X.prog X.w (bE H a o) h' a o) :
 Inv X aB σ (bE H a o) {s with heap:=h',toks:=t' }:=I.un (Un.laid k hp (I.hok.fresh hp)) (I.hok.laid k hp new)
theorem Inv.write{x e:qv}{o:HO}{t':Nat}(I:Inv X aB σ H s)(mu:Mut (H x))(he:e=x\/H e=qq (.own x))(k:∀ b u,b≠e->s.heap.get? b=qq u->h'.get? b=qq u)(heo:∃ u,h'.get? e=qq u)
 (new:gW X.prog X.w (bE H x o) h' x o):Inv X aB σ (bE H x o) {s with heap:=h',toks:=t' }:=I.un (Un.write mu he k heo) (I.hok.write mu he k heo new)
theorem Inv.weak{σ':List (Option V)}(I:Inv X aB σ H s)(hl:σ'.length=σ.length)(w:∀ (i:Nat) v,σ'[i]? = qq (qq v)->σ[i]? = qq (qq v)):Inv X aB σ' H s:=
 ⟨I.ok,I.os,I.bare,I.base,let ⟨m,hn,hl'⟩:=I.loc;⟨m,hn,λ i x v e1 e2 e3=>hl' i x v e1 (w i v e2) e3⟩,I.cell,I.free,I.freeC,I.pin,I.hok,hl.trans I.len⟩
theorem Inv.pins_of{pins':List (qv×Obj)}(I:Inv X aB σ H s)(h:∀ p∈pins',s.heap.get? p.1=qq p.2/\H p.1=qz/\p.1≠X.env.locals/\p.1 ∉ X.fs/\∀ v,p.2.data≠.cell v):Inv X pins' σ H s:=
 ⟨I.ok,I.os,I.bare,I.base,I.loc,I.cell,I.free,I.freeC,λ p hp=>(List.mem_append.mp hp).elim (λ z=>I.pin p (List.mem_append_left _ z)) (h p),I.hok,I.len⟩
theorem aGe{N:List Str}(hN:N.Nodup){i j:Nat}{x:Str}(a:N[i]? = qq x)(b:N[j]? = qq x):i=j:=by
 obtain⟨h1,e1⟩:=gIm a;obtain⟨h2,e2⟩:=gIm b;exact(yGx hN).mp (e1.trans e2.symm)
theorem aMc{M:Model}{A:zy}{E:qx->qj->Prop}{i:Nat}{x:Str}{v:V}{u:qx}{Q:Unit->qj->Prop}(I:Inv X aB σ H s)(hN:X.N.Nodup)(hi:X.N[i]? = qq x)(hx:Loc X.env.scope x)(r:aZ v u)
 (h:∀ s',Inv X aB (σ.set i (qq v)) H s'->(∃ a,yDx a s.heap s'.heap/\(a=X.env.locals\/X.env.cells.lookup x=qq a))->Q () s') (hf:X.fn x=true\/X.env.scope.names.lookup x=qq .local:=by first | exact .inl rfl | exact .inr rfl | assumption):qy M A (storeName X.env x u) Q E s:=by
 obtain⟨m,hn,hl⟩:=id I.loc;have hcls:(X.env.scope.kind==.class||(X.env.scope.kind==.module&&X.env.locals != X.env.globals))=false:=by rw[I.ok.kind];rfl
 have hiσ:i<σ.length:=by rw[I.len];exact(gIm hi).1
 have cne:=I.cne;have tracked:∀ {a:qv}{h':Heap},(∃ o,s.heap.get? a=qq o/\H a=qz)->yDx a s.heap h'->dM X.prog X.w H h':=λ {a h'} ha hs b ob e=>by
  obtain⟨_,_,hfree⟩:=ha;refine(I.hok b ob e).stay (λ c w' hc q=>(hs.2 c ?_).trans q) (λ _ q=>q) λ _ _ q=>q
  rintro rfl;rcases hc with rfl | hc
  ·rw[hfree] at e;cases e
  ·rw[hfree] at hc;cases hc
 rcases hx with hk | hk
 ·refine wpAny_storeName_local hk hn (λ h' hn' hs=>?_) hcls
  obtain⟨oL,_,_,hoL,_⟩:=id hn;refine h _ ⟨I.ok,I.os,I.bare,⟨λ b o e n hb hx=>?_,λ b o e n hb hx=>?_,I.base.free,λ b o e hx=>?_,I.base.tups,I.base.frzs,I.base.tbls⟩,⟨_,hn',λ j y v' e1 e2 e3=>?_⟩,λ y c e=>?_,I.free,I.freeC,λ p hp=>?_,tracked ⟨oL,hoL,I.free⟩ hs,by simpa using I.len⟩ ⟨_,hs,.inl rfl⟩
  ·exact(hs.2 b (xAk (xAc (xAa e) I.ok.above))).trans (I.base.keep b o e n hb hx)
  ·obtain⟨sl,e1⟩:=I.base.slot b o e n hb hx;exact⟨sl,(hs.2 b (xAk (xAc (xAa e) I.ok.above))).trans e1⟩
  ·obtain⟨o',e1⟩:=I.base.there b o e hx;exact⟨o',(hs.2 b (xAk (xAc (xAa e) I.ok.above))).trans e1⟩
  ·by_cases hj:j=i
   ·subst hj;rw[hi] at e1;cases e1;rw[yAy hiσ] at e2;cases e2;exact⟨u,r,.inl ⟨hk,by simp⟩⟩
   ·rw[yAz (Ne.symm hj)] at e2;obtain⟨u',r',q⟩:=hl j y v' e1 e2 e3;refine⟨u',r',?_⟩;rcases q with ⟨k,e⟩ | ⟨k,c,e,z⟩
    ·refine .inl ⟨k,?_⟩;have:y≠x:=λ e=>hj (aGe hN e1 (e▸hi))
     simp[this,e]
    ·exact .inr ⟨k,c,e,z.sameBut hs (cne y c e)⟩
  ·obtain⟨w',z⟩:=I.cell y c e;exact⟨w',z.sameBut hs (cne y c e)⟩
  ·obtain⟨e,n,ne,nf,d⟩:=I.pin p hp;exact⟨(hs.2 p.1 ne).trans e,n,ne,nf,d⟩
 ·have hfn:X.fn x=true:=by
   rcases hf with z | z
   ·exact z
   ·rw[z] at hk;cases hk
  obtain⟨c,hc⟩:=I.ok.has x (.inl hk);obtain⟨w',z⟩:=I.cell x c hc;refine wpAny_storeName_cell I.ok.kind hk hc z (λ h' hc' hs=>?_)
  obtain⟨oc,hoc,hocd⟩:=id z;refine h {s with heap:=h' } ⟨I.ok,I.os,I.bare,⟨λ b o e n hb hx=>?_,λ b o e n hb hx=>?_,I.base.free,λ b o e hx=>?_,I.base.tups,I.base.frzs,I.base.tbls⟩,⟨m,hn.sameBut hs (Ne.symm (cne x c hc)),λ j y v' e1 e2 e3=>?_⟩,λ y c' e=>?_,I.free,I.freeC,λ p hp=>?_,tracked ⟨oc,hoc,I.freeC x c hc⟩ hs,by simpa using I.len⟩ ⟨c,hs,.inr hc⟩
  ·exact(hs.2 b (xAk (xAc (xAa e) (I.ok.cab x c hfn hc)))).trans (I.base.keep b o e n hb hx)
  ·obtain⟨sl,e1⟩:=I.base.slot b o e n hb hx;exact⟨sl,(hs.2 b (xAk (xAc (xAa e) (I.ok.cab x c hfn hc)))).trans e1⟩
  ·obtain⟨o',e1⟩:=I.base.there b o e hx;exact⟨o',(hs.2 b (xAk (xAc (xAa e) (I.ok.cab x c hfn hc)))).trans e1⟩
  ·by_cases hj:j=i
   ·subst hj;rw[hi] at e1;cases e1;rw[yAy hiσ] at e2;cases e2;exact⟨u,r,.inr ⟨.inl hk,c,hc,hc'⟩⟩
   ·rw[yAz (Ne.symm hj)] at e2;obtain⟨u',r',q⟩:=hl j y v' e1 e2 e3;refine⟨u',r',?_⟩;rcases q with q | ⟨k,c',e,z'⟩
    ·exact .inl q
    ·refine .inr ⟨k,c',e,z'.sameBut hs ?_⟩;rintro rfl;exact hj (aGe hN e1 (I.ok.inj _ _ _ e hc▸hi))
  ·by_cases hcc:c'=c
   ·subst hcc;exact⟨_,hc'⟩
   ·obtain⟨w2,z2⟩:=I.cell y c' e;exact⟨w2,z2.sameBut hs hcc⟩
  ·obtain⟨e,n,ne,nf,d⟩:=I.pin p hp;refine⟨(hs.2 p.1 ?_).trans e,n,ne,nf,d⟩;intro q;rw[q,hoc] at e;have q':oc=p.2:=Option.some.inj e;exact d w' (by rw[<- q'];exact hocd)
theorem aGH{M:Model}{A:zy}{E:qx->qj->Prop}{i:Nat}{x:Str}{v:V}{u:qx}{Q:Unit->qj->Prop}(I:Inv X aB σ H s)(hN:X.N.Nodup)(hi:X.N[i]? = qq x)(hx:Loc X.env.scope x)(r:aZ v u)
 (h:∀ s',Inv X aB (σ.set i (qq v)) H s'->Q () s') (hf:X.fn x=true\/X.env.scope.names.lookup x=qq .local:=by first | exact .inl rfl | exact .inr rfl | assumption):qy M A (storeName X.env x u) Q E s:=
 aMc I hN hi hx r (λ s' I' _=>h s' I') hf
theorem Inv.call'{s':qj}{ch:List qv}(I:Inv X aB σ H s)(ho:s'.os=s.os)(u:Un (hV X.stack) ch H H' s.heap s'.heap)(hok:dM X.prog X.w H' s'.heap)(hg:AllBare s'.gens)
 (hch:∀ b∈ch,(b∈X.ex\/X.s₀.heap.objs.size<=b)/\b≠X.env.locals/\(∀ x c,X.env.cells.lookup x=qq c->c≠b)/\∀ p∈X.pn++aB,p.1≠b):Inv X aB σ H' s':=by
 obtain⟨h',g',d',t',o'⟩:=s';have e:o'=s.os:=ho;subst e;exact I.call (g':=g') (t':=t') (d':=d') u hok hg hch
end
abbrev XK:=qx->Option qv->Hp->Prop
abbrev St:=List (Option V)
abbrev VK:=V->Hp->Prop
abbrev TE:=St->Hp->VK->Prop
abbrev TT:=St->Hp->(Bool->Hp->Prop)->Prop
abbrev TA:=St->Hp->(List V->Hp->Prop)->Prop
structure Ends where
 nx:St->Hp->Prop
 rt:VK
 bk:St->Hp->Prop:=λ _ _=>False
 ct:St->Hp->Prop:=λ _ _=>False
abbrev TS:=Ends->St->Hp->Prop
def EP(X:Cx)(aB:List (qv×Obj))(σ:St)(Q:VK)(u:qx)(s':qj):Prop:=∃ v H',Inv X aB σ H' s'/\aZ v u/\Q v H'
def TP(X:Cx)(aB:List (qv×Obj))(σ:St)(Q:Bool->Hp->Prop)(b:Bool)(s':qj):Prop:=∃ H',Inv X aB σ H' s'/\Q b H'
def AP(X:Cx)(aB:List (qv×Obj))(σ:St)(Q:List V->Hp->Prop)(us:List qx)(s':qj):Prop:=∃ vs H',Inv X aB σ H' s'/\aS vs us/\Q vs H'
def SP(X:Cx)(aB:List (qv×Obj))(D:Ends)(f:Flow)(s':qj):Prop:=
 match f with
 | .next=>∃ σ' H',Inv X aB σ' H' s'/\D.nx σ' H'
 | .brk=>∃ σ' H',Inv X aB σ' H' s'/\D.bk σ' H'
 | .cont=>∃ σ' H',Inv X aB σ' H' s'/\D.ct σ' H'
 | .ret u=>∃ v σ' H',Inv X aB σ' H' s'/\aZ v u/\D.rt v H'
def PE(X:Cx)(e:qw)(t:TE):Prop:=
 ∀ (aB:List (qv×Obj)) (s:qj) (σ:St) (H:Hp) (Q:VK),Inv X aB σ H s->t σ H Q->qy (model X.prog X.w) X.A (eval e X.env) (EP X aB σ Q) X.xe s
def PT(X:Cx)(e:qw)(t:TT):Prop:=
 ∀ (aB:List (qv×Obj)) (s:qj) (σ:St) (H:Hp) (Q:Bool->Hp->Prop),Inv X aB σ H s->t σ H Q->qy (model X.prog X.w) X.A (isTrue e X.env (eval e X.env)) (TP X aB σ Q) X.xe s
def PW(X:Cx)(e:qw)(t:TT):Prop:=
 ∀ (gL:Sem qx) (aB:List (qv×Obj)) (s:qj) (σ:St) (H:Hp) (Q:Bool->Hp->Prop),Inv X aB σ H s->t σ H Q->qy (model X.prog X.w) X.A (isTrue e X.env gL) (TP X aB σ Q) X.xe s
theorem PW.pt{X:Cx}{e:qw}{t:TT}(h:PW X e t):PT X e t:=h _
def PA(X:Cx)(es:List qw)(t:TA):Prop:=
 ∀ (pos:Pos) (aB:List (qv×Obj)) (s:qj) (σ:St) (H:Hp) (Q:List V->Hp->Prop),Inv X aB σ H s->t σ H Q->qy (model X.prog X.w) X.A (spliced (backTo pos (zq es X.env))) (AP X aB σ Q) X.xe s
def PS(X:Cx)(st:jz)(t:TS):Prop:=
 ∀ (aB:List (qv×Obj)) (s:qj) (σ:St) (H:Hp) (D:Ends),Inv X aB σ H s->t D σ H->qy (model X.prog X.w) X.A (exec st X.env) (SP X aB D) X.xe s
def dU(X:Cx)(st:List jz)(t:TS):Prop:=
 ∀ (aB:List (qv×Obj)) (s:qj) (σ:St) (H:Hp) (D:Ends),Inv X aB σ H s->t D σ H->qy (model X.prog X.w) X.A (execs st X.env) (SP X aB D) X.xe s
theorem bD{α:Type}{t:Sem α}{Q Q':α->qj->Prop}{M:Model}{A:zy}{E:qx->qj->Prop}{s:qj}(h:qy M A t Q E s)(hQ:∀ a s,Q a s->Q' a s):qy M A t Q' E s:=wpAny_mono h hQ λ _ _ x=>x
end L2
namespace L2
open PySem PySem.Spec PyProof.Rows
section
variable {X : Cx}
theorem bin{a b:qw}{ta tb:TE}(ha:PE X a ta)(hb:PE X b tb){aB:List (qv×Obj)}{s:qj}{σ:St}{H:Hp}{R:V->V->Hp->Prop}(I:Inv X aB σ H s)(h:ta σ H λ x H1=>tb σ H1 λ y H2=>R x y H2)
 {α:Type}{Q:α->qj->Prop}{f:qx->qx->Sem α}
 (hf:∀ v u s2 x y H2,Inv X aB σ H2 s2->aZ x v->aZ y u->R x y H2->qy (model X.prog X.w) X.A (f v u) Q X.xe s2) :
 qy (model X.prog X.w) X.A (eval a X.env) (λ v s₁=>qy (model X.prog X.w) X.A (eval b X.env) (λ u s₂=>qy (model X.prog X.w) X.A (f v u) Q X.xe s₂) X.xe s₁) X.xe s:=by
 refine bD (ha aB s σ H _ I h) λ v s1 hPq0=>?_
 obtain⟨x,H1,I1,r1,q1⟩:=hPq0;refine bD (hb aB s1 σ H1 _ I1 q1) λ u s2 hPq1=>?_
 obtain⟨y,H2,I2,r2,q2⟩:=hPq1;exact hf v u s2 x y H2 I2 r1 r2 q2
def aWB(i:Nat):TE:=λ σ H Q=>∃ v,σ[i]? = qq (qq v)/\Q v H
def tC(v:V):TE:=λ _ H Q=>Q v H
theorem aQu{i:Nat}{x:Str}{pos:Pos}(hN:X.N[i]? = qq x)(hv:xI X.env.scope x)(hd:(x==("__debug__" : Str))=false:=by decide)(hcd:(x==("__classdict__" : Str))=false:=by decide):PE X (.Name x pos) (aWB i):=by
 intro aB s σ H Q I h;obtain⟨v,e,h⟩:=h;obtain⟨m,hn,hl⟩:=I.loc;obtain⟨u,r,l⟩:=hl i x v hN e hv;have bT:EP X aB σ Q u s:=⟨v,H,I,r,h⟩;rcases l with ⟨hk,hm⟩ | ⟨hk,c,hc,hcell⟩
 ·exact wpAny_Name (wpAny_loadName_local I.ok.kind hk hn hm bT) hd
 ·rcases hk with hk | hk
  ·exact wpAny_Name (wpAny_loadName_cell I.ok.kind hk hc hcell bT) hd
  ·exact wpAny_Name (wpAny_loadName_free I.ok.kind hk hc hcell bT hcd) hd
theorem aQT{i j pos}:PE X (.Constant (.int i) j pos) (tC (.int i)):=λ _ _ _ H _ I h=>wpAny_Constant_int ⟨.int i,H,I.tok _,⟨_,rfl⟩,h⟩
theorem aTI{b j pos}:PE X (.Constant (.bool b) j pos) (tC (.bl b)):=λ _ _ _ H _ I h=>Constant_bool ⟨.bl b,H,I,rfl,h⟩
theorem aQq{j pos}:PE X (.Constant .none j pos) (tC .non):=λ _ _ _ H _ I h=>Constant_none ⟨.non,H,I,rfl,h⟩
theorem aQe{x j pos}:PE X (.Constant (.str x) j pos) (tC (.str x)):=λ _ _ _ H _ I h=>Calls.Constant_str ⟨.str x,H,I.tok _,⟨_,rfl⟩,h⟩
def Gl(X:Cx)(x:Str):Prop:=X.env.kindOf x=qq .globalImplicit
theorem aCz{E:qx->qj->Prop}{aB:List (qv×Obj)}{s:qj}{σ:St}{H:Hp}{x:Str}{u:qx}{pos:Pos}{Q:qx->qj->Prop}(I:Inv X aB σ H s)(hg:Gl X x)(hm:X.mg x=qq u)(h:Q u s)
 (hd:(x==("__debug__" : Str))=false:=by decide):qy (model X.prog X.w) X.A (eval (.Name x pos) X.env) Q E s:=
 Calls.Name_function_global I.ok.kind hg (Calls.loadGlobal_global (by rw[I.ok.glob];exact I.mod.glob.keeps I.bk) hm h) hd
theorem lB{E:qx->qj->Prop}{aB:List (qv×Obj)}{s:qj}{σ:St}{H:Hp}{x:Str}{u:qx}{pos:Pos}{Q:qx->qj->Prop}(I:Inv X aB σ H s)(hg:Gl X x)(hm:X.mg x=qz)(hv:xo x=qq u)(h:Q u s)
 (hn:x ≠ "__name__":=by decide) (hd:(x==("__debug__" : Str))=false:=by decide):qy (model X.prog X.w) X.A (eval (.Name x pos) X.env) Q E s:=by
 obtain⟨mb,h1,h2⟩:=I.mod.blt;exact Calls.Name_function_global I.ok.kind hg (Calls.loadGlobal_builtin (by rw[I.ok.glob];exact I.mod.glob.keeps I.bk) hm (by rw[I.ok.blt];exact h1.keeps I.bk) ((h2 x hn).trans hv) h) hd
theorem aHP{x:Str}{v:V}{u:qx}{pos:Pos}(hg:Gl X x)(hm:X.mg x=qq u)(r:aZ v u)(hd:(x==("__debug__" : Str))=false:=by decide):PE X (.Name x pos) (tC v):=
 λ _ _ _ H _ I h=>aCz I hg hm ⟨v,H,I,r,h⟩ hd
theorem aOM{x:Str}{v:V}{u:qx}{pos:Pos}(hg:Gl X x)(hm:X.mg x=qz)(hv:xo x=qq u)(r:aZ v u)(hn:x ≠ "__name__":=by decide)(hd:(x==("__debug__" : Str))=false:=by decide):PE X (.Name x pos) (tC v):=
 λ _ _ _ H _ I h=>lB I hg hm hv ⟨v,H,I,r,h⟩ hn hd
variable {a b : qw}{ta tb : TE}{pos : Pos}
variable {tA tB' : TT}{cT : List qw}
def aJ1(t u:TT):TT:=λ σ H Q=>t σ H λ c H1=>if c=true then u σ H1 Q else Q false H1
def tOr(t u:TT):TT:=λ σ H Q=>t σ H λ c H1=>if c=true then Q true H1 else u σ H1 Q
def aVP(t:TT):TT:=λ σ H Q=>t σ H λ c H1=>Q (!c) H1
theorem aPJ(ha:PT X a tA):PW X (.BoolOp .And [a] pos) tA:=by
 intro wh aB s σ H Q I h;refine isTrue_and (bD (ha aB s σ H Q I h) λ c s1 e=>?_)
 cases c with
 | true=>exact isTrue_and_nil e
 | false=>exact e
theorem aRe(ha:PT X a tA):PW X (.BoolOp .Or [a] pos) tA:=by
 intro wh aB s σ H Q I h;refine isTrue_or (bD (ha aB s σ H Q I h) λ c s1 e=>?_)
 cases c with
 | false=>exact isTrue_or_nil e
 | true=>exact e
theorem aHT(ha:PT X a tA)(hb:PW X (.BoolOp .And (b::cT) pos) tB'):PW X (.BoolOp .And (a::b::cT) pos) (aJ1 tA tB'):=by
 intro wh aB s σ H Q I h;refine isTrue_and (bD (ha aB s σ H _ I h) λ c s1 hPq2=>?_)
 obtain⟨H1,I1,q1⟩:=hPq2;cases c with
 | true=>exact hb wh aB s1 σ H1 Q I1 q1
 | false=>exact⟨H1,I1,q1⟩
theorem aJp(ha:PT X a tA)(hb:PW X (.BoolOp .Or (b::cT) pos) tB'):PW X (.BoolOp .Or (a::b::cT) pos) (tOr tA tB'):=by
 intro wh aB s σ H Q I h;refine isTrue_or (bD (ha aB s σ H _ I h) λ c s1 hPq3=>?_)
 obtain⟨H1,I1,q1⟩:=hPq3;cases c with
 | true=>exact⟨H1,I1,q1⟩
 | false=>exact hb wh aB s1 σ H1 Q I1 q1
theorem aRp(ha:PT X a tA):PT X (.UnaryOp .Not a pos) (aVP tA):=by
 intro aB s σ H Q I h;exact isTrue_not (ha aB s σ H (λ c H1=>Q (!c) H1) I h)
def aJg(ta tb:TE):TE:=λ σ H Q=>ta σ H λ x H1=>∃ c,x=.bl c/\if c=true then tb σ H1 Q else Q (.bl false) H1
def aKf(ta tb:TE):TE:=λ σ H Q=>ta σ H λ x H1=>∃ c,x=.bl c/\if c=true then Q (.bl true) H1 else tb σ H1 Q
def aTa(ta:TE):TE:=λ σ H Q=>ta σ H λ x H1=>∃ c,x=.bl c/\Q (.bl (!c)) H1
theorem aIB{op}{t:TE}(h:PE X a t):PE X (.BoolOp op [a] pos) t:=λ aB s σ H Q I hw=>BoolOp_one (h aB s σ H Q I hw)
theorem aIk(ha:PE X a ta)(hb:PE X (.BoolOp .And (b::cT) pos) tb):PE X (.BoolOp .And (a::b::cT) pos) (aJg ta tb):=by
 intro aB s σ H Q I h;refine BoolOp_and (bD (ha aB s σ H _ I h) λ v s1 hPq4=>?_)
 obtain⟨x,H1,I1,r1,q1⟩:=hPq4;obtain⟨c,rfl,q1⟩:=q1;cases r1;refine jv ?_;cases c with
 | true=>exact hb aB s1 σ H1 Q I1 q1
 | false=>exact⟨.bl false,H1,I1,rfl,q1⟩
theorem aJy(ha:PE X a ta)(hb:PE X (.BoolOp .Or (b::cT) pos) tb):PE X (.BoolOp .Or (a::b::cT) pos) (aKf ta tb):=by
 intro aB s σ H Q I h;refine BoolOp_or (bD (ha aB s σ H _ I h) λ v s1 hPq5=>?_)
 obtain⟨x,H1,I1,r1,q1⟩:=hPq5;obtain⟨c,rfl,q1⟩:=q1;cases r1;refine jv ?_;cases c with
 | false=>exact hb aB s1 σ H1 Q I1 q1
 | true=>exact⟨.bl true,H1,I1,rfl,q1⟩
theorem aR0(ha:PE X a ta):PE X (.UnaryOp .Not a pos) (aTa ta):=by
 intro aB s σ H Q I h;refine UnaryOp_ (bD (ha aB s σ H _ I h) λ v s1 hPq6=>?_)
 obtain⟨x,H1,I1,r1,q1⟩:=hPq6;obtain⟨c,rfl,q1⟩:=q1;cases r1;exact not_of (jv ⟨.bl (!c),H1,I1,rfl,q1⟩)
def tIf(t:TT)(ta tb:TE):TE:=λ σ H Q=>t σ H λ c H1=>if c=true then ta σ H1 Q else tb σ H1 Q
theorem aN3{c:qw}(hc:PT X c tA)(ha:PE X a ta)(hb:PE X b tb):PE X (.IfExp c a b pos) (tIf tA ta tb):=by
 intro aB s σ H Q I h;refine wpAny_IfExp (bD (hc aB s σ H _ I h) λ d s1 hPq7=>?_)
 obtain⟨H1,I1,q1⟩:=hPq7;cases d with
 | true=>exact ha aB s1 σ H1 Q I1 q1
 | false=>exact hb aB s1 σ H1 Q I1 q1
end
end L2
namespace L2
open PySem PySem.Spec PyProof.Rows
def bY(K:FrG)(H:Hp)(a:qv)(xs:List V):Prop:=
 Rd H a (.lst xs) \/
  ∃ (o:Obj) (aF:Array qx) (n:Nat),K.lookup a=qq o/\o.cls=.type "list" /\ o.dict=qz/\o.data=.seq aF n/\aF.size<=qk/\aS xs aF.toList
def cF(K:FrG)(H:Hp)(a:qv)(xs:List V):Prop:=
 Rd H a (.tup xs) \/
  ∃ (o:Obj) (aF:Array qx) (n:Nat),K.lookup a=qq o/\o.cls=.type "tuple" /\ o.data=.seq aF n/\aF.size<=qk/\aS xs aF.toList
noncomputable def aV4:qx->Option V
 | .none=>qq .non
 | .bool b=>qq (.bl b)
 | .int i _=>qq (.int i)
 | .str x _=>qq (.str x)
 | .bytes b _=>qq (.byt b)
 | .float b _=>qq (.flt b)
 | .ref a=>qq (.ref a)
 | .type n=>qq (.ty n)
 | _=>qz
theorem aZ.abs{x:V}{u:qx}(r:aZ x u):aV4 u=qq x:=by
 cases x with
 | non=>cases r;rfl
 | bl _=>cases r;rfl
 | int _=>obtain⟨t,rfl⟩:=r;rfl
 | str _=>obtain⟨t,rfl⟩:=r;rfl
 | byt _=>obtain⟨t,rfl⟩:=r;rfl
 | flt _=>obtain⟨t,rfl⟩:=r;rfl
 | ref _=>cases r;rfl
 | ty _=>cases r;rfl
theorem aZ.inj{x y:V}{u:qx}(r:aZ x u)(q:aZ y u):x=y:=Option.some.inj (r.abs.symm.trans q.abs)
theorem aS.inj:∀ {xs ys:List V}{us:List qx},aS xs us->aS ys us->xs=ys
 | _,_,_,.nil,.nil=>rfl
 | _,_,_,.cons r t,.cons r' t'=>by rw[r.inj r',aS.inj t t']
section
variable {X : Cx}{aB : List (qv×Obj)}{σ : St}{H : Hp}{s : qj}{a : qv}{xs ys : List V}
theorem bY.of{K:FrG}(h:H a=qq (.lst xs)):bY K H a xs:=.inl (.inl h)
theorem cF.of{K:FrG}(h:H a=qq (.tup xs)):cF K H a xs:=.inl (.inl h)
theorem Inv.list(I:Inv X aB σ H s)(h:bY X.K H a xs):∃ aF:List qx,aS xs aF/\PlainL s.heap a aF.toArray/\xs.length<=qk:=by
 rcases h with h | ⟨o,aF,n,hk,hc,hd,hs,hz,r⟩
 ·obtain⟨z,aF,n,r,e⟩:=h.ok I.hok;exact⟨aF,r,⟨_,n,e,rfl,rfl,rfl⟩,z⟩
 ·refine⟨aF.toList,r,⟨o,n,I.kIn a o hk,hc,hd,by simpa using hs⟩,?_⟩
  have e:=r.length;simp only[yDp] at e;omega
theorem Inv.tuple(I:Inv X aB σ H s)(h:cF X.K H a xs):∃ aF:List qx,aS xs aF/\IsTup s.heap a aF.toArray/\xs.length<=qk:=by
 rcases h with h | ⟨o,aF,n,hk,hc,hs,hz,r⟩
 ·obtain⟨z,aF,r,p⟩:=h.ok I.hok;exact⟨aF,r,p,z⟩
 ·refine⟨aF.toList,r,⟨o,I.kIn a o hk,hc,n,by simpa using hs⟩,?_⟩
  have e:=r.length;simp only[yDp] at e;omega
theorem Inv.list_inj(I:Inv X aB σ H s)(h:bY X.K H a xs)(h':bY X.K H a ys):xs=ys:=by
 obtain⟨aF,r,⟨o,n,e,_,_,d⟩,_⟩:=I.list h;obtain⟨its',r',⟨o',n',e',_,_,d'⟩,_⟩:=I.list h';rw[e] at e';cases e';rw[d] at d';injection d' with d1 _
 have:aF=its':=by simpa using congrArg Array.toList d1
 subst this;exact r.inj r'
theorem Inv.tuple_inj(I:Inv X aB σ H s)(h:cF X.K H a xs)(h':cF X.K H a ys):xs=ys:=by
 obtain⟨aF,r,⟨o,e,_,n,d⟩,_⟩:=I.tuple h;obtain⟨its',r',⟨o',e',_,n',d'⟩,_⟩:=I.tuple h';rw[e] at e';cases e';rw[d] at d';injection d' with d1 _
 have:aF=its':=by simpa using congrArg Array.toList d1
 subst this;exact r.inj r'
end
noncomputable abbrev Cx.wish(X:Cx)(E:qx->qj->Prop):Cx:={X with xe:=E }
noncomputable abbrev Cx.nox(X:Cx):Cx:=X.wish λ _ _=>False
theorem Cx.Ok.wish{X:Cx}(ok:X.Ok)(E:qx->qj->Prop):(X.wish E).Ok:=
 ⟨ok.mod,ok.kind,ok.glob,ok.blt,ok.above,ok.inj,ok.has,ok.cab,ok.hd,ok.frames,ok.stk,ok.exf,ok.bs,ok.bsz,ok.noex,ok.exfs,ok.funs,ok.frf⟩
theorem Cx.Ok.unwish{X:Cx}{E:qx->qj->Prop}(ok:(X.wish E).Ok):X.Ok:=
 ⟨ok.mod,ok.kind,ok.glob,ok.blt,ok.above,ok.inj,ok.has,ok.cab,ok.hd,ok.frames,ok.stk,ok.exf,ok.bs,ok.bsz,ok.noex,ok.exfs,ok.funs,ok.frf⟩
section
variable {X : Cx}{aB : List (qv×Obj)}{σ : St}{H : Hp}{s : qj}{E : qx -> qj -> Prop}
theorem Inv.wish(I:Inv X aB σ H s)(E:qx->qj->Prop):Inv (X.wish E) aB σ H s:=⟨I.ok.wish E,I.os,I.bare,I.base,I.loc,I.cell,I.free,I.freeC,I.pin,I.hok,I.len⟩
theorem Inv.unwish(I:Inv (X.wish E) aB σ H s):Inv X aB σ H s:=⟨I.ok.unwish,I.os,I.bare,I.base,I.loc,I.cell,I.free,I.freeC,I.pin,I.hok,I.len⟩
theorem SP.unwish{D:Ends}{f:Flow}{s':qj}(h:SP (X.wish E) aB D f s'):SP X aB D f s':=by
 cases f with
 | next=>obtain⟨σ',H',I,q⟩:=h;exact⟨σ',H',I.unwish,q⟩
 | brk=>obtain⟨σ',H',I,q⟩:=h;exact⟨σ',H',I.unwish,q⟩
 | cont=>obtain⟨σ',H',I,q⟩:=h;exact⟨σ',H',I.unwish,q⟩
 | ret u=>obtain⟨v,σ',H',I,r,q⟩:=h;exact⟨v,σ',H',I.unwish,r,q⟩
theorem PE.nox{e:qw}{t:TE}(h:PE X.nox e t):PE X e t:=λ aB s σ H Q I hw =>
 wpAny_mono (h aB s σ H Q (I.wish _) hw) (λ _ _ hPr0=>by obtain⟨v,H',I',r,q⟩:=hPr0;exact⟨v,H',I'.unwish,r,q⟩) λ _ _ z=>False.elim z
theorem PT.nox{e:qw}{t:TT}(h:PT X.nox e t):PT X e t:=λ aB s σ H Q I hw =>
 wpAny_mono (h aB s σ H Q (I.wish _) hw) (λ _ _ hPr1=>by obtain⟨H',I',q⟩:=hPr1;exact⟨H',I'.unwish,q⟩) λ _ _ z=>False.elim z
theorem dU.nox{st:List jz}{t:TS}(h:dU X.nox st t):dU X st t:=λ aB s σ H D I hw =>
 wpAny_mono (h aB s σ H D (I.wish _) hw) (λ _ _ q=>q.unwish) λ _ _ z=>False.elim z
end
section
variable {X : Cx}{st : jz}{cT : List jz}{t u : TS}{e : qw}{te : TE}{pos : Pos}
def aUX:TS:=λ D σ H=>D.nx σ H
def aWl(t u:TS):TS:=λ D σ H=>t {D with nx:=u D } σ H
theorem aO8:dU X [] aUX:=λ _ _ σ H _ I h=>wpAny_execs_nil ⟨σ,H,I,h⟩
theorem aNL(h1:PS X st t)(h2:dU X cT u):dU X (st::cT) (aWl t u):=by
 intro aB s σ H D I h;refine wpAny_execs_cons (bD (h1 aB s σ H {D with nx:=u D } I h) λ f s1 q=>?_)
 cases f with
 | next =>
   obtain⟨σ',H',I',q⟩:=q;exact h2 aB s1 σ' H' D I' q
 | ret v=>exact q
 | brk=>exact q
 | cont=>exact q
theorem Inv.quiet{aB:List (qv×Obj)}{σ:St}{H:Hp}{s:qj}(I:Inv X aB σ H s):interactive X.env=false:=by simp[interactive,I.ok.kind]
def aTp(te:TE):TS:=λ D σ H=>te σ H λ _ H1=>D.nx σ H1
theorem aPT(he:PE X e te)(hs:swapsWith e qz pos.line X.env=pure false:=by rfl):PS X (.Expr e pos) (aTp te):=by
 intro aB s σ H D I h;exact wpAny_Expr_any (bD (he aB s σ H _ I h) λ v s1 ⟨x,H1,I1,r1,q1⟩=>⟨σ,H1,I1,q1⟩) I.quiet hs
def aWi(te:TE):TS:=λ D σ H=>te σ H D.rt
theorem aSA(he:PE X e te):PS X (.Return (qq e) pos) (aWi te):=by
 intro aB s σ H D I h;exact wpAny_Return_some (bD (he aB s σ H _ I h) λ v s1 ⟨x,H1,I1,r1,q1⟩=>⟨x,σ,H1,I1,r1,q1⟩)
def aVS(c:TT)(t u:TS):TS:=λ D σ H=>c σ H λ b H1=>if b=true then t D σ H1 else u D σ H1
theorem aUr{c:qw}{a b:List jz}{tc:TT}(hc:PT X c tc)(ha:dU X a t)(hb:dU X b u):PS X (.If c a b pos) (aVS tc t u):=by
 intro aB s σ H D I h;refine wpAny_If (bD (hc aB s σ H _ I h) λ d s1 hPq8=>?_)
 obtain⟨H1,I1,q1⟩:=hPq8;cases d with
 | true=>exact ha aB s1 σ H1 D I1 q1
 | false=>exact hb aB s1 σ H1 D I1 q1
end
abbrev TG:=V->St->Hp->(St->Hp->Prop)->Prop
abbrev iT:=List V->St->Hp->(St->Hp->Prop)->Prop
def PG(X:Cx)(target:qw)(t:TG):Prop:=
 ∀ (aB:List (qv×Obj)) (s:qj) (σ:St) (H:Hp) (v:V) (u:qx) (Q:St->Hp->Prop),Inv X aB σ H s->aZ v u->t v σ H Q ->
  qy (model X.prog X.w) X.A (assign target X.env u) (λ _ s'=>∃ σ' H',Inv X aB σ' H' s'/\Q σ' H') X.xe s
def qO(X:Cx)(ts:List qw)(t:iT):Prop:=
 ∀ (aB:List (qv×Obj)) (s:qj) (σ:St) (H:Hp) (vs:List V) (us:List qx) (Q:St->Hp->Prop),Inv X aB σ H s->aS vs us->t vs σ H Q ->
  qy (model X.prog X.w) X.A (assignInOrder ((xx ts X.env).map (·.2)) us) (λ _ s'=>∃ σ' H',Inv X aB σ' H' s'/\Q σ' H') X.xe s
abbrev aDr:=V->V->V->Hp->(Hp->Prop)->Prop
def aKh(X:Cx)(t:aDr):Prop:=
 ∀ (aB:List (qv×Obj)) (s:qj) (σ:St) (H:Hp) (o i v:V) (ov iv u:qx) (Q:Hp->Prop),Inv X aB σ H s->aZ o ov->aZ i iv->aZ v u->t o i v H Q ->
  qy (model X.prog X.w) X.A (setItem ov iv u) (λ _ s'=>∃ H',Inv X aB σ H' s'/\Q H') X.xe s
section
variable {X : Cx}{pos : Pos}
def oN(i:Nat):TG:=λ v σ H Q=>Q (σ.set i (qq v)) H
theorem aCF{i:Nat}{x:Str}(hN:X.N.Nodup)(hi:X.N[i]? = qq x)(hx:Loc X.env.scope x)(hf:X.fn x=true\/X.env.scope.names.lookup x=qq .local:=by first | exact .inl rfl | exact .inr rfl | assumption):PG X (.Name x pos) (oN i):=by
 intro aB s σ H v u Q I r h;exact wpAny_assign_Name (aGH I hN hi hx r (λ s' I'=>⟨_,H,I',h⟩) hf)
noncomputable def aDj:iT:=λ vs σ H Q=>vs=[]/\Q σ H
noncomputable def aDb(t:TG)(u:iT):iT:=λ vs σ H Q=>∃ v r,vs=v::r/\t v σ H λ σ' H'=>u r σ' H' Q
theorem aPy:qO X [] aDj:=by
 intro aB s σ H vs us Q I r h;obtain⟨e,h⟩:=h;subst e;cases r;exact assignInOrder_nil ⟨σ,H,I,h⟩
theorem aNq{e:qw}{es:List qw}{t:TG}{u:iT}(h1:PG X e t)(h2:qO X es u)
 (hs:(xx (e::es) X.env).map (·.2)=assign e X.env::(xx es X.env).map (·.2):=by rfl):qO X (e::es) (aDb t u):=by
 intro aB s σ H vs us Q I r h;obtain⟨v,vr,e1,h⟩:=h;subst e1;cases r with
 | cons r rr =>
   rw[hs];refine assignInOrder_cons (bD (h1 aB s σ H _ _ _ I r h) λ _ s1 hPq9=>?_)
   obtain⟨σ1,H1,I1,q1⟩:=hPq9;exact h2 aB s1 σ1 H1 _ _ Q I1 rr q1
def aWt(K:FrG)(n:Nat)(t:iT):TG:=λ v σ H Q=>∃ a xs,v=.ref a/\cF K H a xs/\xs.length=n/\t xs σ H Q
theorem aRl{es:List qw}{k:Nat}{t:iT}{n:Nat}(hc:X.calm=true)(h:qO X es t)
 (hn:(xx es X.env).length=n:=by rfl) (hst:(xx es X.env).findIdx? (·.1)=qz:=by rfl):PG X (.Tuple es k pos) (aWt X.K n t):=by
 intro aB s σ H v u Q I r hw;obtain⟨a,xs,e1,hq,hl,hw⟩:=hw;subst e1;cases r;obtain⟨aF,rv,ht,hz⟩:=I.tuple hq;refine assign_Tuple_tuple (I.ok.hd hc) ht (by simp[hn,<- hl,rv.length]) hst λ h' hx=>?_
 have I1:Inv X aB σ H {s with heap:=h' }:=I.kept (t':=s.toks) λ b o e=>hx b o (xAk (xAa e)) e
 exact h aB _ σ H xs _ Q I1 (by simpa using rv) hw
def aKq(to ti:TE)(t:aDr):TG:=λ v σ H Q=>to σ H λ o H1=>ti σ H1 λ i H2=>t o i v H2 λ H3=>Q σ H3
theorem aRM{o i:qw}{to ti:TE}{t:aDr}(ho:PE X o to)(hi:PE X i ti)(hs:aKh X t)
 (ha:∀ v,assign (.Subscript o i pos) X.env v=(do
   let ov <- holding [v] (eval o X.env)
   let iv <- holding [v,ov] (eval i X.env)
   standAt pos
   holding [v,ov,iv] (setItem ov iv v)
   release [v,ov,iv] []):=by intro _;rfl):PG X (.Subscript o i pos) (aKq to ti t):=by
 intro aB s σ H v u Q I r h;rw[ha];refine wB (zu (bD (ho aB s σ H _ I h) λ ov s1 hPq10=>?_))
 obtain⟨x,H1,I1,r1,q1⟩:=hPq10;refine wB (zu (bD (hi aB s1 σ H1 _ I1 q1) λ iv s2 hPq11=>?_))
 obtain⟨y,H2,I2,r2,q2⟩:=hPq11;refine wB (yy (wB (zu (bD (hs aB s2 σ H2 x y v ov iv u _ I2 r1 r2 r q2) λ _ s3 hPq12=>?_))))
 obtain⟨H3,I3,q3⟩:=hPq12;exact wpAny_release ⟨σ,H3,I3,q3⟩
def wO(te:TE)(g:TG):TS:=λ D σ H=>te σ H λ x H1=>g x σ H1 D.nx
theorem aIs{tg e:qw}{te:TE}{g:TG}(he:PE X e te)(hg:PG X tg g)(hs:swapsWithSole [tg] e pos.line X.env=pure false:=by rfl)(hw:yw [tg] e X.env=pure qz:=by rfl)
 (h1:(xx [tg] X.env).map (·.2)=[assign tg X.env]:=by rfl):PS X (.Assign [tg] e pos) (wO te g):=by
 intro aB s σ H D I h;refine wpAny_Assign_stores (bD (he aB s σ H _ I h) λ v s1 hPq13=>?_) hs hw
 obtain⟨x,H1,I1,r1,q1⟩:=hPq13;rw[h1];exact bD (hg aB s1 σ H1 x v _ I1 r1 q1) λ _ s2 q=>q
theorem aRJ{i:Nat}{x:Str}{e:qw}{te:TE}{pos':Pos}(hN:X.N.Nodup)(hi:X.N[i]? = qq x)(hx:Loc X.env.scope x)(he:PE X e te)(hs:swapsWith e (qq (.Name x pos')) pos.line X.env=pure false:=by rfl)(hf:X.fn x=true\/X.env.scope.names.lookup x=qq .local:=by first | exact .inl rfl | exact .inr rfl | assumption) :
 PS X (.Assign [.Name x pos'] e pos) (wO te (oN i)):=by
 intro aB s σ H D I h;refine wpAny_Assign_Name (bD (he aB s σ H _ I h) λ v s1 hPq14=>?_) hs
 obtain⟨y,H1,I1,r1,q1⟩:=hPq14;exact aGH I1 hN hi hx r1 (λ s2 I2=>⟨_,H1,I2,q1⟩) hf
end
section
variable {X : Cx}{pos : Pos}
end
structure It where
 go:Nat->Hp->Prop
 yld:Nat->Hp->V->Hp->Prop
 stop:Nat->Hp->Prop
def gH(X:Cx)(aB:List (qv×Obj))(H:Hp)(b:qv):Prop:=
 H b=qz/\b≠X.env.locals/\b ∉ X.fs/\(b∈X.ex\/X.s₀.heap.objs.size<=b)/\(∀ x c,X.env.cells.lookup x=qq c->c≠b)/\∀ p∈X.pn++aB,p.1≠b
theorem Inv.fpOk{X:Cx}{aB:List (qv×Obj)}{σ:St}{H H':Hp}{s:qj}{b:qv}(I:Inv X aB σ H s)(hb:s.heap.objs.size<=b)(hn:H' b=qz):gH X aB H' b:=by
 refine⟨hn,yEv (xAc I.lt hb),I.nofs hb,.inr (xAi I.sz hb),λ x c e z=>?_,λ p hp z=>?_⟩
 ·obtain⟨v,q⟩:=I.cell x c e;exact absurd (xAc q.lt (by rw[z];exact hb)) (yBx _)
 ·exact absurd (xAc (xAa (I.pin p hp).1) (by rw[z];exact hb)) (yBx _)
structure Turn(P:qo)(w:zw)(K:FrG)(tg:qw)(J:It)(fp:List qv)(it:qv)(tn:Nat->Heap->Prop):Prop where
 mem:it∈fp
 obj:∀ i h,tn i h->∀ b∈fp,∃ o,h.get? b=qq o/\∀ v,o.data≠.cell v
 keep:∀ i h h',tn i h->(∀ b∈fp,∀ o,h.get? b=qq o->h'.get? b=qq o)->tn i h'
 item:∀ (X:Cx),X.prog=P->X.w=w->X.K=K->X.calm=true->∀ (i:Nat) (aB:List (qv×Obj)) (s:qj) (σ:St) (H:Hp) (E:qx->qj->Prop),Inv X aB σ H s->(∀ b∈fp,gH X aB H b)->tn i s.heap->J.go i H ->
  qy (model P w) X.A (ju (.ref it)) (λ r s1=>∃ u,r=qq u /\
   qy (model P w) X.A (wu tg (.ref it) u) (λ _ s2=>∃ x H',Inv X aB σ H' s2/\aZ x u/\J.yld i H x H'/\tn (i+1) s2.heap/\∀ b∈fp,H' b=qz) E s1) E s
 done:∀ (X:Cx),X.prog=P->X.w=w->X.K=K->X.calm=true->∀ (i:Nat) (aB:List (qv×Obj)) (s:qj) (σ:St) (H:Hp) (E:qx->qj->Prop),Inv X aB σ H s->(∀ b∈fp,gH X aB H b)->tn i s.heap->J.stop i H ->
  qy (model P w) X.A (ju (.ref it)) (λ r s1=>r=qz/\Inv X aB σ H s1) E s
 self:∀ (A:zy) (i:Nat) (s:qj) (Q:qx->qj->Prop) (E:qx->qj->Prop),tn i s.heap->Q (.ref it) s->qy (model P w) A (pyIter (.ref it)) Q E s
abbrev TI:=St->Hp->(It->Hp->Prop)->Prop
def PIE(X:Cx)(aB:List (qv×Obj))(σ:St)(tg:qw)(R:It->Hp->Prop)(itv:qx)(s2:qj):Prop:=
 ∃ (it:qv) (fp:List qv) (tn:Nat->Heap->Prop) (J:It) (H':Hp),itv=.ref it/\Inv X aB σ H' s2/\Turn X.prog X.w X.K tg J fp it tn/\tn 0 s2.heap/\(∀ b∈fp,gH X aB H' b)/\R J H'
def PI(X:Cx)(tg iter:qw)(wi:TI):Prop:=
 ∀ (aB:List (qv×Obj)) (s:qj) (σ:St) (H:Hp) (R:It->Hp->Prop),Inv X aB σ H s->wi σ H R ->
  qy (model X.prog X.w) X.A (eval iter X.env) (λ v s1=>qy (model X.prog X.w) X.A (pyIter v) (PIE X aB σ tg R) X.xe s1) X.xe s
theorem aAU{M:Model}{A:zy}{E:qx->qj->Prop}{s:qj}{tg:qw}{it:qv}{u:qx}{o:Obj}{n:String}{vs:Array qx}{Q:Unit->qj->Prop}(ho:s.heap.get? it=qq o)(hc:o.cls=.type n)(hd:o.data=.fields vs)
 (hn:["enumerate", "zip", "dict_itemiterator", "dict_reverseitemiterator", "odict_iterator", "itertools.zip_longest", "itertools.pairwise"].contains n=false) (hQ:Q () s):qy M A (wu tg (.ref it) u) Q E s:=by
 unfold wu;cases tg<;>first
  | exact wP hQ
  | (cases u<;>first
      | exact wP hQ
      | (refine wB (wpAny_load ho ?_)
         rw[hc,hd];show qy M A (if (["enumerate", "zip", "dict_itemiterator", "dict_reverseitemiterator", "odict_iterator", "itertools.zip_longest", "itertools.pairwise"].contains n&&vs[0]?==qq (yx _))=true then _ else _) Q E s
         rw[if_neg (by intro h;rw[hn,yAl] at h;cases h)]
         exact wP hQ))
noncomputable def Itl(K:FrG)(a:qv):It:=
 ⟨λ i H=>∃ xs x,bY K H a xs/\xs[i]? = qq x,λ i H x H'=>H'=H/\∀ xs,bY K H a xs->xs[i]? = qq x,λ i H=>∃ xs,bY K H a xs/\xs.length<=i⟩
noncomputable def Itt(K:FrG)(a:qv):It:=
 ⟨λ i H=>∃ xs x,cF K H a xs/\xs[i]? = qq x,λ i H x H'=>H'=H/\∀ xs,cF K H a xs->xs[i]? = qq x,λ i H=>∃ xs,cF K H a xs/\xs.length<=i⟩
noncomputable def Itr(lo:Int)(n:Nat):It:=⟨λ i _=>i<n,λ i H x H'=>H'=H/\x=.int (lo+i),λ i _=>n<=i⟩
theorem aMV{P:qo}{w:zw}{K:FrG}{tg:qw}(a it:qv):Turn P w K tg (Itl K a) [it] it (λ i h=>h.IsListIter it a i) where
 mem:=by simp
 obj:=λ i h st b hb=>by
  have e:b=it:=by simpa using hb
  subst e;obtain⟨o,e,c,d⟩:=st;exact⟨o,e,λ v z=>by rw[d] at z;cases z⟩
 keep:=λ i h h' st k=>st.at λ o e=>k it (by simp) o e
 item:=by
  intro X hP hw hK hc i aB s σ H E I hf st hg;subst hP hw hK;obtain⟨xs,x,hq,hx⟩:=hg;obtain⟨aF,rv,p,hz⟩:=I.list hq;obtain⟨u,hu,ru⟩:=rv.get hx;obtain⟨f0,f1,f2,f3,f4,f5⟩:=hf it (by simp)
  refine wq st p.isList (x:=u) (by simpa using hu) λ h' st' sb=>?_
  have I1:Inv X aB σ H {s with heap:=h' }:=I.turned (t':=s.toks) (λ b o hb e=>(sb.2 b hb).trans e) f0 f1 f3 f4 f5
  obtain⟨o,e,c,d⟩:=id st';exact⟨u,rfl,aAU (s:={s with heap:=h' }) e c d (by decide) ⟨x,H,I1,ru,⟨rfl,λ ys hy=>by rw[I.list_inj hy hq];exact hx⟩,st',λ b hb=>(hf b hb).1⟩⟩
 done:=by
  intro X hP hw hK hc i aB s σ H E I hf st hg;subst hP hw hK;obtain⟨xs,hq,hx⟩:=hg;obtain⟨aF,rv,p,hz⟩:=I.list hq;obtain⟨f0,f1,f2,f3,f4,f5⟩:=hf it (by simp)
  have hl:=rv.length;exact wz (I.ok.hd hc) st p.isList (by simp;omega) λ h' eb=>⟨rfl,I.turned (t':=s.toks) (λ b o hb e=>eb b o hb e) f0 f1 f3 f4 f5⟩
 self:=λ _ _ _ _ _ st h=>wpAny_pyIter_listiter st h
theorem aLF{P:qo}{w:zw}{K:FrG}{tg:qw}(a it:qv):Turn P w K tg (Itt K a) [it] it (λ i h=>h.IsTupleIter it a i) where
 mem:=by simp
 obj:=λ i h st b hb=>by
  have e:b=it:=by simpa using hb
  subst e;obtain⟨o,e,c,d⟩:=st;exact⟨o,e,λ v z=>by rw[d] at z;cases z⟩
 keep:=λ i h h' st k=>st.at λ o e=>k it (by simp) o e
 item:=by
  intro X hP hw hK hc i aB s σ H E I hf st hg;subst hP hw hK;obtain⟨xs,x,hq,hx⟩:=hg;obtain⟨aF,rv,p,hz⟩:=I.tuple hq;obtain⟨u,hu,ru⟩:=rv.get hx;obtain⟨f0,f1,f2,f3,f4,f5⟩:=hf it (by simp)
  refine wpAny_pyNext_tuple_item st (show s.heap.IsTuple a aF.toArray from p) (x:=u) (by simpa using hu) λ h' st' sb=>?_
  have I1:Inv X aB σ H {s with heap:=h' }:=I.turned (t':=s.toks) (λ b o hb e=>(sb.2 b hb).trans e) f0 f1 f3 f4 f5
  obtain⟨o,e,c,d⟩:=id st';exact⟨u,rfl,aAU (s:={s with heap:=h' }) e c d (by decide) ⟨x,H,I1,ru,⟨rfl,λ ys hy=>by rw[I.tuple_inj hy hq];exact hx⟩,st',λ b hb=>(hf b hb).1⟩⟩
 done:=by
  intro X hP hw hK hc i aB s σ H E I hf st hg;subst hP hw hK;obtain⟨xs,hq,hx⟩:=hg;obtain⟨aF,rv,p,hz⟩:=I.tuple hq;obtain⟨f0,f1,f2,f3,f4,f5⟩:=hf it (by simp)
  have hl:=rv.length;exact wpAny_pyNext_tuple_end (I.ok.hd hc) st (show s.heap.IsTuple a aF.toArray from p) (by simp;omega) λ h' eb=>⟨rfl,I.turned (t':=s.toks) (λ b o hb e=>eb b o hb e) f0 f1 f3 f4 f5⟩
 self:=λ _ _ _ _ _ st h=>wpAny_pyIter_tupleiter st h
theorem aLV{P:qo}{w:zw}{K:FrG}{tg:qw}(it:qv)(lo:Int)(n:Nat):Turn P w K tg (Itr lo n) [it] it (λ i h=>kz h it (lo+(i:Nat)*1) ((n:Int)-(i:Nat)) 1) where
 mem:=by simp
 obj:=λ i h st b hb=>by
  have e:b=it:=by simpa using hb
  subst e;exact⟨_,st,λ v z=>by
   have z':Data.fields _=Data.cell v:=z;cases z'⟩
 keep:=λ i h h' st k=>k it (by simp) _ st
 item:=by
  intro X hP hw hK hc i aB s σ H E I hf st hg;subst hP hw hK;obtain⟨f0,f1,f2,f3,f4,f5⟩:=hf it (by simp)
  have W:=Walks.range (prog:=X.prog) (w:=X.w) (I.ok.hd hc) it lo 1 n;refine W.item i s _ _ hg st λ v h' tk hv st' kk=>?_
  obtain⟨t,rfl⟩:=hv;have I1:Inv X aB σ H {s with heap:=h',toks:=tk }:=I.turned (λ b o hb e=>kk b o (by simpa using hb) e) f0 f1 f3 f4 f5
  refine⟨_,rfl,aAU (s:={s with heap:=h',toks:=tk }) (n:="range_iterator") st' rfl rfl (by decide) ⟨.int (lo+i),H,I1,⟨t,?_⟩,⟨rfl,rfl⟩,st',λ b hb=>(hf b hb).1⟩⟩
  rw[Int.mul_one]
 done:=by
  intro X hP hw hK hc i aB s σ H E I hf st hg;subst hP hw hK;obtain⟨f0,f1,f2,f3,f4,f5⟩:=hf it (by simp)
  exact wpAny_pyNext_range_end (I.ok.hd hc) st (by have:n<=i:=hg;omega) λ h' eb=>⟨rfl,I.turned (t':=s.toks) (λ b o hb e=>eb b o hb e) f0 f1 f3 f4 f5⟩
 self:=λ _ _ _ _ _ st h=>yo st h
end L2
namespace L2
open PySem PySem.Spec PyProof.Rows
section
variable {X : Cx}{tg : qw}
def aUw(K:FrG)(tl:TE):TI:=λ σ H R=>tl σ H λ x H1=>∃ a,x=.ref a/\(∃ xs,bY K H1 a xs)/\R (Itl K a) H1
def aVB(K:FrG)(tl:TE):TI:=λ σ H R=>tl σ H λ x H1=>∃ a,x=.ref a/\(∃ xs,cF K H1 a xs)/\R (Itt K a) H1
theorem aOI{l:qw}{tl:TE}(hl:PE X l tl):PI X tg l (aUw X.K tl):=by
 intro aB s σ H R I h;refine bD (hl aB s σ H _ I h) λ v s1 hPq15=>?_
 obtain⟨x,H1,I1,r1,q1⟩:=hPq15;obtain⟨a,e,⟨xs,hq⟩,q⟩:=q1;subst e;cases r1;obtain⟨aF,rv,p,hz⟩:=I1.list hq;refine jw p.isList ?_;refine⟨s1.heap.objs.size,[s1.heap.objs.size],_,_,H1,rfl,I1.kept (t':=s1.toks) λ b o e=>hpS _ e,aMV a _,⟨_,xAe _ rfl,rfl,rfl⟩,λ b hb=>?_,q⟩
 have e:b=s1.heap.objs.size:=by simpa using hb
 subst e;exact I1.fpOk (yAc _) (I1.hok.fresh (yAc _))
theorem aR5{l:qw}{tl:TE}(hl:PE X l tl):PI X tg l (aVB X.K tl):=by
 intro aB s σ H R I h;refine bD (hl aB s σ H _ I h) λ v s1 hPq16=>?_
 obtain⟨x,H1,I1,r1,q1⟩:=hPq16;obtain⟨a,e,⟨xs,hq⟩,q⟩:=q1;subst e;cases r1;obtain⟨aF,rv,p,hz⟩:=I1.tuple hq;refine wpAny_pyIter_tuple (show s1.heap.IsTuple a aF.toArray from p) ?_
 refine⟨s1.heap.objs.size,[s1.heap.objs.size],_,_,H1,rfl,I1.kept (t':=s1.toks) λ b o e=>hpS _ e,aLF a _,⟨_,xAe _ rfl,rfl,rfl⟩,λ b hb=>?_,q⟩
 have e:b=s1.heap.objs.size:=by simpa using hb
 subst e;exact I1.fpOk (yAc _) (I1.hok.fresh (yAc _))
theorem aNn{aB:List (qv×Obj)}{σ:St}{H:Hp}{s:qj}{R:It->Hp->Prop}{E:qx->qj->Prop}{lo hi:Int}{t u v:Tok}{tk:Nat}(I:Inv X aB σ H s)(h1 : -(2^62)<=lo)(h2:lo<2^62)(h3 : -(2^62)<=hi)(h4:hi<2^62)
 (q:R (Itr lo (hi-lo).toNat) H):qy (model X.prog X.w) X.A (pyIter (.ref s.heap.objs.size)) (PIE X aB σ tg R) E {s with heap:=s.heap.push {cls:=.type "range",data:=.fields #[.int lo t,.int hi u,.int 1 v] },toks:=tk }:=by
 refine wpAny_pyIter_range (IsRange.new ..) (small_one h1 h2 h3 h4) ?_;have I1:Inv X aB σ H {s with heap:=s.heap.push {cls:=.type "range",data:=.fields #[.int lo t,.int hi u,.int 1 v] },toks:=tk }:=I.kept λ b o e=>hpS _ e
 refine⟨(s.heap.push {cls:=.type "range",data:=.fields #[.int lo t,.int hi u,.int 1 v] }).objs.size,[(s.heap.push {cls:=.type "range",data:=.fields #[.int lo t,.int hi u,.int 1 v] }).objs.size],_,_,H,rfl,
  I1.kept (t':=tk) λ b o e=>hpS _ e,aLV _ lo (hi-lo).toNat,?_,λ b hb=>?_,q⟩
 ·have e1:lo+((0:Nat):Int)*1=lo:=by simp
  have e2:(((hi-lo).toNat:Nat):Int)-((0:Nat):Int)=yCq lo hi 1:=by rw[rangeSize_one];split<;>omega
  show kz _ _ (lo+((0:Nat):Int)*1) ((((hi-lo).toNat:Nat):Int)-((0:Nat):Int)) 1;rw[e1,e2];exact xAe _ rfl
 ·have e:b=(s.heap.push {cls:=.type "range",data:=.fields #[.int lo t,.int hi u,.int 1 v] }).objs.size:=by simpa using hb
  subst e;exact I1.fpOk (yAc _) (I1.hok.fresh (yAc _))
def aJA(ta:TA):TI:=λ σ H R=>ta σ H λ vs H1=>∃ j:Int,vs=[.int j] /\ -(2^62)<=j/\j<2^62/\R (Itr 0 j.toNat) H1
theorem aME{a:qw}{ta:TA}{p pos:Pos}(hg:Gl X "range")(hm:X.mg "range" = qz)(ha:PA X [a] ta)(hs:zq [a] X.env=[(false,eval a X.env)]:=by rfl):PI X tg (.Call (.Name "range" p) [a] [] pos) (aJA ta):=by
 intro aB s σ H R I h;refine Call_ (lB I hg hm boot_range (yBe (bD (ha pos aB s σ H _ I h) λ us s1 hPq17=>?_) hs rfl))
 obtain⟨vs,H1,I1,r1,q1⟩:=hPq17;obtain⟨j,e,q1,q2,q⟩:=q1;subst e;cases r1 with
 | cons r rr =>
   cases rr;obtain⟨t,rfl⟩:=r;exact call_range_1 (aNn I1 (by omega) (by omega) q1 q2 (by simpa using q))
def aVE(wi:TI)(g:TG)(tb:TS):TS:=λ D σ H=>wi σ H λ J H1=>∃ W:Nat->Nat->St->Hp->Prop,(∃ m,W 0 m σ H1)/\∀ i m σ H,W i m σ H ->
 (J.stop i H/\D.nx σ H)\/(J.go i H/\∃ N:St->Hp->Prop,(∀ σ' H',N σ' H'->∃ m',m'<m/\W (i+1) m' σ' H')/\∀ x H',J.yld i H x H'->g x σ H' λ σ2 H2=>tb {D with nx:=N,ct:=N,bk:=D.nx } σ2 H2)
noncomputable def vB(fp:List qv)(h:Heap):List (qv×Obj):=fp.filterMap λ b=>(h.get? b).map λ o=>(b,o)
theorem tN{fp:List qv}{h:Heap}{b:qv}{o:Obj}(hb:b∈fp)(e:h.get? b=qq o):(b,o)∈vB fp h:=List.mem_filterMap.mpr ⟨b,hb,by rw[e];rfl⟩
theorem aMu{fp:List qv}{h:Heap}{p:qv×Obj}(hp:p∈vB fp h):p.1∈fp/\h.get? p.1=qq p.2:=by
 obtain⟨b,hb,e⟩:=List.mem_filterMap.mp hp;cases q:h.get? b with
 | none=>rw[q] at e;cases e
 | some o =>
   rw[q] at e;have e':(b,o)=p:=Option.some.inj e;subst e';exact⟨hb,q⟩
theorem Inv.pinned{aB:List (qv×Obj)}{σ:St}{H:Hp}{s:qj}{fp:List qv}(I:Inv X aB σ H s)(hf:∀ b∈fp,gH X aB H b)(ho:∀ b∈fp,∃ o,s.heap.get? b=qq o/\∀ v,o.data≠.cell v):Inv X (aB++vB fp s.heap) σ H s:=
 I.pins_of λ p hp=>(List.mem_append.mp hp).elim (λ z=>I.pin p (xAq _ z)) λ z=>by
  obtain⟨hb,e⟩:=aMu z;obtain⟨f0,f1,f2,_⟩:=hf p.1 hb;obtain⟨o,e',d⟩:=ho p.1 hb;rw[e] at e';cases e';exact⟨e,f0,f1,f2,d⟩
theorem Inv.unpinned{aB pl:List (qv×Obj)}{σ:St}{H:Hp}{s:qj}(I:Inv X (aB++pl) σ H s):Inv X aB σ H s:=I.pins_of λ p hp=>I.pin p (xAq _ (List.mem_append_left _ hp))
theorem aRO{iter:qw}{body:List jz}{wi:TI}{g:TG}{tb:TS}{pos:Pos}(hp:PassesOwn (model X.prog X.w) X.A X.env X.xe)(hc:X.calm=true)(hi:PI X tg iter wi)(hg:PG X tg g)(hb:dU X body tb)
 (hs:∀ x,jj iter X.env x=pure x:=by intro _;rfl):PS X (.For tg iter body [] pos) (aVE wi g tb):=by
 intro aB s σ H D I h;refine wpAny_For (bD (hi aB s σ H _ I h) λ v s1 h1=>bD h1 λ itv s2 h2=>?_) hs
 obtain⟨it,fp,tn,J,H2,e,I2,T,st2,f2,W,⟨m0,w0⟩,turn⟩:=h2;subst e;have stat:∀ {H':Hp},(∀ b∈fp,H' b=qz)->∀ b∈fp,gH X aB H' b:=λ hn b hb=>⟨hn b hb,(f2 b hb).2⟩
 refine codeAny_forLoop_any (λ n s'=>∃ i σ' H',Inv X aB σ' H' s'/\tn i s'.heap/\(∀ b∈fp,H' b=qz)/\W i n σ' H') ?_ m0 ⟨0,σ,H2,I2,st2,λ b hb=>(f2 b hb).1,w0⟩
 rintro n s3 ⟨i,σ3,H3,I3,st3,fr3,w3⟩;rcases turn i n σ3 H3 w3 with ⟨stop,qn⟩ | ⟨go,N,hN,step⟩
 ·refine vy hp (bD (T.done X rfl rfl rfl hc i aB s3 σ3 H3 X.xe I3 (stat fr3) st3 stop) λ r s4 hPq18=>?_)
  obtain⟨hr,I4⟩:=hPq18;subst hr;exact wpAny_execs_nil ⟨σ3,H3,I4,qn⟩
 ·refine vy hp (bD (T.item X rfl rfl rfl hc i aB s3 σ3 H3 X.xe I3 (stat fr3) st3 go) λ r s4 hPq19=>?_)
  obtain⟨u,hr,h4⟩:=hPq19;subst hr;refine vy hp (bD h4 λ _ s5 hPq20=>?_)
  obtain⟨x,H5,I5,r5,y5,st5,fr5⟩:=hPq20;have I5':=I5.pinned (stat fr5) (T.obj _ _ st5);refine vy hp (bD (hg _ s5 σ3 H5 x u _ I5' r5 (step x H5 y5)) λ _ s6 hPq21=>?_)
  obtain⟨σ6,H6,I6,q6⟩:=hPq21;refine vy hp (bD (hb _ s6 σ6 H6 _ I6 q6) λ f s7 q7=>?_)
  have again:∀ {σ7:St}{H7:Hp},Inv X (aB++vB fp s5.heap) σ7 H7 s7->N σ7 H7->∃ m,m<n/\∃ i σ' H',Inv X aB σ' H' s7/\tn i s7.heap/\(∀ b∈fp,H' b=qz)/\W i m σ' H':=λ {σ7 H7} I7 n7=>by
   obtain⟨m',hm,w7⟩:=hN σ7 H7 n7;refine⟨m',hm,i+1,σ7,H7,I7.unpinned,T.keep _ _ _ st5 λ b hb o e=>(I7.pin (b,o) (xAq _ (xAq _ (tN hb e)))).1,λ b hb=>?_,w7⟩
   obtain⟨o,e,d⟩:=T.obj _ _ st5 b hb;exact(I7.pin (b,o) (xAq _ (xAq _ (tN hb e)))).2.1
  cases f with
  | next=>obtain⟨σ7,H7,I7,n7⟩:=q7;exact again I7 n7
  | cont=>obtain⟨σ7,H7,I7,n7⟩:=q7;exact again I7 n7
  | brk=>obtain⟨σ7,H7,I7,q7⟩:=q7;exact⟨σ7,H7,I7.unpinned,q7⟩
  | ret v=>obtain⟨x7,σ7,H7,I7,r7,q7⟩:=q7;exact⟨x7,σ7,H7,I7.unpinned,r7,q7⟩
end
end L2
namespace L2
open PySem PySem.Spec PyProof.Rows
abbrev R2:=V->V->Hp->VK->Prop
def cJ(X:Cx)(f:qx->qx->Sem qx)(r:R2):Prop:=
 ∀ (aB:List (qv×Obj)) (s:qj) (σ:St) (H:Hp) (x y:V) (v u:qx) (Q:VK),Inv X aB σ H s->aZ x v->aZ y u->r x y H Q ->
  qy (model X.prog X.w) X.A (f v u) (EP X aB σ Q) X.xe s
def UnR(X:Cx)(f:qx->Sem qx)(r:V->Hp->VK->Prop):Prop:=
 ∀ (aB:List (qv×Obj)) (s:qj) (σ:St) (H:Hp) (x:V) (v:qx) (Q:VK),Inv X aB σ H s->aZ x v->r x H Q ->
  qy (model X.prog X.w) X.A (f v) (EP X aB σ Q) X.xe s
def dF(X:Cx)(f:qx)(r:List V->Hp->VK->Prop):Prop:=
 ∀ (aB:List (qv×Obj)) (s:qj) (σ:St) (H:Hp) (xs:List V) (us:List qx) (Q:VK),Inv X aB σ H s->aS xs us->r xs H Q ->
  qy (model X.prog X.w) X.A (call f us) (EP X aB σ Q) X.xe s
def aWh(X:Cx)(r:V->Hp->(Bool->Hp->Prop)->Prop):Prop:=
 ∀ (aB:List (qv×Obj)) (s:qj) (σ:St) (H:Hp) (x:V) (v:qx) (Q:Bool->Hp->Prop),Inv X aB σ H s->aZ x v->r x H Q ->
  qy (model X.prog X.w) X.A (truthy v) (TP X aB σ Q) X.xe s
def xO(r:R2)(ta tb:TE):TE:=λ σ H Q=>ta σ H λ x H1=>tb σ H1 λ y H2=>r x y H2 Q
def tUn(r:V->Hp->VK->Prop)(ta:TE):TE:=λ σ H Q=>ta σ H λ x H1=>r x H1 Q
noncomputable def rI(C:Int->Int->Prop)(g:Int->Int->V):R2:=λ x y H Q=>∃ i j,x=.int i/\y=.int j/\C i j/\Q (g i j) H
noncomputable def jL(g:Int->Int->V):R2:=λ x y H Q=>∃ i j,x=.int i/\y=.int j/\Q (g i j) H
noncomputable def rU(g:Int->V):V->Hp->VK->Prop:=λ x H Q=>∃ i,x=.int i/\Q (g i) H
section
variable {X : Cx}{a b c : qw}{ta tb tc : TE}{pos : Pos}
theorem aDG(ha:PE X a ta)(hb:PE X b tb){aB:List (qv×Obj)}{s:qj}{σ:St}{H:Hp}{R:V->V->Hp->Prop}(I:Inv X aB σ H s)
 (h:ta σ H λ x H1=>tb σ H1 λ y H2=>R x y H2) {Q:qx->qj->Prop}{f:qx->qx->Sem qx}
 (hf:∀ v u s2 x y H2,Inv X aB σ H2 s2->aZ x v->aZ y u->R x y H2->qy (model X.prog X.w) X.A (f v u) Q X.xe s2) :
 qy (model X.prog X.w) X.A (eval a X.env) (λ v s₁=>qy (model X.prog X.w) X.A (eval b X.env) (λ u s₂=>qy (model X.prog X.w) X.A (f v u) Q X.xe s₂) X.xe s₁) X.xe s:=by
 refine bD (ha aB s σ H _ I h) λ v s1 hPq22=>?_
 obtain⟨x,H1,I1,r1,q1⟩:=hPq22;refine bD (hb aB s1 σ H1 _ I1 q1) λ u s2 hPq23=>?_
 obtain⟨y,H2,I2,r2,q2⟩:=hPq23;exact hf v u s2 x y H2 I2 r1 r2 q2
theorem aI5{op:jo}{r:R2}(ho:cJ X (zo op) r)(ha:PE X a ta)(hb:PE X b tb):PE X (.BinOp a op b pos) (xO r ta tb):=by
 intro aB s σ H Q I h;exact wpAny_BinOp (aDG ha hb I h λ v u s2 x y H2 I2 rx ry q=>ho aB s2 σ H2 x y v u Q I2 rx ry q)
theorem aUn{op:yz}{r:V->Hp->VK->Prop}(ho:UnR X (unaryOp op) r)(ha:PE X a ta):PE X (.UnaryOp op a pos) (tUn r ta):=by
 intro aB s σ H Q I h;exact UnaryOp_ (bD (ha aB s σ H _ I h) λ v s1 ⟨x,H1,I1,r1,q1⟩=>ho aB s1 σ H1 x v Q I1 r1 q1)
theorem xF{f:qx->qx->Sem qx}{C:Int->Int->Prop}{g:Int->Int->Int}
 (rule:∀ (i j:Int) (t u:Tok) (s:qj) (Q:qx->qj->Prop) (E:qx->qj->Prop),C i j->Q (.int (g i j) s.toks) {s with toks:=s.toks+1 }->qy (model X.prog X.w) X.A (f (.int i t) (.int j u)) Q E s) :
 cJ X f (rI C λ i j=>.int (g i j)):=by
 intro aB s σ H x y v u Q I rx ry h;obtain⟨i,j,rfl,rfl,hc,q⟩:=h;obtain⟨t,rfl⟩:=rx;obtain⟨t',rfl⟩:=ry;exact rule i j t t' s _ _ hc ⟨.int (g i j),H,I.tok _,⟨_,rfl⟩,q⟩
theorem wE{f:qx->qx->Sem qx}{g:Int->Int->Int}
 (rule:∀ (i j:Int) (t u:Tok) (s:qj) (Q:qx->qj->Prop) (E:qx->qj->Prop),Q (.int (g i j) s.toks) {s with toks:=s.toks+1 }->qy (model X.prog X.w) X.A (f (.int i t) (.int j u)) Q E s) :
 cJ X f (jL λ i j=>.int (g i j)):=by
 intro aB s σ H x y v u Q I rx ry h;obtain⟨i,j,rfl,rfl,q⟩:=h;obtain⟨t,rfl⟩:=rx;obtain⟨t',rfl⟩:=ry;exact rule i j t t' s _ _ ⟨.int (g i j),H,I.tok _,⟨_,rfl⟩,q⟩
theorem aA5{f:qx->qx->Sem qx}{g:Int->Int->Bool}
 (rule:∀ (i j:Int) (t u:Tok) (s:qj) (Q:qx->qj->Prop) (E:qx->qj->Prop),Q (.bool (g i j)) s->qy (model X.prog X.w) X.A (f (.int i t) (.int j u)) Q E s) :
 cJ X f (jL λ i j=>.bl (g i j)):=by
 intro aB s σ H x y v u Q I rx ry h;obtain⟨i,j,rfl,rfl,q⟩:=h;obtain⟨t,rfl⟩:=rx;obtain⟨t',rfl⟩:=ry;exact rule i j t t' s _ _ ⟨.bl (g i j),H,I,rfl,q⟩
def aVQ(i j:Int):Prop:=0<=j/\j<=1000000/\i.natAbs<2^64
def aJV(i j:Int):Prop:=(-(2^64)<i/\i<2^64)\/(-(2^64)<j/\j<2^64)
theorem aJV.ok{i j:Int}(h:aJV i j):IntMulOk i j:=by
 rcases h with ⟨h1,h2⟩ | ⟨h1,h2⟩
 ·exact .of_left (intBits_le_64 h1 h2)
 ·exact .of_right (intBits_le_64 h1 h2)
theorem aLN(k:Nat):(0:Int)<=2^k:=by
 rw[two_pow_cast];exact yFb _
theorem aRP:cJ X (zo .Add) (jL λ i j=>.int (i+j)):=wE λ _ _ _ _ _ _ _ q=>add_int q
theorem aRF:cJ X (zo .Sub) (jL λ i j=>.int (i-j)):=wE λ _ _ _ _ _ _ _ q=>sub_int q
theorem aOQ:cJ X (zo .Mod) (rI (λ _ j=>j≠0) λ i j=>.int (i.fmod j)):=xF λ _ _ _ _ _ _ _ hc q=>mod_int' hc q
theorem aSG:cJ X (zo .Pow) (rI aVQ λ i j=>.int (i^j.toNat)):=xF λ _ _ _ _ _ _ _ hc q=>pow_int_small hc.1 hc.2.1 hc.2.2 q
theorem aSu:cJ X (zo .RShift) (rI (λ _ j=>0<=j) λ i j=>.int (i/2^j.toNat)):=xF λ i j _ _ _ _ _ hc q =>
 rshift_int hc (by rw[Int.fdiv_eq_ediv_of_nonneg i (aLN _)];exact q)
theorem aR6:cJ X (zo .BitAnd) (jL λ i j=>.int (yDu i j)):=wE λ _ _ _ _ _ _ _ q=>and_int q
theorem aTx:cJ X (zo .BitOr) (jL λ i j=>.int (yGu i j)):=wE λ _ _ _ _ _ _ _ q=>or_int q
theorem aRI:cJ X (zo .BitXor) (jL λ i j=>.int (yGn i j)):=wE λ _ _ _ _ _ _ _ q=>xor_int q
theorem unI{f:qx->Sem qx}{g:Int->Int}
 (rule:∀ (i:Int) (t:Tok) (s:qj) (Q:qx->qj->Prop) (E:qx->qj->Prop),Q (.int (g i) s.toks) {s with toks:=s.toks+1 }->qy (model X.prog X.w) X.A (f (.int i t)) Q E s) :
 UnR X f (rU λ i=>.int (g i)):=by
 intro aB s σ H x v Q I rx h;obtain⟨i,rfl,q⟩:=h;obtain⟨t,rfl⟩:=rx;exact rule i t s _ _ ⟨.int (g i),H,I.tok _,⟨_,rfl⟩,q⟩
theorem aQk:UnR X (unaryOp .USub) (rU λ i=>.int (-i)):=unI λ _ _ _ _ _ q=>neg_int q
theorem aQJ:UnR X (unaryOp .Invert) (rU λ i=>.int (yBp i)):=unI λ _ _ _ _ _ q=>invert_int q
end
section
variable {X : Cx}{a b c : qw}{ta tb tc : TE}{pos : Pos}
theorem aHX{aB:List (qv×Obj)}{σ:St}{H:Hp}{s:qj}{Q:VK}{k k':Bool}(I:Inv X aB σ H s)(q:Q (.bl k) H)(e:k=k'):EP X aB σ Q (.bool k') s:=by
 subst e;exact⟨.bl k,H,I,rfl,q⟩
theorem aSY:cJ X (jx .Lt) (jL λ i j=>.bl (decide (i<j))):=aA5 λ _ _ _ _ _ _ _ q=>lt_int q
theorem aT8:cJ X (jx .LtE) (jL λ i j=>.bl (decide (i<=j))):=aA5 λ _ _ _ _ _ _ _ q=>le_int q
theorem aS8:cJ X (jx .Gt) (jL λ i j=>.bl (decide (j<i))):=aA5 λ _ _ _ _ _ _ _ q=>gt_int q
theorem aUY:cJ X (jx .GtE) (jL λ i j=>.bl (decide (j<=i))):=aA5 λ _ _ _ _ _ _ _ q=>ge_int q
theorem aQI:cJ X (jx .Is) (λ x y H Q=>y=.non/\Q (.bl (decide (x=.non))) H):=by
 intro aB s σ H x y v u Q I rx ry h;obtain⟨rfl,q⟩:=h;cases ry;refine is_none_gen (aHX I q ?_);cases x<;>first
  | (cases rx;rfl)
  | (obtain⟨t,rfl⟩:=rx;rfl)
theorem aO5:cJ X (jx .IsNot) (λ x y H Q=>y=.non/\Q (.bl (!decide (x=.non))) H):=by
 intro aB s σ H x y v u Q I rx ry h;obtain⟨rfl,q⟩:=h;cases ry;refine isnot_none_gen (aHX I q ?_);cases x<;>first
  | (cases rx;rfl)
  | (obtain⟨t,rfl⟩:=rx;rfl)
theorem cJ.or{f:qx->qx->Sem qx}{r r':R2}(h:cJ X f r)(h':cJ X f r'):cJ X f (λ x y H Q=>r x y H Q\/r' x y H Q):=by
 intro aB s σ H x y v u Q I rx ry q;rcases q with q | q
 ·exact h aB s σ H x y v u Q I rx ry q
 ·exact h' aB s σ H x y v u Q I rx ry q
theorem aWO(b:qw){op:vj}(h:op≠.In:=by decide)(h2:op≠.NotIn:=by decide):jk op b=false:=by
 have e1:(op==CmpOp.In)=false:=by cases op<;>first | rfl | exact absurd rfl h
 have e2:(op==CmpOp.NotIn)=false:=by cases op<;>first | rfl | exact absurd rfl h2
 cases b<;>simp[jk,e1,e2]
theorem aPb{op:vj}{r:R2}(ho:cJ X (jx op) r)(ha:PE X a ta)(hb:PE X b tb)(hm:jk op b=false):PE X (.Compare a [op] [b] pos) (xO r ta tb):=by
 intro aB s σ H Q I h;exact wpAny_Compare1 (aDG ha hb I h λ v u s2 x y H2 I2 rx ry q=>ho aB s2 σ H2 x y v u Q I2 rx ry q) hm
def aUG(t:TE):TT:=λ σ H Q=>t σ H λ x H'=>∃ k,x=.bl k/\Q k H'
theorem aOu{op:vj}{r:R2}(ho:cJ X (jx op) r)(ha:PE X a ta)(hb:PE X b tb)(hm:jk op b=false):PT X (.Compare a [op] [b] pos) (aUG (xO r ta tb)):=by
 intro aB s σ H Q I h;refine wpAny_isTrue_Compare1 (bD (ha aB s σ H _ I h) λ v s1 ⟨x,H1,I1,r1,q1⟩=>bD (hb aB s1 σ H1 _ I1 q1) λ u s2 ⟨y,H2,I2,r2,q2⟩ =>
  bD (ho aB s2 σ H2 x y v u _ I2 r1 r2 q2) λ c s3 ⟨z,H3,I3,r3,k,e,q3⟩=>?_) hm
 subst e;cases r3;exact jv ⟨H3,I3,q3⟩
def aDv(K:FrG)(x:V)(H:Hp)(k:Bool):Prop:=
 match x with
 | .non=>k=false
 | .bl b=>k=b
 | .int i=>k=(i != 0)
 | .str y=>y.length<=qk/\k=((y.length:Int) != 0)
 | .byt y=>y.size<=qk/\k=((y.size:Int) != 0)
 | .ref p=>(∃ xs,bY K H p xs/\k = !xs.isEmpty)\/(∃ xs,cF K H p xs/\k = !xs.isEmpty)\/∃ aW,H p=qq (.dK aW)/\k = !aW.isEmpty
 | _=>False
theorem aLT{κ:Type}{aW:List (κ×V)}{vs:List (κ×qx)}(r:KV aW vs):(!vs.isEmpty) = !aW.isEmpty:=by
 cases r<;>rfl
theorem aE5{xs:List V}{aF:List qx}(r:aS xs aF):(!aF.toArray.isEmpty) = !xs.isEmpty:=by
 cases r<;>simp
theorem pS:(qk:Nat)<2^63:=by rw[zj];decide
theorem aQd:aWh X (λ x H Q=>∃ k,aDv X.K x H k/\Q k H):=by
 intro aB s σ H x v Q I rx h;obtain⟨k,e,q⟩:=h;have hl:=pS;have hs:qk=16777216:=zj;cases x with
 | non =>
   cases rx;have e':k=false:=e;subst e';exact truthy_none ⟨H,I,q⟩
 | bl b =>
   cases rx;have e':k=b:=e;subst e';exact jv ⟨H,I,q⟩
 | int i =>
   obtain⟨t,rfl⟩:=rx;have e':k=(i != 0):=e;subst e';exact PySem.P.truthy_int ⟨H,I,q⟩
 | str y =>
   obtain⟨t,rfl⟩:=rx;obtain⟨hy,e'⟩:y.length<=qk/\k=((y.length:Int) != 0):=e;subst e';exact PySem.P.truthy_str (by omega) ⟨H,I.tok _,q⟩
 | byt y =>
   obtain⟨t,rfl⟩:=rx;obtain⟨hy,e'⟩:y.size<=qk/\k=((y.size:Int) != 0):=e;subst e';exact PySem.W.truthy_bytes (by omega) ⟨H,I.tok _,q⟩
 | ref p =>
   cases rx;have e':(∃ xs,bY X.K H p xs/\k = !xs.isEmpty)\/(∃ xs,cF X.K H p xs/\k = !xs.isEmpty)\/∃ aW,H p=qq (.dK aW)/\k = !aW.isEmpty:=e;rcases e' with ⟨xs,hx,e'⟩ | ⟨xs,hx,e'⟩ | ⟨aW,hx,e'⟩
   ·subst e';obtain⟨aF,r,pl,hz⟩:=I.list hx;have cH:=r.length;exact wpAny_truthy_list pl.isList (by simp only[yAe];omega) ⟨H,I.tok _,by rw[aE5 r];exact q⟩
   ·subst e';obtain⟨aF,r,pl,hz⟩:=I.tuple hx;have cH:=r.length;exact truthy_tuple pl (by simp only[yAe];omega) ⟨H,I.tok _,by rw[aE5 r];exact q⟩
   ·subst e';obtain⟨hz,hS,vs,r,m⟩:aW.length<=qk/\(p==sysModules)=false/\∃ vs,KV aW vs/\s.heap.DictOf (nX X.prog X.w) p vs:=I.hok p _ hx;have cH:aW.length=vs.length:=Paired.length r;exact wpAny_truthy_dict hS m (by omega) ⟨H,I.tok _,by rw[aLT r];exact q⟩
 | _=>exact(show False from e).elim
theorem aNM(ha:PE X a ta)(he:∀ gL,isTrue a X.env gL=(do let v <- gL;standAt a.pos;holding [v] (truthy v))) :
 PT X a (λ σ H Q=>ta σ H λ x H'=>∃ k,aDv X.K x H' k/\Q k H'):=by
 intro aB s σ H Q I h;exact isTrue_plain (bD (ha aB s σ H _ I h) λ v s1 ⟨x,H1,I1,r1,q1⟩=>aQd aB s1 σ H1 x v Q I1 r1 q1) (he _)
theorem aLJ:cJ X (zo .Add) (λ x y H Q=>∃ i j,x=.str i/\y=.str j/\i.length+j.length<=qk/\Q (.str (i++j)) H):=by
 intro aB s σ H x y v u Q I rx ry h;obtain⟨i,j,rfl,rfl,hz,q⟩:=h;obtain⟨t,rfl⟩:=rx;obtain⟨t',rfl⟩:=ry;exact add_str (λ t' tk=>⟨.str (i++j),H,I.tok _,⟨_,rfl⟩,q⟩) hz
theorem iY{x:V}{us:List qx}(r:aS [x] us):∃ u,us=[u]/\aZ x u:=by
 cases r with
 | cons r1 r2=>cases r2;exact⟨_,rfl,r1⟩
theorem aAH{x y:V}{us:List qx}(r:aS [x,y] us):∃ u w',us=[u,w']/\aZ x u/\aZ y w':=by
 cases r with
 | cons r1 r2 =>
   cases r2 with
   | cons r3 r4=>cases r4;exact⟨_,_,rfl,r1,r3⟩
theorem aNs:dF X (.builtin "abs") (λ xs H Q=>∃ i,xs=[.int i]/\Q (.int (if i<0 then -i else i)) H):=by
 intro aB s σ H xs us Q I r h;obtain⟨i,rfl,q⟩:=h;obtain⟨u,rfl,t,rfl⟩:=iY r;exact call_abs_int λ u tk=>⟨.int (if i<0 then -i else i),H,I.tok _,⟨_,rfl⟩,q⟩
theorem aMD(hc:X.calm=true):dF X (.builtin "max") (λ xs H Q=>∃ i j,xs=[.int i,.int j]/\Q (.int (if j>i then j else i)) H):=by
 intro aB s σ H xs us Q I r h;obtain⟨i,j,rfl,q⟩:=h;obtain⟨u,w',rfl,⟨t,rfl⟩,⟨t',rfl⟩⟩:=aAH r;refine max_two_ints (I.ok.hd hc) λ h' tk k=>⟨_,H,I.kept k,?_,q⟩
 by_cases hj:j>i
 ·rw[if_pos hj,if_pos hj];exact⟨_,rfl⟩
 ·rw[if_neg hj,if_neg hj];exact⟨_,rfl⟩
theorem aM0(hc:X.calm=true):dF X (.builtin "min") (λ xs H Q=>∃ i j,xs=[.int i,.int j]/\Q (.int (if j<i then j else i)) H):=by
 intro aB s σ H xs us Q I r h;obtain⟨i,j,rfl,q⟩:=h;obtain⟨u,w',rfl,⟨t,rfl⟩,⟨t',rfl⟩⟩:=aAH r;refine min_two_ints (I.ok.hd hc) λ h' tk k=>⟨_,H,I.kept k,?_,q⟩
 by_cases hj:j<i
 ·rw[if_pos hj,if_pos hj];exact⟨_,rfl⟩
 ·rw[if_neg hj,if_neg hj];exact⟨_,rfl⟩
theorem aFn:dF X (.type "int") (λ xs H Q=>(∃ i,xs=[.int i]/\Q (.int i) H)\/∃ k,xs=[.bl k]/\Q (.int (if k then 1 else 0)) H):=by
 intro aB s σ H xs us Q I r h;rcases h with ⟨i,rfl,q⟩ | ⟨k,rfl,q⟩
 ·obtain⟨u,rfl,t,rfl⟩:=iY r;exact call_int_int ⟨.int i,H,I,⟨_,rfl⟩,q⟩
 ·obtain⟨u,rfl,r1⟩:=iY r;cases r1;exact call_int_bool ⟨.int (if k then 1 else 0),H,I.tok _,⟨_,rfl⟩,q⟩
end
end L2
namespace L2
open PySem PySem.Spec PyProof.Rows
structure ObjM(h:Heap)(x dx C:qv)(mA:Str->Option qx):Prop where
 obj:h.get? x=qq (yDk C dx)
 ns:h.Ns1 dx mA
 ne:dx≠x
theorem aM1{h:Heap}{dx:qv}{mA:Str->Option qx}(n:h.Ns1 dx mA):∃ od,h.get? dx=qq od/\∀ name,yHj name od=qq (mA name):=by
 obtain⟨o,es,ep,ho,hd,hk,_,hm⟩:=n;refine⟨o,ho,λ name=>?_⟩
 have e:=hm name;unfold nsFind findBy at e;rw[<- Array.find?_toList] at e;unfold yHj;rw[hd];dsimp only
 split
 ·rename_i y q;rw[q] at e;exact congrArg qq e
 ·rename_i q;rw[q] at e;have a:es.toList.any (·.refKey)=false:=by
   rw[List.any_eq_false];intro y hy;obtain⟨z,t,hkey⟩:=hk y (Array.mem_toList_iff.mp hy);simp[DictEntry.refKey,hkey]
  have a':¬ es.toList.any (·.refKey)=true:=by rw[a];exact yAx
  rw[if_neg a'];exact congrArg qq e
theorem ObjM.look{h:Heap}{x dx C:qv}{mA:Str->Option qx}(I:ObjM h x dx C mA):∃ od,PySem.W.InstAt h x (yDk C dx) C (qq od)/\∀ name,yHj name od=qq (mA name):=
 let ⟨od,ho,hl⟩:=aM1 I.ns
 ⟨od,⟨I.obj,rfl,rfl,ho⟩,hl⟩
section
variable {prog : qo}{w : zw}{A : zy}{E : qx -> qj -> Prop}{s : qj}{K : FrG}{x dx C f : qv}{mA : Str -> Option qx}{name : Str}{v : qx}
end
section
variable {P : qo}{w : zw}{H H' : Hp}{h h' : Heap}{a C dx : qv}{fs fs' : List (Str×V)}
end
structure Cls(K:FrG)(C:qv):Prop where
 pg:PySem.W.plainGet K C Str.empty=true
 hd:PySem.W.hasDictIn K C=true
 po:PySem.W.plainOver K C=true
 sa:yFq K (.ref C) "__setattr__" = qq (qq (.builtin "object.__setattr__"))
theorem Cls.get{K:FrG}{C:qv}(c:Cls K C)(f:Str):PySem.W.plainGet K C f=true:=c.pg
structure Con(K:FrG)(C:qv)(f:Str)(v:V)(u:qx):Prop where
 at_:yFq K (.ref C) f=qq (qq u)
 rel:aZ v u
 get:PySem.W.specialIn K u "__get__" = qq qz
 cp:PySem.W.copiedNames.contains f=false
structure Meth(K:FrG)(C:qv)(m:Str)(f:qv):Prop where
 at_:yFq K (.ref C) m=qq (qq (.ref f))
 fn:PySem.W.isFn K (.ref f)=true
 kp:yCu K (.ref f)=true
section
variable {X : Cx}{aB : List (qv×Obj)}{σ : St}{H : Hp}{s : qj}{a C dx : qv}{fs : List (Str×V)}{f : Str}{v : V}{A : zy}{E : qx -> qj -> Prop}
theorem Inv.made(I:Inv X aB σ H s):Inv X aB σ (bE (bE H s.heap.objs.size (.own (s.heap.objs.size+1))) (s.heap.objs.size+1) (.ins C s.heap.objs.size []))
 {s with heap:=(s.heap.push yCd).push (yDk C s.heap.objs.size) }:=by
 have e1:(s.heap.push yCd).get? s.heap.objs.size=qq yCd:=xAe s.heap rfl;have e2:((s.heap.push yCd).push (yDk C s.heap.objs.size)).get? (s.heap.objs.size+1)=qq (yDk C s.heap.objs.size):=by
  have:=xAe (s.heap.push yCd) (o:=yDk C s.heap.objs.size) rfl;rwa [yBc] at this
 have e3:(s.heap.push yCd).Ns s.heap.objs.size (λ _=>qz):=⟨yCd,#[],_,e1,rfl,(λ e he=>absurd he (by simp)),λ _=>rfl⟩
 have I1:=I.laid (a:=s.heap.objs.size) (o:=.own (s.heap.objs.size+1)) (h':=s.heap.push yCd) (t':=s.toks) (λ b u q=>hpS _ q) (yAc _) ⟨_,e1⟩
 refine I1.laid (a:=s.heap.objs.size+1) (o:=.ins C s.heap.objs.size []) (t':=s.toks) (λ b u q=>hpS _ q) (yHf (yBc _ _)) ?_
 have ne:s.heap.objs.size≠s.heap.objs.size+1:=xAk (yEn _);refine⟨by rw[bP ne,dE],yGa _,ne,e2,λ _=>qz,(Heap.Ns1.of_empty e3).at λ o q=>hpS _ q,λ _=>True.intro,λ y hy=>absurd rfl hy⟩
end
section
variable {X : Cx}{o e value : qw}{f : Str}{pos pos' tpos : Pos}{ta tv : TE}
end
section
variable {X : Cx}{aB : List (qv×Obj)}{σ : St}{H : Hp}{s : qj}{A : zy}{E : qx -> qj -> Prop}{Q : qx -> qj -> Prop}{c : qx}{b : Bool}
inductive TyOf (K:FrG) (H:Hp):V->qx->Prop where
 | non:TyOf K H .non (.type "NoneType")
 | bl (x:Bool):TyOf K H (.bl x) (.type "bool")
 | int (i:Int):TyOf K H (.int i) (.type "int")
 | str (x:Str):TyOf K H (.str x) (.type "str")
 | flt (x:UInt64):TyOf K H (.flt x) (.type "float")
 | lst {a:qv}{xs:List V} (e:H a=qq (.lst xs)):TyOf K H (.ref a) (.type "list")
 | frz {a:qv}{o:Obj}{xs:List V} (e:H a=qq (.frz o (.lst xs))):TyOf K H (.ref a) (.type "list")
 | tup {a:qv}{xs:List V} (e:H a=qq (.tup xs)):TyOf K H (.ref a) (.type "tuple")
 | dK {a:qv}{aW:List (fM×V)} (e:H a=qq (.dK aW)):TyOf K H (.ref a) (.type "dict")
 | dT {a:qv}{aW:List (List fM×V)} (e:H a=qq (.dT aW)):TyOf K H (.ref a) (.type "dict")
 | ins {a C dx:qv}{fs:List (Str×V)} (e:H a=qq (.ins C dx fs)) (cl:Cls K C) (ha:yFq K (.ref C) "__class__" = qq (qq (.builtin "object.__class__")))
    (hn:PySem.W.specialIn K (.builtin "object.__class__") "__get__" = qq (qq (.builtin "getset_descriptor.__get__"))) (htk:PySem.W.takesIn K (.builtin "object.__class__")=qq true)
    (hm:PySem.W.mroIn K C (.type "object")=qq true):TyOf K H (.ref a) (.ref C)
end
end L2
namespace L2
open PySem PySem.Spec PyProof.Rows
structure Room(k:Nat)(A:zy):Prop where
 hd:A.handled=qz
 dp:A.depth+3*k+5<recursionLimit
 un:A.units+16*k+200<cLine
theorem Room.mono{j k:Nat}{A:zy}(r:Room k A)(h:j<=k):Room j A:=⟨r.hd,by have:=r.dp;omega,by have:=r.un;omega⟩
theorem Room.deeper{k:Nat}{A:zy}(r:Room (k+1) A)(env:Env):Room k (A.deeper env):=
 ⟨r.hd,by have:=r.dp;show A.depth+1+3*k+5<_;omega,by have:=r.un;show A.units+3+16*k+200<_;omega⟩
theorem Room.in1{k:Nat}{A:zy}(r:Room (k+1) A):Room k A.in1:=
 ⟨r.hd,by have:=r.dp;show A.depth+3*k+5<_;omega,by have:=r.un;show A.units+1+16*k+200<_;omega⟩
theorem aLU{A:zy}{C:qv}{us:List qx}{kw:List (Str×qx)}:(A.under (.builtin "type.__call__" ⟨.ref C::us,kw⟩)).depth=A.depth+1:=by
 first | rfl | simp[Around.under,Code.weight,Code.isCreation,Code.isGuard,Code.isCaller,Code.frames,Code.isFrame,guardIds]
theorem aL5{A:zy}{C:qv}{us:List qx}{kw:List (Str×qx)}:(A.under (.builtin "type.__call__" ⟨.ref C::us,kw⟩)).units=A.units+1:=by
 first | rfl | simp[Around.under,Code.cUnits,Code.frames,Code.isFrame]
theorem Room.make{k:Nat}{A:zy}(r:Room (k+1) A)(C:qv)(us:List qx)(kw:List (Str×qx)):Room k (A.under (.builtin "type.__call__" ⟨.ref C::us,kw⟩)):=
 ⟨r.hd,by have:=r.dp;rw[aLU];omega,by have:=r.un;rw[aL5];omega⟩
theorem Room.depth{k:Nat}{A:zy}(r:Room k A):A.depth<recursionLimit:=by have:=r.dp;omega
theorem Room.units{k:Nat}{A:zy}(r:Room k A):A.units+64<cLine:=by have:=r.un;omega
def aJU:TA:=λ _ H Q=>Q [] H
def aTJ(ta:TE)(tr:TA):TA:=λ σ H Q=>ta σ H λ x H1=>tr σ H1 λ xs H2=>Q (x::xs) H2
section
variable {X : Cx}{e : qw}{es : List qw}{te : TE}{t : TA}{pos : Pos}
theorem aIw:PA X [] aJU:=λ _ _ _ _ H Q I h=>Calls.spliced_nil ⟨[],H,I,.nil,h⟩
theorem aCw(ha:PE X e te)(hr:PA X es t)(hs:zq (e::es) X.env=(false,eval e X.env)::zq es X.env:=by rfl):PA X (e::es) (aTJ te t):=by
 intro pos aB s σ H Q I h;rw[hs];show qy _ _ (spliced ((false,eval e X.env)::backTo pos (zq es X.env))) _ _ s;refine Calls.spliced_cons (bD (ha aB s σ H _ I h) λ u s1 hPq24=>?_)
 obtain⟨x,H1,I1,r1,q1⟩:=hPq24;exact bD (hr pos aB s1 σ H1 _ I1 q1) λ us s2 ⟨xs,H2,I2,r2,q2⟩=>⟨x::xs,H2,I2,.cons r1 r2,q2⟩
def aVk(t:TA):TE:=λ σ H Q=>t σ H λ xs H1=>xs.length<=qk/\∀ p,H1 p=qz->Q (.ref p) (bE H1 p (.tup xs))
def aVK(t:TA):TE:=λ σ H Q=>t σ H λ xs H1=>xs.length<=qk/\∀ p,H1 p=qz->Q (.ref p) (bE H1 p (.lst xs))
theorem aSr{x1}(h:PA X es t):PE X (.Tuple es x1 pos) (aVk t):=by
 intro aB s σ H Q I hq;refine wpAny_Tuple_spliced (bD (h pos aB s σ H _ I hq) λ us s1 ⟨xs,H1,I1,r,z,q⟩=>⟨by rw[<- r.length];exact z,?_⟩)
 have hf:H1 s1.heap.objs.size=qz:=I1.hok.fresh (yAc _);refine⟨.ref s1.heap.objs.size,bE H1 s1.heap.objs.size (.tup xs),I1.laid (t':=s1.toks) (λ b u e=>hpS _ e) (yAc _) ?_,rfl,q _ hf⟩
 exact⟨z,us,r,⟨_,xAe _ rfl,rfl,_,rfl⟩⟩
theorem aQi(h:PA X es t):PE X (.List es pos) (aVK t):=by
 intro aB s σ H Q I hq;refine wpAny_List_spliced (bD (h pos aB s σ H _ I hq) λ us s1 ⟨xs,H1,I1,r,z,q⟩=>⟨by rw[<- r.length];exact z,?_⟩)
 have hf:H1 s1.heap.objs.size=qz:=I1.hok.fresh (yAc _);refine⟨.ref s1.heap.objs.size,bE H1 s1.heap.objs.size (.lst xs),I1.laid (t':=s1.toks) (λ b u e=>hpS _ e) (yAc _) ?_,rfl,q _ hf⟩
 exact⟨z,us,0,r,xAe _ rfl⟩
end
abbrev Sp:=List V->Hp->VK->XK->Prop
abbrev jK:=List Env->Hp->qj->XK->qx->qj->Prop
structure Env0(P:qo)(w:zw)(K:FrG)(mg:Str->Option qx)(base:Heap)(A:zy)(outer:List Env)(s:qj)(H:Hp):Prop where
 frames:A.frames=qq outer
 mod:Mod K mg base
 bs:∀ b o,base.get? b=qq o->s.heap.get? b=qq o/\H b=qz
 bsz:base.objs.size<=s.heap.objs.size
 funs:s.heap.FunFrames base outer
 frf:∀ b∈hV outer,H b=qz
 hok:dM P w H s.heap
 bare:AllBare s.gens
def CE(outer:List Env)(P:qo)(w:zw)(H:Hp)(s:qj)(Q:VK)(u:qx)(s':qj):Prop:=
 ∃ v H',s'.os=s.os/\AllBare s'.gens/\Un (hV outer) [] H H' s.heap s'.heap/\dM P w H' s'.heap/\aZ v u/\Q v H'
def CR(CX:jK)(outer:List Env)(P:qo)(w:zw)(H:Hp)(s:qj)(Q:VK)(E:XK)(r:Result)(s':qj):Prop:=
 match r with
 | .ok (.ret u)=>CE outer P w H s Q u s'
 | .ok _=>False
 | .error e=>CX outer H s E e s'
structure FnOk(P:qo)(w:zw)(K:FrG)(mg:Str->Option qx)(base:Heap)(CX:jK)(k:Nat)(f:qv)(fd:vq)(ps:List Str)(sp:Sp):Prop where
 len:∀ vs H Q E,sp vs H Q E->vs.length=ps.length
 run:∀ (A:zy) (outer:List Env) (s:qj) (H:Hp) (args:Args) (us:List qx) (vs:List V) (Q:VK) (E:XK),Room k A->Env0 P w K mg base A outer s H->BindsTo s fd args (ps.zip us)->aS vs us->sp vs H Q E ->
  vw (model P w) A (.call (.ref f) args) (CR CX outer P w H s Q E) s
theorem FnOk.mono{P:qo}{w:zw}{K:FrG}{mg:Str->Option qx}{base:Heap}{CX:jK}{j k:Nat}{f:qv}{fd:vq}{ps:List Str}{sp:Sp}(F:FnOk P w K mg base CX j f fd ps sp)(h:j<=k) :
 FnOk P w K mg base CX k f fd ps sp:=⟨F.len,λ A outer s H args us vs Q E hr=>F.run A outer s H args us vs Q E (hr.mono h)⟩
theorem Env0.make{P:qo}{w:zw}{K:FrG}{mg:Str->Option qx}{base:Heap}{A:zy}{outer:List Env}{s:qj}{H:Hp}(e:Env0 P w K mg base A outer s H)(C:qv)(us:List qx)(kw:List (Str×qx)) :
 Env0 P w K mg base (A.under (.builtin "type.__call__" ⟨.ref C::us,kw⟩)) outer s H:=⟨by first | exact e.frames | (simpa [Around.under,Code.envs,Code.isFrame,pushEnvs] using e.frames),e.mod,e.bs,e.bsz,e.funs,e.frf,e.hok,e.bare⟩
theorem Env0.in1{P:qo}{w:zw}{K:FrG}{mg:Str->Option qx}{base:Heap}{A:zy}{outer:List Env}{s:qj}{H:Hp}(e:Env0 P w K mg base A outer s H) :
 Env0 P w K mg base A.in1 outer s H:=⟨e.frames,e.mod,e.bs,e.bsz,e.funs,e.frf,e.hok,e.bare⟩
section
variable {X : Cx}{aB : List (qv×Obj)}{σ : St}{H : Hp}{s s' : qj}
theorem Inv.env0(I:Inv X aB σ H s):Env0 X.prog X.w X.K X.mg X.base X.A X.stack s H:=
 ⟨I.ok.frames,I.ok.mod,I.bs,xAi I.ok.bsz I.sz,I.stack,I.stkFree,I.hok,I.bare⟩
theorem Inv.after{Q:VK}{u:qx}(I:Inv X aB σ H s)(h:CE X.stack X.prog X.w H s Q u s'):EP X aB σ Q u s':=by
 obtain⟨v,H',os,bare,un,hok,r,q⟩:=h;obtain⟨hh,g,d,t,os'⟩:=s';obtain rfl:os'=s.os:=os;exact⟨v,H',I.call (h':=hh) (g':=g) (d':=d) (t':=t) (ch:=[]) un hok bare (λ b z=>absurd z (by simp)),r,q⟩
end
def aAC(sp:Sp)(dvs:List V)(E:XK)(t:TA):TE:=λ σ H Q=>t σ H λ vs H1=>sp (vs++dvs) H1 Q E
def mN(K:FrG)(fd:vq)(ps:List Str)(ds:List qx):Prop:=
 ∀ (s:qj) (us:List qx),K.In s.heap->(us++ds).length=ps.length->BindsTo s fd ⟨us,[]⟩ (ps.zip (us++ds))
theorem mN.all{K:FrG}{fd:vq}{ps:List Str}(h:∀ us:List qx,us.length=ps.length->bindArgs fd ⟨us,[]⟩=pure (ps.zip us)):mN K fd ps []:=λ s us _ hl=>by
 rw[yDy] at hl ⊢;exact .of_eq (h us hl)
def aAt(CX:jK)(X:Cx)(E:XK):Prop:=∀ (aB:List (qv×Obj)) (σ:St) (H:Hp) (s:qj) (e:qx) (s':qj),Inv X aB σ H s->CX X.stack H s E e s'->X.xe e s'
section
variable {X : Cx}{CX : jK}{k : Nat}{f C : qv}{fd : vq}{ps : List Str}{sp : Sp}{dvs : List V}{ds : List qx}{E : XK}{x m : Str}{p pos apos : Pos}{e o : qw}{es : List qw}{ta : TE}{t : TA}
theorem aIc{aB:List (qv×Obj)}{σ:St}{H:Hp}{s:qj}{Q:VK}{us:List qx}{vs:List V}(F:FnOk X.prog X.w X.K X.mg X.base CX k f fd ps sp)(hr:Room k X.A)(hb:mN X.K fd ps ds)(hd:aS dvs ds)(hx:aAt CX X E)
 (I:Inv X aB σ H s) (r:aS vs us) (h:sp (vs++dvs) H Q E):qy (model X.prog X.w) X.A (call (.ref f) us) (EP X aB σ Q) X.xe s:=by
 have r2:aS (vs++dvs) (us++ds):=r.append hd;have hl:(us++ds).length=ps.length:=by rw[<- r2.length];exact F.len _ _ _ _ h
 refine wpAny_call (codeAny_mono (F.run X.A X.stack s H ⟨us,[]⟩ (us++ds) (vs++dvs) Q E hr I.env0 (hb s us I.kIn hl) r2 h) λ r s' hq=>?_)
 cases r with
 | error e=>exact hx aB σ H s e s' I hq
 | ok fl =>
   cases fl with
   | ret u=>exact I.after hq
   | next=>exact False.elim hq
   | brk=>exact False.elim hq
   | cont=>exact False.elim hq
theorem aOO(F:FnOk X.prog X.w X.K X.mg X.base CX k f fd ps sp)(hr:Room k X.A)(hg:Gl X x)(hm:X.mg x=qq (.ref f))(hk:yCu X.K (.ref f)=true)(hb:mN X.K fd ps ds)(hd:aS dvs ds)(hx:aAt CX X E)
 (ha:PA X (e::es) t) (hdb:(x==("__debug__" : Str))=false:=by decide) (he:zq (e::es) X.env=(false,eval e X.env)::zq es X.env:=by rfl) (hpl:(backTo pos (zq es X.env)).any (·.1)=false:=by rfl) :
 PE X (.Call (.Name x p) (e::es) [] pos) (aAC sp dvs E t):=by
 intro aB s σ H Q I h;refine xj (aCz I hg hm ?_ hdb);refine PySem.W.callWith_K (h₀:=X.base) I.ok.mod.kin hk (bD (ha pos aB s σ H _ I h) λ us s1 ⟨vs,H1,I1,r,q⟩=>⟨I1.kIn,?_⟩) he hpl
 exact aIc F hr hb hd hx I1 r q
theorem aNv(F:FnOk X.prog X.w X.K X.mg X.base CX k f fd ps sp)(hr:Room k X.A)(hg:Gl X x)(hm:X.mg x=qq (.ref f))(hk:yCu X.K (.ref f)=true)(hb:mN X.K fd ps ds)(hd:aS dvs ds)(hx:aAt CX X E)
 (hdb:(x==("__debug__" : Str))=false:=by decide):PE X (.Call (.Name x p) [] [] pos) (aAC sp dvs E aJU):=by
 intro aB s σ H Q I h;refine xj (aCz I hg hm ?_ hdb);exact PySem.W.callWith_K0 I.kIn hk (aIc (us:=[]) F hr hb hd hx I .nil h)
structure Mk(K:FrG)(C f:qv):Prop where
 makes:PySem.W.makesIn K C=true
 init:yFq K (.ref C) "__init__" = qq (qq (.ref f))
 fn:PySem.W.isFn K (.ref f)=true
 kp:yCu K (.ref C)=true
end
section
variable {X : Cx}{CX : jK}{k : Nat}{f C : qv}{fd : vq}{ps ks : List Str}{sp : Sp}{E : XK}{x m : Str}{p pos apos kpos : Pos}{e o : qw}{es : List qw}{kws : List Keyword}{te ta : TE}{t tk : TA}{nm : Option Str}
structure KBinds(K:FrG)(fd:vq)(ps ks:List Str)(g:List qx->List qx->List qx)(gV:List V->List V->List V):Prop where
 to:∀ (s:qj) (us ws:List qx),K.In s.heap->(g us ws).length=ps.length->BindsTo s fd ⟨us,ks.zip ws⟩ (ps.zip (g us ws))
 rel:∀ {vs:List V}{us:List qx}{zs:List V}{ws:List qx},aS vs us->aS zs ws->aS (gV vs zs) (g us ws)
variable {g : List qx -> List qx -> List qx}{gV : List V -> List V -> List V}
end
structure FnScope(N P:List Str)(sc:zk):Prop where
 kind:sc.kind=.function
 co:sc.isCoroutine=false
 gen:sc.isGenerator=false
 nd:N.Nodup
 pre:N.take P.length=P
 par:∀ x∈P,sc.names.lookup x=qq .local\/sc.names.lookup x=qq .cell
 nofree:∀ y∈sc.names,y.2≠.free
theorem aFw{kindOf:Str->Option vz}{x:Str}:∀ {binds:List (Str×qx)}{m:Str->Option qx},(∀ v,(x,v) ∉ binds)->bindL kindOf binds m x=m x
 | [],_,_=>rfl
 | (n,v)::r,m,h=>by
   unfold bindL;rw[aFw λ w hw=>h w (xAg _ hw)]
   split
   ·have:x≠n:=by rintro rfl;exact h v xAd
    simp[this]
   ·rfl
theorem aFP{kindOf:Str->Option vz}{x:Str}:∀ {binds:List (Str×qx)}{m:Str->Option qx},(∀ v,(x,v) ∉ binds)->bindC kindOf binds m x=m x
 | [],_,_=>rfl
 | (n,v)::r,m,h=>by
   unfold bindC;rw[aFP λ w hw=>h w (xAg _ hw)]
   split
   ·rfl
   ·have:x≠n:=by rintro rfl;exact h v xAd
    simp[this]
theorem aFq{kindOf:Str->Option vz}{x:Str}{v:qx}:∀ {P:List Str}{vs:List qx}{i:Nat}{m:Str->Option qx},P.Nodup->P[i]? = qq x->vs[i]? = qq v->kindOf x=qq .local ->
 bindL kindOf (P.zip vs) m x=qq v
 | [],_,_,_,_,h,_,_=>by simp at h
 | _::_,[],_,_,_,_,h,_=>by simp at h
 | p::P,w::vs,0,m,nd,h1,h2,hk=>by
   simp at h1 h2;subst h1;subst h2;show bindL kindOf ((p,w)::P.zip vs) m p=_;unfold bindL;rw[aFw λ v hv=>(List.nodup_cons.mp nd).1 (List.of_mem_zip hv).1,if_pos hk]
   simp
 | p::P,w::vs,i+1,m,nd,h1,h2,hk=>by
   show bindL kindOf ((p,w)::P.zip vs) m x=_;unfold bindL;exact aFq (i:=i) (List.nodup_cons.mp nd).2 (by simpa using h1) (by simpa using h2) hk
theorem aFT{kindOf:Str->Option vz}{x:Str}{v:qx}:∀ {P:List Str}{vs:List qx}{i:Nat}{m:Str->Option qx},P.Nodup->P[i]? = qq x->vs[i]? = qq v->kindOf x≠qq .local ->
 bindC kindOf (P.zip vs) m x=qq v
 | [],_,_,_,_,h,_,_=>by simp at h
 | _::_,[],_,_,_,_,h,_=>by simp at h
 | p::P,w::vs,0,m,nd,h1,h2,hk=>by
   simp at h1 h2;subst h1;subst h2;show bindC kindOf ((p,w)::P.zip vs) m p=_;unfold bindC;rw[aFP λ v hv=>(List.nodup_cons.mp nd).1 (List.of_mem_zip hv).1,if_neg hk]
   simp
 | p::P,w::vs,i+1,m,nd,h1,h2,hk=>by
   show bindC kindOf ((p,w)::P.zip vs) m x=_;unfold bindC;exact aFT (i:=i) (List.nodup_cons.mp nd).2 (by simpa using h1) (by simpa using h2) hk
noncomputable def start(N:List Str)(vs:List V):St:=vs.map qq++yAd (N.length-vs.length) qz
noncomputable def sP(CX:jK)(P:qo)(w:zw)(K:FrG)(mg:Str->Option qx)(base:Heap)(N:List Str)(cL:Str)(scope:zk)(f:qv)(cd:qx)(A:zy)(outer:List Env)(s:qj)(H:Hp)(E:XK):Cx where
 prog:=P
 w:=w
 K:=K
 mg:=mg
 base:=base
 A:=A.deeper (envOfC cL scope s.heap.objs.size f cd)
 N:=N
 s₀:=s
 H₀:=H
 env:=envOfC cL scope s.heap.objs.size f cd
 outer:=outer
 stack:=envOfC cL scope s.heap.objs.size f cd::outer
 ex:=[]
 calm:=true
 fn:=λ _=>true
 pn:=[]
 xe:=λ e s'=>qy (model P w) (A.deeper (envOfC cL scope s.heap.objs.size f cd)) (leaving (envOfC cL scope s.heap.objs.size f cd) e) (λ _ s''=>CX outer H s E e s'') (λ e' s''=>CX outer H s E e' s'') s'
theorem aF5{sc:zk}{n:Nat}{x:Str}(h:sc.names.lookup x=qq .cell):∃ c,(cellsFrom n sc.names []).lookup x=qq c:=by
 have q:=PySem.W.cellsFrom_some sc.names n [] (.inl h);exact Option.isSome_iff_exists.mp q
theorem aMb{CX:jK}{P:qo}{w:zw}{K:FrG}{mg:Str->Option qx}{base:Heap}{N ps:List Str}{cL:Str}{scope:zk}{f:qv}{cd:qx}{A:zy}{outer:List Env}{s s1:qj}{H:Hp}{E:XK}{us:List qx}{vs:List V}
 (S:FnScope N ps scope) (hd:A.handled=qz) (e0:Env0 P w K mg base A outer s H) (hl:vs.length=ps.length) (r:aS vs us)
 (x:InCallC s s.heap.objs.size (bindL (envOfC cL scope s.heap.objs.size f cd).kindOf (ps.zip us) λ _=>qz) (cellsFrom (s.heap.objs.size+1) scope.names []) (bindC (envOfC cL scope s.heap.objs.size f cd).kindOf (ps.zip us) λ _=>qz) s1) :
 Inv (sP CX P w K mg base N cL scope f cd A outer s H E) [] (start N vs) H s1:=by
 have hpl:ps.length<=N.length:=by have:=congrArg List.length S.pre;rw[yBo] at this;omega
 obtain⟨h1,tk,rfl,hk⟩:=x.done;have noA:∀ b:qv,b ∉ (sP CX P w K mg base N cL scope f cd A outer s H E).ex:=λ b z=>absurd (show b∈([]:List qv) from z) (by simp)
 refine⟨⟨e0.mod,S.kind,rfl,rfl,yAc _,λ y z c h1 h2=>?_,λ y hy=>?_,λ y c _ h=>?_,λ _=>hd,Around.frames_deeper e0.frames,.inr ⟨rfl,rfl⟩,λ b z=>absurd z (noA b),e0.bs,e0.bsz,λ b _ _=>noA b,λ b z=>absurd z (noA b),e0.funs,e0.frf⟩,
  rfl,e0.bare,Un.kept hk,⟨_,x.toInCall.ns,λ i y v h1 h2 h3=>?_⟩,λ y c h=>⟨_,x.cell y c h⟩,e0.hok.fresh (yAc _),λ y c h=>?_,λ p hp=>absurd (show p∈([]:List (qv×Obj)) from hp) (by simp),e0.hok.kept hk,?_⟩
 ·exact name_of_addr x.apart (PySem.mem_of_lookup h1) (PySem.mem_of_lookup h2)
 ·have hy:scope.names.lookup y=qq .cell\/scope.names.lookup y=qq .free:=hy;rcases hy with hy | hy
  ·exact aF5 hy
  ·exact absurd rfl (S.nofree _ (PySem.mem_of_lookup hy))
 ·exact yEu (x.above y c (PySem.mem_of_lookup h))
 ·have hi:i<vs.length:=by
   unfold start at h2
   by_cases hi:i<vs.length
   ·exact hi
   ·rw[yAf (by simpa using hi)] at h2
    rw[yFc] at h2
    split at h2<;>cases h2
  have ha:vs[i]? = qq v:=by
   unfold start at h2;rw[xAn (by simpa using hi),xAb] at h2
   cases e:vs[i]? with
   | none=>rw[e] at h2;cases h2
   | some a=>rw[e] at h2;cases h2;rfl
  obtain⟨u,hu,rv⟩:=r.get ha;have hp:ps[i]? = qq y:=by
   rw[<- S.pre,yDl (by omega)];exact h1
  have ndP:ps.Nodup:=by rw[<- S.pre];exact S.nd.sublist (List.take_sublist _ _)
  refine⟨u,rv,?_⟩;rcases S.par y (xAl hp) with k | k
  ·exact .inl ⟨k,aFq ndP hp hu k⟩
  ·obtain⟨c,e⟩:=aF5 (n:=s.heap.objs.size+1) k;refine .inr ⟨.inl k,c,e,?_⟩;have q:=x.cell y c e;rw[aFT ndP hp hu (by show scope.names.lookup y≠_;rw[k];decide)] at q
   exact q
 ·exact e0.hok.fresh (yEu (x.above y c (PySem.mem_of_lookup h)))
 ·unfold start;show _=N.length;rw[xAo,yAb,yDz];omega
theorem aUk{CX:jK}{P:qo}{w:zw}{K:FrG}{mg:Str->Option qx}{base:Heap}{k:Nat}{f:qv}{name cL:Str}{params:Arguments}{body:List jz}{scope:zk}{dV kV doc pm cdv ct oc:qx}{an od:Option qv}
 {osl:Array (Option qx)}{N ps:List Str}{sp:Sp} (lk:K.lookup f=qq ⟨oc,od,.func (yDb name cL params body scope dV kV doc pm an cdv ct),osl⟩) (hcd:yFr K cdv cL=true) (S:FnScope N ps scope)
 (len:∀ vs H Q E,sp vs H Q E->vs.length=ps.length)
 (hbody:∀ (A:zy) (outer:List Env) (s:qj) (H:Hp) (vs:List V) (Q:VK) (E:XK),Room k (A.deeper (envOfC cL scope s.heap.objs.size f cdv))->sp vs H Q E ->
   ∃ t,dU (sP CX P w K mg base N cL scope f cdv A outer s H E) body t/\t {nx:=λ _ H'=>Q .non H',rt:=Q } (start N vs) H) :
 FnOk P w K mg base CX (k+1) f (yDb name cL params body scope dV kV doc pm an cdv ct) ps sp:=by
 refine⟨len,λ A outer s H args us vs Q E hr e0 hb r hsp=>?_⟩
 have hl:=len _ _ _ _ hsp;have KX:K.In s.heap:=e0.mod.kin.keeps λ b o e=>(e0.bs b o e).1
 have lim:s.heap.NoLimit:=e0.mod.nolimit.keeps λ b o e=>(e0.bs b o e).1
 have hkind:∀ y∈ps.zip us,scope.names.lookup y.1=qq .local\/(scope.names.lookup y.1=qq .cell/\((cellsFrom (s.heap.objs.size+1) scope.names []).lookup y.1).isSome=true):=λ aT hy=>by
  obtain⟨n,v⟩:=aT;rcases S.par n (List.of_mem_zip hy).1 with q | q
  ·exact .inl q
  ·exact .inr ⟨q,PySem.W.cellsFrom_some _ _ _ (.inl q)⟩
 refine codeAny_call_function hr.depth (KX _ _ lk) rfl S.co S.gen rfl (PySem.W.codeRec_of KX hcd) (hb _ _ _ _ ?_);refine wpAny_newFunctionEnv_cells S.kind hkind λ env he s1 x=>?_
 subst he;refine⟨lim.keeps x.toInCall.keep,codeAny_func ?_⟩;obtain⟨t,ht,hq⟩:=hbody A outer s H vs Q E (hr.deeper _) hsp;have I:Inv (sP CX P w K mg base N cL scope f cdv A outer s H E) [] (start N vs) H s1:=aMb S hr.hd e0 hl r x;refine wpAny_mono (ht [] s1 (start N vs) H _ I hq) (λ fl s' hs=>?_) λ e s' hs=>hs
 have bT:∀ {σ':St}{H':Hp}{v:V}{u:qx},Inv (sP CX P w K mg base N cL scope f cdv A outer s H E) [] σ' H' s'->aZ v u->Q v H'->CE outer P w H s Q u s':=
  λ {σ' H' v u} J rv q=>⟨v,H',J.os,J.bare,J.base,J.hok,rv,q⟩
 cases fl with
 | ret u =>
   obtain⟨v,σ',H',J,rv,q⟩:=hs;exact bT J rv q
 | next =>
   obtain⟨σ',H',J,q⟩:=hs;exact bT (v:=V.non) (u:=Value.none) J rfl q
 | brk =>
   obtain⟨_,_,_,q⟩:=hs;exact False.elim q
 | cont =>
   obtain⟨_,_,_,q⟩:=hs;exact False.elim q
end L2
namespace L2
open PySem PySem.Spec PyProof.Rows
section
variable {X : Cx}{x : Str}{p pos : Pos}{e : qw}{es : List qw}{t : TA}{id T : String}{r : List V -> Hp -> VK -> Prop}
def tCB(r:List V->Hp->VK->Prop)(t:TA):TE:=λ σ H Q=>t σ H λ vs H1=>r vs H1 Q
theorem nT(hc:dF X (.builtin id) r)(hg:Gl X x)(hm:X.mg x=qz)(hv:xo x=qq (.builtin id))(ha:PA X (e::es) t)(hn:x ≠ "__name__":=by decide)(hdb:(x==("__debug__" : Str))=false:=by decide)
 (he:zq (e::es) X.env=(false,eval e X.env)::zq es X.env:=by rfl) (hpl:(backTo pos (zq es X.env)).any (·.1)=false:=by rfl):PE X (.Call (.Name x p) (e::es) [] pos) (tCB r t):=by
 intro aB s σ H Q I h;refine xj (lB I hg hm hv ?_ hn hdb);exact PyProof.Rows.callWith_builtin1 (bD (ha pos aB s σ H _ I h) λ us s1 ⟨vs,H1,I1,r1,q1⟩=>hc aB s1 σ H1 vs us Q I1 r1 q1) he hpl
theorem aF1(hc:dF X (.type T) r)(hg:Gl X x)(hm:X.mg x=qz)(hv:xo x=qq (.type T))(ha:PA X (e::es) t)(hn:x ≠ "__name__":=by decide)(hdb:(x==("__debug__" : Str))=false:=by decide)
 (he:zq (e::es) X.env=(false,eval e X.env)::zq es X.env:=by rfl) (hpl:(backTo pos (zq es X.env)).any (·.1)=false:=by rfl):PE X (.Call (.Name x p) (e::es) [] pos) (tCB r t):=by
 intro aB s σ H Q I h;refine xj (lB I hg hm hv ?_ hn hdb);exact yBe (bD (ha pos aB s σ H _ I h) λ us s1 ⟨vs,H1,I1,r1,q1⟩=>hc aB s1 σ H1 vs us Q I1 r1 q1) he hpl
end
end L2
namespace HT
open PySem PyProof.Rows
section
open PySem.SeqAt
open PySem.AutoSeq1 (wpAny_loadPart')
open PySem.MeetsSeq PySem.MeetsSeq2 PySem.MeetsSeq3
end
section
variable {prog : qo}{w : zw}{A : zy}{E : qx -> qj -> Prop}{s : qj}
theorem cat_tup{t b:qv}{vs ws:List qx}{Q:qx->qj->Prop}(ht:IsTup s.heap t vs.toArray)(hb:IsTup s.heap b ws.toArray)(hv:vs≠[])
 (h1:ws=[]->Q (.ref t) s) (h2:ws≠[]->Q (.ref s.heap.objs.size) {s with heap:=s.heap.push {cls:=.type "tuple",data:=.seq (vs++ws).toArray } })
 (hsz:vs.length+ws.length<=qk):qy (model prog w) A (zo .Add (.ref t) (.ref b)) Q E s:=by
 obtain⟨⟨cls,dd,data,sl⟩,ho,hc,n,hd⟩:=id ht;obtain⟨⟨cls2,dd2,data2,sl2⟩,ho2,hc2,n2,hd2⟩:=id hb;simp only at hc hd hc2 hd2;subst hc hd hc2 hd2;have e:vs.toArray++ws.toArray=(vs++ws).toArray:=by simp
 by_cases hw:ws=[]
 ·exact concat_meets ⟨_,ho,rfl⟩ ⟨_,ho2,rfl⟩ noFill_tuple_add seq_tuple_add yFn yFd (yEw _ _)
   (tuple_addW1 t b vs.toArray ws.toArray n n2 dd dd2 sl sl2 (by simpa using hv) (by simp[hw])) ⟨ho,ho2,h1 hw⟩
 ·refine concat_meets ⟨_,ho,rfl⟩ ⟨_,ho2,rfl⟩ noFill_tuple_add seq_tuple_add yFn yFd (yEw _ _)
   (tuple_addW2 t b vs.toArray ws.toArray n n2 dd dd2 sl sl2 (by simpa using hv) (by simpa using hw) (by rw[yAe,yAe];exact hsz)) ⟨ho,ho2,?_⟩
  rw[e];exact h2 hw
noncomputable def sIx(n d:Nat):Option Int->Nat
 | none=>d
 | some v=>if v<0 then (v+(n:Int)).toNat else min v.toNat n
theorem sIx_none(n d:Nat):sIx n d qz=d:=rfl
theorem sIx_nat(n d k:Nat):sIx n d (qq (k:Int))=min k n:=by
 show(if (k:Int)<0 then ((k:Int)+(n:Int)).toNat else min (k:Int).toNat n)=min k n
 rw[if_neg (by omega),yAr]
theorem aQj(n d:Nat)(hd:d<=n)(o:Option Int):sIx n d o<=n:=by
 cases o with
 | none=>exact hd
 | some v =>
   show(if v<0 then (v+(n:Int)).toNat else min v.toNat n)<=n
   by_cases hv:v<0
   ·rw[if_pos hv];omega
   ·rw[if_neg hv];exact Nat.min_le_right _ _
theorem aHf(v:Int)(n d:Nat):(if v<0 then max (v+(n:Int)) 0 else min v (n:Int))=((sIx n d (qq v):Nat):Int):=by
 show(if v<0 then max (v+(n:Int)) 0 else min v (n:Int))=(((if v<0 then (v+(n:Int)).toNat else min v.toNat n):Nat):Int)
 by_cases hv:v<0
 ·simp only[if_pos hv];omega
 ·simp only[if_neg hv];omega
theorem aL0(lo hi:Option Int)(n:Nat):yEi lo hi 1 (n:Int)=(((sIx n 0 lo:Nat):Int),((sIx n n hi:Nat):Int)):=by
 have h1:¬ ((1:Int)<0):=by omega
 unfold yEi;simp only[h1,if_false];refine Prod.ext ?_ ?_
 ·cases lo with
  | none=>rfl
  | some v=>exact aHf v n 0
 ·cases hi with
  | none=>rfl
  | some v=>exact aHf v n n
theorem aL6(i j:Nat):yDg (i:Int) (j:Int) 1=j-i:=by
 unfold yDg;have h1:(1:Int)>0:=by omega
 simp only[h1,if_true,Int.ediv_one]
 split<;>omega
theorem aFa{v:qx}{o:Option Int}{Q:Option Int->qj->Prop}(p:IsPart v o)(h:Q o s):qy (model prog w) A (Builtin.Slice.slicePartIndex v) Q E s:=by
 cases p with
 | none=>exact slicePart_none h
 | int i t=>exact slicePart_int h
theorem sliceApplied_gen{sl:qv}{vl vu:qx}{lo hi:Option Int}{n:Nat}{Q:Int×Int×Nat->qj->Prop}(hs:s.heap.IsSliceOf sl vl vu .none)(pl:IsPart vl lo)(pu:IsPart vu hi)
 (h:Q (((sIx n 0 lo:Nat):Int),1,sIx n n hi-sIx n 0 lo) s):qy (model prog w) A (yGf (.ref sl) (pure (n:Int))) Q E s:=by
 obtain⟨os,hos,hcs,hds⟩:=id hs;unfold yGf Builtin.Slice.sliceFields;refine wB (wB (qu hos hds (x:=vl) rfl (wB (qu hos hds (x:=vu) rfl (wB (qu hos hds (x:=.none) rfl (wP ?_)))))));refine wB (slicePart_none ?_);show qy _ _ (if ((1:Int)==0)=true then _ else _) _ _ s
 rw[if_neg (by decide)]
 refine wB (aFa pl (wB (aFa pu (wB (wP ?_)))));show qy _ _ (match yEi lo hi 1 (n:Int) with | (lo,hi)=>pure (lo,(1:Int),yDg lo hi 1)) _ _ s
 rw[aL0 lo hi n];show qy _ _ (pure (((sIx n 0 lo:Nat):Int),(1:Int),yDg ((sIx n 0 lo:Nat):Int) ((sIx n n hi:Nat):Int) 1)) _ _ s;rw[aL6];exact wP h
theorem aNb(xs:Array qx)(i k:Nat):((yAm k).filterMap λ(m:Nat)=>xs[((i:Int)+(m:Int)*1).toNat]?).toArray=((xs.toList.drop i).take k).toArray:=by
 have e:(λ(m:Nat)=>xs[((i:Int)+(m:Int)*1).toNat]?)=λ m=>xs[i+m]?:=by
  funext m
  have:((i:Int)+(m:Int)*1).toNat=i+m:=by omega
  rw[this]
 rw[e];have:=pick_run xs i k;rw[List.filterMap_map] at this;have e2:((λ x=>xs[x]?) ∘ λ x=>i+x)=λ m=>xs[i+m]?:=rfl
 rw[e2] at this;rw[this]
theorem getItem_tuple_cut{t sl:qv}{aQ:Array qx}{vl vu:qx}{lo hi:Option Int}{Q:qx->qj->Prop}(ht:IsTup s.heap t aQ)(hs:s.heap.IsSliceOf sl vl vu .none)(pl:IsPart vl lo)(pu:IsPart vu hi)
 (hw:¬ (sIx aQ.size 0 lo=0/\sIx aQ.size aQ.size hi=aQ.size))
 (h:Q (.ref s.heap.objs.size) {s with heap:=s.heap.push {cls:=.type "tuple",data:=.seq ((aQ.toList.drop (sIx aQ.size 0 lo)).take (sIx aQ.size aQ.size hi-sIx aQ.size 0 lo)).toArray } })
 (hsz:aQ.size<=qk):qy (model prog w) A (getItem (.ref t) (.ref sl)) Q E s:=by
 have htake:sizeOk (.seq ((aQ.toList.drop (sIx aQ.size 0 lo)).take (sIx aQ.size aQ.size hi-sIx aQ.size 0 lo)).toArray):=by
  show((aQ.toList.drop (sIx aQ.size 0 lo)).take (sIx aQ.size aQ.size hi-sIx aQ.size 0 lo)).toArray.size<=qk;rw[yAe,yBo,yFw,yDp];omega
 have hj:sIx aQ.size aQ.size hi<=aQ.size:=aQj _ _ (yAc _) hi;obtain⟨os,hos,hcs,hds⟩:=id hs;have hTs:s.TypeIs (.ref sl) "slice":=⟨os,hos,hcs⟩;unfold getItem
 try with_reducible refine zu ?_
 first | refine wB (wP ?_) | skip
 refine wB (wpAny_sequenceKey ht.typeIs (by decide) ?_)
 refine wB (wpAny_callSpecial?_slot (name:=Str.ofString "__getitem__") ht.typeIs yCe
  (xz yCe ht.typeIs entry_tuple_getitem ?_ (args_tuple_getitem _ _)))
 show qy _ _ (yGg (.ref t) >>= _) _ _ s;refine wB (tupleItemsOf_ ht ?_);refine wB (wpAny_typeOf hTs ?_);rw[if_pos (by decide)]
 refine wB (sliceApplied_gen hs pl pu ?_);have hno:¬ ((((sIx aQ.size 0 lo:Nat):Int)==0&&(1:Int)==1&&(sIx aQ.size aQ.size hi-sIx aQ.size 0 lo)==aQ.size)=true):=by
  intro q;rw[yAt,yAt] at q;have q1:((sIx aQ.size 0 lo:Nat):Int)=0:=eq_of_beq q.1.1;have q2:sIx aQ.size aQ.size hi-sIx aQ.size 0 lo=aQ.size:=eq_of_beq q.2;exact hw ⟨by omega,by omega⟩
 show qy _ _ (if (((sIx aQ.size 0 lo:Nat):Int)==0&&(1:Int)==1&&(sIx aQ.size aQ.size hi-sIx aQ.size 0 lo)==aQ.size)=true then _ else _) _ _ s
 rw[if_neg hno,aNb]
 first
  | exact wB (m:=yCn _) (xy (wP ⟨_,rfl,wP h⟩) htake)
  | exact wB (m:=yCn _) (xy (wB (wP (wP ⟨_,rfl,wP h⟩))) htake)
  | exact wB (wB (m:=yCn _) (xy (wP (wP ⟨_,rfl,wP h⟩)) htake))
  | exact wB (wB (m:=yCn _) (xy (wP ⟨_,rfl,wP h⟩) htake))
end
end HT
namespace L2
open PySem PySem.Spec PyProof.Rows
abbrev TO:=St->Hp->(Option Int->Hp->Prop)->Prop
def PO(X:Cx)(e:Option qw)(t:TO):Prop:=
 ∀ (aB:List (qv×Obj)) (s:qj) (σ:St) (H:Hp) (Q:Option Int->Hp->Prop),Inv X aB σ H s->t σ H Q ->
  qy (model X.prog X.w) X.A (evalPart e X.env) (λ u s'=>∃ o H',Inv X aB σ H' s'/\IsPart u o/\Q o H') X.xe s
def aOL:TO:=λ _ H Q=>Q qz H
def aSS(t:TE):TO:=λ σ H Q=>t σ H λ x H1=>∃ i,x=.int i/\Q (qq i) H1
section
variable {X : Cx}{e : qw}{te : TE}{lo hi : Option qw}{tl th : TO}{pos p2 : Pos}
theorem aPW:PO X qz aOL:=by
 intro aB s σ H Q I h;rw[evalPart_none];exact wP ⟨qz,H,I,.none,h⟩
theorem aCq(h:PE X e te):PO X (qq e) (aSS te):=by
 intro aB s σ H Q I hw;rw[evalPart_some];refine bD (h aB s σ H _ I hw) λ u s1 hPq25=>?_
 obtain⟨x,H1,I1,r1,q1⟩:=hPq25;obtain⟨i,rfl,q⟩:=q1;obtain⟨t,rfl⟩:=r1;exact⟨qq i,H1,I1,.int i t,q⟩
def pA(X:Cx)(r:V->Option Int->Option Int->Hp->VK->Prop):Prop:=
 ∀ (aB:List (qv×Obj)) (s:qj) (σ:St) (H:Hp) (x:V) (v vl vu:qx) (lo hi:Option Int) (sl:qv) (Q:VK),Inv X aB σ H s->aZ x v->s.heap.IsSliceOf sl vl vu .none->IsPart vl lo->IsPart vu hi->r x lo hi H Q ->
  ∃ T id,typeLookup (.type T) "__getitem__" = pure (qq (.builtin id))/\s.TypeIs v T/\qy (model X.prog X.w) X.A (getItem v (.ref sl)) (EP X aB σ Q) X.xe s
theorem pA.or{r r':V->Option Int->Option Int->Hp->VK->Prop}(h:pA X r)(h':pA X r'):pA X (λ x lo hi H Q=>r x lo hi H Q\/r' x lo hi H Q):=by
 intro aB s σ H x v vl vu lo hi sl Q I rx hs pl pu q;rcases q with q | q
 ·exact h aB s σ H x v vl vu lo hi sl Q I rx hs pl pu q
 ·exact h' aB s σ H x v vl vu lo hi sl Q I rx hs pl pu q
def tSl(r:V->Option Int->Option Int->Hp->VK->Prop)(te:TE)(tl th:TO):TE:=λ σ H Q=>te σ H λ x H1=>tl σ H1 λ l H2=>th σ H2 λ u H3=>r x l u H3 Q
theorem aF8{r:V->Option Int->Option Int->Hp->VK->Prop}(hr:pA X r)(he:PE X e te)(hl:PO X lo tl)(hu:PO X hi th):PE X (.Subscript e (.Slice lo hi qz p2) pos) (tSl r te tl th):=by
 intro aB s σ H Q I h;refine Subscript_ (bD (he aB s σ H _ I h) λ v s1 hPq26=>?_)
 obtain⟨x,H1,I1,r1,q1⟩:=hPq26;refine wpAny_Slice (bD (hl aB s1 σ H1 _ I1 q1) λ vl s2 ⟨l,H2,I2,pl,q2⟩=>bD (hu aB s2 σ H2 _ I2 q2) λ vu s3 hPq27=>?_)
 obtain⟨u,H3,I3,pu,q3⟩:=hPq27;rw[evalPart_none];refine wP ?_;have I4:Inv X aB σ H3 {s3 with heap:=s3.heap.push {cls:=.type "slice",data:=.fields #[vl,vu,.none] } }:=I3.kept (t':=s3.toks) λ b ob q=>hpS _ q
 obtain⟨T,id,hT,ht,hg⟩:=hr aB {s3 with heap:=s3.heap.push {cls:=.type "slice",data:=.fields #[vl,vu,.none] } } σ H3 x v vl vu l u s3.heap.objs.size Q I4 r1 (Heap.IsSliceOf.new ..) pl pu q3
 show qy (model X.prog X.w) X.A (subscriptTail e (.Slice lo hi qz p2) v (.ref s3.heap.objs.size)) (EP X aB σ Q) X.xe {s3 with heap:=s3.heap.push {cls:=.type "slice",data:=.fields #[vl,vu,.none] } }
 exact tail_any (ops:=[.ref s3.heap.objs.size,v]) ht hT hg (by with_unfolding_all rfl)
noncomputable def mZ(xs:List V)(lo hi:Option Int):List V:=(xs.drop (HT.sIx xs.length 0 lo)).take (HT.sIx xs.length xs.length hi-HT.sIx xs.length 0 lo)
theorem aEQ(xs:List V)(lo hi:Option Int):(mZ xs lo hi).length<=xs.length:=by
 unfold mZ;rw[yBo,yFw];omega
noncomputable def aVA(K:FrG):V->Option Int->Option Int->Hp->VK->Prop:=λ x lo hi H Q=>∃ a xs,x=.ref a/\cF K H a xs /\
 ¬ (HT.sIx xs.length 0 lo=0/\HT.sIx xs.length xs.length hi=xs.length)/\∀ p,H p=qz->Q (.ref p) (bE H p (.tup (mZ xs lo hi)))
theorem aQ3:pA X (aVA X.K):=by
 intro aB s σ H x v vl vu lo hi sl Q I rx hs pl pu h;obtain⟨a,xs,rfl,hx,hw,q⟩:=h;cases rx;obtain⟨aF,r,ht,hz⟩:=I.tuple hx;have cH:aF.toArray.size=xs.length:=by rw[yAe];exact r.length.symm
 refine⟨"tuple",_,PyProof.Rows.slot_tuple_getitem.lookup,ht.typeIs,?_⟩;refine HT.getItem_tuple_cut ht hs pl pu (by rw[cH];exact hw) ?_ (by rw[cH];exact hz)
 rw[cH];refine⟨.ref s.heap.objs.size,_,I.laid (t':=s.toks) (o:=.tup (mZ xs lo hi)) (λ b ob q=>hpS _ q) (yAc _) ?_,rfl,q _ (I.hok.fresh (yAc _))⟩
 exact⟨xAi (aEQ xs lo hi) hz,_,(r.drop (HT.sIx xs.length 0 lo)).take (HT.sIx xs.length xs.length hi-HT.sIx xs.length 0 lo),IsTup.new _ _⟩
noncomputable def aUe(K:FrG):R2:=λ x y H Q=>∃ a b xs ys,x=.ref a/\y=.ref b/\cF K H a xs/\cF K H b ys/\xs≠[]/\xs.length+ys.length<=qk /\
 (ys=[]->Q (.ref a) H)/\(ys≠[]->∀ p,H p=qz->Q (.ref p) (bE H p (.tup (xs++ys))))
theorem aS.nil_iff{xs:List V}{us:List qx}(r:aS xs us):us=[] ↔ xs=[]:=by
 cases r with
 | nil=>simp
 | cons _ _=>simp
theorem aP2:cJ X (zo .Add) (aUe X.K):=by
 intro aB s σ H x y v u Q I rx ry h;obtain⟨a,b,xs,ys,rfl,rfl,ha,hb,hx,hz,q1,q2⟩:=h;cases rx;cases ry;obtain⟨aF,r1,p1,_⟩:=I.tuple ha;obtain⟨eJ,r2,p2,_⟩:=I.tuple hb;refine HT.cat_tup p1 p2 (λ z=>hx (r1.nil_iff.mp z)) (λ z=>⟨.ref a,H,I,rfl,q1 (r2.nil_iff.mp z)⟩) (λ z=>?_) (by rw[<- r1.length,<- r2.length];exact hz)
 refine⟨.ref s.heap.objs.size,_,I.laid (t':=s.toks) (o:=.tup (xs++ys)) (λ b ob q=>hpS _ q) (yAc _) ?_,rfl,q2 (λ w=>z (r2.nil_iff.mpr w)) _ (I.hok.fresh (yAc _))⟩
 exact⟨by rw[xAo];exact hz,_,r1.append r2,IsTup.new _ _⟩
end
end L2
namespace L2
open PySem PySem.Spec PyProof.Rows
noncomputable def jM(n:Nat)(i:Int):Option Nat:=if 0<=i then (if i<n then qq i.toNat else qz) else if -(n:Int)<=i then qq (i+n).toNat else qz
noncomputable def kF{α:Type}(xs:List α)(i:Int):Option α:=(jM xs.length i).bind λ j=>xs[j]?
theorem aHH{n:Nat}{i:Int}{j:Nat}(h:jM n i=qq j):seqIndex? i n=qq j/\j<n /\ -(n:Int)<=i/\i<n:=by
 unfold jM at h
 by_cases h0:0<=i
 ·rw[if_pos h0] at h
  by_cases h1:i<n
  ·rw[if_pos h1] at h;have e:i.toNat=j:=Option.some.inj h;exact⟨by rw[seqIndex_of h0 h1,e],by omega,by omega,h1⟩
  ·rw[if_neg h1] at h;cases h
 ·rw[if_neg h0] at h
  by_cases h1 : -(n:Int)<=i
  ·rw[if_pos h1] at h;have e:(i+n).toNat=j:=Option.some.inj h;exact⟨by rw[seqIndex_neg (by omega) h1,e],by omega,h1,by omega⟩
  ·rw[if_neg h1] at h;cases h
theorem aCk{α:Type}{xs:List α}{i:Int}{v:α}(h:kF xs i=qq v):∃ j,seqIndex? i xs.length=qq j/\xs[j]? = qq v/\j<xs.length /\ -(xs.length:Int)<=i/\i<xs.length:=by
 unfold kF at h;cases e:jM xs.length i with
 | none=>rw[e] at h;cases h
 | some j =>
   rw[e] at h;obtain⟨h1,h2,h3,h4⟩:=aHH e;exact⟨j,h1,h,h2,h3,h4⟩
def zU(b:qw):Prop:=∀ o i,subscripted b false o i=operate [o,i] (getItem o i)
def lW(X:Cx)(r:R2):Prop:=
 ∀ (value iU:qw) (aB:List (qv×Obj)) (s:qj) (σ:St) (H:Hp) (x y:V) (v u:qx) (Q:VK),Inv X aB σ H s->aZ x v->aZ y u->r x y H Q ->
  subscripted iU false v u=operate [v,u] (getItem v u)->qy (model X.prog X.w) X.A (subscriptTail value iU v u) (EP X aB σ Q) X.xe s
def qL(X:Cx)(id:String)(r:V->List V->Hp->VK->Prop):Prop:=
 ∀ (aB:List (qv×Obj)) (s:qj) (σ:St) (H:Hp) (x:V) (xs:List V) (v:qx) (us:List qx) (Q:VK),Inv X aB σ H s->aZ x v->aS xs us->r x xs H Q ->
  qy (model X.prog X.w) X.A (call (.builtin id) (v::us)) (EP X aB σ Q) X.xe s
section
variable {X : Cx}{a b : qw}{ta tb : TE}{pos : Pos}
theorem lW.or{r r':R2}(h:lW X r)(h':lW X r'):lW X (λ x y H Q=>r x y H Q\/r' x y H Q):=by
 intro value iU aB s σ H x y v u Q I rx ry q hs;rcases q with q | q
 ·exact h value iU aB s σ H x y v u Q I rx ry q hs
 ·exact h' value iU aB s σ H x y v u Q I rx ry q hs
theorem qL.or{id:String}{r r':V->List V->Hp->VK->Prop}(h:qL X id r)(h':qL X id r'):qL X id (λ x xs H Q=>r x xs H Q\/r' x xs H Q):=by
 intro aB s σ H x xs v us Q I rx rs q;rcases q with q | q
 ·exact h aB s σ H x xs v us Q I rx rs q
 ·exact h' aB s σ H x xs v us Q I rx rs q
theorem aJo{r:R2}(hr:lW X r)(ha:PE X a ta)(hb:PE X b tb)(hs:zU b):PE X (.Subscript a b pos) (xO r ta tb):=by
 intro aB s σ H Q I h;exact Subscript_ (aDG ha hb I h λ v u s2 x y H2 I2 rx ry q=>hr a b aB s2 σ H2 x y v u Q I2 rx ry q (hs _ _))
noncomputable def aWn(K:FrG):R2:=λ x y H Q=>∃ p xs i v,x=.ref p/\y=.int i/\bY K H p xs/\kF xs i=qq v/\Q v H
noncomputable def aVI(K:FrG):R2:=λ x y H Q=>∃ p xs i v,x=.ref p/\y=.int i/\cF K H p xs/\kF xs i=qq v/\Q v H
noncomputable def aVl:R2:=λ x y H Q=>∃ z i c,x=.str z/\y=.int i/\z.length<=qk/\kF z.cps.toList i=qq c/\Q (.str ⟨#[c]⟩) H
theorem aP6:lW X (aWn X.K):=by
 intro value iU aB s σ H x y v u Q I rx ry h hs;obtain⟨p,xs,i,z,rfl,rfl,hq,he,q⟩:=h;cases rx;obtain⟨t,rfl⟩:=ry;obtain⟨aF,r,pl,hz⟩:=I.list hq;obtain⟨j,h1,h2,h3,h4,h5⟩:=aCk he;obtain⟨w,ew,rw'⟩:=r.get h2;have hl:=r.length;have hn:=pS;have bT:EP X aB σ Q w s:=⟨z,H,I,rw',q⟩
 by_cases h0:0<=i
 ·have hj:i.toNat=j:=by
   rw[seqIndex_of h0 h5] at h1;exact Option.some.inj h1
  exact item_listR pl.isList h0 (by omega) (by rw[hj];simpa using ew) bT hs
 ·have hj:(i+(aF.toArray.size:Int)).toNat=j:=by
   rw[seqIndex_neg (by omega) h4] at h1
   rw[yAe,<- hl];exact Option.some.inj h1
  exact subscriptTail_builtinR (x:=w) pl.isList.typeIs slot_list_getitem.lookup
   (wpAny_getItem_list_neg (Q:=λ r s'=>r=w/\EP X aB σ Q r s') pl.isList (by omega) (by rw[yAe]<;>omega) (by omega) (by rw[hj];simpa using ew) ⟨rfl,bT⟩) hs
theorem aQR:lW X (aVI X.K):=by
 intro value iU aB s σ H x y v u Q I rx ry h hs;obtain⟨p,xs,i,z,rfl,rfl,hq,he,q⟩:=h;cases rx;obtain⟨t,rfl⟩:=ry;obtain⟨aF,r,pl,hz⟩:=I.tuple hq;obtain⟨j,h1,h2,h3,h4,h5⟩:=aCk he;obtain⟨w,ew,rw'⟩:=r.get h2;have hl:=r.length;have hn:=pS;have bT:EP X aB σ Q w s:=⟨z,H,I,rw',q⟩;exact subscriptTail_builtinR (x:=w) pl.typeIs slot_tuple_getitem.lookup
  (getItem_tuple (j:=j) (Q:=λ r s'=>r=w/\EP X aB σ Q r s') pl (by omega) (by omega) (by rw[yAe,<- hl];exact h1) (by simpa using ew) ⟨rfl,bT⟩) hs
theorem aR9:lW X aVl:=by
 intro value iU aB s σ H x y v u Q I rx ry h hs;obtain⟨z,i,c,rfl,rfl,hz,he,q⟩:=h;obtain⟨t,rfl⟩:=rx;obtain⟨t',rfl⟩:=ry;obtain⟨j,h1,h2,h3,h4,h5⟩:=aCk he;have hl:z.cps.toList.length=z.length:=by simp[Str.length]
 rw[hl] at h1 h4 h5;have hn:=pS;exact tail_any (typeIs_str s z t) slot_str_getitem.lookup (getItem_str (c:=c) (by
  have e1:decide (i < -(2^63:Int))=false:=dqF (by omega)
  have e2:decide (i ≥ 2^63)=false:=dqF (by omega)
  rw[e1,e2,yDq]) (by rw[h1];simpa using h2) ⟨.str ⟨#[c]⟩,H,I.tok _,⟨_,rfl⟩,q⟩) hs
theorem aLP(aF:List qx)(n j:Nat)(u:qx):Obj.mapSeq (·.setIfInBounds j u) {cls:=.type "list",data:=.seq aF.toArray n }={cls:=.type "list",data:=.seq (aF.set j u).toArray n }:=by
 simp[Obj.mapSeq]
theorem Inv.lst{aB:List (qv×Obj)}{σ:St}{H:Hp}{s:qj}{p:qv}{xs:List V}(I:Inv X aB σ H s)(h:H p=qq (.lst xs)) :
 ∃ (aF:List qx) (n:Nat),aS xs aF/\s.heap.get? p=qq {cls:=.type "list",data:=.seq aF.toArray n }/\xs.length<=qk:=by
 obtain⟨z,aF,n,r,e⟩:=I.hok p _ h;exact⟨aF,n,r,e,z⟩
theorem Inv.lstUpd{aB:List (qv×Obj)}{σ:St}{H:Hp}{s:qj}{p:qv}{xs ys:List V}{aF its':List qx}{n n':Nat}{f:Obj->Obj}(I:Inv X aB σ H s)(h:H p=qq (.lst xs))
 (ho:s.heap.get? p=qq {cls:=.type "list",data:=.seq aF.toArray n }) (hf:f {cls:=.type "list",data:=.seq aF.toArray n }={cls:=.type "list",data:=.seq its'.toArray n' }) (r:aS ys its') (hz:ys.length<=qk) (t:Nat) :
 Inv X aB σ (bE H p (.lst ys)) {s with heap:=s.heap.update p f,toks:=t }:=by
 have e:(s.heap.update p f).get? p=qq {cls:=.type "list",data:=.seq its'.toArray n' }:=by
  rw[yCk f ho (by rw[hf]<;>rfl),hf]
 refine I.write (x:=p) (e:=p) (by rw[h];trivial) (.inl rfl) (λ b u hb q=>(yBt _ _ (Ne.symm hb)).trans q) ⟨_,e⟩ ?_
 exact⟨hz,its',n',r,e⟩
noncomputable def aJz:V->V->V->Hp->(Hp->Prop)->Prop:=λ o i v H Q=>∃ p xs k j,o=.ref p/\i=.int k/\H p=qq (.lst xs)/\jM xs.length k=qq j/\Q (bE H p (.lst (xs.set j v)))
theorem aNP:aKh X aJz:=by
 intro aB s σ H o i v ov iv u Q I ro ri rv h;obtain⟨p,xs,k,j,rfl,rfl,hp,hj,q⟩:=h;cases ro;obtain⟨t,rfl⟩:=ri;obtain⟨aF,n,r,ho,hz⟩:=I.lst hp;obtain⟨h1,h2,h3,h4⟩:=aHH hj;have hl:=r.length;have hn:=pS;have I':Inv X aB σ (bE H p (.lst (xs.set j v))) {s with heap:=s.heap.update p (Obj.mapSeq (·.setIfInBounds j u)) }:=
  I.lstUpd hp ho (aLP aF n j u) (r.set rv j) (by rw[yBi];exact hz) s.toks
 by_cases h0:0<=k
 ·have hk:k.toNat=j:=by
   rw[seqIndex_of h0 h4] at h1;exact Option.some.inj h1
  exact PySem.W.ki_setAt ho h0 (by omega) (by rw[yAe,<- hl];exact h4) (by rw[hk];exact⟨_,I',q⟩)
 ·have hk:(k+(aF.toArray.size:Int)).toNat=j:=by
   rw[seqIndex_neg (by omega) h3] at h1
   rw[yAe,<- hl];exact Option.some.inj h1
  exact PySem.W.ki_setBack ho (by omega) (by rw[yAe,<- hl];exact h3) (by omega) (by rw[hk];exact⟨_,I',q⟩)
theorem aLg(lo hi:Option Int)(n:Nat):(vo lo hi qz n).1=((HT.sIx n 0 lo:Nat):Int)/\(vo lo hi qz n).2.1=((HT.sIx n n hi:Nat):Int)/\(vo lo hi qz n).2.2=1:=by
 refine⟨?_,?_,rfl⟩
 ·cases lo with
  | none=>simp[vo,HT.sIx]
  | some i =>
    simp only[vo,HT.sIx,yGy,show(1:Int)>0 by decide,if_true]
    by_cases h:i<0
    ·simp only[h,if_true]<;>omega
    ·simp only[h,if_false]<;>omega
 ·cases hi with
  | none=>simp[vo,HT.sIx]
  | some i =>
    simp only[vo,HT.sIx,yGy,show(1:Int)>0 by decide,if_true]
    by_cases h:i<0
    ·simp only[h,if_true]<;>omega
    ·simp only[h,if_false]<;>omega
theorem aK9(aF:List qx)(lo hi:Option Int):slicePick aF.toArray lo hi qz=((aF.drop (HT.sIx aF.length 0 lo)).take (HT.sIx aF.length aF.length hi-HT.sIx aF.length 0 lo)).toArray:=by
 obtain⟨h1,h2,h3⟩:=aLg lo hi aF.toArray.size;unfold slicePick;rw[h1,h2,h3];simp only[sliceRange_one,pick_run,yAe]<;>rfl
noncomputable def aWk(K:FrG):V->Option Int->Option Int->Hp->VK->Prop:=λ x lo hi H Q=>∃ a xs,x=.ref a/\bY K H a xs/\∀ p,H p=qz->Q (.ref p) (bE H p (.lst (mZ xs lo hi)))
theorem aOm:pA X (aWk X.K):=by
 intro aB s σ H x v vl vu lo hi sl Q I rx hs pl pu h;obtain⟨a,xs,rfl,hx,q⟩:=h;cases rx;obtain⟨aF,r,ht,hz⟩:=I.list hx;have cH:=r.length;refine⟨"list",_,slot_list_getitem.lookup,ht.isList.typeIs,?_⟩;refine wpAny_getItem_list_slice ht.isList hs pl pu .none (by simp) ?_ (by rw[yAe]<;>omega)
 rw[aK9,<- cH];refine⟨.ref s.heap.objs.size,_,I.laid (t':=s.toks) (o:=.lst (mZ xs lo hi)) (λ b ob q=>hpS _ q) (yAc _) ?_,rfl,q _ (I.hok.fresh (yAc _))⟩
 exact⟨xAi (aEQ xs lo hi) hz,_,0,(r.drop (HT.sIx xs.length 0 lo)).take (HT.sIx xs.length xs.length hi-HT.sIx xs.length 0 lo),xAe _ rfl⟩
noncomputable def lC:V->Bool
 | .non=>true
 | .bl _=>true
 | .int _=>true
 | .str _=>true
 | _=>false
noncomputable def nN:V->V->Bool
 | .non,.non=>true
 | .bl a,.bl b=>a==b
 | .bl a,.int b=>(if a then 1 else 0)==b
 | .int a,.bl b=>a==(if b then 1 else 0)
 | .int a,.int b=>a==b
 | .str a,.str b=>a==b
 | _,_=>false
theorem aSa{A:zy}{s:qj}{y x:V}{u v:qx}(ry:aZ y u)(rx:aZ x v)(fy:lC y=true)(fx:lC x=true):SeqAt.EqAt A s u v (nN y x):=by
 cases y with
 | non =>
   cases ry;cases x with
   | non=>cases rx;exact SeqAt.EqAt.same _
   | bl b=>cases rx;exact SeqAt.EqAt.none_bool b
   | int b=>obtain⟨t,rfl⟩:=rx;exact SeqAt.EqAt.none_int b t
   | str b=>obtain⟨t,rfl⟩:=rx;exact SeqAt.EqAt.none_str b t
   | _=>exact absurd (show false=true from fx) yAx
 | bl a =>
   cases ry;cases x with
   | non=>cases rx;exact SeqAt.EqAt.bool_none a
   | bl b=>cases rx;exact SeqAt.EqAt.bool_bool a b
   | int b=>obtain⟨t,rfl⟩:=rx;exact SeqAt.EqAt.bool_int a b t
   | str b=>obtain⟨t,rfl⟩:=rx;exact SeqAt.EqAt.bool_str a b t
   | _=>exact absurd (show false=true from fx) yAx
 | int a =>
   obtain⟨t',rfl⟩:=ry;cases x with
   | non=>cases rx;exact SeqAt.EqAt.int_none a t'
   | bl b=>cases rx;exact SeqAt.EqAt.int_bool a t' b
   | int b=>obtain⟨t,rfl⟩:=rx;exact SeqAt.EqAt.int_int a t' b t
   | str b=>obtain⟨t,rfl⟩:=rx;exact SeqAt.EqAt.int_str a t' b t
   | _=>exact absurd (show false=true from fx) yAx
 | str a =>
   obtain⟨t',rfl⟩:=ry;cases x with
   | non=>cases rx;exact SeqAt.EqAt.str_none a t'
   | bl b=>cases rx;exact SeqAt.EqAt.str_bool a t' b
   | int b=>obtain⟨t,rfl⟩:=rx;exact SeqAt.EqAt.str_int a t' b t
   | str b=>obtain⟨t,rfl⟩:=rx;exact SeqAt.EqAt.str_str a t' b t
   | _=>exact absurd (show false=true from fx) yAx
 | _=>exact absurd (show false=true from fy) yAx
noncomputable def gS(x:V)(u:qx):Bool:=match u with
 | .none=>nN .non x
 | .bool b=>nN (.bl b) x
 | .int i _=>nN (.int i) x
 | .str z _=>nN (.str z) x
 | _=>false
theorem aH7{x y:V}{u:qx}(r:aZ y u)(f:lC y=true):gS x u=nN y x:=by
 cases y with
 | non=>cases r;rfl
 | bl b=>cases r;rfl
 | int i=>obtain⟨t,rfl⟩:=r;rfl
 | str z=>obtain⟨t,rfl⟩:=r;rfl
 | _=>exact absurd (show false=true from f) yAx
theorem uW{x:V}:∀ {xs:List V}{us:List qx},aS xs us->xs.all lC=true->us.any (gS x)=xs.any λ y=>nN y x
 | _,_,.nil,_=>rfl
 | y::xs,u::us,.cons r t,f=>by
   rw[List.all_cons,yAt] at f;rw[List.any_cons,List.any_cons,aH7 r f.1,uW t f.2]
theorem uG{A:zy}{s:qj}{x:V}{v:qx}(rx:aZ x v)(fx:lC x=true):∀ {xs:List V}{us:List qx},aS xs us->xs.all lC=true->∀ u∈us,SeqAt.EqAt A s u v (gS x u)
 | _,_,.nil,_=>λ u hu=>by cases hu
 | y::xs,u::us,.cons r t,f=>λ u' hu=>by
   rw[List.all_cons,yAt] at f;rcases List.mem_cons.mp hu with rfl | hu
   ·rw[aH7 r f.1];exact aSa r rx f.1 fx
   ·exact uG rx fx t f.2 u' hu
noncomputable def sW(x:V)(xs:List V):Bool:=xs.any λ y=>nN y x
noncomputable def rIn(K:FrG)(neg:Bool):R2:=λ x y H Q=>∃ p xs,y=.ref p/\(bY K H p xs\/cF K H p xs)/\lC x=true/\xs.all lC=true/\Q (.bl (if neg then !sW x xs else sW x xs)) H
theorem aMY:cJ X (jx .In) (rIn X.K false):=by
 intro aB s σ H x y v u Q I rx ry h;obtain⟨p,xs,rfl,hq,fx,fs,q⟩:=h;cases ry;rcases hq with hq | hq
 ·obtain⟨aF,r,pl,hz⟩:=I.list hq;refine SeqAt.in_listAt (gS x) pl.isList (λ w hw=>uG rx fx r fs w (by simpa using hw)) ⟨.bl _,H,I,rfl,?_⟩
  rw[show aF.toArray.any (gS x)=aF.any (gS x) by simp,uW r fs]
  exact q
 ·obtain⟨aF,r,pl,hz⟩:=I.tuple hq;refine SeqAt.in_tupleAt (gS x) pl (λ w hw=>uG rx fx r fs w (by simpa using hw)) ⟨.bl _,H,I,rfl,?_⟩
  rw[show aF.toArray.any (gS x)=aF.any (gS x) by simp,uW r fs]
  exact q
theorem aLh:cJ X (jx .NotIn) (rIn X.K true):=by
 intro aB s σ H x y v u Q I rx ry h;obtain⟨p,xs,rfl,hq,fx,fs,q⟩:=h;cases ry;rcases hq with hq | hq
 ·obtain⟨aF,r,pl,hz⟩:=I.list hq;refine SeqAt.notIn_listAt (gS x) pl.isList (λ w hw=>uG rx fx r fs w (by simpa using hw)) ⟨.bl _,H,I,rfl,?_⟩
  rw[show aF.toArray.any (gS x)=aF.any (gS x) by simp,uW r fs]
  exact q
 ·obtain⟨aF,r,pl,hz⟩:=I.tuple hq;refine SeqAt.notIn_tupleAt (gS x) pl (λ w hw=>uG rx fx r fs w (by simpa using hw)) ⟨.bl _,H,I,rfl,?_⟩
  rw[show aF.toArray.any (gS x)=aF.any (gS x) by simp,uW r fs]
  exact q
theorem aEB:dF X (.builtin "len") (λ xs H Q=>∃ p ys,xs=[.ref p]/\(bY X.K H p ys\/cF X.K H p ys)/\Q (.int ys.length) H):=by
 intro aB s σ H xs us Q I r h;obtain⟨p,ys,rfl,hq,q⟩:=h;obtain⟨u,rfl,rx⟩:=iY r;cases rx;have hn:=pS;rcases hq with hq | hq
 ·obtain⟨aF,r',pl,hz⟩:=I.list hq;have cH:=r'.length;exact Calls.call_len_list pl.isList (by simp only[yAe]<;>omega) ⟨.int ys.length,H,I.tok _,⟨s.toks+1,by rw[yAe,cH]⟩,q⟩
 ·obtain⟨aF,r',pl,hz⟩:=I.tuple hq;have cH:=r'.length;exact len_tuple pl (by simp only[yAe]<;>omega) ⟨.int ys.length,H,I.tok _,⟨s.toks+1,by rw[yAe,cH]⟩,q⟩
theorem aLp:dF X (.builtin "len") (λ xs H Q=>∃ z,xs=[.str z]/\z.length<=qk/\Q (.int z.length) H):=by
 intro aB s σ H xs us Q I r h;obtain⟨z,rfl,hz,q⟩:=h;obtain⟨u,rfl,t,rfl⟩:=iY r;have hn:=pS;exact len_str (by omega) ⟨.int z.length,H,I.tok _,⟨_,rfl⟩,q⟩
theorem dF.or{f:qx}{r r':List V->Hp->VK->Prop}(h:dF X f r)(h':dF X f r'):dF X f (λ xs H Q=>r xs H Q\/r' xs H Q):=by
 intro aB s σ H xs us Q I rs q;rcases q with q | q
 ·exact h aB s σ H xs us Q I rs q
 ·exact h' aB s σ H xs us Q I rs q
theorem aEu:dF X (.type "tuple") (λ xs H Q=>∃ p ys,xs=[.ref p]/\((bY X.K H p ys/\∀ l,H l=qz->Q (.ref l) (bE H l (.tup ys)))\/(cF X.K H p ys/\Q (.ref p) H))):=by
 intro aB s σ H xs us Q I r h;obtain⟨p,ys,rfl,h⟩:=h;obtain⟨u,rfl,rx⟩:=iY r;cases rx;rcases h with ⟨hq,q⟩ | ⟨hq,q⟩
 ·obtain⟨aF,r',pl,hz⟩:=I.list hq;have cH:=r'.length;refine call_tuple_list pl.isList (λ h' kp=>?_) (by simp only[yAe]<;>omega)
  have I1:Inv X aB σ H {s with heap:=h' }:=I.kept (t':=s.toks) kp
  have I2:Inv X aB σ (bE H h'.objs.size (.tup ys)) {s with heap:=h'.push {cls:=.type "tuple",data:=.seq aF.toArray } }:=
   I1.laid (t':=s.toks) (λ b o e=>hpS _ e) (yAc _) (show gW X.prog X.w _ _ _ (.tup ys) from ⟨hz,aF,r',IsTup.new _ _⟩)
  exact⟨.ref h'.objs.size,_,I2,rfl,q _ (I1.hok.fresh (yAc _))⟩
 ·obtain⟨aF,r',pl,hz⟩:=I.tuple hq;exact call_tuple_same pl ⟨.ref p,H,I,rfl,q⟩
def tyV(K:FrG)(T:String)(x:V)(H:Hp):Prop:=match x with
 | .str _=>T = "str"
 | .int _=>T = "int"
 | .ref p=>(T = "list" /\ ∃ xs,bY K H p xs)\/(T = "tuple" /\ ∃ o,K.lookup p=qq o/\o.cls=.type "tuple" /\ o.dict=qz) \/
    (T = "dict" /\ ((∃ aW,H p=qq (.dK aW))\/∃ aW,H p=qq (.dT aW)))\/(T = "set" /\ ∃ S n,H p=qq (.set S n))
 | _=>False
theorem aIh{aB:List (qv×Obj)}{σ:St}{H:Hp}{s:qj}{T:String}{x:V}{v:qx}(I:Inv X aB σ H s)(r:aZ x v)(ty:tyV X.K T x H) :
 s.TypeIs v T/\∀ a,v=.ref a->∃ ob,s.heap.get? a=qq ob/\ob.dict=qz:=by
 cases x with
 | str z =>
   obtain⟨t,rfl⟩:=r;cases (show T = "str" from ty)
   exact⟨typeIs_str s z t,λ _ e=>nomatch e⟩
 | int i =>
   obtain⟨t,rfl⟩:=r;cases (show T = "int" from ty)
   exact⟨yj s i t,λ _ e=>nomatch e⟩
 | ref p =>
   cases r;rcases ty with ⟨rfl,xs,hq⟩ | ⟨rfl,o,hk,hc,hd⟩ | ⟨rfl,hk⟩ | ⟨rfl,S,n,hk⟩
   ·obtain⟨aF,_,pl,_⟩:=I.list hq;refine⟨pl.isList.typeIs,λ a e=>?_⟩
    cases e;obtain⟨o,n,e,c,hd,_⟩:=pl;exact⟨o,e,hd⟩
   ·refine⟨⟨o,I.kIn p o hk,hc⟩,λ a e=>?_⟩
    cases e;exact⟨o,I.kIn _ o hk,hd⟩
   ·have z:∃ o,s.heap.get? p=qq o/\o.ExactDict:=by
     rcases hk with ⟨aW,hk⟩ | ⟨aW,hk⟩
     ·obtain⟨_,_,_,_,o,_,_,e,ex,_⟩:=I.hok p _ hk;exact⟨o,e,ex⟩
     ·obtain⟨_,_,_,_,o,_,_,e,ex,_⟩:=I.hok p _ hk;exact⟨o,e,ex⟩
    obtain⟨o,e,ex⟩:=z;refine⟨⟨o,e,ex.1⟩,λ a e2=>?_⟩
    cases e2;exact⟨o,e,ex.2.1⟩
   ·obtain⟨o,_,_,_,e,ex,_⟩:=I.hok p _ hk;refine⟨⟨o,e,ex.1⟩,λ a e2=>?_⟩
    cases e2;exact⟨o,e,ex.2.1⟩
 | _=>exact False.elim ty
def aWA(K:FrG)(T:String)(r:V->List V->Hp->VK->Prop)(to:TE):TE:=λ σ H Q=>to σ H λ x H1=>tyV K T x H1/\r x [] H1 Q
def tBM(K:FrG)(T:String)(r:V->List V->Hp->VK->Prop)(to:TE)(t:TA):TE:=λ σ H Q=>to σ H λ x H1=>tyV K T x H1/\t σ H1 λ xs H2=>r x xs H2 Q
variable {o e : qw}{es : List qw}{to : TE}{t : TA}{name : Str}{apos cpos : Pos}{T id : String}{r : V -> List V -> Hp -> VK -> Prop}
theorem aRZ(pa:PlainAttrs T)(slot:Slot T name id)(hty:typeOf (.builtin id)=pure (.type "method_descriptor"))(hm:qL X id r)(ho:PE X o to)
 (hbase:attributeBase o name X.env (eval o X.env)=eval o X.env:=by rfl) (hline:(apos.endLine==cpos.line)=true:=by rfl):PE X (.Call (.Attribute o name apos) [] [] cpos) (aWA X.K T r to):=by
 intro aB s σ H Q I h;refine wpAny_Call_method0_late hbase hline (bD (ho aB s σ H _ I h) λ v s1 hPq28=>?_)
 obtain⟨x,H1,I1,r1,ty,q1⟩:=hPq28;obtain⟨h1,h2⟩:=aIh I1 r1 ty;exact⟨T,id,pa,slot,hty,h1,h2,Calls.callWith_builtin rfl (PySem.evalArgs_none (hm aB s1 σ H1 x [] v [] Q I1 r1 .nil q1))⟩
theorem aSU(pa:PlainAttrs T)(slot:Slot T name id)(hty:typeOf (.builtin id)=pure (.type "method_descriptor"))(hm:qL X id r)(ho:PE X o to)(ha:PA X (e::es) t)
 (hbase:attributeBase o name X.env (eval o X.env)=eval o X.env:=by rfl)
 (hfew:((backTo cpos (zq (e::es) X.env)).all (λ x=>!x.1)&&(backToKw cpos (keywordEach [] X.env)).all (λ x=>x.1.isSome)
   && decide ((e::es).length+([]:List Keyword).length+(if ([]:List Keyword).isEmpty then 0 else 1)<30))=true:=by rfl)
 (hline:(apos.endLine==cpos.line)=true:=by rfl) (hs:zq (e::es) X.env=(false,eval e X.env)::zq es X.env:=by rfl) (hplain:(backTo cpos (zq es X.env)).any (·.1)=false:=by rfl) :
 PE X (.Call (.Attribute o name apos) (e::es) [] cpos) (tBM X.K T r to t):=by
 intro aB s σ H Q I h;refine wpAny_Call_method_late hbase hfew hline rfl (bD (ho aB s σ H _ I h) λ v s1 hPq29=>?_)
 obtain⟨x,H1,I1,r1,ty,q1⟩:=hPq29;obtain⟨h1,h2⟩:=aIh I1 r1 ty;refine⟨T,id,pa,slot,hty,h1,h2,?_⟩;have hA:=ha cpos aB s1 σ H1 _ I1 q1;rw[hs] at hA ⊢;refine Calls.callWith_builtin (by show(false||(backTo cpos (zq es X.env)).any (·.1))=false;rw[hplain]<;>rfl) (Calls.evalArgs_plain ?_)
 exact bD hA λ us s2 ⟨vs,H2,I2,r2,q2⟩=>hm aB s2 σ H2 x vs v us Q I2 r1 r2 q2
end
end L2
namespace L2
open PySem PySem.Spec PyProof.Rows
def MtM(X:Cx)(id:String)(r:V->List V->Hp->VK->Prop):Prop:=
 ∀ (aB:List (qv×Obj)) (s:qj) (σ:St) (H:Hp) (x:V) (xs:List V) (v:qx) (us:List qx) (Q:VK),Inv X aB σ H s->aZ x v->aS xs us->r x xs H Q ->
  qy (model X.prog X.w) X.A (call (.builtin id) (v::us)) (EP X aB σ Q) X.xe s
theorem aS.one:∀ {x:V}{us:List qx},aS [x] us->∃ u,us=[u]/\aZ x u
 | _,_,.cons r .nil=>⟨_,rfl,r⟩
theorem aS.two:∀ {x y:V}{us:List qx},aS [x,y] us->∃ u v,us=[u,v]/\aZ x u/\aZ y v
 | _,_,_,.cons r (.cons q .nil)=>⟨_,_,rfl,r,q⟩
theorem aS.zero:∀ {us:List qx},aS [] us->us=[]
 | _,.nil=>rfl
theorem aS.reverse{xs:List V}{us:List qx}(h:aS xs us):aS xs.reverse us.reverse:=by
 induction h with
 | nil=>exact .nil
 | cons r t ih=>rw[yFp,yFp];exact aS.append ih (.cons r .nil)
theorem aS.rep{xs:List V}{us:List qx}(h:aS xs us):∀ k:Nat,aS (yAd k xs).flatten (yAd k us).flatten
 | 0=>.nil
 | k+1=>by
   rw[yAu,yAu,yCv,yCv];exact aS.append h (aS.rep h k)
theorem yY(aF:List qx):∀ (k:Nat) (aH:List qx),
 List.foldl (λ x1 x2=>x1++x2) aH.toArray (yAd k aF.toArray)=(aH++(yAd k aF).flatten).toArray
 | 0,aH=>by simp
 | k+1,aH=>by
   have e:aH.toArray++aF.toArray=(aH++aF).toArray:=by simp
   have e2:(aH++aF)++(yAd k aF).flatten=aH++(yAd (k+1) aF).flatten:=by
    rw[yAu,yCv,yCf]
   rw[<- e2,<- yY aF k (aH++aF),<- e,yAu,yBy]
section
variable {X : Cx}{aB : List (qv×Obj)}{σ : St}{H : Hp}{s : qj}{l b : qv}{xs ys zs : List V}
theorem Inv.lset{aF its':List qx}{n:Nat}{f:Array qx->Array qx}{t':Nat}(I:Inv X aB σ H s)(hH:H l=qq (.lst xs))
 (e:s.heap.get? l=qq {cls:=.type "list",data:=.seq aF.toArray n }) (hf:f aF.toArray=its'.toArray) (hv:aS ys its') (hz:ys.length<=qk) :
 Inv X aB σ (bE H l (.lst ys)) {s with heap:=s.heap.update l (Obj.mapSeq f),toks:=t' }:=by
 have q:=PySem.IsL.update e f;rw[hf] at q;refine I.write (x:=l) (e:=l) (by rw[hH];exact trivial) (.inl rfl) (λ b' u hb hu=>(yBt s.heap (Obj.mapSeq f) (Ne.symm hb)).trans hu) ⟨_,q⟩ ?_
 exact⟨hz,its',_,hv,q⟩
theorem Inv.lnew{aF:List qx}{t':Nat}(I:Inv X aB σ H s)(hv:aS ys aF)(hz:ys.length<=qk) :
 Inv X aB σ (bE H s.heap.objs.size (.lst ys)) {s with heap:=s.heap.push {cls:=.type "list",data:=.seq aF.toArray },toks:=t' }:=
 I.laid (λ _ _ q=>hpS _ q) (yAc _) ⟨hz,aF,0,hv,xAe _ rfl⟩
theorem Inv.fresh(I:Inv X aB σ H s):H s.heap.objs.size=qz:=I.hok.fresh (yAc _)
theorem Inv.lstM(I:Inv X aB σ H s)(hH:H l=qq (.lst xs)):xs.length<=qk/\∃ (aF:List qx) (n:Nat),aS xs aF/\xs.length=aF.length/\s.heap.get? l=qq {cls:=.type "list",data:=.seq aF.toArray n }:=by
 obtain⟨z,aF,n,r,e⟩:=I.hok l _ hH;exact⟨z,aF,n,r,r.length,e⟩
end
section
variable {X : Cx}
noncomputable def aG0:V->List V->Hp->VK->Prop:=λ x vs H Q=>∃ l xs y,x=.ref l/\vs=[y]/\H l=qq (.lst xs)/\xs.length<qk/\Q .non (bE H l (.lst (xs++[y])))
theorem aFz:MtM X "list.append" aG0:=by
 intro aB s σ H x vs v us Q I rx rv h;obtain⟨l,xs,y,rfl,rfl,hH,hz,q⟩:=h;cases rx;obtain⟨u,rfl,ru⟩:=rv.one;obtain⟨z,aF,n,r,hl,e⟩:=I.lstM hH;refine wj F.slot_list_append ⟨_,e,rfl⟩ F.entry_list_append (F.args_list_append_2 _ _) (PySem.list_append l aF.toArray n u (by rw[yAe];omega)) ⟨e,?_⟩
 refine⟨.non,_,I.lset (its':=aF++[u]) hH e (by simp) (r.append (.cons ru .nil)) ?_,rfl,q⟩
 rw[xAo,List.length_singleton];omega
theorem aPh{α:Type}(xs:List α)(k:Nat):(yAd k xs).flatten.length=k*xs.length:=by
 induction k with
 | zero=>simp
 | succ k ih=>rw[yAu,yCv,xAo,ih,Nat.succ_mul,yDc]
end
section
variable {prog : qo}{w : zw}{A : zy}{E : qx -> qj -> Prop}{s : qj}
end
section
variable {X : Cx}
end
end L2
namespace Att
open PySem PySem.W PySem.Calls PyProof.Rows
theorem aKW{P:Params}{h:Heap}:∀ (ns:List Int) (vs:List qx),WellAll P h vs (ns.map WData.int)->IntsAre vs ns:=by
 intro ns
 induction ns with
 | nil =>
   intro vs w;rw[yGi] at w;cases w;exact .nil
 | cons n ns ih =>
   intro vs w;rw[yBb] at w;cases w with
   | cons a b =>
     cases a;exact .cons _ _ (ih _ b)
theorem script_of{l:OpenLaw}{n:Nat}(hn:l.most=qq n){P:Params}{h:Heap}{args:List WData}{vals:List qx}
 (hpre:l.row.toRowW.claim.pre args=true) (hwl:WellAll P h vals args) :
 ∃ a vs ns,vals=[Value.ref a]/\args=[WData.list (ns.map WData.int)]/\h.get? a=qq {cls:=.type "list",data:=.seq vs.toArray }/\IntsAre vs ns/\ns.length<=n:=by
 have hsh:WShape.hasAll [] args [.list .int]=true:=(pre_splitW hpre).1;have hc:l.pre.holds [] {args:=args }=true:=(pre_splitW hpre).2;obtain⟨d,r,rfl,h1,h2⟩:=hasAllW_cons hsh;obtain rfl:=hasAllW_nil h2;obtain⟨xs,rfl,h3⟩:=hasW_list h1;obtain⟨ns,rfl⟩:=items_int h3;have cH:ns.length<=n:=by
  unfold OpenLaw.pre at hc;have h4:(WTm.not (.lt (.lit (.int (n:Int))) (.len (.arg 0)))).holds [] {args:=[.list (ns.map .int)] }=true:=by
   have h4:=(holds_andW hc).1;rw[hn] at h4;exact h4
  have h5:=condW_of h4 (w_not (w_lt w_lit (w_len_list (w_arg rfl))));rw[yAb] at h5;refine Nat.le_of_not_lt λ q=>?_
  have q':(n:Int)<((ns.length:Nat):Int):=by omega
  first
   | (rw[dqT q'] at h5;exact absurd h5 (by decide))
   | (simp at h5;omega)
 cases hwl with
 | cons w1 w2 =>
   cases w2;cases w1 with
   | list ho hall=>exact⟨_,_,ns,rfl,rfl,ho,aKW ns _ hall,cH⟩
theorem post_true(l:OpenLaw)(args:List WData):l.row.toRowW.claim.post args (.bool true) args=true:=
 postW_of (r:=l.row.toRowW) (X:=(true==true))
  (show WShape.has [] (.bool true) .bool=true by first | rfl | decide | simp[WShape.has,WShape.arms,WShape.armsAll])
  (show(WTm.eq .res (.lit (.bool true))).value [] {args:=args,res:=qq (.bool true),after:=args }=qq (.bool (true==true)) from w_eq_bool (w_res rfl) w_lit) rfl
theorem attach_call{l:OpenLaw}{n:Nat}{q:qo}{loose:List Str}{XP:(Str->Option qx)->Heap->Prop}{YP:zw->Heap->Prop}{d:DefRec}
 (hn:l.most=qq n) (hdf:d.params.defaults=[])
 (call:∀ (w:zw) (s₀ s₁:qj) (mg mb:Str->Option qx) (fa:qv) (o:Obj) (pm cd doc:qx) (a:qv) (vs:List qx) (ns:List Int),
   Ground q loose [] XP w s₀ mg mb s₁.heap->YP w s₁.heap ->
   s₁.heap.get? fa=qq o->o.data=.func (docDef d.name d.params d.body d.scope pm cd doc)->s₁.heap.CodeRec cd d.name->mg d.name=qq (.ref fa) ->
   s₁.heap.get? a=qq {cls:=.type "list",data:=.seq vs.toArray }->IntsAre vs ns->ns.length<=n->s₁.gens = #[] ->
   vw (model l.prog w) callerA (.call (.ref fa) ⟨[.ref a],[]⟩) (λ r s'=>r=.ok (.ret (.bool true))/\OldK s₁.heap s'.heap/\s'.os=s₁.os/\AllBare s'.gens) s₁) :
 WalkO q loose XP YP l.row.toRowW d [] (λ f vs=>PySem.call f vs):=by
 intro w s₀ s₁ mg mb G Y fa o pm cd doc dV kV ho hd hcd hD hmg hg args vals as hpre hlay hrd hwl hlo;obtain rfl:dV=.none:=Dflts.none hD hdf;obtain rfl:kV=.none:=Dflts.noKw hD;obtain⟨a,vs,ns,rfl,rfl,hobj,hints,cH⟩:=script_of hn hpre hwl;refine enter_call (codeAny_mono (call w s₀ s₁ mg mb fa o pm cd doc a vs ns G Y ho (fd_plain hd) hcd hmg hobj hints cH hg) λ r s' hq=>?_)
 obtain⟨rfl,h2,h3,h4⟩:=hq;exact⟨.inl ⟨.bool true,.bool true,[],rfl,λ _=>rfl,.bool true,post_true l _,λ _=>⟨List.Pairwise.nil,λ _ hm=>(nomatch hm)⟩⟩,h2,h3,h4⟩
section
variable {prog : qo}{w : zw}{A : zy}{E : qx -> qj -> Prop}{s : qj}{K : Frag}
noncomputable def aWN(h:Heap)(L d:qv):List (qv×Obj):=(yAm h.objs.size).filterMap λ a=>if a=L\/a=d then qz else (h.get? a).map λ o=>(a,o)
end
end Att
namespace L2
open PySem PySem.Spec PyProof.Rows
theorem aFu:∀ {vs:List qx}{ns:List Int},IntsAre vs ns->aS (ns.map V.int) vs
 | _,_,.nil=>.nil
 | _,_,.cons n t h=>.cons ⟨t,rfl⟩ (aFu h)
def aDC(H:Hp):Prop:=∀ b,H b=qz\/∃ o xs,H b=qq (.frz o (.lst xs))
theorem law_call{P:qo}{w:zw}{K:FrG}{mg mb:Str->Option qx}{CX:jK}{k:Nat}{fa a:qv}{fd:vq}{x:Str}{sp:Sp}{s₁:qj}{vs:List qx}{ns:List Int}
 (KX:K.In s₁.heap) (hns:s₁.heap.Ns xk mg) (hb:s₁.heap.Ns builtinsNs mb) (hbb:∀ x:Str,x ≠ "__name__" -> mb x=xo x) (hlim:s₁.heap.NoLimit) (hg:s₁.gens = #[])
 (ha:s₁.heap.get? a=qq {cls:=.type "list",data:=.seq vs.toArray }) (hi:IntsAre vs ns) (hl:ns.length<=qk) (hr:Room k callerA)
 (F:∀ base:Heap,K.In base->base.Ns xk mg->FnOk P w K mg base CX k fa fd [x] sp) (hbind:∀ (s:qj) (u:qx),BindsTo s fd ⟨[u],[]⟩ [(x,u)])
 (hsp:∀ H:Hp,aDC H->bY K H a (ns.map V.int)->sp [.ref a] H (λ v _=>v=.bl true) λ _ _ _=>False)
 (hCX:∀ H e s',CX [] H s₁ (λ _ _ _=>False) e s'->False) :
 vw (model P w) callerA (.call (.ref fa) ⟨[.ref a],[]⟩) (λ r s'=>r=.ok (.ret (.bool true))/\OldK s₁.heap s'.heap/\s'.os=s₁.os/\AllBare s'.gens) s₁:=by
 have rv:=aFu hi;have lenV:=hi.length;have core:∀ H:Hp,aDC H->bY K H a (ns.map V.int)->dM P w H s₁.heap->(∀ b,H b≠qz->b=a)->(H a≠qz->K.lookup a=qz) ->
  vw (model P w) callerA (.call (.ref fa) ⟨[.ref a],[]⟩) (λ r s'=>r=.ok (.ret (.bool true))/\OldK s₁.heap s'.heap/\s'.os=s₁.os/\AllBare s'.gens) s₁:=by
  intro H hO hS hok hA hK;have uY:∀ {b:qv}{o:Obj},s₁.heap.get? b=qq o->H b=qz->(mV s₁.heap H).get? b=qq o:=λ e n=>aNT e n
  have noA:∀ {b:qv}{o:Obj}{es:Array DictEntry}{ep:Nat},s₁.heap.get? b=qq o->o.data=.dict es ep->H b=qz:=λ {b o es ep} e d=>by
   cases q:H b with
   | none=>rfl
   | some u =>
     have e':b=a:=hA b (by rw[q];simp)
     subst e';rw[ha] at e;cases e;have d':Data.seq vs.toArray _=Data.dict es ep:=d;cases d'
  have nsK:∀ {b:qv}{m:Str->Option qx},s₁.heap.Ns b m->(mV s₁.heap H).Ns b m:=λ {b m} ⟨o,es,ep,e,d,r⟩=>⟨o,es,ep,uY e (noA e d),d,r⟩
  have hKb:K.In (mV s₁.heap H):=λ b o e=>uY (KX b o e) (by
   cases q:H b with
   | none=>rfl
   | some u =>
     have e':b=a:=hA b (by rw[q];simp)
     subst e';rw[hK (by rw[q];simp)] at e;cases e)
  have hM:Mod K mg (mV s₁.heap H):=⟨hKb,nsK hns,⟨mb,nsK hb,hbb⟩,let ⟨mc,h1,h2⟩:=hlim;⟨mc,nsK h1,h2⟩⟩;have e0:Env0 P w K mg (mV s₁.heap H) callerA [] s₁ H:=⟨rfl,hM,λ b o e=>aPp e,yHf (aMm _ _),trivial,λ b hb=>absurd (show b∈([]:List qv) from hb) (by simp),hok,.of_eq hg⟩
  refine codeAny_mono ((F _ hKb (nsK hns)).run callerA [] s₁ H ⟨[.ref a],[]⟩ [.ref a] [.ref a] _ _ hr e0 (hbind s₁ (.ref a)) (.cons rfl .nil) (hsp H hO hS)) λ r s' h=>?_
  cases r with
  | error e=>exact(hCX H e s' h).elim
  | ok fl =>
    cases fl with
    | next=>exact False.elim h
    | brk=>exact False.elim h
    | cont=>exact False.elim h
    | ret u =>
      obtain⟨v,H',os,bare,un,hok',r',q⟩:=h;have q':v=.bl true:=q;subst q';obtain rfl:u=Value.bool true:=r';refine⟨rfl,OldK.of_keep λ b o e=>?_,os,bare⟩
      cases q:H b with
      | none=>exact un.keep b o e q (by intro z;exact absurd (show b∈([]:List qv) from z) (by simp)) (by simp)
      | some u =>
        rcases hO b with z | ⟨ob,xs,z⟩
        ·rw[q] at z;cases z
        ·have z2:=un.frzs b ob _ z;obtain⟨e1,_⟩:=hok b _ z;obtain⟨e2,_⟩:=hok' b _ z2;rw[e] at e1;cases e1;exact e2
 cases hk:K.lookup a with
 | some o =>
   have e:=KX a o hk;rw[ha] at e;cases e;refine core (λ _=>qz) (λ _=>.inl rfl) (.inr ⟨_,vs.toArray,_,hk,rfl,rfl,rfl,by rw[yAe,lenV];exact hl,by simpa using rv⟩) (λ b u z=>by have z':(qz:Option HO)=qq u:=z;cases z') (λ b z=>absurd rfl z) λ z=>absurd rfl z
 | none =>
   refine core (λ b=>if b=a then qq (.frz {cls:=.type "list",data:=.seq vs.toArray } (.lst (ns.map V.int))) else qz) (λ b=>?_) (.inl (.inr ⟨{cls:=.type "list",data:=.seq vs.toArray },if_pos rfl⟩)) (λ b u z=>?_) (λ b z=>?_) λ _=>hk
   ·by_cases hb:b=a
    ·exact .inr ⟨_,_,if_pos hb⟩
    ·exact .inl (if_neg hb)
   ·by_cases hb:b=a
    ·have z':=(if_pos hb).symm.trans z;cases z';subst hb;exact⟨ha,by rw[yAb];exact hl,vs,_,rv,ha⟩
    ·have z':=(if_neg hb).symm.trans z;cases z'
   ·by_cases hb:b=a
    ·exact hb
    ·exact absurd (if_neg hb) z
end L2
namespace L2
open PySem PySem.Spec PyProof.Rows
noncomputable abbrev KOf{K:FrG}{h:Heap}(_:K.In h):FrG:=K
theorem aWM{l:yHg}{n k:Nat}{q:qo}{loose:List Str}{XP:(Str->Option qx)->Heap->Prop}{YP:zw->Heap->Prop}{d:DefRec}{K:Params->FrG}{CX:zw->jK}{sp:zw->Sp}{x:Str}
 (hn:l.most=qq n) (hn2:n<=qk) (hdf:d.params.defaults=[]) (hr:Room k callerA)
 (hY:∀ (w:zw) (h:Heap),YP w h->(K w.params).In h)
 (F:∀ (w:zw) (mg:Str->Option qx) (fa:qv) (h:Heap),(K w.params).In h->h.Ns xk mg->mg d.name=qq (.ref fa) ->
   ∃ fd:vq,(∀ (s:qj) (u:qx),BindsTo s fd ⟨[u],[]⟩ [(x,u)]) /\
    ∀ base:Heap,(K w.params).In base->base.Ns xk mg->FnOk l.prog w (K w.params) mg base (CX w) k fa fd [x] (sp w))
 (hsp:∀ (w:zw) (H:Hp) (a:qv) (ns:List Int),ns.length<=n->aDC H->bY (K w.params) H a (ns.map V.int)->sp w [.ref a] H (λ v _=>v=.bl true) λ _ _ _=>False)
 (hCX:∀ (w:zw) (H:Hp) (s:qj) (e:qx) (s':qj),CX w [] H s (λ _ _ _=>False) e s'->False) :
 PySem.W.WalkO q loose XP YP l.row.toRowW d [] (λ f vs=>PySem.call f vs):=by
 refine Att.attach_call hn hdf λ w s₀ s₁ mg mb fa o pm cd doc a vs ns G Y ho hd hcd hmg hobj hints cH hg=>?_
 have KX:=hY w _ Y;obtain⟨fd,hb,hF⟩:=F w mg fa _ KX G.T.g hmg;exact law_call KX G.T.g G.T.b G.T.builtins G.T.nolimit hg hobj hints (xAi cH hn2) hr hF hb (λ H hO hS=>hsp w H a ns cH hO hS) λ H e s'=>hCX w H s₁ e s'
end L2
namespace L2
open PySem PySem.Spec PyProof.Rows
noncomputable def nW(s:jz):Arguments:=match s with
 | .FunctionDef _ a _ _ _ _ _ _ _ _=>a
 | _=>{posonlyargs:=[],args:=[],vararg:=qz,kwonlyargs:=[],kw_defaults:=[],kwarg:=qz,defaults:=[] }
noncomputable def kS(s:jz):List jz:=match s with
 | .FunctionDef _ _ b _ _ _ _ _ _ _=>b
 | _=>[]
noncomputable def eT(s:jz):zk:=match s with
 | .FunctionDef _ _ _ _ _ _ sc _ _ _=>sc
 | _=>{kind:=.function,names:=[],isGenerator:=false,isCoroutine:=false }
noncomputable abbrev sU:jK:=λ _ _ _ _ _ _=>False
noncomputable abbrev E0:XK:=λ _ _ _=>False
theorem aIV{X:Cx}:aAt sU X E0:=λ _ _ _ _ _ _ _ h=>h.elim
structure Fun(K:FrG)(x cL:Str)(st:jz)(f:qv)(fd:vq):Prop where
 ex:∃ (oc:qx) (od:Option qv) (kV doc pm:qx) (an:Option qv) (cdv ct:qx) (osl:Array (Option qx)),
  fd=yDb x cL (nW st) (kS st) (eT st) .none kV doc pm an cdv ct/\K.lookup f=qq ⟨oc,od,.func fd,osl⟩/\yFr K cdv cL=true
 kp:yCu K (.ref f)=true
section
variable {P : qo}{w : zw}{K : FrG}{mg : Str -> Option qx}{base : Heap}
theorem Fun.ok{x cL:Str}{st:jz}{f:qv}{fd:vq}{N ps:List Str}{k:Nat}{sp:Sp}(F:Fun K x cL st f fd)(S:FnScope N ps (eT st))(len:∀ vs H Q E,sp vs H Q E->vs.length=ps.length)
 (hbody:∀ (cdv:qx) (A:zy) (outer:List Env) (s:qj) (H:Hp) (vs:List V) (Q:VK) (E:XK),Room k (A.deeper (envOfC cL (eT st) s.heap.objs.size f cdv))->sp vs H Q E ->
   ∃ t,dU (sP sU P w K mg base N cL (eT st) f cdv A outer s H E).nox (kS st) t/\t {nx:=λ _ H'=>Q .non H',rt:=Q } (start N vs) H):FnOk P w K mg base sU (k+1) f fd ps sp:=by
 obtain⟨oc,od,kV,doc,pm,an,cdv,ct,osl,rfl,lk,hcd⟩:=F.ex;refine aUk lk hcd S len λ A outer s H vs Q E hr hsp=>?_
 obtain⟨t,h,q⟩:=hbody cdv A outer s H vs Q E hr hsp;exact⟨t,h.nox,q⟩
theorem Fun.binds{x cL:Str}{st:jz}{f:qv}{fd:vq}{ps:List Str}(F:Fun K x cL st f fd)
 (h:∀ (kV doc pm:qx) (an:Option qv) (cdv ct:qx) (us:List qx),us.length=ps.length->bindArgs (yDb x cL (nW st) (kS st) (eT st) .none kV doc pm an cdv ct) ⟨us,[]⟩=pure (ps.zip us)):mN K fd ps []:=by
 obtain⟨oc,od,kV,doc,pm,an,cdv,ct,osl,rfl,lk,hcd⟩:=F.ex;exact .all (h kV doc pm an cdv ct)
theorem aQ8{x cL:Str}{st:jz}{f:qv}{oc:qx}{od an:Option qv}{osl:Array (Option qx)}{kV doc pm cdv ct:qx}(l:K.lookup f=qq ⟨oc,od,.func (yDb x cL (nW st) (kS st) (eT st) .none kV doc pm an cdv ct),osl⟩)
 (c:yFr K cdv cL=true) (k:yCu K (.ref f)=true):Fun K x cL st f (yDb x cL (nW st) (kS st) (eT st) .none kV doc pm an cdv ct):=⟨⟨oc,od,kV,doc,pm,an,cdv,ct,osl,rfl,l,c⟩,k⟩
end
section
variable {X : Cx}
end
theorem sJ{A B:Prop}(h:B):if false=true then A else B:=by
 rw[if_neg yAx];exact h
theorem sQ{A B:Prop}(h:A):if true=true then A else B:=by
 rw[if_pos rfl];exact h
def bZ(H H':Hp):Prop:=∀ b o,H b=qq o->H' b=qq o
theorem bZ.refl(H:Hp):bZ H H:=λ _ _ h=>h
theorem bZ.trans{H H1 H2:Hp}(a:bZ H H1)(b:bZ H1 H2):bZ H H2:=λ c o h=>b c o (a c o h)
theorem bZ.free{H H':Hp}(e:bZ H H'){l:qv}(h:H' l=Option.none):H l=Option.none:=by
 cases q:H l with
 | none=>rfl
 | some o =>
   rw[e l o q] at h;cases h
theorem bZ.seq{K:FrG}{H H':Hp}{a:qv}{xs:List V}(e:bZ H H')(h:bY K H a xs):bY K H' a xs:=by
 rcases h with (h | ⟨o,h⟩) | h
 ·exact .inl (.inl (e _ _ h))
 ·exact .inl (.inr ⟨o,e _ _ h⟩)
 ·exact .inr h
end L2
set_option maxHeartbeats 4000000
namespace EV
open PySem L2 PySem.Spec PyProof.Rows
abbrev D:=PyData
inductive W where
 | d (x:D) | loc (n:Nat)
abbrev aC:=List (Option (List D))
abbrev aX:=List (Option W)
abbrev St:=L2.St
section
variable (K : FrG)(F : Hp)
mutual
inductive Den:D->V->Prop
 | non:Den .none .non
 | bl (b:Bool):Den (.bool b) (.bl b)
 | int (i:Int):Den (.int i) (.int i)
 | str (x:Str):Den (.str x) (.str x)
 | lst {a:qv}{xs:List V}{ds:List D}:bY K F a xs->DenL ds xs->Den (.list ds) (.ref a)
 | tup {a:qv}{xs:List V}{ds:List D}:cF K F a xs->DenL ds xs->Den (.tuple ds) (.ref a)
inductive DenL:List D->List V->Prop
 | nil:DenL [] []
 | cons {d:D}{ds:List D}{x:V}{xs:List V}:Den d x->DenL ds xs->DenL (d::ds) (x::xs)
end
end
theorem mP{K:FrG}{H H':Hp}{a:qv}{xs:List V}(e:bZ H H')(h:cF K H a xs):cF K H' a xs:=by
 rcases h with (h | ⟨o,h⟩) | h
 ·exact .inl (.inl (e _ _ h))
 ·exact .inl (.inr ⟨o,e _ _ h⟩)
 ·exact .inr h
section
variable {K : FrG}{F F' : Hp}
mutual
theorem Den.mono(e:bZ F F'):∀ {d:D}{v:V},Den K F d v->Den K F' d v
 | _,_,.non=>.non
 | _,_,.bl b=>.bl b
 | _,_,.int i=>.int i
 | _,_,.str x=>.str x
 | _,_,.lst h r=>.lst (e.seq h) (DenL.mono e r)
 | _,_,.tup h r=>.tup (mP e h) (DenL.mono e r)
theorem DenL.mono(e:bZ F F'):∀ {ds:List D}{xs:List V},DenL K F ds xs->DenL K F' ds xs
 | _,_,.nil=>.nil
 | _,_,.cons h r=>.cons (Den.mono e h) (DenL.mono e r)
end
theorem DenL.length:∀ {ds:List D}{xs:List V},DenL K F ds xs->ds.length=xs.length
 | _,_,.nil=>rfl
 | _,_,.cons _ r=>congrArg (· + 1) (DenL.length r)
theorem DenL.get:∀ {ds:List D}{xs:List V}{i:Nat}{d:D},DenL K F ds xs->ds[i]? = qq d->∃ x,xs[i]? = qq x/\Den K F d x
 | _,_,_,_,.nil,e=>by simp at e
 | _,_,0,_,.cons h _,e=>by simp at e;subst e;exact⟨_,rfl,h⟩
 | _,_,i+1,d,.cons _ r,e=>by
   obtain⟨x,h1,h2⟩:=DenL.get (i:=i) (d:=d) r (by simpa using e)
   exact⟨x,by simpa using h1,h2⟩
theorem DenL.append:∀ {ds es:List D}{xs ys:List V},DenL K F ds xs->DenL K F es ys->DenL K F (ds++es) (xs++ys)
 | _,_,_,_,.nil,s=>s
 | _,_,_,_,.cons h r,s=>.cons h (DenL.append r s)
theorem DenL.take:∀ {ds:List D}{xs:List V} (n:Nat),DenL K F ds xs->DenL K F (ds.take n) (xs.take n)
 | _,_,0,_=>.nil
 | _,_,_+1,.nil=>.nil
 | _,_,n+1,.cons h r=>.cons h (DenL.take n r)
theorem DenL.drop:∀ {ds:List D}{xs:List V} (n:Nat),DenL K F ds xs->DenL K F (ds.drop n) (xs.drop n)
 | _,_,0,r=>r
 | _,_,_+1,.nil=>.nil
 | _,_,n+1,.cons _ r=>DenL.drop n r
theorem DenL.set:∀ {ds:List D}{xs:List V} (i:Nat) {d:D}{x:V},DenL K F ds xs->Den K F d x->DenL K F (ds.set i d) (xs.set i x)
 | _,_,_,_,_,.nil,_=>.nil
 | _,_,0,_,_,.cons _ r,h=>.cons h r
 | _,_,i+1,_,_,.cons q r,h=>.cons q (DenL.set i r h)
theorem DenL.reverse:∀ {ds:List D}{xs:List V},DenL K F ds xs->DenL K F ds.reverse xs.reverse
 | _,_,.nil=>.nil
 | _,_,.cons h r=>by
   rw[yFp,yFp];exact DenL.append (DenL.reverse r) (.cons h .nil)
theorem DenL.rep{ds:List D}{xs:List V}(h:DenL K F ds xs):∀ n:Nat,DenL K F (yAd n ds).flatten (yAd n xs).flatten
 | 0=>.nil
 | n+1=>by
   rw[yAu,yAu,yCv,yCv];exact h.append (DenL.rep h n)
theorem DenL.of_ints:∀ (ns:List Int),DenL K F (ns.map yAn) (ns.map V.int)
 | []=>.nil
 | n::r=>.cons (.int n) (DenL.of_ints r)
end
structure Rel(K:FrG)(F:Hp)(L:List qv)(S:aC)(H:Hp):Prop where
 sub:bZ F H
 nd:L.Nodup
 len:L.length=S.length
 loc:∀ (n:Nat) (a:qv) (ds:List D),L[n]? = qq a->S[n]? = qq (qq ds)->F a=qz/\∃ xs,H a=qq (.lst xs)/\DenL K F ds xs
 tr:∀ (n:Nat) (a:qv),L[n]? = qq a->∃ xs,H a=qq (.lst xs)
noncomputable def eH(K:FrG)(F:Hp)(L:List qv):W->V->Prop
 | .d x,v=>Den K F x v
 | .loc n,v=>∃ a,L[n]? = qq a/\v=.ref a
structure EnvR(K:FrG)(F:Hp)(L:List qv)(env:aX)(σ:St):Prop where
 len:env.length=σ.length
 get:∀ (i:Nat) (w:W),env[i]? = qq (qq w)->∃ v,σ[i]? = qq (qq v)/\eH K F L w v
structure Gr(F:Hp)(L:List qv)(F':Hp)(L':List qv):Prop where
 f:bZ F F'
 l:∃ M,L'=L++M
section
variable {K : FrG}{F F' F'' H H' : Hp}{L L' L'' : List qv}{S S' : aC}
theorem Gr.refl:Gr F L F L:=⟨bZ.refl _,[],by simp⟩
theorem Gr.trans(a:Gr F L F' L')(b:Gr F' L' F'' L''):Gr F L F'' L'':=by
 obtain⟨f1,M,rfl⟩:=a;obtain⟨f2,N,rfl⟩:=b;exact⟨f1.trans f2,M++N,by rw[yCf]⟩
theorem Gr.get(g:Gr F L F' L'){n:Nat}{a:qv}(h:L[n]? = qq a):L'[n]? = qq a:=by
 obtain⟨_,M,rfl⟩:=g;rw[xAn (gIm h).1];exact h
theorem eH.mono(g:Gr F L F' L'){w:W}{v:V}(h:eH K F L w v):eH K F' L' w v:=by
 cases w with
 | d x=>exact Den.mono g.f h
 | loc n=>obtain⟨a,e,r⟩:=h;exact⟨a,g.get e,r⟩
theorem EnvR.mono(g:Gr F L F' L'){env:aX}{σ:St}(h:EnvR K F L env σ):EnvR K F' L' env σ:=
 ⟨h.len,λ i w e=>let ⟨v,e1,r⟩:=h.get i w e;⟨v,e1,r.mono g⟩⟩
theorem EnvR.set{env:aX}{σ:St}(h:EnvR K F L env σ)(i:Nat){w:W}{v:V}(r:eH K F L w v):EnvR K F L (env.set i (qq w)) (σ.set i (qq v)):=by
 refine⟨by rw[yBi,yBi];exact h.len,λ j u e=>?_⟩
 by_cases hj:i=j
 ·subst hj;have hl:i<env.length:=by
   rcases yGj i env.length with q | q
   ·exact q
   ·rw[yDd (by rw[yBi];exact q)] at e;cases e
  rw[yAy hl] at e;cases e;exact⟨v,yAy (by rw[<- h.len];exact hl),r⟩
 ·rw[yAz hj] at e;obtain⟨x,e1,r1⟩:=h.get j u e;exact⟨x,by rw[yAz hj];exact e1,r1⟩
theorem eM{p:qv}{o:HO}(h:H p=qz):bZ H (bE H p o):=λ b u q=>by rw[bP (eC q h)];exact q
theorem Rel.new(r:Rel K F L S H){p:qv}{o:HO}(h:H p=qz):Rel K (bE F p o) L S (bE H p o):=by
 have hF:F p=qz:=r.sub.free h;refine⟨λ b u q=>?_,r.nd,r.len,λ n a ds e1 e2=>?_,λ n a e=>?_⟩
 ·by_cases hb:b=p
  ·subst hb;rw[dE] at q ⊢;exact q
  ·rw[bP hb] at q ⊢;exact r.sub _ _ q
 ·obtain⟨f,xs,e3,dl⟩:=r.loc n a ds e1 e2;have ne:a≠p:=eC e3 h;exact⟨by rw[bP ne];exact f,xs,by rw[bP ne];exact e3,DenL.mono (eM hF) dl⟩
 ·obtain⟨xs,hx⟩:=r.tr n a e;exact⟨xs,by rw[bP (eC hx h)];exact hx⟩
theorem Gr.new{p:qv}{o:HO}(h:F p=qz):Gr F L (bE F p o) L:=⟨eM h,[],by simp⟩
theorem Rel.newLoc(r:Rel K F L S H){p:qv}{xs:List V}{ds:List D}(h:H p=qz)(dl:DenL K F ds xs):Rel K F (L++[p]) (S++[qq ds]) (bE H p (.lst xs)):=by
 have hF:F p=qz:=r.sub.free h;refine⟨λ b u q=>?_,?_,by rw[xAo,xAo,r.len]<;>rfl,λ n a es e1 e2=>?_,λ n a e=>?_⟩
 ·rw[bP (eC q hF)];exact r.sub _ _ q
 ·rw[yGq];refine⟨r.nd,by simp,λ a ha b hb=>?_⟩
  rw[yFe] at hb;subst hb;obtain⟨n,hn⟩:=yFz ha;obtain⟨xs,hx⟩:=r.tr n a hn;exact eC hx h
 ·by_cases hn:n<L.length
  ·rw[xAn hn] at e1;rw[xAn (by rw[<- r.len];exact hn)] at e2
   obtain⟨f,ys,e3,dl'⟩:=r.loc n a es e1 e2;exact⟨f,ys,by rw[bP (eC e3 h)];exact e3,dl'⟩
  ·rw[yAf (by omega)] at e1
   rw[yAf (by rw[<- r.len];omega)] at e2
   have z:n-L.length=0:=by
    have:=(gIm e1).1;simp at this;omega
   rw[<- r.len] at e2;rw[z] at e1 e2;simp at e1 e2;subst e1 e2;exact⟨hF,xs,dE,dl⟩
 ·by_cases hn:n<L.length
  ·rw[xAn hn] at e;obtain⟨ys,hy⟩:=r.tr n a e;exact⟨ys,by rw[bP (eC hy h)];exact hy⟩
  ·rw[yAf (by omega)] at e
   have z:a=p:=by
    have h1:=xAl e;simpa using h1
   exact⟨xs,by rw[z];exact dE⟩
theorem Rel.lay(r:Rel K F L S H){p:qv}{o:HO}(h:H p=qz):Rel K F L S (bE H p o):=by
 refine⟨λ b u q=>by rw[bP (eC q (r.sub.free h))];exact r.sub _ _ q,r.nd,r.len,λ n a ds e1 e2=>?_,λ n a e=>?_⟩
 ·obtain⟨f,xs,e3,dl⟩:=r.loc n a ds e1 e2;exact⟨f,xs,by rw[bP (eC e3 h)];exact e3,dl⟩
 ·obtain⟨xs,hx⟩:=r.tr n a e;exact⟨xs,by rw[bP (eC hx h)];exact hx⟩
theorem Rel.notin(r:Rel K F L S H){p:qv}(h:H p=qz):p ∉ L:=λ hp=>by
 obtain⟨n,hn⟩:=yFz hp;obtain⟨xs,hx⟩:=r.tr n p hn;rw[h] at hx;cases hx
theorem Rel.adopt(r:Rel K F L S H){p:qv}{xs:List V}(hF:F p=qz)(hL:p ∉ L)(hH:H p=qq (.lst xs)):Rel K (bE F p (.lst xs)) L S H:=by
 refine⟨λ b u q=>?_,r.nd,r.len,λ n a ds e1 e2=>?_,r.tr⟩
 ·by_cases hb:b=p
  ·subst hb;rw[dE] at q;rw[hH];exact q
  ·rw[bP hb] at q;exact r.sub _ _ q
 ·obtain⟨f,ys,e3,dl⟩:=r.loc n a ds e1 e2;have ne:a≠p:=λ z=>hL (by rw[<- z];exact xAl e1)
  exact⟨by rw[bP ne];exact f,ys,e3,dl.mono (eM hF)⟩
theorem Rel.adoptLoc(r:Rel K F L S H){p:qv}{xs:List V}{ds:List D}(hF:F p=qz)(hL:p ∉ L)(hH:H p=qq (.lst xs))(dl:DenL K F ds xs):Rel K F (L++[p]) (S++[qq ds]) H:=by
 refine⟨r.sub,?_,by rw[xAo,xAo,r.len]<;>rfl,λ n a es e1 e2=>?_,λ n a e=>?_⟩
 ·rw[yGq];refine⟨r.nd,by simp,λ a ha b hb=>?_⟩
  rw[yFe] at hb;subst hb;exact λ z=>hL (z▸ha)
 ·by_cases hn:n<L.length
  ·rw[xAn hn] at e1;rw[xAn (by rw[<- r.len];exact hn)] at e2
   exact r.loc n a es e1 e2
  ·rw[yAf (by omega)] at e1
   rw[yAf (by rw[<- r.len];omega)] at e2
   have z:n-L.length=0:=by
    have:=(gIm e1).1;simp at this;omega
   rw[<- r.len] at e2;rw[z] at e1 e2;simp at e1 e2;subst e1 e2;exact⟨hF,xs,hH,dl⟩
 ·by_cases hn:n<L.length
  ·rw[xAn hn] at e;exact r.tr n a e
  ·rw[yAf (by omega)] at e
   have z:a=p:=by
    have h1:=xAl e;simpa using h1
   exact⟨xs,by rw[z];exact hH⟩
theorem Gr.newLoc{p:qv}:Gr F L F (L++[p]):=⟨bZ.refl _,[p],rfl⟩
theorem Rel.put(r:Rel K F L S H){n:Nat}{a:qv}{ys:List V}{es:List D}(e:L[n]? = qq a)(hF:F a=qz)(dl:DenL K F es ys):Rel K F L (S.set n (qq es)) (bE H a (.lst ys)):=by
 refine⟨λ b u q=>by rw[bP (eC q hF)];exact r.sub _ _ q,r.nd,by rw[yBi];exact r.len,λ m b fs e1 e2=>?_,λ m b e1=>?_⟩
 ·by_cases hm:n=m
  ·subst hm;rw[e] at e1;cases e1;have hl:n<S.length:=by rw[<- r.len];exact(gIm e).1
   rw[yAy hl] at e2;cases e2;exact⟨hF,ys,dE,dl⟩
  ·rw[yAz hm] at e2;have ne:b≠a:=λ z=>by
    subst z;have h1:=(gIm e);have h2:=(gIm e1);obtain⟨l1,g1⟩:=h1;obtain⟨l2,g2⟩:=h2;exact hm ((yGx r.nd).mp (g1.trans g2.symm))
   obtain⟨f,xs,e3,d3⟩:=r.loc m b fs e1 e2;exact⟨f,xs,by rw[bP ne];exact e3,d3⟩
 ·by_cases hb:b=a
  ·exact⟨ys,by rw[hb];exact dE⟩
  ·obtain⟨zs,hz⟩:=r.tr m b e1;exact⟨zs,by rw[bP hb];exact hz⟩
theorem Rel.freeze(r:Rel K F L S H){n:Nat}{a:qv}{ds:List D}(e:L[n]? = qq a)(es:S[n]? = qq (qq ds)) :
 ∃ F',Gr F L F' L/\Rel K F' L (S.set n qz) H/\Den K F' (.list ds) (.ref a):=by
 obtain⟨hF,xs,e3,dl⟩:=r.loc n a ds e es;refine⟨bE F a (.lst xs),Gr.new hF,⟨λ b u q=>?_,r.nd,by rw[yBi];exact r.len,λ m b fs e1 e2=>?_,r.tr⟩,.lst (bY.of dE) (dl.mono (eM hF))⟩
 ·by_cases hb:b=a
  ·subst hb;rw[dE] at q;rw[e3];exact q
  ·rw[bP hb] at q;exact r.sub _ _ q
 ·by_cases hm:n=m
  ·subst hm;have hl:n<S.length:=(gIm es).1;rw[yAy hl] at e2;cases e2
  ·rw[yAz hm] at e2;have ne:b≠a:=λ z=>by
    subst z;obtain⟨l1,g1⟩:=gIm e;obtain⟨l2,g2⟩:=gIm e1;exact hm ((yGx r.nd).mp (g1.trans g2.symm))
   obtain⟨f,ys,e4,d4⟩:=r.loc m b fs e1 e2;exact⟨by rw[bP ne];exact f,ys,e4,d4.mono (eM hF)⟩
theorem Rel.cut{M:List qv}(r:Rel K F (L++M) S H):Rel K F L (S.take L.length) H:=by
 have hl:L.length<=S.length:=by have:=r.len;rw[xAo] at this;omega
 refine⟨r.sub,(List.nodup_append.mp r.nd).1,by rw[yBo];omega,λ n a ds e1 e2=>?_,λ n a e1=>?_⟩
 ·have hn:n<L.length:=(gIm e1).1;rw[yDl hn] at e2;exact r.loc n a ds (by rw[xAn hn];exact e1) e2
 ·have hn:n<L.length:=(gIm e1).1;exact r.tr n a (by rw[xAn hn];exact e1)
end
def bQ(K:FrG)(F H:Hp)(x:D)(v:V):Prop:=Den K F x v\/∃ ds a xs,x=.list ds/\v=.ref a/\H a=qq (.lst xs)/\DenL K F ds xs
noncomputable def dr(S:aC):W->Option D
 | .d x=>qq x
 | .loc n=>match S[n]? with
   | some (qq ds)=>qq (.list ds)
   | _=>qz
theorem jP{K:FrG}{F H:Hp}{L:List qv}{S:aC}{w:W}{x:D}{v:V}(r:Rel K F L S H)(h:eH K F L w v)(e:dr S w=qq x):bQ K F H x v:=by
 cases w with
 | d y=>cases e;exact .inl h
 | loc n =>
   obtain⟨a,e1,rfl⟩:=h;cases e2:S[n]? with
   | none=>simp[dr,e2] at e
   | some o =>
     cases o with
     | none=>simp[dr,e2] at e
     | some ds =>
       simp[dr,e2] at e;subst e;obtain⟨f,xs,e3,dl⟩:=r.loc n a ds e1 e2;exact .inr ⟨ds,a,xs,rfl,rfl,e3,dl⟩
section
variable {K : FrG}{F H : Hp}{v : V}
theorem bQ.non(h:bQ K F H .none v):v=.non:=by
 rcases h with h | ⟨_,_,_,e,_⟩
 ·cases h;rfl
 ·cases e
theorem bQ.bl{b:Bool}(h:bQ K F H (.bool b) v):v=.bl b:=by
 rcases h with h | ⟨_,_,_,e,_⟩
 ·cases h;rfl
 ·cases e
theorem bQ.int{i:Int}(h:bQ K F H (.int i) v):v=.int i:=by
 rcases h with h | ⟨_,_,_,e,_⟩
 ·cases h;rfl
 ·cases e
theorem bQ.str{x:Str}(h:bQ K F H (.str x) v):v=.str x:=by
 rcases h with h | ⟨_,_,_,e,_⟩
 ·cases h;rfl
 ·cases e
theorem bQ.lst{ds:List D}(s:bZ F H)(h:bQ K F H (.list ds) v):∃ a xs,v=.ref a/\bY K H a xs/\DenL K F ds xs:=by
 rcases h with h | ⟨_,a,xs,e,e2,e3,dl⟩
 ·cases h with
  | lst q r=>exact⟨_,_,rfl,s.seq q,r⟩
 ·cases e;exact⟨a,xs,e2,bY.of e3,dl⟩
theorem bQ.tup{ds:List D}(s:bZ F H)(h:bQ K F H (.tuple ds) v):∃ a xs,v=.ref a/\cF K H a xs/\DenL K F ds xs:=by
 rcases h with h | ⟨_,_,_,e,_⟩
 ·cases h with
  | tup q r=>exact⟨_,_,rfl,mP s q,r⟩
 ·cases e
theorem bQ.dict{aW:List (D×D)}(h:bQ K F H (.dict aW) v):False:=by
 rcases h with h | ⟨_,_,_,e,_⟩
 ·cases h
 ·cases e
end
theorem aKP:fillsNumberSlot (.type "tuple") "mul" = pure false:=
 PySem.fillsNumberSlot_seq (id:="tuple.__mul__") (r:=qq (.builtin "tuple.__rmul__")) PySem.F.slot_tuple_mul.lookup (by decide +kernel) PySem.F.slot_tuple_rmul.lookup (by decide +kernel)
theorem aLq:seqRepeat? (.type "tuple")=pure (qq (.builtin "tuple.__mul__")):=by
 unfold seqRepeat?;rw[PySem.seqSlot_of (T:="tuple") (name:="__mul__") (id:="tuple.__mul__") PySem.F.slot_tuple_mul.lookup (by decide +kernel),PySem.seqSlot_of (T:="tuple") (name:="__rmul__") (id:="tuple.__rmul__") PySem.F.slot_tuple_rmul.lookup (by decide +kernel)]
 rfl
theorem aK0(a:Int)(t:Tok)(l:qv)(aQ:Array qx)(n:Nat)(d:Option qv)(sl:Array (Option qx)) :
 Meets (Builtin.«int.__rmul__» ⟨[.int a t,.ref l],[]⟩) (λ _ R s=>s.heap.get? l=qq {cls:=.type "tuple",dict:=d,data:=.seq aQ n,slots:=sl }/\R (.ok (.ret Value.notImplemented)) s):=
 .of_wp λ prog w A R s h=>by obtain⟨hp,g,d,tk,os⟩:=s;obtain⟨hl,h⟩:=h;wp_walk;exact⟨_,rfl,h⟩
theorem aK7(l:qv)(aQ:Array qx)(n:Nat)(d:Option qv)(sl:Array (Option qx))(t:Tok) :
 Meets (Builtin.«tuple.__mul__» ⟨[.ref l,.int 1 t],[]⟩) (λ _ R s=>s.heap.get? l=qq {cls:=.type "tuple",dict:=d,data:=.seq aQ n,slots:=sl }/\R (.ok (.ret (.ref l))) s):=
 .of_wp λ prog w A R s h=>by
  obtain⟨hp,g,d,tk,os⟩:=s;obtain⟨hl,h⟩:=h
  wp_walk
  exact⟨_,rfl,h⟩
theorem aK4(l:qv)(x:qx)(n:Nat)(d:Option qv)(sl:Array (Option qx))(t:Tok) :
 Meets (Builtin.«tuple.__mul__» ⟨[.ref l,.int 0 t],[]⟩) (λ _ R s=>s.heap.get? l=qq {cls:=.type "tuple",dict:=d,data:=.seq #[x] n,slots:=sl }/\R (.ok (.ret (.ref s.heap.objs.size))) {s with heap:=s.heap.push {cls:=.type "tuple",data:=.seq #[] } }):=
 .of_wp λ prog w A R s h=>by
  obtain⟨hp,g,d,tk,os⟩:=s;obtain⟨hl,h⟩:=h
  wp_walk
  exact⟨_,rfl,h⟩
theorem yY(x:qx):∀ (k:Nat) (aH:Array qx),(yAd k #[x]).foldl (· ++ ·) aH=aH++(yAd k x).toArray
 | 0,aH=>by simp
 | k+1,aH=>by
   rw[yAu,yBy,yY x k];apply Array.ext';simp[yAu]
theorem aK8(l:qv)(x:qx)(n:Nat)(d:Option qv)(sl:Array (Option qx))(k:Nat)(hk:2<=k)(hk2:k<=1000)(t:Tok) :
 Meets (Builtin.«tuple.__mul__» ⟨[.ref l,.int k t],[]⟩) (λ _ R s=>s.heap.get? l=qq {cls:=.type "tuple",dict:=d,data:=.seq #[x] n,slots:=sl }/\R (.ok (.ret (.ref s.heap.objs.size))) {s with heap:=s.heap.push {cls:=.type "tuple",data:=.seq (yAd k x).toArray } }):=
 .of_wp λ prog w A R s h=>by
  obtain⟨hp,g,d,tk,os⟩:=s;obtain⟨hl,h⟩:=h;have c1:(decide (((k:Nat):Int) < -(2^63))||decide (((k:Nat):Int) ≥ 2^63))=false:=by simp;omega
  have c2:(((k:Nat):Int)==1)=false:=by rw[beq_eq_false_iff_ne];omega
  have c3:decide (((k:Nat):Int)<=0)=false:=dqF (by omega)
  have c4:((#[x]:Array qx).isEmpty||(((k:Nat):Int)==1))=false:=by rw[c2];rfl
  have c5:(decide (((k:Nat):Int)<=0)||(#[x]:Array qx).isEmpty)=false:=by rw[c3];rfl
  have c6:¬ (((#[x]:Array qx).size:Int)*((k:Nat):Int)>(2^63-1)/8):=by
   show ¬ (((1:Nat):Int)*((k:Nat):Int)>(2^63-1)/8);omega
  have hsz:qk=16777216:=by decide
  have c7:yGh (((#[x]:Array qx).size:Int)*((k:Nat):Int))=false:=by
   unfold yGh;refine dqF ?_;show ¬ (((1:Nat):Int)*((k:Nat):Int)>((qk:Nat):Int));omega
  wp_walk
  rw[if_neg (by rw[c1];exact yAx)]
  refine wB (wpAny_tupleItemsOf hl rfl ?_);simp only[c4,c5,c6,c7,yAv,if_false];rw[yAr,yY,show(#[]:Array qx)++(yAd k x).toArray=(yAd k x).toArray by simp]
  refine wB (m:=yCn _) (xy (wP ⟨_,rfl,h⟩) ?_);show(yAd k x).toArray.size<=qk;rw[yAe,yDz,hsz];omega
section
variable {X : Cx}{aB : List (qv×Obj)}{σ : L2.St}{H : Hp}{s : qj}{Q : VK}
theorem aGp{x:V}{u:qx}(r:aZ x u):∀ k:Nat,aS (yAd k x) (yAd k u)
 | 0=>.nil
 | k+1=>.cons r (aGp r k)
theorem aWs{a:qv}{x:V}{k:Nat}{t:Tok}(I:Inv X aB σ H s)(ha:cF X.K H a [x])(hk:k<=1000)
 (q1:k=1->Q (.ref a) H) (q:∀ p,H p=qz->Q (.ref p) (bE H p (.tup (yAd k x)))):qy (model X.prog X.w) X.A (zo .Mult (.ref a) (.int k t)) (EP X aB σ Q) X.xe s:=by
 obtain⟨aF,r1,p1,_⟩:=I.tuple ha;obtain⟨u,rfl,ru⟩:∃ u,aF=[u]/\aZ x u:=by
  cases r1 with
  | cons r r'=>cases r';exact⟨_,rfl,r⟩
 obtain⟨⟨cls,d,data,sl⟩,ho,hcl,n,hd⟩:=p1;simp only at hcl hd;subst hcl hd;have hsz:qk=16777216:=by decide
 have bT:∀ (aF:List qx),aF=yAd k u->EP X aB σ Q (.ref s.heap.objs.size) {s with heap:=s.heap.push {cls:=.type "tuple",data:=.seq aF.toArray } }:=λ aF e=>by
  subst e;exact⟨.ref _,_,I.laid (t':=s.toks) (o:=.tup (yAd k x)) (λ b ob q=>hpS _ q) (yAc _) ⟨by rw[yDz,hsz];omega,_,aGp ru k,⟨_,xAe _ rfl,rfl,0,rfl⟩⟩,rfl,q _ (I.hok.fresh (yAc _))⟩
 refine yv (T:="tuple") (U:="int") (by decide) ⟨_,ho,rfl⟩ (λ s'=>yj s' k t) aKP PySem.F.fills_int_mul yEa aLq PySem.F.slot_int_index.lookup
  (wj yEa (yj s k t) PySem.F.entry_int_rmul (PySem.F.args_int_rmul_2 _ _) (aK0 k t a _ n d sl)
    ⟨ho,rfl,⟨_,ho,rfl⟩,?_⟩)
 by_cases h1:k=1
 ·subst h1;exact wj yFo ⟨_,ho,rfl⟩ yFf (yEx _ _) (aK7 a _ n d sl t) ⟨ho,.ref a,H,I,rfl,q1 rfl⟩
 ·by_cases h0:k=0
  ·subst h0;exact wj yFo ⟨_,ho,rfl⟩ yFf (yEx _ _) (aK4 a u n d sl t) ⟨ho,bT [] rfl⟩
  ·exact wj yFo ⟨_,ho,rfl⟩ yFf (yEx _ _) (aK8 a u n d sl k (by omega) hk t) ⟨ho,bT _ rfl⟩
end
noncomputable def oK(i j:Int):Bool:=!(decide (yAk i>yq)&&decide (yAk j>yq)&&Builtin.Int.intTooBig (yAk i+yAk j))
noncomputable def wQ{α:Type}(n:Nat)(xs:List α):List α:=(yAd n xs).flatten
noncomputable def aDk:D->D->Option D
 | .int i,.int j=>qq (.int (i+j))
 | .str x,.str y=>if x.length+y.length<=qk then qq (.str (x++y)) else qz
 | .tuple [],.tuple ys=>qq (.tuple ys)
 | .tuple xs,.tuple ys=>if xs.isEmpty=false/\xs.length+ys.length<=qk then qq (.tuple (xs++ys)) else qz
 | .list xs,.list ys=>if xs.length+ys.length<=qk then qq (.list (xs++ys)) else qz
 | _,_=>qz
noncomputable def aDp:D->D->Option D
 | .int i,.int j=>if oK i j=true then qq (.int (i*j)) else qz
 | .list xs,.int k=>if k<2^63 /\ -(2^63)<=k/\xs.length*k.toNat<=qk then qq (.list (wQ k.toNat xs)) else qz
 | .tuple [x],.int k=>if 0<=k/\k<=1000 then qq (.tuple (yAd k.toNat x)) else qz
 | _,_=>qz
noncomputable def i2{α:Type}(f:Int->Int->Option α):D->D->Option α
 | .int i,.int j=>f i j
 | _,_=>qz
theorem kY{α:Type}{f:Int->Int->Option α}{i j:Int}:i2 f (.int i) (.int j)=f i j:=rfl
theorem iH{α:Type}{f:Int->Int->Option α}{x y:D}{z:α}(h:i2 f x y=qq z):∃ i j,x=.int i/\y=.int j/\f i j=qq z:=by
 cases x<;>first | (cases h;done) | skip
 cases y<;>first | (cases h;done) | exact⟨_,_,rfl,rfl,h⟩
noncomputable def sA:D->Bool
 | .none=>true
 | _=>false
theorem aGI{x:D}(h:sA x=true):x=.none:=by cases x<;>first | rfl | cases h
noncomputable def bS(op:jo)(x y:D):Option D:=match op with
 | .Add=>aDk x y
 | .Sub=>i2 (λ i j=>qq (.int (i-j))) x y
 | .Mult=>aDp x y
 | .MatMult=>qz
 | .Div=>qz
 | .Mod=>i2 (λ i j=>if j≠0 then qq (.int (i.fmod j)) else qz) x y
 | .Pow=>i2 (λ i j=>if 0<=j/\j<=1000000/\i.natAbs<2^64 then qq (.int (i^j.toNat)) else qz) x y
 | .LShift=>i2 (λ i j=>if 0<=j/\(yAk i:Int)+j<=2^27 then qq (.int (i*2^j.toNat)) else qz) x y
 | .RShift=>i2 (λ i j=>if 0<=j then qq (.int (i/2^j.toNat)) else qz) x y
 | .BitOr=>i2 (λ i j=>qq (.int (yGu i j))) x y
 | .BitXor=>i2 (λ i j=>qq (.int (yGn i j))) x y
 | .BitAnd=>i2 (λ i j=>qq (.int (yDu i j))) x y
 | .FloorDiv=>i2 (λ i j=>if j≠0/\yCr i j=false then qq (.int (i.fdiv j)) else qz) x y
noncomputable def oS:yz->D->Option D
 | .USub,.int i=>qq (.int (-i))
 | .Invert,.int i=>qq (.int (yBp i))
 | _,_=>qz
noncomputable def iZ:D->Bool
 | .none | .bool _ | .int _ | .str _=>true
 | _=>false
noncomputable def pM:List D->Bool
 | []=>true
 | d::r=>iZ d&&pM r
noncomputable def inD(x:D):List D->Bool
 | []=>false
 | y::r=>yCg y x||inD x r
noncomputable def aDa:D->Option (List D)
 | .list xs=>qq xs
 | .tuple xs=>qq xs
 | _=>qz
noncomputable def qI(op:vj)(x y:D):Option Bool:=match op with
 | .Eq=>if x.canLay0=true/\y.canLay0=true/\x.depth<=60 then qq (yCg x y) else qz
 | .NotEq=>if x.canLay0=true/\y.canLay0=true/\x.depth<=60 then qq (!yCg x y) else qz
 | .Lt=>i2 (λ i j=>qq (decide (i<j))) x y
 | .LtE=>i2 (λ i j=>qq (decide (i<=j))) x y
 | .Gt=>i2 (λ i j=>qq (decide (j<i))) x y
 | .GtE=>i2 (λ i j=>qq (decide (j<=i))) x y
 | .Is=>if sA y=true then qq (sA x) else qz
 | .IsNot=>if sA y=true then qq (!sA x) else qz
 | .In=>(aDa y).bind λ ys=>if iZ x=true/\pM ys=true then qq (inD x ys) else qz
 | .NotIn=>(aDa y).bind λ ys=>if iZ x=true/\pM ys=true then qq (!inD x ys) else qz
noncomputable def qJ:D->Option Bool
 | .none=>qq false
 | .bool b=>qq b
 | .int i=>qq (i != 0)
 | .str x=>if x.length<=qk then qq ((x.length:Int) != 0) else qz
 | .list xs=>qq (!xs.isEmpty)
 | .tuple xs=>qq (!xs.isEmpty)
 | .dict _=>qz
section
variable {X : Cx}{aB : List (qv×Obj)}{s : qj}{σ : L2.St}{H : Hp}{x y : V}{v u : qx}{Q : VK}{F : Hp}{L : List qv}{S : aC}{dx dy z : D}
abbrev fJ(X:Cx)(F:Hp)(L:List qv)(S:aC)(z:D)(Q:VK):Prop:=∀ F' H' r,bZ F F'->Rel X.K F' L S H'->Den X.K F' z r->Q r H'
abbrev aA8(X:Cx)(F:Hp)(H:Hp)(zs:List D)(Q:VK):Prop:=∀ p xs,H p=qz->DenL X.K F zs xs->Q (.ref p) (bE H p (.lst xs))
theorem fJ.here(R:Rel X.K F L S H)(q:fJ X F L S z Q){r:V}(h:Den X.K F z r):Q r H:=q F H r (bZ.refl _) R h
theorem aA8.out{zs:List D}(R:Rel X.K F L S H)(q:fJ X F L S (.list zs) Q):aA8 X F H zs Q:=λ p xs hp dl =>
 q _ _ _ (eM (R.sub.free hp)) (R.new hp) (.lst (bY.of dE) (dl.mono (eM (R.sub.free hp))))
theorem fJ.tup{zs:List D}(R:Rel X.K F L S H)(q:fJ X F L S (.tuple zs) Q){p:qv}{xs:List V}(hp:H p=qz)(dl:DenL X.K F zs xs):Q (.ref p) (bE H p (.tup xs)):=
 q _ _ _ (eM (R.sub.free hp)) (R.new hp) (.tup (cF.of dE) (dl.mono (eM (R.sub.free hp))))
theorem aVV{a b:qv}{xs ys:List V}(I:Inv X aB σ H s)(ha:bY X.K H a xs)(hb:bY X.K H b ys)(hz:xs.length+ys.length<=qk)
 (q:∀ p,H p=qz->Q (.ref p) (bE H p (.lst (xs++ys)))):qy (model X.prog X.w) X.A (zo .Add (.ref a) (.ref b)) (EP X aB σ Q) X.xe s:=by
 obtain⟨aF,r1,p1,_⟩:=I.list ha;obtain⟨eJ,r2,p2,_⟩:=I.list hb;obtain⟨⟨cls,dd,data,sl⟩,ho,hc,n,hd⟩:=p1.isList;obtain⟨⟨cls2,dd2,data2,sl2⟩,ho2,hc2,n2,hd2⟩:=p2.isList;simp only at hc hd hc2 hd2;subst hc hd hc2 hd2;have e:aF.toArray++eJ.toArray=(aF++eJ).toArray:=by simp
 refine concat_meets ⟨_,ho,rfl⟩ ⟨_,ho2,rfl⟩ noFill_list_add seq_list_add PySem.F.slot_list_add PySem.F.entry_list_add (PySem.F.args_list_add_2 _ _) (list_addW a b aF.toArray eJ.toArray n n2 dd dd2 sl sl2 (by rw[yAe,yAe,<- r1.length,<- r2.length];exact hz)) ⟨ho,ho2,?_⟩
 rw[e];exact⟨.ref _,_,I.lnew (t':=s.toks) (r1.append r2) (by rw[xAo];omega),rfl,q _ I.fresh⟩
theorem aKg{a:qv}{xs:List V}{k:Int}{t:Tok}(I:Inv X aB σ H s)(ha:bY X.K H a xs)(h1 : -(2^63)<=k)(h2:k<2^63)(hz:xs.length*k.toNat<=qk)
 (q:∀ p,H p=qz->Q (.ref p) (bE H p (.lst (yAd k.toNat xs).flatten))):qy (model X.prog X.w) X.A (zo .Mult (.ref a) (.int k t)) (EP X aB σ Q) X.xe s:=by
 obtain⟨aF,r1,p1,_⟩:=I.list ha;obtain⟨⟨cls,d,data,sl⟩,ho,hcl,n,hd⟩:=p1.isList;simp only at hcl hd;subst hcl hd;have hsz:aF.toArray.size*k.toNat<=2^24:=by
  rw[yAe,<- r1.length];have:qk=2^24:=rfl;rw[<- this];exact hz
 refine yv (T:="list") (U:="int") (by decide) ⟨_,ho,rfl⟩ (λ s'=>yj s' k t) noFill_list_mul PySem.F.fills_int_mul yEa repeat_list PySem.F.slot_int_index.lookup
  (wj yEa (yj s k t) PySem.F.entry_int_rmul (PySem.F.args_int_rmul_2 _ _) (lm_int_rmul_list_any k t a aF.toArray n d sl)
    ⟨ho,rfl,⟨_,ho,rfl⟩,wj PySem.F.slot_list_mul ⟨_,ho,rfl⟩ PySem.F.entry_list_mul (PySem.F.args_list_mul_2 _ _)
     (lm_list_mul_any a aF.toArray n d sl k t (by simp[Builtin.List.listFitsIndex];omega) (by omega) (by simp[Builtin.List.listTooLong,qk];simpa using hsz))
     ⟨ho,?_⟩⟩)
 rw[listMul_foldl_if];exact⟨.ref _,_,I.lnew (t':=s.toks) (r1.rep k.toNat) (by rw[aPh,yHh];exact hz),rfl,q _ I.fresh⟩
theorem aSQ{a b:qv}{ys:List V}(I:Inv X aB σ H s)(ha:cF X.K H a [])(hb:cF X.K H b ys)(q:Q (.ref b) H):qy (model X.prog X.w) X.A (zo .Add (.ref a) (.ref b)) (EP X aB σ Q) X.xe s:=by
 obtain⟨aF,r1,p1,_⟩:=I.tuple ha;obtain⟨eJ,r2,p2,_⟩:=I.tuple hb;cases r1;obtain⟨⟨cls,dd,data,sl⟩,ho,hc,n,hd⟩:=p1;obtain⟨⟨cls2,dd2,data2,sl2⟩,ho2,hc2,n2,hd2⟩:=p2;simp only at hc hd hc2 hd2;subst hc hd hc2 hd2;exact concat_meets ⟨_,ho,rfl⟩ ⟨_,ho2,rfl⟩ noFill_tuple_add seq_tuple_add yFn yFd (yEw _ _) (tuple_addW0 a b _ eJ.toArray n n2 dd dd2 sl sl2 rfl) ⟨ho,ho2,⟨.ref b,H,I,rfl,q⟩⟩
theorem aRV(I:Inv X aB σ H s)(rx:aZ x v)(ry:aZ y u)(R:Rel X.K F L S H)(nx:bQ X.K F H dx x)(ny:bQ X.K F H dy y)(e:aDk dx dy=qq z)(q:fJ X F L S z Q) :
 qy (model X.prog X.w) X.A (zo .Add v u) (EP X aB σ Q) X.xe s:=by
 unfold aDk at e
 split at e
 ·rename_i i j;cases e;exact aRP aB s σ H x y v u Q I rx ry ⟨i,j,nx.int,ny.int,q.here R (.int _)⟩
 ·rename_i a b
  split at e
  ·rename_i c;cases e;exact aLJ aB s σ H x y v u Q I rx ry ⟨a,b,nx.str,ny.str,c,q.here R (.str _)⟩
  ·cases e
 ·rename_i ys;cases e;obtain⟨a,vs,rfl,h1,d1⟩:=nx.tup R.sub;obtain⟨b,ws,rfl,h2,d2⟩:=ny.tup R.sub;cases d1;cases rx;cases ry;refine aSQ I h1 h2 (q F H _ (bZ.refl _) R ?_);rcases ny with ny | ⟨_,_,_,e,_⟩
  ·exact ny
  ·cases e
 ·rename_i xs ys _
  split at e
  ·rename_i c;cases e;obtain⟨a,vs,rfl,h1,d1⟩:=nx.tup R.sub;obtain⟨b,ws,rfl,h2,d2⟩:=ny.tup R.sub;have hne:vs≠[]:=λ z=>by
    have:=d1.length;rw[z] at this;cases xs with
    | nil=>simp at c
    | cons _ _=>simp at this
   refine aP2 aB s σ H _ _ v u Q I rx ry ⟨a,b,vs,ws,rfl,rfl,h1,h2,hne,by rw[<- d1.length,<- d2.length];exact c.2,λ z=>?_,λ z p hp=>?_⟩
   ·have:ys=[]:=by
     have h:=d2.length;rw[z] at h;exact List.eq_nil_of_length_eq_zero h
    subst this;refine q F H _ (bZ.refl _) R ?_;rw[yDy];rcases nx with nx | ⟨_,_,_,e,_⟩
    ·exact nx
    ·cases e
   ·exact q.tup R hp (d1.append d2)
  ·cases e
 ·rename_i xs ys
  split at e
  ·rename_i c;cases e;obtain⟨a,vs,rfl,h1,d1⟩:=nx.lst R.sub;obtain⟨b,ws,rfl,h2,d2⟩:=ny.lst R.sub;cases rx;cases ry;exact aVV I h1 h2 (by rw[<- d1.length,<- d2.length];exact c) λ p hp=>aA8.out R q p _ hp (d1.append d2)
  ·cases e
 ·cases e
theorem aHy{K:FrG}{F:Hp}{x:D}{v:V}(h:Den K F x v):∀ k:Nat,DenL K F (yAd k x) (yAd k v)
 | 0=>.nil
 | k+1=>.cons h (aHy h k)
theorem aQF(I:Inv X aB σ H s)(rx:aZ x v)(ry:aZ y u)(R:Rel X.K F L S H)(nx:bQ X.K F H dx x)(ny:bQ X.K F H dy y)(e:aDp dx dy=qq z)(q:fJ X F L S z Q) :
 qy (model X.prog X.w) X.A (zo .Mult v u) (EP X aB σ Q) X.xe s:=by
 unfold aDp at e
 split at e
 ·rename_i i j
  split at e
  ·rename_i c;cases e;obtain rfl:=nx.int;obtain rfl:=ny.int;obtain⟨t,rfl⟩:=rx;obtain⟨t',rfl⟩:=ry;refine PyProof.Rows.mul_int ⟨.int (i*j),H,I.tok _,⟨_,rfl⟩,q.here R (.int _)⟩ ?_;unfold IntMulOk;unfold oK at c;intro z;rw[z] at c;cases c
  ·cases e
 ·rename_i xs k
  split at e
  ·rename_i c;cases e;obtain⟨a,vs,rfl,h1,d1⟩:=nx.lst R.sub;obtain rfl:=ny.int;cases rx;obtain⟨t',rfl⟩:=ry;exact aKg I h1 c.2.1 c.1 (by rw[<- d1.length];exact c.2.2) λ p hp=>aA8.out R q p _ hp (d1.rep _)
  ·cases e
 ·rename_i xd k
  split at e
  ·rename_i c;cases e;obtain⟨a,vs,rfl,h1,d1⟩:=nx.tup R.sub;obtain rfl:=ny.int;cases rx;obtain⟨t',rfl⟩:=ry;obtain⟨kk,rfl⟩:∃ kk:Nat,k=(kk:Nat):=⟨k.toNat,by omega⟩
   rw[yAr] at q;cases d1 with
   | cons dx dn =>
     cases dn;refine aWs I h1 (by omega) (λ hk=>?_) λ p hp=>fJ.tup R q hp (aHy dx kk)
     subst hk;refine q F H _ (bZ.refl _) R ?_;rcases nx with nx | ⟨_,_,_,z,_⟩
     ·exact nx
     ·cases z
  ·cases e
 ·cases e
theorem vK{op:jo}{C:Int->Int->Prop}{g:Int->Int->Int}(rule:cJ X (zo op) (rI C λ i j=>.int (g i j))){i j:Int}(c:C i j)(I:Inv X aB σ H s)(rx:aZ x v)(ry:aZ y u)(R:Rel X.K F L S H)
 (nx:bQ X.K F H (.int i) x) (ny:bQ X.K F H (.int j) y) (q:fJ X F L S (.int (g i j)) Q) :
 qy (model X.prog X.w) X.A (zo op v u) (EP X aB σ Q) X.xe s:=
 rule aB s σ H x y v u Q I rx ry ⟨i,j,nx.int,ny.int,c,q.here R (.int _)⟩
theorem zR{op:jo}{g:Int->Int->Int}(rule:cJ X (zo op) (jL λ i j=>.int (g i j))){i j:Int}(I:Inv X aB σ H s)(rx:aZ x v)(ry:aZ y u)(R:Rel X.K F L S H)
 (nx:bQ X.K F H (.int i) x) (ny:bQ X.K F H (.int j) y) (q:fJ X F L S (.int (g i j)) Q) :
 qy (model X.prog X.w) X.A (zo op v u) (EP X aB σ Q) X.xe s:=
 rule aB s σ H x y v u Q I rx ry ⟨i,j,nx.int,ny.int,q.here R (.int _)⟩
theorem aOZ:cJ X (zo .FloorDiv) (rI (λ i j=>j≠0/\yCr i j=false) λ i j=>.int (i.fdiv j)):=xF λ _ _ _ _ _ _ _ hc q=>floordiv_int hc.1 q (.inl hc.2)
theorem aUu:cJ X (zo .LShift) (rI (λ i j=>0<=j/\(yAk i:Int)+j<=2^27) λ i j=>.int (i*2^j.toNat)):=xF λ _ _ _ _ _ _ _ hc q=>lshift_int hc.1 hc.2 q
theorem bind_some{α β:Type}{o:Option α}{f:α->Option β}{b:β}(h:o.bind f=qq b):∃ a,o=qq a/\f a=qq b:=by
 cases o with
 | none=>cases h
 | some a=>exact⟨a,rfl,h⟩
theorem jT{α:Type}{p:Prop} [Decidable p]{a z:α}(h:(if p then qq a else qz)=qq z):p/\a=z:=by
 split at h
 ·rename_i c;cases h;exact⟨c,rfl⟩
 ·cases h
theorem aQp{op:jo}(I:Inv X aB σ H s)(rx:aZ x v)(ry:aZ y u)(R:Rel X.K F L S H)(nx:bQ X.K F H dx x)(ny:bQ X.K F H dy y)(e:bS op dx dy=qq z)(q:fJ X F L S z Q) :
 qy (model X.prog X.w) X.A (zo op v u) (EP X aB σ Q) X.xe s:=by
 cases op with
 | Add=>exact aRV I rx ry R nx ny e q
 | Mult=>exact aQF I rx ry R nx ny e q
 | MatMult=>cases e
 | Div=>cases e
 | Sub=>obtain⟨i,j,rfl,rfl,e⟩:=iH e;cases e;exact zR aRF I rx ry R nx ny q
 | BitAnd=>obtain⟨i,j,rfl,rfl,e⟩:=iH e;cases e;exact zR aR6 I rx ry R nx ny q
 | BitOr=>obtain⟨i,j,rfl,rfl,e⟩:=iH e;cases e;exact zR aTx I rx ry R nx ny q
 | BitXor=>obtain⟨i,j,rfl,rfl,e⟩:=iH e;cases e;exact zR aRI I rx ry R nx ny q
 | FloorDiv=>obtain⟨i,j,rfl,rfl,e⟩:=iH e;obtain⟨c,rfl⟩:=jT e;exact vK aOZ c I rx ry R nx ny q
 | Mod=>obtain⟨i,j,rfl,rfl,e⟩:=iH e;obtain⟨c,rfl⟩:=jT e;exact vK aOQ c I rx ry R nx ny q
 | Pow=>obtain⟨i,j,rfl,rfl,e⟩:=iH e;obtain⟨c,rfl⟩:=jT e;exact vK aSG c I rx ry R nx ny q
 | LShift=>obtain⟨i,j,rfl,rfl,e⟩:=iH e;obtain⟨c,rfl⟩:=jT e;exact vK aUu c I rx ry R nx ny q
 | RShift=>obtain⟨i,j,rfl,rfl,e⟩:=iH e;obtain⟨c,rfl⟩:=jT e;exact vK aSu c I rx ry R nx ny q
theorem aSP{op:yz}(I:Inv X aB σ H s)(rx:aZ x v)(R:Rel X.K F L S H)(nx:bQ X.K F H dx x)(e:oS op dx=qq z)(q:fJ X F L S z Q) :
 qy (model X.prog X.w) X.A (unaryOp op v) (EP X aB σ Q) X.xe s:=by
 unfold oS at e
 split at e
 ·cases e;exact aQk aB s σ H x v Q I rx ⟨_,nx.int,q.here R (.int _)⟩
 ·cases e;exact aQJ aB s σ H x v Q I rx ⟨_,nx.int,q.here R (.int _)⟩
 ·cases e
mutual
theorem aFB(I:Inv X aB σ H s)(sb:bZ F H):∀ {d:D}{x:V}{v:qx},Den X.K F d x->aZ x v->∃ as,Reads s.heap v d as
 | _,_,v,.non,r=>by cases (show v=Value.none from r);exact⟨_,.none⟩
 | _,_,v,.bl b,r=>by cases (show v=Value.bool b from r);exact⟨_,.bool b⟩
 | _,_,v,.int i,r=>by obtain⟨t,rfl⟩:=(show ∃ t,v=Value.int i t from r);exact⟨_,.int i t⟩
 | _,_,v,.str y,r=>by obtain⟨t,rfl⟩:=(show ∃ t,v=Value.str y t from r);exact⟨_,.str y t⟩
 | _,_,v,.lst (a:=a) h dl,r=>by
   cases (show v=Value.ref a from r)
   obtain⟨aF,rv,p1,_⟩:=I.list (sb.seq h);obtain⟨o,ho,hc,n,hd⟩:=p1.isList;obtain⟨as,ra⟩:=yJ I sb dl rv;exact⟨_,.list ho hc hd (by simpa using ra)⟩
 | _,_,v,.tup (a:=a) h dl,r=>by
   cases (show v=Value.ref a from r)
   obtain⟨aF,rv,p1,_⟩:=I.tuple (mP sb h);obtain⟨o,ho,hc,n,hd⟩:=p1;obtain⟨as,ra⟩:=yJ I sb dl rv;exact⟨_,.tuple ho hc hd (by simpa using ra)⟩
theorem yJ(I:Inv X aB σ H s)(sb:bZ F H):∀ {ds:List D}{xs:List V}{us:List qx},DenL X.K F ds xs->aS xs us->∃ as,ReadsAll s.heap us ds as
 | _,_,_,.nil,r=>by cases r;exact⟨_,.nil⟩
 | _,_,_,.cons h dl,.cons r rs=>by
   obtain⟨as,ra⟩:=aFB I sb h r;obtain⟨bs,rb⟩:=yJ I sb dl rs;exact⟨_,.cons ra rb⟩
end
theorem zB(I:Inv X aB σ H s)(R:Rel X.K F L S H)(rx:aZ x v)(nx:bQ X.K F H dx x):∃ as,Reads s.heap v dx as:=by
 rcases nx with nx | ⟨ds,a,xs,rfl,rfl,e,dl⟩
 ·exact aFB I R.sub nx rx
 ·cases rx;obtain⟨aF,rv,p1,_⟩:=I.list (bY.of e);obtain⟨o,ho,hc,n,hd⟩:=p1.isList;obtain⟨as,ra⟩:=yJ I R.sub dl rv;exact⟨_,.list ho hc hd (by simpa using ra)⟩
theorem aUm(hu:X.A.units+64<cLine)(I:Inv X aB σ H s)(rx:aZ x v)(ry:aZ y u)(R:Rel X.K F L S H)(nx:bQ X.K F H dx x)(ny:bQ X.K F H dy y)
 (c1:dx.canLay0=true) (c2:dy.canLay0=true) (c3:dx.depth<=60) (q:Q (.bl (yCg dx dy)) H):qy (model X.prog X.w) X.A (jx .Eq v u) (EP X aB σ Q) X.xe s:=by
 obtain⟨as,ra⟩:=zB I R rx nx;obtain⟨bs,rb⟩:=zB I R ry ny;refine SeqAt.compareEq_reads ra rb c1 c2 ?_ ⟨.bl _,H,I,rfl,q⟩;have:min dx.depth dy.depth<=dx.depth:=Nat.min_le_left _ _;omega
theorem aSR(hu:X.A.units+64<cLine)(I:Inv X aB σ H s)(rx:aZ x v)(ry:aZ y u)(R:Rel X.K F L S H)(nx:bQ X.K F H dx x)(ny:bQ X.K F H dy y)
 (c1:dx.canLay0=true) (c2:dy.canLay0=true) (c3:dx.depth<=60) (q:Q (.bl (!yCg dx dy)) H):qy (model X.prog X.w) X.A (jx .NotEq v u) (EP X aB σ Q) X.xe s:=by
 obtain⟨as,ra⟩:=zB I R rx nx;obtain⟨bs,rb⟩:=zB I R ry ny;refine SeqAt.compareNe_reads ra rb c1 c2 ?_ ⟨.bl _,H,I,rfl,q⟩;have:min dx.depth dy.depth<=dx.depth:=Nat.min_le_left _ _;omega
end
theorem aN9{K:FrG}{F:Hp}{d e:D}{x y:V}(h1:Den K F d x)(h2:Den K F e y)(f1:iZ d=true)(f2:iZ e=true):nN x y=yCg d e:=by
 cases h1<;>first | (simp[iZ] at f1;done) | skip
 all_goals cases h2<;>first | (simp[iZ] at f2;done) | rfl | skip
theorem aB4{K:FrG}{F:Hp}{d:D}{x:V}(h1:Den K F d x)(f1:iZ d=true):lC x=true:=by
 cases h1<;>first | rfl | (simp[iZ] at f1;done)
theorem aCe{K:FrG}{F:Hp}:∀ {ds:List D}{xs:List V},DenL K F ds xs->pM ds=true->xs.all lC=true
 | _,_,.nil,_=>rfl
 | _,_,.cons h r,f=>by
   simp only[pM,yAt] at f;rw[List.all_cons,aB4 h f.1,aCe r f.2];rfl
theorem aCi{K:FrG}{F:Hp}{e:D}{y:V}(h2:Den K F e y)(f2:iZ e=true):∀ {ds:List D}{xs:List V},DenL K F ds xs->pM ds=true->sW y xs=inD e ds
 | _,_,.nil,_=>rfl
 | _,_,.cons h r,f=>by
   simp only[pM,yAt] at f;have ih:=aCi h2 f2 r f.2;unfold sW at ih ⊢;rw[List.any_cons,ih,aN9 h h2 f.1 f2];rfl
section
variable {X : Cx}{aB : List (qv×Obj)}{s : qj}{σ : L2.St}{H : Hp}{x y : V}{v u : qx}{Q : VK}{F : Hp}{L : List qv}{S : aC}{dx dy : D}{b : Bool}
theorem bQ.flat{d:D}{z:V}(h:bQ X.K F H d z)(f:iZ d=true):Den X.K F d z:=by
 rcases h with h | ⟨ds,_,_,rfl,_⟩
 ·exact h
 ·simp[iZ] at f
theorem aHh{d:D}{ys:List D}{z:V}(sb:bZ F H)(h:bQ X.K F H d z)(e:aDa d=qq ys):∃ p xs,z=.ref p/\(bY X.K H p xs\/cF X.K H p xs)/\DenL X.K F ys xs:=by
 cases d with
 | list l=>cases e;obtain⟨a,xs,e1,q,dl⟩:=h.lst sb;exact⟨a,xs,e1,.inl q,dl⟩
 | tuple l=>cases e;obtain⟨a,xs,e1,q,dl⟩:=h.tup sb;exact⟨a,xs,e1,.inr q,dl⟩
 | _=>cases e
theorem aGT(R:Rel X.K F L S H)(nx:bQ X.K F H dx x):decide (x=.non)=sA dx:=by
 cases dx with
 | none=>rw[nx.non];rfl
 | bool c=>rw[nx.bl];rfl
 | int c=>rw[nx.int];rfl
 | str c=>rw[nx.str];rfl
 | list c=>obtain⟨a,xs,rfl,_⟩:=nx.lst R.sub;rfl
 | tuple c=>obtain⟨a,xs,rfl,_⟩:=nx.tup R.sub;rfl
 | dict c=>exact nx.dict.elim
theorem aSt{op:vj}(hu:X.A.units+64<cLine)(I:Inv X aB σ H s)(rx:aZ x v)(ry:aZ y u)(R:Rel X.K F L S H)(nx:bQ X.K F H dx x)(ny:bQ X.K F H dy y)(e:qI op dx dy=qq b)(q:Q (.bl b) H) :
 qy (model X.prog X.w) X.A (jx op v u) (EP X aB σ Q) X.xe s:=by
 cases op with
 | Lt=>obtain⟨i,j,rfl,rfl,e⟩:=iH e;cases e;exact aSY aB s σ H x y v u Q I rx ry ⟨_,_,nx.int,ny.int,q⟩
 | LtE=>obtain⟨i,j,rfl,rfl,e⟩:=iH e;cases e;exact aT8 aB s σ H x y v u Q I rx ry ⟨_,_,nx.int,ny.int,q⟩
 | Gt=>obtain⟨i,j,rfl,rfl,e⟩:=iH e;cases e;exact aS8 aB s σ H x y v u Q I rx ry ⟨_,_,nx.int,ny.int,q⟩
 | GtE=>obtain⟨i,j,rfl,rfl,e⟩:=iH e;cases e;exact aUY aB s σ H x y v u Q I rx ry ⟨_,_,nx.int,ny.int,q⟩
 | Eq=>obtain⟨c,rfl⟩:=jT e;exact aUm hu I rx ry R nx ny c.1 c.2.1 c.2.2 q
 | NotEq=>obtain⟨c,rfl⟩:=jT e;exact aSR hu I rx ry R nx ny c.1 c.2.1 c.2.2 q
 | Is =>
   obtain⟨c,rfl⟩:=jT e;cases aGI c;exact aQI aB s σ H x y v u Q I rx ry ⟨ny.non,by rw[aGT R nx];exact q⟩
 | IsNot =>
   obtain⟨c,rfl⟩:=jT e;cases aGI c;exact aO5 aB s σ H x y v u Q I rx ry ⟨ny.non,by rw[aGT R nx];exact q⟩
 | In =>
   obtain⟨ys,hs,e⟩:=bind_some e;obtain⟨c,rfl⟩:=jT e;obtain⟨p,xs,e1,sq,dl⟩:=aHh R.sub ny hs;refine aMY aB s σ H x y v u Q I rx ry ⟨p,xs,e1,sq,aB4 (nx.flat c.1) c.1,aCe dl c.2,?_⟩;show Q (.bl (sW x xs)) H;rw[aCi (nx.flat c.1) c.1 dl c.2];exact q
 | NotIn =>
   obtain⟨ys,hs,e⟩:=bind_some e;obtain⟨c,rfl⟩:=jT e;obtain⟨p,xs,e1,sq,dl⟩:=aHh R.sub ny hs;refine aLh aB s σ H x y v u Q I rx ry ⟨p,xs,e1,sq,aB4 (nx.flat c.1) c.1,aCe dl c.2,?_⟩;show Q (.bl (!sW x xs)) H;rw[aCi (nx.flat c.1) c.1 dl c.2];exact q
theorem aEJ{K:FrG}{ds:List D}{xs:List V}(h:DenL K F ds xs):xs.isEmpty=ds.isEmpty:=by cases h<;>rfl
theorem aPc{b:Bool}(R:Rel X.K F L S H)(nx:bQ X.K F H dx x)(e:qJ dx=qq b):aDv X.K x H b:=by
 cases dx with
 | none=>cases e;rw[nx.non];exact rfl
 | bool c=>cases e;rw[nx.bl];exact rfl
 | int c=>cases e;rw[nx.int];exact rfl
 | str c =>
   rw[nx.str];have e':(if c.length<=qk then qq ((c.length:Int) != 0) else qz)=qq b:=e
   split at e'
   ·rename_i h;cases e';exact⟨h,rfl⟩
   ·cases e'
 | list c=>cases e;obtain⟨a,xs,rfl,sq,dl⟩:=nx.lst R.sub;exact .inl ⟨xs,sq,by rw[aEJ dl]⟩
 | tuple c=>cases e;obtain⟨a,xs,rfl,sq,dl⟩:=nx.tup R.sub;exact .inr (.inl ⟨xs,sq,by rw[aEJ dl]⟩)
 | dict c=>cases e
end
abbrev FE:=aX->aC->Option (W×aC)
abbrev FT:=aX->aC->Option (Bool×aC)
abbrev FA:=aX->aC->Option (List W×aC)
abbrev FL:=aX->aC->Option (List D×aC)
inductive Fl where
 | nx (env:aX) | rt (w:W) | bk (env:aX) | ct (env:aX)
abbrev FS:=aX->aC->Option (Fl×aC)
inductive WDenL (K:FrG) (F:Hp) (L:List qv):List W->List V->Prop
 | nil:WDenL K F L [] []
 | cons {w:W}{ws:List W}{x:V}{xs:List V}:eH K F L w x->WDenL K F L ws xs->WDenL K F L (w::ws) (x::xs)
theorem WDenL.mono{K:FrG}{F F':Hp}{L L':List qv}(g:Gr F L F' L'):∀ {ws:List W}{xs:List V},WDenL K F L ws xs->WDenL K F' L' ws xs
 | _,_,.nil=>.nil
 | _,_,.cons h r=>.cons (h.mono g) (r.mono g)
theorem WDenL.length{K:FrG}{F:Hp}{L:List qv}:∀ {ws:List W}{xs:List V},WDenL K F L ws xs->ws.length=xs.length
 | _,_,.nil=>rfl
 | _,_,.cons _ r=>congrArg (· + 1) r.length
section
variable (K : FrG)
def aV(f:FE):TE:=λ σ H Q=>∃ F L S env w S',Rel K F L S H/\EnvR K F L env σ/\f env S=qq (w,S')/\∀ F' L' H' v,Gr F L F' L'->Rel K F' L' S' H'->eH K F' L' w v->Q v H'
def fL(f:FT):TT:=λ σ H Q=>∃ F L S env b S',Rel K F L S H/\EnvR K F L env σ/\f env S=qq (b,S')/\∀ F' L' H',Gr F L F' L'->Rel K F' L' S' H'->Q b H'
def hU(f:FA):TA:=λ σ H Q=>∃ F L S env ws S',Rel K F L S H/\EnvR K F L env σ/\f env S=qq (ws,S')/\∀ F' L' H' vs,Gr F L F' L'->Rel K F' L' S' H'->WDenL K F' L' ws vs->Q vs H'
def iA(f:FL):TE:=λ σ H Q=>∃ F L S env ds S',Rel K F L S H/\EnvR K F L env σ/\f env S=qq (ds,S')/\∀ F' L' H' p xs,Gr F L F' L'->Rel K F' L' S' H'->F' p=qz->p ∉ L'->H' p=qq (.lst xs)->DenL K F' ds xs->Q (.ref p) H'
def dL(f:FS):TS:=λ D σ H=>∃ F L S env fl S',Rel K F L S H/\EnvR K F L env σ/\f env S=qq (fl,S')/\∀ F' L' H',Gr F L F' L'->Rel K F' L' S' H'->match fl with
 | .nx aN=>∀ σ',EnvR K F' L' aN σ'->D.nx σ' H'
 | .rt w=>∀ v,eH K F' L' w v->D.rt v H'
 | .bk aN=>∀ σ',EnvR K F' L' aN σ'->D.bk σ' H'
 | .ct aN=>∀ σ',EnvR K F' L' aN σ'->D.ct σ' H'
end
section
variable {X : Cx}
theorem PE.weak{e:qw}{t t':TE}(h:PE X e t)(w:∀ σ H Q,t' σ H Q->t σ H Q):PE X e t':=λ aB s σ H Q I q=>h aB s σ H Q I (w σ H Q q)
theorem PT.weak{e:qw}{t t':TT}(h:PT X e t)(w:∀ σ H Q,t' σ H Q->t σ H Q):PT X e t':=λ aB s σ H Q I q=>h aB s σ H Q I (w σ H Q q)
theorem PW.weak{e:qw}{t t':TT}(h:PW X e t)(w:∀ σ H Q,t' σ H Q->t σ H Q):PW X e t':=λ wh aB s σ H Q I q=>h wh aB s σ H Q I (w σ H Q q)
theorem PA.weak{e:List qw}{t t':TA}(h:PA X e t)(w:∀ σ H Q,t' σ H Q->t σ H Q):PA X e t':=λ pos aB s σ H Q I q=>h pos aB s σ H Q I (w σ H Q q)
theorem PS.weak{e:jz}{t t':TS}(h:PS X e t)(w:∀ D σ H,t' D σ H->t D σ H):PS X e t':=λ aB s σ H D I q=>h aB s σ H D I (w D σ H q)
theorem dU.weak{e:List jz}{t t':TS}(h:dU X e t)(w:∀ D σ H,t' D σ H->t D σ H):dU X e t':=λ aB s σ H D I q=>h aB s σ H D I (w D σ H q)
abbrev sH(K:FrG)(F:Hp)(L:List qv)(S':aC)(w:W)(Q:VK):Prop:=∀ F' L' H' v,Gr F L F' L'->Rel K F' L' S' H'->eH K F' L' w v->Q v H'
noncomputable def f2(fa fb:FE)(g:aC->W->W->Option (W×aC)):FE:=λ env S=>(fa env S).bind λ p=>(fb env p.2).bind λ q=>g q.2 p.1 q.1
noncomputable def f1(fa:FE)(g:aC->W->Option (W×aC)):FE:=λ env S=>(fa env S).bind λ p=>g p.2 p.1
theorem aBb{K:FrG}{fa fb:FE}{g:aC->W->W->Option (W×aC)}{r:R2}
 (hr:∀ F L S H x y wx wy w S' Q,Rel K F L S H->eH K F L wx x->eH K F L wy y->g S wx wy=qq (w,S')->sH K F L S' w Q->r x y H Q)
 (σ:St) (H:Hp) (Q:VK) (h:aV K (f2 fa fb g) σ H Q):xO r (aV K fa) (aV K fb) σ H Q:=by
 obtain⟨F,L,S,env,w,S',R,E,e,q⟩:=h;unfold f2 at e;cases ea:fa env S with
 | none=>rw[ea] at e;cases e
 | some p =>
   obtain⟨wx,S1⟩:=p;rw[ea] at e;dsimp only[yCx] at e;cases eb:fb env S1 with
   | none=>rw[eb] at e;cases e
   | some p2 =>
     obtain⟨wy,S2⟩:=p2;rw[eb] at e;dsimp only at e;refine⟨F,L,S,env,wx,S1,R,E,ea,λ F1 L1 H1 x g1 R1 d1=>⟨F1,L1,S1,env,wy,S2,R1,E.mono g1,eb,λ F2 L2 H2 y g2 R2 d2=>?_⟩⟩
     exact hr F2 L2 S2 H2 x y wx wy w S' Q R2 (d1.mono g2) d2 e λ F3 L3 H3 v g3 R3 d3=>q F3 L3 H3 v ((g1.trans g2).trans g3) R3 d3
theorem aWe{K:FrG}{fa:FE}{g:aC->W->Option (W×aC)}{r:V->Hp->VK->Prop}
 (hr:∀ F L S H x wx w S' Q,Rel K F L S H->eH K F L wx x->g S wx=qq (w,S')->sH K F L S' w Q->r x H Q)
 (σ:St) (H:Hp) (Q:VK) (h:aV K (f1 fa g) σ H Q):tUn r (aV K fa) σ H Q:=by
 obtain⟨F,L,S,env,w,S',R,E,e,q⟩:=h;unfold f1 at e;cases ea:fa env S with
 | none=>rw[ea] at e;cases e
 | some p =>
   obtain⟨wx,S1⟩:=p;rw[ea] at e;dsimp only[yCx] at e;refine⟨F,L,S,env,wx,S1,R,E,ea,λ F1 L1 H1 x g1 R1 d1=>?_⟩
   exact hr F1 L1 S1 H1 x wx w S' Q R1 d1 e λ F3 L3 H3 v g3 R3 d3=>q F3 L3 H3 v (g1.trans g3) R3 d3
noncomputable def hJ(i:Nat):FE:=λ env S=>match env[i]? with
 | some (qq w)=>qq (w,S)
 | _=>qz
theorem aMx{i:Nat}{env:aX}{S S':aC}{w:W}(h:hJ i env S=qq (w,S')):env[i]? = qq (qq w)/\S'=S:=by
 unfold hJ at h
 split at h
 ·rename_i w' e;cases h;exact⟨e,rfl⟩
 ·cases h
theorem aS5{i:Nat}{x:Str}{pos:Pos}(hN:X.N[i]? = qq x)(hv:xI X.env.scope x)(hd:(x==("__debug__" : Str))=false)(hcd:(x==("__classdict__" : Str))=false):PE X (.Name x pos) (aV X.K (hJ i)):=
 PE.weak (aQu hN hv hd hcd) λ σ H Q aT=>by
  obtain⟨F,L,S,env,w,S',R,E,e,q⟩:=aT;obtain⟨e1,rfl⟩:=aMx e;obtain⟨v,e2,d⟩:=E.get i w e1;exact⟨v,e2,q F L H v Gr.refl R d⟩
noncomputable def fC(d:D):FE:=λ _ S=>qq (.d d,S)
theorem aTv{i j pos}:PE X (.Constant (.int i) j pos) (aV X.K (fC (.int i))):=
 PE.weak aQT λ σ H Q aT=>by obtain⟨F,L,S,env,w,S',R,E,e,q⟩:=aT;cases e;exact q F L H _ Gr.refl R (.int i)
theorem aVx{b j pos}:PE X (.Constant (.bool b) j pos) (aV X.K (fC (.bool b))):=
 PE.weak aTI λ σ H Q aT=>by obtain⟨F,L,S,env,w,S',R,E,e,q⟩:=aT;cases e;exact q F L H _ Gr.refl R (.bl b)
theorem aTc{j pos}:PE X (.Constant .none j pos) (aV X.K (fC .none)):=
 PE.weak aQq λ σ H Q aT=>by obtain⟨F,L,S,env,w,S',R,E,e,q⟩:=aT;cases e;exact q F L H _ Gr.refl R .non
theorem aUi{x j pos}:PE X (.Constant (.str x) j pos) (aV X.K (fC (.str x))):=
 PE.weak aQe λ σ H Q aT=>by obtain⟨F,L,S,env,w,S',R,E,e,q⟩:=aT;cases e;exact q F L H _ Gr.refl R (.str x)
noncomputable def gK(g:D->D->Option D)(S:aC)(x y:W):Option (W×aC):=(dr S x).bind λ a=>(dr S y).bind λ b=>(g a b).bind λ z=>qq (.d z,S)
noncomputable def fZ(g:D->Option D)(S:aC)(x:W):Option (W×aC):=(dr S x).bind λ a=>(g a).bind λ z=>qq (.d z,S)
theorem aGk{g:D->D->Option D}{S S':aC}{x y w:W}(h:gK g S x y=qq (w,S')):∃ a b z,dr S x=qq a/\dr S y=qq b/\g a b=qq z/\w=.d z/\S'=S:=by
 unfold gK at h;cases e1:dr S x with
 | none=>rw[e1] at h;cases h
 | some a =>
   cases e2:dr S y with
   | none=>rw[e1,e2] at h;cases h
   | some b =>
     rw[e1,e2] at h;dsimp only[yCx] at h;cases e3:g a b with
     | none=>rw[e3] at h;cases h
     | some z=>rw[e3] at h;cases h;exact⟨a,b,z,rfl,rfl,e3,rfl,rfl⟩
theorem tV{g:D->Option D}{S S':aC}{x w:W}(h:fZ g S x=qq (w,S')):∃ a z,dr S x=qq a/\g a=qq z/\w=.d z/\S'=S:=by
 unfold fZ at h;cases e1:dr S x with
 | none=>rw[e1] at h;cases h
 | some a =>
   rw[e1] at h;dsimp only[yCx] at h;cases e3:g a with
   | none=>rw[e3] at h;cases h
   | some z=>rw[e3] at h;cases h;exact⟨a,z,rfl,e3,rfl,rfl⟩
theorem zV{K:FrG}{F:Hp}{L:List qv}{S:aC}{z:D}{Q:VK}(X:Cx)(hK:X.K=K)(q:sH K F L S (.d z) Q):fJ X F L S z Q:=λ F' H' r sf R d=>by
 subst hK;exact q F' L H' r ⟨sf,[],by simp⟩ R d
noncomputable def rD2(X:Cx)(g:D->D->Option D):R2:=λ x y H Q=>∃ F L S dx dy z,Rel X.K F L S H/\bQ X.K F H dx x/\bQ X.K F H dy y/\g dx dy=qq z/\fJ X F L S z Q
theorem aAq{g:D->D->Option D}(F:Hp)(L:List qv)(S:aC)(H:Hp)(x y:V)(wx wy w:W)(S':aC)(Q:VK)(R:Rel X.K F L S H)(h1:eH X.K F L wx x)(h2:eH X.K F L wy y)(e:gK g S wx wy=qq (w,S'))(q:sH X.K F L S' w Q):rD2 X g x y H Q:=by
 obtain⟨a,b,z,e1,e2,e3,rfl,rfl⟩:=aGk e;exact⟨F,L,S',a,b,z,R,jP R h1 e1,jP R h2 e2,e3,zV X rfl q⟩
noncomputable def qD(op:jo)(fa fb:FE):FE:=f2 fa fb (gK (bS op))
theorem aUC{a b:qw}{op:jo}{pos:Pos}{fa fb:FE}(ha:PE X a (aV X.K fa))(hb:PE X b (aV X.K fb)):PE X (.BinOp a op b pos) (aV X.K (qD op fa fb)):=
 PE.weak (aI5 (r:=rD2 X (bS op)) (λ aB s σ H x y v u Q I rx ry hPr2=>by obtain⟨F,L,S,dx,dy,z,R,nx,ny,e,q⟩:=hPr2;exact aQp I rx ry R nx ny e q) ha hb) (aBb aAq)
noncomputable def xK(op:yz)(fa:FE):FE:=f1 fa (fZ (oS op))
theorem aV8{a:qw}{op:yz}{pos:Pos}{fa:FE}(ha:PE X a (aV X.K fa)):PE X (.UnaryOp op a pos) (aV X.K (xK op fa)):=
 PE.weak (aUn (r:=λ x H Q=>∃ F L S dx z,Rel X.K F L S H/\bQ X.K F H dx x/\oS op dx=qq z/\fJ X F L S z Q) (λ aB s σ H x v Q I rx hPr3=>by obtain⟨F,L,S,dx,z,R,nx,e,q⟩:=hPr3;exact aSP I rx R nx e q) ha)
  (aWe λ F L S H x wx w S' Q R d e q=>by
    obtain⟨a,z,e1,e3,rfl,rfl⟩:=tV e;exact⟨F,L,S',a,z,R,jP R d e1,e3,zV X rfl q⟩)
noncomputable def aM(op:vj)(x y:D):Option D:=(qI op x y).map yDr
theorem aGz{op:vj}(hu:X.A.units+64<cLine):cJ X (jx op) (rD2 X (aM op)):=λ aB s σ H x y v u Q I rx ry aT=>by
 obtain⟨F,L,S,dx,dy,z,R,nx,ny,e,q⟩:=aT;unfold aM at e;cases ec:qI op dx dy with
 | none=>rw[ec] at e;cases e
 | some b=>rw[ec] at e;cases e;exact aSt hu I rx ry R nx ny ec (q.here R (.bl b))
noncomputable def mY(op:vj)(fa fb:FE):FE:=f2 fa fb (gK (aM op))
theorem aUV{a b:qw}{op:vj}{pos:Pos}{fa fb:FE}(hu:X.A.units+64<cLine)(ha:PE X a (aV X.K fa))(hb:PE X b (aV X.K fb))(hm:jk op b=false):PE X (.Compare a [op] [b] pos) (aV X.K (mY op fa fb)):=
 PE.weak (aPb (aGz hu) ha hb hm) (aBb aAq)
noncomputable def dA(fa:FE):FT:=λ env S=>(fa env S).bind λ p=>(dr p.2 p.1).bind λ d=>(qJ d).bind λ b=>qq (b,p.2)
theorem aFM{fa:FE}{env:aX}{S S':aC}{b:Bool}(h:dA fa env S=qq (b,S')):∃ w d,fa env S=qq (w,S')/\dr S' w=qq d/\qJ d=qq b:=by
 unfold dA at h;cases ea:fa env S with
 | none=>rw[ea] at h;cases h
 | some p =>
   obtain⟨w,S1⟩:=p;rw[ea] at h;dsimp only[yCx] at h;cases e1:dr S1 w with
   | none=>rw[e1] at h;cases h
   | some d =>
     rw[e1] at h;dsimp only at h;cases e2:qJ d with
     | none=>rw[e2] at h;cases h
     | some c=>rw[e2] at h;cases h;exact⟨w,d,rfl,e1,e2⟩
theorem aUT{a:qw}{fa:FE}(ha:PE X a (aV X.K fa))(he:∀ gL,isTrue a X.env gL=(do let v <- gL;standAt a.pos;holding [v] (truthy v))):PT X a (fL X.K (dA fa)):=
 PT.weak (aNM ha he) λ σ H Q aT=>by
  obtain⟨F,L,S,env,b,S',R,E,e,q⟩:=aT;obtain⟨w,d,e1,e2,e3⟩:=aFM e;exact⟨F,L,S,env,w,S',R,E,e1,λ F1 L1 H1 v g1 R1 d1=>⟨b,aPc R1 (jP R1 d1 e2) e3,q F1 L1 H1 g1 R1⟩⟩
theorem aR7{a b:qw}{op:vj}{pos:Pos}{fa fb:FE}(hu:X.A.units+64<cLine)(ha:PE X a (aV X.K fa))(hb:PE X b (aV X.K fb))(hm:jk op b=false):PT X (.Compare a [op] [b] pos) (fL X.K (dA (mY op fa fb))):=
 PT.weak (aOu (aGz hu) ha hb hm) λ σ H Q aT=>by
  obtain⟨F,L,S,env,b,S',R,E,e,q⟩:=aT;obtain⟨w,d,e1,e2,e3⟩:=aFM e;refine aBb (fa:=fa) (fb:=fb) (g:=gK (aM op)) aAq σ H _ ⟨F,L,S,env,w,S',R,E,e1,λ F1 L1 H1 v g1 R1 d1=>?_⟩
  have hc:∃ c,w=.d (.bool c):=by
   unfold mY f2 at e1;cases ea:fa env S with
   | none=>rw[ea] at e1;cases e1
   | some p =>
     rw[ea] at e1;dsimp only[yCx] at e1;cases eb:fb env p.2 with
     | none=>rw[eb] at e1;cases e1
     | some p2 =>
       rw[eb] at e1;dsimp only at e1;obtain⟨_,_,z,_,_,e6,rfl,_⟩:=aGk e1;unfold aM at e6;cases e7:qI op _ _ with
       | none=>rw[e7] at e6;cases e6
       | some c=>rw[e7] at e6;cases e6;exact⟨c,rfl⟩
  obtain⟨c,rfl⟩:=hc;cases e2;cases e3;have hv:v=.bl b:=by cases (show Den X.K F1 (.bool b) v from d1);rfl
  exact⟨b,hv,q F1 L1 H1 g1 R1⟩
end
section
variable {X : Cx}{pos : Pos}
noncomputable def wL(fa fb:FT):FT:=λ env S=>(fa env S).bind λ p=>if p.1=true then fb env p.2 else qq (false,p.2)
noncomputable def xC(fa fb:FT):FT:=λ env S=>(fa env S).bind λ p=>if p.1=true then qq (true,p.2) else fb env p.2
noncomputable def wI(fa:FT):FT:=λ env S=>(fa env S).bind λ p=>qq (!p.1,p.2)
theorem aJd{K:FrG}{fa fb:FT}(σ:St)(H:Hp)(Q:Bool->Hp->Prop)(h:fL K (wL fa fb) σ H Q):aJ1 (fL K fa) (fL K fb) σ H Q:=by
 obtain⟨F,L,S,env,b,S',R,E,e,q⟩:=h;obtain⟨⟨c,S1⟩,e1,e2⟩:=bind_some e;refine⟨F,L,S,env,c,S1,R,E,e1,λ F1 L1 H1 g1 R1=>?_⟩
 dsimp only at e2;cases c with
 | true=>exact sQ ⟨F1,L1,S1,env,b,S',R1,E.mono g1,by simpa using e2,λ F2 L2 H2 g2 R2=>q F2 L2 H2 (g1.trans g2) R2⟩
 | false =>
   have e3:qq (false,S1)=qq (b,S'):=by simpa using e2
   cases e3;exact sJ (q F1 L1 H1 g1 R1)
theorem aKj{K:FrG}{fa fb:FT}(σ:St)(H:Hp)(Q:Bool->Hp->Prop)(h:fL K (xC fa fb) σ H Q):tOr (fL K fa) (fL K fb) σ H Q:=by
 obtain⟨F,L,S,env,b,S',R,E,e,q⟩:=h;obtain⟨⟨c,S1⟩,e1,e2⟩:=bind_some e;refine⟨F,L,S,env,c,S1,R,E,e1,λ F1 L1 H1 g1 R1=>?_⟩
 dsimp only at e2;cases c with
 | false=>exact sJ ⟨F1,L1,S1,env,b,S',R1,E.mono g1,by simpa using e2,λ F2 L2 H2 g2 R2=>q F2 L2 H2 (g1.trans g2) R2⟩
 | true =>
   have e3:qq (true,S1)=qq (b,S'):=by simpa using e2
   cases e3;exact sQ (q F1 L1 H1 g1 R1)
theorem aUo{a:qw}{fa:FT}(ha:PT X a (fL X.K fa)):PT X (.UnaryOp .Not a pos) (fL X.K (wI fa)):=
 PT.weak (aRp ha) λ σ H Q aT=>by
  obtain⟨F,L,S,env,b,S',R,E,e,q⟩:=aT;obtain⟨⟨c,S1⟩,e1,e2⟩:=bind_some e;cases e2;exact⟨F,L,S,env,c,S1,R,E,e1,q⟩
noncomputable def vO(fa fb:FE):FE:=λ env S=>(fa env S).bind λ p=>match p.1 with
 | .d (.bool true)=>fb env p.2
 | .d (.bool false)=>qq (.d (.bool false),p.2)
 | _=>qz
noncomputable def wH(fa fb:FE):FE:=λ env S=>(fa env S).bind λ p=>match p.1 with
 | .d (.bool false)=>fb env p.2
 | .d (.bool true)=>qq (.d (.bool true),p.2)
 | _=>qz
noncomputable def vT(fa:FE):FE:=λ env S=>(fa env S).bind λ p=>match p.1 with
 | .d (.bool b)=>qq (.d (.bool (!b)),p.2)
 | _=>qz
theorem vM{K:FrG}{F:Hp}{L:List qv}{b:Bool}{v:V}(h:eH K F L (.d (.bool b)) v):v=.bl b:=by cases (show Den K F (.bool b) v from h);rfl
theorem aIN{K:FrG}{fa fb:FE}(σ:St)(H:Hp)(Q:VK)(h:aV K (vO fa fb) σ H Q):aJg (aV K fa) (aV K fb) σ H Q:=by
 obtain⟨F,L,S,env,w,S',R,E,e,q⟩:=h;obtain⟨⟨c,S1⟩,e1,e2⟩:=bind_some e;dsimp only at e2
 split at e2
 ·exact⟨F,L,S,env,_,S1,R,E,e1,λ F1 L1 H1 v g1 R1 d1=>⟨true,vM d1,sQ ⟨F1,L1,S1,env,w,S',R1,E.mono g1,e2,λ F2 L2 H2 v2 g2 R2 d2=>q F2 L2 H2 v2 (g1.trans g2) R2 d2⟩⟩⟩
 ·cases e2;exact⟨F,L,S,env,_,_,R,E,e1,λ F1 L1 H1 v g1 R1 d1=>⟨false,vM d1,sJ (q F1 L1 H1 _ g1 R1 (Den.bl false))⟩⟩
 ·cases e2
theorem aI6{K:FrG}{fa fb:FE}(σ:St)(H:Hp)(Q:VK)(h:aV K (wH fa fb) σ H Q):aKf (aV K fa) (aV K fb) σ H Q:=by
 obtain⟨F,L,S,env,w,S',R,E,e,q⟩:=h;obtain⟨⟨c,S1⟩,e1,e2⟩:=bind_some e;dsimp only at e2
 split at e2
 ·exact⟨F,L,S,env,_,S1,R,E,e1,λ F1 L1 H1 v g1 R1 d1=>⟨false,vM d1,sJ ⟨F1,L1,S1,env,w,S',R1,E.mono g1,e2,λ F2 L2 H2 v2 g2 R2 d2=>q F2 L2 H2 v2 (g1.trans g2) R2 d2⟩⟩⟩
 ·cases e2;exact⟨F,L,S,env,_,_,R,E,e1,λ F1 L1 H1 v g1 R1 d1=>⟨true,vM d1,sQ (q F1 L1 H1 _ g1 R1 (Den.bl true))⟩⟩
 ·cases e2
theorem aRg{a:qw}{fa:FE}(ha:PE X a (aV X.K fa)):PE X (.UnaryOp .Not a pos) (aV X.K (vT fa)):=
 PE.weak (aR0 ha) λ σ H Q aT=>by
  obtain⟨F,L,S,env,w,S',R,E,e,q⟩:=aT;obtain⟨⟨c,S1⟩,e1,e2⟩:=bind_some e;dsimp only at e2
  split at e2
  ·cases e2;exact⟨F,L,S,env,_,_,R,E,e1,λ F1 L1 H1 v g1 R1 d1=>⟨_,vM d1,q F1 L1 H1 _ g1 R1 (Den.bl _)⟩⟩
  ·cases e2
noncomputable def wU(fc:FT)(fa fb:FE):FE:=λ env S=>(fc env S).bind λ p=>if p.1=true then fa env p.2 else fb env p.2
theorem aUf{c a b:qw}{fc:FT}{fa fb:FE}(hc:PT X c (fL X.K fc))(ha:PE X a (aV X.K fa))(hb:PE X b (aV X.K fb)):PE X (.IfExp c a b pos) (aV X.K (wU fc fa fb)):=
 PE.weak (aN3 hc ha hb) λ σ H Q aT=>by
  obtain⟨F,L,S,env,w,S',R,E,e,q⟩:=aT;obtain⟨⟨c,S1⟩,e1,e2⟩:=bind_some e;refine⟨F,L,S,env,c,S1,R,E,e1,λ F1 L1 H1 g1 R1=>?_⟩
  dsimp only at e2;cases c with
  | true=>exact sQ ⟨F1,L1,S1,env,w,S',R1,E.mono g1,by simpa using e2,λ F2 L2 H2 v g2 R2 d2=>q F2 L2 H2 v (g1.trans g2) R2 d2⟩
  | false=>exact sJ ⟨F1,L1,S1,env,w,S',R1,E.mono g1,by simpa using e2,λ F2 L2 H2 v g2 R2 d2=>q F2 L2 H2 v (g1.trans g2) R2 d2⟩
noncomputable def jY:FA:=λ _ S=>qq ([],S)
noncomputable def eO(fa:FE)(fr:FA):FA:=λ env S=>(fa env S).bind λ p=>(fr env p.2).bind λ q=>qq (p.1::q.1,q.2)
theorem aAR:PA X [] (hU X.K jY):=PA.weak aIw λ σ H Q aT=>by obtain⟨F,L,S,env,ws,S',R,E,e,q⟩:=aT;cases e;exact q F L H [] Gr.refl R .nil
theorem mI{e:qw}{es:List qw}{fa:FE}{fr:FA}(ha:PE X e (aV X.K fa))(hr:PA X es (hU X.K fr))(hs:zq (e::es) X.env=(false,eval e X.env)::zq es X.env):PA X (e::es) (hU X.K (eO fa fr)):=
 PA.weak (aCw ha hr hs) λ σ H Q aT=>by
  obtain⟨F,L,S,env,ws,S',R,E,e,q⟩:=aT;obtain⟨⟨w,S1⟩,e1,e2⟩:=bind_some e;obtain⟨⟨wr,S2⟩,e3,e4⟩:=bind_some e2;cases e4;exact⟨F,L,S,env,w,S1,R,E,e1,λ F1 L1 H1 v g1 R1 d1=>⟨F1,L1,S1,env,wr,S2,R1,E.mono g1,e3,λ F2 L2 H2 vs g2 R2 d2=>q F2 L2 H2 _ (g1.trans g2) R2 (.cons (d1.mono g2) d2)⟩⟩
noncomputable def qH:List W->Option (List D)
 | []=>qq []
 | .d x::r=>(qH r).bind λ l=>qq (x::l)
 | .loc _::_=>qz
theorem aCh{K:FrG}{F:Hp}{L:List qv}:∀ {ws:List W}{xs:List V}{ds:List D},WDenL K F L ws xs->qH ws=qq ds->DenL K F ds xs
 | _,_,_,.nil,e=>by cases e;exact .nil
 | .d x::r,_,_,.cons h t,e=>by
   obtain⟨l,e1,e2⟩:=bind_some e;cases e2;exact .cons h (aCh t e1)
 | .loc _::_,_,_,.cons _ _,e=>by cases e
noncomputable def wD(fs:FA):FE:=λ env S=>(fs env S).bind λ p=>(qH p.1).bind λ ds=>if ds.length<=qk then qq (.d (.tuple ds),p.2) else qz
theorem aVh{es:List qw}{k:Nat}{fs:FA}(h:PA X es (hU X.K fs)):PE X (.Tuple es k pos) (aV X.K (wD fs)):=
 PE.weak (aSr h) λ σ H Q aT=>by
  obtain⟨F,L,S,env,w,S',R,E,e,q⟩:=aT;obtain⟨⟨ws,S1⟩,e1,e2⟩:=bind_some e;obtain⟨ds,e3,e4⟩:=bind_some e2
  split at e4
  ·rename_i hz;cases e4;refine⟨F,L,S,env,ws,_,R,E,e1,λ F1 L1 H1 vs g1 R1 d1=>?_⟩
   have dl:=aCh d1 e3;refine⟨by rw[<- dl.length];exact hz,λ p hp=>?_⟩
   exact q _ L1 _ _ (g1.trans (Gr.new (R1.sub.free hp))) (R1.new hp) (Den.tup (cF.of dE) (dl.mono (eM (R1.sub.free hp))))
  ·cases e4
noncomputable def wK(fs:FA):FL:=λ env S=>(fs env S).bind λ p=>(qH p.1).bind λ ds=>if ds.length<=qk then qq (ds,p.2) else qz
theorem aVa{es:List qw}{fs:FA}(h:PA X es (hU X.K fs)):PE X (.List es pos) (iA X.K (wK fs)):=
 PE.weak (aQi h) λ σ H Q aT=>by
  obtain⟨F,L,S,env,ds,S',R,E,e,q⟩:=aT;obtain⟨⟨ws,S1⟩,e1,e2⟩:=bind_some e;obtain⟨ds',e3,e4⟩:=bind_some e2
  split at e4
  ·rename_i hz;cases e4;refine⟨F,L,S,env,ws,_,R,E,e1,λ F1 L1 H1 vs g1 R1 d1=>?_⟩
   have dl:=aCh d1 e3;exact⟨by rw[<- dl.length];exact hz,λ p hp=>q F1 L1 _ p vs g1 (R1.lay hp) (R1.sub.free hp) (R1.notin hp) dE dl⟩
  ·cases e4
noncomputable def cP(f:FL):FE:=λ env S=>(f env S).bind λ p=>qq (.d (.list p.1),p.2)
theorem aJP{e:qw}{f:FL}(h:PE X e (iA X.K f)):PE X e (aV X.K (cP f)):=
 PE.weak h λ σ H Q aT=>by
  obtain⟨F,L,S,env,w,S',R,E,e,q⟩:=aT;obtain⟨⟨ds,S1⟩,e1,e2⟩:=bind_some e;cases e2;exact⟨F,L,S,env,ds,_,R,E,e1,λ F1 L1 H1 p xs g1 R1 hF hL hH dl=>q _ L1 _ _ (g1.trans (Gr.new hF)) (R1.adopt hF hL hH) (Den.lst (bY.of dE) (dl.mono (eM hF)))⟩
noncomputable def iO(f:FL):FE:=λ env S=>(f env S).bind λ p=>qq (.loc p.2.length,p.2++[qq p.1])
theorem aT9{e:qw}{f:FL}(h:PE X e (iA X.K f)):PE X e (aV X.K (iO f)):=
 PE.weak h λ σ H Q aT=>by
  obtain⟨F,L,S,env,w,S',R,E,e,q⟩:=aT;obtain⟨⟨ds,S1⟩,e1,e2⟩:=bind_some e;cases e2;refine⟨F,L,S,env,ds,_,R,E,e1,λ F1 L1 H1 p xs g1 R1 hF hL hH dl=>q _ _ _ _ (g1.trans Gr.newLoc) (R1.adoptLoc hF hL hH dl) ⟨p,?_,rfl⟩⟩
  dsimp only;rw[<- R1.len,yAf (yAc _)];simp
noncomputable def aP:D->D->Option D
 | .list xs,.int i=>kF xs i
 | .tuple xs,.int i=>kF xs i
 | .str z,.int i=>if z.length<=qk then (kF z.cps.toList i).bind λ c=>qq (.str ⟨#[c]⟩) else qz
 | _,_=>qz
theorem aGR{K:FrG}{F:Hp}{ds:List D}{xs:List V}{i:Int}{d:D}(h:DenL K F ds xs)(e:kF ds i=qq d):∃ x,kF xs i=qq x/\Den K F d x:=by
 unfold kF at e ⊢;rw[<- h.length];obtain⟨j,e1,e2⟩:=bind_some e;obtain⟨x,e3,dx⟩:=h.get e2;exact⟨x,by rw[e1];exact e3,dx⟩
theorem aPX:lW X (rD2 X aP):=λ value iU aB s σ H x y v u Q I rx ry aT hs=>by
 obtain⟨F,L,S,dx,dy,z,R,nx,ny,e,q⟩:=aT;unfold aP at e
 split at e
 ·obtain⟨a,xs,rfl,sq,dl⟩:=nx.lst R.sub;obtain⟨r,e1,d1⟩:=aGR dl e;exact aP6 value iU aB s σ H _ y v u Q I rx ry ⟨a,xs,_,r,rfl,ny.int,sq,e1,q.here R d1⟩ hs
 ·obtain⟨a,xs,rfl,sq,dl⟩:=nx.tup R.sub;obtain⟨r,e1,d1⟩:=aGR dl e;exact aQR value iU aB s σ H _ y v u Q I rx ry ⟨a,xs,_,r,rfl,ny.int,sq,e1,q.here R d1⟩ hs
 ·split at e
  ·rename_i hz;obtain⟨c,e1,e2⟩:=bind_some e;cases e2;exact aR9 value iU aB s σ H x y v u Q I rx ry ⟨_,_,c,nx.str,ny.int,hz,e1,q.here R (.str _)⟩ hs
  ·cases e
 ·cases e
noncomputable def nJ(fa fb:FE):FE:=f2 fa fb (gK aP)
theorem aWr{a b:qw}{fa fb:FE}(ha:PE X a (aV X.K fa))(hb:PE X b (aV X.K fb))(hs:zU b):PE X (.Subscript a b pos) (aV X.K (nJ fa fb)):=
 PE.weak (aJo aPX ha hb hs) (aBb aAq)
abbrev FO:=aX->aC->Option (Option Int×aC)
noncomputable def xB:FO:=λ _ S=>qq (qz,S)
noncomputable def mO(fa:FE):FO:=λ env S=>(fa env S).bind λ p=>match p.1 with
 | .d (.int i)=>qq (qq i,p.2)
 | _=>qz
def lK(K:FrG)(f:FO):TO:=λ σ H Q=>∃ F L S env o S',Rel K F L S H/\EnvR K F L env σ/\f env S=qq (o,S')/\∀ F' L' H',Gr F L F' L'->Rel K F' L' S' H'->Q o H'
theorem aVM:PO X qz (lK X.K xB):=λ aB s σ H Q I aT=>by
 obtain⟨F,L,S,env,o,S',R,E,e,q⟩:=aT;cases e;exact aPW aB s σ H Q I (q F L H Gr.refl R)
theorem aQ1{a:qw}{fa:FE}(ha:PE X a (aV X.K fa)):PO X (qq a) (lK X.K (mO fa)):=λ aB s σ H Q I aT=>by
 obtain⟨F,L,S,env,o,S',R,E,e,q⟩:=aT;obtain⟨⟨w,S1⟩,e1,e2⟩:=bind_some e;dsimp only at e2
 split at e2
 ·cases e2;refine aCq ha aB s σ H Q I ⟨F,L,S,env,_,_,R,E,e1,λ F1 L1 H1 v g1 R1 d1=>?_⟩
  cases (show Den X.K F1 (.int _) v from d1)
  exact⟨_,rfl,q F1 L1 H1 g1 R1⟩
 ·cases e2
noncomputable def eB(xs:List D)(lo hi:Option Int):List D:=(xs.drop (HT.sIx xs.length 0 lo)).take (HT.sIx xs.length xs.length hi-HT.sIx xs.length 0 lo)
theorem aGU{K:FrG}{F:Hp}{ds:List D}{xs:List V}(h:DenL K F ds xs)(lo hi:Option Int):DenL K F (eB ds lo hi) (mZ xs lo hi):=by
 unfold eB mZ;rw[h.length];exact(h.drop _).take _
noncomputable def slL:D->Option Int->Option Int->Option (List D)
 | .list xs,lo,hi=>qq (eB xs lo hi)
 | _,_,_=>qz
noncomputable def aKv(fa:FE)(fl fh:FO):FL:=λ env S=>(fa env S).bind λ p=>(fl env p.2).bind λ q=>(fh env q.2).bind λ r=>(dr r.2 p.1).bind λ d=>(slL d q.1 r.1).bind λ z=>qq (z,r.2)
theorem aTh{a:qw}{lo hi:Option qw}{p2:Pos}{fa:FE}{fl fh:FO}(ha:PE X a (aV X.K fa))(hl:PO X lo (lK X.K fl))(hh:PO X hi (lK X.K fh)):PE X (.Subscript a (.Slice lo hi qz p2) pos) (iA X.K (aKv fa fl fh)):=
 PE.weak (aF8 aOm ha hl hh) λ σ H Q aT=>by
  obtain⟨F,L,S,env,ds,S',R,E,e,q⟩:=aT;obtain⟨⟨w,S1⟩,e1,e⟩:=bind_some e;obtain⟨⟨l,S2⟩,e2,e⟩:=bind_some e;obtain⟨⟨h,S3⟩,e3,e⟩:=bind_some e;obtain⟨d,e4,e⟩:=bind_some e;obtain⟨z,e5,e⟩:=bind_some e;cases e;refine⟨F,L,S,env,w,S1,R,E,e1,λ F1 L1 H1 v g1 R1 d1=>⟨F1,L1,S1,env,l,S2,R1,E.mono g1,e2,λ F2 L2 H2 g2 R2=>⟨F2,L2,S2,env,h,S3,R2,E.mono (g1.trans g2),e3,λ F3 L3 H3 g3 R3=>?_⟩⟩⟩
  have n:=jP R3 (d1.mono (g2.trans g3)) e4;cases d with
  | list xs =>
    cases e5;obtain⟨a,vs,rfl,sq,dl⟩:=n.lst R3.sub;exact⟨a,vs,rfl,sq,λ p hp=>q F3 L3 _ p _ ((g1.trans g2).trans g3) (R3.lay hp) (R3.sub.free hp) (R3.notin hp) dE (aGU dl l h)⟩
  | _=>cases e5
noncomputable def tD(K:FrG)(np:Nat)(call:List W->aC->Option (W×aC)):Sp:=λ vs H Q _=>∃ F L S ws w S',ws.length=np/\Rel K F L S H/\WDenL K F L ws vs/\call ws S=qq (w,S')/\sH K F L S' w Q
noncomputable def aAG(fs:FA)(np:Nat)(call:List W->aC->Option (W×aC)):FE:=λ env S=>(fs env S).bind λ p=>if p.1.length=np then call p.1 p.2 else qz
theorem aRE{K:FrG}{fs:FA}{np:Nat}{call:List W->aC->Option (W×aC)}(σ:St)(H:Hp)(Q:VK)(h:aV K (aAG fs np call) σ H Q):aAC (tD K np call) [] E0 (hU K fs) σ H Q:=by
 obtain⟨F,L,S,env,w,S',R,E,e,q⟩:=h;obtain⟨⟨ws,S1⟩,e1,e⟩:=bind_some e
 split at e
 ·rename_i hn;refine⟨F,L,S,env,ws,S1,R,E,e1,λ F1 L1 H1 vs g1 R1 d1=>⟨F1,L1,S1,ws,w,S',hn,R1,by rw[yDy];exact d1,e,λ F2 L2 H2 v g2 R2 d2=>q F2 L2 H2 v (g1.trans g2) R2 d2⟩⟩
 ·cases e
inductive NowL (K:FrG) (F H:Hp):List D->List V->Prop
 | nil:NowL K F H [] []
 | cons {d:D}{ds:List D}{x:V}{xs:List V}:bQ K F H d x->NowL K F H ds xs->NowL K F H (d::ds) (x::xs)
noncomputable def nM(S:aC):List W->Option (List D)
 | []=>qq []
 | w::r=>(dr S w).bind λ d=>(nM S r).bind λ l=>qq (d::l)
theorem aG3{K:FrG}{F H:Hp}{L:List qv}{S:aC}(R:Rel K F L S H):∀ {ws:List W}{xs:List V}{ds:List D},WDenL K F L ws xs->nM S ws=qq ds->NowL K F H ds xs
 | _,_,_,.nil,e=>by cases e;exact .nil
 | _,_,_,.cons h t,e=>by
   obtain⟨d,e1,e⟩:=bind_some e;obtain⟨l,e2,e⟩:=bind_some e;cases e;exact .cons (jP R h e1) (aG3 R t e2)
noncomputable def lU(X:Cx)(g:List D->Option D):List V->Hp->VK->Prop:=λ xs H Q=>∃ F L S ds z,Rel X.K F L S H/\NowL X.K F H ds xs/\g ds=qq z/\fJ X F L S z Q
noncomputable def qE(fs:FA)(g:List D->Option D):FE:=λ env S=>(fs env S).bind λ p=>(nM p.2 p.1).bind λ ds=>(g ds).bind λ z=>qq (.d z,p.2)
theorem mQ{fs:FA}{g:List D->Option D}(σ:St)(H:Hp)(Q:VK)(h:aV X.K (qE fs g) σ H Q):tCB (lU X g) (hU X.K fs) σ H Q:=by
 obtain⟨F,L,S,env,w,S',R,E,e,q⟩:=h;obtain⟨⟨ws,S1⟩,e1,e⟩:=bind_some e;obtain⟨ds,e2,e⟩:=bind_some e;obtain⟨z,e3,e⟩:=bind_some e;cases e;refine⟨F,L,S,env,ws,_,R,E,e1,λ F1 L1 H1 vs g1 R1 d1=>⟨F1,L1,S1,ds,z,R1,aG3 R1 d1 e2,e3,zV X rfl λ F2 L2 H2 v g2 R2 d2=>q F2 L2 H2 v (g1.trans g2) R2 d2⟩⟩
end
section
variable {prog : qo}{w : zw}{A : zy}{E : qx -> qj -> Prop}{s : qj}
theorem aFl{it t:qv}{aQ:Array qx}(hne:t≠it):∀ (n i:Nat) (s:qj) (Q:List qx->qj->Prop),s.heap.IsListIter it t i->s.heap.IsList t aQ->i+n<=aQ.size ->
 (∀ h',h'.IsListIter it t (i+n)->yDx it s.heap h'->Q ((aQ.toList.drop i).take n) {s with heap:=h' })->qy (model prog w) A (draw (.ref it) n) Q E s
 | 0,i,s,Q,hit,_,_,hQ=>wP (by simpa using hQ s.heap hit (Heap.SameBut.refl _ _))
 | n+1,i,s,Q,hit,hl,hle,hQ=>by
   have hlt:i<aQ.size:=by omega
   show qy _ _ (ju (.ref it) >>= _) Q E s;refine wB (wq hit hl (x:=aQ[i]) (by simp[hlt]) λ h1 hit1 hs1=>?_)
   refine wB (zu (aFl hne n (i+1) _ _ hit1 (hl.extBut hs1.extBut hne) (by omega) λ h2 hit2 hs2=>wP ?_))
   have q:=hQ h2 (by rw[show i+(n+1)=i+1+n by omega];exact hit2) (hs1.trans hs2)
   rw[yEj (by simpa using hlt),List.take_succ_cons] at q
   exact q
theorem aLz{env:Env}{elts:List qw}{x1}{pos:Pos}{t:qv}{aQ:Array qx}{Q:Unit->qj->Prop}(hh:A.handled=qz)(hl:s.heap.IsList t aQ)
 (hn:(xx elts env).length=aQ.size) (hstar:(xx elts env).findIdx? (·.1)=qz)
 (h:∀ h',Heap.ExtBut s.heap.objs.size s.heap h'->qy (model prog w) A (assignInOrder ((xx elts env).map (·.2)) aQ.toList) Q E {s with heap:=h' }) :
 qy (model prog w) A (assign (.Tuple elts x1 pos) env (.ref t)) Q E s:=by
 have hlt:t≠s.heap.objs.size:=by obtain⟨o,ho,_⟩:=hl;exact xAk (xAa ho)
 have hl1:∀ o,(s.heap.push o).IsList t aQ:=λ o=>let ⟨u,hu,r⟩:=hl;⟨u,hpS _ hu,r⟩
 rw[arm_assign_Tuple];refine wB (yy ?_);unfold unpack;rw[hn,hstar];refine wB (zu ?_);unfold unpackItems;refine wB ?_;unfold notIterableAtAll;refine wB (kq hl.typeIs slot_list_iter.lookup (wP ?_));simp only[yAv,if_false];refine wB (zu (jw hl ?_));refine wB (zu (aFl hlt aQ.size 0 _ _ ⟨_,xAe _ rfl,rfl,rfl⟩ (hl1 _) (by omega) λ h1 hit1 hs1=>?_))
 rw[show yEk aQ.size (List.drop 0 aQ.toList)=aQ.toList by rw[yEl];exact yBq (by simp)]
 rw[if_neg (by simp)]
 have hl2:h1.IsList t aQ:=(hl1 _).extBut hs1.extBut hlt;refine wB (zu (wz hh hit1 hl2 (by simp) λ h2 he2=>?_))
 simp only[Option.isSome_none,yAv,if_false];exact wP (h h2 λ b o hb e=>he2 b o hb (hs1.extBut b o hb (hpS _ e)))
end
section
variable {X : Cx}
def aDu(K:FrG)(n:Nat)(t:iT):TG:=λ v σ H Q=>∃ a xs,v=.ref a/\(cF K H a xs\/bY K H a xs)/\xs.length=n/\t xs σ H Q
theorem aRv{es:List qw}{k:Nat}{t:iT}{n:Nat}{pos:Pos}(hc:X.calm=true)(h:qO X es t)(hn:(xx es X.env).length=n)(hst:(xx es X.env).findIdx? (·.1)=qz):PG X (.Tuple es k pos) (aDu X.K n t):=by
 intro aB s σ H v u Q I r hw;obtain⟨a,xs,e1,hq,hl,hw⟩:=hw;rcases hq with hq | hq
 ·exact aRl hc h hn hst aB s σ H v u Q I r ⟨a,xs,e1,hq,hl,hw⟩
 ·subst e1;cases r;obtain⟨aF,rv,pl,hz⟩:=I.list hq;refine aLz (I.ok.hd hc) pl.isList (by simp[hn,<- hl,rv.length]) hst λ h' hx=>?_
  have I1:Inv X aB σ H {s with heap:=h' }:=I.kept (t':=s.toks) λ b o e=>hx b o (xAk (xAa e)) e
  exact h aB _ σ H xs _ Q I1 (by simpa using rv) hw
end
section
variable {X : Cx}{pos : Pos}
noncomputable def aJX(K:FrG)(D:Ends)(F':Hp)(L':List qv)(H':Hp):Fl->Prop
 | .nx aN=>∀ σ',EnvR K F' L' aN σ'->D.nx σ' H'
 | .rt w=>∀ v,eH K F' L' w v->D.rt v H'
 | .bk aN=>∀ σ',EnvR K F' L' aN σ'->D.bk σ' H'
 | .ct aN=>∀ σ',EnvR K F' L' aN σ'->D.ct σ' H'
theorem mG{K:FrG}{f:FS}{D:Ends}{σ:St}{H F:Hp}{L:List qv}{S:aC}{env:aX}{fl:Fl}{S':aC}(R:Rel K F L S H)(E:EnvR K F L env σ)(e:f env S=qq (fl,S'))
 (q:∀ F' L' H',Gr F L F' L'->Rel K F' L' S' H'->aJX K D F' L' H' fl):dL K f D σ H:=⟨F,L,S,env,fl,S',R,E,e,λ F' L' H' g R'=>by
 have:=q F' L' H' g R';cases fl<;>exact this⟩
theorem mF{K:FrG}{f:FS}{D:Ends}{σ:St}{H:Hp}(h:dL K f D σ H):∃ F L S env fl S',Rel K F L S H/\EnvR K F L env σ/\f env S=qq (fl,S')/\∀ F' L' H',Gr F L F' L'->Rel K F' L' S' H'->aJX K D F' L' H' fl:=by
 obtain⟨F,L,S,env,fl,S',R,E,e,q⟩:=h;exact⟨F,L,S,env,fl,S',R,E,e,λ F' L' H' g R'=>by
  have:=q F' L' H' g R';cases fl<;>exact this⟩
noncomputable def qA:FS:=λ env S=>qq (.nx env,S)
theorem aSp:dU X [] (dL X.K qA):=dU.weak aO8 λ D σ H h=>by
 obtain⟨F,L,S,env,fl,S',R,E,e,q⟩:=mF h;cases e;exact q F L H Gr.refl R σ E
noncomputable def dI(fa fb:FS):FS:=λ env S=>(fa env S).bind λ p=>match p.1 with
 | .nx e=>fb e p.2
 | fl=>qq (fl,p.2)
theorem aTO{a:jz}{b:List jz}{fa fb:FS}(ha:PS X a (dL X.K fa))(hb:dU X b (dL X.K fb)):dU X (a::b) (dL X.K (dI fa fb)):=dU.weak (aNL ha hb) λ D σ H h=>by
 obtain⟨F,L,S,env,fl,S',R,E,e,q⟩:=mF h;obtain⟨⟨f1,S1⟩,e1,e2⟩:=bind_some e;cases f1 with
 | nx e'=>exact mG R E e1 λ F1 L1 H1 g1 R1 σ1 E1=>mG R1 E1 e2 λ F2 L2 H2 g2 R2=>q F2 L2 H2 (g1.trans g2) R2
 | rt w=>cases e2;exact mG R E e1 λ F1 L1 H1 g1 R1=>q F1 L1 H1 g1 R1
 | bk e'=>cases e2;exact mG R E e1 λ F1 L1 H1 g1 R1=>q F1 L1 H1 g1 R1
 | ct e'=>cases e2;exact mG R E e1 λ F1 L1 H1 g1 R1=>q F1 L1 H1 g1 R1
noncomputable def vS(fa:FE):FS:=λ env S=>(fa env S).bind λ p=>qq (.nx env,p.2)
theorem aRU{e:qw}{fa:FE}(h:PE X e (aV X.K fa))(hs:swapsWith e qz pos.line X.env=pure false):PS X (.Expr e pos) (dL X.K (vS fa)):=PS.weak (aPT h hs) λ D σ H h=>by
 obtain⟨F,L,S,env,fl,S',R,E,e,q⟩:=mF h;obtain⟨⟨w,S1⟩,e1,e2⟩:=bind_some e;cases e2;exact⟨F,L,S,env,w,_,R,E,e1,λ F1 L1 H1 v g1 R1 d1=>q F1 L1 H1 g1 R1 σ (E.mono g1)⟩
noncomputable def mW(fa:FE):FS:=λ env S=>(fa env S).bind λ p=>qq (.rt p.1,p.2)
theorem aTB{e:qw}{fa:FE}(h:PE X e (aV X.K fa)):PS X (.Return (qq e) pos) (dL X.K (mW fa)):=PS.weak (aSA h) λ D σ H h=>by
 obtain⟨F,L,S,env,fl,S',R,E,e,q⟩:=mF h;obtain⟨⟨w,S1⟩,e1,e2⟩:=bind_some e;cases e2;exact⟨F,L,S,env,w,_,R,E,e1,λ F1 L1 H1 v g1 R1 d1=>q F1 L1 H1 g1 R1 v d1⟩
noncomputable def aTr:FS:=λ env S=>qq (.rt (.d .none),S)
noncomputable def oZ(fc:FT)(fa fb:FS):FS:=λ env S=>(fc env S).bind λ p=>if p.1=true then fa env p.2 else fb env p.2
theorem aWo{c:qw}{a b:List jz}{fc:FT}{fa fb:FS}(hc:PT X c (fL X.K fc))(ha:dU X a (dL X.K fa))(hb:dU X b (dL X.K fb)):PS X (.If c a b pos) (dL X.K (oZ fc fa fb)):=PS.weak (aUr hc ha hb) λ D σ H h=>by
 obtain⟨F,L,S,env,fl,S',R,E,e,q⟩:=mF h;obtain⟨⟨c,S1⟩,e1,e2⟩:=bind_some e;refine⟨F,L,S,env,c,S1,R,E,e1,λ F1 L1 H1 g1 R1=>?_⟩
 cases c with
 | true=>exact sQ (mG R1 (E.mono g1) (by simpa using e2) λ F2 L2 H2 g2 R2=>q F2 L2 H2 (g1.trans g2) R2)
 | false=>exact sJ (mG R1 (E.mono g1) (by simpa using e2) λ F2 L2 H2 g2 R2=>q F2 L2 H2 (g1.trans g2) R2)
noncomputable def iP(i:Nat)(fa:FE):FS:=λ env S=>(fa env S).bind λ p=>qq (.nx (env.set i (qq p.1)),p.2)
theorem aI3{K:FrG}{i:Nat}{fa:FE}(D:Ends)(σ:St)(H:Hp)(h:dL K (iP i fa) D σ H):wO (aV K fa) (oN i) D σ H:=by
 obtain⟨F,L,S,env,fl,S',R,E,e,q⟩:=mF h;obtain⟨⟨w,S1⟩,e1,e2⟩:=bind_some e;cases e2;exact⟨F,L,S,env,w,_,R,E,e1,λ F1 L1 H1 v g1 R1 d1=>q F1 L1 H1 g1 R1 _ ((E.mono g1).set i d1)⟩
theorem aIT{i:Nat}{x:Str}{e:qw}{fa:FE}{pos':Pos}(hN:X.N.Nodup)(hi:X.N[i]? = qq x)(hx:Loc X.env.scope x)(he:PE X e (aV X.K fa))(hs:swapsWith e (qq (.Name x pos')) pos.line X.env=pure false)(hf:X.fn x=true\/X.env.scope.names.lookup x=qq .local) :
 PS X (.Assign [.Name x pos'] e pos) (dL X.K (iP i fa)):=PS.weak (aRJ hN hi hx he hs hf) aI3
noncomputable def oD:List Nat->List D->aX->Option aX
 | [],[],env=>qq env
 | i::is,d::ds,env=>oD is ds (env.set i (qq (.d d)))
 | _,_,_=>qz
inductive Tg where
 | one (i:Nat) | many (is:List Nat)
noncomputable def Tg.put:Tg->D->aX->Option aX
 | .one i,d,env=>qq (env.set i (qq (.d d)))
 | .many is,.tuple ds,env=>oD is ds env
 | .many is,.list ds,env=>oD is ds env
 | .many _,_,_=>qz
def GA(K:FrG)(t:Tg)(g:TG):Prop:=∀ (d:D) (x:V) (σ:St) (H F:Hp) (L:List qv) (S:aC) (env aN:aX) (Q:St->Hp->Prop),
 Rel K F L S H->EnvR K F L env σ->Den K F d x->t.put d env=qq aN->(∀ σ',EnvR K F L aN σ'->Q σ' H)->g x σ H Q
theorem aSe{K:FrG}(i:Nat):GA K (.one i) (oN i):=λ d x σ H F L S env aN Q R E dn e q=>by
 cases e;exact q _ (E.set i (w:=.d d) dn)
def wV(K:FrG)(is:List Nat)(g:iT):Prop:=∀ (ds:List D) (xs:List V) (σ:St) (H F:Hp) (L:List qv) (S:aC) (env aN:aX) (Q:St->Hp->Prop),
 Rel K F L S H->EnvR K F L env σ->DenL K F ds xs->oD is ds env=qq aN->(∀ σ',EnvR K F L aN σ'->Q σ' H)->g xs σ H Q
theorem aOG{K:FrG}:wV K [] aDj:=λ ds xs σ H F L S env aN Q R E dn e q=>by
 cases dn with
 | nil=>cases e;exact⟨rfl,q σ E⟩
 | cons _ _=>cases e
theorem aN0{K:FrG}{i:Nat}{is:List Nat}{g:iT}(h:wV K is g):wV K (i::is) (aDb (oN i) g):=λ ds xs σ H F L S env aN Q R E dn e q=>by
 cases dn with
 | nil=>cases e
 | cons d1 dr=>exact⟨_,_,rfl,h _ _ _ H F L S _ aN Q R (E.set i (w:=.d _) d1) dr e q⟩
theorem aBN:∀ {is:List Nat}{ds:List D}{env aN:aX},oD is ds env=qq aN->is.length=ds.length
 | [],[],_,_,_=>rfl
 | _::is,_::ds,_,_,e=>congrArg (· + 1) (aBN (is:=is) (ds:=ds) e)
 | [],_::_,_,_,e=>by cases e
 | _::_,[],_,_,e=>by cases e
theorem aOW{K:FrG}{is:List Nat}{g:iT}(h:wV K is g):GA K (.many is) (aDu K is.length g):=λ d x σ H F L S env aN Q R E dn e q=>by
 cases d with
 | tuple ds =>
   cases dn with
   | tup sq dl=>exact⟨_,_,rfl,.inl (mP R.sub sq),by rw[<- dl.length];exact(aBN e).symm,h _ _ σ H F L S env aN Q R E dl e q⟩
 | list ds =>
   cases dn with
   | lst sq dl=>exact⟨_,_,rfl,.inr (R.sub.seq sq),by rw[<- dl.length];exact(aBN e).symm,h _ _ σ H F L S env aN Q R E dl e q⟩
 | _=>cases e
noncomputable def aAN(t:Tg)(fa:FE):FS:=λ env S=>(fa env S).bind λ p=>match p.1 with
 | .d d=>(t.put d env).bind λ e=>qq (.nx e,p.2)
 | _=>qz
theorem aRw{K:FrG}{t:Tg}{g:TG}{fa:FE}(hg:GA K t g)(D:Ends)(σ:St)(H:Hp)(h:dL K (aAN t fa) D σ H):wO (aV K fa) g D σ H:=by
 obtain⟨F,L,S,env,fl,S',R,E,e,q⟩:=mF h;obtain⟨⟨w,S1⟩,e1,e2⟩:=bind_some e;dsimp only at e2
 split at e2
 ·obtain⟨e',e3,e4⟩:=bind_some e2;cases e4;exact⟨F,L,S,env,_,_,R,E,e1,λ F1 L1 H1 v g1 R1 d1=>hg _ v σ H1 F1 L1 _ env e' _ R1 (E.mono g1) d1 e3 λ σ' E'=>q F1 L1 H1 g1 R1 σ' E'⟩
 ·cases e2
noncomputable def jU(S:aC):W->W->W->Option aC
 | .loc n,.d (.int k),.d x=>match S[n]? with
   | some (qq ds)=>(jM ds.length k).bind λ j=>qq (S.set n (qq (ds.set j x)))
   | _=>qz
 | _,_,_=>qz
noncomputable def lQ(fo fi fe:FE):FS:=λ env S=>(fe env S).bind λ p=>(fo env p.2).bind λ q=>(fi env q.2).bind λ r=>(jU r.2 q.1 r.1 p.1).bind λ S'=>qq (.nx env,S')
theorem aLW{S S':aC}{o i x:W}(h:jU S o i x=qq S'):∃ n k d ds j,o=.loc n/\i=.d (.int k)/\x=.d d/\S[n]? = qq (qq ds)/\jM ds.length k=qq j/\S'=S.set n (qq (ds.set j d)):=by
 unfold jU at h
 split at h
 ·split at h
  ·rename_i ds e;obtain⟨j,e1,e2⟩:=bind_some h;cases e2;exact⟨_,_,_,ds,j,rfl,rfl,rfl,e,e1,rfl⟩
  ·cases h
 ·cases h
theorem aTQ{K:FrG}{fo fi fe:FE}(D:Ends)(σ:St)(H:Hp)(h:dL K (lQ fo fi fe) D σ H):wO (aV K fe) (aKq (aV K fo) (aV K fi) aJz) D σ H:=by
 obtain⟨F,L,S,env,fl,S',R,E,e,q⟩:=mF h;obtain⟨⟨we,S1⟩,e1,e⟩:=bind_some e;obtain⟨⟨wo,S2⟩,e2,e⟩:=bind_some e;obtain⟨⟨wi,S3⟩,e3,e⟩:=bind_some e;obtain⟨S4,e4,e⟩:=bind_some e;cases e;obtain⟨n,k,d,ds,j,rfl,rfl,rfl,e5,e6,rfl⟩:=aLW e4;refine⟨F,L,S,env,_,S1,R,E,e1,λ F1 L1 H1 v g1 R1 d1=>⟨F1,L1,S1,env,_,S2,R1,E.mono g1,e2,λ F2 L2 H2 o g2 R2 d2=>⟨F2,L2,S2,env,_,S3,R2,E.mono (g1.trans g2),e3,λ F3 L3 H3 i g3 R3 d3=>?_⟩⟩⟩
 obtain⟨a,ea,rfl⟩:=d2.mono g3;obtain⟨fa,xs,ha,dl⟩:=R3.loc n a ds ea e5;have hi:i=.int k:=by cases (show Den K F3 (.int k) i from d3);rfl
 refine⟨a,xs,k,j,rfl,hi,ha,by rw[<- dl.length];exact e6,?_⟩
 exact q F3 L3 _ ((g1.trans g2).trans g3) (R3.put ea fa (dl.set j (show Den K F3 d v from d1.mono (g2.trans g3)))) σ (E.mono ((g1.trans g2).trans g3))
theorem aTo{o i e:qw}{fo fi fe:FE}{pos':Pos}(ho:PE X o (aV X.K fo))(hi:PE X i (aV X.K fi))(he:PE X e (aV X.K fe))(ha:∀ v,assign (.Subscript o i pos') X.env v=(do
 let ov <- holding [v] (eval o X.env)
 let iv <- holding [v,ov] (eval i X.env)
 standAt pos'
 holding [v,ov,iv] (setItem ov iv v)
 release [v,ov,iv] [])) (hs:swapsWithSole [.Subscript o i pos'] e pos.line X.env=pure false) (hw:yw [.Subscript o i pos'] e X.env=pure qz):PS X (.Assign [.Subscript o i pos'] e pos) (dL X.K (lQ fo fi fe)):=
 PS.weak (aIs he (aRM ho hi aNP ha) hs hw) aTQ
noncomputable def eI(S:aC):W->W->Option (W×aC)
 | .loc n,.d x=>match S[n]? with
   | some (qq ds)=>if ds.length<qk then qq (.d .none,S.set n (qq (ds++[x]))) else qz
   | _=>qz
 | _,_=>qz
theorem aFm{S S':aC}{o x w:W}(h:eI S o x=qq (w,S')):∃ n d ds,o=.loc n/\x=.d d/\S[n]? = qq (qq ds)/\ds.length<qk/\w=.d .none/\S'=S.set n (qq (ds++[d])):=by
 unfold eI at h
 split at h
 ·split at h
  ·rename_i ds e
   split at h
   ·rename_i hz;cases h;exact⟨_,_,ds,rfl,rfl,e,hz,rfl,rfl⟩
   ·cases h
  ·cases h
 ·cases h
noncomputable def jZ(fo fe:FE):FE:=f2 fo fe eI
theorem aVf{K:FrG}{fo fe:FE}(σ:St)(H:Hp)(Q:VK)(h:aV K (jZ fo fe) σ H Q):tBM K "list" aG0 (aV K fo) (hU K (eO fe jY)) σ H Q:=by
 obtain⟨F,L,S,env,w,S',R,E,e,q⟩:=h;obtain⟨⟨wo,S1⟩,e1,e⟩:=bind_some e;obtain⟨⟨we,S2⟩,e2,e⟩:=bind_some e;obtain⟨n,d,ds,rfl,rfl,e5,hz,rfl,rfl⟩:=aFm e;refine⟨F,L,S,env,_,S1,R,E,e1,λ F1 L1 H1 o g1 R1 d1=>?_⟩
 obtain⟨a,ea,rfl⟩:=d1;refine⟨.inl ⟨rfl,?_⟩,F1,L1,S1,env,[.d d],S2,R1,E.mono g1,?_,λ F2 L2 H2 vs g2 R2 d2=>?_⟩
 ·obtain⟨xs,hx⟩:=R1.tr n a ea;exact⟨xs,bY.of hx⟩
 ·unfold eO;rw[e2];rfl
 ·cases d2 with
  | cons dd dr =>
    cases dr;have ea2:=g2.get ea;obtain⟨fa,xs,ha,dl⟩:=R2.loc n a ds ea2 e5;exact⟨a,xs,_,rfl,rfl,ha,by rw[<- dl.length];exact hz,q F2 L2 _ _ (g1.trans g2) (R2.put ea2 fa (dl.append (.cons dd .nil))) Den.non⟩
end
section
variable {X : Cx}{pos : Pos}
structure Wk(K:FrG)(F:Hp)(L:List qv)(J:It)(ds:List D):Prop where
 go:∀ (i:Nat) (H:Hp),bZ F H->i<ds.length->J.go i H
 stop:∀ (H:Hp),bZ F H->J.stop ds.length H
 yld:∀ (i:Nat) (H F1:Hp) (L1:List qv) (S:aC) (x:V) (H':Hp) (d:D),Gr F L F1 L1->Rel K F1 L1 S H->ds[i]? = qq d->J.yld i H x H'->∃ F2,bZ F1 F2/\Rel K F2 L1 S H'/\Den K F2 d x
def kG(K:FrG)(f:FL):TI:=λ σ H R=>∃ F L S env ds S',Rel K F L S H/\EnvR K F L env σ/\f env S=qq (ds,S')/\∀ F' L' H' J,Gr F L F' L'->Rel K F' L' S' H'->Wk K F' L' J ds->R J H'
theorem PI.weak{tg iter:qw}{t t':TI}(h:PI X tg iter t)(w:∀ σ H R,t' σ H R->t σ H R):PI X tg iter t':=λ aB s σ H R I q=>h aB s σ H R I (w σ H R q)
theorem aPN{K:FrG}{F:Hp}{L:List qv}{a:qv}{xs:List V}{ds:List D}(sq:bY K F a xs)(dl:DenL K F ds xs):Wk K F L (Itl K a) ds where
 go:=λ i H s hi=>⟨xs,xs[i]'(by rw[<- dl.length];exact hi),s.seq sq,by simp[dl.length▸hi]⟩
 stop:=λ H s=>⟨xs,s.seq sq,yHf dl.length.symm⟩
 yld:=λ i H F1 L1 S x H' d g R e y=>by
  obtain⟨e1,y⟩:=y;subst e1;have h:=y xs ((g.f.trans R.sub).seq sq);obtain⟨x',e2,dx⟩:=dl.get e;rw[h] at e2;cases e2;exact⟨F1,bZ.refl _,R,dx.mono g.f⟩
theorem aRD{K:FrG}{F:Hp}{L:List qv}{a:qv}{xs:List V}{ds:List D}(sq:cF K F a xs)(dl:DenL K F ds xs):Wk K F L (Itt K a) ds where
 go:=λ i H s hi=>⟨xs,xs[i]'(by rw[<- dl.length];exact hi),mP s sq,by simp[dl.length▸hi]⟩
 stop:=λ H s=>⟨xs,mP s sq,yHf dl.length.symm⟩
 yld:=λ i H F1 L1 S x H' d g R e y=>by
  obtain⟨e1,y⟩:=y;subst e1;have h:=y xs (mP (g.f.trans R.sub) sq);obtain⟨x',e2,dx⟩:=dl.get e;rw[h] at e2;cases e2;exact⟨F1,bZ.refl _,R,dx.mono g.f⟩
noncomputable def kB(lo:Int):Nat->List D
 | 0=>[]
 | n+1=>.int lo::kB (lo+1) n
theorem yB(n:Nat):∀ lo:Int,(kB lo n).length=n:=by
 induction n with
 | zero=>intro lo;rfl
 | succ n ih=>intro lo;simp[kB,ih]
theorem aGi:∀ (n:Nat) (lo:Int) (i:Nat),i<n->(kB lo n)[i]? = qq (.int (lo+i))
 | 0,_,_,h=>by omega
 | n+1,lo,0,_=>by simp[kB]
 | n+1,lo,i+1,h=>by
   rw[kB,yBj,aGi n (lo+1) i (by omega)]
   congr 2
   push_cast
   omega
theorem aNF{K:FrG}{F:Hp}{L:List qv}(lo:Int)(n:Nat):Wk K F L (Itr lo n) (kB lo n) where
 go:=λ i H s hi=>by rw[yB] at hi;exact hi
 stop:=λ H s=>by rw[yB];exact yAc _
 yld:=λ i H F1 L1 S x H' d g R e y=>by
  obtain⟨rfl,rfl⟩:=y;have hi:i<n:=by
   have:=(gIm e).1;rw[yB] at this;exact this
  rw[aGi n lo i hi] at e;cases e;exact⟨F1,bZ.refl _,R,.int _⟩
noncomputable def aJW(fa:FE):FL:=λ env S=>(fa env S).bind λ p=>match p.1 with
 | .d (.list ds)=>qq (ds,p.2)
 | _=>qz
noncomputable def aJO(fa:FE):FL:=λ env S=>(fa env S).bind λ p=>match p.1 with
 | .d (.tuple ds)=>qq (ds,p.2)
 | _=>qz
theorem aTG{tg a:qw}{fa:FE}(ha:PE X a (aV X.K fa)):PI X tg a (kG X.K (aJW fa)):=PI.weak (aOI ha) λ σ H Rr aT=>by
 obtain⟨F,L,S,env,ds,S',R,E,e,q⟩:=aT;obtain⟨⟨w,S1⟩,e1,e2⟩:=bind_some e;dsimp only at e2
 split at e2
 ·cases e2;refine⟨F,L,S,env,_,_,R,E,e1,λ F1 L1 H1 v g1 R1 d1=>?_⟩
  cases (show Den X.K F1 (.list ds) v from d1) with
  | lst sq dl=>exact⟨_,rfl,⟨_,R1.sub.seq sq⟩,q F1 L1 H1 _ g1 R1 (aPN sq dl)⟩
 ·cases e2
theorem aVe{tg a:qw}{fa:FE}(ha:PE X a (aV X.K fa)):PI X tg a (kG X.K (aJO fa)):=PI.weak (aR5 ha) λ σ H Rr aT=>by
 obtain⟨F,L,S,env,ds,S',R,E,e,q⟩:=aT;obtain⟨⟨w,S1⟩,e1,e2⟩:=bind_some e;dsimp only at e2
 split at e2
 ·cases e2;refine⟨F,L,S,env,_,_,R,E,e1,λ F1 L1 H1 v g1 R1 d1=>?_⟩
  cases (show Den X.K F1 (.tuple ds) v from d1) with
  | tup sq dl=>exact⟨_,rfl,⟨_,mP R1.sub sq⟩,q F1 L1 H1 _ g1 R1 (aRD sq dl)⟩
 ·cases e2
noncomputable def lI(fa:FE):FL:=λ env S=>(fa env S).bind λ p=>match p.1 with
 | .d (.int j)=>if -(2^62)<=j/\j<2^62 then qq (kB 0 j.toNat,p.2) else qz
 | _=>qz
theorem aRk{K:FrG}{fa:FE}(σ:St)(H:Hp)(Rr:It->Hp->Prop)(h:kG K (lI fa) σ H Rr):aJA (hU K (eO fa jY)) σ H Rr:=by
 obtain⟨F,L,S,env,ds,S',R,E,e,q⟩:=h;obtain⟨⟨w,S1⟩,e1,e2⟩:=bind_some e;dsimp only at e2
 split at e2
 ·split at e2
  ·rename_i j c;cases e2;refine⟨F,L,S,env,[.d (.int j)],_,R,E,by unfold eO;rw[e1];rfl,λ F1 L1 H1 vs g1 R1 d1=>?_⟩
   cases d1 with
   | cons dd dr =>
     cases dr;cases (show Den K F1 (.int j) _ from dd)
     exact⟨j,rfl,c.1,c.2,q F1 L1 H1 _ g1 R1 (aNF 0 j.toNat)⟩
  ·cases e2
 ·cases e2
noncomputable def fU(t:Tg)(fb:FS):List D->FS
 | []=>λ env S=>qq (.nx env,S)
 | d::ds=>λ env S=>(t.put d env).bind λ e1=>(fb e1 S).bind λ q=>(match q.1 with
    | .nx e=>fU t fb ds e q.2
    | .ct e=>fU t fb ds e q.2
    | .bk e=>qq (.nx e,q.2)
    | .rt w=>qq (.rt w,q.2))
noncomputable def dC(t:Tg)(fi:FL)(fb:FS):FS:=λ env S=>(fi env S).bind λ p=>fU t fb p.1 env p.2
theorem aUK{tg iter:qw}{b:List jz}{t:Tg}{g:TG}{fi:FL}{fb:FS}(hp:PassesOwn (model X.prog X.w) X.A X.env X.xe)(hc:X.calm=true)(hi:PI X tg iter (kG X.K fi))(hg:PG X tg g)(ga:GA X.K t g)(hb:dU X b (dL X.K fb))
 (hs:∀ x,jj iter X.env x=pure x):PS X (.For tg iter b [] pos) (dL X.K (dC t fi fb)):=PS.weak (aRO hp hc hi hg hb hs) λ D σ H h=>by
 obtain⟨F,L,S,env,fl,S',R,E,e,q⟩:=mF h;obtain⟨⟨ds,S1⟩,e1,e2⟩:=bind_some e;refine⟨F,L,S,env,ds,S1,R,E,e1,λ F0 L0 H0 J g0 R0 wk=>?_⟩
 dsimp only at e2;refine⟨λ i m σ1 H1=>i+m=ds.length/\∃ F1 L1 S1 env1,Gr F0 L0 F1 L1/\Rel X.K F1 L1 S1 H1/\EnvR X.K F1 L1 env1 σ1/\fU t fb (ds.drop i) env1 S1=qq (fl,S'),
  ⟨ds.length,yEb _,F0,L0,S1,env,Gr.refl,R0,E.mono g0,by rw[yEl];exact e2⟩,?_⟩
 rintro i m σ1 H1 ⟨him,F1,L1,S1',env1,g1,R1,E1,e3⟩;cases m with
 | zero =>
   have hi:i=ds.length:=by omega
   subst hi;rw[yGz] at e3;cases e3;exact .inl ⟨wk.stop H1 (g1.f.trans R1.sub),q F1 L1 H1 (g0.trans g1) R1 σ1 E1⟩
 | succ m =>
   have hi:i<ds.length:=by omega
   refine .inr ⟨wk.go i H1 (g1.f.trans R1.sub) hi,λ σ3 H3=>∃ F3 L3 S3 env3,Gr F0 L0 F3 L3/\Rel X.K F3 L3 S3 H3/\EnvR X.K F3 L3 env3 σ3/\fU t fb (ds.drop (i+1)) env3 S3=qq (fl,S'),
    λ σ3 H3 h3=>⟨m,yEn m,by omega,h3⟩,λ x H2 y=>?_⟩
   rw[yEj hi] at e3;obtain⟨env2,e4,e5⟩:=bind_some e3;obtain⟨⟨f6,S6⟩,e6,e7⟩:=bind_some e5;obtain⟨F2,s2,R2,d2⟩:=wk.yld i H1 F1 L1 S1' x H2 ds[i] g1 R1 (yAa hi) y;have g2:Gr F1 L1 F2 L1:=⟨s2,[],by simp⟩
   refine ga ds[i] x σ1 H2 F2 L1 S1' env1 env2 _ R2 (E1.mono g2) d2 e4 λ σ2 E2=>?_
   refine mG R2 E2 e6 λ F3 L3 H3 g3 R3=>?_
   have g03:=(g1.trans g2).trans g3;cases f6 with
   | nx e'=>exact λ σ3 E3=>⟨F3,L3,S6,e',g03,R3,E3,e7⟩
   | ct e'=>exact λ σ3 E3=>⟨F3,L3,S6,e',g03,R3,E3,e7⟩
   | bk e'=>cases e7;exact λ σ3 E3=>q F3 L3 H3 (g0.trans g03) R3 σ3 E3
   | rt w=>cases e7;exact λ v d=>q F3 L3 H3 (g0.trans g03) R3 v d
noncomputable def lS(k:Nat)(S:aC):W->Option (W×aC)
 | .d x=>qq (.d x,S.take k)
 | .loc m=>if m<k then qq (.loc m,S.take k) else match S[m]? with
   | some (qq ds)=>qq (.d (.list ds),S.take k)
   | _=>qz
noncomputable def fD(fb:FS)(n:Nat)(ws:List W)(S:aC):Option (W×aC):=(fb (ws.map qq++yAd (n-ws.length) qz) S).bind λ p=>match p.1 with
 | .rt w=>lS S.length p.2 w
 | .nx _=>qq (.d .none,p.2.take S.length)
 | _=>qz
theorem aLH{K:FrG}{F:Hp}{L:List qv}{N:List Str}:∀ {ws:List W}{vs:List V},WDenL K F L ws vs->EnvR K F L (ws.map qq++yAd (N.length-ws.length) qz) (L2.start N vs):=by
 intro ws vs h;unfold L2.start;rw[h.length];generalize N.length-vs.length=k;refine⟨by simp[h.length],?_⟩
 induction h with
 | nil =>
   intro i w e;have:=xAl e;simp at this
 | cons hd tl ih =>
   intro i w e;cases i with
   | zero=>simp at e;subst e;exact⟨_,rfl,hd⟩
   | succ i =>
     obtain⟨v,e1,d⟩:=ih i w (by simpa using e)
     exact⟨v,by simpa using e1,d⟩
theorem aIL{K:FrG}{F F1 H1:Hp}{L L1:List qv}{S S1:aC}{w w':W}{S':aC}{v:V}{Q:VK}(R:L.length=S.length)(g:Gr F L F1 L1)(R1:Rel K F1 L1 S1 H1)(d:eH K F1 L1 w v)(e:lS S.length S1 w=qq (w',S'))(q:sH K F L S' w' Q):Q v H1:=by
 obtain⟨sf,M,rfl⟩:=g;cases w with
 | d x =>
   cases e;have R2:=R1.cut;rw[R] at R2;exact q F1 L H1 v ⟨sf,[],by simp⟩ R2 d
 | loc m =>
   have e':(if m<S.length then qq (W.loc m,S1.take S.length) else match S1[m]? with | some (qq ds)=>qq (W.d (.list ds),S1.take S.length) | _=>qz)=qq (w',S'):=e
   split at e'
   ·rename_i hm;cases e';have R2:=R1.cut;rw[R] at R2;obtain⟨a,ea,rfl⟩:=d;rw[xAn (by rw[R];exact hm)] at ea
    exact q F1 L H1 _ ⟨sf,[],by simp⟩ R2 ⟨a,ea,rfl⟩
   ·rename_i hm
    split at e'
    ·rename_i ds es;cases e';obtain⟨a,ea,rfl⟩:=d;obtain⟨F2,g2,R2,d2⟩:=R1.freeze ea es;have R3:=R2.cut;rw[R,List.take_set,yEy (by rw[yBo];omega)] at R3
     exact q F2 L H1 _ ⟨sf.trans g2.f,[],by simp⟩ R3 d2
    ·cases e'
theorem aQM{K:FrG}{fb:FS}{N:List Str}{np:Nat}{vs:List V}{H:Hp}{Q:VK}{E:XK}(h:tD K np (fD fb N.length) vs H Q E):dL K fb {nx:=λ _ H'=>Q .non H',rt:=Q } (L2.start N vs) H:=by
 obtain⟨F,L,S,ws,w,S',hn,R,dl,e,q⟩:=h;obtain⟨⟨fl,S1⟩,e1,e2⟩:=bind_some e;refine mG R (aLH dl) e1 λ F1 L1 H1 g1 R1=>?_
 cases fl with
 | nx aN =>
   cases e2;exact λ σ' E'=>aIL (w:=.d .none) R.len g1 R1 Den.non rfl q
 | rt w'=>exact λ v d=>aIL R.len g1 R1 d e2 q
 | bk aN=>cases e2
 | ct aN=>cases e2
end
theorem aEF{α β:Type}{f:α->β->Sem (ForInStep β)}{g:α->β->β}:∀ (l:List α) (c:β),(∀ x∈l,∀ c,f x c=pure (ForInStep.yield (g x c)))->forIn l c f=pure (l.foldl (λ c x=>g x c) c)
 | [],c,_=>rfl
 | x::l,c,h=>by
   rw[yDm,h x xAd c,pure_bind];exact aEF l (g x c) λ y hy=>h y (xAg _ hy)
noncomputable def jQ(env:Env)(x:Str×vz)(cs:List (Str×qv)):List (Str×qv):=if (x.2==NameKind.free)=true then (x.1,(env.cells.lookup x.1).getD 0)::cs else cs
noncomputable def wT(scope:zk)(env:Env):List (Str×qv):=scope.names.foldl (λ c x=>jQ env x c) []
theorem aLZ{scope:zk}{env:Env}(h:∀ x∈scope.names,x.2=.free->∃ c,env.cells.lookup x.1=qq c):closureFor scope env=pure (wT scope env):=by
 unfold closureFor wT;dsimp only;rw[aEF (g:=jQ env) scope.names [] (λ x hx c=>?_)]
 ·rfl
 ·obtain⟨n,k⟩:=x;unfold jQ;dsimp only
  by_cases hk:k=.free
  ·obtain⟨a,ha⟩:=h (n,k) hx hk;rw[if_pos (by simp[hk]),if_pos (by simp[hk])]
   have:cellOf env n=pure a:=by unfold cellOf;rw[ha]
   rw[this,pure_bind,ha];rfl
  ·rw[if_neg (by simp[hk]),if_neg (by simp[hk])]
theorem aGt{env:Env}:∀ (l:List (Str×vz)) (aH:List (Str×qv)),(∀ x∈l,x.2=.free->∃ c,env.cells.lookup x.1=qq c)->(∀ x c,aH.lookup x=qq c->env.cells.lookup x=qq c) ->
 ∀ x c,(l.foldl (λ c x=>jQ env x c) aH).lookup x=qq c->env.cells.lookup x=qq c
 | [],aH,_,ha,x,c,e=>ha x c e
 | y::l,aH,h,ha,x,c,e=>by
   refine aGt l (jQ env y aH) (λ z hz=>h z (xAg _ hz)) (λ z d ez=>?_) x c e
   unfold jQ at ez
   split at ez
   ·rename_i hk;obtain⟨a,hy⟩:=h y xAd (by simpa using hk)
    rw[yBv] at ez
    split at ez
    ·rename_i hz;cases ez;have:z=y.1:=by simpa using hz
     rw[this,hy];rfl
    ·exact ha z d ez
   ·exact ha z d ez
theorem aCM{env:Env}:∀ (l:List (Str×vz)) (aH:List (Str×qv)) (x:Str),((∃ k,(x,k)∈l/\k=.free)\/∃ c,aH.lookup x=qq c)->∃ c,(l.foldl (λ c x=>jQ env x c) aH).lookup x=qq c
 | [],aH,x,h=>by
   rcases h with ⟨k,hk,_⟩ | h
   ·simp at hk
   ·exact h
 | y::l,aH,x,h=>by
   refine aCM l (jQ env y aH) x ?_;have step:(∃ c,aH.lookup x=qq c)->∃ c,(jQ env y aH).lookup x=qq c:=λ aT=>by
    obtain⟨c,e⟩:=aT;unfold jQ
    split
    ·rw[yBv]
     split
     ·exact⟨_,rfl⟩
     ·exact⟨c,e⟩
    ·exact⟨c,e⟩
   rcases h with ⟨k,hk,e⟩ | h
   ·rcases List.mem_cons.mp hk with z | z
    ·right
     subst z e;unfold jQ;rw[if_pos (by simp)]
     exact⟨(env.cells.lookup x).getD 0,by rw[yBv];simp⟩
    ·exact .inl ⟨k,z,e⟩
   ·exact .inr (step h)
theorem aEK{x:Str}(h:Str->vz->vz):∀ l:List (Str×vz),(l.map λ p=>(p.1,h p.1 p.2)).lookup x=(l.lookup x).map (h x)
 | []=>rfl
 | (n,k)::r=>by
   have ih:=aEK (x:=x) h r;rw[yBb,yBv,yBv];cases hx:x==n with
   | true =>
     have e:x=n:=by simpa using hx
     subst e;rfl
   | false=>exact ih
theorem aK1{env:Env}{x:Str}(names:List (Str×vz)) :
 (names.map λ(n,k)=>if (k==NameKind.free&&env.scope.kind==.function&&env.kindOf n==qq .cell) then (n,NameKind.cell) else (n,k)).lookup x =
   (names.lookup x).map λ k=>if (k==NameKind.free&&env.scope.kind==.function&&env.kindOf x==qq .cell) then NameKind.cell else k:=by
 have e:(λ(p:Str×vz)=>match p with | (n,k)=>if (k==NameKind.free&&env.scope.kind==.function&&env.kindOf n==qq .cell)=true then (n,NameKind.cell) else (n,k)) =
  λ p=>(p.1,if (p.2==NameKind.free&&env.scope.kind==.function&&env.kindOf p.1==qq .cell)=true then NameKind.cell else p.2):=funext λ aT=>by
  obtain⟨n,k⟩:=aT;dsimp only
  split<;>rfl
 rw[e];exact aEK (λ n k=>if (k==NameKind.free&&env.scope.kind==.function&&env.kindOf n==qq .cell)=true then NameKind.cell else k) names
section
variable {prog : qo}{w : zw}{A : zy}{R : Result -> qj -> Prop}{s : qj}
theorem aLm{elt target iter:qw}{ifs:List qw}{scope:zk}{pos:Pos}{it aH:qx}{env:Env}(I:Nat->qj->Prop)
 (turn:∀ n s,I n s->qy (model prog w) A (ju it) (λ r s₁=>match r with
   | none=>R (.ok .next) s₁
   | some v=>qy (model prog w) A (wu target it v) (λ _ s₀=>qy (model prog w) A (assign target env v) (λ _ s₂ =>
      qy (model prog w) A (forIn ifs true λ c r=>if r=true then do let ok <- isTrue c env (eval c env);pure (ForInStep.yield ok) else pure (ForInStep.yield r)) (λ ok s₃ =>
       if ok=true then qy (model prog w) A (eval elt env) (λ x s₄ =>
        qy (model prog w) A (call (.builtin "list.append") [aH,x]) (λ _ s₅=>∃ m,m<n/\I m s₅) (λ _ _=>False) s₄) (λ _ _=>False) s₃
       else ∃ m,m<n/\I m s₃) (λ _ _=>False) s₂) (λ _ _=>False) s₀) (λ _ _=>False) s₁) (λ _ _=>False) s)
 (n:Nat) (h:I n s):vw (model prog w) A (.compLoop (.ListComp elt [⟨target,iter,ifs,0⟩] scope pos) 0 it aH env) R s:=by
 have up:∀ {α:Type}{t:Sem α}{Q Q':α->qj->Prop}{E:qx->qj->Prop}{s:qj},qy (model prog w) A t Q (λ _ _=>False) s->(∀ a s,Q a s->Q' a s)->qy (model prog w) A t Q' E s:=
  λ h hq=>wpAny_mono h hq λ _ _ f=>f.elim
 refine codeAny_loop rfl I (λ n s hI=>?_) n h
 show qy _ A ((compTurn (.ListComp elt [⟨target,iter,ifs,0⟩] scope pos) 0 it aH env).onRaise (λ x=>do noteFrame x env;theTreesLotGoes x)) _ _ s
 refine wpAny_noted ?_;rw[compTurn_list];refine wB (yy (wB (up (turn n s hI) λ r s₁ h₁=>?_)))
 cases r with
 | none=>exact wP h₁
 | some v =>
   refine wB (up h₁ λ _ s₀ h₀=>?_)
   refine wB (up h₀ λ _ s₂ h₂=>wB (up h₂ λ ok s₃ h₃=>?_))
   cases ok with
   | false=>exact wP ⟨rfl,h₃⟩
   | true =>
     exact wB (wB (up h₃ λ x s₄ h₄=>wB (up h₄ λ _ s₅ h₅=>wP (wP ⟨rfl,h₅⟩))))
end
noncomputable def kL(X:Cx)(aB:List (qv×Obj))(fp:List qv)(scope:zk)(C:qv)(s₀:qj)(H₀:Hp):Cx:=
 {X with s₀:=s₀,H₀:=H₀,env:=compEnvC scope (wT scope X.env) C X.env,outer:=X.stack,stack:=X.stack,ex:=fp,fn:=λ _=>false,pn:=X.pn++aB,xe:=λ _ _=>False }
def jR(X:Cx)(scope:zk)(Y:Cx):Prop:=∃ aB fp C s₀ H₀,Y=kL X aB fp scope C s₀ H₀
structure ScOk(scope osc:zk):Prop where
 kind:scope.kind=.function
 nocell:∀ x∈scope.names,x.2≠.cell
 free:∀ x∈scope.names,x.2=.free->osc.names.lookup x.1=qq .cell\/osc.names.lookup x.1=qq .free
 loc:∀ x∈scope.names,x.2=.local->scope.names.lookup x.1=qq .local
theorem mem_of_lookup{α:Type}{x:Str}{k:α}:∀ {l:List (Str×α)},l.lookup x=qq k->(x,k)∈l
 | [],h=>by simp at h
 | (n,j)::r,h=>by
   rw[yBv] at h
   split at h
   ·rename_i hx;cases h;have:x=n:=by simpa using hx
    subst this;exact xAd
   ·exact xAg _ (mem_of_lookup h)
section
variable {X : Cx}{aB : List (qv×Obj)}{σ : L2.St}{H : Hp}{s : qj}{scope : zk}{fp : List qv}
theorem aFo{C:qv}{s₀:qj}{H₀:Hp}{x:Str}:(kL X aB fp scope C s₀ H₀).env.kindOf x=(scope.names.lookup x).map λ k=>if (k==NameKind.free&&X.env.scope.kind==.function&&X.env.kindOf x==qq .cell) then NameKind.cell else k:=
 aK1 scope.names
theorem aFt(ok:ScOk scope X.env.scope){C:qv}{s₀:qj}{H₀:Hp}{x:Str}(h:(kL X aB fp scope C s₀ H₀).env.kindOf x=qq .cell\/(kL X aB fp scope C s₀ H₀).env.kindOf x=qq .free):scope.names.lookup x=qq .free:=by
 rw[aFo] at h;cases e:scope.names.lookup x with
 | none=>rw[e] at h;simp at h
 | some k =>
   rw[e] at h;have nc:=ok.nocell (x,k) (mem_of_lookup e);cases k with
   | free=>rfl
   | cell=>exact absurd rfl nc
   | «local» => simp at h
   | globalExplicit=>simp at h
   | globalImplicit=>simp at h
theorem aHF(I:Inv X aB σ H s)(hfp:∀ b∈fp,gH X aB H b):∀ b∈fp,b ∉ hV X.stack:=λ b hb z=>by
 rcases List.mem_cons.mp (I.stkSub b z) with q | q
 ·exact(hfp b hb).2.1 q
 ·exact(hfp b hb).2.2.1 q
theorem aFp(I:Inv X aB σ H s)(ok:ScOk scope X.env.scope):∀ x∈scope.names,x.2=.free->∃ c,X.env.cells.lookup x.1=qq c:=λ x hx e=>by
 rcases ok.free x hx e with q | q
 ·exact I.ok.has x.1 (.inl q)
 ·exact I.ok.has x.1 (.inr q)
theorem pW(I:Inv X aB σ H s)(ok:ScOk scope X.env.scope){x:Str}{c:qv}(h:(wT scope X.env).lookup x=qq c):X.env.cells.lookup x=qq c:=
 aGt scope.names [] (aFp I ok) (λ x c e=>by simp at e) x c h
theorem aOn(I:Inv X aB σ H s)(ok:ScOk scope X.env.scope)(hfp:∀ b∈fp,gH X aB H b)(hth:∀ b∈fp,b<s.heap.objs.size){C:qv}(hC:s.heap.objs.size<=C):(kL X aB fp scope C s H).Ok where
 mod:=I.ok.mod
 kind:=ok.kind
 glob:=I.ok.glob
 blt:=I.ok.blt
 above:=hC
 inj:=λ x y c h1 h2=>I.ok.inj x y c (pW I ok h1) (pW I ok h2)
 has:=λ x h=>aCM scope.names [] x (.inl ⟨.free,mem_of_lookup (aFt ok h),rfl⟩)
 cab:=λ x c h _=>nomatch h
 hd:=I.ok.hd
 frames:=I.ok.frames
 stk:=.inl rfl
 exf:=λ b hb=>⟨λ z=>absurd (xAc (hth b hb) hC) (by have z':b=C:=z;rw[z'];exact yBx _),λ x c h=>(hfp b hb).2.2.2.2.1 x c (pW I ok h)⟩
 bs:=I.bs
 bsz:=xAi I.ok.bsz I.sz
 noex:=λ b o e hb=>by
  rcases (hfp b hb).2.2.2.1 with z | z
  ·exact I.ok.noex b o e z
  ·exact absurd (xAc (xAa e) (xAi I.ok.bsz z)) (yBx _)
 exfs:=λ b hb=>aHF I hfp b hb
 funs:=I.stack
 frf:=I.stkFree
end
noncomputable def clr{α:Type}(is:List Nat)(l:List (Option α)):List (Option α):=is.foldl (λ e i=>e.set i qz) l
theorem yM{α:Type}:∀ (is:List Nat) (l:List (Option α)),(clr is l).length=l.length
 | [],_=>rfl
 | i::is,l=>by
   show(clr is (l.set i qz)).length=_;rw[yM is,yBi]
theorem zW{α:Type}:∀ (is:List Nat) (l:List (Option α)) (j:Nat) (v:α),(clr is l)[j]? = qq (qq v)->l[j]? = qq (qq v)/\j ∉ is
 | [],_,_,_,h=>⟨h,by simp⟩
 | i::is,l,j,v,h=>by
   obtain⟨h1,h2⟩:=zW is (l.set i qz) j v h
   by_cases hj:i=j
   ·subst hj;rcases yGj i l.length with q | q
    ·rw[yAy q] at h1;cases h1
    ·rw[yDd (by rw[yBi];exact q)] at h1;cases h1
   ·rw[yAz hj] at h1;exact⟨h1,λ z=>(List.mem_cons.mp z).elim (λ e=>hj e.symm) h2⟩
theorem aGx{α:Type}:∀ (is:List Nat) (l:List (Option α)) (j:Nat),j ∉ is->(clr is l)[j]? = l[j]?
 | [],_,_,_=>rfl
 | i::is,l,j,h=>by
   show(clr is (l.set i qz))[j]? = _;rw[aGx is _ j (λ z=>h (xAg _ z)),yAz (λ z=>h (by rw[z];exact xAd))]
noncomputable def Tg.slots:Tg->List Nat
 | .one i=>[i]
 | .many is=>is
theorem EnvR.clr{K:FrG}{F:Hp}{L:List qv}{env:aX}{σ:St}(h:EnvR K F L env σ)(is:List Nat):EnvR K F L (EV.clr is env) (EV.clr is σ):=
 ⟨by rw[yM,yM];exact h.len,λ j w e=>by
  obtain⟨e1,hj⟩:=zW is env j w e;obtain⟨v,e2,d⟩:=h.get j w e1;exact⟨v,by rw[aGx is σ j hj];exact e2,d⟩⟩
theorem aBI:∀ {is:List Nat}{ds:List D}{env aN:aX}{j:Nat},oD is ds env=qq aN->j ∉ is->aN[j]? = env[j]?
 | [],[],_,_,_,e,_=>by cases e;rfl
 | i::is,d::ds,env,aN,j,e,h=>by
   rw[aBI (is:=is) (ds:=ds) e (λ z=>h (xAg _ z)),yAz (λ z=>h (by rw[z];exact xAd))]
 | [],_::_,_,_,_,e,_=>by cases e
 | _::_,[],_,_,_,e,_=>by cases e
theorem Tg.put_keep{t:Tg}{d:D}{env aN:aX}{j:Nat}(e:t.put d env=qq aN)(h:j ∉ t.slots):aN[j]? = env[j]?:=by
 cases t with
 | one i=>cases e;exact yAz (λ z=>h (by rw[z];exact xAd))
 | many is =>
   cases d with
   | tuple ds=>exact aBI e h
   | list ds=>exact aBI e h
   | _=>cases e
theorem aBC:∀ {is:List Nat}{ds:List D}{env aN:aX},oD is ds env=qq aN->aN.length=env.length
 | [],[],_,_,e=>by cases e;rfl
 | i::is,d::ds,env,aN,e=>by rw[aBC (is:=is) (ds:=ds) e,yBi]
 | [],_::_,_,_,e=>by cases e
 | _::_,[],_,_,e=>by cases e
theorem Tg.put_length{t:Tg}{d:D}{env aN:aX}(e:t.put d env=qq aN):aN.length=env.length:=by
 cases t with
 | one i=>cases e;exact yBi
 | many is =>
   cases d with
   | tuple ds=>exact aBC e
   | list ds=>exact aBC e
   | _=>cases e
theorem EnvR.back{K:FrG}{F:Hp}{L:List qv}{env aN:aX}{σ:St}{t:Tg}{d:D}(e:t.put d (EV.clr t.slots env)=qq aN)(h:EnvR K F L aN σ):EnvR K F L (EV.clr t.slots env) σ:=
 ⟨by rw[<- h.len,Tg.put_length e],λ j w q=>by
  obtain⟨_,hj⟩:=zW t.slots env j w q;exact h.get j w (by rw[Tg.put_keep e hj];exact q)⟩
noncomputable def gX(t:Tg)(fc:FT)(fe:FE)(n:Nat)(env:aX):List D->aC->Option aC
 | [],S=>qq S
 | d::ds,S=>(t.put d env).bind λ e1=>(fc e1 S).bind λ c=>if c.1=true then (fe e1 c.2).bind λ p=>(eI p.2 (.loc n) p.1).bind λ r=>gX t fc fe n env ds r.2 else gX t fc fe n env ds c.2
noncomputable def iI(t:Tg)(fi:FL)(fc:FT)(fe:FE):FL:=λ env S=>(fi env S).bind λ p=>(gX t fc fe p.2.length (clr t.slots env) p.1 (p.2++[qq []])).bind λ S'=>match S'[p.2.length]? with
 | some (qq zs)=>qq (zs,S'.take p.2.length)
 | _=>qz
def mE(Y:Cx)(ifs:List qw)(fc:FT):Prop:=∀ (aB:List (qv×Obj)) (s:qj) (σ:St) (H:Hp) (Q:Bool->Hp->Prop),Inv Y aB σ H s->fL Y.K fc σ H Q ->
 qy (model Y.prog Y.w) Y.A (forIn ifs true λ c r=>if r=true then do let ok <- isTrue c Y.env (eval c Y.env);pure (ForInStep.yield ok) else pure (ForInStep.yield r)) (TP Y aB σ Q) Y.xe s
noncomputable def nB:FT:=λ _ S=>qq (true,S)
theorem aFv{Y:Cx}:mE Y [] nB:=λ aB s σ H Q I aT=>by
 obtain⟨F,L,S,env,b,S',R,E,e,q⟩:=aT;cases e;exact wpAny_tests_nil ⟨H,I,q F L H Gr.refl R⟩
theorem aFY{Y:Cx}{c:qw}{fc:FT}(h:PT Y c (fL Y.K fc)):mE Y [c] fc:=λ aB s σ H Q I q=>wpAny_tests_one (h aB s σ H Q I q)
def aC8(N:List Str)(scope:zk)(is:List Nat):Prop:=∀ (i:Nat) (x:Str),N[i]? = qq x->scope.names.lookup x=qq .local->i∈is
section
variable {X : Cx}{scope : zk}{tg iter elt : qw}{ifs : List qw}{pos : Pos}{t : Tg}{g : TG}{fi : FL}{fc : FT}{fe : FE}
theorem aFN(use:Option (qx->Sem Unit))(hc:X.calm=true)(ok:ScOk scope X.env.scope)(own:aC8 X.N scope t.slots)(hi:PI X tg iter (kG X.K fi))(hg:∀ Y,jR X scope Y->PG Y tg g)(ga:GA X.K t g)
 (ht:∀ Y,jR X scope Y->mE Y ifs fc) (he:∀ Y,jR X scope Y->PE Y elt (aV X.K fe)) (hs:∀ x,jj iter X.env x=pure x)
 {aB:List (qv×Obj)}{s:qj}{σ:St}{H:Hp}{Q:VK}{QQ:qx->qj->Prop}{pp:Pos} (I:Inv X aB σ H s) (h:iA X.K (iI t fi fc fe) σ H Q)
 (hend:∀ (p C:qv) (s1:qj) (H':Hp),gH X aB H' C->(∃ m,s1.heap.Ns C m)->(∀ h',yDx C s1.heap h'->Inv X aB σ H' {s1 with heap:=h' })->Q (.ref p) H' ->
   compPost (model X.prog X.w) X.A X.xe use QQ (.ref p) C (.ok .next) s1) :
 qy (model X.prog X.w) X.A (comprehension (.ListComp elt [⟨tg,iter,ifs,0⟩] scope pos) scope X.env pp (newList []) false (eval iter X.env) use) QQ X.xe s:=by
 obtain⟨F,L,S,env,zs,S',R,E,e,q⟩:=h;obtain⟨⟨ds,S1⟩,e1,e⟩:=bind_some e;obtain⟨S2,e2,e⟩:=bind_some e;dsimp only at e e2;have hz:S2[S1.length]? = qq (qq zs)/\S'=S2.take S1.length:=by
  split at e
  ·rename_i z ez;cases e;exact⟨ez,rfl⟩
  ·cases e
 obtain⟨hz,rfl⟩:=hz;refine wpAny_comprehension_free (use:=use) rfl hs (aLZ (aFp I ok)) ok.kind ok.loc ?_;refine bD (hi aB s σ H (λ J H'=>∃ F' L',Gr F L F' L'/\Rel X.K F' L' S1 H'/\Wk X.K F' L' J ds) I ⟨F,L,S,env,ds,S1,R,E,e1,λ F' L' H' J g R' wk=>⟨F',L',g,R',wk⟩⟩) λ v s1 h1=>bD h1 λ itv s2 h2=>?_
 obtain⟨it,fp,tn,J,H2,rfl,I2,T,st2,f2,F1,L1,g1,R1,wk⟩:=h2;refine xy (wpAny_newFunctionEnv ok.nocell (by intro y hy;simp at hy) (λ h₁ hns₁ hsb₁=>?_) ok.kind)
 dsimp only at hns₁ hsb₁ ⊢;have I3:Inv X aB σ (bE H2 s2.heap.objs.size (.lst [])) {s2 with heap:=s2.heap.push {cls:=.type "list",dict:=qz,data:=.seq ([]:List qx).toArray } }:=I2.lnew (aF:=[]) (t':=s2.toks) .nil (yGa _)
 generalize hs3:({s2 with heap:=s2.heap.push {cls:=.type "list",dict:=qz,data:=.seq ([]:List qx).toArray } }:qj)=s3 at I3
 have hh3:s2.heap.push {cls:=.type "list",dict:=qz,data:=.seq ([]:List qx).toArray }=s3.heap:=by rw[<- hs3]
 generalize hD:s2.heap.objs.size=Dd at I3;generalize hH3:bE H2 Dd (.lst [])=H3 at I3;have hfr2:H2 Dd=qz:=by rw[<- hD];exact I2.fresh
 rw[hh3] at hns₁ hsb₁;rw[hh3];have hst:({heap:=h₁,gens:=s2.gens,drawn:=s2.drawn,toks:=s2.toks+([]:List (Str×qx)).length,os:=s2.os }:qj)={s3 with heap:=h₁,toks:=s3.toks+([]:List (Str×qx)).length }:=by rw[<- hs3]
 rw[hst];clear hst;generalize hC:s3.heap.objs.size=C at hns₁ hsb₁;have old:∀ b u,s3.heap.get? b=qq u->h₁.get? b=qq u:=λ b u q=>by
  have hb:b≠C:=by rw[<- hC];exact xAk (xAa q)
  exact hsb₁.extBut b u hb (hpS _ q)
 have lt2:∀ b∈fp,b<s2.heap.objs.size:=λ b hb=>by
  obtain⟨o,eo,_⟩:=T.obj 0 _ st2 b hb;exact xAa eo
 have up23:∀ b u,s2.heap.get? b=qq u->s3.heap.get? b=qq u:=λ b u q=>by rw[<- hh3];exact hpS _ q
 have lt3:∀ b∈fp,b<s3.heap.objs.size:=λ b hb=>by
  obtain⟨o,eo,_⟩:=T.obj 0 _ st2 b hb;exact xAa (up23 b o eo)
 have f3:∀ b∈fp,gH X aB H3 b:=λ b hb=>by
  refine⟨?_,(f2 b hb).2⟩;have ne:b≠Dd:=by rw[<- hD];exact xAk (lt2 b hb)
  rw[<- hH3,bP ne];exact(f2 b hb).1
 have okY:(kL X aB fp scope C s3 H3).Ok:=aOn I3 ok f3 lt3 (by rw[hC];exact yAc _)
 have hIC:jR X scope (kL X aB fp scope C s3 H3):=⟨aB,fp,C,s3,H3,rfl⟩;generalize hY:kL X aB fp scope C s3 H3=Y at okY hIC;have yE:Y.env=compEnvC scope (wT scope X.env) C X.env:=by rw[<- hY];rfl
 have I4:Inv Y [] (clr t.slots σ) H3 {s3 with heap:=h₁,toks:=s3.toks+([]:List (Str×qx)).length }:=by
  rw[<- hY] at okY ⊢;refine⟨okY,rfl,I3.bare,Un.kept old,⟨_,hns₁,λ i x v a1 a2 a3=>?_⟩,λ x c a=>?_,?_,λ x c a=>I3.freeC x c (pW I3 ok a),λ p hp=>?_,I3.hok.kept old,by rw[yM];exact I3.len⟩
  ·obtain⟨a4,a5⟩:=zW t.slots σ i v a2;have nl:scope.names.lookup x≠qq .local:=λ z=>a5 (own i x a1 z)
   have qS:(kL X aB fp scope C s3 H3).env.kindOf x=qq .cell\/(kL X aB fp scope C s3 H3).env.kindOf x=qq .free:=by
    rcases a3 with z | z | z
    ·exfalso;have z':(kL X aB fp scope C s3 H3).env.kindOf x=qq .local:=z;rw[aFo] at z';cases ek:scope.names.lookup x with
     | none=>rw[ek] at z';cases z'
     | some k =>
       rw[ek] at z';cases k with
       | «local» => exact nl ek
       | free =>
         simp only[Option.map_some,Option.some.injEq] at z'
         split at z'<;>cases z'
       | cell=>exact ok.nocell (x,.cell) (mem_of_lookup ek) rfl
       | globalExplicit=>simp at z'
       | globalImplicit=>simp at z'
    ·exact .inl z
    ·exact .inr z
   have fr:=aFt ok qS;have ov:=ok.free (x,.free) (mem_of_lookup fr) rfl;obtain⟨m,hm,hl⟩:=I3.loc;obtain⟨u,ru,lk⟩:=hl i x v a1 a4 (ov.elim (λ z=>.inr (.inl z)) λ z=>.inr (.inr z))
   refine⟨u,ru,.inr ⟨qS,?_⟩⟩;obtain⟨c,hcl⟩:=aCM (env:=X.env) scope.names [] x (.inl ⟨.free,mem_of_lookup fr,rfl⟩);have hc2:=pW I3 ok hcl;rcases lk with ⟨z,_⟩ | ⟨_,c',e',o',ho',hd'⟩
   ·exfalso;have z':X.env.scope.names.lookup x=qq .local:=z;rcases ov with w | w
    ·rw[w] at z';cases z'
    ·rw[w] at z';cases z'
   ·rw[hc2] at e';cases e';exact⟨c,hcl,o',old _ _ ho',hd'⟩
  ·obtain⟨v,o,ho,hd⟩:=I3.cell x c (pW I3 ok a);exact⟨v,o,old _ _ ho,hd⟩
  ·show H3 C=qz;rw[<- hC];exact I3.fresh
  ·have hp':p∈X.pn++aB:=by
    have:p∈(X.pn++aB)++[]:=hp;rwa [yDy] at this
   obtain⟨b1,b2,b3,b4,b5⟩:=I3.pin p hp';refine⟨old _ _ b1,b2,?_,λ z=>?_,b5⟩
   ·show p.1≠C;rw[<- hC];exact xAk (xAa b1)
   ·rcases List.mem_cons.mp (I3.stkSub p.1 z) with w | w
    ·exact b3 w
    ·exact b4 w
 have fpY:∀ {H':Hp},(∀ b∈fp,H' b=qz)->∀ b∈fp,gH Y [] H' b:=λ hn b hb=>by
  rw[<- hY];refine⟨hn b hb,?_,aHF I3 f3 b hb,.inl hb,λ x c a=>(f3 b hb).2.2.2.2.1 x c (pW I3 ok a),λ p hp=>?_⟩
  ·show b≠C;rw[<- hC];exact xAk (lt3 b hb)
  ·have hp':p∈X.pn++aB:=by
    have:p∈(X.pn++aB)++[]:=hp;rwa [yDy] at this
   exact(f3 b hb).2.2.2.2.2 p hp'
 have yA:Y.A=X.A:=by rw[<- hY];rfl
 have yP:Y.prog=X.prog:=by rw[<- hY];rfl
 have yW:Y.w=X.w:=by rw[<- hY];rfl
 have yK:Y.K=X.K:=by rw[<- hY];rfl
 have yC:Y.calm=true:=by rw[<- hY];exact hc
 have yX:Y.xe=λ _ _=>False:=by rw[<- hY];rfl
 have R3:Rel X.K F1 (L1++[Dd]) (S1++[qq []]) H3:=by rw[<- hH3];exact R1.newLoc hfr2 .nil
 obtain⟨PP,hPP⟩:∃ PP:Result->qj->Prop,PP=compPost (model X.prog X.w) X.A X.xe use QQ (.ref Dd) C:=⟨_,rfl⟩;have bT:∀ (s1:qj) (σ':L2.St) (H' F':Hp) (L':List qv),Inv Y [] σ' H' s1->Gr F1 (L1++[Dd]) F' L'->Rel X.K F' L' S2 H'->PP (.ok .next) s1:=by
  intro s1 σ' H' F' L' J' gg RR;rw[hPP];rw[<- hY] at J';obtain⟨m,hmC,_⟩:=J'.loc;have hCn:H' C=qz:=J'.free;have hfC:gH X aB H' C:=I3.fpOk (by rw[hC];exact yAc _) hCn
  obtain⟨sf,M,rfl⟩:=gg;have cH:L1.length=S1.length:=R1.len;have eL:((L1++[Dd])++M)[S1.length]? = qq Dd:=by
   rw[yCf,yAf (by rw[cH];exact yAc _),cH,yBm];rfl
  obtain⟨hF,xs,hx,dl⟩:=RR.loc S1.length Dd zs eL hz;have RR2:Rel X.K F' (L1++([Dd]++M)) S2 H':=by rw[<- yCf];exact RR
  have Rc:=RR2.cut;rw[cH] at Rc;have hnd:Dd ∉ L1:=λ z=>by
   have nd:=RR2.nd;rw[yGq] at nd;exact nd.2.2 Dd z Dd (by simp) rfl
  refine hend Dd C s1 H' hfC ⟨m,hmC⟩ (λ h' sb=>?_) (q F' L1 H' Dd xs (g1.trans ⟨sf,[],by simp⟩) Rc hF hnd hx dl)
  have neC:∀ b u,s3.heap.get? b=qq u->b≠C:=λ b u z=>by rw[<- hC];exact xAk (xAa z)
  have kp:∀ b u,b≠C->s1.heap.get? b=qq u->h'.get? b=qq u:=λ b u z w=>sb.extBut b u z w
  have bU:Un (hV X.stack) fp H3 H' s3.heap s1.heap:=J'.base;have u:Un (hV X.stack) fp H3 H' s3.heap h':=
   ⟨λ b o z n hb hx=>kp b o (neC b o z) (bU.keep b o z n hb hx),λ b o z n hb hx=>by obtain⟨sl,w⟩:=bU.slot b o z n hb hx;exact⟨sl,kp b _ (neC b o z) w⟩,bU.free,
    λ b o z hx=>by obtain⟨o',w⟩:=bU.there b o z hx;exact⟨o',kp b _ (neC b o z) w⟩,bU.tups,bU.frzs,bU.tbls⟩
  have hokY:dM X.prog X.w H' s1.heap:=J'.hok;have hok':dM X.prog X.w H' h':=λ b o z=>(hokY b o z).stay (λ c v hc2 w=>kp c v (λ zz=>by
   rcases hc2 with w2 | w2
   ·rw[w2] at zz;rw[zz,hCn] at z;cases z
   ·rw[zz,hCn] at w2;cases w2) w) (λ _ w=>w) λ _ _ w=>w
  have os1:s1.os=s3.os:=J'.os;exact I3.call' (s':={s1 with heap:=h' }) os1 u hok' J'.bare λ b hb=>⟨(f3 b hb).2.2.2.1,(f3 b hb).2.1,(f3 b hb).2.2.2.2.1,(f3 b hb).2.2.2.2.2⟩
 have loop:∀ s5:qj,Inv Y [] (clr t.slots σ) H3 s5->tn 0 s5.heap ->
  vw (model X.prog X.w) X.A (.compLoop (.ListComp elt [⟨tg,iter,ifs,0⟩] scope pos) 0 (.ref it) (.ref Dd) Y.env) PP s5:=by
  intro s5 I5 st5;have E0:EnvR X.K F1 (L1++[Dd]) (clr t.slots env) (clr t.slots σ):=(E.mono (g1.trans Gr.newLoc)).clr t.slots;obtain⟨Iv,hIv⟩:∃ Iv:Nat->qj->Prop,∀ n s',Iv n s' ↔ (∃ i σ' H' F' L' S',Inv Y [] σ' H' s'/\tn i s'.heap/\(∀ b∈fp,H' b=qz)/\Gr F1 (L1++[Dd]) F' L'/\Rel X.K F' L' S' H'/\EnvR X.K F' L' (clr t.slots env) σ'/\i+n=ds.length /\
   gX t fc fe S1.length (clr t.slots env) (ds.drop i) S'=qq S2):=⟨_,λ _ _=>Iff.rfl⟩
  refine aLm Iv ?_ ds.length ((hIv _ _).mpr ⟨0,clr t.slots σ,H3,F1,L1++[Dd],S1++[qq []],I5,st5,λ b hb=>(f3 b hb).1,Gr.refl,R3,E0,yEb _,by rw[yEl];exact e2⟩)
  intro n s6 h6;obtain⟨i,σ6,H6,F6,L6,S6,I6,st6,fr6,g6,R6,E6,hin,ec⟩:=(hIv _ _).mp h6;clear h6;have g16:Gr F1 L1 F6 L6:=Gr.newLoc.trans g6;have toA:∀ {α:Type}{tt:Sem α}{QQ:α->qj->Prop}{EE:qx->qj->Prop}{ss:qj},qy (model X.prog X.w) Y.A tt QQ EE ss->qy (model X.prog X.w) X.A tt QQ EE ss:=λ hh=>by rw[yA] at hh;exact hh
  cases n with
  | zero =>
    have hi':i=ds.length:=by omega
    subst hi';rw[yGz] at ec;cases ec;refine bD (toA (T.done Y yP yW yK yC ds.length [] s6 σ6 H6 _ I6 (fpY fr6) st6 (wk.stop H6 (g16.f.trans R6.sub)))) λ r s7 hPq30=>?_
    obtain⟨hr,I7⟩:=hPq30;subst hr;exact bT s7 σ6 H6 F6 L6 I7 g6 R6
  | succ n =>
    have hi':i<ds.length:=by omega
    refine bD (toA (T.item Y yP yW yK yC i [] s6 σ6 H6 _ I6 (fpY fr6) st6 (wk.go i H6 (g16.f.trans R6.sub) hi'))) λ r s7 hPq31=>?_
    obtain⟨u,hr,h7⟩:=hPq31;subst hr;refine bD (toA h7) λ _ s8 hPq32=>?_
    obtain⟨x,H8,I8,r8,y8,st8,fr8⟩:=hPq32;obtain⟨F8,sf8,R8,d8⟩:=wk.yld i H6 F6 L6 S6 x H8 ds[i] g16 R6 (yAa hi') y8;have g8:Gr F6 L6 F8 L6:=⟨sf8,[],by simp⟩
    rw[yEj hi'] at ec;obtain⟨env9,ep,ec⟩:=bind_some ec;obtain⟨⟨cb,S9⟩,et,ec⟩:=bind_some ec;have I8':=I8.pinned (fpY fr8) (T.obj _ _ st8);have toF:∀ {α:Type}{tt:Sem α}{QQ:α->qj->Prop}{ss:qj},qy (model Y.prog Y.w) Y.A tt QQ Y.xe ss->qy (model X.prog X.w) X.A tt QQ (λ _ _=>False) ss:=λ hh=>by rw[yX,yP,yW,yA] at hh;exact hh
    refine toF (bD (hg Y hIC _ s8 σ6 H8 x u (λ σ' H'=>H'=H8/\EnvR X.K F8 L6 env9 σ') I8' r8 (ga ds[i] x σ6 H8 F8 L6 S6 (clr t.slots env) env9 _ R8 (E6.mono g8) d8 ep λ σ' E'=>⟨rfl,E'⟩)) λ _ s9 hPq33=>?_)
    obtain⟨σ9,H9,I9,hH9,E9⟩:=hPq33;subst hH9;refine toF (bD (ht Y hIC _ s9 σ9 H9 (λ b H'=>∃ F' L',Gr F8 L6 F' L'/\Rel X.K F' L' S9 H'/\b=cb) I9 (by rw[yK];exact⟨F8,L6,S6,env9,cb,S9,R8,E9,et,λ F' L' H' g' R'=>⟨F',L',g',R',rfl⟩⟩)) λ ok2 s10 hPq34=>?_)
    obtain⟨H10,I10,F10,L10,g10,R10,hb10⟩:=hPq34;subst hb10;dsimp only at ec;have again:∀ {σ7:L2.St}{H7 F7:Hp}{L7:List qv}{S7:aC}{s7':qj},Inv Y ([]++vB fp s8.heap) σ7 H7 s7'->Gr F8 L6 F7 L7->Rel X.K F7 L7 S7 H7->EnvR X.K F7 L7 env9 σ7->gX t fc fe S1.length (clr t.slots env) (ds.drop (i+1)) S7=qq S2 ->
     ∃ m,m<n+1/\Iv m s7':=by
     intro σ7 H7 F7 L7 S7 s7' I7 g7 R7 E7 ec7;refine⟨n,yEn n,(hIv _ _).mpr ⟨i+1,σ7,H7,F7,L7,S7,I7.unpinned,T.keep _ _ _ st8 λ b hb o eo=>(I7.pin (b,o) (xAq _ (xAq _ (tN hb eo)))).1,λ b hb=>?_,(g6.trans g8).trans g7,R7,EnvR.back ep E7,by omega,ec7⟩⟩
     obtain⟨o,eo,_⟩:=T.obj _ _ st8 b hb;exact(I7.pin (b,o) (xAq _ (xAq _ (tN hb eo)))).2.1
    cases ok2 with
    | false =>
      rw[if_neg (by simp)] at ec
      rw[if_neg (by simp)]
      exact again I10 g10 R10 (E9.mono g10) ec
    | true =>
      rw[if_pos rfl] at ec;rw[if_pos rfl];obtain⟨⟨wv,S11⟩,ee,ec⟩:=bind_some ec;obtain⟨⟨wn,S12⟩,ea,ec⟩:=bind_some ec;obtain⟨n',dv,zs',hn',hw',es',hlt,hwn,rfl⟩:=aFm ea;cases hn';subst hw';refine toF (bD (he Y hIC _ s10 σ9 H10 (λ v H'=>∃ F' L',Gr F10 L10 F' L'/\Rel X.K F' L' S11 H'/\Den X.K F' dv v) I10 ⟨F10,L10,S9,env9,_,S11,R10,E9.mono g10,ee,λ F' L' H' v g' R' d'=>⟨F',L',g',R',d'⟩⟩) λ xv s11 hPq35=>?_)
      obtain⟨v11,H11,I11,r11,F11,L11,g11,R11,d11⟩:=hPq35;have gA:Gr F1 (L1++[Dd]) F11 L11:=((g6.trans g8).trans g10).trans g11;have eL:L11[S1.length]? = qq Dd:=gA.get (by rw[yAf (by rw[R1.len];exact yAc _),R1.len,yBm];rfl)
      obtain⟨hF,xs,hx,dl⟩:=R11.loc S1.length Dd zs' eL es';refine toF (bD (aFz (X:=Y) _ s11 σ9 H11 (.ref Dd) [v11] (.ref Dd) [xv] (λ _ H'=>Rel X.K F11 L11 (S11.set S1.length (qq (zs'++[dv]))) H') I11 rfl (.cons r11 .nil) ⟨Dd,xs,v11,rfl,rfl,hx,by rw[<- dl.length];exact hlt,R11.put eL hF (dl.append (.cons d11 .nil))⟩) λ _ s12 hPq36=>?_)
      obtain⟨_,H12,I12,_,R12⟩:=hPq36;exact again I12 (g10.trans g11) R12 (E9.mono (g10.trans g11)) ec
 rw[yE,hPP] at loop;have st4:tn 0 h₁:=T.keep 0 _ _ st2 λ b _ o eo=>old b o (up23 b o eo)
 exact codeAny_compStart_list (loop _ I4 st4) (T.self X.A 0 _ _ _ st4 (loop _ I4 st4))
theorem aIl(hc:X.calm=true)(ok:ScOk scope X.env.scope)(own:aC8 X.N scope t.slots)(hi:PI X tg iter (kG X.K fi))(hg:∀ Y,jR X scope Y->PG Y tg g)(ga:GA X.K t g)
 (ht:∀ Y,jR X scope Y->mE Y ifs fc) (he:∀ Y,jR X scope Y->PE Y elt (aV X.K fe)) (hs:∀ x,jj iter X.env x=pure x) :
 PE X (.ListComp elt [⟨tg,iter,ifs,0⟩] scope pos) (iA X.K (iI t fi fc fe)):=λ aB s σ H Q I h=>by
 rw[eval_ListComp];exact aFN qz hc ok own hi hg ga ht he hs I h λ p C s1 H' _ hm hI q=>hm.elim λ m hm=>⟨m,hm,λ h' sb=>⟨.ref p,H',hI h' sb,rfl,q⟩⟩
theorem aMs{i:Nat}{x:Str}{pos' spos:Pos}{fa:FE}(hN:X.N.Nodup)(hx1:X.N[i]? = qq x)(hx2:L2.Loc X.env.scope x)(hf:X.fn x=true\/X.env.scope.names.lookup x=qq .local)
 (hc:X.calm=true) (ok:ScOk scope X.env.scope) (own:aC8 X.N scope t.slots) (hi:PI X tg iter (kG X.K fi)) (hg:∀ Y,jR X scope Y->PG Y tg g) (ga:GA X.K t g)
 (ht:∀ Y,jR X scope Y->mE Y ifs fc) (he:∀ Y,jR X scope Y->PE Y elt (aV X.K fe)) (hs:∀ x,jj iter X.env x=pure x)
 (hw:∀ σ H Q,aV X.K fa σ H Q->iA X.K (iI t fi fc fe) σ H Q) :
 PS X (.Assign [.Name x pos'] (.ListComp elt [⟨tg,iter,ifs,0⟩] scope pos) spos) (dL X.K (iP i fa)):=by
 have hb:∃ b,swapsWith (.ListComp elt [⟨tg,iter,ifs,0⟩] scope pos) (qq (.Name x pos')) spos.line X.env=pure b:=⟨_,rfl⟩;obtain⟨b,hb⟩:=hb;cases b with
 | false=>exact aIT hN hx1 hx2 (PE.weak (aIl hc ok own hi hg ga ht he hs) hw) hb hf
 | true =>
   intro aB s σ H DD I h;have h2:=aI3 DD σ H h;rw[exec_Assign_Name_used _ _ _ _ hb];refine wB (yy (wB ?_));show qy _ X.A (do let _ <- comprehension (.ListComp elt [⟨tg,iter,ifs,0⟩] scope pos) scope X.env _ (newList []) false (eval iter X.env) (qq (assign (.Name x pos') X.env))) _ _ s
   refine wB (bD (aFN (QQ:=λ _ s'=>SP X aB DD .next s') (qq (assign (.Name x pos') X.env)) hc ok own hi hg ga ht he hs I (hw _ _ _ h2) λ p C s1 H' hC hm hI q=>?_) λ _ s' hq=>wP (wP hq))
   obtain⟨m,hm⟩:=hm;have I1:Inv X aB σ H' s1:=hI s1.heap (Heap.SameBut.refl _ _);obtain⟨o,es,ep,ho,hd,r⟩:=hm;have I2:=I1.pinned (fp:=[C]) (λ b hb=>by rw[List.mem_singleton.mp hb];exact hC) λ b hb=>by rw[List.mem_singleton.mp hb];exact⟨o,ho,λ v z=>by rw[hd] at z;cases z⟩
   refine bD (aCF (pos:=pos') hN hx1 hx2 hf _ s1 σ H' (.ref p) (.ref p) _ I2 rfl q) λ _ s2 hPq37=>?_
   obtain⟨σ2,H2,I3,q3⟩:=hPq37;obtain⟨b1,b2,_⟩:=I3.pin (C,o) (xAq _ (xAq _ (tN (by simp) ho)))
   refine⟨m,⟨o,es,ep,b1,hd,r⟩,λ h' sb=>⟨σ2,H2,?_,q3⟩⟩
   exact I3.unpinned.turned (t':=s2.toks) (λ b o hb e=>sb.extBut b o hb e) b2 hC.2.1 hC.2.2.2.1 hC.2.2.2.2.1 hC.2.2.2.2.2
end
noncomputable def nZ:List D->Option (List Int)
 | []=>qq []
 | .int i::r=>(nZ r).bind λ l=>qq (i::l)
 | _::_=>qz
noncomputable def rK:List D->Option (List Bool)
 | []=>qq []
 | .bool i::r=>(rK r).bind λ l=>qq (i::l)
 | _::_=>qz
noncomputable def dQ:List D->Option D
 | [.list xs]=>qq (.int xs.length)
 | [.tuple xs]=>qq (.int xs.length)
 | [.str z]=>if z.length<=qk then qq (.int z.length) else qz
 | _=>qz
noncomputable def jV:List D->Option D
 | [.int i,.int j]=>qq (.int (if j>i then j else i))
 | [.int i,.int j,.int k]=>qq (.int (if j>i then (if k>j then k else j) else (if k>i then k else i)))
 | [.list xs]=>match nZ xs with
   | some (i::r)=>qq (.int (r.foldl max i))
   | _=>qz
 | _=>qz
noncomputable def mX:List D->Option D
 | [.int i,.int j]=>qq (.int (if j<i then j else i))
 | [.list xs]=>match nZ xs with
   | some (i::r)=>qq (.int (r.foldl min i))
   | _=>qz
 | _=>qz
noncomputable def qK:List D->Option D
 | [.int i]=>qq (.int i)
 | [.bool k]=>qq (.int (if k then 1 else 0))
 | _=>qz
noncomputable def aDD:List D->Option D
 | [.int i]=>qq (.int (if i<0 then -i else i))
 | _=>qz
noncomputable def vI:List D->Option D
 | [.list xs]=>qq (.tuple xs)
 | [.tuple xs]=>qq (.tuple xs)
 | _=>qz
noncomputable def aDE:List D->Option D
 | [.list xs]=>(nZ xs).bind λ l=>qq (.int l.sum)
 | _=>qz
noncomputable def wM:List D->Option D
 | [.list xs]=>(rK xs).bind λ l=>qq (.bool (l.all id))
 | _=>qz
noncomputable def sL:List D->Option D
 | [.list xs]=>(rK xs).bind λ l=>qq (.bool (l.any id))
 | _=>qz
section
variable {X : Cx}
theorem iN{F H:Hp}{d:D}{xs:List V}(h:NowL X.K F H [d] xs):∃ x,xs=[x]/\bQ X.K F H d x:=by
 cases h with
 | cons a b=>cases b;exact⟨_,rfl,a⟩
theorem aKe{F H:Hp}{d e:D}{xs:List V}(h:NowL X.K F H [d,e] xs):∃ x y,xs=[x,y]/\bQ X.K F H d x/\bQ X.K F H e y:=by
 cases h with
 | cons a b =>
   cases b with
   | cons c d=>cases d;exact⟨_,_,rfl,a,c⟩
theorem aVu{F H:Hp}{d e f:D}{xs:List V}(h:NowL X.K F H [d,e,f] xs):∃ x y z,xs=[x,y,z]/\bQ X.K F H d x/\bQ X.K F H e y/\bQ X.K F H f z:=by
 cases h with
 | cons a b=>cases b with
   | cons c d=>cases d with
     | cons e f=>cases f;exact⟨_,_,_,rfl,a,c,e⟩
theorem aJx{x y z:V}{us:List qx}(r:aS [x,y,z] us):∃ u v w',us=[u,v,w']/\aZ x u/\aZ y v/\aZ z w':=by
 cases r with
 | cons r1 r2=>cases r2 with
   | cons r3 r4=>cases r4 with
     | cons r5 r6=>cases r6;exact⟨_,_,_,rfl,r1,r3,r5⟩
theorem aMB(hc:X.calm=true):dF X (.builtin "max") (λ xs H Q=>∃ i j k,xs=[.int i,.int j,.int k]/\Q (.int (if j>i then (if k>j then k else j) else (if k>i then k else i))) H):=by
 intro aB s σ H xs us Q I r h;obtain⟨i,j,k,rfl,q⟩:=h;obtain⟨u,v,w',rfl,⟨t,rfl⟩,⟨t',rfl⟩,⟨t2,rfl⟩⟩:=aJx r;refine max_three_ints (I.ok.hd hc) λ h' tk kk=>⟨_,H,I.kept kk,?_,q⟩
 by_cases h1:j>i<;>by_cases h2:k>j<;>by_cases h3:k>i<;>simp only[h1,h2,h3,if_true,if_false]<;>exact⟨_,rfl⟩
theorem yT{K:FrG}{F:Hp}:∀ {ds:List D}{xs:List V}{ns:List Int},DenL K F ds xs->nZ ds=qq ns->xs=ns.map V.int
 | _,_,_,.nil,e=>by cases e;rfl
 | .int i::r,_,_,.cons h t,e=>by
   obtain⟨l,e1,e2⟩:=bind_some e;cases e2;cases h;rw[yBb,yT t e1]
 | .none::_,_,_,.cons _ _,e=>by cases e
 | .bool _::_,_,_,.cons _ _,e=>by cases e
 | .str _::_,_,_,.cons _ _,e=>by cases e
 | .list _::_,_,_,.cons _ _,e=>by cases e
 | .tuple _::_,_,_,.cons _ _,e=>by cases e
 | .dict _::_,_,_,.cons _ _,e=>by cases e
theorem aHx:∀ (l:List Int) (i:Int),(l.foldl max i∈i::l)/\∀ a∈i::l,a<=l.foldl max i
 | [],i=>⟨List.mem_singleton.mpr rfl,λ a h=>by rw[List.mem_singleton.mp h];exact Int.le_refl _⟩
 | b::l,i=>by
   obtain⟨h1,h2⟩:=aHx l (max i b);rw[yBy];refine⟨?_,λ a ha=>?_⟩
   ·rcases List.mem_cons.mp h1 with h | h
    ·rw[h];rcases Int.le_total i b with q | q
     ·rw[Int.max_eq_right q];simp
     ·rw[Int.max_eq_left q];simp
    ·simp[h]
   ·have h3:=h2 (max i b) xAd;simp only[yCs] at ha;rcases ha with rfl | rfl | ha
    ·exact yHi (Int.le_max_left _ _) h3
    ·exact yHi (Int.le_max_right _ _) h3
    ·exact h2 a (xAg _ ha)
theorem aHB:∀ (l:List Int) (i:Int),(l.foldl min i∈i::l)/\∀ a∈i::l,l.foldl min i<=a
 | [],i=>⟨List.mem_singleton.mpr rfl,λ a h=>by rw[List.mem_singleton.mp h];exact Int.le_refl _⟩
 | b::l,i=>by
   obtain⟨h1,h2⟩:=aHB l (min i b);rw[yBy];refine⟨?_,λ a ha=>?_⟩
   ·rcases List.mem_cons.mp h1 with h | h
    ·rw[h];rcases Int.le_total i b with q | q
     ·rw[Int.min_eq_left q];simp
     ·rw[Int.min_eq_right q];simp
    ·simp[h]
   ·have h3:=h2 (min i b) xAd;simp only[yCs] at ha;rcases ha with rfl | rfl | ha
    ·exact yHi h3 (Int.min_le_left _ _)
    ·exact yHi h3 (Int.min_le_right _ _)
    ·exact h2 a (xAg _ ha)
theorem aBM:∀ {l:List Int}{us:List qx},aS (l.map V.int) us->∃ ps:List (Int×Tok),us=ps.map (λ p=>Value.int p.1 p.2)/\ps.map (·.1)=l
 | [],us,r=>by cases r;exact⟨[],rfl,rfl⟩
 | i::l,us,r=>by
   cases r with
   | cons h t =>
     obtain⟨tk,rfl⟩:=h;obtain⟨ps,rfl,rfl⟩:=aBM t;exact⟨(i,tk)::ps,rfl,rfl⟩
theorem aMv(hc:X.calm=true):dF X (.builtin "max") (λ xs H Q=>∃ (a:qv) (l:List Int),xs=[.ref a]/\bY X.K H a (l.map V.int)/\0<l.length/\∀ M,M∈l->(∀ i∈l,i<=M)->Q (.int M) H):=by
 intro aB s σ H xs us Q I r h;obtain⟨a,l,rfl,sq,hl,q⟩:=h;obtain⟨u,rfl,ru⟩:=iY r;cases ru;obtain⟨aF,rv,pl,hz⟩:=I.list sq;obtain⟨ps,rfl,rfl⟩:=aBM rv;have hIL:s.heap.IsList a (intItems ps.toArray):=by
  have e:intItems ps.toArray=(ps.map (λ p=>Value.int p.1 p.2)).toArray:=by simp[intItems]
  rw[e];exact pl.isList
 refine max_intList (xs:=ps.toArray) (I.ok.hd hc) hIL (by simpa using hl) λ v h' tk hv hk=>?_
 obtain⟨t,rfl⟩:=intItems_at hv;obtain⟨h1,h2⟩:=argBest_gt (numAt ps.toArray) (ps.toArray.size-1);refine⟨.int _,H,I.kept hk,⟨_,rfl⟩,q _ ?_ λ i hi=>?_⟩
 ·rw[numAt_eq];have hz':0<ps.toArray.size:=by simpa using hl
  exact getD_mem (by rw[yAb,yDp];exact xAj h1 (Nat.sub_lt hz' Nat.one_pos))
 ·obtain⟨j,hj,rfl⟩:=mem_getD hi;rw[yAb] at hj;have:=h2 j (by rw[yAe];omega)
  rw[numAt_eq (j:=j)] at this;exact this
theorem aML(hc:X.calm=true):dF X (.builtin "min") (λ xs H Q=>∃ (a:qv) (l:List Int),xs=[.ref a]/\bY X.K H a (l.map V.int)/\0<l.length/\∀ M,M∈l->(∀ i∈l,M<=i)->Q (.int M) H):=by
 intro aB s σ H xs us Q I r h;obtain⟨a,l,rfl,sq,hl,q⟩:=h;obtain⟨u,rfl,ru⟩:=iY r;cases ru;obtain⟨aF,rv,pl,hz⟩:=I.list sq;obtain⟨ps,rfl,rfl⟩:=aBM rv;have hIL:s.heap.IsList a (intItems ps.toArray):=by
  have e:intItems ps.toArray=(ps.map (λ p=>Value.int p.1 p.2)).toArray:=by simp[intItems]
  rw[e];exact pl.isList
 refine min_intList (xs:=ps.toArray) (I.ok.hd hc) hIL (by simpa using hl) λ v h' tk hv hk=>?_
 obtain⟨t,rfl⟩:=intItems_at hv;obtain⟨h1,h2⟩:=argBest_lt (numAt ps.toArray) (ps.toArray.size-1);refine⟨.int _,H,I.kept hk,⟨_,rfl⟩,q _ ?_ λ i hi=>?_⟩
 ·rw[numAt_eq];have hz':0<ps.toArray.size:=by simpa using hl
  exact getD_mem (by rw[yAb,yDp];exact xAj h1 (Nat.sub_lt hz' Nat.one_pos))
 ·obtain⟨j,hj,rfl⟩:=mem_getD hi;rw[yAb] at hj;have:=h2 j (by rw[yAe];omega)
  rw[numAt_eq (j:=j)] at this;exact this
theorem aUb:dF X (.builtin "len") (lU X dQ):=λ aB s σ H xs us Q I r aT=>by
 obtain⟨F,L,S,ds,z,R,n,e,q⟩:=aT;unfold dQ at e
 split at e
 ·cases e;obtain⟨x,rfl,nx⟩:=iN n;obtain⟨a,ys,rfl,sq,dl⟩:=nx.lst R.sub;exact aEB aB s σ H _ us Q I r ⟨a,ys,rfl,.inl sq,by rw[<- dl.length];exact q.here R (.int _)⟩
 ·cases e;obtain⟨x,rfl,nx⟩:=iN n;obtain⟨a,ys,rfl,sq,dl⟩:=nx.tup R.sub;exact aEB aB s σ H _ us Q I r ⟨a,ys,rfl,.inr sq,by rw[<- dl.length];exact q.here R (.int _)⟩
 ·split at e
  ·rename_i hz;cases e;obtain⟨x,rfl,nx⟩:=iN n;exact aLp aB s σ H _ us Q I r ⟨_,by rw[nx.str],hz,q.here R (.int _)⟩
  ·cases e
 ·cases e
theorem aT7(hc:X.calm=true):dF X (.builtin "max") (lU X jV):=λ aB s σ H xs us Q I r aT=>by
 obtain⟨F,L,S,ds,z,R,n,e,q⟩:=aT;unfold jV at e
 split at e
 ·cases e;obtain⟨x,y,rfl,nx,ny⟩:=aKe n;exact aMD hc aB s σ H _ us Q I r ⟨_,_,by rw[nx.int,ny.int],q.here R (.int _)⟩
 ·cases e;obtain⟨x,y,u,rfl,nx,ny,nu⟩:=aVu n;exact aMB hc aB s σ H _ us Q I r ⟨_,_,_,by rw[nx.int,ny.int,nu.int],q.here R (.int _)⟩
 ·split at e
  ·rename_i xs' i r' hi;cases e;obtain⟨x,rfl,nx⟩:=iN n;obtain⟨a,ys,rfl,sq,dl⟩:=nx.lst R.sub;obtain rfl:=yT dl hi;refine aMv hc aB s σ H _ us Q I r ⟨a,i::r',rfl,sq,by simp,λ M h1 h2=>?_⟩
   have f:=aHx r' i;have:M=r'.foldl max i:=Int.le_antisymm (f.2 _ h1) (h2 _ f.1);rw[this];exact q.here R (.int _)
  ·cases e
 ·cases e
theorem aTm(hc:X.calm=true):dF X (.builtin "min") (lU X mX):=λ aB s σ H xs us Q I r aT=>by
 obtain⟨F,L,S,ds,z,R,n,e,q⟩:=aT;unfold mX at e
 split at e
 ·cases e;obtain⟨x,y,rfl,nx,ny⟩:=aKe n;exact aM0 hc aB s σ H _ us Q I r ⟨_,_,by rw[nx.int,ny.int],q.here R (.int _)⟩
 ·split at e
  ·rename_i xs' i r' hi;cases e;obtain⟨x,rfl,nx⟩:=iN n;obtain⟨a,ys,rfl,sq,dl⟩:=nx.lst R.sub;obtain rfl:=yT dl hi;refine aML hc aB s σ H _ us Q I r ⟨a,i::r',rfl,sq,by simp,λ M h1 h2=>?_⟩
   have f:=aHB r' i;have:M=r'.foldl min i:=Int.le_antisymm (h2 _ f.1) (f.2 _ h1);rw[this];exact q.here R (.int _)
  ·cases e
 ·cases e
theorem aUE:dF X (.type "int") (lU X qK):=λ aB s σ H xs us Q I r aT=>by
 obtain⟨F,L,S,ds,z,R,n,e,q⟩:=aT;unfold qK at e
 split at e
 ·cases e;obtain⟨x,rfl,nx⟩:=iN n;exact aFn aB s σ H _ us Q I r (.inl ⟨_,by rw[nx.int],q.here R (.int _)⟩)
 ·cases e;obtain⟨x,rfl,nx⟩:=iN n;exact aFn aB s σ H _ us Q I r (.inr ⟨_,by rw[nx.bl],q.here R (.int _)⟩)
 ·cases e
theorem aTN:dF X (.builtin "abs") (lU X aDD):=λ aB s σ H xs us Q I r aT=>by
 obtain⟨F,L,S,ds,z,R,n,e,q⟩:=aT;unfold aDD at e
 split at e
 ·cases e;obtain⟨x,rfl,nx⟩:=iN n;exact aNs aB s σ H _ us Q I r ⟨_,by rw[nx.int],q.here R (.int _)⟩
 ·cases e
theorem aP7:dF X (.type "tuple") (lU X vI):=λ aB s σ H xs us Q I r aT=>by
 obtain⟨F,L,S,ds,z,R,n,e,q⟩:=aT;unfold vI at e
 split at e
 ·cases e;obtain⟨x,rfl,nx⟩:=iN n;obtain⟨a,ys,rfl,sq,dl⟩:=nx.lst R.sub;exact aEu aB s σ H _ us Q I r ⟨a,ys,rfl,.inl ⟨sq,λ l hl=>q.tup R hl dl⟩⟩
 ·cases e;obtain⟨x,rfl,nx⟩:=iN n;have nx':=nx;obtain⟨a,ys,rfl,sq,dl⟩:=nx.tup R.sub;refine aEu aB s σ H _ us Q I r ⟨a,ys,rfl,.inr ⟨sq,q.here R ?_⟩⟩;rcases nx' with nx | ⟨_,_,_,e,_⟩
  ·exact nx
  ·cases e
 ·cases e
theorem aBJ{prog:qo}{w:zw}{A:zy}(hh:A.handled=qz)(I ax:qv)(hne:ax≠I)(aQ:Array qx) :
 WalksS prog w A I [I,ax] [I] (λ a b=>b=a) aQ.size (λ i v=>aQ[i]? = qq v) (λ i s=>s.heap.IsListIter I ax i/\s.heap.IsList ax aQ) where
 sub:=λ b hb=>by simp at hb;simp[hb]
 grefl:=λ _=>rfl
 gtrans:=λ _ _ _ h1 h2=>h2.trans h1
 frame:=λ _ _ _ _ st _ hk=>⟨st.1.at λ o e=>hk I (by simp) o e,st.2.at λ o e=>hk ax (by simp) o e⟩
 item:=λ i s Q E hi st hQ=>by
  refine wq st.1 st.2 (x:=aQ[i]) (by simp[hi]) λ h' hit' hs'=>?_
  exact hQ _ _ (by simp[hi]) ⟨hit',st.2.extBut hs'.extBut hne⟩ ⟨λ b o hb e=>hs'.extBut b o (λ h=>hb (by simp[h])) e,rfl,rfl,rfl,yAc _⟩
 done:=λ s Q E st hQ=>wz hh st.1 st.2 (by simp) λ h' he'=>hQ _ ⟨λ b o hb e=>he' b o (λ h=>hb (by simp[h])) e,rfl,rfl,rfl,yAc _⟩
 self:=λ _ _ _ _ st hQ=>wpAny_pyIter_listiter st.1 hQ
theorem aET:∀ (ns:List Int) (k:Nat),k<=ns.length->preSum (λ i=>ns.getD i 0) k=(ns.take k).sum
 | _,0,_=>by simp[preSum]
 | ns,k+1,h=>by
   rw[preSum,aET ns k (by omega),yFl (by omega),List.sum_append]
   have:ns.getD k 0=ns[k]:=by simp[yGr,yAa (show k<ns.length by omega)]
   rw[this];simp
theorem aBH{K:FrG}{F:Hp}:∀ {ds:List D}{xs:List V}{ns:List Bool},DenL K F ds xs->rK ds=qq ns->xs=ns.map V.bl
 | _,_,_,.nil,e=>by cases e;rfl
 | .bool i::r,_,_,.cons h t,e=>by
   obtain⟨l,e1,e2⟩:=bind_some e;cases e2;cases h;rw[yBb,aBH t e1]
 | .none::_,_,_,.cons _ _,e=>by cases e
 | .int _::_,_,_,.cons _ _,e=>by cases e
 | .str _::_,_,_,.cons _ _,e=>by cases e
 | .list _::_,_,_,.cons _ _,e=>by cases e
 | .tuple _::_,_,_,.cons _ _,e=>by cases e
 | .dict _::_,_,_,.cons _ _,e=>by cases e
theorem aLy{ns:List Int}{us:List qx}(r:aS (ns.map V.int) us){i:Nat}{v:qx}(e:us[i]? = qq v):∃ t,v=.int (ns.getD i 0) t:=by
 have hl:=r.length;rw[yAb] at hl;have hi:i<ns.length:=by rw[hl];exact(gIm e).1
 obtain⟨u,e1,ru⟩:=aS.get r (i:=i) (x:=.int ns[i]) (by rw[xAb,yAa hi];rfl)
 rw[e] at e1;cases e1;obtain⟨t,rfl⟩:=ru;exact⟨t,by simp[yGr,yAa hi]⟩
theorem aEA{ns:List Bool}{us:List qx}(r:aS (ns.map V.bl) us){i:Nat}{v:qx}(e:us[i]? = qq v):v=.bool (ns.getD i false):=by
 have hl:=r.length;rw[yAb] at hl;have hi:i<ns.length:=by rw[hl];exact(gIm e).1
 obtain⟨u,e1,ru⟩:=aS.get r (i:=i) (x:=.bl ns[i]) (by rw[xAb,yAa hi];rfl)
 rw[e] at e1;cases e1;obtain rfl:=ru;simp[yGr,yAa hi]
theorem aS6(hc:X.calm=true):dF X (.builtin "sum") (lU X aDE):=λ aB s σ H xs us Q I r aT=>by
 obtain⟨F,L,S,ds,z,R,n,e,q⟩:=aT;unfold aDE at e
 split at e
 ·obtain⟨ns,e1,e2⟩:=bind_some e;cases e2;obtain⟨x,rfl,nx⟩:=iN n;obtain⟨a,ys,rfl,sq,dl⟩:=nx.lst R.sub;obtain rfl:=yT dl e1;obtain⟨u,rfl,ru⟩:=iY r;cases ru;obtain⟨aF,rv,pl,hz⟩:=I.list sq;have hh:X.A.in1.handled=qz:=I.ok.hd hc;refine call_sum_walkAnyS (jw pl.isList ?_);have hne:a≠s.heap.objs.size:=by
   obtain⟨o,ho,_⟩:=pl.isList;exact xAk (xAa ho)
  have hl:=rv.length;rw[yAb] at hl;refine⟨_,_,_,_,_,_,_,λ i=>ns.getD i 0,rfl,aBJ hh s.heap.objs.size a hne aF.toArray,⟨⟨_,xAe _ rfl,rfl,rfl⟩,?_⟩,λ b hb=>?_,λ i v e=>aLy rv (by simpa using e),λ s' t' mv=>?_⟩
  ·obtain⟨o,ho,r'⟩:=pl.isList;exact⟨o,hpS _ ho,r'⟩
  ·obtain⟨o,ho,_⟩:=pl.isList;have h1:=xAa ho;simp only[yCs,yCo,or_false] at hb;rw[yBc];rcases hb with rfl | rfl
   ·exact yEn _
   ·exact yEh h1
  ·obtain⟨h',g',d',t2,o'⟩:=s';obtain⟨mh,mg,md,mo,mt⟩:=mv;dsimp only at mh mg md mo;subst mg md mo;have I':Inv X aB σ H {s with heap:=h',toks:=t2 }:=I.kept λ b o e=>mh b o (λ z=>by
    have:b=s.heap.objs.size:=by simpa using z
    exact yBx _ (this▸xAa e)) (hpS _ e)
   have e3:preSum (λ i=>ns.getD i 0) aF.toArray.size=ns.sum:=by
    rw[yAe,<- hl,aET ns ns.length (yAc _),yAh]
   rw[e3];exact⟨.int ns.sum,H,I',⟨_,rfl⟩,q.here R (.int _)⟩
 ·cases e
theorem aFi{prog:qo}{w:zw}{A:zy}{b:Bool}{s:qj}{Q:Bool->qj->Prop}{E:qx->qj->Prop}(h:Q b s):qy (model prog w) A (truthy (.bool b)) Q E s:=by
 first
  | exact jv h
  | exact PySem.wpAny_truthy_bool h
  | exact truthy_bool h
theorem aMy(bs:List Bool):(yAm bs.length).all (λ i=>bs.getD i false)=bs.all id:=by
 have h:(yAm bs.length).map (λ i=>bs.getD i false)=bs:=by
  apply List.ext_getElem
  ·simp
  ·intro i h1 h2;simp[yGr,yAa h2]
 have h2:bs.all id=((yAm bs.length).map (λ i=>bs.getD i false)).all id:=by rw[h]
 rw[h2,List.all_map];rfl
theorem aMM(bs:List Bool):(yAm bs.length).any (λ i=>bs.getD i false)=bs.any id:=by
 have h:(yAm bs.length).map (λ i=>bs.getD i false)=bs:=by
  apply List.ext_getElem
  ·simp
  ·intro i h1 h2;simp[yGr,yAa h2]
 have h2:bs.any id=((yAm bs.length).map (λ i=>bs.getD i false)).any id:=by rw[h]
 rw[h2,List.any_map];rfl
theorem aT1(hc:X.calm=true):dF X (.builtin "all") (lU X wM):=λ aB s σ H xs us Q I r aT=>by
 obtain⟨F,L,S,ds,z,R,n,e,q⟩:=aT;unfold wM at e
 split at e
 ·obtain⟨bs,e1,e2⟩:=bind_some e;cases e2;obtain⟨x,rfl,nx⟩:=iN n;obtain⟨a,ys,rfl,sq,dl⟩:=nx.lst R.sub;obtain rfl:=aBH dl e1;obtain⟨u,rfl,ru⟩:=iY r;cases ru;obtain⟨aF,rv,pl,hz⟩:=I.list sq;have hh:X.A.in1.handled=qz:=I.ok.hd hc;refine call_all_walkS (jw pl.isList ?_);have hne:a≠s.heap.objs.size:=by
   obtain⟨o,ho,_⟩:=pl.isList;exact xAk (xAa ho)
  have hl:=rv.length;rw[yAb] at hl;refine⟨_,_,_,_,_,_,_,λ i=>bs.getD i false,rfl,aBJ hh s.heap.objs.size a hne aF.toArray,⟨⟨_,xAe _ rfl,rfl,rfl⟩,?_⟩,λ i v s' Q' E' e hq=>?_,λ s' mv=>?_⟩
  ·obtain⟨o,ho,r'⟩:=pl.isList;exact⟨o,hpS _ ho,r'⟩
  ·obtain rfl:=aEA rv (i:=i) (by simpa using e)
   exact aFi hq
  ·obtain⟨h',g',d',t2,o'⟩:=s';obtain⟨mh,mg,md,mo,mt⟩:=mv;dsimp only at mh mg md mo;subst mg md mo;have I':Inv X aB σ H {s with heap:=h',toks:=t2 }:=I.kept λ b o e=>mh b o (λ z=>by
    have:b=s.heap.objs.size:=by simpa using z
    exact yBx _ (this▸xAa e)) (hpS _ e)
   rw[yAe,<- hl,aMy];exact⟨.bl (bs.all id),H,I',rfl,q.here R (.bl _)⟩
 ·cases e
theorem aUa(hc:X.calm=true):dF X (.builtin "any") (lU X sL):=λ aB s σ H xs us Q I r aT=>by
 obtain⟨F,L,S,ds,z,R,n,e,q⟩:=aT;unfold sL at e
 split at e
 ·obtain⟨bs,e1,e2⟩:=bind_some e;cases e2;obtain⟨x,rfl,nx⟩:=iN n;obtain⟨a,ys,rfl,sq,dl⟩:=nx.lst R.sub;obtain rfl:=aBH dl e1;obtain⟨u,rfl,ru⟩:=iY r;cases ru;obtain⟨aF,rv,pl,hz⟩:=I.list sq;have hh:X.A.in1.handled=qz:=I.ok.hd hc;refine call_any_walkS (jw pl.isList ?_);have hne:a≠s.heap.objs.size:=by
   obtain⟨o,ho,_⟩:=pl.isList;exact xAk (xAa ho)
  have hl:=rv.length;rw[yAb] at hl;refine⟨_,_,_,_,_,_,_,λ i=>bs.getD i false,rfl,aBJ hh s.heap.objs.size a hne aF.toArray,⟨⟨_,xAe _ rfl,rfl,rfl⟩,?_⟩,λ i v s' Q' E' e hq=>?_,λ s' mv=>?_⟩
  ·obtain⟨o,ho,r'⟩:=pl.isList;exact⟨o,hpS _ ho,r'⟩
  ·obtain rfl:=aEA rv (i:=i) (by simpa using e)
   exact aFi hq
  ·obtain⟨h',g',d',t2,o'⟩:=s';obtain⟨mh,mg,md,mo,mt⟩:=mv;dsimp only at mh mg md mo;subst mg md mo;have I':Inv X aB σ H {s with heap:=h',toks:=t2 }:=I.kept λ b o e=>mh b o (λ z=>by
    have:b=s.heap.objs.size:=by simpa using z
    exact yBx _ (this▸xAa e)) (hpS _ e)
   rw[yAe,<- hl,aMM];exact⟨.bl (bs.any id),H,I',rfl,q.here R (.bl _)⟩
 ·cases e
noncomputable def tyD:D->Option String
 | .none=>qq "NoneType"
 | .bool _=>qq "bool"
 | .int _=>qq "int"
 | .str _=>qq "str"
 | .list _=>qq "list"
 | .tuple _=>qq "tuple"
 | .dict _=>qz
noncomputable def wA(K:FrG)(n:String)(d:D):Option D:=(tyD d).bind λ t=>(PySem.W.kitOne K (.type t) (.type n)).map yDr
theorem aQC{aB:List (qv×Obj)}{s:qj}{σ:L2.St}{H F:Hp}{L:List qv}{S:aC}{x:V}{v:qx}{d z:D}{n:String}{Q:VK}(I:Inv X aB σ H s)(R:Rel X.K F L S H)(rx:aZ x v)(nx:bQ X.K F H d x)(e:wA X.K n d=qq z)(q:fJ X F L S z Q) :
 qy (model X.prog X.w) X.A (call (.builtin "isinstance") [v,.type n]) (EP X aB σ Q) X.xe s:=by
 obtain⟨t,e1,e2⟩:=bind_some e;cases ek:PySem.W.kitOne X.K (.type t) (.type n) with
 | none=>rw[ek] at e2;cases e2
 | some b =>
   rw[ek] at e2;cases e2;have bT:∀ tk,EP X aB σ Q (.bool b) {s with toks:=tk }:=λ tk=>⟨.bl b,H,I.tok _,rfl,q.here R (.bl b)⟩
   cases d with
   | none=>cases e1;obtain rfl:=nx.non;cases (show v=Value.none from rx);exact yEc PySem.W.kitx_none I.kIn True.intro ek (λ z=>nomatch z) bT
   | bool y=>cases e1;obtain rfl:=nx.bl;cases (show v=Value.bool y from rx);exact yEc PySem.W.kitx_bool I.kIn True.intro ek (λ z=>nomatch z) bT
   | int i=>cases e1;obtain rfl:=nx.int;obtain⟨t,q⟩:=(show ∃ t,v=Value.int i t from rx);cases q;exact yEc PySem.W.kitx_int I.kIn True.intro ek (λ z=>nomatch z) bT
   | str y=>cases e1;obtain rfl:=nx.str;obtain⟨t,q⟩:=(show ∃ t,v=Value.str y t from rx);cases q;exact yEc PySem.W.kitx_str I.kIn True.intro ek (λ z=>nomatch z) bT
   | list l =>
     cases e1;obtain⟨a,xs,rfl,sq,dl⟩:=nx.lst R.sub;cases (show v=Value.ref a from rx)
     obtain⟨aF,rv,pl,_⟩:=I.list sq;obtain⟨o,ho,hc,_⟩:=pl.isList;exact yEc PySem.W.kitx_list I.kIn ⟨o,ho,hc⟩ ek (λ z=>nomatch z) bT
   | tuple l =>
     cases e1;obtain⟨a,xs,rfl,sq,dl⟩:=nx.tup R.sub;cases (show v=Value.ref a from rx)
     obtain⟨aF,rv,pl,_⟩:=I.tuple sq;obtain⟨o,ho,hc,_⟩:=pl;exact yEc PySem.W.kitx_tuple I.kIn ⟨o,ho,hc⟩ ek (λ z=>nomatch z) bT
   | dict l=>cases e1
noncomputable def aKb(K:FrG)(n:String)(fa:FE):FE:=f1 fa (fZ (wA K n))
theorem aUA{a:qw}{fa:FE}{n:String}{x:Str}{p p' pos:Pos}(ha:PE X a (aV X.K fa))(hg:Gl X "isinstance")(hm:X.mg "isinstance" = qz)(hv:xo "isinstance" = qq (.builtin "isinstance"))(hg':Gl X x)(hm':X.mg x=qz)(hv':xo x=qq (.type n))(hn:x ≠ "__name__")(hd:(x==("__debug__" : Str))=false)
 (h1:zq [a,.Name x p'] X.env=(false,eval a X.env)::zq [.Name x p'] X.env):PE X (.Call (.Name "isinstance" p) [a,.Name x p'] [] pos) (aV X.K (aKb X.K n fa)):=by
 have pt:PE X (.Name x p') (tC (.ty n)):=aOM hg' hm' hv' rfl hn hd;have rule:dF X (.builtin "isinstance") (λ xs H Q=>∃ F L S y d z,xs=[y,.ty n]/\Rel X.K F L S H/\bQ X.K F H d y/\wA X.K n d=qq z/\fJ X F L S z Q):=λ aB s σ H xs us Q I r aT=>by
  obtain⟨F,L,S,y,d,z,e,R,ny,e2,q⟩:=aT;subst e;obtain⟨u,u2,rfl,r1,r2⟩:=aAH r;cases (show u2=Value.type n from r2)
  exact aQC I R r1 ny e2 q
 refine PE.weak (nT rule hg hm hv (aCw ha (aCw pt aIw) h1) (by decide) (by decide) h1 rfl) λ σ H Q hPq38=>?_
 obtain⟨F,L,S,env,w,S',R,E,e,q⟩:=hPq38;obtain⟨⟨w1,S1⟩,e1,e2⟩:=bind_some e;obtain⟨d,z,e3,e4,rfl,rfl⟩:=tV e2;exact⟨F,L,S,env,w1,_,R,E,e1,λ F1 L1 H1 v g1 R1 d1=>⟨F1,L1,_,v,d,z,rfl,R1,jP R1 d1 e3,e4,zV X rfl λ F2 L2 H2 v2 g2 R2 d2=>q F2 L2 H2 v2 (g1.trans g2) R2 d2⟩⟩
noncomputable def aI0:D->Option D
 | .int i=>qq (.int ((yAk i:Nat):Int))
 | _=>qz
noncomputable def aDd(fa:FE):FE:=f1 fa (fZ aI0)
theorem aPk:qL X "int.bit_length" (λ x xs H Q=>∃ i,x=.int i/\xs=[]/\Q (.int ((yAk i:Nat):Int)) H):=λ aB s σ H x xs v us Q I rx rs aT=>by
 obtain⟨i,e1,e2,q⟩:=aT;subst e1 e2;obtain⟨t,rfl⟩:=rx;cases rs;exact call_gives yGb (yj s i t) PySem.F.entry_int_bit_length (PySem.F.args_int_bit_length_1 _) (PySem.AutoIntG2.int_bit_length_int_0 i t) (show EP X aB σ Q _ _ from ⟨.int _,H,I.tok _,⟨_,rfl⟩,q⟩)
end
section
variable {X : Cx}{aB : List (qv×Obj)}{σ : L2.St}{H : Hp}{s : qj}{h' : Heap}
theorem aE7{ch:List qv}{p:qv}{o:HO}{t':Nat}(I:Inv X aB σ H s)(hch:∀ b∈ch,gH X aB H b)(k:∀ b u,b ∉ ch->s.heap.get? b=qq u->h'.get? b=qq u)(hp:s.heap.objs.size<=p)
 (new:gW X.prog X.w (bE H p o) h' p o):Inv X aB σ (bE H p o) {s with heap:=h',toks:=t' }:=by
 have hn:=I.hok.fresh hp;have nch:∀ b u,H b=qq u->b ∉ ch:=λ b u e z=>by rw[(hch b z).1] at e;cases e
 have nep:∀ b u,s.heap.get? b=qq u->b≠p:=λ b u e z=>absurd (xAc (xAa e) hp) (by rw[z];exact yBx _)
 refine I.step (g':=s.gens) (d':=s.drawn) (ch:=ch) (λ b hb=>⟨(hch b hb).2.2.2.1,(hch b hb).2.1,(hch b hb).2.2.2.2.1,(hch b hb).2.2.2.2.2⟩) (λ b o _ _ hc e _=>k b o hc e) (λ b o _ _ hc e _=>⟨o.slots,k b o hc e⟩) (λ b o _ e n=>by rw[bP (nep b o e)];exact n)
  (λ b o hc e=>⟨o,k b o hc e⟩) (λ b xs e=>by rw[bP (eC e hn)];exact e) (λ b u v e=>by rw[bP (eC e hn)];exact e) (λ b ps e=>⟨#[],by rw[bP (eC e hn),e];simp⟩) (λ m hm=>?_) (λ b u e=>?_) I.bare
 ·obtain⟨o,es,ep,ho,r⟩:=hm;exact⟨o,es,ep,k _ o (λ z=>(hch _ z).2.1 rfl) ho,r⟩
 ·by_cases hb:b=p
  ·subst hb;rw[dE] at e;cases e;exact new
  ·rw[bP hb] at e;refine(I.hok b u e).stay (λ c v hc q=>k c v ?_ q) (λ c q=>by rw[bP (eC q hn)];exact q) λ c xs q=>by rw[bP (eC q hn)];exact q
   rcases hc with z | z
   ·rw[z];exact nch b u e
   ·exact nch c _ z
end
section
variable {X : Cx}
noncomputable def aUM(k:Int):List D->List D
 | []=>[]
 | d::r=>.tuple [.int k,d]::aUM (k+1) r
end
section
variable {prog : qo}{w : zw}{A : zy}{E : qx -> qj -> Prop}{s : qj}
theorem aKS{it t:qv}{i:Nat}{aQ:Array qx}{x:qx}{Q:qx->qj->Prop}(hit:s.heap.IsTupleIter it t i)(ht:s.heap.IsTuple t aQ)(hx:aQ[i]? = qq x)
 (hQ:∀ h',h'.IsTupleIter it t (i+1)->yDx it s.heap h'->Q x {s with heap:=h' }):qy (model prog w) A (yAi (.ref it)) Q E s:=by
 obtain⟨o,ho,hc,hd⟩:=id hit;obtain⟨ol,hol,_,nl,hdl⟩:=ht;unfold yAi;refine wB (wpAny_callSpecial?_slot (name:=Str.ofString "__next__") hit.typeIs F.slot_tuple_iterator_next (xz F.slot_tuple_iterator_next hit.typeIs F.entry_tuple_iterator_next ?_ (F.args_tuple_iterator_next_1 _)));show qy _ _ (field (.ref it) 0 >>= _) _ _ s;refine wB (qu ho hd (x:=.ref t) rfl ?_);show qy _ _ (if (Value.ref t==Value.none)=true then _ else _) _ _ s
 rw[if_neg (show ¬ ((Value.ref t==Value.none)=true) from yAx)]
 show qy _ _ (field (.ref it) 1 >>= _) _ _ s;refine wB (qu ho hd (x:=.int i 0) rfl ?_);show qy _ _ (seqItems? (.ref t) >>= _) _ _ s;refine wB (zx hol hdl ?_);simp only[yAr,hx];refine wB (wpAny_setField ho hd (by simp) (wP ⟨x,rfl,wP (hQ _ ⟨_,yCk _ ho (Obj.isFreed_of_fields (Obj.data_mapFields hd _)),(Obj.cls_mapFields ..).trans hc,?_⟩ (Heap.SameBut.update ..))⟩))
 rw[Obj.data_mapFields hd];simp[yx]
theorem aK5{it t:qv}{i:Nat}{aQ:Array qx}{Q:qx->qj->Prop}(hh:A.handled=qz)(hit:s.heap.IsTupleIter it t i)(ht:s.heap.IsTuple t aQ)(hx:aQ[i]? = qz)
 (hE:∀ h' e,Heap.ExtBut it s.heap h'->(∃ o,h'.get? e=qq o/\o.cls=.type "StopIteration")->E (.ref e) {s with heap:=h' }):qy (model prog w) A (yAi (.ref it)) Q E s:=by
 obtain⟨o,ho,hc,hd⟩:=id hit;obtain⟨ol,hol,_,nl,hdl⟩:=ht;unfold yAi;refine wB (wpAny_callSpecial?_slot (name:=Str.ofString "__next__") hit.typeIs F.slot_tuple_iterator_next (xz F.slot_tuple_iterator_next hit.typeIs F.entry_tuple_iterator_next ?_ (F.args_tuple_iterator_next_1 _)));show qy _ _ (field (.ref it) 0 >>= _) _ _ s;refine wB (qu ho hd (x:=.ref t) rfl ?_);show qy _ _ (if (Value.ref t==Value.none)=true then _ else _) _ _ s
 rw[if_neg (show ¬ ((Value.ref t==Value.none)=true) from yAx)]
 show qy _ _ (field (.ref it) 1 >>= _) _ _ s;refine wB (qu ho hd (x:=.int i 0) rfl ?_);show qy _ _ (seqItems? (.ref t) >>= _) _ _ s;refine wB (zx hol hdl ?_);simp only[yAr,hx];refine wB (vx (wB (wpAny_setField ho hd (by simp) ?_)))
 show qy _ _ (newExc (.type "StopIteration") [] >>= _) _ _ _;refine wB ?_;simp only[newExc,newTuple];refine wB (xy (wB (m:=firstArgMember _ _) (wpAny_of_eq (a:=Value.none) (by first | rfl | (simp only[firstArgMember];rfl)) (xy ?_ (by size_fits)))) (by size_fits))
 simp only[raiseNew];refine wB (wpAny_handled ?_)
 first | rw[show A.in1.handled=qz from hh] | rw[hh]
 exact wB (wP (wpAny_throw (hE _ _ (((Heap.SameBut.update ..).extBut.push _).push _) ⟨_,xAe _ rfl,rfl⟩)))
theorem aMW(hh:A.handled=qz)(it t:qv)(hne:t≠it)(aQ:Array qx):Draws prog w A it [it,t] aQ.size (λ i v=>aQ[i]? = qq v) (λ i h=>h.IsTupleIter it t i/\h.IsTuple t aQ) where
 live:=λ _ _ st=>let ⟨o,ho,_⟩:=st.1;⟨o,ho⟩
 frame:=λ _ _ _ st hk=>⟨st.1.at λ o e=>hk it (by simp) o e,let ⟨u,hu,r⟩:=st.2;⟨u,hk t (by simp) u hu,r⟩⟩
 item:=λ i s Q E hi st hQ=>aKS st.1 st.2 (x:=aQ[i]) (by simp[hi]) λ h' hit' hs'=>hQ _ h' s.toks (by simp[hi]) ⟨hit',let ⟨u,hu,r⟩:=st.2;⟨u,hs'.extBut t u hne hu,r⟩⟩ hs'
 done:=λ s Q E st hE=>aK5 hh st.1 st.2 (by simp) hE
end
section
variable {X : Cx}
end
inductive Tv where
 | int (i:Int) | str (x:Str) | bool (b:Bool)
 deriving DecidableEq
noncomputable def Tv.d:Tv->D
 | .int i=>.int i | .str x=>.str x | .bool b=>.bool b
noncomputable def Tv.v:Tv->V
 | .int i=>.int i | .str x=>.str x | .bool b=>.bl b
theorem Tv.den{K:FrG}{F:Hp}(t:Tv):Den K F t.d t.v:=by
 cases t
 ·exact .int _
 ·exact .str _
 ·exact .bl _
noncomputable def rT(w:zw):List DictEntry->List (Str×Tv)->Prop
 | [],[]=>True
 | e::r,(x,v)::aW=>e.hash=hashStr w x/\(∃ t,e.key=.str x t)/\aZ v.v e.val/\rT w r aW
 | _,_=>False
def vQ(K:FrG)(w:zw)(a:qv)(aW:List (Str×Tv)):Prop:=∃ es ep,K.lookup a=qq {cls:=.type "dict",data:=.dict es ep }/\rT w es.toList aW
noncomputable def aA3(aW:List (Str×Tv)):D->Option D
 | .str x=>(aW.lookup x).map Tv.d
 | _=>qz
theorem aF6{P:qo}{w:zw}:∀ {l:List DictEntry}{aW:List (Str×Tv)},rT w l aW->∀ e∈l,∃ k,(nX P w).is k e.key=true/\e.hash=(nX P w).hash k
 | [],[],_,e,h=>by cases h
 | e::r,(x,v)::aW,ok,e',h=>by
   obtain⟨h1,⟨t,h2⟩,_,h4⟩:=ok;rcases List.mem_cons.mp h with rfl | h
   ·exact⟨.inr x,by rw[h2];exact aFA x t,h1⟩
   ·exact aF6 h4 e' h
 | [],_::_,ok,_,_=>ok.elim
 | _::_,[],ok,_,_=>ok.elim
theorem aM7(x y:Str)(t:Tok):pY (.inr x) (.str y t)=(x==y):=by
 have h:(y==x)=(x==y):=by
  rw[yFg];constructor<;>intro z<;>simp at z ⊢ <;> exact z.symm
 simp[pY,Value.isStrOf,h]
theorem aGG{w:zw}{k:Str}{v:Tv}:∀ {l:List DictEntry}{aW:List (Str×Tv)},rT w l aW->aW.lookup k=qq v->∃ u,(l.find? λ e=>pY (.inr k) e.key).map (·.val)=qq u/\aZ v.v u
 | [],[],_,h=>by cases h
 | e::r,(x,v')::aW,ok,h=>by
   obtain⟨h1,⟨t,h2⟩,h3,h4⟩:=ok;rw[yBv] at h;rw[List.find?_cons,h2,aM7];cases q:k==x with
   | true =>
     rw[q] at h;cases h;exact⟨e.val,rfl,h3⟩
   | false =>
     rw[q] at h;exact aGG h4 h
 | [],_::_,ok,_=>ok.elim
 | _::_,[],ok,_=>ok.elim
section
variable {X : Cx}
theorem aRC{aW:List (Str×Tv)}:lW X (λ x y H Q=>∃ a k v,x=.ref a/\vQ X.K X.w a aW/\y=.str k/\aW.lookup k=qq v/\Q v.v H):=by
 intro value iU aB s σ H x y v u Q I rx ry h hs;obtain⟨a,k,tv,rfl,⟨es,ep,hl,ok⟩,rfl,hv,q⟩:=h;cases rx;obtain⟨t,rfl⟩:=ry;obtain⟨z,e1,e2⟩:=aGG ok hv;have hm:s.heap.MapOf (nX X.prog X.w) a (λ k=>findBy (nX X.prog X.w).is es k):=⟨_,es,ep,I.kIn a _ hl,⟨rfl,rfl,rfl⟩,rfl,λ e he=>aF6 ok e (by simpa using he),λ _=>rfl⟩
 have hz:findBy (nX X.prog X.w).is es (.inr k)=qq z:=by
  unfold findBy;rw[<- Array.find?_toList];exact e1
 exact tail_any hm.typeIs PySem.F.slot_dict_getitem.lookup (wpAny_getItem_of (aFA k t) hm hz ⟨_,H,I.tok _,e2,q⟩) hs
theorem aTM{x:Str}{k:qw}{fk:FE}{p pos:Pos}{aW:List (Str×Tv)}(hg:Gl X x)(hd:(x==("__debug__" : Str))=false)(ht:∃ a,X.mg x=qq (.ref a)/\vQ X.K X.w a aW)(hk:PE X k (aV X.K fk))(hs:zU k) :
 PE X (.Subscript (.Name x p) k pos) (aV X.K (f1 fk (fZ (aA3 aW)))):=by
 obtain⟨a,hm,ta⟩:=ht;refine PE.weak (aJo (aRC (aW:=aW)) (aHP (v:=.ref a) hg hm rfl hd) hk hs) λ σ H Q hPq39=>?_
 obtain⟨F,L,S,env,w,S',R,E,e,q⟩:=hPq39;obtain⟨⟨w1,S1⟩,e1,e2⟩:=bind_some e;obtain⟨d,z,e3,e4,rfl,rfl⟩:=tV e2;cases d with
 | str y =>
   obtain⟨v,hv,rfl⟩:=Option.map_eq_some_iff.mp (show(aW.lookup y).map Tv.d=qq z from e4)
   refine⟨F,L,S,env,w1,_,R,E,e1,λ F1 L1 H1 u g1 R1 d1=>⟨a,y,v,rfl,ta,(jP R1 d1 e3).str,hv,?_⟩⟩
   exact q F1 L1 H1 v.v g1 R1 (show Den X.K F1 v.d v.v from v.den)
 | _=>cases e4
end
section
variable {prog : qo}{w : zw}{A : zy}{s : qj}{R : Result -> qj -> Prop}{J : qv}{fp wr : List qv}{Gg : Array GenState -> Array GenState -> Prop}{m : Nat}{P : Nat -> qx -> Prop}{St : Nat -> qj -> Prop}
end
section
variable {prog : qo}{w : zw}{A : zy}{E : qx -> qj -> Prop}{s : qj}{J : qv}{fp wr : List qv}{Gg : Array GenState -> Array GenState -> Prop}{m : Nat}{P : Nat -> qx -> Prop}{St : Nat -> qj -> Prop}
end
section
variable {X : Cx}
end
noncomputable def aAE:List qx->List Tv->Prop
 | [],[]=>True
 | u::us,t::ts=>aZ t.v u/\aAE us ts
 | _,_=>False
theorem aGM:∀ {us:List qx}{ts:List Tv},aAE us ts->aS (ts.map Tv.v) us
 | [],[],_=>.nil
 | _::_,_::_,⟨h1,h2⟩=>.cons h1 (aGM h2)
 | [],_::_,h=>h.elim
 | _::_,[],h=>h.elim
theorem aHw{K:FrG}{F:Hp}:∀ ts:List Tv,DenL K F (ts.map Tv.d) (ts.map Tv.v)
 | []=>.nil
 | t::ts=>.cons t.den (aHw ts)
def rY(K:FrG)(a:qv)(ts:List Tv):Prop:=∃ (o:Obj) (aF:Array qx) (n:Nat),K.lookup a=qq o/\o.cls=.type "tuple" /\ o.data=.seq aF n/\aF.size<=qk/\aAE aF.toList ts
theorem aPu{K:FrG}{F:Hp}{a:qv}{ts:List Tv}(h:rY K a ts):Den K F (.tuple (ts.map Tv.d)) (.ref a):=by
 obtain⟨o,aF,n,h1,h2,h3,h4,h5⟩:=h;exact .tup (.inr ⟨o,aF,n,h1,h2,h3,h4,aGM h5⟩) (aHw ts)
section
variable {X : Cx}
theorem aU9{x:Str}{p:Pos}{ts:List Tv}(hg:Gl X x)(hd:(x==("__debug__" : Str))=false)(ht:∃ a,X.mg x=qq (.ref a)/\rY X.K a ts):PE X (.Name x p) (aV X.K (fC (.tuple (ts.map Tv.d)))):=by
 obtain⟨a,hm,ca⟩:=ht;refine PE.weak (aHP (v:=.ref a) hg hm rfl hd) λ σ H Q hPq40=>?_
 obtain⟨F,L,S,env,w,S',R,E,e,q⟩:=hPq40;cases e;exact q F L H _ Gr.refl R (aPu ca)
noncomputable def aRm(op op':vj)(fa fb fc:FE):FE:=λ env S=>(fa env S).bind λ p=>(fb env p.2).bind λ q=>(gK (aM op) q.2 p.1 q.1).bind λ r=>match r.1 with
 | .d (.bool true)=>(fc env r.2).bind λ t=>gK (aM op') t.2 q.1 t.1
 | .d (.bool false)=>qq (.d (.bool false),r.2)
 | _=>qz
theorem aKO{prog:qo}{w:zw}{A:zy}{E:qx->qj->Prop}{s:qj}{t sl:qv}{aQ:Array qx}{vl vu:qx}{lo hi:Option Int}{Q:qx->qj->Prop}(ht:IsTup s.heap t aQ)(hs:s.heap.IsSliceOf sl vl vu .none)(pl:IsPart vl lo)(pu:IsPart vu hi)
 (hw:HT.sIx aQ.size 0 lo=0/\HT.sIx aQ.size aQ.size hi=aQ.size) (h:Q (.ref t) s):qy (model prog w) A (getItem (.ref t) (.ref sl)) Q E s:=by
 obtain⟨os,hos,hcs,hds⟩:=id hs;have hTs:s.TypeIs (.ref sl) "slice":=⟨os,hos,hcs⟩;unfold getItem
 try with_reducible refine zu ?_
 first | refine wB (wP ?_) | skip
 refine wB (wpAny_sequenceKey ht.typeIs (by decide) ?_)
 refine wB (wpAny_callSpecial?_slot (name:=Str.ofString "__getitem__") ht.typeIs yCe
  (xz yCe ht.typeIs entry_tuple_getitem ?_ (args_tuple_getitem _ _)))
 show qy _ _ (yGg (.ref t) >>= _) _ _ s;refine wB (tupleItemsOf_ ht ?_);refine wB (wpAny_typeOf hTs ?_);rw[if_pos (by decide)]
 refine wB (HT.sliceApplied_gen hs pl pu ?_);have hyes:(((HT.sIx aQ.size 0 lo:Nat):Int)==0&&(1:Int)==1&&(HT.sIx aQ.size aQ.size hi-HT.sIx aQ.size 0 lo)==aQ.size)=true:=by
  rw[hw.1,hw.2];simp
 show qy _ _ (if (((HT.sIx aQ.size 0 lo:Nat):Int)==0&&(1:Int)==1&&(HT.sIx aQ.size aQ.size hi-HT.sIx aQ.size 0 lo)==aQ.size)=true then _ else _) _ _ s
 rw[if_pos hyes];unfold Builtin.Tuple.tupleIsExact;refine wB (wB (wpAny_typeOf ht.typeIs (wP ?_)));rw[if_pos (by decide)]
 first
  | exact wB (vx (wP ⟨_,rfl,wP h⟩))
  | exact wB (vx (wB (wP (wP ⟨_,rfl,wP h⟩))))
  | exact wB (vx (wP ⟨_,rfl,h⟩))
noncomputable def aTn(K:FrG):V->Option Int->Option Int->Hp->VK->Prop:=λ x lo hi H Q=>∃ a xs,x=.ref a/\cF K H a xs /\
 (((HT.sIx xs.length 0 lo=0/\HT.sIx xs.length xs.length hi=xs.length)/\Q (.ref a) H)\/(¬ (HT.sIx xs.length 0 lo=0/\HT.sIx xs.length xs.length hi=xs.length)/\∀ p,H p=qz->Q (.ref p) (bE H p (.tup (mZ xs lo hi)))))
theorem aO3:pA X (aTn X.K):=by
 intro aB s σ H x v vl vu lo hi sl Q I rx hs pl pu h;obtain⟨a,xs,rfl,hx,⟨hw,q⟩ | ⟨hw,q⟩⟩:=h
 ·cases rx;obtain⟨aF,r,ht,hz⟩:=I.tuple hx;have cH:aF.toArray.size=xs.length:=by rw[yAe];exact r.length.symm
  refine⟨"tuple",_,PyProof.Rows.slot_tuple_getitem.lookup,ht.typeIs,?_⟩;exact aKO ht hs pl pu (by rw[cH];exact hw) ⟨.ref a,H,I,rfl,q⟩
 ·exact aQ3 aB s σ H _ v vl vu lo hi sl Q I rx hs pl pu ⟨a,xs,rfl,hx,hw,q⟩
noncomputable def aKp:D->Option Int->Option Int->Option D
 | .tuple xs,lo,hi=>qq (.tuple (eB xs lo hi))
 | _,_,_=>qz
noncomputable def aIS(fa:FE)(fl fh:FO):FE:=λ env S=>(fa env S).bind λ p=>(fl env p.2).bind λ q=>(fh env q.2).bind λ r=>(dr r.2 p.1).bind λ d=>(aKp d q.1 r.1).bind λ z=>qq (.d z,r.2)
theorem aQ7{a:qw}{lo hi:Option qw}{p2 pos:Pos}{fa:FE}{fl fh:FO}(ha:PE X a (aV X.K fa))(hl:PO X lo (lK X.K fl))(hh:PO X hi (lK X.K fh)):PE X (.Subscript a (.Slice lo hi qz p2) pos) (aV X.K (aIS fa fl fh)):=
 PE.weak (aF8 aO3 ha hl hh) λ σ H Q aT=>by
  obtain⟨F,L,S,env,ds,S',R,E,e,q⟩:=aT;obtain⟨⟨w,S1⟩,e1,e⟩:=bind_some e;obtain⟨⟨l,S2⟩,e2,e⟩:=bind_some e;obtain⟨⟨h,S3⟩,e3,e⟩:=bind_some e;obtain⟨d,e4,e⟩:=bind_some e;obtain⟨z,e5,e⟩:=bind_some e;cases e;refine⟨F,L,S,env,w,S1,R,E,e1,λ F1 L1 H1 v g1 R1 d1=>⟨F1,L1,S1,env,l,S2,R1,E.mono g1,e2,λ F2 L2 H2 g2 R2=>⟨F2,L2,S2,env,h,S3,R2,E.mono (g1.trans g2),e3,λ F3 L3 H3 g3 R3=>?_⟩⟩⟩
  have n:=jP R3 (d1.mono (g2.trans g3)) e4;cases d with
  | tuple xs =>
    cases e5;obtain⟨a,vs,rfl,sq,dl⟩:=n.tup R3.sub;refine⟨a,vs,rfl,sq,?_⟩
    by_cases hw:HT.sIx vs.length 0 l=0/\HT.sIx vs.length vs.length h=vs.length
    ·refine .inl ⟨hw,q F3 L3 H3 _ ((g1.trans g2).trans g3) R3 ?_⟩;have ec:eB xs l h=xs:=by
      unfold eB;rw[dl.length,hw.1,hw.2,yEl,yGk,<- dl.length,yAh]
     rw[ec];rcases n with n | ⟨_,_,_,z,_⟩
     ·exact n
     ·cases z
    ·exact .inr ⟨hw,λ p hp=>q _ L3 _ _ (((g1.trans g2).trans g3).trans (Gr.new (R3.sub.free hp))) (R3.new hp) (Den.tup (cF.of dE) ((aGU dl l h).mono (eM (R3.sub.free hp))))⟩
  | _=>cases e5
noncomputable def aUZ(X:Cx):R2:=λ x y H Q=>∃ a k xs,x=.ref a/\y=.int k/\bY X.K H a xs /\ -(2^63)<=k/\k<2^63/\xs.length*k.toNat<=qk/\∀ p,H p=qz->Q (.ref p) (bE H p (.lst (yAd k.toNat xs).flatten))
noncomputable def vX(fa fb:FE):FL:=λ env S=>(fa env S).bind λ p=>(fb env p.2).bind λ q=>(dr q.2 p.1).bind λ d=>match d,q.1 with
 | .list xs,.d (.int k)=>if k<2^63 /\ -(2^63)<=k/\xs.length*k.toNat<=qk then qq (wQ k.toNat xs,q.2) else qz
 | _,_=>qz
theorem aUR{a b:qw}{pos:Pos}{fa fb:FE}(ha:PE X a (aV X.K fa))(hb:PE X b (aV X.K fb)):PE X (.BinOp a .Mult b pos) (iA X.K (vX fa fb)):=by
 refine PE.weak (aI5 (r:=aUZ X) (λ aB s σ H x y v u Q I rx ry ⟨a,k,xs,hx,hy,sq,h1,h2,hz,q⟩=>?_) ha hb) λ σ H Q ⟨F,L,S,env,ds,S',R,E,e,q⟩=>?_
 ·subst hx hy;cases rx;obtain⟨t,rfl⟩:=ry;exact aKg I sq h1 h2 hz q
 ·obtain⟨⟨w1,S1⟩,e1,e⟩:=bind_some e;obtain⟨⟨w2,S2⟩,e2,e⟩:=bind_some e;obtain⟨d,e3,e⟩:=bind_some e;dsimp only at e e2 e3;refine⟨F,L,S,env,w1,S1,R,E,e1,λ F1 L1 H1 x g1 R1 d1=>⟨F1,L1,S1,env,w2,S2,R1,E.mono g1,e2,λ F2 L2 H2 y g2 R2 d2=>?_⟩⟩
  cases d with
  | list xs =>
    cases w2 with
    | loc n=>cases e
    | d v =>
      cases v with
      | int kk =>
        dsimp only at e
        split at e
        ·rename_i c;cases e;obtain⟨a,vs,rfl,sq,dl⟩:=(jP R2 (d1.mono g2) e3).lst R2.sub;cases (show Den X.K F2 (.int kk) y from d2)
         exact⟨a,kk,vs,rfl,rfl,sq,c.2.1,c.1,by rw[<- dl.length];exact c.2.2,λ p hp=>q F2 L2 _ p _ (g1.trans g2) (R2.lay hp) (R2.sub.free hp) (R2.notin hp) dE (dl.rep kk.toNat)⟩
        ·cases e
      | _=>cases e
  | _=>cases e
end
structure ZA(z TI TO i1 i2:qv)(cC cD:List qv):Prop where
 TIz:TI≠z
 TOz:TO≠z
 i1z:i1≠z
 i2z:i2≠z
 TITO:TI≠TO
 TIi1:TI≠i1
 TIi2:TI≠i2
 TOi1:TO≠i1
 TOi2:TO≠i2
 f1:∀ b∈cC,b≠z/\b≠TO/\b≠i2
 f2:∀ b∈cD,b≠z/\b≠TO/\b≠i1
section
variable {prog : qo}{w : zw}{A : zy}{E : qx -> qj -> Prop}{s : qj}
theorem aKY{z TI TO i1 i2:qv}{cC cD:List qv}{n1 n2 k:Nat}{P1 P2:Nat->qx->Prop}{bK bG:Nat->Heap->Prop}{a b:qx}{Q:qx->qj->Prop}
 (D1:Draws prog w A i1 cC n1 P1 bK) (D2:Draws prog w A i2 cD n2 P2 bG) (Z:ZA z TI TO i1 i2 cC cD)
 (hz:xu s.heap z TI TO .none) (cB:xq s.heap TI (.ref i1) (.ref i2)) (cM:xq s.heap TO a b) (s1:bK k s.heap) (s2:bG k s.heap) (k1:k<n1) (k2:k<n2)
 (hQ:∀ x y h' tk,P1 k x->P2 k y->xu h' z TI TO (yx s.heap.objs.size)->xq h' TO x y->xq h' TI (.ref i1) (.ref i2)->bK (k+1) h'->bG (k+1) h'->xq h' s.heap.objs.size x y->h'.objs.size=s.heap.objs.size+1 ->
   (∀ c o,c≠z->c≠TO->c≠i1->c≠i2->s.heap.get? c=qq o->h'.get? c=qq o)->Q (.ref s.heap.objs.size) {s with heap:=h',toks:=tk }) :
 qy (model prog w) A (Builtin.«zip.__next__» ⟨[.ref z],[]⟩) (λ bT s'=>∃ v,bT=.done (.ret v)/\Q v s') E s:=by
 show qy _ _ (field (.ref z) 2 >>= _) _ _ _;refine wB (qu hz rfl (x:=.bool false) rfl ?_);show qy _ _ (field (.ref z) 3 >>= _) _ _ _;refine wB (qu hz rfl (x:=.ref TI) rfl ?_);refine wB (zx cB rfl ?_);show qy _ _ (yAj (.ref z) >>= _) _ _ _;refine wB ?_;unfold yAj;refine wB (qu hz rfl (x:=.none) rfl (wP ?_));simp only[if_true];refine wB (vx ?_);refine wB (qu hz rfl (x:=.ref TO) rfl ?_);refine wB (zv hz (by simp) λ h₁ hz₁ hs₁=>?_)
 replace hz₁:xu h₁ z TI TO .ellipsis:=hz₁
 refine wB ?_;simp only[yFx,yGc,yDm,yDv];have s11:bK k h₁:=D1.frame k _ _ s1 λ c hc o e=>hs₁.extBut _ _ (Z.f1 c hc).1 e
 have s21:bG k h₁:=D2.frame k _ _ s2 λ c hc o e=>hs₁.extBut _ _ (Z.f2 c hc).1 e
 refine wB (wB (jq ?_));show qy _ _ (yAi (.ref i1) >>= _) _ _ _;refine wB (D1.item k _ _ _ k1 s11 λ x h₂ tk₂ px s12 hs₂=>wP ?_)
 have s22:bG k h₂:=D2.frame k _ _ s21 λ c hc o e=>hs₂.extBut _ _ (Z.f2 c hc).2.2 e
 have hTO₂:xq h₂ TO a b:=hs₂.extBut _ _ Z.TOi1 (hs₁.extBut _ _ Z.TOz cM);refine wB (zx hTO₂ rfl ?_);refine wB (ww hTO₂ λ h₃ hTO₃ hs₃=>?_)
 replace hTO₃:xq h₃ TO x b:=hTO₃
 have s13:bK (k+1) h₃:=D1.frame _ _ _ s12 λ c hc o e=>hs₃.extBut _ _ (Z.f1 c hc).2.1 e
 have s23:bG k h₃:=D2.frame k _ _ s22 λ c hc o e=>hs₃.extBut _ _ (Z.f2 c hc).2.1 e
 refine wB (jy (wP ?_));refine wB (wB (jq ?_));show qy _ _ (yAi (.ref i2) >>= _) _ _ _;refine wB (D2.item k _ _ _ k2 s23 λ y h₄ tk₄ py s24 hs₄=>wP ?_)
 have s14:bK (k+1) h₄:=D1.frame _ _ _ s13 λ c hc o e=>hs₄.extBut _ _ (Z.f1 c hc).2.2 e
 have hTO₄:xq h₄ TO x b:=hs₄.extBut _ _ Z.TOi2 hTO₃;refine wB (zx hTO₄ rfl ?_);refine wB (ww hTO₄ λ h₅ hTO₅ hs₅=>?_)
 replace hTO₅:xq h₅ TO x y:=hTO₅
 have s15:bK (k+1) h₅:=D1.frame _ _ _ s14 λ c hc o e=>hs₅.extBut _ _ (Z.f1 c hc).2.1 e
 have s25:bG (k+1) h₅:=D2.frame _ _ _ s24 λ c hc o e=>hs₅.extBut _ _ (Z.f2 c hc).2.1 e
 refine wB (jy (wP (wP ?_)));refine wB (zx hTO₅ rfl ?_);refine wB (wpAny_newTuple ?_);have hsz:h₅.objs.size=s.heap.objs.size:=by rw[hs₅.1,hs₄.1,hs₃.1,hs₂.1,hs₁.1]
 have hz₅:xu h₅ z TI TO .ellipsis:=hs₅.extBut _ _ Z.TOz.symm (hs₄.extBut _ _ Z.i2z.symm (hs₃.extBut _ _ Z.TOz.symm (hs₂.extBut _ _ Z.i1z.symm hz₁)));have hk₅:∀ c o,c≠z->c≠TO->c≠i1->c≠i2->s.heap.get? c=qq o->h₅.get? c=qq o:=λ c o c1 c2 c3 c4 e =>
  hs₅.extBut _ _ c2 (hs₄.extBut _ _ c4 (hs₃.extBut _ _ c2 (hs₂.extBut _ _ c3 (hs₁.extBut _ _ c1 e))))
 have hzlt:z<h₅.objs.size:=xAa hz₅;show qy _ _ (yBu (.ref z) (.ref h₅.objs.size) >>= _) _ _ _;refine wB ?_;unfold yBu;have hz₆:xu (h₅.push {cls:=.type "tuple",data:=.seq #[x,y] }) z TI TO .ellipsis:=hpS _ hz₅;refine wB (zv hz₆ (by simp) λ h₇ hz₇ hs₇=>?_)
 replace hz₇:xu h₇ z TI TO (yx h₅.objs.size):=hz₇
 refine zv hz₇ (by simp) λ h₈ hz₈ hs₈=>?_
 replace hz₈:xu h₈ z TI TO (yx h₅.objs.size):=hz₈
 have up:∀ c o,c≠z->h₅.get? c=qq o->h₈.get? c=qq o:=λ c o c1 e=>hs₈.extBut _ _ c1 (hs₇.extBut _ _ c1 (hpS _ e))
 have hT₈:xq h₈ h₅.objs.size x y:=hs₈.extBut _ _ (yEv hzlt) (hs₇.extBut _ _ (yEv hzlt) (xAe _ rfl));have hz8:h₈.objs.size=h₅.objs.size+1:=by rw[hs₈.1,hs₇.1,yBc]
 rw[hsz] at hz₈ hT₈ hz8;refine wP ⟨_,rfl,?_⟩;show Q (.ref h₅.objs.size) _;rw[hsz];exact hQ x y h₈ _ px py hz₈ (up _ _ Z.TOz hTO₅) (up _ _ Z.TIz (hk₅ _ _ Z.TIz Z.TITO Z.TIi1 Z.TIi2 cB)) (D1.frame _ _ _ s15 λ c hc o e=>up c o (Z.f1 c hc).1 e) (D2.frame _ _ _ s25 λ c hc o e=>up c o (Z.f2 c hc).1 e) hT₈ hz8 λ c o c1 c2 c3 c4 e=>up c o c1 (hk₅ c o c1 c2 c3 c4 e)
theorem aLb{z TI TO i1 i2:qv}{cC cD:List qv}{n1 n2 k:Nat}{P1 P2:Nat->qx->Prop}{bK bG:Nat->Heap->Prop}{a b:qx}{Q:Fin->qj->Prop}
 (D1:Draws prog w A i1 cC n1 P1 bK) (D2:Draws prog w A i2 cD n2 P2 bG) (Z:ZA z TI TO i1 i2 cC cD)
 (hz:xu s.heap z TI TO .none) (cB:xq s.heap TI (.ref i1) (.ref i2)) (cM:xq s.heap TO a b) (s1:bK k s.heap) (s2:bG k s.heap) (hend:k=n1\/(k<n1/\k=n2))
 (hE:∀ h' tk e,(∀ c o,c≠z->c≠TO->c≠i1->c≠i2->s.heap.get? c=qq o->h'.get? c=qq o)->(∃ o,h'.get? e=qq o/\o.cls=.type "StopIteration")->E (.ref e) {s with heap:=h',toks:=tk }) :
 qy (model prog w) A (Builtin.«zip.__next__» ⟨[.ref z],[]⟩) Q E s:=by
 show qy _ _ (field (.ref z) 2 >>= _) _ _ _;refine wB (qu hz rfl (x:=.bool false) rfl ?_);show qy _ _ (field (.ref z) 3 >>= _) _ _ _;refine wB (qu hz rfl (x:=.ref TI) rfl ?_);refine wB (zx cB rfl ?_);show qy _ _ (yAj (.ref z) >>= _) _ _ _;refine wB ?_;unfold yAj;refine wB (qu hz rfl (x:=.none) rfl (wP ?_));simp only[if_true];refine wB (vx ?_);refine wB (qu hz rfl (x:=.ref TO) rfl ?_);refine wB (zv hz (by simp) λ h₁ hz₁ hs₁=>?_)
 replace hz₁:xu h₁ z TI TO .ellipsis:=hz₁
 refine wB ?_;simp only[yFx,yGc,yDm,yDv];have s11:bK k h₁:=D1.frame k _ _ s1 λ c hc o e=>hs₁.extBut _ _ (Z.f1 c hc).1 e
 have s21:bG k h₁:=D2.frame k _ _ s2 λ c hc o e=>hs₁.extBut _ _ (Z.f2 c hc).1 e
 refine wB (wB (jq ?_));show qy _ _ (yAi (.ref i1) >>= _) _ _ _;rcases hend with rfl | ⟨k1,rfl⟩
 ·refine wB (D1.done _ _ _ s11 λ h₂ e hs₂ he=>?_)
  obtain⟨oe,hoe,hce⟩:=he;have hz₂:xu h₂ z TI TO .ellipsis:=hs₂ _ _ Z.i1z.symm hz₁;have hez:e≠z:=λ x=>by subst x;rw[hz₂] at hoe;cases hoe;simp at hce
  exact zv hz₂ (by simp) λ h₃ _ hs₃=>hE h₃ _ e (λ c o c1 _ c3 _ x=>hs₃.extBut _ _ c1 (hs₂ _ _ c3 (hs₁.extBut _ _ c1 x))) ⟨oe,hs₃.extBut _ _ hez hoe,hce⟩
 ·refine wB (D1.item k _ _ _ k1 s11 λ x h₂ tk₂ px s12 hs₂=>wP ?_)
  have s22:bG k h₂:=D2.frame k _ _ s21 λ c hc o e=>hs₂.extBut _ _ (Z.f2 c hc).2.2 e
  have hTO₂:xq h₂ TO a b:=hs₂.extBut _ _ Z.TOi1 (hs₁.extBut _ _ Z.TOz cM);refine wB (zx hTO₂ rfl ?_);refine wB (ww hTO₂ λ h₃ hTO₃ hs₃=>?_)
  have s23:bG k h₃:=D2.frame k _ _ s22 λ c hc o e=>hs₃.extBut _ _ (Z.f2 c hc).2.1 e
  refine wB (jy (wP ?_));refine wB (wB (jq ?_));show qy _ _ (yAi (.ref i2) >>= _) _ _ _;refine wB (D2.done _ _ _ s23 λ h₄ e hs₄ he=>?_)
  obtain⟨oe,hoe,hce⟩:=he;have hz₄:xu h₄ z TI TO .ellipsis:=hs₄ _ _ Z.i2z.symm (hs₃.extBut _ _ Z.TOz.symm (hs₂.extBut _ _ Z.i1z.symm hz₁));have hez:e≠z:=λ x=>by subst x;rw[hz₄] at hoe;cases hoe;simp at hce
  exact zv hz₄ (by simp) λ h₅ _ hs₅=>hE h₅ _ e (λ c o c1 c2 c3 c4 x=>hs₅.extBut _ _ c1 (hs₄ _ _ c4 (hs₃.extBut _ _ c2 (hs₂.extBut _ _ c3 (hs₁.extBut _ _ c1 x))))) ⟨oe,hs₅.extBut _ _ hez hoe,hce⟩
theorem aKQ{z TI TO i1 i2:qv}{cC cD:List qv}{n1 n2 k:Nat}{P1 P2:Nat->qx->Prop}{bK bG:Nat->Heap->Prop}{a b:qx}{Q:Option qx->qj->Prop}
 (D1:Draws prog w A.in1 i1 cC n1 P1 bK) (D2:Draws prog w A.in1 i2 cD n2 P2 bG) (Z:ZA z TI TO i1 i2 cC cD)
 (hz:xu s.heap z TI TO .none) (cB:xq s.heap TI (.ref i1) (.ref i2)) (cM:xq s.heap TO a b) (s1:bK k s.heap) (s2:bG k s.heap) (k1:k<n1) (k2:k<n2)
 (hQ:∀ x y h' tk,P1 k x->P2 k y->xu h' z TI TO (yx s.heap.objs.size)->xq h' TO x y->xq h' TI (.ref i1) (.ref i2)->bK (k+1) h'->bG (k+1) h'->xq h' s.heap.objs.size x y->h'.objs.size=s.heap.objs.size+1 ->
   (∀ c o,c≠z->c≠TO->c≠i1->c≠i2->s.heap.get? c=qq o->h'.get? c=qq o)->Q (qq (.ref s.heap.objs.size)) {s with heap:=h',toks:=tk }) :
 qy (model prog w) A (ju (.ref z)) Q E s:=by
 have hT:s.TypeIs (.ref z) "zip":=⟨_,hz,rfl⟩;unfold ju;exact wB (vv (wpAny_callSpecial?_slot (name:=Str.ofString "__next__") hT F.slot_zip_next
  (xz F.slot_zip_next hT F.entry_zip_next
    (aKY D1 D2 Z hz cB cM s1 s2 k1 k2 λ x y h' tk a0 b0 a1 a2 a3 a4 a5 a6 a7 a8=>wP (hQ x y h' tk a0 b0 a1 a2 a3 a4 a5 a6 a7 a8)) (F.args_zip_next_1 _))))
theorem aKU{z TI TO i1 i2:qv}{cC cD:List qv}{n1 n2 k:Nat}{P1 P2:Nat->qx->Prop}{bK bG:Nat->Heap->Prop}{a b:qx}{Q:Option qx->qj->Prop}
 (D1:Draws prog w A.in1 i1 cC n1 P1 bK) (D2:Draws prog w A.in1 i2 cD n2 P2 bG) (Z:ZA z TI TO i1 i2 cC cD)
 (hz:xu s.heap z TI TO .none) (cB:xq s.heap TI (.ref i1) (.ref i2)) (cM:xq s.heap TO a b) (s1:bK k s.heap) (s2:bG k s.heap) (hend:k=n1\/(k<n1/\k=n2))
 (hQ:∀ h' tk,(∀ c o,c≠z->c≠TO->c≠i1->c≠i2->s.heap.get? c=qq o->h'.get? c=qq o)->Q qz {s with heap:=h',toks:=tk }):qy (model prog w) A (ju (.ref z)) Q E s:=by
 have hT:s.TypeIs (.ref z) "zip":=⟨_,hz,rfl⟩;unfold ju;refine wB (vv (wpAny_callSpecial?_slot (name:=Str.ofString "__next__") hT F.slot_zip_next
  (xz F.slot_zip_next hT F.entry_zip_next (aLb D1 D2 Z hz cB cM s1 s2 hend λ h' tk e hk he=>?_) (F.args_zip_next_1 _))))
 obtain⟨o,ho,hc⟩:=he;refine wB (yk (T:="StopIteration") (b:=true) ⟨o,ho,hc⟩ kx ?_);exact wP (hQ _ _ hk)
end
noncomputable def rP(t:Bool):String:=if t then "tuple_iterator" else "list_iterator"
def cZ(t:Bool)(h:Heap)(a:qv)(aF:Array qx):Prop:=match t with
 | true=>h.IsTuple a aF
 | false=>h.IsList a aF
def dY(t:Bool)(h:Heap)(it a:qv)(i:Nat):Prop:=match t with
 | true=>h.IsTupleIter it a i
 | false=>h.IsListIter it a i
def Sq(t:Bool)(K:FrG)(H:Hp)(a:qv)(xs:List V):Prop:=match t with
 | true=>cF K H a xs
 | false=>bY K H a xs
theorem dY.at{t:Bool}{h h':Heap}{it a:qv}{i:Nat}(x:dY t h it a i)(q:∀ o,h.get? it=qq o->h'.get? it=qq o):dY t h' it a i:=by
 cases t with
 | true=>exact Heap.IsTupleIter.at (h:=h) x q
 | false=>exact Heap.IsListIter.at (h:=h) x q
theorem dY.obj{t:Bool}{h:Heap}{it a:qv}{i:Nat}(x:dY t h it a i):∃ o,h.get? it=qq o/\∀ v,o.data≠.cell v:=by
 cases t with
 | true=>obtain⟨o,ho,hc,hd⟩:=x;exact⟨o,ho,λ v z=>by rw[hd] at z;cases z⟩
 | false=>obtain⟨o,ho,hc,hd⟩:=x;exact⟨o,ho,λ v z=>by rw[hd] at z;cases z⟩
theorem cZ.lt{t:Bool}{h:Heap}{a:qv}{aF:Array qx}(x:cZ t h a aF):a<h.objs.size:=by
 cases t with
 | true=>obtain⟨o,ho,_⟩:=x;exact xAa ho
 | false=>obtain⟨o,ho,_⟩:=x;exact xAa ho
theorem kQ{prog:qo}{w:zw}{A:zy}(hh:A.handled=qz)(t:Bool)(it l:qv)(hne:l≠it)(aQ:Array qx):Draws prog w A it [it,l] aQ.size (λ i v=>aQ[i]? = qq v) (λ i h=>dY t h it l i/\cZ t h l aQ):=by
 cases t with
 | true=>exact aMW hh it l hne aQ
 | false=>exact Draws.list hh it l hne aQ
theorem gP{X:Cx}{aB:List (qv×Obj)}{σ:L2.St}{H:Hp}{s:qj}{t:Bool}{a:qv}{xs:List V}(I:Inv X aB σ H s)(h:Sq t X.K H a xs):∃ aF:List qx,aS xs aF/\cZ t s.heap a aF.toArray:=by
 cases t with
 | true=>obtain⟨aF,rv,pl,hz⟩:=I.tuple h;exact⟨aF,rv,pl⟩
 | false=>obtain⟨aF,rv,pl,hz⟩:=I.list h;exact⟨aF,rv,pl.isList⟩
theorem aCK{X:Cx}{aB:List (qv×Obj)}{σ:L2.St}{H:Hp}{s:qj}{t:Bool}{a:qv}{xs ys:List V}(I:Inv X aB σ H s)(h:Sq t X.K H a xs)(h':Sq t X.K H a ys):xs=ys:=by
 cases t with
 | true=>exact I.tuple_inj h h'
 | false=>exact I.list_inj h h'
theorem fH{t:Bool}{K:FrG}{H H':Hp}{a:qv}{xs:List V}(e:bZ H H')(h:Sq t K H a xs):Sq t K H' a xs:=by
 cases t with
 | true=>exact mP e h
 | false=>exact e.seq h
theorem aE3{X:Cx}{aB:List (qv×Obj)}{σ:L2.St}{H:Hp}{s:qj}{h':Heap}{ch:List qv}{t':Nat}(I:Inv X aB σ H s)(hch:∀ b∈ch,gH X aB H b)(k:∀ b u,b ∉ ch->s.heap.get? b=qq u->h'.get? b=qq u) :
 Inv X aB σ H {s with heap:=h',toks:=t' }:=by
 have nch:∀ b u,H b=qq u->b ∉ ch:=λ b u e z=>by rw[(hch b z).1] at e;cases e
 refine I.step (g':=s.gens) (d':=s.drawn) (ch:=ch) (λ b hb=>⟨(hch b hb).2.2.2.1,(hch b hb).2.1,(hch b hb).2.2.2.2.1,(hch b hb).2.2.2.2.2⟩) (λ b o _ _ hc e _=>k b o hc e) (λ b o _ _ hc e _=>⟨o.slots,k b o hc e⟩) (λ _ _ _ _ n=>n)
  (λ b o hc e=>⟨o,k b o hc e⟩) (λ _ _ e=>e) (λ _ _ _ e=>e) (λ b ps e=>⟨#[],by rw[e];simp⟩) (λ m hm=>?_) (λ b u e=>?_) I.bare
 ·obtain⟨o,es,ep,ho,r⟩:=hm;exact⟨o,es,ep,k _ o (λ z=>(hch _ z).2.1 rfl) ho,r⟩
 ·refine(I.hok b u e).stay (λ c v hc q=>k c v ?_ q) (λ _ q=>q) λ _ _ q=>q
  rcases hc with z | z
  ·rw[z];exact nch b u e
  ·exact nch c _ z
theorem kI{a c:qv}{l:List qv}(h:c ∉ a::l):c≠a:=λ q=>h (q▸xAd)
theorem cV{a c:qv}{l:List qv}(h:c ∉ a::l):c ∉ l:=λ q=>h (xAg _ q)
theorem mT{a b:qv}{l:List qv}(h:a∈l):a∈b::l:=xAg _ h
theorem jJ{P:qv->Prop}{a:qv}{l:List qv}(h:P a)(t:∀ b∈l,P b):∀ b∈a::l,P b:=List.forall_mem_cons.mpr ⟨h,t⟩
theorem aln{P:qv->Prop}:∀ b∈([]:List qv),P b:=λ _ h=>nomatch h
section
variable {prog : qo}{w : zw}{A : zy}{E : qx -> qj -> Prop}{s : qj}
noncomputable abbrev xG(h:Heap)(t:Bool)(l1:qv):Heap:=h.push {cls:=.type (rP t),data:=.fields #[.ref l1,.int 0 0] }
noncomputable abbrev zH2(h:Heap)(t u:Bool)(l1 l2:qv):Heap:=(xG h t l1).push {cls:=.type (rP u),data:=.fields #[.ref l2,.int 0 0] }
noncomputable abbrev zH3(h:Heap)(t u:Bool)(l1 l2:qv):Heap:=(zH2 h t u l1 l2).push {cls:=.type "tuple",data:=.seq #[.ref h.objs.size,.ref (xG h t l1).objs.size] }
noncomputable abbrev zH4(h:Heap)(t u:Bool)(l1 l2:qv):Heap:=(zH3 h t u l1 l2).push {cls:=.type "tuple",data:=.seq #[.none,.none] }
noncomputable abbrev nH(h:Heap)(t u:Bool)(l1 l2:qv):Heap:=(zH4 h t u l1 l2).push {cls:=.type "zip",data:=.fields #[.none,.bool false,.bool false,.ref (zH2 h t u l1 l2).objs.size,.ref (zH3 h t u l1 l2).objs.size] }
theorem tP{t:Bool}{l:qv}{aQ:Array qx}{Q:qx->qj->Prop}(hl:cZ t s.heap l aQ)
 (h:Q (.ref s.heap.objs.size) {s with heap:=s.heap.push {cls:=.type (rP t),data:=.fields #[.ref l,.int 0 0] } }):qy (model prog w) A (pyIter (.ref l)) Q E s:=by
 cases t with
 | true=>exact wpAny_pyIter_tuple hl h
 | false=>exact jw hl h
theorem cZ.push{t:Bool}{h:Heap}{a:qv}{aF:Array qx}(x:cZ t h a aF)(o:Obj):cZ t (h.push o) a aF:=by
 cases t with
 | true=>obtain⟨o,ho,r⟩:=x;exact⟨o,hpS _ ho,r⟩
 | false=>obtain⟨o,ho,r⟩:=x;exact⟨o,hpS _ ho,r⟩
theorem aKZ(t u:Bool)(l1 l2:qv)(xs ys:Array qx) :
 Meets (Builtin.«zip.__new__» ⟨[.type "zip",.ref l1,.ref l2],[]⟩) (λ _ R s=>cZ t s.heap l1 xs/\cZ u s.heap l2 ys /\
  R (.ok (.ret (.ref (zH4 s.heap t u l1 l2).objs.size))) {s with heap:=nH s.heap t u l1 l2 }):=
 .of_wp λ prog w A R s h=>by
  obtain⟨hp,g,d,tk,os⟩:=s;obtain⟨hl1,hl2,h⟩:=h;have hsub:=sub_zip;have hL1:cZ t (Shared.heap ⟨hp,g,d,tk,os⟩) l1 xs:=hl1;have hL2:cZ u (Shared.heap ⟨xG hp t l1,g,d,tk,os⟩) l2 ys:=cZ.push hl2 _
  wp_walk using tP hL1,tP hL2
  exact⟨_,rfl,h⟩
theorem aMF{t u:Bool}{l1 l2:qv}{xs ys:Array qx}{Q:qx->qj->Prop}(hl1:cZ t s.heap l1 xs)(hl2:cZ u s.heap l2 ys)
 (h:∀ h',xu h' (s.heap.objs.size+4) (s.heap.objs.size+2) (s.heap.objs.size+3) .none->xq h' (s.heap.objs.size+2) (.ref s.heap.objs.size) (.ref (s.heap.objs.size+1)) ->
   xq h' (s.heap.objs.size+3) .none .none->dY t h' s.heap.objs.size l1 0->dY u h' (s.heap.objs.size+1) l2 0->h'.objs.size=s.heap.objs.size+5 ->
   (∀ c o,s.heap.get? c=qq o->h'.get? c=qq o)->Q (.ref (s.heap.objs.size+4)) {s with heap:=h' }) :
 qy (model prog w) A (call (.type "zip") [.ref l1,.ref l2]) Q E s:=by
 refine callType_new F.called_zip (by decide) (F.typeCall_zip_2 _ _) (F.newCall_zip_2 _ _) (λ obj=>F.args_object_init_3 obj _ _) F.entry_zip_new
  (aKZ t u l1 l2 xs ys) ⟨hl1,hl2,?_⟩
 have z1:(xG s.heap t l1).objs.size=s.heap.objs.size+1:=yBc ..;have z2:(zH2 s.heap t u l1 l2).objs.size=s.heap.objs.size+2:=by rw[yBc,z1]
 have z3:(zH3 s.heap t u l1 l2).objs.size=s.heap.objs.size+3:=by rw[yBc,z2]
 have z4:(zH4 s.heap t u l1 l2).objs.size=s.heap.objs.size+4:=by rw[yBc,z3]
 have z5:(nH s.heap t u l1 l2).objs.size=s.heap.objs.size+5:=by rw[yBc,z4]
 have g5:(nH s.heap t u l1 l2).get? (zH4 s.heap t u l1 l2).objs.size=qq _:=xAe _ rfl;have g4:(nH s.heap t u l1 l2).get? (zH3 s.heap t u l1 l2).objs.size=qq _:=hpS _ (xAe _ rfl);have g3:(nH s.heap t u l1 l2).get? (zH2 s.heap t u l1 l2).objs.size=qq _:=hpS _ (hpS _ (xAe _ rfl));have g2:(nH s.heap t u l1 l2).get? (xG s.heap t l1).objs.size=qq _:=hpS _ (hpS _ (hpS _ (xAe _ rfl)));have g1:(nH s.heap t u l1 l2).get? s.heap.objs.size=qq _:=hpS _ (hpS _ (hpS _ (hpS _ (xAe _ rfl))));show _/\_;rw[z2,z3,z4] at g5;rw[z1,z2] at g3;rw[z3] at g4;rw[z1] at g2;rw[z4];have i1:dY t (nH s.heap t u l1 l2) s.heap.objs.size l1 0:=by cases t<;>exact⟨_,g1,rfl,rfl⟩
 have i2:dY u (nH s.heap t u l1 l2) (s.heap.objs.size+1) l2 0:=by cases u<;>exact⟨_,g2,rfl,rfl⟩
 exact⟨⟨_,g5,rfl⟩,h _ g5 g3 g4 i1 i2 z5 λ c o x =>
  hpS _ (hpS _ (hpS _ (hpS _ (hpS _ x))))⟩
end
theorem aSm{n a b:Nat}(ha:a<n)(hb:b<n):ZA (n+4) (n+2) (n+3) n (n+1) [n,a] [n+1,b]:=by
 have h:∀ i j:Nat,i≠j->(n+i:Nat)≠(n+j:Nat):=λ i j h=>by omega
 have l:∀ (c i:Nat),c<n->(c:Nat)≠(n+i:Nat):=λ c i h=>by omega
 refine⟨h 2 4 (by decide),h 3 4 (by decide),h 0 4 (by decide),h 1 4 (by decide),h 2 3 (by decide),h 2 0 (by decide),h 2 1 (by decide),h 3 0 (by decide),h 3 1 (by decide),λ c hc=>?_,λ c hc=>?_⟩
 ·rcases List.mem_cons.mp hc with e | e
  ·rw[e];exact⟨h 0 4 (by decide),h 0 3 (by decide),h 0 1 (by decide)⟩
  ·rw[List.mem_singleton.mp e];exact⟨l a 4 ha,l a 3 ha,l a 1 ha⟩
 ·rcases List.mem_cons.mp hc with e | e
  ·rw[e];exact⟨h 1 4 (by decide),h 1 3 (by decide),h 1 0 (by decide)⟩
  ·rw[List.mem_singleton.mp e];exact⟨l b 4 hb,l b 3 hb,l b 0 hb⟩
section
variable {X : Cx}
noncomputable def dP:List D->List D->List D
 | a::as,b::bs=>.tuple [a,b]::dP as bs
 | _,_=>[]
theorem aE0:∀ as bs:List D,(dP as bs).length=min as.length bs.length
 | [],_=>by simp[dP]
 | _::_,[]=>by simp[dP]
 | _::as,_::bs=>by simp[dP,aE0 as bs]
theorem aGd:∀ (as bs:List D) (i:Nat) (d:D),(dP as bs)[i]? = qq d->∃ a b,as[i]? = qq a/\bs[i]? = qq b/\d=.tuple [a,b]
 | [],_,i,d,h=>by simp[dP] at h
 | _::_,[],i,d,h=>by simp[dP] at h
 | a::as,b::bs,0,d,h=>by simp[dP] at h;exact⟨a,b,rfl,rfl,h.symm⟩
 | a::as,b::bs,i+1,d,h=>by
   obtain⟨x,y,h1,h2,h3⟩:=aGd as bs i d (by simpa [dP] using h)
   exact⟨x,y,by simpa using h1,by simpa using h2,h3⟩
end
section
variable {X : Cx}
noncomputable def oQ:W->Option (List D)
 | .d (.list ds)=>qq ds
 | .d (.tuple ds)=>qq ds
 | _=>qz
noncomputable def aA6(fa fb:FE):FL:=λ env S=>(fa env S).bind λ p=>(fb env p.2).bind λ q=>(oQ p.1).bind λ ds=>(oQ q.1).bind λ es=>qq (dP ds es,q.2)
theorem tQ{K:FrG}{F:Hp}{L:List qv}{w:W}{ds:List D}{v:V}(h:oQ w=qq ds)(d:eH K F L w v):∃ t a xs,v=.ref a/\Sq t K F a xs/\DenL K F ds xs:=by
 unfold oQ at h
 split at h
 ·cases h;cases (show Den K F (.list ds) v from d) with
  | lst sq dl=>exact⟨false,_,_,rfl,sq,dl⟩
 ·cases h;cases (show Den K F (.tuple ds) v from d) with
  | tup sq dl=>exact⟨true,_,_,rfl,sq,dl⟩
 ·cases h
end
abbrev cS(h:Heap)(T:qv)(a b c:qx):Prop:=h.get? T=qq {cls:=.type "tuple",data:=.seq #[a,b,c] }
structure ZB(z TI TO i1 i2 i3:qv)(cC cD fp3:List qv):Prop where
 TIz:TI≠z
 TOz:TO≠z
 i1z:i1≠z
 i2z:i2≠z
 i3z:i3≠z
 TITO:TI≠TO
 TIi1:TI≠i1
 TIi2:TI≠i2
 TIi3:TI≠i3
 TOi1:TO≠i1
 TOi2:TO≠i2
 TOi3:TO≠i3
 f1:∀ b∈cC,b≠z/\b≠TO/\b≠i2/\b≠i3
 f2:∀ b∈cD,b≠z/\b≠TO/\b≠i1/\b≠i3
 f3:∀ b∈fp3,b≠z/\b≠TO/\b≠i1/\b≠i2
section
variable {prog : qo}{w : zw}{A : zy}{E : qx -> qj -> Prop}{s : qj}
theorem uF{T:qv}{a b c x:qx}{k:Nat}{Q:Unit->qj->Prop}(hT:cS s.heap T a b c)
 (h:∀ h',h'.get? T=qq {cls:=.type "tuple",data:=.seq ((#[a,b,c]:Array qx).setIfInBounds k x) }->yDx T s.heap h'->Q () {s with heap:=h' }) :
 qy (model prog w) A (updateSeq T (·.setIfInBounds k x)) Q E s:=by
 refine vk hT rfl (h _ ?_ (Heap.SameBut.update ..));rw[yCk _ hT rfl];simp[Obj.mapSeq]
theorem aMi{z TI TO i1 i2 i3:qv}{cC cD fp3:List qv}{n1 n2 n3 k:Nat}{P1 P2 P3:Nat->qx->Prop}{bK bG St3:Nat->Heap->Prop}{a b c:qx}{Q:qx->qj->Prop}
 (D1:Draws prog w A i1 cC n1 P1 bK) (D2:Draws prog w A i2 cD n2 P2 bG) (D3:Draws prog w A i3 fp3 n3 P3 St3) (Z:ZB z TI TO i1 i2 i3 cC cD fp3)
 (hz:xu s.heap z TI TO .none) (cB:cS s.heap TI (.ref i1) (.ref i2) (.ref i3)) (cM:cS s.heap TO a b c) (s1:bK k s.heap) (s2:bG k s.heap) (s3:St3 k s.heap) (k1:k<n1) (k2:k<n2) (k3:k<n3)
 (hQ:∀ x y u h' tk,P1 k x->P2 k y->P3 k u->xu h' z TI TO (yx s.heap.objs.size)->cS h' TO x y u->cS h' TI (.ref i1) (.ref i2) (.ref i3)->bK (k+1) h'->bG (k+1) h'->St3 (k+1) h'->cS h' s.heap.objs.size x y u->h'.objs.size=s.heap.objs.size+1 ->
   (∀ c o,c≠z->c≠TO->c≠i1->c≠i2->c≠i3->s.heap.get? c=qq o->h'.get? c=qq o)->Q (.ref s.heap.objs.size) {s with heap:=h',toks:=tk }) :
 qy (model prog w) A (Builtin.«zip.__next__» ⟨[.ref z],[]⟩) (λ bT s'=>∃ v,bT=.done (.ret v)/\Q v s') E s:=by
 show qy _ _ (field (.ref z) 2 >>= _) _ _ _;refine wB (qu hz rfl (x:=.bool false) rfl ?_);show qy _ _ (field (.ref z) 3 >>= _) _ _ _;refine wB (qu hz rfl (x:=.ref TI) rfl ?_);refine wB (zx cB rfl ?_);show qy _ _ (yAj (.ref z) >>= _) _ _ _;refine wB ?_;unfold yAj;refine wB (qu hz rfl (x:=.none) rfl (wP ?_));simp only[if_true];refine wB (vx ?_);refine wB (qu hz rfl (x:=.ref TO) rfl ?_);refine wB (zv hz (by simp) λ h₁ hz₁ hs₁=>?_)
 replace hz₁:xu h₁ z TI TO .ellipsis:=hz₁
 refine wB ?_;simp only[yFx,yGc,yDm,yDv];have s11:bK k h₁:=D1.frame k _ _ s1 λ c hc o e=>hs₁.extBut _ _ (Z.f1 c hc).1 e
 have s21:bG k h₁:=D2.frame k _ _ s2 λ c hc o e=>hs₁.extBut _ _ (Z.f2 c hc).1 e
 have s31:St3 k h₁:=D3.frame k _ _ s3 λ c hc o e=>hs₁.extBut _ _ (Z.f3 c hc).1 e
 refine wB (wB (jq ?_));show qy _ _ (yAi (.ref i1) >>= _) _ _ _;refine wB (D1.item k _ _ _ k1 s11 λ x h₂ tk₂ px s12 hs₂=>wP ?_)
 have s22:bG k h₂:=D2.frame k _ _ s21 λ c hc o e=>hs₂.extBut _ _ (Z.f2 c hc).2.2.1 e
 have s32:St3 k h₂:=D3.frame k _ _ s31 λ c hc o e=>hs₂.extBut _ _ (Z.f3 c hc).2.2.1 e
 have hTO₂:cS h₂ TO a b c:=hs₂.extBut _ _ Z.TOi1 (hs₁.extBut _ _ Z.TOz cM);refine wB (zx hTO₂ rfl ?_);refine wB (uF hTO₂ λ h₃ hTO₃ hs₃=>?_)
 replace hTO₃:cS h₃ TO x b c:=hTO₃
 have s13:bK (k+1) h₃:=D1.frame _ _ _ s12 λ c hc o e=>hs₃.extBut _ _ (Z.f1 c hc).2.1 e
 have s23:bG k h₃:=D2.frame k _ _ s22 λ c hc o e=>hs₃.extBut _ _ (Z.f2 c hc).2.1 e
 have s33:St3 k h₃:=D3.frame k _ _ s32 λ c hc o e=>hs₃.extBut _ _ (Z.f3 c hc).2.1 e
 refine wB (jy (wP ?_));refine wB (wB (jq ?_));show qy _ _ (yAi (.ref i2) >>= _) _ _ _;refine wB (D2.item k _ _ _ k2 s23 λ y h₄ tk₄ py s24 hs₄=>wP ?_)
 have s14:bK (k+1) h₄:=D1.frame _ _ _ s13 λ c hc o e=>hs₄.extBut _ _ (Z.f1 c hc).2.2.1 e
 have s34:St3 k h₄:=D3.frame _ _ _ s33 λ c hc o e=>hs₄.extBut _ _ (Z.f3 c hc).2.2.2 e
 have hTO₄:cS h₄ TO x b c:=hs₄.extBut _ _ Z.TOi2 hTO₃;refine wB (zx hTO₄ rfl ?_);refine wB (uF hTO₄ λ h₅ hTO₅ hs₅=>?_)
 replace hTO₅:cS h₅ TO x y c:=hTO₅
 have s15:bK (k+1) h₅:=D1.frame _ _ _ s14 λ c hc o e=>hs₅.extBut _ _ (Z.f1 c hc).2.1 e
 have s25:bG (k+1) h₅:=D2.frame _ _ _ s24 λ c hc o e=>hs₅.extBut _ _ (Z.f2 c hc).2.1 e
 have s35:St3 k h₅:=D3.frame _ _ _ s34 λ c hc o e=>hs₅.extBut _ _ (Z.f3 c hc).2.1 e
 refine wB (jy (wP ?_));refine wB (wB (jq ?_));show qy _ _ (yAi (.ref i3) >>= _) _ _ _;refine wB (D3.item k _ _ _ k3 s35 λ u h₆ tk₆ pu s36 hs₆=>wP ?_)
 have s16:bK (k+1) h₆:=D1.frame _ _ _ s15 λ c hc o e=>hs₆.extBut _ _ (Z.f1 c hc).2.2.2 e
 have s26:bG (k+1) h₆:=D2.frame _ _ _ s25 λ c hc o e=>hs₆.extBut _ _ (Z.f2 c hc).2.2.2 e
 have hTO₆:cS h₆ TO x y c:=hs₆.extBut _ _ Z.TOi3 hTO₅;refine wB (zx hTO₆ rfl ?_);refine wB (uF hTO₆ λ h₇ hTO₇ hs₇=>?_)
 replace hTO₇:cS h₇ TO x y u:=hTO₇
 have s17:bK (k+1) h₇:=D1.frame _ _ _ s16 λ c hc o e=>hs₇.extBut _ _ (Z.f1 c hc).2.1 e
 have s27:bG (k+1) h₇:=D2.frame _ _ _ s26 λ c hc o e=>hs₇.extBut _ _ (Z.f2 c hc).2.1 e
 have s37:St3 (k+1) h₇:=D3.frame _ _ _ s36 λ c hc o e=>hs₇.extBut _ _ (Z.f3 c hc).2.1 e
 refine wB (jy (wP (wP ?_)));refine wB (zx hTO₇ rfl ?_);refine wB (wpAny_newTuple ?_);have hsz:h₇.objs.size=s.heap.objs.size:=by rw[hs₇.1,hs₆.1,hs₅.1,hs₄.1,hs₃.1,hs₂.1,hs₁.1]
 have hz₇:xu h₇ z TI TO .ellipsis:=hs₇.extBut _ _ Z.TOz.symm (hs₆.extBut _ _ Z.i3z.symm (hs₅.extBut _ _ Z.TOz.symm (hs₄.extBut _ _ Z.i2z.symm (hs₃.extBut _ _ Z.TOz.symm (hs₂.extBut _ _ Z.i1z.symm hz₁)))));have hk₇:∀ c o,c≠z->c≠TO->c≠i1->c≠i2->c≠i3->s.heap.get? c=qq o->h₇.get? c=qq o:=λ c o c1 c2 c3 c4 c5 e =>
  hs₇.extBut _ _ c2 (hs₆.extBut _ _ c5 (hs₅.extBut _ _ c2 (hs₄.extBut _ _ c4 (hs₃.extBut _ _ c2 (hs₂.extBut _ _ c3 (hs₁.extBut _ _ c1 e))))))
 have hzlt:z<h₇.objs.size:=xAa hz₇;show qy _ _ (yBu (.ref z) (.ref h₇.objs.size) >>= _) _ _ _;refine wB ?_;unfold yBu;have hz₈:xu (h₇.push {cls:=.type "tuple",data:=.seq #[x,y,u] }) z TI TO .ellipsis:=hpS _ hz₇;refine wB (zv hz₈ (by simp) λ g₇ hz₉ hs₉=>?_)
 replace hz₉:xu g₇ z TI TO (yx h₇.objs.size):=hz₉
 refine zv hz₉ (by simp) λ g₈ hg₈ hs₈=>?_
 replace hg₈:xu g₈ z TI TO (yx h₇.objs.size):=hg₈
 have up:∀ c o,c≠z->h₇.get? c=qq o->g₈.get? c=qq o:=λ c o c1 e=>hs₈.extBut _ _ c1 (hs₉.extBut _ _ c1 (hpS _ e))
 have hT₈:cS g₈ h₇.objs.size x y u:=hs₈.extBut _ _ (yEv hzlt) (hs₉.extBut _ _ (yEv hzlt) (xAe _ rfl));have hz8:g₈.objs.size=h₇.objs.size+1:=by rw[hs₈.1,hs₉.1,yBc]
 rw[hsz] at hg₈ hT₈ hz8;refine wP ⟨_,rfl,?_⟩;show Q (.ref h₇.objs.size) _;rw[hsz];exact hQ x y u g₈ _ px py pu hg₈ (up _ _ Z.TOz hTO₇) (up _ _ Z.TIz (hk₇ _ _ Z.TIz Z.TITO Z.TIi1 Z.TIi2 Z.TIi3 cB)) (D1.frame _ _ _ s17 λ c hc o e=>up c o (Z.f1 c hc).1 e) (D2.frame _ _ _ s27 λ c hc o e=>up c o (Z.f2 c hc).1 e) (D3.frame _ _ _ s37 λ c hc o e=>up c o (Z.f3 c hc).1 e) hT₈ hz8 λ c o c1 c2 c3 c4 c5 e=>up c o c1 (hk₇ c o c1 c2 c3 c4 c5 e)
theorem aNE{z TI TO i1 i2 i3:qv}{cC cD fp3:List qv}{n1 n2 n3 k:Nat}{P1 P2 P3:Nat->qx->Prop}{bK bG St3:Nat->Heap->Prop}{a b c:qx}{Q:Fin->qj->Prop}
 (D1:Draws prog w A i1 cC n1 P1 bK) (D2:Draws prog w A i2 cD n2 P2 bG) (D3:Draws prog w A i3 fp3 n3 P3 St3) (Z:ZB z TI TO i1 i2 i3 cC cD fp3)
 (hz:xu s.heap z TI TO .none) (cB:cS s.heap TI (.ref i1) (.ref i2) (.ref i3)) (cM:cS s.heap TO a b c) (s1:bK k s.heap) (s2:bG k s.heap) (s3:St3 k s.heap) (hend:k=n1\/(k<n1/\k=n2)\/(k<n1/\k<n2/\k=n3))
 (hE:∀ h' tk e,(∀ c o,c≠z->c≠TO->c≠i1->c≠i2->c≠i3->s.heap.get? c=qq o->h'.get? c=qq o)->(∃ o,h'.get? e=qq o/\o.cls=.type "StopIteration")->E (.ref e) {s with heap:=h',toks:=tk }) :
 qy (model prog w) A (Builtin.«zip.__next__» ⟨[.ref z],[]⟩) Q E s:=by
 show qy _ _ (field (.ref z) 2 >>= _) _ _ _;refine wB (qu hz rfl (x:=.bool false) rfl ?_);show qy _ _ (field (.ref z) 3 >>= _) _ _ _;refine wB (qu hz rfl (x:=.ref TI) rfl ?_);refine wB (zx cB rfl ?_);show qy _ _ (yAj (.ref z) >>= _) _ _ _;refine wB ?_;unfold yAj;refine wB (qu hz rfl (x:=.none) rfl (wP ?_));simp only[if_true];refine wB (vx ?_);refine wB (qu hz rfl (x:=.ref TO) rfl ?_);refine wB (zv hz (by simp) λ h₁ hz₁ hs₁=>?_)
 replace hz₁:xu h₁ z TI TO .ellipsis:=hz₁
 refine wB ?_;simp only[yFx,yGc,yDm,yDv];have s11:bK k h₁:=D1.frame k _ _ s1 λ c hc o e=>hs₁.extBut _ _ (Z.f1 c hc).1 e
 have s21:bG k h₁:=D2.frame k _ _ s2 λ c hc o e=>hs₁.extBut _ _ (Z.f2 c hc).1 e
 have s31:St3 k h₁:=D3.frame k _ _ s3 λ c hc o e=>hs₁.extBut _ _ (Z.f3 c hc).1 e
 refine wB (wB (jq ?_));show qy _ _ (yAi (.ref i1) >>= _) _ _ _
 by_cases e1:k=n1
 ·subst e1;refine wB (D1.done _ _ _ s11 λ h₂ e hs₂ he=>?_)
  obtain⟨oe,hoe,hce⟩:=he;have hz₂:xu h₂ z TI TO .ellipsis:=hs₂ _ _ Z.i1z.symm hz₁;have hez:e≠z:=λ x=>by subst x;rw[hz₂] at hoe;cases hoe;simp at hce
  exact zv hz₂ (by simp) λ h₃ _ hs₃=>hE h₃ _ e (λ c o c1 _ c3 _ _ x=>hs₃.extBut _ _ c1 (hs₂ _ _ c3 (hs₁.extBut _ _ c1 x))) ⟨oe,hs₃.extBut _ _ hez hoe,hce⟩
 have k1:k<n1:=by
  rcases hend with q | ⟨q,_⟩ | ⟨q,_⟩
  ·exact absurd q e1
  ·exact q
  ·exact q
 refine wB (D1.item k _ _ _ k1 s11 λ x h₂ tk₂ px s12 hs₂=>wP ?_)
 have s22:bG k h₂:=D2.frame k _ _ s21 λ c hc o e=>hs₂.extBut _ _ (Z.f2 c hc).2.2.1 e
 have s32:St3 k h₂:=D3.frame k _ _ s31 λ c hc o e=>hs₂.extBut _ _ (Z.f3 c hc).2.2.1 e
 have hTO₂:cS h₂ TO a b c:=hs₂.extBut _ _ Z.TOi1 (hs₁.extBut _ _ Z.TOz cM);refine wB (zx hTO₂ rfl ?_);refine wB (uF hTO₂ λ h₃ hTO₃ hs₃=>?_)
 replace hTO₃:cS h₃ TO x b c:=hTO₃
 have s23:bG k h₃:=D2.frame k _ _ s22 λ c hc o e=>hs₃.extBut _ _ (Z.f2 c hc).2.1 e
 have s33:St3 k h₃:=D3.frame k _ _ s32 λ c hc o e=>hs₃.extBut _ _ (Z.f3 c hc).2.1 e
 have hz₃:xu h₃ z TI TO .ellipsis:=hs₃.extBut _ _ Z.TOz.symm (hs₂.extBut _ _ Z.i1z.symm hz₁);have kp₃:∀ c o,c≠z->c≠TO->c≠i1->s.heap.get? c=qq o->h₃.get? c=qq o:=λ c o c1 c2 c3 x=>hs₃.extBut _ _ c2 (hs₂.extBut _ _ c3 (hs₁.extBut _ _ c1 x))
 refine wB (jy (wP ?_));refine wB (wB (jq ?_));show qy _ _ (yAi (.ref i2) >>= _) _ _ _
 by_cases e2:k=n2
 ·subst e2;refine wB (D2.done _ _ _ s23 λ h₄ e hs₄ he=>?_)
  obtain⟨oe,hoe,hce⟩:=he;have hz₄:xu h₄ z TI TO .ellipsis:=hs₄ _ _ Z.i2z.symm hz₃;have hez:e≠z:=λ x=>by subst x;rw[hz₄] at hoe;cases hoe;simp at hce
  exact zv hz₄ (by simp) λ h₅ _ hs₅=>hE h₅ _ e (λ c o c1 c2 c3 c4 _ x=>hs₅.extBut _ _ c1 (hs₄ _ _ c4 (kp₃ c o c1 c2 c3 x))) ⟨oe,hs₅.extBut _ _ hez hoe,hce⟩
 have k2:k<n2/\k=n3:=by
  rcases hend with q | ⟨_,q⟩ | ⟨_,q⟩
  ·exact absurd q e1
  ·exact absurd q e2
  ·exact q
 obtain⟨k2,rfl⟩:=k2;refine wB (D2.item k _ _ _ k2 s23 λ y h₄ tk₄ py s24 hs₄=>wP ?_)
 have s34:St3 k h₄:=D3.frame _ _ _ s33 λ c hc o e=>hs₄.extBut _ _ (Z.f3 c hc).2.2.2 e
 have hTO₄:cS h₄ TO x b c:=hs₄.extBut _ _ Z.TOi2 hTO₃;refine wB (zx hTO₄ rfl ?_);refine wB (uF hTO₄ λ h₅ hTO₅ hs₅=>?_)
 have s35:St3 k h₅:=D3.frame _ _ _ s34 λ c hc o e=>hs₅.extBut _ _ (Z.f3 c hc).2.1 e
 refine wB (jy (wP ?_));refine wB (wB (jq ?_));show qy _ _ (yAi (.ref i3) >>= _) _ _ _;refine wB (D3.done _ _ _ s35 λ h₆ e hs₆ he=>?_)
 obtain⟨oe,hoe,hce⟩:=he;have hz₆:xu h₆ z TI TO .ellipsis:=hs₆ _ _ Z.i3z.symm (hs₅.extBut _ _ Z.TOz.symm (hs₄.extBut _ _ Z.i2z.symm hz₃));have hez:e≠z:=λ x=>by subst x;rw[hz₆] at hoe;cases hoe;simp at hce
 exact zv hz₆ (by simp) λ h₇ _ hs₇=>hE h₇ _ e (λ c o c1 c2 c3 c4 c5 x=>hs₇.extBut _ _ c1 (hs₆ _ _ c5 (hs₅.extBut _ _ c2 (hs₄.extBut _ _ c4 (kp₃ c o c1 c2 c3 x))))) ⟨oe,hs₇.extBut _ _ hez hoe,hce⟩
theorem aK3{z TI TO i1 i2 i3:qv}{cC cD fp3:List qv}{n1 n2 n3 k:Nat}{P1 P2 P3:Nat->qx->Prop}{bK bG St3:Nat->Heap->Prop}{a b c:qx}{Q:Option qx->qj->Prop}
 (D1:Draws prog w A.in1 i1 cC n1 P1 bK) (D2:Draws prog w A.in1 i2 cD n2 P2 bG) (D3:Draws prog w A.in1 i3 fp3 n3 P3 St3) (Z:ZB z TI TO i1 i2 i3 cC cD fp3)
 (hz:xu s.heap z TI TO .none) (cB:cS s.heap TI (.ref i1) (.ref i2) (.ref i3)) (cM:cS s.heap TO a b c) (s1:bK k s.heap) (s2:bG k s.heap) (s3:St3 k s.heap) (k1:k<n1) (k2:k<n2) (k3:k<n3)
 (hQ:∀ x y u h' tk,P1 k x->P2 k y->P3 k u->xu h' z TI TO (yx s.heap.objs.size)->cS h' TO x y u->cS h' TI (.ref i1) (.ref i2) (.ref i3)->bK (k+1) h'->bG (k+1) h'->St3 (k+1) h'->cS h' s.heap.objs.size x y u->h'.objs.size=s.heap.objs.size+1 ->
   (∀ c o,c≠z->c≠TO->c≠i1->c≠i2->c≠i3->s.heap.get? c=qq o->h'.get? c=qq o)->Q (qq (.ref s.heap.objs.size)) {s with heap:=h',toks:=tk }) :
 qy (model prog w) A (ju (.ref z)) Q E s:=by
 have hT:s.TypeIs (.ref z) "zip":=⟨_,hz,rfl⟩;unfold ju;exact wB (vv (wpAny_callSpecial?_slot (name:=Str.ofString "__next__") hT F.slot_zip_next
  (xz F.slot_zip_next hT F.entry_zip_next
    (aMi D1 D2 D3 Z hz cB cM s1 s2 s3 k1 k2 k3 λ x y u h' tk a0 b0 c0 a1 a2 a3 a4 a5 a6 a7 a8 a9=>wP (hQ x y u h' tk a0 b0 c0 a1 a2 a3 a4 a5 a6 a7 a8 a9)) (F.args_zip_next_1 _))))
theorem aK6{z TI TO i1 i2 i3:qv}{cC cD fp3:List qv}{n1 n2 n3 k:Nat}{P1 P2 P3:Nat->qx->Prop}{bK bG St3:Nat->Heap->Prop}{a b c:qx}{Q:Option qx->qj->Prop}
 (D1:Draws prog w A.in1 i1 cC n1 P1 bK) (D2:Draws prog w A.in1 i2 cD n2 P2 bG) (D3:Draws prog w A.in1 i3 fp3 n3 P3 St3) (Z:ZB z TI TO i1 i2 i3 cC cD fp3)
 (hz:xu s.heap z TI TO .none) (cB:cS s.heap TI (.ref i1) (.ref i2) (.ref i3)) (cM:cS s.heap TO a b c) (s1:bK k s.heap) (s2:bG k s.heap) (s3:St3 k s.heap) (hend:k=n1\/(k<n1/\k=n2)\/(k<n1/\k<n2/\k=n3))
 (hQ:∀ h' tk,(∀ c o,c≠z->c≠TO->c≠i1->c≠i2->c≠i3->s.heap.get? c=qq o->h'.get? c=qq o)->Q qz {s with heap:=h',toks:=tk }):qy (model prog w) A (ju (.ref z)) Q E s:=by
 have hT:s.TypeIs (.ref z) "zip":=⟨_,hz,rfl⟩;unfold ju;refine wB (vv (wpAny_callSpecial?_slot (name:=Str.ofString "__next__") hT F.slot_zip_next
  (xz F.slot_zip_next hT F.entry_zip_next (aNE D1 D2 D3 Z hz cB cM s1 s2 s3 hend λ h' tk e hk he=>?_) (F.args_zip_next_1 _))))
 obtain⟨o,ho,hc⟩:=he;refine wB (yk (T:="StopIteration") (b:=true) ⟨o,ho,hc⟩ kx ?_);exact wP (hQ _ _ hk)
end
noncomputable def aDA(K:FrG)(t u v:Bool)(a b c:qv):It:=
 ⟨λ i H=>∃ xs x ys y zs z,Sq t K H a xs/\xs[i]? = qq x/\Sq u K H b ys/\ys[i]? = qq y/\Sq v K H c zs/\zs[i]? = qq z,
  λ i H r H'=>∃ p x y z,H p=qz/\H'=bE H p (.tup [x,y,z])/\r=.ref p/\(∀ xs,Sq t K H a xs->xs[i]? = qq x)/\(∀ ys,Sq u K H b ys->ys[i]? = qq y)/\∀ zs,Sq v K H c zs->zs[i]? = qq z,
  λ i H=>∃ xs ys zs,Sq t K H a xs/\Sq u K H b ys/\Sq v K H c zs/\i=min xs.length (min ys.length zs.length)⟩
theorem aMj{P:qo}{w:zw}{K:FrG}{elts:List qw}{k:Nat}{pos:Pos}(t u v:Bool)(a b c z TI TO i1 i2 i3:qv)(Z:ZB z TI TO i1 i2 i3 [i1,a] [i2,b] [i3,c])(h1:a≠i1)(h2:b≠i2)(h3:c≠i3) :
 Turn P w K (.Tuple elts k pos) (aDA K t u v a b c) [z,TI,TO,i1,i2,i3] z (λ i h=>xu h z TI TO .none/\cS h TI (.ref i1) (.ref i2) (.ref i3)/\(∃ x y z,cS h TO x y z)/\dY t h i1 a i/\dY u h i2 b i/\dY v h i3 c i) where
 mem:=xAd
 obj:=λ i h ⟨hz,cB,⟨x,y,_,cM⟩,hi1,hi2,hi3⟩=>jJ ⟨_,hz,λ v=>by intro z;cases z⟩ (jJ ⟨_,cB,λ v=>by intro z;cases z⟩ (jJ ⟨_,cM,λ v=>by intro z;cases z⟩ (jJ hi1.obj (jJ hi2.obj (jJ hi3.obj aln)))))
 keep:=λ i h h' ⟨hz,cB,⟨x,y,z',cM⟩,hi1,hi2,hi3⟩ q=>⟨q z xAd _ hz,q TI (mT xAd) _ cB,⟨x,y,z',q TO (mT (mT xAd)) _ cM⟩,hi1.at λ o e=>q i1 (mT (mT (mT xAd))) o e,hi2.at λ o e=>q i2 (mT (mT (mT (mT xAd)))) o e,hi3.at λ o e=>q i3 (mT (mT (mT (mT (mT xAd))))) o e⟩
 item:=λ X hP hW hK hc i aB s σ H E I hf aT aEk=>by
  obtain⟨hz,cB,⟨x0,y0,z0,cM⟩,hi1,hi2,hi3⟩:=aT;obtain⟨xs,x,ys,y,zs,zz,sq1,hx,sq2,hy,sq3,hzz⟩:=aEk;subst hP hW hK;have hh:X.A.in1.handled=qz:=I.ok.hd hc;obtain⟨gB,rv1,pl1⟩:=gP I sq1;obtain⟨eJ,rv2,pl2⟩:=gP I sq2;obtain⟨its3,rv3,pl3⟩:=gP I sq3;obtain⟨u1,hu1,ru1⟩:=rv1.get hx;obtain⟨u2,hu2,ru2⟩:=rv2.get hy;obtain⟨u3,hu3,ru3⟩:=rv3.get hzz;have lt1:i<gB.toArray.size:=by rw[yAe];exact(gIm hu1).1
  have lt2:i<eJ.toArray.size:=by rw[yAe];exact(gIm hu2).1
  have lt3:i<its3.toArray.size:=by rw[yAe];exact(gIm hu3).1
  refine aK3 (kQ (prog:=X.prog) (w:=X.w) hh t i1 a h1 gB.toArray) (kQ (prog:=X.prog) (w:=X.w) hh u i2 b h2 eJ.toArray) (kQ (prog:=X.prog) (w:=X.w) hh v i3 c h3 its3.toArray) Z hz cB cM ⟨hi1,pl1⟩ ⟨hi2,pl2⟩ ⟨hi3,pl3⟩ lt1 lt2 lt3 λ x' y' z' h₁ tk px py pz hz₁ hTO₁ hTI₁ s1 s2 s3 hT₁ hsz hk=>⟨_,rfl,?_⟩
  have ex:x'=u1:=by rw[yDe,hu1] at px;exact(Option.some.inj px).symm
  have ey:y'=u2:=by rw[yDe,hu2] at py;exact(Option.some.inj py).symm
  have ez:z'=u3:=by rw[yDe,hu3] at pz;exact(Option.some.inj pz).symm
  subst ex ey ez;have zLt:z<s.heap.objs.size:=xAa hz;refine wpAny_letOwnedTupleGo_zip hz₁ λ h₂ hz₂ hs₂=>?_
  have hs2:yDx z h₁ h₂:=hs₂;have ht₂:cS h₂ s.heap.objs.size x' y' z':=hs2.extBut _ _ (yEv zLt) hT₁;have I2:Inv X aB σ (bE H s.heap.objs.size (.tup [x,y,zz])) {s with heap:=h₂,toks:=tk }:=by
   refine aE7 I hf (λ c o hb e'=>?_) (yAc _) ⟨by show 3<=qk;decide,[x',y',z'],.cons ru1 (.cons ru2 (.cons ru3 .nil)),⟨_,ht₂,rfl,0,rfl⟩⟩
   exact hs2.extBut c o (kI hb) (hk c o (kI hb) (kI (cV (cV hb))) (kI (cV (cV (cV hb)))) (kI (cV (cV (cV (cV hb))))) (kI (cV (cV (cV (cV (cV hb)))))) e')
  refine⟨.ref s.heap.objs.size,_,I2,rfl,⟨s.heap.objs.size,x,y,zz,I.fresh,rfl,rfl,λ zs hy=>by rw[aCK I hy sq1];exact hx,λ zs hz=>by rw[aCK I hz sq2];exact hy,λ zs hz=>by rw[aCK I hz sq3];exact hzz⟩,⟨hz₂,hs2.extBut _ _ Z.TIz hTI₁,⟨_,_,_,hs2.extBut _ _ Z.TOz hTO₁⟩,s1.1.at λ o e=>hs2.extBut _ _ Z.i1z e,s2.1.at λ o e=>hs2.extBut _ _ Z.i2z e,s3.1.at λ o e=>hs2.extBut _ _ Z.i3z e⟩,λ c hb=>?_⟩
  have:c<s.heap.objs.size:=jJ (P:=λ c=>c<s.heap.objs.size) zLt (jJ (xAa cB) (jJ (xAa cM) (jJ (let ⟨_,ho,_⟩:=hi1.obj;xAa ho) (jJ (let ⟨_,ho,_⟩:=hi2.obj;xAa ho) (jJ (let ⟨_,ho,_⟩:=hi3.obj;xAa ho) aln))))) c hb
  rw[bP (xAk this)];exact(hf c hb).1
 done:=λ X hP hW hK hc i aB s σ H E I hf aT aEk=>by
  obtain⟨hz,cB,⟨x0,y0,z0,cM⟩,hi1,hi2,hi3⟩:=aT;obtain⟨xs,ys,zs,sq1,sq2,sq3,hi⟩:=aEk;subst hP hW hK;have hh:X.A.in1.handled=qz:=I.ok.hd hc;obtain⟨gB,rv1,pl1⟩:=gP I sq1;obtain⟨eJ,rv2,pl2⟩:=gP I sq2;obtain⟨its3,rv3,pl3⟩:=gP I sq3;have l1:=rv1.length;have l2:=rv2.length;have l3:=rv3.length;have hend:i=gB.toArray.size\/(i<gB.toArray.size/\i=eJ.toArray.size)\/(i<gB.toArray.size/\i<eJ.toArray.size/\i=its3.toArray.size):=by
   rw[yAe,yAe,yAe];omega
  refine aK6 (kQ (prog:=X.prog) (w:=X.w) hh t i1 a h1 gB.toArray) (kQ (prog:=X.prog) (w:=X.w) hh u i2 b h2 eJ.toArray) (kQ (prog:=X.prog) (w:=X.w) hh v i3 c h3 its3.toArray) Z hz cB cM ⟨hi1,pl1⟩ ⟨hi2,pl2⟩ ⟨hi3,pl3⟩ hend λ h₁ tk hk=>⟨rfl,?_⟩
  exact aE3 I hf λ c o hb e'=>hk c o (kI hb) (kI (cV (cV hb))) (kI (cV (cV (cV hb)))) (kI (cV (cV (cV (cV hb))))) (kI (cV (cV (cV (cV (cV hb)))))) e'
 self:=λ A i s Q E ⟨hz,_⟩ hq=>yu hz hq
section
variable {prog : qo}{w : zw}{A : zy}{E : qx -> qj -> Prop}{s : qj}
noncomputable abbrev xM(h:Heap)(t:Bool)(l1:qv):Heap:=h.push {cls:=.type (rP t),data:=.fields #[.ref l1,.int 0 0] }
noncomputable abbrev wX(h:Heap)(t u:Bool)(l1 l2:qv):Heap:=(xM h t l1).push {cls:=.type (rP u),data:=.fields #[.ref l2,.int 0 0] }
noncomputable abbrev yH3(h:Heap)(t u v:Bool)(l1 l2 l3:qv):Heap:=(wX h t u l1 l2).push {cls:=.type (rP v),data:=.fields #[.ref l3,.int 0 0] }
noncomputable abbrev yH4(h:Heap)(t u v:Bool)(l1 l2 l3:qv):Heap:=(yH3 h t u v l1 l2 l3).push {cls:=.type "tuple",data:=.seq #[.ref h.objs.size,.ref (xM h t l1).objs.size,.ref (wX h t u l1 l2).objs.size] }
noncomputable abbrev yH5(h:Heap)(t u v:Bool)(l1 l2 l3:qv):Heap:=(yH4 h t u v l1 l2 l3).push {cls:=.type "tuple",data:=.seq #[.none,.none,.none] }
noncomputable abbrev kH(h:Heap)(t u v:Bool)(l1 l2 l3:qv):Heap:=(yH5 h t u v l1 l2 l3).push {cls:=.type "zip",data:=.fields #[.none,.bool false,.bool false,.ref (yH3 h t u v l1 l2 l3).objs.size,.ref (yH4 h t u v l1 l2 l3).objs.size] }
theorem aL4(t u v:Bool)(l1 l2 l3:qv)(xs ys zs:Array qx) :
 Meets (Builtin.«zip.__new__» ⟨[.type "zip",.ref l1,.ref l2,.ref l3],[]⟩) (λ _ R s=>cZ t s.heap l1 xs/\cZ u s.heap l2 ys/\cZ v s.heap l3 zs /\
  R (.ok (.ret (.ref (yH5 s.heap t u v l1 l2 l3).objs.size))) {s with heap:=kH s.heap t u v l1 l2 l3 }):=
 .of_wp λ prog w A R s h=>by
  obtain⟨hp,g,d,tk,os⟩:=s;obtain⟨hl1,hl2,hl3,h⟩:=h;have hsub:=sub_zip;have hL1:cZ t (Shared.heap ⟨hp,g,d,tk,os⟩) l1 xs:=hl1;have hL2:cZ u (Shared.heap ⟨xM hp t l1,g,d,tk,os⟩) l2 ys:=cZ.push hl2 _;have hL3:cZ v (Shared.heap ⟨wX hp t u l1 l2,g,d,tk,os⟩) l3 zs:=cZ.push (cZ.push hl3 _) _
  wp_walk using tP hL1,tP hL2,tP hL3
  exact⟨_,rfl,h⟩
theorem aOt(a b c:qx):checkTypeCall "zip" ⟨[a,b,c],[]⟩=pure ():=by kernel_rfl
theorem aOA(a b c:qx):checkBuiltinCall "zip.__new__" ⟨[.type "zip",a,b,c],[]⟩=pure ():=by kernel_rfl
theorem aNe(a b c d:qx):argsOk "object.__init__" ⟨[a,b,c,d],[]⟩:=by
 unfold argsOk;rw[signature?_of (id:="object.__init__") (n:=['_','_','t','i','n','i','_','_']) (o:=['t','c','e','j','b','o']) (by kernel_rfl) F.owner_object];kernel_rfl
theorem aMO{t u v:Bool}{l1 l2 l3:qv}{xs ys zs:Array qx}{Q:qx->qj->Prop}(hl1:cZ t s.heap l1 xs)(hl2:cZ u s.heap l2 ys)(hl3:cZ v s.heap l3 zs)
 (h:∀ h',xu h' (s.heap.objs.size+5) (s.heap.objs.size+3) (s.heap.objs.size+4) .none->cS h' (s.heap.objs.size+3) (.ref s.heap.objs.size) (.ref (s.heap.objs.size+1)) (.ref (s.heap.objs.size+2)) ->
   cS h' (s.heap.objs.size+4) .none .none .none->dY t h' s.heap.objs.size l1 0->dY u h' (s.heap.objs.size+1) l2 0->dY v h' (s.heap.objs.size+2) l3 0->h'.objs.size=s.heap.objs.size+6 ->
   (∀ c o,s.heap.get? c=qq o->h'.get? c=qq o)->Q (.ref (s.heap.objs.size+5)) {s with heap:=h' }) :
 qy (model prog w) A (call (.type "zip") [.ref l1,.ref l2,.ref l3]) Q E s:=by
 refine callType_new F.called_zip (by decide) (aOt _ _ _) (aOA _ _ _) (λ obj=>aNe obj _ _ _) F.entry_zip_new
  (aL4 t u v l1 l2 l3 xs ys zs) ⟨hl1,hl2,hl3,?_⟩
 have z1:(xM s.heap t l1).objs.size=s.heap.objs.size+1:=yBc ..;have z2:(wX s.heap t u l1 l2).objs.size=s.heap.objs.size+2:=by rw[yBc,z1]
 have z3:(yH3 s.heap t u v l1 l2 l3).objs.size=s.heap.objs.size+3:=by rw[yBc,z2]
 have z4:(yH4 s.heap t u v l1 l2 l3).objs.size=s.heap.objs.size+4:=by rw[yBc,z3]
 have z5:(yH5 s.heap t u v l1 l2 l3).objs.size=s.heap.objs.size+5:=by rw[yBc,z4]
 have z6:(kH s.heap t u v l1 l2 l3).objs.size=s.heap.objs.size+6:=by rw[yBc,z5]
 have g6:(kH s.heap t u v l1 l2 l3).get? (yH5 s.heap t u v l1 l2 l3).objs.size=qq _:=xAe _ rfl;have g5:(kH s.heap t u v l1 l2 l3).get? (yH4 s.heap t u v l1 l2 l3).objs.size=qq _:=hpS _ (xAe _ rfl);have g4:(kH s.heap t u v l1 l2 l3).get? (yH3 s.heap t u v l1 l2 l3).objs.size=qq _:=hpS _ (hpS _ (xAe _ rfl));have g3:(kH s.heap t u v l1 l2 l3).get? (wX s.heap t u l1 l2).objs.size=qq _:=hpS _ (hpS _ (hpS _ (xAe _ rfl)));have g2:(kH s.heap t u v l1 l2 l3).get? (xM s.heap t l1).objs.size=qq _:=hpS _ (hpS _ (hpS _ (hpS _ (xAe _ rfl))));have g1:(kH s.heap t u v l1 l2 l3).get? s.heap.objs.size=qq _:=hpS _ (hpS _ (hpS _ (hpS _ (hpS _ (xAe _ rfl)))));show _/\_;rw[z3,z4,z5] at g6;rw[z1,z2,z3] at g4;rw[z4] at g5;rw[z2] at g3;rw[z1] at g2;rw[z5];have i1:dY t (kH s.heap t u v l1 l2 l3) s.heap.objs.size l1 0:=by cases t<;>exact⟨_,g1,rfl,rfl⟩
 have i2:dY u (kH s.heap t u v l1 l2 l3) (s.heap.objs.size+1) l2 0:=by cases u<;>exact⟨_,g2,rfl,rfl⟩
 have i3:dY v (kH s.heap t u v l1 l2 l3) (s.heap.objs.size+2) l3 0:=by cases v<;>exact⟨_,g3,rfl,rfl⟩
 exact⟨⟨_,g6,rfl⟩,h _ g6 g4 g5 i1 i2 i3 z6 λ c o x =>
  hpS _ (hpS _ (hpS _ (hpS _ (hpS _ (hpS _ x)))))⟩
end
theorem aQE{n a b c:Nat}(ha:a<n)(hb:b<n)(hc:c<n):ZB (n+5) (n+3) (n+4) n (n+1) (n+2) [n,a] [n+1,b] [n+2,c]:=by
 have h:∀ i j:Nat,i≠j->(n+i:Nat)≠(n+j:Nat):=λ i j h=>by omega
 have l:∀ (c i:Nat),c<n->(c:Nat)≠(n+i:Nat):=λ c i h=>by omega
 refine⟨h 3 5 (by decide),h 4 5 (by decide),h 0 5 (by decide),h 1 5 (by decide),h 2 5 (by decide),h 3 4 (by decide),h 3 0 (by decide),h 3 1 (by decide),h 3 2 (by decide),h 4 0 (by decide),h 4 1 (by decide),h 4 2 (by decide),λ d hd=>?_,λ d hd=>?_,λ d hd=>?_⟩
 ·rcases List.mem_cons.mp hd with e | e
  ·rw[e];exact⟨h 0 5 (by decide),h 0 4 (by decide),h 0 1 (by decide),h 0 2 (by decide)⟩
  ·rw[List.mem_singleton.mp e];exact⟨l a 5 ha,l a 4 ha,l a 1 ha,l a 2 ha⟩
 ·rcases List.mem_cons.mp hd with e | e
  ·rw[e];exact⟨h 1 5 (by decide),h 1 4 (by decide),h 1 0 (by decide),h 1 2 (by decide)⟩
  ·rw[List.mem_singleton.mp e];exact⟨l b 5 hb,l b 4 hb,l b 0 hb,l b 2 hb⟩
 ·rcases List.mem_cons.mp hd with e | e
  ·rw[e];exact⟨h 2 5 (by decide),h 2 4 (by decide),h 2 0 (by decide),h 2 1 (by decide)⟩
  ·rw[List.mem_singleton.mp e];exact⟨l c 5 hc,l c 4 hc,l c 0 hc,l c 1 hc⟩
section
variable {X : Cx}
def aJr(K:FrG)(ta:TA):TI:=λ σ H R=>ta σ H λ vs H1=>∃ a b c t u v,vs=[.ref a,.ref b,.ref c]/\(∃ xs,Sq t K H1 a xs)/\(∃ ys,Sq u K H1 b ys)/\(∃ zs,Sq v K H1 c zs)/\R (aDA K t u v a b c) H1
theorem aOC{elts:List qw}{k:Nat}{pp:Pos}{a b c:qw}{ta:TA}{p pos:Pos}(hg:Gl X "zip")(hm:X.mg "zip" = qz)(ha:PA X [a,b,c] ta)(hs:zq [a,b,c] X.env=(false,eval a X.env)::zq [b,c] X.env)(hs2:zq [b,c] X.env=(false,eval b X.env)::zq [c] X.env)(hs3:zq [c] X.env=[(false,eval c X.env)]):PI X (.Tuple elts k pp) (.Call (.Name "zip" p) [a,b,c] [] pos) (aJr X.K ta):=by
 intro aB s σ H R I h;refine Call_ (lB I hg hm boot_zip (yBe (bD (ha pos aB s σ H _ I h) λ us s1 hPq41=>?_) hs (by rw[hs2,hs3];rfl)))
 obtain⟨vs,H1,I1,r1,q1⟩:=hPq41;obtain⟨l1,l2,l3,t,u,v,rfl,⟨xs,sq1⟩,⟨ys,sq2⟩,⟨zs,sq3⟩,q⟩:=q1;obtain⟨u1,u2,u3,rfl,ru1,ru2,ru3⟩:=aJx r1;cases ru1;cases ru2;cases ru3;obtain⟨gB,rv1,pl1⟩:=gP I1 sq1;obtain⟨eJ,rv2,pl2⟩:=gP I1 sq2;obtain⟨its3,rv3,pl3⟩:=gP I1 sq3;have a1:=pl1.lt;have a2:=pl2.lt;have a3:=pl3.lt;refine aMO pl1 pl2 pl3 λ h' hz cB cM hi1 hi2 hi3 hsz hk=>yu hz ?_
 have I2:Inv X aB σ H1 {s1 with heap:=h' }:=I1.kept (t':=s1.toks) hk
 have hb':∀ b∈[s1.heap.objs.size+5,s1.heap.objs.size+3,s1.heap.objs.size+4,s1.heap.objs.size,s1.heap.objs.size+1,s1.heap.objs.size+2],s1.heap.objs.size<=b:=λ b hb=>by
  simp only[yCs,yCo,or_false] at hb;omega
 have Z:=aQE (n:=s1.heap.objs.size) (a:=l1) (b:=l2) (c:=l3) a1 a2 a3;exact⟨s1.heap.objs.size+5,[s1.heap.objs.size+5,s1.heap.objs.size+3,s1.heap.objs.size+4,s1.heap.objs.size,s1.heap.objs.size+1,s1.heap.objs.size+2],_,_,H1,rfl,I2,aMj t u v l1 l2 l3 _ _ _ _ _ _ Z (xAk a1) (xAk (yEh a2)) (xAk (yEh (yEh a3))),⟨hz,cB,⟨_,_,_,cM⟩,hi1,hi2,hi3⟩,λ b hb=>I1.fpOk (hb' b hb) (I1.hok.fresh (hb' b hb)),q⟩
noncomputable def gG:List D->List D->List D->List D
 | a::as,b::bs,c::cs=>.tuple [a,b,c]::gG as bs cs
 | _,_,_=>[]
theorem aBF:∀ as bs cs:List D,(gG as bs cs).length=min as.length (min bs.length cs.length)
 | [],_,_=>by simp[gG]
 | _::_,[],_=>by simp[gG]
 | _::_,_::_,[]=>by simp[gG]
 | _::as,_::bs,_::cs=>by simp[gG,aBF as bs cs]
theorem aFy:∀ (as bs cs:List D) (i:Nat) (d:D),(gG as bs cs)[i]? = qq d->∃ a b c,as[i]? = qq a/\bs[i]? = qq b/\cs[i]? = qq c/\d=.tuple [a,b,c]
 | [],_,_,i,d,h=>by simp[gG] at h
 | _::_,[],_,i,d,h=>by simp[gG] at h
 | _::_,_::_,[],i,d,h=>by simp[gG] at h
 | a::as,b::bs,c::cs,0,d,h=>by simp[gG] at h;exact⟨a,b,c,rfl,rfl,rfl,h.symm⟩
 | a::as,b::bs,c::cs,i+1,d,h=>by
   obtain⟨x,y,z,h1,h2,h3,h4⟩:=aFy as bs cs i d (by simpa [gG] using h)
   exact⟨x,y,z,by simpa using h1,by simpa using h2,by simpa using h3,h4⟩
theorem aPn{K:FrG}{F:Hp}{L:List qv}{t u v:Bool}{a b c:qv}{xs ys zs:List V}{ds es gs:List D}(sq1:Sq t K F a xs)(dl1:DenL K F ds xs)(sq2:Sq u K F b ys)(dl2:DenL K F es ys)(sq3:Sq v K F c zs)(dl3:DenL K F gs zs):Wk K F L (aDA K t u v a b c) (gG ds es gs) where
 go:=λ i H s hi=>by
  rw[aBF] at hi;have h1:i<xs.length:=by rw[<- dl1.length];omega
  have h2:i<ys.length:=by rw[<- dl2.length];omega
  have h3:i<zs.length:=by rw[<- dl3.length];omega
  exact⟨xs,xs[i],ys,ys[i],zs,zs[i],fH s sq1,by simp[h1],fH s sq2,by simp[h2],fH s sq3,by simp[h3]⟩
 stop:=λ H s=>⟨xs,ys,zs,fH s sq1,fH s sq2,fH s sq3,by rw[aBF,dl1.length,dl2.length,dl3.length]⟩
 yld:=λ i H F1 L1 S x H' d g R e y=>by
  obtain⟨p,x',y',z',hp,rfl,rfl,hx,hy,hz⟩:=y;obtain⟨d1,d2,d3,e1,e2,e0,rfl⟩:=aFy ds es gs i d e;obtain⟨x1,e3,dx⟩:=dl1.get e1;obtain⟨y1,e4,dy⟩:=dl2.get e2;obtain⟨z1,e5,dz⟩:=dl3.get e0;have q1:=hx xs (fH (g.f.trans R.sub) sq1);rw[q1] at e3;cases e3;have q2:=hy ys (fH (g.f.trans R.sub) sq2);rw[q2] at e4;cases e4;have q3:=hz zs (fH (g.f.trans R.sub) sq3);rw[q3] at e5;cases e5;have hF:F1 p=qz:=R.sub.free hp;exact⟨bE F1 p (.tup [x',y',z']),eM hF,R.new hp,.tup (cF.of dE) (.cons (dx.mono (g.f.trans (eM hF))) (.cons (dy.mono (g.f.trans (eM hF))) (.cons (dz.mono (g.f.trans (eM hF))) .nil)))⟩
noncomputable def aAS(fa fb fc:FE):FL:=λ env S=>(fa env S).bind λ p=>(fb env p.2).bind λ q=>(fc env q.2).bind λ r=>(oQ p.1).bind λ ds=>(oQ q.1).bind λ es=>(oQ r.1).bind λ gs=>qq (gG ds es gs,r.2)
theorem aQf{K:FrG}{fa fb fc:FE}(σ:L2.St)(H:Hp)(Rr:It->Hp->Prop)(h:kG K (aAS fa fb fc) σ H Rr):aJr K (hU K (eO fa (eO fb (eO fc jY)))) σ H Rr:=by
 obtain⟨F,L,S,env,ds,S',R,E,e,q⟩:=h;obtain⟨⟨w1,S1⟩,e1,e⟩:=bind_some e;obtain⟨⟨w2,S2⟩,e2,e⟩:=bind_some e;obtain⟨⟨w3,S3⟩,e0,e⟩:=bind_some e;obtain⟨ds1,e3,e⟩:=bind_some e;obtain⟨ds2,e4,e⟩:=bind_some e;obtain⟨ds3,e5,e⟩:=bind_some e;dsimp only at e e2 e3 e4 e0 e5;cases e;refine⟨F,L,S,env,[w1,w2,w3],S',R,E,by unfold eO;simp only[e1,e2,e0,jY,yCc],λ F1 L1 H1 vs g1 R1 d1=>?_⟩
 cases d1 with
 | cons da dr =>
   cases dr with
   | cons db dn =>
     cases dn with
     | cons dc dn =>
       cases dn;obtain⟨t,a,xs,rfl,sq1,dl1⟩:=tQ e3 da;obtain⟨u,b,ys,rfl,sq2,dl2⟩:=tQ e4 db;obtain⟨v,c,zs,rfl,sq3,dl3⟩:=tQ e5 dc;exact⟨a,b,c,t,u,v,rfl,⟨xs,fH R1.sub sq1⟩,⟨ys,fH R1.sub sq2⟩,⟨zs,fH R1.sub sq3⟩,q F1 L1 H1 _ g1 R1 (aPn sq1 dl1 sq2 dl2 sq3 dl3)⟩
end
section
variable {X : Cx}
end
section
open PySem.SeqAt
open PySem.AutoSeq1 (wpAny_loadPart')
open PySem.MeetsSeq PySem.MeetsSeq2 PySem.MeetsSeq3
theorem rE:∀ {vs:List qx}{ns:List Int}{i:Nat},IntsAre vs ns->i<vs.length->∃ a t,vs[i]? = qq (.int a t)/\ns.drop i=a::ns.drop (i+1)
 | _,_,i,.nil,h=>absurd h (yFh i)
 | _,_,0,.cons a t _,_=>⟨a,t,rfl,rfl⟩
 | _,_,i+1,.cons a t r,h=>by
   obtain⟨b,u,h1,h2⟩:=rE (i:=i) r (by simpa using h)
   exact⟨b,u,by simpa using h1,by simpa using h2⟩
end
section
variable {prog : qo}{w : zw}{A : zy}{E : qx -> qj -> Prop}{s : qj}
end
section
variable {X : Cx}
end
section
variable {X : Cx}
end
noncomputable def qB(lo:Int):Nat->List V
 | 0=>[]
 | n+1=>.int lo::qB (lo+1) n
theorem aFK:∀ (n:Nat) (lo:Int),(qB lo n).length=n
 | 0,_=>rfl
 | n+1,lo=>by rw[qB,yBg,aFK n]
theorem aGJ{K:FrG}{F:Hp}:∀ (n:Nat) (lo:Int),DenL K F (kB lo n) (qB lo n)
 | 0,_=>.nil
 | n+1,lo=>.cons (.int lo) (aGJ n (lo+1))
theorem aFO:∀ (n:Nat) (lo:Int) (l:List qx),l.length=n->(∀ (i:Nat) (v:qx),l[i]? = qq v->∃ t,v=.int (lo+(i:Nat)) t)->aS (qB lo n) l
 | 0,_,[],_,_=>.nil
 | n+1,lo,v::l,h,hv=>.cons (by
    obtain⟨t,e⟩:=hv 0 v rfl;exact⟨t,by rw[e];congr 1;simp⟩) (aFO n (lo+1) l (by simpa using h) λ i u hu=>by
    obtain⟨t,e⟩:=hv (i+1) u (by simpa using hu)
    exact⟨t,by rw[e];congr 1;push_cast;omega⟩)
noncomputable def oR(f:FL):FL:=λ env S=>(f env S).bind λ p=>if p.1.length<=1000000 then qq p else qz
theorem aFg:1000000<=qk:=by rw[zj];decide
section
variable {X : Cx}
theorem aN7{aB:List (qv×Obj)}{σ:St}{H1:Hp}{s1:qj}{Q:VK}{E:qx->qj->Prop}{lo hi:Int}{t u v:Tok}{tk:Nat}{n:Nat}(I1:Inv X aB σ H1 s1)(hc:X.calm=true)(h1 : -(2^62)<=lo)(h2:lo<2^62)(h3 : -(2^62)<=hi)(h4:hi<2^62)(hn:(hi-lo).toNat=n)(hl:n<=1000000)
 (q:∀ l,H1 l=qz->Q (.ref l) (bE H1 l (.lst (qB lo n)))):qy (model X.prog X.w) X.A (call (.type "list") [.ref s1.heap.objs.size]) (EP X aB σ Q) E {s1 with heap:=s1.heap.push {cls:=.type "range",data:=.fields #[.int lo t,.int hi u,.int 1 v] },toks:=tk }:=by
 have hs:yCq lo hi 1=(n:Int):=by rw[rangeSize_one];split<;>omega
 refine call_list_range (I1.ok.hd hc) (IsRange.new ..) (small_one h1 h2 h3 h4) hs (xAi hl (by decide)) λ h' tk' aH c' hk hS' ha=>?_
 have sz:(s1.heap.push {cls:=.type "range",data:=.fields #[.int lo t,.int hi u,.int 1 v] }).objs.size=s1.heap.objs.size+1:=yBc _ _;dsimp only at hS' hk ⊢;rw[sz] at hS' ⊢;have hfr:H1 (s1.heap.objs.size+1)=qz:=I1.hok.fresh (Nat.le_succ _);have kp:∀ b o,s1.heap.get? b=qq o->h'.get? b=qq o:=λ b o eo=>hk b o (hpS _ eo)
 refine⟨.ref (s1.heap.objs.size+1),bE H1 (s1.heap.objs.size+1) (.lst (qB lo n)),I1.laid (t':=tk') kp (Nat.le_succ _) ⟨by rw[aFK];exact xAi hl aFg,aH.toList,c',?_,by simpa using hS'⟩,rfl,q _ hfr⟩
 obtain⟨a1,a2⟩:=ha;refine aFO n lo aH.toList (by simpa using a1) λ i w hw=>?_
 obtain⟨t,e⟩:=a2 i w (by simpa using hw)
 exact⟨t,by rw[e];congr 1;rw[Int.mul_one]⟩
theorem aQB{a:qw}{fa:FE}{p p2 pos pos2:Pos}(ha:PE X a (aV X.K fa))(hc:X.calm=true)(hg:Gl X "list")(hm:X.mg "list" = qz)(hg2:Gl X "range")(hm2:X.mg "range" = qz)
 (hs:zq [a] X.env=[(false,eval a X.env)]):PE X (.Call (.Name "list" p) [.Call (.Name "range" p2) [a] [] pos2] [] pos) (iA X.K (oR (lI fa))):=by
 rintro aB s σ H Q I ⟨F,L,S,env,ds,S',R,E,e,q⟩;obtain⟨⟨ds1,S1⟩,e1,e⟩:=bind_some e;obtain⟨⟨w1,S2⟩,e1,e2⟩:=bind_some e1;dsimp only at e e2
 split at e2
 ·split at e2
  ·split at e
   ·rename_i j c l;cases e2;cases e;rw[yB] at l;refine xj (lB I hg hm (show xo "list" = qq (.type "list") by decide +kernel) ?_)
    refine yBe ?_ rfl rfl;show qy _ _ (spliced ((false,eval (.Call (.Name "range" p2) [a] [] pos2) X.env)::[])) _ _ s;refine Calls.spliced_cons ?_;refine xj (lB I hg2 hm2 boot_range ?_);refine yBe ?_ hs rfl;refine bD (mI ha aAR hs pos2 aB s σ H (λ vs H1=>∃ v F1 L1,vs=[v]/\Gr F L F1 L1/\Rel X.K F1 L1 S' H1/\eH X.K F1 L1 (.d (.int j)) v) I ⟨F,L,S,env,[.d (.int j)],_,R,E,by unfold eO;rw[e1];rfl,λ F1 L1 H1 vs g1 R1 d1=>by
     cases d1 with
     | cons d0 dr=>cases dr;exact⟨_,F1,L1,rfl,g1,R1,d0⟩⟩) λ us s1 ⟨vs,H1,I1,r1,v,F1,L1,ev,g1,R1,d1⟩=>?_
    subst ev;obtain⟨u,rfl,ru⟩:=iY r1;cases (show Den X.K F1 (.int j) v from d1)
    obtain⟨t,rfl⟩:=ru;refine call_range_1 ?_;refine Calls.spliced_nil ?_;refine aN7 (n:=j.toNat) I1 hc (by omega) (by omega) c.1 c.2 (by rw[Int.sub_zero]) l λ l' hl'=>?_
    exact q F1 L1 _ _ _ g1 (R1.lay hl') (R1.sub.free hl') (R1.notin hl') dE (aGJ _ _)
   ·cases e
  ·cases e2
 ·cases e2
end
section
variable {X : Cx}
end
noncomputable def Itd(hi:Int)(n:Nat):It:=⟨λ i _=>i<n,λ i H x H'=>H'=H/\x=.int (hi-i),λ i _=>n<=i⟩
theorem aMo{P:qo}{w:zw}{K:FrG}{tg:qw}(it:qv)(hi:Int)(n:Nat):Turn P w K tg (Itd hi n) [it] it (λ i h=>kz h it (hi+(i:Nat)*(-1)) ((n:Int)-(i:Nat)) (-1)) where
 mem:=by simp
 obj:=λ i h st b hb=>by
  have e:b=it:=by simpa using hb
  subst e;exact⟨_,st,λ v z=>by
   have z':Data.fields _=Data.cell v:=z;cases z'⟩
 keep:=λ i h h' st k=>k it (by simp) _ st
 item:=by
  intro X hP hw hK hc i aB s σ H E I hf st hg;subst hP hw hK;obtain⟨f0,f1,f2,f3,f4,f5⟩:=hf it (by simp)
  have W:=Walks.range (prog:=X.prog) (w:=X.w) (I.ok.hd hc) it hi (-1) n;refine W.item i s _ _ hg st λ v h' tk hv st' kk=>?_
  obtain⟨t,rfl⟩:=hv;have I1:Inv X aB σ H {s with heap:=h',toks:=tk }:=I.turned (λ b o hb e=>kk b o (by simpa using hb) e) f0 f1 f3 f4 f5
  refine⟨_,rfl,aAU (s:={s with heap:=h',toks:=tk }) (n:="range_iterator") st' rfl rfl (by decide) ⟨.int (hi-i),H,I1,⟨t,?_⟩,⟨rfl,rfl⟩,st',λ b hb=>(hf b hb).1⟩⟩
  congr 1;omega
 done:=by
  intro X hP hw hK hc i aB s σ H E I hf st hg;subst hP hw hK;obtain⟨f0,f1,f2,f3,f4,f5⟩:=hf it (by simp)
  exact wpAny_pyNext_range_end (I.ok.hd hc) st (by have:n<=i:=hg;omega) λ h' eb=>⟨rfl,I.turned (t':=s.toks) (λ b o hb e=>eb b o hb e) f0 f1 f3 f4 f5⟩
 self:=λ _ _ _ _ _ st h=>yo st h
theorem aEr(a b:Int):yCq a b (-1)=if b<a then a-b else 0:=by
 unfold yCq;simp only[show ¬ ((-1:Int)>0) by decide,if_false,Int.neg_neg,Int.ediv_one,gt_iff_lt]
 split<;>omega
theorem aLS{a b:Int}(ha : -(2^62)<=a)(ha':a<2^62)(hb : -(2^62)<=b)(hb':b<2^62):yHk a b (-1)=true:=by
 unfold yHk;rw[aEr];simp only[Builtin.Range.rangeFitsLong,yAt,yEd,decide_eq_true_eq,beq_iff_eq,show ¬ ((-1:Int)>0) by decide,if_false]
 split<;>omega
section
variable {X : Cx}{tg : qw}
theorem aPo{aB:List (qv×Obj)}{σ:L2.St}{H:Hp}{s:qj}{R:It->Hp->Prop}{E:qx->qj->Prop}{hi lo:Int}{t u v:Tok}{tk:Nat}(I:Inv X aB σ H s)(h1 : -(2^62)<=hi)(h2:hi<2^62)(h3 : -(2^62)<=lo)(h4:lo<2^62)
 (q:R (Itd hi (hi-lo).toNat) H):qy (model X.prog X.w) X.A (pyIter (.ref s.heap.objs.size)) (PIE X aB σ tg R) E {s with heap:=s.heap.push {cls:=.type "range",data:=.fields #[.int hi t,.int lo u,.int (-1) v] },toks:=tk }:=by
 refine wpAny_pyIter_range (IsRange.new ..) (aLS h1 h2 h3 h4) ?_;have I1:Inv X aB σ H {s with heap:=s.heap.push {cls:=.type "range",data:=.fields #[.int hi t,.int lo u,.int (-1) v] },toks:=tk }:=I.kept λ b o e=>hpS _ e
 refine⟨(s.heap.push {cls:=.type "range",data:=.fields #[.int hi t,.int lo u,.int (-1) v] }).objs.size,[(s.heap.push {cls:=.type "range",data:=.fields #[.int hi t,.int lo u,.int (-1) v] }).objs.size],_,_,H,rfl,
  I1.kept (t':=tk) λ b o e=>hpS _ e,aMo _ hi (hi-lo).toNat,?_,λ b hb=>?_,q⟩
 ·have e1:hi+((0:Nat):Int)*(-1)=hi:=by simp
  have e2:(((hi-lo).toNat:Nat):Int)-((0:Nat):Int)=yCq hi lo (-1):=by rw[aEr];split<;>omega
  show kz _ _ (hi+((0:Nat):Int)*(-1)) ((((hi-lo).toNat:Nat):Int)-((0:Nat):Int)) (-1);rw[e1,e2];exact xAe _ rfl
 ·have e:b=(s.heap.push {cls:=.type "range",data:=.fields #[.int hi t,.int lo u,.int (-1) v] }).objs.size:=by simpa using hb
  subst e;exact I1.fpOk (yAc _) (I1.hok.fresh (yAc _))
def aJn(ta:TA):TI:=λ σ H R=>ta σ H λ vs H1=>∃ i j:Int,vs=[.int i,.int j,.int (-1)]/\(-(2^62)<=i/\i<2^62 /\ -(2^62)<=j/\j<2^62)/\R (Itd i (i-j).toNat) H1
theorem aMJ{a b c:qw}{ta:TA}{p pos:Pos}(hg:Gl X "range")(hm:X.mg "range" = qz)(ha:PA X [a,b,c] ta)(hs:zq [a,b,c] X.env=(false,eval a X.env)::zq [b,c] X.env)(hs2:zq [b,c] X.env=[(false,eval b X.env),(false,eval c X.env)]) :
 PI X tg (.Call (.Name "range" p) [a,b,c] [] pos) (aJn ta):=by
 intro aB s σ H R I h;refine Call_ (lB I hg hm boot_range (yBe (bD (ha pos aB s σ H _ I h) λ us s1 hPq42=>?_) hs (by rw[hs2];rfl)))
 obtain⟨vs,H1,I1,r1,q1⟩:=hPq42;obtain⟨i,j,e,⟨q1,q2,q3,q4⟩,q⟩:=q1;subst e;cases r1 with
 | cons r rr =>
   cases rr with
   | cons r' rr =>
     cases rr with
     | cons r'' rr =>
       cases rr;obtain⟨t,rfl⟩:=r;obtain⟨t',rfl⟩:=r';obtain⟨t'',rfl⟩:=r'';exact call_range_3 (by decide) (aPo I1 q1 q2 q3 q4 q)
noncomputable def kW(hi:Int):Nat->List D
 | 0=>[]
 | n+1=>.int hi::kW (hi-1) n
theorem qV:∀ (n:Nat) (hi:Int),(kW hi n).length=n
 | 0,_=>rfl
 | n+1,hi=>by rw[kW,yBg,qV n]
theorem aBK:∀ (n:Nat) (hi:Int) (i:Nat),i<n->(kW hi n)[i]? = qq (.int (hi-i))
 | 0,_,_,h=>by omega
 | n+1,hi,0,_=>by simp[kW]
 | n+1,hi,i+1,h=>by
   rw[kW,yBj,aBK n (hi-1) i (by omega)]
   congr 2
   push_cast
   omega
theorem aOv{K:FrG}{F:Hp}{L:List qv}(hi:Int)(n:Nat):Wk K F L (Itd hi n) (kW hi n) where
 go:=λ i H s hi=>by rw[qV] at hi;exact hi
 stop:=λ H s=>by rw[qV];exact yAc _
 yld:=λ i H F1 L1 S x H' d g R e y=>by
  obtain⟨rfl,rfl⟩:=y;have hi:i<n:=by
   have:=(gIm e).1;rw[qV] at this;exact this
  rw[aBK n _ i hi] at e;cases e;exact⟨F1,bZ.refl _,R,.int _⟩
noncomputable def aAL(fa fb fc:FE):FL:=λ env S=>(fa env S).bind λ p=>(fb env p.2).bind λ q=>(fc env q.2).bind λ r=>match p.1,q.1,r.1 with
 | .d (.int i),.d (.int j),.d (.int k)=>if (-(2^62)<=i/\i<2^62 /\ -(2^62)<=j/\j<2^62)/\k = -1 then qq (kW i (i-j).toNat,r.2) else qz
 | _,_,_=>qz
theorem aRX{K:FrG}{fa fb fc:FE}(σ:L2.St)(H:Hp)(Rr:It->Hp->Prop)(h:kG K (aAL fa fb fc) σ H Rr):aJn (hU K (eO fa (eO fb (eO fc jY)))) σ H Rr:=by
 obtain⟨F,L,S,env,ds,S',R,E,e,q⟩:=h;obtain⟨⟨w,S1⟩,e1,e2⟩:=bind_some e;obtain⟨⟨w2,S2⟩,e3,e4⟩:=bind_some e2;obtain⟨⟨w3,S3⟩,e5,e6⟩:=bind_some e4;dsimp only at e6 e3 e5
 split at e6
 ·split at e6
  ·rename_i c;obtain⟨c,rfl⟩:=c;cases e6;refine⟨F,L,S,env,[.d (.int _),.d (.int _),.d (.int _)],_,R,E,by unfold eO;rw[e1];dsimp only[yCx];rw[e3];dsimp only[yCx];rw[e5];rfl,λ F1 L1 H1 vs g1 R1 d1=>?_⟩
   cases d1 with
   | cons dd dr =>
     cases dr with
     | cons dd2 dr =>
       cases dr with
       | cons dd3 dr =>
         cases dr;cases (show Den K F1 (.int _) _ from dd)
         cases (show Den K F1 (.int _) _ from dd2)
         cases (show Den K F1 (.int _) _ from dd3)
         exact⟨_,_,rfl,c,q F1 L1 H1 _ g1 R1 (aOv _ _)⟩
  ·cases e6
 ·cases e6
end
abbrev jO(h:Heap)(z TI TO a:qv)(f:Bool):Prop:=
 h.get? z=qq {cls:=.type "zip",dict:=qz,data:=.fields #[yx a,.bool f,.bool false,.ref TI,.ref TO],slots:=#[] }
section
variable {prog : qo}{w : zw}{A : zy}{E : qx -> qj -> Prop}{s : qj}
theorem aMU{a:qv}{Q:Option Obj->qj->Prop}(h:Q (s.heap.get? a) s):qy (model prog w) A (loadIfAlive a) Q E s:=λ _ _ _=>h
theorem aFd{z TI TO a:qv}{f:Bool}{Q:Bool->qj->Prop}(hz:jO s.heap z TI TO a f)(ha:∃ o,s.heap.get? a=qq o)
 (hQ:∀ h',jO h' z TI TO a true->yDx z s.heap h'->Q false {s with heap:=h' }):qy (model prog w) A (yAj (.ref z)) Q E s:=by
 unfold yAj;refine wB (qu hz rfl (x:=yx a) rfl ?_);obtain⟨o,ho⟩:=ha;have hn:((s.heap.get? ((a:Int)).toNat).isNone)=false:=by
  rw[yAr,ho];rfl
 show qy _ _ (loadIfAlive ((a:Int)).toNat >>= _) _ _ _;refine wB (aMU ?_);rw[hn];simp only[yAv,if_false];cases f with
 | true =>
   refine wB (qu hz rfl (x:=.bool true) rfl ?_);rw[if_neg (by decide)]
   exact wP (hQ s.heap hz (Heap.SameBut.refl _ _))
 | false =>
   refine wB (qu hz rfl (x:=.bool false) rfl ?_);rw[if_pos (by decide)]
   exact wB (zv hz (by simp) λ h₁ hz₁ hs₁=>wP (hQ h₁ hz₁ hs₁))
theorem aK2{z TI TO i1 i2 a:qv}{f:Bool}{cC cD:List qv}{n1 n2 k:Nat}{P1 P2:Nat->qx->Prop}{bK bG:Nat->Heap->Prop}{Q:qx->qj->Prop}
 (D1:Draws prog w A i1 cC n1 P1 bK) (D2:Draws prog w A i2 cD n2 P2 bG) (Z:ZA z TI TO i1 i2 cC cD)
 (hz:jO s.heap z TI TO a f) (ha:∃ o,s.heap.get? a=qq o) (cB:xq s.heap TI (.ref i1) (.ref i2)) (s1:bK k s.heap) (s2:bG k s.heap) (k1:k<n1) (k2:k<n2)
 (hQ:∀ x y h' tk,P1 k x->P2 k y->jO h' z TI TO a true->xq h' TI (.ref i1) (.ref i2)->bK (k+1) h'->bG (k+1) h'->xq h' s.heap.objs.size x y->h'.objs.size=s.heap.objs.size+1 ->
   (∀ c o,c≠z->c≠i1->c≠i2->s.heap.get? c=qq o->h'.get? c=qq o)->Q (.ref s.heap.objs.size) {s with heap:=h',toks:=tk }) :
 qy (model prog w) A (Builtin.«zip.__next__» ⟨[.ref z],[]⟩) (λ bT s'=>∃ v,bT=.done (.ret v)/\Q v s') E s:=by
 show qy _ _ (field (.ref z) 2 >>= _) _ _ _;refine wB (qu hz rfl (x:=.bool false) rfl ?_);show qy _ _ (field (.ref z) 3 >>= _) _ _ _;refine wB (qu hz rfl (x:=.ref TI) rfl ?_);refine wB (zx cB rfl ?_);show qy _ _ (yAj (.ref z) >>= _) _ _ _;refine wB (aFd hz ha λ h₁ hz₁ hs₁=>?_)
 have s11:bK k h₁:=D1.frame k _ _ s1 λ c hc o e=>hs₁.extBut _ _ (Z.f1 c hc).1 e
 have s21:bG k h₁:=D2.frame k _ _ s2 λ c hc o e=>hs₁.extBut _ _ (Z.f2 c hc).1 e
 simp only[yAv,if_false];rw[<- Array.forIn_toList];simp only[yDm,yDv];refine wB ?_;refine wB (wB (zu ?_));show qy _ _ (yAi (.ref i1) >>= _) _ _ _;refine wB (D1.item k _ _ _ k1 s11 λ x h₂ tk₂ px s12 hs₂=>wP ?_)
 have s22:bG k h₂:=D2.frame k _ _ s21 λ c hc o e=>hs₂.extBut _ _ (Z.f2 c hc).2.2 e
 refine wP ?_;refine wB (wB (zu ?_));show qy _ _ (yAi (.ref i2) >>= _) _ _ _;refine wB (D2.item k _ _ _ k2 s22 λ y h₃ tk₃ py s23 hs₃=>wP ?_)
 have s13:bK (k+1) h₃:=D1.frame _ _ _ s12 λ c hc o e=>hs₃.extBut _ _ (Z.f1 c hc).2.2 e
 refine wP (wP ?_);refine wB (wpAny_newTuple (hsz:=show 2<=qk by decide) ?_)
 have hsz:h₃.objs.size=s.heap.objs.size:=by rw[hs₃.1,hs₂.1,hs₁.1]
 have up:∀ c o,c≠z->c≠i1->c≠i2->s.heap.get? c=qq o->h₃.get? c=qq o:=λ c o c1 c3 c4 e=>hs₃.extBut _ _ c4 (hs₂.extBut _ _ c3 (hs₁.extBut _ _ c1 e))
 have hz₃:jO h₃ z TI TO a true:=hs₃.extBut _ _ Z.i2z.symm (hs₂.extBut _ _ Z.i1z.symm hz₁);refine wP ⟨_,rfl,?_⟩;show Q (.ref h₃.objs.size) _;rw[hsz];have ps:∀ c o,h₃.get? c=qq o->(h₃.push {cls:=.type "tuple",data:=.seq #[x,y] }).get? c=qq o:=λ c o e=>hpS _ e
 have hT:xq (h₃.push {cls:=.type "tuple",data:=.seq #[x,y] }) s.heap.objs.size x y:=by rw[<- hsz];exact xAe _ rfl
 exact hQ x y _ _ px py (ps _ _ hz₃) (ps _ _ (up _ _ Z.TIz Z.TIi1 Z.TIi2 cB)) (D1.frame _ _ _ s13 λ c hc o e=>ps c o e) (D2.frame _ _ _ s23 λ c hc o e=>ps c o e) hT (by rw[yBc,hsz]) λ c o c1 c3 c4 e=>ps c o (up c o c1 c3 c4 e)
theorem aLf{z TI TO i1 i2 a:qv}{f:Bool}{cC cD:List qv}{n1 n2 k:Nat}{P1 P2:Nat->qx->Prop}{bK bG:Nat->Heap->Prop}{Q:Fin->qj->Prop}
 (D1:Draws prog w A i1 cC n1 P1 bK) (D2:Draws prog w A i2 cD n2 P2 bG) (Z:ZA z TI TO i1 i2 cC cD)
 (hz:jO s.heap z TI TO a f) (ha:∃ o,s.heap.get? a=qq o) (cB:xq s.heap TI (.ref i1) (.ref i2)) (s1:bK k s.heap) (s2:bG k s.heap) (hend:k=n1\/(k<n1/\k=n2))
 (hE:∀ h' tk e,(∀ c o,c≠z->c≠i1->c≠i2->s.heap.get? c=qq o->h'.get? c=qq o)->(∃ o,h'.get? e=qq o/\o.cls=.type "StopIteration")->E (.ref e) {s with heap:=h',toks:=tk }) :
 qy (model prog w) A (Builtin.«zip.__next__» ⟨[.ref z],[]⟩) Q E s:=by
 show qy _ _ (field (.ref z) 2 >>= _) _ _ _;refine wB (qu hz rfl (x:=.bool false) rfl ?_);show qy _ _ (field (.ref z) 3 >>= _) _ _ _;refine wB (qu hz rfl (x:=.ref TI) rfl ?_);refine wB (zx cB rfl ?_);show qy _ _ (yAj (.ref z) >>= _) _ _ _;refine wB (aFd hz ha λ h₁ hz₁ hs₁=>?_)
 have s11:bK k h₁:=D1.frame k _ _ s1 λ c hc o e=>hs₁.extBut _ _ (Z.f1 c hc).1 e
 have s21:bG k h₁:=D2.frame k _ _ s2 λ c hc o e=>hs₁.extBut _ _ (Z.f2 c hc).1 e
 simp only[yAv,if_false];rw[<- Array.forIn_toList];simp only[yDm,yDv];refine wB ?_;refine wB (wB (zu ?_));show qy _ _ (yAi (.ref i1) >>= _) _ _ _;rcases hend with rfl | ⟨k1,rfl⟩
 ·exact wB (D1.done _ _ _ s11 λ h₂ e hs₂ he=>hE h₂ _ e (λ c o c1 c3 _ x=>hs₂ _ _ c3 (hs₁.extBut _ _ c1 x)) he)
 ·refine wB (D1.item k _ _ _ k1 s11 λ x h₂ tk₂ px s12 hs₂=>wP ?_)
  have s22:bG k h₂:=D2.frame k _ _ s21 λ c hc o e=>hs₂.extBut _ _ (Z.f2 c hc).2.2 e
  refine wP ?_;refine wB (wB (zu ?_));show qy _ _ (yAi (.ref i2) >>= _) _ _ _;exact wB (D2.done _ _ _ s22 λ h₃ e hs₃ he=>hE h₃ _ e (λ c o c1 c3 c4 x=>hs₃ _ _ c4 (hs₂.extBut _ _ c3 (hs₁.extBut _ _ c1 x))) he)
theorem aKR{z TI TO i1 i2 a:qv}{f:Bool}{cC cD:List qv}{n1 n2 k:Nat}{P1 P2:Nat->qx->Prop}{bK bG:Nat->Heap->Prop}{Q:Option qx->qj->Prop}
 (D1:Draws prog w A.in1 i1 cC n1 P1 bK) (D2:Draws prog w A.in1 i2 cD n2 P2 bG) (Z:ZA z TI TO i1 i2 cC cD)
 (hz:jO s.heap z TI TO a f) (ha:∃ o,s.heap.get? a=qq o) (cB:xq s.heap TI (.ref i1) (.ref i2)) (s1:bK k s.heap) (s2:bG k s.heap) (k1:k<n1) (k2:k<n2)
 (hQ:∀ x y h' tk,P1 k x->P2 k y->jO h' z TI TO a true->xq h' TI (.ref i1) (.ref i2)->bK (k+1) h'->bG (k+1) h'->xq h' s.heap.objs.size x y->h'.objs.size=s.heap.objs.size+1 ->
   (∀ c o,c≠z->c≠i1->c≠i2->s.heap.get? c=qq o->h'.get? c=qq o)->Q (qq (.ref s.heap.objs.size)) {s with heap:=h',toks:=tk }) :
 qy (model prog w) A (ju (.ref z)) Q E s:=by
 have hT:s.TypeIs (.ref z) "zip":=⟨_,hz,rfl⟩;unfold ju;exact wB (vv (wpAny_callSpecial?_slot (name:=Str.ofString "__next__") hT F.slot_zip_next
  (xz F.slot_zip_next hT F.entry_zip_next
    (aK2 D1 D2 Z hz ha cB s1 s2 k1 k2 λ x y h' tk a0 b0 a1 a3 a4 a5 a6 a7 a8=>wP (hQ x y h' tk a0 b0 a1 a3 a4 a5 a6 a7 a8)) (F.args_zip_next_1 _))))
theorem aKT{z TI TO i1 i2 a:qv}{f:Bool}{cC cD:List qv}{n1 n2 k:Nat}{P1 P2:Nat->qx->Prop}{bK bG:Nat->Heap->Prop}{Q:Option qx->qj->Prop}
 (D1:Draws prog w A.in1 i1 cC n1 P1 bK) (D2:Draws prog w A.in1 i2 cD n2 P2 bG) (Z:ZA z TI TO i1 i2 cC cD)
 (hz:jO s.heap z TI TO a f) (ha:∃ o,s.heap.get? a=qq o) (cB:xq s.heap TI (.ref i1) (.ref i2)) (s1:bK k s.heap) (s2:bG k s.heap) (hend:k=n1\/(k<n1/\k=n2))
 (hQ:∀ h' tk,(∀ c o,c≠z->c≠i1->c≠i2->s.heap.get? c=qq o->h'.get? c=qq o)->Q qz {s with heap:=h',toks:=tk }):qy (model prog w) A (ju (.ref z)) Q E s:=by
 have hT:s.TypeIs (.ref z) "zip":=⟨_,hz,rfl⟩;unfold ju;refine wB (vv (wpAny_callSpecial?_slot (name:=Str.ofString "__next__") hT F.slot_zip_next
  (xz F.slot_zip_next hT F.entry_zip_next (aLf D1 D2 Z hz ha cB s1 s2 hend λ h' tk e hk he=>?_) (F.args_zip_next_1 _))))
 obtain⟨o,ho,hc⟩:=he;refine wB (yk (T:="StopIteration") (b:=true) ⟨o,ho,hc⟩ kx ?_);exact wP (hQ _ _ hk)
end
theorem Rel.relay{K:FrG}{F:Hp}{L:List qv}{S:aC}{H:Hp}(r:Rel K F L S H){p:qv}{o:HO}(hF:F p=qz)(hL:p ∉ L):Rel K F L S (bE H p o):=by
 refine⟨λ b u q=>by rw[bP (eC q hF)];exact r.sub _ _ q,r.nd,r.len,λ n a ds e1 e2=>?_,λ n a e=>?_⟩
 ·obtain⟨f,xs,e3,dl⟩:=r.loc n a ds e1 e2;have ne:a≠p:=λ z=>hL (by rw[<- z];exact xAl e1)
  exact⟨f,xs,by rw[bP ne];exact e3,dl⟩
 ·obtain⟨xs,hx⟩:=r.tr n a e;have ne:a≠p:=λ z=>hL (by rw[<- z];exact xAl e)
  exact⟨xs,by rw[bP ne];exact hx⟩
theorem aFI{K:FrG}{F:Hp}{d:D}{v:V}(k:Den K F d v):∀ {ds:List D}{xs:List V},DenL K F ds xs->DenL K F (ds++[d]) (xs++[v])
 | _,_,.nil=>.cons k .nil
 | _,_,.cons a b=>.cons a (aFI k b)
structure ZW(X:Cx)(aB:List (qv×Obj))(σ:L2.St)(F1:Hp)(L1:List qv)(S1:aC)(SA z TI TO i1 i2:qv)(ds:List D)(H F:Hp)(vs:List V)(s:qj):Prop where
 inv:Inv X aB σ H s
 same:bZ F1 F
 rel:Rel X.K F L1 S1 H
 free:F SA=qz
 lst:H SA=qq (.lst vs)
 den:DenL X.K F ds vs
 fp:∀ c∈[z,TI,TO,i1,i2],gH X aB H c
structure ZH(z TI TO i1 i2 a b:qv)(t u:Bool)(i:Nat)(h:Heap):Prop where
 ti:xq h TI (.ref i1) (.ref i2)
 q1:dY t h i1 a i
 q2:dY u h i2 b i
 to:∃ o,h.get? TO=qq o
 z:(xu h z TI TO .none/\∃ x y,xq h TO x y)\/∃ a0 f,jO h z TI TO a0 f/\∃ o,h.get? a0=qq o
theorem ZH.zlt{z TI TO i1 i2 a b:qv}{t u:Bool}{i:Nat}{h:Heap}(x:ZH z TI TO i1 i2 a b t u i h):∃ o,h.get? z=qq o:=by
 rcases x.z with ⟨y,_⟩ | ⟨_,_,y,_⟩
 ·exact⟨_,y⟩
 ·exact⟨_,y⟩
theorem ZH.keep{z TI TO i1 i2 a b:qv}{t u:Bool}{i:Nat}{h h':Heap}(x:ZH z TI TO i1 i2 a b t u i h)(k:∀ c o,c∈[z,TI,TO,i1,i2]->h.get? c=qq o->h'.get? c=qq o)(k2:∀ c o,h.get? c=qq o->∃ o',h'.get? c=qq o'):ZH z TI TO i1 i2 a b t u i h':=by
 refine⟨k _ _ (by simp) x.ti,x.q1.at λ o e=>k _ _ (by simp) e,x.q2.at λ o e=>k _ _ (by simp) e,let ⟨o,e⟩:=x.to;k2 _ _ e,?_⟩
 rcases x.z with ⟨y,p,q,r⟩ | ⟨a0,f,y,o,e⟩
 ·exact .inl ⟨k _ _ (by simp) y,p,q,k _ _ (by simp) r⟩
 ·exact .inr ⟨a0,f,k _ _ (by simp) y,k2 _ _ e⟩
section
variable {X : Cx}{aB : List (qv×Obj)}{σ : L2.St}{F1 : Hp}{L1 : List qv}{S1 : aC}{SA z TI TO i1 i2 a b : qv}{t u : Bool}{ds : List D}{H F : Hp}{vs : List V}{s : qj}{xs ys : List V}{ds1 ds2 : List D}{A : zy}{E : qx -> qj -> Prop}{i : Nat}
theorem aNf{Q:Option qx->qj->Prop}(hh:A.in1.handled=qz)(Z:ZA z TI TO i1 i2 [i1,a] [i2,b])(n1:a≠i1)(n2:b≠i2)(sq1:Sq t X.K F1 a xs)(dl1:DenL X.K F1 ds1 xs)(sq2:Sq u X.K F1 b ys)(dl2:DenL X.K F1 ds2 ys)
 (hw:ZW X aB σ F1 L1 S1 SA z TI TO i1 i2 ds H F vs s) (hz:ZH z TI TO i1 i2 a b t u i s.heap) {d:D} (hd:(dP ds1 ds2)[i]? = qq d)
 (hQ:∀ s' p H' F',ZW X aB σ F1 L1 S1 SA z TI TO i1 i2 ds H' F' vs s'->ZH z TI TO i1 i2 a b t u (i+1) s'.heap->Den X.K F' d (.ref p)->Q (qq (.ref p)) s'):qy (model X.prog X.w) A (ju (.ref z)) Q E s:=by
 obtain⟨d1,d2,e1,e2,rfl⟩:=aGd ds1 ds2 i d hd;obtain⟨x,hx,dx⟩:=dl1.get e1;obtain⟨y,hy,dy⟩:=dl2.get e2;have I:=hw.inv;obtain⟨gB,rv1,pl1⟩:=gP I (fH (hw.same.trans hw.rel.sub) sq1);obtain⟨eJ,rv2,pl2⟩:=gP I (fH (hw.same.trans hw.rel.sub) sq2);obtain⟨u1,hu1,ru1⟩:=rv1.get hx;obtain⟨u2,hu2,ru2⟩:=rv2.get hy;have lt1:i<gB.toArray.size:=by rw[yAe];exact(gIm hu1).1
 have lt2:i<eJ.toArray.size:=by rw[yAe];exact(gIm hu2).1
 have D1:=kQ (prog:=X.prog) (w:=X.w) (A:=A.in1) hh t i1 a n1 gB.toArray;have D2:=kQ (prog:=X.prog) (w:=X.w) (A:=A.in1) hh u i2 b n2 eJ.toArray;have hp:H s.heap.objs.size=qz:=I.fresh;have bT:∀ x' y' h' tk,gB.toArray[i]? = qq x'->eJ.toArray[i]? = qq y'->xq h' TI (.ref i1) (.ref i2)->dY t h' i1 a (i+1)->dY u h' i2 b (i+1)->xq h' s.heap.objs.size x' y' ->
  (∀ c o,c≠z->c≠TO->c≠i1->c≠i2->s.heap.get? c=qq o->h'.get? c=qq o)->(∃ o,h'.get? TO=qq o)->(∃ a0 f,jO h' z TI TO a0 f/\∃ o,h'.get? a0=qq o)->Q (qq (.ref s.heap.objs.size)) {s with heap:=h',toks:=tk }:=λ x' y' h' tk px py ti q1 q2 hT hk hto hzb=>by
  have ex:x'=u1:=by rw[yDe,hu1] at px;exact(Option.some.inj px).symm
  have ey:y'=u2:=by rw[yDe,hu2] at py;exact(Option.some.inj py).symm
  subst ex ey;have I2:Inv X aB σ (bE H s.heap.objs.size (.tup [x,y])) {s with heap:=h',toks:=tk }:=by
   refine aE7 I hw.fp (λ c o hb e'=>?_) (yAc _) ⟨by show 2<=qk;decide,[x',y'],.cons ru1 (.cons ru2 .nil),⟨_,hT,rfl,0,rfl⟩⟩
   exact hk c o (λ q=>hb (by simp[q])) (λ q=>hb (by simp[q])) (λ q=>hb (by simp[q])) (λ q=>hb (by simp[q])) e'
  have hF:F s.heap.objs.size=qz:=hw.rel.sub.free hp;have neS:SA≠s.heap.objs.size:=λ q=>by rw[<- q,hw.lst] at hp;cases hp
  refine hQ _ s.heap.objs.size _ (bE F s.heap.objs.size (.tup [x,y])) ⟨I2,hw.same.trans (eM hF),hw.rel.new hp,by rw[bP neS];exact hw.free,by rw[bP neS];exact hw.lst,hw.den.mono (eM hF),λ c hc=>?_⟩ ⟨ti,q1,q2,hto,.inr hzb⟩ ?_
  ·have f:=hw.fp c hc;have:c≠s.heap.objs.size:=by
    have hc':∃ o,s.heap.get? c=qq o:=by
     simp only[yCs,yCo,or_false] at hc;rcases hc with rfl | rfl | rfl | rfl | rfl
     ·exact hz.zlt
     ·exact⟨_,hz.ti⟩
     ·exact hz.to
     ·obtain⟨o,ho,_⟩:=hz.q1.obj;exact⟨o,ho⟩
     ·obtain⟨o,ho,_⟩:=hz.q2.obj;exact⟨o,ho⟩
    obtain⟨o,ho⟩:=hc';exact xAk (xAa ho)
   exact⟨by rw[bP this];exact f.1,f.2⟩
  ·exact .tup (cF.of dE) (.cons (dx.mono (hw.same.trans (eM hF))) (.cons (dy.mono (hw.same.trans (eM hF))) .nil))
 rcases hz.z with ⟨hz0,p,q,cM⟩ | ⟨a0,f,hzb,ha0⟩
 ·refine aKQ D1 D2 Z hz0 hz.ti cM ⟨hz.q1,pl1⟩ ⟨hz.q2,pl2⟩ lt1 lt2 λ x' y' h₁ tk px py hz₁ hTO₁ hTI₁ s1 s2 hT₁ hsz hk=>?_
  exact bT x' y' h₁ tk px py hTI₁ s1.1 s2.1 hT₁ hk ⟨_,hTO₁⟩ ⟨s.heap.objs.size,false,hz₁,_,hT₁⟩
 ·refine aKR D1 D2 Z hzb ha0 hz.ti ⟨hz.q1,pl1⟩ ⟨hz.q2,pl2⟩ lt1 lt2 λ x' y' h₁ tk px py hz₁ hTI₁ s1 s2 hT₁ hsz hk=>?_
  refine bT x' y' h₁ tk px py hTI₁ s1.1 s2.1 hT₁ (λ c o c1 _ c3 c4 e=>hk c o c1 c3 c4 e) (let ⟨o,e⟩:=hz.to;⟨o,hk _ o Z.TOz Z.TOi1 Z.TOi2 e⟩) ⟨a0,true,hz₁,?_⟩
  obtain⟨o,ho⟩:=ha0
  by_cases c1:a0=z
  ·rw[c1];exact⟨_,hz₁⟩
  by_cases c2:a0=i1
  ·rw[c2];obtain⟨o,ho,_⟩:=s1.1.obj;exact⟨o,ho⟩
  by_cases c3:a0=i2
  ·rw[c3];obtain⟨o,ho,_⟩:=s2.1.obj;exact⟨o,ho⟩
  exact⟨o,hk a0 o c1 c2 c3 ho⟩
theorem aOi{p:qv}{d:D}{aF:List qx}{n:Nat}{tk:Nat}(hL:SA ∉ L1)(hw:ZW X aB σ F1 L1 S1 SA z TI TO i1 i2 ds H F vs s)(hz:ZH z TI TO i1 i2 a b t u i s.heap)(hd:Den X.K F d (.ref p))(hl:vs.length+1<=qk)
 (rv:aS vs aF) (e:s.heap.get? SA=qq {cls:=.type "list",data:=.seq aF.toArray n }) :
 ∃ H',ZW X aB σ F1 L1 S1 SA z TI TO i1 i2 (ds++[d]) H' F (vs++[.ref p]) {s with heap:=s.heap.update SA (Obj.mapSeq (·.push (.ref p))),toks:=tk }/\ZH z TI TO i1 i2 a b t u i (s.heap.update SA (Obj.mapSeq (·.push (.ref p)))):=by
 have I3:Inv X aB σ (bE H SA (.lst (vs++[.ref p]))) {s with heap:=s.heap.update SA (Obj.mapSeq (·.push (.ref p))),toks:=tk }:=hw.inv.lset (its':=aF++[.ref p]) hw.lst e (by simp) (aS.append rv (.cons (show aZ (.ref p) (Value.ref p) from rfl) .nil)) (by rw[xAo];exact hl)
 have ne:∀ c∈[z,TI,TO,i1,i2],c≠SA:=λ c hc q=>by
  have:=(hw.fp c hc).1;rw[q,hw.lst] at this;cases this
 refine⟨_,⟨I3,hw.same,Rel.relay hw.rel hw.free hL,hw.free,dE,aFI hd hw.den,λ c hc=>⟨by rw[bP (ne c hc)];exact(hw.fp c hc).1,(hw.fp c hc).2⟩⟩,hz.keep (λ c o hc q=>(yBt _ _ (Ne.symm (ne c hc))).trans q) λ c o q=>?_⟩
 by_cases c1:c=SA
 ·subst c1;exact⟨_,PySem.IsL.update e _⟩
 ·exact⟨o,(yBt _ _ (Ne.symm c1)).trans q⟩
theorem aNO{R:Result->qj->Prop}{res:qx}(hh:A.in1.in1.handled=qz)(Z:ZA z TI TO i1 i2 [i1,a] [i2,b])(n1:a≠i1)(n2:b≠i2)(sq1:Sq t X.K F1 a xs)(dl1:DenL X.K F1 ds1 xs)(sq2:Sq u X.K F1 b ys)(dl2:DenL X.K F1 ds2 ys)(hL:SA ∉ L1)(cH:(dP ds1 ds2).length<=1000000)
 (hR:∀ s' H' F' vs',ZW X aB σ F1 L1 S1 SA z TI TO i1 i2 (dP ds1 ds2) H' F' vs' s'->R (.ok (.ret res)) s') :
 ∀ (k i:Nat) (s:qj) (H F:Hp) (vs:List V),(dP ds1 ds2).length-i=k->i<=(dP ds1 ds2).length->ZW X aB σ F1 L1 S1 SA z TI TO i1 i2 ((dP ds1 ds2).take i) H F vs s->ZH z TI TO i1 i2 a b t u i s.heap ->
 vw (model X.prog X.w) A (.builtin "list.extend.loop" ⟨[.ref SA,.ref z,res],[]⟩) R s:=by
 intro k
 induction k with
 | zero =>
   intro i s H F vs hk hi hw hz;have hin:i=(dP ds1 ds2).length:=by omega
   refine codeAny_builtin yGo ?_;rw[Around.under_plainId yDh _];show qy _ A.in1 (ju (.ref z) >>= _) _ _ s;rw[hin,yAh] at hw;have I:=hw.inv;obtain⟨gB,rv1,pl1⟩:=gP I (fH (hw.same.trans hw.rel.sub) sq1);obtain⟨eJ,rv2,pl2⟩:=gP I (fH (hw.same.trans hw.rel.sub) sq2);have D1:=kQ (prog:=X.prog) (w:=X.w) (A:=A.in1.in1) hh t i1 a n1 gB.toArray;have D2:=kQ (prog:=X.prog) (w:=X.w) (A:=A.in1.in1) hh u i2 b n2 eJ.toArray;have l1:=rv1.length;have l2:=rv2.length;have m1:=dl1.length;have m2:=dl2.length;rw[aE0] at hin;have hend:i=gB.toArray.size\/(i<gB.toArray.size/\i=eJ.toArray.size):=by
    rw[yAe,yAe];omega
   have bT:∀ h' tk,(∀ c o,c≠z->c≠TO->c≠i1->c≠i2->s.heap.get? c=qq o->h'.get? c=qq o)->R (.ok (.ret res)) {s with heap:=h',toks:=tk }:=λ h' tk hk' =>
    hR _ H F vs ⟨aE3 I hw.fp λ c o hb e'=>hk' c o (λ q=>hb (by simp[q])) (λ q=>hb (by simp[q])) (λ q=>hb (by simp[q])) (λ q=>hb (by simp[q])) e',hw.same,hw.rel,hw.free,hw.lst,hw.den,hw.fp⟩
   rcases hz.z with ⟨hz0,p,q,cM⟩ | ⟨a0,f,hzb,ha0⟩
   ·exact wB (aKU D1 D2 Z hz0 hz.ti cM ⟨hz.q1,pl1⟩ ⟨hz.q2,pl2⟩ hend λ h₁ tk hk'=>wP (bT h₁ tk hk'))
   ·exact wB (aKT D1 D2 Z hzb ha0 hz.ti ⟨hz.q1,pl1⟩ ⟨hz.q2,pl2⟩ hend λ h₁ tk hk'=>wP (bT h₁ tk λ c o c1 _ c3 c4 e=>hk' c o c1 c3 c4 e))
 | succ k ih =>
   intro i s H F vs hk hi hw hz;have hlt:i<(dP ds1 ds2).length:=by omega
   refine codeAny_builtin yGo ?_;rw[Around.under_plainId yDh _];show qy _ A.in1 (ju (.ref z) >>= _) _ _ s;refine wB (aNf hh Z n1 n2 sq1 dl1 sq2 dl2 hw hz (yAa hlt) λ s' p H' F' hw' hz' hd=>?_)
   obtain⟨hv,aF,n,rv,hl,e⟩:=hw'.inv.lstM hw'.lst;have vl:vs.length=i:=by
    have:=hw'.den.length;rw[yBo] at this;omega
   have hs:1000000<=qk:=aFg;show qy _ A.in1 (updateSeq SA (·.push (.ref p)) >>= _) _ _ _;obtain⟨H3,hw3,hz3⟩:=aOi (tk:=s'.toks) hL hw' hz' hd (by omega) rv e
   rw[show(dP ds1 ds2).take i++[(dP ds1 ds2)[i]]=(dP ds1 ds2).take (i+1) from (yFl hlt).symm] at hw3
   refine wB (vk e rfl (wP ⟨plainId_quiet yDh _,ih (i+1) _ H3 F' _ (by omega) hlt hw3 hz3⟩) (by simp;omega) (by simp;omega))
end
theorem aLK:typeLookup (.type "zip") "__len__" = pure qz:=by rw[typeLookup_type,builtinLookup_eq_fast];kernel_rfl
theorem aLA:typeLookup (.type "zip") "__length_hint__" = pure qz:=by rw[typeLookup_type,builtinLookup_eq_fast];kernel_rfl
section
variable {prog : qo}{w : zw}{A : zy}{s : qj}{R : Result -> qj -> Prop}{z TI TO : qv}{f0 : qx}
theorem aLG(S:qv)(res:qx)(c₀:Nat)(hz:xu s.heap z TI TO f0)(hSz:S≠z)(hS:s.heap.get? S=qq {cls:=.type "list",data:=.seq #[] c₀ })
 (hR:∀ h' c,(∀ b o,b≠S->s.heap.get? b=qq o->h'.get? b=qq o)->h'.get? S=qq {cls:=.type "list",data:=.seq #[] c }->vw (model prog w) A (.builtin "list.extend.loop" ⟨[.ref S,.ref z,res],[]⟩) R {s with heap:=h' }) :
 qy (model prog w) A.in1 (yCy (.ref S) (.ref z) res)
  (λ bT s'=>match bT with | .done f=>R (.ok f) s' | .again c'=>c'.quiet=true/\vw (model prog w) A c' R s') (λ e s'=>R (.error e) s') s:=by
 have hT:s.TypeIs (.ref z) "zip":=⟨_,hz,rfl⟩;unfold yCy;refine wB (wpAny_typeOf hT ?_);have h1:yGs (.ref S) (.ref z)=false:=by simp[yGs,hSz]
 have h2:(Value.type "zip" == Value.type "list")=false:=by decide
 have h3:(Value.type "zip" == Value.type "tuple")=false:=by decide
 simp only[h1,h2,h3,yDq,yAv,if_false];refine wB (yu hz ?_);refine wB (zu ?_);unfold Builtin.List.listLengthHint;refine wB (kq hT aLK ?_);show qy _ A.in1 (specialOf (Value.ref z) (Str.ofString "__length_hint__") >>= _) _ _ _;refine wB (kq hT aLA ?_);refine wP ?_;show qy _ A.in1 (rule "list.extend.makes-room" >>= λ _=>Builtin.List.listTouch (.ref S) >>= λ _ =>
  again (.builtin "list.extend.loop" ⟨[.ref S,.ref z,res],[]⟩)) _ _ _
 refine wB (vx ?_);refine wB ?_;show qy _ A.in1 (updateSeq S (·.push .none) >>= λ _=>updateSeq S (·.pop)) _ _ _
 refine wB (vk hS rfl ?_);have hS₂:=yCk (Obj.mapSeq (·.push Value.none)) hS rfl;refine vk (hz:=by seq_fits) hS₂ rfl ?_
 have hS₃:=yCk (Obj.mapSeq (·.pop)) hS₂ rfl;have oth:∀ b o,b≠S->s.heap.get? b=qq o->((s.heap.update S (Obj.mapSeq (·.push Value.none))).update S (Obj.mapSeq (·.pop))).get? b=qq o:=
  λ b o hb e=>(yBt _ _ (Ne.symm hb)).trans ((yBt _ _ (Ne.symm hb)).trans e)
 exact wP ⟨plainId_quiet yDh _,hR _ _ oth hS₃⟩
theorem aOc(S:qv)(hz:xu s.heap z TI TO f0)(hSz:S≠z)(hS:s.heap.get? S=qq {cls:=.type "list",data:=.seq #[] })
 (hR:∀ h' c,(∀ b o,b≠S->s.heap.get? b=qq o->h'.get? b=qq o)->h'.get? S=qq {cls:=.type "list",data:=.seq #[] c }->vw (model prog w) A (.builtin "list.extend.loop" ⟨[.ref S,.ref z,.none],[]⟩) R {s with heap:=h' }) :
 qy (model prog w) A.in1 (Builtin.«list.__init__» ⟨[.ref S,.ref z],[]⟩)
  (λ bT s'=>match bT with | .done f=>R (.ok f) s' | .again c'=>c'.quiet=true/\vw (model prog w) A c' R s') (λ e s'=>R (.error e) s') s:=by
 show qy _ A.in1 (yHe (.ref S) >>= λ old=>Builtin.List.listUpdate (.ref S) (λ _=>#[]) >>= λ _=>letGo old.toList.reverse >>= λ _=>yCy (.ref S) (.ref z) .none) _ _ s
 refine wB ?_;unfold yHe;refine wB (zx hS rfl (wP ?_));show qy _ A.in1 (updateSeq S (λ _=>#[]) >>= λ _=>letGo (#[]:Array qx).toList.reverse >>= λ _=>yCy (.ref S) (.ref z) .none) _ _ s
 have hS2:=yCk (Obj.mapSeq (λ _=>(#[]:Array qx))) hS rfl
 have oth:∀ b o,b≠S->s.heap.get? b=qq o->(s.heap.update S (Obj.mapSeq (λ _=>(#[]:Array qx)))).get? b=qq o:=λ b o hb e=>(yBt _ _ (Ne.symm hb)).trans e
 refine wB (vk hS rfl (wB (jy ?_)));exact aLG S .none _ (oth _ _ (Ne.symm hSz) hz) hSz hS2 λ h' c hk hS'=>hR h' c (λ b o hb e=>hk b o hb (oth b o hb e)) hS'
end
section
variable {prog : qo}{w : zw}{A : zy}{E : qx -> qj -> Prop}{s : qj}{z TI TO : qv}{f0 : qx}
theorem aLe{Q:qx->qj->Prop}(hz:xu s.heap z TI TO f0)
 (hQ:∀ h' c (R:Result->qj->Prop),(∀ b o,s.heap.get? b=qq o->h'.get? b=qq o)->h'.get? s.heap.objs.size=qq {cls:=.type "list",data:=.seq #[] c }->(∀ s',Q (.ref s.heap.objs.size) s'->R (.ok (.ret .none)) s')->vw (model prog w) A.in1 (.builtin "list.extend.loop" ⟨[.ref s.heap.objs.size,.ref z,.none],[]⟩) R {s with heap:=h' }) :
 qy (model prog w) A (call (.type "list") [.ref z]) Q E s:=by
 have hSz:s.heap.objs.size≠z:=yEv (xAa hz);have hS:(s.heap.push {cls:=.type "list",data:=.seq #[] }).get? s.heap.objs.size=qq {cls:=.type "list",data:=.seq #[] }:=xAe _ rfl;refine callType_codes (Q₁:=λ ob s1=>ob=.ref s.heap.objs.size/\s1={s with heap:=s.heap.push {cls:=.type "list",data:=.seq #[] } }) PySem.F.called_list (PySem.F.typeCall_list_1 _) PySem.F.entry_list_init (code_list_new _ ⟨rfl,rfl⟩) λ ob s1 h1=>?_
 obtain⟨rfl,rfl⟩:=h1;refine⟨⟨_,hS,rfl⟩,PySem.F.args_list_init_2 _ _,aOc _ (hpS _ hz) hSz hS λ h' c hk hS'=>?_⟩
 exact hQ h' c _ (λ b o e=>hk b o (xAk (xAa e)) (hpS _ e)) hS' λ s' q=>⟨rfl,q⟩
end
noncomputable def rX(fa fb:FE):FL:=oR (aA6 fa fb)
section
variable {X : Cx}
theorem aRf{a b:qw}{fa fb:FE}{p p2 pos pos2:Pos}(ha:PE X a (aV X.K fa))(hb:PE X b (aV X.K fb))(hc:X.calm=true)(hg:Gl X "list")(hm:X.mg "list" = qz)(hg2:Gl X "zip")(hm2:X.mg "zip" = qz)
 (hs:zq [a,b] X.env=(false,eval a X.env)::zq [b] X.env) (hs2:zq [b] X.env=[(false,eval b X.env)]):PE X (.Call (.Name "list" p) [.Call (.Name "zip" p2) [a,b] [] pos2] [] pos) (iA X.K (rX fa fb)):=by
 rintro aB s σ H Q I ⟨F,L,S,env,ds,S',R,E,e,q⟩;obtain⟨⟨ds',S1'⟩,e0,e⟩:=bind_some e;obtain⟨⟨w1,S1⟩,e1,e2⟩:=bind_some e0;obtain⟨⟨w2,S2⟩,e3,e4⟩:=bind_some e2;obtain⟨ds1,e5,e6⟩:=bind_some e4;obtain⟨ds2,e7,e8⟩:=bind_some e6;dsimp only at e e3 e5 e7;cases e8
 split at e
 ·rename_i cH;cases e;refine xj (lB I hg hm (show xo "list" = qq (.type "list") by decide +kernel) ?_)
  refine yBe ?_ rfl rfl;show qy _ _ (spliced ((false,eval (.Call (.Name "zip" p2) [a,b] [] pos2) X.env)::[])) _ _ s;refine Calls.spliced_cons ?_;refine xj (lB I hg2 hm2 boot_zip ?_);refine yBe ?_ hs (by rw[hs2];rfl)
  refine bD (mI ha (mI hb aAR hs2) hs pos2 aB s σ H (λ vs H1=>∃ v v2 F1 L1,vs=[v,v2]/\Gr F L F1 L1/\Rel X.K F1 L1 S2 H1/\eH X.K F1 L1 w1 v/\eH X.K F1 L1 w2 v2) I ⟨F,L,S,env,[w1,w2],_,R,E,by unfold eO;rw[e1];dsimp only[yCx];rw[e3];rfl,λ F1 L1 H1 vs g1 R1 d1=>by
   cases d1 with
   | cons d0 dr =>
     cases dr with
     | cons d2 dr=>cases dr;exact⟨_,_,F1,L1,rfl,g1,R1,d0,d2⟩⟩) λ us s1 ⟨vs,H1,I1,r1,v,v2,F1,L1,ev,g1,R1,d1,d2⟩=>?_
  subst ev;obtain⟨u1,u2,rfl,ru1,ru2⟩:=aAH r1;obtain⟨t,l1,xs,rfl,sq1,dl1⟩:=tQ e5 d1;obtain⟨u,l2,ys,rfl,sq2,dl2⟩:=tQ e7 d2;cases ru1;cases ru2;obtain⟨gB,rv1,pl1⟩:=gP I1 (fH R1.sub sq1);obtain⟨eJ,rv2,pl2⟩:=gP I1 (fH R1.sub sq2);have a1:=pl1.lt;have a2:=pl2.lt;refine aMF pl1 pl2 λ h' hz cB cM hi1 hi2 hsz hk=>?_
  refine Calls.spliced_nil ?_;have I2:Inv X aB σ H1 {s1 with heap:=h' }:=I1.kept (t':=s1.toks) hk
  have hb':∀ b∈[s1.heap.objs.size+4,s1.heap.objs.size+2,s1.heap.objs.size+3,s1.heap.objs.size,s1.heap.objs.size+1],s1.heap.objs.size<=b/\b<s1.heap.objs.size+5:=λ b hb=>by
   simp only[yCs,yCo,or_false] at hb;omega
  have Z:=aSm (n:=s1.heap.objs.size) (a:=l1) (b:=l2) a1 a2;refine aLe hz λ h2 c R2 hk2 hS hR2=>?_
  dsimp only at hk2 hS hR2 ⊢;have fr:H1 h'.objs.size=qz:=I2.hok.fresh (yAc _);have I3:Inv X aB σ (bE H1 h'.objs.size (.lst [])) {s1 with heap:=h2 }:=I2.laid (t':=s1.toks) hk2 (yAc _) ⟨yGa _,[],c,.nil,hS⟩
  have nS:h'.objs.size ∉ L1:=R1.notin fr;have fpk:∀ b∈[s1.heap.objs.size+4,s1.heap.objs.size+2,s1.heap.objs.size+3,s1.heap.objs.size,s1.heap.objs.size+1],gH X aB (bE H1 h'.objs.size (.lst [])) b:=λ b hb=>by
   have f:=I1.fpOk (hb' b hb).1 (I1.hok.fresh (hb' b hb).1);exact⟨by rw[bP (by rw[hsz];exact xAk (hb' b hb).2)];exact f.1,f.2⟩
  refine aNO (X:=X) (A:=X.A.in1) (aB:=aB) (σ:=σ) (F1:=F1) (L1:=L1) (S1:=S2) (ds1:=ds1) (ds2:=ds2) (show X.A.in1.in1.in1.handled=qz from I.ok.hd hc) Z (xAk a1) (xAk (yEh a2)) sq1 dl1 sq2 dl2 nS cH (λ s' H' F' vs' hw=>hR2 s' ?_) _ 0 _ (bE H1 h'.objs.size (.lst [])) F1 [] rfl (yGa _)
   ⟨I3,bZ.refl _,R1.lay fr,R1.sub.free fr,dE,.nil,fpk⟩ ⟨hk2 _ _ cB,hi1.at λ o e=>hk2 _ _ e,hi2.at λ o e=>hk2 _ _ e,⟨_,hk2 _ _ cM⟩,.inl ⟨hk2 _ _ hz,_,_,hk2 _ _ cM⟩⟩
  exact⟨.ref h'.objs.size,H',hw.inv,rfl,q F' L1 H' _ vs' (g1.trans ⟨hw.same,[],by simp⟩) hw.rel hw.free nS hw.lst hw.den⟩
 ·cases e
end
section
variable {prog : qo}{w : zw}{A : zy}{E : qx -> qj -> Prop}{s : qj}
end
section
variable {X : Cx}{tg : qw}
end
section
variable {X : Cx}
end
noncomputable def jI(fa:FE)(fl fh:FO):FE:=λ env S=>(fa env S).bind λ p=>(fl env p.2).bind λ q=>(fh env q.2).bind λ r=>(dr r.2 p.1).bind λ d=>match d with
 | .list xs=>qq (.d (.list (eB xs q.1 r.1)),r.2)
 | .tuple xs=>qq (.d (.tuple (eB xs q.1 r.1)),r.2)
 | _=>qz
noncomputable def fG(fa:FE):FL:=λ env S=>(fa env S).bind λ p=>match p.1 with
 | .d (.list ds)=>qq (ds,p.2)
 | .d (.tuple ds)=>qq (ds,p.2)
 | _=>qz
section
variable {X : Cx}{pos : Pos}
theorem aVn{a:qw}{lo hi:Option qw}{p2:Pos}{fa:FE}{fl fh:FO}(ha:PE X a (aV X.K fa))(hl:PO X lo (lK X.K fl))(hh:PO X hi (lK X.K fh)):PE X (.Subscript a (.Slice lo hi qz p2) pos) (aV X.K (jI fa fl fh)):=by
 rintro aB s σ H Q I ⟨F,L,S,env,w,S',R,E,e,q⟩;obtain⟨⟨w1,S1⟩,e1,e⟩:=bind_some e;obtain⟨⟨l,S2⟩,e2,e⟩:=bind_some e;obtain⟨⟨h,S3⟩,e3,e⟩:=bind_some e;obtain⟨d,e4,e⟩:=bind_some e;dsimp only at e e2 e3 e4;cases d with
 | list xs =>
   cases e;refine aJP (aTh ha hl hh) aB s σ H Q I ⟨F,L,S,env,_,_,R,E,?_,q⟩;unfold cP aKv;rw[e1];dsimp only[yCx];rw[e2];dsimp only;rw[e3];dsimp only;rw[e4];rfl
 | tuple xs =>
   cases e;refine aQ7 ha hl hh aB s σ H Q I ⟨F,L,S,env,_,_,R,E,?_,q⟩;unfold aIS;rw[e1];dsimp only[yCx];rw[e2];dsimp only;rw[e3];dsimp only;rw[e4];dsimp only[aKp]
 | _=>cases e
theorem aVO{tg a:qw}{fa:FE}(ha:PE X a (aV X.K fa)):PI X tg a (kG X.K (fG fa)):=by
 rintro aB s σ H Rr I ⟨F,L,S,env,ds,S',R,E,e,q⟩;obtain⟨⟨w1,S1⟩,e1,e⟩:=bind_some e;dsimp only at e
 split at e
 ·rename_i ds';cases e;refine aTG ha aB s σ H Rr I ⟨F,L,S,env,_,_,R,E,?_,q⟩;unfold aJW;rw[e1];rfl
 ·cases e;refine aVe ha aB s σ H Rr I ⟨F,L,S,env,_,_,R,E,?_,q⟩;unfold aJO;rw[e1];rfl
 ·cases e
end
inductive Ty where
 | int | bool | str | lst | tup
 deriving DecidableEq
noncomputable def Ty.s:Ty->String
 | .int => "int" | .bool => "bool" | .str => "str" | .lst => "list" | .tup => "tuple"
noncomputable def Ty.n:Ty->Str
 | .int => "int" | .bool => "bool" | .str => "str" | .lst => "list" | .tup => "tuple"
noncomputable def fQ:Ty->D->Option D
 | _,.dict _=>qz
 | .int,.int _=>qq (.bool true)
 | .int,.bool _=>qq (.bool true)
 | .bool,.bool _=>qq (.bool true)
 | .str,.str _=>qq (.bool true)
 | .lst,.list _=>qq (.bool true)
 | .tup,.tuple _=>qq (.bool true)
 | _,_=>qq (.bool false)
theorem aU4{i:Int}:fQ .int (.int i)=qq (.bool true):=rfl
theorem aUQ{i:Int}:fQ .bool (.int i)=qq (.bool false):=rfl
theorem aSZ{xs:List D}:fQ .tup (.tuple xs)=qq (.bool true):=rfl
theorem aSN{b:Bool}:fQ .bool (.bool b)=qq (.bool true):=rfl
theorem aVg{b:Bool}:fQ .int (.bool b)=qq (.bool true):=rfl
theorem aSE(K:FrG){ty:Ty}{d z:D}(h:fQ ty d=qq z):wA K ty.s d=qq z:=by
 cases ty<;>cases d<;>first | (cases h;done) | (cases h;rfl)
inductive B where
 | len | mx | mn | int | abs | tup | sum | all | any
 deriving DecidableEq
noncomputable def B.g:B->List D->Option D
 | .len=>dQ | .mx=>jV | .mn=>mX | .int=>qK | .abs=>aDD | .tup=>vI | .sum=>aDE | .all=>wM | .any=>sL
noncomputable def B.n:B->Str
 | .len => "len" | .mx => "max" | .mn => "min" | .int => "int" | .abs => "abs" | .tup => "tuple" | .sum => "sum" | .all => "all" | .any => "any"
inductive E where
 | var (i:Nat) | int (i:Int) | bl (b:Bool) | non | str (x:Str)
 | bin (op:jo) (a b:E) | un (op:yz) (a:E) | cmp (op:vj) (a b:E) | ltl (a b:E)
 | and (a b:E) | or (a b:E) | not (a:E) | ite (c a b:E)
 | tup (es:E) | lst (es:E) | nil | cons (a r:E)
 | chn (op op':vj) (a b c:E) | con (x:Str) (ts:List Tv)
 | ix (a b:E) | dsp (k l m:Str) (a b c i:E) | tab (x:Str) (aW:List (Str×Tv)) (k:E) | slL (a lo hi:E) | sl (a lo hi:E) | no
 | call (f:Nat) (es:E) | blt (b:B) (es:E) | isi (a:E) (n:Ty) | bits (a:E) | app (o a:E) | pop (o a:E) | idx (o a:E)
 | lof (a:E) | lzip (a b:E) | lrg1 (a:E) | lrg2 (a b:E) | srt (a:E) | lrev (a:E) | lrep (a b:E) | comp (elt:E) (t:Tg) (it:E) (cond:E)
 | it (a:E) | rng1 (a:E) | rng2 (a b:E) | rng3 (a b c:E) | rrng (a:E) | enm (a:E) | zip (a b:E) | zip3 (a b c:E)
 | fz (a:E) | new (a:E)
abbrev Calls:=Nat->Option (Nat×(List W->aC->Option (W×aC)))
noncomputable def kU(C:Calls)(f:Nat)(fs:FA):FE:=λ env S=>match C f with
 | some (np,call)=>aAG fs np call env S
 | none=>qz
section
variable (C : Calls)
mutual
noncomputable def ev:E->FE
 | .var i=>hJ i
 | .int i=>fC (.int i)
 | .bl b=>fC (.bool b)
 | .non=>fC .none
 | .str x=>fC (.str x)
 | .bin op a b=>qD op (ev a) (ev b)
 | .un op a=>xK op (ev a)
 | .cmp op a b=>mY op (ev a) (ev b)
 | .and a b=>vO (ev a) (ev b)
 | .or a b=>wH (ev a) (ev b)
 | .not a=>vT (ev a)
 | .ite c a b=>wU (tv c) (ev a) (ev b)
 | .tup es=>wD (av es)
 | .ix a b=>nJ (ev a) (ev b)
 | .tab _ aW k=>f1 (ev k) (fZ (aA3 aW))
 | .con _ ts=>fC (.tuple (ts.map Tv.d))
 | .sl a lo hi=>jI (ev a) (ov lo) (ov hi)
 | .call f es=>kU C f (av es)
 | .blt b es=>qE (av es) b.g
 | .isi a n=>f1 (ev a) (fZ (fQ n))
 | .bits a=>aDd (ev a)
 | .app o a=>jZ (ev o) (ev a)
 | .fz a=>cP (lv a)
 | .new a=>iO (lv a)
 | _=>λ _ _=>qz
noncomputable def tv:E->FT
 | .and a b=>wL (tv a) (tv b)
 | .or a b=>xC (tv a) (tv b)
 | .not a=>wI (tv a)
 | .var i=>dA (hJ i)
 | .cmp op a b=>dA (mY op (ev a) (ev b))
 | .ix a b=>dA (nJ (ev a) (ev b))
 | .call f es=>dA (kU C f (av es))
 | .blt b es=>dA (qE (av es) b.g)
 | .isi a n=>dA (f1 (ev a) (fZ (fQ n)))
 | .bin op a b=>dA (qD op (ev a) (ev b))
 | .bl b=>dA (fC (.bool b))
 | .no=>nB
 | _=>λ _ _=>qz
noncomputable def av:E->FA
 | .nil=>jY
 | .cons a r=>eO (ev a) (av r)
 | _=>λ _ _=>qz
noncomputable def ov:E->FO
 | .no=>xB
 | .cons a .nil=>mO (ev a)
 | _=>λ _ _=>qz
noncomputable def lv:E->FL
 | .lst es=>wK (av es)
 | .lzip a b=>rX (ev a) (ev b)
 | .lrg1 a=>oR (lI (ev a))
 | .lrep a b=>vX (ev a) (ev b)
 | .comp elt t it cond=>iI t (lv it) (tv cond) (ev elt)
 | .it a=>fG (ev a)
 | .rng1 a=>lI (ev a)
 | .rng3 a b c=>aAL (ev a) (ev b) (ev c)
 | .zip3 a b c=>aAS (ev a) (ev b) (ev c)
 | _=>λ _ _=>qz
end
inductive Sx where
 | skip | seq (a b:Sx) | expr (e:E) | ret (e:E)
 | ifs (c:E) (a b:Sx) | set (i:Nat) (e:E) | setC (nw:Bool) (i:Nat) (e:E) | setT (t:Tg) (e:E) | put (o i e:E)
 | loop (t:Tg) (it:E) (b:Sx)
noncomputable def xs:Sx->FS
 | .skip=>qA
 | .seq a b=>dI (xs a) (xs b)
 | .expr e=>vS (ev C e)
 | .ret e=>mW (ev C e)
 | .ifs c a b=>oZ (tv C c) (xs a) (xs b)
 | .set i e=>iP i (ev C e)
 | .setC nw i e=>iP i (match nw with | true=>iO (lv C e) | false=>cP (lv C e))
 | .setT t e=>aAN t (ev C e)
 | .put o i e=>lQ (ev C o) (ev C i) (ev C e)
 | .loop t it b=>dC t (lv C it) (xs b)
theorem uZ{i}:ev C (.var i)=hJ i:=rfl
theorem aQ4{i}:ev C (.int i)=fC (.int i):=rfl
theorem aUH{b}:ev C (.bl b)=fC (.bool b):=rfl
theorem aRa:ev C .non=fC .none:=rfl
theorem aRj{x}:ev C (.str x)=fC (.str x):=rfl
theorem aH4{op a b}:ev C (.bin op a b)=qD op (ev C a) (ev C b):=rfl
theorem aI1{op a}:ev C (.un op a)=xK op (ev C a):=rfl
theorem aC4{op a b}:ev C (.cmp op a b)=mY op (ev C a) (ev C b):=rfl
theorem aIG{a b}:ev C (.and a b)=vO (ev C a) (ev C b):=rfl
theorem aJJ{a b}:ev C (.or a b)=wH (ev C a) (ev C b):=rfl
theorem aHY{a}:ev C (.not a)=vT (ev C a):=rfl
theorem aH5{c a b}:ev C (.ite c a b)=wU (tv C c) (ev C a) (ev C b):=rfl
theorem aIF{es}:ev C (.tup es)=wD (av C es):=rfl
theorem aAO{a b}:ev C (.ix a b)=nJ (ev C a) (ev C b):=rfl
theorem aQl{n0 aW k}:ev C (.tab n0 aW k)=f1 (ev C k) (fZ (aA3 aW)):=rfl
theorem aR3{n0 ts}:ev C (.con n0 ts)=fC (.tuple (ts.map Tv.d)):=rfl
theorem aC6{a lo hi}:ev C (.sl a lo hi)=jI (ev C a) (ov C lo) (ov C hi):=rfl
theorem aCx{f es}:ev C (.call f es)=kU C f (av C es):=rfl
theorem aHW{b es}:ev C (.blt b es)=qE (av C es) b.g:=rfl
theorem aIj{a n}:ev C (.isi a n)=f1 (ev C a) (fZ (fQ n)):=rfl
theorem aON{a}:ev C (.bits a)=aDd (ev C a):=rfl
theorem aIx{o a}:ev C (.app o a)=jZ (ev C o) (ev C a):=rfl
theorem aC7{a}:ev C (.fz a)=cP (lv C a):=rfl
theorem aCP{a}:ev C (.new a)=iO (lv C a):=rfl
theorem aH8{a b}:tv C (.and a b)=wL (tv C a) (tv C b):=rfl
theorem aJb{a b}:tv C (.or a b)=xC (tv C a) (tv C b):=rfl
theorem aIO{a}:tv C (.not a)=wI (tv C a):=rfl
theorem aR8{i}:tv C (.var i)=dA (hJ i):=rfl
theorem aIA{op a b}:tv C (.cmp op a b)=dA (mY op (ev C a) (ev C b)):=rfl
theorem aTW{a b}:tv C (.ix a b)=dA (nJ (ev C a) (ev C b)):=rfl
theorem aPM{f es}:tv C (.call f es)=dA (kU C f (av C es)):=rfl
theorem aSb{b es}:tv C (.blt b es)=dA (qE (av C es) b.g):=rfl
theorem aSv{a n}:tv C (.isi a n)=dA (f1 (ev C a) (fZ (fQ n))):=rfl
theorem aQP{op a b}:tv C (.bin op a b)=dA (qD op (ev C a) (ev C b)):=rfl
theorem aTw{b}:tv C (.bl b)=dA (fC (.bool b)):=rfl
theorem aT6:tv C .no=nB:=rfl
theorem aH1:av C .nil=jY:=rfl
theorem aCH{a r}:av C (.cons a r)=eO (ev C a) (av C r):=rfl
theorem aTz:ov C .no=xB:=rfl
theorem aHv{a}:ov C (.cons a .nil)=mO (ev C a):=rfl
theorem aIa{es}:lv C (.lst es)=wK (av C es):=rfl
theorem aP5{a b}:lv C (.lzip a b)=rX (ev C a) (ev C b):=rfl
theorem uM{a b c}:lv C (.rng3 a b c)=aAL (ev C a) (ev C b) (ev C c):=rfl
theorem aHb{a}:lv C (.lrg1 a)=oR (lI (ev C a)):=rfl
theorem aHt{a b}:lv C (.lrep a b)=vX (ev C a) (ev C b):=rfl
theorem aOh{elt t it cond}:lv C (.comp elt t it cond)=iI t (lv C it) (tv C cond) (ev C elt):=rfl
theorem vN{a}:lv C (.it a)=fG (ev C a):=rfl
theorem rH{a}:lv C (.rng1 a)=lI (ev C a):=rfl
theorem uJ{a b c}:lv C (.zip3 a b c)=aAS (ev C a) (ev C b) (ev C c):=rfl
theorem aCJ:xs C .skip=qA:=rfl
theorem iV{a b}:xs C (.seq a b)=dI (xs C a) (xs C b):=rfl
theorem aHe{e}:xs C (.expr e)=vS (ev C e):=rfl
theorem aAp{e}:xs C (.ret e)=mW (ev C e):=rfl
theorem vE{c a b}:xs C (.ifs c a b)=oZ (tv C c) (xs C a) (xs C b):=rfl
theorem aAl{i e}:xs C (.set i e)=iP i (ev C e):=rfl
theorem aCo{nw i e}:xs C (.setC nw i e)=iP i (match nw with | true=>iO (lv C e) | false=>cP (lv C e)):=rfl
theorem aOE{t e}:xs C (.setT t e)=aAN t (ev C e):=rfl
theorem aIP{o i e}:xs C (.put o i e)=lQ (ev C o) (ev C i) (ev C e):=rfl
theorem zX{t it b}:xs C (.loop t it b)=dC t (lv C it) (xs C b):=rfl
end
theorem no{P:Prop}(h:false=true):P:=by cases h
theorem gQ{a b:Bool}(h:(a&&b)=true):a=true/\b=true:=by
 cases a with
 | false=>exact no h
 | true=>exact⟨rfl,h⟩
theorem aL{a b:Bool}(h:(a&&b)=true):a=true:=(gQ h).1
theorem aR{a b:Bool}(h:(a&&b)=true):b=true:=(gQ h).2
theorem fF{c:Prop}{d:Decidable c}{f:c->Bool}(h:(@dite _ c d f λ _=>false)=true):c:=by
 cases d with
 | isTrue k=>exact k
 | isFalse _=>exact no h
noncomputable def iQ(k:Str->Pos->Bool)(x:qw):Bool:=if h:x.ctorIdx=23 then @Expr.Name.elim (λ _=>Bool) x h k else false
theorem nC{P:qw->Prop}{k:Str->Pos->Bool}{x:qw}(h:iQ k x=true)(g:∀ a b,k a b=true->P (.Name a b)):P x:=@Expr.Name.elim (λ e=>iQ k e=true->P e) x (fF h) g h
noncomputable def kCo(k:Const->Nat->Pos->Bool)(x:qw):Bool:=if h:x.ctorIdx=19 then @Expr.Constant.elim (λ _=>Bool) x h k else false
theorem aVF{P:qw->Prop}{k:Const->Nat->Pos->Bool}{x:qw}(h:kCo k x=true)(g:∀ a b c,k a b c=true->P (.Constant a b c)):P x:=@Expr.Constant.elim (λ e=>kCo k e=true->P e) x (fF h) g h
noncomputable def xH(k:qw->jo->qw->Pos->Bool)(x:qw):Bool:=if h:x.ctorIdx=2 then @Expr.BinOp.elim (λ _=>Bool) x h k else false
theorem aKk{P:qw->Prop}{k:qw->jo->qw->Pos->Bool}{x:qw}(h:xH k x=true)(g:∀ a b c d,k a b c d=true->P (.BinOp a b c d)):P x:=@Expr.BinOp.elim (λ e=>xH k e=true->P e) x (fF h) g h
noncomputable def wY(k:yz->qw->Pos->Bool)(x:qw):Bool:=if h:x.ctorIdx=3 then @Expr.UnaryOp.elim (λ _=>Bool) x h k else false
theorem aDx{P:qw->Prop}{k:yz->qw->Pos->Bool}{x:qw}(h:wY k x=true)(g:∀ a b c,k a b c=true->P (.UnaryOp a b c)):P x:=@Expr.UnaryOp.elim (λ e=>wY k e=true->P e) x (fF h) g h
noncomputable def kCm(k:qw->List vj->List qw->Pos->Bool)(x:qw):Bool:=if h:x.ctorIdx=15 then @Expr.Compare.elim (λ _=>Bool) x h k else false
theorem aV3{P:qw->Prop}{k:qw->List vj->List qw->Pos->Bool}{x:qw}(h:kCm k x=true)(g:∀ a b c d,k a b c d=true->P (.Compare a b c d)):P x:=@Expr.Compare.elim (λ e=>kCm k e=true->P e) x (fF h) g h
noncomputable def kBo(k:BoolOp->List qw->Pos->Bool)(x:qw):Bool:=if h:x.ctorIdx=0 then @Expr.BoolOp.elim (λ _=>Bool) x h k else false
theorem aV7{P:qw->Prop}{k:BoolOp->List qw->Pos->Bool}{x:qw}(h:kBo k x=true)(g:∀ a b c,k a b c=true->P (.BoolOp a b c)):P x:=@Expr.BoolOp.elim (λ e=>kBo k e=true->P e) x (fF h) g h
noncomputable def kIe(k:qw->qw->qw->Pos->Bool)(x:qw):Bool:=if h:x.ctorIdx=5 then @Expr.IfExp.elim (λ _=>Bool) x h k else false
theorem aWj{P:qw->Prop}{k:qw->qw->qw->Pos->Bool}{x:qw}(h:kIe k x=true)(g:∀ a b c d,k a b c d=true->P (.IfExp a b c d)):P x:=@Expr.IfExp.elim (λ e=>kIe k e=true->P e) x (fF h) g h
noncomputable def xA(k:List qw->Nat->Pos->Bool)(x:qw):Bool:=if h:x.ctorIdx=25 then @Expr.Tuple.elim (λ _=>Bool) x h k else false
theorem aA0{P:qw->Prop}{k:List qw->Nat->Pos->Bool}{x:qw}(h:xA k x=true)(g:∀ a b c,k a b c=true->P (.Tuple a b c)):P x:=@Expr.Tuple.elim (λ e=>xA k e=true->P e) x (fF h) g h
noncomputable def kLi(k:List qw->Pos->Bool)(x:qw):Bool:=if h:x.ctorIdx=24 then @Expr.List.elim (λ _=>Bool) x h k else false
theorem aVW{P:qw->Prop}{k:List qw->Pos->Bool}{x:qw}(h:kLi k x=true)(g:∀ a b,k a b=true->P (.List a b)):P x:=@Expr.List.elim (λ e=>kLi k e=true->P e) x (fF h) g h
noncomputable def kSu(k:qw->qw->Pos->Bool)(x:qw):Bool:=if h:x.ctorIdx=21 then @Expr.Subscript.elim (λ _=>Bool) x h k else false
theorem aJ5{P:qw->Prop}{k:qw->qw->Pos->Bool}{x:qw}(h:kSu k x=true)(g:∀ a b c,k a b c=true->P (.Subscript a b c)):P x:=@Expr.Subscript.elim (λ e=>kSu k e=true->P e) x (fF h) g h
noncomputable def kSl(k:Option qw->Option qw->Option qw->Pos->Bool)(x:qw):Bool:=if h:x.ctorIdx=26 then @Expr.Slice.elim (λ _=>Bool) x h k else false
theorem aWd{P:qw->Prop}{k:Option qw->Option qw->Option qw->Pos->Bool}{x:qw}(h:kSl k x=true)(g:∀ a b c d,k a b c d=true->P (.Slice a b c d)):P x:=@Expr.Slice.elim (λ e=>kSl k e=true->P e) x (fF h) g h
noncomputable def kCa(k:qw->List qw->List Keyword->Pos->Bool)(x:qw):Bool:=if h:x.ctorIdx=16 then @Expr.Call.elim (λ _=>Bool) x h k else false
theorem aKt{P:qw->Prop}{k:qw->List qw->List Keyword->Pos->Bool}{x:qw}(h:kCa k x=true)(g:∀ a b c d,k a b c d=true->P (.Call a b c d)):P x:=@Expr.Call.elim (λ e=>kCa k e=true->P e) x (fF h) g h
noncomputable def kAt(k:qw->Str->Pos->Bool)(x:qw):Bool:=if h:x.ctorIdx=20 then @Expr.Attribute.elim (λ _=>Bool) x h k else false
theorem aWg{P:qw->Prop}{k:qw->Str->Pos->Bool}{x:qw}(h:kAt k x=true)(g:∀ a b c,k a b c=true->P (.Attribute a b c)):P x:=@Expr.Attribute.elim (λ e=>kAt k e=true->P e) x (fF h) g h
noncomputable def kLc(k:qw->List Comprehension->zk->Pos->Bool)(x:qw):Bool:=if h:x.ctorIdx=8 then @Expr.ListComp.elim (λ _=>Bool) x h k else false
theorem aWa{P:qw->Prop}{k:qw->List Comprehension->zk->Pos->Bool}{x:qw}(h:kLc k x=true)(g:∀ a b c d,k a b c d=true->P (.ListComp a b c d)):P x:=@Expr.ListComp.elim (λ e=>kLc k e=true->P e) x (fF h) g h
noncomputable def kEx(k:qw->Pos->Bool)(x:jz):Bool:=if h:x.ctorIdx=24 then @Stmt.Expr.elim (λ _=>Bool) x h k else false
theorem aWp{P:jz->Prop}{k:qw->Pos->Bool}{x:jz}(h:kEx k x=true)(g:∀ a b,k a b=true->P (.Expr a b)):P x:=@Stmt.Expr.elim (λ e=>kEx k e=true->P e) x (fF h) g h
noncomputable def kRe(k:Option qw->Pos->Bool)(x:jz):Bool:=if h:x.ctorIdx=3 then @Stmt.Return.elim (λ _=>Bool) x h k else false
theorem aV0{P:jz->Prop}{k:Option qw->Pos->Bool}{x:jz}(h:kRe k x=true)(g:∀ a b,k a b=true->P (.Return a b)):P x:=@Stmt.Return.elim (λ e=>kRe k e=true->P e) x (fF h) g h
noncomputable def kSf(k:qw->List jz->List jz->Pos->Bool)(x:jz):Bool:=if h:x.ctorIdx=12 then @Stmt.If.elim (λ _=>Bool) x h k else false
theorem aVJ{P:jz->Prop}{k:qw->List jz->List jz->Pos->Bool}{x:jz}(h:kSf k x=true)(g:∀ a b c d,k a b c d=true->P (.If a b c d)):P x:=@Stmt.If.elim (λ e=>kSf k e=true->P e) x (fF h) g h
noncomputable def sV(k:List qw->qw->Pos->Bool)(x:jz):Bool:=if h:x.ctorIdx=5 then @Stmt.Assign.elim (λ _=>Bool) x h k else false
theorem aA4{P:jz->Prop}{k:List qw->qw->Pos->Bool}{x:jz}(h:sV k x=true)(g:∀ a b c,k a b c=true->P (.Assign a b c)):P x:=@Stmt.Assign.elim (λ e=>sV k e=true->P e) x (fF h) g h
noncomputable def kFo(k:qw->qw->List jz->List jz->Pos->Bool)(x:jz):Bool:=if h:x.ctorIdx=9 then @Stmt.For.elim (λ _=>Bool) x h k else false
theorem aVG{P:jz->Prop}{k:qw->qw->List jz->List jz->Pos->Bool}{x:jz}(h:kFo k x=true)(g:∀ a b c d e,k a b c d e=true->P (.For a b c d e)):P x:=@Stmt.For.elim (λ e=>kFo k e=true->P e) x (fF h) g h
noncomputable def kD{α:Type}(k:α->Bool)(l:List α):Bool:=match l with
 | [a]=>k a
 | _=>false
theorem lG{α:Type}{P:List α->Prop}{k:α->Bool}:∀ {l:List α},kD k l=true->(∀ a,k a=true->P [a])->P l
 | [],h,_=>no h
 | [a],h,g=>g a h
 | _::_::_,h,_=>no h
noncomputable def aDl{α:Type}(k:α->α->Bool)(l:List α):Bool:=match l with
 | a::r=>kD (k a) r
 | []=>false
theorem aJe{α:Type}{P:List α->Prop}{k:α->α->Bool}:∀ {l:List α},aDl k l=true->(∀ a b,k a b=true->P [a,b])->P l
 | [],h,_=>no h
 | a::_,h,g=>lG (P:=λ r=>P (a::r)) h (g a)
noncomputable def aJ4{α:Type}(k:α->α->α->Bool)(l:List α):Bool:=match l with
 | a::r=>aDl (k a) r
 | []=>false
theorem aTe{α:Type}{P:List α->Prop}{k:α->α->α->Bool}:∀ {l:List α},aJ4 k l=true->(∀ a b c,k a b c=true->P [a,b,c])->P l
 | [],h,_=>no h
 | a::_,h,g=>aJe (P:=λ r=>P (a::r)) h (g a)
theorem oJ{α:Type}{P:List α->Prop}:∀ {l:List α},l.isEmpty=true->P []->P l
 | [],_,g=>g
 | _::_,h,_=>no h
noncomputable def aDK{α:Type}(o:Option α):Bool:=match o with
 | none=>true
 | some _=>false
theorem aJc{α:Type}{P:Option α->Prop}:∀ {o:Option α},aDK o=true->P qz->P o
 | none,_,g=>g
 | some _,h,_=>no h
theorem aJl{α:Type}{P:Option α->Prop}{k:α->Bool}:∀ {o:Option α},o.any k=true->(∀ a,k a=true->P (qq a))->P o
 | none,h,_=>no h
 | some a,h,g=>g a h
theorem dT{p:Prop}{d:Decidable p}(h:decide p=true):p:=oqT h
noncomputable def qS(sc:zk)(x:Str):Bool:=match sc.names.lookup x with
 | some .local=>true | some .cell=>true | some .free=>true | _=>false
noncomputable def loc(sc:zk)(x:Str):Bool:=match sc.names.lookup x with
 | some .local=>true | some .cell=>true | _=>false
noncomputable def aJC(e:E):Bool:=decide (e.ctorIdx=E.nil.ctorIdx)
theorem aVp{P:E->Prop}{e:E}(h:aJC e=true)(g:P .nil):P e:=@E.nil.elim P e (dT h) g
noncomputable def lo(sc:zk)(x:Str):Bool:=decide (sc.names.lookup x=qq .local)
noncomputable def gl(sc:zk)(x:Str):Bool:=decide (sc.names.lookup x=qq .globalImplicit)
noncomputable def cR(e:qw):Bool:=![7,22,26].contains e.ctorIdx
noncomputable def lJ(e:qw):Bool:=![0,3,5,15].contains e.ctorIdx
noncomputable def aAd(e:qw):Bool:=![16].contains e.ctorIdx
noncomputable def rO(e:qw):Bool:=![8,9,10].contains e.ctorIdx
noncomputable def aAD(e:qw):Bool:=xA (λ _ _ _=>true) e
noncomputable def rC:List qw->Bool
 | []=>true
 | e::r=>cR e&&rC r
noncomputable def qF(scope osc:zk):zk:={scope with names:=scope.names.map λ(n,k)=>if (k==.free&&osc.kind==.function&&osc.names.lookup n==qq .cell) then (n,.cell) else (n,k) }
noncomputable def aDc(scope osc:zk):Bool:=decide (scope.kind=.function)&&scope.names.all λ x=>(!decide (x.2=.cell))&&(!decide (x.2=.free)||decide (osc.names.lookup x.1=qq .cell)||decide (osc.names.lookup x.1=qq .free))&&(!decide (x.2=.local)||decide (scope.names.lookup x.1=qq .local))
noncomputable def aAZ(N:List Str)(scope:zk)(is:List Nat):Nat->Bool
 | 0=>true
 | n+1=>aAZ N scope is n&&(match N[n]? with
   | some x=>!decide (scope.names.lookup x=qq .local)||is.contains n
   | none=>true)
noncomputable def aCV(b:Bool)(N:List Str)(sc:zk)(i:Nat)(x:Str):Bool:=decide (N[i]? = qq x)&&(match b with
 | true=>decide (sc.names.lookup x=qq .local)
 | false=>loc sc x)
noncomputable def aCj(b:Bool)(N:List Str)(sc:zk):List Nat->List qw->Bool
 | [],es=>es.isEmpty
 | i::is,es=>(match es with
   | e::r=>iQ (λ x _=>aCV b N sc i x&&aCj b N sc is r) e
   | []=>false)
noncomputable def wJ(b:Bool)(N:List Str)(sc:zk)(t:Tg)(e:qw):Bool:=match t with
 | .one i=>iQ (λ x _=>aCV b N sc i x) e
 | .many is=>xA (λ es _ _=>aCj b N sc is es) e
noncomputable def aHo(e:E):Bool:=decide (e.ctorIdx=(E.comp .no (.one 0) .no .no).ctorIdx)
theorem aV1{P:E->Prop}{e:E}(h:aHo e=true)(g:∀ a t b c,P (.comp a t b c)):P e:=@E.comp.elim P e (dT h) g
noncomputable def aDL(e:E):Bool:=decide (e.ctorIdx=E.no.ctorIdx)
theorem aKm{P:E->Prop}{e:E}(h:aDL e=true)(g:P .no):P e:=@E.no.elim P e (dT h) g
noncomputable def sM(c:Const)(e:qw):Bool:=kCo (λ d _ _=>decide (d=c)) e
theorem aAK{P:qw->Prop}{c:Const}{x:qw}(h:sM c x=true)(g:∀ k p,P (.Constant c k p)):P x:=
 aVF h λ _ k p z=>(dT z)▸g k p
noncomputable def aDF(k:qw->vj->qw->Bool)(e:qw):Bool:=kCm (λ x os ys _=>kD (λ o=>kD (λ y=>k x o y&&cR y) ys) os) e
theorem aJB{P:qw->Prop}{k:qw->vj->qw->Bool}{x:qw}(h:aDF k x=true)(g:∀ a o b p,k a o b=true->cR b=true->P (.Compare a [o] [b] p)):P x:=
 aV3 h λ a os _ p z=>lG (P:=λ os=>P (.Compare a os _ p)) z λ o z=>lG (P:=λ ys=>P (.Compare a [o] ys p)) z λ b z=>g a o b p (aL z) (aR z)
noncomputable def vL(op:BoolOp)(k:qw->qw->Bool)(e:qw):Bool:=kBo (λ o es p=>decide (o=op)&&(match es with
 | [x,y]=>k x y
 | x::y::z::r=>k x (.BoolOp op (y::z::r) p)
 | _=>false)) e
theorem aAh{P:qw->Prop}{op:BoolOp}{k:qw->qw->Bool}{x:qw}(h:vL op k x=true)(g:∀ a b p,k a b=true->P (.BoolOp op [a,b] p))(f:∀ a b c r p,k a (.BoolOp op (b::c::r) p)=true->P (.BoolOp op (a::b::c::r) p)):P x:=
 aV7 h λ o es p z=>by
  obtain rfl:=dT (aL z)
  match es,aR z with
  | [a,b],z=>exact g a b p z
  | a::b::c::r,z=>exact f a b c r p z
  | [],z=>exact no z
  | [_],z=>exact no z
noncomputable def wW(k:qw->qw->Bool)(e:qw):Bool:=kSu (λ x y _=>k x y&&cR y) e
theorem aDI{P:qw->Prop}{k:qw->qw->Bool}{x:qw}(h:wW k x=true)(g:∀ a b p,k a b=true->cR b=true->P (.Subscript a b p)):P x:=aJ5 h λ a b p z=>g a b p (aL z) (aR z)
noncomputable def aJK(k:qw->Option qw->Option qw->Bool)(e:qw):Bool:=kSu (λ x s _=>kSl (λ l h t _=>aDK t&&k x l h) s) e
theorem aS3{P:qw->Prop}{k:qw->Option qw->Option qw->Bool}{x:qw}(h:aJK k x=true)(g:∀ a l u p q,k a l u=true->P (.Subscript a (.Slice l u qz p) q)):P x:=
 aJ5 h λ a _ q z=>aWd (P:=λ s=>P (.Subscript a s q)) z λ l u _ p z=>aJc (P:=λ t=>P (.Subscript a (.Slice l u t p) q)) (aL z) (g a l u p q (aR z))
noncomputable def oH(k:Str->List qw->Bool)(e:qw):Bool:=kCa (λ f xs ks _=>iQ (λ n _=>ks.isEmpty&&k n xs) f) e
theorem vF{P:qw->Prop}{k:Str->List qw->Bool}{x:qw}(h:oH k x=true)(g:∀ n p xs q,k n xs=true->P (.Call (.Name n p) xs [] q)):P x:=
 aKt h λ _ xs ks q z=>nC (P:=λ f=>P (.Call f xs ks q)) z λ n p z=>oJ (P:=λ ks=>P (.Call (.Name n p) xs ks q)) (aL z) (g n p xs q (aR z))
noncomputable def xE(nm:Str)(sc:zk)(k:qw->Bool)(e:qw):Bool:=oH (λ n xs=>decide (n=nm)&&gl sc n&&kD (λ y=>k y&&cR y) xs) e
theorem aAX{P:qw->Prop}{nm:Str}{sc:zk}{k:qw->Bool}{x:qw}(h:xE nm sc k x=true)(g:∀ p y q,gl sc nm=true->k y=true->cR y=true->P (.Call (.Name nm p) [y] [] q)):P x:=
 vF h λ n p xs q z=>by
  obtain rfl:=dT (aL (aL z));exact lG (P:=λ xs=>P (.Call (.Name n p) xs [] q)) (aR z) λ y u=>g p y q (aR (aL z)) (aL u) (aR u)
noncomputable def kB2(nm:Str)(sc:zk)(k l:qw->Bool)(e:qw):Bool:=oH (λ n xs=>decide (n=nm)&&gl sc n&&aDl (λ y z=>(k y&&cR y)&&(l z&&cR z)) xs) e
theorem aKr{P:qw->Prop}{nm:Str}{sc:zk}{k l:qw->Bool}{x:qw}(h:kB2 nm sc k l x=true)(g:∀ p y z q,gl sc nm=true->k y=true->cR y=true->l z=true->cR z=true->P (.Call (.Name nm p) [y,z] [] q)):P x:=
 vF h λ n p xs q z=>by
  obtain rfl:=dT (aL (aL z));exact aJe (P:=λ xs=>P (.Call (.Name n p) xs [] q)) (aR z) λ y w u=>g p y w q (aR (aL z)) (aL (aL u)) (aR (aL u)) (aL (aR u)) (aR (aR u))
noncomputable def kB3(nm:Str)(sc:zk)(k l m:qw->Bool)(e:qw):Bool:=oH (λ n xs=>decide (n=nm)&&gl sc n&&aJ4 (λ y z w=>(k y&&cR y)&&((l z&&cR z)&&(m w&&cR w))) xs) e
theorem aJ9{P:qw->Prop}{nm:Str}{sc:zk}{k l m:qw->Bool}{x:qw}(h:kB3 nm sc k l m x=true)(g:∀ p y z w q,gl sc nm=true->k y=true->cR y=true->l z=true->cR z=true->m w=true->cR w=true->P (.Call (.Name nm p) [y,z,w] [] q)):P x:=
 vF h λ n p xs q z=>by
  obtain rfl:=dT (aL (aL z));exact aTe (P:=λ xs=>P (.Call (.Name n p) xs [] q)) (aR z) λ y w v u=>g p y w v q (aR (aL z)) (aL (aL u)) (aR (aL u)) (aL (aL (aR u))) (aR (aL (aR u))) (aL (aR (aR u))) (aR (aR (aR u)))
noncomputable def kMe(nm:Str)(k:qw->List qw->Bool)(e:qw):Bool:=kCa (λ f xs ks cp=>kAt (λ o m ap=>ks.isEmpty&&(ap.endLine==cp.line)&&decide (m=nm)&&aAd o&&k o xs) f) e
theorem aJT{P:qw->Prop}{nm:Str}{k:qw->List qw->Bool}{x:qw}(h:kMe nm k x=true)(g:∀ o ap xs cp,(ap.endLine==cp.line)=true->aAd o=true->k o xs=true->P (.Call (.Attribute o nm ap) xs [] cp)):P x:=
 aKt h λ _ xs ks cp z=>aWg (P:=λ f=>P (.Call f xs ks cp)) z λ o m ap z=>by
  obtain rfl:=dT (aR (aL (aL z)));exact oJ (P:=λ ks=>P (.Call (.Attribute o m ap) xs ks cp)) (aL (aL (aL (aL z)))) (g o ap xs cp (aR (aL (aL (aL z)))) (aR (aL z)) (aR z))
noncomputable def aJY(nm:Str)(k l:qw->Bool)(e:qw):Bool:=kMe nm (λ o xs=>k o&&kD (λ y=>l y&&cR y) xs) e
theorem aTC{P:qw->Prop}{nm:Str}{k l:qw->Bool}{x:qw}(h:aJY nm k l x=true)(g:∀ o ap y cp,(ap.endLine==cp.line)=true->aAd o=true->k o=true->l y=true->cR y=true->P (.Call (.Attribute o nm ap) [y] [] cp)):P x:=
 aJT h λ o ap xs cp h1 h2 z=>lG (P:=λ xs=>P (.Call (.Attribute o nm ap) xs [] cp)) (aR z) λ y u=>g o ap y cp h1 h2 (aL z) (aL u) (aR u)
noncomputable def aIY(k:qw->qw->qw->List qw->zk->Bool)(e:qw):Bool:=kLc (λ el gs sc _=>kD (λ g=>decide (g.is_async=0)&&k el g.target g.iter g.ifs sc) gs) e
theorem aSx{P:qw->Prop}{k:qw->qw->qw->List qw->zk->Bool}{x:qw}(h:aIY k x=true)(g:∀ e tg it ifs sc p,k e tg it ifs sc=true->P (.ListComp e [⟨tg,it,ifs,0⟩] sc p)):P x:=
 aWa h λ e _ sc p z=>lG (P:=λ gs=>P (.ListComp e gs sc p)) z λ aT z=>by
  obtain⟨tg,it,ifs,as⟩:=aT;obtain rfl:as=0:=dT (aL z);exact g e tg it ifs sc p (aR z)
noncomputable def aJ2(N:List Str)(t:Tg)(cond:E)(sc:zk)(fI:qw->qw->Bool)(fT fE:zk->qw->Bool)(x:qw):Bool:=aIY (λ e tg iter ifs scope=>aDc scope sc&&aAZ N scope t.slots N.length&&wJ true N (qF scope sc) t tg&&fI tg iter&&cR iter &&
 (match ifs with | []=>aDL cond | y::r=>r.isEmpty&&fT (qF scope sc) y)&&fE (qF scope sc) e) x
theorem aJZ{P:qw->Prop}{N:List Str}{t:Tg}{cond:E}{sc:zk}{fI:qw->qw->Bool}{fT fE:zk->qw->Bool}{x:qw}(h:aJ2 N t cond sc fI fT fE x=true)(g:∀ e tg iter ifs scope p,aDc scope sc=true->aAZ N scope t.slots N.length=true->wJ true N (qF scope sc) t tg=true->fI tg iter=true->cR iter=true->(match ifs with | []=>aDL cond | y::r=>r.isEmpty&&fT (qF scope sc) y)=true->fE (qF scope sc) e=true->P (.ListComp e [⟨tg,iter,ifs,0⟩] scope p)):P x:=
 aSx h λ e tg iter ifs scope p h=>g e tg iter ifs scope p (aL (aL (aL (aL (aL (aL h)))))) (aR (aL (aL (aL (aL (aL h)))))) (aR (aL (aL (aL (aL h))))) (aR (aL (aL (aL h)))) (aR (aL (aL h))) (aR (aL h)) (aR h)
structure Tx where
 fn:List (Str×Nat)
 tb:List (Str×List (Str×Tv))
 cn:List (Str×List Tv)
section
variable (T : Tx)(N : List Str)
mutual
noncomputable def bM:E->zk->qw->Bool
 | .var i,sc,x=>iQ (λ x _=>decide (N[i]? = qq x)&&qS sc x && !(x==("__debug__" : Str)) && !(x==("__classdict__" : Str))) x
 | .int i,_,x=>sM (.int i) x
 | .bl i,_,x=>sM (.bool i) x
 | .non,_,x=>sM .none x
 | .str i,_,x=>sM (.str i) x
 | .bin op a b,sc,x=>xH (λ x op' y _=>decide (op'=op)&&bM a sc x&&bM b sc y) x
 | .un op a,sc,x=>wY (λ op' x _=>decide (op'=op) && !decide (op=.Not)&&bM a sc x) x
 | .cmp op a b,sc,x=>aDF (λ x op' y=>decide (op'=op)&&bM a sc x&&bM b sc y) x
 | .and a b,sc,x=>vL .And (λ x y=>bM a sc x&&bM b sc y) x
 | .or a b,sc,x=>vL .Or (λ x y=>bM a sc x&&bM b sc y) x
 | .not a,sc,x=>wY (λ o x _=>decide (o=.Not)&&bM a sc x) x
 | .ite c a b,sc,x=>kIe (λ x y z _=>lT c sc x&&bM a sc y&&bM b sc z) x
 | .tup es,sc,x=>xA (λ xs _ _=>nI es sc xs) x
 | .ix a b,sc,x=>wW (λ x y=>bM a sc x&&bM b sc y) x
 | .con n ts,sc,x=>iQ (λ x _=>decide (x=n)&&T.cn.contains (n,ts)&&gl sc x && !(x==("__debug__" : Str))) x
 | .tab n aW k,sc,x=>wW (λ x y=>bM k sc y&&iQ (λ x _=>decide (x=n)&&T.tb.contains (n,aW)&&gl sc x && !(x==("__debug__" : Str))) x) x
 | .sl a lo hi,sc,x=>aJK (λ x l h=>bM a sc x&&okO lo sc l&&okO hi sc h) x
 | .call f es,sc,x=>oH (λ x xs=>decide ((T.fn[f]?).map (·.1)=qq x)&&gl sc x && !(x==("__debug__" : Str))&&nI es sc xs&&rC xs) x
 | .blt b es,sc,x=>oH (λ x ys=>!ys.isEmpty&&decide (x=b.n)&&gl sc x&&nI es sc ys&&rC ys) x
 | .isi a n,sc,x=>kB2 "isinstance" sc (λ y=>bM a sc y) (λ z=>iQ (λ z _=>decide (z=n.n)&&gl sc z) z) x
 | .bits a,sc,x=>kMe "bit_length" (λ x ys=>bM a sc x&&ys.isEmpty) x
 | .app o a,sc,x=>aJY "append" (λ x=>bM o sc x) (λ y=>bM a sc y) x
 | .fz a,sc,e=>xN a sc e
 | .new a,sc,e=>xN a sc e
 | _,_,_=>false
noncomputable def lT:E->zk->qw->Bool
 | .and a b,sc,x=>vL .And (λ x y=>lT a sc x&&lT b sc y) x
 | .or a b,sc,x=>vL .Or (λ x y=>lT a sc x&&lT b sc y) x
 | .not a,sc,x=>wY (λ o x _=>decide (o=.Not)&&lT a sc x) x
 | .cmp op a b,sc,x=>aDF (λ x op' y=>decide (op'=op)&&bM a sc x&&bM b sc y) x
 | .var i,sc,x=>iQ (λ x _=>decide (N[i]? = qq x)&&qS sc x && !(x==("__debug__" : Str)) && !(x==("__classdict__" : Str))) x&&lJ x
 | .bl i,_,x=>sM (.bool i) x&&lJ x
 | .bin op a b,sc,x=>xH (λ x op' y _=>decide (op'=op)&&bM a sc x&&bM b sc y) x&&lJ x
 | .ix a b,sc,x=>wW (λ x y=>bM a sc x&&bM b sc y) x&&lJ x
 | .call f es,sc,x=>oH (λ x xs=>decide ((T.fn[f]?).map (·.1)=qq x)&&gl sc x && !(x==("__debug__" : Str))&&nI es sc xs&&rC xs) x&&lJ x
 | .blt b es,sc,x=>oH (λ x ys=>!ys.isEmpty&&decide (x=b.n)&&gl sc x&&nI es sc ys&&rC ys) x&&lJ x
 | .isi a n,sc,x=>kB2 "isinstance" sc (λ y=>bM a sc y) (λ z=>iQ (λ z _=>decide (z=n.n)&&gl sc z) z) x&&lJ x
 | _,_,_=>false
noncomputable def nI:E->zk->List qw->Bool
 | .nil,_,xs=>xs.isEmpty
 | .cons a r,sc,xs=>(match xs with
   | x::xs=>bM a sc x&&cR x&&nI r sc xs
   | []=>false)
 | _,_,_=>false
noncomputable def okO:E->zk->Option qw->Bool
 | .no,_,x=>aDK x
 | .cons a r,sc,x=>aJC r&&x.any λ x=>bM a sc x
 | _,_,_=>false
noncomputable def xN:E->zk->qw->Bool
 | .lst es,sc,x=>kLi (λ xs _=>nI es sc xs) x
 | .lzip a b,sc,x=>xE "list" sc (λ y=>kB2 "zip" sc (λ z=>bM a sc z) (λ w=>bM b sc w) y) x
 | .lrg1 a,sc,x=>xE "list" sc (λ y=>xE "range" sc (λ z=>bM a sc z) y) x
 | .lrep a b,sc,x=>xH (λ x o y _=>decide (o=.Mult)&&bM a sc x&&bM b sc y) x
 | .comp elt t it cond,sc,x=>aJ2 N t cond sc (λ g y=>okI it sc g y) (λ s y=>lT cond s y) (λ s y=>bM elt s y) x
 | _,_,_=>false
noncomputable def okI:E->zk->qw->qw->Bool
 | .it a,sc,_,x=>bM a sc x
 | .rng1 a,sc,_,x=>xE "range" sc (λ y=>bM a sc y) x
 | .rng3 a b c,sc,_,x=>kB3 "range" sc (λ y=>bM a sc y) (λ z=>bM b sc z) (λ w=>bM c sc w) x
 | .zip3 a b c,sc,tg,x=>aAD tg&&kB3 "zip" sc (λ y=>bM a sc y) (λ z=>bM b sc z) (λ w=>bM c sc w) x
 | _,_,_,_=>false
end
mutual
noncomputable def okS:Sx->zk->jz->Bool
 | .expr e,sc,st=>kEx (λ x _=>bM T N e sc x&&rO x) st
 | .ret e,sc,st=>kRe (λ v _=>v.any λ x=>bM T N e sc x) st
 | .ifs c a b,sc,st=>kSf (λ x y z _=>lT T N c sc x&&oP a sc y&&oP b sc z) st
 | .set i e,sc,st=>sV (λ ts y _=>bM T N e sc y&&rO y&&kD (λ t=>iQ (λ x _=>decide (N[i]? = qq x)&&loc sc x) t) ts) st
 | .setC _ i e,sc,st=>sV (λ ts y _=>aHo e&&xN T N e sc y&&kD (λ t=>iQ (λ x _=>decide (N[i]? = qq x)&&loc sc x) t) ts) st
 | .setT t e,sc,st=>sV (λ ts y _=>bM T N e sc y&&rO y && !aAD y&&kD (λ tg=>aAD tg&&wJ false N sc t tg) ts) st
 | .put o i e,sc,st=>sV (λ ts z _=>bM T N e sc z&&rO z&&kD (λ t=>wW (λ x y=>bM T N o sc x&&bM T N i sc y) t) ts) st
 | .loop t it b,sc,st=>kFo (λ tg x y z _=>z.isEmpty&&wJ false N sc t tg&&okI T N it sc tg x&&cR x&&oP b sc y) st
 | _,_,_=>false
noncomputable def oP:Sx->zk->List jz->Bool
 | .skip,_,l=>l.isEmpty
 | .seq a b,sc,l=>(match l with
   | st::r=>okS a sc st&&oP b sc r
   | []=>false)
 | _,_,_=>false
end
end
noncomputable def bltNames:List Str:=["len", "max", "min", "int", "abs", "tuple", "sum", "all", "any", "isinstance", "list", "range", "enumerate", "bool", "str", "reversed", "zip", "sorted"]
structure Ctx(T:Tx)(C:Calls)(X:Cx):Prop where
 nd:X.N.Nodup
 calm:X.calm=true
 xe:X.xe=λ _ _=>False
 kind:X.env.scope.kind=.function
 room:∃ k,Room k X.A/\∀ f np call x,C f=qq (np,call)->(T.fn[f]?).map (·.1)=qq x->∃ fa fd ps,X.mg x=qq (.ref fa)/\yCu X.K (.ref fa)=true/\mN X.K fd ps []/\FnOk X.prog X.w X.K X.mg X.base sU k fa fd ps (tD X.K np call)
 blt:∀ x∈bltNames,X.mg x=qz
 tbs:∀ x aW,(x,aW)∈T.tb->∃ a,X.mg x=qq (.ref a)/\vQ X.K X.w a aW
 cns:∀ x ts,(x,ts)∈T.cn->∃ a,X.mg x=qq (.ref a)/\rY X.K a ts
theorem Ctx.units{T:Tx}{C:Calls}{X:Cx}(h:Ctx T C X):X.A.units+64<cLine:=let ⟨_,r,_⟩:=h.room;r.units
theorem Ctx.own{T:Tx}{C:Calls}{X:Cx}(h:Ctx T C X):PassesOwn (model X.prog X.w) X.A X.env X.xe:=by rw[h.xe];exact PassesOwn.never
theorem Ctx.comp{T:Tx}{C:Calls}{X Y:Cx}{scope:zk}(h:Ctx T C X)(hk:scope.kind=.function)(hy:jR X scope Y):Ctx T C Y/\Y.env.scope=qF scope X.env.scope/\Y.N=X.N/\Y.K=X.K:=by
 obtain⟨aB,fp,Ca,s₀,H₀,rfl⟩:=hy;exact⟨⟨h.nd,h.calm,rfl,hk,h.room,h.blt,h.tbs,h.cns⟩,rfl,rfl,rfl⟩
theorem iG{e:qw}(h:cR e=true)(es:List qw)(env:Env):zq (e::es) env=(false,eval e env)::zq es env:=by
 cases e<;>first | rfl | exact no h
theorem aCd:∀ {es:List qw} (h:rC es=true) (env:Env) (pos:Pos),(backTo pos (zq es env)).any (·.1)=false
 | [],_,_,_=>rfl
 | e::es,h,env,pos=>by
   obtain⟨h1,h2⟩:=gQ h;rw[iG h1];show(false||(backTo pos (zq es env)).any (·.1))=false
   rw[aCd h2 env pos];rfl
theorem aJa{e:qw}(h:cR e=true):zU e:=by
 intro o i;cases e<;>first | rfl | exact no h
theorem aF3{e:qw}(h:cR e=true)(op:vj):jk op e=false:=by
 cases e<;>first | rfl | exact no h
theorem aBS{e:qw}(h:cR e=true)(env:Env)(x:qx):jj e env x=pure x:=by
 cases e<;>first | rfl | exact no h
theorem uY{e:qw}(h:aAd e=true)(m:Str)(env:Env):attributeBase e m env (eval e env)=eval e env:=by
 cases e<;>first | rfl | exact no h
theorem aCf{e:qw}(h:rO e=true)(t:Option qw)(line:Nat)(env:Env):swapsWith e t line env=pure false:=by
 cases e<;>first | rfl | exact no h
theorem aQN{e:qw}(h:lJ e=true)(env:Env)(gL:Sem qx):isTrue e env gL=(do let v <- gL;standAt e.pos;holding [v] (truthy v)):=by
 cases e<;>first | rfl | exact no h
theorem aMg{o i:qw}{pos:Pos}{env:Env}(h:cR i=true)(v:qx):assign (.Subscript o i pos) env v=(do
 let ov <- holding [v] (eval o env)
 let iv <- holding [v,ov] (eval i env)
 standAt pos
 holding [v,ov,iv] (setItem ov iv v)
 release [v,ov,iv] []):=by
 cases i<;>first | rfl | exact no h
section
variable {X : Cx}
theorem aRd{x:Str}(h:qS X.env.scope x=true):xI X.env.scope x:=by
 unfold qS at h;unfold xI
 split at h<;>first | exact .inl (by assumption) | exact .inr (.inl (by assumption)) | exact .inr (.inr (by assumption)) | exact no h
theorem aC2{x:Str}(h:loc X.env.scope x=true):L2.Loc X.env.scope x:=by
 unfold loc at h;unfold L2.Loc
 split at h<;>first | exact .inl (by assumption) | exact .inr (by assumption) | exact no h
theorem iK{x:Str}(h:gl X.env.scope x=true):Gl X x:=(oqT h:X.env.scope.names.lookup x=qq .globalImplicit)
theorem tU{x y:Str}(h:(!(x==y))=true):(x==y)=false:=by
 cases e:x==y with
 | false=>rfl
 | true=>rw[e] at h;exact no h
def aCL(b:Bool)(X:Cx):Prop:=b=true\/∀ x,X.fn x=true
theorem aHi{b:Bool}(st:aCL b X){i:Nat}{x:Str}(h:aCV b X.N X.env.scope i x=true):X.N[i]? = qq x/\L2.Loc X.env.scope x/\(X.fn x=true\/X.env.scope.names.lookup x=qq .local):=by
 obtain⟨h1,h2⟩:=gQ h;cases b with
 | true =>
   have h3:=oqT h2;exact⟨oqT h1,.inl h3,.inr h3⟩
 | false =>
   refine⟨oqT h1,aC2 h2,?_⟩;rcases st with z | z
   ·cases z
   ·exact .inl (z x)
noncomputable def wN:List Nat->iT
 | []=>aDj
 | i::is=>aDb (oN i) (wN is)
noncomputable def sS(K:FrG):Tg->TG
 | .one i=>oN i
 | .many is=>aDu K is.length (wN is)
theorem aIt(K:FrG):∀ is:List Nat,wV K is (wN is)
 | []=>aOG
 | _::is=>aN0 (aIt K is)
theorem aAJ(K:FrG)(t:Tg):GA K t (sS K t):=by
 cases t with
 | one i=>exact aSe i
 | many is=>exact aOW (aIt K is)
theorem aGy{b:Bool}(st:aCL b X)(nd:X.N.Nodup):∀ {is:List Nat}{es:List qw},aCj b X.N X.env.scope is es=true->qO X es (wN is)/\(xx es X.env).length=is.length/\(xx es X.env).findIdx? (·.1)=qz
 | [],[],_=>⟨aPy,rfl,rfl⟩
 | [],_::_,h=>no h
 | _::_,[],h=>no h
 | i::is,e::r,h=>nC (P:=λ e=>qO X (e::r) (wN (i::is))/\(xx (e::r) X.env).length=(i::is).length/\(xx (e::r) X.env).findIdx? (·.1)=qz) h λ x p h=>by
   obtain⟨a1,a2,a3⟩:=aHi st (aL h);obtain⟨pg,hl2,hf⟩:=aGy st nd (aR h);refine⟨aNq (aCF nd a1 a2 a3) pg rfl,?_,?_⟩
   ·show((false,assign (.Name x p) X.env)::xx r X.env).length=_;rw[yBg,yBg,hl2]
   ·show((false,assign (.Name x p) X.env)::xx r X.env).findIdx? (·.1)=qz;rw[List.findIdx?_cons,hf];rfl
theorem aAB{b:Bool}(st:aCL b X)(nd:X.N.Nodup)(hc:X.calm=true){t:Tg}{tg:qw}(h:wJ b X.N X.env.scope t tg=true):PG X tg (sS X.K t):=by
 cases t with
 | one i=>exact nC (P:=λ e=>PG X e (oN i)) h λ x p h=>let ⟨a1,a2,a3⟩:=aHi st h;aCF nd a1 a2 a3
 | many is=>exact aA0 (P:=λ e=>PG X e (sS X.K (.many is))) h λ es k p h=>let ⟨pg,hl2,hf⟩:=aGy st nd h;aRv hc pg hl2 hf
end
section
variable (T : Tx)(C : Calls)
def SE(c:E):Prop:=∀ X,Ctx T C X->∀ x,bM T X.N c X.env.scope x=true->PE X x (aV X.K (ev C c))
def ST(c:E):Prop:=∀ X,Ctx T C X->∀ x,lT T X.N c X.env.scope x=true->PT X x (fL X.K (tv C c))/\∀ op es p,x=.BoolOp op es p->PW X x (fL X.K (tv C c))
def SA(c:E):Prop:=∀ X,Ctx T C X->∀ x,nI T X.N c X.env.scope x=true->PA X x (hU X.K (av C c))
def SO(c:E):Prop:=∀ X,Ctx T C X->∀ x,okO T X.N c X.env.scope x=true->PO X x (lK X.K (ov C c))
def SL(c:E):Prop:=∀ X,Ctx T C X->∀ x,xN T X.N c X.env.scope x=true->PE X x (iA X.K (lv C c))
def SI(c:E):Prop:=∀ X,Ctx T C X->∀ tg x,okI T X.N c X.env.scope tg x=true->PI X tg x (kG X.K (lv C c))
end
section
variable {T : Tx}{C : Calls}
theorem aPz{X:Cx}{x:qw}{f:FE}(h:∀ env S,f env S=qz):PE X x (aV X.K f):=λ aB s σ H Q I aT=>by
 obtain⟨F,L,S,env,w,S',R,E,e,q⟩:=aT;rw[h] at e;cases e
theorem aTf{X:Cx}{x:qw}{f:FE}(h:PE X x (aV X.K f))(ht:lJ x=true):PT X x (fL X.K (dA f))/\∀ op es p,x=.BoolOp op es p->PW X x (fL X.K (dA f)):=
 ⟨aUT h λ gL=>aQN ht X.env gL,λ op es p e=>by subst e;exact no ht⟩
theorem aIK(i:Nat):SE T C (.var i):=λ X hX x hx=>nC (P:=λ x=>PE X x _) hx λ y p h=>aS5 (dT (aL (aL (aL h)))) (aRd (aR (aL (aL h)))) (tU (aR (aL h))) (tU (aR h))
theorem aQX(i:Int):SE T C (.int i):=λ X hX x h=>aAK (P:=λ x=>PE X x _) h λ k p=>aTv
theorem aJD(i:Bool):SE T C (.bl i):=λ X hX x h=>aAK (P:=λ x=>PE X x _) h λ k p=>aVx
theorem aRt:SE T C .non:=λ X hX x h=>aAK (P:=λ x=>PE X x _) h λ k p=>aTc
theorem aQ6(i:Str):SE T C (.str i):=λ X hX x h=>aAK (P:=λ x=>PE X x _) h λ k p=>aUi
theorem aH6{op:jo}{a b:E}(ha:SE T C a)(hb:SE T C b):SE T C (.bin op a b):=λ X hX x hx=>aKk (P:=λ x=>PE X x _) hx λ l o r p h=>by
 obtain rfl:=dT (aL (aL h));exact aUC (ha X hX _ (aR (aL h))) (hb X hX _ (aR h))
theorem aUU{op:yz}{a:E}(ha:SE T C a):SE T C (.un op a):=λ X hX x hx=>aDx (P:=λ x=>PE X x _) hx λ o r p h=>by
 obtain rfl:=dT (aL (aL h));exact aV8 (ha X hX _ (aR h))
theorem aQ5{op:vj}{a b:E}(ha:SE T C a)(hb:SE T C b):SE T C (.cmp op a b):=λ X hX x hx=>aJB (P:=λ x=>PE X x _) hx λ l o r p h h4=>by
 obtain rfl:=dT (aL (aL h));exact aUV hX.units (ha X hX _ (aR (aL h))) (hb X hX _ (aR h)) (aF3 h4 o)
theorem aJh{X:Cx}{x:qw}{t:TT}(h:PT X x t)(n:x.ctorIdx≠0):PT X x t/\∀ op es p,x=.BoolOp op es p->PW X x t:=
 ⟨h,λ op es p e=>absurd (congrArg Expr.ctorIdx e) n⟩
theorem aSo{op:vj}{a b:E}(ha:SE T C a)(hb:SE T C b):ST T C (.cmp op a b):=λ X hX x hx=>aJB (P:=λ x=>PT X x _/\∀ op es p,x=.BoolOp op es p->PW X x _) hx λ l o r p h h4=>by
 obtain rfl:=dT (aL (aL h));exact aJh (aR7 hX.units (ha X hX _ (aR (aL h))) (hb X hX _ (aR h)) (aF3 h4 o)) (Nat.succ_ne_zero 14)
theorem aSw{n:Str}{ts:List Tv}:SE T C (.con n ts):=λ X hX x hx=>nC (P:=λ x=>PE X x _) hx λ y p h=>by
 obtain rfl:=dT (aL (aL (aL h)));exact aU9 (iK (aR (aL h))) (tU (aR h)) (hX.cns _ _ (List.contains_iff_mem.mp (aR (aL (aL h)))))
theorem aRB{a b:E}(ha:SE T C a)(hb:SE T C b):SE T C (.and a b):=λ X hX x hx=>aAh (P:=λ x=>PE X x _) hx
 (λ l r p h=>PE.weak (aIk (ha X hX _ (aL h)) (aIB (hb X hX _ (aR h)))) aIN) λ l b c r p h=>PE.weak (aIk (ha X hX _ (aL h)) (hb X hX _ (aR h))) aIN
theorem aUv{a b:E}(ha:SE T C a)(hb:SE T C b):SE T C (.or a b):=λ X hX x hx=>aAh (P:=λ x=>PE X x _) hx
 (λ l r p h=>PE.weak (aJy (ha X hX _ (aL h)) (aIB (hb X hX _ (aR h)))) aI6) λ l b c r p h=>PE.weak (aJy (ha X hX _ (aL h)) (hb X hX _ (aR h))) aI6
theorem aHV{X:Cx}{x:qw}{t:TT}(k:PW X x t):PT X x t/\∀ op es p,x=.BoolOp op es p->PW X x t:=⟨k.pt,λ _ _ _ _=>k⟩
theorem aQK{a b:E}(ha:ST T C a)(hb:ST T C b):ST T C (.and a b):=λ X hX x hx=>aHV (aAh (P:=λ x=>PW X x _) hx
 (λ l r p h=>PW.weak (aHT (ha X hX _ (aL h)).1 (aPJ (hb X hX _ (aR h)).1)) aJd) λ l b c r p h=>PW.weak (aHT (ha X hX _ (aL h)).1 ((hb X hX _ (aR h)).2 _ _ _ rfl)) aJd)
theorem aSV{a b:E}(ha:ST T C a)(hb:ST T C b):ST T C (.or a b):=λ X hX x hx=>aHV (aAh (P:=λ x=>PW X x _) hx
 (λ l r p h=>PW.weak (aJp (ha X hX _ (aL h)).1 (aRe (hb X hX _ (aR h)).1)) aKj) λ l b c r p h=>PW.weak (aJp (ha X hX _ (aL h)).1 ((hb X hX _ (aR h)).2 _ _ _ rfl)) aKj)
theorem aQa{a:E}(ha:SE T C a):SE T C (.not a):=λ X hX x hx=>aDx (P:=λ x=>PE X x _) hx λ o y p h=>by
 obtain rfl:=dT (aL h);exact aRg (ha X hX _ (aR h))
theorem aSB{a:E}(ha:ST T C a):ST T C (.not a):=λ X hX x hx=>aDx (P:=λ x=>PT X x _/\∀ op es p,x=.BoolOp op es p->PW X x _) hx λ o y p h=>by
 obtain rfl:=dT (aL h);exact aJh (aUo (ha X hX _ (aR h)).1) (Nat.succ_ne_zero 2)
theorem aQx{c a b:E}(hc:ST T C c)(ha:SE T C a)(hb:SE T C b):SE T C (.ite c a b):=λ X hX x hx=>aWj (P:=λ x=>PE X x _) hx λ x y z p h=>aUf (hc X hX _ (aL (aL h))).1 (ha X hX _ (aR (aL h))) (hb X hX _ (aR h))
theorem aR1{a:E}(ha:SA T C a):SE T C (.tup a):=λ X hX x hx=>aA0 (P:=λ x=>PE X x _) hx λ xs k p h=>aVh (ha X hX _ h)
theorem aSI{a:E}(ha:SA T C a):SL T C (.lst a):=λ X hX x hx=>aVW (P:=λ x=>PE X x _) hx λ xs p h=>aVa (ha X hX _ h)
theorem aQr:SA T C .nil:=λ X hX x h=>oJ (P:=λ x=>PA X x _) h aAR
theorem aPS{a r:E}(ha:SE T C a)(hr:SA T C r):SA T C (.cons a r):=λ X hX x h=>by
 cases x with
 | nil=>exact no h
 | cons y ys=>exact mI (ha X hX _ (aL (aL h))) (hr X hX _ (aR h)) (iG (aR (aL h)) _ _)
theorem aT3:SO T C .no:=λ X hX x h=>aJc (P:=λ x=>PO X x _) h aVM
theorem aOV{a r:E}(ha:SE T C a):SO T C (.cons a r):=λ X hX x h=>aVp (P:=λ r=>PO X x (lK X.K (ov C (.cons a r)))) (aL h) (aJl (P:=λ x=>PO X x _) (aR h) λ y h=>aQ1 (ha X hX _ h))
theorem aJH{a b:E}(ha:SE T C a)(hb:SE T C b):SE T C (.ix a b):=λ X hX x hx=>aDI (P:=λ x=>PE X x _) hx λ l r p h h3=>aWr (ha X hX _ (aL h)) (hb X hX _ (aR h)) (aJa h3)
theorem aSJ{n:Str}{aW:List (Str×Tv)}{k:E}(hk:SE T C k):SE T C (.tab n aW k):=λ X hX x hx=>aDI (P:=λ x=>PE X x _) hx λ y z p g h6=>nC (P:=λ y=>PE X (.Subscript y z p) _) (aR g) λ u q h=>by
 obtain rfl:=dT (aL (aL (aL h)));exact aTM (iK (aR (aL h))) (tU (aR h)) (hX.tbs _ _ (List.contains_iff_mem.mp (aR (aL (aL h))))) (hk X hX _ (aL g)) (aJa h6)
theorem aU6{a lo hi:E}(ha:SE T C a)(hl:SO T C lo)(hh:SO T C hi):SE T C (.sl a lo hi):=λ X hX x hx=>aS3 (P:=λ x=>PE X x _) hx λ y l u p q h=>aVn (ha X hX _ (aL (aL h))) (hl X hX _ (aR (aL h))) (hh X hX _ (aR h))
theorem aPv{N:List Str}{a:E}{sc:zk}(h:nI T N a sc []=true):a=.nil:=by
 cases a<;>first | rfl | exact no h
theorem aMN{f np:Nat}{call:List W->aC->Option (W×aC)}{fs:FA}(h:C f=qq (np,call)):kU C f fs=aAG fs np call:=by
 funext env S
 unfold kU;rw[h]
theorem aG9{f:Nat}{a:E}(ha:SA T C a):SE T C (.call f a):=λ X hX x hx=>vF (P:=λ x=>PE X x _) hx λ y p zs q h=>by
 cases hC:C f with
 | none=>exact aPz λ env S=>by show kU C f (av C a) env S=qz;unfold kU;rw[hC]
 | some nc =>
   obtain⟨k,rm,fs⟩:=hX.room;obtain⟨fa,fd,ps,m1,m2,m3,m4⟩:=fs f nc.1 nc.2 y hC (dT (aL (aL (aL (aL h)))));have hw:∀ σ H Q,aV X.K (ev C (.call f a)) σ H Q->aAC (tD X.K nc.1 nc.2) [] E0 (hU X.K (av C a)) σ H Q:=λ σ H Q hq=>aRE σ H Q (aMN (fs:=av C a) hC▸hq)
   have h2:=iK (aR (aL (aL (aL h))));have h3:=tU (aR (aL (aL h)));cases zs with
   | nil =>
     refine PE.weak (aNv m4 rm h2 m1 m2 m3 .nil aIV h3) λ σ H Q hq=>?_
     obtain⟨F,L,S,env,ws,S',R,E,e,q2⟩:=hw σ H Q hq;cases aPv (aR (aL h));cases e;exact q2 F L H [] Gr.refl R .nil
   | cons z zr=>exact PE.weak (aOO m4 rm h2 m1 m2 m3 .nil aIV (ha X hX _ (aR (aL h))) h3 (iG (aL (aR h)) _ _) (aCd (aR (aR h)) _ _)) hw
theorem aIv{b:B}{a:E}(ha:SA T C a):SE T C (.blt b a):=λ X hX x hx=>vF (P:=λ x=>PE X x _) hx λ y p zs q h=>by
 obtain rfl:=dT (aR (aL (aL (aL h))));cases zs with
 | nil=>exact no (aL (aL (aL (aL h))))
 | cons z zr =>
 have A:=ha X hX _ (aR (aL h));have G:=iK (aR (aL (aL h)));have s1:=iG (aL (aR h)) zr X.env;have s2:=aCd (aR (aR h)) X.env q;cases b with
 | len=>exact PE.weak (nT aUb G (hX.blt _ (by decide)) (by decide +kernel) A (by decide) (by decide) s1 s2) mQ
 | mx=>exact PE.weak (nT (aT7 hX.calm) G (hX.blt _ (by decide)) (by decide +kernel) A (by decide) (by decide) s1 s2) mQ
 | mn=>exact PE.weak (nT (aTm hX.calm) G (hX.blt _ (by decide)) (by decide +kernel) A (by decide) (by decide) s1 s2) mQ
 | abs=>exact PE.weak (nT aTN G (hX.blt _ (by decide)) (by decide +kernel) A (by decide) (by decide) s1 s2) mQ
 | sum=>exact PE.weak (nT (aS6 hX.calm) G (hX.blt _ (by decide)) (by decide +kernel) A (by decide) (by decide) s1 s2) mQ
 | all=>exact PE.weak (nT (aT1 hX.calm) G (hX.blt _ (by decide)) (by decide +kernel) A (by decide) (by decide) s1 s2) mQ
 | any=>exact PE.weak (nT (aUa hX.calm) G (hX.blt _ (by decide)) (by decide +kernel) A (by decide) (by decide) s1 s2) mQ
 | int=>exact PE.weak (aF1 aUE G (hX.blt _ (by decide)) (by decide +kernel) A (by decide) (by decide) s1 s2) mQ
 | tup=>exact PE.weak (aF1 aP7 G (hX.blt _ (by decide)) (by decide +kernel) A (by decide) (by decide) s1 s2) mQ
theorem aGc(n:Ty):xo n.n=qq (.type n.s)/\n.n∈bltNames:=by cases n<;>exact⟨by decide +kernel,by decide⟩
theorem aHU{a:E}{n:Ty}(ha:SE T C a):SE T C (.isi a n):=λ X hX x hx=>aKr (P:=λ x=>PE X x _) hx λ p y w q h3 h5 h6 h7 _=>nC (P:=λ w=>PE X (.Call (.Name "isinstance" p) [y,w] [] q) _) h7 λ z pz h=>by
 obtain rfl:=dT (aL h);have k:=aUA (X:=X) (n:=n.s) (x:=n.n) (p:=p) (p':=pz) (pos:=q) (ha X hX _ h5) (iK h3) (hX.blt _ (by decide)) (by decide +kernel) (iK (aR h)) (hX.blt _ (aGc n).2) (aGc n).1 (by cases n<;>decide) (by cases n<;>decide) (iG h6 _ _)
 refine PE.weak k λ σ H Q ⟨F,L,S,env,w,S',R,E,e,q2⟩=>⟨F,L,S,env,w,S',R,E,?_,q2⟩
 obtain⟨⟨w1,S1⟩,e1,e2⟩:=bind_some e;obtain⟨d,z,e3,e4,rfl,rfl⟩:=tV e2;unfold aKb f1;rw[e1];show fZ (wA X.K n.s) _ w1=_;unfold fZ;rw[e3];dsimp only[yCx];rw[aSE X.K e4]
theorem aPf{a:E}(ha:SE T C a):SE T C (.bits a):=λ X hX x hx=>aJT (P:=λ x=>PE X x _) hx λ o ap xs cp h4 h3 h=>oJ (P:=λ xs=>PE X (.Call (.Attribute o "bit_length" ap) xs [] cp) _) (aR h) (by
 refine PE.weak (aRZ PySem.F.plainAttrs_int yGb PySem.F.type_int_bit_length aPk (ha X hX _ (aL h)) (uY h3 _ _) h4) λ σ H Q hPq43=>?_
 obtain⟨F,L,S,env,w,S',R,E,e,q⟩:=hPq43;obtain⟨⟨w1,S1⟩,e1,e2⟩:=bind_some e;obtain⟨d,z,e3,e4,rfl,rfl⟩:=tV e2;refine⟨F,L,S,env,w1,_,R,E,e1,λ F1 L1 H1 v g1 R1 d1=>?_⟩
 have nw:=jP R1 d1 e3;cases d<;>first | (cases e4;done) | skip
 cases e4;obtain rfl:=nw.int;exact⟨rfl,_,rfl,rfl,q F1 L1 H1 _ g1 R1 (Den.int _)⟩)
theorem oW{X:Cx}{z:qw}(h:cR z=true):zq [z] X.env=(false,eval z X.env)::zq [] X.env:=iG h [] X.env
theorem sc1{X:Cx}{a:E}{z:qw}(ha:SE T C a)(hX:Ctx T C X)(h:bM T X.N a X.env.scope z=true)(hp:cR z=true):PA X [z] (hU X.K (eO (ev C a) jY)):=mI (ha X hX _ h) aAR (oW hp)
theorem aQG{o a:E}(ho:SE T C o)(ha:SE T C a):SE T C (.app o a):=λ X hX x hx=>aTC (P:=λ x=>PE X x _) hx λ y ap z cp h4 h3 h2 h5 h6 =>
 PE.weak (aSU PySem.F.plainAttrs_list PySem.F.slot_list_append PySem.F.type_list_append aFz (ho X hX _ h2) (sc1 ha hX h5 h6) (uY h3 _ _) (by rw[oW h6];rfl) h4 (oW h6) rfl) aVf
theorem aP0{a b:E}(ha:SE T C a)(hb:SE T C b):SL T C (.lzip a b):=λ X hX x hx=>aAX (P:=λ x=>PE X x _) hx λ p y q h2 h3 _=>aKr (P:=λ y=>PE X (.Call (.Name "list" p) [y] [] q) _) h3 λ p' z w q' h4 h5 h6 h7 h8 =>
 aRf (ha X hX _ h5) (hb X hX _ h7) hX.calm (iK h2) (hX.blt _ (by decide)) (iK h4) (hX.blt _ (by decide)) (iG h6 [w] X.env) (oW h8)
theorem aOH{a:E}(ha:SE T C a):SL T C (.lrg1 a):=λ X hX x hx=>aAX (P:=λ x=>PE X x _) hx λ p y q h2 h3 _=>aAX (P:=λ y=>PE X (.Call (.Name "list" p) [y] [] q) _) h3 λ p' z q' h4 h5 h6 =>
 aQB (ha X hX _ h5) hX.calm (iK h2) (hX.blt _ (by decide)) (iK h4) (hX.blt _ (by decide)) (oW h6)
theorem aP3{a b:E}(ha:SE T C a)(hb:SE T C b):SL T C (.lrep a b):=λ X hX x hx=>aKk (P:=λ x=>PE X x _) hx λ l o r p h=>by
 obtain rfl:=dT (aL (aL h));exact aUR (ha X hX _ (aR (aL h))) (hb X hX _ (aR h))
theorem aTj{a:E}(ha:SE T C a):SI T C (.it a):=λ X hX tg x h=>aVO (ha X hX _ h)
theorem aPQ{a:E}(ha:SE T C a):SI T C (.rng1 a):=λ X hX tg x hx=>aAX (P:=λ x=>PI X tg x _) hx λ p z q h2 h3 h4 =>
 PI.weak (aME (iK h2) (hX.blt _ (by decide)) (sc1 ha hX h3 h4) (oW h4)) aRk
theorem aPi{a b c:E}(ha:SE T C a)(hb:SE T C b)(hc:SE T C c):SI T C (.rng3 a b c):=λ X hX tg x hx=>aJ9 (P:=λ x=>PI X tg x _) hx λ p z w v q h2 h3 h4 h5 h6 h7 h8=>by
 have st:=iG h4 [w,v] X.env;have st2:=iG h6 [v] X.env;exact PI.weak (aMJ (iK h2) (hX.blt _ (by decide)) (mI (ha X hX _ h3) (mI (hb X hX _ h5) (sc1 hc hX h7 h8) st2) st) st (by rw[st2,oW h8];rfl)) aRX
theorem aO2{a b c:E}(ha:SE T C a)(hb:SE T C b)(hc:SE T C c):SI T C (.zip3 a b c):=λ X hX tg x hx=>aA0 (P:=λ tg=>PI X tg x _) (aL hx) λ ts k tp _=>aJ9 (P:=λ x=>PI X _ x _) (aR hx) λ p z z2 z3 q h2 h3 h4 h5 h6 h7 h8 =>
 PI.weak (aOC (iK h2) (hX.blt _ (by decide)) (mI (ha X hX _ h3) (mI (hb X hX _ h5) (sc1 hc hX h7 h8) (iG h6 [z3] X.env)) (iG h4 [z2,z3] X.env)) (iG h4 [z2,z3] X.env) (iG h6 [z3] X.env) (oW h8)) aQf
theorem or2{a b:Bool}(h:(a||b)=true)(n:a=false):b=true:=by
 rw[n] at h;exact h
theorem aHE{scope osc:zk}(h:aDc scope osc=true):ScOk scope osc:=by
 have h2:=List.all_eq_true.mp (aR h);refine⟨dT (aL h),λ x hx e=>?_,λ x hx e=>?_,λ x hx e=>?_⟩
 ·have:=h2 x hx;simp[e] at this
 ·have:=h2 x hx;simp[e] at this;exact this
 ·have:=h2 x hx;simp[e] at this;exact this
theorem aC5{N:List Str}{scope:zk}{is:List Nat}:∀ {n:Nat},aAZ N scope is n=true->∀ i,i<n->∀ x,N[i]? = qq x->scope.names.lookup x=qq .local->i∈is
 | 0,_,i,hi,_,_,_=>absurd hi (yFh i)
 | n+1,h,i,hi,x,e,el=>by
   rcases Nat.lt_succ_iff_lt_or_eq.mp hi with z | z
   ·exact aC5 (aL h) i z x e el
   ·subst z;have h2:=aR h;rw[e] at h2;exact List.contains_iff_mem.mp (or2 h2 (by rw[el];rfl))
theorem aOS{elt it cond:E}{t:Tg}(he:SE T C elt)(hi:SI T C it)(hc:ST T C cond):SL T C (.comp elt t it cond):=λ X hX x hx=>aJZ (P:=λ x=>PE X x _) hx λ e tg iter ifs scope p h1 h2 h3 h4 h5 h6 h7=>by
 have sok:=aHE h1;refine aIl (g:=sS X.K t) hX.calm sok (λ i x a1 a2=>aC5 h2 i (gIm a1).1 x a1 a2) (hi X hX tg iter h4) (λ Y hY=>?_) (aAJ X.K t) (λ Y hY=>?_) (λ Y hY=>?_) (aBS h5 X.env)
 ·obtain⟨c1,c2,c3,c4⟩:=hX.comp sok.kind hY;rw[<- c4];exact aAB (.inl rfl) c1.nd c1.calm (by rw[c2,c3];exact h3)
 ·obtain⟨c1,c2,c3,c4⟩:=hX.comp sok.kind hY;cases ifs with
  | nil=>exact aKm (P:=λ cond=>mE Y [] (tv C cond)) h6 aFv
  | cons y r=>exact oJ (P:=λ r=>mE Y (y::r) _) (aL h6) (aFY (hc Y c1 y (by rw[c2,c3];exact aR h6)).1)
 ·obtain⟨c1,c2,c3,c4⟩:=hX.comp sok.kind hY;rw[<- c4];exact he Y c1 e (by rw[c2,c3];exact h7)
theorem aTb{a:E}(ha:SL T C a):SE T C (.fz a):=λ X hX x h=>aJP (ha X hX x h)
theorem aQ9{a:E}(ha:SL T C a):SE T C (.new a):=λ X hX x h=>aT9 (ha X hX x h)
theorem qC{c:E}(h:SE T C c)(ht:tv C c=dA (ev C c))(hk:∀ N sc x,lT T N c sc x=(bM T N c sc x&&lJ x)):ST T C c:=λ X hX x q=>by
 rw[hk] at q;rw[ht];exact aTf (h X hX x (aL q)) (aR q)
structure Sn(T:Tx)(C:Calls)(c:E):Prop where
 e:SE T C c:=by exact λ _ _ _ h=>no h
 t:ST T C c:=by exact λ _ _ _ h=>no h
 a:SA T C c:=by exact λ _ _ _ h=>no h
 o:SO T C c:=by exact λ _ _ _ h=>no h
 l:SL T C c:=by exact λ _ _ _ h=>no h
 i:SI T C c:=by exact λ _ _ _ _ h=>no h
theorem sn(c:E):Sn T C c:=by
 induction c with
 | var i=>exact {e:=aIK i,t:=qC (aIK i) rfl λ _ _ _=>rfl }
 | int i=>exact {e:=aQX i }
 | bl b=>exact {e:=aJD b,t:=qC (aJD b) rfl λ _ _ _=>rfl }
 | non=>exact {e:=aRt }
 | str x=>exact {e:=aQ6 x }
 | bin op a b bA cG=>exact {e:=aH6 bA.e cG.e,t:=qC (aH6 bA.e cG.e) rfl λ _ _ _=>rfl }
 | un op a bA=>exact {e:=aUU bA.e }
 | cmp op a b bA cG=>exact {e:=aQ5 bA.e cG.e,t:=aSo bA.e cG.e }
 | ltl a b bA cG=>exact {}
 | and a b bA cG=>exact {e:=aRB bA.e cG.e,t:=aQK bA.t cG.t }
 | or a b bA cG=>exact {e:=aUv bA.e cG.e,t:=aSV bA.t cG.t }
 | not a bA=>exact {e:=aQa bA.e,t:=aSB bA.t }
 | ite c a b ihc bA cG=>exact {e:=aQx ihc.t bA.e cG.e }
 | tup a bA=>exact {e:=aR1 bA.a }
 | lst a bA=>exact {l:=aSI bA.a }
 | nil=>exact {a:=aQr }
 | cons a r bA ihr=>exact {a:=aPS bA.e ihr.a,o:=aOV bA.e }
 | chn op gK a b c bA cG ihc=>exact {}
 | con x ts=>exact {e:=aSw }
 | ix a b bA cG=>exact {e:=aJH bA.e cG.e,t:=qC (aJH bA.e cG.e) rfl λ _ _ _=>rfl }
 | dsp k l m a b c i bA cG ihc ihi=>exact {}
 | tab x aW k ihk=>exact {e:=aSJ ihk.e }
 | slL a lo hi bA ihlo ihhi=>exact {}
 | sl a lo hi bA ihlo ihhi=>exact {e:=aU6 bA.e ihlo.o ihhi.o }
 | no=>exact {o:=aT3 }
 | call f a bA=>exact {e:=aG9 bA.a,t:=qC (aG9 bA.a) rfl λ _ _ _=>rfl }
 | blt b a bA=>exact {e:=aIv bA.a,t:=qC (aIv bA.a) rfl λ _ _ _=>rfl }
 | isi a n bA=>exact {e:=aHU bA.e,t:=qC (aHU bA.e) rfl λ _ _ _=>rfl }
 | bits a bA=>exact {e:=aPf bA.e }
 | app o a iho bA=>exact {e:=aQG iho.e bA.e }
 | pop o a iho bA=>exact {}
 | idx o a iho bA=>exact {}
 | lof a bA=>exact {}
 | lzip a b bA cG=>exact {l:=aP0 bA.e cG.e }
 | lrg1 a bA=>exact {l:=aOH bA.e }
 | lrg2 a b bA cG=>exact {}
 | srt a bA=>exact {}
 | lrev a bA=>exact {}
 | lrep a b bA cG=>exact {l:=aP3 bA.e cG.e }
 | comp elt t it cond ihelt ihit ihcond=>exact {l:=aOS ihelt.e ihit.i ihcond.t }
 | it a bA=>exact {i:=aTj bA.e }
 | rng1 a bA=>exact {i:=aPQ bA.e }
 | rng2 a b bA cG=>exact {}
 | rng3 a b c bA cG ihc=>exact {i:=aPi bA.e cG.e ihc.e }
 | rrng a bA=>exact {}
 | enm a bA=>exact {}
 | zip a b bA cG=>exact {}
 | zip3 a b c bA cG ihc=>exact {i:=aO2 bA.e cG.e ihc.e }
 | fz a bA=>exact {e:=aTb bA.l }
 | new a bA=>exact {e:=aQ9 bA.l }
end
section
variable (T : Tx)(C : Calls)
def SS(c:Sx):Prop:=∀ X,Ctx T C X->(∀ x,X.fn x=true)->∀ st,okS T X.N c X.env.scope st=true->PS X st (dL X.K (xs C c))
def oU(c:Sx):Prop:=∀ X,Ctx T C X->(∀ x,X.fn x=true)->∀ st,oP T X.N c X.env.scope st=true->dU X st (dL X.K (xs C c))
end
section
variable {T : Tx}{C : Calls}
theorem aHm{e t:qw}(h:rO e=true)(line:Nat)(env:Env):swapsWithSole [t] e line env=pure false:=aCf h _ _ _
theorem aLM{e:qw}{ts:List qw}{k:Nat}{p:Pos}{env:Env}(h:aAD e=false):yw [.Tuple ts k p] e env=pure qz:=by
 cases e<;>first | rfl | exact no h.symm
theorem aLr{o i e:qw}{p:Pos}{env:Env}:yw [.Subscript o i p] e env=pure qz:=by
 cases e<;>rfl
theorem aRK{a b:Sx}(ha:SS T C a)(hb:oU T C b):oU T C (.seq a b):=λ X hX hf st h=>by
 cases st with
 | nil=>exact no h
 | cons s r =>
   obtain⟨h1,h2⟩:=gQ h;exact aTO (ha X hX hf _ h1) (hb X hX hf _ h2)
theorem aOB:oU T C .skip:=λ X hX hf st h=>oJ (P:=λ st=>dU X st _) h aSp
theorem aO4{e:E}:SS T C (.expr e):=λ X hX hf st h=>aWp (P:=λ st=>PS X st _) h λ x p h=>aRU ((sn e).e X hX _ (aL h)) (aCf (aR h) _ _ _)
theorem aQZ{e:E}:SS T C (.ret e):=λ X hX hf st h=>aV0 (P:=λ st=>PS X st _) h λ _ p h=>aJl (P:=λ v=>PS X (.Return v p) _) h λ x h=>aTB ((sn e).e X hX _ h)
theorem aRb{c:E}{a b:Sx}(ha:oU T C a)(hb:oU T C b):SS T C (.ifs c a b):=λ X hX hf st h=>aVJ (P:=λ st=>PS X st _) h λ x y z p h=>aWo ((sn c).t X hX _ (aL (aL h))).1 (ha X hX hf _ (aR (aL h))) (hb X hX hf _ (aR h))
theorem aSy{i:Nat}{e:E}:SS T C (.set i e):=λ X hX hf st h=>aA4 (P:=λ st=>PS X st _) h λ _ y p h=>lG (P:=λ ts=>PS X (.Assign ts y p) _) (aR h) λ _ g=>nC (P:=λ t=>PS X (.Assign [t] y p) _) g λ x q g =>
 aIT hX.nd (dT (aL g)) (aC2 (aR g)) ((sn e).e X hX _ (aL (aL h))) (aCf (aR (aL h)) _ _ _) (.inl (hf _))
theorem aV2{K:FrG}{f:FL}(σ:St)(H:Hp)(Q:VK)(h:aV K (cP f) σ H Q):iA K f σ H Q:=by
 obtain⟨F,L,S,env,w,S',R,E,e,q⟩:=h;obtain⟨⟨ds,S1⟩,e1,e2⟩:=bind_some e;cases e2;exact⟨F,L,S,env,ds,_,R,E,e1,λ F1 L1 H1 p xs g1 R1 hF hL hH dl=>q _ L1 _ _ (g1.trans (Gr.new hF)) (R1.adopt hF hL hH) (Den.lst (bY.of dE) (dl.mono (eM hF)))⟩
theorem aC9{K:FrG}{f:FL}(σ:St)(H:Hp)(Q:VK)(h:aV K (iO f) σ H Q):iA K f σ H Q:=by
 obtain⟨F,L,S,env,w,S',R,E,e,q⟩:=h;obtain⟨⟨ds,S1⟩,e1,e2⟩:=bind_some e;cases e2;refine⟨F,L,S,env,ds,_,R,E,e1,λ F1 L1 H1 p xs g1 R1 hF hL hH dl=>q _ _ _ _ (g1.trans Gr.newLoc) (R1.adoptLoc hF hL hH dl) ⟨p,?_,rfl⟩⟩
 dsimp only;rw[<- R1.len,yAf (yAc _)];simp
theorem aVo{K:FrG}{f:FL}(nw:Bool):∀ (σ:St) (H:Hp) (Q:VK),aV K (match nw with | true=>iO f | false=>cP f) σ H Q->iA K f σ H Q:=by
 cases nw
 ·exact aV2
 ·exact aC9
theorem aOD{nw:Bool}{i:Nat}{e:E}:SS T C (.setC nw i e):=λ X hX hf st h=>aA4 (P:=λ st=>PS X st _) h λ _ y p h=>lG (P:=λ ts=>PS X (.Assign ts y p) _) (aR h) λ _ g=>nC (P:=λ t=>PS X (.Assign [t] y p) _) g λ x q g=>by
 refine aV1 (P:=λ e=>xN T X.N e X.env.scope y=true->PS X (.Assign [.Name x q] y p) (dL X.K (xs C (.setC nw i e)))) (aL (aL h)) (λ elt t it cond hL=>aJZ (P:=λ y=>PS X (.Assign [.Name x q] y p) (dL X.K (xs C (.setC nw i (.comp elt t it cond))))) hL λ e tg iter ifs scope r h1 h2 h3 h4 h5 h6 h7=>?_) (aR (aL h))
 have sok:=aHE h1;refine aMs (g:=sS X.K t) hX.nd (dT (aL g)) (aC2 (aR g)) (.inl (hf _)) hX.calm sok (λ i x a1 a2=>aC5 h2 i (gIm a1).1 x a1 a2) ((sn it).i X hX tg iter h4) (λ Y hY=>?_) (aAJ X.K t) (λ Y hY=>?_) (λ Y hY=>?_) (aBS h5 X.env) (aVo nw)
 ·obtain⟨c1,c2,c3,c4⟩:=hX.comp sok.kind hY;rw[<- c4];exact aAB (.inl rfl) c1.nd c1.calm (by rw[c2,c3];exact h3)
 ·obtain⟨c1,c2,c3,c4⟩:=hX.comp sok.kind hY;cases ifs with
  | nil=>exact aKm (P:=λ cond=>mE Y [] (tv C cond)) h6 aFv
  | cons y r=>exact oJ (P:=λ r=>mE Y (y::r) _) (aL h6) (aFY ((sn cond).t Y c1 y (by rw[c2,c3];exact aR h6)).1)
 ·obtain⟨c1,c2,c3,c4⟩:=hX.comp sok.kind hY;rw[<- c4];exact(sn elt).e Y c1 e (by rw[c2,c3];exact h7)
theorem aVz{b:Bool}(h:(!b)=true):b=false:=by
 cases b with
 | false=>rfl
 | true=>exact no h
theorem aOY{t:Tg}{e:E}:SS T C (.setT t e):=λ X hX hf st h=>aA4 (P:=λ st=>PS X st _) h λ _ v p h=>lG (P:=λ ts=>PS X (.Assign ts v p) _) (aR h) λ tg g=>by
 have h1:=aAB (.inr hf) hX.nd hX.calm (aR g)
 revert h1
 exact aA0 (P:=λ tg=>PG X tg (sS X.K t)->PS X (.Assign [tg] v p) (dL X.K (xs C (.setT t e)))) (aL g) λ ts k q _ h1=>PS.weak (aIs ((sn e).e X hX _ (aL (aL (aL h)))) h1 (aHm (aR (aL (aL h))) _ _) (aLM (aVz (aR (aL h)))) rfl) (aRw (aAJ X.K t))
theorem aQw{o i e:E}:SS T C (.put o i e):=λ X hX hf st h=>aA4 (P:=λ st=>PS X st _) h λ _ z p h=>lG (P:=λ ts=>PS X (.Assign ts z p) _) (aR h) λ _ g=>aDI (P:=λ t=>PS X (.Assign [t] z p) _) g λ x y q g h3 =>
 aTo ((sn o).e X hX _ (aL g)) ((sn i).e X hX _ (aR g)) ((sn e).e X hX _ (aL (aL h))) (aMg h3) (aHm (aR (aL h)) _ _) aLr
theorem aOK{t:Tg}{it:E}{b:Sx}(hb:oU T C b):SS T C (.loop t it b):=λ X hX hf st h=>aVG (P:=λ st=>PS X st _) h λ tg x y z p h=>oJ (P:=λ z=>PS X (.For tg x y z p) _) (aL (aL (aL (aL h))))
 (aUK hX.own hX.calm ((sn it).i X hX _ _ (aR (aL (aL h)))) (aAB (.inr hf) hX.nd hX.calm (aR (aL (aL (aL h))))) (aAJ X.K t) (hb X hX hf _ (aR h)) (aBS (aR (aL h)) X.env))
theorem ss(c:Sx):SS T C c/\oU T C c:=by
 have N2:∀ {c:Sx},SS T C c->(∀ N sc st,oP T N c sc st=false)->SS T C c/\oU T C c:=λ q hh=>⟨q,λ X hX hf st h=>by rw[hh] at h;exact no h⟩
 induction c with
 | skip=>exact⟨λ X hX hf st h=>no h,aOB⟩
 | seq a b bA cG=>exact⟨λ X hX hf st h=>no h,aRK bA.1 cG.2⟩
 | expr e=>exact N2 aO4 λ _ _ _=>rfl
 | ret e=>exact N2 aQZ λ _ _ _=>rfl
 | ifs c a b bA cG=>exact N2 (aRb bA.2 cG.2) λ _ _ _=>rfl
 | set i e=>exact N2 aSy λ _ _ _=>rfl
 | setC nw i e=>exact N2 aOD λ _ _ _=>rfl
 | setT t e=>exact N2 aOY λ _ _ _=>rfl
 | put o i e=>exact N2 aQw λ _ _ _=>rfl
 | loop t it b cG=>exact N2 (aOK cG.2) λ _ _ _=>rfl
end
structure Fn where
 name:Str
 np:Nat
 N:List Str
 body:Sx
 st:jz
noncomputable def aD(fs:List Fn):Nat->Calls
 | 0=>λ _=>qz
 | d+1=>λ f=>(fs[f]?).map λ F=>(F.np,fD (xs (aD fs d) F.body) F.N.length)
structure Tbs where
 tb:List (Str×List (Str×Tv))
 cn:List (Str×List Tv)
noncomputable def tab(fs:List Fn)(tb:Tbs):Tx:=⟨fs.map λ F=>(F.name,F.np),tb.tb,tb.cn⟩
noncomputable def aC3:List Str->Bool
 | []=>true
 | x::r=>!r.contains x&&aC3 r
theorem aGv:∀ {l:List Str},aC3 l=true->l.Nodup
 | [],_=>List.nodup_nil
 | x::r,h=>by
   obtain⟨h1,h2⟩:=gQ h;refine List.nodup_cons.mpr ⟨λ z=>?_,aGv h2⟩
   have:r.contains x=true:=by simpa using z
   rw[this] at h1;exact no h1
noncomputable def aA9(fs:List Fn)(tb:Tbs)(F:Fn):Bool:=
 decide ((eT F.st).kind=.function) && !(eT F.st).isCoroutine && !(eT F.st).isGenerator&&aC3 F.N&&decide (F.np<=F.N.length)&&(F.N.take F.np).all (loc (eT F.st))&&(eT F.st).names.all (λ y=>!decide (y.2=.free)) &&
  oP (tab fs tb) F.N F.body (eT F.st) (kS F.st)
theorem aQh{sc:zk}{x:Str}(h:loc sc x=true):sc.names.lookup x=qq .local\/sc.names.lookup x=qq .cell:=by
 unfold loc at h
 split at h<;>first | exact .inl (by assumption) | exact .inr (by assumption) | exact no h
theorem aNK{fs:List Fn}{tb:Tbs}{F:Fn}(h:aA9 fs tb F=true):FnScope F.N (F.N.take F.np) (eT F.st)/\oP (tab fs tb) F.N F.body (eT F.st) (kS F.st)=true/\(F.N.take F.np).length=F.np:=by
 obtain⟨h,h8⟩:=gQ h;obtain⟨h,h7⟩:=gQ h;obtain⟨h,h6⟩:=gQ h;obtain⟨h,h5⟩:=gQ h;obtain⟨h,h4⟩:=gQ h;obtain⟨h,h3⟩:=gQ h;obtain⟨h1,h2⟩:=gQ h;have hl:(F.N.take F.np).length=F.np:=by
  rw[yBo];have:=oqT h5;omega
 refine⟨⟨oqT h1,?_,?_,aGv h4,by rw[hl],λ x hx=>aQh (List.all_eq_true.mp h6 x hx),λ y hy=>?_⟩,h8,hl⟩
 ·cases q:(eT F.st).isCoroutine with
  | false=>rfl
  | true=>rw[q] at h2;exact no h2
 ·cases q:(eT F.st).isGenerator with
  | false=>rfl
  | true=>rw[q] at h3;exact no h3
 ·have:=List.all_eq_true.mp h7 y hy;intro z;rw[dqT z] at this;exact no this
section
variable {P : qo}{w : zw}{K : FrG}{mg : Str -> Option qx}{base : Heap}
theorem aHJ(fs:List Fn)(tb:Tbs)(hk:∀ F∈fs,aA9 fs tb F=true)(top:∀ F∈fs,∃ fa fd,Fun K F.name F.name F.st fa fd/\mg F.name=qq (.ref fa)/\mN K fd (F.N.take F.np) [])(hb:∀ x∈bltNames,mg x=qz)(ht:∀ x aW,(x,aW)∈tb.tb->∃ a,mg x=qq (.ref a)/\vQ K w a aW)(hcn:∀ x ts,(x,ts)∈tb.cn->∃ a,mg x=qq (.ref a)/\rY K a ts) :
 ∀ d f F np call fa fd,fs[f]? = qq F->aD fs d f=qq (np,call)->Fun K F.name F.name F.st fa fd->FnOk P w K mg base sU d fa fd (F.N.take F.np) (tD K np call)
 | 0,f,F,np,call,fa,fd,eF,e,Fu=>by cases e
 | d+1,f,F,np,call,fa,fd,eF,e,Fu=>by
   have ih:=aHJ fs tb hk top hb ht hcn d;have e2:(F.np,fD (xs (aD fs d) F.body) F.N.length)=(np,call):=by
    have e':(fs[f]?).map (λ F=>(F.np,fD (xs (aD fs d) F.body) F.N.length))=qq (np,call):=e
    rw[eF] at e';exact Option.some.inj e'
   cases e2;have hm:F∈fs:=xAl eF;obtain⟨sc,hok,hl⟩:=aNK (hk F hm);refine Fu.ok sc (λ vs H Q E h=>?_) λ cdv A outer s H vs Q E hr h=>?_
   ·obtain⟨F1,L,S,ws,w1,S',hn,R,dl,_⟩:=h;rw[hl,<- hn];exact dl.length.symm
   ·refine⟨_,(ss (T:=tab fs tb) (C:=aD fs d) F.body).2 _ ⟨sc.nd,rfl,rfl,sc.kind,⟨d,hr,λ f' np' call' x' e1 e2=>?_⟩,hb,λ x aW hx=>ht x aW hx,λ x ts hx=>hcn x ts hx⟩ (λ _=>rfl) _ hok,aQM h⟩
    have e2:((fs.map λ F=>(F.name,F.np))[f']?).map (·.1)=qq x':=e2
    rw[xAb] at e2;cases q:fs[f']? with
    | none=>rw[q] at e2;cases e2
    | some F' =>
      rw[q] at e2;have hx:F'.name=x':=Option.some.inj e2;subst hx;obtain⟨fa',fd',Fu',hmg',hbi'⟩:=top F' (xAl q);exact⟨fa',fd',_,hmg',Fu'.kp,hbi',ih f' F' np' call' fa' fd' q e1 Fu'⟩
end
structure TopFn(K:FrG)(F:Fn):Prop where
 ex:∃ (f:qv) (oc:qx) (od an:Option qv) (sl:Array (Option qx)) (kV dc pm cd ct:qx),yEz K xk F.name=qq (qq (.ref f)) /\
  K.lookup f=qq ⟨oc,od,.func (yDb F.name F.name (nW F.st) (kS F.st) (eT F.st) .none kV dc pm an cd ct),sl⟩/\yFr K cd F.name=true/\yCu K (.ref f)=true
theorem top_mk{K:FrG}{F:Fn}{f:qv}{oc:qx}{od an:Option qv}{sl:Array (Option qx)}{kV dc pm cd ct:qx}(a:yEz K xk F.name=qq (qq (.ref f)))
 (l:K.lookup f=qq ⟨oc,od,.func (yDb F.name F.name (nW F.st) (kS F.st) (eT F.st) .none kV dc pm an cd ct),sl⟩) (c:yFr K cd F.name=true) (k:yCu K (.ref f)=true):TopFn K F:=
 ⟨f,oc,od,an,sl,kV,dc,pm,cd,ct,a,l,c,k⟩
structure TabTop(K:FrG)(w:zw)(t:Str×List (Str×Tv)):Prop where
 ex:∃ (a:qv) (es:Array DictEntry) (ep:Nat),yEz K xk t.1=qq (qq (.ref a))/\K.lookup a=qq {cls:=.type "dict",data:=.dict es ep }/\rT w es.toList t.2
theorem tab_mk{K:FrG}{w:zw}{t:Str×List (Str×Tv)}{a:qv}{es:Array DictEntry}{ep:Nat}(a1:yEz K xk t.1=qq (qq (.ref a)))
 (l1:K.lookup a=qq {cls:=.type "dict",data:=.dict es ep }) (c1:rT w es.toList t.2):TabTop K w t:=⟨a,es,ep,a1,l1,c1⟩
structure ConTop(K:FrG)(t:Str×List Tv):Prop where
 ex:∃ a:qv,yEz K xk t.1=qq (qq (.ref a))/\rY K a t.2
theorem con_mk{K:FrG}{t:Str×List Tv}{a:qv}{aF:Array qx}{n:Nat}{od:Option qv}{sl:Array (Option qx)}(a1:yEz K xk t.1=qq (qq (.ref a)))
 (l1:K.lookup a=qq {cls:=.type "tuple",dict:=od,data:=.seq aF n,slots:=sl }) (z1:aF.size<=100) (c1:aAE aF.toList t.2):ConTop K t:=
 ⟨a,a1,_,aF,n,l1,rfl,rfl,xAi z1 (by decide),c1⟩
def aCG(F:Fn):Prop:=∀ (kV doc pm:qx) (an:Option qv) (cdv ct:qx) (us:List qx),us.length=(F.N.take F.np).length->bindArgs (yDb F.name F.name (nW F.st) (kS F.st) (eT F.st) .none kV doc pm an cdv ct) ⟨us,[]⟩=pure ((F.N.take F.np).zip us)
noncomputable def aDg(F:Fn):Bool:=match nW F.st with
 | ⟨[],as,qz,[],_,qz,_⟩=>decide (F.N.take F.np=as.map (·.arg))&&decide (F.N.take F.np).Nodup
 | _=>false
theorem aGb:∀ {ns:List Str}{us:List qx},ns.Nodup->us.length=ns.length->(∀ n∈ns,((ns.zip us).lookup n).isNone=false)/\ns.filterMap (λ n=>((ns.zip us).lookup n).map (n,·))=ns.zip us
 | [],us,_,_=>⟨λ n h=>(nomatch h),by cases us<;>rfl⟩
 | x::ns,[],_,h=>by cases h
 | x::ns,u::us,hn,hl=>by
   obtain⟨h1,h2⟩:=List.nodup_cons.mp hn;obtain⟨i1,i2⟩:=aGb h2 (Nat.succ.inj hl);have e:∀ n∈ns,((x,u)::ns.zip us).lookup n=(ns.zip us).lookup n:=λ n m=>by
    rw[yBv];have:(n==x)=false:=by
     rw[beq_eq_false_iff_ne];rintro rfl;exact h1 m
    rw[this]
   refine⟨λ n m=>?_,?_⟩
   ·rw[List.zip_cons_cons];rcases List.mem_cons.mp m with rfl | m
    ·rw[yBv,beq_self_eq_true];rfl
    ·rw[e n m];exact i1 n m
   ·rw[List.zip_cons_cons,yCw,yBv,beq_self_eq_true];show(x,u)::_=_;congr 1;rw[<- i2];rw[i2];have g:∀ l:List Str,(∀ n∈l,n∈ns)->l.filterMap (λ n=>(((x,u)::ns.zip us).lookup n).map (n,·))=l.filterMap (λ n=>((ns.zip us).lookup n).map (n,·)):=λ l=>by
     induction l with
     | nil=>intro _;rfl
     | cons y l ih=>intro hl;rw[yCw,yCw,e y (hl y xAd),ih λ n m=>hl n (xAg _ m)]
    rw[g ns λ n m=>m,i2]
theorem aN4{F:Fn}(h:aDg F=true):aCG F:=by
 intro kV doc pm an cdv ct us hu;unfold aDg at h
 split at h
 ·rename_i as kd df e;obtain⟨h1,h2⟩:=gQ h;have h1:=oqT h1;rw[e];rw[h1] at hu h2 ⊢;obtain⟨i1,i2⟩:=aGb (oqT h2) hu;have m:((as.map (·.arg)).take (as.map (·.arg)).length).filter (λ n=>(((as.map (·.arg)).zip us).lookup n).isNone)=[]:=by
   rw[yAh,List.filter_eq_nil_iff];intro n hn;rw[i1 n hn];decide
  unfold bindArgs;have q:seqItems? Value.none=(pure qz:Sem (Option (Array qx))):=rfl;simp only[yDb,q,pure_bind,yGi,yDn,yDy,yDv,yGy,yCz,List.drop_nil,List.zip_nil_right,yGk,hu,gt_iff_lt,yBx,decide_false,yAl,yAv,if_false,m,List.isEmpty_nil,yDs,i2,Option.isNone_none]
 ·exact no h
theorem aER:∀ {ns:List Int}{i:Int},i∈ns->yAk i<=PySem.W.WData.weightAll (ns.map PySem.W.WData.int)
 | [],i,h=>by cases h
 | n::r,i,h=>by
   have e:PySem.W.WData.weightAll ((n::r).map PySem.W.WData.int)=yAk n+1+PySem.W.WData.weightAll (r.map PySem.W.WData.int):=rfl;rw[e];rcases List.mem_cons.mp h with z | z
   ·subst z;omega
   ·have:=aER z;omega
theorem aNW{ns:List Int}(h:PySem.W.WData.layableAll [PySem.W.WData.list (ns.map PySem.W.WData.int)]=true):∀ i∈ns,yAk i<=1048576:=λ i hi=>by
 have h1:PySem.W.WData.layable (PySem.W.WData.list (ns.map PySem.W.WData.int))=true:=by
  have:=List.all_eq_true.mp h _ xAd;exact this
 have h2:PySem.W.WData.weight (PySem.W.WData.list (ns.map PySem.W.WData.int))<=2^20:=oqT (gQ h1).2;exact xAi (aER hi) h2
theorem aOj{l:yHg}{n:Nat}{q:qo}{loose:List Str}{XP:(Str->Option qx)->Heap->Prop}{YP:zw->Heap->Prop}{d:DefRec}
 (hn:l.most=qq n) (hdf:d.params.defaults=[])
 (go:∀ (w:zw) (s₀ s₁:qj) (mg mb:Str->Option qx) (fa:qv) (a:qv) (vs:List qx) (ns:List Int),
   PySem.W.Ground q loose [] XP w s₀ mg mb s₁.heap->YP w s₁.heap->mg d.name=qq (.ref fa) ->
   s₁.heap.get? a=qq {cls:=.type "list",data:=.seq vs.toArray }->IntsAre vs ns->ns.length<=n->(∀ i∈ns,yAk i<=1048576)->s₁.gens = #[] ->
   vw (model l.prog w) callerA (.call (.ref fa) ⟨[.ref a],[]⟩) (λ r s'=>r=.ok (.ret (.bool true))/\OldK s₁.heap s'.heap/\s'.os=s₁.os/\AllBare s'.gens) s₁) :
 PySem.W.WalkO q loose XP YP l.row.toRowW d [] (λ f vs=>PySem.call f vs):=by
 intro w s₀ s₁ mg mb G Y fa o pm cd doc dV kV ho hd hcd hD hmg hg args vals as hpre hlay hrd hwl hlo;obtain rfl:dV=.none:=PySem.W.Dflts.none hD hdf;obtain rfl:kV=.none:=PySem.W.Dflts.noKw hD;obtain⟨a,vs,ns,rfl,rfl,hobj,hints,cH⟩:=Att.script_of hn hpre hwl;refine PySem.W.enter_call (codeAny_mono (go w s₀ s₁ mg mb fa a vs ns G Y hmg hobj hints cH (aNW hlay) hg) λ r s' hq=>?_)
 obtain⟨rfl,h2,h3,h4⟩:=hq;exact⟨.inl ⟨.bool true,.bool true,[],rfl,λ _=>rfl,.bool true,Att.post_true l _,λ _=>⟨List.Pairwise.nil,λ _ hm=>(nomatch hm)⟩⟩,h2,h3,h4⟩
theorem law_of{l:yHg}{q:qo}{loose:List Str}{XP:(Str->Option qx)->Heap->Prop}{YP:zw->Heap->Prop}{d:DefRec}{K:Params->FrG}(fs:List Fn)(tb:Tbs)(f D:Nat)(L:Fn)(x:Str)
 (hn:l.most=qq 63) (hdf:d.params.defaults=[]) (hr:Room D callerA) (hY:∀ (w:zw) (h:Heap),YP w h->(K w.params).In h)
 (hk:∀ F∈fs,aA9 fs tb F=true) (hb:∀ F∈fs,aCG F) (hL:fs[f]? = qq L) (hname:L.name=d.name) (hps:L.N.take L.np=[x])
 (top:∀ w:zw,∀ h:Heap,(K w.params).In h->∀ F∈fs,TopFn (K w.params) F) (tbl:∀ w:zw,∀ h:Heap,(K w.params).In h->∀ t∈tb.tb,TabTop (K w.params) w t) (cnl:∀ w:zw,∀ h:Heap,(K w.params).In h->∀ t∈tb.cn,ConTop (K w.params) t) (tbn:∀ w:zw,∀ h:Heap,(K w.params).In h->∀ x∈bltNames,yEz (K w.params) xk x=qq qz)
 (main:∀ ns:List Int,ns.length<=63->(∀ i∈ns,yAk i<=1048576)->∃ call S',aD fs D f=qq (1,call)/\call [.d (.list (ns.map yAn))] []=qq (.d (.bool true),S')) :
 PySem.W.WalkO q loose XP YP l.row.toRowW d [] (λ f vs=>PySem.call f vs):=by
 obtain⟨call,S0,hcall,_⟩:=main [] (by simp) (by simp)
 refine aOj hn hdf λ w s₀ s₁ mg mb fa a vs ns G Y hmg hobj hints cH hsm hg=>?_
 have KX:=hY w _ Y;have tops:∀ F∈fs,∃ fa fd,Fun (K w.params) F.name F.name F.st fa fd/\mg F.name=qq (.ref fa)/\mN (K w.params) fd (F.N.take F.np) []:=λ F hF=>by
  obtain⟨f,oc,od,an,sl,kV,dc,pm,cd,ct,a,l,c,k⟩:=(top w _ KX F hF).ex;have Fu:=aQ8 (st:=F.st) l c k;exact⟨f,_,Fu,PySem.W.mg_of KX G.T.g a,Fu.binds (hb F hF)⟩
 have hblt:∀ x∈bltNames,mg x=qz:=λ y hy=>PySem.W.mg_none_of KX G.T.g (tbn w _ KX y hy)
 have htab:∀ x aW,(x,aW)∈tb.tb->∃ a,mg x=qq (.ref a)/\vQ (K w.params) w a aW:=λ x aW hx=>by
  obtain⟨a,es,ep,a1,l1,c1⟩:=(tbl w _ KX (x,aW) hx).ex;exact⟨a,PySem.W.mg_of KX G.T.g a1,es,ep,l1,c1⟩
 have hcon:∀ x ts,(x,ts)∈tb.cn->∃ a,mg x=qq (.ref a)/\rY (K w.params) a ts:=λ x ts hx=>by
  obtain⟨a,a1,c1⟩:=(cnl w _ KX (x,ts) hx).ex;exact⟨a,PySem.W.mg_of KX G.T.g a1,c1⟩
 obtain⟨fa1,fd,Fu,hmg1,hbi⟩:=tops L (xAl hL);rw[<- hname,hmg1] at hmg;cases hmg;refine L2.law_call (fd:=fd) (sp:=tD (K w.params) 1 call) (CX:=sU) (x:=x) KX G.T.g G.T.b G.T.builtins G.T.nolimit hg hobj hints (xAi cH (by decide)) hr (λ base kb nb=>?_) (λ s u=>?_) (λ H hO hS=>?_) λ _ _ _ z=>z
 ·have P1:=aHJ (P:=l.prog) (w:=w) (base:=base) fs tb hk tops hblt htab hcon D f L 1 call _ _ hL hcall Fu;rw[hps] at P1;exact P1
 ·obtain⟨oc,od,kV,doc,pm,an,cdv,ct,osl,rfl,lk,hcd⟩:=Fu.ex;have:=hb L (xAl hL) kV doc pm an cdv ct [u] (by rw[hps];rfl)
  rw[hps] at this;exact .of_eq this
 ·obtain⟨call',S',hcall',hrun⟩:=main ns cH hsm;rw[hcall] at hcall';cases hcall';refine⟨H,[],[],[.d (.list (ns.map yAn))],.d (.bool true),S',rfl,⟨bZ.refl _,List.nodup_nil,rfl,λ n a ds e=>by simp at e,λ n a e=>by simp at e⟩,.cons (Den.lst hS (DenL.of_ints ns)) .nil,hrun,λ F' L' H' v g R d=>?_⟩
  cases (show Den (K w.params) F' (.bool true) v from d)
  rfl
end EV
namespace EV
open PySem L2
theorem aCt{α:Type}(S:List α)(a b:α):(S++[a]).set S.length b=S++[b]:=by simp
theorem aB2{α:Type}{t:Tg}{fc:FT}{fe:FE}{env:aX}{S:aC}(enc g:α->D)(p:α->Bool):∀ (l:List α) (aH:List D),aH.length+l.length<=qk ->
 (∀ a∈l,∃ e1,t.put (enc a) env=qq e1/\(∀ S',fc e1 S'=qq (p a,S'))/\(p a=true->∀ S',fe e1 S'=qq (.d (g a),S'))) ->
 gX t fc fe S.length env (l.map enc) (S++[qq aH])=qq (S++[qq (aH++(l.filter p).map g)])
 | [],aH,_,_=>by simp[gX]
 | a::l,aH,hz,h=>by
   obtain⟨e1,h1,h2,h3⟩:=h a xAd;have hlt:aH.length<qk:=by simp at hz;omega
   have cT:=λ x (hx:x∈l)=>h x (xAg _ hx)
   simp only[yBb,gX,h1,yCc,h2];cases hp:p a with
   | false =>
     simp only[yAv,if_false];rw[aB2 enc g p l aH (by simp at hz;omega) cT]
     simp[yFy,hp]
   | true =>
     have ea:eI (S++[qq aH]) (.loc S.length) (.d (g a))=qq (.d .none,S++[qq (aH++[g a])]):=by
      unfold eI;simp only[yAf (yAc S.length),yBm,yAw];rw[if_pos hlt,aCt]
     simp only[if_true,h3 hp,yCc,ea];rw[aB2 enc g p l (aH++[g a]) (by simp at hz ⊢;omega) cT]
     simp[yFy,hp]
theorem zF{α:Type}{t:Tg}{fi:FL}{fc:FT}{fe:FE}{env:aX}{S S1:aC}(enc g:α->D)(p:α->Bool)(l:List α)(hi:fi env S=qq (l.map enc,S1))(hz:l.length<=qk)
 (h:∀ a∈l,∃ e1,t.put (enc a) (clr t.slots env)=qq e1/\(∀ S',fc e1 S'=qq (p a,S'))/\(p a=true->∀ S',fe e1 S'=qq (.d (g a),S'))):iI t fi fc fe env S=qq ((l.filter p).map g,S1):=by
 unfold iI;rw[hi];simp only[yCc];rw[aB2 enc g p l [] (by simpa using hz) h]
 simp
theorem aCc{α:Type}{t:Tg}{fc:FT}{fe:FE}{env:aX}{S:aC}(enc g:α->D)(p:α->Bool):∀ (l:List α) (aH:List D),aH.length+l.length<=qk ->
 (∀ a∈l,∃ e1,t.put (enc a) env=qq e1/\(∀ aH,fc e1 (S++[qq aH])=qq (p a,S++[qq aH]))/\(p a=true->∀ aH,fe e1 (S++[qq aH])=qq (.d (g a),S++[qq aH]))) ->
 gX t fc fe S.length env (l.map enc) (S++[qq aH])=qq (S++[qq (aH++(l.filter p).map g)])
 | [],aH,_,_=>by simp[gX]
 | a::l,aH,hz,h=>by
   obtain⟨e1,h1,h2,h3⟩:=h a xAd;have hlt:aH.length<qk:=by simp at hz;omega
   have cT:=λ x (hx:x∈l)=>h x (xAg _ hx)
   simp only[yBb,gX,h1,yCc,h2];cases hp:p a with
   | false =>
     simp only[yAv,if_false];rw[aCc enc g p l aH (by simp at hz;omega) cT]
     simp[yFy,hp]
   | true =>
     have ea:eI (S++[qq aH]) (.loc S.length) (.d (g a))=qq (.d .none,S++[qq (aH++[g a])]):=by
      unfold eI;simp only[yAf (yAc S.length),yBm,yAw];rw[if_pos hlt,aCt]
     simp only[if_true,h3 hp,yCc,ea];rw[aCc enc g p l (aH++[g a]) (by simp at hz ⊢;omega) cT]
     simp[yFy,hp]
theorem aNU{α:Type}{t:Tg}{fi:FL}{fc:FT}{fe:FE}{env:aX}{S S1:aC}(enc g:α->D)(p:α->Bool)(l:List α)(hi:fi env S=qq (l.map enc,S1))(hz:l.length<=qk)
 (h:∀ a∈l,∃ e1,t.put (enc a) (clr t.slots env)=qq e1/\(∀ aH,fc e1 (S1++[qq aH])=qq (p a,S1++[qq aH]))/\(p a=true->∀ aH,fe e1 (S1++[qq aH])=qq (.d (g a),S1++[qq aH]))):iI t fi fc fe env S=qq ((l.filter p).map g,S1):=by
 unfold iI;rw[hi];simp only[yCc];rw[aCc enc g p l [] (by simpa using hz) h]
 simp
theorem uI{α:Type}{t:Tg}{fi:FL}{fe:FE}{env:aX}{S S1:aC}(enc g:α->D)(l:List α)(hi:fi env S=qq (l.map enc,S1))(hz:l.length<=qk)
 (h:∀ a∈l,∃ e1,t.put (enc a) (clr t.slots env)=qq e1/\∀ S',fe e1 S'=qq (.d (g a),S')):iI t fi nB fe env S=qq (l.map g,S1):=by
 rw[zF (fc:=nB) enc g (λ _=>true) l hi hz λ a ha=>let ⟨e1,h1,h2⟩:=h a ha;⟨e1,h1,λ _=>rfl,λ _=>h2⟩]
 rw[List.filter_eq_self.mpr (λ _ _=>rfl)]
theorem aF9{t:Tg}{fb:FS}{S:aC}(P:aX->Prop):∀ (ds:List D) (env:aX),P env->(∀ d∈ds,∀ env,P env->∃ e1 aN,t.put d env=qq e1/\fb e1 S=qq (.nx aN,S)/\P aN) ->
 ∃ aN,fU t fb ds env S=qq (.nx aN,S)/\P aN
 | [],env,h0,_=>⟨env,rfl,h0⟩
 | d::ds,env,h0,h=>by
   obtain⟨e1,aN,h1,h2,h3⟩:=h d xAd env h0;obtain⟨env2,h4,h5⟩:=aF9 P ds aN h3 λ x hx=>h x (xAg _ hx)
   exact⟨env2,by simp only[fU,h1,yCc,h2];exact h4,h5⟩
theorem aM2(n:Nat):∀ lo:Int,kB lo n=(yAm n).map λ k=>yAn (lo+(k:Nat)):=by
 induction n with
 | zero=>intro lo;rfl
 | succ n ih =>
   intro lo;rw[kB,ih,List.range_succ_eq_map,yBb,yBs];congr 1
   ·simp
   ·apply yCh;intro k _;simp only[Function.comp];congr 1
    push_cast
    omega
end EV
namespace BM
theorem pI(n:Nat):0<2^n:=xAf n
noncomputable def oF(n w:Nat):List Bool:=(yAm w).map n.testBit
theorem aMq(n w i:Nat):(oF n w).getD i false=(decide (i<w)&&n.testBit i):=by
 unfold oF
 by_cases h:i<w
 ·simp[yGr,h]
 ·simp[yGr,h]
theorem cX{n w i:Nat}(h:n<2^w)(hi:w<=i):n.testBit i=false:=Nat.testBit_lt_two_pow (xAc h (yAq (by decide) hi))
noncomputable def bl(n:Nat):Nat:=if n=0 then 0 else n.log2+1
theorem rQ{n:Nat}(h:n≠0):bl n=n.log2+1:=if_neg h
theorem mR(n:Nat):n<2^bl n:=by
 by_cases h:n=0
 ·subst h;decide
 ·rw[rQ h];exact Nat.lt_log2_self
theorem oA{n:Nat}(h:n≠0):n.testBit (bl n-1)=true:=by
 rw[rQ h,Nat.add_sub_cancel];have h1:2^n.log2<=n:=Nat.log2_self_le h;have h2:n<2^(n.log2+1):=Nat.lt_log2_self;rw[yFm];have:n/2^n.log2=1:=by
  apply Nat.div_eq_of_lt_le
  ·omega
  ·rw[yFa] at h2;omega
 simp[this]
theorem jS{n w:Nat}(h:n<2^w):bl n<=w:=by
 by_cases h0:n=0
 ·subst h0;simp[bl]
 ·rw[rQ h0];exact(Nat.log2_lt h0).mpr h
theorem aFj{n k:Nat}(h1:n<2^k)(h2:k=0\/n.testBit (k-1)=true):bl n=k:=by
 rcases h2 with h2 | h2
 ·subst h2;have:n=0:=by simpa using h1
  subst this;rfl
 ·have h3:=jS h1;rcases yGj (bl n) k with h4 | h4
  ·exfalso;have:=cX (mR n) (show bl n<=k-1 by omega)
   rw[this] at h2;cases h2
  ·omega
theorem eK(w i:Nat):(2^w-1).testBit i=decide (i<w):=yBf w i
noncomputable def jX(l:List Bool):Nat:=(l.takeWhile id).length
theorem aGo:jX []=0:=rfl
theorem aFS(r:List Bool):jX (true::r)=jX r+1:=by simp[jX]
theorem aE6(r:List Bool):jX (false::r)=0:=by simp[jX]
theorem aGl:∀ (l:List Bool) (i:Nat),i<jX l->l[i]? = qq true
 | [],i,h=>by simp[jX] at h
 | false::r,i,h=>by simp[aE6] at h
 | true::r,0,h=>rfl
 | true::r,i+1,h=>by rw[aFS] at h;simpa using aGl r i (by omega)
theorem aLj(m:Nat):(2*m+1)^^^(2*m+1+1)=2*(m^^^(m+1))+1:=by
 apply xAm;intro i;cases i with
 | zero=>rw[yAs];simp[yDa];omega
 | succ i =>
   rw[yAs,yCp,yCp,yCp];rw[show(2*m+1)/2=m by omega,show(2*m+1+1)/2=m+1 by omega,show(2*(m^^^(m+1))+1)/2=(m^^^(m+1)) by omega,yAs]
theorem aLc(m:Nat):(2*m)^^^(2*m+1)=1:=by
 apply xAm;intro i;cases i with
 | zero=>rw[yAs];simp[yDa]
 | succ i =>
   rw[yAs,yCp,yCp,yCp];rw[show(2*m)/2=m by omega,show(2*m+1)/2=m by omega]
   simp
theorem aMa(x:Nat):bl (2*x+1)=bl x+1:=by
 apply aFj
 ·have:=mR x;rw[yFa];omega
 ·right
  rw[Nat.add_sub_cancel]
  by_cases h:x=0
  ·subst h;rfl
  ·have h2:=oA h;have h3:bl x=(bl x-1)+1:=by rw[rQ h];omega
   rw[h3,yCp,show(2*x+1)/2=x by omega]
   exact h2
theorem aEL(n:Nat):n^^^(n+1)≠0:=by
 intro h;have:n=n+1:=by
  have:=congrArg (λ z=>z^^^(n+1)) h
  simpa [Nat.xor_assoc] using this
 omega
theorem tS{n:Nat}(h:n≠0):1<=bl n:=by rw[rQ h];omega
theorem aL8(n w:Nat):oF n (w+1)=n.testBit 0::oF (n/2) w:=by
 unfold oF;rw[List.range_succ_eq_map,yBb,yBs];congr 1;apply yCh;intro i _;simp only[Function.comp];exact yCp n i
theorem aFb:∀ (w n:Nat),n<2^w->bl (n^^^(n+1))-1=jX (oF n w)
 | 0,n,h=>by
   have:n=0:=by simpa using h
   subst this;rfl
 | w+1,n,h=>by
   rw[aL8];have hd:n/2<2^w:=by rw[yFa] at h;omega
   have ih:=aFb w (n/2) hd;rcases yAp n with p | p
   ·have e:n=2*(n/2):=by omega
    have e2:n^^^(n+1)=1:=by rw[e];exact aLc _
    rw[e2,yDa,p];rw[show bl 1=1 from by decide];simp[aE6]
   ·have e:n=2*(n/2)+1:=by omega
    have e2:n^^^(n+1)=2*((n/2)^^^(n/2+1))+1:=by
     have:=aLj (n/2);rw[<- e] at this;exact this
    rw[e2,aMa,yDa,p];simp only[decide_true,aFS];have:=tS (aEL (n/2));omega
noncomputable def hi(l:List Bool):Nat:=l.length-jX (l.reverse.map (!·))
theorem aLx{n w:Nat}(h:n<2^w):n^^^(2^w-1)<2^w:=yBz h (by have:=pI w;omega)
noncomputable def eD(n w v:Nat):Nat:=if n&&&2^(w-1)=0 then n else n|||((2^v-1)^^^(2^w-1))
theorem aEI(n k:Nat):(n&&&2^k=0) ↔ n.testBit k=false:=by
 constructor
 ·intro h;have:=congrArg (λ z=>z.testBit k) h
  simpa [yAg,Nat.testBit_two_pow_self] using this
 ·intro h;apply xAm;intro i;rw[yAg,yBn,yBl]
  by_cases e:k=i
  ·subst e;simp[h]
  ·simp[e]
theorem aEH{n w v:Nat}(h:n<2^w)(hw:0<w)(hv:w<=v)(i:Nat):(eD n w v).testBit i=if i<w then n.testBit i else (decide (i<v)&&n.testBit (w-1)):=by
 unfold eD;cases e:n.testBit (w-1) with
 | false =>
   rw[if_pos ((aEI _ _).mpr e)]
   split
   ·rfl
   ·rw[cX h (by omega)];simp
 | true =>
   rw[if_neg (λ z=>by rw[(aEI _ _).mp z] at e;cases e)]
   rw[xAp,yAs,eK,eK]
   split
   ·rename_i hi;have:i<v:=by omega
    simp[hi,this]
   ·rename_i hi;rw[cX h (by omega)]
    simp[hi]
theorem tK{n w v:Nat}(h:n<2^w)(hw:0<w)(hv:w<=v):eD n w v<2^v:=by
 apply yCj;intro i hi;rw[aEH h hw hv,if_neg (by omega)]
 have:¬ i<v:=by omega
 simp[this]
noncomputable def aAo(x d:Nat):Nat:=x/2^d*2^d
theorem yL(x d i:Nat):(aAo x d).testBit i=(decide (d<=i)&&x.testBit i):=by
 unfold aAo;rw[Nat.testBit_mul_two_pow]
 by_cases h:d<=i
 ·simp[h,yCt,show i-d+d=i by omega]
 ·simp[h]
noncomputable def qM(x w:Nat):Nat:=2^w-1-x
theorem rF{x w:Nat}(h:x<2^w)(i:Nat):(qM x w).testBit i=(decide (i<w) && !x.testBit i):=by
 unfold qM;rw[show 2^w-1-x=2^w-(x+1) by omega]
 exact Nat.testBit_two_pow_sub_succ h i
noncomputable def vH(l g w:Nat):Nat:=(2^w-1)^^^(2^bl (l^^^g)-1)
theorem aBP{l g w:Nat}(hl:l<2^w)(hg:g<2^w)(i:Nat):(vH l g w).testBit i=(decide (i<w)&&decide (bl (l^^^g)<=i)):=by
 unfold vH;rw[yAs,eK,eK];have hd:bl (l^^^g)<=w:=jS (yBz hl hg)
 by_cases h1:i<w<;>by_cases h2:i<bl (l^^^g)
 ·simp[h1,h2,show ¬ bl (l^^^g)<=i by omega]
 ·simp[h1,h2,show bl (l^^^g)<=i by omega]
 ·omega
 ·simp[h1,h2]
noncomputable def oI(l g w:Nat):Nat:=vH l g w&&&l
noncomputable def tX(l g w:Nat):Nat:=vH l g w^^^oI l g w
theorem aN8{l g w:Nat}(hl:l<2^w)(hg:g<2^w):oI l g w=aAo l (bl (l^^^g)):=by
 apply xAm;intro i;rw[oI,yAg,aBP hl hg,yL]
 by_cases h1:i<w
 ·simp[h1]
 ·rw[cX hl (by omega)];simp
theorem aLt{l g w:Nat}(hl:l<2^w)(hg:g<2^w):tX l g w=aAo (qM l w) (bl (l^^^g)):=by
 apply xAm;intro i;rw[tX,yAs,oI,yAg,aBP hl hg,yL,rF hl]
 by_cases h1:i<w<;>by_cases h2:bl (l^^^g)<=i<;>cases l.testBit i<;>simp[h1,h2]
theorem aWP{l g i:Nat}(h:bl (l^^^g)<=i):l.testBit i=g.testBit i:=by
 have:=cX (mR (l^^^g)) h;rw[yAs] at this;cases a:l.testBit i<;>cases b:g.testBit i<;>simp[a,b] at this ⊢
theorem aMG{l g d:Nat}(h:l^^^g<2^d):l/2^d=g/2^d:=by
 apply xAm;intro i;rw[yCt,yCt];have:=cX h (show d<=i+d by omega)
 rw[yAs] at this;cases a:l.testBit (i+d)<;>cases b:g.testBit (i+d)<;>simp[a,b] at this ⊢
theorem aLB{l m g:Nat}(h1:l<=m)(h2:m<=g):m/2^bl (l^^^g)=l/2^bl (l^^^g):=by
 have e:=aMG (mR (l^^^g));have a:=Nat.div_le_div_right (c:=2^bl (l^^^g)) h1;have b:=Nat.div_le_div_right (c:=2^bl (l^^^g)) h2;omega
theorem aEZ{l m g i:Nat}(h1:l<=m)(h2:m<=g)(hi:bl (l^^^g)<=i):m.testBit i=l.testBit i:=by
 have:=congrArg (λ z=>z.testBit (i-bl (l^^^g))) (aLB h1 h2)
 simp only[yCt] at this;rwa [show i-bl (l^^^g)+bl (l^^^g)=i by omega] at this
theorem aKX{l m g w:Nat}(hl:l<2^w)(hg:g<2^w)(h1:l<=m)(h2:m<=g):m&&&tX l g w=0:=by
 apply xAm;intro i;rw[yAg,aLt hl hg,yL,rF hl,yBl]
 by_cases h:bl (l^^^g)<=i
 ·rw[aEZ h1 h2 h];cases l.testBit i<;>simp
 ·simp[h]
theorem aLk{l m g w:Nat}(hl:l<2^w)(hg:g<2^w)(h1:l<=m)(h2:m<=g):m&&&oI l g w=oI l g w:=by
 apply xAm;intro i;rw[yAg,aN8 hl hg,yL]
 by_cases h:bl (l^^^g)<=i
 ·rw[aEZ h1 h2 h];cases l.testBit i<;>simp
 ·simp[h]
end BM
namespace BM
theorem kT(n k i:Nat):(n/2^k).testBit i=n.testBit (k+i):=by rw[yCt,yDc]
theorem jN(n:Nat):n=0 ↔ ∀ i,n.testBit i=false:=by
 constructor
 ·rintro rfl i;simp
 ·intro h;apply xAm;intro i;simp[h i]
theorem aBD(m k:Nat):m/2^k=0 ↔ ∀ i,k<=i->m.testBit i=false:=by
 rw[jN];constructor
 ·intro h i hi;have:=h (i-k);rw[kT,show k+(i-k)=i by omega] at this
  exact this
 ·intro h i;rw[kT];exact h _ (by omega)
noncomputable def bL(a b:Nat):Nat:=a-(a&&&b)
theorem aOP(a b:Nat):bL a b=a^^^(a&&&b):=by
 have h:(a^^^(a&&&b))+(a&&&b)=a:=by
  have key:∀ (n x y:Nat),x<=n->(x^^^(x&&&y))+(x&&&y)=x:=by
   intro n
   induction n with
   | zero =>
     intro x y hx;have:x=0:=by omega
     subst this;simp
   | succ n ih =>
     intro x y hx
     by_cases h0:x=0
     ·subst h0;simp
     ·have ih':=ih (x/2) (y/2) (by omega)
      have e1:(x^^^(x&&&y))/2=(x/2)^^^((x/2)&&&(y/2)):=by
       apply xAm;intro i;simp[Nat.testBit_div_two]
      have e2:(x&&&y)/2=(x/2)&&&(y/2):=by
       apply xAm;intro i;simp[Nat.testBit_div_two]
      have m1:(x^^^(x&&&y))%2=(x%2+(x&&&y)%2)%2:=by
       have a1:=yDo (x^^^(x&&&y)) 0;have a2:=yDo x 0;have a3:=yDo (x&&&y) 0;simp only[yFs,Nat.div_one] at a1 a2 a3;rw[<- a1,<- a2,<- a3,yAs,yAg];cases x.testBit 0<;>cases y.testBit 0<;>rfl
      have m2:(x&&&y)%2<=x%2:=by
       have a2:=yDo x 0;have a3:=yDo (x&&&y) 0;simp only[yFs,Nat.div_one] at a2 a3;rw[<- a2,<- a3,yAg];cases x.testBit 0<;>cases y.testBit 0<;>decide
      rw[<- e1,<- e2] at ih';omega
  exact key a a b (yAc _)
 unfold bL;omega
theorem kR(a b i:Nat):(bL a b).testBit i=(a.testBit i && !b.testBit i):=by
 rw[aOP,yAs,yAg];cases a.testBit i<;>cases b.testBit i<;>rfl
theorem tT(a b:Nat):bL a b=0 ↔ ∀ i,a.testBit i=true->b.testBit i=true:=by
 rw[jN];constructor
 ·intro h i ha;have:=h i;rw[kR,ha] at this;simpa using this
 ·intro h i;rw[kR];cases ha:a.testBit i with
  | false=>rfl
  | true=>rw[h i ha];rfl
theorem aE1{x k q:Nat}(h:x<2^k)(i:Nat):(x+q*2^k).testBit i=if i<k then x.testBit i else q.testBit (i-k):=by
 rw[yDc,yHh,Nat.testBit_two_pow_mul_add _ h]
theorem aPl{n w:Nat}(h:n<2^w)(hw:0<w):n/2^(w-1)=(n.testBit (w-1)).toNat:=by
 rw[yDo];have:n/2^(w-1)<2:=by
  rw[yEe (xAf _),<- Nat.pow_succ'];rw[show(w-1).succ=w by omega]
  exact h
 exact(yHa this).symm
end BM
namespace BM
open PySem
theorem aJN(a b:Nat):yDu a b=((a&&&b:Nat):Int):=by
 unfold yDu;rw[dqT (yFb a),dqT (yFb b)];simp
theorem bOr(a b:Nat):yGu a b=((a|||b:Nat):Int):=by
 unfold yGu yDu yBp;rw[dqF (show ¬ (0:Int) <= -(a:Int)-1 by omega),dqF (show ¬ (0:Int) <= -(b:Int)-1 by omega)]
 have e1:(-(-(a:Int)-1)-1).toNat=a:=by omega
 have e2:(-(-(b:Int)-1)-1).toNat=b:=by omega
 simp only[e1,e2];omega
theorem aEP:∀ (n a b:Nat),a<=n->(a^^^b)+(a&&&b)=(a|||b)
 | 0,a,b,h=>by
   have:a=0:=by omega
   subst this;simp
 | n+1,a,b,h=>by
   by_cases ha:a=0
   ·subst ha;simp
   have ih:=aEP n (a/2) (b/2) (by omega)
   have x2:=Nat.xor_div_two (a:=a) (b:=b);have a2:=Nat.and_div_two (a:=a) (b:=b);have o2:=Nat.or_div_two (a:=a) (b:=b);have xm:(a^^^b)%2=(a%2+b%2)%2:=by
    have:=yAs a b 0;simp only[yDa] at this;rcases yAp a with p | p<;>rcases yAp b with q | q<;>rcases yAp (a^^^b) with r | r<;>simp[p,q,r] at this ⊢
   have am:(a&&&b)%2=(a%2)*(b%2):=by
    have:=yAg a b 0;simp only[yDa] at this;rcases yAp a with p | p<;>rcases yAp b with q | q<;>rcases yAp (a&&&b) with r | r<;>simp[p,q,r] at this ⊢
   have om:(a|||b)%2=(a%2+b%2)-(a%2)*(b%2):=by
    have:=xAp a b 0;simp only[yDa] at this;rcases yAp a with p | p<;>rcases yAp b with q | q<;>rcases yAp (a|||b) with r | r<;>simp[p,q,r] at this ⊢
   have h1:=yGd (a^^^b) 2;have h2:=yGd (a&&&b) 2;have h3:=yGd (a|||b) 2
   rcases yAp a with p | p<;>rcases yAp b with q | q<;>rw[p,q] at xm am om<;>omega
theorem aVZ(a b:Nat):yGn a b=((a^^^b:Nat):Int):=by
 unfold yGn;rw[aJN,bOr];have:=aEP a a b (yAc _);omega
theorem aLD(a:Nat):((a:Int)).natAbs=a:=by omega
theorem aEW(a:Nat):yAk a=if a=0 then 0 else a.log2+1:=by
 unfold yAk
 by_cases h:a=0
 ·subst h;rfl
 ·rw[if_neg h,if_neg (by simp;omega),aLD]
theorem aLO{a n:Nat}(h:a<2^n):yAk a<=n:=by
 rw[aEW]
 split
 ·exact yGa _
 ·rename_i h0;exact(Nat.log2_lt h0).mpr h
theorem aCb(n:Nat):((2^n:Nat):Int)=(2:Int)^n:=by simp
theorem aWx{x y:Int}(h:y.natAbs.log2<9000):yCr x y=false:=by
 unfold yCr;dsimp only;have:¬ ((if (y==0)=true then 0 else y.natAbs.log2/30+1)>300):=by
  split
  ·omega
  ·omega
 rw[dqF this];rfl
end BM
namespace EV
open PySem L2 BM
theorem dN(i j:Int):bS .Add (.int i) (.int j)=qq (.int (i+j)):=rfl
theorem cQ(i j:Int):bS .Sub (.int i) (.int j)=qq (.int (i-j)):=rfl
theorem cY(a b:Nat):bS .BitAnd (.int a) (.int b)=qq (.int ((a&&&b:Nat):Int)):=by simp only[bS,kY,aJN]
theorem cN(a b:Nat):bS .BitOr (.int a) (.int b)=qq (.int ((a|||b:Nat):Int)):=by simp only[bS,kY,bOr]
theorem mD(a b:Nat):bS .BitXor (.int a) (.int b)=qq (.int ((a^^^b:Nat):Int)):=by simp only[bS,kY,aVZ]
theorem gC{w:Nat}(h1:w<=100000):bS .LShift (.int 1) (.int w)=qq (.int ((2^w:Nat):Int)):=by
 have c:(0:Int)<=w/\(yAk 1:Int)+w<=2^27:=⟨by omega,by(have:(yAk 1:Int)=1:=(by decide);omega)⟩
 simp only[bS,kY];rw[if_pos c,Int.one_mul,yAr,aCb]
theorem uK{n a k:Nat}(h:n<2^a)(h2:a+k<=100000):bS .LShift (.int n) (.int k)=qq (.int ((n*2^k:Nat):Int)):=by
 have c:(0:Int)<=(k:Nat)/\((yAk (n:Int):Nat):Int)+(k:Nat)<=2^27:=by
  have:=aLO h;exact⟨by omega,by omega⟩
 simp only[bS,kY];rw[if_pos c,yAr,<- aCb];congr 2
theorem fO{i j:Int}(h:0<j):bS .Mod (.int i) (.int j)=qq (.int (i%j)):=by
 simp only[bS,kY];rw[if_pos (by omega),Int.fmod_eq_emod_of_nonneg _ (by omega)]
theorem pN{i j:Int}(h:0<j)(h2:j<2^64):bS .FloorDiv (.int i) (.int j)=qq (.int (i/j)):=by
 simp only[bS,kY];have h3:j.natAbs.log2<9000:=Nat.lt_trans ((Nat.log2_lt (by omega)).mpr (show j.natAbs<2^64 by omega)) (by decide)
 rw[if_pos ⟨by omega,aWx h3⟩,Int.fdiv_eq_ediv_of_nonneg _ (by omega)]
theorem aLu{i j:Int}(h1 : -(2^64)<j)(h2:j<2^64):oK i j=true:=by
 unfold oK;have:=intBits_le_64 h1 h2;have h:¬ (yAk j>yq):=Nat.not_lt.mpr this;rw[dqF h];simp
theorem aLn{i j:Int}(h1 : -(2^64)<i)(h2:i<2^64):oK i j=true:=by
 unfold oK;have:=intBits_le_64 h1 h2;have h:¬ (yAk i>yq):=Nat.not_lt.mpr this;rw[dqF h];simp
theorem uU{i j:Int}(h1 : -(2^64)<j)(h2:j<2^64):bS .Mult (.int i) (.int j)=qq (.int (i*j)):=by
 show(if oK i j=true then qq (yAn (i*j)) else qz)=_
 rw[if_pos (aLu h1 h2)]
theorem pK{i j:Int}(h1 : -(2^64)<i)(h2:i<2^64):bS .Mult (.int i) (.int j)=qq (.int (i*j)):=by
 show(if oK i j=true then qq (yAn (i*j)) else qz)=_
 rw[if_pos (aLn h1 h2)]
theorem aHS{xs ys:List D}(h:xs.length+ys.length<=1000000):bS .Add (.list xs) (.list ys)=qq (.list (xs++ys)):=by
 show(if xs.length+ys.length<=qk then qq (yHl (xs++ys)) else qz)=_
 rw[if_pos (by rw[zj];omega)]
theorem aN6{α:Type}(k:Nat)(x:α):wQ k [x]=yAd k x:=by
 unfold wQ
 induction k with
 | zero=>rfl
 | succ k ih=>rw[yAu,yCv,ih,yAu];rfl
theorem aO(i j:Int):aM .Eq (.int i) (.int j)=qq (.bool (i==j)):=rfl
theorem iX(i j:Int):aM .NotEq (.int i) (.int j)=qq (.bool (!(i==j))):=rfl
theorem eN(i j:Int):aM .Lt (.int i) (.int j)=qq (.bool (decide (i<j))):=rfl
theorem rR(i j:Int):aM .Gt (.int i) (.int j)=qq (.bool (decide (j<i))):=rfl
theorem aAw(i j:Int):aM .GtE (.int i) (.int j)=qq (.bool (decide (j<=i))):=rfl
end EV
namespace EV
open PySem L2 BM
theorem oB{α β:Type}(a:α)(f:α->Option β):(qq a).bind f=f a:=of_eq_true (eq_self (f a))
theorem oM{α β:Type}(a:α)(f:α->β):(qq a).map f=qq (f a):=of_eq_true (eq_self (qq (f a)))
noncomputable def cl(fs:List Fn)(d f:Nat)(ws:List W)(S:aC):Option (W×aC):=match aD fs d f with
 | some (np,call)=>if ws.length=np then call ws S else qz
 | none=>qz
theorem aB1(fs:List Fn)(d f:Nat)(fa:FA)(env:aX)(S:aC):kU (aD fs d) f fa env S=(fa env S).bind λ p=>cl fs d f p.1 p.2:=by
 unfold kU cl aAG;cases aD fs d f with
 | none=>cases fa env S<;>rfl
 | some q=>rfl
theorem aY{fs:List Fn}{f:Nat}{F:Fn}(h:fs[f]? = qq F)(d:Nat)(ws:List W)(S:aC)(hw:ws.length=F.np):cl fs (d+1) f ws S=fD (xs (aD fs d) F.body) F.N.length ws S:=by
 have e:aD fs (d+1) f=qq (F.np,fD (xs (aD fs d) F.body) F.N.length):=by
  show(fs[f]?).map _=_;rw[h];rfl
 unfold cl;rw[e];exact if_pos hw
theorem aPP{fs:List Fn}{f d:Nat}{F:Fn}{w r:W}{S:aC}(h:fs[f]? = qq F)(hn:F.np=1)(e:cl fs (d+1) f [w] []=qq (r,S)):∃ call S',aD fs (d+1) f=qq (1,call)/\call [w] []=qq (r,S'):=by
 refine⟨fD (xs (aD fs d) F.body) F.N.length,S,?_,?_⟩
 ·show(fs[f]?).map _=_;rw[h,<- hn];rfl
 ·rw[<- aY h d [w] [] (by rw[hn];rfl)]
  exact e
theorem szT{n:Nat}(h:n<=1000):(n<=qk)=True:=by
 rw[zj];exact eq_true (by omega)
end EV
namespace EV
open PySem L2 BM
theorem aBW(w:Nat):((2^w:Nat):Int)-1=((2^w-1:Nat):Int):=by
 have:=pI w;omega
theorem qX{fa:FE}{env:aX}{S S1:aC}{w:Nat}(h:fa env S=qq (.d (.int w),S1))(hw:w<=1000000):lI fa env S=qq ((yAm w).map (λ k=>yAn (k:Nat)),S1):=by
 have c : -(2^62)<=((w:Nat):Int)/\((w:Nat):Int)<2^62:=⟨by omega,by omega⟩
 unfold lI;rw[h,oB];simp only[];rw[if_pos c,aM2,yAr];congr 2;apply yCh;intro k _;rw[Int.zero_add]
theorem aGj{i:Nat}{env:aX}{S:aC}{w:W}(h:env[i]? = qq (qq w)):hJ i env S=qq (w,S):=by
 unfold hJ;rw[h]
theorem iW{xs:List D}{k:Nat}{x:D}(h:xs[k]? = qq x):aP (.list xs) (.int k)=qq x:=by
 have hl:k<xs.length:=(gIm h).1;show(jM xs.length ((k:Nat):Int)).bind (λ j=>xs[j]?)=qq x
 unfold jM;rw[if_pos (by omega),if_pos (by omega),oB,yAr]
 exact h
theorem gN{xs:List D}{k:Nat}{x:D}(h:xs[k]? = qq x):aP (.tuple xs) (.int k)=qq x:=iW (xs:=xs) h
theorem aSz(xs:List D)(k:Nat):eB xs qz (qq (k:Nat))=xs.take k:=by
 unfold eB;rw[HT.sIx_none,HT.sIx_nat,yEl,yGk];rcases Nat.le_total k xs.length with h | h
 ·rw[yFi h]
 ·rw[yEo h,yAh,yBq h]
theorem aRA{t:Tg}{fi:FL}{fb:FS}{env:aX}{S S1:aC}{ds:List D}(P:aX->Prop)(hi:fi env S=qq (ds,S1))(h0:P env)(h:∀ d∈ds,∀ env,P env->∃ e1 aN,t.put d env=qq e1/\fb e1 S1=qq (.nx aN,S1)/\P aN) :
 ∃ aN,dC t fi fb env S=qq (.nx aN,S1)/\P aN:=by
 obtain⟨aN,h1,h2⟩:=aF9 (t:=t) (fb:=fb) (S:=S1) P ds env h0 h;exact⟨aN,by unfold dC;rw[hi,oB];exact h1,h2⟩
theorem aGS{t:Tg}{fb:FS}(P:Nat->aX->aC->Prop):∀ (ds:List D) (i:Nat) (env:aX) (S:aC),P i env S->(∀ j d env S,ds[j]? = qq d->P (i+j) env S->∃ e1 aN S',t.put d env=qq e1/\fb e1 S=qq (.nx aN,S')/\P (i+j+1) aN S') ->
 ∃ aN S',fU t fb ds env S=qq (.nx aN,S')/\P (i+ds.length) aN S'
 | [],i,env,S,h0,_=>⟨env,S,rfl,h0⟩
 | d::ds,i,env,S,h0,h=>by
   obtain⟨e1,aN,S',h1,h2,h3⟩:=h 0 d env S rfl h0;obtain⟨env2,S2,h4,h5⟩:=aGS P ds (i+1) aN S' h3 λ j d' env S a b=>by
    have:=h (j+1) d' env S (by simpa using a) (by rw[show i+(j+1)=i+1+j by omega];exact b)
    rw[show i+(j+1)=i+1+j by omega] at this
    exact this
   refine⟨env2,S2,by simp only[fU,h1,oB,h2];exact h4,?_⟩
   have:i+(d::ds).length=i+1+ds.length:=by simp;omega
   rw[this];exact h5
theorem pQ{t:Tg}{fi:FL}{fb:FS}{env:aX}{S S1:aC}{ds:List D}(P:Nat->aX->aC->Prop)(hi:fi env S=qq (ds,S1))(h0:P 0 env S1)(h:∀ j d env S,ds[j]? = qq d->P j env S->∃ e1 aN S',t.put d env=qq e1/\fb e1 S=qq (.nx aN,S')/\P (j+1) aN S') :
 ∃ aN S',dC t fi fb env S=qq (.nx aN,S')/\P ds.length aN S':=by
 obtain⟨aN,S',h1,h2⟩:=aGS (t:=t) (fb:=fb) P ds 0 env S1 h0 λ j d env S a b=>by
  have:=h j d env S a (by simpa using b)
  simpa using this
 exact⟨aN,S',by unfold dC;rw[hi,oB];exact h1,by simpa using h2⟩
theorem mH{xs:List D}:dQ [.list xs]=qq (.int xs.length):=rfl
theorem mK{xs:List D}:dQ [.tuple xs]=qq (.int xs.length):=rfl
theorem kZ{xs:List D}:vI [.list xs]=qq (.tuple xs):=rfl
theorem lA{xs:List D}:vI [.tuple xs]=qq (.tuple xs):=rfl
theorem aCR{i:Int}:qK [.int i]=qq (.int i):=rfl
theorem aCX{k:Bool}:qK [.bool k]=qq (.int (if k then 1 else 0)):=rfl
theorem mC(n k:Nat):bS .RShift (.int n) (.int k)=qq (.int ((n/2^k:Nat):Int)):=by
 have c:(0:Int)<=(k:Nat):=by omega
 simp only[bS,kY];rw[if_pos c,yAr,<- aCb];congr 2
theorem aGB(a b:Nat):bS .BitAnd (.int a) (.int (yBp (b:Nat)))=qq (.int ((bL a b:Nat):Int)):=by
 have h1:decide ((0:Int)<=(a:Nat))=true:=dqT (by omega)
 have h2:decide ((0:Int)<=yBp (b:Nat))=false:=dqF (by unfold yBp;omega)
 have h3:(yBp (yBp (b:Nat))).toNat=b:=by unfold yBp;omega
 have h4:a&&&b<=a:=yCl;simp only[bS,kY];unfold yDu;rw[h1,h2];simp only[h3,yAr];congr 2;unfold bL;omega
theorem aGV(i:Int):oS .Invert (.int i)=qq (.int (yBp i)):=rfl
theorem aGg{x:D}{k:Nat}(h:k<=1000):bS .Mult (.tuple [x]) (.int k)=qq (.tuple (yAd k x)):=by
 show(if 0<=((k:Nat):Int)/\((k:Nat):Int)<=1000 then qq (yDf (yAd ((k:Nat):Int).toNat x)) else qz)=_
 rw[if_pos ⟨by omega,by omega⟩,yAr]
theorem aF4{α:Type}{t:Tg}{fe:FE}{env:aX}{n N:Nat}(enc:α->D)(I:Nat->aC->Prop)(Q:α->D->Prop):∀ (l:List α) (aH:List D) (j:Nat) (S:aC),aH.length+l.length<=qk->j+l.length<=N->S.length=n->I j S ->
 (∀ a∈l,∃ e1,t.put (enc a) env=qq e1/\∀ j S aH,j<N->S.length=n->I j S->∃ v S',fe e1 (S++[qq aH])=qq (.d v,S'++[qq aH])/\S'.length=n/\I (j+1) S'/\Q a v) ->
 ∃ vs S',gX t nB fe n env (l.map enc) (S++[qq aH])=qq (S'++[qq (aH++vs)])/\S'.length=n/\I (j+l.length) S'/\vs.length=l.length/\∀ (i:Nat) (a:α),l[i]? = qq a->∃ v,vs[i]? = qq v/\Q a v
 | [],aH,j,S,_,_,hn,hI,_=>⟨[],S,by simp[gX],hn,hI,rfl,by simp⟩
 | a::l,aH,j,S,hz,hN,hn,hI,h=>by
   obtain⟨e1,h1,h2⟩:=h a xAd;obtain⟨v,S1,h3,h4,h5,h6⟩:=h2 j S aH (by simp at hN;omega) hn hI
   have hlt:aH.length<qk:=by simp at hz;omega
   have ea:eI (S1++[qq aH]) (.loc n) (.d v)=qq (.d .none,S1++[qq (aH++[v])]):=by
    unfold eI;subst h4;simp only[yAf (yAc S1.length),yBm,yAw];rw[if_pos hlt,aCt]
   obtain⟨vs,S2,h7,h8,h9,h10,h11⟩:=aF4 enc I Q l (aH++[v]) (j+1) S1 (by simp at hz ⊢;omega) (by simp at hN;omega) h4 h5 λ x hx=>h x (xAg _ hx)
   refine⟨v::vs,S2,?_,h8,by rw[yBg,show j+(l.length+1)=j+1+l.length by omega];exact h9,by simp[h10],λ i b hb=>?_⟩
   ·simp only[yBb,gX,h1,nB,oB,if_true,h3,ea];rw[h7];simp
   ·cases i with
    | zero=>simp at hb;subst hb;exact⟨v,rfl,h6⟩
    | succ i=>simpa using h11 i b (by simpa using hb)
theorem zH{α:Type}{t:Tg}{fi:FL}{fe:FE}{env:aX}{S S1:aC}(enc:α->D)(I:Nat->aC->Prop)(Q:α->D->Prop)(l:List α)(hi:fi env S=qq (l.map enc,S1))(hz:l.length<=qk)(h0:I 0 S1)
 (h:∀ a∈l,∃ e1,t.put (enc a) (clr t.slots env)=qq e1/\∀ j S aH,j<l.length->S.length=S1.length->I j S->∃ v S',fe e1 (S++[qq aH])=qq (.d v,S'++[qq aH])/\S'.length=S1.length/\I (j+1) S'/\Q a v) :
 ∃ vs S',iI t fi nB fe env S=qq (vs,S')/\S'.length=S1.length/\I l.length S'/\vs.length=l.length/\∀ (i:Nat) (a:α),l[i]? = qq a->∃ v,vs[i]? = qq v/\Q a v:=by
 obtain⟨vs,S',h1,h2,h3,h4,h5⟩:=aF4 (fe:=fe) (n:=S1.length) (N:=l.length) enc I Q l [] 0 S1 (by simpa using hz) (by simp) rfl h0 h
 refine⟨vs,S',?_,h2,by simpa using h3,h4,h5⟩
 unfold iI;rw[hi];simp only[oB];rw[h1];simp[<- h2]
theorem aAk{α:Type}(a:α):yEk 1 [a]=[a]:=rfl
theorem aAs{α:Type}(a b:α):yEk 1 [a,b]=[a]:=rfl
theorem aAf{α:Type}(a b:α):yEk 2 [a,b]=[a,b]:=rfl
end EV
namespace EV
open PySem L2 BM
section
variable {C : Calls}{env : aX}{S S1 S2 S3 S4 : aC}{a b c e es r : E}
theorem aUI{i:Nat}{w:W}(h:env[i]? = qq (qq w)):ev C (.var i) env S=qq (w,S):=by rw[uZ];exact aGj h
theorem aS9{i:Int}:ev C (.int i) env S=qq (.d (.int i),S):=rfl
theorem aV5{i:Bool}:ev C (.bl i) env S=qq (.d (.bool i),S):=rfl
theorem aSW:ev C .non env S=qq (.d .none,S):=rfl
theorem aTL{i:Str}:ev C (.str i) env S=qq (.d (.str i),S):=rfl
theorem aTU{op:jo}{x y z:D}(ha:ev C a env S=qq (.d x,S1))(hb:ev C b env S1=qq (.d y,S2))(hz:bS op x y=qq z):ev C (.bin op a b) env S=qq (.d z,S2):=by
 simp only[aH4,qD,f2,ha,oB,hb,gK,dr,hz]
theorem aVt{op:yz}{x z:D}(ha:ev C a env S=qq (.d x,S1))(hz:oS op x=qq z):ev C (.un op a) env S=qq (.d z,S1):=by
 simp only[aI1,xK,f1,ha,oB,fZ,dr,hz]
theorem aJs{op:vj}{x y z:D}(ha:ev C a env S=qq (.d x,S1))(hb:ev C b env S1=qq (.d y,S2))(hz:aM op x y=qq z):ev C (.cmp op a b) env S=qq (.d z,S2):=by
 simp only[aC4,mY,f2,ha,oB,hb,gK,dr,hz]
theorem aV9{wa:W}{x y z:D}(ha:ev C a env S=qq (wa,S1))(hb:ev C b env S1=qq (.d y,S2))(hx:dr S2 wa=qq x)(hz:aP x y=qq z):ev C (.ix a b) env S=qq (.d z,S2):=by
 have h2:dr S2 (.d y)=qq y:=rfl;simp only[aAO,nJ,f2,ha,oB,hb,gK,hx,h2,hz]
theorem aVi{x:D}:dr S (.d x)=qq x:=rfl
theorem aS0{n:Nat}{l:List D}(h:S[n]? = qq (qq l)):dr S (.loc n)=qq (.list l):=by
 simp only[dr,h]
theorem aSk:nM S []=qq []:=rfl
theorem aTD{w:W}{ws:List W}{x:D}{ds:List D}(h:dr S w=qq x)(k:nM S ws=qq ds):nM S (w::ws)=qq (x::ds):=by
 simp only[nM,h,k,oB]
noncomputable def slD(d:D)(l h:Option Int):Option D:=match d with
 | .list xs=>qq (.list (eB xs l h))
 | .tuple xs=>qq (.tuple (eB xs l h))
 | _=>qz
theorem aWz{lo hi:E}{wa:W}{l h:Option Int}{x z:D}(ha:ev C a env S=qq (wa,S1))(hl:ov C lo env S1=qq (l,S2))(hh:ov C hi env S2=qq (h,S3))(hx:dr S3 wa=qq x)(hz:slD x l h=qq z):ev C (.sl a lo hi) env S=qq (.d z,S3):=by
 simp only[aC6,jI,ha,oB,hl,hh,hx];cases x<;>first | (cases hz;done) | (cases hz;rfl)
theorem aVv:ov C .no env S=qq (qz,S):=rfl
theorem aRc{i:Int}(h:ev C a env S=qq (.d (.int i),S1)):ov C (.cons a .nil) env S=qq (qq i,S1):=by
 simp only[aHv,mO,h,oB]
theorem aTk{o:E}{wo wa w:W}(ho:ev C o env S=qq (wo,S1))(ha:ev C a env S1=qq (wa,S2))(h:eI S2 wo wa=qq (w,S3)):ev C (.app o a) env S=qq (w,S3):=by
 simp only[aIx,jZ,f2,ho,oB,ha,h]
theorem aSM{p:Bool}{R:Option (W×aC)}(ht:tv C c env S=qq (p,S1))(k:cond p (ev C a env S1) (ev C b env S1)=R):ev C (.ite c a b) env S=R:=by
 rw[<- k];cases p<;>simp only[aH5,wU,ht,oB,yAv,if_false,if_true,cond_true,cond_false]
theorem aUh{p:Bool}{R:Option (W×aC)}(ha:ev C a env S=qq (.d (.bool p),S1))(k:cond p (ev C b env S1) (qq (.d (.bool false),S1))=R):ev C (.and a b) env S=R:=by
 rw[<- k];cases p<;>simp only[aIG,vO,ha,oB,cond_true,cond_false]
theorem aVH{p:Bool}{R:Option (W×aC)}(ha:ev C a env S=qq (.d (.bool p),S1))(k:cond p (qq (.d (.bool true),S1)) (ev C b env S1)=R):ev C (.or a b) env S=R:=by
 rw[<- k];cases p<;>simp only[aJJ,wH,ha,oB,cond_true,cond_false]
theorem aTt{p:Bool}(ha:ev C a env S=qq (.d (.bool p),S1)):ev C (.not a) env S=qq (.d (.bool (!p)),S1):=by
 simp only[aHY,vT,ha,oB]
theorem aU2{ty:Ty}{wa:W}{x z:D}(ha:ev C a env S=qq (wa,S1))(hx:dr S1 wa=qq x)(hz:fQ ty x=qq z):ev C (.isi a ty) env S=qq (.d z,S1):=by
 simp only[aIj,f1,ha,oB,fZ,hx,hz]
theorem aQg{fs:List Fn}{d f:Nat}{ws:List W}{w:W}(ha:av (aD fs d) es env S=qq (ws,S1))(hc:cl fs d f ws S1=qq (w,S2)):ev (aD fs d) (.call f es) env S=qq (w,S2):=by
 rw[aCx,aB1,ha,oB];exact hc
theorem aU8{t:B}{ws:List W}{ds:List D}{z:D}(ha:av C es env S=qq (ws,S1))(hd:nM S1 ws=qq ds)(hz:t.g ds=qq z):ev C (.blt t es) env S=qq (.d z,S1):=by
 simp only[aHW,qE,ha,oB,hd,hz]
theorem aU1{ws:List W}{ds:List D}(ha:av C es env S=qq (ws,S1))(hd:qH ws=qq ds)(hl:ds.length<=1000):ev C (.tup es) env S=qq (.d (.tuple ds),S1):=by
 simp only[aIF,wD,ha,oB,hd,szT hl,if_true]
theorem aVr{ds:List D}(h:lv C a env S=qq (ds,S1)):ev C (.fz a) env S=qq (.d (.list ds),S1):=by
 simp only[aC7,cP,h,oB]
theorem aST{ws:List W}{ds:List D}(ha:av C es env S=qq (ws,S1))(hd:qH ws=qq ds)(hl:ds.length<=1000):lv C (.lst es) env S=qq (ds,S1):=by
 simp only[aIa,wK,ha,oB,hd,szT hl,if_true]
theorem aS2{ds:List D}(h:lv C a env S=qq (ds,S1)):ev C (.new a) env S=qq (.loc S1.length,S1++[qq ds]):=by
 simp only[aCP,iO,h,oB]
theorem aUp:av C .nil env S=qq ([],S):=rfl
theorem aSc{w:W}{ws:List W}(ha:ev C a env S=qq (w,S1))(hr:av C r env S1=qq (ws,S2)):av C (.cons a r) env S=qq (w::ws,S2):=by
 simp only[aCH,eO,ha,oB,hr]
theorem aQL{op:vj}{x y:D}{p:Bool}(ha:ev C a env S=qq (.d x,S1))(hb:ev C b env S1=qq (.d y,S2))(hz:aM op x y=qq (.bool p)):tv C (.cmp op a b) env S=qq (p,S2):=by
 have:=aJs ha hb hz;rw[aC4] at this;simp only[aIA,dA,this,oB,dr,qJ]
theorem aTK{x:D}{p:Bool}(ht:tv C e=dA (ev C e))(ha:ev C e env S=qq (.d x,S1))(hz:qJ x=qq p):tv C e env S=qq (p,S1):=by
 rw[ht];simp only[dA,ha,oB,dr,hz]
theorem aSq{p:Bool}{R:Option (Bool×aC)}(ha:tv C a env S=qq (p,S1))(hb:cond p (tv C b env S1) (qq (false,S1))=R):tv C (.and a b) env S=R:=by
 rw[<- hb];cases p<;>simp only[aH8,wL,ha,oB,yAv,if_false,if_true,cond_true,cond_false]
theorem aUx{p:Bool}{R:Option (Bool×aC)}(ha:tv C a env S=qq (p,S1))(hb:cond p (qq (true,S1)) (tv C b env S1)=R):tv C (.or a b) env S=R:=by
 rw[<- hb];cases p<;>simp only[aJb,xC,ha,oB,yAv,if_false,if_true,cond_true,cond_false]
theorem aR2{p:Bool}(ha:tv C a env S=qq (p,S1)):tv C (.not a) env S=qq (!p,S1):=by
 simp only[aIO,wI,ha,oB]
theorem sN{α:Type}{x y z:α}(h:x=z):cond true x y=z:=h
theorem sI{α:Type}{x y z:α}(h:y=z):cond false x y=z:=h
variable {s t u : Sx}{aN : aX}{R : Option (Fl×aC)}{w : W}
theorem mM{fl:Fl}(h:xs C s env S=qq (fl,S1))(k:qq (fl,S1)=R):xs C s env S=R:=h.trans k
theorem sD{w:W}{R:Option (W×aC)}(h:ev C e env S=qq (w,S1))(k:qq (w,S1)=R):ev C e env S=R:=h.trans k
theorem rV{p:Bool}{R:Option (Bool×aC)}(h:tv C e env S=qq (p,S1))(k:qq (p,S1)=R):tv C e env S=R:=h.trans k
theorem sF{l:List D}{R:Option (List D×aC)}(h:lv C e env S=qq (l,S1))(k:qq (l,S1)=R):lv C e env S=R:=h.trans k
theorem aQW:xs C .skip env S=qq (.nx env,S):=rfl
noncomputable def sK(C:Calls)(t:Sx)(fl:Fl)(S:aC):Option (Fl×aC):=match fl with
 | .nx e=>xs C t e S
 | fl=>qq (fl,S)
theorem aTS{fl:Fl}(h:xs C s env S=qq (fl,S1))(k:sK C t fl S1=R):xs C (.seq s t) env S=R:=by
 rw[<- k];cases fl<;>simp only[iV,dI,h,oB,sK]
theorem aWq(k:xs C t aN S=R):sK C t (.nx aN) S=R:=k
theorem aVq(k:qq (.rt w,S)=R):sK C t (.rt w) S=R:=k
theorem aWf(k:qq (.bk aN,S)=R):sK C t (.bk aN) S=R:=k
theorem aVw(k:qq (.ct aN,S)=R):sK C t (.ct aN) S=R:=k
theorem aTT{o i:E}{wo wi we:W}(he:ev C e env S=qq (we,S1))(ho:ev C o env S1=qq (wo,S2))(hi:ev C i env S2=qq (wi,S3))(h:jU S3 wo wi we=qq S4):xs C (.put o i e) env S=qq (.nx env,S4):=by
 simp only[aIP,lQ,he,oB,ho,hi,h]
theorem aT0{i:Nat}(h:ev C e env S=qq (w,S1))(he:env.set i (qq w)=aN):xs C (.set i e) env S=qq (.nx aN,S1):=by
 rw[<- he];simp only[aAl,iP,h,oB]
theorem aUO(h:ev C e env S=qq (w,S1)):xs C (.ret e) env S=qq (.rt w,S1):=by
 simp only[aAp,mW,h,oB]
theorem aSg(h:ev C e env S=qq (w,S1)):xs C (.expr e) env S=qq (.nx env,S1):=by
 simp only[aHe,vS,h,oB]
theorem aUB{p:Bool}(ht:tv C a env S=qq (p,S1))(k:cond p (xs C s env S1) (xs C t env S1)=R):xs C (.ifs a s t) env S=R:=by
 rw[<- k];cases p<;>simp only[vE,oZ,ht,oB,yAv,if_false,if_true,cond_true,cond_false]
theorem aQo{tg:Tg}(h:dC tg (lv C a) (xs C s) env S=R):xs C (.loop tg a s) env S=R:=h
theorem aCO{body:Sx}{n:Nat}{ws:List W}{x:D}(he:ws.map qq++yAd (n-ws.length) qz=env)(k:xs C body env S=qq (.rt (.d x),S1))(hS:S1.take S.length=S2):fD (xs C body) n ws S=qq (.d x,S2):=by
 subst he;simp only[fD,k,oB,lS,hS]
end
end EV
namespace K62
open PySem L2 EV BM
local macro_rules
 | `(tactic| omega)=>`(tactic| first | (with_reducible assumption) | (with_reducible exact yAc _) | (with_reducible exact Nat.le_add_right _ _) | (with_reducible exact xAi ‹_› (by decide)) | (with_reducible exact xAc ‹_› (by decide)) | (with_reducible exact xAj ‹_› (by decide)) | (with_reducible exact yEu ‹_›) | (with_reducible exact xAi (yEu ‹_›) (by decide)) | (with_reducible exact xAi (Nat.add_le_add_right ‹_› _) (by decide)) | (with_reducible exact Nat.add_le_add_left (by decide) _) | (with_reducible exact Nat.le_of_not_lt ‹_›) | (with_reducible exact Nat.lt_of_not_le ‹_›) | (with_reducible exact Nat.not_lt_of_le ‹_›) | (with_reducible exact Nat.not_le_of_lt ‹_›) | (with_reducible exact xAc ‹_› ‹_›) | (with_reducible exact xAi ‹_› ‹_›) | (with_reducible exact xAi ‹_› (Nat.add_le_add_left (by decide) _)) | (with_reducible exact xAi ‹_› (xAi (Nat.add_le_add_right ‹_› _) (by decide))) | omega (config:={}))
 | `(tactic| simp only[evs])=>`(tactic| simp only[evs,True])
 | `(tactic| simp only[evs,$ls,*])=>`(tactic| simp only[uZ,aQ4,aUH,aRa,aRj,aH4,aI1,aC4,aIG,aJJ,aHY,aH5,aIF,aAO,aQl,aR3,aC6,aCx,aHW,aIj,aON,aIx,aC7,aCP,aH8,aJb,aIO,aR8,aIA,aTW,aPM,aSb,aSv,aQP,aTw,aT6,aH1,aCH,aTz,aHv,aIa,aHb,aHt,aOh,vN,rH,uM,aP5,uJ,aCJ,iV,aHe,aAp,vE,aAl,aCo,aOE,aIP,zX,dI,iP,aAN,oZ,mW,aTr,vS,qA,qD,xK,mY,dA,f2,f1,gK,fZ,dr,nM,fC,hJ,lS,aB1,eO,jY,wD,wK,cP,qE,nJ,wL,xC,wI,vO,wH,vT,wU,qH,B.g,aU4,aUQ,aSZ,aSN,aVg,qJ,Tg.put,oD,Tg.slots,yBb,yGi,yBg,yCz,yFj,yGv,yEb,yAu,yEs,yEp,yDn,yAw,yBj,yDw,yFk,oB,oM,yAh,yDi,yDs,yAv,if_true,if_false,reduceIte,yHb,Nat.reduceEqDiff,szT,List.take_nil,List.take_zero,aRm,aA6,aAS,oQ,aAk,aAs,aAf,$ls,*])
 | `(tactic| simp only[gc,$as,*])=>`(tactic| first | (with_reducible assumption) | (focus (simp only[$as,*]<;>with_reducible rfl)))
 | `(tactic| simp only[gl,$as,*])=>`(tactic| first | (focus (simp only[$as,*]<;>rfl)) | (focus rfl))
 | `(tactic| simp only[go,$as,*])=>`(tactic| first | with_reducible exact aS9 | with_reducible exact aTL | with_reducible exact aV5 | with_reducible exact aSW | with_reducible exact aUp | with_reducible exact aQW | with_reducible exact aVv | with_reducible exact aVi | with_reducible exact aSk | ((with_reducible apply aUI);rfl) | ((with_reducible apply aSc);simp only[go,$as,*];simp only[go,$as,*]) | ((with_reducible apply aTS);simp only[go,$as,*];first | ((with_reducible apply aWq);simp only[go,$as,*]) | ((with_reducible apply aVq);rfl) | ((with_reducible apply aWf);rfl) | ((with_reducible apply aVw);rfl)) | ((with_reducible apply aT0);simp only[go,$as,*];(focus (dsimp only[yDw,yFk]<;>rfl))) | ((with_reducible apply aUO);simp only[go,$as,*]) | ((with_reducible apply aSg);simp only[go,$as,*]) | ((with_reducible apply aQg);simp only[go,$as,*];simp only[gc,$as,*]) | ((with_reducible apply aTU);simp only[go,$as,*];simp only[go,$as,*];simp only[gl,$as,*]) | ((with_reducible apply aV9);simp only[go,$as,*];simp only[go,$as,*];simp only[go,$as,*];simp only[gl,$as,*]) | ((with_reducible apply aS0);simp only[gl,$as,*]) | ((with_reducible apply aUB);simp only[go,$as,*];first | ((with_reducible apply sN);simp only[go,$as,*]) | ((with_reducible apply sI);simp only[go,$as,*])) | ((with_reducible apply aQL);simp only[go,$as,*];simp only[go,$as,*];simp only[gl,$as,*]) | ((with_reducible apply aSq);simp only[go,$as,*];first | ((with_reducible apply sN);simp only[go,$as,*]) | ((with_reducible apply sI);rfl)) | ((with_reducible apply aUx);simp only[go,$as,*];first | ((with_reducible apply sN);rfl) | ((with_reducible apply sI);simp only[go,$as,*])) | ((with_reducible apply aR2);simp only[go,$as,*]) | ((with_reducible apply aU8);simp only[go,$as,*];simp only[go,$as,*];simp only[gl,B.g,$as,*]) | ((with_reducible apply aTD);simp only[go,$as,*];simp only[go,$as,*]) | ((with_reducible apply aU1);simp only[go,$as,*];rfl;simp only[gl,yBg,yCz,yFj,yHb,$as,*]) | ((with_reducible apply aVr);simp only[go,$as,*]) | ((with_reducible apply aST);simp only[go,$as,*];rfl;simp only[gl,yBg,yCz,yFj,yHb,$as,*]) | ((with_reducible apply aS2);simp only[go,$as,*]) | ((with_reducible apply aWz);simp only[go,$as,*];simp only[go,$as,*];simp only[go,$as,*];simp only[go,$as,*];simp only[gl,slD,$as,*]) | ((with_reducible apply aRc);simp only[go,$as,*]) | ((with_reducible apply aVt);simp only[go,$as,*];simp only[gl,$as,*]) | ((with_reducible apply aJs);simp only[go,$as,*];simp only[go,$as,*];simp only[gl,$as,*]) | ((with_reducible apply aTk);simp only[go,$as,*];simp only[go,$as,*];simp only[gl,$as,*]) | ((with_reducible apply aTT);simp only[go,$as,*];simp only[go,$as,*];simp only[go,$as,*];simp only[gl,$as,*]) | ((with_reducible apply aSM);simp only[go,$as,*];first | ((with_reducible apply sN);simp only[go,$as,*]) | ((with_reducible apply sI);simp only[go,$as,*])) | ((with_reducible apply aUh);simp only[go,$as,*];first | ((with_reducible apply sN);simp only[go,$as,*]) | ((with_reducible apply sI);rfl)) | ((with_reducible apply aVH);simp only[go,$as,*];first | ((with_reducible apply sN);rfl) | ((with_reducible apply sI);simp only[go,$as,*])) | ((with_reducible apply aTt);simp only[go,$as,*]) | ((with_reducible apply aU2);simp only[go,$as,*];simp only[go,$as,*];rfl) | ((with_reducible apply aQo);simp only[gc,$as,*]) | ((with_reducible apply aTK rfl);simp only[go,$as,*];rfl) | simp only[gc,$as,*] | (focus (simp only[evs,$as,*]<;>with_reducible rfl)))
local macro_rules
 | `(tactic| simp only[gR1,$d0:term,$as,*])=>`(tactic| first | (apply aCO rfl;(focus (dsimp only[$d0:term,List.map,yBg,yCz,yFj,yGv,yEb,yAu,yEs,yEp,yDn];apply mM;simp only[go,$as,*];(first | (focus rfl) | (focus (simp only[$as,*]<;>rfl)))));(first | exact yAh | (focus (simp only[aAk,aAs,aAf,$as,*]<;>rfl)) | (focus rfl))) | (simp only[evs,fD,$d0:term,$as,*]<;>rfl))
local macro_rules
 | `(tactic| simp only[gR2,$d0:term,$d1:term,$as,*])=>`(tactic| first | (apply aCO rfl;(focus (dsimp only[$d0:term,$d1:term,List.map,yBg,yCz,yFj,yGv,yEb,yAu,yEs,yEp,yDn];apply mM;simp only[go,$as,*];(first | (focus rfl) | (focus (simp only[$as,*]<;>rfl)))));(first | exact yAh | (focus (simp only[aAk,aAs,aAf,$as,*]<;>rfl)) | (focus rfl))) | (simp only[evs,fD,$d0:term,$d1:term,$as,*]<;>rfl))
local macro_rules
 | `(tactic| simp only[gR3,$d0:term,$d1:term,$d2:term,$as,*])=>`(tactic| first | (apply aCO rfl;(focus (dsimp only[$d0:term,$d1:term,$d2:term,List.map,yBg,yCz,yFj,yGv,yEb,yAu,yEs,yEp,yDn];apply mM;simp only[go,$as,*];(first | (focus rfl) | (focus (simp only[$as,*]<;>rfl)))));(first | exact yAh | (focus (simp only[aAk,aAs,aAf,$as,*]<;>rfl)) | (focus rfl))) | (simp only[evs,fD,$d0:term,$d1:term,$d2:term,$as,*]<;>rfl))
local macro_rules
 | `(tactic| simp only[gS0,$as,*])=>`(tactic| first | ((first | apply mM | apply sD | apply rV | apply sF);simp only[go,$as,*];(first | (focus rfl) | (focus (simp only[$as,*]<;>rfl)))) | (simp only[evs,$as,*]<;>rfl))
local macro_rules
 | `(tactic| simp only[gS1,$d0:term,$as,*])=>`(tactic| first | (dsimp only[$d0:term];(first | apply mM | apply sD | apply rV | apply sF);simp only[go,$as,*];(first | (focus rfl) | (focus (simp only[$as,*]<;>rfl)))) | (simp only[evs,$d0:term,$as,*]<;>rfl))
local macro_rules
 | `(tactic| simp only[gS2,$d0:term,$d1:term,$as,*])=>`(tactic| first | (dsimp only[$d0:term,$d1:term];(first | apply mM | apply sD | apply rV | apply sF);simp only[go,$as,*];(first | (focus rfl) | (focus (simp only[$as,*]<;>rfl)))) | (simp only[evs,$d0:term,$d1:term,$as,*]<;>rfl))
local macro_rules
 | `(tactic| simp only[gS3,$d0:term,$d1:term,$d2:term,$as,*])=>`(tactic| first | (dsimp only[$d0:term,$d1:term,$d2:term];(first | apply mM | apply sD | apply rV | apply sF);simp only[go,$as,*];(first | (focus rfl) | (focus (simp only[$as,*]<;>rfl)))) | (simp only[evs,$d0:term,$d1:term,$d2:term,$as,*]<;>rfl))
local macro_rules
 | `(tactic| simp only[gS4,$d0:term,$d1:term,$d2:term,$d3:term,$as,*])=>`(tactic| first | (dsimp only[$d0:term,$d1:term,$d2:term,$d3:term];(first | apply mM | apply sD | apply rV | apply sF);simp only[go,$as,*];(first | (focus rfl) | (focus (simp only[$as,*]<;>rfl)))) | (simp only[evs,$d0:term,$d1:term,$d2:term,$d3:term,$as,*]<;>rfl))
local macro_rules
 | `(tactic| simp only[gS5,$d0:term,$d1:term,$d2:term,$d3:term,$d4:term,$as,*])=>`(tactic| first | (dsimp only[$d0:term,$d1:term,$d2:term,$d3:term,$d4:term];(first | apply mM | apply sD | apply rV | apply sF);simp only[go,$as,*];(first | (focus rfl) | (focus (simp only[$as,*]<;>rfl)))) | (simp only[evs,$d0:term,$d1:term,$d2:term,$d3:term,$d4:term,$as,*]<;>rfl))
noncomputable def top(i:Nat):jz:=PySem.Challenge.pw_fewbits_k62_trades_between_known_bits.main.body.getD i (.Pass ⟨0,0,0,0⟩)
noncomputable def tF:List (Str×Tv):=[("in",.int 0),("num",.int 0),("not",.int 1),("and",.int 2),("or",.int 2),("xor",.int 2),("add",.int 2),("sub",.int 2),("mul",.int 2),("left",.int 1),("right",.int 1),("slide",.int 1),("cut",.int 1),("wide",.int 1),("sign",.int 1),("same",.int 2),("less",.int 2),("under",.int 2),("pick",.int 3)]
noncomputable def pJ:List Tv:=[.str "left",.str "right",.str "slide"]
noncomputable def aCW:List Tv:=[.str "add",.str "sub",.str "mul"]
noncomputable def tM:List Tv:=[.str "same",.str "less",.str "under"]
noncomputable def qZ:List Tv:=[.int 0,.int 0,.int 1]
noncomputable def tZ:List Tv:=[.int 1,.int 0,.int 1]
noncomputable def vR:List Tv:=[.int 0,.int 1,.int 1]
noncomputable def aBB:List Tv:=[.str "and",.str "or",.str "xor",.str "add",.str "mul"]
noncomputable def tbs:Tbs:=⟨[("OPERAND_COUNTS",tF)],[("SHIFTS",pJ),("SUMS",aCW),("COMPARES",tM),("NOTHING",qZ),("NOUGHT",tZ),("ONE",vR),("EXCHANGEABLE",aBB)]⟩
abbrev J0:E:=.int 0
abbrev J1:E:=.int 1
abbrev J2:E:=.int 2
abbrev J3:E:=.int 3
abbrev J4:E:=.int 4
abbrev J5:E:=.int 5
abbrev J6:E:=.int 6
abbrev J7:E:=.int 7
abbrev J8:E:=.int 8
abbrev J9:E:=.int 9
abbrev V0:E:=.var 0
abbrev V1:E:=.var 1
abbrev V2:E:=.var 2
abbrev V3:E:=.var 3
abbrev V4:E:=.var 4
abbrev V5:E:=.var 5
abbrev V6:E:=.var 6
abbrev V7:E:=.var 7
abbrev V8:E:=.var 8
abbrev V9:E:=.var 9
noncomputable def aJf:Sx:=(.seq (.ret (.bin .Sub (.bin .LShift J1 V0) J1))
 .skip)
noncomputable def aIE:Sx:=(.seq (.ret (.bits V0))
 .skip)
noncomputable def aIC:Sx:=(.seq (.ret (.call 0 (.cons (.call 1 (.cons V0 .nil)) .nil)))
 .skip)
noncomputable def aGF:Sx:=(.seq (.ret (.bin .Sub (.call 1 (.cons (.bin .BitXor V0 (.bin .Add V0 J1)) .nil)) J1))
 .skip)
noncomputable def aGA:Sx:=(.seq (.ret (.bin .Sub V1 (.call 1 (.cons (.bin .BitXor V0 (.call 0 (.cons V1 .nil))) .nil))))
 .skip)
noncomputable def aBO:Sx:=(.seq (.set 3 (.bin .LShift J1 (.bin .Sub V1 J1)))
 (.seq (.ifs (.cmp .Eq (.bin .BitAnd V0 V3) J0) (.seq (.ret V0)
 .skip) .skip)
 (.seq (.ret (.bin .BitOr V0 (.bin .BitXor (.call 0 (.cons V2 .nil)) (.call 0 (.cons V1 .nil)))))
 .skip)))
noncomputable def aEV:Sx:=(.seq (.set 3 (.bin .BitXor (.call 0 (.cons V2 .nil)) (.call 2 (.cons (.bin .BitXor V0 V1) .nil))))
 (.seq (.set 4 (.bin .BitAnd V3 V0))
 (.seq (.ret (.tup (.cons (.bin .BitXor V3 V4) (.cons V4 .nil))))
 .skip)))
noncomputable def aMQ:Sx:=(.seq (.ret (.sl V0 (.cons J2 .nil) (.cons (.bin .Add J2 (.tab "OPERAND_COUNTS" tF (.ix V0 J0))) .nil)))
 .skip)
noncomputable def aEq:Sx:=(.seq (.ret (.bin .Add (.bin .Add (.sl V0 .no (.cons J2 .nil)) V1) (.sl V0 (.cons (.bin .Add J2 (.blt .len (.cons V1 .nil))) .nil) .no)))
 .skip)
noncomputable def aEn:E:=(.comp (.ix V1 V2) (.one 2) (.it (.call 7 (.cons V0 .nil))) .no)
noncomputable def aEy:Sx:=(.seq (.ret (.blt .tup (.cons (.fz aEn) .nil)))
 .skip)
noncomputable def aFH:Sx:=(.seq (.set 2 (.ix V0 J0))
 (.seq (.ret (.ix (.ix V2 V1) J1))
 .skip))
noncomputable def aEv:E:=(.comp (.ix V1 J1) (.one 1) (.it (.ix V0 J0)) .no)
noncomputable def aE2:Sx:=(.seq (.ret (.blt .tup (.cons (.fz aEv) .nil)))
 .skip)
noncomputable def aEx:Sx:=(.seq (.ret (.tup (.cons (.bin .BitAnd V2 (.un .Invert (.bin .BitAnd V1 (.un .Invert V0)))) (.cons (.bin .BitAnd V2 (.un .Invert V0)) .nil))))
 .skip)
noncomputable def aFL:Sx:=(.seq (.set 3 (.call 1 (.cons V2 .nil)))
 (.seq (.set 4 (.blt .mn (.cons V3 (.cons (.call 3 (.cons V1 .nil)) .nil))))
 (.seq (.set 5 (.blt .mn (.cons (.bin .Sub V3 V4) (.cons (.call 3 (.cons V0 .nil)) .nil))))
 (.seq (.ret (.tup (.cons (.call 0 (.cons (.bin .Sub V3 V4) .nil)) (.cons (.call 0 (.cons (.bin .Sub V3 V5) .nil)) .nil))))
 .skip))))
noncomputable def aCr:Sx:=(.seq (.ifs (.cmp .Eq (.bin .RShift V0 V1) J0) (.seq (.ret V0)
 .skip) .skip)
 (.seq (.ret (.bin .BitOr (.bin .BitAnd V0 (.call 0 (.cons V1 .nil))) (.bin .LShift J1 (.bin .Sub V1 J1))))
 .skip))
noncomputable def xZ:Sx:=(.seq (.ifs (.cmp .Eq V0 (.str "left")) (.seq (.ret (.bin .RShift V3 V2))
 .skip) .skip)
 (.seq (.ifs (.cmp .Eq V0 (.str "right")) (.seq (.ret (.bin .BitAnd (.bin .LShift V3 V2) (.call 0 (.cons V1 .nil))))
 .skip) .skip)
 (.seq (.ret (.call 14 (.cons (.bin .LShift V3 V2) (.cons V1 .nil))))
 .skip)))
noncomputable def yS:Sx:=(.seq (.ifs (.cmp .Eq (.ix V0 J1) J1) (.seq (.ret (.tup (.cons J1 (.cons V1 (.cons J0 .nil)))))
 .skip) .skip)
 (.seq (.ifs (.cmp .Eq (.ix V0 J0) J1) (.seq (.ret (.tup (.cons J1 (.cons J0 (.cons V1 .nil)))))
 .skip) .skip)
 (.seq (.ret (.tup (.cons J1 (.cons V1 (.cons V1 .nil)))))
 .skip)))
noncomputable def aEG:Sx:=(.seq (.set 4 (.ix V0 J0))
 (.seq (.ifs (.cmp .Eq V4 (.str "and")) (.seq (.ret (.call 12 (.cons (.ix (.ix V2 J0) J0) (.cons (.ix (.ix V2 J1) J0) (.cons V3 .nil)))))
 .skip) .skip)
 (.seq (.ifs (.cmp .Eq V4 (.str "or")) (.seq (.ret (.call 12 (.cons (.ix (.ix V2 J0) J1) (.cons (.ix (.ix V2 J1) J1) (.cons V3 .nil)))))
 .skip) .skip)
 (.seq (.ifs (.cmp .In V4 (.tup (.cons (.str "add") (.cons (.str "sub") .nil)))) (.seq (.ret (.tup (.cons (.call 2 (.cons V3 .nil)) (.cons (.call 2 (.cons V3 .nil)) .nil))))
 .skip) .skip)
 (.seq (.ifs (.cmp .Eq V4 (.str "mul")) (.seq (.ret (.call 13 (.cons (.ix (.ix V2 J0) J0) (.cons (.ix (.ix V2 J1) J0) (.cons V3 .nil)))))
 .skip) .skip)
 (.seq (.ifs (.cmp .In V4 (.con "SHIFTS" pJ)) (.seq (.ret (.tup (.cons (.call 15 (.cons V4 (.cons (.ix V0 J1) (.cons (.ix V0 J3) (.cons V3 .nil))))) .nil)))
 .skip) .skip)
 (.seq (.ifs (.cmp .Eq V4 (.str "wide")) (.seq (.ret (.tup (.cons (.bin .BitAnd V3 (.call 0 (.cons (.ix V1 J0) .nil))) .nil)))
 .skip) .skip)
 (.seq (.ifs (.cmp .Eq V4 (.str "sign")) (.seq (.ret (.tup (.cons (.call 14 (.cons V3 (.cons (.ix V1 J0) .nil))) .nil)))
 .skip) .skip)
 (.seq (.ifs (.cmp .In V4 (.con "COMPARES" tM)) (.seq (.ret (.tup (.cons (.call 0 (.cons (.ix V1 J0) .nil)) (.cons (.call 0 (.cons (.ix V1 J1) .nil)) .nil))))
 .skip) .skip)
 (.seq (.ifs (.cmp .Eq V4 (.str "pick")) (.seq (.ret (.call 16 (.cons (.ix V2 J0) (.cons V3 .nil))))
 .skip) .skip)
 (.seq (.ret (.bin .Mult (.tup (.cons V3 .nil)) (.blt .len (.cons (.call 7 (.cons V0 .nil)) .nil))))
 .skip)))))))))))
noncomputable def aDh:Sx:=(.seq (.ifs (.cmp .Eq V3 J0) (.seq (.ret (.bin .Mult (.tup (.cons J0 .nil)) (.blt .len (.cons (.call 7 (.cons V0 .nil)) .nil))))
 .skip) .skip)
 (.seq (.ret (.call 17 (.cons V0 (.cons V1 (.cons V2 (.cons V3 .nil))))))
 .skip))
noncomputable def aEt:E:=(.comp (.call 10 (.cons V0 (.cons V7 .nil))) (.one 7) (.it (.call 7 (.cons V4 .nil))) .no)
noncomputable def aE8:Sx:=(.seq (.set 4 (.ix (.ix V0 J0) V2))
 (.seq (.set 5 (.blt .tup (.cons (.fz aEt) .nil)))
 (.seq (.set 6 (.call 18 (.cons V4 (.cons V5 (.cons (.call 9 (.cons V4 (.cons V1 .nil))) (.cons V3 .nil))))))
 (.seq (.ret (.fz (.lzip (.call 7 (.cons V4 .nil)) V6)))
 .skip))))
noncomputable def zD:E:=(.it (.call 19 (.cons V0 (.cons V1 (.cons V4 (.cons (.ix V2 V4) .nil))))))
noncomputable def zA:Sx:=(.seq (.put V2 V7 (.bin .BitOr (.ix V2 V7) V8))
 .skip)
noncomputable def zE:E:=(.rng3 (.bin .Sub (.blt .len (.cons V5 .nil)) J1) (.un .USub J1) (.un .USub J1))
noncomputable def aBY:Sx:=(.seq (.loop (.many [7,8]) zD zA)
 .skip)
noncomputable def aBT:E:=(.it V6)
noncomputable def aB0:Sx:=(.seq (.put V2 V3 (.call 0 (.cons (.call 10 (.cons V0 (.cons V3 .nil))) .nil)))
 .skip)
noncomputable def gD:Sx:=(.seq (.setT (.many [5,6]) V0)
 (.seq (.set 2 (.new (.lrep (.fz (.lst (.cons J0 .nil))) (.blt .len (.cons V5 .nil)))))
 (.seq (.loop (.one 3) aBT aB0)
 (.seq (.loop (.one 4) zE aBY)
 (.seq (.ret (.blt .tup (.cons V2 .nil)))
 .skip)))))
noncomputable def aFW:Sx:=(.seq (.ret (.bin .BitXor (.call 0 (.cons V1 .nil)) (.call 0 (.cons (.bin .Sub V1 V0) .nil))))
 .skip)
noncomputable def aEN:Sx:=(.seq (.ret (.bin .BitOr (.ix V0 J0) (.ix V0 J1)))
 .skip)
noncomputable def uS:Sx:=(.seq (.setT (.many [3,4,5]) V0)
 (.seq (.set 2 (.call 21 (.cons V5 (.cons V1 .nil))))
 (.seq (.ifs (.cmp .NotEq (.bin .BitAnd V3 V2) J0) (.seq (.set 3 (.bin .BitOr V3 V2))
 .skip) .skip)
 (.seq (.ifs (.cmp .NotEq (.bin .BitAnd V4 V2) J0) (.seq (.set 4 (.bin .BitOr V4 V2))
 .skip) .skip)
 (.seq (.ret (.tup (.cons V3 (.cons V4 (.cons (.blt .mx (.cons V5 (.cons (.call 4 (.cons V3 (.cons V1 .nil))) (.cons (.call 4 (.cons V4 (.cons V1 .nil))) .nil)))) .nil)))))
 .skip)))))
noncomputable def aID:Sx:=(.seq (.ret (.ix V0 J1))
 .skip)
noncomputable def aFr:Sx:=(.seq (.ret (.bin .BitXor (.call 0 (.cons V1 .nil)) (.ix V0 J0)))
 .skip)
noncomputable def aNG:Sx:=(.seq (.ifs (.cmp .Eq V0 (.str "add")) (.seq (.ret (.bin .Add V1 V2))
 .skip) .skip)
 (.seq (.ifs (.cmp .Eq V0 (.str "sub")) (.seq (.ret (.bin .Sub V1 V2))
 .skip) .skip)
 (.seq (.ret (.bin .Mult V1 V2))
 .skip)))
noncomputable def aFe:Sx:=(.seq (.set 3 (.call 0 (.cons (.call 3 (.cons (.bin .BitAnd (.call 22 (.cons V1 .nil)) (.call 22 (.cons V2 .nil))) .nil)) .nil)))
 (.seq (.set 4 (.bin .BitAnd (.call 26 (.cons V0 (.cons (.call 24 (.cons V1 .nil)) (.cons (.call 24 (.cons V2 .nil)) .nil)))) V3))
 (.seq (.ret (.tup (.cons (.bin .BitXor V3 V4) (.cons V4 .nil))))
 .skip)))
noncomputable def xT:Sx:=(.seq (.ifs (.cmp .NotEq V0 (.str "mul")) (.seq (.ret J0)
 .skip) .skip)
 (.seq (.ret (.call 0 (.cons (.blt .mn (.cons V1 (.cons (.bin .Add (.call 3 (.cons (.ix V2 J0) .nil)) (.call 3 (.cons (.ix V3 J0) .nil))) .nil))) .nil)))
 .skip))
noncomputable def zO:Sx:=(.seq (.ifs (.cmp .Eq V0 (.str "sub")) (.seq (.ret (.tup (.cons (.bin .Sub (.call 24 (.cons V2 .nil)) (.call 25 (.cons V3 (.cons V1 .nil)))) (.cons (.bin .Sub (.call 25 (.cons V2 (.cons V1 .nil))) (.call 24 (.cons V3 .nil))) .nil))))
 .skip) .skip)
 (.seq (.set 4 (.call 26 (.cons V0 (.cons (.call 24 (.cons V2 .nil)) (.cons (.call 24 (.cons V3 .nil)) .nil)))))
 (.seq (.set 5 (.call 26 (.cons V0 (.cons (.call 25 (.cons V2 (.cons V1 .nil))) (.cons (.call 25 (.cons V3 (.cons V1 .nil))) .nil)))))
 (.seq (.ret (.tup (.cons V4 (.cons V5 .nil))))
 .skip))))
noncomputable def yR:Sx:=(.seq (.setT (.many [4,5]) (.call 29 (.cons V0 (.cons V1 (.cons V2 (.cons V3 .nil))))))
 (.seq (.ifs (.or (.cmp .Lt V4 J0) (.cmp .Gt V5 (.call 0 (.cons V1 .nil)))) (.seq (.ret (.tup (.cons J0 (.cons J0 .nil))))
 .skip) .skip)
 (.seq (.ret (.call 6 (.cons V4 (.cons V5 (.cons V1 .nil)))))
 .skip)))
noncomputable def yN:Sx:=(.seq (.ifs (.cmp .Eq V0 (.str "mul")) (.seq (.ret J1)
 .skip) .skip)
 (.seq (.ret (.blt .mx (.cons J1 (.cons (.bin .Sub (.blt .mn (.cons (.ix V1 J2) (.cons (.ix V2 J2) .nil))) J1) .nil))))
 .skip))
noncomputable def aFV:Sx:=(.seq (.set 4 (.call 27 (.cons V0 (.cons V2 (.cons V3 .nil)))))
 (.seq (.set 5 (.call 30 (.cons V0 (.cons V1 (.cons V2 (.cons V3 .nil))))))
 (.seq (.set 6 (.bin .BitOr (.bin .BitOr (.ix V4 J0) (.ix V5 J0)) (.call 28 (.cons V0 (.cons V1 (.cons V2 (.cons V3 .nil)))))))
 (.seq (.ret (.tup (.cons V6 (.cons (.bin .BitOr (.ix V4 J1) (.ix V5 J1)) (.cons (.call 31 (.cons V0 (.cons V2 (.cons V3 .nil)))) .nil)))))
 .skip))))
noncomputable def aFE:Sx:=(.seq (.ret (.tup (.cons (.bin .BitXor (.call 0 (.cons V0 .nil)) V1) (.cons V1 (.cons J1 .nil)))))
 .skip)
noncomputable def aEz:Sx:=(.seq (.ret (.bin .BitOr (.bin .BitAnd (.ix V0 J0) (.ix V1 J1)) (.bin .BitAnd (.ix V0 J1) (.ix V1 J0))))
 .skip)
noncomputable def xS:Sx:=(.seq (.set 3 (.blt .mn (.cons (.ix V1 J2) (.cons (.ix V2 J2) .nil))))
 (.seq (.ifs (.cmp .Eq V0 (.str "and")) (.seq (.ret (.tup (.cons (.bin .BitOr (.ix V1 J0) (.ix V2 J0)) (.cons (.bin .BitAnd (.ix V1 J1) (.ix V2 J1)) (.cons V3 .nil)))))
 .skip) .skip)
 (.seq (.ifs (.cmp .Eq V0 (.str "or")) (.seq (.ret (.tup (.cons (.bin .BitAnd (.ix V1 J0) (.ix V2 J0)) (.cons (.bin .BitOr (.ix V1 J1) (.ix V2 J1)) (.cons V3 .nil)))))
 .skip) .skip)
 (.seq (.set 4 (.bin .BitOr (.bin .BitAnd (.ix V1 J0) (.ix V2 J0)) (.bin .BitAnd (.ix V1 J1) (.ix V2 J1))))
 (.seq (.ret (.tup (.cons V4 (.cons (.call 34 (.cons V1 (.cons V2 .nil))) (.cons V3 .nil)))))
 .skip)))))
noncomputable def aFc:Sx:=(.seq (.set 3 (.bin .BitOr (.bin .LShift (.ix V1 J0) V2) (.call 0 (.cons V2 .nil))))
 (.seq (.ret (.tup (.cons (.bin .BitAnd V3 (.call 0 (.cons V0 .nil))) (.cons (.bin .BitAnd (.bin .LShift (.ix V1 J1) V2) (.call 0 (.cons V0 .nil))) (.cons (.blt .mx (.cons J1 (.cons (.bin .Sub (.ix V1 J2) V2) .nil))) .nil)))))
 .skip))
noncomputable def aBG:Sx:=(.seq (.set 3 (.bin .BitOr (.bin .RShift (.ix V1 J0) V2) (.call 21 (.cons (.blt .mn (.cons V2 (.cons V0 .nil))) (.cons V0 .nil)))))
 (.seq (.ret (.tup (.cons V3 (.cons (.bin .RShift (.ix V1 J1) V2) (.cons (.ite (.cmp .Eq V2 J0) (.ix V1 J2) J1) .nil)))))
 .skip))
noncomputable def aEX:Sx:=(.seq (.set 3 (.bin .Add V0 V2))
 (.seq (.ret (.tup (.cons (.bin .RShift (.call 5 (.cons (.ix V1 J0) (.cons V0 (.cons V3 .nil)))) V2) (.cons (.bin .RShift (.call 5 (.cons (.ix V1 J1) (.cons V0 (.cons V3 .nil)))) V2) (.cons (.blt .mn (.cons V0 (.cons (.bin .Add (.ix V1 J2) V2) .nil))) .nil)))))
 .skip))
noncomputable def aLs:Sx:=(.seq (.ifs (.cmp .Eq V0 (.str "left")) (.seq (.ret (.call 36 (.cons V1 (.cons V2 (.cons V3 .nil)))))
 .skip) .skip)
 (.seq (.ifs (.cmp .Eq V0 (.str "right")) (.seq (.ret (.call 37 (.cons V1 (.cons V2 (.cons V3 .nil)))))
 .skip) .skip)
 (.seq (.ret (.call 38 (.cons V1 (.cons V2 (.cons V3 .nil)))))
 .skip)))
noncomputable def tO:Sx:=(.seq (.setT (.many [4,5,6]) V3)
 (.seq (.ifs (.cmp .Eq V0 (.str "cut")) (.seq (.ret (.tup (.cons (.bin .BitAnd V4 (.call 0 (.cons V2 .nil))) (.cons (.bin .BitAnd V5 (.call 0 (.cons V2 .nil))) (.cons (.blt .mx (.cons J1 (.cons (.bin .Sub V6 (.bin .Sub V1 V2)) .nil))) .nil)))))
 .skip) .skip)
 (.seq (.ifs (.cmp .Eq V0 (.str "wide")) (.seq (.ret (.tup (.cons (.bin .BitOr V4 (.call 21 (.cons (.bin .Sub V2 V1) (.cons V2 .nil)))) (.cons V5 (.cons (.ite (.cmp .Eq V2 V1) V6 J1) .nil)))))
 .skip) .skip)
 (.seq (.ret (.tup (.cons (.call 5 (.cons V4 (.cons V1 (.cons V2 .nil)))) (.cons (.call 5 (.cons V5 (.cons V1 (.cons V2 .nil)))) (.cons (.bin .Add V6 (.bin .Sub V2 V1)) .nil)))))
 .skip))))
noncomputable def yI:Sx:=(.seq (.ifs (.cmp .NotEq (.call 34 (.cons V1 (.cons V2 .nil))) J0) (.seq (.ret (.con "NOUGHT" tZ))
 .skip) .skip)
 (.seq (.ifs (.cmp .Eq (.bin .BitAnd (.call 22 (.cons V1 .nil)) (.call 22 (.cons V2 .nil))) (.call 0 (.cons V0 .nil))) (.seq (.ret (.con "ONE" vR))
 .skip) .skip)
 (.seq (.ret (.con "NOTHING" qZ))
 .skip)))
noncomputable def yU:Sx:=(.seq (.ifs (.cmp .Lt (.call 25 (.cons V1 (.cons V0 .nil))) (.call 24 (.cons V2 .nil))) (.seq (.ret (.con "ONE" vR))
 .skip) .skip)
 (.seq (.ifs (.cmp .GtE (.call 24 (.cons V1 .nil)) (.call 25 (.cons V2 (.cons V0 .nil)))) (.seq (.ret (.con "NOUGHT" tZ))
 .skip) .skip)
 (.seq (.ret (.con "NOTHING" qZ))
 .skip)))
noncomputable def aEY:Sx:=(.seq (.setT (.many [3,4,5]) V0)
 (.seq (.set 2 (.bin .BitAnd (.bin .BitXor V3 V4) (.call 21 (.cons J1 (.cons V1 .nil)))))
 (.seq (.ret (.tup (.cons (.bin .BitXor V3 V2) (.cons (.bin .BitXor V4 V2) (.cons V5 .nil)))))
 .skip)))
noncomputable def aLa:Sx:=(.seq (.ifs (.cmp .Eq V0 (.str "same")) (.seq (.ret (.call 41 (.cons V1 (.cons V2 (.cons V3 .nil)))))
 .skip) .skip)
 (.seq (.ifs (.cmp .Eq V0 (.str "less")) (.seq (.ret (.call 42 (.cons V1 (.cons V2 (.cons V3 .nil)))))
 .skip) .skip)
 (.seq (.ret (.call 42 (.cons V1 (.cons (.call 43 (.cons V2 (.cons V1 .nil))) (.cons (.call 43 (.cons V3 (.cons V1 .nil))) .nil)))))
 .skip)))
noncomputable def yQ:Sx:=(.seq (.ifs (.cmp .Eq (.ix V0 J1) J1) (.seq (.ret V1)
 .skip) .skip)
 (.seq (.ifs (.cmp .Eq (.ix V0 J0) J1) (.seq (.ret V2)
 .skip) .skip)
 (.seq (.ret (.tup (.cons (.bin .BitAnd (.ix V1 J0) (.ix V2 J0)) (.cons (.bin .BitAnd (.ix V1 J1) (.ix V2 J1)) (.cons (.blt .mn (.cons (.ix V1 J2) (.cons (.ix V2 J2) .nil))) .nil)))))
 .skip)))
noncomputable def aLE:Sx:=(.seq (.set 3 (.ix V0 J0))
 (.seq (.set 4 (.ix V0 J1))
 (.seq (.ifs (.cmp .Eq V3 (.str "in")) (.seq (.ret (.con "NOTHING" qZ))
 .skip) .skip)
 (.seq (.ifs (.cmp .Eq V3 (.str "num")) (.seq (.ret (.call 33 (.cons V4 (.cons (.ix V0 J2) .nil))))
 .skip) .skip)
 (.seq (.ifs (.cmp .Eq V3 (.str "not")) (.seq (.ret (.tup (.cons (.ix (.ix V2 J0) J1) (.cons (.ix (.ix V2 J0) J0) (.cons (.ix (.ix V2 J0) J2) .nil)))))
 .skip) .skip)
 (.seq (.ifs (.cmp .In V3 (.con "SUMS" aCW)) (.seq (.ret (.call 32 (.cons V3 (.cons V4 (.cons (.ix V2 J0) (.cons (.ix V2 J1) .nil))))))
 .skip) .skip)
 (.seq (.ifs (.cmp .In V3 (.con "SHIFTS" pJ)) (.seq (.ret (.call 39 (.cons V3 (.cons V4 (.cons (.ix V2 J0) (.cons (.ix V0 J3) .nil))))))
 .skip) .skip)
 (.seq (.ifs (.cmp .In V3 (.con "COMPARES" tM)) (.seq (.ret (.call 44 (.cons V3 (.cons (.ix V1 J0) (.cons (.ix V2 J0) (.cons (.ix V2 J1) .nil))))))
 .skip) .skip)
 (.seq (.ifs (.cmp .Eq V3 (.str "pick")) (.seq (.ret (.call 45 (.cons (.ix V2 J0) (.cons (.ix V2 J1) (.cons (.ix V2 J2) .nil)))))
 .skip) .skip)
 (.seq (.ifs (.cmp .In V3 (.tup (.cons (.str "and") (.cons (.str "or") (.cons (.str "xor") .nil))))) (.seq (.ret (.call 35 (.cons V3 (.cons (.ix V2 J0) (.cons (.ix V2 J1) .nil)))))
 .skip) .skip)
 (.seq (.ret (.call 40 (.cons V3 (.cons (.ix V1 J0) (.cons V4 (.cons (.ix V2 J0) .nil))))))
 .skip)))))))))))
noncomputable def aI4:Sx:=(.seq (.ret (.call 23 (.cons (.call 46 (.cons V0 (.cons V1 (.cons V2 .nil)))) (.cons (.ix V0 J1) .nil))))
 .skip)
noncomputable def xX:E:=(.it (.ix V0 J0))
noncomputable def xW:Sx:=(.seq (.expr (.app V2 (.call 47 (.cons V3 (.cons (.call 9 (.cons V3 (.cons V1 .nil))) (.cons (.call 9 (.cons V3 (.cons V2 .nil))) .nil))))))
 .skip)
noncomputable def aFk:Sx:=(.seq (.set 1 (.call 11 (.cons V0 .nil)))
 (.seq (.set 2 (.new (.lst .nil)))
 (.seq (.loop (.one 3) xX xW)
 (.seq (.ret (.blt .tup (.cons V2 .nil)))
 .skip))))
noncomputable def aIg:Sx:=(.seq (.ret (.cmp .Eq (.bin .BitAnd V0 (.un .Invert V1)) J0))
 .skip)
noncomputable def tL:Sx:=(.seq (.set 2 (.bin .BitAnd (.ix V0 J1) V1))
 (.seq (.ifs (.or (.cmp .Eq V2 J0) (.or (.cmp .NotEq (.bin .BitAnd V2 (.bin .Sub V2 J1)) J0) (.not (.call 49 (.cons V1 (.cons (.call 22 (.cons V0 .nil)) .nil)))))) (.seq (.ret .non)
 .skip) .skip)
 (.seq (.ret (.bin .Sub (.call 1 (.cons V2 .nil)) J1))
 .skip)))
noncomputable def pC:Sx:=(.seq (.set 4 (.ix V0 J0))
 (.seq (.ifs (.call 49 (.cons V2 (.cons (.call 22 (.cons V1 .nil)) .nil))) (.seq (.ret (.ix V1 J1))
 .skip) .skip)
 (.seq (.ifs (.and (.cmp .In V4 (.tup (.cons (.str "xor") (.cons (.str "sub") (.cons (.str "less") (.cons (.str "under") .nil)))))) (.cmp .Eq (.ix V3 J0) (.ix V3 J1))) (.seq (.ret J0)
 .skip) .skip)
 (.seq (.ifs (.and (.cmp .Eq V4 (.str "same")) (.cmp .Eq (.ix V3 J0) (.ix V3 J1))) (.seq (.ret J1)
 .skip) .skip)
 (.seq (.ret .non)
 .skip)))))
noncomputable def qU:Sx:=(.seq (.ifs (.cmp .Eq V0 (.str "and")) (.seq (.ret (.call 49 (.cons V2 (.cons (.ix V1 J1) .nil))))
 .skip) .skip)
 (.seq (.ifs (.cmp .In V0 (.tup (.cons (.str "or") (.cons (.str "xor") .nil)))) (.seq (.ret (.call 49 (.cons V2 (.cons (.ix V1 J0) .nil))))
 .skip) .skip)
 (.seq (.ifs (.cmp .In V0 (.tup (.cons (.str "add") (.cons (.str "sub") .nil)))) (.seq (.ret (.call 49 (.cons (.call 2 (.cons V2 .nil)) (.cons (.ix V1 J0) .nil))))
 .skip) .skip)
 (.seq (.ret (.and (.cmp .Eq V0 (.str "mul")) (.cmp .Eq (.call 50 (.cons V1 (.cons (.call 2 (.cons V2 .nil)) .nil))) J0)))
 .skip))))
noncomputable def tJ:Sx:=(.seq (.ifs (.or (.cmp .Eq (.ix V1 J1) (.ix V1 J2)) (.cmp .Eq (.ix V0 J1) J1)) (.seq (.ret J1)
 .skip) .skip)
 (.seq (.ret (.ite (.cmp .Eq (.ix V0 J0) J1) J2 .non))
 .skip))
noncomputable def gM:Sx:=(.seq (.set 5 (.ix V0 J0))
 (.seq (.ifs (.and (.cmp .In V5 (.tup (.cons (.str "and") (.cons (.str "or") .nil)))) (.cmp .Eq (.ix V4 J0) (.ix V4 J1))) (.seq (.ret J0)
 .skip) .skip)
 (.seq (.ifs (.cmp .Eq V5 (.str "pick")) (.seq (.ret (.call 53 (.cons (.ix V3 J0) (.cons V4 .nil))))
 .skip) .skip)
 (.seq (.ifs (.cmp .In V5 (.con "SHIFTS" pJ)) (.seq (.ret (.ite (.cmp .Eq (.ix V0 J3) J0) J0 .non))
 .skip) .skip)
 (.seq (.ifs (.cmp .In V5 (.tup (.cons (.str "cut") (.cons (.str "wide") (.cons (.str "sign") .nil))))) (.seq (.ret (.ite (.cmp .Eq (.ix V2 J0) (.ix V0 J1)) J0 .non))
 .skip) .skip)
 (.seq (.ifs (.and (.cmp .Eq (.blt .len (.cons V4 .nil)) J2) (.call 52 (.cons V5 (.cons (.ix V3 J1) (.cons V1 .nil))))) (.seq (.ret J0)
 .skip) .skip)
 (.seq (.ifs (.and (.cmp .In V5 (.con "EXCHANGEABLE" aBB)) (.call 52 (.cons V5 (.cons (.ix V3 J0) (.cons V1 .nil))))) (.seq (.ret J1)
 .skip) .skip)
 (.seq (.ret .non)
 .skip))))))))
noncomputable def aBA:E:=(.it (.tup (.cons (.tup (.cons J0 (.cons J1 .nil))) (.cons (.tup (.cons J1 (.cons J0 .nil))) .nil))))
noncomputable def tE:Sx:=(.seq (.set 6 (.call 50 (.cons (.ix V2 V5) (.cons V1 .nil))))
 (.seq (.ifs (.cmp .IsNot V6 .non) (.seq (.ret (.tup (.cons (.str "left") (.cons (.ix V0 J1) (.cons (.ix V3 V4) (.cons V6 .nil))))))
 .skip) .skip)
 .skip))
noncomputable def pB:Sx:=(.seq (.loop (.many [4,5]) aBA tE)
 (.seq (.ret .non)
 .skip))
noncomputable def pF:Sx:=(.seq (.set 4 (.call 2 (.cons V1 .nil)))
 (.seq (.ifs (.cmp .Eq (.ix V0 J0) (.str "mul")) (.seq (.ret (.call 55 (.cons V0 (.cons V4 (.cons V2 (.cons V3 .nil))))))
 .skip) .skip)
 (.seq (.ifs (.and (.cmp .Eq (.ix V0 J0) (.str "add")) (.call 49 (.cons V4 (.cons (.bin .BitOr (.ix (.ix V2 J0) J0) (.ix (.ix V2 J1) J0)) .nil)))) (.seq (.ret (.bin .Add (.tup (.cons (.str "or") (.cons (.ix V0 J1) .nil))) V3))
 .skip) .skip)
 (.seq (.ifs (.and (.cmp .Eq (.ix V0 J0) (.str "sub")) (.call 49 (.cons V4 (.cons (.bin .BitOr (.ix (.ix V2 J1) J0) (.ix (.ix V2 J0) J1)) .nil)))) (.seq (.ret (.bin .Add (.tup (.cons (.str "xor") (.cons (.ix V0 J1) .nil))) V3))
 .skip) .skip)
 (.seq (.ret .non)
 .skip)))))
noncomputable def oC:Sx:=(.seq (.ifs (.cmp .Eq (.ix V0 J0) (.str "in")) (.seq (.ret (.tup (.cons (.str "kept") (.cons V0 (.cons .non .nil)))))
 .skip) .skip)
 (.seq (.ifs (.cmp .Eq V2 J0) (.seq (.ret (.tup (.cons (.str "gone") (.cons .non (.cons .non .nil)))))
 .skip) .skip)
 (.seq (.ifs (.cmp .Eq (.ix V0 J0) (.str "num")) (.seq (.ret (.tup (.cons (.str "kept") (.cons V0 (.cons .non .nil)))))
 .skip) .skip)
 (.seq (.set 6 (.call 51 (.cons V0 (.cons V1 (.cons V2 (.cons V5 .nil))))))
 (.seq (.ifs (.cmp .IsNot V6 .non) (.seq (.ret (.tup (.cons (.str "known") (.cons (.tup (.cons (.str "num") (.cons (.ix V0 J1) (.cons V6 .nil)))) (.cons .non .nil)))))
 .skip) .skip)
 (.seq (.set 7 (.call 54 (.cons V0 (.cons V2 (.cons V3 (.cons V4 (.cons V5 .nil)))))))
 (.seq (.ifs (.cmp .IsNot V7 .non) (.seq (.ret (.tup (.cons (.str "passed") (.cons .non (.cons (.ix V5 V7) .nil)))))
 .skip) .skip)
 (.seq (.set 8 (.call 56 (.cons V0 (.cons V2 (.cons V4 (.cons V5 .nil))))))
 (.seq (.ifs (.cmp .IsNot V8 .non) (.seq (.ret (.tup (.cons (.str "cheaper") (.cons V8 (.cons .non .nil)))))
 .skip) .skip)
 (.seq (.ret (.tup (.cons (.str "kept") (.cons (.call 8 (.cons V0 (.cons V5 .nil))) (.cons .non .nil)))))
 .skip))))))))))
noncomputable def yO:E:=(.comp (.ix V5 (.var 15)) (.one 15) (.it (.ix V0 J1)) .no)
noncomputable def yV:E:=(.zip3 (.ix V0 J0) V1 V2)
noncomputable def qY:Sx:=(.seq (.set 11 (.tup (.cons (.call 9 (.cons V8 (.cons V3 .nil))) (.cons (.call 9 (.cons V8 (.cons V1 .nil))) (.cons (.call 9 (.cons V8 (.cons V5 .nil))) .nil)))))
 (.seq (.setT (.many [12,13,14]) (.call 57 (.cons V8 (.cons V9 (.cons (.var 10) (.cons (.ix (.var 11) J0) (.cons (.ix (.var 11) J1) (.cons (.ix (.var 11) J2) .nil))))))))
 (.seq (.ifs (.cmp .IsNot (.var 13) .non) (.seq (.set 14 (.blt .len (.cons V4 .nil)))
 (.seq (.expr (.app V4 (.var 13)))
 .skip)) .skip)
 (.seq (.expr (.app V5 (.var 14)))
 (.seq (.expr (.app V6 (.var 12)))
 .skip)))))
noncomputable def aGX:Sx:=(.seq (.set 1 (.call 48 (.cons V0 .nil)))
 (.seq (.set 2 (.call 20 (.cons V0 (.cons V1 .nil))))
 (.seq (.set 3 (.call 11 (.cons V0 .nil)))
 (.seq (.set 4 (.new (.lst .nil)))
 (.seq (.set 5 (.new (.lst .nil)))
 (.seq (.set 6 (.new (.lst .nil)))
 (.seq (.loop (.many [8,9,10]) yV qY)
 (.seq (.set 7 (.blt .tup (.cons (.fz yO) .nil)))
 (.seq (.ret (.tup (.cons (.tup (.cons (.blt .tup (.cons V4 .nil)) (.cons V7 .nil))) (.cons (.blt .tup (.cons V6 .nil)) .nil))))
 .skip)))))))))
noncomputable def iF:Sx:=(.seq (.setT (.many [3,4]) (.sl V0 .no (.cons J2 .nil)))
 (.seq (.put V0 J1 (.bin .Add V4 J1))
 (.seq (.ifs (.and (.cmp .Lt (.bin .Add (.bin .FloorDiv V4 (.int 12)) J1) (.blt .len (.cons V3 .nil))) (.cmp .Eq (.bin .Mod (.ix V3 J0) J2) J1)) (.seq (.ifs (.cmp .Eq (.bin .Mod V4 (.int 12)) J0) (.seq (.put V0 J2 (.ix V3 (.bin .Add (.bin .FloorDiv V4 (.int 12)) J1)))
 .skip) .skip)
 (.seq (.set 5 (.bin .Mod (.ix V0 J2) V1))
 (.seq (.put V0 J2 (.bin .FloorDiv (.ix V0 J2) V1))
 (.seq (.ret V5)
 .skip)))) .skip)
 (.seq (.ifs (.cmp .Lt V4 (.blt .len (.cons V3 .nil))) (.seq (.ret (.bin .Mod (.ix V3 V4) V1))
 .skip) .skip)
 (.seq (.set 2 (.bin .Add (.bin .Mult V4 (.int 7919)) J5))
 (.seq (.ifs (.cmp .Gt (.blt .len (.cons (.ix V0 J0) .nil)) J0) (.seq (.set 2 (.bin .Add V2 (.bin .Mult (.ix (.ix V0 J0) (.bin .Mod (.bin .Mult V4 J7) (.blt .len (.cons (.ix V0 J0) .nil)))) (.bin .Add (.int 48271) V4))))
 .skip) .skip)
 (.seq (.set 2 (.bin .Mod (.bin .Mult (.bin .Mod V2 (.int 2147483629)) (.bin .Add V4 J3)) (.int 2147483629)))
 (.seq (.set 2 (.bin .Mod (.bin .Mult V2 V2) (.int 2147483587)))
 (.seq (.ret (.bin .Mod (.bin .Mod (.bin .Mult V2 V2) (.int 1999999973)) V1))
 .skip)))))))))
noncomputable def aBE:Sx:=(.seq (.ifs (.cmp .Lt V1 (.int 31)) (.seq (.ret (.call 59 (.cons V0 (.cons (.bin .LShift J1 V1) .nil))))
 .skip) .skip)
 (.seq (.ret (.bin .Add (.call 59 (.cons V0 (.cons (.bin .LShift J1 (.int 30)) .nil))) (.bin .LShift (.call 59 (.cons V0 (.cons (.bin .LShift J1 (.bin .Sub V1 (.int 30))) .nil))) (.int 30))))
 .skip))
noncomputable def aEM:Sx:=(.seq (.ret (.ix (.fz (.lst (.cons J1 (.cons (.int 64) (.cons (.bin .Add J1 (.call 59 (.cons V0 (.cons J8 .nil)))) (.cons (.bin .Add J1 (.call 59 (.cons V0 (.cons (.int 64) .nil)))) .nil)))))) (.call 59 (.cons V0 (.cons J4 .nil)))))
 .skip)
noncomputable def aBZ:Sx:=(.seq (.set 2 (.call 59 (.cons V0 (.cons J5 .nil))))
 (.seq (.set 3 (.fz (.lst (.cons J0 (.cons (.bin .Sub (.bin .LShift J1 V1) J1) (.cons (.bin .LShift J1 (.call 59 (.cons V0 (.cons V1 .nil)))) (.cons (.bin .Sub (.bin .LShift J1 (.call 59 (.cons V0 (.cons V1 .nil)))) J1) .nil)))))))
 (.seq (.ifs (.cmp .Lt V2 J4) (.seq (.ret (.ix V3 V2))
 .skip) .skip)
 (.seq (.ret (.call 60 (.cons V0 (.cons V1 .nil))))
 .skip))))
noncomputable def aEU:Sx:=(.seq (.expr (.app V0 V1))
 (.seq (.ret (.bin .Sub (.blt .len (.cons V0 .nil)) J1))
 .skip))
noncomputable def aEo:E:=(.comp V9 (.one 9) (.rng1 (.blt .len (.cons V1 .nil))) (.cmp .Eq (.ix (.ix V1 V9) J1) V2))
noncomputable def pE:Sx:=(.seq (.set 3 (.call 59 (.cons V0 (.cons J9 .nil))))
 (.seq (.setC false 4 aEo)
 (.seq (.ifs (.and (.cmp .Eq V3 J0) (.cmp .NotEq V4 (.fz (.lst .nil)))) (.seq (.ret (.ix V4 (.call 59 (.cons V0 (.cons (.blt .len (.cons V4 .nil)) .nil)))))
 .skip) .skip)
 (.seq (.ifs (.cmp .Lt V3 J3) (.seq (.ret (.call 63 (.cons V1 (.cons (.tup (.cons (.str "num") (.cons V2 (.cons (.call 62 (.cons V0 (.cons V2 .nil))) .nil)))) .nil))))
 .skip) .skip)
 (.seq (.ifs (.cmp .Eq V3 J3) (.seq (.set 8 (.bin .Add J1 (.call 59 (.cons V0 (.cons V2 .nil)))))
 (.seq (.ret (.call 63 (.cons V1 (.cons (.tup (.cons (.str "wide") (.cons V2 (.cons (.call 63 (.cons V1 (.cons (.tup (.cons (.str "in") (.cons V8 .nil))) .nil))) .nil)))) .nil))))
 .skip)) .skip)
 (.seq (.set 5 (.call 63 (.cons V1 (.cons (.tup (.cons (.str "in") (.cons V2 .nil))) .nil))))
 (.seq (.ifs (.cmp .Eq V3 J4) (.seq (.ret V5)
 .skip) .skip)
 (.seq (.ifs (.cmp .Eq V3 J5) (.seq (.ret (.call 63 (.cons V1 (.cons (.tup (.cons (.str "left") (.cons V2 (.cons V5 (.cons (.call 59 (.cons V0 (.cons V2 .nil))) .nil))))) .nil))))
 .skip) .skip)
 (.seq (.set 6 (.call 62 (.cons V0 (.cons V2 .nil))))
 (.seq (.ifs (.cmp .Eq V3 J6) (.seq (.set 6 (.bin .Sub (.bin .Sub (.bin .LShift J1 V2) J1) V6))
 .skip) .skip)
 (.seq (.set 7 (.call 63 (.cons V1 (.cons (.tup (.cons (.str "num") (.cons V2 (.cons V6 .nil)))) .nil))))
 (.seq (.set 5 (.call 63 (.cons V1 (.cons (.tup (.cons (.ix (.ix (.fz (.lst (.cons (.tup (.cons (.str "and") (.cons (.str "or") .nil))) (.cons (.tup (.cons (.str "and") (.cons (.str "and") .nil))) .nil)))) (.call 59 (.cons V0 (.cons J2 .nil)))) (.blt .int (.cons (.cmp .Eq V3 J8) .nil))) (.cons V2 (.cons V5 (.cons V7 .nil))))) .nil))))
 (.seq (.ifs (.and (.cmp .Eq (.call 59 (.cons V0 (.cons J2 .nil))) J1) (.cmp .Lt (.blt .len (.cons V1 .nil)) (.int 30))) (.seq (.set 7 (.call 63 (.cons V1 (.cons (.tup (.cons (.str "num") (.cons V2 (.cons (.bin .LShift J1 (.call 59 (.cons V0 (.cons V2 .nil)))) .nil)))) .nil))))
 (.seq (.set 5 (.call 63 (.cons V1 (.cons (.tup (.cons (.str "or") (.cons V2 (.cons V5 (.cons V7 .nil))))) .nil))))
 .skip)) .skip)
 (.seq (.ret V5)
 .skip))))))))))))))
noncomputable def aLi:Sx:=(.seq (.ifs (.cmp .Eq (.call 59 (.cons V0 (.cons J2 .nil))) J1) (.seq (.ret (.call 63 (.cons V1 (.cons (.tup (.cons (.str "or") (.cons V3 (.cons V2 (.cons (.call 63 (.cons V1 (.cons (.tup (.cons (.str "num") (.cons V3 (.cons J0 .nil)))) .nil))) .nil))))) .nil))))
 .skip) .skip)
 (.seq (.ret (.call 63 (.cons V1 (.cons (.tup (.cons (.str "and") (.cons V3 (.cons V2 (.cons (.call 63 (.cons V1 (.cons (.tup (.cons (.str "num") (.cons V3 (.cons (.bin .Sub (.bin .LShift J1 V3) J1) .nil)))) .nil))) .nil))))) .nil))))
 .skip))
noncomputable def tI:Sx:=(.seq (.set 2 (.fz (.lst (.cons (.str "and") (.cons (.str "or") (.cons (.str "xor") (.cons (.str "add") (.cons (.str "sub") (.cons (.str "mul") (.cons (.str "mul") (.cons (.str "mul") (.cons (.str "add") (.cons (.str "sub") (.cons (.str "pick") (.cons (.str "same") (.cons (.str "less") (.cons (.str "under") .nil)))))))))))))))))
 (.seq (.set 2 (.bin .Add V2 (.fz (.lst (.cons (.str "left") (.cons (.str "right") (.cons (.str "slide") (.cons (.str "cut") (.cons (.str "wide") (.cons (.str "sign") (.cons (.str "not") .nil)))))))))))
 (.seq (.set 3 (.ix V2 (.call 59 (.cons V0 (.cons (.int 21) .nil)))))
 (.seq (.set 4 (.call 61 (.cons V0 .nil)))
 (.seq (.set 5 (.call 64 (.cons V0 (.cons V1 (.cons V4 .nil)))))
 (.seq (.ifs (.cmp .In V3 (.tup (.cons (.str "left") (.cons (.str "right") (.cons (.str "slide") .nil))))) (.seq (.ret (.call 63 (.cons V1 (.cons (.tup (.cons V3 (.cons V4 (.cons V5 (.cons (.bin .Mult (.call 59 (.cons V0 (.cons J2 .nil))) (.call 59 (.cons V0 (.cons (.int 64) .nil)))) .nil))))) .nil))))
 .skip) .skip)
 (.seq (.ifs (.cmp .Eq V3 (.str "not")) (.seq (.ret (.call 63 (.cons V1 (.cons (.tup (.cons V3 (.cons V4 (.cons V5 .nil)))) .nil))))
 .skip) .skip)
 (.seq (.ifs (.cmp .Eq V3 (.str "cut")) (.seq (.ret (.call 63 (.cons V1 (.cons (.tup (.cons V3 (.cons (.blt .mx (.cons J1 (.cons (.bin .Sub V4 (.bin .Mult (.call 59 (.cons V0 (.cons J2 .nil))) (.call 59 (.cons V0 (.cons (.int 64) .nil))))) .nil))) (.cons V5 .nil)))) .nil))))
 .skip) .skip)
 (.seq (.ifs (.cmp .In V3 (.tup (.cons (.str "wide") (.cons (.str "sign") .nil)))) (.seq (.ret (.call 63 (.cons V1 (.cons (.tup (.cons V3 (.cons (.blt .mn (.cons (.int 64) (.cons (.bin .Add V4 (.bin .Mult (.call 59 (.cons V0 (.cons J2 .nil))) (.call 59 (.cons V0 (.cons (.int 64) .nil))))) .nil))) (.cons V5 .nil)))) .nil))))
 .skip) .skip)
 (.seq (.set 6 (.call 64 (.cons V0 (.cons V1 (.cons V4 .nil)))))
 (.seq (.set 7 (.call 59 (.cons V0 (.cons J8 .nil))))
 (.seq (.ifs (.cmp .Eq V7 J1) (.seq (.set 6 V5)
 .skip) .skip)
 (.seq (.ifs (.cmp .Eq V7 J2) (.seq (.set 6 (.call 65 (.cons V0 (.cons V1 (.cons V5 (.cons V4 .nil))))))
 .skip) .skip)
 (.seq (.ifs (.cmp .Eq V3 (.str "pick")) (.seq (.ret (.call 63 (.cons V1 (.cons (.tup (.cons V3 (.cons V4 (.cons (.call 64 (.cons V0 (.cons V1 (.cons J1 .nil)))) (.cons V5 (.cons V6 .nil)))))) .nil))))
 .skip) .skip)
 (.seq (.ifs (.cmp .In V3 (.tup (.cons (.str "same") (.cons (.str "less") (.cons (.str "under") .nil))))) (.seq (.set 4 J1)
 .skip) .skip)
 (.seq (.ret (.call 63 (.cons V1 (.cons (.tup (.cons V3 (.cons V4 (.cons V5 (.cons V6 .nil))))) .nil))))
 .skip))))))))))))))))
noncomputable def aEl:Sx:=(.seq (.set 3 (.ix (.ix V1 V2) J1))
 (.seq (.set 4 (.call 59 (.cons V0 (.cons J4 .nil))))
 (.seq (.ifs (.cmp .Eq V4 J0) (.seq (.ret V2)
 .skip) .skip)
 (.seq (.ifs (.cmp .Eq V4 J1) (.seq (.ret (.call 63 (.cons V1 (.cons (.tup (.cons (.str "cut") (.cons (.bin .Add J1 (.call 59 (.cons V0 (.cons V3 .nil)))) (.cons V2 .nil)))) .nil))))
 .skip) .skip)
 (.seq (.ifs (.cmp .Eq V4 J2) (.seq (.ret (.call 63 (.cons V1 (.cons (.tup (.cons (.str "right") (.cons V3 (.cons V2 (.cons (.call 59 (.cons V0 (.cons V3 .nil))) .nil))))) .nil))))
 .skip) .skip)
 (.seq (.set 5 (.call 63 (.cons V1 (.cons (.tup (.cons (.str "num") (.cons V3 (.cons (.call 62 (.cons V0 (.cons V3 .nil))) .nil)))) .nil))))
 (.seq (.ret (.call 63 (.cons V1 (.cons (.tup (.cons (.str "and") (.cons V3 (.cons V2 (.cons V5 .nil))))) .nil))))
 .skip)))))))
noncomputable def xP:E:=(.rng1 J2)
noncomputable def aBz:Sx:=(.seq (.expr (.app V2 (.call 67 (.cons V0 (.cons V1 (.cons (.call 66 (.cons V0 (.cons V1 .nil))) .nil))))))
 .skip)
noncomputable def aKN:Sx:=(.seq (.set 1 (.new (.lst .nil)))
 (.seq (.set 2 (.new (.lst .nil)))
 (.seq (.loop (.one 3) xP aBz)
 (.seq (.ret (.tup (.cons (.blt .tup (.cons V1 .nil)) (.cons (.blt .tup (.cons (.sl V2 .no (.cons (.bin .Add J1 (.call 59 (.cons V0 (.cons J2 .nil)))) .nil)) .nil)) .nil))))
 .skip))))
noncomputable def aEw:E:=(.comp V1 (.one 1) (.rng1 (.int 64)) (.cmp .Eq (.bin .BitAnd (.bin .RShift V0 V1) J1) J1))
noncomputable def aFh:Sx:=(.seq (.ret (.fz aEw))
 .skip)
noncomputable def aFG:Sx:=(.seq (.ret (.fz (.lrg1 (.bin .Add (.blt .mx (.cons (.call 69 (.cons V0 .nil)) .nil)) J1))))
 .skip)
noncomputable def aEC:E:=(.comp (.cmp .Eq (.bin .BitAnd (.bin .RShift V0 V2) J1) J1) (.one 2) (.it V1) .no)
noncomputable def aFZ:Sx:=(.seq (.ret (.blt .all (.cons (.fz aEC) .nil)))
 .skip)
noncomputable def aEp:E:=(.comp V3 (.one 3) (.it (.call 70 (.cons V1 .nil))) (.cmp .NotEq V3 (.ix V2 J0)))
noncomputable def xQ:E:=(.comp V3 (.one 3) (.it (.call 70 (.cons V1 .nil))) (.cmp .Eq (.bin .BitAnd (.bin .RShift (.ix V0 J1) V3) J1) J1))
noncomputable def tH:Sx:=(.seq (.setC false 2 xQ)
 (.seq (.ifs (.and (.cmp .Eq (.blt .len (.cons V2 .nil)) J1) (.call 71 (.cons (.ix V0 J0) (.cons (.fz aEp) .nil)))) (.seq (.ret (.ix V2 J0))
 .skip) .skip)
 (.seq (.ret (.un .USub J1))
 .skip)))
noncomputable def qT:Sx:=(.seq (.ifs (.cmp .Eq V0 (.str "and")) (.seq (.ret (.call 71 (.cons (.ix V1 J1) (.cons (.call 69 (.cons V2 .nil)) .nil))))
 .skip) .skip)
 (.seq (.ifs (.cmp .In V0 (.tup (.cons (.str "or") (.cons (.str "xor") .nil)))) (.seq (.ret (.call 71 (.cons (.ix V1 J0) (.cons (.call 69 (.cons V2 .nil)) .nil))))
 .skip) .skip)
 (.seq (.ifs (.cmp .In V0 (.tup (.cons (.str "add") (.cons (.str "sub") .nil)))) (.seq (.ret (.call 71 (.cons (.ix V1 J0) (.cons (.call 70 (.cons V2 .nil)) .nil))))
 .skip) .skip)
 (.seq (.ret (.and (.cmp .Eq V0 (.str "mul")) (.cmp .Eq (.call 72 (.cons V1 (.cons V2 .nil))) J0)))
 .skip))))
noncomputable def nP:Sx:=(.seq (.ifs (.call 71 (.cons (.bin .BitOr (.ix V1 J0) (.ix V1 J1)) (.cons (.call 69 (.cons V2 .nil)) .nil))) (.seq (.ret (.ix V1 J1))
 .skip) .skip)
 (.seq (.ifs (.and V3 (.cmp .In (.ix V0 J0) (.tup (.cons (.str "xor") (.cons (.str "sub") (.cons (.str "less") (.cons (.str "under") (.cons (.str "same") .nil)))))))) (.seq (.ret (.blt .int (.cons (.cmp .Eq (.ix V0 J0) (.str "same")) .nil)))
 .skip) .skip)
 (.seq (.ret .non)
 .skip)))
noncomputable def fA:Sx:=(.seq (.set 5 (.ix V0 J0))
 (.seq (.ifs (.cmp .Eq V5 (.str "pick")) (.seq (.ifs (.or (.cmp .Eq (.ix V4 J1) (.ix V4 J2)) (.cmp .Eq (.ix (.ix V2 J0) J1) J1)) (.seq (.ret (.ix V4 J1))
 .skip) .skip)
 (.seq (.ret (.ix (.fz (.lst (.cons .non (.cons (.ix V4 J2) .nil)))) (.blt .int (.cons (.cmp .Eq (.ix (.ix V2 J0) J0) J1) .nil))))
 .skip)) .skip)
 (.seq (.ifs (.or (.and (.cmp .In V5 (.tup (.cons (.str "left") (.cons (.str "right") (.cons (.str "slide") .nil))))) (.cmp .Eq (.ix V0 J3) J0)) (.and (.cmp .In V5 (.tup (.cons (.str "cut") (.cons (.str "wide") (.cons (.str "sign") .nil))))) (.cmp .Eq (.ix V0 J1) V1))) (.seq (.ret (.ix V4 J0))
 .skip) .skip)
 (.seq (.ifs (.cmp .Eq (.blt .len (.cons V4 .nil)) J2) (.seq (.ifs (.or (.and (.cmp .In V5 (.tup (.cons (.str "and") (.cons (.str "or") .nil)))) (.cmp .Eq (.ix V4 J0) (.ix V4 J1))) (.call 73 (.cons V5 (.cons (.ix V2 J1) (.cons V3 .nil))))) (.seq (.ret (.ix V4 J0))
 .skip) .skip)
 (.seq (.ifs (.and (.cmp .NotEq V5 (.str "sub")) (.call 73 (.cons V5 (.cons (.ix V2 J0) (.cons V3 .nil))))) (.seq (.ret (.ix V4 J1))
 .skip) .skip)
 .skip)) .skip)
 (.seq (.ret .non)
 .skip)))))
noncomputable def nQ:E:=(.rng1 J2)
noncomputable def kO:Sx:=(.seq (.set 5 (.call 72 (.cons (.ix V1 (.bin .Sub J1 V4)) (.cons V2 .nil))))
 (.seq (.ifs (.cmp .GtE V5 J0) (.seq (.ret (.tup (.cons (.str "left") (.cons (.ix V0 J1) (.cons (.ix V3 V4) (.cons V5 .nil))))))
 .skip) .skip)
 .skip))
noncomputable def lZ:Sx:=(.seq (.ifs (.cmp .Eq (.ix V0 J0) (.str "mul")) (.seq (.loop (.one 4) nQ kO)
 .skip) .skip)
 (.seq (.ifs (.and (.cmp .Eq (.ix V0 J0) (.str "add")) (.call 71 (.cons (.bin .BitOr (.ix (.ix V1 J0) J0) (.ix (.ix V1 J1) J0)) (.cons (.call 70 (.cons V2 .nil)) .nil)))) (.seq (.ret (.bin .Add (.tup (.cons (.str "or") (.cons (.ix V0 J1) .nil))) V3))
 .skip) .skip)
 (.seq (.ifs (.and (.cmp .Eq (.ix V0 J0) (.str "sub")) (.call 71 (.cons (.bin .BitOr (.ix (.ix V1 J0) J1) (.ix (.ix V1 J1) J0)) (.cons (.call 70 (.cons V2 .nil)) .nil)))) (.seq (.ret (.bin .Add (.tup (.cons (.str "xor") (.cons (.ix V0 J1) .nil))) V3))
 .skip) .skip)
 (.seq (.ret .non)
 .skip))))
noncomputable def aEm:E:=(.comp (.ix V2 (.var 11)) (.one 11) (.it V6) .no)
noncomputable def iD:Sx:=(.seq (.set 5 (.ix (.ix V0 J0) V1))
 (.seq (.ifs (.or (.cmp .Eq (.ix V5 J0) (.str "in")) (.and (.cmp .Eq (.ix V5 J0) (.str "num")) (.cmp .Gt V3 J0))) (.seq (.ret (.tup (.cons V5 (.cons (.str "kept") .nil))))
 .skip) .skip)
 (.seq (.ifs (.cmp .Eq V3 J0) (.seq (.ret (.tup (.cons .non (.cons (.str "gone") .nil))))
 .skip) .skip)
 (.seq (.set 6 (.call 7 (.cons V5 .nil)))
 (.seq (.setC false 7 aEm)
 (.seq (.set 8 (.call 74 (.cons V5 (.cons (.ix V2 V1) (.cons V3 (.cons (.and (.cmp .Eq (.blt .len (.cons V4 .nil)) J2) (.cmp .Eq (.ix V4 J0) (.ix V4 J1))) .nil))))))
 (.seq (.ifs (.cmp .IsNot V8 .non) (.seq (.ret (.tup (.cons (.tup (.cons (.str "num") (.cons (.ix V5 J1) (.cons V8 .nil)))) (.cons (.str "known") .nil))))
 .skip) .skip)
 (.seq (.set 9 (.call 75 (.cons V5 (.cons (.ix (.ix (.ix V0 J0) (.ix V6 J0)) J1) (.cons V7 (.cons V3 (.cons V4 .nil)))))))
 (.seq (.ifs (.cmp .IsNot V9 .non) (.seq (.ret (.tup (.cons V9 (.cons (.str "passed") .nil))))
 .skip) .skip)
 (.seq (.set 10 (.call 76 (.cons V5 (.cons V7 (.cons V3 (.cons V4 .nil))))))
 (.seq (.ifs (.cmp .IsNot (.var 10) .non) (.seq (.ret (.tup (.cons (.var 10) (.cons (.str "cheaper") .nil))))
 .skip) .skip)
 (.seq (.ret (.tup (.cons (.bin .Add (.bin .Add (.sl V5 .no (.cons J2 .nil)) V4) (.sl V5 (.cons (.bin .Add J2 (.blt .len (.cons V4 .nil))) .nil) .no)) (.cons (.str "kept") .nil))))
 .skip))))))))))))
noncomputable def xV:E:=(.comp (.ix V4 V6) (.one 6) (.it (.ix V0 J1)) .no)
noncomputable def aED:E:=(.comp (.ix V4 (.var 10)) (.one 10) (.it (.call 7 (.cons (.ix (.ix V0 J0) V6) .nil))) .no)
noncomputable def xU:E:=(.rng1 (.blt .len (.cons V2 .nil)))
noncomputable def qW:Sx:=(.seq (.set 7 (.blt .tup (.cons (.fz aED) .nil)))
 (.seq (.setT (.many [8,9]) (.call 77 (.cons V0 (.cons V6 (.cons V1 (.cons (.ix V2 V6) (.cons V7 .nil)))))))
 (.seq (.expr (.app V5 V9))
 (.seq (.ifs (.isi V8 .tup) (.seq (.expr (.app V3 V8))
 (.seq (.set 8 (.bin .Sub (.blt .len (.cons V3 .nil)) J1))
 .skip)) .skip)
 (.seq (.expr (.app V4 V8))
 .skip)))))
noncomputable def aFD:Sx:=(.seq (.set 1 (.call 48 (.cons V0 .nil)))
 (.seq (.set 2 (.call 20 (.cons V0 (.cons V1 .nil))))
 (.seq (.set 3 (.new (.lst .nil)))
 (.seq (.set 4 (.new (.lst .nil)))
 (.seq (.set 5 (.new (.lst .nil)))
 (.seq (.loop (.one 6) xU qW)
 (.seq (.ret (.tup (.cons (.tup (.cons (.blt .tup (.cons V3 .nil)) (.cons (.blt .tup (.cons (.fz xV) .nil)) .nil))) (.cons (.blt .tup (.cons V5 .nil)) .nil))))
 .skip)))))))
noncomputable def aEs:E:=(.comp (.isi V2 .bool) (.one 2) (.it V1) .no)
noncomputable def xR:E:=(.it (.bin .Add (.ix (.ix V0 J0) J0) (.tup (.cons (.ix (.ix V0 J0) J1) .nil))))
noncomputable def tG:Sx:=(.seq (.ifs (.or (.not (.isi V1 .tup)) (.blt .any (.cons (.fz aEs) .nil))) (.seq (.ret (.bl false))
 .skip) .skip)
 .skip)
noncomputable def aES:Sx:=(.seq (.ifs (.or (.not (.isi V0 .tup)) (.or (.cmp .NotEq (.blt .len (.cons V0 .nil)) J2) (.or (.not (.isi (.ix V0 J0) .tup)) (.cmp .NotEq (.blt .len (.cons (.ix V0 J0) .nil)) J2)))) (.seq (.ret (.bl false))
 .skip) .skip)
 (.seq (.loop (.one 1) xR tG)
 (.seq (.ret (.bl true))
 .skip)))
noncomputable def aAa:E:=(.it (.bin .Add V2 (.sl V2 .no (.cons J1 .nil))))
noncomputable def uO:Sx:=(.seq (.set 4 (.call 58 (.cons V3 .nil)))
 (.seq (.ifs (.or (.not (.call 79 (.cons V4 .nil))) (.or (.cmp .NotEq V4 (.call 78 (.cons V3 .nil))) (.cmp .NotEq (.call 58 (.cons V3 .nil)) V4))) (.seq (.ret (.bl false))
 .skip) .skip)
 .skip))
noncomputable def aHl:E:=(.comp (.call 68 (.cons V1 .nil)) (.one 5) (.rng1 (.bin .Add J2 (.bin .FloorDiv (.blt .mn (.cons (.blt .len (.cons V0 .nil)) (.cons (.int 40) .nil))) (.int 20)))) .no)
noncomputable def jE:Sx:=(.seq (.set 1 (.new (.lst (.cons V0 (.cons J0 (.cons J0 .nil))))))
 (.seq (.setC false 2 aHl)
 (.seq (.loop (.one 3) aAa uO)
 (.seq (.ret (.bl true))
 .skip))))
noncomputable def fns:List Fn:=[
 {name:="full",np:=1,N:=["width"],body:=aJf,st:=top 1 },
 {name:="reach",np:=1,N:=["number"],body:=aIE,st:=top 2 },
 {name:="below",np:=1,N:=["number"],body:=aIC,st:=top 3 },
 {name:="low_run",np:=1,N:=["number"],body:=aGF,st:=top 4 },
 {name:="top_run",np:=2,N:=["number", "width"],body:=aGA,st:=top 5 },
 {name:="stretched",np:=3,N:=["number", "width", "wider", "top"],body:=aBO,st:=top 6 },
 {name:="shared_top",np:=3,N:=["least", "greatest", "width", "known", "ones"],body:=aEV,st:=top 7 },
 {name:="operands",np:=1,N:=["row"],body:=aMQ,st:=top 13 },
 {name:="with_operands",np:=2,N:=["row", "numbers"],body:=aEq,st:=top 14 },
 {name:="of_operands",np:=2,N:=["row", "values", "k"],body:=aEy,st:=top 15 },
 {name:="width_of",np:=2,N:=["program", "k", "rows"],body:=aFH,st:=top 16 },
 {name:="widths_of",np:=1,N:=["program", "row"],body:=aE2,st:=top 17 },
 {name:="settled_need",np:=3,N:=["first", "second", "mask"],body:=aEx,st:=top 19 },
 {name:="mul_need",np:=3,N:=["first", "second", "mask", "h", "u", "g"],body:=aFL,st:=top 20 },
 {name:="folded",np:=2,N:=["mask", "width"],body:=aCr,st:=top 21 },
 {name:="shift_need",np:=4,N:=["word", "width", "k", "mask"],body:=xZ,st:=top 22 },
 {name:="pick_need",np:=2,N:=["choice", "mask"],body:=yS,st:=top 23 },
 {name:="asking_need",np:=4,N:=["row", "widths", "facts", "mask", "word"],body:=aEG,st:=top 24 },
 {name:="need",np:=4,N:=["row", "widths", "facts", "mask"],body:=aDh,st:=top 25 },
 {name:="row_needs",np:=4,N:=["program", "facts", "k", "mask", "row", "widths", "needs", "operand"],body:=aE8,st:=top 27 },
 {name:="asked",np:=2,N:=["program", "facts", "masks", "out", "k", "rows", "outs", "operand", "mask"],body:=gD,st:=top 28 },
 {name:="top_mask",np:=2,N:=["count", "width"],body:=aFW,st:=top 30 },
 {name:="known_bits",np:=1,N:=["fact"],body:=aEN,st:=top 31 },
 {name:="closed",np:=2,N:=["fact", "width", "top", "noughts", "ones", "alike"],body:=uS,st:=top 32 },
 {name:="least",np:=1,N:=["fact"],body:=aID,st:=top 33 },
 {name:="greatest",np:=2,N:=["fact", "width"],body:=aFr,st:=top 34 },
 {name:="outcome",np:=3,N:=["word", "one", "other"],body:=aNG,st:=top 36 },
 {name:="low_masks",np:=3,N:=["word", "one", "other", "low", "ones"],body:=aFe,st:=top 37 },
 {name:="low_noughts",np:=4,N:=["word", "width", "one", "other"],body:=xT,st:=top 38 },
 {name:="bounds",np:=4,N:=["word", "width", "one", "other", "lowest", "highest"],body:=zO,st:=top 39 },
 {name:="top_masks",np:=4,N:=["word", "width", "one", "other", "lowest", "highest"],body:=yR,st:=top 40 },
 {name:="sum_alike",np:=3,N:=["word", "one", "other"],body:=yN,st:=top 41 },
 {name:="sum_fact",np:=4,N:=["word", "width", "one", "other", "low", "top", "noughts"],body:=aFV,st:=top 42 },
 {name:="num_fact",np:=2,N:=["width", "number"],body:=aFE,st:=top 47 },
 {name:="unlike_bits",np:=2,N:=["one", "other"],body:=aEz,st:=top 48 },
 {name:="bitwise_fact",np:=3,N:=["word", "one", "other", "alike", "noughts"],body:=xS,st:=top 49 },
 {name:="left_fact",np:=3,N:=["width", "fact", "k", "noughts"],body:=aFc,st:=top 50 },
 {name:="right_fact",np:=3,N:=["width", "fact", "k", "noughts"],body:=aBG,st:=top 51 },
 {name:="slide_fact",np:=3,N:=["width", "fact", "k", "wider"],body:=aEX,st:=top 52 },
 {name:="shift_fact",np:=4,N:=["word", "width", "fact", "k"],body:=aLs,st:=top 53 },
 {name:="fit_fact",np:=4,N:=["word", "v", "w", "fact", "noughts", "ones", "alike"],body:=tO,st:=top 54 },
 {name:="same_fact",np:=3,N:=["width", "one", "other"],body:=yI,st:=top 55 },
 {name:="less_fact",np:=3,N:=["width", "one", "other"],body:=yU,st:=top 56 },
 {name:="top_turned",np:=2,N:=["fact", "width", "turning", "noughts", "ones", "alike"],body:=aEY,st:=top 57 },
 {name:="compare_fact",np:=4,N:=["word", "width", "one", "other"],body:=aLa,st:=top 58 },
 {name:="pick_fact",np:=3,N:=["choice", "one", "other"],body:=yQ,st:=top 59 },
 {name:="open_fact",np:=3,N:=["row", "widths", "facts", "word", "width"],body:=aLE,st:=top 60 },
 {name:="rule",np:=3,N:=["row", "widths", "facts"],body:=aI4,st:=top 61 },
 {name:="facts_of",np:=1,N:=["program", "widths", "facts", "row"],body:=aFk,st:=top 62 },
 {name:="among",np:=2,N:=["mask", "other"],body:=aIg,st:=top 65 },
 {name:="single_bit",np:=2,N:=["fact", "mask", "ones"],body:=tL,st:=top 66 },
 {name:="known_number",np:=4,N:=["row", "fact", "mask", "places", "word"],body:=pC,st:=top 67 },
 {name:="changes_nothing",np:=3,N:=["word", "fact", "mask"],body:=qU,st:=top 68 },
 {name:="passed_side",np:=2,N:=["choice", "places"],body:=tJ,st:=top 69 },
 {name:="passed_operand",np:=5,N:=["row", "mask", "widths", "facts", "places", "word"],body:=gM,st:=top 70 },
 {name:="product_by_shift",np:=4,N:=["row", "low", "facts", "places", "one", "other", "k"],body:=pB,st:=top 71 },
 {name:="cheaper_row",np:=4,N:=["row", "mask", "facts", "places", "low"],body:=pF,st:=top 72 },
 {name:="trade",np:=6,N:=["row", "fact", "mask", "widths", "facts", "places", "number", "operand", "cheaper"],body:=oC,st:=top 73 },
 {name:="traded",np:=1,N:=["program", "facts", "masks", "widths", "rows", "places", "words", "outs", "row", "fact", "mask", "about", "word", "made", "place", "out"],body:=aGX,st:=top 74 },
 {name:="_law_draw",np:=2,N:=["_law_state", "_law_many", "_law_cell", "_law_script", "_law_k", "_law_digit"],body:=iF,st:=top 76 },
 {name:="_law_number",np:=2,N:=["_law_state", "_law_width_here"],body:=aBE,st:=top 77 },
 {name:="_law_width",np:=1,N:=["_law_state"],body:=aEM,st:=top 78 },
 {name:="_law_num",np:=2,N:=["_law_state", "_law_width_here", "_law_sort", "_law_some"],body:=aBZ,st:=top 79 },
 {name:="_law_added",np:=2,N:=["_law_rows", "_law_row"],body:=aEU,st:=top 80 },
 {name:="_law_partly",np:=3,N:=["_law_state", "_law_rows", "_law_width_here", "_law_sort", "_law_some", "_law_one", "_law_number_here", "_law_other", "_law_narrow", "_law_k"],body:=pE,st:=top 81 },
 {name:="_law_copied",np:=4,N:=["_law_state", "_law_rows", "_law_a", "_law_width_here"],body:=aLi,st:=top 82 },
 {name:="_law_tested",np:=2,N:=["_law_state", "_law_rows", "_law_some", "_law_word", "_law_width_here", "_law_a", "_law_b", "_law_sort"],body:=tI,st:=top 83 },
 {name:="_law_asked_less",np:=3,N:=["_law_state", "_law_rows", "_law_a", "_law_width_here", "_law_sort", "_law_other"],body:=aEl,st:=top 84 },
 {name:="_law_known_program",np:=1,N:=["_law_state", "_law_rows", "_law_outs", "_law_turn"],body:=aKN,st:=top 85 },
 {name:="_law_bits",np:=1,N:=["_law_mask", "_law_i"],body:=aFh,st:=top 86 },
 {name:="_law_low",np:=1,N:=["_law_mask"],body:=aFG,st:=top 87 },
 {name:="_law_has",np:=2,N:=["_law_place", "_law_bits_here", "_law_i"],body:=aFZ,st:=top 88 },
 {name:="_law_one_at",np:=2,N:=["_law_fact", "_law_mask", "_law_ones", "_law_i"],body:=tH,st:=top 89 },
 {name:="_law_tells_other",np:=3,N:=["_law_word", "_law_fact", "_law_mask"],body:=qT,st:=top 90 },
 {name:="_law_number_known",np:=4,N:=["_law_row", "_law_fact", "_law_mask", "_law_twice"],body:=nP,st:=top 91 },
 {name:="_law_side",np:=5,N:=["_law_row", "_law_width_here", "_law_facts", "_law_mask", "_law_news", "_law_word"],body:=fA,st:=top 92 },
 {name:="_law_lower",np:=4,N:=["_law_row", "_law_facts", "_law_mask", "_law_news", "_law_which", "_law_k"],body:=lZ,st:=top 93 },
 {name:="_law_becomes",np:=5,N:=["_law_program", "_law_k", "_law_facts", "_law_mask", "_law_news", "_law_row", "_law_ahead", "_law_some", "_law_number_here", "_law_side_here", "_law_lower_here", "_law_a"],body:=iD,st:=top 94 },
 {name:="_law_due",np:=1,N:=["_law_program", "_law_facts", "_law_masks", "_law_rows", "_law_news", "_law_words", "_law_k", "_law_there", "_law_what", "_law_word", "_law_a"],body:=aFD,st:=top 95 },
 {name:="_law_shape",np:=1,N:=["_law_found", "_law_part", "_law_one"],body:=aES,st:=top 96 },
 {name:="law",np:=1,N:=["_law_script", "_law_state", "_law_programs", "_law_program", "_law_found", "_law_turn"],body:=jE,st:=top 97 }]
noncomputable def bV(ns:List Int)(k:Nat)(x:Int):List D:=[.list (ns.map yAn),.int k,.int x]
theorem aPr{α:Type}{S:List α}{n:Nat}{a v:α}(h:S[n]? = qq a):(S.set n v)[n]? = qq v:=yAy (gIm h).1
theorem aBR{α:Type}(S:List α)(n:Nat)(v:α):(S.set n v).take S.length=S.set n v:=by
 rw[yBq];rw[yBi];exact yAc _
theorem aIm(a b c:D):aP (.list [a,b,c]) (.int 0)=qq a:=rfl
theorem aIb(a b c:D):aP (.list [a,b,c]) (.int 2)=qq c:=rfl
theorem aWy(a b c:D):eB [a,b,c] qz (qq 2)=[a,b]:=rfl
theorem rE{ns:List Int}{k:Nat}(h:k<ns.length):aP (.list (ns.map yAn)) (.int k)=qq (.int ns[k]):=iW (by rw[xAb,yAa h];rfl)
theorem uR(i:Int){w:Nat}(hw:0<w):∃ r:Nat,i%(w:Int)=(r:Int)/\r<w:=by
 have h0:=Int.emod_nonneg i (show(w:Int)≠0 by omega)
 have h1:=yGl i (show(0:Int)<(w:Int) by omega)
 exact⟨(i%(w:Int)).toNat,by omega,by omega⟩
theorem aUd:jM 3 1=qq 1:=rfl
theorem aJm:jM 3 2=qq 2:=rfl
theorem pL(ns:List Int):(ns.map yAn).length=ns.length:=yAb ..
noncomputable def rD:Sx:=match iF with
 | .seq _ (.seq _ (.seq _ r))=>r
 | _=>.skip
theorem rA(i p:Int)(hp:0<p)(hp2:p<=2147483647) : -(2^64)<i%p/\i%p<2^64:=by
 have h0:=Int.emod_nonneg i (show p≠0 by omega)
 have h1:=yGl i hp;exact⟨by omega,by omega⟩
theorem aMA(C:Calls)(n k m:Nat)(ns:List Int)(x:Int)(S:aC)(e2 e5:Option W)(hS:S[n]? = qq (qq (bV ns (k+1) x)))(hm:0<m)(hk:k<=100000) :
 ∃ r:Nat,r<m/\xs C rD [qq (.loc n),qq (.d (.int m)),e2,qq (.d (.list (ns.map yAn))),qq (.d (.int k)),e5] S=qq (.rt (.d (.int r)),S):=by
 unfold bV at hS;have hm':(0:Int)<(m:Int):=by omega
 by_cases c1:k<ns.length
 ·have d1:decide ((k:Int)<((ns.length:Nat):Int))=true:=dqT (by omega)
  obtain⟨r,er,hr⟩:=uR ns[k] hm;refine⟨r,hr,?_⟩;simp only[gS2,rD,iF,mH,mK,pL,eN,d1,rE c1,fO hm',er]
 ·have d1:decide ((k:Int)<((ns.length:Nat):Int))=false:=dqF (by omega)
  have bT:∀ c:Int,∃ r:Nat,r<m/\c%2147483629*((k:Int)+3)%2147483629*(c%2147483629*((k:Int)+3)%2147483629)%2147483587*(c%2147483629*((k:Int)+3)%2147483629*(c%2147483629*((k:Int)+3)%2147483629)%2147483587)%1999999973%(m:Int)=(r:Int):=λ c=>by
   obtain⟨r,er,hr⟩:=uR (c%2147483629*((k:Int)+3)%2147483629*(c%2147483629*((k:Int)+3)%2147483629)%2147483587*(c%2147483629*((k:Int)+3)%2147483629*(c%2147483629*((k:Int)+3)%2147483629)%2147483587)%1999999973) hm;exact⟨r,hr,er⟩
  by_cases c2:0<ns.length
  ·have d2:decide ((0:Int)<((ns.length:Nat):Int))=true:=dqT (by omega)
   obtain⟨q,eq,hq⟩:=uR ((k:Int)*7) c2;obtain⟨r,hr,er⟩:=bT ((k:Int)*7919+5+ns[q]*(48271+(k:Int)));refine⟨r,hr,?_⟩;have s1:=rA ((k:Int)*7919+5+ns[q]*(48271+(k:Int))) 2147483629 (by decide) (by decide)
   have s2:=rA (((k:Int)*7919+5+ns[q]*(48271+(k:Int)))%2147483629*((k:Int)+3)) 2147483629 (by decide) (by decide)
   have s3:=rA (((k:Int)*7919+5+ns[q]*(48271+(k:Int)))%2147483629*((k:Int)+3)%2147483629*(((k:Int)*7919+5+ns[q]*(48271+(k:Int)))%2147483629*((k:Int)+3)%2147483629)) 2147483587 (by decide) (by decide)
   simp only[evs,rD,iF,mH,mK,pL,eN,d1,uU (i:=(k:Int)) (j:=7919) (by decide) (by decide),dN,hS,aIm,rR,d2,uU (i:=(k:Int)) (j:=7) (by decide) (by decide),fO (i:=(k:Int)*7) (j:=((ns.length:Nat):Int)) (by omega),eq,rE hq,
    uU (i:=ns[q]) (j:=48271+(k:Int)) (by omega) (by omega),fO (j:=2147483629) (by decide),pK s1.1 s1.2,pK s2.1 s2.2,fO (j:=2147483587) (by decide),pK s3.1 s3.2,fO (j:=1999999973) (by decide),fO hm',er]
  ·have d2:decide ((0:Int)<((ns.length:Nat):Int))=false:=dqF (by omega)
   obtain⟨r,hr,er⟩:=bT ((k:Int)*7919+5);refine⟨r,hr,?_⟩;have s1:=rA ((k:Int)*7919+5) 2147483629 (by decide) (by decide)
   have s2:=rA (((k:Int)*7919+5)%2147483629*((k:Int)+3)) 2147483629 (by decide) (by decide)
   have s3:=rA (((k:Int)*7919+5)%2147483629*((k:Int)+3)%2147483629*(((k:Int)*7919+5)%2147483629*((k:Int)+3)%2147483629)) 2147483587 (by decide) (by decide)
   have hq1:=uU (i:=(k:Int)) (j:=7919) (by decide) (by decide)
   have hq2:=λ i=>fO (i:=i) (j:=2147483629) (by decide)
   have hq3:=λ i=>fO (i:=i) (j:=2147483587) (by decide)
   have hq4:=λ i=>fO (i:=i) (j:=1999999973) (by decide)
   simp only[gS2,rD,iF,mH,mK,pL,eN,d1,hq1,dN,hS,aIm,rR,d2,hq2,pK s1.1 s1.2,pK s2.1 s2.2,hq3,pK s3.1 s3.2,hq4,fO hm',er]
noncomputable def pR:Sx:=match iF with
 | .seq _ (.seq _ (.seq i _))=>i
 | _=>.skip
noncomputable def aCE:Sx:=match iF with
 | .seq _ (.seq p _)=>p
 | _=>.skip
noncomputable def aAb:Sx:=match iF with
 | .seq p _=>p
 | _=>.skip
theorem aPO(d n k m:Nat)(ns:List Int)(x:Int)(S:aC)(hS:S[n]? = qq (qq (bV ns k x)))(hm:0<m)(hm2:m<2^64)(hk:k<=100000) :
 ∃ (r:Nat) (x':Int),r<m/\cl fns (d+1) 59 [.loc n,.d (.int m)] S=qq (.d (.int r),S.set n (qq (bV ns (k+1) x'))):=by
 have hm':(0:Int)<(m:Int):=by omega
 have hm2':(m:Int)<2^64:=by exact_mod_cast hm2
 have e1:(k:Int)/12+1=((k/12+1:Nat):Int):=by omega
 have e2:(k:Int)+1=((k+1:Nat):Int):=by omega
 have gs:=λ v=>aPr (v:=v) hS
 have start:(dI (xs (aD fns d) aAb) (xs (aD fns d) aCE)) [qq (.loc n),qq (.d (.int m)),qz,qz,qz,qz] S=qq (.nx [qq (.loc n),qq (.d (.int m)),qz,qq (.d (.list (ns.map yAn))),qq (.d (.int k)),qz],S.set n (qq (bV ns (k+1) x))):=by
  unfold bV at hS ⊢;simp only[gS3,aAb,aCE,iF,jI,mO,xB,hS,aWy,lQ,jU,aUd,dN,e2]
 have gL:∀ (R:Option (Fl×aC)),dI (xs (aD fns d) pR) (xs (aD fns d) rD) [qq (.loc n),qq (.d (.int m)),qz,qq (.d (.list (ns.map yAn))),qq (.d (.int k)),qz] (S.set n (qq (bV ns (k+1) x)))=R ->
  cl fns (d+1) 59 [.loc n,.d (.int m)] S=R.bind λ p=>match p.1 with
   | .rt w=>lS S.length p.2 w
   | .nx _=>qq (.d .none,p.2.take S.length)
   | _=>qz:=λ R hR=>by
  rw[aY rfl d _ S rfl,<- hR];simp only[dI] at start ⊢;cases q:xs (aD fns d) aAb [qq (.loc n),qq (.d (.int m)),qz,qz,qz,qz] S with
  | none=>rw[q] at start;cases start
  | some z =>
    obtain⟨fl,S1⟩:=z;rw[q] at start;simp only[oB] at start;cases fl with
    | nx e =>
      simp only at start;show((dI (xs (aD fns d) aAb) (dI (xs (aD fns d) aCE) (dI (xs (aD fns d) pR) (xs (aD fns d) rD)))) [qq (.loc n),qq (.d (.int m)),qz,qz,qz,qz] S).bind _=_;simp only[dI,q,oB,start]
      all_goals rfl
    | rt w=>cases start
    | bk e=>cases start
    | ct e=>cases start
 have hS2:(S.set n (qq (bV ns (k+1) x)))[n]? = qq (qq (bV ns (k+1) x)):=gs _;have skip:xs (aD fns d) pR [qq (.loc n),qq (.d (.int m)),qz,qq (.d (.list (ns.map yAn))),qq (.d (.int k)),qz] (S.set n (qq (bV ns (k+1) x)))=qq (.nx [qq (.loc n),qq (.d (.int m)),qz,qq (.d (.list (ns.map yAn))),qq (.d (.int k)),qz],S.set n (qq (bV ns (k+1) x))) ->
  ∃ (r:Nat) (x':Int),r<m/\cl fns (d+1) 59 [.loc n,.d (.int m)] S=qq (.d (.int r),S.set n (qq (bV ns (k+1) x'))):=λ h=>by
  obtain⟨r,hr,ht⟩:=aMA (aD fns d) n k m ns x _ qz qz hS2 hm hk;refine⟨r,x,hr,?_⟩;rw[gL _ rfl];simp only[dI,h,oB,ht,lS,aBR]
 by_cases c1:k/12+1<ns.length
 ·have d1:decide (((k/12+1:Nat):Int)<((ns.length:Nat):Int))=true:=dqT (by omega)
  have i0:aP (.list (ns.map yAn)) (.int 0)=qq (.int ns[0]):=rE (k:=0) (by omega)
  rcases yBw (ns[0]%2==1) with c2 | c2
  ·rcases yBw ((k:Int)%12==0) with c3 | c3
   ·obtain⟨r,er,hr⟩:=uR ns[k/12+1] hm;refine⟨r,ns[k/12+1]/(m:Int),hr,?_⟩;rw[gL _ rfl];unfold bV at hS2 ⊢;have hq5:=pN (i:=(k:Int)) (j:=12) (by decide) (by decide)
    have hq6:=fO (i:=ns[0]) (j:=2) (by decide)
    have hq7:=fO (i:=(k:Int)) (j:=12) (by decide)
    simp only[gS2,pR,iF,lQ,jU,aJm,dN,hq5,e1,mH,mK,pL,eN,d1,i0,hq6,aO,c2,hq7,c3,hS2,gs,List.set_set,rE c1,aIb,fO hm',er,pN hm' hm2',aBR]
   ·obtain⟨r,er,hr⟩:=uR x hm;refine⟨r,x/(m:Int),hr,?_⟩;rw[gL _ rfl];unfold bV at hS2 ⊢;have hq8:=pN (i:=(k:Int)) (j:=12) (by decide) (by decide)
    have hq9:=fO (i:=ns[0]) (j:=2) (by decide)
    have hq10:=fO (i:=(k:Int)) (j:=12) (by decide)
    simp only[gS2,pR,iF,lQ,jU,aJm,dN,hq8,e1,mH,mK,pL,eN,d1,i0,hq9,aO,c2,hq10,c3,hS2,gs,List.set_set,aIb,fO hm',er,pN hm' hm2',aBR]
  ·apply skip;have hq11:=pN (i:=(k:Int)) (j:=12) (by decide) (by decide)
   have hq12:=fO (i:=ns[0]) (j:=2) (by decide)
   simp only[gS2,pR,iF,dN,hq11,e1,mH,mK,pL,eN,d1,i0,hq12,aO,c2]
 ·have d1:decide (((k/12+1:Nat):Int)<((ns.length:Nat):Int))=false:=dqF (by omega)
  apply skip;have hq13:=pN (i:=(k:Int)) (j:=12) (by decide) (by decide)
  simp only[gS2,pR,iF,dN,hq13,e1,mH,mK,pL,eN,d1]
inductive Wd where
 | «in» | num | not | and | or | xor | add | sub | mul | left | right | slide | cut | wide | sign | same | less | under | pick
 deriving DecidableEq
noncomputable def Wd.s:Wd->Str
 | .in => "in" | .num => "num" | .not => "not" | .and => "and" | .or => "or" | .xor => "xor" | .add => "add" | .sub => "sub" | .mul => "mul" | .left => "left" | .right => "right" | .slide => "slide"
 | .cut => "cut" | .wide => "wide" | .sign => "sign" | .same => "same" | .less => "less" | .under => "under" | .pick => "pick"
structure Rw where
 wd:Wd
 w:Nat
 args:List Nat
noncomputable def nD(n:Nat):D:=.int n
noncomputable def Rw.d(r:Rw):D:=.tuple (.str r.wd.s::nD r.w::r.args.map nD)
def fB(ws:List Nat)(r:Rw):Prop:=1<=r.w/\r.w<=64/\match r.wd,r.args with
 | .in,[]=>True
 | .num,[n]=>n<2^r.w
 | .not,[a]=>ws[a]? = qq r.w
 | .and,[a,b] | .or,[a,b] | .xor,[a,b] | .add,[a,b] | .sub,[a,b] | .mul,[a,b]=>ws[a]? = qq r.w/\ws[b]? = qq r.w
 | .left,[a,k] | .right,[a,k] | .slide,[a,k]=>ws[a]? = qq r.w/\k<64
 | .cut,[a]=>∃ v,ws[a]? = qq v/\r.w<=v
 | .wide,[a] | .sign,[a]=>∃ v,ws[a]? = qq v/\v<=r.w
 | .same,[a,b] | .less,[a,b] | .under,[a,b]=>r.w=1/\∃ v,ws[a]? = qq v/\ws[b]? = qq v
 | .pick,[c,a,b]=>ws[c]? = qq 1/\ws[a]? = qq r.w/\ws[b]? = qq r.w
 | _,_=>False
noncomputable def eG:List Nat->List Rw->Prop
 | _,[]=>True
 | ws,r::rs=>fB ws r/\eG (ws++[r.w]) rs
theorem aEO:∀ {rs:List Rw}{ws:List Nat}{r:Rw},eG ws rs->fB (ws++rs.map (·.w)) r->eG ws (rs++[r])
 | [],ws,r,_,h=>⟨by simpa using h,True.intro⟩
 | q::rs,ws,r,⟨h1,h2⟩,h=>⟨h1,aEO h2 (by simpa using h)⟩
noncomputable def dW(S:aC)(n p:Nat)(ns:List Int)(k:Nat)(x:Int)(rs:List Rw):aC:=(S.set n (qq (bV ns k x))).set p (qq (rs.map Rw.d))
section
variable {S : aC}{n p : Nat}{ns : List Int}{k : Nat}{x : Int}{rs : List Rw}
structure At0(S:aC)(n p:Nat):Prop where
 hn:n<S.length
 ne:n≠p
structure At(S:aC)(n p:Nat):Prop extends At0 S n p where
 hp:p<S.length
theorem At0.state(h:At0 S n p):(dW S n p ns k x rs)[n]? = qq (qq (bV ns k x)):=by
 unfold dW;rw[yAz h.ne.symm,yAy h.hn]
theorem At.rows(h:At S n p):(dW S n p ns k x rs)[p]? = qq (qq (rs.map Rw.d)):=by
 unfold dW;rw[yAy (by rw[yBi];exact h.hp)]
theorem At0.len(h:At0 S n p):(dW S n p ns k x rs).length=S.length:=by simp[dW]
theorem At0.take(h:At0 S n p)(k':Nat)(x':Int)(bH:List Rw):(dW S n p ns k' x' bH).take (dW S n p ns k x rs).length=dW S n p ns k' x' bH:=by
 rw[h.len,yBq];rw[h.len];exact yAc _
theorem At0.put(h:At0 S n p)(k':Nat)(x':Int):(dW S n p ns k x rs).set n (qq (bV ns k' x'))=dW S n p ns k' x' rs:=by
 unfold dW;rw[List.set_comm _ _ h.ne.symm,List.set_set]
end
section
variable {S : aC}{n p : Nat}{ns : List Int}{k : Nat}{x : Int}{rs : List Rw}
theorem pO(h:At0 S n p)(d m:Nat)(hm:0<m)(hm2:m<2^64)(hk:k<=100000):∃ (r:Nat) (x':Int),r<m/\cl fns (d+1) 59 [.loc n,.d (.int m)] (dW S n p ns k x rs)=qq (.d (.int r),dW S n p ns (k+1) x' rs):=by
 obtain⟨r,x',hr,e⟩:=aPO d n k m ns x _ h.state hm hm2 hk;exact⟨r,x',hr,by rw[e,h.put]⟩
theorem zM(h:At0 S n p)(d m:Nat){i:Int}(hi:i=(m:Nat))(hm:0<m)(hm2:m<2^64)(hk:k<=100000):∃ (r:Nat) (x':Int),r<m/\cl fns (d+1) 59 [.loc n,.d (.int i)] (dW S n p ns k x rs)=qq (.d (.int r),dW S n p ns (k+1) x' rs):=by
 subst hi;exact pO h d m hm hm2 hk
theorem aGD{w:Nat}(h:w<64):2^w<2^64:=yCb (by decide) h
theorem aMl(h:At0 S n p)(d w:Nat)(hw:w<=64)(hk:k<=99000):∃ (r k':Nat) (x':Int),r<2^w/\k'<=k+2/\cl fns (d+2) 60 [.loc n,.d (.int w)] (dW S n p ns k x rs)=qq (.d (.int r),dW S n p ns k' x' rs):=by
 by_cases c:w<31
 ·have d1:decide ((w:Int)<31)=true:=dqT (by omega)
  obtain⟨r,x',hr,e⟩:=pO (ns:=ns) (k:=k) (x:=x) (rs:=rs) h d (2^w) (pI w) (aGD (by omega)) (by omega)
  refine⟨r,k+1,x',hr,by omega,?_⟩
  rw[aY rfl (d+1) _ _ rfl];have hq14:=gC (show w<=100000 by omega)
  simp only[gR1,aBE,eN,d1,hq14,e,h.take]
 ·have d1:decide ((w:Int)<31)=false:=dqF (by omega)
  have e1:(w:Int)-30=((w-30:Nat):Int):=by omega
  have s30:=gC (w:=30) (by decide)
  rw[show((30:Nat):Int)=30 from rfl] at s30
  obtain⟨r,x',hr,e⟩:=pO (ns:=ns) (k:=k) (x:=x) (rs:=rs) h d (2^30) (by decide) (by decide) (by omega)
  obtain⟨q,x2,hq,e'⟩:=pO (ns:=ns) (k:=k+1) (x:=x') (rs:=rs) h d (2^(w-30)) (pI _) (aGD (by omega)) (by omega)
  have hb:r+q*2^30<2^w:=by
   have e3:(2:Nat)^w=2^(w-30)*2^30:=by rw[<- yGw,show w-30+30=w by omega]
   have h3:(q+1)*2^30<=2^(w-30)*2^30:=Nat.mul_le_mul_right _ hq;rw[Nat.add_mul] at h3;omega
  have sh:bS .LShift (.int q) (.int 30)=qq (.int ((q*2^30:Nat):Int)):=uK (n:=q) (a:=w-30) (k:=30) hq (by omega)
  have ad:(r:Int)+((q*2^30:Nat):Int)=((r+q*2^30:Nat):Int):=(Int.natCast_add _ _).symm;refine⟨r+q*2^30,k+2,x2,hb,by omega,?_⟩
  rw[aY rfl (d+1) _ _ rfl];have hq15:=gC (show w-30<=100000 by omega)
  simp only[gR1,aBE,eN,d1,s30,e,cQ,e1,hq15,e',sh,dN,ad,h.take]
end
theorem at4(a b c e:D){r:Nat}(h1:r<4):∃ x,(x=a\/x=b\/x=c\/x=e)/\aP (.list [a,b,c,e]) (.int r)=qq x:=by
 have:r=0\/r=1\/r=2\/r=3:=by omega
 rcases this with rfl | rfl | rfl | rfl
 ·exact⟨a,.inl rfl,rfl⟩
 ·exact⟨b,.inr (.inl rfl),rfl⟩
 ·exact⟨c,.inr (.inr (.inl rfl)),rfl⟩
 ·exact⟨e,.inr (.inr (.inr rfl)),rfl⟩
section
variable {S : aC}{n p : Nat}{ns : List Int}{k : Nat}{x : Int}{rs : List Rw}
theorem aNH(h:At0 S n p)(d:Nat)(hk:k<=99000):∃ (w:Nat) (x':Int),1<=w/\w<=64/\cl fns (d+2) 61 [.loc n] (dW S n p ns k x rs)=qq (.d (.int w),dW S n p ns (k+3) x' rs):=by
 obtain⟨r1,x1,h1,e1⟩:=zM (ns:=ns) (k:=k) (x:=x) (rs:=rs) h d 8 (i:=8) rfl (by decide) (by decide) (by omega)
 obtain⟨r2,x2,h2,e2⟩:=zM (ns:=ns) (k:=k+1) (x:=x1) (rs:=rs) h d 64 (i:=64) rfl (by decide) (by decide) (by omega)
 obtain⟨r3,x3,h3,e3⟩:=zM (ns:=ns) (k:=k+2) (x:=x2) (rs:=rs) h d 4 (i:=4) rfl (by decide) (by decide) (by omega)
 have a1:(1:Int)+(r1:Int)=((1+r1:Nat):Int):=by omega
 have a2:(1:Int)+(r2:Int)=((1+r2:Nat):Int):=by omega
 obtain⟨y,hy,e⟩:=at4 (.int 1) (.int 64) (.int ((1+r1:Nat):Int)) (.int ((1+r2:Nat):Int)) h3;obtain⟨w,cW,bF,rfl⟩:∃ w:Nat,1<=w/\w<=64/\y=.int w:=by
  rcases hy with rfl | rfl | rfl | rfl
  ·exact⟨1,by decide,by decide,rfl⟩
  ·exact⟨64,by decide,by decide,rfl⟩
  ·exact⟨_,by omega,by omega,rfl⟩
  ·exact⟨_,by omega,by omega,rfl⟩
 refine⟨w,x3,cW,bF,?_⟩;rw[aY rfl (d+1) _ _ rfl];simp only[gR1,aEM,e1,e2,e3,dN,a1,a2,e,h.take]
end
theorem aHj{t:Tg}{fb:FS}(P:Nat->aX->aC->Prop):∀ (ds:List D) (i:Nat) (env:aX) (S:aC),P i env S->(∀ j d env S,i<=j->j<i+ds.length->P j env S->∃ e1 aN S',t.put d env=qq e1/\fb e1 S=qq (.nx aN,S')/\P (j+1) aN S') ->
 ∃ aN S',fU t fb ds env S=qq (.nx aN,S')/\P (i+ds.length) aN S'
 | [],i,env,S,h0,_=>⟨env,S,rfl,h0⟩
 | d::ds,i,env,S,h0,h=>by
   obtain⟨e1,aN,S',h1,h2,h3⟩:=h i d env S (yAc _) (by simp) h0
   obtain⟨env2,S2,h4,h5⟩:=aHj P ds (i+1) aN S' h3 λ j d' env S a b=>h j d' env S (by omega) (by simp at b ⊢;omega)
   refine⟨env2,S2,by simp only[fU,h1,oB,h2];exact h4,?_⟩
   have:i+(d::ds).length=i+1+ds.length:=by simp;omega
   rw[this];exact h5
theorem aQY{t:Tg}{fi:FL}{fb:FS}{env:aX}{S S1:aC}{ds:List D}(P:Nat->aX->aC->Prop)(hi:fi env S=qq (ds,S1))(h0:P 0 env S1)(h:∀ j d env S,j<ds.length->P j env S->∃ e1 aN S',t.put d env=qq e1/\fb e1 S=qq (.nx aN,S')/\P (j+1) aN S') :
 ∃ aN S',dC t fi fb env S=qq (.nx aN,S')/\P ds.length aN S':=by
 obtain⟨aN,S',h1,h2⟩:=aHj (t:=t) (fb:=fb) P ds 0 env S1 h0 λ j d env S _ b=>h j d env S (by omega)
 exact⟨aN,S',by unfold dC;rw[hi,oB];exact h1,by simpa using h2⟩
theorem b2i(b:Bool):∃ q:Nat,q<2/\(if b then (1:Int) else 0)=(q:Int):=by
 cases b
 ·exact⟨0,by decide,rfl⟩
 ·exact⟨1,by decide,rfl⟩
theorem pP{C:Calls}{a r:Sx}{env e1:aX}{S S1:aC}(h:xs C a env S=qq (.nx e1,S1)):xs C (.seq a r) env S=xs C r e1 S1:=by simp only[iV,dI,h,oB]
noncomputable abbrev s0(ns:List Int)(k:Nat)(x:Int):aC:=[qq (bV ns k x)]
section
variable {ns : List Int}{k : Nat}{x : Int}
end
theorem aB5(a:Nat):bS .BitAnd (.int a) (.int 1)=qq (.int ((a&&&1:Nat):Int)):=cY a 1
theorem bX(n:Nat):(((n:Nat):Int)==0)=(n==0):=by
 rw[yFg,beq_iff_eq,beq_iff_eq];omega
section
variable {S : aC}{n p : Nat}{ns : List Int}{k : Nat}{x : Int}{rs : List Rw}
theorem aRL(h:At0 S n p)(d w:Nat)(hw:1<=w)(bF:w<=64)(hk:k<=98000):∃ (r k':Nat) (x':Int),r<2^w/\k'<=k+5/\cl fns (d+3) 62 [.loc n,.d (.int w)] (dW S n p ns k x rs)=qq (.d (.int r),dW S n p ns k' x' rs):=by
 have hw3:w<2^64:=by omega
 have hp:=pI w;obtain⟨r1,x1,h1,e1⟩:=zM (ns:=ns) (k:=k) (x:=x) (rs:=rs) h (d+1) 5 (i:=5) rfl (by decide) (by decide) (by omega)
 obtain⟨r2,x2,h2,e2⟩:=pO (ns:=ns) (k:=k+1) (x:=x1) (rs:=rs) h (d+1) w (by omega) hw3 (by omega)
 obtain⟨r3,x3,h3,e3⟩:=pO (ns:=ns) (k:=k+2) (x:=x2) (rs:=rs) h (d+1) w (by omega) hw3 (by omega)
 by_cases c:r1<4
 ·have d1:decide ((r1:Int)<4)=true:=dqT (by omega)
  obtain⟨y,hy,e⟩:=at4 (.int 0) (.int ((2^w-1:Nat):Int)) (.int ((2^r2:Nat):Int)) (.int ((2^r3-1:Nat):Int)) c;obtain⟨q,hq,rfl⟩:∃ q:Nat,q<2^w/\y=.int q:=by
   have l2:2^r2<2^w:=yCb (by decide) h2
   have l3:2^r3<2^w:=yCb (by decide) h3
   rcases hy with rfl | rfl | rfl | rfl
   ·exact⟨0,hp,rfl⟩
   ·exact⟨_,by omega,rfl⟩
   ·exact⟨_,l2,rfl⟩
   ·exact⟨_,by omega,rfl⟩
  refine⟨q,k+3,x3,hq,by omega,?_⟩
  rw[aY rfl (d+2) _ _ rfl];have hq16:=gC (show w<=100000 by omega)
  have hq17:=gC (show r2<=100000 by omega)
  have hq18:=gC (show r3<=100000 by omega)
  simp only[gR1,aBZ,e1,hq16,cQ,aBW,e2,hq17,e3,hq18,eN,d1,e,h.take]
 ·have d1:decide ((r1:Int)<4)=false:=dqF (by omega)
  obtain⟨r,k',x',hr,hk',e⟩:=aMl (ns:=ns) (k:=k+3) (x:=x3) (rs:=rs) h d w bF (by omega)
  refine⟨r,k',x',hr,by omega,?_⟩
  rw[aY rfl (d+2) _ _ rfl];have hq19:=gC (show w<=100000 by omega)
  have hq20:=gC (show r2<=100000 by omega)
  have hq21:=gC (show r3<=100000 by omega)
  simp only[gR1,aBZ,e1,hq19,cQ,aBW,e2,hq20,e3,hq21,eN,d1,e,h.take]
end
theorem aIM:∀ L:List Nat,yCi (L.map nD)=true
 | []=>rfl
 | a::r=>by
   have ih:=aIM r;simp only[yBb,yCi,ih,yBk];rfl
theorem aGh:∀ L:List Nat,yCa (L.map nD)=0
 | []=>rfl
 | a::r=>by
   have ih:=aGh r;simp only[yBb,yCa,ih];rfl
theorem aH3(L:List Nat):aM .NotEq (.list (L.map nD)) (.list [])=qq (.bool (!L.isEmpty)):=by
 have h1:(yHl (L.map nD)).canLay0=true:=aIM L;have h2:(yHl (L.map nD)).depth<=60:=by
  show yCa (L.map nD)+1<=60;rw[aGh];decide
 unfold aM qI;simp only[];rw[if_pos ⟨h1,rfl,h2⟩];cases L<;>rfl
theorem gO(r:Rw):aP r.d (.int 1)=qq (.int r.w):=gN (xs:=.str r.wd.s::nD r.w::r.args.map nD) (k:=1) rfl
noncomputable def wdE(a b:Wd):Bool:=match aM .Eq (.str a.s) (.str b.s) with
 | some (.bool c)=>c==decide (a=b)
 | _=>false
theorem aRW(a b:Wd):wdE a b=true:=by
 have h:∀ i:Fin 19,∀ j:Fin 19,wdE (Wd.ofNat i) (Wd.ofNat j)=true:=by decide +kernel
 have e:∀ a:Wd,∃ i:Fin 19,Wd.ofNat i=a:=λ a=>⟨⟨a.ctorIdx,by cases a<;>decide⟩,Wd.ofNat_ctorIdx a⟩
 obtain⟨i,rfl⟩:=e a;obtain⟨j,rfl⟩:=e b;exact h i j
theorem bJ(a b:Wd):aM .Eq (.str a.s) (.str b.s)=qq (.bool (decide (a=b))):=by
 have h:=aRW a b;unfold wdE at h
 split at h
 ·rename_i c e;rw[e,eq_of_beq h]
 ·cases h
theorem rB(a:Wd):aM .In (.str a.s) (.tuple [.str "left",.str "right",.str "slide"])=qq (.bool (decide (a=.left\/a=.right\/a=.slide))):=by cases a<;>rfl
theorem aQz(a:Wd):aM .In (.str a.s) (.tuple [.str "cut",.str "wide",.str "sign"])=qq (.bool (decide (a=.cut\/a=.wide\/a=.sign))):=by cases a<;>rfl
theorem zP(a:Wd):aM .In (.str a.s) (.tuple [.str "same",.str "less",.str "under"])=qq (.bool (decide (a=.same\/a=.less\/a=.under))):=by cases a<;>rfl
theorem bC{C:Calls}{c:E}{t cT:Sx}{env:aX}{S S1:aC}{r:Option (Fl×aC)}(h:tv C c env S=qq (false,S1))(k:xs C cT env S1=r):xs C (.seq (.ifs c t .skip) cT) env S=r:=by
 rw[<- k];simp only[iV,vE,aCJ,dI,oZ,qA,h,oB,yAv,if_false]
theorem cE{C:Calls}{c:E}{t e cT:Sx}{env:aX}{S S1 S2:aC}{w:W}(h:tv C c env S=qq (true,S1))(k:xs C t env S1=qq (.rt w,S2)):xs C (.seq (.ifs c t e) cT) env S=qq (.rt w,S2):=by
 simp only[iV,vE,dI,oZ,h,oB,if_true,k]
theorem bO{C:Calls}{e:E}{cT:Sx}{env:aX}{S S1:aC}{w:W}(h:ev C e env S=qq (w,S1)):xs C (.seq (.ret e) cT) env S=qq (.rt w,S1):=by
 simp only[iV,aAp,dI,mW,h,oB]
theorem cI{C:Calls}{i:Nat}{e:E}{cT:Sx}{env aN:aX}{S S1:aC}{w:W}{r:Option (Fl×aC)}(h:ev C e env S=qq (w,S1))(he:env.set i (qq w)=aN)(k:xs C cT aN S1=r):xs C (.seq (.set i e) cT) env S=r:=by
 subst he;rw[<- k];simp only[iV,aAl,dI,iP,h,oB]
theorem dO{fs:List Fn}{f:Nat}{F:Fn}(h:fs[f]? = qq F)(d:Nat){ws:List W}{env:aX}{S S1:aC}{x:D}(hw:ws.length=F.np)(he:ws.map qq++yAd (F.N.length-ws.length) qz=env)(hS:S1.take S.length=S1)(k:xs (aD fs d) F.body env S=qq (.rt (.d x),S1)):cl fs (d+1) f ws S=qq (.d x,S1):=by
 subst he;rw[aY h d ws S hw];simp only[fD,k,oB,lS,hS]
theorem eE{C:Calls}{i:Nat}{x:Str}{env:aX}{S:aC}{a:D}{b:Bool}(h:env[i]? = qq (qq (.d a)))(hc:aM .Eq a (.str x)=qq (.bool b)):tv C (.cmp .Eq (.var i) (.str x)) env S=qq (b,S):=by
 simp only[gS0,h,hc]
theorem iJ{C:Calls}{i:Nat}{e:E}{env:aX}{S:aC}{a t:D}{b:Bool}(h:env[i]? = qq (qq (.d a)))(he:ev C e env S=qq (.d t,S))(hc:aM .In a t=qq (.bool b)):tv C (.cmp .In (.var i) e) env S=qq (b,S):=by
 simp only[gS0,h,he,hc]
noncomputable def aU:Sx->Sx
 | .seq _ b=>b
 | x=>x
noncomputable def dX:Sx->Sx
 | .seq a _=>a
 | x=>x
theorem aU3{C:Calls}{c:E}{a b:Sx}{env:aX}{S S1:aC}{r:Option (Fl×aC)}(h:tv C c env S=qq (true,S1))(k:xs C a env S1=r):xs C (.ifs c a b) env S=r:=by
 rw[<- k];simp only[vE,oZ,h,oB,if_true]
theorem lH{C:Calls}{a b:Sx}{env e1:aX}{S S1:aC}{r:Option (Fl×aC)}(h:xs C a env S=qq (.nx e1,S1))(k:xs C b e1 S1=r):xs C (.seq a b) env S=r:=by
 rw[pP h];exact k
theorem aSs{C:Calls}{i:Nat}{e:E}{env:aX}{S S1:aC}{w:W}(h:ev C e env S=qq (w,S1)):xs C (.seq (.set i e) .skip) env S=qq (.nx (env.set i (qq w)),S1):=cI h rfl rfl
noncomputable def tr(n w:Nat):Nat:=w-bl (n^^^(2^w-1))
theorem aRi(n w i:Nat):(n^^^(2^w-1)).testBit i=(n.testBit i ^^ decide (i<w)):=by rw[yAs,eK]
theorem aJk(n w:Nat):tr n w<=w:=yGt _ _
theorem aG1{n w i:Nat}(hi:w-tr n w<=i)(hw:i<w):n.testBit i=true:=by
 have h1:bl (n^^^(2^w-1))<=i:=by unfold tr at hi;omega
 have h2:=cX (mR (n^^^(2^w-1))) h1;rw[aRi,dqT hw] at h2;cases q:n.testBit i with
 | true=>rfl
 | false=>rw[q] at h2;cases h2
noncomputable def dB(a w:Nat):Nat:=(2^w-1)^^^(2^(w-a)-1)
theorem nU{a w i:Nat}:(dB a w).testBit i=(decide (w-a<=i)&&decide (i<w)):=by
 unfold dB;rw[yAs,eK,eK]
 by_cases h1:i<w<;>by_cases h2:i<w-a
 ·rw[dqT h1,dqT h2,dqF (by omega)];rfl
 ·rw[dqT h1,dqF h2,dqT (by omega)];rfl
 ·omega
 ·rw[dqF h1,dqF h2,yDj];rfl
theorem aCU{x y:Nat}:x&&&y≠0 ↔ ∃ i,x.testBit i=true/\y.testBit i=true:=by
 constructor
 ·intro h
  by_cases c:∃ i,x.testBit i=true/\y.testBit i=true
  ·exact c
  ·refine absurd ((jN _).mpr λ i=>?_) h
   rw[yAg];cases h1:x.testBit i<;>cases h2:y.testBit i<;>first | rfl | exact absurd ⟨i,h1,h2⟩ c
 ·rintro ⟨i,h1,h2⟩ z;rw[jN] at z;have:=z i;rw[yAg,h1,h2] at this;cases this
noncomputable def cU(x a w:Nat):Nat:=if x&&&dB a w=0 then x else x|||dB a w
theorem aAA{x a w:Nat}(h:x<2^w):cU x a w<2^w:=by
 unfold cU
 split
 ·exact h
 ·exact yBh h (by
   apply yCj;intro i hi;rw[nU,dqF (show ¬ i<w by omega),yDj])
theorem aAn{x a w i:Nat}:(cU x a w).testBit i=true ↔ x.testBit i=true\/((w-a<=i/\i<w)/\∃ j,(w-a<=j/\j<w)/\x.testBit j=true):=by
 unfold cU
 split
 ·rename_i h;constructor
  ·intro z;exact .inl z
  ·rintro (z | ⟨_,j,h1,h2⟩)
   ·exact z
   ·refine absurd h (aCU.mpr ⟨j,h2,?_⟩);rw[nU,dqT h1.1,dqT h1.2];rfl
 ·rename_i h;obtain⟨j,h1,h2⟩:=aCU.mp h;rw[nU,yAt,decide_eq_true_eq,decide_eq_true_eq] at h2;rw[xAp,yEd,nU,yAt,decide_eq_true_eq,decide_eq_true_eq];constructor
  ·rintro (z | z)
   ·exact .inl z
   ·exact .inr ⟨z,j,h2,h1⟩
  ·rintro (z | ⟨z,_⟩)
   ·exact .inl z
   ·exact .inr z
noncomputable def wF(i j k:Nat):Nat:=max (max i j) k
structure Ft where
 N:Nat
 O:Nat
 A:Nat
noncomputable def gJ(f:Ft)(w:Nat):Ft:=⟨cU f.N f.A w,cU f.O f.A w,wF f.A (tr (cU f.N f.A w) w) (tr (cU f.O f.A w) w)⟩
def Hd(f:Ft)(n w:Nat):Prop:=(∀ i,f.N.testBit i=true->n.testBit i=false)/\(∀ i,f.O.testBit i=true->n.testBit i=true)/\((∀ i,w-f.A<=i->i<w->n.testBit i=true)\/(∀ i,w-f.A<=i->i<w->n.testBit i=false))
structure FtOk(f:Ft)(w:Nat):Prop where
 lN:f.N<2^w
 lO:f.O<2^w
 a1:1<=f.A
 aw:f.A<=w
theorem aTd{f:Ft}{w:Nat}(h:FtOk f w):FtOk (gJ f w) w:=by
 have h1:=aJk (cU f.N f.A w) w;have h2:=aJk (cU f.O f.A w) w;have h3:=h.a1;have h4:=h.aw;exact⟨aAA h.lN,aAA h.lO,by show 1<=max (max _ _) _;omega,by show max (max _ _) _<=w;omega⟩
theorem aNy{f:Ft}{n w:Nat}(h:FtOk f w):Hd (gJ f w) n w ↔ Hd f n w:=by
 have aA:f.A<=(gJ f w).A:=by show f.A<=max (max _ _) _;omega
 constructor
 ·rintro ⟨h1,h2,h3⟩;refine⟨λ i hi=>h1 i (aAn.mpr (.inl hi)),λ i hi=>h2 i (aAn.mpr (.inl hi)),?_⟩
  rcases h3 with h3 | h3
  ·exact .inl λ i a b=>h3 i (by omega) b
  ·exact .inr λ i a b=>h3 i (by omega) b
 ·rintro ⟨h1,h2,h3⟩;have hN:∀ i,(gJ f w).N.testBit i=true->n.testBit i=false:=λ i hi=>by
   rcases aAn.mp hi with z | ⟨⟨a,b⟩,j,⟨c,d⟩,e⟩
   ·exact h1 i z
   ·rcases h3 with h3 | h3
    ·have x1:=h3 j c d;rw[h1 j e] at x1;cases x1
    ·exact h3 i a b
  have hO:∀ i,(gJ f w).O.testBit i=true->n.testBit i=true:=λ i hi=>by
   rcases aAn.mp hi with z | ⟨⟨a,b⟩,j,⟨c,d⟩,e⟩
   ·exact h2 i z
   ·rcases h3 with h3 | h3
    ·exact h3 i a b
    ·have x1:=h3 j c d;rw[h2 j e] at x1;cases x1
  refine⟨hN,hO,?_⟩;have cA:(gJ f w).A=f.A\/(gJ f w).A=tr (gJ f w).N w\/(gJ f w).A=tr (gJ f w).O w:=by
   show max (max _ _) _=_\/max (max _ _) _=tr (cU f.N f.A w) w\/max (max _ _) _=tr (cU f.O f.A w) w;omega
  rcases cA with c | c | c
  ·rw[c];exact h3
  ·rw[c];exact .inr λ i a b=>hN i (aG1 a b)
  ·rw[c];exact .inl λ i a b=>hO i (aG1 a b)
theorem aWv{f:Ft}{n w:Nat}(h:Hd f n w):f.N&&&f.O=0:=by
 by_cases c:f.N&&&f.O=0
 ·exact c
 ·obtain⟨i,h1,h2⟩:=aCU.mp c;have x:=h.1 i h1;rw[h.2.1 i h2] at x;cases x
theorem aAj{n w i:Nat}(hn:n<2^w)(hi:i<w):(2^w-1-n).testBit i = !n.testBit i:=by
 have:=rF hn i;unfold qM at this;rw[this,dqT hi,yAo]
theorem aNJ{n w a:Nat}(hn:n<2^w)(ha:a<=w):n/2^(w-a)=2^a-1 ↔ ∀ i,w-a<=i->i<w->n.testBit i=true:=by
 constructor
 ·intro h i h1 h2;have:(n/2^(w-a)).testBit (i-(w-a))=(2^a-1).testBit (i-(w-a)):=by rw[h]
  rw[kT,eK,show w-a+(i-(w-a))=i by omega,dqT (by omega)] at this
  exact this
 ·intro h;apply xAm;intro i;rw[kT,eK]
  by_cases c:i<a
  ·rw[h _ (by omega) (by omega),dqT c]
  ·rw[cX hn (by omega),dqF c]
theorem aNm{n w a:Nat}(hn:n<2^w)(ha:a<=w):n/2^(w-a)=0 ↔ ∀ i,w-a<=i->i<w->n.testBit i=false:=by
 rw[aBD];constructor
 ·intro h i h1 _;exact h i h1
 ·intro h i h1
  by_cases c:i<w
  ·exact h i h1 c
  ·exact cX hn (by omega)
theorem zG{x y:Nat}:(x&&&y=0) ↔ ∀ i,y.testBit i=true->x.testBit i=false:=by
 rw[jN];constructor
 ·intro h i hy;have:=h i;rw[yAg,hy,yBk] at this;exact this
 ·intro h i;rw[yAg];cases hy:y.testBit i with
  | false=>exact yDj _
  | true=>rw[h i hy];rfl
theorem aFU{x y:Nat}:(x&&&y=y) ↔ ∀ i,y.testBit i=true->x.testBit i=true:=by
 constructor
 ·intro h i hy;have:=congrArg (λ z=>z.testBit i) h
  simp only[yAg,hy,yBk] at this;exact this
 ·intro h;apply xAm;intro i;rw[yAg];cases hy:y.testBit i with
  | false=>exact yDj _
  | true=>rw[h i hy];rfl
theorem dH(d w:Nat)(h:w<=100000)(S:aC):cl fns (d+1) 0 [.d (.int w)] S=qq (.d (.int ((2^w-1:Nat):Int)),S):=by
 rw[aY rfl d _ S rfl];simp only[gR1,aJf,gC h,cQ,aBW]
theorem aOx(n:Nat):yAk (n:Int)=bl n:=aEW n
theorem uC(d n:Nat)(S:aC):cl fns (d+1) 1 [.d (.int n)] S=qq (.d (.int ((bl n:Nat):Int)),S):=by
 rw[aY rfl d _ S rfl];simp only[gR1,aIE,aDd,aI0,aOx]
noncomputable def lr(n:Nat):Nat:=bl (n^^^(n+1))-1
theorem aOw(n:Nat):lr n=jX (oF n (bl n+1)):=aFb (bl n+1) n (xAc (mR n) (yAq (by decide) (by omega)))
theorem zI(d n:Nat)(S:aC)(h:n<2^10000):cl fns (d+2) 2 [.d (.int n)] S=qq (.d (.int ((2^bl n-1:Nat):Int)),S):=by
 rw[aY rfl (d+1) _ S rfl];have hq22:=dH d (bl n) (xAi (jS h) (by decide))
 simp only[gR1,aIC,uC d n,hq22]
theorem aH0{n w:Nat}(h:n<2^w)(hw:w<=10000):n<2^10000:=xAc h (yAq (by decide) hw)
theorem aCY(d n:Nat)(S:aC):cl fns (d+2) 3 [.d (.int n)] S=qq (.d (.int ((lr n:Nat):Int)),S):=by
 have h1:=tS (aEL n);have e1:(n:Int)+1=((n+1:Nat):Int):=by omega
 have e2:((bl (n^^^(n+1)):Nat):Int)-1=((lr n:Nat):Int):=by unfold lr;omega
 rw[aY rfl (d+1) _ S rfl];simp only[gR1,aGF,dN,e1,mD,uC d,cQ,e2]
noncomputable def Ft.d(f:Ft):D:=.tuple [.int f.N,.int f.O,.int f.A]
theorem dG(f:Ft):aP f.d (.int 0)=qq (.int f.N):=rfl
theorem dS(f:Ft):aP f.d (.int 1)=qq (.int f.O):=rfl
theorem kC(f:Ft):aP f.d (.int 2)=qq (.int f.A):=rfl
theorem zK(a b:Nat):(((a:Nat):Int)==((b:Nat):Int))=(a==b):=by
 rw[yFg,beq_iff_eq,beq_iff_eq];omega
theorem aF0(d n w:Nat)(S:aC)(hn:n<2^w)(hw:w<=64):cl fns (d+2) 4 [.d (.int n),.d (.int w)] S=qq (.d (.int ((tr n w:Nat):Int)),S):=by
 have h1:=jS (aLx hn);have e2:(w:Int)-((bl (n^^^(2^w-1)):Nat):Int)=((tr n w:Nat):Int):=by unfold tr;omega
 rw[aY rfl (d+1) _ S rfl];have hq23:=dH d w (by omega)
 simp only[gR1,aGA,hq23,mD,uC d,cQ,e2]
theorem pH(d a w:Nat)(S:aC)(ha:a<=w)(hw:w<=64):cl fns (d+2) 21 [.d (.int a),.d (.int w)] S=qq (.d (.int ((dB a w:Nat):Int)),S):=by
 have e:(w:Int)-(a:Int)=((w-a:Nat):Int):=by omega
 rw[aY rfl (d+1) _ S rfl];have hq24:=dH d w (by omega)
 have hq25:=dH d (w-a) (by omega)
 simp only[gR1,aFW,hq24,cQ,e,hq25,mD]
theorem mxI(i j:Nat):(if (j:Int)>(i:Int) then ((j:Nat):Int) else ((i:Nat):Int))=((max i j:Nat):Int):=by
 by_cases h:(j:Int)>(i:Int)
 ·rw[if_pos h];omega
 ·rw[if_neg h];omega
theorem zC(i j k:Nat):jV [.int i,.int j,.int k]=qq (.int ((wF i j k:Nat):Int)):=by
 show qq (yAn (if (j:Int)>(i:Int) then (if (k:Int)>(j:Int) then ((k:Nat):Int) else ((j:Nat):Int)) else (if (k:Int)>(i:Int) then ((k:Nat):Int) else ((i:Nat):Int))))=_
 rw[mxI,mxI];unfold wF
 by_cases h:(j:Int)>(i:Int)
 ·rw[if_pos h,show max (max i j) k=max j k by omega]
 ·rw[if_neg h,show max (max i j) k=max i k by omega]
theorem aC1{x a w:Nat}(h:(x&&&dB a w==0)=true):cU x a w=x:=by
 unfold cU;rw[if_pos (eq_of_beq h)]
theorem aCZ{x a w:Nat}(h:(x&&&dB a w==0)=false):cU x a w=x|||dB a w:=by
 unfold cU;rw[if_neg (by simpa using h)]
theorem aMr(d:Nat)(f:Ft)(w:Nat)(k:FtOk f w)(hw:w<=64)(S:aC):cl fns (d+3) 23 [.d f.d,.d (.int w)] S=qq (.d (gJ f w).d,S):=by
 have t1:=aF0 d (cU f.N f.A w) w S (aAA k.lN) hw;have t2:=aF0 d (cU f.O f.A w) w S (aAA k.lO) hw;rw[aY rfl (d+2) _ S rfl];show _=qq (W.d (.tuple [.int ((cU f.N f.A w:Nat):Int),.int ((cU f.O f.A w:Nat):Int),.int ((wF f.A (tr (cU f.N f.A w) w) (tr (cU f.O f.A w) w):Nat):Int)]),S);cases c1:(f.N&&&dB f.A w==0) with
 | true =>
   rw[aC1 c1] at t1 ⊢;cases c2:(f.O&&&dB f.A w==0) with
   | true =>
     rw[aC1 c2] at t2 ⊢;simp only[gR1,uS,Ft.d,pH (d:=d) (a:=f.A) (w:=w) (S:=S) k.aw hw,cY,iX,bX,c1,c2,t1,t2,zC]
   | false =>
     rw[aCZ c2] at t2 ⊢;simp only[gR1,uS,Ft.d,pH (d:=d) (a:=f.A) (w:=w) (S:=S) k.aw hw,cY,iX,bX,c1,c2,cN,t1,t2,zC]
 | false =>
   rw[aCZ c1] at t1 ⊢;cases c2:(f.O&&&dB f.A w==0) with
   | true =>
     rw[aC1 c2] at t2 ⊢;simp only[gR1,uS,Ft.d,pH (d:=d) (a:=f.A) (w:=w) (S:=S) k.aw hw,cY,iX,bX,c1,c2,cN,t1,t2,zC]
   | false =>
     rw[aCZ c2] at t2 ⊢;simp only[gR1,uS,Ft.d,pH (d:=d) (a:=f.A) (w:=w) (S:=S) k.aw hw,cY,iX,bX,c1,c2,cN,t1,t2,zC]
theorem uB(d:Nat)(f:Ft)(S:aC):cl fns (d+1) 24 [.d f.d] S=qq (.d (.int f.O),S):=by
 rw[aY rfl d _ S rfl];simp only[gR1,aID,dS]
theorem yD(d:Nat)(f:Ft)(w:Nat)(lN:f.N<2^w)(hw:w<=64)(S:aC):cl fns (d+2) 25 [.d f.d,.d (.int w)] S=qq (.d (.int ((2^w-1-f.N:Nat):Int)),S):=by
 have e:(2^w-1)^^^f.N=2^w-1-f.N:=by
  apply xAm;intro i;have:=rF lN i;unfold qM at this;rw[this,yAs,eK]
  by_cases c:i<w
  ·rw[dqT c];cases f.N.testBit i<;>rfl
  ·rw[dqF c,cX lN (by omega)];rfl
 rw[aY rfl (d+1) _ S rfl];have hq26:=dH d w (by omega)
 simp only[gR1,aFr,dG,hq26,mD,e]
theorem xY(d n w v:Nat)(S:aC)(hw:0<w)(hv:v<=1000)(bF:w<=64):cl fns (d+2) 5 [.d (.int n),.d (.int w),.d (.int v)] S=qq (.d (.int ((eD n w v:Nat):Int)),S):=by
 have e1:(w:Int)-1=((w-1:Nat):Int):=by omega
 rw[aY rfl (d+1) _ S rfl];unfold eD
 by_cases c:n&&&2^(w-1)=0
 ·have d1:(n&&&2^(w-1)==0)=true:=by rw[beq_iff_eq];exact c
  rw[if_pos c];have hq27:=gC (show w-1<=100000 by omega)
  simp only[gR1,aBO,cQ,e1,hq27,cY,aO,bX,d1]
 ·have d1:(n&&&2^(w-1)==0)=false:=by rw[beq_eq_false_iff_ne];exact c
  rw[if_neg c];have hq28:=gC (show w-1<=100000 by omega)
  have hq29:=dH d v (by omega)
  have hq30:=dH d w (by omega)
  simp only[gR1,aBO,cQ,e1,hq28,cY,aO,bX,d1,hq29,hq30,mD,cN]
theorem aB9(a k:Nat):jV [.int 1,.int ((a:Nat)-(k:Nat):Int)]=qq (.int ((max 1 (a-k):Nat):Int)):=by
 unfold jV;simp only[];congr 2
 by_cases h1:(a:Int)-(k:Int)>1<;>simp only[h1,if_true,if_false]<;>omega
theorem kP(i j:Nat):mX [.int i,.int j]=qq (.int ((min i j:Nat):Int)):=by
 unfold mX;simp only[];congr 2
 by_cases h1:(j:Int)<(i:Int)<;>simp only[h1,if_true,if_false]<;>omega
noncomputable def vU(w:Nat)(f:Ft)(k:Nat):Ft:=⟨(f.N*2^k|||(2^k-1))&&&(2^w-1),f.O*2^k&&&(2^w-1),max 1 (f.A-k)⟩
theorem aOo(d w:Nat)(f:Ft)(k:Nat)(hf:FtOk f w)(hw:w<=64)(hk:k<=1000)(S:aC):cl fns (d+2) 36 [.d (.int w),.d f.d,.d (.int k)] S=qq (.d (vU w f k).d,S):=by
 rw[aY rfl (d+1) _ S rfl];have hq31:=uK hf.lN (show w+k<=100000 by omega)
 have hq32:=uK hf.lO (show w+k<=100000 by omega)
 have hq33:=dH d k (by omega)
 have hq34:=dH d w (by omega)
 simp only[gR1,aFc,dG,dS,kC,hq31,hq32,hq33,hq34,cN,cY,cQ,aB9]
noncomputable def mJ(w:Nat)(f:Ft)(k:Nat):Ft:=⟨f.N/2^k|||dB (min k w) w,f.O/2^k,if k=0 then f.A else 1⟩
theorem aOa(d w:Nat)(f:Ft)(k:Nat)(hw:w<=64)(S:aC):cl fns (d+3) 37 [.d (.int w),.d f.d,.d (.int k)] S=qq (.d (mJ w f k).d,S):=by
 have tm:=pH d (min k w) w S (by omega) hw
 rw[aY rfl (d+2) _ S rfl]
 by_cases c:k=0
 ·have d1:(k==0)=true:=by rw[beq_iff_eq];exact c
  have e:(mJ w f k).d=.tuple [.int ((f.N/2^k|||dB (min k w) w:Nat):Int),.int ((f.O/2^k:Nat):Int),.int f.A]:=by unfold mJ;rw[if_pos c];rfl
  rw[e];simp only[gR1,aBG,dG,dS,kC,mC,kP,tm,cN,aO,bX,d1]
 ·have d1:(k==0)=false:=by rw[beq_eq_false_iff_ne];exact c
  have e:(mJ w f k).d=.tuple [.int ((f.N/2^k|||dB (min k w) w:Nat):Int),.int ((f.O/2^k:Nat):Int),.int 1]:=by unfold mJ;rw[if_neg c];rfl
  rw[e];simp only[gR1,aBG,dG,dS,kC,mC,kP,tm,cN,aO,bX,d1]
noncomputable def vJ(w:Nat)(f:Ft)(k:Nat):Ft:=⟨eD f.N w (w+k)/2^k,eD f.O w (w+k)/2^k,min w (f.A+k)⟩
theorem aNX(d w:Nat)(f:Ft)(k:Nat)(cW:1<=w)(hw:w<=64)(hk:k<=900)(S:aC):cl fns (d+3) 38 [.d (.int w),.d f.d,.d (.int k)] S=qq (.d (vJ w f k).d,S):=by
 have e1:(w:Int)+(k:Int)=((w+k:Nat):Int):=by omega
 have e2:(f.A:Int)+(k:Int)=((f.A+k:Nat):Int):=by omega
 rw[aY rfl (d+2) _ S rfl];have hq35:=xY d f.N w (w+k) S (by omega) (by omega) hw
 have hq36:=xY d f.O w (w+k) S (by omega) (by omega) hw
 simp only[gR1,aEX,dG,dS,kC,dN,e1,e2,hq35,hq36,mC,kP]
noncomputable def vZ(v w:Nat)(f:Ft):Ft:=⟨f.N&&&(2^w-1),f.O&&&(2^w-1),max 1 (f.A-(v-w))⟩
noncomputable def mS(v w:Nat)(f:Ft):Ft:=⟨f.N|||dB (w-v) w,f.O,if w=v then f.A else 1⟩
noncomputable def vV(v w:Nat)(f:Ft):Ft:=⟨eD f.N v w,eD f.O v w,f.A+(w-v)⟩
theorem aSd(d v w:Nat)(f:Ft)(hv:w<=v)(hw:w<=64)(S:aC):cl fns (d+2) 40 [.d (.str "cut"),.d (.int v),.d (.int w),.d f.d] S=qq (.d (vZ v w f).d,S):=by
 have c1:aM .Eq (.str "cut") (.str "cut")=qq (.bool true):=bJ .cut .cut;have e1:(v:Int)-(w:Int)=((v-w:Nat):Int):=by omega
 rw[aY rfl (d+1) _ S rfl];have hq37:=dH d w (by omega)
 simp only[gR1,tO,Ft.d,c1,hq37,cY,cQ,e1,aB9]
theorem aPa(d v w:Nat)(f:Ft)(hv:v<=w)(hw:w<=64)(S:aC):cl fns (d+3) 40 [.d (.str "wide"),.d (.int v),.d (.int w),.d f.d] S=qq (.d (mS v w f).d,S):=by
 have c1:aM .Eq (.str "wide") (.str "cut")=qq (.bool false):=bJ .wide .cut;have c2:aM .Eq (.str "wide") (.str "wide")=qq (.bool true):=bJ .wide .wide;have e1:(w:Int)-(v:Int)=((w-v:Nat):Int):=by omega
 have tm:=pH d (w-v) w S (by omega) hw
 rw[aY rfl (d+2) _ S rfl]
 by_cases c:w=v
 ·have d1:(w==v)=true:=by rw[beq_iff_eq];exact c
  have e:(mS v w f).d=.tuple [.int ((f.N|||dB (w-v) w:Nat):Int),.int f.O,.int f.A]:=by unfold mS;rw[if_pos c];rfl
  rw[e];simp only[gR1,tO,Ft.d,c1,c2,cQ,e1,tm,cN,aO,zK,d1]
 ·have d1:(w==v)=false:=by rw[beq_eq_false_iff_ne];exact c
  have e:(mS v w f).d=.tuple [.int ((f.N|||dB (w-v) w:Nat):Int),.int f.O,.int 1]:=by unfold mS;rw[if_neg c];rfl
  rw[e];simp only[gR1,tO,Ft.d,c1,c2,cQ,e1,tm,cN,aO,zK,d1]
theorem aPZ(d v w:Nat)(f:Ft)(hv1:1<=v)(hv:v<=w)(hw:w<=64)(S:aC):cl fns (d+3) 40 [.d (.str "sign"),.d (.int v),.d (.int w),.d f.d] S=qq (.d (vV v w f).d,S):=by
 have c1:aM .Eq (.str "sign") (.str "cut")=qq (.bool false):=bJ .sign .cut;have c2:aM .Eq (.str "sign") (.str "wide")=qq (.bool false):=bJ .sign .wide;have e1:(w:Int)-(v:Int)=((w-v:Nat):Int):=by omega
 have e2:(f.A:Int)+((w-v:Nat):Int)=((f.A+(w-v):Nat):Int):=by omega
 rw[aY rfl (d+2) _ S rfl];have hq38:=xY d f.N v w S (by omega) (by omega) (by omega)
 have hq39:=xY d f.O v w S (by omega) (by omega) (by omega)
 simp only[gR1,tO,Ft.d,c1,c2,cQ,e1,hq38,hq39,dN,e2]
noncomputable def bwN(wd:Wd)(f g:Ft):Ft:=match wd with
 | .and=>⟨f.N|||g.N,f.O&&&g.O,min f.A g.A⟩
 | .or=>⟨f.N&&&g.N,f.O|||g.O,min f.A g.A⟩
 | _=>⟨f.N&&&g.N|||f.O&&&g.O,f.N&&&g.O|||f.O&&&g.N,min f.A g.A⟩
theorem yZ(d:Nat)(f g:Ft)(S:aC):cl fns (d+1) 34 [.d f.d,.d g.d] S=qq (.d (.int ((f.N&&&g.O|||f.O&&&g.N:Nat):Int)),S):=by
 rw[aY rfl d _ S rfl];simp only[gR1,aEz,dG,dS,cN,cY]
theorem aLL(d:Nat)(wd:Wd)(bI:wd=.and\/wd=.or\/wd=.xor)(f g:Ft)(S:aC):cl fns (d+2) 35 [.d (.str wd.s),.d f.d,.d g.d] S=qq (.d (bwN wd f g).d,S):=by
 have c1:aM .Eq (.str wd.s) (.str "and")=qq (.bool (decide (wd=.and))):=bJ wd .and;have c2:aM .Eq (.str wd.s) (.str "or")=qq (.bool (decide (wd=.or))):=bJ wd .or;rw[aY rfl (d+1) _ S rfl];rcases bI with rfl | rfl | rfl
 ·simp only[decide_true] at c1;simp only[gR1,xS,dG,dS,kC,kP,c1,cN,cY]
 ·simp only[reduceCtorEq,decide_false,decide_true] at c1 c2;simp only[gR1,xS,dG,dS,kC,kP,c1,c2,cN,cY]
 ·simp only[reduceCtorEq,decide_false] at c1 c2;simp only[gR1,xS,dG,dS,kC,kP,c1,c2,cN,cY,yZ d]
noncomputable def dD(f:Ft)(k:Nat):Nat:=2-2*(f.N.testBit k).toNat-(f.O.testBit k).toNat
theorem gE{f:Ft}(hd:f.N&&&f.O=0)(k:Nat):(dD f k==0)=f.N.testBit k:=by
 have:=(jN _).mp hd k;rw[yAg] at this;unfold dD
 revert this
 cases f.N.testBit k<;>cases f.O.testBit k<;>decide
theorem gF{f:Ft}(hd:f.N&&&f.O=0)(k:Nat):(dD f k==1)=f.O.testBit k:=by
 have:=(jN _).mp hd k;rw[yAg] at this;unfold dD
 revert this
 cases f.N.testBit k<;>cases f.O.testBit k<;>decide
theorem vG(f:Ft)(k:Nat):dD f k<3:=by
 unfold dD;omega
noncomputable def ntN(x:Nat):Nat:=[1,0,2].getD x 2
noncomputable def aAW(f:Ft)(k i:Nat):Nat:=if i<k then 0 else dD f (i-k)
noncomputable def aAu(f:Ft)(w k i:Nat):Nat:=if i+k<w then dD f (i+k) else 0
noncomputable def aKw(f:Ft)(w i:Nat):Nat:=dD f (min i (w-1))
noncomputable def aAI(f:Ft)(w i:Nat):Nat:=if i<w then dD f i else 0
structure Mk(t:Nat->Nat)(n:Nat)(g:Ft):Prop where
 lN:g.N<2^n
 lO:g.O<2^n
 b0:∀ i,i<n->g.N.testBit i=(t i==0)
 b1:∀ i,i<n->g.O.testBit i=(t i==1)
theorem aKc{f:Ft}(hd:f.N&&&f.O=0)(k:Nat):(ntN (dD f k)==0)=f.O.testBit k:=by
 rw[<- gF hd k];have:=vG f k
 revert this
 generalize dD f k=x;intro h;have:x=0\/x=1\/x=2:=by omega
 rcases this with rfl | rfl | rfl<;>rfl
theorem aKx{f:Ft}(hd:f.N&&&f.O=0)(k:Nat):(ntN (dD f k)==1)=f.N.testBit k:=by
 rw[<- gE hd k];have:=vG f k
 revert this
 generalize dD f k=x;intro h;have:x=0\/x=1\/x=2:=by omega
 rcases this with rfl | rfl | rfl<;>rfl
theorem aRQ{f:Ft}{w:Nat}(hf:FtOk f w)(hd:f.N&&&f.O=0):Mk (λ i=>ntN (dD f i)) w ⟨f.O,f.N,f.A⟩:=
 ⟨hf.lO,hf.lN,λ i _=>(aKc hd i).symm,λ i _=>(aKx hd i).symm⟩
theorem uV(w:Nat):2^w-1<2^w:=by have:=xAf w;omega
theorem yH(n k i:Nat):(n*2^k).testBit i=(decide (k<=i)&&n.testBit (i-k)):=by
 have:=aE1 (x:=0) (k:=k) (q:=n) (xAf k) i;rw[yEb] at this;rw[this]
 by_cases c:i<k
 ·rw[if_pos c,dqF (by omega),yBl,yAl]
 ·rw[if_neg c,dqT (by omega),yAo]
theorem aHI{f:Ft}{w:Nat}(k:Nat)(hd:f.N&&&f.O=0):Mk (aAW f k) w (vU w f k):=by
 refine⟨xAj yEq (uV w),xAj yEq (uV w),λ i hi=>?_,λ i hi=>?_⟩
 ·show((f.N*2^k|||(2^k-1))&&&(2^w-1)).testBit i=_
  rw[yAg,xAp,eK,eK,yH,dqT hi,yBk];unfold aAW
  by_cases c:i<k
  ·rw[if_pos c,dqT c,yFt];rfl
  ·rw[if_neg c,dqF c,yDq,dqT (by omega),yAo,gE hd]
 ·show(f.O*2^k&&&(2^w-1)).testBit i=_;rw[yAg,eK,yH,dqT hi,yBk];unfold aAW
  by_cases c:i<k
  ·rw[if_pos c,dqF (by omega),yAl];rfl
  ·rw[if_neg c,dqT (by omega),yAo,gF hd]
theorem aCN(a w:Nat):dB a w<2^w:=by
 apply yCj;intro i hi;rw[nU,dqF (show ¬ i<w by omega),yDj]
theorem aFC{n k w:Nat}(h:n<2^w):n/2^k<2^w:=xAj (Nat.div_le_self _ _) h
theorem aGK{f:Ft}{w:Nat}(k:Nat)(hf:FtOk f w)(hd:f.N&&&f.O=0):Mk (aAu f w k) w (mJ w f k):=by
 refine⟨yBh (aFC hf.lN) (aCN _ _),aFC hf.lO,λ i hi=>?_,λ i hi=>?_⟩
 ·show(f.N/2^k|||dB (min k w) w).testBit i=_
  rw[xAp,kT,nU,dqT hi,yBk];unfold aAu
  by_cases c:i+k<w
  ·rw[if_pos c,dqF (by omega),yDq,gE hd,yDc]
  ·rw[if_neg c,dqT (by omega),yFt];rfl
 ·show(f.O/2^k).testBit i=_;rw[kT];unfold aAu
  by_cases c:i+k<w
  ·rw[if_pos c,gF hd,yDc]
  ·rw[if_neg c,cX hf.lO (by omega)];rfl
theorem rJ{n w v:Nat}(h:n<2^w)(hw:0<w)(hv:w<=v){i:Nat}(hi:i<v):(eD n w v).testBit i=n.testBit (min i (w-1)):=by
 rw[aEH h hw hv]
 by_cases c:i<w
 ·rw[if_pos c,yFi (by omega)]
 ·rw[if_neg c,dqT hi,yAo,yEo (by omega)]
theorem aGC{f:Ft}{w:Nat}(k:Nat)(hw:1<=w)(hf:FtOk f w)(hd:f.N&&&f.O=0):Mk (λ i=>aKw f w (i+k)) w (vJ w f k):=by
 have hl:∀ n,n<2^w->eD n w (w+k)/2^k<2^w:=λ n hn=>by
  rw[yEe (xAf k),<- yGw];exact tK hn hw (by omega)
 refine⟨hl _ hf.lN,hl _ hf.lO,λ i hi=>?_,λ i hi=>?_⟩
 ·show(eD f.N w (w+k)/2^k).testBit i=(dD f (min (i+k) (w-1))==0);rw[kT,rJ hf.lN hw (by omega) (by omega),gE hd,yDc]
 ·show(eD f.O w (w+k)/2^k).testBit i=(dD f (min (i+k) (w-1))==1);rw[kT,rJ hf.lO hw (by omega) (by omega),gF hd,yDc]
theorem aIJ{f:Ft}(v w:Nat)(hd:f.N&&&f.O=0):Mk (dD f) w (vZ v w f):=by
 refine⟨xAj yEq (uV w),xAj yEq (uV w),λ i hi=>?_,λ i hi=>?_⟩
 ·show(f.N&&&(2^w-1)).testBit i=_;rw[yAg,eK,dqT hi,yBk,gE hd]
 ·show(f.O&&&(2^w-1)).testBit i=_;rw[yAg,eK,dqT hi,yBk,gF hd]
theorem aG5{n v w:Nat}(h:n<2^v)(hv:v<=w):n<2^w:=xAc h (yAq (by decide) hv)
theorem aHQ{f:Ft}{v w:Nat}(hv:v<=w)(hf:FtOk f v)(hd:f.N&&&f.O=0):Mk (aAI f v) w (mS v w f):=by
 refine⟨yBh (aG5 hf.lN hv) (aCN _ _),aG5 hf.lO hv,λ i hi=>?_,λ i hi=>?_⟩
 ·show(f.N|||dB (w-v) w).testBit i=_
  rw[xAp,nU,dqT hi,yBk];unfold aAI
  by_cases c:i<v
  ·rw[if_pos c,dqF (by omega),yDq,gE hd]
  ·rw[if_neg c,dqT (by omega),yFt];rfl
 ·show f.O.testBit i=_;unfold aAI
  by_cases c:i<v
  ·rw[if_pos c,gF hd]
  ·rw[if_neg c,cX hf.lO (by omega)];rfl
theorem aHO{f:Ft}{v w:Nat}(h1:1<=v)(hv:v<=w)(hf:FtOk f v)(hd:f.N&&&f.O=0):Mk (aKw f v) w (vV v w f):=by
 refine⟨tK hf.lN h1 hv,tK hf.lO h1 hv,λ i hi=>?_,λ i hi=>?_⟩
 ·show(eD f.N v w).testBit i=(dD f (min i (v-1))==0);rw[rJ hf.lN h1 hv hi,gE hd]
 ·show(eD f.O v w).testBit i=(dD f (min i (v-1))==1);rw[rJ hf.lO h1 hv hi,gF hd]
noncomputable def btN(b:Nat)(x y:Nat):Nat:=match b with
 | 0=>if x=0\/y=0 then 0 else if x<2/\y<2 then x*y else 2
 | 1=>if x=1\/y=1 then 1 else if x<2/\y<2 then x+y else 2
 | _=>if x<2/\y<2 then (if x=y then 0 else 1) else 2
theorem jA(f:Ft)(k:Nat):dD f k=0\/dD f k=1\/dD f k=2:=by
 have:=vG f k;omega
noncomputable def sY(b:Nat)(f g:Ft):Ft:=match b with
 | 0=>⟨f.N|||g.N,f.O&&&g.O,min f.A g.A⟩
 | 1=>⟨f.N&&&g.N,f.O|||g.O,min f.A g.A⟩
 | _=>⟨f.N&&&g.N|||f.O&&&g.O,f.N&&&g.O|||f.O&&&g.N,min f.A g.A⟩
theorem aIX(b:Nat)(hb:b=0\/b=1\/b=2){f g:Ft}{w:Nat}(hf:FtOk f w)(hd:f.N&&&f.O=0)(hg:FtOk g w)(he:g.N&&&g.O=0):Mk (λ i=>btN b (dD f i) (dD g i)) w (sY b f g):=by
 have an:∀ {x y:Nat},x<2^w->x&&&y<2^w:=λ h=>xAj yCl h
 rcases hb with rfl | rfl | rfl
 ·refine⟨yBh hf.lN hg.lN,an hf.lO,λ i _=>?_,λ i _=>?_⟩
  ·show(f.N|||g.N).testBit i=_
   rw[xAp,<- gE hd,<- gE he];rcases jA f i with h | h | h<;>rcases jA g i with h' | h' | h'<;>rw[h,h']<;>rfl
  ·show(f.O&&&g.O).testBit i=_;rw[yAg,<- gF hd,<- gF he];rcases jA f i with h | h | h<;>rcases jA g i with h' | h' | h'<;>rw[h,h']<;>rfl
 ·refine⟨an hf.lN,yBh hf.lO hg.lO,λ i _=>?_,λ i _=>?_⟩
  ·show(f.N&&&g.N).testBit i=_;rw[yAg,<- gE hd,<- gE he];rcases jA f i with h | h | h<;>rcases jA g i with h' | h' | h'<;>rw[h,h']<;>rfl
  ·show(f.O|||g.O).testBit i=_
   rw[xAp,<- gF hd,<- gF he];rcases jA f i with h | h | h<;>rcases jA g i with h' | h' | h'<;>rw[h,h']<;>rfl
 ·refine⟨yBh (an hf.lN) (an hf.lO),yBh (an hf.lN) (an hf.lO),λ i _=>?_,λ i _=>?_⟩
  ·show(f.N&&&g.N|||f.O&&&g.O).testBit i=_
   rw[xAp,yAg,yAg,<- gE hd,<- gE he,<- gF hd,<- gF he];rcases jA f i with h | h | h<;>rcases jA g i with h' | h' | h'<;>rw[h,h']<;>rfl
  ·show(f.N&&&g.O|||f.O&&&g.N).testBit i=_
   rw[xAp,yAg,yAg,<- gE hd,<- gE he,<- gF hd,<- gF he];rcases jA f i with h | h | h<;>rcases jA g i with h' | h' | h'<;>rw[h,h']<;>rfl
noncomputable def rs(x:Int)(w:Nat):Nat:=(x%((2^w:Nat):Int)).toNat
theorem nY(x:Int)(w:Nat):((rs x w:Nat):Int)=x%((2^w:Nat):Int):=by
 unfold rs;have:(0:Int)<((2^w:Nat):Int):=by have:=xAf w;omega
 have:=Int.emod_nonneg x (b:=((2^w:Nat):Int)) (by omega)
 omega
theorem oO(x:Int)(w:Nat):rs x w<2^w:=by
 have h:=nY x w;have:(0:Int)<((2^w:Nat):Int):=by have:=xAf w;omega
 have:=yGl x this;omega
theorem aTs{x:Int}{w:Nat}(h0:0<=x)(h1:x<((2^w:Nat):Int)):((rs x w:Nat):Int)=x:=by
 rw[nY,Int.emod_eq_of_lt h0 h1]
theorem aQb(x:Int){w L:Nat}(h:L<=w):rs x w%2^L=rs x L:=by
 have e:((rs x w%2^L:Nat):Int)=((rs x L:Nat):Int):=by
  rw[yEr,nY,nY];exact Int.emod_emod_of_dvd x (by
   have:(2:Nat)^L ∣ 2^w:=Nat.pow_dvd_pow 2 h;exact Int.natCast_dvd_natCast.mpr this)
 omega
theorem aRY(x:Int){w L i:Nat}(h:L<=w)(hi:i<L):(rs x w).testBit i=(rs x L).testBit i:=by
 rw[<- aQb x h,yBr,dqT hi,yAo]
theorem uQ{n i:Nat}(h:i<lr n):n.testBit i=true:=by
 rw[aOw] at h;have h1:=aGl _ i h;have h2:(oF n (bl n+1)).getD i false=true:=by rw[xAh,h1];rfl
 rw[aMq,yAt] at h2;exact h2.2
theorem aUy{n w:Nat}(h:n<2^w):lr n<=w:=by
 by_cases c:lr n<=w
 ·exact c
 ·have:=uQ (n:=n) (i:=w) (by omega)
  rw[cX h (yAc _)] at this;cases this
theorem aCl{x y:Nat}(h:∀ i,x.testBit i=true->y.testBit i=true):x<=y:=by
 have:y&&&x=x:=by
  rw[aFU];exact h
 rw[<- this];exact yCl
theorem aId{x y w:Nat}(hx:x<2^w)(hy:y<2^w)(h:∀ i,x.testBit i=true->y.testBit i=false):y<=2^w-1-x:=by
 refine aCl (y:=qM x w) λ i hi=>?_
 have hiw:i<w:=by
  by_cases c:i<w
  ·exact c
  ·rw[cX hy (by omega)] at hi
   cases hi
 rw[rF hx,dqT hiw,yAo];cases q:x.testBit i with
 | false=>rfl
 | true=>rw[h i q] at hi;cases hi
theorem aAF{f:Ft}{n w:Nat}(h:Hd f n w):f.O<=n:=aCl h.2.1
theorem aAV{f:Ft}{n w:Nat}(k:FtOk f w)(hn:n<2^w)(h:Hd f n w):n<=2^w-1-f.N:=aId k.lN hn h.1
theorem aIR{f:Ft}{n w L:Nat}(h:Hd f n w)(hk:∀ i,i<L->(f.N|||f.O).testBit i=true):n%2^L=f.O%2^L:=by
 apply xAm;intro i;rw[yBr,yBr]
 by_cases c:i<L
 ·rw[dqT c,yAo,yAo];have q:=hk i c;rw[xAp] at q;cases o:f.O.testBit i with
  | true=>exact h.2.1 i o
  | false =>
    rw[o,yDq] at q;exact h.1 i q
 ·rw[dqF c,yAl,yAl]
inductive Sw where | add | sub | mul
noncomputable def Sw.oc:Sw->Int->Int->Int
 | .add,a,b=>a+b
 | .sub,a,b=>a-b
 | .mul,a,b=>a*b
theorem aE9{a b:Nat}{L:Nat}(h:a%2^L=b%2^L):((a:Nat):Int)%((2^L:Nat):Int)=((b:Nat):Int)%((2^L:Nat):Int):=by
 rw[<- yEr,<- yEr,h]
theorem aSh(s:Sw){a b c e:Nat}{L:Nat}(h1:a%2^L=c%2^L)(h2:b%2^L=e%2^L):rs (s.oc a b) L=rs (s.oc c e) L:=by
 have g1:=aE9 h1;have g2:=aE9 h2;have:s.oc a b%((2^L:Nat):Int)=s.oc c e%((2^L:Nat):Int):=by
  cases s with
  | add=>show((a:Nat)+(b:Nat):Int)%_=((c:Nat)+(e:Nat):Int)%_;rw[Int.add_emod,g1,g2,<- Int.add_emod]
  | sub=>show((a:Nat)-(b:Nat):Int)%_=((c:Nat)-(e:Nat):Int)%_;rw[Int.sub_emod,g1,g2,<- Int.sub_emod]
  | mul=>show((a:Nat)*(b:Nat):Int)%_=((c:Nat)*(e:Nat):Int)%_;rw[Int.mul_emod,g1,g2,<- Int.mul_emod]
 unfold rs;rw[this]
noncomputable def fV(f g:Ft):Nat:=lr ((f.N|||f.O)&&&(g.N|||g.O))
theorem aCp{f g:Ft}{w:Nat}(k:FtOk f w):fV f g<=w:=aUy (xAj yCl (yBh k.lN k.lO))
noncomputable def kA(s:Sw)(f g:Ft):Nat:=rs (s.oc (f.O:Nat) (g.O:Nat)) (fV f g)
noncomputable def sR(s:Sw)(f g:Ft):Nat:=(2^fV f g-1)^^^kA s f g
theorem aGE(s:Sw){f g:Ft}{a b w:Nat}(k:FtOk f w)(h1:Hd f a w)(h2:Hd g b w){i:Nat}(hi:i<fV f g):(rs (s.oc (a:Nat) (b:Nat)) w).testBit i=(kA s f g).testBit i:=by
 have hk:∀ i,i<fV f g->(f.N|||f.O).testBit i=true/\(g.N|||g.O).testBit i=true:=λ i hi=>by
  have:=uQ hi;rw[yAg,yAt] at this;exact this
 rw[aRY _ (aCp k) hi,aSh s (aIR h1 λ i hi=>(hk i hi).1) (aIR h2 λ i hi=>(hk i hi).2)]
 rfl
theorem aNA{s:Sw}{f g:Ft}{i:Nat}(h:(kA s f g).testBit i=true):i<fV f g:=by
 by_cases c:i<fV f g
 ·exact c
 ·have hl:kA s f g<2^fV f g:=oO _ _;rw[cX hl (by omega)] at h
  cases h
theorem aNB{s:Sw}{f g:Ft}{i:Nat}(h:(sR s f g).testBit i=true):i<fV f g/\(kA s f g).testBit i=false:=by
 unfold sR at h;rw[yAs,eK] at h;have hl:kA s f g<2^fV f g:=oO _ _
 by_cases c:i<fV f g
 ·rw[dqT c] at h;refine⟨c,?_⟩;cases q:(kA s f g).testBit i with
  | false=>rfl
  | true=>rw[q] at h;cases h
 ·rw[dqF c,cX hl (by omega)] at h
  cases h
noncomputable def fX(s:Sw)(w:Nat)(f g:Ft):Int:=match s with
 | .sub=>(f.O:Nat)-((2^w-1-g.N:Nat):Int)
 | s=>s.oc (f.O:Nat) (g.O:Nat)
noncomputable def fY(s:Sw)(w:Nat)(f g:Ft):Int:=match s with
 | .sub=>((2^w-1-f.N:Nat):Int)-(g.O:Nat)
 | s=>s.oc ((2^w-1-f.N:Nat):Int) ((2^w-1-g.N:Nat):Int)
theorem aJE(s:Sw){f g:Ft}{a b w:Nat}(kf:FtOk f w)(kg:FtOk g w)(ha:a<2^w)(hb:b<2^w)(h1:Hd f a w)(h2:Hd g b w):fX s w f g<=s.oc (a:Nat) (b:Nat)/\s.oc (a:Nat) (b:Nat)<=fY s w f g:=by
 have l1:=aAF h1;have l2:=aAF h2;have m1:=aAV kf ha h1;have m2:=aAV kg hb h2;cases s with
 | add =>
   show((f.O:Nat)+(g.O:Nat):Int)<=(a:Nat)+(b:Nat)/\((a:Nat)+(b:Nat):Int)<=((2^w-1-f.N:Nat):Int)+((2^w-1-g.N:Nat):Int);generalize 2^w-1-f.N=F at *;generalize 2^w-1-g.N=G at *;omega
 | sub =>
   show((f.O:Nat)-((2^w-1-g.N:Nat):Int))<=(a:Nat)-(b:Nat)/\((a:Nat)-(b:Nat):Int)<=((2^w-1-f.N:Nat):Int)-(g.O:Nat);generalize 2^w-1-f.N=F at *;generalize 2^w-1-g.N=G at *;omega
 | mul =>
   show((f.O:Nat)*(g.O:Nat):Int)<=(a:Nat)*(b:Nat)/\((a:Nat)*(b:Nat):Int)<=((2^w-1-f.N:Nat):Int)*((2^w-1-g.N:Nat):Int);rw[<- yEf,<- yEf,<- yEf];exact⟨Int.ofNat_le.mpr (Nat.mul_le_mul l1 l2),Int.ofNat_le.mpr (Nat.mul_le_mul m1 m2)⟩
noncomputable def qP(s:Sw)(w:Nat)(f g:Ft):Nat:=if fX s w f g<0\/fY s w f g>((2^w-1:Nat):Int) then 0 else tX (fX s w f g).toNat (fY s w f g).toNat w
noncomputable def qR(s:Sw)(w:Nat)(f g:Ft):Nat:=if fX s w f g<0\/fY s w f g>((2^w-1:Nat):Int) then 0 else oI (fX s w f g).toNat (fY s w f g).toNat w
theorem aM9{l g w:Nat}(hl:l<2^w)(hg:g<2^w):vH l g w<2^w:=by
 apply yCj;intro i hi;rw[aBP hl hg,dqF (by omega),yAl]
theorem aGa(s:Sw){f g:Ft}{a b w:Nat}(kf:FtOk f w)(kg:FtOk g w)(ha:a<2^w)(hb:b<2^w)(h1:Hd f a w)(h2:Hd g b w) :
 (∀ i,(qP s w f g).testBit i=true->(rs (s.oc (a:Nat) (b:Nat)) w).testBit i=false)/\(∀ i,(qR s w f g).testBit i=true->(rs (s.oc (a:Nat) (b:Nat)) w).testBit i=true)/\qP s w f g<2^w/\qR s w f g<2^w:=by
 have hb':=aJE s kf kg ha hb h1 h2;have hp:=xAf w;unfold qP qR
 by_cases c:fX s w f g<0\/fY s w f g>((2^w-1:Nat):Int)
 ·rw[if_pos c,if_pos c];refine⟨λ i hi=>?_,λ i hi=>?_,hp,hp⟩
  ·rw[yBl] at hi;cases hi
  ·rw[yBl] at hi;cases hi
 ·rw[if_neg c,if_neg c];have e:=aTs (x:=s.oc (a:Nat) (b:Nat)) (w:=w) (by omega) (by omega)
  have q1:(fX s w f g).toNat<=rs (s.oc (a:Nat) (b:Nat)) w:=by omega
  have q2:rs (s.oc (a:Nat) (b:Nat)) w<=(fY s w f g).toNat:=by omega
  have q3:(fX s w f g).toNat<2^w:=by omega
  have q4:(fY s w f g).toNat<2^w:=by omega
  have n1:=aKX q3 q4 q1 q2;have n2:=aLk q3 q4 q1 q2;rw[zG] at n1;rw[aFU] at n2;have kl:=aM9 q3 q4;exact⟨n1,n2,yBz kl (xAj yCl kl),xAj yCl kl⟩
noncomputable def qQ(s:Sw)(w:Nat)(f g:Ft):Nat:=match s with
 | .mul=>2^min w (lr f.N+lr g.N)-1
 | _=>0
theorem aG6{n L:Nat}(h:∀ i,i<L->n.testBit i=false):2^L ∣ n:=by
 have:n%2^L=0:=by
  rw[jN];intro i;rw[yBr]
  by_cases c:i<L
  ·rw[h i c,yDj]
  ·rw[dqF c,yAl]
 exact Nat.dvd_of_mod_eq_zero this
theorem aPD(s:Sw){f g:Ft}{a b w:Nat}(h1:Hd f a w)(h2:Hd g b w):∀ i,(qQ s w f g).testBit i=true->(rs (s.oc (a:Nat) (b:Nat)) w).testBit i=false:=by
 intro i hi;cases s with
 | add=>rw[show qQ .add w f g=0 from rfl,yBl] at hi;cases hi
 | sub=>rw[show qQ .sub w f g=0 from rfl,yBl] at hi;cases hi
 | mul =>
   have hi':(2^min w (lr f.N+lr g.N)-1).testBit i=true:=hi;rw[eK,decide_eq_true_eq] at hi';obtain⟨c,hc⟩:=aG6 (L:=lr f.N) (n:=a) λ i hi=>h1.1 i (uQ hi)
   obtain⟨e,he⟩:=aG6 (L:=lr g.N) (n:=b) λ i hi=>h2.1 i (uQ hi)
   have ex:rs (Sw.mul.oc (a:Nat) (b:Nat)) w=a*b%2^w:=by
    have:=nY (Sw.mul.oc (a:Nat) (b:Nat)) w;have e2:Sw.mul.oc (a:Nat) (b:Nat)=((a*b:Nat):Int):=(yEf a b).symm;rw[e2,<- yEr] at this;rw[e2];omega
   rw[ex,yBr,dqT (by omega),yAo]
   have:a*b=c*e*2^(lr f.N+lr g.N):=by
    rw[hc,he,yGw];simp only[yHh,Nat.mul_left_comm,Nat.mul_assoc]
   rw[this,yH,dqF (by omega),yAl]
theorem aCQ{n w a:Nat}(hn:n<2^w)(ha:a<=w):((∀ i,w-a<=i->i<w->n.testBit i=true)\/(∀ i,w-a<=i->i<w->n.testBit i=false)) ↔ 2^w-2^(w-a)<=n\/n<2^(w-a):=by
 have hp:=xAf (w-a);have e1:(2:Nat)^w=2^a*2^(w-a):=by rw[<- yGw,show a+(w-a)=w by omega]
 have hpa:=xAf a;rw[<- aNJ hn ha,<- aNm hn ha];have q0:n/2^(w-a)=0 ↔ n<2^(w-a):=by
  rw[Nat.div_eq_zero_iff];omega
 have q1:n/2^(w-a)=2^a-1 ↔ 2^w-2^(w-a)<=n:=by
  have es:(2^a-1)*2^(w-a)=2^w-2^(w-a):=by rw[Nat.sub_mul,Nat.one_mul,<- e1]
  constructor
  ·intro h;have:=Nat.div_mul_le_self n (2^(w-a));rw[h,es] at this;exact this
  ·intro h;have g1:2^a-1<=n/2^(w-a):=by
    rw[Nat.le_div_iff_mul_le hp,es];exact h
   have g2:n/2^(w-a)<2^a:=by
    rw[yEe hp,<- e1];exact hn
   omega
 rw[q0,q1]
noncomputable def kM(s:Sw)(f g:Ft):Nat:=match s with
 | .mul=>1
 | _=>max 1 (min f.A g.A-1)
theorem rL{n w a m:Nat}(ha:m<=a)(h:(∀ i,w-a<=i->i<w->n.testBit i=true)\/(∀ i,w-a<=i->i<w->n.testBit i=false)):(∀ i,w-m<=i->i<w->n.testBit i=true)\/(∀ i,w-m<=i->i<w->n.testBit i=false):=by
 rcases h with h | h
 ·exact .inl λ i a b=>h i (by omega) b
 ·exact .inr λ i a b=>h i (by omega) b
theorem kX(n w:Nat):(∀ i,w-1<=i->i<w->n.testBit i=true)\/(∀ i,w-1<=i->i<w->n.testBit i=false):=by
 cases c:n.testBit (w-1) with
 | true=>exact .inl λ i h1 h2=>by rw[show i=w-1 by omega];exact c
 | false=>exact .inr λ i h1 h2=>by rw[show i=w-1 by omega];exact c
theorem aII{a T W:Nat}(ha:a<W)(h:W-T<=a\/a<T)(hT:T<=W):∃ x k:Int,((a:Nat):Int)=x+k*((W:Nat):Int) /\ -((T:Nat):Int)<=x/\x<((T:Nat):Int):=by
 rcases h with h | h
 ·exact⟨(a:Int)-W,1,by omega,by omega,by omega⟩
 ·exact⟨(a:Int),0,by omega,by omega,by omega⟩
theorem aPF{x W T r k:Int}(h:r=x+k*W)(h1 : -(2*T)<=x)(h2:x<2*T)(hT:2*T<=W)(r0:0<=r)(rW:r<W):W-2*T<=r\/r<2*T:=by
 rcases (show k <= -1\/k=0\/k=1\/2<=k by omega) with c | rfl | rfl | c
 ·have:k*W<=(-1)*W:=yFu c (by omega)
  omega
 ·exact .inr (by omega)
 ·exact .inl (by omega)
 ·have:2*W<=k*W:=yFu c (by omega)
  omega
theorem aP8{x y k l W z:Int}:(x+k*W+(y+l*W))-W*z=x+y+(k+l-z)*W:=by
 rw[Int.sub_mul,Int.add_mul,Int.mul_comm W z];omega
theorem aQv{x y k l W z:Int}:(x+k*W-(y+l*W))-W*z=x-y+(k-l-z)*W:=by
 rw[Int.sub_mul,Int.sub_mul,Int.mul_comm W z];omega
theorem aVN{s:Sw}{f g:Ft}(c:kM s f g≠1):(kM s f g=min f.A g.A-1/\2<=min f.A g.A-1)/\s≠.mul:=by
 cases s with
 | mul=>exact absurd rfl c
 | add =>
   have e:kM .add f g=max 1 (min f.A g.A-1):=rfl;exact⟨by omega,λ h=>nomatch h⟩
 | sub =>
   have e:kM .sub f g=max 1 (min f.A g.A-1):=rfl;exact⟨by omega,λ h=>nomatch h⟩
theorem aOk(s:Sw){f g:Ft}{a b w:Nat}(kf:FtOk f w)(kg:FtOk g w)(ha:a<2^w)(hb:b<2^w)(h1:Hd f a w)(h2:Hd g b w) :
 (∀ i,w-kM s f g<=i->i<w->(rs (s.oc (a:Nat) (b:Nat)) w).testBit i=true)\/(∀ i,w-kM s f g<=i->i<w->(rs (s.oc (a:Nat) (b:Nat)) w).testBit i=false):=by
 by_cases c:kM s f g=1
 ·rw[c];exact kX _ _
 ·have hw:=kf.aw;obtain⟨⟨hA,hm⟩,hs⟩:=aVN c;have g1:min f.A g.A<=f.A:=Nat.min_le_left ..;have g2:min f.A g.A<=g.A:=Nat.min_le_right ..;rw[hA];generalize min f.A g.A=m at *;have hmw:m<=w:=xAi g1 hw;rw[aCQ (oO _ _) (xAi (yGt m 1) hmw)];have a1:=(aCQ ha hmw).mp (rL g1 h1.2.2);have a2:=(aCQ hb hmw).mp (rL g2 h2.2.2);have e:(2:Nat)^(w-(m-1))=2*2^(w-m):=by
   rw[show w-(m-1)=w-m+1 by omega,yFa,yHh]
  have hT:2*2^(w-m)<=2^w:=by
   rw[<- e];exact yAq (by decide) (yGt ..)
  rw[e];have hT1:2^(w-m)<=2^w:=yAq (by decide) (yGt ..)
  obtain⟨x,k,e1,x1,x2⟩:=aII ha a1 hT1;obtain⟨y,l,e2,y1,y2⟩:=aII hb a2 hT1;have hr:=nY (s.oc (a:Nat) (b:Nat)) w;have hl:=oO (s.oc (a:Nat) (b:Nat)) w;rw[Int.emod_def] at hr;generalize rs (s.oc (a:Nat) (b:Nat)) w=r at *;generalize s.oc (a:Nat) (b:Nat)/((2^w:Nat):Int)=z at *;generalize (2:Nat)^w=W at *;generalize (2:Nat)^(w-m)=T at *;clear a1 a2 h1 h2 e g1 g2 hmw hw hm hA c;have bT:∀ {x k:Int},((r:Nat):Int)=x+k*((W:Nat):Int) -> -(2*((T:Nat):Int))<=x->x<2*((T:Nat):Int)->W-2*T<=r\/r<2*T:=λ q1 q2 q3=>by
   rcases aPF q1 q2 q3 (by omega) (by omega) (by omega) with q | q
   ·exact .inl (by omega)
   ·exact .inr (by omega)
  cases s with
  | mul=>exact absurd rfl hs
  | add =>
    have hk:((r:Nat):Int)=((a:Nat):Int)+((b:Nat):Int)-((W:Nat):Int)*z:=hr;rw[e1,e2,aP8] at hk;exact bT hk (by omega) (by omega)
  | sub =>
    have hk:((r:Nat):Int)=((a:Nat):Int)-((b:Nat):Int)-((W:Nat):Int)*z:=hr;rw[e1,e2,aQv] at hk;exact bT hk (by omega) (by omega)
noncomputable def vY(s:Sw)(w:Nat)(f g:Ft):Ft:=⟨sR s f g|||qP s w f g|||qQ s w f g,kA s f g|||qR s w f g,kM s f g⟩
theorem aNa(s:Sw){f g:Ft}{a b w:Nat}(kf:FtOk f w)(kg:FtOk g w)(ha:a<2^w)(hb:b<2^w)(h1:Hd f a w)(h2:Hd g b w):Hd (vY s w f g) (rs (s.oc (a:Nat) (b:Nat)) w) w:=by
 obtain⟨t1,t2,_,_⟩:=aGa s kf kg ha hb h1 h2;refine⟨λ i hi=>?_,λ i hi=>?_,aOk s kf kg ha hb h1 h2⟩
 ·have hi':(sR s f g|||qP s w f g|||qQ s w f g).testBit i=true:=hi
  rw[xAp,xAp,yEd,yEd] at hi';rcases hi' with (q | q) | q
  ·obtain⟨q1,q2⟩:=aNB q;rw[aGE s kf h1 h2 q1,q2]
  ·exact t1 i q
  ·exact aPD s h1 h2 i q
 ·have hi':(kA s f g|||qR s w f g).testBit i=true:=hi
  rw[xAp,yEd] at hi';rcases hi' with q | q
  ·rw[aGE s kf h1 h2 (aNA q),q]
  ·exact t2 i q
theorem aBV{n v w:Nat}(h:n<2^v)(hv:v<=w):n<2^w:=xAc h (yAq (by decide) hv)
theorem aSi(s:Sw){f g:Ft}{a b w:Nat}(kf:FtOk f w)(kg:FtOk g w)(ha:a<2^w)(hb:b<2^w)(h1:Hd f a w)(h2:Hd g b w):FtOk (vY s w f g) w:=by
 obtain⟨_,_,t3,t4⟩:=aGa s kf kg ha hb h1 h2;have hL:=aCp (g:=g) kf;have hO:kA s f g<2^fV f g:=oO _ _;have hN:sR s f g<2^fV f g:=yBz (by have:=xAf (fV f g);omega) hO
 have hl:qQ s w f g<2^w:=by
  have:=xAf w;cases s with
  | add=>exact this
  | sub=>exact this
  | mul=>exact aBV (v:=min w (lr f.N+lr g.N)) (by show 2^min w (lr f.N+lr g.N)-1<_;have:=xAf (min w (lr f.N+lr g.N));omega) (by omega)
 have q1:=kf.aw;have q2:=kf.a1;refine⟨yBh (yBh (aBV hN hL) t3) hl,yBh (aBV hO hL) t4,?_,?_⟩
 ·show 1<=kM s f g;cases s with
  | mul=>exact yAc 1
  | add=>show 1<=max 1 (min f.A g.A-1);omega
  | sub=>show 1<=max 1 (min f.A g.A-1);omega
 ·show kM s f g<=w;cases s with
  | mul=>show 1<=w;omega
  | add=>show max 1 (min f.A g.A-1)<=w;omega
  | sub=>show max 1 (min f.A g.A-1)<=w;omega
noncomputable def F1:Ft:=⟨0,1,1⟩
noncomputable def F0:Ft:=⟨1,0,1⟩
noncomputable def jG:Ft:=⟨0,0,1⟩
noncomputable def l3(a b c e:Int):Ft:=if b<c then F1 else if e<=a then F0 else jG
theorem aJM(a b c e:Int):l3 a b c e=F1\/l3 a b c e=F0\/l3 a b c e=jG:=by
 unfold l3
 split
 ·exact .inl rfl
 ·split
  ·exact .inr (.inl rfl)
  ·exact .inr (.inr rfl)
theorem zQ{r k:Nat}(h:r<2^k):r^^^2^k=r+2^k:=by
 apply xAm;intro i;have e:r+2^k=r+1*2^k:=by omega
 rw[e,aE1 h,yAs,yBn]
 by_cases c:i<k
 ·rw[if_pos c,dqF (by omega),Bool.xor_false]
 ·rw[if_neg c,cX h (by omega),Bool.false_xor]
  by_cases c2:k=i
  ·subst c2;rw[dqT rfl,yBm];rfl
  ·rw[dqF c2];have:1<2^(i-k):=Nat.one_lt_two_pow (by omega)
   rw[cX this (yAc _)]
theorem aB7{n k:Nat}(h1:2^k<=n)(h2:n<2^(k+1)):n^^^2^k=n-2^k:=by
 have hr:n-2^k<2^k:=by rw[yFa] at h2;omega
 have e:(n-2^k)^^^2^k=n:=by rw[zQ hr];omega
 calc n^^^2^k=((n-2^k)^^^2^k)^^^2^k:=by rw[e]
  _=n-2^k:=by rw[Nat.xor_assoc,Nat.xor_self,Nat.xor_zero]
theorem aI8{n w:Nat}(h:n<2^w)(hw:0<w):n.testBit (w-1)=decide (2^(w-1)<=n):=by
 have hb:=aPl h hw;have hp:=xAf (w-1);cases c:n.testBit (w-1) with
 | true =>
   rw[c] at hb;have:2^(w-1)<=n:=by
    by_cases q:n<2^(w-1)
    ·rw[Nat.div_eq_of_lt q] at hb;exact absurd hb (by decide)
    ·omega
   rw[dqT this]
 | false =>
   rw[c] at hb;have:¬ 2^(w-1)<=n:=λ q=>by
    have h3:=Nat.div_pos q hp;rw[hb] at h3;exact absurd h3 (by decide)
   rw[dqF this]
noncomputable def tt(f:Ft)(w:Nat):Ft:=⟨f.N^^^((f.N^^^f.O)&&&dB 1 w),f.O^^^((f.N^^^f.O)&&&dB 1 w),f.A⟩
theorem aGq{w i:Nat}(hw:1<=w):(dB 1 w).testBit i=decide (w-1=i):=by
 rw[nU]
 by_cases c:w-1=i
 ·rw[dqT c,dqT (by omega),dqT (by omega)];rfl
 ·rw[dqF c]
  by_cases c2:w-1<=i
  ·rw[dqF (show ¬ i<w by omega),yDj]
  ·rw[dqF c2,yAl]
theorem aNl{f:Ft}{w:Nat}(k:FtOk f w)(hd:f.N&&&f.O=0)(hw:1<=w) :
 (f.N<2^(w-1)/\f.O<2^(w-1)/\(tt f w).N=f.N/\(tt f w).O=f.O)\/(f.N<2^(w-1)/\2^(w-1)<=f.O/\(tt f w).N=f.N+2^(w-1)/\(tt f w).O=f.O-2^(w-1))\/(2^(w-1)<=f.N/\f.O<2^(w-1)/\(tt f w).N=f.N-2^(w-1)/\(tt f w).O=f.O+2^(w-1)):=by
 have hN:=aI8 k.lN (show 0<w by omega)
 have hO:=aI8 k.lO (show 0<w by omega)
 have lN:=k.lN;have lO:=k.lO;have e:w-1+1=w:=by omega
 have tb:∀ b:Bool,(f.N.testBit (w-1) ^^ f.O.testBit (w-1))=b->(f.N^^^f.O)&&&dB 1 w=if b=true then 2^(w-1) else 0:=λ b hb=>by
  apply xAm;intro i;rw[yAg,aGq hw,yAs]
  by_cases c:w-1=i
  ·subst c;rw[hb,dqT rfl,yBk];cases b
   ·simp
   ·simp
  ·rw[dqF c,yDj];cases b
   ·simp
   ·rw[if_pos rfl,yBn,dqF c]
 by_cases c1:2^(w-1)<=f.N
 ·by_cases c2:2^(w-1)<=f.O
  ·exfalso;have:=(jN _).mp hd (w-1);rw[yAg,hN,hO,dqT c1,dqT c2] at this;cases this
  ·refine .inr (.inr ⟨c1,by omega,?_,?_⟩)
   ·show f.N^^^_=_;rw[tb true (by rw[hN,hO,dqT c1,dqF c2];rfl),if_pos rfl,aB7 c1 (by rw[e];exact lN)]
   ·show f.O^^^_=_;rw[tb true (by rw[hN,hO,dqT c1,dqF c2];rfl),if_pos rfl,zQ (by omega)]
 ·by_cases c2:2^(w-1)<=f.O
  ·refine .inr (.inl ⟨by omega,c2,?_,?_⟩)
   ·show f.N^^^_=_;rw[tb true (by rw[hN,hO,dqT c2,dqF c1];rfl),if_pos rfl,zQ (by omega)]
   ·show f.O^^^_=_;rw[tb true (by rw[hN,hO,dqT c2,dqF c1];rfl),if_pos rfl,aB7 c2 (by rw[e];exact lO)]
  ·refine .inl ⟨by omega,by omega,?_,?_⟩
   ·show f.N^^^_=_;rw[tb false (by rw[hN,hO,dqF c2,dqF c1];rfl),if_neg (by decide),Nat.xor_zero]
   ·show f.O^^^_=_;rw[tb false (by rw[hN,hO,dqF c2,dqF c1];rfl),if_neg (by decide),Nat.xor_zero]
theorem aIW{f:Ft}{w:Nat}(k:FtOk f w)(hd:f.N&&&f.O=0)(hw:1<=w):(tt f w).N<2^w:=by
 have h2:(2:Nat)^w=2^(w-1)+2^(w-1):=by
  have:(2:Nat)^(w-1+1)=2^(w-1)*2:=yFa ..;rw[show w-1+1=w by omega] at this
  omega
 have lN:=k.lN;rcases aNl k hd hw with ⟨_,_,h,_⟩ | ⟨_,_,h,_⟩ | ⟨_,_,h,_⟩<;>rw[h]<;>omega
noncomputable def nF(w:Nat)(f g:Ft):Ft:=if f.N&&&g.O|||f.O&&&g.N≠0 then F0 else if (f.N|||f.O)&&&(g.N|||g.O)=2^w-1 then F1 else jG
theorem aTy(w:Nat)(f g:Ft):nF w f g=F1\/nF w f g=F0\/nF w f g=jG:=by
 unfold nF
 split
 ·exact .inr (.inl rfl)
 ·split
  ·exact .inl rfl
  ·exact .inr (.inr rfl)
noncomputable def oY(t f g:Ft):Ft:=if t.O=1 then f else if t.N=1 then g else ⟨f.N&&&g.N,f.O&&&g.O,min f.A g.A⟩
theorem aSX{t f g:Ft}{w:Nat}(hf:FtOk f w)(hg:FtOk g w):FtOk (oY t f g) w:=by
 unfold oY
 split
 ·exact hf
 ·split
  ·exact hg
  ·have h1:=hf.a1;have h2:=hg.a1;have h3:=hf.aw;exact⟨xAj yCl hf.lN,xAj yCl hf.lO,by show 1<=min f.A g.A;omega,by show min f.A g.A<=w;omega⟩
def Al(n w a:Nat):Prop:=(∀ i,w-a<=i->i<w->n.testBit i=true)\/(∀ i,w-a<=i->i<w->n.testBit i=false)
theorem oE{f:Ft}{a w:Nat}(hd:f.N&&&f.O=0)(h:Hd f a w)(j:Nat):(dD f j=0->a.testBit j=false)/\(dD f j=1->a.testBit j=true):=by
 refine⟨λ e=>h.1 j ?_,λ e=>h.2.1 j ?_⟩
 ·rw[<- gE hd j,beq_iff_eq];exact e
 ·rw[<- gF hd j,beq_iff_eq];exact e
theorem nV{t:Nat->Nat}{n:Nat}{g:Ft}{z:Nat}(m:Mk t n g)(hz:∀ i,i<n->(t i=0->z.testBit i=false)/\(t i=1->z.testBit i=true))(ha:Al z n g.A):Hd g z n:=by
 have hl:∀ {x:Nat},x<2^n->∀ i,x.testBit i=true->i<n:=λ {x} hx i hi=>by
  by_cases c:i<n
  ·exact c
  ·rw[cX hx (by omega)] at hi;cases hi
 refine⟨λ i hi=>?_,λ i hi=>?_,ha⟩
 ·have c:=hl m.lN i hi;rw[m.b0 i c,beq_iff_eq] at hi;exact(hz i c).1 hi
 ·have c:=hl m.lO i hi;rw[m.b1 i c,beq_iff_eq] at hi;exact(hz i c).2 hi
theorem aP9(n w:Nat):rs ((n:Nat):Int) w=n%2^w:=by
 have:=nY ((n:Nat):Int) w;rw[<- yEr] at this;omega
section
variable {f : Ft}{a w : Nat}(hf : FtOk f w)(hd : f.N&&&f.O = 0)(ha : a<2 ^ w)(h : Hd f a w)
include hf hd ha h
theorem aM5:Hd ⟨f.O,f.N,f.A⟩ (2^w-1-a) w:=by
 refine nV (aRQ hf hd) (λ i hi=>?_) ?_
 ·rw[aAj ha hi];refine⟨λ e=>?_,λ e=>?_⟩
  ·have:f.O.testBit i=true:=by rw[<- aKc hd i,beq_iff_eq];exact e
   rw[h.2.1 i this];rfl
  ·have:f.N.testBit i=true:=by rw[<- aKx hd i,beq_iff_eq];exact e
   rw[h.1 i this];rfl
 ·rcases h.2.2 with q | q
  ·exact .inr λ i h1 h2=>by rw[aAj ha h2,q i h1 h2];rfl
  ·exact .inl λ i h1 h2=>by rw[aAj ha h2,q i h1 h2];rfl
theorem aMI(k:Nat):Hd (vU w f k) (a*2^k%2^w) w:=by
 have hb:∀ i,i<w->(a*2^k%2^w).testBit i=(decide (k<=i)&&a.testBit (i-k)):=λ i hi=>by
  rw[yBr,dqT hi,yAo,yH]
 refine nV (aHI k hd) (λ i hi=>?_) ?_
 ·rw[hb i hi];unfold aAW
  by_cases c:i<k
  ·rw[if_pos c,dqF (by omega),yAl]
   exact⟨λ _=>rfl,λ e=>nomatch e⟩
  ·rw[if_neg c,dqT (by omega),yAo]
   exact oE hd h (i-k)
 ·show Al _ w (max 1 (f.A-k))
  by_cases c:f.A-k<=1
  ·rw[Nat.max_eq_left c];exact kX _ _
  ·rw[Nat.max_eq_right (by omega)]
   have:=hf.aw;rcases h.2.2 with q | q
   ·exact .inl λ i h1 h2=>by rw[hb i h2,dqT (by omega),yAo];exact q _ (by omega) (by omega)
   ·exact .inr λ i h1 h2=>by rw[hb i h2,dqT (by omega),yAo];exact q _ (by omega) (by omega)
theorem aL1(k:Nat):Hd (mJ w f k) (a/2^k) w:=by
 refine nV (aGK k hf hd) (λ i hi=>?_) ?_
 ·rw[kT];unfold aAu
  by_cases c:i+k<w
  ·rw[if_pos c,yDc k i];exact oE hd h (i+k)
  ·rw[if_neg c,cX ha (by omega)]
   exact⟨λ _=>rfl,λ e=>nomatch e⟩
 ·show Al _ w (if k=0 then f.A else 1)
  by_cases c:k=0
  ·subst c;rw[if_pos rfl,yFs,Nat.div_one];exact h.2.2
  ·rw[if_neg c];exact kX _ _
theorem aLI(hw:1<=w)(k:Nat):Hd (vJ w f k) (eD a w (w+k)/2^k) w:=by
 have hb:∀ i,i<w->(eD a w (w+k)/2^k).testBit i=a.testBit (min (i+k) (w-1)):=λ i hi=>by
  rw[kT,rJ ha hw (by omega) (by omega),yDc]
 refine nV (aGC k hw hf hd) (λ i hi=>?_) ?_
 ·rw[hb i hi];exact oE hd h _
 ·have h1:=hf.a1;show Al _ w (min w (f.A+k));rcases h.2.2 with q | q
  ·exact .inl λ i h1 h2=>by rw[hb i h2];exact q _ (by omega) (by omega)
  ·exact .inr λ i h1 h2=>by rw[hb i h2];exact q _ (by omega) (by omega)
theorem aNz{v:Nat}(hv:v<=w):Hd (vZ w v f) (a%2^v) v:=by
 have hb:∀ i,i<v->(a%2^v).testBit i=a.testBit i:=λ i hi=>by rw[yBr,dqT hi,yAo]
 refine nV (aIJ w v hd) (λ i hi=>?_) ?_
 ·rw[hb i hi];exact oE hd h _
 ·have h1:=hf.aw;show Al _ v (max 1 (f.A-(w-v)))
  by_cases c:f.A-(w-v)<=1
  ·rw[Nat.max_eq_left c];exact kX _ _
  ·rw[Nat.max_eq_right (by omega)]
   rcases h.2.2 with q | q
   ·exact .inl λ i h1 h2=>by rw[hb i h2];exact q _ (by omega) (by omega)
   ·exact .inr λ i h1 h2=>by rw[hb i h2];exact q _ (by omega) (by omega)
theorem aMS{v:Nat}(hv:w<=v):Hd (mS w v f) a v:=by
 refine nV (aHQ hv hf hd) (λ i hi=>?_) ?_
 ·unfold aAI
  by_cases c:i<w
  ·rw[if_pos c];exact oE hd h i
  ·rw[if_neg c,cX ha (by omega)]
   exact⟨λ _=>rfl,λ e=>nomatch e⟩
 ·show Al _ v (if v=w then f.A else 1)
  by_cases c:v=w
  ·subst c;rw[if_pos rfl];exact h.2.2
  ·rw[if_neg c];exact kX _ _
theorem aMX(hw:1<=w){v:Nat}(hv:w<=v):Hd (vV w v f) (eD a w v) v:=by
 have hb:∀ i,i<v->(eD a w v).testBit i=a.testBit (min i (w-1)):=λ i hi=>rJ ha hw hv hi
 refine nV (aHO hw hv hf hd) (λ i hi=>?_) ?_
 ·rw[hb i hi];exact oE hd h _
 ·have h1:=hf.a1;show Al _ v (f.A+(v-w));rcases h.2.2 with q | q
  ·exact .inl λ i h1 h2=>by rw[hb i h2];exact q _ (by omega) (by omega)
  ·exact .inr λ i h1 h2=>by rw[hb i h2];exact q _ (by omega) (by omega)
end
noncomputable def bwv(b:Nat)(x y:Nat):Nat:=match b with
 | 0=>x&&&y
 | 1=>x|||y
 | _=>x^^^y
noncomputable def bwB(b:Nat)(x y:Bool):Bool:=match b with
 | 0=>x&&y
 | 1=>x||y
 | _=>x ^^ y
theorem aCy{b:Nat}(hb:b=0\/b=1\/b=2)(x y i:Nat):(bwv b x y).testBit i=bwB b (x.testBit i) (y.testBit i):=by
 rcases hb with rfl | rfl | rfl
 ·exact yAg ..
 ·exact xAp ..
 ·exact yAs ..
theorem aSj:∀ (b p q:Fin 3) (x y:Bool),(p.1=0->x=false)/\(p.1=1->x=true)->(q.1=0->y=false)/\(q.1=1->y=true)->(btN b.1 p.1 q.1=0->bwB b.1 x y=false)/\(btN b.1 p.1 q.1=1->bwB b.1 x y=true):=by decide
theorem aPC{b:Nat}(hb:b=0\/b=1\/b=2){f g:Ft}{x y w:Nat}(hf:FtOk f w)(hd:f.N&&&f.O=0)(h:Hd f x w)(hg:FtOk g w)(he:g.N&&&g.O=0)(h':Hd g y w):Hd (sY b f g) (bwv b x y) w:=by
 refine nV (aIX b hb hf hd hg he) (λ i hi=>?_) ?_
 ·rw[aCy hb];exact aSj ⟨b,by omega⟩ ⟨_,vG f i⟩ ⟨_,vG g i⟩ _ _ (oE hd h i) (oE he h' i)
 ·have hA:(sY b f g).A=min f.A g.A:=by rcases hb with rfl | rfl | rfl<;>rfl
  rw[hA];have q1:Al x w (min f.A g.A):=rL (by omega) h.2.2
  have q2:Al y w (min f.A g.A):=rL (by omega) h'.2.2
  have go:∀ (p q:Bool),(∀ i,w-min f.A g.A<=i->i<w->x.testBit i=p)->(∀ i,w-min f.A g.A<=i->i<w->y.testBit i=q)->Al (bwv b x y) w (min f.A g.A):=λ p q hp hq=>by
   cases c:bwB b p q with
   | true=>exact .inl λ i h1 h2=>by rw[aCy hb,hp i h1 h2,hq i h1 h2,c]
   | false=>exact .inr λ i h1 h2=>by rw[aCy hb,hp i h1 h2,hq i h1 h2,c]
  rcases q1 with q1 | q1<;>rcases q2 with q2 | q2
  ·exact go _ _ q1 q2
  ·exact go _ _ q1 q2
  ·exact go _ _ q1 q2
  ·exact go _ _ q1 q2
noncomputable def oV(a w:Nat):Int:=if 2^(w-1)<=a then (a:Nat)-((2^w:Nat):Int) else (a:Nat)
theorem rG{i:Nat}{p:Prop}(h:(0:Nat).testBit i=true):p:=by
 rw[yBl] at h;cases h
theorem aGO:Hd F1 1 1:=⟨λ i h=>rG h,λ i h=>h,kX _ _⟩
theorem aHM:Hd F0 0 1:=⟨λ i h=>yBl i,λ i h=>rG h,kX _ _⟩
theorem aHR(z:Nat):Hd jG z 1:=⟨λ i h=>rG h,λ i h=>rG h,kX _ _⟩
theorem aHp{a b c e x y:Int}(h1:a<=x)(h2:x<=b)(h3:c<=y)(h4:y<=e):Hd (l3 a b c e) (decide (x<y)).toNat 1:=by
 unfold l3
 by_cases c1:b<c
 ·rw[if_pos c1,dqT (by omega)]
  exact aGO
 ·rw[if_neg c1]
  by_cases c2:e<=a
  ·rw[if_pos c2,dqF (by omega)]
   exact aHM
  ·rw[if_neg c2];exact aHR _
theorem aMd{f g:Ft}{a b w:Nat}(kf:FtOk f w)(kg:FtOk g w)(ha:a<2^w)(hb:b<2^w)(h1:Hd f a w)(h2:Hd g b w):Hd (l3 (f.O:Nat) ((2^w-1-f.N:Nat):Int) (g.O:Nat) ((2^w-1-g.N:Nat):Int)) (decide ((a:Int)<(b:Int))).toNat 1:=
 aHp (Int.ofNat_le.mpr (aAF h1)) (Int.ofNat_le.mpr (aAV kf ha h1)) (Int.ofNat_le.mpr (aAF h2)) (Int.ofNat_le.mpr (aAV kg hb h2))
theorem aMt{f g:Ft}{a b w:Nat}(kf:FtOk f w)(ha:a<2^w)(hb:b<2^w)(h1:Hd f a w)(h2:Hd g b w):Hd (nF w f g) (decide (a=b)).toNat 1:=by
 unfold nF
 by_cases c1:f.N&&&g.O|||f.O&&&g.N=0
 ·rw[if_neg (by simp[c1])]
  by_cases c2:(f.N|||f.O)&&&(g.N|||g.O)=2^w-1
  ·rw[if_pos c2];have:a=b:=by
    apply xAm;intro i
    by_cases c:i<w
    ·have q:((f.N|||f.O)&&&(g.N|||g.O)).testBit i=true:=by rw[c2,eK,dqT c]
     have z:=(jN _).mp c1 i;rw[yAg,xAp,xAp] at q;rw[xAp,yAg,yAg] at z;have p1:=h1.1 i;have p2:=h1.2.1 i;have p3:=h2.1 i;have p4:=h2.2.1 i
     revert q z p1 p2 p3 p4
     generalize f.N.testBit i=y0;generalize f.O.testBit i=y1;generalize g.N.testBit i=y2;generalize g.O.testBit i=y3;generalize a.testBit i=y4;generalize b.testBit i=y5
     revert y0 y1 y2 y3 y4 y5
     decide
    ·rw[cX ha (by omega),cX hb (by omega)]
   rw[dqT this];exact aGO
  ·rw[if_neg c2];exact aHR _
 ·rw[if_pos c1];have:a≠b:=by
   rintro rfl;apply c1;rw[jN];intro i;rw[xAp,yAg,yAg];have p1:=h1.1 i;have p2:=h1.2.1 i;have p3:=h2.1 i;have p4:=h2.2.1 i
   revert p1 p2 p3 p4
   generalize f.N.testBit i=y0;generalize f.O.testBit i=y1;generalize g.N.testBit i=y2;generalize g.O.testBit i=y3;generalize a.testBit i=y4
   revert y0 y1 y2 y3 y4
   decide
  rw[dqF this];exact aHM
noncomputable def tw(a w:Nat):Int:=oV a w+((2^(w-1):Nat):Int)
theorem aS1{w:Nat}(hw:1<=w):(2:Nat)^w=2^(w-1)+2^(w-1):=by
 have:(2:Nat)^(w-1+1)=2^(w-1)*2:=yFa ..;rw[show w-1+1=w by omega] at this
 omega
theorem aQy{a w:Nat}(ha:a<2^w)(hw:1<=w):((a^^^2^(w-1):Nat):Int)=tw a w:=by
 have h2:=aS1 hw;unfold tw oV
 by_cases c:2^(w-1)<=a
 ·rw[if_pos c,aB7 c (by rw[show w-1+1=w by omega];exact ha)]
  omega
 ·rw[if_neg c,zQ (by omega)]
  omega
theorem aHs{f:Ft}{a w:Nat}(hw:1<=w)(h:Hd f a w)(i:Nat):((tt f w).N.testBit i=true->(a^^^2^(w-1)).testBit i=false)/\((tt f w).O.testBit i=true->(a^^^2^(w-1)).testBit i=true):=by
 have h1:=h.1 i;have h2:=h.2.1 i;show((f.N^^^((f.N^^^f.O)&&&dB 1 w)).testBit i=true->_)/\((f.O^^^((f.N^^^f.O)&&&dB 1 w)).testBit i=true->_);simp only[yAs,yAg,aGq hw,yBn];have key:∀ b n o x:Bool,(n=true->x=false)->(o=true->x=true)->((n ^^ ((n ^^ o)&&b))=true->(x ^^ b)=false)/\((o ^^ ((n ^^ o)&&b))=true->(x ^^ b)=true):=by decide
 exact key _ _ _ _ h1 h2
theorem aI2{f:Ft}{a w:Nat}(kf:FtOk f w)(hd:f.N&&&f.O=0)(hw:1<=w)(ha:a<2^w)(h:Hd f a w):(((tt f w).O:Nat):Int)<=tw a w/\tw a w<=((2^w-1-(tt f w).N:Nat):Int):=by
 have hp:2^(w-1)<2^w:=yCb (by decide) (by omega)
 have lN:(tt f w).N<2^w:=yBz kf.lN (xAj yEq (aCN 1 w));rw[<- aQy ha hw];exact⟨Int.ofNat_le.mpr (aCl λ i=>(aHs hw h i).2),Int.ofNat_le.mpr (aId lN (yBz ha hp) λ i=>(aHs hw h i).1)⟩
theorem aLR{f g:Ft}{a b w:Nat}(kf:FtOk f w)(kg:FtOk g w)(fd:f.N&&&f.O=0)(gd:g.N&&&g.O=0)(hw:1<=w)(ha:a<2^w)(hb:b<2^w)(h1:Hd f a w)(h2:Hd g b w):Hd (l3 ((tt f w).O:Nat) ((2^w-1-(tt f w).N:Nat):Int) ((tt g w).O:Nat) ((2^w-1-(tt g w).N:Nat):Int)) (decide (oV a w<oV b w)).toNat 1:=by
 have i1:=aI2 kf fd hw ha h1;have i2:=aI2 kg gd hw hb h2;have e:decide (oV a w<oV b w)=decide (tw a w<tw b w):=by
  rw[decide_eq_decide];unfold tw;omega
 rw[e];exact aHp i1.1 i1.2 i2.1 i2.2
theorem aMk{t f g:Ft}{c a b w:Nat}(ht:Hd t c 1)(hc:c<2)(h1:Hd f a w)(h2:Hd g b w):Hd (oY t f g) (if c=1 then a else b) w:=by
 unfold oY
 by_cases c1:t.O=1
 ·have:c=1:=by
   have:=ht.2.1 0 (by rw[c1];rfl)
   rcases (show c=0\/c=1 by omega) with rfl | rfl
   ·cases this
   ·rfl
  rw[if_pos c1,if_pos this];exact h1
 ·rw[if_neg c1]
  by_cases c2:t.N=1
  ·have:c=0:=by
    have:=ht.1 0 (by rw[c2];rfl)
    rcases (show c=0\/c=1 by omega) with rfl | rfl
    ·rfl
    ·cases this
   rw[if_pos c2,if_neg (by omega)]
   exact h2
  ·rw[if_neg c2];have go:∀ {z:Nat}{h:Ft},Hd h z w->(∀ i,(f.N&&&g.N).testBit i=true->h.N.testBit i=true)->(∀ i,(f.O&&&g.O).testBit i=true->h.O.testBit i=true)->min f.A g.A<=h.A->Hd ⟨f.N&&&g.N,f.O&&&g.O,min f.A g.A⟩ z w:=λ {z h} q q1 q2 q3 =>
    ⟨λ i hi=>q.1 i (q1 i hi),λ i hi=>q.2.1 i (q2 i hi),rL q3 q.2.2⟩
   have an:∀ {x y:Nat} i,(x&&&y).testBit i=true->x.testBit i=true/\y.testBit i=true:=λ i hi=>by
    rw[yAg,yAt] at hi;exact hi
   split
   ·exact go h1 (λ i hi=>(an i hi).1) (λ i hi=>(an i hi).1) (by omega)
   ·exact go h2 (λ i hi=>(an i hi).2) (λ i hi=>(an i hi).2) (by omega)
theorem aSL(a b:D):aP (.tuple [a,b]) (.int 0)=qq a:=rfl
theorem aTR(a b:D):aP (.tuple [a,b]) (.int 1)=qq b:=rfl
theorem aPR(a:Wd):aM .In (.str a.s) (.tuple [.str "add",.str "sub",.str "mul"])=qq (.bool (decide (a=.add\/a=.sub\/a=.mul))):=by cases a<;>rfl
theorem aUL(a:Wd):aM .In (.str a.s) (.tuple [.str "and",.str "or",.str "xor"])=qq (.bool (decide (a=.and\/a=.or\/a=.xor))):=by cases a<;>rfl
theorem aIZ(a:Wd):aM .In (.str a.s) (.tuple [.str "wide",.str "sign"])=qq (.bool (decide (a=.wide\/a=.sign))):=by cases a<;>rfl
theorem fK{C:Calls}{i:Nat}{j:Int}{env:aX}{R x:D}{S:aC}(h:env[i]? = qq (qq (.d R)))(e:aP R (.int j)=qq x):ev C (.ix (.var i) (.int j)) env S=qq (.d x,S):=by
 simp only[gS0,h,e]
noncomputable abbrev oe(R Wi Fs:D)(wd:Wd)(v:Int):aX:=[qq (.d R),qq (.d Wi),qq (.d Fs),qq (.d (.str wd.s)),qq (.d (.int v))]
section
variable (C : Calls)(R Wi Fs : D)(v : Int)(S : aC)(wd : Wd)
theorem nA:tv C (.cmp .Eq (.var 3) (.str "in")) (oe R Wi Fs wd v) S=qq (decide (wd=.in),S):=eE rfl (bJ wd .in)
theorem oG:tv C (.cmp .Eq (.var 3) (.str "num")) (oe R Wi Fs wd v) S=qq (decide (wd=.num),S):=eE rfl (bJ wd .num)
theorem pZ:tv C (.cmp .Eq (.var 3) (.str "not")) (oe R Wi Fs wd v) S=qq (decide (wd=.not),S):=eE rfl (bJ wd .not)
theorem aC0:tv C (.cmp .Eq (.var 3) (.str "pick")) (oe R Wi Fs wd v) S=qq (decide (wd=.pick),S):=eE rfl (bJ wd .pick)
theorem rN:tv C (.cmp .In (.var 3) (.con "SUMS" aCW)) (oe R Wi Fs wd v) S=qq (decide (wd=.add\/wd=.sub\/wd=.mul),S):=iJ rfl rfl (aPR wd)
theorem uE:tv C (.cmp .In (.var 3) (.con "SHIFTS" pJ)) (oe R Wi Fs wd v) S=qq (decide (wd=.left\/wd=.right\/wd=.slide),S):=iJ rfl rfl (rB wd)
theorem aAe:tv C (.cmp .In (.var 3) (.con "COMPARES" tM)) (oe R Wi Fs wd v) S=qq (decide (wd=.same\/wd=.less\/wd=.under),S):=iJ rfl rfl (zP wd)
theorem aJS:tv C (.cmp .In (.var 3) (.tup (.cons (.str "and") (.cons (.str "or") (.cons (.str "xor") .nil))))) (oe R Wi Fs wd v) S=qq (decide (wd=.and\/wd=.or\/wd=.xor),S):=iJ rfl rfl (aUL wd)
end
theorem aQD{wd:Wd}(h:wd=.cut\/wd=.wide\/wd=.sign):¬ wd=.in/\¬ wd=.num/\¬ wd=.not/\¬ (wd=.add\/wd=.sub\/wd=.mul)/\¬ (wd=.left\/wd=.right\/wd=.slide)/\¬ (wd=.same\/wd=.less\/wd=.under)/\¬ wd=.pick/\¬ (wd=.and\/wd=.or\/wd=.xor):=by
 rcases h with rfl | rfl | rfl<;>decide
theorem aTX{wd:Wd}(h:wd=.and\/wd=.or\/wd=.xor):¬ wd=.in/\¬ wd=.num/\¬ wd=.not/\¬ (wd=.add\/wd=.sub\/wd=.mul)/\¬ (wd=.left\/wd=.right\/wd=.slide)/\¬ (wd=.same\/wd=.less\/wd=.under)/\¬ wd=.pick:=by
 rcases h with rfl | rfl | rfl<;>decide
theorem aS4{wd:Wd}(h:wd=.left\/wd=.right\/wd=.slide):¬ wd=.in/\¬ wd=.num/\¬ wd=.not/\¬ (wd=.add\/wd=.sub\/wd=.mul):=by
 rcases h with rfl | rfl | rfl<;>decide
section
variable (d : Nat)(R Wi Fs : D)(v : Int)(S : aC)
theorem aM6(f:Ft)(e0:aP R (.int 0)=qq (.str "not"))(e1:aP R (.int 1)=qq (.int v))(ef:aP Fs (.int 0)=qq f.d):cl fns (d+1) 46 [.d R,.d Wi,.d Fs] S=qq (.d (Ft.mk f.O f.N f.A).d,S):=by
 have t1:=nA (aD fns d) R Wi Fs v S .not;have t2:=oG (aD fns d) R Wi Fs v S .not;have t3:=pZ (aD fns d) R Wi Fs v S .not;refine dO (S1:=S) rfl d rfl rfl yAh (cI (S1:=S) (w:=.d (.str Wd.not.s)) (fK rfl e0) rfl (cI (S1:=S) (w:=.d (.int v)) (fK rfl e1) rfl (bC t1 (bC t2 (cE t3 (bO ?_))))));simp only[gS0,ef,dG,dS,kC]
theorem aL7(wd:Wd)(bI:wd=.left\/wd=.right\/wd=.slide)(f:Ft)(k:Nat)(g:D)(e0:aP R (.int 0)=qq (.str wd.s))(e1:aP R (.int 1)=qq (.int v))(e3:aP R (.int 3)=qq (.int k))(ef:aP Fs (.int 0)=qq f.d)(hk:cl fns d 39 [.d (.str wd.s),.d (.int v),.d f.d,.d (.int k)] S=qq (.d g,S)):cl fns (d+1) 46 [.d R,.d Wi,.d Fs] S=qq (.d g,S):=by
 have t1:=nA (aD fns d) R Wi Fs v S wd;have t2:=oG (aD fns d) R Wi Fs v S wd;have t3:=pZ (aD fns d) R Wi Fs v S wd;have t4:=rN (aD fns d) R Wi Fs v S wd;have t5:=uE (aD fns d) R Wi Fs v S wd;rw[dqT bI] at t5;obtain⟨n1,n2,n3,n4⟩:=aS4 bI;rw[dqF n1] at t1;rw[dqF n2] at t2;rw[dqF n3] at t3;rw[dqF n4] at t4;refine dO (S1:=S) rfl d rfl rfl yAh (cI (S1:=S) (w:=.d (.str wd.s)) (fK rfl e0) rfl (cI (S1:=S) (w:=.d (.int v)) (fK rfl e1) rfl (bC t1 (bC t2 (bC t3 (bC t4 (cE t5 (bO ?_))))))));simp only[gS0,ef,e3,hk]
theorem aO1(wd:Wd)(bI:wd=.and\/wd=.or\/wd=.xor)(f g:Ft)(e0:aP R (.int 0)=qq (.str wd.s))(e1:aP R (.int 1)=qq (.int v))(ef:aP Fs (.int 0)=qq f.d)(eg:aP Fs (.int 1)=qq g.d):cl fns (d+3) 46 [.d R,.d Wi,.d Fs] S=qq (.d (bwN wd f g).d,S):=by
 have t1:=nA (aD fns (d+2)) R Wi Fs v S wd;have t2:=oG (aD fns (d+2)) R Wi Fs v S wd;have t3:=pZ (aD fns (d+2)) R Wi Fs v S wd;have t4:=rN (aD fns (d+2)) R Wi Fs v S wd;have t5:=uE (aD fns (d+2)) R Wi Fs v S wd;have t6:=aAe (aD fns (d+2)) R Wi Fs v S wd;have t7:=aC0 (aD fns (d+2)) R Wi Fs v S wd;have t8:=aJS (aD fns (d+2)) R Wi Fs v S wd;rw[dqT bI] at t8;obtain⟨n1,n2,n3,n4,n5,n6,n7⟩:=aTX bI;rw[dqF n1] at t1;rw[dqF n2] at t2;rw[dqF n3] at t3;rw[dqF n4] at t4;rw[dqF n5] at t5;rw[dqF n6] at t6;rw[dqF n7] at t7;refine dO (S1:=S) rfl (d+2) rfl rfl yAh (cI (S1:=S) (w:=.d (.str wd.s)) (fK rfl e0) rfl (cI (S1:=S) (w:=.d (.int v)) (fK rfl e1) rfl (bC t1 (bC t2 (bC t3 (bC t4 (bC t5 (bC t6 (bC t7 (cE t8 (bO ?_)))))))))));simp only[gS0,ef,eg,aLL d wd bI f g]
theorem aB3(wd:Wd)(bI:wd=.cut\/wd=.wide\/wd=.sign)(f:Ft)(w:Int)(g:D)(e0:aP R (.int 0)=qq (.str wd.s))(e1:aP R (.int 1)=qq (.int v))(ew:aP Wi (.int 0)=qq (.int w))(ef:aP Fs (.int 0)=qq f.d)(hk:cl fns d 40 [.d (.str wd.s),.d (.int w),.d (.int v),.d f.d] S=qq (.d g,S)):cl fns (d+1) 46 [.d R,.d Wi,.d Fs] S=qq (.d g,S):=by
 have t1:=nA (aD fns d) R Wi Fs v S wd;have t2:=oG (aD fns d) R Wi Fs v S wd;have t3:=pZ (aD fns d) R Wi Fs v S wd;have t4:=rN (aD fns d) R Wi Fs v S wd;have t5:=uE (aD fns d) R Wi Fs v S wd;have t6:=aAe (aD fns d) R Wi Fs v S wd;have t7:=aC0 (aD fns d) R Wi Fs v S wd;have t8:=aJS (aD fns d) R Wi Fs v S wd;obtain⟨n1,n2,n3,n4,n5,n6,n7,n8⟩:=aQD bI;rw[dqF n1] at t1;rw[dqF n2] at t2;rw[dqF n3] at t3;rw[dqF n4] at t4;rw[dqF n5] at t5;rw[dqF n6] at t6;rw[dqF n7] at t7;rw[dqF n8] at t8;refine dO (S1:=S) rfl d rfl rfl yAh (cI (S1:=S) (w:=.d (.str wd.s)) (fK rfl e0) rfl (cI (S1:=S) (w:=.d (.int v)) (fK rfl e1) rfl (bC t1 (bC t2 (bC t3 (bC t4 (bC t5 (bC t6 (bC t7 (bC t8 (bO ?_)))))))))));simp only[gS0,ew,ef,hk]
theorem aCv(n:Nat)(g:Ft)(e1:aP R (.int 1)=qq (.int n))(ho:cl fns (d+3) 46 [.d R,.d Wi,.d Fs] S=qq (.d g.d,S))(hg:FtOk g n)(hn:n<=64):cl fns (d+4) 47 [.d R,.d Wi,.d Fs] S=qq (.d (gJ g n).d,S):=by
 rw[aY rfl (d+3) _ S rfl];simp only[gR1,aI4,ho,e1,aMr d g n hg hn]
end
noncomputable def shN(wd:Wd)(w:Nat)(f:Ft)(k:Nat):Ft:=match wd with
 | .left=>vU w f k
 | .right=>mJ w f k
 | _=>vJ w f k
theorem aNN(d:Nat)(wd:Wd)(bI:wd=.left\/wd=.right\/wd=.slide)(w:Nat)(f:Ft)(k:Nat)(hf:FtOk f w)(cW:1<=w)(hw:w<=64)(hk:k<=900)(S:aC):cl fns (d+4) 39 [.d (.str wd.s),.d (.int w),.d f.d,.d (.int k)] S=qq (.d (shN wd w f k).d,S):=by
 have t1:=eE (C:=aD fns (d+3)) (i:=0) (S:=S) (x:="left") (env:=[qq (.d (.str wd.s)),qq (.d (.int w)),qq (.d f.d),qq (.d (.int k))]) rfl (bJ wd .left);have t2:=eE (C:=aD fns (d+3)) (i:=0) (S:=S) (x:="right") (env:=[qq (.d (.str wd.s)),qq (.d (.int w)),qq (.d f.d),qq (.d (.int k))]) rfl (bJ wd .right);rcases bI with rfl | rfl | rfl
 ·refine dO (S1:=S) rfl (d+3) rfl rfl yAh (cE t1 (bO ?_));have hq40:=aOo (d+1) w f k hf hw (by omega)
  simp only[gS0,hq40]
 ·refine dO (S1:=S) rfl (d+3) rfl rfl yAh (bC t1 (cE t2 (bO ?_)));simp only[gS0,aOa d w f k hw]
 ·refine dO (S1:=S) rfl (d+3) rfl rfl yAh (bC t1 (bC t2 (bO ?_)));simp only[gS0,aNX d w f k cW hw hk]
theorem tW(d:Nat)(f:Ft)(S:aC):cl fns (d+1) 22 [.d f.d] S=qq (.d (.int ((f.N|||f.O:Nat):Int)),S):=by
 rw[aY rfl d _ S rfl];simp only[gR1,aEN,dG,dS,cN]
theorem iE(n:Nat):(((n:Nat):Int)==1)=(n==1):=by
 rw[yFg,beq_iff_eq,beq_iff_eq];omega
theorem aHA(d w:Nat)(f g:Ft)(hf:f.N<2^w)(hg:g.N<2^w)(hw:w<=64)(S:aC):cl fns (d+3) 42 [.d (.int w),.d f.d,.d g.d] S=qq (.d (l3 (f.O:Nat) ((2^w-1-f.N:Nat):Int) (g.O:Nat) ((2^w-1-g.N:Nat):Int)).d,S):=by
 have g1:=yD d f w hf hw S;have g2:=yD d g w hg hw S;have l1:=uB (d+1) f S;have l2:=uB (d+1) g S;rw[aY rfl (d+2) _ S rfl];unfold l3
 by_cases c1:((2^w-1-f.N:Nat):Int)<((g.O:Nat):Int)
 ·rw[if_pos c1];simp only[gR1,yU,g1,l2,eN,dqT c1,vR,Tv.d]
 ·rw[if_neg c1]
  by_cases c2:((2^w-1-g.N:Nat):Int)<=((f.O:Nat):Int)
  ·rw[if_pos c2];simp only[gR1,yU,g1,l2,eN,dqF c1,l1,g2,aAw,dqT c2,tZ,Tv.d]
  ·rw[if_neg c2];simp only[gR1,yU,g1,l2,eN,dqF c1,l1,g2,aAw,dqF c2,qZ,Tv.d]
theorem aFx(d w:Nat)(f:Ft)(cW:1<=w)(hw:w<=64)(S:aC):cl fns (d+3) 43 [.d f.d,.d (.int w)] S=qq (.d (tt f w).d,S):=by
 have t:cl fns (d+2) 21 [.d (.int 1),.d (.int w)] S=qq (.d (.int ((dB 1 w:Nat):Int)),S):=pH d 1 w S cW hw;rw[aY rfl (d+2) _ S rfl];simp only[gR1,aEY,Ft.d,t,mD,cY]
theorem aPm(d w:Nat)(f g:Ft)(hw:w<=64)(S:aC):cl fns (d+3) 41 [.d (.int w),.d f.d,.d g.d] S=qq (.d (nF w f g).d,S):=by
 rw[aY rfl (d+2) _ S rfl];unfold nF
 by_cases c1:f.N&&&g.O|||f.O&&&g.N=0
 ·have d1:(f.N&&&g.O|||f.O&&&g.N==0)=true:=by rw[beq_iff_eq];exact c1
  rw[if_neg (by simp[c1])]
  by_cases c2:(f.N|||f.O)&&&(g.N|||g.O)=2^w-1
  ·have d2:((f.N|||f.O)&&&(g.N|||g.O)==2^w-1)=true:=by rw[beq_iff_eq];exact c2
   rw[if_pos c2];have hq41:=dH (d+1) w (by omega)
   simp only[gR1,yI,yZ (d+1),iX,bX,d1,tW (d+1),cY,hq41,aO,zK,d2,vR,Tv.d]
  ·have d2:((f.N|||f.O)&&&(g.N|||g.O)==2^w-1)=false:=by rw[beq_eq_false_iff_ne];exact c2
   rw[if_neg c2];have hq42:=dH (d+1) w (by omega)
   simp only[gR1,yI,yZ (d+1),iX,bX,d1,tW (d+1),cY,hq42,aO,zK,d2,qZ,Tv.d]
 ·have d1:(f.N&&&g.O|||f.O&&&g.N==0)=false:=by rw[beq_eq_false_iff_ne];exact c1
  rw[if_pos c1];simp only[gR1,yI,yZ (d+1),iX,bX,d1,tZ,Tv.d]
theorem aOF(d:Nat)(t f g:Ft)(S:aC):cl fns (d+1) 45 [.d t.d,.d f.d,.d g.d] S=qq (.d (oY t f g).d,S):=by
 rw[aY rfl d _ S rfl];unfold oY
 by_cases c1:t.O=1
 ·have d1:(t.O==1)=true:=by rw[beq_iff_eq];exact c1
  rw[if_pos c1];simp only[gR1,yQ,dS,aO,iE,d1]
 ·have d1:(t.O==1)=false:=by rw[beq_eq_false_iff_ne];exact c1
  rw[if_neg c1]
  by_cases c2:t.N=1
  ·have d2:(t.N==1)=true:=by rw[beq_iff_eq];exact c2
   rw[if_pos c2];simp only[gR1,yQ,dS,dG,aO,iE,d1,d2]
  ·have d2:(t.N==1)=false:=by rw[beq_eq_false_iff_ne];exact c2
   rw[if_neg c2];simp only[gR1,yQ,dS,dG,kC,aO,iE,d1,d2,cY,kP]
noncomputable def oX(wd:Wd)(w:Nat)(f g:Ft):Ft:=match wd with
 | .same=>nF w f g
 | .less=>l3 (f.O:Nat) ((2^w-1-f.N:Nat):Int) (g.O:Nat) ((2^w-1-g.N:Nat):Int)
 | _=>l3 ((tt f w).O:Nat) ((2^w-1-(tt f w).N:Nat):Int) ((tt g w).O:Nat) ((2^w-1-(tt g w).N:Nat):Int)
theorem aSK(wd:Wd)(w:Nat)(f g:Ft):oX wd w f g=F1\/oX wd w f g=F0\/oX wd w f g=jG:=by
 unfold oX
 split
 ·exact aTy ..
 ·exact aJM ..
 ·exact aJM ..
structure Ftd(f:Ft)(w:Nat):Prop where
 ok:FtOk f w
 dj:f.N&&&f.O=0
theorem aL2(d:Nat)(wd:Wd)(bI:wd=.same\/wd=.less\/wd=.under)(w:Nat)(f g:Ft)(hf:Ftd f w)(hg:Ftd g w)(cW:1<=w)(hw:w<=64)(S:aC):cl fns (d+4) 44 [.d (.str wd.s),.d (.int w),.d f.d,.d g.d] S=qq (.d (oX wd w f g).d,S):=by
 have t1:=eE (C:=aD fns (d+3)) (i:=0) (S:=S) (x:="same") (env:=[qq (.d (.str wd.s)),qq (.d (.int w)),qq (.d f.d),qq (.d g.d)]) rfl (bJ wd .same);have t2:=eE (C:=aD fns (d+3)) (i:=0) (S:=S) (x:="less") (env:=[qq (.d (.str wd.s)),qq (.d (.int w)),qq (.d f.d),qq (.d g.d)]) rfl (bJ wd .less);rcases bI with rfl | rfl | rfl
 ·refine dO (S1:=S) rfl (d+3) rfl rfl yAh (cE t1 (bO ?_));simp only[gS0,aPm d w f g hw]
 ·refine dO (S1:=S) rfl (d+3) rfl rfl yAh (bC t1 (cE t2 (bO ?_)));simp only[gS0,aHA d w f g hf.ok.lN hg.ok.lN hw]
 ·refine dO (S1:=S) rfl (d+3) rfl rfl yAh (bC t1 (bC t2 (bO ?_)));simp only[gS0,aFx d w f cW hw,aFx d w g cW hw,aHA d w (tt f w) (tt g w) (aIW hf.ok hf.dj cW) (aIW hg.ok hg.dj cW) hw]
noncomputable def Sw.wd:Sw->Wd
 | .add=>.add
 | .sub=>.sub
 | .mul=>.mul
theorem aLo(x:Int)(L:Nat):bS .BitAnd (.int x) (.int ((2^L-1:Nat):Int))=qq (.int ((rs x L:Nat):Int)):=by
 have hp:=xAf L
 by_cases c:0<=x
 ·obtain⟨n,rfl⟩:∃ n:Nat,x=(n:Nat):=⟨x.toNat,by omega⟩
  rw[cY,aP9,yCm]
 ·have h1:decide ((0:Int)<=x)=false:=dqF c;have h2:decide ((0:Int)<=((2^L-1:Nat):Int))=true:=dqT (by omega)
  obtain⟨b,hb⟩:∃ b:Nat,yBp x=(b:Nat):=⟨(yBp x).toNat,by unfold yBp;omega⟩
  have hx:x = -((b:Nat):Int)-1:=by unfold yBp at hb;omega
  have e:(2^L-1)&&&b=b%2^L:=by rw[Nat.and_comm,yCm]
  have hm:=Nat.mod_lt b hp;have hr:=nY x L;have e2:x%((2^L:Nat):Int)=((2^L:Nat):Int)-1-((b%2^L:Nat):Int):=by
   have hd:((b:Nat):Int)=((2^L:Nat):Int)*((b/2^L:Nat):Int)+((b%2^L:Nat):Int):=by
    rw[<- yEf,<- Int.natCast_add,yGd]
   have hx2:x=(((2^L:Nat):Int)-1-((b%2^L:Nat):Int))+((2^L:Nat):Int)*(-((b/2^L:Nat):Int)-1):=by
    rw[hx,hd,Int.mul_sub,Int.mul_neg,Int.mul_one];omega
   rw[hx2,Int.add_mul_emod_self_left,Int.emod_eq_of_lt (by omega) (by omega)]
  simp only[bS,kY];unfold yDu;rw[h1,h2];simp only[hb,yAr,e];congr 2;omega
theorem aBQ(d:Nat)(s:Sw)(x y:Nat)(hx:x<2^64)(S:aC):cl fns (d+1) 26 [.d (.str s.wd.s),.d (.int x),.d (.int y)] S=qq (.d (.int (s.oc (x:Nat) (y:Nat))),S):=by
 have t1:=eE (C:=aD fns d) (i:=0) (S:=S) (x:="add") (env:=[qq (.d (.str s.wd.s)),qq (.d (.int x)),qq (.d (.int y))]) rfl (bJ s.wd .add);have t2:=eE (C:=aD fns d) (i:=0) (S:=S) (x:="sub") (env:=[qq (.d (.str s.wd.s)),qq (.d (.int x)),qq (.d (.int y))]) rfl (bJ s.wd .sub);cases s with
 | add =>
   refine dO (S1:=S) rfl d rfl rfl yAh (cE t1 (bO ?_));simp only[gS0,dN]
 | sub =>
   refine dO (S1:=S) rfl d rfl rfl yAh (bC t1 (cE t2 (bO ?_)));simp only[gS0,cQ]
 | mul =>
   refine dO (S1:=S) rfl d rfl rfl yAh (bC t1 (bC t2 (bO ?_)));have hq43:=pK (i:=((x:Nat):Int)) (j:=((y:Nat):Int)) (by omega) (by omega)
   simp only[gS0,hq43]
theorem p64{n w:Nat}(h:n<2^w)(hw:w<=64):n<2^64:=xAc h (yAq (by decide) hw)
theorem aPs(d:Nat)(s:Sw)(w:Nat)(f g:Ft)(hf:FtOk f w)(hw:w<=64)(S:aC):cl fns (d+3) 27 [.d (.str s.wd.s),.d f.d,.d g.d] S=qq (.d (.tuple [.int ((sR s f g:Nat):Int),.int ((kA s f g:Nat):Int)]),S):=by
 have hL:=aCp (g:=g) hf;have e1:=aCY d ((f.N|||f.O)&&&(g.N|||g.O)) S
 have e2:=dH (d+1) (fV f g) (show fV f g<=100000 by omega) S
 rw[aY rfl (d+2) _ S rfl];simp only[evs,fD,aFe,tW (d+1),cY];rw[e1];simp only[evs,show lr ((f.N|||f.O)&&&(g.N|||g.O))=fV f g from rfl]
 rw[e2];simp only[gS0,uB (d+1),aBQ (d+1) s f.O g.O (p64 hf.lO hw),aLo,mD]
theorem aMP(d:Nat)(s:Sw)(w:Nat)(f g:Ft)(hf:FtOk f w)(hg:FtOk g w)(hw:w<=64)(S:aC):cl fns (d+3) 29 [.d (.str s.wd.s),.d (.int w),.d f.d,.d g.d] S=qq (.d (.tuple [.int (fX s w f g),.int (fY s w f g)]),S):=by
 have g1:=yD d f w hf.lN hw S;have g2:=yD d g w hg.lN hw S;have l1:=uB (d+1) f S;have l2:=uB (d+1) g S;have hp:=xAf w;have o1:=aBQ (d+1) s f.O g.O (p64 hf.lO hw) S;have o2:=aBQ (d+1) s (2^w-1-f.N) (2^w-1-g.N) (p64 (w:=w) (by omega) hw) S
 have t1:aM .Eq (.str s.wd.s) (.str "sub")=qq (.bool (decide (s.wd=.sub))):=bJ s.wd .sub;rw[aY rfl (d+2) _ S rfl];cases s with
 | sub =>
   have t:aM .Eq (.str Sw.sub.wd.s) (.str "sub")=qq (.bool true):=t1;simp only[gR1,zO,t,g1,g2,l1,l2,cQ]
 | add =>
   have t:aM .Eq (.str Sw.add.wd.s) (.str "sub")=qq (.bool false):=t1;simp only[gR1,zO,t,g1,g2,l1,l2,o1,o2]
 | mul =>
   have t:aM .Eq (.str Sw.mul.wd.s) (.str "sub")=qq (.bool false):=t1;simp only[gR1,zO,t,g1,g2,l1,l2,o1,o2]
theorem aMC(d l g w:Nat)(S:aC)(hl:l<2^w)(hg:g<2^w)(hw:w<=64):cl fns (d+3) 6 [.d (.int l),.d (.int g),.d (.int w)] S=qq (.d (.tuple [.int (tX l g w:Nat),.int (oI l g w:Nat)]),S):=by
 have hx:l^^^g<2^10000:=aH0 (yBz hl hg) (by omega)
 rw[aY rfl (d+2) _ S rfl];have hq44:=dH (d+1) w (by omega)
 simp only[gR1,aEV,hq44,mD,zI d (l^^^g) _ hx,cY]
theorem aUN(s:Sw)(w:Nat)(f g:Ft){a b:Nat}(hf:FtOk f w)(hg:FtOk g w)(ha:a<2^w)(hb:b<2^w)(h1:Hd f a w)(h2:Hd g b w):fX s w f g<=fY s w f g:=by
 have:=aJE s hf hg ha hb h1 h2;omega
theorem aPG(d:Nat)(s:Sw)(w:Nat)(f g:Ft)(hf:FtOk f w)(hg:FtOk g w)(hb:fX s w f g<=fY s w f g)(hw:w<=64)(S:aC):cl fns (d+4) 30 [.d (.str s.wd.s),.d (.int w),.d f.d,.d g.d] S=qq (.d (.tuple [.int ((qP s w f g:Nat):Int),.int ((qR s w f g:Nat):Int)]),S):=by
 have b1:=aMP d s w f g hf hg hw S;have hp:=xAf w;rw[aY rfl (d+3) _ S rfl];unfold qP qR
 by_cases c1:fX s w f g<0
 ·rw[if_pos (.inl c1),if_pos (.inl c1)];simp only[gR1,yR,b1,eN,dqT c1]
 ·by_cases c2:((2^w-1:Nat):Int)<fY s w f g
  ·rw[if_pos (.inr c2),if_pos (.inr c2)];have hq45:=dH (d+2) w (by omega)
   simp only[gR1,yR,b1,eN,dqF c1,hq45,rR,dqT c2]
  ·have c:¬ (fX s w f g<0\/fY s w f g>((2^w-1:Nat):Int)):=λ h=>h.elim c1 c2
   rw[if_neg c,if_neg c];obtain⟨l,hl⟩:∃ l:Nat,fX s w f g=(l:Nat):=⟨(fX s w f g).toNat,by omega⟩
   obtain⟨u,hu⟩:∃ u:Nat,fY s w f g=(u:Nat):=⟨(fY s w f g).toNat,by omega⟩
   rw[hl] at c1;rw[hu] at c2;rw[hl,hu] at b1 hb;rw[hl,hu,yAr,yAr];have hq46:=dH (d+2) w (by omega)
   have hq47:=aMC d l u w S (by omega) (by omega) hw
   simp only[gR1,yR,b1,eN,dqF c1,hq46,rR,dqF c2,hq47]
theorem aOr(d:Nat)(s:Sw)(w:Nat)(f g:Ft)(hw:w<=64)(S:aC):cl fns (d+3) 28 [.d (.str s.wd.s),.d (.int w),.d f.d,.d g.d] S=qq (.d (.int ((qQ s w f g:Nat):Int)),S):=by
 rw[aY rfl (d+2) _ S rfl];cases s with
 | add =>
   have t:aM .NotEq (.str Sw.add.wd.s) (.str "mul")=qq (.bool true):=by kernel_rfl
   simp only[gR1,xT,t]
 | sub =>
   have t:aM .NotEq (.str Sw.sub.wd.s) (.str "mul")=qq (.bool true):=by kernel_rfl
   simp only[gR1,xT,t]
 | mul =>
   have t:aM .NotEq (.str Sw.mul.wd.s) (.str "mul")=qq (.bool false):=by kernel_rfl
   have e:((lr f.N:Nat):Int)+((lr g.N:Nat):Int)=((lr f.N+lr g.N:Nat):Int):=by omega
   have hq48:=dH (d+1) (min w (lr f.N+lr g.N)) (by omega)
   simp only[gR1,xT,t,dG,aCY d,dN,e,kP,hq48]
theorem aMz(d:Nat)(s:Sw)(f g:Ft)(S:aC):cl fns (d+1) 31 [.d (.str s.wd.s),.d f.d,.d g.d] S=qq (.d (.int ((kM s f g:Nat):Int)),S):=by
 have e:∀ m:Nat,jV [.int 1,.int (((m:Nat):Int)-1)]=qq (.int ((max 1 (m-1):Nat):Int)):=λ m=>aB9 m 1
 rw[aY rfl d _ S rfl];cases s with
 | add =>
   have t:aM .Eq (.str Sw.add.wd.s) (.str "mul")=qq (.bool false):=bJ .add .mul;simp only[gR1,yN,t,kC,kP,cQ,e]
 | sub =>
   have t:aM .Eq (.str Sw.sub.wd.s) (.str "mul")=qq (.bool false):=bJ .sub .mul;simp only[gR1,yN,t,kC,kP,cQ,e]
 | mul =>
   have t:aM .Eq (.str Sw.mul.wd.s) (.str "mul")=qq (.bool true):=bJ .mul .mul;simp only[gR1,yN,t]
theorem aRT(d:Nat)(s:Sw)(w:Nat)(f g:Ft)(hf:FtOk f w)(hg:FtOk g w)(hb:fX s w f g<=fY s w f g)(hw:w<=64)(S:aC):cl fns (d+5) 32 [.d (.str s.wd.s),.d (.int w),.d f.d,.d g.d] S=qq (.d (vY s w f g).d,S):=by
 rw[aY rfl (d+4) _ S rfl];simp only[gR1,aFV,aPs (d+1) s w f g hf hw,aPG d s w f g hf hg hb hw,aSL,aTR,cN,aOr (d+1) s w f g hw,aMz (d+3) s f g]
section
variable (d : Nat)(R Wi Fs : D)(v : Nat)(S : aC)
theorem aOb(s:Sw)(f g:Ft)(e0:aP R (.int 0)=qq (.str s.wd.s))(e1:aP R (.int 1)=qq (.int v))(ef:aP Fs (.int 0)=qq f.d)(eg:aP Fs (.int 1)=qq g.d)(hf:FtOk f v)(hg:FtOk g v)(hb:fX s v f g<=fY s v f g)(hv:v<=64):cl fns (d+6) 46 [.d R,.d Wi,.d Fs] S=qq (.d (vY s v f g).d,S):=by
 have bI:s.wd=.add\/s.wd=.sub\/s.wd=.mul:=by
  cases s
  ·exact .inl rfl
  ·exact .inr (.inl rfl)
  ·exact .inr (.inr rfl)
 have t1:=nA (aD fns (d+5)) R Wi Fs (v:Nat) S s.wd;have t2:=oG (aD fns (d+5)) R Wi Fs (v:Nat) S s.wd;have t3:=pZ (aD fns (d+5)) R Wi Fs (v:Nat) S s.wd;have t4:=rN (aD fns (d+5)) R Wi Fs (v:Nat) S s.wd;rw[dqT bI] at t4;rw[dqF (by rcases bI with h | h | h<;>rw[h]<;>decide)] at t1 t2 t3
 refine dO (S1:=S) rfl (d+5) rfl rfl yAh (cI (S1:=S) (w:=.d (.str s.wd.s)) (fK rfl e0) rfl (cI (S1:=S) (w:=.d (.int v)) (fK rfl e1) rfl (bC t1 (bC t2 (bC t3 (cE t4 (bO ?_)))))));simp only[gS0,ef,eg,aRT d s v f g hf hg hb hv]
end
section
variable {f : Ft}{w : Nat}(hf : FtOk f w)(hd : f.N&&&f.O = 0)(cW : 1 <= w)
include hf hd cW
theorem aPL(k:Nat):FtOk (vU w f k) w:=by
 have m:=aHI (w:=w) k hd;have:=hf.aw;exact⟨m.lN,m.lO,by show 1<=max 1 (f.A-k);omega,by show max 1 (f.A-k)<=w;omega⟩
theorem aNC(k:Nat):FtOk (mJ w f k) w:=by
 have m:=aGK k hf hd;have h1:=hf.aw;have h2:=hf.a1;refine⟨m.lN,m.lO,?_,?_⟩
 ·show 1<=if k=0 then f.A else 1
  split<;>omega
 ·show(if k=0 then f.A else 1)<=w
  split<;>omega
theorem aM8(k:Nat):FtOk (vJ w f k) w:=by
 have m:=aGC k cW hf hd;have h1:=hf.a1;exact⟨m.lN,m.lO,by show 1<=min w (f.A+k);omega,by show min w (f.A+k)<=w;omega⟩
theorem aRx{v:Nat}(hv1:1<=v)(hv:v<=w):FtOk (vZ w v f) v:=by
 have m:=aIJ w v hd;have h1:=hf.aw;exact⟨m.lN,m.lO,by show 1<=max 1 (f.A-(w-v));omega,by show max 1 (f.A-(w-v))<=v;omega⟩
theorem aPd{v:Nat}(hv:w<=v):FtOk (mS w v f) v:=by
 have m:=aHQ hv hf hd;have h1:=hf.aw;have h2:=hf.a1;refine⟨m.lN,m.lO,?_,?_⟩
 ·show 1<=if v=w then f.A else 1
  split<;>omega
 ·show(if v=w then f.A else 1)<=v
  split<;>omega
theorem aOR{v:Nat}(hv:w<=v):FtOk (vV w v f) v:=by
 have m:=aHO cW hv hf hd;have h1:=hf.aw;have h2:=hf.a1;exact⟨m.lN,m.lO,by show 1<=f.A+(v-w);omega,by show f.A+(v-w)<=v;omega⟩
end
theorem aTZ{b:Nat}{f g:Ft}{w:Nat}(hb:b=0\/b=1\/b=2)(hf:FtOk f w)(hd:f.N&&&f.O=0)(hg:FtOk g w)(he:g.N&&&g.O=0):FtOk (sY b f g) w:=by
 have m:=aIX b hb hf hd hg he;have h1:=hf.a1;have h2:=hg.a1;have h3:=hf.aw;rcases hb with rfl | rfl | rfl<;>exact⟨m.lN,m.lO,by show 1<=min f.A g.A;omega,by show min f.A g.A<=w;omega⟩
section
variable (d : Nat)(R Wi Fs : D)(v : Int)(S : aC)
theorem aMZ(wd:Wd)(bI:wd=.same\/wd=.less\/wd=.under)(w:Nat)(f g:Ft)(e0:aP R (.int 0)=qq (.str wd.s))(e1:aP R (.int 1)=qq (.int v))(ew:aP Wi (.int 0)=qq (.int w))(ef:aP Fs (.int 0)=qq f.d)(eg:aP Fs (.int 1)=qq g.d)(hf:Ftd f w)(hg:Ftd g w)(cW:1<=w)(hw:w<=64):cl fns (d+5) 46 [.d R,.d Wi,.d Fs] S=qq (.d (oX wd w f g).d,S):=by
 have t1:=nA (aD fns (d+4)) R Wi Fs v S wd;have t2:=oG (aD fns (d+4)) R Wi Fs v S wd;have t3:=pZ (aD fns (d+4)) R Wi Fs v S wd;have t4:=rN (aD fns (d+4)) R Wi Fs v S wd;have t5:=uE (aD fns (d+4)) R Wi Fs v S wd;have t6:=aAe (aD fns (d+4)) R Wi Fs v S wd;rw[dqT bI] at t6;rw[dqF (by rcases bI with rfl | rfl | rfl<;>decide)] at t1 t2 t3 t4 t5
 refine dO (S1:=S) rfl (d+4) rfl rfl yAh (cI (S1:=S) (w:=.d (.str wd.s)) (fK rfl e0) rfl (cI (S1:=S) (w:=.d (.int v)) (fK rfl e1) rfl (bC t1 (bC t2 (bC t3 (bC t4 (bC t5 (cE t6 (bO ?_)))))))));simp only[gS0,ew,ef,eg,aL2 d wd bI w f g hf hg cW hw]
theorem aLQ(t f g:Ft)(e0:aP R (.int 0)=qq (.str "pick"))(e1:aP R (.int 1)=qq (.int v))(et:aP Fs (.int 0)=qq t.d)(ef:aP Fs (.int 1)=qq f.d)(eg:aP Fs (.int 2)=qq g.d):cl fns (d+2) 46 [.d R,.d Wi,.d Fs] S=qq (.d (oY t f g).d,S):=by
 have t1:=nA (aD fns (d+1)) R Wi Fs v S .pick;have t2:=oG (aD fns (d+1)) R Wi Fs v S .pick;have t3:=pZ (aD fns (d+1)) R Wi Fs v S .pick;have t4:=rN (aD fns (d+1)) R Wi Fs v S .pick;have t5:=uE (aD fns (d+1)) R Wi Fs v S .pick;have t6:=aAe (aD fns (d+1)) R Wi Fs v S .pick;have t7:=aC0 (aD fns (d+1)) R Wi Fs v S .pick;refine dO (S1:=S) rfl (d+1) rfl rfl yAh (cI (S1:=S) (w:=.d (.str Wd.pick.s)) (fK rfl e0) rfl (cI (S1:=S) (w:=.d (.int v)) (fK rfl e1) rfl (bC t1 (bC t2 (bC t3 (bC t4 (bC t5 (bC t6 (cE t7 (bO ?_))))))))));simp only[gS0,et,ef,eg,aOF d t f g]
end
structure Op(f:Ft)(w:Nat):Prop where
 ok:FtOk f w
 ho:∃ a,a<2^w/\Hd f a w
 w1:1<=w
 w2:w<=64
theorem Op.dj{f:Ft}{w:Nat}(o:Op f w):f.N&&&f.O=0:=by
 obtain⟨a,_,h⟩:=o.ho;exact aWv h
noncomputable def aJ:Wd->Nat
 | .in | .num=>0
 | .not | .left | .right | .slide | .cut | .wide | .sign=>1
 | .pick=>3
 | _=>2
theorem aOJ(wd:Wd):aA3 tF (.str wd.s)=qq (.int (aJ wd:Nat)):=by cases wd<;>kernel_rfl
theorem lD(r:Rw):aP r.d (.int 0)=qq (.str r.wd.s):=gN (xs:=.str r.wd.s::nD r.w::r.args.map nD) (k:=0) rfl
theorem aPt{fa:FE}{fl fh:FO}{env:aX}{S:aC}(r:Rw)(c:Nat)(h1:fa env S=qq (.d r.d,S))(h2:fl env S=qq (qq 2,S))(h3:fh env S=qq (qq ((2+c:Nat):Int),S)):jI fa fl fh env S=qq (.d (.tuple ((r.args.take c).map nD)),S):=by
 have i2:HT.sIx (PyData.str r.wd.s::nD r.w::r.args.map nD).length 0 (qq 2)=2:=by
  rw[show(2:Int)=((2:Nat):Int) from rfl,HT.sIx_nat]
  simp
 have e:eB (PyData.str r.wd.s::nD r.w::r.args.map nD) (qq 2) (qq ((2+c:Nat):Int))=(r.args.take c).map nD:=by
  unfold eB;rw[i2,HT.sIx_nat];simp only[List.drop_succ_cons,yEl,yBg,yAb];rw[List.map_take];rcases Nat.le_total c r.args.length with z | z
  ·rw[yFi (by omega),show 2+c-2=c by omega]
  ·rw[yEo (by omega),yBq (by simp),yBq (by simpa using z)]
 unfold jI;rw[h1,oB];simp only[];rw[h2,oB];simp only[];rw[h3,oB];simp only[dr,oB,Rw.d];rw[e]
theorem pG(d:Nat)(r:Rw)(S:aC):cl fns (d+1) 7 [.d r.d] S=qq (.d (.tuple ((r.args.take (aJ r.wd)).map nD)),S):=by
 have e2:(2:Int)+((aJ r.wd:Nat):Int)=((2+aJ r.wd:Nat):Int):=by omega
 have sl:ev (aD fns d) (.sl (.var 0) (.cons (.int 2) .nil) (.cons (.bin .Add (.int 2) (.tab "OPERAND_COUNTS" tF (.ix (.var 0) (.int 0)))) .nil)) [qq (.d r.d)] S=qq (.d (.tuple ((r.args.take (aJ r.wd)).map nD)),S):=by
  simp only[aC6];refine aPt r (aJ r.wd) (by simp only[evs]) (by simp only[evs,mO]) ?_
  simp only[gS0,mO,lD,aOJ,dN,e2]
 rw[aY rfl d _ S rfl];show((dI (mW (ev (aD fns d) (.sl (.var 0) (.cons (.int 2) .nil) (.cons (.bin .Add (.int 2) (.tab "OPERAND_COUNTS" tF (.ix (.var 0) (.int 0)))) .nil)))) qA) [qq (.d r.d)] S).bind _=_;simp only[dI,mW,sl,oB,lS,yAh]
inductive RwOk:Rw->List Nat->Prop
 | inp {w:Nat} (h1:1<=w) (h2:w<=64):RwOk ⟨.in,w,[]⟩ []
 | num {w n:Nat} (h1:1<=w) (h2:w<=64) (hn:n<2^w):RwOk ⟨.num,w,[n]⟩ []
 | nt {w a:Nat} (h1:1<=w) (h2:w<=64):RwOk ⟨.not,w,[a]⟩ [w]
 | sh {wd:Wd}{w a k:Nat} (h1:1<=w) (h2:w<=64) (bI:wd=.left\/wd=.right\/wd=.slide) (hk:k<64):RwOk ⟨wd,w,[a,k]⟩ [w]
 | cut {w v a:Nat} (h1:1<=w) (hv:w<=v) (h2:v<=64):RwOk ⟨.cut,w,[a]⟩ [v]
 | wide {w v a:Nat} (h1:1<=v) (hv:v<=w) (h2:w<=64):RwOk ⟨.wide,w,[a]⟩ [v]
 | sign {w v a:Nat} (h1:1<=v) (hv:v<=w) (h2:w<=64):RwOk ⟨.sign,w,[a]⟩ [v]
 | bw {wd:Wd}{w a b:Nat} (h1:1<=w) (h2:w<=64) (bI:wd=.and\/wd=.or\/wd=.xor):RwOk ⟨wd,w,[a,b]⟩ [w,w]
 | sm {s:Sw}{w a b:Nat} (h1:1<=w) (h2:w<=64):RwOk ⟨s.wd,w,[a,b]⟩ [w,w]
 | cmp {wd:Wd}{v a b:Nat} (h1:1<=v) (h2:v<=64) (bI:wd=.same\/wd=.less\/wd=.under):RwOk ⟨wd,1,[a,b]⟩ [v,v]
 | pick {w c a b:Nat} (h1:1<=w) (h2:w<=64):RwOk ⟨.pick,w,[c,a,b]⟩ [1,w,w]
noncomputable def tB:List Nat->List Nat->Prop
 | w::ws,n::ns=>n<2^w/\tB ws ns
 | [],[]=>True
 | _,_=>False
theorem aA7{w:Nat}{ns:List Nat}(h:tB [w] ns):∃ a,ns=[a]/\a<2^w:=by
 rcases ns with _ | ⟨a,_ | ⟨b,r⟩⟩
 ·exact h.elim
 ·exact⟨a,rfl,h.1⟩
 ·exact h.2.elim
theorem aJ0{w v:Nat}{ns:List Nat}(h:tB [w,v] ns):∃ a b,ns=[a,b]/\a<2^w/\b<2^v:=by
 rcases ns with _ | ⟨a,_ | ⟨b,_ | ⟨c,r⟩⟩⟩
 ·exact h.elim
 ·exact h.2.elim
 ·exact⟨a,b,rfl,h.1,h.2.1⟩
 ·exact h.2.2.elim
theorem aWu{w v u:Nat}{ns:List Nat}(h:tB [w,v,u] ns):∃ a b c,ns=[a,b,c]/\a<2^w/\b<2^v/\c<2^u:=by
 rcases ns with _ | ⟨a,_ | ⟨b,_ | ⟨c,_ | ⟨e,r⟩⟩⟩⟩
 ·exact h.elim
 ·exact h.2.elim
 ·exact h.2.2.elim
 ·exact⟨a,b,c,rfl,h.1,h.2.1,h.2.2.1⟩
 ·exact h.2.2.2.elim
noncomputable def shV(wd:Wd)(w a k:Nat):Nat:=match wd with
 | .left=>a*2^k%2^w
 | .right=>a/2^k
 | _=>eD a w (w+k)/2^k
noncomputable def cmV(wd:Wd)(w a b:Nat):Bool:=match wd with
 | .same=>decide (a=b)
 | .less=>decide ((a:Int)<(b:Int))
 | _=>decide (oV a w<oV b w)
noncomputable def cbV(wd:Wd)(w a b:Nat):Nat:=match wd with
 | .and=>a&&&b
 | .or=>a|||b
 | .xor=>a^^^b
 | .add=>rs ((a:Nat)+(b:Nat):Int) w
 | .sub=>rs ((a:Nat)-(b:Nat):Int) w
 | _=>rs ((a:Nat)*(b:Nat):Int) w
noncomputable def g0(l:List Nat)(i:Nat):Nat:=l.getD i 0
noncomputable def iS(r:Rw)(ws ns:List Nat):Nat:=match r.wd with
 | .in=>0
 | .num=>g0 r.args 0
 | .not=>2^r.w-1-g0 ns 0
 | .left | .right | .slide=>shV r.wd r.w (g0 ns 0) (g0 r.args 1)
 | .cut=>g0 ns 0%2^r.w
 | .wide=>g0 ns 0
 | .sign=>eD (g0 ns 0) (g0 ws 0) r.w
 | .same | .less | .under=>(cmV r.wd (g0 ws 0) (g0 ns 0) (g0 ns 1)).toNat
 | .pick=>if g0 ns 0=1 then g0 ns 1 else g0 ns 2
 | wd=>cbV wd r.w (g0 ns 0) (g0 ns 1)
theorem aO6{n w:Nat}(hn:n<2^w):n^^^(2^w-1)=2^w-1-n:=by
 apply xAm;intro i;rw[yAs,eK];have:=rF hn i;unfold qM at this;rw[this]
 by_cases c:i<w
 ·rw[dqT c,yAo];cases n.testBit i<;>rfl
 ·rw[dqF c,cX hn (by omega)]
  rfl
theorem aIq(wd:Wd):aJ wd<=3:=by cases wd<;>decide
theorem aNh(S0:aC)(l:List D)(x:D)(h:l.length<=1000):eI (S0++[qq l]) (.loc S0.length) (.d x)=qq (.d .none,S0++[qq (l++[x])]):=by
 unfold eI;simp only[yAf (yAc S0.length),yBm,yAw];rw[if_pos (by rw[zj];omega)]
 rw[List.set_append_right _ _ (yAc _),yBm];rfl
theorem uA(S0:aC)(l:List D):(S0++[qq l])[S0.length]? = qq (qq l):=by
 rw[yAf (yAc _),yBm];rfl
noncomputable def bB(r:Rw)(l:List Nat):List Nat:=(r.args.take (aJ r.wd)).map (g0 l)
theorem aBL{α:Type}{l:List α}{vs:List D}{f:α->D}(h1:vs.length=l.length)(h2:∀ (i:Nat) (a:α),l[i]? = qq a->∃ v,vs[i]? = qq v/\v=f a):vs=l.map f:=by
 apply List.ext_getElem?;intro i;rw[xAb]
 by_cases c:i<l.length
 ·obtain⟨v,h3,rfl⟩:=h2 i l[i] (yAa c);rw[h3,yAa c];rfl
 ·rw[yDd (by omega),yDd (by omega)]
  rfl
theorem uH(d:Nat)(r:Rw)(w:W)(x:D)(f:Nat->D)(S:aC)(hv:∀ aH,dr (S++[qq aH]) w=qq x)(hx:∀ a∈r.args.take (aJ r.wd),aP x (nD a)=qq (f a)):cl fns (d+2) 9 [.d r.d,w] S=qq (.d (.tuple ((r.args.take (aJ r.wd)).map f)),S):=by
 have cH:(r.args.take (aJ r.wd)).length<=3:=by have:=aIq r.wd;rw[yBo];omega
 obtain⟨vs,S',e1,hS',hI,hvl,hq⟩:=zH (t:=.one 2) (fi:=lv (aD fns (d+1)) (.it (.call 7 (.cons (.var 0) .nil)))) (fe:=ev (aD fns (d+1)) (.ix (.var 1) (.var 2))) (env:=[qq (.d r.d),qq w,qz]) (S:=S) (S1:=S) nD (λ _ S'=>S'=S) (λ a v=>v=f a) (r.args.take (aJ r.wd)) (by
  simp only[evs,pG d,fG]) (by rw[zj];omega) rfl (by
  intro a ha;refine⟨_,rfl,?_⟩;rintro j S' aH hj hS rfl;refine⟨f a,S',?_,rfl,rfl,rfl⟩;have hd:∀ {k:D->Option (W×aC)},(dr (S'++[qq aH]) w).bind k=k x:=λ {k}=>by rw[hv aH];rfl
  simp only[aAO,uZ,nJ,f2,hJ,gK,clr,Tg.slots,yBy,yEm,yFk,yDw,yBj,yAw,oB,hd];show((aP x (nD a)).bind λ z=>qq (W.d z,S'++[qq aH]))=_
  rw[hx a ha];rfl)
 subst hI;have e2:vs=(r.args.take (aJ r.wd)).map f:=aBL hvl hq;subst e2;have e1':lv (aD fns (d+1)) aEn [qq (.d r.d),qq w,qz] S'=qq ((r.args.take (aJ r.wd)).map f,S'):=e1;rw[aY rfl (d+1) _ S' rfl];simp only[gR1,aEy,e1',kZ,lA]
theorem aJG{l:List Nat}{a:Nat}(h:a<l.length):(l.map nD)[a]? = qq (nD (g0 l a)):=by
 rw[xAb,yAa h];show qq (nD l[a])=qq (nD (l.getD a 0));rw[xAh,yAa h];rfl
theorem aHD(d:Nat)(r:Rw)(l:List Nat)(S:aC)(h:∀ a∈r.args.take (aJ r.wd),a<l.length):cl fns (d+2) 9 [.d r.d,.d (.tuple (l.map nD))] S=qq (.d (.tuple ((bB r l).map nD)),S):=by
 have:=uH d r (.d (.tuple (l.map nD))) (.tuple (l.map nD)) (λ a=>nD (g0 l a)) S (λ _=>rfl) λ a ha=>gN (aJG (h a ha))
 rw[this,bB,yBs];rfl
theorem aEE(d:Nat)(rs:List Rw)(o:D)(hl:rs.length<=1000)(S:aC):cl fns (d+1) 11 [.d (.tuple [.tuple (rs.map Rw.d),o])] S=qq (.d (.tuple ((rs.map (·.w)).map nD)),S):=by
 have i0:aP (.tuple [.tuple (rs.map Rw.d),o]) (.int 0)=qq (.tuple (rs.map Rw.d)):=rfl;have hc:lv (aD fns d) aEv [qq (.d (.tuple [.tuple (rs.map Rw.d),o])),qz] S=qq ((rs.map (·.w)).map nD,S):=by
  rw[yBs];refine uI (fi:=lv (aD fns d) (.it (.ix (.var 0) (.int 0)))) (fe:=ev (aD fns d) (.ix (.var 1) (.int 1))) Rw.d (nD ∘ λ r=>r.w) rs ?_ (by rw[zj];omega) λ r hr=>?_
  ·simp only[gS0,i0,fG]
  ·refine⟨_,rfl,λ S'=>?_⟩
   simp only[gS0,clr,yBy,yEm,gO]
 rw[aY rfl d _ S rfl];simp only[gR1,aE2,hc,kZ,lA]
noncomputable def gZ:List Rw->List Nat->Prop
 | [],is=>is=[]
 | r::rs,is=>if r.wd=.in then ∃ n is',is=n::is'/\n<2^r.w/\gZ rs is' else gZ rs is
def aDq(rs:List Rw):Prop:=∀ (j:Nat) (r:Rw),rs[j]? = qq r->RwOk r (bB r (rs.map (·.w)))/\∀ a∈r.args.take (aJ r.wd),a<j
theorem aHK{W aH:List Nat}(h:∀ (i a w:Nat),aH[i]? = qq a->W[i]? = qq w->a<2^w):∀ (l:List Nat),(∀ a∈l,a<aH.length/\a<W.length)->tB (l.map (g0 W)) (l.map (g0 aH))
 | [],_=>True.intro
 | a::l,hl=>by
   obtain⟨h1,h2⟩:=hl a xAd;refine⟨h a _ _ ?_ ?_,aHK h l λ b hb=>hl b (xAg _ hb)⟩
   ·show aH[a]? = qq (aH.getD a 0);rw[xAh,yAa h1];rfl
   ·show W[a]? = qq (W.getD a 0);rw[xAh,yAa h2];rfl
theorem aSD{r:Rw}{ws ns:List Nat}(h:RwOk r ws)(hl:tB ws ns):iS r ws ns<2^r.w:=by
 have hp:=xAf r.w;cases h with
 | inp=>exact hp
 | num h1 h2 hn=>exact hn
 | nt =>
   obtain⟨x,rfl,hx⟩:=aA7 hl;exact xAj (yGt _ _) (by omega)
 | sh h1 h2 bI hk =>
   obtain⟨x,rfl,hx⟩:=aA7 hl;rcases bI with rfl | rfl | rfl
   ·exact Nat.mod_lt _ hp
   ·exact xAj (Nat.div_le_self _ _) hx
   ·rename_i w a k;show eD x w (w+k)/2^k<2^w;rw[yEe (xAf k),<- yGw];exact tK hx h1 (by omega)
 | cut=>exact Nat.mod_lt _ hp
 | wide h1 hv h2 =>
   obtain⟨x,rfl,hx⟩:=aA7 hl;exact xAc hx (yAq (by decide) hv)
 | sign h1 hv h2 =>
   obtain⟨x,rfl,hx⟩:=aA7 hl;exact tK hx h1 hv
 | bw h1 h2 bI =>
   obtain⟨x,y,rfl,hx,hy⟩:=aJ0 hl;rcases bI with rfl | rfl | rfl
   ·exact xAj yCl hx
   ·exact yBh hx hy
   ·exact yBz hx hy
 | sm h1 h2 =>
   obtain⟨x,y,rfl,hx,hy⟩:=aJ0 hl;rename_i s w a b;cases s
   ·exact oO (((x:Nat):Int)+((y:Nat):Int)) w
   ·exact oO (((x:Nat):Int)-((y:Nat):Int)) w
   ·exact oO (((x:Nat):Int)*((y:Nat):Int)) w
 | cmp h1 h2 bI =>
   have q:∀ b:Bool,b.toNat<2^1:=λ b=>by cases b<;>decide
   rcases bI with rfl | rfl | rfl<;>exact q _
 | pick h1 h2 =>
   obtain⟨z,x,y,rfl,hz,hx,hy⟩:=aWu hl;show(if z=1 then x else y)<_
   split
   ·exact hx
   ·exact hy
noncomputable def dZ:List Rw->List Nat->List Nat->List Nat->List Nat
 | [],_,_,aH=>aH
 | r::rs,W,is,aH=>if r.wd=.in then dZ rs W is.tail (aH++[g0 is 0]) else dZ rs W is (aH++[iS r (bB r W) (bB r aH)])
structure Prg(rs:List Rw):Prop where
 l:rs.length<=100
 fit:aDq rs
 ins:∃ is,gZ rs is
 ws:∀ (j:Nat) (r:Rw),rs[j]? = qq r->1<=r.w/\r.w<=64
theorem rM{l:List Nat}{a:Nat}(h:a<l.length):l[a]? = qq (g0 l a):=by
 show l[a]? = qq (l.getD a 0);rw[xAh,yAa h];rfl
theorem aCg:∀ (rs:List Rw) (W is aH:List Nat),∃ t,dZ rs W is aH=aH++t
 | [],W,is,aH=>⟨[],by simp[dZ]⟩
 | r::rs,W,is,aH=>by
   unfold dZ
   split
   ·obtain⟨t,h⟩:=aCg rs W is.tail (aH++[g0 is 0]);exact⟨[g0 is 0]++t,by rw[h,yCf]⟩
   ·obtain⟨t,h⟩:=aCg rs W is (aH++[iS r (bB r W) (bB r aH)]);exact⟨[iS r (bB r W) (bB r aH)]++t,by rw[h,yCf]⟩
theorem aCm:∀ (rs:List Rw) (W is aH:List Nat) (j:Nat) (r:Rw),rs[j]? = qq r->r.wd≠.in->(dZ rs W is aH)[aH.length+j]? = qq (iS r (bB r W) (bB r ((dZ rs W is aH).take (aH.length+j))))
 | [],W,is,aH,j,r,h,_=>by simp at h
 | q::rs,W,is,aH,0,r,h,hw=>by
   cases h;unfold dZ;rw[if_neg hw];obtain⟨t,ht⟩:=aCg rs W is (aH++[iS q (bB q W) (bB q aH)]);rw[ht,Nat.add_zero,yCf,List.take_left,yAf (yAc _),yBm];rfl
 | q::rs,W,is,aH,j+1,r,h,hw=>by
   have h':rs[j]? = qq r:=by simpa using h
   unfold dZ
   split
   ·have:=aCm rs W is.tail (aH++[g0 is 0]) j r h' hw;rw[xAo,show aH.length+[g0 is 0].length+j=aH.length+(j+1) by simp;omega] at this
    exact this
   ·have:=aCm rs W is (aH++[iS q (bB q W) (bB q aH)]) j r h' hw;rw[xAo,show aH.length+[iS q (bB q W) (bB q aH)].length+j=aH.length+(j+1) by simp;omega] at this
    exact this
theorem aN2{r:Rw}{l:List Nat}{m:Nat}(h:∀ a∈r.args.take (aJ r.wd),a<m):bB r (l.take m)=bB r l:=by
 unfold bB;refine yCh λ a ha=>?_
 show(l.take m).getD a 0=l.getD a 0;rw[xAh,xAh,yDl (h a ha)]
theorem aQQ{rs:List Rw}(hf:aDq rs)(is:List Nat){j:Nat}{r:Rw}(hr:rs[j]? = qq r)(hw:r.wd≠.in):(dZ rs (rs.map (·.w)) is [])[j]? = qq (iS r (bB r (rs.map (·.w))) (bB r (dZ rs (rs.map (·.w)) is []))):=by
 have:=aCm rs (rs.map (·.w)) is [] j r hr hw;rw[yCz,yEb,aN2 (hf j r hr).2] at this;exact this
theorem aB8:∀ (rs:List Rw) (W is aH:List Nat),(dZ rs W is aH).length=aH.length+rs.length
 | [],_,_,_=>rfl
 | r::rs,W,is,aH=>by
   unfold dZ
   split
   ·rw[aB8 rs,xAo];simp;omega
   ·rw[aB8 rs,xAo];simp;omega
theorem aHu{W aH:List Nat}{z w:Nat}(h:∀ (i a w:Nat),aH[i]? = qq a->W[i]? = qq w->a<2^w)(hw:W[aH.length]? = qq w)(hz:z<2^w):∀ (i a w:Nat),(aH++[z])[i]? = qq a->W[i]? = qq w->a<2^w:=λ i a v h1 h2=>by
 by_cases c:i<aH.length
 ·rw[xAn c] at h1;exact h i a v h1 h2
 ·have ci:i=aH.length:=by
   have:=(gIm h1).1;simp at this;omega
  subst ci;rw[yAf (yAc _),yBm] at h1;cases h1;rw[hw] at h2;cases h2;exact hz
theorem aCn{rs0:List Rw}(hf:aDq rs0):∀ (rs:List Rw) (is aH:List Nat),rs=rs0.drop aH.length->gZ rs is->(∀ (i a w:Nat),aH[i]? = qq a->(rs0.map (·.w))[i]? = qq w->a<2^w)->∀ (i a w:Nat),(dZ rs (rs0.map (·.w)) is aH)[i]? = qq a->(rs0.map (·.w))[i]? = qq w->a<2^w
 | [],is,aH,_,_,hb=>hb
 | r::rs,is,aH,hd,hi,hb=>by
   have hr:rs0[aH.length]? = qq r:=by
    have:=congrArg (λ l=>l[0]?) hd
    simp only[yAw,List.getElem?_drop,Nat.add_zero] at this;exact this.symm
   have hd':∀ z:Nat,rs=rs0.drop (aH++[z]).length:=λ z=>by
    rw[xAo,List.length_singleton];have:=congrArg List.tail hd;rw[List.tail_drop] at this;exact this
   have hw:(rs0.map (·.w))[aH.length]? = qq r.w:=by rw[xAb,hr];rfl
   have hj:aH.length<rs0.length:=(gIm hr).1;unfold dZ
   split
   ·rename_i c;rw[gZ,if_pos c] at hi;obtain⟨n,is',rfl,hn,hi'⟩:=hi;exact aCn hf rs is' (aH++[n]) (hd' n) hi' (aHu hb hw hn)
   ·rename_i c;rw[gZ,if_neg c] at hi;obtain⟨f1,f2⟩:=hf _ r hr;have lt:=aHK hb (r.args.take (aJ r.wd)) λ a ha=>⟨f2 a ha,by have:=f2 a ha;rw[yAb];omega⟩
    exact aCn hf rs is _ (hd' _) hi (aHu hb hw (aSD f1 lt))
theorem aCD{rs:List Rw}(p:Prg rs){is:List Nat}(hi:gZ rs is):(dZ rs (rs.map (·.w)) is []).length=rs.length:=by
 rw[aB8];simp
theorem aIr{rs:List Rw}(p:Prg rs){is:List Nat}(hi:gZ rs is){i a w:Nat}(h1:(dZ rs (rs.map (·.w)) is [])[i]? = qq a)(h2:(rs.map (·.w))[i]? = qq w):a<2^w:=aCn p.fit rs is [] rfl hi (λ i a w h=>by simp at h) i a w h1 h2
theorem aNd{n w:Nat}(hn:n<2^w):(2^w-1)^^^n=2^w-1-n:=by
 rw[Nat.xor_comm];exact aO6 hn
noncomputable def sZ(n w:Nat):Ft:=⟨2^w-1-n,n,1⟩
theorem aJI{n w:Nat}(hn:n<2^w)(hw:1<=w):FtOk (sZ n w) w:=⟨by show 2^w-1-n<2^w;have:=xAf w;omega,hn,yAc 1,hw⟩
theorem aP1{n w:Nat}(hn:n<2^w):Hd (sZ n w) n w:=by
 refine⟨λ i hi=>?_,λ i hi=>hi,kX _ _⟩
 have hi':(2^w-1-n).testBit i=true:=hi
 by_cases c:i<w
 ·rw[aAj hn c] at hi';simpa using hi'
 ·exact cX hn (by omega)
theorem aHL{w:Nat}(hw:1<=w):gJ jG w=jG:=by
 have u:cU 0 1 w=0:=by
  unfold cU;rw[Nat.zero_and,if_pos rfl]
 have t:tr 0 w=0:=by
  unfold tr;rw[Nat.zero_xor];have:bl (2^w-1)=w:=aFj (uV w) (.inr (by rw[eK,dqT (by omega)]))
  omega
 show Ft.mk (cU 0 1 w) (cU 0 1 w) (wF 1 (tr (cU 0 1 w) w) (tr (cU 0 1 w) w))=⟨0,0,1⟩;rw[u,t];rfl
theorem aM4(d n w:Nat)(hn:n<2^w)(cW:1<=w)(hw:w<=64)(S:aC):cl fns (d+4) 47 [.d (.tuple [.str "num",.int w,.int n]),.d (.tuple []),.d (.tuple [])] S=qq (.d (gJ (sZ n w) w).d,S):=by
 have nf:cl fns (d+2) 33 [.d (.int w),.d (.int n)] S=qq (.d (sZ n w).d,S):=by
  rw[aY rfl (d+1) _ S rfl];have hq49:=dH d w (by omega)
  simp only[gR1,aFE,hq49,mD,aNd hn]
 have i2:aP (.tuple [.str "num",.int w,.int n]) (.int 2)=qq (.int n):=rfl;refine aCv d _ _ _ S w (sZ n w) rfl ?_ (aJI hn cW) hw;have t1:=nA (aD fns (d+2)) (.tuple [.str "num",.int w,.int n]) (.tuple []) (.tuple []) (w:Nat) S .num;have t2:=oG (aD fns (d+2)) (.tuple [.str "num",.int w,.int n]) (.tuple []) (.tuple []) (w:Nat) S .num;refine dO (S1:=S) rfl (d+2) rfl rfl yAh (cI (S1:=S) (w:=.d (.str Wd.num.s)) (fK rfl rfl) rfl (cI (S1:=S) (w:=.d (.int w)) (fK rfl rfl) rfl (bC t1 (cE t2 (bO ?_)))));simp only[gS0,i2,nf]
theorem aPB(d w:Nat)(cW:1<=w)(hw:w<=64)(S:aC):cl fns (d+4) 47 [.d (.tuple [.str "in",.int w]),.d (.tuple []),.d (.tuple [])] S=qq (.d jG.d,S):=by
 have t1:=nA (aD fns (d+2)) (.tuple [.str "in",.int w]) (.tuple []) (.tuple []) (w:Nat) S .in;have hk:FtOk jG w:=⟨xAf w,xAf w,yAc 1,cW⟩;have r:=aCv d (.tuple [.str "in",.int w]) (.tuple []) (.tuple []) S w jG rfl (dO (S1:=S) rfl (d+2) rfl rfl yAh (cI (S1:=S) (w:=.d (.str Wd.in.s)) (fK rfl rfl) rfl (cI (S1:=S) (w:=.d (.int w)) (fK rfl rfl) rfl (cE t1 (bO rfl))))) hk hw;rw[aHL cW] at r;exact r
noncomputable def qN:List Ft->List Nat->List Nat->Prop
 | f::Fs,w::ws,n::ns=>(n<2^w/\Hd f n w)/\qN Fs ws ns
 | [],[],[]=>True
 | _,_,_=>False
noncomputable def sO:List Ft->List Nat->Prop
 | f::Fs,w::ws=>Op f w/\sO Fs ws
 | [],[]=>True
 | _,_=>False
structure RG(r:Rw)(ws:List Nat)(Fs:List Ft):Prop where
 g:∃ g:Ft,FtOk g r.w/\(∀ d S,cl fns (d+7) 47 [.d r.d,.d (.tuple (ws.map nD)),.d (.tuple (Fs.map Ft.d))] S=qq (.d (gJ g r.w).d,S))/\(∀ ns,qN Fs ws ns->r.wd≠.in->Hd g (iS r ws ns) r.w)/\(r.wd=.in->∀ z,Hd g z r.w)
theorem wC{w:Nat}{Fs:List Ft}(h:sO Fs [w]):∃ f,Fs=[f]/\Op f w:=by
 rcases Fs with _ | ⟨a,_ | ⟨b,r⟩⟩
 ·exact h.elim
 ·exact⟨a,rfl,h.1⟩
 ·exact h.2.elim
theorem aDz{w v:Nat}{Fs:List Ft}(h:sO Fs [w,v]):∃ f g,Fs=[f,g]/\Op f w/\Op g v:=by
 rcases Fs with _ | ⟨a,_ | ⟨b,_ | ⟨c,r⟩⟩⟩
 ·exact h.elim
 ·exact h.2.elim
 ·exact⟨a,b,rfl,h.1,h.2.1⟩
 ·exact h.2.2.elim
theorem aVm{w v u:Nat}{Fs:List Ft}(h:sO Fs [w,v,u]):∃ f g k,Fs=[f,g,k]/\Op f w/\Op g v/\Op k u:=by
 rcases Fs with _ | ⟨a,_ | ⟨b,_ | ⟨c,_ | ⟨e,r⟩⟩⟩⟩
 ·exact h.elim
 ·exact h.2.elim
 ·exact h.2.2.elim
 ·exact⟨a,b,c,rfl,h.1,h.2.1,h.2.2.1⟩
 ·exact h.2.2.2.elim
theorem vW{f:Ft}{w:Nat}{ns:List Nat}(h:qN [f] [w] ns):∃ a,ns=[a]/\a<2^w/\Hd f a w:=by
 rcases ns with _ | ⟨a,_ | ⟨b,r⟩⟩
 ·exact h.elim
 ·exact⟨a,rfl,h.1⟩
 ·exact h.2.elim
theorem aDy{f g:Ft}{w v:Nat}{ns:List Nat}(h:qN [f,g] [w,v] ns):∃ a b,ns=[a,b]/\(a<2^w/\Hd f a w)/\b<2^v/\Hd g b v:=by
 rcases ns with _ | ⟨a,_ | ⟨b,_ | ⟨c,r⟩⟩⟩
 ·exact h.elim
 ·exact h.2.elim
 ·exact⟨a,b,rfl,h.1,h.2.1⟩
 ·exact h.2.2.elim
theorem aV6{f g k:Ft}{w v u:Nat}{ns:List Nat}(h:qN [f,g,k] [w,v,u] ns):∃ a b c,ns=[a,b,c]/\(a<2^w/\Hd f a w)/\(b<2^v/\Hd g b v)/\c<2^u/\Hd k c u:=by
 rcases ns with _ | ⟨a,_ | ⟨b,_ | ⟨c,_ | ⟨e,r⟩⟩⟩⟩
 ·exact h.elim
 ·exact h.2.elim
 ·exact h.2.2.elim
 ·exact⟨a,b,c,rfl,h.1,h.2.1,h.2.2.1⟩
 ·exact h.2.2.2.elim
theorem mL{r:Rw}{ws:List Nat}{Fs:List Ft}(hi:r.wd≠.in)(h2:r.w<=64)(g:Ft)(hg:FtOk g r.w)(ho:∀ d S,cl fns (d+6) 46 [.d r.d,.d (.tuple (ws.map nD)),.d (.tuple (Fs.map Ft.d))] S=qq (.d g.d,S))(hh:∀ ns,qN Fs ws ns->Hd g (iS r ws ns) r.w):RG r ws Fs:=
 ⟨g,hg,λ d S=>aCv (d+3) _ _ _ S r.w g (gO r) (ho d S) hg h2,λ ns h _=>hh ns h,λ h=>absurd h hi⟩
theorem aRR{f:Ft}{w a:Nat}(o:Op f w):RG ⟨.not,w,[a]⟩ [w] [f]:=
 mL (λ h=>nomatch h) o.w2 ⟨f.O,f.N,f.A⟩ ⟨o.ok.lO,o.ok.lN,o.ok.a1,o.ok.aw⟩ (λ d S=>aM6 (d+5) _ _ _ (w:Nat) S f rfl rfl rfl) λ ns h=>by
  obtain⟨x,rfl,hx,hf⟩:=vW h;exact aM5 o.ok o.dj hx hf
theorem aTV{wd:Wd}(h:wd=.left\/wd=.right\/wd=.slide):wd≠.in:=by rcases h with rfl | rfl | rfl<;>decide
theorem aUt{wd:Wd}(h:wd=.and\/wd=.or\/wd=.xor):wd≠.in:=by rcases h with rfl | rfl | rfl<;>decide
theorem aTY{wd:Wd}(h:wd=.same\/wd=.less\/wd=.under):wd≠.in:=by rcases h with rfl | rfl | rfl<;>decide
theorem aVb(s:Sw):s.wd≠.in:=by cases s<;>decide
theorem aTA{f:Ft}{w a k:Nat}(wd:Wd)(bI:wd=.left\/wd=.right\/wd=.slide)(hk:k<64)(o:Op f w):RG ⟨wd,w,[a,k]⟩ [w] [f]:=by
 refine mL (aTV bI) o.w2 (shN wd w f k) ?_ (λ d S=>aL7 (d+5) _ _ _ (w:Nat) S wd bI f k _ rfl rfl rfl rfl (aNN (d+1) wd bI w f k o.ok o.w1 o.w2 (by omega) S)) λ ns h=>?_
 ·rcases bI with rfl | rfl | rfl
  ·exact aPL o.ok o.dj o.w1 k
  ·exact aNC o.ok o.dj o.w1 k
  ·exact aM8 o.ok o.dj o.w1 k
 ·obtain⟨x,rfl,hx,hf⟩:=vW h;rcases bI with rfl | rfl | rfl
  ·exact aMI o.ok o.dj hx hf k
  ·exact aL1 o.ok o.dj hx hf k
  ·exact aLI o.ok o.dj hx hf o.w1 k
theorem aRo{f:Ft}{w v a:Nat}(h1:1<=w)(hv:w<=v)(o:Op f v):RG ⟨.cut,w,[a]⟩ [v] [f]:=
 mL (λ h=>nomatch h) (xAi hv o.w2) (vZ v w f) (aRx o.ok o.dj o.w1 h1 hv) (λ d S=>aB3 (d+5) _ _ _ (w:Nat) S .cut (.inl rfl) f (v:Nat) _ rfl rfl rfl rfl (aSd (d+3) v w f hv (xAi hv o.w2) S)) λ ns h=>by
  obtain⟨x,rfl,hx,hf⟩:=vW h;exact aNz o.ok o.dj hx hf hv
theorem aP4{f:Ft}{w v a:Nat}(hv:v<=w)(h2:w<=64)(o:Op f v):RG ⟨.wide,w,[a]⟩ [v] [f]:=
 mL (λ h=>nomatch h) h2 (mS v w f) (aPd o.ok o.dj o.w1 hv) (λ d S=>aB3 (d+5) _ _ _ (w:Nat) S .wide (.inr (.inl rfl)) f (v:Nat) _ rfl rfl rfl rfl (aPa (d+2) v w f hv h2 S)) λ ns h=>by
  obtain⟨x,rfl,hx,hf⟩:=vW h;exact aMS o.ok o.dj hx hf hv
theorem aOq{f:Ft}{w v a:Nat}(hv:v<=w)(h2:w<=64)(o:Op f v):RG ⟨.sign,w,[a]⟩ [v] [f]:=
 mL (λ h=>nomatch h) h2 (vV v w f) (aOR o.ok o.dj o.w1 hv) (λ d S=>aB3 (d+5) _ _ _ (w:Nat) S .sign (.inr (.inr rfl)) f (v:Nat) _ rfl rfl rfl rfl (aPZ (d+2) v w f o.w1 hv h2 S)) λ ns h=>by
  obtain⟨x,rfl,hx,hf⟩:=vW h;exact aMX o.ok o.dj hx hf o.w1 hv
theorem aT5{f g:Ft}{w a b:Nat}(wd:Wd)(bI:wd=.and\/wd=.or\/wd=.xor)(o:Op f w)(o':Op g w):RG ⟨wd,w,[a,b]⟩ [w,w] [f,g]:=by
 obtain⟨n,hb',eb,ej⟩:∃ n,(n=0\/n=1\/n=2)/\bwN wd f g=sY n f g/\∀ x y:Nat,iS ⟨wd,w,[a,b]⟩ [w,w] [x,y]=bwv n x y:=by
  rcases bI with rfl | rfl | rfl
  ·exact⟨0,.inl rfl,rfl,λ x y=>rfl⟩
  ·exact⟨1,.inr (.inl rfl),rfl,λ x y=>rfl⟩
  ·exact⟨2,.inr (.inr rfl),rfl,λ x y=>rfl⟩
 refine mL (aUt bI) o.w2 (sY n f g) (aTZ hb' o.ok o.dj o'.ok o'.dj) (λ d S=>?_) λ ns h=>?_
 ·have q:=aO1 (d+3) (Rw.mk wd w [a,b]).d (.tuple [nD w,nD w]) (.tuple [f.d,g.d]) (w:Nat) S wd bI f g rfl rfl rfl rfl;rw[eb] at q;exact q
 ·obtain⟨x,y,rfl,⟨hx,h1⟩,hy,h2⟩:=aDy h;rw[ej];exact aPC hb' o.ok o.dj h1 o'.ok o'.dj h2
theorem aUS{f g:Ft}{w a b:Nat}(s:Sw)(o:Op f w)(o':Op g w):RG ⟨s.wd,w,[a,b]⟩ [w,w] [f,g]:=by
 obtain⟨p,hp,h⟩:=o.ho;obtain⟨q,hq,h'⟩:=o'.ho;refine mL (aVb s) o.w2 (vY s w f g) (aSi s o.ok o'.ok hp hq h h') (λ d S=>aOb d _ _ _ w S s f g rfl rfl rfl rfl o.ok o'.ok (aUN s w f g o.ok o'.ok hp hq h h') o.w2) λ ns hn=>?_
 obtain⟨x,y,rfl,⟨hx,h1⟩,hy,h2⟩:=aDy hn;have e:iS ⟨s.wd,w,[a,b]⟩ [w,w] [x,y]=rs (s.oc (x:Nat) (y:Nat)) w:=by cases s<;>rfl
 rw[e];exact aNa s o.ok o'.ok hx hy h1 h2
theorem aRz{f g:Ft}{v a b:Nat}(wd:Wd)(bI:wd=.same\/wd=.less\/wd=.under)(o:Op f v)(o':Op g v):RG ⟨wd,1,[a,b]⟩ [v,v] [f,g]:=by
 have hk:FtOk (oX wd v f g) 1:=by rcases aSK wd v f g with h | h | h<;>rw[h]<;>exact⟨by decide,by decide,by decide,by decide⟩
 refine mL (aTY bI) (show 1<=64 by omega) (oX wd v f g) hk (λ d S=>aMZ (d+1) _ _ _ ((1:Nat):Int) S wd bI v f g rfl rfl rfl rfl rfl ⟨o.ok,o.dj⟩ ⟨o'.ok,o'.dj⟩ o.w1 o.w2) λ ns hn=>?_
 obtain⟨x,y,rfl,⟨hx,h1⟩,hy,h2⟩:=aDy hn;rcases bI with rfl | rfl | rfl
 ·exact aMt o.ok hx hy h1 h2
 ·exact aMd o.ok o'.ok hx hy h1 h2
 ·exact aLR o.ok o'.ok o.dj o'.dj o.w1 hx hy h1 h2
theorem aPK{t f g:Ft}{w c a b:Nat}(ot:Op t 1)(o:Op f w)(o':Op g w):RG ⟨.pick,w,[c,a,b]⟩ [1,w,w] [t,f,g]:=
 mL (λ h=>nomatch h) o.w2 (oY t f g) (aSX o.ok o'.ok) (λ d S=>aLQ (d+4) _ _ _ (w:Nat) S t f g rfl rfl rfl rfl rfl) λ ns hn=>by
  obtain⟨z,x,y,rfl,⟨hz,h0⟩,⟨hx,h1⟩,hy,h2⟩:=aV6 hn;exact aMk h0 hz h1 h2
theorem aRr{w n:Nat}(h1:1<=w)(h2:w<=64)(hn:n<2^w):RG ⟨.num,w,[n]⟩ [] []:=
 ⟨sZ n w,aJI hn h1,λ d S=>aM4 (d+3) n w hn h1 h2 S,λ ns _ _=>aP1 hn,λ h=>nomatch h⟩
theorem aTq{w:Nat}(h1:1<=w)(h2:w<=64):RG ⟨.in,w,[]⟩ [] []:=by
 refine⟨jG,⟨xAf w,xAf w,yAc 1,h1⟩,λ d S=>?_,λ ns _ h=>absurd rfl h,λ _ z=>⟨λ i h=>rG h,λ i h=>rG h,kX _ _⟩⟩
 have:=aPB (d+3) w h1 h2 S;rw[aHL h1];exact this
theorem rg{r:Rw}{ws:List Nat}(h:RwOk r ws){Fs:List Ft}(o:sO Fs ws):RG r ws Fs:=by
 cases h with
 | inp h1 h2 =>
   rcases Fs with _ | ⟨f,Fs⟩
   ·exact aTq h1 h2
   ·exact o.elim
 | num h1 h2 hn =>
   rcases Fs with _ | ⟨f,Fs⟩
   ·exact aRr h1 h2 hn
   ·exact o.elim
 | nt h1 h2 =>
   obtain⟨f,rfl,o1⟩:=wC o;exact aRR o1
 | sh h1 h2 bI hk =>
   obtain⟨f,rfl,o1⟩:=wC o;exact aTA _ bI hk o1
 | cut h1 hv h2 =>
   obtain⟨f,rfl,o1⟩:=wC o;exact aRo h1 hv o1
 | wide h1 hv h2 =>
   obtain⟨f,rfl,o1⟩:=wC o;exact aP4 hv h2 o1
 | sign h1 hv h2 =>
   obtain⟨f,rfl,o1⟩:=wC o;exact aOq hv h2 o1
 | bw h1 h2 bI =>
   obtain⟨f,g,rfl,o1,o2⟩:=aDz o;exact aT5 _ bI o1 o2
 | sm h1 h2 =>
   obtain⟨f,g,rfl,o1,o2⟩:=aDz o;exact aUS _ o1 o2
 | cmp h1 h2 bI =>
   obtain⟨f,g,rfl,o1,o2⟩:=aDz o;exact aRz _ bI o1 o2
 | pick h1 h2 =>
   obtain⟨t,f,g,rfl,ot,o1,o2⟩:=aVm o;exact aPK ot o1 o2
noncomputable def f0(F:List Ft)(a:Nat):Ft:=F.getD a ⟨0,0,1⟩
noncomputable def bN(r:Rw)(F:List Ft):List Ft:=(r.args.take (aJ r.wd)).map (f0 F)
structure Snd(rs:List Rw)(F:List Ft):Prop where
 ok:∀ (i:Nat) (f:Ft) (w:Nat),F[i]? = qq f->(rs.map (·.w))[i]? = qq w->FtOk f w
 hold:∀ is,gZ rs is->∀ (i:Nat) (f:Ft) (w n:Nat),F[i]? = qq f->(rs.map (·.w))[i]? = qq w->(dZ rs (rs.map (·.w)) is [])[i]? = qq n->Hd f n w
theorem pT{F:List Ft}{a:Nat}(h:a<F.length):F[a]? = qq (f0 F a):=by
 show F[a]? = qq (F.getD a ⟨0,0,1⟩);rw[xAh,yAa h];rfl
theorem aOz{rs:List Rw}(p:Prg rs){a w:Nat}(h:(rs.map (·.w))[a]? = qq w):1<=w/\w<=64:=by
 rw[xAb] at h;obtain⟨r,hr,rfl⟩:=Option.map_eq_some_iff.mp h;exact p.ws a r hr
theorem aHc{rs:List Rw}(p:Prg rs){F:List Ft}(s:Snd rs F):∀ (l:List Nat),(∀ a∈l,a<F.length/\a<rs.length)->sO (l.map (f0 F)) (l.map (g0 (rs.map (·.w))))
 | [],_=>True.intro
 | a::l,h=>by
   obtain⟨h1,h2⟩:=h a xAd;have hw:=rM (l:=rs.map (·.w)) (a:=a) (by rw[yAb];exact h2)
   have hf:=pT h1;obtain⟨is,hi⟩:=p.ins;have hn:=rM (l:=dZ rs (rs.map (·.w)) is []) (a:=a) (by rw[aCD p hi];exact h2)
   obtain⟨w1,w2⟩:=aOz p hw;exact⟨⟨s.ok a _ _ hf hw,⟨_,aIr p hi hn hw,s.hold is hi a _ _ _ hf hw hn⟩,w1,w2⟩,aHc p s l λ b hb=>h b (xAg _ hb)⟩
theorem aIf{rs:List Rw}(p:Prg rs){F:List Ft}(s:Snd rs F){is:List Nat}(hi:gZ rs is):∀ (l:List Nat),(∀ a∈l,a<F.length/\a<rs.length)->qN (l.map (f0 F)) (l.map (g0 (rs.map (·.w)))) (l.map (g0 (dZ rs (rs.map (·.w)) is [])))
 | [],_=>True.intro
 | a::l,h=>by
   obtain⟨h1,h2⟩:=h a xAd;have hw:=rM (l:=rs.map (·.w)) (a:=a) (by rw[yAb];exact h2)
   have hf:=pT h1;have hn:=rM (l:=dZ rs (rs.map (·.w)) is []) (a:=a) (by rw[aCD p hi];exact h2)
   exact⟨⟨aIr p hi hn hw,s.hold is hi a _ _ _ hf hw hn⟩,aIf p s hi l λ b hb=>h b (xAg _ hb)⟩
structure Nx(rs:List Rw)(F:List Ft)(j:Nat)(r:Rw)(g:Ft):Prop where
 ok:FtOk g r.w
 rule:∀ d S,cl fns (d+7) 47 [.d r.d,.d (.tuple ((bB r (rs.map (·.w))).map nD)),.d (.tuple ((bN r F).map Ft.d))] S=qq (.d g.d,S)
 hold:∀ is,gZ rs is->∀ n,(dZ rs (rs.map (·.w)) is [])[j]? = qq n->Hd g n r.w
theorem aMT{rs:List Rw}(p:Prg rs){F:List Ft}(s:Snd rs F){j:Nat}{r:Rw}(hr:rs[j]? = qq r)(hF:j<=F.length):∃ g,Nx rs F j r g:=by
 obtain⟨f1,f2⟩:=p.fit j r hr;have hj:j<rs.length:=(gIm hr).1;have hb:∀ a∈r.args.take (aJ r.wd),a<F.length/\a<rs.length:=λ a ha=>by have:=f2 a ha;omega
 obtain⟨g,gk,rl,h1,h2⟩:=(rg f1 (aHc p s _ hb)).g;refine⟨gJ g r.w,aTd gk,rl,λ is hi n hn=>(aNy gk).mpr ?_⟩
 by_cases c:r.wd=.in
 ·exact h2 c n
 ·have e:=aQQ p.fit is hr c;rw[hn] at e;cases e;exact h1 _ (aIf p s hi _ hb) c
theorem aNo{rs:List Rw}{F:List Ft}(s:Snd rs F){r:Rw}{g f:Ft}(hr:rs[F.length]? = qq r)(nx:Nx rs F F.length r g)(fk:FtOk f r.w)(hN:∀ i,f.N.testBit i=true->g.N.testBit i=true)(hO:∀ i,f.O.testBit i=true->g.O.testBit i=true)(hA:f.A<=g.A):Snd rs (F++[f]):=by
 have last:∀ {i:Nat}{x:Ft},(F++[f])[i]? = qq x->F[i]? = qq x\/(i=F.length/\x=f):=λ {i x} h=>by
  by_cases c:i<F.length
  ·rw[xAn c] at h;exact .inl h
  ·have hl:=(gIm h).1;simp at hl;have:i=F.length:=by omega
   subst this;rw[yAf (yAc _),yBm] at h;cases h;exact .inr ⟨rfl,rfl⟩
 have hw:(rs.map (·.w))[F.length]? = qq r.w:=by rw[xAb,hr];rfl
 refine⟨λ i x w h1 h2=>?_,λ is hi i x w n h1 h2 h3=>?_⟩
 ·rcases last h1 with h | ⟨rfl,rfl⟩
  ·exact s.ok i x w h h2
  ·rw[hw] at h2;cases h2;exact fk
 ·rcases last h1 with h | ⟨rfl,rfl⟩
  ·exact s.hold is hi i x w n h h2 h3
  ·rw[hw] at h2;cases h2;have q:=nx.hold is hi n h3;exact⟨λ i hi=>q.1 i (hN i hi),λ i hi=>q.2.1 i (hO i hi),rL hA q.2.2⟩
theorem aO0(rs:List Rw):Snd rs []:=⟨λ i f w h=>by simp at h,λ is hi i f w n h=>by simp at h⟩
theorem aOy(d:Nat)(r:Rw)(F:List Ft)(S0:aC)(h:∀ a∈r.args.take (aJ r.wd),a<F.length):cl fns (d+2) 9 [.d r.d,.loc S0.length] (S0++[qq (F.map Ft.d)])=qq (.d (.tuple ((bN r F).map Ft.d)),S0++[qq (F.map Ft.d)]):=by
 have:=uH d r (.loc S0.length) (.list (F.map Ft.d)) (λ a=>(f0 F a).d) (S0++[qq (F.map Ft.d)]) (λ aH=>by
  show(match (S0++[qq (F.map Ft.d)]++[qq aH])[S0.length]? with | some (qq ds)=>qq (yHl ds) | _=>qz)=_
  rw[yCf,yAf (yAc _),yBm];rfl) λ a ha=>iW (by rw[xAb,pT (h a ha)];rfl)
 rw[this,bN,yBs];rfl
theorem aNV{r:Rw}{F:List Ft}{f:Ft}(h:∀ a∈r.args.take (aJ r.wd),a<F.length):bN r (F++[f])=bN r F:=by
 unfold bN;refine yCh λ a ha=>?_
 show(F++[f]).getD a ⟨0,0,1⟩=F.getD a ⟨0,0,1⟩;rw[xAh,xAh,xAn (h a ha)]
theorem aRG{F:List Ft}{f:Ft}{a:Nat}(h:a<F.length):f0 (F++[f]) a=f0 F a:=by
 show(F++[f]).getD a ⟨0,0,1⟩=F.getD a ⟨0,0,1⟩;rw[xAh,xAh,xAn h]
theorem aRh(F:List Ft)(f:Ft):f0 (F++[f]) F.length=f:=by
 show(F++[f]).getD F.length ⟨0,0,1⟩=f;rw[xAh,yAf (yAc _),yBm];rfl
def Own(rs:List Rw)(F:List Ft):Prop:=∀ (i:Nat) (r:Rw),i<F.length->rs[i]? = qq r->∃ g,g=f0 F i/\Nx rs F i r g
theorem aGW{rs:List Rw}(p:Prg rs){F:List Ft}{f:Ft}{i:Nat}{r:Rw}{g:Ft}(hi:i<=F.length)(hr:rs[i]? = qq r)(nx:Nx rs F i r g):Nx rs (F++[f]) i r g:=by
 refine⟨nx.ok,?_,nx.hold⟩;rw[aNV λ a ha=>by have:=(p.fit i r hr).2 a ha;omega]
 exact nx.rule
theorem aNt{rs:List Rw}(p:Prg rs){F:List Ft}(h:Own rs F){r:Rw}{g:Ft}(hr:rs[F.length]? = qq r)(nx:Nx rs F F.length r g):Own rs (F++[g]):=λ i q hi hq=>by
 by_cases c:i<F.length
 ·obtain⟨g',rfl,h1⟩:=h i q c hq;exact⟨_,(aRG c).symm,aGW p (by omega) hq h1⟩
 ·have ci:i=F.length:=by simp at hi;omega
  subst ci;rw[hr] at hq;cases hq;exact⟨g,(aRh F g).symm,aGW p (yAc _) hr nx⟩
theorem aLw(d:Nat)(rs:List Rw)(o:D)(p:Prg rs)(S:aC):∃ F:List Ft,F.length=rs.length/\Snd rs F/\Own rs F/\cl fns (d+9) 48 [.d (.tuple [.tuple (rs.map Rw.d),o])] S=qq (.d (.tuple (F.map Ft.d)),S):=by
 have i0:aP (.tuple [.tuple (rs.map Rw.d),o]) (.int 0)=qq (.tuple (rs.map Rw.d)):=rfl;have pl:=p.l;obtain⟨aN,S',p1,F,c3,rfl,rfl,fl,fs,fo⟩:=pQ (t:=.one 3) (fi:=lv (aD fns (d+8)) xX) (fb:=xs (aD fns (d+8)) xW) (env:=[qq (.d (.tuple [.tuple (rs.map Rw.d),o])),qq (.d (.tuple ((rs.map (·.w)).map nD))),qq (.loc S.length),qz]) (S:=S++[qq []]) (S1:=S++[qq []]) (ds:=rs.map Rw.d)
  (λ j env S'=>∃ (F:List Ft) (c3:Option W),env=[qq (.d (.tuple [.tuple (rs.map Rw.d),o])),qq (.d (.tuple ((rs.map (·.w)).map nD))),qq (.loc S.length),c3]/\S'=S++[qq (F.map Ft.d)]/\F.length=j/\Snd rs F/\Own rs F)
  (by
    simp only[evs,xX,i0,fG]) ⟨[],qz,rfl,rfl,rfl,aO0 rs,λ i r hi=>absurd hi (yFh i)⟩ (by
    rintro j dd env S' hd ⟨F,c3,rfl,rfl,fl,fs,fo⟩;rw[xAb] at hd;obtain⟨r,hr,rfl⟩:=Option.map_eq_some_iff.mp hd;subst fl;obtain⟨f1,f2⟩:=p.fit _ r hr;have hj:F.length<rs.length:=(gIm hr).1;have hWl:(rs.map (·.w)).length=rs.length:=yAb ..;obtain⟨g,nx⟩:=aMT p fs hr (yAc _);have o1:=aHD (d+6) r (rs.map (·.w)) (S++[qq (F.map Ft.d)]) λ a ha=>by have:=f2 a ha;omega
    have o2:=aOy (d+6) r F S λ a ha=>f2 a ha
    have rl:=nx.rule (d+1) (S++[qq (F.map Ft.d)]);have ap:eI (S++[qq (F.map Ft.d)]) (.loc S.length) (.d g.d)=qq (.d .none,S++[qq ((F++[g]).map Ft.d)]):=by
     rw[aNh S (F.map Ft.d) _ (by rw[yAb];omega),yBa]
     rfl
    refine⟨_,[qq (.d (.tuple [.tuple (rs.map Rw.d),o])),qq (.d (.tuple ((rs.map (·.w)).map nD))),qq (.loc S.length),qq (.d r.d)],S++[qq ((F++[g]).map Ft.d)],rfl,?_,F++[g],_,rfl,rfl,by simp,aNo fs hr nx nx.ok (λ i h=>h) (λ i h=>h) (yAc _),aNt p fo hr nx⟩
    simp only[evs,xW,o1,o2,rl,jZ,ap])
 rw[yAb] at fl;refine⟨F,fl,fs,fo,?_⟩;have p1':dC (.one 3) (lv (aD fns (d+8)) xX) (xs (aD fns (d+8)) xW) [qq (.d (.tuple [.tuple (rs.map Rw.d),o])),qq (.d (.tuple ((rs.map (·.w)).map nD))),qq (.loc S.length),qz] (S++[qq []])=qq (.nx [qq (.d (.tuple [.tuple (rs.map Rw.d),o])),qq (.d (.tuple ((rs.map (·.w)).map nD))),qq (.loc S.length),c3],S++[qq (F.map Ft.d)]):=p1;have tk1:∀ x,yEk S.length (S++[x])=S:=λ x=>List.take_left
 rw[aY rfl (d+8) _ S rfl];have hq50:=aEE (d+7) rs o (by omega)
 simp only[gR1,aFk,hq50,iO,p1',uA,kZ,lA,tk1]
theorem aBU:∀ (rs:List Rw) (ws:List Nat),eG ws rs->∀ (j:Nat) (r:Rw),rs[j]? = qq r->fB (ws++(rs.take j).map (·.w)) r
 | [],_,_,j,r,h=>by simp at h
 | q::rs,ws,⟨h1,h2⟩,0,r,h=>by
   cases h;simpa using h1
 | q::rs,ws,⟨h1,h2⟩,j+1,r,h=>by
   have:=aBU rs (ws++[q.w]) h2 j r (by simpa using h)
   simpa using this
theorem aKi{a n:Nat}(h:a<n):∀ x∈[a],x<n:=λ x hx=>by
 rw[List.mem_singleton.mp hx];exact h
theorem aKn{a b n:Nat}(h:a<n)(h':b<n):∀ x∈[a,b],x<n:=λ x hx=>by
 rcases List.mem_cons.mp hx with rfl | hx
 ·exact h
 ·exact aKi h' x hx
theorem aWb{a b c n:Nat}(h:a<n)(h':b<n)(h'':c<n):∀ x∈[a,b,c],x<n:=λ x hx=>by
 rcases List.mem_cons.mp hx with rfl | hx
 ·exact h
 ·exact aKn h' h'' x hx
theorem aJ3{n:Nat}:∀ x∈([]:List Nat),x<n:=λ x hx=>by simp at hx
section
variable {ws W : List Nat}{n : Nat}(hw : ∀ a v, ws[a]? = qq v -> g0 W a = v /\ 1 <= v /\ v <= 64 /\ a<n)
include hw
theorem pU{wd:Wd}{w a v:Nat}{args:List Nat}(e:(args.take (aJ wd))=[a])(h:ws[a]? = qq v)(k:RwOk ⟨wd,w,args⟩ [v]):RwOk ⟨wd,w,args⟩ (bB ⟨wd,w,args⟩ W)/\∀ x∈args.take (aJ wd),x<n:=by
 obtain⟨e1,_,_,e4⟩:=hw a v h;have:bB ⟨wd,w,args⟩ W=[v]:=by
  show(args.take (aJ wd)).map (g0 W)=[v];rw[e,yBb,yGi,e1]
 rw[this,e];exact⟨k,aKi e4⟩
theorem pV{wd:Wd}{w a b v u:Nat}{args:List Nat}(e:(args.take (aJ wd))=[a,b])(h:ws[a]? = qq v)(h':ws[b]? = qq u)(k:RwOk ⟨wd,w,args⟩ [v,u]):RwOk ⟨wd,w,args⟩ (bB ⟨wd,w,args⟩ W)/\∀ x∈args.take (aJ wd),x<n:=by
 obtain⟨e1,_,_,e4⟩:=hw a v h;obtain⟨d1,_,_,d4⟩:=hw b u h';have:bB ⟨wd,w,args⟩ W=[v,u]:=by
  show(args.take (aJ wd)).map (g0 W)=[v,u];rw[e,yBb,yBb,yGi,e1,d1]
 rw[this,e];exact⟨k,aKn e4 d4⟩
omit hw in
theorem aTi{wd:Wd}{w:Nat}(h:fB ws ⟨wd,w,[]⟩):RwOk ⟨wd,w,[]⟩ (bB ⟨wd,w,[]⟩ W)/\∀ x∈yEk (aJ wd) [],x<n:=by
 cases wd
 case «in» => exact⟨.inp h.1 h.2.1,aJ3⟩
 all_goals exact h.2.2.elim
theorem aTF{wd:Wd}{w a:Nat}(h:fB ws ⟨wd,w,[a]⟩):RwOk ⟨wd,w,[a]⟩ (bB ⟨wd,w,[a]⟩ W)/\∀ x∈yEk (aJ wd) [a],x<n:=by
 cases wd
 case num=>exact⟨.num h.1 h.2.1 h.2.2,aJ3⟩
 case not=>exact pU hw rfl h.2.2 (.nt h.1 h.2.1)
 case cut =>
  obtain⟨v,q1,q2⟩:=h.2.2;exact pU hw rfl q1 (.cut h.1 q2 (hw a v q1).2.2.1)
 case wide =>
  obtain⟨v,q1,q2⟩:=h.2.2;exact pU hw rfl q1 (.wide (hw a v q1).2.1 q2 h.2.1)
 case sign =>
  obtain⟨v,q1,q2⟩:=h.2.2;exact pU hw rfl q1 (.sign (hw a v q1).2.1 q2 h.2.1)
 all_goals exact h.2.2.elim
theorem aCS{wd:Wd}(bI:wd=.same\/wd=.less\/wd=.under){w a b:Nat}(q:w=1/\∃ v,ws[a]? = qq v/\ws[b]? = qq v)(e:aJ wd=2):RwOk ⟨wd,w,[a,b]⟩ (bB ⟨wd,w,[a,b]⟩ W)/\∀ x∈yEk (aJ wd) [a,b],x<n:=by
 obtain⟨rfl,v,q1,q2⟩:=q;exact pV hw (by rw[e];rfl) q1 q2 (.cmp (hw a v q1).2.1 (hw a v q1).2.2.1 bI)
theorem aUq{wd:Wd}{w a b:Nat}(h:fB ws ⟨wd,w,[a,b]⟩):RwOk ⟨wd,w,[a,b]⟩ (bB ⟨wd,w,[a,b]⟩ W)/\∀ x∈yEk (aJ wd) [a,b],x<n:=by
 cases wd
 case left=>exact pU hw rfl h.2.2.1 (.sh h.1 h.2.1 (.inl rfl) h.2.2.2)
 case right=>exact pU hw rfl h.2.2.1 (.sh h.1 h.2.1 (.inr (.inl rfl)) h.2.2.2)
 case slide=>exact pU hw rfl h.2.2.1 (.sh h.1 h.2.1 (.inr (.inr rfl)) h.2.2.2)
 case and=>exact pV hw rfl h.2.2.1 h.2.2.2 (.bw h.1 h.2.1 (.inl rfl))
 case or=>exact pV hw rfl h.2.2.1 h.2.2.2 (.bw h.1 h.2.1 (.inr (.inl rfl)))
 case xor=>exact pV hw rfl h.2.2.1 h.2.2.2 (.bw h.1 h.2.1 (.inr (.inr rfl)))
 case add=>exact pV hw rfl h.2.2.1 h.2.2.2 (.sm (s:=.add) h.1 h.2.1)
 case sub=>exact pV hw rfl h.2.2.1 h.2.2.2 (.sm (s:=.sub) h.1 h.2.1)
 case mul=>exact pV hw rfl h.2.2.1 h.2.2.2 (.sm (s:=.mul) h.1 h.2.1)
 case same=>exact aCS hw (.inl rfl) h.2.2 rfl
 case less=>exact aCS hw (.inr (.inl rfl)) h.2.2 rfl
 case under=>exact aCS hw (.inr (.inr rfl)) h.2.2 rfl
 all_goals exact h.2.2.elim
theorem aTH{wd:Wd}{w a b c:Nat}(h:fB ws ⟨wd,w,[a,b,c]⟩):RwOk ⟨wd,w,[a,b,c]⟩ (bB ⟨wd,w,[a,b,c]⟩ W)/\∀ x∈yEk (aJ wd) [a,b,c],x<n:=by
 cases wd
 case pick =>
  obtain⟨q1,q2,q3⟩:=h.2.2;obtain⟨e1,_,_,e4⟩:=hw a _ q1;obtain⟨d1,_,_,d4⟩:=hw b _ q2;obtain⟨c1,_,_,c4⟩:=hw c _ q3;have:bB ⟨.pick,w,[a,b,c]⟩ W=[1,w,w]:=by
   show [g0 W a,g0 W b,g0 W c]=[1,w,w];rw[e1,d1,c1]
  rw[this];exact⟨.pick h.1 h.2.1,aWb e4 d4 c4⟩
 all_goals exact h.2.2.elim
omit hw in
theorem aU5{wd:Wd}{w a b c e:Nat}{t:List Nat}(h:fB ws ⟨wd,w,a::b::c::e::t⟩):False:=by
 cases wd
 all_goals exact h.2.2
theorem aPY{r:Rw}(h:fB ws r):RwOk r (bB r W)/\∀ x∈r.args.take (aJ r.wd),x<n:=by
 obtain⟨wd,w,args⟩:=r
 match args,h with
 | [],h=>exact aTi h
 | [a],h=>exact aTF hw h
 | [a,b],h=>exact aUq hw h
 | [a,b,c],h=>exact aTH hw h
 | _::_::_::_::_,h=>exact(aU5 h).elim
end
theorem aF2:∀ rs:List Rw,∃ is,gZ rs is
 | []=>⟨[],rfl⟩
 | r::rs=>by
   obtain⟨is,h⟩:=aF2 rs
   by_cases c:r.wd=.in
   ·refine⟨0::is,?_⟩;rw[gZ,if_pos c];exact⟨0,is,rfl,xAf _,h⟩
   ·refine⟨is,?_⟩;rw[gZ,if_neg c];exact h
theorem aSl{rs:List Rw}(h:eG [] rs)(hl:rs.length<=100):Prg rs:=by
 have ws:∀ (j:Nat) (r:Rw),rs[j]? = qq r->1<=r.w/\r.w<=64:=λ j r hr=>by
  have:=aBU rs [] h j r hr;exact⟨this.1,this.2.1⟩
 refine⟨hl,λ j r hr=>?_,aF2 rs,ws⟩
 have ok:=aBU rs [] h j r hr;rw[yDn] at ok;refine aPY (n:=j) (λ a v ha=>?_) ok
 have hj:j<rs.length:=(gIm hr).1;have haj:a<j:=by
  have:=(gIm ha).1;rw[yAb,yBo] at this;omega
 rw[xAb,yDl haj] at ha;obtain⟨q,hq,rfl⟩:=Option.map_eq_some_iff.mp ha;obtain⟨w1,w2⟩:=ws a q hq;refine⟨?_,w1,w2,haj⟩;show(rs.map (·.w)).getD a 0=q.w;rw[xAh,xAb,hq];rfl
noncomputable abbrev sT(T:aC)(ns:List Int)(k:Nat)(x:Int):aC:=qq (bV ns k x)::T
theorem sB(T:aC)(ns:List Int)(k:Nat)(x:Int)(h:T.length<=40):dW (qz::T) 0 50 ns k x []=sT T ns k x:=by
 unfold dW;rw[yDw,yEy];simp;omega
theorem aDB(T:aC)(h:T.length<=40):At0 (qz::T) 0 50:=⟨by simp,by decide⟩
section
variable {ns : List Int}{k : Nat}{x : Int}
theorem aT4(T:aC)(hT:T.length<=40)(d w:Nat)(hw:1<=w)(bF:w<=64)(hk:k<=98000):∃ (r k':Nat) (x':Int),r<2^w/\k'<=k+5/\cl fns (d+3) 62 [.loc 0,.d (.int w)] (sT T ns k x)=qq (.d (.int r),sT T ns k' x'):=by
 obtain⟨r,k',x',hr,hk',e⟩:=aRL (rs:=[]) (ns:=ns) (k:=k) (x:=x) (aDB T hT) d w hw bF hk;rw[sB T _ _ _ hT,sB T _ _ _ hT] at e;exact⟨r,k',x',hr,hk',e⟩
theorem aRS(T:aC)(hT:T.length<=40)(d m:Nat)(hm:0<m)(hm2:m<2^64)(hk:k<=100000):∃ (r:Nat) (x':Int),r<m/\cl fns (d+1) 59 [.loc 0,.d (.int m)] (sT T ns k x)=qq (.d (.int r),sT T ns (k+1) x'):=by
 obtain⟨r,x',hr,e⟩:=pO (rs:=[]) (ns:=ns) (k:=k) (x:=x) (aDB T hT) d m hm hm2 hk;rw[sB T _ _ _ hT,sB T _ _ _ hT] at e;exact⟨r,x',hr,e⟩
end
theorem aTu{m i:Nat}(h:m.testBit i=true):i<bl m:=by
 by_cases c:i<bl m
 ·exact c
 ·rw[cX (mR m) (by omega)] at h
  cases h
theorem aPV(i t:Nat):(2^i).testBit t=decide (i=t):=yBn
noncomputable def gY(x w:Nat):Nat:=if x/2^w=0 then x else (x&&&(2^w-1))|||2^(w-1)
theorem aNp{x w t:Nat}(hw:1<=w):(gY x w).testBit t=true ↔ (t<w/\x.testBit t=true)\/(t=w-1/\∃ j,w<=j/\x.testBit j=true):=by
 unfold gY
 split
 ·rename_i h;rw[aBD] at h;constructor
  ·intro z;refine .inl ⟨?_,z⟩
   by_cases c:t<w
   ·exact c
   ·rw[h t (by omega)] at z;cases z
  ·rintro (⟨_,z⟩ | ⟨_,j,h1,h2⟩)
   ·exact z
   ·rw[h j h1] at h2;cases h2
 ·rename_i h;rw[xAp,yAg,eK,aPV];have h':∃ j,w<=j/\x.testBit j=true:=by
   rw[aBD] at h
   by_cases c:∃ j,w<=j/\x.testBit j=true
   ·exact c
   ·refine absurd (λ i hi=>?_) h
    cases q:x.testBit i with
    | false=>rfl
    | true=>exact absurd ⟨i,hi,q⟩ c
  constructor
  ·intro z;simp only[yEd,yAt,decide_eq_true_eq] at z;rcases z with ⟨z1,z2⟩ | z
   ·exact .inl ⟨z2,z1⟩
   ·exact .inr ⟨z.symm,h'⟩
  ·rintro (⟨z1,z2⟩ | ⟨z,_⟩)
   ·simp[z1,z2]
   ·simp[z]
theorem aGZ{x w:Nat}(hw:1<=w):gY x w<2^w:=by
 apply yCj;intro i hi;cases q:(gY x w).testBit i with
 | false=>rfl
 | true =>
   rcases (aNp hw).mp q with ⟨h,_⟩ | ⟨h,_⟩<;>omega
structure Fc where
 N:Nat
 O:Nat
 A:Nat
noncomputable instance:Inhabited Fc:=⟨⟨0,0,0⟩⟩
noncomputable def bW(wd:Wd)(w kk:Nat)(ws:List Nat)(fs:List Fc)(m:Nat):List Nat:=
 if m=0 then yAd (aJ wd) 0 else
 match wd with
 | .in | .num=>[]
 | .not | .cut=>[m]
 | .xor=>[m,m]
 | .and=>[bL m (bL (fs.getD 1 default).N (fs.getD 0 default).N),bL m (fs.getD 0 default).N]
 | .or=>[bL m (bL (fs.getD 1 default).O (fs.getD 0 default).O),bL m (fs.getD 0 default).O]
 | .add | .sub=>[2^bl m-1,2^bl m-1]
 | .mul=>[2^(bl m-min (bl m) (lr (fs.getD 1 default).N))-1,2^(bl m-min (bl m-min (bl m) (lr (fs.getD 1 default).N)) (lr (fs.getD 0 default).N))-1]
 | .left=>[m/2^kk]
 | .right=>[(m*2^kk)&&&(2^w-1)]
 | .slide=>[gY (m*2^kk) w]
 | .wide=>[m&&&(2^ws.getD 0 0-1)]
 | .sign=>[gY m (ws.getD 0 0)]
 | .same | .less | .under=>[2^ws.getD 0 0-1,2^ws.getD 1 0-1]
 | .pick=>if (fs.getD 0 default).O=1 then [1,m,0] else if (fs.getD 0 default).N=1 then [1,0,m] else [1,m,m]
def aBc(wd:Wd)(w:Nat)(ws:List Nat):Prop:=1<=w/\w<=64/\match wd with
 | .in | .num=>ws=[]
 | .not | .left | .right | .slide=>ws=[w]
 | .and | .or | .xor | .add | .sub | .mul=>ws=[w,w]
 | .cut=>∃ v,ws=[v]/\w<=v/\v<=64
 | .wide | .sign=>∃ v,ws=[v]/\v<=w/\1<=v
 | .same | .less | .under=>w=1/\∃ v,ws=[v,v]/\1<=v/\v<=64
 | .pick=>ws=[1,w,w]
theorem aGN{wd:Wd}{w kk m:Nat}{ws:List Nat}{fs:List Fc}:(bW wd w kk ws fs m).length=aJ wd:=by
 unfold bW
 split
 ·simp
 ·cases wd<;>first | rfl | (simp only;split<;>first | rfl | (split<;>rfl))
theorem gU{k v:Nat}(h:k<=v):2^k-1<2^v:=by
 have h1:=xAf k;have h2:(2:Nat)^k<=2^v:=yAq (by decide) h
 omega
theorem zS{m y v:Nat}(h:m<2^v):bL m y<2^v:=xAj (yGt _ _) h
theorem aOT(wd:Wd)(w kk:Nat)(ws:List Nat)(fs:List Fc)(m c v:Nat)(hk:aBc wd w ws)(hm:m<2^w)(hv:ws[c]? = qq v):(bW wd w kk ws fs m).getD c 0<2^v:=by
 by_cases h0:m=0
 ·subst h0;have e:(bW wd w kk ws fs 0).getD c 0=0:=by
   unfold bW;rw[if_pos rfl,xAh,yFc]
   split<;>rfl
  rw[e];exact xAf _
 have hb:bl m<=w:=jS hm;have e0:bW wd w kk ws fs m=_:=if_neg h0;rw[e0];have one:∀ {a u:Nat},ws=[u]->a<2^u->[a].getD c 0<2^v:=λ {a u} e h=>by
  subst e
  match c,hv with
  | 0,hv=>cases hv;exact h
  | c+1,hv=>simp at hv
 have two:∀ {a b u x:Nat},ws=[u,x]->a<2^u->b<2^x->[a,b].getD c 0<2^v:=λ {a b u x} e h h2=>by
  subst e
  match c,hv with
  | 0,hv=>cases hv;exact h
  | 1,hv=>cases hv;exact h2
  | c+2,hv=>simp at hv
 have three:∀ {a b e u x y:Nat},ws=[u,x,y]->a<2^u->b<2^x->e<2^y->[a,b,e].getD c 0<2^v:=λ {a b e u x y} e' h h2 h3=>by
  subst e'
  match c,hv with
  | 0,hv=>cases hv;exact h
  | 1,hv=>cases hv;exact h2
  | 2,hv=>cases hv;exact h3
  | c+3,hv=>simp at hv
 obtain⟨cW,bF,hk⟩:=hk;cases wd with
 | «in» => rw[hk] at hv;simp at hv
 | num=>rw[hk] at hv;simp at hv
 | not=>exact one hk hm
 | cut =>
   obtain⟨u,e,h1,h2⟩:=hk;exact one e (xAc hm (yAq (by decide) h1))
 | xor=>exact two hk hm hm
 | and=>exact two hk (zS hm) (zS hm)
 | or=>exact two hk (zS hm) (zS hm)
 | add=>exact two hk (gU hb) (gU hb)
 | sub=>exact two hk (gU hb) (gU hb)
 | mul=>exact two hk (gU (by omega)) (gU (by omega))
 | left=>exact one hk (xAj (Nat.div_le_self _ _) hm)
 | right=>exact one hk (Nat.and_lt_two_pow _ (gU (yAc _)))
 | slide=>exact one hk (aGZ cW)
 | wide =>
   obtain⟨u,e,h1,h2⟩:=hk;subst e;exact one rfl (Nat.and_lt_two_pow _ (gU (yAc _)))
 | sign =>
   obtain⟨u,e,h1,h2⟩:=hk;subst e;exact one rfl (aGZ h2)
 | same =>
   obtain⟨_,u,e,h1,h2⟩:=hk;subst e;exact two rfl (gU (yAc _)) (gU (yAc _))
 | less =>
   obtain⟨_,u,e,h1,h2⟩:=hk;subst e;exact two rfl (gU (yAc _)) (gU (yAc _))
 | under =>
   obtain⟨_,u,e,h1,h2⟩:=hk;subst e;exact two rfl (gU (yAc _)) (gU (yAc _))
 | pick =>
   simp only
   split
   ·exact three hk (by decide) hm (xAf _)
   ·split
    ·exact three hk (by decide) (xAf _) hm
    ·exact three hk (by decide) hm hm
noncomputable def Fc.d(f:Fc):D:=.tuple [.int f.N,.int f.O,.int f.A]
theorem aA2(f:Fc):aP f.d (.int 0)=qq (.int f.N):=rfl
theorem aBa(f:Fc):aP f.d (.int 1)=qq (.int f.O):=rfl
theorem aI7(a:D):aP (.tuple [a]) (.int 0)=qq a:=rfl
theorem aAP(a b:D):aP (.tuple [a,b]) (.int 0)=qq a:=rfl
theorem aAT(a b:D):aP (.tuple [a,b]) (.int 1)=qq b:=rfl
theorem aVd(a b c:D):aP (.tuple [a,b,c]) (.int 0)=qq a:=rfl
theorem aFf(d a b m:Nat)(S:aC):cl fns (d+1) 12 [.d (.int a),.d (.int b),.d (.int m)] S=qq (.d (.tuple [.int ((bL m (bL b a):Nat):Int),.int ((bL m a:Nat):Int)]),S):=by
 rw[aY rfl d _ S rfl];simp only[gR1,aEx,aGV,aGB]
theorem aOd(i j:Nat):(if ((j:Nat):Int)<((i:Nat):Int) then ((j:Nat):Int) else ((i:Nat):Int))=((min i j:Nat):Int):=by
 by_cases c:j<i
 ·rw[if_pos (by omega),yEo (by omega)]
 ·rw[if_neg (by omega),yFi (by omega)]
theorem aLC(d a b m:Nat)(hm:m<2^64)(S:aC):cl fns (d+3) 13 [.d (.int a),.d (.int b),.d (.int m)] S=qq (.d (.tuple [.int ((2^(bl m-min (bl m) (lr b))-1:Nat):Int),.int ((2^(bl m-min (bl m-min (bl m) (lr b)) (lr a))-1:Nat):Int)]),S):=by
 have hb:=jS hm;have e1:((bl m:Nat):Int)-((min (bl m) (lr b):Nat):Int)=((bl m-min (bl m) (lr b):Nat):Int):=by omega
 have e2:((bl m:Nat):Int)-((min (bl m-min (bl m) (lr b)) (lr a):Nat):Int)=((bl m-min (bl m-min (bl m) (lr b)) (lr a):Nat):Int):=by omega
 rw[aY rfl (d+2) _ S rfl];simp only[evs,fD,aFL,uC (d+1),aCY d,mX,aOd,cQ,e1,e2,dH (d+1) (bl m-min (bl m) (lr b)) (by omega),dH (d+1) (bl m-min (bl m-min (bl m) (lr b)) (lr a)) (by omega)]
theorem aFF(d y w:Nat)(hw:1<=w)(bF:w<=1000)(S:aC):cl fns (d+2) 14 [.d (.int y),.d (.int w)] S=qq (.d (.int ((gY y w:Nat):Int)),S):=by
 have e1:(w:Int)-1=((w-1:Nat):Int):=by omega
 rw[aY rfl (d+1) _ S rfl];unfold gY
 by_cases c:y/2^w=0
 ·have d1:(y/2^w==0)=true:=by rw[beq_iff_eq];exact c
  rw[if_pos c];simp only[gR1,aCr,mC,aO,bX,d1]
 ·have d1:(y/2^w==0)=false:=by rw[beq_eq_false_iff_ne];exact c
  rw[if_neg c];have hq51:=dH d w (by omega)
  have hq52:=gC (show w-1<=100000 by omega)
  simp only[gR1,aCr,mC,aO,bX,d1,hq51,cY,cQ,e1,hq52,cN]
theorem aPj(d w kk m:Nat)(S:aC):cl fns (d+3) 15 [.d (.str "left"),.d (.int w),.d (.int kk),.d (.int m)] S=qq (.d (.int ((m/2^kk:Nat):Int)),S):=by
 have c1:aM .Eq (.str "left") (.str "left")=qq (.bool true):=bJ .left .left;rw[aY rfl (d+2) _ S rfl];simp only[gR1,xZ,c1,mC]
theorem aNR(d w kk m:Nat)(hw:w<=64)(hk:kk<=64)(hm:m<2^64)(S:aC):cl fns (d+3) 15 [.d (.str "right"),.d (.int w),.d (.int kk),.d (.int m)] S=qq (.d (.int (((m*2^kk)&&&(2^w-1):Nat):Int)),S):=by
 have c1:aM .Eq (.str "right") (.str "left")=qq (.bool false):=bJ .right .left;have c2:aM .Eq (.str "right") (.str "right")=qq (.bool true):=bJ .right .right;rw[aY rfl (d+2) _ S rfl];have hq53:=uK hm (show 64+kk<=100000 by omega)
 have hq54:=dH (d+1) w (by omega)
 simp only[gR1,xZ,c1,c2,hq53,hq54,cY]
theorem aNi(d w kk m:Nat)(cW:1<=w)(hw:w<=64)(hk:kk<=64)(hm:m<2^64)(S:aC):cl fns (d+3) 15 [.d (.str "slide"),.d (.int w),.d (.int kk),.d (.int m)] S=qq (.d (.int ((gY (m*2^kk) w:Nat):Int)),S):=by
 have c1:aM .Eq (.str "slide") (.str "left")=qq (.bool false):=bJ .slide .left;have c2:aM .Eq (.str "slide") (.str "right")=qq (.bool false):=bJ .slide .right;rw[aY rfl (d+2) _ S rfl];have hq55:=uK hm (show 64+kk<=100000 by omega)
 simp only[gR1,xZ,c1,c2,hq55,aFF d _ w cW (by omega)]
theorem aLl(d:Nat)(f:Fc)(m:Nat)(S:aC):cl fns (d+1) 16 [.d f.d,.d (.int m)] S=qq (.d (.tuple ((if f.O=1 then [1,m,0] else if f.N=1 then [1,0,m] else [1,m,m]).map nD)),S):=by
 rw[aY rfl d _ S rfl]
 by_cases c1:f.O=1
 ·have d1:(f.O==1)=true:=by rw[beq_iff_eq];exact c1
  rw[if_pos c1];simp only[gR1,yS,aBa,aO,iE,d1]
 ·have d1:(f.O==1)=false:=by rw[beq_eq_false_iff_ne];exact c1
  rw[if_neg c1]
  by_cases c2:f.N=1
  ·have d2:(f.N==1)=true:=by rw[beq_iff_eq];exact c2
   rw[if_pos c2];simp only[gR1,yS,aBa,aA2,aO,iE,d1,d2]
  ·have d2:(f.N==1)=false:=by rw[beq_eq_false_iff_ne];exact c2
   rw[if_neg c2];simp only[gR1,yS,aBa,aA2,aO,iE,d1,d2]
def vC(wd:Wd)(args:List Nat)(kk:Nat):Prop:=match wd with
 | .in=>args=[]
 | .num=>∃ n,args=[n]
 | .not | .cut | .wide | .sign=>∃ a,args=[a]
 | .left | .right | .slide=>∃ a,args=[a,kk]/\kk<64
 | .pick=>∃ a b c,args=[a,b,c]
 | _=>∃ a b,args=[a,b]
theorem zJ{wd:Wd}{args:List Nat}{kk:Nat}(h:vC wd args kk):(args.take (aJ wd)).length=aJ wd:=by
 cases wd<;>first
  | (obtain rfl:=h;rfl)
  | (obtain⟨a,b,c,rfl⟩:=h;rfl)
  | (obtain⟨a,b,rfl⟩:=h;rfl)
  | (obtain⟨a,rfl,_⟩:=h;rfl)
  | (obtain⟨a,rfl⟩:=h;rfl)
theorem aDf(a:Wd):aM .In (.str a.s) (.tuple [.str "add",.str "sub"])=qq (.bool (decide (a=.add\/a=.sub))):=by cases a<;>rfl
theorem aUl{wd:Wd}{w a k:Nat}:aP (Rw.mk wd w [a,k]).d (.int 3)=qq (.int k):=rfl
theorem aDi{α:Type}{l:List α}(h:l.length=2):∃ a b,l=[a,b]:=by
 match l,h with
 | [a,b],_=>exact⟨a,b,rfl⟩
theorem aVC{α:Type}{l:List α}(h:l.length=3):∃ a b c,l=[a,b,c]:=by
 match l,h with
 | [a,b,c],_=>exact⟨a,b,c,rfl⟩
noncomputable abbrev eA(R W G:D)(m:Nat)(x:Wd):aX:=[qq (.d R),qq (.d W),qq (.d G),qq (.d (.int m)),qq (.d (.str x.s))]
noncomputable def aK:Nat->Sx
 | 0=>aU aEG
 | k+1=>aU (aK k)
section
variable (C : Calls)(R W G : D)(m : Nat)(S : aC)(x : Wd)
theorem aDo:tv C (.cmp .Eq (.var 4) (.str "and")) (eA R W G m x) S=qq (decide (x=.and),S):=eE rfl (bJ x .and)
theorem aJ8:tv C (.cmp .Eq (.var 4) (.str "or")) (eA R W G m x) S=qq (decide (x=.or),S):=eE rfl (bJ x .or)
theorem aKl:tv C (.cmp .In (.var 4) (.tup (.cons (.str "add") (.cons (.str "sub") .nil)))) (eA R W G m x) S=qq (decide (x=.add\/x=.sub),S):=iJ rfl rfl (aDf x)
theorem aKa:tv C (.cmp .Eq (.var 4) (.str "mul")) (eA R W G m x) S=qq (decide (x=.mul),S):=eE rfl (bJ x .mul)
theorem aKs:tv C (.cmp .In (.var 4) (.con "SHIFTS" pJ)) (eA R W G m x) S=qq (decide (x=.left\/x=.right\/x=.slide),S):=iJ rfl rfl (rB x)
theorem aDJ:tv C (.cmp .Eq (.var 4) (.str "wide")) (eA R W G m x) S=qq (decide (x=.wide),S):=eE rfl (bJ x .wide)
theorem aKu:tv C (.cmp .Eq (.var 4) (.str "sign")) (eA R W G m x) S=qq (decide (x=.sign),S):=eE rfl (bJ x .sign)
theorem aDm:tv C (.cmp .In (.var 4) (.con "COMPARES" tM)) (eA R W G m x) S=qq (decide (x=.same\/x=.less\/x=.under),S):=iJ rfl rfl (zP x)
theorem aKo:tv C (.cmp .Eq (.var 4) (.str "pick")) (eA R W G m x) S=qq (decide (x=.pick),S):=eE rfl (bJ x .pick)
variable {C R W G m S}{r : Option (Fl×aC)}
theorem jC{k:Nat}{c:E}{t:Sx}{b:Bool}(e:aK k=.seq (.ifs c t .skip) (aK (k+1)))(h:tv C c (eA R W G m x) S=qq (b,S))(hb:b=false)(g:xs C (aK (k+1)) (eA R W G m x) S=r):xs C (aK k) (eA R W G m x) S=r:=by
 subst hb;rw[e];exact bC h g
theorem aJR(h:(decide (x=.and)||decide (x=.or))=false)(g:xs C (aK 2) (eA R W G m x) S=r):xs C (aK 0) (eA R W G m x) S=r:=by
 obtain⟨h1,h2⟩:=Bool.or_eq_false_iff.mp h;exact jC x rfl (aDo C R W G m S x) h1 (jC x rfl (aJ8 C R W G m S x) h2 g)
theorem aJ7(h:(decide (x=.and)||decide (x=.or))=false)(h2:decide (x=.add\/x=.sub)=false)(g:xs C (aK 3) (eA R W G m x) S=r):xs C (aK 0) (eA R W G m x) S=r:=aJR x h (jC x rfl (aKl C R W G m S x) h2 g)
theorem aJ6(h:(decide (x=.and)||decide (x=.or))=false)(h2:(decide (x=.add\/x=.sub)||decide (x=.mul))=false)(g:xs C (aK 4) (eA R W G m x) S=r):xs C (aK 0) (eA R W G m x) S=r:=by
 obtain⟨h3,h4⟩:=Bool.or_eq_false_iff.mp h2;exact aJ7 x h h3 (jC x rfl (aKa C R W G m S x) h4 g)
theorem aDw(h:(decide (x=.and)||decide (x=.or))=false)(h2:(decide (x=.add\/x=.sub)||decide (x=.mul))=false)(h5:decide (x=.left\/x=.right\/x=.slide)=false)(g:xs C (aK 5) (eA R W G m x) S=r):xs C (aK 0) (eA R W G m x) S=r:=aJ6 x h h2 (jC x rfl (aKs C R W G m S x) h5 g)
theorem aDM(h:(decide (x=.and)||decide (x=.or))=false)(h2:(decide (x=.add\/x=.sub)||decide (x=.mul))=false)(h5:decide (x=.left\/x=.right\/x=.slide)=false)(h6:(decide (x=.wide)||decide (x=.sign))=false)(g:xs C (aK 7) (eA R W G m x) S=r):xs C (aK 0) (eA R W G m x) S=r:=by
 obtain⟨h3,h4⟩:=Bool.or_eq_false_iff.mp h6;exact aDw x h h2 h5 (jC x rfl (aDJ C R W G m S x) h3 (jC x rfl (aKu C R W G m S x) h4 g))
theorem aWm(h:(decide (x=.and)||decide (x=.or))=false)(h2:(decide (x=.add\/x=.sub)||decide (x=.mul))=false)(h5:decide (x=.left\/x=.right\/x=.slide)=false)(h6:(decide (x=.wide)||decide (x=.sign))=false)(h8:(decide (x=.same\/x=.less\/x=.under)||decide (x=.pick))=false)(g:xs C (aK 9) (eA R W G m x) S=r):xs C (aK 0) (eA R W G m x) S=r:=by
 obtain⟨h3,h4⟩:=Bool.or_eq_false_iff.mp h8;exact aDM x h h2 h5 h6 (jC x rfl (aDm C R W G m S x) h3 (jC x rfl (aKo C R W G m S x) h4 g))
end
section
variable (d w kk m : Nat)(ws : List Nat)(R W : D)(S : aC)(h0 : m≠0)
include h0
theorem aO7(f g:Fc):xs (aD fns (d+3)) (aK 0) (eA R W (.tuple ([f,g].map Fc.d)) m .and) S=qq (.rt (.d (.tuple ((bW .and w kk ws [f,g] m).map nD))),S):=by
 rw[show bW .and w kk ws [f,g] m=_ from if_neg h0]
 refine cE (aDo _ _ _ _ _ _ .and) (bO ?_);simp only[gS0,aAP,aAT,aA2,aFf (d+2),nD,yEt,yGe]
theorem aSf(f g:Fc):xs (aD fns (d+3)) (aK 0) (eA R W (.tuple ([f,g].map Fc.d)) m .or) S=qq (.rt (.d (.tuple ((bW .or w kk ws [f,g] m).map nD))),S):=by
 rw[show bW .or w kk ws [f,g] m=_ from if_neg h0]
 refine jC .or rfl (aDo _ _ _ _ _ _ .or) rfl (cE (aJ8 _ _ _ _ _ _ .or) (bO ?_));simp only[gS0,aAP,aAT,aBa,aFf (d+2),nD,yEt,yGe]
theorem aHr(x:Wd)(hx:decide (x=.add\/x=.sub)=true)(h1:(decide (x=.and)||decide (x=.or))=false)(G:D)(bm:m<2^10000):xs (aD fns (d+3)) (aK 0) (eA R W G m x) S=qq (.rt (.d (.tuple ([2^bl m-1,2^bl m-1].map nD))),S):=by
 have t:=aKl (aD fns (d+3)) R W G m S x;rw[hx] at t;refine aJR x h1 (cE t (bO ?_));simp only[gS0,zI (d+1) m _ bm,nD]
theorem aOU(f g:Fc)(hm:m<2^64):xs (aD fns (d+3)) (aK 0) (eA R W (.tuple ([f,g].map Fc.d)) m .mul) S=qq (.rt (.d (.tuple ((bW .mul w kk ws [f,g] m).map nD))),S):=by
 rw[show bW .mul w kk ws [f,g] m=_ from if_neg h0]
 refine aJ7 .mul rfl rfl (cE (aKa _ _ _ _ _ _ .mul) (bO ?_));simp only[evs,aAP,aAT,aA2,aLC d f.N g.N m hm,nD,yEt,yGe]
theorem aCT(x:Wd)(hx:decide (x=.left\/x=.right\/x=.slide)=true)(h1:(decide (x=.and)||decide (x=.or))=false)(h2:(decide (x=.add\/x=.sub)||decide (x=.mul))=false)(a:Nat)(G:D){z:Nat}(sl:cl fns (d+3) 15 [.d (.str x.s),.d (.int w),.d (.int kk),.d (.int m)] S=qq (.d (.int z),S)):xs (aD fns (d+3)) (aK 0) (eA (Rw.mk x w [a,kk]).d W G m x) S=qq (.rt (.d (.tuple ([z].map nD))),S):=by
 have t:=aKs (aD fns (d+3)) (Rw.mk x w [a,kk]).d W G m S x;rw[hx] at t;have r1:aP (Rw.mk x w [a,kk]).d (.int 1)=qq (.int w):=gO _;refine aJ6 x h1 h2 (cE t (bO ?_));simp only[evs,r1,aUl,sl,nD]
theorem aNr(v:Nat)(hv:v<=64)(G:D):xs (aD fns (d+3)) (aK 0) (eA R (.tuple ([v].map nD)) G m .wide) S=qq (.rt (.d (.tuple ([m&&&(2^v-1)].map nD))),S):=by
 refine aDw .wide rfl rfl rfl (cE (aDJ _ _ _ _ _ _ .wide) (bO ?_));have hq56:=dH (d+2) v (by omega)
 simp only[gS0,nD,aI7,hq56,cY]
theorem aNk(v:Nat)(hv1:1<=v)(hv:v<=64)(G:D):xs (aD fns (d+3)) (aK 0) (eA R (.tuple ([v].map nD)) G m .sign) S=qq (.rt (.d (.tuple ([gY m v].map nD))),S):=by
 refine aDw .sign rfl rfl rfl (jC .sign rfl (aDJ _ _ _ _ _ _ .sign) rfl (cE (aKu _ _ _ _ _ _ .sign) (bO ?_)));have hq57:=aFF (d+1) m v hv1 (by omega)
 simp only[gS0,nD,aI7,hq57]
theorem aCA(x:Wd)(hx:decide (x=.same\/x=.less\/x=.under)=true)(h1:(decide (x=.and)||decide (x=.or))=false)(h2:(decide (x=.add\/x=.sub)||decide (x=.mul))=false)(h5:decide (x=.left\/x=.right\/x=.slide)=false)(h6:(decide (x=.wide)||decide (x=.sign))=false)(v:Nat)(hv:v<=64)(G:D):xs (aD fns (d+3)) (aK 0) (eA R (.tuple ([v,v].map nD)) G m x) S=qq (.rt (.d (.tuple ([2^v-1,2^v-1].map nD))),S):=by
 have t:=aDm (aD fns (d+3)) R (.tuple ([v,v].map nD)) G m S x;rw[hx] at t;refine aDM x h1 h2 h5 h6 (cE t (bO ?_));have hq58:=dH (d+2) v (by omega)
 simp only[gS0,nD,aAP,aAT,hq58]
theorem aNS(f g h:Fc):xs (aD fns (d+3)) (aK 0) (eA R W (.tuple ([f,g,h].map Fc.d)) m .pick) S=qq (.rt (.d (.tuple ((bW .pick w kk ws [f,g,h] m).map nD))),S):=by
 rw[show bW .pick w kk ws [f,g,h] m=_ from if_neg h0]
 refine aDM .pick rfl rfl rfl rfl (jC .pick rfl (aDm _ _ _ _ _ _ .pick) rfl (cE (aKo _ _ _ _ _ _ .pick) (bO ?_)));simp only[gS0,aVd,aLl (d+2),yEt]
omit h0 in
theorem aUP(n:Nat)(h:n<=10):bS .Mult (.tuple [.int m]) (.int ((n:Nat):Int))=qq (.tuple ((yAd n m).map nD)):=by
 rw[aGg (k:=n) (by omega),yGm]
 rfl
theorem tY(x:Wd)(args:List Nat)(ha:vC x args kk)(h1:(decide (x=.and)||decide (x=.or))=false)(h2:(decide (x=.add\/x=.sub)||decide (x=.mul))=false)(h5:decide (x=.left\/x=.right\/x=.slide)=false)(h6:(decide (x=.wide)||decide (x=.sign))=false)(h8:(decide (x=.same\/x=.less\/x=.under)||decide (x=.pick))=false)(G:D):xs (aD fns (d+3)) (aK 0) (eA (Rw.mk x w args).d W G m x) S=qq (.rt (.d (.tuple ((yAd (aJ x) m).map nD))),S):=by
 have op:cl fns (d+3) 7 [.d (Rw.mk x w args).d] S=qq (.d (.tuple ((args.take (aJ x)).map nD)),S):=pG (d+2) ⟨x,w,args⟩ S;have lop:dQ [.tuple ((args.take (aJ x)).map nD)]=qq (.int ((aJ x:Nat):Int)):=by
  simp only[mH,mK,yAb,zJ ha]
 have rp:=aUP m (aJ x) (by cases x<;>decide)
 refine aWm x h1 h2 h5 h6 h8 (bO ?_);simp only[gS0,op,lop,rp]
end
theorem aMK(d:Nat)(wd:Wd)(w:Nat)(args:List Nat)(kk:Nat)(ws:List Nat)(fs:List Fc)(m:Nat)(hk:aBc wd w ws)(hf:fs.length=aJ wd)(ha:vC wd args kk)(hm:m<2^w)(h0:m≠0)(S:aC) :
 cl fns (d+4) 17 [.d (Rw.mk wd w args).d,.d (.tuple (ws.map nD)),.d (.tuple (fs.map Fc.d)),.d (.int m)] S=qq (.d (.tuple ((bW wd w kk ws fs m).map nD)),S):=by
 have hm64:m<2^64:=xAc hm (yAq (by decide) hk.2.1)
 have r0:aP (Rw.mk wd w args).d (.int 0)=qq (.str wd.s):=lD _;have bm:m<2^10000:=aH0 hm64 (by decide)
 refine dO rfl (d+3) rfl rfl (yAh) (cI (S1:=S) (w:=.d (.str wd.s)) (aN:=eA (Rw.mk wd w args).d (.tuple (ws.map nD)) (.tuple (fs.map Fc.d)) m wd) (by simp only[evs,r0]) rfl ?_)
 show xs (aD fns (d+3)) (aK 0) (eA (Rw.mk wd w args).d (.tuple (ws.map nD)) (.tuple (fs.map Fc.d)) m wd) S=_;clear r0;obtain⟨cW,bF,hk⟩:=hk;have e0:bW wd w kk ws fs m=_:=if_neg h0;cases wd
 case and=>obtain⟨f,g,rfl⟩:=aDi hf;exact aO7 d w kk m ws _ _ S h0 f g
 case or=>obtain⟨f,g,rfl⟩:=aDi hf;exact aSf d w kk m ws _ _ S h0 f g
 case add=>rw[e0];exact aHr d m _ _ S h0 .add rfl rfl _ bm
 case sub=>rw[e0];exact aHr d m _ _ S h0 .sub rfl rfl _ bm
 case mul=>obtain⟨f,g,rfl⟩:=aDi hf;exact aOU d w kk m ws _ _ S h0 f g hm64
 case left =>
  obtain⟨a,rfl,hkk⟩:=ha;rw[e0];exact aCT d w kk m _ S h0 .left rfl rfl rfl a _ (aPj d w kk m S)
 case right =>
  obtain⟨a,rfl,hkk⟩:=ha;rw[e0];exact aCT d w kk m _ S h0 .right rfl rfl rfl a _ (aNR d w kk m bF (by omega) hm64 S)
 case slide =>
  obtain⟨a,rfl,hkk⟩:=ha;rw[e0];exact aCT d w kk m _ S h0 .slide rfl rfl rfl a _ (aNi d w kk m cW bF (by omega) hm64 S)
 case wide =>
  obtain⟨v,rfl,hv1,hv2⟩:=hk;rw[e0];exact aNr d m _ S h0 v (by omega) _
 case sign =>
  obtain⟨v,rfl,hv1,hv2⟩:=hk;rw[e0];exact aNk d m _ S h0 v (by omega) (by omega) _
 case same =>
  obtain⟨_,v,rfl,hv1,hv2⟩:=hk;rw[e0];exact aCA d m _ S h0 .same rfl rfl rfl rfl rfl v (by omega) _
 case less =>
  obtain⟨_,v,rfl,hv1,hv2⟩:=hk;rw[e0];exact aCA d m _ S h0 .less rfl rfl rfl rfl rfl v (by omega) _
 case under =>
  obtain⟨_,v,rfl,hv1,hv2⟩:=hk;rw[e0];exact aCA d m _ S h0 .under rfl rfl rfl rfl rfl v (by omega) _
 case pick=>obtain⟨f,g,h,rfl⟩:=aVC hf;exact aNS d w kk m ws _ _ S h0 f g h
 case «in» => rw[e0];exact tY d w kk m _ S h0 .in args ha rfl rfl rfl rfl rfl _
 case num=>rw[e0];exact tY d w kk m _ S h0 .num args ha rfl rfl rfl rfl rfl _
 case not=>rw[e0];exact tY d w kk m _ S h0 .not args ha rfl rfl rfl rfl rfl _
 case cut=>rw[e0];exact tY d w kk m _ S h0 .cut args ha rfl rfl rfl rfl rfl _
 case xor=>rw[e0];exact tY d w kk m _ S h0 .xor args ha rfl rfl rfl rfl rfl _
theorem aNj(n:Nat)(h:n<=10):bS .Mult (.tuple [.int 0]) (.int ((n:Nat):Int))=qq (.tuple ((yAd n 0).map nD)):=by
 rw[aGg (k:=n) (by omega),yGm]
 rfl
theorem aOp(d:Nat)(wd:Wd)(w:Nat)(args:List Nat)(kk:Nat)(ws:List Nat)(fs:List Fc)(m:Nat)(hk:aBc wd w ws)(hf:fs.length=aJ wd)(ha:vC wd args kk)(hm:m<2^w)(S:aC) :
 cl fns (d+5) 18 [.d (Rw.mk wd w args).d,.d (.tuple (ws.map nD)),.d (.tuple (fs.map Fc.d)),.d (.int m)] S=qq (.d (.tuple ((bW wd w kk ws fs m).map nD)),S):=by
 rw[aY rfl (d+4) _ S rfl]
 by_cases h0:m=0
 ·have d0:(m==0)=true:=by rw[beq_iff_eq];exact h0
  have e0:bW wd w kk ws fs m=yAd (aJ wd) 0:=if_pos h0;have lop:dQ [.tuple ((args.take (aJ wd)).map nD)]=qq (.int ((aJ wd:Nat):Int)):=by
   simp only[mH,mK,yAb,zJ ha]
  have op:cl fns (d+4) 7 [.d (Rw.mk wd w args).d] S=qq (.d (.tuple ((args.take (aJ wd)).map nD)),S):=pG (d+3) ⟨wd,w,args⟩ S;rw[e0];have hq59:=aNj (aJ wd) (by cases wd<;>decide)
  simp only[gR1,aDh,aO,bX,d0,op,lop,hq59]
 ·have d0:(m==0)=false:=by rw[beq_eq_false_iff_ne];exact h0
  simp only[gR1,aDh,aO,bX,d0,aMK d wd w args kk ws fs m hk hf ha hm h0]
noncomputable def lY(r:Rw):List Nat:=r.args.take (aJ r.wd)
noncomputable def jF(r:Rw):Nat:=r.args.getD 1 0
noncomputable def hZ(r:Rw)(F:List Ft):List Fc:=(bN r F).map λ f=>⟨f.N,f.O,f.A⟩
noncomputable def kJ(rs:List Rw)(F:List Ft)(r:Rw)(m:Nat):List Nat:=bW r.wd r.w (jF r) (bB r (rs.map (·.w))) (hZ r F) m
noncomputable def eQ(rs:List Rw)(F:List Ft)(r:Rw)(m:Nat):List (Nat×Nat):=(lY r).zip (kJ rs F r m)
noncomputable def pD(p:Nat×Nat):D:=.tuple [nD p.1,nD p.2]
theorem rZ{r:Rw}{ws:List Nat}(h:RwOk r ws):aBc r.wd r.w ws/\vC r.wd r.args (jF r):=by
 cases h with
 | inp h1 h2=>exact⟨⟨h1,h2,rfl⟩,rfl⟩
 | num h1 h2 hn=>exact⟨⟨h1,h2,rfl⟩,_,rfl⟩
 | nt h1 h2=>exact⟨⟨h1,h2,rfl⟩,_,rfl⟩
 | sh h1 h2 bI hk=>rcases bI with rfl | rfl | rfl<;>exact⟨⟨h1,h2,rfl⟩,_,rfl,hk⟩
 | cut h1 hv h2=>exact⟨⟨h1,xAi hv h2,_,rfl,hv,h2⟩,_,rfl⟩
 | wide h1 hv h2=>exact⟨⟨xAi h1 hv,h2,_,rfl,hv,h1⟩,_,rfl⟩
 | sign h1 hv h2=>exact⟨⟨xAi h1 hv,h2,_,rfl,hv,h1⟩,_,rfl⟩
 | bw h1 h2 bI=>rcases bI with rfl | rfl | rfl<;>exact⟨⟨h1,h2,rfl⟩,_,_,rfl⟩
 | sm h1 h2 =>
   rename_i s w a b;cases s<;>exact⟨⟨h1,h2,rfl⟩,_,_,rfl⟩
 | cmp h1 h2 bI=>rcases bI with rfl | rfl | rfl<;>exact⟨⟨yAc 1,(show 1<=64 by decide),rfl,_,rfl,h1,h2⟩,_,_,rfl⟩
 | pick h1 h2=>exact⟨⟨h1,h2,rfl⟩,_,_,_,rfl⟩
theorem aH9:∀ as bs:List Nat,dP (as.map nD) (bs.map nD)=(as.zip bs).map pD
 | [],_=>by cases ‹List Nat› <;> rfl
 | _::_,[]=>rfl
 | a::as,b::bs=>by
   show yDf [nD a,nD b]::dP (as.map nD) (bs.map nD)=pD (a,b)::(as.zip bs).map pD;rw[aH9 as bs];rfl
theorem aT2(r:Rw)(F:List Ft):(hZ r F).map Fc.d=(bN r F).map Ft.d:=by
 unfold hZ;rw[yBs];rfl
theorem aIp(d a:Nat){rs:List Rw}{r:Rw}(hr:rs[a]? = qq r)(o:D)(S:aC):cl fns (d+1) 10 [.d (.tuple [.tuple (rs.map Rw.d),o]),.d (.int a)] S=qq (.d (.int r.w),S):=by
 have i0:aP (.tuple [.tuple (rs.map Rw.d),o]) (.int 0)=qq (.tuple (rs.map Rw.d)):=rfl;have e1:aP (.tuple (rs.map Rw.d)) (.int a)=qq r.d:=gN (by rw[xAb,hr];rfl)
 rw[aY rfl d _ S rfl];simp only[gR1,aFH,i0,e1,gO]
theorem wS{rs:List Rw}{a:Nat}{r:Rw}(hr:rs[a]? = qq r):g0 (rs.map (·.w)) a=r.w:=by
 show(rs.map (·.w)).getD a 0=_;rw[xAh,xAb,hr];rfl
theorem aOX{fa fb:FE}{env:aX}{S S1 S2:aC}{as bs:List Nat}(h1:fa env S=qq (.d (.tuple (as.map nD)),S1))(h2:fb env S1=qq (.d (.tuple (bs.map nD)),S2))(hl:as.length<=1000):rX fa fb env S=qq ((as.zip bs).map pD,S2):=by
 have e:aA6 fa fb env S=qq ((as.zip bs).map pD,S2):=by
  unfold aA6;rw[h1,oB,h2,oB,<- aH9];rfl
 unfold rX oR;rw[e,oB,if_pos];show((as.zip bs).map pD).length<=1000000;rw[yAb,List.length_zip];omega
theorem aCB(r:Rw):(lY r).length<=3:=by
 have:=aIq r.wd;unfold lY;rw[yBo];omega
section
variable {rs : List Rw}{F : List Ft}{r : Rw}{k m : Nat}
theorem aPU(p:Prg rs)(hr:rs[k]? = qq r):(hZ r F).length=aJ r.wd:=by
 have h:=(rZ (p.fit k r hr).1).2;unfold hZ bN;rw[yAb,yAb];exact zJ h
theorem aLv(d:Nat)(p:Prg rs)(hr:rs[k]? = qq r)(hF:F.length=rs.length)(hm:m<2^r.w)(o:D)(S:aC):cl fns (d+6) 19 [.d (.tuple [.tuple (rs.map Rw.d),o]),.d (.tuple (F.map Ft.d)),.d (.int k),.d (.int m)] S=qq (.d (.list ((eQ rs F r m).map pD)),S):=by
 have i0:aP (.tuple [.tuple (rs.map Rw.d),o]) (.int 0)=qq (.tuple (rs.map Rw.d)):=rfl;have e1:aP (.tuple (rs.map Rw.d)) (.int k)=qq r.d:=gN (by rw[xAb,hr];rfl)
 obtain⟨f1,f2'⟩:=p.fit k r hr;have hk:k<rs.length:=(gIm hr).1;have ol:=aCB r;have hc:lv (aD fns (d+5)) aEt [qq (.d (.tuple [.tuple (rs.map Rw.d),o])),qq (.d (.tuple (F.map Ft.d))),qq (.d (.int k)),qq (.d (.int m)),qq (.d r.d),qz,qz,qz] S=qq ((bB r (rs.map (·.w))).map nD,S):=by
  unfold bB;rw[yBs];refine uI (fi:=lv (aD fns (d+5)) (.it (.call 7 (.cons (.var 4) .nil)))) (fe:=ev (aD fns (d+5)) (.call 10 (.cons (.var 0) (.cons (.var 7) .nil)))) nD (nD ∘ g0 (rs.map (·.w))) (r.args.take (aJ r.wd)) ?_ (by rw[zj];have:(r.args.take (aJ r.wd)).length<=3:=ol;omega) λ a ha=>?_
  ·simp only[gS0,pG (d+4),fG]
  ·refine⟨_,rfl,λ S'=>?_⟩
   have haj:=f2' a ha;have hq:rs[a]? = qq rs[a]:=yAa (by omega)
   have e2:=aIp (d+4) a hq o S';have e2':cl fns (d+5) 10 [.d (.tuple [.tuple (rs.map Rw.d),o]),.d (nD a)] S'=qq (.d (.int (rs[a].w:Nat)),S'):=e2;simp only[evs,clr,yBy,yEm,e2'];show _=qq (W.d (nD (g0 (rs.map (·.w)) a)),S');rw[wS hq];rfl
 have o2:=uH (d+3) r (.d (.tuple (F.map Ft.d))) (.tuple (F.map Ft.d)) (λ a=>(f0 F a).d) S (λ _=>rfl) λ a ha=>gN (by rw[xAb,pT (by have:=f2' a ha;omega)];rfl)
 have o2':cl fns (d+5) 9 [.d r.d,.d (.tuple (F.map Ft.d))] S=qq (.d (.tuple ((hZ r F).map Fc.d)),S):=by
  rw[o2,aT2,bN,yBs];rfl
 obtain⟨w1,w2⟩:=rZ f1;have nk:=aOp d r.wd r.w r.args (jF r) (bB r (rs.map (·.w))) (hZ r F) m w1 (aPU p hr) w2 hm S;have nk':cl fns (d+5) 18 [.d r.d,.d (.tuple ((bB r (rs.map (·.w))).map nD)),.d (.tuple ((hZ r F).map Fc.d)),.d (.int m)] S=qq (.d (.tuple ((kJ rs F r m).map nD)),S):=nk;have lz:∀ fa:FE,∀ env:aX,fa env S=qq (.d (.tuple ((lY r).map nD)),S)->env[6]? = qq (qq (.d (.tuple ((kJ rs F r m).map nD))))->rX fa (hJ 6) env S=qq ((eQ rs F r m).map pD,S):=λ fa env h h6=>aOX h (aGj h6) (by omega)
 rw[aY rfl (d+5) _ S rfl];simp only[evs,fD,aE8,i0,e1,hc,kZ,lA,o2',nk'];rw[lz _ _ (by simp only[evs,pG (d+4)];rfl) rfl]
 simp only[gS0,True]
end
noncomputable def cO(M:List Nat)(q:Nat×Nat):List Nat:=M.set q.1 (M.getD q.1 0|||q.2)
noncomputable def fW(rs:List Rw)(F:List Ft)(M:List Nat)(k:Nat):List Nat:=match rs[k]? with
 | some r=>(eQ rs F r (M.getD k 0)).foldl cO M
 | none=>M
noncomputable def jW(rs:List Rw)(F:List Ft):Nat->List Nat->List Nat
 | 0,M=>M
 | k+1,M=>jW rs F k (fW rs F M k)
noncomputable def fP(rs:List Rw)(M:List Nat)(o:Nat):List Nat:=M.set o (2^g0 (rs.map (·.w)) o-1)
noncomputable def mU(rs:List Rw)(aE:List Nat):List Nat:=aE.foldl (fP rs) (yAd rs.length 0)
noncomputable def fS(rs:List Rw)(F:List Ft)(aE:List Nat):List Nat:=jW rs F rs.length (mU rs aE)
structure Bd(rs:List Rw)(M:List Nat):Prop where
 l:M.length=rs.length
 lt:∀ (i:Nat) (r:Rw),rs[i]? = qq r->M.getD i 0<2^r.w
theorem aE4{α β:Type}{f:β->α->β}{l:List α}{j:Nat}{q:α}(M:β)(h:l[j]? = qq q):(l.take (j+1)).foldl f M=f ((l.take j).foldl f M) q:=by
 rw[List.take_add_one,h];simp
theorem yF{M:List Nat}{a i v:Nat}(h:a≠i):(M.set a v).getD i 0=M.getD i 0:=by
 rw[xAh,xAh,yAz h]
theorem yG{M:List Nat}{a v:Nat}(h:a<M.length):(M.set a v).getD a 0=v:=by
 rw[xAh,yAy h];rfl
theorem aCu{M:List Nat}{i:Nat}(h:i<M.length):M[i]? = qq (M.getD i 0):=by
 rw[xAh,yAa h];rfl
section
variable {rs : List Rw}{F : List Ft}{r : Rw}{k m : Nat}{M : List Nat}
theorem aAv(p:Prg rs)(hr:rs[k]? = qq r)(hm:m<2^r.w)(q:Nat×Nat)(hq:q∈eQ rs F r m):q.1<k/\∀ r',rs[q.1]? = qq r'->q.2<2^r'.w:=by
 obtain⟨f1,f2⟩:=p.fit k r hr;obtain⟨w1,w2⟩:=rZ f1;obtain⟨c,hc⟩:=yFz hq;obtain⟨a,b⟩:=q;unfold eQ at hc;rw[List.getElem?_zip_eq_some] at hc;obtain⟨h1,h2⟩:=hc;refine⟨f2 a (xAl h1),λ r' hr'=>?_⟩
 have hv:(bB r (rs.map (·.w)))[c]? = qq r'.w:=by
  unfold bB;have h1':(r.args.take (aJ r.wd))[c]? = qq a:=h1;rw[xAb,h1'];show qq (g0 (rs.map (·.w)) a)=_;rw[wS hr']
 have:=aOT r.wd r.w (jF r) (bB r (rs.map (·.w))) (hZ r F) m c r'.w w1 hm hv;have e:(kJ rs F r m).getD c 0=b:=by
  rw[xAh,h2];rfl
 rw[<- e];exact this
theorem aJw(h:Bd rs M){q:Nat×Nat}(h1:q.1<rs.length)(h2:∀ r',rs[q.1]? = qq r'->q.2<2^r'.w):Bd rs (cO M q):=by
 refine⟨by unfold cO;rw[yBi];exact h.l,λ i r hr=>?_⟩
 unfold cO
 by_cases c:q.1=i
 ·rw[c] at h1 h2 ⊢;rw[yG (by rw[h.l];exact h1)]
  exact yBh (h.lt i r hr) (h2 r hr)
 ·rw[yF c];exact h.lt i r hr
theorem aIe(p:Prg rs)(hr:rs[k]? = qq r)(hm:m<2^r.w):∀ (l:List (Nat×Nat)) (M:List Nat),(∀ q∈l,q∈eQ rs F r m)->Bd rs M->Bd rs (l.foldl cO M)
 | [],_,_,h=>h
 | q::l,M,hl,h=>by
   have hk:k<rs.length:=(gIm hr).1;obtain⟨a,b⟩:=aAv p hr hm q (hl q xAd);exact aIe p hr hm l _ (λ x hx=>hl x (xAg _ hx)) (aJw h (by omega) b)
theorem aHg:Bd rs (yAd rs.length 0):=by
 refine⟨yDz,λ i r hr=>?_⟩
 have hi:i<rs.length:=(gIm hr).1;rw[xAh,yFc,if_pos hi];exact xAf _
theorem aMR{o:Nat}(hr:rs[o]? = qq r):fP rs M o=M.set o (2^r.w-1):=by
 unfold fP;rw[wS hr]
theorem aG7(h:Bd rs M){o:Nat}(ho:o<rs.length):Bd rs (fP rs M o):=by
 refine⟨by unfold fP;rw[yBi];exact h.l,λ i r hr=>?_⟩
 unfold fP
 by_cases c:o=i
 ·subst c;rw[yG (by rw[h.l];exact ho),wS hr]
  have:=xAf r.w;omega
 ·rw[yF c];exact h.lt i r hr
theorem aG4:∀ (l:List Nat) (M:List Nat),(∀ o∈l,o<rs.length)->Bd rs M->Bd rs (l.foldl (fP rs) M)
 | [],_,_,h=>h
 | o::l,M,hl,h=>aG4 l _ (λ x hx=>hl x (xAg _ hx)) (aG7 h (hl o xAd))
theorem aHd(S:aC)(M:List Nat)(a v:Nat)(ha:a<M.length):jU (S++[qq (M.map nD)]) (.loc S.length) (.d (.int a)) (.d (.int v))=qq (S++[qq ((M.set a v).map nD)]):=by
 unfold jU;simp only[uA];unfold jM;rw[yAb,if_pos (by omega),if_pos (by omega),oB,yAr,List.set_append_right _ _ (yAc _),yBm,List.map_set]
 rfl
theorem aIn{M:List Nat}{i:Nat}(h:i<M.length):aP (.list (M.map nD)) (.int i)=qq (.int ((M.getD i 0:Nat):Int)):=iW (by rw[xAb,aCu h];rfl)
theorem aSO{fa fb:FE}{env:aX}{S:aC}{n:Nat}(h1:fa env S=qq (.d (.list [.int 0]),S))(h2:fb env S=qq (.d (.int n),S))(hn:n<=1000):vX fa fb env S=qq ((yAd n 0).map nD,S):=by
 have hz:(([.int 0]:List D)).length*(((n:Nat):Int)).toNat<=qk:=by rw[yAr,zj];simp;omega
 have hd:dr S (.d (.list [.int 0]))=qq (.list [.int 0]):=rfl;unfold vX;rw[h1,oB,h2,oB];show((dr S (.d (.list [.int 0]))).bind _)=_;rw[hd,oB];show(if ((n:Nat):Int)<2^63 /\ -(2^63)<=((n:Nat):Int)/\(([.int 0]:List D)).length*(((n:Nat):Int)).toNat<=qk then qq (wQ (((n:Nat):Int)).toNat [yAn 0],S) else qz)=_
 rw[if_pos ⟨by omega,by omega,hz⟩,yAr,aN6,yGm]
 rfl
theorem aMH(d:Nat)(p:Prg rs)(hr:rs[k]? = qq r)(hF:F.length=rs.length)(o:D)(S:aC)(h:Bd rs M)(c3 c5 c6 c7 c8:Option W):∃ c7' c8':Option W,Bd rs (fW rs F M k)/\dC (.many [7,8]) (lv (aD fns (d+6)) zD) (xs (aD fns (d+6)) zA) [qq (.d (.tuple [.tuple (rs.map Rw.d),o])),qq (.d (.tuple (F.map Ft.d))),qq (.loc S.length),c3,qq (.d (.int k)),c5,c6,c7,c8] (S++[qq (M.map nD)])=qq (.nx [qq (.d (.tuple [.tuple (rs.map Rw.d),o])),qq (.d (.tuple (F.map Ft.d))),qq (.loc S.length),c3,qq (.d (.int k)),c5,c6,c7',c8'],S++[qq ((fW rs F M k).map nD)]):=by
 have hk:k<rs.length:=(gIm hr).1;have hm:=h.lt k r hr;have e0:=aIn (M:=M) (i:=k) (by rw[h.l];exact hk)
 have rn:=aLv d p hr hF hm o (S++[qq (M.map nD)]);have eR:fW rs F M k=(eQ rs F r (M.getD k 0)).foldl cO M:=by unfold fW;rw[hr]
 obtain⟨aN,S',p1,c7',c8',hb,rfl,rfl⟩:=pQ (t:=.many [7,8]) (fi:=lv (aD fns (d+6)) zD) (fb:=xs (aD fns (d+6)) zA) (env:=[qq (.d (.tuple [.tuple (rs.map Rw.d),o])),qq (.d (.tuple (F.map Ft.d))),qq (.loc S.length),c3,qq (.d (.int k)),c5,c6,c7,c8]) (S:=S++[qq (M.map nD)]) (S1:=S++[qq (M.map nD)]) (ds:=(eQ rs F r (M.getD k 0)).map pD)
  (λ j env S'=>∃ c7 c8:Option W,Bd rs (((eQ rs F r (M.getD k 0)).take j).foldl cO M)/\env=[qq (.d (.tuple [.tuple (rs.map Rw.d),o])),qq (.d (.tuple (F.map Ft.d))),qq (.loc S.length),c3,qq (.d (.int k)),c5,c6,c7,c8]/\S'=S++[qq ((((eQ rs F r (M.getD k 0)).take j).foldl cO M).map nD)])
  (by simp only[evs,zD,uA,e0,rn,fG]) ⟨c7,c8,h,rfl,rfl⟩ (by
    rintro j dd env S' hd ⟨c7,c8,hb,rfl,rfl⟩;rw[xAb] at hd;obtain⟨q,hq,rfl⟩:=Option.map_eq_some_iff.mp hd;obtain⟨q1,q2⟩:=aAv p hr hm q (xAl hq);have ql:q.1<(((eQ rs F r (M.getD k 0)).take j).foldl cO M).length:=by rw[hb.l];omega
    have ft:=aE4 (f:=cO) M hq;have e1:=aIn ql;have pe:jU (S++[qq ((((eQ rs F r (M.getD k 0)).take j).foldl cO M).map nD)]) (.loc S.length) (.d (.int (q.1:Nat))) (.d (.int (((((eQ rs F r (M.getD k 0)).take j).foldl cO M).getD q.1 0|||q.2:Nat):Int)))=qq (S++[qq ((cO (((eQ rs F r (M.getD k 0)).take j).foldl cO M) q).map nD)]):=aHd S _ q.1 _ ql
    refine⟨[qq (.d (.tuple [.tuple (rs.map Rw.d),o])),qq (.d (.tuple (F.map Ft.d))),qq (.loc S.length),c3,qq (.d (.int k)),c5,c6,qq (.d (.int (q.1:Nat))),qq (.d (.int (q.2:Nat)))],[qq (.d (.tuple [.tuple (rs.map Rw.d),o])),qq (.d (.tuple (F.map Ft.d))),qq (.loc S.length),c3,qq (.d (.int k)),c5,c6,qq (.d (.int (q.1:Nat))),qq (.d (.int (q.2:Nat)))],S++[qq ((cO (((eQ rs F r (M.getD k 0)).take j).foldl cO M) q).map nD)],rfl,?_,_,_,?_,rfl,by rw[ft]⟩
    ·simp only[gS1,zA,uA,e1,cN,lQ,pe]
    ·rw[ft];exact aJw hb (by omega) q2)
 rw[yAb,yAh,<- eR] at hb p1;exact⟨c7',c8',hb,p1⟩
theorem aGw(d:Nat)(p:Prg rs)(hF:F.length=rs.length)(aE:List Nat)(ho:∀ o∈aE,o<rs.length)(S:aC):Bd rs (fS rs F aE)/\cl fns (d+7) 20 [.d (.tuple [.tuple (rs.map Rw.d),.tuple (aE.map nD)]),.d (.tuple (F.map Ft.d))] S=qq (.d (.tuple ((fS rs F aE).map nD)),S):=by
 have pl:=p.l;have lR:dQ [.tuple (rs.map Rw.d)]=qq (.int rs.length):=by
  show qq (yAn (((rs.map Rw.d).length:Nat):Int))=_;rw[yAb]
 obtain⟨env1,S1,p1,c3,hb0,rfl,rfl⟩:=pQ (t:=.one 3) (fi:=lv (aD fns (d+6)) aBT) (fb:=xs (aD fns (d+6)) aB0) (env:=[qq (.d (.tuple [.tuple (rs.map Rw.d),.tuple (aE.map nD)])),qq (.d (.tuple (F.map Ft.d))),qq (.loc S.length),qz,qz,qq (.d (.tuple (rs.map Rw.d))),qq (.d (.tuple (aE.map nD))),qz,qz]) (S:=S++[qq ((yAd rs.length 0).map nD)]) (S1:=S++[qq ((yAd rs.length 0).map nD)]) (ds:=aE.map nD)
  (λ j env S'=>∃ c3:Option W,Bd rs ((aE.take j).foldl (fP rs) (yAd rs.length 0))/\env=[qq (.d (.tuple [.tuple (rs.map Rw.d),.tuple (aE.map nD)])),qq (.d (.tuple (F.map Ft.d))),qq (.loc S.length),c3,qz,qq (.d (.tuple (rs.map Rw.d))),qq (.d (.tuple (aE.map nD))),qz,qz]/\S'=S++[qq (((aE.take j).foldl (fP rs) (yAd rs.length 0)).map nD)])
  (by simp only[evs,aBT,fG]) ⟨qz,aHg,rfl,rfl⟩ (by
    rintro j dd env S' hd ⟨c3,hb,rfl,rfl⟩;rw[xAb] at hd;obtain⟨q,hq,rfl⟩:=Option.map_eq_some_iff.mp hd;have hql:=ho q (xAl hq);have hr:rs[q]? = qq rs[q]:=yAa hql;have ft:=aE4 (f:=fP rs) (yAd rs.length 0) hq;have wo:=aIp (d+5) q hr (.tuple (aE.map nD)) (S++[qq (((aE.take j).foldl (fP rs) (yAd rs.length 0)).map nD)]);have fu:=dH (d+5) rs[q].w (by have:=(p.ws q _ hr).2;omega) (S++[qq (((aE.take j).foldl (fP rs) (yAd rs.length 0)).map nD)])
    have pe:jU (S++[qq (((aE.take j).foldl (fP rs) (yAd rs.length 0)).map nD)]) (.loc S.length) (.d (.int q)) (.d (.int ((2^rs[q].w-1:Nat):Int)))=qq (S++[qq ((fP rs ((aE.take j).foldl (fP rs) (yAd rs.length 0)) q).map nD)]):=by
     rw[aMR hr];exact aHd S _ q _ (by rw[hb.l];exact hql)
    refine⟨[qq (.d (.tuple [.tuple (rs.map Rw.d),.tuple (aE.map nD)])),qq (.d (.tuple (F.map Ft.d))),qq (.loc S.length),qq (.d (.int q)),qz,qq (.d (.tuple (rs.map Rw.d))),qq (.d (.tuple (aE.map nD))),qz,qz],[qq (.d (.tuple [.tuple (rs.map Rw.d),.tuple (aE.map nD)])),qq (.d (.tuple (F.map Ft.d))),qq (.loc S.length),qq (.d (.int q)),qz,qq (.d (.tuple (rs.map Rw.d))),qq (.d (.tuple (aE.map nD))),qz,qz],S++[qq ((fP rs ((aE.take j).foldl (fP rs) (yAd rs.length 0)) q).map nD)],rfl,?_,_,?_,rfl,by rw[ft]⟩
    ·simp only[gS1,aB0,wo,fu,lQ,pe]
    ·rw[ft];exact aG7 hb hql)
 rw[yAb,yAh] at hb0 p1;have un1:oS .USub (.int 1)=qq (.int (-1)):=rfl;have i3:lv (aD fns (d+6)) zE [qq (.d (.tuple [.tuple (rs.map Rw.d),.tuple (aE.map nD)])),qq (.d (.tuple (F.map Ft.d))),qq (.loc S.length),c3,qz,qq (.d (.tuple (rs.map Rw.d))),qq (.d (.tuple (aE.map nD))),qz,qz] (S++[qq ((mU rs aE).map nD)])=qq (kW (((rs.length:Nat):Int)-1) rs.length,S++[qq ((mU rs aE).map nD)]):=by
  have hc:(-(2^62)<=((rs.length:Nat):Int)-1/\((rs.length:Nat):Int)-1<2^62 /\ -(2^62)<=(-1:Int)/\(-1:Int)<2^62)/\(-1:Int) = -1:=⟨⟨by omega,by omega,by decide,by decide⟩,rfl⟩
  have hn:(((rs.length:Nat):Int)-1-(-1)).toNat=rs.length:=by omega
  simp only[evs,zE,aAL,lR,cQ,un1];rw[if_pos ⟨hc.1,True.intro⟩,hn]
 obtain⟨env2,S2,p2,c4,c7,c8,M,hb,hM,rfl,rfl⟩:=pQ (t:=.one 4) (fi:=lv (aD fns (d+6)) zE) (fb:=xs (aD fns (d+6)) aBY) (env:=[qq (.d (.tuple [.tuple (rs.map Rw.d),.tuple (aE.map nD)])),qq (.d (.tuple (F.map Ft.d))),qq (.loc S.length),c3,qz,qq (.d (.tuple (rs.map Rw.d))),qq (.d (.tuple (aE.map nD))),qz,qz]) (S:=S++[qq ((mU rs aE).map nD)]) (S1:=S++[qq ((mU rs aE).map nD)]) (ds:=kW (((rs.length:Nat):Int)-1) rs.length)
  (λ j env S'=>∃ (c4 c7 c8:Option W) (M:List Nat),Bd rs M/\jW rs F (rs.length-j) M=fS rs F aE/\env=[qq (.d (.tuple [.tuple (rs.map Rw.d),.tuple (aE.map nD)])),qq (.d (.tuple (F.map Ft.d))),qq (.loc S.length),c3,c4,qq (.d (.tuple (rs.map Rw.d))),qq (.d (.tuple (aE.map nD))),c7,c8]/\S'=S++[qq (M.map nD)])
  i3 ⟨qz,qz,qz,mU rs aE,hb0,rfl,rfl,rfl⟩ (by
   rintro j dd env S' hd ⟨c4,c7,c8,M,hb,hM,rfl,rfl⟩;have hj:j<rs.length:=by
    have:=(gIm hd).1;rw[qV] at this;exact this
   rw[aBK _ _ j hj] at hd;have ek:((rs.length:Nat):Int)-1-((j:Nat):Int)=((rs.length-1-j:Nat):Int):=by omega
   rw[ek] at hd;cases hd;have hr:rs[rs.length-1-j]? = qq rs[rs.length-1-j]:=yAa (by omega)
   obtain⟨c7',c8',hb',e⟩:=aMH d p hr hF (.tuple (aE.map nD)) S hb c3 (qq (.d (.tuple (rs.map Rw.d)))) (qq (.d (.tuple (aE.map nD)))) c7 c8;refine⟨[qq (.d (.tuple [.tuple (rs.map Rw.d),.tuple (aE.map nD)])),qq (.d (.tuple (F.map Ft.d))),qq (.loc S.length),c3,qq (.d (.int ((rs.length-1-j:Nat):Int))),qq (.d (.tuple (rs.map Rw.d))),qq (.d (.tuple (aE.map nD))),c7,c8],[qq (.d (.tuple [.tuple (rs.map Rw.d),.tuple (aE.map nD)])),qq (.d (.tuple (F.map Ft.d))),qq (.loc S.length),c3,qq (.d (.int ((rs.length-1-j:Nat):Int))),qq (.d (.tuple (rs.map Rw.d))),qq (.d (.tuple (aE.map nD))),c7',c8'],S++[qq ((fW rs F M (rs.length-1-j)).map nD)],rfl,?_,_,_,_,_,hb',?_,rfl,rfl⟩
   ·simp only[gS1,aBY,e]
   ·rw[<- hM,show rs.length-j=(rs.length-1-j)+1 by omega]
    show _=jW rs F (rs.length-1-j) (fW rs F M (rs.length-1-j));rw[show rs.length-(j+1)=rs.length-1-j by omega])
 rw[qV,yBm] at hM;have hM':M=fS rs F aE:=hM;subst hM';refine⟨hb,?_⟩;have tk1:∀ x,yEk S.length (S++[x])=S:=λ x=>List.take_left
 have q0:xs (aD fns (d+6)) (dX gD) [qq (.d (.tuple [.tuple (rs.map Rw.d),.tuple (aE.map nD)])),qq (.d (.tuple (F.map Ft.d))),qz,qz,qz,qz,qz,qz,qz] S=qq (.nx [qq (.d (.tuple [.tuple (rs.map Rw.d),.tuple (aE.map nD)])),qq (.d (.tuple (F.map Ft.d))),qz,qz,qz,qq (.d (.tuple (rs.map Rw.d))),qq (.d (.tuple (aE.map nD))),qz,qz],S):=by
  simp only[gS2,dX,gD,True]
 have q1:xs (aD fns (d+6)) (dX (aU gD)) [qq (.d (.tuple [.tuple (rs.map Rw.d),.tuple (aE.map nD)])),qq (.d (.tuple (F.map Ft.d))),qz,qz,qz,qq (.d (.tuple (rs.map Rw.d))),qq (.d (.tuple (aE.map nD))),qz,qz] S=qq (.nx [qq (.d (.tuple [.tuple (rs.map Rw.d),.tuple (aE.map nD)])),qq (.d (.tuple (F.map Ft.d))),qq (.loc S.length),qz,qz,qq (.d (.tuple (rs.map Rw.d))),qq (.d (.tuple (aE.map nD))),qz,qz],S++[qq ((yAd rs.length 0).map nD)]):=by
  simp only[dX,aU,gD,aAl,aCP,aHt,iP,iO];rw[aSO (n:=rs.length) (by simp only[evs]) (by simp only[evs,lR]) (by omega)]
  simp only[gS0,True]
 have e:gD=.seq (dX gD) (.seq (dX (aU gD)) (.seq (dX (aU (aU gD))) (.seq (dX (aU (aU (aU gD)))) (aU (aU (aU (aU gD))))))):=rfl;have p1':xs (aD fns (d+6)) (dX (aU (aU gD))) [qq (.d (.tuple [.tuple (rs.map Rw.d),.tuple (aE.map nD)])),qq (.d (.tuple (F.map Ft.d))),qq (.loc S.length),qz,qz,qq (.d (.tuple (rs.map Rw.d))),qq (.d (.tuple (aE.map nD))),qz,qz] (S++[qq ((yAd rs.length 0).map nD)])=qq (.nx [qq (.d (.tuple [.tuple (rs.map Rw.d),.tuple (aE.map nD)])),qq (.d (.tuple (F.map Ft.d))),qq (.loc S.length),c3,qz,qq (.d (.tuple (rs.map Rw.d))),qq (.d (.tuple (aE.map nD))),qz,qz],S++[qq ((mU rs aE).map nD)]):=p1;have p2':xs (aD fns (d+6)) (dX (aU (aU (aU gD)))) [qq (.d (.tuple [.tuple (rs.map Rw.d),.tuple (aE.map nD)])),qq (.d (.tuple (F.map Ft.d))),qq (.loc S.length),c3,qz,qq (.d (.tuple (rs.map Rw.d))),qq (.d (.tuple (aE.map nD))),qz,qz] (S++[qq ((mU rs aE).map nD)])=qq (.nx [qq (.d (.tuple [.tuple (rs.map Rw.d),.tuple (aE.map nD)])),qq (.d (.tuple (F.map Ft.d))),qq (.loc S.length),c3,c4,qq (.d (.tuple (rs.map Rw.d))),qq (.d (.tuple (aE.map nD))),c7,c8],S++[qq ((fS rs F aE).map nD)]):=p2;have fl:xs (aD fns (d+6)) gD [qq (.d (.tuple [.tuple (rs.map Rw.d),.tuple (aE.map nD)])),qq (.d (.tuple (F.map Ft.d))),qz,qz,qz,qz,qz,qz,qz] S=qq (.rt (.d (.tuple ((fS rs F aE).map nD))),S++[qq ((fS rs F aE).map nD)]):=by
  rw[e,pP q0,pP q1,pP p1',pP p2'];simp only[gS2,aU,gD,uA,kZ,lA]
 rw[aY rfl (d+6) _ S rfl];show((xs (aD fns (d+6)) gD [qq (.d (.tuple [.tuple (rs.map Rw.d),.tuple (aE.map nD)])),qq (.d (.tuple (F.map Ft.d))),qz,qz,qz,qz,qz,qz,qz] S).bind _)=_;rw[fl];simp only[oB,lS,tk1]
end
theorem aFQ{α:Type}(g:α->Bool)(l:List α):rK (l.map λ x=>yDr (g x))=qq (l.map g):=by
 induction l with
 | nil=>rfl
 | cons x r ih=>simp only[yBb,rK,ih,yCc]
theorem aQn{α:Type}(g:α->Bool)(l:List α):sL [.list (l.map λ x=>yDr (g x))]=qq (.bool (l.any g)):=by
 simp only[sL,aFQ,oB];congr 2;rw[List.any_map];rfl
section
variable {rs : List Rw}{F : List Ft}{r : Rw}{k m : Nat}{M : List Nat}
theorem aOs{M:List Nat}{i:Nat}(h:i<M.length):aP (.tuple (M.map nD)) (.int i)=qq (.int ((M.getD i 0:Nat):Int)):=gN (by rw[xAb,aCu h];rfl)
end
section
variable {rs : List Rw}{F : List Ft}{r : Rw}{k m : Nat}{M : List Nat}
theorem aN5{n j:Nat}{dd:D}(h:((yAm n).map λ k=>yAn ((k:Nat):Int))[j]? = qq dd):j<n/\dd=.int j:=by
 have hj:j<n:=by
  have:=(gIm h).1;simpa using this
 rw[xAb,List.getElem?_range hj] at h;cases h;exact⟨hj,rfl⟩
end
def Sb(a b:Nat):Prop:=∀ i,a.testBit i=true->b.testBit i=true
theorem Sb.refl(a:Nat):Sb a a:=λ _ h=>h
theorem aGu:∀ (l:List (Nat×Nat)) (M:List Nat) (i:Nat),(∀ q∈l,q.1≠i)->(l.foldl cO M).getD i 0=M.getD i 0
 | [],_,_,_=>rfl
 | q::l,M,i,h=>by
   show(l.foldl cO (cO M q)).getD i 0=_;rw[aGu l (cO M q) i λ x hx=>h x (xAg _ hx)]
   unfold cO;exact yF (h q xAd)
section
variable {rs : List Rw}{F : List Ft}{r : Rw}{k m : Nat}{M : List Nat}
theorem aCC(hr:rs[k]? = qq r):fW rs F M k=(eQ rs F r (M.getD k 0)).foldl cO M:=by unfold fW;rw[hr]
theorem aGP(p:Prg rs)(hk:k<rs.length)(h:Bd rs M):Bd rs (fW rs F M k):=by
 have hr:rs[k]? = qq rs[k]:=yAa hk;rw[aCC hr];exact aIe p hr (h.lt k _ hr) _ M (λ q hq=>hq) h
theorem aNw(p:Prg rs)(h:Bd rs M){i:Nat}(hi:k<=i)(hk:k<rs.length):(fW rs F M k).getD i 0=M.getD i 0:=by
 have hr:rs[k]? = qq rs[k]:=yAa hk;rw[aCC hr];refine aGu _ M i λ q hq=>?_
 have:=(aAv p hr (h.lt k _ hr) q hq).1;omega
theorem aGL(p:Prg rs):∀ (k:Nat) (M:List Nat) (i:Nat),Bd rs M->k<=rs.length->k<=i+1->(jW rs F k M).getD i 0=M.getD i 0
 | 0,_,_,_,_,_=>rfl
 | k+1,M,i,h,hk,hi=>by
   show(jW rs F k (fW rs F M k)).getD i 0=_;rw[aGL p k _ i (aGP p (by omega) h) (by omega) (by omega),aNw p h (by omega) (by omega)]
end
theorem aDt(n b:Nat):((((n/2^b)&&&1:Nat):Int)==1)=n.testBit b:=by
 rw[iE,Nat.and_one_is_mod,yFm];cases h:decide (n/2^b%2=1) with
 | true=>rw[oqT h];rfl
 | false=>rw[beq_eq_false_iff_ne];exact of_decide_eq_false h
noncomputable def aG:Option Nat->D
 | none=>.none
 | some n=>.int n
theorem pX(a b:Option Nat):aM .Eq (aG a) (aG b)=qq (.bool (decide (a=b))):=by
 cases a with
 | none =>
   cases b with
   | none=>rfl
   | some n=>rfl
 | some m =>
   cases b with
   | none=>rfl
   | some n =>
     show aM .Eq (.int m) (.int n)=_;rw[aO];congr 2
     by_cases c:m=n
     ·subst c;rw[beq_self_eq_true,dqT rfl]
     ·rw[dqF (λ h=>c (Option.some.inj h)),beq_eq_false_iff_ne]
      omega
theorem aAy(a:Option Nat):aM .IsNot (aG a) .none=qq (.bool a.isSome):=by
 cases a<;>rfl
theorem zL(d m y:Nat)(S:aC):cl fns (d+1) 49 [.d (.int m),.d (.int y)] S=qq (.d (.bool (bL m y==0)),S):=by
 rw[aY rfl d _ S rfl];simp only[gR1,aIg,aGV,aGB,aO,bX]
noncomputable def eS(f:Ft)(m:Nat):Option Nat:=if f.O&&&m=0\/(f.O&&&m)&&&((f.O&&&m)-1)≠0\/bL m (f.N|||f.O)≠0 then qz else qq (bl (f.O&&&m)-1)
theorem jB{n:Nat}(h:n=0):(n==0)=true:=by rw[h];rfl
theorem iM{n:Nat}(h:¬ n=0):(n==0)=false:=beq_eq_false_iff_ne.mpr h
theorem aFR(d:Nat)(f:Ft)(m:Nat)(S:aC):cl fns (d+2) 50 [.d f.d,.d (.int m)] S=qq (.d (aG (eS f m)),S):=by
 have e1:=zL d m (f.N|||f.O) S
 have e2:=tW d f S;have f1:=dS f;obtain⟨o,ho⟩:∃ o,o=f.O&&&m:=⟨_,rfl⟩;have e3:=uC d o S;have b1:bS .BitAnd (.int f.O) (.int m)=qq (.int o):=by rw[ho];exact cY _ _
 rw[aY rfl (d+1) _ S rfl];unfold eS;rw[<- ho]
 by_cases c1:o=0
 ·have t1:=jB c1;rw[if_pos (.inl c1)];simp only[gR1,tL,f1,b1,aO,bX,t1]
 ·have t1:=iM c1;have s1:((o:Nat):Int)-1=((o-1:Nat):Int):=by omega
  by_cases c2:o&&&(o-1)=0
  ·have t2:=jB c2
   by_cases c3:bL m (f.N|||f.O)=0
   ·have t3:=jB c3;have s2:((bl o:Nat):Int)-1=((bl o-1:Nat):Int):=by have:=rQ (n:=o) (by omega);omega
    rw[if_neg (λ h=>h.elim c1 λ h=>h.elim (λ h=>h c2) λ h=>h c3)]
    rw[t3] at e1;simp only[gR1,tL,f1,b1,aO,iX,bX,t1,cQ,s1,cY,t2,e1,e2,e3,s2,yDs,yDi]
   ·have t3:=iM c3;rw[if_pos (.inr (.inr c3))];rw[t3] at e1;simp only[gR1,tL,f1,b1,aO,iX,bX,t1,cQ,s1,cY,t2,e1,e2,yDs,yDi]
  ·have t2:=iM c2;rw[if_pos (.inr (.inl c2))];simp only[gR1,tL,f1,b1,aO,iX,bX,t1,cQ,s1,cY,t2,yDs,yDi]
noncomputable def pg(P:List (Option Nat))(i:Nat):Option Nat:=P.getD i qz
theorem sG{P:List (Option Nat)}{i:Nat}(h:i<P.length):aP (.tuple (P.map aG)) (.int i)=qq (aG (pg P i)):=gN (by
 rw[xAb,yAa h];show qq (aG P[i])=qq (aG (P.getD i qz));rw[xAh,yAa h];rfl)
theorem wG{P:List (Option Nat)}(h:0<P.length):aP (.tuple (P.map aG)) (.int 0)=qq (aG (pg P 0)):=sG h
theorem qG{P:List (Option Nat)}(h:1<P.length):aP (.tuple (P.map aG)) (.int 1)=qq (aG (pg P 1)):=sG h
theorem aJL{P:List (Option Nat)}(h:2<P.length):aP (.tuple (P.map aG)) (.int 2)=qq (aG (pg P 2)):=sG h
noncomputable def gI(P:List (Option Nat)):Bool:=decide (pg P 0=pg P 1)
noncomputable def sX(wd:Wd):Bool:=decide (wd=.xor\/wd=.sub\/wd=.less\/wd=.under)
theorem aTl(a:Wd):aM .In (.str a.s) (.tuple [.str "xor",.str "sub",.str "less",.str "under"])=qq (.bool (sX a)):=by cases a<;>rfl
noncomputable def kE(wd:Wd)(f:Ft)(m:Nat)(P:List (Option Nat)):Option Nat:=if bL m (f.N|||f.O)=0 then qq f.O else if (sX wd&&gI P)=true then qq 0 else if (decide (wd=.same)&&gI P)=true then qq 1 else qz
theorem vA{wd:Wd}{P:List (Option Nat)}(hP:P.length=aJ wd)(h:sX wd=true\/wd=.same):1<P.length:=by
 rw[hP]
 revert h
 cases wd<;>decide
theorem aKV(d:Nat)(r:Rw)(f:Ft)(m:Nat)(P:List (Option Nat))(hP:P.length=aJ r.wd)(S:aC):cl fns (d+2) 51 [.d r.d,.d f.d,.d (.int m),.d (.tuple (P.map aG))] S=qq (.d (aG (kE r.wd f m P)),S):=by
 have e1:=zL d m (f.N|||f.O) S
 have e2:=tW d f S;have f1:=dS f;have r0:=lD r;have i1:=aTl r.wd;have i2:aM .Eq (.str r.wd.s) (.str "same")=qq (.bool (decide (r.wd=.same))):=bJ r.wd .same;have q:=pX (pg P 0) (pg P 1);rw[aY rfl (d+1) _ S rfl];unfold kE
 by_cases c1:bL m (f.N|||f.O)=0
 ·rw[if_pos c1];rw[jB c1] at e1;simp only[gR1,pC,r0,e1,e2,f1]
 ·rw[if_neg c1];rw[iM c1] at e1;cases c2:sX r.wd with
  | true =>
    have ns:decide (r.wd=.same)=false:=by
     rw[decide_eq_false_iff_not];intro h;rw[h] at c2;cases c2
    have p0:=wG (P:=P) (by have:=vA hP (.inl c2);omega)
    have p1:=qG (vA hP (.inl c2));rw[c2] at i1;rw[ns] at i2;rw[ns,yAo,yAl];cases c3:gI P with
    | true =>
      have q':aM .Eq (aG (pg P 0)) (aG (pg P 1))=qq (.bool true):=by rw[q];exact congrArg _ (congrArg _ c3)
      simp only[gR1,pC,r0,e1,e2,i1,p0,p1,q']
    | false =>
      have q':aM .Eq (aG (pg P 0)) (aG (pg P 1))=qq (.bool false):=by rw[q];exact congrArg _ (congrArg _ c3)
      simp only[gR1,pC,r0,e1,e2,i1,i2,p0,p1,q']
  | false =>
    rw[c2] at i1;rw[yAl,if_neg yAx];cases c3:decide (r.wd=.same) with
    | true =>
      have p0:=wG (P:=P) (by have:=vA hP (.inr (oqT c3));omega)
      have p1:=qG (vA hP (.inr (oqT c3)));rw[c3] at i2;rw[yAo];cases c4:gI P with
      | true =>
        have q':aM .Eq (aG (pg P 0)) (aG (pg P 1))=qq (.bool true):=by rw[q];exact congrArg _ (congrArg _ c4)
        simp only[gR1,pC,r0,e1,e2,i1,i2,p0,p1,q']
      | false =>
        have q':aM .Eq (aG (pg P 0)) (aG (pg P 1))=qq (.bool false):=by rw[q];exact congrArg _ (congrArg _ c4)
        simp only[gR1,pC,r0,e1,e2,i1,i2,p0,p1,q']
    | false =>
      rw[c3] at i2;rw[yAl,if_neg yAx];simp only[gR1,pC,r0,e1,e2,i1,i2]
noncomputable def cK(wd:Wd)(f:Ft)(m:Nat):Bool:=match wd with
 | .and=>bL m f.O==0
 | .or=>bL m f.N==0
 | .xor=>bL m f.N==0
 | .add=>bL (2^bl m-1) f.N==0
 | .sub=>bL (2^bl m-1) f.N==0
 | .mul=>decide (eS f (2^bl m-1)=qq 0)
 | _=>false
theorem aIU(a:Wd):aM .In (.str a.s) (.tuple [.str "or",.str "xor"])=qq (.bool (decide (a=.or\/a=.xor))):=by cases a<;>rfl
theorem aQO(a:Option Nat):aM .Eq (aG a) (.int 0)=qq (.bool (decide (a=qq 0))):=pX a (qq 0)
theorem aLX(d:Nat)(wd:Wd)(f:Ft)(m:Nat)(hm:m<2^64)(S:aC):cl fns (d+3) 52 [.d (.str wd.s),.d f.d,.d (.int m)] S=qq (.d (.bool (cK wd f m)),S):=by
 have f0:=dG f;have f1:=dS f;have am:=λ m y=>zL (d+1) m y S
 have bo:=zI d m S (Nat.lt_trans hm (yCb (by decide) (by decide)))
 have sb:=aFR d f (2^bl m-1) S;have i1:aM .Eq (.str wd.s) (.str "and")=qq (.bool (decide (wd=.and))):=bJ wd .and;have i2:=aIU wd;have i3:=aDf wd;have i4:aM .Eq (.str wd.s) (.str "mul")=qq (.bool (decide (wd=.mul))):=bJ wd .mul;rw[aY rfl (d+2) _ S rfl]
 by_cases c1:wd=.and
 ·rw[dqT c1] at i1;have e:cK wd f m=(bL m f.O==0):=by rw[c1];rfl
  have a1:=am m f.O;rw[e];simp only[gR1,qU,i1,f1,a1]
 ·rw[dqF c1] at i1
  by_cases c2:wd=.or\/wd=.xor
  ·rw[dqT c2] at i2;have e:cK wd f m=(bL m f.N==0):=by rcases c2 with c2 | c2<;>rw[c2]<;>rfl
   have a1:=am m f.N;rw[e];simp only[gR1,qU,i1,i2,f0,a1]
  ·rw[dqF c2] at i2
   by_cases c3:wd=.add\/wd=.sub
   ·rw[dqT c3] at i3;have e:cK wd f m=(bL (2^bl m-1) f.N==0):=by rcases c3 with c3 | c3<;>rw[c3]<;>rfl
    have a1:=am (2^bl m-1) f.N;rw[e];simp only[gR1,qU,i1,i2,i3,f0,bo,a1]
   ·rw[dqF c3] at i3
    by_cases c4:wd=.mul
    ·rw[dqT c4] at i4;have e:cK wd f m=decide (eS f (2^bl m-1)=qq 0):=by rw[c4];rfl
     have p0:=aQO (eS f (2^bl m-1));rw[e];simp only[gR1,qU,i1,i2,i3,i4,bo,sb,p0]
    ·rw[dqF c4] at i4;have e:cK wd f m=false:=by
      revert c1 c2 c3 c4
      cases wd<;>first | (intros;rfl) | (intro a b c d;exact absurd rfl a) | (intro a b c d;exact absurd (.inl rfl) b) | (intro a b c d;exact absurd (.inr rfl) b) | (intro a b c d;exact absurd (.inl rfl) c) | (intro a b c d;exact absurd (.inr rfl) c) | (intro a b c d;exact absurd rfl d)
     rw[e];simp only[gR1,qU,i1,i2,i3,i4]
noncomputable def nO(t:Ft)(P:List (Option Nat)):Option Nat:=if pg P 1=pg P 2\/t.O=1 then qq 1 else if t.N=1 then qq 2 else qz
theorem aAx{n:Nat}(h:n=1):(n==1)=true:=by rw[h];rfl
theorem aAM{n:Nat}(h:¬ n=1):(n==1)=false:=beq_eq_false_iff_ne.mpr h
theorem aNI(d:Nat)(t:Ft)(P:List (Option Nat))(hP:P.length=3)(S:aC):cl fns (d+1) 53 [.d t.d,.d (.tuple (P.map aG))] S=qq (.d (aG (nO t P)),S):=by
 have f0:=dG t;have f1:=dS t;have p1:=qG (P:=P) (by omega)
 have p2:=aJL (P:=P) (by omega)
 have q:=pX (pg P 1) (pg P 2);rw[aY rfl d _ S rfl];unfold nO
 by_cases c1:pg P 1=pg P 2
 ·rw[if_pos (.inl c1)];rw[dqT c1] at q;simp only[gR1,tJ,p1,p2,q]
 ·rw[dqF c1] at q
  by_cases c2:t.O=1
  ·have o1:=aAx c2;rw[if_pos (.inr c2)];simp only[gR1,tJ,p1,p2,q,f1,aO,iE,o1]
  ·have o1:=aAM c2;rw[if_neg (λ h=>h.elim c1 c2)]
   by_cases c3:t.N=1
   ·have o2:=aAx c3;rw[if_pos c3];simp only[gR1,tJ,p1,p2,q,f1,f0,aO,iE,o1,o2]
   ·have o2:=aAM c3;rw[if_neg c3];simp only[gR1,tJ,p1,p2,q,f1,f0,aO,iE,o1,o2]
noncomputable def kK(wd:Wd):Bool:=decide (wd=.and\/wd=.or)
noncomputable def nK(wd:Wd):Bool:=decide (wd=.left\/wd=.right\/wd=.slide)
noncomputable def oT(wd:Wd):Bool:=decide (wd=.cut\/wd=.wide\/wd=.sign)
noncomputable def iR(wd:Wd):Bool:=decide (wd=.and\/wd=.or\/wd=.xor\/wd=.add\/wd=.mul)
theorem aJF(a:Wd):aM .In (.str a.s) (.tuple [.str "and",.str "or"])=qq (.bool (kK a)):=by cases a<;>rfl
theorem aUs(a:Wd):aM .In (.str a.s) (.tuple (aBB.map Tv.d))=qq (.bool (iR a)):=by cases a<;>rfl
theorem aU7(a:Wd):aM .In (.str a.s) (.tuple (pJ.map Tv.d))=qq (.bool (nK a)):=rB a
theorem aJq(a:Wd):aM .In (.str a.s) (.tuple [.str "cut",.str "wide",.str "sign"])=qq (.bool (oT a)):=aQz a
noncomputable def fN(r:Rw)(m:Nat)(ws:List Nat)(Fs:List Ft)(P:List (Option Nat)):Option Nat:=
 cond (kK r.wd&&gI P) (qq 0) (cond (decide (r.wd=.pick)) (nO (f0 Fs 0) P) (cond (nK r.wd) (cond (jF r==0) (qq 0) qz) (cond (oT r.wd) (cond (g0 ws 0==r.w) (qq 0) qz)
  (cond (decide (P.length=2)&&cK r.wd (f0 Fs 1) m) (qq 0) (cond (iR r.wd&&cK r.wd (f0 Fs 0) m) (qq 1) qz)))))
theorem aJv{r:Rw}(h:1<r.args.length):aP r.d (.int 3)=qq (.int ((jF r:Nat):Int)):=gN (xs:=.str r.wd.s::nD r.w::r.args.map nD) (k:=3) (by
 show(r.args.map nD)[1]? = qq (nD (r.args.getD 1 0));rw[xAb,xAh,yAa h];rfl)
theorem sE{Fs:List Ft}{i:Nat}(h:i<Fs.length):aP (.tuple (Fs.map Ft.d)) (.int i)=qq (f0 Fs i).d:=gN (by rw[xAb,pT h];rfl)
theorem aDH{Fs:List Ft}(h:0<Fs.length):aP (.tuple (Fs.map Ft.d)) (.int 0)=qq (f0 Fs 0).d:=sE h
theorem aAY{Fs:List Ft}(h:1<Fs.length):aP (.tuple (Fs.map Ft.d)) (.int 1)=qq (f0 Fs 1).d:=sE h
theorem aWw{ws:List Nat}(h:0<ws.length):aP (.tuple (ws.map nD)) (.int 0)=qq (.int ((g0 ws 0:Nat):Int)):=gN (k:=0) (aJG h)
theorem zZ(a b:Nat):(((a:Nat):Int)==((b:Nat):Int))=(a==b):=by
 by_cases c:a=b
 ·subst c;rw[beq_self_eq_true,beq_self_eq_true]
 ·rw[beq_eq_false_iff_ne.mpr c,beq_eq_false_iff_ne];omega
theorem aIo{wd:Wd}(h:kK wd=true):aJ wd=2:=by revert h;cases wd<;>decide
theorem aG2{r:Rw}{ws:List Nat}(h:RwOk r ws)(c:nK r.wd=true):1<r.args.length:=by
 have k:=(rZ h).2;rcases oqT c with c' | c' | c'
 all_goals
  rw[c'] at k;obtain⟨a,e,_⟩:=k;rw[e];exact yEn 1
theorem aUj(d:Nat)(r:Rw)(m:Nat)(hm:m<2^64)(ws:List Nat)(Fs:List Ft)(P:List (Option Nat))(ok:RwOk r ws)(hi:r.wd≠.in)(hn:r.wd≠.num)(lw:ws.length=aJ r.wd)(lF:Fs.length=aJ r.wd)(hP:P.length=aJ r.wd)(S:aC):cl fns (d+4) 54 [.d r.d,.d (.int m),.d (.tuple (ws.map nD)),.d (.tuple (Fs.map Ft.d)),.d (.tuple (P.map aG))] S=qq (.d (aG (fN r m ws Fs P)),S):=by
 have c1:0<aJ r.wd:=by
  revert hi hn
  cases r.wd<;>decide
 have r0:=lD r;have r1:=gO r;have i1:=aJF r.wd;have i2:aM .Eq (.str r.wd.s) (.str "pick")=qq (.bool (decide (r.wd=.pick))):=bJ r.wd .pick;have i3:=aU7 r.wd;have i4:=aJq r.wd;have i5:=aUs r.wd;have q:=pX (pg P 0) (pg P 1);have F0:=aDH (Fs:=Fs) (by omega)
 have W0:=aWw (ws:=ws) (by omega)
 have lP:dQ [.tuple (P.map aG)]=qq (.int P.length):=by
  show qq (yAn (((P.map aG).length:Nat):Int))=_;rw[yAb]
 have ch:=λ f=>aLX d r.wd f m hm S
 have ch0:=ch (f0 Fs 0);have ch1:=ch (f0 Fs 1);rw[aY rfl (d+3) _ S rfl];unfold fN;have q':aM .Eq (aG (pg P 0)) (aG (pg P 1))=qq (.bool (gI P)):=q;cases a1:kK r.wd with
 | true =>
   have h2:=aIo a1;have p0:=wG (P:=P) (by omega)
   have p1:=qG (P:=P) (by omega)
   have F1:=aAY (Fs:=Fs) (by omega)
   have n2:decide (r.wd=.pick)=false:=by revert a1;cases r.wd<;>decide
   have n3:nK r.wd=false:=by revert a1;cases r.wd<;>decide
   have n4:oT r.wd=false:=by revert a1;cases r.wd<;>decide
   have n5:iR r.wd=true:=by revert a1;cases r.wd<;>decide
   have n6:decide (P.length=2)=true:=dqT (by omega)
   have lE:(((P.length:Nat):Int)==2)=true:=by rw[beq_iff_eq];omega
   rw[a1] at i1;rw[n2] at i2;rw[n3] at i3;rw[n4] at i4;rw[n5] at i5;rw[n2,n3,n4,n5,n6,yAo,yAo,yAo];cases a2:gI P with
   | true =>
     rw[a2] at q';simp only[gR1,gM,r0,i1,p0,p1,q']
   | false =>
     rw[a2] at q';cases a3:cK r.wd (f0 Fs 1) m with
     | true =>
       rw[a3] at ch1;simp only[gR1,gM,r0,i1,p0,p1,q',i2,i3,i4,lP,aO,lE,F1,ch1]
     | false =>
       rw[a3] at ch1;cases a4:cK r.wd (f0 Fs 0) m with
       | true =>
         rw[a4] at ch0;simp only[gR1,gM,r0,i1,p0,p1,q',i2,i3,i4,i5,lP,aO,lE,F1,ch1,F0,ch0]
       | false =>
         rw[a4] at ch0;simp only[gR1,gM,r0,i1,p0,p1,q',i2,i3,i4,i5,lP,aO,lE,F1,ch1,F0,ch0]
 | false =>
   rw[a1] at i1;rw[yAl];cases a2:decide (r.wd=.pick) with
   | true =>
     have e3:aJ r.wd=3:=by rw[oqT a2];rfl
     have ps:=aNI (d+2) (f0 Fs 0) P (by omega) S
     rw[a2] at i2;simp only[gR1,gM,r0,i1,i2,F0,ps]
   | false =>
     rw[a2] at i2;cases a3:nK r.wd with
     | true =>
       have r3:=aJv (aG2 ok a3);rw[a3] at i3;cases a4:jF r==0 with
       | true =>
         simp only[gR1,gM,r0,i1,i2,i3,r3,aO,bX,a4]
       | false =>
         simp only[gR1,gM,r0,i1,i2,i3,r3,aO,bX,a4]
     | false =>
       rw[a3] at i3;cases a4:oT r.wd with
       | true =>
         rw[a4] at i4;cases a5:g0 ws 0==r.w with
         | true =>
           simp only[gR1,gM,r0,i1,i2,i3,i4,W0,r1,aO,zZ,a5]
         | false =>
           simp only[gR1,gM,r0,i1,i2,i3,i4,W0,r1,aO,zZ,a5]
       | false =>
         rw[a4] at i4;have tl:(iR r.wd&&cK r.wd (f0 Fs 0) m)=true\/(iR r.wd&&cK r.wd (f0 Fs 0) m)=false:=by cases (iR r.wd&&cK r.wd (f0 Fs 0) m)<;>simp
         by_cases c6:P.length=2
         ·have lE:(((P.length:Nat):Int)==2)=true:=by rw[beq_iff_eq];omega
          have F1:=aAY (Fs:=Fs) (by omega)
          rw[dqT c6,yAo];cases a6:cK r.wd (f0 Fs 1) m with
          | true =>
            rw[a6] at ch1;simp only[gR1,gM,r0,i1,i2,i3,i4,lP,aO,lE,F1,ch1]
          | false =>
            rw[a6] at ch1;cases a7:iR r.wd with
            | true =>
              rw[a7] at i5;cases a8:cK r.wd (f0 Fs 0) m with
              | true =>
                rw[a8] at ch0;simp only[gR1,gM,r0,i1,i2,i3,i4,i5,lP,aO,lE,F1,ch1,F0,ch0]
              | false =>
                rw[a8] at ch0;simp only[gR1,gM,r0,i1,i2,i3,i4,i5,lP,aO,lE,F1,ch1,F0,ch0]
            | false =>
              rw[a7] at i5;simp only[gR1,gM,r0,i1,i2,i3,i4,i5,lP,aO,lE,F1,ch1]
         ·have lE:(((P.length:Nat):Int)==2)=false:=by rw[beq_eq_false_iff_ne];omega
          rw[dqF c6,yAl];have a7:iR r.wd=false:=by
           rw[hP] at c6
           revert c6
           cases r.wd<;>decide
          rw[a7] at i5;rw[a7];simp only[gR1,gM,r0,i1,i2,i3,i4,i5,lP,aO,lE]
theorem aA1(a b:List D)(h:a.length+b.length<=1000):bS .Add (.tuple a) (.tuple b)=qq (.tuple (a++b)):=by
 cases a with
 | nil=>rfl
 | cons x r =>
   show(if (x::r).isEmpty=false/\(x::r).length+b.length<=qk then qq (yDf ((x::r)++b)) else qz)=_
   rw[if_pos ⟨rfl,by rw[zj];omega⟩]
theorem aNx(a:List D)(k:Nat):eB a (qq (k:Nat)) qz=a.drop k:=by
 unfold eB;rw[HT.sIx_none,HT.sIx_nat];rcases Nat.le_total k a.length with h | h
 ·rw[yFi h,yBq (by rw[yFw];omega)]
 ·rw[yEo h,yGz,List.drop_of_length_le h,List.take_nil]
inductive Am where
 | s (x:Wd) | n (k:Nat) | z
noncomputable def Am.d:Am->D
 | .s x=>.str x.s
 | .n k=>.int k
 | .z=>.none
noncomputable def eX:Option Nat->Am
 | none=>.z
 | some k=>.n k
theorem sC(a:Option Nat):(eX a).d=aG a:=by cases a<;>rfl
theorem aHn(P:List (Option Nat)):(P.map eX).map Am.d=P.map aG:=by
 rw[yBs];exact yCh λ a _=>sC a
noncomputable def tA(l:List Am):D:=.tuple (l.map Am.d)
noncomputable def lV(r:Rw):List Am:=.s r.wd :: .n r.w::r.args.map Am.n
theorem aHZ(l:List Nat):(l.map Am.n).map Am.d=l.map nD:=by rw[yBs];rfl
theorem aI9(r:Rw):tA (lV r)=r.d:=by
 show yDf (.str r.wd.s::nD r.w::(r.args.map Am.n).map Am.d)=_;rw[aHZ];rfl
noncomputable def iC:Option (List Am)->D
 | none=>.none
 | some l=>tA l
theorem aJu(a:Option (List Am)):aM .IsNot (iC a) .none=qq (.bool a.isSome):=by cases a<;>rfl
noncomputable def nG(r:Rw)(a:Option Nat)(k:Nat):List Am:=[.s .left,.n r.w,eX a,.n k]
noncomputable def xJ(r:Rw)(lo:Nat)(Fs:List Ft)(P:List (Option Nat)):Option (List Am):=match eS (f0 Fs 1) lo with
 | some k=>qq (nG r (pg P 0) k)
 | none=>(match eS (f0 Fs 0) lo with
   | some k=>qq (nG r (pg P 1) k)
   | none=>qz)
theorem aJt(r:Rw)(a:Option Nat)(k:Nat):tA (nG r a k)=.tuple [.str "left",.int r.w,aG a,.int k]:=by
 show yDf [.str "left",.int r.w,(eX a).d,.int k]=_;rw[sC]
noncomputable abbrev eP(R:D)(lo:Nat)(G Q:D)(c4 c5 c6:Option W):aX:=[qq (.d R),qq (.d (.int lo)),qq (.d G),qq (.d Q),c4,c5,c6]
theorem aGQ(d:Nat)(r:Rw)(lo i j:Nat)(Fs:List Ft)(P:List (Option Nat))(hi:i<P.length)(hj:j<Fs.length)(c6:Option W)(S:aC):xs (aD fns (d+2)) tE (eP r.d lo (.tuple (Fs.map Ft.d)) (.tuple (P.map aG)) (qq (.d (.int i))) (qq (.d (.int j))) c6) S=(match eS (f0 Fs j) lo with
 | some k=>qq (.rt (.d (tA (nG r (pg P i) k))),S)
 | none=>qq (.nx (eP r.d lo (.tuple (Fs.map Ft.d)) (.tuple (P.map aG)) (qq (.d (.int i))) (qq (.d (.int j))) (qq (.d .none))),S)):=by
 have e1:=sE hj;have e2:=sG hi;have r1:=gO r;have sb:=aFR d (f0 Fs j) lo S;cases c:eS (f0 Fs j) lo with
 | none =>
   rw[c] at sb;have sb':cl fns (d+2) 50 [.d (f0 Fs j).d,.d (.int lo)] S=qq (.d .none,S):=sb;have is:aM .IsNot .none .none=qq (.bool false):=rfl;simp only[gS2,tE,eP,e1,sb',is]
 | some k =>
   rw[c] at sb;have sb':cl fns (d+2) 50 [.d (f0 Fs j).d,.d (.int lo)] S=qq (.d (.int k),S):=sb;have is:aM .IsNot (.int k) .none=qq (.bool true):=rfl;simp only[gS2,tE,eP,aJt,e1,sb',is,r1,e2]
theorem aU0(d:Nat)(r:Rw)(lo:Nat)(Fs:List Ft)(P:List (Option Nat))(lF:Fs.length=2)(lP:P.length=2)(S:aC):cl fns (d+3) 55 [.d r.d,.d (.int lo),.d (.tuple (Fs.map Ft.d)),.d (.tuple (P.map aG))] S=qq (.d (iC (xJ r lo Fs P)),S):=by
 have t1:=aGQ d r lo 0 1 Fs P (by omega) (by omega) qz S
 have t2:=aGQ d r lo 1 0 Fs P (by omega) (by omega) (qq (.d .none)) S
 obtain⟨R,hR⟩:∃ R:D,R=r.d:=⟨_,rfl⟩;obtain⟨G,hG⟩:∃ G:D,G=.tuple (Fs.map Ft.d):=⟨_,rfl⟩;obtain⟨Q,hQ⟩:∃ Q:D,Q=.tuple (P.map aG):=⟨_,rfl⟩;rw[<- hR,<- hG,<- hQ] at t1 t2 ⊢;have it:∀ e,lv (aD fns (d+2)) aBA e S=qq ([.tuple [.int 0,.int 1],.tuple [.int 1,.int 0]],S):=λ e=>rfl
 have q1:Tg.put (.many [4,5]) (.tuple [.int 0,.int 1]) (eP R lo G Q qz qz qz)=qq (eP R lo G Q (qq (.d (.int ((0:Nat):Int)))) (qq (.d (.int ((1:Nat):Int)))) qz):=rfl;have q2:Tg.put (.many [4,5]) (.tuple [.int 1,.int 0]) (eP R lo G Q (qq (.d (.int ((0:Nat):Int)))) (qq (.d (.int ((1:Nat):Int)))) (qq (.d .none)))=qq (eP R lo G Q (qq (.d (.int ((1:Nat):Int)))) (qq (.d (.int ((0:Nat):Int)))) (qq (.d .none))):=rfl;have b:pB=.seq (.loop (.many [4,5]) aBA tE) (aU pB):=rfl;rw[aY rfl (d+2) _ S rfl];show((xs (aD fns (d+2)) pB (eP R lo G Q qz qz qz) S).bind _)=_;unfold xJ;cases c1:eS (f0 Fs 1) lo with
 | some k =>
   rw[c1] at t1;have lp:xs (aD fns (d+2)) pB (eP R lo G Q qz qz qz) S=qq (.rt (.d (tA (nG r (pg P 0) k))),S):=by
    rw[b];simp only[iV,zX,dI,dC,it,oB,fU,q1,t1]
   rw[lp];exact congrArg qq (Prod.ext rfl yAh)
 | none =>
   rw[c1] at t1;cases c2:eS (f0 Fs 0) lo with
   | some k =>
     rw[c2] at t2;have lp:xs (aD fns (d+2)) pB (eP R lo G Q qz qz qz) S=qq (.rt (.d (tA (nG r (pg P 1) k))),S):=by
      rw[b];simp only[iV,zX,dI,dC,it,oB,fU,q1,t1,q2,t2]
     rw[lp];exact congrArg qq (Prod.ext rfl yAh)
   | none =>
     rw[c2] at t2;have lp:xs (aD fns (d+2)) pB (eP R lo G Q qz qz qz) S=qq (.rt (.d .none),S):=by
      rw[b];simp only[iV,zX,dI,dC,it,oB,fU,q1,t1,q2,t2];rfl
     rw[lp];exact congrArg qq (Prod.ext rfl yAh)
noncomputable def jD(r:Rw)(m:Nat)(Fs:List Ft)(P:List (Option Nat)):Option (List Am):=
 if r.wd=.mul then xJ r (2^bl m-1) Fs P else if r.wd=.add/\bL (2^bl m-1) ((f0 Fs 0).N|||(f0 Fs 1).N)=0 then qq (.s .or :: .n r.w::P.map eX)
 else if r.wd=.sub/\bL (2^bl m-1) ((f0 Fs 1).N|||(f0 Fs 0).O)=0 then qq (.s .xor :: .n r.w::P.map eX) else qz
theorem zN(x:Wd)(w:Nat)(P:List (Option Nat))(h:P.length<=3):bS .Add (.tuple [.str x.s,.int w]) (.tuple (P.map aG))=qq (tA (.s x :: .n w::P.map eX)):=by
 rw[aA1 [.str x.s,.int w] (P.map aG) (by rw[yAb];show 2+P.length<=1000;omega)]
 show _=qq (yDf (.str x.s :: .int w::(P.map eX).map Am.d));rw[aHn];rfl
theorem aL9(d:Nat)(r:Rw)(m:Nat)(hm:m<2^64)(Fs:List Ft)(P:List (Option Nat))(lF:Fs.length=aJ r.wd)(lP:P.length=aJ r.wd)(S:aC):cl fns (d+4) 56 [.d r.d,.d (.int m),.d (.tuple (Fs.map Ft.d)),.d (.tuple (P.map aG))] S=qq (.d (iC (jD r m Fs P)),S):=by
 have r0:=lD r;have r1:=gO r;have bo:=zI (d+1) m S (Nat.lt_trans hm (yCb (by decide) (by decide)))
 have i1:aM .Eq (.str r.wd.s) (.str "mul")=qq (.bool (decide (r.wd=.mul))):=bJ r.wd .mul;have i2:aM .Eq (.str r.wd.s) (.str "add")=qq (.bool (decide (r.wd=.add))):=bJ r.wd .add;have i3:aM .Eq (.str r.wd.s) (.str "sub")=qq (.bool (decide (r.wd=.sub))):=bJ r.wd .sub;have am:=λ y=>zL (d+2) (2^bl m-1) y S
 rw[aY rfl (d+3) _ S rfl];unfold jD
 by_cases c1:r.wd=.mul
 ·have h2:aJ r.wd=2:=by rw[c1];rfl
  have pb:=aU0 d r (2^bl m-1) Fs P (by omega) (by omega) S
  rw[if_pos c1];rw[dqT c1] at i1;simp only[gR1,pF,bo,r0,i1,pb]
 ·rw[if_neg c1];rw[dqF c1] at i1
  by_cases c2:r.wd=.add
  ·have h2:aJ r.wd=2:=by rw[c2];rfl
   have F0:=aDH (Fs:=Fs) (by omega)
   have F1:=aAY (Fs:=Fs) (by omega)
   have g0':=dG (f0 Fs 0);have g1:=dG (f0 Fs 1);have ct:bS .Add (.tuple [.str "or",.int r.w]) (.tuple (P.map aG))=qq (tA (.s .or :: .n r.w::P.map eX)):=zN .or r.w P (by omega)
   have n3:¬ r.wd=.sub:=by rw[c2];decide
   have a:=am ((f0 Fs 0).N|||(f0 Fs 1).N)
   rw[dqT c2] at i2;rw[dqF n3] at i3
   by_cases c3:bL (2^bl m-1) ((f0 Fs 0).N|||(f0 Fs 1).N)=0
   ·rw[if_pos ⟨c2,c3⟩];rw[jB c3] at a;simp only[gR1,pF,bo,r0,r1,i1,i2,F0,F1,g0',g1,cN,a,ct]
   ·rw[if_neg (λ h=>c3 h.2),if_neg (λ h=>n3 h.1)]
    rw[iM c3] at a;simp only[gR1,pF,bo,r0,i1,i2,i3,F0,F1,g0',g1,cN,a]
  ·rw[dqF c2] at i2;rw[if_neg (λ h=>c2 h.1)]
   by_cases c4:r.wd=.sub
   ·have h2:aJ r.wd=2:=by rw[c4];rfl
    have F0:=aDH (Fs:=Fs) (by omega)
    have F1:=aAY (Fs:=Fs) (by omega)
    have g0':=dS (f0 Fs 0);have g1:=dG (f0 Fs 1);have ct:bS .Add (.tuple [.str "xor",.int r.w]) (.tuple (P.map aG))=qq (tA (.s .xor :: .n r.w::P.map eX)):=zN .xor r.w P (by omega)
    have a:=am ((f0 Fs 1).N|||(f0 Fs 0).O)
    rw[dqT c4] at i3
    by_cases c3:bL (2^bl m-1) ((f0 Fs 1).N|||(f0 Fs 0).O)=0
    ·rw[if_pos ⟨c4,c3⟩];rw[jB c3] at a;simp only[gR1,pF,bo,r0,r1,i1,i2,i3,F0,F1,g0',g1,cN,a,ct]
    ·rw[if_neg (λ h=>c3 h.2)]
     rw[iM c3] at a;simp only[gR1,pF,bo,r0,i1,i2,i3,F0,F1,g0',g1,cN,a]
   ·rw[dqF c4] at i3;rw[if_neg (λ h=>c4 h.1)]
    simp only[gR1,pF,bo,r0,i1,i2,i3]
noncomputable def woA(r:Rw)(P:List (Option Nat)):List Am:=.s r.wd :: .n r.w::(P.map eX++(r.args.drop P.length).map Am.n)
theorem aIu(r:Rw)(P:List (Option Nat))(h:P.length<=3)(ha:r.args.length<=10):∃ a b,eB (.str r.wd.s::nD r.w::r.args.map nD) qz (qq 2)=a/\eB (.str r.wd.s::nD r.w::r.args.map nD) (qq ((2+P.length:Nat):Int)) qz=b/\bS .Add (.tuple a) (.tuple (P.map aG))=qq (.tuple (a++P.map aG))/\bS .Add (.tuple (a++P.map aG)) (.tuple b)=qq (tA (woA r P)):=by
 refine⟨_,_,aSz _ 2,aNx _ _,aA1 _ _ (by simp;omega),?_⟩
 rw[aA1 _ _ (by simp;omega)]
 have e:(PyData.str r.wd.s::nD r.w::r.args.map nD).drop (2+P.length)=(r.args.drop P.length).map nD:=by
  rw[yDc 2,List.map_drop];rfl
 rw[e];show _=qq (yDf (.str r.wd.s::nD r.w::(P.map eX++(r.args.drop P.length).map Am.n).map Am.d));rw[yBa,aHn,aHZ];rfl
theorem aPI(d:Nat)(r:Rw)(P:List (Option Nat))(h:P.length<=3)(ha:r.args.length<=10)(S:aC):cl fns (d+1) 8 [.d r.d,.d (.tuple (P.map aG))] S=qq (.d (tA (woA r P)),S):=by
 obtain⟨a,b,h1,h2,h3,h4⟩:=aIu r P h ha;have lP:dQ [.tuple (P.map aG)]=qq (.int P.length):=by
  show qq (yAn (((P.map aG).length:Nat):Int))=_;rw[yAb]
 have ad:(2:Int)+((P.length:Nat):Int)=((2+P.length:Nat):Int):=by omega
 have rd:r.d=.tuple (.str r.wd.s::nD r.w::r.args.map nD):=rfl;rw[aY rfl d _ S rfl];rw[rd];simp only[gR1,aEq,jI,lP,dN,ad,h1,h2,h3,h4]
inductive Vd where
 | gone | kept | known | passed | cheaper
 deriving DecidableEq
noncomputable def Vd.s:Vd->Str
 | .gone => "gone" | .kept => "kept" | .known => "known" | .passed => "passed" | .cheaper => "cheaper"
structure Tr where
 v:Vd
 md:Option (List Am)
 pl:Option Nat
noncomputable def Tr.d(t:Tr):D:=.tuple [.str t.v.s,iC t.md,aG t.pl]
noncomputable def aVs(w n:Nat):List Am:=[.s .num,.n w,.n n]
noncomputable def gT(r:Rw)(f:Ft)(m:Nat)(ws:List Nat)(Fs:List Ft)(P:List (Option Nat)):Tr:=
 if r.wd=.in then ⟨.kept,qq (lV r),qz⟩ else if m=0 then ⟨.gone,qz,qz⟩ else if r.wd=.num then ⟨.kept,qq (lV r),qz⟩ else match kE r.wd f m P with
 | some n=>⟨.known,qq (aVs r.w n),qz⟩
 | none=>(match fN r m ws Fs P with
   | some i=>⟨.passed,qz,pg P i⟩
   | none=>(match jD r m Fs P with
     | some l=>⟨.cheaper,qq l,qz⟩
     | none=>⟨.kept,qq (woA r P),qz⟩))
theorem aUg{r:Rw}{m:Nat}{ws:List Nat}{Fs:List Ft}{P:List (Option Nat)}{i:Nat}(hP:P.length=aJ r.wd)(c1:0<aJ r.wd)(h:fN r m ws Fs P=qq i):i<P.length:=by
 unfold fN at h;cases a1:(kK r.wd&&gI P) with
 | true =>
   rw[a1] at h;have h:qq 0=qq i:=h;cases h;omega
 | false =>
   rw[a1] at h;cases a2:decide (r.wd=.pick) with
   | true =>
     rw[a2] at h;have e3:aJ r.wd=3:=by rw[oqT a2];rfl
     have h:nO (f0 Fs 0) P=qq i:=h;unfold nO at h
     split at h
     ·cases h;omega
     ·split at h
      ·cases h;omega
      ·cases h
   | false =>
     rw[a2] at h;have z:∀ {b:Bool},cond b (qq 0) qz=qq i->i<P.length:=λ {b} q=>by
      cases b with
      | true =>
        have q:qq 0=qq i:=q;cases q;omega
      | false=>cases q
     cases a3:nK r.wd with
     | true=>rw[a3] at h;exact z h
     | false =>
       rw[a3] at h;cases a4:oT r.wd with
       | true=>rw[a4] at h;exact z h
       | false =>
         rw[a4] at h;cases a5:(decide (P.length=2)&&cK r.wd (f0 Fs 1) m) with
         | true =>
           rw[a5] at h;have h:qq 0=qq i:=h;cases h;omega
         | false =>
           rw[a5] at h;cases a6:iR r.wd with
           | true =>
             have e2:aJ r.wd=2:=by revert a6;cases r.wd<;>decide
             rw[a6,yAo] at h;cases a7:cK r.wd (f0 Fs 0) m with
             | true =>
               rw[a7] at h;have h:qq 1=qq i:=h;cases h;omega
             | false=>rw[a7] at h;cases h
           | false=>rw[a6,yAl] at h;cases h
theorem aCa{r:Rw}{ws:List Nat}(h:RwOk r ws):r.args.length<=10:=by
 cases h<;>(show _<=10;simp)
theorem aOe(d:Nat)(r:Rw)(f:Ft)(m:Nat)(hm:m<2^64)(ws:List Nat)(Fs:List Ft)(P:List (Option Nat))(ok:RwOk r ws)(lw:ws.length=aJ r.wd)(lF:Fs.length=aJ r.wd)(hP:P.length=aJ r.wd)(S:aC):cl fns (d+5) 57 [.d r.d,.d f.d,.d (.int m),.d (.tuple (ws.map nD)),.d (.tuple (Fs.map Ft.d)),.d (.tuple (P.map aG))] S=qq (.d (gT r f m ws Fs P).d,S):=by
 have r0:=lD r;have r1:=gO r;have i1:aM .Eq (.str r.wd.s) (.str "in")=qq (.bool (decide (r.wd=.in))):=bJ r.wd .in;have i2:aM .Eq (.str r.wd.s) (.str "num")=qq (.bool (decide (r.wd=.num))):=bJ r.wd .num;have rd:=aI9 r;have c3:aJ r.wd<=3:=by cases r.wd<;>decide
 rw[aY rfl (d+4) _ S rfl];unfold gT
 by_cases c1:r.wd=.in
 ·rw[if_pos c1];rw[dqT c1] at i1;show _=qq (W.d (.tuple [.str "kept",tA (lV r),.none]),S);rw[rd];simp only[gR1,oC,r0,i1]
 ·rw[if_neg c1];rw[dqF c1] at i1
  by_cases c2:m=0
  ·have t0:=jB c2;rw[if_pos c2];simp only[gR1,oC,r0,i1,aO,bX,t0]
  ·have t0:=iM c2;rw[if_neg c2]
   by_cases c4:r.wd=.num
   ·rw[if_pos c4];rw[dqT c4] at i2;show _=qq (W.d (.tuple [.str "kept",tA (lV r),.none]),S);rw[rd];simp only[gR1,oC,r0,i1,aO,bX,t0,i2]
   ·rw[if_neg c4];rw[dqF c4] at i2;have pos:0<aJ r.wd:=by revert c1 c4;cases r.wd<;>decide
    have kn:=aKV (d+2) r f m P hP S;have po:=aUj d r m hm ws Fs P ok c1 c4 lw lF hP S;have ch:=aL9 d r m hm Fs P lF hP S;have wo:=aPI (d+3) r P (by omega) (aCa ok) S
    have is1:=aAy (kE r.wd f m P);have is2:=aAy (fN r m ws Fs P);have is3:=aJu (jD r m Fs P);cases k1:kE r.wd f m P with
    | some n =>
      rw[k1] at kn is1;have is1:aM .IsNot (aG (qq n)) .none=qq (.bool true):=is1;simp only[gR1,oC,r0,i1,aO,bX,t0,i2,kn,is1,r1]
    | none =>
      rw[k1] at kn is1;have is1:aM .IsNot (aG qz) .none=qq (.bool false):=is1;cases k2:fN r m ws Fs P with
      | some i =>
        have il:=aUg hP pos k2;have pi:=sG il;rw[k2] at po is2;have is2:aM .IsNot (aG (qq i)) .none=qq (.bool true):=is2;have pe:aG (qq i)=.int i:=rfl;rw[pe] at po is2;simp only[gR1,oC,r0,i1,aO,bX,t0,i2,kn,is1,po,is2,pi]
      | none =>
        rw[k2] at po is2;have is2:aM .IsNot (aG qz) .none=qq (.bool false):=is2;cases k3:jD r m Fs P with
        | some l =>
          rw[k3] at ch is3;have is3:aM .IsNot (iC (qq l)) .none=qq (.bool true):=is3;simp only[gR1,oC,r0,i1,aO,bX,t0,i2,kn,is1,po,is2,ch,is3]
        | none =>
          rw[k3] at ch is3;have is3:aM .IsNot (iC qz) .none=qq (.bool false):=is3;simp only[gR1,oC,r0,i1,aO,bX,t0,i2,kn,is1,po,is2,ch,is3,wo]
noncomputable def z3:List Rw->List Ft->List Nat->List (Rw×Ft×Nat)
 | r::rs,f::F,m::M=>(r,f,m)::z3 rs F M
 | _,_,_=>[]
theorem aJQ:∀ (rs:List Rw) (F:List Ft) (M:List Nat),gG (rs.map Rw.d) (F.map Ft.d) (M.map nD)=(z3 rs F M).map λ t=>yDf [t.1.d,t.2.1.d,nD t.2.2]
 | [],_,_=>rfl
 | _::_,[],_=>rfl
 | _::_,_::_,[]=>rfl
 | r::rs,f::F,m::M=>by
   have ih:=aJQ rs F M;simp only[yBb,gG,z3,ih]
theorem aIy:∀ (rs:List Rw) (F:List Ft) (M:List Nat) (k:Nat) (t:Rw×Ft×Nat),(z3 rs F M)[k]? = qq t ↔ rs[k]? = qq t.1/\F[k]? = qq t.2.1/\M[k]? = qq t.2.2
 | [],_,_,k,t=>by simp[z3]
 | _::_,[],_,k,t=>by simp[z3]
 | _::_,_::_,[],k,t=>by simp[z3]
 | r::rs,f::F,m::M,0,(a,b,c)=>by simp[z3]
 | r::rs,f::F,m::M,k+1,t=>by
   have ih:=aIy rs F M k t;simpa [z3] using ih
theorem aIz:∀ (rs:List Rw) (F:List Ft) (M:List Nat),F.length=rs.length->M.length=rs.length->(z3 rs F M).length=rs.length
 | [],_,_,_,_=>rfl
 | _::_,[],_,h,_=>by cases h
 | _::_,_::_,[],_,h=>by cases h
 | r::rs,f::F,m::M,h1,h2=>by
   have ih:=aIz rs F M (Nat.succ.inj h1) (Nat.succ.inj h2);simp only[z3,yBg,ih]
theorem ap1(s:Option (List D))(l:List D)(T:aC)(y:D)(h:l.length<=1000):eI (s::qq l::T) (.loc 1) (.d y)=qq (.d .none,s::qq (l++[y])::T):=by
 unfold eI;simp only[yBj,yAw];rw[if_pos (by rw[zj];omega)]
 rfl
theorem xD(s t:Option (List D))(l:List D)(T:aC)(y:D)(h:l.length<=1000):eI (s::t::qq l::T) (.loc 2) (.d y)=qq (.d .none,s::t::qq (l++[y])::T):=by
 unfold eI;simp only[yBj,yAw];rw[if_pos (by rw[zj];omega)]
 rfl
theorem ap3(s t u:Option (List D))(l:List D)(T:aC)(y:D)(h:l.length<=1000):eI (s::t::u::qq l::T) (.loc 3) (.d y)=qq (.d .none,s::t::u::qq (l++[y])::T):=by
 unfold eI;simp only[yBj,yAw];rw[if_pos (by rw[zj];omega)]
 rfl
structure S3 where
 R:List (List Am)
 P:List (Option Nat)
 V:List Vd
noncomputable def vD(v:Vd):D:=.str v.s
noncomputable def iB(t:Tr)(s:S3):S3:=match t.md with
 | some l=>⟨s.R++[l],s.P++[qq s.R.length],s.V++[t.v]⟩
 | none=>⟨s.R,s.P++[t.pl],s.V++[t.v]⟩
noncomputable def dJ(r:Rw)(P:List (Option Nat)):List (Option Nat):=(r.args.take (aJ r.wd)).map (pg P)
noncomputable def jH(rs:List Rw)(F:List Ft)(M:List Nat)(j:Nat)(r:Rw)(P:List (Option Nat)):Tr:=gT r (f0 F j) (M.getD j 0) (bB r (rs.map (·.w))) (bN r F) (dJ r P)
noncomputable def eV(rs:List Rw)(F:List Ft)(M:List Nat):Nat->S3
 | 0=>⟨[],[],[]⟩
 | j+1=>match rs[j]? with
   | some r=>iB (jH rs F M j r (eV rs F M j).P) (eV rs F M j)
   | none=>eV rs F M j
noncomputable abbrev bR(s0:Option (List D))(s:S3):aC:=[s0,qq (s.R.map tA),qq (s.P.map aG),qq (s.V.map vD)]
structure Ln(s:S3)(j:Nat):Prop where
 p:s.P.length=j
 v:s.V.length=j
 r:s.R.length<=j
theorem aQU{t:Tr}{s:S3}{j:Nat}(h:Ln s j):Ln (iB t s) (j+1):=by
 unfold iB;cases t.md with
 | some l=>exact⟨by simp[h.p],by simp[h.v],by have:=h.r;simp;omega⟩
 | none=>exact⟨by simp[h.p],by simp[h.v],by have:=h.r;show s.R.length<=j+1;omega⟩
theorem vP{rs:List Rw}(p:Prg rs){k:Nat}{r:Rw}(hr:rs[k]? = qq r):(r.args.take (aJ r.wd)).length=aJ r.wd:=zJ (rZ (p.fit k r hr).1).2
theorem zT{rs:List Rw}(p:Prg rs){k:Nat}{r:Rw}(hr:rs[k]? = qq r)(P:List (Option Nat)):(dJ r P).length=aJ r.wd:=by
 unfold dJ;rw[yAb];exact vP p hr
section
variable {rs : List Rw}{F : List Ft}{M : List Nat}
noncomputable abbrev eR(P:D)(F:List Ft)(M:List Nat)(Wi:D)(c7 c8 c9 c10 c11 c12 c13 c14:Option W):aX:=[qq (.d P),qq (.d (.tuple (F.map Ft.d))),qq (.d (.tuple (M.map nD))),qq (.d Wi),qq (.loc 1),qq (.loc 2),qq (.loc 3),c7,c8,c9,c10,c11,c12,c13,c14,qz]
theorem aPg(d:Nat)(p:Prg rs)(hF:F.length=rs.length)(h:Bd rs M){j:Nat}{r:Rw}(hr:rs[j]? = qq r){s:S3}(hs:Ln s j)(s0:Option (List D))(P0:D)(c11 c12 c13 c14:Option W):∃ c11' c12' c13' c14':Option W,xs (aD fns (d+5)) qY (eR P0 F M (.tuple ((rs.map (·.w)).map nD)) qz (qq (.d r.d)) (qq (.d (f0 F j).d)) (qq (.d (.int ((M.getD j 0:Nat):Int)))) c11 c12 c13 c14) (bR s0 s)=qq (.nx (eR P0 F M (.tuple ((rs.map (·.w)).map nD)) qz (qq (.d r.d)) (qq (.d (f0 F j).d)) (qq (.d (.int ((M.getD j 0:Nat):Int)))) c11' c12' c13' c14'),bR s0 (iB (jH rs F M j r s.P) s)):=by
 have hj:j<rs.length:=(gIm hr).1;have pl:=p.l;obtain⟨f1,f2⟩:=p.fit j r hr;have hw:=p.ws j r hr;have hm:M.getD j 0<2^64:=xAc (h.lt j r hr) (yAq (by decide) hw.2)
 have o1:=aHD (d+3) r (rs.map (·.w)) (bR s0 s) λ a ha=>by have:=f2 a ha;rw[yAb];omega
 have o2:cl fns (d+5) 9 [.d r.d,.d (.tuple (F.map Ft.d))] (bR s0 s)=qq (.d (.tuple ((bN r F).map Ft.d)),bR s0 s):=by
  have:=uH (d+3) r (.d (.tuple (F.map Ft.d))) (.tuple (F.map Ft.d)) (λ a=>(f0 F a).d) (bR s0 s) (λ _=>rfl) λ a ha=>sE (by have:=f2 a ha;omega)
  rw[this,bN,yBs];rfl
 have o3:cl fns (d+5) 9 [.d r.d,.loc 2] (bR s0 s)=qq (.d (.tuple ((dJ r s.P).map aG)),bR s0 s):=by
  have:=uH (d+3) r (.loc 2) (.list (s.P.map aG)) (λ a=>aG (pg s.P a)) (bR s0 s) (λ _=>rfl) λ a ha=>iW (by
   have hl:a<s.P.length:=by have:=f2 a ha;rw[hs.p];exact this
   rw[xAb,yAa hl];show qq (aG s.P[a])=qq (aG (s.P.getD a qz));rw[xAh,yAa hl];rfl)
  rw[this,dJ,yBs];rfl
 have la:=vP p hr;have lw:(bB r (rs.map (·.w))).length=aJ r.wd:=by unfold bB;rw[yAb];exact la
 have lF:(bN r F).length=aJ r.wd:=by unfold bN;rw[yAb];exact la
 have tr:=aOe d r (f0 F j) (M.getD j 0) hm (bB r (rs.map (·.w))) (bN r F) (dJ r s.P) f1 lw lF (zT p hr s.P) (bR s0 s);have tr':cl fns (d+5) 57 [.d r.d,.d (f0 F j).d,.d (.int ((M.getD j 0:Nat):Int)),.d (.tuple ((bB r (rs.map (·.w))).map nD)),.d (.tuple ((bN r F).map Ft.d)),.d (.tuple ((dJ r s.P).map aG))] (bR s0 s)=qq (.d (jH rs F M j r s.P).d,bR s0 s):=tr;obtain⟨⟨v,md,pl'⟩,ht⟩:∃ t,t=jH rs F M j r s.P:=⟨_,rfl⟩;rw[<- ht] at tr' ⊢;obtain⟨R,P,V⟩:=s;have h1:=hs.p;have h2:=hs.v;have h3:=hs.r;dsimp only at h1 h2 h3;generalize hA:(bB r (rs.map (·.w))).map nD=A1 at o1 tr';generalize hB:(bN r F).map Ft.d=A2 at o2 tr';generalize hC:(dJ r P).map aG=A3 at o3 tr';have t0:aP (.tuple [.tuple A1,.tuple A2,.tuple A3]) (.int 0)=qq (.tuple A1):=rfl;have t1:aP (.tuple [.tuple A1,.tuple A2,.tuple A3]) (.int 1)=qq (.tuple A2):=rfl;have t2:aP (.tuple [.tuple A1,.tuple A2,.tuple A3]) (.int 2)=qq (.tuple A3):=rfl;have dt:(Tr.mk v md pl').d=.tuple [vD v,iC md,aG pl']:=rfl;rw[dt] at tr';cases md with
 | some l =>
   have is:aM .IsNot (tA l) .none=qq (.bool true):=rfl;have em:iC (qq l)=tA l:=rfl;rw[em] at tr';have lR:dQ [.list (R.map tA)]=qq (.int R.length):=by
    show qq (yAn (((R.map tA).length:Nat):Int))=_;rw[yAb]
   have a1:=ap1 s0 (R.map tA) [qq (P.map aG),qq (V.map vD)] (tA l) (by rw[yAb];omega)
   have a2:=xD s0 (qq (R.map tA++[tA l])) (P.map aG) [qq (V.map vD)] (.int R.length) (by rw[yAb];omega)
   have a3:=ap3 s0 (qq (R.map tA++[tA l])) (qq (P.map aG++[.int R.length])) (V.map vD) [] (vD v) (by rw[yAb];omega)
   have es:bR s0 (iB ⟨v,qq l,pl'⟩ ⟨R,P,V⟩)=[s0,qq (R.map tA++[tA l]),qq (P.map aG++[.int R.length]),qq (V.map vD++[vD v])]:=by
    show [s0,qq ((R++[l]).map tA),qq ((P++[qq R.length]).map aG),qq ((V++[v]).map vD)]=_;rw[yBa,yBa,yBa];rfl
   refine⟨qq (.d (.tuple [.tuple A1,.tuple A2,.tuple A3])),qq (.d (vD v)),qq (.d (tA l)),qq (.d (.int R.length)),?_⟩;rw[es];simp only[gS2,qY,eR,bR,o1,o2,o3,t0,t1,t2,tr',is,lR,jZ,a1,a2,a3]
 | none =>
   have is:aM .IsNot .none .none=qq (.bool false):=rfl;have em:iC qz=.none:=rfl;rw[em] at tr';have a2:=xD s0 (qq (R.map tA)) (P.map aG) [qq (V.map vD)] (aG pl') (by rw[yAb];omega)
   have a3:=ap3 s0 (qq (R.map tA)) (qq (P.map aG++[aG pl'])) (V.map vD) [] (vD v) (by rw[yAb];omega)
   have es:bR s0 (iB ⟨v,qz,pl'⟩ ⟨R,P,V⟩)=[s0,qq (R.map tA),qq (P.map aG++[aG pl']),qq (V.map vD++[vD v])]:=by
    show [s0,qq (R.map tA),qq ((P++[pl']).map aG),qq ((V++[v]).map vD)]=_;rw[yBa,yBa];rfl
   refine⟨qq (.d (.tuple [.tuple A1,.tuple A2,.tuple A3])),qq (.d (vD v)),qq (.d .none),qq (.d (aG pl')),?_⟩;rw[es];simp only[gS2,qY,eR,bR,o1,o2,o3,t0,t1,t2,tr',is,jZ,a2,a3]
end
theorem uD{rs:List Rw}{F:List Ft}{M:List Nat}{j:Nat}{r:Rw}(hr:rs[j]? = qq r):eV rs F M (j+1)=iB (jH rs F M j r (eV rs F M j).P) (eV rs F M j):=by
 show(match rs[j]? with | some r=>_ | none=>_)=_
 rw[hr]
theorem rS{rs:List Rw}{F:List Ft}{M:List Nat}:∀ j,j<=rs.length->Ln (eV rs F M j) j
 | 0,_=>⟨rfl,rfl,yAc _⟩
 | j+1,h=>by
   rw[uD (yAa (show j<rs.length from h))]
   exact aQU (rS j (Nat.le_of_succ_le h))
noncomputable def fR(s:S3)(aE:List Nat):D:=.tuple [.tuple [.tuple (s.R.map tA),.tuple (aE.map λ o=>aG (pg s.P o))],.tuple (s.V.map vD)]
section
variable {rs : List Rw}{F : List Ft}{M : List Nat}
theorem aFX(C:Calls)(c:E)(x i k:Nat)(env e1:aX)(aE:List Nat)(s:S3)(s0:Option (List D))(hl:aE.length<=8)(hin:∀ o∈aE,o<s.P.length)(hi:lv C (.it (.ix (.var x) (.int 1))) env (bR s0 s)=qq (aE.map nD,bR s0 s))(hp:∀ a:D,Tg.put (.one i) a (clr [i] env)=qq (e1.set i (qq (.d a))))(hk:∀ a:D,(e1.set i (qq (.d a)))[k]? = qq (qq (.loc 2)))(hv:∀ a:D,(e1.set i (qq (.d a)))[i]? = qq (qq (.d a))):iI (.one i) (lv C (.it (.ix (.var x) (.int 1)))) nB (ev C (.ix (.var k) (.var i))) env (bR s0 s)=qq (aE.map λ o=>aG (pg s.P o),bR s0 s):=by
 obtain⟨vs,S2,ec,hS2,hI,hvl,hq⟩:=zH (t:=.one i) (fi:=lv C (.it (.ix (.var x) (.int 1)))) (fe:=ev C (.ix (.var k) (.var i))) (env:=env) (S:=bR s0 s) (S1:=bR s0 s) nD (λ _ S'=>S'=bR s0 s) (λ a v=>v=aG (pg s.P a)) aE hi (by rw[zj];omega) rfl (by
  intro a ha;refine⟨_,hp (nD a),?_⟩;rintro j S3 aH hj hSl rfl;have hx:aP (.list (s.P.map aG)) (nD a)=qq (aG (pg s.P a)):=iW (by
   have hl:=hin a ha;rw[xAb,yAa hl];show qq (aG s.P[a])=qq (aG (s.P.getD a qz));rw[xAh,yAa hl];rfl)
  refine⟨aG (pg s.P a),_,?_,rfl,rfl,rfl⟩;have h1:=hk (nD a);have h2:=hv (nD a);simp only[aAO,uZ,nJ,f2,hJ,h1,h2,oB,gK];show((aP (.list (s.P.map aG)) (nD a)).bind λ z=>qq (W.d z,bR s0 s++[qq aH]))=_
  rw[hx];rfl)
 subst hI;rw[ec,aBL hvl hq]
theorem aMh(d:Nat)(p:Prg rs)(hF:F.length=rs.length)(aE:List Nat)(ho:∀ o∈aE,o<rs.length)(hol:aE.length<=8)(s0:Option (List D))(eF:cl fns (d+9) 48 [.d (.tuple [.tuple (rs.map Rw.d),.tuple (aE.map nD)])] [s0]=qq (.d (.tuple (F.map Ft.d)),[s0])):cl fns (d+10) 58 [.d (.tuple [.tuple (rs.map Rw.d),.tuple (aE.map nD)])] [s0]=qq (.d (fR (eV rs F (fS rs F aE) rs.length) aE),[s0]):=by
 have pl:=p.l;obtain⟨hb,eA⟩:=aGw (d+2) p hF aE ho [s0];have eW:=aEE (d+8) rs (.tuple (aE.map nD)) (by omega) [s0]
 obtain⟨M,hM⟩:∃ M,M=fS rs F aE:=⟨_,rfl⟩;rw[<- hM] at hb eA ⊢;have i0:aP (.tuple [.tuple (rs.map Rw.d),.tuple (aE.map nD)]) (.int 0)=qq (.tuple (rs.map Rw.d)):=rfl;have i1:aP (.tuple [.tuple (rs.map Rw.d),.tuple (aE.map nD)]) (.int 1)=qq (.tuple (aE.map nD)):=rfl;obtain⟨P,hP⟩:∃ P:D,P=.tuple [.tuple (rs.map Rw.d),.tuple (aE.map nD)]:=⟨_,rfl⟩;rw[<- hP] at eF eA eW i0 i1 ⊢;obtain⟨Wi,hWi⟩:∃ Wi:D,Wi=.tuple ((rs.map (·.w)).map nD):=⟨_,rfl⟩;rw[<- hWi] at eW;have hz:=aJQ rs F M;have it:lv (aD fns (d+9)) yV (eR P F M Wi qz qz qz qz qz qz qz qz) (bR s0 ⟨[],[],[]⟩)=qq ((z3 rs F M).map (λ t=>yDf [t.1.d,t.2.1.d,nD t.2.2]),bR s0 ⟨[],[],[]⟩):=by
  simp only[gS2,yV,eR,i0,hz]
 obtain⟨aN,S',p1,c8,c9,c10,c11,c12,c13,c14,rfl,rfl⟩:=pQ (t:=.many [8,9,10]) (fb:=xs (aD fns (d+9)) qY)
  (λ j env S'=>∃ c8 c9 c10 c11 c12 c13 c14:Option W,env=eR P F M Wi qz c8 c9 c10 c11 c12 c13 c14/\S'=bR s0 (eV rs F M j))
  it ⟨qz,qz,qz,qz,qz,qz,qz,rfl,rfl⟩ (by
   rintro j dd env S' hd ⟨c8,c9,c10,c11,c12,c13,c14,rfl,rfl⟩;rw[xAb] at hd;obtain⟨⟨r,f,m⟩,ht,rfl⟩:=Option.map_eq_some_iff.mp hd;obtain⟨hr,hf,hm⟩:=(aIy rs F M j _).mp ht;have hj:j<rs.length:=(gIm hr).1;have ef:f=f0 F j:=by
    show f=F.getD j ⟨0,0,1⟩;rw[xAh,hf];rfl
   have em:m=M.getD j 0:=by rw[xAh,hm];rfl
   obtain⟨a11,a12,a13,a14,e⟩:=aPg (d+4) p hF hb hr (rS j (yEu hj)) s0 P c11 c12 c13 c14;rw[<- hWi,<- ef,<- em] at e;exact⟨eR P F M Wi qz (qq (.d r.d)) (qq (.d f.d)) (qq (.d (.int m))) c11 c12 c13 c14,eR P F M Wi qz (qq (.d r.d)) (qq (.d f.d)) (qq (.d (.int m))) a11 a12 a13 a14,_,rfl,e,_,_,_,a11,a12,a13,a14,rfl,by rw[uD hr]⟩)
 rw[yAb,aIz rs F M hF hb.l] at p1;have ln:=rS (F:=F) (M:=M) rs.length (yAc _);generalize eV rs F M rs.length=s at p1 ln ⊢;have oc:lv (aD fns (d+9)) yO [qq (.d P),qq (.d (.tuple (F.map Ft.d))),qq (.d (.tuple (M.map nD))),qq (.d Wi),qq (.loc 1),qq (.loc 2),qq (.loc 3),qz,c8,c9,c10,c11,c12,c13,c14,qz] (bR s0 s)=qq (aE.map λ o=>aG (pg s.P o),bR s0 s):=by
  refine aFX (aD fns (d+9)) yO 0 15 5 _ [qq (.d P),qq (.d (.tuple (F.map Ft.d))),qq (.d (.tuple (M.map nD))),qq (.d Wi),qq (.loc 1),qq (.loc 2),qq (.loc 3),qz,c8,c9,c10,c11,c12,c13,c14,qz] aE s s0 hol (λ o h=>by rw[ln.p];exact ho o h) ?_ (λ a=>rfl) (λ a=>rfl) λ a=>rfl
  simp only[gS0,i1,fG]
 have p1':dC (.many [8,9,10]) (lv (aD fns (d+9)) yV) (xs (aD fns (d+9)) qY) [qq (.d P),qq (.d (.tuple (F.map Ft.d))),qq (.d (.tuple (M.map nD))),qq (.d Wi),qq (.loc 1),qq (.loc 2),qq (.loc 3),qz,qz,qz,qz,qz,qz,qz,qz,qz] [s0,qq [],qq [],qq []]=qq (.nx (eR P F M Wi qz c8 c9 c10 c11 c12 c13 c14),bR s0 s):=p1;have oc':lv (aD fns (d+9)) yO [qq (.d P),qq (.d (.tuple (F.map Ft.d))),qq (.d (.tuple (M.map nD))),qq (.d Wi),qq (.loc 1),qq (.loc 2),qq (.loc 3),qz,c8,c9,c10,c11,c12,c13,c14,qz] [s0,qq (s.R.map tA),qq (s.P.map aG),qq (s.V.map vD)]=qq (aE.map λ o=>aG (pg s.P o),[s0,qq (s.R.map tA),qq (s.P.map aG),qq (s.V.map vD)]):=oc
 rw[aY rfl (d+9) _ [s0] rfl];simp only[gR3,aGX,eA,eR,eF,eW,iO,p1',bR,oc',kZ,lA]
end
theorem aQ2{α:Type}(g:α->Bool)(l:List α):wM [.list (l.map λ x=>yDr (g x))]=qq (.bool (l.all g)):=by
 simp only[wM,aFQ,oB];congr 2;rw[List.all_map];rfl
theorem aFJ:∀ l:List Nat,nZ (l.map nD)=qq (l.map λ n=>((n:Nat):Int))
 | []=>rfl
 | a::r=>by
   show(nZ (r.map nD)).bind _=_;rw[aFJ r];rfl
theorem aGf:∀ (l:List Nat) (a m:Nat),(m=a\/m∈l)->a<=m->(∀ b∈l,b<=m)->(l.map λ n=>((n:Nat):Int)).foldl max ((a:Nat):Int)=((m:Nat):Int)
 | [],a,m,h,_,_=>by
   rcases h with rfl | h
   ·rfl
   ·cases h
 | b::l,a,m,h,ha,hb=>by
   have hbm:=hb b xAd;have e:max ((a:Nat):Int) ((b:Nat):Int)=((max a b:Nat):Int):=by omega
   show(l.map λ n=>((n:Nat):Int)).foldl max (max ((a:Nat):Int) ((b:Nat):Int))=_
   rw[e];refine aGf l (max a b) m ?_ (by omega) λ c hc=>hb c (xAg _ hc)
   rcases h with rfl | h
   ·left;omega
   ·rcases List.mem_cons.mp h with rfl | h
    ·left;omega
    ·exact .inr h
theorem aQS{l:List Nat}{m:Nat}(h:m∈l)(h2:∀ b∈l,b<=m):jV [.list (l.map nD)]=qq (.int m):=by
 cases l with
 | nil=>cases h
 | cons a l =>
   show(match nZ ((a::l).map nD) with | some (i::r)=>qq (yAn (r.foldl max i)) | _=>qz)=_
   rw[aFJ];show qq (yAn ((l.map λ n=>((n:Nat):Int)).foldl max ((a:Nat):Int)))=_
   rw[aGf l a m ((List.mem_cons.mp h).elim .inl .inr) (h2 a xAd) λ b hb=>h2 b (xAg _ hb)]
noncomputable def lX(m:Nat):List Nat:=(yAm 64).filter m.testBit
theorem aB6(d m:Nat)(S:aC):cl fns (d+1) 69 [.d (.int m)] S=qq (.d (.list ((lX m).map nD)),S):=by
 have hc:lv (aD fns d) aEw [qq (.d (.int m)),qz] S=qq ((lX m).map nD,S):=by
  refine zF (fi:=lv (aD fns d) (.rng1 (.int 64))) (fc:=tv (aD fns d) (.cmp .Eq (.bin .BitAnd (.bin .RShift (.var 0) (.var 1)) (.int 1)) (.int 1))) (fe:=ev (aD fns d) (.var 1)) nD nD m.testBit (yAm 64) ?_ (by rw[zj,yBd];omega) λ i _=>?_
  ·simp only[vN,rH,uM,uJ];exact qX (w:=64) rfl (by omega)
  ·refine⟨[qq (.d (.int m)),qq (.d (.int i))],rfl,λ S'=>?_,λ _ S'=>rfl⟩
   simp only[gS0,mC,aB5,aO,aDt]
 rw[aY rfl d _ S rfl];simp only[gR1,aFh,hc,cP]
theorem aAi{m i:Nat}(hm:m<2^64):i∈lX m ↔ m.testBit i=true:=by
 unfold lX;rw[List.mem_filter,List.mem_range];refine⟨λ h=>h.2,λ h=>⟨?_,h⟩⟩
 rcases yGj i 64 with c | c
 ·exact c
 ·rw[cX hm c] at h;cases h
theorem aCI(d m:Nat)(hm:m<2^64)(h0:m≠0)(S:aC):cl fns (d+2) 70 [.d (.int m)] S=qq (.d (.list ((yAm (bl m)).map nD)),S):=by
 have e1:=aB6 d m S;have hb:=tS h0;have b64:=jS hm;have mx:jV [.list ((lX m).map nD)]=qq (.int ((bl m-1:Nat):Int)):=aQS ((aAi hm).mpr (oA h0)) λ b hb=>by
  have:=aTu ((aAi hm).mp hb);omega
 have ad:((bl m-1:Nat):Int)+1=((bl m:Nat):Int):=by omega
 have lr:oR (lI (ev (aD fns (d+1)) (.bin .Add (.blt .mx (.cons (.call 69 (.cons (.var 0) .nil)) .nil)) (.int 1)))) [qq (.d (.int m))] S=qq ((yAm (bl m)).map nD,S):=by
  unfold oR;rw[qX (w:=bl m) (S1:=S) (by simp only[evs,e1,mx,dN,ad]) (by omega),oB,if_pos (by show((yAm (bl m)).map _).length<=1000000;rw[yAb,yBd];omega)]
  rfl
 rw[aY rfl (d+1) _ S rfl];simp only[fD,aFG,iV,aAp,aC7,aHb,dI,mW,cP];show((((oR (lI (ev (aD fns (d+1)) (.bin .Add (.blt .mx (.cons (.call 69 (.cons (.var 0) .nil)) .nil)) (.int 1)))) [qq (.d (.int m))] S).bind _).bind _).bind _).bind _=_;rw[lr];exact congrArg qq (Prod.ext rfl yAh)
theorem uT(d y:Nat)(L:List Nat)(hL:L.length<=64)(S:aC):cl fns (d+1) 71 [.d (.int y),.d (.list (L.map nD))] S=qq (.d (.bool (L.all y.testBit)),S):=by
 have hc:lv (aD fns d) aEC [qq (.d (.int y)),qq (.d (.list (L.map nD))),qz] S=qq (L.map λ i=>yDr (y.testBit i),S):=by
  refine uI (fi:=lv (aD fns d) (.it (.var 1))) (fe:=ev (aD fns d) (.cmp .Eq (.bin .BitAnd (.bin .RShift (.var 0) (.var 2)) (.int 1)) (.int 1))) nD (λ i=>yDr (y.testBit i)) L ?_ (by rw[zj];omega) λ i _=>?_
  ·simp only[gS0,fG]
  ·refine⟨[qq (.d (.int y)),qq (.d (.list (L.map nD))),qq (.d (.int i))],rfl,λ S'=>?_⟩
   simp only[gS0,mC,aB5,aO,aDt]
 have al:=aQ2 y.testBit L;rw[aY rfl d _ S rfl];simp only[gR1,aFZ,hc,cP,al]
theorem tT{m y:Nat}:(bL m y==0)=true ↔ ∀ i,m.testBit i=true->y.testBit i=true:=by
 rw[beq_iff_eq];constructor
 ·intro h i hi;have:=kR m y i;rw[h,yBl,hi,yAo] at this;cases c:y.testBit i with
  | true=>rfl
  | false=>rw[c] at this;cases this
 ·intro h;apply xAm;intro i;rw[kR,yBl];cases c:m.testBit i with
  | false=>rfl
  | true=>rw[h i c];rfl
theorem uL{a b:Bool}(h:a=true ↔ b=true):a=b:=by
 cases a<;>cases b<;>first | rfl | (have:=h.mp rfl;cases this) | (have:=h.mpr rfl;cases this)
theorem aGs{m y:Nat}(hm:m<2^64):(lX m).all y.testBit=(bL m y==0):=uL (by
 rw[yHc,tT];exact⟨λ h i hi=>h i ((aAi hm).mpr hi),λ h i hi=>h i ((aAi hm).mp hi)⟩)
theorem aHC{b y:Nat}:(yAm b).all y.testBit=(bL (2^b-1) y==0):=uL (by
 rw[yHc,tT];constructor
 ·intro h i hi;rw[yBf] at hi;exact h i (List.mem_range.mpr (oqT hi))
 ·intro h i hi;refine h i ?_;rw[yBf];exact dqT (List.mem_range.mp hi))
theorem aGn:∀ (b h:Nat),h<b->(yAm b).filter (λ i=>decide (i=h))=[h]
 | b+1,h,hb=>by
   rw[List.range_succ,List.filter_append]
   by_cases c:h=b
   ·subst c;rw[List.filter_eq_nil_iff.mpr λ i hi=>by have:=List.mem_range.mp hi;rw[decide_eq_true_eq];omega]
    simp
   ·rw[aGn b h (by omega)]
    have:decide (b=h)=false:=dqF (by omega)
    simp[this]
theorem aGY{o:Nat}(h0:o≠0):o&&&(o-1)=0 ↔ o=2^(bl o-1):=by
 have hb:=tS h0;have lt:=mR o;have ge:2^(bl o-1)<=o:=Nat.ge_two_pow_of_testBit (oA h0);constructor
 ·intro h;apply Decidable.byContradiction;intro c;have p0:=xAf (bl o-1);have e:bl (o-1)=bl o:=by
   have h1:=jS (n:=o-1) (w:=bl o) (by omega)
   rcases yGj (bl (o-1)) (bl o) with c2 | c2
   ·have h2:=mR (o-1);have h3:=yAq (show 0<2 by decide) (show bl (o-1)<=bl o-1 by omega)
    omega
   ·omega
  have hi:=oA (n:=o-1) (by omega)
  rw[e] at hi;have:=(zG.mp h) (bl o-1) hi;rw[oA h0] at this;cases this
 ·intro h;refine zG.mpr λ i hi=>?_
  rw[h,yBf] at hi;rw[h,yBn];have:=oqT hi;exact dqF (by omega)
section
variable {f : Ft}{b : Nat}
theorem aAc(i:Nat):(f.O&&&(2^b-1)).testBit i=(f.O.testBit i&&decide (i<b)):=by
 rw[yAg,yBf]
theorem aGo(h:f.O&&&(2^b-1)=0):(yAm b).filter f.O.testBit=[]:=by
 refine List.filter_eq_nil_iff.mpr λ i hi=>?_
 have:=aAc (f:=f) (b:=b) i;rw[h,yBl,dqT (List.mem_range.mp hi),yBk] at this;rw[<- this];decide
theorem aNY{h:Nat}(e:f.O&&&(2^b-1)=2^h):h<b/\(yAm b).filter f.O.testBit=[h]:=by
 have q:=λ i=>aAc (f:=f) (b:=b) i
 simp only[e,yBn] at q;have hb:h<b:=by
  have:=q h;rw[dqT rfl] at this;have:=(yAt _ _▸this.symm:_/\_).2;exact oqT this
 refine⟨hb,?_⟩;rw[<- aGn b h hb];refine List.filter_congr λ i hi=>?_
 have:=q i;rw[dqT (List.mem_range.mp hi),yBk] at this;rw[<- this];exact decide_eq_decide.mpr ⟨λ z=>z.symm,λ z=>z.symm⟩
theorem aN1{k:Nat}(e:(yAm b).filter f.O.testBit=[k]):f.O&&&(2^b-1)=2^k:=by
 apply xAm;intro i;rw[aAc,yBn];have hm:∀ i,i∈(yAm b).filter f.O.testBit ↔ i=k:=λ i=>by rw[e,yFe]
 refine uL ?_;rw[yAt,decide_eq_true_eq,decide_eq_true_eq];have:=hm i;rw[List.mem_filter,List.mem_range] at this;exact⟨λ z=>(this.mp ⟨z.2,z.1⟩).symm,λ z=>let ⟨a,c⟩:=this.mpr z.symm;⟨c,a⟩⟩
theorem aNQ{h:Nat}(e:f.O&&&(2^b-1)=2^h):((yAm b).filter λ i=>!decide (i=h)).all f.N.testBit=(bL (2^b-1) (f.N|||f.O)==0):=by
 have q:=λ i=>aAc (f:=f) (b:=b) i
 simp only[e,yBn] at q;refine uL ?_;rw[yHc,tT];constructor
 ·intro a i hi;rw[yBf] at hi;rw[xAp]
  by_cases c:i=h
  ·have:=q i;rw[dqT c.symm,hi,yBk] at this;rw[<- this,yFt]
  ·rw[a i (List.mem_filter.mpr ⟨List.mem_range.mpr (oqT hi),by rw[dqF c];rfl⟩),Bool.true_or]
 ·intro a i hi;obtain⟨h1,h2⟩:=List.mem_filter.mp hi;have h1:=List.mem_range.mp h1;have c:¬ i=h:=λ z=>by rw[dqT z] at h2;cases h2
  have h3:=a i (by rw[yBf];exact dqT h1)
  have:=q i;rw[dqF (λ z=>c z.symm),dqT h1,yBk] at this
  rw[xAp,<- this,yDq] at h3;exact h3
end
noncomputable def oaI:Option Nat->Int
 | some k=>((k:Nat):Int)
 | none=>-1
theorem aGr(d:Nat)(f:Ft)(m:Nat)(hm:m<2^64)(h0:m≠0)(S:aC):cl fns (d+3) 72 [.d f.d,.d (.int m)] S=qq (.d (.int (oaI (eS f (2^bl m-1)))),S):=by
 have lo:=λ S=>aCI d m hm h0 S
 have b64:=jS hm;have f0:=dG f;have f1:=dS f;have us:oS .USub (.int 1)=qq (.int (-1)):=rfl;have hC:lv (aD fns (d+2)) xQ [qq (.d f.d),qq (.d (.int m)),qz,qz] S=qq (((yAm (bl m)).filter f.O.testBit).map nD,S):=by
  refine zF (fi:=lv (aD fns (d+2)) (.it (.call 70 (.cons (.var 1) .nil)))) (fc:=tv (aD fns (d+2)) (.cmp .Eq (.bin .BitAnd (.bin .RShift (.ix (.var 0) (.int 1)) (.var 3)) (.int 1)) (.int 1))) (fe:=ev (aD fns (d+2)) (.var 3)) nD nD f.O.testBit (yAm (bl m)) ?_ (by rw[zj,yBd];omega) λ i _=>?_
  ·simp only[gS0,lo,fG]
  ·refine⟨[qq (.d f.d),qq (.d (.int m)),qz,qq (.d (.int i))],rfl,λ S'=>?_,λ _ S'=>rfl⟩
   simp only[gS0,f1,mC,aB5,aO,aDt]
 have ll:∀ L:List Nat,dQ [.list (L.map nD)]=qq (.int L.length):=λ L=>by
  show qq (yAn (((L.map nD).length:Nat):Int))=_;rw[yAb]
 generalize hb:bl m=b at *;rw[aY rfl (d+2) _ S rfl];have two:∀ L:List Nat,L.length≠1->lv (aD fns (d+2)) xQ [qq (.d f.d),qq (.d (.int m)),qz,qz] S=qq (L.map nD,S)->(fD (xs (aD fns (d+2)) tH) 4 [.d f.d,.d (.int m)] S)=qq (.d (.int (-1)),S):=λ L hL hC=>by
  have t1:(((L.length:Nat):Int)==1)=false:=by rw[beq_eq_false_iff_ne];omega
  have lL:=ll L;simp only[gR1,tH,hC,cP,lL,aO,t1,us]
 unfold eS
 by_cases c1:f.O&&&(2^b-1)=0
 ·rw[if_pos (.inl c1)];exact two _ (by rw[aGo c1];decide) hC
 ·by_cases c2:(f.O&&&(2^b-1))&&&((f.O&&&(2^b-1))-1)=0
  ·have e:=(aGY c1).mp c2;obtain⟨hh,eL⟩:=aNY e;have rh:=aNQ e;rw[eL] at hC;generalize bl (f.O&&&(2^b-1))-1=h at *;have x0:aP (.list [nD h]) (.int 0)=qq (.int h):=rfl;have hC0:lv (aD fns (d+2)) aEp [qq (.d f.d),qq (.d (.int m)),qq (.d (.list [nD h])),qz] S=qq (((yAm b).filter λ i=>!decide (i=h)).map nD,S):=by
    refine zF (fi:=lv (aD fns (d+2)) (.it (.call 70 (.cons (.var 1) .nil)))) (fc:=tv (aD fns (d+2)) (.cmp .NotEq (.var 3) (.ix (.var 2) (.int 0)))) (fe:=ev (aD fns (d+2)) (.var 3)) nD nD (λ i=>!decide (i=h)) (yAm b) ?_ (by rw[zj,yBd];omega) λ i _=>?_
    ·simp only[gS0,lo,fG]
    ·have bd:(((i:Nat):Int)==((h:Nat):Int))=decide (i=h):=by
      rw[zZ]
      by_cases c:i=h
      ·subst c;rw[beq_self_eq_true,dqT rfl]
      ·rw[dqF c,beq_eq_false_iff_ne];exact c
     refine⟨[qq (.d f.d),qq (.d (.int m)),qq (.d (.list [nD h])),qq (.d (.int i))],rfl,λ S'=>?_,λ _ S'=>rfl⟩
     simp only[gS0,x0,iX,bd]
   have hs:=uT (d+1) f.N ((yAm b).filter λ i=>!decide (i=h)) (xAi (yEg _ _) (by rw[yBd];omega)) S
   rw[rh] at hs;have t1:(((1:Nat):Int)==1)=true:=rfl;have lL:dQ [.list [nD h]]=qq (.int ((1:Nat):Int)):=rfl;have hC':lv (aD fns (d+2)) xQ [qq (.d f.d),qq (.d (.int m)),qz,qz] S=qq ([nD h],S):=hC
   by_cases c3:bL (2^b-1) (f.N|||f.O)=0
   ·rw[if_neg (λ z=>z.elim c1 λ z=>z.elim (λ z=>z c2) λ z=>z c3)]
    rw[jB c3] at hs;simp only[gR1,tH,hC',hC0,cP,lL,aO,t1,f0,hs,x0]
   ·rw[if_pos (.inr (.inr c3))];rw[iM c3] at hs;simp only[gR1,tH,hC',hC0,cP,lL,aO,t1,f0,hs,us]
  ·rw[if_pos (.inr (.inl c2))];refine two _ (λ h1=>c2 ?_) hC
   obtain⟨k,hk⟩:=List.length_eq_one_iff.mp h1;have e:=aN1 hk;rw[e];refine zG.mpr λ i hi=>?_
   rw[yBf] at hi;rw[yBn];have:=oqT hi;exact dqF (by omega)
theorem aO9(o:Option Nat):(oaI o==0)=decide (o=qq 0):=by
 cases o with
 | none=>rfl
 | some k =>
   show(((k:Nat):Int)==0)=_;rw[bX]
   by_cases c:k=0
   ·subst c;rfl
   ·rw[iM c,dqF (λ h=>c (Option.some.inj h))]
theorem aGm(d:Nat)(wd:Wd)(f:Ft)(m:Nat)(hm:m<2^64)(h0:m≠0)(S:aC):cl fns (d+4) 73 [.d (.str wd.s),.d f.d,.d (.int m)] S=qq (.d (.bool (cK wd f m)),S):=by
 have f0:=dG f;have f1:=dS f;have bl64:(lX m).length<=64:=xAi (yEg _ _) (by rw[yBd];omega)
 have hb:=λ y=>uT (d+2) y (lX m) bl64 S
 have hl:=λ y=>uT (d+2) y (yAm (bl m)) (by rw[yBd];exact jS hm) S
 simp only[aGs hm,aHC] at hb hl;have bs:=aB6 (d+2) m S;have lo:=aCI (d+1) m hm h0 S;have oa:=aGr d f m hm h0 S;have i1:aM .Eq (.str wd.s) (.str "and")=qq (.bool (decide (wd=.and))):=bJ wd .and;have i2:=aIU wd;have i3:=aDf wd;have i4:aM .Eq (.str wd.s) (.str "mul")=qq (.bool (decide (wd=.mul))):=bJ wd .mul;rw[aY rfl (d+3) _ S rfl]
 by_cases c1:wd=.and
 ·rw[dqT c1] at i1;have e:cK wd f m=(bL m f.O==0):=by rw[c1];rfl
  have a1:=hb f.O;rw[e];simp only[gR1,qT,i1,f1,bs,a1]
 ·rw[dqF c1] at i1
  by_cases c2:wd=.or\/wd=.xor
  ·rw[dqT c2] at i2;have e:cK wd f m=(bL m f.N==0):=by rcases c2 with c2 | c2<;>rw[c2]<;>rfl
   have a1:=hb f.N;rw[e];simp only[gR1,qT,i1,i2,f0,bs,a1]
  ·rw[dqF c2] at i2
   by_cases c3:wd=.add\/wd=.sub
   ·rw[dqT c3] at i3;have e:cK wd f m=(bL (2^bl m-1) f.N==0):=by rcases c3 with c3 | c3<;>rw[c3]<;>rfl
    have a1:=hl f.N;rw[e];simp only[gR1,qT,i1,i2,i3,f0,lo,a1]
   ·rw[dqF c3] at i3
    by_cases c4:wd=.mul
    ·rw[dqT c4] at i4;have e:cK wd f m=decide (eS f (2^bl m-1)=qq 0):=by rw[c4];rfl
     have z:=aO9 (eS f (2^bl m-1));rw[e];simp only[gR1,qT,i1,i2,i3,i4,oa,aO,z]
    ·rw[dqF c4] at i4;have e:cK wd f m=false:=by
      revert c1 c2 c3 c4
      cases wd<;>first | (intros;rfl) | (intro a b c d;exact absurd rfl a) | (intro a b c d;exact absurd (.inl rfl) b) | (intro a b c d;exact absurd (.inr rfl) b) | (intro a b c d;exact absurd (.inl rfl) c) | (intro a b c d;exact absurd (.inr rfl) c) | (intro a b c d;exact absurd rfl d)
     rw[e];simp only[gR1,qT,i1,i2,i3,i4]
theorem aUF(a:Wd):aM .In (.str a.s) (.tuple [.str "xor",.str "sub",.str "less",.str "under",.str "same"])=qq (.bool (sX a||decide (a=.same))):=by cases a<;>rfl
theorem aQA(d:Nat)(r:Rw)(f:Ft)(m:Nat)(hm:m<2^64)(P:List (Option Nat))(hP:P.length=aJ r.wd)(S:aC):cl fns (d+2) 74 [.d r.d,.d f.d,.d (.int m),.d (.bool (decide (P.length=2)&&gI P))] S=qq (.d (aG (kE r.wd f m P)),S):=by
 have f0:=dG f;have f1:=dS f;have r0:=lD r;have bl64:(lX m).length<=64:=xAi (yEg _ _) (by rw[yBd];omega)
 have hb:=uT d (f.N|||f.O) (lX m) bl64 S
 rw[aGs hm] at hb;have bs:=aB6 d m S;have i1:=aUF r.wd;have i2:aM .Eq (.str r.wd.s) (.str "same")=qq (.bool (decide (r.wd=.same))):=bJ r.wd .same;rw[aY rfl (d+1) _ S rfl];unfold kE
 by_cases c1:bL m (f.N|||f.O)=0
 ·rw[if_pos c1];rw[jB c1] at hb;simp only[gR1,nP,f0,f1,cN,bs,hb]
 ·rw[if_neg c1];rw[iM c1] at hb;cases c2:sX r.wd with
  | true =>
    have h2:=vA hP (.inl c2);have ns:decide (r.wd=.same)=false:=by
     rw[decide_eq_false_iff_not];intro h;rw[h] at c2;cases c2
    have l2:decide (P.length=2)=true:=by
     rw[hP]
     revert c2
     cases r.wd<;>decide
    rw[c2,Bool.true_or] at i1;rw[ns] at i2;rw[ns,l2,yAo,yAl];cases c3:gI P with
    | true =>
      simp only[gR1,nP,f0,f1,cN,bs,hb,r0,i1,i2,aCR,aCX]
    | false =>
      simp only[gR1,nP,f0,f1,cN,bs,hb]
  | false =>
    rw[yAl,if_neg yAx];cases c3:decide (r.wd=.same) with
    | true =>
      have l2:decide (P.length=2)=true:=by
       rw[hP]
       revert c3
       cases r.wd<;>decide
      rw[c2,c3,yFt] at i1;rw[c3] at i2;rw[l2,yAo];cases c4:gI P with
      | true =>
        simp only[gR1,nP,f0,f1,cN,bs,hb,r0,i1,i2,aCR,aCX]
      | false =>
        simp only[gR1,nP,f0,f1,cN,bs,hb]
    | false =>
      rw[c2,c3,yDq] at i1;rw[yAl,if_neg yAx];cases c5:(decide (P.length=2)&&gI P) with
      | true =>
        simp only[gR1,nP,f0,f1,cN,bs,hb,r0,i1]
      | false =>
        simp only[gR1,nP,f0,f1,cN,bs,hb]
theorem aR4(a:Wd):aM .NotEq (.str a.s) (.str "sub")=qq (.bool !decide (a=.sub)):=by cases a<;>kernel_rfl
noncomputable def kN(r:Rw)(m:Nat)(ws:List Nat)(Fs:List Ft)(P:List (Option Nat)):Option Nat:=(fN r m ws Fs P).bind (pg P)
theorem aDe{Fs:List Ft}{i:Nat}(h:i<Fs.length):aP (.list (Fs.map Ft.d)) (.int i)=qq (f0 Fs i).d:=iW (by rw[xAb,pT h];rfl)
theorem aDs{Fs:List Ft}(h:0<Fs.length):aP (.list (Fs.map Ft.d)) (.int 0)=qq (f0 Fs 0).d:=aDe h
theorem aDn{Fs:List Ft}(h:1<Fs.length):aP (.list (Fs.map Ft.d)) (.int 1)=qq (f0 Fs 1).d:=aDe h
theorem aND(d:Nat)(r:Rw)(m:Nat)(hm:m<2^64)(h0:m≠0)(ws:List Nat)(Fs:List Ft)(P:List (Option Nat))(ok:RwOk r ws)(hi:r.wd≠.in)(hn:r.wd≠.num)(lF:Fs.length=aJ r.wd)(hP:P.length=aJ r.wd)(S:aC):cl fns (d+5) 75 [.d r.d,.d (.int ((g0 ws 0:Nat):Int)),.d (.list (Fs.map Ft.d)),.d (.int m),.d (.tuple (P.map aG))] S=qq (.d (aG (kN r m ws Fs P)),S):=by
 have c1:0<aJ r.wd:=by
  revert hi hn
  cases r.wd<;>decide
 have r0:=lD r;have r1:=gO r;have p0:=wG (P:=P) (by omega)
 have F0:=aDs (Fs:=Fs) (by omega)
 have i1:=aJF r.wd;have i2:aM .Eq (.str r.wd.s) (.str "pick")=qq (.bool (decide (r.wd=.pick))):=bJ r.wd .pick;have i3:aM .In (.str r.wd.s) (.tuple [.str "left",.str "right",.str "slide"])=qq (.bool (nK r.wd)):=rB r.wd;have i4:=aJq r.wd;have i6:=aR4 r.wd;have lP:dQ [.tuple (P.map aG)]=qq (.int P.length):=by
  show qq (yAn (((P.map aG).length:Nat):Int))=_;rw[yAb]
 have q:aM .Eq (aG (pg P 0)) (aG (pg P 1))=qq (.bool (gI P)):=pX (pg P 0) (pg P 1);have te0:=aGm d r.wd (f0 Fs 0) m hm h0 S;have te1:=aGm d r.wd (f0 Fs 1) m hm h0 S;rw[aY rfl (d+4) _ S rfl];unfold kN fN;cases a2:decide (r.wd=.pick) with
 | true =>
   have e3:aJ r.wd=3:=by rw[oqT a2];rfl
   have n1:kK r.wd=false:=by rw[oqT a2];rfl
   have p1:=qG (P:=P) (by omega)
   have p2:=aJL (P:=P) (by omega)
   have q2:=pX (pg P 1) (pg P 2);have g0':=dG (f0 Fs 0);have g1':=dS (f0 Fs 0);have x0:aP (.list [.none,aG (pg P 2)]) (.int 0)=qq .none:=rfl;have x1:aP (.list [.none,aG (pg P 2)]) (.int 1)=qq (aG (pg P 2)):=rfl;have d0:qK [.bool false]=qq (.int 0):=rfl;have d1:qK [.bool true]=qq (.int 1):=rfl;rw[a2] at i2;rw[n1,yAl];show _=qq (W.d (aG ((nO (f0 Fs 0) P).bind (pg P))),S);unfold nO
   by_cases c2:pg P 1=pg P 2
   ·rw[if_pos (.inl c2)];rw[dqT c2] at q2;simp only[gR1,fA,r0,i2,p1,p2,q2]
   ·rw[dqF c2] at q2
    by_cases c3:(f0 Fs 0).O=1
    ·have o1:=aAx c3;rw[if_pos (.inr c3)];simp only[gR1,fA,r0,i2,p1,p2,q2,F0,g1',aO,iE,o1]
    ·have o1:=aAM c3;rw[if_neg (λ h=>h.elim c2 c3)]
     by_cases c4:(f0 Fs 0).N=1
     ·have o2:=aAx c4;rw[if_pos c4];simp only[gR1,fA,r0,i2,p1,p2,q2,F0,g1',g0',aO,iE,o1,o2,cP,d1,x1]
     ·have o2:=aAM c4;rw[if_neg c4];simp only[gR1,fA,r0,i2,p1,p2,q2,F0,g1',g0',aO,iE,o1,o2,cP,d0,x0]
 | false =>
   rw[a2] at i2;cases a3:nK r.wd with
   | true =>
     have n1:kK r.wd=false:=by revert a3;cases r.wd<;>decide
     have n4:oT r.wd=false:=by revert a3;cases r.wd<;>decide
     have e1:aJ r.wd=1:=by revert a3;cases r.wd<;>decide
     have lE:(((P.length:Nat):Int)==2)=false:=by rw[beq_eq_false_iff_ne];omega
     have r3:=aJv (aG2 ok a3);rw[a3] at i3;rw[n4] at i4;rw[n1,yAl];cases a4:jF r==0 with
     | true =>
       simp only[gR1,fA,r0,i2,i3,r3,aO,bX,a4,p0]
     | false =>
       simp only[gR1,fA,r0,i2,i3,r3,aO,bX,a4,i4,lP,lE]
   | false =>
     rw[a3] at i3;cases a4:oT r.wd with
     | true =>
       have n1:kK r.wd=false:=by revert a4;cases r.wd<;>decide
       have e1:aJ r.wd=1:=by revert a4;cases r.wd<;>decide
       have lE:(((P.length:Nat):Int)==2)=false:=by rw[beq_eq_false_iff_ne];omega
       have sw:(((r.w:Nat):Int)==((g0 ws 0:Nat):Int))=(g0 ws 0==r.w):=by
        rw[zZ];exact uL ⟨λ h=>beq_iff_eq.mpr (beq_iff_eq.mp h).symm,λ h=>beq_iff_eq.mpr (beq_iff_eq.mp h).symm⟩
       rw[a4] at i4;rw[n1,yAl];cases a5:g0 ws 0==r.w with
       | true =>
         rw[a5] at sw;simp only[gR1,fA,r0,i2,i3,i4,r1,aO,sw,p0]
       | false =>
         rw[a5] at sw;simp only[gR1,fA,r0,i2,i3,i4,r1,aO,sw,lP,lE]
     | false =>
       rw[a4] at i4
       by_cases c6:P.length=2
       ·have lE:(((P.length:Nat):Int)==2)=true:=by rw[beq_iff_eq];omega
        have p1:=qG (P:=P) (by omega)
        have F1:=aDn (Fs:=Fs) (by omega)
        have ne:(!decide (r.wd=.sub)&&cK r.wd (f0 Fs 0) m)=(iR r.wd&&cK r.wd (f0 Fs 0) m):=by
         rw[hP] at c6
         revert c6
         cases r.wd<;>first | (intro _;rfl) | (intro c;revert c;decide)
        rw[dqT c6,yAo];cases a1:kK r.wd with
        | true =>
          rw[a1] at i1;rw[yAo];cases a5:gI P with
          | true =>
            rw[a5] at q;simp only[gR1,fA,r0,i2,i3,i4,lP,aO,lE,i1,p0,p1,q]
          | false =>
            rw[a5] at q;cases a6:cK r.wd (f0 Fs 1) m with
            | true =>
              rw[a6] at te1;simp only[gR1,fA,r0,i2,i3,i4,lP,aO,lE,i1,p0,p1,q,F1,te1]
            | false =>
              rw[a6] at te1;rw[<- ne];cases a7:decide (r.wd=.sub) with
              | true =>
                rw[a7] at i6;simp only[gR1,fA,r0,i2,i3,i4,lP,aO,lE,i1,p0,p1,q,F1,te1,i6,yDs]
              | false =>
                rw[a7] at i6;cases a8:cK r.wd (f0 Fs 0) m with
                | true =>
                  rw[a8] at te0;simp only[gR1,fA,r0,i2,i3,i4,lP,aO,lE,i1,p0,p1,q,F1,te1,i6,yDi,F0,te0]
                | false =>
                  rw[a8] at te0;simp only[gR1,fA,r0,i2,i3,i4,lP,aO,lE,i1,p0,p1,q,F1,te1,i6,yDi,F0,te0]
        | false =>
          rw[a1] at i1;rw[yAl];cases a6:cK r.wd (f0 Fs 1) m with
          | true =>
            rw[a6] at te1;simp only[gR1,fA,r0,i2,i3,i4,lP,aO,lE,i1,p0,F1,te1]
          | false =>
            rw[a6] at te1;rw[<- ne];cases a7:decide (r.wd=.sub) with
            | true =>
              rw[a7] at i6;simp only[gR1,fA,r0,i2,i3,i4,lP,aO,lE,i1,F1,te1,i6,yDs]
            | false =>
              rw[a7] at i6;cases a8:cK r.wd (f0 Fs 0) m with
              | true =>
                rw[a8] at te0;simp only[gR1,fA,r0,i2,i3,i4,lP,aO,lE,i1,p1,F1,te1,i6,yDi,F0,te0]
              | false =>
                rw[a8] at te0;simp only[gR1,fA,r0,i2,i3,i4,lP,aO,lE,i1,F1,te1,i6,yDi,F0,te0]
       ·have lE:(((P.length:Nat):Int)==2)=false:=by rw[beq_eq_false_iff_ne];omega
        have n1:kK r.wd=false:=by
         rw[hP] at c6
         revert c6
         cases r.wd<;>decide
        have n5:iR r.wd=false:=by
         rw[hP] at c6
         revert c6
         cases r.wd<;>decide
        rw[n1,n5,dqF c6,yAl,yAl,yAl];simp only[gR1,fA,r0,i2,i3,i4,lP,aO,lE]
noncomputable abbrev eL(R G:D)(m:Nat)(Q:D)(c4 c5:Option W):aX:=[qq (.d R),qq (.d G),qq (.d (.int m)),qq (.d Q),c4,c5]
theorem aHq(d:Nat)(r:Rw)(m:Nat)(hm:m<2^64)(h0:m≠0)(i j:Nat)(Fs:List Ft)(P:List (Option Nat))(hi:i<P.length)(hj:j<Fs.length)(hij:(1:Int)-((i:Nat):Int)=((j:Nat):Int))(c5:Option W)(S:aC):xs (aD fns (d+3)) kO (eL r.d (.list (Fs.map Ft.d)) m (.tuple (P.map aG)) (qq (.d (.int i))) c5) S=(match eS (f0 Fs j) (2^bl m-1) with
 | some k=>qq (.rt (.d (tA (nG r (pg P i) k))),S)
 | none=>qq (.nx (eL r.d (.list (Fs.map Ft.d)) m (.tuple (P.map aG)) (qq (.d (.int i))) (qq (.d (.int (-1))))),S)):=by
 have e1:=aDe hj;have e2:=sG hi;have r1:=gO r;have oa:=aGr d (f0 Fs j) m hm h0 S;cases c:eS (f0 Fs j) (2^bl m-1) with
 | none =>
   rw[c] at oa;have oa':cl fns (d+3) 72 [.d (f0 Fs j).d,.d (.int m)] S=qq (.d (.int (-1)),S):=oa;have ge:decide ((-1:Int) ≥ 0)=false:=rfl;simp only[gS2,kO,eL,cQ,hij,e1,oa',aAw,ge]
 | some k =>
   rw[c] at oa;have oa':cl fns (d+3) 72 [.d (f0 Fs j).d,.d (.int m)] S=qq (.d (.int k),S):=oa;have ge:decide (((k:Nat):Int) ≥ 0)=true:=dqT (yFb k);simp only[gS2,kO,eL,aJt,cQ,hij,e1,oa',aAw,ge,r1,e2]
theorem aMn(d:Nat)(r:Rw)(m:Nat)(hm:m<2^64)(h0:m≠0)(Fs:List Ft)(P:List (Option Nat))(lF:Fs.length=aJ r.wd)(hP:P.length=aJ r.wd)(S:aC):cl fns (d+4) 76 [.d r.d,.d (.list (Fs.map Ft.d)),.d (.int m),.d (.tuple (P.map aG))] S=qq (.d (iC (jD r m Fs P)),S):=by
 have r0:=lD r;have r1:=gO r;have i1:aM .Eq (.str r.wd.s) (.str "mul")=qq (.bool (decide (r.wd=.mul))):=bJ r.wd .mul;have i2:aM .Eq (.str r.wd.s) (.str "add")=qq (.bool (decide (r.wd=.add))):=bJ r.wd .add;have i3:aM .Eq (.str r.wd.s) (.str "sub")=qq (.bool (decide (r.wd=.sub))):=bJ r.wd .sub;have hl:=λ y=>uT (d+2) y (yAm (bl m)) (by rw[yBd];exact jS hm) S
 simp only[aHC] at hl;have lo:=aCI (d+1) m hm h0 S;rw[aY rfl (d+3) _ S rfl];unfold jD
 by_cases c1:r.wd=.mul
 ·have h2:aJ r.wd=2:=by rw[c1];rfl
  have n2:decide (r.wd=.add)=false:=by rw[c1];rfl
  have n3:decide (r.wd=.sub)=false:=by rw[c1];rfl
  have t1:=aHq d r m hm h0 0 1 Fs P (by omega) (by omega) rfl qz S
  have t2:=aHq d r m hm h0 1 0 Fs P (by omega) (by omega) rfl (qq (.d (.int (-1)))) S
  rw[if_pos c1];rw[dqT c1] at i1;rw[n2] at i2;rw[n3] at i3;obtain⟨R,hR⟩:∃ R:D,R=r.d:=⟨_,rfl⟩;obtain⟨G,hG⟩:∃ G:D,G=.list (Fs.map Ft.d):=⟨_,rfl⟩;obtain⟨Q,hQ⟩:∃ Q:D,Q=.tuple (P.map aG):=⟨_,rfl⟩;rw[<- hR,<- hG,<- hQ] at t1 t2 ⊢;rw[<- hR] at r0;have it:∀ e,lv (aD fns (d+3)) nQ e S=qq ([.int ((0:Nat):Int),.int ((1:Nat):Int)],S):=λ e=>rfl
  have q1:Tg.put (.one 4) (.int ((0:Nat):Int)) (eL R G m Q qz qz)=qq (eL R G m Q (qq (.d (.int ((0:Nat):Int)))) qz):=rfl;have q2:Tg.put (.one 4) (.int ((1:Nat):Int)) (eL R G m Q (qq (.d (.int ((0:Nat):Int)))) (qq (.d (.int (-1)))))=qq (eL R G m Q (qq (.d (.int ((1:Nat):Int)))) (qq (.d (.int (-1))))):=rfl;unfold xJ;cases k1:eS (f0 Fs 1) (2^bl m-1) with
  | some k =>
    rw[k1] at t1;have lp:dC (.one 4) (lv (aD fns (d+3)) nQ) (xs (aD fns (d+3)) kO) [qq (.d R),qq (.d G),qq (.d (.int m)),qq (.d Q),qz,qz] S=qq (.rt (.d (tA (nG r (pg P 0) k))),S):=by
     show dC (.one 4) (lv (aD fns (d+3)) nQ) (xs (aD fns (d+3)) kO) (eL R G m Q qz qz) S=_;simp only[dC,it,oB,fU,q1,t1]
    simp only[gR1,lZ,r0,i1,lp]
  | none =>
    rw[k1] at t1;cases k2:eS (f0 Fs 0) (2^bl m-1) with
    | some k =>
      rw[k2] at t2;have lp:dC (.one 4) (lv (aD fns (d+3)) nQ) (xs (aD fns (d+3)) kO) [qq (.d R),qq (.d G),qq (.d (.int m)),qq (.d Q),qz,qz] S=qq (.rt (.d (tA (nG r (pg P 1) k))),S):=by
       show dC (.one 4) (lv (aD fns (d+3)) nQ) (xs (aD fns (d+3)) kO) (eL R G m Q qz qz) S=_;simp only[dC,it,oB,fU,q1,t1,q2,t2]
      simp only[gR1,lZ,r0,i1,lp]
    | none =>
      rw[k2] at t2;have lp:dC (.one 4) (lv (aD fns (d+3)) nQ) (xs (aD fns (d+3)) kO) [qq (.d R),qq (.d G),qq (.d (.int m)),qq (.d Q),qz,qz] S=qq (.nx (eL R G m Q (qq (.d (.int ((1:Nat):Int)))) (qq (.d (.int (-1))))),S):=by
       show dC (.one 4) (lv (aD fns (d+3)) nQ) (xs (aD fns (d+3)) kO) (eL R G m Q qz qz) S=_;simp only[dC,it,oB,fU,q1,t1,q2,t2]
      simp only[gR2,lZ,eL,r0,i1,lp,i2,i3]
 ·rw[if_neg c1];rw[dqF c1] at i1
  by_cases c2:r.wd=.add
  ·have h2:aJ r.wd=2:=by rw[c2];rfl
   have F0:=aDs (Fs:=Fs) (by omega)
   have F1:=aDn (Fs:=Fs) (by omega)
   have g0':=dG (f0 Fs 0);have g1:=dG (f0 Fs 1);have ct:bS .Add (.tuple [.str "or",.int r.w]) (.tuple (P.map aG))=qq (tA (.s .or :: .n r.w::P.map eX)):=zN .or r.w P (by omega)
   have n3:¬ r.wd=.sub:=by rw[c2];decide
   have a:=hl ((f0 Fs 0).N|||(f0 Fs 1).N)
   rw[dqT c2] at i2;rw[dqF n3] at i3
   by_cases c3:bL (2^bl m-1) ((f0 Fs 0).N|||(f0 Fs 1).N)=0
   ·rw[if_pos ⟨c2,c3⟩];rw[jB c3] at a;simp only[gR1,lZ,r0,r1,i1,i2,F0,F1,g0',g1,cN,lo,a,ct]
   ·rw[if_neg (λ h=>c3 h.2),if_neg (λ h=>n3 h.1)]
    rw[iM c3] at a;simp only[gR1,lZ,r0,i1,i2,i3,F0,F1,g0',g1,cN,lo,a]
  ·rw[dqF c2] at i2;rw[if_neg (λ h=>c2 h.1)]
   by_cases c4:r.wd=.sub
   ·have h2:aJ r.wd=2:=by rw[c4];rfl
    have F0:=aDs (Fs:=Fs) (by omega)
    have F1:=aDn (Fs:=Fs) (by omega)
    have g0':=dS (f0 Fs 0);have g1:=dG (f0 Fs 1);have ct:bS .Add (.tuple [.str "xor",.int r.w]) (.tuple (P.map aG))=qq (tA (.s .xor :: .n r.w::P.map eX)):=zN .xor r.w P (by omega)
    have a:=hl ((f0 Fs 0).O|||(f0 Fs 1).N)
    have oc:(f0 Fs 1).N|||(f0 Fs 0).O=(f0 Fs 0).O|||(f0 Fs 1).N:=Nat.or_comm _ _
    rw[oc];rw[dqT c4] at i3
    by_cases c3:bL (2^bl m-1) ((f0 Fs 0).O|||(f0 Fs 1).N)=0
    ·rw[if_pos ⟨c4,c3⟩];rw[jB c3] at a;simp only[gR1,lZ,r0,r1,i1,i2,i3,F0,F1,g0',g1,cN,lo,a,ct]
    ·rw[if_neg (λ h=>c3 h.2)]
     rw[iM c3] at a;simp only[gR1,lZ,r0,i1,i2,i3,F0,F1,g0',g1,cN,lo,a]
   ·rw[dqF c4] at i3;rw[if_neg (λ h=>c4 h.1)]
    simp only[gR1,lZ,r0,i1,i2,i3]
noncomputable def whD(t:Tr):D:=match t.md with
 | some l=>tA l
 | none=>aG t.pl
section
variable {rs : List Rw}{F : List Ft}
theorem aL3(d:Nat)(p:Prg rs)(hF:F.length=rs.length){j:Nat}{r:Rw}(hr:rs[j]? = qq r)(m:Nat)(hm:m<2^64)(P:List (Option Nat))(hP:P.length=aJ r.wd)(nn:∀ i,m≠0->r.wd≠.in->r.wd≠.num->fN r m (bB r (rs.map (·.w))) (bN r F) P=qq i->pg P i≠qz)(o:D)(S:aC):cl fns (d+6) 77 [.d (.tuple [.tuple (rs.map Rw.d),o]),.d (.int j),.d (.tuple (F.map Ft.d)),.d (.int m),.d (.tuple (P.map aG))] S=qq (.d (.tuple [whD (gT r (f0 F j) m (bB r (rs.map (·.w))) (bN r F) P),vD (gT r (f0 F j) m (bB r (rs.map (·.w))) (bN r F) P).v]),S):=by
 have hj:j<rs.length:=(gIm hr).1;obtain⟨f1,f2⟩:=p.fit j r hr;have la:=vP p hr;have ol:=aCB r;have lw:(bB r (rs.map (·.w))).length=aJ r.wd:=by unfold bB;rw[yAb];exact la
 have lF:(bN r F).length=aJ r.wd:=by unfold bN;rw[yAb];exact la
 have i0:aP (.tuple [.tuple (rs.map Rw.d),o]) (.int 0)=qq (.tuple (rs.map Rw.d)):=rfl;have rj:aP (.tuple (rs.map Rw.d)) (.int j)=qq r.d:=gN (by rw[xAb,hr];rfl)
 have r0:=lD r;have r1:=gO r;have i1:aM .Eq (.str r.wd.s) (.str "in")=qq (.bool (decide (r.wd=.in))):=bJ r.wd .in;have i2:aM .Eq (.str r.wd.s) (.str "num")=qq (.bool (decide (r.wd=.num))):=bJ r.wd .num;have rd:=aI9 r;have Fj:=sE (Fs:=F) (i:=j) (by omega)
 have op:cl fns (d+5) 7 [.d r.d] S=qq (.d (.tuple ((lY r).map nD)),S):=pG (d+4) r S;obtain⟨X,hX⟩:∃ X:D,X=.tuple [.tuple (rs.map Rw.d),o]:=⟨_,rfl⟩;rw[<- hX] at i0 ⊢;have lP:dQ [.tuple (P.map aG)]=qq (.int P.length):=by
  show qq (yAn (((P.map aG).length:Nat):Int))=_;rw[yAb]
 obtain⟨G,hG⟩:∃ G:D,G=.tuple (F.map Ft.d):=⟨_,rfl⟩;have hc:∀ c7,lv (aD fns (d+5)) aEm [qq (.d X),qq (.d (.int j)),qq (.d (.tuple (F.map Ft.d))),qq (.d (.int m)),qq (.d (.tuple (P.map aG))),qq (.d r.d),qq (.d (.tuple ((lY r).map nD))),c7,qz,qz,qz,qz] S=qq ((bN r F).map Ft.d,S):=λ c7=>by
  rw[bN,yBs];refine uI (fi:=lv (aD fns (d+5)) (.it (.var 6))) (fe:=ev (aD fns (d+5)) (.ix (.var 2) (.var 11))) nD (Ft.d ∘ f0 F) (r.args.take (aJ r.wd)) ?_ (by rw[zj];have:(r.args.take (aJ r.wd)).length<=3:=ol;omega) λ a ha=>?_
  ·simp only[gS0,fG]
  ·refine⟨_,rfl,λ S'=>?_⟩
   have hx:aP (.tuple (F.map Ft.d)) (nD a)=qq (f0 F a).d:=sE (by have:=f2 a ha;omega)
   simp only[gS0,clr,yBy,yEm,hx]
 have hc':=hc qz;rw[aY rfl (d+5) _ S rfl]
 by_cases c1:r.wd=.in
 ·have e:gT r (f0 F j) m (bB r (rs.map (·.w))) (bN r F) P=⟨.kept,qq (lV r),qz⟩:=by unfold gT;rw[if_pos c1]
  rw[e];rw[dqT c1] at i1;show _=qq (W.d (.tuple [tA (lV r),.str "kept"]),S);rw[rd];simp only[gR1,iD,i0,rj,r0,i1]
 ·rw[dqF c1] at i1
  by_cases c2:m=0
  ·have e:gT r (f0 F j) m (bB r (rs.map (·.w))) (bN r F) P=⟨.gone,qz,qz⟩:=by unfold gT;rw[if_neg c1,if_pos c2]
   have t0:=jB c2;have gt:decide (((m:Nat):Int)>0)=false:=dqF (by omega)
   rw[e];cases c3:decide (r.wd=.num) with
   | true =>
     rw[c3] at i2;simp only[gR1,iD,i0,rj,r0,i1,i2,rR,gt,aO,bX,t0]
   | false =>
     rw[c3] at i2;simp only[gR1,iD,i0,rj,r0,i1,i2,aO,bX,t0]
  ·have t0:=iM c2;have gt:decide (((m:Nat):Int)>0)=true:=dqT (by omega)
   by_cases c4:r.wd=.num
   ·have e:gT r (f0 F j) m (bB r (rs.map (·.w))) (bN r F) P=⟨.kept,qq (lV r),qz⟩:=by unfold gT;rw[if_neg c1,if_neg c2,if_pos c4]
    rw[e];rw[dqT c4] at i2;show _=qq (W.d (.tuple [tA (lV r),.str "kept"]),S);rw[rd];simp only[gR1,iD,i0,rj,r0,i1,i2,rR,gt]
   ·rw[dqF c4] at i2;have pos:0<aJ r.wd:=by revert c1 c4;cases r.wd<;>decide
    have c3:aJ r.wd<=3:=by cases r.wd<;>decide
    have kn:=aQA (d+3) r (f0 F j) m hm P hP S;have si:=aND d r m hm c2 (bB r (rs.map (·.w))) (bN r F) P f1 c1 c4 lF hP S;have lo:=aMn (d+1) r m hm c2 (bN r F) P lF hP S;obtain⟨a,b,h1,h2,h3,h4⟩:=aIu r P (by omega) (aCa f1)
    have ad:(2:Int)+((P.length:Nat):Int)=((2+P.length:Nat):Int):=by omega
    have p0:=wG (P:=P) (by omega)
    have q:aM .Eq (aG (pg P 0)) (aG (pg P 1))=qq (.bool (gI P)):=pX (pg P 0) (pg P 1);obtain⟨a0,ha0⟩:∃ a0,(r.args.take (aJ r.wd))[0]? = qq a0:=⟨_,yAa (by omega)⟩
    have a0l:=f2 a0 (xAl ha0);have hra:rs[a0]? = qq rs[a0]:=yAa (by omega)
    have x0:aP (.tuple ((lY r).map nD)) (.int 0)=qq (.int a0):=gN (k:=0) (by
     show(((r.args.take (aJ r.wd)).map nD)[0]?)=_;rw[xAb,ha0];rfl)
    have xr:aP (.tuple (rs.map Rw.d)) (.int a0)=qq rs[a0].d:=gN (by rw[xAb,hra];rfl)
    have xw:=gO rs[a0];have ew:rs[a0].w=g0 (bB r (rs.map (·.w))) 0:=by
     unfold bB;show _=((r.args.take (aJ r.wd)).map (g0 (rs.map (·.w)))).getD 0 0;rw[xAh,xAb,ha0];exact(wS hra).symm
    rw[ew] at xw;have is1:=aAy (kE r.wd (f0 F j) m P);have is2:=aAy (kN r m (bB r (rs.map (·.w))) (bN r F) P);have is3:=aJu (jD r m (bN r F) P);have rdd:r.d=.tuple (.str r.wd.s::nD r.w::r.args.map nD):=rfl;unfold gT;rw[if_neg c1,if_neg c2,if_neg c4]
    by_cases c6:P.length=2
    ·have lE:(((P.length:Nat):Int)==2)=true:=by rw[beq_iff_eq];omega
     have p1:=qG (P:=P) (by omega)
     rw[dqT c6,yAo] at kn;cases k1:kE r.wd (f0 F j) m P with
     | some n =>
       rw[k1] at kn is1;have is1:aM .IsNot (aG (qq n)) .none=qq (.bool true):=is1;simp only[gR1,iD,i0,rj,r0,i1,i2,aO,bX,t0,op,hc',cP,Fj,lP,lE,p0,p1,q,kn,is1,r1]
     | none =>
       rw[k1] at kn is1;have is1:aM .IsNot (aG qz) .none=qq (.bool false):=is1;cases k2:fN r m (bB r (rs.map (·.w))) (bN r F) P with
       | some i =>
         have so:kN r m (bB r (rs.map (·.w))) (bN r F) P=pg P i:=by unfold kN;rw[k2];rfl
         rw[so] at si is2;have ni:=nn i c2 c1 c4 k2;obtain⟨v,hv⟩:∃ v,pg P i=qq v:=Option.ne_none_iff_exists'.mp ni;rw[hv] at si is2;have is2:aM .IsNot (aG (qq v)) .none=qq (.bool true):=is2;show _=qq (W.d (.tuple [aG (pg P i),.str "passed"]),S);rw[hv];simp only[gR1,iD,i0,rj,r0,i1,i2,aO,bX,t0,op,hc',cP,Fj,lP,lE,p0,p1,q,kn,is1,x0,xr,xw,si,is2]
       | none =>
         have so:kN r m (bB r (rs.map (·.w))) (bN r F) P=qz:=by unfold kN;rw[k2];rfl
         rw[so] at si is2;have is2:aM .IsNot (aG qz) .none=qq (.bool false):=is2;cases k3:jD r m (bN r F) P with
         | some l =>
           rw[k3] at lo is3;have is3:aM .IsNot (iC (qq l)) .none=qq (.bool true):=is3;simp only[gR1,iD,i0,rj,r0,i1,i2,aO,bX,t0,op,hc',cP,Fj,lP,lE,p0,p1,q,kn,is1,x0,xr,xw,si,is2,lo,is3]
         | none =>
           rw[k3] at lo is3;have is3:aM .IsNot (iC qz) .none=qq (.bool false):=is3;rw[rdd] at rj r0 op hc' kn si lo;simp only[gR1,iD,i0,rj,r0,i1,i2,aO,bX,t0,op,hc',cP,Fj,lP,lE,p0,p1,q,kn,is1,x0,xr,xw,si,is2,lo,is3,jI,dN,ad,h1,h2,h3,h4]
    ·have lE:(((P.length:Nat):Int)==2)=false:=by rw[beq_eq_false_iff_ne];omega
     rw[dqF c6,yAl] at kn;cases k1:kE r.wd (f0 F j) m P with
     | some n =>
       rw[k1] at kn is1;have is1:aM .IsNot (aG (qq n)) .none=qq (.bool true):=is1;simp only[gR1,iD,i0,rj,r0,i1,i2,aO,bX,t0,op,hc',cP,Fj,lP,lE,p0,kn,is1,r1]
     | none =>
       rw[k1] at kn is1;have is1:aM .IsNot (aG qz) .none=qq (.bool false):=is1;cases k2:fN r m (bB r (rs.map (·.w))) (bN r F) P with
       | some i =>
         have so:kN r m (bB r (rs.map (·.w))) (bN r F) P=pg P i:=by unfold kN;rw[k2];rfl
         rw[so] at si is2;have ni:=nn i c2 c1 c4 k2;obtain⟨v,hv⟩:∃ v,pg P i=qq v:=Option.ne_none_iff_exists'.mp ni;rw[hv] at si is2;have is2:aM .IsNot (aG (qq v)) .none=qq (.bool true):=is2;show _=qq (W.d (.tuple [aG (pg P i),.str "passed"]),S);rw[hv];simp only[gR1,iD,i0,rj,r0,i1,i2,aO,bX,t0,op,hc',cP,Fj,lP,lE,p0,kn,is1,x0,xr,xw,si,is2]
       | none =>
         have so:kN r m (bB r (rs.map (·.w))) (bN r F) P=qz:=by unfold kN;rw[k2];rfl
         rw[so] at si is2;have is2:aM .IsNot (aG qz) .none=qq (.bool false):=is2;cases k3:jD r m (bN r F) P with
         | some l =>
           rw[k3] at lo is3;have is3:aM .IsNot (iC (qq l)) .none=qq (.bool true):=is3;simp only[gR1,iD,i0,rj,r0,i1,i2,aO,bX,t0,op,hc',cP,Fj,lP,lE,p0,kn,is1,x0,xr,xw,si,is2,lo,is3]
         | none =>
           rw[k3] at lo is3;have is3:aM .IsNot (iC qz) .none=qq (.bool false):=is3;rw[rdd] at rj r0 op hc' kn si lo;simp only[gR1,iD,i0,rj,r0,i1,i2,aO,bX,t0,op,hc',cP,Fj,lP,lE,p0,kn,is1,x0,xr,xw,si,is2,lo,is3,jI,dN,ad,h1,h2,h3,h4]
end
theorem aAr{n t:Nat}(h:n.testBit t=true):n≠0:=λ z=>by rw[z,yBl] at h;cases h
theorem uX{m:Nat}(h:m≠0):2^bl m-1≠0:=by
 have:=tS h;have:=yAq (show 0<2 by decide) this
 omega
theorem aFs{m w:Nat}(h:m<2^w):gY m w=m:=by
 unfold gY;rw[if_pos (Nat.div_eq_of_lt h)]
theorem aHk{f:Ft}{m:Nat}(h:eS f m=qq 0):f.O.testBit 0=true:=by
 unfold eS at h
 split at h
 ·cases h
 ·rename_i c;have c1:f.O&&&m≠0:=λ z=>c (.inl z)
  have c2:(f.O&&&m)&&&((f.O&&&m)-1)=0:=Decidable.byContradiction λ z=>c (.inr (.inl z))
  have e:=(aGY c1).mp c2;have h:bl (f.O&&&m)-1=0:=Option.some.inj h;rw[h] at e;have:(f.O&&&m).testBit 0=true:=by rw[e];rfl
  rw[yAg,yAt] at this;exact this.1
section
variable {wd : Wd}{w kk m : Nat}{ws : List Nat}{fs : List Fc}{f g : Ft}
def Dj(f:Ft):Prop:=∀ t,f.O.testBit t=true->f.N.testBit t=false
theorem aHG{f:Ft}(hd:Dj f)(h:f.O.testBit 0=true):lr f.N=0:=by
 apply Decidable.byContradiction;intro c;have:=uQ (n:=f.N) (i:=0) (by omega)
 rw[hd 0 h] at this;cases this
theorem aAm(h0:m≠0)(e0:fs.getD 0 default=⟨f.N,f.O,f.A⟩)(e1:fs.getD 1 default=⟨g.N,g.O,g.A⟩):(bW .and w kk ws fs m).getD 0 0=bL m (bL g.N f.N)/\(bW .and w kk ws fs m).getD 1 0=bL m f.N:=by
 unfold bW;rw[if_neg h0,e0,e1];exact⟨rfl,rfl⟩
theorem aAQ(h0:m≠0)(e0:fs.getD 0 default=⟨f.N,f.O,f.A⟩)(e1:fs.getD 1 default=⟨g.N,g.O,g.A⟩):(bW .or w kk ws fs m).getD 0 0=bL m (bL g.O f.O)/\(bW .or w kk ws fs m).getD 1 0=bL m f.O:=by
 unfold bW;rw[if_neg h0,e0,e1];exact⟨rfl,rfl⟩
theorem aH2{x y:Nat}(h0:m≠0):bL m (bL y x)≠0\/bL m x≠0:=by
 have t:=oA h0;cases c:x.testBit (bl m-1) with
 | true =>
   left
   refine aAr (t:=bl m-1) ?_;rw[kR,kR,t,c];simp
 | false =>
   right
   refine aAr (t:=bl m-1) ?_;rw[kR,t,c];rfl
theorem aAg{x y:Nat}(h0:m≠0)(hs:(bL m x==0)=true)(hd:∀ t,x.testBit t=true->y.testBit t=false):bL m y≠0:=by
 have t:=oA h0;refine aAr (t:=bl m-1) ?_;rw[kR,t,hd _ (tT.mp hs _ t)];rfl
theorem aNg(h0:m≠0)(hd:Dj g)(e0:fs.getD 0 default=⟨f.N,f.O,f.A⟩)(e1:fs.getD 1 default=⟨g.N,g.O,g.A⟩)(h:cK wd g m=true):(bW wd w kk ws fs m).getD 0 0≠0:=by
 cases wd with
 | and =>
   rw[(aAm h0 e0 e1).1];refine aAg h0 h λ t ht=>?_
   rw[kR,hd t ht,yAl]
 | or =>
   rw[(aAQ h0 e0 e1).1];refine aAg h0 h λ t ht=>?_
   have:g.O.testBit t=false:=by
    cases c:g.O.testBit t with
    | false=>rfl
    | true=>rw[hd t c] at ht;cases ht
   rw[kR,this,yAl]
 | xor=>unfold bW;rw[if_neg h0];exact h0
 | add=>unfold bW;rw[if_neg h0];exact uX h0
 | sub=>unfold bW;rw[if_neg h0];exact uX h0
 | mul =>
   have z:=aHG hd (aHk (oqT h));unfold bW;rw[if_neg h0,e1];show 2^(bl m-min (bl m) (lr g.N))-1≠0;rw[z,Nat.min_zero,yGk];exact uX h0
 | _=>cases h
theorem aM3(h0:m≠0)(hd:Dj f)(e0:fs.getD 0 default=⟨f.N,f.O,f.A⟩)(e1:fs.getD 1 default=⟨g.N,g.O,g.A⟩)(h5:iR wd=true)(h:cK wd f m=true):(bW wd w kk ws fs m).getD 1 0≠0:=by
 cases wd with
 | and =>
   rw[(aAm h0 e0 e1).2];exact aAg h0 h λ t ht=>hd t ht
 | or =>
   rw[(aAQ h0 e0 e1).2];refine aAg h0 h λ t ht=>?_
   cases c:f.O.testBit t with
   | false=>rfl
   | true=>rw[hd t c] at ht;cases ht
 | xor=>unfold bW;rw[if_neg h0];exact h0
 | add=>unfold bW;rw[if_neg h0];exact uX h0
 | mul =>
   have z:=aHG hd (aHk (oqT h));unfold bW;rw[if_neg h0,e0];show 2^(bl m-min (bl m-min (bl m) (lr (fs.getD 1 default).N)) (lr f.N))-1≠0;rw[z,Nat.min_zero,yGk];exact uX h0
 | _=>cases h5
end
section
variable {rs : List Rw}{F : List Ft}
theorem aJj(p:Prg rs)(s:Snd rs F)(hF:F.length=rs.length){a:Nat}(ha:a<rs.length):Dj (f0 F a):=λ t ht=>by
 obtain⟨is,hi⟩:=p.ins;have hw:=rM (l:=rs.map (·.w)) (a:=a) (by rw[yAb];omega)
 have hn:=rM (l:=dZ rs (rs.map (·.w)) is []) (a:=a) (by rw[aCD p hi];omega)
 obtain⟨h1,h2,_⟩:=s.hold is hi a _ _ _ (pT (by omega)) hw hn
 cases c:(f0 F a).N.testBit t with
 | false=>rfl
 | true =>
   have z:=h1 t c;rw[h2 t ht] at z;cases z
theorem aAz{r:Rw}{c a:Nat}(h:(r.args.take (aJ r.wd))[c]? = qq a):(hZ r F).getD c default=⟨(f0 F a).N,(f0 F a).O,(f0 F a).A⟩/\f0 (bN r F) c=f0 F a:=by
 constructor
 ·unfold hZ bN;rw[xAh,xAb,xAb,h];rfl
 ·show(bN r F).getD c ⟨0,0,1⟩=_;unfold bN;rw[xAh,xAb,h];rfl
theorem aCq(p:Prg rs)(s:Snd rs F)(hF:F.length=rs.length){j:Nat}{r:Rw}(hr:rs[j]? = qq r){m:Nat}(h0:m≠0)(hm:m<2^r.w)(P:List (Option Nat))(hP:P.length=aJ r.wd)(hp:∀ c,(kJ rs F r m).getD c 0≠0->pg P c≠qz)(i:Nat)(hi:r.wd≠.in)(hn:r.wd≠.num)(h:fN r m (bB r (rs.map (·.w))) (bN r F) P=qq i):pg P i≠qz:=by
 obtain⟨f1,f2⟩:=p.fit j r hr;have hj:j<rs.length:=(gIm hr).1;have la:=vP p hr;obtain⟨w1,w2⟩:=rZ f1;have at_:∀ c,c<aJ r.wd->∃ a,(r.args.take (aJ r.wd))[c]? = qq a/\a<rs.length:=λ c hc=>by
  refine⟨_,yAa (by omega),?_⟩
  have:=f2 _ (yHd (l:=r.args.take (aJ r.wd)) (n:=c) (by omega))
  omega
 have c1:0<aJ r.wd:=by
  revert hi hn
  cases r.wd<;>decide
 obtain⟨a,ha,hal⟩:=at_ 0 c1;obtain⟨e0,e0'⟩:=aAz (F:=F) ha;have d0:=aJj p s hF hal;unfold kJ at hp;unfold fN at h;cases a1:(kK r.wd&&gI P) with
 | true =>
   rw[a1] at h;have h:qq 0=qq i:=h;cases h;obtain⟨b1,b2⟩:=(yAt _ _▸a1:_/\_);have b2:=oqT b2;have h2:=aIo b1;obtain⟨a',ha',_⟩:=at_ 1 (by omega)
   obtain⟨e1,_⟩:=aAz (F:=F) ha';have bT:(bW r.wd r.w (jF r) (bB r (rs.map (·.w))) (hZ r F) m).getD 0 0≠0\/(bW r.wd r.w (jF r) (bB r (rs.map (·.w))) (hZ r F) m).getD 1 0≠0:=by
    rcases oqT b1 with q | q
    ·rw[q,(aAm h0 e0 e1).1,(aAm h0 e0 e1).2];exact aH2 h0
    ·rw[q,(aAQ h0 e0 e1).1,(aAQ h0 e0 e1).2];exact aH2 h0
   rcases bT with q | q
   ·exact hp 0 q
   ·rw[b2];exact hp 1 q
 | false =>
   rw[a1] at h;cases a2:decide (r.wd=.pick) with
   | true =>
     rw[a2] at h;have q:=oqT a2;have h:nO (f0 (bN r F) 0) P=qq i:=h;rw[e0'] at h;have nd:bW r.wd r.w (jF r) (bB r (rs.map (·.w))) (hZ r F) m=if (f0 F a).O=1 then [1,m,0] else if (f0 F a).N=1 then [1,0,m] else [1,m,m]:=by
      rw[q];unfold bW;rw[if_neg h0,e0]
     rw[nd] at hp;unfold nO at h
     by_cases k1:(f0 F a).O=1
     ·rw[if_pos (.inr k1)] at h;cases h;rw[if_pos k1] at hp;exact hp 1 h0
     ·rw[if_neg k1] at hp
      by_cases k2:(f0 F a).N=1
      ·rw[if_pos k2] at hp;have p2:=hp 2 h0
       split at h
       ·rename_i c;cases h;rcases c with c | c
        ·rw[c];exact p2
        ·exact absurd c k1
       ·cases h;exact p2
      ·rw[if_neg k2] at hp
       split at h
       ·cases h;exact hp 1 h0
       ·cases h
   | false =>
     rw[a2] at h;cases a3:nK r.wd with
     | true =>
       rw[a3] at h;cases a4:jF r==0 with
       | false=>rw[a4] at h;cases h
       | true =>
         rw[a4] at h;have h:qq 0=qq i:=h;cases h;have k0:=beq_iff_eq.mp a4;refine hp 0 ?_;rw[k0];rcases oqT a3 with q | q | q
         ·rw[q];unfold bW;rw[if_neg h0];show m/2^0≠0;rw[yFs,Nat.div_one];exact h0
         ·rw[q];unfold bW;rw[if_neg h0];show(m*2^0)&&&(2^r.w-1)≠0;rw[yFs,Nat.mul_one,yCm,yHa hm];exact h0
         ·rw[q];unfold bW;rw[if_neg h0];show gY (m*2^0) r.w≠0;rw[yFs,Nat.mul_one,aFs hm];exact h0
     | false =>
       rw[a3] at h;cases a4:oT r.wd with
       | true =>
         rw[a4] at h;cases a5:g0 (bB r (rs.map (·.w))) 0==r.w with
         | false=>rw[a5] at h;cases h
         | true =>
           rw[a5] at h;have h:qq 0=qq i:=h;cases h;have k0:(bB r (rs.map (·.w))).getD 0 0=r.w:=beq_iff_eq.mp a5;refine hp 0 ?_;rcases oqT a4 with q | q | q
           ·rw[q];unfold bW;rw[if_neg h0];exact h0
           ·rw[q];unfold bW;rw[if_neg h0];show m&&&(2^(bB r (rs.map (·.w))).getD 0 0-1)≠0;rw[k0,yCm,yHa hm];exact h0
           ·rw[q];unfold bW;rw[if_neg h0];show gY m ((bB r (rs.map (·.w))).getD 0 0)≠0;rw[k0,aFs hm];exact h0
       | false =>
         rw[a4] at h;cases a5:(decide (P.length=2)&&cK r.wd (f0 (bN r F) 1) m) with
         | true =>
           rw[a5] at h;have h:qq 0=qq i:=h;cases h;obtain⟨b1,b2⟩:=(yAt _ _▸a5:_/\_);have b1:=oqT b1;obtain⟨a',ha',hal'⟩:=at_ 1 (by omega)
           obtain⟨e1,e1'⟩:=aAz (F:=F) ha';rw[e1'] at b2;exact hp 0 (aNg h0 (aJj p s hF hal') e0 e1 b2)
         | false =>
           rw[a5] at h;cases a6:(iR r.wd&&cK r.wd (f0 (bN r F) 0) m) with
           | false=>rw[a6] at h;cases h
           | true =>
             rw[a6] at h;have h:qq 1=qq i:=h;cases h;obtain⟨b1,b2⟩:=(yAt _ _▸a6:_/\_);have h2:aJ r.wd=2:=by revert b1;cases r.wd<;>decide
             obtain⟨a',ha',hal'⟩:=at_ 1 (by omega)
             obtain⟨e1,e1'⟩:=aAz (F:=F) ha';rw[e0'] at b2;exact hp 1 (aM3 h0 d0 e0 e1 b1 b2)
end
section
variable {rs : List Rw}{F : List Ft}{M : List Nat}
def xL(M:List Nat)(s:S3)(j:Nat):Prop:=∀ k,k<j->M.getD k 0≠0->pg s.P k≠qz
theorem aSH{P:List (Option Nat)}{x:Option Nat}{k:Nat}(h:k<P.length):pg (P++[x]) k=pg P k:=by
 show(P++[x]).getD k qz=P.getD k qz;rw[xAh,xAh,xAn h]
theorem aSn(P:List (Option Nat))(x:Option Nat):pg (P++[x]) P.length=x:=by
 show(P++[x]).getD P.length qz=x;rw[xAh,yAf (yAc _),yBm];rfl
theorem aS7(t:Tr)(s:S3):(iB t s).P=s.P++[match t.md with | some _=>qq s.R.length | none=>t.pl]:=by
 unfold iB;cases t.md<;>rfl
theorem aJi(p:Prg rs)(s:Snd rs F)(hF:F.length=rs.length){aE:List Nat}(hb:Bd rs M)(hmet:∀ (j:Nat) (r:Rw),rs[j]? = qq r->∀ q∈eQ rs F r (M.getD j 0),Sb q.2 (M.getD q.1 0)){j:Nat}{r:Rw}(hr:rs[j]? = qq r){st:S3}(hl:st.P.length=j)(hpl:xL M st j)(i:Nat)(h0:M.getD j 0≠0)(hi:r.wd≠.in)(hn:r.wd≠.num)(h:fN r (M.getD j 0) (bB r (rs.map (·.w))) (bN r F) (dJ r st.P)=qq i):pg (dJ r st.P) i≠qz:=by
 refine aCq p s hF hr h0 (hb.lt j r hr) (dJ r st.P) (zT p hr st.P) (λ c hc=>?_) i hi hn h
 obtain⟨f1,f2⟩:=p.fit j r hr;have la:=vP p hr;have hcl:c<aJ r.wd:=by
  apply Decidable.byContradiction;intro z;apply hc;rw[xAh,yDd (by unfold kJ;rw[aGN];omega)]
  rfl
 have ha:(r.args.take (aJ r.wd))[c]? = qq (r.args.take (aJ r.wd))[c]:=yAa (by omega)
 generalize (r.args.take (aJ r.wd))[c]=a at ha;have haj:=f2 a (xAl ha);have e:pg (dJ r st.P) c=pg st.P a:=by
  show((r.args.take (aJ r.wd)).map (pg st.P)).getD c qz=_;rw[xAh,xAb,ha];rfl
 rw[e];refine hpl a haj ?_;have hv:(kJ rs F r (M.getD j 0))[c]? = qq ((kJ rs F r (M.getD j 0)).getD c 0):=aCu (by unfold kJ;rw[aGN];omega)
 have hm:(a,(kJ rs F r (M.getD j 0)).getD c 0)∈eQ rs F r (M.getD j 0):=by
  refine xAl (i:=c) ?_;unfold eQ lY;rw[List.getElem?_zip_eq_some];exact⟨ha,hv⟩
 have sb:=hmet j r hr _ hm;exact aAr (sb _ (oA hc))
theorem aPx(hb:Bd rs M){j:Nat}{r:Rw}(hr:rs[j]? = qq r){s:S3}(hs:Ln s j)(h:xL M s j)(nn:∀ i,M.getD j 0≠0->r.wd≠.in->r.wd≠.num->fN r (M.getD j 0) (bB r (rs.map (·.w))) (bN r F) (dJ r s.P)=qq i->pg (dJ r s.P) i≠qz):xL M (iB (jH rs F M j r s.P) s) (j+1):=λ k hk h0=>by
 rw[aS7]
 by_cases c:k<j
 ·rw[aSH (by rw[hs.p];exact c)]
  exact h k c h0
 ·have ck:k=s.P.length:=by rw[hs.p];omega
  rw[ck,aSn];rw[ck,hs.p] at h0;unfold jH gT
  by_cases c1:r.wd=.in
  ·rw[if_pos c1];exact yDt _
  ·rw[if_neg c1,if_neg h0]
   by_cases c2:r.wd=.num
   ·rw[if_pos c2];exact yDt _
   ·rw[if_neg c2];cases k1:kE r.wd (f0 F j) (M.getD j 0) (dJ r s.P) with
    | some n=>exact yDt _
    | none =>
      cases k2:fN r (M.getD j 0) (bB r (rs.map (·.w))) (bN r F) (dJ r s.P) with
      | some i=>exact nn i h0 c1 c2 k2
      | none =>
        cases k3:jD r (M.getD j 0) (bN r F) (dJ r s.P) with
        | some l=>exact yDt _
        | none=>exact yDt _
noncomputable abbrev eU(P:D)(F:List Ft)(M:List Nat)(c6 c7 c8 c9:Option W):aX:=[qq (.d P),qq (.d (.tuple (F.map Ft.d))),qq (.d (.tuple (M.map nD))),qq (.loc 1),qq (.loc 2),qq (.loc 3),c6,c7,c8,c9,qz]
theorem aOf(d:Nat)(p:Prg rs)(hF:F.length=rs.length)(hb:Bd rs M){j:Nat}{r:Rw}(hr:rs[j]? = qq r){s:S3}(hs:Ln s j)(nn:∀ i,M.getD j 0≠0->r.wd≠.in->r.wd≠.num->fN r (M.getD j 0) (bB r (rs.map (·.w))) (bN r F) (dJ r s.P)=qq i->pg (dJ r s.P) i≠qz)(s0:Option (List D))(o:D)(c7 c8 c9:Option W):∃ c7' c8' c9':Option W,xs (aD fns (d+6)) qW (eU (.tuple [.tuple (rs.map Rw.d),o]) F M (qq (.d (.int j))) c7 c8 c9) (bR s0 s)=qq (.nx (eU (.tuple [.tuple (rs.map Rw.d),o]) F M (qq (.d (.int j))) c7' c8' c9'),bR s0 (iB (jH rs F M j r s.P) s)):=by
 have hj:j<rs.length:=(gIm hr).1;have pl:=p.l;obtain⟨f1,f2⟩:=p.fit j r hr;have hw:=p.ws j r hr;have ol:=aCB r;have hm:M.getD j 0<2^64:=xAc (hb.lt j r hr) (yAq (by decide) hw.2)
 have be:=aL3 d p hF hr (M.getD j 0) hm (dJ r s.P) (zT p hr s.P) nn o (bR s0 s);have i0:aP (.tuple [.tuple (rs.map Rw.d),o]) (.int 0)=qq (.tuple (rs.map Rw.d)):=rfl;have rj:aP (.tuple (rs.map Rw.d)) (.int j)=qq r.d:=gN (by rw[xAb,hr];rfl)
 have mj:=aOs (M:=M) (i:=j) (by rw[hb.l];exact hj)
 obtain⟨X,hX⟩:∃ X:D,X=.tuple [.tuple (rs.map Rw.d),o]:=⟨_,rfl⟩;rw[<- hX] at i0 be ⊢;have op:=λ S'=>pG (d+5) r S'
 have op':∀ S',cl fns (d+6) 7 [.d r.d] S'=qq (.d (.tuple ((lY r).map nD)),S'):=op;obtain⟨vs,S2,ec,hS2,hI,hvl,hq⟩:=zH (t:=.one 10) (fi:=lv (aD fns (d+6)) (.it (.call 7 (.cons (.ix (.ix (.var 0) (.int 0)) (.var 6)) .nil)))) (fe:=ev (aD fns (d+6)) (.ix (.var 4) (.var 10))) (env:=eU X F M (qq (.d (.int j))) c7 c8 c9) (S:=bR s0 s) (S1:=bR s0 s) nD (λ _ S'=>S'=bR s0 s) (λ a v=>v=aG (pg s.P a)) (lY r) (by
  simp only[evs,eU,i0,rj,op',fG]) (by rw[zj];omega) rfl (by
  intro a ha;refine⟨_,rfl,?_⟩;rintro i S3 aH hi hSl rfl;have hl:a<s.P.length:=by have:=f2 a ha;rw[hs.p];exact this
  have hx:aP (.list (s.P.map aG)) (nD a)=qq (aG (pg s.P a)):=iW (by
   rw[xAb,yAa hl];show qq (aG s.P[a])=qq (aG (s.P.getD a qz));rw[xAh,yAa hl];rfl)
  refine⟨aG (pg s.P a),_,?_,rfl,rfl,rfl⟩;simp only[evs,eU,bR,clr,yBy,yEm,hx])
 subst hI;have ev1:vs=(dJ r s.P).map aG:=by
  rw[aBL hvl hq,dJ,yBs];rfl
 subst ev1;have ec':lv (aD fns (d+6)) aED [qq (.d X),qq (.d (.tuple (F.map Ft.d))),qq (.d (.tuple (M.map nD))),qq (.loc 1),qq (.loc 2),qq (.loc 3),qq (.d (.int j)),c7,c8,c9,qz] [s0,qq (s.R.map tA),qq (s.P.map aG),qq (s.V.map vD)]=qq ((dJ r s.P).map aG,[s0,qq (s.R.map tA),qq (s.P.map aG),qq (s.V.map vD)]):=ec;have be':cl fns (d+6) 77 [.d X,.d (.int j),.d (.tuple (F.map Ft.d)),.d (.int ((M.getD j 0:Nat):Int)),.d (.tuple ((dJ r s.P).map aG))] [s0,qq (s.R.map tA),qq (s.P.map aG),qq (s.V.map vD)]=qq (.d (.tuple [whD (jH rs F M j r s.P),vD (jH rs F M j r s.P).v]),[s0,qq (s.R.map tA),qq (s.P.map aG),qq (s.V.map vD)]):=be;obtain⟨⟨v,md,pl'⟩,ht⟩:∃ t,t=jH rs F M j r s.P:=⟨_,rfl⟩;rw[<- ht] at be' ⊢;obtain⟨R,P,V⟩:=s;have h1:=hs.p;have h2:=hs.v;have h3:=hs.r;dsimp only at h1 h2 h3 ec' be';generalize hC:(dJ r P).map aG=A3 at ec' be';have a3:=ap3 s0 (qq (R.map tA)) (qq (P.map aG)) (V.map vD) [] (vD v) (by rw[yAb];omega)
 cases md with
 | some l =>
   have is:fQ .tup (tA l)=qq (.bool true):=rfl;have be2:cl fns (d+6) 77 [.d X,.d (.int j),.d (.tuple (F.map Ft.d)),.d (.int ((M.getD j 0:Nat):Int)),.d (.tuple A3)] [s0,qq (R.map tA),qq (P.map aG),qq (V.map vD)]=qq (.d (.tuple [tA l,vD v]),[s0,qq (R.map tA),qq (P.map aG),qq (V.map vD)]):=be';have lR:dQ [.list (R.map tA++[tA l])]=qq (.int ((R.length+1:Nat):Int)):=by
    show qq (yAn (((R.map tA++[tA l]).length:Nat):Int))=_;rw[xAo,yAb];rfl
   have sb:((R.length+1:Nat):Int)-1=((R.length:Nat):Int):=by omega
   have a1:=ap1 s0 (R.map tA) [qq (P.map aG),qq (V.map vD++[vD v])] (tA l) (by rw[yAb];omega)
   have a2:=xD s0 (qq (R.map tA++[tA l])) (P.map aG) [qq (V.map vD++[vD v])] (.int R.length) (by rw[yAb];omega)
   have es:bR s0 (iB ⟨v,qq l,pl'⟩ ⟨R,P,V⟩)=[s0,qq (R.map tA++[tA l]),qq (P.map aG++[.int R.length]),qq (V.map vD++[vD v])]:=by
    show [s0,qq ((R++[l]).map tA),qq ((P++[qq R.length]).map aG),qq ((V++[v]).map vD)]=_;rw[yBa,yBa,yBa];rfl
   refine⟨qq (.d (.tuple A3)),qq (.d (.int R.length)),qq (.d (vD v)),?_⟩;rw[es];simp only[gS2,qW,eU,bR,ec',cP,kZ,lA,mj,be2,jZ,a3,is,a1,lR,cQ,sb,a2]
 | none =>
   have is:fQ .tup (aG pl')=qq (.bool false):=by cases pl'<;>rfl
   have be2:cl fns (d+6) 77 [.d X,.d (.int j),.d (.tuple (F.map Ft.d)),.d (.int ((M.getD j 0:Nat):Int)),.d (.tuple A3)] [s0,qq (R.map tA),qq (P.map aG),qq (V.map vD)]=qq (.d (.tuple [aG pl',vD v]),[s0,qq (R.map tA),qq (P.map aG),qq (V.map vD)]):=be';have a2:=xD s0 (qq (R.map tA)) (P.map aG) [qq (V.map vD++[vD v])] (aG pl') (by rw[yAb];omega)
   have es:bR s0 (iB ⟨v,qz,pl'⟩ ⟨R,P,V⟩)=[s0,qq (R.map tA),qq (P.map aG++[aG pl']),qq (V.map vD++[vD v])]:=by
    show [s0,qq (R.map tA),qq ((P++[pl']).map aG),qq ((V++[v]).map vD)]=_;rw[yBa,yBa];rfl
   refine⟨qq (.d (.tuple A3)),qq (.d (aG pl')),qq (.d (vD v)),?_⟩;rw[es];simp only[gS2,qW,eU,bR,ec',cP,kZ,lA,mj,be2,jZ,a3,is,a2]
end
theorem Sb.trans{a b c:Nat}(h:Sb a b)(k:Sb b c):Sb a c:=λ i x=>k i (h i x)
theorem aQV(a b:Nat):Sb a (a|||b):=λ i h=>by rw[xAp,h,Bool.true_or]
theorem aRy(a b:Nat):Sb b (a|||b):=λ i h=>by rw[xAp,h,yFt]
theorem aPH(M:List Nat)(q:Nat×Nat)(i:Nat):Sb (M.getD i 0) ((cO M q).getD i 0):=by
 unfold cO
 by_cases c:q.1=i
 ·subst c
  by_cases l:q.1<M.length
  ·rw[yG l];exact aQV _ _
  ·rw[yEy (by omega)]
   exact Sb.refl _
 ·rw[yF c];exact Sb.refl _
theorem aCs:∀ (l:List (Nat×Nat)) (M:List Nat) (i:Nat),Sb (M.getD i 0) ((l.foldl cO M).getD i 0)
 | [],_,_=>Sb.refl _
 | q::l,M,i=>(aPH M q i).trans (aCs l (cO M q) i)
theorem aNZ(M:List Nat)(q:Nat×Nat):(cO M q).length=M.length:=by unfold cO;rw[yBi]
theorem aHz:∀ (l:List (Nat×Nat)) (M:List Nat) (q:Nat×Nat),q∈l->q.1<M.length->Sb q.2 ((l.foldl cO M).getD q.1 0)
 | [],_,_,h,_=>by cases h
 | x::l,M,q,h,hl=>by
   rcases List.mem_cons.mp h with rfl | h
   ·refine Sb.trans ?_ (aCs l (cO M q) q.1);unfold cO;rw[yG hl];exact aRy _ _
   ·exact aHz l (cO M x) q h (by rw[aNZ];exact hl)
section
variable {rs : List Rw}{F : List Ft}{r : Rw}{k m : Nat}{M : List Nat}
theorem aG8:∀ (k:Nat) (M:List Nat) (i:Nat),Sb (M.getD i 0) ((jW rs F k M).getD i 0)
 | 0,_,_=>Sb.refl _
 | k+1,M,i=>by
   refine Sb.trans ?_ (aG8 k (fW rs F M k) i);unfold fW;cases rs[k]? with
   | none=>exact Sb.refl _
   | some r=>exact aCs _ M i
theorem aF7(p:Prg rs):∀ (k:Nat) (M:List Nat),Bd rs M->k<=rs.length->∀ (j:Nat) (r:Rw),j<k->rs[j]? = qq r->∀ q∈eQ rs F r ((jW rs F k M).getD j 0),Sb q.2 ((jW rs F k M).getD q.1 0)
 | 0,_,_,_,j,_,hj,_,_,_=>absurd hj (yFh j)
 | k+1,M,h,hk,j,r,hj,hr,q,hq=>by
   have hb:=aGP (F:=F) p (show k<rs.length by omega) h
   by_cases c:j=k
   ·subst c;have e:(jW rs F (j+1) M).getD j 0=M.getD j 0:=aGL p (j+1) M j h hk (yAc _);rw[e] at hq;have a:=(aAv p hr (h.lt j r hr) q hq).1;show Sb q.2 ((jW rs F j (fW rs F M j)).getD q.1 0);refine Sb.trans ?_ (aG8 j (fW rs F M j) q.1);rw[aCC hr];exact aHz _ M q hq (by rw[h.l];omega)
   ·exact aF7 p k (fW rs F M k) hb (by omega) j r (by omega) hr q hq
end
theorem aIi(a:Am):yCg a.d a.d=true:=by
 cases a<;>simp[Am.d,yCg]
theorem aHa{α:Type}{g:α->D}(h:∀ a,yCg (g a) (g a)=true):∀ l:List α,PyData.eqvAll (l.map g) (l.map g)=true
 | []=>rfl
 | a::r=>by
   have ih:=aHa h r;simp only[yBb,PyData.eqvAll,h a,ih,yBk]
theorem zY{α:Type}{g:α->D}(h:∀ a,yCg (g a) (g a)=true)(l:List α):yCg (.tuple (l.map g)) (.tuple (l.map g))=true:=by
 have:=aHa h l;simp only[yCg,this]
theorem uP{α:Type}{g:α->D}(h:∀ a,(g a).canLay0=true):∀ l:List α,yCi (l.map g)=true
 | []=>rfl
 | a::r=>by
   have ih:=uP h r;simp only[yBb,yCi,h a,ih,yBk]
theorem uN{α:Type}{g:α->D}{n:Nat}(h:∀ a,(g a).depth<=n):∀ l:List α,yCa (l.map g)<=n
 | []=>yGa _
 | a::r=>by
   have ih:=uN h r;have:=h a;simp only[yBb,yCa];omega
theorem aSC(a:Option Nat):yCg (aG a) (aG a)=true:=by rw[<- sC];exact aIi _
theorem aRn(a:Wd):(PyData.str a.s).canLay0=true:=by cases a<;>kernel_rfl
theorem aUW(a:Vd):(vD a).canLay0=true:=by cases a<;>kernel_rfl
theorem aIQ(a:Am):(a.d).canLay0=true:=by
 cases a with
 | s x=>exact aRn x
 | n k=>rfl
 | z=>rfl
theorem aIH(a:Am):(a.d).depth<=0:=by cases a<;>exact yAc _
theorem aRu(s:S3)(aE:List Nat):aM .Eq (fR s aE) (fR s aE)=qq (.bool true):=by
 have e1:=zY (g:=tA) (λ l=>zY aIi l) s.R
 have e2:=zY (g:=λ o=>aG (pg s.P o)) (λ o=>aSC _) aE
 have e3:=zY (g:=vD) (λ v=>by simp[vD,yCg]) s.V
 have h3:yCg (fR s aE) (fR s aE)=true:=by
  unfold fR;simp only[yCg,PyData.eqvAll,yBk] at e1 e2 e3 ⊢;rw[e1,e2,e3];rfl
 have l1:yCi (s.R.map tA)=true:=uP (g:=tA) (λ l=>uP aIQ l) s.R
 have l2:yCi (aE.map λ o=>aG (pg s.P o))=true:=uP (λ o=>by rw[<- sC];exact aIQ _) aE
 have l3:yCi (s.V.map vD)=true:=uP aUW s.V;have h1:(fR s aE).canLay0=true:=by
  unfold fR;simp only[PyData.canLay0,yCi,l1,l2,l3,yBk]
 have d1:yCa (s.R.map tA)<=1:=uN (g:=tA) (λ l=>by
  show yCa (l.map Am.d)+1<=1;have:=uN aIH l;omega) s.R
 have d2:yCa (aE.map λ o=>aG (pg s.P o))<=0:=uN (λ o=>by rw[<- sC];exact aIH _) aE
 have d3:yCa (s.V.map vD)<=0:=uN (g:=vD) (n:=0) (λ v=>yAc 0) s.V
 have h2:(fR s aE).depth<=60:=by
  unfold fR;simp only[PyData.depth,yCa];omega
 unfold aM qI;simp only[];rw[if_pos ⟨h1,h1,h2⟩,h3];rfl
section
variable {rs : List Rw}{F : List Ft}{M : List Nat}
theorem aRN(d:Nat)(p:Prg rs)(sd:Snd rs F)(hF:F.length=rs.length)(aE:List Nat)(ho:∀ o∈aE,o<rs.length)(hol:aE.length<=8)(s0:Option (List D))(eF:cl fns (d+9) 48 [.d (.tuple [.tuple (rs.map Rw.d),.tuple (aE.map nD)])] [s0]=qq (.d (.tuple (F.map Ft.d)),[s0])):cl fns (d+10) 78 [.d (.tuple [.tuple (rs.map Rw.d),.tuple (aE.map nD)])] [s0]=qq (.d (fR (eV rs F (fS rs F aE) rs.length) aE),[s0]):=by
 have pl:=p.l;obtain⟨hb,eA⟩:=aGw (d+2) p hF aE ho [s0];have met:=aF7 (F:=F) p rs.length (mU rs aE) (aG4 aE _ ho aHg) (yAc _);have met':∀ (j:Nat) (r:Rw),rs[j]? = qq r->∀ q∈eQ rs F r ((fS rs F aE).getD j 0),Sb q.2 ((fS rs F aE).getD q.1 0):=λ j r hr=>met j r (gIm hr).1 hr
 obtain⟨M,hM⟩:∃ M,M=fS rs F aE:=⟨_,rfl⟩;rw[<- hM] at hb eA met' ⊢;have i1:aP (.tuple [.tuple (rs.map Rw.d),.tuple (aE.map nD)]) (.int 1)=qq (.tuple (aE.map nD)):=rfl;have lM:dQ [.tuple (M.map nD)]=qq (.int rs.length):=by
  show qq (yAn (((M.map nD).length:Nat):Int))=_;rw[yAb,hb.l]
 have turn:=λ(j:Nat) (r:Rw) (hr:rs[j]? = qq r) (s:S3) (hs:Ln s j) (hpl:xL M s j)=>aOf (d+3) p hF hb hr hs (aJi (aE:=aE) p sd hF hb met' hr hs.p hpl) s0 (.tuple (aE.map nD))
 obtain⟨P,hP⟩:∃ P:D,P=.tuple [.tuple (rs.map Rw.d),.tuple (aE.map nD)]:=⟨_,rfl⟩;simp only[<- hP] at eF eA i1 turn ⊢;have it:lv (aD fns (d+9)) xU (eU P F M qz qz qz qz) (bR s0 ⟨[],[],[]⟩)=qq ((yAm rs.length).map (λ k=>yAn ((k:Nat):Int)),bR s0 ⟨[],[],[]⟩):=by
  simp only[xU,vN,rH,uM,uJ];exact qX (by simp only[evs,eU,lM]) (by omega)
 obtain⟨aN,S',p1,c6,c7,c8,c9,hpl,rfl,rfl⟩:=pQ (t:=.one 6) (fb:=xs (aD fns (d+9)) qW)
  (λ j env S'=>∃ c6 c7 c8 c9:Option W,xL M (eV rs F M j) j/\env=eU P F M c6 c7 c8 c9/\S'=bR s0 (eV rs F M j))
  it ⟨qz,qz,qz,qz,(λ k hk=>absurd hk (yFh k)),rfl,rfl⟩ (by
   rintro j dd env S' hd ⟨c6,c7,c8,c9,hpl,rfl,rfl⟩;obtain⟨hj,rfl⟩:=aN5 hd;have hr:rs[j]? = qq rs[j]:=yAa hj;generalize rs[j]=r at hr;have ln:=rS (F:=F) (M:=M) j (yEu hj);obtain⟨a7,a8,a9,e⟩:=turn j r hr (eV rs F M j) ln hpl c7 c8 c9;refine⟨eU P F M (qq (.d (.int j))) c7 c8 c9,eU P F M (qq (.d (.int j))) a7 a8 a9,_,rfl,e,_,a7,a8,a9,?_,rfl,by rw[uD hr]⟩
   rw[uD hr];exact aPx hb hr ln hpl (aJi (aE:=aE) p sd hF hb met' hr ln.p hpl))
 rw[yAb,yBd] at p1;have ln:=rS (F:=F) (M:=M) rs.length (yAc _);generalize eV rs F M rs.length=s at p1 ln ⊢;have oc:lv (aD fns (d+9)) xV [qq (.d P),qq (.d (.tuple (F.map Ft.d))),qq (.d (.tuple (M.map nD))),qq (.loc 1),qq (.loc 2),qq (.loc 3),c6,c7,c8,c9,qz] (bR s0 s)=qq (aE.map λ o=>aG (pg s.P o),bR s0 s):=by
  refine aFX (aD fns (d+9)) xV 0 6 4 _ [qq (.d P),qq (.d (.tuple (F.map Ft.d))),qq (.d (.tuple (M.map nD))),qq (.loc 1),qq (.loc 2),qq (.loc 3),c6,c7,c8,c9,qz] aE s s0 hol (λ o h=>by rw[ln.p];exact ho o h) ?_ (λ a=>rfl) (λ a=>rfl) λ a=>rfl
  simp only[gS0,i1,fG]
 have p1':dC (.one 6) (lv (aD fns (d+9)) xU) (xs (aD fns (d+9)) qW) [qq (.d P),qq (.d (.tuple (F.map Ft.d))),qq (.d (.tuple (M.map nD))),qq (.loc 1),qq (.loc 2),qq (.loc 3),qz,qz,qz,qz,qz] [s0,qq [],qq [],qq []]=qq (.nx (eU P F M c6 c7 c8 c9),bR s0 s):=p1;have oc':lv (aD fns (d+9)) xV [qq (.d P),qq (.d (.tuple (F.map Ft.d))),qq (.d (.tuple (M.map nD))),qq (.loc 1),qq (.loc 2),qq (.loc 3),c6,c7,c8,c9,qz] [s0,qq (s.R.map tA),qq (s.P.map aG),qq (s.V.map vD)]=qq (aE.map λ o=>aG (pg s.P o),[s0,qq (s.R.map tA),qq (s.P.map aG),qq (s.V.map vD)]):=oc
 rw[aY rfl (d+9) _ [s0] rfl];simp only[gR3,aFD,eA,eU,eF,iO,p1',bR,oc',cP,kZ,lA]
end
theorem aPE(C:Calls)(f0':W)(l:List Am)(S:aC)(c2:Option W)(hl:l.length<=1000):xs C tG [qq f0',qq (.d (tA l)),c2] S=qq (.nx [qq f0',qq (.d (tA l)),c2],S):=by
 have hc:lv C aEs [qq f0',qq (.d (tA l)),c2] S=qq (l.map λ _=>yDr false,S):=by
  refine uI (fi:=lv C (.it (.var 1))) (fe:=ev C (.isi (.var 2) .bool)) Am.d (λ _=>yDr false) l ?_ (by rw[zj];omega) λ a _=>?_
  ·simp only[gS0,tA,fG]
  ·refine⟨[qq f0',qq (.d (tA l)),qq (.d a.d)],rfl,λ S'=>?_⟩
   have is:fQ .bool a.d=qq (.bool false):=by cases a<;>rfl
   simp only[gS0,is]
 have an:sL [.list (l.map λ _=>yDr false)]=qq (.bool false):=by
  rw[aQn (λ _:Am=>false) l,List.any_eq_false.mpr λ _ _=>by decide]
 have is:fQ .tup (tA l)=qq (.bool true):=rfl;simp only[gS1,tG,is,hc,cP,an]
theorem aNu(d:Nat)(s:S3)(aE:List Nat)(hR:s.R.length<=100)(hA:∀ l∈s.R,l.length<=1000)(hol:aE.length<=8)(S:aC):cl fns (d+1) 79 [.d (fR s aE)] S=qq (.d (.bool true),S):=by
 have i0:aP (fR s aE) (.int 0)=qq (.tuple [.tuple (s.R.map tA),.tuple (aE.map λ o=>aG (pg s.P o))]):=rfl
 have is0:fQ .tup (fR s aE)=qq (.bool true):=rfl;have l0:dQ [fR s aE]=qq (.int 2):=rfl;have ne:((2:Int)==2)=true:=rfl;have j0:aP (.tuple [.tuple (s.R.map tA),.tuple (aE.map λ o=>aG (pg s.P o))]) (.int 0)=qq (.tuple (s.R.map tA)):=rfl
 have j1:aP (.tuple [.tuple (s.R.map tA),.tuple (aE.map λ o=>aG (pg s.P o))]) (.int 1)=qq (.tuple (aE.map λ o=>aG (pg s.P o))):=rfl
 have is1:fQ .tup (.tuple [.tuple (s.R.map tA),.tuple (aE.map λ o=>aG (pg s.P o))])=qq (.bool true):=rfl
 have l1:dQ [.tuple [.tuple (s.R.map tA),.tuple (aE.map λ o=>aG (pg s.P o))]]=qq (.int 2):=rfl
 have oe:(.tuple (aE.map λ o=>aG (pg s.P o)):D)=tA (aE.map λ o=>eX (pg s.P o)):=by
  unfold tA;rw[yBs];exact congrArg yDf (yCh λ o _=>(sC _).symm)
 have ct:bS .Add (.tuple (s.R.map tA)) (.tuple [.tuple (aE.map λ o=>aG (pg s.P o))])=qq (.tuple ((s.R++[aE.map λ o=>eX (pg s.P o)]).map tA)):=by
  rw[aA1 _ _ (by rw[yAb];show s.R.length+1<=1000;omega),oe,yBa]
  rfl
 obtain⟨x,hx⟩:∃ x,x=fR s aE:=⟨_,rfl⟩;rw[<- hx] at i0 is0 l0 ⊢;have it:lv (aD fns d) xR [qq (.d x),qz,qz] S=qq ((s.R++[aE.map λ o=>eX (pg s.P o)]).map tA,S):=by
  simp only[gS1,xR,i0,j0,j1,ct,fG]
 obtain⟨env1,p1,c1,rfl⟩:=aRA (t:=.one 1) (fb:=xs (aD fns d) tG) (λ env=>∃ c1:Option W,env=[qq (.d x),c1,qz]) it ⟨qz,rfl⟩ (by
  rintro dd hdd env ⟨c1,rfl⟩;obtain⟨l,hl,rfl⟩:=List.mem_map.mp hdd;refine⟨_,_,rfl,aPE (aD fns d) (.d x) l S qz ?_,_,rfl⟩;rcases List.mem_append.mp hl with h | h
  ·exact hA l h
  ·rw[List.mem_singleton.mp h,yAb];omega)
 have p1':dC (.one 1) (lv (aD fns d) xR) (xs (aD fns d) tG) [qq (.d x),qz,qz] S=qq (.nx [qq (.d x),c1,qz],S):=p1;rw[aY rfl d _ S rfl];simp only[gR1,aES,is0,l0,i0,is1,l1,iX,ne,p1',yDs]
theorem aPw{r:Rw}{f:Ft}{m:Nat}{ws:List Nat}{Fs:List Ft}{P:List (Option Nat)}{l:List Am}(ha:r.args.length<=10)(hP:P.length<=3)(h:(gT r f m ws Fs P).md=qq l):l.length<=1000:=by
 have hr:(lV r).length<=1000:=by show(r.args.map Am.n).length+1+1<=1000;rw[yAb];omega
 unfold gT at h
 split at h
 ·cases h;exact hr
 ·split at h
  ·cases h
  ·split at h
   ·cases h;exact hr
   ·split at h
    ·cases h;exact yFv rfl
    ·split at h
     ·cases h
     ·split at h
      ·rename_i l' e;cases h;unfold jD at e;have hp:(Am.s Wd.or::Am.n r.w::P.map eX).length<=1000:=by show(P.map eX).length+1+1<=1000;rw[yAb];omega
       split at e
       ·unfold xJ at e
        split at e
        ·cases e;exact yFv rfl
        ·split at e
         ·cases e;exact yFv rfl
         ·cases e
       ·split at e
        ·cases e;exact hp
        ·split at e
         ·cases e;exact hp
         ·cases e
      ·cases h;show(P.map eX++(r.args.drop P.length).map Am.n).length+1+1<=1000;rw[xAo,yAb,yAb,yFw];omega
theorem aHN{rs:List Rw}{F:List Ft}{M:List Nat}(p:Prg rs):∀ j,j<=rs.length->∀ l∈(eV rs F M j).R,l.length<=1000
 | 0,_,l,h=>by cases h
 | j+1,hj,l,h=>by
   have hr:rs[j]? = qq rs[j]:=yAa hj;generalize rs[j]=r at hr;rw[uD hr] at h;have ih:=aHN (F:=F) (M:=M) p j (Nat.le_of_succ_le hj);have c3:aJ r.wd<=3:=by cases r.wd<;>decide
   unfold iB at h;cases c:(jH rs F M j r (eV rs F M j).P).md with
   | none=>rw[c] at h;exact ih l h
   | some l' =>
     rw[c] at h;rcases List.mem_append.mp h with h | h
     ·exact ih l h
     ·rw[List.mem_singleton.mp h];exact aPw (aCa (p.fit j r hr).1) (by rw[zT p hr];exact c3) c
section
variable {ns : List Int}{k : Nat}{x : Int}{rs : List Rw}
noncomputable abbrev aI(a:Option (List D))(ns:List Int)(k:Nat)(x:Int)(rs:List Rw)(T:aC):aC:=qq (bV ns k x)::a::qq (rs.map Rw.d)::T
theorem aNc(d:Nat)(a:Option (List D))(T:aC)(r:Rw)(hl:rs.length<=900):cl fns (d+1) 63 [.loc 2,.d r.d] (aI a ns k x rs T)=qq (.d (.int rs.length),aI a ns k x (rs++[r]) T):=by
 have ap:=xD (qq (bV ns k x)) a (rs.map Rw.d) T r.d (by rw[yAb];omega)
 have lR:dQ [.list (rs.map Rw.d++[r.d])]=qq (.int ((rs.length+1:Nat):Int)):=by
  show qq (yAn (((rs.map Rw.d++[r.d]).length:Nat):Int))=_;rw[xAo,yAb];rfl
 have sb:((rs.length+1:Nat):Int)-1=((rs.length:Nat):Int):=by omega
 have es:aI a ns k x (rs++[r]) T=qq (bV ns k x)::a::qq (rs.map Rw.d++[r.d])::T:=by
  show qq (bV ns k x)::a::qq ((rs++[r]).map Rw.d)::T=_;rw[yBa];rfl
 rw[es];rw[aY rfl d _ _ rfl];simp only[gR1,aEU,aI,jZ,ap,lR,cQ,sb,yBg,List.take_succ_cons,yAh]
end
structure Ex(rs bH:List Rw)(i w n:Nat):Prop where
 ok:eG [] bH
 keep:∀ a v:Nat,(rs.map (·.w))[a]? = qq v->(bH.map (·.w))[a]? = qq v
 at_:(bH.map (·.w))[i]? = qq w
 hi:bH.length<=rs.length+n
theorem aUc{rs:List Rw}{r:Rw}{a v:Nat}(h:(rs.map (·.w))[a]? = qq v):((rs++[r]).map (·.w))[a]? = qq v:=by
 rw[yBa,xAn (gIm h).1];exact h
theorem aC9(rs:List Rw)(r:Rw):((rs++[r]).map (·.w))[rs.length]? = qq r.w:=by
 rw[yBa,yAf (by rw[yAb];exact yAc _),yAb,yBm]
 rfl
theorem aRs{rs:List Rw}{r:Rw}(h:eG [] rs)(hr:fB (rs.map (·.w)) r):eG [] (rs++[r]):=aEO h (by rw[yDn];exact hr)
theorem Ex.add{rs:List Rw}{r:Rw}(h:eG [] rs)(hr:fB (rs.map (·.w)) r):Ex rs (rs++[r]) rs.length r.w 1:=⟨aRs h hr,λ _ _ e=>aUc e,aC9 rs r,by simp⟩
theorem Ex.refl{rs:List Rw}{i w:Nat}(h:eG [] rs)(e:(rs.map (·.w))[i]? = qq w):Ex rs rs i w 0:=⟨h,λ _ _ e=>e,e,yAc _⟩
theorem Ex.then{a b c:List Rw}{i w j v n m:Nat}(h:Ex a b i w n)(g:Ex b c j v m):Ex a c j v (n+m):=⟨g.ok,λ x y e=>g.keep x y (h.keep x y e),g.at_,by have:=h.hi;have:=g.hi;omega⟩
theorem Ex.le{a b:List Rw}{i w n m:Nat}(h:Ex a b i w n)(e:n<=m):Ex a b i w m:=⟨h.ok,h.keep,h.at_,by have:=h.hi;omega⟩
section
variable {ns : List Int}{k : Nat}{x : Int}{rs : List Rw}
theorem aUJ(d w:Nat)(a:Option (List D))(T:aC)(hl:rs.length<=100)(q:Nat):lv (aD fns d) aEo [qq (.loc 0),qq (.loc 2),qq (.d (.int w)),qq (.d (.int q)),qz,qz,qz,qz,qz,qz] (aI a ns k x rs T)=qq (((yAm rs.length).filter λ j=>(rs.map (·.w))[j]?==qq w).map nD,aI a ns k x rs T):=by
 have lR:dQ [.list (rs.map Rw.d)]=qq (.int rs.length):=by
  show qq (yAn (((rs.map Rw.d).length:Nat):Int))=_;rw[yAb]
 refine aNU (fi:=lv (aD fns d) (.rng1 (.blt .len (.cons (.var 1) .nil)))) (fc:=tv (aD fns d) (.cmp .Eq (.ix (.ix (.var 1) (.var 9)) (.int 1)) (.var 2))) (fe:=ev (aD fns d) (.var 9)) nD nD (λ j=>(rs.map (·.w))[j]?==qq w) (yAm rs.length) ?_ (by rw[yBd,zj];omega) (λ j hj=>?_)
 ·simp only[vN,rH,uM,uJ];refine qX ?_ (by omega)
  simp only[gS0,aI,lR]
 ·have hj':j<rs.length:=by simpa using hj
  obtain⟨r,hrj⟩:∃ r,rs[j]? = qq r:=⟨rs[j],yAa hj'⟩;have hb:(((r.w:Nat):Int)==((w:Nat):Int))=((rs.map (·.w))[j]?==qq w):=by
   rw[xAb,hrj,yFg];simp;omega
  have e1:aP (.list (rs.map Rw.d)) (.int j)=qq r.d:=iW (by rw[xAb,hrj];rfl)
  have r1:=gO r;refine⟨[qq (.loc 0),qq (.loc 2),qq (.d (.int w)),qq (.d (.int q)),qz,qz,qz,qz,qz,qq (.d (.int j))],rfl,λ aH=>?_,λ _ aH=>rfl⟩
  simp only[gS0,aI,yEp,e1,r1,aO,hb]
theorem dR(d m:Nat){i:Int}(hi:i=(m:Nat))(a:Option (List D))(T:aC)(hT:T.length<=30)(hm:0<m)(hm2:m<2^64)(hk:k<=90000):∃ (r:Nat) (x':Int),r<m/\cl fns (d+1) 59 [.loc 0,.d (.int i)] (aI a ns k x rs T)=qq (.d (.int r),aI a ns (k+1) x' rs T):=by
 subst hi;exact aRS (a::qq (rs.map Rw.d)::T) (by simp;omega) d m hm hm2 (by omega)
theorem nR(d w:Nat)(a:Option (List D))(T:aC)(hT:T.length<=30)(hw:1<=w)(bF:w<=64)(hk:k<=90000):∃ (r k':Nat) (x':Int),r<2^w/\k'<=k+5/\cl fns (d+3) 62 [.loc 0,.d (.int w)] (aI a ns k x rs T)=qq (.d (.int r),aI a ns k' x' rs T):=aT4 (a::qq (rs.map Rw.d)::T) (by simp;omega) d w hw bF (by omega)
theorem aR(d:Nat){y:D}(a:Option (List D))(T:aC)(r:Rw)(hy:y=r.d)(hl:rs.length<=900):cl fns (d+1) 63 [.loc 2,.d y] (aI a ns k x rs T)=qq (.d (.int rs.length),aI a ns k x (rs++[r]) T):=by
 subst hy;exact aNc d a T r hl
theorem tR(a:Option (List D))(T:aC)(k':Nat)(x':Int)(bH:List Rw):(aI a ns k' x' bH T).take (aI a ns k x rs T).length=aI a ns k' x' bH T:=by
 rw[yBq];simp
noncomputable def aVR:Sx:=aU (aU (aU (aU (aU (aU (aU (aU (aU (aU (aU (aU pE)))))))))))
noncomputable def pl8:Sx:=aU (aU (aU (aU (aU (aU (aU (aU pE)))))))
noncomputable abbrev eY(w s:Nat)(c4:D)(c5 c6 c7 c8:Option W):aX:=[qq (.loc 0),qq (.loc 2),qq (.d (.int w)),qq (.d (.int s)),qq (.d c4),c5,c6,c7,c8,qz]
theorem aVL(d w s i:Nat)(c4:D)(c6 c7:Option W)(a:Option (List D))(T:aC)(hT:T.length<=30)(hw:1<=w)(bF:w<=64)(hk:k<=80000)(hl:rs.length<=100)(ok:eG [] rs)(hi:(rs.map (·.w))[i]? = qq w):∃ (bH:List Rw) (i' k':Nat) (x':Int),Ex rs bH i' w 2/\k'<=k+2/\xs (aD fns (d+3)) aVR (eY w s c4 (qq (.d (.int i))) c6 c7 qz) (aI a ns k x rs T)=qq (.rt (.d (.int i')),aI a ns k' x' bH T):=by
 obtain⟨q,x1,hq,e1⟩:=dR (ns:=ns) (k:=k) (x:=x) (rs:=rs) (d+2) 2 (i:=2) rfl a T hT (by decide) (by decide) (by omega)
 have lR:dQ [.list (rs.map Rw.d)]=qq (.int rs.length):=by
  show qq (yAn (((rs.map Rw.d).length:Nat):Int))=_;rw[yAb]
 have gR:∀ (k:Nat) (x:Int),(aI a ns k x rs T)[2]? = qq (qq (rs.map Rw.d)):=λ _ _=>rfl
 rcases yBw ((q:Int)==1) with cq | cq
 ·rcases yBw (decide (((rs.length:Nat):Int)<30)) with cl_ | cl_
  ·obtain⟨b,x2,hb,e2⟩:=dR (ns:=ns) (k:=k+1) (x:=x1) (rs:=rs) (d+2) w rfl a T hT hw (by omega) (by omega)
   have o1:fB (rs.map (·.w)) ⟨.num,w,[2^b]⟩:=⟨hw,bF,yCb (by decide) hb⟩
   have x1':=Ex.add ok o1;have o2:fB ((rs++[(⟨.num,w,[2^b]⟩:Rw)]).map (·.w)) ⟨.or,w,[i,rs.length]⟩:=⟨hw,bF,x1'.keep _ _ hi,x1'.at_⟩;have x2':=Ex.add x1'.ok o2;have a1:=aR (ns:=ns) (k:=k+1+1) (x:=x2) (rs:=rs) (d+2) (y:=.tuple [.str "num",.int w,.int ((2^b:Nat):Int)]) a T ⟨.num,w,[2^b]⟩ rfl (by omega)
   have a2:=aR (ns:=ns) (k:=k+1+1) (x:=x2) (rs:=rs++[⟨.num,w,[2^b]⟩]) (d+2) (y:=.tuple [.str "or",.int w,.int i,.int rs.length]) a T ⟨.or,w,[i,rs.length]⟩ rfl (by simp;omega)
   refine⟨_,_,k+1+1,x2,x1'.then x2',by omega,?_⟩
   refine lH (e1:=eY w s c4 (qq (.d (.int ((rs++[(⟨.num,w,[2^b]⟩:Rw)]).length:Nat)))) c6 (qq (.d (.int rs.length))) qz) (S1:=aI a ns (k+1+1) x2 ((rs++[⟨.num,w,[2^b]⟩])++[⟨.or,w,[i,rs.length]⟩]) T) ?_ ?_
   ·have hq60:=gC (show b<=100000 by omega)
    simp only[gS0,e1,gR,aO,cq,lR,eN,cl_,e2,hq60,a1,a2]
   ·exact bO rfl
  ·refine⟨rs,i,k+1,x1,(Ex.refl ok hi).le (by omega),by omega,?_⟩
   refine bC (S1:=aI a ns (k+1) x1 rs T) ?_ (bO rfl);simp only[gS0,e1,gR,aO,cq,lR,eN,cl_]
 ·refine⟨rs,i,k+1,x1,(Ex.refl ok hi).le (by omega),by omega,?_⟩
  refine bC (S1:=aI a ns (k+1) x1 rs T) ?_ (bO rfl);simp only[gS0,e1,aO,cq]
theorem aMp{q b:Nat}(hq:q<2)(hb:b<2):∃ (t:D) (wd:Wd),(wd=.and\/wd=.or)/\aP (.list [.tuple [.str "and",.str "or"],.tuple [.str "and",.str "and"]]) (.int q)=qq t/\aP t (.int b)=qq (.str wd.s):=by
 have hq':q=0\/q=1:=by omega
 have hb':b=0\/b=1:=by omega
 rcases hq' with rfl | rfl
 ·rcases hb' with rfl | rfl
  ·exact⟨_,.and,.inl rfl,rfl,rfl⟩
  ·exact⟨_,.or,.inr rfl,rfl,rfl⟩
 ·rcases hb' with rfl | rfl
  ·exact⟨_,.and,.inl rfl,rfl,rfl⟩
  ·exact⟨_,.and,.inl rfl,rfl,rfl⟩
theorem aQH{ws:List Nat}{wd:Wd}{w i j:Nat}(h:wd=.and\/wd=.or)(hw:1<=w)(bF:w<=64)(a:ws[i]? = qq w)(b:ws[j]? = qq w):fB ws ⟨wd,w,[i,j]⟩:=by
 rcases h with rfl | rfl<;>exact⟨hw,bF,a,b⟩
theorem aVy(d w s i:Nat)(c4:D)(a:Option (List D))(T:aC)(hT:T.length<=30)(hw:1<=w)(bF:w<=64)(hk:k<=70000)(hl:rs.length<=90)(ok:eG [] rs)(hi:(rs.map (·.w))[i]? = qq w):∃ (bH:List Rw) (i' k':Nat) (x':Int),Ex rs bH i' w 4/\k'<=k+8/\xs (aD fns (d+3)) pl8 (eY w s c4 (qq (.d (.int i))) qz qz qz) (aI a ns k x rs T)=qq (.rt (.d (.int i')),aI a ns k' x' bH T):=by
 obtain⟨n0,k1,x1,hn0,hk1,e1⟩:=nR (ns:=ns) (k:=k) (x:=x) (rs:=rs) d w a T hT hw bF (by omega)
 obtain⟨n1,hn1,en⟩:∃ n1:Nat,n1<2^w/\xs (aD fns (d+3)) (dX (aU pl8)) (eY w s c4 (qq (.d (.int i))) (qq (.d (.int n0))) qz qz) (aI a ns k1 x1 rs T)=qq (.nx (eY w s c4 (qq (.d (.int i))) (qq (.d (.int n1))) qz qz),aI a ns k1 x1 rs T):=by
  rcases yBw ((s:Int)==6) with c | c
  ·have hp:=pI w;have f1:((2^w:Nat):Int)-1-(n0:Int)=((2^w-1-n0:Nat):Int):=by omega
   refine⟨2^w-1-n0,by omega,?_⟩
   have hq61:=gC (show w<=100000 by omega)
   simp only[gS4,dX,aU,pl8,pE,aO,c,hq61,cQ,f1]
  ·refine⟨n0,hn0,?_⟩;simp only[gS4,dX,aU,pl8,pE,aO,c]
 obtain⟨q,x2,hq,e2⟩:=dR (ns:=ns) (k:=k1) (x:=x1) (rs:=rs++[⟨.num,w,[n1]⟩]) (d+2) 2 (i:=2) rfl a T hT (by decide) (by decide) (by omega)
 obtain⟨b,hb,eb⟩:=b2i ((s:Int)==8);obtain⟨t,wd,bI,t1,t2⟩:=aMp hq hb;have o1:fB (rs.map (·.w)) ⟨.num,w,[n1]⟩:=⟨hw,bF,hn1⟩;have x1':=Ex.add ok o1;have x2':=Ex.add x1'.ok (aQH bI hw bF (x1'.keep _ _ hi) x1'.at_);have a1:=aR (ns:=ns) (k:=k1) (x:=x1) (rs:=rs) (d+2) (y:=.tuple [.str "num",.int w,.int n1]) a T ⟨.num,w,[n1]⟩ rfl (by omega)
 have a2:=aR (ns:=ns) (k:=k1+1) (x:=x2) (rs:=rs++[⟨.num,w,[n1]⟩]) (d+2) (y:=.tuple [.str wd.s,.int w,.int i,.int rs.length]) a T ⟨wd,w,[i,rs.length]⟩ rfl (by simp;omega)
 obtain⟨bH,i',k',x',ex,hk',e3⟩:=aVL (ns:=ns) (k:=k1+1) (x:=x2) (rs:=rs++[⟨.num,w,[n1]⟩]++[⟨wd,w,[i,rs.length]⟩]) d w s (rs++[(⟨.num,w,[n1]⟩:Rw)]).length c4 (qq (.d (.int n1))) (qq (.d (.int rs.length))) a T hT hw bF (by omega) (by simp;omega) x2'.ok x2'.at_
 refine⟨bH,i',k',x',(x1'.then x2').then ex,by omega,?_⟩
 refine lH (e1:=eY w s c4 (qq (.d (.int i))) (qq (.d (.int n0))) qz qz) (S1:=aI a ns k1 x1 rs T) ?_ ?_
 ·simp only[gS0,e1]
 refine lH en ?_;refine lH (e1:=eY w s c4 (qq (.d (.int i))) (qq (.d (.int n1))) (qq (.d (.int rs.length))) qz) (S1:=aI a ns k1 x1 (rs++[⟨.num,w,[n1]⟩]) T) ?_ ?_
 ·simp only[gS0,a1]
 refine lH (e1:=eY w s c4 (qq (.d (.int ((rs++[(⟨.num,w,[n1]⟩:Rw)]).length:Nat)))) (qq (.d (.int n1))) (qq (.d (.int rs.length))) qz) (S1:=aI a ns (k1+1) x2 (rs++[⟨.num,w,[n1]⟩]++[⟨wd,w,[i,rs.length]⟩]) T) ?_ ?_
 ·simp only[gS0,e2,aO,aCR,aCX,eb,t1,t2,a2]
 exact e3
end
section
variable {ns : List Int}{k : Nat}{x : Int}{rs : List Rw}
theorem aLY{n:Nat}{p:Nat->Bool}{j:Nat}(hj:j<((yAm n).filter p).length):p (((yAm n).filter p)[j])=true:=(List.mem_filter.mp (yHd hj)).2
theorem aBX(d w:Nat){i:Int}(hi:i=(w:Nat))(a:Option (List D))(T:aC)(hT:T.length<=30)(hw:1<=w)(bF:w<=64)(hk:k<=60000)(hl:rs.length<=80)(ok:eG [] rs):∃ (bH:List Rw) (i' k':Nat) (x':Int),Ex rs bH i' w 5/\k'<=k+10/\cl fns (d+4) 64 [.loc 0,.loc 2,.d (.int i)] (aI a ns k x rs T)=qq (.d (.int i'),aI a ns k' x' bH T):=by
 subst hi;obtain⟨s,x1,hs,e1⟩:=dR (ns:=ns) (k:=k) (x:=x) (rs:=rs) (d+2) 9 (i:=9) rfl a T hT (by decide) (by decide) (by omega)
 have pc:=aUJ (ns:=ns) (k:=k+1) (x:=x1) (d+3) w a T (by omega) s
 have mem:∀ j (hj:j<((yAm rs.length).filter λ j=>(rs.map (·.w))[j]?==qq w).length),(rs.map (·.w))[((yAm rs.length).filter λ j=>(rs.map (·.w))[j]?==qq w)[j]]? = qq w:=λ j hj=>by simpa using aLY hj
 have ml:((yAm rs.length).filter λ j=>(rs.map (·.w))[j]?==qq w).length<=rs.length:=xAi (yEg _ _) (by simp)
 generalize (yAm rs.length).filter (λ j=>(rs.map (·.w))[j]?==qq w)=L at pc mem ml
 suffices h:∃ (bH:List Rw) (i' k':Nat) (x':Int),Ex rs bH i' w 5/\k'<=k+10/\xs (aD fns (d+3)) (aU (aU pE)) (eY w s (.list (L.map nD)) qz qz qz qz) (aI a ns (k+1) x1 rs T)=qq (.rt (.d (.int i')),aI a ns k' x' bH T) by
  obtain⟨bH,i',k',x',ex,hk',e⟩:=h;refine⟨bH,i',k',x',ex,hk',dO rfl (d+3) rfl rfl (tR a T _ _ _) ?_⟩;refine lH (e1:=[qq (.loc 0),qq (.loc 2),qq (.d (.int w)),qq (.d (.int s)),qz,qz,qz,qz,qz,qz]) (S1:=aI a ns (k+1) x1 rs T) ?_ ?_
  ·simp only[gS0,e1]
  refine lH (e1:=eY w s (.list (L.map nD)) qz qz qz qz) (S1:=aI a ns (k+1) x1 rs T) ?_ e;simp only[aCo,iP,cP,pc,oB];rfl
 by_cases c0:s=0/\L≠[]
 ·obtain⟨rfl,hL⟩:=c0;have hL1:0<L.length:=List.length_pos_iff.mpr hL;have hLe:L.isEmpty=false:=by cases L with | nil=>exact absurd rfl hL | cons _ _=>rfl
  obtain⟨q,x2,hq,e2⟩:=dR (ns:=ns) (k:=k+1) (x:=x1) (rs:=rs) (d+2) L.length rfl a T hT hL1 (by omega) (by omega)
  have lL:dQ [.list (L.map nD)]=qq (.int L.length):=by
   show qq (yAn (((L.map nD).length:Nat):Int))=_;rw[yAb]
  have iL:aP (.list (L.map nD)) (.int q)=qq (.int (L[q]:Nat)):=iW (by rw[xAb,yAa hq];rfl)
  have c1:(((0:Nat):Int)==0)=true:=rfl;refine⟨rs,L[q],k+1+1,x2,(Ex.refl ok (mem q hq)).le (by omega),by omega,?_⟩
  refine cE (S1:=aI a ns (k+1) x1 rs T) ?_ (bO ?_)
  ·simp only[gS0,aO,c1,aH3,hLe]
  ·simp only[gS0,lL,e2,iL]
 have t2:tv (aD fns (d+3)) (.and (.cmp .Eq (.var 3) (.int 0)) (.cmp .NotEq (.var 4) (.fz (.lst .nil)))) (eY w s (.list (L.map nD)) qz qz qz qz) (aI a ns (k+1) x1 rs T)=qq (false,aI a ns (k+1) x1 rs T):=by
  by_cases c:s=0
  ·subst c;have hL:L=[]:=Classical.byContradiction λ h=>c0 ⟨rfl,h⟩
   subst hL;have c1:(((0:Nat):Int)==0)=true:=rfl;have hn:=aH3 [];simp only[gS0,aO,c1,hn]
  ·have c1:((s:Int)==0)=false:=beq_eq_false_iff_ne.mpr (by omega)
   simp only[gS0,aO,c1]
 by_cases c3:s<3
 ·have d3:decide ((s:Int)<3)=true:=dqT (by omega)
  obtain⟨n0,k1,x2,hn0,hk1,e2⟩:=nR (ns:=ns) (k:=k+1) (x:=x1) (rs:=rs) d w a T hT hw bF (by omega)
  have a1:=aR (ns:=ns) (k:=k1) (x:=x2) (rs:=rs) (d+2) (y:=.tuple [.str "num",.int w,.int n0]) a T ⟨.num,w,[n0]⟩ rfl (by omega)
  refine⟨_,_,k1,x2,(Ex.add ok (r:=⟨.num,w,[n0]⟩) ⟨hw,bF,hn0⟩).le (by omega),by omega,?_⟩
  refine bC t2 (cE (S1:=aI a ns (k+1) x1 rs T) ?_ (bO ?_))
  ·simp only[gS0,eN,d3]
  ·simp only[gS0,e2,a1]
 have t3:tv (aD fns (d+3)) (.cmp .Lt (.var 3) (.int 3)) (eY w s (.list (L.map nD)) qz qz qz qz) (aI a ns (k+1) x1 rs T)=qq (false,aI a ns (k+1) x1 rs T):=by
  have d3:decide ((s:Int)<3)=false:=dqF (by omega)
  simp only[gS0,eN,d3]
 by_cases c4:s=3
 ·have d4:((s:Int)==3)=true:=beq_iff_eq.mpr (by omega)
  obtain⟨q,x2,hq,e2⟩:=dR (ns:=ns) (k:=k+1) (x:=x1) (rs:=rs) (d+2) w rfl a T hT hw (by omega) (by omega)
  have f1:(1:Int)+(q:Int)=((1+q:Nat):Int):=by omega
  have a1:=aR (ns:=ns) (k:=k+1+1) (x:=x2) (rs:=rs) (d+2) (y:=.tuple [.str "in",.int ((1+q:Nat):Int)]) a T ⟨.in,1+q,[]⟩ rfl (by omega)
  have x1':=Ex.add ok (r:=⟨.in,1+q,[]⟩) ⟨by show 1<=1+q;omega,by show 1+q<=64;omega,trivial⟩
  have a2:=aR (ns:=ns) (k:=k+1+1) (x:=x2) (rs:=rs++[⟨.in,1+q,[]⟩]) (d+2) (y:=.tuple [.str "wide",.int w,.int rs.length]) a T ⟨.wide,w,[rs.length]⟩ rfl (by simp;omega)
  have x2':=Ex.add x1'.ok (r:=⟨.wide,w,[rs.length]⟩) ⟨hw,bF,1+q,x1'.at_,by show 1+q<=w;omega⟩
  refine⟨_,_,k+1+1,x2,(x1'.then x2').le (by omega),by omega,?_⟩
  refine bC t2 (bC t3 (cE (S1:=aI a ns (k+1) x1 rs T) ?_ (cI (w:=.d (.int ((1+q:Nat):Int))) (S1:=aI a ns (k+1+1) x2 rs T) ?_ rfl (bO ?_))))
  ·simp only[gS0,aO,d4]
  ·simp only[gS0,e2,dN,f1]
  ·simp only[gS0,a1,a2]
 have t4:tv (aD fns (d+3)) (.cmp .Eq (.var 3) (.int 3)) (eY w s (.list (L.map nD)) qz qz qz qz) (aI a ns (k+1) x1 rs T)=qq (false,aI a ns (k+1) x1 rs T):=by
  have d4:((s:Int)==3)=false:=beq_eq_false_iff_ne.mpr (by omega)
  simp only[gS0,aO,d4]
 have a1:=aR (ns:=ns) (k:=k+1) (x:=x1) (rs:=rs) (d+2) (y:=.tuple [.str "in",.int w]) a T ⟨.in,w,[]⟩ rfl (by omega)
 have x1':=Ex.add ok (r:=⟨.in,w,[]⟩) ⟨hw,bF,trivial⟩
 suffices h:∃ (bH:List Rw) (i' k':Nat) (x':Int),Ex (rs++[⟨.in,w,[]⟩]) bH i' w 4/\k'<=k+10/\xs (aD fns (d+3)) (aU (aU (aU (aU (aU (aU pE)))))) (eY w s (.list (L.map nD)) (qq (.d (.int rs.length))) qz qz qz) (aI a ns (k+1) x1 (rs++[⟨.in,w,[]⟩]) T)=qq (.rt (.d (.int i')),aI a ns k' x' bH T) by
  obtain⟨bH,i',k',x',ex,hk',e⟩:=h;refine⟨bH,i',k',x',x1'.then ex,hk',?_⟩
  refine bC t2 (bC t3 (bC t4 (cI (w:=.d (.int rs.length)) (S1:=aI a ns (k+1) x1 (rs++[(⟨.in,w,[]⟩:Rw)]) T) ?_ rfl e)));simp only[gS0,a1]
 have g1:(rs++[(⟨.in,w,[]⟩:Rw)]).length<=81:=by simp;omega
 have ok1:=x1'.ok;have at1':((rs++[(⟨.in,w,[]⟩:Rw)]).map (·.w))[rs.length]? = qq w:=x1'.at_;generalize rs++[(⟨.in,w,[]⟩:Rw)]=rs1 at g1 ok1 at1' 
 by_cases c5:s=4
 ·have d5:((s:Int)==4)=true:=beq_iff_eq.mpr (by omega)
  refine⟨rs1,rs.length,k+1,x1,(Ex.refl ok1 at1').le (by omega),by omega,?_⟩
  refine cE (S1:=aI a ns (k+1) x1 rs1 T) ?_ (bO rfl);simp only[gS0,aO,d5]
 have t5:tv (aD fns (d+3)) (.cmp .Eq (.var 3) (.int 4)) (eY w s (.list (L.map nD)) (qq (.d (.int rs.length))) qz qz qz) (aI a ns (k+1) x1 rs1 T)=qq (false,aI a ns (k+1) x1 rs1 T):=by
  have d4:((s:Int)==4)=false:=beq_eq_false_iff_ne.mpr (by omega)
  simp only[gS0,aO,d4]
 by_cases c6:s=5
 ·have d6:((s:Int)==5)=true:=beq_iff_eq.mpr (by omega)
  obtain⟨q,x2,hq,e2⟩:=dR (ns:=ns) (k:=k+1) (x:=x1) (rs:=rs1) (d+2) w rfl a T hT hw (by omega) (by omega)
  have a2:=aR (ns:=ns) (k:=k+1+1) (x:=x2) (rs:=rs1) (d+2) (y:=.tuple [.str "left",.int w,.int rs.length,.int q]) a T ⟨.left,w,[rs.length,q]⟩ rfl (by omega)
  refine⟨_,_,k+1+1,x2,(Ex.add ok1 (r:=⟨.left,w,[rs.length,q]⟩) ⟨hw,bF,at1',by show q<64;omega⟩).le (by omega),by omega,?_⟩
  refine bC t5 (cE (S1:=aI a ns (k+1) x1 rs1 T) ?_ (bO ?_))
  ·simp only[gS0,aO,d6]
  ·simp only[gS0,e2,a2]
 have t6:tv (aD fns (d+3)) (.cmp .Eq (.var 3) (.int 5)) (eY w s (.list (L.map nD)) (qq (.d (.int rs.length))) qz qz qz) (aI a ns (k+1) x1 rs1 T)=qq (false,aI a ns (k+1) x1 rs1 T):=by
  have d4:((s:Int)==5)=false:=beq_eq_false_iff_ne.mpr (by omega)
  simp only[gS0,aO,d4]
 obtain⟨bH,i',k',x',ex,hk',e⟩:=aVy (ns:=ns) (k:=k+1) (x:=x1) (rs:=rs1) d w s rs.length (.list (L.map nD)) a T hT hw bF (by omega) (by omega) ok1 at1'
 exact⟨bH,i',k',x',ex,by omega,bC t5 (bC t6 e)⟩
theorem aMw(d w b:Nat)(a:Option (List D))(T:aC)(hT:T.length<=30)(hw:1<=w)(bF:w<=64)(hk:k<=60000)(hl:rs.length<=90)(ok:eG [] rs)(hb:(rs.map (·.w))[b]? = qq w):∃ (bH:List Rw) (i' k':Nat) (x':Int),Ex rs bH i' w 2/\k'<=k+10/\cl fns (d+4) 65 [.loc 0,.loc 2,.d (.int b),.d (.int w)] (aI a ns k x rs T)=qq (.d (.int i'),aI a ns k' x' bH T):=by
 obtain⟨q,x1,hq,e1⟩:=dR (ns:=ns) (k:=k) (x:=x) (rs:=rs) (d+2) 2 (i:=2) rfl a T hT (by decide) (by decide) (by omega)
 have hp:=pI w;rcases yBw ((q:Int)==1) with c | c
 ·have a1:=aR (ns:=ns) (k:=k+1) (x:=x1) (rs:=rs) (d+2) (y:=.tuple [.str "num",.int w,.int 0]) a T ⟨.num,w,[0]⟩ rfl (by omega)
  have x1':=Ex.add ok (r:=⟨.num,w,[0]⟩) ⟨hw,bF,hp⟩;have a2:=aR (ns:=ns) (k:=k+1) (x:=x1) (rs:=rs++[⟨.num,w,[0]⟩]) (d+2) (y:=.tuple [.str "or",.int w,.int b,.int rs.length]) a T ⟨.or,w,[b,rs.length]⟩ rfl (by simp;omega)
  have x2':=Ex.add x1'.ok (r:=⟨.or,w,[b,rs.length]⟩) ⟨hw,bF,x1'.keep _ _ hb,x1'.at_⟩;refine⟨_,_,k+1,x1,(x1'.then x2').le (by omega),by omega,dO rfl (d+3) rfl rfl (tR a T _ _ _) ?_⟩
  refine cE (S1:=aI a ns (k+1) x1 rs T) ?_ (bO ?_)
  ·simp only[gS0,e1,aO,c]
  ·simp only[gS0,a1,a2]
 ·have f1:((2^w:Nat):Int)-1=((2^w-1:Nat):Int):=by omega
  have a1:=aR (ns:=ns) (k:=k+1) (x:=x1) (rs:=rs) (d+2) (y:=.tuple [.str "num",.int w,.int ((2^w-1:Nat):Int)]) a T ⟨.num,w,[2^w-1]⟩ rfl (by omega)
  have x1':=Ex.add ok (r:=⟨.num,w,[2^w-1]⟩) ⟨hw,bF,by show 2^w-1<2^w;omega⟩
  have a2:=aR (ns:=ns) (k:=k+1) (x:=x1) (rs:=rs++[⟨.num,w,[2^w-1]⟩]) (d+2) (y:=.tuple [.str "and",.int w,.int b,.int rs.length]) a T ⟨.and,w,[b,rs.length]⟩ rfl (by simp;omega)
  have x2':=Ex.add x1'.ok (r:=⟨.and,w,[b,rs.length]⟩) ⟨hw,bF,x1'.keep _ _ hb,x1'.at_⟩;refine⟨_,_,k+1,x1,(x1'.then x2').le (by omega),by omega,dO rfl (d+3) rfl rfl (tR a T _ _ _) ?_⟩
  refine bC (S1:=aI a ns (k+1) x1 rs T) ?_ (bO ?_)
  ·simp only[gS0,e1,aO,c]
  ·have hq62:=gC (show w<=100000 by omega)
   simp only[gS0,hq62,cQ,f1,a1,a2]
end
noncomputable def nL:List Wd:=[.and,.or,.xor,.add,.sub,.mul,.mul,.mul,.add,.sub,.pick,.same,.less,.under,.left,.right,.slide,.cut,.wide,.sign,.not]
theorem aQs:∀ w∈nL,w≠.in/\w≠.num:=by decide
theorem aQc{q:Nat}(h:q<21):∃ wd:Wd,wd≠.in/\wd≠.num/\aP (.list (nL.map λ w=>.str w.s)) (.int q)=qq (.str wd.s):=by
 have hl:q<nL.length:=h;have hm:=aQs nL[q] (yHd hl);exact⟨nL[q],hm.1,hm.2,iW (by rw[xAb,yAa hl];rfl)⟩
noncomputable def W14:D:=.list [.str "and",.str "or",.str "xor",.str "add",.str "sub",.str "mul",.str "mul",.str "mul",.str "add",.str "sub",.str "pick",.str "same",.str "less",.str "under"]
noncomputable def W7:D:=.list [.str "left",.str "right",.str "slide",.str "cut",.str "wide",.str "sign",.str "not"]
theorem aOg:bS .Add W14 W7=qq (.list (nL.map λ w=>.str w.s)):=aHS (by decide)
section
variable {ns : List Int}{k : Nat}{x : Int}{rs : List Rw}
theorem wR(d:Nat)(a:Option (List D))(T:aC)(hT:T.length<=30)(hk:k<=90000):∃ (w:Nat) (x':Int),1<=w/\w<=64/\cl fns (d+2) 61 [.loc 0] (aI a ns k x rs T)=qq (.d (.int w),aI a ns (k+3) x' rs T):=by
 have hT':(a::qq (rs.map Rw.d)::T).length<=40:=by simp;omega
 obtain⟨w,x',h1,h2,e⟩:=aNH (rs:=[]) (ns:=ns) (k:=k) (x:=x) (aDB (a::qq (rs.map Rw.d)::T) hT') d (by omega)
 rw[sB _ _ _ _ hT',sB _ _ _ _ hT'] at e;exact⟨w,x',h1,h2,e⟩
noncomputable abbrev eZ(wd:Wd)(w b:Nat)(c6 c7:Option W):aX:=[qq (.loc 0),qq (.loc 2),qq (.d (.list (nL.map λ w=>.str w.s))),qq (.d (.str wd.s)),qq (.d (.int w)),qq (.d (.int b)),c6,c7]
noncomputable def wZ:Sx:=aU (aU (aU (aU (aU tI))))
noncomputable def nE:Sx:=aU (aU (aU (aU wZ)))
noncomputable def aVD:Sx:=aU (aU (aU (aU nE)))
theorem aUD(v:Int):jV [.int 1,.int v]=qq (.int (if 1<v then v else 1)):=rfl
theorem aRH(v:Int):mX [.int 64,.int v]=qq (.int (if v<64 then v else 64)):=rfl
theorem aUz{ws:List Nat}{wd:Wd}{w i j:Nat}(h:wd=.left\/wd=.right\/wd=.slide)(hw:1<=w)(bF:w<=64)(a:ws[i]? = qq w)(b:j<64):fB ws ⟨wd,w,[i,j]⟩:=by
 rcases h with rfl | rfl | rfl<;>exact⟨hw,bF,a,b⟩
theorem aTP{ws:List Nat}{wd:Wd}{w v i:Nat}(h:wd=.wide\/wd=.sign)(hw:1<=w)(bF:w<=64)(a:ws[i]? = qq v)(b:v<=w):fB ws ⟨wd,w,[i]⟩:=by
 rcases h with rfl | rfl<;>exact⟨hw,bF,v,a,b⟩
theorem aTg{ws:List Nat}{wd:Wd}{v i j:Nat}(h:wd=.same\/wd=.less\/wd=.under)(a:ws[i]? = qq v)(b:ws[j]? = qq v):fB ws ⟨wd,1,[i,j]⟩:=by
 rcases h with rfl | rfl | rfl<;>exact⟨yAc _,(by decide:(1:Nat)<=64),rfl,v,a,b⟩
theorem aVU(d w b c:Nat)(wd:Wd)(c7:Option W)(h1:wd≠.in/\wd≠.num/\wd≠.not/\wd≠.left/\wd≠.right/\wd≠.slide/\wd≠.cut/\wd≠.wide/\wd≠.sign)(a:Option (List D))(T:aC)(hT:T.length<=30)(hw:1<=w)(bF:w<=64)(hk:k<=60000)(hl:rs.length<=80)(ok:eG [] rs)(hb:(rs.map (·.w))[b]? = qq w)(hc:(rs.map (·.w))[c]? = qq w):∃ (bH:List Rw) (i' v k':Nat) (x':Int),1<=v/\v<=64/\Ex rs bH i' v 6/\k'<=k+10/\xs (aD fns (d+4)) aVD (eZ wd w b (qq (.d (.int c))) c7) (aI a ns k x rs T)=qq (.rt (.d (.int i')),aI a ns k' x' bH T):=by
 by_cases cp:wd=.pick
 ·subst cp;obtain⟨rs1,i1,k1,x1,ex,hk1,e1⟩:=aBX (ns:=ns) (k:=k) (x:=x) (rs:=rs) d 1 (i:=1) rfl a T hT (by decide) (by decide) hk hl ok
  have l1:=ex.hi;have a1:=aR (ns:=ns) (k:=k1) (x:=x1) (rs:=rs1) (d+3) (y:=.tuple [.str "pick",.int w,.int i1,.int b,.int c]) a T ⟨.pick,w,[i1,b,c]⟩ rfl (by omega)
  refine⟨_,_,w,k1,x1,hw,bF,(ex.then (Ex.add ex.ok (r:=⟨.pick,w,[i1,b,c]⟩) ⟨hw,bF,ex.at_,ex.keep _ _ hb,ex.keep _ _ hc⟩)).le (by omega),hk1,?_⟩
  refine cE (S1:=aI a ns k x rs T) (eE rfl (bJ .pick .pick)) (bO ?_);simp only[gS0,e1,Wd.s,a1]
 have t1:tv (aD fns (d+4)) (.cmp .Eq (.var 3) (.str "pick")) (eZ wd w b (qq (.d (.int c))) c7) (aI a ns k x rs T)=qq (false,aI a ns k x rs T):=eE rfl (by
  have:=bJ wd .pick;rw[dqF cp] at this;exact this)
 by_cases cc:wd=.same\/wd=.less\/wd=.under
 ·have a1:=aR (ns:=ns) (k:=k) (x:=x) (rs:=rs) (d+3) (y:=.tuple [.str wd.s,.int 1,.int b,.int c]) a T ⟨wd,1,[b,c]⟩ rfl (by omega)
  refine⟨_,_,1,k,x,by decide,by decide,(Ex.add ok (aTg cc hb hc)).le (by omega),by omega,?_⟩
  refine bC t1 (lH (e1:=[qq (.loc 0),qq (.loc 2),qq (.d (.list (nL.map λ w=>.str w.s))),qq (.d (.str wd.s)),qq (.d (.int 1)),qq (.d (.int b)),qq (.d (.int c)),c7]) (S1:=aI a ns k x rs T) (aU3 (iJ rfl rfl ?_) (aSs rfl)) (bO ?_))
  ·have:=zP wd;rw[dqT cc] at this;exact this
  ·simp only[gS0,a1]
 ·have a1:=aR (ns:=ns) (k:=k) (x:=x) (rs:=rs) (d+3) (y:=.tuple [.str wd.s,.int w,.int b,.int c]) a T ⟨wd,w,[b,c]⟩ rfl (by omega)
  have o:fB (rs.map (·.w)) ⟨wd,w,[b,c]⟩:=by
   refine⟨hw,bF,?_⟩;cases wd
   case and | or | xor | add | sub | mul=>exact⟨hb,hc⟩
   all_goals simp at h1 cc cp
  refine⟨_,_,w,k,x,hw,bF,(Ex.add ok o).le (by omega),by omega,?_⟩
  refine bC t1 (bC (iJ rfl rfl ?_) (bO ?_))
  ·have:=zP wd;rw[dqF cc] at this;exact this
  ·simp only[gS0,a1]
theorem aVY(d w b:Nat)(wd:Wd)(h1:wd≠.in/\wd≠.num/\wd≠.not/\wd≠.left/\wd≠.right/\wd≠.slide/\wd≠.cut/\wd≠.wide/\wd≠.sign)(a:Option (List D))(T:aC)(hT:T.length<=30)(hw:1<=w)(bF:w<=64)(hk:k<=50000)(hl:rs.length<=70)(ok:eG [] rs)(hb:(rs.map (·.w))[b]? = qq w):∃ (bH:List Rw) (i' v k':Nat) (x':Int),1<=v/\v<=64/\Ex rs bH i' v 13/\k'<=k+40/\xs (aD fns (d+4)) nE (eZ wd w b qz qz) (aI a ns k x rs T)=qq (.rt (.d (.int i')),aI a ns k' x' bH T):=by
 obtain⟨rs1,c,k1,x1,ex1,hk1,e1⟩:=aBX (ns:=ns) (k:=k) (x:=x) (rs:=rs) d w rfl a T hT hw bF (by omega) (by omega) ok
 have l1:=ex1.hi;obtain⟨s,x2,hs,e2⟩:=dR (ns:=ns) (k:=k1) (x:=x1) (rs:=rs1) (d+3) 8 (i:=8) rfl a T hT (by decide) (by decide) (by omega)
 have hb1:=ex1.keep _ _ hb;obtain⟨rs2,c2,k2,x3,ex2,hk2,e3⟩:∃ (rs2:List Rw) (c2 k2:Nat) (x3:Int),Ex rs1 rs2 c2 w 2/\k2<=k1+11/\xs (aD fns (d+4)) (.seq (dX (aU (aU nE))) (.seq (dX (aU (aU (aU nE)))) .skip)) (eZ wd w b (qq (.d (.int c))) (qq (.d (.int s)))) (aI a ns (k1+1) x2 rs1 T)=qq (.nx (eZ wd w b (qq (.d (.int c2))) (qq (.d (.int s)))),aI a ns k2 x3 rs2 T):=by
  by_cases s1:s=1
  ·subst s1;refine⟨rs1,b,k1+1,x2,(Ex.refl ex1.ok hb1).le (by omega),by omega,?_⟩
   have c1:(((1:Nat):Int)==1)=true:=rfl;have c2:(((1:Nat):Int)==2)=false:=rfl;simp only[gS5,dX,aU,wZ,nE,tI,aO,c1,c2]
  ·have c1:((s:Int)==1)=false:=beq_eq_false_iff_ne.mpr (by omega)
   by_cases s2:s=2
   ·have c2:((s:Int)==2)=true:=beq_iff_eq.mpr (by omega)
    obtain⟨rs2,c',k2,x3,ex2,hk2,e3⟩:=aMw (ns:=ns) (k:=k1+1) (x:=x2) (rs:=rs1) d w b a T hT hw bF (by omega) (by omega) ex1.ok hb1
    refine⟨rs2,c',k2,x3,ex2,by omega,?_⟩
    simp only[gS5,dX,aU,wZ,nE,tI,aO,c1,c2,e3]
   ·have c2:((s:Int)==2)=false:=beq_eq_false_iff_ne.mpr (by omega)
    refine⟨rs1,c,k1+1,x2,(Ex.refl ex1.ok ex1.at_).le (by omega),by omega,?_⟩
    simp only[gS5,dX,aU,wZ,nE,tI,aO,c1,c2]
 have l2:=ex2.hi;obtain⟨rs3,i3,v,k3,x4,hv,hv2,ex3,hk3,e4⟩:=aVU (ns:=ns) (k:=k2) (x:=x3) (rs:=rs2) d w b c2 wd (qq (.d (.int s))) h1 a T hT hw bF (by omega) (by omega) ex2.ok (ex2.keep _ _ hb1) ex2.at_
 refine⟨rs3,i3,v,k3,x4,hv,hv2,(ex1.then ex2).then ex3,by omega,?_⟩
 have e12:xs (aD fns (d+4)) nE (eZ wd w b qz qz) (aI a ns k x rs T)=xs (aD fns (d+4)) (aU (aU nE)) (eZ wd w b (qq (.d (.int c))) (qq (.d (.int s)))) (aI a ns (k1+1) x2 rs1 T):=by
  refine cI (w:=.d (.int c)) (S1:=aI a ns k1 x1 rs1 T) ?_ rfl (cI (w:=.d (.int s)) (S1:=aI a ns (k1+1) x2 rs1 T) ?_ rfl rfl)
  ·simp only[gS0,e1]
  ·simp only[gS0,e2]
 rw[e12];have e34:∀ (p q r:Sx) (E E':aX) (S S':aC) (z:Option (Fl×aC)),xs (aD fns (d+4)) (.seq p (.seq q .skip)) E S=qq (.nx E',S')->xs (aD fns (d+4)) r E' S'=z->xs (aD fns (d+4)) (.seq p (.seq q r)) E S=z:=λ p q r E E' S S' z h g=>by
  rw[<- g];simp only[iV,aCJ,dI,qA] at h ⊢;cases hp:xs (aD fns (d+4)) p E S with
  | none=>rw[hp] at h;cases h
  | some y =>
    obtain⟨y1,y2⟩:=y;rw[hp] at h;cases y1 with
    | nx E1 =>
      simp only[oB] at h ⊢;cases hq:xs (aD fns (d+4)) q E1 y2 with
      | none=>rw[hq] at h;cases h
      | some y =>
        obtain⟨y1,y2⟩:=y;rw[hq] at h;cases y1 with
        | nx E2 =>
          simp only[oB] at h ⊢;cases h;rfl
        | rt w=>simp only[oB] at h;cases h
        | bk E2=>simp only[oB] at h;cases h
        | ct E2=>simp only[oB] at h;cases h
    | rt w=>simp only[oB] at h;cases h
    | bk E2=>simp only[oB] at h;cases h
    | ct E2=>simp only[oB] at h;cases h
 exact e34 _ _ _ _ _ _ _ _ e3 e4
end
section
variable {ns : List Int}{k : Nat}{x : Int}{rs : List Rw}
theorem d2R(d:Nat)(a:Option (List D))(T:aC)(hT:T.length<=30)(hk:k<=80000):∃ (q r:Nat) (x1 x2:Int),q*r<64/\cl fns (d+1) 59 [.loc 0,.d (.int 2)] (aI a ns k x rs T)=qq (.d (.int q),aI a ns (k+1) x1 rs T)/\cl fns (d+1) 59 [.loc 0,.d (.int 64)] (aI a ns (k+1) x1 rs T)=qq (.d (.int r),aI a ns (k+1+1) x2 rs T)/\bS .Mult (.int q) (.int r)=qq (.int ((q*r:Nat):Int)):=by
 obtain⟨q,x1,hq,e1⟩:=dR (ns:=ns) (k:=k) (x:=x) (rs:=rs) d 2 (i:=2) rfl a T hT (by decide) (by decide) (by omega)
 obtain⟨r,x2,hr,e2⟩:=dR (ns:=ns) (k:=k+1) (x:=x1) (rs:=rs) d 64 (i:=64) rfl a T hT (by decide) (by decide) (by omega)
 have f1:(q:Int)*(r:Int)=((q*r:Nat):Int):=(yEf _ _).symm;have f2:q*r<64:=by
  have:q=0\/q=1:=by omega
  rcases this with rfl | rfl<;>omega
 refine⟨q,r,x1,x2,f2,e1,e2,?_⟩;rw[<- f1];exact uU (by omega) (by omega)
theorem aTE{w m:Nat}(hw:1<=w):∃ n:Nat,1<=n/\n<=w/\jV [.int 1,.int ((w:Int)-((m:Nat):Int))]=qq (.int n):=by
 refine⟨max 1 (w-m),by omega,by omega,?_⟩
 rw[aUD];congr 2
 split<;>omega
theorem aVc{w m:Nat}(hw:w<=64):∃ n:Nat,w<=n/\n<=64/\mX [.int 64,.int ((w:Int)+((m:Nat):Int))]=qq (.int n):=by
 refine⟨min 64 (w+m),by omega,by omega,?_⟩
 rw[aRH];congr 2
 split<;>omega
theorem aVj(d w b:Nat)(wd:Wd)(n1:wd≠.in)(n2:wd≠.num)(a:Option (List D))(T:aC)(hT:T.length<=30)(hw:1<=w)(bF:w<=64)(hk:k<=50000)(hl:rs.length<=70)(ok:eG [] rs)(hb:(rs.map (·.w))[b]? = qq w):∃ (bH:List Rw) (i' v k':Nat) (x':Int),1<=v/\v<=64/\Ex rs bH i' v 13/\k'<=k+40/\xs (aD fns (d+4)) wZ (eZ wd w b qz qz) (aI a ns k x rs T)=qq (.rt (.d (.int i')),aI a ns k' x' bH T):=by
 by_cases c1:wd=.left\/wd=.right\/wd=.slide
 ·obtain⟨q,r,x4,x5,hqr,f1,f2,f3⟩:=d2R (ns:=ns) (k:=k) (x:=x) (rs:=rs) (d+3) a T hT (by omega)
  have a1:=aR (ns:=ns) (k:=k+1+1) (x:=x5) (rs:=rs) (d+3) (y:=.tuple [.str wd.s,.int w,.int b,.int ((q*r:Nat):Int)]) a T ⟨wd,w,[b,q*r]⟩ rfl (by omega)
  refine⟨_,_,w,k+1+1,x5,hw,bF,(Ex.add ok (aUz c1 hw bF hb hqr)).le (by omega),by omega,?_⟩
  refine cE (S1:=aI a ns k x rs T) (iJ rfl rfl ?_) (bO ?_)
  ·have:=rB wd;rw[dqT c1] at this;exact this
  ·simp only[gS0,f1,f2,f3,a1]
 have t1:tv (aD fns (d+4)) (.cmp .In (.var 3) (.tup (.cons (.str "left") (.cons (.str "right") (.cons (.str "slide") .nil))))) (eZ wd w b qz qz) (aI a ns k x rs T)=qq (false,aI a ns k x rs T):=iJ rfl rfl (by
  have:=rB wd;rw[dqF c1] at this;exact this)
 by_cases c2:wd=.not
 ·subst c2;have a1:=aR (ns:=ns) (k:=k) (x:=x) (rs:=rs) (d+3) (y:=.tuple [.str Wd.not.s,.int w,.int b]) a T ⟨.not,w,[b]⟩ rfl (by omega)
  refine⟨_,_,w,k,x,hw,bF,(Ex.add ok (r:=⟨.not,w,[b]⟩) ⟨hw,bF,hb⟩).le (by omega),by omega,?_⟩
  refine bC t1 (cE (S1:=aI a ns k x rs T) (eE rfl (bJ .not .not)) (bO ?_));simp only[gS0,a1]
 have t2:tv (aD fns (d+4)) (.cmp .Eq (.var 3) (.str "not")) (eZ wd w b qz qz) (aI a ns k x rs T)=qq (false,aI a ns k x rs T):=eE rfl (by
  have:=bJ wd .not;rw[dqF c2] at this;exact this)
 by_cases c3:wd=.cut
 ·subst c3;obtain⟨q,r,x4,x5,hqr,f1,f2,f3⟩:=d2R (ns:=ns) (k:=k) (x:=x) (rs:=rs) (d+3) a T hT (by omega)
  obtain⟨n,hn1,hn2,en⟩:=aTE (m:=q*r) hw;have a1:=aR (ns:=ns) (k:=k+1+1) (x:=x5) (rs:=rs) (d+3) (y:=.tuple [.str Wd.cut.s,.int n,.int b]) a T ⟨.cut,n,[b]⟩ rfl (by omega)
  refine⟨_,_,n,k+1+1,x5,hn1,by omega,(Ex.add ok (r:=⟨.cut,n,[b]⟩) ⟨hn1,by show n<=64;omega,w,hb,hn2⟩).le (by omega),by omega,?_⟩
  refine bC t1 (bC t2 (cE (S1:=aI a ns k x rs T) (eE rfl (bJ .cut .cut)) (bO ?_)));simp only[gS0,f1,f2,f3,cQ,en,a1]
 have t3:tv (aD fns (d+4)) (.cmp .Eq (.var 3) (.str "cut")) (eZ wd w b qz qz) (aI a ns k x rs T)=qq (false,aI a ns k x rs T):=eE rfl (by
  have:=bJ wd .cut;rw[dqF c3] at this;exact this)
 by_cases c4:wd=.wide\/wd=.sign
 ·obtain⟨q,r,x4,x5,hqr,f1,f2,f3⟩:=d2R (ns:=ns) (k:=k) (x:=x) (rs:=rs) (d+3) a T hT (by omega)
  obtain⟨n,hn1,hn2,en⟩:=aVc (m:=q*r) bF;have a1:=aR (ns:=ns) (k:=k+1+1) (x:=x5) (rs:=rs) (d+3) (y:=.tuple [.str wd.s,.int n,.int b]) a T ⟨wd,n,[b]⟩ rfl (by omega)
  refine⟨_,_,n,k+1+1,x5,by omega,hn2,(Ex.add ok (aTP c4 (by omega) hn2 hb hn1)).le (by omega),by omega,?_⟩
  refine bC t1 (bC t2 (bC t3 (cE (S1:=aI a ns k x rs T) (iJ rfl rfl ?_) (bO ?_))))
  ·have:=aIZ wd;rw[dqT c4] at this;exact this
  ·simp only[gS0,f1,f2,f3,dN,en,a1]
 obtain⟨bH,i',v,k',x',hv,hv2,ex,hk',e⟩:=aVY (ns:=ns) (k:=k) (x:=x) (rs:=rs) d w b wd ⟨n1,n2,c2,λ h=>c1 (.inl h),λ h=>c1 (.inr (.inl h)),λ h=>c1 (.inr (.inr h)),c3,λ h=>c4 (.inl h),λ h=>c4 (.inr h)⟩ a T hT hw bF hk hl ok hb
 refine⟨bH,i',v,k',x',hv,hv2,ex,hk',bC t1 (bC t2 (bC t3 (bC (iJ rfl rfl ?_) e)))⟩;have:=aIZ wd;rw[dqF c4] at this;exact this
theorem aMe(d:Nat)(a:Option (List D))(T:aC)(hT:T.length<=30)(hk:k<=40000)(hl:rs.length<=60)(ok:eG [] rs):∃ (bH:List Rw) (i' v k':Nat) (x':Int),1<=v/\v<=64/\Ex rs bH i' v 18/\k'<=k+60/\cl fns (d+5) 66 [.loc 0,.loc 2] (aI a ns k x rs T)=qq (.d (.int i'),aI a ns k' x' bH T):=by
 obtain⟨q,x1,hq,e1⟩:=dR (ns:=ns) (k:=k) (x:=x) (rs:=rs) (d+3) 21 (i:=21) rfl a T hT (by decide) (by decide) (by omega)
 obtain⟨wd,n1,n2,e2⟩:=aQc hq;obtain⟨w,x2,hw,bF,e3⟩:=wR (ns:=ns) (k:=k+1) (x:=x1) (rs:=rs) (d+2) a T hT (by omega)
 obtain⟨rs1,b,k1,x3,ex1,hk1,e4⟩:=aBX (ns:=ns) (k:=k+1+3) (x:=x2) (rs:=rs) d w rfl a T hT hw bF (by omega) (by omega) ok
 have l1:=ex1.hi;obtain⟨bH,i',v,k',x',hv,hv2,ex,hk',e⟩:=aVj (ns:=ns) (k:=k1) (x:=x3) (rs:=rs1) d w b wd n1 n2 a T hT hw bF (by omega) (by omega) ex1.ok ex1.at_
 refine⟨bH,i',v,k',x',hv,hv2,ex1.then ex,by omega,dO rfl (d+4) rfl rfl (tR a T _ _ _) ?_⟩
 refine cI (w:=.d W14) (S1:=aI a ns k x rs T) ?_ rfl (cI (w:=.d (.list (nL.map λ w=>.str w.s))) (S1:=aI a ns k x rs T) ?_ rfl (cI (w:=.d (.str wd.s)) (S1:=aI a ns (k+1) x1 rs T) ?_ rfl (cI (w:=.d (.int w)) (S1:=aI a ns (k+1+3) x2 rs T) ?_ rfl (cI (w:=.d (.int b)) (S1:=aI a ns k1 x3 rs1 T) ?_ rfl e))))
 ·simp only[gS0,W14]
 ·have:=aOg;simp only[W7] at this;simp only[gS0,this]
 ·simp only[gS0,e1,e2]
 ·simp only[gS0,e3]
 ·simp only[gS0,e4]
noncomputable abbrev eAL(w b:Nat)(c4 c5:Option W):aX:=[qq (.loc 0),qq (.loc 2),qq (.d (.int b)),qq (.d (.int w)),c4,c5]
theorem aLd(d w b:Nat)(a:Option (List D))(T:aC)(hT:T.length<=30)(hw:1<=w)(bF:w<=64)(hk:k<=60000)(hl:rs.length<=80)(ok:eG [] rs)(hb:(rs.map (·.w))[b]? = qq w):∃ (bH:List Rw) (i' v k':Nat) (x':Int),Ex rs bH i' v 2/\k'<=k+10/\cl fns (d+4) 67 [.loc 0,.loc 2,.d (.int b)] (aI a ns k x rs T)=qq (.d (.int i'),aI a ns k' x' bH T):=by
 obtain⟨s,x1,hs,e1⟩:=dR (ns:=ns) (k:=k) (x:=x) (rs:=rs) (d+2) 4 (i:=4) rfl a T hT (by decide) (by decide) (by omega)
 obtain⟨r,hr,hrw⟩:∃ r,rs[b]? = qq r/\r.w=w:=by
  rw[xAb] at hb;cases h:rs[b]? with
  | none=>rw[h] at hb;cases hb
  | some r=>rw[h] at hb;exact⟨r,rfl,Option.some.inj hb⟩
 have i1:aP (.list (rs.map Rw.d)) (.int b)=qq r.d:=iW (by rw[xAb,hr];rfl)
 have i2:=gO r;rw[hrw] at i2
 suffices h:∃ (bH:List Rw) (i' v k':Nat) (x':Int),Ex rs bH i' v 2/\k'<=k+10/\xs (aD fns (d+3)) (aU (aU aEl)) (eAL w b (qq (.d (.int s))) qz) (aI a ns (k+1) x1 rs T)=qq (.rt (.d (.int i')),aI a ns k' x' bH T) by
  obtain⟨bH,i',v,k',x',ex,hk',e⟩:=h;refine⟨bH,i',v,k',x',ex,hk',dO rfl (d+3) rfl rfl (tR a T _ _ _) ?_⟩;refine cI (w:=.d (.int w)) (S1:=aI a ns k x rs T) ?_ rfl (cI (w:=.d (.int s)) (S1:=aI a ns (k+1) x1 rs T) ?_ rfl e)
  ·simp only[gS0,i1,i2]
  ·simp only[gS0,e1]
 by_cases c0:s=0
 ·subst c0;refine⟨rs,b,w,k+1,x1,(Ex.refl ok hb).le (by omega),by omega,?_⟩
  have c:(((0:Nat):Int)==0)=true:=rfl;refine cE (S1:=aI a ns (k+1) x1 rs T) ?_ (bO rfl);simp only[gS0,aO,c]
 have t0:tv (aD fns (d+3)) (.cmp .Eq (.var 4) (.int 0)) (eAL w b (qq (.d (.int s))) qz) (aI a ns (k+1) x1 rs T)=qq (false,aI a ns (k+1) x1 rs T):=by
  have c:((s:Int)==0)=false:=beq_eq_false_iff_ne.mpr (by omega)
  simp only[gS0,aO,c]
 by_cases c1:s=1
 ·have c:((s:Int)==1)=true:=beq_iff_eq.mpr (by omega)
  obtain⟨q,x2,hq,e2⟩:=dR (ns:=ns) (k:=k+1) (x:=x1) (rs:=rs) (d+2) w rfl a T hT hw (by omega) (by omega)
  have f1:(1:Int)+(q:Int)=((1+q:Nat):Int):=by omega
  have a1:=aR (ns:=ns) (k:=k+1+1) (x:=x2) (rs:=rs) (d+2) (y:=.tuple [.str "cut",.int ((1+q:Nat):Int),.int b]) a T ⟨.cut,1+q,[b]⟩ rfl (by omega)
  refine⟨_,_,1+q,k+1+1,x2,(Ex.add ok (r:=⟨.cut,1+q,[b]⟩) ⟨by show 1<=1+q;omega,by show 1+q<=64;omega,w,hb,by show 1+q<=w;omega⟩).le (by omega),by omega,?_⟩
  refine bC t0 (cE (S1:=aI a ns (k+1) x1 rs T) ?_ (bO ?_))
  ·simp only[gS0,aO,c]
  ·simp only[gS0,e2,dN,f1,a1]
 have t1:tv (aD fns (d+3)) (.cmp .Eq (.var 4) (.int 1)) (eAL w b (qq (.d (.int s))) qz) (aI a ns (k+1) x1 rs T)=qq (false,aI a ns (k+1) x1 rs T):=by
  have c:((s:Int)==1)=false:=beq_eq_false_iff_ne.mpr (by omega)
  simp only[gS0,aO,c]
 by_cases c2:s=2
 ·have c:((s:Int)==2)=true:=beq_iff_eq.mpr (by omega)
  obtain⟨q,x2,hq,e2⟩:=dR (ns:=ns) (k:=k+1) (x:=x1) (rs:=rs) (d+2) w rfl a T hT hw (by omega) (by omega)
  have a1:=aR (ns:=ns) (k:=k+1+1) (x:=x2) (rs:=rs) (d+2) (y:=.tuple [.str "right",.int w,.int b,.int q]) a T ⟨.right,w,[b,q]⟩ rfl (by omega)
  refine⟨_,_,w,k+1+1,x2,(Ex.add ok (r:=⟨.right,w,[b,q]⟩) ⟨hw,bF,hb,by show q<64;omega⟩).le (by omega),by omega,?_⟩
  refine bC t0 (bC t1 (cE (S1:=aI a ns (k+1) x1 rs T) ?_ (bO ?_)))
  ·simp only[gS0,aO,c]
  ·simp only[gS0,e2,a1]
 have t2:tv (aD fns (d+3)) (.cmp .Eq (.var 4) (.int 2)) (eAL w b (qq (.d (.int s))) qz) (aI a ns (k+1) x1 rs T)=qq (false,aI a ns (k+1) x1 rs T):=by
  have c:((s:Int)==2)=false:=beq_eq_false_iff_ne.mpr (by omega)
  simp only[gS0,aO,c]
 obtain⟨n0,k1,x2,hn0,hk1,e2⟩:=nR (ns:=ns) (k:=k+1) (x:=x1) (rs:=rs) d w a T hT hw bF (by omega)
 have a1:=aR (ns:=ns) (k:=k1) (x:=x2) (rs:=rs) (d+2) (y:=.tuple [.str "num",.int w,.int n0]) a T ⟨.num,w,[n0]⟩ rfl (by omega)
 have x1':=Ex.add ok (r:=⟨.num,w,[n0]⟩) ⟨hw,bF,hn0⟩;have a2:=aR (ns:=ns) (k:=k1) (x:=x2) (rs:=rs++[⟨.num,w,[n0]⟩]) (d+2) (y:=.tuple [.str "and",.int w,.int b,.int rs.length]) a T ⟨.and,w,[b,rs.length]⟩ rfl (by simp;omega)
 have x2':=Ex.add x1'.ok (r:=⟨.and,w,[b,rs.length]⟩) ⟨hw,bF,x1'.keep _ _ hb,x1'.at_⟩;refine⟨_,_,w,k1,x2,x1'.then x2',by omega,?_⟩
 refine bC t0 (bC t1 (bC t2 (cI (w:=.d (.int rs.length)) (S1:=aI a ns k1 x2 (rs++[(⟨.num,w,[n0]⟩:Rw)]) T) ?_ rfl (bO ?_))))
 ·simp only[gS0,e2,a1]
 ·simp only[gS0,a2]
end
theorem aVT(s t u:Option (List D))(l:List D)(T:aC)(y:D)(h:l.length<=1000):eI (s::t::u::qq l::T) (.loc 3) (.d y)=qq (.d .none,s::t::u::qq (l++[y])::T):=by
 unfold eI;simp only[yBj,yAw];rw[if_pos (by rw[zj];omega)]
 rfl
theorem aOl{fs:List Fn}{f:Nat}{F:Fn}(h:fs[f]? = qq F)(d:Nat){ws:List W}{env:aX}{S S1 S2:aC}{x:D}(hw:ws.length=F.np)(he:ws.map qq++yAd (F.N.length-ws.length) qz=env)(hS:S1.take S.length=S2)(k:xs (aD fs d) F.body env S=qq (.rt (.d x),S1)):cl fs (d+1) f ws S=qq (.d x,S2):=by
 subst he;rw[aY h d ws S hw];simp only[fD,k,oB,lS,hS]
theorem aMf(d:Nat)(ns:List Int)(k:Nat)(x:Int)(a:Option (List D))(hk:k<=30000):∃ (rs:List Rw) (aE:List Nat) (k':Nat) (x':Int),eG [] rs/\rs.length<=40/\(∀ o∈aE,o<rs.length)/\aE.length<=8/\k'<=k+200/\cl fns (d+6) 68 [.loc 0] [qq (bV ns k x),a]=qq (.d (.tuple [.tuple (rs.map Rw.d),.tuple (aE.map nD)]),[qq (bV ns k' x'),a]):=by
 obtain⟨env1,S1,p1,a3,rs,aE,k1,x1,ok,hl,hk1,ho,hm,rfl,rfl⟩:=aQY (t:=.one 3) (fi:=lv (aD fns (d+5)) xP) (fb:=xs (aD fns (d+5)) aBz) (env:=[qq (.loc 0),qq (.loc 2),qq (.loc 3),qz]) (S:=aI a ns k x [] [qq []])
  (λ j env S'=>∃ (a3:Option W) (rs:List Rw) (aE:List Nat) (k':Nat) (x':Int),eG [] rs/\rs.length<=20*j/\k'<=k+70*j/\aE.length=j/\(∀ o∈aE,o<rs.length)/\env=[qq (.loc 0),qq (.loc 2),qq (.loc 3),a3]/\S'=aI a ns k' x' rs [qq (aE.map nD)])
  (show lv (aD fns (d+5)) xP _ _=qq ((yAm 2).map (λ k=>yAn (k:Nat)),_) by
    simp only[xP,vN,rH,uM,uJ];exact qX (w:=2) rfl (by omega))
  ⟨qz,[],[],k,x,trivial,by simp,by omega,rfl,λ o h=>(by cases h),rfl,rfl⟩ (by
   rintro j dd env S' hj ⟨a3,rs,aE,k',x',ok,hl,hk',ho,hm,rfl,rfl⟩;have hj':j<2:=by simpa using hj
   obtain⟨rs1,i1,v,k2,x2,hv,hv2,ex1,hk2,e1⟩:=aMe (ns:=ns) (k:=k') (x:=x') (rs:=rs) d a [qq (aE.map nD)] (by simp) (by omega) (by omega) ok
   have l1:=ex1.hi;obtain⟨rs2,i2,v2,k3,x3,ex2,hk3,e2⟩:=aLd (ns:=ns) (k:=k2) (x:=x2) (rs:=rs1) (d+1) v i1 a [qq (aE.map nD)] (by simp) hv hv2 (by omega) (by omega) ex1.ok ex1.at_
   have l2:=ex2.hi;have ap:=aVT (qq (bV ns k3 x3)) a (qq (rs2.map Rw.d)) (aE.map nD) [] (.int i2) (by rw[yAb];omega)
   have mm:∀ o∈aE++[i2],o<rs2.length:=λ o h=>by
    rcases List.mem_append.mp h with h | h
    ·have:=hm o h;have g:=(ex1.then ex2).keep o _ (yAa (by rw[yAb];exact this))
     have:=(gIm g).1;rwa [yAb] at this
    ·rw[yFe] at h;subst h;have:=(gIm ex2.at_).1;rwa [yAb] at this
   refine⟨[qq (.loc 0),qq (.loc 2),qq (.loc 3),qq (.d dd)],[qq (.loc 0),qq (.loc 2),qq (.loc 3),qq (.d dd)],aI a ns k3 x3 rs2 [qq ((aE++[i2]).map nD)],rfl,?_,qq (.d dd),rs2,aE++[i2],k3,x3,ex2.ok,by omega,by omega,by simp[ho],mm,rfl,rfl⟩
   have es:(aE++[i2]).map nD=aE.map nD++[.int i2]:=by rw[yBa];rfl
   rw[es];simp only[evs,aBz,e1,e2,jZ,ap])
 have hl':rs.length<=40:=by simpa using hl
 have hk1':k1<=k+140:=by simpa using hk1
 have ho':aE.length=2:=by simpa using ho
 obtain⟨q,x2,hq,e2⟩:=dR (ns:=ns) (k:=k1) (x:=x1) (rs:=rs) (d+4) 2 (i:=2) rfl a [qq (aE.map nD)] (by simp) (by decide) (by decide) (by omega)
 have f1:(1:Int)+(q:Int)=((1+q:Nat):Int):=by omega
 have cu:eB (aE.map nD) qz (qq ((1+q:Nat):Int))=(aE.take (1+q)).map nD:=by
  rw[List.map_take];unfold eB;have h1:HT.sIx (aE.map nD).length 0 qz=0:=rfl;have h2:HT.sIx (aE.map nD).length (aE.map nD).length (qq ((1+q:Nat):Int))=1+q:=by
   rw[yAb,ho'];have:q=0\/q=1:=by omega
   rcases this with rfl | rfl<;>rfl
  rw[h1,h2];rfl
 refine⟨rs,aE.take (1+q),k1+1,x2,ok,hl',λ o h=>hm o (List.mem_of_mem_take h),by rw[yBo];omega,by omega,aOl (S1:=aI a ns (k1+1) x2 rs [qq (aE.map nD)]) rfl (d+5) rfl rfl rfl ?_⟩
 refine cI (w:=.loc 2) (S1:=aI a ns k x [] []) rfl rfl (cI (w:=.loc 3) (S1:=aI a ns k x [] [qq []]) rfl rfl (lH (e1:=[qq (.loc 0),qq (.loc 2),qq (.loc 3),a3]) (S1:=aI a ns k1 x1 rs [qq (aE.map nD)]) p1 (bO ?_)));simp only[gS0,kZ,lA,jI,mO,e2,dN,f1,cu]
theorem aPe{x:D}(h:aM .Eq x x=qq (.bool true)):aM .NotEq x x=qq (.bool false):=by
 unfold aM qI at h ⊢;simp only[] at h ⊢
 split at h
 ·rename_i c;rw[if_pos c];have e:x.eqv x=true:=by simpa using h
  simp[e]
 ·cases h
def PgQ(v:D):Prop:=∃ (rs:List Rw) (aE:List Nat),eG [] rs/\rs.length<=40/\(∀ o∈aE,o<rs.length)/\aE.length<=8/\v=.tuple [.tuple (rs.map Rw.d),.tuple (aE.map nD)]
theorem aPq(d:Nat){P:D}(h:PgQ P)(st:Option (List D))(c0 c1 c2 c4 c5:Option W):∃ y,xs (aD fns (d+10)) uO [c0,c1,c2,qq (.d P),c4,c5] [st]=qq (.nx [c0,c1,c2,qq (.d P),qq (.d y),c5],[st]):=by
 obtain⟨rs,aE,ok,hl,ho,hol,hP⟩:=h;have p:=aSl ok (by omega)
 obtain⟨F,hF,sd,_,eF⟩:=aLw d rs (.tuple (aE.map nD)) p [st];have tr:=aMh d p hF aE ho hol st eF;have du:=aRN d p sd hF aE ho hol st eF;have ln:=rS (F:=F) (M:=fS rs F aE) rs.length (yAc _);have sh:=aNu (d+9) (eV rs F (fS rs F aE) rs.length) aE (by have:=ln.r;omega) (aHN p rs.length (yAc _)) hol [st]
 have ne:=aPe (aRu (eV rs F (fS rs F aE) rs.length) aE);generalize fR (eV rs F (fS rs F aE) rs.length) aE=y at tr du sh ne;rw[<- hP] at tr du;refine⟨y,?_⟩;simp only[gS1,uO,tr,sh,du,ne]
theorem aRq(d:Nat)(ns:List Int)(h1:ns.length<=63):∃ S',cl fns (d+11) 80 [.d (.list (ns.map yAn))] []=qq (.d (.bool true),S'):=by
 obtain⟨n,hn,et⟩:∃ t:Nat,t<=4/\(2:Int)+(if (40:Int)<((ns.length:Nat):Int) then 40 else ((ns.length:Nat):Int))/20=((t:Nat):Int):=by
  refine⟨2+min ns.length 40/20,by omega,?_⟩
  split<;>omega
 have mn:mX [.int ((ns.length:Nat):Int),.int 40]=qq (.int (if (40:Int)<((ns.length:Nat):Int) then 40 else ((ns.length:Nat):Int))):=rfl
 have lN:dQ [.list (ns.map yAn)]=qq (.int ns.length):=by
  show qq (yAn (((ns.map yAn).length:Nat):Int))=_;rw[yAb]
 have s0:xs (aD fns (d+10)) (dX jE) [qq (.d (.list (ns.map yAn))),qz,qz,qz,qz,qz] []=qq (.nx [qq (.d (.list (ns.map yAn))),qq (.loc 0),qz,qz,qz,qz],[qq (bV ns 0 0)]):=by
  simp only[gS2,dX,jE,iO]
 obtain⟨sc,hsc⟩:∃ sc:D,sc=.list (ns.map yAn):=⟨_,rfl⟩;rw[<- hsc] at s0 lN ⊢;obtain⟨vs,S',e1,hS',⟨k',x',hk',rfl⟩,hv,hq⟩:=zH (t:=.one 5) (fi:=lv (aD fns (d+10)) (.rng1 (.bin .Add (.int 2) (.bin .FloorDiv (.blt .mn (.cons (.blt .len (.cons (.var 0) .nil)) (.cons (.int 40) .nil))) (.int 20))))) (fe:=ev (aD fns (d+10)) (.call 68 (.cons (.var 1) .nil))) (env:=[qq (.d sc),qq (.loc 0),qz,qz,qz,qz]) (S:=[qq (bV ns 0 0)]) (S1:=[qq (bV ns 0 0)])
  nD (λ j S=>∃ (k':Nat) (x':Int),k'<=200*j/\S=[qq (bV ns k' x')]) (λ _ v=>PgQ v) (yAm n) (by
   rw[rH];refine qX ?_ (by omega)
   simp only[evs,lN,mn,pN (i:=(if (40:Int)<((ns.length:Nat):Int) then 40 else ((ns.length:Nat):Int))) (j:=20) (by decide) (by decide),dN,et]) (by rw[zj,yBd];omega) ⟨0,0,by omega,rfl⟩ (by
   intro q hq;refine⟨_,rfl,?_⟩;rintro j S aH hj hS ⟨k',x',hk',rfl⟩;rw[yBd] at hj;obtain⟨rs,aE,k2,x2,g1,g2,g3,g4,hk2,e2⟩:=aMf (d+4) ns k' x' (qq aH) (by omega)
   refine⟨.tuple [.tuple (rs.map Rw.d),.tuple (aE.map nD)],[qq (bV ns k2 x2)],?_,rfl,⟨k2,x2,by omega,rfl⟩,rs,aE,g1,g2,g3,g4,rfl⟩
   have e2':cl fns (d+10) 68 [.loc 0] ([qq (bV ns k' x')]++[qq aH])=qq (.d (.tuple [.tuple (rs.map Rw.d),.tuple (aE.map nD)]),[qq (bV ns k2 x2)]++[qq aH]):=e2;simp only[aCx,uZ,aCH,aH1,aB1,eO,jY,hJ,clr,Tg.slots,yBy,yEm,yDw,yFk,yAw,yBj,oB,e2'])
 rw[yBd] at hv;have hQ:∀ v∈vs,PgQ v:=λ v hm=>by
  obtain⟨i,hi,rfl⟩:=List.getElem_of_mem hm;obtain⟨v',h1,h2⟩:=hq i i (by rw[List.getElem?_range (by omega)])
  rw[yAa hi] at h1;cases h1;exact h2
 have s1:xs (aD fns (d+10)) (dX (aU jE)) [qq (.d sc),qq (.loc 0),qz,qz,qz,qz] [qq (bV ns 0 0)]=qq (.nx [qq (.d sc),qq (.loc 0),qq (.d (.list vs)),qz,qz,qz],[qq (bV ns k' x')]):=by
  have e1':lv (aD fns (d+10)) aHl [qq (.d sc),qq (.loc 0),qz,qz,qz,qz] [qq (bV ns 0 0)]=qq (vs,[qq (bV ns k' x')]):=e1;simp only[dX,aU,jE,aCo,iP,cP,e1',oB];rfl
 have c1:eB vs qz (qq 1)=vs.take 1:=by
  cases vs with
  | nil=>rfl
  | cons v vs =>
    unfold eB;have h1:HT.sIx (v::vs).length 0 qz=0:=rfl;have h2:HT.sIx (v::vs).length (v::vs).length (qq 1)=1:=by
     show min (1:Int).toNat (v::vs).length=1;simp
    rw[h1,h2];rfl
 have cat:bS .Add (.list vs) (.list (vs.take 1))=qq (.list (vs++vs.take 1)):=aHS (by rw[yBo];omega)
 obtain⟨aN,S2,e3,c3,c4,rfl,rfl⟩:=pQ (t:=.one 3) (fi:=lv (aD fns (d+10)) aAa) (fb:=xs (aD fns (d+10)) uO) (env:=[qq (.d sc),qq (.loc 0),qq (.d (.list vs)),qz,qz,qz]) (S:=[qq (bV ns k' x')]) (S1:=[qq (bV ns k' x')]) (ds:=vs++vs.take 1)
  (λ _ env S=>∃ c3 c4,env=[qq (.d sc),qq (.loc 0),qq (.d (.list vs)),c3,c4,qz]/\S=[qq (bV ns k' x')])
  (by simp only[evs,aAa,fG,jI,xB,mO,c1,cat])
  ⟨qz,qz,rfl,rfl⟩ (by
   rintro j P env S hP ⟨c3,c4,rfl,rfl⟩;have hm:P∈vs:=by
    rcases List.mem_append.mp (xAl hP) with h | h
    ·exact h
    ·exact List.mem_of_mem_take h
   obtain⟨y,e⟩:=aPq d (hQ P hm) (qq (bV ns k' x')) (qq (.d sc)) (qq (.loc 0)) (qq (.d (.list vs))) c4 qz;exact⟨_,_,_,rfl,e,qq (.d P),qq (.d y),rfl,rfl⟩)
 have e:jE=.seq (dX jE) (.seq (dX (aU jE)) (aU (aU jE))):=rfl;refine⟨[],?_⟩;rw[aY rfl (d+10) _ [] rfl];have s2:xs (aD fns (d+10)) (.loop (.one 3) aAa uO) [qq (.d sc),qq (.loc 0),qq (.d (.list vs)),qz,qz,qz] [qq (bV ns k' x')]=qq (.nx [qq (.d sc),qq (.loc 0),qq (.d (.list vs)),c3,c4,qz],[qq (bV ns k' x')]):=e3;have tl:xs (aD fns (d+10)) (aU (aU jE)) [qq (.d sc),qq (.loc 0),qq (.d (.list vs)),qz,qz,qz] [qq (bV ns k' x')]=qq (.rt (.d (.bool true)),[qq (bV ns k' x')]):=lH s2 (bO rfl);have full:xs (aD fns (d+10)) jE [qq (.d sc),qz,qz,qz,qz,qz] []=qq (.rt (.d (.bool true)),[qq (bV ns k' x')]):=by
  rw[e,pP s0,pP s1,tl]
 show((xs (aD fns (d+10)) jE [qq (.d sc),qz,qz,qz,qz,qz] []).bind _)=_;rw[full];rfl
theorem main(ns:List Int)(h1:ns.length<=63)(h2:∀ i∈ns,yAk i<=1048576):∃ call S',aD fns 12 80=qq (1,call)/\call [.d (.list (ns.map yAn))] []=qq (.d (.bool true),S'):=by
 obtain⟨S',e⟩:=aRq 1 ns h1;exact aPP (d:=11) rfl rfl e
theorem oks:∀ F∈fns,aA9 fns tbs F=true:=by decide +kernel
theorem bok:∀ F∈fns,aDg F=true:=by decide +kernel
theorem binds:∀ F∈fns,aCG F:=λ F hF=>aN4 (bok F hF)
end K62
structure PySem.W.Fast:Prop where (tw8737584640483746482 tw16879534825482565040 tw5703955644879394210 tw731709870268991755 tw2398830635350635093 tw1505423351062418468 tw2205392348719101772 tw14117460536361371923 tw11834283455166497031 tw3793081388281571867 tw15655989018187104389 tw12141087783892730953 tw4697698992118669371 tw7253446829426446244 tw10398351780163992534 tw16378669718679160039 tw17900159139173213744 tw6281855936410400379 tw13817074485445972561 tw5958098969509347717 tw4474428700532073786 tw8116571184668996148 tw6276641052096459916 tw9336776354242287464 tw14963006270965232403 tw17617156882068675885 tw2375498630931832413 tw17235762526141302819 tw15750111615636377037 tw12674300354212013150 tw13644448009210692463 tw6202857937111651841 tw7386738527422262185 tw10096346203148925567 tw6228805743668298646 tw16546625162512664769 tw5353133313844454698 tw15672911006573021416 tw6070351135909885743 tw6013192327232295056 tw835874105413651047 tw15836035076508319358 tw12022573353793548840 tw7833343740716874816 tw15984706595987658393 tw11726667688069536382 tw1077384240145777882 tw6303223580070207797 tw4684054181910309291 tw12363002831072463427 tw10195292010895145628 tw912213017261150463 tw16762256980314891056 tw7496204682286517347 tw14538810507202530036 tw3696210704459429655 tw6815524853852870257 tw3728636228816070565 tw402059174821218859 tw15142483888629305378 tw12194143959418671321 tw3273124967586782521 tw9041083823598477366 tw12281894043959410735 tw1957564007479809984 tw14787059688079386830 tw4418434552109730255 tw4674288067731036161 tw4799310502419141177 tw5058523154441386763 tw12795334426458811879 tw12915759879163600830 tw3934658791017423539 tw6402197682380426562 tw13272021282419036433 tw5690606120741830328 tw5851889356843087831 tw5057030647503390053 tw923922399709923653 tw9435644137491270853 tw7878873165664441101 tw11229282145420812292 tw1185331473444767674 tw10779102155052536965 tw17355130123293813277 tw11188392077612018907 tw4302112724121023220 tw1511791234920261074 tw10597072989556947310 tw9355766728738894254 tw17341901358485778140 tw3544712243787016586 tw3483304129075930023 tw7209398927252077836 tw14136227906084072711 tw2085073310769242576 tw11299930278319614860 tw9660757322032369972 tw12786932621049577020 tw2579898128299617383 tw6022427243358626853 tw13386910092635083565 tw9027047110899110832 tw15570213206560396834 tw9866502995375992935 tw900288618445287578 tw14433824272698326822 tw17613896190254634115 tw8244526239876375879 tw2126194176923895129 tw6305945087335355477 tw10187060682231592181 tw1982497015422250990 tw16657465054560364932 tw1673357413129609150 tw7136151211241105724 tw17066769192730833053 tw809518099307433636 tw4646873084315789935 tw13273473973977790973 tw2677524259452037931 tw13772228420346329252 tw9238888271619563904 tw10199145995322121660 tw17693119377513241925 tw3739099913679998441 tw13223003549133710075 tw3282144345702762648 tw97801044994933308 tw4760997488657672204 tw10881853498608031598 tw13643133396938457556 tw8944660521913416307 tw13680213201209399246 tw11689351020400105556 tw4905622671359562589 tw163720282459432877 tw8289388107141356840 tw10460632186668365446 tw5866138181412095820 tw9760560997610440884 tw2365863899217151339 tw2421494335348201072 tw4918063946727114208 tw12142419410814249004 tw4560383578776995871 tw2481912781405038308 tw18116018789072313060 tw15949800410757913751 tw13181671665153688368 tw63319321012620579 tw13931985831516546336 tw5464473380418614593 tw2476602694190956105 tw10524578728334440969 tw8566589023551898972 tw575224211916843421 tw144673551806974962 tw9402518518829844956 tw13953910638861532578 tw5923899951603447338 tw16788928402533828368 tw12731685754357172837 tw14956571443706961720 tw15536401083584036709 tw17743697935117213756 tw14511724342143553150 tw13050707503368613380 tw1645960227372395934 tw17542607408146338109 tw3098743617195657285 tw2587663724401716152 tw13674533063374673632 tw16437492045599931244 tw6277480264780738864 tw1244695330270061030 tw8719354312530376251 tw5750783416925941817 tw249121054487610778 tw17080917067322374751 tw835847263318834740 tw12291869384660111171 tw8959826822627993197 tw2938929805688055369 tw3313093694892702899 tw927159753482789662 tw15418039208746516494 tw3771073320806921798 tw4203455988829389973 tw15314056297337746348 tw10413421161039536151 tw4447405812187758069 tw16673141885933763401 tw9642395398924553547 tw15638167527284598105 tw17746502664805934466 tw7383971278046930951 tw7534413135953017565 tw13041675966288033698 tw7587310937480047054 tw6883275938653711156 tw5242216858587574634 tw14676724413660455586 tw8798301442937079994 tw3353487068393307364 tw17445371146852535893 tw11944942043237252514 tw14791687389727387507 tw8787522527941660997 tw7104687876815392786 tw8425811407590863865 tw9720460128016061870 tw17903931496689244296 tw3829432977002560810 tw3984309883964403130 tw8659689933991154485 tw3515685958524752332 tw16472537235121711177 tw3463862292581783523 tw1306609542902976259 tw11021321397999553592 tw8631372095885313746 tw2625959414335793570 tw1974180490304625862 tw18417281266753366810 tw6497833734316718941 tw2258835013903309897 tw11988991985512071410 tw10630571862330518562 tw9715185904052810603 tw11788127126858302705 tw18055907671221632482 tw17843594073511865992 tw9068517443298143843 tw7074169064370904144 tw10408073305316869702 tw4289677674333847914 tw18298723080970588156 tw8522630777555485381 tw18400537660538824778 tw16188699221087127202 tw6234286618667268365 tw11325157896029467428 tw17418240785961836443 tw16608561996972091563 tw2849228865155760591 tw8892552049830743744 tw9878851619184154128 tw18129692218235281720 tw4203387105910067219 tw14936756117845368422 tw7407314109333818258 tw9430398078594505660 tw13196802920912374385 tw6302639159335088461 tw14316685850665013736 tw10233802117650200958 tw5876277949004785228 tw2703385544667634346 tw9693647600386818862 tw16325833068980538514 tw39581982155091981 tw5999651991826368397 tw9154030152632259478 tw4254870220670652857 tw4099381929535403756 tw17621827899811078341 tw17801235679985010465 tw4601606900928993926 tw12956596937692427697 tw5992036067060808596 tw6817735471724494672 tw9401197426682637428 tw9773500590963453848 tw8352195427776128137 tw6479863406522207829 tw4564586144322185124 tw7957320077622025464 tw9623934196798202988 tw11264457477709446361 tw7037194206599306127 tw12065758252342405612 tw15619465883607022044 tw10525336742407978791 tw10533510789536751239 tw8027492183813453141 tw17505310435955424740 tw3524504878756684189 tw5962362868313789304 tw10484206365814970826 tw4856880013128253250 tw9746807860049131336 tw3018177600174654960 tw3872728776010092183 tw12431247999939430750 tw4586324837856406259 tw13659362371438585763 tw1830415603074681934 tw7958934515778063898 tw519527734226425093 tw14854138022514961692 tw13865299265023841208 tw18313011658883598277 tw8470902048162670759 tw2526807672828190292 tw6568763500389005848 tw11020801158066463911 tw14165292155902840665 tw14196003509057266544 tw6841800517206765331 tw152699922920151946 tw15804087547056193258 tw1187686359964584742 tw6558667697602254656 tw3052810608627604162 tw12334970566133234663 tw17446804589614605131 tw13414872585504253506 tw183371540978796690 tw18439765019349796304 tw14042751400856050400 tw8152857204358016457 tw9725173312373108759 tw6999827031186235232 tw9771621730546629339 tw891926313283210899 tw13030690934586604039 tw1005173733132045299 tw12436048690318316059 tw2718759907751171528 tw15862303981667977628 tw11896234813806198449 tw855783186582569979 tw2438764078163794340 tw7374311171156775463 tw16428180738864082156 tw14053581990331509974 tw14106441480144127758 tw13638552291574707806 tw16338474092274057390 tw16518725488065495487 tw10850489275154890841 tw8712508370015365040 tw16689962701194594938 tw8025746962358779666 tw2394101563441048506 tw10300918657166045827 tw4632062098003467940 tw12644859432627902397 tw15948406414569506948 tw15195448119000660359 tw17098257271263484643 tw12585922907942110407 tw3987751766607434806 tw7144650145804733745 tw4008978362070932140 tw11010667626904146331 tw2993286971473166245 tw12182199305962503191 tw7869375389281848517 tw3690030546502469584 tw7254551243624981949 tw17366776070487174796 tw3487710027691779120 tw14719505819566361377 tw1698332426732841482 tw60058644203638368 tw14869867940141380441 tw4144051326693453323 tw1896444149086404164 tw9449544435922687416 tw11452218740707292287 tw4927166741688552159 tw5716309503571005892 tw15843181660993664721 tw6897986186659496883 tw4492113547111489264 tw12279668184565118257 tw6297413188226824435 tw15650900749646047857 tw15910589038756194959 tw12803144509610391586 tw13913966917918808124 tw16208011990766926779 tw8715799395770597520 tw10815128264289196952 tw16458066753561617741 tw10190202412303703307 tw13599689368837318937 tw12972972812724335184 tw17642744738452873281 tw8469651175066958108 tw8069632906504549509 tw4043803309598684062 tw16727539285855650115 tw13926858966504701744 tw780882983386966766 tw2672083908873883289 tw13742523203830802720:True)
set_option maxRecDepth 100000 in
set_option maxHeartbeats 0 in
theorem PySem.Challenge.cw_fewbits_k62_trades_between_known_bits_holds : PySem.Challenge.rw_fewbits_k62_trades_between_known_bits.Holds := by
 w_on;o_law;k_head;(case hw=>w_witness2)
 k_fill
 refine EV.law_of (l:=PySem.Challenge.rw_fewbits_k62_trades_between_known_bits) K62.fns K62.tbs 80 12 _ "_law_script" rfl rfl ⟨rfl,by decide,by decide⟩ (λ w h Y=>PySem.W.kIn_of Y) K62.oks K62.binds rfl rfl rfl ?top ?tbl ?cnl ?tbn K62.main
 case top =>
  intro w h KX F hF;simp only[K62.fns,yCs,yCo,or_false] at hF;rcases hF with rfl | rfl | rfl | rfl | rfl | rfl | rfl | rfl | rfl | rfl | rfl | rfl | rfl | rfl | rfl | rfl | rfl | rfl | rfl | rfl | rfl | rfl | rfl | rfl | rfl | rfl | rfl | rfl | rfl | rfl | rfl | rfl | rfl | rfl | rfl | rfl | rfl | rfl | rfl | rfl | rfl | rfl | rfl | rfl | rfl | rfl | rfl | rfl | rfl | rfl | rfl | rfl | rfl | rfl | rfl | rfl | rfl | rfl | rfl | rfl | rfl | rfl | rfl | rfl | rfl | rfl | rfl | rfl | rfl | rfl | rfl | rfl | rfl | rfl | rfl | rfl | rfl | rfl | rfl | rfl | rfl
  all_goals
   refine' EV.top_mk ?a1 ?l1 ?c1 ?k1
   (case a1=>k_is)
   (case l1=>k_is)
   (case c1=>k_is)
   (case k1=>k_is)
 case tbl =>
  intro w h KX t ht;simp only[K62.tbs,yCs,yCo,or_false] at ht;rcases ht with rfl
  all_goals
   refine' EV.tab_mk ?a1 ?l1 ?c1
   (case a1=>k_is)
   (case l1=>k_is)
   (case c1=>(repeat' (first | exact True.intro | apply And.intro))<;>first | rfl | exact⟨_,rfl⟩)
 case cnl =>
  intro w h KX t ht;simp only[K62.tbs,yCs,yCo,or_false] at ht;rcases ht with rfl | rfl | rfl | rfl | rfl | rfl | rfl
  all_goals
   refine' EV.con_mk ?a1 ?l1 ?z1 ?c1
   (case a1=>k_is)
   (case l1=>k_is)
   (case z1=>decide)
   (case c1=>(repeat' (first | exact True.intro | apply And.intro))<;>first | rfl | exact⟨_,rfl⟩)
 case tbn =>
  intro w h KX x hx;simp only[EV.bltNames,yCs,yCo,or_false] at hx;rcases hx with rfl | rfl | rfl | rfl | rfl | rfl | rfl | rfl | rfl | rfl | rfl | rfl | rfl | rfl | rfl | rfl | rfl | rfl
  all_goals k_is
