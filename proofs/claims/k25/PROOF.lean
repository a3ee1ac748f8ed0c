import PyProof.Rows.All
import Wide.All
import OpenK.AllK
import Wide.FinOn
import Lean
import PyProof.EqAt
import PyProof.EqKinds
import PyProof.TupleCall
import PyProof.ListMulRoad
import PyProof.FactsAll.tuple
import PyProof.MaxThree
import PyProof.SeqI3
import PyProof.Draws
import PyProof.ZipIter
import PyProof.NeKinds
import PyProof.Rows.SortShell
import PyProof.ListRange
import PyProof.DictTable
import PyProof.Rows.Range3
import PyProof.FactsAll.range_2
import PyProof.Rows.SeqMore2
import PyProof.StrWalks
import PyProof.EnumMake
import PyProof.Rows.StrJoin2
import PyProof.Rows.StrNews
import PyProof.CallStr
import PyProof.DictRoads
import KE.KIntText
import PyProof.ToksMono
import PyProof.StrBlockG
import PyProof.StrBlock2
import PyProof.MeetsStr3
import PySem.Challenge.RW_fewbits_k25_whole_what_is_read
set_option compiler.extract_closed false
set_option genInjectivity false
set_option genSizeOf false
open List renaming length_map->yAb,getElem?_eq_getElem->yAc,getElem?_append_right->yAd,take_length->yAf,size_toArray->yAg,replicate->yAh,map_cons->yAi,foldl_cons->yAj,foldl_nil->yAl,map_append->yAn,getElem?_set_ne->yAo,getElem?_set_self->yAq,length_append->yAr,not_mem_nil->yAs,length_set->yAt,append_nil->yAv,range->yAw,map_map->yAx,length_take->yAy,mem_cons->yBa,set_cons_zero->yBc,replicate_succ->yBd,lookup_cons->yBe,length_cons->yBf,set_cons_succ->yBh,getD_cons_succ->yBk,getD_cons_zero->yBl,getElem?_cons_zero->yBq,mem_singleton->yBr,take_of_length_le->yBu,mem_append_left->yBx,map_nil->yCh,filterMap_cons->yCi,getD_eq_getElem?_getD->yCk,drop_eq_getElem_cons->yCn,flatten_cons->yCq,nil_append->yCs,length_nil->yCt,count_append->yCu,getElem?_cons_succ->yCx,filter_cons->yDa,drop_zero->yDb,contains_cons->yDd,length_replicate->yDg,getElem?_eq_none->yDh,find?_cons->yDk,all_cons->yDl,append_assoc->yDm,mem_of_mem_take->yDs,mem_of_mem_drop->yDt,getElem?_take_of_lt->yDx,any_cons->yEd,reverse_cons->yEk,take_left->yEn,length_drop->yEv,drop_length->yEy,any_eq_true->yEz,range_eq_range'->yFb,map_take->yFc,dropLast_concat_getLast->yFd,map_congr_left->yFf,nodup_append->yFo,length_range->yFp,length->yFq,getElem_inj->yFu,set_set->yFz,map->yGb
open Nat renaming le_refl->yAe,lt_irrefl->yBi,sub_self->yCv,add_sub_cancel_left->yCy,lt_succ_self->yCz,mul_le_mul_right->yDq,pow_le_pow_right->yDr,succ_ne_zero->yDw,lt_of_le_of_lt->yEf,le_of_lt->yEo,ne_of_gt->yEp,le_of_eq->yEq,lt_or_ge->yEr,zero_add->yEs,toDigits->yEu,le_of_not_lt->yEx,pow_lt_pow_right->yFa,zero_le->yFe,min_eq_left->yFg,min_eq_right->yFv,sub_zero->yFy
open Int renaming toNat_natCast->yBp,le_trans->yFx
open Bool renaming false_ne_true->yAu,false_eq_true->yAz,and_eq_true->yBm,false_and->yBn,eq_false_or_eq_true->yBv,true_and->yCl,not_eq_true'->yDn,and_false->yFm,and_true->yFs
open Option renaming bind_some->yBo,bind->yCw,getD_none->yEw
open PySem.Builtin.SmallTypes renaming nextOf->yCo
open PySem.Builtin.Int renaming intBits->yAk
open PyProof.Rows renaming slot_tuple_getitem->yBz,callWith_type1->yDf
open PySem.Heap renaming get?_update_other->yBt,get?_update_self->yCb,SameBut->yDe,get?_none_of_le->yDp,size_push->yEm
open PySem.PyData renaming str->yAa,int->yAp,tuple->yBb,list->yBg,bool->yBj,strOk->yBs,eqv->yCe,depthAll->yCj,canLayAll0->yCr,depth->yEt,eqvAll->yFt
open PySem.W renaming keepIn->yBw,emptyDict->yBy,fnOf->yCa,nsIn->yCc,InstAt->yCg,instObj->yCp,kia_one->yDj,codeIn->yDu,callWith_K->yEb,findIn->yEl,methodObj->yFn,mg_of->yFr,OpenLaw->yFw,lookIn->yGa
open PySem.F renaming slot_str_split->yDc,slot_int_rmul->yDi,excBase_ValueError->yDo,args_tuple_add_2->yDy,args_tuple_mul_2->yDz,args_str_split_2->yEa,entry_tuple_add->yEc,entry_tuple_mul->yEe,entry_str_split->yEg,slot_tuple_add->yEh,slot_tuple_mul->yEi,plainAttrs_str->yEj
open PySem.Builtin renaming divisionGoesByPylong->yCf
open PySem.Builtin.Slice renaming slicePlaces->yCm,sliceAdjust->yDv,sliceApplied->yFi
open PySem.Builtin.Tuple renaming tupleExact->yCd,tupleItemsOf->yFj,tupleTooMany->yFk
open Array renaming length_toList->yAm,toList_append->yFh,find?_toList->yFl
open PySem renaming Value->qx,Shared->qj,Addr->qv,Expr->qw,mainGlobals->qy,sizeLine->qk,wpAny->qu,sizeLine_eq->qo,Program->zq,World->zx,starEach->zj,Around->zv,Scope->zw,Stmt->zy,binaryOp->zk,bootBuiltins->zu,compareOp->zo,wpAny_holding->xq,assignEach->xj,wpAny_truthy_bool->xw,wpAny_field->xy,wpAny_newObj_type->xu,wpAny_Call_Name_kw->jq,FuncData->jz,CmpOp->jx,foldedSetIterable->jj,behindInMarks->jv,rawInt->jy,call_meets->jk,wpAny_pyIter_list->ju,NameKind->jo,wpAny_call_entry->vq,Operator->vz,wpAny_standAt->vx,letOwnedTupleGo->vj,wpAny_passesOwn->vw,wpAny_pyIter_tuple->vy,sliceBounds->vk,codeAny->vo,wpAny_pyNext_list_item->wq,wpAny_pyIter_enum->wj,wpAny_pyNext_list_end->ww,shortFactorBits->wu,wpAny_letOwnedTupleGo_enum->yq,wpAny_binaryOp_repeat_ref->yz,UnaryOp->yx,swappedStores->yj,typeIs_int->yv,wpAny_attempt->yw,wpAny_rule->yy,pyNext->yk
open Option renaming some->qq,none->qz
abbrev wB:=@PySem.wpAny_bind
abbrev wP:=@PySem.wpAny_pure
abbrev hpS:=@PySem.Heap.get?_push_of_some
theorem gIm {α:Type _}{l:List α}{i:Nat}{a:α}:l[i]? = qq a->∃ h,l[i]=a:=List.getElem?_eq_some_iff.mp
abbrev dqF:=@decide_eq_false
abbrev dqT:=@decide_eq_true
abbrev oqT:=@of_decide_eq_true
abbrev FrG:=PySem.W.Frag
abbrev xAa:=@PySem.Heap.lt_size
abbrev xAb:=@List.getElem?_map
abbrev xAc:=@Nat.lt_of_lt_of_le
abbrev xAd:=@List.mem_cons_self
abbrev xAe:=@PySem.Heap.get?_push_size
abbrev xAf:=@List.mem_cons_of_mem
abbrev xAg:=@Nat.le_trans
abbrev xAh:=@Nat.ne_of_lt
abbrev xAi:=@List.mem_of_getElem?
abbrev xAj:=@List.getElem?_append_left
abbrev xAk:=@List.mem_append_right
set_option Elab.async false
set_option linter.all false
set_option maxRecDepth 100000
namespace L2
open PySem PySem.Spec PyProof.Rows
abbrev fH:=Sum Int Str
noncomputable def mR:fH->qx->Bool
 | .inl k,v=>Value.isInt k v
 | .inr x,v=>Value.isStrOf x v
noncomputable def aRy(w:zx):fH->Int
 | .inl k=>hashInt k
 | .inr x=>hashStr w x
theorem lB:∀ {k:fH}{v:qx},mR k v=true->(∃ i t,k=Sum.inl i/\v=Value.int i t)\/(∃ x t,k=Sum.inr x/\v=Value.str x t)
 | .inl i,v,h=>by
   obtain⟨t,e⟩:=Value.isInt_shape (k:=i) (v:=v) h;exact .inl ⟨i,t,rfl,e⟩
 | .inr x,v,h=>by
   obtain⟨t,e⟩:=Value.isStrOf_shape (x:=x) (v:=v) h;exact .inr ⟨x,t,rfl,e⟩
theorem aAW(x:Str)(t:Tok):mR (.inr x) (.str x t)=true:=by simp[mR,Value.isStrOf]
theorem aNE(a b:Int):decide ((Sum.inl a:fH)=Sum.inl b)=(a==b):=by
 by_cases e:a=b
 ·subst e;simp
 ·have h:¬ (Sum.inl a:fH)=Sum.inl b:=λ q=>e (Sum.inl.inj q)
  rw[dqF h];exact(beq_eq_false_iff_ne.mpr e).symm
theorem aPb(a b:Str):decide ((Sum.inr a:fH)=Sum.inr b)=decide (a=b):=by
 by_cases e:a=b
 ·subst e;simp
 ·have h:¬ (Sum.inr a:fH)=Sum.inr b:=λ q=>e (Sum.inr.inj q)
  rw[dqF h,dqF e]
theorem aNS(a:Int)(b:Str):decide ((Sum.inl a:fH)=Sum.inr b)=false:=dqF (λ q=>nomatch q)
theorem aPc(a:Str)(b:Int):decide ((Sum.inr a:fH)=Sum.inl b)=false:=dqF (λ q=>nomatch q)
noncomputable def gS(prog:zq)(w:zx):PySem.KeyKind prog w fH where
 is:=mR
 hash:=aRy w
 inj:=λ v a b ha hb=>by
  rcases lB ha with ⟨i,t,rfl,rfl⟩ | ⟨x,t,rfl,rfl⟩
  ·rcases lB hb with ⟨j,u,rfl,e⟩ | ⟨y,u,rfl,e⟩
   ·injection e with e1 _;rw[e1]
   ·exact nomatch e
  ·rcases lB hb with ⟨j,u,rfl,e⟩ | ⟨y,u,rfl,e⟩
   ·exact nomatch e
   ·injection e with e1 _;rw[e1]
 byValue:=λ k v h=>by
  rcases lB h with ⟨i,t,rfl,rfl⟩ | ⟨x,t,rfl,rfl⟩<;>rfl
 pyHash:=λ hv h=>by
  rcases lB hv with ⟨i,t,rfl,rfl⟩ | ⟨x,t,rfl,rfl⟩
  ·exact wpAny_pyHash_int h
  ·exact wpAny_pyHash_str h
 eqBool:=λ hu hv h=>by
  rcases lB hu with ⟨i,t,rfl,rfl⟩ | ⟨x,t,rfl,rfl⟩
  ·rcases lB hv with ⟨j,u,rfl,rfl⟩ | ⟨y,u,rfl,rfl⟩
   ·rw[aNE] at h;exact wpAny_eqBool_int h
   ·rw[aNS] at h;exact SeqAt.EqAt.int_str i t y u _ _ _ _ h
  ·rcases lB hv with ⟨j,u,rfl,rfl⟩ | ⟨y,u,rfl,rfl⟩
   ·rw[aPc] at h;exact SeqAt.EqAt.str_int x t j u _ _ _ _ h
   ·rw[aPb] at h;exact wpAny_eqBool_str h
 «strs»:=λ k x t v h=>by
  rcases lB h with ⟨i,u,rfl,e⟩ | ⟨y,u,rfl,e⟩
  ·exact nomatch e
  ·injection e with e1 _
   subst e1;cases v<;>rfl
end L2
namespace L2
open PySem PySem.Spec PyProof.Rows
inductive V where
 | non | bl (b:Bool) | int (i:Int) | str (x:Str) | byt (b:Array UInt8) | flt (b:UInt64) | ref (a:qv) | ty (n:String)
 deriving DecidableEq
noncomputable def aX:V->qx->Prop
 | .non,u=>u=Value.none
 | .bl b,u=>u=Value.bool b
 | .int i,u=>∃ t,u=Value.int i t
 | .str x,u=>∃ t,u=Value.str x t
 | .byt b,u=>∃ t,u=Value.bytes b t
 | .flt b,u=>∃ t,u=Value.float b t
 | .ref a,u=>u=Value.ref a
 | .ty n,u=>u=Value.type n
noncomputable abbrev aT:List V->List qx->Prop:=Paired aX
theorem aT.length{xs:List V}{us:List qx}(r:aT xs us):xs.length=us.length:=Paired.length r
theorem aT.get:∀ {xs:List V}{us:List qx}{i:Nat}{x:V},aT xs us->xs[i]? = qq x->∃ u,us[i]? = qq u/\aX x u
 | _,_,_,_,.nil,e=>by simp at e
 | _,_,0,_,.cons r _,e=>by simp at e;subst e;exact⟨_,rfl,r⟩
 | _,_,i+1,x,.cons _ t,e=>by
   obtain⟨u,h1,h2⟩:=aT.get (i:=i) (x:=x) t (by simpa using e)
   exact⟨u,by simpa using h1,h2⟩
theorem aT.set{x:V}{u:qx}(r:aX x u):∀ {xs:List V}{us:List qx} (i:Nat),aT xs us->aT (xs.set i x) (us.set i u)
 | _,_,_,.nil=>.nil
 | _,_,0,.cons _ t=>.cons r t
 | _,_,i+1,.cons q t=>.cons q (aT.set r i t)
theorem aT.append:∀ {xs ys:List V}{us ws:List qx},aT xs us->aT ys ws->aT (xs++ys) (us++ws)
 | _,_,_,_,.nil,s=>s
 | _,_,_,_,.cons r t,s=>.cons r (aT.append t s)
theorem aT.take:∀ {xs:List V}{us:List qx} (n:Nat),aT xs us->aT (xs.take n) (us.take n)
 | _,_,0,_=>.nil
 | _,_,_+1,.nil=>.nil
 | _,_,n+1,.cons r t=>.cons r (aT.take n t)
theorem aT.drop:∀ {xs:List V}{us:List qx} (n:Nat),aT xs us->aT (xs.drop n) (us.drop n)
 | _,_,0,r=>r
 | _,_,_+1,.nil=>.nil
 | _,_,n+1,.cons _ t=>aT.drop n t
noncomputable def vK:Option V->Option qx->Prop
 | some v,qq u=>aX v u
 | none,qz=>True
 | _,_=>False
noncomputable def KV{κ:Type}:List (κ×V)->List (κ×qx)->Prop:=Paired λ(p:κ×V) (q:κ×qx)=>p.1=q.1/\aX p.2 q.2
noncomputable def kV:fH->V
 | .inl i=>.int i
 | .inr x=>.str x
inductive HO where
 | lst (xs:List V)
 | tup (xs:List V)
 | dK (aK:List (fH×V)) | dT (aK:List (List fH×V))
 | set (S:Int->Bool) (n:Nat)
 | ins (C dx:qv) (fs:List (Str×V))
 | own (x:qv)
 | xd (fs:List (Str×V))
 | met (f x:qv)
 | rng (lo hi:Int)
 | frz (o:Obj) (u:HO)
 | tbl (ps:Array qx)
 | ext (φ:Heap->Prop)
abbrev Hp:=qv->Option HO
noncomputable def aW(H:Hp)(a:qv)(o:HO):Hp:=λ b=>if b=a then qq o else H b
theorem cA{H:Hp}{a:qv}{o:HO}:aW H a o a=qq o:=by unfold aW;rw[if_pos rfl]
theorem bB{H:Hp}{a b:qv}{o:HO}(h:b≠a):aW H a o b=H b:=by unfold aW;rw[if_neg h]
theorem eD{H:Hp}{a b:qv}{o:HO}(h:H a=qq o)(h':H b=qz):a≠b:=by
 intro e;subst e;rw[h] at h';cases h'
section
variable (P : zq)(w : zx)
noncomputable def fP(H:Hp)(h:Heap)(a:qv):HO->Prop
 | .lst xs=>xs.length<=qk/\∃ (its:List qx) (n:Nat),aT xs its/\h.get? a=qq {cls:=.type "list",data:=.seq its.toArray n }
 | .tup xs=>xs.length<=qk/\∃ its:List qx,aT xs its/\IsTup h a its.toArray
 | .dK aK=>aK.length<=qk/\(a==sysModules)=false/\∃ vs,KV aK vs/\h.DictOf (gS P w) a vs
 | .dT aK=>aK.length<=qk/\(a==sysModules)=false/\∃ xs:List (List fH×qv×qx),
    Paired (λ(p:List fH×V) (q:List fH×qv×qx)=>p.1=q.1/\H q.2.1=qq (.tup (p.1.map kV))/\aX p.2 q.2.2) aK xs /\
    ∃ o es ep,h.get? a=qq o/\o.ExactDict/\o.data=.dict es ep/\es.toList=xs.map (entryOfKey (tupleKind (gS P w)))/\(xs.map (·.1)).Nodup
 | .set S n=>h.SetOf (intKind P w) a S n
 | .ins C dx fs=>H dx=qq (.own a)/\fs.length<=1000/\dx≠a/\h.get? a=qq (yCp C dx) /\
    ∃ mA,h.Ns1 dx mA/\(∀ f,vK (fs.lookup f) (mA f))/\PySem.Within mA (fs.map (·.1))
 | .own _=>∃ o,h.get? a=qq o
 | .xd fs=>∃ mA,h.Ns1 a mA/\∀ f,vK (fs.lookup f) (mA f)
 | .rng lo hi=>∃ t u v,h.get? a=qq {cls:=.type "range",data:=.fields #[.int lo t,.int hi u,.int 1 v] }
 | .frz o u=>h.get? a=qq o/\fP H h a u
 | .tbl ps=>h.get? a=qq {cls:=.none,data:=.fields ps }
 | .met f x=>h.get? a=qq (yFn (.ref f) (.ref x))
 | .ext φ=>φ h/\(∃ o,h.get? a=qq o)/\∀ h1 h2:Heap,φ h1->(∀ o,h1.get? a=qq o->h2.get? a=qq o)->φ h2
def dD(H:Hp)(h:Heap):Prop:=∀ a o,H a=qq o->fP P w H h a o
end
section
variable {P : zq}{w : zx}{H H' : Hp}{h h' : Heap}{a : qv}{o : HO}
theorem fP.lt(x:fP P w H h a o):a<h.objs.size:=by
 cases o with
 | lst xs=>obtain⟨_,_,_,_,e⟩:=x;exact xAa e
 | tup xs=>obtain⟨_,_,_,p⟩:=x;exact p.lt
 | dK aK=>obtain⟨_,_,_,_,o,_,_,e,_⟩:=x;exact xAa e
 | dT aK=>obtain⟨_,_,_,_,o,_,_,e,_⟩:=x;exact xAa e
 | set S n=>obtain⟨o,_,_,_,e,_⟩:=x;exact xAa e
 | ins C dx fs=>obtain⟨_,_,_,e,_⟩:=x;exact xAa e
 | own y=>obtain⟨_,e⟩:=x;exact xAa e
 | xd fs=>obtain⟨_,⟨_,_,_,e,_⟩,_⟩:=x;exact xAa e
 | rng lo hi=>obtain⟨_,_,_,e⟩:=x;exact xAa e
 | frz ob u=>obtain⟨e,_⟩:=x;exact xAa e
 | tbl ps=>exact xAa (show h.get? a=qq _ from x)
 | met f y=>exact xAa (show h.get? a=qq _ from x)
 | ext φ=>obtain⟨_,⟨_,e⟩,_⟩:=x;exact xAa e
theorem Paired.mapP{α β:Type}{F G:α->β->Prop}:∀ {l₁:List α}{l₂:List β},Paired F l₁ l₂->(∀ a b,F a b->G a b)->Paired G l₁ l₂
 | _,_,.nil,_=>.nil
 | _,_,.cons r t,f=>.cons (f _ _ r) (Paired.mapP t f)
theorem fP.stay(x:fP P w H h a o)(k:∀ b u,(b=a\/H b=qq (.own a))->h.get? b=qq u->h'.get? b=qq u)
 (ho:∀ b,H b=qq (.own a)->H' b=qq (.own a)) (ht:∀ b xs,H b=qq (.tup xs)->H' b=qq (.tup xs)):fP P w H' h' a o:=by
 induction o with
 | lst xs=>obtain⟨z,its,n,r,e⟩:=x;exact⟨z,its,n,r,k _ _ (.inl rfl) e⟩
 | tup xs=>obtain⟨z,its,r,ob,e,c⟩:=x;exact⟨z,its,r,ob,k _ _ (.inl rfl) e,c⟩
 | dK aK=>obtain⟨z,y,vs,r,ob,es,ep,e,c⟩:=x;exact⟨z,y,vs,r,ob,es,ep,k _ _ (.inl rfl) e,c⟩
 | dT aK =>
   obtain⟨z,y,xs,r,ob,es,ep,e,c⟩:=x;exact⟨z,y,xs,Paired.mapP r λ p q z=>⟨z.1,ht _ _ z.2.1,z.2.2⟩,ob,es,ep,k _ _ (.inl rfl) e,c⟩
 | set S n=>obtain⟨ob,es,ep,t,e,c⟩:=x;exact⟨ob,es,ep,t,k _ _ (.inl rfl) e,c⟩
 | ins C dx fs =>
   obtain⟨d,z,ne,e,mA,⟨od,es,ep,e2,c⟩,r⟩:=x;exact⟨ho _ d,z,ne,k _ _ (.inl rfl) e,mA,⟨od,es,ep,k _ _ (.inr d) e2,c⟩,r⟩
 | own y=>obtain⟨ob,e⟩:=x;exact⟨ob,k _ _ (.inl rfl) e⟩
 | xd fs=>obtain⟨mA,⟨od,es,ep,e,c⟩,r⟩:=x;exact⟨mA,⟨od,es,ep,k _ _ (.inl rfl) e,c⟩,r⟩
 | rng lo hi=>obtain⟨t,u,v,e⟩:=x;exact⟨t,u,v,k _ _ (.inl rfl) e⟩
 | frz ob u ih=>obtain⟨e,q⟩:=x;exact⟨k _ _ (.inl rfl) e,ih q⟩
 | tbl ps =>
   have e:h.get? a=qq {cls:=.none,data:=.fields ps }:=x;show h'.get? a=qq {cls:=.none,data:=.fields ps };exact k a _ (.inl rfl) e
 | met f y =>
   have e:h.get? a=qq (yFn (.ref f) (.ref y)):=x;show h'.get? a=qq (yFn (.ref f) (.ref y));exact k a _ (.inl rfl) e
 | ext φ=>obtain⟨p,⟨o,e⟩,st⟩:=x;exact⟨st _ _ p λ o q=>k _ _ (.inl rfl) q,⟨o,k _ _ (.inl rfl) e⟩,st⟩
theorem dD.lt(x:dD P w H h)(e:H a=qq o):a<h.objs.size:=(x a o e).lt
theorem dD.fresh(x:dD P w H h)(e:h.objs.size<=a):H a=qz:=by
 cases q:H a with
 | none=>rfl
 | some u=>exact absurd (xAc (x.lt q) e) (yBi _)
theorem dD.kept(x:dD P w H h)(k:∀ b u,h.get? b=qq u->h'.get? b=qq u):dD P w H h':=λ a o e =>
 (x a o e).stay (λ b u _ q=>k b u q) (λ _ q=>q) λ _ _ q=>q
theorem dD.laid(x:dD P w H h)(k:∀ b u,h.get? b=qq u->h'.get? b=qq u)(hp:h.objs.size<=a)(new:fP P w (aW H a o) h' a o):dD P w (aW H a o) h':=λ b u e=>by
 have hn:=x.fresh hp
 by_cases hb:b=a
 ·subst hb;rw[cA] at e;cases e;exact new
 ·rw[bB hb] at e;exact(x b u e).stay (λ c v _ q=>k c v q) (λ c q=>by rw[bB (eD q hn)];exact q) λ c xs q=>by rw[bB (eD q hn)];exact q
end
def Rd(H:Hp)(a:qv)(u:HO):Prop:=H a=qq u\/∃ o,H a=qq (.frz o u)
theorem Rd.of{H:Hp}{a:qv}{u:HO}(h:H a=qq u):Rd H a u:=.inl h
theorem Rd.ok{P:zq}{w:zx}{H:Hp}{h:Heap}{a:qv}{u:HO}(r:Rd H a u)(x:dD P w H h):fP P w H h a u:=by
 rcases r with r | ⟨o,r⟩
 ·exact x a u r
 ·obtain⟨_,q⟩:=x a _ r;exact q
noncomputable def Mut:Option HO->Prop
 | some (.lst _)=>True
 | some (.dK _)=>True
 | some (.dT _)=>True
 | some (.set _ _)=>True
 | some (.ins _ _ _)=>True
 | some (.ext _)=>True
 | _=>False
section
variable {P : zq}{w : zx}{H : Hp}{h h' : Heap}{x e : qv}{o' : HO}
theorem dD.write(ok:dD P w H h)(mu:Mut (H x))(he:e=x\/H e=qq (.own x))(k:∀ b u,b≠e->h.get? b=qq u->h'.get? b=qq u)(heo:∃ u,h'.get? e=qq u)
 (new:fP P w (aW H x o') h' x o'):dD P w (aW H x o') h':=λ b u q=>by
 have nown:∀ c y,H c=qq (.own y)->c≠x:=λ c y r z=>by subst z;rw[r] at mu;exact mu
 have ntup:∀ c xs,H c=qq (.tup xs)->c≠x:=λ c xs r z=>by subst z;rw[r] at mu;exact mu
 by_cases hb:b=x
 ·subst hb;rw[cA] at q;cases q;exact new
 ·rw[bB hb] at q
  by_cases hbe:b=e
  ·have q':H b=qq (.own x):=by
    rcases he with z | z
    ·exact absurd (hbe.trans z) hb
    ·rw[hbe];exact z
   rw[q] at q';cases q';obtain⟨v,hv⟩:=heo;exact⟨v,by rw[hbe];exact hv⟩
  ·refine(ok b u q).stay (λ c v hc r=>k c v ?_ r) (λ c r=>by rw[bB (nown c b r)];exact r) λ c xs r=>by rw[bB (ntup c xs r)];exact r
   rcases hc with rfl | hc
   ·exact hbe
   ·rintro rfl;rcases he with z | z
    ·exact nown c b hc z
    ·rw[hc] at z;cases z;exact hb rfl
end
structure Un(fs ex:List qv)(H H':Hp)(h h':Heap):Prop where
 keep:∀ b o,h.get? b=qq o->H b=qz->b ∉ fs->b ∉ ex->h'.get? b=qq o
 slot:∀ b o,h.get? b=qq o->H b=qz->b∈fs->b ∉ ex->∃ sl,h'.get? b=qq {o with slots:=sl }
 free:∀ b o,h.get? b=qq o->H b=qz->b ∉ ex->H' b=qz
 there:∀ b o,h.get? b=qq o->b ∉ ex->∃ o',h'.get? b=qq o'
 tups:∀ b xs,H b=qq (.tup xs)->H' b=qq (.tup xs)
 frzs:∀ b o u,H b=qq (.frz o u)->H' b=qq (.frz o u)
 tbls:∀ b ps,H b=qq (.tbl ps)->∃ more,H' b=qq (.tbl (ps++more))
section
variable {fs fs' ex ex' : List qv}{H H1 H2 : Hp}{h h1 h2 h' : Heap}{a x e : qv}{o : HO}
theorem Un.any(u:Un fs ex H H1 h h1){b:qv}{ob:Obj}(q:h.get? b=qq ob)(n:H b=qz)(hx:b ∉ ex):∃ sl,h1.get? b=qq {ob with slots:=sl }:=by
 by_cases hb:b∈fs
 ·exact u.slot b ob q n hb hx
 ·exact⟨ob.slots,u.keep b ob q n hb hx⟩
theorem Un.trans(a:Un fs ex H H1 h h1)(b:Un fs ex H1 H2 h1 h2):Un fs ex H H2 h h2 where
 keep:=λ c ob q n hc hx=>b.keep c ob (a.keep c ob q n hc hx) (a.free c ob q n hx) hc hx
 slot:=λ c ob q n hc hx=>by
  obtain⟨sl,e1⟩:=a.slot c ob q n hc hx;obtain⟨sl',e2⟩:=b.slot c _ e1 (a.free c ob q n hx) hc hx;exact⟨sl',e2⟩
 free:=λ c ob q n hx=>by
  obtain⟨o',e1⟩:=a.there c ob q hx;exact b.free c o' e1 (a.free c ob q n hx) hx
 there:=λ c ob q hx=>by
  obtain⟨o',e1⟩:=a.there c ob q hx;exact b.there c o' e1 hx
 tups:=λ c xs q=>b.tups c xs (a.tups c xs q)
 frzs:=λ c ob xs q=>b.frzs c ob xs (a.frzs c ob xs q)
 tbls:=λ c ps q=>by
  obtain⟨m1,e1⟩:=a.tbls c ps q;obtain⟨m2,e2⟩:=b.tbls c _ e1;exact⟨m1++m2,by rw[e2,Array.append_assoc]⟩
theorem Un.kept(k:∀ b u,h.get? b=qq u->h'.get? b=qq u):Un fs ex H H h h':=
 ⟨λ b ob q _ _ _=>k b ob q,λ b ob q _ _ _=>⟨ob.slots,k b ob q⟩,λ _ _ _ n _=>n,λ b ob q _=>⟨ob,k b ob q⟩,λ _ _ q=>q,λ _ _ _ q=>q,λ _ ps q=>⟨#[],by rw[q];simp⟩⟩
theorem Un.refl:Un fs ex H H h h:=Un.kept λ _ _ q=>q
theorem Un.laid(k:∀ b u,h.get? b=qq u->h'.get? b=qq u)(hp:h.objs.size<=a)(hn:H a=qz):Un fs ex H (aW H a o) h h' where
 keep:=λ b u q _ _ _=>k b u q
 slot:=λ b u q _ _ _=>⟨u.slots,k b u q⟩
 free:=λ b u q n _=>by rw[bB (xAh (xAc (xAa q) hp))];exact n
 there:=λ b u q _=>⟨u,k b u q⟩
 tups:=λ b xs q=>by rw[bB (eD q hn)];exact q
 frzs:=λ b u xs q=>by rw[bB (eD q hn)];exact q
 tbls:=λ b ps q=>⟨#[],by rw[bB (eD q hn),q];simp⟩
theorem Un.write(mu:Mut (H x))(he:e=x\/H e=qq (.own x))(k:∀ b u,b≠e->h.get? b=qq u->h'.get? b=qq u)(heo:∃ u,h'.get? e=qq u):Un fs ex H (aW H x o) h h':=by
 have hx:∀ b,H b=qz->b≠x:=λ b n z=>by subst z;rw[n] at mu;exact mu
 have hb:∀ b,H b=qz->b≠e:=λ b n z=>by
  subst z;rcases he with r | r
  ·exact hx b n r
  ·rw[n] at r;cases r
 have hm:∀ b u,H b=qq u->¬ Mut (qq u)->b≠x:=λ b u q nm z=>by subst z;rw[q] at mu;exact nm mu
 refine⟨λ b u q n _ _=>k b u (hb b n) q,λ b u q n _ _=>⟨u.slots,k b u (hb b n) q⟩,λ b u q n _=>by rw[bB (hx b n)];exact n,λ b u q _=>?_,
  λ b xs q=>by rw[bB (hm b _ q λ z=>z)];exact q,λ b u xs q=>by rw[bB (hm b _ q λ z=>z)];exact q,λ b ps q=>⟨#[],by rw[bB (hm b _ q λ z=>z),q];simp⟩⟩
 by_cases hbe:b=e
 ·subst hbe;exact heo
 ·exact⟨u,k b u hbe q⟩
theorem Un.mono(u:Un fs ex H H1 h h1)(hs:∀ b∈fs,b∈fs')(hx:∀ b∈ex,b∈ex'):Un fs' ex' H H1 h h1:=
 ⟨λ b ob q n hb he=>u.keep b ob q n (λ z=>hb (hs b z)) λ z=>he (hx b z),λ _ _ q n _ he=>u.any q n λ z=>he (hx _ z),λ b ob q n he=>u.free b ob q n λ z=>he (hx b z),λ b ob q he=>u.there b ob q λ z=>he (hx b z),u.tups,u.frzs,u.tbls⟩
end
noncomputable def trk(h:Heap)(H:Hp):List qv:=(yAw h.objs.size).filter λ a=>(H a).isSome
noncomputable def lY(h:Heap)(H:Hp):Heap:=PySem.W.hideAll h (trk h H)
theorem aJW(h:Heap)(H:Hp):(lY h H).objs.size=h.objs.size:=PySem.W.hideAll_size _ _
theorem aKp{h:Heap}{H:Hp}{b:qv}{o:Obj}(e:h.get? b=qq o)(n:H b=qz):(lY h H).get? b=qq o:=
 PySem.W.hideAll_get _ e λ hm=>by
  have q:(H b).isSome=true:=(List.mem_filter.mp hm).2;rw[n] at q;simp at q
theorem aMI{h:Heap}{H:Hp}{b:qv}{o:Obj}(e:(lY h H).get? b=qq o):h.get? b=qq o/\H b=qz:=by
 have e':h.get? b=qq o:=PySem.W.of_hideAll (trk h H) e;refine⟨e',?_⟩;cases q:H b with
 | none=>rfl
 | some x =>
   have hm:b∈trk h H:=List.mem_filter.mpr ⟨List.mem_range.mpr (xAa e'),by simp[q]⟩
   have z:(lY h H).get? b=qz:=PySem.W.hideAll_none (trk h H) hm;rw[z] at e;cases e
noncomputable def aMp(g h:Heap)(L:qv):List (qv×Obj):=(yAw h.objs.size).filterMap λ a=>if a=L\/(g.get? a).isSome=true then qz else (h.get? a).map λ o=>(a,o)
noncomputable def bT(g h:Heap)(L d:qv):List (qv×Obj):=(aMp g h L).filter λ p=>decide (p.1≠d)
end L2
namespace L2
open PySem PySem.Spec PyProof.Rows
structure Mod(K:FrG)(mg:Str->Option qx)(base:Heap):Prop where
 kin:K.In base
 glob:base.Ns qy mg
 blt:∃ mb,base.Ns builtinsNs mb/\∀ x:Str,x ≠ "__name__" -> mb x=zu x
 nolimit:base.NoLimit
structure Cx where
 prog:zq
 w:zx
 K:FrG
 mg:Str->Option qx
 base:Heap
 A:zv
 N:List Str
 s₀:qj
 H₀:Hp
 env:Env
 outer:List Env
 stack:List Env
 ex:List qv
 fn:Str->Bool
 calm:Bool
 pn:List (qv×Obj)
 xe:qx->qj->Prop
noncomputable def dQ(l:List Env):List qv:=l.filterMap (·.frame)
noncomputable abbrev Cx.fs(X:Cx):List qv:=dQ X.outer
def mC(sc:zw)(x:Str):Prop:=sc.names.lookup x=qq .local\/sc.names.lookup x=qq .cell\/sc.names.lookup x=qq .free
def Loc(sc:zw)(x:Str):Prop:=sc.names.lookup x=qq .local\/sc.names.lookup x=qq .cell
def aRs(env:Env)(h:Heap)(m:Str->Option qx)(x:Str)(u:qx):Prop:=
 (env.kindOf x=qq .local/\m x=qq u)\/((env.kindOf x=qq .cell\/env.kindOf x=qq .free)/\∃ c,env.cells.lookup x=qq c/\h.IsCell c (qq u))
structure Cx.Ok(X:Cx):Prop where
 mod:Mod X.K X.mg X.base
 kind:X.env.scope.kind=.function
 glob:X.env.globals=qy
 blt:X.env.builtins=builtinsNs
 above:X.s₀.heap.objs.size<=X.env.locals
 inj:∀ x y c,X.env.cells.lookup x=qq c->X.env.cells.lookup y=qq c->x=y
 has:∀ x,(X.env.kindOf x=qq .cell\/X.env.kindOf x=qq .free)->∃ c,X.env.cells.lookup x=qq c
 cab:∀ x c,X.fn x=true->X.env.cells.lookup x=qq c->X.s₀.heap.objs.size<=c
 hd:X.calm=true->X.A.handled=qz
 frames:X.A.frames=qq X.stack
 stk:X.stack=X.outer\/(X.stack=X.env::X.outer/\X.env.frame=qq X.env.locals)
 exf:∀ b∈X.ex,b≠X.env.locals/\∀ x c,X.env.cells.lookup x=qq c->c≠b
 bs:∀ b o,X.base.get? b=qq o->X.s₀.heap.get? b=qq o/\X.H₀ b=qz
 bsz:X.base.objs.size<=X.s₀.heap.objs.size
 noex:∀ b o,X.base.get? b=qq o->b ∉ X.ex
 exfs:∀ b∈X.ex,b ∉ X.fs
 funs:X.s₀.heap.FunFrames X.base X.outer
 frf:∀ b∈X.fs,X.H₀ b=qz
structure Inv(X:Cx)(aA:List (qv×Obj))(σ:List (Option V))(H:Hp)(s:qj):Prop where
 ok:X.Ok
 os:s.os=X.s₀.os
 bare:AllBare s.gens
 base:Un X.fs X.ex X.H₀ H X.s₀.heap s.heap
 loc:∃ m,s.heap.Ns X.env.locals m/\∀ (i:Nat) (x:Str) (v:V),X.N[i]? = qq x->σ[i]? = qq (qq v)->mC X.env.scope x->∃ u,aX v u/\aRs X.env s.heap m x u
 cell:∀ x c,X.env.cells.lookup x=qq c->∃ v,s.heap.IsCell c v
 free:H X.env.locals=qz
 freeC:∀ x c,X.env.cells.lookup x=qq c->H c=qz
 pin:∀ p∈X.pn++aA,s.heap.get? p.1=qq p.2/\H p.1=qz/\p.1≠X.env.locals/\p.1 ∉ X.fs/\∀ v,p.2.data≠.cell v
 hok:dD X.prog X.w H s.heap
 len:σ.length=X.N.length
section
variable {X : Cx}{aA : List (qv×Obj)}{σ : List (Option V)}{H H' : Hp}{s : qj}{h' : Heap}
theorem Cx.Ok.nofr(ok:X.Ok){b:qv}{o:Obj}(e:X.base.get? b=qq o):b ∉ X.fs:=λ hb=>by
 have:=(ok.funs.mem hb).1;rw[e] at this;cases this
theorem Inv.bs(I:Inv X aA σ H s):∀ b o,X.base.get? b=qq o->s.heap.get? b=qq o/\H b=qz:=λ b o e =>
 ⟨I.base.keep b o (I.ok.bs b o e).1 (I.ok.bs b o e).2 (I.ok.nofr e) (I.ok.noex b o e),I.base.free b o (I.ok.bs b o e).1 (I.ok.bs b o e).2 (I.ok.noex b o e)⟩
theorem Inv.bk(I:Inv X aA σ H s):∀ b o,X.base.get? b=qq o->s.heap.get? b=qq o:=λ b o e=>(I.bs b o e).1
theorem Inv.mod(I:Inv X aA σ H s):Mod X.K X.mg X.base:=I.ok.mod
theorem Inv.kIn(I:Inv X aA σ H s):X.K.In s.heap:=I.ok.mod.kin.keeps I.bk
theorem Inv.nolimit(I:Inv X aA σ H s):s.heap.NoLimit:=I.ok.mod.nolimit.keeps I.bk
theorem Inv.fr(I:Inv X aA σ H s):∃ m,Fr X.base X.env.locals s.heap m:=
 let ⟨m,hn,_⟩:=I.loc
 ⟨m,hn,I.bk,xAg I.ok.bsz I.ok.above⟩
theorem Inv.lt(I:Inv X aA σ H s):X.env.locals<s.heap.objs.size:=let ⟨_,hn,_⟩:=I.loc;hn.lt
theorem Inv.sz(I:Inv X aA σ H s):X.s₀.heap.objs.size<=s.heap.objs.size:=xAg I.ok.above (yEo I.lt)
theorem Inv.nofs(I:Inv X aA σ H s){a:qv}(h:s.heap.objs.size<=a):a ∉ X.fs:=λ hb=>by
 obtain⟨_,o,ho,_⟩:=I.ok.funs.mem hb;exact absurd (xAc (xAa ho) (xAg I.sz h)) (yBi _)
theorem Inv.cne(I:Inv X aA σ H s):∀ x c,X.env.cells.lookup x=qq c->c≠X.env.locals:=λ x c e z=>by
 obtain⟨v,o,ho,hd⟩:=I.cell x c e;obtain⟨m,⟨o',es,ep,ho',hd',_⟩,_⟩:=I.loc;rw[z,ho'] at ho;cases ho;rw[hd'] at hd;cases hd
theorem Inv.funs(I:Inv X aA σ H s):s.heap.FunFrames X.base X.outer:=by
 have all:∀ (l:List Env),(∀ b∈dQ l,b∈X.fs)->X.s₀.heap.FunFrames X.base l->s.heap.FunFrames X.base l:=by
  intro l
  induction l with
  | nil=>intro _ _;trivial
  | cons env r ih =>
    intro hs hl;obtain⟨hk,⟨L,o,hf,hn,ho,hd⟩,hr⟩:=hl;have hL:L∈X.fs:=hs L (by unfold dQ;rw[yCi,hf];exact xAd)
    obtain⟨sl,e⟩:=I.base.slot L o ho (I.ok.frf L hL) hL λ z=>I.ok.exfs L z hL
    exact⟨hk,⟨L,_,hf,hn,e,hd⟩,ih (λ b hb=>hs b (by unfold dQ;rw[yCi,hf];exact xAf _ hb)) hr⟩
 exact all X.outer (λ _ hb=>hb) I.ok.funs
theorem Inv.stack(I:Inv X aA σ H s):s.heap.FunFrames X.base X.stack:=by
 rcases I.ok.stk with e | ⟨e,hf⟩
 ·rw[e];exact I.funs
 ·rw[e];obtain⟨m,hn,_⟩:=I.loc;refine .cons (by rw[I.ok.kind];decide) hf hn ?_ I.funs
  exact yDp (xAg I.ok.bsz I.ok.above)
theorem Inv.stkSub(I:Inv X aA σ H s):∀ b∈dQ X.stack,b∈X.env.locals::X.fs:=λ b hb=>by
 rcases I.ok.stk with e | ⟨e,hf⟩
 ·rw[e] at hb;exact xAf _ hb
 ·rw[e] at hb;unfold dQ at hb;rw[yCi,hf] at hb;exact hb
theorem Inv.stkFree(I:Inv X aA σ H s):∀ b∈dQ X.stack,H b=qz:=λ b hb=>by
 rcases List.mem_cons.mp (I.stkSub b hb) with e | hb
 ·rw[e];exact I.free
 ·obtain⟨_,o,ho,_⟩:=I.ok.funs.mem hb;exact I.base.free b o ho (I.ok.frf b hb) λ z=>I.ok.exfs b z hb
theorem Inv.step{g':Array GenState}{t':Nat}{d':Drawn}{ch:List qv}(I:Inv X aA σ H s)
 (hch:∀ b∈ch,(b∈X.ex\/X.s₀.heap.objs.size<=b)/\b≠X.env.locals/\(∀ x c,X.env.cells.lookup x=qq c->c≠b)/\∀ p∈X.pn++aA,p.1≠b)
 (keep:∀ b o,b≠X.env.locals->b ∉ X.fs->b ∉ ch->s.heap.get? b=qq o->H b=qz->h'.get? b=qq o)
 (slot:∀ b o,b≠X.env.locals->b∈X.fs->b ∉ ch->s.heap.get? b=qq o->H b=qz->∃ sl,h'.get? b=qq {o with slots:=sl }) (free:∀ b o,b ∉ ch->s.heap.get? b=qq o->H b=qz->H' b=qz)
 (there:∀ b o,b ∉ ch->s.heap.get? b=qq o->∃ o',h'.get? b=qq o')
 (tups:∀ b xs,H b=qq (.tup xs)->H' b=qq (.tup xs)) (frzs:∀ b o u,H b=qq (.frz o u)->H' b=qq (.frz o u)) (tbls:∀ b ps,H b=qq (.tbl ps)->∃ more,H' b=qq (.tbl (ps++more)))
 (ns:∀ m,s.heap.Ns X.env.locals m->h'.Ns X.env.locals m) (hok:dD X.prog X.w H' h') (hg:AllBare g') :
 Inv X aA σ H' {s with heap:=h',gens:=g',drawn:=d',toks:=t' }:=by
 have neL:∀ b o,X.s₀.heap.get? b=qq o->b≠X.env.locals:=λ b o e=>xAh (xAc (xAa e) I.ok.above)
 have neC:∀ b o,X.s₀.heap.get? b=qq o->b ∉ X.ex->b ∉ ch:=λ b o e hx hb=>by
  rcases (hch b hb).1 with z | z
  ·exact hx z
  ·exact absurd (xAc (xAa e) z) (yBi _)
 have cellK:∀ x c,X.env.cells.lookup x=qq c->∀ v,s.heap.IsCell c v->h'.IsCell c v:=λ x c e v aM=>by
  obtain⟨o,ho,hd⟩:=aM;have nch:c ∉ ch:=λ z=>(hch c z).2.2.1 x c e rfl
  by_cases hc:c∈X.fs
  ·obtain⟨sl,q⟩:=slot c o (I.cne x c e) hc nch ho (I.freeC x c e);exact⟨_,q,hd⟩
  ·exact⟨o,keep c o (I.cne x c e) hc nch ho (I.freeC x c e),hd⟩
 refine⟨I.ok,I.os,hg,⟨λ b o e n hb hx=>?_,λ b o e n hb hx=>?_,λ b o e n hx=>?_,λ b o e hx=>?_,λ b xs e=>tups b xs (I.base.tups b xs e),λ b o xs e=>frzs b o xs (I.base.frzs b o xs e),λ b ps e=>?_⟩,?_,λ x c e=>?_,?_,λ x c e=>?_,λ p hp=>?_,hok,I.len⟩
 ·exact keep b o (neL b o e) hb (neC b o e hx) (I.base.keep b o e n hb hx) (I.base.free b o e n hx)
 ·obtain⟨sl,e1⟩:=I.base.slot b o e n hb hx;obtain⟨sl',e2⟩:=slot b _ (neL b o e) hb (neC b o e hx) e1 (I.base.free b o e n hx);exact⟨sl',e2⟩
 ·obtain⟨o',e1⟩:=I.base.there b o e hx;exact free b o' (neC b o e hx) e1 (I.base.free b o e n hx)
 ·obtain⟨o',e1⟩:=I.base.there b o e hx;exact there b o' (neC b o e hx) e1
 ·obtain⟨m1,e1⟩:=I.base.tbls b ps e;obtain⟨m2,e2⟩:=tbls b _ e1;exact⟨m1++m2,by rw[e2,Array.append_assoc]⟩
 ·obtain⟨m,hn,hl⟩:=I.loc;refine⟨m,ns m hn,λ i x v e1 e2 e3=>?_⟩
  obtain⟨u,r,l⟩:=hl i x v e1 e2 e3;refine⟨u,r,?_⟩;rcases l with l | ⟨k,c,e,z⟩
  ·exact .inl l
  ·exact .inr ⟨k,c,e,cellK x c e _ z⟩
 ·obtain⟨v,z⟩:=I.cell x c e;exact⟨v,cellK x c e v z⟩
 ·obtain⟨m,⟨o,_,_,ho,_⟩,_⟩:=I.loc;exact free _ o (λ z=>(hch _ z).2.1 rfl) ho I.free
 ·obtain⟨v,o,ho,hd⟩:=I.cell x c e;exact free c o (λ z=>(hch c z).2.2.1 x c e rfl) ho (I.freeC x c e)
 ·obtain⟨e,n,ne,nf,d⟩:=I.pin p hp;have nch:p.1 ∉ ch:=λ z=>(hch p.1 z).2.2.2 p hp rfl
  exact⟨keep p.1 p.2 ne nf nch e n,free p.1 p.2 nch e n,ne,nf,d⟩
theorem Inv.un{t':Nat}(I:Inv X aA σ H s)(u:Un X.fs [] H H' s.heap h')(hok:dD X.prog X.w H' h'):Inv X aA σ H' {s with heap:=h',toks:=t' }:=by
 obtain⟨m,⟨o,es,ep,ho,r⟩,_⟩:=id I.loc;obtain⟨sl,hL⟩:=u.any ho I.free (by simp)
 exact I.step (g':=s.gens) (d':=s.drawn) (ch:=[]) (λ _ z=>nomatch z) (λ b o _ hb _ e n=>u.keep b o e n hb (by simp)) (λ b o _ hb _ e n=>u.slot b o e n hb (by simp)) (λ b o _ e n=>u.free b o e n (by simp)) (λ b o _ e=>u.there b o e (by simp)) u.tups u.frzs u.tbls (λ m' hm=>by
  obtain⟨o',es',ep',ho',r'⟩:=hm;rw[ho] at ho';cases ho';exact⟨_,es',ep',hL,r'⟩) hok I.bare
theorem Inv.call{g':Array GenState}{t':Nat}{d':Drawn}{ch:List qv}(I:Inv X aA σ H s)(u:Un (dQ X.stack) ch H H' s.heap h')(hok:dD X.prog X.w H' h')(hg:AllBare g')
 (hch:∀ b∈ch,(b∈X.ex\/X.s₀.heap.objs.size<=b)/\b≠X.env.locals/\(∀ x c,X.env.cells.lookup x=qq c->c≠b)/\∀ p∈X.pn++aA,p.1≠b) :
 Inv X aA σ H' {s with heap:=h',gens:=g',drawn:=d',toks:=t' }:=by
 obtain⟨m,⟨o,es,ep,ho,r⟩,_⟩:=id I.loc;obtain⟨sl,hL⟩:=u.any ho I.free λ z=>(hch _ z).2.1 rfl
 exact I.step (ch:=ch) hch (λ b o hL hb hc e n=>u.keep b o e n (λ z=>(List.mem_cons.mp (I.stkSub b z)).elim hL hb) hc) (λ b o _ _ hc e n=>u.any e n hc) (λ b o hc e n=>u.free b o e n hc) (λ b o hc e=>u.there b o e hc) u.tups u.frzs u.tbls (λ m' hm=>by
  obtain⟨o',es',ep',ho',r'⟩:=hm;rw[ho] at ho';cases ho';exact⟨_,es',ep',hL,r'⟩) hok hg
theorem Inv.turned{t':Nat}{it:qv}(I:Inv X aA σ H s)(k:∀ b o,b≠it->s.heap.get? b=qq o->h'.get? b=qq o)(hn:H it=qz)(hL:it≠X.env.locals)
 (h1:it∈X.ex\/X.s₀.heap.objs.size<=it) (h2:∀ x c,X.env.cells.lookup x=qq c->c≠it) (h3:∀ p∈X.pn++aA,p.1≠it):Inv X aA σ H {s with heap:=h',toks:=t' }:=by
 have nit:∀ b u,H b=qq u->b≠it:=λ b u e z=>by rw[z,hn] at e;cases e
 refine I.step (g':=s.gens) (d':=s.drawn) (ch:=[it]) (λ b hb=>?_) (λ b o _ _ hc e _=>k b o (λ z=>hc (by simp[z])) e) (λ b o _ _ hc e _=>⟨o.slots,k b o (λ z=>hc (by simp[z])) e⟩) (λ _ _ _ _ n=>n)
  (λ b o hc e=>⟨o,k b o (λ z=>hc (by simp[z])) e⟩) (λ _ _ e=>e) (λ _ _ _ e=>e) (λ b ps e=>⟨#[],by rw[e];simp⟩) (λ m hm=>?_) (λ b u e=>?_) I.bare
 ·have e:b=it:=by simpa using hb
  subst e;exact⟨h1,hL,h2,h3⟩
 ·obtain⟨o,es,ep,ho,r⟩:=hm;exact⟨o,es,ep,k _ o (Ne.symm hL) ho,r⟩
 ·refine(I.hok b u e).stay (λ c v hc q=>k c v ?_ q) (λ _ q=>q) λ _ _ q=>q
  rcases hc with z | z
  ·rw[z];exact nit b u e
  ·exact nit c _ z
theorem Inv.tok(I:Inv X aA σ H s)(t:Nat):Inv X aA σ H {s with toks:=t }:=I.un (h':=s.heap) (t':=t) Un.refl I.hok
theorem Inv.kept{t':Nat}(I:Inv X aA σ H s)(k:∀ b u,s.heap.get? b=qq u->h'.get? b=qq u):Inv X aA σ H {s with heap:=h',toks:=t' }:=I.un (Un.kept k) (I.hok.kept k)
theorem Inv.laid{a:qv}{o:HO}{t':Nat}(I:Inv X aA σ H s)(k:∀ b u,s.heap.get? b=qq u->h'.get? b=qq u)(hp:s.heap.objs.size<=a)(new:fP X.prog X.w (aW H a o) h' a o) :
 Inv X aA σ (aW H a o) {s with heap:=h',toks:=t' }:=I.un (Un.laid k hp (I.hok.fresh hp)) (I.hok.laid k hp new)
theorem Inv.write{x e:qv}{o:HO}{t':Nat}(I:Inv X aA σ H s)(mu:Mut (H x))(he:e=x\/H e=qq (.own x))(k:∀ b u,b≠e->s.heap.get? b=qq u->h'.get? b=qq u)(heo:∃ u,h'.get? e=qq u)
 (new:fP X.prog X.w (aW H x o) h' x o):Inv X aA σ (aW H x o) {s with heap:=h',toks:=t' }:=I.un (Un.write mu he k heo) (I.hok.write mu he k heo new)
theorem Inv.weak{σ':List (Option V)}(I:Inv X aA σ H s)(hl:σ'.length=σ.length)(w:∀ (i:Nat) v,σ'[i]? = qq (qq v)->σ[i]? = qq (qq v)):Inv X aA σ' H s:=
 ⟨I.ok,I.os,I.bare,I.base,let ⟨m,hn,hl'⟩:=I.loc;⟨m,hn,λ i x v e1 e2 e3=>hl' i x v e1 (w i v e2) e3⟩,I.cell,I.free,I.freeC,I.pin,I.hok,hl.trans I.len⟩
theorem Inv.pins_of{pins':List (qv×Obj)}(I:Inv X aA σ H s)(h:∀ p∈pins',s.heap.get? p.1=qq p.2/\H p.1=qz/\p.1≠X.env.locals/\p.1 ∉ X.fs/\∀ v,p.2.data≠.cell v):Inv X pins' σ H s:=
 ⟨I.ok,I.os,I.bare,I.base,I.loc,I.cell,I.free,I.freeC,λ p hp=>(List.mem_append.mp hp).elim (λ z=>I.pin p (yBx _ z)) (h p),I.hok,I.len⟩
theorem aBd{N:List Str}(hN:N.Nodup){i j:Nat}{x:Str}(a:N[i]? = qq x)(b:N[j]? = qq x):i=j:=by
 obtain⟨h1,e1⟩:=gIm a;obtain⟨h2,e2⟩:=gIm b;exact(yFu hN).mp (e1.trans e2.symm)
theorem aKi{M:Model}{A:zv}{E:qx->qj->Prop}{i:Nat}{x:Str}{v:V}{u:qx}{Q:Unit->qj->Prop}(I:Inv X aA σ H s)(hN:X.N.Nodup)(hi:X.N[i]? = qq x)(hx:Loc X.env.scope x)(r:aX v u)
 (h:∀ s',Inv X aA (σ.set i (qq v)) H s'->(∃ a,yDe a s.heap s'.heap/\(a=X.env.locals\/X.env.cells.lookup x=qq a))->Q () s') (hf:X.fn x=true\/X.env.scope.names.lookup x=qq .local:=by first | exact .inl rfl | exact .inr rfl | assumption):qu M A (storeName X.env x u) Q E s:=by
 obtain⟨m,hn,hl⟩:=id I.loc;have hcls:(X.env.scope.kind==.class||(X.env.scope.kind==.module&&X.env.locals != X.env.globals))=false:=by rw[I.ok.kind];rfl
 have hiσ:i<σ.length:=by rw[I.len];exact(gIm hi).1
 have cne:=I.cne;have tracked:∀ {a:qv}{h':Heap},(∃ o,s.heap.get? a=qq o/\H a=qz)->yDe a s.heap h'->dD X.prog X.w H h':=λ {a h'} ha hs b ob e=>by
  obtain⟨_,_,hfree⟩:=ha;refine(I.hok b ob e).stay (λ c w' hc q=>(hs.2 c ?_).trans q) (λ _ q=>q) λ _ _ q=>q
  rintro rfl;rcases hc with rfl | hc
  ·rw[hfree] at e;cases e
  ·rw[hfree] at hc;cases hc
 rcases hx with hk | hk
 ·refine wpAny_storeName_local hk hn (λ h' hn' hs=>?_) hcls
  obtain⟨oL,_,_,hoL,_⟩:=id hn;refine h _ ⟨I.ok,I.os,I.bare,⟨λ b o e n hb hx=>?_,λ b o e n hb hx=>?_,I.base.free,λ b o e hx=>?_,I.base.tups,I.base.frzs,I.base.tbls⟩,⟨_,hn',λ j y v' e1 e2 e3=>?_⟩,λ y c e=>?_,I.free,I.freeC,λ p hp=>?_,tracked ⟨oL,hoL,I.free⟩ hs,by simpa using I.len⟩ ⟨_,hs,.inl rfl⟩
  ·exact(hs.2 b (xAh (xAc (xAa e) I.ok.above))).trans (I.base.keep b o e n hb hx)
  ·obtain⟨sl,e1⟩:=I.base.slot b o e n hb hx;exact⟨sl,(hs.2 b (xAh (xAc (xAa e) I.ok.above))).trans e1⟩
  ·obtain⟨o',e1⟩:=I.base.there b o e hx;exact⟨o',(hs.2 b (xAh (xAc (xAa e) I.ok.above))).trans e1⟩
  ·by_cases hj:j=i
   ·subst hj;rw[hi] at e1;cases e1;rw[yAq hiσ] at e2;cases e2;exact⟨u,r,.inl ⟨hk,by simp⟩⟩
   ·rw[yAo (Ne.symm hj)] at e2;obtain⟨u',r',q⟩:=hl j y v' e1 e2 e3;refine⟨u',r',?_⟩;rcases q with ⟨k,e⟩ | ⟨k,c,e,z⟩
    ·refine .inl ⟨k,?_⟩;have:y≠x:=λ e=>hj (aBd hN e1 (e▸hi))
     simp[this,e]
    ·exact .inr ⟨k,c,e,z.sameBut hs (cne y c e)⟩
  ·obtain⟨w',z⟩:=I.cell y c e;exact⟨w',z.sameBut hs (cne y c e)⟩
  ·obtain⟨e,n,ne,nf,d⟩:=I.pin p hp;exact⟨(hs.2 p.1 ne).trans e,n,ne,nf,d⟩
 ·have hfn:X.fn x=true:=by
   rcases hf with z | z
   ·exact z
   ·rw[z] at hk;cases hk
  obtain⟨c,hc⟩:=I.ok.has x (.inl hk);obtain⟨w',z⟩:=I.cell x c hc;refine wpAny_storeName_cell I.ok.kind hk hc z (λ h' hc' hs=>?_)
  obtain⟨oc,hoc,hocd⟩:=id z;refine h {s with heap:=h' } ⟨I.ok,I.os,I.bare,⟨λ b o e n hb hx=>?_,λ b o e n hb hx=>?_,I.base.free,λ b o e hx=>?_,I.base.tups,I.base.frzs,I.base.tbls⟩,⟨m,hn.sameBut hs (Ne.symm (cne x c hc)),λ j y v' e1 e2 e3=>?_⟩,λ y c' e=>?_,I.free,I.freeC,λ p hp=>?_,tracked ⟨oc,hoc,I.freeC x c hc⟩ hs,by simpa using I.len⟩ ⟨c,hs,.inr hc⟩
  ·exact(hs.2 b (xAh (xAc (xAa e) (I.ok.cab x c hfn hc)))).trans (I.base.keep b o e n hb hx)
  ·obtain⟨sl,e1⟩:=I.base.slot b o e n hb hx;exact⟨sl,(hs.2 b (xAh (xAc (xAa e) (I.ok.cab x c hfn hc)))).trans e1⟩
  ·obtain⟨o',e1⟩:=I.base.there b o e hx;exact⟨o',(hs.2 b (xAh (xAc (xAa e) (I.ok.cab x c hfn hc)))).trans e1⟩
  ·by_cases hj:j=i
   ·subst hj;rw[hi] at e1;cases e1;rw[yAq hiσ] at e2;cases e2;exact⟨u,r,.inr ⟨.inl hk,c,hc,hc'⟩⟩
   ·rw[yAo (Ne.symm hj)] at e2;obtain⟨u',r',q⟩:=hl j y v' e1 e2 e3;refine⟨u',r',?_⟩;rcases q with q | ⟨k,c',e,z'⟩
    ·exact .inl q
    ·refine .inr ⟨k,c',e,z'.sameBut hs ?_⟩;rintro rfl;exact hj (aBd hN e1 (I.ok.inj _ _ _ e hc▸hi))
  ·by_cases hcc:c'=c
   ·subst hcc;exact⟨_,hc'⟩
   ·obtain⟨w2,z2⟩:=I.cell y c' e;exact⟨w2,z2.sameBut hs hcc⟩
  ·obtain⟨e,n,ne,nf,d⟩:=I.pin p hp;refine⟨(hs.2 p.1 ?_).trans e,n,ne,nf,d⟩;intro q;rw[q,hoc] at e;have q':oc=p.2:=Option.some.inj e;exact d w' (by rw[<- q'];exact hocd)
theorem aBh{M:Model}{A:zv}{E:qx->qj->Prop}{i:Nat}{x:Str}{v:V}{u:qx}{Q:Unit->qj->Prop}(I:Inv X aA σ H s)(hN:X.N.Nodup)(hi:X.N[i]? = qq x)(hx:Loc X.env.scope x)(r:aX v u)
 (h:∀ s',Inv X aA (σ.set i (qq v)) H s'->Q () s') (hf:X.fn x=true\/X.env.scope.names.lookup x=qq .local:=by first | exact .inl rfl | exact .inr rfl | assumption):qu M A (storeName X.env x u) Q E s:=
 aKi I hN hi hx r (λ s' I' _=>h s' I') hf
theorem Inv.call'{s':qj}{ch:List qv}(I:Inv X aA σ H s)(ho:s'.os=s.os)(u:Un (dQ X.stack) ch H H' s.heap s'.heap)(hok:dD X.prog X.w H' s'.heap)(hg:AllBare s'.gens)
 (hch:∀ b∈ch,(b∈X.ex\/X.s₀.heap.objs.size<=b)/\b≠X.env.locals/\(∀ x c,X.env.cells.lookup x=qq c->c≠b)/\∀ p∈X.pn++aA,p.1≠b):Inv X aA σ H' s':=by
 obtain⟨h',g',d',t',o'⟩:=s';have e:o'=s.os:=ho;subst e;exact I.call (g':=g') (t':=t') (d':=d') u hok hg hch
end
abbrev XK:=qx->Option qv->Hp->Prop
abbrev St:=List (Option V)
abbrev VK:=V->Hp->Prop
abbrev TE:=St->Hp->VK->Prop
abbrev TT:=St->Hp->(Bool->Hp->Prop)->Prop
abbrev TA:=St->Hp->(List V->Hp->Prop)->Prop
structure Ends where
 nx:St->Hp->Prop
 rt:VK
 bk:St->Hp->Prop:=λ _ _=>False
 ct:St->Hp->Prop:=λ _ _=>False
abbrev TS:=Ends->St->Hp->Prop
def EP(X:Cx)(aA:List (qv×Obj))(σ:St)(Q:VK)(u:qx)(s':qj):Prop:=∃ v H',Inv X aA σ H' s'/\aX v u/\Q v H'
def TP(X:Cx)(aA:List (qv×Obj))(σ:St)(Q:Bool->Hp->Prop)(b:Bool)(s':qj):Prop:=∃ H',Inv X aA σ H' s'/\Q b H'
def AP(X:Cx)(aA:List (qv×Obj))(σ:St)(Q:List V->Hp->Prop)(us:List qx)(s':qj):Prop:=∃ vs H',Inv X aA σ H' s'/\aT vs us/\Q vs H'
def SP(X:Cx)(aA:List (qv×Obj))(D:Ends)(f:Flow)(s':qj):Prop:=
 match f with
 | .next=>∃ σ' H',Inv X aA σ' H' s'/\D.nx σ' H'
 | .brk=>∃ σ' H',Inv X aA σ' H' s'/\D.bk σ' H'
 | .cont=>∃ σ' H',Inv X aA σ' H' s'/\D.ct σ' H'
 | .ret u=>∃ v σ' H',Inv X aA σ' H' s'/\aX v u/\D.rt v H'
def PE(X:Cx)(e:qw)(t:TE):Prop:=
 ∀ (aA:List (qv×Obj)) (s:qj) (σ:St) (H:Hp) (Q:VK),Inv X aA σ H s->t σ H Q->qu (model X.prog X.w) X.A (eval e X.env) (EP X aA σ Q) X.xe s
def PT(X:Cx)(e:qw)(t:TT):Prop:=
 ∀ (aA:List (qv×Obj)) (s:qj) (σ:St) (H:Hp) (Q:Bool->Hp->Prop),Inv X aA σ H s->t σ H Q->qu (model X.prog X.w) X.A (isTrue e X.env (eval e X.env)) (TP X aA σ Q) X.xe s
def PW(X:Cx)(e:qw)(t:TT):Prop:=
 ∀ (eY:Sem qx) (aA:List (qv×Obj)) (s:qj) (σ:St) (H:Hp) (Q:Bool->Hp->Prop),Inv X aA σ H s->t σ H Q->qu (model X.prog X.w) X.A (isTrue e X.env eY) (TP X aA σ Q) X.xe s
theorem PW.pt{X:Cx}{e:qw}{t:TT}(h:PW X e t):PT X e t:=h _
def PA(X:Cx)(es:List qw)(t:TA):Prop:=
 ∀ (pos:Pos) (aA:List (qv×Obj)) (s:qj) (σ:St) (H:Hp) (Q:List V->Hp->Prop),Inv X aA σ H s->t σ H Q->qu (model X.prog X.w) X.A (spliced (backTo pos (zj es X.env))) (AP X aA σ Q) X.xe s
def PS(X:Cx)(st:zy)(t:TS):Prop:=
 ∀ (aA:List (qv×Obj)) (s:qj) (σ:St) (H:Hp) (D:Ends),Inv X aA σ H s->t D σ H->qu (model X.prog X.w) X.A (exec st X.env) (SP X aA D) X.xe s
def bW(X:Cx)(st:List zy)(t:TS):Prop:=
 ∀ (aA:List (qv×Obj)) (s:qj) (σ:St) (H:Hp) (D:Ends),Inv X aA σ H s->t D σ H->qu (model X.prog X.w) X.A (execs st X.env) (SP X aA D) X.xe s
theorem aZ{α:Type}{t:Sem α}{Q Q':α->qj->Prop}{M:Model}{A:zv}{E:qx->qj->Prop}{s:qj}(h:qu M A t Q E s)(hQ:∀ a s,Q a s->Q' a s):qu M A t Q' E s:=wpAny_mono h hQ λ _ _ x=>x
end L2
namespace L2
open PySem PySem.Spec PyProof.Rows
section
variable {X : Cx}
theorem bin{a b:qw}{ta tb:TE}(ha:PE X a ta)(hb:PE X b tb){aA:List (qv×Obj)}{s:qj}{σ:St}{H:Hp}{R:V->V->Hp->Prop}(I:Inv X aA σ H s)(h:ta σ H λ x H1=>tb σ H1 λ y H2=>R x y H2)
 {α:Type}{Q:α->qj->Prop}{f:qx->qx->Sem α}
 (hf:∀ v u s2 x y H2,Inv X aA σ H2 s2->aX x v->aX y u->R x y H2->qu (model X.prog X.w) X.A (f v u) Q X.xe s2) :
 qu (model X.prog X.w) X.A (eval a X.env) (λ v s₁=>qu (model X.prog X.w) X.A (eval b X.env) (λ u s₂=>qu (model X.prog X.w) X.A (f v u) Q X.xe s₂) X.xe s₁) X.xe s:=by
 refine aZ (ha aA s σ H _ I h) λ v s1 hPq0=>?_
 obtain⟨x,H1,I1,r1,q1⟩:=hPq0;refine aZ (hb aA s1 σ H1 _ I1 q1) λ u s2 hPq1=>?_
 obtain⟨y,H2,I2,r2,q2⟩:=hPq1;exact hf v u s2 x y H2 I2 r1 r2 q2
def aR8(i:Nat):TE:=λ σ H Q=>∃ v,σ[i]? = qq (qq v)/\Q v H
def tC(v:V):TE:=λ _ H Q=>Q v H
theorem aB3{i:Nat}{x:Str}{pos:Pos}(hN:X.N[i]? = qq x)(hv:mC X.env.scope x)(hd:(x==("__debug__" : Str))=false:=by decide)(hcd:(x==("__classdict__" : Str))=false:=by decide):PE X (.Name x pos) (aR8 i):=by
 intro aA s σ H Q I h;obtain⟨v,e,h⟩:=h;obtain⟨m,hn,hl⟩:=I.loc;obtain⟨u,r,l⟩:=hl i x v hN e hv;have bI:EP X aA σ Q u s:=⟨v,H,I,r,h⟩;rcases l with ⟨hk,hm⟩ | ⟨hk,c,hc,hcell⟩
 ·exact wpAny_Name (wpAny_loadName_local I.ok.kind hk hn hm bI) hd
 ·rcases hk with hk | hk
  ·exact wpAny_Name (wpAny_loadName_cell I.ok.kind hk hc hcell bI) hd
  ·exact wpAny_Name (wpAny_loadName_free I.ok.kind hk hc hcell bI hcd) hd
theorem aOu{i j pos}:PE X (.Constant (.int i) j pos) (tC (.int i)):=λ _ _ _ H _ I h=>wpAny_Constant_int ⟨.int i,H,I.tok _,⟨_,rfl⟩,h⟩
theorem aQC{b j pos}:PE X (.Constant (.bool b) j pos) (tC (.bl b)):=λ _ _ _ H _ I h=>Constant_bool ⟨.bl b,H,I,rfl,h⟩
theorem aOj{j pos}:PE X (.Constant .none j pos) (tC .non):=λ _ _ _ H _ I h=>Constant_none ⟨.non,H,I,rfl,h⟩
theorem aGu{x j pos}:PE X (.Constant (.str x) j pos) (tC (.str x)):=λ _ _ _ H _ I h=>Calls.Constant_str ⟨.str x,H,I.tok _,⟨_,rfl⟩,h⟩
def Gl(X:Cx)(x:Str):Prop:=X.env.kindOf x=qq .globalImplicit
theorem lE{E:qx->qj->Prop}{aA:List (qv×Obj)}{s:qj}{σ:St}{H:Hp}{x:Str}{u:qx}{pos:Pos}{Q:qx->qj->Prop}(I:Inv X aA σ H s)(hg:Gl X x)(hm:X.mg x=qq u)(h:Q u s)
 (hd:(x==("__debug__" : Str))=false:=by decide):qu (model X.prog X.w) X.A (eval (.Name x pos) X.env) Q E s:=
 Calls.Name_function_global I.ok.kind hg (Calls.loadGlobal_global (by rw[I.ok.glob];exact I.mod.glob.keeps I.bk) hm h) hd
theorem tW{E:qx->qj->Prop}{aA:List (qv×Obj)}{s:qj}{σ:St}{H:Hp}{x:Str}{u:qx}{pos:Pos}{Q:qx->qj->Prop}(I:Inv X aA σ H s)(hg:Gl X x)(hm:X.mg x=qz)(hv:zu x=qq u)(h:Q u s)
 (hn:x ≠ "__name__":=by decide) (hd:(x==("__debug__" : Str))=false:=by decide):qu (model X.prog X.w) X.A (eval (.Name x pos) X.env) Q E s:=by
 obtain⟨mb,h1,h2⟩:=I.mod.blt;exact Calls.Name_function_global I.ok.kind hg (Calls.loadGlobal_builtin (by rw[I.ok.glob];exact I.mod.glob.keeps I.bk) hm (by rw[I.ok.blt];exact h1.keeps I.bk) ((h2 x hn).trans hv) h) hd
theorem tD{x:Str}{v:V}{u:qx}{pos:Pos}(hg:Gl X x)(hm:X.mg x=qq u)(r:aX v u)(hd:(x==("__debug__" : Str))=false:=by decide):PE X (.Name x pos) (tC v):=
 λ _ _ _ H _ I h=>lE I hg hm ⟨v,H,I,r,h⟩ hd
theorem aFJ{x:Str}{v:V}{u:qx}{pos:Pos}(hg:Gl X x)(hm:X.mg x=qz)(hv:zu x=qq u)(r:aX v u)(hn:x ≠ "__name__":=by decide)(hd:(x==("__debug__" : Str))=false:=by decide):PE X (.Name x pos) (tC v):=
 λ _ _ _ H _ I h=>tW I hg hm hv ⟨v,H,I,r,h⟩ hn hd
variable {a b : qw}{ta tb : TE}{pos : Pos}
def PC(X:Cx)(op:jx)(a b:qw)(t:TE):Prop:=
 ∀ (aA:List (qv×Obj)) (s:qj) (σ:St) (H:Hp) (Q:VK),Inv X aA σ H s->t σ H Q ->
  qu (model X.prog X.w) X.A (eval a X.env) (λ v s₁=>qu (model X.prog X.w) X.A (eval b X.env) (λ u s₂=>qu (model X.prog X.w) X.A (zo op v u) (EP X aA σ Q) X.xe s₂) X.xe s₁) X.xe s
variable {tA tB' : TT}{bT : List qw}
def aHU(t u:TT):TT:=λ σ H Q=>t σ H λ c H1=>if c=true then u σ H1 Q else Q false H1
def tOr(t u:TT):TT:=λ σ H Q=>t σ H λ c H1=>if c=true then Q true H1 else u σ H1 Q
def aRW(t:TT):TT:=λ σ H Q=>t σ H λ c H1=>Q (!c) H1
theorem aMQ(ha:PT X a tA):PW X (.BoolOp .And [a] pos) tA:=by
 intro wh aA s σ H Q I h;refine isTrue_and (aZ (ha aA s σ H Q I h) λ c s1 e=>?_)
 cases c with
 | true=>exact isTrue_and_nil e
 | false=>exact e
theorem aNR(ha:PT X a tA):PW X (.BoolOp .Or [a] pos) tA:=by
 intro wh aA s σ H Q I h;refine isTrue_or (aZ (ha aA s σ H Q I h) λ c s1 e=>?_)
 cases c with
 | false=>exact isTrue_or_nil e
 | true=>exact e
theorem aGv(ha:PT X a tA)(hb:PW X (.BoolOp .And (b::bT) pos) tB'):PW X (.BoolOp .And (a::b::bT) pos) (aHU tA tB'):=by
 intro wh aA s σ H Q I h;refine isTrue_and (aZ (ha aA s σ H _ I h) λ c s1 hPq2=>?_)
 obtain⟨H1,I1,q1⟩:=hPq2;cases c with
 | true=>exact hb wh aA s1 σ H1 Q I1 q1
 | false=>exact⟨H1,I1,q1⟩
theorem aGG(ha:PT X a tA)(hb:PW X (.BoolOp .Or (b::bT) pos) tB'):PW X (.BoolOp .Or (a::b::bT) pos) (tOr tA tB'):=by
 intro wh aA s σ H Q I h;refine isTrue_or (aZ (ha aA s σ H _ I h) λ c s1 hPq3=>?_)
 obtain⟨H1,I1,q1⟩:=hPq3;cases c with
 | true=>exact⟨H1,I1,q1⟩
 | false=>exact hb wh aA s1 σ H1 Q I1 q1
theorem aM8(ha:PT X a tA):PT X (.UnaryOp .Not a pos) (aRW tA):=by
 intro aA s σ H Q I h;exact isTrue_not (ha aA s σ H (λ c H1=>Q (!c) H1) I h)
def aGY(ta tb:TE):TE:=λ σ H Q=>ta σ H λ x H1=>∃ c,x=.bl c/\if c=true then tb σ H1 Q else Q (.bl false) H1
def aHt(ta tb:TE):TE:=λ σ H Q=>ta σ H λ x H1=>∃ c,x=.bl c/\if c=true then Q (.bl true) H1 else tb σ H1 Q
def aQR(ta:TE):TE:=λ σ H Q=>ta σ H λ x H1=>∃ c,x=.bl c/\Q (.bl (!c)) H1
theorem aBU{op}{t:TE}(h:PE X a t):PE X (.BoolOp op [a] pos) t:=λ aA s σ H Q I hw=>BoolOp_one (h aA s σ H Q I hw)
theorem xV(ha:PE X a ta)(hb:PE X (.BoolOp .And (b::bT) pos) tb):PE X (.BoolOp .And (a::b::bT) pos) (aGY ta tb):=by
 intro aA s σ H Q I h;refine BoolOp_and (aZ (ha aA s σ H _ I h) λ v s1 hPq4=>?_)
 obtain⟨x,H1,I1,r1,q1⟩:=hPq4;obtain⟨c,rfl,q1⟩:=q1;cases r1;refine xw ?_;cases c with
 | true=>exact hb aA s1 σ H1 Q I1 q1
 | false=>exact⟨.bl false,H1,I1,rfl,q1⟩
theorem aG3(ha:PE X a ta)(hb:PE X (.BoolOp .Or (b::bT) pos) tb):PE X (.BoolOp .Or (a::b::bT) pos) (aHt ta tb):=by
 intro aA s σ H Q I h;refine BoolOp_or (aZ (ha aA s σ H _ I h) λ v s1 hPq5=>?_)
 obtain⟨x,H1,I1,r1,q1⟩:=hPq5;obtain⟨c,rfl,q1⟩:=q1;cases r1;refine xw ?_;cases c with
 | false=>exact hb aA s1 σ H1 Q I1 q1
 | true=>exact⟨.bl true,H1,I1,rfl,q1⟩
theorem aPF(ha:PE X a ta):PE X (.UnaryOp .Not a pos) (aQR ta):=by
 intro aA s σ H Q I h;refine UnaryOp_ (aZ (ha aA s σ H _ I h) λ v s1 hPq6=>?_)
 obtain⟨x,H1,I1,r1,q1⟩:=hPq6;obtain⟨c,rfl,q1⟩:=q1;cases r1;exact not_of (xw ⟨.bl (!c),H1,I1,rfl,q1⟩)
def tIf(t:TT)(ta tb:TE):TE:=λ σ H Q=>t σ H λ c H1=>if c=true then ta σ H1 Q else tb σ H1 Q
theorem aKT{c:qw}(hc:PT X c tA)(ha:PE X a ta)(hb:PE X b tb):PE X (.IfExp c a b pos) (tIf tA ta tb):=by
 intro aA s σ H Q I h;refine wpAny_IfExp (aZ (hc aA s σ H _ I h) λ d s1 hPq7=>?_)
 obtain⟨H1,I1,q1⟩:=hPq7;cases d with
 | true=>exact ha aA s1 σ H1 Q I1 q1
 | false=>exact hb aA s1 σ H1 Q I1 q1
end
end L2
namespace L2
open PySem PySem.Spec PyProof.Rows
def bR(K:FrG)(H:Hp)(a:qv)(xs:List V):Prop:=
 Rd H a (.lst xs) \/
  ∃ (o:Obj) (its:Array qx) (n:Nat),K.lookup a=qq o/\o.cls=.type "list" /\ o.dict=qz/\o.data=.seq its n/\its.size<=qk/\aT xs its.toList
def bV(K:FrG)(H:Hp)(a:qv)(xs:List V):Prop:=
 Rd H a (.tup xs) \/
  ∃ (o:Obj) (its:Array qx) (n:Nat),K.lookup a=qq o/\o.cls=.type "tuple" /\ o.data=.seq its n/\its.size<=qk/\aT xs its.toList
noncomputable def aRp:qx->Option V
 | .none=>qq .non
 | .bool b=>qq (.bl b)
 | .int i _=>qq (.int i)
 | .str x _=>qq (.str x)
 | .bytes b _=>qq (.byt b)
 | .float b _=>qq (.flt b)
 | .ref a=>qq (.ref a)
 | .type n=>qq (.ty n)
 | _=>qz
theorem aX.abs{x:V}{u:qx}(r:aX x u):aRp u=qq x:=by
 cases x with
 | non=>cases r;rfl
 | bl _=>cases r;rfl
 | int _=>obtain⟨t,rfl⟩:=r;rfl
 | str _=>obtain⟨t,rfl⟩:=r;rfl
 | byt _=>obtain⟨t,rfl⟩:=r;rfl
 | flt _=>obtain⟨t,rfl⟩:=r;rfl
 | ref _=>cases r;rfl
 | ty _=>cases r;rfl
theorem aX.inj{x y:V}{u:qx}(r:aX x u)(q:aX y u):x=y:=Option.some.inj (r.abs.symm.trans q.abs)
theorem aT.inj:∀ {xs ys:List V}{us:List qx},aT xs us->aT ys us->xs=ys
 | _,_,_,.nil,.nil=>rfl
 | _,_,_,.cons r t,.cons r' t'=>by rw[r.inj r',aT.inj t t']
section
variable {X : Cx}{aA : List (qv×Obj)}{σ : St}{H : Hp}{s : qj}{a : qv}{xs ys : List V}
theorem bR.of{K:FrG}(h:H a=qq (.lst xs)):bR K H a xs:=.inl (.inl h)
theorem bV.of{K:FrG}(h:H a=qq (.tup xs)):bV K H a xs:=.inl (.inl h)
theorem Inv.list(I:Inv X aA σ H s)(h:bR X.K H a xs):∃ its:List qx,aT xs its/\PlainL s.heap a its.toArray/\xs.length<=qk:=by
 rcases h with h | ⟨o,its,n,hk,hc,hd,hs,hz,r⟩
 ·obtain⟨z,its,n,r,e⟩:=h.ok I.hok;exact⟨its,r,⟨_,n,e,rfl,rfl,rfl⟩,z⟩
 ·refine⟨its.toList,r,⟨o,n,I.kIn a o hk,hc,hd,by simpa using hs⟩,?_⟩
  have e:=r.length;simp only[yAm] at e;omega
theorem Inv.tuple(I:Inv X aA σ H s)(h:bV X.K H a xs):∃ its:List qx,aT xs its/\IsTup s.heap a its.toArray/\xs.length<=qk:=by
 rcases h with h | ⟨o,its,n,hk,hc,hs,hz,r⟩
 ·obtain⟨z,its,r,p⟩:=h.ok I.hok;exact⟨its,r,p,z⟩
 ·refine⟨its.toList,r,⟨o,I.kIn a o hk,hc,n,by simpa using hs⟩,?_⟩
  have e:=r.length;simp only[yAm] at e;omega
theorem Inv.list_inj(I:Inv X aA σ H s)(h:bR X.K H a xs)(h':bR X.K H a ys):xs=ys:=by
 obtain⟨its,r,⟨o,n,e,_,_,d⟩,_⟩:=I.list h;obtain⟨its',r',⟨o',n',e',_,_,d'⟩,_⟩:=I.list h';rw[e] at e';cases e';rw[d] at d';injection d' with d1 _
 have:its=its':=by simpa using congrArg Array.toList d1
 subst this;exact r.inj r'
theorem Inv.tuple_inj(I:Inv X aA σ H s)(h:bV X.K H a xs)(h':bV X.K H a ys):xs=ys:=by
 obtain⟨its,r,⟨o,e,_,n,d⟩,_⟩:=I.tuple h;obtain⟨its',r',⟨o',e',_,n',d'⟩,_⟩:=I.tuple h';rw[e] at e';cases e';rw[d] at d';injection d' with d1 _
 have:its=its':=by simpa using congrArg Array.toList d1
 subst this;exact r.inj r'
end
noncomputable abbrev Cx.wish(X:Cx)(E:qx->qj->Prop):Cx:={X with xe:=E }
noncomputable abbrev Cx.nox(X:Cx):Cx:=X.wish λ _ _=>False
theorem Cx.Ok.wish{X:Cx}(ok:X.Ok)(E:qx->qj->Prop):(X.wish E).Ok:=
 ⟨ok.mod,ok.kind,ok.glob,ok.blt,ok.above,ok.inj,ok.has,ok.cab,ok.hd,ok.frames,ok.stk,ok.exf,ok.bs,ok.bsz,ok.noex,ok.exfs,ok.funs,ok.frf⟩
theorem Cx.Ok.unwish{X:Cx}{E:qx->qj->Prop}(ok:(X.wish E).Ok):X.Ok:=
 ⟨ok.mod,ok.kind,ok.glob,ok.blt,ok.above,ok.inj,ok.has,ok.cab,ok.hd,ok.frames,ok.stk,ok.exf,ok.bs,ok.bsz,ok.noex,ok.exfs,ok.funs,ok.frf⟩
section
variable {X : Cx}{aA : List (qv×Obj)}{σ : St}{H : Hp}{s : qj}{E : qx -> qj -> Prop}
theorem Inv.wish(I:Inv X aA σ H s)(E:qx->qj->Prop):Inv (X.wish E) aA σ H s:=⟨I.ok.wish E,I.os,I.bare,I.base,I.loc,I.cell,I.free,I.freeC,I.pin,I.hok,I.len⟩
theorem Inv.unwish(I:Inv (X.wish E) aA σ H s):Inv X aA σ H s:=⟨I.ok.unwish,I.os,I.bare,I.base,I.loc,I.cell,I.free,I.freeC,I.pin,I.hok,I.len⟩
theorem SP.unwish{D:Ends}{f:Flow}{s':qj}(h:SP (X.wish E) aA D f s'):SP X aA D f s':=by
 cases f with
 | next=>obtain⟨σ',H',I,q⟩:=h;exact⟨σ',H',I.unwish,q⟩
 | brk=>obtain⟨σ',H',I,q⟩:=h;exact⟨σ',H',I.unwish,q⟩
 | cont=>obtain⟨σ',H',I,q⟩:=h;exact⟨σ',H',I.unwish,q⟩
 | ret u=>obtain⟨v,σ',H',I,r,q⟩:=h;exact⟨v,σ',H',I.unwish,r,q⟩
theorem PE.nox{e:qw}{t:TE}(h:PE X.nox e t):PE X e t:=λ aA s σ H Q I hw =>
 wpAny_mono (h aA s σ H Q (I.wish _) hw) (λ _ _ hPr0=>by obtain⟨v,H',I',r,q⟩:=hPr0;exact⟨v,H',I'.unwish,r,q⟩) λ _ _ z=>False.elim z
theorem PT.nox{e:qw}{t:TT}(h:PT X.nox e t):PT X e t:=λ aA s σ H Q I hw =>
 wpAny_mono (h aA s σ H Q (I.wish _) hw) (λ _ _ hPr1=>by obtain⟨H',I',q⟩:=hPr1;exact⟨H',I'.unwish,q⟩) λ _ _ z=>False.elim z
theorem bW.nox{st:List zy}{t:TS}(h:bW X.nox st t):bW X st t:=λ aA s σ H D I hw =>
 wpAny_mono (h aA s σ H D (I.wish _) hw) (λ _ _ q=>q.unwish) λ _ _ z=>False.elim z
end
section
variable {X : Cx}{st : zy}{bT : List zy}{t u : TS}{e : qw}{te : TE}{pos : Pos}
def aP5:TS:=λ D σ H=>D.nx σ H
def aRR(t u:TS):TS:=λ D σ H=>t {D with nx:=u D } σ H
theorem aBL:bW X [] aP5:=λ _ _ σ H _ I h=>wpAny_execs_nil ⟨σ,H,I,h⟩
theorem aBb(h1:PS X st t)(h2:bW X bT u):bW X (st::bT) (aRR t u):=by
 intro aA s σ H D I h;refine wpAny_execs_cons (aZ (h1 aA s σ H {D with nx:=u D } I h) λ f s1 q=>?_)
 cases f with
 | next =>
   obtain⟨σ',H',I',q⟩:=q;exact h2 aA s1 σ' H' D I' q
 | ret v=>exact q
 | brk=>exact q
 | cont=>exact q
theorem Inv.quiet{aA:List (qv×Obj)}{σ:St}{H:Hp}{s:qj}(I:Inv X aA σ H s):interactive X.env=false:=by simp[interactive,I.ok.kind]
def aPZ(te:TE):TS:=λ D σ H=>te σ H λ _ H1=>D.nx σ H1
theorem aFM(he:PE X e te)(hs:swapsWith e qz pos.line X.env=pure false:=by rfl):PS X (.Expr e pos) (aPZ te):=by
 intro aA s σ H D I h;exact wpAny_Expr_any (aZ (he aA s σ H _ I h) λ v s1 ⟨x,H1,I1,r1,q1⟩=>⟨σ,H1,I1,q1⟩) I.quiet hs
def aR9(te:TE):TS:=λ D σ H=>te σ H D.rt
theorem aN0(he:PE X e te):PS X (.Return (qq e) pos) (aR9 te):=by
 intro aA s σ H D I h;exact wpAny_Return_some (aZ (he aA s σ H _ I h) λ v s1 ⟨x,H1,I1,r1,q1⟩=>⟨x,σ,H1,I1,r1,q1⟩)
def aRU(c:TT)(t u:TS):TS:=λ D σ H=>c σ H λ b H1=>if b=true then t D σ H1 else u D σ H1
theorem aG7{c:qw}{a b:List zy}{tc:TT}(hc:PT X c tc)(ha:bW X a t)(hb:bW X b u):PS X (.If c a b pos) (aRU tc t u):=by
 intro aA s σ H D I h;refine wpAny_If (aZ (hc aA s σ H _ I h) λ d s1 hPq8=>?_)
 obtain⟨H1,I1,q1⟩:=hPq8;cases d with
 | true=>exact ha aA s1 σ H1 D I1 q1
 | false=>exact hb aA s1 σ H1 D I1 q1
end
abbrev TG:=V->St->Hp->(St->Hp->Prop)->Prop
abbrev iM:=List V->St->Hp->(St->Hp->Prop)->Prop
def PG(X:Cx)(target:qw)(t:TG):Prop:=
 ∀ (aA:List (qv×Obj)) (s:qj) (σ:St) (H:Hp) (v:V) (u:qx) (Q:St->Hp->Prop),Inv X aA σ H s->aX v u->t v σ H Q ->
  qu (model X.prog X.w) X.A (assign target X.env u) (λ _ s'=>∃ σ' H',Inv X aA σ' H' s'/\Q σ' H') X.xe s
def pP(X:Cx)(ts:List qw)(t:iM):Prop:=
 ∀ (aA:List (qv×Obj)) (s:qj) (σ:St) (H:Hp) (vs:List V) (us:List qx) (Q:St->Hp->Prop),Inv X aA σ H s->aT vs us->t vs σ H Q ->
  qu (model X.prog X.w) X.A (assignInOrder ((xj ts X.env).map (·.2)) us) (λ _ s'=>∃ σ' H',Inv X aA σ' H' s'/\Q σ' H') X.xe s
abbrev aCr:=V->V->V->Hp->(Hp->Prop)->Prop
def aHz(X:Cx)(t:aCr):Prop:=
 ∀ (aA:List (qv×Obj)) (s:qj) (σ:St) (H:Hp) (o i v:V) (ov iv u:qx) (Q:Hp->Prop),Inv X aA σ H s->aX o ov->aX i iv->aX v u->t o i v H Q ->
  qu (model X.prog X.w) X.A (setItem ov iv u) (λ _ s'=>∃ H',Inv X aA σ H' s'/\Q H') X.xe s
section
variable {X : Cx}{pos : Pos}
def mW(i:Nat):TG:=λ v σ H Q=>Q (σ.set i (qq v)) H
theorem aBt{i:Nat}{x:Str}(hN:X.N.Nodup)(hi:X.N[i]? = qq x)(hx:Loc X.env.scope x)(hf:X.fn x=true\/X.env.scope.names.lookup x=qq .local:=by first | exact .inl rfl | exact .inr rfl | assumption):PG X (.Name x pos) (mW i):=by
 intro aA s σ H v u Q I r h;exact wpAny_assign_Name (aBh I hN hi hx r (λ s' I'=>⟨_,H,I',h⟩) hf)
noncomputable def aCJ:iM:=λ vs σ H Q=>vs=[]/\Q σ H
noncomputable def aCo(t:TG)(u:iM):iM:=λ vs σ H Q=>∃ v r,vs=v::r/\t v σ H λ σ' H'=>u r σ' H' Q
theorem aLM:pP X [] aCJ:=by
 intro aA s σ H vs us Q I r h;obtain⟨e,h⟩:=h;subst e;cases r;exact assignInOrder_nil ⟨σ,H,I,h⟩
theorem aK3{e:qw}{es:List qw}{t:TG}{u:iM}(h1:PG X e t)(h2:pP X es u)
 (hs:(xj (e::es) X.env).map (·.2)=assign e X.env::(xj es X.env).map (·.2):=by rfl):pP X (e::es) (aCo t u):=by
 intro aA s σ H vs us Q I r h;obtain⟨v,vr,e1,h⟩:=h;subst e1;cases r with
 | cons r rr =>
   rw[hs];refine assignInOrder_cons (aZ (h1 aA s σ H _ _ _ I r h) λ _ s1 hPq9=>?_)
   obtain⟨σ1,H1,I1,q1⟩:=hPq9;exact h2 aA s1 σ1 H1 _ _ Q I1 rr q1
def aR2(K:FrG)(n:Nat)(t:iM):TG:=λ v σ H Q=>∃ a xs,v=.ref a/\bV K H a xs/\xs.length=n/\t xs σ H Q
theorem aM4{es:List qw}{k:Nat}{t:iM}{n:Nat}(hc:X.calm=true)(h:pP X es t)
 (hn:(xj es X.env).length=n:=by rfl) (dL:(xj es X.env).findIdx? (·.1)=qz:=by rfl):PG X (.Tuple es k pos) (aR2 X.K n t):=by
 intro aA s σ H v u Q I r hw;obtain⟨a,xs,e1,hq,hl,hw⟩:=hw;subst e1;cases r;obtain⟨its,rv,ht,hz⟩:=I.tuple hq;refine assign_Tuple_tuple (I.ok.hd hc) ht (by simp[hn,<- hl,rv.length]) dL λ h' hx=>?_
 have I1:Inv X aA σ H {s with heap:=h' }:=I.kept (t':=s.toks) λ b o e=>hx b o (xAh (xAa e)) e
 exact h aA _ σ H xs _ Q I1 (by simpa using rv) hw
def aHs(to ti:TE)(t:aCr):TG:=λ v σ H Q=>to σ H λ o H1=>ti σ H1 λ i H2=>t o i v H2 λ H3=>Q σ H3
theorem aPd{o i:qw}{to ti:TE}{t:aCr}(ho:PE X o to)(hi:PE X i ti)(hs:aHz X t)
 (ha:∀ v,assign (.Subscript o i pos) X.env v=(do
   let ov <- holding [v] (eval o X.env)
   let iv <- holding [v,ov] (eval i X.env)
   standAt pos
   holding [v,ov,iv] (setItem ov iv v)
   release [v,ov,iv] []):=by intro _;rfl):PG X (.Subscript o i pos) (aHs to ti t):=by
 intro aA s σ H v u Q I r h;rw[ha];refine wB (xq (aZ (ho aA s σ H _ I h) λ ov s1 hPq10=>?_))
 obtain⟨x,H1,I1,r1,q1⟩:=hPq10;refine wB (xq (aZ (hi aA s1 σ H1 _ I1 q1) λ iv s2 hPq11=>?_))
 obtain⟨y,H2,I2,r2,q2⟩:=hPq11;refine wB (vx (wB (xq (aZ (hs aA s2 σ H2 x y v ov iv u _ I2 r1 r2 r q2) λ _ s3 hPq12=>?_))))
 obtain⟨H3,I3,q3⟩:=hPq12;exact wpAny_release ⟨σ,H3,I3,q3⟩
def vG(te:TE)(g:TG):TS:=λ D σ H=>te σ H λ x H1=>g x σ H1 D.nx
theorem aGt{tg e:qw}{te:TE}{g:TG}(he:PE X e te)(hg:PG X tg g)(hs:swapsWithSole [tg] e pos.line X.env=pure false:=by rfl)(hw:yj [tg] e X.env=pure qz:=by rfl)
 (h1:(xj [tg] X.env).map (·.2)=[assign tg X.env]:=by rfl):PS X (.Assign [tg] e pos) (vG te g):=by
 intro aA s σ H D I h;refine wpAny_Assign_stores (aZ (he aA s σ H _ I h) λ v s1 hPq13=>?_) hs hw
 obtain⟨x,H1,I1,r1,q1⟩:=hPq13;rw[h1];exact aZ (hg aA s1 σ H1 x v _ I1 r1 q1) λ _ s2 q=>q
theorem aF0{i:Nat}{x:Str}{e:qw}{te:TE}{pos':Pos}(hN:X.N.Nodup)(hi:X.N[i]? = qq x)(hx:Loc X.env.scope x)(he:PE X e te)(hs:swapsWith e (qq (.Name x pos')) pos.line X.env=pure false:=by rfl)(hf:X.fn x=true\/X.env.scope.names.lookup x=qq .local:=by first | exact .inl rfl | exact .inr rfl | assumption) :
 PS X (.Assign [.Name x pos'] e pos) (vG te (mW i)):=by
 intro aA s σ H D I h;refine wpAny_Assign_Name (aZ (he aA s σ H _ I h) λ v s1 hPq14=>?_) hs
 obtain⟨y,H1,I1,r1,q1⟩:=hPq14;exact aBh I1 hN hi hx r1 (λ s2 I2=>⟨_,H1,I2,q1⟩) hf
end
section
variable {X : Cx}{pos : Pos}
end
structure It where
 go:Nat->Hp->Prop
 yld:Nat->Hp->V->Hp->Prop
 stop:Nat->Hp->Prop
def gY(X:Cx)(aA:List (qv×Obj))(H:Hp)(b:qv):Prop:=
 H b=qz/\b≠X.env.locals/\b ∉ X.fs/\(b∈X.ex\/X.s₀.heap.objs.size<=b)/\(∀ x c,X.env.cells.lookup x=qq c->c≠b)/\∀ p∈X.pn++aA,p.1≠b
theorem Inv.fpOk{X:Cx}{aA:List (qv×Obj)}{σ:St}{H H':Hp}{s:qj}{b:qv}(I:Inv X aA σ H s)(hb:s.heap.objs.size<=b)(hn:H' b=qz):gY X aA H' b:=by
 refine⟨hn,yEp (xAc I.lt hb),I.nofs hb,.inr (xAg I.sz hb),λ x c e z=>?_,λ p hp z=>?_⟩
 ·obtain⟨v,q⟩:=I.cell x c e;exact absurd (xAc q.lt (by rw[z];exact hb)) (yBi _)
 ·exact absurd (xAc (xAa (I.pin p hp).1) (by rw[z];exact hb)) (yBi _)
structure Turn(P:zq)(w:zx)(K:FrG)(tg:qw)(J:It)(fp:List qv)(it:qv)(tn:Nat->Heap->Prop):Prop where
 mem:it∈fp
 obj:∀ i h,tn i h->∀ b∈fp,∃ o,h.get? b=qq o/\∀ v,o.data≠.cell v
 keep:∀ i h h',tn i h->(∀ b∈fp,∀ o,h.get? b=qq o->h'.get? b=qq o)->tn i h'
 item:∀ (X:Cx),X.prog=P->X.w=w->X.K=K->X.calm=true->∀ (i:Nat) (aA:List (qv×Obj)) (s:qj) (σ:St) (H:Hp) (E:qx->qj->Prop),Inv X aA σ H s->(∀ b∈fp,gY X aA H b)->tn i s.heap->J.go i H ->
  qu (model P w) X.A (yk (.ref it)) (λ r s1=>∃ u,r=qq u /\
   qu (model P w) X.A (vj tg (.ref it) u) (λ _ s2=>∃ x H',Inv X aA σ H' s2/\aX x u/\J.yld i H x H'/\tn (i+1) s2.heap/\∀ b∈fp,H' b=qz) E s1) E s
 done:∀ (X:Cx),X.prog=P->X.w=w->X.K=K->X.calm=true->∀ (i:Nat) (aA:List (qv×Obj)) (s:qj) (σ:St) (H:Hp) (E:qx->qj->Prop),Inv X aA σ H s->(∀ b∈fp,gY X aA H b)->tn i s.heap->J.stop i H ->
  qu (model P w) X.A (yk (.ref it)) (λ r s1=>r=qz/\Inv X aA σ H s1) E s
 self:∀ (A:zv) (i:Nat) (s:qj) (Q:qx->qj->Prop) (E:qx->qj->Prop),tn i s.heap->Q (.ref it) s->qu (model P w) A (pyIter (.ref it)) Q E s
abbrev TI:=St->Hp->(It->Hp->Prop)->Prop
def PIE(X:Cx)(aA:List (qv×Obj))(σ:St)(tg:qw)(R:It->Hp->Prop)(itv:qx)(s2:qj):Prop:=
 ∃ (it:qv) (fp:List qv) (tn:Nat->Heap->Prop) (J:It) (H':Hp),itv=.ref it/\Inv X aA σ H' s2/\Turn X.prog X.w X.K tg J fp it tn/\tn 0 s2.heap/\(∀ b∈fp,gY X aA H' b)/\R J H'
def PI(X:Cx)(tg iter:qw)(wi:TI):Prop:=
 ∀ (aA:List (qv×Obj)) (s:qj) (σ:St) (H:Hp) (R:It->Hp->Prop),Inv X aA σ H s->wi σ H R ->
  qu (model X.prog X.w) X.A (eval iter X.env) (λ v s1=>qu (model X.prog X.w) X.A (pyIter v) (PIE X aA σ tg R) X.xe s1) X.xe s
theorem yS{M:Model}{A:zv}{E:qx->qj->Prop}{s:qj}{tg:qw}{it:qv}{u:qx}{o:Obj}{n:String}{vs:Array qx}{Q:Unit->qj->Prop}(ho:s.heap.get? it=qq o)(hc:o.cls=.type n)(hd:o.data=.fields vs)
 (hn:["enumerate", "zip", "dict_itemiterator", "dict_reverseitemiterator", "odict_iterator", "itertools.zip_longest", "itertools.pairwise"].contains n=false) (hQ:Q () s):qu M A (vj tg (.ref it) u) Q E s:=by
 unfold vj;cases tg<;>first
  | exact wP hQ
  | (cases u<;>first
      | exact wP hQ
      | (refine wB (wpAny_load ho ?_)
         rw[hc,hd];show qu M A (if (["enumerate", "zip", "dict_itemiterator", "dict_reverseitemiterator", "odict_iterator", "itertools.zip_longest", "itertools.pairwise"].contains n&&vs[0]?==qq (jy _))=true then _ else _) Q E s
         rw[if_neg (by intro h;rw[hn,yBn] at h;cases h)]
         exact wP hQ))
noncomputable def Itl(K:FrG)(a:qv):It:=
 ⟨λ i H=>∃ xs x,bR K H a xs/\xs[i]? = qq x,λ i H x H'=>H'=H/\∀ xs,bR K H a xs->xs[i]? = qq x,λ i H=>∃ xs,bR K H a xs/\xs.length<=i⟩
noncomputable def Itt(K:FrG)(a:qv):It:=
 ⟨λ i H=>∃ xs x,bV K H a xs/\xs[i]? = qq x,λ i H x H'=>H'=H/\∀ xs,bV K H a xs->xs[i]? = qq x,λ i H=>∃ xs,bV K H a xs/\xs.length<=i⟩
noncomputable def Itr(lo:Int)(n:Nat):It:=⟨λ i _=>i<n,λ i H x H'=>H'=H/\x=.int (lo+i),λ i _=>n<=i⟩
theorem aJN{P:zq}{w:zx}{K:FrG}{tg:qw}(a it:qv):Turn P w K tg (Itl K a) [it] it (λ i h=>h.IsListIter it a i) where
 mem:=by simp
 obj:=λ i h st b hb=>by
  have e:b=it:=by simpa using hb
  subst e;obtain⟨o,e,c,d⟩:=st;exact⟨o,e,λ v z=>by rw[d] at z;cases z⟩
 keep:=λ i h h' st k=>st.at λ o e=>k it (by simp) o e
 item:=by
  intro X hP hw hK hc i aA s σ H E I hf st hg;subst hP hw hK;obtain⟨xs,x,hq,hx⟩:=hg;obtain⟨its,rv,p,hz⟩:=I.list hq;obtain⟨u,hu,ru⟩:=rv.get hx;obtain⟨f0,f1,f2,f3,f4,f5⟩:=hf it (by simp)
  refine wq st p.isList (x:=u) (by simpa using hu) λ h' st' sb=>?_
  have I1:Inv X aA σ H {s with heap:=h' }:=I.turned (t':=s.toks) (λ b o hb e=>(sb.2 b hb).trans e) f0 f1 f3 f4 f5
  obtain⟨o,e,c,d⟩:=id st';exact⟨u,rfl,yS (s:={s with heap:=h' }) e c d (by decide) ⟨x,H,I1,ru,⟨rfl,λ ys hy=>by rw[I.list_inj hy hq];exact hx⟩,st',λ b hb=>(hf b hb).1⟩⟩
 done:=by
  intro X hP hw hK hc i aA s σ H E I hf st hg;subst hP hw hK;obtain⟨xs,hq,hx⟩:=hg;obtain⟨its,rv,p,hz⟩:=I.list hq;obtain⟨f0,f1,f2,f3,f4,f5⟩:=hf it (by simp)
  have hl:=rv.length;exact ww (I.ok.hd hc) st p.isList (by simp;omega) λ h' eb=>⟨rfl,I.turned (t':=s.toks) (λ b o hb e=>eb b o hb e) f0 f1 f3 f4 f5⟩
 self:=λ _ _ _ _ _ st h=>wpAny_pyIter_listiter st h
theorem aJl{P:zq}{w:zx}{K:FrG}{tg:qw}(a it:qv):Turn P w K tg (Itt K a) [it] it (λ i h=>h.IsTupleIter it a i) where
 mem:=by simp
 obj:=λ i h st b hb=>by
  have e:b=it:=by simpa using hb
  subst e;obtain⟨o,e,c,d⟩:=st;exact⟨o,e,λ v z=>by rw[d] at z;cases z⟩
 keep:=λ i h h' st k=>st.at λ o e=>k it (by simp) o e
 item:=by
  intro X hP hw hK hc i aA s σ H E I hf st hg;subst hP hw hK;obtain⟨xs,x,hq,hx⟩:=hg;obtain⟨its,rv,p,hz⟩:=I.tuple hq;obtain⟨u,hu,ru⟩:=rv.get hx;obtain⟨f0,f1,f2,f3,f4,f5⟩:=hf it (by simp)
  refine wpAny_pyNext_tuple_item st (show s.heap.IsTuple a its.toArray from p) (x:=u) (by simpa using hu) λ h' st' sb=>?_
  have I1:Inv X aA σ H {s with heap:=h' }:=I.turned (t':=s.toks) (λ b o hb e=>(sb.2 b hb).trans e) f0 f1 f3 f4 f5
  obtain⟨o,e,c,d⟩:=id st';exact⟨u,rfl,yS (s:={s with heap:=h' }) e c d (by decide) ⟨x,H,I1,ru,⟨rfl,λ ys hy=>by rw[I.tuple_inj hy hq];exact hx⟩,st',λ b hb=>(hf b hb).1⟩⟩
 done:=by
  intro X hP hw hK hc i aA s σ H E I hf st hg;subst hP hw hK;obtain⟨xs,hq,hx⟩:=hg;obtain⟨its,rv,p,hz⟩:=I.tuple hq;obtain⟨f0,f1,f2,f3,f4,f5⟩:=hf it (by simp)
  have hl:=rv.length;exact wpAny_pyNext_tuple_end (I.ok.hd hc) st (show s.heap.IsTuple a its.toArray from p) (by simp;omega) λ h' eb=>⟨rfl,I.turned (t':=s.toks) (λ b o hb e=>eb b o hb e) f0 f1 f3 f4 f5⟩
 self:=λ _ _ _ _ _ st h=>wpAny_pyIter_tupleiter st h
theorem aI0{P:zq}{w:zx}{K:FrG}{tg:qw}(it:qv)(lo:Int)(n:Nat):Turn P w K tg (Itr lo n) [it] it (λ i h=>IsRangeIter h it (lo+(i:Nat)*1) ((n:Int)-(i:Nat)) 1) where
 mem:=by simp
 obj:=λ i h st b hb=>by
  have e:b=it:=by simpa using hb
  subst e;exact⟨_,st,λ v z=>by
   have z':Data.fields _=Data.cell v:=z;cases z'⟩
 keep:=λ i h h' st k=>k it (by simp) _ st
 item:=by
  intro X hP hw hK hc i aA s σ H E I hf st hg;subst hP hw hK;obtain⟨f0,f1,f2,f3,f4,f5⟩:=hf it (by simp)
  have W:=Walks.range (prog:=X.prog) (w:=X.w) (I.ok.hd hc) it lo 1 n;refine W.item i s _ _ hg st λ v h' tk hv st' kk=>?_
  obtain⟨t,rfl⟩:=hv;have I1:Inv X aA σ H {s with heap:=h',toks:=tk }:=I.turned (λ b o hb e=>kk b o (by simpa using hb) e) f0 f1 f3 f4 f5
  refine⟨_,rfl,yS (s:={s with heap:=h',toks:=tk }) (n:="range_iterator") st' rfl rfl (by decide) ⟨.int (lo+i),H,I1,⟨t,?_⟩,⟨rfl,rfl⟩,st',λ b hb=>(hf b hb).1⟩⟩
  rw[Int.mul_one]
 done:=by
  intro X hP hw hK hc i aA s σ H E I hf st hg;subst hP hw hK;obtain⟨f0,f1,f2,f3,f4,f5⟩:=hf it (by simp)
  exact wpAny_pyNext_range_end (I.ok.hd hc) st (by have:n<=i:=hg;omega) λ h' eb=>⟨rfl,I.turned (t':=s.toks) (λ b o hb e=>eb b o hb e) f0 f1 f3 f4 f5⟩
 self:=λ _ _ _ _ _ st h=>wpAny_pyIter_rangeiter st h
end L2
namespace L2
open PySem PySem.Spec PyProof.Rows
section
variable {X : Cx}{tg : qw}
def aQe(K:FrG)(tl:TE):TI:=λ σ H R=>tl σ H λ x H1=>∃ a,x=.ref a/\(∃ xs,bR K H1 a xs)/\R (Itl K a) H1
def aRE(K:FrG)(tl:TE):TI:=λ σ H R=>tl σ H λ x H1=>∃ a,x=.ref a/\(∃ xs,bV K H1 a xs)/\R (Itt K a) H1
theorem aMG{l:qw}{tl:TE}(hl:PE X l tl):PI X tg l (aQe X.K tl):=by
 intro aA s σ H R I h;refine aZ (hl aA s σ H _ I h) λ v s1 hPq15=>?_
 obtain⟨x,H1,I1,r1,q1⟩:=hPq15;obtain⟨a,e,⟨xs,hq⟩,q⟩:=q1;subst e;cases r1;obtain⟨its,rv,p,hz⟩:=I1.list hq;refine ju p.isList ?_;refine⟨s1.heap.objs.size,[s1.heap.objs.size],_,_,H1,rfl,I1.kept (t':=s1.toks) λ b o e=>hpS _ e,aJN a _,⟨_,xAe _ rfl,rfl,rfl⟩,λ b hb=>?_,q⟩
 have e:b=s1.heap.objs.size:=by simpa using hb
 subst e;exact I1.fpOk (yAe _) (I1.hok.fresh (yAe _))
theorem aPj{l:qw}{tl:TE}(hl:PE X l tl):PI X tg l (aRE X.K tl):=by
 intro aA s σ H R I h;refine aZ (hl aA s σ H _ I h) λ v s1 hPq16=>?_
 obtain⟨x,H1,I1,r1,q1⟩:=hPq16;obtain⟨a,e,⟨xs,hq⟩,q⟩:=q1;subst e;cases r1;obtain⟨its,rv,p,hz⟩:=I1.tuple hq;refine vy (show s1.heap.IsTuple a its.toArray from p) ?_
 refine⟨s1.heap.objs.size,[s1.heap.objs.size],_,_,H1,rfl,I1.kept (t':=s1.toks) λ b o e=>hpS _ e,aJl a _,⟨_,xAe _ rfl,rfl,rfl⟩,λ b hb=>?_,q⟩
 have e:b=s1.heap.objs.size:=by simpa using hb
 subst e;exact I1.fpOk (yAe _) (I1.hok.fresh (yAe _))
theorem aLb{aA:List (qv×Obj)}{σ:St}{H:Hp}{s:qj}{R:It->Hp->Prop}{E:qx->qj->Prop}{lo hi:Int}{t u v:Tok}{tk:Nat}(I:Inv X aA σ H s)(h1 : -(2^62)<=lo)(h2:lo<2^62)(h3 : -(2^62)<=hi)(h4:hi<2^62)
 (q:R (Itr lo (hi-lo).toNat) H):qu (model X.prog X.w) X.A (pyIter (.ref s.heap.objs.size)) (PIE X aA σ tg R) E {s with heap:=s.heap.push {cls:=.type "range",data:=.fields #[.int lo t,.int hi u,.int 1 v] },toks:=tk }:=by
 refine wpAny_pyIter_range (IsRange.new ..) (small_one h1 h2 h3 h4) ?_;have I1:Inv X aA σ H {s with heap:=s.heap.push {cls:=.type "range",data:=.fields #[.int lo t,.int hi u,.int 1 v] },toks:=tk }:=I.kept λ b o e=>hpS _ e
 refine⟨(s.heap.push {cls:=.type "range",data:=.fields #[.int lo t,.int hi u,.int 1 v] }).objs.size,[(s.heap.push {cls:=.type "range",data:=.fields #[.int lo t,.int hi u,.int 1 v] }).objs.size],_,_,H,rfl,
  I1.kept (t':=tk) λ b o e=>hpS _ e,aI0 _ lo (hi-lo).toNat,?_,λ b hb=>?_,q⟩
 ·have e1:lo+((0:Nat):Int)*1=lo:=by simp
  have e2:(((hi-lo).toNat:Nat):Int)-((0:Nat):Int)=Builtin.Range.rangeSize lo hi 1:=by rw[rangeSize_one];split<;>omega
  show IsRangeIter _ _ (lo+((0:Nat):Int)*1) ((((hi-lo).toNat:Nat):Int)-((0:Nat):Int)) 1;rw[e1,e2];exact xAe _ rfl
 ·have e:b=(s.heap.push {cls:=.type "range",data:=.fields #[.int lo t,.int hi u,.int 1 v] }).objs.size:=by simpa using hb
  subst e;exact I1.fpOk (yAe _) (I1.hok.fresh (yAe _))
def aHh(ta:TA):TI:=λ σ H R=>ta σ H λ vs H1=>∃ j:Int,vs=[.int j] /\ -(2^62)<=j/\j<2^62/\R (Itr 0 j.toNat) H1
theorem aJJ{a:qw}{ta:TA}{p pos:Pos}(hg:Gl X "range")(hm:X.mg "range" = qz)(ha:PA X [a] ta)(hs:zj [a] X.env=[(false,eval a X.env)]:=by rfl):PI X tg (.Call (.Name "range" p) [a] [] pos) (aHh ta):=by
 intro aA s σ H R I h;refine Call_ (tW I hg hm boot_range (yDf (aZ (ha pos aA s σ H _ I h) λ us s1 hPq17=>?_) hs rfl))
 obtain⟨vs,H1,I1,r1,q1⟩:=hPq17;obtain⟨j,e,q1,q2,q⟩:=q1;subst e;cases r1 with
 | cons r rr =>
   cases rr;obtain⟨t,rfl⟩:=r;exact call_range_1 (aLb I1 (by omega) (by omega) q1 q2 (by simpa using q))
def aRX(wi:TI)(g:TG)(tb:TS):TS:=λ D σ H=>wi σ H λ J H1=>∃ W:Nat->Nat->St->Hp->Prop,(∃ m,W 0 m σ H1)/\∀ i m σ H,W i m σ H ->
 (J.stop i H/\D.nx σ H)\/(J.go i H/\∃ N:St->Hp->Prop,(∀ σ' H',N σ' H'->∃ m',m'<m/\W (i+1) m' σ' H')/\∀ x H',J.yld i H x H'->g x σ H' λ σ2 H2=>tb {D with nx:=N,ct:=N,bk:=D.nx } σ2 H2)
noncomputable def tP(fp:List qv)(h:Heap):List (qv×Obj):=fp.filterMap λ b=>(h.get? b).map λ o=>(b,o)
theorem sL{fp:List qv}{h:Heap}{b:qv}{o:Obj}(hb:b∈fp)(e:h.get? b=qq o):(b,o)∈tP fp h:=List.mem_filterMap.mpr ⟨b,hb,by rw[e];rfl⟩
theorem aJ4{fp:List qv}{h:Heap}{p:qv×Obj}(hp:p∈tP fp h):p.1∈fp/\h.get? p.1=qq p.2:=by
 obtain⟨b,hb,e⟩:=List.mem_filterMap.mp hp;cases q:h.get? b with
 | none=>rw[q] at e;cases e
 | some o =>
   rw[q] at e;have e':(b,o)=p:=Option.some.inj e;subst e';exact⟨hb,q⟩
theorem Inv.pinned{aA:List (qv×Obj)}{σ:St}{H:Hp}{s:qj}{fp:List qv}(I:Inv X aA σ H s)(hf:∀ b∈fp,gY X aA H b)(ho:∀ b∈fp,∃ o,s.heap.get? b=qq o/\∀ v,o.data≠.cell v):Inv X (aA++tP fp s.heap) σ H s:=
 I.pins_of λ p hp=>(List.mem_append.mp hp).elim (λ z=>I.pin p (xAk _ z)) λ z=>by
  obtain⟨hb,e⟩:=aJ4 z;obtain⟨f0,f1,f2,_⟩:=hf p.1 hb;obtain⟨o,e',d⟩:=ho p.1 hb;rw[e] at e';cases e';exact⟨e,f0,f1,f2,d⟩
theorem Inv.unpinned{aA pl:List (qv×Obj)}{σ:St}{H:Hp}{s:qj}(I:Inv X (aA++pl) σ H s):Inv X aA σ H s:=I.pins_of λ p hp=>I.pin p (xAk _ (yBx _ hp))
theorem aGo{iter:qw}{body:List zy}{wi:TI}{g:TG}{tb:TS}{pos:Pos}(hp:PassesOwn (model X.prog X.w) X.A X.env X.xe)(hc:X.calm=true)(hi:PI X tg iter wi)(hg:PG X tg g)(hb:bW X body tb)
 (hs:∀ x,jj iter X.env x=pure x:=by intro _;rfl):PS X (.For tg iter body [] pos) (aRX wi g tb):=by
 intro aA s σ H D I h;refine wpAny_For (aZ (hi aA s σ H _ I h) λ v s1 h1=>aZ h1 λ itv s2 h2=>?_) hs
 obtain⟨it,fp,tn,J,H2,e,I2,T,st2,f2,W,⟨m0,w0⟩,turn⟩:=h2;subst e;have stat:∀ {H':Hp},(∀ b∈fp,H' b=qz)->∀ b∈fp,gY X aA H' b:=λ hn b hb=>⟨hn b hb,(f2 b hb).2⟩
 refine codeAny_forLoop_any (λ n s'=>∃ i σ' H',Inv X aA σ' H' s'/\tn i s'.heap/\(∀ b∈fp,H' b=qz)/\W i n σ' H') ?_ m0 ⟨0,σ,H2,I2,st2,λ b hb=>(f2 b hb).1,w0⟩
 rintro n s3 ⟨i,σ3,H3,I3,st3,fr3,w3⟩;rcases turn i n σ3 H3 w3 with ⟨stop,qn⟩ | ⟨go,N,hN,step⟩
 ·refine vw hp (aZ (T.done X rfl rfl rfl hc i aA s3 σ3 H3 X.xe I3 (stat fr3) st3 stop) λ r s4 hPq18=>?_)
  obtain⟨hr,I4⟩:=hPq18;subst hr;exact wpAny_execs_nil ⟨σ3,H3,I4,qn⟩
 ·refine vw hp (aZ (T.item X rfl rfl rfl hc i aA s3 σ3 H3 X.xe I3 (stat fr3) st3 go) λ r s4 hPq19=>?_)
  obtain⟨u,hr,h4⟩:=hPq19;subst hr;refine vw hp (aZ h4 λ _ s5 hPq20=>?_)
  obtain⟨x,H5,I5,r5,y5,st5,fr5⟩:=hPq20;have I5':=I5.pinned (stat fr5) (T.obj _ _ st5);refine vw hp (aZ (hg _ s5 σ3 H5 x u _ I5' r5 (step x H5 y5)) λ _ s6 hPq21=>?_)
  obtain⟨σ6,H6,I6,q6⟩:=hPq21;refine vw hp (aZ (hb _ s6 σ6 H6 _ I6 q6) λ f s7 q7=>?_)
  have again:∀ {σ7:St}{H7:Hp},Inv X (aA++tP fp s5.heap) σ7 H7 s7->N σ7 H7->∃ m,m<n/\∃ i σ' H',Inv X aA σ' H' s7/\tn i s7.heap/\(∀ b∈fp,H' b=qz)/\W i m σ' H':=λ {σ7 H7} I7 n7=>by
   obtain⟨m',hm,w7⟩:=hN σ7 H7 n7;refine⟨m',hm,i+1,σ7,H7,I7.unpinned,T.keep _ _ _ st5 λ b hb o e=>(I7.pin (b,o) (xAk _ (xAk _ (sL hb e)))).1,λ b hb=>?_,w7⟩
   obtain⟨o,e,d⟩:=T.obj _ _ st5 b hb;exact(I7.pin (b,o) (xAk _ (xAk _ (sL hb e)))).2.1
  cases f with
  | next=>obtain⟨σ7,H7,I7,n7⟩:=q7;exact again I7 n7
  | cont=>obtain⟨σ7,H7,I7,n7⟩:=q7;exact again I7 n7
  | brk=>obtain⟨σ7,H7,I7,q7⟩:=q7;exact⟨σ7,H7,I7.unpinned,q7⟩
  | ret v=>obtain⟨x7,σ7,H7,I7,r7,q7⟩:=q7;exact⟨x7,σ7,H7,I7.unpinned,r7,q7⟩
end
end L2
namespace L2
open PySem PySem.Spec PyProof.Rows
abbrev R2:=V->V->Hp->VK->Prop
def cC(X:Cx)(f:qx->qx->Sem qx)(r:R2):Prop:=
 ∀ (aA:List (qv×Obj)) (s:qj) (σ:St) (H:Hp) (x y:V) (v u:qx) (Q:VK),Inv X aA σ H s->aX x v->aX y u->r x y H Q ->
  qu (model X.prog X.w) X.A (f v u) (EP X aA σ Q) X.xe s
def UnR(X:Cx)(f:qx->Sem qx)(r:V->Hp->VK->Prop):Prop:=
 ∀ (aA:List (qv×Obj)) (s:qj) (σ:St) (H:Hp) (x:V) (v:qx) (Q:VK),Inv X aA σ H s->aX x v->r x H Q ->
  qu (model X.prog X.w) X.A (f v) (EP X aA σ Q) X.xe s
def cN(X:Cx)(f:qx)(r:List V->Hp->VK->Prop):Prop:=
 ∀ (aA:List (qv×Obj)) (s:qj) (σ:St) (H:Hp) (xs:List V) (us:List qx) (Q:VK),Inv X aA σ H s->aT xs us->r xs H Q ->
  qu (model X.prog X.w) X.A (call f us) (EP X aA σ Q) X.xe s
def aRC(X:Cx)(r:V->Hp->(Bool->Hp->Prop)->Prop):Prop:=
 ∀ (aA:List (qv×Obj)) (s:qj) (σ:St) (H:Hp) (x:V) (v:qx) (Q:Bool->Hp->Prop),Inv X aA σ H s->aX x v->r x H Q ->
  qu (model X.prog X.w) X.A (truthy v) (TP X aA σ Q) X.xe s
def vW(r:R2)(ta tb:TE):TE:=λ σ H Q=>ta σ H λ x H1=>tb σ H1 λ y H2=>r x y H2 Q
def tUn(r:V->Hp->VK->Prop)(ta:TE):TE:=λ σ H Q=>ta σ H λ x H1=>r x H1 Q
noncomputable def rI(C:Int->Int->Prop)(g:Int->Int->V):R2:=λ x y H Q=>∃ i j,x=.int i/\y=.int j/\C i j/\Q (g i j) H
noncomputable def jH(g:Int->Int->V):R2:=λ x y H Q=>∃ i j,x=.int i/\y=.int j/\Q (g i j) H
noncomputable def rU(g:Int->V):V->Hp->VK->Prop:=λ x H Q=>∃ i,x=.int i/\Q (g i) H
section
variable {X : Cx}{a b c : qw}{ta tb tc : TE}{pos : Pos}
theorem aCT(ha:PE X a ta)(hb:PE X b tb){aA:List (qv×Obj)}{s:qj}{σ:St}{H:Hp}{R:V->V->Hp->Prop}(I:Inv X aA σ H s)
 (h:ta σ H λ x H1=>tb σ H1 λ y H2=>R x y H2) {Q:qx->qj->Prop}{f:qx->qx->Sem qx}
 (hf:∀ v u s2 x y H2,Inv X aA σ H2 s2->aX x v->aX y u->R x y H2->qu (model X.prog X.w) X.A (f v u) Q X.xe s2) :
 qu (model X.prog X.w) X.A (eval a X.env) (λ v s₁=>qu (model X.prog X.w) X.A (eval b X.env) (λ u s₂=>qu (model X.prog X.w) X.A (f v u) Q X.xe s₂) X.xe s₁) X.xe s:=by
 refine aZ (ha aA s σ H _ I h) λ v s1 hPq22=>?_
 obtain⟨x,H1,I1,r1,q1⟩:=hPq22;refine aZ (hb aA s1 σ H1 _ I1 q1) λ u s2 hPq23=>?_
 obtain⟨y,H2,I2,r2,q2⟩:=hPq23;exact hf v u s2 x y H2 I2 r1 r2 q2
theorem aGJ{op:vz}{r:R2}(ho:cC X (zk op) r)(ha:PE X a ta)(hb:PE X b tb):PE X (.BinOp a op b pos) (vW r ta tb):=by
 intro aA s σ H Q I h;exact wpAny_BinOp (aCT ha hb I h λ v u s2 x y H2 I2 rx ry q=>ho aA s2 σ H2 x y v u Q I2 rx ry q)
theorem aPT{op:yx}{r:V->Hp->VK->Prop}(ho:UnR X (unaryOp op) r)(ha:PE X a ta):PE X (.UnaryOp op a pos) (tUn r ta):=by
 intro aA s σ H Q I h;exact UnaryOp_ (aZ (ha aA s σ H _ I h) λ v s1 ⟨x,H1,I1,r1,q1⟩=>ho aA s1 σ H1 x v Q I1 r1 q1)
theorem wE{f:qx->qx->Sem qx}{C:Int->Int->Prop}{g:Int->Int->Int}
 (rule:∀ (i j:Int) (t u:Tok) (s:qj) (Q:qx->qj->Prop) (E:qx->qj->Prop),C i j->Q (.int (g i j) s.toks) {s with toks:=s.toks+1 }->qu (model X.prog X.w) X.A (f (.int i t) (.int j u)) Q E s) :
 cC X f (rI C λ i j=>.int (g i j)):=by
 intro aA s σ H x y v u Q I rx ry h;obtain⟨i,j,rfl,rfl,hc,q⟩:=h;obtain⟨t,rfl⟩:=rx;obtain⟨t',rfl⟩:=ry;exact rule i j t t' s _ _ hc ⟨.int (g i j),H,I.tok _,⟨_,rfl⟩,q⟩
theorem vF{f:qx->qx->Sem qx}{g:Int->Int->Int}
 (rule:∀ (i j:Int) (t u:Tok) (s:qj) (Q:qx->qj->Prop) (E:qx->qj->Prop),Q (.int (g i j) s.toks) {s with toks:=s.toks+1 }->qu (model X.prog X.w) X.A (f (.int i t) (.int j u)) Q E s) :
 cC X f (jH λ i j=>.int (g i j)):=by
 intro aA s σ H x y v u Q I rx ry h;obtain⟨i,j,rfl,rfl,q⟩:=h;obtain⟨t,rfl⟩:=rx;obtain⟨t',rfl⟩:=ry;exact rule i j t t' s _ _ ⟨.int (g i j),H,I.tok _,⟨_,rfl⟩,q⟩
theorem zF{f:qx->qx->Sem qx}{g:Int->Int->Bool}
 (rule:∀ (i j:Int) (t u:Tok) (s:qj) (Q:qx->qj->Prop) (E:qx->qj->Prop),Q (.bool (g i j)) s->qu (model X.prog X.w) X.A (f (.int i t) (.int j u)) Q E s) :
 cC X f (jH λ i j=>.bl (g i j)):=by
 intro aA s σ H x y v u Q I rx ry h;obtain⟨i,j,rfl,rfl,q⟩:=h;obtain⟨t,rfl⟩:=rx;obtain⟨t',rfl⟩:=ry;exact rule i j t t' s _ _ ⟨.bl (g i j),H,I,rfl,q⟩
def aRD(i j:Int):Prop:=0<=j/\j<=1000000/\i.natAbs<2^64
def aHl(i j:Int):Prop:=(-(2^64)<i/\i<2^64)\/(-(2^64)<j/\j<2^64)
theorem aHl.ok{i j:Int}(h:aHl i j):IntMulOk i j:=by
 rcases h with ⟨h1,h2⟩ | ⟨h1,h2⟩
 ·exact .of_left (intBits_le_64 h1 h2)
 ·exact .of_right (intBits_le_64 h1 h2)
theorem aIY(k:Nat):(0:Int)<=2^k:=by
 rw[two_pow_cast];exact Int.natCast_nonneg _
theorem aPt:cC X (zk .Add) (jH λ i j=>.int (i+j)):=vF λ _ _ _ _ _ _ _ q=>add_int q
theorem aNX:cC X (zk .Sub) (jH λ i j=>.int (i-j)):=vF λ _ _ _ _ _ _ _ q=>sub_int q
theorem aLm:cC X (zk .Mod) (rI (λ _ j=>j≠0) λ i j=>.int (i.fmod j)):=wE λ _ _ _ _ _ _ _ hc q=>mod_int' hc q
theorem aO1:cC X (zk .Pow) (rI aRD λ i j=>.int (i^j.toNat)):=wE λ _ _ _ _ _ _ _ hc q=>pow_int_small hc.1 hc.2.1 hc.2.2 q
theorem aOL:cC X (zk .RShift) (rI (λ _ j=>0<=j) λ i j=>.int (i/2^j.toNat)):=wE λ i j _ _ _ _ _ hc q =>
 rshift_int hc (by rw[Int.fdiv_eq_ediv_of_nonneg i (aIY _)];exact q)
theorem aNN:cC X (zk .BitAnd) (jH λ i j=>.int (Builtin.bitAnd i j)):=vF λ _ _ _ _ _ _ _ q=>and_int q
theorem aQ8:cC X (zk .BitOr) (jH λ i j=>.int (Builtin.bitOr i j)):=vF λ _ _ _ _ _ _ _ q=>or_int q
theorem aM2:cC X (zk .BitXor) (jH λ i j=>.int (Builtin.bitXor i j)):=vF λ _ _ _ _ _ _ _ q=>xor_int q
theorem unI{f:qx->Sem qx}{g:Int->Int}
 (rule:∀ (i:Int) (t:Tok) (s:qj) (Q:qx->qj->Prop) (E:qx->qj->Prop),Q (.int (g i) s.toks) {s with toks:=s.toks+1 }->qu (model X.prog X.w) X.A (f (.int i t)) Q E s) :
 UnR X f (rU λ i=>.int (g i)):=by
 intro aA s σ H x v Q I rx h;obtain⟨i,rfl,q⟩:=h;obtain⟨t,rfl⟩:=rx;exact rule i t s _ _ ⟨.int (g i),H,I.tok _,⟨_,rfl⟩,q⟩
theorem aOr:UnR X (unaryOp .USub) (rU λ i=>.int (-i)):=unI λ _ _ _ _ _ q=>neg_int q
theorem aNk:UnR X (unaryOp .Invert) (rU λ i=>.int (Builtin.bitNot i)):=unI λ _ _ _ _ _ q=>invert_int q
end
section
variable {X : Cx}{a b c : qw}{ta tb tc : TE}{pos : Pos}
theorem xU{aA:List (qv×Obj)}{σ:St}{H:Hp}{s:qj}{Q:VK}{k k':Bool}(I:Inv X aA σ H s)(q:Q (.bl k) H)(e:k=k'):EP X aA σ Q (.bool k') s:=by
 subst e;exact⟨.bl k,H,I,rfl,q⟩
theorem aQa:cC X (zo .Lt) (jH λ i j=>.bl (decide (i<j))):=zF λ _ _ _ _ _ _ _ q=>lt_int q
theorem aRd:cC X (zo .LtE) (jH λ i j=>.bl (decide (i<=j))):=zF λ _ _ _ _ _ _ _ q=>le_int q
theorem aQE:cC X (zo .Gt) (jH λ i j=>.bl (decide (j<i))):=zF λ _ _ _ _ _ _ _ q=>gt_int q
theorem aPN:cC X (zo .GtE) (jH λ i j=>.bl (decide (j<=i))):=zF λ _ _ _ _ _ _ _ q=>ge_int q
theorem aOc:cC X (zo .Is) (λ x y H Q=>y=.non/\Q (.bl (decide (x=.non))) H):=by
 intro aA s σ H x y v u Q I rx ry h;obtain⟨rfl,q⟩:=h;cases ry;refine is_none_gen (xU I q ?_);cases x<;>first
  | (cases rx;rfl)
  | (obtain⟨t,rfl⟩:=rx;rfl)
theorem aLQ:cC X (zo .IsNot) (λ x y H Q=>y=.non/\Q (.bl (!decide (x=.non))) H):=by
 intro aA s σ H x y v u Q I rx ry h;obtain⟨rfl,q⟩:=h;cases ry;refine isnot_none_gen (xU I q ?_);cases x<;>first
  | (cases rx;rfl)
  | (obtain⟨t,rfl⟩:=rx;rfl)
theorem cC.or{f:qx->qx->Sem qx}{r r':R2}(h:cC X f r)(h':cC X f r'):cC X f (λ x y H Q=>r x y H Q\/r' x y H Q):=by
 intro aA s σ H x y v u Q I rx ry q;rcases q with q | q
 ·exact h aA s σ H x y v u Q I rx ry q
 ·exact h' aA s σ H x y v u Q I rx ry q
theorem aSs(b:qw){op:jx}(h:op≠.In:=by decide)(h2:op≠.NotIn:=by decide):jv op b=false:=by
 have e1:(op==CmpOp.In)=false:=by cases op<;>first | rfl | exact absurd rfl h
 have e2:(op==CmpOp.NotIn)=false:=by cases op<;>first | rfl | exact absurd rfl h2
 cases b<;>simp[jv,e1,e2]
theorem aBy{op:jx}{r:R2}(ho:cC X (zo op) r)(ha:PE X a ta)(hb:PE X b tb)(hm:jv op b=false):PE X (.Compare a [op] [b] pos) (vW r ta tb):=by
 intro aA s σ H Q I h;exact wpAny_Compare1 (aCT ha hb I h λ v u s2 x y H2 I2 rx ry q=>ho aA s2 σ H2 x y v u Q I2 rx ry q) hm
def aHi(t:TE):TT:=λ σ H Q=>t σ H λ x H'=>∃ k,x=.bl k/\Q k H'
theorem aFW{op:jx}{r:R2}(ho:cC X (zo op) r)(ha:PE X a ta)(hb:PE X b tb)(hm:jv op b=false):PT X (.Compare a [op] [b] pos) (aHi (vW r ta tb)):=by
 intro aA s σ H Q I h;refine wpAny_isTrue_Compare1 (aZ (ha aA s σ H _ I h) λ v s1 ⟨x,H1,I1,r1,q1⟩=>aZ (hb aA s1 σ H1 _ I1 q1) λ u s2 ⟨y,H2,I2,r2,q2⟩ =>
  aZ (ho aA s2 σ H2 x y v u _ I2 r1 r2 q2) λ c s3 ⟨z,H3,I3,r3,k,e,q3⟩=>?_) hm
 subst e;cases r3;exact xw ⟨H3,I3,q3⟩
def aB1(r r':R2)(ta tb tc:TE):TE:=λ σ H Q=>ta σ H λ x H1=>tb σ H1 λ y H2=>r x y H2 λ z H3=>∃ k,z=.bl k /\
 (if k=true then tc σ H3 λ w' H4=>r' y w' H4 Q else Q (.bl false) H3)
theorem aLi{op op':jx}{r r':R2}(ho:cC X (zo op) r)(ho':cC X (zo op') r')(ha:PE X a ta)(hb:PE X b tb)(hc:PE X c tc)
 (hm:lastMarks [op,op'] [b,c]=false:=by with_unfolding_all rfl):PE X (.Compare a [op,op'] [b,c] pos) (aB1 r r' ta tb tc):=by
 intro aA s σ H Q I h;refine Compare_chain (aZ (ha aA s σ H _ I h) λ v s1 ⟨x,H1,I1,r1,q1⟩=>chain_link (aZ (hb aA s1 σ H1 _ I1 q1) λ u s2 ⟨y,H2,I2,r2,q2⟩ =>
  aZ (ho aA s2 σ H2 x y v u _ I2 r1 r2 q2) λ d s3 ⟨z,H3,I3,r3,k,e,q3⟩=>?_)) hm
 subst e;cases r3;refine xw ?_;cases k with
 | false=>exact ite_ff ⟨.bl false,H3,I3,rfl,q3⟩
 | true=>exact ite_tt (chain_last (aZ (hc aA s3 σ H3 _ I3 q3) λ w' s4 ⟨z',H4,I4,r4,q4⟩=>ho' aA s4 σ H4 y z' u w' Q I4 r2 r4 q4))
theorem aKy{op op':jx}{r r':R2}(ho:cC X (zo op) r)(ho':cC X (zo op') r')(ha:PE X a ta)(hb:PE X b tb)(hc:PE X c tc)
 (hm:lastMarks [op,op'] [b,c]=false:=by with_unfolding_all rfl):PT X (.Compare a [op,op'] [b,c] pos) (aHi (aB1 r r' ta tb tc)):=by
 intro aA s σ H Q I h;refine isTrue_chain (aZ (ha aA s σ H _ I h) λ v s1 ⟨x,H1,I1,r1,q1⟩=>test_link (aZ (hb aA s1 σ H1 _ I1 q1) λ u s2 ⟨y,H2,I2,r2,q2⟩ =>
  aZ (ho aA s2 σ H2 x y v u _ I2 r1 r2 q2) λ d s3 ⟨z,H3,I3,r3,k,e,q3⟩=>?_)) hm
 subst e;cases r3;refine xw ?_;cases k with
 | false =>
   obtain⟨k',e',q'⟩:=q3;cases e';exact ite_ff ⟨H3,I3,q'⟩
 | true =>
   refine ite_tt (test_last (aZ (hc aA s3 σ H3 _ I3 q3) λ w' s4 ⟨z',H4,I4,r4,q4⟩=>aZ (ho' aA s4 σ H4 y z' u w' _ I4 r2 r4 q4) λ d' s5 hPq24=>?_))
   obtain⟨z2,H5,I5,r5,k2,e2,q5⟩:=hPq24;subst e2;cases r5;exact xw ⟨H5,I5,q5⟩
def aCM(K:FrG)(x:V)(H:Hp)(k:Bool):Prop:=
 match x with
 | .non=>k=false
 | .bl b=>k=b
 | .int i=>k=(i != 0)
 | .str y=>y.length<=qk/\k=((y.length:Int) != 0)
 | .byt y=>y.size<=qk/\k=((y.size:Int) != 0)
 | .ref p=>(∃ xs,bR K H p xs/\k = !xs.isEmpty)\/(∃ xs,bV K H p xs/\k = !xs.isEmpty)\/∃ aK,H p=qq (.dK aK)/\k = !aK.isEmpty
 | _=>False
theorem aJj{κ:Type}{aK:List (κ×V)}{vs:List (κ×qx)}(r:KV aK vs):(!vs.isEmpty) = !aK.isEmpty:=by
 cases r<;>rfl
theorem aDJ{xs:List V}{its:List qx}(r:aT xs its):(!its.toArray.isEmpty) = !xs.isEmpty:=by
 cases r<;>simp
theorem oG:(qk:Nat)<2^63:=by rw[qo];decide
theorem aOI:aRC X (λ x H Q=>∃ k,aCM X.K x H k/\Q k H):=by
 intro aA s σ H x v Q I rx h;obtain⟨k,e,q⟩:=h;have hl:=oG;have hs:qk=16777216:=qo;cases x with
 | non =>
   cases rx;have e':k=false:=e;subst e';exact truthy_none ⟨H,I,q⟩
 | bl b =>
   cases rx;have e':k=b:=e;subst e';exact xw ⟨H,I,q⟩
 | int i =>
   obtain⟨t,rfl⟩:=rx;have e':k=(i != 0):=e;subst e';exact PySem.P.truthy_int ⟨H,I,q⟩
 | str y =>
   obtain⟨t,rfl⟩:=rx;obtain⟨hy,e'⟩:y.length<=qk/\k=((y.length:Int) != 0):=e;subst e';exact PySem.P.truthy_str (by omega) ⟨H,I.tok _,q⟩
 | byt y =>
   obtain⟨t,rfl⟩:=rx;obtain⟨hy,e'⟩:y.size<=qk/\k=((y.size:Int) != 0):=e;subst e';exact PySem.W.truthy_bytes (by omega) ⟨H,I.tok _,q⟩
 | ref p =>
   cases rx;have e':(∃ xs,bR X.K H p xs/\k = !xs.isEmpty)\/(∃ xs,bV X.K H p xs/\k = !xs.isEmpty)\/∃ aK,H p=qq (.dK aK)/\k = !aK.isEmpty:=e;rcases e' with ⟨xs,hx,e'⟩ | ⟨xs,hx,e'⟩ | ⟨aK,hx,e'⟩
   ·subst e';obtain⟨its,r,pl,hz⟩:=I.list hx;have cE:=r.length;exact wpAny_truthy_list pl.isList (by simp only[yAg];omega) ⟨H,I.tok _,by rw[aDJ r];exact q⟩
   ·subst e';obtain⟨its,r,pl,hz⟩:=I.tuple hx;have cE:=r.length;exact truthy_tuple pl (by simp only[yAg];omega) ⟨H,I.tok _,by rw[aDJ r];exact q⟩
   ·subst e';obtain⟨hz,hS,vs,r,m⟩:aK.length<=qk/\(p==sysModules)=false/\∃ vs,KV aK vs/\s.heap.DictOf (gS X.prog X.w) p vs:=I.hok p _ hx;have cE:aK.length=vs.length:=Paired.length r;exact wpAny_truthy_dict hS m (by omega) ⟨H,I.tok _,by rw[aJj r];exact q⟩
 | _=>exact(show False from e).elim
theorem aKx(ha:PE X a ta)(he:∀ eY,isTrue a X.env eY=(do let v <- eY;standAt a.pos;holding [v] (truthy v))) :
 PT X a (λ σ H Q=>ta σ H λ x H'=>∃ k,aCM X.K x H' k/\Q k H'):=by
 intro aA s σ H Q I h;exact isTrue_plain (aZ (ha aA s σ H _ I h) λ v s1 ⟨x,H1,I1,r1,q1⟩=>aOI aA s1 σ H1 x v Q I1 r1 q1) (he _)
theorem aI5:cC X (zk .Add) (λ x y H Q=>∃ i j,x=.str i/\y=.str j/\i.length+j.length<=qk/\Q (.str (i++j)) H):=by
 intro aA s σ H x y v u Q I rx ry h;obtain⟨i,j,rfl,rfl,hz,q⟩:=h;obtain⟨t,rfl⟩:=rx;obtain⟨t',rfl⟩:=ry;exact add_str (λ t' tk=>⟨.str (i++j),H,I.tok _,⟨_,rfl⟩,q⟩) hz
theorem fM{x:V}{us:List qx}(r:aT [x] us):∃ u,us=[u]/\aX x u:=by
 cases r with
 | cons r1 r2=>cases r2;exact⟨_,rfl,r1⟩
theorem uF{x y:V}{us:List qx}(r:aT [x,y] us):∃ u w',us=[u,w']/\aX x u/\aX y w':=by
 cases r with
 | cons r1 r2 =>
   cases r2 with
   | cons r3 r4=>cases r4;exact⟨_,_,rfl,r1,r3⟩
theorem aKL:cN X (.builtin "abs") (λ xs H Q=>∃ i,xs=[.int i]/\Q (.int (if i<0 then -i else i)) H):=by
 intro aA s σ H xs us Q I r h;obtain⟨i,rfl,q⟩:=h;obtain⟨u,rfl,t,rfl⟩:=fM r;exact call_abs_int λ u tk=>⟨.int (if i<0 then -i else i),H,I.tok _,⟨_,rfl⟩,q⟩
theorem aJy(hc:X.calm=true):cN X (.builtin "max") (λ xs H Q=>∃ i j,xs=[.int i,.int j]/\Q (.int (if j>i then j else i)) H):=by
 intro aA s σ H xs us Q I r h;obtain⟨i,j,rfl,q⟩:=h;obtain⟨u,w',rfl,⟨t,rfl⟩,⟨t',rfl⟩⟩:=uF r;refine max_two_ints (I.ok.hd hc) λ h' tk k=>⟨_,H,I.kept k,?_,q⟩
 by_cases hj:j>i
 ·rw[if_pos hj,if_pos hj];exact⟨_,rfl⟩
 ·rw[if_neg hj,if_neg hj];exact⟨_,rfl⟩
theorem aJ2(hc:X.calm=true):cN X (.builtin "min") (λ xs H Q=>∃ i j,xs=[.int i,.int j]/\Q (.int (if j<i then j else i)) H):=by
 intro aA s σ H xs us Q I r h;obtain⟨i,j,rfl,q⟩:=h;obtain⟨u,w',rfl,⟨t,rfl⟩,⟨t',rfl⟩⟩:=uF r;refine min_two_ints (I.ok.hd hc) λ h' tk k=>⟨_,H,I.kept k,?_,q⟩
 by_cases hj:j<i
 ·rw[if_pos hj,if_pos hj];exact⟨_,rfl⟩
 ·rw[if_neg hj,if_neg hj];exact⟨_,rfl⟩
theorem aEk:cN X (.type "int") (λ xs H Q=>(∃ i,xs=[.int i]/\Q (.int i) H)\/∃ k,xs=[.bl k]/\Q (.int (if k then 1 else 0)) H):=by
 intro aA s σ H xs us Q I r h;rcases h with ⟨i,rfl,q⟩ | ⟨k,rfl,q⟩
 ·obtain⟨u,rfl,t,rfl⟩:=fM r;exact call_int_int ⟨.int i,H,I,⟨_,rfl⟩,q⟩
 ·obtain⟨u,rfl,r1⟩:=fM r;cases r1;exact call_int_bool ⟨.int (if k then 1 else 0),H,I.tok _,⟨_,rfl⟩,q⟩
end
end L2
namespace L2
open PySem PySem.Spec PyProof.Rows
structure ObjM(h:Heap)(x dx C:qv)(mA:Str->Option qx):Prop where
 obj:h.get? x=qq (yCp C dx)
 ns:h.Ns1 dx mA
 ne:dx≠x
theorem aD7{h:Heap}{dx:qv}{mA:Str->Option qx}(n:h.Ns1 dx mA):∃ od,h.get? dx=qq od/\∀ name,yGa name od=qq (mA name):=by
 obtain⟨o,es,ep,ho,hd,hk,_,hm⟩:=n;refine⟨o,ho,λ name=>?_⟩
 have e:=hm name;unfold nsFind findBy at e;rw[<- yFl] at e;unfold yGa;rw[hd];dsimp only
 split
 ·rename_i y q;rw[q] at e;exact congrArg qq e
 ·rename_i q;rw[q] at e;have a:es.toList.any (·.refKey)=false:=by
   rw[List.any_eq_false];intro y hy;obtain⟨z,t,hkey⟩:=hk y (Array.mem_toList_iff.mp hy);simp[DictEntry.refKey,hkey]
  have a':¬ es.toList.any (·.refKey)=true:=by rw[a];exact yAu
  rw[if_neg a'];exact congrArg qq e
theorem ObjM.look{h:Heap}{x dx C:qv}{mA:Str->Option qx}(I:ObjM h x dx C mA):∃ od,yCg h x (yCp C dx) C (qq od)/\∀ name,yGa name od=qq (mA name):=
 let ⟨od,ho,hl⟩:=aD7 I.ns
 ⟨od,⟨I.obj,rfl,rfl,ho⟩,hl⟩
section
variable {prog : zq}{w : zx}{A : zv}{E : qx -> qj -> Prop}{s : qj}{K : FrG}{x dx C f : qv}{mA : Str -> Option qx}{name : Str}{v : qx}
end
theorem vK.some_of{v:V}{o:Option qx}(r:vK (qq v) o):∃ u,o=qq u/\aX v u:=by
 cases o with
 | none=>exact(show False from r).elim
 | some u=>exact⟨u,rfl,r⟩
section
variable {P : zq}{w : zx}{H H' : Hp}{h h' : Heap}{a C dx : qv}{fs fs' : List (Str×V)}
end
structure Cls(K:FrG)(C:qv):Prop where
 pg:PySem.W.plainGet K C Str.empty=true
 hd:PySem.W.hasDictIn K C=true
 po:PySem.W.plainOver K C=true
 sa:yEl K (.ref C) "__setattr__" = qq (qq (.builtin "object.__setattr__"))
theorem Cls.get{K:FrG}{C:qv}(c:Cls K C)(f:Str):PySem.W.plainGet K C f=true:=c.pg
structure Con(K:FrG)(C:qv)(f:Str)(v:V)(u:qx):Prop where
 at_:yEl K (.ref C) f=qq (qq u)
 rel:aX v u
 get:PySem.W.specialIn K u "__get__" = qq qz
 cp:PySem.W.copiedNames.contains f=false
structure Meth(K:FrG)(C:qv)(m:Str)(f:qv):Prop where
 at_:yEl K (.ref C) m=qq (qq (.ref f))
 fn:PySem.W.isFn K (.ref f)=true
 kp:yBw K (.ref f)=true
section
variable {X : Cx}{aA : List (qv×Obj)}{σ : St}{H : Hp}{s : qj}{a C dx : qv}{fs : List (Str×V)}{f : Str}{v : V}{A : zv}{E : qx -> qj -> Prop}
theorem Inv.made(I:Inv X aA σ H s):Inv X aA σ (aW (aW H s.heap.objs.size (.own (s.heap.objs.size+1))) (s.heap.objs.size+1) (.ins C s.heap.objs.size []))
 {s with heap:=(s.heap.push yBy).push (yCp C s.heap.objs.size) }:=by
 have e1:(s.heap.push yBy).get? s.heap.objs.size=qq yBy:=xAe s.heap rfl;have e2:((s.heap.push yBy).push (yCp C s.heap.objs.size)).get? (s.heap.objs.size+1)=qq (yCp C s.heap.objs.size):=by
  have:=xAe (s.heap.push yBy) (o:=yCp C s.heap.objs.size) rfl;rwa [yEm] at this
 have e3:(s.heap.push yBy).Ns s.heap.objs.size (λ _=>qz):=⟨yBy,#[],_,e1,rfl,(λ e he=>absurd he (by simp)),λ _=>rfl⟩
 have I1:=I.laid (a:=s.heap.objs.size) (o:=.own (s.heap.objs.size+1)) (h':=s.heap.push yBy) (t':=s.toks) (λ b u q=>hpS _ q) (yAe _) ⟨_,e1⟩
 refine I1.laid (a:=s.heap.objs.size+1) (o:=.ins C s.heap.objs.size []) (t':=s.toks) (λ b u q=>hpS _ q) (yEq (yEm _ _)) ?_
 have ne:s.heap.objs.size≠s.heap.objs.size+1:=xAh (yCz _);refine⟨by rw[bB ne,cA],yFe _,ne,e2,λ _=>qz,(Heap.Ns1.of_empty e3).at λ o q=>hpS _ q,λ _=>True.intro,λ y hy=>absurd rfl hy⟩
end
section
variable {X : Cx}{o e value : qw}{f : Str}{pos pos' tpos : Pos}{ta tv : TE}
end
section
variable {X : Cx}{aA : List (qv×Obj)}{σ : St}{H : Hp}{s : qj}{A : zv}{E : qx -> qj -> Prop}{Q : qx -> qj -> Prop}{c : qx}{b : Bool}
inductive TyOf (K:FrG) (H:Hp):V->qx->Prop where
 | non:TyOf K H .non (.type "NoneType")
 | bl (x:Bool):TyOf K H (.bl x) (.type "bool")
 | int (i:Int):TyOf K H (.int i) (.type "int")
 | str (x:Str):TyOf K H (.str x) (.type "str")
 | flt (x:UInt64):TyOf K H (.flt x) (.type "float")
 | lst {a:qv}{xs:List V} (e:H a=qq (.lst xs)):TyOf K H (.ref a) (.type "list")
 | frz {a:qv}{o:Obj}{xs:List V} (e:H a=qq (.frz o (.lst xs))):TyOf K H (.ref a) (.type "list")
 | tup {a:qv}{xs:List V} (e:H a=qq (.tup xs)):TyOf K H (.ref a) (.type "tuple")
 | dK {a:qv}{aK:List (fH×V)} (e:H a=qq (.dK aK)):TyOf K H (.ref a) (.type "dict")
 | dT {a:qv}{aK:List (List fH×V)} (e:H a=qq (.dT aK)):TyOf K H (.ref a) (.type "dict")
 | ins {a C dx:qv}{fs:List (Str×V)} (e:H a=qq (.ins C dx fs)) (cl:Cls K C) (ha:yEl K (.ref C) "__class__" = qq (qq (.builtin "object.__class__")))
    (hn:PySem.W.specialIn K (.builtin "object.__class__") "__get__" = qq (qq (.builtin "getset_descriptor.__get__"))) (htk:PySem.W.takesIn K (.builtin "object.__class__")=qq true)
    (hm:PySem.W.mroIn K C (.type "object")=qq true):TyOf K H (.ref a) (.ref C)
end
end L2
namespace L2
open PySem PySem.Spec PyProof.Rows
structure Room(k:Nat)(A:zv):Prop where
 hd:A.handled=qz
 dp:A.depth+3*k+5<recursionLimit
 un:A.units+16*k+200<cLine
theorem Room.mono{j k:Nat}{A:zv}(r:Room k A)(h:j<=k):Room j A:=⟨r.hd,by have:=r.dp;omega,by have:=r.un;omega⟩
theorem Room.deeper{k:Nat}{A:zv}(r:Room (k+1) A)(env:Env):Room k (A.deeper env):=
 ⟨r.hd,by have:=r.dp;show A.depth+1+3*k+5<_;omega,by have:=r.un;show A.units+3+16*k+200<_;omega⟩
theorem Room.in1{k:Nat}{A:zv}(r:Room (k+1) A):Room k A.in1:=
 ⟨r.hd,by have:=r.dp;show A.depth+3*k+5<_;omega,by have:=r.un;show A.units+1+16*k+200<_;omega⟩
theorem aIZ{A:zv}{C:qv}{us:List qx}{kw:List (Str×qx)}:(A.under (.builtin "type.__call__" ⟨.ref C::us,kw⟩)).depth=A.depth+1:=by
 first | rfl | simp[Around.under,Code.weight,Code.isCreation,Code.isGuard,Code.isCaller,Code.frames,Code.isFrame,guardIds]
theorem aI7{A:zv}{C:qv}{us:List qx}{kw:List (Str×qx)}:(A.under (.builtin "type.__call__" ⟨.ref C::us,kw⟩)).units=A.units+1:=by
 first | rfl | simp[Around.under,Code.cUnits,Code.frames,Code.isFrame]
theorem Room.make{k:Nat}{A:zv}(r:Room (k+1) A)(C:qv)(us:List qx)(kw:List (Str×qx)):Room k (A.under (.builtin "type.__call__" ⟨.ref C::us,kw⟩)):=
 ⟨r.hd,by have:=r.dp;rw[aIZ];omega,by have:=r.un;rw[aI7];omega⟩
theorem Room.depth{k:Nat}{A:zv}(r:Room k A):A.depth<recursionLimit:=by have:=r.dp;omega
theorem Room.units{k:Nat}{A:zv}(r:Room k A):A.units+64<cLine:=by have:=r.un;omega
def aHv:TA:=λ _ H Q=>Q [] H
def yV(ta:TE)(tr:TA):TA:=λ σ H Q=>ta σ H λ x H1=>tr σ H1 λ xs H2=>Q (x::xs) H2
section
variable {X : Cx}{e : qw}{es : List qw}{te : TE}{t : TA}{pos : Pos}
theorem qP:PA X [] aHv:=λ _ _ _ _ H Q I h=>Calls.spliced_nil ⟨[],H,I,.nil,h⟩
theorem kF(ha:PE X e te)(hr:PA X es t)(hs:zj (e::es) X.env=(false,eval e X.env)::zj es X.env:=by rfl):PA X (e::es) (yV te t):=by
 intro pos aA s σ H Q I h;rw[hs];show qu _ _ (spliced ((false,eval e X.env)::backTo pos (zj es X.env))) _ _ s;refine Calls.spliced_cons (aZ (ha aA s σ H _ I h) λ u s1 hPq25=>?_)
 obtain⟨x,H1,I1,r1,q1⟩:=hPq25;exact aZ (hr pos aA s1 σ H1 _ I1 q1) λ us s2 ⟨xs,H2,I2,r2,q2⟩=>⟨x::xs,H2,I2,.cons r1 r2,q2⟩
def aRx(t:TA):TE:=λ σ H Q=>t σ H λ xs H1=>xs.length<=qk/\∀ p,H1 p=qz->Q (.ref p) (aW H1 p (.tup xs))
def aRP(t:TA):TE:=λ σ H Q=>t σ H λ xs H1=>xs.length<=qk/\∀ p,H1 p=qz->Q (.ref p) (aW H1 p (.lst xs))
theorem aBN{x1}(h:PA X es t):PE X (.Tuple es x1 pos) (aRx t):=by
 intro aA s σ H Q I hq;refine wpAny_Tuple_spliced (aZ (h pos aA s σ H _ I hq) λ us s1 ⟨xs,H1,I1,r,z,q⟩=>⟨by rw[<- r.length];exact z,?_⟩)
 have hf:H1 s1.heap.objs.size=qz:=I1.hok.fresh (yAe _);refine⟨.ref s1.heap.objs.size,aW H1 s1.heap.objs.size (.tup xs),I1.laid (t':=s1.toks) (λ b u e=>hpS _ e) (yAe _) ?_,rfl,q _ hf⟩
 exact⟨z,us,r,⟨_,xAe _ rfl,rfl,_,rfl⟩⟩
theorem aOt(h:PA X es t):PE X (.List es pos) (aRP t):=by
 intro aA s σ H Q I hq;refine wpAny_List_spliced (aZ (h pos aA s σ H _ I hq) λ us s1 ⟨xs,H1,I1,r,z,q⟩=>⟨by rw[<- r.length];exact z,?_⟩)
 have hf:H1 s1.heap.objs.size=qz:=I1.hok.fresh (yAe _);refine⟨.ref s1.heap.objs.size,aW H1 s1.heap.objs.size (.lst xs),I1.laid (t':=s1.toks) (λ b u e=>hpS _ e) (yAe _) ?_,rfl,q _ hf⟩
 exact⟨z,us,0,r,xAe _ rfl⟩
end
abbrev Sp:=List V->Hp->VK->XK->Prop
abbrev iL:=List Env->Hp->qj->XK->qx->qj->Prop
structure Env0(P:zq)(w:zx)(K:FrG)(mg:Str->Option qx)(base:Heap)(A:zv)(outer:List Env)(s:qj)(H:Hp):Prop where
 frames:A.frames=qq outer
 mod:Mod K mg base
 bs:∀ b o,base.get? b=qq o->s.heap.get? b=qq o/\H b=qz
 bsz:base.objs.size<=s.heap.objs.size
 funs:s.heap.FunFrames base outer
 frf:∀ b∈dQ outer,H b=qz
 hok:dD P w H s.heap
 bare:AllBare s.gens
def CE(outer:List Env)(P:zq)(w:zx)(H:Hp)(s:qj)(Q:VK)(u:qx)(s':qj):Prop:=
 ∃ v H',s'.os=s.os/\AllBare s'.gens/\Un (dQ outer) [] H H' s.heap s'.heap/\dD P w H' s'.heap/\aX v u/\Q v H'
def CR(CX:iL)(outer:List Env)(P:zq)(w:zx)(H:Hp)(s:qj)(Q:VK)(E:XK)(r:Result)(s':qj):Prop:=
 match r with
 | .ok (.ret u)=>CE outer P w H s Q u s'
 | .ok _=>False
 | .error e=>CX outer H s E e s'
structure FnOk(P:zq)(w:zx)(K:FrG)(mg:Str->Option qx)(base:Heap)(CX:iL)(k:Nat)(f:qv)(fd:jz)(ps:List Str)(sp:Sp):Prop where
 len:∀ vs H Q E,sp vs H Q E->vs.length=ps.length
 run:∀ (A:zv) (outer:List Env) (s:qj) (H:Hp) (args:Args) (us:List qx) (vs:List V) (Q:VK) (E:XK),Room k A->Env0 P w K mg base A outer s H->BindsTo s fd args (ps.zip us)->aT vs us->sp vs H Q E ->
  vo (model P w) A (.call (.ref f) args) (CR CX outer P w H s Q E) s
theorem FnOk.mono{P:zq}{w:zx}{K:FrG}{mg:Str->Option qx}{base:Heap}{CX:iL}{j k:Nat}{f:qv}{fd:jz}{ps:List Str}{sp:Sp}(F:FnOk P w K mg base CX j f fd ps sp)(h:j<=k) :
 FnOk P w K mg base CX k f fd ps sp:=⟨F.len,λ A outer s H args us vs Q E hr=>F.run A outer s H args us vs Q E (hr.mono h)⟩
theorem Env0.make{P:zq}{w:zx}{K:FrG}{mg:Str->Option qx}{base:Heap}{A:zv}{outer:List Env}{s:qj}{H:Hp}(e:Env0 P w K mg base A outer s H)(C:qv)(us:List qx)(kw:List (Str×qx)) :
 Env0 P w K mg base (A.under (.builtin "type.__call__" ⟨.ref C::us,kw⟩)) outer s H:=⟨by first | exact e.frames | (simpa [Around.under,Code.envs,Code.isFrame,pushEnvs] using e.frames),e.mod,e.bs,e.bsz,e.funs,e.frf,e.hok,e.bare⟩
theorem Env0.in1{P:zq}{w:zx}{K:FrG}{mg:Str->Option qx}{base:Heap}{A:zv}{outer:List Env}{s:qj}{H:Hp}(e:Env0 P w K mg base A outer s H) :
 Env0 P w K mg base A.in1 outer s H:=⟨e.frames,e.mod,e.bs,e.bsz,e.funs,e.frf,e.hok,e.bare⟩
section
variable {X : Cx}{aA : List (qv×Obj)}{σ : St}{H : Hp}{s s' : qj}
theorem Inv.env0(I:Inv X aA σ H s):Env0 X.prog X.w X.K X.mg X.base X.A X.stack s H:=
 ⟨I.ok.frames,I.ok.mod,I.bs,xAg I.ok.bsz I.sz,I.stack,I.stkFree,I.hok,I.bare⟩
theorem Inv.after{Q:VK}{u:qx}(I:Inv X aA σ H s)(h:CE X.stack X.prog X.w H s Q u s'):EP X aA σ Q u s':=by
 obtain⟨v,H',os,bare,un,hok,r,q⟩:=h;obtain⟨hh,g,d,t,os'⟩:=s';obtain rfl:os'=s.os:=os;exact⟨v,H',I.call (h':=hh) (g':=g) (d':=d) (t':=t) (ch:=[]) un hok bare (λ b z=>absurd z (by simp)),r,q⟩
end
def yN(sp:Sp)(dvs:List V)(E:XK)(t:TA):TE:=λ σ H Q=>t σ H λ vs H1=>sp (vs++dvs) H1 Q E
def eA(K:FrG)(fd:jz)(ps:List Str)(ds:List qx):Prop:=
 ∀ (s:qj) (us:List qx),K.In s.heap->(us++ds).length=ps.length->BindsTo s fd ⟨us,[]⟩ (ps.zip (us++ds))
theorem eA.all{K:FrG}{fd:jz}{ps:List Str}(h:∀ us:List qx,us.length=ps.length->bindArgs fd ⟨us,[]⟩=pure (ps.zip us)):eA K fd ps []:=λ s us _ hl=>by
 rw[yAv] at hl ⊢;exact .of_eq (h us hl)
def xR(CX:iL)(X:Cx)(E:XK):Prop:=∀ (aA:List (qv×Obj)) (σ:St) (H:Hp) (s:qj) (e:qx) (s':qj),Inv X aA σ H s->CX X.stack H s E e s'->X.xe e s'
section
variable {X : Cx}{CX : iL}{k : Nat}{f C : qv}{fd : jz}{ps : List Str}{sp : Sp}{dvs : List V}{ds : List qx}{E : XK}{x m : Str}{p pos apos : Pos}{e o : qw}{es : List qw}{ta : TE}{t : TA}
theorem aF3{aA:List (qv×Obj)}{σ:St}{H:Hp}{s:qj}{Q:VK}{us:List qx}{vs:List V}(F:FnOk X.prog X.w X.K X.mg X.base CX k f fd ps sp)(hr:Room k X.A)(hb:eA X.K fd ps ds)(hd:aT dvs ds)(hx:xR CX X E)
 (I:Inv X aA σ H s) (r:aT vs us) (h:sp (vs++dvs) H Q E):qu (model X.prog X.w) X.A (call (.ref f) us) (EP X aA σ Q) X.xe s:=by
 have r2:aT (vs++dvs) (us++ds):=r.append hd;have hl:(us++ds).length=ps.length:=by rw[<- r2.length];exact F.len _ _ _ _ h
 refine wpAny_call (codeAny_mono (F.run X.A X.stack s H ⟨us,[]⟩ (us++ds) (vs++dvs) Q E hr I.env0 (hb s us I.kIn hl) r2 h) λ r s' hq=>?_)
 cases r with
 | error e=>exact hx aA σ H s e s' I hq
 | ok fl =>
   cases fl with
   | ret u=>exact I.after hq
   | next=>exact False.elim hq
   | brk=>exact False.elim hq
   | cont=>exact False.elim hq
theorem aLp(F:FnOk X.prog X.w X.K X.mg X.base CX k f fd ps sp)(hr:Room k X.A)(hg:Gl X x)(hm:X.mg x=qq (.ref f))(hk:yBw X.K (.ref f)=true)(hb:eA X.K fd ps ds)(hd:aT dvs ds)(hx:xR CX X E)
 (ha:PA X (e::es) t) (hdb:(x==("__debug__" : Str))=false:=by decide) (he:zj (e::es) X.env=(false,eval e X.env)::zj es X.env:=by rfl) (hpl:(backTo pos (zj es X.env)).any (·.1)=false:=by rfl) :
 PE X (.Call (.Name x p) (e::es) [] pos) (yN sp dvs E t):=by
 intro aA s σ H Q I h;refine jq (lE I hg hm ?_ hdb);refine yEb (h₀:=X.base) I.ok.mod.kin hk (aZ (ha pos aA s σ H _ I h) λ us s1 ⟨vs,H1,I1,r,q⟩=>⟨I1.kIn,?_⟩) he hpl
 exact aF3 F hr hb hd hx I1 r q
theorem aLj(F:FnOk X.prog X.w X.K X.mg X.base CX k f fd ps sp)(hr:Room k X.A)(hg:Gl X x)(hm:X.mg x=qq (.ref f))(hk:yBw X.K (.ref f)=true)(hb:eA X.K fd ps ds)(hd:aT dvs ds)(hx:xR CX X E)
 (hdb:(x==("__debug__" : Str))=false:=by decide):PE X (.Call (.Name x p) [] [] pos) (yN sp dvs E aHv):=by
 intro aA s σ H Q I h;refine jq (lE I hg hm ?_ hdb);exact PySem.W.callWith_K0 I.kIn hk (aF3 (us:=[]) F hr hb hd hx I .nil h)
structure Mk(K:FrG)(C f:qv):Prop where
 makes:PySem.W.makesIn K C=true
 init:yEl K (.ref C) "__init__" = qq (qq (.ref f))
 fn:PySem.W.isFn K (.ref f)=true
 kp:yBw K (.ref C)=true
end
section
variable {X : Cx}{CX : iL}{k : Nat}{f C : qv}{fd : jz}{ps ks : List Str}{sp : Sp}{E : XK}{x m : Str}{p pos apos kpos : Pos}{e o : qw}{es : List qw}{kws : List Keyword}{te ta : TE}{t tk : TA}{nm : Option Str}
structure KBinds(K:FrG)(fd:jz)(ps ks:List Str)(g:List qx->List qx->List qx)(gV:List V->List V->List V):Prop where
 to:∀ (s:qj) (us ws:List qx),K.In s.heap->(g us ws).length=ps.length->BindsTo s fd ⟨us,ks.zip ws⟩ (ps.zip (g us ws))
 rel:∀ {vs:List V}{us:List qx}{zs:List V}{ws:List qx},aT vs us->aT zs ws->aT (gV vs zs) (g us ws)
variable {g : List qx -> List qx -> List qx}{gV : List V -> List V -> List V}
end
structure FnScope(N P:List Str)(sc:zw):Prop where
 kind:sc.kind=.function
 co:sc.isCoroutine=false
 gen:sc.isGenerator=false
 nd:N.Nodup
 pre:N.take P.length=P
 par:∀ x∈P,sc.names.lookup x=qq .local\/sc.names.lookup x=qq .cell
 nofree:∀ y∈sc.names,y.2≠.free
theorem aDW{kindOf:Str->Option jo}{x:Str}:∀ {binds:List (Str×qx)}{m:Str->Option qx},(∀ v,(x,v) ∉ binds)->bindL kindOf binds m x=m x
 | [],_,_=>rfl
 | (n,v)::r,m,h=>by
   unfold bindL;rw[aDW λ w hw=>h w (xAf _ hw)]
   split
   ·have:x≠n:=by rintro rfl;exact h v xAd
    simp[this]
   ·rfl
theorem aEh{kindOf:Str->Option jo}{x:Str}:∀ {binds:List (Str×qx)}{m:Str->Option qx},(∀ v,(x,v) ∉ binds)->bindC kindOf binds m x=m x
 | [],_,_=>rfl
 | (n,v)::r,m,h=>by
   unfold bindC;rw[aEh λ w hw=>h w (xAf _ hw)]
   split
   ·rfl
   ·have:x≠n:=by rintro rfl;exact h v xAd
    simp[this]
theorem aD0{kindOf:Str->Option jo}{x:Str}{v:qx}:∀ {P:List Str}{vs:List qx}{i:Nat}{m:Str->Option qx},P.Nodup->P[i]? = qq x->vs[i]? = qq v->kindOf x=qq .local ->
 bindL kindOf (P.zip vs) m x=qq v
 | [],_,_,_,_,h,_,_=>by simp at h
 | _::_,[],_,_,_,_,h,_=>by simp at h
 | p::P,w::vs,0,m,nd,h1,h2,hk=>by
   simp at h1 h2;subst h1;subst h2;show bindL kindOf ((p,w)::P.zip vs) m p=_;unfold bindL;rw[aDW λ v hv=>(List.nodup_cons.mp nd).1 (List.of_mem_zip hv).1,if_pos hk]
   simp
 | p::P,w::vs,i+1,m,nd,h1,h2,hk=>by
   show bindL kindOf ((p,w)::P.zip vs) m x=_;unfold bindL;exact aD0 (i:=i) (List.nodup_cons.mp nd).2 (by simpa using h1) (by simpa using h2) hk
theorem aEc{kindOf:Str->Option jo}{x:Str}{v:qx}:∀ {P:List Str}{vs:List qx}{i:Nat}{m:Str->Option qx},P.Nodup->P[i]? = qq x->vs[i]? = qq v->kindOf x≠qq .local ->
 bindC kindOf (P.zip vs) m x=qq v
 | [],_,_,_,_,h,_,_=>by simp at h
 | _::_,[],_,_,_,_,h,_=>by simp at h
 | p::P,w::vs,0,m,nd,h1,h2,hk=>by
   simp at h1 h2;subst h1;subst h2;show bindC kindOf ((p,w)::P.zip vs) m p=_;unfold bindC;rw[aEh λ v hv=>(List.nodup_cons.mp nd).1 (List.of_mem_zip hv).1,if_neg hk]
   simp
 | p::P,w::vs,i+1,m,nd,h1,h2,hk=>by
   show bindC kindOf ((p,w)::P.zip vs) m x=_;unfold bindC;exact aEc (i:=i) (List.nodup_cons.mp nd).2 (by simpa using h1) (by simpa using h2) hk
noncomputable def start(N:List Str)(vs:List V):St:=vs.map qq++yAh (N.length-vs.length) qz
noncomputable def iG(CX:iL)(P:zq)(w:zx)(K:FrG)(mg:Str->Option qx)(base:Heap)(N:List Str)(bN:Str)(scope:zw)(f:qv)(cd:qx)(A:zv)(outer:List Env)(s:qj)(H:Hp)(E:XK):Cx where
 prog:=P
 w:=w
 K:=K
 mg:=mg
 base:=base
 A:=A.deeper (envOfC bN scope s.heap.objs.size f cd)
 N:=N
 s₀:=s
 H₀:=H
 env:=envOfC bN scope s.heap.objs.size f cd
 outer:=outer
 stack:=envOfC bN scope s.heap.objs.size f cd::outer
 ex:=[]
 calm:=true
 fn:=λ _=>true
 pn:=[]
 xe:=λ e s'=>qu (model P w) (A.deeper (envOfC bN scope s.heap.objs.size f cd)) (leaving (envOfC bN scope s.heap.objs.size f cd) e) (λ _ s''=>CX outer H s E e s'') (λ e' s''=>CX outer H s E e' s'') s'
theorem aEP{sc:zw}{n:Nat}{x:Str}(h:sc.names.lookup x=qq .cell):∃ c,(cellsFrom n sc.names []).lookup x=qq c:=by
 have q:=PySem.W.cellsFrom_some sc.names n [] (.inl h);exact Option.isSome_iff_exists.mp q
theorem aJz{CX:iL}{P:zq}{w:zx}{K:FrG}{mg:Str->Option qx}{base:Heap}{N ps:List Str}{bN:Str}{scope:zw}{f:qv}{cd:qx}{A:zv}{outer:List Env}{s s1:qj}{H:Hp}{E:XK}{us:List qx}{vs:List V}
 (S:FnScope N ps scope) (hd:A.handled=qz) (e0:Env0 P w K mg base A outer s H) (hl:vs.length=ps.length) (r:aT vs us)
 (x:InCallC s s.heap.objs.size (bindL (envOfC bN scope s.heap.objs.size f cd).kindOf (ps.zip us) λ _=>qz) (cellsFrom (s.heap.objs.size+1) scope.names []) (bindC (envOfC bN scope s.heap.objs.size f cd).kindOf (ps.zip us) λ _=>qz) s1) :
 Inv (iG CX P w K mg base N bN scope f cd A outer s H E) [] (start N vs) H s1:=by
 have hpl:ps.length<=N.length:=by have:=congrArg yFq S.pre;rw[yAy] at this;omega
 obtain⟨h1,tk,rfl,hk⟩:=x.done;have noA:∀ b:qv,b ∉ (iG CX P w K mg base N bN scope f cd A outer s H E).ex:=λ b z=>absurd (show b∈([]:List qv) from z) (by simp)
 refine⟨⟨e0.mod,S.kind,rfl,rfl,yAe _,λ y z c h1 h2=>?_,λ y hy=>?_,λ y c _ h=>?_,λ _=>hd,Around.frames_deeper e0.frames,.inr ⟨rfl,rfl⟩,λ b z=>absurd z (noA b),e0.bs,e0.bsz,λ b _ _=>noA b,λ b z=>absurd z (noA b),e0.funs,e0.frf⟩,
  rfl,e0.bare,Un.kept hk,⟨_,x.toInCall.ns,λ i y v h1 h2 h3=>?_⟩,λ y c h=>⟨_,x.cell y c h⟩,e0.hok.fresh (yAe _),λ y c h=>?_,λ p hp=>absurd (show p∈([]:List (qv×Obj)) from hp) (by simp),e0.hok.kept hk,?_⟩
 ·exact name_of_addr x.apart (PySem.mem_of_lookup h1) (PySem.mem_of_lookup h2)
 ·have hy:scope.names.lookup y=qq .cell\/scope.names.lookup y=qq .free:=hy;rcases hy with hy | hy
  ·exact aEP hy
  ·exact absurd rfl (S.nofree _ (PySem.mem_of_lookup hy))
 ·exact yEo (x.above y c (PySem.mem_of_lookup h))
 ·have hi:i<vs.length:=by
   unfold start at h2
   by_cases hi:i<vs.length
   ·exact hi
   ·rw[yAd (by simpa using hi)] at h2
    rw[List.getElem?_replicate] at h2
    split at h2<;>cases h2
  have ha:vs[i]? = qq v:=by
   unfold start at h2;rw[xAj (by simpa using hi),xAb] at h2
   cases e:vs[i]? with
   | none=>rw[e] at h2;cases h2
   | some a=>rw[e] at h2;cases h2;rfl
  obtain⟨u,hu,rv⟩:=r.get ha;have hp:ps[i]? = qq y:=by
   rw[<- S.pre,yDx (by omega)];exact h1
  have ndP:ps.Nodup:=by rw[<- S.pre];exact S.nd.sublist (List.take_sublist _ _)
  refine⟨u,rv,?_⟩;rcases S.par y (xAi hp) with k | k
  ·exact .inl ⟨k,aD0 ndP hp hu k⟩
  ·obtain⟨c,e⟩:=aEP (n:=s.heap.objs.size+1) k;refine .inr ⟨.inl k,c,e,?_⟩;have q:=x.cell y c e;rw[aEc ndP hp hu (by show scope.names.lookup y≠_;rw[k];decide)] at q
   exact q
 ·exact e0.hok.fresh (yEo (x.above y c (PySem.mem_of_lookup h)))
 ·unfold start;show _=N.length;rw[yAr,yAb,yDg];omega
theorem aGV{CX:iL}{P:zq}{w:zx}{K:FrG}{mg:Str->Option qx}{base:Heap}{k:Nat}{f:qv}{name bN:Str}{params:Arguments}{body:List zy}{scope:zw}{dV kV doc pm cdv ct oc:qx}{an od:Option qv}
 {osl:Array (Option qx)}{N ps:List Str}{sp:Sp} (lk:K.lookup f=qq ⟨oc,od,.func (yCa name bN params body scope dV kV doc pm an cdv ct),osl⟩) (hcd:yDu K cdv bN=true) (S:FnScope N ps scope)
 (len:∀ vs H Q E,sp vs H Q E->vs.length=ps.length)
 (hbody:∀ (A:zv) (outer:List Env) (s:qj) (H:Hp) (vs:List V) (Q:VK) (E:XK),Room k (A.deeper (envOfC bN scope s.heap.objs.size f cdv))->sp vs H Q E ->
   ∃ t,bW (iG CX P w K mg base N bN scope f cdv A outer s H E) body t/\t {nx:=λ _ H'=>Q .non H',rt:=Q } (start N vs) H) :
 FnOk P w K mg base CX (k+1) f (yCa name bN params body scope dV kV doc pm an cdv ct) ps sp:=by
 refine⟨len,λ A outer s H args us vs Q E hr e0 hb r hsp=>?_⟩
 have hl:=len _ _ _ _ hsp;have KX:K.In s.heap:=e0.mod.kin.keeps λ b o e=>(e0.bs b o e).1
 have lim:s.heap.NoLimit:=e0.mod.nolimit.keeps λ b o e=>(e0.bs b o e).1
 have hkind:∀ y∈ps.zip us,scope.names.lookup y.1=qq .local\/(scope.names.lookup y.1=qq .cell/\((cellsFrom (s.heap.objs.size+1) scope.names []).lookup y.1).isSome=true):=λ aM hy=>by
  obtain⟨n,v⟩:=aM;rcases S.par n (List.of_mem_zip hy).1 with q | q
  ·exact .inl q
  ·exact .inr ⟨q,PySem.W.cellsFrom_some _ _ _ (.inl q)⟩
 refine codeAny_call_function hr.depth (KX _ _ lk) rfl S.co S.gen rfl (PySem.W.codeRec_of KX hcd) (hb _ _ _ _ ?_);refine wpAny_newFunctionEnv_cells S.kind hkind λ env he s1 x=>?_
 subst he;refine⟨lim.keeps x.toInCall.keep,codeAny_func ?_⟩;obtain⟨t,ht,hq⟩:=hbody A outer s H vs Q E (hr.deeper _) hsp;have I:Inv (iG CX P w K mg base N bN scope f cdv A outer s H E) [] (start N vs) H s1:=aJz S hr.hd e0 hl r x;refine wpAny_mono (ht [] s1 (start N vs) H _ I hq) (λ fl s' hs=>?_) λ e s' hs=>hs
 have bI:∀ {σ':St}{H':Hp}{v:V}{u:qx},Inv (iG CX P w K mg base N bN scope f cdv A outer s H E) [] σ' H' s'->aX v u->Q v H'->CE outer P w H s Q u s':=
  λ {σ' H' v u} J rv q=>⟨v,H',J.os,J.bare,J.base,J.hok,rv,q⟩
 cases fl with
 | ret u =>
   obtain⟨v,σ',H',J,rv,q⟩:=hs;exact bI J rv q
 | next =>
   obtain⟨σ',H',J,q⟩:=hs;exact bI (v:=V.non) (u:=Value.none) J rfl q
 | brk =>
   obtain⟨_,_,_,q⟩:=hs;exact False.elim q
 | cont =>
   obtain⟨_,_,_,q⟩:=hs;exact False.elim q
end L2
namespace L2
open PySem PySem.Spec PyProof.Rows
section
variable {X : Cx}{x : Str}{p pos : Pos}{e : qw}{es : List qw}{t : TA}{id T : String}{r : List V -> Hp -> VK -> Prop}
def vP(r:List V->Hp->VK->Prop)(t:TA):TE:=λ σ H Q=>t σ H λ vs H1=>r vs H1 Q
theorem kD(hc:cN X (.builtin id) r)(hg:Gl X x)(hm:X.mg x=qz)(hv:zu x=qq (.builtin id))(ha:PA X (e::es) t)(hn:x ≠ "__name__":=by decide)(hdb:(x==("__debug__" : Str))=false:=by decide)
 (he:zj (e::es) X.env=(false,eval e X.env)::zj es X.env:=by rfl) (hpl:(backTo pos (zj es X.env)).any (·.1)=false:=by rfl):PE X (.Call (.Name x p) (e::es) [] pos) (vP r t):=by
 intro aA s σ H Q I h;refine jq (tW I hg hm hv ?_ hn hdb);exact PyProof.Rows.callWith_builtin1 (aZ (ha pos aA s σ H _ I h) λ us s1 ⟨vs,H1,I1,r1,q1⟩=>hc aA s1 σ H1 vs us Q I1 r1 q1) he hpl
theorem sO(hc:cN X (.type T) r)(hg:Gl X x)(hm:X.mg x=qz)(hv:zu x=qq (.type T))(ha:PA X (e::es) t)(hn:x ≠ "__name__":=by decide)(hdb:(x==("__debug__" : Str))=false:=by decide)
 (he:zj (e::es) X.env=(false,eval e X.env)::zj es X.env:=by rfl) (hpl:(backTo pos (zj es X.env)).any (·.1)=false:=by rfl):PE X (.Call (.Name x p) (e::es) [] pos) (vP r t):=by
 intro aA s σ H Q I h;refine jq (tW I hg hm hv ?_ hn hdb);exact yDf (aZ (ha pos aA s σ H _ I h) λ us s1 ⟨vs,H1,I1,r1,q1⟩=>hc aA s1 σ H1 vs us Q I1 r1 q1) he hpl
end
end L2
namespace HT
open PySem PyProof.Rows
section
open PySem.SeqAt
open PySem.AutoSeq1 (wpAny_loadPart')
open PySem.MeetsSeq PySem.MeetsSeq2 PySem.MeetsSeq3
end
section
variable {prog : zq}{w : zx}{A : zv}{E : qx -> qj -> Prop}{s : qj}
theorem cat_tup{t b:qv}{vs ws:List qx}{Q:qx->qj->Prop}(ht:IsTup s.heap t vs.toArray)(hb:IsTup s.heap b ws.toArray)(hv:vs≠[])
 (h1:ws=[]->Q (.ref t) s) (h2:ws≠[]->Q (.ref s.heap.objs.size) {s with heap:=s.heap.push {cls:=.type "tuple",data:=.seq (vs++ws).toArray } })
 (hsz:vs.length+ws.length<=qk):qu (model prog w) A (zk .Add (.ref t) (.ref b)) Q E s:=by
 obtain⟨⟨cls,dd,data,sl⟩,ho,hc,n,hd⟩:=id ht;obtain⟨⟨cls2,dd2,data2,sl2⟩,ho2,hc2,n2,hd2⟩:=id hb;simp only at hc hd hc2 hd2;subst hc hd hc2 hd2;have e:vs.toArray++ws.toArray=(vs++ws).toArray:=by simp
 by_cases hw:ws=[]
 ·exact concat_meets ⟨_,ho,rfl⟩ ⟨_,ho2,rfl⟩ noFill_tuple_add seq_tuple_add yEh yEc (yDy _ _)
   (tuple_addW1 t b vs.toArray ws.toArray n n2 dd dd2 sl sl2 (by simpa using hv) (by simp[hw])) ⟨ho,ho2,h1 hw⟩
 ·refine concat_meets ⟨_,ho,rfl⟩ ⟨_,ho2,rfl⟩ noFill_tuple_add seq_tuple_add yEh yEc (yDy _ _)
   (tuple_addW2 t b vs.toArray ws.toArray n n2 dd dd2 sl sl2 (by simpa using hv) (by simpa using hw) (by rw[yAg,yAg];exact hsz)) ⟨ho,ho2,?_⟩
  rw[e];exact h2 hw
noncomputable def sIx(n d:Nat):Option Int->Nat
 | none=>d
 | some v=>if v<0 then (v+(n:Int)).toNat else min v.toNat n
theorem sIx_none(n d:Nat):sIx n d qz=d:=rfl
theorem sIx_nat(n d k:Nat):sIx n d (qq (k:Int))=min k n:=by
 show(if (k:Int)<0 then ((k:Int)+(n:Int)).toNat else min (k:Int).toNat n)=min k n
 rw[if_neg (by omega),yBp]
theorem aNs(n d:Nat)(hd:d<=n)(o:Option Int):sIx n d o<=n:=by
 cases o with
 | none=>exact hd
 | some v =>
   show(if v<0 then (v+(n:Int)).toNat else min v.toNat n)<=n
   by_cases hv:v<0
   ·rw[if_pos hv];omega
   ·rw[if_neg hv];exact Nat.min_le_right _ _
theorem aFe(v:Int)(n d:Nat):(if v<0 then max (v+(n:Int)) 0 else min v (n:Int))=((sIx n d (qq v):Nat):Int):=by
 show(if v<0 then max (v+(n:Int)) 0 else min v (n:Int))=(((if v<0 then (v+(n:Int)).toNat else min v.toNat n):Nat):Int)
 by_cases hv:v<0
 ·simp only[if_pos hv];omega
 ·simp only[if_neg hv];omega
theorem aJo(lo hi:Option Int)(n:Nat):yDv lo hi 1 (n:Int)=(((sIx n 0 lo:Nat):Int),((sIx n n hi:Nat):Int)):=by
 have h1:¬ ((1:Int)<0):=by omega
 unfold yDv;simp only[h1,if_false];refine Prod.ext ?_ ?_
 ·cases lo with
  | none=>rfl
  | some v=>exact aFe v n 0
 ·cases hi with
  | none=>rfl
  | some v=>exact aFe v n n
theorem aJf(i j:Nat):yCm (i:Int) (j:Int) 1=j-i:=by
 unfold yCm;have h1:(1:Int)>0:=by omega
 simp only[h1,if_true,Int.ediv_one]
 split<;>omega
theorem aDT{v:qx}{o:Option Int}{Q:Option Int->qj->Prop}(p:IsPart v o)(h:Q o s):qu (model prog w) A (Builtin.Slice.slicePartIndex v) Q E s:=by
 cases p with
 | none=>exact slicePart_none h
 | int i t=>exact slicePart_int h
theorem sliceApplied_gen{sl:qv}{vl vu:qx}{lo hi:Option Int}{n:Nat}{Q:Int×Int×Nat->qj->Prop}(hs:s.heap.IsSliceOf sl vl vu .none)(pl:IsPart vl lo)(pu:IsPart vu hi)
 (h:Q (((sIx n 0 lo:Nat):Int),1,sIx n n hi-sIx n 0 lo) s):qu (model prog w) A (yFi (.ref sl) (pure (n:Int))) Q E s:=by
 obtain⟨os,hos,hcs,hds⟩:=id hs;unfold yFi Builtin.Slice.sliceFields;refine wB (wB (xy hos hds (x:=vl) rfl (wB (xy hos hds (x:=vu) rfl (wB (xy hos hds (x:=.none) rfl (wP ?_)))))));refine wB (slicePart_none ?_);show qu _ _ (if ((1:Int)==0)=true then _ else _) _ _ s
 rw[if_neg (by decide)]
 refine wB (aDT pl (wB (aDT pu (wB (wP ?_)))));show qu _ _ (match yDv lo hi 1 (n:Int) with | (lo,hi)=>pure (lo,(1:Int),yCm lo hi 1)) _ _ s
 rw[aJo lo hi n];show qu _ _ (pure (((sIx n 0 lo:Nat):Int),(1:Int),yCm ((sIx n 0 lo:Nat):Int) ((sIx n n hi:Nat):Int) 1)) _ _ s;rw[aJf];exact wP h
theorem aK6(xs:Array qx)(i k:Nat):((yAw k).filterMap λ(m:Nat)=>xs[((i:Int)+(m:Int)*1).toNat]?).toArray=((xs.toList.drop i).take k).toArray:=by
 have e:(λ(m:Nat)=>xs[((i:Int)+(m:Int)*1).toNat]?)=λ m=>xs[i+m]?:=by
  funext m
  have:((i:Int)+(m:Int)*1).toNat=i+m:=by omega
  rw[this]
 rw[e];have:=pick_run xs i k;rw[List.filterMap_map] at this;have e2:((λ x=>xs[x]?) ∘ λ x=>i+x)=λ m=>xs[i+m]?:=rfl
 rw[e2] at this;rw[this]
theorem getItem_tuple_cut{t sl:qv}{aP:Array qx}{vl vu:qx}{lo hi:Option Int}{Q:qx->qj->Prop}(ht:IsTup s.heap t aP)(hs:s.heap.IsSliceOf sl vl vu .none)(pl:IsPart vl lo)(pu:IsPart vu hi)
 (hw:¬ (sIx aP.size 0 lo=0/\sIx aP.size aP.size hi=aP.size))
 (h:Q (.ref s.heap.objs.size) {s with heap:=s.heap.push {cls:=.type "tuple",data:=.seq ((aP.toList.drop (sIx aP.size 0 lo)).take (sIx aP.size aP.size hi-sIx aP.size 0 lo)).toArray } })
 (hsz:aP.size<=qk):qu (model prog w) A (getItem (.ref t) (.ref sl)) Q E s:=by
 have htake:sizeOk (.seq ((aP.toList.drop (sIx aP.size 0 lo)).take (sIx aP.size aP.size hi-sIx aP.size 0 lo)).toArray):=by
  show((aP.toList.drop (sIx aP.size 0 lo)).take (sIx aP.size aP.size hi-sIx aP.size 0 lo)).toArray.size<=qk;rw[yAg,yAy,yEv,yAm];omega
 have hj:sIx aP.size aP.size hi<=aP.size:=aNs _ _ (yAe _) hi;obtain⟨os,hos,hcs,hds⟩:=id hs;have hTs:s.TypeIs (.ref sl) "slice":=⟨os,hos,hcs⟩;unfold getItem
 try with_reducible refine xq ?_
 first | refine wB (wP ?_) | skip
 refine wB (wpAny_sequenceKey ht.typeIs (by decide) ?_)
 refine wB (wpAny_callSpecial?_slot (name:=Str.ofString "__getitem__") ht.typeIs yBz
  (vq yBz ht.typeIs entry_tuple_getitem ?_ (args_tuple_getitem _ _)))
 show qu _ _ (yFj (.ref t) >>= _) _ _ s;refine wB (tupleItemsOf_ ht ?_);refine wB (wpAny_typeOf hTs ?_);rw[if_pos (by decide)]
 refine wB (sliceApplied_gen hs pl pu ?_);have hno:¬ ((((sIx aP.size 0 lo:Nat):Int)==0&&(1:Int)==1&&(sIx aP.size aP.size hi-sIx aP.size 0 lo)==aP.size)=true):=by
  intro q;rw[yBm,yBm] at q;have q1:((sIx aP.size 0 lo:Nat):Int)=0:=eq_of_beq q.1.1;have q2:sIx aP.size aP.size hi-sIx aP.size 0 lo=aP.size:=eq_of_beq q.2;exact hw ⟨by omega,by omega⟩
 show qu _ _ (if (((sIx aP.size 0 lo:Nat):Int)==0&&(1:Int)==1&&(sIx aP.size aP.size hi-sIx aP.size 0 lo)==aP.size)=true then _ else _) _ _ s
 rw[if_neg hno,aK6]
 first
  | exact wB (m:=yCd _) (xu (wP ⟨_,rfl,wP h⟩) htake)
  | exact wB (m:=yCd _) (xu (wB (wP (wP ⟨_,rfl,wP h⟩))) htake)
  | exact wB (wB (m:=yCd _) (xu (wP (wP ⟨_,rfl,wP h⟩)) htake))
  | exact wB (wB (m:=yCd _) (xu (wP ⟨_,rfl,wP h⟩) htake))
end
end HT
namespace L2
open PySem PySem.Spec PyProof.Rows
abbrev TO:=St->Hp->(Option Int->Hp->Prop)->Prop
def PO(X:Cx)(e:Option qw)(t:TO):Prop:=
 ∀ (aA:List (qv×Obj)) (s:qj) (σ:St) (H:Hp) (Q:Option Int->Hp->Prop),Inv X aA σ H s->t σ H Q ->
  qu (model X.prog X.w) X.A (evalPart e X.env) (λ u s'=>∃ o H',Inv X aA σ H' s'/\IsPart u o/\Q o H') X.xe s
def aMn:TO:=λ _ H Q=>Q qz H
def aP4(t:TE):TO:=λ σ H Q=>t σ H λ x H1=>∃ i,x=.int i/\Q (qq i) H1
section
variable {X : Cx}{e : qw}{te : TE}{lo hi : Option qw}{tl th : TO}{pos p2 : Pos}
theorem aMx:PO X qz aMn:=by
 intro aA s σ H Q I h;rw[evalPart_none];exact wP ⟨qz,H,I,.none,h⟩
theorem aMY(h:PE X e te):PO X (qq e) (aP4 te):=by
 intro aA s σ H Q I hw;rw[evalPart_some];refine aZ (h aA s σ H _ I hw) λ u s1 hPq26=>?_
 obtain⟨x,H1,I1,r1,q1⟩:=hPq26;obtain⟨i,rfl,q⟩:=q1;obtain⟨t,rfl⟩:=r1;exact⟨qq i,H1,I1,.int i t,q⟩
def lZ(X:Cx)(r:V->Option Int->Option Int->Hp->VK->Prop):Prop:=
 ∀ (aA:List (qv×Obj)) (s:qj) (σ:St) (H:Hp) (x:V) (v vl vu:qx) (lo hi:Option Int) (sl:qv) (Q:VK),Inv X aA σ H s->aX x v->s.heap.IsSliceOf sl vl vu .none->IsPart vl lo->IsPart vu hi->r x lo hi H Q ->
  ∃ T id,typeLookup (.type T) "__getitem__" = pure (qq (.builtin id))/\s.TypeIs v T/\qu (model X.prog X.w) X.A (getItem v (.ref sl)) (EP X aA σ Q) X.xe s
theorem lZ.or{r r':V->Option Int->Option Int->Hp->VK->Prop}(h:lZ X r)(h':lZ X r'):lZ X (λ x lo hi H Q=>r x lo hi H Q\/r' x lo hi H Q):=by
 intro aA s σ H x v vl vu lo hi sl Q I rx hs pl pu q;rcases q with q | q
 ·exact h aA s σ H x v vl vu lo hi sl Q I rx hs pl pu q
 ·exact h' aA s σ H x v vl vu lo hi sl Q I rx hs pl pu q
def tSl(r:V->Option Int->Option Int->Hp->VK->Prop)(te:TE)(tl th:TO):TE:=λ σ H Q=>te σ H λ x H1=>tl σ H1 λ l H2=>th σ H2 λ u H3=>r x l u H3 Q
theorem aA7{r:V->Option Int->Option Int->Hp->VK->Prop}(hr:lZ X r)(he:PE X e te)(hl:PO X lo tl)(hu:PO X hi th):PE X (.Subscript e (.Slice lo hi qz p2) pos) (tSl r te tl th):=by
 intro aA s σ H Q I h;refine Subscript_ (aZ (he aA s σ H _ I h) λ v s1 hPq27=>?_)
 obtain⟨x,H1,I1,r1,q1⟩:=hPq27;refine wpAny_Slice (aZ (hl aA s1 σ H1 _ I1 q1) λ vl s2 ⟨l,H2,I2,pl,q2⟩=>aZ (hu aA s2 σ H2 _ I2 q2) λ vu s3 hPq28=>?_)
 obtain⟨u,H3,I3,pu,q3⟩:=hPq28;rw[evalPart_none];refine wP ?_;have I4:Inv X aA σ H3 {s3 with heap:=s3.heap.push {cls:=.type "slice",data:=.fields #[vl,vu,.none] } }:=I3.kept (t':=s3.toks) λ b ob q=>hpS _ q
 obtain⟨T,id,hT,ht,hg⟩:=hr aA {s3 with heap:=s3.heap.push {cls:=.type "slice",data:=.fields #[vl,vu,.none] } } σ H3 x v vl vu l u s3.heap.objs.size Q I4 r1 (Heap.IsSliceOf.new ..) pl pu q3
 show qu (model X.prog X.w) X.A (subscriptTail e (.Slice lo hi qz p2) v (.ref s3.heap.objs.size)) (EP X aA σ Q) X.xe {s3 with heap:=s3.heap.push {cls:=.type "slice",data:=.fields #[vl,vu,.none] } }
 exact tail_any (ops:=[.ref s3.heap.objs.size,v]) ht hT hg (by with_unfolding_all rfl)
noncomputable def lU(xs:List V)(lo hi:Option Int):List V:=(xs.drop (HT.sIx xs.length 0 lo)).take (HT.sIx xs.length xs.length hi-HT.sIx xs.length 0 lo)
theorem aDz(xs:List V)(lo hi:Option Int):(lU xs lo hi).length<=xs.length:=by
 unfold lU;rw[yAy,yEv];omega
noncomputable def aRk(K:FrG):V->Option Int->Option Int->Hp->VK->Prop:=λ x lo hi H Q=>∃ a xs,x=.ref a/\bV K H a xs /\
 ¬ (HT.sIx xs.length 0 lo=0/\HT.sIx xs.length xs.length hi=xs.length)/\∀ p,H p=qz->Q (.ref p) (aW H p (.tup (lU xs lo hi)))
theorem aPh:lZ X (aRk X.K):=by
 intro aA s σ H x v vl vu lo hi sl Q I rx hs pl pu h;obtain⟨a,xs,rfl,hx,hw,q⟩:=h;cases rx;obtain⟨its,r,ht,hz⟩:=I.tuple hx;have cE:its.toArray.size=xs.length:=by rw[yAg];exact r.length.symm
 refine⟨"tuple",_,PyProof.Rows.slot_tuple_getitem.lookup,ht.typeIs,?_⟩;refine HT.getItem_tuple_cut ht hs pl pu (by rw[cE];exact hw) ?_ (by rw[cE];exact hz)
 rw[cE];refine⟨.ref s.heap.objs.size,_,I.laid (t':=s.toks) (o:=.tup (lU xs lo hi)) (λ b ob q=>hpS _ q) (yAe _) ?_,rfl,q _ (I.hok.fresh (yAe _))⟩
 exact⟨xAg (aDz xs lo hi) hz,_,(r.drop (HT.sIx xs.length 0 lo)).take (HT.sIx xs.length xs.length hi-HT.sIx xs.length 0 lo),IsTup.new _ _⟩
noncomputable def aQh(K:FrG):R2:=λ x y H Q=>∃ a b xs ys,x=.ref a/\y=.ref b/\bV K H a xs/\bV K H b ys/\xs≠[]/\xs.length+ys.length<=qk /\
 (ys=[]->Q (.ref a) H)/\(ys≠[]->∀ p,H p=qz->Q (.ref p) (aW H p (.tup (xs++ys))))
theorem aT.nil_iff{xs:List V}{us:List qx}(r:aT xs us):us=[] ↔ xs=[]:=by
 cases r with
 | nil=>simp
 | cons _ _=>simp
theorem aLU:cC X (zk .Add) (aQh X.K):=by
 intro aA s σ H x y v u Q I rx ry h;obtain⟨a,b,xs,ys,rfl,rfl,ha,hb,hx,hz,q1,q2⟩:=h;cases rx;cases ry;obtain⟨its,r1,p1,_⟩:=I.tuple ha;obtain⟨sF,r2,p2,_⟩:=I.tuple hb;refine HT.cat_tup p1 p2 (λ z=>hx (r1.nil_iff.mp z)) (λ z=>⟨.ref a,H,I,rfl,q1 (r2.nil_iff.mp z)⟩) (λ z=>?_) (by rw[<- r1.length,<- r2.length];exact hz)
 refine⟨.ref s.heap.objs.size,_,I.laid (t':=s.toks) (o:=.tup (xs++ys)) (λ b ob q=>hpS _ q) (yAe _) ?_,rfl,q2 (λ w=>z (r2.nil_iff.mpr w)) _ (I.hok.fresh (yAe _))⟩
 exact⟨by rw[yAr];exact hz,_,r1.append r2,IsTup.new _ _⟩
end
end L2
namespace L2
open PySem PySem.Spec PyProof.Rows
noncomputable def gF(n:Nat)(i:Int):Option Nat:=if 0<=i then (if i<n then qq i.toNat else qz) else if -(n:Int)<=i then qq (i+n).toNat else qz
noncomputable def gQ{α:Type}(xs:List α)(i:Int):Option α:=(gF xs.length i).bind λ j=>xs[j]?
theorem aE9{n:Nat}{i:Int}{j:Nat}(h:gF n i=qq j):seqIndex? i n=qq j/\j<n /\ -(n:Int)<=i/\i<n:=by
 unfold gF at h
 by_cases h0:0<=i
 ·rw[if_pos h0] at h
  by_cases h1:i<n
  ·rw[if_pos h1] at h;have e:i.toNat=j:=Option.some.inj h;exact⟨by rw[seqIndex_of h0 h1,e],by omega,by omega,h1⟩
  ·rw[if_neg h1] at h;cases h
 ·rw[if_neg h0] at h
  by_cases h1 : -(n:Int)<=i
  ·rw[if_pos h1] at h;have e:(i+n).toNat=j:=Option.some.inj h;exact⟨by rw[seqIndex_neg (by omega) h1,e],by omega,h1,by omega⟩
  ·rw[if_neg h1] at h;cases h
theorem aBJ{α:Type}{xs:List α}{i:Int}{v:α}(h:gQ xs i=qq v):∃ j,seqIndex? i xs.length=qq j/\xs[j]? = qq v/\j<xs.length /\ -(xs.length:Int)<=i/\i<xs.length:=by
 unfold gQ at h;cases e:gF xs.length i with
 | none=>rw[e] at h;cases h
 | some j =>
   rw[e] at h;obtain⟨h1,h2,h3,h4⟩:=aE9 e;exact⟨j,h1,h,h2,h3,h4⟩
def xJ(b:qw):Prop:=∀ o i,subscripted b false o i=operate [o,i] (getItem o i)
def kZ(X:Cx)(r:R2):Prop:=
 ∀ (value slice:qw) (aA:List (qv×Obj)) (s:qj) (σ:St) (H:Hp) (x y:V) (v u:qx) (Q:VK),Inv X aA σ H s->aX x v->aX y u->r x y H Q ->
  subscripted slice false v u=operate [v,u] (getItem v u)->qu (model X.prog X.w) X.A (subscriptTail value slice v u) (EP X aA σ Q) X.xe s
def wC(X:Cx)(id:String)(r:V->List V->Hp->VK->Prop):Prop:=
 ∀ (aA:List (qv×Obj)) (s:qj) (σ:St) (H:Hp) (x:V) (xs:List V) (v:qx) (us:List qx) (Q:VK),Inv X aA σ H s->aX x v->aT xs us->r x xs H Q ->
  qu (model X.prog X.w) X.A (call (.builtin id) (v::us)) (EP X aA σ Q) X.xe s
section
variable {X : Cx}{a b : qw}{ta tb : TE}{pos : Pos}
theorem kZ.or{r r':R2}(h:kZ X r)(h':kZ X r'):kZ X (λ x y H Q=>r x y H Q\/r' x y H Q):=by
 intro value slice aA s σ H x y v u Q I rx ry q hs;rcases q with q | q
 ·exact h value slice aA s σ H x y v u Q I rx ry q hs
 ·exact h' value slice aA s σ H x y v u Q I rx ry q hs
theorem wC.or{id:String}{r r':V->List V->Hp->VK->Prop}(h:wC X id r)(h':wC X id r'):wC X id (λ x xs H Q=>r x xs H Q\/r' x xs H Q):=by
 intro aA s σ H x xs v us Q I rx rs q;rcases q with q | q
 ·exact h aA s σ H x xs v us Q I rx rs q
 ·exact h' aA s σ H x xs v us Q I rx rs q
theorem aG9{r:R2}(hr:kZ X r)(ha:PE X a ta)(hb:PE X b tb)(hs:xJ b):PE X (.Subscript a b pos) (vW r ta tb):=by
 intro aA s σ H Q I h;exact Subscript_ (aCT ha hb I h λ v u s2 x y H2 I2 rx ry q=>hr a b aA s2 σ H2 x y v u Q I2 rx ry q (hs _ _))
noncomputable def aR1(K:FrG):R2:=λ x y H Q=>∃ p xs i v,x=.ref p/\y=.int i/\bR K H p xs/\gQ xs i=qq v/\Q v H
noncomputable def aRz(K:FrG):R2:=λ x y H Q=>∃ p xs i v,x=.ref p/\y=.int i/\bV K H p xs/\gQ xs i=qq v/\Q v H
noncomputable def aRt:R2:=λ x y H Q=>∃ z i c,x=.str z/\y=.int i/\z.length<=qk/\gQ z.cps.toList i=qq c/\Q (.str ⟨#[c]⟩) H
theorem aLs:kZ X (aR1 X.K):=by
 intro value slice aA s σ H x y v u Q I rx ry h hs;obtain⟨p,xs,i,z,rfl,rfl,hq,he,q⟩:=h;cases rx;obtain⟨t,rfl⟩:=ry;obtain⟨its,r,pl,hz⟩:=I.list hq;obtain⟨j,h1,h2,h3,h4,h5⟩:=aBJ he;obtain⟨w,ew,rw'⟩:=r.get h2;have hl:=r.length;have hn:=oG;have bI:EP X aA σ Q w s:=⟨z,H,I,rw',q⟩
 by_cases h0:0<=i
 ·have hj:i.toNat=j:=by
   rw[seqIndex_of h0 h5] at h1;exact Option.some.inj h1
  exact item_listR pl.isList h0 (by omega) (by rw[hj];simpa using ew) bI hs
 ·have hj:(i+(its.toArray.size:Int)).toNat=j:=by
   rw[seqIndex_neg (by omega) h4] at h1
   rw[yAg,<- hl];exact Option.some.inj h1
  exact subscriptTail_builtinR (x:=w) pl.isList.typeIs slot_list_getitem.lookup
   (wpAny_getItem_list_neg (Q:=λ r s'=>r=w/\EP X aA σ Q r s') pl.isList (by omega) (by rw[yAg]<;>omega) (by omega) (by rw[hj];simpa using ew) ⟨rfl,bI⟩) hs
theorem aNu:kZ X (aRz X.K):=by
 intro value slice aA s σ H x y v u Q I rx ry h hs;obtain⟨p,xs,i,z,rfl,rfl,hq,he,q⟩:=h;cases rx;obtain⟨t,rfl⟩:=ry;obtain⟨its,r,pl,hz⟩:=I.tuple hq;obtain⟨j,h1,h2,h3,h4,h5⟩:=aBJ he;obtain⟨w,ew,rw'⟩:=r.get h2;have hl:=r.length;have hn:=oG;have bI:EP X aA σ Q w s:=⟨z,H,I,rw',q⟩;exact subscriptTail_builtinR (x:=w) pl.typeIs slot_tuple_getitem.lookup
  (getItem_tuple (j:=j) (Q:=λ r s'=>r=w/\EP X aA σ Q r s') pl (by omega) (by omega) (by rw[yAg,<- hl];exact h1) (by simpa using ew) ⟨rfl,bI⟩) hs
theorem aN3:kZ X aRt:=by
 intro value slice aA s σ H x y v u Q I rx ry h hs;obtain⟨z,i,c,rfl,rfl,hz,he,q⟩:=h;obtain⟨t,rfl⟩:=rx;obtain⟨t',rfl⟩:=ry;obtain⟨j,h1,h2,h3,h4,h5⟩:=aBJ he;have hl:z.cps.toList.length=z.length:=by simp[Str.length]
 rw[hl] at h1 h4 h5;have hn:=oG;exact tail_any (typeIs_str s z t) slot_str_getitem.lookup (getItem_str (c:=c) (by
  have e1:decide (i < -(2^63:Int))=false:=dqF (by omega)
  have e2:decide (i ≥ 2^63)=false:=dqF (by omega)
  rw[e1,e2,Bool.or_false]) (by rw[h1];simpa using h2) ⟨.str ⟨#[c]⟩,H,I.tok _,⟨_,rfl⟩,q⟩) hs
theorem aJd(its:List qx)(n j:Nat)(u:qx):Obj.mapSeq (·.setIfInBounds j u) {cls:=.type "list",data:=.seq its.toArray n }={cls:=.type "list",data:=.seq (its.set j u).toArray n }:=by
 simp[Obj.mapSeq]
theorem Inv.lst{aA:List (qv×Obj)}{σ:St}{H:Hp}{s:qj}{p:qv}{xs:List V}(I:Inv X aA σ H s)(h:H p=qq (.lst xs)) :
 ∃ (its:List qx) (n:Nat),aT xs its/\s.heap.get? p=qq {cls:=.type "list",data:=.seq its.toArray n }/\xs.length<=qk:=by
 obtain⟨z,its,n,r,e⟩:=I.hok p _ h;exact⟨its,n,r,e,z⟩
theorem Inv.lstUpd{aA:List (qv×Obj)}{σ:St}{H:Hp}{s:qj}{p:qv}{xs ys:List V}{its its':List qx}{n n':Nat}{f:Obj->Obj}(I:Inv X aA σ H s)(h:H p=qq (.lst xs))
 (ho:s.heap.get? p=qq {cls:=.type "list",data:=.seq its.toArray n }) (hf:f {cls:=.type "list",data:=.seq its.toArray n }={cls:=.type "list",data:=.seq its'.toArray n' }) (r:aT ys its') (hz:ys.length<=qk) (t:Nat) :
 Inv X aA σ (aW H p (.lst ys)) {s with heap:=s.heap.update p f,toks:=t }:=by
 have e:(s.heap.update p f).get? p=qq {cls:=.type "list",data:=.seq its'.toArray n' }:=by
  rw[yCb f ho (by rw[hf]<;>rfl),hf]
 refine I.write (x:=p) (e:=p) (by rw[h];trivial) (.inl rfl) (λ b u hb q=>(yBt _ _ (Ne.symm hb)).trans q) ⟨_,e⟩ ?_
 exact⟨hz,its',n',r,e⟩
noncomputable def aG2:V->V->V->Hp->(Hp->Prop)->Prop:=λ o i v H Q=>∃ p xs k j,o=.ref p/\i=.int k/\H p=qq (.lst xs)/\gF xs.length k=qq j/\Q (aW H p (.lst (xs.set j v)))
theorem aLc:aHz X aG2:=by
 intro aA s σ H o i v ov iv u Q I ro ri rv h;obtain⟨p,xs,k,j,rfl,rfl,hp,hj,q⟩:=h;cases ro;obtain⟨t,rfl⟩:=ri;obtain⟨its,n,r,ho,hz⟩:=I.lst hp;obtain⟨h1,h2,h3,h4⟩:=aE9 hj;have hl:=r.length;have hn:=oG;have I':Inv X aA σ (aW H p (.lst (xs.set j v))) {s with heap:=s.heap.update p (Obj.mapSeq (·.setIfInBounds j u)) }:=
  I.lstUpd hp ho (aJd its n j u) (r.set rv j) (by rw[yAt];exact hz) s.toks
 by_cases h0:0<=k
 ·have hk:k.toNat=j:=by
   rw[seqIndex_of h0 h4] at h1;exact Option.some.inj h1
  exact PySem.W.ki_setAt ho h0 (by omega) (by rw[yAg,<- hl];exact h4) (by rw[hk];exact⟨_,I',q⟩)
 ·have hk:(k+(its.toArray.size:Int)).toNat=j:=by
   rw[seqIndex_neg (by omega) h3] at h1
   rw[yAg,<- hl];exact Option.some.inj h1
  exact PySem.W.ki_setBack ho (by omega) (by rw[yAg,<- hl];exact h3) (by omega) (by rw[hk];exact⟨_,I',q⟩)
theorem aIE(lo hi:Option Int)(n:Nat):(vk lo hi qz n).1=((HT.sIx n 0 lo:Nat):Int)/\(vk lo hi qz n).2.1=((HT.sIx n n hi:Nat):Int)/\(vk lo hi qz n).2.2=1:=by
 refine⟨?_,?_,rfl⟩
 ·cases lo with
  | none=>simp[vk,HT.sIx]
  | some i =>
    simp only[vk,HT.sIx,yEw,show(1:Int)>0 by decide,if_true]
    by_cases h:i<0
    ·simp only[h,if_true]<;>omega
    ·simp only[h,if_false]<;>omega
 ·cases hi with
  | none=>simp[vk,HT.sIx]
  | some i =>
    simp only[vk,HT.sIx,yEw,show(1:Int)>0 by decide,if_true]
    by_cases h:i<0
    ·simp only[h,if_true]<;>omega
    ·simp only[h,if_false]<;>omega
theorem aIv(its:List qx)(lo hi:Option Int):slicePick its.toArray lo hi qz=((its.drop (HT.sIx its.length 0 lo)).take (HT.sIx its.length its.length hi-HT.sIx its.length 0 lo)).toArray:=by
 obtain⟨h1,h2,h3⟩:=aIE lo hi its.toArray.size;unfold slicePick;rw[h1,h2,h3];simp only[sliceRange_one,pick_run,yAg]<;>rfl
noncomputable def aRG(K:FrG):V->Option Int->Option Int->Hp->VK->Prop:=λ x lo hi H Q=>∃ a xs,x=.ref a/\bR K H a xs/\∀ p,H p=qz->Q (.ref p) (aW H p (.lst (lU xs lo hi)))
theorem aLN:lZ X (aRG X.K):=by
 intro aA s σ H x v vl vu lo hi sl Q I rx hs pl pu h;obtain⟨a,xs,rfl,hx,q⟩:=h;cases rx;obtain⟨its,r,ht,hz⟩:=I.list hx;have cE:=r.length;refine⟨"list",_,slot_list_getitem.lookup,ht.isList.typeIs,?_⟩;refine wpAny_getItem_list_slice ht.isList hs pl pu .none (by simp) ?_ (by rw[yAg]<;>omega)
 rw[aIv,<- cE];refine⟨.ref s.heap.objs.size,_,I.laid (t':=s.toks) (o:=.lst (lU xs lo hi)) (λ b ob q=>hpS _ q) (yAe _) ?_,rfl,q _ (I.hok.fresh (yAe _))⟩
 exact⟨xAg (aDz xs lo hi) hz,_,0,(r.drop (HT.sIx xs.length 0 lo)).take (HT.sIx xs.length xs.length hi-HT.sIx xs.length 0 lo),xAe _ rfl⟩
noncomputable def kK:V->Bool
 | .non=>true
 | .bl _=>true
 | .int _=>true
 | .str _=>true
 | _=>false
noncomputable def mF:V->V->Bool
 | .non,.non=>true
 | .bl a,.bl b=>a==b
 | .bl a,.int b=>(if a then 1 else 0)==b
 | .int a,.bl b=>a==(if b then 1 else 0)
 | .int a,.int b=>a==b
 | .str a,.str b=>a==b
 | _,_=>false
theorem aN5{A:zv}{s:qj}{y x:V}{u v:qx}(ry:aX y u)(rx:aX x v)(fy:kK y=true)(fx:kK x=true):SeqAt.EqAt A s u v (mF y x):=by
 cases y with
 | non =>
   cases ry;cases x with
   | non=>cases rx;exact SeqAt.EqAt.same _
   | bl b=>cases rx;exact SeqAt.EqAt.none_bool b
   | int b=>obtain⟨t,rfl⟩:=rx;exact SeqAt.EqAt.none_int b t
   | str b=>obtain⟨t,rfl⟩:=rx;exact SeqAt.EqAt.none_str b t
   | _=>exact absurd (show false=true from fx) yAu
 | bl a =>
   cases ry;cases x with
   | non=>cases rx;exact SeqAt.EqAt.bool_none a
   | bl b=>cases rx;exact SeqAt.EqAt.bool_bool a b
   | int b=>obtain⟨t,rfl⟩:=rx;exact SeqAt.EqAt.bool_int a b t
   | str b=>obtain⟨t,rfl⟩:=rx;exact SeqAt.EqAt.bool_str a b t
   | _=>exact absurd (show false=true from fx) yAu
 | int a =>
   obtain⟨t',rfl⟩:=ry;cases x with
   | non=>cases rx;exact SeqAt.EqAt.int_none a t'
   | bl b=>cases rx;exact SeqAt.EqAt.int_bool a t' b
   | int b=>obtain⟨t,rfl⟩:=rx;exact SeqAt.EqAt.int_int a t' b t
   | str b=>obtain⟨t,rfl⟩:=rx;exact SeqAt.EqAt.int_str a t' b t
   | _=>exact absurd (show false=true from fx) yAu
 | str a =>
   obtain⟨t',rfl⟩:=ry;cases x with
   | non=>cases rx;exact SeqAt.EqAt.str_none a t'
   | bl b=>cases rx;exact SeqAt.EqAt.str_bool a t' b
   | int b=>obtain⟨t,rfl⟩:=rx;exact SeqAt.EqAt.str_int a t' b t
   | str b=>obtain⟨t,rfl⟩:=rx;exact SeqAt.EqAt.str_str a t' b t
   | _=>exact absurd (show false=true from fx) yAu
 | _=>exact absurd (show false=true from fy) yAu
noncomputable def gO(x:V)(u:qx):Bool:=match u with
 | .none=>mF .non x
 | .bool b=>mF (.bl b) x
 | .int i _=>mF (.int i) x
 | .str z _=>mF (.str z) x
 | _=>false
theorem aGw{x y:V}{u:qx}(r:aX y u)(f:kK y=true):gO x u=mF y x:=by
 cases y with
 | non=>cases r;rfl
 | bl b=>cases r;rfl
 | int i=>obtain⟨t,rfl⟩:=r;rfl
 | str z=>obtain⟨t,rfl⟩:=r;rfl
 | _=>exact absurd (show false=true from f) yAu
theorem tH{x:V}:∀ {xs:List V}{us:List qx},aT xs us->xs.all kK=true->us.any (gO x)=xs.any λ y=>mF y x
 | _,_,.nil,_=>rfl
 | y::xs,u::us,.cons r t,f=>by
   rw[yDl,yBm] at f;rw[yEd,yEd,aGw r f.1,tH t f.2]
theorem sR{A:zv}{s:qj}{x:V}{v:qx}(rx:aX x v)(fx:kK x=true):∀ {xs:List V}{us:List qx},aT xs us->xs.all kK=true->∀ u∈us,SeqAt.EqAt A s u v (gO x u)
 | _,_,.nil,_=>λ u hu=>by cases hu
 | y::xs,u::us,.cons r t,f=>λ u' hu=>by
   rw[yDl,yBm] at f;rcases List.mem_cons.mp hu with rfl | hu
   ·rw[aGw r f.1];exact aN5 r rx f.1 fx
   ·exact sR rx fx t f.2 u' hu
noncomputable def sA(x:V)(xs:List V):Bool:=xs.any λ y=>mF y x
noncomputable def rIn(K:FrG)(neg:Bool):R2:=λ x y H Q=>∃ p xs,y=.ref p/\(bR K H p xs\/bV K H p xs)/\kK x=true/\xs.all kK=true/\Q (.bl (if neg then !sA x xs else sA x xs)) H
theorem aJU:cC X (zo .In) (rIn X.K false):=by
 intro aA s σ H x y v u Q I rx ry h;obtain⟨p,xs,rfl,hq,fx,fs,q⟩:=h;cases ry;rcases hq with hq | hq
 ·obtain⟨its,r,pl,hz⟩:=I.list hq;refine SeqAt.in_listAt (gO x) pl.isList (λ w hw=>sR rx fx r fs w (by simpa using hw)) ⟨.bl _,H,I,rfl,?_⟩
  rw[show its.toArray.any (gO x)=its.any (gO x) by simp,tH r fs]
  exact q
 ·obtain⟨its,r,pl,hz⟩:=I.tuple hq;refine SeqAt.in_tupleAt (gO x) pl (λ w hw=>sR rx fx r fs w (by simpa using hw)) ⟨.bl _,H,I,rfl,?_⟩
  rw[show its.toArray.any (gO x)=its.any (gO x) by simp,tH r fs]
  exact q
theorem aIL:cC X (zo .NotIn) (rIn X.K true):=by
 intro aA s σ H x y v u Q I rx ry h;obtain⟨p,xs,rfl,hq,fx,fs,q⟩:=h;cases ry;rcases hq with hq | hq
 ·obtain⟨its,r,pl,hz⟩:=I.list hq;refine SeqAt.notIn_listAt (gO x) pl.isList (λ w hw=>sR rx fx r fs w (by simpa using hw)) ⟨.bl _,H,I,rfl,?_⟩
  rw[show its.toArray.any (gO x)=its.any (gO x) by simp,tH r fs]
  exact q
 ·obtain⟨its,r,pl,hz⟩:=I.tuple hq;refine SeqAt.notIn_tupleAt (gO x) pl (λ w hw=>sR rx fx r fs w (by simpa using hw)) ⟨.bl _,H,I,rfl,?_⟩
  rw[show its.toArray.any (gO x)=its.any (gO x) by simp,tH r fs]
  exact q
theorem aDr:cN X (.builtin "len") (λ xs H Q=>∃ p ys,xs=[.ref p]/\(bR X.K H p ys\/bV X.K H p ys)/\Q (.int ys.length) H):=by
 intro aA s σ H xs us Q I r h;obtain⟨p,ys,rfl,hq,q⟩:=h;obtain⟨u,rfl,rx⟩:=fM r;cases rx;have hn:=oG;rcases hq with hq | hq
 ·obtain⟨its,r',pl,hz⟩:=I.list hq;have cE:=r'.length;exact Calls.call_len_list pl.isList (by simp only[yAg]<;>omega) ⟨.int ys.length,H,I.tok _,⟨s.toks+1,by rw[yAg,cE]⟩,q⟩
 ·obtain⟨its,r',pl,hz⟩:=I.tuple hq;have cE:=r'.length;exact len_tuple pl (by simp only[yAg]<;>omega) ⟨.int ys.length,H,I.tok _,⟨s.toks+1,by rw[yAg,cE]⟩,q⟩
theorem aIC:cN X (.builtin "len") (λ xs H Q=>∃ z,xs=[.str z]/\z.length<=qk/\Q (.int z.length) H):=by
 intro aA s σ H xs us Q I r h;obtain⟨z,rfl,hz,q⟩:=h;obtain⟨u,rfl,t,rfl⟩:=fM r;have hn:=oG;exact len_str (by omega) ⟨.int z.length,H,I.tok _,⟨_,rfl⟩,q⟩
theorem cN.or{f:qx}{r r':List V->Hp->VK->Prop}(h:cN X f r)(h':cN X f r'):cN X f (λ xs H Q=>r xs H Q\/r' xs H Q):=by
 intro aA s σ H xs us Q I rs q;rcases q with q | q
 ·exact h aA s σ H xs us Q I rs q
 ·exact h' aA s σ H xs us Q I rs q
theorem aIF:cN X (.type "list") (λ xs H Q=>∃ p ys,xs=[.ref p]/\(bR X.K H p ys\/bV X.K H p ys)/\∀ l,H l=qz->Q (.ref l) (aW H l (.lst ys))):=by
 intro aA s σ H xs us Q I r h;obtain⟨p,ys,rfl,hq,q⟩:=h;obtain⟨u,rfl,rx⟩:=fM r;cases rx;have bI:∀ (its:List qx),aT ys its->ys.length<=qk->∀ (h':Heap) (c':Nat),(∀ b o',s.heap.get? b=qq o'->h'.get? b=qq o') ->
  h'.get? s.heap.objs.size=qq {cls:=.type "list",dict:=qz,data:=.seq its.toArray c',slots:=#[] }->EP X aA σ Q (.ref s.heap.objs.size) {s with heap:=h' }:=λ its r' hz h' c' kp e =>
  ⟨.ref s.heap.objs.size,_,I.laid (t':=s.toks) kp (yAe _) (show fP X.prog X.w _ h' _ (.lst ys) from ⟨hz,its,c',r',e⟩),rfl,q _ (I.hok.fresh (yAe _))⟩
 rcases hq with hq | hq
 ·obtain⟨its,r',pl,hz⟩:=I.list hq;have cE:=r'.length;obtain⟨o,ho,hc,n,hd⟩:=pl.isList;exact call_list_seq p (.inl rfl) ho hc hd (λ h' c' kp e=>bI its r' hz h' c' kp e) (by simp only[yAg]<;>omega)
 ·obtain⟨its,r',pl,hz⟩:=I.tuple hq;have cE:=r'.length;obtain⟨o,ho,hc,n,hd⟩:=pl;exact call_list_seq p (.inr rfl) ho hc hd (λ h' c' kp e=>bI its r' hz h' c' kp e) (by simp only[yAg]<;>omega)
theorem aDq:cN X (.type "tuple") (λ xs H Q=>∃ p ys,xs=[.ref p]/\((bR X.K H p ys/\∀ l,H l=qz->Q (.ref l) (aW H l (.tup ys)))\/(bV X.K H p ys/\Q (.ref p) H))):=by
 intro aA s σ H xs us Q I r h;obtain⟨p,ys,rfl,h⟩:=h;obtain⟨u,rfl,rx⟩:=fM r;cases rx;rcases h with ⟨hq,q⟩ | ⟨hq,q⟩
 ·obtain⟨its,r',pl,hz⟩:=I.list hq;have cE:=r'.length;refine call_tuple_list pl.isList (λ h' kp=>?_) (by simp only[yAg]<;>omega)
  have I1:Inv X aA σ H {s with heap:=h' }:=I.kept (t':=s.toks) kp
  have I2:Inv X aA σ (aW H h'.objs.size (.tup ys)) {s with heap:=h'.push {cls:=.type "tuple",data:=.seq its.toArray } }:=
   I1.laid (t':=s.toks) (λ b o e=>hpS _ e) (yAe _) (show fP X.prog X.w _ _ _ (.tup ys) from ⟨hz,its,r',IsTup.new _ _⟩)
  exact⟨.ref h'.objs.size,_,I2,rfl,q _ (I1.hok.fresh (yAe _))⟩
 ·obtain⟨its,r',pl,hz⟩:=I.tuple hq;exact call_tuple_same pl ⟨.ref p,H,I,rfl,q⟩
def tyV(K:FrG)(T:String)(x:V)(H:Hp):Prop:=match x with
 | .str _=>T = "str"
 | .int _=>T = "int"
 | .ref p=>(T = "list" /\ ∃ xs,bR K H p xs)\/(T = "tuple" /\ ∃ o,K.lookup p=qq o/\o.cls=.type "tuple" /\ o.dict=qz) \/
    (T = "dict" /\ ((∃ aK,H p=qq (.dK aK))\/∃ aK,H p=qq (.dT aK)))\/(T = "set" /\ ∃ S n,H p=qq (.set S n))
 | _=>False
theorem aOx{aA:List (qv×Obj)}{σ:St}{H:Hp}{s:qj}{T:String}{x:V}{v:qx}(I:Inv X aA σ H s)(r:aX x v)(ty:tyV X.K T x H) :
 s.TypeIs v T/\∀ a,v=.ref a->∃ ob,s.heap.get? a=qq ob/\ob.dict=qz:=by
 cases x with
 | str z =>
   obtain⟨t,rfl⟩:=r;cases (show T = "str" from ty)
   exact⟨typeIs_str s z t,λ _ e=>nomatch e⟩
 | int i =>
   obtain⟨t,rfl⟩:=r;cases (show T = "int" from ty)
   exact⟨yv s i t,λ _ e=>nomatch e⟩
 | ref p =>
   cases r;rcases ty with ⟨rfl,xs,hq⟩ | ⟨rfl,o,hk,hc,hd⟩ | ⟨rfl,hk⟩ | ⟨rfl,S,n,hk⟩
   ·obtain⟨its,_,pl,_⟩:=I.list hq;refine⟨pl.isList.typeIs,λ a e=>?_⟩
    cases e;obtain⟨o,n,e,c,hd,_⟩:=pl;exact⟨o,e,hd⟩
   ·refine⟨⟨o,I.kIn p o hk,hc⟩,λ a e=>?_⟩
    cases e;exact⟨o,I.kIn _ o hk,hd⟩
   ·have z:∃ o,s.heap.get? p=qq o/\o.ExactDict:=by
     rcases hk with ⟨aK,hk⟩ | ⟨aK,hk⟩
     ·obtain⟨_,_,_,_,o,_,_,e,ex,_⟩:=I.hok p _ hk;exact⟨o,e,ex⟩
     ·obtain⟨_,_,_,_,o,_,_,e,ex,_⟩:=I.hok p _ hk;exact⟨o,e,ex⟩
    obtain⟨o,e,ex⟩:=z;refine⟨⟨o,e,ex.1⟩,λ a e2=>?_⟩
    cases e2;exact⟨o,e,ex.2.1⟩
   ·obtain⟨o,_,_,_,e,ex,_⟩:=I.hok p _ hk;refine⟨⟨o,e,ex.1⟩,λ a e2=>?_⟩
    cases e2;exact⟨o,e,ex.2.1⟩
 | _=>exact False.elim ty
def tBM(K:FrG)(T:String)(r:V->List V->Hp->VK->Prop)(to:TE)(t:TA):TE:=λ σ H Q=>to σ H λ x H1=>tyV K T x H1/\t σ H1 λ xs H2=>r x xs H2 Q
variable {o e : qw}{es : List qw}{to : TE}{t : TA}{name : Str}{apos cpos : Pos}{T id : String}{r : V -> List V -> Hp -> VK -> Prop}
theorem yD(pa:PlainAttrs T)(slot:Slot T name id)(hty:typeOf (.builtin id)=pure (.type "method_descriptor"))(hm:wC X id r)(ho:PE X o to)(ha:PA X (e::es) t)
 (hbase:attributeBase o name X.env (eval o X.env)=eval o X.env:=by rfl)
 (hfew:((backTo cpos (zj (e::es) X.env)).all (λ x=>!x.1)&&(backToKw cpos (keywordEach [] X.env)).all (λ x=>x.1.isSome)
   && decide ((e::es).length+([]:List Keyword).length+(if ([]:List Keyword).isEmpty then 0 else 1)<30))=true:=by rfl)
 (hline:(apos.endLine==cpos.line)=true:=by rfl) (hs:zj (e::es) X.env=(false,eval e X.env)::zj es X.env:=by rfl) (hplain:(backTo cpos (zj es X.env)).any (·.1)=false:=by rfl) :
 PE X (.Call (.Attribute o name apos) (e::es) [] cpos) (tBM X.K T r to t):=by
 intro aA s σ H Q I h;refine wpAny_Call_method_late hbase hfew hline rfl (aZ (ho aA s σ H _ I h) λ v s1 hPq29=>?_)
 obtain⟨x,H1,I1,r1,ty,q1⟩:=hPq29;obtain⟨h1,h2⟩:=aOx I1 r1 ty;refine⟨T,id,pa,slot,hty,h1,h2,?_⟩;have hA:=ha cpos aA s1 σ H1 _ I1 q1;rw[hs] at hA ⊢;refine Calls.callWith_builtin (by show(false||(backTo cpos (zj es X.env)).any (·.1))=false;rw[hplain]<;>rfl) (Calls.evalArgs_plain ?_)
 exact aZ hA λ us s2 ⟨vs,H2,I2,r2,q2⟩=>hm aA s2 σ H2 x vs v us Q I2 r1 r2 q2
end
end L2
namespace L2
open PySem PySem.Spec PyProof.Rows
def MtM(X:Cx)(id:String)(r:V->List V->Hp->VK->Prop):Prop:=
 ∀ (aA:List (qv×Obj)) (s:qj) (σ:St) (H:Hp) (x:V) (xs:List V) (v:qx) (us:List qx) (Q:VK),Inv X aA σ H s->aX x v->aT xs us->r x xs H Q ->
  qu (model X.prog X.w) X.A (call (.builtin id) (v::us)) (EP X aA σ Q) X.xe s
theorem aT.one:∀ {x:V}{us:List qx},aT [x] us->∃ u,us=[u]/\aX x u
 | _,_,.cons r .nil=>⟨_,rfl,r⟩
theorem aT.two:∀ {x y:V}{us:List qx},aT [x,y] us->∃ u v,us=[u,v]/\aX x u/\aX y v
 | _,_,_,.cons r (.cons q .nil)=>⟨_,_,rfl,r,q⟩
theorem aT.zero:∀ {us:List qx},aT [] us->us=[]
 | _,.nil=>rfl
theorem aT.dropLast{xs:List V}{us:List qx}(h:aT xs us):aT xs.dropLast us.dropLast:=by
 induction h with
 | nil=>exact .nil
 | cons r t ih =>
   cases t with
   | nil=>exact .nil
   | cons q t'=>exact .cons r ih
theorem aT.reverse{xs:List V}{us:List qx}(h:aT xs us):aT xs.reverse us.reverse:=by
 induction h with
 | nil=>exact .nil
 | cons r t ih=>rw[yEk,yEk];exact aT.append ih (.cons r .nil)
theorem aT.rep{xs:List V}{us:List qx}(h:aT xs us):∀ k:Nat,aT (yAh k xs).flatten (yAh k us).flatten
 | 0=>.nil
 | k+1=>by
   rw[yBd,yBd,yCq,yCq];exact aT.append h (aT.rep h k)
theorem wW(its:List qx):∀ (k:Nat) (aH:List qx),
 List.foldl (λ x1 x2=>x1++x2) aH.toArray (yAh k its.toArray)=(aH++(yAh k its).flatten).toArray
 | 0,aH=>by simp
 | k+1,aH=>by
   have e:aH.toArray++its.toArray=(aH++its).toArray:=by simp
   have e2:(aH++its)++(yAh k its).flatten=aH++(yAh (k+1) its).flatten:=by
    rw[yBd,yCq,yDm]
   rw[<- e2,<- wW its k (aH++its),<- e,yBd,yAj]
section
variable {X : Cx}{aA : List (qv×Obj)}{σ : St}{H : Hp}{s : qj}{l b : qv}{xs ys zs : List V}
theorem Inv.lset{its its':List qx}{n:Nat}{f:Array qx->Array qx}{t':Nat}(I:Inv X aA σ H s)(hH:H l=qq (.lst xs))
 (e:s.heap.get? l=qq {cls:=.type "list",data:=.seq its.toArray n }) (hf:f its.toArray=its'.toArray) (hv:aT ys its') (hz:ys.length<=qk) :
 Inv X aA σ (aW H l (.lst ys)) {s with heap:=s.heap.update l (Obj.mapSeq f),toks:=t' }:=by
 have q:=PySem.IsL.update e f;rw[hf] at q;refine I.write (x:=l) (e:=l) (by rw[hH];exact trivial) (.inl rfl) (λ b' u hb hu=>(yBt s.heap (Obj.mapSeq f) (Ne.symm hb)).trans hu) ⟨_,q⟩ ?_
 exact⟨hz,its',_,hv,q⟩
theorem Inv.lnew{its:List qx}{t':Nat}(I:Inv X aA σ H s)(hv:aT ys its)(hz:ys.length<=qk) :
 Inv X aA σ (aW H s.heap.objs.size (.lst ys)) {s with heap:=s.heap.push {cls:=.type "list",data:=.seq its.toArray },toks:=t' }:=
 I.laid (λ _ _ q=>hpS _ q) (yAe _) ⟨hz,its,0,hv,xAe _ rfl⟩
theorem Inv.fresh(I:Inv X aA σ H s):H s.heap.objs.size=qz:=I.hok.fresh (yAe _)
theorem Inv.lstM(I:Inv X aA σ H s)(hH:H l=qq (.lst xs)):xs.length<=qk/\∃ (its:List qx) (n:Nat),aT xs its/\xs.length=its.length/\s.heap.get? l=qq {cls:=.type "list",data:=.seq its.toArray n }:=by
 obtain⟨z,its,n,r,e⟩:=I.hok l _ hH;exact⟨z,its,n,r,r.length,e⟩
end
section
variable {X : Cx}
noncomputable def aFH:V->List V->Hp->VK->Prop:=λ x vs H Q=>∃ l xs y,x=.ref l/\vs=[y]/\H l=qq (.lst xs)/\xs.length<qk/\Q .non (aW H l (.lst (xs++[y])))
theorem aAV:MtM X "list.append" aFH:=by
 intro aA s σ H x vs v us Q I rx rv h;obtain⟨l,xs,y,rfl,rfl,hH,hz,q⟩:=h;cases rx;obtain⟨u,rfl,ru⟩:=rv.one;obtain⟨z,its,n,r,hl,e⟩:=I.lstM hH;refine jk F.slot_list_append ⟨_,e,rfl⟩ F.entry_list_append (F.args_list_append_2 _ _) (PySem.list_append l its.toArray n u (by rw[yAg];omega)) ⟨e,?_⟩
 refine⟨.non,_,I.lset (its':=its++[u]) hH e (by simp) (r.append (.cons ru .nil)) ?_,rfl,q⟩
 rw[yAr,List.length_singleton];omega
theorem aLF{α:Type}(xs:List α)(k:Nat):(yAh k xs).flatten.length=k*xs.length:=by
 induction k with
 | zero=>simp
 | succ k ih=>rw[yBd,yCq,yAr,ih,Nat.succ_mul,Nat.add_comm]
end
section
variable {prog : zq}{w : zx}{A : zv}{E : qx -> qj -> Prop}{s : qj}
end
section
variable {X : Cx}
end
end L2
namespace Att
open PySem PySem.W PySem.Calls PyProof.Rows
theorem aIn{P:Params}{h:Heap}:∀ (ns:List Int) (vs:List qx),WellAll P h vs (ns.map WData.int)->IntsAre vs ns:=by
 intro ns
 induction ns with
 | nil =>
   intro vs w;rw[yCh] at w;cases w;exact .nil
 | cons n ns ih =>
   intro vs w;rw[yAi] at w;cases w with
   | cons a b =>
     cases a;exact .cons _ _ (ih _ b)
theorem script_of{l:OpenLaw}{n:Nat}(hn:l.most=qq n){P:Params}{h:Heap}{args:List WData}{vals:List qx}
 (hpre:l.row.toRowW.claim.pre args=true) (hwl:WellAll P h vals args) :
 ∃ a vs ns,vals=[Value.ref a]/\args=[WData.list (ns.map WData.int)]/\h.get? a=qq {cls:=.type "list",data:=.seq vs.toArray }/\IntsAre vs ns/\ns.length<=n:=by
 have hsh:WShape.hasAll [] args [.list .int]=true:=(pre_splitW hpre).1;have hc:l.pre.holds [] {args:=args }=true:=(pre_splitW hpre).2;obtain⟨d,r,rfl,h1,h2⟩:=hasAllW_cons hsh;obtain rfl:=hasAllW_nil h2;obtain⟨xs,rfl,h3⟩:=hasW_list h1;obtain⟨ns,rfl⟩:=items_int h3;have cE:ns.length<=n:=by
  unfold OpenLaw.pre at hc;have h4:(WTm.not (.lt (.lit (.int (n:Int))) (.len (.arg 0)))).holds [] {args:=[.list (ns.map .int)] }=true:=by
   have h4:=(holds_andW hc).1;rw[hn] at h4;exact h4
  have h5:=condW_of h4 (w_not (w_lt w_lit (w_len_list (w_arg rfl))));rw[yAb] at h5;refine yEx λ q=>?_
  have q':(n:Int)<((ns.length:Nat):Int):=by omega
  first
   | (rw[dqT q'] at h5;exact absurd h5 (by decide))
   | (simp at h5;omega)
 cases hwl with
 | cons w1 w2 =>
   cases w2;cases w1 with
   | list ho hall=>exact⟨_,_,ns,rfl,rfl,ho,aIn ns _ hall,cE⟩
theorem post_true(l:OpenLaw)(args:List WData):l.row.toRowW.claim.post args (.bool true) args=true:=
 postW_of (r:=l.row.toRowW) (X:=(true==true))
  (show WShape.has [] (.bool true) .bool=true by first | rfl | decide | simp[WShape.has,WShape.arms,WShape.armsAll])
  (show(WTm.eq .res (.lit (.bool true))).value [] {args:=args,res:=qq (.bool true),after:=args }=qq (.bool (true==true)) from w_eq_bool (w_res rfl) w_lit) rfl
theorem attach_call{l:OpenLaw}{n:Nat}{q:zq}{loose:List Str}{XP:(Str->Option qx)->Heap->Prop}{YP:zx->Heap->Prop}{d:DefRec}
 (hn:l.most=qq n) (hdf:d.params.defaults=[])
 (call:∀ (w:zx) (s₀ s₁:qj) (mg mb:Str->Option qx) (fa:qv) (o:Obj) (pm cd doc:qx) (a:qv) (vs:List qx) (ns:List Int),
   Ground q loose [] XP w s₀ mg mb s₁.heap->YP w s₁.heap ->
   s₁.heap.get? fa=qq o->o.data=.func (docDef d.name d.params d.body d.scope pm cd doc)->s₁.heap.CodeRec cd d.name->mg d.name=qq (.ref fa) ->
   s₁.heap.get? a=qq {cls:=.type "list",data:=.seq vs.toArray }->IntsAre vs ns->ns.length<=n->s₁.gens = #[] ->
   vo (model l.prog w) callerA (.call (.ref fa) ⟨[.ref a],[]⟩) (λ r s'=>r=.ok (.ret (.bool true))/\OldK s₁.heap s'.heap/\s'.os=s₁.os/\AllBare s'.gens) s₁) :
 WalkO q loose XP YP l.row.toRowW d [] (λ f vs=>PySem.call f vs):=by
 intro w s₀ s₁ mg mb G Y fa o pm cd doc dV kV ho hd hcd hD hmg hg args vals as hpre hlay hrd hwl hlo;obtain rfl:dV=.none:=Dflts.none hD hdf;obtain rfl:kV=.none:=Dflts.noKw hD;obtain⟨a,vs,ns,rfl,rfl,hobj,hints,cE⟩:=script_of hn hpre hwl;refine enter_call (codeAny_mono (call w s₀ s₁ mg mb fa o pm cd doc a vs ns G Y ho (fd_plain hd) hcd hmg hobj hints cE hg) λ r s' hq=>?_)
 obtain⟨rfl,h2,h3,h4⟩:=hq;exact⟨.inl ⟨.bool true,.bool true,[],rfl,λ _=>rfl,.bool true,post_true l _,λ _=>⟨List.Pairwise.nil,λ _ hm=>(nomatch hm)⟩⟩,h2,h3,h4⟩
section
variable {prog : zq}{w : zx}{A : zv}{E : qx -> qj -> Prop}{s : qj}{K : Frag}
noncomputable def aSr(h:Heap)(L d:qv):List (qv×Obj):=(yAw h.objs.size).filterMap λ a=>if a=L\/a=d then qz else (h.get? a).map λ o=>(a,o)
end
end Att
namespace L2
open PySem PySem.Spec PyProof.Rows
theorem aD1:∀ {vs:List qx}{ns:List Int},IntsAre vs ns->aT (ns.map V.int) vs
 | _,_,.nil=>.nil
 | _,_,.cons n t h=>.cons ⟨t,rfl⟩ (aD1 h)
def aCE(H:Hp):Prop:=∀ b,H b=qz\/∃ o xs,H b=qq (.frz o (.lst xs))
theorem law_call{P:zq}{w:zx}{K:FrG}{mg mb:Str->Option qx}{CX:iL}{k:Nat}{fa a:qv}{fd:jz}{x:Str}{sp:Sp}{s₁:qj}{vs:List qx}{ns:List Int}
 (KX:K.In s₁.heap) (hns:s₁.heap.Ns qy mg) (hb:s₁.heap.Ns builtinsNs mb) (hbb:∀ x:Str,x ≠ "__name__" -> mb x=zu x) (hlim:s₁.heap.NoLimit) (hg:s₁.gens = #[])
 (ha:s₁.heap.get? a=qq {cls:=.type "list",data:=.seq vs.toArray }) (hi:IntsAre vs ns) (hl:ns.length<=qk) (hr:Room k callerA)
 (F:∀ base:Heap,K.In base->base.Ns qy mg->FnOk P w K mg base CX k fa fd [x] sp) (hbind:∀ (s:qj) (u:qx),BindsTo s fd ⟨[u],[]⟩ [(x,u)])
 (hsp:∀ H:Hp,aCE H->bR K H a (ns.map V.int)->sp [.ref a] H (λ v _=>v=.bl true) λ _ _ _=>False)
 (hCX:∀ H e s',CX [] H s₁ (λ _ _ _=>False) e s'->False) :
 vo (model P w) callerA (.call (.ref fa) ⟨[.ref a],[]⟩) (λ r s'=>r=.ok (.ret (.bool true))/\OldK s₁.heap s'.heap/\s'.os=s₁.os/\AllBare s'.gens) s₁:=by
 have rv:=aD1 hi;have lenV:=hi.length;have core:∀ H:Hp,aCE H->bR K H a (ns.map V.int)->dD P w H s₁.heap->(∀ b,H b≠qz->b=a)->(H a≠qz->K.lookup a=qz) ->
  vo (model P w) callerA (.call (.ref fa) ⟨[.ref a],[]⟩) (λ r s'=>r=.ok (.ret (.bool true))/\OldK s₁.heap s'.heap/\s'.os=s₁.os/\AllBare s'.gens) s₁:=by
  intro H hO hS hok hA hK;have mO:∀ {b:qv}{o:Obj},s₁.heap.get? b=qq o->H b=qz->(lY s₁.heap H).get? b=qq o:=λ e n=>aKp e n
  have noA:∀ {b:qv}{o:Obj}{es:Array DictEntry}{ep:Nat},s₁.heap.get? b=qq o->o.data=.dict es ep->H b=qz:=λ {b o es ep} e d=>by
   cases q:H b with
   | none=>rfl
   | some u =>
     have e':b=a:=hA b (by rw[q];simp)
     subst e';rw[ha] at e;cases e;have d':Data.seq vs.toArray _=Data.dict es ep:=d;cases d'
  have nsK:∀ {b:qv}{m:Str->Option qx},s₁.heap.Ns b m->(lY s₁.heap H).Ns b m:=λ {b m} ⟨o,es,ep,e,d,r⟩=>⟨o,es,ep,mO e (noA e d),d,r⟩
  have hKb:K.In (lY s₁.heap H):=λ b o e=>mO (KX b o e) (by
   cases q:H b with
   | none=>rfl
   | some u =>
     have e':b=a:=hA b (by rw[q];simp)
     subst e';rw[hK (by rw[q];simp)] at e;cases e)
  have hM:Mod K mg (lY s₁.heap H):=⟨hKb,nsK hns,⟨mb,nsK hb,hbb⟩,let ⟨mc,h1,h2⟩:=hlim;⟨mc,nsK h1,h2⟩⟩;have e0:Env0 P w K mg (lY s₁.heap H) callerA [] s₁ H:=⟨rfl,hM,λ b o e=>aMI e,yEq (aJW _ _),trivial,λ b hb=>absurd (show b∈([]:List qv) from hb) (by simp),hok,.of_eq hg⟩
  refine codeAny_mono ((F _ hKb (nsK hns)).run callerA [] s₁ H ⟨[.ref a],[]⟩ [.ref a] [.ref a] _ _ hr e0 (hbind s₁ (.ref a)) (.cons rfl .nil) (hsp H hO hS)) λ r s' h=>?_
  cases r with
  | error e=>exact(hCX H e s' h).elim
  | ok fl =>
    cases fl with
    | next=>exact False.elim h
    | brk=>exact False.elim h
    | cont=>exact False.elim h
    | ret u =>
      obtain⟨v,H',os,bare,un,hok',r',q⟩:=h;have q':v=.bl true:=q;subst q';obtain rfl:u=Value.bool true:=r';refine⟨rfl,OldK.of_keep λ b o e=>?_,os,bare⟩
      cases q:H b with
      | none=>exact un.keep b o e q (by intro z;exact absurd (show b∈([]:List qv) from z) (by simp)) (by simp)
      | some u =>
        rcases hO b with z | ⟨ob,xs,z⟩
        ·rw[q] at z;cases z
        ·have z2:=un.frzs b ob _ z;obtain⟨e1,_⟩:=hok b _ z;obtain⟨e2,_⟩:=hok' b _ z2;rw[e] at e1;cases e1;exact e2
 cases hk:K.lookup a with
 | some o =>
   have e:=KX a o hk;rw[ha] at e;cases e;refine core (λ _=>qz) (λ _=>.inl rfl) (.inr ⟨_,vs.toArray,_,hk,rfl,rfl,rfl,by rw[yAg,lenV];exact hl,by simpa using rv⟩) (λ b u z=>by have z':(qz:Option HO)=qq u:=z;cases z') (λ b z=>absurd rfl z) λ z=>absurd rfl z
 | none =>
   refine core (λ b=>if b=a then qq (.frz {cls:=.type "list",data:=.seq vs.toArray } (.lst (ns.map V.int))) else qz) (λ b=>?_) (.inl (.inr ⟨{cls:=.type "list",data:=.seq vs.toArray },if_pos rfl⟩)) (λ b u z=>?_) (λ b z=>?_) λ _=>hk
   ·by_cases hb:b=a
    ·exact .inr ⟨_,_,if_pos hb⟩
    ·exact .inl (if_neg hb)
   ·by_cases hb:b=a
    ·have z':=(if_pos hb).symm.trans z;cases z';subst hb;exact⟨ha,by rw[yAb];exact hl,vs,_,rv,ha⟩
    ·have z':=(if_neg hb).symm.trans z;cases z'
   ·by_cases hb:b=a
    ·exact hb
    ·exact absurd (if_neg hb) z
end L2
namespace L2
open PySem PySem.Spec PyProof.Rows
noncomputable abbrev KOf{K:FrG}{h:Heap}(_:K.In h):FrG:=K
theorem aSq{l:yFw}{n k:Nat}{q:zq}{loose:List Str}{XP:(Str->Option qx)->Heap->Prop}{YP:zx->Heap->Prop}{d:DefRec}{K:Params->FrG}{CX:zx->iL}{sp:zx->Sp}{x:Str}
 (hn:l.most=qq n) (hn2:n<=qk) (hdf:d.params.defaults=[]) (hr:Room k callerA)
 (hY:∀ (w:zx) (h:Heap),YP w h->(K w.params).In h)
 (F:∀ (w:zx) (mg:Str->Option qx) (fa:qv) (h:Heap),(K w.params).In h->h.Ns qy mg->mg d.name=qq (.ref fa) ->
   ∃ fd:jz,(∀ (s:qj) (u:qx),BindsTo s fd ⟨[u],[]⟩ [(x,u)]) /\
    ∀ base:Heap,(K w.params).In base->base.Ns qy mg->FnOk l.prog w (K w.params) mg base (CX w) k fa fd [x] (sp w))
 (hsp:∀ (w:zx) (H:Hp) (a:qv) (ns:List Int),ns.length<=n->aCE H->bR (K w.params) H a (ns.map V.int)->sp w [.ref a] H (λ v _=>v=.bl true) λ _ _ _=>False)
 (hCX:∀ (w:zx) (H:Hp) (s:qj) (e:qx) (s':qj),CX w [] H s (λ _ _ _=>False) e s'->False) :
 PySem.W.WalkO q loose XP YP l.row.toRowW d [] (λ f vs=>PySem.call f vs):=by
 refine Att.attach_call hn hdf λ w s₀ s₁ mg mb fa o pm cd doc a vs ns G Y ho hd hcd hmg hobj hints cE hg=>?_
 have KX:=hY w _ Y;obtain⟨fd,hb,hF⟩:=F w mg fa _ KX G.T.g hmg;exact law_call KX G.T.g G.T.b G.T.builtins G.T.nolimit hg hobj hints (xAg cE hn2) hr hF hb (λ H hO hS=>hsp w H a ns cE hO hS) λ H e s'=>hCX w H s₁ e s'
end L2
namespace L2
open PySem PySem.Spec PyProof.Rows
noncomputable def tJ(s:zy)(j:Nat):zy:=match s with
 | .ClassDef _ _ _ body _ _ _ _ _ _ _=>body.getD j (.Pass ⟨0,0,0,0⟩)
 | _=>.Pass ⟨0,0,0,0⟩
noncomputable def iA(s:zy):Arguments:=match s with
 | .FunctionDef _ a _ _ _ _ _ _ _ _=>a
 | _=>{posonlyargs:=[],args:=[],vararg:=qz,kwonlyargs:=[],kw_defaults:=[],kwarg:=qz,defaults:=[] }
noncomputable def eQ(s:zy):List zy:=match s with
 | .FunctionDef _ _ b _ _ _ _ _ _ _=>b
 | _=>[]
noncomputable def bP(s:zy):zw:=match s with
 | .FunctionDef _ _ _ _ _ _ sc _ _ _=>sc
 | _=>{kind:=.function,names:=[],isGenerator:=false,isCoroutine:=false }
noncomputable abbrev fV:iL:=λ _ _ _ _ _ _=>False
noncomputable abbrev E0:XK:=λ _ _ _=>False
theorem aHg{X:Cx}:xR fV X E0:=λ _ _ _ _ _ _ _ h=>h.elim
structure Fun(K:FrG)(x bN:Str)(st:zy)(f:qv)(fd:jz):Prop where
 ex:∃ (oc:qx) (od:Option qv) (kV doc pm:qx) (an:Option qv) (cdv ct:qx) (osl:Array (Option qx)),
  fd=yCa x bN (iA st) (eQ st) (bP st) .none kV doc pm an cdv ct/\K.lookup f=qq ⟨oc,od,.func fd,osl⟩/\yDu K cdv bN=true
 kp:yBw K (.ref f)=true
section
variable {P : zq}{w : zx}{K : FrG}{mg : Str -> Option qx}{base : Heap}
theorem Fun.ok{x bN:Str}{st:zy}{f:qv}{fd:jz}{N ps:List Str}{k:Nat}{sp:Sp}(F:Fun K x bN st f fd)(S:FnScope N ps (bP st))(len:∀ vs H Q E,sp vs H Q E->vs.length=ps.length)
 (hbody:∀ (cdv:qx) (A:zv) (outer:List Env) (s:qj) (H:Hp) (vs:List V) (Q:VK) (E:XK),Room k (A.deeper (envOfC bN (bP st) s.heap.objs.size f cdv))->sp vs H Q E ->
   ∃ t,bW (iG fV P w K mg base N bN (bP st) f cdv A outer s H E).nox (eQ st) t/\t {nx:=λ _ H'=>Q .non H',rt:=Q } (start N vs) H):FnOk P w K mg base fV (k+1) f fd ps sp:=by
 obtain⟨oc,od,kV,doc,pm,an,cdv,ct,osl,rfl,lk,hcd⟩:=F.ex;refine aGV lk hcd S len λ A outer s H vs Q E hr hsp=>?_
 obtain⟨t,h,q⟩:=hbody cdv A outer s H vs Q E hr hsp;exact⟨t,h.nox,q⟩
theorem Fun.binds{x bN:Str}{st:zy}{f:qv}{fd:jz}{ps:List Str}(F:Fun K x bN st f fd)
 (h:∀ (kV doc pm:qx) (an:Option qv) (cdv ct:qx) (us:List qx),us.length=ps.length->bindArgs (yCa x bN (iA st) (eQ st) (bP st) .none kV doc pm an cdv ct) ⟨us,[]⟩=pure (ps.zip us)):eA K fd ps []:=by
 obtain⟨oc,od,kV,doc,pm,an,cdv,ct,osl,rfl,lk,hcd⟩:=F.ex;exact .all (h kV doc pm an cdv ct)
theorem aGz{x bN:Str}{st:zy}{f:qv}{oc:qx}{od an:Option qv}{osl:Array (Option qx)}{kV doc pm cdv ct:qx}(l:K.lookup f=qq ⟨oc,od,.func (yCa x bN (iA st) (eQ st) (bP st) .none kV doc pm an cdv ct),osl⟩)
 (c:yDu K cdv bN=true) (k:yBw K (.ref f)=true):Fun K x bN st f (yCa x bN (iA st) (eQ st) (bP st) .none kV doc pm an cdv ct):=⟨⟨oc,od,kV,doc,pm,an,cdv,ct,osl,rfl,l,c⟩,k⟩
end
section
variable {X : Cx}
end
theorem pF{A B:Prop}(h:B):if false=true then A else B:=by
 rw[if_neg yAu];exact h
theorem pH{A B:Prop}(h:A):if true=true then A else B:=by
 rw[if_pos rfl];exact h
def bY(H H':Hp):Prop:=∀ b o,H b=qq o->H' b=qq o
theorem bY.refl(H:Hp):bY H H:=λ _ _ h=>h
theorem bY.trans{H H1 H2:Hp}(a:bY H H1)(b:bY H1 H2):bY H H2:=λ c o h=>b c o (a c o h)
theorem bY.free{H H':Hp}(e:bY H H'){l:qv}(h:H' l=Option.none):H l=Option.none:=by
 cases q:H l with
 | none=>rfl
 | some o =>
   rw[e l o q] at h;cases h
theorem bY.seq{K:FrG}{H H':Hp}{a:qv}{xs:List V}(e:bY H H')(h:bR K H a xs):bR K H' a xs:=by
 rcases h with (h | ⟨o,h⟩) | h
 ·exact .inl (.inl (e _ _ h))
 ·exact .inl (.inr ⟨o,e _ _ h⟩)
 ·exact .inr h
end L2
set_option maxHeartbeats 4000000
namespace EV
open PySem L2 PySem.Spec PyProof.Rows
abbrev D:=PyData
inductive W where
 | d (x:D) | loc (n:Nat) | exc (c:Str) (r:D)
abbrev aC:=List (Option (List D))
abbrev aV:=List (Option W)
abbrev St:=L2.St
noncomputable def uW(F:Hp)(d:Option qv):D->Prop
 | .none=>d=qz
 | .int i=>∃ dx,d=qq dx/\F dx=qq (.xd [("row",.int i)])
 | _=>False
def jD(K:FrG)(F:Hp)(a:qv)(c:Str)(r:D):Prop:=∃ C oe,F a=qq (.ext λ h=>h.get? a=qq oe)/\oe.cls=.ref C/\PySem.W.notCls oe=true/\yCc K qy c=qq (qq (.ref C))/\uW F oe.dict r
theorem uW.mono{F F':Hp}(e:bY F F'){d:Option qv}{r:D}(h:uW F d r):uW F' d r:=by
 cases r with
 | none=>exact h
 | int i=>obtain⟨dx,h1,h2⟩:=h;exact⟨dx,h1,e _ _ h2⟩
 | _=>exact h
theorem jD.mono{K:FrG}{F F':Hp}(e:bY F F'){a:qv}{c:Str}{r:D}(h:jD K F a c r):jD K F' a c r:=by
 obtain⟨C,oe,h1,h2,h3,h4,h5⟩:=h;exact⟨C,oe,e _ _ h1,h2,h3,h4,h5.mono e⟩
section
variable (K : FrG)(F : Hp)
mutual
inductive Den:D->V->Prop
 | non:Den .none .non
 | bl (b:Bool):Den (.bool b) (.bl b)
 | int (i:Int):Den (.int i) (.int i)
 | str (x:Str):Den (.str x) (.str x)
 | lst {a:qv}{xs:List V}{ds:List D}:bR K F a xs->DenL ds xs->Den (.list ds) (.ref a)
 | tup {a:qv}{xs:List V}{ds:List D}:bV K F a xs->DenL ds xs->Den (.tuple ds) (.ref a)
 | exc {a:qv}{c:Str}{r:D}:jD K F a c r->Den (.dict [(.str c,r)]) (.ref a)
inductive DenL:List D->List V->Prop
 | nil:DenL [] []
 | cons {d:D}{ds:List D}{x:V}{xs:List V}:Den d x->DenL ds xs->DenL (d::ds) (x::xs)
end
end
theorem iT{K:FrG}{H H':Hp}{a:qv}{xs:List V}(e:bY H H')(h:bV K H a xs):bV K H' a xs:=by
 rcases h with (h | ⟨o,h⟩) | h
 ·exact .inl (.inl (e _ _ h))
 ·exact .inl (.inr ⟨o,e _ _ h⟩)
 ·exact .inr h
section
variable {K : FrG}{F F' : Hp}
mutual
theorem Den.mono(e:bY F F'):∀ {d:D}{v:V},Den K F d v->Den K F' d v
 | _,_,.non=>.non
 | _,_,.bl b=>.bl b
 | _,_,.int i=>.int i
 | _,_,.str x=>.str x
 | _,_,.lst h r=>.lst (e.seq h) (DenL.mono e r)
 | _,_,.tup h r=>.tup (iT e h) (DenL.mono e r)
 | _,_,.exc h=>.exc (h.mono e)
theorem DenL.mono(e:bY F F'):∀ {ds:List D}{xs:List V},DenL K F ds xs->DenL K F' ds xs
 | _,_,.nil=>.nil
 | _,_,.cons h r=>.cons (Den.mono e h) (DenL.mono e r)
end
theorem DenL.length:∀ {ds:List D}{xs:List V},DenL K F ds xs->ds.length=xs.length
 | _,_,.nil=>rfl
 | _,_,.cons _ r=>congrArg (· + 1) (DenL.length r)
theorem DenL.get:∀ {ds:List D}{xs:List V}{i:Nat}{d:D},DenL K F ds xs->ds[i]? = qq d->∃ x,xs[i]? = qq x/\Den K F d x
 | _,_,_,_,.nil,e=>by simp at e
 | _,_,0,_,.cons h _,e=>by simp at e;subst e;exact⟨_,rfl,h⟩
 | _,_,i+1,d,.cons _ r,e=>by
   obtain⟨x,h1,h2⟩:=DenL.get (i:=i) (d:=d) r (by simpa using e)
   exact⟨x,by simpa using h1,h2⟩
theorem DenL.append:∀ {ds es:List D}{xs ys:List V},DenL K F ds xs->DenL K F es ys->DenL K F (ds++es) (xs++ys)
 | _,_,_,_,.nil,s=>s
 | _,_,_,_,.cons h r,s=>.cons h (DenL.append r s)
theorem DenL.take:∀ {ds:List D}{xs:List V} (n:Nat),DenL K F ds xs->DenL K F (ds.take n) (xs.take n)
 | _,_,0,_=>.nil
 | _,_,_+1,.nil=>.nil
 | _,_,n+1,.cons h r=>.cons h (DenL.take n r)
theorem DenL.drop:∀ {ds:List D}{xs:List V} (n:Nat),DenL K F ds xs->DenL K F (ds.drop n) (xs.drop n)
 | _,_,0,r=>r
 | _,_,_+1,.nil=>.nil
 | _,_,n+1,.cons _ r=>DenL.drop n r
theorem DenL.set:∀ {ds:List D}{xs:List V} (i:Nat) {d:D}{x:V},DenL K F ds xs->Den K F d x->DenL K F (ds.set i d) (xs.set i x)
 | _,_,_,_,_,.nil,_=>.nil
 | _,_,0,_,_,.cons _ r,h=>.cons h r
 | _,_,i+1,_,_,.cons q r,h=>.cons q (DenL.set i r h)
theorem DenL.reverse:∀ {ds:List D}{xs:List V},DenL K F ds xs->DenL K F ds.reverse xs.reverse
 | _,_,.nil=>.nil
 | _,_,.cons h r=>by
   rw[yEk,yEk];exact DenL.append (DenL.reverse r) (.cons h .nil)
theorem DenL.rep{ds:List D}{xs:List V}(h:DenL K F ds xs):∀ n:Nat,DenL K F (yAh n ds).flatten (yAh n xs).flatten
 | 0=>.nil
 | n+1=>by
   rw[yBd,yBd,yCq,yCq];exact h.append (DenL.rep h n)
theorem DenL.of_ints:∀ (ns:List Int),DenL K F (ns.map yAp) (ns.map V.int)
 | []=>.nil
 | n::r=>.cons (.int n) (DenL.of_ints r)
end
structure Rel(K:FrG)(F:Hp)(L:List qv)(S:aC)(H:Hp):Prop where
 sub:bY F H
 nd:L.Nodup
 len:L.length=S.length
 loc:∀ (n:Nat) (a:qv) (ds:List D),L[n]? = qq a->S[n]? = qq (qq ds)->F a=qz/\∃ xs,H a=qq (.lst xs)/\DenL K F ds xs
 tr:∀ (n:Nat) (a:qv),L[n]? = qq a->∃ xs,H a=qq (.lst xs)
noncomputable def eK(K:FrG)(F:Hp)(L:List qv):W->V->Prop
 | .d x,v=>Den K F x v
 | .loc n,v=>∃ a,L[n]? = qq a/\v=.ref a
 | .exc c r,v=>∃ a,v=.ref a/\jD K F a c r
structure EnvR(K:FrG)(F:Hp)(L:List qv)(env:aV)(σ:St):Prop where
 len:env.length=σ.length
 get:∀ (i:Nat) (w:W),env[i]? = qq (qq w)->∃ v,σ[i]? = qq (qq v)/\eK K F L w v
structure Gr(F:Hp)(L:List qv)(F':Hp)(L':List qv):Prop where
 f:bY F F'
 l:∃ M,L'=L++M
section
variable {K : FrG}{F F' F'' H H' : Hp}{L L' L'' : List qv}{S S' : aC}
theorem Gr.refl:Gr F L F L:=⟨bY.refl _,[],by simp⟩
theorem Gr.trans(a:Gr F L F' L')(b:Gr F' L' F'' L''):Gr F L F'' L'':=by
 obtain⟨f1,M,rfl⟩:=a;obtain⟨f2,N,rfl⟩:=b;exact⟨f1.trans f2,M++N,by rw[yDm]⟩
theorem Gr.get(g:Gr F L F' L'){n:Nat}{a:qv}(h:L[n]? = qq a):L'[n]? = qq a:=by
 obtain⟨_,M,rfl⟩:=g;rw[xAj (gIm h).1];exact h
theorem eK.mono(g:Gr F L F' L'){w:W}{v:V}(h:eK K F L w v):eK K F' L' w v:=by
 cases w with
 | d x=>exact Den.mono g.f h
 | loc n=>obtain⟨a,e,r⟩:=h;exact⟨a,g.get e,r⟩
 | exc c r=>obtain⟨a,e,h⟩:=h;exact⟨a,e,h.mono g.f⟩
theorem EnvR.mono(g:Gr F L F' L'){env:aV}{σ:St}(h:EnvR K F L env σ):EnvR K F' L' env σ:=
 ⟨h.len,λ i w e=>let ⟨v,e1,r⟩:=h.get i w e;⟨v,e1,r.mono g⟩⟩
theorem EnvR.set{env:aV}{σ:St}(h:EnvR K F L env σ)(i:Nat){w:W}{v:V}(r:eK K F L w v):EnvR K F L (env.set i (qq w)) (σ.set i (qq v)):=by
 refine⟨by rw[yAt,yAt];exact h.len,λ j u e=>?_⟩
 by_cases hj:i=j
 ·subst hj;have hl:i<env.length:=by
   rcases yEr i env.length with q | q
   ·exact q
   ·rw[yDh (by rw[yAt];exact q)] at e;cases e
  rw[yAq hl] at e;cases e;exact⟨v,yAq (by rw[<- h.len];exact hl),r⟩
 ·rw[yAo hj] at e;obtain⟨x,e1,r1⟩:=h.get j u e;exact⟨x,by rw[yAo hj];exact e1,r1⟩
theorem eZ{p:qv}{o:HO}(h:H p=qz):bY H (aW H p o):=λ b u q=>by rw[bB (eD q h)];exact q
theorem Rel.new(r:Rel K F L S H){p:qv}{o:HO}(h:H p=qz):Rel K (aW F p o) L S (aW H p o):=by
 have hF:F p=qz:=r.sub.free h;refine⟨λ b u q=>?_,r.nd,r.len,λ n a ds e1 e2=>?_,λ n a e=>?_⟩
 ·by_cases hb:b=p
  ·subst hb;rw[cA] at q ⊢;exact q
  ·rw[bB hb] at q ⊢;exact r.sub _ _ q
 ·obtain⟨f,xs,e3,dl⟩:=r.loc n a ds e1 e2;have ne:a≠p:=eD e3 h;exact⟨by rw[bB ne];exact f,xs,by rw[bB ne];exact e3,DenL.mono (eZ hF) dl⟩
 ·obtain⟨xs,hx⟩:=r.tr n a e;exact⟨xs,by rw[bB (eD hx h)];exact hx⟩
theorem Gr.new{p:qv}{o:HO}(h:F p=qz):Gr F L (aW F p o) L:=⟨eZ h,[],by simp⟩
theorem Rel.newLoc(r:Rel K F L S H){p:qv}{xs:List V}{ds:List D}(h:H p=qz)(dl:DenL K F ds xs):Rel K F (L++[p]) (S++[qq ds]) (aW H p (.lst xs)):=by
 have hF:F p=qz:=r.sub.free h;refine⟨λ b u q=>?_,?_,by rw[yAr,yAr,r.len]<;>rfl,λ n a es e1 e2=>?_,λ n a e=>?_⟩
 ·rw[bB (eD q hF)];exact r.sub _ _ q
 ·rw[yFo];refine⟨r.nd,by simp,λ a ha b hb=>?_⟩
  rw[yBr] at hb;subst hb;obtain⟨n,hn⟩:=List.getElem?_of_mem ha;obtain⟨xs,hx⟩:=r.tr n a hn;exact eD hx h
 ·by_cases hn:n<L.length
  ·rw[xAj hn] at e1;rw[xAj (by rw[<- r.len];exact hn)] at e2
   obtain⟨f,ys,e3,dl'⟩:=r.loc n a es e1 e2;exact⟨f,ys,by rw[bB (eD e3 h)];exact e3,dl'⟩
  ·rw[yAd (by omega)] at e1
   rw[yAd (by rw[<- r.len];omega)] at e2
   have z:n-L.length=0:=by
    have:=(gIm e1).1;simp at this;omega
   rw[<- r.len] at e2;rw[z] at e1 e2;simp at e1 e2;subst e1 e2;exact⟨hF,xs,cA,dl⟩
 ·by_cases hn:n<L.length
  ·rw[xAj hn] at e;obtain⟨ys,hy⟩:=r.tr n a e;exact⟨ys,by rw[bB (eD hy h)];exact hy⟩
  ·rw[yAd (by omega)] at e
   have z:a=p:=by
    have h1:=xAi e;simpa using h1
   exact⟨xs,by rw[z];exact cA⟩
theorem Rel.lay(r:Rel K F L S H){p:qv}{o:HO}(h:H p=qz):Rel K F L S (aW H p o):=by
 refine⟨λ b u q=>by rw[bB (eD q (r.sub.free h))];exact r.sub _ _ q,r.nd,r.len,λ n a ds e1 e2=>?_,λ n a e=>?_⟩
 ·obtain⟨f,xs,e3,dl⟩:=r.loc n a ds e1 e2;exact⟨f,xs,by rw[bB (eD e3 h)];exact e3,dl⟩
 ·obtain⟨xs,hx⟩:=r.tr n a e;exact⟨xs,by rw[bB (eD hx h)];exact hx⟩
theorem Rel.notin(r:Rel K F L S H){p:qv}(h:H p=qz):p ∉ L:=λ hp=>by
 obtain⟨n,hn⟩:=List.getElem?_of_mem hp;obtain⟨xs,hx⟩:=r.tr n p hn;rw[h] at hx;cases hx
theorem Rel.adopt(r:Rel K F L S H){p:qv}{xs:List V}(hF:F p=qz)(hL:p ∉ L)(hH:H p=qq (.lst xs)):Rel K (aW F p (.lst xs)) L S H:=by
 refine⟨λ b u q=>?_,r.nd,r.len,λ n a ds e1 e2=>?_,r.tr⟩
 ·by_cases hb:b=p
  ·subst hb;rw[cA] at q;rw[hH];exact q
  ·rw[bB hb] at q;exact r.sub _ _ q
 ·obtain⟨f,ys,e3,dl⟩:=r.loc n a ds e1 e2;have ne:a≠p:=λ z=>hL (by rw[<- z];exact xAi e1)
  exact⟨by rw[bB ne];exact f,ys,e3,dl.mono (eZ hF)⟩
theorem Rel.adoptLoc(r:Rel K F L S H){p:qv}{xs:List V}{ds:List D}(hF:F p=qz)(hL:p ∉ L)(hH:H p=qq (.lst xs))(dl:DenL K F ds xs):Rel K F (L++[p]) (S++[qq ds]) H:=by
 refine⟨r.sub,?_,by rw[yAr,yAr,r.len]<;>rfl,λ n a es e1 e2=>?_,λ n a e=>?_⟩
 ·rw[yFo];refine⟨r.nd,by simp,λ a ha b hb=>?_⟩
  rw[yBr] at hb;subst hb;exact λ z=>hL (z▸ha)
 ·by_cases hn:n<L.length
  ·rw[xAj hn] at e1;rw[xAj (by rw[<- r.len];exact hn)] at e2
   exact r.loc n a es e1 e2
  ·rw[yAd (by omega)] at e1
   rw[yAd (by rw[<- r.len];omega)] at e2
   have z:n-L.length=0:=by
    have:=(gIm e1).1;simp at this;omega
   rw[<- r.len] at e2;rw[z] at e1 e2;simp at e1 e2;subst e1 e2;exact⟨hF,xs,hH,dl⟩
 ·by_cases hn:n<L.length
  ·rw[xAj hn] at e;exact r.tr n a e
  ·rw[yAd (by omega)] at e
   have z:a=p:=by
    have h1:=xAi e;simpa using h1
   exact⟨xs,by rw[z];exact hH⟩
theorem Gr.newLoc{p:qv}:Gr F L F (L++[p]):=⟨bY.refl _,[p],rfl⟩
theorem Rel.put(r:Rel K F L S H){n:Nat}{a:qv}{ys:List V}{es:List D}(e:L[n]? = qq a)(hF:F a=qz)(dl:DenL K F es ys):Rel K F L (S.set n (qq es)) (aW H a (.lst ys)):=by
 refine⟨λ b u q=>by rw[bB (eD q hF)];exact r.sub _ _ q,r.nd,by rw[yAt];exact r.len,λ m b fs e1 e2=>?_,λ m b e1=>?_⟩
 ·by_cases hm:n=m
  ·subst hm;rw[e] at e1;cases e1;have hl:n<S.length:=by rw[<- r.len];exact(gIm e).1
   rw[yAq hl] at e2;cases e2;exact⟨hF,ys,cA,dl⟩
  ·rw[yAo hm] at e2;have ne:b≠a:=λ z=>by
    subst z;have h1:=(gIm e);have h2:=(gIm e1);obtain⟨l1,g1⟩:=h1;obtain⟨l2,g2⟩:=h2;exact hm ((yFu r.nd).mp (g1.trans g2.symm))
   obtain⟨f,xs,e3,d3⟩:=r.loc m b fs e1 e2;exact⟨f,xs,by rw[bB ne];exact e3,d3⟩
 ·by_cases hb:b=a
  ·exact⟨ys,by rw[hb];exact cA⟩
  ·obtain⟨zs,hz⟩:=r.tr m b e1;exact⟨zs,by rw[bB hb];exact hz⟩
theorem Rel.freeze(r:Rel K F L S H){n:Nat}{a:qv}{ds:List D}(e:L[n]? = qq a)(es:S[n]? = qq (qq ds)) :
 ∃ F',Gr F L F' L/\Rel K F' L (S.set n qz) H/\Den K F' (.list ds) (.ref a):=by
 obtain⟨hF,xs,e3,dl⟩:=r.loc n a ds e es;refine⟨aW F a (.lst xs),Gr.new hF,⟨λ b u q=>?_,r.nd,by rw[yAt];exact r.len,λ m b fs e1 e2=>?_,r.tr⟩,.lst (bR.of cA) (dl.mono (eZ hF))⟩
 ·by_cases hb:b=a
  ·subst hb;rw[cA] at q;rw[e3];exact q
  ·rw[bB hb] at q;exact r.sub _ _ q
 ·by_cases hm:n=m
  ·subst hm;have hl:n<S.length:=(gIm es).1;rw[yAq hl] at e2;cases e2
  ·rw[yAo hm] at e2;have ne:b≠a:=λ z=>by
    subst z;obtain⟨l1,g1⟩:=gIm e;obtain⟨l2,g2⟩:=gIm e1;exact hm ((yFu r.nd).mp (g1.trans g2.symm))
   obtain⟨f,ys,e4,d4⟩:=r.loc m b fs e1 e2;exact⟨by rw[bB ne];exact f,ys,e4,d4.mono (eZ hF)⟩
theorem Rel.cut{M:List qv}(r:Rel K F (L++M) S H):Rel K F L (S.take L.length) H:=by
 have hl:L.length<=S.length:=by have:=r.len;rw[yAr] at this;omega
 refine⟨r.sub,(List.nodup_append.mp r.nd).1,by rw[yAy];omega,λ n a ds e1 e2=>?_,λ n a e1=>?_⟩
 ·have hn:n<L.length:=(gIm e1).1;rw[yDx hn] at e2;exact r.loc n a ds (by rw[xAj hn];exact e1) e2
 ·have hn:n<L.length:=(gIm e1).1;exact r.tr n a (by rw[xAj hn];exact e1)
end
def bO(K:FrG)(F H:Hp)(x:D)(v:V):Prop:=Den K F x v\/∃ ds a xs,x=.list ds/\v=.ref a/\H a=qq (.lst xs)/\DenL K F ds xs
noncomputable def dr(S:aC):W->Option D
 | .d x=>qq x
 | .loc n=>match S[n]? with
   | some (qq ds)=>qq (.list ds)
   | _=>qz
 | .exc _ _=>qz
theorem fY{K:FrG}{F H:Hp}{L:List qv}{S:aC}{w:W}{x:D}{v:V}(r:Rel K F L S H)(h:eK K F L w v)(e:dr S w=qq x):bO K F H x v:=by
 cases w with
 | d y=>cases e;exact .inl h
 | exc c r=>cases e
 | loc n =>
   obtain⟨a,e1,rfl⟩:=h;cases e2:S[n]? with
   | none=>simp[dr,e2] at e
   | some o =>
     cases o with
     | none=>simp[dr,e2] at e
     | some ds =>
       simp[dr,e2] at e;subst e;obtain⟨f,xs,e3,dl⟩:=r.loc n a ds e1 e2;exact .inr ⟨ds,a,xs,rfl,rfl,e3,dl⟩
section
variable {K : FrG}{F H : Hp}{v : V}
theorem bO.non(h:bO K F H .none v):v=.non:=by
 rcases h with h | ⟨_,_,_,e,_⟩
 ·cases h;rfl
 ·cases e
theorem bO.bl{b:Bool}(h:bO K F H (.bool b) v):v=.bl b:=by
 rcases h with h | ⟨_,_,_,e,_⟩
 ·cases h;rfl
 ·cases e
theorem bO.int{i:Int}(h:bO K F H (.int i) v):v=.int i:=by
 rcases h with h | ⟨_,_,_,e,_⟩
 ·cases h;rfl
 ·cases e
theorem bO.str{x:Str}(h:bO K F H (.str x) v):v=.str x:=by
 rcases h with h | ⟨_,_,_,e,_⟩
 ·cases h;rfl
 ·cases e
theorem bO.lst{ds:List D}(s:bY F H)(h:bO K F H (.list ds) v):∃ a xs,v=.ref a/\bR K H a xs/\DenL K F ds xs:=by
 rcases h with h | ⟨_,a,xs,e,e2,e3,dl⟩
 ·cases h with
  | lst q r=>exact⟨_,_,rfl,s.seq q,r⟩
 ·cases e;exact⟨a,xs,e2,bR.of e3,dl⟩
theorem bO.tup{ds:List D}(s:bY F H)(h:bO K F H (.tuple ds) v):∃ a xs,v=.ref a/\bV K H a xs/\DenL K F ds xs:=by
 rcases h with h | ⟨_,_,_,e,_⟩
 ·cases h with
  | tup q r=>exact⟨_,_,rfl,iT s q,r⟩
 ·cases e
end
theorem aIj:fillsNumberSlot (.type "tuple") "mul" = pure false:=
 PySem.fillsNumberSlot_seq (id:="tuple.__mul__") (r:=qq (.builtin "tuple.__rmul__")) PySem.F.slot_tuple_mul.lookup (by decide +kernel) PySem.F.slot_tuple_rmul.lookup (by decide +kernel)
theorem aIJ:seqRepeat? (.type "tuple")=pure (qq (.builtin "tuple.__mul__")):=by
 unfold seqRepeat?;rw[PySem.seqSlot_of (T:="tuple") (name:="__mul__") (id:="tuple.__mul__") PySem.F.slot_tuple_mul.lookup (by decide +kernel),PySem.seqSlot_of (T:="tuple") (name:="__rmul__") (id:="tuple.__rmul__") PySem.F.slot_tuple_rmul.lookup (by decide +kernel)]
 rfl
theorem aIp(a:Int)(t:Tok)(l:qv)(aP:Array qx)(n:Nat)(d:Option qv)(sl:Array (Option qx)) :
 Meets (Builtin.«int.__rmul__» ⟨[.int a t,.ref l],[]⟩) (λ _ R s=>s.heap.get? l=qq {cls:=.type "tuple",dict:=d,data:=.seq aP n,slots:=sl }/\R (.ok (.ret Value.notImplemented)) s):=
 .of_wp λ prog w A R s h=>by obtain⟨hp,g,d,tk,os⟩:=s;obtain⟨hl,h⟩:=h;wp_walk;exact⟨_,rfl,h⟩
theorem aIw(l:qv)(aP:Array qx)(n:Nat)(d:Option qv)(sl:Array (Option qx))(t:Tok) :
 Meets (Builtin.«tuple.__mul__» ⟨[.ref l,.int 1 t],[]⟩) (λ _ R s=>s.heap.get? l=qq {cls:=.type "tuple",dict:=d,data:=.seq aP n,slots:=sl }/\R (.ok (.ret (.ref l))) s):=
 .of_wp λ prog w A R s h=>by
  obtain⟨hp,g,d,tk,os⟩:=s;obtain⟨hl,h⟩:=h
  wp_walk
  exact⟨_,rfl,h⟩
theorem aIs(l:qv)(x:qx)(n:Nat)(d:Option qv)(sl:Array (Option qx))(t:Tok) :
 Meets (Builtin.«tuple.__mul__» ⟨[.ref l,.int 0 t],[]⟩) (λ _ R s=>s.heap.get? l=qq {cls:=.type "tuple",dict:=d,data:=.seq #[x] n,slots:=sl }/\R (.ok (.ret (.ref s.heap.objs.size))) {s with heap:=s.heap.push {cls:=.type "tuple",data:=.seq #[] } }):=
 .of_wp λ prog w A R s h=>by
  obtain⟨hp,g,d,tk,os⟩:=s;obtain⟨hl,h⟩:=h
  wp_walk
  exact⟨_,rfl,h⟩
theorem wW(x:qx):∀ (k:Nat) (aH:Array qx),(yAh k #[x]).foldl (· ++ ·) aH=aH++(yAh k x).toArray
 | 0,aH=>by simp
 | k+1,aH=>by
   rw[yBd,yAj,wW x k];apply Array.ext';simp[yBd]
theorem aIB(l:qv)(x:qx)(n:Nat)(d:Option qv)(sl:Array (Option qx))(k:Nat)(hk:2<=k)(hk2:k<=1000)(t:Tok) :
 Meets (Builtin.«tuple.__mul__» ⟨[.ref l,.int k t],[]⟩) (λ _ R s=>s.heap.get? l=qq {cls:=.type "tuple",dict:=d,data:=.seq #[x] n,slots:=sl }/\R (.ok (.ret (.ref s.heap.objs.size))) {s with heap:=s.heap.push {cls:=.type "tuple",data:=.seq (yAh k x).toArray } }):=
 .of_wp λ prog w A R s h=>by
  obtain⟨hp,g,d,tk,os⟩:=s;obtain⟨hl,h⟩:=h;have c1:(decide (((k:Nat):Int) < -(2^63))||decide (((k:Nat):Int) ≥ 2^63))=false:=by simp;omega
  have c2:(((k:Nat):Int)==1)=false:=by rw[beq_eq_false_iff_ne];omega
  have c3:decide (((k:Nat):Int)<=0)=false:=dqF (by omega)
  have c4:((#[x]:Array qx).isEmpty||(((k:Nat):Int)==1))=false:=by rw[c2];rfl
  have c5:(decide (((k:Nat):Int)<=0)||(#[x]:Array qx).isEmpty)=false:=by rw[c3];rfl
  have c6:¬ (((#[x]:Array qx).size:Int)*((k:Nat):Int)>(2^63-1)/8):=by
   show ¬ (((1:Nat):Int)*((k:Nat):Int)>(2^63-1)/8);omega
  have hsz:qk=16777216:=by decide
  have c7:yFk (((#[x]:Array qx).size:Int)*((k:Nat):Int))=false:=by
   unfold yFk;refine dqF ?_;show ¬ (((1:Nat):Int)*((k:Nat):Int)>((qk:Nat):Int));omega
  wp_walk
  rw[if_neg (by rw[c1];exact yAu)]
  refine wB (wpAny_tupleItemsOf hl rfl ?_);simp only[c4,c5,c6,c7,yAz,if_false];rw[yBp,wW,show(#[]:Array qx)++(yAh k x).toArray=(yAh k x).toArray by simp]
  refine wB (m:=yCd _) (xu (wP ⟨_,rfl,h⟩) ?_);show(yAh k x).toArray.size<=qk;rw[yAg,yDg,hsz];omega
section
variable {X : Cx}{aA : List (qv×Obj)}{σ : L2.St}{H : Hp}{s : qj}{Q : VK}
theorem aEG{x:V}{u:qx}(r:aX x u):∀ k:Nat,aT (yAh k x) (yAh k u)
 | 0=>.nil
 | k+1=>.cons r (aEG r k)
theorem aSa{a:qv}{x:V}{k:Nat}{t:Tok}(I:Inv X aA σ H s)(ha:bV X.K H a [x])(hk:k<=1000)
 (q1:k=1->Q (.ref a) H) (q:∀ p,H p=qz->Q (.ref p) (aW H p (.tup (yAh k x)))):qu (model X.prog X.w) X.A (zk .Mult (.ref a) (.int k t)) (EP X aA σ Q) X.xe s:=by
 obtain⟨its,r1,p1,_⟩:=I.tuple ha;obtain⟨u,rfl,ru⟩:∃ u,its=[u]/\aX x u:=by
  cases r1 with
  | cons r r'=>cases r';exact⟨_,rfl,r⟩
 obtain⟨⟨cls,d,data,sl⟩,ho,hcl,n,hd⟩:=p1;simp only at hcl hd;subst hcl hd;have hsz:qk=16777216:=by decide
 have bI:∀ (its:List qx),its=yAh k u->EP X aA σ Q (.ref s.heap.objs.size) {s with heap:=s.heap.push {cls:=.type "tuple",data:=.seq its.toArray } }:=λ its e=>by
  subst e;exact⟨.ref _,_,I.laid (t':=s.toks) (o:=.tup (yAh k x)) (λ b ob q=>hpS _ q) (yAe _) ⟨by rw[yDg,hsz];omega,_,aEG ru k,⟨_,xAe _ rfl,rfl,0,rfl⟩⟩,rfl,q _ (I.hok.fresh (yAe _))⟩
 refine yz (T:="tuple") (U:="int") (by decide) ⟨_,ho,rfl⟩ (λ s'=>yv s' k t) aIj PySem.F.fills_int_mul yDi aIJ PySem.F.slot_int_index.lookup
  (jk yDi (yv s k t) PySem.F.entry_int_rmul (PySem.F.args_int_rmul_2 _ _) (aIp k t a _ n d sl)
    ⟨ho,rfl,⟨_,ho,rfl⟩,?_⟩)
 by_cases h1:k=1
 ·subst h1;exact jk yEi ⟨_,ho,rfl⟩ yEe (yDz _ _) (aIw a _ n d sl t) ⟨ho,.ref a,H,I,rfl,q1 rfl⟩
 ·by_cases h0:k=0
  ·subst h0;exact jk yEi ⟨_,ho,rfl⟩ yEe (yDz _ _) (aIs a u n d sl t) ⟨ho,bI [] rfl⟩
  ·exact jk yEi ⟨_,ho,rfl⟩ yEe (yDz _ _) (aIB a u n d sl k (by omega) hk t) ⟨ho,bI _ rfl⟩
end
noncomputable def mT(i j:Int):Bool:=!(decide (yAk i>wu)&&decide (yAk j>wu)&&Builtin.Int.intTooBig (yAk i+yAk j))
noncomputable def aRL{α:Type}(n:Nat)(xs:List α):List α:=(yAh n xs).flatten
noncomputable def aCw:D->D->Option D
 | .int i,.int j=>qq (.int (i+j))
 | .str x,.str y=>if x.length+y.length<=qk then qq (.str (x++y)) else qz
 | .tuple [],.tuple ys=>qq (.tuple ys)
 | .tuple xs,.tuple ys=>if xs.isEmpty=false/\xs.length+ys.length<=qk then qq (.tuple (xs++ys)) else qz
 | .list xs,.list ys=>if xs.length+ys.length<=qk then qq (.list (xs++ys)) else qz
 | _,_=>qz
noncomputable def aCS:D->D->Option D
 | .int i,.int j=>if mT i j=true then qq (.int (i*j)) else qz
 | .list xs,.int k=>if k<2^63 /\ -(2^63)<=k/\xs.length*k.toNat<=qk then qq (.list (aRL k.toNat xs)) else qz
 | .tuple [x],.int k=>if 0<=k/\k<=1000 then qq (.tuple (yAh k.toNat x)) else qz
 | _,_=>qz
noncomputable def i2{α:Type}(f:Int->Int->Option α):D->D->Option α
 | .int i,.int j=>f i j
 | _,_=>qz
theorem tT{α:Type}{f:Int->Int->Option α}{i j:Int}:i2 f (.int i) (.int j)=f i j:=rfl
theorem hZ{α:Type}{f:Int->Int->Option α}{x y:D}{z:α}(h:i2 f x y=qq z):∃ i j,x=.int i/\y=.int j/\f i j=qq z:=by
 cases x<;>first | (cases h;done) | skip
 cases y<;>first | (cases h;done) | exact⟨_,_,rfl,rfl,h⟩
noncomputable def iX:D->Bool
 | .none=>true
 | _=>false
theorem aEV{x:D}(h:iX x=true):x=.none:=by cases x<;>first | rfl | cases h
noncomputable def bK(op:vz)(x y:D):Option D:=match op with
 | .Add=>aCw x y
 | .Sub=>i2 (λ i j=>qq (.int (i-j))) x y
 | .Mult=>aCS x y
 | .MatMult=>qz
 | .Div=>qz
 | .Mod=>i2 (λ i j=>if j≠0 then qq (.int (i.fmod j)) else qz) x y
 | .Pow=>i2 (λ i j=>if 0<=j/\j<=1000000/\i.natAbs<2^64 then qq (.int (i^j.toNat)) else qz) x y
 | .LShift=>i2 (λ i j=>if 0<=j/\(yAk i:Int)+j<=2^27 then qq (.int (i*2^j.toNat)) else qz) x y
 | .RShift=>i2 (λ i j=>if 0<=j then qq (.int (i/2^j.toNat)) else qz) x y
 | .BitOr=>i2 (λ i j=>qq (.int (Builtin.bitOr i j))) x y
 | .BitXor=>i2 (λ i j=>qq (.int (Builtin.bitXor i j))) x y
 | .BitAnd=>i2 (λ i j=>qq (.int (Builtin.bitAnd i j))) x y
 | .FloorDiv=>i2 (λ i j=>if j≠0/\yCf i j=false then qq (.int (i.fdiv j)) else qz) x y
noncomputable def rT:yx->D->Option D
 | .USub,.int i=>qq (.int (-i))
 | .Invert,.int i=>qq (.int (Builtin.bitNot i))
 | _,_=>qz
noncomputable def iV:D->Bool
 | .none | .bool _ | .int _ | .str _=>true
 | _=>false
noncomputable def mL:List D->Bool
 | []=>true
 | d::r=>iV d&&mL r
noncomputable def rY(x:D):List D->Bool
 | []=>false
 | y::r=>yCe y x||rY x r
noncomputable def oW:D->Option (List D)
 | .list xs=>qq xs
 | .tuple xs=>qq xs
 | _=>qz
noncomputable def rQ:D->D->Option Bool
 | .bool a,.bool b=>qq (a==b)
 | _,_=>qz
theorem aD3{x y:D}{b:Bool}(h:rQ x y=qq b):∃ p q,x=.bool p/\y=.bool q/\b=(p==q):=by
 unfold rQ at h
 split at h
 ·rename_i p q;exact⟨p,q,rfl,rfl,(Option.some.inj h).symm⟩
 ·cases h
noncomputable def jC(op:jx)(x y:D):Option Bool:=match op with
 | .Eq=>if x.canLay0=true/\y.canLay0=true/\x.depth<=60 then qq (yCe x y) else qz
 | .NotEq=>if x.canLay0=true/\y.canLay0=true/\x.depth<=60 then qq (!yCe x y) else qz
 | .Lt=>i2 (λ i j=>qq (decide (i<j))) x y
 | .LtE=>i2 (λ i j=>qq (decide (i<=j))) x y
 | .Gt=>i2 (λ i j=>qq (decide (j<i))) x y
 | .GtE=>i2 (λ i j=>qq (decide (j<=i))) x y
 | .Is=>if iX y=true then qq (iX x) else rQ x y
 | .IsNot=>if iX y=true then qq (!iX x) else (rQ x y).bind λ b=>qq (!b)
 | .In=>(oW y).bind λ ys=>if iV x=true/\mL ys=true then qq (rY x ys) else qz
 | .NotIn=>(oW y).bind λ ys=>if iV x=true/\mL ys=true then qq (!rY x ys) else qz
noncomputable def uS:D->Option Bool
 | .none=>qq false
 | .bool b=>qq b
 | .int i=>qq (i != 0)
 | .str x=>if x.length<=qk then qq ((x.length:Int) != 0) else qz
 | .list xs=>qq (!xs.isEmpty)
 | .tuple xs=>qq (!xs.isEmpty)
 | .dict _=>qz
section
variable {X : Cx}{aA : List (qv×Obj)}{s : qj}{σ : L2.St}{H : Hp}{x y : V}{v u : qx}{Q : VK}{F : Hp}{L : List qv}{S : aC}{dx dy z : D}
abbrev eW(X:Cx)(F:Hp)(L:List qv)(S:aC)(z:D)(Q:VK):Prop:=∀ F' H' r,bY F F'->Rel X.K F' L S H'->Den X.K F' z r->Q r H'
abbrev zR(X:Cx)(F:Hp)(H:Hp)(zs:List D)(Q:VK):Prop:=∀ p xs,H p=qz->DenL X.K F zs xs->Q (.ref p) (aW H p (.lst xs))
theorem eW.here(R:Rel X.K F L S H)(q:eW X F L S z Q){r:V}(h:Den X.K F z r):Q r H:=q F H r (bY.refl _) R h
theorem zR.out{zs:List D}(R:Rel X.K F L S H)(q:eW X F L S (.list zs) Q):zR X F H zs Q:=λ p xs hp dl =>
 q _ _ _ (eZ (R.sub.free hp)) (R.new hp) (.lst (bR.of cA) (dl.mono (eZ (R.sub.free hp))))
theorem eW.tup{zs:List D}(R:Rel X.K F L S H)(q:eW X F L S (.tuple zs) Q){p:qv}{xs:List V}(hp:H p=qz)(dl:DenL X.K F zs xs):Q (.ref p) (aW H p (.tup xs)):=
 q _ _ _ (eZ (R.sub.free hp)) (R.new hp) (.tup (bV.of cA) (dl.mono (eZ (R.sub.free hp))))
theorem aR5{a b:qv}{xs ys:List V}(I:Inv X aA σ H s)(ha:bR X.K H a xs)(hb:bR X.K H b ys)(hz:xs.length+ys.length<=qk)
 (q:∀ p,H p=qz->Q (.ref p) (aW H p (.lst (xs++ys)))):qu (model X.prog X.w) X.A (zk .Add (.ref a) (.ref b)) (EP X aA σ Q) X.xe s:=by
 obtain⟨its,r1,p1,_⟩:=I.list ha;obtain⟨sF,r2,p2,_⟩:=I.list hb;obtain⟨⟨cls,dd,data,sl⟩,ho,hc,n,hd⟩:=p1.isList;obtain⟨⟨cls2,dd2,data2,sl2⟩,ho2,hc2,n2,hd2⟩:=p2.isList;simp only at hc hd hc2 hd2;subst hc hd hc2 hd2;have e:its.toArray++sF.toArray=(its++sF).toArray:=by simp
 refine concat_meets ⟨_,ho,rfl⟩ ⟨_,ho2,rfl⟩ noFill_list_add seq_list_add PySem.F.slot_list_add PySem.F.entry_list_add (PySem.F.args_list_add_2 _ _) (list_addW a b its.toArray sF.toArray n n2 dd dd2 sl sl2 (by rw[yAg,yAg,<- r1.length,<- r2.length];exact hz)) ⟨ho,ho2,?_⟩
 rw[e];exact⟨.ref _,_,I.lnew (t':=s.toks) (r1.append r2) (by rw[yAr];omega),rfl,q _ I.fresh⟩
theorem aSd{a:qv}{xs:List V}{k:Int}{t:Tok}(I:Inv X aA σ H s)(ha:bR X.K H a xs)(h1 : -(2^63)<=k)(h2:k<2^63)(hz:xs.length*k.toNat<=qk)
 (q:∀ p,H p=qz->Q (.ref p) (aW H p (.lst (yAh k.toNat xs).flatten))):qu (model X.prog X.w) X.A (zk .Mult (.ref a) (.int k t)) (EP X aA σ Q) X.xe s:=by
 obtain⟨its,r1,p1,_⟩:=I.list ha;obtain⟨⟨cls,d,data,sl⟩,ho,hcl,n,hd⟩:=p1.isList;simp only at hcl hd;subst hcl hd;have hsz:its.toArray.size*k.toNat<=2^24:=by
  rw[yAg,<- r1.length];have:qk=2^24:=rfl;rw[<- this];exact hz
 refine yz (T:="list") (U:="int") (by decide) ⟨_,ho,rfl⟩ (λ s'=>yv s' k t) noFill_list_mul PySem.F.fills_int_mul yDi repeat_list PySem.F.slot_int_index.lookup
  (jk yDi (yv s k t) PySem.F.entry_int_rmul (PySem.F.args_int_rmul_2 _ _) (lm_int_rmul_list_any k t a its.toArray n d sl)
    ⟨ho,rfl,⟨_,ho,rfl⟩,jk PySem.F.slot_list_mul ⟨_,ho,rfl⟩ PySem.F.entry_list_mul (PySem.F.args_list_mul_2 _ _)
     (lm_list_mul_any a its.toArray n d sl k t (by simp[Builtin.List.listFitsIndex];omega) (by omega) (by simp[Builtin.List.listTooLong,qk];simpa using hsz))
     ⟨ho,?_⟩⟩)
 rw[listMul_foldl_if];exact⟨.ref _,_,I.lnew (t':=s.toks) (r1.rep k.toNat) (by rw[aLF,Nat.mul_comm];exact hz),rfl,q _ I.fresh⟩
theorem aQn{a b:qv}{ys:List V}(I:Inv X aA σ H s)(ha:bV X.K H a [])(hb:bV X.K H b ys)(q:Q (.ref b) H):qu (model X.prog X.w) X.A (zk .Add (.ref a) (.ref b)) (EP X aA σ Q) X.xe s:=by
 obtain⟨its,r1,p1,_⟩:=I.tuple ha;obtain⟨sF,r2,p2,_⟩:=I.tuple hb;cases r1;obtain⟨⟨cls,dd,data,sl⟩,ho,hc,n,hd⟩:=p1;obtain⟨⟨cls2,dd2,data2,sl2⟩,ho2,hc2,n2,hd2⟩:=p2;simp only at hc hd hc2 hd2;subst hc hd hc2 hd2;exact concat_meets ⟨_,ho,rfl⟩ ⟨_,ho2,rfl⟩ noFill_tuple_add seq_tuple_add yEh yEc (yDy _ _) (tuple_addW0 a b _ sF.toArray n n2 dd dd2 sl sl2 rfl) ⟨ho,ho2,⟨.ref b,H,I,rfl,q⟩⟩
theorem aPn(I:Inv X aA σ H s)(rx:aX x v)(ry:aX y u)(R:Rel X.K F L S H)(nx:bO X.K F H dx x)(ny:bO X.K F H dy y)(e:aCw dx dy=qq z)(q:eW X F L S z Q) :
 qu (model X.prog X.w) X.A (zk .Add v u) (EP X aA σ Q) X.xe s:=by
 unfold aCw at e
 split at e
 ·rename_i i j;cases e;exact aPt aA s σ H x y v u Q I rx ry ⟨i,j,nx.int,ny.int,q.here R (.int _)⟩
 ·rename_i a b
  split at e
  ·rename_i c;cases e;exact aI5 aA s σ H x y v u Q I rx ry ⟨a,b,nx.str,ny.str,c,q.here R (.str _)⟩
  ·cases e
 ·rename_i ys;cases e;obtain⟨a,vs,rfl,h1,d1⟩:=nx.tup R.sub;obtain⟨b,ws,rfl,h2,d2⟩:=ny.tup R.sub;cases d1;cases rx;cases ry;refine aQn I h1 h2 (q F H _ (bY.refl _) R ?_);rcases ny with ny | ⟨_,_,_,e,_⟩
  ·exact ny
  ·cases e
 ·rename_i xs ys _
  split at e
  ·rename_i c;cases e;obtain⟨a,vs,rfl,h1,d1⟩:=nx.tup R.sub;obtain⟨b,ws,rfl,h2,d2⟩:=ny.tup R.sub;have hne:vs≠[]:=λ z=>by
    have:=d1.length;rw[z] at this;cases xs with
    | nil=>simp at c
    | cons _ _=>simp at this
   refine aLU aA s σ H _ _ v u Q I rx ry ⟨a,b,vs,ws,rfl,rfl,h1,h2,hne,by rw[<- d1.length,<- d2.length];exact c.2,λ z=>?_,λ z p hp=>?_⟩
   ·have:ys=[]:=by
     have h:=d2.length;rw[z] at h;exact List.eq_nil_of_length_eq_zero h
    subst this;refine q F H _ (bY.refl _) R ?_;rw[yAv];rcases nx with nx | ⟨_,_,_,e,_⟩
    ·exact nx
    ·cases e
   ·exact q.tup R hp (d1.append d2)
  ·cases e
 ·rename_i xs ys
  split at e
  ·rename_i c;cases e;obtain⟨a,vs,rfl,h1,d1⟩:=nx.lst R.sub;obtain⟨b,ws,rfl,h2,d2⟩:=ny.lst R.sub;cases rx;cases ry;exact aR5 I h1 h2 (by rw[<- d1.length,<- d2.length];exact c) λ p hp=>zR.out R q p _ hp (d1.append d2)
  ·cases e
 ·cases e
theorem aFc{K:FrG}{F:Hp}{x:D}{v:V}(h:Den K F x v):∀ k:Nat,DenL K F (yAh k x) (yAh k v)
 | 0=>.nil
 | k+1=>.cons h (aFc h k)
theorem aOM(I:Inv X aA σ H s)(rx:aX x v)(ry:aX y u)(R:Rel X.K F L S H)(nx:bO X.K F H dx x)(ny:bO X.K F H dy y)(e:aCS dx dy=qq z)(q:eW X F L S z Q) :
 qu (model X.prog X.w) X.A (zk .Mult v u) (EP X aA σ Q) X.xe s:=by
 unfold aCS at e
 split at e
 ·rename_i i j
  split at e
  ·rename_i c;cases e;obtain rfl:=nx.int;obtain rfl:=ny.int;obtain⟨t,rfl⟩:=rx;obtain⟨t',rfl⟩:=ry;refine PyProof.Rows.mul_int ⟨.int (i*j),H,I.tok _,⟨_,rfl⟩,q.here R (.int _)⟩ ?_;unfold IntMulOk;unfold mT at c;intro z;rw[z] at c;cases c
  ·cases e
 ·rename_i xs k
  split at e
  ·rename_i c;cases e;obtain⟨a,vs,rfl,h1,d1⟩:=nx.lst R.sub;obtain rfl:=ny.int;cases rx;obtain⟨t',rfl⟩:=ry;exact aSd I h1 c.2.1 c.1 (by rw[<- d1.length];exact c.2.2) λ p hp=>zR.out R q p _ hp (d1.rep _)
  ·cases e
 ·rename_i xd k
  split at e
  ·rename_i c;cases e;obtain⟨a,vs,rfl,h1,d1⟩:=nx.tup R.sub;obtain rfl:=ny.int;cases rx;obtain⟨t',rfl⟩:=ry;obtain⟨kk,rfl⟩:∃ kk:Nat,k=(kk:Nat):=⟨k.toNat,by omega⟩
   rw[yBp] at q;cases d1 with
   | cons dx dn =>
     cases dn;refine aSa I h1 (by omega) (λ hk=>?_) λ p hp=>eW.tup R q hp (aFc dx kk)
     subst hk;refine q F H _ (bY.refl _) R ?_;rcases nx with nx | ⟨_,_,_,z,_⟩
     ·exact nx
     ·cases z
  ·cases e
 ·cases e
theorem tV{op:vz}{C:Int->Int->Prop}{g:Int->Int->Int}(rule:cC X (zk op) (rI C λ i j=>.int (g i j))){i j:Int}(c:C i j)(I:Inv X aA σ H s)(rx:aX x v)(ry:aX y u)(R:Rel X.K F L S H)
 (nx:bO X.K F H (.int i) x) (ny:bO X.K F H (.int j) y) (q:eW X F L S (.int (g i j)) Q) :
 qu (model X.prog X.w) X.A (zk op v u) (EP X aA σ Q) X.xe s:=
 rule aA s σ H x y v u Q I rx ry ⟨i,j,nx.int,ny.int,c,q.here R (.int _)⟩
theorem xF{op:vz}{g:Int->Int->Int}(rule:cC X (zk op) (jH λ i j=>.int (g i j))){i j:Int}(I:Inv X aA σ H s)(rx:aX x v)(ry:aX y u)(R:Rel X.K F L S H)
 (nx:bO X.K F H (.int i) x) (ny:bO X.K F H (.int j) y) (q:eW X F L S (.int (g i j)) Q) :
 qu (model X.prog X.w) X.A (zk op v u) (EP X aA σ Q) X.xe s:=
 rule aA s σ H x y v u Q I rx ry ⟨i,j,nx.int,ny.int,q.here R (.int _)⟩
theorem aMu:cC X (zk .FloorDiv) (rI (λ i j=>j≠0/\yCf i j=false) λ i j=>.int (i.fdiv j)):=wE λ _ _ _ _ _ _ _ hc q=>floordiv_int hc.1 q (.inl hc.2)
theorem aRg:cC X (zk .LShift) (rI (λ i j=>0<=j/\(yAk i:Int)+j<=2^27) λ i j=>.int (i*2^j.toNat)):=wE λ _ _ _ _ _ _ _ hc q=>lshift_int hc.1 hc.2 q
theorem bind_some{α β:Type}{o:Option α}{f:α->Option β}{b:β}(h:o.bind f=qq b):∃ a,o=qq a/\f a=qq b:=by
 cases o with
 | none=>cases h
 | some a=>exact⟨a,rfl,h⟩
theorem lR{α:Type}{p:Prop} [Decidable p]{a z:α}(h:(if p then qq a else qz)=qq z):p/\a=z:=by
 split at h
 ·rename_i c;cases h;exact⟨c,rfl⟩
 ·cases h
theorem aGe{op:vz}(I:Inv X aA σ H s)(rx:aX x v)(ry:aX y u)(R:Rel X.K F L S H)(nx:bO X.K F H dx x)(ny:bO X.K F H dy y)(e:bK op dx dy=qq z)(q:eW X F L S z Q) :
 qu (model X.prog X.w) X.A (zk op v u) (EP X aA σ Q) X.xe s:=by
 cases op with
 | Add=>exact aPn I rx ry R nx ny e q
 | Mult=>exact aOM I rx ry R nx ny e q
 | MatMult=>cases e
 | Div=>cases e
 | Sub=>obtain⟨i,j,rfl,rfl,e⟩:=hZ e;cases e;exact xF aNX I rx ry R nx ny q
 | BitAnd=>obtain⟨i,j,rfl,rfl,e⟩:=hZ e;cases e;exact xF aNN I rx ry R nx ny q
 | BitOr=>obtain⟨i,j,rfl,rfl,e⟩:=hZ e;cases e;exact xF aQ8 I rx ry R nx ny q
 | BitXor=>obtain⟨i,j,rfl,rfl,e⟩:=hZ e;cases e;exact xF aM2 I rx ry R nx ny q
 | FloorDiv=>obtain⟨i,j,rfl,rfl,e⟩:=hZ e;obtain⟨c,rfl⟩:=lR e;exact tV aMu c I rx ry R nx ny q
 | Mod=>obtain⟨i,j,rfl,rfl,e⟩:=hZ e;obtain⟨c,rfl⟩:=lR e;exact tV aLm c I rx ry R nx ny q
 | Pow=>obtain⟨i,j,rfl,rfl,e⟩:=hZ e;obtain⟨c,rfl⟩:=lR e;exact tV aO1 c I rx ry R nx ny q
 | LShift=>obtain⟨i,j,rfl,rfl,e⟩:=hZ e;obtain⟨c,rfl⟩:=lR e;exact tV aRg c I rx ry R nx ny q
 | RShift=>obtain⟨i,j,rfl,rfl,e⟩:=hZ e;obtain⟨c,rfl⟩:=lR e;exact tV aOL c I rx ry R nx ny q
theorem aQl{op:yx}(I:Inv X aA σ H s)(rx:aX x v)(R:Rel X.K F L S H)(nx:bO X.K F H dx x)(e:rT op dx=qq z)(q:eW X F L S z Q) :
 qu (model X.prog X.w) X.A (unaryOp op v) (EP X aA σ Q) X.xe s:=by
 unfold rT at e
 split at e
 ·cases e;exact aOr aA s σ H x v Q I rx ⟨_,nx.int,q.here R (.int _)⟩
 ·cases e;exact aNk aA s σ H x v Q I rx ⟨_,nx.int,q.here R (.int _)⟩
 ·cases e
mutual
theorem aD2(I:Inv X aA σ H s)(sb:bY F H):∀ {d:D}{x:V}{v:qx},Den X.K F d x->aX x v->d.canLay0=true->∃ as,Reads s.heap v d as
 | _,_,v,.non,r,_=>by cases (show v=Value.none from r);exact⟨_,.none⟩
 | _,_,v,.bl b,r,_=>by cases (show v=Value.bool b from r);exact⟨_,.bool b⟩
 | _,_,v,.int i,r,_=>by obtain⟨t,rfl⟩:=(show ∃ t,v=Value.int i t from r);exact⟨_,.int i t⟩
 | _,_,v,.str y,r,_=>by obtain⟨t,rfl⟩:=(show ∃ t,v=Value.str y t from r);exact⟨_,.str y t⟩
 | _,_,v,.lst (a:=a) h dl,r,c=>by
   cases (show v=Value.ref a from r)
   obtain⟨its,rv,p1,_⟩:=I.list (sb.seq h);obtain⟨o,ho,hc,n,hd⟩:=p1.isList;obtain⟨as,ra⟩:=wO I sb dl rv c;exact⟨_,.list ho hc hd (by simpa using ra)⟩
 | _,_,v,.exc _,_,c=>by cases c
 | _,_,v,.tup (a:=a) h dl,r,c=>by
   cases (show v=Value.ref a from r)
   obtain⟨its,rv,p1,_⟩:=I.tuple (iT sb h);obtain⟨o,ho,hc,n,hd⟩:=p1;obtain⟨as,ra⟩:=wO I sb dl rv c;exact⟨_,.tuple ho hc hd (by simpa using ra)⟩
theorem wO(I:Inv X aA σ H s)(sb:bY F H):∀ {ds:List D}{xs:List V}{us:List qx},DenL X.K F ds xs->aT xs us->yCr ds=true->∃ as,ReadsAll s.heap us ds as
 | _,_,_,.nil,r,_=>by cases r;exact⟨_,.nil⟩
 | _,_,_,.cons h dl,.cons r rs,c=>by
   obtain⟨c1,c2⟩:=Bool.and_eq_true_iff.mp c;obtain⟨as,ra⟩:=aD2 I sb h r c1;obtain⟨bs,rb⟩:=wO I sb dl rs c2;exact⟨_,.cons ra rb⟩
end
theorem wS(I:Inv X aA σ H s)(R:Rel X.K F L S H)(rx:aX x v)(nx:bO X.K F H dx x)(c:dx.canLay0=true):∃ as,Reads s.heap v dx as:=by
 rcases nx with nx | ⟨ds,a,xs,rfl,rfl,e,dl⟩
 ·exact aD2 I R.sub nx rx c
 ·cases rx;obtain⟨its,rv,p1,_⟩:=I.list (bR.of e);obtain⟨o,ho,hc,n,hd⟩:=p1.isList;obtain⟨as,ra⟩:=wO I R.sub dl rv c;exact⟨_,.list ho hc hd (by simpa using ra)⟩
theorem aQ7(hu:X.A.units+64<cLine)(I:Inv X aA σ H s)(rx:aX x v)(ry:aX y u)(R:Rel X.K F L S H)(nx:bO X.K F H dx x)(ny:bO X.K F H dy y)
 (c1:dx.canLay0=true) (c2:dy.canLay0=true) (c3:dx.depth<=60) (q:Q (.bl (yCe dx dy)) H):qu (model X.prog X.w) X.A (zo .Eq v u) (EP X aA σ Q) X.xe s:=by
 obtain⟨as,ra⟩:=wS I R rx nx c1;obtain⟨bs,rb⟩:=wS I R ry ny c2;refine SeqAt.compareEq_reads ra rb c1 c2 ?_ ⟨.bl _,H,I,rfl,q⟩;have:min dx.depth dy.depth<=dx.depth:=Nat.min_le_left _ _;omega
theorem aQw(hu:X.A.units+64<cLine)(I:Inv X aA σ H s)(rx:aX x v)(ry:aX y u)(R:Rel X.K F L S H)(nx:bO X.K F H dx x)(ny:bO X.K F H dy y)
 (c1:dx.canLay0=true) (c2:dy.canLay0=true) (c3:dx.depth<=60) (q:Q (.bl (!yCe dx dy)) H):qu (model X.prog X.w) X.A (zo .NotEq v u) (EP X aA σ Q) X.xe s:=by
 obtain⟨as,ra⟩:=wS I R rx nx c1;obtain⟨bs,rb⟩:=wS I R ry ny c2;refine SeqAt.compareNe_reads ra rb c1 c2 ?_ ⟨.bl _,H,I,rfl,q⟩;have:min dx.depth dy.depth<=dx.depth:=Nat.min_le_left _ _;omega
end
theorem aKY{K:FrG}{F:Hp}{d e:D}{x y:V}(h1:Den K F d x)(h2:Den K F e y)(f1:iV d=true)(f2:iV e=true):mF x y=yCe d e:=by
 cases h1<;>first | (simp[iV] at f1;done) | skip
 all_goals cases h2<;>first | (simp[iV] at f2;done) | rfl | skip
theorem aA3{K:FrG}{F:Hp}{d:D}{x:V}(h1:Den K F d x)(f1:iV d=true):kK x=true:=by
 cases h1<;>first | rfl | (simp[iV] at f1;done)
theorem aBj{K:FrG}{F:Hp}:∀ {ds:List D}{xs:List V},DenL K F ds xs->mL ds=true->xs.all kK=true
 | _,_,.nil,_=>rfl
 | _,_,.cons h r,f=>by
   simp only[mL,yBm] at f;rw[yDl,aA3 h f.1,aBj r f.2];rfl
theorem aBD{K:FrG}{F:Hp}{e:D}{y:V}(h2:Den K F e y)(f2:iV e=true):∀ {ds:List D}{xs:List V},DenL K F ds xs->mL ds=true->sA y xs=rY e ds
 | _,_,.nil,_=>rfl
 | _,_,.cons h r,f=>by
   simp only[mL,yBm] at f;have ih:=aBD h2 f2 r f.2;unfold sA at ih ⊢;rw[yEd,ih,aKY h h2 f.1 f2];rfl
section
variable {X : Cx}{aA : List (qv×Obj)}{s : qj}{σ : L2.St}{H : Hp}{x y : V}{v u : qx}{Q : VK}{F : Hp}{L : List qv}{S : aC}{dx dy : D}{b : Bool}
theorem bO.flat{d:D}{z:V}(h:bO X.K F H d z)(f:iV d=true):Den X.K F d z:=by
 rcases h with h | ⟨ds,_,_,rfl,_⟩
 ·exact h
 ·simp[iV] at f
theorem aBv{d:D}{ys:List D}{z:V}(sb:bY F H)(h:bO X.K F H d z)(e:oW d=qq ys):∃ p xs,z=.ref p/\(bR X.K H p xs\/bV X.K H p xs)/\DenL X.K F ys xs:=by
 cases d with
 | list l=>cases e;obtain⟨a,xs,e1,q,dl⟩:=h.lst sb;exact⟨a,xs,e1,.inl q,dl⟩
 | tuple l=>cases e;obtain⟨a,xs,e1,q,dl⟩:=h.tup sb;exact⟨a,xs,e1,.inr q,dl⟩
 | _=>cases e
theorem aFG(R:Rel X.K F L S H)(nx:bO X.K F H dx x):decide (x=.non)=iX dx:=by
 cases dx with
 | none=>rw[nx.non];rfl
 | bool c=>rw[nx.bl];rfl
 | int c=>rw[nx.int];rfl
 | str c=>rw[nx.str];rfl
 | list c=>obtain⟨a,xs,rfl,_⟩:=nx.lst R.sub;rfl
 | tuple c=>obtain⟨a,xs,rfl,_⟩:=nx.tup R.sub;rfl
 | dict c =>
   rcases nx with h | ⟨_,_,_,e,_⟩
   ·cases h;rfl
   ·cases e
theorem aNh{op:jx}(hu:X.A.units+64<cLine)(I:Inv X aA σ H s)(rx:aX x v)(ry:aX y u)(R:Rel X.K F L S H)(nx:bO X.K F H dx x)(ny:bO X.K F H dy y)(e:jC op dx dy=qq b)(q:Q (.bl b) H) :
 qu (model X.prog X.w) X.A (zo op v u) (EP X aA σ Q) X.xe s:=by
 cases op with
 | Lt=>obtain⟨i,j,rfl,rfl,e⟩:=hZ e;cases e;exact aQa aA s σ H x y v u Q I rx ry ⟨_,_,nx.int,ny.int,q⟩
 | LtE=>obtain⟨i,j,rfl,rfl,e⟩:=hZ e;cases e;exact aRd aA s σ H x y v u Q I rx ry ⟨_,_,nx.int,ny.int,q⟩
 | Gt=>obtain⟨i,j,rfl,rfl,e⟩:=hZ e;cases e;exact aQE aA s σ H x y v u Q I rx ry ⟨_,_,nx.int,ny.int,q⟩
 | GtE=>obtain⟨i,j,rfl,rfl,e⟩:=hZ e;cases e;exact aPN aA s σ H x y v u Q I rx ry ⟨_,_,nx.int,ny.int,q⟩
 | Eq=>obtain⟨c,rfl⟩:=lR e;exact aQ7 hu I rx ry R nx ny c.1 c.2.1 c.2.2 q
 | NotEq=>obtain⟨c,rfl⟩:=lR e;exact aQw hu I rx ry R nx ny c.1 c.2.1 c.2.2 q
 | Is =>
   have e':(if iX dy=true then qq (iX dx) else rQ dx dy)=qq b:=e
   by_cases c:iX dy=true
   ·rw[if_pos c] at e';cases e';cases aEV c;exact aOc aA s σ H x y v u Q I rx ry ⟨ny.non,by rw[aFG R nx];exact q⟩
   ·rw[if_neg c] at e';obtain⟨p1,p2,rfl,rfl,rfl⟩:=aD3 e';obtain rfl:=nx.bl;obtain rfl:=ny.bl;cases rx;cases ry;exact wpAny_is_plain rfl (xU I q (by cases p1<;>cases p2<;>rfl))
 | IsNot =>
   have e':(if iX dy=true then qq (!iX dx) else (rQ dx dy).bind λ b=>qq (!b))=qq b:=e
   by_cases c:iX dy=true
   ·rw[if_pos c] at e';cases e';cases aEV c;exact aLQ aA s σ H x y v u Q I rx ry ⟨ny.non,by rw[aFG R nx];exact q⟩
   ·rw[if_neg c] at e';obtain⟨b0,e1,e2⟩:=bind_some e';cases e2;obtain⟨p1,p2,rfl,rfl,rfl⟩:=aD3 e1;obtain rfl:=nx.bl;obtain rfl:=ny.bl;cases rx;cases ry;exact wpAny_isNot_plain rfl (xU I q (by cases p1<;>cases p2<;>rfl))
 | In =>
   obtain⟨ys,hs,e⟩:=bind_some e;obtain⟨c,rfl⟩:=lR e;obtain⟨p,xs,e1,sq,dl⟩:=aBv R.sub ny hs;refine aJU aA s σ H x y v u Q I rx ry ⟨p,xs,e1,sq,aA3 (nx.flat c.1) c.1,aBj dl c.2,?_⟩;show Q (.bl (sA x xs)) H;rw[aBD (nx.flat c.1) c.1 dl c.2];exact q
 | NotIn =>
   obtain⟨ys,hs,e⟩:=bind_some e;obtain⟨c,rfl⟩:=lR e;obtain⟨p,xs,e1,sq,dl⟩:=aBv R.sub ny hs;refine aIL aA s σ H x y v u Q I rx ry ⟨p,xs,e1,sq,aA3 (nx.flat c.1) c.1,aBj dl c.2,?_⟩;show Q (.bl (!sA x xs)) H;rw[aBD (nx.flat c.1) c.1 dl c.2];exact q
theorem aDC{K:FrG}{ds:List D}{xs:List V}(h:DenL K F ds xs):xs.isEmpty=ds.isEmpty:=by cases h<;>rfl
theorem aLB{b:Bool}(R:Rel X.K F L S H)(nx:bO X.K F H dx x)(e:uS dx=qq b):aCM X.K x H b:=by
 cases dx with
 | none=>cases e;rw[nx.non];exact rfl
 | bool c=>cases e;rw[nx.bl];exact rfl
 | int c=>cases e;rw[nx.int];exact rfl
 | str c =>
   rw[nx.str];have e':(if c.length<=qk then qq ((c.length:Int) != 0) else qz)=qq b:=e
   split at e'
   ·rename_i h;cases e';exact⟨h,rfl⟩
   ·cases e'
 | list c=>cases e;obtain⟨a,xs,rfl,sq,dl⟩:=nx.lst R.sub;exact .inl ⟨xs,sq,by rw[aDC dl]⟩
 | tuple c=>cases e;obtain⟨a,xs,rfl,sq,dl⟩:=nx.tup R.sub;exact .inr (.inl ⟨xs,sq,by rw[aDC dl]⟩)
 | dict c=>cases e
end
abbrev FE:=aV->aC->Option (W×aC)
abbrev FT:=aV->aC->Option (Bool×aC)
abbrev FA:=aV->aC->Option (List W×aC)
abbrev FL:=aV->aC->Option (List D×aC)
inductive Fl where
 | nx (env:aV) | rt (w:W) | bk (env:aV) | ct (env:aV)
abbrev FS:=aV->aC->Option (Fl×aC)
inductive WDenL (K:FrG) (F:Hp) (L:List qv):List W->List V->Prop
 | nil:WDenL K F L [] []
 | cons {w:W}{ws:List W}{x:V}{xs:List V}:eK K F L w x->WDenL K F L ws xs->WDenL K F L (w::ws) (x::xs)
theorem WDenL.mono{K:FrG}{F F':Hp}{L L':List qv}(g:Gr F L F' L'):∀ {ws:List W}{xs:List V},WDenL K F L ws xs->WDenL K F' L' ws xs
 | _,_,.nil=>.nil
 | _,_,.cons h r=>.cons (h.mono g) (r.mono g)
theorem WDenL.length{K:FrG}{F:Hp}{L:List qv}:∀ {ws:List W}{xs:List V},WDenL K F L ws xs->ws.length=xs.length
 | _,_,.nil=>rfl
 | _,_,.cons _ r=>congrArg (· + 1) r.length
section
variable (K : FrG)
def aI(f:FE):TE:=λ σ H Q=>∃ F L S env w S',Rel K F L S H/\EnvR K F L env σ/\f env S=qq (w,S')/\∀ F' L' H' v,Gr F L F' L'->Rel K F' L' S' H'->eK K F' L' w v->Q v H'
def eP(f:FT):TT:=λ σ H Q=>∃ F L S env b S',Rel K F L S H/\EnvR K F L env σ/\f env S=qq (b,S')/\∀ F' L' H',Gr F L F' L'->Rel K F' L' S' H'->Q b H'
def dC(f:FA):TA:=λ σ H Q=>∃ F L S env ws S',Rel K F L S H/\EnvR K F L env σ/\f env S=qq (ws,S')/\∀ F' L' H' vs,Gr F L F' L'->Rel K F' L' S' H'->WDenL K F' L' ws vs->Q vs H'
def hB(f:FL):TE:=λ σ H Q=>∃ F L S env ds S',Rel K F L S H/\EnvR K F L env σ/\f env S=qq (ds,S')/\∀ F' L' H' p xs,Gr F L F' L'->Rel K F' L' S' H'->F' p=qz->p ∉ L'->H' p=qq (.lst xs)->DenL K F' ds xs->Q (.ref p) H'
def cM(f:FS):TS:=λ D σ H=>∃ F L S env fl S',Rel K F L S H/\EnvR K F L env σ/\f env S=qq (fl,S')/\∀ F' L' H',Gr F L F' L'->Rel K F' L' S' H'->match fl with
 | .nx aO=>∀ σ',EnvR K F' L' aO σ'->D.nx σ' H'
 | .rt w=>∀ v,eK K F' L' w v->D.rt v H'
 | .bk aO=>∀ σ',EnvR K F' L' aO σ'->D.bk σ' H'
 | .ct aO=>∀ σ',EnvR K F' L' aO σ'->D.ct σ' H'
end
section
variable {X : Cx}
theorem PE.weak{e:qw}{t t':TE}(h:PE X e t)(w:∀ σ H Q,t' σ H Q->t σ H Q):PE X e t':=λ aA s σ H Q I q=>h aA s σ H Q I (w σ H Q q)
theorem PT.weak{e:qw}{t t':TT}(h:PT X e t)(w:∀ σ H Q,t' σ H Q->t σ H Q):PT X e t':=λ aA s σ H Q I q=>h aA s σ H Q I (w σ H Q q)
theorem PW.weak{e:qw}{t t':TT}(h:PW X e t)(w:∀ σ H Q,t' σ H Q->t σ H Q):PW X e t':=λ wh aA s σ H Q I q=>h wh aA s σ H Q I (w σ H Q q)
theorem PA.weak{e:List qw}{t t':TA}(h:PA X e t)(w:∀ σ H Q,t' σ H Q->t σ H Q):PA X e t':=λ pos aA s σ H Q I q=>h pos aA s σ H Q I (w σ H Q q)
theorem PS.weak{e:zy}{t t':TS}(h:PS X e t)(w:∀ D σ H,t' D σ H->t D σ H):PS X e t':=λ aA s σ H D I q=>h aA s σ H D I (w D σ H q)
theorem bW.weak{e:List zy}{t t':TS}(h:bW X e t)(w:∀ D σ H,t' D σ H->t D σ H):bW X e t':=λ aA s σ H D I q=>h aA s σ H D I (w D σ H q)
abbrev pI(K:FrG)(F:Hp)(L:List qv)(S':aC)(w:W)(Q:VK):Prop:=∀ F' L' H' v,Gr F L F' L'->Rel K F' L' S' H'->eK K F' L' w v->Q v H'
noncomputable def f2(fa fb:FE)(g:aC->W->W->Option (W×aC)):FE:=λ env S=>(fa env S).bind λ p=>(fb env p.2).bind λ q=>g q.2 p.1 q.1
noncomputable def f1(fa:FE)(g:aC->W->Option (W×aC)):FE:=λ env S=>(fa env S).bind λ p=>g p.2 p.1
theorem pJ{K:FrG}{fa fb:FE}{g:aC->W->W->Option (W×aC)}{r:R2}
 (hr:∀ F L S H x y wx wy w S' Q,Rel K F L S H->eK K F L wx x->eK K F L wy y->g S wx wy=qq (w,S')->pI K F L S' w Q->r x y H Q)
 (σ:St) (H:Hp) (Q:VK) (h:aI K (f2 fa fb g) σ H Q):vW r (aI K fa) (aI K fb) σ H Q:=by
 obtain⟨F,L,S,env,w,S',R,E,e,q⟩:=h;unfold f2 at e;cases ea:fa env S with
 | none=>rw[ea] at e;cases e
 | some p =>
   obtain⟨wx,S1⟩:=p;rw[ea] at e;dsimp only[yCw] at e;cases eb:fb env S1 with
   | none=>rw[eb] at e;cases e
   | some p2 =>
     obtain⟨wy,S2⟩:=p2;rw[eb] at e;dsimp only at e;refine⟨F,L,S,env,wx,S1,R,E,ea,λ F1 L1 H1 x g1 R1 d1=>⟨F1,L1,S1,env,wy,S2,R1,E.mono g1,eb,λ F2 L2 H2 y g2 R2 d2=>?_⟩⟩
     exact hr F2 L2 S2 H2 x y wx wy w S' Q R2 (d1.mono g2) d2 e λ F3 L3 H3 v g3 R3 d3=>q F3 L3 H3 v ((g1.trans g2).trans g3) R3 d3
theorem aR3{K:FrG}{fa:FE}{g:aC->W->Option (W×aC)}{r:V->Hp->VK->Prop}
 (hr:∀ F L S H x wx w S' Q,Rel K F L S H->eK K F L wx x->g S wx=qq (w,S')->pI K F L S' w Q->r x H Q)
 (σ:St) (H:Hp) (Q:VK) (h:aI K (f1 fa g) σ H Q):tUn r (aI K fa) σ H Q:=by
 obtain⟨F,L,S,env,w,S',R,E,e,q⟩:=h;unfold f1 at e;cases ea:fa env S with
 | none=>rw[ea] at e;cases e
 | some p =>
   obtain⟨wx,S1⟩:=p;rw[ea] at e;dsimp only[yCw] at e;refine⟨F,L,S,env,wx,S1,R,E,ea,λ F1 L1 H1 x g1 R1 d1=>?_⟩
   exact hr F1 L1 S1 H1 x wx w S' Q R1 d1 e λ F3 L3 H3 v g3 R3 d3=>q F3 L3 H3 v (g1.trans g3) R3 d3
noncomputable def eU(i:Nat):FE:=λ env S=>match env[i]? with
 | some (qq w)=>qq (w,S)
 | _=>qz
theorem aJT{i:Nat}{env:aV}{S S':aC}{w:W}(h:eU i env S=qq (w,S')):env[i]? = qq (qq w)/\S'=S:=by
 unfold eU at h
 split at h
 ·rename_i w' e;cases h;exact⟨e,rfl⟩
 ·cases h
theorem aCc{i:Nat}{x:Str}{pos:Pos}(hN:X.N[i]? = qq x)(hv:mC X.env.scope x)(hd:(x==("__debug__" : Str))=false)(hcd:(x==("__classdict__" : Str))=false):PE X (.Name x pos) (aI X.K (eU i)):=
 PE.weak (aB3 hN hv hd hcd) λ σ H Q aM=>by
  obtain⟨F,L,S,env,w,S',R,E,e,q⟩:=aM;obtain⟨e1,rfl⟩:=aJT e;obtain⟨v,e2,d⟩:=E.get i w e1;exact⟨v,e2,q F L H v Gr.refl R d⟩
noncomputable def fC(d:D):FE:=λ _ S=>qq (.d d,S)
theorem aQY{i j pos}:PE X (.Constant (.int i) j pos) (aI X.K (fC (.int i))):=
 PE.weak aOu λ σ H Q aM=>by obtain⟨F,L,S,env,w,S',R,E,e,q⟩:=aM;cases e;exact q F L H _ Gr.refl R (.int i)
theorem aHZ{b j pos}:PE X (.Constant (.bool b) j pos) (aI X.K (fC (.bool b))):=
 PE.weak aQC λ σ H Q aM=>by obtain⟨F,L,S,env,w,S',R,E,e,q⟩:=aM;cases e;exact q F L H _ Gr.refl R (.bl b)
theorem aQO{j pos}:PE X (.Constant .none j pos) (aI X.K (fC .none)):=
 PE.weak aOj λ σ H Q aM=>by obtain⟨F,L,S,env,w,S',R,E,e,q⟩:=aM;cases e;exact q F L H _ Gr.refl R .non
theorem aG6{x j pos}:PE X (.Constant (.str x) j pos) (aI X.K (fC (.str x))):=
 PE.weak aGu λ σ H Q aM=>by obtain⟨F,L,S,env,w,S',R,E,e,q⟩:=aM;cases e;exact q F L H _ Gr.refl R (.str x)
noncomputable def gN(g:D->D->Option D)(S:aC)(x y:W):Option (W×aC):=(dr S x).bind λ a=>(dr S y).bind λ b=>(g a b).bind λ z=>qq (.d z,S)
noncomputable def eC(g:D->Option D)(S:aC)(x:W):Option (W×aC):=(dr S x).bind λ a=>(g a).bind λ z=>qq (.d z,S)
theorem nX{g:D->D->Option D}{S S':aC}{x y w:W}(h:gN g S x y=qq (w,S')):∃ a b z,dr S x=qq a/\dr S y=qq b/\g a b=qq z/\w=.d z/\S'=S:=by
 unfold gN at h;cases e1:dr S x with
 | none=>rw[e1] at h;cases h
 | some a =>
   cases e2:dr S y with
   | none=>rw[e1,e2] at h;cases h
   | some b =>
     rw[e1,e2] at h;dsimp only[yCw] at h;cases e3:g a b with
     | none=>rw[e3] at h;cases h
     | some z=>rw[e3] at h;cases h;exact⟨a,b,z,rfl,rfl,e3,rfl,rfl⟩
theorem qA{g:D->Option D}{S S':aC}{x w:W}(h:eC g S x=qq (w,S')):∃ a z,dr S x=qq a/\g a=qq z/\w=.d z/\S'=S:=by
 unfold eC at h;cases e1:dr S x with
 | none=>rw[e1] at h;cases h
 | some a =>
   rw[e1] at h;dsimp only[yCw] at h;cases e3:g a with
   | none=>rw[e3] at h;cases h
   | some z=>rw[e3] at h;cases h;exact⟨a,z,rfl,e3,rfl,rfl⟩
theorem tI{K:FrG}{F:Hp}{L:List qv}{S:aC}{z:D}{Q:VK}(X:Cx)(hK:X.K=K)(q:pI K F L S (.d z) Q):eW X F L S z Q:=λ F' H' r sf R d=>by
 subst hK;exact q F' L H' r ⟨sf,[],by simp⟩ R d
noncomputable def nN(X:Cx)(g:D->D->Option D):R2:=λ x y H Q=>∃ F L S dx dy z,Rel X.K F L S H/\bO X.K F H dx x/\bO X.K F H dy y/\g dx dy=qq z/\eW X F L S z Q
theorem lN{g:D->D->Option D}(F:Hp)(L:List qv)(S:aC)(H:Hp)(x y:V)(wx wy w:W)(S':aC)(Q:VK)(R:Rel X.K F L S H)(h1:eK X.K F L wx x)(h2:eK X.K F L wy y)(e:gN g S wx wy=qq (w,S'))(q:pI X.K F L S' w Q):nN X g x y H Q:=by
 obtain⟨a,b,z,e1,e2,e3,rfl,rfl⟩:=nX e;exact⟨F,L,S',a,b,z,R,fY R h1 e1,fY R h2 e2,e3,tI X rfl q⟩
noncomputable def kR(op:vz)(fa fb:FE):FE:=f2 fa fb (gN (bK op))
theorem aGQ{a b:qw}{op:vz}{pos:Pos}{fa fb:FE}(ha:PE X a (aI X.K fa))(hb:PE X b (aI X.K fb)):PE X (.BinOp a op b pos) (aI X.K (kR op fa fb)):=
 PE.weak (aGJ (r:=nN X (bK op)) (λ aA s σ H x y v u Q I rx ry hPr2=>by obtain⟨F,L,S,dx,dy,z,R,nx,ny,e,q⟩:=hPr2;exact aGe I rx ry R nx ny e q) ha hb) (pJ lN)
noncomputable def fUn(op:yx)(fa:FE):FE:=f1 fa (eC (rT op))
theorem aRw{a:qw}{op:yx}{pos:Pos}{fa:FE}(ha:PE X a (aI X.K fa)):PE X (.UnaryOp op a pos) (aI X.K (fUn op fa)):=
 PE.weak (aPT (r:=λ x H Q=>∃ F L S dx z,Rel X.K F L S H/\bO X.K F H dx x/\rT op dx=qq z/\eW X F L S z Q) (λ aA s σ H x v Q I rx hPr3=>by obtain⟨F,L,S,dx,z,R,nx,e,q⟩:=hPr3;exact aQl I rx R nx e q) ha)
  (aR3 λ F L S H x wx w S' Q R d e q=>by
    obtain⟨a,z,e1,e3,rfl,rfl⟩:=qA e;exact⟨F,L,S',a,z,R,fY R d e1,e3,tI X rfl q⟩)
noncomputable def bA(op:jx)(x y:D):Option D:=(jC op x y).map yBj
theorem qC{op:jx}(hu:X.A.units+64<cLine):cC X (zo op) (nN X (bA op)):=λ aA s σ H x y v u Q I rx ry aM=>by
 obtain⟨F,L,S,dx,dy,z,R,nx,ny,e,q⟩:=aM;unfold bA at e;cases ec:jC op dx dy with
 | none=>rw[ec] at e;cases e
 | some b=>rw[ec] at e;cases e;exact aNh hu I rx ry R nx ny ec (q.here R (.bl b))
noncomputable def kN(op:jx)(fa fb:FE):FE:=f2 fa fb (gN (bA op))
theorem aGH{a b:qw}{op:jx}{pos:Pos}{fa fb:FE}(hu:X.A.units+64<cLine)(ha:PE X a (aI X.K fa))(hb:PE X b (aI X.K fb))(hm:jv op b=false):PE X (.Compare a [op] [b] pos) (aI X.K (kN op fa fb)):=
 PE.weak (aBy (qC hu) ha hb hm) (pJ lN)
noncomputable def cQ(fa:FE):FT:=λ env S=>(fa env S).bind λ p=>(dr p.2 p.1).bind λ d=>(uS d).bind λ b=>qq (b,p.2)
theorem wT{fa:FE}{env:aV}{S S':aC}{b:Bool}(h:cQ fa env S=qq (b,S')):∃ w d,fa env S=qq (w,S')/\dr S' w=qq d/\uS d=qq b:=by
 unfold cQ at h;cases ea:fa env S with
 | none=>rw[ea] at h;cases h
 | some p =>
   obtain⟨w,S1⟩:=p;rw[ea] at h;dsimp only[yCw] at h;cases e1:dr S1 w with
   | none=>rw[e1] at h;cases h
   | some d =>
     rw[e1] at h;dsimp only at h;cases e2:uS d with
     | none=>rw[e2] at h;cases h
     | some c=>rw[e2] at h;cases h;exact⟨w,d,rfl,e1,e2⟩
theorem aQs{a:qw}{fa:FE}(ha:PE X a (aI X.K fa))(he:∀ eY,isTrue a X.env eY=(do let v <- eY;standAt a.pos;holding [v] (truthy v))):PT X a (eP X.K (cQ fa)):=
 PT.weak (aKx ha he) λ σ H Q aM=>by
  obtain⟨F,L,S,env,b,S',R,E,e,q⟩:=aM;obtain⟨w,d,e1,e2,e3⟩:=wT e;exact⟨F,L,S,env,w,S',R,E,e1,λ F1 L1 H1 v g1 R1 d1=>⟨b,aLB R1 (fY R1 d1 e2) e3,q F1 L1 H1 g1 R1⟩⟩
theorem aOO{a b:qw}{op:jx}{pos:Pos}{fa fb:FE}(hu:X.A.units+64<cLine)(ha:PE X a (aI X.K fa))(hb:PE X b (aI X.K fb))(hm:jv op b=false):PT X (.Compare a [op] [b] pos) (eP X.K (cQ (kN op fa fb))):=
 PT.weak (aFW (qC hu) ha hb hm) λ σ H Q aM=>by
  obtain⟨F,L,S,env,b,S',R,E,e,q⟩:=aM;obtain⟨w,d,e1,e2,e3⟩:=wT e;refine pJ (fa:=fa) (fb:=fb) (g:=gN (bA op)) lN σ H _ ⟨F,L,S,env,w,S',R,E,e1,λ F1 L1 H1 v g1 R1 d1=>?_⟩
  have hc:∃ c,w=.d (.bool c):=by
   unfold kN f2 at e1;cases ea:fa env S with
   | none=>rw[ea] at e1;cases e1
   | some p =>
     rw[ea] at e1;dsimp only[yCw] at e1;cases eb:fb env p.2 with
     | none=>rw[eb] at e1;cases e1
     | some p2 =>
       rw[eb] at e1;dsimp only at e1;obtain⟨_,_,z,_,_,e6,rfl,_⟩:=nX e1;unfold bA at e6;cases e7:jC op _ _ with
       | none=>rw[e7] at e6;cases e6
       | some c=>rw[e7] at e6;cases e6;exact⟨c,rfl⟩
  obtain⟨c,rfl⟩:=hc;cases e2;cases e3;have hv:v=.bl b:=by cases (show Den X.K F1 (.bool b) v from d1);rfl
  exact⟨b,hv,q F1 L1 H1 g1 R1⟩
end
section
variable {X : Cx}{pos : Pos}
noncomputable def zM(fa fb:FT):FT:=λ env S=>(fa env S).bind λ p=>if p.1=true then fb env p.2 else qq (false,p.2)
noncomputable def fOr(fa fb:FT):FT:=λ env S=>(fa env S).bind λ p=>if p.1=true then qq (true,p.2) else fb env p.2
noncomputable def zO(fa:FT):FT:=λ env S=>(fa env S).bind λ p=>qq (!p.1,p.2)
theorem aGP{K:FrG}{fa fb:FT}(σ:St)(H:Hp)(Q:Bool->Hp->Prop)(h:eP K (zM fa fb) σ H Q):aHU (eP K fa) (eP K fb) σ H Q:=by
 obtain⟨F,L,S,env,b,S',R,E,e,q⟩:=h;obtain⟨⟨c,S1⟩,e1,e2⟩:=bind_some e;refine⟨F,L,S,env,c,S1,R,E,e1,λ F1 L1 H1 g1 R1=>?_⟩
 dsimp only at e2;cases c with
 | true=>exact pH ⟨F1,L1,S1,env,b,S',R1,E.mono g1,by simpa using e2,λ F2 L2 H2 g2 R2=>q F2 L2 H2 (g1.trans g2) R2⟩
 | false =>
   have e3:qq (false,S1)=qq (b,S'):=by simpa using e2
   cases e3;exact pF (q F1 L1 H1 g1 R1)
theorem aHu{K:FrG}{fa fb:FT}(σ:St)(H:Hp)(Q:Bool->Hp->Prop)(h:eP K (fOr fa fb) σ H Q):tOr (eP K fa) (eP K fb) σ H Q:=by
 obtain⟨F,L,S,env,b,S',R,E,e,q⟩:=h;obtain⟨⟨c,S1⟩,e1,e2⟩:=bind_some e;refine⟨F,L,S,env,c,S1,R,E,e1,λ F1 L1 H1 g1 R1=>?_⟩
 dsimp only at e2;cases c with
 | false=>exact pF ⟨F1,L1,S1,env,b,S',R1,E.mono g1,by simpa using e2,λ F2 L2 H2 g2 R2=>q F2 L2 H2 (g1.trans g2) R2⟩
 | true =>
   have e3:qq (true,S1)=qq (b,S'):=by simpa using e2
   cases e3;exact pH (q F1 L1 H1 g1 R1)
theorem aQ2{a:qw}{fa:FT}(ha:PT X a (eP X.K fa)):PT X (.UnaryOp .Not a pos) (eP X.K (zO fa)):=
 PT.weak (aM8 ha) λ σ H Q aM=>by
  obtain⟨F,L,S,env,b,S',R,E,e,q⟩:=aM;obtain⟨⟨c,S1⟩,e1,e2⟩:=bind_some e;cases e2;exact⟨F,L,S,env,c,S1,R,E,e1,q⟩
noncomputable def uM(fa fb:FE):FE:=λ env S=>(fa env S).bind λ p=>match p.1 with
 | .d (.bool true)=>fb env p.2
 | .d (.bool false)=>qq (.d (.bool false),p.2)
 | _=>qz
noncomputable def zI(fa fb:FE):FE:=λ env S=>(fa env S).bind λ p=>match p.1 with
 | .d (.bool false)=>fb env p.2
 | .d (.bool true)=>qq (.d (.bool true),p.2)
 | _=>qz
noncomputable def yL(fa:FE):FE:=λ env S=>(fa env S).bind λ p=>match p.1 with
 | .d (.bool b)=>qq (.d (.bool (!b)),p.2)
 | _=>qz
theorem uI{K:FrG}{F:Hp}{L:List qv}{b:Bool}{v:V}(h:eK K F L (.d (.bool b)) v):v=.bl b:=by cases (show Den K F (.bool b) v from h);rfl
theorem xT{K:FrG}{fa fb:FE}(σ:St)(H:Hp)(Q:VK)(h:aI K (uM fa fb) σ H Q):aGY (aI K fa) (aI K fb) σ H Q:=by
 obtain⟨F,L,S,env,w,S',R,E,e,q⟩:=h;obtain⟨⟨c,S1⟩,e1,e2⟩:=bind_some e;dsimp only at e2
 split at e2
 ·exact⟨F,L,S,env,_,S1,R,E,e1,λ F1 L1 H1 v g1 R1 d1=>⟨true,uI d1,pH ⟨F1,L1,S1,env,w,S',R1,E.mono g1,e2,λ F2 L2 H2 v2 g2 R2 d2=>q F2 L2 H2 v2 (g1.trans g2) R2 d2⟩⟩⟩
 ·cases e2;exact⟨F,L,S,env,_,_,R,E,e1,λ F1 L1 H1 v g1 R1 d1=>⟨false,uI d1,pF (q F1 L1 H1 _ g1 R1 (Den.bl false))⟩⟩
 ·cases e2
theorem aGM{K:FrG}{fa fb:FE}(σ:St)(H:Hp)(Q:VK)(h:aI K (zI fa fb) σ H Q):aHt (aI K fa) (aI K fb) σ H Q:=by
 obtain⟨F,L,S,env,w,S',R,E,e,q⟩:=h;obtain⟨⟨c,S1⟩,e1,e2⟩:=bind_some e;dsimp only at e2
 split at e2
 ·exact⟨F,L,S,env,_,S1,R,E,e1,λ F1 L1 H1 v g1 R1 d1=>⟨false,uI d1,pF ⟨F1,L1,S1,env,w,S',R1,E.mono g1,e2,λ F2 L2 H2 v2 g2 R2 d2=>q F2 L2 H2 v2 (g1.trans g2) R2 d2⟩⟩⟩
 ·cases e2;exact⟨F,L,S,env,_,_,R,E,e1,λ F1 L1 H1 v g1 R1 d1=>⟨true,uI d1,pH (q F1 L1 H1 _ g1 R1 (Den.bl true))⟩⟩
 ·cases e2
theorem aOB{a:qw}{fa:FE}(ha:PE X a (aI X.K fa)):PE X (.UnaryOp .Not a pos) (aI X.K (yL fa)):=
 PE.weak (aPF ha) λ σ H Q aM=>by
  obtain⟨F,L,S,env,w,S',R,E,e,q⟩:=aM;obtain⟨⟨c,S1⟩,e1,e2⟩:=bind_some e;dsimp only at e2
  split at e2
  ·cases e2;exact⟨F,L,S,env,_,_,R,E,e1,λ F1 L1 H1 v g1 R1 d1=>⟨_,uI d1,q F1 L1 H1 _ g1 R1 (Den.bl _)⟩⟩
  ·cases e2
noncomputable def pG(fc:FT)(fa fb:FE):FE:=λ env S=>(fc env S).bind λ p=>if p.1=true then fa env p.2 else fb env p.2
theorem aP2{c a b:qw}{fc:FT}{fa fb:FE}(hc:PT X c (eP X.K fc))(ha:PE X a (aI X.K fa))(hb:PE X b (aI X.K fb)):PE X (.IfExp c a b pos) (aI X.K (pG fc fa fb)):=
 PE.weak (aKT hc ha hb) λ σ H Q aM=>by
  obtain⟨F,L,S,env,w,S',R,E,e,q⟩:=aM;obtain⟨⟨c,S1⟩,e1,e2⟩:=bind_some e;refine⟨F,L,S,env,c,S1,R,E,e1,λ F1 L1 H1 g1 R1=>?_⟩
  dsimp only at e2;cases c with
  | true=>exact pH ⟨F1,L1,S1,env,w,S',R1,E.mono g1,by simpa using e2,λ F2 L2 H2 v g2 R2 d2=>q F2 L2 H2 v (g1.trans g2) R2 d2⟩
  | false=>exact pF ⟨F1,L1,S1,env,w,S',R1,E.mono g1,by simpa using e2,λ F2 L2 H2 v g2 R2 d2=>q F2 L2 H2 v (g1.trans g2) R2 d2⟩
noncomputable def gD:FA:=λ _ S=>qq ([],S)
noncomputable def cJ(fa:FE)(fr:FA):FA:=λ env S=>(fa env S).bind λ p=>(fr env p.2).bind λ q=>qq (p.1::q.1,q.2)
theorem oP:PA X [] (dC X.K gD):=PA.weak qP λ σ H Q aM=>by obtain⟨F,L,S,env,ws,S',R,E,e,q⟩:=aM;cases e;exact q F L H [] Gr.refl R .nil
theorem oH{e:qw}{es:List qw}{fa:FE}{fr:FA}(ha:PE X e (aI X.K fa))(hr:PA X es (dC X.K fr))(hs:zj (e::es) X.env=(false,eval e X.env)::zj es X.env):PA X (e::es) (dC X.K (cJ fa fr)):=
 PA.weak (kF ha hr hs) λ σ H Q aM=>by
  obtain⟨F,L,S,env,ws,S',R,E,e,q⟩:=aM;obtain⟨⟨w,S1⟩,e1,e2⟩:=bind_some e;obtain⟨⟨wr,S2⟩,e3,e4⟩:=bind_some e2;cases e4;exact⟨F,L,S,env,w,S1,R,E,e1,λ F1 L1 H1 v g1 R1 d1=>⟨F1,L1,S1,env,wr,S2,R1,E.mono g1,e3,λ F2 L2 H2 vs g2 R2 d2=>q F2 L2 H2 _ (g1.trans g2) R2 (.cons (d1.mono g2) d2)⟩⟩
noncomputable def vC:List W->Option (List D)
 | []=>qq []
 | .d x::r=>(vC r).bind λ l=>qq (x::l)
 | .loc _::_=>qz
 | .exc _ _::_=>qz
theorem aBe{K:FrG}{F:Hp}{L:List qv}:∀ {ws:List W}{xs:List V}{ds:List D},WDenL K F L ws xs->vC ws=qq ds->DenL K F ds xs
 | _,_,_,.nil,e=>by cases e;exact .nil
 | .d x::r,_,_,.cons h t,e=>by
   obtain⟨l,e1,e2⟩:=bind_some e;cases e2;exact .cons h (aBe t e1)
 | .loc _::_,_,_,.cons _ _,e=>by cases e
 | .exc _ _::_,_,_,.cons _ _,e=>by cases e
noncomputable def vB(fs:FA):FE:=λ env S=>(fs env S).bind λ p=>(vC p.1).bind λ ds=>if ds.length<=qk then qq (.d (.tuple ds),p.2) else qz
theorem aHe{es:List qw}{k:Nat}{fs:FA}(h:PA X es (dC X.K fs)):PE X (.Tuple es k pos) (aI X.K (vB fs)):=
 PE.weak (aBN h) λ σ H Q aM=>by
  obtain⟨F,L,S,env,w,S',R,E,e,q⟩:=aM;obtain⟨⟨ws,S1⟩,e1,e2⟩:=bind_some e;obtain⟨ds,e3,e4⟩:=bind_some e2
  split at e4
  ·rename_i hz;cases e4;refine⟨F,L,S,env,ws,_,R,E,e1,λ F1 L1 H1 vs g1 R1 d1=>?_⟩
   have dl:=aBe d1 e3;refine⟨by rw[<- dl.length];exact hz,λ p hp=>?_⟩
   exact q _ L1 _ _ (g1.trans (Gr.new (R1.sub.free hp))) (R1.new hp) (Den.tup (bV.of cA) (dl.mono (eZ (R1.sub.free hp))))
  ·cases e4
noncomputable def jT(fs:FA):FL:=λ env S=>(fs env S).bind λ p=>(vC p.1).bind λ ds=>if ds.length<=qk then qq (ds,p.2) else qz
theorem uB{es:List qw}{fs:FA}(h:PA X es (dC X.K fs)):PE X (.List es pos) (hB X.K (jT fs)):=
 PE.weak (aOt h) λ σ H Q aM=>by
  obtain⟨F,L,S,env,ds,S',R,E,e,q⟩:=aM;obtain⟨⟨ws,S1⟩,e1,e2⟩:=bind_some e;obtain⟨ds',e3,e4⟩:=bind_some e2
  split at e4
  ·rename_i hz;cases e4;refine⟨F,L,S,env,ws,_,R,E,e1,λ F1 L1 H1 vs g1 R1 d1=>?_⟩
   have dl:=aBe d1 e3;exact⟨by rw[<- dl.length];exact hz,λ p hp=>q F1 L1 _ p vs g1 (R1.lay hp) (R1.sub.free hp) (R1.notin hp) cA dl⟩
  ·cases e4
noncomputable def gE(f:FL):FE:=λ env S=>(f env S).bind λ p=>qq (.d (.list p.1),p.2)
theorem rE{e:qw}{f:FL}(h:PE X e (hB X.K f)):PE X e (aI X.K (gE f)):=
 PE.weak h λ σ H Q aM=>by
  obtain⟨F,L,S,env,w,S',R,E,e,q⟩:=aM;obtain⟨⟨ds,S1⟩,e1,e2⟩:=bind_some e;cases e2;exact⟨F,L,S,env,ds,_,R,E,e1,λ F1 L1 H1 p xs g1 R1 hF hL hH dl=>q _ L1 _ _ (g1.trans (Gr.new hF)) (R1.adopt hF hL hH) (Den.lst (bR.of cA) (dl.mono (eZ hF)))⟩
noncomputable def gM(f:FL):FE:=λ env S=>(f env S).bind λ p=>qq (.loc p.2.length,p.2++[qq p.1])
theorem aG0{e:qw}{f:FL}(h:PE X e (hB X.K f)):PE X e (aI X.K (gM f)):=
 PE.weak h λ σ H Q aM=>by
  obtain⟨F,L,S,env,w,S',R,E,e,q⟩:=aM;obtain⟨⟨ds,S1⟩,e1,e2⟩:=bind_some e;cases e2;refine⟨F,L,S,env,ds,_,R,E,e1,λ F1 L1 H1 p xs g1 R1 hF hL hH dl=>q _ _ _ _ (g1.trans Gr.newLoc) (R1.adoptLoc hF hL hH dl) ⟨p,?_,rfl⟩⟩
  dsimp only;rw[<- R1.len,yAd (yAe _)];simp
noncomputable def bC:D->D->Option D
 | .list xs,.int i=>gQ xs i
 | .tuple xs,.int i=>gQ xs i
 | .str z,.int i=>if z.length<=qk then (gQ z.cps.toList i).bind λ c=>qq (.str ⟨#[c]⟩) else qz
 | _,_=>qz
theorem aE8{K:FrG}{F:Hp}{ds:List D}{xs:List V}{i:Int}{d:D}(h:DenL K F ds xs)(e:gQ ds i=qq d):∃ x,gQ xs i=qq x/\Den K F d x:=by
 unfold gQ at e ⊢;rw[<- h.length];obtain⟨j,e1,e2⟩:=bind_some e;obtain⟨x,e3,dx⟩:=h.get e2;exact⟨x,by rw[e1];exact e3,dx⟩
theorem aMo:kZ X (nN X bC):=λ value slice aA s σ H x y v u Q I rx ry aM hs=>by
 obtain⟨F,L,S,dx,dy,z,R,nx,ny,e,q⟩:=aM;unfold bC at e
 split at e
 ·obtain⟨a,xs,rfl,sq,dl⟩:=nx.lst R.sub;obtain⟨r,e1,d1⟩:=aE8 dl e;exact aLs value slice aA s σ H _ y v u Q I rx ry ⟨a,xs,_,r,rfl,ny.int,sq,e1,q.here R d1⟩ hs
 ·obtain⟨a,xs,rfl,sq,dl⟩:=nx.tup R.sub;obtain⟨r,e1,d1⟩:=aE8 dl e;exact aNu value slice aA s σ H _ y v u Q I rx ry ⟨a,xs,_,r,rfl,ny.int,sq,e1,q.here R d1⟩ hs
 ·split at e
  ·rename_i hz;obtain⟨c,e1,e2⟩:=bind_some e;cases e2;exact aN3 value slice aA s σ H x y v u Q I rx ry ⟨_,_,c,nx.str,ny.int,hz,e1,q.here R (.str _)⟩ hs
  ·cases e
 ·cases e
noncomputable def rZ(fa fb:FE):FE:=f2 fa fb (gN bC)
theorem aRI{a b:qw}{fa fb:FE}(ha:PE X a (aI X.K fa))(hb:PE X b (aI X.K fb))(hs:xJ b):PE X (.Subscript a b pos) (aI X.K (rZ fa fb)):=
 PE.weak (aG9 aMo ha hb hs) (pJ lN)
abbrev FO:=aV->aC->Option (Option Int×aC)
noncomputable def cV:FO:=λ _ S=>qq (qz,S)
noncomputable def cL(fa:FE):FO:=λ env S=>(fa env S).bind λ p=>match p.1 with
 | .d (.int i)=>qq (qq i,p.2)
 | _=>qz
def jA(K:FrG)(f:FO):TO:=λ σ H Q=>∃ F L S env o S',Rel K F L S H/\EnvR K F L env σ/\f env S=qq (o,S')/\∀ F' L' H',Gr F L F' L'->Rel K F' L' S' H'->Q o H'
theorem aR0:PO X qz (jA X.K cV):=λ aA s σ H Q I aM=>by
 obtain⟨F,L,S,env,o,S',R,E,e,q⟩:=aM;cases e;exact aMx aA s σ H Q I (q F L H Gr.refl R)
theorem aOH{a:qw}{fa:FE}(ha:PE X a (aI X.K fa)):PO X (qq a) (jA X.K (cL fa)):=λ aA s σ H Q I aM=>by
 obtain⟨F,L,S,env,o,S',R,E,e,q⟩:=aM;obtain⟨⟨w,S1⟩,e1,e2⟩:=bind_some e;dsimp only at e2
 split at e2
 ·cases e2;refine aMY ha aA s σ H Q I ⟨F,L,S,env,_,_,R,E,e1,λ F1 L1 H1 v g1 R1 d1=>?_⟩
  cases (show Den X.K F1 (.int _) v from d1)
  exact⟨_,rfl,q F1 L1 H1 g1 R1⟩
 ·cases e2
noncomputable def cK(xs:List D)(lo hi:Option Int):List D:=(xs.drop (HT.sIx xs.length 0 lo)).take (HT.sIx xs.length xs.length hi-HT.sIx xs.length 0 lo)
theorem aFs{K:FrG}{F:Hp}{ds:List D}{xs:List V}(h:DenL K F ds xs)(lo hi:Option Int):DenL K F (cK ds lo hi) (lU xs lo hi):=by
 unfold cK lU;rw[h.length];exact(h.drop _).take _
noncomputable def slL:D->Option Int->Option Int->Option (List D)
 | .list xs,lo,hi=>qq (cK xs lo hi)
 | _,_,_=>qz
noncomputable def aHq(fa:FE)(fl fh:FO):FL:=λ env S=>(fa env S).bind λ p=>(fl env p.2).bind λ q=>(fh env q.2).bind λ r=>(dr r.2 p.1).bind λ d=>(slL d q.1 r.1).bind λ z=>qq (z,r.2)
theorem aPW{a:qw}{lo hi:Option qw}{p2:Pos}{fa:FE}{fl fh:FO}(ha:PE X a (aI X.K fa))(hl:PO X lo (jA X.K fl))(hh:PO X hi (jA X.K fh)):PE X (.Subscript a (.Slice lo hi qz p2) pos) (hB X.K (aHq fa fl fh)):=
 PE.weak (aA7 aLN ha hl hh) λ σ H Q aM=>by
  obtain⟨F,L,S,env,ds,S',R,E,e,q⟩:=aM;obtain⟨⟨w,S1⟩,e1,e⟩:=bind_some e;obtain⟨⟨l,S2⟩,e2,e⟩:=bind_some e;obtain⟨⟨h,S3⟩,e3,e⟩:=bind_some e;obtain⟨d,e4,e⟩:=bind_some e;obtain⟨z,e5,e⟩:=bind_some e;cases e;refine⟨F,L,S,env,w,S1,R,E,e1,λ F1 L1 H1 v g1 R1 d1=>⟨F1,L1,S1,env,l,S2,R1,E.mono g1,e2,λ F2 L2 H2 g2 R2=>⟨F2,L2,S2,env,h,S3,R2,E.mono (g1.trans g2),e3,λ F3 L3 H3 g3 R3=>?_⟩⟩⟩
  have n:=fY R3 (d1.mono (g2.trans g3)) e4;cases d with
  | list xs =>
    cases e5;obtain⟨a,vs,rfl,sq,dl⟩:=n.lst R3.sub;exact⟨a,vs,rfl,sq,λ p hp=>q F3 L3 _ p _ ((g1.trans g2).trans g3) (R3.lay hp) (R3.sub.free hp) (R3.notin hp) cA (aFs dl l h)⟩
  | _=>cases e5
noncomputable def iN(K:FrG)(np:Nat)(call:List W->aC->Option (W×aC)):Sp:=λ vs H Q _=>∃ F L S ws w S',ws.length=np/\Rel K F L S H/\WDenL K F L ws vs/\call ws S=qq (w,S')/\pI K F L S' w Q
noncomputable def tZ(fs:FA)(np:Nat)(call:List W->aC->Option (W×aC)):FE:=λ env S=>(fs env S).bind λ p=>if p.1.length=np then call p.1 p.2 else qz
theorem aNv{K:FrG}{fs:FA}{np:Nat}{call:List W->aC->Option (W×aC)}(σ:St)(H:Hp)(Q:VK)(h:aI K (tZ fs np call) σ H Q):yN (iN K np call) [] E0 (dC K fs) σ H Q:=by
 obtain⟨F,L,S,env,w,S',R,E,e,q⟩:=h;obtain⟨⟨ws,S1⟩,e1,e⟩:=bind_some e
 split at e
 ·rename_i hn;refine⟨F,L,S,env,ws,S1,R,E,e1,λ F1 L1 H1 vs g1 R1 d1=>⟨F1,L1,S1,ws,w,S',hn,R1,by rw[yAv];exact d1,e,λ F2 L2 H2 v g2 R2 d2=>q F2 L2 H2 v (g1.trans g2) R2 d2⟩⟩
 ·cases e
inductive NowL (K:FrG) (F H:Hp):List D->List V->Prop
 | nil:NowL K F H [] []
 | cons {d:D}{ds:List D}{x:V}{xs:List V}:bO K F H d x->NowL K F H ds xs->NowL K F H (d::ds) (x::xs)
noncomputable def drs(S:aC):List W->Option (List D)
 | []=>qq []
 | w::r=>(dr S w).bind λ d=>(drs S r).bind λ l=>qq (d::l)
theorem aE7{K:FrG}{F H:Hp}{L:List qv}{S:aC}(R:Rel K F L S H):∀ {ws:List W}{xs:List V}{ds:List D},WDenL K F L ws xs->drs S ws=qq ds->NowL K F H ds xs
 | _,_,_,.nil,e=>by cases e;exact .nil
 | _,_,_,.cons h t,e=>by
   obtain⟨d,e1,e⟩:=bind_some e;obtain⟨l,e2,e⟩:=bind_some e;cases e;exact .cons (fY R h e1) (aE7 R t e2)
noncomputable def kY(X:Cx)(g:List D->Option D):List V->Hp->VK->Prop:=λ xs H Q=>∃ F L S ds z,Rel X.K F L S H/\NowL X.K F H ds xs/\g ds=qq z/\eW X F L S z Q
noncomputable def rR(fs:FA)(g:List D->Option D):FE:=λ env S=>(fs env S).bind λ p=>(drs p.2 p.1).bind λ ds=>(g ds).bind λ z=>qq (.d z,p.2)
theorem lQ{fs:FA}{g:List D->Option D}(σ:St)(H:Hp)(Q:VK)(h:aI X.K (rR fs g) σ H Q):vP (kY X g) (dC X.K fs) σ H Q:=by
 obtain⟨F,L,S,env,w,S',R,E,e,q⟩:=h;obtain⟨⟨ws,S1⟩,e1,e⟩:=bind_some e;obtain⟨ds,e2,e⟩:=bind_some e;obtain⟨z,e3,e⟩:=bind_some e;cases e;refine⟨F,L,S,env,ws,_,R,E,e1,λ F1 L1 H1 vs g1 R1 d1=>⟨F1,L1,S1,ds,z,R1,aE7 R1 d1 e2,e3,tI X rfl λ F2 L2 H2 v g2 R2 d2=>q F2 L2 H2 v (g1.trans g2) R2 d2⟩⟩
end
section
variable {prog : zq}{w : zx}{A : zv}{E : qx -> qj -> Prop}{s : qj}
theorem aEf{it t:qv}{aP:Array qx}(hne:t≠it):∀ (n i:Nat) (s:qj) (Q:List qx->qj->Prop),s.heap.IsListIter it t i->s.heap.IsList t aP->i+n<=aP.size ->
 (∀ h',h'.IsListIter it t (i+n)->yDe it s.heap h'->Q ((aP.toList.drop i).take n) {s with heap:=h' })->qu (model prog w) A (draw (.ref it) n) Q E s
 | 0,i,s,Q,hit,_,_,hQ=>wP (by simpa using hQ s.heap hit (Heap.SameBut.refl _ _))
 | n+1,i,s,Q,hit,hl,hle,hQ=>by
   have hlt:i<aP.size:=by omega
   show qu _ _ (yk (.ref it) >>= _) Q E s;refine wB (wq hit hl (x:=aP[i]) (by simp[hlt]) λ h1 hit1 hs1=>?_)
   refine wB (xq (aEf hne n (i+1) _ _ hit1 (hl.extBut hs1.extBut hne) (by omega) λ h2 hit2 hs2=>wP ?_))
   have q:=hQ h2 (by rw[show i+(n+1)=i+1+n by omega];exact hit2) (hs1.trans hs2)
   rw[yCn (by simpa using hlt),List.take_succ_cons] at q
   exact q
theorem aIR{env:Env}{elts:List qw}{x1}{pos:Pos}{t:qv}{aP:Array qx}{Q:Unit->qj->Prop}(hh:A.handled=qz)(hl:s.heap.IsList t aP)
 (hn:(xj elts env).length=aP.size) (hstar:(xj elts env).findIdx? (·.1)=qz)
 (h:∀ h',Heap.ExtBut s.heap.objs.size s.heap h'->qu (model prog w) A (assignInOrder ((xj elts env).map (·.2)) aP.toList) Q E {s with heap:=h' }) :
 qu (model prog w) A (assign (.Tuple elts x1 pos) env (.ref t)) Q E s:=by
 have hlt:t≠s.heap.objs.size:=by obtain⟨o,ho,_⟩:=hl;exact xAh (xAa ho)
 have hl1:∀ o,(s.heap.push o).IsList t aP:=λ o=>let ⟨u,hu,r⟩:=hl;⟨u,hpS _ hu,r⟩
 rw[arm_assign_Tuple];refine wB (vx ?_);unfold unpack;rw[hn,hstar];refine wB (xq ?_);unfold unpackItems;refine wB ?_;unfold notIterableAtAll;refine wB (wpAny_specialOf hl.typeIs slot_list_iter.lookup (wP ?_));simp only[yAz,if_false];refine wB (xq (ju hl ?_));refine wB (xq (aEf hlt aP.size 0 _ _ ⟨_,xAe _ rfl,rfl,rfl⟩ (hl1 _) (by omega) λ h1 hit1 hs1=>?_))
 rw[show List.take aP.size (List.drop 0 aP.toList)=aP.toList by rw[yDb];exact yBu (by simp)]
 rw[if_neg (by simp)]
 have hl2:h1.IsList t aP:=(hl1 _).extBut hs1.extBut hlt;refine wB (xq (ww hh hit1 hl2 (by simp) λ h2 he2=>?_))
 simp only[Option.isSome_none,yAz,if_false];exact wP (h h2 λ b o hb e=>he2 b o hb (hs1.extBut b o hb (hpS _ e)))
end
section
variable {X : Cx}
def aCP(K:FrG)(n:Nat)(t:iM):TG:=λ v σ H Q=>∃ a xs,v=.ref a/\(bV K H a xs\/bR K H a xs)/\xs.length=n/\t xs σ H Q
theorem aOC{es:List qw}{k:Nat}{t:iM}{n:Nat}{pos:Pos}(hc:X.calm=true)(h:pP X es t)(hn:(xj es X.env).length=n)(dL:(xj es X.env).findIdx? (·.1)=qz):PG X (.Tuple es k pos) (aCP X.K n t):=by
 intro aA s σ H v u Q I r hw;obtain⟨a,xs,e1,hq,hl,hw⟩:=hw;rcases hq with hq | hq
 ·exact aM4 hc h hn dL aA s σ H v u Q I r ⟨a,xs,e1,hq,hl,hw⟩
 ·subst e1;cases r;obtain⟨its,rv,pl,hz⟩:=I.list hq;refine aIR (I.ok.hd hc) pl.isList (by simp[hn,<- hl,rv.length]) dL λ h' hx=>?_
  have I1:Inv X aA σ H {s with heap:=h' }:=I.kept (t':=s.toks) λ b o e=>hx b o (xAh (xAa e)) e
  exact h aA _ σ H xs _ Q I1 (by simpa using rv) hw
end
section
variable {X : Cx}{pos : Pos}
noncomputable def zN(K:FrG)(D:Ends)(F':Hp)(L':List qv)(H':Hp):Fl->Prop
 | .nx aO=>∀ σ',EnvR K F' L' aO σ'->D.nx σ' H'
 | .rt w=>∀ v,eK K F' L' w v->D.rt v H'
 | .bk aO=>∀ σ',EnvR K F' L' aO σ'->D.bk σ' H'
 | .ct aO=>∀ σ',EnvR K F' L' aO σ'->D.ct σ' H'
theorem iB{K:FrG}{f:FS}{D:Ends}{σ:St}{H F:Hp}{L:List qv}{S:aC}{env:aV}{fl:Fl}{S':aC}(R:Rel K F L S H)(E:EnvR K F L env σ)(e:f env S=qq (fl,S'))
 (q:∀ F' L' H',Gr F L F' L'->Rel K F' L' S' H'->zN K D F' L' H' fl):cM K f D σ H:=⟨F,L,S,env,fl,S',R,E,e,λ F' L' H' g R'=>by
 have:=q F' L' H' g R';cases fl<;>exact this⟩
theorem lD{K:FrG}{f:FS}{D:Ends}{σ:St}{H:Hp}(h:cM K f D σ H):∃ F L S env fl S',Rel K F L S H/\EnvR K F L env σ/\f env S=qq (fl,S')/\∀ F' L' H',Gr F L F' L'->Rel K F' L' S' H'->zN K D F' L' H' fl:=by
 obtain⟨F,L,S,env,fl,S',R,E,e,q⟩:=h;exact⟨F,L,S,env,fl,S',R,E,e,λ F' L' H' g R'=>by
  have:=q F' L' H' g R';cases fl<;>exact this⟩
noncomputable def oZ:FS:=λ env S=>qq (.nx env,S)
theorem aGm:bW X [] (cM X.K oZ):=bW.weak aBL λ D σ H h=>by
 obtain⟨F,L,S,env,fl,S',R,E,e,q⟩:=lD h;cases e;exact q F L H Gr.refl R σ E
noncomputable def dA(fa fb:FS):FS:=λ env S=>(fa env S).bind λ p=>match p.1 with
 | .nx e=>fb e p.2
 | fl=>qq (fl,p.2)
theorem aG4{a:zy}{b:List zy}{fa fb:FS}(ha:PS X a (cM X.K fa))(hb:bW X b (cM X.K fb)):bW X (a::b) (cM X.K (dA fa fb)):=bW.weak (aBb ha hb) λ D σ H h=>by
 obtain⟨F,L,S,env,fl,S',R,E,e,q⟩:=lD h;obtain⟨⟨f1,S1⟩,e1,e2⟩:=bind_some e;cases f1 with
 | nx e'=>exact iB R E e1 λ F1 L1 H1 g1 R1 σ1 E1=>iB R1 E1 e2 λ F2 L2 H2 g2 R2=>q F2 L2 H2 (g1.trans g2) R2
 | rt w=>cases e2;exact iB R E e1 λ F1 L1 H1 g1 R1=>q F1 L1 H1 g1 R1
 | bk e'=>cases e2;exact iB R E e1 λ F1 L1 H1 g1 R1=>q F1 L1 H1 g1 R1
 | ct e'=>cases e2;exact iB R E e1 λ F1 L1 H1 g1 R1=>q F1 L1 H1 g1 R1
noncomputable def uD(fa:FE):FS:=λ env S=>(fa env S).bind λ p=>qq (.nx env,p.2)
theorem aGr{e:qw}{fa:FE}(h:PE X e (aI X.K fa))(hs:swapsWith e qz pos.line X.env=pure false):PS X (.Expr e pos) (cM X.K (uD fa)):=PS.weak (aFM h hs) λ D σ H h=>by
 obtain⟨F,L,S,env,fl,S',R,E,e,q⟩:=lD h;obtain⟨⟨w,S1⟩,e1,e2⟩:=bind_some e;cases e2;exact⟨F,L,S,env,w,_,R,E,e1,λ F1 L1 H1 v g1 R1 d1=>q F1 L1 H1 g1 R1 σ (E.mono g1)⟩
noncomputable def nF(fa:FE):FS:=λ env S=>(fa env S).bind λ p=>qq (.rt p.1,p.2)
theorem aGW{e:qw}{fa:FE}(h:PE X e (aI X.K fa)):PS X (.Return (qq e) pos) (cM X.K (nF fa)):=PS.weak (aN0 h) λ D σ H h=>by
 obtain⟨F,L,S,env,fl,S',R,E,e,q⟩:=lD h;obtain⟨⟨w,S1⟩,e1,e2⟩:=bind_some e;cases e2;exact⟨F,L,S,env,w,_,R,E,e1,λ F1 L1 H1 v g1 R1 d1=>q F1 L1 H1 g1 R1 v d1⟩
noncomputable def aQJ:FS:=λ env S=>qq (.rt (.d .none),S)
noncomputable def nO(fc:FT)(fa fb:FS):FS:=λ env S=>(fc env S).bind λ p=>if p.1=true then fa env p.2 else fb env p.2
theorem aRQ{c:qw}{a b:List zy}{fc:FT}{fa fb:FS}(hc:PT X c (eP X.K fc))(ha:bW X a (cM X.K fa))(hb:bW X b (cM X.K fb)):PS X (.If c a b pos) (cM X.K (nO fc fa fb)):=PS.weak (aG7 hc ha hb) λ D σ H h=>by
 obtain⟨F,L,S,env,fl,S',R,E,e,q⟩:=lD h;obtain⟨⟨c,S1⟩,e1,e2⟩:=bind_some e;refine⟨F,L,S,env,c,S1,R,E,e1,λ F1 L1 H1 g1 R1=>?_⟩
 cases c with
 | true=>exact pH (iB R1 (E.mono g1) (by simpa using e2) λ F2 L2 H2 g2 R2=>q F2 L2 H2 (g1.trans g2) R2)
 | false=>exact pF (iB R1 (E.mono g1) (by simpa using e2) λ F2 L2 H2 g2 R2=>q F2 L2 H2 (g1.trans g2) R2)
noncomputable def dO(i:Nat)(fa:FE):FS:=λ env S=>(fa env S).bind λ p=>qq (.nx (env.set i (qq p.1)),p.2)
theorem aG8{K:FrG}{i:Nat}{fa:FE}(D:Ends)(σ:St)(H:Hp)(h:cM K (dO i fa) D σ H):vG (aI K fa) (mW i) D σ H:=by
 obtain⟨F,L,S,env,fl,S',R,E,e,q⟩:=lD h;obtain⟨⟨w,S1⟩,e1,e2⟩:=bind_some e;cases e2;exact⟨F,L,S,env,w,_,R,E,e1,λ F1 L1 H1 v g1 R1 d1=>q F1 L1 H1 g1 R1 _ ((E.mono g1).set i d1)⟩
theorem xZ{i:Nat}{x:Str}{e:qw}{fa:FE}{pos':Pos}(hN:X.N.Nodup)(hi:X.N[i]? = qq x)(hx:Loc X.env.scope x)(he:PE X e (aI X.K fa))(hs:swapsWith e (qq (.Name x pos')) pos.line X.env=pure false)(hf:X.fn x=true\/X.env.scope.names.lookup x=qq .local) :
 PS X (.Assign [.Name x pos'] e pos) (cM X.K (dO i fa)):=PS.weak (aF0 hN hi hx he hs hf) aG8
noncomputable def mQ:List Nat->List D->aV->Option aV
 | [],[],env=>qq env
 | i::is,d::ds,env=>mQ is ds (env.set i (qq (.d d)))
 | _,_,_=>qz
inductive Tg where
 | one (i:Nat) | many (is:List Nat)
noncomputable def Tg.put:Tg->D->aV->Option aV
 | .one i,d,env=>qq (env.set i (qq (.d d)))
 | .many is,.tuple ds,env=>mQ is ds env
 | .many is,.list ds,env=>mQ is ds env
 | .many _,_,_=>qz
def GA(K:FrG)(t:Tg)(g:TG):Prop:=∀ (d:D) (x:V) (σ:St) (H F:Hp) (L:List qv) (S:aC) (env aO:aV) (Q:St->Hp->Prop),
 Rel K F L S H->EnvR K F L env σ->Den K F d x->t.put d env=qq aO->(∀ σ',EnvR K F L aO σ'->Q σ' H)->g x σ H Q
theorem aNf{K:FrG}(i:Nat):GA K (.one i) (mW i):=λ d x σ H F L S env aO Q R E dn e q=>by
 cases e;exact q _ (E.set i (w:=.d d) dn)
def vY(K:FrG)(is:List Nat)(g:iM):Prop:=∀ (ds:List D) (xs:List V) (σ:St) (H F:Hp) (L:List qv) (S:aC) (env aO:aV) (Q:St->Hp->Prop),
 Rel K F L S H->EnvR K F L env σ->DenL K F ds xs->mQ is ds env=qq aO->(∀ σ',EnvR K F L aO σ'->Q σ' H)->g xs σ H Q
theorem aMm{K:FrG}:vY K [] aCJ:=λ ds xs σ H F L S env aO Q R E dn e q=>by
 cases dn with
 | nil=>cases e;exact⟨rfl,q σ E⟩
 | cons _ _=>cases e
theorem aKX{K:FrG}{i:Nat}{is:List Nat}{g:iM}(h:vY K is g):vY K (i::is) (aCo (mW i) g):=λ ds xs σ H F L S env aO Q R E dn e q=>by
 cases dn with
 | nil=>cases e
 | cons d1 dr=>exact⟨_,_,rfl,h _ _ _ H F L S _ aO Q R (E.set i (w:=.d _) d1) dr e q⟩
theorem aAO:∀ {is:List Nat}{ds:List D}{env aO:aV},mQ is ds env=qq aO->is.length=ds.length
 | [],[],_,_,_=>rfl
 | _::is,_::ds,_,_,e=>congrArg (· + 1) (aAO (is:=is) (ds:=ds) e)
 | [],_::_,_,_,e=>by cases e
 | _::_,[],_,_,e=>by cases e
theorem aL7{K:FrG}{is:List Nat}{g:iM}(h:vY K is g):GA K (.many is) (aCP K is.length g):=λ d x σ H F L S env aO Q R E dn e q=>by
 cases d with
 | tuple ds =>
   cases dn with
   | tup sq dl=>exact⟨_,_,rfl,.inl (iT R.sub sq),by rw[<- dl.length];exact(aAO e).symm,h _ _ σ H F L S env aO Q R E dl e q⟩
 | list ds =>
   cases dn with
   | lst sq dl=>exact⟨_,_,rfl,.inr (R.sub.seq sq),by rw[<- dl.length];exact(aAO e).symm,h _ _ σ H F L S env aO Q R E dl e q⟩
 | _=>cases e
noncomputable def mU(t:Tg)(fa:FE):FS:=λ env S=>(fa env S).bind λ p=>match p.1 with
 | .d d=>(t.put d env).bind λ e=>qq (.nx e,p.2)
 | _=>qz
theorem aOS{K:FrG}{t:Tg}{g:TG}{fa:FE}(hg:GA K t g)(D:Ends)(σ:St)(H:Hp)(h:cM K (mU t fa) D σ H):vG (aI K fa) g D σ H:=by
 obtain⟨F,L,S,env,fl,S',R,E,e,q⟩:=lD h;obtain⟨⟨w,S1⟩,e1,e2⟩:=bind_some e;dsimp only at e2
 split at e2
 ·obtain⟨e',e3,e4⟩:=bind_some e2;cases e4;exact⟨F,L,S,env,_,_,R,E,e1,λ F1 L1 H1 v g1 R1 d1=>hg _ v σ H1 F1 L1 _ env e' _ R1 (E.mono g1) d1 e3 λ σ' E'=>q F1 L1 H1 g1 R1 σ' E'⟩
 ·cases e2
noncomputable def mS(S:aC):W->W->W->Option aC
 | .loc n,.d (.int k),.d x=>match S[n]? with
   | some (qq ds)=>(gF ds.length k).bind λ j=>qq (S.set n (qq (ds.set j x)))
   | _=>qz
 | _,_,_=>qz
noncomputable def nH(fo fi fe:FE):FS:=λ env S=>(fe env S).bind λ p=>(fo env p.2).bind λ q=>(fi env q.2).bind λ r=>(mS r.2 q.1 r.1 p.1).bind λ S'=>qq (.nx env,S')
theorem aJi{S S':aC}{o i x:W}(h:mS S o i x=qq S'):∃ n k d ds j,o=.loc n/\i=.d (.int k)/\x=.d d/\S[n]? = qq (qq ds)/\gF ds.length k=qq j/\S'=S.set n (qq (ds.set j d)):=by
 unfold mS at h
 split at h
 ·split at h
  ·rename_i ds e;obtain⟨j,e1,e2⟩:=bind_some h;cases e2;exact⟨_,_,_,ds,j,rfl,rfl,rfl,e,e1,rfl⟩
  ·cases h
 ·cases h
theorem aQI{K:FrG}{fo fi fe:FE}(D:Ends)(σ:St)(H:Hp)(h:cM K (nH fo fi fe) D σ H):vG (aI K fe) (aHs (aI K fo) (aI K fi) aG2) D σ H:=by
 obtain⟨F,L,S,env,fl,S',R,E,e,q⟩:=lD h;obtain⟨⟨we,S1⟩,e1,e⟩:=bind_some e;obtain⟨⟨wo,S2⟩,e2,e⟩:=bind_some e;obtain⟨⟨wi,S3⟩,e3,e⟩:=bind_some e;obtain⟨S4,e4,e⟩:=bind_some e;cases e;obtain⟨n,k,d,ds,j,rfl,rfl,rfl,e5,e6,rfl⟩:=aJi e4;refine⟨F,L,S,env,_,S1,R,E,e1,λ F1 L1 H1 v g1 R1 d1=>⟨F1,L1,S1,env,_,S2,R1,E.mono g1,e2,λ F2 L2 H2 o g2 R2 d2=>⟨F2,L2,S2,env,_,S3,R2,E.mono (g1.trans g2),e3,λ F3 L3 H3 i g3 R3 d3=>?_⟩⟩⟩
 obtain⟨a,ea,rfl⟩:=d2.mono g3;obtain⟨fa,xs,ha,dl⟩:=R3.loc n a ds ea e5;have hi:i=.int k:=by cases (show Den K F3 (.int k) i from d3);rfl
 refine⟨a,xs,k,j,rfl,hi,ha,by rw[<- dl.length];exact e6,?_⟩
 exact q F3 L3 _ ((g1.trans g2).trans g3) (R3.put ea fa (dl.set j (show Den K F3 d v from d1.mono (g2.trans g3)))) σ (E.mono ((g1.trans g2).trans g3))
theorem aPK{o i e:qw}{fo fi fe:FE}{pos':Pos}(ho:PE X o (aI X.K fo))(hi:PE X i (aI X.K fi))(he:PE X e (aI X.K fe))(ha:∀ v,assign (.Subscript o i pos') X.env v=(do
 let ov <- holding [v] (eval o X.env)
 let iv <- holding [v,ov] (eval i X.env)
 standAt pos'
 holding [v,ov,iv] (setItem ov iv v)
 release [v,ov,iv] [])) (hs:swapsWithSole [.Subscript o i pos'] e pos.line X.env=pure false) (hw:yj [.Subscript o i pos'] e X.env=pure qz):PS X (.Assign [.Subscript o i pos'] e pos) (cM X.K (nH fo fi fe)):=
 PS.weak (aGt he (aPd ho hi aLc ha) hs hw) aQI
noncomputable def fS(S:aC):W->W->Option (W×aC)
 | .loc n,.d x=>match S[n]? with
   | some (qq ds)=>if ds.length<qk then qq (.d .none,S.set n (qq (ds++[x]))) else qz
   | _=>qz
 | _,_=>qz
theorem aEe{S S':aC}{o x w:W}(h:fS S o x=qq (w,S')):∃ n d ds,o=.loc n/\x=.d d/\S[n]? = qq (qq ds)/\ds.length<qk/\w=.d .none/\S'=S.set n (qq (ds++[d])):=by
 unfold fS at h
 split at h
 ·split at h
  ·rename_i ds e
   split at h
   ·rename_i hz;cases h;exact⟨_,_,ds,rfl,rfl,e,hz,rfl,rfl⟩
   ·cases h
  ·cases h
 ·cases h
noncomputable def gK(fo fe:FE):FE:=f2 fo fe fS
theorem aGS{K:FrG}{fo fe:FE}(σ:St)(H:Hp)(Q:VK)(h:aI K (gK fo fe) σ H Q):tBM K "list" aFH (aI K fo) (dC K (cJ fe gD)) σ H Q:=by
 obtain⟨F,L,S,env,w,S',R,E,e,q⟩:=h;obtain⟨⟨wo,S1⟩,e1,e⟩:=bind_some e;obtain⟨⟨we,S2⟩,e2,e⟩:=bind_some e;obtain⟨n,d,ds,rfl,rfl,e5,hz,rfl,rfl⟩:=aEe e;refine⟨F,L,S,env,_,S1,R,E,e1,λ F1 L1 H1 o g1 R1 d1=>?_⟩
 obtain⟨a,ea,rfl⟩:=d1;refine⟨.inl ⟨rfl,?_⟩,F1,L1,S1,env,[.d d],S2,R1,E.mono g1,?_,λ F2 L2 H2 vs g2 R2 d2=>?_⟩
 ·obtain⟨xs,hx⟩:=R1.tr n a ea;exact⟨xs,bR.of hx⟩
 ·unfold cJ;rw[e2];rfl
 ·cases d2 with
  | cons dd dr =>
    cases dr;have ea2:=g2.get ea;obtain⟨fa,xs,ha,dl⟩:=R2.loc n a ds ea2 e5;exact⟨a,xs,_,rfl,rfl,ha,by rw[<- dl.length];exact hz,q F2 L2 _ _ (g1.trans g2) (R2.put ea2 fa (dl.append (.cons dd .nil))) Den.non⟩
end
section
variable {X : Cx}{pos : Pos}
structure Wk(K:FrG)(F:Hp)(L:List qv)(J:It)(ds:List D):Prop where
 go:∀ (i:Nat) (H:Hp),bY F H->i<ds.length->J.go i H
 stop:∀ (H:Hp),bY F H->J.stop ds.length H
 yld:∀ (i:Nat) (H F1:Hp) (L1:List qv) (S:aC) (x:V) (H':Hp) (d:D),Gr F L F1 L1->Rel K F1 L1 S H->ds[i]? = qq d->J.yld i H x H'->∃ F2,bY F1 F2/\Rel K F2 L1 S H'/\Den K F2 d x
def jF(K:FrG)(f:FL):TI:=λ σ H R=>∃ F L S env ds S',Rel K F L S H/\EnvR K F L env σ/\f env S=qq (ds,S')/\∀ F' L' H' J,Gr F L F' L'->Rel K F' L' S' H'->Wk K F' L' J ds->R J H'
theorem PI.weak{tg iter:qw}{t t':TI}(h:PI X tg iter t)(w:∀ σ H R,t' σ H R->t σ H R):PI X tg iter t':=λ aA s σ H R I q=>h aA s σ H R I (w σ H R q)
theorem aMz{K:FrG}{F:Hp}{L:List qv}{a:qv}{xs:List V}{ds:List D}(sq:bR K F a xs)(dl:DenL K F ds xs):Wk K F L (Itl K a) ds where
 go:=λ i H s hi=>⟨xs,xs[i]'(by rw[<- dl.length];exact hi),s.seq sq,by simp[dl.length▸hi]⟩
 stop:=λ H s=>⟨xs,s.seq sq,yEq dl.length.symm⟩
 yld:=λ i H F1 L1 S x H' d g R e y=>by
  obtain⟨e1,y⟩:=y;subst e1;have h:=y xs ((g.f.trans R.sub).seq sq);obtain⟨x',e2,dx⟩:=dl.get e;rw[h] at e2;cases e2;exact⟨F1,bY.refl _,R,dx.mono g.f⟩
theorem aNB{K:FrG}{F:Hp}{L:List qv}{a:qv}{xs:List V}{ds:List D}(sq:bV K F a xs)(dl:DenL K F ds xs):Wk K F L (Itt K a) ds where
 go:=λ i H s hi=>⟨xs,xs[i]'(by rw[<- dl.length];exact hi),iT s sq,by simp[dl.length▸hi]⟩
 stop:=λ H s=>⟨xs,iT s sq,yEq dl.length.symm⟩
 yld:=λ i H F1 L1 S x H' d g R e y=>by
  obtain⟨e1,y⟩:=y;subst e1;have h:=y xs (iT (g.f.trans R.sub) sq);obtain⟨x',e2,dx⟩:=dl.get e;rw[h] at e2;cases e2;exact⟨F1,bY.refl _,R,dx.mono g.f⟩
noncomputable def kW(lo:Int):Nat->List D
 | 0=>[]
 | n+1=>.int lo::kW (lo+1) n
theorem aAG(n:Nat):∀ lo:Int,(kW lo n).length=n:=by
 induction n with
 | zero=>intro lo;rfl
 | succ n ih=>intro lo;simp[kW,ih]
theorem aEI:∀ (n:Nat) (lo:Int) (i:Nat),i<n->(kW lo n)[i]? = qq (.int (lo+i))
 | 0,_,_,h=>by omega
 | n+1,lo,0,_=>by simp[kW]
 | n+1,lo,i+1,h=>by
   rw[kW,yCx,aEI n (lo+1) i (by omega)]
   congr 2
   push_cast
   omega
theorem aLd{K:FrG}{F:Hp}{L:List qv}(lo:Int)(n:Nat):Wk K F L (Itr lo n) (kW lo n) where
 go:=λ i H s hi=>by rw[aAG] at hi;exact hi
 stop:=λ H s=>by rw[aAG];exact yAe _
 yld:=λ i H F1 L1 S x H' d g R e y=>by
  obtain⟨rfl,rfl⟩:=y;have hi:i<n:=by
   have:=(gIm e).1;rw[aAG] at this;exact this
  rw[aEI n lo i hi] at e;cases e;exact⟨F1,bY.refl _,R,.int _⟩
noncomputable def aHm(fa:FE):FL:=λ env S=>(fa env S).bind λ p=>match p.1 with
 | .d (.list ds)=>qq (ds,p.2)
 | _=>qz
noncomputable def aHL(fa:FE):FL:=λ env S=>(fa env S).bind λ p=>match p.1 with
 | .d (.tuple ds)=>qq (ds,p.2)
 | _=>qz
theorem aQi{tg a:qw}{fa:FE}(ha:PE X a (aI X.K fa)):PI X tg a (jF X.K (aHm fa)):=PI.weak (aMG ha) λ σ H Rr aM=>by
 obtain⟨F,L,S,env,ds,S',R,E,e,q⟩:=aM;obtain⟨⟨w,S1⟩,e1,e2⟩:=bind_some e;dsimp only at e2
 split at e2
 ·cases e2;refine⟨F,L,S,env,_,_,R,E,e1,λ F1 L1 H1 v g1 R1 d1=>?_⟩
  cases (show Den X.K F1 (.list ds) v from d1) with
  | lst sq dl=>exact⟨_,rfl,⟨_,R1.sub.seq sq⟩,q F1 L1 H1 _ g1 R1 (aMz sq dl)⟩
 ·cases e2
theorem aQf{tg a:qw}{fa:FE}(ha:PE X a (aI X.K fa)):PI X tg a (jF X.K (aHL fa)):=PI.weak (aPj ha) λ σ H Rr aM=>by
 obtain⟨F,L,S,env,ds,S',R,E,e,q⟩:=aM;obtain⟨⟨w,S1⟩,e1,e2⟩:=bind_some e;dsimp only at e2
 split at e2
 ·cases e2;refine⟨F,L,S,env,_,_,R,E,e1,λ F1 L1 H1 v g1 R1 d1=>?_⟩
  cases (show Den X.K F1 (.tuple ds) v from d1) with
  | tup sq dl=>exact⟨_,rfl,⟨_,iT R1.sub sq⟩,q F1 L1 H1 _ g1 R1 (aNB sq dl)⟩
 ·cases e2
noncomputable def uL(fa:FE):FL:=λ env S=>(fa env S).bind λ p=>match p.1 with
 | .d (.int j)=>if -(2^62)<=j/\j<2^62 then qq (kW 0 j.toNat,p.2) else qz
 | _=>qz
theorem aNT{K:FrG}{fa:FE}(σ:St)(H:Hp)(Rr:It->Hp->Prop)(h:jF K (uL fa) σ H Rr):aHh (dC K (cJ fa gD)) σ H Rr:=by
 obtain⟨F,L,S,env,ds,S',R,E,e,q⟩:=h;obtain⟨⟨w,S1⟩,e1,e2⟩:=bind_some e;dsimp only at e2
 split at e2
 ·split at e2
  ·rename_i j c;cases e2;refine⟨F,L,S,env,[.d (.int j)],_,R,E,by unfold cJ;rw[e1];rfl,λ F1 L1 H1 vs g1 R1 d1=>?_⟩
   cases d1 with
   | cons dd dr =>
     cases dr;cases (show Den K F1 (.int j) _ from dd)
     exact⟨j,rfl,c.1,c.2,q F1 L1 H1 _ g1 R1 (aLd 0 j.toNat)⟩
  ·cases e2
 ·cases e2
noncomputable def eJ(t:Tg)(fb:FS):List D->FS
 | []=>λ env S=>qq (.nx env,S)
 | d::ds=>λ env S=>(t.put d env).bind λ e1=>(fb e1 S).bind λ q=>(match q.1 with
    | .nx e=>eJ t fb ds e q.2
    | .ct e=>eJ t fb ds e q.2
    | .bk e=>qq (.nx e,q.2)
    | .rt w=>qq (.rt w,q.2))
noncomputable def gZ(t:Tg)(fi:FL)(fb:FS):FS:=λ env S=>(fi env S).bind λ p=>eJ t fb p.1 env p.2
theorem aP9{tg iter:qw}{b:List zy}{t:Tg}{g:TG}{fi:FL}{fb:FS}(hp:PassesOwn (model X.prog X.w) X.A X.env X.xe)(hc:X.calm=true)(hi:PI X tg iter (jF X.K fi))(hg:PG X tg g)(ga:GA X.K t g)(hb:bW X b (cM X.K fb))
 (hs:∀ x,jj iter X.env x=pure x):PS X (.For tg iter b [] pos) (cM X.K (gZ t fi fb)):=PS.weak (aGo hp hc hi hg hb hs) λ D σ H h=>by
 obtain⟨F,L,S,env,fl,S',R,E,e,q⟩:=lD h;obtain⟨⟨ds,S1⟩,e1,e2⟩:=bind_some e;refine⟨F,L,S,env,ds,S1,R,E,e1,λ F0 L0 H0 J g0 R0 wk=>?_⟩
 dsimp only at e2;refine⟨λ i m σ1 H1=>i+m=ds.length/\∃ F1 L1 S1 env1,Gr F0 L0 F1 L1/\Rel X.K F1 L1 S1 H1/\EnvR X.K F1 L1 env1 σ1/\eJ t fb (ds.drop i) env1 S1=qq (fl,S'),
  ⟨ds.length,yEs _,F0,L0,S1,env,Gr.refl,R0,E.mono g0,by rw[yDb];exact e2⟩,?_⟩
 rintro i m σ1 H1 ⟨him,F1,L1,S1',env1,g1,R1,E1,e3⟩;cases m with
 | zero =>
   have hi:i=ds.length:=by omega
   subst hi;rw[yEy] at e3;cases e3;exact .inl ⟨wk.stop H1 (g1.f.trans R1.sub),q F1 L1 H1 (g0.trans g1) R1 σ1 E1⟩
 | succ m =>
   have hi:i<ds.length:=by omega
   refine .inr ⟨wk.go i H1 (g1.f.trans R1.sub) hi,λ σ3 H3=>∃ F3 L3 S3 env3,Gr F0 L0 F3 L3/\Rel X.K F3 L3 S3 H3/\EnvR X.K F3 L3 env3 σ3/\eJ t fb (ds.drop (i+1)) env3 S3=qq (fl,S'),
    λ σ3 H3 h3=>⟨m,yCz m,by omega,h3⟩,λ x H2 y=>?_⟩
   rw[yCn hi] at e3;obtain⟨env2,e4,e5⟩:=bind_some e3;obtain⟨⟨f6,S6⟩,e6,e7⟩:=bind_some e5;obtain⟨F2,s2,R2,d2⟩:=wk.yld i H1 F1 L1 S1' x H2 ds[i] g1 R1 (yAc hi) y;have g2:Gr F1 L1 F2 L1:=⟨s2,[],by simp⟩
   refine ga ds[i] x σ1 H2 F2 L1 S1' env1 env2 _ R2 (E1.mono g2) d2 e4 λ σ2 E2=>?_
   refine iB R2 E2 e6 λ F3 L3 H3 g3 R3=>?_
   have g03:=(g1.trans g2).trans g3;cases f6 with
   | nx e'=>exact λ σ3 E3=>⟨F3,L3,S6,e',g03,R3,E3,e7⟩
   | ct e'=>exact λ σ3 E3=>⟨F3,L3,S6,e',g03,R3,E3,e7⟩
   | bk e'=>cases e7;exact λ σ3 E3=>q F3 L3 H3 (g0.trans g03) R3 σ3 E3
   | rt w=>cases e7;exact λ v d=>q F3 L3 H3 (g0.trans g03) R3 v d
noncomputable def kT(k:Nat)(S:aC):W->Option (W×aC)
 | .d x=>qq (.d x,S.take k)
 | .loc m=>if m<k then qq (.loc m,S.take k) else match S[m]? with
   | some (qq ds)=>qq (.d (.list ds),S.take k)
   | _=>qz
 | .exc c r=>qq (.exc c r,S.take k)
noncomputable def dB(fb:FS)(n:Nat)(ws:List W)(S:aC):Option (W×aC):=(fb (ws.map qq++yAh (n-ws.length) qz) S).bind λ p=>match p.1 with
 | .rt w=>kT S.length p.2 w
 | .nx _=>qq (.d .none,p.2.take S.length)
 | _=>qz
theorem aAR{K:FrG}{F:Hp}{L:List qv}{N:List Str}:∀ {ws:List W}{vs:List V},WDenL K F L ws vs->EnvR K F L (ws.map qq++yAh (N.length-ws.length) qz) (L2.start N vs):=by
 intro ws vs h;unfold L2.start;rw[h.length];generalize N.length-vs.length=k;refine⟨by simp[h.length],?_⟩
 induction h with
 | nil =>
   intro i w e;have:=xAi e;simp at this
 | cons hd tl ih =>
   intro i w e;cases i with
   | zero=>simp at e;subst e;exact⟨_,rfl,hd⟩
   | succ i =>
     obtain⟨v,e1,d⟩:=ih i w (by simpa using e)
     exact⟨v,by simpa using e1,d⟩
theorem xS{K:FrG}{F F1 H1:Hp}{L L1:List qv}{S S1:aC}{w w':W}{S':aC}{v:V}{Q:VK}(R:L.length=S.length)(g:Gr F L F1 L1)(R1:Rel K F1 L1 S1 H1)(d:eK K F1 L1 w v)(e:kT S.length S1 w=qq (w',S'))(q:pI K F L S' w' Q):Q v H1:=by
 obtain⟨sf,M,rfl⟩:=g;cases w with
 | d x =>
   cases e;have R2:=R1.cut;rw[R] at R2;exact q F1 L H1 v ⟨sf,[],by simp⟩ R2 d
 | exc c r =>
   cases e;have R2:=R1.cut;rw[R] at R2;exact q F1 L H1 v ⟨sf,[],by simp⟩ R2 d
 | loc m =>
   have e':(if m<S.length then qq (W.loc m,S1.take S.length) else match S1[m]? with | some (qq ds)=>qq (W.d (.list ds),S1.take S.length) | _=>qz)=qq (w',S'):=e
   split at e'
   ·rename_i hm;cases e';have R2:=R1.cut;rw[R] at R2;obtain⟨a,ea,rfl⟩:=d;rw[xAj (by rw[R];exact hm)] at ea
    exact q F1 L H1 _ ⟨sf,[],by simp⟩ R2 ⟨a,ea,rfl⟩
   ·rename_i hm
    split at e'
    ·rename_i ds es;cases e';obtain⟨a,ea,rfl⟩:=d;obtain⟨F2,g2,R2,d2⟩:=R1.freeze ea es;have R3:=R2.cut;rw[R,List.take_set,List.set_eq_of_length_le (by rw[yAy];omega)] at R3
     exact q F2 L H1 _ ⟨sf.trans g2.f,[],by simp⟩ R3 d2
    ·cases e'
theorem aGE{K:FrG}{fb:FS}{N:List Str}{np:Nat}{vs:List V}{H:Hp}{Q:VK}{E:XK}(h:iN K np (dB fb N.length) vs H Q E):cM K fb {nx:=λ _ H'=>Q .non H',rt:=Q } (L2.start N vs) H:=by
 obtain⟨F,L,S,ws,w,S',hn,R,dl,e,q⟩:=h;obtain⟨⟨fl,S1⟩,e1,e2⟩:=bind_some e;refine iB R (aAR dl) e1 λ F1 L1 H1 g1 R1=>?_
 cases fl with
 | nx aO =>
   cases e2;exact λ σ' E'=>xS (w:=.d .none) R.len g1 R1 Den.non rfl q
 | rt w'=>exact λ v d=>xS R.len g1 R1 d e2 q
 | bk aO=>cases e2
 | ct aO=>cases e2
end
theorem aDu{α β:Type}{f:α->β->Sem (ForInStep β)}{g:α->β->β}:∀ (l:List α) (c:β),(∀ x∈l,∀ c,f x c=pure (ForInStep.yield (g x c)))->forIn l c f=pure (l.foldl (λ c x=>g x c) c)
 | [],c,_=>rfl
 | x::l,c,h=>by
   rw[List.forIn_cons,h x xAd c,pure_bind];exact aDu l (g x c) λ y hy=>h y (xAf _ hy)
noncomputable def jN(env:Env)(x:Str×jo)(cs:List (Str×qv)):List (Str×qv):=if (x.2==NameKind.free)=true then (x.1,(env.cells.lookup x.1).getD 0)::cs else cs
noncomputable def uY(scope:zw)(env:Env):List (Str×qv):=scope.names.foldl (λ c x=>jN env x c) []
theorem aJt{scope:zw}{env:Env}(h:∀ x∈scope.names,x.2=.free->∃ c,env.cells.lookup x.1=qq c):closureFor scope env=pure (uY scope env):=by
 unfold closureFor uY;dsimp only;rw[aDu (g:=jN env) scope.names [] (λ x hx c=>?_)]
 ·rfl
 ·obtain⟨n,k⟩:=x;unfold jN;dsimp only
  by_cases hk:k=.free
  ·obtain⟨a,ha⟩:=h (n,k) hx hk;rw[if_pos (by simp[hk]),if_pos (by simp[hk])]
   have:cellOf env n=pure a:=by unfold cellOf;rw[ha]
   rw[this,pure_bind,ha];rfl
  ·rw[if_neg (by simp[hk]),if_neg (by simp[hk])]
theorem aEX{env:Env}:∀ (l:List (Str×jo)) (aH:List (Str×qv)),(∀ x∈l,x.2=.free->∃ c,env.cells.lookup x.1=qq c)->(∀ x c,aH.lookup x=qq c->env.cells.lookup x=qq c) ->
 ∀ x c,(l.foldl (λ c x=>jN env x c) aH).lookup x=qq c->env.cells.lookup x=qq c
 | [],aH,_,ha,x,c,e=>ha x c e
 | y::l,aH,h,ha,x,c,e=>by
   refine aEX l (jN env y aH) (λ z hz=>h z (xAf _ hz)) (λ z d ez=>?_) x c e
   unfold jN at ez
   split at ez
   ·rename_i hk;obtain⟨a,hy⟩:=h y xAd (by simpa using hk)
    rw[yBe] at ez
    split at ez
    ·rename_i hz;cases ez;have:z=y.1:=by simpa using hz
     rw[this,hy];rfl
    ·exact ha z d ez
   ·exact ha z d ez
theorem aBW{env:Env}:∀ (l:List (Str×jo)) (aH:List (Str×qv)) (x:Str),((∃ k,(x,k)∈l/\k=.free)\/∃ c,aH.lookup x=qq c)->∃ c,(l.foldl (λ c x=>jN env x c) aH).lookup x=qq c
 | [],aH,x,h=>by
   rcases h with ⟨k,hk,_⟩ | h
   ·simp at hk
   ·exact h
 | y::l,aH,x,h=>by
   refine aBW l (jN env y aH) x ?_;have step:(∃ c,aH.lookup x=qq c)->∃ c,(jN env y aH).lookup x=qq c:=λ aM=>by
    obtain⟨c,e⟩:=aM;unfold jN
    split
    ·rw[yBe]
     split
     ·exact⟨_,rfl⟩
     ·exact⟨c,e⟩
    ·exact⟨c,e⟩
   rcases h with ⟨k,hk,e⟩ | h
   ·rcases List.mem_cons.mp hk with z | z
    ·right
     subst z e;unfold jN;rw[if_pos (by simp)]
     exact⟨(env.cells.lookup x).getD 0,by rw[yBe];simp⟩
    ·exact .inl ⟨k,z,e⟩
   ·exact .inr (step h)
theorem aDy{x:Str}(h:Str->jo->jo):∀ l:List (Str×jo),(l.map λ p=>(p.1,h p.1 p.2)).lookup x=(l.lookup x).map (h x)
 | []=>rfl
 | (n,k)::r=>by
   have ih:=aDy (x:=x) h r;rw[yAi,yBe,yBe];cases hx:x==n with
   | true =>
     have e:x=n:=by simpa using hx
     subst e;rfl
   | false=>exact ih
theorem aIt{env:Env}{x:Str}(names:List (Str×jo)) :
 (names.map λ(n,k)=>if (k==NameKind.free&&env.scope.kind==.function&&env.kindOf n==qq .cell) then (n,NameKind.cell) else (n,k)).lookup x =
   (names.lookup x).map λ k=>if (k==NameKind.free&&env.scope.kind==.function&&env.kindOf x==qq .cell) then NameKind.cell else k:=by
 have e:(λ(p:Str×jo)=>match p with | (n,k)=>if (k==NameKind.free&&env.scope.kind==.function&&env.kindOf n==qq .cell)=true then (n,NameKind.cell) else (n,k)) =
  λ p=>(p.1,if (p.2==NameKind.free&&env.scope.kind==.function&&env.kindOf p.1==qq .cell)=true then NameKind.cell else p.2):=funext λ aM=>by
  obtain⟨n,k⟩:=aM;dsimp only
  split<;>rfl
 rw[e];exact aDy (λ n k=>if (k==NameKind.free&&env.scope.kind==.function&&env.kindOf n==qq .cell)=true then NameKind.cell else k) names
section
variable {prog : zq}{w : zx}{A : zv}{R : Result -> qj -> Prop}{s : qj}
theorem aIG{elt target iter:qw}{ifs:List qw}{scope:zw}{pos:Pos}{it aH:qx}{env:Env}(I:Nat->qj->Prop)
 (turn:∀ n s,I n s->qu (model prog w) A (yk it) (λ r s₁=>match r with
   | none=>R (.ok .next) s₁
   | some v=>qu (model prog w) A (vj target it v) (λ _ s₀=>qu (model prog w) A (assign target env v) (λ _ s₂ =>
      qu (model prog w) A (forIn ifs true λ c r=>if r=true then do let ok <- isTrue c env (eval c env);pure (ForInStep.yield ok) else pure (ForInStep.yield r)) (λ ok s₃ =>
       if ok=true then qu (model prog w) A (eval elt env) (λ x s₄ =>
        qu (model prog w) A (call (.builtin "list.append") [aH,x]) (λ _ s₅=>∃ m,m<n/\I m s₅) (λ _ _=>False) s₄) (λ _ _=>False) s₃
       else ∃ m,m<n/\I m s₃) (λ _ _=>False) s₂) (λ _ _=>False) s₀) (λ _ _=>False) s₁) (λ _ _=>False) s)
 (n:Nat) (h:I n s):vo (model prog w) A (.compLoop (.ListComp elt [⟨target,iter,ifs,0⟩] scope pos) 0 it aH env) R s:=by
 have up:∀ {α:Type}{t:Sem α}{Q Q':α->qj->Prop}{E:qx->qj->Prop}{s:qj},qu (model prog w) A t Q (λ _ _=>False) s->(∀ a s,Q a s->Q' a s)->qu (model prog w) A t Q' E s:=
  λ h hq=>wpAny_mono h hq λ _ _ f=>f.elim
 refine codeAny_loop rfl I (λ n s hI=>?_) n h
 show qu _ A ((compTurn (.ListComp elt [⟨target,iter,ifs,0⟩] scope pos) 0 it aH env).onRaise (λ x=>do noteFrame x env;theTreesLotGoes x)) _ _ s
 refine wpAny_noted ?_;rw[compTurn_list];refine wB (vx (wB (up (turn n s hI) λ r s₁ h₁=>?_)))
 cases r with
 | none=>exact wP h₁
 | some v =>
   refine wB (up h₁ λ _ s₀ h₀=>?_)
   refine wB (up h₀ λ _ s₂ h₂=>wB (up h₂ λ ok s₃ h₃=>?_))
   cases ok with
   | false=>exact wP ⟨rfl,h₃⟩
   | true =>
     exact wB (wB (up h₃ λ x s₄ h₄=>wB (up h₄ λ _ s₅ h₅=>wP (wP ⟨rfl,h₅⟩))))
end
noncomputable def jG(X:Cx)(aA:List (qv×Obj))(fp:List qv)(scope:zw)(C:qv)(s₀:qj)(H₀:Hp):Cx:=
 {X with s₀:=s₀,H₀:=H₀,env:=compEnvC scope (uY scope X.env) C X.env,outer:=X.stack,stack:=X.stack,ex:=fp,fn:=λ _=>false,pn:=X.pn++aA,xe:=λ _ _=>False }
def jM(X:Cx)(scope:zw)(Y:Cx):Prop:=∃ aA fp C s₀ H₀,Y=jG X aA fp scope C s₀ H₀
structure ScOk(scope osc:zw):Prop where
 kind:scope.kind=.function
 nocell:∀ x∈scope.names,x.2≠.cell
 free:∀ x∈scope.names,x.2=.free->osc.names.lookup x.1=qq .cell\/osc.names.lookup x.1=qq .free
 loc:∀ x∈scope.names,x.2=.local->scope.names.lookup x.1=qq .local
theorem mem_of_lookup{α:Type}{x:Str}{k:α}:∀ {l:List (Str×α)},l.lookup x=qq k->(x,k)∈l
 | [],h=>by simp at h
 | (n,j)::r,h=>by
   rw[yBe] at h
   split at h
   ·rename_i hx;cases h;have:x=n:=by simpa using hx
    subst this;exact xAd
   ·exact xAf _ (mem_of_lookup h)
section
variable {X : Cx}{aA : List (qv×Obj)}{σ : L2.St}{H : Hp}{s : qj}{scope : zw}{fp : List qv}
theorem aD4{C:qv}{s₀:qj}{H₀:Hp}{x:Str}:(jG X aA fp scope C s₀ H₀).env.kindOf x=(scope.names.lookup x).map λ k=>if (k==NameKind.free&&X.env.scope.kind==.function&&X.env.kindOf x==qq .cell) then NameKind.cell else k:=
 aIt scope.names
theorem aEm(ok:ScOk scope X.env.scope){C:qv}{s₀:qj}{H₀:Hp}{x:Str}(h:(jG X aA fp scope C s₀ H₀).env.kindOf x=qq .cell\/(jG X aA fp scope C s₀ H₀).env.kindOf x=qq .free):scope.names.lookup x=qq .free:=by
 rw[aD4] at h;cases e:scope.names.lookup x with
 | none=>rw[e] at h;simp at h
 | some k =>
   rw[e] at h;have nc:=ok.nocell (x,k) (mem_of_lookup e);cases k with
   | free=>rfl
   | cell=>exact absurd rfl nc
   | «local» => simp at h
   | globalExplicit=>simp at h
   | globalImplicit=>simp at h
theorem aFO(I:Inv X aA σ H s)(hfp:∀ b∈fp,gY X aA H b):∀ b∈fp,b ∉ dQ X.stack:=λ b hb z=>by
 rcases List.mem_cons.mp (I.stkSub b z) with q | q
 ·exact(hfp b hb).2.1 q
 ·exact(hfp b hb).2.2.1 q
theorem aEo(I:Inv X aA σ H s)(ok:ScOk scope X.env.scope):∀ x∈scope.names,x.2=.free->∃ c,X.env.cells.lookup x.1=qq c:=λ x hx e=>by
 rcases ok.free x hx e with q | q
 ·exact I.ok.has x.1 (.inl q)
 ·exact I.ok.has x.1 (.inr q)
theorem oF(I:Inv X aA σ H s)(ok:ScOk scope X.env.scope){x:Str}{c:qv}(h:(uY scope X.env).lookup x=qq c):X.env.cells.lookup x=qq c:=
 aEX scope.names [] (aEo I ok) (λ x c e=>by simp at e) x c h
theorem aMF(I:Inv X aA σ H s)(ok:ScOk scope X.env.scope)(hfp:∀ b∈fp,gY X aA H b)(hth:∀ b∈fp,b<s.heap.objs.size){C:qv}(hC:s.heap.objs.size<=C):(jG X aA fp scope C s H).Ok where
 mod:=I.ok.mod
 kind:=ok.kind
 glob:=I.ok.glob
 blt:=I.ok.blt
 above:=hC
 inj:=λ x y c h1 h2=>I.ok.inj x y c (oF I ok h1) (oF I ok h2)
 has:=λ x h=>aBW scope.names [] x (.inl ⟨.free,mem_of_lookup (aEm ok h),rfl⟩)
 cab:=λ x c h _=>nomatch h
 hd:=I.ok.hd
 frames:=I.ok.frames
 stk:=.inl rfl
 exf:=λ b hb=>⟨λ z=>absurd (xAc (hth b hb) hC) (by have z':b=C:=z;rw[z'];exact yBi _),λ x c h=>(hfp b hb).2.2.2.2.1 x c (oF I ok h)⟩
 bs:=I.bs
 bsz:=xAg I.ok.bsz I.sz
 noex:=λ b o e hb=>by
  rcases (hfp b hb).2.2.2.1 with z | z
  ·exact I.ok.noex b o e z
  ·exact absurd (xAc (xAa e) (xAg I.ok.bsz z)) (yBi _)
 exfs:=λ b hb=>aFO I hfp b hb
 funs:=I.stack
 frf:=I.stkFree
end
noncomputable def clr{α:Type}(is:List Nat)(l:List (Option α)):List (Option α):=is.foldl (λ e i=>e.set i qz) l
theorem wR{α:Type}:∀ (is:List Nat) (l:List (Option α)),(clr is l).length=l.length
 | [],_=>rfl
 | i::is,l=>by
   show(clr is (l.set i qz)).length=_;rw[wR is,yAt]
theorem xC{α:Type}:∀ (is:List Nat) (l:List (Option α)) (j:Nat) (v:α),(clr is l)[j]? = qq (qq v)->l[j]? = qq (qq v)/\j ∉ is
 | [],_,_,_,h=>⟨h,by simp⟩
 | i::is,l,j,v,h=>by
   obtain⟨h1,h2⟩:=xC is (l.set i qz) j v h
   by_cases hj:i=j
   ·subst hj;rcases yEr i l.length with q | q
    ·rw[yAq q] at h1;cases h1
    ·rw[yDh (by rw[yAt];exact q)] at h1;cases h1
   ·rw[yAo hj] at h1;exact⟨h1,λ z=>(List.mem_cons.mp z).elim (λ e=>hj e.symm) h2⟩
theorem aED{α:Type}:∀ (is:List Nat) (l:List (Option α)) (j:Nat),j ∉ is->(clr is l)[j]? = l[j]?
 | [],_,_,_=>rfl
 | i::is,l,j,h=>by
   show(clr is (l.set i qz))[j]? = _;rw[aED is _ j (λ z=>h (xAf _ z)),yAo (λ z=>h (by rw[z];exact xAd))]
noncomputable def Tg.slots:Tg->List Nat
 | .one i=>[i]
 | .many is=>is
theorem EnvR.clr{K:FrG}{F:Hp}{L:List qv}{env:aV}{σ:St}(h:EnvR K F L env σ)(is:List Nat):EnvR K F L (EV.clr is env) (EV.clr is σ):=
 ⟨by rw[wR,wR];exact h.len,λ j w e=>by
  obtain⟨e1,hj⟩:=xC is env j w e;obtain⟨v,e2,d⟩:=h.get j w e1;exact⟨v,by rw[aED is σ j hj];exact e2,d⟩⟩
theorem aAI:∀ {is:List Nat}{ds:List D}{env aO:aV}{j:Nat},mQ is ds env=qq aO->j ∉ is->aO[j]? = env[j]?
 | [],[],_,_,_,e,_=>by cases e;rfl
 | i::is,d::ds,env,aO,j,e,h=>by
   rw[aAI (is:=is) (ds:=ds) e (λ z=>h (xAf _ z)),yAo (λ z=>h (by rw[z];exact xAd))]
 | [],_::_,_,_,_,e,_=>by cases e
 | _::_,[],_,_,_,e,_=>by cases e
theorem Tg.put_keep{t:Tg}{d:D}{env aO:aV}{j:Nat}(e:t.put d env=qq aO)(h:j ∉ t.slots):aO[j]? = env[j]?:=by
 cases t with
 | one i=>cases e;exact yAo (λ z=>h (by rw[z];exact xAd))
 | many is =>
   cases d with
   | tuple ds=>exact aAI e h
   | list ds=>exact aAI e h
   | _=>cases e
theorem aAA:∀ {is:List Nat}{ds:List D}{env aO:aV},mQ is ds env=qq aO->aO.length=env.length
 | [],[],_,_,e=>by cases e;rfl
 | i::is,d::ds,env,aO,e=>by rw[aAA (is:=is) (ds:=ds) e,yAt]
 | [],_::_,_,_,e=>by cases e
 | _::_,[],_,_,e=>by cases e
theorem Tg.put_length{t:Tg}{d:D}{env aO:aV}(e:t.put d env=qq aO):aO.length=env.length:=by
 cases t with
 | one i=>cases e;exact yAt
 | many is =>
   cases d with
   | tuple ds=>exact aAA e
   | list ds=>exact aAA e
   | _=>cases e
theorem EnvR.back{K:FrG}{F:Hp}{L:List qv}{env aO:aV}{σ:St}{t:Tg}{d:D}(e:t.put d (EV.clr t.slots env)=qq aO)(h:EnvR K F L aO σ):EnvR K F L (EV.clr t.slots env) σ:=
 ⟨by rw[<- h.len,Tg.put_length e],λ j w q=>by
  obtain⟨_,hj⟩:=xC t.slots env j w q;exact h.get j w (by rw[Tg.put_keep e hj];exact q)⟩
noncomputable def jO(t:Tg)(fc:FT)(fe:FE)(n:Nat)(env:aV):List D->aC->Option aC
 | [],S=>qq S
 | d::ds,S=>(t.put d env).bind λ e1=>(fc e1 S).bind λ c=>if c.1=true then (fe e1 c.2).bind λ p=>(fS p.2 (.loc n) p.1).bind λ r=>jO t fc fe n env ds r.2 else jO t fc fe n env ds c.2
noncomputable def gW(t:Tg)(fi:FL)(fc:FT)(fe:FE):FL:=λ env S=>(fi env S).bind λ p=>(jO t fc fe p.2.length (clr t.slots env) p.1 (p.2++[qq []])).bind λ S'=>match S'[p.2.length]? with
 | some (qq zs)=>qq (zs,S'.take p.2.length)
 | _=>qz
def lF(Y:Cx)(ifs:List qw)(fc:FT):Prop:=∀ (aA:List (qv×Obj)) (s:qj) (σ:St) (H:Hp) (Q:Bool->Hp->Prop),Inv Y aA σ H s->eP Y.K fc σ H Q ->
 qu (model Y.prog Y.w) Y.A (forIn ifs true λ c r=>if r=true then do let ok <- isTrue c Y.env (eval c Y.env);pure (ForInStep.yield ok) else pure (ForInStep.yield r)) (TP Y aA σ Q) Y.xe s
noncomputable def pE:FT:=λ _ S=>qq (true,S)
theorem aA2{Y:Cx}:lF Y [] pE:=λ aA s σ H Q I aM=>by
 obtain⟨F,L,S,env,b,S',R,E,e,q⟩:=aM;cases e;exact wpAny_tests_nil ⟨H,I,q F L H Gr.refl R⟩
theorem aDV{Y:Cx}{c:qw}{fc:FT}(h:PT Y c (eP Y.K fc)):lF Y [c] fc:=λ aA s σ H Q I q=>wpAny_tests_one (h aA s σ H Q I q)
def aCb(N:List Str)(scope:zw)(is:List Nat):Prop:=∀ (i:Nat) (x:Str),N[i]? = qq x->scope.names.lookup x=qq .local->i∈is
section
variable {X : Cx}{scope : zw}{tg iter elt : qw}{ifs : List qw}{pos : Pos}{t : Tg}{g : TG}{fi : FL}{fc : FT}{fe : FE}
theorem aEb(use:Option (qx->Sem Unit))(hc:X.calm=true)(ok:ScOk scope X.env.scope)(own:aCb X.N scope t.slots)(hi:PI X tg iter (jF X.K fi))(hg:∀ Y,jM X scope Y->PG Y tg g)(ga:GA X.K t g)
 (ht:∀ Y,jM X scope Y->lF Y ifs fc) (he:∀ Y,jM X scope Y->PE Y elt (aI X.K fe)) (hs:∀ x,jj iter X.env x=pure x)
 {aA:List (qv×Obj)}{s:qj}{σ:St}{H:Hp}{Q:VK}{QQ:qx->qj->Prop}{pp:Pos} (I:Inv X aA σ H s) (h:hB X.K (gW t fi fc fe) σ H Q)
 (hend:∀ (p C:qv) (s1:qj) (H':Hp),gY X aA H' C->(∃ m,s1.heap.Ns C m)->(∀ h',yDe C s1.heap h'->Inv X aA σ H' {s1 with heap:=h' })->Q (.ref p) H' ->
   compPost (model X.prog X.w) X.A X.xe use QQ (.ref p) C (.ok .next) s1) :
 qu (model X.prog X.w) X.A (comprehension (.ListComp elt [⟨tg,iter,ifs,0⟩] scope pos) scope X.env pp (newList []) false (eval iter X.env) use) QQ X.xe s:=by
 obtain⟨F,L,S,env,zs,S',R,E,e,q⟩:=h;obtain⟨⟨ds,S1⟩,e1,e⟩:=bind_some e;obtain⟨S2,e2,e⟩:=bind_some e;dsimp only at e e2;have hz:S2[S1.length]? = qq (qq zs)/\S'=S2.take S1.length:=by
  split at e
  ·rename_i z ez;cases e;exact⟨ez,rfl⟩
  ·cases e
 obtain⟨hz,rfl⟩:=hz;refine wpAny_comprehension_free (use:=use) rfl hs (aJt (aEo I ok)) ok.kind ok.loc ?_;refine aZ (hi aA s σ H (λ J H'=>∃ F' L',Gr F L F' L'/\Rel X.K F' L' S1 H'/\Wk X.K F' L' J ds) I ⟨F,L,S,env,ds,S1,R,E,e1,λ F' L' H' J g R' wk=>⟨F',L',g,R',wk⟩⟩) λ v s1 h1=>aZ h1 λ itv s2 h2=>?_
 obtain⟨it,fp,tn,J,H2,rfl,I2,T,st2,f2,F1,L1,g1,R1,wk⟩:=h2;refine xu (wpAny_newFunctionEnv ok.nocell (by intro y hy;simp at hy) (λ h₁ hns₁ hsb₁=>?_) ok.kind)
 dsimp only at hns₁ hsb₁ ⊢;have I3:Inv X aA σ (aW H2 s2.heap.objs.size (.lst [])) {s2 with heap:=s2.heap.push {cls:=.type "list",dict:=qz,data:=.seq ([]:List qx).toArray } }:=I2.lnew (its:=[]) (t':=s2.toks) .nil (yFe _)
 generalize hs3:({s2 with heap:=s2.heap.push {cls:=.type "list",dict:=qz,data:=.seq ([]:List qx).toArray } }:qj)=s3 at I3
 have hh3:s2.heap.push {cls:=.type "list",dict:=qz,data:=.seq ([]:List qx).toArray }=s3.heap:=by rw[<- hs3]
 generalize hD:s2.heap.objs.size=Dd at I3;generalize hH3:aW H2 Dd (.lst [])=H3 at I3;have hfr2:H2 Dd=qz:=by rw[<- hD];exact I2.fresh
 rw[hh3] at hns₁ hsb₁;rw[hh3];have dL:({heap:=h₁,gens:=s2.gens,drawn:=s2.drawn,toks:=s2.toks+([]:List (Str×qx)).length,os:=s2.os }:qj)={s3 with heap:=h₁,toks:=s3.toks+([]:List (Str×qx)).length }:=by rw[<- hs3]
 rw[dL];clear dL;generalize hC:s3.heap.objs.size=C at hns₁ hsb₁;have old:∀ b u,s3.heap.get? b=qq u->h₁.get? b=qq u:=λ b u q=>by
  have hb:b≠C:=by rw[<- hC];exact xAh (xAa q)
  exact hsb₁.extBut b u hb (hpS _ q)
 have lt2:∀ b∈fp,b<s2.heap.objs.size:=λ b hb=>by
  obtain⟨o,eo,_⟩:=T.obj 0 _ st2 b hb;exact xAa eo
 have up23:∀ b u,s2.heap.get? b=qq u->s3.heap.get? b=qq u:=λ b u q=>by rw[<- hh3];exact hpS _ q
 have lt3:∀ b∈fp,b<s3.heap.objs.size:=λ b hb=>by
  obtain⟨o,eo,_⟩:=T.obj 0 _ st2 b hb;exact xAa (up23 b o eo)
 have f3:∀ b∈fp,gY X aA H3 b:=λ b hb=>by
  refine⟨?_,(f2 b hb).2⟩;have ne:b≠Dd:=by rw[<- hD];exact xAh (lt2 b hb)
  rw[<- hH3,bB ne];exact(f2 b hb).1
 have okY:(jG X aA fp scope C s3 H3).Ok:=aMF I3 ok f3 lt3 (by rw[hC];exact yAe _)
 have hIC:jM X scope (jG X aA fp scope C s3 H3):=⟨aA,fp,C,s3,H3,rfl⟩;generalize hY:jG X aA fp scope C s3 H3=Y at okY hIC;have yE:Y.env=compEnvC scope (uY scope X.env) C X.env:=by rw[<- hY];rfl
 have I4:Inv Y [] (clr t.slots σ) H3 {s3 with heap:=h₁,toks:=s3.toks+([]:List (Str×qx)).length }:=by
  rw[<- hY] at okY ⊢;refine⟨okY,rfl,I3.bare,Un.kept old,⟨_,hns₁,λ i x v a1 a2 a3=>?_⟩,λ x c a=>?_,?_,λ x c a=>I3.freeC x c (oF I3 ok a),λ p hp=>?_,I3.hok.kept old,by rw[wR];exact I3.len⟩
  ·obtain⟨a4,a5⟩:=xC t.slots σ i v a2;have nl:scope.names.lookup x≠qq .local:=λ z=>a5 (own i x a1 z)
   have jI:(jG X aA fp scope C s3 H3).env.kindOf x=qq .cell\/(jG X aA fp scope C s3 H3).env.kindOf x=qq .free:=by
    rcases a3 with z | z | z
    ·exfalso;have z':(jG X aA fp scope C s3 H3).env.kindOf x=qq .local:=z;rw[aD4] at z';cases ek:scope.names.lookup x with
     | none=>rw[ek] at z';cases z'
     | some k =>
       rw[ek] at z';cases k with
       | «local» => exact nl ek
       | free =>
         simp only[Option.map_some,Option.some.injEq] at z'
         split at z'<;>cases z'
       | cell=>exact ok.nocell (x,.cell) (mem_of_lookup ek) rfl
       | globalExplicit=>simp at z'
       | globalImplicit=>simp at z'
    ·exact .inl z
    ·exact .inr z
   have fr:=aEm ok jI;have ov:=ok.free (x,.free) (mem_of_lookup fr) rfl;obtain⟨m,hm,hl⟩:=I3.loc;obtain⟨u,ru,lk⟩:=hl i x v a1 a4 (ov.elim (λ z=>.inr (.inl z)) λ z=>.inr (.inr z))
   refine⟨u,ru,.inr ⟨jI,?_⟩⟩;obtain⟨c,hcl⟩:=aBW (env:=X.env) scope.names [] x (.inl ⟨.free,mem_of_lookup fr,rfl⟩);have hc2:=oF I3 ok hcl;rcases lk with ⟨z,_⟩ | ⟨_,c',e',o',ho',hd'⟩
   ·exfalso;have z':X.env.scope.names.lookup x=qq .local:=z;rcases ov with w | w
    ·rw[w] at z';cases z'
    ·rw[w] at z';cases z'
   ·rw[hc2] at e';cases e';exact⟨c,hcl,o',old _ _ ho',hd'⟩
  ·obtain⟨v,o,ho,hd⟩:=I3.cell x c (oF I3 ok a);exact⟨v,o,old _ _ ho,hd⟩
  ·show H3 C=qz;rw[<- hC];exact I3.fresh
  ·have hp':p∈X.pn++aA:=by
    have:p∈(X.pn++aA)++[]:=hp;rwa [yAv] at this
   obtain⟨b1,b2,b3,b4,b5⟩:=I3.pin p hp';refine⟨old _ _ b1,b2,?_,λ z=>?_,b5⟩
   ·show p.1≠C;rw[<- hC];exact xAh (xAa b1)
   ·rcases List.mem_cons.mp (I3.stkSub p.1 z) with w | w
    ·exact b3 w
    ·exact b4 w
 have fpY:∀ {H':Hp},(∀ b∈fp,H' b=qz)->∀ b∈fp,gY Y [] H' b:=λ hn b hb=>by
  rw[<- hY];refine⟨hn b hb,?_,aFO I3 f3 b hb,.inl hb,λ x c a=>(f3 b hb).2.2.2.2.1 x c (oF I3 ok a),λ p hp=>?_⟩
  ·show b≠C;rw[<- hC];exact xAh (lt3 b hb)
  ·have hp':p∈X.pn++aA:=by
    have:p∈(X.pn++aA)++[]:=hp;rwa [yAv] at this
   exact(f3 b hb).2.2.2.2.2 p hp'
 have yA:Y.A=X.A:=by rw[<- hY];rfl
 have yP:Y.prog=X.prog:=by rw[<- hY];rfl
 have yW:Y.w=X.w:=by rw[<- hY];rfl
 have yK:Y.K=X.K:=by rw[<- hY];rfl
 have yC:Y.calm=true:=by rw[<- hY];exact hc
 have yX:Y.xe=λ _ _=>False:=by rw[<- hY];rfl
 have R3:Rel X.K F1 (L1++[Dd]) (S1++[qq []]) H3:=by rw[<- hH3];exact R1.newLoc hfr2 .nil
 obtain⟨PP,hPP⟩:∃ PP:Result->qj->Prop,PP=compPost (model X.prog X.w) X.A X.xe use QQ (.ref Dd) C:=⟨_,rfl⟩;have bI:∀ (s1:qj) (σ':L2.St) (H' F':Hp) (L':List qv),Inv Y [] σ' H' s1->Gr F1 (L1++[Dd]) F' L'->Rel X.K F' L' S2 H'->PP (.ok .next) s1:=by
  intro s1 σ' H' F' L' J' gg RR;rw[hPP];rw[<- hY] at J';obtain⟨m,hmC,_⟩:=J'.loc;have hCn:H' C=qz:=J'.free;have hfC:gY X aA H' C:=I3.fpOk (by rw[hC];exact yAe _) hCn
  obtain⟨sf,M,rfl⟩:=gg;have cE:L1.length=S1.length:=R1.len;have eL:((L1++[Dd])++M)[S1.length]? = qq Dd:=by
   rw[yDm,yAd (by rw[cE];exact yAe _),cE,yCv];rfl
  obtain⟨hF,xs,hx,dl⟩:=RR.loc S1.length Dd zs eL hz;have RR2:Rel X.K F' (L1++([Dd]++M)) S2 H':=by rw[<- yDm];exact RR
  have Rc:=RR2.cut;rw[cE] at Rc;have hnd:Dd ∉ L1:=λ z=>by
   have nd:=RR2.nd;rw[yFo] at nd;exact nd.2.2 Dd z Dd (by simp) rfl
  refine hend Dd C s1 H' hfC ⟨m,hmC⟩ (λ h' sb=>?_) (q F' L1 H' Dd xs (g1.trans ⟨sf,[],by simp⟩) Rc hF hnd hx dl)
  have neC:∀ b u,s3.heap.get? b=qq u->b≠C:=λ b u z=>by rw[<- hC];exact xAh (xAa z)
  have kp:∀ b u,b≠C->s1.heap.get? b=qq u->h'.get? b=qq u:=λ b u z w=>sb.extBut b u z w
  have bU:Un (dQ X.stack) fp H3 H' s3.heap s1.heap:=J'.base;have u:Un (dQ X.stack) fp H3 H' s3.heap h':=
   ⟨λ b o z n hb hx=>kp b o (neC b o z) (bU.keep b o z n hb hx),λ b o z n hb hx=>by obtain⟨sl,w⟩:=bU.slot b o z n hb hx;exact⟨sl,kp b _ (neC b o z) w⟩,bU.free,
    λ b o z hx=>by obtain⟨o',w⟩:=bU.there b o z hx;exact⟨o',kp b _ (neC b o z) w⟩,bU.tups,bU.frzs,bU.tbls⟩
  have hokY:dD X.prog X.w H' s1.heap:=J'.hok;have hok':dD X.prog X.w H' h':=λ b o z=>(hokY b o z).stay (λ c v hc2 w=>kp c v (λ zz=>by
   rcases hc2 with w2 | w2
   ·rw[w2] at zz;rw[zz,hCn] at z;cases z
   ·rw[zz,hCn] at w2;cases w2) w) (λ _ w=>w) λ _ _ w=>w
  have os1:s1.os=s3.os:=J'.os;exact I3.call' (s':={s1 with heap:=h' }) os1 u hok' J'.bare λ b hb=>⟨(f3 b hb).2.2.2.1,(f3 b hb).2.1,(f3 b hb).2.2.2.2.1,(f3 b hb).2.2.2.2.2⟩
 have loop:∀ s5:qj,Inv Y [] (clr t.slots σ) H3 s5->tn 0 s5.heap ->
  vo (model X.prog X.w) X.A (.compLoop (.ListComp elt [⟨tg,iter,ifs,0⟩] scope pos) 0 (.ref it) (.ref Dd) Y.env) PP s5:=by
  intro s5 I5 st5;have E0:EnvR X.K F1 (L1++[Dd]) (clr t.slots env) (clr t.slots σ):=(E.mono (g1.trans Gr.newLoc)).clr t.slots;obtain⟨Iv,hIv⟩:∃ Iv:Nat->qj->Prop,∀ n s',Iv n s' ↔ (∃ i σ' H' F' L' S',Inv Y [] σ' H' s'/\tn i s'.heap/\(∀ b∈fp,H' b=qz)/\Gr F1 (L1++[Dd]) F' L'/\Rel X.K F' L' S' H'/\EnvR X.K F' L' (clr t.slots env) σ'/\i+n=ds.length /\
   jO t fc fe S1.length (clr t.slots env) (ds.drop i) S'=qq S2):=⟨_,λ _ _=>Iff.rfl⟩
  refine aIG Iv ?_ ds.length ((hIv _ _).mpr ⟨0,clr t.slots σ,H3,F1,L1++[Dd],S1++[qq []],I5,st5,λ b hb=>(f3 b hb).1,Gr.refl,R3,E0,yEs _,by rw[yDb];exact e2⟩)
  intro n s6 h6;obtain⟨i,σ6,H6,F6,L6,S6,I6,st6,fr6,g6,R6,E6,hin,ec⟩:=(hIv _ _).mp h6;clear h6;have g16:Gr F1 L1 F6 L6:=Gr.newLoc.trans g6;have toA:∀ {α:Type}{tt:Sem α}{QQ:α->qj->Prop}{EE:qx->qj->Prop}{ss:qj},qu (model X.prog X.w) Y.A tt QQ EE ss->qu (model X.prog X.w) X.A tt QQ EE ss:=λ hh=>by rw[yA] at hh;exact hh
  cases n with
  | zero =>
    have hi':i=ds.length:=by omega
    subst hi';rw[yEy] at ec;cases ec;refine aZ (toA (T.done Y yP yW yK yC ds.length [] s6 σ6 H6 _ I6 (fpY fr6) st6 (wk.stop H6 (g16.f.trans R6.sub)))) λ r s7 hPq30=>?_
    obtain⟨hr,I7⟩:=hPq30;subst hr;exact bI s7 σ6 H6 F6 L6 I7 g6 R6
  | succ n =>
    have hi':i<ds.length:=by omega
    refine aZ (toA (T.item Y yP yW yK yC i [] s6 σ6 H6 _ I6 (fpY fr6) st6 (wk.go i H6 (g16.f.trans R6.sub) hi'))) λ r s7 hPq31=>?_
    obtain⟨u,hr,h7⟩:=hPq31;subst hr;refine aZ (toA h7) λ _ s8 hPq32=>?_
    obtain⟨x,H8,I8,r8,y8,st8,fr8⟩:=hPq32;obtain⟨F8,sf8,R8,d8⟩:=wk.yld i H6 F6 L6 S6 x H8 ds[i] g16 R6 (yAc hi') y8;have g8:Gr F6 L6 F8 L6:=⟨sf8,[],by simp⟩
    rw[yCn hi'] at ec;obtain⟨env9,ep,ec⟩:=bind_some ec;obtain⟨⟨cb,S9⟩,et,ec⟩:=bind_some ec;have I8':=I8.pinned (fpY fr8) (T.obj _ _ st8);have toF:∀ {α:Type}{tt:Sem α}{QQ:α->qj->Prop}{ss:qj},qu (model Y.prog Y.w) Y.A tt QQ Y.xe ss->qu (model X.prog X.w) X.A tt QQ (λ _ _=>False) ss:=λ hh=>by rw[yX,yP,yW,yA] at hh;exact hh
    refine toF (aZ (hg Y hIC _ s8 σ6 H8 x u (λ σ' H'=>H'=H8/\EnvR X.K F8 L6 env9 σ') I8' r8 (ga ds[i] x σ6 H8 F8 L6 S6 (clr t.slots env) env9 _ R8 (E6.mono g8) d8 ep λ σ' E'=>⟨rfl,E'⟩)) λ _ s9 hPq33=>?_)
    obtain⟨σ9,H9,I9,hH9,E9⟩:=hPq33;subst hH9;refine toF (aZ (ht Y hIC _ s9 σ9 H9 (λ b H'=>∃ F' L',Gr F8 L6 F' L'/\Rel X.K F' L' S9 H'/\b=cb) I9 (by rw[yK];exact⟨F8,L6,S6,env9,cb,S9,R8,E9,et,λ F' L' H' g' R'=>⟨F',L',g',R',rfl⟩⟩)) λ ok2 s10 hPq34=>?_)
    obtain⟨H10,I10,F10,L10,g10,R10,hb10⟩:=hPq34;subst hb10;dsimp only at ec;have again:∀ {σ7:L2.St}{H7 F7:Hp}{L7:List qv}{S7:aC}{s7':qj},Inv Y ([]++tP fp s8.heap) σ7 H7 s7'->Gr F8 L6 F7 L7->Rel X.K F7 L7 S7 H7->EnvR X.K F7 L7 env9 σ7->jO t fc fe S1.length (clr t.slots env) (ds.drop (i+1)) S7=qq S2 ->
     ∃ m,m<n+1/\Iv m s7':=by
     intro σ7 H7 F7 L7 S7 s7' I7 g7 R7 E7 ec7;refine⟨n,yCz n,(hIv _ _).mpr ⟨i+1,σ7,H7,F7,L7,S7,I7.unpinned,T.keep _ _ _ st8 λ b hb o eo=>(I7.pin (b,o) (xAk _ (xAk _ (sL hb eo)))).1,λ b hb=>?_,(g6.trans g8).trans g7,R7,EnvR.back ep E7,by omega,ec7⟩⟩
     obtain⟨o,eo,_⟩:=T.obj _ _ st8 b hb;exact(I7.pin (b,o) (xAk _ (xAk _ (sL hb eo)))).2.1
    cases ok2 with
    | false =>
      rw[if_neg (by simp)] at ec
      rw[if_neg (by simp)]
      exact again I10 g10 R10 (E9.mono g10) ec
    | true =>
      rw[if_pos rfl] at ec;rw[if_pos rfl];obtain⟨⟨wv,S11⟩,ee,ec⟩:=bind_some ec;obtain⟨⟨wn,S12⟩,ea,ec⟩:=bind_some ec;obtain⟨n',dv,zs',hn',hw',es',hlt,hwn,rfl⟩:=aEe ea;cases hn';subst hw';refine toF (aZ (he Y hIC _ s10 σ9 H10 (λ v H'=>∃ F' L',Gr F10 L10 F' L'/\Rel X.K F' L' S11 H'/\Den X.K F' dv v) I10 ⟨F10,L10,S9,env9,_,S11,R10,E9.mono g10,ee,λ F' L' H' v g' R' d'=>⟨F',L',g',R',d'⟩⟩) λ xv s11 hPq35=>?_)
      obtain⟨v11,H11,I11,r11,F11,L11,g11,R11,d11⟩:=hPq35;have gA:Gr F1 (L1++[Dd]) F11 L11:=((g6.trans g8).trans g10).trans g11;have eL:L11[S1.length]? = qq Dd:=gA.get (by rw[yAd (by rw[R1.len];exact yAe _),R1.len,yCv];rfl)
      obtain⟨hF,xs,hx,dl⟩:=R11.loc S1.length Dd zs' eL es';refine toF (aZ (aAV (X:=Y) _ s11 σ9 H11 (.ref Dd) [v11] (.ref Dd) [xv] (λ _ H'=>Rel X.K F11 L11 (S11.set S1.length (qq (zs'++[dv]))) H') I11 rfl (.cons r11 .nil) ⟨Dd,xs,v11,rfl,rfl,hx,by rw[<- dl.length];exact hlt,R11.put eL hF (dl.append (.cons d11 .nil))⟩) λ _ s12 hPq36=>?_)
      obtain⟨_,H12,I12,_,R12⟩:=hPq36;exact again I12 (g10.trans g11) R12 (E9.mono (g10.trans g11)) ec
 rw[yE,hPP] at loop;have st4:tn 0 h₁:=T.keep 0 _ _ st2 λ b _ o eo=>old b o (up23 b o eo)
 exact codeAny_compStart_list (loop _ I4 st4) (T.self X.A 0 _ _ _ st4 (loop _ I4 st4))
theorem aBP(hc:X.calm=true)(ok:ScOk scope X.env.scope)(own:aCb X.N scope t.slots)(hi:PI X tg iter (jF X.K fi))(hg:∀ Y,jM X scope Y->PG Y tg g)(ga:GA X.K t g)
 (ht:∀ Y,jM X scope Y->lF Y ifs fc) (he:∀ Y,jM X scope Y->PE Y elt (aI X.K fe)) (hs:∀ x,jj iter X.env x=pure x) :
 PE X (.ListComp elt [⟨tg,iter,ifs,0⟩] scope pos) (hB X.K (gW t fi fc fe)):=λ aA s σ H Q I h=>by
 rw[eval_ListComp];exact aEb qz hc ok own hi hg ga ht he hs I h λ p C s1 H' _ hm hI q=>hm.elim λ m hm=>⟨m,hm,λ h' sb=>⟨.ref p,H',hI h' sb,rfl,q⟩⟩
theorem aJA{i:Nat}{x:Str}{pos' spos:Pos}{fa:FE}(hN:X.N.Nodup)(hx1:X.N[i]? = qq x)(hx2:L2.Loc X.env.scope x)(hf:X.fn x=true\/X.env.scope.names.lookup x=qq .local)
 (hc:X.calm=true) (ok:ScOk scope X.env.scope) (own:aCb X.N scope t.slots) (hi:PI X tg iter (jF X.K fi)) (hg:∀ Y,jM X scope Y->PG Y tg g) (ga:GA X.K t g)
 (ht:∀ Y,jM X scope Y->lF Y ifs fc) (he:∀ Y,jM X scope Y->PE Y elt (aI X.K fe)) (hs:∀ x,jj iter X.env x=pure x)
 (hw:∀ σ H Q,aI X.K fa σ H Q->hB X.K (gW t fi fc fe) σ H Q) :
 PS X (.Assign [.Name x pos'] (.ListComp elt [⟨tg,iter,ifs,0⟩] scope pos) spos) (cM X.K (dO i fa)):=by
 have hb:∃ b,swapsWith (.ListComp elt [⟨tg,iter,ifs,0⟩] scope pos) (qq (.Name x pos')) spos.line X.env=pure b:=⟨_,rfl⟩;obtain⟨b,hb⟩:=hb;cases b with
 | false=>exact xZ hN hx1 hx2 (PE.weak (aBP hc ok own hi hg ga ht he hs) hw) hb hf
 | true =>
   intro aA s σ H DD I h;have h2:=aG8 DD σ H h;rw[exec_Assign_Name_used _ _ _ _ hb];refine wB (vx (wB ?_));show qu _ X.A (do let _ <- comprehension (.ListComp elt [⟨tg,iter,ifs,0⟩] scope pos) scope X.env _ (newList []) false (eval iter X.env) (qq (assign (.Name x pos') X.env))) _ _ s
   refine wB (aZ (aEb (QQ:=λ _ s'=>SP X aA DD .next s') (qq (assign (.Name x pos') X.env)) hc ok own hi hg ga ht he hs I (hw _ _ _ h2) λ p C s1 H' hC hm hI q=>?_) λ _ s' hq=>wP (wP hq))
   obtain⟨m,hm⟩:=hm;have I1:Inv X aA σ H' s1:=hI s1.heap (Heap.SameBut.refl _ _);obtain⟨o,es,ep,ho,hd,r⟩:=hm;have I2:=I1.pinned (fp:=[C]) (λ b hb=>by rw[List.mem_singleton.mp hb];exact hC) λ b hb=>by rw[List.mem_singleton.mp hb];exact⟨o,ho,λ v z=>by rw[hd] at z;cases z⟩
   refine aZ (aBt (pos:=pos') hN hx1 hx2 hf _ s1 σ H' (.ref p) (.ref p) _ I2 rfl q) λ _ s2 hPq37=>?_
   obtain⟨σ2,H2,I3,q3⟩:=hPq37;obtain⟨b1,b2,_⟩:=I3.pin (C,o) (xAk _ (xAk _ (sL (by simp) ho)))
   refine⟨m,⟨o,es,ep,b1,hd,r⟩,λ h' sb=>⟨σ2,H2,?_,q3⟩⟩
   exact I3.unpinned.turned (t':=s2.toks) (λ b o hb e=>sb.extBut b o hb e) b2 hC.2.1 hC.2.2.2.1 hC.2.2.2.2.1 hC.2.2.2.2.2
end
noncomputable def tM:List D->Option (List Int)
 | []=>qq []
 | .int i::r=>(tM r).bind λ l=>qq (i::l)
 | _::_=>qz
noncomputable def kE:List D->Option (List Bool)
 | []=>qq []
 | .bool i::r=>(kE r).bind λ l=>qq (i::l)
 | _::_=>qz
noncomputable def cU:List D->Option D
 | [.list xs]=>qq (.int xs.length)
 | [.tuple xs]=>qq (.int xs.length)
 | [.str z]=>if z.length<=qk then qq (.int z.length) else qz
 | _=>qz
noncomputable def zG:List D->Option D
 | [.int i,.int j]=>qq (.int (if j>i then j else i))
 | [.int i,.int j,.int k]=>qq (.int (if j>i then (if k>j then k else j) else (if k>i then k else i)))
 | [.list xs]=>match tM xs with
   | some (i::r)=>qq (.int (r.foldl max i))
   | _=>qz
 | _=>qz
noncomputable def rC:List D->Option D
 | [.int i,.int j]=>qq (.int (if j<i then j else i))
 | [.list xs]=>match tM xs with
   | some (i::r)=>qq (.int (r.foldl min i))
   | _=>qz
 | _=>qz
noncomputable def vN:List D->Option D
 | [.int i]=>qq (.int i)
 | [.bool k]=>qq (.int (if k then 1 else 0))
 | _=>qz
noncomputable def aCL:List D->Option D
 | [.int i]=>qq (.int (if i<0 then -i else i))
 | _=>qz
noncomputable def oN:List D->Option D
 | [.list xs]=>qq (.tuple xs)
 | [.tuple xs]=>qq (.tuple xs)
 | _=>qz
noncomputable def aCu:List D->Option D
 | [.list xs]=>(tM xs).bind λ l=>qq (.int l.sum)
 | _=>qz
noncomputable def zE:List D->Option D
 | [.list xs]=>(kE xs).bind λ l=>qq (.bool (l.all id))
 | _=>qz
noncomputable def zD:List D->Option D
 | [.list xs]=>(kE xs).bind λ l=>qq (.bool (l.any id))
 | _=>qz
section
variable {X : Cx}
theorem iH{F H:Hp}{d:D}{xs:List V}(h:NowL X.K F H [d] xs):∃ x,xs=[x]/\bO X.K F H d x:=by
 cases h with
 | cons a b=>cases b;exact⟨_,rfl,a⟩
theorem aHR{F H:Hp}{d e:D}{xs:List V}(h:NowL X.K F H [d,e] xs):∃ x y,xs=[x,y]/\bO X.K F H d x/\bO X.K F H e y:=by
 cases h with
 | cons a b =>
   cases b with
   | cons c d=>cases d;exact⟨_,_,rfl,a,c⟩
theorem aRv{F H:Hp}{d e f:D}{xs:List V}(h:NowL X.K F H [d,e,f] xs):∃ x y z,xs=[x,y,z]/\bO X.K F H d x/\bO X.K F H e y/\bO X.K F H f z:=by
 cases h with
 | cons a b=>cases b with
   | cons c d=>cases d with
     | cons e f=>cases f;exact⟨_,_,_,rfl,a,c,e⟩
theorem aQz{x y z:V}{us:List qx}(r:aT [x,y,z] us):∃ u v w',us=[u,v,w']/\aX x u/\aX y v/\aX z w':=by
 cases r with
 | cons r1 r2=>cases r2 with
   | cons r3 r4=>cases r4 with
     | cons r5 r6=>cases r6;exact⟨_,_,_,rfl,r1,r3,r5⟩
theorem aKc(hc:X.calm=true):cN X (.builtin "max") (λ xs H Q=>∃ i j k,xs=[.int i,.int j,.int k]/\Q (.int (if j>i then (if k>j then k else j) else (if k>i then k else i))) H):=by
 intro aA s σ H xs us Q I r h;obtain⟨i,j,k,rfl,q⟩:=h;obtain⟨u,v,w',rfl,⟨t,rfl⟩,⟨t',rfl⟩,⟨t2,rfl⟩⟩:=aQz r;refine max_three_ints (I.ok.hd hc) λ h' tk kk=>⟨_,H,I.kept kk,?_,q⟩
 by_cases h1:j>i<;>by_cases h2:k>j<;>by_cases h3:k>i<;>simp only[h1,h2,h3,if_true,if_false]<;>exact⟨_,rfl⟩
theorem wQ{K:FrG}{F:Hp}:∀ {ds:List D}{xs:List V}{ns:List Int},DenL K F ds xs->tM ds=qq ns->xs=ns.map V.int
 | _,_,_,.nil,e=>by cases e;rfl
 | .int i::r,_,_,.cons h t,e=>by
   obtain⟨l,e1,e2⟩:=bind_some e;cases e2;cases h;rw[yAi,wQ t e1]
 | .none::_,_,_,.cons _ _,e=>by cases e
 | .bool _::_,_,_,.cons _ _,e=>by cases e
 | .str _::_,_,_,.cons _ _,e=>by cases e
 | .list _::_,_,_,.cons _ _,e=>by cases e
 | .tuple _::_,_,_,.cons _ _,e=>by cases e
 | .dict _::_,_,_,.cons _ _,e=>by cases e
theorem aFh:∀ (l:List Int) (i:Int),(l.foldl max i∈i::l)/\∀ a∈i::l,a<=l.foldl max i
 | [],i=>⟨List.mem_singleton.mpr rfl,λ a h=>by rw[List.mem_singleton.mp h];exact Int.le_refl _⟩
 | b::l,i=>by
   obtain⟨h1,h2⟩:=aFh l (max i b);rw[yAj];refine⟨?_,λ a ha=>?_⟩
   ·rcases List.mem_cons.mp h1 with h | h
    ·rw[h];rcases Int.le_total i b with q | q
     ·rw[Int.max_eq_right q];simp
     ·rw[Int.max_eq_left q];simp
    ·simp[h]
   ·have h3:=h2 (max i b) xAd;simp only[yBa] at ha;rcases ha with rfl | rfl | ha
    ·exact yFx (Int.le_max_left _ _) h3
    ·exact yFx (Int.le_max_right _ _) h3
    ·exact h2 a (xAf _ ha)
theorem aFI:∀ (l:List Int) (i:Int),(l.foldl min i∈i::l)/\∀ a∈i::l,l.foldl min i<=a
 | [],i=>⟨List.mem_singleton.mpr rfl,λ a h=>by rw[List.mem_singleton.mp h];exact Int.le_refl _⟩
 | b::l,i=>by
   obtain⟨h1,h2⟩:=aFI l (min i b);rw[yAj];refine⟨?_,λ a ha=>?_⟩
   ·rcases List.mem_cons.mp h1 with h | h
    ·rw[h];rcases Int.le_total i b with q | q
     ·rw[Int.min_eq_left q];simp
     ·rw[Int.min_eq_right q];simp
    ·simp[h]
   ·have h3:=h2 (min i b) xAd;simp only[yBa] at ha;rcases ha with rfl | rfl | ha
    ·exact yFx h3 (Int.min_le_left _ _)
    ·exact yFx h3 (Int.min_le_right _ _)
    ·exact h2 a (xAf _ ha)
theorem aAT:∀ {l:List Int}{us:List qx},aT (l.map V.int) us->∃ ps:List (Int×Tok),us=ps.map (λ p=>Value.int p.1 p.2)/\ps.map (·.1)=l
 | [],us,r=>by cases r;exact⟨[],rfl,rfl⟩
 | i::l,us,r=>by
   cases r with
   | cons h t =>
     obtain⟨tk,rfl⟩:=h;obtain⟨ps,rfl,rfl⟩:=aAT t;exact⟨(i,tk)::ps,rfl,rfl⟩
theorem aJ5(hc:X.calm=true):cN X (.builtin "max") (λ xs H Q=>∃ (a:qv) (l:List Int),xs=[.ref a]/\bR X.K H a (l.map V.int)/\0<l.length/\∀ M,M∈l->(∀ i∈l,i<=M)->Q (.int M) H):=by
 intro aA s σ H xs us Q I r h;obtain⟨a,l,rfl,sq,hl,q⟩:=h;obtain⟨u,rfl,ru⟩:=fM r;cases ru;obtain⟨its,rv,pl,hz⟩:=I.list sq;obtain⟨ps,rfl,rfl⟩:=aAT rv;have hIL:s.heap.IsList a (intItems ps.toArray):=by
  have e:intItems ps.toArray=(ps.map (λ p=>Value.int p.1 p.2)).toArray:=by simp[intItems]
  rw[e];exact pl.isList
 refine max_intList (xs:=ps.toArray) (I.ok.hd hc) hIL (by simpa using hl) λ v h' tk hv hk=>?_
 obtain⟨t,rfl⟩:=intItems_at hv;obtain⟨h1,h2⟩:=argBest_gt (numAt ps.toArray) (ps.toArray.size-1);refine⟨.int _,H,I.kept hk,⟨_,rfl⟩,q _ ?_ λ i hi=>?_⟩
 ·rw[numAt_eq];have hz':0<ps.toArray.size:=by simpa using hl
  exact getD_mem (by rw[yAb,yAm];exact yEf h1 (Nat.sub_lt hz' Nat.one_pos))
 ·obtain⟨j,hj,rfl⟩:=mem_getD hi;rw[yAb] at hj;have:=h2 j (by rw[yAg];omega)
  rw[numAt_eq (j:=j)] at this;exact this
theorem aJv(hc:X.calm=true):cN X (.builtin "min") (λ xs H Q=>∃ (a:qv) (l:List Int),xs=[.ref a]/\bR X.K H a (l.map V.int)/\0<l.length/\∀ M,M∈l->(∀ i∈l,M<=i)->Q (.int M) H):=by
 intro aA s σ H xs us Q I r h;obtain⟨a,l,rfl,sq,hl,q⟩:=h;obtain⟨u,rfl,ru⟩:=fM r;cases ru;obtain⟨its,rv,pl,hz⟩:=I.list sq;obtain⟨ps,rfl,rfl⟩:=aAT rv;have hIL:s.heap.IsList a (intItems ps.toArray):=by
  have e:intItems ps.toArray=(ps.map (λ p=>Value.int p.1 p.2)).toArray:=by simp[intItems]
  rw[e];exact pl.isList
 refine min_intList (xs:=ps.toArray) (I.ok.hd hc) hIL (by simpa using hl) λ v h' tk hv hk=>?_
 obtain⟨t,rfl⟩:=intItems_at hv;obtain⟨h1,h2⟩:=argBest_lt (numAt ps.toArray) (ps.toArray.size-1);refine⟨.int _,H,I.kept hk,⟨_,rfl⟩,q _ ?_ λ i hi=>?_⟩
 ·rw[numAt_eq];have hz':0<ps.toArray.size:=by simpa using hl
  exact getD_mem (by rw[yAb,yAm];exact yEf h1 (Nat.sub_lt hz' Nat.one_pos))
 ·obtain⟨j,hj,rfl⟩:=mem_getD hi;rw[yAb] at hj;have:=h2 j (by rw[yAg];omega)
  rw[numAt_eq (j:=j)] at this;exact this
theorem aPV:cN X (.builtin "len") (kY X cU):=λ aA s σ H xs us Q I r aM=>by
 obtain⟨F,L,S,ds,z,R,n,e,q⟩:=aM;unfold cU at e
 split at e
 ·cases e;obtain⟨x,rfl,nx⟩:=iH n;obtain⟨a,ys,rfl,sq,dl⟩:=nx.lst R.sub;exact aDr aA s σ H _ us Q I r ⟨a,ys,rfl,.inl sq,by rw[<- dl.length];exact q.here R (.int _)⟩
 ·cases e;obtain⟨x,rfl,nx⟩:=iH n;obtain⟨a,ys,rfl,sq,dl⟩:=nx.tup R.sub;exact aDr aA s σ H _ us Q I r ⟨a,ys,rfl,.inr sq,by rw[<- dl.length];exact q.here R (.int _)⟩
 ·split at e
  ·rename_i hz;cases e;obtain⟨x,rfl,nx⟩:=iH n;exact aIC aA s σ H _ us Q I r ⟨_,by rw[nx.str],hz,q.here R (.int _)⟩
  ·cases e
 ·cases e
theorem aPL(hc:X.calm=true):cN X (.builtin "max") (kY X zG):=λ aA s σ H xs us Q I r aM=>by
 obtain⟨F,L,S,ds,z,R,n,e,q⟩:=aM;unfold zG at e
 split at e
 ·cases e;obtain⟨x,y,rfl,nx,ny⟩:=aHR n;exact aJy hc aA s σ H _ us Q I r ⟨_,_,by rw[nx.int,ny.int],q.here R (.int _)⟩
 ·cases e;obtain⟨x,y,u,rfl,nx,ny,nu⟩:=aRv n;exact aKc hc aA s σ H _ us Q I r ⟨_,_,_,by rw[nx.int,ny.int,nu.int],q.here R (.int _)⟩
 ·split at e
  ·rename_i xs' i r' hi;cases e;obtain⟨x,rfl,nx⟩:=iH n;obtain⟨a,ys,rfl,sq,dl⟩:=nx.lst R.sub;obtain rfl:=wQ dl hi;refine aJ5 hc aA s σ H _ us Q I r ⟨a,i::r',rfl,sq,by simp,λ M h1 h2=>?_⟩
   have f:=aFh r' i;have:M=r'.foldl max i:=Int.le_antisymm (f.2 _ h1) (h2 _ f.1);rw[this];exact q.here R (.int _)
  ·cases e
 ·cases e
theorem aQp(hc:X.calm=true):cN X (.builtin "min") (kY X rC):=λ aA s σ H xs us Q I r aM=>by
 obtain⟨F,L,S,ds,z,R,n,e,q⟩:=aM;unfold rC at e
 split at e
 ·cases e;obtain⟨x,y,rfl,nx,ny⟩:=aHR n;exact aJ2 hc aA s σ H _ us Q I r ⟨_,_,by rw[nx.int,ny.int],q.here R (.int _)⟩
 ·split at e
  ·rename_i xs' i r' hi;cases e;obtain⟨x,rfl,nx⟩:=iH n;obtain⟨a,ys,rfl,sq,dl⟩:=nx.lst R.sub;obtain rfl:=wQ dl hi;refine aJv hc aA s σ H _ us Q I r ⟨a,i::r',rfl,sq,by simp,λ M h1 h2=>?_⟩
   have f:=aFI r' i;have:M=r'.foldl min i:=Int.le_antisymm (h2 _ f.1) (f.2 _ h1);rw[this];exact q.here R (.int _)
  ·cases e
 ·cases e
theorem aQ3:cN X (.type "int") (kY X vN):=λ aA s σ H xs us Q I r aM=>by
 obtain⟨F,L,S,ds,z,R,n,e,q⟩:=aM;unfold vN at e
 split at e
 ·cases e;obtain⟨x,rfl,nx⟩:=iH n;exact aEk aA s σ H _ us Q I r (.inl ⟨_,by rw[nx.int],q.here R (.int _)⟩)
 ·cases e;obtain⟨x,rfl,nx⟩:=iH n;exact aEk aA s σ H _ us Q I r (.inr ⟨_,by rw[nx.bl],q.here R (.int _)⟩)
 ·cases e
theorem aQ6:cN X (.builtin "abs") (kY X aCL):=λ aA s σ H xs us Q I r aM=>by
 obtain⟨F,L,S,ds,z,R,n,e,q⟩:=aM;unfold aCL at e
 split at e
 ·cases e;obtain⟨x,rfl,nx⟩:=iH n;exact aKL aA s σ H _ us Q I r ⟨_,by rw[nx.int],q.here R (.int _)⟩
 ·cases e
theorem aLn:cN X (.type "tuple") (kY X oN):=λ aA s σ H xs us Q I r aM=>by
 obtain⟨F,L,S,ds,z,R,n,e,q⟩:=aM;unfold oN at e
 split at e
 ·cases e;obtain⟨x,rfl,nx⟩:=iH n;obtain⟨a,ys,rfl,sq,dl⟩:=nx.lst R.sub;exact aDq aA s σ H _ us Q I r ⟨a,ys,rfl,.inl ⟨sq,λ l hl=>q.tup R hl dl⟩⟩
 ·cases e;obtain⟨x,rfl,nx⟩:=iH n;have nx':=nx;obtain⟨a,ys,rfl,sq,dl⟩:=nx.tup R.sub;refine aDq aA s σ H _ us Q I r ⟨a,ys,rfl,.inr ⟨sq,q.here R ?_⟩⟩;rcases nx' with nx | ⟨_,_,_,e,_⟩
  ·exact nx
  ·cases e
 ·cases e
theorem aAK{prog:zq}{w:zx}{A:zv}(hh:A.handled=qz)(I ax:qv)(hne:ax≠I)(aP:Array qx) :
 WalksS prog w A I [I,ax] [I] (λ a b=>b=a) aP.size (λ i v=>aP[i]? = qq v) (λ i s=>s.heap.IsListIter I ax i/\s.heap.IsList ax aP) where
 sub:=λ b hb=>by simp at hb;simp[hb]
 grefl:=λ _=>rfl
 gtrans:=λ _ _ _ h1 h2=>h2.trans h1
 frame:=λ _ _ _ _ st _ hk=>⟨st.1.at λ o e=>hk I (by simp) o e,st.2.at λ o e=>hk ax (by simp) o e⟩
 item:=λ i s Q E hi st hQ=>by
  refine wq st.1 st.2 (x:=aP[i]) (by simp[hi]) λ h' hit' hs'=>?_
  exact hQ _ _ (by simp[hi]) ⟨hit',st.2.extBut hs'.extBut hne⟩ ⟨λ b o hb e=>hs'.extBut b o (λ h=>hb (by simp[h])) e,rfl,rfl,rfl,yAe _⟩
 done:=λ s Q E st hQ=>ww hh st.1 st.2 (by simp) λ h' he'=>hQ _ ⟨λ b o hb e=>he' b o (λ h=>hb (by simp[h])) e,rfl,rfl,rfl,yAe _⟩
 self:=λ _ _ _ _ st hQ=>wpAny_pyIter_listiter st.1 hQ
theorem aDx:∀ (ns:List Int) (k:Nat),k<=ns.length->preSum (λ i=>ns.getD i 0) k=(ns.take k).sum
 | _,0,_=>by simp[preSum]
 | ns,k+1,h=>by
   rw[preSum,aDx ns k (by omega),List.take_succ_eq_append_getElem (by omega),List.sum_append]
   have:ns.getD k 0=ns[k]:=by simp[List.getD,yAc (show k<ns.length by omega)]
   rw[this];simp
theorem aAL{K:FrG}{F:Hp}:∀ {ds:List D}{xs:List V}{ns:List Bool},DenL K F ds xs->kE ds=qq ns->xs=ns.map V.bl
 | _,_,_,.nil,e=>by cases e;rfl
 | .bool i::r,_,_,.cons h t,e=>by
   obtain⟨l,e1,e2⟩:=bind_some e;cases e2;cases h;rw[yAi,aAL t e1]
 | .none::_,_,_,.cons _ _,e=>by cases e
 | .int _::_,_,_,.cons _ _,e=>by cases e
 | .str _::_,_,_,.cons _ _,e=>by cases e
 | .list _::_,_,_,.cons _ _,e=>by cases e
 | .tuple _::_,_,_,.cons _ _,e=>by cases e
 | .dict _::_,_,_,.cons _ _,e=>by cases e
theorem aIV{ns:List Int}{us:List qx}(r:aT (ns.map V.int) us){i:Nat}{v:qx}(e:us[i]? = qq v):∃ t,v=.int (ns.getD i 0) t:=by
 have hl:=r.length;rw[yAb] at hl;have hi:i<ns.length:=by rw[hl];exact(gIm e).1
 obtain⟨u,e1,ru⟩:=aT.get r (i:=i) (x:=.int ns[i]) (by rw[xAb,yAc hi];rfl)
 rw[e] at e1;cases e1;obtain⟨t,rfl⟩:=ru;exact⟨t,by simp[List.getD,yAc hi]⟩
theorem aDt{ns:List Bool}{us:List qx}(r:aT (ns.map V.bl) us){i:Nat}{v:qx}(e:us[i]? = qq v):v=.bool (ns.getD i false):=by
 have hl:=r.length;rw[yAb] at hl;have hi:i<ns.length:=by rw[hl];exact(gIm e).1
 obtain⟨u,e1,ru⟩:=aT.get r (i:=i) (x:=.bl ns[i]) (by rw[xAb,yAc hi];rfl)
 rw[e] at e1;cases e1;obtain rfl:=ru;simp[List.getD,yAc hi]
theorem aQP(hc:X.calm=true):cN X (.builtin "sum") (kY X aCu):=λ aA s σ H xs us Q I r aM=>by
 obtain⟨F,L,S,ds,z,R,n,e,q⟩:=aM;unfold aCu at e
 split at e
 ·obtain⟨ns,e1,e2⟩:=bind_some e;cases e2;obtain⟨x,rfl,nx⟩:=iH n;obtain⟨a,ys,rfl,sq,dl⟩:=nx.lst R.sub;obtain rfl:=wQ dl e1;obtain⟨u,rfl,ru⟩:=fM r;cases ru;obtain⟨its,rv,pl,hz⟩:=I.list sq;have hh:X.A.in1.handled=qz:=I.ok.hd hc;refine call_sum_walkAnyS (ju pl.isList ?_);have hne:a≠s.heap.objs.size:=by
   obtain⟨o,ho,_⟩:=pl.isList;exact xAh (xAa ho)
  have hl:=rv.length;rw[yAb] at hl;refine⟨_,_,_,_,_,_,_,λ i=>ns.getD i 0,rfl,aAK hh s.heap.objs.size a hne its.toArray,⟨⟨_,xAe _ rfl,rfl,rfl⟩,?_⟩,λ b hb=>?_,λ i v e=>aIV rv (by simpa using e),λ s' t' mv=>?_⟩
  ·obtain⟨o,ho,r'⟩:=pl.isList;exact⟨o,hpS _ ho,r'⟩
  ·obtain⟨o,ho,_⟩:=pl.isList;have h1:=xAa ho;simp only[yBa,yAs,or_false] at hb;rw[yEm];rcases hb with rfl | rfl
   ·exact yCz _
   ·exact Nat.lt_succ_of_lt h1
  ·obtain⟨h',g',d',t2,o'⟩:=s';obtain⟨mh,mg,md,mo,mt⟩:=mv;dsimp only at mh mg md mo;subst mg md mo;have I':Inv X aA σ H {s with heap:=h',toks:=t2 }:=I.kept λ b o e=>mh b o (λ z=>by
    have:b=s.heap.objs.size:=by simpa using z
    exact yBi _ (this▸xAa e)) (hpS _ e)
   have e3:preSum (λ i=>ns.getD i 0) its.toArray.size=ns.sum:=by
    rw[yAg,<- hl,aDx ns ns.length (yAe _),yAf]
   rw[e3];exact⟨.int ns.sum,H,I',⟨_,rfl⟩,q.here R (.int _)⟩
 ·cases e
theorem aDO{prog:zq}{w:zx}{A:zv}{b:Bool}{s:qj}{Q:Bool->qj->Prop}{E:qx->qj->Prop}(h:Q b s):qu (model prog w) A (truthy (.bool b)) Q E s:=by
 first
  | exact xw h
  | exact PySem.wpAny_truthy_bool h
  | exact truthy_bool h
theorem aJ0(bs:List Bool):(yAw bs.length).all (λ i=>bs.getD i false)=bs.all id:=by
 have h:(yAw bs.length).map (λ i=>bs.getD i false)=bs:=by
  apply List.ext_getElem
  ·simp
  ·intro i h1 h2;simp[List.getD,yAc h2]
 have h2:bs.all id=((yAw bs.length).map (λ i=>bs.getD i false)).all id:=by rw[h]
 rw[h2,List.all_map];rfl
theorem aJF(bs:List Bool):(yAw bs.length).any (λ i=>bs.getD i false)=bs.any id:=by
 have h:(yAw bs.length).map (λ i=>bs.getD i false)=bs:=by
  apply List.ext_getElem
  ·simp
  ·intro i h1 h2;simp[List.getD,yAc h2]
 have h2:bs.any id=((yAw bs.length).map (λ i=>bs.getD i false)).any id:=by rw[h]
 rw[h2,List.any_map];rfl
theorem aRe(hc:X.calm=true):cN X (.builtin "all") (kY X zE):=λ aA s σ H xs us Q I r aM=>by
 obtain⟨F,L,S,ds,z,R,n,e,q⟩:=aM;unfold zE at e
 split at e
 ·obtain⟨bs,e1,e2⟩:=bind_some e;cases e2;obtain⟨x,rfl,nx⟩:=iH n;obtain⟨a,ys,rfl,sq,dl⟩:=nx.lst R.sub;obtain rfl:=aAL dl e1;obtain⟨u,rfl,ru⟩:=fM r;cases ru;obtain⟨its,rv,pl,hz⟩:=I.list sq;have hh:X.A.in1.handled=qz:=I.ok.hd hc;refine call_all_walkS (ju pl.isList ?_);have hne:a≠s.heap.objs.size:=by
   obtain⟨o,ho,_⟩:=pl.isList;exact xAh (xAa ho)
  have hl:=rv.length;rw[yAb] at hl;refine⟨_,_,_,_,_,_,_,λ i=>bs.getD i false,rfl,aAK hh s.heap.objs.size a hne its.toArray,⟨⟨_,xAe _ rfl,rfl,rfl⟩,?_⟩,λ i v s' Q' E' e hq=>?_,λ s' mv=>?_⟩
  ·obtain⟨o,ho,r'⟩:=pl.isList;exact⟨o,hpS _ ho,r'⟩
  ·obtain rfl:=aDt rv (i:=i) (by simpa using e)
   exact aDO hq
  ·obtain⟨h',g',d',t2,o'⟩:=s';obtain⟨mh,mg,md,mo,mt⟩:=mv;dsimp only at mh mg md mo;subst mg md mo;have I':Inv X aA σ H {s with heap:=h',toks:=t2 }:=I.kept λ b o e=>mh b o (λ z=>by
    have:b=s.heap.objs.size:=by simpa using z
    exact yBi _ (this▸xAa e)) (hpS _ e)
   rw[yAg,<- hl,aJ0];exact⟨.bl (bs.all id),H,I',rfl,q.here R (.bl _)⟩
 ·cases e
theorem aPJ(hc:X.calm=true):cN X (.builtin "any") (kY X zD):=λ aA s σ H xs us Q I r aM=>by
 obtain⟨F,L,S,ds,z,R,n,e,q⟩:=aM;unfold zD at e
 split at e
 ·obtain⟨bs,e1,e2⟩:=bind_some e;cases e2;obtain⟨x,rfl,nx⟩:=iH n;obtain⟨a,ys,rfl,sq,dl⟩:=nx.lst R.sub;obtain rfl:=aAL dl e1;obtain⟨u,rfl,ru⟩:=fM r;cases ru;obtain⟨its,rv,pl,hz⟩:=I.list sq;have hh:X.A.in1.handled=qz:=I.ok.hd hc;refine call_any_walkS (ju pl.isList ?_);have hne:a≠s.heap.objs.size:=by
   obtain⟨o,ho,_⟩:=pl.isList;exact xAh (xAa ho)
  have hl:=rv.length;rw[yAb] at hl;refine⟨_,_,_,_,_,_,_,λ i=>bs.getD i false,rfl,aAK hh s.heap.objs.size a hne its.toArray,⟨⟨_,xAe _ rfl,rfl,rfl⟩,?_⟩,λ i v s' Q' E' e hq=>?_,λ s' mv=>?_⟩
  ·obtain⟨o,ho,r'⟩:=pl.isList;exact⟨o,hpS _ ho,r'⟩
  ·obtain rfl:=aDt rv (i:=i) (by simpa using e)
   exact aDO hq
  ·obtain⟨h',g',d',t2,o'⟩:=s';obtain⟨mh,mg,md,mo,mt⟩:=mv;dsimp only at mh mg md mo;subst mg md mo;have I':Inv X aA σ H {s with heap:=h',toks:=t2 }:=I.kept λ b o e=>mh b o (λ z=>by
    have:b=s.heap.objs.size:=by simpa using z
    exact yBi _ (this▸xAa e)) (hpS _ e)
   rw[yAg,<- hl,aJF];exact⟨.bl (bs.any id),H,I',rfl,q.here R (.bl _)⟩
 ·cases e
noncomputable def tyD:D->Option String
 | .none=>qq "NoneType"
 | .bool _=>qq "bool"
 | .int _=>qq "int"
 | .str _=>qq "str"
 | .list _=>qq "list"
 | .tuple _=>qq "tuple"
 | .dict _=>qz
noncomputable def vE(K:FrG)(n:String)(d:D):Option D:=(tyD d).bind λ t=>(PySem.W.kitOne K (.type t) (.type n)).map yBj
theorem aPw{aA:List (qv×Obj)}{s:qj}{σ:L2.St}{H F:Hp}{L:List qv}{S:aC}{x:V}{v:qx}{d z:D}{n:String}{Q:VK}(I:Inv X aA σ H s)(R:Rel X.K F L S H)(rx:aX x v)(nx:bO X.K F H d x)(e:vE X.K n d=qq z)(q:eW X F L S z Q) :
 qu (model X.prog X.w) X.A (call (.builtin "isinstance") [v,.type n]) (EP X aA σ Q) X.xe s:=by
 obtain⟨t,e1,e2⟩:=bind_some e;cases ek:PySem.W.kitOne X.K (.type t) (.type n) with
 | none=>rw[ek] at e2;cases e2
 | some b =>
   rw[ek] at e2;cases e2;have bI:∀ tk,EP X aA σ Q (.bool b) {s with toks:=tk }:=λ tk=>⟨.bl b,H,I.tok _,rfl,q.here R (.bl b)⟩
   cases d with
   | none=>cases e1;obtain rfl:=nx.non;cases (show v=Value.none from rx);exact yDj PySem.W.kitx_none I.kIn True.intro ek (λ z=>nomatch z) bI
   | bool y=>cases e1;obtain rfl:=nx.bl;cases (show v=Value.bool y from rx);exact yDj PySem.W.kitx_bool I.kIn True.intro ek (λ z=>nomatch z) bI
   | int i=>cases e1;obtain rfl:=nx.int;obtain⟨t,q⟩:=(show ∃ t,v=Value.int i t from rx);cases q;exact yDj PySem.W.kitx_int I.kIn True.intro ek (λ z=>nomatch z) bI
   | str y=>cases e1;obtain rfl:=nx.str;obtain⟨t,q⟩:=(show ∃ t,v=Value.str y t from rx);cases q;exact yDj PySem.W.kitx_str I.kIn True.intro ek (λ z=>nomatch z) bI
   | list l =>
     cases e1;obtain⟨a,xs,rfl,sq,dl⟩:=nx.lst R.sub;cases (show v=Value.ref a from rx)
     obtain⟨its,rv,pl,_⟩:=I.list sq;obtain⟨o,ho,hc,_⟩:=pl.isList;exact yDj PySem.W.kitx_list I.kIn ⟨o,ho,hc⟩ ek (λ z=>nomatch z) bI
   | tuple l =>
     cases e1;obtain⟨a,xs,rfl,sq,dl⟩:=nx.tup R.sub;cases (show v=Value.ref a from rx)
     obtain⟨its,rv,pl,_⟩:=I.tuple sq;obtain⟨o,ho,hc,_⟩:=pl;exact yDj PySem.W.kitx_tuple I.kIn ⟨o,ho,hc⟩ ek (λ z=>nomatch z) bI
   | dict l=>cases e1
noncomputable def aHV(K:FrG)(n:String)(fa:FE):FE:=f1 fa (eC (vE K n))
theorem aQB{a:qw}{fa:FE}{n:String}{x:Str}{p p' pos:Pos}(ha:PE X a (aI X.K fa))(hg:Gl X "isinstance")(hm:X.mg "isinstance" = qz)(hv:zu "isinstance" = qq (.builtin "isinstance"))(hg':Gl X x)(hm':X.mg x=qz)(hv':zu x=qq (.type n))(hn:x ≠ "__name__")(hd:(x==("__debug__" : Str))=false)
 (h1:zj [a,.Name x p'] X.env=(false,eval a X.env)::zj [.Name x p'] X.env):PE X (.Call (.Name "isinstance" p) [a,.Name x p'] [] pos) (aI X.K (aHV X.K n fa)):=by
 have pt:PE X (.Name x p') (tC (.ty n)):=aFJ hg' hm' hv' rfl hn hd;have rule:cN X (.builtin "isinstance") (λ xs H Q=>∃ F L S y d z,xs=[y,.ty n]/\Rel X.K F L S H/\bO X.K F H d y/\vE X.K n d=qq z/\eW X F L S z Q):=λ aA s σ H xs us Q I r aM=>by
  obtain⟨F,L,S,y,d,z,e,R,ny,e2,q⟩:=aM;subst e;obtain⟨u,u2,rfl,r1,r2⟩:=uF r;cases (show u2=Value.type n from r2)
  exact aPw I R r1 ny e2 q
 refine PE.weak (kD rule hg hm hv (kF ha (kF pt qP) h1) (by decide) (by decide) h1 rfl) λ σ H Q hPq38=>?_
 obtain⟨F,L,S,env,w,S',R,E,e,q⟩:=hPq38;obtain⟨⟨w1,S1⟩,e1,e2⟩:=bind_some e;obtain⟨d,z,e3,e4,rfl,rfl⟩:=qA e2;exact⟨F,L,S,env,w1,_,R,E,e1,λ F1 L1 H1 v g1 R1 d1=>⟨F1,L1,_,v,d,z,rfl,R1,fY R1 d1 e3,e4,tI X rfl λ F2 L2 H2 v2 g2 R2 d2=>q F2 L2 H2 v2 (g1.trans g2) R2 d2⟩⟩
noncomputable def vO(fa:FE):FL:=λ env S=>(fa env S).bind λ p=>(dr p.2 p.1).bind λ d=>(oW d).bind λ l=>qq (l,p.2)
theorem aQb{fa:FE}(σ:St)(H:Hp)(Q:VK)(h:hB X.K (vO fa) σ H Q):vP (λ xs H Q=>∃ p ys,xs=[.ref p]/\(bR X.K H p ys\/bV X.K H p ys)/\∀ l,H l=qz->Q (.ref l) (aW H l (.lst ys))) (dC X.K (cJ fa gD)) σ H Q:=by
 obtain⟨F,L,S,env,ds,S',R,E,e,q⟩:=h;obtain⟨⟨w,S1⟩,e1,e⟩:=bind_some e;obtain⟨d,e2,e⟩:=bind_some e;obtain⟨l,e3,e⟩:=bind_some e;cases e;refine⟨F,L,S,env,[w],_,R,E,by unfold cJ;rw[e1];rfl,λ F1 L1 H1 vs g1 R1 d1=>?_⟩
 cases d1 with
 | cons dd dr =>
   cases dr;obtain⟨p,xs,rfl,sq,dl⟩:=aBv R1.sub (fY R1 dd e2) e3;exact⟨p,xs,rfl,sq,λ l hl=>q F1 L1 _ l xs g1 (R1.lay hl) (R1.sub.free hl) (R1.notin hl) cA dl⟩
end
section
variable {X : Cx}{aA : List (qv×Obj)}{σ : L2.St}{H : Hp}{s : qj}{h' : Heap}
theorem aDI{ch:List qv}{p:qv}{o:HO}{t':Nat}(I:Inv X aA σ H s)(hch:∀ b∈ch,gY X aA H b)(k:∀ b u,b ∉ ch->s.heap.get? b=qq u->h'.get? b=qq u)(hp:s.heap.objs.size<=p)
 (new:fP X.prog X.w (aW H p o) h' p o):Inv X aA σ (aW H p o) {s with heap:=h',toks:=t' }:=by
 have hn:=I.hok.fresh hp;have nch:∀ b u,H b=qq u->b ∉ ch:=λ b u e z=>by rw[(hch b z).1] at e;cases e
 have nep:∀ b u,s.heap.get? b=qq u->b≠p:=λ b u e z=>absurd (xAc (xAa e) hp) (by rw[z];exact yBi _)
 refine I.step (g':=s.gens) (d':=s.drawn) (ch:=ch) (λ b hb=>⟨(hch b hb).2.2.2.1,(hch b hb).2.1,(hch b hb).2.2.2.2.1,(hch b hb).2.2.2.2.2⟩) (λ b o _ _ hc e _=>k b o hc e) (λ b o _ _ hc e _=>⟨o.slots,k b o hc e⟩) (λ b o _ e n=>by rw[bB (nep b o e)];exact n)
  (λ b o hc e=>⟨o,k b o hc e⟩) (λ b xs e=>by rw[bB (eD e hn)];exact e) (λ b u v e=>by rw[bB (eD e hn)];exact e) (λ b ps e=>⟨#[],by rw[bB (eD e hn),e];simp⟩) (λ m hm=>?_) (λ b u e=>?_) I.bare
 ·obtain⟨o,es,ep,ho,r⟩:=hm;exact⟨o,es,ep,k _ o (λ z=>(hch _ z).2.1 rfl) ho,r⟩
 ·by_cases hb:b=p
  ·subst hb;rw[cA] at e;cases e;exact new
  ·rw[bB hb] at e;refine(I.hok b u e).stay (λ c v hc q=>k c v ?_ q) (λ c q=>by rw[bB (eD q hn)];exact q) λ c xs q=>by rw[bB (eD q hn)];exact q
   rcases hc with z | z
   ·rw[z];exact nch b u e
   ·exact nch c _ z
end
noncomputable def Ite(K:FrG)(a:qv):It:=
 ⟨λ i H=>∃ xs x,bR K H a xs/\xs[i]? = qq x,λ i H x H'=>∃ p y,H p=qz/\H'=aW H p (.tup [.int i,y])/\x=.ref p/\∀ xs,bR K H a xs->xs[i]? = qq y,λ i H=>∃ xs,bR K H a xs/\xs.length<=i⟩
theorem aJx{P:zq}{w:zx}{K:FrG}{elts:List qw}{k:Nat}{pos:Pos}(a e it:qv)(hei:e≠it):Turn P w K (.Tuple elts k pos) (Ite K a) [e,it] e (λ i h=>(∃ old,IsEnum h e it (i:Nat) old)/\h.IsListIter it a i) where
 mem:=xAd
 obj:=λ i h aM b hb=>by
  obtain⟨⟨old,he⟩,⟨o,ho,hc,hd⟩⟩:=aM;rcases List.mem_cons.mp hb with rfl | hb
  ·exact⟨_,he,λ v=>by intro z;cases z⟩
  ·rw[yBr] at hb;subst hb;exact⟨o,ho,λ v z=>by rw[hd] at z;cases z⟩
 keep:=λ i h h' ⟨⟨old,he⟩,hit⟩ q=>⟨⟨old,q e xAd _ he⟩,hit.at λ o e=>q it (by simp) o e⟩
 item:=λ X hP hW hK hc i aA s σ H E I hf aM pU=>by
  obtain⟨⟨old,he⟩,hit⟩:=aM;obtain⟨xs,x,hq,hx⟩:=pU;subst hP hW hK;obtain⟨its,rv,pl,hz⟩:=I.list hq;obtain⟨u,hu,ru⟩:=rv.get hx;refine wpAny_pyNext_enum_item he hit pl.isList (by simpa using hu) hei λ h₁ heo hit₁ ht₁ hz₁ hk₁=>⟨_,rfl,?_⟩
  refine yq heo λ h₂ he₂ hs₂=>?_
  have hs2:yDe e h₁ h₂:=hs₂;have eLt:e<s.heap.objs.size:=xAa he;have iLt:it<s.heap.objs.size:=by obtain⟨o,ho,_⟩:=hit;exact xAa ho
  have ht₂:h₂.get? s.heap.objs.size=qq {cls:=.type "tuple",data:=.seq #[.int i s.toks,u] }:=hs2.extBut _ _ (yEp eLt) ht₁;have I2:Inv X aA σ (aW H s.heap.objs.size (.tup [.int i,x])) {s with heap:=h₂,toks:=s.toks+1 }:=by
   refine aDI I hf (λ b o hb e'=>?_) (yAe _) ⟨by show 2<=qk;decide,[.int i s.toks,u],.cons ⟨_,rfl⟩ (.cons ru .nil),⟨_,ht₂,rfl,0,rfl⟩⟩
   have b1:b≠e:=λ z=>hb (by simp[z])
   have b2:b≠it:=λ z=>hb (by simp[z])
   exact hs2.extBut b o b1 (hk₁ b o b1 b2 e')
  refine⟨.ref s.heap.objs.size,_,I2,rfl,⟨s.heap.objs.size,x,I.fresh,rfl,rfl,λ ys hy=>by rw[I.list_inj hy hq];exact hx⟩,⟨⟨u,by have:=he₂;rw[show((i+1:Nat):Int)=(i:Int)+1 by omega];exact this⟩,hit₁.extBut hs2.extBut (Ne.symm hei)⟩,λ b hb=>?_⟩
  have:b<s.heap.objs.size:=by
   rcases List.mem_cons.mp hb with rfl | hb
   ·exact eLt
   ·rw[yBr] at hb;subst hb;exact iLt
  rw[bB (xAh this)];exact(hf b hb).1
 done:=λ X hP hW hK hc i aA s σ H E I hf aM pU=>by
  obtain⟨⟨old,he⟩,hit⟩:=aM;obtain⟨xs,hq,hx⟩:=pU;subst hP hW hK;obtain⟨its,rv,pl,hz⟩:=I.list hq;refine wpAny_pyNext_enum_end (I.ok.hd hc) he hit pl.isList (by have:=rv.length;simp;omega) λ h₁ he₁=>⟨rfl,?_⟩
  obtain⟨f1,f2,f3,f4,f5,f6⟩:=hf it (by simp)
  exact I.turned (t':=s.toks) (λ b o hb e'=>he₁ b o hb e') f1 f2 f4 f5 f6
 self:=λ A i s Q E ⟨⟨old,he⟩,_⟩ hq=>wj he hq
section
variable {X : Cx}
noncomputable def iE(k:Int):List D->List D
 | []=>[]
 | d::r=>.tuple [.int k,d]::iE (k+1) r
theorem sH:∀ (ds:List D) (k:Int),(iE k ds).length=ds.length
 | [],_=>rfl
 | _::r,k=>by simp[iE,sH r]
theorem aAY:∀ (ds:List D) (k:Int) (i:Nat) (e:D),(iE k ds)[i]? = qq e->∃ d,ds[i]? = qq d/\e=.tuple [.int (k+i),d]
 | [],_,_,_,h=>by simp[iE] at h
 | d::r,k,0,e,h=>by simp[iE] at h;subst h;exact⟨d,rfl,by simp⟩
 | d::r,k,i+1,e,h=>by
   obtain⟨d',e1,e2⟩:=aAY r (k+1) i e (by simpa [iE] using h)
   refine⟨d',by simpa using e1,?_⟩
   rw[e2];congr 3
   push_cast
   omega
theorem aLO{K:FrG}{F:Hp}{L:List qv}{a:qv}{xs:List V}{ds:List D}(sq:bR K F a xs)(dl:DenL K F ds xs):Wk K F L (Ite K a) (iE 0 ds) where
 go:=λ i H s hi=>by
  rw[sH] at hi;exact⟨xs,xs[i]'(by rw[<- dl.length];exact hi),s.seq sq,by simp[dl.length▸hi]⟩
 stop:=λ H s=>⟨xs,s.seq sq,by rw[sH];exact yEq dl.length.symm⟩
 yld:=λ i H F1 L1 S x H' d g R e y=>by
  obtain⟨p,y',hp,rfl,rfl,hy⟩:=y;obtain⟨d',e1,rfl⟩:=aAY ds 0 i d e;obtain⟨x',e2,dx⟩:=dl.get e1;have h:=hy xs ((g.f.trans R.sub).seq sq);rw[h] at e2;cases e2;have hF:F1 p=qz:=R.sub.free hp;refine⟨aW F1 p (.tup [.int i,y']),eZ hF,R.new hp,.tup (bV.of cA) ?_⟩;rw[Int.zero_add];exact .cons (.int _) (.cons (dx.mono (g.f.trans (eZ hF))) .nil)
end
section
variable {prog : zq}{w : zx}{A : zv}{E : qx -> qj -> Prop}{s : qj}
theorem aIm{it t:qv}{i:Nat}{aP:Array qx}{x:qx}{Q:qx->qj->Prop}(hit:s.heap.IsTupleIter it t i)(ht:s.heap.IsTuple t aP)(hx:aP[i]? = qq x)
 (hQ:∀ h',h'.IsTupleIter it t (i+1)->yDe it s.heap h'->Q x {s with heap:=h' }):qu (model prog w) A (yCo (.ref it)) Q E s:=by
 obtain⟨o,ho,hc,hd⟩:=id hit;obtain⟨ol,hol,_,nl,hdl⟩:=ht;unfold yCo;refine wB (wpAny_callSpecial?_slot (name:=Str.ofString "__next__") hit.typeIs F.slot_tuple_iterator_next (vq F.slot_tuple_iterator_next hit.typeIs F.entry_tuple_iterator_next ?_ (F.args_tuple_iterator_next_1 _)));show qu _ _ (field (.ref it) 0 >>= _) _ _ s;refine wB (xy ho hd (x:=.ref t) rfl ?_);show qu _ _ (if (Value.ref t==Value.none)=true then _ else _) _ _ s
 rw[if_neg (show ¬ ((Value.ref t==Value.none)=true) from yAu)]
 show qu _ _ (field (.ref it) 1 >>= _) _ _ s;refine wB (xy ho hd (x:=.int i 0) rfl ?_);show qu _ _ (seqItems? (.ref t) >>= _) _ _ s;refine wB (wpAny_seqItems hol hdl ?_);simp only[yBp,hx];refine wB (wpAny_setField ho hd (by simp) (wP ⟨x,rfl,wP (hQ _ ⟨_,yCb _ ho (Obj.isFreed_of_fields (Obj.data_mapFields hd _)),(Obj.cls_mapFields ..).trans hc,?_⟩ (Heap.SameBut.update ..))⟩))
 rw[Obj.data_mapFields hd];simp[jy]
theorem aDo{it t:qv}{i:Nat}{aP:Array qx}{Q:qx->qj->Prop}(hh:A.handled=qz)(hit:s.heap.IsTupleIter it t i)(ht:s.heap.IsTuple t aP)(hx:aP[i]? = qz)
 (hE:∀ h' e,Heap.ExtBut it s.heap h'->(∃ o,h'.get? e=qq o/\o.cls=.type "StopIteration")->E (.ref e) {s with heap:=h' }):qu (model prog w) A (yCo (.ref it)) Q E s:=by
 obtain⟨o,ho,hc,hd⟩:=id hit;obtain⟨ol,hol,_,nl,hdl⟩:=ht;unfold yCo;refine wB (wpAny_callSpecial?_slot (name:=Str.ofString "__next__") hit.typeIs F.slot_tuple_iterator_next (vq F.slot_tuple_iterator_next hit.typeIs F.entry_tuple_iterator_next ?_ (F.args_tuple_iterator_next_1 _)));show qu _ _ (field (.ref it) 0 >>= _) _ _ s;refine wB (xy ho hd (x:=.ref t) rfl ?_);show qu _ _ (if (Value.ref t==Value.none)=true then _ else _) _ _ s
 rw[if_neg (show ¬ ((Value.ref t==Value.none)=true) from yAu)]
 show qu _ _ (field (.ref it) 1 >>= _) _ _ s;refine wB (xy ho hd (x:=.int i 0) rfl ?_);show qu _ _ (seqItems? (.ref t) >>= _) _ _ s;refine wB (wpAny_seqItems hol hdl ?_);simp only[yBp,hx];refine wB (yy (wB (wpAny_setField ho hd (by simp) ?_)))
 show qu _ _ (newExc (.type "StopIteration") [] >>= _) _ _ _;refine wB ?_;simp only[newExc,newTuple];refine wB (xu (wB (m:=firstArgMember _ _) (wpAny_of_eq (a:=Value.none) (by first | rfl | (simp only[firstArgMember];rfl)) (xu ?_ (by size_fits)))) (by size_fits))
 simp only[raiseNew];refine wB (wpAny_handled ?_)
 first | rw[show A.in1.handled=qz from hh] | rw[hh]
 exact wB (wP (wpAny_throw (hE _ _ (((Heap.SameBut.update ..).extBut.push _).push _) ⟨_,xAe _ rfl,rfl⟩)))
theorem aIf{e it t:qv}{i:Nat}{aP:Array qx}{old:qx}{Q:Option qx->qj->Prop}(hh:A.in1.handled=qz)
 (he:IsEnum s.heap e it i old) (hit:s.heap.IsTupleIter it t i) (ht:s.heap.IsTuple t aP) (hx:aP[i]? = qz)
 (hQ:∀ h',Heap.ExtBut it s.heap h'->Q qz {s with heap:=h' }):qu (model prog w) A (yk (.ref e)) Q E s:=by
 have hT:s.TypeIs (.ref e) "enumerate":=⟨_,he,rfl⟩;unfold yk;refine wB (yw (wpAny_callSpecial?_slot (name:=Str.ofString "__next__") hT F.slot_enumerate_next (vq F.slot_enumerate_next hT F.entry_enumerate_next ?_ (F.args_enumerate_next_1 _))));show qu _ _ (field (.ref e) 2 >>= _) _ _ _;refine wB (xy he rfl (x:=.ref it) rfl (wB (aDo hh hit ht hx λ h' x he' hx'=>?_)))
 obtain⟨o,ho,hc⟩:=hx';exact wB (wpAny_isInstance (T:="StopIteration") (b:=true) ⟨o,ho,hc⟩ isSubtype_stop (wP (hQ _ he')))
theorem aJ8(hh:A.handled=qz)(it t:qv)(hne:t≠it)(aP:Array qx):Draws prog w A it [it,t] aP.size (λ i v=>aP[i]? = qq v) (λ i h=>h.IsTupleIter it t i/\h.IsTuple t aP) where
 live:=λ _ _ st=>let ⟨o,ho,_⟩:=st.1;⟨o,ho⟩
 frame:=λ _ _ _ st hk=>⟨st.1.at λ o e=>hk it (by simp) o e,let ⟨u,hu,r⟩:=st.2;⟨u,hk t (by simp) u hu,r⟩⟩
 item:=λ i s Q E hi st hQ=>aIm st.1 st.2 (x:=aP[i]) (by simp[hi]) λ h' hit' hs'=>hQ _ h' s.toks (by simp[hi]) ⟨hit',let ⟨u,hu,r⟩:=st.2;⟨u,hs'.extBut t u hne hu,r⟩⟩ hs'
 done:=λ s Q E st hE=>aDo hh st.1 st.2 (by simp) hE
theorem aJw(l:qv)(aP:Array qx)(n:Nat)(dct:Option qv)(sl:Array (Option qx)) :
 Meets (Builtin.«enumerate.__new__» ⟨[.type "enumerate",.ref l],[]⟩) (λ _ R s=>s.heap.get? l=qq {cls:=.type "tuple",dict:=dct,data:=.seq aP n,slots:=sl } /\
  R (.ok (.ret (.ref (s.heap.push {cls:=.type "tuple_iterator",data:=.fields #[.ref l,.int 0 0] }).objs.size)))
   {s with heap:=(s.heap.push {cls:=.type "tuple_iterator",data:=.fields #[.ref l,.int 0 0] }).push {cls:=.type "enumerate",data:=.fields #[.none,.bool false,.ref s.heap.objs.size,jy 0,.none,.none] } }):=
 .of_wp λ prog w A R s h=>by
  obtain⟨hp,g,d,tk,os⟩:=s;obtain⟨hl,h⟩:=h;have hsub:=sub_enumerate;have hL:Heap.IsTuple (Shared.heap ⟨hp,g,d,tk,os⟩) l aP:=⟨_,hl,rfl,n,rfl⟩
  wp_walk using AutoSeq1.wpAny_loadPart' hl
  refine wpAny_stack_any λ st=>wP ?_
  split
  ·rename_i c _ _ _ _ _;cases (c==Value.type "enumerate")
   ·wp_walk using AutoSeq1.wpAny_loadPart' hl,vy hL
    exact⟨_,rfl,h⟩
   ·wp_walk using AutoSeq1.wpAny_loadPart' hl,vy hL
    exact⟨_,rfl,h⟩
  ·wp_walk using AutoSeq1.wpAny_loadPart' hl,vy hL
   exact⟨_,rfl,h⟩
theorem aJp{l:qv}{aP:Array qx}{Q:qx->qj->Prop}(hL:s.heap.IsTuple l aP)
 (h:∀ h',IsEnum h' (s.heap.objs.size+1) s.heap.objs.size 0 .none->h'.IsTupleIter s.heap.objs.size l 0->h'.objs.size=s.heap.objs.size+2 ->
   (∀ b o,s.heap.get? b=qq o->h'.get? b=qq o)->Q (.ref (s.heap.objs.size+1)) {s with heap:=h' }) :
 qu (model prog w) A (call (.type "enumerate") [.ref l]) Q E s:=by
 obtain⟨⟨c,dct,dt,sl⟩,hl,hc,n,hd⟩:=hL
 replace hc:c=.type "tuple":=hc
 replace hd:dt=.seq aP n:=hd
 subst hc hd;refine callType_new F.called_enumerate (by decide) (F.typeCall_enumerate_1 _) (F.newCall_enumerate_1 _) (λ obj=>F.args_object_init_2 obj _) F.entry_enumerate_new (aJw l aP n dct sl) ⟨hl,?_⟩
 have hz:(s.heap.push {cls:=.type "tuple_iterator",data:=.fields #[.ref l,.int 0 0] }).objs.size=s.heap.objs.size+1:=yEm ..;show _/\_;rw[hz];have he:IsEnum ((s.heap.push {cls:=.type "tuple_iterator",data:=.fields #[.ref l,.int 0 0] }).push {cls:=.type "enumerate",data:=.fields #[.none,.bool false,.ref s.heap.objs.size,jy 0,.none,.none] }) (s.heap.objs.size+1) s.heap.objs.size 0 .none:=by
  have:=xAe (s.heap.push {cls:=.type "tuple_iterator",data:=.fields #[.ref l,.int 0 0] }) (o:={cls:=.type "enumerate",data:=.fields #[.none,.bool false,.ref s.heap.objs.size,jy 0,.none,.none] }) rfl;rw[hz] at this;exact this
 exact⟨⟨_,he,rfl⟩,h _ he ⟨_,hpS _ (xAe _ rfl),rfl,rfl⟩ (by rw[yEm,hz]) λ b o x=>hpS _ (hpS _ x)⟩
end
noncomputable def aCF(K:FrG)(a:qv):It:=
 ⟨λ i H=>∃ xs x,bV K H a xs/\xs[i]? = qq x,λ i H x H'=>∃ p y,H p=qz/\H'=aW H p (.tup [.int i,y])/\x=.ref p/\∀ xs,bV K H a xs->xs[i]? = qq y,λ i H=>∃ xs,bV K H a xs/\xs.length<=i⟩
theorem aJr{P:zq}{w:zx}{K:FrG}{elts:List qw}{k:Nat}{pos:Pos}(a e it:qv)(hei:e≠it)(hea:e≠a)(hai:a≠it):Turn P w K (.Tuple elts k pos) (aCF K a) [e,it] e (λ i h=>(∃ old,IsEnum h e it (i:Nat) old)/\h.IsTupleIter it a i) where
 mem:=xAd
 obj:=λ i h aM b hb=>by
  obtain⟨⟨old,he⟩,⟨o,ho,hc,hd⟩⟩:=aM;rcases List.mem_cons.mp hb with rfl | hb
  ·exact⟨_,he,λ v=>by intro z;cases z⟩
  ·rw[yBr] at hb;subst hb;exact⟨o,ho,λ v z=>by rw[hd] at z;cases z⟩
 keep:=λ i h h' ⟨⟨old,he⟩,hit⟩ q=>⟨⟨old,q e xAd _ he⟩,hit.at λ o e=>q it (by simp) o e⟩
 item:=λ X hP hW hK hc i aA s σ H E I hf aM pU=>by
  obtain⟨⟨old,he⟩,hit⟩:=aM;obtain⟨xs,x,hq,hx⟩:=pU;subst hP hW hK;obtain⟨its,rv,pl,hz⟩:=I.tuple hq;obtain⟨u,hu,ru⟩:=rv.get hx;have hlt:i<its.toArray.size:=by
   rw[yAg];exact(gIm hu).1
  have hh:X.A.in1.handled=qz:=I.ok.hd hc;refine wpAny_pyNext_enum_itemD (aJ8 (prog:=X.prog) (w:=X.w) hh it a hai its.toArray) he ⟨hit,pl⟩ hlt hei (by simp[hei,hea]) λ x' h₁ tk hP heo hit₁ ht₁ hz₁ hk₁=>⟨_,rfl,?_⟩
  have:x'=u:=by
   rw[List.getElem?_toArray,hu] at hP;exact(Option.some.inj hP).symm
  subst this;refine yq heo λ h₂ he₂ hs₂=>?_
  have hs2:yDe e h₁ h₂:=hs₂;have eLt:e<s.heap.objs.size:=xAa he;have iLt:it<s.heap.objs.size:=by obtain⟨o,ho,_⟩:=hit;exact xAa ho
  have ht₂:h₂.get? s.heap.objs.size=qq {cls:=.type "tuple",data:=.seq #[.int i tk,x'] }:=hs2.extBut _ _ (yEp eLt) ht₁;have I2:Inv X aA σ (aW H s.heap.objs.size (.tup [.int i,x])) {s with heap:=h₂,toks:=tk+1 }:=by
   refine aDI I hf (λ b o hb e'=>?_) (yAe _) ⟨by show 2<=qk;decide,[.int i tk,x'],.cons ⟨_,rfl⟩ (.cons ru .nil),⟨_,ht₂,rfl,0,rfl⟩⟩
   have b1:b≠e:=λ z=>hb (by simp[z])
   have b2:b≠it:=λ z=>hb (by simp[z])
   exact hs2.extBut b o b1 (hk₁ b o b1 b2 e')
  refine⟨.ref s.heap.objs.size,_,I2,rfl,⟨s.heap.objs.size,x,I.fresh,rfl,rfl,λ ys hy=>by rw[I.tuple_inj hy hq];exact hx⟩,⟨⟨x',by have:=he₂;rw[show((i+1:Nat):Int)=(i:Int)+1 by omega];exact this⟩,?_⟩,λ b hb=>?_⟩
  ·obtain⟨o,ho,r⟩:=hit₁.1;exact⟨o,hs2.extBut it o (Ne.symm hei) ho,r⟩
  ·have:b<s.heap.objs.size:=by
    rcases List.mem_cons.mp hb with rfl | hb
    ·exact eLt
    ·rw[yBr] at hb;subst hb;exact iLt
   rw[bB (xAh this)];exact(hf b hb).1
 done:=λ X hP hW hK hc i aA s σ H E I hf aM pU=>by
  obtain⟨⟨old,he⟩,hit⟩:=aM;obtain⟨xs,hq,hx⟩:=pU;subst hP hW hK;obtain⟨its,rv,pl,hz⟩:=I.tuple hq;have hh:X.A.in1.handled=qz:=I.ok.hd hc;have hl:=rv.length;refine aIf hh he hit pl (by simp;omega) λ h₁ he₁=>⟨rfl,?_⟩
  obtain⟨f1,f2,f3,f4,f5,f6⟩:=hf it (by simp)
  exact I.turned (t':=s.toks) (λ b o hb e'=>he₁ b o hb e') f1 f2 f4 f5 f6
 self:=λ A i s Q E ⟨⟨old,he⟩,_⟩ hq=>wj he hq
section
variable {X : Cx}
def aFY(K:FrG)(ta:TA):TI:=λ σ H R=>ta σ H λ vs H1=>∃ a,vs=[.ref a]/\(((∃ xs,bR K H1 a xs)/\R (Ite K a) H1)\/((∃ xs,bV K H1 a xs)/\R (aCF K a) H1))
theorem aKV{elts:List qw}{k:Nat}{pp:Pos}{a:qw}{ta:TA}{p pos:Pos}(hg:Gl X "enumerate")(hm:X.mg "enumerate" = qz)(ha:PA X [a] ta)(hs:zj [a] X.env=[(false,eval a X.env)]):PI X (.Tuple elts k pp) (.Call (.Name "enumerate" p) [a] [] pos) (aFY X.K ta):=by
 intro aA s σ H R I h;refine Call_ (tW I hg hm boot_enumerate (yDf (aZ (ha pos aA s σ H _ I h) λ us s1 hPq39=>?_) hs rfl))
 obtain⟨vs,H1,I1,r1,q1⟩:=hPq39;obtain⟨l,rfl,q1⟩:=q1;obtain⟨u,rfl,ru⟩:=fM r1;cases ru;have hb':∀ b∈[s1.heap.objs.size+1,s1.heap.objs.size],s1.heap.objs.size<=b:=λ b hb=>by
  rcases List.mem_cons.mp hb with rfl | hb
  ·exact Nat.le_succ _
  ·rw[yBr] at hb;rw[hb];exact yAe _
 rcases q1 with ⟨⟨xs,sq⟩,q⟩ | ⟨⟨xs,sq⟩,q⟩
 ·obtain⟨its,rv,pl,hz⟩:=I1.list sq;refine call_enumerate_list pl.isList λ h' he hit hsz hk=>wj he ?_
  have I2:Inv X aA σ H1 {s1 with heap:=h' }:=I1.kept (t':=s1.toks) hk
  exact⟨s1.heap.objs.size+1,[s1.heap.objs.size+1,s1.heap.objs.size],_,_,H1,rfl,I2,aJx l _ _ (Nat.succ_ne_self _),⟨⟨_,he⟩,hit⟩,λ b hb=>I1.fpOk (hb' b hb) (I1.hok.fresh (hb' b hb)),q⟩
 ·obtain⟨its,rv,pl,hz⟩:=I1.tuple sq;have hlt:l<s1.heap.objs.size:=by obtain⟨o,ho,_⟩:=pl;exact xAa ho
  refine aJp pl λ h' he hit hsz hk=>wj he ?_
  have I2:Inv X aA σ H1 {s1 with heap:=h' }:=I1.kept (t':=s1.toks) hk
  exact⟨s1.heap.objs.size+1,[s1.heap.objs.size+1,s1.heap.objs.size],_,_,H1,rfl,I2,aJr l _ _ (Nat.succ_ne_self _) (yEp (Nat.lt_succ_of_lt hlt)) (xAh hlt),⟨⟨_,he⟩,hit⟩,λ b hb=>I1.fpOk (hb' b hb) (I1.hok.fresh (hb' b hb)),q⟩
theorem aKr{K:FrG}{F:Hp}{L:List qv}{a:qv}{xs:List V}{ds:List D}(sq:bV K F a xs)(dl:DenL K F ds xs):Wk K F L (aCF K a) (iE 0 ds) where
 go:=λ i H s hi=>by
  rw[sH] at hi;exact⟨xs,xs[i]'(by rw[<- dl.length];exact hi),iT s sq,by simp[dl.length▸hi]⟩
 stop:=λ H s=>⟨xs,iT s sq,by rw[sH];exact yEq dl.length.symm⟩
 yld:=λ i H F1 L1 S x H' d g R e y=>by
  obtain⟨p,y',hp,rfl,rfl,hy⟩:=y;obtain⟨d',e1,rfl⟩:=aAY ds 0 i d e;obtain⟨x',e2,dx⟩:=dl.get e1;have h:=hy xs (iT (g.f.trans R.sub) sq);rw[h] at e2;cases e2;have hF:F1 p=qz:=R.sub.free hp;refine⟨aW F1 p (.tup [.int i,y']),eZ hF,R.new hp,.tup (bV.of cA) ?_⟩;rw[Int.zero_add];exact .cons (.int _) (.cons (dx.mono (g.f.trans (eZ hF))) .nil)
noncomputable def tU(fa:FE):FL:=λ env S=>(fa env S).bind λ p=>match p.1 with
 | .d (.list ds)=>qq (iE 0 ds,p.2)
 | .d (.tuple ds)=>qq (iE 0 ds,p.2)
 | _=>qz
theorem aML{K:FrG}{fa:FE}(σ:St)(H:Hp)(Rr:It->Hp->Prop)(h:jF K (tU fa) σ H Rr):aFY K (dC K (cJ fa gD)) σ H Rr:=by
 obtain⟨F,L,S,env,ds,S',R,E,e,q⟩:=h;obtain⟨⟨w,S1⟩,e1,e2⟩:=bind_some e;dsimp only at e2
 split at e2
 ·rename_i ds';cases e2;refine⟨F,L,S,env,[.d (.list ds')],_,R,E,by unfold cJ;rw[e1];rfl,λ F1 L1 H1 vs g1 R1 d1=>?_⟩
  cases d1 with
  | cons dd dr =>
    cases dr;cases (show Den K F1 (.list ds') _ from dd) with
    | lst sq dl=>exact⟨_,rfl,.inl ⟨⟨_,R1.sub.seq sq⟩,q F1 L1 H1 _ g1 R1 (aLO sq dl)⟩⟩
 ·rename_i ds';cases e2;refine⟨F,L,S,env,[.d (.tuple ds')],_,R,E,by unfold cJ;rw[e1];rfl,λ F1 L1 H1 vs g1 R1 d1=>?_⟩
  cases d1 with
  | cons dd dr =>
    cases dr;cases (show Den K F1 (.tuple ds') _ from dd) with
    | tup sq dl=>exact⟨_,rfl,.inr ⟨⟨_,iT R1.sub sq⟩,q F1 L1 H1 _ g1 R1 (aKr sq dl)⟩⟩
 ·cases e2
end
inductive Tv where
 | int (i:Int) | str (x:Str) | bool (b:Bool)
 deriving DecidableEq
noncomputable def Tv.d:Tv->D
 | .int i=>.int i | .str x=>.str x | .bool b=>.bool b
noncomputable def Tv.v:Tv->V
 | .int i=>.int i | .str x=>.str x | .bool b=>.bl b
theorem Tv.den{K:FrG}{F:Hp}(t:Tv):Den K F t.d t.v:=by
 cases t
 ·exact .int _
 ·exact .str _
 ·exact .bl _
noncomputable def oX(w:zx):List DictEntry->List (Str×Tv)->Prop
 | [],[]=>True
 | e::r,(x,v)::aK=>e.hash=hashStr w x/\(∃ t,e.key=.str x t)/\aX v.v e.val/\oX w r aK
 | _,_=>False
def mV(K:FrG)(w:zx)(a:qv)(aK:List (Str×Tv)):Prop:=(a==sysModules)=false/\∃ es ep,K.lookup a=qq {cls:=.type "dict",data:=.dict es ep }/\oX w es.toList aK
noncomputable def zP(aK:List (Str×Tv)):D->Option D
 | .str x=>(aK.lookup x).map Tv.d
 | _=>qz
theorem aBn{P:zq}{w:zx}:∀ {l:List DictEntry}{aK:List (Str×Tv)},oX w l aK->∀ e∈l,∃ k,(gS P w).is k e.key=true/\e.hash=(gS P w).hash k
 | [],[],_,e,h=>by cases h
 | e::r,(x,v)::aK,ok,e',h=>by
   obtain⟨h1,⟨t,h2⟩,_,h4⟩:=ok;rcases List.mem_cons.mp h with rfl | h
   ·exact⟨.inr x,by rw[h2];exact aAW x t,h1⟩
   ·exact aBn h4 e' h
 | [],_::_,ok,_,_=>ok.elim
 | _::_,[],ok,_,_=>ok.elim
theorem aEY(x y:Str)(t:Tok):mR (.inr x) (.str y t)=(x==y):=by
 have h:(y==x)=(x==y):=by
  rw[Bool.eq_iff_iff];constructor<;>intro z<;>simp at z ⊢ <;> exact z.symm
 simp[mR,Value.isStrOf,h]
theorem aA4{w:zx}{k:Str}{v:Tv}:∀ {l:List DictEntry}{aK:List (Str×Tv)},oX w l aK->aK.lookup k=qq v->∃ u,(l.find? λ e=>mR (.inr k) e.key).map (·.val)=qq u/\aX v.v u
 | [],[],_,h=>by cases h
 | e::r,(x,v')::aK,ok,h=>by
   obtain⟨h1,⟨t,h2⟩,h3,h4⟩:=ok;rw[yBe] at h;rw[yDk,h2,aEY];cases q:k==x with
   | true =>
     rw[q] at h;cases h;exact⟨e.val,rfl,h3⟩
   | false =>
     rw[q] at h;exact aA4 h4 h
 | [],_::_,ok,_=>ok.elim
 | _::_,[],ok,_=>ok.elim
section
variable {X : Cx}
theorem aNZ{aK:List (Str×Tv)}:kZ X (λ x y H Q=>∃ a k v,x=.ref a/\mV X.K X.w a aK/\y=.str k/\aK.lookup k=qq v/\Q v.v H):=by
 intro value slice aA s σ H x y v u Q I rx ry h hs;obtain⟨a,k,tv,rfl,⟨_,es,ep,hl,ok⟩,rfl,hv,q⟩:=h;cases rx;obtain⟨t,rfl⟩:=ry;obtain⟨z,e1,e2⟩:=aA4 ok hv;have hm:s.heap.MapOf (gS X.prog X.w) a (λ k=>findBy (gS X.prog X.w).is es k):=⟨_,es,ep,I.kIn a _ hl,⟨rfl,rfl,rfl⟩,rfl,λ e he=>aBn ok e (by simpa using he),λ _=>rfl⟩
 have hz:findBy (gS X.prog X.w).is es (.inr k)=qq z:=by
  unfold findBy;rw[<- yFl];exact e1
 exact tail_any hm.typeIs PySem.F.slot_dict_getitem.lookup (wpAny_getItem_of (aAW k t) hm hz ⟨_,H,I.tok _,e2,q⟩) hs
theorem aRa{x:Str}{k:qw}{fk:FE}{p pos:Pos}{aK:List (Str×Tv)}(hg:Gl X x)(hd:(x==("__debug__" : Str))=false)(ht:∃ a,X.mg x=qq (.ref a)/\mV X.K X.w a aK)(hk:PE X k (aI X.K fk))(hs:xJ k) :
 PE X (.Subscript (.Name x p) k pos) (aI X.K (f1 fk (eC (zP aK)))):=by
 obtain⟨a,hm,ta⟩:=ht;refine PE.weak (aG9 (aNZ (aK:=aK)) (tD (v:=.ref a) hg hm rfl hd) hk hs) λ σ H Q hPq40=>?_
 obtain⟨F,L,S,env,w,S',R,E,e,q⟩:=hPq40;obtain⟨⟨w1,S1⟩,e1,e2⟩:=bind_some e;obtain⟨d,z,e3,e4,rfl,rfl⟩:=qA e2;cases d with
 | str y =>
   obtain⟨v,hv,rfl⟩:=Option.map_eq_some_iff.mp (show(aK.lookup y).map Tv.d=qq z from e4)
   refine⟨F,L,S,env,w1,_,R,E,e1,λ F1 L1 H1 u g1 R1 d1=>⟨a,y,v,rfl,ta,(fY R1 d1 e3).str,hv,?_⟩⟩
   exact q F1 L1 H1 v.v g1 R1 (show Den X.K F1 v.d v.v from v.den)
 | _=>cases e4
end
section
variable {prog : zq}{w : zx}{A : zv}{s : qj}{R : Result -> qj -> Prop}{J : qv}{fp wr : List qv}{Gg : Array GenState -> Array GenState -> Prop}{m : Nat}{P : Nat -> qx -> Prop}{St : Nat -> qj -> Prop}
end
section
variable {prog : zq}{w : zx}{A : zv}{E : qx -> qj -> Prop}{s : qj}{J : qv}{fp wr : List qv}{Gg : Array GenState -> Array GenState -> Prop}{m : Nat}{P : Nat -> qx -> Prop}{St : Nat -> qj -> Prop}
end
section
variable {X : Cx}
end
noncomputable def yY:List qx->List Tv->Prop
 | [],[]=>True
 | u::us,t::ts=>aX t.v u/\yY us ts
 | _,_=>False
theorem aE2:∀ {us:List qx}{ts:List Tv},yY us ts->aT (ts.map Tv.v) us
 | [],[],_=>.nil
 | _::_,_::_,⟨h1,h2⟩=>.cons h1 (aE2 h2)
 | [],_::_,h=>h.elim
 | _::_,[],h=>h.elim
theorem aFp{K:FrG}{F:Hp}:∀ ts:List Tv,DenL K F (ts.map Tv.d) (ts.map Tv.v)
 | []=>.nil
 | t::ts=>.cons t.den (aFp ts)
def oS(K:FrG)(a:qv)(ts:List Tv):Prop:=∃ (o:Obj) (its:Array qx) (n:Nat),K.lookup a=qq o/\o.cls=.type "tuple" /\ o.data=.seq its n/\its.size<=qk/\yY its.toList ts
theorem aL0{K:FrG}{F:Hp}{a:qv}{ts:List Tv}(h:oS K a ts):Den K F (.tuple (ts.map Tv.d)) (.ref a):=by
 obtain⟨o,its,n,h1,h2,h3,h4,h5⟩:=h;exact .tup (.inr ⟨o,its,n,h1,h2,h3,h4,aE2 h5⟩) (aFp ts)
section
variable {X : Cx}
theorem aPU{x:Str}{p:Pos}{ts:List Tv}(hg:Gl X x)(hd:(x==("__debug__" : Str))=false)(ht:∃ a,X.mg x=qq (.ref a)/\oS X.K a ts):PE X (.Name x p) (aI X.K (fC (.tuple (ts.map Tv.d)))):=by
 obtain⟨a,hm,ca⟩:=ht;refine PE.weak (tD (v:=.ref a) hg hm rfl hd) λ σ H Q hPq41=>?_
 obtain⟨F,L,S,env,w,S',R,E,e,q⟩:=hPq41;cases e;exact q F L H _ Gr.refl R (aL0 ca)
noncomputable def lM(op op':jx)(fa fb fc:FE):FE:=λ env S=>(fa env S).bind λ p=>(fb env p.2).bind λ q=>(gN (bA op) q.2 p.1 q.1).bind λ r=>match r.1 with
 | .d (.bool true)=>(fc env r.2).bind λ t=>gN (bA op') t.2 q.1 t.1
 | .d (.bool false)=>qq (.d (.bool false),r.2)
 | _=>qz
theorem aEa{op:jx}{x y z:D}(h:bA op x y=qq z):∃ k,z=.bool k:=by
 unfold bA at h;obtain⟨k,_,rfl⟩:=Option.map_eq_some_iff.mp h;exact⟨k,rfl⟩
theorem aFr{op op':jx}{fa fb fc:FE}(σ:L2.St)(H:Hp)(Q:VK)(h:aI X.K (lM op op' fa fb fc) σ H Q):aB1 (nN X (bA op)) (nN X (bA op')) (aI X.K fa) (aI X.K fb) (aI X.K fc) σ H Q:=by
 obtain⟨F,L,S,env,w,S',R,E,e,q⟩:=h;obtain⟨⟨wx,S1⟩,ea,e⟩:=bind_some e;obtain⟨⟨wy,S2⟩,eb,e⟩:=bind_some e;obtain⟨⟨wr,S3⟩,er,e⟩:=bind_some e;dsimp only at e eb er;obtain⟨a,b,z,e1,e2,e3,rfl,rfl⟩:=nX er;obtain⟨k,rfl⟩:=aEa e3;refine⟨F,L,S,env,wx,S1,R,E,ea,λ F1 L1 H1 x g1 R1 d1=>⟨F1,L1,S1,env,wy,S3,R1,E.mono g1,eb,λ F2 L2 H2 y g2 R2 d2=>?_⟩⟩
 refine lN F2 L2 S3 H2 x y wx wy (.d (.bool k)) S3 _ R2 (d1.mono g2) d2 er λ F3 L3 H3 v g3 R3 d3=>?_
 have d3':Den X.K F3 (.bool k) v:=d3;cases d3';refine⟨k,rfl,?_⟩;cases k with
 | false =>
   dsimp only at e;cases e;rw[if_neg (by decide)]
   exact q F3 L3 H3 _ ((g1.trans g2).trans g3) R3 d3
 | true =>
   dsimp only at e;obtain⟨⟨wz,S4⟩,ec,e⟩:=bind_some e;rw[if_pos rfl];exact⟨F3,L3,S3,env,wz,S4,R3,((E.mono g1).mono g2).mono g3,ec,λ F4 L4 H4 w' g4 R4 d4=>lN F4 L4 S4 H4 y w' wy wz w S' Q R4 ((d2.mono g3).mono g4) d4 e λ F5 L5 H5 v g5 R5 d5=>q F5 L5 H5 v ((((g1.trans g2).trans g3).trans g4).trans g5) R5 d5⟩
theorem aJh{op op':jx}{fa fb fc:FE}{env:aV}{S S':aC}{w:W}(e:lM op op' fa fb fc env S=qq (w,S')):∃ k,w=.d (.bool k):=by
 obtain⟨⟨wx,S1⟩,ea,e⟩:=bind_some e;obtain⟨⟨wy,S2⟩,eb,e⟩:=bind_some e;obtain⟨⟨wr,S3⟩,er,e⟩:=bind_some e;dsimp only at e
 split at e
 ·obtain⟨⟨wz,S4⟩,ec,e⟩:=bind_some e;obtain⟨a,b,z,e1,e2,e3,rfl,rfl⟩:=nX e;obtain⟨k,rfl⟩:=aEa e3;exact⟨k,rfl⟩
 ·cases e;exact⟨false,rfl⟩
 ·cases e
theorem aMi{a b c:qw}{op op':jx}{pos:Pos}{fa fb fc:FE}(hu:X.A.units+64<cLine)(ha:PE X a (aI X.K fa))(hb:PE X b (aI X.K fb))(hc:PE X c (aI X.K fc))(hm:lastMarks [op,op'] [b,c]=false):PE X (.Compare a [op,op'] [b,c] pos) (aI X.K (lM op op' fa fb fc)):=
 PE.weak (aLi (qC hu) (qC hu) ha hb hc hm) aFr
theorem aKN{a b c:qw}{op op':jx}{pos:Pos}{fa fb fc:FE}(hu:X.A.units+64<cLine)(ha:PE X a (aI X.K fa))(hb:PE X b (aI X.K fb))(hc:PE X c (aI X.K fc))(hm:lastMarks [op,op'] [b,c]=false):PT X (.Compare a [op,op'] [b,c] pos) (eP X.K (cQ (lM op op' fa fb fc))):=
 PT.weak (aKy (qC hu) (qC hu) ha hb hc hm) λ σ H Q aM=>by
  obtain⟨F,L,S,env,b,S',R,E,e,q⟩:=aM;obtain⟨w,d,e1,e2,e3⟩:=wT e;obtain⟨kk,rfl⟩:=aJh e1;cases e2;have e3':qq kk=qq b:=e3;cases e3';refine aFr σ H _ ⟨F,L,S,env,_,S',R,E,e1,λ F1 L1 H1 v g1 R1 d1=>?_⟩
  have d1':Den X.K F1 (.bool b) v:=d1;cases d1';exact⟨b,rfl,q F1 L1 H1 g1 R1⟩
theorem aIg{prog:zq}{w:zx}{A:zv}{E:qx->qj->Prop}{s:qj}{t sl:qv}{aP:Array qx}{vl vu:qx}{lo hi:Option Int}{Q:qx->qj->Prop}(ht:IsTup s.heap t aP)(hs:s.heap.IsSliceOf sl vl vu .none)(pl:IsPart vl lo)(pu:IsPart vu hi)
 (hw:HT.sIx aP.size 0 lo=0/\HT.sIx aP.size aP.size hi=aP.size) (h:Q (.ref t) s):qu (model prog w) A (getItem (.ref t) (.ref sl)) Q E s:=by
 obtain⟨os,hos,hcs,hds⟩:=id hs;have hTs:s.TypeIs (.ref sl) "slice":=⟨os,hos,hcs⟩;unfold getItem
 try with_reducible refine xq ?_
 first | refine wB (wP ?_) | skip
 refine wB (wpAny_sequenceKey ht.typeIs (by decide) ?_)
 refine wB (wpAny_callSpecial?_slot (name:=Str.ofString "__getitem__") ht.typeIs yBz
  (vq yBz ht.typeIs entry_tuple_getitem ?_ (args_tuple_getitem _ _)))
 show qu _ _ (yFj (.ref t) >>= _) _ _ s;refine wB (tupleItemsOf_ ht ?_);refine wB (wpAny_typeOf hTs ?_);rw[if_pos (by decide)]
 refine wB (HT.sliceApplied_gen hs pl pu ?_);have hyes:(((HT.sIx aP.size 0 lo:Nat):Int)==0&&(1:Int)==1&&(HT.sIx aP.size aP.size hi-HT.sIx aP.size 0 lo)==aP.size)=true:=by
  rw[hw.1,hw.2];simp
 show qu _ _ (if (((HT.sIx aP.size 0 lo:Nat):Int)==0&&(1:Int)==1&&(HT.sIx aP.size aP.size hi-HT.sIx aP.size 0 lo)==aP.size)=true then _ else _) _ _ s
 rw[if_pos hyes];unfold Builtin.Tuple.tupleIsExact;refine wB (wB (wpAny_typeOf ht.typeIs (wP ?_)));rw[if_pos (by decide)]
 first
  | exact wB (yy (wP ⟨_,rfl,wP h⟩))
  | exact wB (yy (wB (wP (wP ⟨_,rfl,wP h⟩))))
  | exact wB (yy (wP ⟨_,rfl,h⟩))
noncomputable def aQg(K:FrG):V->Option Int->Option Int->Hp->VK->Prop:=λ x lo hi H Q=>∃ a xs,x=.ref a/\bV K H a xs /\
 (((HT.sIx xs.length 0 lo=0/\HT.sIx xs.length xs.length hi=xs.length)/\Q (.ref a) H)\/(¬ (HT.sIx xs.length 0 lo=0/\HT.sIx xs.length xs.length hi=xs.length)/\∀ p,H p=qz->Q (.ref p) (aW H p (.tup (lU xs lo hi)))))
theorem aMf:lZ X (aQg X.K):=by
 intro aA s σ H x v vl vu lo hi sl Q I rx hs pl pu h;obtain⟨a,xs,rfl,hx,⟨hw,q⟩ | ⟨hw,q⟩⟩:=h
 ·cases rx;obtain⟨its,r,ht,hz⟩:=I.tuple hx;have cE:its.toArray.size=xs.length:=by rw[yAg];exact r.length.symm
  refine⟨"tuple",_,PyProof.Rows.slot_tuple_getitem.lookup,ht.typeIs,?_⟩;exact aIg ht hs pl pu (by rw[cE];exact hw) ⟨.ref a,H,I,rfl,q⟩
 ·exact aPh aA s σ H _ v vl vu lo hi sl Q I rx hs pl pu ⟨a,xs,rfl,hx,hw,q⟩
noncomputable def aHJ:D->Option Int->Option Int->Option D
 | .tuple xs,lo,hi=>qq (.tuple (cK xs lo hi))
 | _,_,_=>qz
noncomputable def aHa(fa:FE)(fl fh:FO):FE:=λ env S=>(fa env S).bind λ p=>(fl env p.2).bind λ q=>(fh env q.2).bind λ r=>(dr r.2 p.1).bind λ d=>(aHJ d q.1 r.1).bind λ z=>qq (.d z,r.2)
theorem aPD{a:qw}{lo hi:Option qw}{p2 pos:Pos}{fa:FE}{fl fh:FO}(ha:PE X a (aI X.K fa))(hl:PO X lo (jA X.K fl))(hh:PO X hi (jA X.K fh)):PE X (.Subscript a (.Slice lo hi qz p2) pos) (aI X.K (aHa fa fl fh)):=
 PE.weak (aA7 aMf ha hl hh) λ σ H Q aM=>by
  obtain⟨F,L,S,env,ds,S',R,E,e,q⟩:=aM;obtain⟨⟨w,S1⟩,e1,e⟩:=bind_some e;obtain⟨⟨l,S2⟩,e2,e⟩:=bind_some e;obtain⟨⟨h,S3⟩,e3,e⟩:=bind_some e;obtain⟨d,e4,e⟩:=bind_some e;obtain⟨z,e5,e⟩:=bind_some e;cases e;refine⟨F,L,S,env,w,S1,R,E,e1,λ F1 L1 H1 v g1 R1 d1=>⟨F1,L1,S1,env,l,S2,R1,E.mono g1,e2,λ F2 L2 H2 g2 R2=>⟨F2,L2,S2,env,h,S3,R2,E.mono (g1.trans g2),e3,λ F3 L3 H3 g3 R3=>?_⟩⟩⟩
  have n:=fY R3 (d1.mono (g2.trans g3)) e4;cases d with
  | tuple xs =>
    cases e5;obtain⟨a,vs,rfl,sq,dl⟩:=n.tup R3.sub;refine⟨a,vs,rfl,sq,?_⟩
    by_cases hw:HT.sIx vs.length 0 l=0/\HT.sIx vs.length vs.length h=vs.length
    ·refine .inl ⟨hw,q F3 L3 H3 _ ((g1.trans g2).trans g3) R3 ?_⟩;have ec:cK xs l h=xs:=by
      unfold cK;rw[dl.length,hw.1,hw.2,yDb,yFy,<- dl.length,yAf]
     rw[ec];rcases n with n | ⟨_,_,_,z,_⟩
     ·exact n
     ·cases z
    ·exact .inr ⟨hw,λ p hp=>q _ L3 _ _ (((g1.trans g2).trans g3).trans (Gr.new (R3.sub.free hp))) (R3.new hp) (Den.tup (bV.of cA) ((aFs dl l h).mono (eZ (R3.sub.free hp))))⟩
  | _=>cases e5
end
structure ZA(z TI TO i1 i2:qv)(fp1 fp2:List qv):Prop where
 TIz:TI≠z
 TOz:TO≠z
 i1z:i1≠z
 i2z:i2≠z
 TITO:TI≠TO
 TIi1:TI≠i1
 TIi2:TI≠i2
 TOi1:TO≠i1
 TOi2:TO≠i2
 f1:∀ b∈fp1,b≠z/\b≠TO/\b≠i2
 f2:∀ b∈fp2,b≠z/\b≠TO/\b≠i1
section
variable {prog : zq}{w : zx}{A : zv}{E : qx -> qj -> Prop}{s : qj}
end
def uT(t:Bool)(h:Heap)(a:qv)(its:Array qx):Prop:=match t with
 | true=>h.IsTuple a its
 | false=>h.IsList a its
def nT(t:Bool)(h:Heap)(it a:qv)(i:Nat):Prop:=match t with
 | true=>h.IsTupleIter it a i
 | false=>h.IsListIter it a i
theorem nT.at{t:Bool}{h h':Heap}{it a:qv}{i:Nat}(x:nT t h it a i)(q:∀ o,h.get? it=qq o->h'.get? it=qq o):nT t h' it a i:=by
 cases t with
 | true=>exact Heap.IsTupleIter.at (h:=h) x q
 | false=>exact Heap.IsListIter.at (h:=h) x q
theorem nT.obj{t:Bool}{h:Heap}{it a:qv}{i:Nat}(x:nT t h it a i):∃ o,h.get? it=qq o/\∀ v,o.data≠.cell v:=by
 cases t with
 | true=>obtain⟨o,ho,hc,hd⟩:=x;exact⟨o,ho,λ v z=>by rw[hd] at z;cases z⟩
 | false=>obtain⟨o,ho,hc,hd⟩:=x;exact⟨o,ho,λ v z=>by rw[hd] at z;cases z⟩
theorem uT.lt{t:Bool}{h:Heap}{a:qv}{its:Array qx}(x:uT t h a its):a<h.objs.size:=by
 cases t with
 | true=>obtain⟨o,ho,_⟩:=x;exact xAa ho
 | false=>obtain⟨o,ho,_⟩:=x;exact xAa ho
section
variable {prog : zq}{w : zx}{A : zv}{E : qx -> qj -> Prop}{s : qj}
theorem uT.push{t:Bool}{h:Heap}{a:qv}{its:Array qx}(x:uT t h a its)(o:Obj):uT t (h.push o) a its:=by
 cases t with
 | true=>obtain⟨o,ho,r⟩:=x;exact⟨o,hpS _ ho,r⟩
 | false=>obtain⟨o,ho,r⟩:=x;exact⟨o,hpS _ ho,r⟩
end
section
variable {X : Cx}
noncomputable def aHH:List D->List D->List D
 | a::as,b::bs=>.tuple [a,b]::aHH as bs
 | _,_=>[]
end
section
variable {X : Cx}
noncomputable def aCN:W->Option (List D)
 | .d (.list ds)=>qq ds
 | .d (.tuple ds)=>qq ds
 | _=>qz
noncomputable def aRV(fa fb:FE):FL:=λ env S=>(fa env S).bind λ p=>(fb env p.2).bind λ q=>(aCN p.1).bind λ ds=>(aCN q.1).bind λ es=>qq (aHH ds es,q.2)
end
structure ZB(z TI TO i1 i2 i3:qv)(fp1 fp2 fp3:List qv):Prop where
 TIz:TI≠z
 TOz:TO≠z
 i1z:i1≠z
 i2z:i2≠z
 i3z:i3≠z
 TITO:TI≠TO
 TIi1:TI≠i1
 TIi2:TI≠i2
 TIi3:TI≠i3
 TOi1:TO≠i1
 TOi2:TO≠i2
 TOi3:TO≠i3
 f1:∀ b∈fp1,b≠z/\b≠TO/\b≠i2/\b≠i3
 f2:∀ b∈fp2,b≠z/\b≠TO/\b≠i1/\b≠i3
 f3:∀ b∈fp3,b≠z/\b≠TO/\b≠i1/\b≠i2
section
variable {prog : zq}{w : zx}{A : zv}{E : qx -> qj -> Prop}{s : qj}
end
section
variable {prog : zq}{w : zx}{A : zv}{E : qx -> qj -> Prop}{s : qj}
end
section
variable {X : Cx}
end
section
variable {X : Cx}
end
section
open PySem.SeqAt
open PySem.AutoSeq1 (wpAny_loadPart')
open PySem.MeetsSeq PySem.MeetsSeq2 PySem.MeetsSeq3
theorem qF:∀ {vs:List qx}{ns:List Int}{i:Nat},IntsAre vs ns->i<vs.length->∃ a t,vs[i]? = qq (.int a t)/\ns.drop i=a::ns.drop (i+1)
 | _,_,i,.nil,h=>absurd h (Nat.not_lt_zero i)
 | _,_,0,.cons a t _,_=>⟨a,t,rfl,rfl⟩
 | _,_,i+1,.cons a t r,h=>by
   obtain⟨b,u,h1,h2⟩:=qF (i:=i) r (by simpa using h)
   exact⟨b,u,by simpa using h1,by simpa using h2⟩
end
section
variable {prog : zq}{w : zx}{A : zv}{E : qx -> qj -> Prop}{s : qj}
end
section
variable {X : Cx}
end
section
variable {X : Cx}
end
section
variable {X : Cx}
end
section
variable {X : Cx}
end
section
variable {X : Cx}{tg : qw}
end
abbrev aPm(h:Heap)(z TI TO a:qv)(f:Bool):Prop:=
 h.get? z=qq {cls:=.type "zip",dict:=qz,data:=.fields #[jy a,.bool f,.bool false,.ref TI,.ref TO],slots:=#[] }
section
variable {prog : zq}{w : zx}{A : zv}{E : qx -> qj -> Prop}{s : qj}
end
structure ZW(X:Cx)(aA:List (qv×Obj))(σ:L2.St)(F1:Hp)(L1:List qv)(S1:aC)(SA z TI TO i1 i2:qv)(ds:List D)(H F:Hp)(vs:List V)(s:qj):Prop where
 inv:Inv X aA σ H s
 same:bY F1 F
 rel:Rel X.K F L1 S1 H
 free:F SA=qz
 lst:H SA=qq (.lst vs)
 den:DenL X.K F ds vs
 fp:∀ c∈[z,TI,TO,i1,i2],gY X aA H c
structure ZH(z TI TO i1 i2 a b:qv)(t u:Bool)(i:Nat)(h:Heap):Prop where
 ti:IsPair h TI (.ref i1) (.ref i2)
 q1:nT t h i1 a i
 q2:nT u h i2 b i
 to:∃ o,h.get? TO=qq o
 z:(IsZip h z TI TO .none/\∃ x y,IsPair h TO x y)\/∃ a0 f,aPm h z TI TO a0 f/\∃ o,h.get? a0=qq o
theorem ZH.keep{z TI TO i1 i2 a b:qv}{t u:Bool}{i:Nat}{h h':Heap}(x:ZH z TI TO i1 i2 a b t u i h)(k:∀ c o,c∈[z,TI,TO,i1,i2]->h.get? c=qq o->h'.get? c=qq o)(k2:∀ c o,h.get? c=qq o->∃ o',h'.get? c=qq o'):ZH z TI TO i1 i2 a b t u i h':=by
 refine⟨k _ _ (by simp) x.ti,x.q1.at λ o e=>k _ _ (by simp) e,x.q2.at λ o e=>k _ _ (by simp) e,let ⟨o,e⟩:=x.to;k2 _ _ e,?_⟩
 rcases x.z with ⟨y,p,q,r⟩ | ⟨a0,f,y,o,e⟩
 ·exact .inl ⟨k _ _ (by simp) y,p,q,k _ _ (by simp) r⟩
 ·exact .inr ⟨a0,f,k _ _ (by simp) y,k2 _ _ e⟩
section
variable {X : Cx}{aA : List (qv×Obj)}{σ : L2.St}{F1 : Hp}{L1 : List qv}{S1 : aC}{SA z TI TO i1 i2 a b : qv}{t u : Bool}{ds : List D}{H F : Hp}{vs : List V}{s : qj}{xs ys : List V}{ds1 ds2 : List D}{A : zv}{E : qx -> qj -> Prop}{i : Nat}
end
section
variable {prog : zq}{w : zx}{A : zv}{s : qj}{R : Result -> qj -> Prop}{z TI TO : qv}{f0 : qx}
end
section
variable {prog : zq}{w : zx}{A : zv}{E : qx -> qj -> Prop}{s : qj}{z TI TO : qv}{f0 : qx}
end
section
variable {X : Cx}
end
section
variable {prog : zq}{w : zx}{A : zv}{E : qx -> qj -> Prop}{s : qj}
end
section
variable {X : Cx}{tg : qw}
end
section
variable {X : Cx}
end
noncomputable def Itx(z:Str):It:=⟨λ i _=>i<z.cps.size,λ i H x H'=>H'=H/\∃ c,z.cps[i]? = qq c/\x=.str ⟨#[c]⟩,λ i _=>z.cps.size<=i⟩
theorem aKe{P:zq}{w:zx}{K:FrG}{tg:qw}(it:qv)(z:Str)(t:Tok)(n:String)(hn:n = "str_ascii_iterator" \/ n = "str_iterator"):Turn P w K tg (Itx z) [it] it (λ i h=>h.IsStrIter it n z t i) where
 mem:=by simp
 obj:=λ i h st b hb=>by
  have e:b=it:=by simpa using hb
  subst e;obtain⟨o,e,c,d⟩:=st;exact⟨o,e,λ v z=>by rw[d] at z;cases z⟩
 keep:=λ i h h' st k=>by
  obtain⟨o,e,r⟩:=st;exact⟨o,k it (by simp) o e,r⟩
 item:=by
  intro X hP hw hK hc i aA s σ H E I hf st hg;subst hP hw hK;obtain⟨f0,f1,f2,f3,f4,f5⟩:=hf it (by simp)
  have hg:i<z.cps.size:=hg;have bI:∀ h',h'.IsStrIter it n z t (i+1)->yDe it s.heap h'->∃ u,qq (Value.str ⟨#[z.cps[i]]⟩ s.toks)=qq u/\qu (model X.prog X.w) X.A (vj tg (.ref it) u) (λ _ s2=>∃ x H',Inv X aA σ H' s2/\aX x u/\(Itx z).yld i H x H'/\s2.heap.IsStrIter it n z t (i+1)/\∀ b∈[it],H' b=qz) E {s with heap:=h',toks:=s.toks+1 }:=λ h' st' sb=>by
   have I1:Inv X aA σ H {s with heap:=h',toks:=s.toks+1 }:=I.turned (λ b o hb e=>(sb.2 b hb).trans e) f0 f1 f3 f4 f5
   obtain⟨o,e,c,d⟩:=id st';exact⟨_,rfl,yS (s:={s with heap:=h',toks:=s.toks+1 }) e c d (by rcases hn with rfl | rfl<;>decide) ⟨.str ⟨#[z.cps[i]]⟩,H,I1,⟨_,rfl⟩,⟨rfl,z.cps[i],by simp[hg],rfl⟩,st',λ b hb=>(hf b hb).1⟩⟩
  rcases hn with rfl | rfl
  ·exact wpAny_pyNext_ascii_item st (c:=z.cps[i]) (by simp[hg]) bI
  ·exact wpAny_pyNext_wide_item st (c:=z.cps[i]) (by simp[hg]) bI
 done:=by
  intro X hP hw hK hc i aA s σ H E I hf st hg;subst hP hw hK;obtain⟨f0,f1,f2,f3,f4,f5⟩:=hf it (by simp)
  have hg:z.cps.size<=i:=hg;rcases hn with rfl | rfl
  ·exact wpAny_pyNext_ascii_end (I.ok.hd hc) st (by simp[hg]) λ h' eb=>⟨rfl,I.turned (t':=s.toks) (λ b o hb e=>eb b o hb e) f0 f1 f3 f4 f5⟩
  ·exact wpAny_pyNext_wide_end (I.ok.hd hc) st (by simp[hg]) λ h' eb=>⟨rfl,I.turned (t':=s.toks) (λ b o hb e=>eb b o hb e) f0 f1 f3 f4 f5⟩
 self:=λ _ _ _ _ _ st h=>by
  rcases hn with rfl | rfl
  ·exact wpAny_pyIter_striter_ascii st h
  ·exact wpAny_pyIter_striter_wide st h
section
variable {X : Cx}
def aQX(tl:TE):TI:=λ σ H R=>tl σ H λ x H1=>∃ z,x=.str z/\R (Itx z) H1
theorem aIU(z:Str):strIterType z = "str_ascii_iterator" \/ strIterType z = "str_iterator":=by
 unfold strIterType
 split
 ·exact .inl rfl
 ·exact .inr rfl
theorem aMa{tg l:qw}{tl:TE}(hl:PE X l tl):PI X tg l (aQX tl):=by
 intro aA s σ H R I h;refine aZ (hl aA s σ H _ I h) λ v s1 hPq42=>?_
 obtain⟨x,H1,I1,r1,q1⟩:=hPq42;obtain⟨z,e,q⟩:=q1;subst e;obtain⟨t,rfl⟩:=r1;refine wpAny_pyIter_strU ?_;refine⟨s1.heap.objs.size,[s1.heap.objs.size],_,_,H1,rfl,I1.kept (t':=s1.toks) λ b o e=>hpS _ e,aKe _ z t (strIterType z) (aIU z),⟨_,xAe _ rfl,rfl,rfl⟩,λ b hb=>?_,q⟩
 have e:b=s1.heap.objs.size:=by simpa using hb
 subst e;exact I1.fpOk (yAe _) (I1.hok.fresh (yAe _))
noncomputable def nC(c:Nat):D:=.str ⟨#[c]⟩
theorem aLv{K:FrG}{F:Hp}{L:List qv}(z:Str):Wk K F L (Itx z) (z.cps.toList.map nC) where
 go:=λ i H s hi=>by
  have:i<z.cps.size:=by simpa using hi
  exact this
 stop:=λ H s=>by
  show z.cps.size<=(z.cps.toList.map nC).length;simp
 yld:=λ i H F1 L1 S x H' d g R e y=>by
  obtain⟨rfl,c,hc,rfl⟩:=y;rw[xAb,Array.getElem?_toList,hc] at e;cases e;exact⟨F1,bY.refl _,R,.str _⟩
noncomputable def rO(fa:FE):FL:=λ env S=>(fa env S).bind λ p=>match p.1 with
 | .d (.str z)=>qq (z.cps.toList.map nC,p.2)
 | _=>qz
theorem aQ0{tg a:qw}{fa:FE}(ha:PE X a (aI X.K fa)):PI X tg a (jF X.K (rO fa)):=PI.weak (aMa ha) λ σ H Rr aM=>by
 obtain⟨F,L,S,env,ds,S',R,E,e,q⟩:=aM;obtain⟨⟨w,S1⟩,e1,e2⟩:=bind_some e;dsimp only at e2
 split at e2
 ·cases e2;refine⟨F,L,S,env,_,_,R,E,e1,λ F1 L1 H1 v g1 R1 d1=>?_⟩
  rename_i z;cases (show Den X.K F1 (.str z) v from d1)
  exact⟨z,rfl,q F1 L1 H1 _ g1 R1 (aLv z)⟩
 ·cases e2
noncomputable def eI(x y:Str):Bool:=!(Builtin.Str.occurrences y x 0 y.length 1).isEmpty
noncomputable def lW(n:Bool):D->D->Option D
 | .str x,.str y=>qq (.bool (if n=true then !eI x y else eI x y))
 | _,_=>qz
noncomputable def oQ:Bool->jx
 | true=>.NotIn
 | false=>.In
theorem aGb(n:Bool):cC X (zo (oQ n)) (nN X (lW n)):=by
 rintro aA s σ H x y v u Q I rx ry ⟨F,L,S,dx,dy,z,R,nx,ny,e,q⟩;unfold lW at e
 split at e
 ·cases e;cases nx.str;cases ny.str;obtain⟨t,rfl⟩:=rx;obtain⟨t',rfl⟩:=ry;cases n
  ·exact P.in_str ⟨.bl _,H,I,rfl,q.here R (.bl _)⟩
  ·exact P.notIn_str ⟨.bl _,H,I,rfl,q.here R (.bl _)⟩
 ·cases e
noncomputable def kX(n:Bool)(fa fb:FE):FE:=f2 fa fb (gN (lW n))
theorem aQc{n:Bool}{a b:qw}{pos:Pos}{fa fb:FE}(ha:PE X a (aI X.K fa))(hb:PE X b (aI X.K fb))(hm:jv (oQ n) b=false):PE X (.Compare a [oQ n] [b] pos) (aI X.K (kX n fa fb)):=
 PE.weak (aBy (aGb n) ha hb hm) (pJ lN)
theorem aO4{n:Bool}{a b:qw}{pos:Pos}{fa fb:FE}(ha:PE X a (aI X.K fa))(hb:PE X b (aI X.K fb))(hm:jv (oQ n) b=false):PT X (.Compare a [oQ n] [b] pos) (eP X.K (cQ (kX n fa fb))):=
 PT.weak (aFW (aGb n) ha hb hm) λ σ H Q aM=>by
  obtain⟨F,L,S,env,b,S',R,E,e,q⟩:=aM;obtain⟨w,d,e1,e2,e3⟩:=wT e;refine pJ (fa:=fa) (fb:=fb) (g:=gN (lW n)) lN σ H _ ⟨F,L,S,env,w,S',R,E,e1,λ F1 L1 H1 v g1 R1 d1=>?_⟩
  have hc:∃ c,w=.d (.bool c):=by
   obtain⟨p,ea,e1⟩:=bind_some e1;obtain⟨p2,eb,e1⟩:=bind_some e1;obtain⟨_,_,z,_,_,e6,rfl,_⟩:=nX e1;unfold lW at e6
   split at e6
   ·cases e6;exact⟨_,rfl⟩
   ·cases e6
  obtain⟨c,rfl⟩:=hc;cases e2;cases e3;cases (show Den X.K F1 (.bool b) v from d1)
  exact⟨_,rfl,q F1 L1 H1 g1 R1⟩
noncomputable def rH:D->Option D
 | .int i=>if i.natAbs.log2<1920 then qq (.str (toString i)) else qz
 | .str x=>qq (.str x)
 | _=>qz
noncomputable def rF:D->Option D
 | .str x=>if x.length<=640 then (PySem.intText? x).bind λ n=>qq (.int n) else qz
 | _=>qz
noncomputable def rD1(X:Cx)(g:D->Option D):List V->Hp->VK->Prop:=λ xs H Q=>∃ F L S d z x,xs=[x]/\Rel X.K F L S H/\bO X.K F H d x/\g d=qq z/\eW X F L S z Q
theorem aJ9:cN X (.type "str") (rD1 X rH):=by
 rintro aA s σ H xs us Q I r ⟨F,L,S,d,z,x,ex,R,nx,e,q⟩;subst ex;obtain⟨u,rfl,ru⟩:=fM r;unfold rH at e
 split at e
 ·split at e
  ·rename_i i hi;cases e;cases nx.int;obtain⟨t,rfl⟩:=ru;exact PySem.P.str_of_int hi ⟨.str _,H,I.tok _,⟨_,rfl⟩,q.here R (.str _)⟩
  ·cases e
 ·cases e;cases nx.str;obtain⟨t,rfl⟩:=ru;exact P.str_of_str ⟨.str _,H,I,⟨_,rfl⟩,q.here R (.str _)⟩
 ·cases e
theorem aJB:cN X (.type "int") (rD1 X rF):=by
 rintro aA s σ H xs us Q I r ⟨F,L,S,d,z,x,ex,R,nx,e,q⟩;subst ex;obtain⟨u,rfl,ru⟩:=fM r;unfold rF at e
 split at e
 ·split at e
  ·rename_i y hy;obtain⟨n,e1,e2⟩:=bind_some e;cases e2;cases nx.str;obtain⟨t,rfl⟩:=ru;exact PySem.W.KIN.call_text e1 hy ⟨.int n,H,I.tok _,⟨_,rfl⟩,q.here R (.int _)⟩
  ·cases e
 ·cases e
theorem aG5{g:D->Option D}{fa:FE}(σ:L2.St)(H:Hp)(Q:VK)(h:aI X.K (f1 fa (eC g)) σ H Q):vP (rD1 X g) (dC X.K (cJ fa gD)) σ H Q:=by
 obtain⟨F,L,S,env,w,S',R,E,e,q⟩:=h;obtain⟨⟨w1,S1⟩,e1,e2⟩:=bind_some e;obtain⟨d,z,e3,e4,rfl,rfl⟩:=qA e2;refine⟨F,L,S,env,[w1],_,R,E,by unfold cJ;rw[e1];rfl,λ F1 L1 H1 vs g1 R1 d1=>?_⟩
 cases d1 with
 | cons dd dr =>
   cases dr;exact⟨F1,L1,_,d,z,_,rfl,R1,fY R1 dd e3,e4,tI X rfl λ F2 L2 H2 v2 g2 R2 d2=>q F2 L2 H2 v2 (g1.trans g2) R2 d2⟩
noncomputable def aHp:V->List V->Hp->VK->Prop:=λ x xs H Q=>∃ a y,x=.str a/\xs=[.str y]/\(y.length==0)=false/\a.length+2<=qk/\∀ p,H p=qz->Q (.ref p) (aW H p (.lst ((Txt.split a y).map V.str)))
theorem aD9:∀ l:List (Str×Tok),aT ((l.map (·.1)).map V.str) (strValues l)
 | []=>.nil
 | p::l=>.cons ⟨p.2,rfl⟩ (aD9 l)
theorem aK7:MtM X "str.split" aHp:=by
 rintro aA s σ H x xs v us Q I rx rs ⟨a,y,e1,e2,hy,hsz,q⟩;subst e1 e2;obtain⟨t,rfl⟩:=rx;obtain⟨u,rfl,ru⟩:=rs.one;obtain⟨t',rfl⟩:=ru;have hn:(Builtin.Str.partsBetween a (Builtin.Str.occurrences a y 0 a.length (a.length+1)) y.length).length<=qk:=by
  have e1:=StrLaws.occ_length_le a y 0 a.length (a.length+1);rw[length_partsBetween];omega
 have bI:∀ (l:List (Str×Tok)) (k:Nat),l.map (·.1)=Txt.split a y->l.length<=qk->EP X aA σ Q (.ref s.heap.objs.size) {s with heap:=s.heap.push {cls:=.type "list",data:=.seq (strValues l).toArray },toks:=k }:=λ l k e hl=>by
  have hv:=aD9 l;rw[e] at hv;exact⟨.ref _,_,I.lnew (t':=k) hv (by rw[<- e,yAb,yAb];exact hl),rfl,q _ I.fresh⟩
 cases h1:(decide (a.length<y.length)||decide (Builtin.Str.strKind a<Builtin.Str.strKind y))
 ·cases hf:(Builtin.Str.occurrences a y 0 a.length (a.length+1)).isEmpty
  ·refine jk yDc (typeIs_str _ _ _) yEg (yEa _ _) (meets_str_split_sep a y t t' h1 hy hf (by omega) hn) ?_
   show wants _ _ _ {s with toks:=_,heap:=s.heap.push {cls:=.type "list",data:=.seq (strsFrom s.toks (Builtin.Str.partsBetween a (Builtin.Str.occurrences a y 0 a.length (a.length+1)) y.length)).toArray } }
   rw[strsFrom_eq];refine bI (numbered s.toks _) _ ((numbered_texts _ _).trans ((if_neg (ne_true_of_eq_false h1)).trans (if_neg (ne_true_of_eq_false hf))).symm) ?_;have:=congrArg yFq (numbered_texts s.toks (Builtin.Str.partsBetween a (Builtin.Str.occurrences a y 0 a.length (a.length+1)) y.length));rw[yAb] at this;omega
  ·exact jk yDc (typeIs_str _ _ _) yEg (yEa _ _) (meets_str_split_not_found a y t t' h1 hy hf)
    (bI [(a,t)] s.toks ((if_neg (ne_true_of_eq_false h1)).trans (if_pos hf)).symm (by show 1<=qk;decide))
 ·exact jk yDc (typeIs_str _ _ _) yEg (yEa _ _) (meets_str_split_cannot_occur a y t t' h1)
   (bI [(a,t)] s.toks (if_pos h1).symm (by show 1<=qk;decide))
noncomputable def nE(S:aC):W->W->Option (List D×aC)
 | .d (.str a),.d (.str y)=>if (y.length==0)=false/\a.length+2<=qk then qq ((Txt.split a y).map yAa,S) else qz
 | _,_=>qz
theorem aJV{S S':aC}{o x:W}{ds:List D}(h:nE S o x=qq (ds,S')):∃ a y,o=.d (.str a)/\x=.d (.str y)/\(y.length==0)=false/\a.length+2<=qk/\ds=(Txt.split a y).map yAa/\S'=S:=by
 unfold nE at h
 split at h
 ·rename_i a y
  split at h
  ·rename_i hc;cases h;exact⟨a,y,rfl,rfl,hc.1,hc.2,rfl,rfl⟩
  ·cases h
 ·cases h
noncomputable def nA(fa fb:FE):FL:=λ env S=>(fa env S).bind λ p=>(fb env p.2).bind λ q=>nE q.2 p.1 q.1
theorem aES{K:FrG}{F:Hp}:∀ l:List Str,DenL K F (l.map yAa) (l.map V.str)
 | []=>.nil
 | a::l=>.cons (.str a) (aES l)
theorem aPS{K:FrG}{fo fe:FE}(σ:L2.St)(H:Hp)(Q:VK)(h:hB K (nA fo fe) σ H Q):tBM K "str" aHp (aI K fo) (dC K (cJ fe gD)) σ H Q:=by
 obtain⟨F,L,S,env,ds,S',R,E,e,q⟩:=h;obtain⟨⟨wo,S1⟩,e1,e⟩:=bind_some e;obtain⟨⟨we,S2⟩,e2,e⟩:=bind_some e;obtain⟨a,y,rfl,rfl,h1,h2,rfl,rfl⟩:=aJV e;refine⟨F,L,S,env,_,S1,R,E,e1,λ F1 L1 H1 o g1 R1 d1=>?_⟩
 cases (show Den K F1 (.str a) o from d1)
 refine⟨rfl,F1,L1,S1,env,[.d (.str y)],S',R1,E.mono g1,?_,λ F2 L2 H2 vs g2 R2 d2=>?_⟩
 ·unfold cJ;rw[e2];rfl
 ·cases d2 with
  | cons dd dr =>
    cases dr;cases (show Den K F2 (.str y) _ from dd)
    exact⟨a,y,rfl,rfl,h1,h2,λ p hp=>q F2 L2 _ p _ (g1.trans g2) (R2.lay hp) (R2.sub.free hp) (R2.notin hp) cA (aES _)⟩
noncomputable def qV:List D->Option (List Str)
 | []=>qq []
 | .str i::r=>(qV r).bind λ l=>qq (i::l)
 | _::_=>qz
theorem aDS{K:FrG}{F:Hp}:∀ {ds:List D}{xs:List V}{ns:List Str},DenL K F ds xs->qV ds=qq ns->xs=ns.map V.str
 | _,_,_,.nil,e=>by cases e;rfl
 | .str i::r,_,_,.cons h t,e=>by
   obtain⟨l,e1,e2⟩:=bind_some e;cases e2;cases h;rw[yAi,aDS t e1]
 | .none::_,_,_,.cons _ _,e=>by cases e
 | .bool _::_,_,_,.cons _ _,e=>by cases e
 | .int _::_,_,_,.cons _ _,e=>by cases e
 | .list _::_,_,_,.cons _ _,e=>by cases e
 | .tuple _::_,_,_,.cons _ _,e=>by cases e
 | .dict _::_,_,_,.cons _ _,e=>by cases e
noncomputable def rJn(K:FrG):V->List V->Hp->VK->Prop:=λ x xs H Q=>∃ (z:Str) (a:qv) (ys:List Str),x=.str z/\xs=[.ref a]/\bR K H a (ys.map V.str)/\(ys.map (·.length)).sum+ys.length*z.length<=16777216/\Q (.str (Txt.join z ys)) H
theorem aER:∀ {ys:List Str}{us:List qx},aT (ys.map V.str) us->StrsAre us ys
 | [],_,.nil=>.nil
 | y::ys,_,.cons r1 r2=>by
   obtain⟨t,rfl⟩:=r1;exact .cons y t (aER r2)
theorem aMH:MtM X "str.join" (rJn X.K):=by
 rintro aA s σ H x xs v us Q I rx rs ⟨z,a,ys,e1,e2,sq,hok,q⟩;subst e1 e2;obtain⟨t,rfl⟩:=rx;obtain⟨u,rfl,ru⟩:=rs.one;cases ru;obtain⟨its,rv,p,hz⟩:=I.list sq;exact join_list p.isList (aER (by simpa using rv)) hok λ t' k=>⟨.str _,H,I.tok k,⟨_,rfl⟩,q⟩
noncomputable def oU:D->D->Option D
 | .str z,.list ds=>(qV ds).bind λ ys=>if (ys.map (·.length)).sum+ys.length*z.length<=16777216 then qq (.str (Txt.join z ys)) else qz
 | _,_=>qz
noncomputable def jX(fa fb:FE):FE:=f2 fa fb (gN oU)
theorem aRM{K:FrG}{fo fe:FE}(σ:L2.St)(H:Hp)(Q:VK)(h:aI K (jX fo fe) σ H Q):tBM K "str" (rJn K) (aI K fo) (dC K (cJ fe gD)) σ H Q:=by
 obtain⟨F,L,S,env,w,S',R,E,e,q⟩:=h;obtain⟨⟨wo,S1⟩,e1,e⟩:=bind_some e;obtain⟨⟨we,S2⟩,e2,e⟩:=bind_some e;obtain⟨da,db,z,ea,eb,eg,rfl,rfl⟩:=nX e;unfold oU at eg
 split at eg
 ·rename_i y ds;obtain⟨ys,e5,e6⟩:=bind_some eg
  split at e6
  ·rename_i hok;cases e6;cases wo with
   | loc n=>simp[dr] at ea;cases hS:S'[n]? with
     | none=>rw[hS] at ea;cases ea
     | some o=>rw[hS] at ea;cases o<;>cases ea
   | exc c r=>cases ea
   | d dd =>
     cases ea;refine⟨F,L,S,env,_,S1,R,E,e1,λ F1 L1 H1 o g1 R1 d1=>?_⟩
     cases (show Den K F1 (.str y) o from d1)
     refine⟨rfl,F1,L1,S1,env,[we],S',R1,E.mono g1,?_,λ F2 L2 H2 vs g2 R2 d2=>?_⟩
     ·unfold cJ;rw[e2];rfl
     ·cases d2 with
      | cons dd dr =>
        cases dr;obtain⟨a,xs,rfl,sq,dl⟩:=(fY R2 dd eb).lst R2.sub;obtain rfl:=aDS dl e5;exact⟨y,a,ys,rfl,rfl,sq,hok,q F2 L2 H2 _ (g1.trans g2) R2 (.str _)⟩
  ·cases e6
 ·cases eg
noncomputable def uH(aK:List (Str×Tv)):D->Option D
 | .str x=>qq (.bool (aK.lookup x).isSome)
 | _=>qz
theorem aE1{w:zx}{k:Str}:∀ {l:List DictEntry}{aK:List (Str×Tv)},oX w l aK->aK.lookup k=qz->(l.find? λ e=>mR (.inr k) e.key)=qz
 | [],[],_,_=>rfl
 | e::r,(x,v')::aK,ok,h=>by
   obtain⟨h1,⟨t,h2⟩,h3,h4⟩:=ok;rw[yBe] at h;rw[yDk,h2,aEY];cases q:k==x with
   | true=>rw[q] at h;cases h
   | false =>
     rw[q] at h;exact aE1 h4 h
 | [],_::_,ok,_=>ok.elim
 | _::_,[],ok,_=>ok.elim
theorem aMc{aK:List (Str×Tv)}:cC X (zo .In) (λ x y H Q=>∃ a k,y=.ref a/\mV X.K X.w a aK/\x=.str k/\Q (.bl (aK.lookup k).isSome) H):=by
 intro aA s σ H x y v u Q I rx ry h;obtain⟨a,k,rfl,⟨hs,es,ep,hl,ok⟩,rfl,q⟩:=h;cases ry;obtain⟨t,rfl⟩:=rx;have hm:s.heap.MapOf (gS X.prog X.w) a (λ k=>findBy (gS X.prog X.w).is es k):=⟨_,es,ep,I.kIn a _ hl,⟨rfl,rfl,rfl⟩,rfl,λ e he=>aBn ok e (by simpa using he),λ _=>rfl⟩
 have hz:(findBy (gS X.prog X.w).is es (.inr k)).isSome=(aK.lookup k).isSome:=by
  unfold findBy;rw[<- yFl];cases hv:aK.lookup k with
  | none=>rw[show(es.toList.find? λ e=>(gS X.prog X.w).is (.inr k) e.key)=qz from aE1 ok hv];rfl
  | some tv =>
    obtain⟨z,e1,_⟩:=aA4 ok hv;rw[show((es.toList.find? λ e=>(gS X.prog X.w).is (.inr k) e.key).map (·.val))=qq z from e1]
    rfl
 refine wpAny_in_of (knd:=gS X.prog X.w) (k:=.inr k) (aAW k t) hs hm ⟨.bl _,H,I.tok _,?_,q⟩;show Value.bool _=Value.bool _;rw[hz]
theorem aOP{x:Str}{k:qw}{fk:FE}{p pos:Pos}{aK:List (Str×Tv)}(hg:Gl X x)(hd:(x==("__debug__" : Str))=false)(ht:∃ a,X.mg x=qq (.ref a)/\mV X.K X.w a aK)(hk:PE X k (aI X.K fk)) :
 PE X (.Compare k [.In] [.Name x p] pos) (aI X.K (f1 fk (eC (uH aK)))):=by
 obtain⟨a,hm,ta⟩:=ht;refine PE.weak (aBy (aMc (aK:=aK)) hk (tD (v:=.ref a) hg hm rfl hd) rfl) λ σ H Q hPq43=>?_
 obtain⟨F,L,S,env,w,S',R,E,e,q⟩:=hPq43;obtain⟨⟨w1,S1⟩,e1,e2⟩:=bind_some e;obtain⟨d,z,e3,e4,rfl,rfl⟩:=qA e2;cases d with
 | str y =>
   cases e4;refine⟨F,L,S,env,w1,_,R,E,e1,λ F1 L1 H1 u g1 R1 d1=>⟨a,y,rfl,ta,(fY R1 d1 e3).str,?_⟩⟩
   exact q F1 L1 H1 _ g1 R1 (.bl _)
 | _=>cases e4
theorem aQo{x y:Str}{p:Pos}(hg:Gl X x)(hd:(x==("__debug__" : Str))=false)(ht:∃ t,X.mg x=qq (.str y t)):PE X (.Name x p) (aI X.K (fC (.str y))):=by
 obtain⟨t,hm⟩:=ht;refine PE.weak (tD (v:=.str y) hg hm ⟨t,rfl⟩ hd) λ σ H Q hPq44=>?_
 obtain⟨F,L,S,env,w,S',R,E,e,q⟩:=hPq44;cases e;exact q F L H _ Gr.refl R (.str _)
end
open PySem.Builtin PySem.Builtin.Str
noncomputable def jQ(x y z:PySem.Str):PySem.Str:=if ((occurrences x y 0 x.length 1).isEmpty||(y.length==0&&z.length==0))=true then x else glued z (partsBetween x (occurrences x y 0 x.length 1) y.length)
theorem aIo(x y z:PySem.Str)(t u v q:Tok)
 (hf:((occurrences x y 0 x.length 1).isEmpty||(y.length==0&&z.length==0))=false ->
   (u==0||v==0)=false/\(u==v)=false/\(y==z)=false/\tooLong (x.length+(occurrences x y 0 x.length 1).length*z.length)=false) :
 Gives («str.replace» ⟨[.str x t,.str y u,.str z v,.int 1 q],[]⟩) (if ((occurrences x y 0 x.length 1).isEmpty||(y.length==0&&z.length==0))=true then .val (.str x t) else .str (glued z (partsBetween x (occurrences x y 0 x.length 1) y.length))):=by
 have e : «str.replace» ⟨[.str x t,.str y u,.str z v,.int 1 q],[]⟩=(if ((occurrences x y 0 x.length 1).isEmpty||(y.length==0&&z.length==0))=true then (do rule "str.replace.nothing";ret (.str x t)) else
  (isSame (.str y u) (.str z v) >>= λ same =>
    if same=true then (do rule "str.replace.old-is-new";ret (.str x t)) else
    if tooLong (x.length+(occurrences x y 0 x.length 1).length*z.length)=true then unsupported "str.replace:memory" else
    retStr (glued z (partsBetween x (occurrences x y 0 x.length 1) y.length)))):=by
  show(do let limit <- countLimit "str.replace" (qq (.int 1 q)) (x.length+1);_)=_
  rw[countLimit_int "str.replace" 1 q (x.length+1) (by decide)]
  rfl
 rw[e];cases hc:((occurrences x y 0 x.length 1).isEmpty||(y.length==0&&z.length==0))
 ·obtain⟨h0,huv,hyz,hl⟩:=hf hc;rw[isSame_str_other y z u v h0 huv hyz,hl];exact .of_eq rfl
 ·exact .rule (.of_eq rfl)
theorem aMw(x y z:PySem.Str):(jQ x y z).length<=x.length+z.length:=by
 unfold jQ
 split
 ·omega
 ·have h1:=StrLaws.occ_length_le x y 0 x.length 1;have hy:(glued y (partsBetween x (occurrences x y 0 x.length 1) y.length)).length=x.length:=by rw[StrLaws.glued_between_self]
  rw[size_glued,length_partsBetween,Nat.add_sub_cancel] at hy;rw[size_glued,length_partsBetween,Nat.add_sub_cancel];have h2:(occurrences x y 0 x.length 1).length*z.length<=1*z.length:=yDq _ h1;omega
section
variable {prog : zq}{w : zx}{A : zv}{E : qx -> qj -> Prop}{s : qj}{x y z : PySem.Str}{t u v q : Tok}{Q : qx -> qj -> Prop}
theorem aIA(hu:u≠0)(hv:v≠0)(huv:u≠v)(hyz:(y==z)=false)(hb:x.length+z.length<=1000000)
 (hq:∀ t' k,Q (.str (jQ x y z) t') {s with toks:=k }):qu (model prog w) A (call (.builtin "str.replace") [.str x t,.str y u,.str z v,.int 1 q]) Q E s:=by
 have hl:tooLong (x.length+(occurrences x y 0 x.length 1).length*z.length)=false:=by
  have h1:=StrLaws.occ_length_le x y 0 x.length 1;have h2:(occurrences x y 0 x.length 1).length*z.length<=1*z.length:=yDq _ h1;unfold tooLong;rw[qo];exact dqF (by omega)
 refine call_gives PySem.F.slot_str_replace (typeIs_str _ _ _) PySem.F.entry_str_replace (PySem.F.args_str_replace_4 _ _ _ _) (aIo x y z t u v q λ _=>⟨by simp[hu,hv],by simp[huv],hyz,hl⟩) ?_
 have hq':=hq;have hn:=aMw x y z;unfold jQ at hq' hn;cases hc:((occurrences x y 0 x.length 1).isEmpty||(y.length==0&&z.length==0))
 ·rw[hc] at hq' hn;simp only[yAz,if_false] at hq' hn ⊢;exact⟨by rw[qo];omega,hq' _ _⟩
 ·rw[hc] at hq';simp only[if_true] at hq' ⊢;exact hq' t s.toks
end
section
variable {X : Cx}
def rW(X:Cx)(e:qw)(t:TE):Prop:=∀ (aA:List (qv×Obj)) (s:qj) (σ:L2.St) (H:Hp) (Q:VK),Inv X aA σ H s->0<s.toks->t σ H Q->qu (model X.prog X.w) X.A (eval e X.env) (EP X aA σ Q) X.xe s
def nP(X:Cx)(es:List qw)(t:TA):Prop:=∀ (pos:Pos) (aA:List (qv×Obj)) (s:qj) (σ:L2.St) (H:Hp) (Q:List V->Hp->Prop),Inv X aA σ H s->0<s.toks->t σ H Q->qu (model X.prog X.w) X.A (spliced (backTo pos (zj es X.env))) (λ us s2=>∃ vs H2,Inv X aA σ H2 s2/\aT vs us/\Q vs H2) X.xe s
theorem rW.of{e:qw}{t:TE}(h:PE X e t):rW X e t:=λ aA s σ H Q I _ q=>h aA s σ H Q I q
theorem nP.of{es:List qw}{t:TA}(h:PA X es t):nP X es t:=λ pos aA s σ H Q I _ q=>h pos aA s σ H Q I q
theorem aK2{e:qw}{es:List qw}{te:TE}{t:TA}(ha:rW X e te)(hr:nP X es t)(hs:zj (e::es) X.env=(false,eval e X.env)::zj es X.env):nP X (e::es) (yV te t):=by
 intro pos aA s σ H Q I hp h;rw[hs];show qu _ _ (spliced ((false,eval e X.env)::backTo pos (zj es X.env))) _ _ s;refine Calls.spliced_cons (wpAny_with_toks (n:=1) hp (wpAny_mono (ha aA s σ H _ I hp h) (λ u s1 hPq45 hk=>?_) λ _ _ z _=>z))
 obtain⟨x,H1,I1,r1,q1⟩:=hPq45;exact aZ (hr pos aA s1 σ H1 _ I1 hk q1) λ us s2 ⟨xs,H2,I2,r2,q2⟩=>⟨x::xs,H2,I2,.cons r1 r2,q2⟩
theorem aKE{x:PySem.Str}{k:Nat}{p pos0:Pos}{b:qw}{es:List qw}{fb:FE}{t:TA}(hb:PE X b (aI X.K fb))(hr:nP X es t)(hs:zj (.BinOp (.Constant (.str x) k p) .Add b pos0::es) X.env=(false,eval (.BinOp (.Constant (.str x) k p) .Add b pos0) X.env)::zj es X.env) :
 PA X (.BinOp (.Constant (.str x) k p) .Add b pos0::es) (yV (aI X.K (kR .Add (fC (.str x)) fb)) t):=by
 intro pos aA s σ H Q I h;rw[hs];show qu _ _ (spliced ((false,eval (.BinOp (.Constant (.str x) k p) .Add b pos0) X.env)::backTo pos (zj es X.env))) _ _ s;obtain⟨F,L,S,env,w,S',R,E,e,q⟩:=h;obtain⟨⟨w2,S2⟩,e2,e⟩:=bind_some e;refine Calls.spliced_cons (wpAny_BinOp (Calls.Constant_str ?_));refine wpAny_with_toks (n:=1) (Nat.le_add_left 1 s.toks) (wpAny_mono (hb aA _ σ H (λ y H2=>∃ F2 L2,Gr F L F2 L2/\Rel X.K F2 L2 S2 H2/\eK X.K F2 L2 w2 y) (I.tok _) ⟨F,L,S,env,w2,S2,R,E,e2,λ F2 L2 H2 y g2 R2 d2=>⟨F2,L2,g2,R2,d2⟩⟩) (λ u s2 hPq46 hk=>?_) λ _ _ z _=>z)
 obtain⟨y,H2,I2,r2,F2,L2,g2,R2,d2⟩:=hPq46;obtain⟨da,db,z,ea,eb,eg,rfl,rfl⟩:=nX e;cases ea;refine wpAny_with_toks (n:=1) hk (wpAny_mono (aGe (op:=.Add) (Q:=λ v H3=>∃ F3 L3,Gr F2 L2 F3 L3/\Rel X.K F3 L3 S' H3/\eK X.K F3 L3 (.d z) v) I2 (x:=.str x) (y:=y) ⟨_,rfl⟩ r2 R2 (fY R2 (w:=.d (.str x)) (show Den X.K F2 (.str x) (.str x) from .str x) rfl) (fY R2 d2 eb) eg ?_) (λ v s3 ⟨vv,H3,I3,r3,F3,L3,g3,R3,d3⟩ hk3=>?_) λ _ _ z _=>z)
 ·exact λ F3 H3 r hF R3 d3=>⟨F3,L2,⟨hF,[],(yAv _).symm⟩,R3,d3⟩
 ·exact aZ (hr pos aA s3 σ H3 _ I3 hk3 (q F3 L3 H3 vv (g2.trans g3) R3 d3)) λ us s4 ⟨xs,H4,I4,r4,q4⟩=>⟨vv::xs,H4,I4,.cons r3 r4,q4⟩
theorem aF1{K:FrG}{fa:FE}{fr:FA}(σ:L2.St)(H:Hp)(Q:List V->Hp->Prop)(h:dC K (cJ fa fr) σ H Q):yV (aI K fa) (dC K fr) σ H Q:=by
 obtain⟨F,L,S,env,ws,S',R,E,e,q⟩:=h;obtain⟨⟨w,S1⟩,e1,e2⟩:=bind_some e;obtain⟨⟨wr,S2⟩,e3,e4⟩:=bind_some e2;cases e4;exact⟨F,L,S,env,w,S1,R,E,e1,λ F1 L1 H1 v g1 R1 d1=>⟨F1,L1,S1,env,wr,S2,R1,E.mono g1,e3,λ F2 L2 H2 vs g2 R2 d2=>q F2 L2 H2 _ (g1.trans g2) R2 (.cons (d1.mono g2) d2)⟩⟩
theorem aGk{e:qw}{es:List qw}{fa:FE}{fr:FA}(ha:rW X e (aI X.K fa))(hr:nP X es (dC X.K fr))(hs:zj (e::es) X.env=(false,eval e X.env)::zj es X.env):nP X (e::es) (dC X.K (cJ fa fr)):=
 λ pos aA s σ H Q I hp h=>aK2 ha hr hs pos aA s σ H Q I hp (aF1 σ H Q h)
noncomputable def zT(fo:FE)(y z:PySem.Str):FE:=λ env S=>(fo env S).bind λ p=>match p.1 with
 | .d (.str x)=>if x.length<=100000 then qq (.d (.str (jQ x y z)),p.2) else qz
 | _=>qz
theorem aMe{o:qw}{y z:PySem.Str}{k1 k2 k3:Nat}{p1 p2 p3 apos cpos:Pos}{fo:FE}(ho:PE X o (aI X.K fo))(hyz:y≠z)(hz:z.length<=10)(hbase:attributeBase o "replace" X.env (eval o X.env)=eval o X.env)(hline:(apos.endLine==cpos.line)=true) :
 rW X (.Call (.Attribute o "replace" apos) [.Constant (.str y) k1 p1,.Constant (.str z) k2 p2,.Constant (.int 1) k3 p3] [] cpos) (aI X.K (zT fo y z)):=by
 rintro aA s σ H Q I hp ⟨F,L,S,env,w,S',R,E,e,q⟩;obtain⟨⟨w1,S1⟩,e1,e2⟩:=bind_some e;dsimp only at e2
 split at e2
 ·split at e2
  ·rename_i x hx;cases e2;refine wpAny_Call_method_late hbase rfl hline rfl (wpAny_with_toks (n:=1) hp (wpAny_mono (ho aA s σ H (λ v H1=>∃ F1 L1,v=.str x/\Gr F L F1 L1/\Rel X.K F1 L1 S' H1) I ⟨F,L,S,env,_,_,R,E,e1,λ F1 L1 H1 v g1 R1 d1=>?_⟩) (λ v s1 ⟨xv,H1,I1,r1,F1,L1,ex,g1,R1⟩ hk=>?_) λ _ _ z _=>z))
   ·cases (show Den X.K F1 (.str x) v from d1)
    exact⟨F1,L1,rfl,g1,R1⟩
   ·subst ex;obtain⟨t,rfl⟩:=r1;refine⟨"str", "str.replace",yEj,PySem.F.slot_str_replace,PySem.F.type_str_replace,typeIs_str _ _ _,(λ _ e=>nomatch e),?_⟩
    refine Calls.callWith_builtin rfl (Calls.evalArgs_plain ?_);refine Calls.spliced_cons (Calls.Constant_str (k:=k1) (pos:=p1) (Calls.spliced_cons (Calls.Constant_str (k:=k2) (pos:=p2) (Calls.spliced_cons (wpAny_Constant_int (k:=k3) (pos:=p3) (Calls.spliced_nil ?_))))));have hk:1<=s1.toks:=hk;refine aIA (u:=s1.toks) (v:=s1.toks+1) (yEp hk) (yDw _) (xAh (yCz _)) (beq_eq_false_iff_ne.mpr hyz) (by omega) λ t' k=>⟨.str _,H1,(I1.tok k),⟨_,rfl⟩,q F1 L1 H1 _ g1 R1 (.str _)⟩
  ·cases e2
 ·cases e2
noncomputable def aR4:V->Option Int->Option Int->Hp->VK->Prop:=λ x lo hi H Q=>∃ z,x=.str z/\z.length<=qk/\Q (.str (Txt.slice z lo hi)) H
theorem aOy:lZ X aR4:=by
 rintro aA s σ H x v vl vu lo hi sl Q I rx hs pl pu ⟨z,e,hz,q⟩;subst e;obtain⟨t,rfl⟩:=rx;refine⟨"str",_,PySem.F.slot_str_getitem.lookup,typeIs_str _ _ _,?_⟩;have bI:∀ (l u:Option (Int×Tok)),s.heap.IsSlice sl l u qz->lo=l.map (·.1)->hi=u.map (·.1)->qu (model X.prog X.w) X.A (getItem (.str z t) (.ref sl)) (EP X aA σ Q) X.xe s:=λ l u hsl e1 e2=>by
  refine wpAny_getItem_str_slice (l:=l) (u:=u) (st:=qz) hsl rfl ?_;subst e1 e2;exact post_val_or_str ⟨xAg (Txt.slice_le z _ _) hz,λ t' k=>⟨.str _,H,I.tok k,⟨_,rfl⟩,q⟩⟩
 obtain⟨o,h1,h2,h3⟩:=hs;cases pl with
 | none =>
   cases pu with
   | none=>exact bI qz qz ⟨o,h1,h2,h3⟩ rfl rfl
   | int j tj=>exact bI qz (qq (j,tj)) ⟨o,h1,h2,h3⟩ rfl rfl
 | int i ti =>
   cases pu with
   | none=>exact bI (qq (i,ti)) qz ⟨o,h1,h2,h3⟩ rfl rfl
   | int j tj=>exact bI (qq (i,ti)) (qq (j,tj)) ⟨o,h1,h2,h3⟩ rfl rfl
noncomputable def aCB(lo hi:Option Int):D->Option D
 | .str z=>if z.length<=qk then qq (.str (Txt.slice z lo hi)) else qz
 | _=>qz
noncomputable def zC(fa:FE)(fl fh:FO):FE:=λ env S=>(fa env S).bind λ p=>(fl env p.2).bind λ q=>(fh env q.2).bind λ r=>(dr r.2 p.1).bind λ d=>(aCB q.1 r.1 d).bind λ z=>qq (.d z,r.2)
theorem aP7{a:qw}{lo hi:Option qw}{p2 pos:Pos}{fa:FE}{fl fh:FO}(ha:PE X a (aI X.K fa))(hl:PO X lo (jA X.K fl))(hh:PO X hi (jA X.K fh)):PE X (.Subscript a (.Slice lo hi qz p2) pos) (aI X.K (zC fa fl fh)):=
 PE.weak (aA7 aOy ha hl hh) λ σ H Q aM=>by
  obtain⟨F,L,S,env,w',S',R,E,e,q⟩:=aM;obtain⟨⟨w,S1⟩,e1,e⟩:=bind_some e;obtain⟨⟨l,S2⟩,e2,e⟩:=bind_some e;obtain⟨⟨h,S3⟩,e3,e⟩:=bind_some e;obtain⟨d,e4,e⟩:=bind_some e;obtain⟨z,e5,e⟩:=bind_some e;cases e;refine⟨F,L,S,env,w,S1,R,E,e1,λ F1 L1 H1 v g1 R1 d1=>⟨F1,L1,S1,env,l,S2,R1,E.mono g1,e2,λ F2 L2 H2 g2 R2=>⟨F2,L2,S2,env,h,S3,R2,E.mono (g1.trans g2),e3,λ F3 L3 H3 g3 R3=>?_⟩⟩⟩
  have n:=fY R3 (d1.mono (g2.trans g3)) e4;cases d with
  | str x =>
    have e6:(if x.length<=qk then qq (yAa (Txt.slice x l h)) else qz)=qq z:=e5
    split at e6
    ·rename_i hz;cases e6;exact⟨x,n.str,hz,q F3 L3 H3 _ ((g1.trans g2).trans g3) R3 (.str _)⟩
    ·cases e6
  | _=>cases e5
noncomputable def yT:D->D->Option D
 | .str x,.int n=>if x.length<=1000/\0<=n/\n<=1000 then qq (.str (Txt.mul x n)) else qz
 | _,_=>qz
theorem aLq{x:PySem.Str}{n:Int}(h1:x.length<=1000)(h2:0<=n)(h3:n<=1000):MulOk x n:=by
 have hm:x.length*n.toNat<=1000*1000:=Nat.mul_le_mul h1 (by omega)
 refine⟨?_,λ a _=>?_,λ _ _=>?_⟩
 ·rw[dqF (by omega),dqF (by omega)]
  rfl
 ·have:(1000:Int)<=(2^63-1)/n:=(Int.le_ediv_iff_mul_le (by omega)).mpr (by omega)
  omega
 ·unfold tooLong;rw[qo];exact dqF (by omega)
theorem aL2:cC X (zk .Mult) (nN X yT):=by
 rintro aA s σ H x y v u Q I rx ry ⟨F,L,S,dx,dy,z,R,nx,ny,e,q⟩;unfold yT at e
 split at e
 ·split at e
  ·rename_i hc;cases e;cases nx.str;cases ny.int;obtain⟨t,rfl⟩:=rx;obtain⟨t',rfl⟩:=ry;exact SB.mul (aLq hc.1 hc.2.1 hc.2.2) λ t' k=>⟨.str _,H,I.tok k,⟨_,rfl⟩,q.here R (.str _)⟩
  ·cases e
 ·cases e
noncomputable def yI(fa fb:FE):FE:=f2 fa fb (gN yT)
theorem aNH{a b:qw}{pos:Pos}{fa fb:FE}(ha:PE X a (aI X.K fa))(hb:PE X b (aI X.K fb)):PE X (.BinOp a .Mult b pos) (aI X.K (yI fa fb)):=
 PE.weak (aGJ aL2 ha hb) (pJ lN)
end
noncomputable def cR(fa:FE)(fl fh:FO):FE:=λ env S=>(fa env S).bind λ p=>(fl env p.2).bind λ q=>(fh env q.2).bind λ r=>(dr r.2 p.1).bind λ d=>match d with
 | .list xs=>qq (.d (.list (cK xs q.1 r.1)),r.2)
 | .tuple xs=>qq (.d (.tuple (cK xs q.1 r.1)),r.2)
 | _=>qz
noncomputable def dP(fa:FE):FL:=λ env S=>(fa env S).bind λ p=>match p.1 with
 | .d (.list ds)=>qq (ds,p.2)
 | .d (.tuple ds)=>qq (ds,p.2)
 | _=>qz
section
variable {X : Cx}{pos : Pos}
theorem aRS{a:qw}{lo hi:Option qw}{p2:Pos}{fa:FE}{fl fh:FO}(ha:PE X a (aI X.K fa))(hl:PO X lo (jA X.K fl))(hh:PO X hi (jA X.K fh)):PE X (.Subscript a (.Slice lo hi qz p2) pos) (aI X.K (cR fa fl fh)):=by
 rintro aA s σ H Q I ⟨F,L,S,env,w,S',R,E,e,q⟩;obtain⟨⟨w1,S1⟩,e1,e⟩:=bind_some e;obtain⟨⟨l,S2⟩,e2,e⟩:=bind_some e;obtain⟨⟨h,S3⟩,e3,e⟩:=bind_some e;obtain⟨d,e4,e⟩:=bind_some e;dsimp only at e e2 e3 e4;cases d with
 | list xs =>
   cases e;refine rE (aPW ha hl hh) aA s σ H Q I ⟨F,L,S,env,_,_,R,E,?_,q⟩;unfold gE aHq;rw[e1];dsimp only[yCw];rw[e2];dsimp only;rw[e3];dsimp only;rw[e4];rfl
 | tuple xs =>
   cases e;refine aPD ha hl hh aA s σ H Q I ⟨F,L,S,env,_,_,R,E,?_,q⟩;unfold aHa;rw[e1];dsimp only[yCw];rw[e2];dsimp only;rw[e3];dsimp only;rw[e4];dsimp only[aHJ]
 | _=>cases e
theorem aRj{tg a:qw}{fa:FE}(ha:PE X a (aI X.K fa)):PI X tg a (jF X.K (dP fa)):=by
 rintro aA s σ H Rr I ⟨F,L,S,env,ds,S',R,E,e,q⟩;obtain⟨⟨w1,S1⟩,e1,e⟩:=bind_some e;dsimp only at e
 split at e
 ·rename_i ds';cases e;refine aQi ha aA s σ H Rr I ⟨F,L,S,env,_,_,R,E,?_,q⟩;unfold aHm;rw[e1];rfl
 ·cases e;refine aQf ha aA s σ H Rr I ⟨F,L,S,env,_,_,R,E,?_,q⟩;unfold aHL;rw[e1];rfl
 ·cases e
end
inductive Ty where
 | int | bool | str | lst | tup
 deriving DecidableEq
noncomputable def Ty.s:Ty->String
 | .int => "int" | .bool => "bool" | .str => "str" | .lst => "list" | .tup => "tuple"
noncomputable def Ty.n:Ty->Str
 | .int => "int" | .bool => "bool" | .str => "str" | .lst => "list" | .tup => "tuple"
noncomputable def iZ:Ty->D->Option D
 | _,.dict _=>qz
 | .int,.int _=>qq (.bool true)
 | .int,.bool _=>qq (.bool true)
 | .bool,.bool _=>qq (.bool true)
 | .str,.str _=>qq (.bool true)
 | .lst,.list _=>qq (.bool true)
 | .tup,.tuple _=>qq (.bool true)
 | _,_=>qq (.bool false)
theorem aQk{i:Int}:iZ .int (.int i)=qq (.bool true):=rfl
theorem aRf{i:Int}:iZ .bool (.int i)=qq (.bool false):=rfl
theorem aPQ{xs:List D}:iZ .tup (.tuple xs)=qq (.bool true):=rfl
theorem aQK{b:Bool}:iZ .bool (.bool b)=qq (.bool true):=rfl
theorem aQd{b:Bool}:iZ .int (.bool b)=qq (.bool true):=rfl
theorem aNy(K:FrG){ty:Ty}{d z:D}(h:iZ ty d=qq z):vE K ty.s d=qq z:=by
 cases ty<;>cases d<;>first | (cases h;done) | (cases h;rfl)
inductive B where
 | len | mx | mn | int | abs | tup | sum | all | any
 deriving DecidableEq
noncomputable def B.g:B->List D->Option D
 | .len=>cU | .mx=>zG | .mn=>rC | .int=>vN | .abs=>aCL | .tup=>oN | .sum=>aCu | .all=>zE | .any=>zD
noncomputable def B.n:B->Str
 | .len => "len" | .mx => "max" | .mn => "min" | .int => "int" | .abs => "abs" | .tup => "tuple" | .sum => "sum" | .all => "all" | .any => "any"
inductive E where
 | var (i:Nat) | int (i:Int) | bl (b:Bool) | non | str (x:Str)
 | bin (op:vz) (a b:E) | un (op:yx) (a:E) | cmp (op:jx) (a b:E) | ltl (a b:E)
 | and (a b:E) | or (a b:E) | not (a:E) | ite (c a b:E)
 | tup (es:E) | lst (es:E) | nil | cons (a r:E)
 | chn (op op':jx) (a b c:E) | con (x:Str) (ts:List Tv)
 | ix (a b:E) | dsp (k l m:Str) (a b c i:E) | tab (x:Str) (aK:List (Str×Tv)) (k:E) | slL (a lo hi:E) | sl (a lo hi:E) | no
 | call (f:Nat) (es:E) | blt (b:B) (es:E) | isi (a:E) (n:Ty) | bits (a:E) | app (o a:E) | pop (o a:E) | idx (o a:E)
 | lof (a:E) | lzip (a b:E) | lrg1 (a:E) | lrg2 (a b:E) | srt (a:E) | lrev (a:E) | lrep (a b:E) | comp (elt:E) (t:Tg) (it:E) (cond:E)
 | it (a:E) | rng1 (a:E) | rng2 (a b:E) | rng3 (a b c:E) | rrng (a:E) | enm (a:E) | zip (a b:E) | zip3 (a b c:E)
 | fz (a:E) | new (a:E)
 | its (a:E) | ins (n:Bool) (a b:E) | st1 (a:E) | itx (a:E) | spl (a b:E) | jn (a b:E) | intb (x:Str) (aK:List (Str×Tv)) (k:E) | gst (x y:Str)
 | sls (a lo hi:E) | srep (a b:E) | ls3 (x:Str) (a b o:E) (y z:Str) (es:E)
abbrev Calls:=Nat->Option (Nat×(List W->aC->Option (W×aC)))
noncomputable def iS(C:Calls)(f:Nat)(fs:FA):FE:=λ env S=>match C f with
 | some (np,call)=>tZ fs np call env S
 | none=>qz
section
variable (C : Calls)
mutual
noncomputable def ev:E->FE
 | .var i=>eU i
 | .int i=>fC (.int i)
 | .bl b=>fC (.bool b)
 | .non=>fC .none
 | .str x=>fC (.str x)
 | .bin op a b=>kR op (ev a) (ev b)
 | .un op a=>fUn op (ev a)
 | .cmp op a b=>kN op (ev a) (ev b)
 | .and a b=>uM (ev a) (ev b)
 | .or a b=>zI (ev a) (ev b)
 | .not a=>yL (ev a)
 | .ite c a b=>pG (tv c) (ev a) (ev b)
 | .tup es=>vB (av es)
 | .ix a b=>rZ (ev a) (ev b)
 | .tab _ aK k=>f1 (ev k) (eC (zP aK))
 | .chn op op' a b c=>lM op op' (ev a) (ev b) (ev c)
 | .con _ ts=>fC (.tuple (ts.map Tv.d))
 | .sl a lo hi=>cR (ev a) (ov lo) (ov hi)
 | .call f es=>iS C f (av es)
 | .blt b es=>rR (av es) b.g
 | .isi a n=>f1 (ev a) (eC (iZ n))
 | .app o a=>gK (ev o) (ev a)
 | .fz a=>gE (lv a)
 | .new a=>gM (lv a)
 | .ins n a b=>kX n (ev a) (ev b)
 | .st1 a=>f1 (ev a) (eC rH)
 | .itx a=>f1 (ev a) (eC rF)
 | .jn a b=>jX (ev a) (ev b)
 | .intb _ aK k=>f1 (ev k) (eC (uH aK))
 | .gst _ y=>fC (.str y)
 | .sls a lo hi=>zC (ev a) (ov lo) (ov hi)
 | .srep a b=>yI (ev a) (ev b)
 | _=>λ _ _=>qz
noncomputable def tv:E->FT
 | .and a b=>zM (tv a) (tv b)
 | .or a b=>fOr (tv a) (tv b)
 | .not a=>zO (tv a)
 | .var i=>cQ (eU i)
 | .cmp op a b=>cQ (kN op (ev a) (ev b))
 | .chn op op' a b c=>cQ (lM op op' (ev a) (ev b) (ev c))
 | .ix a b=>cQ (rZ (ev a) (ev b))
 | .call f es=>cQ (iS C f (av es))
 | .blt b es=>cQ (rR (av es) b.g)
 | .isi a n=>cQ (f1 (ev a) (eC (iZ n)))
 | .bin op a b=>cQ (kR op (ev a) (ev b))
 | .bl b=>cQ (fC (.bool b))
 | .no=>pE
 | .ins n a b=>cQ (kX n (ev a) (ev b))
 | _=>λ _ _=>qz
noncomputable def av:E->FA
 | .nil=>gD
 | .cons a r=>cJ (ev a) (av r)
 | _=>λ _ _=>qz
noncomputable def ov:E->FO
 | .no=>cV
 | .cons a .nil=>cL (ev a)
 | _=>λ _ _=>qz
noncomputable def lv:E->FL
 | .lst es=>jT (av es)
 | .lof a=>vO (ev a)
 | .comp elt t it cond=>gW t (lv it) (tv cond) (ev elt)
 | .it a=>dP (ev a)
 | .rng1 a=>uL (ev a)
 | .enm a=>tU (ev a)
 | .its a=>rO (ev a)
 | .spl a b=>nA (ev a) (ev b)
 | .ls3 x a b o y z es=>jT (cJ (kR .Add (fC (.str x)) (ev a)) (cJ (ev b) (cJ (zT (ev o) y z) (av es))))
 | _=>λ _ _=>qz
end
inductive Sx where
 | skip | seq (a b:Sx) | expr (e:E) | ret (e:E)
 | ifs (c:E) (a b:Sx) | set (i:Nat) (e:E) | setC (nw:Bool) (i:Nat) (e:E) | setT (t:Tg) (e:E) | put (o i e:E)
 | loop (t:Tg) (it:E) (b:Sx)
noncomputable def xs:Sx->FS
 | .skip=>oZ
 | .seq a b=>dA (xs a) (xs b)
 | .expr e=>uD (ev C e)
 | .ret e=>nF (ev C e)
 | .ifs c a b=>nO (tv C c) (xs a) (xs b)
 | .set i e=>dO i (ev C e)
 | .setC nw i e=>dO i (match nw with | true=>gM (lv C e) | false=>gE (lv C e))
 | .setT t e=>mU t (ev C e)
 | .put o i e=>nH (ev C o) (ev C i) (ev C e)
 | .loop t it b=>gZ t (lv C it) (xs b)
theorem aNm{i}:ev C (.var i)=eU i:=rfl
theorem aMZ{i}:ev C (.int i)=fC (.int i):=rfl
theorem aQU{b}:ev C (.bl b)=fC (.bool b):=rfl
theorem aPe:ev C .non=fC .none:=rfl
theorem aNd{x}:ev C (.str x)=fC (.str x):=rfl
theorem aO8{op a b}:ev C (.bin op a b)=kR op (ev C a) (ev C b):=rfl
theorem aQt{op a}:ev C (.un op a)=fUn op (ev C a):=rfl
theorem aPs{op a b}:ev C (.cmp op a b)=kN op (ev C a) (ev C b):=rfl
theorem aOb{a b}:ev C (.and a b)=uM (ev C a) (ev C b):=rfl
theorem aPP{a b}:ev C (.or a b)=zI (ev C a) (ev C b):=rfl
theorem aOG{a}:ev C (.not a)=yL (ev C a):=rfl
theorem aPg{c a b}:ev C (.ite c a b)=pG (tv C c) (ev C a) (ev C b):=rfl
theorem aOk{es}:ev C (.tup es)=vB (av C es):=rfl
theorem aQM{a b}:ev C (.ix a b)=rZ (ev C a) (ev C b):=rfl
theorem aPz{n0 aK k}:ev C (.tab n0 aK k)=f1 (ev C k) (eC (zP aK)):=rfl
theorem aPC{op op' a b c}:ev C (.chn op op' a b c)=lM op op' (ev C a) (ev C b) (ev C c):=rfl
theorem aOz{n0 ts}:ev C (.con n0 ts)=fC (.tuple (ts.map Tv.d)):=rfl
theorem aB9{a lo hi}:ev C (.sl a lo hi)=cR (ev C a) (ov C lo) (ov C hi):=rfl
theorem aL3{f es}:ev C (.call f es)=iS C f (av C es):=rfl
theorem aM5{b es}:ev C (.blt b es)=rR (av C es) b.g:=rfl
theorem aNL{a n}:ev C (.isi a n)=f1 (ev C a) (eC (iZ n)):=rfl
theorem aPf{o a}:ev C (.app o a)=gK (ev C o) (ev C a):=rfl
theorem aQy{a}:ev C (.fz a)=gE (lv C a):=rfl
theorem aNz{a}:ev C (.new a)=gM (lv C a):=rfl
theorem aN9{n a b}:ev C (.ins n a b)=kX n (ev C a) (ev C b):=rfl
theorem aN1{a}:ev C (.st1 a)=f1 (ev C a) (eC rH):=rfl
theorem aPr{a}:ev C (.itx a)=f1 (ev C a) (eC rF):=rfl
theorem aRb{a b}:ev C (.jn a b)=jX (ev C a) (ev C b):=rfl
theorem aLE{n0 aK k}:ev C (.intb n0 aK k)=f1 (ev C k) (eC (uH aK)):=rfl
theorem aOw{n0 y}:ev C (.gst n0 y)=fC (.str y):=rfl
theorem aNO{a lo hi}:ev C (.sls a lo hi)=zC (ev C a) (ov C lo) (ov C hi):=rfl
theorem aLk{a b}:ev C (.srep a b)=yI (ev C a) (ev C b):=rfl
theorem aOT{x a b o y z es}:lv C (.ls3 x a b o y z es)=jT (cJ (kR .Add (fC (.str x)) (ev C a)) (cJ (ev C b) (cJ (zT (ev C o) y z) (av C es)))):=rfl
theorem aNo{n a b}:tv C (.ins n a b)=cQ (kX n (ev C a) (ev C b)):=rfl
theorem aNe{a}:lv C (.its a)=rO (ev C a):=rfl
theorem aPl{a b}:lv C (.spl a b)=nA (ev C a) (ev C b):=rfl
theorem aNF{a b}:tv C (.and a b)=zM (tv C a) (tv C b):=rfl
theorem aQQ{a b}:tv C (.or a b)=fOr (tv C a) (tv C b):=rfl
theorem aOV{a}:tv C (.not a)=zO (tv C a):=rfl
theorem aPv{i}:tv C (.var i)=cQ (eU i):=rfl
theorem aPG{op a b}:tv C (.cmp op a b)=cQ (kN op (ev C a) (ev C b)):=rfl
theorem aO0{op op' a b c}:tv C (.chn op op' a b c)=cQ (lM op op' (ev C a) (ev C b) (ev C c)):=rfl
theorem aPY{a b}:tv C (.ix a b)=cQ (rZ (ev C a) (ev C b)):=rfl
theorem aMN{f es}:tv C (.call f es)=cQ (iS C f (av C es)):=rfl
theorem aNi{b es}:tv C (.blt b es)=cQ (rR (av C es) b.g):=rfl
theorem aNw{a n}:tv C (.isi a n)=cQ (f1 (ev C a) (eC (iZ n))):=rfl
theorem aOs{op a b}:tv C (.bin op a b)=cQ (kR op (ev C a) (ev C b)):=rfl
theorem aP0{b}:tv C (.bl b)=cQ (fC (.bool b)):=rfl
theorem aQ5:tv C .no=pE:=rfl
theorem aN6:av C .nil=gD:=rfl
theorem aLx{a r}:av C (.cons a r)=cJ (ev C a) (av C r):=rfl
theorem aQv:ov C .no=cV:=rfl
theorem aMP{a}:ov C (.cons a .nil)=cL (ev C a):=rfl
theorem aNr{es}:lv C (.lst es)=jT (av C es):=rfl
theorem aPA{a}:lv C (.lof a)=vO (ev C a):=rfl
theorem aMv{elt t it cond}:lv C (.comp elt t it cond)=gW t (lv C it) (tv C cond) (ev C elt):=rfl
theorem yB{a}:lv C (.it a)=dP (ev C a):=rfl
theorem nZ{a}:lv C (.rng1 a)=uL (ev C a):=rfl
theorem qO{a}:lv C (.enm a)=tU (ev C a):=rfl
theorem aFv:xs C .skip=oZ:=rfl
theorem oK{a b}:xs C (.seq a b)=dA (xs C a) (xs C b):=rfl
theorem aMq{e}:xs C (.expr e)=uD (ev C e):=rfl
theorem aF4{e}:xs C (.ret e)=nF (ev C e):=rfl
theorem tK{c a b}:xs C (.ifs c a b)=nO (tv C c) (xs C a) (xs C b):=rfl
theorem oC{i e}:xs C (.set i e)=dO i (ev C e):=rfl
theorem xB{nw i e}:xs C (.setC nw i e)=dO i (match nw with | true=>gM (lv C e) | false=>gE (lv C e)):=rfl
theorem aL6{t e}:xs C (.setT t e)=mU t (ev C e):=rfl
theorem aGq{o i e}:xs C (.put o i e)=nH (ev C o) (ev C i) (ev C e):=rfl
theorem aMV{t it b}:xs C (.loop t it b)=gZ t (lv C it) (xs C b):=rfl
end
theorem no{P:Prop}(h:false=true):P:=by cases h
theorem cD{a b:Bool}(h:(a&&b)=true):a=true/\b=true:=by
 cases a with
 | false=>exact no h
 | true=>exact⟨rfl,h⟩
theorem aL{a b:Bool}(h:(a&&b)=true):a=true:=(cD h).1
theorem aR{a b:Bool}(h:(a&&b)=true):b=true:=(cD h).2
theorem eO{c:Prop}{d:Decidable c}{f:c->Bool}(h:(@dite _ c d f λ _=>false)=true):c:=by
 cases d with
 | isTrue k=>exact k
 | isFalse _=>exact no h
noncomputable def eX(k:Str->Pos->Bool)(x:qw):Bool:=if h:x.ctorIdx=23 then @Expr.Name.elim (λ _=>Bool) x h k else false
theorem fD{P:qw->Prop}{k:Str->Pos->Bool}{x:qw}(h:eX k x=true)(g:∀ a b,k a b=true->P (.Name a b)):P x:=@Expr.Name.elim (λ e=>eX k e=true->P e) x (eO h) g h
noncomputable def kCo(k:Const->Nat->Pos->Bool)(x:qw):Bool:=if h:x.ctorIdx=19 then @Expr.Constant.elim (λ _=>Bool) x h k else false
theorem aRn{P:qw->Prop}{k:Const->Nat->Pos->Bool}{x:qw}(h:kCo k x=true)(g:∀ a b c,k a b c=true->P (.Constant a b c)):P x:=@Expr.Constant.elim (λ e=>kCo k e=true->P e) x (eO h) g h
noncomputable def pT(k:qw->vz->qw->Pos->Bool)(x:qw):Bool:=if h:x.ctorIdx=2 then @Expr.BinOp.elim (λ _=>Bool) x h k else false
theorem zA{P:qw->Prop}{k:qw->vz->qw->Pos->Bool}{x:qw}(h:pT k x=true)(g:∀ a b c d,k a b c d=true->P (.BinOp a b c d)):P x:=@Expr.BinOp.elim (λ e=>pT k e=true->P e) x (eO h) g h
noncomputable def vS(k:yx->qw->Pos->Bool)(x:qw):Bool:=if h:x.ctorIdx=3 then @Expr.UnaryOp.elim (λ _=>Bool) x h k else false
theorem aCG{P:qw->Prop}{k:yx->qw->Pos->Bool}{x:qw}(h:vS k x=true)(g:∀ a b c,k a b c=true->P (.UnaryOp a b c)):P x:=@Expr.UnaryOp.elim (λ e=>vS k e=true->P e) x (eO h) g h
noncomputable def zZ(k:qw->List jx->List qw->Pos->Bool)(x:qw):Bool:=if h:x.ctorIdx=15 then @Expr.Compare.elim (λ _=>Bool) x h k else false
theorem aHo{P:qw->Prop}{k:qw->List jx->List qw->Pos->Bool}{x:qw}(h:zZ k x=true)(g:∀ a b c d,k a b c d=true->P (.Compare a b c d)):P x:=@Expr.Compare.elim (λ e=>zZ k e=true->P e) x (eO h) g h
noncomputable def kBo(k:BoolOp->List qw->Pos->Bool)(x:qw):Bool:=if h:x.ctorIdx=0 then @Expr.BoolOp.elim (λ _=>Bool) x h k else false
theorem aRK{P:qw->Prop}{k:BoolOp->List qw->Pos->Bool}{x:qw}(h:kBo k x=true)(g:∀ a b c,k a b c=true->P (.BoolOp a b c)):P x:=@Expr.BoolOp.elim (λ e=>kBo k e=true->P e) x (eO h) g h
noncomputable def kIe(k:qw->qw->qw->Pos->Bool)(x:qw):Bool:=if h:x.ctorIdx=5 then @Expr.IfExp.elim (λ _=>Bool) x h k else false
theorem aRq{P:qw->Prop}{k:qw->qw->qw->Pos->Bool}{x:qw}(h:kIe k x=true)(g:∀ a b c d,k a b c d=true->P (.IfExp a b c d)):P x:=@Expr.IfExp.elim (λ e=>kIe k e=true->P e) x (eO h) g h
noncomputable def nQ(k:List qw->Nat->Pos->Bool)(x:qw):Bool:=if h:x.ctorIdx=25 then @Expr.Tuple.elim (λ _=>Bool) x h k else false
theorem pL{P:qw->Prop}{k:List qw->Nat->Pos->Bool}{x:qw}(h:nQ k x=true)(g:∀ a b c,k a b c=true->P (.Tuple a b c)):P x:=@Expr.Tuple.elim (λ e=>nQ k e=true->P e) x (eO h) g h
noncomputable def pS(k:List qw->Pos->Bool)(x:qw):Bool:=if h:x.ctorIdx=24 then @Expr.List.elim (λ _=>Bool) x h k else false
theorem uZ{P:qw->Prop}{k:List qw->Pos->Bool}{x:qw}(h:pS k x=true)(g:∀ a b,k a b=true->P (.List a b)):P x:=@Expr.List.elim (λ e=>pS k e=true->P e) x (eO h) g h
noncomputable def kSu(k:qw->qw->Pos->Bool)(x:qw):Bool:=if h:x.ctorIdx=21 then @Expr.Subscript.elim (λ _=>Bool) x h k else false
theorem aHX{P:qw->Prop}{k:qw->qw->Pos->Bool}{x:qw}(h:kSu k x=true)(g:∀ a b c,k a b c=true->P (.Subscript a b c)):P x:=@Expr.Subscript.elim (λ e=>kSu k e=true->P e) x (eO h) g h
noncomputable def kSl(k:Option qw->Option qw->Option qw->Pos->Bool)(x:qw):Bool:=if h:x.ctorIdx=26 then @Expr.Slice.elim (λ _=>Bool) x h k else false
theorem aR7{P:qw->Prop}{k:Option qw->Option qw->Option qw->Pos->Bool}{x:qw}(h:kSl k x=true)(g:∀ a b c d,k a b c d=true->P (.Slice a b c d)):P x:=@Expr.Slice.elim (λ e=>kSl k e=true->P e) x (eO h) g h
noncomputable def zY(k:qw->List qw->List Keyword->Pos->Bool)(x:qw):Bool:=if h:x.ctorIdx=16 then @Expr.Call.elim (λ _=>Bool) x h k else false
theorem aHE{P:qw->Prop}{k:qw->List qw->List Keyword->Pos->Bool}{x:qw}(h:zY k x=true)(g:∀ a b c d,k a b c d=true->P (.Call a b c d)):P x:=@Expr.Call.elim (λ e=>zY k e=true->P e) x (eO h) g h
noncomputable def zX(k:qw->Str->Pos->Bool)(x:qw):Bool:=if h:x.ctorIdx=20 then @Expr.Attribute.elim (λ _=>Bool) x h k else false
theorem aHB{P:qw->Prop}{k:qw->Str->Pos->Bool}{x:qw}(h:zX k x=true)(g:∀ a b c,k a b c=true->P (.Attribute a b c)):P x:=@Expr.Attribute.elim (λ e=>zX k e=true->P e) x (eO h) g h
noncomputable def kLc(k:qw->List Comprehension->zw->Pos->Bool)(x:qw):Bool:=if h:x.ctorIdx=8 then @Expr.ListComp.elim (λ _=>Bool) x h k else false
theorem aSg{P:qw->Prop}{k:qw->List Comprehension->zw->Pos->Bool}{x:qw}(h:kLc k x=true)(g:∀ a b c d,k a b c d=true->P (.ListComp a b c d)):P x:=@Expr.ListComp.elim (λ e=>kLc k e=true->P e) x (eO h) g h
noncomputable def wD(k:qw->Pos->Bool)(x:zy):Bool:=if h:x.ctorIdx=24 then @Stmt.Expr.elim (λ _=>Bool) x h k else false
theorem aCO{P:zy->Prop}{k:qw->Pos->Bool}{x:zy}(h:wD k x=true)(g:∀ a b,k a b=true->P (.Expr a b)):P x:=@Stmt.Expr.elim (λ e=>wD k e=true->P e) x (eO h) g h
noncomputable def zV(k:Option qw->Pos->Bool)(x:zy):Bool:=if h:x.ctorIdx=3 then @Stmt.Return.elim (λ _=>Bool) x h k else false
theorem aHM{P:zy->Prop}{k:Option qw->Pos->Bool}{x:zy}(h:zV k x=true)(g:∀ a b,k a b=true->P (.Return a b)):P x:=@Stmt.Return.elim (λ e=>zV k e=true->P e) x (eO h) g h
noncomputable def kSf(k:qw->List zy->List zy->Pos->Bool)(x:zy):Bool:=if h:x.ctorIdx=12 then @Stmt.If.elim (λ _=>Bool) x h k else false
theorem aHQ{P:zy->Prop}{k:qw->List zy->List zy->Pos->Bool}{x:zy}(h:kSf k x=true)(g:∀ a b c d,k a b c d=true->P (.If a b c d)):P x:=@Stmt.If.elim (λ e=>kSf k e=true->P e) x (eO h) g h
noncomputable def iK(k:List qw->qw->Pos->Bool)(x:zy):Bool:=if h:x.ctorIdx=5 then @Stmt.Assign.elim (λ _=>Bool) x h k else false
theorem jS{P:zy->Prop}{k:List qw->qw->Pos->Bool}{x:zy}(h:iK k x=true)(g:∀ a b c,k a b c=true->P (.Assign a b c)):P x:=@Stmt.Assign.elim (λ e=>iK k e=true->P e) x (eO h) g h
noncomputable def zW(k:qw->qw->List zy->List zy->Pos->Bool)(x:zy):Bool:=if h:x.ctorIdx=9 then @Stmt.For.elim (λ _=>Bool) x h k else false
theorem aHS{P:zy->Prop}{k:qw->qw->List zy->List zy->Pos->Bool}{x:zy}(h:zW k x=true)(g:∀ a b c d e,k a b c d e=true->P (.For a b c d e)):P x:=@Stmt.For.elim (λ e=>zW k e=true->P e) x (eO h) g h
noncomputable def gX{α:Type}(k:α->Bool)(l:List α):Bool:=match l with
 | [a]=>k a
 | _=>false
theorem gI{α:Type}{P:List α->Prop}{k:α->Bool}:∀ {l:List α},gX k l=true->(∀ a,k a=true->P [a])->P l
 | [],h,_=>no h
 | [a],h,g=>g a h
 | _::_::_,h,_=>no h
noncomputable def rL{α:Type}(k:α->α->Bool)(l:List α):Bool:=match l with
 | a::r=>gX (k a) r
 | []=>false
theorem uA{α:Type}{P:List α->Prop}{k:α->α->Bool}:∀ {l:List α},rL k l=true->(∀ a b,k a b=true->P [a,b])->P l
 | [],h,_=>no h
 | a::_,h,g=>gI (P:=λ r=>P (a::r)) h (g a)
noncomputable def aHT{α:Type}(k:α->α->α->Bool)(l:List α):Bool:=match l with
 | a::r=>rL (k a) r
 | []=>false
theorem aPR{α:Type}{P:List α->Prop}{k:α->α->α->Bool}:∀ {l:List α},aHT k l=true->(∀ a b c,k a b c=true->P [a,b,c])->P l
 | [],h,_=>no h
 | a::_,h,g=>uA (P:=λ r=>P (a::r)) h (g a)
theorem fB{α:Type}{P:List α->Prop}:∀ {l:List α},l.isEmpty=true->P []->P l
 | [],_,g=>g
 | _::_,h,_=>no h
noncomputable def vL{α:Type}(o:Option α):Bool:=match o with
 | none=>true
 | some _=>false
theorem yU{α:Type}{P:Option α->Prop}:∀ {o:Option α},vL o=true->P qz->P o
 | none,_,g=>g
 | some _,h,_=>no h
theorem rB{α:Type}{P:Option α->Prop}{k:α->Bool}:∀ {o:Option α},o.any k=true->(∀ a,k a=true->P (qq a))->P o
 | none,h,_=>no h
 | some a,h,g=>g a h
theorem dT{p:Prop}{d:Decidable p}(h:decide p=true):p:=oqT h
noncomputable def jI(sc:zw)(x:Str):Bool:=match sc.names.lookup x with
 | some .local=>true | some .cell=>true | some .free=>true | _=>false
noncomputable def loc(sc:zw)(x:Str):Bool:=match sc.names.lookup x with
 | some .local=>true | some .cell=>true | _=>false
noncomputable def aGX(e:E):Bool:=decide (e.ctorIdx=E.nil.ctorIdx)
theorem aR6{P:E->Prop}{e:E}(h:aGX e=true)(g:P .nil):P e:=@E.nil.elim P e (dT h) g
theorem aKF{α:Type}{o:Option α}{p:α->Bool}(h:o.any p=true):∃ a,o=qq a/\p a=true:=by
 cases o with
 | none=>cases h
 | some a=>exact⟨a,rfl,h⟩
noncomputable def lo(sc:zw)(x:Str):Bool:=decide (sc.names.lookup x=qq .local)
noncomputable def gl(sc:zw)(x:Str):Bool:=decide (sc.names.lookup x=qq .globalImplicit)
noncomputable def cB(e:qw):Bool:=![7,22,26].contains e.ctorIdx
noncomputable def kQ(e:qw):Bool:=![0,3,5,15].contains e.ctorIdx
noncomputable def xM(e:qw):Bool:=![16].contains e.ctorIdx
noncomputable def fL(e:qw):Bool:=![8,9,10].contains e.ctorIdx
noncomputable def yM(e:qw):Bool:=nQ (λ _ _ _=>true) e
noncomputable def lC:List qw->Bool
 | []=>true
 | e::r=>cB e&&lC r
noncomputable def pB(scope osc:zw):zw:={scope with names:=scope.names.map λ(n,k)=>if (k==.free&&osc.kind==.function&&osc.names.lookup n==qq .cell) then (n,.cell) else (n,k) }
noncomputable def aCa(scope osc:zw):Bool:=decide (scope.kind=.function)&&scope.names.all λ x=>(!decide (x.2=.cell))&&(!decide (x.2=.free)||decide (osc.names.lookup x.1=qq .cell)||decide (osc.names.lookup x.1=qq .free))&&(!decide (x.2=.local)||decide (scope.names.lookup x.1=qq .local))
noncomputable def zK(N:List Str)(scope:zw)(is:List Nat):Nat->Bool
 | 0=>true
 | n+1=>zK N scope is n&&(match N[n]? with
   | some x=>!decide (scope.names.lookup x=qq .local)||is.contains n
   | none=>true)
noncomputable def aBY(b:Bool)(N:List Str)(sc:zw)(i:Nat)(x:Str):Bool:=decide (N[i]? = qq x)&&(match b with
 | true=>decide (sc.names.lookup x=qq .local)
 | false=>loc sc x)
noncomputable def aBG(b:Bool)(N:List Str)(sc:zw):List Nat->List qw->Bool
 | [],es=>es.isEmpty
 | i::is,es=>(match es with
   | e::r=>eX (λ x _=>aBY b N sc i x&&aBG b N sc is r) e
   | []=>false)
noncomputable def rG(b:Bool)(N:List Str)(sc:zw)(t:Tg)(e:qw):Bool:=match t with
 | .one i=>eX (λ x _=>aBY b N sc i x) e
 | .many is=>nQ (λ es _ _=>aBG b N sc is es) e
noncomputable def aE3(e:E):Bool:=decide (e.ctorIdx=(E.comp .no (.one 0) .no .no).ctorIdx)
theorem aRi{P:E->Prop}{e:E}(h:aE3 e=true)(g:∀ a t b c,P (.comp a t b c)):P e:=@E.comp.elim P e (dT h) g
noncomputable def aCR(e:E):Bool:=decide (e.ctorIdx=E.no.ctorIdx)
theorem aHO{P:E->Prop}{e:E}(h:aCR e=true)(g:P .no):P e:=@E.no.elim P e (dT h) g
noncomputable def iJ(c:Const)(e:qw):Bool:=kCo (λ d _ _=>decide (d=c)) e
theorem jP{P:qw->Prop}{c:Const}{x:qw}(h:iJ c x=true)(g:∀ k p,P (.Constant c k p)):P x:=
 aRn h λ _ k p z=>(dT z)▸g k p
noncomputable def pK(k:qw->jx->qw->Bool)(e:qw):Bool:=zZ (λ x os ys _=>gX (λ o=>gX (λ y=>k x o y&&cB y) ys) os) e
theorem qZ{P:qw->Prop}{k:qw->jx->qw->Bool}{x:qw}(h:pK k x=true)(g:∀ a o b p,k a o b=true->cB b=true->P (.Compare a [o] [b] p)):P x:=
 aHo h λ a os _ p z=>gI (P:=λ os=>P (.Compare a os _ p)) z λ o z=>gI (P:=λ ys=>P (.Compare a [o] ys p)) z λ b z=>g a o b p (aL z) (aR z)
noncomputable def aCH(k:qw->jx->qw->jx->qw->Bool)(e:qw):Bool:=zZ (λ x os ys _=>rL (λ o o'=>rL (λ y z=>k x o y o' z&&cB z) ys) os) e
theorem aGT{P:qw->Prop}{k:qw->jx->qw->jx->qw->Bool}{x:qw}(h:aCH k x=true)(g:∀ a o b o' c p,k a o b o' c=true->cB c=true->P (.Compare a [o,o'] [b,c] p)):P x:=
 aHo h λ a os _ p z=>uA (P:=λ os=>P (.Compare a os _ p)) z λ o o' z=>uA (P:=λ ys=>P (.Compare a [o,o'] ys p)) z λ b c z=>g a o b o' c p (aL z) (aR z)
noncomputable def rA(op:BoolOp)(k:qw->qw->Bool)(e:qw):Bool:=kBo (λ o es p=>decide (o=op)&&(match es with
 | [x,y]=>k x y
 | x::y::z::r=>k x (.BoolOp op (y::z::r) p)
 | _=>false)) e
theorem tR{P:qw->Prop}{op:BoolOp}{k:qw->qw->Bool}{x:qw}(h:rA op k x=true)(g:∀ a b p,k a b=true->P (.BoolOp op [a,b] p))(f:∀ a b c r p,k a (.BoolOp op (b::c::r) p)=true->P (.BoolOp op (a::b::c::r) p)):P x:=
 aRK h λ o es p z=>by
  obtain rfl:=dT (aL z)
  match es,aR z with
  | [a,b],z=>exact g a b p z
  | a::b::c::r,z=>exact f a b c r p z
  | [],z=>exact no z
  | [_],z=>exact no z
noncomputable def vU(k:qw->qw->Bool)(e:qw):Bool:=kSu (λ x y _=>k x y&&cB y) e
theorem aCK{P:qw->Prop}{k:qw->qw->Bool}{x:qw}(h:vU k x=true)(g:∀ a b p,k a b=true->cB b=true->P (.Subscript a b p)):P x:=aHX h λ a b p z=>g a b p (aL z) (aR z)
noncomputable def aCA(k:qw->Option qw->Option qw->Bool)(e:qw):Bool:=kSu (λ x s _=>kSl (λ l h t _=>vL t&&k x l h) s) e
theorem aGI{P:qw->Prop}{k:qw->Option qw->Option qw->Bool}{x:qw}(h:aCA k x=true)(g:∀ a l u p q,k a l u=true->P (.Subscript a (.Slice l u qz p) q)):P x:=
 aHX h λ a _ q z=>aR7 (P:=λ s=>P (.Subscript a s q)) z λ l u _ p z=>yU (P:=λ t=>P (.Subscript a (.Slice l u t p) q)) (aL z) (g a l u p q (aR z))
noncomputable def iU(k:Str->List qw->Bool)(e:qw):Bool:=zY (λ f xs ks _=>eX (λ n _=>ks.isEmpty&&k n xs) f) e
theorem lP{P:qw->Prop}{k:Str->List qw->Bool}{x:qw}(h:iU k x=true)(g:∀ n p xs q,k n xs=true->P (.Call (.Name n p) xs [] q)):P x:=
 aHE h λ _ xs ks q z=>fD (P:=λ f=>P (.Call f xs ks q)) z λ n p z=>fB (P:=λ ks=>P (.Call (.Name n p) xs ks q)) (aL z) (g n p xs q (aR z))
noncomputable def sB(nm:Str)(sc:zw)(k:qw->Bool)(e:qw):Bool:=iU (λ n xs=>decide (n=nm)&&gl sc n&&gX (λ y=>k y&&cB y) xs) e
theorem vA{P:qw->Prop}{nm:Str}{sc:zw}{k:qw->Bool}{x:qw}(h:sB nm sc k x=true)(g:∀ p y q,gl sc nm=true->k y=true->cB y=true->P (.Call (.Name nm p) [y] [] q)):P x:=
 lP h λ n p xs q z=>by
  obtain rfl:=dT (aL (aL z));exact gI (P:=λ xs=>P (.Call (.Name n p) xs [] q)) (aR z) λ y u=>g p y q (aR (aL z)) (aL u) (aR u)
noncomputable def sD(nm:Str)(sc:zw)(k l:qw->Bool)(e:qw):Bool:=iU (λ n xs=>decide (n=nm)&&gl sc n&&rL (λ y z=>(k y&&cB y)&&(l z&&cB z)) xs) e
theorem zQ{P:qw->Prop}{nm:Str}{sc:zw}{k l:qw->Bool}{x:qw}(h:sD nm sc k l x=true)(g:∀ p y z q,gl sc nm=true->k y=true->cB y=true->l z=true->cB z=true->P (.Call (.Name nm p) [y,z] [] q)):P x:=
 lP h λ n p xs q z=>by
  obtain rfl:=dT (aL (aL z));exact uA (P:=λ xs=>P (.Call (.Name n p) xs [] q)) (aR z) λ y w u=>g p y w q (aR (aL z)) (aL (aL u)) (aR (aL u)) (aL (aR u)) (aR (aR u))
noncomputable def kMe(nm:Str)(k:qw->List qw->Bool)(e:qw):Bool:=zY (λ f xs ks cp=>zX (λ o m ap=>ks.isEmpty&&(ap.endLine==cp.line)&&decide (m=nm)&&xM o&&k o xs) f) e
theorem aHC{P:qw->Prop}{nm:Str}{k:qw->List qw->Bool}{x:qw}(h:kMe nm k x=true)(g:∀ o ap xs cp,(ap.endLine==cp.line)=true->xM o=true->k o xs=true->P (.Call (.Attribute o nm ap) xs [] cp)):P x:=
 aHE h λ _ xs ks cp z=>aHB (P:=λ f=>P (.Call f xs ks cp)) z λ o m ap z=>by
  obtain rfl:=dT (aR (aL (aL z)));exact fB (P:=λ ks=>P (.Call (.Attribute o m ap) xs ks cp)) (aL (aL (aL (aL z)))) (g o ap xs cp (aR (aL (aL (aL z)))) (aR (aL z)) (aR z))
noncomputable def vH(nm:Str)(k l:qw->Bool)(e:qw):Bool:=kMe nm (λ o xs=>k o&&gX (λ y=>l y&&cB y) xs) e
theorem yJ{P:qw->Prop}{nm:Str}{k l:qw->Bool}{x:qw}(h:vH nm k l x=true)(g:∀ o ap y cp,(ap.endLine==cp.line)=true->xM o=true->k o=true->l y=true->cB y=true->P (.Call (.Attribute o nm ap) [y] [] cp)):P x:=
 aHC h λ o ap xs cp h1 h2 z=>gI (P:=λ xs=>P (.Call (.Attribute o nm ap) xs [] cp)) (aR z) λ y u=>g o ap y cp h1 h2 (aL z) (aL u) (aR u)
noncomputable def aGU(k:qw->qw->qw->List qw->zw->Bool)(e:qw):Bool:=kLc (λ el gs sc _=>gX (λ g=>decide (g.is_async=0)&&k el g.target g.iter g.ifs sc) gs) e
theorem aO3{P:qw->Prop}{k:qw->qw->qw->List qw->zw->Bool}{x:qw}(h:aGU k x=true)(g:∀ e tg it ifs sc p,k e tg it ifs sc=true->P (.ListComp e [⟨tg,it,ifs,0⟩] sc p)):P x:=
 aSg h λ e _ sc p z=>gI (P:=λ gs=>P (.ListComp e gs sc p)) z λ aM z=>by
  obtain⟨tg,it,ifs,as⟩:=aM;obtain rfl:as=0:=dT (aL z);exact g e tg it ifs sc p (aR z)
noncomputable def aCC(N:List Str)(t:Tg)(cond:E)(sc:zw)(fI:qw->qw->Bool)(fT fE:zw->qw->Bool)(x:qw):Bool:=aGU (λ e tg iter ifs scope=>aCa scope sc&&zK N scope t.slots N.length&&rG true N (pB scope sc) t tg&&fI tg iter&&cB iter &&
 (match ifs with | []=>aCR cond | y::r=>r.isEmpty&&fT (pB scope sc) y)&&fE (pB scope sc) e) x
theorem aCU{P:qw->Prop}{N:List Str}{t:Tg}{cond:E}{sc:zw}{fI:qw->qw->Bool}{fT fE:zw->qw->Bool}{x:qw}(h:aCC N t cond sc fI fT fE x=true)(g:∀ e tg iter ifs scope p,aCa scope sc=true->zK N scope t.slots N.length=true->rG true N (pB scope sc) t tg=true->fI tg iter=true->cB iter=true->(match ifs with | []=>aCR cond | y::r=>r.isEmpty&&fT (pB scope sc) y)=true->fE (pB scope sc) e=true->P (.ListComp e [⟨tg,iter,ifs,0⟩] scope p)):P x:=
 aO3 h λ e tg iter ifs scope p h=>g e tg iter ifs scope p (aL (aL (aL (aL (aL (aL h)))))) (aR (aL (aL (aL (aL (aL h)))))) (aR (aL (aL (aL (aL h))))) (aR (aL (aL (aL h)))) (aR (aL (aL h))) (aR (aL h)) (aR h)
structure Tx where
 fn:List (Str×Nat)
 tb:List (Str×List (Str×Tv))
 cn:List (Str×List Tv)
 st:List (Str×Str)
section
variable (T : Tx)(N : List Str)
mutual
noncomputable def bD:E->zw->qw->Bool
 | .var i,sc,x=>eX (λ x _=>decide (N[i]? = qq x)&&jI sc x && !(x==("__debug__" : Str)) && !(x==("__classdict__" : Str))) x
 | .int i,_,x=>iJ (.int i) x
 | .bl i,_,x=>iJ (.bool i) x
 | .non,_,x=>iJ .none x
 | .str i,_,x=>iJ (.str i) x
 | .bin op a b,sc,x=>pT (λ x op' y _=>decide (op'=op)&&bD a sc x&&bD b sc y) x
 | .un op a,sc,x=>vS (λ op' x _=>decide (op'=op) && !decide (op=.Not)&&bD a sc x) x
 | .cmp op a b,sc,x=>pK (λ x op' y=>decide (op'=op)&&bD a sc x&&bD b sc y) x
 | .and a b,sc,x=>rA .And (λ x y=>bD a sc x&&bD b sc y) x
 | .or a b,sc,x=>rA .Or (λ x y=>bD a sc x&&bD b sc y) x
 | .not a,sc,x=>vS (λ o x _=>decide (o=.Not)&&bD a sc x) x
 | .ite c a b,sc,x=>kIe (λ x y z _=>jY c sc x&&bD a sc y&&bD b sc z) x
 | .tup es,sc,x=>nQ (λ xs _ _=>jU es sc xs) x
 | .ix a b,sc,x=>vU (λ x y=>bD a sc x&&bD b sc y) x
 | .chn op op' a b c,sc,x=>aCH (λ x o y o' z=>decide (o=op)&&decide (o'=op')&&bD a sc x&&bD b sc y&&bD c sc z) x
 | .con n ts,sc,x=>eX (λ x _=>decide (x=n)&&T.cn.contains (n,ts)&&gl sc x && !(x==("__debug__" : Str))) x
 | .tab n aK k,sc,x=>vU (λ x y=>bD k sc y&&eX (λ x _=>decide (x=n)&&T.tb.contains (n,aK)&&gl sc x && !(x==("__debug__" : Str))) x) x
 | .sl a lo hi,sc,x=>aCA (λ x l h=>bD a sc x&&wA lo sc l&&wA hi sc h) x
 | .call f es,sc,x=>iU (λ x xs=>decide ((T.fn[f]?).map (·.1)=qq x)&&gl sc x && !(x==("__debug__" : Str))&&jU es sc xs&&lC xs) x
 | .blt b es,sc,x=>iU (λ x ys=>!ys.isEmpty&&decide (x=b.n)&&gl sc x&&jU es sc ys&&lC ys) x
 | .isi a n,sc,x=>sD "isinstance" sc (λ y=>bD a sc y) (λ z=>eX (λ z _=>decide (z=n.n)&&gl sc z) z) x
 | .app o a,sc,x=>vH "append" (λ x=>bD o sc x) (λ y=>bD a sc y) x
 | .fz a,sc,e=>vX a sc e
 | .new a,sc,e=>vX a sc e
 | .ins n a b,sc,x=>pK (λ x op' y=>decide (op'=oQ n)&&bD a sc x&&bD b sc y) x
 | .st1 a,sc,x=>sB "str" sc (λ y=>bD a sc y) x
 | .itx a,sc,x=>sB "int" sc (λ y=>bD a sc y) x
 | .jn o a,sc,x=>vH "join" (λ x=>bD o sc x) (λ y=>bD a sc y) x
 | .intb n aK k,sc,x=>pK (λ x op' y=>decide (op'=.In)&&bD k sc x&&eX (λ x _=>decide (x=n)&&T.tb.contains (n,aK)&&gl sc x && !(x==("__debug__" : Str))) y) x
 | .sls a lo hi,sc,x=>aCA (λ x l h=>bD a sc x&&wA lo sc l&&wA hi sc h) x
 | .srep a b,sc,x=>pT (λ x op' y _=>decide (op'=.Mult)&&bD a sc x&&bD b sc y) x
 | .gst n y,sc,x=>eX (λ x _=>decide (x=n)&&T.st.contains (n,y)&&gl sc x && !(x==("__debug__" : Str))) x
 | _,_,_=>false
noncomputable def jY:E->zw->qw->Bool
 | .and a b,sc,x=>rA .And (λ x y=>jY a sc x&&jY b sc y) x
 | .or a b,sc,x=>rA .Or (λ x y=>jY a sc x&&jY b sc y) x
 | .not a,sc,x=>vS (λ o x _=>decide (o=.Not)&&jY a sc x) x
 | .chn op op' a b c,sc,x=>aCH (λ x o y o' z=>decide (o=op)&&decide (o'=op')&&bD a sc x&&bD b sc y&&bD c sc z) x
 | .cmp op a b,sc,x=>pK (λ x op' y=>decide (op'=op)&&bD a sc x&&bD b sc y) x
 | .var i,sc,x=>eX (λ x _=>decide (N[i]? = qq x)&&jI sc x && !(x==("__debug__" : Str)) && !(x==("__classdict__" : Str))) x&&kQ x
 | .bl i,_,x=>iJ (.bool i) x&&kQ x
 | .bin op a b,sc,x=>pT (λ x op' y _=>decide (op'=op)&&bD a sc x&&bD b sc y) x&&kQ x
 | .ix a b,sc,x=>vU (λ x y=>bD a sc x&&bD b sc y) x&&kQ x
 | .call f es,sc,x=>iU (λ x xs=>decide ((T.fn[f]?).map (·.1)=qq x)&&gl sc x && !(x==("__debug__" : Str))&&jU es sc xs&&lC xs) x&&kQ x
 | .blt b es,sc,x=>iU (λ x ys=>!ys.isEmpty&&decide (x=b.n)&&gl sc x&&jU es sc ys&&lC ys) x&&kQ x
 | .isi a n,sc,x=>sD "isinstance" sc (λ y=>bD a sc y) (λ z=>eX (λ z _=>decide (z=n.n)&&gl sc z) z) x&&kQ x
 | .ins n a b,sc,x=>pK (λ x op' y=>decide (op'=oQ n)&&bD a sc x&&bD b sc y) x
 | _,_,_=>false
noncomputable def jU:E->zw->List qw->Bool
 | .nil,_,xs=>xs.isEmpty
 | .cons a r,sc,xs=>(match xs with
   | x::xs=>bD a sc x&&cB x&&jU r sc xs
   | []=>false)
 | _,_,_=>false
noncomputable def wA:E->zw->Option qw->Bool
 | .no,_,x=>vL x
 | .cons a r,sc,x=>aGX r&&x.any λ x=>bD a sc x
 | _,_,_=>false
noncomputable def vX:E->zw->qw->Bool
 | .lst es,sc,x=>pS (λ xs _=>jU es sc xs) x
 | .lof a,sc,x=>sB "list" sc (λ y=>bD a sc y) x
 | .comp elt t it cond,sc,x=>aCC N t cond sc (λ g y=>vR it sc g y) (λ s y=>jY cond s y) (λ s y=>bD elt s y) x
 | .ls3 x a b o y z es,sc,e=>pS (λ xs _=>decide (y≠z)&&decide (z.length<=10)&&(match xs with
   | e1::e2::e3::r=>pT (λ u op v _=>decide (op=.Add)&&iJ (.str x) u&&bD a sc v) e1&&(bD b sc e2&&cB e2)&&kMe "replace" (λ q ys=>bD o sc q&&aHT (λ u v w=>iJ (.str y) u&&iJ (.str z) v&&iJ (.int 1) w) ys) e3&&jU es sc r
   | _=>false)) e
 | .spl o a,sc,x=>vH "split" (λ x=>bD o sc x) (λ y=>bD a sc y) x
 | _,_,_=>false
noncomputable def vR:E->zw->qw->qw->Bool
 | .it a,sc,_,x=>bD a sc x
 | .rng1 a,sc,_,x=>sB "range" sc (λ y=>bD a sc y) x
 | .enm a,sc,tg,x=>yM tg&&sB "enumerate" sc (λ y=>bD a sc y) x
 | .its a,sc,_,x=>bD a sc x
 | _,_,_,_=>false
end
mutual
noncomputable def okS:Sx->zw->zy->Bool
 | .expr e,sc,st=>wD (λ x _=>bD T N e sc x&&fL x) st
 | .ret e,sc,st=>zV (λ v _=>v.any λ x=>bD T N e sc x) st
 | .ifs c a b,sc,st=>kSf (λ x y z _=>jY T N c sc x&&kP a sc y&&kP b sc z) st
 | .set i e,sc,st=>iK (λ ts y _=>bD T N e sc y&&fL y&&gX (λ t=>eX (λ x _=>decide (N[i]? = qq x)&&loc sc x) t) ts) st
 | .setC _ i e,sc,st=>iK (λ ts y _=>aE3 e&&vX T N e sc y&&gX (λ t=>eX (λ x _=>decide (N[i]? = qq x)&&loc sc x) t) ts) st
 | .setT t e,sc,st=>iK (λ ts y _=>bD T N e sc y&&fL y && !yM y&&gX (λ tg=>yM tg&&rG false N sc t tg) ts) st
 | .put o i e,sc,st=>iK (λ ts z _=>bD T N e sc z&&fL z&&gX (λ t=>vU (λ x y=>bD T N o sc x&&bD T N i sc y) t) ts) st
 | .loop t it b,sc,st=>zW (λ tg x y z _=>z.isEmpty&&rG false N sc t tg&&vR T N it sc tg x&&cB x&&kP b sc y) st
 | _,_,_=>false
noncomputable def kP:Sx->zw->List zy->Bool
 | .skip,_,l=>l.isEmpty
 | .seq a b,sc,l=>(match l with
   | st::r=>okS a sc st&&kP b sc r
   | []=>false)
 | _,_,_=>false
end
end
noncomputable def bltNames:List Str:=["len", "max", "min", "int", "abs", "tuple", "sum", "all", "any", "isinstance", "list", "range", "enumerate", "bool", "str", "reversed", "zip", "sorted"]
structure Ctx(T:Tx)(C:Calls)(X:Cx):Prop where
 nd:X.N.Nodup
 calm:X.calm=true
 xe:X.xe=λ _ _=>False
 kind:X.env.scope.kind=.function
 room:∃ k,Room k X.A/\∀ f np call x,C f=qq (np,call)->(T.fn[f]?).map (·.1)=qq x->∃ fa fd ps,X.mg x=qq (.ref fa)/\yBw X.K (.ref fa)=true/\eA X.K fd ps []/\FnOk X.prog X.w X.K X.mg X.base fV k fa fd ps (iN X.K np call)
 blt:∀ x∈bltNames,X.mg x=qz
 tbs:∀ x aK,(x,aK)∈T.tb->∃ a,X.mg x=qq (.ref a)/\mV X.K X.w a aK
 cns:∀ x ts,(x,ts)∈T.cn->∃ a,X.mg x=qq (.ref a)/\oS X.K a ts
 sts:∀ x y,(x,y)∈T.st->∃ t,X.mg x=qq (.str y t)
theorem Ctx.units{T:Tx}{C:Calls}{X:Cx}(h:Ctx T C X):X.A.units+64<cLine:=let ⟨_,r,_⟩:=h.room;r.units
theorem Ctx.own{T:Tx}{C:Calls}{X:Cx}(h:Ctx T C X):PassesOwn (model X.prog X.w) X.A X.env X.xe:=by rw[h.xe];exact PassesOwn.never
theorem Ctx.comp{T:Tx}{C:Calls}{X Y:Cx}{scope:zw}(h:Ctx T C X)(hk:scope.kind=.function)(hy:jM X scope Y):Ctx T C Y/\Y.env.scope=pB scope X.env.scope/\Y.N=X.N/\Y.K=X.K:=by
 obtain⟨aA,fp,Ca,s₀,H₀,rfl⟩:=hy;exact⟨⟨h.nd,h.calm,rfl,hk,h.room,h.blt,h.tbs,h.cns,h.sts⟩,rfl,rfl,rfl⟩
theorem dX{e:qw}(h:cB e=true)(es:List qw)(env:Env):zj (e::es) env=(false,eval e env)::zj es env:=by
 cases e<;>first | rfl | exact no h
theorem sW:∀ {es:List qw} (h:lC es=true) (env:Env) (pos:Pos),(backTo pos (zj es env)).any (·.1)=false
 | [],_,_,_=>rfl
 | e::es,h,env,pos=>by
   obtain⟨h1,h2⟩:=cD h;rw[dX h1];show(false||(backTo pos (zj es env)).any (·.1))=false
   rw[sW h2 env pos];rfl
theorem aHc{e:qw}(h:cB e=true):xJ e:=by
 intro o i;cases e<;>first | rfl | exact no h
theorem nV{e:qw}(h:cB e=true)(op:jx):jv op e=false:=by
 cases e<;>first | rfl | exact no h
theorem sM{e:qw}(h:cB e=true)(env:Env)(x:qx):jj e env x=pure x:=by
 cases e<;>first | rfl | exact no h
theorem mO{e:qw}(h:xM e=true)(m:Str)(env:Env):attributeBase e m env (eval e env)=eval e env:=by
 cases e<;>first | rfl | exact no h
theorem mH{e:qw}(h:fL e=true)(t:Option qw)(line:Nat)(env:Env):swapsWith e t line env=pure false:=by
 cases e<;>first | rfl | exact no h
theorem aNU{e:qw}(h:kQ e=true)(env:Env)(eY:Sem qx):isTrue e env eY=(do let v <- eY;standAt e.pos;holding [v] (truthy v)):=by
 cases e<;>first | rfl | exact no h
theorem aKf{o i:qw}{pos:Pos}{env:Env}(h:cB i=true)(v:qx):assign (.Subscript o i pos) env v=(do
 let ov <- holding [v] (eval o env)
 let iv <- holding [v,ov] (eval i env)
 standAt pos
 holding [v,ov,iv] (setItem ov iv v)
 release [v,ov,iv] []):=by
 cases i<;>first | rfl | exact no h
section
variable {X : Cx}
theorem aBV{x:Str}(h:jI X.env.scope x=true):mC X.env.scope x:=by
 unfold jI at h;unfold mC
 split at h<;>first | exact .inl (by assumption) | exact .inr (.inl (by assumption)) | exact .inr (.inr (by assumption)) | exact no h
theorem qR{x:Str}(h:loc X.env.scope x=true):L2.Loc X.env.scope x:=by
 unfold loc at h;unfold L2.Loc
 split at h<;>first | exact .inl (by assumption) | exact .inr (by assumption) | exact no h
theorem dM{x:Str}(h:gl X.env.scope x=true):Gl X x:=(oqT h:X.env.scope.names.lookup x=qq .globalImplicit)
theorem dU{x y:Str}(h:(!(x==y))=true):(x==y)=false:=by
 cases e:x==y with
 | false=>rfl
 | true=>rw[e] at h;exact no h
def aB5(b:Bool)(X:Cx):Prop:=b=true\/∀ x,X.fn x=true
theorem aFL{b:Bool}(st:aB5 b X){i:Nat}{x:Str}(h:aBY b X.N X.env.scope i x=true):X.N[i]? = qq x/\L2.Loc X.env.scope x/\(X.fn x=true\/X.env.scope.names.lookup x=qq .local):=by
 obtain⟨h1,h2⟩:=cD h;cases b with
 | true =>
   have h3:=oqT h2;exact⟨oqT h1,.inl h3,.inr h3⟩
 | false =>
   refine⟨oqT h1,qR h2,?_⟩;rcases st with z | z
   ·cases z
   ·exact .inl (z x)
noncomputable def vM:List Nat->iM
 | []=>aCJ
 | i::is=>aCo (mW i) (vM is)
noncomputable def pQ(K:FrG):Tg->TG
 | .one i=>mW i
 | .many is=>aCP K is.length (vM is)
theorem aGx(K:FrG):∀ is:List Nat,vY K is (vM is)
 | []=>aMm
 | _::is=>aKX (aGx K is)
theorem qX(K:FrG)(t:Tg):GA K t (pQ K t):=by
 cases t with
 | one i=>exact aNf i
 | many is=>exact aL7 (aGx K is)
theorem aEC{b:Bool}(st:aB5 b X)(nd:X.N.Nodup):∀ {is:List Nat}{es:List qw},aBG b X.N X.env.scope is es=true->pP X es (vM is)/\(xj es X.env).length=is.length/\(xj es X.env).findIdx? (·.1)=qz
 | [],[],_=>⟨aLM,rfl,rfl⟩
 | [],_::_,h=>no h
 | _::_,[],h=>no h
 | i::is,e::r,h=>fD (P:=λ e=>pP X (e::r) (vM (i::is))/\(xj (e::r) X.env).length=(i::is).length/\(xj (e::r) X.env).findIdx? (·.1)=qz) h λ x p h=>by
   obtain⟨a1,a2,a3⟩:=aFL st (aL h);obtain⟨pg,hl2,hf⟩:=aEC st nd (aR h);refine⟨aK3 (aBt nd a1 a2 a3) pg rfl,?_,?_⟩
   ·show((false,assign (.Name x p) X.env)::xj r X.env).length=_;rw[yBf,yBf,hl2]
   ·show((false,assign (.Name x p) X.env)::xj r X.env).findIdx? (·.1)=qz;rw[List.findIdx?_cons,hf];rfl
theorem qY{b:Bool}(st:aB5 b X)(nd:X.N.Nodup)(hc:X.calm=true){t:Tg}{tg:qw}(h:rG b X.N X.env.scope t tg=true):PG X tg (pQ X.K t):=by
 cases t with
 | one i=>exact fD (P:=λ e=>PG X e (mW i)) h λ x p h=>let ⟨a1,a2,a3⟩:=aFL st h;aBt nd a1 a2 a3
 | many is=>exact pL (P:=λ e=>PG X e (pQ X.K (.many is))) h λ es k p h=>let ⟨pg,hl2,hf⟩:=aEC st nd h;aOC hc pg hl2 hf
end
section
variable (T : Tx)(C : Calls)
def SE(c:E):Prop:=∀ X,Ctx T C X->∀ x,bD T X.N c X.env.scope x=true->PE X x (aI X.K (ev C c))
def ST(c:E):Prop:=∀ X,Ctx T C X->∀ x,jY T X.N c X.env.scope x=true->PT X x (eP X.K (tv C c))/\∀ op es p,x=.BoolOp op es p->PW X x (eP X.K (tv C c))
def SA(c:E):Prop:=∀ X,Ctx T C X->∀ x,jU T X.N c X.env.scope x=true->PA X x (dC X.K (av C c))
def SO(c:E):Prop:=∀ X,Ctx T C X->∀ x,wA T X.N c X.env.scope x=true->PO X x (jA X.K (ov C c))
def SL(c:E):Prop:=∀ X,Ctx T C X->∀ x,vX T X.N c X.env.scope x=true->PE X x (hB X.K (lv C c))
def SI(c:E):Prop:=∀ X,Ctx T C X->∀ tg x,vR T X.N c X.env.scope tg x=true->PI X tg x (jF X.K (lv C c))
end
section
variable {T : Tx}{C : Calls}
theorem aLC{X:Cx}{x:qw}{f:FE}(h:∀ env S,f env S=qz):PE X x (aI X.K f):=λ aA s σ H Q I aM=>by
 obtain⟨F,L,S,env,w,S',R,E,e,q⟩:=aM;rw[h] at e;cases e
theorem aQD{X:Cx}{x:qw}{f:FE}(h:PE X x (aI X.K f))(ht:kQ x=true):PT X x (eP X.K (cQ f))/\∀ op es p,x=.BoolOp op es p->PW X x (eP X.K (cQ f)):=
 ⟨aQs h λ eY=>aNU ht X.env eY,λ op es p e=>by subst e;exact no ht⟩
theorem aF5(i:Nat):SE T C (.var i):=λ X hX x hx=>fD (P:=λ x=>PE X x _) hx λ y p h=>aCc (dT (aL (aL (aL h)))) (aBV (aR (aL (aL h)))) (dU (aR (aL h))) (dU (aR h))
theorem aNP(i:Int):SE T C (.int i):=λ X hX x h=>jP (P:=λ x=>PE X x _) h λ k p=>aQY
theorem aHk(i:Bool):SE T C (.bl i):=λ X hX x h=>jP (P:=λ x=>PE X x _) h λ k p=>aHZ
theorem aOm:SE T C .non:=λ X hX x h=>jP (P:=λ x=>PE X x _) h λ k p=>aQO
theorem aPx(i:Str):SE T C (.str i):=λ X hX x h=>jP (P:=λ x=>PE X x _) h λ k p=>aG6
theorem aGa{op:vz}{a b:E}(ha:SE T C a)(hb:SE T C b):SE T C (.bin op a b):=λ X hX x hx=>zA (P:=λ x=>PE X x _) hx λ l o r p h=>by
 obtain rfl:=dT (aL (aL h));exact aGQ (ha X hX _ (aR (aL h))) (hb X hX _ (aR h))
theorem aQ4{op:yx}{a:E}(ha:SE T C a):SE T C (.un op a):=λ X hX x hx=>aCG (P:=λ x=>PE X x _) hx λ o r p h=>by
 obtain rfl:=dT (aL (aL h));exact aRw (ha X hX _ (aR h))
theorem aOK{op:jx}{a b:E}(ha:SE T C a)(hb:SE T C b):SE T C (.cmp op a b):=λ X hX x hx=>qZ (P:=λ x=>PE X x _) hx λ l o r p h h4=>by
 obtain rfl:=dT (aL (aL h));exact aGH hX.units (ha X hX _ (aR (aL h))) (hb X hX _ (aR h)) (nV h4 o)
theorem yG{X:Cx}{x:qw}{t:TT}(h:PT X x t)(n:x.ctorIdx≠0):PT X x t/\∀ op es p,x=.BoolOp op es p->PW X x t:=
 ⟨h,λ op es p e=>absurd (congrArg Expr.ctorIdx e) n⟩
theorem aOW{op:jx}{a b:E}(ha:SE T C a)(hb:SE T C b):ST T C (.cmp op a b):=λ X hX x hx=>qZ (P:=λ x=>PT X x _/\∀ op es p,x=.BoolOp op es p->PW X x _) hx λ l o r p h h4=>by
 obtain rfl:=dT (aL (aL h));exact yG (aOO hX.units (ha X hX _ (aR (aL h))) (hb X hX _ (aR h)) (nV h4 o)) (yDw 14)
theorem aOD{op op':jx}{a b c:E}(ha:SE T C a)(hb:SE T C b)(hc:SE T C c):SE T C (.chn op op' a b c):=λ X hX x hx=>aGT (P:=λ x=>PE X x _) hx λ l o m o' r p h h6=>by
 obtain rfl:=dT (aL (aL (aL (aL h))));obtain rfl:=dT (aR (aL (aL (aL h))));exact aMi hX.units (ha X hX _ (aR (aL (aL h)))) (hb X hX _ (aR (aL h))) (hc X hX _ (aR h)) (nV h6 o')
theorem aM0{op op':jx}{a b c:E}(ha:SE T C a)(hb:SE T C b)(hc:SE T C c):ST T C (.chn op op' a b c):=λ X hX x hx=>aGT (P:=λ x=>PT X x _/\∀ op es p,x=.BoolOp op es p->PW X x _) hx λ l o m o' r p h h6=>by
 obtain rfl:=dT (aL (aL (aL (aL h))));obtain rfl:=dT (aR (aL (aL (aL h))));exact yG (aKN hX.units (ha X hX _ (aR (aL (aL h)))) (hb X hX _ (aR (aL h))) (hc X hX _ (aR h)) (nV h6 o')) (yDw 14)
theorem aPa{n:Str}{ts:List Tv}:SE T C (.con n ts):=λ X hX x hx=>fD (P:=λ x=>PE X x _) hx λ y p h=>by
 obtain rfl:=dT (aL (aL (aL h)));exact aPU (dM (aR (aL h))) (dU (aR h)) (hX.cns _ _ (List.contains_iff_mem.mp (aR (aL (aL h)))))
theorem aOl{a b:E}(ha:SE T C a)(hb:SE T C b):SE T C (.and a b):=λ X hX x hx=>tR (P:=λ x=>PE X x _) hx
 (λ l r p h=>PE.weak (xV (ha X hX _ (aL h)) (aBU (hb X hX _ (aR h)))) xT) λ l b c r p h=>PE.weak (xV (ha X hX _ (aL h)) (hb X hX _ (aR h))) xT
theorem aP1{a b:E}(ha:SE T C a)(hb:SE T C b):SE T C (.or a b):=λ X hX x hx=>tR (P:=λ x=>PE X x _) hx
 (λ l r p h=>PE.weak (aG3 (ha X hX _ (aL h)) (aBU (hb X hX _ (aR h)))) aGM) λ l b c r p h=>PE.weak (aG3 (ha X hX _ (aL h)) (hb X hX _ (aR h))) aGM
theorem aGs{X:Cx}{x:qw}{t:TT}(k:PW X x t):PT X x t/\∀ op es p,x=.BoolOp op es p->PW X x t:=⟨k.pt,λ _ _ _ _=>k⟩
theorem aOY{a b:E}(ha:ST T C a)(hb:ST T C b):ST T C (.and a b):=λ X hX x hx=>aGs (tR (P:=λ x=>PW X x _) hx
 (λ l r p h=>PW.weak (aGv (ha X hX _ (aL h)).1 (aMQ (hb X hX _ (aR h)).1)) aGP) λ l b c r p h=>PW.weak (aGv (ha X hX _ (aL h)).1 ((hb X hX _ (aR h)).2 _ _ _ rfl)) aGP)
theorem aQL{a b:E}(ha:ST T C a)(hb:ST T C b):ST T C (.or a b):=λ X hX x hx=>aGs (tR (P:=λ x=>PW X x _) hx
 (λ l r p h=>PW.weak (aGG (ha X hX _ (aL h)).1 (aNR (hb X hX _ (aR h)).1)) aHu) λ l b c r p h=>PW.weak (aGG (ha X hX _ (aL h)).1 ((hb X hX _ (aR h)).2 _ _ _ rfl)) aHu)
theorem aOo{a:E}(ha:SE T C a):SE T C (.not a):=λ X hX x hx=>aCG (P:=λ x=>PE X x _) hx λ o y p h=>by
 obtain rfl:=dT (aL h);exact aOB (ha X hX _ (aR h))
theorem aNp{a:E}(ha:ST T C a):ST T C (.not a):=λ X hX x hx=>aCG (P:=λ x=>PT X x _/\∀ op es p,x=.BoolOp op es p->PW X x _) hx λ o y p h=>by
 obtain rfl:=dT (aL h);exact yG (aQ2 (ha X hX _ (aR h)).1) (yDw 2)
theorem aN7{c a b:E}(hc:ST T C c)(ha:SE T C a)(hb:SE T C b):SE T C (.ite c a b):=λ X hX x hx=>aRq (P:=λ x=>PE X x _) hx λ x y z p h=>aP2 (hc X hX _ (aL (aL h))).1 (ha X hX _ (aR (aL h))) (hb X hX _ (aR h))
theorem aNQ{a:E}(ha:SA T C a):SE T C (.tup a):=λ X hX x hx=>pL (P:=λ x=>PE X x _) hx λ xs k p h=>aHe (ha X hX _ h)
theorem aNV{a:E}(ha:SA T C a):SL T C (.lst a):=λ X hX x hx=>uZ (P:=λ x=>PE X x _) hx λ xs p h=>uB (ha X hX _ h)
theorem aOi:SA T C .nil:=λ X hX x h=>fB (P:=λ x=>PA X x _) h oP
theorem aL9{a r:E}(ha:SE T C a)(hr:SA T C r):SA T C (.cons a r):=λ X hX x h=>by
 cases x with
 | nil=>exact no h
 | cons y ys=>exact oH (ha X hX _ (aL (aL h))) (hr X hX _ (aR h)) (dX (aR (aL h)) _ _)
theorem aQx:SO T C .no:=λ X hX x h=>yU (P:=λ x=>PO X x _) h aR0
theorem aLw{a r:E}(ha:SE T C a):SO T C (.cons a r):=λ X hX x h=>aR6 (P:=λ r=>PO X x (jA X.K (ov C (.cons a r)))) (aL h) (rB (P:=λ x=>PO X x _) (aR h) λ y h=>aOH (ha X hX _ h))
theorem aGN{a b:E}(ha:SE T C a)(hb:SE T C b):SE T C (.ix a b):=λ X hX x hx=>aCK (P:=λ x=>PE X x _) hx λ l r p h h3=>aRI (ha X hX _ (aL h)) (hb X hX _ (aR h)) (aHc h3)
theorem aOe{n:Str}{aK:List (Str×Tv)}{k:E}(hk:SE T C k):SE T C (.tab n aK k):=λ X hX x hx=>aCK (P:=λ x=>PE X x _) hx λ y z p g h6=>fD (P:=λ y=>PE X (.Subscript y z p) _) (aR g) λ u q h=>by
 obtain rfl:=dT (aL (aL (aL h)));exact aRa (dM (aR (aL h))) (dU (aR h)) (hX.tbs _ _ (List.contains_iff_mem.mp (aR (aL (aL h))))) (hk X hX _ (aL g)) (aHc h6)
theorem aQA{a lo hi:E}(ha:SE T C a)(hl:SO T C lo)(hh:SO T C hi):SE T C (.sl a lo hi):=λ X hX x hx=>aGI (P:=λ x=>PE X x _) hx λ y l u p q h=>aRS (ha X hX _ (aL (aL h))) (hl X hX _ (aR (aL h))) (hh X hX _ (aR h))
theorem aLK{N:List Str}{a:E}{sc:zw}(h:jU T N a sc []=true):a=.nil:=by
 cases a<;>first | rfl | exact no h
theorem aJQ{f np:Nat}{call:List W->aC->Option (W×aC)}{fs:FA}(h:C f=qq (np,call)):iS C f fs=tZ fs np call:=by
 funext env S
 unfold iS;rw[h]
theorem aFf{f:Nat}{a:E}(ha:SA T C a):SE T C (.call f a):=λ X hX x hx=>lP (P:=λ x=>PE X x _) hx λ y p zs q h=>by
 cases hC:C f with
 | none=>exact aLC λ env S=>by show iS C f (av C a) env S=qz;unfold iS;rw[hC]
 | some nc =>
   obtain⟨k,rm,fs⟩:=hX.room;obtain⟨fa,fd,ps,m1,m2,m3,m4⟩:=fs f nc.1 nc.2 y hC (dT (aL (aL (aL (aL h)))));have hw:∀ σ H Q,aI X.K (ev C (.call f a)) σ H Q->yN (iN X.K nc.1 nc.2) [] E0 (dC X.K (av C a)) σ H Q:=λ σ H Q hq=>aNv σ H Q (aJQ (fs:=av C a) hC▸hq)
   have h2:=dM (aR (aL (aL (aL h))));have h3:=dU (aR (aL (aL h)));cases zs with
   | nil =>
     refine PE.weak (aLj m4 rm h2 m1 m2 m3 .nil aHg h3) λ σ H Q hq=>?_
     obtain⟨F,L,S,env,ws,S',R,E,e,q2⟩:=hw σ H Q hq;cases aLK (aR (aL h));cases e;exact q2 F L H [] Gr.refl R .nil
   | cons z zr=>exact PE.weak (aLp m4 rm h2 m1 m2 m3 .nil aHg (ha X hX _ (aR (aL h))) h3 (dX (aL (aR h)) _ _) (sW (aR (aR h)) _ _)) hw
theorem aGp{b:B}{a:E}(ha:SA T C a):SE T C (.blt b a):=λ X hX x hx=>lP (P:=λ x=>PE X x _) hx λ y p zs q h=>by
 obtain rfl:=dT (aR (aL (aL (aL h))));cases zs with
 | nil=>exact no (aL (aL (aL (aL h))))
 | cons z zr =>
 have A:=ha X hX _ (aR (aL h));have G:=dM (aR (aL (aL h)));have s1:=dX (aL (aR h)) zr X.env;have s2:=sW (aR (aR h)) X.env q;cases b with
 | len=>exact PE.weak (kD aPV G (hX.blt _ (by decide)) (by decide +kernel) A (by decide) (by decide) s1 s2) lQ
 | mx=>exact PE.weak (kD (aPL hX.calm) G (hX.blt _ (by decide)) (by decide +kernel) A (by decide) (by decide) s1 s2) lQ
 | mn=>exact PE.weak (kD (aQp hX.calm) G (hX.blt _ (by decide)) (by decide +kernel) A (by decide) (by decide) s1 s2) lQ
 | abs=>exact PE.weak (kD aQ6 G (hX.blt _ (by decide)) (by decide +kernel) A (by decide) (by decide) s1 s2) lQ
 | sum=>exact PE.weak (kD (aQP hX.calm) G (hX.blt _ (by decide)) (by decide +kernel) A (by decide) (by decide) s1 s2) lQ
 | all=>exact PE.weak (kD (aRe hX.calm) G (hX.blt _ (by decide)) (by decide +kernel) A (by decide) (by decide) s1 s2) lQ
 | any=>exact PE.weak (kD (aPJ hX.calm) G (hX.blt _ (by decide)) (by decide +kernel) A (by decide) (by decide) s1 s2) lQ
 | int=>exact PE.weak (sO aQ3 G (hX.blt _ (by decide)) (by decide +kernel) A (by decide) (by decide) s1 s2) lQ
 | tup=>exact PE.weak (sO aLn G (hX.blt _ (by decide)) (by decide +kernel) A (by decide) (by decide) s1 s2) lQ
theorem aEF(n:Ty):zu n.n=qq (.type n.s)/\n.n∈bltNames:=by cases n<;>exact⟨by decide +kernel,by decide⟩
theorem aF9{a:E}{n:Ty}(ha:SE T C a):SE T C (.isi a n):=λ X hX x hx=>zQ (P:=λ x=>PE X x _) hx λ p y w q h3 h5 h6 h7 _=>fD (P:=λ w=>PE X (.Call (.Name "isinstance" p) [y,w] [] q) _) h7 λ z pz h=>by
 obtain rfl:=dT (aL h);have k:=aQB (X:=X) (n:=n.s) (x:=n.n) (p:=p) (p':=pz) (pos:=q) (ha X hX _ h5) (dM h3) (hX.blt _ (by decide)) (by decide +kernel) (dM (aR h)) (hX.blt _ (aEF n).2) (aEF n).1 (by cases n<;>decide) (by cases n<;>decide) (dX h6 _ _)
 refine PE.weak k λ σ H Q ⟨F,L,S,env,w,S',R,E,e,q2⟩=>⟨F,L,S,env,w,S',R,E,?_,q2⟩
 obtain⟨⟨w1,S1⟩,e1,e2⟩:=bind_some e;obtain⟨d,z,e3,e4,rfl,rfl⟩:=qA e2;unfold aHV f1;rw[e1];show eC (vE X.K n.s) _ w1=_;unfold eC;rw[e3];dsimp only[yCw];rw[aNy X.K e4]
theorem st1{X:Cx}{z:qw}(h:cB z=true):zj [z] X.env=(false,eval z X.env)::zj [] X.env:=dX h [] X.env
theorem nL{X:Cx}{a:E}{z:qw}(ha:SE T C a)(hX:Ctx T C X)(h:bD T X.N a X.env.scope z=true)(hp:cB z=true):PA X [z] (dC X.K (cJ (ev C a) gD)):=oH (ha X hX _ h) oP (st1 hp)
theorem aO7{o a:E}(ho:SE T C o)(ha:SE T C a):SE T C (.app o a):=λ X hX x hx=>yJ (P:=λ x=>PE X x _) hx λ y ap z cp h4 h3 h2 h5 h6 =>
 PE.weak (yD PySem.F.plainAttrs_list PySem.F.slot_list_append PySem.F.type_list_append aAV (ho X hX _ h2) (nL ha hX h5 h6) (mO h3 _ _) (by rw[st1 h6];rfl) h4 (st1 h6) rfl) aGS
theorem aPk{a:E}(ha:SE T C a):SL T C (.lof a):=λ X hX x hx=>vA (P:=λ x=>PE X x _) hx λ p z q h2 h3 h4 =>
 PE.weak (sO aIF (dM h2) (hX.blt _ (by decide)) (by decide +kernel) (nL ha hX h3 h4) (by decide) (by decide) (st1 h4) rfl) aQb
theorem aQW{a:E}(ha:SE T C a):SI T C (.it a):=λ X hX tg x h=>aRj (ha X hX _ h)
theorem aMr{a:E}(ha:SE T C a):SI T C (.rng1 a):=λ X hX tg x hx=>vA (P:=λ x=>PI X tg x _) hx λ p z q h2 h3 h4 =>
 PI.weak (aJJ (dM h2) (hX.blt _ (by decide)) (nL ha hX h3 h4) (st1 h4)) aNT
theorem aOv{a:E}(ha:SE T C a):SI T C (.enm a):=λ X hX tg x hx=>pL (P:=λ tg=>PI X tg x _) (aL hx) λ ts k tp _=>vA (P:=λ x=>PI X _ x _) (aR hx) λ p z q h2 h3 h4 =>
 PI.weak (aKV (dM h2) (hX.blt _ (by decide)) (nL ha hX h3 h4) (st1 h4)) aML
theorem or2{a b:Bool}(h:(a||b)=true)(n:a=false):b=true:=by
 rw[n] at h;exact h
theorem aBB{scope osc:zw}(h:aCa scope osc=true):ScOk scope osc:=by
 have h2:=List.all_eq_true.mp (aR h);refine⟨dT (aL h),λ x hx e=>?_,λ x hx e=>?_,λ x hx e=>?_⟩
 ·have:=h2 x hx;simp[e] at this
 ·have:=h2 x hx;simp[e] at this;exact this
 ·have:=h2 x hx;simp[e] at this;exact this
theorem xW{N:List Str}{scope:zw}{is:List Nat}:∀ {n:Nat},zK N scope is n=true->∀ i,i<n->∀ x,N[i]? = qq x->scope.names.lookup x=qq .local->i∈is
 | 0,_,i,hi,_,_,_=>absurd hi (Nat.not_lt_zero i)
 | n+1,h,i,hi,x,e,el=>by
   rcases Nat.lt_succ_iff_lt_or_eq.mp hi with z | z
   ·exact xW (aL h) i z x e el
   ·subst z;have h2:=aR h;rw[e] at h2;exact List.contains_iff_mem.mp (or2 h2 (by rw[el];rfl))
theorem aLy{elt it cond:E}{t:Tg}(he:SE T C elt)(hi:SI T C it)(hc:ST T C cond):SL T C (.comp elt t it cond):=λ X hX x hx=>aCU (P:=λ x=>PE X x _) hx λ e tg iter ifs scope p h1 h2 h3 h4 h5 h6 h7=>by
 have sok:=aBB h1;refine aBP (g:=pQ X.K t) hX.calm sok (λ i x a1 a2=>xW h2 i (gIm a1).1 x a1 a2) (hi X hX tg iter h4) (λ Y hY=>?_) (qX X.K t) (λ Y hY=>?_) (λ Y hY=>?_) (sM h5 X.env)
 ·obtain⟨c1,c2,c3,c4⟩:=hX.comp sok.kind hY;rw[<- c4];exact qY (.inl rfl) c1.nd c1.calm (by rw[c2,c3];exact h3)
 ·obtain⟨c1,c2,c3,c4⟩:=hX.comp sok.kind hY;cases ifs with
  | nil=>exact aHO (P:=λ cond=>lF Y [] (tv C cond)) h6 aA2
  | cons y r=>exact fB (P:=λ r=>lF Y (y::r) _) (aL h6) (aDV (hc Y c1 y (by rw[c2,c3];exact aR h6)).1)
 ·obtain⟨c1,c2,c3,c4⟩:=hX.comp sok.kind hY;rw[<- c4];exact he Y c1 e (by rw[c2,c3];exact h7)
theorem aPH{a:E}(ha:SL T C a):SE T C (.fz a):=λ X hX x h=>rE (ha X hX x h)
theorem aOX{a:E}(ha:SL T C a):SE T C (.new a):=λ X hX x h=>aG0 (ha X hX x h)
theorem aM1{n:Bool}{a b:E}(ha:SE T C a)(hb:SE T C b):SE T C (.ins n a b):=λ X hX x hx=>qZ (P:=λ x=>PE X x _) hx λ l o r p h h4=>by
 obtain rfl:=dT (aL (aL h));exact aQc (ha X hX _ (aR (aL h))) (hb X hX _ (aR h)) (nV h4 _)
theorem aOE{n:Bool}{a b:E}(ha:SE T C a)(hb:SE T C b):ST T C (.ins n a b):=λ X hX x hx=>qZ (P:=λ x=>PT X x _/\∀ op es p,x=.BoolOp op es p->PW X x _) hx λ l o r p h h4=>by
 obtain rfl:=dT (aL (aL h));exact yG (aO4 (ha X hX _ (aR (aL h))) (hb X hX _ (aR h)) (nV h4 _)) (yDw 14)
theorem aOh{a:E}(ha:SE T C a):SE T C (.st1 a):=λ X hX x hx=>vA (P:=λ x=>PE X x _) hx λ p z q h2 h3 h4 =>
 PE.weak (sO aJ9 (dM h2) (hX.blt _ (by decide)) (by decide +kernel) (nL ha hX h3 h4) (by decide) (by decide) (st1 h4) rfl) aG5
theorem aM9{a:E}(ha:SE T C a):SE T C (.itx a):=λ X hX x hx=>vA (P:=λ x=>PE X x _) hx λ p z q h2 h3 h4 =>
 PE.weak (sO aJB (dM h2) (hX.blt _ (by decide)) (by decide +kernel) (nL ha hX h3 h4) (by decide) (by decide) (st1 h4) rfl) aG5
theorem aRc{o a:E}(ho:SE T C o)(ha:SE T C a):SE T C (.jn o a):=λ X hX x hx=>yJ (P:=λ x=>PE X x _) hx λ y ap z cp h4 h3 h2 h5 h6 =>
 PE.weak (yD yEj PySem.F.slot_str_join PySem.F.type_str_join aMH (ho X hX _ h2) (nL ha hX h5 h6) (mO h3 _ _) (by rw[st1 h6];rfl) h4 (st1 h6) rfl) aRM
theorem aNx{o a:E}(ho:SE T C o)(ha:SE T C a):SL T C (.spl o a):=λ X hX x hx=>yJ (P:=λ x=>PE X x _) hx λ y ap z cp h4 h3 h2 h5 h6 =>
 PE.weak (yD yEj yDc PySem.F.type_str_split aK7 (ho X hX _ h2) (nL ha hX h5 h6) (mO h3 _ _) (by rw[st1 h6];rfl) h4 (st1 h6) rfl) aPS
theorem aLL{n:Str}{aK:List (Str×Tv)}{k:E}(hk:SE T C k):SE T C (.intb n aK k):=λ X hX x hx=>qZ (P:=λ x=>PE X x _) hx λ l o r p h h4=>fD (P:=λ r=>PE X (.Compare l [o] [r] p) _) (aR h) λ u q g=>by
 obtain rfl:=dT (aL (aL h));obtain rfl:=dT (aL (aL (aL g)));exact aOP (dM (aR (aL g))) (dU (aR g)) (hX.tbs _ _ (List.contains_iff_mem.mp (aR (aL (aL g))))) (hk X hX _ (aR (aL h)))
theorem aN4{n y:Str}:SE T C (.gst n y):=λ X hX x hx=>fD (P:=λ x=>PE X x _) hx λ u p h=>by
 obtain rfl:=dT (aL (aL (aL h)));exact aQo (dM (aR (aL h))) (dU (aR h)) (hX.sts _ _ (List.contains_iff_mem.mp (aR (aL (aL h)))))
theorem aOf{a:E}(ha:SE T C a):SI T C (.its a):=λ X hX tg x h=>aQ0 (ha X hX x h)
theorem aPq{a lo hi:E}(ha:SE T C a)(hl:SO T C lo)(hh:SO T C hi):SE T C (.sls a lo hi):=λ X hX x hx=>aGI (P:=λ x=>PE X x _) hx λ o l h k p q=>aP7 (ha X hX _ (aL (aL q))) (hl X hX _ (aR (aL q))) (hh X hX _ (aR q))
theorem aMl{a b:E}(ha:SE T C a)(hb:SE T C b):SE T C (.srep a b):=λ X hX x hx=>zA (P:=λ x=>PE X x _) hx λ l op r p h=>by
 obtain rfl:=dT (aL (aL h));exact aNH (ha X hX _ (aR (aL h))) (hb X hX _ (aR h))
theorem aO2{x y z:Str}{a b o es:E}(ha:SE T C a)(hb:SE T C b)(ho:SE T C o)(hes:SA T C es):SL T C (.ls3 x a b o y z es):=λ X hX e hx=>uZ (P:=λ e=>PE X e _) hx λ xs p h=>by
 have hyz:=dT (aL (aL h));have hz:=dT (aR (aL h));have h:=aR h
 match xs,h with
 | [],h=>exact no h
 | [_],h=>exact no h
 | [_,_],h=>exact no h
 | e1::e2::e3::r,h =>
   have h4:=aL h;have h3:=aL h4;have h2:=aL h3;refine uB ?_;refine zA (P:=λ e1=>PA X (e1::e2::e3::r) _) h2 λ u op v q h5=>?_
   obtain rfl:=dT (aL (aL h5));refine jP (P:=λ u=>PA X (.BinOp u .Add v q::e2::e3::r) _) (aR (aL h5)) λ k1 q1=>?_
   refine aHC (P:=λ e3=>PA X (.BinOp (.Constant (.str x) k1 q1) .Add v q::e2::e3::r) _) (aR h4) λ ob ap ys cp g1 g2 g3=>?_
   refine aPR (P:=λ ys=>PA X (.BinOp (.Constant (.str x) k1 q1) .Add v q::e2 :: .Call (.Attribute ob "replace" ap) ys [] cp::r) _) (aR g3) λ u1 u2 u3 g4=>?_
   refine jP (P:=λ u1=>PA X (.BinOp (.Constant (.str x) k1 q1) .Add v q::e2 :: .Call (.Attribute ob "replace" ap) [u1,u2,u3] [] cp::r) _) (aL (aL g4)) λ k2 q2=>?_
   refine jP (P:=λ u2=>PA X (.BinOp (.Constant (.str x) k1 q1) .Add v q::e2 :: .Call (.Attribute ob "replace" ap) [.Constant (.str y) k2 q2,u2,u3] [] cp::r) _) (aR (aL g4)) λ k3 q3=>?_
   refine jP (P:=λ u3=>PA X (.BinOp (.Constant (.str x) k1 q1) .Add v q::e2 :: .Call (.Attribute ob "replace" ap) [.Constant (.str y) k2 q2,.Constant (.str z) k3 q3,u3] [] cp::r) _) (aR g4) λ k4 q4=>?_
   exact PA.weak (aKE (ha X hX _ (aR h5)) (aGk (rW.of (hb X hX _ (aL (aR h3)))) (aGk (aMe (ho X hX _ (aL g3)) hyz hz (mO g2 _ _) g1) (nP.of (hes X hX _ (aR h))) rfl) (dX (aR (aR h3)) _ _)) rfl) aF1
theorem oY{c:E}(h:SE T C c)(ht:tv C c=cQ (ev C c))(hk:∀ N sc x,jY T N c sc x=(bD T N c sc x&&kQ x)):ST T C c:=λ X hX x q=>by
 rw[hk] at q;rw[ht];exact aQD (h X hX x (aL q)) (aR q)
structure Sn(T:Tx)(C:Calls)(c:E):Prop where
 e:SE T C c:=by exact λ _ _ _ h=>no h
 t:ST T C c:=by exact λ _ _ _ h=>no h
 a:SA T C c:=by exact λ _ _ _ h=>no h
 o:SO T C c:=by exact λ _ _ _ h=>no h
 l:SL T C c:=by exact λ _ _ _ h=>no h
 i:SI T C c:=by exact λ _ _ _ _ h=>no h
theorem sn(c:E):Sn T C c:=by
 induction c with
 | var i=>exact {e:=aF5 i,t:=oY (aF5 i) rfl λ _ _ _=>rfl }
 | int i=>exact {e:=aNP i }
 | bl b=>exact {e:=aHk b,t:=oY (aHk b) rfl λ _ _ _=>rfl }
 | non=>exact {e:=aOm }
 | str x=>exact {e:=aPx x }
 | bin op a b aQ bL=>exact {e:=aGa aQ.e bL.e,t:=oY (aGa aQ.e bL.e) rfl λ _ _ _=>rfl }
 | un op a aQ=>exact {e:=aQ4 aQ.e }
 | cmp op a b aQ bL=>exact {e:=aOK aQ.e bL.e,t:=aOW aQ.e bL.e }
 | ltl a b aQ bL=>exact {}
 | and a b aQ bL=>exact {e:=aOl aQ.e bL.e,t:=aOY aQ.t bL.t }
 | or a b aQ bL=>exact {e:=aP1 aQ.e bL.e,t:=aQL aQ.t bL.t }
 | not a aQ=>exact {e:=aOo aQ.e,t:=aNp aQ.t }
 | ite c a b ihc aQ bL=>exact {e:=aN7 ihc.t aQ.e bL.e }
 | tup a aQ=>exact {e:=aNQ aQ.a }
 | lst a aQ=>exact {l:=aNV aQ.a }
 | nil=>exact {a:=aOi }
 | cons a r aQ ihr=>exact {a:=aL9 aQ.e ihr.a,o:=aLw aQ.e }
 | chn op gN a b c aQ bL ihc=>exact {e:=aOD aQ.e bL.e ihc.e,t:=aM0 aQ.e bL.e ihc.e }
 | con x ts=>exact {e:=aPa }
 | ix a b aQ bL=>exact {e:=aGN aQ.e bL.e,t:=oY (aGN aQ.e bL.e) rfl λ _ _ _=>rfl }
 | dsp k l m a b c i aQ bL ihc ihi=>exact {}
 | tab x aK k ihk=>exact {e:=aOe ihk.e }
 | slL a lo hi aQ ihlo ihhi=>exact {}
 | sl a lo hi aQ ihlo ihhi=>exact {e:=aQA aQ.e ihlo.o ihhi.o }
 | no=>exact {o:=aQx }
 | call f a aQ=>exact {e:=aFf aQ.a,t:=oY (aFf aQ.a) rfl λ _ _ _=>rfl }
 | blt b a aQ=>exact {e:=aGp aQ.a,t:=oY (aGp aQ.a) rfl λ _ _ _=>rfl }
 | isi a n aQ=>exact {e:=aF9 aQ.e,t:=oY (aF9 aQ.e) rfl λ _ _ _=>rfl }
 | bits a aQ=>exact {}
 | app o a iho aQ=>exact {e:=aO7 iho.e aQ.e }
 | pop o a iho aQ=>exact {}
 | idx o a iho aQ=>exact {}
 | lof a aQ=>exact {l:=aPk aQ.e }
 | lzip a b aQ bL=>exact {}
 | lrg1 a aQ=>exact {}
 | lrg2 a b aQ bL=>exact {}
 | srt a aQ=>exact {}
 | lrev a aQ=>exact {}
 | lrep a b aQ bL=>exact {}
 | comp elt t it cond ihelt ihit ihcond=>exact {l:=aLy ihelt.e ihit.i ihcond.t }
 | it a aQ=>exact {i:=aQW aQ.e }
 | rng1 a aQ=>exact {i:=aMr aQ.e }
 | rng2 a b aQ bL=>exact {}
 | rng3 a b c aQ bL ihc=>exact {}
 | rrng a aQ=>exact {}
 | enm a aQ=>exact {i:=aOv aQ.e }
 | zip a b aQ bL=>exact {}
 | zip3 a b c aQ bL ihc=>exact {}
 | fz a aQ=>exact {e:=aPH aQ.l }
 | new a aQ=>exact {e:=aOX aQ.l }
 | its a aQ=>exact {i:=aOf aQ.e }
 | ins n a b aQ bL=>exact {e:=aM1 aQ.e bL.e,t:=aOE aQ.e bL.e }
 | st1 a aQ=>exact {e:=aOh aQ.e }
 | itx a aQ=>exact {e:=aM9 aQ.e }
 | spl a b aQ bL=>exact {l:=aNx aQ.e bL.e }
 | jn a b aQ bL=>exact {e:=aRc aQ.e bL.e }
 | intb x aK k ihk=>exact {e:=aLL ihk.e }
 | gst x y=>exact {e:=aN4 }
 | sls a lo hi aQ ihlo ihhi=>exact {e:=aPq aQ.e ihlo.o ihhi.o }
 | srep a b aQ bL=>exact {e:=aMl aQ.e bL.e }
 | ls3 x a b o y z es aQ bL iho ihes=>exact {l:=aO2 aQ.e bL.e iho.e ihes.a }
end
section
variable (T : Tx)(C : Calls)
def SS(c:Sx):Prop:=∀ X,Ctx T C X->(∀ x,X.fn x=true)->∀ st,okS T X.N c X.env.scope st=true->PS X st (cM X.K (xs C c))
def nJ(c:Sx):Prop:=∀ X,Ctx T C X->(∀ x,X.fn x=true)->∀ st,kP T X.N c X.env.scope st=true->bW X st (cM X.K (xs C c))
end
section
variable {T : Tx}{C : Calls}
theorem aFq{e t:qw}(h:fL e=true)(line:Nat)(env:Env):swapsWithSole [t] e line env=pure false:=mH h _ _ _
theorem aJm{e:qw}{ts:List qw}{k:Nat}{p:Pos}{env:Env}(h:yM e=false):yj [.Tuple ts k p] e env=pure qz:=by
 cases e<;>first | rfl | exact no h.symm
theorem aIX{o i e:qw}{p:Pos}{env:Env}:yj [.Subscript o i p] e env=pure qz:=by
 cases e<;>rfl
theorem aOU{a b:Sx}(ha:SS T C a)(hb:nJ T C b):nJ T C (.seq a b):=λ X hX hf st h=>by
 cases st with
 | nil=>exact no h
 | cons s r =>
   obtain⟨h1,h2⟩:=cD h;exact aG4 (ha X hX hf _ h1) (hb X hX hf _ h2)
theorem aLr:nJ T C .skip:=λ X hX hf st h=>fB (P:=λ st=>bW X st _) h aGm
theorem aL5{e:E}:SS T C (.expr e):=λ X hX hf st h=>aCO (P:=λ st=>PS X st _) h λ x p h=>aGr ((sn e).e X hX _ (aL h)) (mH (aR h) _ _ _)
theorem aPy{e:E}:SS T C (.ret e):=λ X hX hf st h=>aHM (P:=λ st=>PS X st _) h λ _ p h=>rB (P:=λ v=>PS X (.Return v p) _) h λ x h=>aGW ((sn e).e X hX _ h)
theorem aNJ{c:E}{a b:Sx}(ha:nJ T C a)(hb:nJ T C b):SS T C (.ifs c a b):=λ X hX hf st h=>aHQ (P:=λ st=>PS X st _) h λ x y z p h=>aRQ ((sn c).t X hX _ (aL (aL h))).1 (ha X hX hf _ (aR (aL h))) (hb X hX hf _ (aR h))
theorem aOQ{i:Nat}{e:E}:SS T C (.set i e):=λ X hX hf st h=>jS (P:=λ st=>PS X st _) h λ _ y p h=>gI (P:=λ ts=>PS X (.Assign ts y p) _) (aR h) λ _ g=>fD (P:=λ t=>PS X (.Assign [t] y p) _) g λ x q g =>
 xZ hX.nd (dT (aL g)) (qR (aR g)) ((sn e).e X hX _ (aL (aL h))) (mH (aR (aL h)) _ _ _) (.inl (hf _))
theorem aRJ{K:FrG}{f:FL}(σ:St)(H:Hp)(Q:VK)(h:aI K (gE f) σ H Q):hB K f σ H Q:=by
 obtain⟨F,L,S,env,w,S',R,E,e,q⟩:=h;obtain⟨⟨ds,S1⟩,e1,e2⟩:=bind_some e;cases e2;exact⟨F,L,S,env,ds,_,R,E,e1,λ F1 L1 H1 p xs g1 R1 hF hL hH dl=>q _ L1 _ _ (g1.trans (Gr.new hF)) (R1.adopt hF hL hH) (Den.lst (bR.of cA) (dl.mono (eZ hF)))⟩
theorem aQm{K:FrG}{f:FL}(σ:St)(H:Hp)(Q:VK)(h:aI K (gM f) σ H Q):hB K f σ H Q:=by
 obtain⟨F,L,S,env,w,S',R,E,e,q⟩:=h;obtain⟨⟨ds,S1⟩,e1,e2⟩:=bind_some e;cases e2;refine⟨F,L,S,env,ds,_,R,E,e1,λ F1 L1 H1 p xs g1 R1 hF hL hH dl=>q _ _ _ _ (g1.trans Gr.newLoc) (R1.adoptLoc hF hL hH dl) ⟨p,?_,rfl⟩⟩
 dsimp only;rw[<- R1.len,yAd (yAe _)];simp
theorem aRO{K:FrG}{f:FL}(nw:Bool):∀ (σ:St) (H:Hp) (Q:VK),aI K (match nw with | true=>gM f | false=>gE f) σ H Q->hB K f σ H Q:=by
 cases nw
 ·exact aRJ
 ·exact aQm
theorem aMU{nw:Bool}{i:Nat}{e:E}:SS T C (.setC nw i e):=λ X hX hf st h=>jS (P:=λ st=>PS X st _) h λ _ y p h=>gI (P:=λ ts=>PS X (.Assign ts y p) _) (aR h) λ _ g=>fD (P:=λ t=>PS X (.Assign [t] y p) _) g λ x q g=>by
 refine aRi (P:=λ e=>vX T X.N e X.env.scope y=true->PS X (.Assign [.Name x q] y p) (cM X.K (xs C (.setC nw i e)))) (aL (aL h)) (λ elt t it cond hL=>aCU (P:=λ y=>PS X (.Assign [.Name x q] y p) (cM X.K (xs C (.setC nw i (.comp elt t it cond))))) hL λ e tg iter ifs scope r h1 h2 h3 h4 h5 h6 h7=>?_) (aR (aL h))
 have sok:=aBB h1;refine aJA (g:=pQ X.K t) hX.nd (dT (aL g)) (qR (aR g)) (.inl (hf _)) hX.calm sok (λ i x a1 a2=>xW h2 i (gIm a1).1 x a1 a2) ((sn it).i X hX tg iter h4) (λ Y hY=>?_) (qX X.K t) (λ Y hY=>?_) (λ Y hY=>?_) (sM h5 X.env) (aRO nw)
 ·obtain⟨c1,c2,c3,c4⟩:=hX.comp sok.kind hY;rw[<- c4];exact qY (.inl rfl) c1.nd c1.calm (by rw[c2,c3];exact h3)
 ·obtain⟨c1,c2,c3,c4⟩:=hX.comp sok.kind hY;cases ifs with
  | nil=>exact aHO (P:=λ cond=>lF Y [] (tv C cond)) h6 aA2
  | cons y r=>exact fB (P:=λ r=>lF Y (y::r) _) (aL h6) (aDV ((sn cond).t Y c1 y (by rw[c2,c3];exact aR h6)).1)
 ·obtain⟨c1,c2,c3,c4⟩:=hX.comp sok.kind hY;rw[<- c4];exact(sn elt).e Y c1 e (by rw[c2,c3];exact h7)
theorem uR{b:Bool}(h:(!b)=true):b=false:=by
 cases b with
 | false=>rfl
 | true=>exact no h
theorem aLu{t:Tg}{e:E}:SS T C (.setT t e):=λ X hX hf st h=>jS (P:=λ st=>PS X st _) h λ _ v p h=>gI (P:=λ ts=>PS X (.Assign ts v p) _) (aR h) λ tg g=>by
 have h1:=qY (.inr hf) hX.nd hX.calm (aR g)
 revert h1
 exact pL (P:=λ tg=>PG X tg (pQ X.K t)->PS X (.Assign [tg] v p) (cM X.K (xs C (.setT t e)))) (aL g) λ ts k q _ h1=>PS.weak (aGt ((sn e).e X hX _ (aL (aL (aL h)))) h1 (aFq (aR (aL (aL h))) _ _) (aJm (uR (aR (aL h)))) rfl) (aOS (qX X.K t))
theorem aNq{o i e:E}:SS T C (.put o i e):=λ X hX hf st h=>jS (P:=λ st=>PS X st _) h λ _ z p h=>gI (P:=λ ts=>PS X (.Assign ts z p) _) (aR h) λ _ g=>aCK (P:=λ t=>PS X (.Assign [t] z p) _) g λ x y q g h3 =>
 aPK ((sn o).e X hX _ (aL g)) ((sn i).e X hX _ (aR g)) ((sn e).e X hX _ (aL (aL h))) (aKf h3) (aFq (aR (aL h)) _ _) aIX
theorem aMk{t:Tg}{it:E}{b:Sx}(hb:nJ T C b):SS T C (.loop t it b):=λ X hX hf st h=>aHS (P:=λ st=>PS X st _) h λ tg x y z p h=>fB (P:=λ z=>PS X (.For tg x y z p) _) (aL (aL (aL (aL h))))
 (aP9 hX.own hX.calm ((sn it).i X hX _ _ (aR (aL (aL h)))) (qY (.inr hf) hX.nd hX.calm (aR (aL (aL (aL h))))) (qX X.K t) (hb X hX hf _ (aR h)) (sM (aR (aL h)) X.env))
theorem ss(c:Sx):SS T C c/\nJ T C c:=by
 have N2:∀ {c:Sx},SS T C c->(∀ N sc st,kP T N c sc st=false)->SS T C c/\nJ T C c:=λ q hh=>⟨q,λ X hX hf st h=>by rw[hh] at h;exact no h⟩
 induction c with
 | skip=>exact⟨λ X hX hf st h=>no h,aLr⟩
 | seq a b aQ bL=>exact⟨λ X hX hf st h=>no h,aOU aQ.1 bL.2⟩
 | expr e=>exact N2 aL5 λ _ _ _=>rfl
 | ret e=>exact N2 aPy λ _ _ _=>rfl
 | ifs c a b aQ bL=>exact N2 (aNJ aQ.2 bL.2) λ _ _ _=>rfl
 | set i e=>exact N2 aOQ λ _ _ _=>rfl
 | setC nw i e=>exact N2 aMU λ _ _ _=>rfl
 | setT t e=>exact N2 aLu λ _ _ _=>rfl
 | put o i e=>exact N2 aNq λ _ _ _=>rfl
 | loop t it b bL=>exact N2 (aMk bL.2) λ _ _ _=>rfl
end
structure Fn where
 name:Str
 np:Nat
 N:List Str
 body:Sx
 st:zy
noncomputable def aF(fs:List Fn):Nat->Calls
 | 0=>λ _=>qz
 | d+1=>λ f=>(fs[f]?).map λ F=>(F.np,dB (xs (aF fs d) F.body) F.N.length)
structure Tbs where
 tb:List (Str×List (Str×Tv))
 cn:List (Str×List Tv)
 st:List (Str×Str)
noncomputable def tab(fs:List Fn)(tb:Tbs):Tx:=⟨fs.map λ F=>(F.name,F.np),tb.tb,tb.cn,tb.st⟩
noncomputable def xL:List Str->Bool
 | []=>true
 | x::r=>!r.contains x&&xL r
theorem aBa:∀ {l:List Str},xL l=true->l.Nodup
 | [],_=>List.nodup_nil
 | x::r,h=>by
   obtain⟨h1,h2⟩:=cD h;refine List.nodup_cons.mpr ⟨λ z=>?_,aBa h2⟩
   have:r.contains x=true:=by simpa using z
   rw[this] at h1;exact no h1
noncomputable def vD(fs:List Fn)(tb:Tbs)(F:Fn):Bool:=
 decide ((bP F.st).kind=.function) && !(bP F.st).isCoroutine && !(bP F.st).isGenerator&&xL F.N&&decide (F.np<=F.N.length)&&(F.N.take F.np).all (loc (bP F.st))&&(bP F.st).names.all (λ y=>!decide (y.2=.free)) &&
  kP (tab fs tb) F.N F.body (bP F.st) (eQ F.st)
theorem tL{sc:zw}{x:Str}(h:loc sc x=true):sc.names.lookup x=qq .local\/sc.names.lookup x=qq .cell:=by
 unfold loc at h
 split at h<;>first | exact .inl (by assumption) | exact .inr (by assumption) | exact no h
theorem aKG{fs:List Fn}{tb:Tbs}{F:Fn}(h:vD fs tb F=true):FnScope F.N (F.N.take F.np) (bP F.st)/\kP (tab fs tb) F.N F.body (bP F.st) (eQ F.st)=true/\(F.N.take F.np).length=F.np:=by
 obtain⟨h,h8⟩:=cD h;obtain⟨h,h7⟩:=cD h;obtain⟨h,h6⟩:=cD h;obtain⟨h,h5⟩:=cD h;obtain⟨h,h4⟩:=cD h;obtain⟨h,h3⟩:=cD h;obtain⟨h1,h2⟩:=cD h;have hl:(F.N.take F.np).length=F.np:=by
  rw[yAy];have:=oqT h5;omega
 refine⟨⟨oqT h1,?_,?_,aBa h4,by rw[hl],λ x hx=>tL (List.all_eq_true.mp h6 x hx),λ y hy=>?_⟩,h8,hl⟩
 ·cases q:(bP F.st).isCoroutine with
  | false=>rfl
  | true=>rw[q] at h2;exact no h2
 ·cases q:(bP F.st).isGenerator with
  | false=>rfl
  | true=>rw[q] at h3;exact no h3
 ·have:=List.all_eq_true.mp h7 y hy;intro z;rw[dqT z] at this;exact no this
section
variable {P : zq}{w : zx}{K : FrG}{mg : Str -> Option qx}{base : Heap}
theorem aFt(fs:List Fn)(tb:Tbs)(hk:∀ F∈fs,vD fs tb F=true)(top:∀ F∈fs,∃ fa fd,Fun K F.name F.name F.st fa fd/\mg F.name=qq (.ref fa)/\eA K fd (F.N.take F.np) [])(hb:∀ x∈bltNames,mg x=qz)(ht:∀ x aK,(x,aK)∈tb.tb->∃ a,mg x=qq (.ref a)/\mV K w a aK)(hcn:∀ x ts,(x,ts)∈tb.cn->∃ a,mg x=qq (.ref a)/\oS K a ts)(dL:∀ x y,(x,y)∈tb.st->∃ t,mg x=qq (.str y t)) :
 ∀ d f F np call fa fd,fs[f]? = qq F->aF fs d f=qq (np,call)->Fun K F.name F.name F.st fa fd->FnOk P w K mg base fV d fa fd (F.N.take F.np) (iN K np call)
 | 0,f,F,np,call,fa,fd,eF,e,Fu=>by cases e
 | d+1,f,F,np,call,fa,fd,eF,e,Fu=>by
   have ih:=aFt fs tb hk top hb ht hcn dL d;have e2:(F.np,dB (xs (aF fs d) F.body) F.N.length)=(np,call):=by
    have e':(fs[f]?).map (λ F=>(F.np,dB (xs (aF fs d) F.body) F.N.length))=qq (np,call):=e
    rw[eF] at e';exact Option.some.inj e'
   cases e2;have hm:F∈fs:=xAi eF;obtain⟨sc,hok,hl⟩:=aKG (hk F hm);refine Fu.ok sc (λ vs H Q E h=>?_) λ cdv A outer s H vs Q E hr h=>?_
   ·obtain⟨F1,L,S,ws,w1,S',hn,R,dl,_⟩:=h;rw[hl,<- hn];exact dl.length.symm
   ·refine⟨_,(ss (T:=tab fs tb) (C:=aF fs d) F.body).2 _ ⟨sc.nd,rfl,rfl,sc.kind,⟨d,hr,λ f' np' call' x' e1 e2=>?_⟩,hb,λ x aK hx=>ht x aK hx,λ x ts hx=>hcn x ts hx,λ x y hx=>dL x y hx⟩ (λ _=>rfl) _ hok,aGE h⟩
    have e2:((fs.map λ F=>(F.name,F.np))[f']?).map (·.1)=qq x':=e2
    rw[xAb] at e2;cases q:fs[f']? with
    | none=>rw[q] at e2;cases e2
    | some F' =>
      rw[q] at e2;have hx:F'.name=x':=Option.some.inj e2;subst hx;obtain⟨fa',fd',Fu',hmg',hbi'⟩:=top F' (xAi q);exact⟨fa',fd',_,hmg',Fu'.kp,hbi',ih f' F' np' call' fa' fd' q e1 Fu'⟩
end
structure TopFn(K:FrG)(F:Fn):Prop where
 ex:∃ (f:qv) (oc:qx) (od an:Option qv) (sl:Array (Option qx)) (kV dc pm cd ct:qx),yCc K qy F.name=qq (qq (.ref f)) /\
  K.lookup f=qq ⟨oc,od,.func (yCa F.name F.name (iA F.st) (eQ F.st) (bP F.st) .none kV dc pm an cd ct),sl⟩/\yDu K cd F.name=true/\yBw K (.ref f)=true
theorem top_mk{K:FrG}{F:Fn}{f:qv}{oc:qx}{od an:Option qv}{sl:Array (Option qx)}{kV dc pm cd ct:qx}(a:yCc K qy F.name=qq (qq (.ref f)))
 (l:K.lookup f=qq ⟨oc,od,.func (yCa F.name F.name (iA F.st) (eQ F.st) (bP F.st) .none kV dc pm an cd ct),sl⟩) (c:yDu K cd F.name=true) (k:yBw K (.ref f)=true):TopFn K F:=
 ⟨f,oc,od,an,sl,kV,dc,pm,cd,ct,a,l,c,k⟩
structure TabTop(K:FrG)(w:zx)(t:Str×List (Str×Tv)):Prop where
 ex:∃ (a:qv) (es:Array DictEntry) (ep:Nat),yCc K qy t.1=qq (qq (.ref a))/\(a==sysModules)=false/\K.lookup a=qq {cls:=.type "dict",data:=.dict es ep }/\oX w es.toList t.2
theorem tab_mk{K:FrG}{w:zx}{t:Str×List (Str×Tv)}{a:qv}{es:Array DictEntry}{ep:Nat}(a1:yCc K qy t.1=qq (qq (.ref a)))
 (l1:K.lookup a=qq {cls:=.type "dict",data:=.dict es ep }) (c1:oX w es.toList t.2) (s1:(a==sysModules)=false):TabTop K w t:=⟨a,es,ep,a1,s1,l1,c1⟩
structure ConTop(K:FrG)(t:Str×List Tv):Prop where
 ex:∃ a:qv,yCc K qy t.1=qq (qq (.ref a))/\oS K a t.2
theorem con_mk{K:FrG}{t:Str×List Tv}{a:qv}{its:Array qx}{n:Nat}{od:Option qv}{sl:Array (Option qx)}(a1:yCc K qy t.1=qq (qq (.ref a)))
 (l1:K.lookup a=qq {cls:=.type "tuple",dict:=od,data:=.seq its n,slots:=sl }) (z1:its.size<=100) (c1:yY its.toList t.2):ConTop K t:=
 ⟨a,a1,_,its,n,l1,rfl,rfl,xAg z1 (by decide),c1⟩
structure StTop(K:FrG)(t:Str×Str):Prop where
 ex:∃ k:Tok,yCc K qy t.1=qq (qq (.str t.2 k))
theorem st_mk{K:FrG}{t:Str×Str}{k:Tok}(a1:yCc K qy t.1=qq (qq (.str t.2 k))):StTop K t:=⟨k,a1⟩
def qI(F:Fn):Prop:=∀ (kV doc pm:qx) (an:Option qv) (cdv ct:qx) (us:List qx),us.length=(F.N.take F.np).length->bindArgs (yCa F.name F.name (iA F.st) (eQ F.st) (bP F.st) .none kV doc pm an cdv ct) ⟨us,[]⟩=pure ((F.N.take F.np).zip us)
noncomputable def yH(F:Fn):Bool:=match iA F.st with
 | ⟨[],as,qz,[],_,qz,_⟩=>decide (F.N.take F.np=as.map (·.arg))&&decide (F.N.take F.np).Nodup
 | _=>false
theorem aA5:∀ {ns:List Str}{us:List qx},ns.Nodup->us.length=ns.length->(∀ n∈ns,((ns.zip us).lookup n).isNone=false)/\ns.filterMap (λ n=>((ns.zip us).lookup n).map (n,·))=ns.zip us
 | [],us,_,_=>⟨λ n h=>(nomatch h),by cases us<;>rfl⟩
 | x::ns,[],_,h=>by cases h
 | x::ns,u::us,hn,hl=>by
   obtain⟨h1,h2⟩:=List.nodup_cons.mp hn;obtain⟨i1,i2⟩:=aA5 h2 (Nat.succ.inj hl);have e:∀ n∈ns,((x,u)::ns.zip us).lookup n=(ns.zip us).lookup n:=λ n m=>by
    rw[yBe];have:(n==x)=false:=by
     rw[beq_eq_false_iff_ne];rintro rfl;exact h1 m
    rw[this]
   refine⟨λ n m=>?_,?_⟩
   ·rw[List.zip_cons_cons];rcases List.mem_cons.mp m with rfl | m
    ·rw[yBe,beq_self_eq_true];rfl
    ·rw[e n m];exact i1 n m
   ·rw[List.zip_cons_cons,yCi,yBe,beq_self_eq_true];show(x,u)::_=_;congr 1;rw[<- i2];rw[i2];have g:∀ l:List Str,(∀ n∈l,n∈ns)->l.filterMap (λ n=>(((x,u)::ns.zip us).lookup n).map (n,·))=l.filterMap (λ n=>((ns.zip us).lookup n).map (n,·)):=λ l=>by
     induction l with
     | nil=>intro _;rfl
     | cons y l ih=>intro hl;rw[yCi,yCi,e y (hl y xAd),ih λ n m=>hl n (xAf _ m)]
    rw[g ns λ n m=>m,i2]
theorem aEK{F:Fn}(h:yH F=true):qI F:=by
 intro kV doc pm an cdv ct us hu;unfold yH at h
 split at h
 ·rename_i as kd df e;obtain⟨h1,h2⟩:=cD h;have h1:=oqT h1;rw[e];rw[h1] at hu h2 ⊢;obtain⟨i1,i2⟩:=aA5 (oqT h2) hu;have m:((as.map (·.arg)).take (as.map (·.arg)).length).filter (λ n=>(((as.map (·.arg)).zip us).lookup n).isNone)=[]:=by
   rw[yAf,List.filter_eq_nil_iff];intro n hn;rw[i1 n hn];decide
  unfold bindArgs;have q:seqItems? Value.none=(pure qz:Sem (Option (Array qx))):=rfl;simp only[yCa,q,pure_bind,yCh,yCs,yAv,List.forIn_nil,yEw,yCt,List.drop_nil,List.zip_nil_right,yFy,hu,gt_iff_lt,yBi,decide_false,yBn,yAz,if_false,m,List.isEmpty_nil,Bool.not_true,i2,Option.isNone_none]
 ·exact no h
theorem aDA:∀ {ns:List Int}{i:Int},i∈ns->yAk i<=PySem.W.WData.weightAll (ns.map PySem.W.WData.int)
 | [],i,h=>by cases h
 | n::r,i,h=>by
   have e:PySem.W.WData.weightAll ((n::r).map PySem.W.WData.int)=yAk n+1+PySem.W.WData.weightAll (r.map PySem.W.WData.int):=rfl;rw[e];rcases List.mem_cons.mp h with z | z
   ·subst z;omega
   ·have:=aDA z;omega
theorem aKD{ns:List Int}(h:PySem.W.WData.layableAll [PySem.W.WData.list (ns.map PySem.W.WData.int)]=true):∀ i∈ns,yAk i<=1048576:=λ i hi=>by
 have h1:PySem.W.WData.layable (PySem.W.WData.list (ns.map PySem.W.WData.int))=true:=by
  have:=List.all_eq_true.mp h _ xAd;exact this
 have h2:PySem.W.WData.weight (PySem.W.WData.list (ns.map PySem.W.WData.int))<=2^20:=oqT (cD h1).2;exact xAg (aDA hi) h2
theorem aLY{l:yFw}{n:Nat}{q:zq}{loose:List Str}{XP:(Str->Option qx)->Heap->Prop}{YP:zx->Heap->Prop}{d:DefRec}
 (hn:l.most=qq n) (hdf:d.params.defaults=[])
 (go:∀ (w:zx) (s₀ s₁:qj) (mg mb:Str->Option qx) (fa:qv) (a:qv) (vs:List qx) (ns:List Int),
   PySem.W.Ground q loose [] XP w s₀ mg mb s₁.heap->YP w s₁.heap->mg d.name=qq (.ref fa) ->
   s₁.heap.get? a=qq {cls:=.type "list",data:=.seq vs.toArray }->IntsAre vs ns->ns.length<=n->(∀ i∈ns,yAk i<=1048576)->s₁.gens = #[] ->
   vo (model l.prog w) callerA (.call (.ref fa) ⟨[.ref a],[]⟩) (λ r s'=>r=.ok (.ret (.bool true))/\OldK s₁.heap s'.heap/\s'.os=s₁.os/\AllBare s'.gens) s₁) :
 PySem.W.WalkO q loose XP YP l.row.toRowW d [] (λ f vs=>PySem.call f vs):=by
 intro w s₀ s₁ mg mb G Y fa o pm cd doc dV kV ho hd hcd hD hmg hg args vals as hpre hlay hrd hwl hlo;obtain rfl:dV=.none:=PySem.W.Dflts.none hD hdf;obtain rfl:kV=.none:=PySem.W.Dflts.noKw hD;obtain⟨a,vs,ns,rfl,rfl,hobj,hints,cE⟩:=Att.script_of hn hpre hwl;refine PySem.W.enter_call (codeAny_mono (go w s₀ s₁ mg mb fa a vs ns G Y hmg hobj hints cE (aKD hlay) hg) λ r s' hq=>?_)
 obtain⟨rfl,h2,h3,h4⟩:=hq;exact⟨.inl ⟨.bool true,.bool true,[],rfl,λ _=>rfl,.bool true,Att.post_true l _,λ _=>⟨List.Pairwise.nil,λ _ hm=>(nomatch hm)⟩⟩,h2,h3,h4⟩
structure Trc(h:Heap)(h0:Heap)(H:Hp)(e:qv)(cls:qx)(dx:Option qv)(fl:Option qx):Prop where
 ex:∃ oe vs,h.get? e=qq oe/\oe.cls=cls/\oe.dict=dx/\oe.data=.fields vs/\1<vs.size/\h0.get? e=qz/\H e=qz /\
  (fl=qz/\vs[1]? = qq .none\/∃ f T oT ts,fl=qq f/\vs[1]? = qq (.ref T)/\T≠e/\h0.get? T=qz/\H T=qz/\h.get? T=qq oT/\oT.data=.fields ts/\ts[3]? = qq f)
structure Chg(fs:List qv)(h0:Heap)(H:Hp)(h h':Heap):Prop where
 keep:∀ b o,h.get? b=qq o->b ∉ fs->(h0.get? b≠qz\/H b≠qz\/∀ vs,o.data≠.fields vs)->h'.get? b=qq o
 slot:∀ b o,h.get? b=qq o->b∈fs->(∀ vs,o.data≠.fields vs)->∃ sl,h'.get? b=qq {o with slots:=sl }
 there:∀ b o,h.get? b=qq o->∃ o',h'.get? b=qq o'
theorem Chg.refl{fs:List qv}{h0:Heap}{H:Hp}{h:Heap}:Chg fs h0 H h h:=⟨λ _ _ e _ _=>e,λ _ o e _ _=>⟨o.slots,e⟩,λ _ o e=>⟨o,e⟩⟩
theorem Chg.trans{fs:List qv}{h0:Heap}{H:Hp}{h h1 h2:Heap}(a:Chg fs h0 H h h1)(b:Chg fs h0 H h1 h2):Chg fs h0 H h h2:=
 ⟨λ c o e n q=>b.keep c o (a.keep c o e n q) n q,λ c o e n q=>by
  obtain⟨sl,e1⟩:=a.slot c o e n q;obtain⟨sl2,e2⟩:=b.slot c _ e1 n q;exact⟨sl2,e2⟩,λ c o e=>let ⟨o1,e1⟩:=a.there c o e;b.there c o1 e1⟩
section
variable {M : Model}{A : zv}{E : qx -> qj -> Prop}{s : qj}
theorem aLa{base:Heap}{env:Env}{outer:List Env}{L e:qv}{oe:Obj}{vs:Array qx}{head:qx}{hadNext:Bool}{Q:Unit->qj->Prop}
 (hfr:A.frames=qq (env::outer)) (hl:s.heap.FunFrames base (env::outer)) (hf:env.frame=qq L) (he:s.heap.get? e=qq oe) (hd:oe.data=.fields vs) (hsz:1<vs.size)
 (h:∀ h' T oT ts,h'.get? e=qq (oe.mapFields (·.setIfInBounds 1 (.ref T)))->s.heap.objs.size<=T->h'.get? T=qq oT->oT.data=.fields ts->ts[3]? = qq (jy L) ->
   (∀ b o,s.heap.get? b=qq o->b≠e->b ∉ dQ (env::outer)->h'.get? b=qq o)->(∀ b o,s.heap.get? b=qq o->b≠e->∃ sl,h'.get? b=qq {o with slots:=sl })->Q () {s with heap:=h' }) :
 qu M A (do let a <- frameOf env;let pl <- entryPlaceOf L hadNext;let b <- EntryCells.newEntry head a .none (jy L) .none pl;setField (.ref e) 1 b) Q E s:=by
 have hene:e ∉ (env::outer).filterMap (·.frame):=λ hm=>by
  obtain⟨_,o,ho,hnf⟩:=hl.mem hm;rw[he] at ho;cases ho;exact hnf vs hd
 refine wB (wpAny_frameOf_fun hfr hl hf λ h1 hs1=>?_)
 refine wB (wpAny_entryPlaceOf λ pl hpl=>?_)
 unfold EntryCells.newEntry newFields;refine wB (xu ?_ (hpl.sizeOk5 _ _ _ _ _));have he1:h1.get? e=qq oe:=(hs1.2.1 e hene).trans he;generalize hob:({cls:=.type "traceback",dict:=qz,data:=.fields ([head,.ref L,.none,jy L,.none]++(if pl.isEmpty then yAh 6 Value.none else pl)).toArray }:Obj)=ob
 have hobd:ob.data=.fields ([head,.ref L,.none,jy L,.none]++(if pl.isEmpty then yAh 6 Value.none else pl)).toArray:=by rw[<- hob]
 have he2:=hpS (h:=h1) ob he1;refine wpAny_setField he2 hd hsz ?_;have hTe:h1.objs.size≠e:=yEp (xAa he1);have hd3:=Obj.data_mapFields hd (·.setIfInBounds 1 (Value.ref h1.objs.size));have hfr:ob.isFreed=false:=Obj.isFreed_of_fields hobd;refine h _ h1.objs.size ob _ (yCb _ he2 (Obj.isFreed_of_fields hd3)) (by rw[hs1.1];exact yAe _) ?_ hobd (by simp) (λ b o hb hbe hbf=>?_) λ b o hb hbe=>?_
 ·rw[yBt _ _ (Ne.symm hTe)];exact xAe h1 hfr
 ·rw[yBt _ _ (Ne.symm hbe)];exact hpS _ ((hs1.2.1 b hbf).trans hb)
 ·obtain⟨sl,hs⟩:=hs1.2.2 b o hb;exact⟨sl,by rw[yBt _ _ (Ne.symm hbe)];exact hpS _ hs⟩
theorem aMB{base:Heap}{env:Env}{outer:List Env}{L e:qv}{cls:qx}{dx:Option qv}{fl:Option qx}{h0:Heap}{H:Hp}{Q:Unit->qj->Prop}
 (hfr:A.frames=qq (env::outer)) (hl:s.heap.FunFrames base (env::outer)) (hf:env.frame=qq L) (hlo:∀ b,s.heap.objs.size<=b->h0.get? b=qz) (hH:∀ b,s.heap.objs.size<=b->H b=qz) (ht:Trc s.heap h0 H e cls dx fl)
 (hfl:fl=qz\/fl=qq .none\/fl=qq (jy L)) (h:∀ h',Trc h' h0 H e cls dx (qq (jy L))->Chg (dQ (env::outer)) h0 H s.heap h'->Q () {s with heap:=h' }):qu M A (noteFrame (.ref e) env) Q E s:=by
 obtain⟨oe,vs,he,hc,hdx,hd,hsz,hle,hHe,ht⟩:=id ht.ex;have last:∀ {s1:qj}{head:qx}{hn:Bool},s1.heap.FunFrames base (env::outer)->s1.heap.get? e=qq oe->s1.heap.objs.size=s.heap.objs.size->Chg (dQ (env::outer)) h0 H s.heap s1.heap->(∀ h',Q () {s1 with heap:=h' }=Q () {s with heap:=h' }) ->
  qu M A (do let a <- frameOf env;let pl <- entryPlaceOf L hn;let b <- EntryCells.newEntry head a .none (jy L) .none pl;setField (.ref e) 1 b) Q E s1:=by
  intro s1 head hn hl1 he1 hz c1 hQ;refine aLa hfr hl1 hf he1 hd hsz λ h' T oT ts x1 x2 x3 x4 x5 x6 x7=>?_
  rw[hQ];have hT:s.heap.objs.size<=T:=by rw[<- hz];exact x2
  have hTe:T≠e:=λ z=>by
   have:=xAa he;rw[<- z] at this;exact absurd (xAc this hT) (yBi _)
  refine h h' ⟨_,_,x1,?_,?_,Obj.data_mapFields hd _,by simpa using hsz,hle,hHe,.inr ⟨_,T,oT,ts,rfl,by simp[hsz],hTe,hlo T hT,hH T hT,x3,x4,x5⟩⟩ (c1.trans ⟨λ b o hb hn hq=>x6 b o hb (λ z=>?_) hn,λ b o hb hm hnf=>x7 b o hb (λ z=>?_),λ b o hb=>?_⟩)
  ·rw[Obj.cls_mapFields];exact hc
  ·have:(oe.mapFields (·.setIfInBounds 1 (Value.ref T))).dict=oe.dict:=by
    obtain⟨_,_,dt,_⟩:=oe;cases dt<;>rfl
   rw[this];exact hdx
  ·subst z;rw[he1] at hb;cases hb;rcases hq with q | q | q
   ·exact q hle
   ·exact q hHe
   ·exact q vs hd
  ·subst z;rw[he1] at hb;cases hb;exact hnf vs hd
  ·by_cases z:b=e
   ·subst z;exact⟨_,x1⟩
   ·obtain⟨sl,q⟩:=x7 b o hb z;exact⟨_,q⟩
 rcases ht with ⟨rfl,h1⟩ | ⟨f,T,oT,ts,rfl,h1,hTe,hTlo,hHT,hT,hdT,h3⟩
 ·unfold noteFrame;simp only[hf];refine wB (xy he hd h1 ?_);rw[if_neg (by decide)]
  exact last hl he rfl .refl λ _=>rfl
 ·by_cases hfL:f=jy L
  ·subst hfL;unfold noteFrame;simp only[hf];refine wB (xy he hd h1 ?_);rw[if_pos (show(Value.ref T != Value.none)=true from by simp)]
   refine wB (xy hT hdT h3 ?_);rw[if_pos (show(jy L==jy L)=true from by simp)]
   exact wP (h s.heap ht .refl)
  ·obtain rfl:f=.none:=by
    rcases hfl with z | z | z
    ·cases z
    ·cases z;rfl
    ·cases z;exact absurd rfl hfL
   unfold noteFrame;simp only[hf];refine wB (xy he hd h1 ?_);rw[if_pos (show(Value.ref T != Value.none)=true from by simp)]
   refine wB (xy hT hdT h3 ?_);rw[if_neg (show ¬ ((Value.none==jy L)=true) from by simp[jy])]
   refine wB (wpAny_setField hT hdT (Array.getElem?_eq_some_iff.mp h3).1 ?_);have other:∀ b,b≠T->(s.heap.update T (Obj.mapFields (·.setIfInBounds 3 Value.none))).get? b=s.heap.get? b:=λ b hb=>yBt _ _ (Ne.symm hb)
   have noRec:∀ b o,s.heap.get? b=qq o->(∀ vs,o.data≠.fields vs)->b≠T:=λ b o hb hnf q=>by
    subst q;rw[hT] at hb;cases hb;exact hnf ts hdT
   refine last (hl.of_keeps λ b o hb hnf=>⟨o,(other b (noRec b o hb hnf)).trans hb,rfl⟩) ((other e (Ne.symm hTe)).trans he) (Heap.size_after_update ..) ⟨λ b o hb hn hq=>(other b λ z=>?_).trans hb,λ b o hb hm hnf=>⟨o.slots,(other b (noRec b o hb hnf)).trans hb⟩,λ b o hb=>?_⟩ λ _=>rfl
   ·subst z;rw[hT] at hb;cases hb;rcases hq with q | q | q
    ·exact q hTlo
    ·exact q hHT
    ·exact q ts hdT
   ·by_cases z:b=T
    ·subst z;exact⟨_,yCb _ hT (Obj.isFreed_of_fields (Obj.data_mapFields hdT _))⟩
    ·exact⟨o,(other b z).trans hb⟩
theorem aJX{e:qv}{cls:qx}{dx:Option qv}{f:qx}{h0:Heap}{H:Hp}{fs:List qv}{v:Option qv}{Q:Unit->qj->Prop}(ht:Trc s.heap h0 H e cls dx (qq f))
 (h:∀ h',Trc h' h0 H e cls dx (qq (v.elim .none λ f=>jy f))->Chg fs h0 H s.heap h'->Q () {s with heap:=h' }):qu M A (setFlight (.ref e) v) Q E s:=by
 obtain⟨oe,vs,he,hc,hdx,hd,hsz,hle,hHe,ht⟩:=ht.ex;rcases ht with ⟨z,_⟩ | ⟨f',T,oT,ts,z,h1,hTe,hTlo,hHT,hT,hdT,h3⟩
 ·cases z
 cases z;have hsz3:3<ts.size:=(Array.getElem?_eq_some_iff.mp h3).1;unfold setFlight;refine wB (xy he hd h1 ?_);rw[if_pos (show(Value.ref T != Value.none)=true from by simp)]
 have other:∀ b,b≠T->(s.heap.update T (Obj.mapFields (·.setIfInBounds 3 (v.elim Value.none λ f=>jy f)))).get? b=s.heap.get? b:=λ b hb=>yBt _ _ (Ne.symm hb)
 have noRec:∀ b o,s.heap.get? b=qq o->(∀ vs,o.data≠.fields vs)->b≠T:=λ b o hb hnf q=>by
  subst q;rw[hT] at hb;cases hb;exact hnf ts hdT
 have hT2:=yCb (Obj.mapFields (·.setIfInBounds 3 (v.elim Value.none λ f=>jy f))) hT (Obj.isFreed_of_fields (Obj.data_mapFields hdT _))
 refine wpAny_setField hT hdT hsz3 (h _ ⟨oe,vs,(other e (Ne.symm hTe)).trans he,hc,hdx,hd,hsz,hle,hHe,.inr ⟨_,T,_,_,rfl,h1,hTe,hTlo,hHT,hT2,Obj.data_mapFields hdT _,by simp[hsz3]⟩⟩ ⟨λ b o hb hn hq=>(other b λ z=>?_).trans hb,λ b o hb hm hnf=>⟨o.slots,(other b (noRec b o hb hnf)).trans hb⟩,λ b o hb=>?_⟩)
 ·subst z;rw[hT] at hb;cases hb;rcases hq with q | q | q
  ·exact q hTlo
  ·exact q hHT
  ·exact q ts hdT
 ·by_cases z:b=T
  ·subst z;exact⟨_,hT2⟩
  ·exact⟨o,(other b z).trans hb⟩
end
structure Bel(X:Cx)(aA:List (qv×Obj))(h0:Heap):Prop where
 s0:∀ b o,X.s₀.heap.get? b=qq o->b ∉ X.ex->h0.get? b≠qz
 loc:h0.get? X.env.locals≠qz
 cell:∀ x c,X.env.cells.lookup x=qq c->h0.get? c≠qz
 pin:∀ p∈X.pn++aA,h0.get? p.1≠qz
theorem kM{h:Heap}{b:qv}{o:Obj}(e:h.get? b=qq o):h.get? b≠qz:=by rw[e];simp
theorem sZ{X:Cx}{aA:List (qv×Obj)}{σ:L2.St}{H:Hp}{s:qj}(I:Inv X aA σ H s):Bel X aA s.heap:=
 ⟨λ b o e n=>let ⟨_,e'⟩:=I.base.there b o e n;kM e',let ⟨_,⟨_,_,_,ho,_⟩,_⟩:=I.loc;kM ho,λ x c e=>let ⟨v,o,ho,_⟩:=I.cell x c e;kM ho,λ p hp=>kM (I.pin p hp).1⟩
theorem aFy{X:Cx}{aA:List (qv×Obj)}{σ:L2.St}{H:Hp}{s:qj}{h0 h':Heap}(I:Inv X aA σ H s)(B:Bel X aA h0)(c:Chg (dQ X.stack) h0 H s.heap h'):Inv X aA σ H {s with heap:=h' }:=by
 have nfs:∀ b u,H b=qq u->b ∉ dQ X.stack:=λ b u e z=>by rw[I.stkFree b z] at e;cases e
 have hnf:∀ b∈dQ X.stack,∀ o,s.heap.get? b=qq o->∀ vs,o.data≠.fields vs:=λ b hb o ho vs=>by
  obtain⟨_,o',ho',hd⟩:=I.stack.mem hb;rw[ho] at ho';cases ho';exact hd vs
 have any:∀ b o,s.heap.get? b=qq o->h0.get? b≠qz->∃ sl,h'.get? b=qq {o with slots:=sl }:=λ b o e n=>by
  by_cases hb:b∈dQ X.stack
  ·exact c.slot b o e hb (hnf b hb o e)
  ·exact⟨o.slots,c.keep b o e hb (.inl n)⟩
 have neL:∀ b o,X.s₀.heap.get? b=qq o->b≠X.env.locals:=λ b o e=>xAh (xAc (xAa e) I.ok.above)
 have cellK:∀ x k,X.env.cells.lookup x=qq k->∀ v,s.heap.IsCell k v->h'.IsCell k v:=λ x k e v aM=>by
  obtain⟨o,ho,hd⟩:=aM;obtain⟨sl,q⟩:=any k o ho (B.cell x k e);exact⟨_,q,hd⟩
 refine⟨I.ok,I.os,I.bare,⟨λ b o e n hb hx=>?_,λ b o e n hb hx=>?_,I.base.free,λ b o e hx=>?_,I.base.tups,I.base.frzs,I.base.tbls⟩,?_,λ x k e=>?_,I.free,I.freeC,λ p hp=>?_,λ b u e=>?_,I.len⟩
 ·exact c.keep b o (I.base.keep b o e n hb hx) (λ z=>(List.mem_cons.mp (I.stkSub b z)).elim (neL b o e) hb) (.inl (B.s0 b o e hx))
 ·obtain⟨sl,e1⟩:=I.base.slot b o e n hb hx;obtain⟨sl',e2⟩:=any b _ e1 (B.s0 b o e hx);exact⟨sl',e2⟩
 ·obtain⟨o',e1⟩:=I.base.there b o e hx;exact c.there b o' e1
 ·obtain⟨m,⟨o,es,ep,ho,r⟩,hl⟩:=I.loc;obtain⟨sl,q⟩:=any _ o ho B.loc;refine⟨m,⟨_,es,ep,q,r⟩,λ i x v e1 e2 e3=>?_⟩
  obtain⟨u,r,l⟩:=hl i x v e1 e2 e3;refine⟨u,r,?_⟩;rcases l with l | ⟨k,d,e,z⟩
  ·exact .inl l
  ·exact .inr ⟨k,d,e,cellK x d e _ z⟩
 ·obtain⟨v,z⟩:=I.cell x k e;exact⟨v,cellK x k e v z⟩
 ·obtain⟨e,n,ne,nf,d⟩:=I.pin p hp;exact⟨c.keep p.1 p.2 e (λ z=>(List.mem_cons.mp (I.stkSub _ z)).elim ne nf) (.inl (B.pin p hp)),n,ne,nf,d⟩
 ·refine(I.hok b u e).stay (λ d v hd q=>c.keep d v q ?_ (.inr (.inl ?_))) (λ _ q=>q) λ _ _ q=>q
  ·rcases hd with z | z
   ·rw[z];exact nfs b u e
   ·exact nfs d _ z
  ·rcases hd with z | z
   ·rw[z,e];simp
   ·rw[z];simp
abbrev XW:=L2.St->qx->Option qv->Hp->Prop
def jR(X:Cx)(W:XW)(e:qx)(s:qj):Prop:=∃ a cls dx fl h0 σ H,e=.ref a/\Inv X [] σ H s/\Trc s.heap h0 H a cls dx fl/\(fl=qz\/fl=qq .none\/fl=qq (jy X.env.locals))/\Bel X [] h0/\(∀ b,h0.get? b≠qz->s.heap.get? b≠qz)/\W σ cls dx H
noncomputable def jE(P:zq)(w:zx):iL:=λ outer H s E e s'=>∃ a cls dx H',e=.ref a/\s'.os=s.os/\AllBare s'.gens/\Un (dQ outer) [] H H' s.heap s'.heap/\dD P w H' s'.heap/\Trc s'.heap s.heap H' a cls dx (qq .none)/\E cls dx H'
structure Dfb(X:Cx):Prop where
 stk:X.stack=X.env::X.outer
 frm:X.env.frame=qq X.env.locals
 ex:X.ex=[]
theorem aIH{h0 h:Heap}(q:∀ b,h0.get? b≠qz->h.get? b≠qz):∀ b,h.objs.size<=b->h0.get? b=qz:=λ b hb=>by
 cases e:h0.get? b with
 | none=>rfl
 | some o =>
   have:=q b (kM e);cases e2:h.get? b with
   | none=>exact absurd e2 this
   | some o2=>exact absurd (xAc (xAa e2) hb) (yBi _)
theorem Chg.stay{fs:List qv}{h0 h1:Heap}{H:Hp}{h h':Heap}(c:Chg fs h1 H h h')(q:∀ b,h0.get? b≠qz->h.get? b≠qz):∀ b,h0.get? b≠qz->h'.get? b≠qz:=λ b hb=>by
 have:=q b hb;cases e:h.get? b with
 | none=>exact absurd e this
 | some o=>obtain⟨o',e'⟩:=c.there b o e;exact kM e'
theorem qD{X:Cx}{aA:List (qv×Obj)}{σ:L2.St}{H:Hp}{s:qj}(I:Inv X aA σ H s):Inv X [] σ H s:=
 ⟨I.ok,I.os,I.bare,I.base,I.loc,I.cell,I.free,I.freeC,λ p hp=>I.pin p (by rw[yAv] at hp;exact yBx _ hp),I.hok,I.len⟩
theorem Trc.down{h h0 h1:Heap}{H:Hp}{e:qv}{cls:qx}{dx:Option qv}{fl:Option qx}(t:Trc h h1 H e cls dx fl)(q:∀ b,h0.get? b≠qz->h1.get? b≠qz):Trc h h0 H e cls dx fl:=by
 have z:∀ b,h1.get? b=qz->h0.get? b=qz:=λ b hb=>by
  cases e:h0.get? b with
  | none=>rfl
  | some o=>exact absurd hb (q b (kM e))
 obtain⟨oe,vs,he,hc,hdx,hd,hsz,hle,hHe,ht⟩:=t.ex;refine⟨oe,vs,he,hc,hdx,hd,hsz,z e hle,hHe,?_⟩;rcases ht with t | ⟨f,T,oT,ts,a,b,c,d,r⟩
 ·exact .inl t
 ·exact .inr ⟨f,T,oT,ts,a,b,c,z T d,r⟩
theorem aBi{X:Cx}{A:zv}{W:XW}{e:qx}{s:qj}{E:qx->qj->Prop}{Q:Unit->qj->Prop}(D:Dfb X)(hA:A.frames=X.A.frames)(h:jR X W e s)
 (hq:∀ a cls dx h0 σ H s',e=.ref a->Inv X [] σ H s'->Trc s'.heap h0 H a cls dx (qq (jy X.env.locals))->Bel X [] h0->(∀ b,h0.get? b≠qz->s'.heap.get? b≠qz)->W σ cls dx H->Q () s'):qu (model X.prog X.w) A (noteFrame e X.env) Q E s:=by
 obtain⟨a,cls,dx,fl,h0,σ,H,rfl,I,T,hfl,B,hb,hw⟩:=h;have hs:=I.stack;rw[D.stk] at hs;refine aMB (by rw[hA,I.ok.frames,D.stk]) hs D.frm (aIH hb) (λ b=>I.hok.fresh) T hfl λ h' T' c=>?_
 rw[<- D.stk] at c;exact hq a cls dx h0 σ H _ rfl (aFy I B c) T' B (c.stay hb) hw
theorem sU{X:Cx}{A:zv}{σ:L2.St}{H:Hp}{a:qv}{cls f:qx}{dx:Option qv}{h0:Heap}{s:qj}{v:Option qv}{E:qx->qj->Prop}{Q:Unit->qj->Prop}(I:Inv X [] σ H s)(T:Trc s.heap h0 H a cls dx (qq f))(B:Bel X [] h0)(hb:∀ b,h0.get? b≠qz->s.heap.get? b≠qz)
 (hq:∀ s',Inv X [] σ H s'->Trc s'.heap h0 H a cls dx (qq (v.elim .none λ f=>jy f))->(∀ b,h0.get? b≠qz->s'.heap.get? b≠qz)->Q () s'):qu (model X.prog X.w) A (setFlight (.ref a) v) Q E s:=
 aJX (fs:=dQ X.stack) T λ h' T' c=>hq _ (aFy I B c) T' (c.stay hb)
theorem aK1{P:zq}{w:zx}{K:FrG}{mg:Str->Option qx}{base:Heap}{N:List Str}{bN:Str}{scope:zw}{f:qv}{cd:qx}{A:zv}{outer:List Env}{s:qj}{H:Hp}{E:XK}{e:qx}{s':qj}
 (h:jR (iG (jE P w) P w K mg base N bN scope f cd A outer s H E) (λ _=>E) e s'):(iG (jE P w) P w K mg base N bN scope f cd A outer s H E).xe e s':=by
 unfold iG leaving;refine wB (aBi (X:=iG (jE P w) P w K mg base N bN scope f cd A outer s H E) ⟨rfl,rfl,rfl⟩ rfl h λ a cls dx h0 σ H' s1 ea I T B hb hw=>?_)
 subst ea;refine sU (X:=iG (jE P w) P w K mg base N bN scope f cd A outer s H E) (v:=qz) I T B hb λ s2 I2 T2 hb2=>?_
 exact⟨a,cls,dx,H',rfl,I2.os,I2.bare,I2.base,I2.hok,T2.down λ b hb=>by
  cases q:s.heap.get? b with
  | none=>exact absurd q hb
  | some o=>exact B.s0 b o q (by intro z;cases z),hw⟩
theorem aFN{X:Cx}{W:XW}(D:Dfb X):PassesOwn (model X.prog X.w) X.A X.env (jR X W):=λ e s h=>by
 refine aBi D rfl h λ a cls dx h0 σ H s1 ea I T B hb hw=>?_
 subst ea;obtain⟨oe,vs,he,hc,hdx,hd,hsz,hle,hHe,ht⟩:=id T.ex;rcases ht with ⟨z,_⟩ | ⟨f',Tb,oT,ts,z,h1,_⟩
 ·cases z
 cases z;unfold cameBackBy;refine wB (xy he hd h1 ?_);rw[if_neg (by simp)]
 refine sU I T B hb λ s2 I2 T2 hb2=>?_
 rw[D.frm] at T2;exact⟨a,cls,dx,_,h0,σ,H,rfl,I2,T2,.inr (.inr rfl),B,hb2,hw⟩
theorem jR.unwish{X:Cx}{E:qx->qj->Prop}{W:XW}{e:qx}{s:qj}(h:jR (X.wish E) W e s):jR X W e s:=by
 obtain⟨a,cls,dx,fl,h0,σ,H,ea,I,T,hfl,B,hb,hw⟩:=h;exact⟨a,cls,dx,fl,h0,σ,H,ea,I.unwish,T,hfl,⟨B.s0,B.loc,B.cell,B.pin⟩,hb,hw⟩
theorem Dfb.wish{X:Cx}(D:Dfb X)(E:qx->qj->Prop):Dfb (X.wish E):=⟨D.stk,D.frm,D.ex⟩
section
variable {P : zq}{w : zx}{K : FrG}{mg : Str -> Option qx}{base : Heap}
theorem bW.wish{X:Cx}{E:qx->qj->Prop}(hE:∀ e s,E e s->X.xe e s){st:List zy}{t:TS}(h:bW (X.wish E) st t):bW X st t:=λ aA s σ H D I hw =>
 wpAny_mono (h aA s σ H D (I.wish _) hw) (λ _ _ q=>q.unwish) hE
theorem Fun.okX{x bN:Str}{st:zy}{f:qv}{fd:jz}{N ps:List Str}{k:Nat}{sp:Sp}(F:Fun K x bN st f fd)(S:FnScope N ps (bP st))(len:∀ vs H Q E,sp vs H Q E->vs.length=ps.length)
 (hbody:∀ (X:Cx) (A:zv) (vs:List V) (H:Hp) (Q:VK) (E:XK),X.prog=P->X.w=w->X.K=K->X.mg=mg->X.base=base->X.N=N->X.env.scope=bP st->X.calm=true->(∀ x,X.fn x=true)->Dfb X->Room k X.A->sp vs H Q E ->
   ∃ t,bW (X.wish (jR X λ _=>E)) (eQ st) t/\t {nx:=λ _ H'=>Q .non H',rt:=Q } (start N vs) H):FnOk P w K mg base (jE P w) (k+1) f fd ps sp:=by
 obtain⟨oc,od,kV,doc,pm,an,cdv,ct,osl,rfl,lk,hcd⟩:=F.ex;refine aGV lk hcd S len λ A outer s H vs Q E hr hsp=>?_
 obtain⟨t,h,q⟩:=hbody (iG (jE P w) P w K mg base N bN (bP st) f cdv A outer s H E) A vs H Q E rfl rfl rfl rfl rfl rfl rfl rfl (λ _=>rfl) ⟨rfl,rfl,rfl⟩ hr hsp
 exact⟨t,bW.wish (λ e s h=>aK1 h) h,q⟩
end
section
variable {X : Cx}{k : Nat}{f : qv}{fd : jz}{ps : List Str}{sp : Sp}{W : XW}{x : Str}{p pos : Pos}{e : qw}{es : List qw}{t : TA}
def uK(X:Cx)(W:XW):Prop:=∀ e s,jR X W e s->X.xe e s
theorem aMA{aA:List (qv×Obj)}{σ:L2.St}{H:Hp}{s:qj}{Q:VK}{us:List qx}{vs:List V}(F:FnOk X.prog X.w X.K X.mg X.base (jE X.prog X.w) k f fd ps sp)(hr:Room k X.A)(hb:eA X.K fd ps [])(hx:uK X W)
 (I:Inv X aA σ H s) (r:aT vs us) (h:sp vs H Q (W σ)):qu (model X.prog X.w) X.A (call (.ref f) us) (EP X aA σ Q) X.xe s:=by
 have hl:(us++[]).length=ps.length:=by rw[yAv,<- r.length];exact F.len _ _ _ _ h
 have hbb:=hb s us I.kIn hl;rw[yAv] at hbb;refine wpAny_call (codeAny_mono (F.run X.A X.stack s H ⟨us,[]⟩ us vs Q (W σ) hr I.env0 hbb r h) λ r s' hq=>?_)
 cases r with
 | error e =>
   obtain⟨a,cls,dx,H',rfl,os,bare,un,hok,T,q⟩:=hq;have I2:Inv X aA σ H' s':=I.call' (ch:=[]) os un hok bare λ b z=>absurd z (by simp)
   exact hx _ _ ⟨a,cls,dx,_,s.heap,σ,H',rfl,qD I2,T,.inr (.inl rfl),sZ (qD I),λ b hb=>by
    cases q:s.heap.get? b with
    | none=>exact absurd q hb
    | some o=>obtain⟨o',e'⟩:=un.there b o q (by simp);exact kM e',q⟩
 | ok fl =>
   cases fl with
   | ret u=>exact I.after hq
   | next=>exact False.elim hq
   | brk=>exact False.elim hq
   | cont=>exact False.elim hq
def aF6(sp:Sp)(W:XW)(t:TA):TE:=λ σ H Q=>t σ H λ vs H1=>sp vs H1 Q (W σ)
theorem aKn(F:FnOk X.prog X.w X.K X.mg X.base (jE X.prog X.w) k f fd ps sp)(hr:Room k X.A)(hg:Gl X x)(hm:X.mg x=qq (.ref f))(hk:yBw X.K (.ref f)=true)(hb:eA X.K fd ps [])(hx:uK X W)
 (ha:PA X (e::es) t) (hdb:(x==("__debug__" : Str))=false) (he:zj (e::es) X.env=(false,eval e X.env)::zj es X.env) (hpl:(backTo pos (zj es X.env)).any (·.1)=false) :
 PE X (.Call (.Name x p) (e::es) [] pos) (aF6 sp W t):=by
 intro aA s σ H Q I h;refine jq (lE I hg hm ?_ hdb);refine yEb (h₀:=X.base) I.ok.mod.kin hk (aZ (ha pos aA s σ H _ I h) λ us s1 ⟨vs,H1,I1,r,q⟩=>⟨I1.kIn,?_⟩) he hpl
 exact aMA F hr hb hx I1 r q
end
inductive FlX where
 | fl (f:Fl) | ex (env:aV) (c:Str) (r:D)
abbrev FX:=aV->aC->Option (FlX×aC)
inductive ResX where
 | ok (w:W) | ex (c:Str) (r:D)
abbrev jV:=aV->aC->Option (ResX×aC)
def pC(K:FrG)(F:Hp)(c:Str)(r:D)(cls:qx)(dx:Option qv):Prop:=∃ C,cls=.ref C/\yCc K qy c=qq (qq (.ref C))/\uW F dx r
theorem pC.mono{K:FrG}{F F':Hp}(e:bY F F'){c:Str}{r:D}{cls:qx}{dx:Option qv}(h:pC K F c r cls dx):pC K F' c r cls dx:=let ⟨C,h1,h2,h3⟩:=h;⟨C,h1,h2,h3.mono e⟩
section
variable (K : FrG)(W : XW)
noncomputable def aQH(D:Ends)(F':Hp)(L':List qv)(H':Hp):FlX->Prop
 | .fl f=>zN K D F' L' H' f
 | .ex env c r=>∀ σ cls dx,EnvR K F' L' env σ->pC K F' c r cls dx->W σ cls dx H'
def tX(f:FX):TS:=λ D σ H=>∃ F L S env fx S',Rel K F L S H/\EnvR K F L env σ/\f env S=qq (fx,S')/\∀ F' L' H',Gr F L F' L'->Rel K F' L' S' H'->aQH K W D F' L' H' fx
noncomputable def uC(F:Hp)(L:List qv)(S':aC)(Q:VK)(E:XK):ResX->Prop
 | .ok w=>pI K F L S' w Q
 | .ex c r=>∀ F' L' H' cls dx,Gr F L F' L'->Rel K F' L' S' H'->pC K F' c r cls dx->E cls dx H'
def pM(f:jV):TE:=λ σ H Q=>∃ F L S env res S',Rel K F L S H/\EnvR K F L env σ/\f env S=qq (res,S')/\uC K F L S' Q (W σ) res
noncomputable def pN(np:Nat)(call:List EV.W->aC->Option (ResX×aC)):Sp:=λ vs H Q E=>∃ F L S ws res S',ws.length=np/\Rel K F L S H/\WDenL K F L ws vs/\call ws S=qq (res,S')/\uC K F L S' Q E res
end
theorem uC.mono{K:FrG}{F F1:Hp}{L L1:List qv}{S':aC}{Q:VK}{E:XK}{res:ResX}(g:Gr F L F1 L1)(h:uC K F L S' Q E res):uC K F1 L1 S' Q E res:=by
 cases res with
 | ok w=>exact λ F2 L2 H2 v g2 R2 d2=>h F2 L2 H2 v (g.trans g2) R2 d2
 | ex c r=>exact λ F2 L2 H2 cls dx g2 R2 x2=>h F2 L2 H2 cls dx (g.trans g2) R2 x2
section
variable {X : Cx}{W : XW}{pos : Pos}
theorem PS.nox{st:zy}{t:TS}(h:PS X.nox st t):PS X st t:=λ aA s σ H D I hw =>
 wpAny_mono (h aA s σ H D (I.wish _) hw) (λ _ _ q=>q.unwish) λ _ _ z=>False.elim z
theorem PA.nox{es:List qw}{t:TA}(h:PA X.nox es t):PA X es t:=λ pos aA s σ H Q I hw =>
 wpAny_mono (h pos aA s σ H Q (I.wish _) hw) (λ _ _ hPr4=>by obtain⟨v,H',I',r,q⟩:=hPr4;exact⟨v,H',I'.unwish,r,q⟩) λ _ _ z=>False.elim z
noncomputable def xP(f:FS):FX:=λ env S=>(f env S).bind λ p=>qq (.fl p.1,p.2)
theorem aRN{K:FrG}{f:FS}(D:Ends)(σ:L2.St)(H:Hp)(h:tX K W (xP f) D σ H):cM K f D σ H:=by
 obtain⟨F,L,S,env,fx,S',R,E,e,q⟩:=h;obtain⟨⟨fl,S1⟩,e1,e2⟩:=bind_some e;cases e2;exact iB R E e1 q
theorem x_s{st:zy}{f:FS}(h:PS X.nox st (cM X.K f)):PS X st (tX X.K W (xP f)):=PS.weak (PS.nox h) aRN
noncomputable def aHd:FX:=λ env S=>qq (.fl (.nx env),S)
theorem aQZ:bW X [] (tX X.K W aHd):=bW.weak aBL λ D σ H h=>by
 obtain⟨F,L,S,env,fx,S',R,E,e,q⟩:=h;cases e;exact q F L H Gr.refl R σ E
noncomputable def aHA(fa fb:FX):FX:=λ env S=>(fa env S).bind λ p=>match p.1 with
 | .fl (.nx e)=>fb e p.2
 | fl=>qq (fl,p.2)
theorem aP3{a:zy}{b:List zy}{fa fb:FX}(ha:PS X a (tX X.K W fa))(hb:bW X b (tX X.K W fb)):bW X (a::b) (tX X.K W (aHA fa fb)):=bW.weak (aBb ha hb) λ D σ H h=>by
 obtain⟨F,L,S,env,fx,S',R,E,e,q⟩:=h;obtain⟨⟨f1,S1⟩,e1,e2⟩:=bind_some e;cases f1 with
 | ex e' c r=>cases e2;exact⟨F,L,S,env,_,_,R,E,e1,q⟩
 | fl f1 =>
   cases f1 with
   | nx e'=>exact⟨F,L,S,env,_,_,R,E,e1,λ F1 L1 H1 g1 R1 σ1 E1=>⟨F1,L1,S1,e',fx,S',R1,E1,e2,λ F2 L2 H2 g2 R2=>q F2 L2 H2 (g1.trans g2) R2⟩⟩
   | rt w=>cases e2;exact⟨F,L,S,env,_,_,R,E,e1,q⟩
   | bk e'=>cases e2;exact⟨F,L,S,env,_,_,R,E,e1,q⟩
   | ct e'=>cases e2;exact⟨F,L,S,env,_,_,R,E,e1,q⟩
noncomputable def xIf(fc:FT)(fa fb:FX):FX:=λ env S=>(fc env S).bind λ p=>if p.1=true then fa env p.2 else fb env p.2
theorem aRA{c:qw}{a b:List zy}{fc:FT}{fa fb:FX}(hc:PT X.nox c (eP X.K fc))(ha:bW X a (tX X.K W fa))(hb:bW X b (tX X.K W fb)):PS X (.If c a b pos) (tX X.K W (xIf fc fa fb)):=PS.weak (aG7 (PT.nox hc) ha hb) λ D σ H h=>by
 obtain⟨F,L,S,env,fx,S',R,E,e,q⟩:=h;obtain⟨⟨c,S1⟩,e1,e2⟩:=bind_some e;refine⟨F,L,S,env,c,S1,R,E,e1,λ F1 L1 H1 g1 R1=>?_⟩
 cases c with
 | true=>exact pH ⟨F1,L1,S1,env,fx,S',R1,E.mono g1,by simpa using e2,λ F2 L2 H2 g2 R2=>q F2 L2 H2 (g1.trans g2) R2⟩
 | false=>exact pF ⟨F1,L1,S1,env,fx,S',R1,E.mono g1,by simpa using e2,λ F2 L2 H2 g2 R2=>q F2 L2 H2 (g1.trans g2) R2⟩
noncomputable def mX(t:Tg)(fb:FX):List D->FX
 | []=>λ env S=>qq (.fl (.nx env),S)
 | d::ds=>λ env S=>(t.put d env).bind λ e1=>(fb e1 S).bind λ q=>(match q.1 with
    | .fl (.nx e)=>mX t fb ds e q.2
    | .fl (.ct e)=>mX t fb ds e q.2
    | .fl (.bk e)=>qq (.fl (.nx e),q.2)
    | fl=>qq (fl,q.2))
noncomputable def mY(t:Tg)(fi:FL)(fb:FX):FX:=λ env S=>(fi env S).bind λ p=>mX t fb p.1 env p.2
theorem aQF{tg iter:qw}{b:List zy}{t:Tg}{g:TG}{fi:FL}{fb:FX}(hp:PassesOwn (model X.prog X.w) X.A X.env X.xe)(hc:X.calm=true)(hi:PI X tg iter (jF X.K fi))(hg:PG X tg g)(ga:GA X.K t g)(hb:bW X b (tX X.K W fb))
 (hs:∀ x,jj iter X.env x=pure x):PS X (.For tg iter b [] pos) (tX X.K W (mY t fi fb)):=PS.weak (aGo hp hc hi hg hb hs) λ D σ H h=>by
 obtain⟨F,L,S,env,fx,S',R,E,e,q⟩:=h;obtain⟨⟨ds,S1⟩,e1,e2⟩:=bind_some e;refine⟨F,L,S,env,ds,S1,R,E,e1,λ F0 L0 H0 J g0 R0 wk=>?_⟩
 dsimp only at e2;refine⟨λ i m σ1 H1=>i+m=ds.length/\∃ F1 L1 S1 env1,Gr F0 L0 F1 L1/\Rel X.K F1 L1 S1 H1/\EnvR X.K F1 L1 env1 σ1/\mX t fb (ds.drop i) env1 S1=qq (fx,S'),
  ⟨ds.length,yEs _,F0,L0,S1,env,Gr.refl,R0,E.mono g0,by rw[yDb];exact e2⟩,?_⟩
 rintro i m σ1 H1 ⟨him,F1,L1,S1',env1,g1,R1,E1,e3⟩;cases m with
 | zero =>
   have hi:i=ds.length:=by omega
   subst hi;rw[yEy] at e3;cases e3;exact .inl ⟨wk.stop H1 (g1.f.trans R1.sub),q F1 L1 H1 (g0.trans g1) R1 σ1 E1⟩
 | succ m =>
   have hi:i<ds.length:=by omega
   refine .inr ⟨wk.go i H1 (g1.f.trans R1.sub) hi,λ σ3 H3=>∃ F3 L3 S3 env3,Gr F0 L0 F3 L3/\Rel X.K F3 L3 S3 H3/\EnvR X.K F3 L3 env3 σ3/\mX t fb (ds.drop (i+1)) env3 S3=qq (fx,S'),
    λ σ3 H3 h3=>⟨m,yCz m,by omega,h3⟩,λ x H2 y=>?_⟩
   rw[yCn hi] at e3;obtain⟨env2,e4,e5⟩:=bind_some e3;obtain⟨⟨f6,S6⟩,e6,e7⟩:=bind_some e5;obtain⟨F2,s2,R2,d2⟩:=wk.yld i H1 F1 L1 S1' x H2 ds[i] g1 R1 (yAc hi) y;have g2:Gr F1 L1 F2 L1:=⟨s2,[],by simp⟩
   refine ga ds[i] x σ1 H2 F2 L1 S1' env1 env2 _ R2 (E1.mono g2) d2 e4 λ σ2 E2=>?_
   refine⟨F2,L1,S1',env2,f6,S6,R2,E2,e6,λ F3 L3 H3 g3 R3=>?_⟩
   have g03:=(g1.trans g2).trans g3;cases f6 with
   | ex e' c r=>cases e7;exact λ σ3 cls dx E3 x3=>q F3 L3 H3 (g0.trans g03) R3 σ3 cls dx E3 x3
   | fl f6 =>
     cases f6 with
     | nx e'=>exact λ σ3 E3=>⟨F3,L3,S6,e',g03,R3,E3,e7⟩
     | ct e'=>exact λ σ3 E3=>⟨F3,L3,S6,e',g03,R3,E3,e7⟩
     | bk e'=>cases e7;exact λ σ3 E3=>q F3 L3 H3 (g0.trans g03) R3 σ3 E3
     | rt w=>cases e7;exact λ v d=>q F3 L3 H3 (g0.trans g03) R3 v d
noncomputable def oO(f:jV):FX:=λ env S=>(f env S).bind λ p=>match p.1 with
 | .ok _=>qq (.fl (.nx env),p.2)
 | .ex c r=>qq (.ex env c r,p.2)
noncomputable def jB(i:Nat)(f:jV):FX:=λ env S=>(f env S).bind λ p=>match p.1 with
 | .ok w=>qq (.fl (.nx (env.set i (qq w))),p.2)
 | .ex c r=>qq (.ex env c r,p.2)
noncomputable def yF(k:Str)(f:jV):jV:=λ env S=>(f env S).bind λ p=>match p.1 with
 | .ok (.d x)=>qq (.ok (.d (.tuple [.str k,x])),p.2)
 | .ok _=>qz
 | .ex c r=>qq (.ex c r,p.2)
noncomputable def aB7(fs:FA)(np:Nat)(call:List EV.W->aC->Option (ResX×aC)):jV:=λ env S=>(fs env S).bind λ p=>if p.1.length=np then call p.1 p.2 else qz
theorem aPp{e:qw}{f:jV}(h:PE X e (pM X.K W f))(hs:swapsWith e qz pos.line X.env=pure false):PS X (.Expr e pos) (tX X.K W (oO f)):=PS.weak (aFM h hs) λ D σ H h=>by
 obtain⟨F,L,S,env,fx,S',R,E,e,q⟩:=h;obtain⟨⟨res,S1⟩,e1,e2⟩:=bind_some e;refine⟨F,L,S,env,res,S1,R,E,e1,?_⟩;cases res with
 | ok w=>cases e2;exact λ F1 L1 H1 v g1 R1 d1=>q F1 L1 H1 g1 R1 σ (E.mono g1)
 | ex c r=>cases e2;exact λ F1 L1 H1 cls dx g1 R1 x1=>q F1 L1 H1 g1 R1 σ cls dx (E.mono g1) x1
theorem aQN{i:Nat}{x:Str}{e:qw}{f:jV}{pos':Pos}(hN:X.N.Nodup)(hi:X.N[i]? = qq x)(hx:Loc X.env.scope x)(h:PE X e (pM X.K W f))(hs:swapsWith e (qq (.Name x pos')) pos.line X.env=pure false)(hf:X.fn x=true\/X.env.scope.names.lookup x=qq .local) :
 PS X (.Assign [.Name x pos'] e pos) (tX X.K W (jB i f)):=PS.weak (aF0 hN hi hx h hs hf) λ D σ H h=>by
 obtain⟨F,L,S,env,fx,S',R,E,e,q⟩:=h;obtain⟨⟨res,S1⟩,e1,e2⟩:=bind_some e;refine⟨F,L,S,env,res,S1,R,E,e1,?_⟩;cases res with
 | ok w=>cases e2;exact λ F1 L1 H1 v g1 R1 d1=>q F1 L1 H1 g1 R1 _ ((E.mono g1).set i d1)
 | ex c r=>cases e2;exact λ F1 L1 H1 cls dx g1 R1 x1=>q F1 L1 H1 g1 R1 σ cls dx (E.mono g1) x1
theorem aNa{k:Str}{j:Nat}{p1:Pos}{kk:Nat}{e:qw}{f:jV}(h:PE X e (pM X.K W f))(hp:cB e=true):PE X (.Tuple [.Constant (.str k) j p1,e] kk pos) (pM X.K W (yF k f)):=
 PE.weak (aBN (kF aGu (kF h qP (dX hp _ _)))) λ σ H Q h=>by
  obtain⟨F,L,S,env,res,S',R,E,e,q⟩:=h;obtain⟨⟨r1,S1⟩,e1,e2⟩:=bind_some e;refine⟨F,L,S,env,r1,S1,R,E,e1,?_⟩;cases r1 with
  | ex c r=>cases e2;exact q
  | ok w =>
    cases w with
    | d x =>
      cases e2;exact λ F1 L1 H1 v g1 R1 d1=>⟨by show 2<=qk;decide,λ p hp=>q _ L1 _ _ (g1.trans (Gr.new (R1.sub.free hp))) (R1.new hp) (Den.tup (bV.of cA) (.cons (.str k) (.cons (Den.mono (eZ (R1.sub.free hp)) d1) .nil)))⟩
    | loc n=>cases e2
    | exc c r=>cases e2
theorem aLW{K:FrG}{fs:FA}{np:Nat}{call:List EV.W->aC->Option (ResX×aC)}(σ:L2.St)(H:Hp)(Q:VK)(h:pM K W (aB7 fs np call) σ H Q):aF6 (pN K np call) W (dC K fs) σ H Q:=by
 obtain⟨F,L,S,env,res,S',R,E,e,q⟩:=h;obtain⟨⟨ws,S1⟩,e1,e⟩:=bind_some e
 split at e
 ·rename_i hn;exact⟨F,L,S,env,ws,S1,R,E,e1,λ F1 L1 H1 vs g1 R1 d1=>⟨F1,L1,S1,ws,res,S',hn,R1,d1,e,q.mono g1⟩⟩
 ·cases e
end
noncomputable def fG(fb:FX)(n:Nat)(ws:List W)(S:aC):Option (ResX×aC):=(fb (ws.map qq++yAh (n-ws.length) qz) S).bind λ p=>match p.1 with
 | .fl (.rt w)=>(kT S.length p.2 w).bind λ q=>qq (.ok q.1,q.2)
 | .fl (.nx _)=>qq (.ok (.d .none),p.2.take S.length)
 | .ex _ c r=>qq (.ex c r,p.2.take S.length)
 | _=>qz
theorem aMb{K:FrG}{fb:FX}{N:List Str}{np:Nat}{vs:List V}{H:Hp}{Q:VK}{E:XK}(h:pN K np (fG fb N.length) vs H Q E):tX K (λ _=>E) fb {nx:=λ _ H'=>Q .non H',rt:=Q } (L2.start N vs) H:=by
 obtain⟨F,L,S,ws,res,S',hn,R,dl,e,q⟩:=h;obtain⟨⟨fx,S1⟩,e1,e2⟩:=bind_some e;refine⟨F,L,S,_,fx,S1,R,aAR dl,e1,λ F1 L1 H1 g1 R1=>?_⟩
 cases fx with
 | ex aO c r =>
   cases e2;intro σ' cls dx E' x';obtain⟨sf,M,rfl⟩:=g1;have R2:=R1.cut;rw[R.len] at R2;exact q F1 L H1 cls dx ⟨sf,[],by simp⟩ R2 x'
 | fl f =>
   cases f with
   | nx aO =>
     cases e2;exact λ σ' E'=>xS (w:=.d .none) R.len g1 R1 Den.non rfl q
   | rt w' =>
     obtain⟨⟨w2,S2⟩,e3,e4⟩:=bind_some e2;cases e4;exact λ v d=>xS R.len g1 R1 d e3 q
   | bk aO=>cases e2
   | ct aO=>cases e2
noncomputable def mP(call:List EV.W->aC->Option (ResX×aC)):List EV.W->aC->Option (W×aC):=λ ws S=>(call ws S).bind λ p=>match p.1 with
 | .ok w=>qq (w,p.2)
 | .ex _ _=>qz
theorem aKt{P:zq}{w:zx}{K:FrG}{mg:Str->Option qx}{base:Heap}{k:Nat}{f:qv}{fd:jz}{ps:List Str}{np:Nat}{call:List EV.W->aC->Option (ResX×aC)}
 (F:FnOk P w K mg base (jE P w) k f fd ps (pN K np call)):FnOk P w K mg base fV k f fd ps (iN K np (mP call)):=by
 have hsp:∀ vs H Q E,iN K np (mP call) vs H Q E->pN K np call vs H Q E0:=λ vs H Q E h=>by
  obtain⟨F,L,S,ws,w,S',hn,R,dl,e,q⟩:=h;obtain⟨⟨res,S1⟩,e1,e2⟩:=bind_some e;cases res with
  | ok w1=>cases e2;exact⟨F,L,S,ws,_,_,hn,R,dl,e1,q⟩
  | ex c r=>cases e2
 refine⟨λ vs H Q E h=>F.len vs H Q E0 (hsp vs H Q E h),λ A outer s H args us vs Q E hr he hb hv h=>codeAny_mono (F.run A outer s H args us vs Q E0 hr he hb hv (hsp vs H Q E h)) λ r s' q=>?_⟩
 cases r with
 | ok fl=>cases fl<;>exact q
 | error e =>
   obtain⟨_,_,_,_,_,_,_,_,_,_,z⟩:=q;exact z
end EV
namespace EV
open PySem L2 PySem.Spec PyProof.Rows PySem.W
section
variable {prog : zq}{w : zx}{A : zv}{E : qx -> qj -> Prop}{s : qj}{K : FrG}{x D : qv}{ox : Obj}{odo : Option Obj}{name : Str}{tk : Tok}
theorem aEt{R:Result->qj->Prop}(X:K.In s.heap)(I:yCg s.heap x ox D odo)(hm:mroIn K D (.type "BaseException")=qq true)
 (h:qu (model prog w) A.in1 (Builtin.«object.__getattribute__» ⟨[.ref x,.str name tk],[]⟩) (λ bI s'=>match bI with | .done f=>R (.ok f) s' | .again c'=>c'.quiet=true/\vo (model prog w) A c' R s') (λ e s'=>R (.error e) s') s) :
 vo (model prog w) A (.call (.builtin "BaseException.__getattribute__") ⟨[.ref x,.str name tk],[]⟩) R s:=by
 obtain⟨hh,g,d,t,os⟩:=s;have L0:=I.type (M:=model prog w);have L1:=looks_mroIn (M:=model prog w) X hm;have L2:Looks (model prog w) hh (isInstance (.ref x) (.type "BaseException")) true:=L0.andThen L1;refine codeAny_call_builtin F.attr_ValueError.ga.plain F.entry_bexc_ga ?_;have hk:builtinKind "BaseException.__getattribute__" = qq .slot:=by decide +kernel
 have hsplit:splitId "BaseException.__getattribute__" = qq ("BaseException", "__getattribute__"):=by decide +kernel
 have ha:=F.args_bexc_ga (.ref x) (.str name tk);simp only[checkBuiltinCall,hk,hsplit];refine wB (L2.at ?_)
 repeat (any_goals (first | assumption | wp_step))
theorem aFZ{fill expr:Bool}{Q:qx->qj->Prop}(X:K.In s.heap)(I:yCg s.heap x ox D odo)(hga:findIn K (.ref D) "__getattribute__" = qq (qq (.builtin "BaseException.__getattribute__")))(hgt:findIn K (.ref D) "__getattr__" = qq qz)
 (h:vo (model prog w) A (.call (.builtin "BaseException.__getattribute__") ⟨[.ref x,.str name tk],[]⟩) (λ r s'=>match r with | .ok (.ret v)=>qu (model prog w) A (handedOut v) Q E s' | _=>False) s) :
 qu (model prog w) A (getAttrBy (.ref x) (.str name tk) fill expr) Q E s:=by
 obtain⟨hh,g,d,t,os⟩:=s;have L0:=I.type (M:=model prog w);have L1:=looks_findIn (M:=model prog w) X hga;have L2:=looks_findIn (M:=model prog w) X hgt;have f3:=F.attr_ValueError.ga.bind (.ref x);have hx2:(Value.builtin "BaseException.__getattribute__" == Value.builtin "object.__getattribute__")=false:=by decide +kernel
 have hx0:(expr&&onTheHeap (Value.builtin "BaseException.__getattribute__"))=false:=by cases expr<;>rfl
 unfold getAttrBy;refine xq (wB (L0.at (wB (L1.at ?_))));dsimp only;rw[hx2,yFm,if_neg yAu];unfold getAttrByItsOwn hookBefore;rw[if_pos (show onTheHeap (Value.ref D)=true from rfl)]
 refine wB (L2.at (wB (yw (xq ?_))));unfold callGetattribute boundAndCalled;rw[hx0,if_neg yAu,f3];refine wB (wP (wpAny_call (codeAny_mono h λ r s' q=>?_)))
 rcases r with e | (_ | _ | _ | v)
 all_goals first | exact q.elim | exact q
theorem aIN{a g:qx}(hc:(clsIn K D).isSome=true)(ha:findIn K (.ref D) name=qq (qq a))(hg:specialIn K a "__get__" = qq (qq g))(ht:takesIn K a=qq true):findObj K D odo name=qq (.bind g a):=by
 obtain⟨cd,hc⟩:=Option.isSome_iff_exists.mp hc;unfold findObj;rw[hc,yBo,ha,yBo];simp[hg,ht]
theorem aKU{g a:qx}{Q:Fin->qj->Prop}(X:K.In s.heap)(I:yCg s.heap x ox D odo)(hf:findObj K D odo name=qq (.bind g a))(h:vo (model prog w) A (.call g ⟨[a,.ref x,.ref D],[]⟩) (λ r s'=>match r with | .ok (.ret v)=>qu (model prog w) A (ret v) Q E s' | .ok _=>False | .error e=>E e s') s):qu (model prog w) A (Builtin.«object.__getattribute__» ⟨[.ref x,.str name tk],[]⟩) Q E s:=by
 obtain⟨hh,gg,d,t,os⟩:=s;have L0:=I.type (M:=model prog w);have L1:=looks_find (M:=model prog w) X I hf;unfold Builtin.«object.__getattribute__»
 repeat (any_goals (first | assumption | with_reducible refine L0.at ?_ | with_reducible refine L1.at ?_ | wp_step))
theorem aJE{v:qx}{Q:Fin->qj->Prop}(X:K.In s.heap)(I:yCg s.heap x ox D odo)(hf:findObj K D odo name=qq (.value v))(h:Q (.done (.ret v)) s):qu (model prog w) A (Builtin.«object.__getattribute__» ⟨[.ref x,.str name tk],[]⟩) Q E s:=by
 obtain⟨hh,gg,d,t,os⟩:=s;have L0:=I.type (M:=model prog w);have L1:=looks_find (M:=model prog w) X I hf;unfold Builtin.«object.__getattribute__»
 repeat (any_goals (first | assumption | with_reducible refine L0.at ?_ | with_reducible refine L1.at ?_ | wp_step))
end
structure XcOk(K:FrG)(D:qv):Prop where
 ga:findIn K (.ref D) "__getattribute__" = qq (qq (.builtin "BaseException.__getattribute__"))
 gt:findIn K (.ref D) "__getattr__" = qq qz
 mb:mroIn K D (.type "BaseException")=qq true
 mo:mroIn K D (.type "object")=qq true
 hd:hasDictIn K D=true
 rw:findIn K (.ref D) "row" = qq qz
 ca:findIn K (.ref D) "__class__" = qq (qq (.builtin "object.__class__"))
 cg:specialIn K (.builtin "object.__class__") "__get__" = qq (qq (.builtin "getset_descriptor.__get__"))
 ct:takesIn K (.builtin "object.__class__")=qq true
theorem XcOk.cl{K:FrG}{D:qv}(O:XcOk K D):(clsIn K D).isSome=true:=by
 obtain⟨cd,hc,_⟩:=aKF O.hd;rw[hc];rfl
theorem aEw{K:FrG}{x D:qv}{ox:Obj}{odo:Option Obj}(O:XcOk K D):KitX K (.ref x) (.ref D) (λ h=>yCg h x ox D odo) where
 ty:=λ _ _ _ I=>I.type
 it:=λ _ _ X _=>by
  obtain⟨cdD,hcD⟩:=Option.isSome_iff_exists.mp O.cl;unfold clsIn at hcD
  split at hcD
  ·rename_i c' d' cd' sl' ho;intro A' Q' E' s' k q;unfold isType loadHead;exact wB (wpAny_loadPart (k _ _ (X _ _ ho)) (wP q))
  ·cases hcD
 ne:=λ h tp dd its n sl X htp=>by
  obtain⟨cdD,hcD⟩:=Option.isSome_iff_exists.mp O.cl;refine Bool.eq_false_iff.mpr λ q=>?_
  have e:D=tp:=Value.ref.inj (beq_iff_eq.mp q);subst e;unfold clsIn at hcD
  split at hcD
  ·rename_i c' d' cd' sl' ho;have z:=(X _ _ ho).symm.trans htp;cases z
  ·cases hcD
 ca:=λ {prog w A E Q s} X I k=>by
  unfold getAttr? getAttrBy?;refine wB (wpAny_mkText (wB (yw ?_)));refine aFZ (s:={s with toks:=s.toks+1 }) X I O.ga O.gt (aEt (s:={s with toks:=s.toks+1 }) X I O.mb (aKU (s:={s with toks:=s.toks+1 }) X I (aIN O.cl O.ca O.cg O.ct) ?_))
  refine class_get (s:={s with toks:=s.toks+1 }) X I O.mo (wP ?_)
  show qu _ _ (handedOut (.ref D)) _ _ _;rw[handedOut_of rfl];exact wP (wP k)
end EV
namespace EV
open PySem L2 PySem.Spec PyProof.Rows PySem.W
theorem wN{P:zq}{w:zx}{H:Hp}{h:Heap}{a:qv}{o:HO}(x:fP P w H h a o):∃ u,h.get? a=qq u:=by
 cases o with
 | lst xs=>obtain⟨_,_,_,_,e⟩:=x;exact⟨_,e⟩
 | tup xs=>obtain⟨_,_,_,o,e,_⟩:=x;exact⟨o,e⟩
 | dK aK=>obtain⟨_,_,_,_,o,_,_,e,_⟩:=x;exact⟨o,e⟩
 | dT aK=>obtain⟨_,_,_,_,o,_,_,e,_⟩:=x;exact⟨o,e⟩
 | set S n=>obtain⟨o,_,_,_,e,_⟩:=x;exact⟨o,e⟩
 | ins C dx fs=>obtain⟨_,_,_,e,_⟩:=x;exact⟨_,e⟩
 | own y=>exact x
 | xd fs=>obtain⟨mA,hn,_⟩:=x;obtain⟨_,_,_,e,_⟩:=hn;exact⟨_,e⟩
 | met f y=>exact⟨_,x⟩
 | rng lo hi=>obtain⟨_,_,_,e⟩:=x;exact⟨_,e⟩
 | frz o u=>exact⟨o,x.1⟩
 | tbl ps=>exact⟨_,x⟩
 | ext φ=>exact x.2.1
noncomputable abbrev jW:List qx:=[.type "ValueError",.type "Exception",.type "BaseException",.type "object"]
theorem aFR{K:FrG}{h:Heap}{C:qv}{bmB:List qx}{newId:String}(X:K.In h)(q:excIn K C bmB newId=true):∃ bm N nm qn bs hd sn sub ab col dd k0 k1 k2 k3 k5 mN,
 h.get? C=qq (excClassObj nm qn C N bs bm hd sn sub ab col dd k0 k1 k2 k3 k5 newId)/\h.Ns N mN/\mN "__init__" = qz/\OwnTail h bmB bm:=by
 unfold excIn at q
 split at q
 ·rename_i dd cd sl ho
  split at q
  ·rename_i C' bm k0 k1 k2 k3 n k5 hm hs;simp only[yBm,beq_iff_eq,yDn] at q;obtain⟨⟨⟨⟨⟨rfl,rfl⟩,hdel⟩,ht⟩,hok⟩,hni⟩:=q;obtain⟨nm,bs,mro,ns,qn,hd,sn,sub,ab,col,del⟩:=cd;dsimp only at hm hdel hok hni;subst hm hdel;obtain⟨l⟩:=sl;simp only at hs;subst hs;exact⟨bm,ns,nm,qn,bs,hd,sn,sub,ab,col,dd,k0,k1,k2,k3,k5,_,X _ _ ho,.of_isNs (isNs_of_in X hok),nsMap_none_of_in X hok hni,tail_of_in X ht⟩
  ·cases q
 ·cases q
noncomputable def aGi(c:Str):FX:=λ env S=>qq (.ex env c .none,S)
theorem aKS{X:Cx}{W:XW}{c:Str}{C:qv}{np cpos pos:Pos}(hx:uK X W)(hc:X.calm=true)(hg:Gl X c)(hm:X.mg c=qq (.ref C))(hns:nsIn X.K qy c=qq (qq (.ref C)))(hq:excIn X.K C jW "ValueError.__new__" = true)
 (hd:(c==("__debug__" : Str))=false):PS X (.Raise (qq (.Call (.Name c np) [] [] cpos)) qz pos) (tX X.K W (aGi c)):=by
 rintro aA s σ H D I ⟨F0,L,S,env,fx,S',R,E,e,q⟩;cases e;obtain⟨bm,N,nm,qn,bs,hd',sn,sub,ab,col,dd,k0,k1,k2,k3,k5,mN,hC,hN,hni,T⟩:=aFR I.kIn hq;refine wpAny_Raise_call_subT (C:=C) yDo (T.hasType PySem.F.excBase_ValueError.hasBase) (I.ok.hd hc) rfl hni (lE I hg hm ⟨rfl,evalArgs_empty ⟨rfl,yFe _,hC,hN,T,λ h' e me=>?_⟩⟩ hd)
 obtain⟨t,he,_,_⟩:=me.there;refine hx _ _ ⟨e,.ref C,qz,qz,s.heap,σ,H,rfl,qD (I.kept (t':=s.toks) me.keeps),⟨_,_,he,rfl,rfl,rfl,Nat.lt_of_sub_pos (by simp),me.new,?_,.inl ⟨rfl,rfl⟩⟩,.inl rfl,sZ (qD I),λ b hb=>?_,q F0 L H Gr.refl R σ (.ref C) qz E ⟨C,rfl,hns,rfl⟩⟩
 ·cases z:H e with
  | none=>rfl
  | some u =>
    obtain⟨o,ho⟩:=wN (I.hok e u z);rw[me.new] at ho;cases ho
 ·cases z:s.heap.get? b with
  | none=>exact absurd z hb
  | some o=>exact kM (me.keeps b o z)
theorem aA1{X:Cx}{aA:List (qv×Obj)}{σ:L2.St}{H:Hp}{s:qj}{h0:Heap}{a:qv}{o:HO}(I:Inv X aA σ H s)(B:Bel X aA h0)(ha:h0.get? a=qz)(hH:H a=qz)(new:fP X.prog X.w (aW H a o) s.heap a o):Inv X aA σ (aW H a o) s:=by
 have ne:∀ b,h0.get? b≠qz->b≠a:=λ b hb z=>hb (by rw[z];exact ha)
 have nt:∀ b u,H b=qq u->b≠a:=λ b u e z=>by rw[z,hH] at e;cases e
 refine⟨I.ok,I.os,I.bare,⟨I.base.keep,I.base.slot,λ b u e n hx=>?_,I.base.there,λ b xs e=>?_,λ b u v e=>?_,λ b ps e=>?_⟩,I.loc,I.cell,?_,λ x c e=>?_,λ p hp=>?_,λ b u e=>?_,I.len⟩
 ·rw[bB (ne b (B.s0 b u e hx))];exact I.base.free b u e n hx
 ·have q:=I.base.tups b xs e;rw[bB (nt b _ q)];exact q
 ·have q:=I.base.frzs b u v e;rw[bB (nt b _ q)];exact q
 ·obtain⟨m,q⟩:=I.base.tbls b ps e;exact⟨m,by rw[bB (nt b _ q)];exact q⟩
 ·rw[bB (ne _ B.loc)];exact I.free
 ·rw[bB (ne _ (B.cell x c e))];exact I.freeC x c e
 ·obtain⟨e,n,r⟩:=I.pin p hp;exact⟨e,by rw[bB (ne _ (B.pin p hp))];exact n,r⟩
 ·by_cases hb:b=a
  ·subst hb;rw[cA] at e;cases e;exact new
  ·rw[bB hb] at e;exact(I.hok b u e).stay (λ _ _ _ q=>q) (λ c q=>by rw[bB (nt c _ q)];exact q) λ c xs q=>by rw[bB (nt c _ q)];exact q
theorem aLP{X:Cx}{A:zv}{E:qx->qj->Prop}{aA:List (qv×Obj)}{σ:L2.St}{H:Hp}{s:qj}{i:Nat}{n:Str}{pos:Pos}{Q:Unit->qj->Prop}(I:Inv X aA σ H s)(hN:X.N.Nodup)(hi:X.N[i]? = qq n)(hl:X.env.kindOf n=qq .local)
 (h:∀ s',Inv X aA (σ.set i qz) H s'->Q () s'):qu (model X.prog X.w) A (do bindName X.env n .none;unbindBehindTheSuite X.env n pos) Q E s:=by
 obtain⟨m,hn,hm⟩:=id I.loc;have hk:(X.env.scope.kind==.class||(X.env.scope.kind==.module&&X.env.locals != X.env.globals))=false:=by rw[I.ok.kind];rfl
 refine wpAny_nameGoes_keeps hl hn hk λ h' v hn' hs=>h _ ?_
 have neL:∀ b o,X.s₀.heap.get? b=qq o->b≠X.env.locals:=λ b o e=>xAh (xAc (xAa e) I.ok.above)
 have nt:∀ b u,H b=qq u->b≠X.env.locals:=λ b u e z=>by rw[z,I.free] at e;cases e
 refine⟨I.ok,I.os,I.bare,⟨λ b o e nn hb hx=>?_,λ b o e nn hb hx=>?_,I.base.free,λ b o e hx=>?_,I.base.tups,I.base.frzs,I.base.tbls⟩,⟨_,hn',λ j y v' e1 e2 e3=>?_⟩,λ y c e=>?_,I.free,I.freeC,λ p hp=>?_,λ b u e=>?_,by simpa using I.len⟩
 ·exact(hs.2 b (neL b o e)).trans (I.base.keep b o e nn hb hx)
 ·obtain⟨sl,e1⟩:=I.base.slot b o e nn hb hx;exact⟨sl,(hs.2 b (neL b o e)).trans e1⟩
 ·obtain⟨o',e1⟩:=I.base.there b o e hx;exact⟨o',(hs.2 b (neL b o e)).trans e1⟩
 ·by_cases hj:j=i
  ·subst hj;rcases yEr j σ.length with z | z
   ·rw[yAq z] at e2;cases e2
   ·rw[yDh (by rw[yAt];exact z)] at e2;cases e2
  ·rw[yAo (Ne.symm hj)] at e2;obtain⟨u',r',q⟩:=hm j y v' e1 e2 e3;refine⟨u',r',?_⟩;rcases q with ⟨k,e⟩ | ⟨k,c,e,z⟩
   ·refine .inl ⟨k,?_⟩;have:y≠n:=λ e=>hj (aBd hN e1 (e▸hi))
    simp[this,e]
   ·exact .inr ⟨k,c,e,z.sameBut hs (I.cne y c e)⟩
 ·obtain⟨w',z⟩:=I.cell y c e;exact⟨w',z.sameBut hs (I.cne y c e)⟩
 ·obtain⟨e,n,ne,nf,d⟩:=I.pin p hp;exact⟨(hs.2 p.1 ne).trans e,n,ne,nf,d⟩
 ·refine(I.hok b u e).stay (λ d w' hd q=>(hs.2 d ?_).trans q) (λ _ q=>q) λ _ _ q=>q
  rcases hd with z | z
  ·rw[z];exact nt b u e
  ·exact nt d _ z
noncomputable abbrev eT(X:Cx)(aA:List (qv×Obj)):Cx:={X with pn:=X.pn++aA }
noncomputable abbrev pO(X:Cx)(e:qx):Cx:={X with A:=X.A.mark (qq e),calm:=false,xe:=λ _ _=>False }
theorem okP{X:Cx}{aA:List (qv×Obj)}(ok:X.Ok):(eT X aA).Ok:=⟨ok.mod,ok.kind,ok.glob,ok.blt,ok.above,ok.inj,ok.has,ok.cab,ok.hd,ok.frames,ok.stk,ok.exf,ok.bs,ok.bsz,ok.noex,ok.exfs,ok.funs,ok.frf⟩
theorem aRY{X:Cx}{aA:List (qv×Obj)}(ok:(eT X aA).Ok):X.Ok:=⟨ok.mod,ok.kind,ok.glob,ok.blt,ok.above,ok.inj,ok.has,ok.cab,ok.hd,ok.frames,ok.stk,ok.exf,ok.bs,ok.bsz,ok.noex,ok.exfs,ok.funs,ok.frf⟩
theorem aHW{X:Cx}{aA:List (qv×Obj)}{σ:L2.St}{H:Hp}{s:qj}(I:Inv X aA σ H s):Inv (eT X aA) [] σ H s:=⟨okP I.ok,I.os,I.bare,I.base,I.loc,I.cell,I.free,I.freeC,λ p hp=>I.pin p (by rw[yAv] at hp;exact hp),I.hok,I.len⟩
theorem yQ{X:Cx}{aA:List (qv×Obj)}{σ:L2.St}{H:Hp}{s:qj}(I:Inv (eT X aA) [] σ H s):Inv X aA σ H s:=⟨aRY I.ok,I.os,I.bare,I.base,I.loc,I.cell,I.free,I.freeC,λ p hp=>I.pin p (by rw[yAv];exact hp),I.hok,I.len⟩
theorem aCz{X:Cx}{e:qx}{aA:List (qv×Obj)}{σ:L2.St}{H:Hp}{s:qj}(I:Inv X aA σ H s):Inv (pO X e) aA σ H s:=
 let ok:=I.ok
 ⟨⟨ok.mod,ok.kind,ok.glob,ok.blt,ok.above,ok.inj,ok.has,ok.cab,λ z=>(nomatch z),ok.frames,ok.stk,ok.exf,ok.bs,ok.bsz,ok.noex,ok.exfs,ok.funs,ok.frf⟩,I.os,I.bare,I.base,I.loc,I.cell,I.free,I.freeC,I.pin,I.hok,I.len⟩
theorem uN{X:Cx}{e:qx}{aA:List (qv×Obj)}{σ:L2.St}{H:Hp}{s:qj}(ok:X.Ok)(I:Inv (pO X e) aA σ H s):Inv X aA σ H s:=⟨ok,I.os,I.bare,I.base,I.loc,I.cell,I.free,I.freeC,I.pin,I.hok,I.len⟩
theorem spP{X:Cx}{aA:List (qv×Obj)}{D:Ends}{f:Flow}{s:qj}(h:SP (eT X aA) [] D f s):SP X aA D f s:=by
 cases f with
 | next=>obtain⟨σ',H',I,q⟩:=h;exact⟨σ',H',yQ I,q⟩
 | brk=>obtain⟨σ',H',I,q⟩:=h;exact⟨σ',H',yQ I,q⟩
 | cont=>obtain⟨σ',H',I,q⟩:=h;exact⟨σ',H',yQ I,q⟩
 | ret u=>obtain⟨v,σ',H',I,r,q⟩:=h;exact⟨v,σ',H',yQ I,r,q⟩
structure Hd where
 d:Str
 sl:Option Nat
 f:FS
noncomputable def uX(i:Nat):Fl×aC->Option (Fl×aC)
 | (.nx e,S)=>qq (.nx (e.set i qz),S)
 | _=>qz
noncomputable def dS(tb:Str->Str->Option Bool)(c:Str)(r:D):List Hd->FS
 | []=>λ _ _=>qz
 | h::hs=>λ env S=>match tb c h.d with
   | some true=>(match h.sl with
     | none=>h.f env S
     | some i=>(h.f (env.set i (qq (.exc c r))) S).bind (uX i))
   | some false=>dS tb c r hs env S
   | none=>qz
noncomputable def zJ(tb:Str->Str->Option Bool)(fb:FX)(hs:List Hd):FX:=λ env S=>(fb env S).bind λ p=>match p.1 with
 | .fl f=>qq (.fl f,p.2)
 | .ex e c r=>(dS tb c r hs e p.2).bind λ q=>qq (.fl q.1,q.2)
noncomputable def zS(X:Cx)(h:Hd):ExceptHandler->Prop
 | .ExceptHandler (qq (.Name d _)) nm (b0::suite) _=>d=h.d/\Gl X d/\(d==("__debug__" : Str))=false/\(∃ C,nsIn X.K qy d=qq (qq (.ref C))/\X.mg d=qq (.ref C)) /\
    (match nm,h.sl with
      | none,qz=>True
      | some n,qq i=>X.N[i]? = qq n/\X.env.scope.names.lookup n=qq .local
      | _,_=>False)/\∀ e,bW (pO X e) (b0::suite) (cM X.K h.f)
 | _=>False
inductive HdsOk (X:Cx):List Hd->List ExceptHandler->Prop
 | nil:HdsOk X [] []
 | cons {h:Hd}{hs:List Hd}{a:ExceptHandler}{as:List ExceptHandler}:zS X h a->HdsOk X hs as->HdsOk X (h::hs) (a::as)
def aCt(K:FrG)(tb:Str->Str->Option Bool):Prop:=∀ c d b C C',tb c d=qq b->nsIn K qy c=qq (qq (.ref C))->nsIn K qy d=qq (qq (.ref C'))->exmOne K (.ref C) (.ref C')=qq b
end EV
namespace EV
open PySem L2 PySem.Spec PyProof.Rows PySem.W
noncomputable def exI(K:FrG)(C:qv)(bmB:List qx)(newId:String):Bool:=match K.lookup C with
 | some ⟨.type "type",_,.cls cd,sl⟩=>(match cd.mro,sl.toList with
   | .ref C'::bm,[_,_,_,_,qq (.builtin n),_]=>C'==C&&n==newId && !cd.hasDel&&cd.hasDict&&tailIn K bmB bm&&nsOkIn K cd.ns
   | _,_=>false)
 | _=>false
theorem aBg{K:FrG}{h:Heap}{C:qv}{bmB:List qx}{newId:String}(X:K.In h)(q:exI K C bmB newId=true):∃ bm N nm qn bs sn sub ab col dd k0 k1 k2 k3 k5,
 h.get? C=qq (excClassObj nm qn C N bs bm true sn sub ab col dd k0 k1 k2 k3 k5 newId)/\OwnTail h bmB bm:=by
 unfold exI at q
 split at q
 ·rename_i dd cd sl ho
  split at q
  ·rename_i C' bm k0 k1 k2 k3 n k5 hm hs;simp only[yBm,beq_iff_eq,yDn] at q;obtain⟨⟨⟨⟨⟨rfl,rfl⟩,hdel⟩,hdi⟩,ht⟩,hok⟩:=q;obtain⟨nm,bs,mro,ns,qn,hd,sn,sub,ab,col,del⟩:=cd;dsimp only at hm hdel hok hdi;subst hm hdel hdi;obtain⟨l⟩:=sl;simp only at hs;subst hs;exact⟨bm,ns,nm,qn,bs,sn,sub,ab,col,dd,k0,k1,k2,k3,k5,X _ _ ho,tail_of_in X ht⟩
  ·cases q
 ·cases q
section
variable {prog : zq}{w : zx}{A : zv}{E : qx -> qj -> Prop}{h : Heap}{g : Array GenState}{d : Drawn}{t : Nat}{os : OsState}
variable {nm q : Str}{C N : qv}{bs bm : List qx}{sn : List Str}{sub : List qx}{ab : Bool}{col : Option Bool}{dd : Option qv}{k0 k1 k2 k3 k5 : Option qx}
theorem aJq(T:OwnTail h jW bm){bT:List qx}{fI:qv}{oI:Obj}{Q:PySem.Fin->qj->Prop}(hC:h.get? C=qq (excClassObj nm q C N bs bm true sn sub ab col dd k0 k1 k2 k3 k5 "ValueError.__new__"))
 (Li:Looks (model prog w) h (typeLookup (.ref C) "__init__") (qq (.ref fI))) (hfI:h.get? fI=qq oI) (hfc:oI.cls=.type "function")
 (hq:∀ h' e,Heap.MadeExcOf h h' e (.ref C) bT->qu (model prog w) A (call (.ref fI) (.ref e::bT)) (λ r s'=>r=.none/\Q (.done (.ret (.ref e))) s') E ⟨h',g,d,t,os⟩) (hrest:bT.length<=qk) :
 qu (model prog w) A (Builtin.«type.__call__» ⟨.ref C::bT,[]⟩) Q E ⟨h,g,d,t,os⟩:=by
 have F:=yDo
 repeat (first | with_reducible refine wpAny_loadPart_at hC ?_ | with_reducible refine wpAny_madeBy_exc hC ?_ | wp_step)
 refine codeAny_call_builtin_code (Code.quiet_builtin _ F.quiet) (wpAny_check_new_subU F F.hasB T hC ?_);refine codeAny_exc_new_subU F F.hasB F T hC ?_ hrest;show qu _ _ _ _ _ _;have kp:∀ b o,h.get? b=qq o->((h.push {cls:=.type "tuple",data:=.seq bT.toArray }).push {cls:=.ref C,data:=.fields #[.ref h.objs.size,.none,.none,.none,.bool false,.none] }).get? b=qq o:=λ b o e=>hpS _ (hpS _ e)
 have hC₁:=kp _ _ hC;have hfI₁:=kp _ _ hfI;have hget:((h.push {cls:=.type "tuple",data:=.seq bT.toArray }).push
  {cls:=.ref C,data:=.fields #[.ref h.objs.size,.none,.none,.none,.bool false,.none] }).get? (h.objs.size+1)=qq
  {cls:=.ref C,data:=.fields #[.ref h.objs.size,.none,.none,.none,.bool false,.none] }:=by heap_get
 have hcC:(Value.ref C::bm).contains (.ref C)=true:=by simp
 unfold isInstance
 repeat (first | with_reducible refine wpAny_loadPart_at hget ?_ | (with_reducible refine wpAny_isSubtype_exc hC₁ ?_;rw[hcC]) | wp_step)
 show qu _ _ (typeLookup (.ref C) _) _ _ _;refine(Li.keeps kp).at ?_;refine xq (wB ?_);unfold bindSpecial;refine wB (wpAny_typeOf (T:="function") ⟨_,hfI₁,hfc⟩ ?_);rw[if_pos (by decide)]
 refine wP (wB (wpAny_mono (hq _ (h.objs.size+1) ⟨kp,yDp (Nat.le_succ _),h.objs.size,hget,yDp (yAe _),?_⟩) (λ r s' hr=>?_) λ _ _ x=>x))
 ·exact hpS _ (Heap.get?_push_at rfl rfl)
 ·obtain⟨rfl,hQ⟩:=hr
  wp_walk
  exact hQ
theorem aI2(T:OwnTail h jW bm){bT:List qx}{fI:qv}{oI:Obj}{Q:qx->qj->Prop}(hC:h.get? C=qq (excClassObj nm q C N bs bm true sn sub ab col dd k0 k1 k2 k3 k5 "ValueError.__new__"))
 (Li:Looks (model prog w) h (typeLookup (.ref C) "__init__") (qq (.ref fI))) (hfI:h.get? fI=qq oI) (hfc:oI.cls=.type "function")
 (hq:∀ h' e,Heap.MadeExcOf h h' e (.ref C) bT->qu (model prog w) (A.under (.builtin "type.__call__" ⟨.ref C::bT,[]⟩)) (call (.ref fI) (.ref e::bT)) (λ r s'=>r=.none/\Q (.ref e) s') E ⟨h',g,d,t,os⟩) (hrest:bT.length<=qk) :
 qu (model prog w) A (call (.ref C) bT) Q E ⟨h,g,d,t,os⟩:=by
 have f1:=tc_lookup;have f2:=tc_bind (.ref C);have hT:(⟨h,g,d,t,os⟩:qj).TypeIs (.ref C) "type":=⟨_,hC,rfl⟩;refine wpAny_call (codeAny_of_tree ?_);show qu _ _ (callAny (.ref C) _) _ _ _
 repeat (any_goals (first | assumption | with_reducible refine wpAny_loadPart_at hC ?_ | wp_step))
 refine⟨rfl,?_⟩;refine codeAny_call_builtin_at (Code.quiet_builtin _ (by decide +kernel)) entry_typeCall (wpAny_check_type_call_sub hC (aJq (hrest:=hrest) T hC Li hfI hfc λ h' e hm=>?_))
 exact hq h' e hm
theorem aIS{bm:List qx}(T:OwnTail h jW bm)(self:qx):refuseLoop self "__setattr__" bm=pure ():=by
 induction T with
 | base=>exact PySem.F.store_ValueError.passes self
 | own _ _ _ _ ih=>rw[refuseLoop_ref];exact ih
theorem aKg{K:FrG}{x:qv}{ox:Obj}{vs:Array qx}{name:Str}{v:qx}{Q:Unit->qj->Prop}(X:K.In h)(T:OwnTail h jW bm)(hC:h.get? C=qq (excClassObj nm q C N bs bm true sn sub ab col dd k0 k1 k2 k3 k5 "ValueError.__new__"))
 (hs:findIn K (.ref C) "__setattr__" = qq (qq (.builtin "object.__setattr__"))) (hn:findIn K (.ref C) name=qq qz) (hx:h.get? x=qq ox) (hc:ox.cls=.ref C) (hd:ox.dict=qz) (hdat:ox.data=.fields vs)
 (hq:∀ h' tk' d',d'≠x->h.get? d'=qz->h.objs.size<=d'->h'.get? x=qq {ox with dict:=qq d' }->h'.Ns1 d' (λ y=>if y=name then qq v else qz)->(∀ b o,b≠x->h.get? b=qq o->h'.get? b=qq o)->Q () ⟨h',g,d,tk',os⟩) :
 qu (model prog w) A (setAttr (.ref x) name v) Q E ⟨h,g,d,t,os⟩:=by
 have I:yCg h x ox C qz:=⟨hx,hc,by unfold notCls;rw[hdat],by rw[hd];trivial⟩
 have SF:=PySem.F.store_object;have hcO:(Value.ref C::bm).contains (.type "object")=true:=by rw[yDd,T.hasType (show jW.contains (.type "object")=true by decide),Bool.or_true]
 refine set_plain (s:=⟨h,g,d,t,os⟩) X I hs ?_;have sub:Looks (model prog w) h (isInstance (.ref x) (.type "object")) true:=I.type.andThen (λ A Q E s k z=>by
  obtain⟨hh,g,d,t,os⟩:=s;refine wpAny_isSubtype_exc (k _ _ hC) ?_;rw[hcO];exact z)
 refine codeAny_call_builtin SF.slot.plain SF.entry (@check_slot (model prog w) _ _ ⟨h,g,d,t+1,os⟩ "object.__setattr__" "object" "__setattr__" (.ref x) [.str name t,v] [] _ SF.kind SF.split sub (SF.args (.ref x) (.str name t) v) ?_);have L3:=looks_findIn (M:=model prog w) X hn;rw[osa_eq,refuse_eq];refine wB (wB (I.type.at (wB (wpAny_mroOf_exc hC ?_))));rw[refuseLoop_ref,aIS T];refine wP (wB (I.type.at (wB (L3.at (wB (wP ?_))))));show qu _ _ (Builtin.ObjectAttr.storeInOwnDict _ _ _ _ _ _) _ _ _;have hxs:x≠h.objs.size:=xAh (xAa hx);have hx₁:(h.push {cls:=.type "dict",data:=.dict #[] }).get? x=qq ox:=hpS _ hx;unfold Builtin.ObjectAttr.storeInOwnDict Builtin.ObjectAttr.ownDictForStores instanceDict
 repeat (first | (with_reducible refine wpAny_loadPart_at hx ?_;rw[hc]) | with_reducible refine wpAny_loadPart_at hC ?_ | wp_step)
 rw[hd];dsimp only;rw[if_neg (by simp[typeHasDict]),hdat]
 refine wB (wpAny_alloc' ?_);refine wB (wpAny_update' hx₁ ?_);refine wP ?_;have hgd:((h.push {cls:=.type "dict",data:=.dict #[] }).update x λ o=>{cls:=o.cls,dict:=qq h.objs.size,data:=o.data,slots:=o.slots }).get? h.objs.size=qq {cls:=.type "dict",data:=.dict #[] }:=
  (Heap.get?_update_ne _ _ _ _ hxs.symm).trans (Heap.get?_push_at rfl rfl)
 have hnd:((h.push {cls:=.type "dict",data:=.dict #[] }).update x λ o=>{cls:=o.cls,dict:=qq h.objs.size,data:=o.data,slots:=o.slots }).Ns h.objs.size (λ _=>qz):=
  ⟨_,#[],_,hgd,rfl,λ e he=>absurd he (by simp),λ _=>rfl⟩
 show qu _ _ (Builtin.ObjectAttr.storeInDict h.objs.size (.str name t) name v) _ _ _;unfold Builtin.ObjectAttr.storeInDict Builtin.ObjectAttr.newKeyGuard;refine wB (wP (wB (wpAny_nsSet1 (Heap.Ns1.of_empty hnd) λ h' hn' hs=>?_)))
 obtain⟨oD,esD,epD,hoD,hdD,hcD⟩:=hn'.count (Within.cons name v Within.nil);refine wB (wpAny_lookBehind hoD (by rw[hdD];exact pastItsLine_dict (xAg hcD (by rw[yBf,yCt,qo];omega))) ?_)
 refine wP ?_;show Q () _;refine hq h' _ h.objs.size hxs.symm (yDp (yAe _)) (yAe _) ?_ hn' λ b ob hbx hb=>?_
 ·refine(hs.2 x hxs).trans (yCb _ hx₁ ?_);have hfr:=(Heap.get?_some_iff.mp hx).2;obtain⟨oc,od,odt,osl⟩:=ox;cases odt<;>first | rfl | exact hfr
 ·exact(hs.2 b (xAh (xAa hb))).trans ((Heap.get?_update_ne _ _ _ _ hbx).trans (hpS _ hb))
end
structure XiOk(K:FrG)(C fI:qv):Prop where
 ex:exI K C jW "ValueError.__new__" = true
 it:findIn K (.ref C) "__init__" = qq (qq (.ref fI))
 sa:findIn K (.ref C) "__setattr__" = qq (qq (.builtin "object.__setattr__"))
 rw:findIn K (.ref C) "row" = qq qz
 kp:keepIn K (.ref C)=true
 fn:isFn K (.ref fI)=true
def aSe(X:Cx)(C:qv):TS:=λ D σ H=>∃ a oe vs i,σ[0]? = qq (qq (.ref a))/\σ[1]? = qq (qq (.int i))/\H a=qq (.ext λ h=>h.get? a=qq oe)/\oe.cls=.ref C/\oe.dict=qz/\oe.data=.fields vs /\
 ∀ dx,H dx=qz->dx≠a->D.nx σ (aW (aW H dx (.xd [("row",.int i)])) a (.ext λ h=>h.get? a=qq {oe with dict:=qq dx }))
theorem aPE{X:Cx}{C fI:qv}(O:XiOk X.K C fI){n0 n1:Str}{p0 p1 pos pos':Pos}(h0:X.N[0]? = qq n0)(h1:X.N[1]? = qq n1)(v0:mC X.env.scope n0)(v1:mC X.env.scope n1)(d0:(n0==("__debug__" : Str))=false)(c0:(n0==("__classdict__" : Str))=false)(d1:(n1==("__debug__" : Str))=false)(c1:(n1==("__classdict__" : Str))=false) :
 PS X (.Assign [.Attribute (.Name n0 p0) "row" pos'] (.Name n1 p1) pos) (aSe X C):=by
 rintro aA s σ H D I ⟨a,oe,vs,i,e0,e1,ea,hc,hd,hdat,q⟩;refine plainObj_wpAny_Assign_Attribute (aZ (aB3 (pos:=p1) h1 v1 d1 c1 aA s σ H (λ v H'=>v=.int i/\H'=H) I ⟨_,e1,rfl,rfl⟩) λ u s1 g1=>?_) rfl
 obtain⟨y,H1,I1,ry,ey,eH⟩:=g1;subst ey eH;refine aZ (aB3 (pos:=p0) h0 v0 d0 c0 aA s1 σ H1 (λ v H'=>v=.ref a/\H'=H1) I1 ⟨_,e0,rfl,rfl⟩) λ ov s2 g2=>?_
 obtain⟨x,H2,I2,rx,ex,eH⟩:=g2;subst ex eH;obtain rfl:ov=Value.ref a:=rx;obtain⟨bm,N,nm,qn,bs,sn,sub,ab,col,dd,k0,k1,k2,k3,k5,hC,T⟩:=aBg I2.kIn O.ex;have he:=(I2.hok a _ ea).1;obtain⟨h2,g2,d2,t2,o2⟩:=s2;refine aKg I2.kIn T hC O.sa O.rw he hc hd hdat λ h' tk' dx nx hnn hsz hx' hns hk=>?_
 have hdx:H2 dx=qz:=I2.hok.fresh hsz;refine⟨σ,_,?_,q dx hdx nx⟩;have hdo:∃ o,h'.get? dx=qq o:=let ⟨o,_,_,e,_⟩:=hns;⟨o,e⟩;have na:∀ b,H2 b=qz->b≠a:=λ b n z=>by rw[z,ea] at n;cases n
 have nd:∀ b u,h2.get? b=qq u->b≠dx:=λ b u e z=>by rw[z,hnn] at e;cases e
 have nd2:∀ b u,H2 b=qq u->b≠dx:=λ b u e z=>by rw[z,hdx] at e;cases e
 have un:Un X.fs [] H2 (aW (aW H2 dx (.xd [("row",.int i)])) a (.ext λ h=>h.get? a=qq {oe with dict:=qq dx })) h2 h':=by
  refine⟨λ b o e n _ _=>hk b o (na b n) e,λ b o e n _ _=>⟨o.slots,hk b o (na b n) e⟩,λ b o e n _=>?_,λ b o e _=>?_,λ b xs e=>?_,λ b o u e=>?_,λ b ps e=>⟨#[],?_⟩⟩
  ·rw[bB (na b n),bB (nd b o e)];exact n
  ·by_cases z:b=a
   ·rw[z];exact⟨_,hx'⟩
   ·exact⟨o,hk b o z e⟩
  ·rw[bB (λ z=>by rw[z,ea] at e;cases e),bB (nd2 b _ e)];exact e
  ·rw[bB (λ z=>by rw[z,ea] at e;cases e),bB (nd2 b _ e)];exact e
  ·rw[bB (λ z=>by rw[z,ea] at e;cases e),bB (nd2 b _ e),e];simp
 have hok:dD X.prog X.w (aW (aW H2 dx (.xd [("row",.int i)])) a (.ext λ h=>h.get? a=qq {oe with dict:=qq dx })) h':=λ b u e=>by
  by_cases z:b=a
  ·subst z;rw[cA] at e;cases e;exact⟨hx',⟨_,hx'⟩,λ h1 h2 q1 q2=>q2 _ q1⟩
  ·rw[bB z] at e
   by_cases z2:b=dx
   ·subst z2;rw[cA] at e;cases e;refine⟨_,hns,λ f=>?_⟩
    by_cases hf:f = "row"
    ·subst hf;rw[if_pos rfl];exact ry
    ·rw[if_neg hf,yBe];have:(f==("row" : Str))=false:=by rw[beq_eq_false_iff_ne];exact hf
     rw[this];exact trivial
   ·rw[bB z2] at e;refine(I2.hok b u e).stay (λ c v hcc k=>hk c v (λ y=>?_) k) (λ c k=>?_) λ c xs k=>?_
    ·rcases hcc with y2 | y2
     ·exact z (y2.symm.trans y)
     ·rw[y,ea] at y2;cases y2
    ·rw[bB (λ y=>by rw[y,ea] at k;cases k),bB (nd2 c _ k)];exact k
    ·rw[bB (λ y=>by rw[y,ea] at k;cases k),bB (nd2 c _ k)];exact k
 exact I2.un (t':=tk') un hok
noncomputable def rS(C:qv):Sp:=λ vs H Q _=>∃ a oe fv i,vs=[.ref a,.int i]/\H a=qq (.ext λ h=>h.get? a=qq oe)/\oe.cls=.ref C/\oe.dict=qz/\oe.data=.fields fv /\
 ∀ dx,H dx=qz->dx≠a->Q .non (aW (aW H dx (.xd [("row",.int i)])) a (.ext λ h=>h.get? a=qq {oe with dict:=qq dx }))
noncomputable def aHw(n0 n1:Str):List zy->Bool
 | [.Assign [.Attribute (.Name x _) a _] (.Name y _) _]=>decide (x=n0)&&decide (a = "row")&&decide (y=n1)
 | _=>false
noncomputable def aCh(st:zy)(n0 n1:Str):Bool:=decide ((bP st).kind=.function) && !(bP st).isCoroutine && !(bP st).isGenerator&&decide (n0≠n1)&&loc (bP st) n0&&loc (bP st) n1&&(bP st).names.all (λ y=>!decide (y.2=.free)) &&
 !(n0==("__debug__" : Str)) && !(n0==("__classdict__" : Str)) && !(n1==("__debug__" : Str)) && !(n1==("__classdict__" : Str))&&aHw n0 n1 (eQ st)
theorem aNA{P:zq}{w:zx}{K:FrG}{mg:Str->Option qx}{base:Heap}{x bN:Str}{st:zy}{fI C:qv}{fd:jz}{n0 n1:Str}{k:Nat}(Fu:Fun K x bN st fI fd)(h:aCh st n0 n1=true)(O:XiOk K C fI):FnOk P w K mg base fV (k+1) fI fd [n0,n1] (rS C):=by
 obtain⟨h,h12⟩:=cD h;obtain⟨h,h11⟩:=cD h;obtain⟨h,h10⟩:=cD h;obtain⟨h,h9⟩:=cD h;obtain⟨h,h8⟩:=cD h;obtain⟨h,h7⟩:=cD h;obtain⟨h,h6⟩:=cD h;obtain⟨h,h5⟩:=cD h;obtain⟨h,h4⟩:=cD h;obtain⟨h,h3⟩:=cD h;obtain⟨h1,h2⟩:=cD h;have hne:n0≠n1:=oqT h4;have sc:FnScope [n0,n1] [n0,n1] (bP st):=⟨oqT h1,uR h2,uR h3,by simp[hne],rfl,λ x hx=>by
  rcases List.mem_cons.mp hx with rfl | hx
  ·exact tL h5
  ·rw[yBr] at hx;subst hx;exact tL h6,λ y hy z=>by
  have:=List.all_eq_true.mp h7 y hy;rw[dqT z] at this;exact no this⟩
 refine Fu.ok sc (λ vs H Q E hsp=>?_) λ cdv A outer s H vs Q E hr hsp=>?_
 ·obtain⟨a,oe,fv,i,rfl,_⟩:=hsp;rfl
 ·have jI:∀ {y:Str},loc (bP st) y=true->mC (bP st) y:=λ hy=>by
   rcases tL hy with z | z
   ·exact .inl z
   ·exact .inr (.inl z)
  unfold aHw at h12
  split at h12
  ·rename_i x p0 a p' y p1 pos hb;obtain⟨q,q3⟩:=cD h12;obtain⟨q1,q2⟩:=cD q;have q1:=oqT q1;have q2:=oqT q2;have q3:=oqT q3;subst q1 q2 q3;rw[hb];refine⟨_,aBb (aPE (X:=(iG fV P w K mg base [x,y] bN (bP st) fI cdv A outer s H E).nox) O rfl rfl (jI h5) (jI h6) (dU h8) (dU h9) (dU h10) (dU h11)) aBL,?_⟩;obtain⟨a,oe,fv,i,rfl,e1,e2,e3,e4,e5⟩:=hsp;exact⟨a,oe,fv,i,rfl,rfl,e1,e2,e3,e4,λ dx f1 f2=>e5 dx f1 f2⟩
  ·exact no h12
theorem aIP{X:Cx}{aA:List (qv×Obj)}{σ:L2.St}{H H':Hp}{s:qj}{a:qv}{φ:Heap->Prop}(I:Inv X aA σ H s)(ea:H a=qq (.ext φ))(ha:H' a=qz)(hb:∀ b,b≠a->H' b=H b):Inv X aA σ H' s:=by
 have nt:∀ b u,H' b=qq u->b≠a:=λ b u e z=>by rw[z,ha] at e;cases e
 have ni:∀ b,H b=qz->H' b=qz:=λ b n=>by
  by_cases z:b=a
  ·rw[z];exact ha
  ·rw[hb b z];exact n
 refine⟨I.ok,I.os,I.bare,⟨I.base.keep,I.base.slot,λ b u e n hx=>ni b (I.base.free b u e n hx),I.base.there,λ b xs e=>?_,λ b u v e=>?_,λ b ps e=>?_⟩,I.loc,I.cell,ni _ I.free,λ x c e=>ni _ (I.freeC x c e),λ p hp=>?_,λ b u e=>?_,I.len⟩
 ·have q:=I.base.tups b xs e;rw[hb b (λ z=>by rw[z,ea] at q;cases q)];exact q
 ·have q:=I.base.frzs b u v e;rw[hb b (λ z=>by rw[z,ea] at q;cases q)];exact q
 ·obtain⟨m,q⟩:=I.base.tbls b ps e;exact⟨m,by rw[hb b (λ z=>by rw[z,ea] at q;cases q)];exact q⟩
 ·obtain⟨e,n,r⟩:=I.pin p hp;exact⟨e,ni _ n,r⟩
 ·have e':=e;rw[hb b (nt b u e)] at e';exact(I.hok b u e').stay (λ _ _ _ q=>q) (λ c q=>by rw[hb c (λ z=>by rw[z,ea] at q;cases q)];exact q) λ c xs q=>by rw[hb c (λ z=>by rw[z,ea] at q;cases q)];exact q
section
variable {M : Model}{A : zv}{E : qx -> qj -> Prop}{env : Env}
variable {nm q : Str}{C N : qv}{bs bm : List qx}{hdct : Bool}{sn : List Str}{sub : List qx}{ab : Bool}{col : Option Bool}{dd : Option qv}{k0 k1 k2 k3 k5 : Option qx}{newId : String}
theorem aJe{s:qj}{x:Sem qx}{Q:Flow->qj->Prop}(hh:A.handled=qz)
 (h:qu M A x (λ v s₁=>∃ e dx vs nm q N bs bm hdct sn sub ab col dd k0 k1 k2 k3 k5 newId,v=.ref e/\s₁.heap.get? C=qq (excClassObj nm q C N bs bm hdct sn sub ab col dd k0 k1 k2 k3 k5 newId)/\bm.contains (.type "BaseException")=true /\
   s₁.heap.get? e=qq {cls:=.ref C,dict:=dx,data:=.fields vs }/\vs[1]? = qq .none/\E (.ref e) s₁) E s) :
 qu M A (raiseStmt env (qq x) qz) Q E s:=by
 unfold raiseStmt;refine wB (wpAny_mono h (λ v s₁ h₁=>?_) λ _ _ x=>x)
 obtain⟨e,dx,vs,nm,q,N,bs,bm,hdct,sn,sub,ab,col,dd,k0,k1,k2,k3,k5,newId,rfl,hC,hbase,he,hv1,hE⟩:=h₁;have hcB:(Value.ref C::bm).contains (.type "BaseException")=true:=by rw[yDd,hbase,Bool.or_true]
 obtain⟨hp,g,d,tk,os⟩:=s₁
 repeat (first | with_reducible refine wpAny_loadPart_at he ?_ | with_reducible refine wpAny_loadPart_at hC ?_ | (with_reducible refine wpAny_isSubtype_exc hC ?_;rw[hcB]) | wp_step)
 rw[hv1];refine wP ?_;rw[if_neg (by decide)]
 exact wP (wpAny_raiseNew_none hh hE)
end
theorem aFw{X:Cx}{C fI:qv}{fd:jz}{n0 n1:Str}{k:Nat}(O:XiOk X.K C fI)(hr:Room (k+1) X.A)(F:FnOk X.prog X.w X.K X.mg X.base fV k fI fd [n0,n1] (rS C))(hbi:eA X.K fd [n0,n1] [])(hf:∃ oI,X.K.lookup fI=qq oI/\oI.cls=.type "function")
 {aA:List (qv×Obj)}{σ:L2.St}{H1:Hp}{s1:qj}{u:qx}{i:Int}{Q:qx->qj->Prop} (I1:Inv X aA σ H1 s1) (ru:aX (.int i) u)
 (hq:∀ s' ea dx ta,H1 ea=qz->H1 dx=qz->dx≠ea->s1.heap.get? ea=qz->Inv X aA σ (aW (aW H1 dx (.xd [("row",.int i)])) ea (.ext λ h=>h.get? ea=qq {cls:=.ref C,dict:=qq dx,data:=.fields #[.ref ta,.none,.none,.none,.bool false,.none] })) s'->(∀ b,s1.heap.get? b≠qz->s'.heap.get? b≠qz)->Q (.ref ea) s') :
 qu (model X.prog X.w) X.A (call (.ref C) [u]) Q X.xe s1:=by
 obtain⟨bm,N,nm,qn,bs,sn,sub,ab,col,dd,k0,k1,k2,k3,k5,hC,T⟩:=aBg I1.kIn O.ex;obtain⟨oI,hoI,hoc⟩:=hf;have Li:=looks_findIn (M:=model X.prog X.w) I1.kIn O.it;have hoI1:=I1.kIn _ _ hoI;obtain⟨h1,gg1,d1,t1,o1⟩:=s1;refine aI2 T hC Li hoI1 hoc (λ h' ea me=>?_) (by show 1<=qk;decide)
 obtain⟨ta,hea,_,_⟩:=me.there;have Ik:=I1.kept (t':=t1) me.keeps;have hHe:H1 ea=qz:=by
  cases z:H1 ea with
  | none=>rfl
  | some u =>
    obtain⟨o,ho⟩:=wN (I1.hok ea u z);rw[me.new] at ho;cases ho
 have It:=aA1 (o:=.ext λ h=>h.get? ea=qq {cls:=.ref C,data:=.fields #[.ref ta,.none,.none,.none,.bool false,.none] }) Ik (sZ I1) me.new hHe ⟨hea,⟨_,hea⟩,λ h1 h2 q1 q2=>q2 _ q1⟩
 refine wpAny_call (codeAny_mono (F.run _ X.stack _ _ ⟨[.ref ea,u],[]⟩ [.ref ea,u] [.ref ea,.int i] (λ v H2=>v=.non/\∃ dx,H1 dx=qz/\dx≠ea/\H2=aW (aW (aW H1 ea (.ext λ h=>h.get? ea=qq {cls:=.ref C,data:=.fields #[.ref ta,.none,.none,.none,.bool false,.none] })) dx (.xd [("row",.int i)])) ea (.ext λ h=>h.get? ea=qq {cls:=.ref C,dict:=qq dx,data:=.fields #[.ref ta,.none,.none,.none,.bool false,.none] })) E0 (hr.make C [u] []) (It.env0.make C [u] []) (by have:=hbi _ [.ref ea,u] It.kIn rfl;rw[yAv] at this;exact this) (.cons rfl (.cons ru .nil))
  ⟨ea,_,_,i,rfl,cA,rfl,rfl,rfl,λ dx f1 f2=>⟨rfl,dx,by rw[bB f2] at f1;exact f1,f2,rfl⟩⟩) λ r s' hc=>?_)
 cases r with
 | error x=>exact hc.elim
 | ok fl =>
   cases fl with
   | next=>exact hc.elim
   | brk=>exact hc.elim
   | cont=>exact hc.elim
   | ret u2 =>
     obtain⟨v,H2,os,bare,un,hok,rv,rfl,dx,f1,f2,rfl⟩:=hc;have I3:=It.call' (ch:=[]) os un hok bare λ b z=>absurd z (by simp)
     have eH:aW (aW (aW H1 ea (.ext λ h=>h.get? ea=qq {cls:=.ref C,data:=.fields #[.ref ta,.none,.none,.none,.bool false,.none] })) dx (.xd [("row",.int i)])) ea (.ext λ h=>h.get? ea=qq {cls:=.ref C,dict:=qq dx,data:=.fields #[.ref ta,.none,.none,.none,.bool false,.none] }) =
      aW (aW H1 dx (.xd [("row",.int i)])) ea (.ext λ h=>h.get? ea=qq {cls:=.ref C,dict:=qq dx,data:=.fields #[.ref ta,.none,.none,.none,.bool false,.none] }):=by
      funext b
      by_cases z:b=ea
      ·subst z;rw[cA,cA]
      ·rw[bB z,bB z]
       by_cases z2:b=dx
       ·subst z2;rw[cA,cA]
       ·rw[bB z2,bB z2,bB z]
     rw[eH] at I3;refine⟨rv,hq s' ea dx ta hHe f1 f2 me.new I3 λ b hb=>?_⟩
     cases z:h1.get? b with
     | none=>exact absurd z hb
     | some o =>
       obtain⟨o',e'⟩:=un.there b o (me.keeps b o z) (by simp)
       exact kM e'
noncomputable def aHY(c:Str)(fe:FE):FE:=λ env S=>(fe env S).bind λ p=>match p.1 with
 | .d (.int i)=>qq (.d (.dict [(.str c,.int i)]),p.2)
 | _=>qz
theorem aND{X:Cx}{c:Str}{C fI:qv}{fd:jz}{n0 n1:Str}{k:Nat}{np cpos:Pos}{e:qw}{fe:FE}(hg:Gl X c)(hm:X.mg c=qq (.ref C))(hns:nsIn X.K qy c=qq (qq (.ref C)))(O:XiOk X.K C fI)
 (hr:Room (k+1) X.A) (F:FnOk X.prog X.w X.K X.mg X.base fV k fI fd [n0,n1] (rS C)) (hbi:eA X.K fd [n0,n1] []) (hf:∃ oI,X.K.lookup fI=qq oI/\oI.cls=.type "function") (hd:(c==("__debug__" : Str))=false) (he:PE X e (aI X.K fe)) (hp:cB e=true) :
 PE X (.Call (.Name c np) [e] [] cpos) (aI X.K (aHY c fe)):=by
 rintro aA s σ H Q I ⟨F0,L,S,env,w,S',R,E,ef,q⟩;obtain⟨⟨w1,S1⟩,e1,e2⟩:=bind_some ef;cases w1 with
 | loc n=>cases e2
 | exc c r=>cases e2
 | d dd =>
   cases dd with
   | int i =>
     cases e2;have ha:PA X [e] (dC X.K (cJ fe gD)):=oH he oP (dX hp _ _);refine jq (lE I hg hm ?_ hd);refine yEb (h₀:=X.base) I.ok.mod.kin O.kp (aZ (ha cpos aA s σ H (λ vs H1=>vs=[.int i]/\∃ F1 L1,Gr F0 L F1 L1/\Rel X.K F1 L1 S1 H1) I ⟨F0,L,S,env,[.d (.int i)],S1,R,E,by unfold cJ;rw[e1];rfl,λ F1 L1 H1 vs g1 R1 d1=>?_⟩) λ us s1 ⟨vs,H1,I1,r,ev,F1,L1,g1,R1⟩=>⟨I1.kIn,?_⟩) (dX hp _ _) rfl
     ·cases d1 with
      | cons d1 d2 =>
        cases d2;cases (show Den X.K F1 (.int i) _ from d1)
        exact⟨rfl,F1,L1,g1,R1⟩
     subst ev;obtain⟨u,rfl,ru⟩:=fM r;refine aFw O hr F hbi hf I1 ru λ s' ea dx ta f1 f2 f3 f4 I3 _=>⟨.ref ea,_,I3,rfl,?_⟩
     have h2:aW H1 dx (.xd [("row",.int i)]) ea=qz:=by rw[bB f3.symm];exact f1
     have R2:=(R1.new (o:=.xd [("row",.int i)]) f2).new (o:=.ext λ h=>h.get? ea=qq {cls:=.ref C,dict:=qq dx,data:=.fields #[.ref ta,.none,.none,.none,.bool false,.none] }) h2
     have hF:F1 dx=qz:=R1.sub.free f2;have hF2:aW F1 dx (.xd [("row",.int i)]) ea=qz:=(R1.new (o:=.xd [("row",.int i)]) f2).sub.free h2;exact q _ L1 _ _ ((g1.trans (Gr.new hF)).trans (Gr.new hF2)) R2 (Den.exc ⟨C,_,cA,rfl,rfl,hns,dx,rfl,by rw[bB f3];exact cA⟩)
   | _=>cases e2
noncomputable def aCx(c:Str):FE:=λ _ S=>qq (.d (.dict [(.str c,.none)]),S)
theorem aNI{X:Cx}{c:Str}{C:qv}{np pos:Pos}(hg:Gl X c)(hm:X.mg c=qq (.ref C))(hns:nsIn X.K qy c=qq (qq (.ref C)))(hq:excIn X.K C jW "ValueError.__new__" = true)(kp:keepIn X.K (.ref C)=true)(hd:(c==("__debug__" : Str))=false):PE X (.Call (.Name c np) [] [] pos) (aI X.K (aCx c)):=by
 rintro aA s σ H Q I ⟨F0,L,S,env,w,S',R,E,ef,q⟩;cases ef;refine jq (lE I hg hm ?_ hd);refine PySem.W.callWith_K0 I.kIn kp ?_;obtain⟨bm,N,nm,qn,bs,hd',sn,sub,ab,col,dd,k0,k1,k2,k3,k5,mN,hC,hN,hni,T⟩:=aFR I.kIn hq;have FB:=yDo;obtain⟨h1,gg1,d1,t1,o1⟩:=s;refine wpAny_call_exc_subU (hrest:=yFe _) FB FB.hasB FB T hC hN hni λ h' ea me=>?_
 obtain⟨ta,hea,_,_⟩:=me.there;have hHe:H ea=qz:=by
  cases z:H ea with
  | none=>rfl
  | some u =>
    obtain⟨o,ho⟩:=wN (I.hok ea u z);rw[me.new] at ho;cases ho
 have It:=aA1 (o:=.ext λ h=>h.get? ea=qq {cls:=.ref C,data:=.fields #[.ref ta,.none,.none,.none,.bool false,.none] }) (I.kept (t':=t1) me.keeps) (sZ I) me.new hHe ⟨hea,⟨_,hea⟩,λ h1 h2 q1 q2=>q2 _ q1⟩
 exact⟨.ref ea,_,It,rfl,q _ L _ _ (Gr.new (R.sub.free hHe)) (R.new hHe) (Den.exc ⟨C,_,cA,rfl,rfl,hns,rfl⟩)⟩
noncomputable def xK(c:Str)(fe:FE):FX:=λ env S=>(fe env S).bind λ p=>match p.1 with
 | .d (.int i)=>qq (.ex env c (.int i),p.2)
 | _=>qz
theorem aKA{X:Cx}{W:XW}{c:Str}{C fI:qv}{fd:jz}{n0 n1:Str}{k:Nat}{np cpos pos:Pos}{e:qw}{fe:FE}(hx:uK X W)(hc:X.calm=true)(hg:Gl X c)(hm:X.mg c=qq (.ref C))(hns:nsIn X.K qy c=qq (qq (.ref C)))(O:XiOk X.K C fI)
 (hr:Room (k+1) X.A) (F:FnOk X.prog X.w X.K X.mg X.base fV k fI fd [n0,n1] (rS C)) (hbi:eA X.K fd [n0,n1] []) (hf:∃ oI,X.K.lookup fI=qq oI/\oI.cls=.type "function") (hd:(c==("__debug__" : Str))=false) (he:PE X e (aI X.K fe)) (hp:cB e=true) :
 PS X (.Raise (qq (.Call (.Name c np) [e] [] cpos)) qz pos) (tX X.K W (xK c fe)):=by
 rintro aA s σ H D I ⟨F0,L,S,env,fx,S',R,E,ef,q⟩;obtain⟨⟨w1,S1⟩,e1,e2⟩:=bind_some ef;cases w1 with
 | loc n=>cases e2
 | exc c r=>cases e2
 | d dd =>
   cases dd with
   | int i =>
     cases e2;rw[arm_exec_Raise];simp only[evalOpt,Option.map];refine wB (vx (aJe (C:=C) (I.ok.hd hc) (wB (wpAny_mono ?_ (λ v s₃ h₃=>wB (vx (wP h₃))) λ _ _ x=>x))))
     have ha:PA X [e] (dC X.K (cJ fe gD)):=oH he oP (dX hp _ _);refine jq (lE I hg hm ?_ hd);refine yEb (h₀:=X.base) I.ok.mod.kin O.kp (aZ (ha cpos aA s σ H (λ vs H1=>vs=[.int i]/\∃ F1 L1,Gr F0 L F1 L1/\Rel X.K F1 L1 S1 H1) I ⟨F0,L,S,env,[.d (.int i)],S1,R,E,by unfold cJ;rw[e1];rfl,λ F1 L1 H1 vs g1 R1 d1=>?_⟩) λ us s1 ⟨vs,H1,I1,r,ev,F1,L1,g1,R1⟩=>⟨I1.kIn,?_⟩) (dX hp _ _) rfl
     ·cases d1 with
      | cons d1 d2 =>
        cases d2;cases (show Den X.K F1 (.int i) _ from d1)
        exact⟨rfl,F1,L1,g1,R1⟩
     subst ev;obtain⟨u,rfl,ru⟩:=fM r;refine aFw O hr F hbi hf I1 ru λ s' ea dx ta f1 f2 f3 f4 I3 dL=>?_
     have hH3:aW H1 dx (.xd [("row",.int i)]) ea=qz:=by rw[bB f3.symm];exact f1
     have I4:=aIP (H':=aW H1 dx (.xd [("row",.int i)])) I3 cA hH3 λ b z=>(bB z).symm
     have he4:=(I3.hok ea _ cA).1;obtain⟨bm,N,nm,qn,bs,sn,sub,ab,col,dd,k0,k1,k2,k3,k5,hC,T⟩:=aBg I4.kIn O.ex;refine⟨ea,_,_,nm,qn,N,bs,bm,true,sn,sub,ab,col,dd,k0,k1,k2,k3,k5, "ValueError.__new__",rfl,hC,T.hasType PySem.F.excBase_ValueError.hasBase,he4,rfl,?_⟩;refine hx _ _ ⟨ea,.ref C,qq dx,qz,s1.heap,σ,aW H1 dx (.xd [("row",.int i)]),rfl,qD I4,⟨_,_,he4,rfl,rfl,rfl,Nat.lt_of_sub_pos (by simp),f4,hH3,.inl ⟨rfl,rfl⟩⟩,.inl rfl,sZ (qD I1),dL,?_⟩
     have hF:F1 dx=qz:=R1.sub.free f2;exact q (aW F1 dx (.xd [("row",.int i)])) L1 _ (g1.trans (Gr.new hF)) (R1.new f2) σ (.ref C) (qq dx) (E.mono (g1.trans (Gr.new hF))) ⟨C,rfl,hns,dx,rfl,cA⟩
   | _=>cases e2
end EV
namespace EV
open PySem L2 PySem.Spec PyProof.Rows PySem.W
theorem aKd{K:FrG}{F:Hp}{L:List qv}{env:aV}{σ:St}(h:EnvR K F L env σ)(i:Nat):EnvR K F L (env.set i qz) (σ.set i qz):=by
 refine⟨by rw[yAt,yAt];exact h.len,λ j u e=>?_⟩
 by_cases hj:i=j
 ·subst hj;rcases yEr i env.length with q | q
  ·rw[yAq q] at e;cases e
  ·rw[yDh (by rw[yAt];exact q)] at e;cases e
 ·rw[yAo hj] at e;obtain⟨x,e1,r1⟩:=h.get j u e;exact⟨x,by rw[yAo hj];exact e1,r1⟩
theorem aD8{X:Cx}{tb:Str->Str->Option Bool}(ht:aCt X.K tb)(hN:X.N.Nodup)(hf:∀ x,X.fn x=true){a:qv}{cls:qx}{dx:Option qv}{h0:Heap}{c:Str}{r:D}{D:Ends}{E:qx->qj->Prop} :
 ∀ {hs:List Hd}{as:List ExceptHandler},HdsOk X hs as->∀ {σ:L2.St}{H F:Hp}{L:List qv}{S S':aC}{env:aV}{fl:Fl}{s:qj},Inv X [] σ H s->Trc s.heap h0 H a cls dx (qq .none)->Bel X [] h0->(∀ b,h0.get? b≠qz->s.heap.get? b≠qz) ->
  Rel X.K F L S H->EnvR X.K F L env σ->pC X.K F c r cls dx->dS tb c r hs env S=qq (fl,S')->(∀ F' L' H',Gr F L F' L'->Rel X.K F' L' S' H'->zN X.K D F' L' H' fl)->qu (model X.prog X.w) X.A (handleBy (.ref a) X.env as) (SP X [] D) E s
 | _,_,.nil,σ,H,F,L,S,S',env,fl,s,I,T,B,hb,R,En,Xk,e,q=>by cases e
 | h::hs,ah::as,.cons hd hr,σ,H,F,L,S,S',env,fl,s,I,T,B,hb,R,En,Xk,e,q=>by
   unfold zS at hd
   split at hd
   ·rename_i d np nm b0 suite pos;obtain⟨rfl,hg,hdb,⟨C',hns',hm'⟩,hnm,hsu⟩:=hd;obtain⟨C,rfl,hns,hx⟩:=id Xk;have Is:Inv (pO X (.ref a)) [] σ H s:=aCz I;obtain⟨oe,vs,he,hc,hdx,hdat,hsz,hnew,hHe,htr⟩:=id T.ex;have LT:Looks (model X.prog X.w) s.heap (typeOf (.ref a)) (.ref C):=hc▸(Looks.ld he).andThen .now;cases hb2:tb c h.d with
    | none =>
      have e':dS tb c r (h::hs) env S=qz:=by unfold dS;rw[hb2]
      rw[e'] at e;cases e
    | some b =>
      have hex:=ht c h.d b C C' hb2 hns hns';refine wpAny_handleBy_cons (codeAny_handlers_test (lE (X:=pO X (.ref a)) Is hg hm' ((exm_one I.kIn LT hex).here ?_) hdb)) (by intro z;cases z)
      cases b with
      | false =>
        have e':dS tb c r hs env S=qq (fl,S'):=by
         have:dS tb c r (h::hs) env S=dS tb c r hs env S:=by rw[dS];rw[hb2]
         rw[<- this];exact e
        exact aD8 ht hN hf hr I T B hb R En Xk e' q
      | true =>
        show vo _ _ _ _ _;cases nm with
        | none =>
          cases hsl:h.sl with
          | some i=>rw[hsl] at hnm;exact hnm.elim
          | none =>
            have e':h.f env S=qq (fl,S'):=by
             have:dS tb c r (h::hs) env S=h.f env S:=by rw[dS];rw[hb2];dsimp only;rw[hsl]
             rw[<- this];exact e
            refine codeAny_handlers_suite (sU (v:=qz) I T B hb λ s1 I1 T1 hb1=>?_)
            refine wpAny_mono (hsu (.ref a) [] s1 σ H D (aCz I1) (iB R En e' q)) (λ f s2 h2=>?_) λ _ _ z=>z.elim
            cases f with
            | next=>obtain⟨σ',H',I',q'⟩:=h2;exact⟨σ',H',uN I.ok I',q'⟩
            | brk=>obtain⟨σ',H',I',q'⟩:=h2;exact⟨σ',H',uN I.ok I',q'⟩
            | cont=>obtain⟨σ',H',I',q'⟩:=h2;exact⟨σ',H',uN I.ok I',q'⟩
            | ret u=>obtain⟨v,σ',H',I',r',q'⟩:=h2;exact⟨v,σ',H',uN I.ok I',r',q'⟩
        | some n =>
          cases hsl:h.sl with
          | none=>rw[hsl] at hnm;exact hnm.elim
          | some i =>
            rw[hsl] at hnm;have e':(h.f (env.set i (qq (.exc c r))) S).bind (uX i)=qq (fl,S'):=by
             have:dS tb c r (h::hs) env S=(h.f (env.set i (qq (.exc c r))) S).bind (uX i):=by rw[dS];rw[hb2];dsimp only;rw[hsl]
             rw[<- this];exact e
            obtain⟨⟨fl1,S1⟩,e1,e2⟩:=bind_some e';cases fl1 with
            | rt w=>cases e2
            | bk e=>cases e2
            | ct e=>cases e2
            | nx e1' =>
              cases e2;refine codeAny_handlers_suite_as (sU (v:=qz) I T B hb λ s1 I1 T1 hb1=>?_)
              obtain⟨oe1,vs1,he1,hc1,hdx1,hdat1,hsz1,hnew1,hHe1,htr1⟩:=id T1.ex;have I2:=aA1 (o:=.ext λ h=>h.get? a=qq oe1) I1 B hnew1 hHe1 ⟨he1,⟨_,he1⟩,λ h1 h2 q1 q2=>q2 _ q1⟩
              have g1:Gr F L (aW F a (.ext λ h=>h.get? a=qq oe1)) L:=Gr.new (R.sub.free hHe1)
              have xc:jD X.K (aW F a (.ext λ h=>h.get? a=qq oe1)) a c r:=⟨C,oe1,cA,hc1,by unfold notCls;rw[hdat1],hns,by rw[hdx1];exact hx.mono g1.f⟩
              refine aBh (X:=pO X (.ref a)) (aCz I2) hN hnm.1 (.inl hnm.2) (v:=.ref a) (u:=.ref a) rfl (λ s2 I3=>?_) (.inl (hf n))
              refine wpAny_mono (hsu (.ref a) [] s2 _ _ {nx:=λ σ' H'=>D.nx (σ'.set i qz) H',rt:=λ _ _=>False } I3 (iB (R.new hHe1) ((En.mono g1).set i (w:=.exc c r) ⟨a,rfl,xc⟩) e1 λ F2 L2 H2 g2 R2 σ2 E2=>q F2 L2 H2 (g1.trans g2) R2 _ (aKd E2 i))) (λ f s3 h3=>?_) λ _ _ z=>z.elim
              cases f with
              | next =>
                obtain⟨σ',H',I',q'⟩:=h3;exact aLP (uN I.ok I') hN hnm.1 hnm.2 λ s4 I4=>⟨_,_,I4,q'⟩
              | brk=>obtain⟨σ',H',I',q'⟩:=h3;exact q'.elim
              | cont=>obtain⟨σ',H',I',q'⟩:=h3;exact q'.elim
              | ret u=>obtain⟨v,σ',H',I',r',q'⟩:=h3;exact q'.elim
   ·exact hd.elim
theorem aQG{X:Cx}{W:XW}{tb:Str->Str->Option Bool}(ht:aCt X.K tb)(hN:X.N.Nodup)(hf:∀ x,X.fn x=true)(Df:Dfb X){body:List zy}{h0:ExceptHandler}{as:List ExceptHandler}{pos:Pos}{fb:FX}{hs:List Hd}
 (hb:∀ aA W',bW ((eT X aA).wish (jR (eT X aA) W')) body (tX X.K W' fb)) (hh:∀ aA,HdsOk (eT X aA) hs (h0::as)):PS X (.Try body (h0::as) [] [] pos) (tX X.K W (zJ tb fb hs)):=by
 rintro aA s σ H D I ⟨F,L,S,env,fx,S',R,E,e,q⟩;obtain⟨⟨p,S1⟩,e1,e2⟩:=bind_some e;have nxt:∀ {f:Flow}{s1:qj}{E':qx->qj->Prop},SP ((eT X aA).wish E') [] D f s1->(match f with | .next=>qu (model X.prog X.w) X.A (execs [] X.env) (SP X aA D) X.xe s1 | f=>SP X aA D f s1):=λ {f s1 E'} h=>by
  have h2:=spP h.unwish;cases f with
  | next=>exact wpAny_execs_nil h2
  | brk=>exact h2
  | cont=>exact h2
  | ret u=>exact h2
 cases p with
 | fl f =>
   cases e2;exact wpAny_Try_except (wpAny_mono (hb aA (λ _ _ _ _=>False) [] s σ H D ((aHW I).wish _) ⟨F,L,S,env,_,_,R,E,e1,q⟩) (λ f s1 h1=>nxt h1) λ e s1 h1=>by
    obtain⟨_,_,_,_,_,_,_,_,_,_,_,_,_,z⟩:=h1;exact z.elim)
 | ex env1 c r =>
   obtain⟨⟨fl,S2⟩,e3,e4⟩:=bind_some e2;cases e4;refine wpAny_Try_except (wpAny_mono (hb aA (λ σ' cls dx H'=>∃ F' L' aO S1,Gr F L F' L'/\Rel X.K F' L' S1 H'/\EnvR X.K F' L' aO σ'/\pC X.K F' c r cls dx/\dS tb c r hs aO S1=qq (fl,S2)) [] s σ H D ((aHW I).wish _)
    ⟨F,L,S,env,_,_,R,E,e1,λ F1 L1 H1 g1 R1 σ1 cls dx E1 x1=>⟨F1,L1,env1,S1,g1,R1,E1,x1,e3⟩⟩) (λ f s1 h1=>nxt h1) λ e s1 h1=>?_)
   refine aBi (X:=eT X aA) ⟨Df.stk,Df.frm,Df.ex⟩ rfl h1 λ a cls dx h0 σ1 H1 s2 ea I2 T2 B2 hb2 hw=>?_
   subst ea;obtain⟨F1,L1,aO,S3,g1,R1,E1,x1,e5⟩:=hw;refine sU (X:=eT X aA) (v:=qz) I2 T2 B2 hb2 λ s3 I3 T3 hb3=>?_
   exact aZ (aD8 (X:=eT X aA) ht hN hf (hh aA) I3 T3 B2 hb3 R1 E1 x1 e5 λ F2 L2 H2 g2 R2=>q F2 L2 H2 (g1.trans g2) R2) λ f s4 h4=>spP h4
section
variable {X : Cx}{pos : Pos}
noncomputable def rX(tb:Str->Str->Option Bool)(c:Str):List Str->Option Bool
 | []=>qq false
 | d::ds=>match tb c d with
   | some true=>qq true
   | some false=>rX tb c ds
   | none=>qz
noncomputable def rJ:EV.W->Option (Str×D)
 | .exc c r=>qq (c,r)
 | .d (.dict [(.str c,r)])=>qq (c,r)
 | _=>qz
theorem aA9{K:FrG}{F:Hp}{L:List qv}{w:EV.W}{v:V}{z:Str×D}(h:eK K F L w v)(e:rJ w=qq z):∃ a,v=.ref a/\jD K F a z.1 z.2:=by
 unfold rJ at e
 split at e
 ·cases e;exact h
 ·cases e;cases (show Den K F _ v from h) with
  | exc x=>exact⟨_,rfl,x⟩
 ·cases e
noncomputable def rM(tb:Str->Str->Option Bool)(fa:FE)(ds:List Str):FE:=λ env S=>(fa env S).bind λ p=>(rJ p.1).bind λ z=>(rX tb z.1 ds).bind λ b=>qq (.d (.bool b),p.2)
end
end EV
namespace EV
open PySem L2 PySem.Spec PyProof.Rows PySem.W
def fF(K:FrG)(mg:Str->Option qx)(d:Str)(v:V):Prop:=(∃ C,v=.ref C/\nsIn K qy d=qq (qq (.ref C))/\mg d=qq (.ref C))\/(∃ n,v=.ty n/\mg d=qz/\zu d=qq (.type n)/\d ≠ "__name__")
noncomputable def vJ:V->qx
 | .ref a=>.ref a
 | .ty n=>.type n
 | _=>.none
theorem fF.val{K:FrG}{mg:Str->Option qx}{d:Str}{v:V}{u:qx}(h:fF K mg d v)(r:aX v u):u=vJ v:=by
 rcases h with ⟨C,rfl,_⟩ | ⟨n,rfl,_⟩<;>exact r
theorem fF.rel{K:FrG}{mg:Str->Option qx}{d:Str}{v:V}(h:fF K mg d v):aX v (vJ v):=by
 rcases h with ⟨C,rfl,_⟩ | ⟨n,rfl,_⟩<;>rfl
structure XT(K:FrG)(mg:Str->Option qx)(tb:Str->Str->Option Bool):Prop where
 exm:aCt K tb
 cls:∀ c d b C,tb c d=qq b->nsIn K qy c=qq (qq (.ref C))->XcOk K C
 nm:∀ c d b,tb c d=qq b->∃ v,fF K mg d v/\∀ C,nsIn K qy c=qq (qq (.ref C))->kitOne K (.ref C) (vJ v)=qq b
section
variable {X : Cx}{pos : Pos}{tb : Str -> Str -> Option Bool}
theorem aQj{d:Str}{v:V}{p:Pos}(hg:Gl X d)(hd:(d==("__debug__" : Str))=false)(h:fF X.K X.mg d v):PE X (.Name d p) (tC v):=by
 rcases h with ⟨C,rfl,_,hm⟩ | ⟨n,rfl,hm,hv,hn⟩
 ·exact tD hg hm rfl hd
 ·exact aFJ hg hm hv rfl hn hd
theorem aFd{aA:List (qv×Obj)}{σ:L2.St}{H F:Hp}{s:qj}{a:qv}{c:Str}{r:D}(I:Inv X aA σ H s)(sb:bY F H)(h:jD X.K F a c r):∃ C oe od,nsIn X.K qy c=qq (qq (.ref C))/\yCg s.heap a oe C od:=by
 obtain⟨C,oe,h1,h2,h3,h4,h5⟩:=h;have e:=(I.hok a _ (sb _ _ h1)).1;cases r with
 | none=>exact⟨C,oe,qz,h4,e,h2,h3,by rw[show oe.dict=qz from h5];trivial⟩
 | int i =>
   obtain⟨dx,q1,q2⟩:=h5;obtain⟨od,ho⟩:=wN (I.hok dx _ (sb _ _ q2));exact⟨C,oe,qq od,h4,e,h2,h3,by rw[q1];exact ho⟩
 | _=>exact h5.elim
theorem aLJ(T:XT X.K X.mg tb){d:Str}{v:V}(nv:fF X.K X.mg d v):cN X (.builtin "isinstance") (λ xs H Q=>∃ F L S a c r b,xs=[.ref a,v]/\Rel X.K F L S H/\jD X.K F a c r/\tb c d=qq b/\Q (.bl b) H):=λ aA s σ H xs us Q I r aM=>by
 obtain⟨F,L,S,a,c,rr,b,e,R,xc,hb,q⟩:=aM;subst e;obtain⟨u,u2,rfl,r1,r2⟩:=uF r;cases (show u=Value.ref a from r1)
 obtain rfl:=nv.val r2;obtain⟨C,oe,od,hC,J⟩:=aFd I R.sub xc;obtain⟨v',nv',hk⟩:=T.nm c d b hb;have:v'=v:=by
  rcases nv with ⟨C1,rfl,n1,m1⟩ | ⟨n,rfl,m1,n1,_⟩<;>rcases nv' with ⟨C2,rfl,n2,m2⟩ | ⟨n',rfl,m2,n2,_⟩
  ·rw[m1] at m2;cases m2;rfl
  ·rw[m1] at m2;cases m2
  ·rw[m1] at m2;cases m2
  ·rw[n1] at n2;cases n2;rfl
 subst this;exact kia_one (aEw (T.cls c d b C hb hC)) I.kIn J (hk C hC) (λ z=>nomatch z) λ tk=>⟨.bl b,H,I.tok _,rfl,q⟩
theorem aFX(T:XT X.K X.mg tb){c:Str}{C:qv}(hC:nsIn X.K qy c=qq (qq (.ref C))):∀ {ds:List Str}{vs:List V}{b:Bool},Paired (fF X.K X.mg) ds vs->rX tb c ds=qq b->kitAny X.K (.ref C) (vs.map vJ)=qq b
 | _,_,_,.nil,e=>by cases e;rfl
 | d::ds,v::vs,b,.cons nv r,e=>by
   have e':(match tb c d with | some true=>qq true | some false=>rX tb c ds | none=>qz)=qq b:=e
   cases hb:tb c d with
   | none=>rw[hb] at e';cases e'
   | some b1 =>
     rw[hb] at e';obtain⟨v',nv',hk⟩:=T.nm c d b1 hb;have:v'=v:=by
      rcases nv with ⟨C1,rfl,n1,m1⟩ | ⟨n,rfl,m1,n1,_⟩<;>rcases nv' with ⟨C2,rfl,n2,m2⟩ | ⟨n',rfl,m2,n2,_⟩
      ·rw[m1] at m2;cases m2;rfl
      ·rw[m1] at m2;cases m2
      ·rw[m1] at m2;cases m2
      ·rw[n1] at n2;cases n2;rfl
     subst this;have hk:=hk C hC;rw[yAi];unfold kitAny;rw[hk];cases b1 with
     | true=>exact e'
     | false=>exact aFX T hC r e'
theorem aE4:∀ {ds:List Str}{vs:List V}{us:List qx},Paired (fF X.K X.mg) ds vs->aT vs us->us=vs.map vJ
 | _,_,_,.nil,.nil=>rfl
 | _,_,_,.cons nv r,.cons rv rs=>by rw[yAi,<- aE4 r rs,nv.val rv]
theorem aMS(T:XT X.K X.mg tb){ds:List Str}{vs:List V}(nv:Paired (fF X.K X.mg) ds vs)(hne:ds≠[]):cN X (.builtin "isinstance") (λ xs H Q=>∃ F L S a c r b p,xs=[.ref a,.ref p]/\H p=qq (.tup vs)/\Rel X.K F L S H/\jD X.K F a c r/\rX tb c ds=qq b/\Q (.bl b) H):=λ aA s σ H xs us Q I r aM=>by
 obtain⟨F,L,S,a,c,rr,b,p,e,hp,R,xc,hb,q⟩:=aM;subst e;obtain⟨u,u2,rfl,r1,r2⟩:=uF r;cases (show u=Value.ref a from r1)
 cases (show u2=Value.ref p from r2)
 obtain⟨C,oe,od,hC,J⟩:=aFd I R.sub xc;obtain⟨_,its,rv,o,ho,hc,n,hd⟩:=I.hok p _ hp;obtain rfl:=aE4 nv rv;have hX:XcOk X.K C:=by
  cases ds with
  | nil=>exact absurd rfl hne
  | cons d ds =>
    have e':(match tb c d with | some true=>qq true | some false=>rX tb c ds | none=>qz)=qq b:=hb
    cases hb1:tb c d with
    | none=>rw[hb1] at e';cases e'
    | some b1=>exact T.cls c d b1 C hb1 hC
 obtain⟨oc,od',oda,osl⟩:=o;dsimp only at hc hd;subst hc hd;exact kia_tup (aEw hX) I.kIn J ho (aFX T hC nv hb) (λ z=>nomatch z) λ tk=>⟨.bl b,H,I.tok _,rfl,q⟩
end
end EV
namespace EV
open PySem L2 PySem.Spec PyProof.Rows PySem.W
inductive Hx where
 | bl (b:Bool) | str (x:Str) | row (i:Nat) | isi (i:Nat) (d:Str) | isl (i:Nat) (ds:List Str)
inductive Hs where
 | set (j:Nat) (a:Hx) | tup (j:Nat) (as:List Hx) | lst (nw:Bool) (j:Nat) (as:List Hx) | app (j:Nat) (a:Hx) | cat (j:Nat) (as:List Hx)
noncomputable def pD(tb:Str->Str->Option Bool)(fa:FE):FE:=λ env S=>(fa env S).bind λ p=>(rJ p.1).bind λ z=>match z.2,tb z.1 z.1 with
 | .int i,qq _=>qq (.d (.int i),p.2)
 | _,_=>qz
section
variable (tb : Str -> Str -> Option Bool)
noncomputable def hv:Hx->FE
 | .bl b=>fC (.bool b)
 | .str x=>fC (.str x)
 | .row i=>pD tb (eU i)
 | .isi i d=>rM tb (eU i) [d]
 | .isl i ds=>rM tb (eU i) ds
noncomputable def mB:List Hx->FA
 | []=>gD
 | a::as=>cJ (hv tb a) (mB as)
noncomputable def dL:Hs->FS
 | .set j a=>dO j (hv tb a)
 | .tup j as=>dO j (vB (mB tb as))
 | .lst nw j as=>dO j (match nw with | true=>gM (jT (mB tb as)) | false=>gE (jT (mB tb as)))
 | .app j a=>uD (gK (eU j) (hv tb a))
 | .cat j as=>dO j (kR .Add (eU j) (gE (jT (mB tb as))))
noncomputable def iY:List Hs->FS
 | []=>oZ
 | a::as=>dA (dL tb a) (iY as)
end
section
variable (N : List Str)(sc : zw)
noncomputable def vV(i:Nat)(x:qw):Bool:=eX (λ x _=>decide (N[i]? = qq x)&&jI sc x && !(x==("__debug__" : Str)) && !(x==("__classdict__" : Str))) x
noncomputable def uU(d:Str)(x:qw):Bool:=eX (λ z _=>decide (z=d)&&gl sc z && !(z==("__debug__" : Str))) x
noncomputable def aCk:List Str->List qw->Bool
 | [],xs=>xs.isEmpty
 | d::ds,xs=>(match xs with
   | x::xs=>uU sc d x&&cB x&&aCk ds xs
   | []=>false)
noncomputable def vI:Hx->qw->Bool
 | .bl b,x=>iJ (.bool b) x
 | .str k,x=>iJ (.str k) x
 | .row i,x=>zX (λ o m _=>decide (m = "row")&&eX (λ x _=>decide (N[i]? = qq x)&&jI sc x && !(x==("__debug__" : Str)) && !(x==("__classdict__" : Str))) o) x
 | .isi i d,x=>sD "isinstance" sc (λ y=>vV N sc i y) (λ z=>uU sc d z) x
 | .isl i ds,x=>!ds.isEmpty&&decide (ds.length<=100)&&sD "isinstance" sc (λ y=>vV N sc i y) (λ z=>nQ (λ xs _ _=>aCk sc ds xs) z) x
noncomputable def uG:List Hx->List qw->Bool
 | [],xs=>xs.isEmpty
 | a::as,xs=>(match xs with
   | x::xs=>vI N sc a x&&cB x&&uG as xs
   | []=>false)
noncomputable def lV(j:Nat)(ts:List qw):Bool:=gX (λ t=>eX (λ x _=>decide (N[j]? = qq x)&&loc sc x) t) ts
noncomputable def aHr:Hs->zy->Bool
 | .set j a,st=>iK (λ ts y _=>vI N sc a y&&fL y&&lV N sc j ts) st
 | .tup j as,st=>iK (λ ts y _=>nQ (λ xs _ _=>uG N sc as xs) y&&fL y&&lV N sc j ts) st
 | .lst _ j as,st=>iK (λ ts y _=>pS (λ xs _=>uG N sc as xs) y&&fL y&&lV N sc j ts) st
 | .app j a,st=>wD (λ x _=>vH "append" (λ y=>vV N sc j y) (λ z=>vI N sc a z) x&&fL x) st
 | .cat j as,st=>iK (λ ts y _=>pT (λ x o z _=>decide (o=.Add)&&vV N sc j x&&pS (λ xs _=>uG N sc as xs) z) y&&fL y&&lV N sc j ts) st
noncomputable def aB8:List Hs->List zy->Bool
 | [],l=>l.isEmpty
 | a::as,l=>(match l with
   | st::r=>aHr N sc a st&&aB8 as r
   | []=>false)
end
section
variable {X : Cx}{tb : Str -> Str -> Option Bool}
theorem zH{i:Nat}{x:qw}(h:vV X.N X.env.scope i x=true):PE X x (aI X.K (eU i)):=fD (P:=λ x=>PE X x _) h λ x p h=>aCc (dT (aL (aL (aL h)))) (aBV (aR (aL (aL h)))) (dU (aR (aL h))) (dU (aR h))
def zL(K:FrG)(mg:Str->Option qx)(ns:List Str):Prop:=∀ d∈ns,∃ v,fF K mg d v
theorem aCd{d:Str}{v:V}{x:qw}(nv:fF X.K X.mg d v)(h:uU X.env.scope d x=true):PE X x (tC v):=fD (P:=λ x=>PE X x _) h λ x p h=>by
 obtain rfl:=dT (aL (aL h));exact aQj (dM (aR (aL h))) (dU (aR h)) nv
theorem aGh:∀ {ds:List Str}{es:List qw},(∀ d∈ds,∃ v,fF X.K X.mg d v)->aCk X.env.scope ds es=true->∃ vs,Paired (fF X.K X.mg) ds vs/\PA X es (λ _ H Q=>Q vs H)
 | [],es,_,h=>fB (P:=λ es=>∃ vs,Paired (fF X.K X.mg) [] vs/\PA X es (λ _ H Q=>Q vs H)) h ⟨[],.nil,qP⟩
 | d::ds,[],_,h=>no h
 | d::ds,x::es,hn,h=>by
   obtain⟨v,nv⟩:=hn d xAd;obtain⟨vs,p,ha⟩:=aGh (λ d' hd=>hn d' (xAf _ hd)) (aR h)
   exact⟨v::vs,.cons nv p,kF (aCd nv (aL (aL h))) ha (dX (aR (aL h)) _ _)⟩
theorem aF2{d:Str}{v:V}{fa:FE}{y z:qw}{p q:Pos}(T:XT X.K X.mg tb)(nv:fF X.K X.mg d v)(hb:X.mg "isinstance" = qz)(hg:Gl X "isinstance")(hy:PE X y (aI X.K fa))(py:cB y=true)(hz:PE X z (tC v))(pz:cB z=true):PE X (.Call (.Name "isinstance" p) [y,z] [] q) (aI X.K (rM tb fa [d])):=by
 refine PE.weak (kD (aLJ T nv) hg hb (by decide +kernel) (kF hy (kF hz qP (dX pz _ _)) (dX py _ _)) (by decide) (by decide) (dX py _ _) (sW (es:=[z]) (by unfold lC lC;rw[pz];rfl) _ _)) λ σ H Q hPq47=>?_
 obtain⟨F,L,S,env,w,S',R,E,e,q⟩:=hPq47;obtain⟨⟨w1,S1⟩,e1,e2⟩:=bind_some e;obtain⟨⟨c,r⟩,ez,e2⟩:=bind_some e2;obtain⟨b,e3,e4⟩:=bind_some e2;cases e4;refine⟨F,L,S,env,w1,_,R,E,e1,λ F1 L1 H1 v1 g1 R1 d1=>?_⟩
 obtain⟨a,rfl,xc⟩:=aA9 d1 ez;have e5:tb c d=qq b:=by
  have e3':(match tb c d with | some true=>qq true | some false=>qq false | none=>qz)=qq b:=e3
  cases hb:tb c d with
  | none=>rw[hb] at e3';cases e3'
  | some b'=>rw[hb] at e3';cases b'<;>exact e3'
 exact⟨F1,L1,_,a,c,r,b,rfl,R1,xc,e5,q F1 L1 H1 _ g1 R1 (Den.bl b)⟩
theorem aPi{ds:List Str}{vs:List V}{fa:FE}{y:qw}{es:List qw}{kk:Nat}{tp p q:Pos}(T:XT X.K X.mg tb)(nv:Paired (fF X.K X.mg) ds vs)(hne:ds≠[])(hl:ds.length<=100)(hb:X.mg "isinstance" = qz)(hg:Gl X "isinstance")(hy:PE X y (aI X.K fa))(py:cB y=true)(hz:PA X es (λ _ H Q=>Q vs H)) :
 PE X (.Call (.Name "isinstance" p) [y,.Tuple es kk tp] [] q) (aI X.K (rM tb fa ds)):=by
 refine PE.weak (kD (aMS T nv hne) hg hb (by decide +kernel) (kF hy (kF (aBN hz) qP rfl) (dX py _ _)) (by decide) (by decide) (dX py _ _) rfl) λ σ H Q hPq48=>?_
 obtain⟨F,L,S,env,w,S',R,E,e,q⟩:=hPq48;obtain⟨⟨w1,S1⟩,e1,e2⟩:=bind_some e;obtain⟨⟨c,r⟩,ez,e2⟩:=bind_some e2;obtain⟨b,e3,e4⟩:=bind_some e2;cases e4;refine⟨F,L,S,env,w1,_,R,E,e1,λ F1 L1 H1 v1 g1 R1 d1=>?_⟩
 obtain⟨a,rfl,xc⟩:=aA9 d1 ez;refine⟨by rw[<- nv.length];exact xAg hl (by decide),λ p hp=>⟨F1,L1,_,a,c,r,b,p,rfl,cA,R1.lay hp,xc,e3,q F1 L1 _ _ g1 (R1.lay hp) (Den.bl b)⟩⟩
theorem aNb{aA:List (qv×Obj)}{σ:L2.St}{H F:Hp}{s:qj}{a:qv}{c:Str}{i:Int}(I:Inv X aA σ H s)(sb:bY F H)(h:jD X.K F a c (.int i)):∃ C oe od v,nsIn X.K qy c=qq (qq (.ref C))/\yCg s.heap a oe C (qq od)/\lookIn "row" od=qq (qq v)/\aX (.int i) v:=by
 obtain⟨C,oe,h1,h2,h3,h4,dx,q1,q2⟩:=h;have e:=(I.hok a _ (sb _ _ h1)).1;obtain⟨mA,hn,hr⟩:=I.hok dx _ (sb _ _ q2);obtain⟨od,ho,hl⟩:=aD7 hn;have r:=hr "row";have hlk:List.lookup ("row" : Str) [(("row" : Str),V.int i)]=qq (V.int i):=rfl;rw[hlk] at r;obtain⟨v,hv,rv⟩:=vK.some_of r;exact⟨C,oe,od,v,h4,⟨e,h2,h3,by rw[q1];exact ho⟩,by rw[hl,hv],rv⟩
theorem aQr{i:Nat}{x:Str}{p pos:Pos}(T:XT X.K X.mg tb)(hN:X.N[i]? = qq x)(hv:mC X.env.scope x)(hd:(x==("__debug__" : Str))=false)(hcd:(x==("__classdict__" : Str))=false):PE X (.Attribute (.Name x p) "row" pos) (aI X.K (pD tb (eU i))):=by
 rintro aA s σ H Q I ⟨F,L,S,env,w,S',R,E,e,q⟩;obtain⟨⟨w1,S1⟩,e1,e2⟩:=bind_some e;obtain⟨⟨c,r⟩,ez,e2⟩:=bind_some e2;dsimp only at e2 ez
 split at e2
 ·rename_i j b hb;cases e2;refine Attribute_name (aZ (aCc (pos:=p) hN hv hd hcd aA s σ H (λ v H1=>∃ a F1 L1,v=.ref a/\Gr F L F1 L1/\Rel X.K F1 L1 S' H1/\jD X.K F1 a c (.int j)) I ⟨F,L,S,env,_,_,R,E,e1,λ F1 L1 H1 v g1 R1 d1=>?_⟩) λ u s1 h1=>?_)
  ·obtain⟨a,rfl,xc⟩:=aA9 d1 ez;exact⟨a,F1,L1,rfl,g1,R1,xc⟩
  ·obtain⟨v,H1,I1,rv,a,F1,L1,rfl,g1,R1,xc⟩:=h1;obtain rfl:u=Value.ref a:=rv;obtain⟨C,oe,od,v,hC,J,hl,rv⟩:=aNb I1 R1.sub xc;have O:=T.cls c c b C hb hC;obtain⟨tk,rfl⟩:=rv;unfold getAttr;refine wB (wpAny_mkText (aFZ (s:={s1 with toks:=s1.toks+1 }) I1.kIn J O.ga O.gt (aEt (s:={s1 with toks:=s1.toks+1 }) I1.kIn J O.mb (aJE (s:={s1 with toks:=s1.toks+1 }) I1.kIn J (findObj_own O.hd O.rw rfl hl) ?_))))
   show qu _ _ (handedOut (.int j tk)) _ _ _;rw[handedOut_of rfl];exact wP ⟨.int j,H1,I1.tok _,⟨_,rfl⟩,q F1 L1 H1 _ g1 R1 (Den.int j)⟩
 ·cases e2
noncomputable def Hx.nms:Hx->List Str
 | .isi _ d=>[d]
 | .isl _ ds=>ds
 | _=>[]
theorem yO(T:XT X.K X.mg tb)(hb:X.mg "isinstance" = qz){a:Hx}(hn:zL X.K X.mg a.nms){x:qw}(h:vI X.N X.env.scope a x=true):PE X x (aI X.K (hv tb a)):=by
 cases a with
 | bl b=>exact jP (P:=λ x=>PE X x _) h λ _ _=>aHZ
 | str k=>exact jP (P:=λ x=>PE X x _) h λ _ _=>aG6
 | row i =>
   refine aHB (P:=λ x=>PE X x _) h λ o m ap h=>fD (P:=λ o=>PE X (.Attribute o m ap) _) (aR h) λ n p g=>?_
   obtain rfl:=dT (aL h);exact aQr T (dT (aL (aL (aL g)))) (aBV (aR (aL (aL g)))) (dU (aR (aL g))) (dU (aR g))
 | isi i d =>
   obtain⟨v,nv⟩:=hn d xAd;exact zQ (P:=λ x=>PE X x _) h λ p y z q hg hy py hz pz=>aF2 T nv hb (dM hg) (zH hy) py (aCd nv hz) pz
 | isl i ds =>
   refine zQ (P:=λ x=>PE X x _) (aR h) λ p y z q hg hy py hz pz=>pL (P:=λ z=>PE X (.Call (.Name "isinstance" p) [y,z] [] q) _) hz λ es kk tp hz=>?_
   obtain⟨vs,nv,ha⟩:=aGh hn hz;refine aPi T nv (λ z=>?_) (dT (aR (aL h))) hb (dM hg) (zH hy) py ha
   have:=aL (aL h);rw[z] at this;exact no this
theorem xO(T:XT X.K X.mg tb)(hb:X.mg "isinstance" = qz):∀ {as:List Hx}{xs:List qw},(∀ a∈as,zL X.K X.mg a.nms)->uG X.N X.env.scope as xs=true->PA X xs (dC X.K (mB tb as))
 | [],xs,_,h=>fB (P:=λ xs=>PA X xs _) h oP
 | a::as,[],_,h=>no h
 | a::as,x::xs,hn,h=>oH (yO T hb (hn a xAd) (aL (aL h))) (xO T hb (λ b m=>hn b (xAf _ m)) (aR h)) (dX (aR (aL h)) _ _)
noncomputable def Hs.hxs:Hs->List Hx
 | .set _ a=>[a]
 | .tup _ as=>as
 | .lst _ _ as=>as
 | .app _ a=>[a]
 | .cat _ as=>as
theorem aQS(T:XT X.K X.mg tb)(hb:X.mg "isinstance" = qz)(nd:X.N.Nodup)(hf:∀ x,X.fn x=true){a:Hs}(hn:∀ b∈a.hxs,zL X.K X.mg b.nms){st:zy}(h:aHr X.N X.env.scope a st=true):PS X st (cM X.K (dL tb a)):=by
 have asg:∀ {j:Nat}{ts:List qw}{y:qw}{p:Pos}{fa:FE},lV X.N X.env.scope j ts=true->fL y=true->PE X y (aI X.K fa)->PS X (.Assign ts y p) (cM X.K (dO j fa)):=λ {j ts y p fa} g hy he =>
  gI (P:=λ ts=>PS X (.Assign ts y p) _) g λ _ g=>fD (P:=λ t=>PS X (.Assign [t] y p) _) g λ x q g=>xZ nd (dT (aL g)) (qR (aR g)) he (mH hy _ _ _) (.inl (hf _))
 cases a with
 | set j a=>exact jS (P:=λ st=>PS X st _) h λ ts y p h=>asg (aR h) (aR (aL h)) (yO T hb (hn a xAd) (aL (aL h)))
 | tup j as=>exact jS (P:=λ st=>PS X st _) h λ ts y p h=>asg (aR h) (aR (aL h)) (pL (P:=λ y=>PE X y _) (aL (aL h)) λ xs _ _ h=>aHe (xO T hb hn h))
 | lst nw j as =>
   refine jS (P:=λ st=>PS X st _) h λ ts y p h=>asg (aR h) (aR (aL h)) ?_
   have z:PE X y (hB X.K (jT (mB tb as))):=uZ (P:=λ y=>PE X y _) (aL (aL h)) λ xs _ h=>uB (xO T hb hn h)
   cases nw
   ·exact rE z
   ·exact aG0 z
 | app j a =>
   exact aCO (P:=λ st=>PS X st _) h λ x p h=>aGr (yJ (P:=λ x=>PE X x _) (aL h) λ o ap y cp h4 h3 h2 h5 h6 =>
    PE.weak (yD PySem.F.plainAttrs_list PySem.F.slot_list_append PySem.F.type_list_append aAV (zH h2) (oH (yO T hb (hn a xAd) h5) oP (dX h6 _ _)) (mO h3 _ _) (by rw[st1 h6];rfl) h4 (st1 h6) rfl) aGS) (mH (aR h) _ _ _)
 | cat j as =>
   exact jS (P:=λ st=>PS X st _) h λ ts y p h=>asg (aR h) (aR (aL h)) (zA (P:=λ y=>PE X y _) (aL (aL h)) λ x o z _ h=>by
    obtain rfl:=dT (aL (aL h));exact aGQ (zH (aR (aL h))) (rE (uZ (P:=λ y=>PE X y _) (aR h) λ xs _ h=>uB (xO T hb hn h))))
theorem aGA(T:XT X.K X.mg tb)(hb:X.mg "isinstance" = qz)(nd:X.N.Nodup)(hf:∀ x,X.fn x=true):∀ {as:List Hs}{l:List zy},(∀ a∈as,∀ b∈a.hxs,zL X.K X.mg b.nms)->aB8 X.N X.env.scope as l=true->bW X l (cM X.K (iY tb as))
 | [],l,_,h=>fB (P:=λ l=>bW X l _) h aGm
 | a::as,[],_,h=>no h
 | a::as,st::l,hn,h=>aG4 (aQS T hb nd hf (hn a xAd) (aL h)) (aGA T hb nd hf (λ b m=>hn b (xAf _ m)) (aR h))
end
end EV
namespace EV
open PySem L2 PySem.Spec PyProof.Rows PySem.W
inductive Xx where
 | s (a:Sx) | skip | seq (a b:Xx) | ifs (c:E) (a b:Xx) | loop (t:Tg) (it:E) (b:Xx)
 | raise (c:Str) | raise1 (c:Str) (e:E) | cal (f:Nat) (es:E) | set (i f:Nat) (es:E) | pair (i:Nat) (k:Str) (f:Nat) (es:E)
 | tri (b:Xx) (hs:List (Str×Option Nat×List Hs)) | mks (j:Nat) (cs:List Str) (e:E) | hnd (o:Nat) (it b:E) (c d:Str)
abbrev fX:=Nat->Option (Nat×(List W->aC->Option (ResX×aC)))
noncomputable def iD(CX:fX)(f:Nat)(fs:FA):jV:=λ env S=>match CX f with
 | some (np,call)=>aB7 fs np call env S
 | none=>qz
noncomputable def aCI(fe:FE):List Str->FA
 | []=>gD
 | c::cs=>cJ (aHY c fe) (aCI fe cs)
section
variable (C : Calls)(CX : fX)(tb : Str -> Str -> Option Bool)
noncomputable def xx:Xx->FX
 | .s a=>xP (xs C a)
 | .skip=>aHd
 | .seq a b=>aHA (xx a) (xx b)
 | .ifs c a b=>xIf (tv C c) (xx a) (xx b)
 | .loop t it b=>mY t (lv C it) (xx b)
 | .raise c=>aGi c
 | .raise1 c e=>xK c (ev C e)
 | .cal f es=>oO (iD CX f (av C es))
 | .set i f es=>jB i (iD CX f (av C es))
 | .pair i k f es=>jB i (yF k (iD CX f (av C es)))
 | .tri b hs=>zJ tb (xx b) (hs.map λ h=>⟨h.1,h.2.1,iY tb h.2.2⟩)
 | .mks j cs e=>xP (dO j (gE (jT (aCI (ev C e) cs))))
 | .hnd o it b c d=>xP (nF (uM (kN .Eq (gE (gW (.one o) (lv C it) pE (pD tb (eU o)))) (ev C b)) (rM tb (aCx c) [d])))
end
noncomputable def kRa(k:Option qw->Option qw->Pos->Bool)(x:zy):Bool:=if h:x.ctorIdx=16 then @Stmt.Raise.elim (λ _=>Bool) x h k else false
theorem aHx{P:zy->Prop}{k:Option qw->Option qw->Pos->Bool}{x:zy}(h:kRa k x=true)(g:∀ a b c,k a b c=true->P (.Raise a b c)):P x:=@Stmt.Raise.elim (λ e=>kRa k e=true->P e) x (eO h) g h
noncomputable def kTr(k:List zy->List ExceptHandler->List zy->List zy->Pos->Bool)(x:zy):Bool:=if h:x.ctorIdx=17 then @Stmt.Try.elim (λ _=>Bool) x h k else false
theorem aSc{P:zy->Prop}{k:List zy->List ExceptHandler->List zy->List zy->Pos->Bool}{x:zy}(h:kTr k x=true)(g:∀ a b c d e,k a b c d e=true->P (.Try a b c d e)):P x:=@Stmt.Try.elim (λ e=>kTr k e=true->P e) x (eO h) g h
structure Xz where
 xo:List Str
 xb:List Str
 rc:List Str
 ri:List (Str×Str×zy)
section
variable (T : Tx)(Z : Xz)(N : List Str)
noncomputable def aRh(sc:zw)(h:Str×Option Nat×List Hs):ExceptHandler->Bool
 | .ExceptHandler t nm body _=>Z.xo.contains h.1&&t.any (λ t=>uU sc h.1 t)&&(match nm,h.2.1 with
    | none,qz=>true
    | some n,qq i=>decide (N[i]? = qq n)&&decide (sc.names.lookup n=qq .local)
    | _,_=>false) && !body.isEmpty&&aB8 N sc h.2.2 body&&h.2.2.all λ a=>a.hxs.all λ b=>b.nms.all λ d=>Z.xo.contains d||Z.xb.contains d
noncomputable def aCn(sc:zw):List (Str×Option Nat×List Hs)->List ExceptHandler->Bool
 | [],as=>as.isEmpty
 | h::hs,as=>(match as with
   | a::as=>aRh Z N sc h a&&aCn sc hs as
   | []=>false)
noncomputable def yZ(f:Nat)(es:E)(sc:zw)(x:qw):Bool:=iU (λ x xs=>decide ((T.fn[f]?).map (·.1)=qq x)&&gl sc x && !(x==("__debug__" : Str))&&jU T N es sc xs&&lC xs && !xs.isEmpty) x
noncomputable def aCp(e:E)(sc:zw):List Str->List qw->Bool
 | [],xs=>xs.isEmpty
 | c::cs,xs=>(match xs with
   | x::xs=>iU (λ n ys=>gX (λ y=>bD T N e sc y&&cB y) ys&&decide (n=c)&&gl sc n && !(n==("__debug__" : Str))&&(Z.ri.map (·.1)).contains c) x&&cB x&&aCp e sc cs xs
   | []=>false)
noncomputable def aGZ(o:Nat)(it b:E)(sc:zw)(x:qw):Bool:=pK (λ l op r=>decide (op=.Eq)&&aCC N (.one o) .no sc (λ g y=>vR T N it sc g y) (λ _ _=>false) (λ s y=>vI N s (.row o) y) l&&bD T N b sc r) x
noncomputable def aGO(c d:Str)(sc:zw)(x:qw):Bool:=(Z.xo.contains d||Z.xb.contains d)&&sD "isinstance" sc (λ y=>iU (λ n xs=>xs.isEmpty&&decide (n=c)&&gl sc n && !(n==("__debug__" : Str))&&Z.rc.contains c) y) (λ z=>uU sc d z) x
mutual
noncomputable def okX:Xx->zw->zy->Bool
 | .s a,sc,st=>okS T N a sc st
 | .ifs c a b,sc,st=>kSf (λ x y z _=>jY T N c sc x&&kO a sc y&&kO b sc z) st
 | .loop t it b,sc,st=>zW (λ tg x y z _=>z.isEmpty&&rG false N sc t tg&&vR T N it sc tg x&&cB x&&kO b sc y) st
 | .raise c,sc,st=>kRa (λ e ca _=>vL ca&&e.any λ e=>iU (λ n xs=>xs.isEmpty&&decide (n=c)&&gl sc n && !(n==("__debug__" : Str))&&Z.rc.contains c) e) st
 | .raise1 c e,sc,st=>kRa (λ x ca _=>vL ca&&x.any λ x=>iU (λ n xs=>gX (λ y=>bD T N e sc y&&cB y) xs&&decide (n=c)&&gl sc n && !(n==("__debug__" : Str))&&(Z.ri.map (·.1)).contains c) x) st
 | .cal f es,sc,st=>wD (λ x _=>yZ T N f es sc x&&fL x) st
 | .set i f es,sc,st=>iK (λ ts y _=>yZ T N f es sc y&&fL y&&lV N sc i ts) st
 | .pair i k f es,sc,st=>iK (λ ts y _=>nQ (λ xs _ _=>rL (λ u v=>iJ (.str k) u&&yZ T N f es sc v&&cB v) xs) y&&fL y&&lV N sc i ts) st
 | .tri b hs,sc,st=>kTr (λ bd hds oe fb _=>oe.isEmpty&&fb.isEmpty && !hs.isEmpty&&kO b sc bd&&aCn Z N sc hs hds) st
 | .mks j cs e,sc,st=>iK (λ ts y _=>pS (λ xs _=>aCp T Z N e sc cs xs) y&&fL y&&lV N sc j ts) st
 | .hnd o it b c d,sc,st=>zV (λ v _=>v.any λ x=>rA .And (λ l r=>aGZ T N o it b sc l&&aGO Z c d sc r) x) st
 | _,_,_=>false
noncomputable def kO:Xx->zw->List zy->Bool
 | .skip,_,l=>l.isEmpty
 | .seq a b,sc,l=>(match l with
   | st::r=>okX a sc st&&kO b sc r
   | []=>false)
 | _,_,_=>false
end
end
structure XCtx(T:Tx)(Z:Xz)(C:Calls)(CX:fX)(tb:Str->Str->Option Bool)(X:Cx)(W:XW):Prop where
 ctx:Ctx T C X.nox
 fly:uK X W
 own:PassesOwn (model X.prog X.w) X.A X.env X.xe
 dfb:Dfb X
 fn:∀ x,X.fn x=true
 xt:XT X.K X.mg tb
 cal:∃ k,Room k X.A/\∀ f np call x,CX f=qq (np,call)->(T.fn[f]?).map (·.1)=qq x->∃ fa fd ps,X.mg x=qq (.ref fa)/\keepIn X.K (.ref fa)=true/\eA X.K fd ps []/\FnOk X.prog X.w X.K X.mg X.base (jE X.prog X.w) k fa fd ps (pN X.K np call)
 xo:∀ d∈Z.xo,∃ C,nsIn X.K qy d=qq (qq (.ref C))/\X.mg d=qq (.ref C)
 xb:∀ d∈Z.xb,∃ n,X.mg d=qz/\zu d=qq (.type n)/\d ≠ "__name__"
 rc:∀ c∈Z.rc,∃ C,nsIn X.K qy c=qq (qq (.ref C))/\X.mg c=qq (.ref C)/\excIn X.K C jW "ValueError.__new__" = true/\keepIn X.K (.ref C)=true
 rm:Room 2 X.A
 ri:∀ c∈Z.ri.map (·.1),∃ C fI fd n0 n1,nsIn X.K qy c=qq (qq (.ref C))/\X.mg c=qq (.ref C)/\XiOk X.K C fI/\FnOk X.prog X.w X.K X.mg X.base fV 1 fI fd [n0,n1] (rS C)/\eA X.K fd [n0,n1] []/\∃ oI,X.K.lookup fI=qq oI/\oI.cls=.type "function"
section
variable {T : Tx}{Z : Xz}{C : Calls}{CX : fX}{tb : Str -> Str -> Option Bool}
theorem XCtx.nms{X:Cx}{W:XW}(h:XCtx T Z C CX tb X W){d:Str}(hd:(Z.xo.contains d||Z.xb.contains d)=true):∃ v,fF X.K X.mg d v:=by
 rcases Bool.or_eq_true_iff.mp hd with z | z
 ·obtain⟨C,h1,h2⟩:=h.xo d (by simpa using z)
  exact⟨.ref C,.inl ⟨C,rfl,h1,h2⟩⟩
 ·obtain⟨n,h1,h2,h3⟩:=h.xb d (by simpa using z)
  exact⟨.ty n,.inr ⟨n,rfl,h1,h2,h3⟩⟩
theorem XCtx.tri{X:Cx}{W:XW}(h:XCtx T Z C CX tb X W)(aA:List (qv×Obj))(W':XW):XCtx T Z C CX tb ((eT X aA).wish (jR (eT X aA) W')) W' where
 ctx:=⟨h.ctx.nd,h.ctx.calm,rfl,h.ctx.kind,h.ctx.room,h.ctx.blt,h.ctx.tbs,h.ctx.cns,h.ctx.sts⟩
 fly:=λ _ _ z=>z.unwish
 own:=aFN (X:=eT X aA) ⟨h.dfb.stk,h.dfb.frm,h.dfb.ex⟩
 dfb:=⟨h.dfb.stk,h.dfb.frm,h.dfb.ex⟩
 fn:=h.fn
 xt:=h.xt
 cal:=h.cal
 xo:=h.xo
 xb:=h.xb
 rc:=h.rc
 rm:=h.rm
 ri:=h.ri
theorem PI.nox{X:Cx}{tg iter:qw}{wi:TI}(h:PI X.nox tg iter wi):PI X tg iter wi:=λ aA s σ H R I hw =>
 wpAny_mono (h aA s σ H R (I.wish _) hw) (λ v s1 h1=>wpAny_mono h1 (λ itv s2 hPr5=>by obtain⟨it,fp,tn,J,H',e,I',t,t0,hf,r⟩:=hPr5;exact⟨it,fp,tn,J,H',e,I'.unwish,t,t0,hf,r⟩) λ _ _ z=>z.elim) λ _ _ z=>z.elim
theorem aBm{X:Cx}{W:XW}(hX:XCtx T Z C CX tb X W){f:Nat}{es:E}{x:qw}(h:yZ T X.N f es X.env.scope x=true):PE X x (pM X.K W (iD CX f (av C es))):=by
 refine lP (P:=λ x=>PE X x _) h λ n p xs q h=>?_
 intro aA s σ H Q I t;obtain⟨F,L,S,env,res,S',R,E,e,r⟩:=id t;unfold iD at e;cases hc:CX f with
 | none=>rw[hc] at e;cases e
 | some v =>
   obtain⟨np,call⟩:=v;obtain⟨k,hr,hk⟩:=hX.cal;have h5:=aL (aL h);have h4:=aL h5;have h3:=aL h4;have h2:=aL h3;obtain⟨fa,fd,ps,m1,m2,m3,m4⟩:=hk f np call n hc (dT h2);cases xs with
   | nil=>exact no (aR h)
   | cons y ys =>
     have ha:PA X (y::ys) (dC X.K (av C es)):=PA.nox ((sn (T:=T) (C:=C) es).a X.nox hX.ctx _ (aR h5));have hp:=aR (aL h);obtain⟨p1,p2⟩:=cD hp;rw[hc] at e;exact aKn m4 hr (dM (aR h3)) m1 m2 m3 hX.fly ha (dU (aR h4)) (dX p1 _ _) (sW p2 _ _) aA s σ H Q I (aLW σ H Q ⟨F,L,S,env,res,S',R,E,e,r⟩)
theorem aGy{X:Cx}{W:XW}(hX:XCtx T Z C CX tb X W)(aA:List (qv×Obj)):∀ {hs:List (Str×Option Nat×List Hs)}{as:List ExceptHandler},aCn Z X.N X.env.scope hs as=true->HdsOk (eT X aA) (hs.map λ h=>⟨h.1,h.2.1,iY tb h.2.2⟩) as
 | [],as,h=>fB (P:=λ as=>HdsOk (eT X aA) [] as) h .nil
 | h::hs,[],e=>no e
 | h::hs,a::as,e=>by
   refine .cons ?_ (aGy hX aA (aR e));have e1:=aL e;cases a with
   | ExceptHandler t nm body pos =>
     have e2:=aL e1;have e3:=aL e2;have e4:=aL e3;have e5:=aL e4;have hnm:=aR e4;have hne:=aR e3;have hss:=aR e2;have hall:=aR e1;refine rB (P:=λ t=>zS (eT X aA) _ (.ExceptHandler t nm body pos)) (aR e5) λ t ht=>fD (P:=λ t=>zS (eT X aA) _ (.ExceptHandler (qq t) nm body pos)) ht λ d np hd=>?_
     obtain rfl:=dT (aL (aL hd));cases body with
     | nil=>exact no hne
     | cons b0 suite =>
       refine⟨rfl,dM (aR (aL hd)),dU (aR hd),hX.xo _ (by simpa using aL e5),?_,λ ev=>?_⟩
       ·cases nm with
        | none =>
          cases hsl:h.2.1 with
          | none=>dsimp only;rw[hsl];trivial
          | some i=>rw[hsl] at hnm;exact no hnm
        | some n =>
          cases hsl:h.2.1 with
          | none=>rw[hsl] at hnm;exact no hnm
          | some i=>rw[hsl] at hnm;dsimp only;rw[hsl];exact⟨dT (aL hnm),dT (aR hnm)⟩
       ·refine aGA (X:=pO (eT X aA) ev) hX.xt (hX.ctx.blt _ (by decide)) hX.ctx.nd hX.fn (λ a ha b hb d hd'=>hX.nms ?_) hss
        exact List.all_eq_true.mp (List.all_eq_true.mp (List.all_eq_true.mp hall a ha) b hb) d hd'
theorem aF8{X:Cx}{W:XW}(hX:XCtx T Z C CX tb X W){e:E}:∀ {cs:List Str}{xs:List qw},aCp T Z X.N e X.env.scope cs xs=true->PA X.nox xs (dC X.K (aCI (ev C e) cs))
 | [],xs,h=>fB (P:=λ xs=>PA X.nox xs _) h oP
 | c::cs,[],h=>no h
 | c::cs,x::xs,h=>by
   refine oH ?_ (aF8 hX (aR h)) (dX (aR (aL h)) _ _);refine lP (P:=λ x=>PE X.nox x _) (aL (aL h)) λ n np ys q h=>?_
   have h4:=aL h;have h3:=aL h4;have h2:=aL h3;obtain rfl:=dT (aR h2);obtain⟨C,fI,fd,n0,n1,c1,c2,c3,c4,c5,c6⟩:=hX.ri n (by simpa using aR h)
   exact gI (P:=λ ys=>PE X.nox (.Call (.Name n np) ys [] q) _) (aL h2) λ y hy=>aND (X:=X.nox) (dM (aR h3)) c2 c1 c3 hX.rm c4 c5 c6 (dU (aR h4)) ((sn e).e X.nox hX.ctx _ (aL hy)) (aR hy)
theorem aGC{X:Cx}{W:XW}(hX:XCtx T Z C CX tb X W){o:Nat}{it b:E}{x:qw}(h:aGZ T X.N o it b X.env.scope x=true):PE X.nox x (aI X.K (kN .Eq (gE (gW (.one o) (lv C it) pE (pD tb (eU o)))) (ev C b))):=by
 refine qZ (P:=λ x=>PE X.nox x _) h λ l op r p h h4=>?_
 obtain rfl:=dT (aL (aL h));refine aGH hX.ctx.units (rE ?_) ((sn b).e X.nox hX.ctx _ (aR h)) (nV h4 .Eq);refine aCU (P:=λ l=>PE X.nox l _) (aR (aL h)) λ e tg iter ifs scope p h1 h2 h3 h4 h5 h6 h7=>?_
 have sok:=aBB h1;refine aBP (X:=X.nox) (g:=pQ X.K (.one o)) hX.ctx.calm sok (λ i x a1 a2=>xW h2 i (gIm a1).1 x a1 a2) ((sn it).i X.nox hX.ctx tg iter h4) (λ Y hY=>?_) (qX X.K (.one o)) (λ Y hY=>?_) (λ Y hY=>?_) (sM h5 X.nox.env)
 ·obtain⟨c1,c2,c3,c4⟩:=hX.ctx.comp sok.kind hY;have z:=qY (X:=Y) (.inl rfl) c1.nd c1.calm (t:=.one o) (tg:=tg) (by rw[c2,c3];exact h3)
  rw[c4] at z;exact z
 ·cases ifs with
  | nil=>exact aA2
  | cons y r=>exact no (aR h6)
 ·obtain⟨aA,fp,Ca,s₀,H₀,rfl⟩:=hY;exact yO (X:=jG X.nox aA fp scope Ca s₀ H₀) (a:=.row o) hX.xt (hX.ctx.blt _ (by decide)) (λ _ z=>absurd z (by simp[Hx.nms])) h7
theorem aGf{X:Cx}{W:XW}(hX:XCtx T Z C CX tb X W){c d:Str}{x:qw}(h:aGO Z c d X.env.scope x=true):PE X.nox x (aI X.K (rM tb (aCx c) [d])):=by
 obtain⟨v,nv⟩:=hX.nms (aL h);refine zQ (P:=λ x=>PE X.nox x _) (aR h) λ p y z q hg hy py hz pz=>aF2 hX.xt nv (hX.ctx.blt _ (by decide)) (dM hg) ?_ py (aCd (X:=X.nox) nv hz) pz
 refine lP (P:=λ y=>PE X.nox y _) hy λ n np ys q h=>?_
 have h4:=aL h;have h3:=aL h4;have h2:=aL h3;obtain rfl:=dT (aR h2);obtain⟨C,c1,c2,c3,c4⟩:=hX.rc n (by simpa using aR h)
 exact fB (P:=λ ys=>PE X.nox (.Call (.Name n np) ys [] q) _) (aL h2) (aNI (X:=X.nox) (dM (aR h3)) c2 c1 c3 c4 (dU (aR h4)))
def SX(T:Tx)(Z:Xz)(C:Calls)(CX:fX)(tb:Str->Str->Option Bool)(c:Xx):Prop:=∀ X W,XCtx T Z C CX tb X W->∀ st,okX T Z X.N c X.env.scope st=true->PS X st (tX X.K W (xx C CX tb c))
def SXs(T:Tx)(Z:Xz)(C:Calls)(CX:fX)(tb:Str->Str->Option Bool)(c:Xx):Prop:=∀ X W,XCtx T Z C CX tb X W->∀ st,kO T Z X.N c X.env.scope st=true->bW X st (tX X.K W (xx C CX tb c))
theorem sx(c:Xx):SX T Z C CX tb c/\SXs T Z C CX tb c:=by
 have N2:∀ {c:Xx},SX T Z C CX tb c->(∀ N sc st,kO T Z N c sc st=false)->SX T Z C CX tb c/\SXs T Z C CX tb c:=λ q hh=>⟨q,λ X W hX st h=>by rw[hh] at h;exact no h⟩
 have asg:∀ {X:Cx}{W:XW},XCtx T Z C CX tb X W->∀ {j:Nat}{ts:List qw}{y:qw}{p:Pos}{f:jV},lV X.N X.env.scope j ts=true->fL y=true->PE X y (pM X.K W f)->PS X (.Assign ts y p) (tX X.K W (jB j f)):=λ {X W} hX {j ts y p f} g hy he =>
  gI (P:=λ ts=>PS X (.Assign ts y p) _) g λ _ g=>fD (P:=λ t=>PS X (.Assign [t] y p) _) g λ x q g=>aQN hX.ctx.nd (dT (aL g)) (qR (aR g)) he (mH hy _ _ _) (.inl (hX.fn _))
 induction c with
 | s a=>exact N2 (λ X W hX st h=>x_s ((ss a).1 X.nox hX.ctx hX.fn st h)) λ _ _ _=>rfl
 | skip=>exact⟨λ X W hX st h=>no h,λ X W hX st h=>fB (P:=λ st=>bW X st _) h aQZ⟩
 | seq a b aQ bL=>exact⟨λ X W hX st h=>no h,λ X W hX st h=>by
    cases st with
    | nil=>exact no h
    | cons s r=>exact aP3 (aQ.1 X W hX _ (aL h)) (bL.2 X W hX _ (aR h))⟩
 | ifs c a b aQ bL=>exact N2 (λ X W hX st h=>aHQ (P:=λ st=>PS X st _) h λ x y z p h=>aRA ((sn c).t X.nox hX.ctx _ (aL (aL h))).1 (aQ.2 X W hX _ (aR (aL h))) (bL.2 X W hX _ (aR h))) λ _ _ _=>rfl
 | loop t it b bL=>exact N2 (λ X W hX st h=>aHS (P:=λ st=>PS X st _) h λ tg x y z p h=>fB (P:=λ z=>PS X (.For tg x y z p) _) (aL (aL (aL (aL h))))
    (aQF hX.own hX.ctx.calm (PI.nox ((sn it).i X.nox hX.ctx _ _ (aR (aL (aL h))))) (qY (X:=X) (.inr hX.fn) hX.ctx.nd hX.ctx.calm (aR (aL (aL (aL h))))) (qX X.K t) (bL.2 X W hX _ (aR h)) (sM (aR (aL h)) X.env))) λ _ _ _=>rfl
 | raise c=>exact N2 (λ X W hX st h=>aHx (P:=λ st=>PS X st _) h λ e ca p h=>yU (P:=λ ca=>PS X (.Raise e ca p) _) (aL h) (rB (P:=λ e=>PS X (.Raise e qz p) _) (aR h) λ e h=>lP (P:=λ e=>PS X (.Raise (qq e) qz p) _) h λ n np xs q h=>by
    have h4:=aL h;have h3:=aL h4;have h2:=aL h3;obtain rfl:=dT (aR h2);obtain⟨C,c1,c2,c3,_⟩:=hX.rc n (by simpa using aR h)
    exact fB (P:=λ xs=>PS X (.Raise (qq (.Call (.Name n np) xs [] q)) qz p) _) (aL h2) (aKS hX.fly hX.ctx.calm (dM (aR h3)) c2 c1 c3 (dU (aR h4))))) λ _ _ _=>rfl
 | raise1 c e=>exact N2 (λ X W hX st h=>aHx (P:=λ st=>PS X st _) h λ x ca p h=>yU (P:=λ ca=>PS X (.Raise x ca p) _) (aL h) (rB (P:=λ x=>PS X (.Raise x qz p) _) (aR h) λ x h=>lP (P:=λ x=>PS X (.Raise (qq x) qz p) _) h λ n np xs q h=>by
    have h4:=aL h;have h3:=aL h4;have h2:=aL h3;obtain rfl:=dT (aR h2);obtain⟨C,fI,fd,n0,n1,c1,c2,c3,c4,c5,c6⟩:=hX.ri n (by simpa using aR h)
    exact gI (P:=λ xs=>PS X (.Raise (qq (.Call (.Name n np) xs [] q)) qz p) _) (aL h2) λ y hy=>aKA hX.fly hX.ctx.calm (dM (aR h3)) c2 c1 c3 hX.rm c4 c5 c6 (dU (aR h4)) (PE.nox ((sn e).e X.nox hX.ctx _ (aL hy))) (aR hy))) λ _ _ _=>rfl
 | cal f es=>exact N2 (λ X W hX st h=>aCO (P:=λ st=>PS X st _) h λ x p h=>aPp (aBm hX (aL h)) (mH (aR h) _ _ _)) λ _ _ _=>rfl
 | set i f es=>exact N2 (λ X W hX st h=>jS (P:=λ st=>PS X st _) h λ ts y p h=>asg hX (aR h) (aR (aL h)) (aBm hX (aL (aL h)))) λ _ _ _=>rfl
 | pair i k f es=>exact N2 (λ X W hX st h=>jS (P:=λ st=>PS X st _) h λ ts y p h=>asg hX (aR h) (aR (aL h)) (pL (P:=λ y=>PE X y _) (aL (aL h)) λ xs kk q h=>uA (P:=λ xs=>PE X (.Tuple xs kk q) _) h λ u v h=>jP (P:=λ u=>PE X (.Tuple [u,v] kk q) _) (aL (aL h)) λ j p1=>aNa (aBm hX (aR (aL h))) (aR h))) λ _ _ _=>rfl
 | mks j cs e=>exact N2 (λ X W hX st h=>x_s (jS (P:=λ st=>PS X.nox st _) h λ ts y p h=>gI (P:=λ ts=>PS X.nox (.Assign ts y p) _) (aR h) λ _ g=>fD (P:=λ t=>PS X.nox (.Assign [t] y p) _) g λ x q g=>xZ (X:=X.nox) hX.ctx.nd (dT (aL g)) (qR (aR g)) (rE (uZ (P:=λ y=>PE X.nox y _) (aL (aL h)) λ xs _ h=>uB (aF8 hX h))) (mH (aR (aL h)) _ _ _) (.inl (hX.fn _)))) λ _ _ _=>rfl
 | hnd o it b c d=>exact N2 (λ X W hX st h=>x_s (aHM (P:=λ st=>PS X.nox st _) h λ _ p h=>rB (P:=λ v=>PS X.nox (.Return v p) _) h λ x h=>aGW (tR (P:=λ x=>PE X.nox x _) h (λ l r p h=>PE.weak (xV (aGC hX (aL h)) (aBU (aGf hX (aR h)))) xT) λ l b c r p h=>PE.weak (xV (aGC hX (aL h)) (aGf hX (aR h))) xT))) λ _ _ _=>rfl
 | tri b hs bL=>exact N2 (λ X W hX st h=>aSc (P:=λ st=>PS X st _) h λ bd hds oe fb p h=>by
    have h4:=aL h;have h3:=aL h4;have h2:=aL h3;refine fB (P:=λ oe=>PS X (.Try bd hds oe fb p) _) (aL h2) (fB (P:=λ fb=>PS X (.Try bd hds [] fb p) _) (aR h2) ?_)
    have hh:=λ aA=>aGy hX aA (aR h)
    cases hds with
    | nil =>
      cases hs with
      | nil=>exact no (aR h3)
      | cons a b=>exact no (aR h)
    | cons h0 as=>exact aQG hX.xt.exm hX.ctx.nd hX.fn hX.dfb (λ aA W'=>bL.2 _ W' (hX.tri aA W') _ (aR h4)) hh) λ _ _ _=>rfl
end
end EV
namespace EV
open PySem L2 PySem.Spec PyProof.Rows PySem.W
structure FnX where
 name:Str
 np:Nat
 N:List Str
 body:Sx ⊕ Xx
 st:zy
 kp:Bool:=false
noncomputable def zB(fb:FS)(n:Nat)(ws:List EV.W)(S:aC):Option (EV.W×aC):=(fb (ws.map qq++yAh (n-ws.length) qz) S).bind λ p=>match p.1 with
 | .rt (.loc m)=>if m<S.length then qz else match p.2[m]? with
   | some (qq ds)=>qq (.loc S.length,p.2.take S.length++[qq ds])
   | _=>qz
 | _=>qz
theorem aLo{K:FrG}{fb:FS}{N:List Str}{np:Nat}{vs:List V}{H:Hp}{Q:VK}{E:XK}(h:iN K np (zB fb N.length) vs H Q E):cM K fb {nx:=λ _ H'=>Q .non H',rt:=Q } (L2.start N vs) H:=by
 obtain⟨F,L,S,ws,w,S',hn,R,dl,e,q⟩:=h;obtain⟨⟨fl,S1⟩,e1,e2⟩:=bind_some e;refine iB R (aAR dl) e1 λ F1 L1 H1 g1 R1=>?_
 cases fl with
 | nx aO=>cases e2
 | bk aO=>cases e2
 | ct aO=>cases e2
 | rt w' =>
   intro v d;cases w' with
   | d x=>cases e2
   | exc c r=>cases e2
   | loc m =>
     have e':(if m<S.length then qz else match S1[m]? with | some (qq ds)=>qq (EV.W.loc S.length,S1.take S.length++[qq ds]) | _=>qz)=qq (w,S'):=e2
     split at e'
     ·cases e'
     ·rename_i hm
      split at e'
      ·rename_i ds es;cases e';obtain⟨a,ea,rfl⟩:=d;obtain⟨sf,M,rfl⟩:=g1;have hl:=R.len;have hl1:=R1.len;have hS1:L.length<=S1.length:=by rw[<- hl1];simp
       have hnd:=List.nodup_append.mp R1.nd;have eM:M[m-L.length]? = qq a:=by
        rw[yAd (by omega)] at ea
        exact ea
       have eg:∀ n a',(L++[a])[n]? = qq a'->(n<L.length/\L[n]? = qq a')\/(n=L.length/\a'=a):=λ n a' z=>by
        by_cases c:n<L.length
        ·rw[xAj c] at z;exact .inl ⟨c,z⟩
        ·rw[yAd (by omega)] at z
         cases k:n-L.length with
         | zero=>rw[k] at z;simp at z;exact .inr ⟨by omega,z.symm⟩
         | succ j=>rw[k] at z;simp at z
       refine q F1 (L++[a]) H1 _ ⟨sf,[a],rfl⟩ ⟨R1.sub,?_,?_,λ n a' ds' z z'=>?_,λ n a' z=>?_⟩ ⟨a,?_,rfl⟩
       ·exact List.nodup_append.mpr ⟨hnd.1,by simp,λ x hx y hy=>by
         rw[List.mem_singleton.mp hy];exact hnd.2.2 x hx a (xAi eM)⟩
       ·simp only[yAr,yAy,yBf,yCt];omega
       ·rcases eg n a' z with ⟨c,z2⟩ | ⟨rfl,rfl⟩
        ·rw[xAj (by rw[yAy];omega),yDx (by omega)] at z'
         exact R1.loc n a' ds' (by rw[xAj c];exact z2) z'
        ·rw[yAd (by rw[yAy];omega)] at z'
         have:L.length-(S1.take S.length).length=0:=by rw[yAy];omega
         rw[this] at z';have z2:ds=ds':=by simpa using z'
         rw[<- z2];exact R1.loc m a' ds ea es
       ·rcases eg n a' z with ⟨c,z2⟩ | ⟨rfl,rfl⟩
        ·exact R1.tr n a' (by rw[xAj c];exact z2)
        ·exact R1.tr m a' ea
       ·rw[<- hl,yAd (yAe _),yCv];rfl
      ·cases e'
noncomputable def aHK(kp:Bool)(fb:FS)(n:Nat):List EV.W->aC->Option (EV.W×aC):=match kp with
 | false=>dB fb n
 | true=>zB fb n
theorem aLz{K:FrG}{kp:Bool}{fb:FS}{N:List Str}{np:Nat}{vs:List V}{H:Hp}{Q:VK}{E:XK}(h:iN K np (aHK kp fb N.length) vs H Q E):cM K fb {nx:=λ _ H'=>Q .non H',rt:=Q } (L2.start N vs) H:=by
 cases kp with
 | false=>exact aGE h
 | true=>exact aLo h
noncomputable def FnX.fn(G:FnX):Fn:={name:=G.name,np:=G.np,N:=G.N,body:=.skip,st:=G.st }
noncomputable def iI(C:Calls)(CX:fX)(tb:Str->Str->Option Bool)(G:FnX):List W->aC->Option (W×aC):=match G.body with
 | .inl b=>aHK G.kp (xs C b) G.N.length
 | .inr x=>mP (fG (xx C CX tb x) G.N.length)
section
variable (fs : List Fn)(gs : List FnX)(tb : Str -> Str -> Option Bool)
noncomputable def aPM(d:Nat)(C:Calls)(CX:fX):Calls:=λ f=>if f<fs.length then aF fs (d+1) f else (gs[f-fs.length]?).map λ G=>(G.np,iI C CX tb G)
noncomputable def aNW(C:Calls)(CX:fX):fX:=λ f=>if f<fs.length then qz else (gs[f-fs.length]?).bind λ G=>match G.body with
 | .inl _=>qz
 | .inr x=>qq (G.np,fG (xx C CX tb x) G.N.length)
noncomputable def aG:Nat->Calls×fX
 | 0=>(λ _=>qz,λ _=>qz)
 | d+1=>(aPM fs gs tb d (aG d).1 (aG d).2,aNW fs gs tb (aG d).1 (aG d).2)
noncomputable def kU(t:Tbs):Tx:=⟨(fs.map λ F=>(F.name,F.np))++gs.map λ G=>(G.name,G.np),t.tb,t.cn,t.st⟩
noncomputable def xY(t:Tbs)(Z:Xz)(G:FnX):Bool:=
 decide ((bP G.st).kind=.function) && !(bP G.st).isCoroutine && !(bP G.st).isGenerator&&xL G.N&&decide (G.np<=G.N.length)&&(G.N.take G.np).all (loc (bP G.st))&&(bP G.st).names.all (λ y=>!decide (y.2=.free)) &&
  (match G.body with
    | .inl b=>kP (kU fs gs t) G.N b (bP G.st) (eQ G.st)
    | .inr x=>kO (kU fs gs t) Z G.N x (bP G.st) (eQ G.st))
end
theorem aDX{fs:List Fn}{gs:List FnX}{t:Tbs}{Z:Xz}{G:FnX}(h:xY fs gs t Z G=true):FnScope G.N (G.N.take G.np) (bP G.st)/\(match G.body with
 | .inl b=>kP (kU fs gs t) G.N b (bP G.st) (eQ G.st)
 | .inr x=>kO (kU fs gs t) Z G.N x (bP G.st) (eQ G.st))=true/\(G.N.take G.np).length=G.np:=by
 obtain⟨h,h8⟩:=cD h;obtain⟨h,h7⟩:=cD h;obtain⟨h,h6⟩:=cD h;obtain⟨h,h5⟩:=cD h;obtain⟨h,h4⟩:=cD h;obtain⟨h,h3⟩:=cD h;obtain⟨h1,h2⟩:=cD h;have hl:(G.N.take G.np).length=G.np:=by
  rw[yAy];have:=oqT h5;omega
 refine⟨⟨oqT h1,uR h2,uR h3,aBa h4,by rw[hl],λ x hx=>tL (List.all_eq_true.mp h6 x hx),λ y hy=>?_⟩,h8,hl⟩
 have:=List.all_eq_true.mp h7 y hy;intro z;rw[dqT z] at this;exact no this
structure XK0(K:FrG)(mg:Str->Option qx)(Z:Xz)(tb:Str->Str->Option Bool):Prop where
 xt:XT K mg tb
 xo:∀ d∈Z.xo,∃ C,nsIn K qy d=qq (qq (.ref C))/\mg d=qq (.ref C)
 xb:∀ d∈Z.xb,∃ n,mg d=qz/\zu d=qq (.type n)/\d ≠ "__name__"
 rc:∀ c∈Z.rc,∃ C,nsIn K qy c=qq (qq (.ref C))/\mg c=qq (.ref C)/\excIn K C jW "ValueError.__new__" = true/\keepIn K (.ref C)=true
 ri:∀ z∈Z.ri,∃ C fI fd,nsIn K qy z.1=qq (qq (.ref C))/\mg z.1=qq (.ref C)/\XiOk K C fI/\Fun K "__init__" z.2.1 z.2.2 fI fd/\aCh z.2.2 "self" "row" = true/\eA K fd ["self", "row"] []/\∃ oI,K.lookup fI=qq oI/\oI.cls=.type "function"
section
variable {P : zq}{w : zx}{K : FrG}{mg : Str -> Option qx}{base : Heap}{fs : List Fn}{gs : List FnX}{tb : Str -> Str -> Option Bool}{t : Tbs}{Z : Xz}
theorem aEu{f:Nat}{x:Str}(h:((kU fs gs t).fn[f]?).map (·.1)=qq x):(∃ F,f<fs.length/\fs[f]? = qq F/\F.name=x)\/(∃ G,¬ f<fs.length/\gs[f-fs.length]? = qq G/\G.name=x):=by
 unfold kU at h;dsimp only at h
 by_cases hf:f<fs.length
 ·rw[xAj (by simpa using hf),xAb] at h
  cases q:fs[f]? with
  | none=>rw[q] at h;cases h
  | some F=>rw[q] at h;exact .inl ⟨F,hf,rfl,Option.some.inj h⟩
 ·rw[yAd (by simpa using hf),xAb,yAb] at h
  cases q:gs[f-fs.length]? with
  | none=>rw[q] at h;cases h
  | some G=>rw[q] at h;exact .inr ⟨G,hf,rfl,Option.some.inj h⟩
theorem aEJ(hk:∀ F∈fs,vD fs t F=true)(gk:∀ G∈gs,xY fs gs t Z G=true)(top:∀ F∈fs,∃ fa fd,Fun K F.name F.name F.st fa fd/\mg F.name=qq (.ref fa)/\eA K fd (F.N.take F.np) [])(topX:∀ G∈gs,∃ fa fd,Fun K G.name G.name G.st fa fd/\mg G.name=qq (.ref fa)/\eA K fd (G.N.take G.np) [])
 (hb:∀ x∈bltNames,mg x=qz) (ht:∀ x aK,(x,aK)∈t.tb->∃ a,mg x=qq (.ref a)/\mV K w a aK) (hcn:∀ x ts,(x,ts)∈t.cn->∃ a,mg x=qq (.ref a)/\oS K a ts) (dL:∀ x y,(x,y)∈t.st->∃ k,mg x=qq (.str y k)) (X0:XK0 K mg Z tb) :
 ∀ d,(∀ f np call x,(aG fs gs tb d).1 f=qq (np,call)->((kU fs gs t).fn[f]?).map (·.1)=qq x->∃ fa fd ps,mg x=qq (.ref fa)/\keepIn K (.ref fa)=true/\eA K fd ps []/\FnOk P w K mg base fV (d+2) fa fd ps (iN K np call)) /\
  (∀ f np call x,(aG fs gs tb d).2 f=qq (np,call)->((kU fs gs t).fn[f]?).map (·.1)=qq x->∃ fa fd ps,mg x=qq (.ref fa)/\keepIn K (.ref fa)=true/\eA K fd ps []/\FnOk P w K mg base (jE P w) (d+2) fa fd ps (pN K np call)) /\
  (∀ g G np call fa fd,gs[g]? = qq G->(aG fs gs tb d).1 (fs.length+g)=qq (np,call)->Fun K G.name G.name G.st fa fd->FnOk P w K mg base fV (d+2) fa fd (G.N.take G.np) (iN K np call))
 | 0=>⟨λ f np call x e=>(by cases e),λ f np call x e=>(by cases e),λ g G np call fa fd _ e=>(by cases e)⟩
 | d+1=>by
   obtain⟨ih1,ih2,_⟩:=aEJ hk gk top topX hb ht hcn dL X0 d;have raising:∀ (G:FnX) (x:Xx),G∈gs->G.body=.inr x->∀ fa fd,Fun K G.name G.name G.st fa fd->FnOk P w K mg base (jE P w) (d+1+2) fa fd (G.N.take G.np) (pN K G.np (fG (xx (aG fs gs tb d).1 (aG fs gs tb d).2 tb x) G.N.length)):=λ G x hG hbd fa fd Fu=>by
    obtain⟨sc,hok,hl⟩:=aDX (gk G hG);rw[hbd] at hok;refine Fun.okX Fu sc (λ vs H Q E h=>?_) λ X A vs H Q E e1 e2 e3 e4 e5 e6 e7 e8 e9 D hr h=>?_
    ·obtain⟨F1,L,S,ws,w1,S',hn,R,dl,_⟩:=h;rw[hl,<- hn];exact dl.length.symm
    ·subst e1 e2 e3 e4 e5;refine⟨_,(sx (T:=kU fs gs t) (Z:=Z) (C:=(aG fs gs tb d).1) (CX:=(aG fs gs tb d).2) (tb:=tb) x).2 (X.wish (jR X λ _=>E)) (λ _=>E) ?_ _ (by show kO _ _ X.N x X.env.scope _=true;rw[e6,e7];exact hok),aMb h⟩
     have hri:∀ c∈Z.ri.map (·.1),∃ C fI fd n0 n1,nsIn X.K qy c=qq (qq (.ref C))/\X.mg c=qq (.ref C)/\XiOk X.K C fI/\FnOk X.prog X.w X.K X.mg X.base fV 1 fI fd [n0,n1] (rS C)/\eA X.K fd [n0,n1] []/\∃ oI,X.K.lookup fI=qq oI/\oI.cls=.type "function":=λ c hc=>by
      obtain⟨z,hz,rfl⟩:=List.mem_map.mp hc;obtain⟨C,fI,fd,r1,r2,r3,r4,r5,r6,r7⟩:=X0.ri z hz;exact⟨C,fI,fd, "self", "row",r1,r2,r3,aNA r4 r5 r3,r6,r7⟩
     exact {ctx:=⟨by show X.N.Nodup;rw[e6];exact sc.nd,e8,rfl,by show X.env.scope.kind=_;rw[e7];exact sc.kind,⟨d+2,hr,ih1⟩,hb,ht,hcn,dL⟩,fly:=λ _ _ z=>z.unwish,own:=aFN (X:=X) D,dfb:=D.wish _,fn:=e9,xt:=X0.xt,cal:=⟨d+2,hr,ih2⟩,xo:=X0.xo,xb:=X0.xb,rc:=X0.rc,rm:=hr.mono (by omega),ri:=hri }
   have each:∀ G∈gs,∀ fa fd,Fun K G.name G.name G.st fa fd->FnOk P w K mg base fV (d+1+2) fa fd (G.N.take G.np) (iN K G.np (iI (aG fs gs tb d).1 (aG fs gs tb d).2 tb G)):=λ G hGm fa fd Fu=>by
    unfold iI;cases hbd:G.body with
    | inr x=>exact aKt (raising G x hGm hbd fa fd Fu)
    | inl b =>
      dsimp only;obtain⟨sc,hok,hl⟩:=aDX (gk G hGm);rw[hbd] at hok;refine Fu.ok sc (λ vs H Q E h=>?_) λ cdv A outer s H vs Q E hr h=>?_
      ·obtain⟨F1,L,S,ws,w1,S',hn,R,dl,_⟩:=h;rw[hl,<- hn];exact dl.length.symm
      ·exact⟨_,(ss (T:=kU fs gs t) (C:=(aG fs gs tb d).1) b).2 _ ⟨sc.nd,rfl,rfl,sc.kind,⟨d+2,hr,λ f' np' call' x' e1 e2=>ih1 f' np' call' x' e1 e2⟩,hb,λ x aK hx=>ht x aK hx,λ x ts hx=>hcn x ts hx,λ x y hx=>dL x y hx⟩ (λ _=>rfl) _ hok,aLz h⟩
   refine⟨λ f np call x e q=>?_,λ f np call x e q=>?_,λ g G np call fa fd hG e Fu=>?_⟩
   ·rcases aEu q with ⟨F,hf,hF,rfl⟩ | ⟨G,hf,hG,rfl⟩
    ·have e':aF fs (d+1) f=qq (np,call):=by
      have:(aG fs gs tb (d+1)).1 f=aF fs (d+1) f:=if_pos hf;rw[<- this];exact e
     obtain⟨fa,fd,Fu,hm,hbi⟩:=top F (xAi hF);exact⟨fa,fd,_,hm,Fu.kp,hbi,(aFt fs t hk top hb ht hcn dL (d+1) f F np call fa fd hF e' Fu).mono (Nat.le_add_right _ _)⟩
    ·have e':(gs[f-fs.length]?).map (λ G=>(G.np,iI (aG fs gs tb d).1 (aG fs gs tb d).2 tb G))=qq (np,call):=by
      have:(aG fs gs tb (d+1)).1 f=(gs[f-fs.length]?).map λ G=>(G.np,iI (aG fs gs tb d).1 (aG fs gs tb d).2 tb G):=if_neg hf
      rw[<- this];exact e
     rw[hG] at e';cases e';have hGm:G∈gs:=xAi hG;obtain⟨fa,fd,Fu,hm,hbi⟩:=topX G hGm;exact⟨fa,fd,_,hm,Fu.kp,hbi,each G hGm fa fd Fu⟩
   ·rcases aEu q with ⟨F,hf,hF,rfl⟩ | ⟨G,hf,hG,rfl⟩
    ·have e':(qz:Option (Nat×(List EV.W->aC->Option (ResX×aC))))=qq (np,call):=by
      have:(aG fs gs tb (d+1)).2 f=qz:=if_pos hf;rw[<- this];exact e
     cases e'
    ·have e':((gs[f-fs.length]?).bind λ G=>match G.body with | .inl _=>qz | .inr x=>qq (G.np,fG (xx (aG fs gs tb d).1 (aG fs gs tb d).2 tb x) G.N.length))=qq (np,call):=by
      have:(aG fs gs tb (d+1)).2 f=(gs[f-fs.length]?).bind λ G=>match G.body with | .inl _=>qz | .inr x=>qq (G.np,fG (xx (aG fs gs tb d).1 (aG fs gs tb d).2 tb x) G.N.length):=if_neg hf
      rw[<- this];exact e
     rw[hG] at e';have hGm:G∈gs:=xAi hG;obtain⟨fa,fd,Fu,hm,hbi⟩:=topX G hGm;cases hbd:G.body with
     | inl b=>rw[yBo,hbd] at e';cases e'
     | inr x =>
       rw[yBo,hbd] at e';cases e';exact⟨fa,fd,_,hm,Fu.kp,hbi,raising G x hGm hbd fa fd Fu⟩
   ·have e':(gs[g]?).map (λ G=>(G.np,iI (aG fs gs tb d).1 (aG fs gs tb d).2 tb G))=qq (np,call):=by
     have:(aG fs gs tb (d+1)).1 (fs.length+g)=(gs[fs.length+g-fs.length]?).map λ G=>(G.np,iI (aG fs gs tb d).1 (aG fs gs tb d).2 tb G):=if_neg (by omega)
     rw[yCy] at this;rw[<- this];exact e
    rw[hG] at e';cases e';exact each G (xAi hG) fa fd Fu
end
noncomputable def pA(l:List (Str×Str×Bool))(c d:Str):Option Bool:=(l.find? λ e=>e.1==c&&e.2.1==d).map (·.2.2)
structure EntTop(K:FrG)(e:Str×Str×Bool):Prop where
 ex:∃ C,nsIn K qy e.1=qq (qq (.ref C))/\XcOk K C/\((∃ C',nsIn K qy e.2.1=qq (qq (.ref C'))/\exmOne K (.ref C) (.ref C')=qq e.2.2/\kitOne K (.ref C) (.ref C')=qq e.2.2) \/
  ∃ n,nsIn K qy e.2.1=qq qz/\zu e.2.1=qq (.type n)/\e.2.1 ≠ "__name__" /\ kitOne K (.ref C) (.type n)=qq e.2.2)
theorem aB0{l:List (Str×Str×Bool)}{c d:Str}{b:Bool}(h:pA l c d=qq b):(c,d,b)∈l:=by
 unfold pA at h;obtain⟨e,h1,h2⟩:=Option.map_eq_some_iff.mp h;have h3:=List.find?_some h1;have h4:=List.mem_of_find?_eq_some h1;obtain⟨c',d',b'⟩:=e;obtain⟨q1,q2⟩:=cD h3;have q1:c'=c:=by simpa using q1
 have q2:d'=d:=by simpa using q2
 have h2:b'=b:=h2;subst q1 q2 h2;exact h4
theorem aQV{K:FrG}{mg:Str->Option qx}{l:List (Str×Str×Bool)}(hm:∀ x v,nsIn K qy x=qq (qq v)->mg x=qq v)(hn:∀ x,nsIn K qy x=qq qz->mg x=qz)(h:∀ e∈l,EntTop K e):XT K mg (pA l) where
 exm:=λ c d b C C' hb hc hd=>by
  obtain⟨C1,h1,_,h3⟩:=(h _ (aB0 hb)).ex;have h1:nsIn K qy c=qq (qq (.ref C1)):=h1;rw[hc] at h1;cases h1;rcases h3 with ⟨C2,q1,q2,_⟩ | ⟨n,q1,_⟩
  ·have q1:nsIn K qy d=qq (qq (.ref C2)):=q1;rw[hd] at q1;cases q1;exact q2
  ·have q1:nsIn K qy d=qq qz:=q1;rw[hd] at q1;cases q1
 cls:=λ c d b C hb hc=>by
  obtain⟨C1,h1,h2,_⟩:=(h _ (aB0 hb)).ex;have h1:nsIn K qy c=qq (qq (.ref C1)):=h1;rw[hc] at h1;cases h1;exact h2
 nm:=λ c d b hb=>by
  obtain⟨C1,h1,_,h3⟩:=(h _ (aB0 hb)).ex;have h1:nsIn K qy c=qq (qq (.ref C1)):=h1;rcases h3 with ⟨C2,q1,_,q3⟩ | ⟨n,q1,q2,q3,q4⟩
  ·exact⟨.ref C2,.inl ⟨C2,rfl,q1,hm _ _ q1⟩,λ C hc=>by rw[hc] at h1;cases h1;exact q3⟩
  ·exact⟨.ty n,.inr ⟨n,rfl,hn _ q1,q2,q3⟩,λ C hc=>by rw[hc] at h1;cases h1;exact q4⟩
structure RcTop(K:FrG)(c:Str):Prop where
 ex:∃ C,nsIn K qy c=qq (qq (.ref C))/\excIn K C jW "ValueError.__new__" = true/\keepIn K (.ref C)=true
structure RiTop(K:FrG)(z:Str×Str×zy):Prop where
 ex:∃ (C fI:qv) (oc:qx) (od an:Option qv) (sl:Array (Option qx)) (kV dc pm cd ct:qx),nsIn K qy z.1=qq (qq (.ref C))/\XiOk K C fI/\K.lookup fI=qq ⟨oc,od,.func (fnOf "__init__" z.2.1 (iA z.2.2) (eQ z.2.2) (bP z.2.2) .none kV dc pm an cd ct),sl⟩ /\
  codeIn K cd z.2.1=true/\keepIn K (.ref fI)=true
noncomputable def aCq(st:zy):Bool:=match iA st with
 | ⟨[],as,qz,[],_,qz,_⟩=>decide ((["self", "row"]:List Str)=as.map (·.arg))
 | _=>false
theorem aKb{x bN:Str}{st:zy}(h:aCq st=true)(kV doc pm:qx)(an:Option qv)(cdv ct:qx)(us:List qx)(hu:us.length=(["self", "row"]:List Str).length):bindArgs (fnOf x bN (iA st) (eQ st) (bP st) .none kV doc pm an cdv ct) ⟨us,[]⟩=pure ((["self", "row"]:List Str).zip us):=by
 unfold aCq at h
 split at h
 ·rename_i as kd df e;have h1:=oqT h;rw[e];rw[h1] at hu ⊢;obtain⟨i1,i2⟩:=aA5 (ns:=as.map (·.arg)) (us:=us) (by rw[<- h1];decide) hu
  have m:((as.map (·.arg)).take (as.map (·.arg)).length).filter (λ n=>(((as.map (·.arg)).zip us).lookup n).isNone)=[]:=by
   rw[yAf,List.filter_eq_nil_iff];intro n hn;rw[i1 n hn];decide
  unfold bindArgs;have q:seqItems? Value.none=(pure qz:Sem (Option (Array qx))):=rfl;simp only[yCa,q,pure_bind,yCh,yCs,yAv,List.forIn_nil,yEw,yCt,List.drop_nil,List.zip_nil_right,yFy,hu,gt_iff_lt,yBi,decide_false,yBn,yAz,if_false,m,List.isEmpty_nil,Bool.not_true,i2,Option.isNone_none]
 ·exact no h
structure XoTop(K:FrG)(c:Str):Prop where
 ex:∃ C,nsIn K qy c=qq (qq (.ref C))
structure XbTop(K:FrG)(d:Str):Prop where
 ex:∃ n,nsIn K qy d=qq qz/\zu d=qq (.type n)/\d ≠ "__name__"
theorem law_ofX{l:yFw}{q:zq}{loose:List Str}{XP:(Str->Option qx)->Heap->Prop}{YP:zx->Heap->Prop}{d:DefRec}{K:Params->FrG}(fs:List Fn)(gs:List FnX)(tb:Tbs)(Z:Xz)(xl:List (Str×Str×Bool))(f D:Nat)(L:FnX)(x:Str)
 (hn:l.most=qq 63) (hdf:d.params.defaults=[]) (hr:Room (D+2) callerA) (hY:∀ (w:zx) (h:Heap),YP w h->(K w.params).In h)
 (hk:∀ F∈fs,vD fs tb F=true) (gk:∀ G∈gs,xY fs gs tb Z G=true) (hb:∀ F∈fs,qI F) (gb:∀ G∈gs,qI G.fn) (hL:gs[f]? = qq L) (hname:L.name=d.name) (hps:L.N.take L.np=[x])
 (top:∀ w:zx,∀ h:Heap,(K w.params).In h->∀ F∈fs,TopFn (K w.params) F) (topX:∀ w:zx,∀ h:Heap,(K w.params).In h->∀ G∈gs,TopFn (K w.params) G.fn) (tbl:∀ w:zx,∀ h:Heap,(K w.params).In h->∀ t∈tb.tb,TabTop (K w.params) w t) (cnl:∀ w:zx,∀ h:Heap,(K w.params).In h->∀ t∈tb.cn,ConTop (K w.params) t) (stl:∀ w:zx,∀ h:Heap,(K w.params).In h->∀ t∈tb.st,StTop (K w.params) t) (tbn:∀ w:zx,∀ h:Heap,(K w.params).In h->∀ x∈bltNames,yCc (K w.params) qy x=qq qz)
 (rit:∀ w:zx,∀ h:Heap,(K w.params).In h->∀ z∈Z.ri,RiTop (K w.params) z) (rik:∀ z∈Z.ri,aCh z.2.2 "self" "row" = true/\aCq z.2.2=true) (ent:∀ w:zx,∀ h:Heap,(K w.params).In h->∀ e∈xl,EntTop (K w.params) e) (rct:∀ w:zx,∀ h:Heap,(K w.params).In h->∀ c∈Z.rc,RcTop (K w.params) c) (xot:∀ w:zx,∀ h:Heap,(K w.params).In h->∀ c∈Z.xo,XoTop (K w.params) c) (xbt:∀ w:zx,∀ h:Heap,(K w.params).In h->∀ c∈Z.xb,XbTop (K w.params) c)
 (main:∀ ns:List Int,ns.length<=63->(∀ i∈ns,yAk i<=1048576)->∃ call S',(aG fs gs (pA xl) D).1 (fs.length+f)=qq (1,call)/\call [.d (.list (ns.map yAp))] []=qq (.d (.bool true),S')) :
 PySem.W.WalkO q loose XP YP l.row.toRowW d [] (λ f vs=>PySem.call f vs):=by
 obtain⟨call,S0,hcall,_⟩:=main [] (by simp) (by simp)
 refine aLY hn hdf λ w s₀ s₁ mg mb fa a vs ns G Y hmg hobj hints cE hsm hg=>?_
 have KX:=hY w _ Y;have tops:∀ F:Fn,qI F->TopFn (K w.params) F->∃ fa fd,Fun (K w.params) F.name F.name F.st fa fd/\mg F.name=qq (.ref fa)/\eA (K w.params) fd (F.N.take F.np) []:=λ F hF hT=>by
  obtain⟨f,oc,od,an,sl,kV,dc,pm,cd,ct,a,l,c,k⟩:=hT.ex;have Fu:=aGz (st:=F.st) l c k;exact⟨f,_,Fu,yFr KX G.T.g a,Fu.binds hF⟩
 have hmv:∀ x v,nsIn (K w.params) qy x=qq (qq v)->mg x=qq v:=λ x v e=>yFr KX G.T.g e
 have hmn:∀ x,nsIn (K w.params) qy x=qq qz->mg x=qz:=λ x e=>PySem.W.mg_none_of KX G.T.g e
 have hblt:∀ x∈bltNames,mg x=qz:=λ y hy=>hmn y (tbn w _ KX y hy)
 have htab:∀ x aK,(x,aK)∈tb.tb->∃ a,mg x=qq (.ref a)/\mV (K w.params) w a aK:=λ x aK hx=>by
  obtain⟨a,es,ep,a1,s1,l1,c1⟩:=(tbl w _ KX (x,aK) hx).ex;exact⟨a,yFr KX G.T.g a1,s1,es,ep,l1,c1⟩
 have hcon:∀ x ts,(x,ts)∈tb.cn->∃ a,mg x=qq (.ref a)/\oS (K w.params) a ts:=λ x ts hx=>by
  obtain⟨a,a1,c1⟩:=(cnl w _ KX (x,ts) hx).ex;exact⟨a,yFr KX G.T.g a1,c1⟩
 have dL:∀ x y,(x,y)∈tb.st->∃ t,mg x=qq (.str y t):=λ x y hx=>by
  obtain⟨k,a1⟩:=(stl w _ KX (x,y) hx).ex;exact⟨k,hmv _ _ a1⟩
 have X0:XK0 (K w.params) mg Z (pA xl):=⟨aQV hmv hmn (ent w _ KX),λ d hd=>by
  obtain⟨C,h⟩:=(xot w _ KX d hd).ex;exact⟨C,h,hmv _ _ h⟩,λ d hd=>by
  obtain⟨n,h1,h2,h3⟩:=(xbt w _ KX d hd).ex;exact⟨n,hmn _ h1,h2,h3⟩,λ c hc=>by
  obtain⟨C,h1,h2⟩:=(rct w _ KX c hc).ex;exact⟨C,h1,hmv _ _ h1,h2⟩,λ z hz=>by
  obtain⟨C,fI,oc,od,an,sl,kV,dc,pm,cd,ct,a1,a2,a3,a4,a5⟩:=(rit w _ KX z hz).ex;have Fu:Fun (K w.params) "__init__" z.2.1 z.2.2 fI _:=aGz (st:=z.2.2) a3 a4 a5;refine⟨C,fI,_,a1,hmv _ _ a1,a2,Fu,(rik z hz).1,Fu.binds λ kV doc pm an cdv ct us hu=>aKb (rik z hz).2 kV doc pm an cdv ct us hu,_,a3,?_⟩
  have q:=a2.fn;unfold isFn at q;have q:=beq_iff_eq.mp q;unfold typeIn at q;simp only[a3] at q;exact Option.some.inj q⟩
 have hLm:L∈gs:=xAi hL;obtain⟨fa1,fd,Fu,hmg1,hbi⟩:=tops L.fn (gb L hLm) (topX w _ KX L hLm);have hmg1:mg L.name=qq (.ref fa1):=hmg1;rw[<- hname,hmg1] at hmg;cases hmg;refine L2.law_call (fd:=fd) (sp:=iN (K w.params) 1 call) (CX:=fV) (x:=x) KX G.T.g G.T.b G.T.builtins G.T.nolimit hg hobj hints (xAg cE (by decide)) hr (λ base kb nb=>?_) (λ s u=>?_) (λ H hO hS=>?_) λ _ _ _ z=>z
 ·have P1:=(aEJ (P:=l.prog) (w:=w) (base:=base) (Z:=Z) hk gk (λ F hF=>tops F (hb F hF) (top w _ KX F hF)) (λ G hG=>tops G.fn (gb G hG) (topX w _ KX G hG)) hblt htab hcon dL X0 D).2.2 f L 1 call _ _ hL hcall Fu
  rw[hps] at P1;exact P1
 ·obtain⟨oc,od,kV,doc,pm,an,cdv,ct,osl,rfl,lk,hcd⟩:=Fu.ex;have:=gb L hLm kV doc pm an cdv ct [u] (by show [u].length=(L.N.take L.np).length;rw[hps];rfl)
  have e:L.fn.N.take L.fn.np=[x]:=hps;rw[e] at this;exact .of_eq this
 ·obtain⟨call',S',hcall',hrun⟩:=main ns cE hsm;rw[hcall] at hcall';cases hcall';refine⟨H,[],[],[.d (.list (ns.map yAp))],.d (.bool true),S',rfl,⟨bY.refl _,List.nodup_nil,rfl,λ n a ds e=>by simp at e,λ n a e=>by simp at e⟩,.cons (Den.lst hS (DenL.of_ints ns)) .nil,hrun,λ F' L' H' v g R d=>?_⟩
  cases (show Den (K w.params) F' (.bool true) v from d)
  rfl
end EV
namespace EV
open PySem L2
theorem aFD{α:Type}(S:List α)(a b:α):(S++[a]).set S.length b=S++[b]:=by simp
theorem aBk{α:Type}{t:Tg}{fc:FT}{fe:FE}{env:aV}{S:aC}(enc g:α->D)(p:α->Bool):∀ (l:List α) (aH:List D),aH.length+l.length<=qk ->
 (∀ a∈l,∃ e1,t.put (enc a) env=qq e1/\(∀ S',fc e1 S'=qq (p a,S'))/\(p a=true->∀ S',fe e1 S'=qq (.d (g a),S'))) ->
 jO t fc fe S.length env (l.map enc) (S++[qq aH])=qq (S++[qq (aH++(l.filter p).map g)])
 | [],aH,_,_=>by simp[jO]
 | a::l,aH,hz,h=>by
   obtain⟨e1,h1,h2,h3⟩:=h a xAd;have hlt:aH.length<qk:=by simp at hz;omega
   have bT:=λ x (hx:x∈l)=>h x (xAf _ hx)
   simp only[yAi,jO,h1,yBo,h2];cases hp:p a with
   | false =>
     simp only[yAz,if_false];rw[aBk enc g p l aH (by simp at hz;omega) bT]
     simp[yDa,hp]
   | true =>
     have ea:fS (S++[qq aH]) (.loc S.length) (.d (g a))=qq (.d .none,S++[qq (aH++[g a])]):=by
      unfold fS;simp only[yAd (yAe S.length),yCv,yBq];rw[if_pos hlt,aFD]
     simp only[if_true,h3 hp,yBo,ea];rw[aBk enc g p l (aH++[g a]) (by simp at hz ⊢;omega) bT]
     simp[yDa,hp]
theorem aET{α:Type}{t:Tg}{fi:FL}{fc:FT}{fe:FE}{env:aV}{S S1:aC}(enc g:α->D)(p:α->Bool)(l:List α)(hi:fi env S=qq (l.map enc,S1))(hz:l.length<=qk)
 (h:∀ a∈l,∃ e1,t.put (enc a) (clr t.slots env)=qq e1/\(∀ S',fc e1 S'=qq (p a,S'))/\(p a=true->∀ S',fe e1 S'=qq (.d (g a),S'))):gW t fi fc fe env S=qq ((l.filter p).map g,S1):=by
 unfold gW;rw[hi];simp only[yBo];rw[aBk enc g p l [] (by simpa using hz) h]
 simp
theorem aA8{α:Type}{t:Tg}{fc:FT}{fe:FE}{env:aV}{S:aC}(enc g:α->D)(p:α->Bool):∀ (l:List α) (aH:List D),aH.length+l.length<=qk ->
 (∀ a∈l,∃ e1,t.put (enc a) env=qq e1/\(∀ aH,fc e1 (S++[qq aH])=qq (p a,S++[qq aH]))/\(p a=true->∀ aH,fe e1 (S++[qq aH])=qq (.d (g a),S++[qq aH]))) ->
 jO t fc fe S.length env (l.map enc) (S++[qq aH])=qq (S++[qq (aH++(l.filter p).map g)])
 | [],aH,_,_=>by simp[jO]
 | a::l,aH,hz,h=>by
   obtain⟨e1,h1,h2,h3⟩:=h a xAd;have hlt:aH.length<qk:=by simp at hz;omega
   have bT:=λ x (hx:x∈l)=>h x (xAf _ hx)
   simp only[yAi,jO,h1,yBo,h2];cases hp:p a with
   | false =>
     simp only[yAz,if_false];rw[aA8 enc g p l aH (by simp at hz;omega) bT]
     simp[yDa,hp]
   | true =>
     have ea:fS (S++[qq aH]) (.loc S.length) (.d (g a))=qq (.d .none,S++[qq (aH++[g a])]):=by
      unfold fS;simp only[yAd (yAe S.length),yCv,yBq];rw[if_pos hlt,aFD]
     simp only[if_true,h3 hp,yBo,ea];rw[aA8 enc g p l (aH++[g a]) (by simp at hz ⊢;omega) bT]
     simp[yDa,hp]
theorem wX{α:Type}{t:Tg}{fi:FL}{fc:FT}{fe:FE}{env:aV}{S S1:aC}(enc g:α->D)(p:α->Bool)(l:List α)(hi:fi env S=qq (l.map enc,S1))(hz:l.length<=qk)
 (h:∀ a∈l,∃ e1,t.put (enc a) (clr t.slots env)=qq e1/\(∀ aH,fc e1 (S1++[qq aH])=qq (p a,S1++[qq aH]))/\(p a=true->∀ aH,fe e1 (S1++[qq aH])=qq (.d (g a),S1++[qq aH]))):gW t fi fc fe env S=qq ((l.filter p).map g,S1):=by
 unfold gW;rw[hi];simp only[yBo];rw[aA8 enc g p l [] (by simpa using hz) h]
 simp
theorem fW{α:Type}{t:Tg}{fi:FL}{fe:FE}{env:aV}{S S1:aC}(enc g:α->D)(l:List α)(hi:fi env S=qq (l.map enc,S1))(hz:l.length<=qk)
 (h:∀ a∈l,∃ e1,t.put (enc a) (clr t.slots env)=qq e1/\∀ S',fe e1 S'=qq (.d (g a),S')):gW t fi pE fe env S=qq (l.map g,S1):=by
 rw[aET (fc:=pE) enc g (λ _=>true) l hi hz λ a ha=>let ⟨e1,h1,h2⟩:=h a ha;⟨e1,h1,λ _=>rfl,λ _=>h2⟩]
 rw[List.filter_eq_self.mpr (λ _ _=>rfl)]
theorem aKK(n:Nat):∀ lo:Int,kW lo n=(yAw n).map λ k=>yAp (lo+(k:Nat)):=by
 induction n with
 | zero=>intro lo;rfl
 | succ n ih =>
   intro lo;rw[kW,ih,List.range_succ_eq_map,yAi,yAx];congr 1
   ·simp
   ·apply yFf;intro k _;simp only[Function.comp];congr 1
    push_cast
    omega
theorem aEd:∀ (ds:List D) (k:Int),iE k ds=(ds.zipIdx).map λ p=>yBb [.int (k+(p.2:Nat)),p.1]
 | [],_=>rfl
 | d::r,k=>by
   rw[iE,aEd r (k+1),List.zipIdx_cons,yAi];congr 1
   ·simp
   ·rw[List.zipIdx_succ,yAx];apply yFf;intro p _;simp only[Function.comp];congr 3
    push_cast
    omega
end EV
namespace BM
theorem xA(n:Nat):0<2^n:=Nat.two_pow_pos n
noncomputable def bl(n:Nat):Nat:=if n=0 then 0 else n.log2+1
noncomputable def aRo(l:List Bool):Nat:=(l.takeWhile id).length
noncomputable def hi(l:List Bool):Nat:=l.length-aRo (l.reverse.map (!·))
end BM
namespace BM
end BM
namespace BM
open PySem
theorem aJb(a:Nat):((a:Int)).natAbs=a:=by omega
theorem aIT(a:Nat):yAk a=if a=0 then 0 else a.log2+1:=by
 unfold yAk
 by_cases h:a=0
 ·subst h;rfl
 ·rw[if_neg h,if_neg (by simp;omega),aJb]
theorem aJs{a n:Nat}(h:a<2^n):yAk a<=n:=by
 rw[aIT]
 split
 ·exact yFe _
 ·rename_i h0;exact(Nat.log2_lt h0).mpr h
theorem aEU(n:Nat):((2^n:Nat):Int)=(2:Int)^n:=by simp
theorem aRB{x y:Int}(h:y.natAbs.log2<9000):yCf x y=false:=by
 unfold yCf;dsimp only;have:¬ ((if (y==0)=true then 0 else y.natAbs.log2/30+1)>300):=by
  split
  ·omega
  ·omega
 rw[dqF this];rfl
end BM
namespace EV
open PySem L2 BM
theorem cY(i j:Int):bK .Add (.int i) (.int j)=qq (.int (i+j)):=rfl
theorem dW(i j:Int):bK .Sub (.int i) (.int j)=qq (.int (i-j)):=rfl
theorem iP{w:Nat}(h1:w<=100000):bK .LShift (.int 1) (.int w)=qq (.int ((2^w:Nat):Int)):=by
 have c:(0:Int)<=w/\(yAk 1:Int)+w<=2^27:=⟨by omega,by(have:(yAk 1:Int)=1:=(by decide);omega)⟩
 simp only[bK,tT];rw[if_pos c,Int.one_mul,yBp,aEU]
theorem aL8{n a k:Nat}(h:n<2^a)(h2:a+k<=100000):bK .LShift (.int n) (.int k)=qq (.int ((n*2^k:Nat):Int)):=by
 have c:(0:Int)<=(k:Nat)/\((yAk (n:Int):Nat):Int)+(k:Nat)<=2^27:=by
  have:=aJs h;exact⟨by omega,by omega⟩
 simp only[bK,tT];rw[if_pos c,yBp,<- aEU];congr 2
theorem fJ{i j:Int}(h:0<j):bK .Mod (.int i) (.int j)=qq (.int (i%j)):=by
 simp only[bK,tT];rw[if_pos (by omega),Int.fmod_eq_emod_of_nonneg _ (by omega)]
theorem mM{i j:Int}(h:0<j)(h2:j<2^64):bK .FloorDiv (.int i) (.int j)=qq (.int (i/j)):=by
 simp only[bK,tT];have h3:j.natAbs.log2<9000:=Nat.lt_trans ((Nat.log2_lt (by omega)).mpr (show j.natAbs<2^64 by omega)) (by decide)
 rw[if_pos ⟨by omega,aRB h3⟩,Int.fdiv_eq_ediv_of_nonneg _ (by omega)]
theorem aIW{i j:Int}(h1 : -(2^64)<j)(h2:j<2^64):mT i j=true:=by
 unfold mT;have:=intBits_le_64 h1 h2;have h:¬ (yAk j>wu):=Nat.not_lt.mpr this;rw[dqF h];simp
theorem aID{i j:Int}(h1 : -(2^64)<i)(h2:i<2^64):mT i j=true:=by
 unfold mT;have:=intBits_le_64 h1 h2;have h:¬ (yAk i>wu):=Nat.not_lt.mpr this;rw[dqF h];simp
theorem qH{i j:Int}(h1 : -(2^64)<j)(h2:j<2^64):bK .Mult (.int i) (.int j)=qq (.int (i*j)):=by
 show(if mT i j=true then qq (yAp (i*j)) else qz)=_
 rw[if_pos (aIW h1 h2)]
theorem pZ{i j:Int}(h1 : -(2^64)<i)(h2:i<2^64):bK .Mult (.int i) (.int j)=qq (.int (i*j)):=by
 show(if mT i j=true then qq (yAp (i*j)) else qz)=_
 rw[if_pos (aID h1 h2)]
theorem kG{xs ys:List D}(h:xs.length+ys.length<=1000000):bK .Add (.list xs) (.list ys)=qq (.list (xs++ys)):=by
 show(if xs.length+ys.length<=qk then qq (yBg (xs++ys)) else qz)=_
 rw[if_pos (by rw[qo];omega)]
theorem aMs{i:Int}{k:Nat}(h:k<=1000000)(h2:i.natAbs<2^64):bK .Pow (.int i) (.int k)=qq (.int (i^k)):=by
 have c:0<=((k:Nat):Int)/\((k:Nat):Int)<=1000000/\i.natAbs<2^64:=⟨by omega,by omega,h2⟩
 simp only[bK,tT];rw[if_pos c,yBp]
theorem cG(i j:Int):bA .Eq (.int i) (.int j)=qq (.bool (i==j)):=rfl
theorem qT(i j:Int):bA .NotEq (.int i) (.int j)=qq (.bool (!(i==j))):=rfl
theorem dE(i j:Int):bA .Lt (.int i) (.int j)=qq (.bool (decide (i<j))):=rfl
theorem lJ(i j:Int):bA .LtE (.int i) (.int j)=qq (.bool (decide (i<=j))):=rfl
theorem gG(i j:Int):bA .Gt (.int i) (.int j)=qq (.bool (decide (j<i))):=rfl
theorem lH(i j:Int):bA .GtE (.int i) (.int j)=qq (.bool (decide (j<=i))):=rfl
end EV
namespace EV
open PySem L2 BM
theorem oB{α β:Type}(a:α)(f:α->Option β):(qq a).bind f=f a:=of_eq_true (eq_self (f a))
theorem oM{α β:Type}(a:α)(f:α->β):(qq a).map f=qq (f a):=of_eq_true (eq_self (qq (f a)))
noncomputable def cl(fs:List Fn)(d f:Nat)(ws:List W)(S:aC):Option (W×aC):=match aF fs d f with
 | some (np,call)=>if ws.length=np then call ws S else qz
 | none=>qz
theorem aJD(fs:List Fn)(d f:Nat)(fa:FA)(env:aV)(S:aC):iS (aF fs d) f fa env S=(fa env S).bind λ p=>cl fs d f p.1 p.2:=by
 unfold iS cl tZ;cases aF fs d f with
 | none=>cases fa env S<;>rfl
 | some q=>rfl
theorem dJ{fs:List Fn}{f:Nat}{F:Fn}(h:fs[f]? = qq F)(d:Nat)(ws:List W)(S:aC)(hw:ws.length=F.np):cl fs (d+1) f ws S=dB (xs (aF fs d) F.body) F.N.length ws S:=by
 have e:aF fs (d+1) f=qq (F.np,dB (xs (aF fs d) F.body) F.N.length):=by
  show(fs[f]?).map _=_;rw[h];rfl
 unfold cl;rw[e];exact if_pos hw
theorem szT{n:Nat}(h:n<=1000):(n<=qk)=True:=by
 rw[qo];exact eq_true (by omega)
end EV
namespace EV
open PySem L2 BM
theorem aAZ(w:Nat):((2^w:Nat):Int)-1=((2^w-1:Nat):Int):=by
 have:=xA w;omega
theorem mG{fa:FE}{env:aV}{S S1:aC}{w:Nat}(h:fa env S=qq (.d (.int w),S1))(hw:w<=1000000):uL fa env S=qq ((yAw w).map (λ k=>yAp (k:Nat)),S1):=by
 have c : -(2^62)<=((w:Nat):Int)/\((w:Nat):Int)<2^62:=⟨by omega,by omega⟩
 unfold uL;rw[h,oB];simp only[];rw[if_pos c,aKK,yBp];congr 2;apply yFf;intro k _;rw[Int.zero_add]
theorem aDB{fa:FE}{env:aV}{S S1:aC}{ds:List D}(h:fa env S=qq (.d (.list ds),S1)):tU fa env S=qq (ds.zipIdx.map (λ p=>yBb [.int (p.2:Nat),p.1]),S1):=by
 simp only[tU,h,oB];rw[aEd];simp
theorem eR{xs:List D}{k:Nat}{x:D}(h:xs[k]? = qq x):bC (.list xs) (.int k)=qq x:=by
 have hl:k<xs.length:=(gIm h).1;show(gF xs.length ((k:Nat):Int)).bind (λ j=>xs[j]?)=qq x
 unfold gF;rw[if_pos (by omega),if_pos (by omega),oB,yBp]
 exact h
theorem qG{xs:List D}{k:Nat}{x:D}(h:xs[k]? = qq x):bC (.tuple xs) (.int k)=qq x:=eR (xs:=xs) h
theorem qK(xs:List D)(k:Nat):cK xs qz (qq (k:Nat))=xs.take k:=by
 unfold cK;rw[HT.sIx_none,HT.sIx_nat,yDb,yFy];rcases Nat.le_total k xs.length with h | h
 ·rw[yFg h]
 ·rw[yFv h,yAf,yBu h]
theorem cH{xs:List D}:cU [.list xs]=qq (.int xs.length):=rfl
theorem cZ{xs:List D}:cU [.tuple xs]=qq (.int xs.length):=rfl
theorem qU{xs:List D}:oN [.list xs]=qq (.tuple xs):=rfl
theorem qL{xs:List D}:oN [.tuple xs]=qq (.tuple xs):=rfl
theorem qN{i:Int}:vN [.int i]=qq (.int i):=rfl
theorem qS{k:Bool}:vN [.bool k]=qq (.int (if k then 1 else 0)):=rfl
theorem aNn{α:Type}(a:α):List.take 1 [a]=[a]:=rfl
theorem aOn{α:Type}(a b:α):List.take 1 [a,b]=[a]:=rfl
theorem aO6{α:Type}(a b:α):List.take 2 [a,b]=[a,b]:=rfl
end EV
namespace EV
open PySem L2 PySem.Spec PyProof.Rows PySem.W
theorem aHN{K:FrG}{D:qv}(a2:findIn K (.ref D) "__getattribute__" = qq (qq (.builtin "BaseException.__getattribute__")))(a3:findIn K (.ref D) "__getattr__" = qq qz)(a4:mroIn K D (.type "BaseException")=qq true)(a5:mroIn K D (.type "object")=qq true)(a6:hasDictIn K D=true)
 (a7:findIn K (.ref D) "__class__" = qq (qq (.builtin "object.__class__"))) (a8:specialIn K (.builtin "object.__class__") "__get__" = qq (qq (.builtin "getset_descriptor.__get__"))) (a9:takesIn K (.builtin "object.__class__")=qq true) (a0:findIn K (.ref D) "row" = qq qz):XcOk K D:=⟨a2,a3,a4,a5,a6,a0,a7,a8,a9⟩
theorem ent_own{K:FrG}{c d:Str}{b:Bool}{C C':qv}(a1:nsIn K qy c=qq (qq (.ref C)))(a2:findIn K (.ref C) "__getattribute__" = qq (qq (.builtin "BaseException.__getattribute__")))(a3:findIn K (.ref C) "__getattr__" = qq qz)(a4:mroIn K C (.type "BaseException")=qq true)(a5:mroIn K C (.type "object")=qq true)(a6:hasDictIn K C=true)
 (a7:findIn K (.ref C) "__class__" = qq (qq (.builtin "object.__class__"))) (a8:specialIn K (.builtin "object.__class__") "__get__" = qq (qq (.builtin "getset_descriptor.__get__"))) (a9:takesIn K (.builtin "object.__class__")=qq true) (a0:findIn K (.ref C) "row" = qq qz) (b1:nsIn K qy d=qq (qq (.ref C'))) (b2:exmOne K (.ref C) (.ref C')=qq b) (b3:kitOne K (.ref C) (.ref C')=qq b):EntTop K (c,d,b):=
 ⟨C,a1,aHN a2 a3 a4 a5 a6 a7 a8 a9 a0,.inl ⟨C',b1,b2,b3⟩⟩
theorem ent_blt{K:FrG}{c d:Str}{b:Bool}{C:qv}{n:String}(a1:nsIn K qy c=qq (qq (.ref C)))(a2:findIn K (.ref C) "__getattribute__" = qq (qq (.builtin "BaseException.__getattribute__")))(a3:findIn K (.ref C) "__getattr__" = qq qz)(a4:mroIn K C (.type "BaseException")=qq true)(a5:mroIn K C (.type "object")=qq true)(a6:hasDictIn K C=true)
 (a7:findIn K (.ref C) "__class__" = qq (qq (.builtin "object.__class__"))) (a8:specialIn K (.builtin "object.__class__") "__get__" = qq (qq (.builtin "getset_descriptor.__get__"))) (a9:takesIn K (.builtin "object.__class__")=qq true) (a0:findIn K (.ref C) "row" = qq qz) (b1:nsIn K qy d=qq qz) (b2:zu d=qq (.type n)) (hn:d ≠ "__name__") (b3:kitOne K (.ref C) (.type n)=qq b):EntTop K (c,d,b):=
 ⟨C,a1,aHN a2 a3 a4 a5 a6 a7 a8 a9 a0,.inr ⟨n,b1,b2,hn,b3⟩⟩
theorem topX_mk{K:FrG}{name:Str}{np:Nat}{N:List Str}{body:Sx ⊕ Xx}{st:zy}{kp:Bool}{f:qv}{oc:qx}{od an:Option qv}{sl:Array (Option qx)}{kV dc pm cd ct:qx}(a:yCc K qy name=qq (qq (.ref f)))
 (l:K.lookup f=qq ⟨oc,od,.func (yCa name name (iA st) (eQ st) (bP st) .none kV dc pm an cd ct),sl⟩) (c:yDu K cd name=true) (k:yBw K (.ref f)=true):TopFn K (FnX.fn ⟨name,np,N,body,st,kp⟩):=
 ⟨f,oc,od,an,sl,kV,dc,pm,cd,ct,a,l,c,k⟩
theorem ri_mk{K:FrG}{c bN:Str}{st:zy}{C fI:qv}{oc:qx}{od an:Option qv}{sl:Array (Option qx)}{kV dc pm cd ct:qx}(a1:nsIn K qy c=qq (qq (.ref C)))(a3:findIn K (.ref C) "__init__" = qq (qq (.ref fI)))(a2:exI K C [.type "ValueError",.type "Exception",.type "BaseException",.type "object"] "ValueError.__new__" = true)(a4:findIn K (.ref C) "__setattr__" = qq (qq (.builtin "object.__setattr__")))(a5:findIn K (.ref C) "row" = qq qz)
 (a6:keepIn K (.ref C)=true) (a7:isFn K (.ref fI)=true) (a8:K.lookup fI=qq ⟨oc,od,.func (fnOf "__init__" bN (iA st) (eQ st) (bP st) .none kV dc pm an cd ct),sl⟩) (a9:codeIn K cd bN=true) (b1:keepIn K (.ref fI)=true):RiTop K (c,bN,st):=
 ⟨C,fI,oc,od,an,sl,kV,dc,pm,cd,ct,a1,⟨a2,a3,a4,a5,a6,a7⟩,a8,a9,b1⟩
theorem xo_mk{K:FrG}{c:Str}{C:qv}(a1:nsIn K qy c=qq (qq (.ref C))):XoTop K c:=⟨C,a1⟩
section
variable {fs : List Fn}{gs : List FnX}{tb : Str -> Str -> Option Bool}
noncomputable def bZ(fs:List Fn)(gs:List FnX)(tb:Str->Str->Option Bool)(d f:Nat)(ws:List EV.W)(S:aC):Option (EV.W×aC):=match (aG fs gs tb d).1 f with
 | some (np,call)=>if ws.length=np then call ws S else qz
 | none=>qz
theorem cS(d f:Nat)(fa:FA)(env:aV)(S:aC):iS (aG fs gs tb d).1 f fa env S=(fa env S).bind λ p=>bZ fs gs tb d f p.1 p.2:=by
 unfold iS bZ tZ;cases (aG fs gs tb d).1 f with
 | none=>cases fa env S<;>rfl
 | some q=>rfl
theorem fK(d f:Nat)(ws:List EV.W)(S:aC)(h:f<fs.length):bZ fs gs tb (d+1) f ws S=cl fs (d+1) f ws S:=by
 have:(aG fs gs tb (d+1)).1 f=aF fs (d+1) f:=if_pos h;unfold bZ cl;rw[this]<;>cases aF fs (d+1) f<;>rfl
theorem tO{g:Nat}{G:FnX}(hG:gs[g]? = qq G)(d:Nat)(ws:List EV.W)(S:aC)(h:ws.length=G.np):bZ fs gs tb (d+1) (fs.length+g) ws S=iI (aG fs gs tb d).1 (aG fs gs tb d).2 tb G ws S:=by
 have:(aG fs gs tb (d+1)).1 (fs.length+g)=(gs[fs.length+g-fs.length]?).map λ G=>(G.np,iI (aG fs gs tb d).1 (aG fs gs tb d).2 tb G):=if_neg (by omega)
 rw[yCy,hG] at this;unfold bZ;rw[this];exact if_pos h
noncomputable def dI(fs:List Fn)(gs:List FnX)(tb:Str->Str->Option Bool)(d f:Nat)(ws:List EV.W)(S:aC):Option (ResX×aC):=match (aG fs gs tb d).2 f with
 | some (np,call)=>if ws.length=np then call ws S else qz
 | none=>qz
theorem pW(d f:Nat)(fa:FA)(env:aV)(S:aC):iD (aG fs gs tb d).2 f fa env S=(fa env S).bind λ p=>dI fs gs tb d f p.1 p.2:=by
 unfold iD dI aB7;cases (aG fs gs tb d).2 f with
 | none=>cases fa env S<;>rfl
 | some q=>rfl
theorem oJ{g:Nat}{G:FnX}{x:Xx}(hG:gs[g]? = qq G)(hx:G.body=.inr x)(d:Nat)(ws:List EV.W)(S:aC)(h:ws.length=G.np):dI fs gs tb (d+1) (fs.length+g) ws S=fG (xx (aG fs gs tb d).1 (aG fs gs tb d).2 tb x) G.N.length ws S:=by
 have:(aG fs gs tb (d+1)).2 (fs.length+g)=(gs[fs.length+g-fs.length]?).bind λ G=>match G.body with | .inl _=>qz | .inr x=>qq (G.np,fG (xx (aG fs gs tb d).1 (aG fs gs tb d).2 tb x) G.N.length):=if_neg (by omega)
 rw[yCy,hG,yBo,hx] at this;unfold dI;rw[this];exact if_pos h
theorem aKR{g d:Nat}{G:FnX}{w r:EV.W}{S:aC}(h:gs[g]? = qq G)(hn:G.np=1)(e:bZ fs gs tb (d+1) (fs.length+g) [w] []=qq (r,S)):∃ call S',(aG fs gs tb (d+1)).1 (fs.length+g)=qq (1,call)/\call [w] []=qq (r,S'):=by
 refine⟨iI (aG fs gs tb d).1 (aG fs gs tb d).2 tb G,S,?_,?_⟩
 ·have:(aG fs gs tb (d+1)).1 (fs.length+g)=(gs[fs.length+g-fs.length]?).map λ G=>(G.np,iI (aG fs gs tb d).1 (aG fs gs tb d).2 tb G):=if_neg (by omega)
  rw[yCy,h] at this;rw[this,<- hn];rfl
 ·rw[<- tO h d [w] [] (by rw[hn];rfl)]
  exact e
end
end EV
namespace EV
open PySem L2 BM
section
variable {C : Calls}{env : aV}{S S1 S2 S3 S4 : aC}{a b c e es r : E}
variable {s t u : Sx}{aO : aV}{R : Option (Fl×aC)}{w : W}
end
end EV
namespace K25
open PySem L2 EV BM
local macro_rules
 | `(tactic| omega)=>`(tactic| first | (with_reducible assumption) | (with_reducible exact yAe _) | (with_reducible exact Nat.le_add_right _ _) | (with_reducible exact xAg ‹_› (by decide)) | (with_reducible exact xAc ‹_› (by decide)) | (with_reducible exact yEf ‹_› (by decide)) | (with_reducible exact yEo ‹_›) | (with_reducible exact xAg (yEo ‹_›) (by decide)) | (with_reducible exact xAg (Nat.add_le_add_right ‹_› _) (by decide)) | (with_reducible exact Nat.add_le_add_left (by decide) _) | (with_reducible exact yEx ‹_›) | (with_reducible exact Nat.lt_of_not_le ‹_›) | (with_reducible exact Nat.not_lt_of_le ‹_›) | (with_reducible exact Nat.not_le_of_lt ‹_›) | (with_reducible exact xAc ‹_› ‹_›) | (with_reducible exact xAg ‹_› ‹_›) | (with_reducible exact xAg ‹_› (Nat.add_le_add_left (by decide) _)) | (with_reducible exact xAg ‹_› (xAg (Nat.add_le_add_right ‹_› _) (by decide))) | omega (config:={}))
 | `(tactic| simp only[evs])=>`(tactic| simp only[evs,True])
 | `(tactic| simp only[evs,$ls,*])=>`(tactic| simp only[aNm,aMZ,aQU,aPe,aNd,aO8,aQt,aPs,aOb,aPP,aOG,aPg,aOk,aQM,aPz,aPC,aOz,aB9,aL3,aM5,aNL,aPf,aQy,aNz,aN9,aN1,aPr,aRb,aLE,aOw,aNO,aLk,aOT,aNo,aNe,aPl,aNF,aQQ,aOV,aPv,aPG,aO0,aPY,aMN,aNi,aNw,aOs,aP0,aQ5,aN6,aLx,aQv,aMP,aNr,aPA,aMv,yB,nZ,qO,aFv,oK,aMq,aF4,tK,oC,xB,aL6,aGq,aMV,dA,dO,mU,nO,nF,aQJ,uD,oZ,kR,fUn,kN,cQ,f2,f1,gN,eC,dr,drs,fC,eU,kT,aJD,cJ,gD,vB,jT,gE,rR,rZ,zM,fOr,zO,uM,zI,yL,pG,vC,B.g,aQk,aRf,aPQ,aQK,aQd,uS,Tg.put,mQ,Tg.slots,yAi,yCh,yBf,yCt,Nat.reduceAdd,Nat.reduceSub,yEs,yBd,List.replicate_zero,List.cons_append,yCs,yBq,yCx,yBc,yBh,oB,oM,yAf,Bool.not_false,Bool.not_true,yAz,if_true,if_false,reduceIte,Nat.reduceLeDiff,Nat.reduceEqDiff,szT,List.take_nil,List.take_zero,lM,aRV,aCN,aNn,aOn,aO6,$ls,*])
noncomputable def top(i:Nat):zy:=PySem.Challenge.pw_fewbits_k25_whole_what_is_read.main.body.getD i (.Pass ⟨0,0,0,0⟩)
noncomputable def kA:List (Str×Tv):=[("in",.int 0),("num",.int 0),("not",.int 1),("and",.int 2),("or",.int 2),("xor",.int 2),("add",.int 2),("sub",.int 2),("mul",.int 2),("left",.int 1),("right",.int 1),("slide",.int 1),("cut",.int 1),("wide",.int 1),("sign",.int 1),("same",.int 2),("less",.int 2),("under",.int 2),("pick",.int 3)]
noncomputable def pY:List Tv:=[.str "left",.str "right",.str "slide"]
noncomputable def aAQ:List Tv:=[.str "same",.str "less",.str "under"]
noncomputable def aAH:List Tv:=[.str "wide",.str "sign"]
noncomputable def tbs:Tbs:=⟨[("OPERAND_COUNTS",kA)],[("SHIFTS",pY),("COMPARES",aAQ),("WIDENINGS",aAH)],[("FIGURES", "0123456789")]⟩
abbrev J0:E:=.int 0
abbrev J1:E:=.int 1
abbrev J2:E:=.int 2
abbrev J3:E:=.int 3
abbrev J4:E:=.int 4
abbrev J5:E:=.int 5
abbrev J7:E:=.int 7
abbrev J8:E:=.int 8
abbrev J9:E:=.int 9
abbrev V0:E:=.var 0
abbrev V1:E:=.var 1
abbrev V2:E:=.var 2
abbrev V3:E:=.var 3
abbrev V4:E:=.var 4
abbrev V5:E:=.var 5
abbrev V6:E:=.var 6
abbrev V7:E:=.var 7
abbrev V8:E:=.var 8
abbrev V9:E:=.var 9
noncomputable def aHf:Sx:=(.seq (.ret (.bin .Sub (.bin .LShift J1 V0) J1))
 .skip)
noncomputable def aKl:Sx:=(.seq (.ret (.intb "OPERAND_COUNTS" kA V0))
 .skip)
noncomputable def aDp:Sx:=(.seq (.set 1 (.ite (.or (.cmp .Eq V0 (.str "num")) (.cmp .In V0 (.con "SHIFTS" pY))) J1 J0))
 (.seq (.ret (.bin .Add (.bin .Add J1 (.tab "OPERAND_COUNTS" kA V0)) V1))
 .skip))
noncomputable def aJI:Sx:=(.seq (.ret (.sl V0 (.cons J2 .nil) (.cons (.bin .Add J2 (.tab "OPERAND_COUNTS" kA (.ix V0 J0))) .nil)))
 .skip)
noncomputable def aDl:E:=(.comp (.ix V1 V2) (.one 2) (.it (.call 3 (.cons V0 .nil))) .no)
noncomputable def aIM:Sx:=(.seq (.ret (.blt .tup (.cons (.fz aDl) .nil)))
 .skip)
noncomputable def aDn:E:=(.comp (.cmp .Eq V4 V3) (.one 4) (.it V1) .no)
noncomputable def aIQ:Sx:=(.seq (.set 2 (.ix V0 J0))
 (.seq (.set 3 (.ix V0 J1))
 (.seq (.ifs (.cmp .In V2 (.con "COMPARES" aAQ)) (.seq (.ret (.and (.cmp .Eq V3 J1) (.cmp .Eq (.ix V1 J0) (.ix V1 J1))))
 .skip) .skip)
 (.seq (.ifs (.cmp .Eq V2 (.str "pick")) (.seq (.ret (.cmp .Eq V1 (.tup (.cons J1 (.cons V3 (.cons V3 .nil))))))
 .skip) .skip)
 (.seq (.ifs (.cmp .Eq V2 (.str "cut")) (.seq (.ret (.cmp .GtE (.ix V1 J0) V3))
 .skip) .skip)
 (.seq (.ifs (.cmp .In V2 (.con "WIDENINGS" aAH)) (.seq (.ret (.cmp .LtE (.ix V1 J0) V3))
 .skip) .skip)
 (.seq (.ret (.blt .all (.cons (.fz aDn) .nil)))
 .skip)))))))
noncomputable def aIK:Sx:=(.seq (.ifs (.cmp .Eq (.ix V0 J0) (.str "num")) (.seq (.ret (.cmp .LtE (.ix V0 J2) (.call 0 (.cons (.ix V0 J1) .nil))))
 .skip) .skip)
 (.seq (.ifs (.cmp .In (.ix V0 J0) (.con "SHIFTS" pY)) (.seq (.ret (.cmp .LtE (.ix V0 J3) (.int 63)))
 .skip) .skip)
 (.seq (.ret (.bl true))
 .skip)))
noncomputable def aAB:E:=(.comp (.ins false V1 (.gst "FIGURES" "0123456789")) (.one 1) (.its V0) .no)
noncomputable def aI6:Sx:=(.seq (.ifs (.or (.cmp .Lt (.blt .len (.cons V0 .nil)) J1) (.cmp .Gt (.blt .len (.cons V0 .nil)) (.int 20))) (.seq (.ret (.bl false))
 .skip) .skip)
 (.seq (.ifs (.and (.cmp .Eq (.ix V0 J0) (.str "0")) (.cmp .NotEq V0 (.str "0"))) (.seq (.ret (.bl false))
 .skip) .skip)
 (.seq (.ret (.blt .all (.cons (.fz aAB) .nil)))
 .skip)))
noncomputable def aAx:E:=(.comp (.call 7 (.cons V1 .nil)) (.one 1) (.it V0) .no)
noncomputable def aII:Sx:=(.seq (.ret (.blt .all (.cons (.fz aAx) .nil)))
 .skip)
noncomputable def aDm:E:=(.comp (.itx V1) (.one 1) (.it V0) .no)
noncomputable def aIO:Sx:=(.seq (.ret (.blt .tup (.cons (.fz aDm) .nil)))
 .skip)
noncomputable def aMX:Sx:=(.seq (.set 1 (.fz (.spl V0 (.str " "))))
 (.seq (.set 2 (.ix V1 J0))
 (.seq (.ifs (.or (.not (.call 1 (.cons V2 .nil))) (.or (.cmp .NotEq (.blt .len (.cons V1 .nil)) (.bin .Add J1 (.call 2 (.cons V2 .nil)))) (.not (.call 8 (.cons (.sl V1 (.cons J1 .nil) .no) .nil))))) (.seq (.ret .non)
 .skip) .skip)
 (.seq (.ret (.bin .Add (.tup (.cons V2 .nil)) (.call 9 (.cons (.sl V1 (.cons J1 .nil) .no) .nil))))
 .skip))))
noncomputable def aKv:Sx:=(.seq (.set 1 (.fz (.spl V0 (.str " "))))
 (.seq (.ifs (.or (.cmp .NotEq (.ix V1 J0) (.str "out")) (.or (.cmp .Lt (.blt .len (.cons V1 .nil)) J2) (.or (.cmp .Gt (.blt .len (.cons V1 .nil)) J9) (.not (.call 8 (.cons (.sl V1 (.cons J1 .nil) .no) .nil)))))) (.seq (.ret .non)
 .skip) .skip)
 (.seq (.ret (.call 9 (.cons (.sl V1 (.cons J1 .nil) .no) .nil)))
 .skip)))
noncomputable def aDE:E:=(.comp (.st1 V1) (.one 1) (.it V0) .no)
noncomputable def aKu:Sx:=(.seq (.ret (.jn (.str " ") (.fz aDE)))
 .skip)
noncomputable def aD5:E:=(.comp (.call 12 (.cons V4 .nil)) (.one 4) (.it V2) .no)
noncomputable def aBS:Sx:=(.seq (.setT (.many [2,3]) V0)
 (.seq (.setC true 1 aD5)
 (.seq (.expr (.app V1 (.call 12 (.cons (.bin .Add (.tup (.cons (.str "out") .nil)) V3) .nil))))
 (.seq (.ret (.jn (.str "\n") V1))
 .skip))))
noncomputable def hJ:Sx:=(.seq (.setT (.many [3,4]) (.sl V0 .no (.cons J2 .nil)))
 (.seq (.put V0 J1 (.bin .Add V4 J1))
 (.seq (.ifs (.and (.cmp .Lt (.bin .Add (.bin .FloorDiv V4 (.int 12)) J1) (.blt .len (.cons V3 .nil))) (.cmp .Eq (.bin .Mod (.ix V3 J0) J2) J1)) (.seq (.ifs (.cmp .Eq (.bin .Mod V4 (.int 12)) J0) (.seq (.put V0 J2 (.ix V3 (.bin .Add (.bin .FloorDiv V4 (.int 12)) J1)))
 .skip) .skip)
 (.seq (.set 5 (.bin .Mod (.ix V0 J2) V1))
 (.seq (.put V0 J2 (.bin .FloorDiv (.ix V0 J2) V1))
 (.seq (.ret V5)
 .skip)))) .skip)
 (.seq (.ifs (.cmp .Lt V4 (.blt .len (.cons V3 .nil))) (.seq (.ret (.bin .Mod (.ix V3 V4) V1))
 .skip) .skip)
 (.seq (.set 2 (.bin .Add (.bin .Mult V4 (.int 7919)) J5))
 (.seq (.ifs (.cmp .Gt (.blt .len (.cons (.ix V0 J0) .nil)) J0) (.seq (.set 2 (.bin .Add V2 (.bin .Mult (.ix (.ix V0 J0) (.bin .Mod (.bin .Mult V4 J7) (.blt .len (.cons (.ix V0 J0) .nil)))) (.bin .Add (.int 48271) V4))))
 .skip) .skip)
 (.seq (.set 2 (.bin .Mod (.bin .Mult (.bin .Mod V2 (.int 2147483629)) (.bin .Add V4 J3)) (.int 2147483629)))
 (.seq (.set 2 (.bin .Mod (.bin .Mult V2 V2) (.int 2147483587)))
 (.seq (.ret (.bin .Mod (.bin .Mod (.bin .Mult V2 V2) (.int 1999999973)) V1))
 .skip)))))))))
noncomputable def aAD:Sx:=(.seq (.ifs (.cmp .Lt V1 (.int 31)) (.seq (.ret (.call 14 (.cons V0 (.cons (.bin .LShift J1 V1) .nil))))
 .skip) .skip)
 (.seq (.ret (.bin .Add (.call 14 (.cons V0 (.cons (.bin .LShift J1 (.int 30)) .nil))) (.bin .LShift (.call 14 (.cons V0 (.cons (.bin .LShift J1 (.bin .Sub V1 (.int 30))) .nil))) (.int 30))))
 .skip))
noncomputable def aDv:Sx:=(.seq (.ret (.ix (.fz (.lst (.cons J1 (.cons (.int 64) (.cons (.bin .Add J1 (.call 14 (.cons V0 (.cons J8 .nil)))) (.cons (.bin .Add J1 (.call 14 (.cons V0 (.cons (.int 64) .nil)))) .nil)))))) (.call 14 (.cons V0 (.cons J4 .nil)))))
 .skip)
noncomputable def aAU:Sx:=(.seq (.set 2 (.call 14 (.cons V0 (.cons J5 .nil))))
 (.seq (.set 3 (.fz (.lst (.cons J0 (.cons (.bin .Sub (.bin .LShift J1 V1) J1) (.cons (.bin .LShift J1 (.call 14 (.cons V0 (.cons V1 .nil)))) (.cons (.bin .Sub (.bin .LShift J1 (.call 14 (.cons V0 (.cons V1 .nil)))) J1) .nil)))))))
 (.seq (.ifs (.cmp .Lt V2 J4) (.seq (.ret (.ix V3 V2))
 .skip) .skip)
 (.seq (.ret (.call 15 (.cons V0 (.cons V1 .nil))))
 .skip))))
noncomputable def sN:Sx:=(.seq (.ifs (.cmp .Eq (.ix (.ix V1 V2) J1) V3) (.seq (.ret V2)
 .skip) .skip)
 (.seq (.set 4 (.ix (.fz (.lst (.cons (.str "wide") (.cons (.str "sign") .nil)))) (.call 14 (.cons V0 (.cons J2 .nil)))))
 (.seq (.ifs (.cmp .Gt (.ix (.ix V1 V2) J1) V3) (.seq (.set 4 (.str "cut"))
 .skip) .skip)
 (.seq (.expr (.app V1 (.tup (.cons V4 (.cons V3 (.cons V2 .nil))))))
 (.seq (.ret (.bin .Sub (.blt .len (.cons V1 .nil)) J1))
 .skip)))))
noncomputable def aIi:E:=(.comp V4 (.one 4) (.rng1 (.blt .len (.cons V1 .nil))) (.cmp .Eq (.ix (.ix V1 V4) J1) V2))
noncomputable def sG:Sx:=(.seq (.setC false 3 aIi)
 (.seq (.ifs (.and (.cmp .NotEq V3 (.fz (.lst .nil))) (.cmp .Gt (.call 14 (.cons V0 (.cons J4 .nil))) J0)) (.seq (.ret (.ix V3 (.bin .Sub (.bin .Sub (.blt .len (.cons V3 .nil)) J1) (.call 14 (.cons V0 (.cons (.blt .len (.cons V3 .nil)) .nil))))))
 .skip) .skip)
 (.seq (.ret (.call 18 (.cons V0 (.cons V1 (.cons (.call 14 (.cons V0 (.cons (.blt .len (.cons V1 .nil)) .nil))) (.cons V2 .nil))))))
 .skip)))
noncomputable def aAr:Sx:=(.seq (.set 3 (.call 14 (.cons V0 (.cons (.blt .len (.cons V1 .nil)) .nil))))
 (.seq (.set 4 (.ix (.ix V1 V3) J1))
 (.seq (.ifs (.cmp .Eq V2 (.str "cut")) (.seq (.ret (.tup (.cons (.str "cut") (.cons (.bin .Add J1 (.call 14 (.cons V0 (.cons V4 .nil)))) (.cons V3 .nil)))))
 .skip) .skip)
 (.seq (.ret (.tup (.cons V2 (.cons (.bin .Add V4 (.call 14 (.cons V0 (.cons (.bin .Sub (.int 65) V4) .nil)))) (.cons V3 .nil)))))
 .skip))))
noncomputable def aAM:Sx:=(.seq (.set 4 (.ix (.fz (.lst (.cons (.call 14 (.cons V0 (.cons V3 .nil))) (.cons (.call 14 (.cons V0 (.cons (.int 64) .nil))) .nil)))) (.bin .FloorDiv (.call 14 (.cons V0 (.cons J4 .nil))) J3)))
 (.seq (.ret (.tup (.cons V2 (.cons V3 (.cons (.call 19 (.cons V0 (.cons V1 (.cons V3 .nil)))) (.cons V4 .nil))))))
 .skip))
noncomputable def aAP:Sx:=(.seq (.set 4 (.call 19 (.cons V0 (.cons V1 (.cons V3 .nil)))))
 (.seq (.set 5 (.call 19 (.cons V0 (.cons V1 (.cons V3 .nil)))))
 (.seq (.ifs (.cmp .In V2 (.tup (.cons (.str "same") (.cons (.str "less") (.cons (.str "under") .nil))))) (.seq (.set 3 J1)
 .skip) .skip)
 (.seq (.ret (.tup (.cons V2 (.cons V3 (.cons V4 (.cons V5 .nil))))))
 .skip))))
noncomputable def jK:Sx:=(.seq (.set 2 (.fz (.lst (.cons (.str "in") (.cons (.str "num") (.cons (.str "num") (.cons (.str "not") (.cons (.str "and") (.cons (.str "or") (.cons (.str "xor") (.cons (.str "add") (.cons (.str "sub") (.cons (.str "mul") (.cons (.str "left") (.cons (.str "right") (.cons (.str "slide") (.cons (.str "cut") .nil)))))))))))))))))
 (.seq (.set 2 (.bin .Add V2 (.fz (.lst (.cons (.str "wide") (.cons (.str "sign") (.cons (.str "same") (.cons (.str "less") (.cons (.str "under") (.cons (.str "pick") .nil))))))))))
 (.seq (.set 3 (.ix V2 (.call 14 (.cons V0 (.cons (.int 20) .nil)))))
 (.seq (.set 4 (.ix (.ix V1 (.call 14 (.cons V0 (.cons (.blt .len (.cons V1 .nil)) .nil)))) J1))
 (.seq (.ifs (.cmp .Eq (.call 14 (.cons V0 (.cons J4 .nil))) J1) (.seq (.set 4 (.call 16 (.cons V0 .nil)))
 .skip) .skip)
 (.seq (.ifs (.cmp .Eq V3 (.str "in")) (.seq (.set 5 (.tup (.cons (.str "in") (.cons V4 .nil))))
 .skip) (.seq (.ifs (.cmp .Eq V3 (.str "num")) (.seq (.set 5 (.tup (.cons (.str "num") (.cons V4 (.cons (.call 17 (.cons V0 (.cons V4 .nil))) .nil)))))
 .skip) (.seq (.ifs (.cmp .Eq V3 (.str "not")) (.seq (.set 5 (.tup (.cons (.str "not") (.cons V4 (.cons (.call 19 (.cons V0 (.cons V1 (.cons V4 .nil)))) .nil)))))
 .skip) (.seq (.ifs (.cmp .In V3 (.tup (.cons (.str "left") (.cons (.str "right") (.cons (.str "slide") .nil))))) (.seq (.set 5 (.call 21 (.cons V0 (.cons V1 (.cons V3 (.cons V4 .nil))))))
 .skip) (.seq (.ifs (.cmp .In V3 (.tup (.cons (.str "cut") (.cons (.str "wide") (.cons (.str "sign") .nil))))) (.seq (.set 5 (.call 20 (.cons V0 (.cons V1 (.cons V3 .nil)))))
 .skip) (.seq (.ifs (.cmp .Eq V3 (.str "pick")) (.seq (.set 6 (.call 19 (.cons V0 (.cons V1 (.cons J1 .nil)))))
 (.seq (.set 5 (.bin .Add (.tup (.cons (.str "pick") (.cons V4 (.cons V6 .nil)))) (.sl (.call 22 (.cons V0 (.cons V1 (.cons V3 (.cons V4 .nil))))) (.cons J2 .nil) .no)))
 .skip)) (.seq (.set 5 (.call 22 (.cons V0 (.cons V1 (.cons V3 (.cons V4 .nil))))))
 .skip))
 .skip))
 .skip))
 .skip))
 .skip))
 .skip))
 (.seq (.expr (.app V1 V5))
 .skip)))))))
noncomputable def aAs:E:=(.rng1 (.ix (.fz (.lst (.cons (.call 14 (.cons V0 (.cons J3 .nil))) (.cons J7 .nil)))) (.blt .int (.cons (.cmp .Eq (.call 14 (.cons V0 (.cons J8 .nil))) J1) .nil))))
noncomputable def aAw:Sx:=(.seq (.expr (.app V5 (.call 14 (.cons V0 (.cons (.blt .len (.cons V2 .nil)) .nil)))))
 .skip)
noncomputable def wI:E:=(.rng1 V1)
noncomputable def wJ:Sx:=(.seq (.ifs (.cmp .Lt (.blt .len (.cons V2 .nil)) (.int 37)) (.seq (.expr (.call 23 (.cons V0 (.cons V2 .nil))))
 .skip) .skip)
 .skip)
noncomputable def lA:Sx:=(.seq (.set 2 (.new (.lst (.cons (.tup (.cons (.str "in") (.cons (.call 16 (.cons V0 .nil)) .nil))) .nil))))
 (.seq (.loop (.one 3) wI wJ)
 (.seq (.set 4 (.fz (.lst (.cons (.bin .Sub (.blt .len (.cons V2 .nil)) J1) (.cons (.call 14 (.cons V0 (.cons (.blt .len (.cons V2 .nil)) .nil))) .nil)))))
 (.seq (.set 5 (.new (.lst (.cons (.ix V4 (.blt .int (.cons (.cmp .Eq (.call 14 (.cons V0 (.cons J4 .nil))) J1) .nil))) .nil))))
 (.seq (.loop (.one 3) aAs aAw)
 (.seq (.ret (.tup (.cons (.blt .tup (.cons V2 .nil)) (.cons (.blt .tup (.cons V5 .nil)) .nil))))
 .skip))))))
noncomputable def aJn:Sx:=(.seq (.ifs (.cmp .In V0 (.tup (.cons (.str "in") (.cons (.str "num") .nil)))) (.seq (.ret J0)
 .skip) .skip)
 (.seq (.ifs (.cmp .In V0 (.tup (.cons (.str "and") (.cons (.str "or") (.cons (.str "xor") (.cons (.str "add") (.cons (.str "sub") (.cons (.str "mul") (.cons (.str "same") (.cons (.str "less") (.cons (.str "under") .nil))))))))))) (.seq (.ret J2)
 .skip) .skip)
 (.seq (.ret (.bin .Add J1 (.bin .Mult J2 (.blt .int (.cons (.cmp .Eq V0 (.str "pick")) .nil)))))
 .skip)))
noncomputable def aDj:E:=(.comp V3 (.one 3) (.it V1) (.cmp .NotEq V3 (.ix V0 J1)))
noncomputable def aIz:Sx:=(.seq (.set 2 (.ix V0 J0))
 (.seq (.ifs (.cmp .In V2 (.tup (.cons (.str "same") (.cons (.str "less") (.cons (.str "under") .nil))))) (.seq (.ret (.and (.cmp .Eq (.ix V0 J1) J1) (.cmp .Eq (.ix V1 J0) (.ix V1 J1))))
 .skip) .skip)
 (.seq (.ifs (.cmp .Eq V2 (.str "cut")) (.seq (.ret (.cmp .GtE (.ix V1 J0) (.ix V0 J1)))
 .skip) .skip)
 (.seq (.ifs (.cmp .In V2 (.tup (.cons (.str "wide") (.cons (.str "sign") .nil)))) (.seq (.ret (.cmp .LtE (.ix V1 J0) (.ix V0 J1)))
 .skip) .skip)
 (.seq (.ifs (.cmp .Eq V2 (.str "pick")) (.seq (.ret (.and (.cmp .Eq (.ix V1 J0) J1) (.and (.cmp .Eq (.ix V1 J1) (.ix V0 J1)) (.cmp .Eq (.ix V1 J2) (.ix V0 J1)))))
 .skip) .skip)
 (.seq (.ret (.cmp .Eq (.fz aDj) (.fz (.lst .nil))))
 .skip))))))
noncomputable def aAt:E:=(.comp (.ix (.ix V0 V4) J1) (.one 4) (.it V3) .no)
noncomputable def aAu:E:=(.comp V4 (.one 4) (.it V3) (.cmp .GtE V4 V1))
noncomputable def aIu:Sx:=(.seq (.set 2 (.ix V0 V1))
 (.seq (.set 3 (.sl V2 (.cons J2 .nil) (.cons (.bin .Add J2 (.call 25 (.cons (.ix V2 J0) .nil))) .nil)))
 (.seq (.ifs (.or (.cmp .Lt (.ix V2 J1) J1) (.cmp .Gt (.ix V2 J1) (.int 64))) (.seq (.ret (.tup (.cons (.str "width") (.cons V1 .nil))))
 .skip) .skip)
 (.seq (.ifs (.cmp .NotEq (.fz aAu) (.fz (.lst .nil))) (.seq (.ret (.tup (.cons (.str "row") (.cons V1 .nil))))
 .skip) .skip)
 (.seq (.ifs (.not (.call 26 (.cons V2 (.cons (.fz aAt) .nil)))) (.seq (.ret (.tup (.cons (.str "fit") (.cons V1 .nil))))
 .skip) .skip)
 (.seq (.ifs (.or (.and (.cmp .Eq (.ix V2 J0) (.str "num")) (.cmp .GtE (.ix V2 J2) (.bin .LShift J1 (.ix V2 J1)))) (.and (.cmp .In (.ix V2 J0) (.tup (.cons (.str "left") (.cons (.str "right") (.cons (.str "slide") .nil))))) (.cmp .Gt (.ix V2 J3) (.int 63)))) (.seq (.ret (.tup (.cons (.str "number") (.cons V1 .nil))))
 .skip) .skip)
 (.seq (.ret (.tup (.cons (.str "good") (.cons (.bl true) .nil))))
 .skip)))))))
noncomputable def aAF:E:=(.comp V4 (.one 4) (.it V1) (.cmp .GtE V4 (.blt .len (.cons V0 .nil))))
noncomputable def nR:E:=(.rng1 (.blt .len (.cons V0 .nil)))
noncomputable def kB:Sx:=(.seq (.set 3 (.call 27 (.cons V0 (.cons V2 .nil))))
 (.seq (.ifs (.cmp .NotEq (.ix V3 J0) (.str "good")) (.seq (.ret V3)
 .skip) .skip)
 .skip))
noncomputable def aEq:Sx:=(.seq (.loop (.one 2) nR kB)
 (.seq (.ifs (.cmp .NotEq (.fz aAF) (.fz (.lst .nil))) (.seq (.ret (.tup (.cons (.str "row") (.cons (.blt .len (.cons V0 .nil)) .nil))))
 .skip) .skip)
 (.seq (.ret (.tup (.cons (.str "good") (.cons (.bl true) .nil))))
 .skip)))
noncomputable def aDw:Sx:=(.seq (.set 4 (.bin .Sub (.bin .Pow (.int 10) (.int 20)) J1))
 (.seq (.set 5 (.fz (.lst (.cons J0 (.cons (.int 65) (.cons (.int 64) (.cons (.int 63) (.cons V2 (.cons (.bin .Add V2 J1) (.cons (.blt .mn (.cons V4 (.cons (.bin .Add V1 J1) .nil))) (.cons (.blt .mx (.cons J0 (.cons (.bin .Sub V1 J1) .nil))) (.cons (.bin .LShift J1 V3) (.cons (.call 14 (.cons V0 (.cons (.int 70) .nil))) .nil)))))))))))))
 (.seq (.ret (.ix (.bin .Add V5 (.fz (.lst (.cons (.ix (.fz (.lst (.cons J7 (.cons V4 .nil)))) (.blt .int (.cons (.cmp .Gt V3 (.int 39)) .nil))) .nil)))) (.call 14 (.cons V0 (.cons (.int 11) .nil)))))
 .skip)))
noncomputable def aAC:Sx:=(.seq (.set 3 (.ix V1 V2))
 (.seq (.ifs (.cmp .Eq (.call 14 (.cons V0 (.cons J5 .nil))) J1) (.seq (.set 7 (.fz (.lst (.cons (.str "and") (.cons (.str "or") (.cons (.str "mul") (.cons (.str "same") (.cons (.str "less") (.cons (.str "under") (.cons (.str "left") (.cons (.str "slide") .nil)))))))))))
 (.seq (.ifs (.cmp .Lt (.blt .len (.cons V3 .nil)) J4) (.seq (.set 7 (.fz (.lst (.cons (.str "num") (.cons (.str "not") (.cons (.str "cut") (.cons (.str "wide") (.cons (.str "sign") .nil))))))))
 .skip) .skip)
 (.seq (.ifs (.cmp .Eq (.blt .len (.cons V3 .nil)) J4) (.seq (.ret (.bin .Add (.bin .Add (.sl V1 .no (.cons V2 .nil)) (.fz (.lst (.cons (.bin .Add (.tup (.cons (.ix V7 (.call 14 (.cons V0 (.cons J8 .nil)))) .nil)) (.sl V3 (.cons J1 .nil) .no)) .nil)))) (.sl V1 (.cons (.bin .Add V2 J1) .nil) .no)))
 .skip) .skip)
 (.seq (.ifs (.cmp .Eq (.blt .len (.cons V3 .nil)) J3) (.seq (.ret (.bin .Add (.bin .Add (.sl V1 .no (.cons V2 .nil)) (.fz (.lst (.cons (.bin .Add (.tup (.cons (.ix V7 (.call 14 (.cons V0 (.cons J5 .nil)))) .nil)) (.sl V3 (.cons J1 .nil) .no)) .nil)))) (.sl V1 (.cons (.bin .Add V2 J1) .nil) .no)))
 .skip) .skip)
 .skip)))) .skip)
 (.seq (.set 4 (.bin .Add J1 (.call 14 (.cons V0 (.cons (.bin .Sub (.blt .len (.cons V3 .nil)) J1) .nil)))))
 (.seq (.set 5 (.blt .mn (.cons (.ix V3 J1) (.cons (.ix (.fz (.lst (.cons (.int 39) (.cons (.int 64) .nil)))) (.blt .int (.cons (.cmp .Eq (.blt .len (.cons V3 .nil)) J3) .nil))) .nil))))
 (.seq (.set 6 (.call 29 (.cons V0 (.cons (.ix V3 V4) (.cons V2 (.cons V5 .nil))))))
 (.seq (.ret (.bin .Add (.bin .Add (.sl V1 .no (.cons V2 .nil)) (.fz (.lst (.cons (.bin .Add (.bin .Add (.sl V3 .no (.cons V4 .nil)) (.tup (.cons V6 .nil))) (.sl V3 (.cons (.bin .Add V4 J1) .nil) .no)) .nil)))) (.sl V1 (.cons (.bin .Add V2 J1) .nil) .no)))
 .skip))))))
noncomputable def wL:E:=(.its V0)
noncomputable def aAv:Sx:=(.seq (.ifs (.ins true V1 (.str "0123456789")) (.seq (.ret (.bl false))
 .skip) .skip)
 .skip)
noncomputable def aIx:Sx:=(.seq (.loop (.one 1) wL aAv)
 (.seq (.ret (.and (.chn .LtE .LtE J1 (.blt .len (.cons V0 .nil)) (.int 20)) (.or (.cmp .NotEq (.ix V0 J0) (.str "0")) (.cmp .Eq V0 (.str "0")))))
 .skip))
noncomputable def aIy:Sx:=(.seq (.ifs (.cmp .Eq V0 (.str "in")) (.seq (.ret J1)
 .skip) .skip)
 (.seq (.ifs (.cmp .In V0 (.tup (.cons (.str "num") (.cons (.str "not") (.cons (.str "cut") (.cons (.str "wide") (.cons (.str "sign") .nil))))))) (.seq (.ret J2)
 .skip) .skip)
 (.seq (.ifs (.cmp .Eq V0 (.str "pick")) (.seq (.ret J4)
 .skip) .skip)
 (.seq (.set 1 (.str "and or xor add sub mul same less under left right slide"))
 (.seq (.ifs (.cmp .In V0 (.fz (.spl V1 (.str " ")))) (.seq (.ret J3)
 .skip) .skip)
 (.seq (.ret (.int 99))
 .skip))))))
noncomputable def aDg:E:=(.comp V3 (.one 3) (.it (.sl V0 (.cons J1 .nil) .no)) (.call 31 (.cons V3 .nil)))
noncomputable def aIl:Sx:=(.seq (.setC false 2 aDg)
 (.seq (.ifs (.cmp .NotEq (.blt .len (.cons V2 .nil)) (.bin .Sub (.blt .len (.cons V0 .nil)) J1)) (.seq (.ret (.bl false))
 .skip) .skip)
 (.seq (.ifs V1 (.seq (.ret (.and (.cmp .Eq (.ix V0 J0) (.str "out")) (.chn .LtE .LtE J1 (.blt .len (.cons V2 .nil)) J8)))
 .skip) .skip)
 (.seq (.ret (.cmp .Eq (.blt .len (.cons V2 .nil)) (.call 32 (.cons (.ix V0 J0) .nil))))
 .skip))))
noncomputable def wH:E:=(.rng1 (.blt .len (.cons V0 .nil)))
noncomputable def wG:Sx:=(.seq (.ifs (.not (.call 33 (.cons (.fz (.spl (.ix V0 V1) (.str " "))) (.cons (.cmp .Eq V1 (.bin .Sub (.blt .len (.cons V0 .nil)) J1)) .nil)))) (.seq (.ret V1)
 .skip) .skip)
 .skip)
noncomputable def aIk:Sx:=(.seq (.loop (.one 1) wH wG)
 (.seq (.ret (.un .USub J1))
 .skip))
noncomputable def aIh:Sx:=(.seq (.set 2 (.fz (.lst (.cons (.bin .Add (.str "0") V1) (.cons (.bin .Add (.str "-") V1) (.cons (.bin .Add (.str "+") V1) (.cons (.bin .Add V1 (.str "a")) (.cons (.str "") (.cons (.bin .Add V1 (.srep (.str "0") (.bin .Sub (.int 21) (.blt .mn (.cons (.blt .len (.cons V1 .nil)) (.cons (.int 20) .nil)))))) (.cons (.bin .Add V1 (.str ".")) .nil))))))))))
 (.seq (.ret (.ix (.bin .Add V2 (.fz (.lst (.cons (.bin .Add V1 (.str "_0")) (.cons (.bin .Add (.bin .Add (.sls V1 .no (.cons J1 .nil)) (.str "_")) (.sls V1 (.cons J1 .nil) .no)) .nil))))) (.call 14 (.cons V0 (.cons J9 .nil)))))
 .skip))
noncomputable def aAE:Sx:=(.seq (.set 2 (.fz (.spl V1 (.str " "))))
 (.seq (.set 3 (.fz (.lst (.cons (.str "ins") (.cons (.str "In") (.cons (.str "nun") (.cons (.str "shl") (.cons (.str "mod") (.cons (.str "neg") (.cons (.str "picks") (.cons (.str "o") (.cons (.str "AND") (.cons (.str "out") (.cons (.str "rows") (.cons (.str "") (.cons (.str "0") .nil))))))))))))))))
 (.seq (.set 4 (.new (.ls3 " " V1 (.bin .Add V1 (.str " ")) V1 " " "  " (.cons (.str "") (.cons (.bin .Add V1 (.str " 7")) (.cons (.jn (.str " ") (.sl V2 .no (.cons (.un .USub J1) .nil))) .nil))))))
 (.seq (.expr (.app V4 (.jn (.str " ") (.bin .Add (.fz (.lst (.cons (.ix V3 (.call 14 (.cons V0 (.cons (.int 13) .nil)))) .nil))) (.sl V2 (.cons J1 .nil) .no)))))
 (.seq (.set 5 (.bin .Add J1 (.call 14 (.cons V0 (.cons (.bin .Sub (.blt .len (.cons V2 .nil)) J1) .nil)))))
 (.seq (.expr (.app V4 (.jn (.str " ") (.bin .Add (.bin .Add (.sl V2 .no (.cons V5 .nil)) (.fz (.lst (.cons (.call 35 (.cons V0 (.cons (.ix V2 V5) .nil))) .nil)))) (.sl V2 (.cons (.bin .Add V5 J1) .nil) .no)))))
 (.seq (.set 4 (.bin .Add V4 (.fz (.lst (.cons (.str "out") (.cons (.str "out 0 0 0 0 0 0 0 0 0") (.cons (.str "in 5") (.cons (.str "out 1") (.cons (.str "num 65 0") (.cons (.str "not 8 99") .nil))))))))))
 (.seq (.ret (.ix V4 (.call 14 (.cons V0 (.cons (.blt .len (.cons V4 .nil)) .nil)))))
 .skip))))))))
noncomputable def aDh:E:=(.comp (.itx V2) (.one 2) (.it (.sl V1 (.cons J1 .nil) .no)) .no)
noncomputable def aIq:Sx:=(.seq (.set 1 (.fz (.spl V0 (.str " "))))
 (.seq (.ret (.bin .Add (.tup (.cons (.ix V1 J0) .nil)) (.blt .tup (.cons (.fz aDh) .nil))))
 .skip))
noncomputable def aDi:E:=(.comp (.call 37 (.cons V5 .nil)) (.one 5) (.it (.sl V0 .no (.cons (.un .USub J1) .nil))) .no)
noncomputable def aIr:Sx:=(.seq (.set 1 (.call 34 (.cons V0 .nil)))
 (.seq (.ifs (.cmp .GtE V1 J0) (.seq (.ret (.tup (.cons (.str "line") (.cons V1 .nil))))
 .skip) .skip)
 (.seq (.set 2 (.blt .tup (.cons (.fz aDi) .nil)))
 (.seq (.set 3 (.sl (.call 37 (.cons (.ix V0 (.un .USub J1)) .nil)) (.cons J1 .nil) .no))
 (.seq (.set 4 (.call 28 (.cons V2 (.cons V3 .nil))))
 (.seq (.ifs (.cmp .Eq (.ix V4 J0) (.str "good")) (.seq (.ret (.tup (.cons (.str "good") (.cons (.tup (.cons V2 (.cons V3 .nil))) .nil))))
 .skip) .skip)
 (.seq (.ret V4)
 .skip)))))))
noncomputable def aAy:E:=(.comp (.ix V5 J1) (.one 5) (.it (.call 4 (.cons V2 (.cons V0 .nil)))) .no)
noncomputable def aAz:E:=(.comp (.cmp .GtE V4 V1) (.one 4) (.it (.call 3 (.cons V2 .nil))) .no)
noncomputable def aDs:Xx:=(.seq (.s (.set 2 (.ix (.var 0) (.var 1))))
 (.seq (.ifs (.or (.cmp .Lt (.ix (.var 2) (.int 1)) (.int 1)) (.cmp .Gt (.ix (.var 2) (.int 1)) (.int 64))) (.seq (.raise1 "NoWidth" (.var 1))
 .skip) .skip)
 (.seq (.ifs (.blt .any (.cons (.fz aAz) .nil)) (.seq (.raise1 "NoRow" (.var 1))
 .skip) .skip)
 (.seq (.s (.set 3 (.blt .tup (.cons (.fz aAy) .nil))))
 (.seq (.ifs (.not (.call 5 (.cons (.var 2) (.cons (.var 3) .nil)))) (.seq (.raise1 "NoFit" (.var 1))
 .skip) .skip)
 (.seq (.ifs (.not (.call 6 (.cons (.var 2) .nil))) (.seq (.raise1 "NoNumber" (.var 1))
 .skip) .skip)
 .skip))))))
noncomputable def aBo:E:=(.comp (.cmp .GtE V4 (.blt .len (.cons V2 .nil))) (.one 4) (.it V3) .no)
noncomputable def sX:E:=(.rng1 (.blt .len (.cons V2 .nil)))
noncomputable def mI:Xx:=(.seq (.cal 39 (.cons (.var 2) (.cons (.var 1) .nil)))
 .skip)
noncomputable def aGK:Xx:=(.seq (.s (.setT (.many [2,3]) (.var 0)))
 (.seq (.loop (.one 1) sX mI)
 (.seq (.ifs (.blt .any (.cons (.fz aBo) .nil)) (.seq (.raise1 "NoRow" (.blt .len (.cons (.var 2) .nil)))
 .skip) .skip)
 (.seq (.s (.ret (.bl true)))
 .skip))))
noncomputable def nS:E:=(.enm V0)
noncomputable def jJ:Xx:=(.seq (.s (.set 4 (.call 10 (.cons (.var 3) .nil))))
 (.seq (.ifs (.cmp .Is (.var 4) .non) (.seq (.raise1 "NoLine" (.var 2))
 .skip) .skip)
 (.seq (.s (.expr (.app (.var 1) (.var 4))))
 .skip)))
noncomputable def nU:Xx:=(.seq (.s (.set 1 (.new (.lst .nil))))
 (.seq (.loop (.many [2,3]) nS jJ)
 (.seq (.s (.ret (.blt .tup (.cons (.var 1) .nil))))
 .skip)))
noncomputable def yR:Xx:=(.seq (.ifs (.not (.isi (.var 0) .str)) (.seq (.raise1 "NoLine" (.int 0))
 .skip) .skip)
 (.seq (.s (.set 1 (.fz (.spl (.var 0) (.str "\n")))))
 (.seq (.s (.set 2 (.bin .Sub (.blt .len (.cons (.var 1) .nil)) (.int 1))))
 (.seq (.set 3 41 (.cons (.sl (.var 1) .no (.cons (.var 2) .nil)) .nil))
 (.seq (.s (.set 4 (.call 11 (.cons (.ix (.var 1) (.var 2)) .nil))))
 (.seq (.ifs (.cmp .Is (.var 4) .non) (.seq (.raise1 "NoLine" (.var 2))
 .skip) .skip)
 (.seq (.s (.set 5 (.tup (.cons (.var 3) (.cons (.var 4) .nil)))))
 (.seq (.cal 40 (.cons (.var 5) .nil))
 (.seq (.s (.ret (.var 5)))
 .skip)))))))))
noncomputable def aDk:E:=(.comp (.st1 V3) (.one 3) (.it (.sl V2 (.cons J1 .nil) .no)) .no)
noncomputable def wK:E:=(.it (.bin .Add (.ix V0 J0) (.tup (.cons (.bin .Add (.tup (.cons (.str "out") .nil)) (.ix V0 J1)) .nil))))
noncomputable def pV:Sx:=(.seq (.expr (.app V1 (.jn (.str " ") (.bin .Add (.fz (.lst (.cons (.ix V2 J0) .nil))) (.fz aDk)))))
 .skip)
noncomputable def wM:Sx:=(.seq (.set 1 (.new (.lst .nil)))
 (.seq (.loop (.one 2) wK pV)
 (.seq (.ret V1)
 .skip)))
noncomputable def aDM:Xx:=(.seq (.s (.set 1 (.tup (.cons (.str "none") (.cons (.int 0) .nil)))))
 (.seq (.tri (.seq (.pair 1 "good" 42 (.cons (.var 0) .nil))
 .skip) [("NoLine",qq 2,[.tup 1 [.str "line",.row 2]]),("NoWidth",qq 2,[.tup 1 [.str "width",.row 2]]),("NoRow",qq 2,[.tup 1 [.str "row",.row 2]]),("NoFit",qq 2,[.tup 1 [.str "fit",.row 2]]),("NoNumber",qq 2,[.tup 1 [.str "number",.row 2]])])
 (.seq (.s (.ret (.var 1)))
 .skip)))
noncomputable def xE:E:=(.rng1 V3)
noncomputable def aBz:Sx:=(.seq (.set 13 (.call 14 (.cons V1 (.cons (.blt .len (.cons V8 .nil)) .nil))))
 (.seq (.put V8 (.var 13) (.call 36 (.cons V1 (.cons (.ix V9 (.var 13)) .nil))))
 .skip))
noncomputable def xI:E:=(.rng1 V2)
noncomputable def aBI:Sx:=(.seq (.set 5 (.call 30 (.cons V1 (.cons V5 (.cons V6 .nil)))))
 (.seq (.ifs (.cmp .Eq (.call 14 (.cons V1 (.cons J3 .nil))) J1) (.seq (.set 6 (.call 14 (.cons V1 (.cons (.blt .len (.cons V5 .nil)) .nil))))
 .skip) .skip)
 .skip))
noncomputable def mZ:Sx:=(.seq (.set 1 (.new (.lst (.cons V0 (.cons J0 (.cons J0 .nil))))))
 (.seq (.set 2 (.call 14 (.cons V1 (.cons J3 .nil))))
 (.seq (.set 3 (.call 14 (.cons V1 (.cons J3 .nil))))
 (.seq (.set 4 (.call 24 (.cons V1 (.cons (.bin .Add J1 (.blt .mn (.cons (.blt .len (.cons V0 .nil)) (.cons (.int 24) .nil)))) .nil))))
 (.seq (.set 5 (.fz (.lof (.ix V4 J0))))
 (.seq (.set 6 (.call 14 (.cons V1 (.cons (.blt .len (.cons V5 .nil)) .nil))))
 (.seq (.loop (.one 7) xI aBI)
 (.seq (.ifs (.cmp .Eq (.call 14 (.cons V1 (.cons (.int 16) .nil))) J1) (.seq (.set 5 (.fz (.lst .nil)))
 .skip) .skip)
 (.seq (.set 8 (.call 43 (.cons (.tup (.cons (.blt .tup (.cons V5 .nil)) (.cons (.ix V4 J1) .nil))) .nil)))
 (.seq (.set 9 (.fz (.lof V8)))
 (.seq (.loop (.one 7) xE aBz)
 (.seq (.set 10 (.jn (.str "\n") V8))
 (.seq (.set 11 (.call 44 (.cons (.var 10) .nil)))
 (.seq (.ifs (.or (.cmp .NotEq (.var 11) (.call 38 (.cons V8 .nil))) (.and (.cmp .Eq (.ix (.var 11) J0) (.str "good")) (.cmp .NotEq (.call 13 (.cons (.ix (.var 11) J1) .nil)) (.var 10)))) (.seq (.ret (.bl false))
 .skip) .skip)
 (.seq (.ifs (.or (.cmp .NotEq (.call 42 (.cons (.jn (.str "\n") (.call 43 (.cons V4 .nil))) .nil)) V4) (.cmp .NotEq (.call 13 (.cons V4 .nil)) (.jn (.str "\n") (.call 43 (.cons V4 .nil))))) (.seq (.ret (.bl false))
 .skip) .skip)
 (.seq (.set 12 (.sl (.ix V4 J0) .no (.cons (.bin .Add J1 (.call 14 (.cons V1 (.cons (.blt .len (.cons (.ix V4 J0) .nil)) .nil)))) .nil)))
 (.seq (.ret (.cmp .Eq (.call 42 (.cons (.call 13 (.cons (.tup (.cons (.var 12) (.cons (.tup (.cons (.bin .Sub (.blt .len (.cons (.var 12) .nil)) J1) .nil)) .nil))) .nil)) .nil)) (.tup (.cons (.var 12) (.cons (.tup (.cons (.bin .Sub (.blt .len (.cons (.var 12) .nil)) J1) .nil)) .nil)))))
 .skip)))))))))))))))))
noncomputable def fns:List Fn:=[
 {name:="full",np:=1,N:=["width"],body:=aHf,st:=top 8 },
 {name:="is_word",np:=1,N:=["word"],body:=aKl,st:=top 14 },
 {name:="number_count",np:=1,N:=["word", "further"],body:=aDp,st:=top 15 },
 {name:="operands",np:=1,N:=["row"],body:=aJI,st:=top 16 },
 {name:="of_operands",np:=2,N:=["row", "values", "k"],body:=aIM,st:=top 17 },
 {name:="widths_fit",np:=2,N:=["row", "widths", "word", "width", "each"],body:=aIQ,st:=top 19 },
 {name:="number_fits",np:=1,N:=["row"],body:=aIK,st:=top 20 },
 {name:="is_number",np:=1,N:=["part", "sign"],body:=aI6,st:=top 25 },
 {name:="are_numbers",np:=1,N:=["parts", "part"],body:=aII,st:=top 26 },
 {name:="numbers_in",np:=1,N:=["parts", "part"],body:=aIO,st:=top 27 },
 {name:="row_in",np:=1,N:=["line", "parts", "word"],body:=aMX,st:=top 28 },
 {name:="outs_in",np:=1,N:=["line", "parts"],body:=aKv,st:=top 29 },
 {name:="line_of",np:=1,N:=["parts", "part"],body:=aKu,st:=top 33 },
 {name:="write",np:=1,N:=["program", "lines", "rows", "outs", "row"],body:=aBS,st:=top 34 },
 {name:="_law_draw",np:=2,N:=["_law_state", "_law_many_here", "_law_cell", "_law_script", "_law_k", "_law_digit"],body:=hJ,st:=top 36 },
 {name:="_law_number",np:=2,N:=["_law_state", "_law_width_here"],body:=aAD,st:=top 37 },
 {name:="_law_width",np:=1,N:=["_law_state"],body:=aDv,st:=top 38 },
 {name:="_law_num",np:=2,N:=["_law_state", "_law_width_here", "_law_sort", "_law_some"],body:=aAU,st:=top 39 },
 {name:="_law_fit",np:=4,N:=["_law_state", "_law_rows", "_law_a", "_law_width_here", "_law_word"],body:=sN,st:=top 40 },
 {name:="_law_operand",np:=3,N:=["_law_state", "_law_rows", "_law_width_here", "_law_some", "_law_k"],body:=sG,st:=top 41 },
 {name:="_law_turned_width",np:=3,N:=["_law_state", "_law_rows", "_law_word", "_law_a", "_law_width_here"],body:=aAr,st:=top 42 },
 {name:="_law_shift",np:=4,N:=["_law_state", "_law_rows", "_law_word", "_law_width_here", "_law_k"],body:=aAM,st:=top 43 },
 {name:="_law_pair",np:=4,N:=["_law_state", "_law_rows", "_law_word", "_law_width_here", "_law_a", "_law_b"],body:=aAP,st:=top 44 },
 {name:="_law_row",np:=2,N:=["_law_state", "_law_rows", "_law_some", "_law_word", "_law_width_here", "_law_row_here", "_law_c"],body:=jK,st:=top 45 },
 {name:="_law_program",np:=2,N:=["_law_state", "_law_most", "_law_rows", "_law_k", "_law_last", "_law_outs"],body:=lA,st:=top 46 },
 {name:="_law_many",np:=1,N:=["_law_word"],body:=aJn,st:=top 47 },
 {name:="_law_fitting",np:=2,N:=["_law_row_here", "_law_widths", "_law_word", "_law_width_here"],body:=aIz,st:=top 48 },
 {name:="_law_row_due",np:=2,N:=["_law_rows", "_law_k", "_law_row_here", "_law_some", "_law_a"],body:=aIu,st:=top 49 },
 {name:="_law_due",np:=2,N:=["_law_rows", "_law_outs", "_law_k", "_law_due_here", "_law_out"],body:=aEq,st:=top 50 },
 {name:="_law_other",np:=4,N:=["_law_state", "_law_old", "_law_r", "_law_most", "_law_nines", "_law_some"],body:=aDw,st:=top 51 },
 {name:="_law_spoiled",np:=3,N:=["_law_state", "_law_rows", "_law_r", "_law_row_here", "_law_at", "_law_most", "_law_other_here", "_law_some"],body:=aAC,st:=top 52 },
 {name:="_law_figures",np:=1,N:=["_law_word", "_law_sign"],body:=aIx,st:=top 53 },
 {name:="_law_numbers",np:=1,N:=["_law_word", "_law_some"],body:=aIy,st:=top 54 },
 {name:="_law_line_good",np:=2,N:=["_law_words", "_law_last", "_law_numbers_here", "_law_word"],body:=aIl,st:=top 55 },
 {name:="_law_first_bad",np:=1,N:=["_law_lines", "_law_at"],body:=aIk,st:=top 56 },
 {name:="_law_number_spoilt",np:=2,N:=["_law_state", "_law_word", "_law_some"],body:=aIh,st:=top 58 },
 {name:="_law_spoilt",np:=2,N:=["_law_state", "_law_line", "_law_words", "_law_some", "_law_lines", "_law_at"],body:=aAE,st:=top 59 },
 {name:="_law_row_read",np:=1,N:=["_law_line", "_law_words", "_law_word"],body:=aIq,st:=top 61 },
 {name:="_law_text_due",np:=1,N:=["_law_lines", "_law_at", "_law_rows", "_law_outs", "_law_due_here", "_law_line"],body:=aIr,st:=top 62 }]
noncomputable def gns:List FnX:=[
 {name:="look_at_row",np:=2,N:=["rows", "k", "row", "widths", "operand", "ahead"],body:=.inr aDs,st:=top 21 },
 {name:="look",np:=1,N:=["program", "k", "rows", "outs", "out"],body:=.inr aGK,st:=top 22 },
 {name:="rows_in",np:=1,N:=["lines", "rows", "k", "line", "row"],body:=.inr nU,st:=top 30 },
 {name:="read",np:=1,N:=["text", "lines", "last", "rows", "outs", "program"],body:=.inr yR,st:=top 31 },
 {name:="_law_text_of",np:=1,N:=["_law_program_here", "_law_lines", "_law_row_here", "_law_number_here"],body:=.inl wM,st:=top 57,kp:=true },
 {name:="_law_told",np:=1,N:=["_law_text", "_law_said", "e"],body:=.inr aDM,st:=top 60 },
 {name:="law",np:=1,N:=["_law_script", "_law_state", "_law_many_here", "_law_more", "_law_good", "_law_rows", "_law_r", "_law_k", "_law_lines", "_law_begun", "_law_text", "_law_found", "_law_some", "_law_at"],body:=.inl mZ,st:=top 63 }]
noncomputable def xz:Xz:=⟨["NoLine", "NoWidth", "NoRow", "NoFit", "NoNumber"],[],[],[("NoNumber", "NoNumber.__init__",tJ (top 6) 0),("NoFit", "NoFit.__init__",tJ (top 5) 0),("NoRow", "NoRow.__init__",tJ (top 4) 0),("NoWidth", "NoWidth.__init__",tJ (top 3) 0),("NoLine", "NoLine.__init__",tJ (top 2) 0)]⟩
noncomputable def xl:List (Str×Str×Bool):=("NoNumber", "NoLine",false)::("NoNumber", "NoWidth",false)::("NoNumber", "NoRow",false)::("NoNumber", "NoFit",false)::("NoNumber", "NoNumber",true)::("NoFit", "NoLine",false)::("NoFit", "NoWidth",false)::("NoFit", "NoRow",false)::("NoFit", "NoFit",true)::("NoFit", "NoNumber",false)::("NoRow", "NoLine",false)::("NoRow", "NoWidth",false)::("NoRow", "NoRow",true)::("NoRow", "NoFit",false)::("NoRow", "NoNumber",false)::("NoWidth", "NoLine",false)::("NoWidth", "NoWidth",true)::("NoWidth", "NoRow",false)::("NoWidth", "NoFit",false)::("NoWidth", "NoNumber",false)::("NoLine", "NoLine",true)::("NoLine", "NoWidth",false)::("NoLine", "NoRow",false)::("NoLine", "NoFit",false)::("NoLine", "NoNumber",false)::[]
noncomputable def dH(ns:List Int)(k:Nat)(x:Int):List D:=[.list (ns.map yAp),.int k,.int x]
theorem aMR{α:Type}{S:List α}{n:Nat}{a v:α}(h:S[n]? = qq a):(S.set n v)[n]? = qq v:=yAq (gIm h).1
theorem aAX{α:Type}(S:List α)(n:Nat)(v:α):(S.set n v).take S.length=S.set n v:=by
 rw[yBu];rw[yAt];exact yAe _
theorem aGB(a b c:D):bC (.list [a,b,c]) (.int 0)=qq a:=rfl
theorem aGn(a b c:D):bC (.list [a,b,c]) (.int 2)=qq c:=rfl
theorem aRF(a b c:D):cK [a,b,c] qz (qq 2)=[a,b]:=rfl
theorem qF{ns:List Int}{k:Nat}(h:k<ns.length):bC (.list (ns.map yAp)) (.int k)=qq (.int ns[k]):=eR (by rw[xAb,yAc h];rfl)
theorem tG(i:Int){w:Nat}(hw:0<w):∃ r:Nat,i%(w:Int)=(r:Int)/\r<w:=by
 have h0:=Int.emod_nonneg i (show(w:Int)≠0 by omega)
 have h1:=Int.emod_lt_of_pos i (show(0:Int)<(w:Int) by omega)
 exact⟨(i%(w:Int)).toNat,by omega,by omega⟩
theorem aQ1:gF 3 1=qq 1:=rfl
theorem aHj:gF 3 2=qq 2:=rfl
theorem nW(ns:List Int):(ns.map yAp).length=ns.length:=yAb ..
noncomputable def qB:Sx:=match hJ with
 | .seq _ (.seq _ (.seq _ r))=>r
 | _=>.skip
theorem pX(i p:Int)(hp:0<p)(hp2:p<=2147483647) : -(2^64)<i%p/\i%p<2^64:=by
 have h0:=Int.emod_nonneg i (show p≠0 by omega)
 have h1:=Int.emod_lt_of_pos i hp;exact⟨by omega,by omega⟩
theorem aKh(C:Calls)(n k m:Nat)(ns:List Int)(x:Int)(S:aC)(e2 e5:Option W)(hS:S[n]? = qq (qq (dH ns (k+1) x)))(hm:0<m)(hk:k<=100000) :
 ∃ r:Nat,r<m/\xs C qB [qq (.loc n),qq (.d (.int m)),e2,qq (.d (.list (ns.map yAp))),qq (.d (.int k)),e5] S=qq (.rt (.d (.int r)),S):=by
 unfold dH at hS;have hm':(0:Int)<(m:Int):=by omega
 by_cases c1:k<ns.length
 ·have d1:decide ((k:Int)<((ns.length:Nat):Int))=true:=dqT (by omega)
  obtain⟨r,er,hr⟩:=tG ns[k] hm;refine⟨r,hr,?_⟩;simp only[evs,qB,hJ,cH,cZ,nW,dE,d1,qF c1,fJ hm',er]
 ·have d1:decide ((k:Int)<((ns.length:Nat):Int))=false:=dqF (by omega)
  have bI:∀ c:Int,∃ r:Nat,r<m/\c%2147483629*((k:Int)+3)%2147483629*(c%2147483629*((k:Int)+3)%2147483629)%2147483587*(c%2147483629*((k:Int)+3)%2147483629*(c%2147483629*((k:Int)+3)%2147483629)%2147483587)%1999999973%(m:Int)=(r:Int):=λ c=>by
   obtain⟨r,er,hr⟩:=tG (c%2147483629*((k:Int)+3)%2147483629*(c%2147483629*((k:Int)+3)%2147483629)%2147483587*(c%2147483629*((k:Int)+3)%2147483629*(c%2147483629*((k:Int)+3)%2147483629)%2147483587)%1999999973) hm;exact⟨r,hr,er⟩
  by_cases c2:0<ns.length
  ·have d2:decide ((0:Int)<((ns.length:Nat):Int))=true:=dqT (by omega)
   obtain⟨q,eq,hq⟩:=tG ((k:Int)*7) c2;obtain⟨r,hr,er⟩:=bI ((k:Int)*7919+5+ns[q]*(48271+(k:Int)));refine⟨r,hr,?_⟩;have s1:=pX ((k:Int)*7919+5+ns[q]*(48271+(k:Int))) 2147483629 (by decide) (by decide)
   have s2:=pX (((k:Int)*7919+5+ns[q]*(48271+(k:Int)))%2147483629*((k:Int)+3)) 2147483629 (by decide) (by decide)
   have s3:=pX (((k:Int)*7919+5+ns[q]*(48271+(k:Int)))%2147483629*((k:Int)+3)%2147483629*(((k:Int)*7919+5+ns[q]*(48271+(k:Int)))%2147483629*((k:Int)+3)%2147483629)) 2147483587 (by decide) (by decide)
   simp only[evs,qB,hJ,cH,cZ,nW,dE,d1,qH (i:=(k:Int)) (j:=7919) (by decide) (by decide),cY,hS,aGB,gG,d2,qH (i:=(k:Int)) (j:=7) (by decide) (by decide),fJ (i:=(k:Int)*7) (j:=((ns.length:Nat):Int)) (by omega),eq,qF hq,
    qH (i:=ns[q]) (j:=48271+(k:Int)) (by omega) (by omega),fJ (j:=2147483629) (by decide),pZ s1.1 s1.2,pZ s2.1 s2.2,fJ (j:=2147483587) (by decide),pZ s3.1 s3.2,fJ (j:=1999999973) (by decide),fJ hm',er]
  ·have d2:decide ((0:Int)<((ns.length:Nat):Int))=false:=dqF (by omega)
   obtain⟨r,hr,er⟩:=bI ((k:Int)*7919+5);refine⟨r,hr,?_⟩;have s1:=pX ((k:Int)*7919+5) 2147483629 (by decide) (by decide)
   have s2:=pX (((k:Int)*7919+5)%2147483629*((k:Int)+3)) 2147483629 (by decide) (by decide)
   have s3:=pX (((k:Int)*7919+5)%2147483629*((k:Int)+3)%2147483629*(((k:Int)*7919+5)%2147483629*((k:Int)+3)%2147483629)) 2147483587 (by decide) (by decide)
   simp only[evs,qB,hJ,cH,cZ,nW,dE,d1,qH (i:=(k:Int)) (j:=7919) (by decide) (by decide),cY,hS,aGB,gG,d2,fJ (j:=2147483629) (by decide),pZ s1.1 s1.2,pZ s2.1 s2.2,fJ (j:=2147483587) (by decide),pZ s3.1 s3.2,fJ (j:=1999999973) (by decide),fJ hm',er]
noncomputable def oE:Sx:=match hJ with
 | .seq _ (.seq _ (.seq i _))=>i
 | _=>.skip
noncomputable def aBx:Sx:=match hJ with
 | .seq _ (.seq p _)=>p
 | _=>.skip
noncomputable def xG:Sx:=match hJ with
 | .seq p _=>p
 | _=>.skip
theorem aLH(d n k m:Nat)(ns:List Int)(x:Int)(S:aC)(hS:S[n]? = qq (qq (dH ns k x)))(hm:0<m)(hm2:m<2^64)(hk:k<=100000) :
 ∃ (r:Nat) (x':Int),r<m/\cl fns (d+1) 14 [.loc n,.d (.int m)] S=qq (.d (.int r),S.set n (qq (dH ns (k+1) x'))):=by
 have hm':(0:Int)<(m:Int):=by omega
 have hm2':(m:Int)<2^64:=by exact_mod_cast hm2
 have e1:(k:Int)/12+1=((k/12+1:Nat):Int):=by omega
 have e2:(k:Int)+1=((k+1:Nat):Int):=by omega
 have gs:=λ v=>aMR (v:=v) hS
 have start:(dA (xs (aF fns d) xG) (xs (aF fns d) aBx)) [qq (.loc n),qq (.d (.int m)),qz,qz,qz,qz] S=qq (.nx [qq (.loc n),qq (.d (.int m)),qz,qq (.d (.list (ns.map yAp))),qq (.d (.int k)),qz],S.set n (qq (dH ns (k+1) x))):=by
  unfold dH at hS ⊢;simp only[evs,xG,aBx,hJ,cR,cL,cV,hS,aRF,nH,mS,aQ1,cY,e2]
 have eY:∀ (R:Option (Fl×aC)),dA (xs (aF fns d) oE) (xs (aF fns d) qB) [qq (.loc n),qq (.d (.int m)),qz,qq (.d (.list (ns.map yAp))),qq (.d (.int k)),qz] (S.set n (qq (dH ns (k+1) x)))=R ->
  cl fns (d+1) 14 [.loc n,.d (.int m)] S=R.bind λ p=>match p.1 with
   | .rt w=>kT S.length p.2 w
   | .nx _=>qq (.d .none,p.2.take S.length)
   | _=>qz:=λ R hR=>by
  rw[dJ rfl d _ S rfl,<- hR];simp only[dA] at start ⊢;cases q:xs (aF fns d) xG [qq (.loc n),qq (.d (.int m)),qz,qz,qz,qz] S with
  | none=>rw[q] at start;cases start
  | some z =>
    obtain⟨fl,S1⟩:=z;rw[q] at start;simp only[oB] at start;cases fl with
    | nx e =>
      simp only at start;show((dA (xs (aF fns d) xG) (dA (xs (aF fns d) aBx) (dA (xs (aF fns d) oE) (xs (aF fns d) qB)))) [qq (.loc n),qq (.d (.int m)),qz,qz,qz,qz] S).bind _=_;simp only[dA,q,oB,start]
      all_goals rfl
    | rt w=>cases start
    | bk e=>cases start
    | ct e=>cases start
 have hS2:(S.set n (qq (dH ns (k+1) x)))[n]? = qq (qq (dH ns (k+1) x)):=gs _;have skip:xs (aF fns d) oE [qq (.loc n),qq (.d (.int m)),qz,qq (.d (.list (ns.map yAp))),qq (.d (.int k)),qz] (S.set n (qq (dH ns (k+1) x)))=qq (.nx [qq (.loc n),qq (.d (.int m)),qz,qq (.d (.list (ns.map yAp))),qq (.d (.int k)),qz],S.set n (qq (dH ns (k+1) x))) ->
  ∃ (r:Nat) (x':Int),r<m/\cl fns (d+1) 14 [.loc n,.d (.int m)] S=qq (.d (.int r),S.set n (qq (dH ns (k+1) x'))):=λ h=>by
  obtain⟨r,hr,ht⟩:=aKh (aF fns d) n k m ns x _ qz qz hS2 hm hk;refine⟨r,x,hr,?_⟩;rw[eY _ rfl];simp only[dA,h,oB,ht,kT,aAX]
 by_cases c1:k/12+1<ns.length
 ·have d1:decide (((k/12+1:Nat):Int)<((ns.length:Nat):Int))=true:=dqT (by omega)
  have i0:bC (.list (ns.map yAp)) (.int 0)=qq (.int ns[0]):=qF (k:=0) (by omega)
  rcases yBv (ns[0]%2==1) with c2 | c2
  ·rcases yBv ((k:Int)%12==0) with c3 | c3
   ·obtain⟨r,er,hr⟩:=tG ns[k/12+1] hm;refine⟨r,ns[k/12+1]/(m:Int),hr,?_⟩;rw[eY _ rfl];unfold dH at hS2 ⊢;simp only[evs,oE,hJ,nH,mS,aHj,cY,mM (i:=(k:Int)) (j:=12) (by decide) (by decide),e1,cH,cZ,nW,dE,d1,i0,fJ (i:=ns[0]) (j:=2) (by decide),cG,c2,fJ (i:=(k:Int)) (j:=12) (by decide),c3,hS2,gs,yFz,qF c1,aGn,fJ hm',er,mM hm' hm2',aAX]
   ·obtain⟨r,er,hr⟩:=tG x hm;refine⟨r,x/(m:Int),hr,?_⟩;rw[eY _ rfl];unfold dH at hS2 ⊢;simp only[evs,oE,hJ,nH,mS,aHj,cY,mM (i:=(k:Int)) (j:=12) (by decide) (by decide),e1,cH,cZ,nW,dE,d1,i0,fJ (i:=ns[0]) (j:=2) (by decide),cG,c2,fJ (i:=(k:Int)) (j:=12) (by decide),c3,hS2,gs,yFz,aGn,fJ hm',er,mM hm' hm2',aAX]
  ·apply skip;simp only[evs,oE,hJ,cY,mM (i:=(k:Int)) (j:=12) (by decide) (by decide),e1,cH,cZ,nW,dE,d1,i0,fJ (i:=ns[0]) (j:=2) (by decide),cG,c2]
 ·have d1:decide (((k/12+1:Nat):Int)<((ns.length:Nat):Int))=false:=dqF (by omega)
  apply skip;simp only[evs,oE,hJ,cY,mM (i:=(k:Int)) (j:=12) (by decide) (by decide),e1,cH,cZ,nW,dE,d1]
inductive Wd where
 | «in» | num | not | and | or | xor | add | sub | mul | left | right | slide | cut | wide | sign | same | less | under | pick
 deriving DecidableEq
noncomputable def Wd.s:Wd->Str
 | .in => "in" | .num => "num" | .not => "not" | .and => "and" | .or => "or" | .xor => "xor" | .add => "add" | .sub => "sub" | .mul => "mul" | .left => "left" | .right => "right" | .slide => "slide"
 | .cut => "cut" | .wide => "wide" | .sign => "sign" | .same => "same" | .less => "less" | .under => "under" | .pick => "pick"
structure Rw where
 wd:Wd
 w:Nat
 args:List Nat
noncomputable def nD(n:Nat):D:=.int n
noncomputable def Rw.d(r:Rw):D:=.tuple (.str r.wd.s::nD r.w::r.args.map nD)
def iC(ws:List Nat)(r:Rw):Prop:=1<=r.w/\r.w<=64/\match r.wd,r.args with
 | .in,[]=>True
 | .num,[n]=>n<2^r.w
 | .not,[a]=>ws[a]? = qq r.w
 | .and,[a,b] | .or,[a,b] | .xor,[a,b] | .add,[a,b] | .sub,[a,b] | .mul,[a,b]=>ws[a]? = qq r.w/\ws[b]? = qq r.w
 | .left,[a,k] | .right,[a,k] | .slide,[a,k]=>ws[a]? = qq r.w/\k<64
 | .cut,[a]=>∃ v,ws[a]? = qq v/\r.w<=v
 | .wide,[a] | .sign,[a]=>∃ v,ws[a]? = qq v/\v<=r.w
 | .same,[a,b] | .less,[a,b] | .under,[a,b]=>r.w=1/\∃ v,ws[a]? = qq v/\ws[b]? = qq v
 | .pick,[c,a,b]=>ws[c]? = qq 1/\ws[a]? = qq r.w/\ws[b]? = qq r.w
 | _,_=>False
noncomputable def dF:List Nat->List Rw->Prop
 | _,[]=>True
 | ws,r::rs=>iC ws r/\dF (ws++[r.w]) rs
theorem aAJ:∀ {rs:List Rw}{ws:List Nat}{r:Rw},dF ws rs->iC (ws++rs.map (·.w)) r->dF ws (rs++[r])
 | [],ws,r,_,h=>⟨by simpa using h,True.intro⟩
 | q::rs,ws,r,⟨h1,h2⟩,h=>⟨h1,aAJ h2 (by simpa using h)⟩
noncomputable def aU(S:aC)(n p:Nat)(ns:List Int)(k:Nat)(x:Int)(rs:List Rw):aC:=(S.set n (qq (dH ns k x))).set p (qq (rs.map Rw.d))
section
variable {S : aC}{n p : Nat}{ns : List Int}{k : Nat}{x : Int}{rs : List Rw}
structure At0(S:aC)(n p:Nat):Prop where
 hn:n<S.length
 ne:n≠p
structure At(S:aC)(n p:Nat):Prop extends At0 S n p where
 hp:p<S.length
theorem At0.state(h:At0 S n p):(aU S n p ns k x rs)[n]? = qq (qq (dH ns k x)):=by
 unfold aU;rw[yAo h.ne.symm,yAq h.hn]
theorem At.rows(h:At S n p):(aU S n p ns k x rs)[p]? = qq (qq (rs.map Rw.d)):=by
 unfold aU;rw[yAq (by rw[yAt];exact h.hp)]
theorem At.rowsT(h:At S n p)(T:aC):(aU S n p ns k x rs++T)[p]? = qq (qq (rs.map Rw.d)):=by
 rw[xAj (by simp[aU];exact h.hp)]
 exact h.rows
theorem At0.len(h:At0 S n p):(aU S n p ns k x rs).length=S.length:=by simp[aU]
theorem At0.take(h:At0 S n p)(k':Nat)(x':Int)(aS:List Rw):(aU S n p ns k' x' aS).take (aU S n p ns k x rs).length=aU S n p ns k' x' aS:=by
 rw[h.len,yBu];rw[h.len];exact yAe _
theorem At0.put(h:At0 S n p)(k':Nat)(x':Int):(aU S n p ns k x rs).set n (qq (dH ns k' x'))=aU S n p ns k' x' rs:=by
 unfold aU;rw[List.set_comm _ _ h.ne.symm,yFz]
theorem At.putR(h:At S n p)(r:Rw):(aU S n p ns k x rs).set p (qq (rs.map Rw.d++[r.d]))=aU S n p ns k x (rs++[r]):=by
 unfold aU;rw[yFz,yAn];rfl
end
section
variable {S : aC}{n p : Nat}{ns : List Int}{k : Nat}{x : Int}{rs : List Rw}
theorem fA(h:At0 S n p)(d m:Nat)(hm:0<m)(hm2:m<2^64)(hk:k<=100000):∃ (r:Nat) (x':Int),r<m/\cl fns (d+1) 14 [.loc n,.d (.int m)] (aU S n p ns k x rs)=qq (.d (.int r),aU S n p ns (k+1) x' rs):=by
 obtain⟨r,x',hr,e⟩:=aLH d n k m ns x _ h.state hm hm2 hk;exact⟨r,x',hr,by rw[e,h.put]⟩
theorem hU(h:At0 S n p)(d m:Nat){i:Int}(hi:i=(m:Nat))(hm:0<m)(hm2:m<2^64)(hk:k<=100000):∃ (r:Nat) (x':Int),r<m/\cl fns (d+1) 14 [.loc n,.d (.int i)] (aU S n p ns k x rs)=qq (.d (.int r),aU S n p ns (k+1) x' rs):=by
 subst hi;exact fA h d m hm hm2 hk
theorem aEW{w:Nat}(h:w<64):2^w<2^64:=yFa (by decide) h
theorem aJ3(h:At0 S n p)(d w:Nat)(hw:w<=64)(hk:k<=99000):∃ (r k':Nat) (x':Int),r<2^w/\k'<=k+2/\cl fns (d+2) 15 [.loc n,.d (.int w)] (aU S n p ns k x rs)=qq (.d (.int r),aU S n p ns k' x' rs):=by
 by_cases c:w<31
 ·have d1:decide ((w:Int)<31)=true:=dqT (by omega)
  obtain⟨r,x',hr,e⟩:=fA (ns:=ns) (k:=k) (x:=x) (rs:=rs) h d (2^w) (xA w) (aEW (by omega)) (by omega)
  refine⟨r,k+1,x',hr,by omega,?_⟩
  rw[dJ rfl (d+1) _ _ rfl];simp only[evs,dB,aAD,dE,d1,iP (show w<=100000 by omega),e,h.take]
 ·have d1:decide ((w:Int)<31)=false:=dqF (by omega)
  have e1:(w:Int)-30=((w-30:Nat):Int):=by omega
  have s30:=iP (w:=30) (by decide)
  rw[show((30:Nat):Int)=30 from rfl] at s30
  obtain⟨r,x',hr,e⟩:=fA (ns:=ns) (k:=k) (x:=x) (rs:=rs) h d (2^30) (by decide) (by decide) (by omega)
  obtain⟨q,x2,hq,e'⟩:=fA (ns:=ns) (k:=k+1) (x:=x') (rs:=rs) h d (2^(w-30)) (xA _) (aEW (by omega)) (by omega)
  have hb:r+q*2^30<2^w:=by
   have e3:(2:Nat)^w=2^(w-30)*2^30:=by rw[<- Nat.pow_add,show w-30+30=w by omega]
   have h3:(q+1)*2^30<=2^(w-30)*2^30:=yDq _ hq;rw[Nat.add_mul] at h3;omega
  have sh:bK .LShift (.int q) (.int 30)=qq (.int ((q*2^30:Nat):Int)):=aL8 (n:=q) (a:=w-30) (k:=30) hq (by omega)
  have ad:(r:Int)+((q*2^30:Nat):Int)=((r+q*2^30:Nat):Int):=(Int.natCast_add _ _).symm;refine⟨r+q*2^30,k+2,x2,hb,by omega,?_⟩
  rw[dJ rfl (d+1) _ _ rfl];simp only[evs,dB,aAD,dE,d1,s30,e,dW,e1,iP (show w-30<=100000 by omega),e',sh,cY,ad,h.take]
end
theorem at4(a b c e:D){r:Nat}(h1:r<4):∃ x,(x=a\/x=b\/x=c\/x=e)/\bC (.list [a,b,c,e]) (.int r)=qq x:=by
 have:r=0\/r=1\/r=2\/r=3:=by omega
 rcases this with rfl | rfl | rfl | rfl
 ·exact⟨a,.inl rfl,rfl⟩
 ·exact⟨b,.inr (.inl rfl),rfl⟩
 ·exact⟨c,.inr (.inr (.inl rfl)),rfl⟩
 ·exact⟨e,.inr (.inr (.inr rfl)),rfl⟩
section
variable {S : aC}{n p : Nat}{ns : List Int}{k : Nat}{x : Int}{rs : List Rw}
theorem aEL(h:At0 S n p)(d:Nat)(hk:k<=99000):∃ (w:Nat) (x':Int),1<=w/\w<=64/\cl fns (d+2) 16 [.loc n] (aU S n p ns k x rs)=qq (.d (.int w),aU S n p ns (k+3) x' rs):=by
 obtain⟨r1,x1,h1,e1⟩:=hU (ns:=ns) (k:=k) (x:=x) (rs:=rs) h d 8 (i:=8) rfl (by decide) (by decide) (by omega)
 obtain⟨r2,x2,h2,e2⟩:=hU (ns:=ns) (k:=k+1) (x:=x1) (rs:=rs) h d 64 (i:=64) rfl (by decide) (by decide) (by omega)
 obtain⟨r3,x3,h3,e3⟩:=hU (ns:=ns) (k:=k+2) (x:=x2) (rs:=rs) h d 4 (i:=4) rfl (by decide) (by decide) (by omega)
 have a1:(1:Int)+(r1:Int)=((1+r1:Nat):Int):=by omega
 have a2:(1:Int)+(r2:Int)=((1+r2:Nat):Int):=by omega
 obtain⟨y,hy,e⟩:=at4 (.int 1) (.int 64) (.int ((1+r1:Nat):Int)) (.int ((1+r2:Nat):Int)) h3;obtain⟨w,sE,cI,rfl⟩:∃ w:Nat,1<=w/\w<=64/\y=.int w:=by
  rcases hy with rfl | rfl | rfl | rfl
  ·exact⟨1,by decide,by decide,rfl⟩
  ·exact⟨64,by decide,by decide,rfl⟩
  ·exact⟨_,by omega,by omega,rfl⟩
  ·exact⟨_,by omega,by omega,rfl⟩
 refine⟨w,x3,sE,cI,?_⟩;rw[dJ rfl (d+1) _ _ rfl];simp only[evs,dB,aDv,e1,e2,e3,cY,a1,a2,e,h.take]
end
theorem aCj(a b:D):bC (.list [a,b]) (.int ((0:Nat):Int))=qq a:=rfl
theorem aCe(a b:D):bC (.list [a,b]) (.int ((1:Nat):Int))=qq b:=rfl
theorem aFF{t:Tg}{fb:FS}(P:Nat->aV->aC->Prop):∀ (ds:List D) (i:Nat) (env:aV) (S:aC),P i env S->(∀ j d env S,i<=j->j<i+ds.length->P j env S->∃ e1 aO S',t.put d env=qq e1/\fb e1 S=qq (.nx aO,S')/\P (j+1) aO S') ->
 ∃ aO S',eJ t fb ds env S=qq (.nx aO,S')/\P (i+ds.length) aO S'
 | [],i,env,S,h0,_=>⟨env,S,rfl,h0⟩
 | d::ds,i,env,S,h0,h=>by
   obtain⟨e1,aO,S',h1,h2,h3⟩:=h i d env S (yAe _) (by simp) h0
   obtain⟨env2,S2,h4,h5⟩:=aFF P ds (i+1) aO S' h3 λ j d' env S a b=>h j d' env S (by omega) (by simp at b ⊢;omega)
   refine⟨env2,S2,by simp only[eJ,h1,oB,h2];exact h4,?_⟩
   have:i+(d::ds).length=i+1+ds.length:=by simp;omega
   rw[this];exact h5
theorem xQ{t:Tg}{fi:FL}{fb:FS}{env:aV}{S S1:aC}{ds:List D}(P:Nat->aV->aC->Prop)(hi:fi env S=qq (ds,S1))(h0:P 0 env S1)(h:∀ j d env S,j<ds.length->P j env S->∃ e1 aO S',t.put d env=qq e1/\fb e1 S=qq (.nx aO,S')/\P (j+1) aO S') :
 ∃ aO S',gZ t fi fb env S=qq (.nx aO,S')/\P ds.length aO S':=by
 obtain⟨aO,S',h1,h2⟩:=aFF (t:=t) (fb:=fb) P ds 0 env S1 h0 λ j d env S _ b=>h j d env S (by omega)
 exact⟨aO,S',by unfold gZ;rw[hi,oB];exact h1,by simpa using h2⟩
theorem b2i(b:Bool):∃ q:Nat,q<2/\(if b then (1:Int) else 0)=(q:Int):=by
 cases b
 ·exact⟨0,by decide,rfl⟩
 ·exact⟨1,by decide,rfl⟩
theorem at2(a b:D){r:Nat}(h1:r<2):∃ x,(x=a\/x=b)/\bC (.list [a,b]) (.int r)=qq x:=by
 have:r=0\/r=1:=by omega
 rcases this with rfl | rfl
 ·exact⟨a,.inl rfl,rfl⟩
 ·exact⟨b,.inr rfl,rfl⟩
theorem kJ{C:Calls}{a r:Sx}{env e1:aV}{S S1:aC}(h:xs C a env S=qq (.nx e1,S1)):xs C (.seq a r) env S=xs C r e1 S1:=by simp only[oK,dA,h,oB]
theorem aHI(ns:List Int)(k:Nat)(x:Int):aU [qz] 0 1 ns k x []=[qq (dH ns k x)]:=rfl
theorem at1:At0 [qz] 0 1:=⟨by decide,by decide⟩
noncomputable abbrev s0(ns:List Int)(k:Nat)(x:Int):aC:=[qq (dH ns k x)]
section
variable {ns : List Int}{k : Nat}{x : Int}
theorem aGR(d m:Nat)(hm:0<m)(hm2:m<2^64)(hk:k<=100000):∃ (r:Nat) (x':Int),r<m/\cl fns (d+1) 14 [.loc 0,.d (.int m)] (s0 ns k x)=qq (.d (.int r),s0 ns (k+1) x'):=by
 obtain⟨r,x',hr,e⟩:=fA (rs:=[]) (ns:=ns) (k:=k) (x:=x) at1 d m hm hm2 hk;exact⟨r,x',hr,e⟩
theorem uP(d m:Nat){i:Int}(hi:i=(m:Nat))(hm:0<m)(hm2:m<2^64)(hk:k<=100000):∃ (r:Nat) (x':Int),r<m/\cl fns (d+1) 14 [.loc 0,.d (.int i)] (s0 ns k x)=qq (.d (.int r),s0 ns (k+1) x'):=by
 subst hi;exact aGR d m hm hm2 hk
end
section
variable {S : aC}{n p : Nat}{ns : List Int}{k : Nat}{x : Int}{rs : List Rw}
theorem aOZ(h:At0 S n p)(d w:Nat)(hw:1<=w)(cI:w<=64)(hk:k<=98000):∃ (r k':Nat) (x':Int),r<2^w/\k'<=k+5/\cl fns (d+3) 17 [.loc n,.d (.int w)] (aU S n p ns k x rs)=qq (.d (.int r),aU S n p ns k' x' rs):=by
 have hw3:w<2^64:=by omega
 have hp:=xA w;obtain⟨r1,x1,h1,e1⟩:=hU (ns:=ns) (k:=k) (x:=x) (rs:=rs) h (d+1) 5 (i:=5) rfl (by decide) (by decide) (by omega)
 obtain⟨r2,x2,h2,e2⟩:=fA (ns:=ns) (k:=k+1) (x:=x1) (rs:=rs) h (d+1) w (by omega) hw3 (by omega)
 obtain⟨r3,x3,h3,e3⟩:=fA (ns:=ns) (k:=k+2) (x:=x2) (rs:=rs) h (d+1) w (by omega) hw3 (by omega)
 by_cases c:r1<4
 ·have d1:decide ((r1:Int)<4)=true:=dqT (by omega)
  obtain⟨y,hy,e⟩:=at4 (.int 0) (.int ((2^w-1:Nat):Int)) (.int ((2^r2:Nat):Int)) (.int ((2^r3-1:Nat):Int)) c;obtain⟨q,hq,rfl⟩:∃ q:Nat,q<2^w/\y=.int q:=by
   have l2:2^r2<2^w:=yFa (by decide) h2
   have l3:2^r3<2^w:=yFa (by decide) h3
   rcases hy with rfl | rfl | rfl | rfl
   ·exact⟨0,hp,rfl⟩
   ·exact⟨_,by omega,rfl⟩
   ·exact⟨_,l2,rfl⟩
   ·exact⟨_,by omega,rfl⟩
  refine⟨q,k+3,x3,hq,by omega,?_⟩
  rw[dJ rfl (d+2) _ _ rfl];simp only[evs,dB,aAU,e1,iP (show w<=100000 by omega),dW,aAZ,e2,iP (show r2<=100000 by omega),e3,iP (show r3<=100000 by omega),dE,d1,e,h.take]
 ·have d1:decide ((r1:Int)<4)=false:=dqF (by omega)
  obtain⟨r,k',x',hr,hk',e⟩:=aJ3 (ns:=ns) (k:=k+3) (x:=x3) (rs:=rs) h d w cI (by omega)
  refine⟨r,k',x',hr,by omega,?_⟩
  rw[dJ rfl (d+2) _ _ rfl];simp only[evs,dB,aAU,e1,iP (show w<=100000 by omega),dW,aAZ,e2,iP (show r2<=100000 by omega),e3,iP (show r3<=100000 by omega),dE,d1,e,h.take]
end
theorem aBZ:∀ L:List Nat,yCr (L.map nD)=true
 | []=>rfl
 | a::r=>by
   have ih:=aBZ r;simp only[yAi,yCr,ih,yFs];rfl
theorem aBc:∀ L:List Nat,yCj (L.map nD)=0
 | []=>rfl
 | a::r=>by
   have ih:=aBc r;simp only[yAi,yCj,ih];rfl
theorem aBQ(L:List Nat):bA .NotEq (.list (L.map nD)) (.list [])=qq (.bool (!L.isEmpty)):=by
 have h1:(yBg (L.map nD)).canLay0=true:=aBZ L;have h2:(yBg (L.map nD)).depth<=60:=by
  show yCj (L.map nD)+1<=60;rw[aBc];decide
 unfold bA jC;simp only[];rw[if_pos ⟨h1,rfl,h2⟩];cases L<;>rfl
theorem aNY(L:List Nat):bA .Eq (.list (L.map nD)) (.list [])=qq (.bool L.isEmpty):=by
 have h1:(yBg (L.map nD)).canLay0=true:=aBZ L;have h2:(yBg (L.map nD)).depth<=60:=by
  show yCj (L.map nD)+1<=60;rw[aBc];decide
 unfold bA jC;simp only[];rw[if_pos ⟨h1,rfl,h2⟩];cases L<;>rfl
theorem fO(r:Rw):bC r.d (.int 1)=qq (.int r.w):=qG (xs:=.str r.wd.s::nD r.w::r.args.map nD) (k:=1) rfl
noncomputable def wdE(a b:Wd):Bool:=match bA .Eq (.str a.s) (.str b.s) with
 | some (.bool c)=>c==decide (a=b)
 | _=>false
theorem aOR(a b:Wd):wdE a b=true:=by
 have h:∀ i:Fin 19,∀ j:Fin 19,wdE (Wd.ofNat i) (Wd.ofNat j)=true:=by decide +kernel
 have e:∀ a:Wd,∃ i:Fin 19,Wd.ofNat i=a:=λ a=>⟨⟨a.ctorIdx,by cases a<;>decide⟩,Wd.ofNat_ctorIdx a⟩
 obtain⟨i,rfl⟩:=e a;obtain⟨j,rfl⟩:=e b;exact h i j
theorem gT(a b:Wd):bA .Eq (.str a.s) (.str b.s)=qq (.bool (decide (a=b))):=by
 have h:=aOR a b;unfold wdE at h
 split at h
 ·rename_i c e;rw[e,eq_of_beq h]
 ·cases h
theorem sP(a:Wd):bA .In (.str a.s) (.tuple [.str "left",.str "right",.str "slide"])=qq (.bool (decide (a=.left\/a=.right\/a=.slide))):=by cases a<;>rfl
theorem aOJ(a:Wd):bA .In (.str a.s) (.tuple [.str "cut",.str "wide",.str "sign"])=qq (.bool (decide (a=.cut\/a=.wide\/a=.sign))):=by cases a<;>rfl
theorem xD(a:Wd):bA .In (.str a.s) (.tuple [.str "same",.str "less",.str "under"])=qq (.bool (decide (a=.same\/a=.less\/a=.under))):=by cases a<;>rfl
theorem bS{C:Calls}{c:E}{t bT:Sx}{env:aV}{S S1:aC}{r:Option (Fl×aC)}(h:tv C c env S=qq (false,S1))(k:xs C bT env S1=r):xs C (.seq (.ifs c t .skip) bT) env S=r:=by
 rw[<- k];simp only[oK,tK,aFv,dA,nO,oZ,h,oB,yAz,if_false]
theorem cF{C:Calls}{c:E}{t e bT:Sx}{env:aV}{S S1 S2:aC}{w:W}(h:tv C c env S=qq (true,S1))(k:xs C t env S1=qq (.rt w,S2)):xs C (.seq (.ifs c t e) bT) env S=qq (.rt w,S2):=by
 simp only[oK,tK,dA,nO,h,oB,if_true,k]
theorem bG{C:Calls}{e:E}{bT:Sx}{env:aV}{S S1:aC}{w:W}(h:ev C e env S=qq (w,S1)):xs C (.seq (.ret e) bT) env S=qq (.rt w,S1):=by
 simp only[oK,aF4,dA,nF,h,oB]
theorem bM{C:Calls}{i:Nat}{e:E}{bT:Sx}{env aO:aV}{S S1:aC}{w:W}{r:Option (Fl×aC)}(h:ev C e env S=qq (w,S1))(he:env.set i (qq w)=aO)(k:xs C bT aO S1=r):xs C (.seq (.set i e) bT) env S=r:=by
 subst he;rw[<- k];simp only[oK,oC,dA,dO,h,oB]
theorem cT{fs:List Fn}{f:Nat}{F:Fn}(h:fs[f]? = qq F)(d:Nat){ws:List W}{env:aV}{S S1:aC}{x:D}(hw:ws.length=F.np)(he:ws.map qq++yAh (F.N.length-ws.length) qz=env)(hS:S1.take S.length=S1)(k:xs (aF fs d) F.body env S=qq (.rt (.d x),S1)):cl fs (d+1) f ws S=qq (.d x,S1):=by
 subst he;rw[dJ h d ws S hw];simp only[dB,k,oB,kT,hS]
theorem iR{C:Calls}{i:Nat}{x:Str}{env:aV}{S:aC}{a:D}{b:Bool}(h:env[i]? = qq (qq (.d a)))(hc:bA .Eq a (.str x)=qq (.bool b)):tv C (.cmp .Eq (.var i) (.str x)) env S=qq (b,S):=by
 simp only[evs,h,hc]
theorem kL{C:Calls}{i:Nat}{e:E}{env:aV}{S:aC}{a t:D}{b:Bool}(h:env[i]? = qq (qq (.d a)))(he:ev C e env S=qq (.d t,S))(hc:bA .In a t=qq (.bool b)):tv C (.cmp .In (.var i) e) env S=qq (b,S):=by
 simp only[evs,h,he,hc]
noncomputable def cP:Sx->Sx
 | .seq _ b=>b
 | x=>x
theorem iW{C:Calls}{c:E}{a b:Sx}{env:aV}{S S1:aC}{r:Option (Fl×aC)}(h:tv C c env S=qq (true,S1))(k:xs C a env S1=r):xs C (.ifs c a b) env S=r:=by
 rw[<- k];simp only[tK,nO,h,oB,if_true]
theorem aCm{C:Calls}{c:E}{a b:Sx}{env:aV}{S S1:aC}{r:Option (Fl×aC)}(h:tv C c env S=qq (false,S1))(k:xs C b env S1=r):xs C (.ifs c a b) env S=r:=by
 rw[<- k];simp only[tK,nO,h,oB,yAz,if_false]
theorem dY{C:Calls}{a b:Sx}{env e1:aV}{S S1:aC}{r:Option (Fl×aC)}(h:xs C a env S=qq (.nx e1,S1))(k:xs C b e1 S1=r):xs C (.seq a b) env S=r:=by
 rw[kJ h];exact k
theorem tS{C:Calls}{a:Sx}{env e1:aV}{S S1:aC}(h:xs C a env S=qq (.nx e1,S1)):xs C (.seq a .skip) env S=qq (.nx e1,S1):=dY h rfl
theorem jL{C:Calls}{i:Nat}{e:E}{env:aV}{S S1:aC}{w:W}(h:ev C e env S=qq (w,S1)):xs C (.seq (.set i e) .skip) env S=qq (.nx (env.set i (qq w)),S1):=bM h rfl rfl
theorem uV{C:Calls}{s:Sx}{c:E}{a b:Sx}{env r:aV}{S S1:aC}(hs:s=.ifs c a (.seq b .skip))(h:tv C c env S=qq (false,S))(k:xs C b env S=qq (.nx r,S1)):xs C s env S=qq (.nx r,S1):=by
 rw[hs];exact aCm h (tS k)
section
variable {S : aC}{n p : Nat}{ns : List Int}{k : Nat}{x : Int}{rs : List Rw}
theorem xN{a:Nat}{r:Rw}(h:rs[a]? = qq r):bC (.list (rs.map Rw.d)) (.int a)=qq r.d:=eR (by rw[xAb,h];rfl)
theorem gR(rs:List Rw):(rs.map Rw.d).length=rs.length:=yAb ..
theorem aFo(h:At S n p)(hl:rs.length<=1000)(r:Rw):fS (aU S n p ns k x rs) (.loc p) (.d r.d)=qq (.d .none,aU S n p ns k x (rs++[r])):=by
 unfold fS;simp only[h.rows];rw[if_pos (by rw[gR,qo];omega),h.putR]
structure Opd(rs aS:List Rw)(a w:Nat):Prop where
 ext:∃ t,aS=rs++t/\t.length<=1
 ok:dF [] aS
 wd:(aS.map (·.w))[a]? = qq w
theorem nI{a:Nat}{r:Rw}(h:rs[a]? = qq r):(rs.map (·.w))[a]? = qq r.w:=by rw[xAb,h];rfl
theorem aGd(h:At S n p)(d a w:Nat)(hr:dF [] rs)(ha:a<rs.length)(hl:rs.length<=100)(hw:1<=w)(cI:w<=64)(hk:k<=99000) :
 ∃ (a' k':Nat) (x':Int) (aS:List Rw),Opd rs aS a' w/\k'<=k+1/\cl fns (d+2) 18 [.loc n,.loc p,.d (.int a),.d (.int w)] (aU S n p ns k x rs)=qq (.d (.int a'),aU S n p ns k' x' aS):=by
 obtain⟨r,hra⟩:∃ r,rs[a]? = qq r:=⟨rs[a],yAc ha⟩;have ga:=xN hra
 by_cases c:r.w=w
 ·refine⟨a,k,x,rs,⟨⟨[],by simp,by simp⟩,hr,by rw[nI hra,c]⟩,by omega,?_⟩
  rw[dJ rfl (d+1) _ _ rfl];simp only[evs,dB,sN,h.rows,ga,fO,cG,c,beq_self_eq_true,h.take]
 ·have c':(((r.w:Nat):Int)==((w:Nat):Int))=false:=by
   rw[beq_eq_false_iff_ne];intro z;exact c (by exact_mod_cast z)
  obtain⟨q,x',hq,e⟩:=hU (ns:=ns) (k:=k) (x:=x) (rs:=rs) h.toAt0 d 2 (i:=2) rfl (by decide) (by decide) (by omega)
  have bI:∀ wd:Wd,iC ([]++rs.map (·.w)) ⟨wd,w,[a]⟩->Opd rs (rs++[⟨wd,w,[a]⟩]) rs.length w:=λ wd ok=>⟨⟨_,rfl,yAe _⟩,aAJ hr ok,by simp⟩
  have len1:∀ r:Rw,((rs++[r]).length:Int)-1=((rs.length:Nat):Int):=λ r=>by simp
  have ap:∀ wd:Wd,fS (aU S n p ns (k+1) x' rs) (.loc p) (.d (.tuple [.str wd.s,.int w,.int a]))=qq (.d .none,aU S n p ns (k+1) x' (rs++[⟨wd,w,[a]⟩])):=λ wd=>aFo h (by omega) ⟨wd,w,[a]⟩
  by_cases c2:w<r.w
  ·have d2:decide (((w:Nat):Int)<((r.w:Nat):Int))=true:=dqT (by omega)
   refine⟨rs.length,k+1,x',_,bI .cut ⟨hw,cI,r.w,by simpa using nI hra,yEo c2⟩,by omega,?_⟩
   have ap':=ap .cut;simp only[Wd.s] at ap';have:q=0\/q=1:=by omega
   rw[dJ rfl (d+1) _ _ rfl];rcases this with rfl | rfl
   all_goals simp only[evs,dB,sN,h.rows,ga,fO,cG,c',e,aCj,aCe,gG,d2,gK,ap',cH,cZ,gR,dW,len1,h.take]
  ·have d2:decide (((w:Nat):Int)<((r.w:Nat):Int))=false:=dqF (by omega)
   have:q=0\/q=1:=by omega
   rcases this with rfl | rfl
   ·refine⟨rs.length,k+1,x',_,bI .wide ⟨hw,cI,r.w,by simpa using nI hra,yEx c2⟩,by omega,?_⟩
    have ap':=ap .wide;simp only[Wd.s] at ap';rw[dJ rfl (d+1) _ _ rfl];simp only[evs,dB,sN,h.rows,ga,fO,cG,c',e,aCj,gG,d2,gK,ap',cH,cZ,gR,dW,len1,h.take]
   ·refine⟨rs.length,k+1,x',_,bI .sign ⟨hw,cI,r.w,by simpa using nI hra,yEx c2⟩,by omega,?_⟩
    have ap':=ap .sign;simp only[Wd.s] at ap';rw[dJ rfl (d+1) _ _ rfl];simp only[evs,dB,sN,h.rows,ga,fO,cG,c',e,aCe,gG,d2,gK,ap',cH,cZ,gR,dW,len1,h.take]
end
section
variable {S : aC}{n p : Nat}{ns : List Int}{k : Nat}{x : Int}{rs : List Rw}
theorem aAS:∀ {rs:List Rw}{ws:List Nat}{a:Nat}{r:Rw},dF ws rs->rs[a]? = qq r->1<=r.w/\r.w<=64
 | q::rs,ws,0,r,⟨h1,_⟩,e=>by
   have e':q=r:=by simpa using e
   subst e';exact⟨h1.1,h1.2.1⟩
 | q::rs,ws,a+1,r,⟨_,h2⟩,e=>aAS h2 (by simpa using e)
 | [],_,_,_,_,e=>by simp at e
noncomputable def sV:Sx:=match sG with
 | .seq _ r=>r
 | _=>.skip
theorem sK(h:At S n p)(d w:Nat)(hr:dF [] rs)(h0:0<rs.length)(hl:rs.length<=100)(hw:1<=w)(cI:w<=64)(hk:k<=98000) :
 ∃ (a k':Nat) (x':Int) (aS:List Rw),Opd rs aS a w/\k'<=k+3/\cl fns (d+3) 19 [.loc n,.loc p,.d (.int w)] (aU S n p ns k x rs)=qq (.d (.int a),aU S n p ns k' x' aS):=by
 have hc:gW (.one 4) (lv (aF fns (d+2)) (.rng1 (.blt .len (.cons (.var 1) .nil)))) (tv (aF fns (d+2)) (.cmp .Eq (.ix (.ix (.var 1) (.var 4)) (.int 1)) (.var 2))) (ev (aF fns (d+2)) (.var 4)) [qq (.loc n),qq (.loc p),qq (.d (.int w)),qz,qz] (aU S n p ns k x rs)
  = qq (((yAw rs.length).filter λ j=>(rs.map (·.w))[j]?==qq w).map nD,aU S n p ns k x rs):=by
  refine wX nD nD (λ j=>(rs.map (·.w))[j]?==qq w) (yAw rs.length) ?_ (by rw[yFp,qo];omega) (λ j hj=>?_)
  ·simp only[yB,nZ,qO];refine mG ?_ (by omega)
   simp only[evs,h.rows,cH,cZ,gR]
  ·have hj':j<rs.length:=by simpa using hj
   obtain⟨r,hrj⟩:∃ r,rs[j]? = qq r:=⟨rs[j],yAc hj'⟩;have hb:((rs.map (·.w))[j]?==qq w)=(((r.w:Nat):Int)==((w:Nat):Int)):=by
    rw[nI hrj,Bool.eq_iff_iff];simp;omega
   refine⟨_,rfl,λ aH=>?_,λ _ aH=>?_⟩
   ·rw[hb];simp only[evs,clr,yAj,yAl,nD,h.rowsT,xN hrj,fO,cG]
   ·simp only[evs,clr,yAj,yAl,nD]
 generalize hL:(yAw rs.length).filter (λ j=>(rs.map (·.w))[j]?==qq w)=L at hc
 have hmem:∀ a∈L,(rs.map (·.w))[a]? = qq w:=λ a ha=>by
  rw[<- hL] at ha;simpa using (List.mem_filter.mp ha).2
 have cE:L.length<=rs.length:=by
  rw[<- hL];have:=List.length_filter_le (λ j=>(rs.map (·.w))[j]?==qq w) (yAw rs.length)
  simpa using this
 have set:xs (aF fns (d+2)) (.setC false 3 (.comp (.var 4) (.one 4) (.rng1 (.blt .len (.cons (.var 1) .nil))) (.cmp .Eq (.ix (.ix (.var 1) (.var 4)) (.int 1)) (.var 2)))) [qq (.loc n),qq (.loc p),qq (.d (.int w)),qz,qz] (aU S n p ns k x rs)=qq (.nx [qq (.loc n),qq (.loc p),qq (.d (.int w)),qq (.d (.list (L.map nD))),qz],aU S n p ns k x rs):=by
  simp only[xB,dO,gE];show((gW _ _ _ _ _ _).bind _).bind _=_;rw[hc];simp only[evs]
 have eY:∀ R,xs (aF fns (d+2)) sV [qq (.loc n),qq (.loc p),qq (.d (.int w)),qq (.d (.list (L.map nD))),qz] (aU S n p ns k x rs)=R->cl fns (d+3) 19 [.loc n,.loc p,.d (.int w)] (aU S n p ns k x rs)=R.bind λ q=>match q.1 with
  | .rt w=>kT (aU S n p ns k x rs).length q.2 w
  | .nx _=>qq (.d .none,q.2.take (aU S n p ns k x rs).length)
  | _=>qz:=λ R hR=>by
  rw[dJ rfl (d+2) _ _ rfl,<- hR];show((dA (xs (aF fns (d+2)) (.setC false 3 (.comp (.var 4) (.one 4) (.rng1 (.blt .len (.cons (.var 1) .nil))) (.cmp .Eq (.ix (.ix (.var 1) (.var 4)) (.int 1)) (.var 2))))) (xs (aF fns (d+2)) sV)) [qq (.loc n),qq (.loc p),qq (.d (.int w)),qz,qz] (aU S n p ns k x rs)).bind _=_;simp only[dA,set,oB]
  all_goals rfl
 rw[eY _ rfl];clear eY set hc;have hr64:rs.length<2^64:=by omega
 have nn:=aBQ L;have ll:(L.map nD).length=L.length:=yAb ..;rcases yBv L.isEmpty with hE | hE
 ·rw[hE] at nn;obtain⟨q,x1,hq,e1⟩:=fA (ns:=ns) (k:=k) (x:=x) (rs:=rs) h.toAt0 (d+1) rs.length h0 hr64 (by omega)
  obtain⟨a,k',x',aS,ho,hk',e2⟩:=aGd (ns:=ns) (k:=k+1) (x:=x1) h d q w hr hq hl hw cI (by omega)
  refine⟨a,k',x',aS,ho,by omega,?_⟩
  simp only[evs,sV,sG,nn,h.rows,cH,cZ,gR,e1,e2,h.take]
 ·rw[hE] at nn;have hL0:0<L.length:=by
   cases L with
   | nil=>cases hE
   | cons b r=>simp
  obtain⟨q4,x1,hq4,e1⟩:=hU (ns:=ns) (k:=k) (x:=x) (rs:=rs) h.toAt0 (d+1) 4 (i:=4) rfl (by decide) (by decide) (by omega)
  by_cases c:0<q4
  ·have d1:decide ((0:Int)<(q4:Int))=true:=dqT (by omega)
   obtain⟨q,x2,hq,e2⟩:=fA (ns:=ns) (k:=k+1) (x:=x1) (rs:=rs) h.toAt0 (d+1) L.length hL0 (by omega) (by omega)
   have e3:((L.length:Nat):Int)-1-(q:Int)=((L.length-1-q:Nat):Int):=by omega
   obtain⟨a,ha⟩:∃ a,L[L.length-1-q]? = qq a:=⟨L[L.length-1-q],yAc (by omega)⟩
   have ga:bC (.list (L.map nD)) (.int ((L.length-1-q:Nat):Int))=qq (.int a):=eR (by rw[xAb,ha];rfl)
   refine⟨a,k+2,x2,rs,⟨⟨[],by simp,by simp⟩,hr,hmem a (xAi ha)⟩,by omega,?_⟩
   simp only[evs,sV,sG,nn,e1,gG,d1,cH,cZ,ll,dW,e2,e3,ga,h.take]
  ·have d1:decide ((0:Int)<(q4:Int))=false:=dqF (by omega)
   obtain⟨q,x2,hq,e2⟩:=fA (ns:=ns) (k:=k+1) (x:=x1) (rs:=rs) h.toAt0 (d+1) rs.length h0 hr64 (by omega)
   obtain⟨a,k',x',aS,ho,hk',e3⟩:=aGd (ns:=ns) (k:=k+2) (x:=x2) h d q w hr hq hl hw cI (by omega)
   refine⟨a,k',x',aS,ho,by omega,?_⟩
   simp only[evs,sV,sG,nn,e1,gG,d1,h.rows,cH,cZ,gR,e2,e3,h.take]
end
section
variable {S : aC}{n p : Nat}{ns : List Int}{k : Nat}{x : Int}{rs : List Rw}
theorem aJG(h:At S n p)(d:Nat)(wd:Wd)(wF:wd=.cut\/wd=.wide\/wd=.sign)(hr:dF [] rs)(h0:0<rs.length)(hl:rs.length<=100)(hk:k<=98000) :
 ∃ (r:Rw) (x':Int),iC (rs.map (·.w)) r/\cl fns (d+2) 20 [.loc n,.loc p,.d (.str wd.s)] (aU S n p ns k x rs)=qq (.d r.d,aU S n p ns (k+2) x' rs):=by
 obtain⟨a,x1,ha,e1⟩:=fA (ns:=ns) (k:=k) (x:=x) (rs:=rs) h.toAt0 d rs.length h0 (by omega) (by omega)
 obtain⟨r,hra⟩:∃ r,rs[a]? = qq r:=⟨rs[a],yAc ha⟩;obtain⟨sE,cI⟩:=aAS hr hra;have ga:=xN hra;have cw:=gT wd .cut;rw[show Wd.cut.s=("cut" : Str) from rfl] at cw
 have e65:(65:Int)-(r.w:Int)=((65-r.w:Nat):Int):=by omega
 by_cases c:wd=.cut
 ·subst c;obtain⟨q,x2,hq,e2⟩:=fA (ns:=ns) (k:=k+1) (x:=x1) (rs:=rs) h.toAt0 d r.w (by omega) (by omega) (by omega)
  have a1:(1:Int)+(q:Int)=((1+q:Nat):Int):=by omega
  refine⟨⟨.cut,1+q,[a]⟩,x2,⟨by show 1<=1+q;omega,by show 1+q<=64;omega,r.w,nI hra,by show 1+q<=r.w;omega⟩,?_⟩
  rw[dJ rfl (d+1) _ _ rfl];simp only[evs,dB,aAr,h.rows,cH,cZ,gR,e1,ga,fO,cw,decide_true,e2,cY,a1,h.take];rfl
 ·obtain⟨q,x2,hq,e2⟩:=fA (ns:=ns) (k:=k+1) (x:=x1) (rs:=rs) h.toAt0 d (65-r.w) (by omega) (by omega) (by omega)
  have a1:(r.w:Int)+(q:Int)=((r.w+q:Nat):Int):=by omega
  rw[dqF c] at cw;have ok:iC (rs.map (·.w)) ⟨wd,r.w+q,[a]⟩:=by
   refine⟨by show 1<=r.w+q;omega,by show r.w+q<=64;omega,?_⟩
   rcases wF with rfl | rfl | rfl
   ·exact absurd rfl c
   ·exact⟨r.w,nI hra,by show r.w<=r.w+q;omega⟩
   ·exact⟨r.w,nI hra,by show r.w<=r.w+q;omega⟩
  refine⟨⟨wd,r.w+q,[a]⟩,x2,ok,?_⟩;rw[dJ rfl (d+1) _ _ rfl];simp only[evs,dB,aAr,h.rows,cH,cZ,gR,e1,ga,fO,cw,dW,e65,e2,cY,a1,h.take];rfl
theorem Opd.len{rs aS:List Rw}{a w:Nat}(o:Opd rs aS a w):rs.length<=aS.length/\aS.length<=rs.length+1:=by
 obtain⟨t,rfl,h⟩:=o.ext;simp;omega
theorem Opd.keep{rs aS:List Rw}{a w b v:Nat}(o:Opd rs aS a w)(h:(rs.map (·.w))[b]? = qq v):(aS.map (·.w))[b]? = qq v:=by
 obtain⟨t,rfl,_⟩:=o.ext;rw[yAn,xAj (gIm h).1];exact h
theorem aKj(h:At S n p)(d w:Nat)(wd:Wd)(wF:wd=.left\/wd=.right\/wd=.slide)(hr:dF [] rs)(h0:0<rs.length)(hl:rs.length<=90)(hw:1<=w)(cI:w<=64)(hk:k<=97000) :
 ∃ (r:Rw) (k':Nat) (x':Int) (aS:List Rw),dF [] aS/\rs.length<=aS.length/\aS.length<=rs.length+1/\iC (aS.map (·.w)) r/\k'<=k+6/\cl fns (d+4) 21 [.loc n,.loc p,.d (.str wd.s),.d (.int w)] (aU S n p ns k x rs)=qq (.d r.d,aU S n p ns k' x' aS):=by
 obtain⟨q1,x1,h1,e1⟩:=fA (ns:=ns) (k:=k) (x:=x) (rs:=rs) h.toAt0 (d+2) w (by omega) (by omega) (by omega)
 obtain⟨q2,x2,h2,e2⟩:=hU (ns:=ns) (k:=k+1) (x:=x1) (rs:=rs) h.toAt0 (d+2) 64 (i:=64) rfl (by decide) (by decide) (by omega)
 obtain⟨q3,x3,h3,e3⟩:=hU (ns:=ns) (k:=k+2) (x:=x2) (rs:=rs) h.toAt0 (d+2) 4 (i:=4) rfl (by decide) (by decide) (by omega)
 obtain⟨a,k',x',aS,ho,hk',e4⟩:=sK (ns:=ns) (k:=k+3) (x:=x3) h d w hr h0 (by omega) hw cI (by omega)
 have bI:∀ kk:Nat,kk<64->iC (aS.map (·.w)) ⟨wd,w,[a,kk]⟩:=λ kk hkk=>by
  refine⟨hw,cI,?_⟩;rcases wF with rfl | rfl | rfl<;>exact⟨ho.wd,hkk⟩
 have hq:(q3:Int)/3=((0:Nat):Int)\/(q3:Int)/3=((1:Nat):Int):=by omega
 rcases hq with hq | hq
 ·refine⟨⟨wd,w,[a,q1]⟩,k',x',aS,ho.ok,ho.len.1,ho.len.2,bI q1 (by omega),by omega,?_⟩
  rw[dJ rfl (d+3) _ _ rfl];simp only[evs,dB,aAM,e1,e2,e3,mM (i:=(q3:Int)) (j:=3) (by decide) (by decide),hq,aCj,e4,h.take]
  rfl
 ·refine⟨⟨wd,w,[a,q2]⟩,k',x',aS,ho.ok,ho.len.1,ho.len.2,bI q2 (by omega),by omega,?_⟩
  rw[dJ rfl (d+3) _ _ rfl];simp only[evs,dB,aAM,e1,e2,e3,mM (i:=(q3:Int)) (j:=3) (by decide) (by decide),hq,aCe,e4,h.take]
  rfl
noncomputable def tY(wd:Wd)(w:Nat):Nat:=if (wd=.same\/wd=.less\/wd=.under) then 1 else w
theorem aFA(h:At S n p)(d w:Nat)(wd:Wd)(hr:dF [] rs)(h0:0<rs.length)(hl:rs.length<=90)(hw:1<=w)(cI:w<=64)(hk:k<=97000) :
 ∃ (a b k':Nat) (x':Int) (aS:List Rw),dF [] aS/\(∃ t,aS=rs++t/\t.length<=2)/\(aS.map (·.w))[a]? = qq w/\(aS.map (·.w))[b]? = qq w/\k'<=k+6 /\
  cl fns (d+4) 22 [.loc n,.loc p,.d (.str wd.s),.d (.int w)] (aU S n p ns k x rs)=qq (.d (.tuple [.str wd.s,.int (tY wd w:Nat),.int a,.int b]),aU S n p ns k' x' aS):=by
 obtain⟨a,k1,x1,rs1,o1,hk1,e1⟩:=sK (ns:=ns) (k:=k) (x:=x) h d w hr h0 (by omega) hw cI (by omega)
 have l1:=o1.len;obtain⟨b,k2,x2,rs2,o2,hk2,e2⟩:=sK (ns:=ns) (k:=k1) (x:=x1) h d w o1.ok (by omega) (by omega) hw cI (by omega)
 refine⟨a,b,k2,x2,rs2,o2.ok,?_,o2.keep o1.wd,o2.wd,by omega,?_⟩
 ·obtain⟨t1,rfl,ht1⟩:=o1.ext;obtain⟨t2,rfl,ht2⟩:=o2.ext;exact⟨t1++t2,by simp,by simp;omega⟩
 ·rw[dJ rfl (d+3) _ _ rfl]
  by_cases c:wd=.same\/wd=.less\/wd=.under
  ·have is:=xD wd;rw[dqT c] at is;have pw:tY wd w=1:=if_pos c;simp only[evs,dB,aAP,e1,e2,is,pw,h.take];rfl
  ·have is:=xD wd;rw[dqF c] at is;have pw:tY wd w=w:=if_neg c;simp only[evs,dB,aAP,e1,e2,is,pw,h.take]
end
noncomputable def dN(k:Nat):Sx:=match jK with
 | .seq a1 (.seq a2 (.seq a3 (.seq a4 (.seq a5 (.seq a6 (.seq a7 _))))))=>[a1,a2,a3,a4,a5,a6,a7].getD k .skip
 | _=>.skip
theorem aJP:jK=.seq (dN 0) (.seq (dN 1) (.seq (dN 2) (.seq (dN 3) (.seq (dN 4) (.seq (dN 5) (.seq (dN 6) .skip)))))):=rfl
theorem aPO(a b c e f:D):bK .Add (.tuple [a,b,c]) (.tuple [e,f])=qq (.tuple [a,b,c,e,f]):=by
 show(if [a,b,c].isEmpty=false/\[a,b,c].length+[e,f].length<=qk then qq (yBb ([a,b,c]++[e,f])) else qz)=_
 rw[if_pos ⟨rfl,by rw[qo];show 3+2<=16777216;decide⟩]
 rfl
theorem aP6(a b c e:D):cK [a,b,c,e] (qq 2) qz=[c,e]:=rfl
theorem aQ9:(HT.sIx 4 0 (qq 2)=0/\HT.sIx 4 4 qz=4)=False:=by simp[HT.sIx]
section
variable {S : aC}{n p : Nat}{ns : List Int}{k : Nat}{x : Int}{rs : List Rw}
theorem aLZ(h:At S n p)(d w:Nat)(wd:Wd)(l2 e5 e6:Option W)(hr:dF [] rs)(h0:0<rs.length)(hl:rs.length<=80)(hw:1<=w)(cI:w<=64)(hk:k<=96000) :
 ∃ (r:Rw) (k':Nat) (x':Int) (aS:List Rw) (e6':Option W),dF [] aS/\rs.length<=aS.length/\aS.length<=rs.length+3/\iC (aS.map (·.w)) r/\k'<=k+12 /\
  xs (aF fns (d+4)) (dN 5) [qq (.loc n),qq (.loc p),l2,qq (.d (.str wd.s)),qq (.d (.int w)),e5,e6] (aU S n p ns k x rs)=qq (.nx [qq (.loc n),qq (.loc p),l2,qq (.d (.str wd.s)),qq (.d (.int w)),qq (.d r.d),e6'],aU S n p ns k' x' aS):=by
 have c1:bA .Eq (.str wd.s) (.str "in")=qq (.bool (decide (wd=.in))):=gT wd .in
 by_cases k1:wd=.in
 ·subst k1;refine⟨⟨.in,w,[]⟩,k,x,rs,e6,hr,by omega,by omega,⟨hw,cI,True.intro⟩,by omega,?_⟩
  exact iW (iR rfl c1) (jL rfl)
 rw[dqF k1] at c1;have q1:=λ {r S1}=>uV (C:=aF fns (d+4)) (s:=dN 5) (env:=[qq (.loc n),qq (.loc p),l2,qq (.d (.str wd.s)),qq (.d (.int w)),e5,e6]) (S:=aU S n p ns k x rs) (r:=r) (S1:=S1) rfl (iR rfl c1)
 clear c1;have c2:bA .Eq (.str wd.s) (.str "num")=qq (.bool (decide (wd=.num))):=gT wd .num
 by_cases k2:wd=.num
 ·subst k2;obtain⟨q,k',x',hq,hk',e⟩:=aOZ (ns:=ns) (k:=k) (x:=x) (rs:=rs) h.toAt0 (d+1) w hw cI (by omega)
  refine⟨⟨.num,w,[q]⟩,k',x',rs,e6,hr,by omega,by omega,⟨hw,cI,hq⟩,by omega,q1 (iW (iR rfl c2) (jL ?_))⟩
  simp only[evs,e];rfl
 rw[dqF k2] at c2;have q2:=λ {r S1} h=>q1 (uV (r:=r) (S1:=S1) rfl (iR rfl c2) h)
 clear c2;have c3:bA .Eq (.str wd.s) (.str "not")=qq (.bool (decide (wd=.not))):=gT wd .not
 by_cases k3:wd=.not
 ·subst k3;obtain⟨a,k',x',aS,o,hk',e⟩:=sK (ns:=ns) (k:=k) (x:=x) h (d+1) w hr h0 (by omega) hw cI (by omega)
  have l:=o.len;refine⟨⟨.not,w,[a]⟩,k',x',aS,e6,o.ok,by omega,by omega,⟨hw,cI,o.wd⟩,by omega,q2 (iW (iR rfl c3) (jL ?_))⟩
  simp only[evs,e];rfl
 rw[dqF k3] at c3;have q3:=λ {r S1} h=>q2 (uV (r:=r) (S1:=S1) rfl (iR rfl c3) h)
 clear c3;have c4:=sP wd
 by_cases k4:wd=.left\/wd=.right\/wd=.slide
 ·rw[dqT k4] at c4;obtain⟨r,k',x',aS,ok,l1,l2,okr,hk',e⟩:=aKj (ns:=ns) (k:=k) (x:=x) h d w wd k4 hr h0 (by omega) hw cI (by omega)
  refine⟨r,k',x',aS,e6,ok,by omega,by omega,okr,by omega,q3 (iW (kL rfl rfl c4) (jL ?_))⟩
  simp only[evs,e]
 rw[dqF k4] at c4;have q4:=λ {r S1} h=>q3 (uV (r:=r) (S1:=S1) rfl (kL rfl rfl c4) h)
 clear c4;have c5:=aOJ wd
 by_cases k5:wd=.cut\/wd=.wide\/wd=.sign
 ·rw[dqT k5] at c5;obtain⟨r,x',okr,e⟩:=aJG (ns:=ns) (k:=k) (x:=x) h (d+2) wd k5 hr h0 (by omega) (by omega)
  refine⟨r,k+2,x',rs,e6,hr,by omega,by omega,okr,by omega,q4 (iW (kL rfl rfl c5) (jL ?_))⟩
  simp only[evs,e]
 rw[dqF k5] at c5;have q5:=λ {r S1} h=>q4 (uV (r:=r) (S1:=S1) rfl (kL rfl rfl c5) h)
 clear c5;have c6:bA .Eq (.str wd.s) (.str "pick")=qq (.bool (decide (wd=.pick))):=gT wd .pick
 by_cases k6:wd=.pick
 ·subst k6;obtain⟨c,k1',x1,rs1,o1,hk1,e1⟩:=sK (ns:=ns) (k:=k) (x:=x) h (d+1) 1 hr h0 (by omega) (by decide) (by decide) (by omega)
  have l1:=o1.len;obtain⟨a,b,k',x',aS,ok,⟨t,rfl,ht⟩,wa,wb,hk',e2⟩:=aFA (ns:=ns) (k:=k1') (x:=x1) h d w .pick o1.ok (by omega) (by omega) hw cI (by omega)
  have wc:((rs1++t).map (·.w))[c]? = qq 1:=by
   rw[yAn,xAj (gIm o1.wd).1];exact o1.wd
  rw[show((1:Nat):Int)=1 from rfl] at e1
  refine⟨⟨.pick,w,[c,a,b]⟩,k',x',rs1++t,qq (.d (.int c)),ok,by simp;omega,by simp;omega,⟨hw,cI,wc,wa,wb⟩,by omega,q5 (iW (iR rfl c6) (bM (S1:=aU S n p ns k1' x1 rs1) (w:=.d (.int c)) ?_ rfl (jL ?_)))⟩
  ·simp only[evs,e1]
  ·simp only[evs,e2,cR,cL,cV,aQ9,aP6,aPO];rfl
 rw[dqF k6] at c6;obtain⟨a,b,k',x',aS,ok,⟨t,rfl,ht⟩,wa,wb,hk',e2⟩:=aFA (ns:=ns) (k:=k) (x:=x) h d w wd hr h0 (by omega) hw cI (by omega)
 have okr:iC ((rs++t).map (·.w)) ⟨wd,tY wd w,[a,b]⟩:=by
  clear q1 q2 q3 q4 q5 c6 e2;cases wd
  all_goals first | exact⟨hw,cI,wa,wb⟩ | exact⟨yAe 1,oqT rfl,rfl,w,wa,wb⟩ | exact absurd rfl k1 | exact absurd rfl k2 | exact absurd rfl k3 | exact absurd rfl k6 | exact absurd (.inl rfl) k4 | exact absurd (.inr (.inl rfl)) k4 | exact absurd (.inr (.inr rfl)) k4 | exact absurd (.inl rfl) k5 | exact absurd (.inr (.inl rfl)) k5 | exact absurd (.inr (.inr rfl)) k5
 refine⟨⟨wd,tY wd w,[a,b]⟩,k',x',rs++t,e6,ok,by simp,by simp;omega,okr,by omega,q5 (aCm (iR rfl c6) (jL ?_))⟩
 simp only[evs,e2];rfl
end
noncomputable def wds:List Wd:=[.in,.num,.num,.not,.and,.or,.xor,.add,.sub,.mul,.left,.right,.slide,.cut,.wide,.sign,.same,.less,.under,.pick]
noncomputable def jZ:D:=.list (wds.map λ w=>yAa w.s)
section
variable {S : aC}{n p : Nat}{ns : List Int}{k : Nat}{x : Int}{rs : List Rw}
theorem aOq(h:At S n p)(d:Nat)(hr:dF [] rs)(h0:0<rs.length)(hl:rs.length<=80)(hk:k<=95000) :
 ∃ (k':Nat) (x':Int) (aS:List Rw),dF [] aS/\rs.length<=aS.length/\aS.length<=rs.length+4/\k'<=k+20/\cl fns (d+5) 23 [.loc n,.loc p] (aU S n p ns k x rs)=qq (.d .none,aU S n p ns k' x' aS):=by
 have s01:xs (aF fns (d+4)) (.seq (dN 0) (dN 1)) [qq (.loc n),qq (.loc p),qz,qz,qz,qz,qz] (aU S n p ns k x rs)=qq (.nx [qq (.loc n),qq (.loc p),qq (.d jZ),qz,qz,qz,qz],aU S n p ns k x rs):=by
  simp only[evs,dN,jK,yBk,yBl];rw[kG (by simp)]
  simp only[evs];rfl
 obtain⟨q1,x1,h1,e1⟩:=hU (ns:=ns) (k:=k) (x:=x) (rs:=rs) h.toAt0 (d+3) 20 (i:=20) rfl (by decide) (by decide) (by omega)
 obtain⟨wd,wF⟩:∃ wd,wds[q1]? = qq wd:=⟨wds[q1],yAc (by simpa [wds] using h1)⟩
 have gw:bC jZ (.int q1)=qq (.str wd.s):=eR (by rw[xAb,wF];rfl)
 have s2:xs (aF fns (d+4)) (dN 2) [qq (.loc n),qq (.loc p),qq (.d jZ),qz,qz,qz,qz] (aU S n p ns k x rs)=qq (.nx [qq (.loc n),qq (.loc p),qq (.d jZ),qq (.d (.str wd.s)),qz,qz,qz],aU S n p ns (k+1) x1 rs):=by
  simp only[evs,dN,jK,yBk,yBl,e1,gw]
 obtain⟨a,x2,ha,e2⟩:=fA (ns:=ns) (k:=k+1) (x:=x1) (rs:=rs) h.toAt0 (d+3) rs.length h0 (by omega) (by omega)
 obtain⟨r,hra⟩:∃ r,rs[a]? = qq r:=⟨rs[a],yAc ha⟩;obtain⟨sE,cI⟩:=aAS hr hra;have s3:xs (aF fns (d+4)) (dN 3) [qq (.loc n),qq (.loc p),qq (.d jZ),qq (.d (.str wd.s)),qz,qz,qz] (aU S n p ns (k+1) x1 rs)=qq (.nx [qq (.loc n),qq (.loc p),qq (.d jZ),qq (.d (.str wd.s)),qq (.d (.int r.w)),qz,qz],aU S n p ns (k+2) x2 rs):=by
  simp only[evs,dN,jK,yBk,yBl,h.rows,cH,cZ,gR,e2,xN hra,fO]
 obtain⟨q3,x3,h3,e3⟩:=hU (ns:=ns) (k:=k+2) (x:=x2) (rs:=rs) h.toAt0 (d+3) 4 (i:=4) rfl (by decide) (by decide) (by omega)
 obtain⟨w,k4,x4,hw3,hw4,hk4,s4⟩:∃ (w k4:Nat) (x4:Int),1<=w/\w<=64/\k4<=k+6/\xs (aF fns (d+4)) (dN 4) [qq (.loc n),qq (.loc p),qq (.d jZ),qq (.d (.str wd.s)),qq (.d (.int r.w)),qz,qz] (aU S n p ns (k+2) x2 rs)=qq (.nx [qq (.loc n),qq (.loc p),qq (.d jZ),qq (.d (.str wd.s)),qq (.d (.int w)),qz,qz],aU S n p ns k4 x4 rs):=by
  rcases yBv ((q3:Int)==1) with c | c
  ·obtain⟨w,x4,g1,g2,e4⟩:=aEL (ns:=ns) (k:=k+3) (x:=x3) (rs:=rs) h.toAt0 (d+2) (by omega)
   refine⟨w,k+6,x4,g1,g2,by omega,?_⟩
   simp only[evs,dN,jK,yBk,yBl,e3,cG,c,e4]
  ·refine⟨r.w,k+3,x3,sE,cI,by omega,?_⟩
   simp only[evs,dN,jK,yBk,yBl,e3,cG,c]
 obtain⟨rr,k',x',aS,e6',ok,l1,l2,okr,hk',s5⟩:=aLZ (ns:=ns) (k:=k4) (x:=x4) h d w wd (qq (.d jZ)) qz qz hr h0 hl hw3 hw4 (by omega)
 refine⟨k',x',aS++[rr],aAJ ok (by simpa using okr),by simp;omega,by simp;omega,by omega,?_⟩
 rw[dJ rfl (d+4) _ _ rfl];have full:xs (aF fns (d+4)) jK [qq (.loc n),qq (.loc p),qz,qz,qz,qz,qz] (aU S n p ns k x rs)=qq (.nx [qq (.loc n),qq (.loc p),qq (.d jZ),qq (.d (.str wd.s)),qq (.d (.int w)),qq (.d rr.d),e6'],aU S n p ns k' x' (aS++[rr])):=by
  have s01':∀ r:Sx,xs (aF fns (d+4)) (.seq (dN 0) (.seq (dN 1) r)) [qq (.loc n),qq (.loc p),qz,qz,qz,qz,qz] (aU S n p ns k x rs)=xs (aF fns (d+4)) r [qq (.loc n),qq (.loc p),qq (.d jZ),qz,qz,qz,qz] (aU S n p ns k x rs):=λ r=>by
   simp only[oK,dA] at s01 ⊢;cases q:xs (aF fns (d+4)) (dN 0) [qq (.loc n),qq (.loc p),qz,qz,qz,qz,qz] (aU S n p ns k x rs) with
   | none=>rw[q] at s01;cases s01
   | some z =>
     obtain⟨fl,S1⟩:=z;rw[q] at s01;cases fl with
     | nx e =>
       simp only[oB] at s01 ⊢;rw[s01];simp only[oB]
     | rt w=>cases s01
     | bk e=>cases s01
     | ct e=>cases s01
  rw[aJP,s01',kJ s2,kJ s3,kJ s4,kJ s5];simp only[evs,dN,jK,yBk,yBl,gK,aFo h (show aS.length<=1000 by omega)]
 show((xs (aF fns (d+4)) jK [qq (.loc n),qq (.loc p),qz,qz,qz,qz,qz] (aU S n p ns k x rs)).bind _)=_;rw[full];simp only[oB,h.take]
end
noncomputable def gJ(k:Nat):Sx:=match lA with
 | .seq a1 (.seq a2 (.seq a3 (.seq a4 (.seq a5 (.seq a6 _)))))=>[a1,a2,a3,a4,a5,a6].getD k .skip
 | _=>.skip
theorem aJc:lA=.seq (gJ 0) (.seq (gJ 1) (.seq (gJ 2) (.seq (gJ 3) (.seq (gJ 4) (.seq (gJ 5) .skip))))):=rfl
theorem aHP(ns:List Int)(k:Nat)(x:Int)(rs:List Rw)(o:List D):aU [qz,qz,qq o] 0 1 ns k x rs=[qq (dH ns k x),qq (rs.map Rw.d),qq o]:=rfl
theorem rD:At [qz,qz] 0 1:=⟨⟨by decide,by decide⟩,by decide⟩
theorem vT(o:List D):At [qz,qz,qq o] 0 1:=⟨⟨by show 0<3;decide,by decide⟩,by show 1<3;decide⟩
theorem aI3(d most:Nat)(ns:List Int)(hm:most<=30)(kk:Nat)(xx:Int)(hkk:kk<=40000):∃ (rs:List Rw) (aB:List Nat) (k:Nat) (x:Int),dF [] rs/\0<rs.length/\rs.length<=40/\(∀ o∈aB,o<rs.length)/\0<aB.length/\aB.length<=8/\k<=kk+1000 /\
 cl fns (d+6) 24 [.loc 0,.d (.int most)] [qq (dH ns kk xx)]=qq (.d (.tuple [.tuple (rs.map Rw.d),.tuple (aB.map nD)]),[qq (dH ns k x)]):=by
 obtain⟨w,x0,sE,cI,e0⟩:=aEL (ns:=ns) (k:=kk) (x:=xx) (rs:=[]) at1 (d+3) (by omega)
 rw[aHI,aHI] at e0;have p0:xs (aF fns (d+5)) (gJ 0) [qq (.loc 0),qq (.d (.int most)),qz,qz,qz,qz] [qq (dH ns kk xx)]=qq (.nx [qq (.loc 0),qq (.d (.int most)),qq (.loc 1),qz,qz,qz],aU [qz,qz] 0 1 ns (kk+3) x0 [⟨.in,w,[]⟩]):=by
  simp only[evs,gJ,lA,yBk,yBl,gM,e0];rfl
 obtain⟨env1,S1,p1,a3,rs,k1,x1,ok1,l0,l1,hk1,rfl,rfl⟩:=xQ (t:=.one 3) (fi:=lv (aF fns (d+5)) wI) (fb:=xs (aF fns (d+5)) wJ) (env:=[qq (.loc 0),qq (.d (.int most)),qq (.loc 1),qz,qz,qz]) (S:=aU [qz,qz] 0 1 ns (kk+3) x0 [⟨.in,w,[]⟩])
  (λ j env S=>∃ (a3:Option W) (rs:List Rw) (k:Nat) (x:Int),dF [] rs/\0<rs.length/\rs.length<=40/\k<=kk+3+20*j/\env=[qq (.loc 0),qq (.d (.int most)),qq (.loc 1),a3,qz,qz]/\S=aU [qz,qz] 0 1 ns k x rs)
  (show lv (aF fns (d+5)) wI _ _=qq ((yAw most).map (λ k=>yAp (k:Nat)),_) by
    simp only[wI,yB,nZ,qO];exact mG (by simp only[evs]) (by omega))
  ⟨qz,[⟨.in,w,[]⟩],kk+3,x0,⟨⟨sE,cI,True.intro⟩,True.intro⟩,by simp,by simp,by omega,rfl,rfl⟩ (by
   rintro j dd env S hj ⟨a3,rs,k,x,ok,l0,l1,hk,rfl,rfl⟩;have hj':j<most:=by simpa using hj
   refine⟨[qq (.loc 0),qq (.d (.int most)),qq (.loc 1),qq (.d dd),qz,qz],[qq (.loc 0),qq (.d (.int most)),qq (.loc 1),qq (.d dd),qz,qz],?_⟩
   by_cases c:rs.length<37
   ·have d1:decide (((rs.length:Nat):Int)<37)=true:=dqT (by omega)
    obtain⟨k',x',aS,ok',g1,g2,hk',e⟩:=aOq (ns:=ns) (k:=k) (x:=x) rD d ok l0 (by omega) (by omega)
    refine⟨_,rfl,?_,qq (.d dd),aS,k',x',ok',by omega,by omega,by omega,rfl,rfl⟩
    simp only[evs,wJ,rD.rows,cH,cZ,gR,dE,d1,e]
   ·have d1:decide (((rs.length:Nat):Int)<37)=false:=dqF (by omega)
    refine⟨_,rfl,?_,qq (.d dd),rs,k,x,ok,l0,l1,by omega,rfl,rfl⟩
    simp only[evs,wJ,rD.rows,cH,cZ,gR,dE,d1])
 have hk2:k1<=kk+700:=by simp at hk1;omega
 obtain⟨q,x2,hq,e2⟩:=fA (ns:=ns) (k:=k1) (x:=x1) (rs:=rs) rD.toAt0 (d+4) rs.length l0 (by omega) (by omega)
 have len1:((rs.length:Nat):Int)-1=((rs.length-1:Nat):Int):=by omega
 have p2:xs (aF fns (d+5)) (gJ 2) [qq (.loc 0),qq (.d (.int most)),qq (.loc 1),a3,qz,qz] (aU [qz,qz] 0 1 ns k1 x1 rs)=qq (.nx [qq (.loc 0),qq (.d (.int most)),qq (.loc 1),a3,qq (.d (.list [.int ((rs.length-1:Nat):Int),.int q])),qz],aU [qz,qz] 0 1 ns (k1+1) x2 rs):=by
  simp only[evs,gJ,lA,yBk,yBl,rD.rows,cH,cZ,gR,dW,len1,e2]
 obtain⟨q3,x3,hq3,e3⟩:=hU (ns:=ns) (k:=k1+1) (x:=x2) (rs:=rs) rD.toAt0 (d+4) 4 (i:=4) rfl (by decide) (by decide) (by omega)
 obtain⟨b3,hb3,eb3⟩:=b2i ((q3:Int)==1);obtain⟨y,hy,ey⟩:=at2 (.int ((rs.length-1:Nat):Int)) (.int q) hb3;obtain⟨o1,ho1,rfl⟩:∃ o:Nat,o<rs.length/\y=.int o:=by
  rcases hy with rfl | rfl
  ·exact⟨_,by omega,rfl⟩
  ·exact⟨_,hq,rfl⟩
 have p3:xs (aF fns (d+5)) (gJ 3) [qq (.loc 0),qq (.d (.int most)),qq (.loc 1),a3,qq (.d (.list [.int ((rs.length-1:Nat):Int),.int q])),qz] (aU [qz,qz] 0 1 ns (k1+1) x2 rs)=qq (.nx [qq (.loc 0),qq (.d (.int most)),qq (.loc 1),a3,qq (.d (.list [.int ((rs.length-1:Nat):Int),.int q])),qq (.loc 2)],aU [qz,qz,qq ([o1].map nD)] 0 1 ns (k1+2) x3 rs):=by
  simp only[evs,gJ,lA,yBk,yBl,gM,e3,cG,qN,qS,eb3,ey];rfl
 obtain⟨q4,x4,hq4,e4⟩:=hU (ns:=ns) (k:=k1+2) (x:=x3) (rs:=rs) (vT ([o1].map nD)).toAt0 (d+4) 3 (i:=3) rfl (by decide) (by decide) (by omega)
 obtain⟨q5,x5,hq5,e5⟩:=hU (ns:=ns) (k:=k1+3) (x:=x4) (rs:=rs) (vT ([o1].map nD)).toAt0 (d+4) 8 (i:=8) rfl (by decide) (by decide) (by omega)
 obtain⟨b5,hb5,eb5⟩:=b2i ((q5:Int)==1);obtain⟨z,hz,ez⟩:=at2 (.int q4) (.int 7) hb5;obtain⟨m,hm7,rfl⟩:∃ m:Nat,m<=7/\z=.int m:=by
  rcases hz with rfl | rfl
  ·exact⟨_,by omega,rfl⟩
  ·exact⟨7,by decide,rfl⟩
 obtain⟨env2,S2,p4,a3',aB,k6,x6,ho,ol,hk6,rfl,rfl⟩:=xQ (t:=.one 3) (fi:=lv (aF fns (d+5)) aAs) (fb:=xs (aF fns (d+5)) aAw) (env:=[qq (.loc 0),qq (.d (.int most)),qq (.loc 1),a3,qq (.d (.list [.int ((rs.length-1:Nat):Int),.int q])),qq (.loc 2)]) (S:=aU [qz,qz,qq ([o1].map nD)] 0 1 ns (k1+2) x3 rs) (S1:=aU [qz,qz,qq ([o1].map nD)] 0 1 ns (k1+4) x5 rs) (ds:=(yAw m).map (λ k=>yAp (k:Nat)))
  (λ j env S=>∃ (a3:Option W) (aB:List Nat) (k:Nat) (x:Int),(∀ o∈aB,o<rs.length)/\aB.length=j+1/\k<=k1+4+j/\env=[qq (.loc 0),qq (.d (.int most)),qq (.loc 1),a3,qq (.d (.list [.int ((rs.length-1:Nat):Int),.int q])),qq (.loc 2)]/\S=aU [qz,qz,qq (aB.map nD)] 0 1 ns k x rs)
  (by
    simp only[aAs,yB,nZ,qO];refine mG ?_ (by omega)
    simp only[yAi,yCh] at e4 e5;simp only[evs,e4,e5,cG,qN,qS,eb5,ez])
  ⟨a3,[o1],k1+4,x5,by simpa using ho1,rfl,by omega,rfl,rfl⟩ (by
   rintro j dd env S hj ⟨a3,aB,k,x,ho,ol,hk,rfl,rfl⟩;have hj':j<m:=by simpa using hj
   obtain⟨q6,x6,hq6,e6⟩:=fA (ns:=ns) (k:=k) (x:=x) (rs:=rs) (vT (aB.map nD)).toAt0 (d+4) rs.length l0 (by omega) (by omega)
   refine⟨[qq (.loc 0),qq (.d (.int most)),qq (.loc 1),qq (.d dd),qq (.d (.list [.int ((rs.length-1:Nat):Int),.int q])),qq (.loc 2)],[qq (.loc 0),qq (.d (.int most)),qq (.loc 1),qq (.d dd),qq (.d (.list [.int ((rs.length-1:Nat):Int),.int q])),qq (.loc 2)],aU [qz,qz,qq ((aB++[q6]).map nD)] 0 1 ns (k+1) x6 rs,rfl,?_,qq (.d dd),aB++[q6],k+1,x6,?_,by simp;omega,by omega,rfl,rfl⟩
   ·have ap:fS (aU [qz,qz,qq (aB.map nD)] 0 1 ns (k+1) x6 rs) (.loc 2) (.d (.int q6))=qq (.d .none,aU [qz,qz,qq ((aB++[q6]).map nD)] 0 1 ns (k+1) x6 rs):=by
     rw[aHP,aHP];unfold fS;simp only[yCx,yBq];rw[if_pos (by rw[yAb,qo];omega),yAn]
     rfl
    simp only[evs,aAw,(vT (aB.map nD)).rows,cH,cZ,gR,e6,gK,ap]
   ·intro o h;rcases List.mem_append.mp h with z | z
    ·exact ho o z
    ·rw[List.mem_singleton.mp z];exact hq6)
 have ol':aB.length=m+1:=by simpa using ol
 have hk7:k6<=k1+4+m:=by simpa using hk6
 refine⟨rs,aB,k6,x6,ok1,l0,l1,ho,by omega,by omega,by omega,?_⟩
 rw[dJ rfl (d+5) _ _ rfl];have full:xs (aF fns (d+5)) lA [qq (.loc 0),qq (.d (.int most)),qz,qz,qz,qz] [qq (dH ns kk xx)]=qq (.rt (.d (.tuple [.tuple (rs.map Rw.d),.tuple (aB.map nD)])),aU [qz,qz,qq (aB.map nD)] 0 1 ns k6 x6 rs):=by
  have p1':xs (aF fns (d+5)) (gJ 1) [qq (.loc 0),qq (.d (.int most)),qq (.loc 1),qz,qz,qz] (aU [qz,qz] 0 1 ns (kk+3) x0 [⟨.in,w,[]⟩])=qq (.nx [qq (.loc 0),qq (.d (.int most)),qq (.loc 1),a3,qz,qz],aU [qz,qz] 0 1 ns k1 x1 rs):=p1;have p4':xs (aF fns (d+5)) (gJ 4) [qq (.loc 0),qq (.d (.int most)),qq (.loc 1),a3,qq (.d (.list [.int ((rs.length-1:Nat):Int),.int q])),qq (.loc 2)] (aU [qz,qz,qq ([o1].map nD)] 0 1 ns (k1+2) x3 rs)=qq (.nx [qq (.loc 0),qq (.d (.int most)),qq (.loc 1),a3',qq (.d (.list [.int ((rs.length-1:Nat):Int),.int q])),qq (.loc 2)],aU [qz,qz,qq (aB.map nD)] 0 1 ns k6 x6 rs):=p4;rw[aJc,kJ p0,kJ p1',kJ p2,kJ p3,kJ p4'];have g2:(aU [qz,qz,qq (aB.map nD)] 0 1 ns k6 x6 rs)[2]? = qq (qq (aB.map nD)):=rfl;simp only[evs,gJ,lA,yBk,yBl,(vT (aB.map nD)).rows,g2,qU,qL]
 show((xs (aF fns (d+5)) lA [qq (.loc 0),qq (.d (.int most)),qz,qz,qz,qz] [qq (dH ns kk xx)]).bind _)=_;rw[full];simp only[oB,kT];rfl
noncomputable def dR:Wd->Nat
 | .in | .num=>0
 | .not | .left | .right | .slide | .cut | .wide | .sign=>1
 | .pick=>3
 | _=>2
theorem aFK(wd:Wd):zP kA (.str wd.s)=qq (.int (dR wd:Nat)):=by cases wd<;>kernel_rfl
theorem oR(r:Rw):bC r.d (.int 0)=qq (.str r.wd.s):=qG (xs:=.str r.wd.s::nD r.w::r.args.map nD) (k:=0) rfl
theorem aFz{fa:FE}{fl fh:FO}{env:aV}{S:aC}(r:Rw)(c:Nat)(h1:fa env S=qq (.d r.d,S))(h2:fl env S=qq (qq 2,S))(h3:fh env S=qq (qq ((2+c:Nat):Int),S)):cR fa fl fh env S=qq (.d (.tuple ((r.args.take c).map nD)),S):=by
 have i2:HT.sIx (yAa r.wd.s::nD r.w::r.args.map nD).length 0 (qq 2)=2:=by
  rw[show(2:Int)=((2:Nat):Int) from rfl,HT.sIx_nat]
  simp
 have e:cK (yAa r.wd.s::nD r.w::r.args.map nD) (qq 2) (qq ((2+c:Nat):Int))=(r.args.take c).map nD:=by
  unfold cK;rw[i2,HT.sIx_nat];simp only[List.drop_succ_cons,yDb,yBf,yAb];rw[yFc];rcases Nat.le_total c r.args.length with z | z
  ·rw[yFg (by omega),show 2+c-2=c by omega]
  ·rw[yFv (by omega),yBu (by simp),yBu (by simpa using z)]
 unfold cR;rw[h1,oB];simp only[];rw[h2,oB];simp only[];rw[h3,oB];simp only[dr,oB,Rw.d];rw[e]
theorem aDD(d:Nat)(r:Rw)(S:aC):cl fns (d+1) 3 [.d r.d] S=qq (.d (.tuple ((r.args.take (dR r.wd)).map nD)),S):=by
 have e2:(2:Int)+((dR r.wd:Nat):Int)=((2+dR r.wd:Nat):Int):=by omega
 have sl:ev (aF fns d) (.sl (.var 0) (.cons (.int 2) .nil) (.cons (.bin .Add (.int 2) (.tab "OPERAND_COUNTS" kA (.ix (.var 0) (.int 0)))) .nil)) [qq (.d r.d)] S=qq (.d (.tuple ((r.args.take (dR r.wd)).map nD)),S):=by
  simp only[aB9];refine aFz r (dR r.wd) (by simp only[evs]) (by simp only[evs,cL]) ?_
  simp only[evs,cL,oR,aFK,cY,e2]
 rw[dJ rfl d _ S rfl];show((dA (nF (ev (aF fns d) (.sl (.var 0) (.cons (.int 2) .nil) (.cons (.bin .Add (.int 2) (.tab "OPERAND_COUNTS" kA (.ix (.var 0) (.int 0)))) .nil)))) oZ) [qq (.d r.d)] S).bind _=_;simp only[dA,nF,sl,oB,kT,yAf]
theorem aMM(d w:Nat)(h:w<=100000)(S:aC):cl fns (d+1) 0 [.d (.int w)] S=qq (.d (.int ((2^w-1:Nat):Int)),S):=by
 rw[dJ rfl d _ S rfl];simp only[evs,dB,aHf,iP h,dW,aAZ]
section
variable {C : Calls}{CX : fX}{tb : Str -> Str -> Option Bool}
theorem xk{a b:Xx}{env e1:aV}{S S1:aC}{r:Option (FlX×aC)}(h:xx C CX tb a env S=qq (.fl (.nx e1),S1))(k:xx C CX tb b e1 S1=r):xx C CX tb (.seq a b) env S=r:=by
 show(xx C CX tb a env S).bind _=r;rw[h];exact k
theorem xX{a b:Xx}{env:aV}{S S1:aC}{w:W}(h:xx C CX tb a env S=qq (.fl (.rt w),S1)):xx C CX tb (.seq a b) env S=qq (.fl (.rt w),S1):=by
 show(xx C CX tb a env S).bind _=_;rw[h];rfl
theorem eE{a b:Xx}{env e:aV}{S S1:aC}{c:Str}{r:D}(h:xx C CX tb a env S=qq (.ex e c r,S1)):xx C CX tb (.seq a b) env S=qq (.ex e c r,S1):=by
 show(xx C CX tb a env S).bind _=_;rw[h];rfl
theorem dG{a:Sx}{env:aV}{S S1:aC}{fl:Fl}(h:xs C a env S=qq (fl,S1)):xx C CX tb (.s a) env S=qq (.fl fl,S1):=by
 show(xs C a env S).bind _=_;rw[h];rfl
theorem pR{c:E}{a b:Xx}{env:aV}{S S1:aC}{r:Option (FlX×aC)}(h:tv C c env S=qq (true,S1))(k:xx C CX tb a env S1=r):xx C CX tb (.ifs c a b) env S=r:=by
 show(tv C c env S).bind _=r;rw[h];exact k
theorem fU{c:E}{a b:Xx}{env:aV}{S S1:aC}{r:Option (FlX×aC)}(h:tv C c env S=qq (false,S1))(k:xx C CX tb b env S1=r):xx C CX tb (.ifs c a b) env S=r:=by
 show(tv C c env S).bind _=r;rw[h];exact k
end
noncomputable def aE:Str->Str->Option Bool:=pA xl
inductive Ft4 where
 | width | row | fit | number
noncomputable def Ft4.c:Ft4->Str
 | .width => "NoWidth" | .row => "NoRow" | .fit => "NoFit" | .number => "NoNumber"
noncomputable def Ft4.s:Ft4->Str
 | .width => "width" | .row => "row" | .fit => "fit" | .number => "number"
noncomputable def eB:Wd->Nat
 | .in=>0
 | .num | .not | .cut | .wide | .sign=>1
 | .pick=>3
 | _=>2
def Ar(r:Rw):Prop:=r.args.length=eB r.wd
noncomputable def bX(a b:Nat):Bool:=((a:Nat):Int)==((b:Nat):Int)
noncomputable def aJ(rs:List Rw)(a:Nat):Rw:=rs.getD a ⟨.in,0,[]⟩
noncomputable def eV(wd:Wd)(w:Nat)(vs:List Nat):Bool:=match wd with
 | .same | .less | .under=>bX w 1&&bX (vs.getD 0 0) (vs.getD 1 0)
 | .pick=>bX (vs.getD 0 0) 1&&(bX (vs.getD 1 0) w&&bX (vs.getD 2 0) w)
 | .cut=>decide (((w:Nat):Int)<=((vs.getD 0 0:Nat):Int))
 | .wide | .sign=>decide (((vs.getD 0 0:Nat):Int)<=((w:Nat):Int))
 | _=>vs.all λ v=>bX v w
noncomputable def gB(r:Rw):Bool:=match r.wd with
 | .num=>decide (r.args.getD 0 0<2^r.w)
 | .left | .right | .slide=>decide (r.args.getD 1 0<=63)
 | _=>true
noncomputable def bQ(r:Rw):List Nat:=r.args.take (dR r.wd)
noncomputable def gH(rs:List Rw)(k:Nat)(r:Rw):Option Ft4:=
 if r.w<1\/64<r.w then qq .width
 else if (bQ r).any (λ a=>decide (((k:Nat):Int)<=((a:Nat):Int)))=true then qq .row
 else if eV r.wd r.w ((bQ r).map λ a=>(aJ rs a).w)=false then qq .fit
 else if gB r=false then qq .number else qz
theorem aMj(wd:Wd):dR wd<=eB wd:=by cases wd<;>decide
theorem aBu{r:Rw}(h:Ar r):(bQ r).length=dR r.wd:=by
 unfold bQ;rw[yAy,h];exact yFg (aMj r.wd)
theorem aBT{r:Rw}(h:Ar r):(bQ r).length<=3:=by
 rw[aBu h];cases r.wd<;>decide
theorem aFE(a:Wd):bA .In (.str a.s) (.tuple [.str "wide",.str "sign"])=qq (.bool (decide (a=.wide\/a=.sign))):=by cases a<;>rfl
theorem uJ{vs:List Nat}{k:Nat}(h:k<vs.length):bC (.tuple (vs.map nD)) (.int k)=qq (.int ((vs.getD k 0:Nat):Int)):=by
 refine qG ?_;rw[xAb,yAc h,yCk,yAc h];rfl
theorem kI{vs:List Nat}{k:Nat}(h:k<vs.length):bC (.list (vs.map nD)) (.int k)=qq (.int ((vs.getD k 0:Nat):Int)):=uJ h
theorem aSb(a b c x y z:Int):bA .Eq (.tuple [.int a,.int b,.int c]) (.tuple [.int x,.int y,.int z])=qq (.bool ((a==x)&&((b==y)&&(c==z)))):=by
 unfold bA jC;simp only[PyData.canLay0,yCr,yEt,yCj,yCe,yFt,yFs,yCl];rfl
theorem aPX{vs:List Nat}(h:vs.length=3):vs.map nD=[.int ((vs.getD 0 0:Nat):Int),.int ((vs.getD 1 0:Nat):Int),.int ((vs.getD 2 0:Nat):Int)]:=by
 match vs,h with
 | [a,b,c],_=>rfl
theorem all_map{α:Type}(g:α->Bool)(l:List α):zE [.list (l.map λ x=>yBj (g x))]=qq (.bool (l.all g)):=by
 have:kE (l.map λ x=>yBj (g x))=qq (l.map g):=by
  induction l with
  | nil=>rfl
  | cons a l ih=>simp only[yAi,kE,ih,oB]
 show(kE _).bind _=_;rw[this,oB];simp[List.all_map]
theorem any_map{α:Type}(g:α->Bool)(l:List α):zD [.list (l.map λ x=>yBj (g x))]=qq (.bool (l.any g)):=by
 have:kE (l.map λ x=>yBj (g x))=qq (l.map g):=by
  induction l with
  | nil=>rfl
  | cons a l ih=>simp only[yAi,kE,ih,oB]
 show(kE _).bind _=_;rw[this,oB];simp[List.any_map]
theorem aFl{wd:Wd}(h1:¬(wd=.same\/wd=.less\/wd=.under))(h2:¬ wd=.pick)(h3:¬ wd=.cut)(h4:¬(wd=.wide\/wd=.sign))(w:Nat)(vs:List Nat):eV wd w vs=vs.all λ v=>bX v w:=by
 cases wd<;>first | rfl | (exact absurd rfl h2) | (exact absurd rfl h3) | (exact absurd (.inl rfl) h1) | (exact absurd (.inr (.inl rfl)) h1) | (exact absurd (.inr (.inr rfl)) h1) | (exact absurd (.inl rfl) h4) | (exact absurd (.inr rfl) h4)
theorem aMO(d:Nat)(r:Rw)(vs:List Nat)(hv:vs.length=dR r.wd)(S:aC):cl fns (d+1) 5 [.d r.d,.d (.tuple (vs.map nD))] S=qq (.d (.bool (eV r.wd r.w vs)),S):=by
 have r0:=oR r;have r1:=fO r;have t1:=kL (C:=aF fns d) (i:=2) (S:=S) (e:=.con "COMPARES" aAQ) (env:=[qq (.d r.d),qq (.d (.tuple (vs.map nD))),qq (.d (.str r.wd.s)),qq (.d (.int r.w)),qz]) rfl rfl (xD r.wd);have t2:=iR (C:=aF fns d) (i:=2) (S:=S) (x:="pick") (env:=[qq (.d r.d),qq (.d (.tuple (vs.map nD))),qq (.d (.str r.wd.s)),qq (.d (.int r.w)),qz]) rfl (gT r.wd .pick);have t3:=iR (C:=aF fns d) (i:=2) (S:=S) (x:="cut") (env:=[qq (.d r.d),qq (.d (.tuple (vs.map nD))),qq (.d (.str r.wd.s)),qq (.d (.int r.w)),qz]) rfl (gT r.wd .cut);have t4:=kL (C:=aF fns d) (i:=2) (S:=S) (e:=.con "WIDENINGS" aAH) (env:=[qq (.d r.d),qq (.d (.tuple (vs.map nD))),qq (.d (.str r.wd.s)),qq (.d (.int r.w)),qz]) rfl rfl (aFE r.wd);refine cT rfl d rfl rfl yAf (bM (w:=.d (.str r.wd.s)) (S1:=S) (by simp only[evs,r0]) rfl (bM (w:=.d (.int r.w)) (S1:=S) (by simp only[evs,r1]) rfl ?_))
 show xs (aF fns d) _ [qq (.d r.d),qq (.d (.tuple (vs.map nD))),qq (.d (.str r.wd.s)),qq (.d (.int r.w)),qz] S=_
 by_cases c1:r.wd=.same\/r.wd=.less\/r.wd=.under
 ·rw[dqT c1] at t1;have hn:vs.length=2:=by rcases c1 with c | c | c<;>rw[hv,c]<;>rfl
  have g0:bC (.tuple (vs.map nD)) (.int 0)=qq (.int ((vs.getD 0 0:Nat):Int)):=uJ (k:=0) (by omega)
  have g1:bC (.tuple (vs.map nD)) (.int 1)=qq (.int ((vs.getD 1 0:Nat):Int)):=uJ (k:=1) (by omega)
  have ef:eV r.wd r.w vs=(bX r.w 1&&bX (vs.getD 0 0) (vs.getD 1 0)):=by rcases c1 with c | c | c<;>rw[c]<;>rfl
  rw[ef];refine cF t1 (bG ?_);unfold bX;generalize yBb (vs.map nD)=T at *;rcases yBv (((r.w:Nat):Int)==1) with z | z
  ·simp only[evs,cG,z,g0,g1];rw[show(((r.w:Nat):Int)==((1:Nat):Int))=true from z]
   rfl
  ·simp only[evs,cG,z];rw[show(((r.w:Nat):Int)==((1:Nat):Int))=false from z]
   rfl
 rw[dqF c1] at t1;refine bS t1 ?_
 by_cases c2:r.wd=.pick
 ·rw[dqT c2] at t2;have hn:vs.length=3:=by rw[hv,c2];rfl
  have ef:eV r.wd r.w vs=(bX (vs.getD 0 0) 1&&(bX (vs.getD 1 0) r.w&&bX (vs.getD 2 0) r.w)):=by rw[c2];rfl
  rw[ef];refine cF t2 (bG ?_);have e:=aSb ((vs.getD 0 0:Nat):Int) ((vs.getD 1 0:Nat):Int) ((vs.getD 2 0:Nat):Int) 1 (r.w:Nat) (r.w:Nat);rw[<- aPX hn] at e;simp only[evs,e];rfl
 rw[dqF c2] at t2;refine bS t2 ?_
 by_cases c3:r.wd=.cut
 ·rw[dqT c3] at t3;have hn:vs.length=1:=by rw[hv,c3];rfl
  have ef:eV r.wd r.w vs=decide (((r.w:Nat):Int)<=((vs.getD 0 0:Nat):Int)):=by rw[c3];rfl
  have g0:bC (.tuple (vs.map nD)) (.int 0)=qq (.int ((vs.getD 0 0:Nat):Int)):=uJ (k:=0) (by omega)
  rw[ef];exact cF t3 (bG (by simp only[evs,g0,lH]))
 rw[dqF c3] at t3;refine bS t3 ?_
 by_cases c4:r.wd=.wide\/r.wd=.sign
 ·rw[dqT c4] at t4;have hn:vs.length=1:=by rcases c4 with c | c<;>rw[hv,c]<;>rfl
  have ef:eV r.wd r.w vs=decide (((vs.getD 0 0:Nat):Int)<=((r.w:Nat):Int)):=by rcases c4 with c | c<;>rw[c]<;>rfl
  have g0:bC (.tuple (vs.map nD)) (.int 0)=qq (.int ((vs.getD 0 0:Nat):Int)):=uJ (k:=0) (by omega)
  rw[ef];exact cF t4 (bG (by simp only[evs,g0,lJ]))
 rw[dqF c4] at t4;refine bS t4 (bG ?_);rw[aFl c1 c2 c3 c4];have hc:lv (aF fns d) aDn [qq (.d r.d),qq (.d (.tuple (vs.map nD))),qq (.d (.str r.wd.s)),qq (.d (.int r.w)),qz] S=qq (vs.map (λ v=>yBj (bX v r.w)),S):=by
  refine fW (fi:=lv (aF fns d) (.it (.var 1))) (fe:=ev (aF fns d) (.cmp .Eq (.var 4) (.var 3))) nD (λ v=>yBj (bX v r.w)) vs ?_ (by rw[qo,hv];cases r.wd<;>decide) λ v _=>?_
  ·simp only[evs,dP]
  ·refine⟨_,rfl,λ S'=>?_⟩
   simp only[evs,clr,yAj,yAl,nD,cG];rfl
 simp only[evs,hc,all_map]
theorem rV{r:Rw}(h:r.args.length=1):bC r.d (.int 2)=qq (.int ((r.args.getD 0 0:Nat):Int)):=by
 obtain⟨wd,w,args⟩:=r
 match args,h with
 | [a],_=>rfl
theorem ar2{r:Rw}(h:r.args.length=2):bC r.d (.int 3)=qq (.int ((r.args.getD 1 0:Nat):Int)):=by
 obtain⟨wd,w,args⟩:=r
 match args,h with
 | [a,b],_=>rfl
theorem aLA(a w:Nat):decide (((a:Nat):Int)<=((2^w-1:Nat):Int))=decide (a<2^w):=by
 have:=Nat.two_pow_pos w;rw[decide_eq_decide];omega
theorem aFb{r:Rw}(h1:¬ r.wd=.num)(h2:¬(r.wd=.left\/r.wd=.right\/r.wd=.slide)):gB r=true:=by
 obtain⟨wd,w,args⟩:=r;cases wd<;>first | rfl | (exact absurd rfl h1) | (exact absurd (.inl rfl) h2) | (exact absurd (.inr (.inl rfl)) h2) | (exact absurd (.inr (.inr rfl)) h2)
theorem aME(d:Nat)(r:Rw)(ar:Ar r)(hw:r.w<=64)(S:aC):cl fns (d+2) 6 [.d r.d] S=qq (.d (.bool (gB r)),S):=by
 have r0:=oR r;have r1:=fO r;refine cT rfl (d+1) rfl rfl yAf ?_;show xs (aF fns (d+1)) _ [qq (.d r.d)] S=_
 by_cases c1:r.wd=.num
 ·have e1:bA .Eq (.str r.wd.s) (.str "num")=qq (.bool true):=by have:=gT r.wd .num;rw[dqT c1] at this;exact this
  have a1:=rV (r:=r) (by rw[ar,c1];rfl)
  have fu:=aMM d r.w (by omega) S
  have ef:gB r=decide (r.args.getD 0 0<2^r.w):=by unfold gB;rw[c1]
  rw[ef,<- aLA];generalize r.d=R at *;exact cF (S1:=S) (by simp only[evs,r0,e1]) (bG (by simp only[evs,a1,r1,fu,lJ]))
 have e1:bA .Eq (.str r.wd.s) (.str "num")=qq (.bool false):=by have:=gT r.wd .num;rw[dqF c1] at this;exact this
 refine bS (S1:=S) (by simp only[evs,r0,e1]) ?_
 by_cases c2:r.wd=.left\/r.wd=.right\/r.wd=.slide
 ·have e2:bA .In (.str r.wd.s) (.tuple (pY.map Tv.d))=qq (.bool true):=by have:=sP r.wd;rw[dqT c2] at this;exact this
  have a2:=ar2 (r:=r) (by rw[ar];rcases c2 with c | c | c<;>rw[c]<;>rfl)
  have ef:gB r=decide (r.args.getD 1 0<=63):=by unfold gB;rcases c2 with c | c | c<;>rw[c]
  have ee:decide (((r.args.getD 1 0:Nat):Int)<=63)=decide (r.args.getD 1 0<=63):=by rw[decide_eq_decide];omega
  rw[ef,<- ee];generalize r.d=R at *;exact cF (S1:=S) (by simp only[evs,r0,e2]) (bG (by simp only[evs,a2,lJ]))
 have e2:bA .In (.str r.wd.s) (.tuple (pY.map Tv.d))=qq (.bool false):=by have:=sP r.wd;rw[dqF c2] at this;exact this
 rw[aFb c1 c2];exact bS (S1:=S) (by simp only[evs,r0,e2]) (bG (by simp only[evs]))
theorem xH{rs:List Rw}{a:Nat}(h:a<rs.length):bC (.tuple (rs.map Rw.d)) (.int a)=qq (aJ rs a).d:=by
 refine qG ?_;unfold aJ;rw[xAb,yAc h,yCk,yAc h];rfl
theorem aKB(d:Nat)(rs:List Rw)(r:Rw)(ar:Ar r)(h:∀ a∈bQ r,a<rs.length)(S:aC):cl fns (d+2) 4 [.d r.d,.d (.tuple (rs.map Rw.d))] S=qq (.d (.tuple ((bQ r).map λ a=>(aJ rs a).d)),S):=by
 have op:=aDD d r S;refine cT rfl (d+1) rfl rfl yAf ?_;show xs (aF fns (d+1)) _ [qq (.d r.d),qq (.d (.tuple (rs.map Rw.d))),qz] S=_;have hc:lv (aF fns (d+1)) aDl [qq (.d r.d),qq (.d (.tuple (rs.map Rw.d))),qz] S=qq ((bQ r).map (λ a=>(aJ rs a).d),S):=by
  refine fW (fi:=lv (aF fns (d+1)) (.it (.call 3 (.cons (.var 0) .nil)))) (fe:=ev (aF fns (d+1)) (.ix (.var 1) (.var 2))) nD (λ a=>(aJ rs a).d) (bQ r) ?_ (by rw[qo];have:=aBT ar;omega) λ a ha=>?_
  ·simp only[evs,op,dP];rfl
  ·refine⟨_,rfl,λ S'=>?_⟩
   have g:=xH (h a ha);simp only[evs,clr,yAj,yAl,nD,g]
 exact bG (by simp only[evs,hc,qU,qL])
noncomputable def lS(rs:List Rw):Nat->Nat->Option (Ft4×Nat)
 | 0,_=>qz
 | n+1,k=>match gH rs k (aJ rs k) with
   | some f=>qq (f,k)
   | none=>lS rs n (k+1)
noncomputable def gU(rs:List Rw)(aB:List Nat):Option (Ft4×Nat):=match lS rs rs.length 0 with
 | some z=>qq z
 | none=>if aB.any (λ o=>decide (((rs.length:Nat):Int)<=((o:Nat):Int)))=true then qq (.row,rs.length) else qz
noncomputable def aHD(k:Nat):Option Ft4->ResX
 | none=>.ok (.d .none)
 | some f=>.ex f.c (.int k)
noncomputable def aRZ:Option (Ft4×Nat)->ResX
 | none=>.ok (.d (.bool true))
 | some z=>.ex z.1.c (.int (z.2:Nat))
theorem aCv{rs:List Rw}{k:Nat}(h:k<rs.length):rs[k]? = qq (aJ rs k):=by
 unfold aJ;rw[yCk,yAc h];rfl
theorem lT{rs:List Rw}{k:Nat}(h:k<rs.length):aJ rs k∈rs:=xAi (aCv h)
theorem lG{C:Calls}{CX:fX}{x:Xx}{n:Nat}{ws:List W}{env e:aV}{S:aC}{c:Str}{r:D}(he:ws.map qq++yAh (n-ws.length) qz=env)(k:xx C CX aE x env S=qq (.ex e c r,S)):fG (xx C CX aE x) n ws S=qq (.ex c r,S):=by
 unfold fG;rw[he,k,oB];show qq (ResX.ex c r,S.take S.length)=_;rw[yAf]
theorem aLS{C:Calls}{CX:fX}{x:Xx}{n:Nat}{ws:List W}{env e:aV}{S:aC}(he:ws.map qq++yAh (n-ws.length) qz=env)(k:xx C CX aE x env S=qq (.fl (.nx e),S)):fG (xx C CX aE x) n ws S=qq (.ok (.d .none),S):=by
 unfold fG;rw[he,k,oB];show qq (ResX.ok (.d .none),S.take S.length)=_;rw[yAf]
theorem aBA{C:Calls}{CX:fX}{x:Xx}{n:Nat}{ws:List W}{env:aV}{S:aC}{y:D}(he:ws.map qq++yAh (n-ws.length) qz=env)(k:xx C CX aE x env S=qq (.fl (.rt (.d y)),S)):fG (xx C CX aE x) n ws S=qq (.ok (.d y),S):=by
 unfold fG;rw[he,k,oB];show qq (ResX.ok (.d y),S.take S.length)=_;rw[yAf]
theorem aCl{C:Calls}{i:Nat}{env:aV}{S:aC}{R:D}{w:Nat}(h:env[i]? = qq (qq (.d R)))(h1:bC R (.int 1)=qq (.int w)):tv C (.or (.cmp .Lt (.ix (.var i) (.int 1)) (.int 1)) (.cmp .Gt (.ix (.var i) (.int 1)) (.int 64))) env S=qq (decide (w<1\/64<w),S):=by
 by_cases c1:w<1
 ·have d1:decide (((w:Nat):Int)<1)=true:=dqT (by omega)
  rw[dqT (Or.inl c1)];simp only[evs,h,h1,dE,d1]
 ·have d1:decide (((w:Nat):Int)<1)=false:=dqF (by omega)
  have d2:decide ((64:Int)<((w:Nat):Int))=decide (w<1\/64<w):=by rw[decide_eq_decide];omega
  rw[<- d2];simp only[evs,h,h1,dE,gG,d1]
theorem aM6(d:Nat)(rs:List Rw)(k:Nat)(hk:k<rs.length)(ar:Ar (aJ rs k))(S:aC):dI fns gns aE (d+3) 39 [.d (.tuple (rs.map Rw.d)),.d (.int k)] S=qq (aHD k (gH rs k (aJ rs k)),S):=by
 rw[show dI fns gns aE (d+3) 39=dI fns gns aE (d+3) (fns.length+0) from rfl,oJ (x:=aDs) rfl rfl (d+2) _ S rfl]
 have rk:=xH hk;generalize aJ rs k=r at *;have r1:=fO r;have op:bZ fns gns aE (d+2) 3 [.d r.d] S=qq (.d (.tuple ((bQ r).map nD)),S):=(fK (d+1) 3 _ _ (by decide)).trans (aDD (d+1) r S)
 have of':(∀ a∈bQ r,a<rs.length)->bZ fns gns aE (d+2) 4 [.d r.d,.d (.tuple (rs.map Rw.d))] S=qq (.d (.tuple ((bQ r).map λ a=>(aJ rs a).d)),S):=λ h=>(fK (d+1) 4 _ _ (by decide)).trans (aKB d rs r ar h S)
 have wf:∀ vs:List Nat,vs.length=dR r.wd->bZ fns gns aE (d+2) 5 [.d r.d,.d (.tuple (vs.map nD))] S=qq (.d (.bool (eV r.wd r.w vs)),S):=λ vs hv=>(fK (d+1) 5 _ _ (by decide)).trans (aMO (d+1) r vs hv S)
 have nf:r.w<=64->bZ fns gns aE (d+2) 6 [.d r.d] S=qq (.d (.bool (gB r)),S):=λ h=>(fK (d+1) 6 _ _ (by decide)).trans (aME d r ar h S)
 have ol:=aBu ar;have o3:=aBT ar;unfold gH;generalize gB r=bn at *;generalize (aG fns gns aE (d+2)).2=CX at *;have ha:lv (aG fns gns aE (d+2)).1 aAz [qq (.d (.tuple (rs.map Rw.d))),qq (.d (.int k)),qq (.d r.d),qz,qz,qz] S=qq ((bQ r).map (λ a=>yBj (decide (((k:Nat):Int)<=((a:Nat):Int)))),S):=by
  refine fW (fi:=lv (aG fns gns aE (d+2)).1 (.it (.call 3 (.cons (.var 2) .nil)))) (fe:=ev (aG fns gns aE (d+2)).1 (.cmp .GtE (.var 4) (.var 1))) nD (λ a=>yBj (decide (((k:Nat):Int)<=((a:Nat):Int)))) (bQ r) ?_ (by rw[qo];omega) λ a _=>?_
  ·simp only[evs,cS,op,dP]
  ·refine⟨_,rfl,λ S'=>?_⟩
   simp only[evs,clr,yAj,yAl,nD,lH]
 have hb:(∀ a∈bQ r,a<rs.length)->lv (aG fns gns aE (d+2)).1 aAy [qq (.d (.tuple (rs.map Rw.d))),qq (.d (.int k)),qq (.d r.d),qz,qz,qz] S=qq (((bQ r).map λ a=>(aJ rs a).w).map nD,S):=λ h=>by
  have of':=of' h;rw[yAx];refine fW (fi:=lv (aG fns gns aE (d+2)).1 (.it (.call 4 (.cons (.var 2) (.cons (.var 0) .nil))))) (fe:=ev (aG fns gns aE (d+2)).1 (.ix (.var 5) (.int 1))) (λ a=>(aJ rs a).d) (nD ∘ λ a=>(aJ rs a).w) (bQ r) ?_ (by rw[qo];omega) λ a _=>?_
  ·simp only[evs,cS,of',dP]
  ·refine⟨_,rfl,λ S'=>?_⟩
   simp only[evs,clr,yAj,yAl,fO];rfl
 have q1:∀ bT,xx (aG fns gns aE (d+2)).1 CX aE (.seq (.s (.set 2 (.ix (.var 0) (.var 1)))) bT) [qq (.d (.tuple (rs.map Rw.d))),qq (.d (.int k)),qz,qz,qz,qz] S=xx (aG fns gns aE (d+2)).1 CX aE bT [qq (.d (.tuple (rs.map Rw.d))),qq (.d (.int k)),qq (.d r.d),qz,qz,qz] S:=λ bT=>xk (dG (by simp only[evs,rk])) rfl
 by_cases c1:r.w<1\/64<r.w
 ·rw[if_pos c1];refine lG rfl ((q1 _).trans (eE (pR (S1:=S) ?_ (eE rfl))));rw[aCl rfl r1,dqT c1]
 rw[if_neg c1];have t1:=aCl (C:=(aG fns gns aE (d+2)).1) (i:=2) (env:=[qq (.d (.tuple (rs.map Rw.d))),qq (.d (.int k)),qq (.d r.d),qz,qz,qz]) (S:=S) rfl r1;rw[dqF c1] at t1;have t2:tv (aG fns gns aE (d+2)).1 (.blt .any (.cons (.fz aAz) .nil)) [qq (.d (.tuple (rs.map Rw.d))),qq (.d (.int k)),qq (.d r.d),qz,qz,qz] S=qq ((bQ r).any λ a=>decide (((k:Nat):Int)<=((a:Nat):Int)),S):=by
  simp only[evs,ha,any_map]
 by_cases c2:((bQ r).any λ a=>decide (((k:Nat):Int)<=((a:Nat):Int)))=true
 ·rw[if_pos c2];rw[c2] at t2;exact lG rfl ((q1 _).trans (xk (fU t1 rfl) (eE (pR t2 (eE rfl)))))
 rw[if_neg c2];have lt:∀ a∈bQ r,a<rs.length:=λ a m=>by
  have z:=c2;rw[yEz] at z;rcases yEr a k with q | q
  ·omega
  ·exact absurd ⟨a,m,dqT (by omega)⟩ z
 rw[Bool.eq_false_iff.mpr c2] at t2;have hb:=hb lt;have wf:=wf ((bQ r).map λ a=>(aJ rs a).w) (by rw[yAb];exact ol)
 have t3:xs (aG fns gns aE (d+2)).1 (.set 3 (.blt .tup (.cons (.fz aAy) .nil))) [qq (.d (.tuple (rs.map Rw.d))),qq (.d (.int k)),qq (.d r.d),qz,qz,qz] S=qq (.nx [qq (.d (.tuple (rs.map Rw.d))),qq (.d (.int k)),qq (.d r.d),qq (.d (.tuple (((bQ r).map λ a=>(aJ rs a).w).map nD))),qz,qz],S):=by
  simp only[evs,hb,qU,qL]
 have t4:tv (aG fns gns aE (d+2)).1 (.not (.call 5 (.cons (.var 2) (.cons (.var 3) .nil)))) [qq (.d (.tuple (rs.map Rw.d))),qq (.d (.int k)),qq (.d r.d),qq (.d (.tuple (((bQ r).map λ a=>(aJ rs a).w).map nD))),qz,qz] S=qq (!eV r.wd r.w ((bQ r).map λ a=>(aJ rs a).w),S):=by
  simp only[evs,cS,wf]
 have t5:tv (aG fns gns aE (d+2)).1 (.not (.call 6 (.cons (.var 2) .nil))) [qq (.d (.tuple (rs.map Rw.d))),qq (.d (.int k)),qq (.d r.d),qq (.d (.tuple (((bQ r).map λ a=>(aJ rs a).w).map nD))),qz,qz] S=qq (!bn,S):=by
  have nf:=nf (by omega)
  simp only[evs,cS,nf]
 generalize eV r.wd r.w ((bQ r).map λ a=>(aJ rs a).w)=bf at *
 cases bf with
 | false=>exact lG rfl ((q1 _).trans (xk (fU t1 rfl) (xk (fU t2 rfl) (xk (dG t3) (eE (pR t4 (eE rfl)))))))
 | true =>
   cases bn with
   | false=>exact lG rfl ((q1 _).trans (xk (fU t1 rfl) (xk (fU t2 rfl) (xk (dG t3) (xk (fU t4 rfl) (eE (pR t5 (eE rfl))))))))
   | true=>exact aLS rfl ((q1 _).trans (xk (fU t1 rfl) (xk (fU t2 rfl) (xk (dG t3) (xk (fU t4 rfl) (xk (fU t5 rfl) rfl))))))
theorem aAN{rs:List Rw}{n k:Nat}:lS rs (n+1) k=(match gH rs k (aJ rs k) with
 | some f=>qq (f,k)
 | none=>lS rs n (k+1)):=rfl
noncomputable def flL(e:aV):Option (Ft4×Nat)->FlX
 | none=>.fl (.nx e)
 | some z=>.ex e z.1.c (.int (z.2:Nat))
theorem aEE(d:Nat)(rs:List Rw)(ar:∀ r∈rs,Ar r)(S:aC)(p o:D):∀ (n j:Nat) (a1:Option W),j+n=rs.length ->
 ∃ a1':Option W,mX (.one 1) (xx (aG fns gns aE (d+3)).1 (aG fns gns aE (d+3)).2 aE mI) ((List.range' j n).map nD) [qq (.d p),a1,qq (.d (.tuple (rs.map Rw.d))),qq (.d o),qz] S=qq (flL [qq (.d p),a1',qq (.d (.tuple (rs.map Rw.d))),qq (.d o),qz] (lS rs n j),S)
 | 0,j,a1,_=>⟨a1,rfl⟩
 | n+1,j,a1,h=>by
   have la:=aM6 d rs j (by omega) (ar _ (lT (by omega))) S
   obtain⟨a1',ih⟩:=aEE d rs ar S p o n (j+1) (qq (.d (nD j))) (by omega)
   rw[aAN];have eb:xx (aG fns gns aE (d+3)).1 (aG fns gns aE (d+3)).2 aE (.cal 39 (.cons (.var 2) (.cons (.var 1) .nil))) [qq (.d p),qq (.d (nD j)),qq (.d (.tuple (rs.map Rw.d))),qq (.d o),qz] S=oO (λ _ S'=>qq (aHD j (gH rs j (aJ rs j)),S')) [qq (.d p),qq (.d (nD j)),qq (.d (.tuple (rs.map Rw.d))),qq (.d o),qz] S:=by
    show oO (iD (aG fns gns aE (d+3)).2 39 (av (aG fns gns aE (d+3)).1 (.cons (.var 2) (.cons (.var 1) .nil)))) _ S=_;have e:av (aG fns gns aE (d+3)).1 (.cons (.var 2) (.cons (.var 1) .nil)) [qq (.d p),qq (.d (nD j)),qq (.d (.tuple (rs.map Rw.d))),qq (.d o),qz] S=qq ([.d (.tuple (rs.map Rw.d)),.d (nD j)],S):=by simp only[evs]
    unfold oO;rw[pW,e,oB];show yCw (dI fns gns aE (d+3) 39 [.d (.tuple (rs.map Rw.d)),.d (.int j)] S) _=_;rw[la]
   generalize (aG fns gns aE (d+3)).1=C at *;generalize (aG fns gns aE (d+3)).2=CX at *;show ∃ a1',((xx C CX aE mI [qq (.d p),qq (.d (nD j)),qq (.d (.tuple (rs.map Rw.d))),qq (.d o),qz] S).bind λ q=>_)=_
   cases hf:gH rs j (aJ rs j) with
   | none =>
     rw[hf] at eb;refine⟨a1',?_⟩;rw[show xx C CX aE mI [qq (.d p),qq (.d (nD j)),qq (.d (.tuple (rs.map Rw.d))),qq (.d o),qz] S=qq (.fl (.nx [qq (.d p),qq (.d (nD j)),qq (.d (.tuple (rs.map Rw.d))),qq (.d o),qz]),S) from xk eb rfl,oB]
     exact ih
   | some f =>
     rw[hf] at eb;refine⟨qq (.d (nD j)),?_⟩;rw[show xx C CX aE mI [qq (.d p),qq (.d (nD j)),qq (.d (.tuple (rs.map Rw.d))),qq (.d o),qz] S=qq (.ex [qq (.d p),qq (.d (nD j)),qq (.d (.tuple (rs.map Rw.d))),qq (.d o),qz] f.c (.int j),S) from eE eb,oB]
     rfl
noncomputable def bE(rs:List Rw)(aB:List Nat):D:=.tuple [.tuple (rs.map Rw.d),.tuple (aB.map nD)]
theorem aMJ(d:Nat)(rs:List Rw)(aB:List Nat)(ar:∀ r∈rs,Ar r)(hl:rs.length<=1000)(ho:aB.length<=1000)(S:aC):dI fns gns aE (d+4) 40 [.d (bE rs aB)] S=qq (aRZ (gU rs aB),S):=by
 rw[show dI fns gns aE (d+4) 40=dI fns gns aE (d+4) (fns.length+1) from rfl,oJ (x:=aGK) rfl rfl (d+3) _ S rfl]
 obtain⟨a1,lo⟩:=aEE d rs ar S (bE rs aB) (.tuple (aB.map nD)) rs.length 0 qz (by omega)
 rw[<- yFb] at lo;unfold gU;generalize lS rs rs.length 0=z at *;have ll:cU [.tuple (rs.map Rw.d)]=qq (.int rs.length):=by rw[cZ,yAb]
 have pu:Tg.put (.many [2,3]) (bE rs aB) [qq (.d (bE rs aB)),qz,qz,qz,qz]=qq [qq (.d (bE rs aB)),qz,qq (.d (.tuple (rs.map Rw.d))),qq (.d (.tuple (aB.map nD))),qz]:=rfl;generalize bE rs aB=P at *;generalize (aG fns gns aE (d+3)).1=C at *;generalize (aG fns gns aE (d+3)).2=CX at *;have i0:lv C sX [qq (.d P),qz,qq (.d (.tuple (rs.map Rw.d))),qq (.d (.tuple (aB.map nD))),qz] S=qq ((yAw rs.length).map nD,S):=by
  refine mG ?_ (by omega)
  generalize yBb (rs.map Rw.d)=R at *;simp only[evs,ll]
 have hc:lv C aBo [qq (.d P),a1,qq (.d (.tuple (rs.map Rw.d))),qq (.d (.tuple (aB.map nD))),qz] S=qq (aB.map (λ o=>yBj (decide (((rs.length:Nat):Int)<=((o:Nat):Int)))),S):=by
  refine fW (fi:=lv C (.it (.var 3))) (fe:=ev C (.cmp .GtE (.var 4) (.blt .len (.cons (.var 2) .nil)))) nD (λ o=>yBj (decide (((rs.length:Nat):Int)<=((o:Nat):Int)))) aB ?_ (by rw[qo];omega) λ a _=>?_
  ·simp only[evs,dP]
  ·refine⟨_,rfl,λ S'=>?_⟩
   generalize yBb (rs.map Rw.d)=R at *;simp only[evs,clr,yAj,yAl,ll,nD,lH]
 have ta:tv C (.blt .any (.cons (.fz aBo) .nil)) [qq (.d P),a1,qq (.d (.tuple (rs.map Rw.d))),qq (.d (.tuple (aB.map nD))),qz] S=qq (aB.any λ o=>decide (((rs.length:Nat):Int)<=((o:Nat):Int)),S):=by
  simp only[evs,hc,any_map]
 have s1:xx C CX aE (.s (.setT (.many [2,3]) (.var 0))) [qq (.d P),qz,qz,qz,qz] S=qq (.fl (.nx [qq (.d P),qz,qq (.d (.tuple (rs.map Rw.d))),qq (.d (.tuple (aB.map nD))),qz]),S):=by
  refine dG ?_;show mU _ _ _ _=_;unfold mU;rw[show ev C (.var 0) [qq (.d P),qz,qz,qz,qz] S=qq (.d P,S) from rfl,oB]
  show(Tg.put _ _ _).bind _=_;rw[pu];rfl
 have s2:xx C CX aE (.loop (.one 1) sX mI) [qq (.d P),qz,qq (.d (.tuple (rs.map Rw.d))),qq (.d (.tuple (aB.map nD))),qz] S=qq (flL [qq (.d P),a1,qq (.d (.tuple (rs.map Rw.d))),qq (.d (.tuple (aB.map nD))),qz] z,S):=by
  show mY (.one 1) (lv C sX) (xx C CX aE mI) _ _=_;unfold mY;rw[i0,oB];exact lo
 cases z with
 | some z=>exact lG rfl (xk s1 (eE s2))
 | none =>
   have s2:xx C CX aE (.loop (.one 1) sX mI) [qq (.d P),qz,qq (.d (.tuple (rs.map Rw.d))),qq (.d (.tuple (aB.map nD))),qz] S=qq (.fl (.nx [qq (.d P),a1,qq (.d (.tuple (rs.map Rw.d))),qq (.d (.tuple (aB.map nD))),qz]),S):=s2;dsimp only
   by_cases c:(aB.any λ o=>decide (((rs.length:Nat):Int)<=((o:Nat):Int)))=true
   ·rw[c] at ta;rw[if_pos c];have ra:xx C CX aE (.raise1 "NoRow" (.blt .len (.cons (.var 2) .nil))) [qq (.d P),a1,qq (.d (.tuple (rs.map Rw.d))),qq (.d (.tuple (aB.map nD))),qz] S=qq (.ex [qq (.d P),a1,qq (.d (.tuple (rs.map Rw.d))),qq (.d (.tuple (aB.map nD))),qz] "NoRow" (.int rs.length),S):=by
     show xK "NoRow" _ _ _=_;unfold xK;generalize yBb (rs.map Rw.d)=R at *;simp only[evs,ll]
    exact lG rfl (xk s1 (xk s2 (eE (pR ta (eE ra)))))
   ·rw[Bool.eq_false_iff.mpr c] at ta;rw[if_neg c];exact aBA rfl (xk s1 (xk s2 (xk (fU ta rfl) (xX (dG (by simp only[evs]))))))
theorem aMg(a:Wd):bA .In (.str a.s) (.tuple [.str "in",.str "num"])=qq (.bool (decide (a=.in\/a=.num))):=by cases a<;>rfl
theorem aNC(a:Wd):bA .In (.str a.s) (.tuple [.str "and",.str "or",.str "xor",.str "add",.str "sub",.str "mul",.str "same",.str "less",.str "under"])=qq (.bool (decide (dR a=2))):=by cases a<;>kernel_rfl
theorem aMT(d:Nat)(a:Wd)(S:aC):cl fns (d+1) 25 [.d (.str a.s)] S=qq (.d (.int (dR a:Nat)),S):=by
 have t1:=kL (C:=aF fns d) (i:=0) (S:=S) (e:=.tup (.cons (.str "in") (.cons (.str "num") .nil))) (env:=[qq (.d (.str a.s))]) rfl rfl (aMg a);have t2:=kL (C:=aF fns d) (i:=0) (S:=S) (e:=.tup (.cons (.str "and") (.cons (.str "or") (.cons (.str "xor") (.cons (.str "add") (.cons (.str "sub") (.cons (.str "mul") (.cons (.str "same") (.cons (.str "less") (.cons (.str "under") .nil)))))))))) (env:=[qq (.d (.str a.s))]) rfl rfl (aNC a);refine cT rfl d rfl rfl yAf ?_;show xs (aF fns d) _ [qq (.d (.str a.s))] S=_
 by_cases c1:a=.in\/a=.num
 ·rw[dqT c1] at t1;rw[show dR a=0 by rcases c1 with c | c<;>rw[c]<;>rfl]
  exact cF t1 (bG rfl)
 rw[dqF c1] at t1;refine bS t1 ?_
 by_cases c2:dR a=2
 ·rw[dqT c2] at t2;rw[c2];exact cF t2 (bG rfl)
 rw[dqF c2] at t2;refine bS t2 (bG ?_);have e:=gT a .pick
 by_cases c3:a=.pick
 ·rw[dqT c3] at e;have e:bA .Eq (.str a.s) (.str "pick")=qq (.bool true):=e;rw[show dR a=3 by rw[c3];rfl]
  simp only[evs,e,qN,qS,qH (i:=2) (j:=1) (by decide) (by decide),cY]
  rfl
 ·rw[dqF c3] at e;have e:bA .Eq (.str a.s) (.str "pick")=qq (.bool false):=e;have h1:dR a=1:=by
   cases a<;>first | rfl | (exact absurd rfl c3) | (exact absurd rfl c2) | (exact absurd (.inl rfl) c1) | (exact absurd (.inr rfl) c1)
  rw[h1];simp only[evs,e,qN,qS,qH (i:=2) (j:=0) (by decide) (by decide),cY]
  rfl
theorem aLR(vs:List Nat)(w:Nat):(vs.filter λ v=>!(((v:Nat):Int)==((w:Nat):Int))).isEmpty=vs.all λ v=>bX v w:=by
 induction vs with
 | nil=>rfl
 | cons a l ih =>
   rw[yDa,yDl,<- ih];unfold bX;cases ((a:Nat):Int)==((w:Nat):Int)<;>rfl
theorem aI4(d:Nat)(r:Rw)(vs:List Nat)(hv:vs.length=dR r.wd)(S:aC):cl fns (d+1) 26 [.d r.d,.d (.list (vs.map nD))] S=qq (.d (.bool (eV r.wd r.w vs)),S):=by
 have r0:=oR r;have r1:=fO r;have t1:=kL (C:=aF fns d) (i:=2) (S:=S) (e:=.tup (.cons (.str "same") (.cons (.str "less") (.cons (.str "under") .nil)))) (env:=[qq (.d r.d),qq (.d (.list (vs.map nD))),qq (.d (.str r.wd.s)),qz]) rfl rfl (xD r.wd);have t2:=iR (C:=aF fns d) (i:=2) (S:=S) (x:="pick") (env:=[qq (.d r.d),qq (.d (.list (vs.map nD))),qq (.d (.str r.wd.s)),qz]) rfl (gT r.wd .pick);have t3:=iR (C:=aF fns d) (i:=2) (S:=S) (x:="cut") (env:=[qq (.d r.d),qq (.d (.list (vs.map nD))),qq (.d (.str r.wd.s)),qz]) rfl (gT r.wd .cut);have t4:=kL (C:=aF fns d) (i:=2) (S:=S) (e:=.tup (.cons (.str "wide") (.cons (.str "sign") .nil))) (env:=[qq (.d r.d),qq (.d (.list (vs.map nD))),qq (.d (.str r.wd.s)),qz]) rfl rfl (aFE r.wd);refine cT rfl d rfl rfl yAf (bM (w:=.d (.str r.wd.s)) (S1:=S) (by simp only[evs,r0]) rfl ?_)
 show xs (aF fns d) _ [qq (.d r.d),qq (.d (.list (vs.map nD))),qq (.d (.str r.wd.s)),qz] S=_
 by_cases c1:r.wd=.same\/r.wd=.less\/r.wd=.under
 ·rw[dqT c1] at t1;have hn:vs.length=2:=by rcases c1 with c | c | c<;>rw[hv,c]<;>rfl
  have g0:bC (.list (vs.map nD)) (.int 0)=qq (.int ((vs.getD 0 0:Nat):Int)):=kI (k:=0) (by omega)
  have g1:bC (.list (vs.map nD)) (.int 1)=qq (.int ((vs.getD 1 0:Nat):Int)):=kI (k:=1) (by omega)
  have ef:eV r.wd r.w vs=(bX r.w 1&&bX (vs.getD 0 0) (vs.getD 1 0)):=by rcases c1 with c | c | c<;>rw[c]<;>rfl
  rw[ef];refine cF t1 (bG ?_);unfold bX;generalize yBg (vs.map nD)=T at *;rcases yBv (((r.w:Nat):Int)==1) with z | z
  ·simp only[evs,r1,cG,z,g0,g1];rw[show(((r.w:Nat):Int)==((1:Nat):Int))=true from z]
   rfl
  ·simp only[evs,r1,cG,z];rw[show(((r.w:Nat):Int)==((1:Nat):Int))=false from z]
   rfl
 rw[dqF c1] at t1;refine bS t1 ?_
 by_cases c3:r.wd=.cut
 ·rw[dqT c3] at t3;have hn:vs.length=1:=by rw[hv,c3];rfl
  have ef:eV r.wd r.w vs=decide (((r.w:Nat):Int)<=((vs.getD 0 0:Nat):Int)):=by rw[c3];rfl
  have g0:bC (.list (vs.map nD)) (.int 0)=qq (.int ((vs.getD 0 0:Nat):Int)):=kI (k:=0) (by omega)
  rw[ef];exact cF t3 (bG (by simp only[evs,g0,r1,lH]))
 rw[dqF c3] at t3;refine bS t3 ?_
 by_cases c4:r.wd=.wide\/r.wd=.sign
 ·rw[dqT c4] at t4;have hn:vs.length=1:=by rcases c4 with c | c<;>rw[hv,c]<;>rfl
  have ef:eV r.wd r.w vs=decide (((vs.getD 0 0:Nat):Int)<=((r.w:Nat):Int)):=by rcases c4 with c | c<;>rw[c]<;>rfl
  have g0:bC (.list (vs.map nD)) (.int 0)=qq (.int ((vs.getD 0 0:Nat):Int)):=kI (k:=0) (by omega)
  rw[ef];exact cF t4 (bG (by simp only[evs,g0,r1,lJ]))
 rw[dqF c4] at t4;refine bS t4 ?_
 by_cases c2:r.wd=.pick
 ·rw[dqT c2] at t2;have hn:vs.length=3:=by rw[hv,c2];rfl
  have ef:eV r.wd r.w vs=(bX (vs.getD 0 0) 1&&(bX (vs.getD 1 0) r.w&&bX (vs.getD 2 0) r.w)):=by rw[c2];rfl
  have g0:bC (.list (vs.map nD)) (.int 0)=qq (.int ((vs.getD 0 0:Nat):Int)):=kI (k:=0) (by omega)
  have g1:bC (.list (vs.map nD)) (.int 1)=qq (.int ((vs.getD 1 0:Nat):Int)):=kI (k:=1) (by omega)
  have g2:bC (.list (vs.map nD)) (.int 2)=qq (.int ((vs.getD 2 0:Nat):Int)):=kI (k:=2) (by omega)
  rw[ef];refine cF t2 (bG ?_);have u1:(((vs.getD 0 0:Nat):Int)==1)=bX (vs.getD 0 0) 1:=rfl;have u2:(((vs.getD 1 0:Nat):Int)==((r.w:Nat):Int))=bX (vs.getD 1 0) r.w:=rfl;have u3:(((vs.getD 2 0:Nat):Int)==((r.w:Nat):Int))=bX (vs.getD 2 0) r.w:=rfl;generalize yBg (vs.map nD)=T at *;generalize bX (vs.getD 0 0) 1=b1 at *;generalize bX (vs.getD 1 0) r.w=b2 at *;generalize bX (vs.getD 2 0) r.w=b3 at *;cases b1<;>cases b2<;>simp only[evs,g0,g1,g2,r1,cG,u1,u2,u3,yBn,yCl]
 rw[dqF c2] at t2;refine bS t2 (bG ?_);rw[aFl c1 c2 c3 c4,<- aLR];have hc:lv (aF fns d) aDj [qq (.d r.d),qq (.d (.list (vs.map nD))),qq (.d (.str r.wd.s)),qz] S=qq ((vs.filter λ v=>!(((v:Nat):Int)==((r.w:Nat):Int))).map nD,S):=by
  refine wX (fi:=lv (aF fns d) (.it (.var 1))) (fc:=tv (aF fns d) (.cmp .NotEq (.var 3) (.ix (.var 0) (.int 1)))) (fe:=ev (aF fns d) (.var 3)) nD nD (λ v=>!(((v:Nat):Int)==((r.w:Nat):Int))) vs ?_ (by rw[qo,hv];cases r.wd<;>decide) λ v _=>?_
  ·simp only[evs,dP]
  ·refine⟨_,rfl,λ aH=>?_,λ _ aH=>?_⟩
   ·simp only[evs,clr,yAj,yAl,nD,r1,qT]
   ·simp only[evs,clr,yAj,yAl]
 simp only[evs,hc,aNY]
noncomputable def lX(k:Nat):Option Ft4->D
 | none=>.tuple [.str "good",.bool true]
 | some f=>.tuple [.str f.s,.int k]
noncomputable def kS:Option (Ft4×Nat)->D
 | none=>.tuple [.str "good",.bool true]
 | some z=>.tuple [.str z.1.s,.int (z.2:Nat)]
theorem aEA{rs:List Rw}{a:Nat}(h:a<rs.length):bC (.tuple (rs.map Rw.d)) (.int a)=qq (aJ rs a).d:=xH h
theorem aFi(l:List Nat)(k:Nat):(!(l.filter λ a=>decide (((k:Nat):Int)<=((a:Nat):Int))).isEmpty)=l.any λ a=>decide (((k:Nat):Int)<=((a:Nat):Int)):=by
 induction l with
 | nil=>rfl
 | cons a l ih =>
   rw[yDa,yEd,<- ih];cases decide (((k:Nat):Int)<=((a:Nat):Int))<;>rfl
theorem aNc{C:Calls}{i:Nat}{env:aV}{S:aC}{r:Rw}(h:env[i]? = qq (qq (.d r.d)))(ar:Ar r)(hw:r.w<=64):tv C (.or (.and (.cmp .Eq (.ix (.var i) (.int 0)) (.str "num")) (.cmp .GtE (.ix (.var i) (.int 2)) (.bin .LShift (.int 1) (.ix (.var i) (.int 1))))) (.and (.cmp .In (.ix (.var i) (.int 0)) (.tup (.cons (.str "left") (.cons (.str "right") (.cons (.str "slide") .nil))))) (.cmp .Gt (.ix (.var i) (.int 3)) (.int 63)))) env S=qq (!gB r,S):=by
 have r0:=oR r;have r1:=fO r;have is:=sP r.wd;have en:=gT r.wd .num;have en:bA .Eq (.str r.wd.s) (.str "num")=qq (.bool (decide (r.wd=.num))):=en
 by_cases c1:r.wd=.num
 ·rw[dqT c1] at en;rw[dqF (by rw[c1];decide)] at is
  have a1:=rV (r:=r) (by rw[ar,c1];rfl)
  have sh:=iP (w:=r.w) (by omega)
  have ef:gB r=decide (r.args.getD 0 0<2^r.w):=by unfold gB;rw[c1]
  have eg:decide (((2^r.w:Nat):Int)<=((r.args.getD 0 0:Nat):Int)) = !decide (r.args.getD 0 0<2^r.w):=by rw[<- decide_not,decide_eq_decide];omega
  rw[ef,<- eg];generalize r.d=R at *;cases hd:decide (((2^r.w:Nat):Int)<=((r.args.getD 0 0:Nat):Int))<;>simp only[evs,h,r0,r1,en,a1,sh,lH,hd,is]
 rw[dqF c1] at en
 by_cases c2:r.wd=.left\/r.wd=.right\/r.wd=.slide
 ·rw[dqT c2] at is;have a2:=ar2 (r:=r) (by rw[ar];rcases c2 with c | c | c<;>rw[c]<;>rfl)
  have ef:gB r=decide (r.args.getD 1 0<=63):=by unfold gB;rcases c2 with c | c | c<;>rw[c]
  have eg:decide ((63:Int)<((r.args.getD 1 0:Nat):Int)) = !decide (r.args.getD 1 0<=63):=by rw[<- decide_not,decide_eq_decide];omega
  rw[ef,<- eg];generalize r.d=R at *;simp only[evs,h,r0,en,a2,gG,is]
 rw[dqF c2] at is;rw[aFb c1 c2];generalize r.d=R at *;simp only[evs,h,r0,en,is]
theorem aJO(d:Nat)(rs:List Rw)(k:Nat)(hk:k<rs.length)(ar:Ar (aJ rs k))(S:aC):cl fns (d+2) 27 [.d (.tuple (rs.map Rw.d)),.d (.int k)] S=qq (.d (lX k (gH rs k (aJ rs k))),S):=by
 have rk:=aEA hk;generalize aJ rs k=r at *;have r0:=oR r;have r1:=fO r;have mn:=aMT d r.wd S;have ol:=aBu ar;have o3:=aBT ar;have e2:(2:Int)+((dR r.wd:Nat):Int)=((2+dR r.wd:Nat):Int):=by omega
 have sl:ev (aF fns (d+1)) (.sl (.var 2) (.cons (.int 2) .nil) (.cons (.bin .Add (.int 2) (.call 25 (.cons (.ix (.var 2) (.int 0)) .nil))) .nil)) [qq (.d (.tuple (rs.map Rw.d))),qq (.d (.int k)),qq (.d r.d),qz,qz] S=qq (.d (.tuple ((bQ r).map nD)),S):=by
  simp only[aB9];refine aFz r (dR r.wd) (by simp only[evs]) (by simp only[evs,cL]) ?_
  simp only[evs,cL,oR,mn,cY,e2]
 refine cT rfl (d+1) rfl rfl yAf (bM (w:=.d r.d) (S1:=S) (by simp only[evs,rk]) rfl (bM sl rfl ?_))
 show xs (aF fns (d+1)) _ [qq (.d (.tuple (rs.map Rw.d))),qq (.d (.int k)),qq (.d r.d),qq (.d (.tuple ((bQ r).map nD))),qz] S=_;have t1:=aCl (C:=aF fns (d+1)) (i:=2) (env:=[qq (.d (.tuple (rs.map Rw.d))),qq (.d (.int k)),qq (.d r.d),qq (.d (.tuple ((bQ r).map nD))),qz]) (S:=S) rfl r1;unfold gH
 by_cases c1:r.w<1\/64<r.w
 ·rw[if_pos c1];rw[dqT c1] at t1;exact cF t1 (bG rfl)
 rw[if_neg c1];rw[dqF c1] at t1;refine bS t1 ?_;have hc:lv (aF fns (d+1)) aAu [qq (.d (.tuple (rs.map Rw.d))),qq (.d (.int k)),qq (.d r.d),qq (.d (.tuple ((bQ r).map nD))),qz] S=qq (((bQ r).filter λ a=>decide (((k:Nat):Int)<=((a:Nat):Int))).map nD,S):=by
  refine wX (fi:=lv (aF fns (d+1)) (.it (.var 3))) (fc:=tv (aF fns (d+1)) (.cmp .GtE (.var 4) (.var 1))) (fe:=ev (aF fns (d+1)) (.var 4)) nD nD (λ a=>decide (((k:Nat):Int)<=((a:Nat):Int))) (bQ r) ?_ (by rw[qo];omega) λ v _=>?_
  ·simp only[evs,dP]
  ·refine⟨_,rfl,λ aH=>?_,λ _ aH=>?_⟩
   ·simp only[evs,clr,yAj,yAl,nD,lH]
   ·simp only[evs,clr,yAj,yAl]
 have t2:tv (aF fns (d+1)) (.cmp .NotEq (.fz aAu) (.fz (.lst .nil))) [qq (.d (.tuple (rs.map Rw.d))),qq (.d (.int k)),qq (.d r.d),qq (.d (.tuple ((bQ r).map nD))),qz] S=qq ((bQ r).any λ a=>decide (((k:Nat):Int)<=((a:Nat):Int)),S):=by
  rw[<- aFi];simp only[evs,hc,aBQ]
 by_cases c2:((bQ r).any λ a=>decide (((k:Nat):Int)<=((a:Nat):Int)))=true
 ·rw[if_pos c2];rw[c2] at t2;exact cF t2 (bG rfl)
 rw[if_neg c2];have lt:∀ a∈bQ r,a<rs.length:=λ a m=>by
  have z:=c2;rw[yEz] at z;rcases yEr a k with q | q
  ·omega
  ·exact absurd ⟨a,m,dqT (by omega)⟩ z
 rw[Bool.eq_false_iff.mpr c2] at t2;refine bS t2 ?_;have hb:lv (aF fns (d+1)) aAt [qq (.d (.tuple (rs.map Rw.d))),qq (.d (.int k)),qq (.d r.d),qq (.d (.tuple ((bQ r).map nD))),qz] S=qq (((bQ r).map λ a=>(aJ rs a).w).map nD,S):=by
  rw[yAx];refine fW (fi:=lv (aF fns (d+1)) (.it (.var 3))) (fe:=ev (aF fns (d+1)) (.ix (.ix (.var 0) (.var 4)) (.int 1))) nD (nD ∘ λ a=>(aJ rs a).w) (bQ r) ?_ (by rw[qo];omega) λ a ha=>?_
  ·simp only[evs,dP]
  ·refine⟨_,rfl,λ S'=>?_⟩
   have g:=aEA (lt a ha);simp only[evs,clr,yAj,yAl,nD,g,fO];rfl
 have ft:=aI4 d r ((bQ r).map λ a=>(aJ rs a).w) (by rw[yAb];exact ol) S
 have t4:tv (aF fns (d+1)) (.not (.call 26 (.cons (.var 2) (.cons (.fz aAt) .nil)))) [qq (.d (.tuple (rs.map Rw.d))),qq (.d (.int k)),qq (.d r.d),qq (.d (.tuple ((bQ r).map nD))),qz] S=qq (!eV r.wd r.w ((bQ r).map λ a=>(aJ rs a).w),S):=by
  simp only[evs,hb,ft]
 have t5:=aNc (C:=aF fns (d+1)) (i:=2) (env:=[qq (.d (.tuple (rs.map Rw.d))),qq (.d (.int k)),qq (.d r.d),qq (.d (.tuple ((bQ r).map nD))),qz]) (S:=S) rfl ar (by omega)
 generalize eV r.wd r.w ((bQ r).map λ a=>(aJ rs a).w)=bf at *
 generalize gB r=bn at *;cases bf with
 | false=>exact cF t4 (bG rfl)
 | true =>
   refine bS t4 ?_;cases bn with
   | false=>exact cF t5 (bG rfl)
   | true=>exact bS t5 (bG rfl)
theorem aLT(f:Ft4):bA .NotEq (.str f.s) (.str "good")=qq (.bool true):=by cases f<;>kernel_rfl
theorem aKZ:bA .NotEq (.str "good") (.str "good")=qq (.bool false):=by kernel_rfl
noncomputable def flD(e:aV):Option (Ft4×Nat)->Fl
 | none=>.nx e
 | some z=>.rt (.d (kS (qq z)))
theorem aE0(d:Nat)(rs:List Rw)(ar:∀ r∈rs,Ar r)(S:aC)(o:D):∀ (n j:Nat) (a2 a3:Option W),j+n=rs.length ->
 ∃ a2' a3':Option W,eJ (.one 2) (xs (aF fns (d+2)) kB) ((List.range' j n).map nD) [qq (.d (.tuple (rs.map Rw.d))),qq (.d o),a2,a3,qz] S=qq (flD [qq (.d (.tuple (rs.map Rw.d))),qq (.d o),a2',a3',qz] (lS rs n j),S)
 | 0,j,a2,a3,_=>⟨a2,a3,rfl⟩
 | n+1,j,a2,a3,h=>by
   have la:=aJO d rs j (by omega) (ar _ (lT (by omega))) S
   obtain⟨a2',a3',ih⟩:=aE0 d rs ar S o n (j+1) (qq (.d (nD j))) (qq (.d (lX j (gH rs j (aJ rs j))))) (by omega)
   rw[aAN];have s1:xs (aF fns (d+2)) (.set 3 (.call 27 (.cons (.var 0) (.cons (.var 2) .nil)))) [qq (.d (.tuple (rs.map Rw.d))),qq (.d o),qq (.d (nD j)),a3,qz] S=qq (.nx [qq (.d (.tuple (rs.map Rw.d))),qq (.d o),qq (.d (nD j)),qq (.d (lX j (gH rs j (aJ rs j)))),qz],S):=by
    simp only[evs,nD,la]
   show ∃ a2' a3',((xs (aF fns (d+2)) kB [qq (.d (.tuple (rs.map Rw.d))),qq (.d o),qq (.d (nD j)),a3,qz] S).bind λ q=>_)=_
   generalize aF fns (d+2)=C at *;generalize yBb (rs.map Rw.d)=R at *;cases hf:gH rs j (aJ rs j) with
   | none =>
     rw[hf] at s1 ih;refine⟨a2',a3',?_⟩;have e:xs C kB [qq (.d R),qq (.d o),qq (.d (nD j)),a3,qz] S=qq (.nx [qq (.d R),qq (.d o),qq (.d (nD j)),qq (.d (lX j qz)),qz],S):=by
      refine dY s1 (bS (S1:=S) ?_ rfl);have i0:bC (lX j qz) (.int 0)=qq (.str "good"):=rfl;generalize lX j qz=T at *;simp only[evs,i0,aKZ]
     rw[e,oB];exact ih
   | some f =>
     rw[hf] at s1;refine⟨qq (.d (nD j)),qz,?_⟩;have e:xs C kB [qq (.d R),qq (.d o),qq (.d (nD j)),a3,qz] S=qq (.rt (.d (lX j (qq f))),S):=by
      refine dY s1 (cF (S1:=S) ?_ (bG rfl));have i0:bC (lX j (qq f)) (.int 0)=qq (.str f.s):=rfl;generalize lX j (qq f)=T at *;simp only[evs,i0,aLT f]
     rw[e,oB];rfl
theorem aNK(d:Nat)(rs:List Rw)(aB:List Nat)(ar:∀ r∈rs,Ar r)(hl:rs.length<=1000)(ho:aB.length<=1000)(S:aC):cl fns (d+3) 28 [.d (.tuple (rs.map Rw.d)),.d (.tuple (aB.map nD))] S=qq (.d (kS (gU rs aB)),S):=by
 obtain⟨a2,a3,lo⟩:=aE0 d rs ar S (.tuple (aB.map nD)) rs.length 0 qz qz (by omega)
 rw[<- yFb] at lo;unfold gU;generalize lS rs rs.length 0=z at *;have ll:cU [.tuple (rs.map Rw.d)]=qq (.int rs.length):=by rw[cZ,yAb]
 refine cT rfl (d+2) rfl rfl yAf ?_;show xs (aF fns (d+2)) aEq [qq (.d (.tuple (rs.map Rw.d))),qq (.d (.tuple (aB.map nD))),qz,qz,qz] S=_;generalize aF fns (d+2)=C at *;generalize yBb (rs.map Rw.d)=R at *;have i0:lv C nR [qq (.d R),qq (.d (.tuple (aB.map nD))),qz,qz,qz] S=qq ((yAw rs.length).map nD,S):=by
  refine mG ?_ (by omega)
  simp only[evs,ll]
 have s1:xs C (.loop (.one 2) nR kB) [qq (.d R),qq (.d (.tuple (aB.map nD))),qz,qz,qz] S=qq (flD [qq (.d R),qq (.d (.tuple (aB.map nD))),a2,a3,qz] z,S):=by
  show gZ (.one 2) (lv C nR) (xs C kB) _ _=_;unfold gZ;rw[i0,oB];exact lo
 have hc:lv C aAF [qq (.d R),qq (.d (.tuple (aB.map nD))),a2,a3,qz] S=qq ((aB.filter λ o=>decide (((rs.length:Nat):Int)<=((o:Nat):Int))).map nD,S):=by
  refine wX (fi:=lv C (.it (.var 1))) (fc:=tv C (.cmp .GtE (.var 4) (.blt .len (.cons (.var 0) .nil)))) (fe:=ev C (.var 4)) nD nD (λ o=>decide (((rs.length:Nat):Int)<=((o:Nat):Int))) aB ?_ (by rw[qo];omega) λ v _=>?_
  ·simp only[evs,dP]
  ·refine⟨_,rfl,λ aH=>?_,λ _ aH=>?_⟩
   ·simp only[evs,clr,yAj,yAl,nD,ll,lH]
   ·simp only[evs,clr,yAj,yAl]
 have t2:tv C (.cmp .NotEq (.fz aAF) (.fz (.lst .nil))) [qq (.d R),qq (.d (.tuple (aB.map nD))),a2,a3,qz] S=qq (aB.any λ o=>decide (((rs.length:Nat):Int)<=((o:Nat):Int)),S):=by
  rw[<- aFi];simp only[evs,hc,aBQ]
 cases z with
 | some z =>
   have s1:xs C (.loop (.one 2) nR kB) [qq (.d R),qq (.d (.tuple (aB.map nD))),qz,qz,qz] S=qq (.rt (.d (kS (qq z))),S):=s1;show(xs C (.loop (.one 2) nR kB) [qq (.d R),qq (.d (.tuple (aB.map nD))),qz,qz,qz] S).bind _=_;rw[s1];rfl
 | none =>
   have s1:xs C (.loop (.one 2) nR kB) [qq (.d R),qq (.d (.tuple (aB.map nD))),qz,qz,qz] S=qq (.nx [qq (.d R),qq (.d (.tuple (aB.map nD))),a2,a3,qz],S):=s1;refine dY s1 ?_;dsimp only
   by_cases c:(aB.any λ o=>decide (((rs.length:Nat):Int)<=((o:Nat):Int)))=true
   ·rw[c] at t2;rw[if_pos c];refine cF t2 (bG ?_);simp only[evs,ll];rfl
   ·rw[Bool.eq_false_iff.mpr c] at t2;rw[if_neg c];exact bS t2 (bG rfl)
theorem aKQ{rs:List Rw}{a:Nat}(h:a<rs.length):bC (.list (rs.map Rw.d)) (.int a)=qq (aJ rs a).d:=xH h
noncomputable def jl(c:Nat):List (List Nat)->List Nat
 | []=>[]
 | [a]=>a
 | a::b::r=>a++c::jl c (b::r)
theorem mJ(c:Nat):∀ ps:List Str,(Txt.join ⟨#[c]⟩ ps).cps.toList=jl c (ps.map λ p=>p.cps.toList):=by
 intro ps;rw[show Txt.join ⟨#[c]⟩ ps=Str.join ⟨#[c]⟩ ps from StrLaws.glued_eq_join _ ps]
 induction ps with
 | nil=>rfl
 | cons a r ih =>
   cases r with
   | nil=>rfl
   | cons b r =>
     show(a++⟨#[c]⟩++Str.join ⟨#[c]⟩ (b::r)).cps.toList=_;rw[Str.cps_append,Str.cps_append,yFh,yFh,ih];show a.cps.toList++[c]++_=_;rw[yDm];rfl
theorem aFC{c:Nat}:∀ {a b r s:List Nat},c ∉ a->c ∉ b->a++c::r=b++c::s->a=b/\r=s
 | [],[],r,s,_,_,h=>⟨rfl,(List.cons.inj h).2⟩
 | [],y::b,r,s,_,hb,h=>absurd (by rw[(List.cons.inj h).1];exact xAd) hb
 | x::a,[],r,s,ha,_,h=>absurd (by rw[<- (List.cons.inj h).1];exact xAd) ha
 | x::a,y::b,r,s,ha,hb,h=>by
   obtain⟨h1,h2⟩:=List.cons.inj h;obtain⟨i1,i2⟩:=aFC (λ z=>ha (xAf _ z)) (λ z=>hb (xAf _ z)) h2
   exact⟨by rw[h1,i1],i2⟩
theorem aGl{c:Nat}:∀ {as bs:List (List Nat)},as≠[]->bs≠[]->(∀ a∈as,c ∉ a)->(∀ b∈bs,c ∉ b)->jl c as=jl c bs->as=bs
 | [],_,h,_,_,_,_=>absurd rfl h
 | _::_,[],_,h,_,_,_=>absurd rfl h
 | [a],[b],_,_,_,_,h=>by
   have h:a=b:=h;rw[h]
 | [a],b::b'::r,_,_,ha,_,h=>absurd (by
    have h:a=b++c::jl c (b'::r):=h;rw[h];simp) (ha a xAd)
 | a::a'::r,[b],_,_,_,hb,h=>absurd (by
    have h:a++c::jl c (a'::r)=b:=h;rw[<- h];simp) (hb b xAd)
 | a::a'::r,b::b'::s,_,_,ha,hb,h=>by
   obtain⟨h1,h2⟩:=aFC (ha a xAd) (hb b xAd) h;rw[h1,aGl (by simp) (by simp) (λ x m=>ha x (xAf _ m)) (λ x m=>hb x (xAf _ m)) h2]
theorem aDF:∀ {ps qs:List Str},(ps.map λ p=>p.cps.toList)=(qs.map λ p=>p.cps.toList)->ps=qs
 | [],[],_=>rfl
 | [],_::_,h=>by cases h
 | _::_,[],h=>by cases h
 | p::ps,q::qs,h=>by
   obtain⟨h1,h2⟩:=List.cons.inj h;rw[aDF h2,Str.ext' (Array.toList_inj.mp h1)]
theorem aEB(x:Str)(c:Nat):Txt.split x ⟨#[c]⟩≠[]:=by
 unfold Txt.split
 split
 ·simp
 ·split
  ·simp
  ·intro h;have:=congrArg yFq h;rw[length_partsBetween] at this;simp at this
theorem aDP{c:Nat}{ps:List Str}(hne:ps≠[])(hf:∀ p∈ps,c ∉ p.cps.toList):Txt.split (Txt.join ⟨#[c]⟩ ps) ⟨#[c]⟩=ps:=by
 have e:Str.join ⟨#[c]⟩ (Txt.split (Txt.join ⟨#[c]⟩ ps) ⟨#[c]⟩)=Txt.join ⟨#[c]⟩ ps:=StrLaws.join_split _ _;have e2:jl c ((Txt.split (Txt.join ⟨#[c]⟩ ps) ⟨#[c]⟩).map λ p=>p.cps.toList)=jl c (ps.map λ p=>p.cps.toList):=by
  rw[<- mJ,<- mJ,show Txt.join ⟨#[c]⟩ (Txt.split (Txt.join ⟨#[c]⟩ ps) ⟨#[c]⟩)=Str.join ⟨#[c]⟩ (Txt.split (Txt.join ⟨#[c]⟩ ps) ⟨#[c]⟩) from StrLaws.glued_eq_join _ _,e]
 refine aDF (aGl (λ z=>aEB _ c (List.map_eq_nil_iff.mp z)) (λ z=>hne (List.map_eq_nil_iff.mp z)) (λ a m=>?_) (λ a m=>?_) e2)
 ·obtain⟨p,mp,rfl⟩:=List.mem_map.mp m;exact StrLaws.split_free _ c p mp
 ·obtain⟨p,mp,rfl⟩:=List.mem_map.mp m;exact hf p mp
noncomputable def bJ(n:Nat):Str:=Str.ofString (toString ((n:Nat):Int))
theorem tF(m:Nat):(bJ m).cps.toList=(yEu 10 m).map Char.toNat:=PySem.W.KIN.signs_num m
theorem qJ(m:Nat):∀ c∈(bJ m).cps.toList,48<=c/\c<=57:=λ c hc=>by
 rw[tF] at hc;obtain⟨ch,hch,e⟩:=List.mem_map.mp hc;have r:=PyProof.Rows.digit_range (Nat.isDigit_of_mem_toDigits (by decide) (by decide) hch)
 rw[<- e];exact r
theorem aB4(m:Nat):(bJ m).cps.toList≠[]:=by
 rw[tF];intro e;have h:=toDigits_len_ge 10 m;rw[List.map_eq_nil_iff.mp e] at h;exact absurd h (by decide)
theorem nY{m:Nat}(h:m<10^20):(bJ m).length<=20:=PyProof.Rows.toString_length_le (by omega) (by decide) (by exact_mod_cast h)
theorem aK0(m:Nat):1<=(bJ m).length:=by
 have:=aB4 m;have e:(bJ m).cps.toList.length=(bJ m).length:=yAm;cases h:(bJ m).cps.toList with
 | nil=>exact absurd h this
 | cons a r=>rw[h] at e;simp at e;omega
theorem aE6{m:Nat}(h:m<10^20):PySem.intText? (bJ m)=qq ((m:Nat):Int):=by
 have e:=intText_digits (x:=bJ m) (qJ m) (aB4 m) (xAg (nY h) (by decide))
 rw[tF,PySem.W.KIN.val_back] at e;exact e
theorem aRm:∀ m:Nat,m≠0->(yEu 10 m).head?≠qq '0':=by
 intro m
 induction m using Nat.strongRecOn with
 | _ m ih =>
   intro h0
   by_cases h:m<10
   ·rw[Nat.toDigits_of_lt_base h];have:∀ d:Nat,d<10->d≠0->([Nat.digitChar d].head?≠qq '0'):=by decide
    exact this m h h0
   ·have hm:m%10<10:=Nat.mod_lt m (by decide)
    have t:yEu 10 (m/10)++yEu 10 (m%10)=yEu 10 (10*(m/10)+m%10):=Nat.toDigits_append_toDigits (by decide) (by omega) hm
    rw[Nat.div_add_mod] at t;have i:=ih (m/10) (by omega) (by omega)
    rw[<- t];cases e:yEu 10 (m/10) with
    | nil =>
      have h:=toDigits_len_ge 10 (m/10);rw[e] at h;exact absurd h (by decide)
    | cons a r =>
      rw[e] at i;exact i
theorem aJR{m:Nat}(h:m≠0){c:Nat}(hc:(bJ m).cps.toList.head? = qq c):c≠48:=by
 rw[tF,List.head?_map] at hc;obtain⟨ch,e1,e2⟩:=Option.map_eq_some_iff.mp hc;intro z;subst z;have:ch = '0':=Char.toNat_inj.mp e2;rw[this] at e1;exact aRm m h e1
theorem aLf:bJ 0 = "0":=by decide
theorem aEQ{ws:List Nat}{r:Rw}(h:iC ws r):Ar r:=by
 obtain⟨wd,w,args⟩:=r;rcases args with _ | ⟨a,_ | ⟨b,_ | ⟨c,_ | ⟨e,t⟩⟩⟩⟩<;>cases wd<;>first | rfl | exact h.2.2.elim
theorem wV:∀ {rs:List Rw}{ws:List Nat},dF ws rs->∀ r∈rs,Ar r
 | [],_,_,r,h=>by cases h
 | q::rs,ws,⟨h1,h2⟩,r,h=>by
   rcases List.mem_cons.mp h with rfl | h
   ·exact aEQ h1
   ·exact wV h2 r h
theorem aEp:∀ (rs:List Rw) (ws:List Nat),dF ws rs->∀ (j:Nat) (r:Rw),rs[j]? = qq r->iC (ws++(rs.take j).map (·.w)) r
 | [],_,_,j,r,h=>by simp at h
 | q::rs,ws,⟨h1,h2⟩,0,r,h=>by
   cases h;simpa using h1
 | q::rs,ws,⟨h1,h2⟩,j+1,r,h=>by
   have:=aEp rs (ws++[q.w]) h2 j r (by simpa using h)
   simpa using this
theorem kC{rs:List Rw}{k:Nat}{r:Rw}(h1:1<=r.w)(h2:r.w<=64)(h3:∀ a∈bQ r,a<k)(h4:eV r.wd r.w ((bQ r).map λ a=>(aJ rs a).w)=true)(h5:gB r=true):gH rs k r=qz:=by
 unfold gH;have c2:¬ ((bQ r).any λ a=>decide (((k:Nat):Int)<=((a:Nat):Int)))=true:=λ z=>by
  rw[yEz] at z;obtain⟨a,m,q⟩:=z;have:=h3 a m;have:=oqT q;omega
 rw[if_neg (by omega),if_neg c2,h4,if_neg (by decide),h5,if_neg (by decide)]
theorem qM{a b:Nat}(h:a=b):bX a b=true:=by
 subst h;unfold bX;exact beq_self_eq_true _
theorem aKw{rs:List Rw}{k:Nat}{ws:List Nat}{r:Rw}(hw:∀ a v,ws[a]? = qq v->a<k/\(aJ rs a).w=v)(h:iC ws r):gH rs k r=qz:=by
 have ha:=aEQ h;obtain⟨wd,w,args⟩:=r;have e1:∀ {a v:Nat},ws[a]? = qq v->(∀ x∈[a],x<k):=λ q x m=>by
  rw[yBr] at m;subst m;exact(hw _ _ q).1
 have e2:∀ {a b v u:Nat},ws[a]? = qq v->ws[b]? = qq u->(∀ x∈[a,b],x<k):=λ q q' x m=>by
  rcases List.mem_cons.mp m with rfl | m
  ·exact(hw _ _ q).1
  ·exact e1 q' x m
 have a1:∀ {a v:Nat},ws[a]? = qq v->([a].map λ a=>(aJ rs a).w)=[v]:=λ q=>by
  rw[yAi,(hw _ _ q).2,yCh]
 have a2:∀ {a b v u:Nat},ws[a]? = qq v->ws[b]? = qq u->([a,b].map λ a=>(aJ rs a).w)=[v,u]:=λ q q'=>by
  rw[yAi,(hw _ _ q).2,a1 q']
 have i1:∀ v:Nat,([v].all λ x=>bX x v)=true:=λ v=>by rw[yDl,qM rfl];rfl
 have i2:∀ v:Nat,([v,v].all λ x=>bX x v)=true:=λ v=>by rw[yDl,qM rfl];exact i1 v
 have cm:∀ {a b v:Nat},ws[a]? = qq v->ws[b]? = qq v->(bX 1 1&&bX (([a,b].map λ a=>(aJ rs a).w).getD 0 0) (([a,b].map λ a=>(aJ rs a).w).getD 1 0))=true:=λ {a b v} q q'=>by
  rw[a2 q q'];show(bX 1 1&&bX v v)=true;rw[qM rfl,qM rfl];rfl
 rcases args with _ | ⟨a,_ | ⟨b,_ | ⟨c,_ | ⟨e,t⟩⟩⟩⟩
 ·cases wd<;>first | exact h.2.2.elim | exact kC h.1 h.2.1 (λ x m=>by cases m) rfl rfl
 ·cases wd
  case num=>exact kC h.1 h.2.1 (λ x m=>by cases m) rfl (dqT h.2.2)
  case not=>exact kC h.1 h.2.1 (e1 h.2.2) (by show((([a].map λ a=>(aJ rs a).w)).all λ v=>bX v w)=true;rw[a1 h.2.2];exact i1 w) rfl
  case cut =>
   obtain⟨v,q1,q2⟩:=h.2.2;have q2:w<=v:=q2;exact kC h.1 h.2.1 (e1 q1) (by show decide (((w:Nat):Int)<=(((([a].map λ a=>(aJ rs a).w)).getD 0 0:Nat):Int))=true;rw[a1 q1];exact dqT (by show((w:Nat):Int)<=((v:Nat):Int);omega)) rfl
  case wide =>
   obtain⟨v,q1,q2⟩:=h.2.2;have q2:v<=w:=q2;exact kC h.1 h.2.1 (e1 q1) (by show decide ((((([a].map λ a=>(aJ rs a).w)).getD 0 0:Nat):Int)<=((w:Nat):Int))=true;rw[a1 q1];exact dqT (by show((v:Nat):Int)<=((w:Nat):Int);omega)) rfl
  case sign =>
   obtain⟨v,q1,q2⟩:=h.2.2;have q2:v<=w:=q2;exact kC h.1 h.2.1 (e1 q1) (by show decide ((((([a].map λ a=>(aJ rs a).w)).getD 0 0:Nat):Int)<=((w:Nat):Int))=true;rw[a1 q1];exact dqT (by show((v:Nat):Int)<=((w:Nat):Int);omega)) rfl
  all_goals exact h.2.2.elim
 ·cases wd
  case left | right | slide =>
   have q2:b<64:=h.2.2.2;exact kC h.1 h.2.1 (e1 h.2.2.1) (by show((([a].map λ a=>(aJ rs a).w)).all λ v=>bX v w)=true;rw[a1 h.2.2.1];exact i1 w) (dqT (by show b<=63;omega))
  case and | or | xor | add | sub | mul=>exact kC h.1 h.2.1 (e2 h.2.2.1 h.2.2.2) (by show((([a,b].map λ a=>(aJ rs a).w)).all λ v=>bX v w)=true;rw[a2 h.2.2.1 h.2.2.2];exact i2 w) rfl
  case same | less | under =>
   obtain⟨q0,v,q1,q2⟩:=h.2.2;have q0:w=1:=q0;subst q0;exact kC h.1 h.2.1 (e2 q1 q2) (cm q1 q2) rfl
  all_goals exact h.2.2.elim
 ·cases wd
  case pick =>
   obtain⟨q1,q2,q3⟩:=h.2.2;refine kC h.1 h.2.1 (λ x m=>?_) ?_ rfl
   ·rcases List.mem_cons.mp m with rfl | m
    ·exact(hw _ _ q1).1
    ·exact e2 q2 q3 x m
   ·have e:([a,b,c].map λ a=>(aJ rs a).w)=[1,w,w]:=by rw[yAi,(hw _ _ q1).2,a2 q2 q3]
    show eV .pick w ([a,b,c].map λ a=>(aJ rs a).w)=true
    rw[e];show(bX 1 1&&(bX w w&&bX w w))=true;rw[qM rfl,qM rfl];rfl
  all_goals exact h.2.2.elim
 ·cases wd<;>exact h.2.2.elim
theorem aDL{rs:List Rw}:∀ (n k:Nat),(∀ j,k<=j->j<k+n->gH rs j (aJ rs j)=qz)->lS rs n k=qz
 | 0,_,_=>rfl
 | n+1,k,h=>by
   rw[aAN,h k (yAe _) (by omega)]
   exact aDL n (k+1) λ j h1 h2=>h j (by omega) (by omega)
theorem aEj{rs:List Rw}{aB:List Nat}(ok:dF [] rs)(ho:∀ o∈aB,o<rs.length):gU rs aB=qz:=by
 unfold gU;rw[aDL rs.length 0 λ j _ hj=>?_]
 ·dsimp only;refine if_neg λ z=>?_
  rw[yEz] at z;obtain⟨a,m,q⟩:=z;have:=ho a m;have:=oqT q;omega
 ·have hj:j<rs.length:=by omega
  have h:=aEp rs [] ok j (aJ rs j) (aCv hj);refine aKw (λ a v q=>?_) h
  rw[yCs,xAb] at q;obtain⟨r,q1,q2⟩:=Option.map_eq_some_iff.mp q;rw[List.getElem?_take] at q1
  by_cases c:a<j
  ·rw[if_pos c] at q1;refine⟨c,?_⟩;rw[aCv (show a<rs.length by omega)] at q1
   cases q1;exact q2
  ·rw[if_neg c] at q1;cases q1
theorem hV(xs:List D)(k:Nat):cK xs (qq (k:Nat)) qz=xs.drop k:=by
 unfold cK;rw[HT.sIx_nat,HT.sIx_none];rcases Nat.le_total k xs.length with h | h
 ·rw[yFg h];exact yBu (by rw[yEv];exact yAe _)
 ·rw[yFv h,List.drop_of_length_le h,yEy,List.take_nil]
theorem nG{xs ys:List D}(h:xs≠[])(h2:xs.length+ys.length<=1000):bK .Add (.tuple xs) (.tuple ys)=qq (.tuple (xs++ys)):=by
 cases xs with
 | nil=>exact absurd rfl h
 | cons a xs =>
   show(if _ then _ else _)=_
   rw[if_pos ⟨rfl,by rw[qo];omega⟩]
noncomputable def Rw.l(r:Rw):List D:=.str r.wd.s::nD r.w::r.args.map nD
theorem uO(r:Rw):r.d=.tuple r.l:=rfl
theorem aCg(r:Rw):r.l.length=2+r.args.length:=by
 unfold Rw.l;simp;omega
theorem qQ(wd:Wd):eB wd<=3:=by cases wd<;>decide
noncomputable def FG:Str:="0123456789"
theorem aMd{c:Nat}(h:eI ⟨#[c]⟩ FG=true):48<=c/\c<=57:=by
 obtain⟨i,hi⟩:=(StrLaws.found_iff FG ⟨#[c]⟩).mp h;have hc:=(StrLaws.subAt_one FG c i).mp hi;exact(by decide +kernel:∀ c∈FG.cps.toList,48<=c/\c<=57) c (xAi hc)
noncomputable def cW(x:Str):Bool:=decide (1<=x.length)&&decide (x.length<=20) && !((x.cps.toList.head?==qq 48) && !(x == "0"))&&x.cps.toList.all λ c=>eI ⟨#[c]⟩ FG
theorem aFB:∀ (cs:List Nat) (a:Nat),(∀ c∈cs,48<=c/\c<=57)->cs.foldl (λ aH c=>aH*10+(c-48)) a<(a+1)*10^cs.length
 | [],a,_=>by simp
 | c::cs,a,h=>by
   have hc:=h c xAd;have i:=aFB cs (a*10+(c-48)) λ x m=>h x (xAf _ m)
   rw[yAj,yBf,Nat.pow_succ];refine xAc i ?_;have:(a*10+(c-48)+1)<=(a+1)*10:=by omega
   calc (a*10+(c-48)+1)*10^cs.length<=((a+1)*10)*10^cs.length:=yDq _ this
    _=(a+1)*(10^cs.length*10):=by rw[Nat.mul_assoc,Nat.mul_comm 10]
theorem aOp(cs:List Nat)(h:∀ c∈cs,48<=c/\c<=57):NumText.digitsVal cs<10^cs.length:=by
 have:=aFB cs 0 h;rw[yEs,Nat.one_mul] at this;exact this
theorem aON{x:Str}(h:cW x=true):∃ n,n<10^20/\x=bJ n:=by
 unfold cW at h;simp only[yBm,decide_eq_true_eq,yDn,List.all_eq_true] at h;obtain⟨⟨⟨h1,h2⟩,h3⟩,h4⟩:=h;have hd:∀ c∈x.cps.toList,48<=c/\c<=57:=λ c m=>aMd (h4 c m)
 have el:x.cps.toList.length=x.length:=yAm;have hv:=aOp _ hd;rw[el] at hv;refine⟨NumText.digitsVal x.cps.toList,xAc hv (yDr (by decide) h2),?_⟩
 have first:x.length-1=0\/∃ c r,x.cps.toList=c::r/\49<=c:=by
  cases e:x.cps.toList with
  | nil=>rw[e] at el;simp at el;omega
  | cons c r =>
    by_cases z:c=48
    ·left
     rw[e,z] at h3;simp only[List.head?_cons,beq_self_eq_true,yCl,Bool.not_eq_false'] at h3;have:x = "0":=eq_of_beq h3;rw[this];decide
    ·right
     have:=hd c (by rw[e];exact xAd)
     exact⟨c,r,rfl,by omega⟩
 have t:=NumText.toDigits_digitsVal (x.length-1) x.cps.toList (by omega) hd first
 apply Str.ext';apply Array.toList_inj.mp;rw[tF,t,yAx];have:∀ l:List Nat,(∀ c∈l,48<=c/\c<=57)->l.map (Char.toNat ∘ Char.ofNat)=l:=by
  intro l
  induction l with
  | nil=>intro _;rfl
  | cons a l ih =>
    intro h;have ha:=h a xAd;have e:(Char.ofNat a).toNat=a:=(by decide +kernel:∀ a,a<58->(Char.ofNat a).toNat=a) a (by omega)
    rw[yAi,ih λ x m=>h x (xAf _ m)]
    show(Char.ofNat a).toNat::l=a::l;rw[e]
 exact(this _ hd).symm
theorem aBw:∀ {t:List Str},t.all cW=true->∃ L:List Nat,(∀ n∈L,n<10^20)/\t=L.map bJ
 | [],_=>⟨[],(λ n m=>by cases m),rfl⟩
 | x::t,h=>by
   rw[yDl,yBm] at h;obtain⟨n,hn,rfl⟩:=aON h.1;obtain⟨L,hL,rfl⟩:=aBw h.2;refine⟨n::L,λ m hm=>?_,rfl⟩
   rcases List.mem_cons.mp hm with rfl | hm
   ·exact hn
   ·exact hL m hm
theorem fN:(" " : Str)=⟨#[32]⟩:=by decide
theorem qW:("\n" : Str)=⟨#[10]⟩:=by decide
theorem aF7(c:Nat):∀ as:List (List Nat),(jl c as).length<=(as.map (·.length)).sum+as.length
 | []=>yFe _
 | [a]=>by simp[jl]
 | a::b::r=>by
   have:=aF7 c (b::r);simp[jl] at this ⊢;omega
theorem qE(c:Nat)(ps:List Str):(Txt.join ⟨#[c]⟩ ps).length<=(ps.map (·.length)).sum+ps.length:=by
 have h:=aF7 c (ps.map λ p=>p.cps.toList)
 have e:(Txt.join ⟨#[c]⟩ ps).cps.toList.length=(Txt.join ⟨#[c]⟩ ps).length:=yAm;rw[<- mJ,e,yAx,yAb] at h;exact h
theorem lK{α:Type}(f:α->Nat)(b:Nat):∀ l:List α,(∀ a∈l,f a<=b)->(l.map f).sum<=l.length*b
 | [],_=>by simp
 | a::l,h=>by
   have h1:=h a xAd;have h2:=lK f b l λ x m=>h x (xAf _ m)
   simp only[yAi,List.sum_cons,yBf,Nat.succ_mul];omega
theorem aGD{c x:Nat}:∀ {as:List (List Nat)},x∈jl c as->x=c\/∃ a∈as,x∈a
 | [],h=>by cases h
 | [a],h=>.inr ⟨a,xAd,h⟩
 | a::b::r,h=>by
   have h:x∈a++c::jl c (b::r):=h;rcases List.mem_append.mp h with h | h
   ·exact .inr ⟨a,xAd,h⟩
   ·rcases List.mem_cons.mp h with h | h
    ·exact .inl h
    ·rcases aGD h with h | ⟨a',m,h⟩
     ·exact .inl h
     ·exact .inr ⟨a',xAf _ m,h⟩
theorem wY{c x:Nat}{ps:List Str}(h:x∈(Txt.join ⟨#[c]⟩ ps).cps.toList):x=c\/∃ p∈ps,x∈p.cps.toList:=by
 rw[mJ] at h;rcases aGD h with h | ⟨a,m,h⟩
 ·exact .inl h
 ·obtain⟨p,mp,rfl⟩:=List.mem_map.mp m;exact .inr ⟨p,mp,h⟩
theorem tB{x:Str}(h:∀ c∈x.cps.toList,c<1114112):yBs x=true:=by
 show x.cps.all (· < 0x110000)=true;rw[<- Array.all_toList,List.all_eq_true];intro c m;exact dqT (h c m)
theorem tQ{C:Calls}{env:aV}{S:aC}{i c:Nat}{sep:Str}(hs:sep=⟨#[c]⟩){ps:List Str}(h:env[i]? = qq (qq (.d (.str (Txt.join sep ps)))))(hne:ps≠[])(hf:∀ p∈ps,c ∉ p.cps.toList)(hl:(Txt.join sep ps).length<=1000000) :
 ev C (.fz (.spl (.var i) (.str sep))) env S=qq (.d (.list (ps.map yAa)),S):=by
 have y0:(sep.length==0)=false:=by rw[hs];rfl
 have e:Txt.split (Txt.join sep ps) sep=ps:=by rw[hs];exact aDP hne hf
 have hz:(Txt.join sep ps).length+2<=qk:=by rw[qo];omega
 simp only[evs,h,nA,nE,y0,hz,and_self,e]
theorem aPo(c:Nat)(h1:48<=c)(h2:c<=57):eI ⟨#[c]⟩ "0123456789" = true:=
 (by decide +kernel:∀ c,c<58->48<=c->eI ⟨#[c]⟩ "0123456789" = true) c (by omega) h1
theorem aBK{z:Str}{c:Nat}{r:List Nat}(h:z.cps.toList=c::r)(hz:z.length<=100):bC (.str z) (.int 0)=qq (.str ⟨#[c]⟩):=by
 show(if z.length<=qk then (gQ z.cps.toList 0).bind λ c=>qq (yAa ⟨#[c]⟩) else qz)=_
 rw[if_pos (by rw[qo];omega),h]
 unfold gQ gF;simp
theorem aL1{c:Nat}(h1:48<=c)(h2:c<=57)(h3:c≠48):bA .Eq (.str ⟨#[c]⟩) (.str "0")=qq (.bool false):=by
 have:c=49\/c=50\/c=51\/c=52\/c=53\/c=54\/c=55\/c=56\/c=57:=by omega
 rcases this with rfl | rfl | rfl | rfl | rfl | rfl | rfl | rfl | rfl<;>kernel_rfl
theorem aLV:bA .Eq (.str ⟨#[48]⟩) (.str "0")=qq (.bool true):=by kernel_rfl
theorem aLI:bA .NotEq (.str "0") (.str "0")=qq (.bool false):=by kernel_rfl
theorem aKC(d n:Nat)(h:n<10^20)(S:aC):cl fns (d+1) 7 [.d (.str (bJ n))] S=qq (.d (.bool true),S):=by
 have l1:=aK0 n;have l2:=nY h;have dg:=qJ n;have ll:cU [.str (bJ n)]=qq (.int ((bJ n).length:Nat)):=if_pos (by rw[qo];omega)
 have d1:decide ((((bJ n).length:Nat):Int)<1)=false:=dqF (by omega)
 have d2:decide ((20:Int)<(((bJ n).length:Nat):Int))=false:=dqF (by omega)
 obtain⟨c,r,ec⟩:∃ c r,(bJ n).cps.toList=c::r:=by
  cases e:(bJ n).cps.toList with
  | nil=>exact absurd e (aB4 n)
  | cons c r=>exact⟨c,r,rfl⟩
 have i0:=aBK ec (by omega)
 have c1:=dg c (by rw[ec];exact xAd)
 refine cT rfl d rfl rfl yAf ?_;show xs (aF fns d) _ [qq (.d (.str (bJ n))),qz] S=_;have t2:tv (aF fns d) (.and (.cmp .Eq (.ix (.var 0) (.int 0)) (.str "0")) (.cmp .NotEq (.var 0) (.str "0"))) [qq (.d (.str (bJ n))),qz] S=qq (false,S):=by
  by_cases z:n=0
  ·subst z;rw[aLf] at i0 ec ⊢;have:c=48:=(List.cons.inj ec).1.symm;subst this;simp only[evs,i0,aLV,aLI]
  ·have e0:=aL1 c1.1 c1.2 (aJR z (by rw[ec];rfl))
   simp only[evs,i0,e0]
 have hc:lv (aF fns d) aAB [qq (.d (.str (bJ n))),qz] S=qq ((bJ n).cps.toList.map (λ c=>yBj (eI ⟨#[c]⟩ "0123456789")),S):=by
  refine fW (fi:=lv (aF fns d) (.its (.var 0))) (fe:=ev (aF fns d) (.ins false (.var 1) (.gst "FIGURES" "0123456789"))) nC (λ c=>yBj (eI ⟨#[c]⟩ "0123456789")) (bJ n).cps.toList ?_ (by rw[qo,yAm];show(bJ n).length<=_;omega) λ a _=>?_
  ·simp only[evs,rO]
  ·refine⟨_,rfl,λ S'=>?_⟩
   simp only[evs,clr,yAj,yAl,nC,kX,lW]
 have al:((bJ n).cps.toList.all λ c=>eI ⟨#[c]⟩ "0123456789")=true:=List.all_eq_true.mpr λ c m=>aPo c (dg c m).1 (dg c m).2
 have am:=all_map (λ c=>eI ⟨#[c]⟩ "0123456789") (bJ n).cps.toList
 rw[al] at am;generalize bJ n=z at *;refine bS (S1:=S) (by simp only[evs,ll,dE,gG,d1,d2]) (bS t2 (bG ?_))
 simp only[evs,hc,am]
theorem aEl(d:Nat)(L:List Nat)(h:∀ n∈L,n<10^20)(hl:L.length<=100)(S:aC):cl fns (d+2) 8 [.d (.list (L.map λ n=>.str (bJ n)))] S=qq (.d (.bool true),S):=by
 refine cT rfl (d+1) rfl rfl yAf ?_;show xs (aF fns (d+1)) _ [qq (.d (.list (L.map λ n=>.str (bJ n)))),qz] S=_
 have hc:lv (aF fns (d+1)) aAx [qq (.d (.list (L.map λ n=>.str (bJ n)))),qz] S=qq (L.map (λ _=>yBj true),S):=by
  refine fW (fi:=lv (aF fns (d+1)) (.it (.var 0))) (fe:=ev (aF fns (d+1)) (.call 7 (.cons (.var 1) .nil))) (λ n=>.str (bJ n)) (λ _=>yBj true) L ?_ (by rw[qo];omega) λ a ha=>?_
  ·simp only[evs,dP]
  ·refine⟨_,rfl,λ S'=>?_⟩
   have:=aKC d a (h a ha) S';simp only[evs,clr,yAj,yAl,this]
 have am:=all_map (λ _:Nat=>true) L
 have:(L.all λ _=>true)=true:=by simp
 rw[this] at am;exact bG (by simp only[evs,hc,am])
theorem aEZ(d:Nat)(L:List Nat)(h:∀ n∈L,n<10^20)(hl:L.length<=100)(S:aC):cl fns (d+1) 9 [.d (.list (L.map λ n=>.str (bJ n)))] S=qq (.d (.tuple (L.map nD)),S):=by
 refine cT rfl d rfl rfl yAf ?_;show xs (aF fns d) _ [qq (.d (.list (L.map λ n=>.str (bJ n)))),qz] S=_
 have hc:lv (aF fns d) aDm [qq (.d (.list (L.map λ n=>.str (bJ n)))),qz] S=qq (L.map nD,S):=by
  refine fW (fi:=lv (aF fns d) (.it (.var 0))) (fe:=ev (aF fns d) (.itx (.var 1))) (λ n=>.str (bJ n)) nD L ?_ (by rw[qo];omega) λ a ha=>?_
  ·simp only[evs,dP]
  ·refine⟨_,rfl,λ S'=>?_⟩
   have hi:=aE6 (h a ha);have hz:(bJ a).length<=640:=xAg (nY (h a ha)) (by decide)
   simp only[evs,clr,yAj,yAl,rF,hz,hi];rfl
 exact bG (by simp only[evs,hc,qU,qL])
theorem aKM(wd:Wd):(kA.lookup wd.s).isSome=true:=by cases wd<;>kernel_rfl
theorem aJ1(d:Nat)(wd:Wd)(S:aC):cl fns (d+1) 1 [.d (.str wd.s)] S=qq (.d (.bool true),S):=by
 have h:=aKM wd;refine cT rfl d rfl rfl yAf (bG ?_);show ev (aF fns d) _ [qq (.d (.str wd.s))] S=_;simp only[evs,uH,h]
theorem aEg(d:Nat)(wd:Wd)(S:aC):cl fns (d+1) 2 [.d (.str wd.s)] S=qq (.d (.int ((1+eB wd:Nat):Int)),S):=by
 have tc:=aFK wd;have e1:=gT wd .num;have e1:bA .Eq (.str wd.s) (.str "num")=qq (.bool (decide (wd=.num))):=e1;have e2:bA .In (.str wd.s) (.tuple (pY.map Tv.d))=qq (.bool (decide (wd=.left\/wd=.right\/wd=.slide))):=sP wd;refine cT rfl d rfl rfl yAf ?_;show xs (aF fns d) _ [qq (.d (.str wd.s)),qz] S=_;have bI:∀ f:Nat,dR wd+f=eB wd->xs (aF fns d) (cP aDp) [qq (.d (.str wd.s)),qq (.d (.int f))] S=qq (.rt (.d (.int ((1+eB wd:Nat):Int))),S):=λ f hf=>by
  have:(1:Int)+((dR wd:Nat):Int)+((f:Nat):Int)=((1+eB wd:Nat):Int):=by omega
  exact bG (by simp only[evs,tc,cY,this])
 by_cases c1:wd=.num
 ·rw[dqT c1] at e1;exact bM (w:=.d (.int ((1:Nat):Int))) (S1:=S) (by simp only[evs,pG,e1];rfl) rfl (bI 1 (by rw[c1];rfl))
 rw[dqF c1] at e1
 by_cases c2:wd=.left\/wd=.right\/wd=.slide
 ·rw[dqT c2] at e2;exact bM (w:=.d (.int ((1:Nat):Int))) (S1:=S) (by simp only[evs,pG,e1,e2];rfl) rfl (bI 1 (by rcases c2 with c | c | c<;>rw[c]<;>rfl))
 ·rw[dqF c2] at e2;refine bM (w:=.d (.int ((0:Nat):Int))) (S1:=S) (by simp only[evs,pG,e1,e2];rfl) rfl (bI 0 ?_)
  cases wd<;>first | rfl | (exact absurd rfl c1) | (exact absurd (.inl rfl) c2) | (exact absurd (.inr (.inl rfl)) c2) | (exact absurd (.inr (.inr rfl)) c2)
def Bd(r:Rw):Prop:=r.w<10^20/\∀ a∈r.args,a<10^20
noncomputable def fR(r:Rw):List Str:=r.wd.s::(r.w::r.args).map bJ
noncomputable def bH(r:Rw):Str:=Txt.join " " (fR r)
theorem aDU(wd:Wd):∀ c∈wd.s.cps.toList,97<=c/\c<=122:=by cases wd<;>decide +kernel
theorem aEN(wd:Wd):wd.s.length<=20:=by cases wd<;>decide
theorem aJY{r:Rw}{c:Nat}(hc:c<48):∀ p∈fR r,c ∉ p.cps.toList:=λ p m z=>by
 rcases List.mem_cons.mp m with rfl | m
 ·have:=aDU _ c z;omega
 ·obtain⟨n,_,rfl⟩:=List.mem_map.mp m;have:=qJ n c z;omega
theorem aKq{r:Rw}(b:Bd r):∀ p∈fR r,p.length<=20:=λ p m=>by
 rcases List.mem_cons.mp m with rfl | m
 ·exact aEN _
 ·obtain⟨n,mn,rfl⟩:=List.mem_map.mp m;refine nY ?_;rcases List.mem_cons.mp mn with rfl | mn
  ·exact b.1
  ·exact b.2 n mn
theorem aLh{r:Rw}(ar:Ar r)(b:Bd r):(bH r).length<=200:=by
 have h:=qE 32 (fR r);have s:=lK (λ p:Str=>p.length) 20 (fR r) (aKq b)
 have l:(fR r).length<=5:=by
  have:=qQ r.wd;rw[<- ar] at this;unfold fR;simp;omega
 unfold bH;rw[fN];omega
theorem aEH(d:Nat)(r:Rw)(ar:Ar r)(b:Bd r)(S:aC):cl fns (d+3) 10 [.d (.str (bH r))] S=qq (.d r.d,S):=by
 have hl:=aLh ar b;have a3:=qQ r.wd;rw[<- ar] at a3;have bn:∀ n∈r.w::r.args,n<10^20:=λ n m=>by
  rcases List.mem_cons.mp m with rfl | m
  ·exact b.1
  ·exact b.2 n m
 have sp:∀ e,ev (aF fns (d+2)) (.fz (.spl (.var 0) (.str " "))) (qq (.d (.str (bH r)))::e) S=qq (.d (.list ((fR r).map yAa)),S):=λ e=>tQ fN rfl (by unfold fR;simp) (aJY (by decide)) (by show(bH r).length<=_;omega)
 have i0:bC (.list ((fR r).map yAa)) (.int 0)=qq (.str r.wd.s):=eR (k:=0) rfl;have iw:=aJ1 (d+1) r.wd S;have nc:=aEg (d+1) r.wd S;have ll:cU [.list ((fR r).map yAa)]=qq (.int ((1+(1+eB r.wd):Nat):Int)):=by
  rw[cH,yAb];unfold fR;rw[<- ar];simp;omega
 have cf:cK ((fR r).map yAa) (qq 1) qz=(r.w::r.args).map λ n=>yAa (bJ n):=by
  rw[show(qq (1:Int))=qq ((1:Nat):Int) from rfl,hV]
  unfold fR;rw[yAi,yAx];rfl
 have an:=aEl d (r.w::r.args) bn (by simp;omega) S
 have ni:=aEZ (d+1) (r.w::r.args) bn (by simp;omega) S
 have e1:(1:Int)+((1+eB r.wd:Nat):Int)=((1+(1+eB r.wd):Nat):Int):=by omega
 have ct:bK .Add (.tuple [.str r.wd.s]) (.tuple ((r.w::r.args).map nD))=qq r.d:=by
  rw[nG (by simp) (by simp;omega)]
  rfl
 refine cT rfl (d+2) rfl rfl yAf (bM (sp _) rfl ?_);show xs (aF fns (d+2)) _ [qq (.d (.str (bH r))),qq (.d (.list ((fR r).map yAa))),qz] S=_;generalize (fR r).map yAa=P at *;generalize yGb (λ n=>yAa (bJ n)) (r.w::r.args)=NL at *
 generalize yGb nD (r.w::r.args)=TL at *;generalize bH r=Z at *;refine bM (w:=.d (.str r.wd.s)) (S1:=S) (by simp only[evs,i0]) rfl ?_
 show xs (aF fns (d+2)) _ [qq (.d (.str Z)),qq (.d (.list P)),qq (.d (.str r.wd.s))] S=_;refine bS (S1:=S) ?_ (bG ?_)
 ·simp only[evs,iw,ll,nc,cY,e1,qT,beq_self_eq_true,cR,cL,cV,cf,an]
 ·simp only[evs,cR,cL,cV,cf,ni,ct]
noncomputable def gC(aB:List Nat):List Str:="out" :: aB.map bJ
noncomputable def cO(aB:List Nat):Str:=Txt.join " " (gC aB)
theorem aJH{aB:List Nat}{c:Nat}(hc:c<48):∀ p∈gC aB,c ∉ p.cps.toList:=λ p m z=>by
 rcases List.mem_cons.mp m with rfl | m
 ·have z:c∈([111,117,116]:List Nat):=z;simp at z;omega
 ·obtain⟨n,_,rfl⟩:=List.mem_map.mp m;have:=qJ n c z;omega
theorem aK5{aB:List Nat}(b:∀ o∈aB,o<10^20):∀ p∈gC aB,p.length<=20:=λ p m=>by
 rcases List.mem_cons.mp m with rfl | m
 ·decide
 ·obtain⟨n,mn,rfl⟩:=List.mem_map.mp m;exact nY (b n mn)
theorem aK9{aB:List Nat}(b:∀ o∈aB,o<10^20)(l:aB.length<=8):(cO aB).length<=200:=by
 have h:=qE 32 (gC aB);have s:=lK (λ p:Str=>p.length) 20 (gC aB) (aK5 b)
 have l:(gC aB).length<=9:=by
  unfold gC;simp;omega
 unfold cO;rw[fN];omega
theorem aPB:bA .NotEq (.str "out") (.str "out")=qq (.bool false):=by kernel_rfl
theorem aJ6(d:Nat)(aB:List Nat)(b:∀ o∈aB,o<10^20)(l1:1<=aB.length)(l2:aB.length<=8)(S:aC):cl fns (d+3) 11 [.d (.str (cO aB))] S=qq (.d (.tuple (aB.map nD)),S):=by
 have hl:=aK9 b l2;have sp:∀ e,ev (aF fns (d+2)) (.fz (.spl (.var 0) (.str " "))) (qq (.d (.str (cO aB)))::e) S=qq (.d (.list ((gC aB).map yAa)),S):=λ e=>tQ fN rfl (by unfold gC;simp) (aJH (by decide)) (by show(cO aB).length<=_;omega)
 have i0:bC (.list ((gC aB).map yAa)) (.int 0)=qq (.str "out"):=eR (k:=0) rfl;have ll:cU [.list ((gC aB).map yAa)]=qq (.int ((1+aB.length:Nat):Int)):=by
  rw[cH,yAb];unfold gC;simp;omega
 have d1:decide (((1+aB.length:Nat):Int)<2)=false:=dqF (by omega)
 have d2:decide ((9:Int)<((1+aB.length:Nat):Int))=false:=dqF (by omega)
 have cf:cK ((gC aB).map yAa) (qq 1) qz=aB.map λ n=>yAa (bJ n):=by
  rw[show(qq (1:Int))=qq ((1:Nat):Int) from rfl,hV]
  unfold gC;rw[yAi,yAx];rfl
 have an:=aEl d aB b (by omega) S
 have ni:=aEZ (d+1) aB b (by omega) S
 refine cT rfl (d+2) rfl rfl yAf (bM (sp _) rfl ?_);generalize (gC aB).map yAa=P at *;generalize yGb (λ n=>yAa (bJ n)) aB=NL at *
 generalize yGb nD aB=TL at *;generalize cO aB=Z at *;show xs (aF fns (d+2)) _ [qq (.d (.str Z)),qq (.d (.list P))] S=_;refine bS (S1:=S) ?_ (bG ?_)
 ·simp only[evs,i0,aPB,ll,dE,gG,d1,d2,cR,cL,cV,cf,an]
 ·simp only[evs,cR,cL,cV,cf,ni]
def nK(x:Str):Prop:=∀ c∈x.cps.toList,c<1114112
theorem nK.ok{x:Str}(h:nK x):yBs x=true:=tB h
theorem tE{x y:Str}(hx:yBs x=true)(hy:yBs y=true):bA .Eq (.str x) (.str y)=qq (.bool (x==y)):=by
 unfold bA jC;simp[PyData.canLay0,yEt,yCe,hx,hy]
theorem sY{x y:Str}(hx:yBs x=true)(hy:yBs y=true):bA .NotEq (.str x) (.str y)=qq (.bool (!(x==y))):=by
 unfold bA jC;simp[PyData.canLay0,yEt,yCe,hx,hy]
theorem zU:yBs "0" = true:=by kernel_rfl
theorem aG1(c:Nat):((⟨#[c]⟩:Str) == "0")=(qq c==qq 48):=by
 by_cases z:c=48
 ·subst z;decide
 ·rw[beq_eq_false_iff_ne.mpr λ e=>z (by cases e;rfl),beq_eq_false_iff_ne.mpr λ e=>z (Option.some.inj e)]
theorem aCf(c:Nat)(n:Bool):lW n (.str ⟨#[c]⟩) (.str "0123456789")=qq (.bool (if n=true then !eI ⟨#[c]⟩ FG else eI ⟨#[c]⟩ FG)):=rfl
theorem aJC(d:Nat)(x:Str)(ha:nK x)(hl:x.length<=2000)(S:aC):cl fns (d+1) 7 [.d (.str x)] S=qq (.d (.bool (cW x)),S):=by
 have ll:cU [.str x]=qq (.int x.length):=if_pos (by rw[qo];omega)
 refine cT rfl d rfl rfl yAf ?_;show xs (aF fns d) _ [qq (.d (.str x)),qz] S=_;have t1:tv (aF fns d) (.or (.cmp .Lt (.blt .len (.cons (.var 0) .nil)) (.int 1)) (.cmp .Gt (.blt .len (.cons (.var 0) .nil)) (.int 20))) [qq (.d (.str x)),qz] S=qq (!(decide (1<=x.length)&&decide (x.length<=20)),S):=by
  by_cases c1:1<=x.length
  ·have d1:decide (((x.length:Nat):Int)<1)=false:=dqF (by omega)
   have d2:decide ((20:Int)<((x.length:Nat):Int)) = !decide (x.length<=20):=by rw[<- decide_not,decide_eq_decide];omega
   rw[dqT c1,yCl,<- d2];simp only[evs,ll,dE,gG,d1]
  ·have d1:decide (((x.length:Nat):Int)<1)=true:=dqT (by omega)
   rw[dqF c1];simp only[evs,ll,dE,d1,yBn]
 unfold cW
 by_cases cl:(decide (1<=x.length)&&decide (x.length<=20))=true
 ·rw[cl] at t1 ⊢;obtain⟨c,r,ec⟩:∃ c r,x.cps.toList=c::r:=by
   cases e:x.cps.toList with
   | nil =>
     have el:x.cps.toList.length=x.length:=yAm;rw[e] at el;simp at cl el;omega
   | cons c r=>exact⟨c,r,rfl⟩
  have cE:x.length<=20:=by simp at cl;omega
  have i0:=aBK ec (by omega)
  have oc:yBs ⟨#[c]⟩=true:=tB λ a m=>by
   have:a=c:=by simpa using m
   rw[this];exact ha c (by rw[ec];exact xAd)
  have e0:=tE oc zU;have e1:=sY ha.ok zU;rw[aG1] at e0;have eh:x.cps.toList.head? = qq c:=by rw[ec];rfl
  rw[eh];have t2:tv (aF fns d) (.and (.cmp .Eq (.ix (.var 0) (.int 0)) (.str "0")) (.cmp .NotEq (.var 0) (.str "0"))) [qq (.d (.str x)),qz] S=qq ((qq c==qq 48) && !(x == "0"),S):=by
   generalize (qq c==qq 48)=b1 at *;generalize (x == "0")=b2 at *;cases b1<;>cases b2<;>simp only[evs,i0,e0,e1,yCl,yBn]
  have hc:lv (aF fns d) aAB [qq (.d (.str x)),qz] S=qq (x.cps.toList.map (λ c=>yBj (eI ⟨#[c]⟩ FG)),S):=by
   refine fW (fi:=lv (aF fns d) (.its (.var 0))) (fe:=ev (aF fns d) (.ins false (.var 1) (.gst "FIGURES" "0123456789"))) nC (λ c=>yBj (eI ⟨#[c]⟩ FG)) x.cps.toList ?_ (by rw[qo,yAm];show x.length<=_;omega) λ a _=>?_
   ·simp only[evs,rO]
   ·refine⟨_,rfl,λ S'=>?_⟩
    simp only[evs,clr,yAj,yAl,nC,kX,aCf]
  have am:=all_map (λ c=>eI ⟨#[c]⟩ FG) x.cps.toList
  refine bS t1 ?_;cases hb:((qq c==qq 48) && !(x == "0")) with
  | true =>
    rw[hb] at t2;exact cF t2 (bG (by simp only[evs];rfl))
  | false =>
    rw[hb] at t2;refine bS t2 (bG ?_);simp only[evs,hc,am];rfl
 ·rw[Bool.eq_false_iff.mpr cl] at t1 ⊢;exact cF t1 (bG (by simp only[evs];rfl))
theorem aDR(d:Nat)(L:List Str)(h:∀ x∈L,nK x/\x.length<=2000)(hl:L.length<=2000)(S:aC):cl fns (d+2) 8 [.d (.list (L.map yAa))] S=qq (.d (.bool (L.all cW)),S):=by
 refine cT rfl (d+1) rfl rfl yAf ?_;show xs (aF fns (d+1)) _ [qq (.d (.list (L.map yAa))),qz] S=_;have hc:lv (aF fns (d+1)) aAx [qq (.d (.list (L.map yAa))),qz] S=qq (L.map (λ x=>yBj (cW x)),S):=by
  refine fW (fi:=lv (aF fns (d+1)) (.it (.var 0))) (fe:=ev (aF fns (d+1)) (.call 7 (.cons (.var 1) .nil))) yAa (λ x=>yBj (cW x)) L ?_ (by rw[qo];omega) λ a ha=>?_
  ·simp only[evs,dP]
  ·refine⟨_,rfl,λ S'=>?_⟩
   have:=aJC d a (h a ha).1 (h a ha).2 S';simp only[evs,clr,yAj,yAl,this]
 have am:=all_map cW L;exact bG (by simp only[evs,hc,am])
noncomputable def wdB(x:Str):Bool:=(kA.lookup x).isSome
noncomputable def aHy:List Wd:=[.in,.num,.not,.and,.or,.xor,.add,.sub,.mul,.left,.right,.slide,.cut,.wide,.sign,.same,.less,.under,.pick]
noncomputable def nB(w:Str):Option Wd:=aHy.find? λ wd=>w==wd.s
theorem aNt(wd:Wd):nB wd.s=qq wd:=by cases wd<;>kernel_rfl
theorem aFV{w:Str}{wd:Wd}(h:nB w=qq wd):w=wd.s:=by
 have:=List.find?_some (p:=λ wd:Wd=>w==wd.s) h
 exact eq_of_beq this
theorem aDN{x:Str}:∀ {l:List (Str×Tv)},(l.lookup x).isSome=true->x∈l.map (·.1)
 | [],h=>by cases h
 | p::l,h=>by
   rw[yBe] at h;cases e:x==p.1 with
   | true=>rw[eq_of_beq e];exact xAd
   | false =>
     rw[e] at h;exact xAf _ (aDN h)
theorem aNM:kA.map (·.1)=aHy.map Wd.s:=by kernel_rfl
theorem aQT{x:Str}(h:wdB x=true):∃ wd:Wd,x=wd.s:=by
 have m:=aDN h;rw[aNM] at m;obtain⟨wd,_,e⟩:=List.mem_map.mp m;exact⟨wd,e.symm⟩
noncomputable def dZ(ps:List Str):Bool:=match ps with
 | []=>false
 | w::t=>(match nB w with
   | some wd=>t.all cW&&(t.length==1+eB wd)
   | none=>false)
theorem aJZ{w:Str}{t:List Str}(h:dZ (w::t)=true):∃ r:Rw,Ar r/\Bd r/\w::t=fR r:=by
 unfold dZ at h;cases hw:nB w with
 | none=>simp only[hw] at h;cases h
 | some wd =>
   simp only[hw,yBm] at h;obtain⟨h2,h3⟩:=h;obtain rfl:=aFV hw;have h3:t.length=1+eB wd:=eq_of_beq h3;obtain⟨L,hL,rfl⟩:=aBw h2;rw[yAb] at h3;cases L with
   | nil=>simp at h3;omega
   | cons n L =>
     refine⟨⟨wd,n,L⟩,?_,⟨hL n xAd,λ a m=>hL a (xAf _ m)⟩,rfl⟩
     show L.length=eB wd;simp at h3;omega
structure Ln(z:Str):Prop where
 a:nK z
 n:10 ∉ z.cps.toList
 l:z.length<=2000
 s:(Txt.split z " ").length<=60
theorem sJ(z:Str):∃ w t,Txt.split z " " = w::t:=by
 have:=aEB z 32;rw[<- fN] at this;cases e:Txt.split z " " with
 | nil=>exact absurd e this
 | cons w t=>exact⟨w,t,rfl⟩
theorem sI(z:Str):Txt.join " " (Txt.split z " ")=z:=(StrLaws.glued_eq_join _ _).trans (StrLaws.join_split z " ")
theorem Ln.part{z:Str}(h:Ln z):∀ x∈Txt.split z " ",nK x/\x.length<=2000:=λ x m=>by
 constructor
 ·intro c mc;refine h.a c ?_;rw[<- sI z,fN,mJ];have key:∀ (as:List (List Nat)),∀ a∈as,∀ y∈a,y∈jl 32 as:=by
   intro as
   induction as with
   | nil=>intro a m;cases m
   | cons b as ih =>
     intro a m y my;cases as with
     | nil =>
       rw[List.mem_singleton.mp m] at my;exact my
     | cons b' as =>
       show y∈b++32::jl 32 (b'::as);rcases List.mem_cons.mp m with rfl | m
       ·exact yBx _ my
       ·exact xAk _ (xAf _ (ih a m y my))
  rw[<- fN];exact key _ _ (List.mem_map.mpr ⟨x,m,rfl⟩) c mc
 ·refine xAg ?_ h.l;have key:∀ (as:List (List Nat)),∀ a∈as,a.length<=(jl 32 as).length:=by
   intro as
   induction as with
   | nil=>intro a m;cases m
   | cons b as ih =>
     intro a m;cases as with
     | nil =>
       rw[List.mem_singleton.mp m];exact yAe _
     | cons b' as =>
       show a.length<=(b++32::jl 32 (b'::as)).length;rw[yAr,yBf];rcases List.mem_cons.mp m with rfl | m
       ·omega
       ·have:=ih a m;omega
  have:=key ((Txt.split z " ").map λ p=>p.cps.toList) x.cps.toList (List.mem_map.mpr ⟨x,m,rfl⟩)
  rw[<- mJ,<- fN,sI] at this;exact this
theorem aBq{C:Calls}{env:aV}{S:aC}{i:Nat}{z:Str}(h:env[i]? = qq (qq (.d (.str z))))(hl:z.length<=1000000):ev C (.fz (.spl (.var i) (.str " "))) env S=qq (.d (.list ((Txt.split z " ").map yAa)),S):=by
 have y0:((" " : Str).length==0)=false:=by decide
 have hz:z.length+2<=qk:=by rw[qo];omega
 simp only[evs,h,nA,nE,y0,hz,and_self]
theorem aKa(d:Nat)(z:Str)(h:Ln z)(hb:dZ (Txt.split z " ")=false)(S:aC):cl fns (d+3) 10 [.d (.str z)] S=qq (.d .none,S):=by
 obtain⟨w,t,es⟩:=sJ z;have hp:=h.part;have hs:=h.s;have sp:∀ e,ev (aF fns (d+2)) (.fz (.spl (.var 0) (.str " "))) (qq (.d (.str z))::e) S=qq (.d (.list ((Txt.split z " ").map yAa)),S):=λ e=>aBq rfl (xAg h.l (by decide))
 rw[es] at hb hp sp hs;have i0:bC (.list ((w::t).map yAa)) (.int 0)=qq (.str w):=eR (k:=0) rfl;have iw:cl fns (d+2) 1 [.d (.str w)] S=qq (.d (.bool (wdB w)),S):=by
  refine cT rfl (d+1) rfl rfl yAf (bG ?_);show ev (aF fns (d+1)) _ [qq (.d (.str w))] S=_;simp only[evs,uH];rfl
 have ll:cU [.list ((w::t).map yAa)]=qq (.int ((1+t.length:Nat):Int)):=by
  rw[cH,yAb,yBf,Nat.add_comm]
 have cf:cK ((w::t).map yAa) (qq 1) qz=t.map yAa:=hV _ 1;have an:=aDR d t (λ x m=>hp x (xAf _ m)) (by simp at hs;omega) S
 have tst:tv (aF fns (d+2)) (.or (.not (.call 1 (.cons (.var 2) .nil))) (.or (.cmp .NotEq (.blt .len (.cons (.var 1) .nil)) (.bin .Add (.int 1) (.call 2 (.cons (.var 2) .nil)))) (.not (.call 8 (.cons (.sl (.var 1) (.cons (.int 1) .nil) .no) .nil))))) [qq (.d (.str z)),qq (.d (.list ((w::t).map yAa))),qq (.d (.str w))] S=qq (true,S):=by
  cases hw:wdB w with
  | false =>
    rw[hw] at iw;generalize (w::t).map yAa=P at *;simp only[evs,iw]
  | true =>
    rw[hw] at iw;obtain⟨wd,rfl⟩:=aQT hw;have nc:=aEg (d+1) wd S;have e1:(1:Int)+((1+eB wd:Nat):Int)=((1+(1+eB wd):Nat):Int):=by omega
    by_cases hl:t.length=1+eB wd
    ·have ha:t.all cW=false:=by
      cases ha:t.all cW with
      | false=>rfl
      | true =>
        exfalso;unfold dZ at hb;simp only[aNt,ha,hl,beq_self_eq_true] at hb;cases hb
     rw[ha] at an;rw[hl] at ll;generalize (wd.s::t).map yAa=P at *;simp only[evs,iw,ll,nc,cY,e1,qT,beq_self_eq_true,cR,cL,cV,cf,an]
    ·have e2:(!(((1+t.length:Nat):Int)==((1+(1+eB wd):Nat):Int)))=true:=by
      rw[yDn,beq_eq_false_iff_ne];omega
     generalize (wd.s::t).map yAa=P at *;simp only[evs,iw,ll,nc,cY,e1,qT,e2]
 refine cT rfl (d+2) rfl rfl yAf (bM (sp _) rfl ?_);show xs (aF fns (d+2)) _ [qq (.d (.str z)),qq (.d (.list ((w::t).map yAa))),qz] S=_;generalize (w::t).map yAa=P at *;exact bM (w:=.d (.str w)) (S1:=S) (by simp only[evs,i0]) rfl (cF tst (bG (by simp only[evs])))
noncomputable def eG(ps:List Str):Bool:=match ps with
 | []=>false
 | w::t=>(w == "out")&&t.all cW&&(decide (1<=t.length)&&decide (t.length<=8))
theorem aJM{w:Str}{t:List Str}(h:eG (w::t)=true):∃ aB:List Nat,(∀ o∈aB,o<10^20)/\1<=aB.length/\aB.length<=8/\w::t=gC aB:=by
 unfold eG at h;simp only[yBm,decide_eq_true_eq] at h;obtain⟨⟨h1,h2⟩,h3,h4⟩:=h;obtain rfl:=eq_of_beq h1;obtain⟨L,hL,rfl⟩:=aBw h2;rw[yAb] at h3 h4;exact⟨L,hL,h3,h4,rfl⟩
theorem aP8:yBs "out" = true:=by kernel_rfl
theorem aI1(d:Nat)(z:Str)(h:Ln z)(hb:eG (Txt.split z " ")=false)(S:aC):cl fns (d+3) 11 [.d (.str z)] S=qq (.d .none,S):=by
 obtain⟨w,t,es⟩:=sJ z;have hp:=h.part;have hs:=h.s;have sp:∀ e,ev (aF fns (d+2)) (.fz (.spl (.var 0) (.str " "))) (qq (.d (.str z))::e) S=qq (.d (.list ((Txt.split z " ").map yAa)),S):=λ e=>aBq rfl (xAg h.l (by decide))
 rw[es] at hb hp sp hs;have i0:bC (.list ((w::t).map yAa)) (.int 0)=qq (.str w):=eR (k:=0) rfl;have ne:=sY (hp w xAd).1.ok aP8;have ll:cU [.list ((w::t).map yAa)]=qq (.int ((1+t.length:Nat):Int)):=by
  rw[cH,yAb,yBf,Nat.add_comm]
 have cf:cK ((w::t).map yAa) (qq 1) qz=t.map yAa:=hV _ 1;have an:=aDR d t (λ x m=>hp x (xAf _ m)) (by simp at hs;omega) S
 have tst:tv (aF fns (d+2)) (.or (.cmp .NotEq (.ix (.var 1) (.int 0)) (.str "out")) (.or (.cmp .Lt (.blt .len (.cons (.var 1) .nil)) (.int 2)) (.or (.cmp .Gt (.blt .len (.cons (.var 1) .nil)) (.int 9)) (.not (.call 8 (.cons (.sl (.var 1) (.cons (.int 1) .nil) .no) .nil)))))) [qq (.d (.str z)),qq (.d (.list ((w::t).map yAa)))] S=qq (true,S):=by
  cases hw:w == "out" with
  | false =>
    rw[hw] at ne;generalize (w::t).map yAa=P at *;simp only[evs,i0,ne]
  | true =>
    rw[hw] at ne
    by_cases c1:1<=t.length
    ·have d1:decide (((1+t.length:Nat):Int)<2)=false:=dqF (by omega)
     by_cases c2:t.length<=8
     ·have d2:decide ((9:Int)<((1+t.length:Nat):Int))=false:=dqF (by omega)
      have ha:t.all cW=false:=by
       cases ha:t.all cW with
       | false=>rfl
       | true =>
         exfalso;unfold eG at hb;simp only[hw,ha,dqT c1,dqT c2] at hb;cases hb
      rw[ha] at an;generalize (w::t).map yAa=P at *;simp only[evs,i0,ne,ll,dE,gG,d1,d2,cR,cL,cV,cf,an]
     ·have d2:decide ((9:Int)<((1+t.length:Nat):Int))=true:=dqT (by omega)
      generalize (w::t).map yAa=P at *;simp only[evs,i0,ne,ll,dE,gG,d1,d2]
    ·have d1:decide (((1+t.length:Nat):Int)<2)=true:=dqT (by omega)
     generalize (w::t).map yAa=P at *;simp only[evs,i0,ne,ll,dE,d1]
 refine cT rfl (d+2) rfl rfl yAf (bM (sp _) rfl ?_);show xs (aF fns (d+2)) _ [qq (.d (.str z)),qq (.d (.list ((w::t).map yAa)))] S=_;generalize (w::t).map yAa=P at *;exact cF tst (bG (by simp only[evs]))
noncomputable def cX(p:Str×List Nat):D:=.tuple (.str p.1::p.2.map nD)
noncomputable def aY(p:Str×List Nat):List Str:=p.1::p.2.map bJ
noncomputable def aN(p:Str×List Nat):Str:=Txt.join " " (aY p)
noncomputable def rN(r:Rw):Str×List Nat:=(r.wd.s,r.w::r.args)
theorem aNG(r:Rw):r.d=cX (rN r):=rfl
theorem aN8(r:Rw):bH r=aN (rN r):=rfl
structure LnOk(p:Str×List Nat):Prop where
 w:p.1.length<=20
 c:∀ c∈p.1.cps.toList,97<=c/\c<=122
 n:∀ n∈p.2,n<10^20
 l:p.2.length<=8
theorem aBO{r:Rw}(ar:Ar r)(b:Bd r):LnOk (rN r):=⟨aEN _,aDU _,λ n m=>by
 rcases List.mem_cons.mp m with rfl | m
 ·exact b.1
 ·exact b.2 n m,by
 have:=qQ r.wd;rw[<- ar] at this;show(r.w::r.args).length<=8;simp;omega⟩
theorem aB2{aB:List Nat}(b:∀ o∈aB,o<10^20)(l:aB.length<=8):LnOk (("out" : Str),aB):=⟨show("out" : Str).length<=20 by decide,show ∀ c∈("out" : Str).cps.toList,97<=c/\c<=122 by decide +kernel,b,l⟩
theorem aFn{p:Str×List Nat}(h:LnOk p):∀ x∈aY p,x.length<=20:=λ x m=>by
 rcases List.mem_cons.mp m with rfl | m
 ·exact h.w
 ·obtain⟨n,mn,rfl⟩:=List.mem_map.mp m;exact nY (h.n n mn)
theorem aBM{p:Str×List Nat}(h:LnOk p):((aY p).map (·.length)).sum+(aY p).length<=200:=by
 have s:=lK (λ p:Str=>p.length) 20 (aY p) (aFn h)
 have l:(aY p).length<=9:=by
  have:=h.l;unfold aY;simp;omega
 omega
theorem aBE{p:Str×List Nat}(h:LnOk p):(aN p).length<=200:=by
 have j:=qE 32 (aY p);have:=aBM h;unfold aN;rw[fN];omega
theorem aFu{p:Str×List Nat}(h:LnOk p){c:Nat}(m:c∈(aN p).cps.toList):c=32\/(48<=c/\c<=122):=by
 unfold aN at m;rw[fN] at m;rcases wY m with z | ⟨x,mx,z⟩
 ·exact .inl z
 ·right
  rcases List.mem_cons.mp mx with rfl | mx
  ·have:=h.c c z;omega
  ·obtain⟨n,_,rfl⟩:=List.mem_map.mp mx;have:=qJ n c z;omega
theorem aE5:∀ ps:List Str,qV (ps.map yAa)=qq ps
 | []=>rfl
 | a::l=>by
   show(qV (l.map yAa)).bind _=_;rw[aE5 l];rfl
theorem mK{sep:Str}{ps:List Str}(h1:sep.length=1)(h:(ps.map (·.length)).sum+ps.length<=1000000):oU (.str sep) (.list (ps.map yAa))=qq (.str (Txt.join sep ps)):=by
 show(qV (ps.map yAa)).bind _=_;rw[aE5,oB,if_pos (by rw[h1];omega)]
theorem aFa{n:Nat}(h:n<10^20):rH (.int n)=qq (.str (bJ n)):=by
 refine if_pos ?_;show(Int.natAbs ((n:Nat):Int)).log2<1920;rw[Int.natAbs_natCast]
 by_cases z:n=0
 ·subst z;decide
 ·exact(Nat.log2_lt z).mpr (xAc h (xAg (by decide:10^20<=2^70) (yDr (by decide) (by decide))))
theorem vQ:(" " : Str).length=1:=by decide
theorem nl1:("\n" : Str).length=1:=by decide
noncomputable def aCD(p:Str ⊕ Nat):D:=match p with
 | .inl s=>.str s
 | .inr n=>nD n
noncomputable def aCy(p:Str ⊕ Nat):Str:=match p with
 | .inl s=>s
 | .inr n=>bJ n
theorem aDZ(d:Nat)(p:Str×List Nat)(h:LnOk p)(S:aC):cl fns (d+1) 12 [.d (cX p)] S=qq (.d (.str (aN p)),S):=by
 have e1:cX p=.tuple ((Sum.inl p.1::p.2.map Sum.inr).map aCD):=by unfold cX;rw[yAi,yAx];rfl
 have e2:aY p=(Sum.inl p.1::p.2.map Sum.inr).map aCy:=by unfold aY;rw[yAi,yAx];rfl
 have js:=mK vQ (ps:=aY p) (xAg (aBM h) (by decide))
 refine cT rfl d rfl rfl yAf ?_;show xs (aF fns d) _ [qq (.d (cX p)),qz] S=_;have hc:lv (aF fns d) aDE [qq (.d (cX p)),qz] S=qq ((aY p).map yAa,S):=by
  rw[e1,e2,yAx];refine fW (fi:=lv (aF fns d) (.it (.var 0))) (fe:=ev (aF fns d) (.st1 (.var 1))) aCD (yAa ∘ aCy) (Sum.inl p.1::p.2.map Sum.inr) ?_ (by rw[qo];have:=h.l;simp;omega) λ a ha=>?_
  ·simp only[evs,dP]
  ·refine⟨_,rfl,λ S'=>?_⟩
   have hs:rH (aCD a)=qq (.str (aCy a)):=by
    cases a with
    | inl s=>rfl
    | inr n =>
      refine aFa (h.n n ?_);rcases List.mem_cons.mp ha with z | z
      ·cases z
      ·obtain⟨m,mm,z⟩:=List.mem_map.mp z;cases z;exact mm
   simp only[evs,clr,yAj,yAl,hs];rfl
 generalize cX p=Z at *;exact bG (by simp only[evs,hc,jX,js];rfl)
noncomputable def bF(rs:List Rw)(aB:List Nat):List (Str×List Nat):=rs.map rN++[(("out" : Str),aB)]
noncomputable def fQ(rs:List Rw)(aB:List Nat):Str:=Txt.join "\n" ((bF rs aB).map aN)
theorem sS{rs:List Rw}{aB:List Nat}(ar:∀ r∈rs,Ar r)(bd:∀ r∈rs,Bd r)(bo:∀ o∈aB,o<10^20)(lo:aB.length<=8):∀ p∈bF rs aB,LnOk p:=λ p m=>by
 rcases List.mem_append.mp m with m | m
 ·obtain⟨r,mr,rfl⟩:=List.mem_map.mp m;exact aBO (ar r mr) (bd r mr)
 ·rw[List.mem_singleton.mp m];exact aB2 bo lo
theorem aA0{ps:List (Str×List Nat)}(h:∀ p∈ps,LnOk p)(hl:ps.length<=200):((ps.map aN).map (·.length)).sum+(ps.map aN).length<=50000:=by
 have s:=lK (λ p:Str=>p.length) 200 (ps.map aN) λ x m=>by
  obtain⟨p,mp,rfl⟩:=List.mem_map.mp m;exact aBE (h p mp)
 rw[yAb] at s ⊢;omega
theorem aKP{ps:List (Str×List Nat)}(h:∀ p∈ps,LnOk p)(hl:ps.length<=200):(Txt.join "\n" (ps.map aN)).length<=50000:=by
 have j:=qE 10 (ps.map aN);have:=aA0 h hl;rw[qW];omega
theorem aI9{ps:List (Str×List Nat)}(h:∀ p∈ps,LnOk p):∀ x∈ps.map aN,10 ∉ x.cps.toList:=λ x m z=>by
 obtain⟨p,mp,rfl⟩:=List.mem_map.mp m;have:=aFu (h p mp) z;omega
theorem aK8{ps:List (Str×List Nat)}(h:∀ p∈ps,LnOk p):yBs (Txt.join "\n" (ps.map aN))=true:=tB λ c m=>by
 rw[qW] at m;rcases wY m with z | ⟨x,mx,z⟩
 ·omega
 ·obtain⟨p,mp,rfl⟩:=List.mem_map.mp mx;have:=aFu (h p mp) z;omega
theorem sQ(S0:aC)(l:List D)(x:D)(h:l.length<=1000):fS (S0++[qq l]) (.loc S0.length) (.d x)=qq (.d .none,S0++[qq (l++[x])]):=by
 unfold fS;simp only[yAd (yAe S0.length),yCv,yBq];rw[if_pos (by rw[qo];omega)]
 rw[List.set_append_right _ _ (yAe _),yCv];rfl
theorem wZ(S0:aC)(l:List D):(S0++[qq l])[S0.length]? = qq (qq l):=by
 rw[yAd (yAe _),yCv];rfl
theorem aBp(d:Nat)(rs:List Rw)(aB:List Nat)(ar:∀ r∈rs,Ar r)(bd:∀ r∈rs,Bd r)(bo:∀ o∈aB,o<10^20)(lr:rs.length<=100)(lo:aB.length<=8)(S:aC):cl fns (d+2) 13 [.d (bE rs aB)] S=qq (.d (.str (fQ rs aB)),S):=by
 have lk:=sS ar bd bo lo;have ll:(bF rs aB).length<=200:=by unfold bF;simp;omega
 have js:=mK nl1 (ps:=(bF rs aB).map aN) (xAg (aA0 lk ll) (by decide))
 have el:((bF rs aB).map aN).map yAa=(rs.map λ r=>yAa (bH r))++[.str (aN ("out",aB))]:=by
  unfold bF;rw[yAn,yAn,yAx,yAx];rfl
 rw[el] at js;have lo1:=λ S=>aDZ d ("out",aB) (aB2 bo lo) S
 have ct:bK .Add (.tuple [.str "out"]) (.tuple (aB.map nD))=qq (cX ("out",aB)):=by
  rw[nG (by simp) (by simp;omega)]
  rfl
 have pu:Tg.put (.many [2,3]) (bE rs aB) [qq (.d (bE rs aB)),qz,qz,qz,qz]=qq [qq (.d (bE rs aB)),qz,qq (.d (.tuple (rs.map Rw.d))),qq (.d (.tuple (aB.map nD))),qz]:=rfl;have hc:lv (aF fns (d+1)) aD5 [qq (.d (bE rs aB)),qz,qq (.d (.tuple (rs.map Rw.d))),qq (.d (.tuple (aB.map nD))),qz] S=qq (rs.map (λ r=>yAa (bH r)),S):=by
  refine fW (fi:=lv (aF fns (d+1)) (.it (.var 2))) (fe:=ev (aF fns (d+1)) (.call 12 (.cons (.var 4) .nil))) Rw.d (λ r=>yAa (bH r)) rs ?_ (by rw[qo];omega) λ r hr=>?_
  ·simp only[evs,dP]
  ·refine⟨_,rfl,λ S'=>?_⟩
   have:=aDZ d (rN r) (aBO (ar r hr) (bd r hr)) S';rw[<- aNG,<- aN8] at this;generalize bE rs aB=P at *;simp only[evs,clr,yAj,yAl,this]
 have ap:=sQ S (rs.map λ r=>yAa (bH r)) (.str (aN ("out",aB))) (by simp;omega)
 have gl:=wZ S ((rs.map λ r=>yAa (bH r))++[.str (aN ("out",aB))])
 unfold fQ;generalize Txt.join "\n" ((bF rs aB).map aN)=TX at *;generalize (rs.map λ r=>yAa (bH r))++[.str (aN ("out",aB))]=L2 at *
 rw[dJ rfl (d+1) _ S rfl]
 suffices H:xs (aF fns (d+1)) aBS [qq (.d (bE rs aB)),qz,qz,qz,qz] S=qq (.rt (.d (.str TX)),S++[qq L2]) by
  show((xs (aF fns (d+1)) aBS [qq (.d (bE rs aB)),qz,qz,qz,qz] S).bind _)=_;rw[H,oB];show qq (W.d (.str TX),(S++_).take S.length)=_;rw[yEn]
 generalize bE rs aB=P at *;generalize yBb (rs.map Rw.d)=RT at *;generalize yBb (aB.map nD)=OT at *;refine dY (e1:=[qq (.d P),qz,qq (.d RT),qq (.d OT),qz]) (S1:=S) ?_ ?_
 ·show mU _ _ _ _=_;unfold mU;rw[show ev (aF fns (d+1)) (.var 0) [qq (.d P),qz,qz,qz,qz] S=qq (.d P,S) from rfl,oB]
  show(Tg.put _ _ _).bind _=_;rw[pu];rfl
 refine dY (e1:=[qq (.d P),qq (.loc S.length),qq (.d RT),qq (.d OT),qz]) (S1:=S++[qq (rs.map λ r=>yAa (bH r))]) ?_ ?_
 ·simp only[xB,dO,gM,hc,oB];rfl
 have lo2:=lo1 (S++[qq (rs.map λ r=>yAa (bH r))])
 generalize cX ("out",aB)=OD at *;generalize aN ("out",aB)=OS at *;generalize (rs.map λ r=>yAa (bH r))=RL at *
 refine dY (e1:=[qq (.d P),qq (.loc S.length),qq (.d RT),qq (.d OT),qz]) (S1:=S++[qq L2]) ?_ (bG ?_)
 ·simp only[evs,ct,lo2,gK,ap]
 ·simp only[evs,jX,gl,js]
noncomputable def Ft4.i:Ft4->Nat
 | .width=>0 | .row=>1 | .fit=>2 | .number=>3
theorem uE(f g:Ft4):aE f.c g.c=qq (f.i==g.i):=by cases f<;>cases g<;>kernel_rfl
theorem aOF{C:Calls}{CX:fX}{x:Xx}{n:Nat}{ws:List W}{env:aV}{S:aC}{y:D}(he:ws.map qq++yAh (n-ws.length) qz=env)(k:xx C CX aE x env S=qq (.fl (.rt (.d y)),S)):mP (fG (xx C CX aE x) n) ws S=qq (.d y,S):=by
 unfold mP;rw[aBA he k,oB]
noncomputable def tHs:List (Str×Option Nat×List Hs):=[("NoWidth",qq 2,[.tup 1 [.str "width",.row 2]]),("NoRow",qq 2,[.tup 1 [.str "row",.row 2]]),("NoFit",qq 2,[.tup 1 [.str "fit",.row 2]]),("NoNumber",qq 2,[.tup 1 [.str "number",.row 2]])]
theorem aMK(f:Ft4)(k:Int)(P:D)(a:Option W)(S:aC):dS aE f.c (.int k) (tHs.map λ h=>⟨h.1,h.2.1,iY aE h.2.2⟩) [qq (.d P),a,qz] S=qq (.nx [qq (.d P),qq (.d (.tuple [.str f.s,.int k])),qz],S):=by
 have t1:aE f.c "NoWidth" = qq (f.i==0):=uE f .width;have t2:aE f.c "NoRow" = qq (f.i==1):=uE f .row;have t3:aE f.c "NoFit" = qq (f.i==2):=uE f .fit;have t4:aE f.c "NoNumber" = qq (f.i==3):=uE f .number;have t5:∃ b,aE f.c f.c=qq b:=⟨_,uE f f⟩;obtain⟨b,t5⟩:=t5;have ff:∀ n,f.i=n->∀ S,pD aE (eU 2) [qq (.d P),a,qq (.exc f.c (.int k))] S=qq (.d (.int k),S):=λ n _ S=>by
  simp only[pD,eU,rJ,oB,yBq,yCx,t5]
 cases f<;>simp only[evs,tHs,yAi,yCh,dS,t1,t2,t3,t4,Ft4.i,beq_self_eq_true,Nat.reduceBEq,iY,dL,hv,mB,ff _ rfl,uX,Ft4.s]
noncomputable def eN(S:aC)(rs:List Rw):aC:=S++[qq (rs.map Rw.d)]
theorem aGj(r:Rw):bA .Is r.d .none=qq (.bool false):=rfl
theorem aMh(l:List D):bA .Is (.tuple l) .none=qq (.bool false):=rfl
theorem aDH(d:Nat)(S:aC)(L:D):∀ (l aH:List Rw) (k:Nat) (a2 a3 a4:Option W),(∀ r∈l,Ar r)->(∀ r∈l,Bd r)->aH.length+l.length<=500->∃ a2' a3' a4':Option W,
 mX (.many [2,3]) (xx (aG fns gns aE (d+3)).1 (aG fns gns aE (d+3)).2 aE jJ) (((l.map λ r=>yAa (bH r)).zipIdx k).map λ p=>yBb [.int (p.2:Nat),p.1]) [qq (.d L),qq (.loc S.length),a2,a3,a4] (eN S aH)=qq (.fl (.nx [qq (.d L),qq (.loc S.length),a2',a3',a4']),eN S (aH++l))
 | [],aH,k,a2,a3,a4,_,_,_=>⟨a2,a3,a4,by rw[yAv];rfl⟩
 | r::l,aH,k,a2,a3,a4,ar,bd,hl=>by
   have hll:aH.length+(l.length+1)<=500:=hl;obtain⟨b2,b3,b4,ih⟩:=aDH d S L l (aH++[r]) (k+1) (qq (.d (.int k))) (qq (.d (.str (bH r)))) (qq (.d r.d)) (λ q m=>ar q (xAf _ m)) (λ q m=>bd q (xAf _ m)) (by simp;omega)
   refine⟨b2,b3,b4,?_⟩;have ri:bZ fns gns aE (d+3) 10 [.d (.str (bH r))] (eN S aH)=qq (.d r.d,eN S aH):=(fK (d+2) 10 _ _ (by decide)).trans (aEH d r (ar r xAd) (bd r xAd) _)
   have ap:fS (eN S aH) (.loc S.length) (.d r.d)=qq (.d .none,eN S (aH++[r])):=by
    unfold eN;rw[yAn];exact sQ S (aH.map Rw.d) r.d (by simp;omega)
   have nn:=aGj r;have el:aH++r::l=(aH++[r])++l:=by simp
   rw[el];show((xx (aG fns gns aE (d+3)).1 (aG fns gns aE (d+3)).2 aE jJ [qq (.d L),qq (.loc S.length),qq (.d (.int k)),qq (.d (.str (bH r))),a4] (eN S aH)).bind λ q=>_)=_
   have e:xx (aG fns gns aE (d+3)).1 (aG fns gns aE (d+3)).2 aE jJ [qq (.d L),qq (.loc S.length),qq (.d (.int k)),qq (.d (.str (bH r))),a4] (eN S aH)=qq (.fl (.nx [qq (.d L),qq (.loc S.length),qq (.d (.int k)),qq (.d (.str (bH r))),qq (.d r.d)]),eN S (aH++[r])):=by
    generalize r.d=R at *;generalize bH r=Z at *;refine xk (dG (fl:=.nx [qq (.d L),qq (.loc S.length),qq (.d (.int k)),qq (.d (.str Z)),qq (.d R)]) (S1:=eN S aH) (by simp only[evs,cS,ri])) ?_
    refine xk (fU (S1:=eN S aH) (by simp only[evs,nn]) rfl) (xk (dG (fl:=.nx [qq (.d L),qq (.loc S.length),qq (.d (.int k)),qq (.d (.str Z)),qq (.d R)]) (S1:=eN S (aH++[r])) (by simp only[evs,gK,ap])) rfl)
   rw[e,oB];exact ih
theorem aD6(d:Nat)(rs:List Rw)(ar:∀ r∈rs,Ar r)(bd:∀ r∈rs,Bd r)(lr:rs.length<=100)(S:aC):dI fns gns aE (d+4) 41 [.d (.list (rs.map λ r=>yAa (bH r)))] S=qq (.ok (.d (.tuple (rs.map Rw.d))),S):=by
 rw[show dI fns gns aE (d+4) 41=dI fns gns aE (d+4) (fns.length+2) from rfl,oJ (x:=nU) rfl rfl (d+3) _ S rfl]
 obtain⟨a2,a3,a4,lp⟩:=aDH d S (.list (rs.map λ r=>yAa (bH r))) rs [] 0 qz qz qz ar bd (by simp;omega)
 rw[yCs] at lp;have it:lv (aG fns gns aE (d+3)).1 nS [qq (.d (.list (rs.map λ r=>yAa (bH r)))),qq (.loc S.length),qz,qz,qz] (eN S [])=qq (((rs.map λ r=>yAa (bH r)).zipIdx).map (λ p=>yBb [.int (p.2:Nat),p.1]),eN S []):=by
  simp only[nS,qO];exact aDB (by simp only[evs])
 have gl:(eN S rs)[S.length]? = qq (qq (rs.map Rw.d)):=wZ S _;have tk:(eN S rs).take S.length=S:=yEn;generalize (aG fns gns aE (d+3)).1=C at *;generalize (aG fns gns aE (d+3)).2=CX at *;generalize yBg (rs.map λ r=>yAa (bH r))=L at *
 unfold fG;show((xx C CX aE nU [qq (.d L),qz,qz,qz,qz] S).bind _)=_;have e:xx C CX aE nU [qq (.d L),qz,qz,qz,qz] S=qq (.fl (.rt (.d (.tuple (rs.map Rw.d)))),eN S rs):=by
  refine xk (dG (fl:=.nx [qq (.d L),qq (.loc S.length),qz,qz,qz]) (S1:=eN S []) (by simp only[evs,gM];rfl)) ?_
  refine xk (e1:=[qq (.d L),qq (.loc S.length),a2,a3,a4]) (S1:=eN S rs) ?_ (xX (dG (by simp only[evs,gl,qU,qL])))
  show mY (.many [2,3]) (lv C nS) (xx C CX aE jJ) _ _=_;unfold mY;rw[it,oB];exact lp
 rw[e,oB];show qq (ResX.ok (.d (.tuple (rs.map Rw.d))),(eN S rs).take S.length)=_;rw[tk]
noncomputable def aHF(rs:List Rw)(aB:List Nat):Option (Ft4×Nat)->ResX
 | none=>.ok (.d (bE rs aB))
 | some z=>.ex z.1.c (.int (z.2:Nat))
theorem aBH(d:Nat)(rs:List Rw)(aB:List Nat)(ar:∀ r∈rs,Ar r)(bd:∀ r∈rs,Bd r)(bo:∀ o∈aB,o<10^20)(lr:rs.length<=100)(l1:1<=aB.length)(lo:aB.length<=8)(S:aC):dI fns gns aE (d+5) 42 [.d (.str (fQ rs aB))] S=qq (aHF rs aB (gU rs aB),S):=by
 rw[show dI fns gns aE (d+5) 42=dI fns gns aE (d+5) (fns.length+3) from rfl,oJ (x:=yR) rfl rfl (d+4) _ S rfl]
 have lk:=sS ar bd bo lo;have ll:(bF rs aB).length<=200:=by unfold bF;simp;omega
 have el:((bF rs aB).map aN).map yAa=(rs.map λ r=>yAa (bH r))++[.str (cO aB)]:=by
  unfold bF;rw[yAn,yAn,yAx,yAx];rfl
 have sp:∀ (C:Calls) e,ev C (.fz (.spl (.var 0) (.str "\n"))) (qq (.d (.str (fQ rs aB)))::e) S=qq (.d (.list ((rs.map λ r=>yAa (bH r))++[.str (cO aB)])),S):=λ C e=>by
  rw[<- el];exact tQ qW rfl (by unfold bF;simp) (aI9 lk) (xAg (aKP lk ll) (by decide))
 have ln:cU [.list ((rs.map λ r=>yAa (bH r))++[.str (cO aB)])]=qq (.int ((rs.length+1:Nat):Int)):=by
  rw[cH];simp
 have e1:((rs.length+1:Nat):Int)-1=((rs.length:Nat):Int):=by omega
 have cf:cK ((rs.map λ r=>yAa (bH r))++[.str (cO aB)]) qz (qq ((rs.length:Nat):Int))=rs.map λ r=>yAa (bH r):=by
  rw[qK];exact List.take_left' (by rw[yAb])
 have il:bC (.list ((rs.map λ r=>yAa (bH r))++[.str (cO aB)])) (.int ((rs.length:Nat):Int))=qq (.str (cO aB)):=eR (by rw[yAd (by simp)];simp)
 have ri:=aD6 d rs ar bd lr S;have oi:bZ fns gns aE (d+4) 11 [.d (.str (cO aB))] S=qq (.d (.tuple (aB.map nD)),S):=(fK (d+3) 11 _ _ (by decide)).trans (aJ6 (d+1) aB bo l1 lo S)
 have lo':=aMJ d rs aB ar (by omega) (by omega) S
 have nn:=aMh (aB.map nD);have is:∀ z:Str,iZ .str (.str z)=qq (.bool true):=λ _=>rfl
 generalize gU rs aB=z at *;have ep:bE rs aB=.tuple [.tuple (rs.map Rw.d),.tuple (aB.map nD)]:=rfl;unfold aHF;rw[ep] at lo' ⊢;generalize (rs.map λ r=>yAa (bH r))++[.str (cO aB)]=LL at *
 generalize (rs.map λ r=>yAa (bH r))=RL at *
 generalize yBb (rs.map Rw.d)=RT at *;generalize yBb (aB.map nD)=OT at *;generalize fQ rs aB=TX at *;generalize cO aB=OS at *;have s1:xx (aG fns gns aE (d+4)).1 (aG fns gns aE (d+4)).2 aE (.set 3 41 (.cons (.sl (.var 1) .no (.cons (.var 2) .nil)) .nil)) [qq (.d (.str TX)),qq (.d (.list LL)),qq (.d (.int rs.length)),qz,qz,qz] S=qq (.fl (.nx [qq (.d (.str TX)),qq (.d (.list LL)),qq (.d (.int rs.length)),qq (.d RT),qz,qz]),S):=by
  show jB 3 (iD (aG fns gns aE (d+4)).2 41 (av (aG fns gns aE (d+4)).1 (.cons (.sl (.var 1) .no (.cons (.var 2) .nil)) .nil))) _ S=_;have e:av (aG fns gns aE (d+4)).1 (.cons (.sl (.var 1) .no (.cons (.var 2) .nil)) .nil) [qq (.d (.str TX)),qq (.d (.list LL)),qq (.d (.int rs.length)),qz,qz,qz] S=qq ([.d (.list RL)],S):=by simp only[evs,cR,cL,cV,cf]
  unfold jB;rw[pW,e,oB,ri];rfl
 have s2:xx (aG fns gns aE (d+4)).1 (aG fns gns aE (d+4)).2 aE (.cal 40 (.cons (.var 5) .nil)) [qq (.d (.str TX)),qq (.d (.list LL)),qq (.d (.int rs.length)),qq (.d RT),qq (.d OT),qq (.d (.tuple [RT,OT]))] S=qq (flL [qq (.d (.str TX)),qq (.d (.list LL)),qq (.d (.int rs.length)),qq (.d RT),qq (.d OT),qq (.d (.tuple [RT,OT]))] z,S):=by
  show oO (iD (aG fns gns aE (d+4)).2 40 (av (aG fns gns aE (d+4)).1 (.cons (.var 5) .nil))) _ S=_;have e:av (aG fns gns aE (d+4)).1 (.cons (.var 5) .nil) [qq (.d (.str TX)),qq (.d (.list LL)),qq (.d (.int rs.length)),qq (.d RT),qq (.d OT),qq (.d (.tuple [RT,OT]))] S=qq ([.d (.tuple [RT,OT])],S):=by simp only[evs]
  unfold oO;rw[pW,e,oB,lo'];cases z<;>rfl
 have s3:∀ e,ev (aG fns gns aE (d+4)).1 (.call 11 (.cons (.ix (.var 1) (.var 2)) .nil)) (qq (.d (.str TX))::qq (.d (.list LL))::qq (.d (.int rs.length))::e) S=qq (.d OT,S):=λ e=>by simp only[evs,cS,il,oi]
 have sp:=λ e=>sp (aG fns gns aE (d+4)).1 e
 generalize (aG fns gns aE (d+4)).1=C at *;generalize (aG fns gns aE (d+4)).2=CX at *;have pre:∀ {fx:FlX},xx C CX aE (.seq (.cal 40 (.cons (.var 5) .nil)) (.seq (.s (.ret (.var 5))) .skip)) [qq (.d (.str TX)),qq (.d (.list LL)),qq (.d (.int rs.length)),qq (.d RT),qq (.d OT),qq (.d (.tuple [RT,OT]))] S=qq (fx,S)->xx C CX aE yR [qq (.d (.str TX)),qz,qz,qz,qz,qz] S=qq (fx,S):=λ {fx} h=>by
  refine xk (fU (S1:=S) (by simp only[evs,is]) rfl) ?_
  refine xk (dG (fl:=.nx [qq (.d (.str TX)),qq (.d (.list LL)),qz,qz,qz,qz]) (S1:=S) (by simp only[oC,dO,sp,oB];rfl)) ?_
  refine xk (dG (fl:=.nx [qq (.d (.str TX)),qq (.d (.list LL)),qq (.d (.int rs.length)),qz,qz,qz]) (S1:=S) (by simp only[evs,ln,dW,e1])) ?_
  refine xk s1 ?_;refine xk (dG (fl:=.nx [qq (.d (.str TX)),qq (.d (.list LL)),qq (.d (.int rs.length)),qq (.d RT),qq (.d OT),qz]) (S1:=S) (by simp only[oC,dO,s3,oB];rfl)) ?_
  refine xk (fU (S1:=S) (by simp only[evs,nn]) rfl) ?_
  refine xk (dG (fl:=.nx [qq (.d (.str TX)),qq (.d (.list LL)),qq (.d (.int rs.length)),qq (.d RT),qq (.d OT),qq (.d (.tuple [RT,OT]))]) (S1:=S) (by simp only[evs])) h
 cases z with
 | none =>
   have s2:xx C CX aE (.cal 40 (.cons (.var 5) .nil)) [qq (.d (.str TX)),qq (.d (.list LL)),qq (.d (.int rs.length)),qq (.d RT),qq (.d OT),qq (.d (.tuple [RT,OT]))] S=qq (.fl (.nx [qq (.d (.str TX)),qq (.d (.list LL)),qq (.d (.int rs.length)),qq (.d RT),qq (.d OT),qq (.d (.tuple [RT,OT]))]),S):=s2;exact aBA rfl (pre (xk s2 (xX (dG (by simp only[evs])))))
 | some z=>exact lG rfl (pre (eE s2))
noncomputable def aHG(G:D):Option (Ft4×Nat)->D
 | none=>.tuple [.str "good",G]
 | some z=>.tuple [.str z.1.s,.int (z.2:Nat)]
noncomputable def aCs(rs:List Rw)(aB:List Nat)(z:Option (Ft4×Nat)):D:=aHG (bE rs aB) z
theorem aEn{α:Type}{t:Tg}{fb:FS}{S:aC}(P:aV->Prop)(r:W)(enc:α->D)(bad:α->Bool):∀ (l:List α) (env:aV),P env->(∀ a∈l,∀ env,P env->∃ e1,t.put (enc a) env=qq e1/\(bad a=true->fb e1 S=qq (.rt r,S))/\(bad a=false->∃ aO,fb e1 S=qq (.nx aO,S)/\P aO)) ->
 (l.any bad=true->eJ t fb (l.map enc) env S=qq (.rt r,S))/\(l.any bad=false->∃ aO,eJ t fb (l.map enc) env S=qq (.nx aO,S)/\P aO)
 | [],env,h0,_=>⟨λ h=>(by cases h),λ _=>⟨env,rfl,h0⟩⟩
 | a::l,env,h0,h=>by
   obtain⟨e1,h1,h2,h3⟩:=h a xAd env h0;cases c:bad a with
   | true =>
     refine⟨λ _=>?_,λ h=>by rw[yEd,c] at h;cases h⟩
     simp only[yAi,eJ,h1,oB,h2 c]
   | false =>
     obtain⟨aO,h4,h5⟩:=h3 c;obtain⟨h6,h7⟩:=aEn P r enc bad l aO h5 λ x hx=>h x (xAf _ hx)
     rw[yEd,c,Bool.false_or];refine⟨λ q=>?_,λ q=>?_⟩
     ·simp only[yAi,eJ,h1,oB,h4];exact h6 q
     ·obtain⟨env2,h8,h9⟩:=h7 q;refine⟨env2,?_,h9⟩;simp only[yAi,eJ,h1,oB,h4];exact h8
theorem aKm{α:Type}{t:Tg}{fi:FL}{fb:FS}{env:aV}{S S1:aC}(P:aV->Prop)(r:W)(enc:α->D)(bad:α->Bool)(l:List α)(hi:fi env S=qq (l.map enc,S1))(h0:P env)(h:∀ a∈l,∀ env,P env->∃ e1,t.put (enc a) env=qq e1/\(bad a=true->fb e1 S1=qq (.rt r,S1))/\(bad a=false->∃ aO,fb e1 S1=qq (.nx aO,S1)/\P aO)) :
 (l.any bad=true->gZ t fi fb env S=qq (.rt r,S1))/\(l.any bad=false->∃ aO,gZ t fi fb env S=qq (.nx aO,S1)/\P aO):=by
 obtain⟨h1,h2⟩:=aEn (t:=t) (fb:=fb) (S:=S1) P r enc bad l env h0 h;unfold gZ;rw[hi,oB];exact⟨h1,h2⟩
noncomputable def iF:List Str->Nat->Option Nat
 | [],_=>qz
 | z::l,k=>if dZ (Txt.split z " ")=true then iF l (k+1) else qq k
theorem aGg{z:Str}(h:dZ (Txt.split z " ")=true):∃ r:Rw,Ar r/\Bd r/\z=bH r:=by
 obtain⟨w,t,es⟩:=sJ z;rw[es] at h;obtain⟨r,ar,bd,e⟩:=aJZ h;refine⟨r,ar,bd,?_⟩;rw[<- sI z,es,e];rfl
theorem aBF:∀ {zs:List Str}{k:Nat},iF zs k=qz->∃ rs:List Rw,(∀ r∈rs,Ar r)/\(∀ r∈rs,Bd r)/\zs=rs.map bH
 | [],_,_=>⟨[],(λ r m=>by cases m),(λ r m=>by cases m),rfl⟩
 | z::l,k,h=>by
   unfold iF at h
   by_cases c:dZ (Txt.split z " ")=true
   ·rw[if_pos c] at h;obtain⟨r,ar,bd,rfl⟩:=aGg c;obtain⟨rs,a,b,rfl⟩:=aBF h;refine⟨r::rs,λ q m=>?_,λ q m=>?_,rfl⟩
    ·rcases List.mem_cons.mp m with rfl | m
     ·exact ar
     ·exact a q m
    ·rcases List.mem_cons.mp m with rfl | m
     ·exact bd
     ·exact b q m
   ·rw[if_neg c] at h;cases h
theorem aFj(d:Nat)(S:aC)(L:D):∀ (l:List Str) (aH:List D) (k j:Nat) (a2 a3 a4:Option W),(∀ z∈l,Ln z)->aH.length+l.length<=500->iF l k=qq j->∃ (e:aV) (acc':List D),
 mX (.many [2,3]) (xx (aG fns gns aE (d+3)).1 (aG fns gns aE (d+3)).2 aE jJ) (((l.map yAa).zipIdx k).map λ p=>yBb [.int (p.2:Nat),p.1]) [qq (.d L),qq (.loc S.length),a2,a3,a4] (S++[qq aH])=qq (.ex e "NoLine" (.int j),S++[qq acc'])
 | [],aH,k,j,a2,a3,a4,_,_,h=>by cases h
 | z::l,aH,k,j,a2,a3,a4,ln,hl,h=>by
   have hll:aH.length+(l.length+1)<=500:=hl;unfold iF at h
   by_cases c:dZ (Txt.split z " ")=true
   ·rw[if_pos c] at h;obtain⟨r,ar,bd,rfl⟩:=aGg c;obtain⟨e0,acc',ih⟩:=aFj d S L l (aH++[r.d]) (k+1) j (qq (.d (.int k))) (qq (.d (.str (bH r)))) (qq (.d r.d)) (λ q m=>ln q (xAf _ m)) (by simp;omega) h
    refine⟨e0,acc',?_⟩;have ri:bZ fns gns aE (d+3) 10 [.d (.str (bH r))] (S++[qq aH])=qq (.d r.d,S++[qq aH]):=(fK (d+2) 10 _ _ (by decide)).trans (aEH d r ar bd _)
    have ap:=sQ S aH r.d (by omega)
    have nn:=aGj r;show((xx (aG fns gns aE (d+3)).1 (aG fns gns aE (d+3)).2 aE jJ [qq (.d L),qq (.loc S.length),qq (.d (.int k)),qq (.d (.str (bH r))),a4] (S++[qq aH])).bind λ q=>_)=_
    have e:xx (aG fns gns aE (d+3)).1 (aG fns gns aE (d+3)).2 aE jJ [qq (.d L),qq (.loc S.length),qq (.d (.int k)),qq (.d (.str (bH r))),a4] (S++[qq aH])=qq (.fl (.nx [qq (.d L),qq (.loc S.length),qq (.d (.int k)),qq (.d (.str (bH r))),qq (.d r.d)]),S++[qq (aH++[r.d])]):=by
     generalize r.d=R at *;generalize bH r=Z at *;refine xk (dG (fl:=.nx [qq (.d L),qq (.loc S.length),qq (.d (.int k)),qq (.d (.str Z)),qq (.d R)]) (S1:=S++[qq aH]) (by simp only[evs,cS,ri])) ?_
     refine xk (fU (S1:=S++[qq aH]) (by simp only[evs,nn]) rfl) (xk (dG (fl:=.nx [qq (.d L),qq (.loc S.length),qq (.d (.int k)),qq (.d (.str Z)),qq (.d R)]) (S1:=S++[qq (aH++[R])]) (by simp only[evs,gK,ap])) rfl)
    rw[e,oB];exact ih
   ·rw[if_neg c] at h;cases h;have ri:bZ fns gns aE (d+3) 10 [.d (.str z)] (S++[qq aH])=qq (.d .none,S++[qq aH]):=(fK (d+2) 10 _ _ (by decide)).trans (aKa d z (ln z xAd) (Bool.eq_false_iff.mpr c) _)
    have nn:bA .Is .none .none=qq (.bool true):=rfl;refine⟨[qq (.d L),qq (.loc S.length),qq (.d (.int k)),qq (.d (.str z)),qq (.d .none)],aH,?_⟩;show((xx (aG fns gns aE (d+3)).1 (aG fns gns aE (d+3)).2 aE jJ [qq (.d L),qq (.loc S.length),qq (.d (.int k)),qq (.d (.str z)),a4] (S++[qq aH])).bind λ q=>_)=_
    have e:xx (aG fns gns aE (d+3)).1 (aG fns gns aE (d+3)).2 aE jJ [qq (.d L),qq (.loc S.length),qq (.d (.int k)),qq (.d (.str z)),a4] (S++[qq aH])=qq (.ex [qq (.d L),qq (.loc S.length),qq (.d (.int k)),qq (.d (.str z)),qq (.d .none)] "NoLine" (.int k),S++[qq aH]):=by
     refine xk (dG (fl:=.nx [qq (.d L),qq (.loc S.length),qq (.d (.int k)),qq (.d (.str z)),qq (.d .none)]) (S1:=S++[qq aH]) (by simp only[evs,cS,ri])) ?_
     exact eE (pR (S1:=S++[qq aH]) (by simp only[evs,nn]) (eE rfl))
    rw[e,oB]
theorem aJk(d:Nat)(zs:List Str)(ln:∀ z∈zs,Ln z)(lz:zs.length<=100)(j:Nat)(hj:iF zs 0=qq j)(S:aC):dI fns gns aE (d+4) 41 [.d (.list (zs.map yAa))] S=qq (.ex "NoLine" (.int j),S):=by
 rw[show dI fns gns aE (d+4) 41=dI fns gns aE (d+4) (fns.length+2) from rfl,oJ (x:=nU) rfl rfl (d+3) _ S rfl]
 obtain⟨e0,acc',lp⟩:=aFj d S (.list (zs.map yAa)) zs [] 0 j qz qz qz ln (by simp;omega) hj
 have it:lv (aG fns gns aE (d+3)).1 nS [qq (.d (.list (zs.map yAa))),qq (.loc S.length),qz,qz,qz] (S++[qq []])=qq (((zs.map yAa).zipIdx).map (λ p=>yBb [.int (p.2:Nat),p.1]),S++[qq []]):=by
  simp only[nS,qO];exact aDB (by simp only[evs])
 generalize (aG fns gns aE (d+3)).1=C at *;generalize (aG fns gns aE (d+3)).2=CX at *;generalize yBg (zs.map yAa)=L at *;unfold fG;show((xx C CX aE nU [qq (.d L),qz,qz,qz,qz] S).bind _)=_;have e:xx C CX aE nU [qq (.d L),qz,qz,qz,qz] S=qq (.ex e0 "NoLine" (.int j),S++[qq acc']):=by
  refine xk (dG (fl:=.nx [qq (.d L),qq (.loc S.length),qz,qz,qz]) (S1:=S++[qq []]) (by simp only[evs,gM])) ?_
  refine eE ?_;show mY (.many [2,3]) (lv C nS) (xx C CX aE jJ) _ _=_;unfold mY;rw[it,oB];exact lp
 rw[e,oB];show qq (ResX.ex "NoLine" (.int j),(S++_).take S.length)=_;rw[yEn]
noncomputable def iO(zs:List Str)(o:Str):Option Nat:=match iF zs 0 with
 | some k=>qq k
 | none=>if eG (Txt.split o " ")=true then qz else qq zs.length
noncomputable def fZ(zs:List Str)(o:Str):Str:=Txt.join "\n" (zs++[o])
theorem aMD{zs:List Str}{o:Str}(ln:∀ z∈zs,Ln z)(lo:Ln o)(lz:zs.length<=100):(fZ zs o).length<=500000:=by
 have j:=qE 10 (zs++[o]);have s:=lK (λ p:Str=>p.length) 2000 (zs++[o]) λ x m=>by
  rcases List.mem_append.mp m with m | m
  ·exact(ln x m).l
  ·rw[List.mem_singleton.mp m];exact lo.l
 have l:(zs++[o]).length<=101:=by simp;omega
 unfold fZ;rw[qW];omega
theorem aKW(d:Nat)(zs:List Str)(o:Str)(ln:∀ z∈zs,Ln z)(lo:Ln o)(lz:zs.length<=100)(j:Nat)(hj:iO zs o=qq j)(S:aC):dI fns gns aE (d+5) 42 [.d (.str (fZ zs o))] S=qq (.ex "NoLine" (.int j),S):=by
 rw[show dI fns gns aE (d+5) 42=dI fns gns aE (d+5) (fns.length+3) from rfl,oJ (x:=yR) rfl rfl (d+4) _ S rfl]
 have sp:∀ (C:Calls) e,ev C (.fz (.spl (.var 0) (.str "\n"))) (qq (.d (.str (fZ zs o)))::e) S=qq (.d (.list ((zs++[o]).map yAa)),S):=λ C e=>by
  refine tQ qW rfl (by simp) (λ p m=>?_) (xAg (aMD ln lo lz) (by decide))
  rcases List.mem_append.mp m with m | m
  ·exact(ln p m).n
  ·rw[List.mem_singleton.mp m];exact lo.n
 have em:(zs++[o]).map yAa=zs.map yAa++[.str o]:=by rw[yAn];rfl
 rw[em] at sp;have l1:cU [.list (zs.map yAa++[.str o])]=qq (.int ((zs.length+1:Nat):Int)):=by
  rw[cH];simp
 have e1:((zs.length+1:Nat):Int)-1=((zs.length:Nat):Int):=by omega
 have cf:cK (zs.map yAa++[.str o]) qz (qq ((zs.length:Nat):Int))=zs.map yAa:=by
  rw[qK];exact List.take_left' (by rw[yAb])
 have il:bC (.list (zs.map yAa++[.str o])) (.int ((zs.length:Nat):Int))=qq (.str o):=eR (by rw[yAd (by simp)];simp)
 have is:∀ z:Str,iZ .str (.str z)=qq (.bool true):=λ _=>rfl
 have nn:bA .Is .none .none=qq (.bool true):=rfl;have sp:=λ e=>sp (aG fns gns aE (d+4)).1 e
 cases hb:iF zs 0 with
 | some k =>
   unfold iO at hj;simp only[hb] at hj;cases hj;have ri:=aJk d zs ln lz j hb S;generalize fZ zs o=TX at *;generalize zs.map yAa++[.str o]=LL at *;generalize zs.map yAa=RL at *;have s1:xx (aG fns gns aE (d+4)).1 (aG fns gns aE (d+4)).2 aE (.set 3 41 (.cons (.sl (.var 1) .no (.cons (.var 2) .nil)) .nil)) [qq (.d (.str TX)),qq (.d (.list LL)),qq (.d (.int zs.length)),qz,qz,qz] S=qq (.ex [qq (.d (.str TX)),qq (.d (.list LL)),qq (.d (.int zs.length)),qz,qz,qz] "NoLine" (.int j),S):=by
    show jB 3 (iD (aG fns gns aE (d+4)).2 41 (av (aG fns gns aE (d+4)).1 (.cons (.sl (.var 1) .no (.cons (.var 2) .nil)) .nil))) _ S=_;have e:av (aG fns gns aE (d+4)).1 (.cons (.sl (.var 1) .no (.cons (.var 2) .nil)) .nil) [qq (.d (.str TX)),qq (.d (.list LL)),qq (.d (.int zs.length)),qz,qz,qz] S=qq ([.d (.list RL)],S):=by simp only[evs,cR,cL,cV,cf]
    unfold jB;rw[pW,e,oB,ri];rfl
   generalize (aG fns gns aE (d+4)).1=C at *;generalize (aG fns gns aE (d+4)).2=CX at *;refine lG (env:=[qq (.d (.str TX)),qz,qz,qz,qz,qz]) (e:=[qq (.d (.str TX)),qq (.d (.list LL)),qq (.d (.int zs.length)),qz,qz,qz]) rfl ?_;refine xk (fU (S1:=S) (by simp only[evs,is]) rfl) ?_
   refine xk (dG (fl:=.nx [qq (.d (.str TX)),qq (.d (.list LL)),qz,qz,qz,qz]) (S1:=S) (by simp only[oC,dO,sp,oB];rfl)) ?_
   refine xk (dG (fl:=.nx [qq (.d (.str TX)),qq (.d (.list LL)),qq (.d (.int zs.length)),qz,qz,qz]) (S1:=S) (by simp only[evs,l1,dW,e1])) ?_
   exact eE s1
 | none =>
   unfold iO at hj;simp only[hb] at hj;have hg:eG (Txt.split o " ")=false:=by
    by_cases c:eG (Txt.split o " ")=true
    ·rw[if_pos c] at hj;cases hj
    ·exact Bool.eq_false_iff.mpr c
   rw[hg,if_neg (by decide)] at hj
   cases hj;obtain⟨rs,ar,bd,er⟩:=aBF hb;have ri:dI fns gns aE (d+4) 41 [.d (.list (zs.map yAa))] S=qq (.ok (.d (.tuple (rs.map Rw.d))),S):=by
    have:=aD6 d rs ar bd (by rw[er,yAb] at lz;omega) S
    rw[er,yAx];exact this
   have oi:bZ fns gns aE (d+4) 11 [.d (.str o)] S=qq (.d .none,S):=(fK (d+3) 11 _ _ (by decide)).trans (aI1 (d+1) o lo hg S)
   generalize zs.length=n at *;generalize fZ zs o=TX at *;generalize zs.map yAa++[.str o]=LL at *;generalize zs.map yAa=RL at *;generalize yBb (rs.map Rw.d)=RT at *;have s1:xx (aG fns gns aE (d+4)).1 (aG fns gns aE (d+4)).2 aE (.set 3 41 (.cons (.sl (.var 1) .no (.cons (.var 2) .nil)) .nil)) [qq (.d (.str TX)),qq (.d (.list LL)),qq (.d (.int n)),qz,qz,qz] S=qq (.fl (.nx [qq (.d (.str TX)),qq (.d (.list LL)),qq (.d (.int n)),qq (.d RT),qz,qz]),S):=by
    show jB 3 (iD (aG fns gns aE (d+4)).2 41 (av (aG fns gns aE (d+4)).1 (.cons (.sl (.var 1) .no (.cons (.var 2) .nil)) .nil))) _ S=_;have e:av (aG fns gns aE (d+4)).1 (.cons (.sl (.var 1) .no (.cons (.var 2) .nil)) .nil) [qq (.d (.str TX)),qq (.d (.list LL)),qq (.d (.int n)),qz,qz,qz] S=qq ([.d (.list RL)],S):=by simp only[evs,cR,cL,cV,cf]
    unfold jB;rw[pW,e,oB,ri];rfl
   have s3:∀ e,ev (aG fns gns aE (d+4)).1 (.call 11 (.cons (.ix (.var 1) (.var 2)) .nil)) (qq (.d (.str TX))::qq (.d (.list LL))::qq (.d (.int n))::e) S=qq (.d .none,S):=λ e=>by simp only[evs,cS,il,oi]
   generalize (aG fns gns aE (d+4)).1=C at *;generalize (aG fns gns aE (d+4)).2=CX at *;refine lG (env:=[qq (.d (.str TX)),qz,qz,qz,qz,qz]) (e:=[qq (.d (.str TX)),qq (.d (.list LL)),qq (.d (.int n)),qq (.d RT),qq (.d .none),qz]) rfl ?_;refine xk (fU (S1:=S) (by simp only[evs,is]) rfl) ?_
   refine xk (dG (fl:=.nx [qq (.d (.str TX)),qq (.d (.list LL)),qz,qz,qz,qz]) (S1:=S) (by simp only[oC,dO,sp,oB];rfl)) ?_
   refine xk (dG (fl:=.nx [qq (.d (.str TX)),qq (.d (.list LL)),qq (.d (.int n)),qz,qz,qz]) (S1:=S) (by simp only[evs,l1,dW,e1])) ?_
   refine xk s1 ?_;refine xk (dG (fl:=.nx [qq (.d (.str TX)),qq (.d (.list LL)),qq (.d (.int n)),qq (.d RT),qq (.d .none),qz]) (S1:=S) (by simp only[oC,dO,s3,oB];rfl)) ?_
   exact eE (pR (S1:=S) (by simp only[evs,nn]) (eE rfl))
theorem aEi:∀ L:List Str,mL (L.map yAa)=true
 | []=>rfl
 | x::L=>aEi L
theorem aFP(x:Str):∀ L:List Str,rY (.str x) (L.map yAa)=L.contains x
 | []=>rfl
 | y::L=>by
   have h:=aFP x L;simp only[yAi,rY,h,yCe,yDd];rw[BEq.comm]
theorem aFT{x:Str}{L:List Str}{t:D}(hs:oW t=qq (L.map yAa)):bA .In (.str x) t=qq (.bool (L.contains x)):=by
 unfold bA jC;simp only[hs,oB];rw[if_pos ⟨rfl,aEi L⟩,aFP];rfl
theorem aI8(d:Nat)(x:Str)(ha:nK x)(hl:x.length<=2000)(S:aC):cl fns (d+1) 31 [.d (.str x)] S=qq (.d (.bool (cW x)),S):=by
 have ll:cU [.str x]=qq (.int x.length):=if_pos (by rw[qo];omega)
 refine cT rfl d rfl rfl yAf ?_;show xs (aF fns d) _ [qq (.d (.str x)),qz] S=_;have ff:=aKm (t:=.one 1) (fi:=lv (aF fns d) wL) (fb:=xs (aF fns d) aAv) (env:=[qq (.d (.str x)),qz]) (S:=S) (S1:=S) (λ e=>∃ a,e=[qq (.d (.str x)),a]) (.d (.bool false)) nC (λ c=>!eI ⟨#[c]⟩ FG) x.cps.toList
  (by simp only[evs,wL,rO]) ⟨qz,rfl⟩ λ c _ env aM=>by
    obtain⟨a,he⟩:=aM;subst he;refine⟨[qq (.d (.str x)),qq (.d (.str ⟨#[c]⟩))],rfl,λ h=>?_,λ h=>?_⟩
    ·have fi:lW true (.str ⟨#[c]⟩) (.str "0123456789")=qq (.bool (!eI ⟨#[c]⟩ FG)):=aCf c true;rw[h] at fi;exact cF (S1:=S) (by simp only[evs,kX,fi]) (bG (by simp only[evs]))
    ·have fi:lW true (.str ⟨#[c]⟩) (.str "0123456789")=qq (.bool (!eI ⟨#[c]⟩ FG)):=aCf c true;rw[h] at fi;exact⟨[qq (.d (.str x)),qq (.d (.str ⟨#[c]⟩))],bS (S1:=S) (by simp only[evs,kX,fi]) rfl,_,rfl⟩
 have ea:(x.cps.toList.any λ c=>!eI ⟨#[c]⟩ FG) = !(x.cps.toList.all λ c=>eI ⟨#[c]⟩ FG):=by rw[List.not_all_eq_any_not]
 rw[ea] at ff;unfold cW;cases hb:(x.cps.toList.all λ c=>eI ⟨#[c]⟩ FG) with
 | false =>
   rw[hb] at ff;have f1:=ff.1 rfl;rw[yFm];show dA _ _ _ _=_;unfold dA;have f1':xs (aF fns d) (.loop (.one 1) wL aAv) [qq (.d (.str x)),qz] S=_:=f1;rw[f1',oB]
 | true =>
   rw[hb] at ff;obtain⟨aO,f2,a,rfl⟩:=ff.2 rfl;rw[yFs];refine dY (e1:=[qq (.d (.str x)),a]) (S1:=S) f2 (bG ?_)
   by_cases c1:1<=x.length
   ·have d1:decide ((1:Int)<=((x.length:Nat):Int))=true:=dqT (by omega)
    by_cases c2:x.length<=20
    ·have d2:decide (((x.length:Nat):Int)<=20)=true:=dqT (by omega)
     obtain⟨c,r,ec⟩:∃ c r,x.cps.toList=c::r:=by
      cases e:x.cps.toList with
      | nil =>
        have el:x.cps.toList.length=x.length:=yAm;rw[e] at el;simp at el;omega
      | cons c r=>exact⟨c,r,rfl⟩
     have i0:=aBK ec (by omega)
     have oc:yBs ⟨#[c]⟩=true:=tB λ a m=>by
      have:a=c:=by simpa using m
      rw[this];exact ha c (by rw[ec];exact xAd)
     have e0:=sY oc zU;have e1:=tE ha.ok zU;rw[aG1] at e0;have eh:x.cps.toList.head? = qq c:=by rw[ec];rfl
     rw[eh,dqT c1,dqT c2];generalize (qq c==qq 48)=b1 at *;generalize (x == "0")=b2 at *;cases b1<;>cases b2<;>simp only[evs,ll,lJ,d1,d2,i0,e0,e1,yCl,yBn]
    ·have d2:decide (((x.length:Nat):Int)<=20)=false:=dqF (by omega)
     rw[dqF c2,yFm,yBn];simp only[evs,ll,lJ,d1,d2]
   ·have d1:decide ((1:Int)<=((x.length:Nat):Int))=false:=dqF (by omega)
    rw[dqF c1,yBn,yBn];simp only[evs,ll,lJ,d1]
noncomputable def uQ(w:Str):Nat:=match nB w with
 | some wd=>1+eB wd
 | none=>99
noncomputable def sC:List Str:=["num", "not", "cut", "wide", "sign"]
noncomputable def mD:List Str:=["and", "or", "xor", "add", "sub", "mul", "same", "less", "under", "left", "right", "slide"]
noncomputable def aCQ(w:Str):Nat:=if (w == "in")=true then 1 else if sC.contains w=true then 2 else if (w == "pick")=true then 4 else if mD.contains w=true then 3 else 99
theorem aLG(w:Str):aCQ w=uQ w:=by
 unfold uQ;cases h:nB w with
 | some wd =>
   obtain rfl:=aFV h;cases wd<;>kernel_rfl
 | none =>
   have hn:∀ wd:Wd,(w==wd.s)=false:=λ wd=>by
    have:=List.find?_eq_none.mp h wd (by cases wd<;>decide)
    simpa using this
   have h2:sC.contains w=false:=by
    simp only[sC,yDd,List.contains_nil,Bool.or_false];rw[show(w == "num")=false from hn .num,show(w == "not")=false from hn .not,show(w == "cut")=false from hn .cut,show(w == "wide")=false from hn .wide,show(w == "sign")=false from hn .sign]
    rfl
   have h3:mD.contains w=false:=by
    simp only[mD,yDd,List.contains_nil,Bool.or_false];rw[show(w == "and")=false from hn .and,show(w == "or")=false from hn .or,show(w == "xor")=false from hn .xor,show(w == "add")=false from hn .add,show(w == "sub")=false from hn .sub,show(w == "mul")=false from hn .mul,show(w == "same")=false from hn .same,show(w == "less")=false from hn .less,show(w == "under")=false from hn .under,show(w == "left")=false from hn .left,show(w == "right")=false from hn .right,show(w == "slide")=false from hn .slide]
    rfl
   unfold aCQ;rw[h2,h3,show(w == "in")=false from hn .in,show(w == "pick")=false from hn .pick]
   rfl
theorem aRH:Txt.split "and or xor add sub mul same less under left right slide" " " = mD:=by decide +kernel
theorem aLt(d:Nat)(w:Str)(ha:nK w)(S:aC):cl fns (d+1) 32 [.d (.str w)] S=qq (.d (.int (uQ w:Nat)),S):=by
 rw[<- aLG];have e1:bA .Eq (.str w) (.str "in")=qq (.bool (w == "in")):=tE ha.ok (by kernel_rfl)
 have e2:bA .In (.str w) (.tuple [.str "num",.str "not",.str "cut",.str "wide",.str "sign"])=qq (.bool (sC.contains w)):=aFT (L:=sC) rfl;have e3:bA .Eq (.str w) (.str "pick")=qq (.bool (w == "pick")):=tE ha.ok (by kernel_rfl)
 have e4:bA .In (.str w) (.list (mD.map yAa))=qq (.bool (mD.contains w)):=aFT (L:=mD) rfl;have y0:((" " : Str).length==0)=false:=by decide
 have hz:("and or xor add sub mul same less under left right slide" : Str).length+2<=qk:=by rw[qo];decide
 refine cT rfl d rfl rfl yAf ?_;show xs (aF fns d) _ [qq (.d (.str w)),qz] S=_;unfold aCQ;generalize (w == "in")=b1 at *;generalize sC.contains w=b2 at *;generalize (w == "pick")=b3 at *;generalize mD.contains w=b4 at *;cases b1 with
 | true=>exact cF (S1:=S) (by simp only[evs,e1]) (bG (by simp only[evs];rfl))
 | false =>
   refine bS (S1:=S) (by simp only[evs,e1]) ?_
   cases b2 with
   | true=>exact cF (S1:=S) (by simp only[evs,e2]) (bG (by simp only[evs];rfl))
   | false =>
     refine bS (S1:=S) (by simp only[evs,e2]) ?_
     cases b3 with
     | true=>exact cF (S1:=S) (by simp only[evs,e3]) (bG (by simp only[evs];rfl))
     | false =>
       refine bS (S1:=S) (by simp only[evs,e3]) (bM (w:=.d (.str "and or xor add sub mul same less under left right slide")) (S1:=S) rfl rfl ?_)
       have tt:tv (aF fns d) (.cmp .In (.var 0) (.fz (.spl (.var 1) (.str " ")))) [qq (.d (.str w)),qq (.d (.str "and or xor add sub mul same less under left right slide"))] S=qq (b4,S):=by
        simp only[evs,nA,nE,y0,hz,and_self,aRH];generalize mD.map yAa=L3 at *;simp only[evs,e4]
       cases b4 with
       | true=>exact cF tt (bG (by simp only[evs];rfl))
       | false=>exact bS tt (bG (by simp only[evs];rfl))
theorem aKJ(d:Nat)(z:Str)(h:Ln z)(last:Bool)(S:aC):cl fns (d+2) 33 [.d (.list ((Txt.split z " ").map yAa)),.d (.bool last)] S=qq (.d (.bool (if last=true then eG (Txt.split z " ") else dZ (Txt.split z " "))),S):=by
 obtain⟨w,t,es⟩:=sJ z;have hp:=h.part;have hs:=h.s;rw[es] at hp hs ⊢;have hs:t.length+1<=60:=hs;have i0:bC (.list ((w::t).map yAa)) (.int 0)=qq (.str w):=eR (k:=0) rfl;have ll:cU [.list ((w::t).map yAa)]=qq (.int ((t.length+1:Nat):Int)):=by
  rw[cH,yAb,yBf]
 have e1:((t.length+1:Nat):Int)-1=((t.length:Nat):Int):=by omega
 have cf:cK ((w::t).map yAa) (qq 1) qz=t.map yAa:=hV _ 1;have lf:cU [.list ((t.filter cW).map yAa)]=qq (.int (((t.filter cW).length:Nat):Int)):=by rw[cH,yAb]
 have lnw:=aLt d w (hp w xAd).1 S;have eo:bA .Eq (.str w) (.str "out")=qq (.bool (w == "out")):=tE (hp w xAd).1.ok (by kernel_rfl)
 refine cT rfl (d+1) rfl rfl yAf ?_;show xs (aF fns (d+1)) _ [qq (.d (.list ((w::t).map yAa))),qq (.d (.bool last)),qz,qz] S=_;have hc:lv (aF fns (d+1)) aDg [qq (.d (.list ((w::t).map yAa))),qq (.d (.bool last)),qz,qz] S=qq ((t.filter cW).map yAa,S):=by
  refine aET (fi:=lv (aF fns (d+1)) (.it (.sl (.var 0) (.cons (.int 1) .nil) .no))) (fc:=tv (aF fns (d+1)) (.call 31 (.cons (.var 3) .nil))) (fe:=ev (aF fns (d+1)) (.var 3)) yAa yAa cW t ?_ (by rw[qo];omega) λ a ha=>?_
  ·generalize (w::t).map yAa=P at *;simp only[evs,dP,cR,cL,cV,cf]
  ·refine⟨_,rfl,λ S'=>?_,λ _ S'=>?_⟩
   ·have:=aI8 d a (hp a (xAf _ ha)).1 (hp a (xAf _ ha)).2 S';simp only[evs,clr,yAj,yAl,this]
   ·simp only[evs,clr,yAj,yAl]
 refine dY (e1:=[qq (.d (.list ((w::t).map yAa))),qq (.d (.bool last)),qq (.d (.list ((t.filter cW).map yAa))),qz]) (S1:=S) ?_ ?_
 ·simp only[xB,dO,gE,hc,oB];rfl
 have fl:(t.filter cW).length<=t.length:=List.length_filter_le _ _
 by_cases ha:t.all cW=true
 ·have ff:t.filter cW=t:=List.filter_eq_self.mpr λ a m=>List.all_eq_true.mp ha a m
  rw[ff] at lf ⊢;refine bS (S1:=S) ?_ ?_
  ·generalize (w::t).map yAa=P at *;generalize t.map yAa=P2 at *;simp only[evs,ll,lf,dW,e1,qT,beq_self_eq_true]
  cases last with
  | true =>
    refine cF (S1:=S) (by simp only[evs]) (bG ?_)
    show _=qq (W.d (.bool (eG (w::t))),S);have:eG (w::t)=((w == "out")&&(decide (1<=t.length)&&decide (t.length<=8))):=by
     unfold eG;simp only[ha,yFs]
    rw[this];generalize (w::t).map yAa=P at *;generalize t.map yAa=P2 at *;cases hb:(w == "out") with
    | false =>
      rw[hb] at eo;simp only[evs,i0,eo,yBn]
    | true =>
      rw[hb] at eo;rw[yCl]
      by_cases c1:1<=t.length
      ·have d1:decide ((1:Int)<=((t.length:Nat):Int))=true:=dqT (by omega)
       have d2:decide (((t.length:Nat):Int)<=8)=decide (t.length<=8):=by rw[decide_eq_decide];omega
       rw[dqT c1,<- d2,yCl];simp only[evs,i0,eo,lf,lJ,d1]
      ·have d1:decide ((1:Int)<=((t.length:Nat):Int))=false:=dqF (by omega)
       rw[dqF c1,yBn];simp only[evs,i0,eo,lf,lJ,d1]
  | false =>
    refine bS (S1:=S) (by simp only[evs]) (bG ?_)
    show _=qq (W.d (.bool (dZ (w::t))),S);have:dZ (w::t)=(((t.length:Nat):Int)==((uQ w:Nat):Int)):=by
     unfold dZ uQ;cases hw:nB w with
     | some wd =>
       simp only[hw,ha,yCl];rw[Bool.eq_iff_iff,beq_iff_eq,beq_iff_eq];omega
     | none =>
       simp only[hw]
       symm
       rw[beq_eq_false_iff_ne];omega
    rw[this];generalize (w::t).map yAa=P at *;generalize t.map yAa=P2 at *;simp only[evs,i0,lf,lnw,cG]
 ·have hne:(t.filter cW).length≠t.length:=λ e=>ha (List.all_eq_true.mpr (List.length_filter_eq_length_iff.mp e))
  have e2:(!((((t.filter cW).length:Nat):Int)==((t.length:Nat):Int)))=true:=by
   rw[yDn,beq_eq_false_iff_ne];omega
  have r:(if last=true then eG (w::t) else dZ (w::t))=false:=by
   have hf:=Bool.eq_false_iff.mpr ha;cases last
   ·show dZ (w::t)=false;unfold dZ;cases hw:nB w with
    | some wd=>simp only[hw,hf,yBn]
    | none=>simp only[hw]
   ·show eG (w::t)=false;unfold eG;simp only[hf,yFm,yBn]
  rw[r];refine cF (S1:=S) ?_ (bG (by simp only[evs]))
  generalize (w::t).map yAa=P at *;generalize (t.filter cW).map yAa=P2 at *;simp only[evs,ll,lf,dW,e1,qT,e2]
theorem aDK{α:Type}{t:Tg}{fb:FS}{S:aC}(P:aV->Prop)(r:α->W)(enc:α->D)(bad:α->Bool):∀ (l:List α) (env:aV),P env->(∀ a∈l,∀ env,P env->∃ e1,t.put (enc a) env=qq e1/\(bad a=true->fb e1 S=qq (.rt (r a),S))/\(bad a=false->∃ aO,fb e1 S=qq (.nx aO,S)/\P aO)) ->
 (∀ a,l.find? bad=qq a->eJ t fb (l.map enc) env S=qq (.rt (r a),S))/\(l.find? bad=qz->∃ aO,eJ t fb (l.map enc) env S=qq (.nx aO,S)/\P aO)
 | [],env,h0,_=>⟨λ _ h=>(by cases h),λ _=>⟨env,rfl,h0⟩⟩
 | a::l,env,h0,h=>by
   obtain⟨e1,h1,h2,h3⟩:=h a xAd env h0;cases c:bad a with
   | true =>
     rw[yDk,c];refine⟨λ b hb=>?_,λ h=>by cases h⟩
     cases hb;simp only[yAi,eJ,h1,oB,h2 c]
   | false =>
     obtain⟨aO,h4,h5⟩:=h3 c;obtain⟨h6,h7⟩:=aDK P r enc bad l aO h5 λ x hx=>h x (xAf _ hx)
     rw[yDk,c];refine⟨λ b q=>?_,λ q=>?_⟩
     ·simp only[yAi,eJ,h1,oB,h4];exact h6 b q
     ·obtain⟨env2,h8,h9⟩:=h7 q;refine⟨env2,?_,h9⟩;simp only[yAi,eJ,h1,oB,h4];exact h8
theorem aEr(f:Nat->Bool):∀ (zs:List Str) (k:Nat),(∀ i z,zs[i]? = qq z->f (k+i) = !dZ (Txt.split z " "))->(List.range' k zs.length).find? f=iF zs k
 | [],_,_=>rfl
 | z::zs,k,h=>by
   have h0:f k = !dZ (Txt.split z " "):=h 0 z rfl;have ih:=aEr f zs (k+1) λ i y hy=>by
    have:=h (i+1) y hy;rw[show k+1+i=k+(i+1) by omega]
    exact this
   show(k::List.range' (k+1) zs.length).find? f=iF (z::zs) k;unfold iF;rw[yDk,h0];cases c:dZ (Txt.split z " ") with
   | true=>exact ih
   | false=>rfl
theorem aMt(f:Nat->Bool)(zs:List Str)(o:Str)(h:∀ i z,zs[i]? = qq z->f i = !dZ (Txt.split z " "))(ho:f zs.length = !eG (Txt.split o " ")):(yAw (zs.length+1)).find? f=iO zs o:=by
 have e:=aEr f zs 0 λ i z q=>by rw[yEs];exact h i z q
 rw[List.range_succ,List.find?_append,yFb,e];unfold iO;cases iF zs 0 with
 | some k=>rfl
 | none =>
   show([zs.length].find? f)=_;rw[yDk,ho];cases eG (Txt.split o " ")<;>rfl
noncomputable def aRu:Option Nat->Int
 | some j=>(j:Nat)
 | none=>-1
def vZ(w:W)(L:List Str)(S:aC):Prop:=w=.d (.list (L.map yAa))\/∃ n,w=.loc n/\S[n]? = qq (qq (L.map yAa))
theorem aFk(d:Nat)(w:W)(zs:List Str)(o:Str)(ln:∀ z∈zs,Ln z)(lo:Ln o)(lz:zs.length<=100)(S:aC)(hw:vZ w (zs++[o]) S):cl fns (d+3) 34 [w] S=qq (.d (.int (aRu (iO zs o))),S):=by
 have hd:=hw;unfold vZ at hd;have em:((zs++[o]).map yAa).length=zs.length+1:=by simp
 have l1:cU [.list ((zs++[o]).map yAa)]=qq (.int ((zs.length+1:Nat):Int)):=by
  rw[cH,em]
 have e1:((zs.length+1:Nat):Int)-1=((zs.length:Nat):Int):=by omega
 refine cT rfl (d+2) rfl rfl yAf ?_;show xs (aF fns (d+2)) _ [qq w,qz] S=_;have ix:∀ i z,(zs++[o])[i]? = qq z->bC (.list ((zs++[o]).map yAa)) (.int ((i:Nat):Int))=qq (.str z):=λ i z q=>eR (by rw[xAb,q];rfl)
 have lns:∀ z∈zs++[o],Ln z:=λ z m=>by
  rcases List.mem_append.mp m with m | m
  ·exact ln z m
  ·rw[List.mem_singleton.mp m];exact lo
 let bad:Nat->Bool:=λ i=>match (zs++[o])[i]? with
  | some z=>!(if (((i:Nat):Int)==((zs.length:Nat):Int))=true then eG (Txt.split z " ") else dZ (Txt.split z " "))
  | none=>false
 have ff:=aDK (t:=.one 1) (fb:=xs (aF fns (d+2)) wG) (S:=S) (λ e=>∃ a,e=[qq w,a]) (λ i=>.d (.int ((i:Nat):Int))) (λ i:Nat=>yAp ((i:Nat):Int)) bad (yAw (zs.length+1)) [qq w,qz] ⟨qz,rfl⟩ λ i mi env aM=>by
  obtain⟨a,he⟩:=aM;subst he;have hi:=List.mem_range.mp mi;obtain⟨z,hz⟩:∃ z,(zs++[o])[i]? = qq z:=⟨_,yAc (by simp;omega)⟩
  have lz':=lns z (xAi hz);have hx:=ix i z hz;have lg:=aKJ d z lz' (((i:Nat):Int)==((zs.length:Nat):Int)) S;have hb:bad i = !(if (((i:Nat):Int)==((zs.length:Nat):Int))=true then eG (Txt.split z " ") else dZ (Txt.split z " ")):=by
   show(match (zs++[o])[i]? with | some z=>_ | none=>_)=_
   rw[hz]
  have y0:((" " : Str).length==0)=false:=by decide
  have hzz:z.length+2<=qk:=by have:=lz'.l;rw[qo];omega
  have tt:tv (aF fns (d+2)) (.not (.call 33 (.cons (.fz (.spl (.ix (.var 0) (.var 1)) (.str " "))) (.cons (.cmp .Eq (.var 1) (.bin .Sub (.blt .len (.cons (.var 0) .nil)) (.int 1))) .nil)))) [qq w,qq (.d (.int ((i:Nat):Int)))] S=qq (bad i,S):=by
   rw[hb];generalize (if (((i:Nat):Int)==((zs.length:Nat):Int))=true then eG (Txt.split z " ") else dZ (Txt.split z " "))=g at *
   have esp:∃ q,q=(Txt.split z " ").map yAa:=⟨_,rfl⟩;obtain⟨SP,esp⟩:=esp;rw[<- esp] at lg;generalize (zs++[o]).map yAa=LL at *;rcases hd with rfl | ⟨n,rfl,hd⟩
   ·simp only[evs,l1,e1,dW,cG,hx,nA,nE,y0,hzz,and_self,<- esp,lg]
   ·simp only[evs,hd,l1,e1,dW,cG,hx,nA,nE,y0,hzz,and_self,<- esp,lg]
  refine⟨[qq w,qq (.d (.int ((i:Nat):Int)))],rfl,λ h=>?_,λ h=>?_⟩
  ·rw[h] at tt;exact cF tt (bG (by simp only[evs]))
  ·rw[h] at tt;exact⟨[qq w,qq (.d (.int ((i:Nat):Int)))],bS tt rfl,_,rfl⟩
 have it:lv (aF fns (d+2)) wH [qq w,qz] S=qq ((yAw (zs.length+1)).map (λ i:Nat=>yAp ((i:Nat):Int)),S):=by
  simp only[wH,nZ];refine mG ?_ (by omega)
  generalize (zs++[o]).map yAa=LL at *;rcases hd with rfl | ⟨n,rfl,hd⟩
  ·simp only[evs,l1]
  ·simp only[evs,hd,l1]
 have fe:(yAw (zs.length+1)).find? bad=iO zs o:=by
  refine aMt bad zs o (λ i z hz=>?_) ?_
  ·have hi:i<zs.length:=(gIm hz).1;show(match (zs++[o])[i]? with | some z=>_ | none=>_)=_
   rw[xAj hi,hz];have:(((i:Nat):Int)==((zs.length:Nat):Int))=false:=by rw[beq_eq_false_iff_ne];omega
   simp only[this,yAz,if_false]
  ·show(match (zs++[o])[zs.length]? with | some z=>_ | none=>_)=_
   rw[yAd (yAe _),yCv];simp only[yBq,beq_self_eq_true,if_true]
 rw[fe] at ff;have lp:∀ {r},eJ (.one 1) (xs (aF fns (d+2)) wG) ((yAw (zs.length+1)).map (λ i:Nat=>yAp ((i:Nat):Int))) [qq w,qz] S=r->xs (aF fns (d+2)) (.loop (.one 1) wH wG) [qq w,qz] S=r:=λ {r} h=>by
  show gZ _ _ _ _ _=r;unfold gZ;rw[it,oB];exact h
 cases hf:iO zs o with
 | some j =>
   have:=lp (ff.1 j hf);show dA _ _ _ _=_;unfold dA;rw[this,oB];rfl
 | none =>
   obtain⟨aO,f2,a,rfl⟩:=ff.2 hf;exact dY (e1:=[qq w,a]) (S1:=S) (lp f2) (bG (by simp only[evs];rfl))
structure Pt(n:Nat)(z:Str):Prop where
 c:∀ c∈z.cps.toList,c≠10/\c≠32/\c<1114112
 l:z.length<=n
structure Lc(a b:Nat)(z:Str):Prop where
 c:∀ c∈z.cps.toList,c≠10/\c<1114112
 l:z.length<=a
 s:z.cps.toList.count 32<=b
theorem kH(x y:Str):(x++y).cps.toList=x.cps.toList++y.cps.toList:=by
 rw[Str.cps_append,yFh]
theorem oA(x y:Str):(x++y).length=x.length+y.length:=by
 have h:(x++y).cps.toList.length=(x.cps.toList++y.cps.toList).length:=congrArg yFq (kH x y);rw[yAr,yAm,yAm,yAm] at h;exact h
theorem Pt.app{a b:Nat}{x y:Str}(h:Pt a x)(g:Pt b y):Pt (a+b) (x++y):=⟨λ c m=>by
 rw[kH] at m;rcases List.mem_append.mp m with m | m
 ·exact h.c c m
 ·exact g.c c m,by
 have h1:=h.l;have h2:=g.l;rw[oA];omega⟩
theorem Pt.mono{a b:Nat}{x:Str}(h:Pt a x)(hab:a<=b):Pt b x:=⟨h.c,xAg h.l hab⟩
theorem Lc.app{a b a' b':Nat}{x y:Str}(h:Lc a b x)(g:Lc a' b' y):Lc (a+a') (b+b') (x++y):=⟨λ c m=>by
 rw[kH] at m;rcases List.mem_append.mp m with m | m
 ·exact h.c c m
 ·exact g.c c m,by
 have h1:=h.l;have h2:=g.l;rw[oA];omega,by
 have h1:=h.s;have h2:=g.s;rw[kH,yCu];omega⟩
theorem aBf{c:Nat}:∀ {as:List (List Nat)},(∀ a∈as,c ∉ a)->(jl c as).count c=as.length-1
 | [],_=>rfl
 | [a],h=>List.count_eq_zero.mpr (h a xAd)
 | a::b::r,h=>by
   have i:=aBf (as:=b::r) λ x m=>h x (xAf _ m)
   show(a++c::jl c (b::r)).count c=_;rw[yCu,List.count_cons_self,i,List.count_eq_zero.mpr (h a xAd)];simp
theorem Lc.ln{a b:Nat}{z:Str}(h:Lc a b z)(ha:a<=2000)(hb:b<=59):Ln z:=⟨λ c m=>(h.c c m).2,λ m=>(h.c 10 m).1 rfl,xAg h.l ha,by
 have e:=aBf (c:=32) (as:=(Txt.split z " ").map λ p=>p.cps.toList) λ a m=>by
  obtain⟨p,mp,rfl⟩:=List.mem_map.mp m;rw[fN] at mp;exact StrLaws.split_free _ 32 p mp
 rw[<- mJ,<- fN,sI,yAb] at e;have:=h.s;omega⟩
theorem Lc.join{n:Nat}{ps:List Str}(h:∀ p∈ps,Pt n p):Lc (ps.length*(n+1)) ps.length (Txt.join " " ps):=⟨λ c m=>by
 rw[fN] at m;rcases wY m with z | ⟨x,mx,z⟩
 ·subst z;decide
 ·exact⟨((h x mx).c c z).1,((h x mx).c c z).2.2⟩,by
 have j:=qE 32 ps;have s:=lK (λ p:Str=>p.length) n ps λ x m=>(h x m).l
 rw[fN,Nat.mul_succ];omega,by
 rw[fN,mJ,aBf λ a m=>?_,yAb]
 ·omega
 ·obtain⟨p,mp,rfl⟩:=List.mem_map.mp m;exact λ z=>((h p mp).c 32 z).2.1 rfl⟩
theorem aA6{n:Nat}{ps:List Str}(h:∀ p∈ps,Pt n p)(hn:n<=100)(hl:ps.length<=100):(ps.map (·.length)).sum+ps.length<=1000000:=by
 have s:=lK (λ p:Str=>p.length) n ps λ x m=>(h x m).l
 have:ps.length*n<=100*100:=Nat.mul_le_mul hl hn;omega
theorem lI{p:Str×List Nat}(h:LnOk p):∀ x∈aY p,Pt 20 x:=λ x m=>⟨λ c mc=>by
 rcases List.mem_cons.mp m with rfl | m
 ·have:=h.c c mc;omega
 ·obtain⟨n,_,rfl⟩:=List.mem_map.mp m;have:=qJ n c mc;omega,aFn h x m⟩
theorem aB6{p:Str×List Nat}(h:LnOk p):(aY p).length<=9:=by
 have:=h.l;unfold aY;simp;omega
theorem aBR{p:Str×List Nat}(h:LnOk p):Lc 200 9 (aN p):=by
 have j:=Lc.join (lI h);have l:=aB6 h;exact⟨j.c,aBE h,xAg j.s l⟩
theorem aK4{p:Str×List Nat}(h:LnOk p):Txt.split (aN p) " " = aY p:=by
 unfold aN;rw[fN];refine aDP (by unfold aY;simp) λ x m z=>((lI h x m).c 32 z).2.1 rfl
theorem aGc(z a b:Str):Builtin.Str.glued z [a,b]=a++z++b:=rfl
theorem aJK(x y z:Str):jQ x y z=x\/∃ a b:Str,x=a++y++b/\jQ x y z=a++z++b:=by
 unfold jQ
 split
 ·exact .inl rfl
 ·rename_i hc
  right
  have h1:=StrLaws.occ_length_le x y 0 x.length 1;have h2:=StrLaws.glued_between_self x y 1;have h3:=length_partsBetween x (Builtin.Str.occurrences x y 0 x.length 1) y.length;have h4:(Builtin.Str.occurrences x y 0 x.length 1).length=1:=by
   cases e:Builtin.Str.occurrences x y 0 x.length 1 with
   | nil=>rw[e] at hc;simp at hc
   | cons a r=>rw[e] at h1;simp at h1 ⊢;exact h1
  rw[h4] at h3;cases e:Builtin.Str.partsBetween x (Builtin.Str.occurrences x y 0 x.length 1) y.length with
  | nil=>rw[e] at h3;cases h3
  | cons a r =>
    rw[e] at h3 h2;cases r with
    | nil=>simp at h3
    | cons b r =>
      cases r with
      | nil=>exact⟨a,b,by rw[aGc] at h2;exact h2.symm,aGc _ _ _⟩
      | cons c r=>simp at h3
theorem aOg{a b:Nat}{x:Str}(h:Lc a b x):Lc (a+2) (b+2) (jQ x " " "  "):=by
 rcases aJK x " " "  " with e | ⟨p,q,e1,e2⟩
 ·rw[e];exact⟨h.c,xAg h.l (by omega),xAg h.s (by omega)⟩
 ·rw[e2];have hc:=h.c;have hl:=h.l;have hs:=h.s;rw[e1,kH,kH] at hc hs;rw[e1,oA,oA] at hl;rw[yCu,yCu] at hs;have k2:("  " : Str).cps.toList.count 32=2:=by decide +kernel
  have l2:("  " : Str).length=2:=by decide
  refine⟨λ c m=>?_,?_,?_⟩
  ·rw[kH,kH] at m;rcases List.mem_append.mp m with m | m
   ·rcases List.mem_append.mp m with m | m
    ·exact hc c (yBx _ (yBx _ m))
    ·exact(by decide +kernel:∀ c∈("  " : Str).cps.toList,c≠10/\c<1114112) c m
   ·exact hc c (xAk _ m)
  ·rw[oA,oA];omega
  ·rw[kH,kH,yCu,yCu];omega
theorem aJ7{x:Str}{l u:Option Int}:∀ c∈(Txt.slice x l u).cps.toList,c∈x.cps.toList:=λ c m=>by
 unfold Txt.slice at m
 split at m
 ·exact m
 ·obtain⟨i,_,e⟩:=List.mem_filterMap.mp (show c∈List.filterMap _ _ from m)
  exact Array.mem_toList_iff.mpr (Array.mem_of_getElem? e)
theorem Pt.slice{n:Nat}{x:Str}(h:Pt n x)(l u:Option Int):Pt n (Txt.slice x l u):=⟨λ c m=>h.c c (aJ7 c m),xAg (Txt.slice_le x l u) h.l⟩
theorem aEy{n:Int}(h:n.toNat<=30):Pt 30 (Txt.mul "0" n):=by
 have e:(Txt.mul "0" n).cps.toList=yAh n.toNat 48:=by
  rw[show("0" : Str)=⟨#[48]⟩ by decide]
  exact PyProof.Rows.mul_one_list 48 n
 refine⟨λ c m=>?_,?_⟩
 ·rw[e] at m;rw[(List.mem_replicate.mp m).2];decide
 ·have:(Txt.mul "0" n).cps.toList.length=(Txt.mul "0" n).length:=yAm;rw[<- this,e,yDg];exact h
theorem iQ{x y:Str}(h:x.length+y.length<=1000000):bK .Add (.str x) (.str y)=qq (.str (x++y)):=by
 show(if x.length+y.length<=qk then qq (yAa (x++y)) else qz)=_
 rw[if_pos (by rw[qo];omega)]
theorem aEx(C:Calls)(S:aC)(P:D):∀ (ps:List (Str×List Nat)) (aH:List Str) (a2:Option W),(∀ p∈ps,LnOk p)->aH.length+ps.length<=500->∃ a2':Option W,
 eJ (.one 2) (xs C pV) (ps.map cX) [qq (.d P),qq (.loc S.length),a2,qz] (S++[qq (aH.map yAa)])=qq (.nx [qq (.d P),qq (.loc S.length),a2',qz],S++[qq ((aH++ps.map aN).map yAa)])
 | [],aH,a2,_,_=>⟨a2,by rw[yCh,yCh,yAv];rfl⟩
 | p::ps,aH,a2,h,hl=>by
   have hp:=h p xAd;have hll:aH.length+(ps.length+1)<=500:=hl;obtain⟨b2,ih⟩:=aEx C S P ps (aH++[aN p]) (qq (.d (cX p))) (λ q m=>h q (xAf _ m)) (by simp;omega)
   refine⟨b2,?_⟩;have js:=mK vQ (ps:=aY p) (xAg (aBM hp) (by decide))
   have ap:=sQ S (aH.map yAa) (.str (aN p)) (by simp;omega)
   have i0:bC (cX p) (.int 0)=qq (.str p.1):=qG (k:=0) rfl;have ea:aH.map yAa++[yAa (aN p)]=(aH++[aN p]).map yAa:=by rw[yAn];rfl
   rw[ea] at ap;have el:aH++aN p::ps.map aN=(aH++[aN p])++ps.map aN:=by simp
   have hpl:=hp.l;have hc:lv C aDk [qq (.d P),qq (.loc S.length),qq (.d (cX p)),qz] (S++[qq (aH.map yAa)])=qq (p.2.map (λ n=>yAa (bJ n)),S++[qq (aH.map yAa)]):=by
    refine fW (fi:=lv C (.it (.sl (.var 2) (.cons (.int 1) .nil) .no))) (fe:=ev C (.st1 (.var 3))) nD (λ n=>yAa (bJ n)) p.2 ?_ (by rw[qo];omega) λ a ha=>?_
    ·have cf:cK (yAa p.1::p.2.map nD) (qq 1) qz=p.2.map nD:=hV _ 1;unfold cX;generalize p.2.map nD=NL at *;simp only[evs,dP,cR,cL,cV,cf]
    ·refine⟨_,rfl,λ S'=>?_⟩
     have sn:=aFa (hp.n a ha);simp only[evs,clr,yAj,yAl,nD,sn]
   have ct:bK .Add (.list [.str p.1]) (.list (p.2.map λ n=>yAa (bJ n)))=qq (.list ((aY p).map yAa)):=by
    rw[kG (by simp;omega)]
    unfold aY;rw[yAi,yAx];rfl
   show((xs C pV [qq (.d P),qq (.loc S.length),qq (.d (cX p)),qz] (S++[qq (aH.map yAa)])).bind _)=_;have e:xs C pV [qq (.d P),qq (.loc S.length),qq (.d (cX p)),qz] (S++[qq (aH.map yAa)])=qq (.nx [qq (.d P),qq (.loc S.length),qq (.d (cX p)),qz],S++[qq ((aH++[aN p]).map yAa)]):=by
    refine tS ?_;generalize S++[qq (aH.map yAa)]=S1 at *;generalize S++[qq ((aH++[aN p]).map yAa)]=S2 at *;generalize (aY p).map yAa=PL at *;generalize p.2.map (λ n=>yAa (bJ n))=NL at *
    generalize cX p=Z at *;have js:oU (.str " ") (.list PL)=qq (.str (aN p)):=js;simp only[evs,jX,hc,i0,ct,js,gK,ap]
   rw[e,oB];show eJ (.one 2) (xs C pV) (ps.map cX) _ _=_;rw[ih,yAi,el]
noncomputable abbrev sT(T:aC)(ns:List Int)(k:Nat)(x:Int):aC:=qq (dH ns k x)::T
theorem aGF(T:aC)(ns:List Int)(k:Nat)(x:Int)(h:T.length<=40):aU (qz::T) 0 50 ns k x []=sT T ns k x:=by
 unfold aU;rw[yBc,List.set_eq_of_length_le];simp;omega
theorem aSf(T:aC)(h:T.length<=40):At0 (qz::T) 0 50:=⟨by simp,by decide⟩
section
variable {ns : List Int}{k : Nat}{x : Int}
theorem tN(T:aC)(hT:T.length<=40)(d m:Nat)(hm:0<m)(hm2:m<2^64)(hk:k<=100000):∃ (r:Nat) (x':Int),r<m/\cl fns (d+1) 14 [.loc 0,.d (.int m)] (sT T ns k x)=qq (.d (.int r),sT T ns (k+1) x'):=by
 obtain⟨r,x',hr,e⟩:=fA (rs:=[]) (ns:=ns) (k:=k) (x:=x) (aSf T hT) d m hm hm2 hk;rw[aGF T _ _ _ hT,aGF T _ _ _ hT] at e;exact⟨r,x',hr,e⟩
end
noncomputable def rP(w:Str)(n:Int):List Str:=["0" ++ w, "-" ++ w, "+" ++ w,w ++ "a", "",w++Txt.mul "0" n,w ++ ".",w ++ "_0",Txt.slice w qz (qq 1) ++ "_" ++ Txt.slice w (qq 1) qz]
theorem lO{x:Str}(h:(x.cps.toList.all λ c=>!(c==10) && !(c==32)&&decide (c<1114112))=true)(hl:x.length<=5):Pt 5 x:=⟨λ c m=>by
 have:=List.all_eq_true.mp h c m;simpa [and_assoc] using this,hl⟩
theorem aM3{w:Str}(h:Pt 20 w){n:Int}(hn:n.toNat<=30):∀ y∈rP w n,Pt 60 y:=λ y m=>by
 simp only[rP,yBa,yAs,or_false] at m;rcases m with rfl | rfl | rfl | rfl | rfl | rfl | rfl | rfl | rfl
 ·exact((lO (x:="0") (by decide +kernel) (by decide)).app h).mono (by omega)
 ·exact((lO (x:="-") (by decide +kernel) (by decide)).app h).mono (by omega)
 ·exact((lO (x:="+") (by decide +kernel) (by decide)).app h).mono (by omega)
 ·exact(h.app (lO (x:="a") (by decide +kernel) (by decide))).mono (by omega)
 ·exact(lO (x:="") (by decide +kernel) (by decide)).mono (by omega)
 ·exact(h.app (aEy hn)).mono (by omega)
 ·exact(h.app (lO (x:=".") (by decide +kernel) (by decide))).mono (by omega)
 ·exact(h.app (lO (x:="_0") (by decide +kernel) (by decide))).mono (by omega)
 ·exact(((h.slice qz (qq 1)).app (lO (x:="_") (by decide +kernel) (by decide))).app (h.slice (qq 1) qz)).mono (by omega)
theorem aJu(d:Nat)(T:aC)(hT:T.length<=40)(ns:List Int)(k:Nat)(x:Int)(w:Str)(h:Pt 20 w)(hk:k<=90000):∃ (y:Str) (x':Int),Pt 60 y/\cl fns (d+2) 35 [.loc 0,.d (.str w)] (sT T ns k x)=qq (.d (.str y),sT T ns (k+1) x'):=by
 obtain⟨r,x',hr,dr⟩:=tN (ns:=ns) (k:=k) (x:=x) T hT d 9 (by decide) (by decide) (by omega)
 have hl:=h.l;have dr:cl fns (d+1) 14 [.loc 0,.d (.int 9)] (sT T ns k x)=qq (.d (.int r),sT T ns (k+1) x'):=dr;have ll:cU [.str w]=qq (.int w.length):=if_pos (by rw[qo];omega)
 have mn:rC [.int w.length,.int 20]=qq (.int (if (20:Int)<((w.length:Nat):Int) then (20:Int) else ((w.length:Nat):Int))):=rfl
 rw[if_neg (by omega)] at mn
 have b1:bK .Add (.str "0") (.str w)=qq (.str ("0" ++ w)):=iQ (by rw[show("0" : Str).length=1 by decide];omega)
 have b2:bK .Add (.str "-") (.str w)=qq (.str ("-" ++ w)):=iQ (by rw[show("-" : Str).length=1 by decide];omega)
 have b3:bK .Add (.str "+") (.str w)=qq (.str ("+" ++ w)):=iQ (by rw[show("+" : Str).length=1 by decide];omega)
 have b4:bK .Add (.str w) (.str "a")=qq (.str (w ++ "a")):=iQ (by rw[show("a" : Str).length=1 by decide];omega)
 have hz:(((21:Int)-((w.length:Nat):Int)).toNat)<=30:=by omega
 have b6:yT (.str "0") (.int (21-((w.length:Nat):Int)))=qq (.str (Txt.mul "0" (21-((w.length:Nat):Int)))):=if_pos ⟨by decide,by omega,by omega⟩
 have zl:=(aEy hz).l;have b6':bK .Add (.str w) (.str (Txt.mul "0" (21-((w.length:Nat):Int))))=qq (.str (w++Txt.mul "0" (21-((w.length:Nat):Int)))):=iQ (by omega)
 have b7:bK .Add (.str w) (.str ".")=qq (.str (w ++ ".")):=iQ (by rw[show(".": Str).length=1 by decide];omega)
 have b8:bK .Add (.str w) (.str "_0")=qq (.str (w ++ "_0")):=iQ (by rw[show("_0" : Str).length=2 by decide];omega)
 have s1:aCB qz (qq 1) (.str w)=qq (.str (Txt.slice w qz (qq 1))):=if_pos (by rw[qo];omega)
 have s2:aCB (qq 1) qz (.str w)=qq (.str (Txt.slice w (qq 1) qz)):=if_pos (by rw[qo];omega)
 have l1:=(h.slice qz (qq 1)).l;have l2:=(h.slice (qq 1) qz).l;have b9:bK .Add (.str (Txt.slice w qz (qq 1))) (.str "_")=qq (.str (Txt.slice w qz (qq 1) ++ "_")):=iQ (by rw[show("_" : Str).length=1 by decide];omega)
 have b10:bK .Add (.str (Txt.slice w qz (qq 1) ++ "_")) (.str (Txt.slice w (qq 1) qz))=qq (.str (Txt.slice w qz (qq 1) ++ "_" ++ Txt.slice w (qq 1) qz)):=iQ (by rw[oA,show("_" : Str).length=1 by decide];omega)
 have hp:=aM3 h hz;have cE:(rP w (21-((w.length:Nat):Int))).length=9:=rfl;obtain⟨y,hy⟩:∃ y,(rP w (21-((w.length:Nat):Int)))[r]? = qq y:=⟨_,yAc (by rw[cE];exact hr)⟩
 refine⟨y,x',hp y (xAi hy),?_⟩;have iy:bC (.list ((rP w (21-((w.length:Nat):Int))).map yAa)) (.int r)=qq (.str y):=eR (by rw[xAb,hy];rfl)
 have e1:(21:Int)-((w.length:Nat):Int)=21-((w.length:Nat):Int):=rfl;refine cT rfl (d+1) rfl rfl (show List.take (sT T ns (k+1) x').length _=_ from yAf) ?_
 show xs (aF fns (d+1)) _ [qq (.loc 0),qq (.d (.str w)),qz] (sT T ns k x)=_;unfold rP at iy;generalize Txt.slice w qz (qq 1)=sl1 at *;generalize Txt.slice w (qq 1) qz=sl2 at *;generalize Txt.mul "0" (21-((w.length:Nat):Int))=zs at *;generalize sT T ns k x=S at *;generalize sT T ns (k+1) x'=S' at *;refine bM (w:=.d (.list [.str ("0" ++ w),.str ("-" ++ w),.str ("+" ++ w),.str (w ++ "a"),.str "",.str (w++zs),.str (w ++ ".")])) (S1:=S) (by simp only[evs,b1,b2,b3,b4,ll,mn,dW,yI,b6,b6',b7]) rfl (bG ?_)
 have bc:=kG (xs:=[.str ("0" ++ w),.str ("-" ++ w),.str ("+" ++ w),.str (w ++ "a"),.str "",.str (w++zs),.str (w ++ ".")]) (ys:=[.str (w ++ "_0"),.str (sl1 ++ "_" ++ sl2)]) (by simp)
 generalize w ++ "_0" = q8 at *;generalize "0" ++ w=q0 at *;generalize "-" ++ w=q1 at *;generalize "+" ++ w=q2 at *;generalize w ++ "a" = q3 at *;generalize w++zs=q5 at *;generalize w ++ "." = q6 at *;generalize sl1 ++ "_" ++ sl2=q9 at *;show ev (aF fns (d+1)) _ [qq (.loc 0),qq (.d (.str w)),qq (.d (.list [.str q0,.str q1,.str q2,.str q3,.str "",.str q5,.str q6]))] S=_;have iy:bC (.list [.str q0,.str q1,.str q2,.str q3,.str "",.str q5,.str q6,.str q8,.str q9]) (.int r)=qq (.str y):=iy;simp only[evs,zC,cV,cL,b8,s1,s2,b9,b10,bc,dr,iy]
noncomputable def rK:List Str:=["ins", "In", "nun", "shl", "mod", "neg", "picks", "o", "AND", "out", "rows", "", "0"]
noncomputable def mE:List Str:=["out", "out 0 0 0 0 0 0 0 0 0", "in 5", "out 1", "num 65 0", "not 8 99"]
theorem aLX:∀ y∈rK,Pt 20 y:=λ y m=>by
 have h:∀ y∈rK,(y.cps.toList.all λ c=>!(c==10) && !(c==32)&&decide (c<1114112))=true/\y.length<=5:=by decide +kernel
 exact(lO (h y m).1 (h y m).2).mono (by decide)
theorem aNl:∀ y∈mE,Lc 30 20 y:=λ y m=>by
 have h:∀ y∈mE,(y.cps.toList.all λ c=>!(c==10)&&decide (c<1114112))=true/\y.length<=30/\y.cps.toList.count 32<=20:=by decide +kernel
 refine⟨λ c mc=>?_,(h y m).2.1,(h y m).2.2⟩
 have:=List.all_eq_true.mp (h y m).1 c mc;simpa using this
theorem aHb(T:aC)(ns:List Int)(k:Nat)(x:Int)(L:List D)(y:D)(h:L.length<=1000):fS (sT (T++[qq L]) ns k x) (.loc (T.length+1)) (.d y)=qq (.d .none,sT (T++[qq (L++[y])]) ns k x):=sQ (sT T ns k x) L y h
theorem aPI(T:aC)(ns:List Int)(k:Nat)(x:Int)(L:List D):(sT (T++[qq L]) ns k x)[T.length+1]? = qq (qq L):=wZ (sT T ns k x) L
noncomputable def gP(p:Str×List Nat):List Str:=[" " ++ aN p,aN p ++ " ",jQ (aN p) " " "  ", "",aN p ++ " 7",Txt.join " " (aY p).dropLast]
theorem aOA{p:Str×List Nat}(h:LnOk p):∀ y∈gP p,Ln y:=λ y m=>by
 have z:=aBR h;have l:=aB6 h;have one:Lc 1 1 " ":=⟨by decide +kernel,by decide,by decide +kernel⟩
 have two:Lc 2 1 " 7":=⟨by decide +kernel,by decide,by decide +kernel⟩
 simp only[gP,yBa,yAs,or_false] at m;rcases m with rfl | rfl | rfl | rfl | rfl | rfl
 ·exact(one.app z).ln (by decide) (by decide)
 ·exact(z.app one).ln (by decide) (by decide)
 ·exact(aOg z).ln (by decide) (by decide)
 ·exact Lc.ln (a:=0) (b:=0) ⟨by decide +kernel,by decide,by decide +kernel⟩ (by decide) (by decide)
 ·exact(z.app two).ln (by decide) (by decide)
 ·have j:=Lc.join (n:=20) (ps:=(aY p).dropLast) λ x mx=>lI h x (List.dropLast_subset _ mx)
  rw[List.length_dropLast] at j;exact j.ln (by omega) (by omega)
theorem aEO(l:List D)(b:D):cK (l++[b]) qz (qq (-1))=l:=by
 have e:(-1+((l.length:Int)+1)).toNat=l.length:=by omega
 unfold cK HT.sIx;simp[e]
theorem aKH(ps:List Str)(h:ps≠[]):cK (ps.map yAa) qz (qq (-1))=ps.dropLast.map yAa:=by
 have e:ps=ps.dropLast++[ps.getLast h]:=(yFd h).symm;rw[show ps.map yAa=ps.dropLast.map yAa++[.str (ps.getLast h)] by
  conv=>lhs;rw[e]
  rw[yAn];rfl]
 exact aEO _ _
theorem aJL(d:Nat)(T:aC)(hT:T.length<=20)(ns:List Int)(k:Nat)(x:Int)(p:Str×List Nat)(h:LnOk p)(hne:1<=p.2.length)(hk:k<=80000):∃ (y:Str) (x':Int),Ln y/\cl fns (d+3) 36 [.loc 0,.d (.str (aN p))] (sT T ns k x)=qq (.d (.str y),sT T ns (k+4) x'):=by
 have zl:=(aBR h).l;have pl:=aB6 h;have ep:(aY p).length=p.2.length+1:=by unfold aY;simp
 have T1:∀ L:List D,(T++[qq L]).length<=40:=λ L=>by simp;omega
 have b0:bK .Add (.str " ") (.str (aN p))=qq (.str (" " ++ aN p)):=iQ (by rw[show(" " : Str).length=1 by decide];omega)
 have b1:bK .Add (.str (aN p)) (.str " ")=qq (.str (aN p ++ " ")):=iQ (by rw[show(" " : Str).length=1 by decide];omega)
 have b2:bK .Add (.str (aN p)) (.str " 7")=qq (.str (aN p ++ " 7")):=iQ (by rw[show(" 7" : Str).length=2 by decide];omega)
 have zr:(aN p).length<=100000:=by omega
 have un:rT .USub (.int 1)=qq (.int (-1)):=rfl;have cd:=aKH (aY p) (by unfold aY;simp)
 have jd:=mK vQ (ps:=(aY p).dropLast) (aA6 (n:=20) (λ x mx=>lI h x (List.dropLast_subset _ mx)) (by decide) (by rw[List.length_dropLast];omega))
 obtain⟨r1,x1,hr1,d1⟩:=tN (ns:=ns) (k:=k) (x:=x) (T++[qq ((gP p).map yAa)]) (T1 _) (d+1) 13 (by decide) (by decide) (by omega)
 have d1:cl fns (d+2) 14 [.loc 0,.d (.int 13)] (sT (T++[qq ((gP p).map yAa)]) ns k x)=qq (.d (.int r1),sT (T++[qq ((gP p).map yAa)]) ns (k+1) x1):=d1;obtain⟨s1,hs1⟩:∃ y,rK[r1]? = qq y:=⟨_,yAc hr1⟩;have i1:bC (.list (rK.map yAa)) (.int r1)=qq (.str s1):=eR (by rw[xAb,hs1];rfl)
 have cf:cK ((aY p).map yAa) (qq 1) qz=(aY p).tail.map yAa:=by
  rw[show(qq (1:Int))=qq ((1:Nat):Int) from rfl,hV]
  unfold aY;rfl
 have p1:∀ q∈s1::(aY p).tail,Pt 20 q:=λ q m=>by
  rcases List.mem_cons.mp m with rfl | m
  ·exact aLX _ (xAi hs1)
  ·exact lI h q (List.mem_of_mem_tail m)
 have l1:(s1::(aY p).tail).length<=9:=by simp;omega
 have j1:=mK vQ (ps:=s1::(aY p).tail) (aA6 p1 (by decide) (by omega))
 have c1:bK .Add (.list [.str s1]) (.list ((aY p).tail.map yAa))=qq (.list ((s1::(aY p).tail).map yAa)):=kG (by simp at l1 ⊢;omega)
 have n1:Ln (Txt.join " " (s1::(aY p).tail)):=(Lc.join p1).ln (by omega) (by omega)
 generalize Txt.join " " (s1::(aY p).tail)=z1 at *;have a1:=aHb T ns (k+1) x1 ((gP p).map yAa) (.str z1) (by rw[yAb];show 6<=1000;decide)
 generalize eL7:(gP p).map yAa++[.str z1]=L7 at *;have ln1:cU [.list ((aY p).map yAa)]=qq (.int ((p.2.length+1:Nat):Int)):=by rw[cH,yAb,ep]
 have e1:((p.2.length+1:Nat):Int)-1=((p.2.length:Nat):Int):=by omega
 obtain⟨r2,x2,hr2,d2⟩:=tN (ns:=ns) (k:=k+1) (x:=x1) (T++[qq L7]) (T1 _) (d+1) p.2.length (by omega) (by omega) (by omega)
 have e2:(1:Int)+((r2:Nat):Int)=((r2+1:Nat):Int):=by omega
 have e3:((r2+1:Nat):Int)+1=((r2+2:Nat):Int):=by omega
 obtain⟨w2,cI⟩:∃ y,(aY p)[r2+1]? = qq y:=⟨_,yAc (by omega)⟩
 have i2:bC (.list ((aY p).map yAa)) (.int ((r2+1:Nat):Int))=qq (.str w2):=eR (by rw[xAb,cI];rfl)
 obtain⟨v2,x3,hv2,d3⟩:=aJu d (T++[qq L7]) (T1 _) ns (k+2) x2 w2 (lI h w2 (xAi cI)) (by omega)
 have ct:cK ((aY p).map yAa) qz (qq ((r2+1:Nat):Int))=((aY p).take (r2+1)).map yAa:=by rw[qK,yFc]
 have cr:cK ((aY p).map yAa) (qq ((r2+2:Nat):Int)) qz=((aY p).drop (r2+2)).map yAa:=by rw[hV,List.map_drop]
 have p2:∀ q∈(aY p).take (r2+1)++[v2]++(aY p).drop (r2+2),Pt 60 q:=λ q m=>by
  rcases List.mem_append.mp m with m | m
  ·rcases List.mem_append.mp m with m | m
   ·exact(lI h q (yDs m)).mono (by decide)
   ·rw[List.mem_singleton.mp m];exact hv2
  ·exact(lI h q (yDt m)).mono (by decide)
 have l2:((aY p).take (r2+1)++[v2]++(aY p).drop (r2+2)).length<=20:=by simp;omega
 have j2:=mK vQ (ps:=(aY p).take (r2+1)++[v2]++(aY p).drop (r2+2)) (aA6 p2 (by decide) (by omega))
 have c2:bK .Add (.list (((aY p).take (r2+1)).map yAa)) (.list [.str v2])=qq (.list (((aY p).take (r2+1)++[v2]).map yAa)):=by
  rw[kG (by simp;omega),yAn]
  rfl
 have c3:bK .Add (.list (((aY p).take (r2+1)++[v2]).map yAa)) (.list (((aY p).drop (r2+2)).map yAa))=qq (.list (((aY p).take (r2+1)++[v2]++(aY p).drop (r2+2)).map yAa)):=by
  rw[kG (by simp;omega),<- yAn]
 have n2:Ln (Txt.join " " ((aY p).take (r2+1)++[v2]++(aY p).drop (r2+2))):=(Lc.join p2).ln (by omega) (by omega)
 generalize Txt.join " " ((aY p).take (r2+1)++[v2]++(aY p).drop (r2+2))=z2 at *;have lL7:L7.length=7:=by rw[<- eL7];rfl
 have a2:=aHb T ns (k+3) x3 L7 (.str z2) (by omega)
 have g2:=aPI T ns (k+3) x3 (L7++[.str z2]);have c4:bK .Add (.list (L7++[.str z2])) (.list (mE.map yAa))=qq (.list ((gP p++[z1,z2]++mE).map yAa)):=by
  rw[kG (by rw[yAr,lL7];show 7+1+6<=1000000;decide),<- eL7,yAn,yAn]
  simp
 have la:(gP p++[z1,z2]++mE).length=14:=rfl;have ll4:cU [.list ((gP p++[z1,z2]++mE).map yAa)]=qq (.int 14):=by rw[cH,yAb,la];rfl
 obtain⟨r4,x4,hr4,d4⟩:=tN (ns:=ns) (k:=k+3) (x:=x3) (T++[qq (L7++[.str z2])]) (T1 _) (d+1) 14 (by decide) (by decide) (by omega)
 have d4:cl fns (d+2) 14 [.loc 0,.d (.int 14)] (sT (T++[qq (L7++[.str z2])]) ns (k+3) x3)=qq (.d (.int r4),sT (T++[qq (L7++[.str z2])]) ns (k+4) x4):=d4;obtain⟨y,hy⟩:∃ y,(gP p++[z1,z2]++mE)[r4]? = qq y:=⟨_,yAc (by rw[la];exact hr4)⟩
 have i4:bC (.list ((gP p++[z1,z2]++mE).map yAa)) (.int r4)=qq (.str y):=eR (by rw[xAb,hy];rfl)
 have ny:Ln y:=by
  rcases List.mem_append.mp (xAi hy) with m | m
  ·rcases List.mem_append.mp m with m | m
   ·exact aOA h y m
   ·simp only[yBa,yAs,or_false] at m;rcases m with rfl | rfl
    ·exact n1
    ·exact n2
  ·exact(aNl y m).ln (by decide) (by decide)
 refine⟨y,x4,ny,?_⟩;have sp:ev (aF fns (d+2)) (.fz (.spl (.var 1) (.str " "))) [qq (.loc 0),qq (.d (.str (aN p))),qz,qz,qz,qz] (sT T ns k x)=qq (.d (.list ((aY p).map yAa)),sT T ns k x):=by
  have:=aBq (C:=aF fns (d+2)) (env:=[qq (.loc 0),qq (.d (.str (aN p))),qz,qz,qz,qz]) (S:=sT T ns k x) (i:=1) (z:=aN p) rfl (by omega)
  rw[aK4 h] at this;exact this
 rw[dJ rfl (d+2) _ _ rfl]
 suffices H:xs (aF fns (d+2)) aAE [qq (.loc 0),qq (.d (.str (aN p))),qz,qz,qz,qz] (sT T ns k x)=qq (.rt (.d (.str y)),sT (T++[qq (L7++[.str z2])]) ns (k+4) x4) by
  show((xs (aF fns (d+2)) aAE [qq (.loc 0),qq (.d (.str (aN p))),qz,qz,qz,qz] (sT T ns k x)).bind _)=_;rw[H,oB];show qq (W.d (.str y),(sT T ns (k+4) x4++[qq (L7++[yAa z2])]).take (T.length+1))=_;rw[show T.length+1=(sT T ns (k+4) x4).length from rfl,yEn]
 have q6:(gP p).map yAa=[.str (" " ++ aN p),.str (aN p ++ " "),.str (jQ (aN p) " " "  "),.str "",.str (aN p ++ " 7"),.str (Txt.join " " (aY p).dropLast)]:=rfl;generalize (gP p++[z1,z2]++mE).map yAa=L14 at *;generalize eLL:(gP p).map yAa=L6 at *;generalize eS0:sT T ns k x=S0 at *;have eS1:S0++[qq L6]=sT (T++[qq L6]) ns k x:=by rw[<- eS0];rfl
 have lS0:S0.length=T.length+1:=by rw[<- eS0];rfl
 generalize ((aY p).dropLast).map yAa=PD at *;generalize ((aY p).tail).map yAa=PT at *;generalize ((aY p).take (r2+1)++[v2]++(aY p).drop (r2+2)).map yAa=PS at *;generalize ((aY p).take (r2+1)++[v2]).map yAa=PA at *;generalize ((aY p).take (r2+1)).map yAa=PB at *;generalize ((aY p).drop (r2+2)).map yAa=PC at *;generalize (s1::(aY p).tail).map yAa=PE at *;generalize (aY p).map yAa=PL at *;generalize sT (T++[qq L6]) ns k x=S1 at *;generalize sT (T++[qq L6]) ns (k+1) x1=S2 at *;generalize sT (T++[qq L7]) ns (k+1) x1=S3 at *;generalize sT (T++[qq L7]) ns (k+1+1) x2=S4 at *;generalize sT (T++[qq L7]) ns (k+2+1) x3=S5 at *;generalize sT (T++[qq (L7++[yAa z2])]) ns (k+3) x3=S6 at *;generalize sT (T++[qq (L7++[yAa z2])]) ns (k+4) x4=S7 at *;generalize Txt.join " " (aY p).dropLast=z6 at *;generalize aN p=Z at *;generalize L7++[yAa z2]=L8 at *;refine bM sp rfl ?_;refine bM (w:=.d (.list (rK.map yAa))) (S1:=S0) rfl rfl ?_;generalize rK.map yAa=P13 at *;refine bM (w:=.loc (T.length+1)) (S1:=S1) ?_ rfl ?_
 ·show ev (aF fns (d+2)) _ [qq (.loc 0),qq (.d (.str Z)),qq (.d (.list PL)),qq (.d (.list P13)),qz,qz] S0=_;rw[<- eS1,<- lS0,q6];simp only[evs,gM,zT,b0,b1,b2,zr,cR,cL,cV,un,cd,jX,jd]
 refine dY (e1:=[qq (.loc 0),qq (.d (.str Z)),qq (.d (.list PL)),qq (.d (.list P13)),qq (.loc (T.length+1)),qz]) (S1:=S3) ?_ ?_
 ·show xs (aF fns (d+2)) _ [qq (.loc 0),qq (.d (.str Z)),qq (.d (.list PL)),qq (.d (.list P13)),qq (.loc (T.length+1)),qz] S1=_;simp only[evs,d1,i1,cR,cL,cV,cf,c1,jX,j1,gK,a1]
 refine bM (w:=.d (.int ((r2+1:Nat):Int))) (S1:=S4) (by simp only[evs,ln1,dW,e1,d2,cY,e2]) rfl ?_
 refine dY (e1:=[qq (.loc 0),qq (.d (.str Z)),qq (.d (.list PL)),qq (.d (.list P13)),qq (.loc (T.length+1)),qq (.d (.int ((r2+1:Nat):Int)))]) (S1:=S6) ?_ ?_
 ·show xs (aF fns (d+2)) _ [qq (.loc 0),qq (.d (.str Z)),qq (.d (.list PL)),qq (.d (.list P13)),qq (.loc (T.length+1)),qq (.d (.int ((r2+1:Nat):Int)))] S4=_;simp only[evs,i2,d3,cR,cL,cV,ct,c2,cY,e3,cr,c3,jX,j2,gK,a2]
 refine bM (w:=.d (.list L14)) (S1:=S6) ?_ rfl (bG ?_)
 ·have c4:bK .Add (.list L8) (.list [.str "out",.str "out 0 0 0 0 0 0 0 0 0",.str "in 5",.str "out 1",.str "num 65 0",.str "not 8 99"])=qq (.list L14):=c4;simp only[evs,g2,c4]
 ·show ev (aF fns (d+2)) _ [qq (.loc 0),qq (.d (.str Z)),qq (.d (.list PL)),qq (.d (.list P13)),qq (.d (.list L14)),qq (.d (.int ((r2+1:Nat):Int)))] S6=_;simp only[evs,ll4,d4,i4]
inductive Pl:Nat->D->Prop
 | int {d:Nat}{i:Int}:Pl d (.int i)
 | str {d:Nat}{x:Str} (h:yBs x=true):Pl d (.str x)
 | tup {d:Nat}{ts:List D} (h:∀ t∈ts,Pl d t) (hl:ts.length<=1000):Pl (d+1) (.tuple ts)
theorem aFx:∀ {ts:List D},(∀ t∈ts,t.canLay0=true)->yCr ts=true
 | [],_=>rfl
 | t::ts,h=>by
   show(t.canLay0&&yCr ts)=true;rw[h t xAd,aFx λ x m=>h x (xAf _ m)]
   rfl
theorem aFg:∀ {ts:List D},(∀ t∈ts,yCe t t=true)->yFt ts ts=true
 | [],_=>by simp[yFt]
 | t::ts,h=>by
   have h1:=h t xAd;have h2:=aFg λ x m=>h x (xAf _ m)
   simp[yFt,h1,h2]
theorem aFU{n:Nat}:∀ {ts:List D},(∀ t∈ts,t.depth<=n)->yCj ts<=n
 | [],_=>by simp[yCj]
 | t::ts,h=>by
   have h1:=h t xAd;have h2:=aFU λ x m=>h x (xAf _ m)
   simp only[yCj];omega
theorem Pl.lay{d:Nat}{t:D}(h:Pl d t):t.canLay0=true:=by
 induction h with
 | int=>rfl
 | str h=>exact h
 | tup h hl ih=>exact aFx ih
theorem Pl.eqv{d:Nat}{t:D}(h:Pl d t):yCe t t=true:=by
 induction h with
 | int=>simp[yCe]
 | str h=>simp[yCe]
 | tup h hl ih =>
   have:=aFg ih;simp[yCe,this]
theorem Pl.dep{d:Nat}{t:D}(h:Pl d t):t.depth<=d:=by
 induction h with
 | int=>simp[yEt]
 | str h=>simp[yEt]
 | tup h hl ih =>
   have:=aFU ih;simp only[yEt];omega
theorem Pl.cmp{d:Nat}{t:D}(h:Pl d t)(hd:d<=50):bA .Eq t t=qq (.bool true):=by
 have h1:=h.lay;have h2:=h.eqv;have h3:=h.dep;unfold bA jC;simp only[];rw[if_pos ⟨h1,h1,by omega⟩,h2]
 rfl
theorem Pl.ne{d:Nat}{t:D}(h:Pl d t)(hd:d<=50):bA .NotEq t t=qq (.bool false):=by
 have h1:=h.lay;have h2:=h.eqv;have h3:=h.dep;unfold bA jC;simp only[];rw[if_pos ⟨h1,h1,by omega⟩,h2]
 rfl
theorem aMy(wd:Wd):yBs wd.s=true:=by cases wd<;>kernel_rfl
theorem aN2{r:Rw}(ar:Ar r):Pl 1 r.d:=.tup (λ t m=>by
 rcases List.mem_cons.mp m with rfl | m
 ·exact .str (aMy _)
 ·rcases List.mem_cons.mp m with rfl | m
  ·exact .int
  ·obtain⟨n,_,rfl⟩:=List.mem_map.mp m;exact .int) (by
 have:=qQ r.wd;rw[<- ar] at this;simp;omega)
theorem aCi{rs:List Rw}{aB:List Nat}(ar:∀ r∈rs,Ar r)(lr:rs.length<=100)(lo:aB.length<=8):Pl 3 (bE rs aB):=.tup (λ t m=>by
 rcases List.mem_cons.mp m with rfl | m
 ·exact .tup (λ t m=>by
   obtain⟨r,mr,rfl⟩:=List.mem_map.mp m;exact aN2 (ar r mr)) (by simp;omega)
 ·rcases List.mem_cons.mp m with rfl | m
  ·exact .tup (λ t m=>by
    obtain⟨n,_,rfl⟩:=List.mem_map.mp m;exact .int) (by simp;omega)
  ·cases m) (by simp)
theorem aLg{ws:List Nat}{r:Rw}(h:iC ws r)(hw:ws.length<=1000):Bd r:=by
 obtain⟨wd,w,args⟩:=r;have h2:w<=64:=h.2.1;have lt:∀ {a v:Nat},ws[a]? = qq v->a<10^20:=λ {a v} q=>by
  have:=(gIm q).1;omega
 have e0:∀ a∈([]:List Nat),a<10^20:=λ a m=>by cases m
 have e1:∀ {a:Nat},a<10^20->∀ x∈[a],x<10^20:=λ q x m=>by rw[List.mem_singleton.mp m];exact q
 have e2:∀ {a b:Nat},a<10^20->b<10^20->∀ x∈[a,b],x<10^20:=λ q q' x m=>by
  rcases List.mem_cons.mp m with rfl | m
  ·exact q
  ·exact e1 q' x m
 refine⟨show w<10^20 by omega,?_⟩
 rcases args with _ | ⟨a,_ | ⟨b,_ | ⟨c,_ | ⟨e,t⟩⟩⟩⟩
 ·exact e0
 ·cases wd
  case num =>
   have q:a<2^w:=h.2.2;exact e1 (xAc q (xAg (yDr (by decide) h2) (by decide)))
  case not=>exact e1 (lt h.2.2)
  case cut=>obtain⟨v,q,_⟩:=h.2.2;exact e1 (lt q)
  case wide=>obtain⟨v,q,_⟩:=h.2.2;exact e1 (lt q)
  case sign=>obtain⟨v,q,_⟩:=h.2.2;exact e1 (lt q)
  all_goals exact h.2.2.elim
 ·cases wd
  case left | right | slide =>
   have q2:b<64:=h.2.2.2;exact e2 (lt h.2.2.1) (by omega)
  case and | or | xor | add | sub | mul=>exact e2 (lt h.2.2.1) (lt h.2.2.2)
  case same | less | under =>
   obtain⟨_,v,q1,q2⟩:=h.2.2;exact e2 (lt q1) (lt q2)
  all_goals exact h.2.2.elim
 ·cases wd
  case pick =>
   obtain⟨q1,q2,q3⟩:=h.2.2;intro x m;rcases List.mem_cons.mp m with rfl | m
   ·exact lt q1
   ·exact e2 (lt q2) (lt q3) x m
  all_goals exact h.2.2.elim
 ·cases wd<;>exact h.2.2.elim
theorem wU:∀ {rs:List Rw}{ws:List Nat},dF ws rs->ws.length+rs.length<=1000->∀ r∈rs,Bd r
 | [],_,_,_,r,h=>by cases h
 | q::rs,ws,⟨h1,h2⟩,hl,r,h=>by
   have hl:ws.length+(rs.length+1)<=1000:=hl;rcases List.mem_cons.mp h with rfl | h
   ·exact aLg h1 (by omega)
   ·exact wU h2 (by simp;omega) r h
theorem aDY{g:Nat}{G:FnX}{x:Xx}(hG:gns[g]? = qq G)(hx:G.body=.inr x)(d:Nat)(ws:List W)(S:aC)(h:ws.length=G.np){w:W}{S':aC}(e:dI fns gns aE (d+1) (fns.length+g) ws S=qq (.ok w,S')):bZ fns gns aE (d+1) (fns.length+g) ws S=qq (w,S'):=by
 rw[tO hG d ws S h];rw[oJ hG hx d ws S h] at e;unfold iI;rw[hx];show mP _ ws S=_;unfold mP;rw[e];rfl
theorem aO5{rs:List Rw}{aB:List Nat}(ar:∀ r∈rs,Ar r)(lr:rs.length<=100)(lo:aB.length<=8)(z:Option (Ft4×Nat)):Pl 4 (aCs rs aB z):=by
 cases z with
 | none=>exact .tup (λ t m=>by
    rcases List.mem_cons.mp m with rfl | m
    ·exact .str (by kernel_rfl)
    ·rcases List.mem_cons.mp m with rfl | m
     ·exact aCi ar lr lo
     ·cases m) (by simp)
 | some z=>exact .tup (λ t m=>by
    rcases List.mem_cons.mp m with rfl | m
    ·exact .str (by cases z.1<;>kernel_rfl)
    ·rcases List.mem_cons.mp m with rfl | m
     ·exact .int
     ·cases m) (by simp)
theorem aEz(r:Rw)(bd:Bd r)(p v:Nat)(hv:v<10^20)(h1:1<=p)(h2:p<2+r.args.length):∃ (r':Rw) (o:Nat),r'.wd=r.wd/\r'.args.length=r.args.length/\Bd r'/\o<10^20/\(r.l.take p++[nD v])++r.l.drop (p+1)=r'.l/\r.l[p]? = qq (nD o):=by
 obtain⟨wd,w,args⟩:=r;dsimp only at h2
 match p,h1 with
 | 1,_=>exact⟨⟨wd,v,args⟩,w,rfl,rfl,⟨hv,bd.2⟩,bd.1,rfl,rfl⟩
 | i+2,_ =>
   have hi:i<args.length:=by omega
   refine⟨⟨wd,w,args.take i++[v]++args.drop (i+1)⟩,args[i],rfl,?_,⟨bd.1,λ a m=>?_⟩,bd.2 _ (List.getElem_mem hi),?_,?_⟩
   ·simp;omega
   ·rcases List.mem_append.mp m with m | m
    ·rcases List.mem_append.mp m with m | m
     ·exact bd.2 a (yDs m)
     ·rw[List.mem_singleton.mp m];exact hv
    ·exact bd.2 a (yDt m)
   ·unfold Rw.l;simp[yFc,List.map_drop]
   ·show(args.map nD)[i]? = _;rw[xAb,yAc hi];rfl
noncomputable def oV:Nat:=99999999999999999999
theorem aKI:bK .Sub (.int ((10:Int)^20)) (.int 1)=qq (.int oV):=by kernel_rfl
theorem aHn(a b:Nat):∃ m:Nat,m<=a/\m<=b/\rC [.int a,.int b]=qq (.int m):=by
 show ∃ m:Nat,_/\_/\qq (yAp (if ((b:Nat):Int)<((a:Nat):Int) then ((b:Nat):Int) else ((a:Nat):Int)))=_
 by_cases c:((b:Nat):Int)<((a:Nat):Int)
 ·rw[if_pos c];exact⟨b,by omega,by omega,rfl⟩
 ·rw[if_neg c];exact⟨a,by omega,by omega,rfl⟩
theorem aRl(a:Nat):∃ m:Nat,m<=a/\zG [.int 0,.int (((a:Nat):Int)-1)]=qq (.int m):=by
 show ∃ m:Nat,m<=a/\qq (yAp (if ((a:Nat):Int)-1>0 then ((a:Nat):Int)-1 else 0))=_
 by_cases c:((a:Nat):Int)-1>0
 ·rw[if_pos c];exact⟨a-1,by omega,by congr 2;omega⟩
 ·rw[if_neg c];exact⟨0,by omega,rfl⟩
theorem aFQ{L:List Nat}{b q:Nat}(h:∀ x∈L,x<b)(hb:0<b):L.getD q 0<b:=by
 rw[yCk];cases e:L[q]? with
 | none=>exact hb
 | some x=>exact h x (xAi e)
theorem aKo(d:Nat)(ns:List Int)(k:Nat)(x:Int)(old r most:Nat)(hm:most<=64)(hk:k<=90000)(hold:old<10^20)(hrr:r<=1000):∃ (v:Nat) (x':Int),v<10^20/\cl fns (d+2) 29 [.loc 0,.d (.int old),.d (.int r),.d (.int most)] (s0 ns k x)=qq (.d (.int v),s0 ns (k+2) x'):=by
 have pw:bK .Pow (.int 10) (.int 20)=qq (.int ((10:Int)^20)):=aMs (k:=20) (by decide) (by decide)
 have nn:=aKI;have eo:((old:Nat):Int)+1=((old+1:Nat):Int):=by omega
 have er:((r:Nat):Int)+1=((r+1:Nat):Int):=by omega
 obtain⟨m1,hm1,_,e1⟩:=aHn oV (old+1);obtain⟨m2,hm2,e2⟩:=aRl old;have sh:=iP (w:=most) (by omega)
 obtain⟨q1,x1,hq1,d1⟩:=uP (ns:=ns) (k:=k) (x:=x) d 70 (i:=70) rfl (by decide) (by decide) (by omega)
 obtain⟨q2,x2,hq2,d2⟩:=uP (ns:=ns) (k:=k+1) (x:=x1) d 11 (i:=11) rfl (by decide) (by decide) (by omega)
 obtain⟨b,hb,eb⟩:=b2i (decide ((39:Int)<((most:Nat):Int)));have n9:oV<10^20:=by decide
 have s7:∃ y:Nat,y<10^20/\bC (.list [.int 7,.int oV]) (.int b)=qq (.int y):=⟨_,aFQ (L:=[7,oV]) (λ x m=>by simp at m;rcases m with rfl | rfl<;>first | exact n9 | decide) (by decide),kI (vs:=[7,oV]) (k:=b) (by simpa using hb)⟩
 obtain⟨y,hy,ey⟩:=s7;have hl:bK .Add (.list [.int 0,.int 65,.int 64,.int 63,.int r,.int ((r+1:Nat):Int),.int m1,.int m2,.int ((2^most:Nat):Int),.int q1]) (.list [.int y])=qq (.list ([0,65,64,63,r,r+1,m1,m2,2^most,q1,y].map nD)):=kG (by simp)
 have gx:=kI (vs:=[0,65,64,63,r,r+1,m1,m2,2^most,q1,y]) (k:=q2) (by simpa using hq2)
 have p64:2^most<10^20:=yEf (yDr (by decide) hm) (by decide)
 have hv:[0,65,64,63,r,r+1,m1,m2,2^most,q1,y].getD q2 0<10^20:=aFQ (λ x m=>by
  simp only[yBa,yAs,or_false] at m;rcases m with rfl | rfl | rfl | rfl | rfl | rfl | rfl | rfl | rfl | rfl | rfl<;>first | exact p64 | exact hy | omega) (by decide)
 generalize yGb nD [0,65,64,63,r,r+1,m1,m2,2^most,q1,y]=LL at *;generalize [0,65,64,63,r,r+1,m1,m2,2^most,q1,y].getD q2 0=v at *;generalize oV=N9 at *;generalize ((2^most:Nat):Int)=P2 at *;refine⟨v,x2,hv,?_⟩;rw[dJ rfl (d+1) _ _ rfl];simp only[evs,dB,aDw,pw,nn,er,eo,cY,dW,e1,e2,sh,d1,d2,gG,qN,qS,eb,ey,hl,gx]
theorem aBr{C:Calls}{env:aV}{S S1:aC}{X:E}{rs:List Rw}{r:Nat}{r':Rw}(h1:env[1]? = qq (qq (.d (.list (rs.map Rw.d)))))(h2:env[2]? = qq (qq (.d (.int r))))(hx:ev C X env S=qq (.d r'.d,S1))(hl:rs.length<=1000) :
 ev C (.bin .Add (.bin .Add (.sl (.var 1) .no (.cons (.var 2) .nil)) (.fz (.lst (.cons X .nil)))) (.sl (.var 1) (.cons (.bin .Add (.var 2) (.int 1)) .nil) .no)) env S=qq (.d (.list (((rs.take r++[r'])++rs.drop (r+1)).map Rw.d)),S1):=by
 have e1:((r:Nat):Int)+1=((r+1:Nat):Int):=by omega
 have c1:bK .Add (.list ((rs.map Rw.d).take r)) (.list [r'.d])=qq (.list ((rs.map Rw.d).take r++[r'.d])):=kG (by simp;omega)
 have c2:bK .Add (.list ((rs.map Rw.d).take r++[r'.d])) (.list ((rs.map Rw.d).drop (r+1)))=qq (.list (((rs.map Rw.d).take r++[r'.d])++(rs.map Rw.d).drop (r+1))):=kG (by simp;omega)
 have ef:((rs.take r++[r'])++rs.drop (r+1)).map Rw.d=((rs.map Rw.d).take r++[r'.d])++(rs.map Rw.d).drop (r+1):=by
  rw[yAn,yAn,yFc,List.map_drop];rfl
 rw[ef];generalize rs.map Rw.d=L at *;simp only[evs,cR,cL,cV,h1,h2,hx,cY,e1,qK,hV,c1,c2]
theorem aBl{rs:List Rw}{r:Nat}{r':Rw}(ar:∀ q∈rs,Bd q)(h:Bd r'):∀ q∈(rs.take r++[r'])++rs.drop (r+1),Bd q:=λ q m=>by
 rcases List.mem_append.mp m with m | m
 ·rcases List.mem_append.mp m with m | m
  ·exact ar q (yDs m)
  ·rw[List.mem_singleton.mp m];exact h
 ·exact ar q (yDt m)
theorem aBC{rs:List Rw}{r:Nat}{r':Rw}(ar:∀ q∈rs,Ar q)(h:Ar r'):∀ q∈(rs.take r++[r'])++rs.drop (r+1),Ar q:=λ q m=>by
 rcases List.mem_append.mp m with m | m
 ·rcases List.mem_append.mp m with m | m
  ·exact ar q (yDs m)
  ·rw[List.mem_singleton.mp m];exact h
 ·exact ar q (yDt m)
theorem aBs{rs:List Rw}{r:Nat}{r':Rw}(h:r<rs.length):((rs.take r++[r'])++rs.drop (r+1)).length=rs.length:=by
 simp;omega
noncomputable def spT:Sx:=cP (cP aAC)
theorem aFS(d:Nat)(ns:List Int)(k:Nat)(x:Int)(rs:List Rw)(r:Nat)(hr:r<rs.length)(hl:rs.length<=1000)(ar:∀ q∈rs,Ar q)(bd:∀ q∈rs,Bd q)(hk:k<=80000)(a7:Option W):∃ (aS:List Rw) (x':Int),aS.length=rs.length/\(∀ q∈aS,Ar q)/\(∀ q∈aS,Bd q) /\
 xs (aF fns (d+2)) spT [qq (.loc 0),qq (.d (.list (rs.map Rw.d))),qq (.d (.int r)),qq (.d (aJ rs r).d),qz,qz,qz,a7] (s0 ns k x)=qq (.rt (.d (.list (aS.map Rw.d))),s0 ns (k+3) x'):=by
 have arr:=ar _ (lT hr);have ln:=aCg (aJ rs r);have a3:=qQ (aJ rs r).wd;rw[<- arr] at a3;have r1:=fO (aJ rs r);obtain⟨q1,x1,hq1,d1⟩:=aGR (ns:=ns) (k:=k) (x:=x) (d+1) (1+(aJ rs r).args.length) (by omega) (by omega) (by omega)
 have el:((2+(aJ rs r).args.length:Nat):Int)-1=((1+(aJ rs r).args.length:Nat):Int):=by omega
 have ea:(1:Int)+((q1:Nat):Int)=((1+q1:Nat):Int):=by omega
 have ea2:((1+q1:Nat):Int)+1=((1+q1+1:Nat):Int):=by omega
 obtain⟨b,hb,eb⟩:=b2i (((2+(aJ rs r).args.length:Nat):Int)==3);obtain⟨m0,hm0,em0⟩:∃ m0:Nat,m0<=64/\bC (.list [.int 39,.int 64]) (.int b)=qq (.int m0):=by
  refine⟨[39,64].getD b 0,?_,kI (vs:=[39,64]) (k:=b) (by simpa using hb)⟩
  match b,hb with
  | 0,_=>decide
  | 1,_=>decide
 obtain⟨most,_,hm,em⟩:=aHn (aJ rs r).w m0;have bdr:=bd _ (lT hr);obtain⟨r0,old,-,-,-,hold,-,go⟩:=aEz (aJ rs r) bdr (1+q1) 0 (by decide) (by omega) (by omega)
 obtain⟨v,x2,hv,eo⟩:=aKo d ns (k+1) x1 old r most (by omega) (by omega) hold (by omega)
 obtain⟨r',o',w1,w2,wb,-,w3,-⟩:=aEz (aJ rs r) bdr (1+q1) v hv (by omega) (by omega)
 have lr:cU [(aJ rs r).d]=qq (.int ((2+(aJ rs r).args.length:Nat):Int)):=by rw[uO,cZ,ln]
 have gx:bC (aJ rs r).d (.int ((1+q1:Nat):Int))=qq (.int old):=qG go;refine⟨(rs.take r++[r'])++rs.drop (r+1),x2,aBs hr,aBC ar (by unfold Ar;rw[w1,w2];exact arr),aBl bd wb,?_⟩
 have hX:ev (aF fns (d+2)) (.bin .Add (.bin .Add (.sl (.var 3) .no (.cons (.var 4) .nil)) (.tup (.cons (.var 6) .nil))) (.sl (.var 3) (.cons (.bin .Add (.var 4) (.int 1)) .nil) .no)) [qq (.loc 0),qq (.d (.list (rs.map Rw.d))),qq (.d (.int r)),qq (.d (aJ rs r).d),qq (.d (.int ((1+q1:Nat):Int))),qq (.d (.int most)),qq (.d (.int v)),a7] (s0 ns (k+3) x2)=qq (.d r'.d,s0 ns (k+3) x2):=by
  rw[uO,uO,<- w3];have c1:bK .Add (.tuple ((aJ rs r).l.take (1+q1))) (.tuple [.int v])=qq (.tuple ((aJ rs r).l.take (1+q1)++[nD v])):=nG (λ z=>by have:=congrArg yFq z;rw[yAy,yCt] at this;omega) (by simp;omega)
  have c2:bK .Add (.tuple ((aJ rs r).l.take (1+q1)++[nD v])) (.tuple ((aJ rs r).l.drop (1+q1+1)))=qq (.tuple (((aJ rs r).l.take (1+q1)++[nD v])++(aJ rs r).l.drop (1+q1+1))):=nG (by simp) (by simp;omega)
  generalize (aJ rs r).l=L at *;simp only[evs,cR,cL,cV,cY,ea2,qK,hV,c1,c2]
 have pr:=aBr (C:=aF fns (d+2)) (env:=[qq (.loc 0),qq (.d (.list (rs.map Rw.d))),qq (.d (.int r)),qq (.d (aJ rs r).d),qq (.d (.int ((1+q1:Nat):Int))),qq (.d (.int most)),qq (.d (.int v)),a7]) rfl rfl hX hl;generalize (aJ rs r).d=R at *;generalize rs.map Rw.d=LL at *;refine bM (w:=.d (.int ((1+q1:Nat):Int))) (S1:=s0 ns (k+1) x1) (by simp only[evs,lr,dW,el,d1,cY,ea]) rfl ?_
 refine bM (w:=.d (.int most)) (S1:=s0 ns (k+1) x1) (by simp only[evs,r1,lr,cG,qN,qS,eb,em0,em]) rfl ?_
 refine bM (w:=.d (.int v)) (S1:=s0 ns (k+3) x2) (by simp only[evs,gx,eo]) rfl ?_
 exact bG pr
noncomputable def w8:List Wd:=[.and,.or,.mul,.same,.less,.under,.left,.slide]
noncomputable def w5:List Wd:=[.num,.not,.cut,.wide,.sign]
theorem aGL{l:List Wd}{q:Nat}(h:q<l.length):∃ wd,wd∈l/\bC (.list (l.map λ w=>yAa w.s)) (.int q)=qq (.str wd.s):=⟨l[q],List.getElem_mem h,eR (by rw[xAb,yAc h];rfl)⟩
theorem aEs{C:Calls}{env:aV}{S S1:aC}{r:Rw}{wd:Wd}{L:D}{c:E}{q:Nat}(h3:env[3]? = qq (qq (.d r.d)))(h7:env[7]? = qq (qq (.d L)))(hc:ev C c env S=qq (.d (.int q),S1))(hL:bC L (.int q)=qq (.str wd.s))(hl:r.args.length<=10) :
 ev C (.bin .Add (.tup (.cons (.ix (.var 7) c) .nil)) (.sl (.var 3) (.cons (.int 1) .nil) .no)) env S=qq (.d (Rw.mk wd r.w r.args).d,S1):=by
 have c1:bK .Add (.tuple [.str wd.s]) (.tuple (r.l.drop 1))=qq (.tuple (Rw.mk wd r.w r.args).l):=by
  have:=nG (xs:=[yAa wd.s]) (ys:=r.l.drop 1) (by simp) (by rw[yEv,aCg];simp;omega)
  rw[this];rfl
 have cf:cK r.l (qq 1) qz=r.l.drop 1:=hV r.l 1;rw[uO] at h3 ⊢;generalize r.l=RL at *;simp only[evs,cR,cL,cV,h3,h7,hc,hL,cf,c1]
theorem aJa(d:Nat)(ns:List Int)(k:Nat)(x:Int)(rs:List Rw)(r:Nat)(hr:r<rs.length)(hl:rs.length<=1000)(ar:∀ q∈rs,Ar q)(bd:∀ q∈rs,Bd q)(hk:k<=70000):∃ (aS:List Rw) (k':Nat) (x':Int),aS.length=rs.length/\(∀ q∈aS,Ar q)/\(∀ q∈aS,Bd q)/\k'<=k+4 /\
 cl fns (d+3) 30 [.loc 0,.d (.list (rs.map Rw.d)),.d (.int r)] (s0 ns k x)=qq (.d (.list (aS.map Rw.d)),s0 ns k' x'):=by
 have arr:=ar _ (lT hr);have ln:=aCg (aJ rs r);have a3:=qQ (aJ rs r).wd;rw[<- arr] at a3;have rk:=aKQ hr;have lr:cU [(aJ rs r).d]=qq (.int ((2+(aJ rs r).args.length:Nat):Int)):=by rw[uO,cZ,ln]
 obtain⟨q0,x0,hq0,d0⟩:=uP (ns:=ns) (k:=k) (x:=x) (d+1) 5 (i:=5) rfl (by decide) (by decide) (by omega)
 have bI:∀ (aS:List Rw) (k':Nat) (x':Int),xs (aF fns (d+2)) (cP aAC) [qq (.loc 0),qq (.d (.list (rs.map Rw.d))),qq (.d (.int r)),qq (.d (aJ rs r).d),qz,qz,qz,qz] (s0 ns k x)=qq (.rt (.d (.list (aS.map Rw.d))),s0 ns k' x') ->
  cl fns (d+3) 30 [.loc 0,.d (.list (rs.map Rw.d)),.d (.int r)] (s0 ns k x)=qq (.d (.list (aS.map Rw.d)),s0 ns k' x'):=λ aS k' x' e=>by
  refine cT rfl (d+2) rfl rfl (by rfl) (bM (w:=.d (aJ rs r).d) (S1:=s0 ns k x) ?_ rfl e)
  generalize rs.map Rw.d=LL at *;simp only[yAi,yCh,yBf,yCt,yBd,List.replicate_zero,List.cons_append,yCs,Nat.reduceAdd,Nat.reduceSub];simp only[evs,rk]
 by_cases c0:q0=1
 ·have t0:∀ e,tv (aF fns (d+2)) (.cmp .Eq (.call 14 (.cons (.var 0) (.cons (.int 5) .nil))) (.int 1)) (qq (.loc 0)::e) (s0 ns k x)=qq (true,s0 ns (k+1) x0):=λ e=>by
   simp only[evs,d0,cG,c0];rfl
  have q7:∀ e S,ev (aF fns (d+2)) (.fz (.lst (.cons (.str "and") (.cons (.str "or") (.cons (.str "mul") (.cons (.str "same") (.cons (.str "less") (.cons (.str "under") (.cons (.str "left") (.cons (.str "slide") .nil)))))))))) e S=qq (.d (.list (w8.map λ w=>yAa w.s)),S):=λ e S=>by simp only[evs,w8,Wd.s]
  have q5:∀ e S,ev (aF fns (d+2)) (.fz (.lst (.cons (.str "num") (.cons (.str "not") (.cons (.str "cut") (.cons (.str "wide") (.cons (.str "sign") .nil))))))) e S=qq (.d (.list (w5.map λ w=>yAa w.s)),S):=λ e S=>by simp only[evs,w5,Wd.s]
  by_cases c2:(aJ rs r).args.length=2
  ·obtain⟨q1,x1,hq1,d1⟩:=uP (ns:=ns) (k:=k+1) (x:=x0) (d+1) 8 (i:=8) rfl (by decide) (by decide) (by omega)
   obtain⟨wd,mw,ew⟩:=aGL (l:=w8) (q:=q1) hq1;have aw:eB wd=2:=by
    simp only[w8,yBa,yAs,or_false] at mw;rcases mw with rfl | rfl | rfl | rfl | rfl | rfl | rfl | rfl<;>rfl
   refine⟨(rs.take r++[⟨wd,(aJ rs r).w,(aJ rs r).args⟩])++rs.drop (r+1),k+2,x1,aBs hr,aBC ar (by show(aJ rs r).args.length=eB wd;rw[c2,aw]),aBl bd (show Bd ⟨wd,(aJ rs r).w,(aJ rs r).args⟩ from ⟨(bd _ (lT hr)).1,(bd _ (lT hr)).2⟩),by omega,bI _ _ _ (cF (t0 _) ?_)⟩
   have pr:=aBr (C:=aF fns (d+2)) (S:=s0 ns (k+1) x0) (env:=[qq (.loc 0),qq (.d (.list (rs.map Rw.d))),qq (.d (.int r)),qq (.d (aJ rs r).d),qz,qz,qz,qq (.d (.list (w8.map λ w=>yAa w.s)))]) rfl rfl (aEs (c:=.call 14 (.cons (.var 0) (.cons (.int 8) .nil))) (S1:=s0 ns (k+2) x1) rfl rfl (by simp only[evs,d1]) ew (by omega)) hl
   have u1:decide (((2+(aJ rs r).args.length:Nat):Int)<4)=false:=dqF (by omega)
   have u2:(((2+(aJ rs r).args.length:Nat):Int)==4)=true:=by rw[c2];rfl
   generalize (aJ rs r).d=R at *;generalize rs.map Rw.d=LL at *;refine bM (q7 _ _) rfl (bS (S1:=s0 ns (k+1) x0) ?_ (cF (S1:=s0 ns (k+1) x0) ?_ (bG pr)))
   ·simp only[evs,lr,dE,u1]
   ·simp only[evs,lr,cG,u2]
  by_cases c1:(aJ rs r).args.length=1
  ·obtain⟨q1,x1,hq1,d1⟩:=uP (ns:=ns) (k:=k+1) (x:=x0) (d+1) 5 (i:=5) rfl (by decide) (by decide) (by omega)
   obtain⟨wd,mw,ew⟩:=aGL (l:=w5) (q:=q1) hq1;have aw:eB wd=1:=by
    simp only[w5,yBa,yAs,or_false] at mw;rcases mw with rfl | rfl | rfl | rfl | rfl<;>rfl
   refine⟨(rs.take r++[⟨wd,(aJ rs r).w,(aJ rs r).args⟩])++rs.drop (r+1),k+2,x1,aBs hr,aBC ar (by show(aJ rs r).args.length=eB wd;rw[c1,aw]),aBl bd (show Bd ⟨wd,(aJ rs r).w,(aJ rs r).args⟩ from ⟨(bd _ (lT hr)).1,(bd _ (lT hr)).2⟩),by omega,bI _ _ _ (cF (t0 _) ?_)⟩
   have pr:=aBr (C:=aF fns (d+2)) (S:=s0 ns (k+1) x0) (env:=[qq (.loc 0),qq (.d (.list (rs.map Rw.d))),qq (.d (.int r)),qq (.d (aJ rs r).d),qz,qz,qz,qq (.d (.list (w5.map λ w=>yAa w.s)))]) rfl rfl (aEs (c:=.call 14 (.cons (.var 0) (.cons (.int 5) .nil))) (S1:=s0 ns (k+2) x1) rfl rfl (by simp only[evs,d1]) ew (by omega)) hl
   have u1:decide (((2+(aJ rs r).args.length:Nat):Int)<4)=true:=dqT (by omega)
   have u2:(((2+(aJ rs r).args.length:Nat):Int)==4)=false:=by rw[c1];rfl
   have u3:(((2+(aJ rs r).args.length:Nat):Int)==3)=true:=by rw[c1];rfl
   generalize (aJ rs r).d=R at *;generalize rs.map Rw.d=LL at *;refine bM (q7 _ _) rfl (dY (iW (S1:=s0 ns (k+1) x0) ?_ (jL (q5 _ _))) (bS (S1:=s0 ns (k+1) x0) ?_ (cF (S1:=s0 ns (k+1) x0) ?_ (bG pr))))
   ·simp only[evs,lr,dE,u1]
   ·simp only[evs,lr,cG,u2]
   ·simp only[evs,lr,cG,u3]
  ·have u2:(((2+(aJ rs r).args.length:Nat):Int)==4)=false:=by rw[beq_eq_false_iff_ne];omega
   have u3:(((2+(aJ rs r).args.length:Nat):Int)==3)=false:=by rw[beq_eq_false_iff_ne];omega
   have tk:∀ a7,∃ (aS:List Rw) (x':Int),aS.length=rs.length/\(∀ q∈aS,Ar q)/\(∀ q∈aS,Bd q)/\_:=λ a7=>aFS d ns (k+1) x0 rs r hr hl ar bd (by omega) a7
   by_cases c3:(aJ rs r).args.length=0
   ·obtain⟨aS,x',l',m',n',e'⟩:=tk (qq (.d (.list (w5.map λ w=>yAa w.s))))
    refine⟨aS,k+4,x',l',m',n',by omega,bI _ _ _ (dY (iW (t0 _) ?_) e')⟩
    have u1:decide (((2+(aJ rs r).args.length:Nat):Int)<4)=true:=dqT (by omega)
    generalize (aJ rs r).d=R at *;generalize rs.map Rw.d=LL at *;refine bM (q7 _ _) rfl (dY (iW (S1:=s0 ns (k+1) x0) ?_ (jL (q5 _ _))) (bS (S1:=s0 ns (k+1) x0) ?_ (bS (S1:=s0 ns (k+1) x0) ?_ rfl)))
    ·simp only[evs,lr,dE,u1]
    ·simp only[evs,lr,cG,u2]
    ·simp only[evs,lr,cG,u3]
   ·obtain⟨aS,x',l',m',n',e'⟩:=tk (qq (.d (.list (w8.map λ w=>yAa w.s))))
    refine⟨aS,k+4,x',l',m',n',by omega,bI _ _ _ (dY (iW (t0 _) ?_) e')⟩
    have u1:decide (((2+(aJ rs r).args.length:Nat):Int)<4)=false:=dqF (by omega)
    generalize (aJ rs r).d=R at *;generalize rs.map Rw.d=LL at *;refine bM (q7 _ _) rfl (bS (S1:=s0 ns (k+1) x0) ?_ (bS (S1:=s0 ns (k+1) x0) ?_ (bS (S1:=s0 ns (k+1) x0) ?_ rfl)))
    ·simp only[evs,lr,dE,u1]
    ·simp only[evs,lr,cG,u2]
    ·simp only[evs,lr,cG,u3]
 ·have c0':(((q0:Nat):Int)==1)=false:=by rw[beq_eq_false_iff_ne];omega
  obtain⟨aS,x',l',m',n',e'⟩:=aFS d ns (k+1) x0 rs r hr hl ar bd (by omega) qz
  refine⟨aS,k+4,x',l',m',n',by omega,bI _ _ _ (bS (S1:=s0 ns (k+1) x0) ?_ e')⟩
  generalize (aJ rs r).d=R at *;generalize rs.map Rw.d=LL at *;simp only[evs,d0,cG,c0']
theorem aDQ(d:Nat)(p:Str×List Nat)(h:LnOk p)(S:aC):cl fns (d+1) 37 [.d (.str (aN p))] S=qq (.d (cX p),S):=by
 have hl:=aBE h;have hpl:=h.l;have sp:∀ e,ev (aF fns d) (.fz (.spl (.var 0) (.str " "))) (qq (.d (.str (aN p)))::e) S=qq (.d (.list ((aY p).map yAa)),S):=λ e=>tQ fN rfl (by unfold aY;simp) (λ x m z=>((lI h x m).c 32 z).2.1 rfl) (by show(aN p).length<=_;omega)
 have i0:bC (.list ((aY p).map yAa)) (.int 0)=qq (.str p.1):=eR (k:=0) rfl;have cf:cK ((aY p).map yAa) (qq 1) qz=p.2.map λ n=>yAa (bJ n):=by
  rw[show(qq (1:Int))=qq ((1:Nat):Int) from rfl,hV]
  unfold aY;rw[yAi,yAx];rfl
 have ct:bK .Add (.tuple [.str p.1]) (.tuple (p.2.map nD))=qq (cX p):=by
  rw[nG (by simp) (by simp;omega)]
  rfl
 refine cT rfl d rfl rfl yAf (bM (sp _) rfl ?_);show xs (aF fns d) _ [qq (.d (.str (aN p))),qq (.d (.list ((aY p).map yAa))),qz] S=_;have hc:lv (aF fns d) aDh [qq (.d (.str (aN p))),qq (.d (.list ((aY p).map yAa))),qz] S=qq (p.2.map nD,S):=by
  refine fW (fi:=lv (aF fns d) (.it (.sl (.var 1) (.cons (.int 1) .nil) .no))) (fe:=ev (aF fns d) (.itx (.var 2))) (λ n=>.str (bJ n)) nD p.2 ?_ (by rw[qo];omega) λ a ha=>?_
  ·generalize (aY p).map yAa=P at *;simp only[evs,dP,cR,cL,cV,cf]
  ·refine⟨_,rfl,λ S'=>?_⟩
   have hi:=aE6 (h.n a ha);have hz:(bJ a).length<=640:=xAg (nY (h.n a ha)) (by decide)
   simp only[evs,clr,yAj,yAl,rF,hz,hi];rfl
 generalize (aY p).map yAa=P at *;generalize yGb nD p.2=TL at *;exact bG (by simp only[evs,i0,hc,qU,qL,ct])
theorem aOa(l:List D)(b:D):bC (.list (l++[b])) (.int (-1))=qq b:=by
 show gQ (l++[b]) (-1)=_;have e:gF (l++[b]).length (-1)=qq l.length:=by
  unfold gF;rw[if_neg (by decide),if_pos (by simp;omega)]
  simp;omega
 unfold gQ;rw[e];simp
theorem aNj{z:Str}(h:eG (Txt.split z " ")=true):∃ aB:List Nat,(∀ o∈aB,o<10^20)/\1<=aB.length/\aB.length<=8/\z=cO aB:=by
 obtain⟨w,t,es⟩:=sJ z;rw[es] at h;obtain⟨aB,h1,h2,h3,e⟩:=aJM h;refine⟨aB,h1,h2,h3,?_⟩;rw[<- sI z,es,e];rfl
theorem aMC{zs:List Str}{o:Str}(h:iO zs o=qz):∃ (rs:List Rw) (aB:List Nat),(∀ r∈rs,Ar r)/\(∀ r∈rs,Bd r)/\(∀ o∈aB,o<10^20)/\1<=aB.length/\aB.length<=8/\zs=rs.map bH/\o=cO aB:=by
 unfold iO at h;cases hb:iF zs 0 with
 | some k=>rw[hb] at h;cases h
 | none =>
   rw[hb] at h
   by_cases c:eG (Txt.split o " ")=true
   ·obtain⟨rs,a,b,e⟩:=aBF hb;obtain⟨aB,h1,h2,h3,e2⟩:=aNj c;exact⟨rs,aB,a,b,h1,h2,h3,e,e2⟩
   ·rw[if_neg c] at h;cases h
theorem aFm(f:Ft4):bA .Eq (.str f.s) (.str "good")=qq (.bool false):=by cases f<;>kernel_rfl
theorem aEM:bA .Eq (.str "good") (.str "good")=qq (.bool true):=by kernel_rfl
theorem aKk:bA .Eq (.str "line") (.str "good")=qq (.bool false):=by kernel_rfl
theorem aKs(d:Nat)(w:W)(zs:List Str)(o:Str)(ln:∀ z∈zs,Ln z)(lo:Ln o)(lz:zs.length<=100)(S:aC)(hw:vZ w (zs++[o]) S)(j:Nat)(hj:iO zs o=qq j):cl fns (d+4) 38 [w] S=qq (.d (.tuple [.str "line",.int j]),S):=by
 have fb:=aFk d w zs o ln lo lz S hw;rw[hj] at fb;have fb:cl fns (d+3) 34 [w] S=qq (.d (.int j),S):=fb;have c:decide ((0:Int)<=((j:Nat):Int))=true:=dqT (by omega)
 refine cT rfl (d+3) rfl rfl yAf ?_;show xs (aF fns (d+3)) _ [qq w,qz,qz,qz,qz,qz] S=_;refine bM (w:=.d (.int j)) (S1:=S) (by simp only[evs,fb]) rfl (cF (S1:=S) (by simp only[evs,lH,c]) (bG (by simp only[evs])))
theorem aOd(G:D)(z:Ft4×Nat):aHG G (qq z)=kS (qq z):=rfl
theorem aJS(d:Nat)(w:W)(rs:List Rw)(aB:List Nat)(ar:∀ r∈rs,Ar r)(bd:∀ r∈rs,Bd r)(bo:∀ o∈aB,o<10^20)(l8:aB.length<=8)(ln:∀ z∈rs.map bH,Ln z)(lo:Ln (cO aB))(lr:rs.length<=100)(S:aC)(hw:vZ w (rs.map bH++[cO aB]) S)(hj:iO (rs.map bH) (cO aB)=qz):cl fns (d+4) 38 [w] S=qq (.d (aCs rs aB (gU rs aB)),S):=by
 have fb:=aFk d w (rs.map bH) (cO aB) ln lo (by rw[yAb];exact lr) S hw
 rw[hj] at fb;have fb:cl fns (d+3) 34 [w] S=qq (.d (.int (-1)),S):=fb;have c:decide ((0:Int)<=(-1:Int))=false:=rfl;have em:(rs.map bH++[cO aB]).map yAa=(rs.map bH).map yAa++[.str (cO aB)]:=by rw[yAn];rfl
 have hd:w=.d (.list ((rs.map bH).map yAa++[.str (cO aB)]))\/∃ n,w=.loc n/\S[n]? = qq (qq ((rs.map bH).map yAa++[.str (cO aB)])):=by rw[<- em];exact hw
 have ci:=aEO ((rs.map bH).map yAa) (.str (cO aB));have il:=aOa ((rs.map bH).map yAa) (.str (cO aB));have un:rT .USub (.int 1)=qq (.int (-1)):=rfl;have du:=aNK d rs aB ar (by omega) (by omega) S
 have ro:=aDQ (d+2) ("out",aB) (aB2 bo l8) S;have ro:cl fns (d+3) 37 [.d (.str (cO aB))] S=qq (.d (.tuple (.str "out" :: aB.map nD)),S):=ro;have co:cK (yAa "out" :: aB.map nD) (qq 1) qz=aB.map nD:=hV _ 1;have hc:lv (aF fns (d+3)) aDi [qq w,qq (.d (.int (-1))),qz,qz,qz,qz] S=qq (rs.map Rw.d,S):=by
  refine fW (fi:=lv (aF fns (d+3)) (.it (.sl (.var 0) .no (.cons (.un .USub (.int 1)) .nil)))) (fe:=ev (aF fns (d+3)) (.call 37 (.cons (.var 5) .nil))) (λ r=>.str (bH r)) Rw.d rs ?_ (by rw[qo];omega) λ a ha=>?_
  ·rw[show(rs.map λ r=>yAa (bH r))=(rs.map bH).map yAa by rw[yAx];rfl]
   generalize (rs.map bH).map yAa=RL at *;generalize RL++[.str (cO aB)]=LL at *;rcases hd with rfl | ⟨n,rfl,hd⟩
   ·simp only[evs,dP,cR,cL,cV,un,ci]
   ·simp only[evs,dP,cR,cL,cV,un,hd,ci]
  ·refine⟨_,rfl,λ S'=>?_⟩
   have:=aDQ (d+2) (rN a) (aBO (ar a ha) (bd a ha)) S';have:cl fns (d+3) 37 [.d (.str (bH a))] S'=qq (.d a.d,S'):=this;simp only[evs,clr,yAj,yAl,this]
 have tu:oN [.list (rs.map Rw.d)]=qq (.tuple (rs.map Rw.d)):=rfl;refine cT rfl (d+3) rfl rfl yAf ?_;show xs (aF fns (d+3)) _ [qq w,qz,qz,qz,qz,qz] S=_;generalize (rs.map bH).map yAa=RL at *;unfold aCs bE;generalize rs.map Rw.d=RT at *;generalize aB.map nD=OT at *;generalize cO aB=OS at *;refine bM (w:=.d (.int (-1))) (S1:=S) (by simp only[evs,fb]) rfl (bS (S1:=S) (by simp only[evs,lH,c]) ?_)
 refine bM (w:=.d (.tuple RT)) (S1:=S) (by simp only[evs,yBc,yBh,hc,tu]) rfl ?_
 refine bM (w:=.d (.tuple OT)) (S1:=S) ?_ rfl ?_
 ·simp only[yBc,yBh];generalize RL++[.str OS]=LL at *;rcases hd with rfl | ⟨n,rfl,hd⟩
  ·simp only[evs,un,il,ro,cR,cL,cV,co]
  ·simp only[evs,hd,un,il,ro,cR,cL,cV,co]
 refine bM (w:=.d (kS (gU rs aB))) (S1:=S) (by simp only[yBc,yBh];simp only[evs,du]) rfl ?_
 show xs (aF fns (d+3)) _ [qq w,qq (.d (.int (-1))),qq (.d (.tuple RT)),qq (.d (.tuple OT)),qq (.d (kS (gU rs aB))),qz] S=_;cases hz:gU rs aB with
 | none =>
   have i0:bC (kS qz) (.int 0)=qq (.str "good"):=rfl;refine cF (S1:=S) ?_ (bG ?_)
   ·generalize kS qz=D0 at *;simp only[evs,i0,aEM]
   ·simp only[evs];rfl
 | some z =>
   have i0:bC (kS (qq z)) (.int 0)=qq (.str z.1.s):=rfl;have eg:=aFm z.1;refine bS (S1:=S) ?_ (bG ?_)
   ·generalize kS (qq z)=D0 at *;simp only[evs,i0,eg]
   ·rw[aOd];simp only[evs]
noncomputable def t25:List (Str×Option Nat×List Hs):=[("NoLine",qq 2,[.tup 1 [.str "line",.row 2]]),("NoWidth",qq 2,[.tup 1 [.str "width",.row 2]]),("NoRow",qq 2,[.tup 1 [.str "row",.row 2]]),("NoFit",qq 2,[.tup 1 [.str "fit",.row 2]]),("NoNumber",qq 2,[.tup 1 [.str "number",.row 2]])]
theorem aQu:aE "NoLine" "NoLine" = qq true:=by kernel_rfl
theorem aQq(f:Ft4):aE f.c "NoLine" = qq false:=by cases f<;>kernel_rfl
theorem aLD(k:Int)(P:D)(a:Option W)(S:aC):dS aE "NoLine" (.int k) (t25.map λ h=>⟨h.1,h.2.1,iY aE h.2.2⟩) [qq (.d P),a,qz] S=qq (.nx [qq (.d P),qq (.d (.tuple [.str "line",.int k])),qz],S):=by
 simp only[evs,t25,yAi,yCh,dS,aQu,iY,dL,hv,mB,pD,rJ,uX]
theorem aMW(f:Ft4)(k:Int)(P:D)(a:Option W)(S:aC):dS aE f.c (.int k) (t25.map λ h=>⟨h.1,h.2.1,iY aE h.2.2⟩) [qq (.d P),a,qz] S=qq (.nx [qq (.d P),qq (.d (.tuple [.str f.s,.int k])),qz],S):=by
 have h:=aMK f k P a S;rw[<- h];show dS aE f.c (.int k) (_::tHs.map λ h=>⟨h.1,h.2.1,iY aE h.2.2⟩) _ _=_
 generalize tHs.map (λ h=>(⟨h.1,h.2.1,iY aE h.2.2⟩:Hd))=HH at *
 simp only[dS,aQq]
inductive Rdd:ResX->D->Prop
 | good (G:D):Rdd (.ok (.d G)) (.tuple [.str "good",G])
 | line (j:Int):Rdd (.ex "NoLine" (.int j)) (.tuple [.str "line",.int j])
 | row (z:Ft4×Nat):Rdd (.ex z.1.c (.int (z.2:Nat))) (.tuple [.str z.1.s,.int (z.2:Nat)])
noncomputable def rdF(P:D)(a:Option W):ResX->FlX
 | .ok w=>.fl (.nx [qq (.d P),qq (match w with | .d G=>.d (.tuple [.str "good",G]) | w=>w),qz])
 | .ex c r=>.ex [qq (.d P),a,qz] c r
theorem aBX(d:Nat)(P:D)(S:aC){R:ResX}{y:D}(hr:Rdd R y)(lo:dI fns gns aE (d+5) 42 [.d P] S=qq (R,S)):bZ fns gns aE (d+6) 44 [.d P] S=qq (.d y,S):=by
 rw[show bZ fns gns aE (d+6) 44=bZ fns gns aE (d+6) (fns.length+5) from rfl,tO rfl (d+5) _ S rfl]
 unfold iI;show mP (fG (xx (aG fns gns aE (d+5)).1 (aG fns gns aE (d+5)).2 aE aDM) 3) [.d P] S=_;have e:∀ a,xx (aG fns gns aE (d+5)).1 (aG fns gns aE (d+5)).2 aE (.pair 1 "good" 42 (.cons (.var 0) .nil)) [qq (.d P),a,qz] S=qq (rdF P a R,S):=λ a=>by
  show jB 1 (yF "good" (iD (aG fns gns aE (d+5)).2 42 (av (aG fns gns aE (d+5)).1 (.cons (.var 0) .nil)))) _ S=_;have:av (aG fns gns aE (d+5)).1 (.cons (.var 0) .nil) [qq (.d P),a,qz] S=qq ([.d P],S):=by simp only[evs]
  unfold jB yF;rw[pW,this,oB,lo];cases hr<;>rfl
 generalize (aG fns gns aE (d+5)).1=C at *;generalize (aG fns gns aE (d+5)).2=CX at *;refine aOF rfl (xk (dG (fl:=.nx [qq (.d P),qq (.d (.tuple [.str "none",.int 0])),qz]) (S1:=S) (by simp only[evs])) ?_)
 refine xk (e1:=[qq (.d P),qq (.d y),qz]) (S1:=S) ?_ (xX (dG (by simp only[evs])))
 show zJ aE (xx C CX aE (.seq (.pair 1 "good" 42 (.cons (.var 0) .nil)) .skip)) (t25.map λ h=>⟨h.1,h.2.1,iY aE h.2.2⟩) _ S=_
 unfold zJ;cases hr with
 | good G=>rw[xk (e _) rfl];rfl
 | line j =>
   rw[eE (e _),oB];show(dS aE "NoLine" (.int j) _ _ S).bind _=_;rw[aLD];rfl
 | row z =>
   rw[eE (e _),oB];show(dS aE z.1.c (.int (z.2:Nat)) _ _ S).bind _=_;rw[aMW];rfl
theorem aEv(d:Nat)(rs:List Rw)(aB:List Nat)(ar:∀ r∈rs,Ar r)(bd:∀ r∈rs,Bd r)(bo:∀ o∈aB,o<10^20)(lr:rs.length<=100)(lo:aB.length<=8)(S:aC):bZ fns gns aE (d+1) 43 [.d (bE rs aB)] S=qq (.loc S.length,S++[qq (((bF rs aB).map aN).map yAa)]):=by
 have lk:=sS ar bd bo lo;have ll:(bF rs aB).length<=200:=by unfold bF;simp;omega
 obtain⟨a2,lp⟩:=aEx (aG fns gns aE d).1 S (bE rs aB) (bF rs aB) [] qz lk (by simp;omega)
 have ct:bK .Add (.tuple [.str "out"]) (.tuple (aB.map nD))=qq (cX ("out",aB)):=by
  rw[nG (by simp) (by simp;omega)]
  rfl
 have el:(bF rs aB).map cX=rs.map Rw.d++[cX ("out",aB)]:=by
  unfold bF;rw[yAn,yAx];rfl
 have ct2:bK .Add (.tuple (rs.map Rw.d)) (.tuple [cX ("out",aB)])=qq (.tuple ((bF rs aB).map cX)):=by
  rw[el]
  by_cases z:rs=[]
  ·subst z;rfl
  ·exact nG (λ q=>z (List.map_eq_nil_iff.mp q)) (by simp;omega)
 have i0:bC (bE rs aB) (.int 0)=qq (.tuple (rs.map Rw.d)):=rfl;have i1:bC (bE rs aB) (.int 1)=qq (.tuple (aB.map nD)):=rfl;rw[yCs] at lp;have gl:=wZ S (((bF rs aB).map aN).map yAa);rw[show bZ fns gns aE (d+1) 43=bZ fns gns aE (d+1) (fns.length+4) from rfl,tO rfl d _ S rfl]
 generalize ((bF rs aB).map aN).map yAa=L2 at *;generalize (bF rs aB).map cX=LD at *;generalize cX ("out",aB)=OD at *;generalize bE rs aB=P at *;have H:xs (aG fns gns aE d).1 wM [qq (.d P),qz,qz,qz] S=qq (.rt (.loc S.length),S++[qq L2]):=by
  refine bM (w:=.loc S.length) (S1:=S++[qq []]) (by simp only[evs,gM]) rfl (dY (e1:=[qq (.d P),qq (.loc S.length),a2,qz]) (S1:=S++[qq L2]) ?_ (bG ?_))
  ·show gZ (.one 2) (lv (aG fns gns aE d).1 wK) (xs (aG fns gns aE d).1 pV) [qq (.d P),qq (.loc S.length),qz,qz] (S++[qq []])=_;have it:lv (aG fns gns aE d).1 wK [qq (.d P),qq (.loc S.length),qz,qz] (S++[qq []])=qq (LD,S++[qq []]):=by
    simp only[evs,wK,dP,i0,i1,ct,ct2]
   unfold gZ;rw[it,oB];exact lp
  ·simp only[evs]
 show zB (xs (aG fns gns aE d).1 wM) 4 [.d P] S=_;unfold zB;show((xs (aG fns gns aE d).1 wM [qq (.d P),qz,qz,qz] S).bind _)=_;rw[H,oB];simp only[yBi,if_false,gl];rw[yEn]
theorem nM(d:Nat)(T:aC)(hT:T.length<=40)(ns:List Int)(k:Nat)(x:Int)(m:Nat){i:Int}(hi:i=(m:Nat))(hm:0<m)(hm2:m<2^64)(hk:k<=100000):∃ (r:Nat) (x':Int),r<m/\bZ fns gns aE (d+1) 14 [.loc 0,.d (.int i)] (sT T ns k x)=qq (.d (.int r),sT T ns (k+1) x'):=by
 obtain⟨r,x',h1,h2⟩:=tN (ns:=ns) (k:=k) (x:=x) T hT d m hm hm2 hk;rw[<- hi] at h2;exact⟨r,x',h1,(fK d 14 _ _ (by decide)).trans h2⟩
theorem aJg{L:List Str}(h:∀ z∈L,Ln z)(hl:L.length<=101):oU (.str "\n") (.list (L.map yAa))=qq (.str (Txt.join "\n" L)):=by
 refine mK nl1 ?_;have s:=lK (λ p:Str=>p.length) 2000 L λ x m=>(h x m).l
 omega
theorem aLe(rs:List Rw)(aB:List Nat):fZ (rs.map bH) (cO aB)=fQ rs aB:=by
 unfold fZ fQ bF;rw[yAn,yAx];rfl
theorem aDG:∀ {rs:List Rw}{ws:List Nat} (n:Nat),dF ws rs->dF ws (rs.take n)
 | _,_,0,_=>trivial
 | [],_,_+1,h=>h
 | _::_,_,n+1,⟨h1,h2⟩=>⟨h1,aDG n h2⟩
theorem aL4(j:Int):Pl 1 (.tuple [.str "line",.int j]):=.tup (λ t m=>by
 rcases List.mem_cons.mp m with rfl | m
 ·exact .str (by kernel_rfl)
 ·rcases List.mem_cons.mp m with rfl | m
  ·exact .int
  ·cases m) (by simp)
theorem aNg{zs:List Str}{o:Str}(ln:∀ z∈zs++[o],Ln z):bA .NotEq (.str (fZ zs o)) (.str (fZ zs o))=qq (.bool false):=by
 have h:yBs (fZ zs o)=true:=tB λ c m=>by
  unfold fZ at m;rw[qW] at m;rcases wY m with rfl | ⟨p,mp,mc⟩
  ·decide
  ·exact(ln p mp).a c mc
 rw[sY h h,beq_self_eq_true];rfl
theorem aKz(d:Nat)(w:W)(zs:List Str)(o:Str)(ln:∀ z∈zs++[o],Ln z)(lz:zs.length<=100)(S:aC)(hw:vZ w (zs++[o]) S):∃ y,bZ fns gns aE (d+6) 44 [.d (.str (fZ zs o))] S=qq (.d y,S)/\bZ fns gns aE (d+6) 38 [w] S=qq (.d y,S)/\bA .NotEq y y=qq (.bool false) /\
 ((∃ e0,bC y (.int 0)=qq (.str e0)/\bA .Eq (.str e0) (.str "good")=qq (.bool false))\/(∃ G,bC y (.int 0)=qq (.str "good")/\bC y (.int 1)=qq G/\∀ S,bZ fns gns aE (d+6) 13 [.d G] S=qq (.d (.str (fZ zs o)),S))):=by
 have l1:∀ z∈zs,Ln z:=λ z m=>ln z (yBx _ m)
 have l2:Ln o:=ln o (xAk _ xAd);have up:∀ {y},cl fns (d+6) 38 [w] S=qq (.d y,S)->bZ fns gns aE (d+6) 38 [w] S=qq (.d y,S):=λ h=>(fK (d+5) 38 _ _ (by decide)).trans h
 cases hf:iO zs o with
 | some j=>exact⟨_,aBX d _ S (.line (j:Nat)) (aKW d zs o l1 l2 lz j hf S),up (aKs (d+2) w zs o l1 l2 lz S hw j hf),(aL4 _).ne (by decide),.inl ⟨"line",rfl,aKk⟩⟩
 | none =>
   obtain⟨rs,aB,ar,bd,bo,o1,o8,rfl,rfl⟩:=aMC hf;rw[yAb] at lz;have rd:=aBH d rs aB ar bd bo lz o1 o8 S;have td:=up (aJS (d+2) w rs aB ar bd bo o8 l1 l2 lz S hw hf);rw[aLe];have pn:=(aO5 ar lz o8 (gU rs aB)).ne (by decide)
   cases hz:gU rs aB with
   | none =>
     rw[hz] at rd td pn;exact⟨_,aBX d _ S (.good _) rd,td,pn,.inr ⟨_,rfl,rfl,λ S=>(fK (d+5) 13 _ _ (by decide)).trans (aBp (d+4) rs aB ar bd bo lz o8 S)⟩⟩
   | some z =>
     rw[hz] at rd td pn;exact⟨_,aBX d _ S (.row z) rd,td,pn,.inl ⟨z.1.s,rfl,aFm z.1⟩⟩
noncomputable def aRr:Sx:=cP (cP (cP (cP (cP (cP (cP (cP (cP (cP (cP mZ))))))))))
theorem aKO(d:Nat)(ns:List Int)(k:Nat)(x:Int)(hk:k<=90000)(rs0:List Rw)(aB:List Nat)(s:D)(a2 a3 a5 a6 a7 a9 aD:Option W)(zs:List Str)(o:Str)(ok:dF [] rs0)(h0:∀ o∈aB,o<rs0.length)(l0:1<=rs0.length)(l1:rs0.length<=100)(o1:1<=aB.length)(o8:aB.length<=8)
 (ln:∀ z∈zs++[o],Ln z) (lz:zs.length<=100):∃ S',
 xs (aG fns gns aE (d+6)).1 aRr [qq (.d s),qq (.loc 0),a2,a3,qq (.d (bE rs0 aB)),a5,a6,a7,qq (.loc 1),a9,qz,qz,qz,aD] (sT [qq ((zs++[o]).map yAa)] ns k x)=qq (.rt (.d (.bool true)),S'):=by
 have ar0:=wV ok;have bd0:=wU ok (by simp;omega)
 have bo:∀ o∈aB,o<10^20:=λ o m=>by have:=h0 o m;omega
 have gl:=aEj ok h0;have jw:oU (.str "\n") (.list ((zs++[o]).map yAa))=qq (.str (fZ zs o)):=aJg ln (by simp;omega)
 obtain⟨y,f1,f2,f3,f4⟩:=aKz d (.loc 1) zs o ln lz (sT [qq ((zs++[o]).map yAa)] ns k x) (.inr ⟨1,rfl,rfl⟩);have f5:=aNg ln;have rd:∀ S,bZ fns gns aE (d+6) 42 [.d (.str (fQ rs0 aB))] S=qq (.d (bE rs0 aB),S):=λ S=>by
  have rd:=aBH (d+1) rs0 aB ar0 bd0 bo l1 o1 o8 S;rw[gl] at rd;exact aDY (g:=3) rfl rfl (d+5) _ S rfl rd
 have ne:=(aCi ar0 l1 o8).ne (by decide)
 have lk:=sS ar0 bd0 bo o8;have jg:oU (.str "\n") (.list (((bF rs0 aB).map aN).map yAa))=qq (.str (fQ rs0 aB)):=mK nl1 (xAg (aA0 lk (by unfold bF;simp;omega)) (by decide))
 have tx:=λ S=>aEv (d+5) rs0 aB ar0 bd0 bo l1 o8 S
 have wr:∀ S,bZ fns gns aE (d+6) 13 [.d (bE rs0 aB)] S=qq (.d (.str (fQ rs0 aB)),S):=λ S=>(fK (d+5) 13 _ _ (by decide)).trans (aBp (d+4) rs0 aB ar0 bd0 bo l1 o8 S)
 have tn:bA .NotEq (.str (fQ rs0 aB)) (.str (fQ rs0 aB))=qq (.bool false):=by
  have h:=aK8 lk;have h:yBs (fQ rs0 aB)=true:=h;rw[sY h h,beq_self_eq_true];rfl
 obtain⟨q,x5,hq,d5⟩:=nM (d+5) [qq ((zs++[o]).map yAa),qq (((bF rs0 aB).map aN).map yAa),qq (((bF rs0 aB).map aN).map yAa)] (by simp) ns k x rs0.length (i:=(rs0.length:Nat)) rfl (by omega) (by omega) (by omega)
 have ok1:=aDG (1+q) ok;have l2:(rs0.take (1+q)).length=1+q:=by rw[yAy];omega
 have rV:=wV ok1;have bd1:=wU ok1 (by simp;omega)
 have h1:∀ o∈[q],o<(rs0.take (1+q)).length:=λ o m=>by rw[List.mem_singleton.mp m,l2];omega
 have b1:∀ o∈[q],o<10^20:=λ o m=>by rw[List.mem_singleton.mp m];omega
 have g1:=aEj ok1 h1;have rd1:∀ S,bZ fns gns aE (d+6) 42 [.d (.str (fQ (rs0.take (1+q)) [q]))] S=qq (.d (bE (rs0.take (1+q)) [q]),S):=λ S=>by
  have rd:=aBH (d+1) (rs0.take (1+q)) [q] rV bd1 b1 (by omega) (by simp) (by simp) S
  rw[g1] at rd;exact aDY (g:=3) rfl rfl (d+5) _ S rfl rd
 have wr1:∀ S,bZ fns gns aE (d+6) 13 [.d (bE (rs0.take (1+q)) [q])] S=qq (.d (.str (fQ (rs0.take (1+q)) [q])),S):=λ S=>(fK (d+5) 13 _ _ (by decide)).trans (aBp (d+4) _ [q] rV bd1 b1 (by omega) (by simp) S)
 have e1:=(aCi rV (by omega) (show [q].length<=8 by simp)).cmp (by decide)
 have ep:bE (rs0.take (1+q)) [q]=.tuple [.tuple ((rs0.take (1+q)).map Rw.d),.tuple [.int q]]:=rfl;rw[ep] at rd1 wr1 e1;have ct:cK (rs0.map Rw.d) qz (qq ((1+q:Nat):Int))=(rs0.take (1+q)).map Rw.d:=by rw[qK,yFc]
 have ll:cU [.tuple ((rs0.take (1+q)).map Rw.d)]=qq (.int ((1+q:Nat):Int)):=by rw[cZ,yAb,l2]
 have l3:cU [.tuple (rs0.map Rw.d)]=qq (.int rs0.length):=by rw[cZ,yAb]
 have ea:(1:Int)+((q:Nat):Int)=((1+q:Nat):Int):=by omega
 have es:((1+q:Nat):Int)-1=((q:Nat):Int):=by omega
 have i0:bC (bE rs0 aB) (.int 0)=qq (.tuple (rs0.map Rw.d)):=rfl;refine⟨sT [qq ((zs++[o]).map yAa),qq (((bF rs0 aB).map aN).map yAa),qq (((bF rs0 aB).map aN).map yAa)] ns (k+1) x5,?_⟩;have tx1:=tx (sT [qq ((zs++[o]).map yAa)] ns k x);have tx2:=tx (sT [qq ((zs++[o]).map yAa),qq (((bF rs0 aB).map aN).map yAa)] ns k x);have tx1:bZ fns gns aE (d+6) 43 [.d (bE rs0 aB)] (sT [qq ((zs++[o]).map yAa)] ns k x)=qq (.loc 2,sT [qq ((zs++[o]).map yAa),qq (((bF rs0 aB).map aN).map yAa)] ns k x):=tx1;have tx2:bZ fns gns aE (d+6) 43 [.d (bE rs0 aB)] (sT [qq ((zs++[o]).map yAa),qq (((bF rs0 aB).map aN).map yAa)] ns k x)=qq (.loc 3,sT [qq ((zs++[o]).map yAa),qq (((bF rs0 aB).map aN).map yAa),qq (((bF rs0 aB).map aN).map yAa)] ns k x):=tx2;clear tx;generalize ((bF rs0 aB).map aN).map yAa=GL at *;have g0:(sT [qq ((zs++[o]).map yAa)] ns k x)[1]? = qq (qq ((zs++[o]).map yAa)):=rfl;generalize (zs++[o]).map yAa=LL at *;have g2:(sT [qq LL,qq GL] ns k x)[2]? = qq (qq GL):=rfl;have g3:(sT [qq LL,qq GL,qq GL] ns k x)[3]? = qq (qq GL):=rfl;generalize sT [qq LL] ns k x=S1 at *;generalize sT [qq LL,qq GL] ns k x=S2 at *;generalize sT [qq LL,qq GL,qq GL] ns k x=S3 at *;generalize sT [qq LL,qq GL,qq GL] ns (k+1) x5=S4 at *;generalize bE rs0 aB=G at *;generalize fQ rs0 aB=TX at *;generalize fQ (rs0.take (1+q)) [q]=TY at *;generalize (rs0.take (1+q)).map Rw.d=RT1 at *;generalize rs0.map Rw.d=RT0 at *;generalize fZ zs o=TZ at *;refine bM (w:=.d (.str TZ)) (S1:=S1) (by simp only[evs,jX,g0,jw]) rfl ?_
 refine bM (w:=.d y) (S1:=S1) (by simp only[yBc,yBh];simp only[evs,cS,f1]) rfl ?_
 show xs (aG fns gns aE (d+6)).1 _ [qq (.d s),qq (.loc 0),a2,a3,qq (.d G),a5,a6,a7,qq (.loc 1),a9,qq (.d (.str TZ)),qq (.d y),qz,aD] S1=_;refine bS (S1:=S1) ?_ (bS (S1:=S3) ?_ (bM (w:=.d (.tuple RT1)) (S1:=S4) ?_ rfl (bG ?_)))
 ·rcases f4 with ⟨e0,j0,c0⟩ | ⟨G2,j0,j1,w1⟩
  ·simp only[evs,cS,f2,f3,j0,c0]
  ·simp only[evs,cS,f2,f3,j0,aEM,j1,w1,f5]
 ·simp only[evs,cS,tx1,jX,g2,jg,rd,ne,wr,tx2,g3,tn]
 ·simp only[evs,cS,i0,l3,d5,cY,ea,cR,cL,cV,ct]
 ·simp only[yBc,yBh];simp only[evs,cS,ll,dW,es,wr1,rd1,e1]
theorem aPu(S:aC)(n:Nat)(l:List D)(j:Nat)(y:D)(h:S[n]? = qq (qq l))(hj:j<l.length):mS S (.loc n) (.d (.int j)) (.d y)=qq (S.set n (qq (l.set j y))):=by
 have e:gF l.length ((j:Nat):Int)=qq j:=by
  unfold gF;simp;omega
 unfold mS;simp only[h,e,oB]
theorem aO9(L:List Str)(h:L≠[]):∃ zs o,L=zs++[o]:=⟨L.dropLast,L.getLast h,(yFd h).symm⟩
theorem aLl(d:Nat)(ns:List Int)(k:Nat)(x:Int)(hk:k<=79000)(rs0:List Rw)(aB:List Nat)(ok:dF [] rs0)(h0:∀ o∈aB,o<rs0.length)(l0:1<=rs0.length)(l1:rs0.length<=100)(o1:1<=aB.length)(o8:aB.length<=8)(rs:List Rw)(ar:∀ q∈rs,Ar q)(bd:∀ q∈rs,Bd q)(lr:rs.length<=99)(s:D)(a2 a6 a7:Option W)(m:Nat)(hm:m<3):∃ S',
 xs (aG fns gns aE (d+6)).1 (cP (cP (cP (cP (cP (cP (cP (cP mZ)))))))) [qq (.d s),qq (.loc 0),a2,qq (.d (.int m)),qq (.d (bE rs0 aB)),qq (.d (.list (rs.map Rw.d))),a6,a7,qz,qz,qz,qz,qz,qz] (sT [] ns k x)=qq (.rt (.d (.bool true)),S'):=by
 have bo:∀ o∈aB,o<10^20:=λ o m=>by have:=h0 o m;omega
 have lk:=sS ar bd bo o8;have lp:(bF rs aB).length=rs.length+1:=by unfold bF;simp
 have gln:∀ z∈(bF rs aB).map aN,Ln z:=λ z m=>by
  obtain⟨p,mp,rfl⟩:=List.mem_map.mp m;exact(aBR (lk p mp)).ln (by decide) (by decide)
 have pne:∀ p∈bF rs aB,1<=p.2.length:=λ p m=>by
  unfold bF at m;rcases List.mem_append.mp m with m | m
  ·obtain⟨r,_,rfl⟩:=List.mem_map.mp m;show 1<=(r.w::r.args).length;simp
  ·rw[List.mem_singleton.mp m];exact o1
 have tx:=aEv (d+5) rs aB ar bd bo (by omega) o8 (sT [] ns k x)
 have tx:bZ fns gns aE (d+6) 43 [.d (bE rs aB)] (sT [] ns k x)=qq (.loc 1,sT [qq (((bF rs aB).map aN).map yAa)] ns k x):=tx;obtain⟨aO,S',p1,L,a7',aD,k7,x7,lL,hL,hk7,rfl,rfl⟩:=xQ (t:=.one 7) (fi:=lv (aG fns gns aE (d+6)).1 xE) (fb:=xs (aG fns gns aE (d+6)).1 aBz) (env:=[qq (.d s),qq (.loc 0),a2,qq (.d (.int m)),qq (.d (bE rs0 aB)),qq (.d (.list (rs.map Rw.d))),a6,a7,qq (.loc 1),qq (.d (.list (((bF rs aB).map aN).map yAa))),qz,qz,qz,qz]) (S:=sT [qq (((bF rs aB).map aN).map yAa)] ns k x) (S1:=sT [qq (((bF rs aB).map aN).map yAa)] ns k x) (ds:=(yAw m).map (λ k=>yAp (k:Nat)))
  (λ j env S=>∃ (L:List Str) (a7 aD:Option W) (k':Nat) (x':Int),L.length=rs.length+1/\(∀ z∈L,Ln z)/\k'<=k+6*j/\env=[qq (.d s),qq (.loc 0),a2,qq (.d (.int m)),qq (.d (bE rs0 aB)),qq (.d (.list (rs.map Rw.d))),a6,a7,qq (.loc 1),qq (.d (.list (((bF rs aB).map aN).map yAa))),qz,qz,qz,aD]/\S=sT [qq (L.map yAa)] ns k' x')
  (by
    simp only[xE,nZ];exact mG (by simp only[evs]) (by omega))
  ⟨(bF rs aB).map aN,a7,qz,k,x,by rw[yAb,lp],gln,by omega,rfl,rfl⟩ (by
   rintro j dd env S hj ⟨L,a7,aD,k',x',lL,hL,hk',rfl,rfl⟩;have hj':j<m:=by simpa using hj
   have lg:cU [.list (L.map yAa)]=qq (.int ((rs.length+1:Nat):Int)):=by rw[cH,yAb,lL]
   obtain⟨r,x3,hr,d3⟩:=nM (d+5) [qq (L.map yAa)] (by simp) ns k' x' (rs.length+1) (i:=((rs.length+1:Nat):Int)) rfl (by omega) (by omega) (by omega)
   obtain⟨p,hp⟩:∃ p,(bF rs aB)[r]? = qq p:=⟨_,yAc (by omega)⟩
   have mp:=xAi hp;have ig:bC (.list (((bF rs aB).map aN).map yAa)) (.int r)=qq (.str (aN p)):=eR (by rw[xAb,xAb,hp];rfl)
   obtain⟨y,x4,ny,es⟩:=aJL (d+3) [qq (L.map yAa)] (by simp) ns (k'+1) x3 p (lk p mp) (pne p mp) (by omega)
   have es:bZ fns gns aE (d+6) 36 [.loc 0,.d (.str (aN p))] (sT [qq (L.map yAa)] ns (k'+1) x3)=qq (.d (.str y),sT [qq (L.map yAa)] ns (k'+1+4) x4):=(fK (d+5) 36 _ _ (by decide)).trans es
   have pu:=aPu (sT [qq (L.map yAa)] ns (k'+1+4) x4) 1 (L.map yAa) r (.str y) rfl (by rw[yAb];omega)
   have eS:(sT [qq (L.map yAa)] ns (k'+1+4) x4).set 1 (qq ((L.map yAa).set r (.str y)))=sT [qq ((L.set r y).map yAa)] ns (k'+1+4) x4:=by rw[List.map_set];rfl
   rw[eS] at pu;have gL:(sT [qq (L.map yAa)] ns k' x')[1]? = qq (qq (L.map yAa)):=rfl;refine⟨[qq (.d s),qq (.loc 0),a2,qq (.d (.int m)),qq (.d (bE rs0 aB)),qq (.d (.list (rs.map Rw.d))),a6,qq (.d dd),qq (.loc 1),qq (.d (.list (((bF rs aB).map aN).map yAa))),qz,qz,qz,aD],[qq (.d s),qq (.loc 0),a2,qq (.d (.int m)),qq (.d (bE rs0 aB)),qq (.d (.list (rs.map Rw.d))),a6,qq (.d dd),qq (.loc 1),qq (.d (.list (((bF rs aB).map aN).map yAa))),qz,qz,qz,qq (.d (.int r))],sT [qq ((L.set r y).map yAa)] ns (k'+1+4) x4,rfl,?_,L.set r y,qq (.d dd),qq (.d (.int r)),k'+1+4,x4,by rw[yAt];exact lL,?_,by omega,rfl,rfl⟩
   ·generalize bE rs0 aB=G at *;generalize ((bF rs aB).map aN).map yAa=GL at *;generalize yBg (rs.map Rw.d)=RL at *;generalize L.map yAa=LL at *;generalize sT [qq LL] ns k' x'=S1 at *;generalize sT [qq LL] ns (k'+1) x3=S2 at *;generalize sT [qq LL] ns (k'+1+4) x4=S3 at *;generalize sT [qq ((L.set r y).map yAa)] ns (k'+1+4) x4=S4 at *;refine bM (w:=.d (.int r)) (S1:=S2) (by simp only[evs,cS,gL,lg,d3]) rfl (tS ?_)
    simp only[evs,aGq,nH,cS,ig,es,pu]
   ·intro z m;rcases List.mem_or_eq_of_mem_set m with m | rfl
    ·exact hL z m
    ·exact ny)
 have hk9:k7<=90000:=by
  rw[yAb,yFp] at hk7;omega
 obtain⟨zs,o,rfl⟩:=aO9 L (λ e=>by rw[e] at lL;cases lL)
 have lz:zs.length<=100:=by simp at lL;omega
 obtain⟨S',tl⟩:=aKO d ns k7 x7 hk9 rs0 aB s a2 (qq (.d (.int m))) (qq (.d (.list (rs.map Rw.d)))) a6 a7' (qq (.d (.list (((bF rs aB).map aN).map yAa)))) aD zs o ok h0 l0 l1 o1 o8 hL lz;have p1':xs (aG fns gns aE (d+6)).1 (.loop (.one 7) xE aBz) [qq (.d s),qq (.loc 0),a2,qq (.d (.int m)),qq (.d (bE rs0 aB)),qq (.d (.list (rs.map Rw.d))),a6,a7,qq (.loc 1),qq (.d (.list (((bF rs aB).map aN).map yAa))),qz,qz,qz,qz] (sT [qq (((bF rs aB).map aN).map yAa)] ns k x)=qq (.nx [qq (.d s),qq (.loc 0),a2,qq (.d (.int m)),qq (.d (bE rs0 aB)),qq (.d (.list (rs.map Rw.d))),a6,a7',qq (.loc 1),qq (.d (.list (((bF rs aB).map aN).map yAa))),qz,qz,qz,aD],sT [qq ((zs++[o]).map yAa)] ns k7 x7):=p1;refine⟨S',?_⟩;have tu:oN [.list (rs.map Rw.d)]=qq (.tuple (rs.map Rw.d)):=rfl;have i1:bC (bE rs0 aB) (.int 1)=qq (.tuple (aB.map nD)):=rfl;have tx:bZ fns gns aE (d+6) 43 [.d (.tuple [.tuple (rs.map Rw.d),.tuple (aB.map nD)])] (sT [] ns k x)=qq (.loc 1,sT [qq (((bF rs aB).map aN).map yAa)] ns k x):=tx;have g1:(sT [qq (((bF rs aB).map aN).map yAa)] ns k x)[1]? = qq (qq (((bF rs aB).map aN).map yAa)):=rfl;refine bM (w:=.loc 1) (S1:=sT [qq (((bF rs aB).map aN).map yAa)] ns k x) ?_ rfl (bM (w:=.d (.list (((bF rs aB).map aN).map yAa))) (S1:=sT [qq (((bF rs aB).map aN).map yAa)] ns k x) ?_ rfl (dY p1' tl))
 ·generalize sT [qq (((bF rs aB).map aN).map yAa)] ns k x=S2 at *;generalize sT [] ns k x=S1 at *;generalize yBg (rs.map Rw.d)=RL at *;generalize yBb (rs.map Rw.d)=RT at *;generalize yBb (aB.map nD)=OT at *;generalize bE rs0 aB=G at *;simp only[evs,cS,tu,i1,tx]
 ·simp only[yBc,yBh];generalize ((bF rs aB).map aN).map yAa=GL at *;generalize sT [qq GL] ns k x=S2 at *;generalize bE rs0 aB=G at *;generalize yBg (rs.map Rw.d)=RL at *;simp only[evs,vO,oW,g1]
theorem aM7(d:Nat)(ns:List Int)(h1:ns.length<=63):bZ fns gns aE (d+7) 45 [.d (.list (ns.map yAp))] []=qq (.d (.bool true),[]):=by
 obtain⟨most,hm,em⟩:∃ most:Nat,most<=30/\(1:Int)+(if (24:Int)<((ns.length:Nat):Int) then (24:Int) else ((ns.length:Nat):Int))=((most:Nat):Int):=by
  by_cases c:(24:Int)<((ns.length:Nat):Int)
  ·exact⟨25,by omega,by rw[if_pos c];rfl⟩
  ·exact⟨1+ns.length,by omega,by rw[if_neg c];omega⟩
 obtain⟨m0,x1,hm0,d1⟩:=nM (d+5) [] (by decide) ns 0 0 3 (i:=3) rfl (by decide) (by decide) (by omega)
 obtain⟨m1,x2,hm1,d2⟩:=nM (d+5) [] (by decide) ns 1 x1 3 (i:=3) rfl (by decide) (by decide) (by omega)
 obtain⟨rs0,outs0,k,x,ok,l0,l40,ho,o0,o8,hk,ep⟩:=aI3 d most ns hm 2 x2 (by omega)
 have ep:bZ fns gns aE (d+6) 24 [.loc 0,.d (.int most)] (sT [] ns 2 x2)=qq (.d (bE rs0 outs0),sT [] ns k x):=(fK (d+5) 24 _ _ (by decide)).trans ep
 obtain⟨r0,x3,hr0,d3⟩:=nM (d+5) [] (by decide) ns k x rs0.length (i:=(rs0.length:Nat)) rfl l0 (by omega) (by omega)
 have arr:=wV ok;have bdd:=wU ok (by simp;omega)
 rw[show bZ fns gns aE (d+7) 45=bZ fns gns aE (d+7) (fns.length+6) from rfl,tO rfl (d+6) _ _ rfl]
 show dB (xs (aG fns gns aE (d+6)).1 mZ) 14 [.d (.list (ns.map yAp))] []=_
 suffices H:∃ S',xs (aG fns gns aE (d+6)).1 mZ [qq (.d (.list (ns.map yAp))),qz,qz,qz,qz,qz,qz,qz,qz,qz,qz,qz,qz,qz] []=qq (.rt (.d (.bool true)),S') by
  obtain⟨S',e⟩:=H;unfold dB;show(xs (aG fns gns aE (d+6)).1 mZ [qq (.d (.list (ns.map yAp))),qz,qz,qz,qz,qz,qz,qz,qz,qz,qz,qz,qz,qz] []).bind _=_;rw[e];rfl
 have mn:rC [.int ns.length,.int 24]=qq (.int (if (24:Int)<((ns.length:Nat):Int) then (24:Int) else ((ns.length:Nat):Int))):=rfl
 have ln:cU [.list (ns.map yAp)]=qq (.int ns.length):=by rw[cH,yAb]
 have g0:bC (bE rs0 outs0) (.int 0)=qq (.tuple (rs0.map Rw.d)):=rfl;have ll:∀ l:List Rw,cU [.list (l.map Rw.d)]=qq (.int l.length):=λ l=>by rw[cH,yAb]
 suffices H:∃ S',xs (aG fns gns aE (d+6)).1 (cP mZ) [qq (.d (.list (ns.map yAp))),qq (.loc 0),qz,qz,qz,qz,qz,qz,qz,qz,qz,qz,qz,qz] (sT [] ns 0 0)=qq (.rt (.d (.bool true)),S') by
  obtain⟨S',e⟩:=H;exact⟨S',bM (w:=.loc 0) (S1:=sT [] ns 0 0) rfl rfl e⟩
 generalize yBg (ns.map yAp)=NS at *;obtain⟨aO,S',p1,rs,r,a7,k7,x7,lr,ar,bd,hr,hk7,rfl,rfl⟩:=xQ (t:=.one 7) (fi:=lv (aG fns gns aE (d+6)).1 xI) (fb:=xs (aG fns gns aE (d+6)).1 aBI) (env:=[qq (.d NS),qq (.loc 0),qq (.d (.int m0)),qq (.d (.int m1)),qq (.d (bE rs0 outs0)),qq (.d (.list (rs0.map Rw.d))),qq (.d (.int r0)),qz,qz,qz,qz,qz,qz,qz]) (S:=sT [] ns (k+1) x3) (S1:=sT [] ns (k+1) x3) (ds:=(yAw m0).map (λ k=>yAp (k:Nat)))
  (λ j env S=>∃ (rs:List Rw) (r:Nat) (a7:Option W) (k':Nat) (x':Int),rs.length=rs0.length/\(∀ q∈rs,Ar q)/\(∀ q∈rs,Bd q)/\r<rs0.length/\k'<=k+1+6*j/\env=[qq (.d NS),qq (.loc 0),qq (.d (.int m0)),qq (.d (.int m1)),qq (.d (bE rs0 outs0)),qq (.d (.list (rs.map Rw.d))),qq (.d (.int r)),a7,qz,qz,qz,qz,qz,qz]/\S=sT [] ns k' x')
  (by
    simp only[xI,nZ];exact mG (by simp only[evs]) (by omega))
  ⟨rs0,r0,qz,k+1,x3,rfl,arr,bdd,hr0,by omega,rfl,rfl⟩ (by
   rintro j dd env S hj ⟨rs,r,a7,k',x',lr,ar,bd,hr,hk',rfl,rfl⟩;have hj':j<m0:=by simpa using hj
   obtain⟨aS,k2,x4,lr',ar',bd',hk2,es⟩:=aJa (d+3) ns k' x' rs r (by omega) (by omega) ar bd (by omega)
   have es:bZ fns gns aE (d+6) 30 [.loc 0,.d (.list (rs.map Rw.d)),.d (.int r)] (sT [] ns k' x')=qq (.d (.list (aS.map Rw.d)),sT [] ns k2 x4):=(fK (d+5) 30 _ _ (by decide)).trans es
   obtain⟨q4,x5,hq4,d4⟩:=nM (d+5) [] (by decide) ns k2 x4 3 (i:=3) rfl (by decide) (by decide) (by omega)
   refine⟨[qq (.d NS),qq (.loc 0),qq (.d (.int m0)),qq (.d (.int m1)),qq (.d (bE rs0 outs0)),qq (.d (.list (rs.map Rw.d))),qq (.d (.int r)),qq (.d dd),qz,qz,qz,qz,qz,qz],?_⟩
   by_cases c:q4=1
   ·obtain⟨r5,x6,hr5,d5⟩:=nM (d+5) [] (by decide) ns (k2+1) x5 aS.length (i:=(aS.length:Nat)) rfl (by omega) (by omega) (by omega)
    refine⟨[qq (.d NS),qq (.loc 0),qq (.d (.int m0)),qq (.d (.int m1)),qq (.d (bE rs0 outs0)),qq (.d (.list (aS.map Rw.d))),qq (.d (.int r5)),qq (.d dd),qz,qz,qz,qz,qz,qz],sT [] ns (k2+2) x6,rfl,?_,aS,r5,qq (.d dd),k2+2,x6,by omega,ar',bd',by omega,by omega,rfl,rfl⟩
    have c':(((q4:Nat):Int)==1)=true:=by rw[c];rfl
    have l5:=ll aS;generalize bE rs0 outs0=G at *;generalize yBg (rs.map Rw.d)=L at *;generalize yBg (aS.map Rw.d)=L' at *;refine dY (e1:=[qq (.d NS),qq (.loc 0),qq (.d (.int m0)),qq (.d (.int m1)),qq (.d G),qq (.d L'),qq (.d (.int r)),qq (.d dd),qz,qz,qz,qz,qz,qz]) (S1:=sT [] ns k2 x4) (by simp only[evs,cS,es]) (tS (iW (S1:=sT [] ns (k2+1) x5) (by simp only[evs,cS,d4,cG,c']) (jL (w:=.d (.int r5)) ?_)))
    simp only[evs,cS,l5,d5]
   ·refine⟨[qq (.d NS),qq (.loc 0),qq (.d (.int m0)),qq (.d (.int m1)),qq (.d (bE rs0 outs0)),qq (.d (.list (aS.map Rw.d))),qq (.d (.int r)),qq (.d dd),qz,qz,qz,qz,qz,qz],sT [] ns (k2+1) x5,rfl,?_,aS,r,qq (.d dd),k2+1,x5,by omega,ar',bd',hr,by omega,rfl,rfl⟩
    have c':(((q4:Nat):Int)==1)=false:=by rw[beq_eq_false_iff_ne];omega
    generalize bE rs0 outs0=G at *;generalize yBg (rs.map Rw.d)=L at *;generalize yBg (aS.map Rw.d)=L' at *;exact dY (e1:=[qq (.d NS),qq (.loc 0),qq (.d (.int m0)),qq (.d (.int m1)),qq (.d G),qq (.d L'),qq (.d (.int r)),qq (.d dd),qz,qz,qz,qz,qz,qz]) (S1:=sT [] ns k2 x4) (by simp only[evs,cS,es]) (tS (aCm (S1:=sT [] ns (k2+1) x5) (by simp only[evs,cS,d4,cG,c']) rfl)))
 have hk8:k7<=70000:=by
  rw[yAb,yFp] at hk7;omega
 have p1':xs (aG fns gns aE (d+6)).1 (.loop (.one 7) xI aBI) [qq (.d NS),qq (.loc 0),qq (.d (.int m0)),qq (.d (.int m1)),qq (.d (bE rs0 outs0)),qq (.d (.list (rs0.map Rw.d))),qq (.d (.int r0)),qz,qz,qz,qz,qz,qz,qz] (sT [] ns (k+1) x3)=qq (.nx [qq (.d NS),qq (.loc 0),qq (.d (.int m0)),qq (.d (.int m1)),qq (.d (bE rs0 outs0)),qq (.d (.list (rs.map Rw.d))),qq (.d (.int r)),a7,qz,qz,qz,qz,qz,qz],sT [] ns k7 x7):=p1;obtain⟨q8,x8,hq8,d8⟩:=nM (d+5) [] (by decide) ns k7 x7 16 (i:=16) rfl (by decide) (by decide) (by omega)
 have tl:∃ S',xs (aG fns gns aE (d+6)).1 (cP (cP (cP (cP (cP (cP (cP mZ))))))) [qq (.d NS),qq (.loc 0),qq (.d (.int m0)),qq (.d (.int m1)),qq (.d (bE rs0 outs0)),qq (.d (.list (rs.map Rw.d))),qq (.d (.int r)),a7,qz,qz,qz,qz,qz,qz] (sT [] ns k7 x7)=qq (.rt (.d (.bool true)),S'):=by
  have go:=λ rs ar bd lr=>aLl d ns (k7+1) x8 (by omega) rs0 outs0 ok ho l0 (by omega) o0 o8 rs ar bd lr NS (qq (.d (.int m0))) (qq (.d (.int r))) a7 m1 hm1
  by_cases c:q8=1
  ·have c':(((q8:Nat):Int)==1)=true:=by rw[c];rfl
   obtain⟨S',g⟩:=go [] (λ q m=>by cases m) (λ q m=>by cases m) (by simp)
   refine⟨S',dY (iW (S1:=sT [] ns (k7+1) x8) ?_ (jL (w:=.d (.list [])) (S1:=sT [] ns (k7+1) x8) ?_)) g⟩
   ·generalize bE rs0 outs0=G at *;generalize yBg (rs.map Rw.d)=L at *;simp only[evs,cS,d8,cG,c']
   ·generalize bE rs0 outs0=G at *;generalize yBg (rs.map Rw.d)=L at *;simp only[evs]
  ·have c':(((q8:Nat):Int)==1)=false:=by rw[beq_eq_false_iff_ne];omega
   obtain⟨S',g⟩:=go rs ar bd (by omega)
   refine⟨S',bS (S1:=sT [] ns (k7+1) x8) ?_ g⟩;generalize bE rs0 outs0=G at *;generalize yBg (rs.map Rw.d)=L at *;simp only[evs,cS,d8,cG,c']
 obtain⟨S',tl⟩:=tl;refine⟨S',?_⟩;refine bM (w:=.d (.int m0)) (S1:=sT [] ns 1 x1) (by simp only[evs,cS,d1]) rfl ?_
 refine bM (w:=.d (.int m1)) (S1:=sT [] ns 2 x2) (by simp only[yBc,yBh];simp only[evs,cS,d2]) rfl ?_
 refine bM (w:=.d (bE rs0 outs0)) (S1:=sT [] ns k x) (by simp only[yBc,yBh];generalize bE rs0 outs0=G at *;simp only[evs,cS,ln,mn,cY,em,ep]) rfl ?_
 refine bM (w:=.d (.list (rs0.map Rw.d))) (S1:=sT [] ns k x) (by simp only[yBc,yBh];generalize bE rs0 outs0=G at *;simp only[evs,vO,oW,g0]) rfl ?_
 have l5:=ll rs0;refine bM (w:=.d (.int r0)) (S1:=sT [] ns (k+1) x3) (by simp only[yBc,yBh];generalize bE rs0 outs0=G at *;generalize yBg (rs0.map Rw.d)=L at *;simp only[evs,cS,l5,d3]) rfl ?_
 exact dY p1' tl
theorem main:∀ ns:List Int,ns.length<=63->(∀ i∈ns,yAk i<=1048576)->∃ call S',(aG fns gns (pA xl) 12).1 (fns.length+6)=qq (1,call)/\call [.d (.list (ns.map yAp))] []=qq (.d (.bool true),S'):=λ ns h _ =>
 aKR (d:=11) rfl rfl (aM7 5 ns h)
theorem oks:∀ F∈fns,vD fns tbs F=true:=by decide +kernel
theorem oksX:∀ G∈gns,xY fns gns tbs xz G=true:=by decide +kernel
theorem bok:∀ F∈fns,yH F=true:=by decide +kernel
theorem aRT:∀ G∈gns,yH G.fn=true:=by decide +kernel
theorem binds:∀ F∈fns,qI F:=λ F hF=>aEK (bok F hF)
theorem bindsX:∀ G∈gns,qI G.fn:=λ G hG=>aEK (aRT G hG)
end K25
structure PySem.W.Fast:Prop where (tw13229683579912509359 tw8464647541018121388 tw17428339448107051345 tw7844785752214646470 tw8042033540540716364 tw15076943118433872096 tw11328184895771075344 tw3298576754259458571 tw649143934606418038 tw13219266025433087318 tw12611536618166391932 tw9690593195760469939 tw1303874535394432558 tw5358480378580832922 tw1140322625197538241 tw5339700486562683729 tw15758463153059790035 tw11096847117413706617 tw11741814421490870891 tw11861718940528038564 tw15754967751101163487 tw8638201085947260387 tw15356068225989511970 tw13184777385736141004 tw15802833952809415890 tw2171144804917014583 tw2082496357977738967 tw420578876113398068 tw7911957693582452759 tw10689054409598261309 tw11612806417600945491 tw10419857332156814330 tw11991350155720349952 tw12830697490496466312 tw5299025994446288105 tw17975740506748774495 tw1026216536983594364 tw923920127047432516 tw8163562288599123003 tw18078432419903949628 tw4118657298448842256 tw2310707218841071659 tw8402729665569806536 tw5170375191238503810 tw10061813646927264313 tw3767802308020096488 tw10768567436781966812 tw16551121324815991560 tw12482148438552965571 tw8755696005232695085 tw2775302046056975514 tw13701573940156110188 tw11996199997998306342 tw727845691881621299 tw795767788341842334 tw17508622282772196961 tw18135327163544741674 tw15588929522785844884 tw7131600961984323082 tw929738073887955046 tw15272167475213041221 tw18289451264689852677 tw12324268584339402909 tw13722974598264164657 tw13716218001967051201 tw16333873943595314368 tw6601768486457622169 tw10993157938695070270 tw13421389498115371437 tw10764681474682430541 tw6375578062057554017 tw4035412593147574561 tw10169684536922701889 tw12562838322342623120 tw17188439309715441040 tw17092793371575121452 tw5657774905514797727 tw17800744763700581876 tw16595815493581702653 tw8254507102844367611 tw17243447519991310798 tw811852784696480819 tw15429203051164240519 tw4361056225233283384 tw7158674627204880902 tw12319934542538071888 tw18335500246417834298 tw2741338582215575278 tw14195208538781990881 tw12666773161698195379 tw14633321290332083144 tw4213762742003132472 tw18408630070729275169 tw7562898859941870746 tw9460904527286027042 tw6374454222226795252 tw6362642414349326488 tw16962280185940425839 tw2693702214583934793 tw16735923141835235079 tw8918341079398186841 tw1377068119451126865 tw144045116299953740 tw13911762670776569444 tw14209789201602572450 tw2086459555737541512 tw2632481766447577694 tw4913440627086430236 tw12081325187671637030 tw15430913144986655588 tw17400438230099354491 tw13568992423663679725 tw9358374560854712971 tw5931882429676652414 tw16774277349288754011 tw2826325149378995082 tw7915289055376725044 tw7280535451994101237 tw15383754119774544299 tw8010928634449226613 tw17252255382128272528 tw16332304084402397168 tw18211006420624099487 tw15159554828561702128 tw11764374930828387829 tw11271495469726820170 tw18338861023822039109 tw7794025122233321560 tw14214447652045559625 tw9677029877515652540 tw11798289731862133092 tw5927997127900916947 tw10974448186252322060 tw7486640496194863016 tw12209236704319246844 tw11155646437582000345 tw11056414424063345368 tw15850195592164966535 tw11335826422151472921 tw14676323244068119148 tw15938984085248846711 tw18260819925615207998 tw6415914005216594238 tw911943279659318880 tw125984989049437192 tw7178324705229225401 tw11622418127210540414 tw10051774968470232205 tw13720187210348051694 tw7630299836094548625 tw14680014732441038892 tw7743142760859598569 tw11632738843588789255 tw4234344519133122140 tw8580453998782531966 tw12371907116671500337 tw8608220582791713171 tw8325280701771971663 tw18130606283700415008 tw4635282993863072561 tw17640307159540421633 tw17576731711193343127 tw5351531029437215985 tw14864977533361489479 tw11605368104523792594 tw7387136802588007639 tw1212324282392962036 tw10753817773973116249 tw713405359673552432 tw8982769514152147906 tw2496568089009290951 tw17027321096020304715 tw8113509702721102933 tw4556971353289945325 tw8638276308189558170 tw13795919131285447727 tw10170932034294602375 tw5874228725552386615 tw18085887906261899836 tw10811971019962722472 tw10196765071108778466 tw10047199385074192268 tw15806552360856821198 tw13116010807481519089 tw18087625413141591374 tw3990805731314536004 tw822367509734127411 tw14239803154935270595 tw14222220098960451904 tw9826952889166339518 tw3814638124050625535 tw9280896840133566632 tw10856057795418264086 tw16648984670163999757 tw13585090345930261293 tw18019715449922149900 tw4277911497063979823 tw9044767565568187059 tw7777768956142407863 tw13233393168336244582 tw15832017963689496221 tw7358679880100238433 tw7065157705867136981 tw3598628427501182501 tw14727289362069632348 tw9769968705260481830 tw15207140836157245249 tw8081685988199490296 tw13553597521078471647 tw6276523420616623042 tw6696845681512440056 tw6436701358829348966 tw147795497672172098 tw1007806886527217475 tw9883198105368457563 tw3299935683175019411 tw14846158888429374424 tw15526885932534708137 tw17295680322942469651 tw1955730958075739587 tw17485209825362700888 tw9586613942981740581 tw18034722918107901127 tw4946684163699912269 tw3811383485371308976 tw6358255040918607553 tw9786275766430887507 tw14609440899475096063 tw5596581652288956353 tw17081221971231175251 tw17861850033071365348 tw4867404656636411929 tw13697482079775282275 tw9463316980389369875 tw401193174194452414 tw2648688921666872042 tw5878345529946090446 tw18114482580775026765 tw6188935850974716864 tw13894872860250058006 tw17279830221599411053 tw16837169125083456372 tw8754366497799543738 tw10547195365261675782 tw6529440611867828425 tw826358566059847043 tw17197873993697897545 tw16369944949160037190 tw2879232127680549001 tw9589227156676174279 tw8881905863373957872 tw17998761413766217594 tw8853258117704827726 tw5212604760711906030 tw13732166400563115500 tw13764860659362805165 tw677819120639808901 tw1905276622411365872 tw11872371862245227896 tw9901985422536078084 tw6186426586101515677 tw8343782172642889388 tw17891916730830070134 tw13125991244415455707 tw2856591262316412888 tw14236306055057947741 tw3817010178859096427 tw15021937322834683663 tw14067623406809872309 tw11567001354491230100 tw8971006604812544799 tw7282131719662972598 tw14884624725847508628 tw6802677687136699123 tw15925863286011017520 tw2838818326160825769 tw1634463339883609690 tw16858594927449035183 tw9957688442945129497 tw9573395237428902513 tw11937570404017655098 tw7603275377752365213 tw12981056177731615170 tw17136657590721229120 tw13020180099892375750 tw13555156922412354897 tw334574566468028703 tw2644908465755290468 tw14670681671568658680 tw2135258407103832674 tw10912527109771506650 tw6470716888450532167 tw12308549208834970626 tw700811757317653326 tw12811122584918041924 tw14759906379893648858 tw7749030238504674382 tw14254048383431725532 tw1252606725573154913 tw11976721880092264424 tw13617965357598780832 tw9482646138428839853 tw18179057442438922127 tw2040845219343743239 tw2493491200911807809 tw13755057807786492333 tw17736465961778025345 tw15665653270657196219 tw15358912406123170516 tw13442131586508382555 tw2997629802343201580 tw6018608075269823234 tw7213450144515084553 tw16573213799643687420 tw12469632192042777820 tw5918508465722358824 tw17304019414119632233 tw11032069810229488705 tw4335229731755003323 tw236339296318482461 tw8852635579462839356 tw17616666455074588850 tw15842145674779325930 tw1708622054907811662 tw10404434663887227793 tw1370950695983462753 tw7152869628079017834 tw6687362385582057343 tw1663443927926239187 tw798217882596607774 tw9251103496778270182 tw17850489877185908778 tw879250452548350088 tw16412528233340022411 tw10252385823389662912 tw11062346667199025443 tw9581269393077849238 tw5799320265132795465 tw4961461313487817235 tw7300851281333495671 tw11650064746093539948 tw15655420820905293741 tw3391440518008276922 tw7923690178239941736 tw1091322538299329528 tw11326156856235597718 tw11364133023500677122 tw11273273051247075974 tw5290041288500128722 tw9161208600643544256 tw7552839870943986346 tw17108190767247811906 tw2519028947690351138 tw13773690847640797152 tw7661145740284789153 tw8733203046366019012 tw18428853178330655920 tw15997862314944783730 tw7061404906356098620 tw5406073826061692232 tw4421533277196808928 tw17770440388437992427 tw15275442316354218256 tw18335404463412286668 tw8097199289206812495 tw10531454729397986604 tw4166508451786083100 tw11181321736955915246 tw5714756014790690271 tw2677959059257847932 tw6908224733587980068 tw17203391960291205681 tw12370635937257840615 tw1614790247396450721 tw16024032173652609102 tw12160636844406877218 tw10887171411856984775 tw14622564976719096609 tw6720562178217829573 tw14468810248418563903 tw8865973734655076237 tw17422409143260662846 tw7943675088611195410 tw17827461586937757830 tw3866786629551156468 tw8412266772410334665 tw9338297606411761184 tw13926636414453431609 tw16393655238245628954 tw5397988291228866100 tw9880421878749264833 tw9320697767282756160:True)
set_option maxRecDepth 100000 in
set_option maxHeartbeats 0 in
theorem PySem.Challenge.cw_fewbits_k25_whole_what_is_read_holds : PySem.Challenge.rw_fewbits_k25_whole_what_is_read.Holds := by
 w_on;o_law;k_head;(case hw=>w_witness2)
 k_fill
 refine EV.law_ofX (l:=PySem.Challenge.rw_fewbits_k25_whole_what_is_read) K25.fns K25.gns K25.tbs K25.xz K25.xl 6 12 _ "_law_script" rfl rfl ⟨rfl,by decide,by decide⟩ (λ w h Y=>PySem.W.kIn_of Y) K25.oks K25.oksX K25.binds K25.bindsX rfl rfl rfl ?top ?topX ?tbl ?cnl ?stl ?tbn ?rit ?rik ?ent ?rct ?xot ?xbt K25.main
 case top =>
  intro w h KX F hF;simp only[K25.fns,yBa,yAs,or_false] at hF;rcases hF with rfl | rfl | rfl | rfl | rfl | rfl | rfl | rfl | rfl | rfl | rfl | rfl | rfl | rfl | rfl | rfl | rfl | rfl | rfl | rfl | rfl | rfl | rfl | rfl | rfl | rfl | rfl | rfl | rfl | rfl | rfl | rfl | rfl | rfl | rfl | rfl | rfl | rfl | rfl
  all_goals
   refine' EV.top_mk ?a1 ?l1 ?c1 ?k1
   (case a1=>k_is)
   (case l1=>k_is)
   (case c1=>k_is)
   (case k1=>k_is)
 case topX =>
  intro w h KX F hF;simp only[K25.gns,yBa,yAs,or_false] at hF;rcases hF with rfl | rfl | rfl | rfl | rfl | rfl | rfl
  all_goals
   refine' EV.topX_mk ?a1 ?l1 ?c1 ?k1
   (case a1=>k_is)
   (case l1=>k_is)
   (case c1=>k_is)
   (case k1=>k_is)
 case rit =>
  intro w h KX c hc;simp only[K25.xz,yBa,yAs,or_false] at hc;rcases hc with rfl | rfl | rfl | rfl | rfl
  all_goals
   refine' EV.ri_mk ?a1 ?a3 ?a2 ?a4 ?a5 ?a6 ?a7 ?a8 ?a9 ?b1
   (case a1=>k_is)
   (case a3=>k_is)
   (case a2=>kernel_rfl)
   (case a4=>k_is)
   (case a5=>k_is)
   (case a6=>k_is)
   (case a7=>k_is)
   (case a8=>k_is)
   (case a9=>k_is)
   (case b1=>k_is)
 case rik=>decide +kernel
 case ent =>
  intro w h KX e he;simp only[K25.xl,yBa,yAs,or_false] at he;rcases he with rfl | rfl | rfl | rfl | rfl | rfl | rfl | rfl | rfl | rfl | rfl | rfl | rfl | rfl | rfl | rfl | rfl | rfl | rfl | rfl | rfl | rfl | rfl | rfl | rfl
  all_goals first
   | (refine' EV.ent_own ?a1 ?a2 ?a3 ?a4 ?a5 ?a6 ?a7 ?a8 ?a9 ?a0 ?b1 ?b2 ?b3
      (case a1=>k_is)
      (case a0=>k_is)
      (case a2=>k_is)
      (case a3=>k_is)
      (case a4=>k_is)
      (case a5=>k_is)
      (case a6=>k_is)
      (case a7=>k_is)
      (case a8=>k_is)
      (case a9=>k_is)
      (case b1=>k_is)
      (case b2=>kts_exm)
      (case b3=>kit_is))
   | (refine' EV.ent_blt ?a1 ?a2 ?a3 ?a4 ?a5 ?a6 ?a7 ?a8 ?a9 ?a0 ?b1 (PyProof.Rows.Boot.«ValueError») (by decide) ?b3
      (case a1=>k_is)
      (case a0=>k_is)
      (case a2=>k_is)
      (case a3=>k_is)
      (case a4=>k_is)
      (case a5=>k_is)
      (case a6=>k_is)
      (case a7=>k_is)
      (case a8=>k_is)
      (case a9=>k_is)
      (case b1=>k_is)
      (case b3=>kit_is))
 case rct =>
  intro w h KX c hc;cases hc
 case xot =>
  intro w h KX c hc;simp only[K25.xz,yBa,yAs,or_false] at hc;rcases hc with rfl | rfl | rfl | rfl | rfl
  all_goals
   refine' EV.xo_mk ?a1
   (case a1=>k_is)
 case xbt =>
  intro w h KX c hc;cases hc
 case tbl =>
  intro w h KX t ht;simp only[K25.tbs,yBa,yAs,or_false] at ht;rcases ht with rfl
  all_goals
   refine' EV.tab_mk ?a1 ?l1 ?c1 ?s1
   (case a1=>k_is)
   (case l1=>k_is)
   (case c1=>(repeat' (first | exact True.intro | apply And.intro))<;>first | rfl | exact⟨_,rfl⟩)
   (case s1=>decide)
 case cnl =>
  intro w h KX t ht;simp only[K25.tbs,yBa,yAs,or_false] at ht;rcases ht with rfl | rfl | rfl
  all_goals
   refine' EV.con_mk ?a1 ?l1 ?z1 ?c1
   (case a1=>k_is)
   (case l1=>k_is)
   (case z1=>decide)
   (case c1=>(repeat' (first | exact True.intro | apply And.intro))<;>first | rfl | exact⟨_,rfl⟩)
 case stl =>
  intro w h KX t ht;simp only[K25.tbs,yBa,yAs,or_false] at ht;rcases ht with rfl
  all_goals
   refine' EV.st_mk ?a1
   (case a1=>k_is)
 case tbn =>
  intro w h KX x hx;simp only[EV.bltNames,yBa,yAs,or_false] at hx;rcases hx with rfl | rfl | rfl | rfl | rfl | rfl | rfl | rfl | rfl | rfl | rfl | rfl | rfl | rfl | rfl | rfl | rfl | rfl
  all_goals k_is
