import PyProof.Rows.All
import Wide.All
import OpenK.AllK
import Wide.FinOn
import Lean
import PyProof.EqAt
import PyProof.EqKinds
import PyProof.TupleCall
import PyProof.ListMulRoad
import PyProof.FactsAll.tuple
import PyProof.MaxThree
import PyProof.SeqI3
import PyProof.Draws
import PyProof.ZipIter
import PyProof.NeKinds
import PyProof.Rows.SortShell
import PyProof.ListRange
import PyProof.DictTable
import PyProof.Rows.Range3
import PyProof.FactsAll.range_2
import PyProof.Rows.SeqMore2
import PyProof.StrWalks
import PyProof.EnumMake
import PyProof.Rows.StrJoin2
import PyProof.Rows.StrNews
import PyProof.CallStr
import PyProof.DictRoads
import KE.KIntText
import PyProof.ToksMono
import PyProof.StrBlockG
import PyProof.StrBlock2
import PyProof.MeetsStr3
import PySem.Challenge.RW_fewbits_k24_lines_refused
set_option compiler.extract_closed false
set_option genInjectivity false
set_option genSizeOf false
open List renaming length_map->yAb,getElem?_eq_getElem->yAc,getElem?_append_right->yAd,size_toArray->yAf,replicate->yAg,take_length->yAh,map_cons->yAi,foldl_cons->yAm,getElem?_set_ne->yAn,getElem?_set_self->yAo,length_append->yAp,length_set->yAq,map_append->yAr,append_nil->yAu,not_mem_nil->yAv,range->yAx,lookup_cons->yAy,foldl_nil->yAz,replicate_succ->yBb,mem_cons->yBc,getD_cons_succ->yBd,getD_cons_zero->yBe,length_take->yBf,length_cons->yBg,mem_append_left->yBk,mem_singleton->yBl,take_of_length_le->yBn,getElem?_cons_zero->yBr,set_cons_zero->yBs,map_map->yCa,set_cons_succ->yCc,map_nil->yCg,filterMap_cons->yCi,drop_eq_getElem_cons->yCl,flatten_cons->yCo,append_assoc->yCp,count_append->yCq,drop_zero->yCw,contains_cons->yCy,length_replicate->yDb,getElem?_eq_none->yDc,find?_cons->yDf,nil_append->yDg,getD_eq_getElem?_getD->yDj,getElem?_take_of_lt->yDp,all_cons->yDw,getElem?_cons_succ->yDy,length_nil->yEa,reverse_cons->yEe,take_left->yEi,drop_length->yEq,filter_cons->yEr,any_cons->yEu,dropLast_concat_getLast->yEw,length->yEy,map_congr_left->yEz,nodup_append->yFl,getElem_inj->yFo,length_drop->yFp,any_eq_true->yFr,set_set->yFv
open Nat renaming le_refl->yAe,lt_irrefl->yBa,sub_self->yCr,add_sub_cancel_left->yCt,lt_succ_self->yCv,mul_le_mul_right->yDl,succ_ne_zero->yDo,le_of_lt->yEj,ne_of_gt->yEk,le_of_eq->yEl,zero_add->yEm,toDigits->yEn,le_of_not_lt->yEp,pow_lt_pow_right->yEs,pow_le_pow_right->yEt,zero_le->yEx,min_eq_left->yFa,lt_or_ge->yFg,lt_of_le_of_lt->yFh,min_eq_right->yFq,sub_zero->yFu
open Int renaming toNat_natCast->yBo,le_trans->yFt
open Bool renaming false_ne_true->yAt,false_eq_true->yAw,false_and->yBh,and_eq_true->yBi,eq_false_or_eq_true->yCd,true_and->yCu,not_eq_true'->yDh,and_false->yFi,and_true->yFn
open Option renaming bind_some->yBj,bind->yCs,getD_none->yEo
open PySem.Builtin.SmallTypes renaming nextOf->yCm
open PySem.Builtin.Int renaming intBits->yAj
open PyProof.Rows renaming slot_tuple_getitem->yBv,callWith_type1->yDa
open PySem.Heap renaming get?_update_other->yBm,get?_update_self->yBy,SameBut->yCz,get?_none_of_le->yDk,size_push->yEh
open PySem.PyData renaming str->yAa,int->yAl,bool->yAs,tuple->yBp,strOk->yBt,eqv->yBw,canLayAll0->yCh,depthAll->yCj,depth->yDt,list->yEf,eqvAll->yEv,canLay0->yFj
open PySem.W renaming keepIn->yBq,emptyDict->yBu,fnOf->yBx,nsIn->yBz,InstAt->yCf,instObj->yCn,kia_one->yDe,codeIn->yDm,callWith_K->yDu,findIn->yEg,methodObj->yFk,mg_of->yFm,OpenLaw->yFs,lookIn->yFw
open PySem.F renaming slot_str_split->yCx,slot_int_rmul->yDd,excBase_ValueError->yDi,args_tuple_add_2->yDq,args_tuple_mul_2->yDr,args_str_split_2->yDs,entry_tuple_add->yDv,entry_tuple_mul->yDx,entry_str_split->yDz,slot_tuple_add->yEb,slot_tuple_mul->yEc,plainAttrs_str->yEd
open PySem.Builtin renaming divisionGoesByPylong->yCe
open PySem.Builtin.Slice renaming slicePlaces->yCk,sliceAdjust->yDn,sliceApplied->yFc
open PySem.Builtin.Tuple renaming tupleExact->yCb,tupleItemsOf->yFd,tupleTooMany->yFe
open Array renaming length_toList->yAk,toList_append->yFb,find?_toList->yFf
open PySem renaming Value->qx,Shared->qj,Addr->qv,Expr->qw,mainGlobals->qy,sizeLine->qk,wpAny->qu,sizeLine_eq->qo,Program->zq,World->zx,starEach->zj,Around->zv,Scope->zw,Stmt->zy,bootBuiltins->zk,binaryOp->zu,compareOp->zo,wpAny_holding->xq,assignEach->xj,wpAny_truthy_bool->xw,wpAny_field->xy,wpAny_newObj_type->xu,wpAny_Call_Name_kw->jq,FuncData->jz,CmpOp->jx,foldedSetIterable->jj,behindInMarks->jv,rawInt->jy,call_meets->jk,wpAny_pyIter_list->ju,NameKind->jo,wpAny_call_entry->vq,Operator->vz,wpAny_standAt->vx,letOwnedTupleGo->vj,wpAny_passesOwn->vw,wpAny_pyIter_tuple->vy,sliceBounds->vk,codeAny->vo,wpAny_pyNext_list_item->wq,wpAny_pyIter_enum->wj,wpAny_pyNext_list_end->ww,shortFactorBits->wu,wpAny_letOwnedTupleGo_enum->yq,wpAny_binaryOp_repeat_ref->yz,UnaryOp->yx,swappedStores->yj,typeIs_int->yv,wpAny_attempt->yw,wpAny_rule->yy,pyNext->yk
open Option renaming some->qq,none->qz
abbrev wB:=@PySem.wpAny_bind
abbrev wP:=@PySem.wpAny_pure
abbrev hpS:=@PySem.Heap.get?_push_of_some
theorem gIm {α:Type _}{l:List α}{i:Nat}{a:α}:l[i]? = qq a->∃ h,l[i]=a:=List.getElem?_eq_some_iff.mp
abbrev dqF:=@decide_eq_false
abbrev dqT:=@decide_eq_true
abbrev oqT:=@of_decide_eq_true
abbrev FrG:=PySem.W.Frag
abbrev xAa:=@PySem.Heap.lt_size
abbrev xAb:=@List.getElem?_map
abbrev xAc:=@Nat.lt_of_lt_of_le
abbrev xAd:=@List.mem_cons_self
abbrev xAe:=@PySem.Heap.get?_push_size
abbrev xAf:=@List.mem_cons_of_mem
abbrev xAg:=@Nat.le_trans
abbrev xAh:=@Nat.ne_of_lt
abbrev xAi:=@List.mem_of_getElem?
abbrev xAj:=@List.getElem?_append_left
abbrev xAk:=@List.mem_append_right
set_option Elab.async false
set_option linter.all false
set_option maxRecDepth 100000
namespace L2
open PySem PySem.Spec PyProof.Rows
abbrev eV:=Sum Int Str
noncomputable def mG:eV->qx->Bool
 | .inl k,v=>Value.isInt k v
 | .inr x,v=>Value.isStrOf x v
noncomputable def aQr(w:zx):eV->Int
 | .inl k=>hashInt k
 | .inr x=>hashStr w x
theorem kP:∀ {k:eV}{v:qx},mG k v=true->(∃ i t,k=Sum.inl i/\v=Value.int i t)\/(∃ x t,k=Sum.inr x/\v=Value.str x t)
 | .inl i,v,h=>by
   obtain⟨t,e⟩:=Value.isInt_shape (k:=i) (v:=v) h;exact .inl ⟨i,t,rfl,e⟩
 | .inr x,v,h=>by
   obtain⟨t,e⟩:=Value.isStrOf_shape (x:=x) (v:=v) h;exact .inr ⟨x,t,rfl,e⟩
theorem aAq(x:Str)(t:Tok):mG (.inr x) (.str x t)=true:=by simp[mG,Value.isStrOf]
theorem aNB(a b:Int):decide ((Sum.inl a:eV)=Sum.inl b)=(a==b):=by
 by_cases e:a=b
 ·subst e;simp
 ·have h:¬ (Sum.inl a:eV)=Sum.inl b:=λ q=>e (Sum.inl.inj q)
  rw[dqF h];exact(beq_eq_false_iff_ne.mpr e).symm
theorem aL8(a b:Str):decide ((Sum.inr a:eV)=Sum.inr b)=decide (a=b):=by
 by_cases e:a=b
 ·subst e;simp
 ·have h:¬ (Sum.inr a:eV)=Sum.inr b:=λ q=>e (Sum.inr.inj q)
  rw[dqF h,dqF e]
theorem aNI(a:Int)(b:Str):decide ((Sum.inl a:eV)=Sum.inr b)=false:=dqF (λ q=>nomatch q)
theorem aLN(a:Str)(b:Int):decide ((Sum.inr a:eV)=Sum.inl b)=false:=dqF (λ q=>nomatch q)
noncomputable def gE(prog:zq)(w:zx):PySem.KeyKind prog w eV where
 is:=mG
 hash:=aQr w
 inj:=λ v a b ha hb=>by
  rcases kP ha with ⟨i,t,rfl,rfl⟩ | ⟨x,t,rfl,rfl⟩
  ·rcases kP hb with ⟨j,u,rfl,e⟩ | ⟨y,u,rfl,e⟩
   ·injection e with e1 _;rw[e1]
   ·exact nomatch e
  ·rcases kP hb with ⟨j,u,rfl,e⟩ | ⟨y,u,rfl,e⟩
   ·exact nomatch e
   ·injection e with e1 _;rw[e1]
 byValue:=λ k v h=>by
  rcases kP h with ⟨i,t,rfl,rfl⟩ | ⟨x,t,rfl,rfl⟩<;>rfl
 pyHash:=λ hv h=>by
  rcases kP hv with ⟨i,t,rfl,rfl⟩ | ⟨x,t,rfl,rfl⟩
  ·exact wpAny_pyHash_int h
  ·exact wpAny_pyHash_str h
 eqBool:=λ hu hv h=>by
  rcases kP hu with ⟨i,t,rfl,rfl⟩ | ⟨x,t,rfl,rfl⟩
  ·rcases kP hv with ⟨j,u,rfl,rfl⟩ | ⟨y,u,rfl,rfl⟩
   ·rw[aNB] at h;exact wpAny_eqBool_int h
   ·rw[aNI] at h;exact SeqAt.EqAt.int_str i t y u _ _ _ _ h
  ·rcases kP hv with ⟨j,u,rfl,rfl⟩ | ⟨y,u,rfl,rfl⟩
   ·rw[aLN] at h;exact SeqAt.EqAt.str_int x t j u _ _ _ _ h
   ·rw[aL8] at h;exact wpAny_eqBool_str h
 «strs»:=λ k x t v h=>by
  rcases kP h with ⟨i,u,rfl,e⟩ | ⟨y,u,rfl,e⟩
  ·exact nomatch e
  ·injection e with e1 _
   subst e1;cases v<;>rfl
end L2
namespace L2
open PySem PySem.Spec PyProof.Rows
inductive V where
 | non | bl (b:Bool) | int (i:Int) | str (x:Str) | byt (b:Array UInt8) | flt (b:UInt64) | ref (a:qv) | ty (n:String)
 deriving DecidableEq
noncomputable def aT:V->qx->Prop
 | .non,u=>u=Value.none
 | .bl b,u=>u=Value.bool b
 | .int i,u=>∃ t,u=Value.int i t
 | .str x,u=>∃ t,u=Value.str x t
 | .byt b,u=>∃ t,u=Value.bytes b t
 | .flt b,u=>∃ t,u=Value.float b t
 | .ref a,u=>u=Value.ref a
 | .ty n,u=>u=Value.type n
noncomputable abbrev aO:List V->List qx->Prop:=Paired aT
theorem aO.length{xs:List V}{us:List qx}(r:aO xs us):xs.length=us.length:=Paired.length r
theorem aO.get:∀ {xs:List V}{us:List qx}{i:Nat}{x:V},aO xs us->xs[i]? = qq x->∃ u,us[i]? = qq u/\aT x u
 | _,_,_,_,.nil,e=>by simp at e
 | _,_,0,_,.cons r _,e=>by simp at e;subst e;exact⟨_,rfl,r⟩
 | _,_,i+1,x,.cons _ t,e=>by
   obtain⟨u,h1,h2⟩:=aO.get (i:=i) (x:=x) t (by simpa using e)
   exact⟨u,by simpa using h1,h2⟩
theorem aO.set{x:V}{u:qx}(r:aT x u):∀ {xs:List V}{us:List qx} (i:Nat),aO xs us->aO (xs.set i x) (us.set i u)
 | _,_,_,.nil=>.nil
 | _,_,0,.cons _ t=>.cons r t
 | _,_,i+1,.cons q t=>.cons q (aO.set r i t)
theorem aO.append:∀ {xs ys:List V}{us ws:List qx},aO xs us->aO ys ws->aO (xs++ys) (us++ws)
 | _,_,_,_,.nil,s=>s
 | _,_,_,_,.cons r t,s=>.cons r (aO.append t s)
theorem aO.take:∀ {xs:List V}{us:List qx} (n:Nat),aO xs us->aO (xs.take n) (us.take n)
 | _,_,0,_=>.nil
 | _,_,_+1,.nil=>.nil
 | _,_,n+1,.cons r t=>.cons r (aO.take n t)
theorem aO.drop:∀ {xs:List V}{us:List qx} (n:Nat),aO xs us->aO (xs.drop n) (us.drop n)
 | _,_,0,r=>r
 | _,_,_+1,.nil=>.nil
 | _,_,n+1,.cons _ t=>aO.drop n t
noncomputable def tQ:Option V->Option qx->Prop
 | some v,qq u=>aT v u
 | none,qz=>True
 | _,_=>False
noncomputable def KV{κ:Type}:List (κ×V)->List (κ×qx)->Prop:=Paired λ(p:κ×V) (q:κ×qx)=>p.1=q.1/\aT p.2 q.2
noncomputable def kV:eV->V
 | .inl i=>.int i
 | .inr x=>.str x
inductive HO where
 | lst (xs:List V)
 | tup (xs:List V)
 | dK (aI:List (eV×V)) | dT (aI:List (List eV×V))
 | set (S:Int->Bool) (n:Nat)
 | ins (C dx:qv) (fs:List (Str×V))
 | own (x:qv)
 | xd (fs:List (Str×V))
 | met (f x:qv)
 | rng (lo hi:Int)
 | frz (o:Obj) (u:HO)
 | tbl (ps:Array qx)
 | ext (φ:Heap->Prop)
abbrev Hp:=qv->Option HO
noncomputable def aQ(H:Hp)(a:qv)(o:HO):Hp:=λ b=>if b=a then qq o else H b
theorem bQ{H:Hp}{a:qv}{o:HO}:aQ H a o a=qq o:=by unfold aQ;rw[if_pos rfl]
theorem aW{H:Hp}{a b:qv}{o:HO}(h:b≠a):aQ H a o b=H b:=by unfold aQ;rw[if_neg h]
theorem dO{H:Hp}{a b:qv}{o:HO}(h:H a=qq o)(h':H b=qz):a≠b:=by
 intro e;subst e;rw[h] at h';cases h'
section
variable (P : zq)(w : zx)
noncomputable def fA(H:Hp)(h:Heap)(a:qv):HO->Prop
 | .lst xs=>xs.length<=qk/\∃ (its:List qx) (n:Nat),aO xs its/\h.get? a=qq {cls:=.type "list",data:=.seq its.toArray n }
 | .tup xs=>xs.length<=qk/\∃ its:List qx,aO xs its/\IsTup h a its.toArray
 | .dK aI=>aI.length<=qk/\(a==sysModules)=false/\∃ vs,KV aI vs/\h.DictOf (gE P w) a vs
 | .dT aI=>aI.length<=qk/\(a==sysModules)=false/\∃ xs:List (List eV×qv×qx),
    Paired (λ(p:List eV×V) (q:List eV×qv×qx)=>p.1=q.1/\H q.2.1=qq (.tup (p.1.map kV))/\aT p.2 q.2.2) aI xs /\
    ∃ o es ep,h.get? a=qq o/\o.ExactDict/\o.data=.dict es ep/\es.toList=xs.map (entryOfKey (tupleKind (gE P w)))/\(xs.map (·.1)).Nodup
 | .set S n=>h.SetOf (intKind P w) a S n
 | .ins C dx fs=>H dx=qq (.own a)/\fs.length<=1000/\dx≠a/\h.get? a=qq (yCn C dx) /\
    ∃ mA,h.Ns1 dx mA/\(∀ f,tQ (fs.lookup f) (mA f))/\PySem.Within mA (fs.map (·.1))
 | .own _=>∃ o,h.get? a=qq o
 | .xd fs=>∃ mA,h.Ns1 a mA/\∀ f,tQ (fs.lookup f) (mA f)
 | .rng lo hi=>∃ t u v,h.get? a=qq {cls:=.type "range",data:=.fields #[.int lo t,.int hi u,.int 1 v] }
 | .frz o u=>h.get? a=qq o/\fA H h a u
 | .tbl ps=>h.get? a=qq {cls:=.none,data:=.fields ps }
 | .met f x=>h.get? a=qq (yFk (.ref f) (.ref x))
 | .ext φ=>φ h/\(∃ o,h.get? a=qq o)/\∀ h1 h2:Heap,φ h1->(∀ o,h1.get? a=qq o->h2.get? a=qq o)->φ h2
def cO(H:Hp)(h:Heap):Prop:=∀ a o,H a=qq o->fA P w H h a o
end
section
variable {P : zq}{w : zx}{H H' : Hp}{h h' : Heap}{a : qv}{o : HO}
theorem fA.lt(x:fA P w H h a o):a<h.objs.size:=by
 cases o with
 | lst xs=>obtain⟨_,_,_,_,e⟩:=x;exact xAa e
 | tup xs=>obtain⟨_,_,_,p⟩:=x;exact p.lt
 | dK aI=>obtain⟨_,_,_,_,o,_,_,e,_⟩:=x;exact xAa e
 | dT aI=>obtain⟨_,_,_,_,o,_,_,e,_⟩:=x;exact xAa e
 | set S n=>obtain⟨o,_,_,_,e,_⟩:=x;exact xAa e
 | ins C dx fs=>obtain⟨_,_,_,e,_⟩:=x;exact xAa e
 | own y=>obtain⟨_,e⟩:=x;exact xAa e
 | xd fs=>obtain⟨_,⟨_,_,_,e,_⟩,_⟩:=x;exact xAa e
 | rng lo hi=>obtain⟨_,_,_,e⟩:=x;exact xAa e
 | frz ob u=>obtain⟨e,_⟩:=x;exact xAa e
 | tbl ps=>exact xAa (show h.get? a=qq _ from x)
 | met f y=>exact xAa (show h.get? a=qq _ from x)
 | ext φ=>obtain⟨_,⟨_,e⟩,_⟩:=x;exact xAa e
theorem Paired.mapP{α β:Type}{F G:α->β->Prop}:∀ {l₁:List α}{l₂:List β},Paired F l₁ l₂->(∀ a b,F a b->G a b)->Paired G l₁ l₂
 | _,_,.nil,_=>.nil
 | _,_,.cons r t,f=>.cons (f _ _ r) (Paired.mapP t f)
theorem fA.stay(x:fA P w H h a o)(k:∀ b u,(b=a\/H b=qq (.own a))->h.get? b=qq u->h'.get? b=qq u)
 (ho:∀ b,H b=qq (.own a)->H' b=qq (.own a)) (ht:∀ b xs,H b=qq (.tup xs)->H' b=qq (.tup xs)):fA P w H' h' a o:=by
 induction o with
 | lst xs=>obtain⟨z,its,n,r,e⟩:=x;exact⟨z,its,n,r,k _ _ (.inl rfl) e⟩
 | tup xs=>obtain⟨z,its,r,ob,e,c⟩:=x;exact⟨z,its,r,ob,k _ _ (.inl rfl) e,c⟩
 | dK aI=>obtain⟨z,y,vs,r,ob,es,ep,e,c⟩:=x;exact⟨z,y,vs,r,ob,es,ep,k _ _ (.inl rfl) e,c⟩
 | dT aI =>
   obtain⟨z,y,xs,r,ob,es,ep,e,c⟩:=x;exact⟨z,y,xs,Paired.mapP r λ p q z=>⟨z.1,ht _ _ z.2.1,z.2.2⟩,ob,es,ep,k _ _ (.inl rfl) e,c⟩
 | set S n=>obtain⟨ob,es,ep,t,e,c⟩:=x;exact⟨ob,es,ep,t,k _ _ (.inl rfl) e,c⟩
 | ins C dx fs =>
   obtain⟨d,z,ne,e,mA,⟨od,es,ep,e2,c⟩,r⟩:=x;exact⟨ho _ d,z,ne,k _ _ (.inl rfl) e,mA,⟨od,es,ep,k _ _ (.inr d) e2,c⟩,r⟩
 | own y=>obtain⟨ob,e⟩:=x;exact⟨ob,k _ _ (.inl rfl) e⟩
 | xd fs=>obtain⟨mA,⟨od,es,ep,e,c⟩,r⟩:=x;exact⟨mA,⟨od,es,ep,k _ _ (.inl rfl) e,c⟩,r⟩
 | rng lo hi=>obtain⟨t,u,v,e⟩:=x;exact⟨t,u,v,k _ _ (.inl rfl) e⟩
 | frz ob u ih=>obtain⟨e,q⟩:=x;exact⟨k _ _ (.inl rfl) e,ih q⟩
 | tbl ps =>
   have e:h.get? a=qq {cls:=.none,data:=.fields ps }:=x;show h'.get? a=qq {cls:=.none,data:=.fields ps };exact k a _ (.inl rfl) e
 | met f y =>
   have e:h.get? a=qq (yFk (.ref f) (.ref y)):=x;show h'.get? a=qq (yFk (.ref f) (.ref y));exact k a _ (.inl rfl) e
 | ext φ=>obtain⟨p,⟨o,e⟩,st⟩:=x;exact⟨st _ _ p λ o q=>k _ _ (.inl rfl) q,⟨o,k _ _ (.inl rfl) e⟩,st⟩
theorem cO.lt(x:cO P w H h)(e:H a=qq o):a<h.objs.size:=(x a o e).lt
theorem cO.fresh(x:cO P w H h)(e:h.objs.size<=a):H a=qz:=by
 cases q:H a with
 | none=>rfl
 | some u=>exact absurd (xAc (x.lt q) e) (yBa _)
theorem cO.kept(x:cO P w H h)(k:∀ b u,h.get? b=qq u->h'.get? b=qq u):cO P w H h':=λ a o e =>
 (x a o e).stay (λ b u _ q=>k b u q) (λ _ q=>q) λ _ _ q=>q
theorem cO.laid(x:cO P w H h)(k:∀ b u,h.get? b=qq u->h'.get? b=qq u)(hp:h.objs.size<=a)(new:fA P w (aQ H a o) h' a o):cO P w (aQ H a o) h':=λ b u e=>by
 have hn:=x.fresh hp
 by_cases hb:b=a
 ·subst hb;rw[bQ] at e;cases e;exact new
 ·rw[aW hb] at e;exact(x b u e).stay (λ c v _ q=>k c v q) (λ c q=>by rw[aW (dO q hn)];exact q) λ c xs q=>by rw[aW (dO q hn)];exact q
end
def Rd(H:Hp)(a:qv)(u:HO):Prop:=H a=qq u\/∃ o,H a=qq (.frz o u)
theorem Rd.of{H:Hp}{a:qv}{u:HO}(h:H a=qq u):Rd H a u:=.inl h
theorem Rd.ok{P:zq}{w:zx}{H:Hp}{h:Heap}{a:qv}{u:HO}(r:Rd H a u)(x:cO P w H h):fA P w H h a u:=by
 rcases r with r | ⟨o,r⟩
 ·exact x a u r
 ·obtain⟨_,q⟩:=x a _ r;exact q
noncomputable def yY:Option HO->Prop
 | some (.lst _)=>True
 | some (.dK _)=>True
 | some (.dT _)=>True
 | some (.set _ _)=>True
 | some (.ins _ _ _)=>True
 | some (.ext _)=>True
 | _=>False
section
variable {P : zq}{w : zx}{H : Hp}{h h' : Heap}{x e : qv}{o' : HO}
theorem cO.write(ok:cO P w H h)(mu:yY (H x))(he:e=x\/H e=qq (.own x))(k:∀ b u,b≠e->h.get? b=qq u->h'.get? b=qq u)(heo:∃ u,h'.get? e=qq u)
 (new:fA P w (aQ H x o') h' x o'):cO P w (aQ H x o') h':=λ b u q=>by
 have nown:∀ c y,H c=qq (.own y)->c≠x:=λ c y r z=>by subst z;rw[r] at mu;exact mu
 have ntup:∀ c xs,H c=qq (.tup xs)->c≠x:=λ c xs r z=>by subst z;rw[r] at mu;exact mu
 by_cases hb:b=x
 ·subst hb;rw[bQ] at q;cases q;exact new
 ·rw[aW hb] at q
  by_cases hbe:b=e
  ·have q':H b=qq (.own x):=by
    rcases he with z | z
    ·exact absurd (hbe.trans z) hb
    ·rw[hbe];exact z
   rw[q] at q';cases q';obtain⟨v,hv⟩:=heo;exact⟨v,by rw[hbe];exact hv⟩
  ·refine(ok b u q).stay (λ c v hc r=>k c v ?_ r) (λ c r=>by rw[aW (nown c b r)];exact r) λ c xs r=>by rw[aW (ntup c xs r)];exact r
   rcases hc with rfl | hc
   ·exact hbe
   ·rintro rfl;rcases he with z | z
    ·exact nown c b hc z
    ·rw[hc] at z;cases z;exact hb rfl
end
structure Un(fs ex:List qv)(H H':Hp)(h h':Heap):Prop where
 keep:∀ b o,h.get? b=qq o->H b=qz->b ∉ fs->b ∉ ex->h'.get? b=qq o
 slot:∀ b o,h.get? b=qq o->H b=qz->b∈fs->b ∉ ex->∃ sl,h'.get? b=qq {o with slots:=sl }
 free:∀ b o,h.get? b=qq o->H b=qz->b ∉ ex->H' b=qz
 there:∀ b o,h.get? b=qq o->b ∉ ex->∃ o',h'.get? b=qq o'
 tups:∀ b xs,H b=qq (.tup xs)->H' b=qq (.tup xs)
 frzs:∀ b o u,H b=qq (.frz o u)->H' b=qq (.frz o u)
 tbls:∀ b ps,H b=qq (.tbl ps)->∃ more,H' b=qq (.tbl (ps++more))
section
variable {fs fs' ex ex' : List qv}{H H1 H2 : Hp}{h h1 h2 h' : Heap}{a x e : qv}{o : HO}
theorem Un.any(u:Un fs ex H H1 h h1){b:qv}{ob:Obj}(q:h.get? b=qq ob)(n:H b=qz)(hx:b ∉ ex):∃ sl,h1.get? b=qq {ob with slots:=sl }:=by
 by_cases hb:b∈fs
 ·exact u.slot b ob q n hb hx
 ·exact⟨ob.slots,u.keep b ob q n hb hx⟩
theorem Un.trans(a:Un fs ex H H1 h h1)(b:Un fs ex H1 H2 h1 h2):Un fs ex H H2 h h2 where
 keep:=λ c ob q n hc hx=>b.keep c ob (a.keep c ob q n hc hx) (a.free c ob q n hx) hc hx
 slot:=λ c ob q n hc hx=>by
  obtain⟨sl,e1⟩:=a.slot c ob q n hc hx;obtain⟨sl',e2⟩:=b.slot c _ e1 (a.free c ob q n hx) hc hx;exact⟨sl',e2⟩
 free:=λ c ob q n hx=>by
  obtain⟨o',e1⟩:=a.there c ob q hx;exact b.free c o' e1 (a.free c ob q n hx) hx
 there:=λ c ob q hx=>by
  obtain⟨o',e1⟩:=a.there c ob q hx;exact b.there c o' e1 hx
 tups:=λ c xs q=>b.tups c xs (a.tups c xs q)
 frzs:=λ c ob xs q=>b.frzs c ob xs (a.frzs c ob xs q)
 tbls:=λ c ps q=>by
  obtain⟨m1,e1⟩:=a.tbls c ps q;obtain⟨m2,e2⟩:=b.tbls c _ e1;exact⟨m1++m2,by rw[e2,Array.append_assoc]⟩
theorem Un.kept(k:∀ b u,h.get? b=qq u->h'.get? b=qq u):Un fs ex H H h h':=
 ⟨λ b ob q _ _ _=>k b ob q,λ b ob q _ _ _=>⟨ob.slots,k b ob q⟩,λ _ _ _ n _=>n,λ b ob q _=>⟨ob,k b ob q⟩,λ _ _ q=>q,λ _ _ _ q=>q,λ _ ps q=>⟨#[],by rw[q];simp⟩⟩
theorem Un.refl:Un fs ex H H h h:=Un.kept λ _ _ q=>q
theorem Un.laid(k:∀ b u,h.get? b=qq u->h'.get? b=qq u)(hp:h.objs.size<=a)(hn:H a=qz):Un fs ex H (aQ H a o) h h' where
 keep:=λ b u q _ _ _=>k b u q
 slot:=λ b u q _ _ _=>⟨u.slots,k b u q⟩
 free:=λ b u q n _=>by rw[aW (xAh (xAc (xAa q) hp))];exact n
 there:=λ b u q _=>⟨u,k b u q⟩
 tups:=λ b xs q=>by rw[aW (dO q hn)];exact q
 frzs:=λ b u xs q=>by rw[aW (dO q hn)];exact q
 tbls:=λ b ps q=>⟨#[],by rw[aW (dO q hn),q];simp⟩
theorem Un.write(mu:yY (H x))(he:e=x\/H e=qq (.own x))(k:∀ b u,b≠e->h.get? b=qq u->h'.get? b=qq u)(heo:∃ u,h'.get? e=qq u):Un fs ex H (aQ H x o) h h':=by
 have hx:∀ b,H b=qz->b≠x:=λ b n z=>by subst z;rw[n] at mu;exact mu
 have hb:∀ b,H b=qz->b≠e:=λ b n z=>by
  subst z;rcases he with r | r
  ·exact hx b n r
  ·rw[n] at r;cases r
 have hm:∀ b u,H b=qq u->¬ yY (qq u)->b≠x:=λ b u q nm z=>by subst z;rw[q] at mu;exact nm mu
 refine⟨λ b u q n _ _=>k b u (hb b n) q,λ b u q n _ _=>⟨u.slots,k b u (hb b n) q⟩,λ b u q n _=>by rw[aW (hx b n)];exact n,λ b u q _=>?_,
  λ b xs q=>by rw[aW (hm b _ q λ z=>z)];exact q,λ b u xs q=>by rw[aW (hm b _ q λ z=>z)];exact q,λ b ps q=>⟨#[],by rw[aW (hm b _ q λ z=>z),q];simp⟩⟩
 by_cases hbe:b=e
 ·subst hbe;exact heo
 ·exact⟨u,k b u hbe q⟩
theorem Un.mono(u:Un fs ex H H1 h h1)(hs:∀ b∈fs,b∈fs')(hx:∀ b∈ex,b∈ex'):Un fs' ex' H H1 h h1:=
 ⟨λ b ob q n hb he=>u.keep b ob q n (λ z=>hb (hs b z)) λ z=>he (hx b z),λ _ _ q n _ he=>u.any q n λ z=>he (hx _ z),λ b ob q n he=>u.free b ob q n λ z=>he (hx b z),λ b ob q he=>u.there b ob q λ z=>he (hx b z),u.tups,u.frzs,u.tbls⟩
end
noncomputable def yJ(h:Heap)(H:Hp):List qv:=(yAx h.objs.size).filter λ a=>(H a).isSome
noncomputable def lG(h:Heap)(H:Hp):Heap:=PySem.W.hideAll h (yJ h H)
theorem aIo(h:Heap)(H:Hp):(lG h H).objs.size=h.objs.size:=PySem.W.hideAll_size _ _
theorem aJG{h:Heap}{H:Hp}{b:qv}{o:Obj}(e:h.get? b=qq o)(n:H b=qz):(lG h H).get? b=qq o:=
 PySem.W.hideAll_get _ e λ hm=>by
  have q:(H b).isSome=true:=(List.mem_filter.mp hm).2;rw[n] at q;simp at q
theorem aLz{h:Heap}{H:Hp}{b:qv}{o:Obj}(e:(lG h H).get? b=qq o):h.get? b=qq o/\H b=qz:=by
 have e':h.get? b=qq o:=PySem.W.of_hideAll (yJ h H) e;refine⟨e',?_⟩;cases q:H b with
 | none=>rfl
 | some x =>
   have hm:b∈yJ h H:=List.mem_filter.mpr ⟨List.mem_range.mpr (xAa e'),by simp[q]⟩
   have z:(lG h H).get? b=qz:=PySem.W.hideAll_none (yJ h H) hm;rw[z] at e;cases e
noncomputable def aKS(g h:Heap)(L:qv):List (qv×Obj):=(yAx h.objs.size).filterMap λ a=>if a=L\/(g.get? a).isSome=true then qz else (h.get? a).map λ o=>(a,o)
noncomputable def bK(g h:Heap)(L d:qv):List (qv×Obj):=(aKS g h L).filter λ p=>decide (p.1≠d)
end L2
namespace L2
open PySem PySem.Spec PyProof.Rows
structure Mod(K:FrG)(mg:Str->Option qx)(base:Heap):Prop where
 kin:K.In base
 glob:base.Ns qy mg
 blt:∃ mb,base.Ns builtinsNs mb/\∀ x:Str,x ≠ "__name__" -> mb x=zk x
 nolimit:base.NoLimit
structure Cx where
 prog:zq
 w:zx
 K:FrG
 mg:Str->Option qx
 base:Heap
 A:zv
 N:List Str
 s₀:qj
 H₀:Hp
 env:Env
 outer:List Env
 stack:List Env
 ex:List qv
 fn:Str->Bool
 calm:Bool
 pn:List (qv×Obj)
 xe:qx->qj->Prop
noncomputable def dB(l:List Env):List qv:=l.filterMap (·.frame)
noncomputable abbrev Cx.fs(X:Cx):List qv:=dB X.outer
def lO(sc:zw)(x:Str):Prop:=sc.names.lookup x=qq .local\/sc.names.lookup x=qq .cell\/sc.names.lookup x=qq .free
def Loc(sc:zw)(x:Str):Prop:=sc.names.lookup x=qq .local\/sc.names.lookup x=qq .cell
def aQj(env:Env)(h:Heap)(m:Str->Option qx)(x:Str)(u:qx):Prop:=
 (env.kindOf x=qq .local/\m x=qq u)\/((env.kindOf x=qq .cell\/env.kindOf x=qq .free)/\∃ c,env.cells.lookup x=qq c/\h.IsCell c (qq u))
structure Cx.Ok(X:Cx):Prop where
 mod:Mod X.K X.mg X.base
 kind:X.env.scope.kind=.function
 glob:X.env.globals=qy
 blt:X.env.builtins=builtinsNs
 above:X.s₀.heap.objs.size<=X.env.locals
 inj:∀ x y c,X.env.cells.lookup x=qq c->X.env.cells.lookup y=qq c->x=y
 has:∀ x,(X.env.kindOf x=qq .cell\/X.env.kindOf x=qq .free)->∃ c,X.env.cells.lookup x=qq c
 cab:∀ x c,X.fn x=true->X.env.cells.lookup x=qq c->X.s₀.heap.objs.size<=c
 hd:X.calm=true->X.A.handled=qz
 frames:X.A.frames=qq X.stack
 stk:X.stack=X.outer\/(X.stack=X.env::X.outer/\X.env.frame=qq X.env.locals)
 exf:∀ b∈X.ex,b≠X.env.locals/\∀ x c,X.env.cells.lookup x=qq c->c≠b
 bs:∀ b o,X.base.get? b=qq o->X.s₀.heap.get? b=qq o/\X.H₀ b=qz
 bsz:X.base.objs.size<=X.s₀.heap.objs.size
 noex:∀ b o,X.base.get? b=qq o->b ∉ X.ex
 exfs:∀ b∈X.ex,b ∉ X.fs
 funs:X.s₀.heap.FunFrames X.base X.outer
 frf:∀ b∈X.fs,X.H₀ b=qz
structure Inv(X:Cx)(aA:List (qv×Obj))(σ:List (Option V))(H:Hp)(s:qj):Prop where
 ok:X.Ok
 os:s.os=X.s₀.os
 bare:AllBare s.gens
 base:Un X.fs X.ex X.H₀ H X.s₀.heap s.heap
 loc:∃ m,s.heap.Ns X.env.locals m/\∀ (i:Nat) (x:Str) (v:V),X.N[i]? = qq x->σ[i]? = qq (qq v)->lO X.env.scope x->∃ u,aT v u/\aQj X.env s.heap m x u
 cell:∀ x c,X.env.cells.lookup x=qq c->∃ v,s.heap.IsCell c v
 free:H X.env.locals=qz
 freeC:∀ x c,X.env.cells.lookup x=qq c->H c=qz
 pin:∀ p∈X.pn++aA,s.heap.get? p.1=qq p.2/\H p.1=qz/\p.1≠X.env.locals/\p.1 ∉ X.fs/\∀ v,p.2.data≠.cell v
 hok:cO X.prog X.w H s.heap
 len:σ.length=X.N.length
section
variable {X : Cx}{aA : List (qv×Obj)}{σ : List (Option V)}{H H' : Hp}{s : qj}{h' : Heap}
theorem Cx.Ok.nofr(ok:X.Ok){b:qv}{o:Obj}(e:X.base.get? b=qq o):b ∉ X.fs:=λ hb=>by
 have:=(ok.funs.mem hb).1;rw[e] at this;cases this
theorem Inv.bs(I:Inv X aA σ H s):∀ b o,X.base.get? b=qq o->s.heap.get? b=qq o/\H b=qz:=λ b o e =>
 ⟨I.base.keep b o (I.ok.bs b o e).1 (I.ok.bs b o e).2 (I.ok.nofr e) (I.ok.noex b o e),I.base.free b o (I.ok.bs b o e).1 (I.ok.bs b o e).2 (I.ok.noex b o e)⟩
theorem Inv.bk(I:Inv X aA σ H s):∀ b o,X.base.get? b=qq o->s.heap.get? b=qq o:=λ b o e=>(I.bs b o e).1
theorem Inv.mod(I:Inv X aA σ H s):Mod X.K X.mg X.base:=I.ok.mod
theorem Inv.kIn(I:Inv X aA σ H s):X.K.In s.heap:=I.ok.mod.kin.keeps I.bk
theorem Inv.nolimit(I:Inv X aA σ H s):s.heap.NoLimit:=I.ok.mod.nolimit.keeps I.bk
theorem Inv.fr(I:Inv X aA σ H s):∃ m,Fr X.base X.env.locals s.heap m:=
 let ⟨m,hn,_⟩:=I.loc
 ⟨m,hn,I.bk,xAg I.ok.bsz I.ok.above⟩
theorem Inv.lt(I:Inv X aA σ H s):X.env.locals<s.heap.objs.size:=let ⟨_,hn,_⟩:=I.loc;hn.lt
theorem Inv.sz(I:Inv X aA σ H s):X.s₀.heap.objs.size<=s.heap.objs.size:=xAg I.ok.above (yEj I.lt)
theorem Inv.nofs(I:Inv X aA σ H s){a:qv}(h:s.heap.objs.size<=a):a ∉ X.fs:=λ hb=>by
 obtain⟨_,o,ho,_⟩:=I.ok.funs.mem hb;exact absurd (xAc (xAa ho) (xAg I.sz h)) (yBa _)
theorem Inv.cne(I:Inv X aA σ H s):∀ x c,X.env.cells.lookup x=qq c->c≠X.env.locals:=λ x c e z=>by
 obtain⟨v,o,ho,hd⟩:=I.cell x c e;obtain⟨m,⟨o',es,ep,ho',hd',_⟩,_⟩:=I.loc;rw[z,ho'] at ho;cases ho;rw[hd'] at hd;cases hd
theorem Inv.funs(I:Inv X aA σ H s):s.heap.FunFrames X.base X.outer:=by
 have all:∀ (l:List Env),(∀ b∈dB l,b∈X.fs)->X.s₀.heap.FunFrames X.base l->s.heap.FunFrames X.base l:=by
  intro l
  induction l with
  | nil=>intro _ _;trivial
  | cons env r ih =>
    intro hs hl;obtain⟨hk,⟨L,o,hf,hn,ho,hd⟩,hr⟩:=hl;have hL:L∈X.fs:=hs L (by unfold dB;rw[yCi,hf];exact xAd)
    obtain⟨sl,e⟩:=I.base.slot L o ho (I.ok.frf L hL) hL λ z=>I.ok.exfs L z hL
    exact⟨hk,⟨L,_,hf,hn,e,hd⟩,ih (λ b hb=>hs b (by unfold dB;rw[yCi,hf];exact xAf _ hb)) hr⟩
 exact all X.outer (λ _ hb=>hb) I.ok.funs
theorem Inv.stack(I:Inv X aA σ H s):s.heap.FunFrames X.base X.stack:=by
 rcases I.ok.stk with e | ⟨e,hf⟩
 ·rw[e];exact I.funs
 ·rw[e];obtain⟨m,hn,_⟩:=I.loc;refine .cons (by rw[I.ok.kind];decide) hf hn ?_ I.funs
  exact yDk (xAg I.ok.bsz I.ok.above)
theorem Inv.stkSub(I:Inv X aA σ H s):∀ b∈dB X.stack,b∈X.env.locals::X.fs:=λ b hb=>by
 rcases I.ok.stk with e | ⟨e,hf⟩
 ·rw[e] at hb;exact xAf _ hb
 ·rw[e] at hb;unfold dB at hb;rw[yCi,hf] at hb;exact hb
theorem Inv.stkFree(I:Inv X aA σ H s):∀ b∈dB X.stack,H b=qz:=λ b hb=>by
 rcases List.mem_cons.mp (I.stkSub b hb) with e | hb
 ·rw[e];exact I.free
 ·obtain⟨_,o,ho,_⟩:=I.ok.funs.mem hb;exact I.base.free b o ho (I.ok.frf b hb) λ z=>I.ok.exfs b z hb
theorem Inv.step{g':Array GenState}{t':Nat}{d':Drawn}{ch:List qv}(I:Inv X aA σ H s)
 (hch:∀ b∈ch,(b∈X.ex\/X.s₀.heap.objs.size<=b)/\b≠X.env.locals/\(∀ x c,X.env.cells.lookup x=qq c->c≠b)/\∀ p∈X.pn++aA,p.1≠b)
 (keep:∀ b o,b≠X.env.locals->b ∉ X.fs->b ∉ ch->s.heap.get? b=qq o->H b=qz->h'.get? b=qq o)
 (slot:∀ b o,b≠X.env.locals->b∈X.fs->b ∉ ch->s.heap.get? b=qq o->H b=qz->∃ sl,h'.get? b=qq {o with slots:=sl }) (free:∀ b o,b ∉ ch->s.heap.get? b=qq o->H b=qz->H' b=qz)
 (there:∀ b o,b ∉ ch->s.heap.get? b=qq o->∃ o',h'.get? b=qq o')
 (tups:∀ b xs,H b=qq (.tup xs)->H' b=qq (.tup xs)) (frzs:∀ b o u,H b=qq (.frz o u)->H' b=qq (.frz o u)) (tbls:∀ b ps,H b=qq (.tbl ps)->∃ more,H' b=qq (.tbl (ps++more)))
 (ns:∀ m,s.heap.Ns X.env.locals m->h'.Ns X.env.locals m) (hok:cO X.prog X.w H' h') (hg:AllBare g') :
 Inv X aA σ H' {s with heap:=h',gens:=g',drawn:=d',toks:=t' }:=by
 have neL:∀ b o,X.s₀.heap.get? b=qq o->b≠X.env.locals:=λ b o e=>xAh (xAc (xAa e) I.ok.above)
 have neC:∀ b o,X.s₀.heap.get? b=qq o->b ∉ X.ex->b ∉ ch:=λ b o e hx hb=>by
  rcases (hch b hb).1 with z | z
  ·exact hx z
  ·exact absurd (xAc (xAa e) z) (yBa _)
 have cellK:∀ x c,X.env.cells.lookup x=qq c->∀ v,s.heap.IsCell c v->h'.IsCell c v:=λ x c e v aJ=>by
  obtain⟨o,ho,hd⟩:=aJ;have nch:c ∉ ch:=λ z=>(hch c z).2.2.1 x c e rfl
  by_cases hc:c∈X.fs
  ·obtain⟨sl,q⟩:=slot c o (I.cne x c e) hc nch ho (I.freeC x c e);exact⟨_,q,hd⟩
  ·exact⟨o,keep c o (I.cne x c e) hc nch ho (I.freeC x c e),hd⟩
 refine⟨I.ok,I.os,hg,⟨λ b o e n hb hx=>?_,λ b o e n hb hx=>?_,λ b o e n hx=>?_,λ b o e hx=>?_,λ b xs e=>tups b xs (I.base.tups b xs e),λ b o xs e=>frzs b o xs (I.base.frzs b o xs e),λ b ps e=>?_⟩,?_,λ x c e=>?_,?_,λ x c e=>?_,λ p hp=>?_,hok,I.len⟩
 ·exact keep b o (neL b o e) hb (neC b o e hx) (I.base.keep b o e n hb hx) (I.base.free b o e n hx)
 ·obtain⟨sl,e1⟩:=I.base.slot b o e n hb hx;obtain⟨sl',e2⟩:=slot b _ (neL b o e) hb (neC b o e hx) e1 (I.base.free b o e n hx);exact⟨sl',e2⟩
 ·obtain⟨o',e1⟩:=I.base.there b o e hx;exact free b o' (neC b o e hx) e1 (I.base.free b o e n hx)
 ·obtain⟨o',e1⟩:=I.base.there b o e hx;exact there b o' (neC b o e hx) e1
 ·obtain⟨m1,e1⟩:=I.base.tbls b ps e;obtain⟨m2,e2⟩:=tbls b _ e1;exact⟨m1++m2,by rw[e2,Array.append_assoc]⟩
 ·obtain⟨m,hn,hl⟩:=I.loc;refine⟨m,ns m hn,λ i x v e1 e2 e3=>?_⟩
  obtain⟨u,r,l⟩:=hl i x v e1 e2 e3;refine⟨u,r,?_⟩;rcases l with l | ⟨k,c,e,z⟩
  ·exact .inl l
  ·exact .inr ⟨k,c,e,cellK x c e _ z⟩
 ·obtain⟨v,z⟩:=I.cell x c e;exact⟨v,cellK x c e v z⟩
 ·obtain⟨m,⟨o,_,_,ho,_⟩,_⟩:=I.loc;exact free _ o (λ z=>(hch _ z).2.1 rfl) ho I.free
 ·obtain⟨v,o,ho,hd⟩:=I.cell x c e;exact free c o (λ z=>(hch c z).2.2.1 x c e rfl) ho (I.freeC x c e)
 ·obtain⟨e,n,ne,nf,d⟩:=I.pin p hp;have nch:p.1 ∉ ch:=λ z=>(hch p.1 z).2.2.2 p hp rfl
  exact⟨keep p.1 p.2 ne nf nch e n,free p.1 p.2 nch e n,ne,nf,d⟩
theorem Inv.un{t':Nat}(I:Inv X aA σ H s)(u:Un X.fs [] H H' s.heap h')(hok:cO X.prog X.w H' h'):Inv X aA σ H' {s with heap:=h',toks:=t' }:=by
 obtain⟨m,⟨o,es,ep,ho,r⟩,_⟩:=id I.loc;obtain⟨sl,hL⟩:=u.any ho I.free (by simp)
 exact I.step (g':=s.gens) (d':=s.drawn) (ch:=[]) (λ _ z=>nomatch z) (λ b o _ hb _ e n=>u.keep b o e n hb (by simp)) (λ b o _ hb _ e n=>u.slot b o e n hb (by simp)) (λ b o _ e n=>u.free b o e n (by simp)) (λ b o _ e=>u.there b o e (by simp)) u.tups u.frzs u.tbls (λ m' hm=>by
  obtain⟨o',es',ep',ho',r'⟩:=hm;rw[ho] at ho';cases ho';exact⟨_,es',ep',hL,r'⟩) hok I.bare
theorem Inv.call{g':Array GenState}{t':Nat}{d':Drawn}{ch:List qv}(I:Inv X aA σ H s)(u:Un (dB X.stack) ch H H' s.heap h')(hok:cO X.prog X.w H' h')(hg:AllBare g')
 (hch:∀ b∈ch,(b∈X.ex\/X.s₀.heap.objs.size<=b)/\b≠X.env.locals/\(∀ x c,X.env.cells.lookup x=qq c->c≠b)/\∀ p∈X.pn++aA,p.1≠b) :
 Inv X aA σ H' {s with heap:=h',gens:=g',drawn:=d',toks:=t' }:=by
 obtain⟨m,⟨o,es,ep,ho,r⟩,_⟩:=id I.loc;obtain⟨sl,hL⟩:=u.any ho I.free λ z=>(hch _ z).2.1 rfl
 exact I.step (ch:=ch) hch (λ b o hL hb hc e n=>u.keep b o e n (λ z=>(List.mem_cons.mp (I.stkSub b z)).elim hL hb) hc) (λ b o _ _ hc e n=>u.any e n hc) (λ b o hc e n=>u.free b o e n hc) (λ b o hc e=>u.there b o e hc) u.tups u.frzs u.tbls (λ m' hm=>by
  obtain⟨o',es',ep',ho',r'⟩:=hm;rw[ho] at ho';cases ho';exact⟨_,es',ep',hL,r'⟩) hok hg
theorem Inv.turned{t':Nat}{it:qv}(I:Inv X aA σ H s)(k:∀ b o,b≠it->s.heap.get? b=qq o->h'.get? b=qq o)(hn:H it=qz)(hL:it≠X.env.locals)
 (h1:it∈X.ex\/X.s₀.heap.objs.size<=it) (h2:∀ x c,X.env.cells.lookup x=qq c->c≠it) (h3:∀ p∈X.pn++aA,p.1≠it):Inv X aA σ H {s with heap:=h',toks:=t' }:=by
 have nit:∀ b u,H b=qq u->b≠it:=λ b u e z=>by rw[z,hn] at e;cases e
 refine I.step (g':=s.gens) (d':=s.drawn) (ch:=[it]) (λ b hb=>?_) (λ b o _ _ hc e _=>k b o (λ z=>hc (by simp[z])) e) (λ b o _ _ hc e _=>⟨o.slots,k b o (λ z=>hc (by simp[z])) e⟩) (λ _ _ _ _ n=>n)
  (λ b o hc e=>⟨o,k b o (λ z=>hc (by simp[z])) e⟩) (λ _ _ e=>e) (λ _ _ _ e=>e) (λ b ps e=>⟨#[],by rw[e];simp⟩) (λ m hm=>?_) (λ b u e=>?_) I.bare
 ·have e:b=it:=by simpa using hb
  subst e;exact⟨h1,hL,h2,h3⟩
 ·obtain⟨o,es,ep,ho,r⟩:=hm;exact⟨o,es,ep,k _ o (Ne.symm hL) ho,r⟩
 ·refine(I.hok b u e).stay (λ c v hc q=>k c v ?_ q) (λ _ q=>q) λ _ _ q=>q
  rcases hc with z | z
  ·rw[z];exact nit b u e
  ·exact nit c _ z
theorem Inv.tok(I:Inv X aA σ H s)(t:Nat):Inv X aA σ H {s with toks:=t }:=I.un (h':=s.heap) (t':=t) Un.refl I.hok
theorem Inv.kept{t':Nat}(I:Inv X aA σ H s)(k:∀ b u,s.heap.get? b=qq u->h'.get? b=qq u):Inv X aA σ H {s with heap:=h',toks:=t' }:=I.un (Un.kept k) (I.hok.kept k)
theorem Inv.laid{a:qv}{o:HO}{t':Nat}(I:Inv X aA σ H s)(k:∀ b u,s.heap.get? b=qq u->h'.get? b=qq u)(hp:s.heap.objs.size<=a)(new:fA X.prog X.w (aQ H a o) h' a o) :
 Inv X aA σ (aQ H a o) {s with heap:=h',toks:=t' }:=I.un (Un.laid k hp (I.hok.fresh hp)) (I.hok.laid k hp new)
theorem Inv.write{x e:qv}{o:HO}{t':Nat}(I:Inv X aA σ H s)(mu:yY (H x))(he:e=x\/H e=qq (.own x))(k:∀ b u,b≠e->s.heap.get? b=qq u->h'.get? b=qq u)(heo:∃ u,h'.get? e=qq u)
 (new:fA X.prog X.w (aQ H x o) h' x o):Inv X aA σ (aQ H x o) {s with heap:=h',toks:=t' }:=I.un (Un.write mu he k heo) (I.hok.write mu he k heo new)
theorem Inv.weak{σ':List (Option V)}(I:Inv X aA σ H s)(hl:σ'.length=σ.length)(w:∀ (i:Nat) v,σ'[i]? = qq (qq v)->σ[i]? = qq (qq v)):Inv X aA σ' H s:=
 ⟨I.ok,I.os,I.bare,I.base,let ⟨m,hn,hl'⟩:=I.loc;⟨m,hn,λ i x v e1 e2 e3=>hl' i x v e1 (w i v e2) e3⟩,I.cell,I.free,I.freeC,I.pin,I.hok,hl.trans I.len⟩
theorem Inv.pins_of{pins':List (qv×Obj)}(I:Inv X aA σ H s)(h:∀ p∈pins',s.heap.get? p.1=qq p.2/\H p.1=qz/\p.1≠X.env.locals/\p.1 ∉ X.fs/\∀ v,p.2.data≠.cell v):Inv X pins' σ H s:=
 ⟨I.ok,I.os,I.bare,I.base,I.loc,I.cell,I.free,I.freeC,λ p hp=>(List.mem_append.mp hp).elim (λ z=>I.pin p (yBk _ z)) (h p),I.hok,I.len⟩
theorem aAK{N:List Str}(hN:N.Nodup){i j:Nat}{x:Str}(a:N[i]? = qq x)(b:N[j]? = qq x):i=j:=by
 obtain⟨h1,e1⟩:=gIm a;obtain⟨h2,e2⟩:=gIm b;exact(yFo hN).mp (e1.trans e2.symm)
theorem aIY{M:Model}{A:zv}{E:qx->qj->Prop}{i:Nat}{x:Str}{v:V}{u:qx}{Q:Unit->qj->Prop}(I:Inv X aA σ H s)(hN:X.N.Nodup)(hi:X.N[i]? = qq x)(hx:Loc X.env.scope x)(r:aT v u)
 (h:∀ s',Inv X aA (σ.set i (qq v)) H s'->(∃ a,yCz a s.heap s'.heap/\(a=X.env.locals\/X.env.cells.lookup x=qq a))->Q () s') (hf:X.fn x=true\/X.env.scope.names.lookup x=qq .local:=by first | exact .inl rfl | exact .inr rfl | assumption):qu M A (storeName X.env x u) Q E s:=by
 obtain⟨m,hn,hl⟩:=id I.loc;have hcls:(X.env.scope.kind==.class||(X.env.scope.kind==.module&&X.env.locals != X.env.globals))=false:=by rw[I.ok.kind];rfl
 have hiσ:i<σ.length:=by rw[I.len];exact(gIm hi).1
 have cne:=I.cne;have tracked:∀ {a:qv}{h':Heap},(∃ o,s.heap.get? a=qq o/\H a=qz)->yCz a s.heap h'->cO X.prog X.w H h':=λ {a h'} ha hs b ob e=>by
  obtain⟨_,_,hfree⟩:=ha;refine(I.hok b ob e).stay (λ c w' hc q=>(hs.2 c ?_).trans q) (λ _ q=>q) λ _ _ q=>q
  rintro rfl;rcases hc with rfl | hc
  ·rw[hfree] at e;cases e
  ·rw[hfree] at hc;cases hc
 rcases hx with hk | hk
 ·refine wpAny_storeName_local hk hn (λ h' hn' hs=>?_) hcls
  obtain⟨oL,_,_,hoL,_⟩:=id hn;refine h _ ⟨I.ok,I.os,I.bare,⟨λ b o e n hb hx=>?_,λ b o e n hb hx=>?_,I.base.free,λ b o e hx=>?_,I.base.tups,I.base.frzs,I.base.tbls⟩,⟨_,hn',λ j y v' e1 e2 e3=>?_⟩,λ y c e=>?_,I.free,I.freeC,λ p hp=>?_,tracked ⟨oL,hoL,I.free⟩ hs,by simpa using I.len⟩ ⟨_,hs,.inl rfl⟩
  ·exact(hs.2 b (xAh (xAc (xAa e) I.ok.above))).trans (I.base.keep b o e n hb hx)
  ·obtain⟨sl,e1⟩:=I.base.slot b o e n hb hx;exact⟨sl,(hs.2 b (xAh (xAc (xAa e) I.ok.above))).trans e1⟩
  ·obtain⟨o',e1⟩:=I.base.there b o e hx;exact⟨o',(hs.2 b (xAh (xAc (xAa e) I.ok.above))).trans e1⟩
  ·by_cases hj:j=i
   ·subst hj;rw[hi] at e1;cases e1;rw[yAo hiσ] at e2;cases e2;exact⟨u,r,.inl ⟨hk,by simp⟩⟩
   ·rw[yAn (Ne.symm hj)] at e2;obtain⟨u',r',q⟩:=hl j y v' e1 e2 e3;refine⟨u',r',?_⟩;rcases q with ⟨k,e⟩ | ⟨k,c,e,z⟩
    ·refine .inl ⟨k,?_⟩;have:y≠x:=λ e=>hj (aAK hN e1 (e▸hi))
     simp[this,e]
    ·exact .inr ⟨k,c,e,z.sameBut hs (cne y c e)⟩
  ·obtain⟨w',z⟩:=I.cell y c e;exact⟨w',z.sameBut hs (cne y c e)⟩
  ·obtain⟨e,n,ne,nf,d⟩:=I.pin p hp;exact⟨(hs.2 p.1 ne).trans e,n,ne,nf,d⟩
 ·have hfn:X.fn x=true:=by
   rcases hf with z | z
   ·exact z
   ·rw[z] at hk;cases hk
  obtain⟨c,hc⟩:=I.ok.has x (.inl hk);obtain⟨w',z⟩:=I.cell x c hc;refine wpAny_storeName_cell I.ok.kind hk hc z (λ h' hc' hs=>?_)
  obtain⟨oc,hoc,hocd⟩:=id z;refine h {s with heap:=h' } ⟨I.ok,I.os,I.bare,⟨λ b o e n hb hx=>?_,λ b o e n hb hx=>?_,I.base.free,λ b o e hx=>?_,I.base.tups,I.base.frzs,I.base.tbls⟩,⟨m,hn.sameBut hs (Ne.symm (cne x c hc)),λ j y v' e1 e2 e3=>?_⟩,λ y c' e=>?_,I.free,I.freeC,λ p hp=>?_,tracked ⟨oc,hoc,I.freeC x c hc⟩ hs,by simpa using I.len⟩ ⟨c,hs,.inr hc⟩
  ·exact(hs.2 b (xAh (xAc (xAa e) (I.ok.cab x c hfn hc)))).trans (I.base.keep b o e n hb hx)
  ·obtain⟨sl,e1⟩:=I.base.slot b o e n hb hx;exact⟨sl,(hs.2 b (xAh (xAc (xAa e) (I.ok.cab x c hfn hc)))).trans e1⟩
  ·obtain⟨o',e1⟩:=I.base.there b o e hx;exact⟨o',(hs.2 b (xAh (xAc (xAa e) (I.ok.cab x c hfn hc)))).trans e1⟩
  ·by_cases hj:j=i
   ·subst hj;rw[hi] at e1;cases e1;rw[yAo hiσ] at e2;cases e2;exact⟨u,r,.inr ⟨.inl hk,c,hc,hc'⟩⟩
   ·rw[yAn (Ne.symm hj)] at e2;obtain⟨u',r',q⟩:=hl j y v' e1 e2 e3;refine⟨u',r',?_⟩;rcases q with q | ⟨k,c',e,z'⟩
    ·exact .inl q
    ·refine .inr ⟨k,c',e,z'.sameBut hs ?_⟩;rintro rfl;exact hj (aAK hN e1 (I.ok.inj _ _ _ e hc▸hi))
  ·by_cases hcc:c'=c
   ·subst hcc;exact⟨_,hc'⟩
   ·obtain⟨w2,z2⟩:=I.cell y c' e;exact⟨w2,z2.sameBut hs hcc⟩
  ·obtain⟨e,n,ne,nf,d⟩:=I.pin p hp;refine⟨(hs.2 p.1 ?_).trans e,n,ne,nf,d⟩;intro q;rw[q,hoc] at e;have q':oc=p.2:=Option.some.inj e;exact d w' (by rw[<- q'];exact hocd)
theorem aAx{M:Model}{A:zv}{E:qx->qj->Prop}{i:Nat}{x:Str}{v:V}{u:qx}{Q:Unit->qj->Prop}(I:Inv X aA σ H s)(hN:X.N.Nodup)(hi:X.N[i]? = qq x)(hx:Loc X.env.scope x)(r:aT v u)
 (h:∀ s',Inv X aA (σ.set i (qq v)) H s'->Q () s') (hf:X.fn x=true\/X.env.scope.names.lookup x=qq .local:=by first | exact .inl rfl | exact .inr rfl | assumption):qu M A (storeName X.env x u) Q E s:=
 aIY I hN hi hx r (λ s' I' _=>h s' I') hf
theorem Inv.call'{s':qj}{ch:List qv}(I:Inv X aA σ H s)(ho:s'.os=s.os)(u:Un (dB X.stack) ch H H' s.heap s'.heap)(hok:cO X.prog X.w H' s'.heap)(hg:AllBare s'.gens)
 (hch:∀ b∈ch,(b∈X.ex\/X.s₀.heap.objs.size<=b)/\b≠X.env.locals/\(∀ x c,X.env.cells.lookup x=qq c->c≠b)/\∀ p∈X.pn++aA,p.1≠b):Inv X aA σ H' s':=by
 obtain⟨h',g',d',t',o'⟩:=s';have e:o'=s.os:=ho;subst e;exact I.call (g':=g') (t':=t') (d':=d') u hok hg hch
end
abbrev XK:=qx->Option qv->Hp->Prop
abbrev St:=List (Option V)
abbrev VK:=V->Hp->Prop
abbrev TE:=St->Hp->VK->Prop
abbrev TT:=St->Hp->(Bool->Hp->Prop)->Prop
abbrev TA:=St->Hp->(List V->Hp->Prop)->Prop
structure Ends where
 nx:St->Hp->Prop
 rt:VK
 bk:St->Hp->Prop:=λ _ _=>False
 ct:St->Hp->Prop:=λ _ _=>False
abbrev TS:=Ends->St->Hp->Prop
def EP(X:Cx)(aA:List (qv×Obj))(σ:St)(Q:VK)(u:qx)(s':qj):Prop:=∃ v H',Inv X aA σ H' s'/\aT v u/\Q v H'
def TP(X:Cx)(aA:List (qv×Obj))(σ:St)(Q:Bool->Hp->Prop)(b:Bool)(s':qj):Prop:=∃ H',Inv X aA σ H' s'/\Q b H'
def AP(X:Cx)(aA:List (qv×Obj))(σ:St)(Q:List V->Hp->Prop)(us:List qx)(s':qj):Prop:=∃ vs H',Inv X aA σ H' s'/\aO vs us/\Q vs H'
def SP(X:Cx)(aA:List (qv×Obj))(D:Ends)(f:Flow)(s':qj):Prop:=
 match f with
 | .next=>∃ σ' H',Inv X aA σ' H' s'/\D.nx σ' H'
 | .brk=>∃ σ' H',Inv X aA σ' H' s'/\D.bk σ' H'
 | .cont=>∃ σ' H',Inv X aA σ' H' s'/\D.ct σ' H'
 | .ret u=>∃ v σ' H',Inv X aA σ' H' s'/\aT v u/\D.rt v H'
def PE(X:Cx)(e:qw)(t:TE):Prop:=
 ∀ (aA:List (qv×Obj)) (s:qj) (σ:St) (H:Hp) (Q:VK),Inv X aA σ H s->t σ H Q->qu (model X.prog X.w) X.A (eval e X.env) (EP X aA σ Q) X.xe s
def PT(X:Cx)(e:qw)(t:TT):Prop:=
 ∀ (aA:List (qv×Obj)) (s:qj) (σ:St) (H:Hp) (Q:Bool->Hp->Prop),Inv X aA σ H s->t σ H Q->qu (model X.prog X.w) X.A (isTrue e X.env (eval e X.env)) (TP X aA σ Q) X.xe s
def PW(X:Cx)(e:qw)(t:TT):Prop:=
 ∀ (eK:Sem qx) (aA:List (qv×Obj)) (s:qj) (σ:St) (H:Hp) (Q:Bool->Hp->Prop),Inv X aA σ H s->t σ H Q->qu (model X.prog X.w) X.A (isTrue e X.env eK) (TP X aA σ Q) X.xe s
theorem PW.pt{X:Cx}{e:qw}{t:TT}(h:PW X e t):PT X e t:=h _
def PA(X:Cx)(es:List qw)(t:TA):Prop:=
 ∀ (pos:Pos) (aA:List (qv×Obj)) (s:qj) (σ:St) (H:Hp) (Q:List V->Hp->Prop),Inv X aA σ H s->t σ H Q->qu (model X.prog X.w) X.A (spliced (backTo pos (zj es X.env))) (AP X aA σ Q) X.xe s
def PS(X:Cx)(st:zy)(t:TS):Prop:=
 ∀ (aA:List (qv×Obj)) (s:qj) (σ:St) (H:Hp) (D:Ends),Inv X aA σ H s->t D σ H->qu (model X.prog X.w) X.A (exec st X.env) (SP X aA D) X.xe s
def bN(X:Cx)(st:List zy)(t:TS):Prop:=
 ∀ (aA:List (qv×Obj)) (s:qj) (σ:St) (H:Hp) (D:Ends),Inv X aA σ H s->t D σ H->qu (model X.prog X.w) X.A (execs st X.env) (SP X aA D) X.xe s
theorem aU{α:Type}{t:Sem α}{Q Q':α->qj->Prop}{M:Model}{A:zv}{E:qx->qj->Prop}{s:qj}(h:qu M A t Q E s)(hQ:∀ a s,Q a s->Q' a s):qu M A t Q' E s:=wpAny_mono h hQ λ _ _ x=>x
end L2
namespace L2
open PySem PySem.Spec PyProof.Rows
section
variable {X : Cx}
theorem bin{a b:qw}{ta tb:TE}(ha:PE X a ta)(hb:PE X b tb){aA:List (qv×Obj)}{s:qj}{σ:St}{H:Hp}{R:V->V->Hp->Prop}(I:Inv X aA σ H s)(h:ta σ H λ x H1=>tb σ H1 λ y H2=>R x y H2)
 {α:Type}{Q:α->qj->Prop}{f:qx->qx->Sem α}
 (hf:∀ v u s2 x y H2,Inv X aA σ H2 s2->aT x v->aT y u->R x y H2->qu (model X.prog X.w) X.A (f v u) Q X.xe s2) :
 qu (model X.prog X.w) X.A (eval a X.env) (λ v s₁=>qu (model X.prog X.w) X.A (eval b X.env) (λ u s₂=>qu (model X.prog X.w) X.A (f v u) Q X.xe s₂) X.xe s₁) X.xe s:=by
 refine aU (ha aA s σ H _ I h) λ v s1 hPq0=>?_
 obtain⟨x,H1,I1,r1,q1⟩:=hPq0;refine aU (hb aA s1 σ H1 _ I1 q1) λ u s2 hPq1=>?_
 obtain⟨y,H2,I2,r2,q2⟩:=hPq1;exact hf v u s2 x y H2 I2 r1 r2 q2
def aPW(i:Nat):TE:=λ σ H Q=>∃ v,σ[i]? = qq (qq v)/\Q v H
def tC(v:V):TE:=λ _ H Q=>Q v H
theorem aBf{i:Nat}{x:Str}{pos:Pos}(hN:X.N[i]? = qq x)(hv:lO X.env.scope x)(hd:(x==("__debug__" : Str))=false:=by decide)(hcd:(x==("__classdict__" : Str))=false:=by decide):PE X (.Name x pos) (aPW i):=by
 intro aA s σ H Q I h;obtain⟨v,e,h⟩:=h;obtain⟨m,hn,hl⟩:=I.loc;obtain⟨u,r,l⟩:=hl i x v hN e hv;have bB:EP X aA σ Q u s:=⟨v,H,I,r,h⟩;rcases l with ⟨hk,hm⟩ | ⟨hk,c,hc,hcell⟩
 ·exact wpAny_Name (wpAny_loadName_local I.ok.kind hk hn hm bB) hd
 ·rcases hk with hk | hk
  ·exact wpAny_Name (wpAny_loadName_cell I.ok.kind hk hc hcell bB) hd
  ·exact wpAny_Name (wpAny_loadName_free I.ok.kind hk hc hcell bB hcd) hd
theorem aNi{i j pos}:PE X (.Constant (.int i) j pos) (tC (.int i)):=λ _ _ _ H _ I h=>wpAny_Constant_int ⟨.int i,H,I.tok _,⟨_,rfl⟩,h⟩
theorem aPq{b j pos}:PE X (.Constant (.bool b) j pos) (tC (.bl b)):=λ _ _ _ H _ I h=>Constant_bool ⟨.bl b,H,I,rfl,h⟩
theorem aMs{j pos}:PE X (.Constant .none j pos) (tC .non):=λ _ _ _ H _ I h=>Constant_none ⟨.non,H,I,rfl,h⟩
theorem aFv{x j pos}:PE X (.Constant (.str x) j pos) (tC (.str x)):=λ _ _ _ H _ I h=>Calls.Constant_str ⟨.str x,H,I.tok _,⟨_,rfl⟩,h⟩
def Gl(X:Cx)(x:Str):Prop:=X.env.kindOf x=qq .globalImplicit
theorem kS{E:qx->qj->Prop}{aA:List (qv×Obj)}{s:qj}{σ:St}{H:Hp}{x:Str}{u:qx}{pos:Pos}{Q:qx->qj->Prop}(I:Inv X aA σ H s)(hg:Gl X x)(hm:X.mg x=qq u)(h:Q u s)
 (hd:(x==("__debug__" : Str))=false:=by decide):qu (model X.prog X.w) X.A (eval (.Name x pos) X.env) Q E s:=
 Calls.Name_function_global I.ok.kind hg (Calls.loadGlobal_global (by rw[I.ok.glob];exact I.mod.glob.keeps I.bk) hm h) hd
theorem sD{E:qx->qj->Prop}{aA:List (qv×Obj)}{s:qj}{σ:St}{H:Hp}{x:Str}{u:qx}{pos:Pos}{Q:qx->qj->Prop}(I:Inv X aA σ H s)(hg:Gl X x)(hm:X.mg x=qz)(hv:zk x=qq u)(h:Q u s)
 (hn:x ≠ "__name__":=by decide) (hd:(x==("__debug__" : Str))=false:=by decide):qu (model X.prog X.w) X.A (eval (.Name x pos) X.env) Q E s:=by
 obtain⟨mb,h1,h2⟩:=I.mod.blt;exact Calls.Name_function_global I.ok.kind hg (Calls.loadGlobal_builtin (by rw[I.ok.glob];exact I.mod.glob.keeps I.bk) hm (by rw[I.ok.blt];exact h1.keeps I.bk) ((h2 x hn).trans hv) h) hd
theorem rX{x:Str}{v:V}{u:qx}{pos:Pos}(hg:Gl X x)(hm:X.mg x=qq u)(r:aT v u)(hd:(x==("__debug__" : Str))=false:=by decide):PE X (.Name x pos) (tC v):=
 λ _ _ _ H _ I h=>kS I hg hm ⟨v,H,I,r,h⟩ hd
theorem aD9{x:Str}{v:V}{u:qx}{pos:Pos}(hg:Gl X x)(hm:X.mg x=qz)(hv:zk x=qq u)(r:aT v u)(hn:x ≠ "__name__":=by decide)(hd:(x==("__debug__" : Str))=false:=by decide):PE X (.Name x pos) (tC v):=
 λ _ _ _ H _ I h=>sD I hg hm hv ⟨v,H,I,r,h⟩ hn hd
variable {a b : qw}{ta tb : TE}{pos : Pos}
def PC(X:Cx)(op:jx)(a b:qw)(t:TE):Prop:=
 ∀ (aA:List (qv×Obj)) (s:qj) (σ:St) (H:Hp) (Q:VK),Inv X aA σ H s->t σ H Q ->
  qu (model X.prog X.w) X.A (eval a X.env) (λ v s₁=>qu (model X.prog X.w) X.A (eval b X.env) (λ u s₂=>qu (model X.prog X.w) X.A (zo op v u) (EP X aA σ Q) X.xe s₂) X.xe s₁) X.xe s
variable {tA tB' : TT}{bK : List qw}
def aGL(t u:TT):TT:=λ σ H Q=>t σ H λ c H1=>if c=true then u σ H1 Q else Q false H1
def tOr(t u:TT):TT:=λ σ H Q=>t σ H λ c H1=>if c=true then Q true H1 else u σ H1 Q
def aQz(t:TT):TT:=λ σ H Q=>t σ H λ c H1=>Q (!c) H1
theorem aK0(ha:PT X a tA):PW X (.BoolOp .And [a] pos) tA:=by
 intro wh aA s σ H Q I h;refine isTrue_and (aU (ha aA s σ H Q I h) λ c s1 e=>?_)
 cases c with
 | true=>exact isTrue_and_nil e
 | false=>exact e
theorem aNe(ha:PT X a tA):PW X (.BoolOp .Or [a] pos) tA:=by
 intro wh aA s σ H Q I h;refine isTrue_or (aU (ha aA s σ H Q I h) λ c s1 e=>?_)
 cases c with
 | false=>exact isTrue_or_nil e
 | true=>exact e
theorem aE0(ha:PT X a tA)(hb:PW X (.BoolOp .And (b::bK) pos) tB'):PW X (.BoolOp .And (a::b::bK) pos) (aGL tA tB'):=by
 intro wh aA s σ H Q I h;refine isTrue_and (aU (ha aA s σ H _ I h) λ c s1 hPq2=>?_)
 obtain⟨H1,I1,q1⟩:=hPq2;cases c with
 | true=>exact hb wh aA s1 σ H1 Q I1 q1
 | false=>exact⟨H1,I1,q1⟩
theorem aF2(ha:PT X a tA)(hb:PW X (.BoolOp .Or (b::bK) pos) tB'):PW X (.BoolOp .Or (a::b::bK) pos) (tOr tA tB'):=by
 intro wh aA s σ H Q I h;refine isTrue_or (aU (ha aA s σ H _ I h) λ c s1 hPq3=>?_)
 obtain⟨H1,I1,q1⟩:=hPq3;cases c with
 | true=>exact⟨H1,I1,q1⟩
 | false=>exact hb wh aA s1 σ H1 Q I1 q1
theorem aMM(ha:PT X a tA):PT X (.UnaryOp .Not a pos) (aQz tA):=by
 intro aA s σ H Q I h;exact isTrue_not (ha aA s σ H (λ c H1=>Q (!c) H1) I h)
def aGk(ta tb:TE):TE:=λ σ H Q=>ta σ H λ x H1=>∃ c,x=.bl c/\if c=true then tb σ H1 Q else Q (.bl false) H1
def aGr(ta tb:TE):TE:=λ σ H Q=>ta σ H λ x H1=>∃ c,x=.bl c/\if c=true then Q (.bl true) H1 else tb σ H1 Q
def aPR(ta:TE):TE:=λ σ H Q=>ta σ H λ x H1=>∃ c,x=.bl c/\Q (.bl (!c)) H1
theorem aA5{op}{t:TE}(h:PE X a t):PE X (.BoolOp op [a] pos) t:=λ aA s σ H Q I hw=>BoolOp_one (h aA s σ H Q I hw)
theorem vY(ha:PE X a ta)(hb:PE X (.BoolOp .And (b::bK) pos) tb):PE X (.BoolOp .And (a::b::bK) pos) (aGk ta tb):=by
 intro aA s σ H Q I h;refine BoolOp_and (aU (ha aA s σ H _ I h) λ v s1 hPq4=>?_)
 obtain⟨x,H1,I1,r1,q1⟩:=hPq4;obtain⟨c,rfl,q1⟩:=q1;cases r1;refine xw ?_;cases c with
 | true=>exact hb aA s1 σ H1 Q I1 q1
 | false=>exact⟨.bl false,H1,I1,rfl,q1⟩
theorem aF3(ha:PE X a ta)(hb:PE X (.BoolOp .Or (b::bK) pos) tb):PE X (.BoolOp .Or (a::b::bK) pos) (aGr ta tb):=by
 intro aA s σ H Q I h;refine BoolOp_or (aU (ha aA s σ H _ I h) λ v s1 hPq5=>?_)
 obtain⟨x,H1,I1,r1,q1⟩:=hPq5;obtain⟨c,rfl,q1⟩:=q1;cases r1;refine xw ?_;cases c with
 | false=>exact hb aA s1 σ H1 Q I1 q1
 | true=>exact⟨.bl true,H1,I1,rfl,q1⟩
theorem aN0(ha:PE X a ta):PE X (.UnaryOp .Not a pos) (aPR ta):=by
 intro aA s σ H Q I h;refine UnaryOp_ (aU (ha aA s σ H _ I h) λ v s1 hPq6=>?_)
 obtain⟨x,H1,I1,r1,q1⟩:=hPq6;obtain⟨c,rfl,q1⟩:=q1;cases r1;exact not_of (xw ⟨.bl (!c),H1,I1,rfl,q1⟩)
def tIf(t:TT)(ta tb:TE):TE:=λ σ H Q=>t σ H λ c H1=>if c=true then ta σ H1 Q else tb σ H1 Q
theorem aJJ{c:qw}(hc:PT X c tA)(ha:PE X a ta)(hb:PE X b tb):PE X (.IfExp c a b pos) (tIf tA ta tb):=by
 intro aA s σ H Q I h;refine wpAny_IfExp (aU (hc aA s σ H _ I h) λ d s1 hPq7=>?_)
 obtain⟨H1,I1,q1⟩:=hPq7;cases d with
 | true=>exact ha aA s1 σ H1 Q I1 q1
 | false=>exact hb aA s1 σ H1 Q I1 q1
end
end L2
namespace L2
open PySem PySem.Spec PyProof.Rows
def bJ(K:FrG)(H:Hp)(a:qv)(xs:List V):Prop:=
 Rd H a (.lst xs) \/
  ∃ (o:Obj) (its:Array qx) (n:Nat),K.lookup a=qq o/\o.cls=.type "list" /\ o.dict=qz/\o.data=.seq its n/\its.size<=qk/\aO xs its.toList
def bM(K:FrG)(H:Hp)(a:qv)(xs:List V):Prop:=
 Rd H a (.tup xs) \/
  ∃ (o:Obj) (its:Array qx) (n:Nat),K.lookup a=qq o/\o.cls=.type "tuple" /\ o.data=.seq its n/\its.size<=qk/\aO xs its.toList
noncomputable def aQH:qx->Option V
 | .none=>qq .non
 | .bool b=>qq (.bl b)
 | .int i _=>qq (.int i)
 | .str x _=>qq (.str x)
 | .bytes b _=>qq (.byt b)
 | .float b _=>qq (.flt b)
 | .ref a=>qq (.ref a)
 | .type n=>qq (.ty n)
 | _=>qz
theorem aT.abs{x:V}{u:qx}(r:aT x u):aQH u=qq x:=by
 cases x with
 | non=>cases r;rfl
 | bl _=>cases r;rfl
 | int _=>obtain⟨t,rfl⟩:=r;rfl
 | str _=>obtain⟨t,rfl⟩:=r;rfl
 | byt _=>obtain⟨t,rfl⟩:=r;rfl
 | flt _=>obtain⟨t,rfl⟩:=r;rfl
 | ref _=>cases r;rfl
 | ty _=>cases r;rfl
theorem aT.inj{x y:V}{u:qx}(r:aT x u)(q:aT y u):x=y:=Option.some.inj (r.abs.symm.trans q.abs)
theorem aO.inj:∀ {xs ys:List V}{us:List qx},aO xs us->aO ys us->xs=ys
 | _,_,_,.nil,.nil=>rfl
 | _,_,_,.cons r t,.cons r' t'=>by rw[r.inj r',aO.inj t t']
section
variable {X : Cx}{aA : List (qv×Obj)}{σ : St}{H : Hp}{s : qj}{a : qv}{xs ys : List V}
theorem bJ.of{K:FrG}(h:H a=qq (.lst xs)):bJ K H a xs:=.inl (.inl h)
theorem bM.of{K:FrG}(h:H a=qq (.tup xs)):bM K H a xs:=.inl (.inl h)
theorem Inv.list(I:Inv X aA σ H s)(h:bJ X.K H a xs):∃ its:List qx,aO xs its/\PlainL s.heap a its.toArray/\xs.length<=qk:=by
 rcases h with h | ⟨o,its,n,hk,hc,hd,hs,hz,r⟩
 ·obtain⟨z,its,n,r,e⟩:=h.ok I.hok;exact⟨its,r,⟨_,n,e,rfl,rfl,rfl⟩,z⟩
 ·refine⟨its.toList,r,⟨o,n,I.kIn a o hk,hc,hd,by simpa using hs⟩,?_⟩
  have e:=r.length;simp only[yAk] at e;omega
theorem Inv.tuple(I:Inv X aA σ H s)(h:bM X.K H a xs):∃ its:List qx,aO xs its/\IsTup s.heap a its.toArray/\xs.length<=qk:=by
 rcases h with h | ⟨o,its,n,hk,hc,hs,hz,r⟩
 ·obtain⟨z,its,r,p⟩:=h.ok I.hok;exact⟨its,r,p,z⟩
 ·refine⟨its.toList,r,⟨o,I.kIn a o hk,hc,n,by simpa using hs⟩,?_⟩
  have e:=r.length;simp only[yAk] at e;omega
theorem Inv.list_inj(I:Inv X aA σ H s)(h:bJ X.K H a xs)(h':bJ X.K H a ys):xs=ys:=by
 obtain⟨its,r,⟨o,n,e,_,_,d⟩,_⟩:=I.list h;obtain⟨its',r',⟨o',n',e',_,_,d'⟩,_⟩:=I.list h';rw[e] at e';cases e';rw[d] at d';injection d' with d1 _
 have:its=its':=by simpa using congrArg Array.toList d1
 subst this;exact r.inj r'
theorem Inv.tuple_inj(I:Inv X aA σ H s)(h:bM X.K H a xs)(h':bM X.K H a ys):xs=ys:=by
 obtain⟨its,r,⟨o,e,_,n,d⟩,_⟩:=I.tuple h;obtain⟨its',r',⟨o',e',_,n',d'⟩,_⟩:=I.tuple h';rw[e] at e';cases e';rw[d] at d';injection d' with d1 _
 have:its=its':=by simpa using congrArg Array.toList d1
 subst this;exact r.inj r'
end
noncomputable abbrev Cx.wish(X:Cx)(E:qx->qj->Prop):Cx:={X with xe:=E }
noncomputable abbrev Cx.nox(X:Cx):Cx:=X.wish λ _ _=>False
theorem Cx.Ok.wish{X:Cx}(ok:X.Ok)(E:qx->qj->Prop):(X.wish E).Ok:=
 ⟨ok.mod,ok.kind,ok.glob,ok.blt,ok.above,ok.inj,ok.has,ok.cab,ok.hd,ok.frames,ok.stk,ok.exf,ok.bs,ok.bsz,ok.noex,ok.exfs,ok.funs,ok.frf⟩
theorem Cx.Ok.unwish{X:Cx}{E:qx->qj->Prop}(ok:(X.wish E).Ok):X.Ok:=
 ⟨ok.mod,ok.kind,ok.glob,ok.blt,ok.above,ok.inj,ok.has,ok.cab,ok.hd,ok.frames,ok.stk,ok.exf,ok.bs,ok.bsz,ok.noex,ok.exfs,ok.funs,ok.frf⟩
section
variable {X : Cx}{aA : List (qv×Obj)}{σ : St}{H : Hp}{s : qj}{E : qx -> qj -> Prop}
theorem Inv.wish(I:Inv X aA σ H s)(E:qx->qj->Prop):Inv (X.wish E) aA σ H s:=⟨I.ok.wish E,I.os,I.bare,I.base,I.loc,I.cell,I.free,I.freeC,I.pin,I.hok,I.len⟩
theorem Inv.unwish(I:Inv (X.wish E) aA σ H s):Inv X aA σ H s:=⟨I.ok.unwish,I.os,I.bare,I.base,I.loc,I.cell,I.free,I.freeC,I.pin,I.hok,I.len⟩
theorem SP.unwish{D:Ends}{f:Flow}{s':qj}(h:SP (X.wish E) aA D f s'):SP X aA D f s':=by
 cases f with
 | next=>obtain⟨σ',H',I,q⟩:=h;exact⟨σ',H',I.unwish,q⟩
 | brk=>obtain⟨σ',H',I,q⟩:=h;exact⟨σ',H',I.unwish,q⟩
 | cont=>obtain⟨σ',H',I,q⟩:=h;exact⟨σ',H',I.unwish,q⟩
 | ret u=>obtain⟨v,σ',H',I,r,q⟩:=h;exact⟨v,σ',H',I.unwish,r,q⟩
theorem PE.nox{e:qw}{t:TE}(h:PE X.nox e t):PE X e t:=λ aA s σ H Q I hw =>
 wpAny_mono (h aA s σ H Q (I.wish _) hw) (λ _ _ hPr0=>by obtain⟨v,H',I',r,q⟩:=hPr0;exact⟨v,H',I'.unwish,r,q⟩) λ _ _ z=>False.elim z
theorem PT.nox{e:qw}{t:TT}(h:PT X.nox e t):PT X e t:=λ aA s σ H Q I hw =>
 wpAny_mono (h aA s σ H Q (I.wish _) hw) (λ _ _ hPr1=>by obtain⟨H',I',q⟩:=hPr1;exact⟨H',I'.unwish,q⟩) λ _ _ z=>False.elim z
theorem bN.nox{st:List zy}{t:TS}(h:bN X.nox st t):bN X st t:=λ aA s σ H D I hw =>
 wpAny_mono (h aA s σ H D (I.wish _) hw) (λ _ _ q=>q.unwish) λ _ _ z=>False.elim z
end
section
variable {X : Cx}{st : zy}{bK : List zy}{t u : TS}{e : qw}{te : TE}{pos : Pos}
def aPd:TS:=λ D σ H=>D.nx σ H
def aQu(t u:TS):TS:=λ D σ H=>t {D with nx:=u D } σ H
theorem aAV:bN X [] aPd:=λ _ _ σ H _ I h=>wpAny_execs_nil ⟨σ,H,I,h⟩
theorem aAy(h1:PS X st t)(h2:bN X bK u):bN X (st::bK) (aQu t u):=by
 intro aA s σ H D I h;refine wpAny_execs_cons (aU (h1 aA s σ H {D with nx:=u D } I h) λ f s1 q=>?_)
 cases f with
 | next =>
   obtain⟨σ',H',I',q⟩:=q;exact h2 aA s1 σ' H' D I' q
 | ret v=>exact q
 | brk=>exact q
 | cont=>exact q
theorem Inv.quiet{aA:List (qv×Obj)}{σ:St}{H:Hp}{s:qj}(I:Inv X aA σ H s):interactive X.env=false:=by simp[interactive,I.ok.kind]
def aOY(te:TE):TS:=λ D σ H=>te σ H λ _ H1=>D.nx σ H1
theorem aEB(he:PE X e te)(hs:swapsWith e qz pos.line X.env=pure false:=by rfl):PS X (.Expr e pos) (aOY te):=by
 intro aA s σ H D I h;exact wpAny_Expr_any (aU (he aA s σ H _ I h) λ v s1 ⟨x,H1,I1,r1,q1⟩=>⟨σ,H1,I1,q1⟩) I.quiet hs
def aQo(te:TE):TS:=λ D σ H=>te σ H D.rt
theorem aL9(he:PE X e te):PS X (.Return (qq e) pos) (aQo te):=by
 intro aA s σ H D I h;exact wpAny_Return_some (aU (he aA s σ H _ I h) λ v s1 ⟨x,H1,I1,r1,q1⟩=>⟨x,σ,H1,I1,r1,q1⟩)
def aQM(c:TT)(t u:TS):TS:=λ D σ H=>c σ H λ b H1=>if b=true then t D σ H1 else u D σ H1
theorem aFE{c:qw}{a b:List zy}{tc:TT}(hc:PT X c tc)(ha:bN X a t)(hb:bN X b u):PS X (.If c a b pos) (aQM tc t u):=by
 intro aA s σ H D I h;refine wpAny_If (aU (hc aA s σ H _ I h) λ d s1 hPq8=>?_)
 obtain⟨H1,I1,q1⟩:=hPq8;cases d with
 | true=>exact ha aA s1 σ H1 D I1 q1
 | false=>exact hb aA s1 σ H1 D I1 q1
end
abbrev TG:=V->St->Hp->(St->Hp->Prop)->Prop
abbrev hU:=List V->St->Hp->(St->Hp->Prop)->Prop
def PG(X:Cx)(target:qw)(t:TG):Prop:=
 ∀ (aA:List (qv×Obj)) (s:qj) (σ:St) (H:Hp) (v:V) (u:qx) (Q:St->Hp->Prop),Inv X aA σ H s->aT v u->t v σ H Q ->
  qu (model X.prog X.w) X.A (assign target X.env u) (λ _ s'=>∃ σ' H',Inv X aA σ' H' s'/\Q σ' H') X.xe s
def oY(X:Cx)(ts:List qw)(t:hU):Prop:=
 ∀ (aA:List (qv×Obj)) (s:qj) (σ:St) (H:Hp) (vs:List V) (us:List qx) (Q:St->Hp->Prop),Inv X aA σ H s->aO vs us->t vs σ H Q ->
  qu (model X.prog X.w) X.A (assignInOrder ((xj ts X.env).map (·.2)) us) (λ _ s'=>∃ σ' H',Inv X aA σ' H' s'/\Q σ' H') X.xe s
abbrev aB3:=V->V->V->Hp->(Hp->Prop)->Prop
def aGJ(X:Cx)(t:aB3):Prop:=
 ∀ (aA:List (qv×Obj)) (s:qj) (σ:St) (H:Hp) (o i v:V) (ov iv u:qx) (Q:Hp->Prop),Inv X aA σ H s->aT o ov->aT i iv->aT v u->t o i v H Q ->
  qu (model X.prog X.w) X.A (setItem ov iv u) (λ _ s'=>∃ H',Inv X aA σ H' s'/\Q H') X.xe s
section
variable {X : Cx}{pos : Pos}
def mI(i:Nat):TG:=λ v σ H Q=>Q (σ.set i (qq v)) H
theorem aAO{i:Nat}{x:Str}(hN:X.N.Nodup)(hi:X.N[i]? = qq x)(hx:Loc X.env.scope x)(hf:X.fn x=true\/X.env.scope.names.lookup x=qq .local:=by first | exact .inl rfl | exact .inr rfl | assumption):PG X (.Name x pos) (mI i):=by
 intro aA s σ H v u Q I r h;exact wpAny_assign_Name (aAx I hN hi hx r (λ s' I'=>⟨_,H,I',h⟩) hf)
noncomputable def aBW:hU:=λ vs σ H Q=>vs=[]/\Q σ H
noncomputable def aBp(t:TG)(u:hU):hU:=λ vs σ H Q=>∃ v r,vs=v::r/\t v σ H λ σ' H'=>u r σ' H' Q
theorem aKG:oY X [] aBW:=by
 intro aA s σ H vs us Q I r h;obtain⟨e,h⟩:=h;subst e;cases r;exact assignInOrder_nil ⟨σ,H,I,h⟩
theorem aJI{e:qw}{es:List qw}{t:TG}{u:hU}(h1:PG X e t)(h2:oY X es u)
 (hs:(xj (e::es) X.env).map (·.2)=assign e X.env::(xj es X.env).map (·.2):=by rfl):oY X (e::es) (aBp t u):=by
 intro aA s σ H vs us Q I r h;obtain⟨v,vr,e1,h⟩:=h;subst e1;cases r with
 | cons r rr =>
   rw[hs];refine assignInOrder_cons (aU (h1 aA s σ H _ _ _ I r h) λ _ s1 hPq9=>?_)
   obtain⟨σ1,H1,I1,q1⟩:=hPq9;exact h2 aA s1 σ1 H1 _ _ Q I1 rr q1
def aQD(K:FrG)(n:Nat)(t:hU):TG:=λ v σ H Q=>∃ a xs,v=.ref a/\bM K H a xs/\xs.length=n/\t xs σ H Q
theorem aNH{es:List qw}{k:Nat}{t:hU}{n:Nat}(hc:X.calm=true)(h:oY X es t)
 (hn:(xj es X.env).length=n:=by rfl) (cU:(xj es X.env).findIdx? (·.1)=qz:=by rfl):PG X (.Tuple es k pos) (aQD X.K n t):=by
 intro aA s σ H v u Q I r hw;obtain⟨a,xs,e1,hq,hl,hw⟩:=hw;subst e1;cases r;obtain⟨its,rv,ht,hz⟩:=I.tuple hq;refine assign_Tuple_tuple (I.ok.hd hc) ht (by simp[hn,<- hl,rv.length]) cU λ h' hx=>?_
 have I1:Inv X aA σ H {s with heap:=h' }:=I.kept (t':=s.toks) λ b o e=>hx b o (xAh (xAa e)) e
 exact h aA _ σ H xs _ Q I1 (by simpa using rv) hw
def aGG(to ti:TE)(t:aB3):TG:=λ v σ H Q=>to σ H λ o H1=>ti σ H1 λ i H2=>t o i v H2 λ H3=>Q σ H3
theorem aMz{o i:qw}{to ti:TE}{t:aB3}(ho:PE X o to)(hi:PE X i ti)(hs:aGJ X t)
 (ha:∀ v,assign (.Subscript o i pos) X.env v=(do
   let ov <- holding [v] (eval o X.env)
   let iv <- holding [v,ov] (eval i X.env)
   standAt pos
   holding [v,ov,iv] (setItem ov iv v)
   release [v,ov,iv] []):=by intro _;rfl):PG X (.Subscript o i pos) (aGG to ti t):=by
 intro aA s σ H v u Q I r h;rw[ha];refine wB (xq (aU (ho aA s σ H _ I h) λ ov s1 hPq10=>?_))
 obtain⟨x,H1,I1,r1,q1⟩:=hPq10;refine wB (xq (aU (hi aA s1 σ H1 _ I1 q1) λ iv s2 hPq11=>?_))
 obtain⟨y,H2,I2,r2,q2⟩:=hPq11;refine wB (vx (wB (xq (aU (hs aA s2 σ H2 x y v ov iv u _ I2 r1 r2 r q2) λ _ s3 hPq12=>?_))))
 obtain⟨H3,I3,q3⟩:=hPq12;exact wpAny_release ⟨σ,H3,I3,q3⟩
def tW(te:TE)(g:TG):TS:=λ D σ H=>te σ H λ x H1=>g x σ H1 D.nx
theorem aEX{tg e:qw}{te:TE}{g:TG}(he:PE X e te)(hg:PG X tg g)(hs:swapsWithSole [tg] e pos.line X.env=pure false:=by rfl)(hw:yj [tg] e X.env=pure qz:=by rfl)
 (h1:(xj [tg] X.env).map (·.2)=[assign tg X.env]:=by rfl):PS X (.Assign [tg] e pos) (tW te g):=by
 intro aA s σ H D I h;refine wpAny_Assign_stores (aU (he aA s σ H _ I h) λ v s1 hPq13=>?_) hs hw
 obtain⟨x,H1,I1,r1,q1⟩:=hPq13;rw[h1];exact aU (hg aA s1 σ H1 x v _ I1 r1 q1) λ _ s2 q=>q
theorem aE3{i:Nat}{x:Str}{e:qw}{te:TE}{pos':Pos}(hN:X.N.Nodup)(hi:X.N[i]? = qq x)(hx:Loc X.env.scope x)(he:PE X e te)(hs:swapsWith e (qq (.Name x pos')) pos.line X.env=pure false:=by rfl)(hf:X.fn x=true\/X.env.scope.names.lookup x=qq .local:=by first | exact .inl rfl | exact .inr rfl | assumption) :
 PS X (.Assign [.Name x pos'] e pos) (tW te (mI i)):=by
 intro aA s σ H D I h;refine wpAny_Assign_Name (aU (he aA s σ H _ I h) λ v s1 hPq14=>?_) hs
 obtain⟨y,H1,I1,r1,q1⟩:=hPq14;exact aAx I1 hN hi hx r1 (λ s2 I2=>⟨_,H1,I2,q1⟩) hf
end
section
variable {X : Cx}{pos : Pos}
end
structure It where
 go:Nat->Hp->Prop
 yld:Nat->Hp->V->Hp->Prop
 stop:Nat->Hp->Prop
def gH(X:Cx)(aA:List (qv×Obj))(H:Hp)(b:qv):Prop:=
 H b=qz/\b≠X.env.locals/\b ∉ X.fs/\(b∈X.ex\/X.s₀.heap.objs.size<=b)/\(∀ x c,X.env.cells.lookup x=qq c->c≠b)/\∀ p∈X.pn++aA,p.1≠b
theorem Inv.fpOk{X:Cx}{aA:List (qv×Obj)}{σ:St}{H H':Hp}{s:qj}{b:qv}(I:Inv X aA σ H s)(hb:s.heap.objs.size<=b)(hn:H' b=qz):gH X aA H' b:=by
 refine⟨hn,yEk (xAc I.lt hb),I.nofs hb,.inr (xAg I.sz hb),λ x c e z=>?_,λ p hp z=>?_⟩
 ·obtain⟨v,q⟩:=I.cell x c e;exact absurd (xAc q.lt (by rw[z];exact hb)) (yBa _)
 ·exact absurd (xAc (xAa (I.pin p hp).1) (by rw[z];exact hb)) (yBa _)
structure Turn(P:zq)(w:zx)(K:FrG)(tg:qw)(J:It)(fp:List qv)(it:qv)(tn:Nat->Heap->Prop):Prop where
 mem:it∈fp
 obj:∀ i h,tn i h->∀ b∈fp,∃ o,h.get? b=qq o/\∀ v,o.data≠.cell v
 keep:∀ i h h',tn i h->(∀ b∈fp,∀ o,h.get? b=qq o->h'.get? b=qq o)->tn i h'
 item:∀ (X:Cx),X.prog=P->X.w=w->X.K=K->X.calm=true->∀ (i:Nat) (aA:List (qv×Obj)) (s:qj) (σ:St) (H:Hp) (E:qx->qj->Prop),Inv X aA σ H s->(∀ b∈fp,gH X aA H b)->tn i s.heap->J.go i H ->
  qu (model P w) X.A (yk (.ref it)) (λ r s1=>∃ u,r=qq u /\
   qu (model P w) X.A (vj tg (.ref it) u) (λ _ s2=>∃ x H',Inv X aA σ H' s2/\aT x u/\J.yld i H x H'/\tn (i+1) s2.heap/\∀ b∈fp,H' b=qz) E s1) E s
 done:∀ (X:Cx),X.prog=P->X.w=w->X.K=K->X.calm=true->∀ (i:Nat) (aA:List (qv×Obj)) (s:qj) (σ:St) (H:Hp) (E:qx->qj->Prop),Inv X aA σ H s->(∀ b∈fp,gH X aA H b)->tn i s.heap->J.stop i H ->
  qu (model P w) X.A (yk (.ref it)) (λ r s1=>r=qz/\Inv X aA σ H s1) E s
 self:∀ (A:zv) (i:Nat) (s:qj) (Q:qx->qj->Prop) (E:qx->qj->Prop),tn i s.heap->Q (.ref it) s->qu (model P w) A (pyIter (.ref it)) Q E s
abbrev TI:=St->Hp->(It->Hp->Prop)->Prop
def PIE(X:Cx)(aA:List (qv×Obj))(σ:St)(tg:qw)(R:It->Hp->Prop)(itv:qx)(s2:qj):Prop:=
 ∃ (it:qv) (fp:List qv) (tn:Nat->Heap->Prop) (J:It) (H':Hp),itv=.ref it/\Inv X aA σ H' s2/\Turn X.prog X.w X.K tg J fp it tn/\tn 0 s2.heap/\(∀ b∈fp,gH X aA H' b)/\R J H'
def PI(X:Cx)(tg iter:qw)(wi:TI):Prop:=
 ∀ (aA:List (qv×Obj)) (s:qj) (σ:St) (H:Hp) (R:It->Hp->Prop),Inv X aA σ H s->wi σ H R ->
  qu (model X.prog X.w) X.A (eval iter X.env) (λ v s1=>qu (model X.prog X.w) X.A (pyIter v) (PIE X aA σ tg R) X.xe s1) X.xe s
theorem wQ{M:Model}{A:zv}{E:qx->qj->Prop}{s:qj}{tg:qw}{it:qv}{u:qx}{o:Obj}{n:String}{vs:Array qx}{Q:Unit->qj->Prop}(ho:s.heap.get? it=qq o)(hc:o.cls=.type n)(hd:o.data=.fields vs)
 (hn:["enumerate", "zip", "dict_itemiterator", "dict_reverseitemiterator", "odict_iterator", "itertools.zip_longest", "itertools.pairwise"].contains n=false) (hQ:Q () s):qu M A (vj tg (.ref it) u) Q E s:=by
 unfold vj;cases tg<;>first
  | exact wP hQ
  | (cases u<;>first
      | exact wP hQ
      | (refine wB (wpAny_load ho ?_)
         rw[hc,hd];show qu M A (if (["enumerate", "zip", "dict_itemiterator", "dict_reverseitemiterator", "odict_iterator", "itertools.zip_longest", "itertools.pairwise"].contains n&&vs[0]?==qq (jy _))=true then _ else _) Q E s
         rw[if_neg (by intro h;rw[hn,yBh] at h;cases h)]
         exact wP hQ))
noncomputable def Itl(K:FrG)(a:qv):It:=
 ⟨λ i H=>∃ xs x,bJ K H a xs/\xs[i]? = qq x,λ i H x H'=>H'=H/\∀ xs,bJ K H a xs->xs[i]? = qq x,λ i H=>∃ xs,bJ K H a xs/\xs.length<=i⟩
noncomputable def Itt(K:FrG)(a:qv):It:=
 ⟨λ i H=>∃ xs x,bM K H a xs/\xs[i]? = qq x,λ i H x H'=>H'=H/\∀ xs,bM K H a xs->xs[i]? = qq x,λ i H=>∃ xs,bM K H a xs/\xs.length<=i⟩
noncomputable def yI(lo:Int)(n:Nat):It:=⟨λ i _=>i<n,λ i H x H'=>H'=H/\x=.int (lo+i),λ i _=>n<=i⟩
theorem aIO{P:zq}{w:zx}{K:FrG}{tg:qw}(a it:qv):Turn P w K tg (Itl K a) [it] it (λ i h=>h.IsListIter it a i) where
 mem:=by simp
 obj:=λ i h st b hb=>by
  have e:b=it:=by simpa using hb
  subst e;obtain⟨o,e,c,d⟩:=st;exact⟨o,e,λ v z=>by rw[d] at z;cases z⟩
 keep:=λ i h h' st k=>st.at λ o e=>k it (by simp) o e
 item:=by
  intro X hP hw hK hc i aA s σ H E I hf st hg;subst hP hw hK;obtain⟨xs,x,hq,hx⟩:=hg;obtain⟨its,rv,p,hz⟩:=I.list hq;obtain⟨u,hu,ru⟩:=rv.get hx;obtain⟨f0,f1,f2,f3,f4,f5⟩:=hf it (by simp)
  refine wq st p.isList (x:=u) (by simpa using hu) λ h' st' sb=>?_
  have I1:Inv X aA σ H {s with heap:=h' }:=I.turned (t':=s.toks) (λ b o hb e=>(sb.2 b hb).trans e) f0 f1 f3 f4 f5
  obtain⟨o,e,c,d⟩:=id st';exact⟨u,rfl,wQ (s:={s with heap:=h' }) e c d (by decide) ⟨x,H,I1,ru,⟨rfl,λ ys hy=>by rw[I.list_inj hy hq];exact hx⟩,st',λ b hb=>(hf b hb).1⟩⟩
 done:=by
  intro X hP hw hK hc i aA s σ H E I hf st hg;subst hP hw hK;obtain⟨xs,hq,hx⟩:=hg;obtain⟨its,rv,p,hz⟩:=I.list hq;obtain⟨f0,f1,f2,f3,f4,f5⟩:=hf it (by simp)
  have hl:=rv.length;exact ww (I.ok.hd hc) st p.isList (by simp;omega) λ h' eb=>⟨rfl,I.turned (t':=s.toks) (λ b o hb e=>eb b o hb e) f0 f1 f3 f4 f5⟩
 self:=λ _ _ _ _ _ st h=>wpAny_pyIter_listiter st h
theorem aIg{P:zq}{w:zx}{K:FrG}{tg:qw}(a it:qv):Turn P w K tg (Itt K a) [it] it (λ i h=>h.IsTupleIter it a i) where
 mem:=by simp
 obj:=λ i h st b hb=>by
  have e:b=it:=by simpa using hb
  subst e;obtain⟨o,e,c,d⟩:=st;exact⟨o,e,λ v z=>by rw[d] at z;cases z⟩
 keep:=λ i h h' st k=>st.at λ o e=>k it (by simp) o e
 item:=by
  intro X hP hw hK hc i aA s σ H E I hf st hg;subst hP hw hK;obtain⟨xs,x,hq,hx⟩:=hg;obtain⟨its,rv,p,hz⟩:=I.tuple hq;obtain⟨u,hu,ru⟩:=rv.get hx;obtain⟨f0,f1,f2,f3,f4,f5⟩:=hf it (by simp)
  refine wpAny_pyNext_tuple_item st (show s.heap.IsTuple a its.toArray from p) (x:=u) (by simpa using hu) λ h' st' sb=>?_
  have I1:Inv X aA σ H {s with heap:=h' }:=I.turned (t':=s.toks) (λ b o hb e=>(sb.2 b hb).trans e) f0 f1 f3 f4 f5
  obtain⟨o,e,c,d⟩:=id st';exact⟨u,rfl,wQ (s:={s with heap:=h' }) e c d (by decide) ⟨x,H,I1,ru,⟨rfl,λ ys hy=>by rw[I.tuple_inj hy hq];exact hx⟩,st',λ b hb=>(hf b hb).1⟩⟩
 done:=by
  intro X hP hw hK hc i aA s σ H E I hf st hg;subst hP hw hK;obtain⟨xs,hq,hx⟩:=hg;obtain⟨its,rv,p,hz⟩:=I.tuple hq;obtain⟨f0,f1,f2,f3,f4,f5⟩:=hf it (by simp)
  have hl:=rv.length;exact wpAny_pyNext_tuple_end (I.ok.hd hc) st (show s.heap.IsTuple a its.toArray from p) (by simp;omega) λ h' eb=>⟨rfl,I.turned (t':=s.toks) (λ b o hb e=>eb b o hb e) f0 f1 f3 f4 f5⟩
 self:=λ _ _ _ _ _ st h=>wpAny_pyIter_tupleiter st h
theorem aIc{P:zq}{w:zx}{K:FrG}{tg:qw}(it:qv)(lo:Int)(n:Nat):Turn P w K tg (yI lo n) [it] it (λ i h=>IsRangeIter h it (lo+(i:Nat)*1) ((n:Int)-(i:Nat)) 1) where
 mem:=by simp
 obj:=λ i h st b hb=>by
  have e:b=it:=by simpa using hb
  subst e;exact⟨_,st,λ v z=>by
   have z':Data.fields _=Data.cell v:=z;cases z'⟩
 keep:=λ i h h' st k=>k it (by simp) _ st
 item:=by
  intro X hP hw hK hc i aA s σ H E I hf st hg;subst hP hw hK;obtain⟨f0,f1,f2,f3,f4,f5⟩:=hf it (by simp)
  have W:=Walks.range (prog:=X.prog) (w:=X.w) (I.ok.hd hc) it lo 1 n;refine W.item i s _ _ hg st λ v h' tk hv st' kk=>?_
  obtain⟨t,rfl⟩:=hv;have I1:Inv X aA σ H {s with heap:=h',toks:=tk }:=I.turned (λ b o hb e=>kk b o (by simpa using hb) e) f0 f1 f3 f4 f5
  refine⟨_,rfl,wQ (s:={s with heap:=h',toks:=tk }) (n:="range_iterator") st' rfl rfl (by decide) ⟨.int (lo+i),H,I1,⟨t,?_⟩,⟨rfl,rfl⟩,st',λ b hb=>(hf b hb).1⟩⟩
  rw[Int.mul_one]
 done:=by
  intro X hP hw hK hc i aA s σ H E I hf st hg;subst hP hw hK;obtain⟨f0,f1,f2,f3,f4,f5⟩:=hf it (by simp)
  exact wpAny_pyNext_range_end (I.ok.hd hc) st (by have:n<=i:=hg;omega) λ h' eb=>⟨rfl,I.turned (t':=s.toks) (λ b o hb e=>eb b o hb e) f0 f1 f3 f4 f5⟩
 self:=λ _ _ _ _ _ st h=>wpAny_pyIter_rangeiter st h
end L2
namespace L2
open PySem PySem.Spec PyProof.Rows
section
variable {X : Cx}{tg : qw}
def aO0(K:FrG)(tl:TE):TI:=λ σ H R=>tl σ H λ x H1=>∃ a,x=.ref a/\(∃ xs,bJ K H1 a xs)/\R (Itl K a) H1
def aP9(K:FrG)(tl:TE):TI:=λ σ H R=>tl σ H λ x H1=>∃ a,x=.ref a/\(∃ xs,bM K H1 a xs)/\R (Itt K a) H1
theorem aLq{l:qw}{tl:TE}(hl:PE X l tl):PI X tg l (aO0 X.K tl):=by
 intro aA s σ H R I h;refine aU (hl aA s σ H _ I h) λ v s1 hPq15=>?_
 obtain⟨x,H1,I1,r1,q1⟩:=hPq15;obtain⟨a,e,⟨xs,hq⟩,q⟩:=q1;subst e;cases r1;obtain⟨its,rv,p,hz⟩:=I1.list hq;refine ju p.isList ?_;refine⟨s1.heap.objs.size,[s1.heap.objs.size],_,_,H1,rfl,I1.kept (t':=s1.toks) λ b o e=>hpS _ e,aIO a _,⟨_,xAe _ rfl,rfl,rfl⟩,λ b hb=>?_,q⟩
 have e:b=s1.heap.objs.size:=by simpa using hb
 subst e;exact I1.fpOk (yAe _) (I1.hok.fresh (yAe _))
theorem aL2{l:qw}{tl:TE}(hl:PE X l tl):PI X tg l (aP9 X.K tl):=by
 intro aA s σ H R I h;refine aU (hl aA s σ H _ I h) λ v s1 hPq16=>?_
 obtain⟨x,H1,I1,r1,q1⟩:=hPq16;obtain⟨a,e,⟨xs,hq⟩,q⟩:=q1;subst e;cases r1;obtain⟨its,rv,p,hz⟩:=I1.tuple hq;refine vy (show s1.heap.IsTuple a its.toArray from p) ?_
 refine⟨s1.heap.objs.size,[s1.heap.objs.size],_,_,H1,rfl,I1.kept (t':=s1.toks) λ b o e=>hpS _ e,aIg a _,⟨_,xAe _ rfl,rfl,rfl⟩,λ b hb=>?_,q⟩
 have e:b=s1.heap.objs.size:=by simpa using hb
 subst e;exact I1.fpOk (yAe _) (I1.hok.fresh (yAe _))
theorem aJN{aA:List (qv×Obj)}{σ:St}{H:Hp}{s:qj}{R:It->Hp->Prop}{E:qx->qj->Prop}{lo hi:Int}{t u v:Tok}{tk:Nat}(I:Inv X aA σ H s)(h1 : -(2^62)<=lo)(h2:lo<2^62)(h3 : -(2^62)<=hi)(h4:hi<2^62)
 (q:R (yI lo (hi-lo).toNat) H):qu (model X.prog X.w) X.A (pyIter (.ref s.heap.objs.size)) (PIE X aA σ tg R) E {s with heap:=s.heap.push {cls:=.type "range",data:=.fields #[.int lo t,.int hi u,.int 1 v] },toks:=tk }:=by
 refine wpAny_pyIter_range (IsRange.new ..) (small_one h1 h2 h3 h4) ?_;have I1:Inv X aA σ H {s with heap:=s.heap.push {cls:=.type "range",data:=.fields #[.int lo t,.int hi u,.int 1 v] },toks:=tk }:=I.kept λ b o e=>hpS _ e
 refine⟨(s.heap.push {cls:=.type "range",data:=.fields #[.int lo t,.int hi u,.int 1 v] }).objs.size,[(s.heap.push {cls:=.type "range",data:=.fields #[.int lo t,.int hi u,.int 1 v] }).objs.size],_,_,H,rfl,
  I1.kept (t':=tk) λ b o e=>hpS _ e,aIc _ lo (hi-lo).toNat,?_,λ b hb=>?_,q⟩
 ·have e1:lo+((0:Nat):Int)*1=lo:=by simp
  have e2:(((hi-lo).toNat:Nat):Int)-((0:Nat):Int)=Builtin.Range.rangeSize lo hi 1:=by rw[rangeSize_one];split<;>omega
  show IsRangeIter _ _ (lo+((0:Nat):Int)*1) ((((hi-lo).toNat:Nat):Int)-((0:Nat):Int)) 1;rw[e1,e2];exact xAe _ rfl
 ·have e:b=(s.heap.push {cls:=.type "range",data:=.fields #[.int lo t,.int hi u,.int 1 v] }).objs.size:=by simpa using hb
  subst e;exact I1.fpOk (yAe _) (I1.hok.fresh (yAe _))
def aFV(ta:TA):TI:=λ σ H R=>ta σ H λ vs H1=>∃ j:Int,vs=[.int j] /\ -(2^62)<=j/\j<2^62/\R (yI 0 j.toNat) H1
theorem aIM{a:qw}{ta:TA}{p pos:Pos}(hg:Gl X "range")(hm:X.mg "range" = qz)(ha:PA X [a] ta)(hs:zj [a] X.env=[(false,eval a X.env)]:=by rfl):PI X tg (.Call (.Name "range" p) [a] [] pos) (aFV ta):=by
 intro aA s σ H R I h;refine Call_ (sD I hg hm boot_range (yDa (aU (ha pos aA s σ H _ I h) λ us s1 hPq17=>?_) hs rfl))
 obtain⟨vs,H1,I1,r1,q1⟩:=hPq17;obtain⟨j,e,q1,q2,q⟩:=q1;subst e;cases r1 with
 | cons r rr =>
   cases rr;obtain⟨t,rfl⟩:=r;exact call_range_1 (aJN I1 (by omega) (by omega) q1 q2 (by simpa using q))
def aQA(wi:TI)(g:TG)(tb:TS):TS:=λ D σ H=>wi σ H λ J H1=>∃ W:Nat->Nat->St->Hp->Prop,(∃ m,W 0 m σ H1)/\∀ i m σ H,W i m σ H ->
 (J.stop i H/\D.nx σ H)\/(J.go i H/\∃ N:St->Hp->Prop,(∀ σ' H',N σ' H'->∃ m',m'<m/\W (i+1) m' σ' H')/\∀ x H',J.yld i H x H'->g x σ H' λ σ2 H2=>tb {D with nx:=N,ct:=N,bk:=D.nx } σ2 H2)
noncomputable def sI(fp:List qv)(h:Heap):List (qv×Obj):=fp.filterMap λ b=>(h.get? b).map λ o=>(b,o)
theorem rG{fp:List qv}{h:Heap}{b:qv}{o:Obj}(hb:b∈fp)(e:h.get? b=qq o):(b,o)∈sI fp h:=List.mem_filterMap.mpr ⟨b,hb,by rw[e];rfl⟩
theorem aIx{fp:List qv}{h:Heap}{p:qv×Obj}(hp:p∈sI fp h):p.1∈fp/\h.get? p.1=qq p.2:=by
 obtain⟨b,hb,e⟩:=List.mem_filterMap.mp hp;cases q:h.get? b with
 | none=>rw[q] at e;cases e
 | some o =>
   rw[q] at e;have e':(b,o)=p:=Option.some.inj e;subst e';exact⟨hb,q⟩
theorem Inv.pinned{aA:List (qv×Obj)}{σ:St}{H:Hp}{s:qj}{fp:List qv}(I:Inv X aA σ H s)(hf:∀ b∈fp,gH X aA H b)(ho:∀ b∈fp,∃ o,s.heap.get? b=qq o/\∀ v,o.data≠.cell v):Inv X (aA++sI fp s.heap) σ H s:=
 I.pins_of λ p hp=>(List.mem_append.mp hp).elim (λ z=>I.pin p (xAk _ z)) λ z=>by
  obtain⟨hb,e⟩:=aIx z;obtain⟨f0,f1,f2,_⟩:=hf p.1 hb;obtain⟨o,e',d⟩:=ho p.1 hb;rw[e] at e';cases e';exact⟨e,f0,f1,f2,d⟩
theorem Inv.unpinned{aA pl:List (qv×Obj)}{σ:St}{H:Hp}{s:qj}(I:Inv X (aA++pl) σ H s):Inv X aA σ H s:=I.pins_of λ p hp=>I.pin p (xAk _ (yBk _ hp))
theorem aEY{iter:qw}{body:List zy}{wi:TI}{g:TG}{tb:TS}{pos:Pos}(hp:PassesOwn (model X.prog X.w) X.A X.env X.xe)(hc:X.calm=true)(hi:PI X tg iter wi)(hg:PG X tg g)(hb:bN X body tb)
 (hs:∀ x,jj iter X.env x=pure x:=by intro _;rfl):PS X (.For tg iter body [] pos) (aQA wi g tb):=by
 intro aA s σ H D I h;refine wpAny_For (aU (hi aA s σ H _ I h) λ v s1 h1=>aU h1 λ itv s2 h2=>?_) hs
 obtain⟨it,fp,tn,J,H2,e,I2,T,st2,f2,W,⟨m0,w0⟩,turn⟩:=h2;subst e;have stat:∀ {H':Hp},(∀ b∈fp,H' b=qz)->∀ b∈fp,gH X aA H' b:=λ hn b hb=>⟨hn b hb,(f2 b hb).2⟩
 refine codeAny_forLoop_any (λ n s'=>∃ i σ' H',Inv X aA σ' H' s'/\tn i s'.heap/\(∀ b∈fp,H' b=qz)/\W i n σ' H') ?_ m0 ⟨0,σ,H2,I2,st2,λ b hb=>(f2 b hb).1,w0⟩
 rintro n s3 ⟨i,σ3,H3,I3,st3,fr3,w3⟩;rcases turn i n σ3 H3 w3 with ⟨stop,qn⟩ | ⟨go,N,hN,step⟩
 ·refine vw hp (aU (T.done X rfl rfl rfl hc i aA s3 σ3 H3 X.xe I3 (stat fr3) st3 stop) λ r s4 hPq18=>?_)
  obtain⟨hr,I4⟩:=hPq18;subst hr;exact wpAny_execs_nil ⟨σ3,H3,I4,qn⟩
 ·refine vw hp (aU (T.item X rfl rfl rfl hc i aA s3 σ3 H3 X.xe I3 (stat fr3) st3 go) λ r s4 hPq19=>?_)
  obtain⟨u,hr,h4⟩:=hPq19;subst hr;refine vw hp (aU h4 λ _ s5 hPq20=>?_)
  obtain⟨x,H5,I5,r5,y5,st5,fr5⟩:=hPq20;have I5':=I5.pinned (stat fr5) (T.obj _ _ st5);refine vw hp (aU (hg _ s5 σ3 H5 x u _ I5' r5 (step x H5 y5)) λ _ s6 hPq21=>?_)
  obtain⟨σ6,H6,I6,q6⟩:=hPq21;refine vw hp (aU (hb _ s6 σ6 H6 _ I6 q6) λ f s7 q7=>?_)
  have again:∀ {σ7:St}{H7:Hp},Inv X (aA++sI fp s5.heap) σ7 H7 s7->N σ7 H7->∃ m,m<n/\∃ i σ' H',Inv X aA σ' H' s7/\tn i s7.heap/\(∀ b∈fp,H' b=qz)/\W i m σ' H':=λ {σ7 H7} I7 n7=>by
   obtain⟨m',hm,w7⟩:=hN σ7 H7 n7;refine⟨m',hm,i+1,σ7,H7,I7.unpinned,T.keep _ _ _ st5 λ b hb o e=>(I7.pin (b,o) (xAk _ (xAk _ (rG hb e)))).1,λ b hb=>?_,w7⟩
   obtain⟨o,e,d⟩:=T.obj _ _ st5 b hb;exact(I7.pin (b,o) (xAk _ (xAk _ (rG hb e)))).2.1
  cases f with
  | next=>obtain⟨σ7,H7,I7,n7⟩:=q7;exact again I7 n7
  | cont=>obtain⟨σ7,H7,I7,n7⟩:=q7;exact again I7 n7
  | brk=>obtain⟨σ7,H7,I7,q7⟩:=q7;exact⟨σ7,H7,I7.unpinned,q7⟩
  | ret v=>obtain⟨x7,σ7,H7,I7,r7,q7⟩:=q7;exact⟨x7,σ7,H7,I7.unpinned,r7,q7⟩
end
end L2
namespace L2
open PySem PySem.Spec PyProof.Rows
abbrev R2:=V->V->Hp->VK->Prop
def bS(X:Cx)(f:qx->qx->Sem qx)(r:R2):Prop:=
 ∀ (aA:List (qv×Obj)) (s:qj) (σ:St) (H:Hp) (x y:V) (v u:qx) (Q:VK),Inv X aA σ H s->aT x v->aT y u->r x y H Q ->
  qu (model X.prog X.w) X.A (f v u) (EP X aA σ Q) X.xe s
def yO(X:Cx)(f:qx->Sem qx)(r:V->Hp->VK->Prop):Prop:=
 ∀ (aA:List (qv×Obj)) (s:qj) (σ:St) (H:Hp) (x:V) (v:qx) (Q:VK),Inv X aA σ H s->aT x v->r x H Q ->
  qu (model X.prog X.w) X.A (f v) (EP X aA σ Q) X.xe s
def cF(X:Cx)(f:qx)(r:List V->Hp->VK->Prop):Prop:=
 ∀ (aA:List (qv×Obj)) (s:qj) (σ:St) (H:Hp) (xs:List V) (us:List qx) (Q:VK),Inv X aA σ H s->aO xs us->r xs H Q ->
  qu (model X.prog X.w) X.A (call f us) (EP X aA σ Q) X.xe s
def aQQ(X:Cx)(r:V->Hp->(Bool->Hp->Prop)->Prop):Prop:=
 ∀ (aA:List (qv×Obj)) (s:qj) (σ:St) (H:Hp) (x:V) (v:qx) (Q:Bool->Hp->Prop),Inv X aA σ H s->aT x v->r x H Q ->
  qu (model X.prog X.w) X.A (truthy v) (TP X aA σ Q) X.xe s
def uO(r:R2)(ta tb:TE):TE:=λ σ H Q=>ta σ H λ x H1=>tb σ H1 λ y H2=>r x y H2 Q
def tUn(r:V->Hp->VK->Prop)(ta:TE):TE:=λ σ H Q=>ta σ H λ x H1=>r x H1 Q
noncomputable def rI(C:Int->Int->Prop)(g:Int->Int->V):R2:=λ x y H Q=>∃ i j,x=.int i/\y=.int j/\C i j/\Q (g i j) H
noncomputable def iR(g:Int->Int->V):R2:=λ x y H Q=>∃ i j,x=.int i/\y=.int j/\Q (g i j) H
noncomputable def rU(g:Int->V):V->Hp->VK->Prop:=λ x H Q=>∃ i,x=.int i/\Q (g i) H
section
variable {X : Cx}{a b c : qw}{ta tb tc : TE}{pos : Pos}
theorem aBF(ha:PE X a ta)(hb:PE X b tb){aA:List (qv×Obj)}{s:qj}{σ:St}{H:Hp}{R:V->V->Hp->Prop}(I:Inv X aA σ H s)
 (h:ta σ H λ x H1=>tb σ H1 λ y H2=>R x y H2) {Q:qx->qj->Prop}{f:qx->qx->Sem qx}
 (hf:∀ v u s2 x y H2,Inv X aA σ H2 s2->aT x v->aT y u->R x y H2->qu (model X.prog X.w) X.A (f v u) Q X.xe s2) :
 qu (model X.prog X.w) X.A (eval a X.env) (λ v s₁=>qu (model X.prog X.w) X.A (eval b X.env) (λ u s₂=>qu (model X.prog X.w) X.A (f v u) Q X.xe s₂) X.xe s₁) X.xe s:=by
 refine aU (ha aA s σ H _ I h) λ v s1 hPq22=>?_
 obtain⟨x,H1,I1,r1,q1⟩:=hPq22;refine aU (hb aA s1 σ H1 _ I1 q1) λ u s2 hPq23=>?_
 obtain⟨y,H2,I2,r2,q2⟩:=hPq23;exact hf v u s2 x y H2 I2 r1 r2 q2
theorem aFI{op:vz}{r:R2}(ho:bS X (zu op) r)(ha:PE X a ta)(hb:PE X b tb):PE X (.BinOp a op b pos) (uO r ta tb):=by
 intro aA s σ H Q I h;exact wpAny_BinOp (aBF ha hb I h λ v u s2 x y H2 I2 rx ry q=>ho aA s2 σ H2 x y v u Q I2 rx ry q)
theorem aOk{op:yx}{r:V->Hp->VK->Prop}(ho:yO X (unaryOp op) r)(ha:PE X a ta):PE X (.UnaryOp op a pos) (tUn r ta):=by
 intro aA s σ H Q I h;exact UnaryOp_ (aU (ha aA s σ H _ I h) λ v s1 ⟨x,H1,I1,r1,q1⟩=>ho aA s1 σ H1 x v Q I1 r1 q1)
theorem uT{f:qx->qx->Sem qx}{C:Int->Int->Prop}{g:Int->Int->Int}
 (rule:∀ (i j:Int) (t u:Tok) (s:qj) (Q:qx->qj->Prop) (E:qx->qj->Prop),C i j->Q (.int (g i j) s.toks) {s with toks:=s.toks+1 }->qu (model X.prog X.w) X.A (f (.int i t) (.int j u)) Q E s) :
 bS X f (rI C λ i j=>.int (g i j)):=by
 intro aA s σ H x y v u Q I rx ry h;obtain⟨i,j,rfl,rfl,hc,q⟩:=h;obtain⟨t,rfl⟩:=rx;obtain⟨t',rfl⟩:=ry;exact rule i j t t' s _ _ hc ⟨.int (g i j),H,I.tok _,⟨_,rfl⟩,q⟩
theorem tZ{f:qx->qx->Sem qx}{g:Int->Int->Int}
 (rule:∀ (i j:Int) (t u:Tok) (s:qj) (Q:qx->qj->Prop) (E:qx->qj->Prop),Q (.int (g i j) s.toks) {s with toks:=s.toks+1 }->qu (model X.prog X.w) X.A (f (.int i t) (.int j u)) Q E s) :
 bS X f (iR λ i j=>.int (g i j)):=by
 intro aA s σ H x y v u Q I rx ry h;obtain⟨i,j,rfl,rfl,q⟩:=h;obtain⟨t,rfl⟩:=rx;obtain⟨t',rfl⟩:=ry;exact rule i j t t' s _ _ ⟨.int (g i j),H,I.tok _,⟨_,rfl⟩,q⟩
theorem xJ{f:qx->qx->Sem qx}{g:Int->Int->Bool}
 (rule:∀ (i j:Int) (t u:Tok) (s:qj) (Q:qx->qj->Prop) (E:qx->qj->Prop),Q (.bool (g i j)) s->qu (model X.prog X.w) X.A (f (.int i t) (.int j u)) Q E s) :
 bS X f (iR λ i j=>.bl (g i j)):=by
 intro aA s σ H x y v u Q I rx ry h;obtain⟨i,j,rfl,rfl,q⟩:=h;obtain⟨t,rfl⟩:=rx;obtain⟨t',rfl⟩:=ry;exact rule i j t t' s _ _ ⟨.bl (g i j),H,I,rfl,q⟩
def aQm(i j:Int):Prop:=0<=j/\j<=1000000/\i.natAbs<2^64
def aGZ(i j:Int):Prop:=(-(2^64)<i/\i<2^64)\/(-(2^64)<j/\j<2^64)
theorem aGZ.ok{i j:Int}(h:aGZ i j):IntMulOk i j:=by
 rcases h with ⟨h1,h2⟩ | ⟨h1,h2⟩
 ·exact .of_left (intBits_le_64 h1 h2)
 ·exact .of_right (intBits_le_64 h1 h2)
theorem aIf(k:Nat):(0:Int)<=2^k:=by
 rw[two_pow_cast];exact Int.natCast_nonneg _
theorem aOc:bS X (zu .Add) (iR λ i j=>.int (i+j)):=tZ λ _ _ _ _ _ _ _ q=>add_int q
theorem aLJ:bS X (zu .Sub) (iR λ i j=>.int (i-j)):=tZ λ _ _ _ _ _ _ _ q=>sub_int q
theorem aK7:bS X (zu .Mod) (rI (λ _ j=>j≠0) λ i j=>.int (i.fmod j)):=uT λ _ _ _ _ _ _ _ hc q=>mod_int' hc q
theorem aMQ:bS X (zu .Pow) (rI aQm λ i j=>.int (i^j.toNat)):=uT λ _ _ _ _ _ _ _ hc q=>pow_int_small hc.1 hc.2.1 hc.2.2 q
theorem aNv:bS X (zu .RShift) (rI (λ _ j=>0<=j) λ i j=>.int (i/2^j.toNat)):=uT λ i j _ _ _ _ _ hc q =>
 rshift_int hc (by rw[Int.fdiv_eq_ediv_of_nonneg i (aIf _)];exact q)
theorem aMd:bS X (zu .BitAnd) (iR λ i j=>.int (Builtin.bitAnd i j)):=tZ λ _ _ _ _ _ _ _ q=>and_int q
theorem aOP:bS X (zu .BitOr) (iR λ i j=>.int (Builtin.bitOr i j)):=tZ λ _ _ _ _ _ _ _ q=>or_int q
theorem aL3:bS X (zu .BitXor) (iR λ i j=>.int (Builtin.bitXor i j)):=tZ λ _ _ _ _ _ _ _ q=>xor_int q
theorem unI{f:qx->Sem qx}{g:Int->Int}
 (rule:∀ (i:Int) (t:Tok) (s:qj) (Q:qx->qj->Prop) (E:qx->qj->Prop),Q (.int (g i) s.toks) {s with toks:=s.toks+1 }->qu (model X.prog X.w) X.A (f (.int i t)) Q E s) :
 yO X f (rU λ i=>.int (g i)):=by
 intro aA s σ H x v Q I rx h;obtain⟨i,rfl,q⟩:=h;obtain⟨t,rfl⟩:=rx;exact rule i t s _ _ ⟨.int (g i),H,I.tok _,⟨_,rfl⟩,q⟩
theorem aLH:yO X (unaryOp .USub) (rU λ i=>.int (-i)):=unI λ _ _ _ _ _ q=>neg_int q
theorem aNy:yO X (unaryOp .Invert) (rU λ i=>.int (Builtin.bitNot i)):=unI λ _ _ _ _ _ q=>invert_int q
end
section
variable {X : Cx}{a b c : qw}{ta tb tc : TE}{pos : Pos}
theorem wL{aA:List (qv×Obj)}{σ:St}{H:Hp}{s:qj}{Q:VK}{k k':Bool}(I:Inv X aA σ H s)(q:Q (.bl k) H)(e:k=k'):EP X aA σ Q (.bool k') s:=by
 subst e;exact⟨.bl k,H,I,rfl,q⟩
theorem aOx:bS X (zo .Lt) (iR λ i j=>.bl (decide (i<j))):=xJ λ _ _ _ _ _ _ _ q=>lt_int q
theorem aO6:bS X (zo .LtE) (iR λ i j=>.bl (decide (i<=j))):=xJ λ _ _ _ _ _ _ _ q=>le_int q
theorem aPy:bS X (zo .Gt) (iR λ i j=>.bl (decide (j<i))):=xJ λ _ _ _ _ _ _ _ q=>gt_int q
theorem aOy:bS X (zo .GtE) (iR λ i j=>.bl (decide (j<=i))):=xJ λ _ _ _ _ _ _ _ q=>ge_int q
theorem aL5:bS X (zo .Is) (λ x y H Q=>y=.non/\Q (.bl (decide (x=.non))) H):=by
 intro aA s σ H x y v u Q I rx ry h;obtain⟨rfl,q⟩:=h;cases ry;refine is_none_gen (wL I q ?_);cases x<;>first
  | (cases rx;rfl)
  | (obtain⟨t,rfl⟩:=rx;rfl)
theorem aKz:bS X (zo .IsNot) (λ x y H Q=>y=.non/\Q (.bl (!decide (x=.non))) H):=by
 intro aA s σ H x y v u Q I rx ry h;obtain⟨rfl,q⟩:=h;cases ry;refine isnot_none_gen (wL I q ?_);cases x<;>first
  | (cases rx;rfl)
  | (obtain⟨t,rfl⟩:=rx;rfl)
theorem bS.or{f:qx->qx->Sem qx}{r r':R2}(h:bS X f r)(h':bS X f r'):bS X f (λ x y H Q=>r x y H Q\/r' x y H Q):=by
 intro aA s σ H x y v u Q I rx ry q;rcases q with q | q
 ·exact h aA s σ H x y v u Q I rx ry q
 ·exact h' aA s σ H x y v u Q I rx ry q
theorem aQ2(b:qw){op:jx}(h:op≠.In:=by decide)(h2:op≠.NotIn:=by decide):jv op b=false:=by
 have e1:(op==CmpOp.In)=false:=by cases op<;>first | rfl | exact absurd rfl h
 have e2:(op==CmpOp.NotIn)=false:=by cases op<;>first | rfl | exact absurd rfl h2
 cases b<;>simp[jv,e1,e2]
theorem aAY{op:jx}{r:R2}(ho:bS X (zo op) r)(ha:PE X a ta)(hb:PE X b tb)(hm:jv op b=false):PE X (.Compare a [op] [b] pos) (uO r ta tb):=by
 intro aA s σ H Q I h;exact wpAny_Compare1 (aBF ha hb I h λ v u s2 x y H2 I2 rx ry q=>ho aA s2 σ H2 x y v u Q I2 rx ry q) hm
def aFQ(t:TE):TT:=λ σ H Q=>t σ H λ x H'=>∃ k,x=.bl k/\Q k H'
theorem aEr{op:jx}{r:R2}(ho:bS X (zo op) r)(ha:PE X a ta)(hb:PE X b tb)(hm:jv op b=false):PT X (.Compare a [op] [b] pos) (aFQ (uO r ta tb)):=by
 intro aA s σ H Q I h;refine wpAny_isTrue_Compare1 (aU (ha aA s σ H _ I h) λ v s1 ⟨x,H1,I1,r1,q1⟩=>aU (hb aA s1 σ H1 _ I1 q1) λ u s2 ⟨y,H2,I2,r2,q2⟩ =>
  aU (ho aA s2 σ H2 x y v u _ I2 r1 r2 q2) λ c s3 ⟨z,H3,I3,r3,k,e,q3⟩=>?_) hm
 subst e;cases r3;exact xw ⟨H3,I3,q3⟩
def aA7(r r':R2)(ta tb tc:TE):TE:=λ σ H Q=>ta σ H λ x H1=>tb σ H1 λ y H2=>r x y H2 λ z H3=>∃ k,z=.bl k /\
 (if k=true then tc σ H3 λ w' H4=>r' y w' H4 Q else Q (.bl false) H3)
theorem aJn{op op':jx}{r r':R2}(ho:bS X (zo op) r)(ho':bS X (zo op') r')(ha:PE X a ta)(hb:PE X b tb)(hc:PE X c tc)
 (hm:lastMarks [op,op'] [b,c]=false:=by with_unfolding_all rfl):PE X (.Compare a [op,op'] [b,c] pos) (aA7 r r' ta tb tc):=by
 intro aA s σ H Q I h;refine Compare_chain (aU (ha aA s σ H _ I h) λ v s1 ⟨x,H1,I1,r1,q1⟩=>chain_link (aU (hb aA s1 σ H1 _ I1 q1) λ u s2 ⟨y,H2,I2,r2,q2⟩ =>
  aU (ho aA s2 σ H2 x y v u _ I2 r1 r2 q2) λ d s3 ⟨z,H3,I3,r3,k,e,q3⟩=>?_)) hm
 subst e;cases r3;refine xw ?_;cases k with
 | false=>exact ite_ff ⟨.bl false,H3,I3,rfl,q3⟩
 | true=>exact ite_tt (chain_last (aU (hc aA s3 σ H3 _ I3 q3) λ w' s4 ⟨z',H4,I4,r4,q4⟩=>ho' aA s4 σ H4 y z' u w' Q I4 r2 r4 q4))
theorem aJR{op op':jx}{r r':R2}(ho:bS X (zo op) r)(ho':bS X (zo op') r')(ha:PE X a ta)(hb:PE X b tb)(hc:PE X c tc)
 (hm:lastMarks [op,op'] [b,c]=false:=by with_unfolding_all rfl):PT X (.Compare a [op,op'] [b,c] pos) (aFQ (aA7 r r' ta tb tc)):=by
 intro aA s σ H Q I h;refine isTrue_chain (aU (ha aA s σ H _ I h) λ v s1 ⟨x,H1,I1,r1,q1⟩=>test_link (aU (hb aA s1 σ H1 _ I1 q1) λ u s2 ⟨y,H2,I2,r2,q2⟩ =>
  aU (ho aA s2 σ H2 x y v u _ I2 r1 r2 q2) λ d s3 ⟨z,H3,I3,r3,k,e,q3⟩=>?_)) hm
 subst e;cases r3;refine xw ?_;cases k with
 | false =>
   obtain⟨k',e',q'⟩:=q3;cases e';exact ite_ff ⟨H3,I3,q'⟩
 | true =>
   refine ite_tt (test_last (aU (hc aA s3 σ H3 _ I3 q3) λ w' s4 ⟨z',H4,I4,r4,q4⟩=>aU (ho' aA s4 σ H4 y z' u w' _ I4 r2 r4 q4) λ d' s5 hPq24=>?_))
   obtain⟨z2,H5,I5,r5,k2,e2,q5⟩:=hPq24;subst e2;cases r5;exact xw ⟨H5,I5,q5⟩
def aBY(K:FrG)(x:V)(H:Hp)(k:Bool):Prop:=
 match x with
 | .non=>k=false
 | .bl b=>k=b
 | .int i=>k=(i != 0)
 | .str y=>y.length<=qk/\k=((y.length:Int) != 0)
 | .byt y=>y.size<=qk/\k=((y.size:Int) != 0)
 | .ref p=>(∃ xs,bJ K H p xs/\k = !xs.isEmpty)\/(∃ xs,bM K H p xs/\k = !xs.isEmpty)\/∃ aI,H p=qq (.dK aI)/\k = !aI.isEmpty
 | _=>False
theorem aIk{κ:Type}{aI:List (κ×V)}{vs:List (κ×qx)}(r:KV aI vs):(!vs.isEmpty) = !aI.isEmpty:=by
 cases r<;>rfl
theorem aCT{xs:List V}{its:List qx}(r:aO xs its):(!its.toArray.isEmpty) = !xs.isEmpty:=by
 cases r<;>simp
theorem nQ:(qk:Nat)<2^63:=by rw[qo];decide
theorem aNd:aQQ X (λ x H Q=>∃ k,aBY X.K x H k/\Q k H):=by
 intro aA s σ H x v Q I rx h;obtain⟨k,e,q⟩:=h;have hl:=nQ;have hs:qk=16777216:=qo;cases x with
 | non =>
   cases rx;have e':k=false:=e;subst e';exact truthy_none ⟨H,I,q⟩
 | bl b =>
   cases rx;have e':k=b:=e;subst e';exact xw ⟨H,I,q⟩
 | int i =>
   obtain⟨t,rfl⟩:=rx;have e':k=(i != 0):=e;subst e';exact PySem.P.truthy_int ⟨H,I,q⟩
 | str y =>
   obtain⟨t,rfl⟩:=rx;obtain⟨hy,e'⟩:y.length<=qk/\k=((y.length:Int) != 0):=e;subst e';exact PySem.P.truthy_str (by omega) ⟨H,I.tok _,q⟩
 | byt y =>
   obtain⟨t,rfl⟩:=rx;obtain⟨hy,e'⟩:y.size<=qk/\k=((y.size:Int) != 0):=e;subst e';exact PySem.W.truthy_bytes (by omega) ⟨H,I.tok _,q⟩
 | ref p =>
   cases rx;have e':(∃ xs,bJ X.K H p xs/\k = !xs.isEmpty)\/(∃ xs,bM X.K H p xs/\k = !xs.isEmpty)\/∃ aI,H p=qq (.dK aI)/\k = !aI.isEmpty:=e;rcases e' with ⟨xs,hx,e'⟩ | ⟨xs,hx,e'⟩ | ⟨aI,hx,e'⟩
   ·subst e';obtain⟨its,r,pl,hz⟩:=I.list hx;have bW:=r.length;exact wpAny_truthy_list pl.isList (by simp only[yAf];omega) ⟨H,I.tok _,by rw[aCT r];exact q⟩
   ·subst e';obtain⟨its,r,pl,hz⟩:=I.tuple hx;have bW:=r.length;exact truthy_tuple pl (by simp only[yAf];omega) ⟨H,I.tok _,by rw[aCT r];exact q⟩
   ·subst e';obtain⟨hz,hS,vs,r,m⟩:aI.length<=qk/\(p==sysModules)=false/\∃ vs,KV aI vs/\s.heap.DictOf (gE X.prog X.w) p vs:=I.hok p _ hx;have bW:aI.length=vs.length:=Paired.length r;exact wpAny_truthy_dict hS m (by omega) ⟨H,I.tok _,by rw[aIk r];exact q⟩
 | _=>exact(show False from e).elim
theorem aJd(ha:PE X a ta)(he:∀ eK,isTrue a X.env eK=(do let v <- eK;standAt a.pos;holding [v] (truthy v))) :
 PT X a (λ σ H Q=>ta σ H λ x H'=>∃ k,aBY X.K x H' k/\Q k H'):=by
 intro aA s σ H Q I h;exact isTrue_plain (aU (ha aA s σ H _ I h) λ v s1 ⟨x,H1,I1,r1,q1⟩=>aNd aA s1 σ H1 x v Q I1 r1 q1) (he _)
theorem aIb:bS X (zu .Add) (λ x y H Q=>∃ i j,x=.str i/\y=.str j/\i.length+j.length<=qk/\Q (.str (i++j)) H):=by
 intro aA s σ H x y v u Q I rx ry h;obtain⟨i,j,rfl,rfl,hz,q⟩:=h;obtain⟨t,rfl⟩:=rx;obtain⟨t',rfl⟩:=ry;exact add_str (λ t' tk=>⟨.str (i++j),H,I.tok _,⟨_,rfl⟩,q⟩) hz
theorem fB{x:V}{us:List qx}(r:aO [x] us):∃ u,us=[u]/\aT x u:=by
 cases r with
 | cons r1 r2=>cases r2;exact⟨_,rfl,r1⟩
theorem sP{x y:V}{us:List qx}(r:aO [x,y] us):∃ u w',us=[u,w']/\aT x u/\aT y w':=by
 cases r with
 | cons r1 r2 =>
   cases r2 with
   | cons r3 r4=>cases r4;exact⟨_,_,rfl,r1,r3⟩
theorem aJK:cF X (.builtin "abs") (λ xs H Q=>∃ i,xs=[.int i]/\Q (.int (if i<0 then -i else i)) H):=by
 intro aA s σ H xs us Q I r h;obtain⟨i,rfl,q⟩:=h;obtain⟨u,rfl,t,rfl⟩:=fB r;exact call_abs_int λ u tk=>⟨.int (if i<0 then -i else i),H,I.tok _,⟨_,rfl⟩,q⟩
theorem aIz(hc:X.calm=true):cF X (.builtin "max") (λ xs H Q=>∃ i j,xs=[.int i,.int j]/\Q (.int (if j>i then j else i)) H):=by
 intro aA s σ H xs us Q I r h;obtain⟨i,j,rfl,q⟩:=h;obtain⟨u,w',rfl,⟨t,rfl⟩,⟨t',rfl⟩⟩:=sP r;refine max_two_ints (I.ok.hd hc) λ h' tk k=>⟨_,H,I.kept k,?_,q⟩
 by_cases hj:j>i
 ·rw[if_pos hj,if_pos hj];exact⟨_,rfl⟩
 ·rw[if_neg hj,if_neg hj];exact⟨_,rfl⟩
theorem aI8(hc:X.calm=true):cF X (.builtin "min") (λ xs H Q=>∃ i j,xs=[.int i,.int j]/\Q (.int (if j<i then j else i)) H):=by
 intro aA s σ H xs us Q I r h;obtain⟨i,j,rfl,q⟩:=h;obtain⟨u,w',rfl,⟨t,rfl⟩,⟨t',rfl⟩⟩:=sP r;refine min_two_ints (I.ok.hd hc) λ h' tk k=>⟨_,H,I.kept k,?_,q⟩
 by_cases hj:j<i
 ·rw[if_pos hj,if_pos hj];exact⟨_,rfl⟩
 ·rw[if_neg hj,if_neg hj];exact⟨_,rfl⟩
theorem aDe:cF X (.type "int") (λ xs H Q=>(∃ i,xs=[.int i]/\Q (.int i) H)\/∃ k,xs=[.bl k]/\Q (.int (if k then 1 else 0)) H):=by
 intro aA s σ H xs us Q I r h;rcases h with ⟨i,rfl,q⟩ | ⟨k,rfl,q⟩
 ·obtain⟨u,rfl,t,rfl⟩:=fB r;exact call_int_int ⟨.int i,H,I,⟨_,rfl⟩,q⟩
 ·obtain⟨u,rfl,r1⟩:=fB r;cases r1;exact call_int_bool ⟨.int (if k then 1 else 0),H,I.tok _,⟨_,rfl⟩,q⟩
end
end L2
namespace L2
open PySem PySem.Spec PyProof.Rows
structure ObjM(h:Heap)(x dx C:qv)(mA:Str->Option qx):Prop where
 obj:h.get? x=qq (yCn C dx)
 ns:h.Ns1 dx mA
 ne:dx≠x
theorem aDq{h:Heap}{dx:qv}{mA:Str->Option qx}(n:h.Ns1 dx mA):∃ od,h.get? dx=qq od/\∀ name,yFw name od=qq (mA name):=by
 obtain⟨o,es,ep,ho,hd,hk,_,hm⟩:=n;refine⟨o,ho,λ name=>?_⟩
 have e:=hm name;unfold nsFind findBy at e;rw[<- yFf] at e;unfold yFw;rw[hd];dsimp only
 split
 ·rename_i y q;rw[q] at e;exact congrArg qq e
 ·rename_i q;rw[q] at e;have a:es.toList.any (·.refKey)=false:=by
   rw[List.any_eq_false];intro y hy;obtain⟨z,t,hkey⟩:=hk y (Array.mem_toList_iff.mp hy);simp[DictEntry.refKey,hkey]
  have a':¬ es.toList.any (·.refKey)=true:=by rw[a];exact yAt
  rw[if_neg a'];exact congrArg qq e
theorem ObjM.look{h:Heap}{x dx C:qv}{mA:Str->Option qx}(I:ObjM h x dx C mA):∃ od,yCf h x (yCn C dx) C (qq od)/\∀ name,yFw name od=qq (mA name):=
 let ⟨od,ho,hl⟩:=aDq I.ns
 ⟨od,⟨I.obj,rfl,rfl,ho⟩,hl⟩
section
variable {prog : zq}{w : zx}{A : zv}{E : qx -> qj -> Prop}{s : qj}{K : FrG}{x dx C f : qv}{mA : Str -> Option qx}{name : Str}{v : qx}
end
theorem tQ.some_of{v:V}{o:Option qx}(r:tQ (qq v) o):∃ u,o=qq u/\aT v u:=by
 cases o with
 | none=>exact(show False from r).elim
 | some u=>exact⟨u,rfl,r⟩
section
variable {P : zq}{w : zx}{H H' : Hp}{h h' : Heap}{a C dx : qv}{fs fs' : List (Str×V)}
end
structure Cls(K:FrG)(C:qv):Prop where
 pg:PySem.W.plainGet K C Str.empty=true
 hd:PySem.W.hasDictIn K C=true
 po:PySem.W.plainOver K C=true
 sa:yEg K (.ref C) "__setattr__" = qq (qq (.builtin "object.__setattr__"))
theorem Cls.get{K:FrG}{C:qv}(c:Cls K C)(f:Str):PySem.W.plainGet K C f=true:=c.pg
structure Con(K:FrG)(C:qv)(f:Str)(v:V)(u:qx):Prop where
 at_:yEg K (.ref C) f=qq (qq u)
 rel:aT v u
 get:PySem.W.specialIn K u "__get__" = qq qz
 cp:PySem.W.copiedNames.contains f=false
structure Meth(K:FrG)(C:qv)(m:Str)(f:qv):Prop where
 at_:yEg K (.ref C) m=qq (qq (.ref f))
 fn:PySem.W.isFn K (.ref f)=true
 kp:yBq K (.ref f)=true
section
variable {X : Cx}{aA : List (qv×Obj)}{σ : St}{H : Hp}{s : qj}{a C dx : qv}{fs : List (Str×V)}{f : Str}{v : V}{A : zv}{E : qx -> qj -> Prop}
theorem Inv.made(I:Inv X aA σ H s):Inv X aA σ (aQ (aQ H s.heap.objs.size (.own (s.heap.objs.size+1))) (s.heap.objs.size+1) (.ins C s.heap.objs.size []))
 {s with heap:=(s.heap.push yBu).push (yCn C s.heap.objs.size) }:=by
 have e1:(s.heap.push yBu).get? s.heap.objs.size=qq yBu:=xAe s.heap rfl;have e2:((s.heap.push yBu).push (yCn C s.heap.objs.size)).get? (s.heap.objs.size+1)=qq (yCn C s.heap.objs.size):=by
  have:=xAe (s.heap.push yBu) (o:=yCn C s.heap.objs.size) rfl;rwa [yEh] at this
 have e3:(s.heap.push yBu).Ns s.heap.objs.size (λ _=>qz):=⟨yBu,#[],_,e1,rfl,(λ e he=>absurd he (by simp)),λ _=>rfl⟩
 have I1:=I.laid (a:=s.heap.objs.size) (o:=.own (s.heap.objs.size+1)) (h':=s.heap.push yBu) (t':=s.toks) (λ b u q=>hpS _ q) (yAe _) ⟨_,e1⟩
 refine I1.laid (a:=s.heap.objs.size+1) (o:=.ins C s.heap.objs.size []) (t':=s.toks) (λ b u q=>hpS _ q) (yEl (yEh _ _)) ?_
 have ne:s.heap.objs.size≠s.heap.objs.size+1:=xAh (yCv _);refine⟨by rw[aW ne,bQ],yEx _,ne,e2,λ _=>qz,(Heap.Ns1.of_empty e3).at λ o q=>hpS _ q,λ _=>True.intro,λ y hy=>absurd rfl hy⟩
end
section
variable {X : Cx}{o e value : qw}{f : Str}{pos pos' tpos : Pos}{ta tv : TE}
end
section
variable {X : Cx}{aA : List (qv×Obj)}{σ : St}{H : Hp}{s : qj}{A : zv}{E : qx -> qj -> Prop}{Q : qx -> qj -> Prop}{c : qx}{b : Bool}
inductive TyOf (K:FrG) (H:Hp):V->qx->Prop where
 | non:TyOf K H .non (.type "NoneType")
 | bl (x:Bool):TyOf K H (.bl x) (.type "bool")
 | int (i:Int):TyOf K H (.int i) (.type "int")
 | str (x:Str):TyOf K H (.str x) (.type "str")
 | flt (x:UInt64):TyOf K H (.flt x) (.type "float")
 | lst {a:qv}{xs:List V} (e:H a=qq (.lst xs)):TyOf K H (.ref a) (.type "list")
 | frz {a:qv}{o:Obj}{xs:List V} (e:H a=qq (.frz o (.lst xs))):TyOf K H (.ref a) (.type "list")
 | tup {a:qv}{xs:List V} (e:H a=qq (.tup xs)):TyOf K H (.ref a) (.type "tuple")
 | dK {a:qv}{aI:List (eV×V)} (e:H a=qq (.dK aI)):TyOf K H (.ref a) (.type "dict")
 | dT {a:qv}{aI:List (List eV×V)} (e:H a=qq (.dT aI)):TyOf K H (.ref a) (.type "dict")
 | ins {a C dx:qv}{fs:List (Str×V)} (e:H a=qq (.ins C dx fs)) (cl:Cls K C) (ha:yEg K (.ref C) "__class__" = qq (qq (.builtin "object.__class__")))
    (hn:PySem.W.specialIn K (.builtin "object.__class__") "__get__" = qq (qq (.builtin "getset_descriptor.__get__"))) (htk:PySem.W.takesIn K (.builtin "object.__class__")=qq true)
    (hm:PySem.W.mroIn K C (.type "object")=qq true):TyOf K H (.ref a) (.ref C)
end
end L2
namespace L2
open PySem PySem.Spec PyProof.Rows
structure Room(k:Nat)(A:zv):Prop where
 hd:A.handled=qz
 dp:A.depth+3*k+5<recursionLimit
 un:A.units+16*k+200<cLine
theorem Room.mono{j k:Nat}{A:zv}(r:Room k A)(h:j<=k):Room j A:=⟨r.hd,by have:=r.dp;omega,by have:=r.un;omega⟩
theorem Room.deeper{k:Nat}{A:zv}(r:Room (k+1) A)(env:Env):Room k (A.deeper env):=
 ⟨r.hd,by have:=r.dp;show A.depth+1+3*k+5<_;omega,by have:=r.un;show A.units+3+16*k+200<_;omega⟩
theorem Room.in1{k:Nat}{A:zv}(r:Room (k+1) A):Room k A.in1:=
 ⟨r.hd,by have:=r.dp;show A.depth+3*k+5<_;omega,by have:=r.un;show A.units+1+16*k+200<_;omega⟩
theorem aH4{A:zv}{C:qv}{us:List qx}{kw:List (Str×qx)}:(A.under (.builtin "type.__call__" ⟨.ref C::us,kw⟩)).depth=A.depth+1:=by
 first | rfl | simp[Around.under,Code.weight,Code.isCreation,Code.isGuard,Code.isCaller,Code.frames,Code.isFrame,guardIds]
theorem aIh{A:zv}{C:qv}{us:List qx}{kw:List (Str×qx)}:(A.under (.builtin "type.__call__" ⟨.ref C::us,kw⟩)).units=A.units+1:=by
 first | rfl | simp[Around.under,Code.cUnits,Code.frames,Code.isFrame]
theorem Room.make{k:Nat}{A:zv}(r:Room (k+1) A)(C:qv)(us:List qx)(kw:List (Str×qx)):Room k (A.under (.builtin "type.__call__" ⟨.ref C::us,kw⟩)):=
 ⟨r.hd,by have:=r.dp;rw[aH4];omega,by have:=r.un;rw[aIh];omega⟩
theorem Room.depth{k:Nat}{A:zv}(r:Room k A):A.depth<recursionLimit:=by have:=r.dp;omega
theorem Room.units{k:Nat}{A:zv}(r:Room k A):A.units+64<cLine:=by have:=r.un;omega
def aGC:TA:=λ _ H Q=>Q [] H
def wR(ta:TE)(tr:TA):TA:=λ σ H Q=>ta σ H λ x H1=>tr σ H1 λ xs H2=>Q (x::xs) H2
section
variable {X : Cx}{e : qw}{es : List qw}{te : TE}{t : TA}{pos : Pos}
theorem pS:PA X [] aGC:=λ _ _ _ _ H Q I h=>Calls.spliced_nil ⟨[],H,I,.nil,h⟩
theorem jP(ha:PE X e te)(hr:PA X es t)(hs:zj (e::es) X.env=(false,eval e X.env)::zj es X.env:=by rfl):PA X (e::es) (wR te t):=by
 intro pos aA s σ H Q I h;rw[hs];show qu _ _ (spliced ((false,eval e X.env)::backTo pos (zj es X.env))) _ _ s;refine Calls.spliced_cons (aU (ha aA s σ H _ I h) λ u s1 hPq25=>?_)
 obtain⟨x,H1,I1,r1,q1⟩:=hPq25;exact aU (hr pos aA s1 σ H1 _ I1 q1) λ us s2 ⟨xs,H2,I2,r2,q2⟩=>⟨x::xs,H2,I2,.cons r1 r2,q2⟩
def aQd(t:TA):TE:=λ σ H Q=>t σ H λ xs H1=>xs.length<=qk/\∀ p,H1 p=qz->Q (.ref p) (aQ H1 p (.tup xs))
def aQc(t:TA):TE:=λ σ H Q=>t σ H λ xs H1=>xs.length<=qk/\∀ p,H1 p=qz->Q (.ref p) (aQ H1 p (.lst xs))
theorem aA2{x1}(h:PA X es t):PE X (.Tuple es x1 pos) (aQd t):=by
 intro aA s σ H Q I hq;refine wpAny_Tuple_spliced (aU (h pos aA s σ H _ I hq) λ us s1 ⟨xs,H1,I1,r,z,q⟩=>⟨by rw[<- r.length];exact z,?_⟩)
 have hf:H1 s1.heap.objs.size=qz:=I1.hok.fresh (yAe _);refine⟨.ref s1.heap.objs.size,aQ H1 s1.heap.objs.size (.tup xs),I1.laid (t':=s1.toks) (λ b u e=>hpS _ e) (yAe _) ?_,rfl,q _ hf⟩
 exact⟨z,us,r,⟨_,xAe _ rfl,rfl,_,rfl⟩⟩
theorem aNX(h:PA X es t):PE X (.List es pos) (aQc t):=by
 intro aA s σ H Q I hq;refine wpAny_List_spliced (aU (h pos aA s σ H _ I hq) λ us s1 ⟨xs,H1,I1,r,z,q⟩=>⟨by rw[<- r.length];exact z,?_⟩)
 have hf:H1 s1.heap.objs.size=qz:=I1.hok.fresh (yAe _);refine⟨.ref s1.heap.objs.size,aQ H1 s1.heap.objs.size (.lst xs),I1.laid (t':=s1.toks) (λ b u e=>hpS _ e) (yAe _) ?_,rfl,q _ hf⟩
 exact⟨z,us,0,r,xAe _ rfl⟩
end
abbrev Sp:=List V->Hp->VK->XK->Prop
abbrev gZ:=List Env->Hp->qj->XK->qx->qj->Prop
structure Env0(P:zq)(w:zx)(K:FrG)(mg:Str->Option qx)(base:Heap)(A:zv)(outer:List Env)(s:qj)(H:Hp):Prop where
 frames:A.frames=qq outer
 mod:Mod K mg base
 bs:∀ b o,base.get? b=qq o->s.heap.get? b=qq o/\H b=qz
 bsz:base.objs.size<=s.heap.objs.size
 funs:s.heap.FunFrames base outer
 frf:∀ b∈dB outer,H b=qz
 hok:cO P w H s.heap
 bare:AllBare s.gens
def CE(outer:List Env)(P:zq)(w:zx)(H:Hp)(s:qj)(Q:VK)(u:qx)(s':qj):Prop:=
 ∃ v H',s'.os=s.os/\AllBare s'.gens/\Un (dB outer) [] H H' s.heap s'.heap/\cO P w H' s'.heap/\aT v u/\Q v H'
def CR(CX:gZ)(outer:List Env)(P:zq)(w:zx)(H:Hp)(s:qj)(Q:VK)(E:XK)(r:Result)(s':qj):Prop:=
 match r with
 | .ok (.ret u)=>CE outer P w H s Q u s'
 | .ok _=>False
 | .error e=>CX outer H s E e s'
structure FnOk(P:zq)(w:zx)(K:FrG)(mg:Str->Option qx)(base:Heap)(CX:gZ)(k:Nat)(f:qv)(fd:jz)(ps:List Str)(sp:Sp):Prop where
 len:∀ vs H Q E,sp vs H Q E->vs.length=ps.length
 run:∀ (A:zv) (outer:List Env) (s:qj) (H:Hp) (args:Args) (us:List qx) (vs:List V) (Q:VK) (E:XK),Room k A->Env0 P w K mg base A outer s H->BindsTo s fd args (ps.zip us)->aO vs us->sp vs H Q E ->
  vo (model P w) A (.call (.ref f) args) (CR CX outer P w H s Q E) s
theorem FnOk.mono{P:zq}{w:zx}{K:FrG}{mg:Str->Option qx}{base:Heap}{CX:gZ}{j k:Nat}{f:qv}{fd:jz}{ps:List Str}{sp:Sp}(F:FnOk P w K mg base CX j f fd ps sp)(h:j<=k) :
 FnOk P w K mg base CX k f fd ps sp:=⟨F.len,λ A outer s H args us vs Q E hr=>F.run A outer s H args us vs Q E (hr.mono h)⟩
theorem Env0.make{P:zq}{w:zx}{K:FrG}{mg:Str->Option qx}{base:Heap}{A:zv}{outer:List Env}{s:qj}{H:Hp}(e:Env0 P w K mg base A outer s H)(C:qv)(us:List qx)(kw:List (Str×qx)) :
 Env0 P w K mg base (A.under (.builtin "type.__call__" ⟨.ref C::us,kw⟩)) outer s H:=⟨by first | exact e.frames | (simpa [Around.under,Code.envs,Code.isFrame,pushEnvs] using e.frames),e.mod,e.bs,e.bsz,e.funs,e.frf,e.hok,e.bare⟩
theorem Env0.in1{P:zq}{w:zx}{K:FrG}{mg:Str->Option qx}{base:Heap}{A:zv}{outer:List Env}{s:qj}{H:Hp}(e:Env0 P w K mg base A outer s H) :
 Env0 P w K mg base A.in1 outer s H:=⟨e.frames,e.mod,e.bs,e.bsz,e.funs,e.frf,e.hok,e.bare⟩
section
variable {X : Cx}{aA : List (qv×Obj)}{σ : St}{H : Hp}{s s' : qj}
theorem Inv.env0(I:Inv X aA σ H s):Env0 X.prog X.w X.K X.mg X.base X.A X.stack s H:=
 ⟨I.ok.frames,I.ok.mod,I.bs,xAg I.ok.bsz I.sz,I.stack,I.stkFree,I.hok,I.bare⟩
theorem Inv.after{Q:VK}{u:qx}(I:Inv X aA σ H s)(h:CE X.stack X.prog X.w H s Q u s'):EP X aA σ Q u s':=by
 obtain⟨v,H',os,bare,un,hok,r,q⟩:=h;obtain⟨hh,g,d,t,os'⟩:=s';obtain rfl:os'=s.os:=os;exact⟨v,H',I.call (h':=hh) (g':=g) (d':=d) (t':=t) (ch:=[]) un hok bare (λ b z=>absurd z (by simp)),r,q⟩
end
def xA(sp:Sp)(dvs:List V)(E:XK)(t:TA):TE:=λ σ H Q=>t σ H λ vs H1=>sp (vs++dvs) H1 Q E
def dG(K:FrG)(fd:jz)(ps:List Str)(ds:List qx):Prop:=
 ∀ (s:qj) (us:List qx),K.In s.heap->(us++ds).length=ps.length->BindsTo s fd ⟨us,[]⟩ (ps.zip (us++ds))
theorem dG.all{K:FrG}{fd:jz}{ps:List Str}(h:∀ us:List qx,us.length=ps.length->bindArgs fd ⟨us,[]⟩=pure (ps.zip us)):dG K fd ps []:=λ s us _ hl=>by
 rw[yAu] at hl ⊢;exact .of_eq (h us hl)
def vZ(CX:gZ)(X:Cx)(E:XK):Prop:=∀ (aA:List (qv×Obj)) (σ:St) (H:Hp) (s:qj) (e:qx) (s':qj),Inv X aA σ H s->CX X.stack H s E e s'->X.xe e s'
section
variable {X : Cx}{CX : gZ}{k : Nat}{f C : qv}{fd : jz}{ps : List Str}{sp : Sp}{dvs : List V}{ds : List qx}{E : XK}{x m : Str}{p pos apos : Pos}{e o : qw}{es : List qw}{ta : TE}{t : TA}
theorem aE8{aA:List (qv×Obj)}{σ:St}{H:Hp}{s:qj}{Q:VK}{us:List qx}{vs:List V}(F:FnOk X.prog X.w X.K X.mg X.base CX k f fd ps sp)(hr:Room k X.A)(hb:dG X.K fd ps ds)(hd:aO dvs ds)(hx:vZ CX X E)
 (I:Inv X aA σ H s) (r:aO vs us) (h:sp (vs++dvs) H Q E):qu (model X.prog X.w) X.A (call (.ref f) us) (EP X aA σ Q) X.xe s:=by
 have r2:aO (vs++dvs) (us++ds):=r.append hd;have hl:(us++ds).length=ps.length:=by rw[<- r2.length];exact F.len _ _ _ _ h
 refine wpAny_call (codeAny_mono (F.run X.A X.stack s H ⟨us,[]⟩ (us++ds) (vs++dvs) Q E hr I.env0 (hb s us I.kIn hl) r2 h) λ r s' hq=>?_)
 cases r with
 | error e=>exact hx aA σ H s e s' I hq
 | ok fl =>
   cases fl with
   | ret u=>exact I.after hq
   | next=>exact False.elim hq
   | brk=>exact False.elim hq
   | cont=>exact False.elim hq
theorem aK6(F:FnOk X.prog X.w X.K X.mg X.base CX k f fd ps sp)(hr:Room k X.A)(hg:Gl X x)(hm:X.mg x=qq (.ref f))(hk:yBq X.K (.ref f)=true)(hb:dG X.K fd ps ds)(hd:aO dvs ds)(hx:vZ CX X E)
 (ha:PA X (e::es) t) (hdb:(x==("__debug__" : Str))=false:=by decide) (he:zj (e::es) X.env=(false,eval e X.env)::zj es X.env:=by rfl) (hpl:(backTo pos (zj es X.env)).any (·.1)=false:=by rfl) :
 PE X (.Call (.Name x p) (e::es) [] pos) (xA sp dvs E t):=by
 intro aA s σ H Q I h;refine jq (kS I hg hm ?_ hdb);refine yDu (h₀:=X.base) I.ok.mod.kin hk (aU (ha pos aA s σ H _ I h) λ us s1 ⟨vs,H1,I1,r,q⟩=>⟨I1.kIn,?_⟩) he hpl
 exact aE8 F hr hb hd hx I1 r q
theorem aJe(F:FnOk X.prog X.w X.K X.mg X.base CX k f fd ps sp)(hr:Room k X.A)(hg:Gl X x)(hm:X.mg x=qq (.ref f))(hk:yBq X.K (.ref f)=true)(hb:dG X.K fd ps ds)(hd:aO dvs ds)(hx:vZ CX X E)
 (hdb:(x==("__debug__" : Str))=false:=by decide):PE X (.Call (.Name x p) [] [] pos) (xA sp dvs E aGC):=by
 intro aA s σ H Q I h;refine jq (kS I hg hm ?_ hdb);exact PySem.W.callWith_K0 I.kIn hk (aE8 (us:=[]) F hr hb hd hx I .nil h)
structure Mk(K:FrG)(C f:qv):Prop where
 makes:PySem.W.makesIn K C=true
 init:yEg K (.ref C) "__init__" = qq (qq (.ref f))
 fn:PySem.W.isFn K (.ref f)=true
 kp:yBq K (.ref C)=true
end
section
variable {X : Cx}{CX : gZ}{k : Nat}{f C : qv}{fd : jz}{ps ks : List Str}{sp : Sp}{E : XK}{x m : Str}{p pos apos kpos : Pos}{e o : qw}{es : List qw}{kws : List Keyword}{te ta : TE}{t tk : TA}{nm : Option Str}
structure KBinds(K:FrG)(fd:jz)(ps ks:List Str)(g:List qx->List qx->List qx)(gV:List V->List V->List V):Prop where
 to:∀ (s:qj) (us ws:List qx),K.In s.heap->(g us ws).length=ps.length->BindsTo s fd ⟨us,ks.zip ws⟩ (ps.zip (g us ws))
 rel:∀ {vs:List V}{us:List qx}{zs:List V}{ws:List qx},aO vs us->aO zs ws->aO (gV vs zs) (g us ws)
variable {g : List qx -> List qx -> List qx}{gV : List V -> List V -> List V}
end
structure FnScope(N P:List Str)(sc:zw):Prop where
 kind:sc.kind=.function
 co:sc.isCoroutine=false
 gen:sc.isGenerator=false
 nd:N.Nodup
 pre:N.take P.length=P
 par:∀ x∈P,sc.names.lookup x=qq .local\/sc.names.lookup x=qq .cell
 nofree:∀ y∈sc.names,y.2≠.free
theorem aDr{kindOf:Str->Option jo}{x:Str}:∀ {binds:List (Str×qx)}{m:Str->Option qx},(∀ v,(x,v) ∉ binds)->bindL kindOf binds m x=m x
 | [],_,_=>rfl
 | (n,v)::r,m,h=>by
   unfold bindL;rw[aDr λ w hw=>h w (xAf _ hw)]
   split
   ·have:x≠n:=by rintro rfl;exact h v xAd
    simp[this]
   ·rfl
theorem aC5{kindOf:Str->Option jo}{x:Str}:∀ {binds:List (Str×qx)}{m:Str->Option qx},(∀ v,(x,v) ∉ binds)->bindC kindOf binds m x=m x
 | [],_,_=>rfl
 | (n,v)::r,m,h=>by
   unfold bindC;rw[aC5 λ w hw=>h w (xAf _ hw)]
   split
   ·rfl
   ·have:x≠n:=by rintro rfl;exact h v xAd
    simp[this]
theorem aDc{kindOf:Str->Option jo}{x:Str}{v:qx}:∀ {P:List Str}{vs:List qx}{i:Nat}{m:Str->Option qx},P.Nodup->P[i]? = qq x->vs[i]? = qq v->kindOf x=qq .local ->
 bindL kindOf (P.zip vs) m x=qq v
 | [],_,_,_,_,h,_,_=>by simp at h
 | _::_,[],_,_,_,_,h,_=>by simp at h
 | p::P,w::vs,0,m,nd,h1,h2,hk=>by
   simp at h1 h2;subst h1;subst h2;show bindL kindOf ((p,w)::P.zip vs) m p=_;unfold bindL;rw[aDr λ v hv=>(List.nodup_cons.mp nd).1 (List.of_mem_zip hv).1,if_pos hk]
   simp
 | p::P,w::vs,i+1,m,nd,h1,h2,hk=>by
   show bindL kindOf ((p,w)::P.zip vs) m x=_;unfold bindL;exact aDc (i:=i) (List.nodup_cons.mp nd).2 (by simpa using h1) (by simpa using h2) hk
theorem aC7{kindOf:Str->Option jo}{x:Str}{v:qx}:∀ {P:List Str}{vs:List qx}{i:Nat}{m:Str->Option qx},P.Nodup->P[i]? = qq x->vs[i]? = qq v->kindOf x≠qq .local ->
 bindC kindOf (P.zip vs) m x=qq v
 | [],_,_,_,_,h,_,_=>by simp at h
 | _::_,[],_,_,_,_,h,_=>by simp at h
 | p::P,w::vs,0,m,nd,h1,h2,hk=>by
   simp at h1 h2;subst h1;subst h2;show bindC kindOf ((p,w)::P.zip vs) m p=_;unfold bindC;rw[aC5 λ v hv=>(List.nodup_cons.mp nd).1 (List.of_mem_zip hv).1,if_neg hk]
   simp
 | p::P,w::vs,i+1,m,nd,h1,h2,hk=>by
   show bindC kindOf ((p,w)::P.zip vs) m x=_;unfold bindC;exact aC7 (i:=i) (List.nodup_cons.mp nd).2 (by simpa using h1) (by simpa using h2) hk
noncomputable def start(N:List Str)(vs:List V):St:=vs.map qq++yAg (N.length-vs.length) qz
noncomputable def gW(CX:gZ)(P:zq)(w:zx)(K:FrG)(mg:Str->Option qx)(base:Heap)(N:List Str)(bF:Str)(scope:zw)(f:qv)(cd:qx)(A:zv)(outer:List Env)(s:qj)(H:Hp)(E:XK):Cx where
 prog:=P
 w:=w
 K:=K
 mg:=mg
 base:=base
 A:=A.deeper (envOfC bF scope s.heap.objs.size f cd)
 N:=N
 s₀:=s
 H₀:=H
 env:=envOfC bF scope s.heap.objs.size f cd
 outer:=outer
 stack:=envOfC bF scope s.heap.objs.size f cd::outer
 ex:=[]
 calm:=true
 fn:=λ _=>true
 pn:=[]
 xe:=λ e s'=>qu (model P w) (A.deeper (envOfC bF scope s.heap.objs.size f cd)) (leaving (envOfC bF scope s.heap.objs.size f cd) e) (λ _ s''=>CX outer H s E e s'') (λ e' s''=>CX outer H s E e' s'') s'
theorem aDU{sc:zw}{n:Nat}{x:Str}(h:sc.names.lookup x=qq .cell):∃ c,(cellsFrom n sc.names []).lookup x=qq c:=by
 have q:=PySem.W.cellsFrom_some sc.names n [] (.inl h);exact Option.isSome_iff_exists.mp q
theorem aI0{CX:gZ}{P:zq}{w:zx}{K:FrG}{mg:Str->Option qx}{base:Heap}{N ps:List Str}{bF:Str}{scope:zw}{f:qv}{cd:qx}{A:zv}{outer:List Env}{s s1:qj}{H:Hp}{E:XK}{us:List qx}{vs:List V}
 (S:FnScope N ps scope) (hd:A.handled=qz) (e0:Env0 P w K mg base A outer s H) (hl:vs.length=ps.length) (r:aO vs us)
 (x:InCallC s s.heap.objs.size (bindL (envOfC bF scope s.heap.objs.size f cd).kindOf (ps.zip us) λ _=>qz) (cellsFrom (s.heap.objs.size+1) scope.names []) (bindC (envOfC bF scope s.heap.objs.size f cd).kindOf (ps.zip us) λ _=>qz) s1) :
 Inv (gW CX P w K mg base N bF scope f cd A outer s H E) [] (start N vs) H s1:=by
 have hpl:ps.length<=N.length:=by have:=congrArg yEy S.pre;rw[yBf] at this;omega
 obtain⟨h1,tk,rfl,hk⟩:=x.done;have noA:∀ b:qv,b ∉ (gW CX P w K mg base N bF scope f cd A outer s H E).ex:=λ b z=>absurd (show b∈([]:List qv) from z) (by simp)
 refine⟨⟨e0.mod,S.kind,rfl,rfl,yAe _,λ y z c h1 h2=>?_,λ y hy=>?_,λ y c _ h=>?_,λ _=>hd,Around.frames_deeper e0.frames,.inr ⟨rfl,rfl⟩,λ b z=>absurd z (noA b),e0.bs,e0.bsz,λ b _ _=>noA b,λ b z=>absurd z (noA b),e0.funs,e0.frf⟩,
  rfl,e0.bare,Un.kept hk,⟨_,x.toInCall.ns,λ i y v h1 h2 h3=>?_⟩,λ y c h=>⟨_,x.cell y c h⟩,e0.hok.fresh (yAe _),λ y c h=>?_,λ p hp=>absurd (show p∈([]:List (qv×Obj)) from hp) (by simp),e0.hok.kept hk,?_⟩
 ·exact name_of_addr x.apart (PySem.mem_of_lookup h1) (PySem.mem_of_lookup h2)
 ·have hy:scope.names.lookup y=qq .cell\/scope.names.lookup y=qq .free:=hy;rcases hy with hy | hy
  ·exact aDU hy
  ·exact absurd rfl (S.nofree _ (PySem.mem_of_lookup hy))
 ·exact yEj (x.above y c (PySem.mem_of_lookup h))
 ·have hi:i<vs.length:=by
   unfold start at h2
   by_cases hi:i<vs.length
   ·exact hi
   ·rw[yAd (by simpa using hi)] at h2
    rw[List.getElem?_replicate] at h2
    split at h2<;>cases h2
  have ha:vs[i]? = qq v:=by
   unfold start at h2;rw[xAj (by simpa using hi),xAb] at h2
   cases e:vs[i]? with
   | none=>rw[e] at h2;cases h2
   | some a=>rw[e] at h2;cases h2;rfl
  obtain⟨u,hu,rv⟩:=r.get ha;have hp:ps[i]? = qq y:=by
   rw[<- S.pre,yDp (by omega)];exact h1
  have ndP:ps.Nodup:=by rw[<- S.pre];exact S.nd.sublist (List.take_sublist _ _)
  refine⟨u,rv,?_⟩;rcases S.par y (xAi hp) with k | k
  ·exact .inl ⟨k,aDc ndP hp hu k⟩
  ·obtain⟨c,e⟩:=aDU (n:=s.heap.objs.size+1) k;refine .inr ⟨.inl k,c,e,?_⟩;have q:=x.cell y c e;rw[aC7 ndP hp hu (by show scope.names.lookup y≠_;rw[k];decide)] at q
   exact q
 ·exact e0.hok.fresh (yEj (x.above y c (PySem.mem_of_lookup h)))
 ·unfold start;show _=N.length;rw[yAp,yAb,yDb];omega
theorem aGl{CX:gZ}{P:zq}{w:zx}{K:FrG}{mg:Str->Option qx}{base:Heap}{k:Nat}{f:qv}{name bF:Str}{params:Arguments}{body:List zy}{scope:zw}{dV kV doc pm cdv ct oc:qx}{an od:Option qv}
 {osl:Array (Option qx)}{N ps:List Str}{sp:Sp} (lk:K.lookup f=qq ⟨oc,od,.func (yBx name bF params body scope dV kV doc pm an cdv ct),osl⟩) (hcd:yDm K cdv bF=true) (S:FnScope N ps scope)
 (len:∀ vs H Q E,sp vs H Q E->vs.length=ps.length)
 (hbody:∀ (A:zv) (outer:List Env) (s:qj) (H:Hp) (vs:List V) (Q:VK) (E:XK),Room k (A.deeper (envOfC bF scope s.heap.objs.size f cdv))->sp vs H Q E ->
   ∃ t,bN (gW CX P w K mg base N bF scope f cdv A outer s H E) body t/\t {nx:=λ _ H'=>Q .non H',rt:=Q } (start N vs) H) :
 FnOk P w K mg base CX (k+1) f (yBx name bF params body scope dV kV doc pm an cdv ct) ps sp:=by
 refine⟨len,λ A outer s H args us vs Q E hr e0 hb r hsp=>?_⟩
 have hl:=len _ _ _ _ hsp;have KX:K.In s.heap:=e0.mod.kin.keeps λ b o e=>(e0.bs b o e).1
 have lim:s.heap.NoLimit:=e0.mod.nolimit.keeps λ b o e=>(e0.bs b o e).1
 have hkind:∀ y∈ps.zip us,scope.names.lookup y.1=qq .local\/(scope.names.lookup y.1=qq .cell/\((cellsFrom (s.heap.objs.size+1) scope.names []).lookup y.1).isSome=true):=λ aJ hy=>by
  obtain⟨n,v⟩:=aJ;rcases S.par n (List.of_mem_zip hy).1 with q | q
  ·exact .inl q
  ·exact .inr ⟨q,PySem.W.cellsFrom_some _ _ _ (.inl q)⟩
 refine codeAny_call_function hr.depth (KX _ _ lk) rfl S.co S.gen rfl (PySem.W.codeRec_of KX hcd) (hb _ _ _ _ ?_);refine wpAny_newFunctionEnv_cells S.kind hkind λ env he s1 x=>?_
 subst he;refine⟨lim.keeps x.toInCall.keep,codeAny_func ?_⟩;obtain⟨t,ht,hq⟩:=hbody A outer s H vs Q E (hr.deeper _) hsp;have I:Inv (gW CX P w K mg base N bF scope f cdv A outer s H E) [] (start N vs) H s1:=aI0 S hr.hd e0 hl r x;refine wpAny_mono (ht [] s1 (start N vs) H _ I hq) (λ fl s' hs=>?_) λ e s' hs=>hs
 have bB:∀ {σ':St}{H':Hp}{v:V}{u:qx},Inv (gW CX P w K mg base N bF scope f cdv A outer s H E) [] σ' H' s'->aT v u->Q v H'->CE outer P w H s Q u s':=
  λ {σ' H' v u} J rv q=>⟨v,H',J.os,J.bare,J.base,J.hok,rv,q⟩
 cases fl with
 | ret u =>
   obtain⟨v,σ',H',J,rv,q⟩:=hs;exact bB J rv q
 | next =>
   obtain⟨σ',H',J,q⟩:=hs;exact bB (v:=V.non) (u:=Value.none) J rfl q
 | brk =>
   obtain⟨_,_,_,q⟩:=hs;exact False.elim q
 | cont =>
   obtain⟨_,_,_,q⟩:=hs;exact False.elim q
end L2
namespace L2
open PySem PySem.Spec PyProof.Rows
section
variable {X : Cx}{x : Str}{p pos : Pos}{e : qw}{es : List qw}{t : TA}{id T : String}{r : List V -> Hp -> VK -> Prop}
def uS(r:List V->Hp->VK->Prop)(t:TA):TE:=λ σ H Q=>t σ H λ vs H1=>r vs H1 Q
theorem jM(hc:cF X (.builtin id) r)(hg:Gl X x)(hm:X.mg x=qz)(hv:zk x=qq (.builtin id))(ha:PA X (e::es) t)(hn:x ≠ "__name__":=by decide)(hdb:(x==("__debug__" : Str))=false:=by decide)
 (he:zj (e::es) X.env=(false,eval e X.env)::zj es X.env:=by rfl) (hpl:(backTo pos (zj es X.env)).any (·.1)=false:=by rfl):PE X (.Call (.Name x p) (e::es) [] pos) (uS r t):=by
 intro aA s σ H Q I h;refine jq (sD I hg hm hv ?_ hn hdb);exact PyProof.Rows.callWith_builtin1 (aU (ha pos aA s σ H _ I h) λ us s1 ⟨vs,H1,I1,r1,q1⟩=>hc aA s1 σ H1 vs us Q I1 r1 q1) he hpl
theorem rJ(hc:cF X (.type T) r)(hg:Gl X x)(hm:X.mg x=qz)(hv:zk x=qq (.type T))(ha:PA X (e::es) t)(hn:x ≠ "__name__":=by decide)(hdb:(x==("__debug__" : Str))=false:=by decide)
 (he:zj (e::es) X.env=(false,eval e X.env)::zj es X.env:=by rfl) (hpl:(backTo pos (zj es X.env)).any (·.1)=false:=by rfl):PE X (.Call (.Name x p) (e::es) [] pos) (uS r t):=by
 intro aA s σ H Q I h;refine jq (sD I hg hm hv ?_ hn hdb);exact yDa (aU (ha pos aA s σ H _ I h) λ us s1 ⟨vs,H1,I1,r1,q1⟩=>hc aA s1 σ H1 vs us Q I1 r1 q1) he hpl
end
end L2
namespace HT
open PySem PyProof.Rows
section
open PySem.SeqAt
open PySem.AutoSeq1 (wpAny_loadPart')
open PySem.MeetsSeq PySem.MeetsSeq2 PySem.MeetsSeq3
end
section
variable {prog : zq}{w : zx}{A : zv}{E : qx -> qj -> Prop}{s : qj}
theorem cat_tup{t b:qv}{vs ws:List qx}{Q:qx->qj->Prop}(ht:IsTup s.heap t vs.toArray)(hb:IsTup s.heap b ws.toArray)(hv:vs≠[])
 (h1:ws=[]->Q (.ref t) s) (h2:ws≠[]->Q (.ref s.heap.objs.size) {s with heap:=s.heap.push {cls:=.type "tuple",data:=.seq (vs++ws).toArray } })
 (hsz:vs.length+ws.length<=qk):qu (model prog w) A (zu .Add (.ref t) (.ref b)) Q E s:=by
 obtain⟨⟨cls,dd,data,sl⟩,ho,hc,n,hd⟩:=id ht;obtain⟨⟨cls2,dd2,data2,sl2⟩,ho2,hc2,n2,hd2⟩:=id hb;simp only at hc hd hc2 hd2;subst hc hd hc2 hd2;have e:vs.toArray++ws.toArray=(vs++ws).toArray:=by simp
 by_cases hw:ws=[]
 ·exact concat_meets ⟨_,ho,rfl⟩ ⟨_,ho2,rfl⟩ noFill_tuple_add seq_tuple_add yEb yDv (yDq _ _)
   (tuple_addW1 t b vs.toArray ws.toArray n n2 dd dd2 sl sl2 (by simpa using hv) (by simp[hw])) ⟨ho,ho2,h1 hw⟩
 ·refine concat_meets ⟨_,ho,rfl⟩ ⟨_,ho2,rfl⟩ noFill_tuple_add seq_tuple_add yEb yDv (yDq _ _)
   (tuple_addW2 t b vs.toArray ws.toArray n n2 dd dd2 sl sl2 (by simpa using hv) (by simpa using hw) (by rw[yAf,yAf];exact hsz)) ⟨ho,ho2,?_⟩
  rw[e];exact h2 hw
noncomputable def sIx(n d:Nat):Option Int->Nat
 | none=>d
 | some v=>if v<0 then (v+(n:Int)).toNat else min v.toNat n
theorem sIx_none(n d:Nat):sIx n d qz=d:=rfl
theorem sIx_nat(n d k:Nat):sIx n d (qq (k:Int))=min k n:=by
 show(if (k:Int)<0 then ((k:Int)+(n:Int)).toNat else min (k:Int).toNat n)=min k n
 rw[if_neg (by omega),yBo]
theorem aOf(n d:Nat)(hd:d<=n)(o:Option Int):sIx n d o<=n:=by
 cases o with
 | none=>exact hd
 | some v =>
   show(if v<0 then (v+(n:Int)).toNat else min v.toNat n)<=n
   by_cases hv:v<0
   ·rw[if_pos hv];omega
   ·rw[if_neg hv];exact Nat.min_le_right _ _
theorem aEG(v:Int)(n d:Nat):(if v<0 then max (v+(n:Int)) 0 else min v (n:Int))=((sIx n d (qq v):Nat):Int):=by
 show(if v<0 then max (v+(n:Int)) 0 else min v (n:Int))=(((if v<0 then (v+(n:Int)).toNat else min v.toNat n):Nat):Int)
 by_cases hv:v<0
 ·simp only[if_pos hv];omega
 ·simp only[if_neg hv];omega
theorem aIi(lo hi:Option Int)(n:Nat):yDn lo hi 1 (n:Int)=(((sIx n 0 lo:Nat):Int),((sIx n n hi:Nat):Int)):=by
 have h1:¬ ((1:Int)<0):=by omega
 unfold yDn;simp only[h1,if_false];refine Prod.ext ?_ ?_
 ·cases lo with
  | none=>rfl
  | some v=>exact aEG v n 0
 ·cases hi with
  | none=>rfl
  | some v=>exact aEG v n n
theorem aIl(i j:Nat):yCk (i:Int) (j:Int) 1=j-i:=by
 unfold yCk;have h1:(1:Int)>0:=by omega
 simp only[h1,if_true,Int.ediv_one]
 split<;>omega
theorem aCP{v:qx}{o:Option Int}{Q:Option Int->qj->Prop}(p:IsPart v o)(h:Q o s):qu (model prog w) A (Builtin.Slice.slicePartIndex v) Q E s:=by
 cases p with
 | none=>exact slicePart_none h
 | int i t=>exact slicePart_int h
theorem sliceApplied_gen{sl:qv}{vl vu:qx}{lo hi:Option Int}{n:Nat}{Q:Int×Int×Nat->qj->Prop}(hs:s.heap.IsSliceOf sl vl vu .none)(pl:IsPart vl lo)(pu:IsPart vu hi)
 (h:Q (((sIx n 0 lo:Nat):Int),1,sIx n n hi-sIx n 0 lo) s):qu (model prog w) A (yFc (.ref sl) (pure (n:Int))) Q E s:=by
 obtain⟨os,hos,hcs,hds⟩:=id hs;unfold yFc Builtin.Slice.sliceFields;refine wB (wB (xy hos hds (x:=vl) rfl (wB (xy hos hds (x:=vu) rfl (wB (xy hos hds (x:=.none) rfl (wP ?_)))))));refine wB (slicePart_none ?_);show qu _ _ (if ((1:Int)==0)=true then _ else _) _ _ s
 rw[if_neg (by decide)]
 refine wB (aCP pl (wB (aCP pu (wB (wP ?_)))));show qu _ _ (match yDn lo hi 1 (n:Int) with | (lo,hi)=>pure (lo,(1:Int),yCk lo hi 1)) _ _ s
 rw[aIi lo hi n];show qu _ _ (pure (((sIx n 0 lo:Nat):Int),(1:Int),yCk ((sIx n 0 lo:Nat):Int) ((sIx n n hi:Nat):Int) 1)) _ _ s;rw[aIl];exact wP h
theorem aJo(xs:Array qx)(i k:Nat):((yAx k).filterMap λ(m:Nat)=>xs[((i:Int)+(m:Int)*1).toNat]?).toArray=((xs.toList.drop i).take k).toArray:=by
 have e:(λ(m:Nat)=>xs[((i:Int)+(m:Int)*1).toNat]?)=λ m=>xs[i+m]?:=by
  funext m
  have:((i:Int)+(m:Int)*1).toNat=i+m:=by omega
  rw[this]
 rw[e];have:=pick_run xs i k;rw[List.filterMap_map] at this;have e2:((λ x=>xs[x]?) ∘ λ x=>i+x)=λ m=>xs[i+m]?:=rfl
 rw[e2] at this;rw[this]
theorem getItem_tuple_cut{t sl:qv}{aM:Array qx}{vl vu:qx}{lo hi:Option Int}{Q:qx->qj->Prop}(ht:IsTup s.heap t aM)(hs:s.heap.IsSliceOf sl vl vu .none)(pl:IsPart vl lo)(pu:IsPart vu hi)
 (hw:¬ (sIx aM.size 0 lo=0/\sIx aM.size aM.size hi=aM.size))
 (h:Q (.ref s.heap.objs.size) {s with heap:=s.heap.push {cls:=.type "tuple",data:=.seq ((aM.toList.drop (sIx aM.size 0 lo)).take (sIx aM.size aM.size hi-sIx aM.size 0 lo)).toArray } })
 (hsz:aM.size<=qk):qu (model prog w) A (getItem (.ref t) (.ref sl)) Q E s:=by
 have htake:sizeOk (.seq ((aM.toList.drop (sIx aM.size 0 lo)).take (sIx aM.size aM.size hi-sIx aM.size 0 lo)).toArray):=by
  show((aM.toList.drop (sIx aM.size 0 lo)).take (sIx aM.size aM.size hi-sIx aM.size 0 lo)).toArray.size<=qk;rw[yAf,yBf,yFp,yAk];omega
 have hj:sIx aM.size aM.size hi<=aM.size:=aOf _ _ (yAe _) hi;obtain⟨os,hos,hcs,hds⟩:=id hs;have hTs:s.TypeIs (.ref sl) "slice":=⟨os,hos,hcs⟩;unfold getItem
 try with_reducible refine xq ?_
 first | refine wB (wP ?_) | skip
 refine wB (wpAny_sequenceKey ht.typeIs (by decide) ?_)
 refine wB (wpAny_callSpecial?_slot (name:=Str.ofString "__getitem__") ht.typeIs yBv
  (vq yBv ht.typeIs entry_tuple_getitem ?_ (args_tuple_getitem _ _)))
 show qu _ _ (yFd (.ref t) >>= _) _ _ s;refine wB (tupleItemsOf_ ht ?_);refine wB (wpAny_typeOf hTs ?_);rw[if_pos (by decide)]
 refine wB (sliceApplied_gen hs pl pu ?_);have hno:¬ ((((sIx aM.size 0 lo:Nat):Int)==0&&(1:Int)==1&&(sIx aM.size aM.size hi-sIx aM.size 0 lo)==aM.size)=true):=by
  intro q;rw[yBi,yBi] at q;have q1:((sIx aM.size 0 lo:Nat):Int)=0:=eq_of_beq q.1.1;have q2:sIx aM.size aM.size hi-sIx aM.size 0 lo=aM.size:=eq_of_beq q.2;exact hw ⟨by omega,by omega⟩
 show qu _ _ (if (((sIx aM.size 0 lo:Nat):Int)==0&&(1:Int)==1&&(sIx aM.size aM.size hi-sIx aM.size 0 lo)==aM.size)=true then _ else _) _ _ s
 rw[if_neg hno,aJo]
 first
  | exact wB (m:=yCb _) (xu (wP ⟨_,rfl,wP h⟩) htake)
  | exact wB (m:=yCb _) (xu (wB (wP (wP ⟨_,rfl,wP h⟩))) htake)
  | exact wB (wB (m:=yCb _) (xu (wP (wP ⟨_,rfl,wP h⟩)) htake))
  | exact wB (wB (m:=yCb _) (xu (wP ⟨_,rfl,wP h⟩) htake))
end
end HT
namespace L2
open PySem PySem.Spec PyProof.Rows
abbrev TO:=St->Hp->(Option Int->Hp->Prop)->Prop
def PO(X:Cx)(e:Option qw)(t:TO):Prop:=
 ∀ (aA:List (qv×Obj)) (s:qj) (σ:St) (H:Hp) (Q:Option Int->Hp->Prop),Inv X aA σ H s->t σ H Q ->
  qu (model X.prog X.w) X.A (evalPart e X.env) (λ u s'=>∃ o H',Inv X aA σ H' s'/\IsPart u o/\Q o H') X.xe s
def aKB:TO:=λ _ H Q=>Q qz H
def aOT(t:TE):TO:=λ σ H Q=>t σ H λ x H1=>∃ i,x=.int i/\Q (qq i) H1
section
variable {X : Cx}{e : qw}{te : TE}{lo hi : Option qw}{tl th : TO}{pos p2 : Pos}
theorem aKk:PO X qz aKB:=by
 intro aA s σ H Q I h;rw[evalPart_none];exact wP ⟨qz,H,I,.none,h⟩
theorem aLu(h:PE X e te):PO X (qq e) (aOT te):=by
 intro aA s σ H Q I hw;rw[evalPart_some];refine aU (h aA s σ H _ I hw) λ u s1 hPq26=>?_
 obtain⟨x,H1,I1,r1,q1⟩:=hPq26;obtain⟨i,rfl,q⟩:=q1;obtain⟨t,rfl⟩:=r1;exact⟨qq i,H1,I1,.int i t,q⟩
def lK(X:Cx)(r:V->Option Int->Option Int->Hp->VK->Prop):Prop:=
 ∀ (aA:List (qv×Obj)) (s:qj) (σ:St) (H:Hp) (x:V) (v vl vu:qx) (lo hi:Option Int) (sl:qv) (Q:VK),Inv X aA σ H s->aT x v->s.heap.IsSliceOf sl vl vu .none->IsPart vl lo->IsPart vu hi->r x lo hi H Q ->
  ∃ T id,typeLookup (.type T) "__getitem__" = pure (qq (.builtin id))/\s.TypeIs v T/\qu (model X.prog X.w) X.A (getItem v (.ref sl)) (EP X aA σ Q) X.xe s
theorem lK.or{r r':V->Option Int->Option Int->Hp->VK->Prop}(h:lK X r)(h':lK X r'):lK X (λ x lo hi H Q=>r x lo hi H Q\/r' x lo hi H Q):=by
 intro aA s σ H x v vl vu lo hi sl Q I rx hs pl pu q;rcases q with q | q
 ·exact h aA s σ H x v vl vu lo hi sl Q I rx hs pl pu q
 ·exact h' aA s σ H x v vl vu lo hi sl Q I rx hs pl pu q
def tSl(r:V->Option Int->Option Int->Hp->VK->Prop)(te:TE)(tl th:TO):TE:=λ σ H Q=>te σ H λ x H1=>tl σ H1 λ l H2=>th σ H2 λ u H3=>r x l u H3 Q
theorem aAJ{r:V->Option Int->Option Int->Hp->VK->Prop}(hr:lK X r)(he:PE X e te)(hl:PO X lo tl)(hu:PO X hi th):PE X (.Subscript e (.Slice lo hi qz p2) pos) (tSl r te tl th):=by
 intro aA s σ H Q I h;refine Subscript_ (aU (he aA s σ H _ I h) λ v s1 hPq27=>?_)
 obtain⟨x,H1,I1,r1,q1⟩:=hPq27;refine wpAny_Slice (aU (hl aA s1 σ H1 _ I1 q1) λ vl s2 ⟨l,H2,I2,pl,q2⟩=>aU (hu aA s2 σ H2 _ I2 q2) λ vu s3 hPq28=>?_)
 obtain⟨u,H3,I3,pu,q3⟩:=hPq28;rw[evalPart_none];refine wP ?_;have I4:Inv X aA σ H3 {s3 with heap:=s3.heap.push {cls:=.type "slice",data:=.fields #[vl,vu,.none] } }:=I3.kept (t':=s3.toks) λ b ob q=>hpS _ q
 obtain⟨T,id,hT,ht,hg⟩:=hr aA {s3 with heap:=s3.heap.push {cls:=.type "slice",data:=.fields #[vl,vu,.none] } } σ H3 x v vl vu l u s3.heap.objs.size Q I4 r1 (Heap.IsSliceOf.new ..) pl pu q3
 show qu (model X.prog X.w) X.A (subscriptTail e (.Slice lo hi qz p2) v (.ref s3.heap.objs.size)) (EP X aA σ Q) X.xe {s3 with heap:=s3.heap.push {cls:=.type "slice",data:=.fields #[vl,vu,.none] } }
 exact tail_any (ops:=[.ref s3.heap.objs.size,v]) ht hT hg (by with_unfolding_all rfl)
noncomputable def lI(xs:List V)(lo hi:Option Int):List V:=(xs.drop (HT.sIx xs.length 0 lo)).take (HT.sIx xs.length xs.length hi-HT.sIx xs.length 0 lo)
theorem aCK(xs:List V)(lo hi:Option Int):(lI xs lo hi).length<=xs.length:=by
 unfold lI;rw[yBf,yFp];omega
noncomputable def aP0(K:FrG):V->Option Int->Option Int->Hp->VK->Prop:=λ x lo hi H Q=>∃ a xs,x=.ref a/\bM K H a xs /\
 ¬ (HT.sIx xs.length 0 lo=0/\HT.sIx xs.length xs.length hi=xs.length)/\∀ p,H p=qz->Q (.ref p) (aQ H p (.tup (lI xs lo hi)))
theorem aMk:lK X (aP0 X.K):=by
 intro aA s σ H x v vl vu lo hi sl Q I rx hs pl pu h;obtain⟨a,xs,rfl,hx,hw,q⟩:=h;cases rx;obtain⟨its,r,ht,hz⟩:=I.tuple hx;have bW:its.toArray.size=xs.length:=by rw[yAf];exact r.length.symm
 refine⟨"tuple",_,PyProof.Rows.slot_tuple_getitem.lookup,ht.typeIs,?_⟩;refine HT.getItem_tuple_cut ht hs pl pu (by rw[bW];exact hw) ?_ (by rw[bW];exact hz)
 rw[bW];refine⟨.ref s.heap.objs.size,_,I.laid (t':=s.toks) (o:=.tup (lI xs lo hi)) (λ b ob q=>hpS _ q) (yAe _) ?_,rfl,q _ (I.hok.fresh (yAe _))⟩
 exact⟨xAg (aCK xs lo hi) hz,_,(r.drop (HT.sIx xs.length 0 lo)).take (HT.sIx xs.length xs.length hi-HT.sIx xs.length 0 lo),IsTup.new _ _⟩
noncomputable def aOq(K:FrG):R2:=λ x y H Q=>∃ a b xs ys,x=.ref a/\y=.ref b/\bM K H a xs/\bM K H b ys/\xs≠[]/\xs.length+ys.length<=qk /\
 (ys=[]->Q (.ref a) H)/\(ys≠[]->∀ p,H p=qz->Q (.ref p) (aQ H p (.tup (xs++ys))))
theorem aO.nil_iff{xs:List V}{us:List qx}(r:aO xs us):us=[] ↔ xs=[]:=by
 cases r with
 | nil=>simp
 | cons _ _=>simp
theorem aLt:bS X (zu .Add) (aOq X.K):=by
 intro aA s σ H x y v u Q I rx ry h;obtain⟨a,b,xs,ys,rfl,rfl,ha,hb,hx,hz,q1,q2⟩:=h;cases rx;cases ry;obtain⟨its,r1,p1,_⟩:=I.tuple ha;obtain⟨rC,r2,p2,_⟩:=I.tuple hb;refine HT.cat_tup p1 p2 (λ z=>hx (r1.nil_iff.mp z)) (λ z=>⟨.ref a,H,I,rfl,q1 (r2.nil_iff.mp z)⟩) (λ z=>?_) (by rw[<- r1.length,<- r2.length];exact hz)
 refine⟨.ref s.heap.objs.size,_,I.laid (t':=s.toks) (o:=.tup (xs++ys)) (λ b ob q=>hpS _ q) (yAe _) ?_,rfl,q2 (λ w=>z (r2.nil_iff.mpr w)) _ (I.hok.fresh (yAe _))⟩
 exact⟨by rw[yAp];exact hz,_,r1.append r2,IsTup.new _ _⟩
end
end L2
namespace L2
open PySem PySem.Spec PyProof.Rows
noncomputable def gL(n:Nat)(i:Int):Option Nat:=if 0<=i then (if i<n then qq i.toNat else qz) else if -(n:Int)<=i then qq (i+n).toNat else qz
noncomputable def hB{α:Type}(xs:List α)(i:Int):Option α:=(gL xs.length i).bind λ j=>xs[j]?
theorem aEQ{n:Nat}{i:Int}{j:Nat}(h:gL n i=qq j):seqIndex? i n=qq j/\j<n /\ -(n:Int)<=i/\i<n:=by
 unfold gL at h
 by_cases h0:0<=i
 ·rw[if_pos h0] at h
  by_cases h1:i<n
  ·rw[if_pos h1] at h;have e:i.toNat=j:=Option.some.inj h;exact⟨by rw[seqIndex_of h0 h1,e],by omega,by omega,h1⟩
  ·rw[if_neg h1] at h;cases h
 ·rw[if_neg h0] at h
  by_cases h1 : -(n:Int)<=i
  ·rw[if_pos h1] at h;have e:(i+n).toNat=j:=Option.some.inj h;exact⟨by rw[seqIndex_neg (by omega) h1,e],by omega,h1,by omega⟩
  ·rw[if_neg h1] at h;cases h
theorem aA0{α:Type}{xs:List α}{i:Int}{v:α}(h:hB xs i=qq v):∃ j,seqIndex? i xs.length=qq j/\xs[j]? = qq v/\j<xs.length /\ -(xs.length:Int)<=i/\i<xs.length:=by
 unfold hB at h;cases e:gL xs.length i with
 | none=>rw[e] at h;cases h
 | some j =>
   rw[e] at h;obtain⟨h1,h2,h3,h4⟩:=aEQ e;exact⟨j,h1,h,h2,h3,h4⟩
def vW(b:qw):Prop:=∀ o i,subscripted b false o i=operate [o,i] (getItem o i)
def kN(X:Cx)(r:R2):Prop:=
 ∀ (value slice:qw) (aA:List (qv×Obj)) (s:qj) (σ:St) (H:Hp) (x y:V) (v u:qx) (Q:VK),Inv X aA σ H s->aT x v->aT y u->r x y H Q ->
  subscripted slice false v u=operate [v,u] (getItem v u)->qu (model X.prog X.w) X.A (subscriptTail value slice v u) (EP X aA σ Q) X.xe s
def uN(X:Cx)(id:String)(r:V->List V->Hp->VK->Prop):Prop:=
 ∀ (aA:List (qv×Obj)) (s:qj) (σ:St) (H:Hp) (x:V) (xs:List V) (v:qx) (us:List qx) (Q:VK),Inv X aA σ H s->aT x v->aO xs us->r x xs H Q ->
  qu (model X.prog X.w) X.A (call (.builtin id) (v::us)) (EP X aA σ Q) X.xe s
section
variable {X : Cx}{a b : qw}{ta tb : TE}{pos : Pos}
theorem kN.or{r r':R2}(h:kN X r)(h':kN X r'):kN X (λ x y H Q=>r x y H Q\/r' x y H Q):=by
 intro value slice aA s σ H x y v u Q I rx ry q hs;rcases q with q | q
 ·exact h value slice aA s σ H x y v u Q I rx ry q hs
 ·exact h' value slice aA s σ H x y v u Q I rx ry q hs
theorem uN.or{id:String}{r r':V->List V->Hp->VK->Prop}(h:uN X id r)(h':uN X id r'):uN X id (λ x xs H Q=>r x xs H Q\/r' x xs H Q):=by
 intro aA s σ H x xs v us Q I rx rs q;rcases q with q | q
 ·exact h aA s σ H x xs v us Q I rx rs q
 ·exact h' aA s σ H x xs v us Q I rx rs q
theorem aGj{r:R2}(hr:kN X r)(ha:PE X a ta)(hb:PE X b tb)(hs:vW b):PE X (.Subscript a b pos) (uO r ta tb):=by
 intro aA s σ H Q I h;exact Subscript_ (aBF ha hb I h λ v u s2 x y H2 I2 rx ry q=>hr a b aA s2 σ H2 x y v u Q I2 rx ry q (hs _ _))
noncomputable def aP2(K:FrG):R2:=λ x y H Q=>∃ p xs i v,x=.ref p/\y=.int i/\bJ K H p xs/\hB xs i=qq v/\Q v H
noncomputable def aQx(K:FrG):R2:=λ x y H Q=>∃ p xs i v,x=.ref p/\y=.int i/\bM K H p xs/\hB xs i=qq v/\Q v H
noncomputable def aP7:R2:=λ x y H Q=>∃ z i c,x=.str z/\y=.int i/\z.length<=qk/\hB z.cps.toList i=qq c/\Q (.str ⟨#[c]⟩) H
theorem aKQ:kN X (aP2 X.K):=by
 intro value slice aA s σ H x y v u Q I rx ry h hs;obtain⟨p,xs,i,z,rfl,rfl,hq,he,q⟩:=h;cases rx;obtain⟨t,rfl⟩:=ry;obtain⟨its,r,pl,hz⟩:=I.list hq;obtain⟨j,h1,h2,h3,h4,h5⟩:=aA0 he;obtain⟨w,ew,rw'⟩:=r.get h2;have hl:=r.length;have hn:=nQ;have bB:EP X aA σ Q w s:=⟨z,H,I,rw',q⟩
 by_cases h0:0<=i
 ·have hj:i.toNat=j:=by
   rw[seqIndex_of h0 h5] at h1;exact Option.some.inj h1
  exact item_listR pl.isList h0 (by omega) (by rw[hj];simpa using ew) bB hs
 ·have hj:(i+(its.toArray.size:Int)).toNat=j:=by
   rw[seqIndex_neg (by omega) h4] at h1
   rw[yAf,<- hl];exact Option.some.inj h1
  exact subscriptTail_builtinR (x:=w) pl.isList.typeIs slot_list_getitem.lookup
   (wpAny_getItem_list_neg (Q:=λ r s'=>r=w/\EP X aA σ Q r s') pl.isList (by omega) (by rw[yAf]<;>omega) (by omega) (by rw[hj];simpa using ew) ⟨rfl,bB⟩) hs
theorem aMb:kN X (aQx X.K):=by
 intro value slice aA s σ H x y v u Q I rx ry h hs;obtain⟨p,xs,i,z,rfl,rfl,hq,he,q⟩:=h;cases rx;obtain⟨t,rfl⟩:=ry;obtain⟨its,r,pl,hz⟩:=I.tuple hq;obtain⟨j,h1,h2,h3,h4,h5⟩:=aA0 he;obtain⟨w,ew,rw'⟩:=r.get h2;have hl:=r.length;have hn:=nQ;have bB:EP X aA σ Q w s:=⟨z,H,I,rw',q⟩;exact subscriptTail_builtinR (x:=w) pl.typeIs slot_tuple_getitem.lookup
  (getItem_tuple (j:=j) (Q:=λ r s'=>r=w/\EP X aA σ Q r s') pl (by omega) (by omega) (by rw[yAf,<- hl];exact h1) (by simpa using ew) ⟨rfl,bB⟩) hs
theorem aME:kN X aP7:=by
 intro value slice aA s σ H x y v u Q I rx ry h hs;obtain⟨z,i,c,rfl,rfl,hz,he,q⟩:=h;obtain⟨t,rfl⟩:=rx;obtain⟨t',rfl⟩:=ry;obtain⟨j,h1,h2,h3,h4,h5⟩:=aA0 he;have hl:z.cps.toList.length=z.length:=by simp[Str.length]
 rw[hl] at h1 h4 h5;have hn:=nQ;exact tail_any (typeIs_str s z t) slot_str_getitem.lookup (getItem_str (c:=c) (by
  have e1:decide (i < -(2^63:Int))=false:=dqF (by omega)
  have e2:decide (i ≥ 2^63)=false:=dqF (by omega)
  rw[e1,e2,Bool.or_false]) (by rw[h1];simpa using h2) ⟨.str ⟨#[c]⟩,H,I.tok _,⟨_,rfl⟩,q⟩) hs
theorem aIe(its:List qx)(n j:Nat)(u:qx):Obj.mapSeq (·.setIfInBounds j u) {cls:=.type "list",data:=.seq its.toArray n }={cls:=.type "list",data:=.seq (its.set j u).toArray n }:=by
 simp[Obj.mapSeq]
theorem Inv.lst{aA:List (qv×Obj)}{σ:St}{H:Hp}{s:qj}{p:qv}{xs:List V}(I:Inv X aA σ H s)(h:H p=qq (.lst xs)) :
 ∃ (its:List qx) (n:Nat),aO xs its/\s.heap.get? p=qq {cls:=.type "list",data:=.seq its.toArray n }/\xs.length<=qk:=by
 obtain⟨z,its,n,r,e⟩:=I.hok p _ h;exact⟨its,n,r,e,z⟩
theorem Inv.lstUpd{aA:List (qv×Obj)}{σ:St}{H:Hp}{s:qj}{p:qv}{xs ys:List V}{its its':List qx}{n n':Nat}{f:Obj->Obj}(I:Inv X aA σ H s)(h:H p=qq (.lst xs))
 (ho:s.heap.get? p=qq {cls:=.type "list",data:=.seq its.toArray n }) (hf:f {cls:=.type "list",data:=.seq its.toArray n }={cls:=.type "list",data:=.seq its'.toArray n' }) (r:aO ys its') (hz:ys.length<=qk) (t:Nat) :
 Inv X aA σ (aQ H p (.lst ys)) {s with heap:=s.heap.update p f,toks:=t }:=by
 have e:(s.heap.update p f).get? p=qq {cls:=.type "list",data:=.seq its'.toArray n' }:=by
  rw[yBy f ho (by rw[hf]<;>rfl),hf]
 refine I.write (x:=p) (e:=p) (by rw[h];trivial) (.inl rfl) (λ b u hb q=>(yBm _ _ (Ne.symm hb)).trans q) ⟨_,e⟩ ?_
 exact⟨hz,its',n',r,e⟩
noncomputable def aGd:V->V->V->Hp->(Hp->Prop)->Prop:=λ o i v H Q=>∃ p xs k j,o=.ref p/\i=.int k/\H p=qq (.lst xs)/\gL xs.length k=qq j/\Q (aQ H p (.lst (xs.set j v)))
theorem aJx:aGJ X aGd:=by
 intro aA s σ H o i v ov iv u Q I ro ri rv h;obtain⟨p,xs,k,j,rfl,rfl,hp,hj,q⟩:=h;cases ro;obtain⟨t,rfl⟩:=ri;obtain⟨its,n,r,ho,hz⟩:=I.lst hp;obtain⟨h1,h2,h3,h4⟩:=aEQ hj;have hl:=r.length;have hn:=nQ;have I':Inv X aA σ (aQ H p (.lst (xs.set j v))) {s with heap:=s.heap.update p (Obj.mapSeq (·.setIfInBounds j u)) }:=
  I.lstUpd hp ho (aIe its n j u) (r.set rv j) (by rw[yAq];exact hz) s.toks
 by_cases h0:0<=k
 ·have hk:k.toNat=j:=by
   rw[seqIndex_of h0 h4] at h1;exact Option.some.inj h1
  exact PySem.W.ki_setAt ho h0 (by omega) (by rw[yAf,<- hl];exact h4) (by rw[hk];exact⟨_,I',q⟩)
 ·have hk:(k+(its.toArray.size:Int)).toNat=j:=by
   rw[seqIndex_neg (by omega) h3] at h1
   rw[yAf,<- hl];exact Option.some.inj h1
  exact PySem.W.ki_setBack ho (by omega) (by rw[yAf,<- hl];exact h3) (by omega) (by rw[hk];exact⟨_,I',q⟩)
theorem aHF(lo hi:Option Int)(n:Nat):(vk lo hi qz n).1=((HT.sIx n 0 lo:Nat):Int)/\(vk lo hi qz n).2.1=((HT.sIx n n hi:Nat):Int)/\(vk lo hi qz n).2.2=1:=by
 refine⟨?_,?_,rfl⟩
 ·cases lo with
  | none=>simp[vk,HT.sIx]
  | some i =>
    simp only[vk,HT.sIx,yEo,show(1:Int)>0 by decide,if_true]
    by_cases h:i<0
    ·simp only[h,if_true]<;>omega
    ·simp only[h,if_false]<;>omega
 ·cases hi with
  | none=>simp[vk,HT.sIx]
  | some i =>
    simp only[vk,HT.sIx,yEo,show(1:Int)>0 by decide,if_true]
    by_cases h:i<0
    ·simp only[h,if_true]<;>omega
    ·simp only[h,if_false]<;>omega
theorem aHt(its:List qx)(lo hi:Option Int):slicePick its.toArray lo hi qz=((its.drop (HT.sIx its.length 0 lo)).take (HT.sIx its.length its.length hi-HT.sIx its.length 0 lo)).toArray:=by
 obtain⟨h1,h2,h3⟩:=aHF lo hi its.toArray.size;unfold slicePick;rw[h1,h2,h3];simp only[sliceRange_one,pick_run,yAf]<;>rfl
noncomputable def aQv(K:FrG):V->Option Int->Option Int->Hp->VK->Prop:=λ x lo hi H Q=>∃ a xs,x=.ref a/\bJ K H a xs/\∀ p,H p=qz->Q (.ref p) (aQ H p (.lst (lI xs lo hi)))
theorem aLl:lK X (aQv X.K):=by
 intro aA s σ H x v vl vu lo hi sl Q I rx hs pl pu h;obtain⟨a,xs,rfl,hx,q⟩:=h;cases rx;obtain⟨its,r,ht,hz⟩:=I.list hx;have bW:=r.length;refine⟨"list",_,slot_list_getitem.lookup,ht.isList.typeIs,?_⟩;refine wpAny_getItem_list_slice ht.isList hs pl pu .none (by simp) ?_ (by rw[yAf]<;>omega)
 rw[aHt,<- bW];refine⟨.ref s.heap.objs.size,_,I.laid (t':=s.toks) (o:=.lst (lI xs lo hi)) (λ b ob q=>hpS _ q) (yAe _) ?_,rfl,q _ (I.hok.fresh (yAe _))⟩
 exact⟨xAg (aCK xs lo hi) hz,_,0,(r.drop (HT.sIx xs.length 0 lo)).take (HT.sIx xs.length xs.length hi-HT.sIx xs.length 0 lo),xAe _ rfl⟩
noncomputable def jY:V->Bool
 | .non=>true
 | .bl _=>true
 | .int _=>true
 | .str _=>true
 | _=>false
noncomputable def lP:V->V->Bool
 | .non,.non=>true
 | .bl a,.bl b=>a==b
 | .bl a,.int b=>(if a then 1 else 0)==b
 | .int a,.bl b=>a==(if b then 1 else 0)
 | .int a,.int b=>a==b
 | .str a,.str b=>a==b
 | _,_=>false
theorem aNC{A:zv}{s:qj}{y x:V}{u v:qx}(ry:aT y u)(rx:aT x v)(fy:jY y=true)(fx:jY x=true):SeqAt.EqAt A s u v (lP y x):=by
 cases y with
 | non =>
   cases ry;cases x with
   | non=>cases rx;exact SeqAt.EqAt.same _
   | bl b=>cases rx;exact SeqAt.EqAt.none_bool b
   | int b=>obtain⟨t,rfl⟩:=rx;exact SeqAt.EqAt.none_int b t
   | str b=>obtain⟨t,rfl⟩:=rx;exact SeqAt.EqAt.none_str b t
   | _=>exact absurd (show false=true from fx) yAt
 | bl a =>
   cases ry;cases x with
   | non=>cases rx;exact SeqAt.EqAt.bool_none a
   | bl b=>cases rx;exact SeqAt.EqAt.bool_bool a b
   | int b=>obtain⟨t,rfl⟩:=rx;exact SeqAt.EqAt.bool_int a b t
   | str b=>obtain⟨t,rfl⟩:=rx;exact SeqAt.EqAt.bool_str a b t
   | _=>exact absurd (show false=true from fx) yAt
 | int a =>
   obtain⟨t',rfl⟩:=ry;cases x with
   | non=>cases rx;exact SeqAt.EqAt.int_none a t'
   | bl b=>cases rx;exact SeqAt.EqAt.int_bool a t' b
   | int b=>obtain⟨t,rfl⟩:=rx;exact SeqAt.EqAt.int_int a t' b t
   | str b=>obtain⟨t,rfl⟩:=rx;exact SeqAt.EqAt.int_str a t' b t
   | _=>exact absurd (show false=true from fx) yAt
 | str a =>
   obtain⟨t',rfl⟩:=ry;cases x with
   | non=>cases rx;exact SeqAt.EqAt.str_none a t'
   | bl b=>cases rx;exact SeqAt.EqAt.str_bool a t' b
   | int b=>obtain⟨t,rfl⟩:=rx;exact SeqAt.EqAt.str_int a t' b t
   | str b=>obtain⟨t,rfl⟩:=rx;exact SeqAt.EqAt.str_str a t' b t
   | _=>exact absurd (show false=true from fx) yAt
 | _=>exact absurd (show false=true from fy) yAt
noncomputable def gB(x:V)(u:qx):Bool:=match u with
 | .none=>lP .non x
 | .bool b=>lP (.bl b) x
 | .int i _=>lP (.int i) x
 | .str z _=>lP (.str z) x
 | _=>false
theorem aFm{x y:V}{u:qx}(r:aT y u)(f:jY y=true):gB x u=lP y x:=by
 cases y with
 | non=>cases r;rfl
 | bl b=>cases r;rfl
 | int i=>obtain⟨t,rfl⟩:=r;rfl
 | str z=>obtain⟨t,rfl⟩:=r;rfl
 | _=>exact absurd (show false=true from f) yAt
theorem rV{x:V}:∀ {xs:List V}{us:List qx},aO xs us->xs.all jY=true->us.any (gB x)=xs.any λ y=>lP y x
 | _,_,.nil,_=>rfl
 | y::xs,u::us,.cons r t,f=>by
   rw[yDw,yBi] at f;rw[yEu,yEu,aFm r f.1,rV t f.2]
theorem rO{A:zv}{s:qj}{x:V}{v:qx}(rx:aT x v)(fx:jY x=true):∀ {xs:List V}{us:List qx},aO xs us->xs.all jY=true->∀ u∈us,SeqAt.EqAt A s u v (gB x u)
 | _,_,.nil,_=>λ u hu=>by cases hu
 | y::xs,u::us,.cons r t,f=>λ u' hu=>by
   rw[yDw,yBi] at f;rcases List.mem_cons.mp hu with rfl | hu
   ·rw[aFm r f.1];exact aNC r rx f.1 fx
   ·exact rO rx fx t f.2 u' hu
noncomputable def qU(x:V)(xs:List V):Bool:=xs.any λ y=>lP y x
noncomputable def rIn(K:FrG)(neg:Bool):R2:=λ x y H Q=>∃ p xs,y=.ref p/\(bJ K H p xs\/bM K H p xs)/\jY x=true/\xs.all jY=true/\Q (.bl (if neg then !qU x xs else qU x xs)) H
theorem aI7:bS X (zo .In) (rIn X.K false):=by
 intro aA s σ H x y v u Q I rx ry h;obtain⟨p,xs,rfl,hq,fx,fs,q⟩:=h;cases ry;rcases hq with hq | hq
 ·obtain⟨its,r,pl,hz⟩:=I.list hq;refine SeqAt.in_listAt (gB x) pl.isList (λ w hw=>rO rx fx r fs w (by simpa using hw)) ⟨.bl _,H,I,rfl,?_⟩
  rw[show its.toArray.any (gB x)=its.any (gB x) by simp,rV r fs]
  exact q
 ·obtain⟨its,r,pl,hz⟩:=I.tuple hq;refine SeqAt.in_tupleAt (gB x) pl (λ w hw=>rO rx fx r fs w (by simpa using hw)) ⟨.bl _,H,I,rfl,?_⟩
  rw[show its.toArray.any (gB x)=its.any (gB x) by simp,rV r fs]
  exact q
theorem aHy:bS X (zo .NotIn) (rIn X.K true):=by
 intro aA s σ H x y v u Q I rx ry h;obtain⟨p,xs,rfl,hq,fx,fs,q⟩:=h;cases ry;rcases hq with hq | hq
 ·obtain⟨its,r,pl,hz⟩:=I.list hq;refine SeqAt.notIn_listAt (gB x) pl.isList (λ w hw=>rO rx fx r fs w (by simpa using hw)) ⟨.bl _,H,I,rfl,?_⟩
  rw[show its.toArray.any (gB x)=its.any (gB x) by simp,rV r fs]
  exact q
 ·obtain⟨its,r,pl,hz⟩:=I.tuple hq;refine SeqAt.notIn_tupleAt (gB x) pl (λ w hw=>rO rx fx r fs w (by simpa using hw)) ⟨.bl _,H,I,rfl,?_⟩
  rw[show its.toArray.any (gB x)=its.any (gB x) by simp,rV r fs]
  exact q
theorem aCB:cF X (.builtin "len") (λ xs H Q=>∃ p ys,xs=[.ref p]/\(bJ X.K H p ys\/bM X.K H p ys)/\Q (.int ys.length) H):=by
 intro aA s σ H xs us Q I r h;obtain⟨p,ys,rfl,hq,q⟩:=h;obtain⟨u,rfl,rx⟩:=fB r;cases rx;have hn:=nQ;rcases hq with hq | hq
 ·obtain⟨its,r',pl,hz⟩:=I.list hq;have bW:=r'.length;exact Calls.call_len_list pl.isList (by simp only[yAf]<;>omega) ⟨.int ys.length,H,I.tok _,⟨s.toks+1,by rw[yAf,bW]⟩,q⟩
 ·obtain⟨its,r',pl,hz⟩:=I.tuple hq;have bW:=r'.length;exact len_tuple pl (by simp only[yAf]<;>omega) ⟨.int ys.length,H,I.tok _,⟨s.toks+1,by rw[yAf,bW]⟩,q⟩
theorem aHH:cF X (.builtin "len") (λ xs H Q=>∃ z,xs=[.str z]/\z.length<=qk/\Q (.int z.length) H):=by
 intro aA s σ H xs us Q I r h;obtain⟨z,rfl,hz,q⟩:=h;obtain⟨u,rfl,t,rfl⟩:=fB r;have hn:=nQ;exact len_str (by omega) ⟨.int z.length,H,I.tok _,⟨_,rfl⟩,q⟩
theorem cF.or{f:qx}{r r':List V->Hp->VK->Prop}(h:cF X f r)(h':cF X f r'):cF X f (λ xs H Q=>r xs H Q\/r' xs H Q):=by
 intro aA s σ H xs us Q I rs q;rcases q with q | q
 ·exact h aA s σ H xs us Q I rs q
 ·exact h' aA s σ H xs us Q I rs q
theorem aHz:cF X (.type "list") (λ xs H Q=>∃ p ys,xs=[.ref p]/\(bJ X.K H p ys\/bM X.K H p ys)/\∀ l,H l=qz->Q (.ref l) (aQ H l (.lst ys))):=by
 intro aA s σ H xs us Q I r h;obtain⟨p,ys,rfl,hq,q⟩:=h;obtain⟨u,rfl,rx⟩:=fB r;cases rx;have bB:∀ (its:List qx),aO ys its->ys.length<=qk->∀ (h':Heap) (c':Nat),(∀ b o',s.heap.get? b=qq o'->h'.get? b=qq o') ->
  h'.get? s.heap.objs.size=qq {cls:=.type "list",dict:=qz,data:=.seq its.toArray c',slots:=#[] }->EP X aA σ Q (.ref s.heap.objs.size) {s with heap:=h' }:=λ its r' hz h' c' kp e =>
  ⟨.ref s.heap.objs.size,_,I.laid (t':=s.toks) kp (yAe _) (show fA X.prog X.w _ h' _ (.lst ys) from ⟨hz,its,c',r',e⟩),rfl,q _ (I.hok.fresh (yAe _))⟩
 rcases hq with hq | hq
 ·obtain⟨its,r',pl,hz⟩:=I.list hq;have bW:=r'.length;obtain⟨o,ho,hc,n,hd⟩:=pl.isList;exact call_list_seq p (.inl rfl) ho hc hd (λ h' c' kp e=>bB its r' hz h' c' kp e) (by simp only[yAf]<;>omega)
 ·obtain⟨its,r',pl,hz⟩:=I.tuple hq;have bW:=r'.length;obtain⟨o,ho,hc,n,hd⟩:=pl;exact call_list_seq p (.inr rfl) ho hc hd (λ h' c' kp e=>bB its r' hz h' c' kp e) (by simp only[yAf]<;>omega)
theorem aCy:cF X (.type "tuple") (λ xs H Q=>∃ p ys,xs=[.ref p]/\((bJ X.K H p ys/\∀ l,H l=qz->Q (.ref l) (aQ H l (.tup ys)))\/(bM X.K H p ys/\Q (.ref p) H))):=by
 intro aA s σ H xs us Q I r h;obtain⟨p,ys,rfl,h⟩:=h;obtain⟨u,rfl,rx⟩:=fB r;cases rx;rcases h with ⟨hq,q⟩ | ⟨hq,q⟩
 ·obtain⟨its,r',pl,hz⟩:=I.list hq;have bW:=r'.length;refine call_tuple_list pl.isList (λ h' kp=>?_) (by simp only[yAf]<;>omega)
  have I1:Inv X aA σ H {s with heap:=h' }:=I.kept (t':=s.toks) kp
  have I2:Inv X aA σ (aQ H h'.objs.size (.tup ys)) {s with heap:=h'.push {cls:=.type "tuple",data:=.seq its.toArray } }:=
   I1.laid (t':=s.toks) (λ b o e=>hpS _ e) (yAe _) (show fA X.prog X.w _ _ _ (.tup ys) from ⟨hz,its,r',IsTup.new _ _⟩)
  exact⟨.ref h'.objs.size,_,I2,rfl,q _ (I1.hok.fresh (yAe _))⟩
 ·obtain⟨its,r',pl,hz⟩:=I.tuple hq;exact call_tuple_same pl ⟨.ref p,H,I,rfl,q⟩
def tyV(K:FrG)(T:String)(x:V)(H:Hp):Prop:=match x with
 | .str _=>T = "str"
 | .int _=>T = "int"
 | .ref p=>(T = "list" /\ ∃ xs,bJ K H p xs)\/(T = "tuple" /\ ∃ o,K.lookup p=qq o/\o.cls=.type "tuple" /\ o.dict=qz) \/
    (T = "dict" /\ ((∃ aI,H p=qq (.dK aI))\/∃ aI,H p=qq (.dT aI)))\/(T = "set" /\ ∃ S n,H p=qq (.set S n))
 | _=>False
theorem aMV{aA:List (qv×Obj)}{σ:St}{H:Hp}{s:qj}{T:String}{x:V}{v:qx}(I:Inv X aA σ H s)(r:aT x v)(ty:tyV X.K T x H) :
 s.TypeIs v T/\∀ a,v=.ref a->∃ ob,s.heap.get? a=qq ob/\ob.dict=qz:=by
 cases x with
 | str z =>
   obtain⟨t,rfl⟩:=r;cases (show T = "str" from ty)
   exact⟨typeIs_str s z t,λ _ e=>nomatch e⟩
 | int i =>
   obtain⟨t,rfl⟩:=r;cases (show T = "int" from ty)
   exact⟨yv s i t,λ _ e=>nomatch e⟩
 | ref p =>
   cases r;rcases ty with ⟨rfl,xs,hq⟩ | ⟨rfl,o,hk,hc,hd⟩ | ⟨rfl,hk⟩ | ⟨rfl,S,n,hk⟩
   ·obtain⟨its,_,pl,_⟩:=I.list hq;refine⟨pl.isList.typeIs,λ a e=>?_⟩
    cases e;obtain⟨o,n,e,c,hd,_⟩:=pl;exact⟨o,e,hd⟩
   ·refine⟨⟨o,I.kIn p o hk,hc⟩,λ a e=>?_⟩
    cases e;exact⟨o,I.kIn _ o hk,hd⟩
   ·have z:∃ o,s.heap.get? p=qq o/\o.ExactDict:=by
     rcases hk with ⟨aI,hk⟩ | ⟨aI,hk⟩
     ·obtain⟨_,_,_,_,o,_,_,e,ex,_⟩:=I.hok p _ hk;exact⟨o,e,ex⟩
     ·obtain⟨_,_,_,_,o,_,_,e,ex,_⟩:=I.hok p _ hk;exact⟨o,e,ex⟩
    obtain⟨o,e,ex⟩:=z;refine⟨⟨o,e,ex.1⟩,λ a e2=>?_⟩
    cases e2;exact⟨o,e,ex.2.1⟩
   ·obtain⟨o,_,_,_,e,ex,_⟩:=I.hok p _ hk;refine⟨⟨o,e,ex.1⟩,λ a e2=>?_⟩
    cases e2;exact⟨o,e,ex.2.1⟩
 | _=>exact False.elim ty
def zD(K:FrG)(T:String)(r:V->List V->Hp->VK->Prop)(to:TE)(t:TA):TE:=λ σ H Q=>to σ H λ x H1=>tyV K T x H1/\t σ H1 λ xs H2=>r x xs H2 Q
variable {o e : qw}{es : List qw}{to : TE}{t : TA}{name : Str}{apos cpos : Pos}{T id : String}{r : V -> List V -> Hp -> VK -> Prop}
theorem xF(pa:PlainAttrs T)(slot:Slot T name id)(hty:typeOf (.builtin id)=pure (.type "method_descriptor"))(hm:uN X id r)(ho:PE X o to)(ha:PA X (e::es) t)
 (hbase:attributeBase o name X.env (eval o X.env)=eval o X.env:=by rfl)
 (hfew:((backTo cpos (zj (e::es) X.env)).all (λ x=>!x.1)&&(backToKw cpos (keywordEach [] X.env)).all (λ x=>x.1.isSome)
   && decide ((e::es).length+([]:List Keyword).length+(if ([]:List Keyword).isEmpty then 0 else 1)<30))=true:=by rfl)
 (hline:(apos.endLine==cpos.line)=true:=by rfl) (hs:zj (e::es) X.env=(false,eval e X.env)::zj es X.env:=by rfl) (hplain:(backTo cpos (zj es X.env)).any (·.1)=false:=by rfl) :
 PE X (.Call (.Attribute o name apos) (e::es) [] cpos) (zD X.K T r to t):=by
 intro aA s σ H Q I h;refine wpAny_Call_method_late hbase hfew hline rfl (aU (ho aA s σ H _ I h) λ v s1 hPq29=>?_)
 obtain⟨x,H1,I1,r1,ty,q1⟩:=hPq29;obtain⟨h1,h2⟩:=aMV I1 r1 ty;refine⟨T,id,pa,slot,hty,h1,h2,?_⟩;have hA:=ha cpos aA s1 σ H1 _ I1 q1;rw[hs] at hA ⊢;refine Calls.callWith_builtin (by show(false||(backTo cpos (zj es X.env)).any (·.1))=false;rw[hplain]<;>rfl) (Calls.evalArgs_plain ?_)
 exact aU hA λ us s2 ⟨vs,H2,I2,r2,q2⟩=>hm aA s2 σ H2 x vs v us Q I2 r1 r2 q2
end
end L2
namespace L2
open PySem PySem.Spec PyProof.Rows
def MtM(X:Cx)(id:String)(r:V->List V->Hp->VK->Prop):Prop:=
 ∀ (aA:List (qv×Obj)) (s:qj) (σ:St) (H:Hp) (x:V) (xs:List V) (v:qx) (us:List qx) (Q:VK),Inv X aA σ H s->aT x v->aO xs us->r x xs H Q ->
  qu (model X.prog X.w) X.A (call (.builtin id) (v::us)) (EP X aA σ Q) X.xe s
theorem aO.one:∀ {x:V}{us:List qx},aO [x] us->∃ u,us=[u]/\aT x u
 | _,_,.cons r .nil=>⟨_,rfl,r⟩
theorem aO.two:∀ {x y:V}{us:List qx},aO [x,y] us->∃ u v,us=[u,v]/\aT x u/\aT y v
 | _,_,_,.cons r (.cons q .nil)=>⟨_,_,rfl,r,q⟩
theorem aO.zero:∀ {us:List qx},aO [] us->us=[]
 | _,.nil=>rfl
theorem aO.dropLast{xs:List V}{us:List qx}(h:aO xs us):aO xs.dropLast us.dropLast:=by
 induction h with
 | nil=>exact .nil
 | cons r t ih =>
   cases t with
   | nil=>exact .nil
   | cons q t'=>exact .cons r ih
theorem aO.reverse{xs:List V}{us:List qx}(h:aO xs us):aO xs.reverse us.reverse:=by
 induction h with
 | nil=>exact .nil
 | cons r t ih=>rw[yEe,yEe];exact aO.append ih (.cons r .nil)
theorem aO.rep{xs:List V}{us:List qx}(h:aO xs us):∀ k:Nat,aO (yAg k xs).flatten (yAg k us).flatten
 | 0=>.nil
 | k+1=>by
   rw[yBb,yBb,yCo,yCo];exact aO.append h (aO.rep h k)
theorem vL(its:List qx):∀ (k:Nat) (aG:List qx),
 List.foldl (λ x1 x2=>x1++x2) aG.toArray (yAg k its.toArray)=(aG++(yAg k its).flatten).toArray
 | 0,aG=>by simp
 | k+1,aG=>by
   have e:aG.toArray++its.toArray=(aG++its).toArray:=by simp
   have e2:(aG++its)++(yAg k its).flatten=aG++(yAg (k+1) its).flatten:=by
    rw[yBb,yCo,yCp]
   rw[<- e2,<- vL its k (aG++its),<- e,yBb,yAm]
section
variable {X : Cx}{aA : List (qv×Obj)}{σ : St}{H : Hp}{s : qj}{l b : qv}{xs ys zs : List V}
theorem Inv.lset{its its':List qx}{n:Nat}{f:Array qx->Array qx}{t':Nat}(I:Inv X aA σ H s)(hH:H l=qq (.lst xs))
 (e:s.heap.get? l=qq {cls:=.type "list",data:=.seq its.toArray n }) (hf:f its.toArray=its'.toArray) (hv:aO ys its') (hz:ys.length<=qk) :
 Inv X aA σ (aQ H l (.lst ys)) {s with heap:=s.heap.update l (Obj.mapSeq f),toks:=t' }:=by
 have q:=PySem.IsL.update e f;rw[hf] at q;refine I.write (x:=l) (e:=l) (by rw[hH];exact trivial) (.inl rfl) (λ b' u hb hu=>(yBm s.heap (Obj.mapSeq f) (Ne.symm hb)).trans hu) ⟨_,q⟩ ?_
 exact⟨hz,its',_,hv,q⟩
theorem Inv.lnew{its:List qx}{t':Nat}(I:Inv X aA σ H s)(hv:aO ys its)(hz:ys.length<=qk) :
 Inv X aA σ (aQ H s.heap.objs.size (.lst ys)) {s with heap:=s.heap.push {cls:=.type "list",data:=.seq its.toArray },toks:=t' }:=
 I.laid (λ _ _ q=>hpS _ q) (yAe _) ⟨hz,its,0,hv,xAe _ rfl⟩
theorem Inv.fresh(I:Inv X aA σ H s):H s.heap.objs.size=qz:=I.hok.fresh (yAe _)
theorem Inv.lstM(I:Inv X aA σ H s)(hH:H l=qq (.lst xs)):xs.length<=qk/\∃ (its:List qx) (n:Nat),aO xs its/\xs.length=its.length/\s.heap.get? l=qq {cls:=.type "list",data:=.seq its.toArray n }:=by
 obtain⟨z,its,n,r,e⟩:=I.hok l _ hH;exact⟨z,its,n,r,r.length,e⟩
end
section
variable {X : Cx}
noncomputable def aEA:V->List V->Hp->VK->Prop:=λ x vs H Q=>∃ l xs y,x=.ref l/\vs=[y]/\H l=qq (.lst xs)/\xs.length<qk/\Q .non (aQ H l (.lst (xs++[y])))
theorem aAi:MtM X "list.append" aEA:=by
 intro aA s σ H x vs v us Q I rx rv h;obtain⟨l,xs,y,rfl,rfl,hH,hz,q⟩:=h;cases rx;obtain⟨u,rfl,ru⟩:=rv.one;obtain⟨z,its,n,r,hl,e⟩:=I.lstM hH;refine jk F.slot_list_append ⟨_,e,rfl⟩ F.entry_list_append (F.args_list_append_2 _ _) (PySem.list_append l its.toArray n u (by rw[yAf];omega)) ⟨e,?_⟩
 refine⟨.non,_,I.lset (its':=its++[u]) hH e (by simp) (r.append (.cons ru .nil)) ?_,rfl,q⟩
 rw[yAp,List.length_singleton];omega
theorem aKM{α:Type}(xs:List α)(k:Nat):(yAg k xs).flatten.length=k*xs.length:=by
 induction k with
 | zero=>simp
 | succ k ih=>rw[yBb,yCo,yAp,ih,Nat.succ_mul,Nat.add_comm]
end
section
variable {prog : zq}{w : zx}{A : zv}{E : qx -> qj -> Prop}{s : qj}
end
section
variable {X : Cx}
end
end L2
namespace Att
open PySem PySem.W PySem.Calls PyProof.Rows
theorem aHm{P:Params}{h:Heap}:∀ (ns:List Int) (vs:List qx),WellAll P h vs (ns.map WData.int)->IntsAre vs ns:=by
 intro ns
 induction ns with
 | nil =>
   intro vs w;rw[yCg] at w;cases w;exact .nil
 | cons n ns ih =>
   intro vs w;rw[yAi] at w;cases w with
   | cons a b =>
     cases a;exact .cons _ _ (ih _ b)
theorem script_of{l:OpenLaw}{n:Nat}(hn:l.most=qq n){P:Params}{h:Heap}{args:List WData}{vals:List qx}
 (hpre:l.row.toRowW.claim.pre args=true) (hwl:WellAll P h vals args) :
 ∃ a vs ns,vals=[Value.ref a]/\args=[WData.list (ns.map WData.int)]/\h.get? a=qq {cls:=.type "list",data:=.seq vs.toArray }/\IntsAre vs ns/\ns.length<=n:=by
 have hsh:WShape.hasAll [] args [.list .int]=true:=(pre_splitW hpre).1;have hc:l.pre.holds [] {args:=args }=true:=(pre_splitW hpre).2;obtain⟨d,r,rfl,h1,h2⟩:=hasAllW_cons hsh;obtain rfl:=hasAllW_nil h2;obtain⟨xs,rfl,h3⟩:=hasW_list h1;obtain⟨ns,rfl⟩:=items_int h3;have bW:ns.length<=n:=by
  unfold OpenLaw.pre at hc;have h4:(WTm.not (.lt (.lit (.int (n:Int))) (.len (.arg 0)))).holds [] {args:=[.list (ns.map .int)] }=true:=by
   have h4:=(holds_andW hc).1;rw[hn] at h4;exact h4
  have h5:=condW_of h4 (w_not (w_lt w_lit (w_len_list (w_arg rfl))));rw[yAb] at h5;refine yEp λ q=>?_
  have q':(n:Int)<((ns.length:Nat):Int):=by omega
  first
   | (rw[dqT q'] at h5;exact absurd h5 (by decide))
   | (simp at h5;omega)
 cases hwl with
 | cons w1 w2 =>
   cases w2;cases w1 with
   | list ho hall=>exact⟨_,_,ns,rfl,rfl,ho,aHm ns _ hall,bW⟩
theorem post_true(l:OpenLaw)(args:List WData):l.row.toRowW.claim.post args (.bool true) args=true:=
 postW_of (r:=l.row.toRowW) (X:=(true==true))
  (show WShape.has [] (.bool true) .bool=true by first | rfl | decide | simp[WShape.has,WShape.arms,WShape.armsAll])
  (show(WTm.eq .res (.lit (.bool true))).value [] {args:=args,res:=qq (.bool true),after:=args }=qq (.bool (true==true)) from w_eq_bool (w_res rfl) w_lit) rfl
theorem attach_call{l:OpenLaw}{n:Nat}{q:zq}{loose:List Str}{XP:(Str->Option qx)->Heap->Prop}{YP:zx->Heap->Prop}{d:DefRec}
 (hn:l.most=qq n) (hdf:d.params.defaults=[])
 (call:∀ (w:zx) (s₀ s₁:qj) (mg mb:Str->Option qx) (fa:qv) (o:Obj) (pm cd doc:qx) (a:qv) (vs:List qx) (ns:List Int),
   Ground q loose [] XP w s₀ mg mb s₁.heap->YP w s₁.heap ->
   s₁.heap.get? fa=qq o->o.data=.func (docDef d.name d.params d.body d.scope pm cd doc)->s₁.heap.CodeRec cd d.name->mg d.name=qq (.ref fa) ->
   s₁.heap.get? a=qq {cls:=.type "list",data:=.seq vs.toArray }->IntsAre vs ns->ns.length<=n->s₁.gens = #[] ->
   vo (model l.prog w) callerA (.call (.ref fa) ⟨[.ref a],[]⟩) (λ r s'=>r=.ok (.ret (.bool true))/\OldK s₁.heap s'.heap/\s'.os=s₁.os/\AllBare s'.gens) s₁) :
 WalkO q loose XP YP l.row.toRowW d [] (λ f vs=>PySem.call f vs):=by
 intro w s₀ s₁ mg mb G Y fa o pm cd doc dV kV ho hd hcd hD hmg hg args vals as hpre hlay hrd hwl hlo;obtain rfl:dV=.none:=Dflts.none hD hdf;obtain rfl:kV=.none:=Dflts.noKw hD;obtain⟨a,vs,ns,rfl,rfl,hobj,hints,bW⟩:=script_of hn hpre hwl;refine enter_call (codeAny_mono (call w s₀ s₁ mg mb fa o pm cd doc a vs ns G Y ho (fd_plain hd) hcd hmg hobj hints bW hg) λ r s' hq=>?_)
 obtain⟨rfl,h2,h3,h4⟩:=hq;exact⟨.inl ⟨.bool true,.bool true,[],rfl,λ _=>rfl,.bool true,post_true l _,λ _=>⟨List.Pairwise.nil,λ _ hm=>(nomatch hm)⟩⟩,h2,h3,h4⟩
section
variable {prog : zq}{w : zx}{A : zv}{E : qx -> qj -> Prop}{s : qj}{K : Frag}
noncomputable def aQ3(h:Heap)(L d:qv):List (qv×Obj):=(yAx h.objs.size).filterMap λ a=>if a=L\/a=d then qz else (h.get? a).map λ o=>(a,o)
end
end Att
namespace L2
open PySem PySem.Spec PyProof.Rows
theorem aC1:∀ {vs:List qx}{ns:List Int},IntsAre vs ns->aO (ns.map V.int) vs
 | _,_,.nil=>.nil
 | _,_,.cons n t h=>.cons ⟨t,rfl⟩ (aC1 h)
def aBA(H:Hp):Prop:=∀ b,H b=qz\/∃ o xs,H b=qq (.frz o (.lst xs))
theorem law_call{P:zq}{w:zx}{K:FrG}{mg mb:Str->Option qx}{CX:gZ}{k:Nat}{fa a:qv}{fd:jz}{x:Str}{sp:Sp}{s₁:qj}{vs:List qx}{ns:List Int}
 (KX:K.In s₁.heap) (hns:s₁.heap.Ns qy mg) (hb:s₁.heap.Ns builtinsNs mb) (hbb:∀ x:Str,x ≠ "__name__" -> mb x=zk x) (hlim:s₁.heap.NoLimit) (hg:s₁.gens = #[])
 (ha:s₁.heap.get? a=qq {cls:=.type "list",data:=.seq vs.toArray }) (hi:IntsAre vs ns) (hl:ns.length<=qk) (hr:Room k callerA)
 (F:∀ base:Heap,K.In base->base.Ns qy mg->FnOk P w K mg base CX k fa fd [x] sp) (hbind:∀ (s:qj) (u:qx),BindsTo s fd ⟨[u],[]⟩ [(x,u)])
 (hsp:∀ H:Hp,aBA H->bJ K H a (ns.map V.int)->sp [.ref a] H (λ v _=>v=.bl true) λ _ _ _=>False)
 (hCX:∀ H e s',CX [] H s₁ (λ _ _ _=>False) e s'->False) :
 vo (model P w) callerA (.call (.ref fa) ⟨[.ref a],[]⟩) (λ r s'=>r=.ok (.ret (.bool true))/\OldK s₁.heap s'.heap/\s'.os=s₁.os/\AllBare s'.gens) s₁:=by
 have rv:=aC1 hi;have lenV:=hi.length;have core:∀ H:Hp,aBA H->bJ K H a (ns.map V.int)->cO P w H s₁.heap->(∀ b,H b≠qz->b=a)->(H a≠qz->K.lookup a=qz) ->
  vo (model P w) callerA (.call (.ref fa) ⟨[.ref a],[]⟩) (λ r s'=>r=.ok (.ret (.bool true))/\OldK s₁.heap s'.heap/\s'.os=s₁.os/\AllBare s'.gens) s₁:=by
  intro H hO hS hok hA hK;have lV:∀ {b:qv}{o:Obj},s₁.heap.get? b=qq o->H b=qz->(lG s₁.heap H).get? b=qq o:=λ e n=>aJG e n
  have noA:∀ {b:qv}{o:Obj}{es:Array DictEntry}{ep:Nat},s₁.heap.get? b=qq o->o.data=.dict es ep->H b=qz:=λ {b o es ep} e d=>by
   cases q:H b with
   | none=>rfl
   | some u =>
     have e':b=a:=hA b (by rw[q];simp)
     subst e';rw[ha] at e;cases e;have d':Data.seq vs.toArray _=Data.dict es ep:=d;cases d'
  have nsK:∀ {b:qv}{m:Str->Option qx},s₁.heap.Ns b m->(lG s₁.heap H).Ns b m:=λ {b m} ⟨o,es,ep,e,d,r⟩=>⟨o,es,ep,lV e (noA e d),d,r⟩
  have hKb:K.In (lG s₁.heap H):=λ b o e=>lV (KX b o e) (by
   cases q:H b with
   | none=>rfl
   | some u =>
     have e':b=a:=hA b (by rw[q];simp)
     subst e';rw[hK (by rw[q];simp)] at e;cases e)
  have hM:Mod K mg (lG s₁.heap H):=⟨hKb,nsK hns,⟨mb,nsK hb,hbb⟩,let ⟨mc,h1,h2⟩:=hlim;⟨mc,nsK h1,h2⟩⟩;have e0:Env0 P w K mg (lG s₁.heap H) callerA [] s₁ H:=⟨rfl,hM,λ b o e=>aLz e,yEl (aIo _ _),trivial,λ b hb=>absurd (show b∈([]:List qv) from hb) (by simp),hok,.of_eq hg⟩
  refine codeAny_mono ((F _ hKb (nsK hns)).run callerA [] s₁ H ⟨[.ref a],[]⟩ [.ref a] [.ref a] _ _ hr e0 (hbind s₁ (.ref a)) (.cons rfl .nil) (hsp H hO hS)) λ r s' h=>?_
  cases r with
  | error e=>exact(hCX H e s' h).elim
  | ok fl =>
    cases fl with
    | next=>exact False.elim h
    | brk=>exact False.elim h
    | cont=>exact False.elim h
    | ret u =>
      obtain⟨v,H',os,bare,un,hok',r',q⟩:=h;have q':v=.bl true:=q;subst q';obtain rfl:u=Value.bool true:=r';refine⟨rfl,OldK.of_keep λ b o e=>?_,os,bare⟩
      cases q:H b with
      | none=>exact un.keep b o e q (by intro z;exact absurd (show b∈([]:List qv) from z) (by simp)) (by simp)
      | some u =>
        rcases hO b with z | ⟨ob,xs,z⟩
        ·rw[q] at z;cases z
        ·have z2:=un.frzs b ob _ z;obtain⟨e1,_⟩:=hok b _ z;obtain⟨e2,_⟩:=hok' b _ z2;rw[e] at e1;cases e1;exact e2
 cases hk:K.lookup a with
 | some o =>
   have e:=KX a o hk;rw[ha] at e;cases e;refine core (λ _=>qz) (λ _=>.inl rfl) (.inr ⟨_,vs.toArray,_,hk,rfl,rfl,rfl,by rw[yAf,lenV];exact hl,by simpa using rv⟩) (λ b u z=>by have z':(qz:Option HO)=qq u:=z;cases z') (λ b z=>absurd rfl z) λ z=>absurd rfl z
 | none =>
   refine core (λ b=>if b=a then qq (.frz {cls:=.type "list",data:=.seq vs.toArray } (.lst (ns.map V.int))) else qz) (λ b=>?_) (.inl (.inr ⟨{cls:=.type "list",data:=.seq vs.toArray },if_pos rfl⟩)) (λ b u z=>?_) (λ b z=>?_) λ _=>hk
   ·by_cases hb:b=a
    ·exact .inr ⟨_,_,if_pos hb⟩
    ·exact .inl (if_neg hb)
   ·by_cases hb:b=a
    ·have z':=(if_pos hb).symm.trans z;cases z';subst hb;exact⟨ha,by rw[yAb];exact hl,vs,_,rv,ha⟩
    ·have z':=(if_neg hb).symm.trans z;cases z'
   ·by_cases hb:b=a
    ·exact hb
    ·exact absurd (if_neg hb) z
end L2
namespace L2
open PySem PySem.Spec PyProof.Rows
noncomputable abbrev KOf{K:FrG}{h:Heap}(_:K.In h):FrG:=K
theorem aQ1{l:yFs}{n k:Nat}{q:zq}{loose:List Str}{XP:(Str->Option qx)->Heap->Prop}{YP:zx->Heap->Prop}{d:DefRec}{K:Params->FrG}{CX:zx->gZ}{sp:zx->Sp}{x:Str}
 (hn:l.most=qq n) (hn2:n<=qk) (hdf:d.params.defaults=[]) (hr:Room k callerA)
 (hY:∀ (w:zx) (h:Heap),YP w h->(K w.params).In h)
 (F:∀ (w:zx) (mg:Str->Option qx) (fa:qv) (h:Heap),(K w.params).In h->h.Ns qy mg->mg d.name=qq (.ref fa) ->
   ∃ fd:jz,(∀ (s:qj) (u:qx),BindsTo s fd ⟨[u],[]⟩ [(x,u)]) /\
    ∀ base:Heap,(K w.params).In base->base.Ns qy mg->FnOk l.prog w (K w.params) mg base (CX w) k fa fd [x] (sp w))
 (hsp:∀ (w:zx) (H:Hp) (a:qv) (ns:List Int),ns.length<=n->aBA H->bJ (K w.params) H a (ns.map V.int)->sp w [.ref a] H (λ v _=>v=.bl true) λ _ _ _=>False)
 (hCX:∀ (w:zx) (H:Hp) (s:qj) (e:qx) (s':qj),CX w [] H s (λ _ _ _=>False) e s'->False) :
 PySem.W.WalkO q loose XP YP l.row.toRowW d [] (λ f vs=>PySem.call f vs):=by
 refine Att.attach_call hn hdf λ w s₀ s₁ mg mb fa o pm cd doc a vs ns G Y ho hd hcd hmg hobj hints bW hg=>?_
 have KX:=hY w _ Y;obtain⟨fd,hb,hF⟩:=F w mg fa _ KX G.T.g hmg;exact law_call KX G.T.g G.T.b G.T.builtins G.T.nolimit hg hobj hints (xAg bW hn2) hr hF hb (λ H hO hS=>hsp w H a ns bW hO hS) λ H e s'=>hCX w H s₁ e s'
end L2
namespace L2
open PySem PySem.Spec PyProof.Rows
noncomputable def rY(s:zy)(j:Nat):zy:=match s with
 | .ClassDef _ _ _ body _ _ _ _ _ _ _=>body.getD j (.Pass ⟨0,0,0,0⟩)
 | _=>.Pass ⟨0,0,0,0⟩
noncomputable def gP(s:zy):Arguments:=match s with
 | .FunctionDef _ a _ _ _ _ _ _ _ _=>a
 | _=>{posonlyargs:=[],args:=[],vararg:=qz,kwonlyargs:=[],kw_defaults:=[],kwarg:=qz,defaults:=[] }
noncomputable def dX(s:zy):List zy:=match s with
 | .FunctionDef _ _ b _ _ _ _ _ _ _=>b
 | _=>[]
noncomputable def bI(s:zy):zw:=match s with
 | .FunctionDef _ _ _ _ _ _ sc _ _ _=>sc
 | _=>{kind:=.function,names:=[],isGenerator:=false,isCoroutine:=false }
noncomputable abbrev fJ:gZ:=λ _ _ _ _ _ _=>False
noncomputable abbrev E0:XK:=λ _ _ _=>False
theorem aFM{X:Cx}:vZ fJ X E0:=λ _ _ _ _ _ _ _ h=>h.elim
structure Fun(K:FrG)(x bF:Str)(st:zy)(f:qv)(fd:jz):Prop where
 ex:∃ (oc:qx) (od:Option qv) (kV doc pm:qx) (an:Option qv) (cdv ct:qx) (osl:Array (Option qx)),
  fd=yBx x bF (gP st) (dX st) (bI st) .none kV doc pm an cdv ct/\K.lookup f=qq ⟨oc,od,.func fd,osl⟩/\yDm K cdv bF=true
 kp:yBq K (.ref f)=true
section
variable {P : zq}{w : zx}{K : FrG}{mg : Str -> Option qx}{base : Heap}
theorem Fun.ok{x bF:Str}{st:zy}{f:qv}{fd:jz}{N ps:List Str}{k:Nat}{sp:Sp}(F:Fun K x bF st f fd)(S:FnScope N ps (bI st))(len:∀ vs H Q E,sp vs H Q E->vs.length=ps.length)
 (hbody:∀ (cdv:qx) (A:zv) (outer:List Env) (s:qj) (H:Hp) (vs:List V) (Q:VK) (E:XK),Room k (A.deeper (envOfC bF (bI st) s.heap.objs.size f cdv))->sp vs H Q E ->
   ∃ t,bN (gW fJ P w K mg base N bF (bI st) f cdv A outer s H E).nox (dX st) t/\t {nx:=λ _ H'=>Q .non H',rt:=Q } (start N vs) H):FnOk P w K mg base fJ (k+1) f fd ps sp:=by
 obtain⟨oc,od,kV,doc,pm,an,cdv,ct,osl,rfl,lk,hcd⟩:=F.ex;refine aGl lk hcd S len λ A outer s H vs Q E hr hsp=>?_
 obtain⟨t,h,q⟩:=hbody cdv A outer s H vs Q E hr hsp;exact⟨t,h.nox,q⟩
theorem Fun.binds{x bF:Str}{st:zy}{f:qv}{fd:jz}{ps:List Str}(F:Fun K x bF st f fd)
 (h:∀ (kV doc pm:qx) (an:Option qv) (cdv ct:qx) (us:List qx),us.length=ps.length->bindArgs (yBx x bF (gP st) (dX st) (bI st) .none kV doc pm an cdv ct) ⟨us,[]⟩=pure (ps.zip us)):dG K fd ps []:=by
 obtain⟨oc,od,kV,doc,pm,an,cdv,ct,osl,rfl,lk,hcd⟩:=F.ex;exact .all (h kV doc pm an cdv ct)
theorem aEU{x bF:Str}{st:zy}{f:qv}{oc:qx}{od an:Option qv}{osl:Array (Option qx)}{kV doc pm cdv ct:qx}(l:K.lookup f=qq ⟨oc,od,.func (yBx x bF (gP st) (dX st) (bI st) .none kV doc pm an cdv ct),osl⟩)
 (c:yDm K cdv bF=true) (k:yBq K (.ref f)=true):Fun K x bF st f (yBx x bF (gP st) (dX st) (bI st) .none kV doc pm an cdv ct):=⟨⟨oc,od,kV,doc,pm,an,cdv,ct,osl,rfl,l,c⟩,k⟩
end
section
variable {X : Cx}
end
theorem oE{A B:Prop}(h:B):if false=true then A else B:=by
 rw[if_neg yAt];exact h
theorem oK{A B:Prop}(h:A):if true=true then A else B:=by
 rw[if_pos rfl];exact h
def bO(H H':Hp):Prop:=∀ b o,H b=qq o->H' b=qq o
theorem bO.refl(H:Hp):bO H H:=λ _ _ h=>h
theorem bO.trans{H H1 H2:Hp}(a:bO H H1)(b:bO H1 H2):bO H H2:=λ c o h=>b c o (a c o h)
theorem bO.free{H H':Hp}(e:bO H H'){l:qv}(h:H' l=Option.none):H l=Option.none:=by
 cases q:H l with
 | none=>rfl
 | some o =>
   rw[e l o q] at h;cases h
theorem bO.seq{K:FrG}{H H':Hp}{a:qv}{xs:List V}(e:bO H H')(h:bJ K H a xs):bJ K H' a xs:=by
 rcases h with (h | ⟨o,h⟩) | h
 ·exact .inl (.inl (e _ _ h))
 ·exact .inl (.inr ⟨o,e _ _ h⟩)
 ·exact .inr h
end L2
set_option maxHeartbeats 4000000
namespace EV
open PySem L2 PySem.Spec PyProof.Rows
abbrev D:=PyData
inductive W where
 | d (x:D) | loc (n:Nat) | exc (c:Str) (r:D)
abbrev aB:=List (Option (List D))
abbrev aS:=List (Option W)
abbrev St:=L2.St
noncomputable def tH(F:Hp)(d:Option qv):D->Prop
 | .none=>d=qz
 | .int i=>∃ dx,d=qq dx/\F dx=qq (.xd [("row",.int i)])
 | _=>False
def iJ(K:FrG)(F:Hp)(a:qv)(c:Str)(r:D):Prop:=∃ C oe,F a=qq (.ext λ h=>h.get? a=qq oe)/\oe.cls=.ref C/\PySem.W.notCls oe=true/\yBz K qy c=qq (qq (.ref C))/\tH F oe.dict r
theorem tH.mono{F F':Hp}(e:bO F F'){d:Option qv}{r:D}(h:tH F d r):tH F' d r:=by
 cases r with
 | none=>exact h
 | int i=>obtain⟨dx,h1,h2⟩:=h;exact⟨dx,h1,e _ _ h2⟩
 | _=>exact h
theorem iJ.mono{K:FrG}{F F':Hp}(e:bO F F'){a:qv}{c:Str}{r:D}(h:iJ K F a c r):iJ K F' a c r:=by
 obtain⟨C,oe,h1,h2,h3,h4,h5⟩:=h;exact⟨C,oe,e _ _ h1,h2,h3,h4,h5.mono e⟩
section
variable (K : FrG)(F : Hp)
mutual
inductive Den:D->V->Prop
 | non:Den .none .non
 | bl (b:Bool):Den (.bool b) (.bl b)
 | int (i:Int):Den (.int i) (.int i)
 | str (x:Str):Den (.str x) (.str x)
 | lst {a:qv}{xs:List V}{ds:List D}:bJ K F a xs->DenL ds xs->Den (.list ds) (.ref a)
 | tup {a:qv}{xs:List V}{ds:List D}:bM K F a xs->DenL ds xs->Den (.tuple ds) (.ref a)
 | exc {a:qv}{c:Str}{r:D}:iJ K F a c r->Den (.dict [(.str c,r)]) (.ref a)
inductive DenL:List D->List V->Prop
 | nil:DenL [] []
 | cons {d:D}{ds:List D}{x:V}{xs:List V}:Den d x->DenL ds xs->DenL (d::ds) (x::xs)
end
end
theorem iE{K:FrG}{H H':Hp}{a:qv}{xs:List V}(e:bO H H')(h:bM K H a xs):bM K H' a xs:=by
 rcases h with (h | ⟨o,h⟩) | h
 ·exact .inl (.inl (e _ _ h))
 ·exact .inl (.inr ⟨o,e _ _ h⟩)
 ·exact .inr h
section
variable {K : FrG}{F F' : Hp}
mutual
theorem Den.mono(e:bO F F'):∀ {d:D}{v:V},Den K F d v->Den K F' d v
 | _,_,.non=>.non
 | _,_,.bl b=>.bl b
 | _,_,.int i=>.int i
 | _,_,.str x=>.str x
 | _,_,.lst h r=>.lst (e.seq h) (DenL.mono e r)
 | _,_,.tup h r=>.tup (iE e h) (DenL.mono e r)
 | _,_,.exc h=>.exc (h.mono e)
theorem DenL.mono(e:bO F F'):∀ {ds:List D}{xs:List V},DenL K F ds xs->DenL K F' ds xs
 | _,_,.nil=>.nil
 | _,_,.cons h r=>.cons (Den.mono e h) (DenL.mono e r)
end
theorem DenL.length:∀ {ds:List D}{xs:List V},DenL K F ds xs->ds.length=xs.length
 | _,_,.nil=>rfl
 | _,_,.cons _ r=>congrArg (· + 1) (DenL.length r)
theorem DenL.get:∀ {ds:List D}{xs:List V}{i:Nat}{d:D},DenL K F ds xs->ds[i]? = qq d->∃ x,xs[i]? = qq x/\Den K F d x
 | _,_,_,_,.nil,e=>by simp at e
 | _,_,0,_,.cons h _,e=>by simp at e;subst e;exact⟨_,rfl,h⟩
 | _,_,i+1,d,.cons _ r,e=>by
   obtain⟨x,h1,h2⟩:=DenL.get (i:=i) (d:=d) r (by simpa using e)
   exact⟨x,by simpa using h1,h2⟩
theorem DenL.append:∀ {ds es:List D}{xs ys:List V},DenL K F ds xs->DenL K F es ys->DenL K F (ds++es) (xs++ys)
 | _,_,_,_,.nil,s=>s
 | _,_,_,_,.cons h r,s=>.cons h (DenL.append r s)
theorem DenL.take:∀ {ds:List D}{xs:List V} (n:Nat),DenL K F ds xs->DenL K F (ds.take n) (xs.take n)
 | _,_,0,_=>.nil
 | _,_,_+1,.nil=>.nil
 | _,_,n+1,.cons h r=>.cons h (DenL.take n r)
theorem DenL.drop:∀ {ds:List D}{xs:List V} (n:Nat),DenL K F ds xs->DenL K F (ds.drop n) (xs.drop n)
 | _,_,0,r=>r
 | _,_,_+1,.nil=>.nil
 | _,_,n+1,.cons _ r=>DenL.drop n r
theorem DenL.set:∀ {ds:List D}{xs:List V} (i:Nat) {d:D}{x:V},DenL K F ds xs->Den K F d x->DenL K F (ds.set i d) (xs.set i x)
 | _,_,_,_,_,.nil,_=>.nil
 | _,_,0,_,_,.cons _ r,h=>.cons h r
 | _,_,i+1,_,_,.cons q r,h=>.cons q (DenL.set i r h)
theorem DenL.reverse:∀ {ds:List D}{xs:List V},DenL K F ds xs->DenL K F ds.reverse xs.reverse
 | _,_,.nil=>.nil
 | _,_,.cons h r=>by
   rw[yEe,yEe];exact DenL.append (DenL.reverse r) (.cons h .nil)
theorem DenL.rep{ds:List D}{xs:List V}(h:DenL K F ds xs):∀ n:Nat,DenL K F (yAg n ds).flatten (yAg n xs).flatten
 | 0=>.nil
 | n+1=>by
   rw[yBb,yBb,yCo,yCo];exact h.append (DenL.rep h n)
theorem DenL.of_ints:∀ (ns:List Int),DenL K F (ns.map yAl) (ns.map V.int)
 | []=>.nil
 | n::r=>.cons (.int n) (DenL.of_ints r)
end
structure Rel(K:FrG)(F:Hp)(L:List qv)(S:aB)(H:Hp):Prop where
 sub:bO F H
 nd:L.Nodup
 len:L.length=S.length
 loc:∀ (n:Nat) (a:qv) (ds:List D),L[n]? = qq a->S[n]? = qq (qq ds)->F a=qz/\∃ xs,H a=qq (.lst xs)/\DenL K F ds xs
 tr:∀ (n:Nat) (a:qv),L[n]? = qq a->∃ xs,H a=qq (.lst xs)
noncomputable def dQ(K:FrG)(F:Hp)(L:List qv):W->V->Prop
 | .d x,v=>Den K F x v
 | .loc n,v=>∃ a,L[n]? = qq a/\v=.ref a
 | .exc c r,v=>∃ a,v=.ref a/\iJ K F a c r
structure EnvR(K:FrG)(F:Hp)(L:List qv)(env:aS)(σ:St):Prop where
 len:env.length=σ.length
 get:∀ (i:Nat) (w:W),env[i]? = qq (qq w)->∃ v,σ[i]? = qq (qq v)/\dQ K F L w v
structure Gr(F:Hp)(L:List qv)(F':Hp)(L':List qv):Prop where
 f:bO F F'
 l:∃ M,L'=L++M
section
variable {K : FrG}{F F' F'' H H' : Hp}{L L' L'' : List qv}{S S' : aB}
theorem Gr.refl:Gr F L F L:=⟨bO.refl _,[],by simp⟩
theorem Gr.trans(a:Gr F L F' L')(b:Gr F' L' F'' L''):Gr F L F'' L'':=by
 obtain⟨f1,M,rfl⟩:=a;obtain⟨f2,N,rfl⟩:=b;exact⟨f1.trans f2,M++N,by rw[yCp]⟩
theorem Gr.get(g:Gr F L F' L'){n:Nat}{a:qv}(h:L[n]? = qq a):L'[n]? = qq a:=by
 obtain⟨_,M,rfl⟩:=g;rw[xAj (gIm h).1];exact h
theorem dQ.mono(g:Gr F L F' L'){w:W}{v:V}(h:dQ K F L w v):dQ K F' L' w v:=by
 cases w with
 | d x=>exact Den.mono g.f h
 | loc n=>obtain⟨a,e,r⟩:=h;exact⟨a,g.get e,r⟩
 | exc c r=>obtain⟨a,e,h⟩:=h;exact⟨a,e,h.mono g.f⟩
theorem EnvR.mono(g:Gr F L F' L'){env:aS}{σ:St}(h:EnvR K F L env σ):EnvR K F' L' env σ:=
 ⟨h.len,λ i w e=>let ⟨v,e1,r⟩:=h.get i w e;⟨v,e1,r.mono g⟩⟩
theorem EnvR.set{env:aS}{σ:St}(h:EnvR K F L env σ)(i:Nat){w:W}{v:V}(r:dQ K F L w v):EnvR K F L (env.set i (qq w)) (σ.set i (qq v)):=by
 refine⟨by rw[yAq,yAq];exact h.len,λ j u e=>?_⟩
 by_cases hj:i=j
 ·subst hj;have hl:i<env.length:=by
   rcases yFg i env.length with q | q
   ·exact q
   ·rw[yDc (by rw[yAq];exact q)] at e;cases e
  rw[yAo hl] at e;cases e;exact⟨v,yAo (by rw[<- h.len];exact hl),r⟩
 ·rw[yAn hj] at e;obtain⟨x,e1,r1⟩:=h.get j u e;exact⟨x,by rw[yAn hj];exact e1,r1⟩
theorem eN{p:qv}{o:HO}(h:H p=qz):bO H (aQ H p o):=λ b u q=>by rw[aW (dO q h)];exact q
theorem Rel.new(r:Rel K F L S H){p:qv}{o:HO}(h:H p=qz):Rel K (aQ F p o) L S (aQ H p o):=by
 have hF:F p=qz:=r.sub.free h;refine⟨λ b u q=>?_,r.nd,r.len,λ n a ds e1 e2=>?_,λ n a e=>?_⟩
 ·by_cases hb:b=p
  ·subst hb;rw[bQ] at q ⊢;exact q
  ·rw[aW hb] at q ⊢;exact r.sub _ _ q
 ·obtain⟨f,xs,e3,dl⟩:=r.loc n a ds e1 e2;have ne:a≠p:=dO e3 h;exact⟨by rw[aW ne];exact f,xs,by rw[aW ne];exact e3,DenL.mono (eN hF) dl⟩
 ·obtain⟨xs,hx⟩:=r.tr n a e;exact⟨xs,by rw[aW (dO hx h)];exact hx⟩
theorem Gr.new{p:qv}{o:HO}(h:F p=qz):Gr F L (aQ F p o) L:=⟨eN h,[],by simp⟩
theorem Rel.newLoc(r:Rel K F L S H){p:qv}{xs:List V}{ds:List D}(h:H p=qz)(dl:DenL K F ds xs):Rel K F (L++[p]) (S++[qq ds]) (aQ H p (.lst xs)):=by
 have hF:F p=qz:=r.sub.free h;refine⟨λ b u q=>?_,?_,by rw[yAp,yAp,r.len]<;>rfl,λ n a es e1 e2=>?_,λ n a e=>?_⟩
 ·rw[aW (dO q hF)];exact r.sub _ _ q
 ·rw[yFl];refine⟨r.nd,by simp,λ a ha b hb=>?_⟩
  rw[yBl] at hb;subst hb;obtain⟨n,hn⟩:=List.getElem?_of_mem ha;obtain⟨xs,hx⟩:=r.tr n a hn;exact dO hx h
 ·by_cases hn:n<L.length
  ·rw[xAj hn] at e1;rw[xAj (by rw[<- r.len];exact hn)] at e2
   obtain⟨f,ys,e3,dl'⟩:=r.loc n a es e1 e2;exact⟨f,ys,by rw[aW (dO e3 h)];exact e3,dl'⟩
  ·rw[yAd (by omega)] at e1
   rw[yAd (by rw[<- r.len];omega)] at e2
   have z:n-L.length=0:=by
    have:=(gIm e1).1;simp at this;omega
   rw[<- r.len] at e2;rw[z] at e1 e2;simp at e1 e2;subst e1 e2;exact⟨hF,xs,bQ,dl⟩
 ·by_cases hn:n<L.length
  ·rw[xAj hn] at e;obtain⟨ys,hy⟩:=r.tr n a e;exact⟨ys,by rw[aW (dO hy h)];exact hy⟩
  ·rw[yAd (by omega)] at e
   have z:a=p:=by
    have h1:=xAi e;simpa using h1
   exact⟨xs,by rw[z];exact bQ⟩
theorem Rel.lay(r:Rel K F L S H){p:qv}{o:HO}(h:H p=qz):Rel K F L S (aQ H p o):=by
 refine⟨λ b u q=>by rw[aW (dO q (r.sub.free h))];exact r.sub _ _ q,r.nd,r.len,λ n a ds e1 e2=>?_,λ n a e=>?_⟩
 ·obtain⟨f,xs,e3,dl⟩:=r.loc n a ds e1 e2;exact⟨f,xs,by rw[aW (dO e3 h)];exact e3,dl⟩
 ·obtain⟨xs,hx⟩:=r.tr n a e;exact⟨xs,by rw[aW (dO hx h)];exact hx⟩
theorem Rel.notin(r:Rel K F L S H){p:qv}(h:H p=qz):p ∉ L:=λ hp=>by
 obtain⟨n,hn⟩:=List.getElem?_of_mem hp;obtain⟨xs,hx⟩:=r.tr n p hn;rw[h] at hx;cases hx
theorem Rel.adopt(r:Rel K F L S H){p:qv}{xs:List V}(hF:F p=qz)(hL:p ∉ L)(hH:H p=qq (.lst xs)):Rel K (aQ F p (.lst xs)) L S H:=by
 refine⟨λ b u q=>?_,r.nd,r.len,λ n a ds e1 e2=>?_,r.tr⟩
 ·by_cases hb:b=p
  ·subst hb;rw[bQ] at q;rw[hH];exact q
  ·rw[aW hb] at q;exact r.sub _ _ q
 ·obtain⟨f,ys,e3,dl⟩:=r.loc n a ds e1 e2;have ne:a≠p:=λ z=>hL (by rw[<- z];exact xAi e1)
  exact⟨by rw[aW ne];exact f,ys,e3,dl.mono (eN hF)⟩
theorem Rel.adoptLoc(r:Rel K F L S H){p:qv}{xs:List V}{ds:List D}(hF:F p=qz)(hL:p ∉ L)(hH:H p=qq (.lst xs))(dl:DenL K F ds xs):Rel K F (L++[p]) (S++[qq ds]) H:=by
 refine⟨r.sub,?_,by rw[yAp,yAp,r.len]<;>rfl,λ n a es e1 e2=>?_,λ n a e=>?_⟩
 ·rw[yFl];refine⟨r.nd,by simp,λ a ha b hb=>?_⟩
  rw[yBl] at hb;subst hb;exact λ z=>hL (z▸ha)
 ·by_cases hn:n<L.length
  ·rw[xAj hn] at e1;rw[xAj (by rw[<- r.len];exact hn)] at e2
   exact r.loc n a es e1 e2
  ·rw[yAd (by omega)] at e1
   rw[yAd (by rw[<- r.len];omega)] at e2
   have z:n-L.length=0:=by
    have:=(gIm e1).1;simp at this;omega
   rw[<- r.len] at e2;rw[z] at e1 e2;simp at e1 e2;subst e1 e2;exact⟨hF,xs,hH,dl⟩
 ·by_cases hn:n<L.length
  ·rw[xAj hn] at e;exact r.tr n a e
  ·rw[yAd (by omega)] at e
   have z:a=p:=by
    have h1:=xAi e;simpa using h1
   exact⟨xs,by rw[z];exact hH⟩
theorem Gr.newLoc{p:qv}:Gr F L F (L++[p]):=⟨bO.refl _,[p],rfl⟩
theorem Rel.put(r:Rel K F L S H){n:Nat}{a:qv}{ys:List V}{es:List D}(e:L[n]? = qq a)(hF:F a=qz)(dl:DenL K F es ys):Rel K F L (S.set n (qq es)) (aQ H a (.lst ys)):=by
 refine⟨λ b u q=>by rw[aW (dO q hF)];exact r.sub _ _ q,r.nd,by rw[yAq];exact r.len,λ m b fs e1 e2=>?_,λ m b e1=>?_⟩
 ·by_cases hm:n=m
  ·subst hm;rw[e] at e1;cases e1;have hl:n<S.length:=by rw[<- r.len];exact(gIm e).1
   rw[yAo hl] at e2;cases e2;exact⟨hF,ys,bQ,dl⟩
  ·rw[yAn hm] at e2;have ne:b≠a:=λ z=>by
    subst z;have h1:=(gIm e);have h2:=(gIm e1);obtain⟨l1,g1⟩:=h1;obtain⟨l2,g2⟩:=h2;exact hm ((yFo r.nd).mp (g1.trans g2.symm))
   obtain⟨f,xs,e3,d3⟩:=r.loc m b fs e1 e2;exact⟨f,xs,by rw[aW ne];exact e3,d3⟩
 ·by_cases hb:b=a
  ·exact⟨ys,by rw[hb];exact bQ⟩
  ·obtain⟨zs,hz⟩:=r.tr m b e1;exact⟨zs,by rw[aW hb];exact hz⟩
theorem Rel.freeze(r:Rel K F L S H){n:Nat}{a:qv}{ds:List D}(e:L[n]? = qq a)(es:S[n]? = qq (qq ds)) :
 ∃ F',Gr F L F' L/\Rel K F' L (S.set n qz) H/\Den K F' (.list ds) (.ref a):=by
 obtain⟨hF,xs,e3,dl⟩:=r.loc n a ds e es;refine⟨aQ F a (.lst xs),Gr.new hF,⟨λ b u q=>?_,r.nd,by rw[yAq];exact r.len,λ m b fs e1 e2=>?_,r.tr⟩,.lst (bJ.of bQ) (dl.mono (eN hF))⟩
 ·by_cases hb:b=a
  ·subst hb;rw[bQ] at q;rw[e3];exact q
  ·rw[aW hb] at q;exact r.sub _ _ q
 ·by_cases hm:n=m
  ·subst hm;have hl:n<S.length:=(gIm es).1;rw[yAo hl] at e2;cases e2
  ·rw[yAn hm] at e2;have ne:b≠a:=λ z=>by
    subst z;obtain⟨l1,g1⟩:=gIm e;obtain⟨l2,g2⟩:=gIm e1;exact hm ((yFo r.nd).mp (g1.trans g2.symm))
   obtain⟨f,ys,e4,d4⟩:=r.loc m b fs e1 e2;exact⟨by rw[aW ne];exact f,ys,e4,d4.mono (eN hF)⟩
theorem Rel.cut{M:List qv}(r:Rel K F (L++M) S H):Rel K F L (S.take L.length) H:=by
 have hl:L.length<=S.length:=by have:=r.len;rw[yAp] at this;omega
 refine⟨r.sub,(List.nodup_append.mp r.nd).1,by rw[yBf];omega,λ n a ds e1 e2=>?_,λ n a e1=>?_⟩
 ·have hn:n<L.length:=(gIm e1).1;rw[yDp hn] at e2;exact r.loc n a ds (by rw[xAj hn];exact e1) e2
 ·have hn:n<L.length:=(gIm e1).1;exact r.tr n a (by rw[xAj hn];exact e1)
end
def bG(K:FrG)(F H:Hp)(x:D)(v:V):Prop:=Den K F x v\/∃ ds a xs,x=.list ds/\v=.ref a/\H a=qq (.lst xs)/\DenL K F ds xs
noncomputable def dr(S:aB):W->Option D
 | .d x=>qq x
 | .loc n=>match S[n]? with
   | some (qq ds)=>qq (.list ds)
   | _=>qz
 | .exc _ _=>qz
theorem fM{K:FrG}{F H:Hp}{L:List qv}{S:aB}{w:W}{x:D}{v:V}(r:Rel K F L S H)(h:dQ K F L w v)(e:dr S w=qq x):bG K F H x v:=by
 cases w with
 | d y=>cases e;exact .inl h
 | exc c r=>cases e
 | loc n =>
   obtain⟨a,e1,rfl⟩:=h;cases e2:S[n]? with
   | none=>simp[dr,e2] at e
   | some o =>
     cases o with
     | none=>simp[dr,e2] at e
     | some ds =>
       simp[dr,e2] at e;subst e;obtain⟨f,xs,e3,dl⟩:=r.loc n a ds e1 e2;exact .inr ⟨ds,a,xs,rfl,rfl,e3,dl⟩
section
variable {K : FrG}{F H : Hp}{v : V}
theorem bG.non(h:bG K F H .none v):v=.non:=by
 rcases h with h | ⟨_,_,_,e,_⟩
 ·cases h;rfl
 ·cases e
theorem bG.bl{b:Bool}(h:bG K F H (.bool b) v):v=.bl b:=by
 rcases h with h | ⟨_,_,_,e,_⟩
 ·cases h;rfl
 ·cases e
theorem bG.int{i:Int}(h:bG K F H (.int i) v):v=.int i:=by
 rcases h with h | ⟨_,_,_,e,_⟩
 ·cases h;rfl
 ·cases e
theorem bG.str{x:Str}(h:bG K F H (.str x) v):v=.str x:=by
 rcases h with h | ⟨_,_,_,e,_⟩
 ·cases h;rfl
 ·cases e
theorem bG.lst{ds:List D}(s:bO F H)(h:bG K F H (.list ds) v):∃ a xs,v=.ref a/\bJ K H a xs/\DenL K F ds xs:=by
 rcases h with h | ⟨_,a,xs,e,e2,e3,dl⟩
 ·cases h with
  | lst q r=>exact⟨_,_,rfl,s.seq q,r⟩
 ·cases e;exact⟨a,xs,e2,bJ.of e3,dl⟩
theorem bG.tup{ds:List D}(s:bO F H)(h:bG K F H (.tuple ds) v):∃ a xs,v=.ref a/\bM K H a xs/\DenL K F ds xs:=by
 rcases h with h | ⟨_,_,_,e,_⟩
 ·cases h with
  | tup q r=>exact⟨_,_,rfl,iE s q,r⟩
 ·cases e
end
theorem aHi:fillsNumberSlot (.type "tuple") "mul" = pure false:=
 PySem.fillsNumberSlot_seq (id:="tuple.__mul__") (r:=qq (.builtin "tuple.__rmul__")) PySem.F.slot_tuple_mul.lookup (by decide +kernel) PySem.F.slot_tuple_rmul.lookup (by decide +kernel)
theorem aHA:seqRepeat? (.type "tuple")=pure (qq (.builtin "tuple.__mul__")):=by
 unfold seqRepeat?;rw[PySem.seqSlot_of (T:="tuple") (name:="__mul__") (id:="tuple.__mul__") PySem.F.slot_tuple_mul.lookup (by decide +kernel),PySem.seqSlot_of (T:="tuple") (name:="__rmul__") (id:="tuple.__rmul__") PySem.F.slot_tuple_rmul.lookup (by decide +kernel)]
 rfl
theorem aHp(a:Int)(t:Tok)(l:qv)(aM:Array qx)(n:Nat)(d:Option qv)(sl:Array (Option qx)) :
 Meets (Builtin.«int.__rmul__» ⟨[.int a t,.ref l],[]⟩) (λ _ R s=>s.heap.get? l=qq {cls:=.type "tuple",dict:=d,data:=.seq aM n,slots:=sl }/\R (.ok (.ret Value.notImplemented)) s):=
 .of_wp λ prog w A R s h=>by obtain⟨hp,g,d,tk,os⟩:=s;obtain⟨hl,h⟩:=h;wp_walk;exact⟨_,rfl,h⟩
theorem aHw(l:qv)(aM:Array qx)(n:Nat)(d:Option qv)(sl:Array (Option qx))(t:Tok) :
 Meets (Builtin.«tuple.__mul__» ⟨[.ref l,.int 1 t],[]⟩) (λ _ R s=>s.heap.get? l=qq {cls:=.type "tuple",dict:=d,data:=.seq aM n,slots:=sl }/\R (.ok (.ret (.ref l))) s):=
 .of_wp λ prog w A R s h=>by
  obtain⟨hp,g,d,tk,os⟩:=s;obtain⟨hl,h⟩:=h
  wp_walk
  exact⟨_,rfl,h⟩
theorem aHq(l:qv)(x:qx)(n:Nat)(d:Option qv)(sl:Array (Option qx))(t:Tok) :
 Meets (Builtin.«tuple.__mul__» ⟨[.ref l,.int 0 t],[]⟩) (λ _ R s=>s.heap.get? l=qq {cls:=.type "tuple",dict:=d,data:=.seq #[x] n,slots:=sl }/\R (.ok (.ret (.ref s.heap.objs.size))) {s with heap:=s.heap.push {cls:=.type "tuple",data:=.seq #[] } }):=
 .of_wp λ prog w A R s h=>by
  obtain⟨hp,g,d,tk,os⟩:=s;obtain⟨hl,h⟩:=h
  wp_walk
  exact⟨_,rfl,h⟩
theorem vL(x:qx):∀ (k:Nat) (aG:Array qx),(yAg k #[x]).foldl (· ++ ·) aG=aG++(yAg k x).toArray
 | 0,aG=>by simp
 | k+1,aG=>by
   rw[yBb,yAm,vL x k];apply Array.ext';simp[yBb]
theorem aHv(l:qv)(x:qx)(n:Nat)(d:Option qv)(sl:Array (Option qx))(k:Nat)(hk:2<=k)(hk2:k<=1000)(t:Tok) :
 Meets (Builtin.«tuple.__mul__» ⟨[.ref l,.int k t],[]⟩) (λ _ R s=>s.heap.get? l=qq {cls:=.type "tuple",dict:=d,data:=.seq #[x] n,slots:=sl }/\R (.ok (.ret (.ref s.heap.objs.size))) {s with heap:=s.heap.push {cls:=.type "tuple",data:=.seq (yAg k x).toArray } }):=
 .of_wp λ prog w A R s h=>by
  obtain⟨hp,g,d,tk,os⟩:=s;obtain⟨hl,h⟩:=h;have c1:(decide (((k:Nat):Int) < -(2^63))||decide (((k:Nat):Int) ≥ 2^63))=false:=by simp;omega
  have c2:(((k:Nat):Int)==1)=false:=by rw[beq_eq_false_iff_ne];omega
  have c3:decide (((k:Nat):Int)<=0)=false:=dqF (by omega)
  have c4:((#[x]:Array qx).isEmpty||(((k:Nat):Int)==1))=false:=by rw[c2];rfl
  have c5:(decide (((k:Nat):Int)<=0)||(#[x]:Array qx).isEmpty)=false:=by rw[c3];rfl
  have c6:¬ (((#[x]:Array qx).size:Int)*((k:Nat):Int)>(2^63-1)/8):=by
   show ¬ (((1:Nat):Int)*((k:Nat):Int)>(2^63-1)/8);omega
  have hsz:qk=16777216:=by decide
  have c7:yFe (((#[x]:Array qx).size:Int)*((k:Nat):Int))=false:=by
   unfold yFe;refine dqF ?_;show ¬ (((1:Nat):Int)*((k:Nat):Int)>((qk:Nat):Int));omega
  wp_walk
  rw[if_neg (by rw[c1];exact yAt)]
  refine wB (wpAny_tupleItemsOf hl rfl ?_);simp only[c4,c5,c6,c7,yAw,if_false];rw[yBo,vL,show(#[]:Array qx)++(yAg k x).toArray=(yAg k x).toArray by simp]
  refine wB (m:=yCb _) (xu (wP ⟨_,rfl,h⟩) ?_);show(yAg k x).toArray.size<=qk;rw[yAf,yDb,hsz];omega
section
variable {X : Cx}{aA : List (qv×Obj)}{σ : L2.St}{H : Hp}{s : qj}{Q : VK}
theorem aDA{x:V}{u:qx}(r:aT x u):∀ k:Nat,aO (yAg k x) (yAg k u)
 | 0=>.nil
 | k+1=>.cons r (aDA r k)
theorem aP5{a:qv}{x:V}{k:Nat}{t:Tok}(I:Inv X aA σ H s)(ha:bM X.K H a [x])(hk:k<=1000)
 (q1:k=1->Q (.ref a) H) (q:∀ p,H p=qz->Q (.ref p) (aQ H p (.tup (yAg k x)))):qu (model X.prog X.w) X.A (zu .Mult (.ref a) (.int k t)) (EP X aA σ Q) X.xe s:=by
 obtain⟨its,r1,p1,_⟩:=I.tuple ha;obtain⟨u,rfl,ru⟩:∃ u,its=[u]/\aT x u:=by
  cases r1 with
  | cons r r'=>cases r';exact⟨_,rfl,r⟩
 obtain⟨⟨cls,d,data,sl⟩,ho,hcl,n,hd⟩:=p1;simp only at hcl hd;subst hcl hd;have hsz:qk=16777216:=by decide
 have bB:∀ (its:List qx),its=yAg k u->EP X aA σ Q (.ref s.heap.objs.size) {s with heap:=s.heap.push {cls:=.type "tuple",data:=.seq its.toArray } }:=λ its e=>by
  subst e;exact⟨.ref _,_,I.laid (t':=s.toks) (o:=.tup (yAg k x)) (λ b ob q=>hpS _ q) (yAe _) ⟨by rw[yDb,hsz];omega,_,aDA ru k,⟨_,xAe _ rfl,rfl,0,rfl⟩⟩,rfl,q _ (I.hok.fresh (yAe _))⟩
 refine yz (T:="tuple") (U:="int") (by decide) ⟨_,ho,rfl⟩ (λ s'=>yv s' k t) aHi PySem.F.fills_int_mul yDd aHA PySem.F.slot_int_index.lookup
  (jk yDd (yv s k t) PySem.F.entry_int_rmul (PySem.F.args_int_rmul_2 _ _) (aHp k t a _ n d sl)
    ⟨ho,rfl,⟨_,ho,rfl⟩,?_⟩)
 by_cases h1:k=1
 ·subst h1;exact jk yEc ⟨_,ho,rfl⟩ yDx (yDr _ _) (aHw a _ n d sl t) ⟨ho,.ref a,H,I,rfl,q1 rfl⟩
 ·by_cases h0:k=0
  ·subst h0;exact jk yEc ⟨_,ho,rfl⟩ yDx (yDr _ _) (aHq a u n d sl t) ⟨ho,bB [] rfl⟩
  ·exact jk yEc ⟨_,ho,rfl⟩ yDx (yDr _ _) (aHv a u n d sl k (by omega) hk t) ⟨ho,bB _ rfl⟩
end
noncomputable def mH(i j:Int):Bool:=!(decide (yAj i>wu)&&decide (yAj j>wu)&&Builtin.Int.intTooBig (yAj i+yAj j))
noncomputable def aQn{α:Type}(n:Nat)(xs:List α):List α:=(yAg n xs).flatten
noncomputable def aBE:D->D->Option D
 | .int i,.int j=>qq (.int (i+j))
 | .str x,.str y=>if x.length+y.length<=qk then qq (.str (x++y)) else qz
 | .tuple [],.tuple ys=>qq (.tuple ys)
 | .tuple xs,.tuple ys=>if xs.isEmpty=false/\xs.length+ys.length<=qk then qq (.tuple (xs++ys)) else qz
 | .list xs,.list ys=>if xs.length+ys.length<=qk then qq (.list (xs++ys)) else qz
 | _,_=>qz
noncomputable def aBP:D->D->Option D
 | .int i,.int j=>if mH i j=true then qq (.int (i*j)) else qz
 | .list xs,.int k=>if k<2^63 /\ -(2^63)<=k/\xs.length*k.toNat<=qk then qq (.list (aQn k.toNat xs)) else qz
 | .tuple [x],.int k=>if 0<=k/\k<=1000 then qq (.tuple (yAg k.toNat x)) else qz
 | _,_=>qz
noncomputable def i2{α:Type}(f:Int->Int->Option α):D->D->Option α
 | .int i,.int j=>f i j
 | _,_=>qz
theorem wI{α:Type}{f:Int->Int->Option α}{i j:Int}:i2 f (.int i) (.int j)=f i j:=rfl
theorem gO{α:Type}{f:Int->Int->Option α}{x y:D}{z:α}(h:i2 f x y=qq z):∃ i j,x=.int i/\y=.int j/\f i j=qq z:=by
 cases x<;>first | (cases h;done) | skip
 cases y<;>first | (cases h;done) | exact⟨_,_,rfl,rfl,h⟩
noncomputable def iG:D->Bool
 | .none=>true
 | _=>false
theorem aDB{x:D}(h:iG x=true):x=.none:=by cases x<;>first | rfl | cases h
noncomputable def bL(op:vz)(x y:D):Option D:=match op with
 | .Add=>aBE x y
 | .Sub=>i2 (λ i j=>qq (.int (i-j))) x y
 | .Mult=>aBP x y
 | .MatMult=>qz
 | .Div=>qz
 | .Mod=>i2 (λ i j=>if j≠0 then qq (.int (i.fmod j)) else qz) x y
 | .Pow=>i2 (λ i j=>if 0<=j/\j<=1000000/\i.natAbs<2^64 then qq (.int (i^j.toNat)) else qz) x y
 | .LShift=>i2 (λ i j=>if 0<=j/\(yAj i:Int)+j<=2^27 then qq (.int (i*2^j.toNat)) else qz) x y
 | .RShift=>i2 (λ i j=>if 0<=j then qq (.int (i/2^j.toNat)) else qz) x y
 | .BitOr=>i2 (λ i j=>qq (.int (Builtin.bitOr i j))) x y
 | .BitXor=>i2 (λ i j=>qq (.int (Builtin.bitXor i j))) x y
 | .BitAnd=>i2 (λ i j=>qq (.int (Builtin.bitAnd i j))) x y
 | .FloorDiv=>i2 (λ i j=>if j≠0/\yCe i j=false then qq (.int (i.fdiv j)) else qz) x y
noncomputable def qS:yx->D->Option D
 | .USub,.int i=>qq (.int (-i))
 | .Invert,.int i=>qq (.int (Builtin.bitNot i))
 | _,_=>qz
noncomputable def iC:D->Bool
 | .none | .bool _ | .int _ | .str _=>true
 | _=>false
noncomputable def lU:List D->Bool
 | []=>true
 | d::r=>iC d&&lU r
noncomputable def qX(x:D):List D->Bool
 | []=>false
 | y::r=>yBw y x||qX x r
noncomputable def pX:D->Option (List D)
 | .list xs=>qq xs
 | .tuple xs=>qq xs
 | _=>qz
noncomputable def qO:D->D->Option Bool
 | .bool a,.bool b=>qq (a==b)
 | _,_=>qz
theorem aDm{x y:D}{b:Bool}(h:qO x y=qq b):∃ p q,x=.bool p/\y=.bool q/\b=(p==q):=by
 unfold qO at h
 split at h
 ·rename_i p q;exact⟨p,q,rfl,rfl,(Option.some.inj h).symm⟩
 ·cases h
noncomputable def iM(op:jx)(x y:D):Option Bool:=match op with
 | .Eq=>if x.canLay0=true/\y.canLay0=true/\x.depth<=60 then qq (yBw x y) else qz
 | .NotEq=>if x.canLay0=true/\y.canLay0=true/\x.depth<=60 then qq (!yBw x y) else qz
 | .Lt=>i2 (λ i j=>qq (decide (i<j))) x y
 | .LtE=>i2 (λ i j=>qq (decide (i<=j))) x y
 | .Gt=>i2 (λ i j=>qq (decide (j<i))) x y
 | .GtE=>i2 (λ i j=>qq (decide (j<=i))) x y
 | .Is=>if iG y=true then qq (iG x) else qO x y
 | .IsNot=>if iG y=true then qq (!iG x) else (qO x y).bind λ b=>qq (!b)
 | .In=>(pX y).bind λ ys=>if iC x=true/\lU ys=true then qq (qX x ys) else qz
 | .NotIn=>(pX y).bind λ ys=>if iC x=true/\lU ys=true then qq (!qX x ys) else qz
noncomputable def tN:D->Option Bool
 | .none=>qq false
 | .bool b=>qq b
 | .int i=>qq (i != 0)
 | .str x=>if x.length<=qk then qq ((x.length:Int) != 0) else qz
 | .list xs=>qq (!xs.isEmpty)
 | .tuple xs=>qq (!xs.isEmpty)
 | .dict _=>qz
section
variable {X : Cx}{aA : List (qv×Obj)}{s : qj}{σ : L2.St}{H : Hp}{x y : V}{v u : qx}{Q : VK}{F : Hp}{L : List qv}{S : aB}{dx dy z : D}
abbrev eI(X:Cx)(F:Hp)(L:List qv)(S:aB)(z:D)(Q:VK):Prop:=∀ F' H' r,bO F F'->Rel X.K F' L S H'->Den X.K F' z r->Q r H'
abbrev yF(X:Cx)(F:Hp)(H:Hp)(zs:List D)(Q:VK):Prop:=∀ p xs,H p=qz->DenL X.K F zs xs->Q (.ref p) (aQ H p (.lst xs))
theorem eI.here(R:Rel X.K F L S H)(q:eI X F L S z Q){r:V}(h:Den X.K F z r):Q r H:=q F H r (bO.refl _) R h
theorem yF.out{zs:List D}(R:Rel X.K F L S H)(q:eI X F L S (.list zs) Q):yF X F H zs Q:=λ p xs hp dl =>
 q _ _ _ (eN (R.sub.free hp)) (R.new hp) (.lst (bJ.of bQ) (dl.mono (eN (R.sub.free hp))))
theorem eI.tup{zs:List D}(R:Rel X.K F L S H)(q:eI X F L S (.tuple zs) Q){p:qv}{xs:List V}(hp:H p=qz)(dl:DenL X.K F zs xs):Q (.ref p) (aQ H p (.tup xs)):=
 q _ _ _ (eN (R.sub.free hp)) (R.new hp) (.tup (bM.of bQ) (dl.mono (eN (R.sub.free hp))))
theorem aQa{a b:qv}{xs ys:List V}(I:Inv X aA σ H s)(ha:bJ X.K H a xs)(hb:bJ X.K H b ys)(hz:xs.length+ys.length<=qk)
 (q:∀ p,H p=qz->Q (.ref p) (aQ H p (.lst (xs++ys)))):qu (model X.prog X.w) X.A (zu .Add (.ref a) (.ref b)) (EP X aA σ Q) X.xe s:=by
 obtain⟨its,r1,p1,_⟩:=I.list ha;obtain⟨rC,r2,p2,_⟩:=I.list hb;obtain⟨⟨cls,dd,data,sl⟩,ho,hc,n,hd⟩:=p1.isList;obtain⟨⟨cls2,dd2,data2,sl2⟩,ho2,hc2,n2,hd2⟩:=p2.isList;simp only at hc hd hc2 hd2;subst hc hd hc2 hd2;have e:its.toArray++rC.toArray=(its++rC).toArray:=by simp
 refine concat_meets ⟨_,ho,rfl⟩ ⟨_,ho2,rfl⟩ noFill_list_add seq_list_add PySem.F.slot_list_add PySem.F.entry_list_add (PySem.F.args_list_add_2 _ _) (list_addW a b its.toArray rC.toArray n n2 dd dd2 sl sl2 (by rw[yAf,yAf,<- r1.length,<- r2.length];exact hz)) ⟨ho,ho2,?_⟩
 rw[e];exact⟨.ref _,_,I.lnew (t':=s.toks) (r1.append r2) (by rw[yAp];omega),rfl,q _ I.fresh⟩
theorem aQt{a:qv}{xs:List V}{k:Int}{t:Tok}(I:Inv X aA σ H s)(ha:bJ X.K H a xs)(h1 : -(2^63)<=k)(h2:k<2^63)(hz:xs.length*k.toNat<=qk)
 (q:∀ p,H p=qz->Q (.ref p) (aQ H p (.lst (yAg k.toNat xs).flatten))):qu (model X.prog X.w) X.A (zu .Mult (.ref a) (.int k t)) (EP X aA σ Q) X.xe s:=by
 obtain⟨its,r1,p1,_⟩:=I.list ha;obtain⟨⟨cls,d,data,sl⟩,ho,hcl,n,hd⟩:=p1.isList;simp only at hcl hd;subst hcl hd;have hsz:its.toArray.size*k.toNat<=2^24:=by
  rw[yAf,<- r1.length];have:qk=2^24:=rfl;rw[<- this];exact hz
 refine yz (T:="list") (U:="int") (by decide) ⟨_,ho,rfl⟩ (λ s'=>yv s' k t) noFill_list_mul PySem.F.fills_int_mul yDd repeat_list PySem.F.slot_int_index.lookup
  (jk yDd (yv s k t) PySem.F.entry_int_rmul (PySem.F.args_int_rmul_2 _ _) (lm_int_rmul_list_any k t a its.toArray n d sl)
    ⟨ho,rfl,⟨_,ho,rfl⟩,jk PySem.F.slot_list_mul ⟨_,ho,rfl⟩ PySem.F.entry_list_mul (PySem.F.args_list_mul_2 _ _)
     (lm_list_mul_any a its.toArray n d sl k t (by simp[Builtin.List.listFitsIndex];omega) (by omega) (by simp[Builtin.List.listTooLong,qk];simpa using hsz))
     ⟨ho,?_⟩⟩)
 rw[listMul_foldl_if];exact⟨.ref _,_,I.lnew (t':=s.toks) (r1.rep k.toNat) (by rw[aKM,Nat.mul_comm];exact hz),rfl,q _ I.fresh⟩
theorem aPM{a b:qv}{ys:List V}(I:Inv X aA σ H s)(ha:bM X.K H a [])(hb:bM X.K H b ys)(q:Q (.ref b) H):qu (model X.prog X.w) X.A (zu .Add (.ref a) (.ref b)) (EP X aA σ Q) X.xe s:=by
 obtain⟨its,r1,p1,_⟩:=I.tuple ha;obtain⟨rC,r2,p2,_⟩:=I.tuple hb;cases r1;obtain⟨⟨cls,dd,data,sl⟩,ho,hc,n,hd⟩:=p1;obtain⟨⟨cls2,dd2,data2,sl2⟩,ho2,hc2,n2,hd2⟩:=p2;simp only at hc hd hc2 hd2;subst hc hd hc2 hd2;exact concat_meets ⟨_,ho,rfl⟩ ⟨_,ho2,rfl⟩ noFill_tuple_add seq_tuple_add yEb yDv (yDq _ _) (tuple_addW0 a b _ rC.toArray n n2 dd dd2 sl sl2 rfl) ⟨ho,ho2,⟨.ref b,H,I,rfl,q⟩⟩
theorem aMq(I:Inv X aA σ H s)(rx:aT x v)(ry:aT y u)(R:Rel X.K F L S H)(nx:bG X.K F H dx x)(ny:bG X.K F H dy y)(e:aBE dx dy=qq z)(q:eI X F L S z Q) :
 qu (model X.prog X.w) X.A (zu .Add v u) (EP X aA σ Q) X.xe s:=by
 unfold aBE at e
 split at e
 ·rename_i i j;cases e;exact aOc aA s σ H x y v u Q I rx ry ⟨i,j,nx.int,ny.int,q.here R (.int _)⟩
 ·rename_i a b
  split at e
  ·rename_i c;cases e;exact aIb aA s σ H x y v u Q I rx ry ⟨a,b,nx.str,ny.str,c,q.here R (.str _)⟩
  ·cases e
 ·rename_i ys;cases e;obtain⟨a,vs,rfl,h1,d1⟩:=nx.tup R.sub;obtain⟨b,ws,rfl,h2,d2⟩:=ny.tup R.sub;cases d1;cases rx;cases ry;refine aPM I h1 h2 (q F H _ (bO.refl _) R ?_);rcases ny with ny | ⟨_,_,_,e,_⟩
  ·exact ny
  ·cases e
 ·rename_i xs ys _
  split at e
  ·rename_i c;cases e;obtain⟨a,vs,rfl,h1,d1⟩:=nx.tup R.sub;obtain⟨b,ws,rfl,h2,d2⟩:=ny.tup R.sub;have hne:vs≠[]:=λ z=>by
    have:=d1.length;rw[z] at this;cases xs with
    | nil=>simp at c
    | cons _ _=>simp at this
   refine aLt aA s σ H _ _ v u Q I rx ry ⟨a,b,vs,ws,rfl,rfl,h1,h2,hne,by rw[<- d1.length,<- d2.length];exact c.2,λ z=>?_,λ z p hp=>?_⟩
   ·have:ys=[]:=by
     have h:=d2.length;rw[z] at h;exact List.eq_nil_of_length_eq_zero h
    subst this;refine q F H _ (bO.refl _) R ?_;rw[yAu];rcases nx with nx | ⟨_,_,_,e,_⟩
    ·exact nx
    ·cases e
   ·exact q.tup R hp (d1.append d2)
  ·cases e
 ·rename_i xs ys
  split at e
  ·rename_i c;cases e;obtain⟨a,vs,rfl,h1,d1⟩:=nx.lst R.sub;obtain⟨b,ws,rfl,h2,d2⟩:=ny.lst R.sub;cases rx;cases ry;exact aQa I h1 h2 (by rw[<- d1.length,<- d2.length];exact c) λ p hp=>yF.out R q p _ hp (d1.append d2)
  ·cases e
 ·cases e
theorem aEI{K:FrG}{F:Hp}{x:D}{v:V}(h:Den K F x v):∀ k:Nat,DenL K F (yAg k x) (yAg k v)
 | 0=>.nil
 | k+1=>.cons h (aEI h k)
theorem aNT(I:Inv X aA σ H s)(rx:aT x v)(ry:aT y u)(R:Rel X.K F L S H)(nx:bG X.K F H dx x)(ny:bG X.K F H dy y)(e:aBP dx dy=qq z)(q:eI X F L S z Q) :
 qu (model X.prog X.w) X.A (zu .Mult v u) (EP X aA σ Q) X.xe s:=by
 unfold aBP at e
 split at e
 ·rename_i i j
  split at e
  ·rename_i c;cases e;obtain rfl:=nx.int;obtain rfl:=ny.int;obtain⟨t,rfl⟩:=rx;obtain⟨t',rfl⟩:=ry;refine PyProof.Rows.mul_int ⟨.int (i*j),H,I.tok _,⟨_,rfl⟩,q.here R (.int _)⟩ ?_;unfold IntMulOk;unfold mH at c;intro z;rw[z] at c;cases c
  ·cases e
 ·rename_i xs k
  split at e
  ·rename_i c;cases e;obtain⟨a,vs,rfl,h1,d1⟩:=nx.lst R.sub;obtain rfl:=ny.int;cases rx;obtain⟨t',rfl⟩:=ry;exact aQt I h1 c.2.1 c.1 (by rw[<- d1.length];exact c.2.2) λ p hp=>yF.out R q p _ hp (d1.rep _)
  ·cases e
 ·rename_i xd k
  split at e
  ·rename_i c;cases e;obtain⟨a,vs,rfl,h1,d1⟩:=nx.tup R.sub;obtain rfl:=ny.int;cases rx;obtain⟨t',rfl⟩:=ry;obtain⟨kk,rfl⟩:∃ kk:Nat,k=(kk:Nat):=⟨k.toNat,by omega⟩
   rw[yBo] at q;cases d1 with
   | cons dx dn =>
     cases dn;refine aP5 I h1 (by omega) (λ hk=>?_) λ p hp=>eI.tup R q hp (aEI dx kk)
     subst hk;refine q F H _ (bO.refl _) R ?_;rcases nx with nx | ⟨_,_,_,z,_⟩
     ·exact nx
     ·cases z
  ·cases e
 ·cases e
theorem sK{op:vz}{C:Int->Int->Prop}{g:Int->Int->Int}(rule:bS X (zu op) (rI C λ i j=>.int (g i j))){i j:Int}(c:C i j)(I:Inv X aA σ H s)(rx:aT x v)(ry:aT y u)(R:Rel X.K F L S H)
 (nx:bG X.K F H (.int i) x) (ny:bG X.K F H (.int j) y) (q:eI X F L S (.int (g i j)) Q) :
 qu (model X.prog X.w) X.A (zu op v u) (EP X aA σ Q) X.xe s:=
 rule aA s σ H x y v u Q I rx ry ⟨i,j,nx.int,ny.int,c,q.here R (.int _)⟩
theorem vR{op:vz}{g:Int->Int->Int}(rule:bS X (zu op) (iR λ i j=>.int (g i j))){i j:Int}(I:Inv X aA σ H s)(rx:aT x v)(ry:aT y u)(R:Rel X.K F L S H)
 (nx:bG X.K F H (.int i) x) (ny:bG X.K F H (.int j) y) (q:eI X F L S (.int (g i j)) Q) :
 qu (model X.prog X.w) X.A (zu op v u) (EP X aA σ Q) X.xe s:=
 rule aA s σ H x y v u Q I rx ry ⟨i,j,nx.int,ny.int,q.here R (.int _)⟩
theorem aKZ:bS X (zu .FloorDiv) (rI (λ i j=>j≠0/\yCe i j=false) λ i j=>.int (i.fdiv j)):=uT λ _ _ _ _ _ _ _ hc q=>floordiv_int hc.1 q (.inl hc.2)
theorem aPT:bS X (zu .LShift) (rI (λ i j=>0<=j/\(yAj i:Int)+j<=2^27) λ i j=>.int (i*2^j.toNat)):=uT λ _ _ _ _ _ _ _ hc q=>lshift_int hc.1 hc.2 q
theorem bind_some{α β:Type}{o:Option α}{f:α->Option β}{b:β}(h:o.bind f=qq b):∃ a,o=qq a/\f a=qq b:=by
 cases o with
 | none=>cases h
 | some a=>exact⟨a,rfl,h⟩
theorem lB{α:Type}{p:Prop} [Decidable p]{a z:α}(h:(if p then qq a else qz)=qq z):p/\a=z:=by
 split at h
 ·rename_i c;cases h;exact⟨c,rfl⟩
 ·cases h
theorem aE6{op:vz}(I:Inv X aA σ H s)(rx:aT x v)(ry:aT y u)(R:Rel X.K F L S H)(nx:bG X.K F H dx x)(ny:bG X.K F H dy y)(e:bL op dx dy=qq z)(q:eI X F L S z Q) :
 qu (model X.prog X.w) X.A (zu op v u) (EP X aA σ Q) X.xe s:=by
 cases op with
 | Add=>exact aMq I rx ry R nx ny e q
 | Mult=>exact aNT I rx ry R nx ny e q
 | MatMult=>cases e
 | Div=>cases e
 | Sub=>obtain⟨i,j,rfl,rfl,e⟩:=gO e;cases e;exact vR aLJ I rx ry R nx ny q
 | BitAnd=>obtain⟨i,j,rfl,rfl,e⟩:=gO e;cases e;exact vR aMd I rx ry R nx ny q
 | BitOr=>obtain⟨i,j,rfl,rfl,e⟩:=gO e;cases e;exact vR aOP I rx ry R nx ny q
 | BitXor=>obtain⟨i,j,rfl,rfl,e⟩:=gO e;cases e;exact vR aL3 I rx ry R nx ny q
 | FloorDiv=>obtain⟨i,j,rfl,rfl,e⟩:=gO e;obtain⟨c,rfl⟩:=lB e;exact sK aKZ c I rx ry R nx ny q
 | Mod=>obtain⟨i,j,rfl,rfl,e⟩:=gO e;obtain⟨c,rfl⟩:=lB e;exact sK aK7 c I rx ry R nx ny q
 | Pow=>obtain⟨i,j,rfl,rfl,e⟩:=gO e;obtain⟨c,rfl⟩:=lB e;exact sK aMQ c I rx ry R nx ny q
 | LShift=>obtain⟨i,j,rfl,rfl,e⟩:=gO e;obtain⟨c,rfl⟩:=lB e;exact sK aPT c I rx ry R nx ny q
 | RShift=>obtain⟨i,j,rfl,rfl,e⟩:=gO e;obtain⟨c,rfl⟩:=lB e;exact sK aNv c I rx ry R nx ny q
theorem aOv{op:yx}(I:Inv X aA σ H s)(rx:aT x v)(R:Rel X.K F L S H)(nx:bG X.K F H dx x)(e:qS op dx=qq z)(q:eI X F L S z Q) :
 qu (model X.prog X.w) X.A (unaryOp op v) (EP X aA σ Q) X.xe s:=by
 unfold qS at e
 split at e
 ·cases e;exact aLH aA s σ H x v Q I rx ⟨_,nx.int,q.here R (.int _)⟩
 ·cases e;exact aNy aA s σ H x v Q I rx ⟨_,nx.int,q.here R (.int _)⟩
 ·cases e
mutual
theorem aDg(I:Inv X aA σ H s)(sb:bO F H):∀ {d:D}{x:V}{v:qx},Den X.K F d x->aT x v->d.canLay0=true->∃ as,Reads s.heap v d as
 | _,_,v,.non,r,_=>by cases (show v=Value.none from r);exact⟨_,.none⟩
 | _,_,v,.bl b,r,_=>by cases (show v=Value.bool b from r);exact⟨_,.bool b⟩
 | _,_,v,.int i,r,_=>by obtain⟨t,rfl⟩:=(show ∃ t,v=Value.int i t from r);exact⟨_,.int i t⟩
 | _,_,v,.str y,r,_=>by obtain⟨t,rfl⟩:=(show ∃ t,v=Value.str y t from r);exact⟨_,.str y t⟩
 | _,_,v,.lst (a:=a) h dl,r,c=>by
   cases (show v=Value.ref a from r)
   obtain⟨its,rv,p1,_⟩:=I.list (sb.seq h);obtain⟨o,ho,hc,n,hd⟩:=p1.isList;obtain⟨as,ra⟩:=vG I sb dl rv c;exact⟨_,.list ho hc hd (by simpa using ra)⟩
 | _,_,v,.exc _,_,c=>by cases c
 | _,_,v,.tup (a:=a) h dl,r,c=>by
   cases (show v=Value.ref a from r)
   obtain⟨its,rv,p1,_⟩:=I.tuple (iE sb h);obtain⟨o,ho,hc,n,hd⟩:=p1;obtain⟨as,ra⟩:=vG I sb dl rv c;exact⟨_,.tuple ho hc hd (by simpa using ra)⟩
theorem vG(I:Inv X aA σ H s)(sb:bO F H):∀ {ds:List D}{xs:List V}{us:List qx},DenL X.K F ds xs->aO xs us->yCh ds=true->∃ as,ReadsAll s.heap us ds as
 | _,_,_,.nil,r,_=>by cases r;exact⟨_,.nil⟩
 | _,_,_,.cons h dl,.cons r rs,c=>by
   obtain⟨c1,c2⟩:=Bool.and_eq_true_iff.mp c;obtain⟨as,ra⟩:=aDg I sb h r c1;obtain⟨bs,rb⟩:=vG I sb dl rs c2;exact⟨_,.cons ra rb⟩
end
theorem vK(I:Inv X aA σ H s)(R:Rel X.K F L S H)(rx:aT x v)(nx:bG X.K F H dx x)(c:dx.canLay0=true):∃ as,Reads s.heap v dx as:=by
 rcases nx with nx | ⟨ds,a,xs,rfl,rfl,e,dl⟩
 ·exact aDg I R.sub nx rx c
 ·cases rx;obtain⟨its,rv,p1,_⟩:=I.list (bJ.of e);obtain⟨o,ho,hc,n,hd⟩:=p1.isList;obtain⟨as,ra⟩:=vG I R.sub dl rv c;exact⟨_,.list ho hc hd (by simpa using ra)⟩
theorem aPl(hu:X.A.units+64<cLine)(I:Inv X aA σ H s)(rx:aT x v)(ry:aT y u)(R:Rel X.K F L S H)(nx:bG X.K F H dx x)(ny:bG X.K F H dy y)
 (c1:dx.canLay0=true) (c2:dy.canLay0=true) (c3:dx.depth<=60) (q:Q (.bl (yBw dx dy)) H):qu (model X.prog X.w) X.A (zo .Eq v u) (EP X aA σ Q) X.xe s:=by
 obtain⟨as,ra⟩:=vK I R rx nx c1;obtain⟨bs,rb⟩:=vK I R ry ny c2;refine SeqAt.compareEq_reads ra rb c1 c2 ?_ ⟨.bl _,H,I,rfl,q⟩;have:min dx.depth dy.depth<=dx.depth:=Nat.min_le_left _ _;omega
theorem aPE(hu:X.A.units+64<cLine)(I:Inv X aA σ H s)(rx:aT x v)(ry:aT y u)(R:Rel X.K F L S H)(nx:bG X.K F H dx x)(ny:bG X.K F H dy y)
 (c1:dx.canLay0=true) (c2:dy.canLay0=true) (c3:dx.depth<=60) (q:Q (.bl (!yBw dx dy)) H):qu (model X.prog X.w) X.A (zo .NotEq v u) (EP X aA σ Q) X.xe s:=by
 obtain⟨as,ra⟩:=vK I R rx nx c1;obtain⟨bs,rb⟩:=vK I R ry ny c2;refine SeqAt.compareNe_reads ra rb c1 c2 ?_ ⟨.bl _,H,I,rfl,q⟩;have:min dx.depth dy.depth<=dx.depth:=Nat.min_le_left _ _;omega
end
theorem aJE{K:FrG}{F:Hp}{d e:D}{x y:V}(h1:Den K F d x)(h2:Den K F e y)(f1:iC d=true)(f2:iC e=true):lP x y=yBw d e:=by
 cases h1<;>first | (simp[iC] at f1;done) | skip
 all_goals cases h2<;>first | (simp[iC] at f2;done) | rfl | skip
theorem aAA{K:FrG}{F:Hp}{d:D}{x:V}(h1:Den K F d x)(f1:iC d=true):jY x=true:=by
 cases h1<;>first | rfl | (simp[iC] at f1;done)
theorem aAD{K:FrG}{F:Hp}:∀ {ds:List D}{xs:List V},DenL K F ds xs->lU ds=true->xs.all jY=true
 | _,_,.nil,_=>rfl
 | _,_,.cons h r,f=>by
   simp only[lU,yBi] at f;rw[yDw,aAA h f.1,aAD r f.2];rfl
theorem aAP{K:FrG}{F:Hp}{e:D}{y:V}(h2:Den K F e y)(f2:iC e=true):∀ {ds:List D}{xs:List V},DenL K F ds xs->lU ds=true->qU y xs=qX e ds
 | _,_,.nil,_=>rfl
 | _,_,.cons h r,f=>by
   simp only[lU,yBi] at f;have ih:=aAP h2 f2 r f.2;unfold qU at ih ⊢;rw[yEu,ih,aJE h h2 f.1 f2];rfl
section
variable {X : Cx}{aA : List (qv×Obj)}{s : qj}{σ : L2.St}{H : Hp}{x y : V}{v u : qx}{Q : VK}{F : Hp}{L : List qv}{S : aB}{dx dy : D}{b : Bool}
theorem bG.flat{d:D}{z:V}(h:bG X.K F H d z)(f:iC d=true):Den X.K F d z:=by
 rcases h with h | ⟨ds,_,_,rfl,_⟩
 ·exact h
 ·simp[iC] at f
theorem aAW{d:D}{ys:List D}{z:V}(sb:bO F H)(h:bG X.K F H d z)(e:pX d=qq ys):∃ p xs,z=.ref p/\(bJ X.K H p xs\/bM X.K H p xs)/\DenL X.K F ys xs:=by
 cases d with
 | list l=>cases e;obtain⟨a,xs,e1,q,dl⟩:=h.lst sb;exact⟨a,xs,e1,.inl q,dl⟩
 | tuple l=>cases e;obtain⟨a,xs,e1,q,dl⟩:=h.tup sb;exact⟨a,xs,e1,.inr q,dl⟩
 | _=>cases e
theorem aD5(R:Rel X.K F L S H)(nx:bG X.K F H dx x):decide (x=.non)=iG dx:=by
 cases dx with
 | none=>rw[nx.non];rfl
 | bool c=>rw[nx.bl];rfl
 | int c=>rw[nx.int];rfl
 | str c=>rw[nx.str];rfl
 | list c=>obtain⟨a,xs,rfl,_⟩:=nx.lst R.sub;rfl
 | tuple c=>obtain⟨a,xs,rfl,_⟩:=nx.tup R.sub;rfl
 | dict c =>
   rcases nx with h | ⟨_,_,_,e,_⟩
   ·cases h;rfl
   ·cases e
theorem aNx{op:jx}(hu:X.A.units+64<cLine)(I:Inv X aA σ H s)(rx:aT x v)(ry:aT y u)(R:Rel X.K F L S H)(nx:bG X.K F H dx x)(ny:bG X.K F H dy y)(e:iM op dx dy=qq b)(q:Q (.bl b) H) :
 qu (model X.prog X.w) X.A (zo op v u) (EP X aA σ Q) X.xe s:=by
 cases op with
 | Lt=>obtain⟨i,j,rfl,rfl,e⟩:=gO e;cases e;exact aOx aA s σ H x y v u Q I rx ry ⟨_,_,nx.int,ny.int,q⟩
 | LtE=>obtain⟨i,j,rfl,rfl,e⟩:=gO e;cases e;exact aO6 aA s σ H x y v u Q I rx ry ⟨_,_,nx.int,ny.int,q⟩
 | Gt=>obtain⟨i,j,rfl,rfl,e⟩:=gO e;cases e;exact aPy aA s σ H x y v u Q I rx ry ⟨_,_,nx.int,ny.int,q⟩
 | GtE=>obtain⟨i,j,rfl,rfl,e⟩:=gO e;cases e;exact aOy aA s σ H x y v u Q I rx ry ⟨_,_,nx.int,ny.int,q⟩
 | Eq=>obtain⟨c,rfl⟩:=lB e;exact aPl hu I rx ry R nx ny c.1 c.2.1 c.2.2 q
 | NotEq=>obtain⟨c,rfl⟩:=lB e;exact aPE hu I rx ry R nx ny c.1 c.2.1 c.2.2 q
 | Is =>
   have e':(if iG dy=true then qq (iG dx) else qO dx dy)=qq b:=e
   by_cases c:iG dy=true
   ·rw[if_pos c] at e';cases e';cases aDB c;exact aL5 aA s σ H x y v u Q I rx ry ⟨ny.non,by rw[aD5 R nx];exact q⟩
   ·rw[if_neg c] at e';obtain⟨p1,p2,rfl,rfl,rfl⟩:=aDm e';obtain rfl:=nx.bl;obtain rfl:=ny.bl;cases rx;cases ry;exact wpAny_is_plain rfl (wL I q (by cases p1<;>cases p2<;>rfl))
 | IsNot =>
   have e':(if iG dy=true then qq (!iG dx) else (qO dx dy).bind λ b=>qq (!b))=qq b:=e
   by_cases c:iG dy=true
   ·rw[if_pos c] at e';cases e';cases aDB c;exact aKz aA s σ H x y v u Q I rx ry ⟨ny.non,by rw[aD5 R nx];exact q⟩
   ·rw[if_neg c] at e';obtain⟨b0,e1,e2⟩:=bind_some e';cases e2;obtain⟨p1,p2,rfl,rfl,rfl⟩:=aDm e1;obtain rfl:=nx.bl;obtain rfl:=ny.bl;cases rx;cases ry;exact wpAny_isNot_plain rfl (wL I q (by cases p1<;>cases p2<;>rfl))
 | In =>
   obtain⟨ys,hs,e⟩:=bind_some e;obtain⟨c,rfl⟩:=lB e;obtain⟨p,xs,e1,sq,dl⟩:=aAW R.sub ny hs;refine aI7 aA s σ H x y v u Q I rx ry ⟨p,xs,e1,sq,aAA (nx.flat c.1) c.1,aAD dl c.2,?_⟩;show Q (.bl (qU x xs)) H;rw[aAP (nx.flat c.1) c.1 dl c.2];exact q
 | NotIn =>
   obtain⟨ys,hs,e⟩:=bind_some e;obtain⟨c,rfl⟩:=lB e;obtain⟨p,xs,e1,sq,dl⟩:=aAW R.sub ny hs;refine aHy aA s σ H x y v u Q I rx ry ⟨p,xs,e1,sq,aAA (nx.flat c.1) c.1,aAD dl c.2,?_⟩;show Q (.bl (!qU x xs)) H;rw[aAP (nx.flat c.1) c.1 dl c.2];exact q
theorem aCF{K:FrG}{ds:List D}{xs:List V}(h:DenL K F ds xs):xs.isEmpty=ds.isEmpty:=by cases h<;>rfl
theorem aK8{b:Bool}(R:Rel X.K F L S H)(nx:bG X.K F H dx x)(e:tN dx=qq b):aBY X.K x H b:=by
 cases dx with
 | none=>cases e;rw[nx.non];exact rfl
 | bool c=>cases e;rw[nx.bl];exact rfl
 | int c=>cases e;rw[nx.int];exact rfl
 | str c =>
   rw[nx.str];have e':(if c.length<=qk then qq ((c.length:Int) != 0) else qz)=qq b:=e
   split at e'
   ·rename_i h;cases e';exact⟨h,rfl⟩
   ·cases e'
 | list c=>cases e;obtain⟨a,xs,rfl,sq,dl⟩:=nx.lst R.sub;exact .inl ⟨xs,sq,by rw[aCF dl]⟩
 | tuple c=>cases e;obtain⟨a,xs,rfl,sq,dl⟩:=nx.tup R.sub;exact .inr (.inl ⟨xs,sq,by rw[aCF dl]⟩)
 | dict c=>cases e
end
abbrev FE:=aS->aB->Option (W×aB)
abbrev FT:=aS->aB->Option (Bool×aB)
abbrev FA:=aS->aB->Option (List W×aB)
abbrev FL:=aS->aB->Option (List D×aB)
inductive Fl where
 | nx (env:aS) | rt (w:W) | bk (env:aS) | ct (env:aS)
abbrev FS:=aS->aB->Option (Fl×aB)
inductive WDenL (K:FrG) (F:Hp) (L:List qv):List W->List V->Prop
 | nil:WDenL K F L [] []
 | cons {w:W}{ws:List W}{x:V}{xs:List V}:dQ K F L w x->WDenL K F L ws xs->WDenL K F L (w::ws) (x::xs)
theorem WDenL.mono{K:FrG}{F F':Hp}{L L':List qv}(g:Gr F L F' L'):∀ {ws:List W}{xs:List V},WDenL K F L ws xs->WDenL K F' L' ws xs
 | _,_,.nil=>.nil
 | _,_,.cons h r=>.cons (h.mono g) (r.mono g)
theorem WDenL.length{K:FrG}{F:Hp}{L:List qv}:∀ {ws:List W}{xs:List V},WDenL K F L ws xs->ws.length=xs.length
 | _,_,.nil=>rfl
 | _,_,.cons _ r=>congrArg (· + 1) r.length
section
variable (K : FrG)
def aH(f:FE):TE:=λ σ H Q=>∃ F L S env w S',Rel K F L S H/\EnvR K F L env σ/\f env S=qq (w,S')/\∀ F' L' H' v,Gr F L F' L'->Rel K F' L' S' H'->dQ K F' L' w v->Q v H'
def dU(f:FT):TT:=λ σ H Q=>∃ F L S env b S',Rel K F L S H/\EnvR K F L env σ/\f env S=qq (b,S')/\∀ F' L' H',Gr F L F' L'->Rel K F' L' S' H'->Q b H'
def cP(f:FA):TA:=λ σ H Q=>∃ F L S env ws S',Rel K F L S H/\EnvR K F L env σ/\f env S=qq (ws,S')/\∀ F' L' H' vs,Gr F L F' L'->Rel K F' L' S' H'->WDenL K F' L' ws vs->Q vs H'
def gJ(f:FL):TE:=λ σ H Q=>∃ F L S env ds S',Rel K F L S H/\EnvR K F L env σ/\f env S=qq (ds,S')/\∀ F' L' H' p xs,Gr F L F' L'->Rel K F' L' S' H'->F' p=qz->p ∉ L'->H' p=qq (.lst xs)->DenL K F' ds xs->Q (.ref p) H'
def cE(f:FS):TS:=λ D σ H=>∃ F L S env fl S',Rel K F L S H/\EnvR K F L env σ/\f env S=qq (fl,S')/\∀ F' L' H',Gr F L F' L'->Rel K F' L' S' H'->match fl with
 | .nx aK=>∀ σ',EnvR K F' L' aK σ'->D.nx σ' H'
 | .rt w=>∀ v,dQ K F' L' w v->D.rt v H'
 | .bk aK=>∀ σ',EnvR K F' L' aK σ'->D.bk σ' H'
 | .ct aK=>∀ σ',EnvR K F' L' aK σ'->D.ct σ' H'
end
section
variable {X : Cx}
theorem PE.weak{e:qw}{t t':TE}(h:PE X e t)(w:∀ σ H Q,t' σ H Q->t σ H Q):PE X e t':=λ aA s σ H Q I q=>h aA s σ H Q I (w σ H Q q)
theorem PT.weak{e:qw}{t t':TT}(h:PT X e t)(w:∀ σ H Q,t' σ H Q->t σ H Q):PT X e t':=λ aA s σ H Q I q=>h aA s σ H Q I (w σ H Q q)
theorem PW.weak{e:qw}{t t':TT}(h:PW X e t)(w:∀ σ H Q,t' σ H Q->t σ H Q):PW X e t':=λ wh aA s σ H Q I q=>h wh aA s σ H Q I (w σ H Q q)
theorem PA.weak{e:List qw}{t t':TA}(h:PA X e t)(w:∀ σ H Q,t' σ H Q->t σ H Q):PA X e t':=λ pos aA s σ H Q I q=>h pos aA s σ H Q I (w σ H Q q)
theorem PS.weak{e:zy}{t t':TS}(h:PS X e t)(w:∀ D σ H,t' D σ H->t D σ H):PS X e t':=λ aA s σ H D I q=>h aA s σ H D I (w D σ H q)
theorem bN.weak{e:List zy}{t t':TS}(h:bN X e t)(w:∀ D σ H,t' D σ H->t D σ H):bN X e t':=λ aA s σ H D I q=>h aA s σ H D I (w D σ H q)
abbrev oG(K:FrG)(F:Hp)(L:List qv)(S':aB)(w:W)(Q:VK):Prop:=∀ F' L' H' v,Gr F L F' L'->Rel K F' L' S' H'->dQ K F' L' w v->Q v H'
noncomputable def f2(fa fb:FE)(g:aB->W->W->Option (W×aB)):FE:=λ env S=>(fa env S).bind λ p=>(fb env p.2).bind λ q=>g q.2 p.1 q.1
noncomputable def f1(fa:FE)(g:aB->W->Option (W×aB)):FE:=λ env S=>(fa env S).bind λ p=>g p.2 p.1
theorem oF{K:FrG}{fa fb:FE}{g:aB->W->W->Option (W×aB)}{r:R2}
 (hr:∀ F L S H x y wx wy w S' Q,Rel K F L S H->dQ K F L wx x->dQ K F L wy y->g S wx wy=qq (w,S')->oG K F L S' w Q->r x y H Q)
 (σ:St) (H:Hp) (Q:VK) (h:aH K (f2 fa fb g) σ H Q):uO r (aH K fa) (aH K fb) σ H Q:=by
 obtain⟨F,L,S,env,w,S',R,E,e,q⟩:=h;unfold f2 at e;cases ea:fa env S with
 | none=>rw[ea] at e;cases e
 | some p =>
   obtain⟨wx,S1⟩:=p;rw[ea] at e;dsimp only[yCs] at e;cases eb:fb env S1 with
   | none=>rw[eb] at e;cases e
   | some p2 =>
     obtain⟨wy,S2⟩:=p2;rw[eb] at e;dsimp only at e;refine⟨F,L,S,env,wx,S1,R,E,ea,λ F1 L1 H1 x g1 R1 d1=>⟨F1,L1,S1,env,wy,S2,R1,E.mono g1,eb,λ F2 L2 H2 y g2 R2 d2=>?_⟩⟩
     exact hr F2 L2 S2 H2 x y wx wy w S' Q R2 (d1.mono g2) d2 e λ F3 L3 H3 v g3 R3 d3=>q F3 L3 H3 v ((g1.trans g2).trans g3) R3 d3
theorem aQh{K:FrG}{fa:FE}{g:aB->W->Option (W×aB)}{r:V->Hp->VK->Prop}
 (hr:∀ F L S H x wx w S' Q,Rel K F L S H->dQ K F L wx x->g S wx=qq (w,S')->oG K F L S' w Q->r x H Q)
 (σ:St) (H:Hp) (Q:VK) (h:aH K (f1 fa g) σ H Q):tUn r (aH K fa) σ H Q:=by
 obtain⟨F,L,S,env,w,S',R,E,e,q⟩:=h;unfold f1 at e;cases ea:fa env S with
 | none=>rw[ea] at e;cases e
 | some p =>
   obtain⟨wx,S1⟩:=p;rw[ea] at e;dsimp only[yCs] at e;refine⟨F,L,S,env,wx,S1,R,E,ea,λ F1 L1 H1 x g1 R1 d1=>?_⟩
   exact hr F1 L1 S1 H1 x wx w S' Q R1 d1 e λ F3 L3 H3 v g3 R3 d3=>q F3 L3 H3 v (g1.trans g3) R3 d3
noncomputable def fH(i:Nat):FE:=λ env S=>match env[i]? with
 | some (qq w)=>qq (w,S)
 | _=>qz
theorem aIC{i:Nat}{env:aS}{S S':aB}{w:W}(h:fH i env S=qq (w,S')):env[i]? = qq (qq w)/\S'=S:=by
 unfold fH at h
 split at h
 ·rename_i w' e;cases h;exact⟨e,rfl⟩
 ·cases h
theorem aBm{i:Nat}{x:Str}{pos:Pos}(hN:X.N[i]? = qq x)(hv:lO X.env.scope x)(hd:(x==("__debug__" : Str))=false)(hcd:(x==("__classdict__" : Str))=false):PE X (.Name x pos) (aH X.K (fH i)):=
 PE.weak (aBf hN hv hd hcd) λ σ H Q aJ=>by
  obtain⟨F,L,S,env,w,S',R,E,e,q⟩:=aJ;obtain⟨e1,rfl⟩:=aIC e;obtain⟨v,e2,d⟩:=E.get i w e1;exact⟨v,e2,q F L H v Gr.refl R d⟩
noncomputable def fC(d:D):FE:=λ _ S=>qq (.d d,S)
theorem aO9{i j pos}:PE X (.Constant (.int i) j pos) (aH X.K (fC (.int i))):=
 PE.weak aNi λ σ H Q aJ=>by obtain⟨F,L,S,env,w,S',R,E,e,q⟩:=aJ;cases e;exact q F L H _ Gr.refl R (.int i)
theorem aGy{b j pos}:PE X (.Constant (.bool b) j pos) (aH X.K (fC (.bool b))):=
 PE.weak aPq λ σ H Q aJ=>by obtain⟨F,L,S,env,w,S',R,E,e,q⟩:=aJ;cases e;exact q F L H _ Gr.refl R (.bl b)
theorem aO4{j pos}:PE X (.Constant .none j pos) (aH X.K (fC .none)):=
 PE.weak aMs λ σ H Q aJ=>by obtain⟨F,L,S,env,w,S',R,E,e,q⟩:=aJ;cases e;exact q F L H _ Gr.refl R .non
theorem aFL{x j pos}:PE X (.Constant (.str x) j pos) (aH X.K (fC (.str x))):=
 PE.weak aFv λ σ H Q aJ=>by obtain⟨F,L,S,env,w,S',R,E,e,q⟩:=aJ;cases e;exact q F L H _ Gr.refl R (.str x)
noncomputable def gC(g:D->D->Option D)(S:aB)(x y:W):Option (W×aB):=(dr S x).bind λ a=>(dr S y).bind λ b=>(g a b).bind λ z=>qq (.d z,S)
noncomputable def dM(g:D->Option D)(S:aB)(x:W):Option (W×aB):=(dr S x).bind λ a=>(g a).bind λ z=>qq (.d z,S)
theorem nH{g:D->D->Option D}{S S':aB}{x y w:W}(h:gC g S x y=qq (w,S')):∃ a b z,dr S x=qq a/\dr S y=qq b/\g a b=qq z/\w=.d z/\S'=S:=by
 unfold gC at h;cases e1:dr S x with
 | none=>rw[e1] at h;cases h
 | some a =>
   cases e2:dr S y with
   | none=>rw[e1,e2] at h;cases h
   | some b =>
     rw[e1,e2] at h;dsimp only[yCs] at h;cases e3:g a b with
     | none=>rw[e3] at h;cases h
     | some z=>rw[e3] at h;cases h;exact⟨a,b,z,rfl,rfl,e3,rfl,rfl⟩
theorem pH{g:D->Option D}{S S':aB}{x w:W}(h:dM g S x=qq (w,S')):∃ a z,dr S x=qq a/\g a=qq z/\w=.d z/\S'=S:=by
 unfold dM at h;cases e1:dr S x with
 | none=>rw[e1] at h;cases h
 | some a =>
   rw[e1] at h;dsimp only[yCs] at h;cases e3:g a with
   | none=>rw[e3] at h;cases h
   | some z=>rw[e3] at h;cases h;exact⟨a,z,rfl,e3,rfl,rfl⟩
theorem rW{K:FrG}{F:Hp}{L:List qv}{S:aB}{z:D}{Q:VK}(X:Cx)(hK:X.K=K)(q:oG K F L S (.d z) Q):eI X F L S z Q:=λ F' H' r sf R d=>by
 subst hK;exact q F' L H' r ⟨sf,[],by simp⟩ R d
noncomputable def nB(X:Cx)(g:D->D->Option D):R2:=λ x y H Q=>∃ F L S dx dy z,Rel X.K F L S H/\bG X.K F H dx x/\bG X.K F H dy y/\g dx dy=qq z/\eI X F L S z Q
theorem kW{g:D->D->Option D}(F:Hp)(L:List qv)(S:aB)(H:Hp)(x y:V)(wx wy w:W)(S':aB)(Q:VK)(R:Rel X.K F L S H)(h1:dQ X.K F L wx x)(h2:dQ X.K F L wy y)(e:gC g S wx wy=qq (w,S'))(q:oG X.K F L S' w Q):nB X g x y H Q:=by
 obtain⟨a,b,z,e1,e2,e3,rfl,rfl⟩:=nH e;exact⟨F,L,S',a,b,z,R,fM R h1 e1,fM R h2 e2,e3,rW X rfl q⟩
noncomputable def kE(op:vz)(fa fb:FE):FE:=f2 fa fb (gC (bL op))
theorem aGh{a b:qw}{op:vz}{pos:Pos}{fa fb:FE}(ha:PE X a (aH X.K fa))(hb:PE X b (aH X.K fb)):PE X (.BinOp a op b pos) (aH X.K (kE op fa fb)):=
 PE.weak (aFI (r:=nB X (bL op)) (λ aA s σ H x y v u Q I rx ry hPr2=>by obtain⟨F,L,S,dx,dy,z,R,nx,ny,e,q⟩:=hPr2;exact aE6 I rx ry R nx ny e q) ha hb) (oF kW)
noncomputable def yQ(op:yx)(fa:FE):FE:=f1 fa (dM (qS op))
theorem aPX{a:qw}{op:yx}{pos:Pos}{fa:FE}(ha:PE X a (aH X.K fa)):PE X (.UnaryOp op a pos) (aH X.K (yQ op fa)):=
 PE.weak (aOk (r:=λ x H Q=>∃ F L S dx z,Rel X.K F L S H/\bG X.K F H dx x/\qS op dx=qq z/\eI X F L S z Q) (λ aA s σ H x v Q I rx hPr3=>by obtain⟨F,L,S,dx,z,R,nx,e,q⟩:=hPr3;exact aOv I rx R nx e q) ha)
  (aQh λ F L S H x wx w S' Q R d e q=>by
    obtain⟨a,z,e1,e3,rfl,rfl⟩:=pH e;exact⟨F,L,S',a,z,R,fM R d e1,e3,rW X rfl q⟩)
noncomputable def aZ(op:jx)(x y:D):Option D:=(iM op x y).map yAs
theorem pF{op:jx}(hu:X.A.units+64<cLine):bS X (zo op) (nB X (aZ op)):=λ aA s σ H x y v u Q I rx ry aJ=>by
 obtain⟨F,L,S,dx,dy,z,R,nx,ny,e,q⟩:=aJ;unfold aZ at e;cases ec:iM op dx dy with
 | none=>rw[ec] at e;cases e
 | some b=>rw[ec] at e;cases e;exact aNx hu I rx ry R nx ny ec (q.here R (.bl b))
noncomputable def kA(op:jx)(fa fb:FE):FE:=f2 fa fb (gC (aZ op))
theorem aF7{a b:qw}{op:jx}{pos:Pos}{fa fb:FE}(hu:X.A.units+64<cLine)(ha:PE X a (aH X.K fa))(hb:PE X b (aH X.K fb))(hm:jv op b=false):PE X (.Compare a [op] [b] pos) (aH X.K (kA op fa fb)):=
 PE.weak (aAY (pF hu) ha hb hm) (oF kW)
noncomputable def cG(fa:FE):FT:=λ env S=>(fa env S).bind λ p=>(dr p.2 p.1).bind λ d=>(tN d).bind λ b=>qq (b,p.2)
theorem vM{fa:FE}{env:aS}{S S':aB}{b:Bool}(h:cG fa env S=qq (b,S')):∃ w d,fa env S=qq (w,S')/\dr S' w=qq d/\tN d=qq b:=by
 unfold cG at h;cases ea:fa env S with
 | none=>rw[ea] at h;cases h
 | some p =>
   obtain⟨w,S1⟩:=p;rw[ea] at h;dsimp only[yCs] at h;cases e1:dr S1 w with
   | none=>rw[e1] at h;cases h
   | some d =>
     rw[e1] at h;dsimp only at h;cases e2:tN d with
     | none=>rw[e2] at h;cases h
     | some c=>rw[e2] at h;cases h;exact⟨w,d,rfl,e1,e2⟩
theorem aPo{a:qw}{fa:FE}(ha:PE X a (aH X.K fa))(he:∀ eK,isTrue a X.env eK=(do let v <- eK;standAt a.pos;holding [v] (truthy v))):PT X a (dU X.K (cG fa)):=
 PT.weak (aJd ha he) λ σ H Q aJ=>by
  obtain⟨F,L,S,env,b,S',R,E,e,q⟩:=aJ;obtain⟨w,d,e1,e2,e3⟩:=vM e;exact⟨F,L,S,env,w,S',R,E,e1,λ F1 L1 H1 v g1 R1 d1=>⟨b,aK8 R1 (fM R1 d1 e2) e3,q F1 L1 H1 g1 R1⟩⟩
theorem aM9{a b:qw}{op:jx}{pos:Pos}{fa fb:FE}(hu:X.A.units+64<cLine)(ha:PE X a (aH X.K fa))(hb:PE X b (aH X.K fb))(hm:jv op b=false):PT X (.Compare a [op] [b] pos) (dU X.K (cG (kA op fa fb))):=
 PT.weak (aEr (pF hu) ha hb hm) λ σ H Q aJ=>by
  obtain⟨F,L,S,env,b,S',R,E,e,q⟩:=aJ;obtain⟨w,d,e1,e2,e3⟩:=vM e;refine oF (fa:=fa) (fb:=fb) (g:=gC (aZ op)) kW σ H _ ⟨F,L,S,env,w,S',R,E,e1,λ F1 L1 H1 v g1 R1 d1=>?_⟩
  have hc:∃ c,w=.d (.bool c):=by
   unfold kA f2 at e1;cases ea:fa env S with
   | none=>rw[ea] at e1;cases e1
   | some p =>
     rw[ea] at e1;dsimp only[yCs] at e1;cases eb:fb env p.2 with
     | none=>rw[eb] at e1;cases e1
     | some p2 =>
       rw[eb] at e1;dsimp only at e1;obtain⟨_,_,z,_,_,e6,rfl,_⟩:=nH e1;unfold aZ at e6;cases e7:iM op _ _ with
       | none=>rw[e7] at e6;cases e6
       | some c=>rw[e7] at e6;cases e6;exact⟨c,rfl⟩
  obtain⟨c,rfl⟩:=hc;cases e2;cases e3;have hv:v=.bl b:=by cases (show Den X.K F1 (.bool b) v from d1);rfl
  exact⟨b,hv,q F1 L1 H1 g1 R1⟩
end
section
variable {X : Cx}{pos : Pos}
noncomputable def xO(fa fb:FT):FT:=λ env S=>(fa env S).bind λ p=>if p.1=true then fb env p.2 else qq (false,p.2)
noncomputable def yM(fa fb:FT):FT:=λ env S=>(fa env S).bind λ p=>if p.1=true then qq (true,p.2) else fb env p.2
noncomputable def xU(fa:FT):FT:=λ env S=>(fa env S).bind λ p=>qq (!p.1,p.2)
theorem aFX{K:FrG}{fa fb:FT}(σ:St)(H:Hp)(Q:Bool->Hp->Prop)(h:dU K (xO fa fb) σ H Q):aGL (dU K fa) (dU K fb) σ H Q:=by
 obtain⟨F,L,S,env,b,S',R,E,e,q⟩:=h;obtain⟨⟨c,S1⟩,e1,e2⟩:=bind_some e;refine⟨F,L,S,env,c,S1,R,E,e1,λ F1 L1 H1 g1 R1=>?_⟩
 dsimp only at e2;cases c with
 | true=>exact oK ⟨F1,L1,S1,env,b,S',R1,E.mono g1,by simpa using e2,λ F2 L2 H2 g2 R2=>q F2 L2 H2 (g1.trans g2) R2⟩
 | false =>
   have e3:qq (false,S1)=qq (b,S'):=by simpa using e2
   cases e3;exact oE (q F1 L1 H1 g1 R1)
theorem aGU{K:FrG}{fa fb:FT}(σ:St)(H:Hp)(Q:Bool->Hp->Prop)(h:dU K (yM fa fb) σ H Q):tOr (dU K fa) (dU K fb) σ H Q:=by
 obtain⟨F,L,S,env,b,S',R,E,e,q⟩:=h;obtain⟨⟨c,S1⟩,e1,e2⟩:=bind_some e;refine⟨F,L,S,env,c,S1,R,E,e1,λ F1 L1 H1 g1 R1=>?_⟩
 dsimp only at e2;cases c with
 | false=>exact oE ⟨F1,L1,S1,env,b,S',R1,E.mono g1,by simpa using e2,λ F2 L2 H2 g2 R2=>q F2 L2 H2 (g1.trans g2) R2⟩
 | true =>
   have e3:qq (true,S1)=qq (b,S'):=by simpa using e2
   cases e3;exact oK (q F1 L1 H1 g1 R1)
theorem aPt{a:qw}{fa:FT}(ha:PT X a (dU X.K fa)):PT X (.UnaryOp .Not a pos) (dU X.K (xU fa)):=
 PT.weak (aMM ha) λ σ H Q aJ=>by
  obtain⟨F,L,S,env,b,S',R,E,e,q⟩:=aJ;obtain⟨⟨c,S1⟩,e1,e2⟩:=bind_some e;cases e2;exact⟨F,L,S,env,c,S1,R,E,e1,q⟩
noncomputable def sR(fa fb:FE):FE:=λ env S=>(fa env S).bind λ p=>match p.1 with
 | .d (.bool true)=>fb env p.2
 | .d (.bool false)=>qq (.d (.bool false),p.2)
 | _=>qz
noncomputable def xZ(fa fb:FE):FE:=λ env S=>(fa env S).bind λ p=>match p.1 with
 | .d (.bool false)=>fb env p.2
 | .d (.bool true)=>qq (.d (.bool true),p.2)
 | _=>qz
noncomputable def xI(fa:FE):FE:=λ env S=>(fa env S).bind λ p=>match p.1 with
 | .d (.bool b)=>qq (.d (.bool (!b)),p.2)
 | _=>qz
theorem tE{K:FrG}{F:Hp}{L:List qv}{b:Bool}{v:V}(h:dQ K F L (.d (.bool b)) v):v=.bl b:=by cases (show Den K F (.bool b) v from h);rfl
theorem wM{K:FrG}{fa fb:FE}(σ:St)(H:Hp)(Q:VK)(h:aH K (sR fa fb) σ H Q):aGk (aH K fa) (aH K fb) σ H Q:=by
 obtain⟨F,L,S,env,w,S',R,E,e,q⟩:=h;obtain⟨⟨c,S1⟩,e1,e2⟩:=bind_some e;dsimp only at e2
 split at e2
 ·exact⟨F,L,S,env,_,S1,R,E,e1,λ F1 L1 H1 v g1 R1 d1=>⟨true,tE d1,oK ⟨F1,L1,S1,env,w,S',R1,E.mono g1,e2,λ F2 L2 H2 v2 g2 R2 d2=>q F2 L2 H2 v2 (g1.trans g2) R2 d2⟩⟩⟩
 ·cases e2;exact⟨F,L,S,env,_,_,R,E,e1,λ F1 L1 H1 v g1 R1 d1=>⟨false,tE d1,oE (q F1 L1 H1 _ g1 R1 (Den.bl false))⟩⟩
 ·cases e2
theorem aF4{K:FrG}{fa fb:FE}(σ:St)(H:Hp)(Q:VK)(h:aH K (xZ fa fb) σ H Q):aGr (aH K fa) (aH K fb) σ H Q:=by
 obtain⟨F,L,S,env,w,S',R,E,e,q⟩:=h;obtain⟨⟨c,S1⟩,e1,e2⟩:=bind_some e;dsimp only at e2
 split at e2
 ·exact⟨F,L,S,env,_,S1,R,E,e1,λ F1 L1 H1 v g1 R1 d1=>⟨false,tE d1,oE ⟨F1,L1,S1,env,w,S',R1,E.mono g1,e2,λ F2 L2 H2 v2 g2 R2 d2=>q F2 L2 H2 v2 (g1.trans g2) R2 d2⟩⟩⟩
 ·cases e2;exact⟨F,L,S,env,_,_,R,E,e1,λ F1 L1 H1 v g1 R1 d1=>⟨true,tE d1,oK (q F1 L1 H1 _ g1 R1 (Den.bl true))⟩⟩
 ·cases e2
theorem aMy{a:qw}{fa:FE}(ha:PE X a (aH X.K fa)):PE X (.UnaryOp .Not a pos) (aH X.K (xI fa)):=
 PE.weak (aN0 ha) λ σ H Q aJ=>by
  obtain⟨F,L,S,env,w,S',R,E,e,q⟩:=aJ;obtain⟨⟨c,S1⟩,e1,e2⟩:=bind_some e;dsimp only at e2
  split at e2
  ·cases e2;exact⟨F,L,S,env,_,_,R,E,e1,λ F1 L1 H1 v g1 R1 d1=>⟨_,tE d1,q F1 L1 H1 _ g1 R1 (Den.bl _)⟩⟩
  ·cases e2
noncomputable def oN(fc:FT)(fa fb:FE):FE:=λ env S=>(fc env S).bind λ p=>if p.1=true then fa env p.2 else fb env p.2
theorem aO7{c a b:qw}{fc:FT}{fa fb:FE}(hc:PT X c (dU X.K fc))(ha:PE X a (aH X.K fa))(hb:PE X b (aH X.K fb)):PE X (.IfExp c a b pos) (aH X.K (oN fc fa fb)):=
 PE.weak (aJJ hc ha hb) λ σ H Q aJ=>by
  obtain⟨F,L,S,env,w,S',R,E,e,q⟩:=aJ;obtain⟨⟨c,S1⟩,e1,e2⟩:=bind_some e;refine⟨F,L,S,env,c,S1,R,E,e1,λ F1 L1 H1 g1 R1=>?_⟩
  dsimp only at e2;cases c with
  | true=>exact oK ⟨F1,L1,S1,env,w,S',R1,E.mono g1,by simpa using e2,λ F2 L2 H2 v g2 R2 d2=>q F2 L2 H2 v (g1.trans g2) R2 d2⟩
  | false=>exact oE ⟨F1,L1,S1,env,w,S',R1,E.mono g1,by simpa using e2,λ F2 L2 H2 v g2 R2 d2=>q F2 L2 H2 v (g1.trans g2) R2 d2⟩
noncomputable def fO:FA:=λ _ S=>qq ([],S)
noncomputable def cB(fa:FE)(fr:FA):FA:=λ env S=>(fa env S).bind λ p=>(fr env p.2).bind λ q=>qq (p.1::q.1,q.2)
theorem nX:PA X [] (cP X.K fO):=PA.weak pS λ σ H Q aJ=>by obtain⟨F,L,S,env,ws,S',R,E,e,q⟩:=aJ;cases e;exact q F L H [] Gr.refl R .nil
theorem nS{e:qw}{es:List qw}{fa:FE}{fr:FA}(ha:PE X e (aH X.K fa))(hr:PA X es (cP X.K fr))(hs:zj (e::es) X.env=(false,eval e X.env)::zj es X.env):PA X (e::es) (cP X.K (cB fa fr)):=
 PA.weak (jP ha hr hs) λ σ H Q aJ=>by
  obtain⟨F,L,S,env,ws,S',R,E,e,q⟩:=aJ;obtain⟨⟨w,S1⟩,e1,e2⟩:=bind_some e;obtain⟨⟨wr,S2⟩,e3,e4⟩:=bind_some e2;cases e4;exact⟨F,L,S,env,w,S1,R,E,e1,λ F1 L1 H1 v g1 R1 d1=>⟨F1,L1,S1,env,wr,S2,R1,E.mono g1,e3,λ F2 L2 H2 vs g2 R2 d2=>q F2 L2 H2 _ (g1.trans g2) R2 (.cons (d1.mono g2) d2)⟩⟩
noncomputable def uG:List W->Option (List D)
 | []=>qq []
 | .d x::r=>(uG r).bind λ l=>qq (x::l)
 | .loc _::_=>qz
 | .exc _ _::_=>qz
theorem aAt{K:FrG}{F:Hp}{L:List qv}:∀ {ws:List W}{xs:List V}{ds:List D},WDenL K F L ws xs->uG ws=qq ds->DenL K F ds xs
 | _,_,_,.nil,e=>by cases e;exact .nil
 | .d x::r,_,_,.cons h t,e=>by
   obtain⟨l,e1,e2⟩:=bind_some e;cases e2;exact .cons h (aAt t e1)
 | .loc _::_,_,_,.cons _ _,e=>by cases e
 | .exc _ _::_,_,_,.cons _ _,e=>by cases e
noncomputable def tV(fs:FA):FE:=λ env S=>(fs env S).bind λ p=>(uG p.1).bind λ ds=>if ds.length<=qk then qq (.d (.tuple ds),p.2) else qz
theorem aF9{es:List qw}{k:Nat}{fs:FA}(h:PA X es (cP X.K fs)):PE X (.Tuple es k pos) (aH X.K (tV fs)):=
 PE.weak (aA2 h) λ σ H Q aJ=>by
  obtain⟨F,L,S,env,w,S',R,E,e,q⟩:=aJ;obtain⟨⟨ws,S1⟩,e1,e2⟩:=bind_some e;obtain⟨ds,e3,e4⟩:=bind_some e2
  split at e4
  ·rename_i hz;cases e4;refine⟨F,L,S,env,ws,_,R,E,e1,λ F1 L1 H1 vs g1 R1 d1=>?_⟩
   have dl:=aAt d1 e3;refine⟨by rw[<- dl.length];exact hz,λ p hp=>?_⟩
   exact q _ L1 _ _ (g1.trans (Gr.new (R1.sub.free hp))) (R1.new hp) (Den.tup (bM.of bQ) (dl.mono (eN (R1.sub.free hp))))
  ·cases e4
noncomputable def jB(fs:FA):FL:=λ env S=>(fs env S).bind λ p=>(uG p.1).bind λ ds=>if ds.length<=qk then qq (ds,p.2) else qz
theorem sY{es:List qw}{fs:FA}(h:PA X es (cP X.K fs)):PE X (.List es pos) (gJ X.K (jB fs)):=
 PE.weak (aNX h) λ σ H Q aJ=>by
  obtain⟨F,L,S,env,ds,S',R,E,e,q⟩:=aJ;obtain⟨⟨ws,S1⟩,e1,e2⟩:=bind_some e;obtain⟨ds',e3,e4⟩:=bind_some e2
  split at e4
  ·rename_i hz;cases e4;refine⟨F,L,S,env,ws,_,R,E,e1,λ F1 L1 H1 vs g1 R1 d1=>?_⟩
   have dl:=aAt d1 e3;exact⟨by rw[<- dl.length];exact hz,λ p hp=>q F1 L1 _ p vs g1 (R1.lay hp) (R1.sub.free hp) (R1.notin hp) bQ dl⟩
  ·cases e4
noncomputable def fQ(f:FL):FE:=λ env S=>(f env S).bind λ p=>qq (.d (.list p.1),p.2)
theorem qJ{e:qw}{f:FL}(h:PE X e (gJ X.K f)):PE X e (aH X.K (fQ f)):=
 PE.weak h λ σ H Q aJ=>by
  obtain⟨F,L,S,env,w,S',R,E,e,q⟩:=aJ;obtain⟨⟨ds,S1⟩,e1,e2⟩:=bind_some e;cases e2;exact⟨F,L,S,env,ds,_,R,E,e1,λ F1 L1 H1 p xs g1 R1 hF hL hH dl=>q _ L1 _ _ (g1.trans (Gr.new hF)) (R1.adopt hF hL hH) (Den.lst (bJ.of bQ) (dl.mono (eN hF)))⟩
noncomputable def fG(f:FL):FE:=λ env S=>(f env S).bind λ p=>qq (.loc p.2.length,p.2++[qq p.1])
theorem aF0{e:qw}{f:FL}(h:PE X e (gJ X.K f)):PE X e (aH X.K (fG f)):=
 PE.weak h λ σ H Q aJ=>by
  obtain⟨F,L,S,env,w,S',R,E,e,q⟩:=aJ;obtain⟨⟨ds,S1⟩,e1,e2⟩:=bind_some e;cases e2;refine⟨F,L,S,env,ds,_,R,E,e1,λ F1 L1 H1 p xs g1 R1 hF hL hH dl=>q _ _ _ _ (g1.trans Gr.newLoc) (R1.adoptLoc hF hL hH dl) ⟨p,?_,rfl⟩⟩
  dsimp only;rw[<- R1.len,yAd (yAe _)];simp
noncomputable def bH:D->D->Option D
 | .list xs,.int i=>hB xs i
 | .tuple xs,.int i=>hB xs i
 | .str z,.int i=>if z.length<=qk then (hB z.cps.toList i).bind λ c=>qq (.str ⟨#[c]⟩) else qz
 | _,_=>qz
theorem aD4{K:FrG}{F:Hp}{ds:List D}{xs:List V}{i:Int}{d:D}(h:DenL K F ds xs)(e:hB ds i=qq d):∃ x,hB xs i=qq x/\Den K F d x:=by
 unfold hB at e ⊢;rw[<- h.length];obtain⟨j,e1,e2⟩:=bind_some e;obtain⟨x,e3,dx⟩:=h.get e2;exact⟨x,by rw[e1];exact e3,dx⟩
theorem aLg:kN X (nB X bH):=λ value slice aA s σ H x y v u Q I rx ry aJ hs=>by
 obtain⟨F,L,S,dx,dy,z,R,nx,ny,e,q⟩:=aJ;unfold bH at e
 split at e
 ·obtain⟨a,xs,rfl,sq,dl⟩:=nx.lst R.sub;obtain⟨r,e1,d1⟩:=aD4 dl e;exact aKQ value slice aA s σ H _ y v u Q I rx ry ⟨a,xs,_,r,rfl,ny.int,sq,e1,q.here R d1⟩ hs
 ·obtain⟨a,xs,rfl,sq,dl⟩:=nx.tup R.sub;obtain⟨r,e1,d1⟩:=aD4 dl e;exact aMb value slice aA s σ H _ y v u Q I rx ry ⟨a,xs,_,r,rfl,ny.int,sq,e1,q.here R d1⟩ hs
 ·split at e
  ·rename_i hz;obtain⟨c,e1,e2⟩:=bind_some e;cases e2;exact aME value slice aA s σ H x y v u Q I rx ry ⟨_,_,c,nx.str,ny.int,hz,e1,q.here R (.str _)⟩ hs
  ·cases e
 ·cases e
noncomputable def rA(fa fb:FE):FE:=f2 fa fb (gC bH)
theorem aPU{a b:qw}{fa fb:FE}(ha:PE X a (aH X.K fa))(hb:PE X b (aH X.K fb))(hs:vW b):PE X (.Subscript a b pos) (aH X.K (rA fa fb)):=
 PE.weak (aGj aLg ha hb hs) (oF kW)
abbrev FO:=aS->aB->Option (Option Int×aB)
noncomputable def dS:FO:=λ _ S=>qq (qz,S)
noncomputable def cY(fa:FE):FO:=λ env S=>(fa env S).bind λ p=>match p.1 with
 | .d (.int i)=>qq (qq i,p.2)
 | _=>qz
def iK(K:FrG)(f:FO):TO:=λ σ H Q=>∃ F L S env o S',Rel K F L S H/\EnvR K F L env σ/\f env S=qq (o,S')/\∀ F' L' H',Gr F L F' L'->Rel K F' L' S' H'->Q o H'
theorem aQs:PO X qz (iK X.K dS):=λ aA s σ H Q I aJ=>by
 obtain⟨F,L,S,env,o,S',R,E,e,q⟩:=aJ;cases e;exact aKk aA s σ H Q I (q F L H Gr.refl R)
theorem aNU{a:qw}{fa:FE}(ha:PE X a (aH X.K fa)):PO X (qq a) (iK X.K (cY fa)):=λ aA s σ H Q I aJ=>by
 obtain⟨F,L,S,env,o,S',R,E,e,q⟩:=aJ;obtain⟨⟨w,S1⟩,e1,e2⟩:=bind_some e;dsimp only at e2
 split at e2
 ·cases e2;refine aLu ha aA s σ H Q I ⟨F,L,S,env,_,_,R,E,e1,λ F1 L1 H1 v g1 R1 d1=>?_⟩
  cases (show Den X.K F1 (.int _) v from d1)
  exact⟨_,rfl,q F1 L1 H1 g1 R1⟩
 ·cases e2
noncomputable def cC(xs:List D)(lo hi:Option Int):List D:=(xs.drop (HT.sIx xs.length 0 lo)).take (HT.sIx xs.length xs.length hi-HT.sIx xs.length 0 lo)
theorem aEm{K:FrG}{F:Hp}{ds:List D}{xs:List V}(h:DenL K F ds xs)(lo hi:Option Int):DenL K F (cC ds lo hi) (lI xs lo hi):=by
 unfold cC lI;rw[h.length];exact(h.drop _).take _
noncomputable def slL:D->Option Int->Option Int->Option (List D)
 | .list xs,lo,hi=>qq (cC xs lo hi)
 | _,_,_=>qz
noncomputable def aGT(fa:FE)(fl fh:FO):FL:=λ env S=>(fa env S).bind λ p=>(fl env p.2).bind λ q=>(fh env q.2).bind λ r=>(dr r.2 p.1).bind λ d=>(slL d q.1 r.1).bind λ z=>qq (z,r.2)
theorem aOO{a:qw}{lo hi:Option qw}{p2:Pos}{fa:FE}{fl fh:FO}(ha:PE X a (aH X.K fa))(hl:PO X lo (iK X.K fl))(hh:PO X hi (iK X.K fh)):PE X (.Subscript a (.Slice lo hi qz p2) pos) (gJ X.K (aGT fa fl fh)):=
 PE.weak (aAJ aLl ha hl hh) λ σ H Q aJ=>by
  obtain⟨F,L,S,env,ds,S',R,E,e,q⟩:=aJ;obtain⟨⟨w,S1⟩,e1,e⟩:=bind_some e;obtain⟨⟨l,S2⟩,e2,e⟩:=bind_some e;obtain⟨⟨h,S3⟩,e3,e⟩:=bind_some e;obtain⟨d,e4,e⟩:=bind_some e;obtain⟨z,e5,e⟩:=bind_some e;cases e;refine⟨F,L,S,env,w,S1,R,E,e1,λ F1 L1 H1 v g1 R1 d1=>⟨F1,L1,S1,env,l,S2,R1,E.mono g1,e2,λ F2 L2 H2 g2 R2=>⟨F2,L2,S2,env,h,S3,R2,E.mono (g1.trans g2),e3,λ F3 L3 H3 g3 R3=>?_⟩⟩⟩
  have n:=fM R3 (d1.mono (g2.trans g3)) e4;cases d with
  | list xs =>
    cases e5;obtain⟨a,vs,rfl,sq,dl⟩:=n.lst R3.sub;exact⟨a,vs,rfl,sq,λ p hp=>q F3 L3 _ p _ ((g1.trans g2).trans g3) (R3.lay hp) (R3.sub.free hp) (R3.notin hp) bQ (aEm dl l h)⟩
  | _=>cases e5
noncomputable def hZ(K:FrG)(np:Nat)(call:List W->aB->Option (W×aB)):Sp:=λ vs H Q _=>∃ F L S ws w S',ws.length=np/\Rel K F L S H/\WDenL K F L ws vs/\call ws S=qq (w,S')/\oG K F L S' w Q
noncomputable def sZ(fs:FA)(np:Nat)(call:List W->aB->Option (W×aB)):FE:=λ env S=>(fs env S).bind λ p=>if p.1.length=np then call p.1 p.2 else qz
theorem aNL{K:FrG}{fs:FA}{np:Nat}{call:List W->aB->Option (W×aB)}(σ:St)(H:Hp)(Q:VK)(h:aH K (sZ fs np call) σ H Q):xA (hZ K np call) [] E0 (cP K fs) σ H Q:=by
 obtain⟨F,L,S,env,w,S',R,E,e,q⟩:=h;obtain⟨⟨ws,S1⟩,e1,e⟩:=bind_some e
 split at e
 ·rename_i hn;refine⟨F,L,S,env,ws,S1,R,E,e1,λ F1 L1 H1 vs g1 R1 d1=>⟨F1,L1,S1,ws,w,S',hn,R1,by rw[yAu];exact d1,e,λ F2 L2 H2 v g2 R2 d2=>q F2 L2 H2 v (g1.trans g2) R2 d2⟩⟩
 ·cases e
inductive NowL (K:FrG) (F H:Hp):List D->List V->Prop
 | nil:NowL K F H [] []
 | cons {d:D}{ds:List D}{x:V}{xs:List V}:bG K F H d x->NowL K F H ds xs->NowL K F H (d::ds) (x::xs)
noncomputable def zB(S:aB):List W->Option (List D)
 | []=>qq []
 | w::r=>(dr S w).bind λ d=>(zB S r).bind λ l=>qq (d::l)
theorem aEi{K:FrG}{F H:Hp}{L:List qv}{S:aB}(R:Rel K F L S H):∀ {ws:List W}{xs:List V}{ds:List D},WDenL K F L ws xs->zB S ws=qq ds->NowL K F H ds xs
 | _,_,_,.nil,e=>by cases e;exact .nil
 | _,_,_,.cons h t,e=>by
   obtain⟨d,e1,e⟩:=bind_some e;obtain⟨l,e2,e⟩:=bind_some e;cases e;exact .cons (fM R h e1) (aEi R t e2)
noncomputable def kM(X:Cx)(g:List D->Option D):List V->Hp->VK->Prop:=λ xs H Q=>∃ F L S ds z,Rel X.K F L S H/\NowL X.K F H ds xs/\g ds=qq z/\eI X F L S z Q
noncomputable def qL(fs:FA)(g:List D->Option D):FE:=λ env S=>(fs env S).bind λ p=>(zB p.2 p.1).bind λ ds=>(g ds).bind λ z=>qq (.d z,p.2)
theorem lE{fs:FA}{g:List D->Option D}(σ:St)(H:Hp)(Q:VK)(h:aH X.K (qL fs g) σ H Q):uS (kM X g) (cP X.K fs) σ H Q:=by
 obtain⟨F,L,S,env,w,S',R,E,e,q⟩:=h;obtain⟨⟨ws,S1⟩,e1,e⟩:=bind_some e;obtain⟨ds,e2,e⟩:=bind_some e;obtain⟨z,e3,e⟩:=bind_some e;cases e;refine⟨F,L,S,env,ws,_,R,E,e1,λ F1 L1 H1 vs g1 R1 d1=>⟨F1,L1,S1,ds,z,R1,aEi R1 d1 e2,e3,rW X rfl λ F2 L2 H2 v g2 R2 d2=>q F2 L2 H2 v (g1.trans g2) R2 d2⟩⟩
end
section
variable {prog : zq}{w : zx}{A : zv}{E : qx -> qj -> Prop}{s : qj}
theorem aC6{it t:qv}{aM:Array qx}(hne:t≠it):∀ (n i:Nat) (s:qj) (Q:List qx->qj->Prop),s.heap.IsListIter it t i->s.heap.IsList t aM->i+n<=aM.size ->
 (∀ h',h'.IsListIter it t (i+n)->yCz it s.heap h'->Q ((aM.toList.drop i).take n) {s with heap:=h' })->qu (model prog w) A (draw (.ref it) n) Q E s
 | 0,i,s,Q,hit,_,_,hQ=>wP (by simpa using hQ s.heap hit (Heap.SameBut.refl _ _))
 | n+1,i,s,Q,hit,hl,hle,hQ=>by
   have hlt:i<aM.size:=by omega
   show qu _ _ (yk (.ref it) >>= _) Q E s;refine wB (wq hit hl (x:=aM[i]) (by simp[hlt]) λ h1 hit1 hs1=>?_)
   refine wB (xq (aC6 hne n (i+1) _ _ hit1 (hl.extBut hs1.extBut hne) (by omega) λ h2 hit2 hs2=>wP ?_))
   have q:=hQ h2 (by rw[show i+(n+1)=i+1+n by omega];exact hit2) (hs1.trans hs2)
   rw[yCl (by simpa using hlt),List.take_succ_cons] at q
   exact q
theorem aHP{env:Env}{elts:List qw}{x1}{pos:Pos}{t:qv}{aM:Array qx}{Q:Unit->qj->Prop}(hh:A.handled=qz)(hl:s.heap.IsList t aM)
 (hn:(xj elts env).length=aM.size) (hstar:(xj elts env).findIdx? (·.1)=qz)
 (h:∀ h',Heap.ExtBut s.heap.objs.size s.heap h'->qu (model prog w) A (assignInOrder ((xj elts env).map (·.2)) aM.toList) Q E {s with heap:=h' }) :
 qu (model prog w) A (assign (.Tuple elts x1 pos) env (.ref t)) Q E s:=by
 have hlt:t≠s.heap.objs.size:=by obtain⟨o,ho,_⟩:=hl;exact xAh (xAa ho)
 have hl1:∀ o,(s.heap.push o).IsList t aM:=λ o=>let ⟨u,hu,r⟩:=hl;⟨u,hpS _ hu,r⟩
 rw[arm_assign_Tuple];refine wB (vx ?_);unfold unpack;rw[hn,hstar];refine wB (xq ?_);unfold unpackItems;refine wB ?_;unfold notIterableAtAll;refine wB (wpAny_specialOf hl.typeIs slot_list_iter.lookup (wP ?_));simp only[yAw,if_false];refine wB (xq (ju hl ?_));refine wB (xq (aC6 hlt aM.size 0 _ _ ⟨_,xAe _ rfl,rfl,rfl⟩ (hl1 _) (by omega) λ h1 hit1 hs1=>?_))
 rw[show List.take aM.size (List.drop 0 aM.toList)=aM.toList by rw[yCw];exact yBn (by simp)]
 rw[if_neg (by simp)]
 have hl2:h1.IsList t aM:=(hl1 _).extBut hs1.extBut hlt;refine wB (xq (ww hh hit1 hl2 (by simp) λ h2 he2=>?_))
 simp only[Option.isSome_none,yAw,if_false];exact wP (h h2 λ b o hb e=>he2 b o hb (hs1.extBut b o hb (hpS _ e)))
end
section
variable {X : Cx}
def aBz(K:FrG)(n:Nat)(t:hU):TG:=λ v σ H Q=>∃ a xs,v=.ref a/\(bM K H a xs\/bJ K H a xs)/\xs.length=n/\t xs σ H Q
theorem aMg{es:List qw}{k:Nat}{t:hU}{n:Nat}{pos:Pos}(hc:X.calm=true)(h:oY X es t)(hn:(xj es X.env).length=n)(cU:(xj es X.env).findIdx? (·.1)=qz):PG X (.Tuple es k pos) (aBz X.K n t):=by
 intro aA s σ H v u Q I r hw;obtain⟨a,xs,e1,hq,hl,hw⟩:=hw;rcases hq with hq | hq
 ·exact aNH hc h hn cU aA s σ H v u Q I r ⟨a,xs,e1,hq,hl,hw⟩
 ·subst e1;cases r;obtain⟨its,rv,pl,hz⟩:=I.list hq;refine aHP (I.ok.hd hc) pl.isList (by simp[hn,<- hl,rv.length]) cU λ h' hx=>?_
  have I1:Inv X aA σ H {s with heap:=h' }:=I.kept (t':=s.toks) λ b o e=>hx b o (xAh (xAa e)) e
  exact h aA _ σ H xs _ Q I1 (by simpa using rv) hw
end
section
variable {X : Cx}{pos : Pos}
noncomputable def yB(K:FrG)(D:Ends)(F':Hp)(L':List qv)(H':Hp):Fl->Prop
 | .nx aK=>∀ σ',EnvR K F' L' aK σ'->D.nx σ' H'
 | .rt w=>∀ v,dQ K F' L' w v->D.rt v H'
 | .bk aK=>∀ σ',EnvR K F' L' aK σ'->D.bk σ' H'
 | .ct aK=>∀ σ',EnvR K F' L' aK σ'->D.ct σ' H'
theorem gR{K:FrG}{f:FS}{D:Ends}{σ:St}{H F:Hp}{L:List qv}{S:aB}{env:aS}{fl:Fl}{S':aB}(R:Rel K F L S H)(E:EnvR K F L env σ)(e:f env S=qq (fl,S'))
 (q:∀ F' L' H',Gr F L F' L'->Rel K F' L' S' H'->yB K D F' L' H' fl):cE K f D σ H:=⟨F,L,S,env,fl,S',R,E,e,λ F' L' H' g R'=>by
 have:=q F' L' H' g R';cases fl<;>exact this⟩
theorem kT{K:FrG}{f:FS}{D:Ends}{σ:St}{H:Hp}(h:cE K f D σ H):∃ F L S env fl S',Rel K F L S H/\EnvR K F L env σ/\f env S=qq (fl,S')/\∀ F' L' H',Gr F L F' L'->Rel K F' L' S' H'->yB K D F' L' H' fl:=by
 obtain⟨F,L,S,env,fl,S',R,E,e,q⟩:=h;exact⟨F,L,S,env,fl,S',R,E,e,λ F' L' H' g R'=>by
  have:=q F' L' H' g R';cases fl<;>exact this⟩
noncomputable def nU:FS:=λ env S=>qq (.nx env,S)
theorem aFB:bN X [] (cE X.K nU):=bN.weak aAV λ D σ H h=>by
 obtain⟨F,L,S,env,fl,S',R,E,e,q⟩:=kT h;cases e;exact q F L H Gr.refl R σ E
noncomputable def cM(fa fb:FS):FS:=λ env S=>(fa env S).bind λ p=>match p.1 with
 | .nx e=>fb e p.2
 | fl=>qq (fl,p.2)
theorem aFW{a:zy}{b:List zy}{fa fb:FS}(ha:PS X a (cE X.K fa))(hb:bN X b (cE X.K fb)):bN X (a::b) (cE X.K (cM fa fb)):=bN.weak (aAy ha hb) λ D σ H h=>by
 obtain⟨F,L,S,env,fl,S',R,E,e,q⟩:=kT h;obtain⟨⟨f1,S1⟩,e1,e2⟩:=bind_some e;cases f1 with
 | nx e'=>exact gR R E e1 λ F1 L1 H1 g1 R1 σ1 E1=>gR R1 E1 e2 λ F2 L2 H2 g2 R2=>q F2 L2 H2 (g1.trans g2) R2
 | rt w=>cases e2;exact gR R E e1 λ F1 L1 H1 g1 R1=>q F1 L1 H1 g1 R1
 | bk e'=>cases e2;exact gR R E e1 λ F1 L1 H1 g1 R1=>q F1 L1 H1 g1 R1
 | ct e'=>cases e2;exact gR R E e1 λ F1 L1 H1 g1 R1=>q F1 L1 H1 g1 R1
noncomputable def tF(fa:FE):FS:=λ env S=>(fa env S).bind λ p=>qq (.nx env,p.2)
theorem aFd{e:qw}{fa:FE}(h:PE X e (aH X.K fa))(hs:swapsWith e qz pos.line X.env=pure false):PS X (.Expr e pos) (cE X.K (tF fa)):=PS.weak (aEB h hs) λ D σ H h=>by
 obtain⟨F,L,S,env,fl,S',R,E,e,q⟩:=kT h;obtain⟨⟨w,S1⟩,e1,e2⟩:=bind_some e;cases e2;exact⟨F,L,S,env,w,_,R,E,e1,λ F1 L1 H1 v g1 R1 d1=>q F1 L1 H1 g1 R1 σ (E.mono g1)⟩
noncomputable def mR(fa:FE):FS:=λ env S=>(fa env S).bind λ p=>qq (.rt p.1,p.2)
theorem aGi{e:qw}{fa:FE}(h:PE X e (aH X.K fa)):PS X (.Return (qq e) pos) (cE X.K (mR fa)):=PS.weak (aL9 h) λ D σ H h=>by
 obtain⟨F,L,S,env,fl,S',R,E,e,q⟩:=kT h;obtain⟨⟨w,S1⟩,e1,e2⟩:=bind_some e;cases e2;exact⟨F,L,S,env,w,_,R,E,e1,λ F1 L1 H1 v g1 R1 d1=>q F1 L1 H1 g1 R1 v d1⟩
noncomputable def aPK:FS:=λ env S=>qq (.rt (.d .none),S)
noncomputable def nC(fc:FT)(fa fb:FS):FS:=λ env S=>(fc env S).bind λ p=>if p.1=true then fa env p.2 else fb env p.2
theorem aQN{c:qw}{a b:List zy}{fc:FT}{fa fb:FS}(hc:PT X c (dU X.K fc))(ha:bN X a (cE X.K fa))(hb:bN X b (cE X.K fb)):PS X (.If c a b pos) (cE X.K (nC fc fa fb)):=PS.weak (aFE hc ha hb) λ D σ H h=>by
 obtain⟨F,L,S,env,fl,S',R,E,e,q⟩:=kT h;obtain⟨⟨c,S1⟩,e1,e2⟩:=bind_some e;refine⟨F,L,S,env,c,S1,R,E,e1,λ F1 L1 H1 g1 R1=>?_⟩
 cases c with
 | true=>exact oK (gR R1 (E.mono g1) (by simpa using e2) λ F2 L2 H2 g2 R2=>q F2 L2 H2 (g1.trans g2) R2)
 | false=>exact oE (gR R1 (E.mono g1) (by simpa using e2) λ F2 L2 H2 g2 R2=>q F2 L2 H2 (g1.trans g2) R2)
noncomputable def dJ(i:Nat)(fa:FE):FS:=λ env S=>(fa env S).bind λ p=>qq (.nx (env.set i (qq p.1)),p.2)
theorem aF8{K:FrG}{i:Nat}{fa:FE}(D:Ends)(σ:St)(H:Hp)(h:cE K (dJ i fa) D σ H):tW (aH K fa) (mI i) D σ H:=by
 obtain⟨F,L,S,env,fl,S',R,E,e,q⟩:=kT h;obtain⟨⟨w,S1⟩,e1,e2⟩:=bind_some e;cases e2;exact⟨F,L,S,env,w,_,R,E,e1,λ F1 L1 H1 v g1 R1 d1=>q F1 L1 H1 g1 R1 _ ((E.mono g1).set i d1)⟩
theorem xB{i:Nat}{x:Str}{e:qw}{fa:FE}{pos':Pos}(hN:X.N.Nodup)(hi:X.N[i]? = qq x)(hx:Loc X.env.scope x)(he:PE X e (aH X.K fa))(hs:swapsWith e (qq (.Name x pos')) pos.line X.env=pure false)(hf:X.fn x=true\/X.env.scope.names.lookup x=qq .local) :
 PS X (.Assign [.Name x pos'] e pos) (cE X.K (dJ i fa)):=PS.weak (aE3 hN hi hx he hs hf) aF8
noncomputable def lZ:List Nat->List D->aS->Option aS
 | [],[],env=>qq env
 | i::is,d::ds,env=>lZ is ds (env.set i (qq (.d d)))
 | _,_,_=>qz
inductive Tg where
 | one (i:Nat) | many (is:List Nat)
noncomputable def Tg.put:Tg->D->aS->Option aS
 | .one i,d,env=>qq (env.set i (qq (.d d)))
 | .many is,.tuple ds,env=>lZ is ds env
 | .many is,.list ds,env=>lZ is ds env
 | .many _,_,_=>qz
def GA(K:FrG)(t:Tg)(g:TG):Prop:=∀ (d:D) (x:V) (σ:St) (H F:Hp) (L:List qv) (S:aB) (env aK:aS) (Q:St->Hp->Prop),
 Rel K F L S H->EnvR K F L env σ->Den K F d x->t.put d env=qq aK->(∀ σ',EnvR K F L aK σ'->Q σ' H)->g x σ H Q
theorem aMe{K:FrG}(i:Nat):GA K (.one i) (mI i):=λ d x σ H F L S env aK Q R E dn e q=>by
 cases e;exact q _ (E.set i (w:=.d d) dn)
def uP(K:FrG)(is:List Nat)(g:hU):Prop:=∀ (ds:List D) (xs:List V) (σ:St) (H F:Hp) (L:List qv) (S:aB) (env aK:aS) (Q:St->Hp->Prop),
 Rel K F L S H->EnvR K F L env σ->DenL K F ds xs->lZ is ds env=qq aK->(∀ σ',EnvR K F L aK σ'->Q σ' H)->g xs σ H Q
theorem aK2{K:FrG}:uP K [] aBW:=λ ds xs σ H F L S env aK Q R E dn e q=>by
 cases dn with
 | nil=>cases e;exact⟨rfl,q σ E⟩
 | cons _ _=>cases e
theorem aJD{K:FrG}{i:Nat}{is:List Nat}{g:hU}(h:uP K is g):uP K (i::is) (aBp (mI i) g):=λ ds xs σ H F L S env aK Q R E dn e q=>by
 cases dn with
 | nil=>cases e
 | cons d1 dr=>exact⟨_,_,rfl,h _ _ _ H F L S _ aK Q R (E.set i (w:=.d _) d1) dr e q⟩
theorem aAc:∀ {is:List Nat}{ds:List D}{env aK:aS},lZ is ds env=qq aK->is.length=ds.length
 | [],[],_,_,_=>rfl
 | _::is,_::ds,_,_,e=>congrArg (· + 1) (aAc (is:=is) (ds:=ds) e)
 | [],_::_,_,_,e=>by cases e
 | _::_,[],_,_,e=>by cases e
theorem aKN{K:FrG}{is:List Nat}{g:hU}(h:uP K is g):GA K (.many is) (aBz K is.length g):=λ d x σ H F L S env aK Q R E dn e q=>by
 cases d with
 | tuple ds =>
   cases dn with
   | tup sq dl=>exact⟨_,_,rfl,.inl (iE R.sub sq),by rw[<- dl.length];exact(aAc e).symm,h _ _ σ H F L S env aK Q R E dl e q⟩
 | list ds =>
   cases dn with
   | lst sq dl=>exact⟨_,_,rfl,.inr (R.sub.seq sq),by rw[<- dl.length];exact(aAc e).symm,h _ _ σ H F L S env aK Q R E dl e q⟩
 | _=>cases e
noncomputable def qD(t:Tg)(fa:FE):FS:=λ env S=>(fa env S).bind λ p=>match p.1 with
 | .d d=>(t.put d env).bind λ e=>qq (.nx e,p.2)
 | _=>qz
theorem aNV{K:FrG}{t:Tg}{g:TG}{fa:FE}(hg:GA K t g)(D:Ends)(σ:St)(H:Hp)(h:cE K (qD t fa) D σ H):tW (aH K fa) g D σ H:=by
 obtain⟨F,L,S,env,fl,S',R,E,e,q⟩:=kT h;obtain⟨⟨w,S1⟩,e1,e2⟩:=bind_some e;dsimp only at e2
 split at e2
 ·obtain⟨e',e3,e4⟩:=bind_some e2;cases e4;exact⟨F,L,S,env,_,_,R,E,e1,λ F1 L1 H1 v g1 R1 d1=>hg _ v σ H1 F1 L1 _ env e' _ R1 (E.mono g1) d1 e3 λ σ' E'=>q F1 L1 H1 g1 R1 σ' E'⟩
 ·cases e2
noncomputable def mF(S:aB):W->W->W->Option aB
 | .loc n,.d (.int k),.d x=>match S[n]? with
   | some (qq ds)=>(gL ds.length k).bind λ j=>qq (S.set n (qq (ds.set j x)))
   | _=>qz
 | _,_,_=>qz
noncomputable def mQ(fo fi fe:FE):FS:=λ env S=>(fe env S).bind λ p=>(fo env p.2).bind λ q=>(fi env q.2).bind λ r=>(mF r.2 q.1 r.1 p.1).bind λ S'=>qq (.nx env,S')
theorem aHV{S S':aB}{o i x:W}(h:mF S o i x=qq S'):∃ n k d ds j,o=.loc n/\i=.d (.int k)/\x=.d d/\S[n]? = qq (qq ds)/\gL ds.length k=qq j/\S'=S.set n (qq (ds.set j d)):=by
 unfold mF at h
 split at h
 ·split at h
  ·rename_i ds e;obtain⟨j,e1,e2⟩:=bind_some h;cases e2;exact⟨_,_,_,ds,j,rfl,rfl,rfl,e,e1,rfl⟩
  ·cases h
 ·cases h
theorem aOj{K:FrG}{fo fi fe:FE}(D:Ends)(σ:St)(H:Hp)(h:cE K (mQ fo fi fe) D σ H):tW (aH K fe) (aGG (aH K fo) (aH K fi) aGd) D σ H:=by
 obtain⟨F,L,S,env,fl,S',R,E,e,q⟩:=kT h;obtain⟨⟨we,S1⟩,e1,e⟩:=bind_some e;obtain⟨⟨wo,S2⟩,e2,e⟩:=bind_some e;obtain⟨⟨wi,S3⟩,e3,e⟩:=bind_some e;obtain⟨S4,e4,e⟩:=bind_some e;cases e;obtain⟨n,k,d,ds,j,rfl,rfl,rfl,e5,e6,rfl⟩:=aHV e4;refine⟨F,L,S,env,_,S1,R,E,e1,λ F1 L1 H1 v g1 R1 d1=>⟨F1,L1,S1,env,_,S2,R1,E.mono g1,e2,λ F2 L2 H2 o g2 R2 d2=>⟨F2,L2,S2,env,_,S3,R2,E.mono (g1.trans g2),e3,λ F3 L3 H3 i g3 R3 d3=>?_⟩⟩⟩
 obtain⟨a,ea,rfl⟩:=d2.mono g3;obtain⟨fa,xs,ha,dl⟩:=R3.loc n a ds ea e5;have hi:i=.int k:=by cases (show Den K F3 (.int k) i from d3);rfl
 refine⟨a,xs,k,j,rfl,hi,ha,by rw[<- dl.length];exact e6,?_⟩
 exact q F3 L3 _ ((g1.trans g2).trans g3) (R3.put ea fa (dl.set j (show Den K F3 d v from d1.mono (g2.trans g3)))) σ (E.mono ((g1.trans g2).trans g3))
theorem aPS{o i e:qw}{fo fi fe:FE}{pos':Pos}(ho:PE X o (aH X.K fo))(hi:PE X i (aH X.K fi))(he:PE X e (aH X.K fe))(ha:∀ v,assign (.Subscript o i pos') X.env v=(do
 let ov <- holding [v] (eval o X.env)
 let iv <- holding [v,ov] (eval i X.env)
 standAt pos'
 holding [v,ov,iv] (setItem ov iv v)
 release [v,ov,iv] [])) (hs:swapsWithSole [.Subscript o i pos'] e pos.line X.env=pure false) (hw:yj [.Subscript o i pos'] e X.env=pure qz):PS X (.Assign [.Subscript o i pos'] e pos) (cE X.K (mQ fo fi fe)):=
 PS.weak (aEX he (aMz ho hi aJx ha) hs hw) aOj
noncomputable def eU(S:aB):W->W->Option (W×aB)
 | .loc n,.d x=>match S[n]? with
   | some (qq ds)=>if ds.length<qk then qq (.d .none,S.set n (qq (ds++[x]))) else qz
   | _=>qz
 | _,_=>qz
theorem aDi{S S':aB}{o x w:W}(h:eU S o x=qq (w,S')):∃ n d ds,o=.loc n/\x=.d d/\S[n]? = qq (qq ds)/\ds.length<qk/\w=.d .none/\S'=S.set n (qq (ds++[d])):=by
 unfold eU at h
 split at h
 ·split at h
  ·rename_i ds e
   split at h
   ·rename_i hz;cases h;exact⟨_,_,ds,rfl,rfl,e,hz,rfl,rfl⟩
   ·cases h
  ·cases h
 ·cases h
noncomputable def fX(fo fe:FE):FE:=f2 fo fe eU
theorem aFF{K:FrG}{fo fe:FE}(σ:St)(H:Hp)(Q:VK)(h:aH K (fX fo fe) σ H Q):zD K "list" aEA (aH K fo) (cP K (cB fe fO)) σ H Q:=by
 obtain⟨F,L,S,env,w,S',R,E,e,q⟩:=h;obtain⟨⟨wo,S1⟩,e1,e⟩:=bind_some e;obtain⟨⟨we,S2⟩,e2,e⟩:=bind_some e;obtain⟨n,d,ds,rfl,rfl,e5,hz,rfl,rfl⟩:=aDi e;refine⟨F,L,S,env,_,S1,R,E,e1,λ F1 L1 H1 o g1 R1 d1=>?_⟩
 obtain⟨a,ea,rfl⟩:=d1;refine⟨.inl ⟨rfl,?_⟩,F1,L1,S1,env,[.d d],S2,R1,E.mono g1,?_,λ F2 L2 H2 vs g2 R2 d2=>?_⟩
 ·obtain⟨xs,hx⟩:=R1.tr n a ea;exact⟨xs,bJ.of hx⟩
 ·unfold cB;rw[e2];rfl
 ·cases d2 with
  | cons dd dr =>
    cases dr;have ea2:=g2.get ea;obtain⟨fa,xs,ha,dl⟩:=R2.loc n a ds ea2 e5;exact⟨a,xs,_,rfl,rfl,ha,by rw[<- dl.length];exact hz,q F2 L2 _ _ (g1.trans g2) (R2.put ea2 fa (dl.append (.cons dd .nil))) Den.non⟩
end
section
variable {X : Cx}{pos : Pos}
structure Wk(K:FrG)(F:Hp)(L:List qv)(J:It)(ds:List D):Prop where
 go:∀ (i:Nat) (H:Hp),bO F H->i<ds.length->J.go i H
 stop:∀ (H:Hp),bO F H->J.stop ds.length H
 yld:∀ (i:Nat) (H F1:Hp) (L1:List qv) (S:aB) (x:V) (H':Hp) (d:D),Gr F L F1 L1->Rel K F1 L1 S H->ds[i]? = qq d->J.yld i H x H'->∃ F2,bO F1 F2/\Rel K F2 L1 S H'/\Den K F2 d x
def iT(K:FrG)(f:FL):TI:=λ σ H R=>∃ F L S env ds S',Rel K F L S H/\EnvR K F L env σ/\f env S=qq (ds,S')/\∀ F' L' H' J,Gr F L F' L'->Rel K F' L' S' H'->Wk K F' L' J ds->R J H'
theorem PI.weak{tg iter:qw}{t t':TI}(h:PI X tg iter t)(w:∀ σ H R,t' σ H R->t σ H R):PI X tg iter t':=λ aA s σ H R I q=>h aA s σ H R I (w σ H R q)
theorem aKX{K:FrG}{F:Hp}{L:List qv}{a:qv}{xs:List V}{ds:List D}(sq:bJ K F a xs)(dl:DenL K F ds xs):Wk K F L (Itl K a) ds where
 go:=λ i H s hi=>⟨xs,xs[i]'(by rw[<- dl.length];exact hi),s.seq sq,by simp[dl.length▸hi]⟩
 stop:=λ H s=>⟨xs,s.seq sq,yEl dl.length.symm⟩
 yld:=λ i H F1 L1 S x H' d g R e y=>by
  obtain⟨e1,y⟩:=y;subst e1;have h:=y xs ((g.f.trans R.sub).seq sq);obtain⟨x',e2,dx⟩:=dl.get e;rw[h] at e2;cases e2;exact⟨F1,bO.refl _,R,dx.mono g.f⟩
theorem aML{K:FrG}{F:Hp}{L:List qv}{a:qv}{xs:List V}{ds:List D}(sq:bM K F a xs)(dl:DenL K F ds xs):Wk K F L (Itt K a) ds where
 go:=λ i H s hi=>⟨xs,xs[i]'(by rw[<- dl.length];exact hi),iE s sq,by simp[dl.length▸hi]⟩
 stop:=λ H s=>⟨xs,iE s sq,yEl dl.length.symm⟩
 yld:=λ i H F1 L1 S x H' d g R e y=>by
  obtain⟨e1,y⟩:=y;subst e1;have h:=y xs (iE (g.f.trans R.sub) sq);obtain⟨x',e2,dx⟩:=dl.get e;rw[h] at e2;cases e2;exact⟨F1,bO.refl _,R,dx.mono g.f⟩
noncomputable def kG(lo:Int):Nat->List D
 | 0=>[]
 | n+1=>.int lo::kG (lo+1) n
theorem zY(n:Nat):∀ lo:Int,(kG lo n).length=n:=by
 induction n with
 | zero=>intro lo;rfl
 | succ n ih=>intro lo;simp[kG,ih]
theorem aDS:∀ (n:Nat) (lo:Int) (i:Nat),i<n->(kG lo n)[i]? = qq (.int (lo+i))
 | 0,_,_,h=>by omega
 | n+1,lo,0,_=>by simp[kG]
 | n+1,lo,i+1,h=>by
   rw[kG,yDy,aDS n (lo+1) i (by omega)]
   congr 2
   push_cast
   omega
theorem aJ2{K:FrG}{F:Hp}{L:List qv}(lo:Int)(n:Nat):Wk K F L (yI lo n) (kG lo n) where
 go:=λ i H s hi=>by rw[zY] at hi;exact hi
 stop:=λ H s=>by rw[zY];exact yAe _
 yld:=λ i H F1 L1 S x H' d g R e y=>by
  obtain⟨rfl,rfl⟩:=y;have hi:i<n:=by
   have:=(gIm e).1;rw[zY] at this;exact this
  rw[aDS n lo i hi] at e;cases e;exact⟨F1,bO.refl _,R,.int _⟩
noncomputable def aGS(fa:FE):FL:=λ env S=>(fa env S).bind λ p=>match p.1 with
 | .d (.list ds)=>qq (ds,p.2)
 | _=>qz
noncomputable def aGx(fa:FE):FL:=λ env S=>(fa env S).bind λ p=>match p.1 with
 | .d (.tuple ds)=>qq (ds,p.2)
 | _=>qz
theorem aOZ{tg a:qw}{fa:FE}(ha:PE X a (aH X.K fa)):PI X tg a (iT X.K (aGS fa)):=PI.weak (aLq ha) λ σ H Rr aJ=>by
 obtain⟨F,L,S,env,ds,S',R,E,e,q⟩:=aJ;obtain⟨⟨w,S1⟩,e1,e2⟩:=bind_some e;dsimp only at e2
 split at e2
 ·cases e2;refine⟨F,L,S,env,_,_,R,E,e1,λ F1 L1 H1 v g1 R1 d1=>?_⟩
  cases (show Den X.K F1 (.list ds) v from d1) with
  | lst sq dl=>exact⟨_,rfl,⟨_,R1.sub.seq sq⟩,q F1 L1 H1 _ g1 R1 (aKX sq dl)⟩
 ·cases e2
theorem aOz{tg a:qw}{fa:FE}(ha:PE X a (aH X.K fa)):PI X tg a (iT X.K (aGx fa)):=PI.weak (aL2 ha) λ σ H Rr aJ=>by
 obtain⟨F,L,S,env,ds,S',R,E,e,q⟩:=aJ;obtain⟨⟨w,S1⟩,e1,e2⟩:=bind_some e;dsimp only at e2
 split at e2
 ·cases e2;refine⟨F,L,S,env,_,_,R,E,e1,λ F1 L1 H1 v g1 R1 d1=>?_⟩
  cases (show Den X.K F1 (.tuple ds) v from d1) with
  | tup sq dl=>exact⟨_,rfl,⟨_,iE R1.sub sq⟩,q F1 L1 H1 _ g1 R1 (aML sq dl)⟩
 ·cases e2
noncomputable def tB(fa:FE):FL:=λ env S=>(fa env S).bind λ p=>match p.1 with
 | .d (.int j)=>if -(2^62)<=j/\j<2^62 then qq (kG 0 j.toNat,p.2) else qz
 | _=>qz
theorem aM8{K:FrG}{fa:FE}(σ:St)(H:Hp)(Rr:It->Hp->Prop)(h:iT K (tB fa) σ H Rr):aFV (cP K (cB fa fO)) σ H Rr:=by
 obtain⟨F,L,S,env,ds,S',R,E,e,q⟩:=h;obtain⟨⟨w,S1⟩,e1,e2⟩:=bind_some e;dsimp only at e2
 split at e2
 ·split at e2
  ·rename_i j c;cases e2;refine⟨F,L,S,env,[.d (.int j)],_,R,E,by unfold cB;rw[e1];rfl,λ F1 L1 H1 vs g1 R1 d1=>?_⟩
   cases d1 with
   | cons dd dr =>
     cases dr;cases (show Den K F1 (.int j) _ from dd)
     exact⟨j,rfl,c.1,c.2,q F1 L1 H1 _ g1 R1 (aJ2 0 j.toNat)⟩
  ·cases e2
 ·cases e2
noncomputable def eC(t:Tg)(fb:FS):List D->FS
 | []=>λ env S=>qq (.nx env,S)
 | d::ds=>λ env S=>(t.put d env).bind λ e1=>(fb e1 S).bind λ q=>(match q.1 with
    | .nx e=>eC t fb ds e q.2
    | .ct e=>eC t fb ds e q.2
    | .bk e=>qq (.nx e,q.2)
    | .rt w=>qq (.rt w,q.2))
noncomputable def iN(t:Tg)(fi:FL)(fb:FS):FS:=λ env S=>(fi env S).bind λ p=>eC t fb p.1 env p.2
theorem aPx{tg iter:qw}{b:List zy}{t:Tg}{g:TG}{fi:FL}{fb:FS}(hp:PassesOwn (model X.prog X.w) X.A X.env X.xe)(hc:X.calm=true)(hi:PI X tg iter (iT X.K fi))(hg:PG X tg g)(ga:GA X.K t g)(hb:bN X b (cE X.K fb))
 (hs:∀ x,jj iter X.env x=pure x):PS X (.For tg iter b [] pos) (cE X.K (iN t fi fb)):=PS.weak (aEY hp hc hi hg hb hs) λ D σ H h=>by
 obtain⟨F,L,S,env,fl,S',R,E,e,q⟩:=kT h;obtain⟨⟨ds,S1⟩,e1,e2⟩:=bind_some e;refine⟨F,L,S,env,ds,S1,R,E,e1,λ F0 L0 H0 J g0 R0 wk=>?_⟩
 dsimp only at e2;refine⟨λ i m σ1 H1=>i+m=ds.length/\∃ F1 L1 S1 env1,Gr F0 L0 F1 L1/\Rel X.K F1 L1 S1 H1/\EnvR X.K F1 L1 env1 σ1/\eC t fb (ds.drop i) env1 S1=qq (fl,S'),
  ⟨ds.length,yEm _,F0,L0,S1,env,Gr.refl,R0,E.mono g0,by rw[yCw];exact e2⟩,?_⟩
 rintro i m σ1 H1 ⟨him,F1,L1,S1',env1,g1,R1,E1,e3⟩;cases m with
 | zero =>
   have hi:i=ds.length:=by omega
   subst hi;rw[yEq] at e3;cases e3;exact .inl ⟨wk.stop H1 (g1.f.trans R1.sub),q F1 L1 H1 (g0.trans g1) R1 σ1 E1⟩
 | succ m =>
   have hi:i<ds.length:=by omega
   refine .inr ⟨wk.go i H1 (g1.f.trans R1.sub) hi,λ σ3 H3=>∃ F3 L3 S3 env3,Gr F0 L0 F3 L3/\Rel X.K F3 L3 S3 H3/\EnvR X.K F3 L3 env3 σ3/\eC t fb (ds.drop (i+1)) env3 S3=qq (fl,S'),
    λ σ3 H3 h3=>⟨m,yCv m,by omega,h3⟩,λ x H2 y=>?_⟩
   rw[yCl hi] at e3;obtain⟨env2,e4,e5⟩:=bind_some e3;obtain⟨⟨f6,S6⟩,e6,e7⟩:=bind_some e5;obtain⟨F2,s2,R2,d2⟩:=wk.yld i H1 F1 L1 S1' x H2 ds[i] g1 R1 (yAc hi) y;have g2:Gr F1 L1 F2 L1:=⟨s2,[],by simp⟩
   refine ga ds[i] x σ1 H2 F2 L1 S1' env1 env2 _ R2 (E1.mono g2) d2 e4 λ σ2 E2=>?_
   refine gR R2 E2 e6 λ F3 L3 H3 g3 R3=>?_
   have g03:=(g1.trans g2).trans g3;cases f6 with
   | nx e'=>exact λ σ3 E3=>⟨F3,L3,S6,e',g03,R3,E3,e7⟩
   | ct e'=>exact λ σ3 E3=>⟨F3,L3,S6,e',g03,R3,E3,e7⟩
   | bk e'=>cases e7;exact λ σ3 E3=>q F3 L3 H3 (g0.trans g03) R3 σ3 E3
   | rt w=>cases e7;exact λ v d=>q F3 L3 H3 (g0.trans g03) R3 v d
noncomputable def iO(k:Nat)(S:aB):W->Option (W×aB)
 | .d x=>qq (.d x,S.take k)
 | .loc m=>if m<k then qq (.loc m,S.take k) else match S[m]? with
   | some (qq ds)=>qq (.d (.list ds),S.take k)
   | _=>qz
 | .exc c r=>qq (.exc c r,S.take k)
noncomputable def cQ(fb:FS)(n:Nat)(ws:List W)(S:aB):Option (W×aB):=(fb (ws.map qq++yAg (n-ws.length) qz) S).bind λ p=>match p.1 with
 | .rt w=>iO S.length p.2 w
 | .nx _=>qq (.d .none,p.2.take S.length)
 | _=>qz
theorem aAb{K:FrG}{F:Hp}{L:List qv}{N:List Str}:∀ {ws:List W}{vs:List V},WDenL K F L ws vs->EnvR K F L (ws.map qq++yAg (N.length-ws.length) qz) (L2.start N vs):=by
 intro ws vs h;unfold L2.start;rw[h.length];generalize N.length-vs.length=k;refine⟨by simp[h.length],?_⟩
 induction h with
 | nil =>
   intro i w e;have:=xAi e;simp at this
 | cons hd tl ih =>
   intro i w e;cases i with
   | zero=>simp at e;subst e;exact⟨_,rfl,hd⟩
   | succ i =>
     obtain⟨v,e1,d⟩:=ih i w (by simpa using e)
     exact⟨v,by simpa using e1,d⟩
theorem wC{K:FrG}{F F1 H1:Hp}{L L1:List qv}{S S1:aB}{w w':W}{S':aB}{v:V}{Q:VK}(R:L.length=S.length)(g:Gr F L F1 L1)(R1:Rel K F1 L1 S1 H1)(d:dQ K F1 L1 w v)(e:iO S.length S1 w=qq (w',S'))(q:oG K F L S' w' Q):Q v H1:=by
 obtain⟨sf,M,rfl⟩:=g;cases w with
 | d x =>
   cases e;have R2:=R1.cut;rw[R] at R2;exact q F1 L H1 v ⟨sf,[],by simp⟩ R2 d
 | exc c r =>
   cases e;have R2:=R1.cut;rw[R] at R2;exact q F1 L H1 v ⟨sf,[],by simp⟩ R2 d
 | loc m =>
   have e':(if m<S.length then qq (W.loc m,S1.take S.length) else match S1[m]? with | some (qq ds)=>qq (W.d (.list ds),S1.take S.length) | _=>qz)=qq (w',S'):=e
   split at e'
   ·rename_i hm;cases e';have R2:=R1.cut;rw[R] at R2;obtain⟨a,ea,rfl⟩:=d;rw[xAj (by rw[R];exact hm)] at ea
    exact q F1 L H1 _ ⟨sf,[],by simp⟩ R2 ⟨a,ea,rfl⟩
   ·rename_i hm
    split at e'
    ·rename_i ds es;cases e';obtain⟨a,ea,rfl⟩:=d;obtain⟨F2,g2,R2,d2⟩:=R1.freeze ea es;have R3:=R2.cut;rw[R,List.take_set,List.set_eq_of_length_le (by rw[yBf];omega)] at R3
     exact q F2 L H1 _ ⟨sf.trans g2.f,[],by simp⟩ R3 d2
    ·cases e'
theorem aE5{K:FrG}{fb:FS}{N:List Str}{np:Nat}{vs:List V}{H:Hp}{Q:VK}{E:XK}(h:hZ K np (cQ fb N.length) vs H Q E):cE K fb {nx:=λ _ H'=>Q .non H',rt:=Q } (L2.start N vs) H:=by
 obtain⟨F,L,S,ws,w,S',hn,R,dl,e,q⟩:=h;obtain⟨⟨fl,S1⟩,e1,e2⟩:=bind_some e;refine gR R (aAb dl) e1 λ F1 L1 H1 g1 R1=>?_
 cases fl with
 | nx aK =>
   cases e2;exact λ σ' E'=>wC (w:=.d .none) R.len g1 R1 Den.non rfl q
 | rt w'=>exact λ v d=>wC R.len g1 R1 d e2 q
 | bk aK=>cases e2
 | ct aK=>cases e2
end
theorem aCz{α β:Type}{f:α->β->Sem (ForInStep β)}{g:α->β->β}:∀ (l:List α) (c:β),(∀ x∈l,∀ c,f x c=pure (ForInStep.yield (g x c)))->forIn l c f=pure (l.foldl (λ c x=>g x c) c)
 | [],c,_=>rfl
 | x::l,c,h=>by
   rw[List.forIn_cons,h x xAd c,pure_bind];exact aCz l (g x c) λ y hy=>h y (xAf _ hy)
noncomputable def iX(env:Env)(x:Str×jo)(cs:List (Str×qv)):List (Str×qv):=if (x.2==NameKind.free)=true then (x.1,(env.cells.lookup x.1).getD 0)::cs else cs
noncomputable def uI(scope:zw)(env:Env):List (Str×qv):=scope.names.foldl (λ c x=>iX env x c) []
theorem aH2{scope:zw}{env:Env}(h:∀ x∈scope.names,x.2=.free->∃ c,env.cells.lookup x.1=qq c):closureFor scope env=pure (uI scope env):=by
 unfold closureFor uI;dsimp only;rw[aCz (g:=iX env) scope.names [] (λ x hx c=>?_)]
 ·rfl
 ·obtain⟨n,k⟩:=x;unfold iX;dsimp only
  by_cases hk:k=.free
  ·obtain⟨a,ha⟩:=h (n,k) hx hk;rw[if_pos (by simp[hk]),if_pos (by simp[hk])]
   have:cellOf env n=pure a:=by unfold cellOf;rw[ha]
   rw[this,pure_bind,ha];rfl
  ·rw[if_neg (by simp[hk]),if_neg (by simp[hk])]
theorem aDJ{env:Env}:∀ (l:List (Str×jo)) (aG:List (Str×qv)),(∀ x∈l,x.2=.free->∃ c,env.cells.lookup x.1=qq c)->(∀ x c,aG.lookup x=qq c->env.cells.lookup x=qq c) ->
 ∀ x c,(l.foldl (λ c x=>iX env x c) aG).lookup x=qq c->env.cells.lookup x=qq c
 | [],aG,_,ha,x,c,e=>ha x c e
 | y::l,aG,h,ha,x,c,e=>by
   refine aDJ l (iX env y aG) (λ z hz=>h z (xAf _ hz)) (λ z d ez=>?_) x c e
   unfold iX at ez
   split at ez
   ·rename_i hk;obtain⟨a,hy⟩:=h y xAd (by simpa using hk)
    rw[yAy] at ez
    split at ez
    ·rename_i hz;cases ez;have:z=y.1:=by simpa using hz
     rw[this,hy];rfl
    ·exact ha z d ez
   ·exact ha z d ez
theorem aBb{env:Env}:∀ (l:List (Str×jo)) (aG:List (Str×qv)) (x:Str),((∃ k,(x,k)∈l/\k=.free)\/∃ c,aG.lookup x=qq c)->∃ c,(l.foldl (λ c x=>iX env x c) aG).lookup x=qq c
 | [],aG,x,h=>by
   rcases h with ⟨k,hk,_⟩ | h
   ·simp at hk
   ·exact h
 | y::l,aG,x,h=>by
   refine aBb l (iX env y aG) x ?_;have step:(∃ c,aG.lookup x=qq c)->∃ c,(iX env y aG).lookup x=qq c:=λ aJ=>by
    obtain⟨c,e⟩:=aJ;unfold iX
    split
    ·rw[yAy]
     split
     ·exact⟨_,rfl⟩
     ·exact⟨c,e⟩
    ·exact⟨c,e⟩
   rcases h with ⟨k,hk,e⟩ | h
   ·rcases List.mem_cons.mp hk with z | z
    ·right
     subst z e;unfold iX;rw[if_pos (by simp)]
     exact⟨(env.cells.lookup x).getD 0,by rw[yAy];simp⟩
    ·exact .inl ⟨k,z,e⟩
   ·exact .inr (step h)
theorem aCL{x:Str}(h:Str->jo->jo):∀ l:List (Str×jo),(l.map λ p=>(p.1,h p.1 p.2)).lookup x=(l.lookup x).map (h x)
 | []=>rfl
 | (n,k)::r=>by
   have ih:=aCL (x:=x) h r;rw[yAi,yAy,yAy];cases hx:x==n with
   | true =>
     have e:x=n:=by simpa using hx
     subst e;rfl
   | false=>exact ih
theorem aHr{env:Env}{x:Str}(names:List (Str×jo)) :
 (names.map λ(n,k)=>if (k==NameKind.free&&env.scope.kind==.function&&env.kindOf n==qq .cell) then (n,NameKind.cell) else (n,k)).lookup x =
   (names.lookup x).map λ k=>if (k==NameKind.free&&env.scope.kind==.function&&env.kindOf x==qq .cell) then NameKind.cell else k:=by
 have e:(λ(p:Str×jo)=>match p with | (n,k)=>if (k==NameKind.free&&env.scope.kind==.function&&env.kindOf n==qq .cell)=true then (n,NameKind.cell) else (n,k)) =
  λ p=>(p.1,if (p.2==NameKind.free&&env.scope.kind==.function&&env.kindOf p.1==qq .cell)=true then NameKind.cell else p.2):=funext λ aJ=>by
  obtain⟨n,k⟩:=aJ;dsimp only
  split<;>rfl
 rw[e];exact aCL (λ n k=>if (k==NameKind.free&&env.scope.kind==.function&&env.kindOf n==qq .cell)=true then NameKind.cell else k) names
section
variable {prog : zq}{w : zx}{A : zv}{R : Result -> qj -> Prop}{s : qj}
theorem aHC{elt target iter:qw}{ifs:List qw}{scope:zw}{pos:Pos}{it aG:qx}{env:Env}(I:Nat->qj->Prop)
 (turn:∀ n s,I n s->qu (model prog w) A (yk it) (λ r s₁=>match r with
   | none=>R (.ok .next) s₁
   | some v=>qu (model prog w) A (vj target it v) (λ _ s₀=>qu (model prog w) A (assign target env v) (λ _ s₂ =>
      qu (model prog w) A (forIn ifs true λ c r=>if r=true then do let ok <- isTrue c env (eval c env);pure (ForInStep.yield ok) else pure (ForInStep.yield r)) (λ ok s₃ =>
       if ok=true then qu (model prog w) A (eval elt env) (λ x s₄ =>
        qu (model prog w) A (call (.builtin "list.append") [aG,x]) (λ _ s₅=>∃ m,m<n/\I m s₅) (λ _ _=>False) s₄) (λ _ _=>False) s₃
       else ∃ m,m<n/\I m s₃) (λ _ _=>False) s₂) (λ _ _=>False) s₀) (λ _ _=>False) s₁) (λ _ _=>False) s)
 (n:Nat) (h:I n s):vo (model prog w) A (.compLoop (.ListComp elt [⟨target,iter,ifs,0⟩] scope pos) 0 it aG env) R s:=by
 have up:∀ {α:Type}{t:Sem α}{Q Q':α->qj->Prop}{E:qx->qj->Prop}{s:qj},qu (model prog w) A t Q (λ _ _=>False) s->(∀ a s,Q a s->Q' a s)->qu (model prog w) A t Q' E s:=
  λ h hq=>wpAny_mono h hq λ _ _ f=>f.elim
 refine codeAny_loop rfl I (λ n s hI=>?_) n h
 show qu _ A ((compTurn (.ListComp elt [⟨target,iter,ifs,0⟩] scope pos) 0 it aG env).onRaise (λ x=>do noteFrame x env;theTreesLotGoes x)) _ _ s
 refine wpAny_noted ?_;rw[compTurn_list];refine wB (vx (wB (up (turn n s hI) λ r s₁ h₁=>?_)))
 cases r with
 | none=>exact wP h₁
 | some v =>
   refine wB (up h₁ λ _ s₀ h₀=>?_)
   refine wB (up h₀ λ _ s₂ h₂=>wB (up h₂ λ ok s₃ h₃=>?_))
   cases ok with
   | false=>exact wP ⟨rfl,h₃⟩
   | true =>
     exact wB (wB (up h₃ λ x s₄ h₄=>wB (up h₄ λ _ s₅ h₅=>wP (wP ⟨rfl,h₅⟩))))
end
noncomputable def iS(X:Cx)(aA:List (qv×Obj))(fp:List qv)(scope:zw)(C:qv)(s₀:qj)(H₀:Hp):Cx:=
 {X with s₀:=s₀,H₀:=H₀,env:=compEnvC scope (uI scope X.env) C X.env,outer:=X.stack,stack:=X.stack,ex:=fp,fn:=λ _=>false,pn:=X.pn++aA,xe:=λ _ _=>False }
def iY(X:Cx)(scope:zw)(Y:Cx):Prop:=∃ aA fp C s₀ H₀,Y=iS X aA fp scope C s₀ H₀
structure ScOk(scope osc:zw):Prop where
 kind:scope.kind=.function
 nocell:∀ x∈scope.names,x.2≠.cell
 free:∀ x∈scope.names,x.2=.free->osc.names.lookup x.1=qq .cell\/osc.names.lookup x.1=qq .free
 loc:∀ x∈scope.names,x.2=.local->scope.names.lookup x.1=qq .local
theorem mem_of_lookup{α:Type}{x:Str}{k:α}:∀ {l:List (Str×α)},l.lookup x=qq k->(x,k)∈l
 | [],h=>by simp at h
 | (n,j)::r,h=>by
   rw[yAy] at h
   split at h
   ·rename_i hx;cases h;have:x=n:=by simpa using hx
    subst this;exact xAd
   ·exact xAf _ (mem_of_lookup h)
section
variable {X : Cx}{aA : List (qv×Obj)}{σ : L2.St}{H : Hp}{s : qj}{scope : zw}{fp : List qv}
theorem aCZ{C:qv}{s₀:qj}{H₀:Hp}{x:Str}:(iS X aA fp scope C s₀ H₀).env.kindOf x=(scope.names.lookup x).map λ k=>if (k==NameKind.free&&X.env.scope.kind==.function&&X.env.kindOf x==qq .cell) then NameKind.cell else k:=
 aHr scope.names
theorem aDn(ok:ScOk scope X.env.scope){C:qv}{s₀:qj}{H₀:Hp}{x:Str}(h:(iS X aA fp scope C s₀ H₀).env.kindOf x=qq .cell\/(iS X aA fp scope C s₀ H₀).env.kindOf x=qq .free):scope.names.lookup x=qq .free:=by
 rw[aCZ] at h;cases e:scope.names.lookup x with
 | none=>rw[e] at h;simp at h
 | some k =>
   rw[e] at h;have nc:=ok.nocell (x,k) (mem_of_lookup e);cases k with
   | free=>rfl
   | cell=>exact absurd rfl nc
   | «local» => simp at h
   | globalExplicit=>simp at h
   | globalImplicit=>simp at h
theorem aEJ(I:Inv X aA σ H s)(hfp:∀ b∈fp,gH X aA H b):∀ b∈fp,b ∉ dB X.stack:=λ b hb z=>by
 rcases List.mem_cons.mp (I.stkSub b z) with q | q
 ·exact(hfp b hb).2.1 q
 ·exact(hfp b hb).2.2.1 q
theorem aDd(I:Inv X aA σ H s)(ok:ScOk scope X.env.scope):∀ x∈scope.names,x.2=.free->∃ c,X.env.cells.lookup x.1=qq c:=λ x hx e=>by
 rcases ok.free x hx e with q | q
 ·exact I.ok.has x.1 (.inl q)
 ·exact I.ok.has x.1 (.inr q)
theorem nR(I:Inv X aA σ H s)(ok:ScOk scope X.env.scope){x:Str}{c:qv}(h:(uI scope X.env).lookup x=qq c):X.env.cells.lookup x=qq c:=
 aDJ scope.names [] (aDd I ok) (λ x c e=>by simp at e) x c h
theorem aJ6(I:Inv X aA σ H s)(ok:ScOk scope X.env.scope)(hfp:∀ b∈fp,gH X aA H b)(hth:∀ b∈fp,b<s.heap.objs.size){C:qv}(hC:s.heap.objs.size<=C):(iS X aA fp scope C s H).Ok where
 mod:=I.ok.mod
 kind:=ok.kind
 glob:=I.ok.glob
 blt:=I.ok.blt
 above:=hC
 inj:=λ x y c h1 h2=>I.ok.inj x y c (nR I ok h1) (nR I ok h2)
 has:=λ x h=>aBb scope.names [] x (.inl ⟨.free,mem_of_lookup (aDn ok h),rfl⟩)
 cab:=λ x c h _=>nomatch h
 hd:=I.ok.hd
 frames:=I.ok.frames
 stk:=.inl rfl
 exf:=λ b hb=>⟨λ z=>absurd (xAc (hth b hb) hC) (by have z':b=C:=z;rw[z'];exact yBa _),λ x c h=>(hfp b hb).2.2.2.2.1 x c (nR I ok h)⟩
 bs:=I.bs
 bsz:=xAg I.ok.bsz I.sz
 noex:=λ b o e hb=>by
  rcases (hfp b hb).2.2.2.1 with z | z
  ·exact I.ok.noex b o e z
  ·exact absurd (xAc (xAa e) (xAg I.ok.bsz z)) (yBa _)
 exfs:=λ b hb=>aEJ I hfp b hb
 funs:=I.stack
 frf:=I.stkFree
end
noncomputable def clr{α:Type}(is:List Nat)(l:List (Option α)):List (Option α):=is.foldl (λ e i=>e.set i qz) l
theorem vH{α:Type}:∀ (is:List Nat) (l:List (Option α)),(clr is l).length=l.length
 | [],_=>rfl
 | i::is,l=>by
   show(clr is (l.set i qz)).length=_;rw[vH is,yAq]
theorem vX{α:Type}:∀ (is:List Nat) (l:List (Option α)) (j:Nat) (v:α),(clr is l)[j]? = qq (qq v)->l[j]? = qq (qq v)/\j ∉ is
 | [],_,_,_,h=>⟨h,by simp⟩
 | i::is,l,j,v,h=>by
   obtain⟨h1,h2⟩:=vX is (l.set i qz) j v h
   by_cases hj:i=j
   ·subst hj;rcases yFg i l.length with q | q
    ·rw[yAo q] at h1;cases h1
    ·rw[yDc (by rw[yAq];exact q)] at h1;cases h1
   ·rw[yAn hj] at h1;exact⟨h1,λ z=>(List.mem_cons.mp z).elim (λ e=>hj e.symm) h2⟩
theorem aD0{α:Type}:∀ (is:List Nat) (l:List (Option α)) (j:Nat),j ∉ is->(clr is l)[j]? = l[j]?
 | [],_,_,_=>rfl
 | i::is,l,j,h=>by
   show(clr is (l.set i qz))[j]? = _;rw[aD0 is _ j (λ z=>h (xAf _ z)),yAn (λ z=>h (by rw[z];exact xAd))]
noncomputable def Tg.slots:Tg->List Nat
 | .one i=>[i]
 | .many is=>is
theorem EnvR.clr{K:FrG}{F:Hp}{L:List qv}{env:aS}{σ:St}(h:EnvR K F L env σ)(is:List Nat):EnvR K F L (EV.clr is env) (EV.clr is σ):=
 ⟨by rw[vH,vH];exact h.len,λ j w e=>by
  obtain⟨e1,hj⟩:=vX is env j w e;obtain⟨v,e2,d⟩:=h.get j w e1;exact⟨v,by rw[aD0 is σ j hj];exact e2,d⟩⟩
theorem zV:∀ {is:List Nat}{ds:List D}{env aK:aS}{j:Nat},lZ is ds env=qq aK->j ∉ is->aK[j]? = env[j]?
 | [],[],_,_,_,e,_=>by cases e;rfl
 | i::is,d::ds,env,aK,j,e,h=>by
   rw[zV (is:=is) (ds:=ds) e (λ z=>h (xAf _ z)),yAn (λ z=>h (by rw[z];exact xAd))]
 | [],_::_,_,_,_,e,_=>by cases e
 | _::_,[],_,_,_,e,_=>by cases e
theorem Tg.put_keep{t:Tg}{d:D}{env aK:aS}{j:Nat}(e:t.put d env=qq aK)(h:j ∉ t.slots):aK[j]? = env[j]?:=by
 cases t with
 | one i=>cases e;exact yAn (λ z=>h (by rw[z];exact xAd))
 | many is =>
   cases d with
   | tuple ds=>exact zV e h
   | list ds=>exact zV e h
   | _=>cases e
theorem zO:∀ {is:List Nat}{ds:List D}{env aK:aS},lZ is ds env=qq aK->aK.length=env.length
 | [],[],_,_,e=>by cases e;rfl
 | i::is,d::ds,env,aK,e=>by rw[zO (is:=is) (ds:=ds) e,yAq]
 | [],_::_,_,_,e=>by cases e
 | _::_,[],_,_,e=>by cases e
theorem Tg.put_length{t:Tg}{d:D}{env aK:aS}(e:t.put d env=qq aK):aK.length=env.length:=by
 cases t with
 | one i=>cases e;exact yAq
 | many is =>
   cases d with
   | tuple ds=>exact zO e
   | list ds=>exact zO e
   | _=>cases e
theorem EnvR.back{K:FrG}{F:Hp}{L:List qv}{env aK:aS}{σ:St}{t:Tg}{d:D}(e:t.put d (EV.clr t.slots env)=qq aK)(h:EnvR K F L aK σ):EnvR K F L (EV.clr t.slots env) σ:=
 ⟨by rw[<- h.len,Tg.put_length e],λ j w q=>by
  obtain⟨_,hj⟩:=vX t.slots env j w q;exact h.get j w (by rw[Tg.put_keep e hj];exact q)⟩
noncomputable def jA(t:Tg)(fc:FT)(fe:FE)(n:Nat)(env:aS):List D->aB->Option aB
 | [],S=>qq S
 | d::ds,S=>(t.put d env).bind λ e1=>(fc e1 S).bind λ c=>if c.1=true then (fe e1 c.2).bind λ p=>(eU p.2 (.loc n) p.1).bind λ r=>jA t fc fe n env ds r.2 else jA t fc fe n env ds c.2
noncomputable def gG(t:Tg)(fi:FL)(fc:FT)(fe:FE):FL:=λ env S=>(fi env S).bind λ p=>(jA t fc fe p.2.length (clr t.slots env) p.1 (p.2++[qq []])).bind λ S'=>match S'[p.2.length]? with
 | some (qq zs)=>qq (zs,S'.take p.2.length)
 | _=>qz
def kR(Y:Cx)(ifs:List qw)(fc:FT):Prop:=∀ (aA:List (qv×Obj)) (s:qj) (σ:St) (H:Hp) (Q:Bool->Hp->Prop),Inv Y aA σ H s->dU Y.K fc σ H Q ->
 qu (model Y.prog Y.w) Y.A (forIn ifs true λ c r=>if r=true then do let ok <- isTrue c Y.env (eval c Y.env);pure (ForInStep.yield ok) else pure (ForInStep.yield r)) (TP Y aA σ Q) Y.xe s
noncomputable def oO:FT:=λ _ S=>qq (true,S)
theorem aAk{Y:Cx}:kR Y [] oO:=λ aA s σ H Q I aJ=>by
 obtain⟨F,L,S,env,b,S',R,E,e,q⟩:=aJ;cases e;exact wpAny_tests_nil ⟨H,I,q F L H Gr.refl R⟩
theorem aDf{Y:Cx}{c:qw}{fc:FT}(h:PT Y c (dU Y.K fc)):kR Y [c] fc:=λ aA s σ H Q I q=>wpAny_tests_one (h aA s σ H Q I q)
def aBt(N:List Str)(scope:zw)(is:List Nat):Prop:=∀ (i:Nat) (x:Str),N[i]? = qq x->scope.names.lookup x=qq .local->i∈is
section
variable {X : Cx}{scope : zw}{tg iter elt : qw}{ifs : List qw}{pos : Pos}{t : Tg}{g : TG}{fi : FL}{fc : FT}{fe : FE}
theorem aC0(use:Option (qx->Sem Unit))(hc:X.calm=true)(ok:ScOk scope X.env.scope)(own:aBt X.N scope t.slots)(hi:PI X tg iter (iT X.K fi))(hg:∀ Y,iY X scope Y->PG Y tg g)(ga:GA X.K t g)
 (ht:∀ Y,iY X scope Y->kR Y ifs fc) (he:∀ Y,iY X scope Y->PE Y elt (aH X.K fe)) (hs:∀ x,jj iter X.env x=pure x)
 {aA:List (qv×Obj)}{s:qj}{σ:St}{H:Hp}{Q:VK}{QQ:qx->qj->Prop}{pp:Pos} (I:Inv X aA σ H s) (h:gJ X.K (gG t fi fc fe) σ H Q)
 (hend:∀ (p C:qv) (s1:qj) (H':Hp),gH X aA H' C->(∃ m,s1.heap.Ns C m)->(∀ h',yCz C s1.heap h'->Inv X aA σ H' {s1 with heap:=h' })->Q (.ref p) H' ->
   compPost (model X.prog X.w) X.A X.xe use QQ (.ref p) C (.ok .next) s1) :
 qu (model X.prog X.w) X.A (comprehension (.ListComp elt [⟨tg,iter,ifs,0⟩] scope pos) scope X.env pp (newList []) false (eval iter X.env) use) QQ X.xe s:=by
 obtain⟨F,L,S,env,zs,S',R,E,e,q⟩:=h;obtain⟨⟨ds,S1⟩,e1,e⟩:=bind_some e;obtain⟨S2,e2,e⟩:=bind_some e;dsimp only at e e2;have hz:S2[S1.length]? = qq (qq zs)/\S'=S2.take S1.length:=by
  split at e
  ·rename_i z ez;cases e;exact⟨ez,rfl⟩
  ·cases e
 obtain⟨hz,rfl⟩:=hz;refine wpAny_comprehension_free (use:=use) rfl hs (aH2 (aDd I ok)) ok.kind ok.loc ?_;refine aU (hi aA s σ H (λ J H'=>∃ F' L',Gr F L F' L'/\Rel X.K F' L' S1 H'/\Wk X.K F' L' J ds) I ⟨F,L,S,env,ds,S1,R,E,e1,λ F' L' H' J g R' wk=>⟨F',L',g,R',wk⟩⟩) λ v s1 h1=>aU h1 λ itv s2 h2=>?_
 obtain⟨it,fp,tn,J,H2,rfl,I2,T,st2,f2,F1,L1,g1,R1,wk⟩:=h2;refine xu (wpAny_newFunctionEnv ok.nocell (by intro y hy;simp at hy) (λ h₁ hns₁ hsb₁=>?_) ok.kind)
 dsimp only at hns₁ hsb₁ ⊢;have I3:Inv X aA σ (aQ H2 s2.heap.objs.size (.lst [])) {s2 with heap:=s2.heap.push {cls:=.type "list",dict:=qz,data:=.seq ([]:List qx).toArray } }:=I2.lnew (its:=[]) (t':=s2.toks) .nil (yEx _)
 generalize hs3:({s2 with heap:=s2.heap.push {cls:=.type "list",dict:=qz,data:=.seq ([]:List qx).toArray } }:qj)=s3 at I3
 have hh3:s2.heap.push {cls:=.type "list",dict:=qz,data:=.seq ([]:List qx).toArray }=s3.heap:=by rw[<- hs3]
 generalize hD:s2.heap.objs.size=Dd at I3;generalize hH3:aQ H2 Dd (.lst [])=H3 at I3;have hfr2:H2 Dd=qz:=by rw[<- hD];exact I2.fresh
 rw[hh3] at hns₁ hsb₁;rw[hh3];have cU:({heap:=h₁,gens:=s2.gens,drawn:=s2.drawn,toks:=s2.toks+([]:List (Str×qx)).length,os:=s2.os }:qj)={s3 with heap:=h₁,toks:=s3.toks+([]:List (Str×qx)).length }:=by rw[<- hs3]
 rw[cU];clear cU;generalize hC:s3.heap.objs.size=C at hns₁ hsb₁;have old:∀ b u,s3.heap.get? b=qq u->h₁.get? b=qq u:=λ b u q=>by
  have hb:b≠C:=by rw[<- hC];exact xAh (xAa q)
  exact hsb₁.extBut b u hb (hpS _ q)
 have lt2:∀ b∈fp,b<s2.heap.objs.size:=λ b hb=>by
  obtain⟨o,eo,_⟩:=T.obj 0 _ st2 b hb;exact xAa eo
 have up23:∀ b u,s2.heap.get? b=qq u->s3.heap.get? b=qq u:=λ b u q=>by rw[<- hh3];exact hpS _ q
 have lt3:∀ b∈fp,b<s3.heap.objs.size:=λ b hb=>by
  obtain⟨o,eo,_⟩:=T.obj 0 _ st2 b hb;exact xAa (up23 b o eo)
 have f3:∀ b∈fp,gH X aA H3 b:=λ b hb=>by
  refine⟨?_,(f2 b hb).2⟩;have ne:b≠Dd:=by rw[<- hD];exact xAh (lt2 b hb)
  rw[<- hH3,aW ne];exact(f2 b hb).1
 have okY:(iS X aA fp scope C s3 H3).Ok:=aJ6 I3 ok f3 lt3 (by rw[hC];exact yAe _)
 have hIC:iY X scope (iS X aA fp scope C s3 H3):=⟨aA,fp,C,s3,H3,rfl⟩;generalize hY:iS X aA fp scope C s3 H3=Y at okY hIC;have yE:Y.env=compEnvC scope (uI scope X.env) C X.env:=by rw[<- hY];rfl
 have I4:Inv Y [] (clr t.slots σ) H3 {s3 with heap:=h₁,toks:=s3.toks+([]:List (Str×qx)).length }:=by
  rw[<- hY] at okY ⊢;refine⟨okY,rfl,I3.bare,Un.kept old,⟨_,hns₁,λ i x v a1 a2 a3=>?_⟩,λ x c a=>?_,?_,λ x c a=>I3.freeC x c (nR I3 ok a),λ p hp=>?_,I3.hok.kept old,by rw[vH];exact I3.len⟩
  ·obtain⟨a4,a5⟩:=vX t.slots σ i v a2;have nl:scope.names.lookup x≠qq .local:=λ z=>a5 (own i x a1 z)
   have iP:(iS X aA fp scope C s3 H3).env.kindOf x=qq .cell\/(iS X aA fp scope C s3 H3).env.kindOf x=qq .free:=by
    rcases a3 with z | z | z
    ·exfalso;have z':(iS X aA fp scope C s3 H3).env.kindOf x=qq .local:=z;rw[aCZ] at z';cases ek:scope.names.lookup x with
     | none=>rw[ek] at z';cases z'
     | some k =>
       rw[ek] at z';cases k with
       | «local» => exact nl ek
       | free =>
         simp only[Option.map_some,Option.some.injEq] at z'
         split at z'<;>cases z'
       | cell=>exact ok.nocell (x,.cell) (mem_of_lookup ek) rfl
       | globalExplicit=>simp at z'
       | globalImplicit=>simp at z'
    ·exact .inl z
    ·exact .inr z
   have fr:=aDn ok iP;have ov:=ok.free (x,.free) (mem_of_lookup fr) rfl;obtain⟨m,hm,hl⟩:=I3.loc;obtain⟨u,ru,lk⟩:=hl i x v a1 a4 (ov.elim (λ z=>.inr (.inl z)) λ z=>.inr (.inr z))
   refine⟨u,ru,.inr ⟨iP,?_⟩⟩;obtain⟨c,hcl⟩:=aBb (env:=X.env) scope.names [] x (.inl ⟨.free,mem_of_lookup fr,rfl⟩);have hc2:=nR I3 ok hcl;rcases lk with ⟨z,_⟩ | ⟨_,c',e',o',ho',hd'⟩
   ·exfalso;have z':X.env.scope.names.lookup x=qq .local:=z;rcases ov with w | w
    ·rw[w] at z';cases z'
    ·rw[w] at z';cases z'
   ·rw[hc2] at e';cases e';exact⟨c,hcl,o',old _ _ ho',hd'⟩
  ·obtain⟨v,o,ho,hd⟩:=I3.cell x c (nR I3 ok a);exact⟨v,o,old _ _ ho,hd⟩
  ·show H3 C=qz;rw[<- hC];exact I3.fresh
  ·have hp':p∈X.pn++aA:=by
    have:p∈(X.pn++aA)++[]:=hp;rwa [yAu] at this
   obtain⟨b1,b2,b3,b4,b5⟩:=I3.pin p hp';refine⟨old _ _ b1,b2,?_,λ z=>?_,b5⟩
   ·show p.1≠C;rw[<- hC];exact xAh (xAa b1)
   ·rcases List.mem_cons.mp (I3.stkSub p.1 z) with w | w
    ·exact b3 w
    ·exact b4 w
 have fpY:∀ {H':Hp},(∀ b∈fp,H' b=qz)->∀ b∈fp,gH Y [] H' b:=λ hn b hb=>by
  rw[<- hY];refine⟨hn b hb,?_,aEJ I3 f3 b hb,.inl hb,λ x c a=>(f3 b hb).2.2.2.2.1 x c (nR I3 ok a),λ p hp=>?_⟩
  ·show b≠C;rw[<- hC];exact xAh (lt3 b hb)
  ·have hp':p∈X.pn++aA:=by
    have:p∈(X.pn++aA)++[]:=hp;rwa [yAu] at this
   exact(f3 b hb).2.2.2.2.2 p hp'
 have yA:Y.A=X.A:=by rw[<- hY];rfl
 have yP:Y.prog=X.prog:=by rw[<- hY];rfl
 have yW:Y.w=X.w:=by rw[<- hY];rfl
 have yK:Y.K=X.K:=by rw[<- hY];rfl
 have yC:Y.calm=true:=by rw[<- hY];exact hc
 have yX:Y.xe=λ _ _=>False:=by rw[<- hY];rfl
 have R3:Rel X.K F1 (L1++[Dd]) (S1++[qq []]) H3:=by rw[<- hH3];exact R1.newLoc hfr2 .nil
 obtain⟨PP,hPP⟩:∃ PP:Result->qj->Prop,PP=compPost (model X.prog X.w) X.A X.xe use QQ (.ref Dd) C:=⟨_,rfl⟩;have bB:∀ (s1:qj) (σ':L2.St) (H' F':Hp) (L':List qv),Inv Y [] σ' H' s1->Gr F1 (L1++[Dd]) F' L'->Rel X.K F' L' S2 H'->PP (.ok .next) s1:=by
  intro s1 σ' H' F' L' J' gg RR;rw[hPP];rw[<- hY] at J';obtain⟨m,hmC,_⟩:=J'.loc;have hCn:H' C=qz:=J'.free;have hfC:gH X aA H' C:=I3.fpOk (by rw[hC];exact yAe _) hCn
  obtain⟨sf,M,rfl⟩:=gg;have bW:L1.length=S1.length:=R1.len;have eL:((L1++[Dd])++M)[S1.length]? = qq Dd:=by
   rw[yCp,yAd (by rw[bW];exact yAe _),bW,yCr];rfl
  obtain⟨hF,xs,hx,dl⟩:=RR.loc S1.length Dd zs eL hz;have RR2:Rel X.K F' (L1++([Dd]++M)) S2 H':=by rw[<- yCp];exact RR
  have Rc:=RR2.cut;rw[bW] at Rc;have hnd:Dd ∉ L1:=λ z=>by
   have nd:=RR2.nd;rw[yFl] at nd;exact nd.2.2 Dd z Dd (by simp) rfl
  refine hend Dd C s1 H' hfC ⟨m,hmC⟩ (λ h' sb=>?_) (q F' L1 H' Dd xs (g1.trans ⟨sf,[],by simp⟩) Rc hF hnd hx dl)
  have neC:∀ b u,s3.heap.get? b=qq u->b≠C:=λ b u z=>by rw[<- hC];exact xAh (xAa z)
  have kp:∀ b u,b≠C->s1.heap.get? b=qq u->h'.get? b=qq u:=λ b u z w=>sb.extBut b u z w
  have bU:Un (dB X.stack) fp H3 H' s3.heap s1.heap:=J'.base;have u:Un (dB X.stack) fp H3 H' s3.heap h':=
   ⟨λ b o z n hb hx=>kp b o (neC b o z) (bU.keep b o z n hb hx),λ b o z n hb hx=>by obtain⟨sl,w⟩:=bU.slot b o z n hb hx;exact⟨sl,kp b _ (neC b o z) w⟩,bU.free,
    λ b o z hx=>by obtain⟨o',w⟩:=bU.there b o z hx;exact⟨o',kp b _ (neC b o z) w⟩,bU.tups,bU.frzs,bU.tbls⟩
  have hokY:cO X.prog X.w H' s1.heap:=J'.hok;have hok':cO X.prog X.w H' h':=λ b o z=>(hokY b o z).stay (λ c v hc2 w=>kp c v (λ zz=>by
   rcases hc2 with w2 | w2
   ·rw[w2] at zz;rw[zz,hCn] at z;cases z
   ·rw[zz,hCn] at w2;cases w2) w) (λ _ w=>w) λ _ _ w=>w
  have os1:s1.os=s3.os:=J'.os;exact I3.call' (s':={s1 with heap:=h' }) os1 u hok' J'.bare λ b hb=>⟨(f3 b hb).2.2.2.1,(f3 b hb).2.1,(f3 b hb).2.2.2.2.1,(f3 b hb).2.2.2.2.2⟩
 have loop:∀ s5:qj,Inv Y [] (clr t.slots σ) H3 s5->tn 0 s5.heap ->
  vo (model X.prog X.w) X.A (.compLoop (.ListComp elt [⟨tg,iter,ifs,0⟩] scope pos) 0 (.ref it) (.ref Dd) Y.env) PP s5:=by
  intro s5 I5 st5;have E0:EnvR X.K F1 (L1++[Dd]) (clr t.slots env) (clr t.slots σ):=(E.mono (g1.trans Gr.newLoc)).clr t.slots;obtain⟨Iv,hIv⟩:∃ Iv:Nat->qj->Prop,∀ n s',Iv n s' ↔ (∃ i σ' H' F' L' S',Inv Y [] σ' H' s'/\tn i s'.heap/\(∀ b∈fp,H' b=qz)/\Gr F1 (L1++[Dd]) F' L'/\Rel X.K F' L' S' H'/\EnvR X.K F' L' (clr t.slots env) σ'/\i+n=ds.length /\
   jA t fc fe S1.length (clr t.slots env) (ds.drop i) S'=qq S2):=⟨_,λ _ _=>Iff.rfl⟩
  refine aHC Iv ?_ ds.length ((hIv _ _).mpr ⟨0,clr t.slots σ,H3,F1,L1++[Dd],S1++[qq []],I5,st5,λ b hb=>(f3 b hb).1,Gr.refl,R3,E0,yEm _,by rw[yCw];exact e2⟩)
  intro n s6 h6;obtain⟨i,σ6,H6,F6,L6,S6,I6,st6,fr6,g6,R6,E6,hin,ec⟩:=(hIv _ _).mp h6;clear h6;have g16:Gr F1 L1 F6 L6:=Gr.newLoc.trans g6;have toA:∀ {α:Type}{tt:Sem α}{QQ:α->qj->Prop}{EE:qx->qj->Prop}{ss:qj},qu (model X.prog X.w) Y.A tt QQ EE ss->qu (model X.prog X.w) X.A tt QQ EE ss:=λ hh=>by rw[yA] at hh;exact hh
  cases n with
  | zero =>
    have hi':i=ds.length:=by omega
    subst hi';rw[yEq] at ec;cases ec;refine aU (toA (T.done Y yP yW yK yC ds.length [] s6 σ6 H6 _ I6 (fpY fr6) st6 (wk.stop H6 (g16.f.trans R6.sub)))) λ r s7 hPq30=>?_
    obtain⟨hr,I7⟩:=hPq30;subst hr;exact bB s7 σ6 H6 F6 L6 I7 g6 R6
  | succ n =>
    have hi':i<ds.length:=by omega
    refine aU (toA (T.item Y yP yW yK yC i [] s6 σ6 H6 _ I6 (fpY fr6) st6 (wk.go i H6 (g16.f.trans R6.sub) hi'))) λ r s7 hPq31=>?_
    obtain⟨u,hr,h7⟩:=hPq31;subst hr;refine aU (toA h7) λ _ s8 hPq32=>?_
    obtain⟨x,H8,I8,r8,y8,st8,fr8⟩:=hPq32;obtain⟨F8,sf8,R8,d8⟩:=wk.yld i H6 F6 L6 S6 x H8 ds[i] g16 R6 (yAc hi') y8;have g8:Gr F6 L6 F8 L6:=⟨sf8,[],by simp⟩
    rw[yCl hi'] at ec;obtain⟨env9,ep,ec⟩:=bind_some ec;obtain⟨⟨cb,S9⟩,et,ec⟩:=bind_some ec;have I8':=I8.pinned (fpY fr8) (T.obj _ _ st8);have toF:∀ {α:Type}{tt:Sem α}{QQ:α->qj->Prop}{ss:qj},qu (model Y.prog Y.w) Y.A tt QQ Y.xe ss->qu (model X.prog X.w) X.A tt QQ (λ _ _=>False) ss:=λ hh=>by rw[yX,yP,yW,yA] at hh;exact hh
    refine toF (aU (hg Y hIC _ s8 σ6 H8 x u (λ σ' H'=>H'=H8/\EnvR X.K F8 L6 env9 σ') I8' r8 (ga ds[i] x σ6 H8 F8 L6 S6 (clr t.slots env) env9 _ R8 (E6.mono g8) d8 ep λ σ' E'=>⟨rfl,E'⟩)) λ _ s9 hPq33=>?_)
    obtain⟨σ9,H9,I9,hH9,E9⟩:=hPq33;subst hH9;refine toF (aU (ht Y hIC _ s9 σ9 H9 (λ b H'=>∃ F' L',Gr F8 L6 F' L'/\Rel X.K F' L' S9 H'/\b=cb) I9 (by rw[yK];exact⟨F8,L6,S6,env9,cb,S9,R8,E9,et,λ F' L' H' g' R'=>⟨F',L',g',R',rfl⟩⟩)) λ ok2 s10 hPq34=>?_)
    obtain⟨H10,I10,F10,L10,g10,R10,hb10⟩:=hPq34;subst hb10;dsimp only at ec;have again:∀ {σ7:L2.St}{H7 F7:Hp}{L7:List qv}{S7:aB}{s7':qj},Inv Y ([]++sI fp s8.heap) σ7 H7 s7'->Gr F8 L6 F7 L7->Rel X.K F7 L7 S7 H7->EnvR X.K F7 L7 env9 σ7->jA t fc fe S1.length (clr t.slots env) (ds.drop (i+1)) S7=qq S2 ->
     ∃ m,m<n+1/\Iv m s7':=by
     intro σ7 H7 F7 L7 S7 s7' I7 g7 R7 E7 ec7;refine⟨n,yCv n,(hIv _ _).mpr ⟨i+1,σ7,H7,F7,L7,S7,I7.unpinned,T.keep _ _ _ st8 λ b hb o eo=>(I7.pin (b,o) (xAk _ (xAk _ (rG hb eo)))).1,λ b hb=>?_,(g6.trans g8).trans g7,R7,EnvR.back ep E7,by omega,ec7⟩⟩
     obtain⟨o,eo,_⟩:=T.obj _ _ st8 b hb;exact(I7.pin (b,o) (xAk _ (xAk _ (rG hb eo)))).2.1
    cases ok2 with
    | false =>
      rw[if_neg (by simp)] at ec
      rw[if_neg (by simp)]
      exact again I10 g10 R10 (E9.mono g10) ec
    | true =>
      rw[if_pos rfl] at ec;rw[if_pos rfl];obtain⟨⟨wv,S11⟩,ee,ec⟩:=bind_some ec;obtain⟨⟨wn,S12⟩,ea,ec⟩:=bind_some ec;obtain⟨n',dv,zs',hn',hw',es',hlt,hwn,rfl⟩:=aDi ea;cases hn';subst hw';refine toF (aU (he Y hIC _ s10 σ9 H10 (λ v H'=>∃ F' L',Gr F10 L10 F' L'/\Rel X.K F' L' S11 H'/\Den X.K F' dv v) I10 ⟨F10,L10,S9,env9,_,S11,R10,E9.mono g10,ee,λ F' L' H' v g' R' d'=>⟨F',L',g',R',d'⟩⟩) λ xv s11 hPq35=>?_)
      obtain⟨v11,H11,I11,r11,F11,L11,g11,R11,d11⟩:=hPq35;have gA:Gr F1 (L1++[Dd]) F11 L11:=((g6.trans g8).trans g10).trans g11;have eL:L11[S1.length]? = qq Dd:=gA.get (by rw[yAd (by rw[R1.len];exact yAe _),R1.len,yCr];rfl)
      obtain⟨hF,xs,hx,dl⟩:=R11.loc S1.length Dd zs' eL es';refine toF (aU (aAi (X:=Y) _ s11 σ9 H11 (.ref Dd) [v11] (.ref Dd) [xv] (λ _ H'=>Rel X.K F11 L11 (S11.set S1.length (qq (zs'++[dv]))) H') I11 rfl (.cons r11 .nil) ⟨Dd,xs,v11,rfl,rfl,hx,by rw[<- dl.length];exact hlt,R11.put eL hF (dl.append (.cons d11 .nil))⟩) λ _ s12 hPq36=>?_)
      obtain⟨_,H12,I12,_,R12⟩:=hPq36;exact again I12 (g10.trans g11) R12 (E9.mono (g10.trans g11)) ec
 rw[yE,hPP] at loop;have st4:tn 0 h₁:=T.keep 0 _ _ st2 λ b _ o eo=>old b o (up23 b o eo)
 exact codeAny_compStart_list (loop _ I4 st4) (T.self X.A 0 _ _ _ st4 (loop _ I4 st4))
theorem aA4(hc:X.calm=true)(ok:ScOk scope X.env.scope)(own:aBt X.N scope t.slots)(hi:PI X tg iter (iT X.K fi))(hg:∀ Y,iY X scope Y->PG Y tg g)(ga:GA X.K t g)
 (ht:∀ Y,iY X scope Y->kR Y ifs fc) (he:∀ Y,iY X scope Y->PE Y elt (aH X.K fe)) (hs:∀ x,jj iter X.env x=pure x) :
 PE X (.ListComp elt [⟨tg,iter,ifs,0⟩] scope pos) (gJ X.K (gG t fi fc fe)):=λ aA s σ H Q I h=>by
 rw[eval_ListComp];exact aC0 qz hc ok own hi hg ga ht he hs I h λ p C s1 H' _ hm hI q=>hm.elim λ m hm=>⟨m,hm,λ h' sb=>⟨.ref p,H',hI h' sb,rfl,q⟩⟩
theorem aIV{i:Nat}{x:Str}{pos' spos:Pos}{fa:FE}(hN:X.N.Nodup)(hx1:X.N[i]? = qq x)(hx2:L2.Loc X.env.scope x)(hf:X.fn x=true\/X.env.scope.names.lookup x=qq .local)
 (hc:X.calm=true) (ok:ScOk scope X.env.scope) (own:aBt X.N scope t.slots) (hi:PI X tg iter (iT X.K fi)) (hg:∀ Y,iY X scope Y->PG Y tg g) (ga:GA X.K t g)
 (ht:∀ Y,iY X scope Y->kR Y ifs fc) (he:∀ Y,iY X scope Y->PE Y elt (aH X.K fe)) (hs:∀ x,jj iter X.env x=pure x)
 (hw:∀ σ H Q,aH X.K fa σ H Q->gJ X.K (gG t fi fc fe) σ H Q) :
 PS X (.Assign [.Name x pos'] (.ListComp elt [⟨tg,iter,ifs,0⟩] scope pos) spos) (cE X.K (dJ i fa)):=by
 have hb:∃ b,swapsWith (.ListComp elt [⟨tg,iter,ifs,0⟩] scope pos) (qq (.Name x pos')) spos.line X.env=pure b:=⟨_,rfl⟩;obtain⟨b,hb⟩:=hb;cases b with
 | false=>exact xB hN hx1 hx2 (PE.weak (aA4 hc ok own hi hg ga ht he hs) hw) hb hf
 | true =>
   intro aA s σ H DD I h;have h2:=aF8 DD σ H h;rw[exec_Assign_Name_used _ _ _ _ hb];refine wB (vx (wB ?_));show qu _ X.A (do let _ <- comprehension (.ListComp elt [⟨tg,iter,ifs,0⟩] scope pos) scope X.env _ (newList []) false (eval iter X.env) (qq (assign (.Name x pos') X.env))) _ _ s
   refine wB (aU (aC0 (QQ:=λ _ s'=>SP X aA DD .next s') (qq (assign (.Name x pos') X.env)) hc ok own hi hg ga ht he hs I (hw _ _ _ h2) λ p C s1 H' hC hm hI q=>?_) λ _ s' hq=>wP (wP hq))
   obtain⟨m,hm⟩:=hm;have I1:Inv X aA σ H' s1:=hI s1.heap (Heap.SameBut.refl _ _);obtain⟨o,es,ep,ho,hd,r⟩:=hm;have I2:=I1.pinned (fp:=[C]) (λ b hb=>by rw[List.mem_singleton.mp hb];exact hC) λ b hb=>by rw[List.mem_singleton.mp hb];exact⟨o,ho,λ v z=>by rw[hd] at z;cases z⟩
   refine aU (aAO (pos:=pos') hN hx1 hx2 hf _ s1 σ H' (.ref p) (.ref p) _ I2 rfl q) λ _ s2 hPq37=>?_
   obtain⟨σ2,H2,I3,q3⟩:=hPq37;obtain⟨b1,b2,_⟩:=I3.pin (C,o) (xAk _ (xAk _ (rG (by simp) ho)))
   refine⟨m,⟨o,es,ep,b1,hd,r⟩,λ h' sb=>⟨σ2,H2,?_,q3⟩⟩
   exact I3.unpinned.turned (t':=s2.toks) (λ b o hb e=>sb.extBut b o hb e) b2 hC.2.1 hC.2.2.2.1 hC.2.2.2.2.1 hC.2.2.2.2.2
end
noncomputable def sN:List D->Option (List Int)
 | []=>qq []
 | .int i::r=>(sN r).bind λ l=>qq (i::l)
 | _::_=>qz
noncomputable def jT:List D->Option (List Bool)
 | []=>qq []
 | .bool i::r=>(jT r).bind λ l=>qq (i::l)
 | _::_=>qz
noncomputable def dA:List D->Option D
 | [.list xs]=>qq (.int xs.length)
 | [.tuple xs]=>qq (.int xs.length)
 | [.str z]=>if z.length<=qk then qq (.int z.length) else qz
 | _=>qz
noncomputable def aBZ:List D->Option D
 | [.int i,.int j]=>qq (.int (if j>i then j else i))
 | [.int i,.int j,.int k]=>qq (.int (if j>i then (if k>j then k else j) else (if k>i then k else i)))
 | [.list xs]=>match sN xs with
   | some (i::r)=>qq (.int (r.foldl max i))
   | _=>qz
 | _=>qz
noncomputable def uA:List D->Option D
 | [.int i,.int j]=>qq (.int (if j<i then j else i))
 | [.list xs]=>match sN xs with
   | some (i::r)=>qq (.int (r.foldl min i))
   | _=>qz
 | _=>qz
noncomputable def tJ:List D->Option D
 | [.int i]=>qq (.int i)
 | [.bool k]=>qq (.int (if k then 1 else 0))
 | _=>qz
noncomputable def aBO:List D->Option D
 | [.int i]=>qq (.int (if i<0 then -i else i))
 | _=>qz
noncomputable def sH:List D->Option D
 | [.list xs]=>qq (.tuple xs)
 | [.tuple xs]=>qq (.tuple xs)
 | _=>qz
noncomputable def aBI:List D->Option D
 | [.list xs]=>(sN xs).bind λ l=>qq (.int l.sum)
 | _=>qz
noncomputable def xV:List D->Option D
 | [.list xs]=>(jT xs).bind λ l=>qq (.bool (l.all id))
 | _=>qz
noncomputable def xK:List D->Option D
 | [.list xs]=>(jT xs).bind λ l=>qq (.bool (l.any id))
 | _=>qz
section
variable {X : Cx}
theorem gX{F H:Hp}{d:D}{xs:List V}(h:NowL X.K F H [d] xs):∃ x,xs=[x]/\bG X.K F H d x:=by
 cases h with
 | cons a b=>cases b;exact⟨_,rfl,a⟩
theorem aG1{F H:Hp}{d e:D}{xs:List V}(h:NowL X.K F H [d,e] xs):∃ x y,xs=[x,y]/\bG X.K F H d x/\bG X.K F H e y:=by
 cases h with
 | cons a b =>
   cases b with
   | cons c d=>cases d;exact⟨_,_,rfl,a,c⟩
theorem aP4{F H:Hp}{d e f:D}{xs:List V}(h:NowL X.K F H [d,e,f] xs):∃ x y z,xs=[x,y,z]/\bG X.K F H d x/\bG X.K F H e y/\bG X.K F H f z:=by
 cases h with
 | cons a b=>cases b with
   | cons c d=>cases d with
     | cons e f=>cases f;exact⟨_,_,_,rfl,a,c,e⟩
theorem aOr{x y z:V}{us:List qx}(r:aO [x,y,z] us):∃ u v w',us=[u,v,w']/\aT x u/\aT y v/\aT z w':=by
 cases r with
 | cons r1 r2=>cases r2 with
   | cons r3 r4=>cases r4 with
     | cons r5 r6=>cases r6;exact⟨_,_,_,rfl,r1,r3,r5⟩
theorem aIs(hc:X.calm=true):cF X (.builtin "max") (λ xs H Q=>∃ i j k,xs=[.int i,.int j,.int k]/\Q (.int (if j>i then (if k>j then k else j) else (if k>i then k else i))) H):=by
 intro aA s σ H xs us Q I r h;obtain⟨i,j,k,rfl,q⟩:=h;obtain⟨u,v,w',rfl,⟨t,rfl⟩,⟨t',rfl⟩,⟨t2,rfl⟩⟩:=aOr r;refine max_three_ints (I.ok.hd hc) λ h' tk kk=>⟨_,H,I.kept kk,?_,q⟩
 by_cases h1:j>i<;>by_cases h2:k>j<;>by_cases h3:k>i<;>simp only[h1,h2,h3,if_true,if_false]<;>exact⟨_,rfl⟩
theorem vJ{K:FrG}{F:Hp}:∀ {ds:List D}{xs:List V}{ns:List Int},DenL K F ds xs->sN ds=qq ns->xs=ns.map V.int
 | _,_,_,.nil,e=>by cases e;rfl
 | .int i::r,_,_,.cons h t,e=>by
   obtain⟨l,e1,e2⟩:=bind_some e;cases e2;cases h;rw[yAi,vJ t e1]
 | .none::_,_,_,.cons _ _,e=>by cases e
 | .bool _::_,_,_,.cons _ _,e=>by cases e
 | .str _::_,_,_,.cons _ _,e=>by cases e
 | .list _::_,_,_,.cons _ _,e=>by cases e
 | .tuple _::_,_,_,.cons _ _,e=>by cases e
 | .dict _::_,_,_,.cons _ _,e=>by cases e
theorem aD8:∀ (l:List Int) (i:Int),(l.foldl max i∈i::l)/\∀ a∈i::l,a<=l.foldl max i
 | [],i=>⟨List.mem_singleton.mpr rfl,λ a h=>by rw[List.mem_singleton.mp h];exact Int.le_refl _⟩
 | b::l,i=>by
   obtain⟨h1,h2⟩:=aD8 l (max i b);rw[yAm];refine⟨?_,λ a ha=>?_⟩
   ·rcases List.mem_cons.mp h1 with h | h
    ·rw[h];rcases Int.le_total i b with q | q
     ·rw[Int.max_eq_right q];simp
     ·rw[Int.max_eq_left q];simp
    ·simp[h]
   ·have h3:=h2 (max i b) xAd;simp only[yBc] at ha;rcases ha with rfl | rfl | ha
    ·exact yFt (Int.le_max_left _ _) h3
    ·exact yFt (Int.le_max_right _ _) h3
    ·exact h2 a (xAf _ ha)
theorem aEF:∀ (l:List Int) (i:Int),(l.foldl min i∈i::l)/\∀ a∈i::l,l.foldl min i<=a
 | [],i=>⟨List.mem_singleton.mpr rfl,λ a h=>by rw[List.mem_singleton.mp h];exact Int.le_refl _⟩
 | b::l,i=>by
   obtain⟨h1,h2⟩:=aEF l (min i b);rw[yAm];refine⟨?_,λ a ha=>?_⟩
   ·rcases List.mem_cons.mp h1 with h | h
    ·rw[h];rcases Int.le_total i b with q | q
     ·rw[Int.min_eq_left q];simp
     ·rw[Int.min_eq_right q];simp
    ·simp[h]
   ·have h3:=h2 (min i b) xAd;simp only[yBc] at ha;rcases ha with rfl | rfl | ha
    ·exact yFt h3 (Int.min_le_left _ _)
    ·exact yFt h3 (Int.min_le_right _ _)
    ·exact h2 a (xAf _ ha)
theorem aAf:∀ {l:List Int}{us:List qx},aO (l.map V.int) us->∃ ps:List (Int×Tok),us=ps.map (λ p=>Value.int p.1 p.2)/\ps.map (·.1)=l
 | [],us,r=>by cases r;exact⟨[],rfl,rfl⟩
 | i::l,us,r=>by
   cases r with
   | cons h t =>
     obtain⟨tk,rfl⟩:=h;obtain⟨ps,rfl,rfl⟩:=aAf t;exact⟨(i,tk)::ps,rfl,rfl⟩
theorem aIB(hc:X.calm=true):cF X (.builtin "max") (λ xs H Q=>∃ (a:qv) (l:List Int),xs=[.ref a]/\bJ X.K H a (l.map V.int)/\0<l.length/\∀ M,M∈l->(∀ i∈l,i<=M)->Q (.int M) H):=by
 intro aA s σ H xs us Q I r h;obtain⟨a,l,rfl,sq,hl,q⟩:=h;obtain⟨u,rfl,ru⟩:=fB r;cases ru;obtain⟨its,rv,pl,hz⟩:=I.list sq;obtain⟨ps,rfl,rfl⟩:=aAf rv;have hIL:s.heap.IsList a (intItems ps.toArray):=by
  have e:intItems ps.toArray=(ps.map (λ p=>Value.int p.1 p.2)).toArray:=by simp[intItems]
  rw[e];exact pl.isList
 refine max_intList (xs:=ps.toArray) (I.ok.hd hc) hIL (by simpa using hl) λ v h' tk hv hk=>?_
 obtain⟨t,rfl⟩:=intItems_at hv;obtain⟨h1,h2⟩:=argBest_gt (numAt ps.toArray) (ps.toArray.size-1);refine⟨.int _,H,I.kept hk,⟨_,rfl⟩,q _ ?_ λ i hi=>?_⟩
 ·rw[numAt_eq];have hz':0<ps.toArray.size:=by simpa using hl
  exact getD_mem (by rw[yAb,yAk];exact yFh h1 (Nat.sub_lt hz' Nat.one_pos))
 ·obtain⟨j,hj,rfl⟩:=mem_getD hi;rw[yAb] at hj;have:=h2 j (by rw[yAf];omega)
  rw[numAt_eq (j:=j)] at this;exact this
theorem aI5(hc:X.calm=true):cF X (.builtin "min") (λ xs H Q=>∃ (a:qv) (l:List Int),xs=[.ref a]/\bJ X.K H a (l.map V.int)/\0<l.length/\∀ M,M∈l->(∀ i∈l,M<=i)->Q (.int M) H):=by
 intro aA s σ H xs us Q I r h;obtain⟨a,l,rfl,sq,hl,q⟩:=h;obtain⟨u,rfl,ru⟩:=fB r;cases ru;obtain⟨its,rv,pl,hz⟩:=I.list sq;obtain⟨ps,rfl,rfl⟩:=aAf rv;have hIL:s.heap.IsList a (intItems ps.toArray):=by
  have e:intItems ps.toArray=(ps.map (λ p=>Value.int p.1 p.2)).toArray:=by simp[intItems]
  rw[e];exact pl.isList
 refine min_intList (xs:=ps.toArray) (I.ok.hd hc) hIL (by simpa using hl) λ v h' tk hv hk=>?_
 obtain⟨t,rfl⟩:=intItems_at hv;obtain⟨h1,h2⟩:=argBest_lt (numAt ps.toArray) (ps.toArray.size-1);refine⟨.int _,H,I.kept hk,⟨_,rfl⟩,q _ ?_ λ i hi=>?_⟩
 ·rw[numAt_eq];have hz':0<ps.toArray.size:=by simpa using hl
  exact getD_mem (by rw[yAb,yAk];exact yFh h1 (Nat.sub_lt hz' Nat.one_pos))
 ·obtain⟨j,hj,rfl⟩:=mem_getD hi;rw[yAb] at hj;have:=h2 j (by rw[yAf];omega)
  rw[numAt_eq (j:=j)] at this;exact this
theorem aPe:cF X (.builtin "len") (kM X dA):=λ aA s σ H xs us Q I r aJ=>by
 obtain⟨F,L,S,ds,z,R,n,e,q⟩:=aJ;unfold dA at e
 split at e
 ·cases e;obtain⟨x,rfl,nx⟩:=gX n;obtain⟨a,ys,rfl,sq,dl⟩:=nx.lst R.sub;exact aCB aA s σ H _ us Q I r ⟨a,ys,rfl,.inl sq,by rw[<- dl.length];exact q.here R (.int _)⟩
 ·cases e;obtain⟨x,rfl,nx⟩:=gX n;obtain⟨a,ys,rfl,sq,dl⟩:=nx.tup R.sub;exact aCB aA s σ H _ us Q I r ⟨a,ys,rfl,.inr sq,by rw[<- dl.length];exact q.here R (.int _)⟩
 ·split at e
  ·rename_i hz;cases e;obtain⟨x,rfl,nx⟩:=gX n;exact aHH aA s σ H _ us Q I r ⟨_,by rw[nx.str],hz,q.here R (.int _)⟩
  ·cases e
 ·cases e
theorem aOL(hc:X.calm=true):cF X (.builtin "max") (kM X aBZ):=λ aA s σ H xs us Q I r aJ=>by
 obtain⟨F,L,S,ds,z,R,n,e,q⟩:=aJ;unfold aBZ at e
 split at e
 ·cases e;obtain⟨x,y,rfl,nx,ny⟩:=aG1 n;exact aIz hc aA s σ H _ us Q I r ⟨_,_,by rw[nx.int,ny.int],q.here R (.int _)⟩
 ·cases e;obtain⟨x,y,u,rfl,nx,ny,nu⟩:=aP4 n;exact aIs hc aA s σ H _ us Q I r ⟨_,_,_,by rw[nx.int,ny.int,nu.int],q.here R (.int _)⟩
 ·split at e
  ·rename_i xs' i r' hi;cases e;obtain⟨x,rfl,nx⟩:=gX n;obtain⟨a,ys,rfl,sq,dl⟩:=nx.lst R.sub;obtain rfl:=vJ dl hi;refine aIB hc aA s σ H _ us Q I r ⟨a,i::r',rfl,sq,by simp,λ M h1 h2=>?_⟩
   have f:=aD8 r' i;have:M=r'.foldl max i:=Int.le_antisymm (f.2 _ h1) (h2 _ f.1);rw[this];exact q.here R (.int _)
  ·cases e
 ·cases e
theorem aOm(hc:X.calm=true):cF X (.builtin "min") (kM X uA):=λ aA s σ H xs us Q I r aJ=>by
 obtain⟨F,L,S,ds,z,R,n,e,q⟩:=aJ;unfold uA at e
 split at e
 ·cases e;obtain⟨x,y,rfl,nx,ny⟩:=aG1 n;exact aI8 hc aA s σ H _ us Q I r ⟨_,_,by rw[nx.int,ny.int],q.here R (.int _)⟩
 ·split at e
  ·rename_i xs' i r' hi;cases e;obtain⟨x,rfl,nx⟩:=gX n;obtain⟨a,ys,rfl,sq,dl⟩:=nx.lst R.sub;obtain rfl:=vJ dl hi;refine aI5 hc aA s σ H _ us Q I r ⟨a,i::r',rfl,sq,by simp,λ M h1 h2=>?_⟩
   have f:=aEF r' i;have:M=r'.foldl min i:=Int.le_antisymm (h2 _ f.1) (f.2 _ h1);rw[this];exact q.here R (.int _)
  ·cases e
 ·cases e
theorem aPw:cF X (.type "int") (kM X tJ):=λ aA s σ H xs us Q I r aJ=>by
 obtain⟨F,L,S,ds,z,R,n,e,q⟩:=aJ;unfold tJ at e
 split at e
 ·cases e;obtain⟨x,rfl,nx⟩:=gX n;exact aDe aA s σ H _ us Q I r (.inl ⟨_,by rw[nx.int],q.here R (.int _)⟩)
 ·cases e;obtain⟨x,rfl,nx⟩:=gX n;exact aDe aA s σ H _ us Q I r (.inr ⟨_,by rw[nx.bl],q.here R (.int _)⟩)
 ·cases e
theorem aPk:cF X (.builtin "abs") (kM X aBO):=λ aA s σ H xs us Q I r aJ=>by
 obtain⟨F,L,S,ds,z,R,n,e,q⟩:=aJ;unfold aBO at e
 split at e
 ·cases e;obtain⟨x,rfl,nx⟩:=gX n;exact aJK aA s σ H _ us Q I r ⟨_,by rw[nx.int],q.here R (.int _)⟩
 ·cases e
theorem aKx:cF X (.type "tuple") (kM X sH):=λ aA s σ H xs us Q I r aJ=>by
 obtain⟨F,L,S,ds,z,R,n,e,q⟩:=aJ;unfold sH at e
 split at e
 ·cases e;obtain⟨x,rfl,nx⟩:=gX n;obtain⟨a,ys,rfl,sq,dl⟩:=nx.lst R.sub;exact aCy aA s σ H _ us Q I r ⟨a,ys,rfl,.inl ⟨sq,λ l hl=>q.tup R hl dl⟩⟩
 ·cases e;obtain⟨x,rfl,nx⟩:=gX n;have nx':=nx;obtain⟨a,ys,rfl,sq,dl⟩:=nx.tup R.sub;refine aCy aA s σ H _ us Q I r ⟨a,ys,rfl,.inr ⟨sq,q.here R ?_⟩⟩;rcases nx' with nx | ⟨_,_,_,e,_⟩
  ·exact nx
  ·cases e
 ·cases e
theorem zZ{prog:zq}{w:zx}{A:zv}(hh:A.handled=qz)(I ax:qv)(hne:ax≠I)(aM:Array qx) :
 WalksS prog w A I [I,ax] [I] (λ a b=>b=a) aM.size (λ i v=>aM[i]? = qq v) (λ i s=>s.heap.IsListIter I ax i/\s.heap.IsList ax aM) where
 sub:=λ b hb=>by simp at hb;simp[hb]
 grefl:=λ _=>rfl
 gtrans:=λ _ _ _ h1 h2=>h2.trans h1
 frame:=λ _ _ _ _ st _ hk=>⟨st.1.at λ o e=>hk I (by simp) o e,st.2.at λ o e=>hk ax (by simp) o e⟩
 item:=λ i s Q E hi st hQ=>by
  refine wq st.1 st.2 (x:=aM[i]) (by simp[hi]) λ h' hit' hs'=>?_
  exact hQ _ _ (by simp[hi]) ⟨hit',st.2.extBut hs'.extBut hne⟩ ⟨λ b o hb e=>hs'.extBut b o (λ h=>hb (by simp[h])) e,rfl,rfl,rfl,yAe _⟩
 done:=λ s Q E st hQ=>ww hh st.1 st.2 (by simp) λ h' he'=>hQ _ ⟨λ b o hb e=>he' b o (λ h=>hb (by simp[h])) e,rfl,rfl,rfl,yAe _⟩
 self:=λ _ _ _ _ st hQ=>wpAny_pyIter_listiter st.1 hQ
theorem aCM:∀ (ns:List Int) (k:Nat),k<=ns.length->preSum (λ i=>ns.getD i 0) k=(ns.take k).sum
 | _,0,_=>by simp[preSum]
 | ns,k+1,h=>by
   rw[preSum,aCM ns k (by omega),List.take_succ_eq_append_getElem (by omega),List.sum_append]
   have:ns.getD k 0=ns[k]:=by simp[List.getD,yAc (show k<ns.length by omega)]
   rw[this];simp
theorem zX{K:FrG}{F:Hp}:∀ {ds:List D}{xs:List V}{ns:List Bool},DenL K F ds xs->jT ds=qq ns->xs=ns.map V.bl
 | _,_,_,.nil,e=>by cases e;rfl
 | .bool i::r,_,_,.cons h t,e=>by
   obtain⟨l,e1,e2⟩:=bind_some e;cases e2;cases h;rw[yAi,zX t e1]
 | .none::_,_,_,.cons _ _,e=>by cases e
 | .int _::_,_,_,.cons _ _,e=>by cases e
 | .str _::_,_,_,.cons _ _,e=>by cases e
 | .list _::_,_,_,.cons _ _,e=>by cases e
 | .tuple _::_,_,_,.cons _ _,e=>by cases e
 | .dict _::_,_,_,.cons _ _,e=>by cases e
theorem aHT{ns:List Int}{us:List qx}(r:aO (ns.map V.int) us){i:Nat}{v:qx}(e:us[i]? = qq v):∃ t,v=.int (ns.getD i 0) t:=by
 have hl:=r.length;rw[yAb] at hl;have hi:i<ns.length:=by rw[hl];exact(gIm e).1
 obtain⟨u,e1,ru⟩:=aO.get r (i:=i) (x:=.int ns[i]) (by rw[xAb,yAc hi];rfl)
 rw[e] at e1;cases e1;obtain⟨t,rfl⟩:=ru;exact⟨t,by simp[List.getD,yAc hi]⟩
theorem aCC{ns:List Bool}{us:List qx}(r:aO (ns.map V.bl) us){i:Nat}{v:qx}(e:us[i]? = qq v):v=.bool (ns.getD i false):=by
 have hl:=r.length;rw[yAb] at hl;have hi:i<ns.length:=by rw[hl];exact(gIm e).1
 obtain⟨u,e1,ru⟩:=aO.get r (i:=i) (x:=.bl ns[i]) (by rw[xAb,yAc hi];rfl)
 rw[e] at e1;cases e1;obtain rfl:=ru;simp[List.getD,yAc hi]
theorem aPD(hc:X.calm=true):cF X (.builtin "sum") (kM X aBI):=λ aA s σ H xs us Q I r aJ=>by
 obtain⟨F,L,S,ds,z,R,n,e,q⟩:=aJ;unfold aBI at e
 split at e
 ·obtain⟨ns,e1,e2⟩:=bind_some e;cases e2;obtain⟨x,rfl,nx⟩:=gX n;obtain⟨a,ys,rfl,sq,dl⟩:=nx.lst R.sub;obtain rfl:=vJ dl e1;obtain⟨u,rfl,ru⟩:=fB r;cases ru;obtain⟨its,rv,pl,hz⟩:=I.list sq;have hh:X.A.in1.handled=qz:=I.ok.hd hc;refine call_sum_walkAnyS (ju pl.isList ?_);have hne:a≠s.heap.objs.size:=by
   obtain⟨o,ho,_⟩:=pl.isList;exact xAh (xAa ho)
  have hl:=rv.length;rw[yAb] at hl;refine⟨_,_,_,_,_,_,_,λ i=>ns.getD i 0,rfl,zZ hh s.heap.objs.size a hne its.toArray,⟨⟨_,xAe _ rfl,rfl,rfl⟩,?_⟩,λ b hb=>?_,λ i v e=>aHT rv (by simpa using e),λ s' t' mv=>?_⟩
  ·obtain⟨o,ho,r'⟩:=pl.isList;exact⟨o,hpS _ ho,r'⟩
  ·obtain⟨o,ho,_⟩:=pl.isList;have h1:=xAa ho;simp only[yBc,yAv,or_false] at hb;rw[yEh];rcases hb with rfl | rfl
   ·exact yCv _
   ·exact Nat.lt_succ_of_lt h1
  ·obtain⟨h',g',d',t2,o'⟩:=s';obtain⟨mh,mg,md,mo,mt⟩:=mv;dsimp only at mh mg md mo;subst mg md mo;have I':Inv X aA σ H {s with heap:=h',toks:=t2 }:=I.kept λ b o e=>mh b o (λ z=>by
    have:b=s.heap.objs.size:=by simpa using z
    exact yBa _ (this▸xAa e)) (hpS _ e)
   have e3:preSum (λ i=>ns.getD i 0) its.toArray.size=ns.sum:=by
    rw[yAf,<- hl,aCM ns ns.length (yAe _),yAh]
   rw[e3];exact⟨.int ns.sum,H,I',⟨_,rfl⟩,q.here R (.int _)⟩
 ·cases e
theorem aCX{prog:zq}{w:zx}{A:zv}{b:Bool}{s:qj}{Q:Bool->qj->Prop}{E:qx->qj->Prop}(h:Q b s):qu (model prog w) A (truthy (.bool b)) Q E s:=by
 first
  | exact xw h
  | exact PySem.wpAny_truthy_bool h
  | exact truthy_bool h
theorem aIL(bs:List Bool):(yAx bs.length).all (λ i=>bs.getD i false)=bs.all id:=by
 have h:(yAx bs.length).map (λ i=>bs.getD i false)=bs:=by
  apply List.ext_getElem
  ·simp
  ·intro i h1 h2;simp[List.getD,yAc h2]
 have h2:bs.all id=((yAx bs.length).map (λ i=>bs.getD i false)).all id:=by rw[h]
 rw[h2,List.all_map];rfl
theorem aIQ(bs:List Bool):(yAx bs.length).any (λ i=>bs.getD i false)=bs.any id:=by
 have h:(yAx bs.length).map (λ i=>bs.getD i false)=bs:=by
  apply List.ext_getElem
  ·simp
  ·intro i h1 h2;simp[List.getD,yAc h2]
 have h2:bs.any id=((yAx bs.length).map (λ i=>bs.getD i false)).any id:=by rw[h]
 rw[h2,List.any_map];rfl
theorem aOt(hc:X.calm=true):cF X (.builtin "all") (kM X xV):=λ aA s σ H xs us Q I r aJ=>by
 obtain⟨F,L,S,ds,z,R,n,e,q⟩:=aJ;unfold xV at e
 split at e
 ·obtain⟨bs,e1,e2⟩:=bind_some e;cases e2;obtain⟨x,rfl,nx⟩:=gX n;obtain⟨a,ys,rfl,sq,dl⟩:=nx.lst R.sub;obtain rfl:=zX dl e1;obtain⟨u,rfl,ru⟩:=fB r;cases ru;obtain⟨its,rv,pl,hz⟩:=I.list sq;have hh:X.A.in1.handled=qz:=I.ok.hd hc;refine call_all_walkS (ju pl.isList ?_);have hne:a≠s.heap.objs.size:=by
   obtain⟨o,ho,_⟩:=pl.isList;exact xAh (xAa ho)
  have hl:=rv.length;rw[yAb] at hl;refine⟨_,_,_,_,_,_,_,λ i=>bs.getD i false,rfl,zZ hh s.heap.objs.size a hne its.toArray,⟨⟨_,xAe _ rfl,rfl,rfl⟩,?_⟩,λ i v s' Q' E' e hq=>?_,λ s' mv=>?_⟩
  ·obtain⟨o,ho,r'⟩:=pl.isList;exact⟨o,hpS _ ho,r'⟩
  ·obtain rfl:=aCC rv (i:=i) (by simpa using e)
   exact aCX hq
  ·obtain⟨h',g',d',t2,o'⟩:=s';obtain⟨mh,mg,md,mo,mt⟩:=mv;dsimp only at mh mg md mo;subst mg md mo;have I':Inv X aA σ H {s with heap:=h',toks:=t2 }:=I.kept λ b o e=>mh b o (λ z=>by
    have:b=s.heap.objs.size:=by simpa using z
    exact yBa _ (this▸xAa e)) (hpS _ e)
   rw[yAf,<- hl,aIL];exact⟨.bl (bs.all id),H,I',rfl,q.here R (.bl _)⟩
 ·cases e
theorem aPC(hc:X.calm=true):cF X (.builtin "any") (kM X xK):=λ aA s σ H xs us Q I r aJ=>by
 obtain⟨F,L,S,ds,z,R,n,e,q⟩:=aJ;unfold xK at e
 split at e
 ·obtain⟨bs,e1,e2⟩:=bind_some e;cases e2;obtain⟨x,rfl,nx⟩:=gX n;obtain⟨a,ys,rfl,sq,dl⟩:=nx.lst R.sub;obtain rfl:=zX dl e1;obtain⟨u,rfl,ru⟩:=fB r;cases ru;obtain⟨its,rv,pl,hz⟩:=I.list sq;have hh:X.A.in1.handled=qz:=I.ok.hd hc;refine call_any_walkS (ju pl.isList ?_);have hne:a≠s.heap.objs.size:=by
   obtain⟨o,ho,_⟩:=pl.isList;exact xAh (xAa ho)
  have hl:=rv.length;rw[yAb] at hl;refine⟨_,_,_,_,_,_,_,λ i=>bs.getD i false,rfl,zZ hh s.heap.objs.size a hne its.toArray,⟨⟨_,xAe _ rfl,rfl,rfl⟩,?_⟩,λ i v s' Q' E' e hq=>?_,λ s' mv=>?_⟩
  ·obtain⟨o,ho,r'⟩:=pl.isList;exact⟨o,hpS _ ho,r'⟩
  ·obtain rfl:=aCC rv (i:=i) (by simpa using e)
   exact aCX hq
  ·obtain⟨h',g',d',t2,o'⟩:=s';obtain⟨mh,mg,md,mo,mt⟩:=mv;dsimp only at mh mg md mo;subst mg md mo;have I':Inv X aA σ H {s with heap:=h',toks:=t2 }:=I.kept λ b o e=>mh b o (λ z=>by
    have:b=s.heap.objs.size:=by simpa using z
    exact yBa _ (this▸xAa e)) (hpS _ e)
   rw[yAf,<- hl,aIQ];exact⟨.bl (bs.any id),H,I',rfl,q.here R (.bl _)⟩
 ·cases e
noncomputable def tyD:D->Option String
 | .none=>qq "NoneType"
 | .bool _=>qq "bool"
 | .int _=>qq "int"
 | .str _=>qq "str"
 | .list _=>qq "list"
 | .tuple _=>qq "tuple"
 | .dict _=>qz
noncomputable def tR(K:FrG)(n:String)(d:D):Option D:=(tyD d).bind λ t=>(PySem.W.kitOne K (.type t) (.type n)).map yAs
theorem aMY{aA:List (qv×Obj)}{s:qj}{σ:L2.St}{H F:Hp}{L:List qv}{S:aB}{x:V}{v:qx}{d z:D}{n:String}{Q:VK}(I:Inv X aA σ H s)(R:Rel X.K F L S H)(rx:aT x v)(nx:bG X.K F H d x)(e:tR X.K n d=qq z)(q:eI X F L S z Q) :
 qu (model X.prog X.w) X.A (call (.builtin "isinstance") [v,.type n]) (EP X aA σ Q) X.xe s:=by
 obtain⟨t,e1,e2⟩:=bind_some e;cases ek:PySem.W.kitOne X.K (.type t) (.type n) with
 | none=>rw[ek] at e2;cases e2
 | some b =>
   rw[ek] at e2;cases e2;have bB:∀ tk,EP X aA σ Q (.bool b) {s with toks:=tk }:=λ tk=>⟨.bl b,H,I.tok _,rfl,q.here R (.bl b)⟩
   cases d with
   | none=>cases e1;obtain rfl:=nx.non;cases (show v=Value.none from rx);exact yDe PySem.W.kitx_none I.kIn True.intro ek (λ z=>nomatch z) bB
   | bool y=>cases e1;obtain rfl:=nx.bl;cases (show v=Value.bool y from rx);exact yDe PySem.W.kitx_bool I.kIn True.intro ek (λ z=>nomatch z) bB
   | int i=>cases e1;obtain rfl:=nx.int;obtain⟨t,q⟩:=(show ∃ t,v=Value.int i t from rx);cases q;exact yDe PySem.W.kitx_int I.kIn True.intro ek (λ z=>nomatch z) bB
   | str y=>cases e1;obtain rfl:=nx.str;obtain⟨t,q⟩:=(show ∃ t,v=Value.str y t from rx);cases q;exact yDe PySem.W.kitx_str I.kIn True.intro ek (λ z=>nomatch z) bB
   | list l =>
     cases e1;obtain⟨a,xs,rfl,sq,dl⟩:=nx.lst R.sub;cases (show v=Value.ref a from rx)
     obtain⟨its,rv,pl,_⟩:=I.list sq;obtain⟨o,ho,hc,_⟩:=pl.isList;exact yDe PySem.W.kitx_list I.kIn ⟨o,ho,hc⟩ ek (λ z=>nomatch z) bB
   | tuple l =>
     cases e1;obtain⟨a,xs,rfl,sq,dl⟩:=nx.tup R.sub;cases (show v=Value.ref a from rx)
     obtain⟨its,rv,pl,_⟩:=I.tuple sq;obtain⟨o,ho,hc,_⟩:=pl;exact yDe PySem.W.kitx_tuple I.kIn ⟨o,ho,hc⟩ ek (λ z=>nomatch z) bB
   | dict l=>cases e1
noncomputable def aGv(K:FrG)(n:String)(fa:FE):FE:=f1 fa (dM (tR K n))
theorem aOV{a:qw}{fa:FE}{n:String}{x:Str}{p p' pos:Pos}(ha:PE X a (aH X.K fa))(hg:Gl X "isinstance")(hm:X.mg "isinstance" = qz)(hv:zk "isinstance" = qq (.builtin "isinstance"))(hg':Gl X x)(hm':X.mg x=qz)(hv':zk x=qq (.type n))(hn:x ≠ "__name__")(hd:(x==("__debug__" : Str))=false)
 (h1:zj [a,.Name x p'] X.env=(false,eval a X.env)::zj [.Name x p'] X.env):PE X (.Call (.Name "isinstance" p) [a,.Name x p'] [] pos) (aH X.K (aGv X.K n fa)):=by
 have pt:PE X (.Name x p') (tC (.ty n)):=aD9 hg' hm' hv' rfl hn hd;have rule:cF X (.builtin "isinstance") (λ xs H Q=>∃ F L S y d z,xs=[y,.ty n]/\Rel X.K F L S H/\bG X.K F H d y/\tR X.K n d=qq z/\eI X F L S z Q):=λ aA s σ H xs us Q I r aJ=>by
  obtain⟨F,L,S,y,d,z,e,R,ny,e2,q⟩:=aJ;subst e;obtain⟨u,u2,rfl,r1,r2⟩:=sP r;cases (show u2=Value.type n from r2)
  exact aMY I R r1 ny e2 q
 refine PE.weak (jM rule hg hm hv (jP ha (jP pt pS) h1) (by decide) (by decide) h1 rfl) λ σ H Q hPq38=>?_
 obtain⟨F,L,S,env,w,S',R,E,e,q⟩:=hPq38;obtain⟨⟨w1,S1⟩,e1,e2⟩:=bind_some e;obtain⟨d,z,e3,e4,rfl,rfl⟩:=pH e2;exact⟨F,L,S,env,w1,_,R,E,e1,λ F1 L1 H1 v g1 R1 d1=>⟨F1,L1,_,v,d,z,rfl,R1,fM R1 d1 e3,e4,rW X rfl λ F2 L2 H2 v2 g2 R2 d2=>q F2 L2 H2 v2 (g1.trans g2) R2 d2⟩⟩
noncomputable def xR(fa:FE):FL:=λ env S=>(fa env S).bind λ p=>(dr p.2 p.1).bind λ d=>(pX d).bind λ l=>qq (l,p.2)
theorem aOH{fa:FE}(σ:St)(H:Hp)(Q:VK)(h:gJ X.K (xR fa) σ H Q):uS (λ xs H Q=>∃ p ys,xs=[.ref p]/\(bJ X.K H p ys\/bM X.K H p ys)/\∀ l,H l=qz->Q (.ref l) (aQ H l (.lst ys))) (cP X.K (cB fa fO)) σ H Q:=by
 obtain⟨F,L,S,env,ds,S',R,E,e,q⟩:=h;obtain⟨⟨w,S1⟩,e1,e⟩:=bind_some e;obtain⟨d,e2,e⟩:=bind_some e;obtain⟨l,e3,e⟩:=bind_some e;cases e;refine⟨F,L,S,env,[w],_,R,E,by unfold cB;rw[e1];rfl,λ F1 L1 H1 vs g1 R1 d1=>?_⟩
 cases d1 with
 | cons dd dr =>
   cases dr;obtain⟨p,xs,rfl,sq,dl⟩:=aAW R1.sub (fM R1 dd e2) e3;exact⟨p,xs,rfl,sq,λ l hl=>q F1 L1 _ l xs g1 (R1.lay hl) (R1.sub.free hl) (R1.notin hl) bQ dl⟩
end
section
variable {X : Cx}{aA : List (qv×Obj)}{σ : L2.St}{H : Hp}{s : qj}{h' : Heap}
theorem aCW{ch:List qv}{p:qv}{o:HO}{t':Nat}(I:Inv X aA σ H s)(hch:∀ b∈ch,gH X aA H b)(k:∀ b u,b ∉ ch->s.heap.get? b=qq u->h'.get? b=qq u)(hp:s.heap.objs.size<=p)
 (new:fA X.prog X.w (aQ H p o) h' p o):Inv X aA σ (aQ H p o) {s with heap:=h',toks:=t' }:=by
 have hn:=I.hok.fresh hp;have nch:∀ b u,H b=qq u->b ∉ ch:=λ b u e z=>by rw[(hch b z).1] at e;cases e
 have nep:∀ b u,s.heap.get? b=qq u->b≠p:=λ b u e z=>absurd (xAc (xAa e) hp) (by rw[z];exact yBa _)
 refine I.step (g':=s.gens) (d':=s.drawn) (ch:=ch) (λ b hb=>⟨(hch b hb).2.2.2.1,(hch b hb).2.1,(hch b hb).2.2.2.2.1,(hch b hb).2.2.2.2.2⟩) (λ b o _ _ hc e _=>k b o hc e) (λ b o _ _ hc e _=>⟨o.slots,k b o hc e⟩) (λ b o _ e n=>by rw[aW (nep b o e)];exact n)
  (λ b o hc e=>⟨o,k b o hc e⟩) (λ b xs e=>by rw[aW (dO e hn)];exact e) (λ b u v e=>by rw[aW (dO e hn)];exact e) (λ b ps e=>⟨#[],by rw[aW (dO e hn),e];simp⟩) (λ m hm=>?_) (λ b u e=>?_) I.bare
 ·obtain⟨o,es,ep,ho,r⟩:=hm;exact⟨o,es,ep,k _ o (λ z=>(hch _ z).2.1 rfl) ho,r⟩
 ·by_cases hb:b=p
  ·subst hb;rw[bQ] at e;cases e;exact new
  ·rw[aW hb] at e;refine(I.hok b u e).stay (λ c v hc q=>k c v ?_ q) (λ c q=>by rw[aW (dO q hn)];exact q) λ c xs q=>by rw[aW (dO q hn)];exact q
   rcases hc with z | z
   ·rw[z];exact nch b u e
   ·exact nch c _ z
end
noncomputable def Ite(K:FrG)(a:qv):It:=
 ⟨λ i H=>∃ xs x,bJ K H a xs/\xs[i]? = qq x,λ i H x H'=>∃ p y,H p=qz/\H'=aQ H p (.tup [.int i,y])/\x=.ref p/\∀ xs,bJ K H a xs->xs[i]? = qq y,λ i H=>∃ xs,bJ K H a xs/\xs.length<=i⟩
theorem aI9{P:zq}{w:zx}{K:FrG}{elts:List qw}{k:Nat}{pos:Pos}(a e it:qv)(hei:e≠it):Turn P w K (.Tuple elts k pos) (Ite K a) [e,it] e (λ i h=>(∃ old,IsEnum h e it (i:Nat) old)/\h.IsListIter it a i) where
 mem:=xAd
 obj:=λ i h aJ b hb=>by
  obtain⟨⟨old,he⟩,⟨o,ho,hc,hd⟩⟩:=aJ;rcases List.mem_cons.mp hb with rfl | hb
  ·exact⟨_,he,λ v=>by intro z;cases z⟩
  ·rw[yBl] at hb;subst hb;exact⟨o,ho,λ v z=>by rw[hd] at z;cases z⟩
 keep:=λ i h h' ⟨⟨old,he⟩,hit⟩ q=>⟨⟨old,q e xAd _ he⟩,hit.at λ o e=>q it (by simp) o e⟩
 item:=λ X hP hW hK hc i aA s σ H E I hf aJ pA=>by
  obtain⟨⟨old,he⟩,hit⟩:=aJ;obtain⟨xs,x,hq,hx⟩:=pA;subst hP hW hK;obtain⟨its,rv,pl,hz⟩:=I.list hq;obtain⟨u,hu,ru⟩:=rv.get hx;refine wpAny_pyNext_enum_item he hit pl.isList (by simpa using hu) hei λ h₁ heo hit₁ ht₁ hz₁ hk₁=>⟨_,rfl,?_⟩
  refine yq heo λ h₂ he₂ hs₂=>?_
  have hs2:yCz e h₁ h₂:=hs₂;have eLt:e<s.heap.objs.size:=xAa he;have iLt:it<s.heap.objs.size:=by obtain⟨o,ho,_⟩:=hit;exact xAa ho
  have ht₂:h₂.get? s.heap.objs.size=qq {cls:=.type "tuple",data:=.seq #[.int i s.toks,u] }:=hs2.extBut _ _ (yEk eLt) ht₁;have I2:Inv X aA σ (aQ H s.heap.objs.size (.tup [.int i,x])) {s with heap:=h₂,toks:=s.toks+1 }:=by
   refine aCW I hf (λ b o hb e'=>?_) (yAe _) ⟨by show 2<=qk;decide,[.int i s.toks,u],.cons ⟨_,rfl⟩ (.cons ru .nil),⟨_,ht₂,rfl,0,rfl⟩⟩
   have b1:b≠e:=λ z=>hb (by simp[z])
   have b2:b≠it:=λ z=>hb (by simp[z])
   exact hs2.extBut b o b1 (hk₁ b o b1 b2 e')
  refine⟨.ref s.heap.objs.size,_,I2,rfl,⟨s.heap.objs.size,x,I.fresh,rfl,rfl,λ ys hy=>by rw[I.list_inj hy hq];exact hx⟩,⟨⟨u,by have:=he₂;rw[show((i+1:Nat):Int)=(i:Int)+1 by omega];exact this⟩,hit₁.extBut hs2.extBut (Ne.symm hei)⟩,λ b hb=>?_⟩
  have:b<s.heap.objs.size:=by
   rcases List.mem_cons.mp hb with rfl | hb
   ·exact eLt
   ·rw[yBl] at hb;subst hb;exact iLt
  rw[aW (xAh this)];exact(hf b hb).1
 done:=λ X hP hW hK hc i aA s σ H E I hf aJ pA=>by
  obtain⟨⟨old,he⟩,hit⟩:=aJ;obtain⟨xs,hq,hx⟩:=pA;subst hP hW hK;obtain⟨its,rv,pl,hz⟩:=I.list hq;refine wpAny_pyNext_enum_end (I.ok.hd hc) he hit pl.isList (by have:=rv.length;simp;omega) λ h₁ he₁=>⟨rfl,?_⟩
  obtain⟨f1,f2,f3,f4,f5,f6⟩:=hf it (by simp)
  exact I.turned (t':=s.toks) (λ b o hb e'=>he₁ b o hb e') f1 f2 f4 f5 f6
 self:=λ A i s Q E ⟨⟨old,he⟩,_⟩ hq=>wj he hq
section
variable {X : Cx}
noncomputable def gU(k:Int):List D->List D
 | []=>[]
 | d::r=>.tuple [.int k,d]::gU (k+1) r
theorem rE:∀ (ds:List D) (k:Int),(gU k ds).length=ds.length
 | [],_=>rfl
 | _::r,k=>by simp[gU,rE r]
theorem aAj:∀ (ds:List D) (k:Int) (i:Nat) (e:D),(gU k ds)[i]? = qq e->∃ d,ds[i]? = qq d/\e=.tuple [.int (k+i),d]
 | [],_,_,_,h=>by simp[gU] at h
 | d::r,k,0,e,h=>by simp[gU] at h;subst h;exact⟨d,rfl,by simp⟩
 | d::r,k,i+1,e,h=>by
   obtain⟨d',e1,e2⟩:=aAj r (k+1) i e (by simpa [gU] using h)
   refine⟨d',by simpa using e1,?_⟩
   rw[e2];congr 3
   push_cast
   omega
theorem aKf{K:FrG}{F:Hp}{L:List qv}{a:qv}{xs:List V}{ds:List D}(sq:bJ K F a xs)(dl:DenL K F ds xs):Wk K F L (Ite K a) (gU 0 ds) where
 go:=λ i H s hi=>by
  rw[rE] at hi;exact⟨xs,xs[i]'(by rw[<- dl.length];exact hi),s.seq sq,by simp[dl.length▸hi]⟩
 stop:=λ H s=>⟨xs,s.seq sq,by rw[rE];exact yEl dl.length.symm⟩
 yld:=λ i H F1 L1 S x H' d g R e y=>by
  obtain⟨p,y',hp,rfl,rfl,hy⟩:=y;obtain⟨d',e1,rfl⟩:=aAj ds 0 i d e;obtain⟨x',e2,dx⟩:=dl.get e1;have h:=hy xs ((g.f.trans R.sub).seq sq);rw[h] at e2;cases e2;have hF:F1 p=qz:=R.sub.free hp;refine⟨aQ F1 p (.tup [.int i,y']),eN hF,R.new hp,.tup (bM.of bQ) ?_⟩;rw[Int.zero_add];exact .cons (.int _) (.cons (dx.mono (g.f.trans (eN hF))) .nil)
end
section
variable {prog : zq}{w : zx}{A : zv}{E : qx -> qj -> Prop}{s : qj}
theorem aHk{it t:qv}{i:Nat}{aM:Array qx}{x:qx}{Q:qx->qj->Prop}(hit:s.heap.IsTupleIter it t i)(ht:s.heap.IsTuple t aM)(hx:aM[i]? = qq x)
 (hQ:∀ h',h'.IsTupleIter it t (i+1)->yCz it s.heap h'->Q x {s with heap:=h' }):qu (model prog w) A (yCm (.ref it)) Q E s:=by
 obtain⟨o,ho,hc,hd⟩:=id hit;obtain⟨ol,hol,_,nl,hdl⟩:=ht;unfold yCm;refine wB (wpAny_callSpecial?_slot (name:=Str.ofString "__next__") hit.typeIs F.slot_tuple_iterator_next (vq F.slot_tuple_iterator_next hit.typeIs F.entry_tuple_iterator_next ?_ (F.args_tuple_iterator_next_1 _)));show qu _ _ (field (.ref it) 0 >>= _) _ _ s;refine wB (xy ho hd (x:=.ref t) rfl ?_);show qu _ _ (if (Value.ref t==Value.none)=true then _ else _) _ _ s
 rw[if_neg (show ¬ ((Value.ref t==Value.none)=true) from yAt)]
 show qu _ _ (field (.ref it) 1 >>= _) _ _ s;refine wB (xy ho hd (x:=.int i 0) rfl ?_);show qu _ _ (seqItems? (.ref t) >>= _) _ _ s;refine wB (wpAny_seqItems hol hdl ?_);simp only[yBo,hx];refine wB (wpAny_setField ho hd (by simp) (wP ⟨x,rfl,wP (hQ _ ⟨_,yBy _ ho (Obj.isFreed_of_fields (Obj.data_mapFields hd _)),(Obj.cls_mapFields ..).trans hc,?_⟩ (Heap.SameBut.update ..))⟩))
 rw[Obj.data_mapFields hd];simp[jy]
theorem aCu{it t:qv}{i:Nat}{aM:Array qx}{Q:qx->qj->Prop}(hh:A.handled=qz)(hit:s.heap.IsTupleIter it t i)(ht:s.heap.IsTuple t aM)(hx:aM[i]? = qz)
 (hE:∀ h' e,Heap.ExtBut it s.heap h'->(∃ o,h'.get? e=qq o/\o.cls=.type "StopIteration")->E (.ref e) {s with heap:=h' }):qu (model prog w) A (yCm (.ref it)) Q E s:=by
 obtain⟨o,ho,hc,hd⟩:=id hit;obtain⟨ol,hol,_,nl,hdl⟩:=ht;unfold yCm;refine wB (wpAny_callSpecial?_slot (name:=Str.ofString "__next__") hit.typeIs F.slot_tuple_iterator_next (vq F.slot_tuple_iterator_next hit.typeIs F.entry_tuple_iterator_next ?_ (F.args_tuple_iterator_next_1 _)));show qu _ _ (field (.ref it) 0 >>= _) _ _ s;refine wB (xy ho hd (x:=.ref t) rfl ?_);show qu _ _ (if (Value.ref t==Value.none)=true then _ else _) _ _ s
 rw[if_neg (show ¬ ((Value.ref t==Value.none)=true) from yAt)]
 show qu _ _ (field (.ref it) 1 >>= _) _ _ s;refine wB (xy ho hd (x:=.int i 0) rfl ?_);show qu _ _ (seqItems? (.ref t) >>= _) _ _ s;refine wB (wpAny_seqItems hol hdl ?_);simp only[yBo,hx];refine wB (yy (wB (wpAny_setField ho hd (by simp) ?_)))
 show qu _ _ (newExc (.type "StopIteration") [] >>= _) _ _ _;refine wB ?_;simp only[newExc,newTuple];refine wB (xu (wB (m:=firstArgMember _ _) (wpAny_of_eq (a:=Value.none) (by first | rfl | (simp only[firstArgMember];rfl)) (xu ?_ (by size_fits)))) (by size_fits))
 simp only[raiseNew];refine wB (wpAny_handled ?_)
 first | rw[show A.in1.handled=qz from hh] | rw[hh]
 exact wB (wP (wpAny_throw (hE _ _ (((Heap.SameBut.update ..).extBut.push _).push _) ⟨_,xAe _ rfl,rfl⟩)))
theorem aHf{e it t:qv}{i:Nat}{aM:Array qx}{old:qx}{Q:Option qx->qj->Prop}(hh:A.in1.handled=qz)
 (he:IsEnum s.heap e it i old) (hit:s.heap.IsTupleIter it t i) (ht:s.heap.IsTuple t aM) (hx:aM[i]? = qz)
 (hQ:∀ h',Heap.ExtBut it s.heap h'->Q qz {s with heap:=h' }):qu (model prog w) A (yk (.ref e)) Q E s:=by
 have hT:s.TypeIs (.ref e) "enumerate":=⟨_,he,rfl⟩;unfold yk;refine wB (yw (wpAny_callSpecial?_slot (name:=Str.ofString "__next__") hT F.slot_enumerate_next (vq F.slot_enumerate_next hT F.entry_enumerate_next ?_ (F.args_enumerate_next_1 _))));show qu _ _ (field (.ref e) 2 >>= _) _ _ _;refine wB (xy he rfl (x:=.ref it) rfl (wB (aCu hh hit ht hx λ h' x he' hx'=>?_)))
 obtain⟨o,ho,hc⟩:=hx';exact wB (wpAny_isInstance (T:="StopIteration") (b:=true) ⟨o,ho,hc⟩ isSubtype_stop (wP (hQ _ he')))
theorem aIr(hh:A.handled=qz)(it t:qv)(hne:t≠it)(aM:Array qx):Draws prog w A it [it,t] aM.size (λ i v=>aM[i]? = qq v) (λ i h=>h.IsTupleIter it t i/\h.IsTuple t aM) where
 live:=λ _ _ st=>let ⟨o,ho,_⟩:=st.1;⟨o,ho⟩
 frame:=λ _ _ _ st hk=>⟨st.1.at λ o e=>hk it (by simp) o e,let ⟨u,hu,r⟩:=st.2;⟨u,hk t (by simp) u hu,r⟩⟩
 item:=λ i s Q E hi st hQ=>aHk st.1 st.2 (x:=aM[i]) (by simp[hi]) λ h' hit' hs'=>hQ _ h' s.toks (by simp[hi]) ⟨hit',let ⟨u,hu,r⟩:=st.2;⟨u,hs'.extBut t u hne hu,r⟩⟩ hs'
 done:=λ s Q E st hE=>aCu hh st.1 st.2 (by simp) hE
theorem aIN(l:qv)(aM:Array qx)(n:Nat)(dct:Option qv)(sl:Array (Option qx)) :
 Meets (Builtin.«enumerate.__new__» ⟨[.type "enumerate",.ref l],[]⟩) (λ _ R s=>s.heap.get? l=qq {cls:=.type "tuple",dict:=dct,data:=.seq aM n,slots:=sl } /\
  R (.ok (.ret (.ref (s.heap.push {cls:=.type "tuple_iterator",data:=.fields #[.ref l,.int 0 0] }).objs.size)))
   {s with heap:=(s.heap.push {cls:=.type "tuple_iterator",data:=.fields #[.ref l,.int 0 0] }).push {cls:=.type "enumerate",data:=.fields #[.none,.bool false,.ref s.heap.objs.size,jy 0,.none,.none] } }):=
 .of_wp λ prog w A R s h=>by
  obtain⟨hp,g,d,tk,os⟩:=s;obtain⟨hl,h⟩:=h;have hsub:=sub_enumerate;have hL:Heap.IsTuple (Shared.heap ⟨hp,g,d,tk,os⟩) l aM:=⟨_,hl,rfl,n,rfl⟩
  wp_walk using AutoSeq1.wpAny_loadPart' hl
  refine wpAny_stack_any λ st=>wP ?_
  split
  ·rename_i c _ _ _ _ _;cases (c==Value.type "enumerate")
   ·wp_walk using AutoSeq1.wpAny_loadPart' hl,vy hL
    exact⟨_,rfl,h⟩
   ·wp_walk using AutoSeq1.wpAny_loadPart' hl,vy hL
    exact⟨_,rfl,h⟩
  ·wp_walk using AutoSeq1.wpAny_loadPart' hl,vy hL
   exact⟨_,rfl,h⟩
theorem aHZ{l:qv}{aM:Array qx}{Q:qx->qj->Prop}(hL:s.heap.IsTuple l aM)
 (h:∀ h',IsEnum h' (s.heap.objs.size+1) s.heap.objs.size 0 .none->h'.IsTupleIter s.heap.objs.size l 0->h'.objs.size=s.heap.objs.size+2 ->
   (∀ b o,s.heap.get? b=qq o->h'.get? b=qq o)->Q (.ref (s.heap.objs.size+1)) {s with heap:=h' }) :
 qu (model prog w) A (call (.type "enumerate") [.ref l]) Q E s:=by
 obtain⟨⟨c,dct,dt,sl⟩,hl,hc,n,hd⟩:=hL
 replace hc:c=.type "tuple":=hc
 replace hd:dt=.seq aM n:=hd
 subst hc hd;refine callType_new F.called_enumerate (by decide) (F.typeCall_enumerate_1 _) (F.newCall_enumerate_1 _) (λ obj=>F.args_object_init_2 obj _) F.entry_enumerate_new (aIN l aM n dct sl) ⟨hl,?_⟩
 have hz:(s.heap.push {cls:=.type "tuple_iterator",data:=.fields #[.ref l,.int 0 0] }).objs.size=s.heap.objs.size+1:=yEh ..;show _/\_;rw[hz];have he:IsEnum ((s.heap.push {cls:=.type "tuple_iterator",data:=.fields #[.ref l,.int 0 0] }).push {cls:=.type "enumerate",data:=.fields #[.none,.bool false,.ref s.heap.objs.size,jy 0,.none,.none] }) (s.heap.objs.size+1) s.heap.objs.size 0 .none:=by
  have:=xAe (s.heap.push {cls:=.type "tuple_iterator",data:=.fields #[.ref l,.int 0 0] }) (o:={cls:=.type "enumerate",data:=.fields #[.none,.bool false,.ref s.heap.objs.size,jy 0,.none,.none] }) rfl;rw[hz] at this;exact this
 exact⟨⟨_,he,rfl⟩,h _ he ⟨_,hpS _ (xAe _ rfl),rfl,rfl⟩ (by rw[yEh,hz]) λ b o x=>hpS _ (hpS _ x)⟩
end
noncomputable def aBD(K:FrG)(a:qv):It:=
 ⟨λ i H=>∃ xs x,bM K H a xs/\xs[i]? = qq x,λ i H x H'=>∃ p y,H p=qz/\H'=aQ H p (.tup [.int i,y])/\x=.ref p/\∀ xs,bM K H a xs->xs[i]? = qq y,λ i H=>∃ xs,bM K H a xs/\xs.length<=i⟩
theorem aHY{P:zq}{w:zx}{K:FrG}{elts:List qw}{k:Nat}{pos:Pos}(a e it:qv)(hei:e≠it)(hea:e≠a)(hai:a≠it):Turn P w K (.Tuple elts k pos) (aBD K a) [e,it] e (λ i h=>(∃ old,IsEnum h e it (i:Nat) old)/\h.IsTupleIter it a i) where
 mem:=xAd
 obj:=λ i h aJ b hb=>by
  obtain⟨⟨old,he⟩,⟨o,ho,hc,hd⟩⟩:=aJ;rcases List.mem_cons.mp hb with rfl | hb
  ·exact⟨_,he,λ v=>by intro z;cases z⟩
  ·rw[yBl] at hb;subst hb;exact⟨o,ho,λ v z=>by rw[hd] at z;cases z⟩
 keep:=λ i h h' ⟨⟨old,he⟩,hit⟩ q=>⟨⟨old,q e xAd _ he⟩,hit.at λ o e=>q it (by simp) o e⟩
 item:=λ X hP hW hK hc i aA s σ H E I hf aJ pA=>by
  obtain⟨⟨old,he⟩,hit⟩:=aJ;obtain⟨xs,x,hq,hx⟩:=pA;subst hP hW hK;obtain⟨its,rv,pl,hz⟩:=I.tuple hq;obtain⟨u,hu,ru⟩:=rv.get hx;have hlt:i<its.toArray.size:=by
   rw[yAf];exact(gIm hu).1
  have hh:X.A.in1.handled=qz:=I.ok.hd hc;refine wpAny_pyNext_enum_itemD (aIr (prog:=X.prog) (w:=X.w) hh it a hai its.toArray) he ⟨hit,pl⟩ hlt hei (by simp[hei,hea]) λ x' h₁ tk hP heo hit₁ ht₁ hz₁ hk₁=>⟨_,rfl,?_⟩
  have:x'=u:=by
   rw[List.getElem?_toArray,hu] at hP;exact(Option.some.inj hP).symm
  subst this;refine yq heo λ h₂ he₂ hs₂=>?_
  have hs2:yCz e h₁ h₂:=hs₂;have eLt:e<s.heap.objs.size:=xAa he;have iLt:it<s.heap.objs.size:=by obtain⟨o,ho,_⟩:=hit;exact xAa ho
  have ht₂:h₂.get? s.heap.objs.size=qq {cls:=.type "tuple",data:=.seq #[.int i tk,x'] }:=hs2.extBut _ _ (yEk eLt) ht₁;have I2:Inv X aA σ (aQ H s.heap.objs.size (.tup [.int i,x])) {s with heap:=h₂,toks:=tk+1 }:=by
   refine aCW I hf (λ b o hb e'=>?_) (yAe _) ⟨by show 2<=qk;decide,[.int i tk,x'],.cons ⟨_,rfl⟩ (.cons ru .nil),⟨_,ht₂,rfl,0,rfl⟩⟩
   have b1:b≠e:=λ z=>hb (by simp[z])
   have b2:b≠it:=λ z=>hb (by simp[z])
   exact hs2.extBut b o b1 (hk₁ b o b1 b2 e')
  refine⟨.ref s.heap.objs.size,_,I2,rfl,⟨s.heap.objs.size,x,I.fresh,rfl,rfl,λ ys hy=>by rw[I.tuple_inj hy hq];exact hx⟩,⟨⟨x',by have:=he₂;rw[show((i+1:Nat):Int)=(i:Int)+1 by omega];exact this⟩,?_⟩,λ b hb=>?_⟩
  ·obtain⟨o,ho,r⟩:=hit₁.1;exact⟨o,hs2.extBut it o (Ne.symm hei) ho,r⟩
  ·have:b<s.heap.objs.size:=by
    rcases List.mem_cons.mp hb with rfl | hb
    ·exact eLt
    ·rw[yBl] at hb;subst hb;exact iLt
   rw[aW (xAh this)];exact(hf b hb).1
 done:=λ X hP hW hK hc i aA s σ H E I hf aJ pA=>by
  obtain⟨⟨old,he⟩,hit⟩:=aJ;obtain⟨xs,hq,hx⟩:=pA;subst hP hW hK;obtain⟨its,rv,pl,hz⟩:=I.tuple hq;have hh:X.A.in1.handled=qz:=I.ok.hd hc;have hl:=rv.length;refine aHf hh he hit pl (by simp;omega) λ h₁ he₁=>⟨rfl,?_⟩
  obtain⟨f1,f2,f3,f4,f5,f6⟩:=hf it (by simp)
  exact I.turned (t':=s.toks) (λ b o hb e'=>he₁ b o hb e') f1 f2 f4 f5 f6
 self:=λ A i s Q E ⟨⟨old,he⟩,_⟩ hq=>wj he hq
section
variable {X : Cx}
def aFc(K:FrG)(ta:TA):TI:=λ σ H R=>ta σ H λ vs H1=>∃ a,vs=[.ref a]/\(((∃ xs,bJ K H1 a xs)/\R (Ite K a) H1)\/((∃ xs,bM K H1 a xs)/\R (aBD K a) H1))
theorem aJz{elts:List qw}{k:Nat}{pp:Pos}{a:qw}{ta:TA}{p pos:Pos}(hg:Gl X "enumerate")(hm:X.mg "enumerate" = qz)(ha:PA X [a] ta)(hs:zj [a] X.env=[(false,eval a X.env)]):PI X (.Tuple elts k pp) (.Call (.Name "enumerate" p) [a] [] pos) (aFc X.K ta):=by
 intro aA s σ H R I h;refine Call_ (sD I hg hm boot_enumerate (yDa (aU (ha pos aA s σ H _ I h) λ us s1 hPq39=>?_) hs rfl))
 obtain⟨vs,H1,I1,r1,q1⟩:=hPq39;obtain⟨l,rfl,q1⟩:=q1;obtain⟨u,rfl,ru⟩:=fB r1;cases ru;have hb':∀ b∈[s1.heap.objs.size+1,s1.heap.objs.size],s1.heap.objs.size<=b:=λ b hb=>by
  rcases List.mem_cons.mp hb with rfl | hb
  ·exact Nat.le_succ _
  ·rw[yBl] at hb;rw[hb];exact yAe _
 rcases q1 with ⟨⟨xs,sq⟩,q⟩ | ⟨⟨xs,sq⟩,q⟩
 ·obtain⟨its,rv,pl,hz⟩:=I1.list sq;refine call_enumerate_list pl.isList λ h' he hit hsz hk=>wj he ?_
  have I2:Inv X aA σ H1 {s1 with heap:=h' }:=I1.kept (t':=s1.toks) hk
  exact⟨s1.heap.objs.size+1,[s1.heap.objs.size+1,s1.heap.objs.size],_,_,H1,rfl,I2,aI9 l _ _ (Nat.succ_ne_self _),⟨⟨_,he⟩,hit⟩,λ b hb=>I1.fpOk (hb' b hb) (I1.hok.fresh (hb' b hb)),q⟩
 ·obtain⟨its,rv,pl,hz⟩:=I1.tuple sq;have hlt:l<s1.heap.objs.size:=by obtain⟨o,ho,_⟩:=pl;exact xAa ho
  refine aHZ pl λ h' he hit hsz hk=>wj he ?_
  have I2:Inv X aA σ H1 {s1 with heap:=h' }:=I1.kept (t':=s1.toks) hk
  exact⟨s1.heap.objs.size+1,[s1.heap.objs.size+1,s1.heap.objs.size],_,_,H1,rfl,I2,aHY l _ _ (Nat.succ_ne_self _) (yEk (Nat.lt_succ_of_lt hlt)) (xAh hlt),⟨⟨_,he⟩,hit⟩,λ b hb=>I1.fpOk (hb' b hb) (I1.hok.fresh (hb' b hb)),q⟩
theorem aJr{K:FrG}{F:Hp}{L:List qv}{a:qv}{xs:List V}{ds:List D}(sq:bM K F a xs)(dl:DenL K F ds xs):Wk K F L (aBD K a) (gU 0 ds) where
 go:=λ i H s hi=>by
  rw[rE] at hi;exact⟨xs,xs[i]'(by rw[<- dl.length];exact hi),iE s sq,by simp[dl.length▸hi]⟩
 stop:=λ H s=>⟨xs,iE s sq,by rw[rE];exact yEl dl.length.symm⟩
 yld:=λ i H F1 L1 S x H' d g R e y=>by
  obtain⟨p,y',hp,rfl,rfl,hy⟩:=y;obtain⟨d',e1,rfl⟩:=aAj ds 0 i d e;obtain⟨x',e2,dx⟩:=dl.get e1;have h:=hy xs (iE (g.f.trans R.sub) sq);rw[h] at e2;cases e2;have hF:F1 p=qz:=R.sub.free hp;refine⟨aQ F1 p (.tup [.int i,y']),eN hF,R.new hp,.tup (bM.of bQ) ?_⟩;rw[Int.zero_add];exact .cons (.int _) (.cons (dx.mono (g.f.trans (eN hF))) .nil)
noncomputable def sM(fa:FE):FL:=λ env S=>(fa env S).bind λ p=>match p.1 with
 | .d (.list ds)=>qq (gU 0 ds,p.2)
 | .d (.tuple ds)=>qq (gU 0 ds,p.2)
 | _=>qz
theorem aLc{K:FrG}{fa:FE}(σ:St)(H:Hp)(Rr:It->Hp->Prop)(h:iT K (sM fa) σ H Rr):aFc K (cP K (cB fa fO)) σ H Rr:=by
 obtain⟨F,L,S,env,ds,S',R,E,e,q⟩:=h;obtain⟨⟨w,S1⟩,e1,e2⟩:=bind_some e;dsimp only at e2
 split at e2
 ·rename_i ds';cases e2;refine⟨F,L,S,env,[.d (.list ds')],_,R,E,by unfold cB;rw[e1];rfl,λ F1 L1 H1 vs g1 R1 d1=>?_⟩
  cases d1 with
  | cons dd dr =>
    cases dr;cases (show Den K F1 (.list ds') _ from dd) with
    | lst sq dl=>exact⟨_,rfl,.inl ⟨⟨_,R1.sub.seq sq⟩,q F1 L1 H1 _ g1 R1 (aKf sq dl)⟩⟩
 ·rename_i ds';cases e2;refine⟨F,L,S,env,[.d (.tuple ds')],_,R,E,by unfold cB;rw[e1];rfl,λ F1 L1 H1 vs g1 R1 d1=>?_⟩
  cases d1 with
  | cons dd dr =>
    cases dr;cases (show Den K F1 (.tuple ds') _ from dd) with
    | tup sq dl=>exact⟨_,rfl,.inr ⟨⟨_,iE R1.sub sq⟩,q F1 L1 H1 _ g1 R1 (aJr sq dl)⟩⟩
 ·cases e2
end
inductive Tv where
 | int (i:Int) | str (x:Str) | bool (b:Bool)
 deriving DecidableEq
noncomputable def Tv.d:Tv->D
 | .int i=>.int i | .str x=>.str x | .bool b=>.bool b
noncomputable def Tv.v:Tv->V
 | .int i=>.int i | .str x=>.str x | .bool b=>.bl b
theorem Tv.den{K:FrG}{F:Hp}(t:Tv):Den K F t.d t.v:=by
 cases t
 ·exact .int _
 ·exact .str _
 ·exact .bl _
noncomputable def nW(w:zx):List DictEntry->List (Str×Tv)->Prop
 | [],[]=>True
 | e::r,(x,v)::aI=>e.hash=hashStr w x/\(∃ t,e.key=.str x t)/\aT v.v e.val/\nW w r aI
 | _,_=>False
def mE(K:FrG)(w:zx)(a:qv)(aI:List (Str×Tv)):Prop:=(a==sysModules)=false/\∃ es ep,K.lookup a=qq {cls:=.type "dict",data:=.dict es ep }/\nW w es.toList aI
noncomputable def xL(aI:List (Str×Tv)):D->Option D
 | .str x=>(aI.lookup x).map Tv.d
 | _=>qz
theorem aAL{P:zq}{w:zx}:∀ {l:List DictEntry}{aI:List (Str×Tv)},nW w l aI->∀ e∈l,∃ k,(gE P w).is k e.key=true/\e.hash=(gE P w).hash k
 | [],[],_,e,h=>by cases h
 | e::r,(x,v)::aI,ok,e',h=>by
   obtain⟨h1,⟨t,h2⟩,_,h4⟩:=ok;rcases List.mem_cons.mp h with rfl | h
   ·exact⟨.inr x,by rw[h2];exact aAq x t,h1⟩
   ·exact aAL h4 e' h
 | [],_::_,ok,_,_=>ok.elim
 | _::_,[],ok,_,_=>ok.elim
theorem aDZ(x y:Str)(t:Tok):mG (.inr x) (.str y t)=(x==y):=by
 have h:(y==x)=(x==y):=by
  rw[Bool.eq_iff_iff];constructor<;>intro z<;>simp at z ⊢ <;> exact z.symm
 simp[mG,Value.isStrOf,h]
theorem aAv{w:zx}{k:Str}{v:Tv}:∀ {l:List DictEntry}{aI:List (Str×Tv)},nW w l aI->aI.lookup k=qq v->∃ u,(l.find? λ e=>mG (.inr k) e.key).map (·.val)=qq u/\aT v.v u
 | [],[],_,h=>by cases h
 | e::r,(x,v')::aI,ok,h=>by
   obtain⟨h1,⟨t,h2⟩,h3,h4⟩:=ok;rw[yAy] at h;rw[yDf,h2,aDZ];cases q:k==x with
   | true =>
     rw[q] at h;cases h;exact⟨e.val,rfl,h3⟩
   | false =>
     rw[q] at h;exact aAv h4 h
 | [],_::_,ok,_=>ok.elim
 | _::_,[],ok,_=>ok.elim
section
variable {X : Cx}
theorem aMp{aI:List (Str×Tv)}:kN X (λ x y H Q=>∃ a k v,x=.ref a/\mE X.K X.w a aI/\y=.str k/\aI.lookup k=qq v/\Q v.v H):=by
 intro value slice aA s σ H x y v u Q I rx ry h hs;obtain⟨a,k,tv,rfl,⟨_,es,ep,hl,ok⟩,rfl,hv,q⟩:=h;cases rx;obtain⟨t,rfl⟩:=ry;obtain⟨z,e1,e2⟩:=aAv ok hv;have hm:s.heap.MapOf (gE X.prog X.w) a (λ k=>findBy (gE X.prog X.w).is es k):=⟨_,es,ep,I.kIn a _ hl,⟨rfl,rfl,rfl⟩,rfl,λ e he=>aAL ok e (by simpa using he),λ _=>rfl⟩
 have hz:findBy (gE X.prog X.w).is es (.inr k)=qq z:=by
  unfold findBy;rw[<- yFf];exact e1
 exact tail_any hm.typeIs PySem.F.slot_dict_getitem.lookup (wpAny_getItem_of (aAq k t) hm hz ⟨_,H,I.tok _,e2,q⟩) hs
theorem aPp{x:Str}{k:qw}{fk:FE}{p pos:Pos}{aI:List (Str×Tv)}(hg:Gl X x)(hd:(x==("__debug__" : Str))=false)(ht:∃ a,X.mg x=qq (.ref a)/\mE X.K X.w a aI)(hk:PE X k (aH X.K fk))(hs:vW k) :
 PE X (.Subscript (.Name x p) k pos) (aH X.K (f1 fk (dM (xL aI)))):=by
 obtain⟨a,hm,ta⟩:=ht;refine PE.weak (aGj (aMp (aI:=aI)) (rX (v:=.ref a) hg hm rfl hd) hk hs) λ σ H Q hPq40=>?_
 obtain⟨F,L,S,env,w,S',R,E,e,q⟩:=hPq40;obtain⟨⟨w1,S1⟩,e1,e2⟩:=bind_some e;obtain⟨d,z,e3,e4,rfl,rfl⟩:=pH e2;cases d with
 | str y =>
   obtain⟨v,hv,rfl⟩:=Option.map_eq_some_iff.mp (show(aI.lookup y).map Tv.d=qq z from e4)
   refine⟨F,L,S,env,w1,_,R,E,e1,λ F1 L1 H1 u g1 R1 d1=>⟨a,y,v,rfl,ta,(fM R1 d1 e3).str,hv,?_⟩⟩
   exact q F1 L1 H1 v.v g1 R1 (show Den X.K F1 v.d v.v from v.den)
 | _=>cases e4
end
section
variable {prog : zq}{w : zx}{A : zv}{s : qj}{R : Result -> qj -> Prop}{J : qv}{fp wr : List qv}{Gg : Array GenState -> Array GenState -> Prop}{m : Nat}{P : Nat -> qx -> Prop}{St : Nat -> qj -> Prop}
end
section
variable {prog : zq}{w : zx}{A : zv}{E : qx -> qj -> Prop}{s : qj}{J : qv}{fp wr : List qv}{Gg : Array GenState -> Array GenState -> Prop}{m : Nat}{P : Nat -> qx -> Prop}{St : Nat -> qj -> Prop}
end
section
variable {X : Cx}
end
noncomputable def wN:List qx->List Tv->Prop
 | [],[]=>True
 | u::us,t::ts=>aT t.v u/\wN us ts
 | _,_=>False
theorem aDM:∀ {us:List qx}{ts:List Tv},wN us ts->aO (ts.map Tv.v) us
 | [],[],_=>.nil
 | _::_,_::_,⟨h1,h2⟩=>.cons h1 (aDM h2)
 | [],_::_,h=>h.elim
 | _::_,[],h=>h.elim
theorem aEo{K:FrG}{F:Hp}:∀ ts:List Tv,DenL K F (ts.map Tv.d) (ts.map Tv.v)
 | []=>.nil
 | t::ts=>.cons t.den (aEo ts)
def nV(K:FrG)(a:qv)(ts:List Tv):Prop:=∃ (o:Obj) (its:Array qx) (n:Nat),K.lookup a=qq o/\o.cls=.type "tuple" /\ o.data=.seq its n/\its.size<=qk/\wN its.toList ts
theorem aKO{K:FrG}{F:Hp}{a:qv}{ts:List Tv}(h:nV K a ts):Den K F (.tuple (ts.map Tv.d)) (.ref a):=by
 obtain⟨o,its,n,h1,h2,h3,h4,h5⟩:=h;exact .tup (.inr ⟨o,its,n,h1,h2,h3,h4,aDM h5⟩) (aEo ts)
section
variable {X : Cx}
theorem aO2{x:Str}{p:Pos}{ts:List Tv}(hg:Gl X x)(hd:(x==("__debug__" : Str))=false)(ht:∃ a,X.mg x=qq (.ref a)/\nV X.K a ts):PE X (.Name x p) (aH X.K (fC (.tuple (ts.map Tv.d)))):=by
 obtain⟨a,hm,ca⟩:=ht;refine PE.weak (rX (v:=.ref a) hg hm rfl hd) λ σ H Q hPq41=>?_
 obtain⟨F,L,S,env,w,S',R,E,e,q⟩:=hPq41;cases e;exact q F L H _ Gr.refl R (aKO ca)
noncomputable def kU(op op':jx)(fa fb fc:FE):FE:=λ env S=>(fa env S).bind λ p=>(fb env p.2).bind λ q=>(gC (aZ op) q.2 p.1 q.1).bind λ r=>match r.1 with
 | .d (.bool true)=>(fc env r.2).bind λ t=>gC (aZ op') t.2 q.1 t.1
 | .d (.bool false)=>qq (.d (.bool false),r.2)
 | _=>qz
theorem aC3{op:jx}{x y z:D}(h:aZ op x y=qq z):∃ k,z=.bool k:=by
 unfold aZ at h;obtain⟨k,_,rfl⟩:=Option.map_eq_some_iff.mp h;exact⟨k,rfl⟩
theorem aEw{op op':jx}{fa fb fc:FE}(σ:L2.St)(H:Hp)(Q:VK)(h:aH X.K (kU op op' fa fb fc) σ H Q):aA7 (nB X (aZ op)) (nB X (aZ op')) (aH X.K fa) (aH X.K fb) (aH X.K fc) σ H Q:=by
 obtain⟨F,L,S,env,w,S',R,E,e,q⟩:=h;obtain⟨⟨wx,S1⟩,ea,e⟩:=bind_some e;obtain⟨⟨wy,S2⟩,eb,e⟩:=bind_some e;obtain⟨⟨wr,S3⟩,er,e⟩:=bind_some e;dsimp only at e eb er;obtain⟨a,b,z,e1,e2,e3,rfl,rfl⟩:=nH er;obtain⟨k,rfl⟩:=aC3 e3;refine⟨F,L,S,env,wx,S1,R,E,ea,λ F1 L1 H1 x g1 R1 d1=>⟨F1,L1,S1,env,wy,S3,R1,E.mono g1,eb,λ F2 L2 H2 y g2 R2 d2=>?_⟩⟩
 refine kW F2 L2 S3 H2 x y wx wy (.d (.bool k)) S3 _ R2 (d1.mono g2) d2 er λ F3 L3 H3 v g3 R3 d3=>?_
 have d3':Den X.K F3 (.bool k) v:=d3;cases d3';refine⟨k,rfl,?_⟩;cases k with
 | false =>
   dsimp only at e;cases e;rw[if_neg (by decide)]
   exact q F3 L3 H3 _ ((g1.trans g2).trans g3) R3 d3
 | true =>
   dsimp only at e;obtain⟨⟨wz,S4⟩,ec,e⟩:=bind_some e;rw[if_pos rfl];exact⟨F3,L3,S3,env,wz,S4,R3,((E.mono g1).mono g2).mono g3,ec,λ F4 L4 H4 w' g4 R4 d4=>kW F4 L4 S4 H4 y w' wy wz w S' Q R4 ((d2.mono g3).mono g4) d4 e λ F5 L5 H5 v g5 R5 d5=>q F5 L5 H5 v ((((g1.trans g2).trans g3).trans g4).trans g5) R5 d5⟩
theorem aH8{op op':jx}{fa fb fc:FE}{env:aS}{S S':aB}{w:W}(e:kU op op' fa fb fc env S=qq (w,S')):∃ k,w=.d (.bool k):=by
 obtain⟨⟨wx,S1⟩,ea,e⟩:=bind_some e;obtain⟨⟨wy,S2⟩,eb,e⟩:=bind_some e;obtain⟨⟨wr,S3⟩,er,e⟩:=bind_some e;dsimp only at e
 split at e
 ·obtain⟨⟨wz,S4⟩,ec,e⟩:=bind_some e;obtain⟨a,b,z,e1,e2,e3,rfl,rfl⟩:=nH e;obtain⟨k,rfl⟩:=aC3 e3;exact⟨k,rfl⟩
 ·cases e;exact⟨false,rfl⟩
 ·cases e
theorem aK5{a b c:qw}{op op':jx}{pos:Pos}{fa fb fc:FE}(hu:X.A.units+64<cLine)(ha:PE X a (aH X.K fa))(hb:PE X b (aH X.K fb))(hc:PE X c (aH X.K fc))(hm:lastMarks [op,op'] [b,c]=false):PE X (.Compare a [op,op'] [b,c] pos) (aH X.K (kU op op' fa fb fc)):=
 PE.weak (aJn (pF hu) (pF hu) ha hb hc hm) aEw
theorem aJy{a b c:qw}{op op':jx}{pos:Pos}{fa fb fc:FE}(hu:X.A.units+64<cLine)(ha:PE X a (aH X.K fa))(hb:PE X b (aH X.K fb))(hc:PE X c (aH X.K fc))(hm:lastMarks [op,op'] [b,c]=false):PT X (.Compare a [op,op'] [b,c] pos) (dU X.K (cG (kU op op' fa fb fc))):=
 PT.weak (aJR (pF hu) (pF hu) ha hb hc hm) λ σ H Q aJ=>by
  obtain⟨F,L,S,env,b,S',R,E,e,q⟩:=aJ;obtain⟨w,d,e1,e2,e3⟩:=vM e;obtain⟨kk,rfl⟩:=aH8 e1;cases e2;have e3':qq kk=qq b:=e3;cases e3';refine aEw σ H _ ⟨F,L,S,env,_,S',R,E,e1,λ F1 L1 H1 v g1 R1 d1=>?_⟩
  have d1':Den X.K F1 (.bool b) v:=d1;cases d1';exact⟨b,rfl,q F1 L1 H1 g1 R1⟩
theorem aHg{prog:zq}{w:zx}{A:zv}{E:qx->qj->Prop}{s:qj}{t sl:qv}{aM:Array qx}{vl vu:qx}{lo hi:Option Int}{Q:qx->qj->Prop}(ht:IsTup s.heap t aM)(hs:s.heap.IsSliceOf sl vl vu .none)(pl:IsPart vl lo)(pu:IsPart vu hi)
 (hw:HT.sIx aM.size 0 lo=0/\HT.sIx aM.size aM.size hi=aM.size) (h:Q (.ref t) s):qu (model prog w) A (getItem (.ref t) (.ref sl)) Q E s:=by
 obtain⟨os,hos,hcs,hds⟩:=id hs;have hTs:s.TypeIs (.ref sl) "slice":=⟨os,hos,hcs⟩;unfold getItem
 try with_reducible refine xq ?_
 first | refine wB (wP ?_) | skip
 refine wB (wpAny_sequenceKey ht.typeIs (by decide) ?_)
 refine wB (wpAny_callSpecial?_slot (name:=Str.ofString "__getitem__") ht.typeIs yBv
  (vq yBv ht.typeIs entry_tuple_getitem ?_ (args_tuple_getitem _ _)))
 show qu _ _ (yFd (.ref t) >>= _) _ _ s;refine wB (tupleItemsOf_ ht ?_);refine wB (wpAny_typeOf hTs ?_);rw[if_pos (by decide)]
 refine wB (HT.sliceApplied_gen hs pl pu ?_);have hyes:(((HT.sIx aM.size 0 lo:Nat):Int)==0&&(1:Int)==1&&(HT.sIx aM.size aM.size hi-HT.sIx aM.size 0 lo)==aM.size)=true:=by
  rw[hw.1,hw.2];simp
 show qu _ _ (if (((HT.sIx aM.size 0 lo:Nat):Int)==0&&(1:Int)==1&&(HT.sIx aM.size aM.size hi-HT.sIx aM.size 0 lo)==aM.size)=true then _ else _) _ _ s
 rw[if_pos hyes];unfold Builtin.Tuple.tupleIsExact;refine wB (wB (wpAny_typeOf ht.typeIs (wP ?_)));rw[if_pos (by decide)]
 first
  | exact wB (yy (wP ⟨_,rfl,wP h⟩))
  | exact wB (yy (wB (wP (wP ⟨_,rfl,wP h⟩))))
  | exact wB (yy (wP ⟨_,rfl,h⟩))
noncomputable def aPb(K:FrG):V->Option Int->Option Int->Hp->VK->Prop:=λ x lo hi H Q=>∃ a xs,x=.ref a/\bM K H a xs /\
 (((HT.sIx xs.length 0 lo=0/\HT.sIx xs.length xs.length hi=xs.length)/\Q (.ref a) H)\/(¬ (HT.sIx xs.length 0 lo=0/\HT.sIx xs.length xs.length hi=xs.length)/\∀ p,H p=qz->Q (.ref p) (aQ H p (.tup (lI xs lo hi)))))
theorem aKL:lK X (aPb X.K):=by
 intro aA s σ H x v vl vu lo hi sl Q I rx hs pl pu h;obtain⟨a,xs,rfl,hx,⟨hw,q⟩ | ⟨hw,q⟩⟩:=h
 ·cases rx;obtain⟨its,r,ht,hz⟩:=I.tuple hx;have bW:its.toArray.size=xs.length:=by rw[yAf];exact r.length.symm
  refine⟨"tuple",_,PyProof.Rows.slot_tuple_getitem.lookup,ht.typeIs,?_⟩;exact aHg ht hs pl pu (by rw[bW];exact hw) ⟨.ref a,H,I,rfl,q⟩
 ·exact aMk aA s σ H _ v vl vu lo hi sl Q I rx hs pl pu ⟨a,xs,rfl,hx,hw,q⟩
noncomputable def aGu:D->Option Int->Option Int->Option D
 | .tuple xs,lo,hi=>qq (.tuple (cC xs lo hi))
 | _,_,_=>qz
noncomputable def aFR(fa:FE)(fl fh:FO):FE:=λ env S=>(fa env S).bind λ p=>(fl env p.2).bind λ q=>(fh env q.2).bind λ r=>(dr r.2 p.1).bind λ d=>(aGu d q.1 r.1).bind λ z=>qq (.d z,r.2)
theorem aMi{a:qw}{lo hi:Option qw}{p2 pos:Pos}{fa:FE}{fl fh:FO}(ha:PE X a (aH X.K fa))(hl:PO X lo (iK X.K fl))(hh:PO X hi (iK X.K fh)):PE X (.Subscript a (.Slice lo hi qz p2) pos) (aH X.K (aFR fa fl fh)):=
 PE.weak (aAJ aKL ha hl hh) λ σ H Q aJ=>by
  obtain⟨F,L,S,env,ds,S',R,E,e,q⟩:=aJ;obtain⟨⟨w,S1⟩,e1,e⟩:=bind_some e;obtain⟨⟨l,S2⟩,e2,e⟩:=bind_some e;obtain⟨⟨h,S3⟩,e3,e⟩:=bind_some e;obtain⟨d,e4,e⟩:=bind_some e;obtain⟨z,e5,e⟩:=bind_some e;cases e;refine⟨F,L,S,env,w,S1,R,E,e1,λ F1 L1 H1 v g1 R1 d1=>⟨F1,L1,S1,env,l,S2,R1,E.mono g1,e2,λ F2 L2 H2 g2 R2=>⟨F2,L2,S2,env,h,S3,R2,E.mono (g1.trans g2),e3,λ F3 L3 H3 g3 R3=>?_⟩⟩⟩
  have n:=fM R3 (d1.mono (g2.trans g3)) e4;cases d with
  | tuple xs =>
    cases e5;obtain⟨a,vs,rfl,sq,dl⟩:=n.tup R3.sub;refine⟨a,vs,rfl,sq,?_⟩
    by_cases hw:HT.sIx vs.length 0 l=0/\HT.sIx vs.length vs.length h=vs.length
    ·refine .inl ⟨hw,q F3 L3 H3 _ ((g1.trans g2).trans g3) R3 ?_⟩;have ec:cC xs l h=xs:=by
      unfold cC;rw[dl.length,hw.1,hw.2,yCw,yFu,<- dl.length,yAh]
     rw[ec];rcases n with n | ⟨_,_,_,z,_⟩
     ·exact n
     ·cases z
    ·exact .inr ⟨hw,λ p hp=>q _ L3 _ _ (((g1.trans g2).trans g3).trans (Gr.new (R3.sub.free hp))) (R3.new hp) (Den.tup (bM.of bQ) ((aEm dl l h).mono (eN (R3.sub.free hp))))⟩
  | _=>cases e5
end
structure ZA(z TI TO i1 i2:qv)(fp1 fp2:List qv):Prop where
 TIz:TI≠z
 TOz:TO≠z
 i1z:i1≠z
 i2z:i2≠z
 TITO:TI≠TO
 TIi1:TI≠i1
 TIi2:TI≠i2
 TOi1:TO≠i1
 TOi2:TO≠i2
 f1:∀ b∈fp1,b≠z/\b≠TO/\b≠i2
 f2:∀ b∈fp2,b≠z/\b≠TO/\b≠i1
section
variable {prog : zq}{w : zx}{A : zv}{E : qx -> qj -> Prop}{s : qj}
end
def tP(t:Bool)(h:Heap)(a:qv)(its:Array qx):Prop:=match t with
 | true=>h.IsTuple a its
 | false=>h.IsList a its
def nF(t:Bool)(h:Heap)(it a:qv)(i:Nat):Prop:=match t with
 | true=>h.IsTupleIter it a i
 | false=>h.IsListIter it a i
theorem nF.at{t:Bool}{h h':Heap}{it a:qv}{i:Nat}(x:nF t h it a i)(q:∀ o,h.get? it=qq o->h'.get? it=qq o):nF t h' it a i:=by
 cases t with
 | true=>exact Heap.IsTupleIter.at (h:=h) x q
 | false=>exact Heap.IsListIter.at (h:=h) x q
theorem nF.obj{t:Bool}{h:Heap}{it a:qv}{i:Nat}(x:nF t h it a i):∃ o,h.get? it=qq o/\∀ v,o.data≠.cell v:=by
 cases t with
 | true=>obtain⟨o,ho,hc,hd⟩:=x;exact⟨o,ho,λ v z=>by rw[hd] at z;cases z⟩
 | false=>obtain⟨o,ho,hc,hd⟩:=x;exact⟨o,ho,λ v z=>by rw[hd] at z;cases z⟩
theorem tP.lt{t:Bool}{h:Heap}{a:qv}{its:Array qx}(x:tP t h a its):a<h.objs.size:=by
 cases t with
 | true=>obtain⟨o,ho,_⟩:=x;exact xAa ho
 | false=>obtain⟨o,ho,_⟩:=x;exact xAa ho
section
variable {prog : zq}{w : zx}{A : zv}{E : qx -> qj -> Prop}{s : qj}
theorem tP.push{t:Bool}{h:Heap}{a:qv}{its:Array qx}(x:tP t h a its)(o:Obj):tP t (h.push o) a its:=by
 cases t with
 | true=>obtain⟨o,ho,r⟩:=x;exact⟨o,hpS _ ho,r⟩
 | false=>obtain⟨o,ho,r⟩:=x;exact⟨o,hpS _ ho,r⟩
end
section
variable {X : Cx}
noncomputable def aGB:List D->List D->List D
 | a::as,b::bs=>.tuple [a,b]::aGB as bs
 | _,_=>[]
end
section
variable {X : Cx}
noncomputable def aBX:W->Option (List D)
 | .d (.list ds)=>qq ds
 | .d (.tuple ds)=>qq ds
 | _=>qz
noncomputable def aQq(fa fb:FE):FL:=λ env S=>(fa env S).bind λ p=>(fb env p.2).bind λ q=>(aBX p.1).bind λ ds=>(aBX q.1).bind λ es=>qq (aGB ds es,q.2)
end
structure ZB(z TI TO i1 i2 i3:qv)(fp1 fp2 fp3:List qv):Prop where
 TIz:TI≠z
 TOz:TO≠z
 i1z:i1≠z
 i2z:i2≠z
 i3z:i3≠z
 TITO:TI≠TO
 TIi1:TI≠i1
 TIi2:TI≠i2
 TIi3:TI≠i3
 TOi1:TO≠i1
 TOi2:TO≠i2
 TOi3:TO≠i3
 f1:∀ b∈fp1,b≠z/\b≠TO/\b≠i2/\b≠i3
 f2:∀ b∈fp2,b≠z/\b≠TO/\b≠i1/\b≠i3
 f3:∀ b∈fp3,b≠z/\b≠TO/\b≠i1/\b≠i2
section
variable {prog : zq}{w : zx}{A : zv}{E : qx -> qj -> Prop}{s : qj}
end
section
variable {prog : zq}{w : zx}{A : zv}{E : qx -> qj -> Prop}{s : qj}
end
section
variable {X : Cx}
end
section
variable {X : Cx}
end
section
open PySem.SeqAt
open PySem.AutoSeq1 (wpAny_loadPart')
open PySem.MeetsSeq PySem.MeetsSeq2 PySem.MeetsSeq3
theorem pO:∀ {vs:List qx}{ns:List Int}{i:Nat},IntsAre vs ns->i<vs.length->∃ a t,vs[i]? = qq (.int a t)/\ns.drop i=a::ns.drop (i+1)
 | _,_,i,.nil,h=>absurd h (Nat.not_lt_zero i)
 | _,_,0,.cons a t _,_=>⟨a,t,rfl,rfl⟩
 | _,_,i+1,.cons a t r,h=>by
   obtain⟨b,u,h1,h2⟩:=pO (i:=i) r (by simpa using h)
   exact⟨b,u,by simpa using h1,by simpa using h2⟩
end
section
variable {prog : zq}{w : zx}{A : zv}{E : qx -> qj -> Prop}{s : qj}
end
section
variable {X : Cx}
end
section
variable {X : Cx}
end
section
variable {X : Cx}
end
section
variable {X : Cx}
end
section
variable {X : Cx}{tg : qw}
end
abbrev aL7(h:Heap)(z TI TO a:qv)(f:Bool):Prop:=
 h.get? z=qq {cls:=.type "zip",dict:=qz,data:=.fields #[jy a,.bool f,.bool false,.ref TI,.ref TO],slots:=#[] }
section
variable {prog : zq}{w : zx}{A : zv}{E : qx -> qj -> Prop}{s : qj}
end
structure ZW(X:Cx)(aA:List (qv×Obj))(σ:L2.St)(F1:Hp)(L1:List qv)(S1:aB)(SA z TI TO i1 i2:qv)(ds:List D)(H F:Hp)(vs:List V)(s:qj):Prop where
 inv:Inv X aA σ H s
 same:bO F1 F
 rel:Rel X.K F L1 S1 H
 free:F SA=qz
 lst:H SA=qq (.lst vs)
 den:DenL X.K F ds vs
 fp:∀ c∈[z,TI,TO,i1,i2],gH X aA H c
structure ZH(z TI TO i1 i2 a b:qv)(t u:Bool)(i:Nat)(h:Heap):Prop where
 ti:IsPair h TI (.ref i1) (.ref i2)
 q1:nF t h i1 a i
 q2:nF u h i2 b i
 to:∃ o,h.get? TO=qq o
 z:(IsZip h z TI TO .none/\∃ x y,IsPair h TO x y)\/∃ a0 f,aL7 h z TI TO a0 f/\∃ o,h.get? a0=qq o
theorem ZH.keep{z TI TO i1 i2 a b:qv}{t u:Bool}{i:Nat}{h h':Heap}(x:ZH z TI TO i1 i2 a b t u i h)(k:∀ c o,c∈[z,TI,TO,i1,i2]->h.get? c=qq o->h'.get? c=qq o)(k2:∀ c o,h.get? c=qq o->∃ o',h'.get? c=qq o'):ZH z TI TO i1 i2 a b t u i h':=by
 refine⟨k _ _ (by simp) x.ti,x.q1.at λ o e=>k _ _ (by simp) e,x.q2.at λ o e=>k _ _ (by simp) e,let ⟨o,e⟩:=x.to;k2 _ _ e,?_⟩
 rcases x.z with ⟨y,p,q,r⟩ | ⟨a0,f,y,o,e⟩
 ·exact .inl ⟨k _ _ (by simp) y,p,q,k _ _ (by simp) r⟩
 ·exact .inr ⟨a0,f,k _ _ (by simp) y,k2 _ _ e⟩
section
variable {X : Cx}{aA : List (qv×Obj)}{σ : L2.St}{F1 : Hp}{L1 : List qv}{S1 : aB}{SA z TI TO i1 i2 a b : qv}{t u : Bool}{ds : List D}{H F : Hp}{vs : List V}{s : qj}{xs ys : List V}{ds1 ds2 : List D}{A : zv}{E : qx -> qj -> Prop}{i : Nat}
end
section
variable {prog : zq}{w : zx}{A : zv}{s : qj}{R : Result -> qj -> Prop}{z TI TO : qv}{f0 : qx}
end
section
variable {prog : zq}{w : zx}{A : zv}{E : qx -> qj -> Prop}{s : qj}{z TI TO : qv}{f0 : qx}
end
section
variable {X : Cx}
end
section
variable {prog : zq}{w : zx}{A : zv}{E : qx -> qj -> Prop}{s : qj}
end
section
variable {X : Cx}{tg : qw}
end
section
variable {X : Cx}
end
noncomputable def yG(z:Str):It:=⟨λ i _=>i<z.cps.size,λ i H x H'=>H'=H/\∃ c,z.cps[i]? = qq c/\x=.str ⟨#[c]⟩,λ i _=>z.cps.size<=i⟩
theorem aIH{P:zq}{w:zx}{K:FrG}{tg:qw}(it:qv)(z:Str)(t:Tok)(n:String)(hn:n = "str_ascii_iterator" \/ n = "str_iterator"):Turn P w K tg (yG z) [it] it (λ i h=>h.IsStrIter it n z t i) where
 mem:=by simp
 obj:=λ i h st b hb=>by
  have e:b=it:=by simpa using hb
  subst e;obtain⟨o,e,c,d⟩:=st;exact⟨o,e,λ v z=>by rw[d] at z;cases z⟩
 keep:=λ i h h' st k=>by
  obtain⟨o,e,r⟩:=st;exact⟨o,k it (by simp) o e,r⟩
 item:=by
  intro X hP hw hK hc i aA s σ H E I hf st hg;subst hP hw hK;obtain⟨f0,f1,f2,f3,f4,f5⟩:=hf it (by simp)
  have hg:i<z.cps.size:=hg;have bB:∀ h',h'.IsStrIter it n z t (i+1)->yCz it s.heap h'->∃ u,qq (Value.str ⟨#[z.cps[i]]⟩ s.toks)=qq u/\qu (model X.prog X.w) X.A (vj tg (.ref it) u) (λ _ s2=>∃ x H',Inv X aA σ H' s2/\aT x u/\(yG z).yld i H x H'/\s2.heap.IsStrIter it n z t (i+1)/\∀ b∈[it],H' b=qz) E {s with heap:=h',toks:=s.toks+1 }:=λ h' st' sb=>by
   have I1:Inv X aA σ H {s with heap:=h',toks:=s.toks+1 }:=I.turned (λ b o hb e=>(sb.2 b hb).trans e) f0 f1 f3 f4 f5
   obtain⟨o,e,c,d⟩:=id st';exact⟨_,rfl,wQ (s:={s with heap:=h',toks:=s.toks+1 }) e c d (by rcases hn with rfl | rfl<;>decide) ⟨.str ⟨#[z.cps[i]]⟩,H,I1,⟨_,rfl⟩,⟨rfl,z.cps[i],by simp[hg],rfl⟩,st',λ b hb=>(hf b hb).1⟩⟩
  rcases hn with rfl | rfl
  ·exact wpAny_pyNext_ascii_item st (c:=z.cps[i]) (by simp[hg]) bB
  ·exact wpAny_pyNext_wide_item st (c:=z.cps[i]) (by simp[hg]) bB
 done:=by
  intro X hP hw hK hc i aA s σ H E I hf st hg;subst hP hw hK;obtain⟨f0,f1,f2,f3,f4,f5⟩:=hf it (by simp)
  have hg:z.cps.size<=i:=hg;rcases hn with rfl | rfl
  ·exact wpAny_pyNext_ascii_end (I.ok.hd hc) st (by simp[hg]) λ h' eb=>⟨rfl,I.turned (t':=s.toks) (λ b o hb e=>eb b o hb e) f0 f1 f3 f4 f5⟩
  ·exact wpAny_pyNext_wide_end (I.ok.hd hc) st (by simp[hg]) λ h' eb=>⟨rfl,I.turned (t':=s.toks) (λ b o hb e=>eb b o hb e) f0 f1 f3 f4 f5⟩
 self:=λ _ _ _ _ _ st h=>by
  rcases hn with rfl | rfl
  ·exact wpAny_pyIter_striter_ascii st h
  ·exact wpAny_pyIter_striter_wide st h
section
variable {X : Cx}
def aPj(tl:TE):TI:=λ σ H R=>tl σ H λ x H1=>∃ z,x=.str z/\R (yG z) H1
theorem aHJ(z:Str):strIterType z = "str_ascii_iterator" \/ strIterType z = "str_iterator":=by
 unfold strIterType
 split
 ·exact .inl rfl
 ·exact .inr rfl
theorem aLy{tg l:qw}{tl:TE}(hl:PE X l tl):PI X tg l (aPj tl):=by
 intro aA s σ H R I h;refine aU (hl aA s σ H _ I h) λ v s1 hPq42=>?_
 obtain⟨x,H1,I1,r1,q1⟩:=hPq42;obtain⟨z,e,q⟩:=q1;subst e;obtain⟨t,rfl⟩:=r1;refine wpAny_pyIter_strU ?_;refine⟨s1.heap.objs.size,[s1.heap.objs.size],_,_,H1,rfl,I1.kept (t':=s1.toks) λ b o e=>hpS _ e,aIH _ z t (strIterType z) (aHJ z),⟨_,xAe _ rfl,rfl,rfl⟩,λ b hb=>?_,q⟩
 have e:b=s1.heap.objs.size:=by simpa using hb
 subst e;exact I1.fpOk (yAe _) (I1.hok.fresh (yAe _))
noncomputable def mP(c:Nat):D:=.str ⟨#[c]⟩
theorem aLx{K:FrG}{F:Hp}{L:List qv}(z:Str):Wk K F L (yG z) (z.cps.toList.map mP) where
 go:=λ i H s hi=>by
  have:i<z.cps.size:=by simpa using hi
  exact this
 stop:=λ H s=>by
  show z.cps.size<=(z.cps.toList.map mP).length;simp
 yld:=λ i H F1 L1 S x H' d g R e y=>by
  obtain⟨rfl,c,hc,rfl⟩:=y;rw[xAb,Array.getElem?_toList,hc] at e;cases e;exact⟨F1,bO.refl _,R,.str _⟩
noncomputable def qK(fa:FE):FL:=λ env S=>(fa env S).bind λ p=>match p.1 with
 | .d (.str z)=>qq (z.cps.toList.map mP,p.2)
 | _=>qz
theorem aOu{tg a:qw}{fa:FE}(ha:PE X a (aH X.K fa)):PI X tg a (iT X.K (qK fa)):=PI.weak (aLy ha) λ σ H Rr aJ=>by
 obtain⟨F,L,S,env,ds,S',R,E,e,q⟩:=aJ;obtain⟨⟨w,S1⟩,e1,e2⟩:=bind_some e;dsimp only at e2
 split at e2
 ·cases e2;refine⟨F,L,S,env,_,_,R,E,e1,λ F1 L1 H1 v g1 R1 d1=>?_⟩
  rename_i z;cases (show Den X.K F1 (.str z) v from d1)
  exact⟨z,rfl,q F1 L1 H1 _ g1 R1 (aLx z)⟩
 ·cases e2
noncomputable def dP(x y:Str):Bool:=!(Builtin.Str.occurrences y x 0 y.length 1).isEmpty
noncomputable def lF(n:Bool):D->D->Option D
 | .str x,.str y=>qq (.bool (if n=true then !dP x y else dP x y))
 | _,_=>qz
noncomputable def nZ:Bool->jx
 | true=>.NotIn
 | false=>.In
theorem aE9(n:Bool):bS X (zo (nZ n)) (nB X (lF n)):=by
 rintro aA s σ H x y v u Q I rx ry ⟨F,L,S,dx,dy,z,R,nx,ny,e,q⟩;unfold lF at e
 split at e
 ·cases e;cases nx.str;cases ny.str;obtain⟨t,rfl⟩:=rx;obtain⟨t',rfl⟩:=ry;cases n
  ·exact P.in_str ⟨.bl _,H,I,rfl,q.here R (.bl _)⟩
  ·exact P.notIn_str ⟨.bl _,H,I,rfl,q.here R (.bl _)⟩
 ·cases e
noncomputable def kD(n:Bool)(fa fb:FE):FE:=f2 fa fb (gC (lF n))
theorem aPI{n:Bool}{a b:qw}{pos:Pos}{fa fb:FE}(ha:PE X a (aH X.K fa))(hb:PE X b (aH X.K fb))(hm:jv (nZ n) b=false):PE X (.Compare a [nZ n] [b] pos) (aH X.K (kD n fa fb)):=
 PE.weak (aAY (aE9 n) ha hb hm) (oF kW)
theorem aNR{n:Bool}{a b:qw}{pos:Pos}{fa fb:FE}(ha:PE X a (aH X.K fa))(hb:PE X b (aH X.K fb))(hm:jv (nZ n) b=false):PT X (.Compare a [nZ n] [b] pos) (dU X.K (cG (kD n fa fb))):=
 PT.weak (aEr (aE9 n) ha hb hm) λ σ H Q aJ=>by
  obtain⟨F,L,S,env,b,S',R,E,e,q⟩:=aJ;obtain⟨w,d,e1,e2,e3⟩:=vM e;refine oF (fa:=fa) (fb:=fb) (g:=gC (lF n)) kW σ H _ ⟨F,L,S,env,w,S',R,E,e1,λ F1 L1 H1 v g1 R1 d1=>?_⟩
  have hc:∃ c,w=.d (.bool c):=by
   obtain⟨p,ea,e1⟩:=bind_some e1;obtain⟨p2,eb,e1⟩:=bind_some e1;obtain⟨_,_,z,_,_,e6,rfl,_⟩:=nH e1;unfold lF at e6
   split at e6
   ·cases e6;exact⟨_,rfl⟩
   ·cases e6
  obtain⟨c,rfl⟩:=hc;cases e2;cases e3;cases (show Den X.K F1 (.bool b) v from d1)
  exact⟨_,rfl,q F1 L1 H1 g1 R1⟩
noncomputable def tL:D->Option D
 | .int i=>if i.natAbs.log2<1920 then qq (.str (toString i)) else qz
 | .str x=>qq (.str x)
 | _=>qz
noncomputable def tG:D->Option D
 | .str x=>if x.length<=640 then (PySem.intText? x).bind λ n=>qq (.int n) else qz
 | _=>qz
noncomputable def rD1(X:Cx)(g:D->Option D):List V->Hp->VK->Prop:=λ xs H Q=>∃ F L S d z x,xs=[x]/\Rel X.K F L S H/\bG X.K F H d x/\g d=qq z/\eI X F L S z Q
theorem aIv:cF X (.type "str") (rD1 X tL):=by
 rintro aA s σ H xs us Q I r ⟨F,L,S,d,z,x,ex,R,nx,e,q⟩;subst ex;obtain⟨u,rfl,ru⟩:=fB r;unfold tL at e
 split at e
 ·split at e
  ·rename_i i hi;cases e;cases nx.int;obtain⟨t,rfl⟩:=ru;exact PySem.P.str_of_int hi ⟨.str _,H,I.tok _,⟨_,rfl⟩,q.here R (.str _)⟩
  ·cases e
 ·cases e;cases nx.str;obtain⟨t,rfl⟩:=ru;exact P.str_of_str ⟨.str _,H,I,⟨_,rfl⟩,q.here R (.str _)⟩
 ·cases e
theorem aIA:cF X (.type "int") (rD1 X tG):=by
 rintro aA s σ H xs us Q I r ⟨F,L,S,d,z,x,ex,R,nx,e,q⟩;subst ex;obtain⟨u,rfl,ru⟩:=fB r;unfold tG at e
 split at e
 ·split at e
  ·rename_i y hy;obtain⟨n,e1,e2⟩:=bind_some e;cases e2;cases nx.str;obtain⟨t,rfl⟩:=ru;exact PySem.W.KIN.call_text e1 hy ⟨.int n,H,I.tok _,⟨_,rfl⟩,q.here R (.int _)⟩
  ·cases e
 ·cases e
theorem aF6{g:D->Option D}{fa:FE}(σ:L2.St)(H:Hp)(Q:VK)(h:aH X.K (f1 fa (dM g)) σ H Q):uS (rD1 X g) (cP X.K (cB fa fO)) σ H Q:=by
 obtain⟨F,L,S,env,w,S',R,E,e,q⟩:=h;obtain⟨⟨w1,S1⟩,e1,e2⟩:=bind_some e;obtain⟨d,z,e3,e4,rfl,rfl⟩:=pH e2;refine⟨F,L,S,env,[w1],_,R,E,by unfold cB;rw[e1];rfl,λ F1 L1 H1 vs g1 R1 d1=>?_⟩
 cases d1 with
 | cons dd dr =>
   cases dr;exact⟨F1,L1,_,d,z,_,rfl,R1,fM R1 dd e3,e4,rW X rfl λ F2 L2 H2 v2 g2 R2 d2=>q F2 L2 H2 v2 (g1.trans g2) R2 d2⟩
noncomputable def aGI:V->List V->Hp->VK->Prop:=λ x xs H Q=>∃ a y,x=.str a/\xs=[.str y]/\(y.length==0)=false/\a.length+2<=qk/\∀ p,H p=qz->Q (.ref p) (aQ H p (.lst ((Txt.split a y).map V.str)))
theorem aDl:∀ l:List (Str×Tok),aO ((l.map (·.1)).map V.str) (strValues l)
 | []=>.nil
 | p::l=>.cons ⟨p.2,rfl⟩ (aDl l)
theorem aJT:MtM X "str.split" aGI:=by
 rintro aA s σ H x xs v us Q I rx rs ⟨a,y,e1,e2,hy,hsz,q⟩;subst e1 e2;obtain⟨t,rfl⟩:=rx;obtain⟨u,rfl,ru⟩:=rs.one;obtain⟨t',rfl⟩:=ru;have hn:(Builtin.Str.partsBetween a (Builtin.Str.occurrences a y 0 a.length (a.length+1)) y.length).length<=qk:=by
  have e1:=StrLaws.occ_length_le a y 0 a.length (a.length+1);rw[length_partsBetween];omega
 have bB:∀ (l:List (Str×Tok)) (k:Nat),l.map (·.1)=Txt.split a y->l.length<=qk->EP X aA σ Q (.ref s.heap.objs.size) {s with heap:=s.heap.push {cls:=.type "list",data:=.seq (strValues l).toArray },toks:=k }:=λ l k e hl=>by
  have hv:=aDl l;rw[e] at hv;exact⟨.ref _,_,I.lnew (t':=k) hv (by rw[<- e,yAb,yAb];exact hl),rfl,q _ I.fresh⟩
 cases h1:(decide (a.length<y.length)||decide (Builtin.Str.strKind a<Builtin.Str.strKind y))
 ·cases hf:(Builtin.Str.occurrences a y 0 a.length (a.length+1)).isEmpty
  ·refine jk yCx (typeIs_str _ _ _) yDz (yDs _ _) (meets_str_split_sep a y t t' h1 hy hf (by omega) hn) ?_
   show wants _ _ _ {s with toks:=_,heap:=s.heap.push {cls:=.type "list",data:=.seq (strsFrom s.toks (Builtin.Str.partsBetween a (Builtin.Str.occurrences a y 0 a.length (a.length+1)) y.length)).toArray } }
   rw[strsFrom_eq];refine bB (numbered s.toks _) _ ((numbered_texts _ _).trans ((if_neg (ne_true_of_eq_false h1)).trans (if_neg (ne_true_of_eq_false hf))).symm) ?_;have:=congrArg yEy (numbered_texts s.toks (Builtin.Str.partsBetween a (Builtin.Str.occurrences a y 0 a.length (a.length+1)) y.length));rw[yAb] at this;omega
  ·exact jk yCx (typeIs_str _ _ _) yDz (yDs _ _) (meets_str_split_not_found a y t t' h1 hy hf)
    (bB [(a,t)] s.toks ((if_neg (ne_true_of_eq_false h1)).trans (if_pos hf)).symm (by show 1<=qk;decide))
 ·exact jk yCx (typeIs_str _ _ _) yDz (yDs _ _) (meets_str_split_cannot_occur a y t t' h1)
   (bB [(a,t)] s.toks (if_pos h1).symm (by show 1<=qk;decide))
noncomputable def mM(S:aB):W->W->Option (List D×aB)
 | .d (.str a),.d (.str y)=>if (y.length==0)=false/\a.length+2<=qk then qq ((Txt.split a y).map yAa,S) else qz
 | _,_=>qz
theorem aIt{S S':aB}{o x:W}{ds:List D}(h:mM S o x=qq (ds,S')):∃ a y,o=.d (.str a)/\x=.d (.str y)/\(y.length==0)=false/\a.length+2<=qk/\ds=(Txt.split a y).map yAa/\S'=S:=by
 unfold mM at h
 split at h
 ·rename_i a y
  split at h
  ·rename_i hc;cases h;exact⟨a,y,rfl,rfl,hc.1,hc.2,rfl,rfl⟩
  ·cases h
 ·cases h
noncomputable def mU(fa fb:FE):FL:=λ env S=>(fa env S).bind λ p=>(fb env p.2).bind λ q=>mM q.2 p.1 q.1
theorem aDs{K:FrG}{F:Hp}:∀ l:List Str,DenL K F (l.map yAa) (l.map V.str)
 | []=>.nil
 | a::l=>.cons (.str a) (aDs l)
theorem aPv{K:FrG}{fo fe:FE}(σ:L2.St)(H:Hp)(Q:VK)(h:gJ K (mU fo fe) σ H Q):zD K "str" aGI (aH K fo) (cP K (cB fe fO)) σ H Q:=by
 obtain⟨F,L,S,env,ds,S',R,E,e,q⟩:=h;obtain⟨⟨wo,S1⟩,e1,e⟩:=bind_some e;obtain⟨⟨we,S2⟩,e2,e⟩:=bind_some e;obtain⟨a,y,rfl,rfl,h1,h2,rfl,rfl⟩:=aIt e;refine⟨F,L,S,env,_,S1,R,E,e1,λ F1 L1 H1 o g1 R1 d1=>?_⟩
 cases (show Den K F1 (.str a) o from d1)
 refine⟨rfl,F1,L1,S1,env,[.d (.str y)],S',R1,E.mono g1,?_,λ F2 L2 H2 vs g2 R2 d2=>?_⟩
 ·unfold cB;rw[e2];rfl
 ·cases d2 with
  | cons dd dr =>
    cases dr;cases (show Den K F2 (.str y) _ from dd)
    exact⟨a,y,rfl,rfl,h1,h2,λ p hp=>q F2 L2 _ p _ (g1.trans g2) (R2.lay hp) (R2.sub.free hp) (R2.notin hp) bQ (aDs _)⟩
noncomputable def pV:List D->Option (List Str)
 | []=>qq []
 | .str i::r=>(pV r).bind λ l=>qq (i::l)
 | _::_=>qz
theorem aCR{K:FrG}{F:Hp}:∀ {ds:List D}{xs:List V}{ns:List Str},DenL K F ds xs->pV ds=qq ns->xs=ns.map V.str
 | _,_,_,.nil,e=>by cases e;rfl
 | .str i::r,_,_,.cons h t,e=>by
   obtain⟨l,e1,e2⟩:=bind_some e;cases e2;cases h;rw[yAi,aCR t e1]
 | .none::_,_,_,.cons _ _,e=>by cases e
 | .bool _::_,_,_,.cons _ _,e=>by cases e
 | .int _::_,_,_,.cons _ _,e=>by cases e
 | .list _::_,_,_,.cons _ _,e=>by cases e
 | .tuple _::_,_,_,.cons _ _,e=>by cases e
 | .dict _::_,_,_,.cons _ _,e=>by cases e
noncomputable def rJn(K:FrG):V->List V->Hp->VK->Prop:=λ x xs H Q=>∃ (z:Str) (a:qv) (ys:List Str),x=.str z/\xs=[.ref a]/\bJ K H a (ys.map V.str)/\(ys.map (·.length)).sum+ys.length*z.length<=16777216/\Q (.str (Txt.join z ys)) H
theorem aDX:∀ {ys:List Str}{us:List qx},aO (ys.map V.str) us->StrsAre us ys
 | [],_,.nil=>.nil
 | y::ys,_,.cons r1 r2=>by
   obtain⟨t,rfl⟩:=r1;exact .cons y t (aDX r2)
theorem aKH:MtM X "str.join" (rJn X.K):=by
 rintro aA s σ H x xs v us Q I rx rs ⟨z,a,ys,e1,e2,sq,hok,q⟩;subst e1 e2;obtain⟨t,rfl⟩:=rx;obtain⟨u,rfl,ru⟩:=rs.one;cases ru;obtain⟨its,rv,p,hz⟩:=I.list sq;exact join_list p.isList (aDX (by simpa using rv)) hok λ t' k=>⟨.str _,H,I.tok k,⟨_,rfl⟩,q⟩
noncomputable def mJ:D->D->Option D
 | .str z,.list ds=>(pV ds).bind λ ys=>if (ys.map (·.length)).sum+ys.length*z.length<=16777216 then qq (.str (Txt.join z ys)) else qz
 | _,_=>qz
noncomputable def jF(fa fb:FE):FE:=f2 fa fb (gC mJ)
theorem aQJ{K:FrG}{fo fe:FE}(σ:L2.St)(H:Hp)(Q:VK)(h:aH K (jF fo fe) σ H Q):zD K "str" (rJn K) (aH K fo) (cP K (cB fe fO)) σ H Q:=by
 obtain⟨F,L,S,env,w,S',R,E,e,q⟩:=h;obtain⟨⟨wo,S1⟩,e1,e⟩:=bind_some e;obtain⟨⟨we,S2⟩,e2,e⟩:=bind_some e;obtain⟨da,db,z,ea,eb,eg,rfl,rfl⟩:=nH e;unfold mJ at eg
 split at eg
 ·rename_i y ds;obtain⟨ys,e5,e6⟩:=bind_some eg
  split at e6
  ·rename_i hok;cases e6;cases wo with
   | loc n=>simp[dr] at ea;cases hS:S'[n]? with
     | none=>rw[hS] at ea;cases ea
     | some o=>rw[hS] at ea;cases o<;>cases ea
   | exc c r=>cases ea
   | d dd =>
     cases ea;refine⟨F,L,S,env,_,S1,R,E,e1,λ F1 L1 H1 o g1 R1 d1=>?_⟩
     cases (show Den K F1 (.str y) o from d1)
     refine⟨rfl,F1,L1,S1,env,[we],S',R1,E.mono g1,?_,λ F2 L2 H2 vs g2 R2 d2=>?_⟩
     ·unfold cB;rw[e2];rfl
     ·cases d2 with
      | cons dd dr =>
        cases dr;obtain⟨a,xs,rfl,sq,dl⟩:=(fM R2 dd eb).lst R2.sub;obtain rfl:=aCR dl e5;exact⟨y,a,ys,rfl,rfl,sq,hok,q F2 L2 H2 _ (g1.trans g2) R2 (.str _)⟩
  ·cases e6
 ·cases eg
noncomputable def sQ(aI:List (Str×Tv)):D->Option D
 | .str x=>qq (.bool (aI.lookup x).isSome)
 | _=>qz
theorem aDK{w:zx}{k:Str}:∀ {l:List DictEntry}{aI:List (Str×Tv)},nW w l aI->aI.lookup k=qz->(l.find? λ e=>mG (.inr k) e.key)=qz
 | [],[],_,_=>rfl
 | e::r,(x,v')::aI,ok,h=>by
   obtain⟨h1,⟨t,h2⟩,h3,h4⟩:=ok;rw[yAy] at h;rw[yDf,h2,aDZ];cases q:k==x with
   | true=>rw[q] at h;cases h
   | false =>
     rw[q] at h;exact aDK h4 h
 | [],_::_,ok,_=>ok.elim
 | _::_,[],ok,_=>ok.elim
theorem aKe{aI:List (Str×Tv)}:bS X (zo .In) (λ x y H Q=>∃ a k,y=.ref a/\mE X.K X.w a aI/\x=.str k/\Q (.bl (aI.lookup k).isSome) H):=by
 intro aA s σ H x y v u Q I rx ry h;obtain⟨a,k,rfl,⟨hs,es,ep,hl,ok⟩,rfl,q⟩:=h;cases ry;obtain⟨t,rfl⟩:=rx;have hm:s.heap.MapOf (gE X.prog X.w) a (λ k=>findBy (gE X.prog X.w).is es k):=⟨_,es,ep,I.kIn a _ hl,⟨rfl,rfl,rfl⟩,rfl,λ e he=>aAL ok e (by simpa using he),λ _=>rfl⟩
 have hz:(findBy (gE X.prog X.w).is es (.inr k)).isSome=(aI.lookup k).isSome:=by
  unfold findBy;rw[<- yFf];cases hv:aI.lookup k with
  | none=>rw[show(es.toList.find? λ e=>(gE X.prog X.w).is (.inr k) e.key)=qz from aDK ok hv];rfl
  | some tv =>
    obtain⟨z,e1,_⟩:=aAv ok hv;rw[show((es.toList.find? λ e=>(gE X.prog X.w).is (.inr k) e.key).map (·.val))=qq z from e1]
    rfl
 refine wpAny_in_of (knd:=gE X.prog X.w) (k:=.inr k) (aAq k t) hs hm ⟨.bl _,H,I.tok _,?_,q⟩;show Value.bool _=Value.bool _;rw[hz]
theorem aLS{x:Str}{k:qw}{fk:FE}{p pos:Pos}{aI:List (Str×Tv)}(hg:Gl X x)(hd:(x==("__debug__" : Str))=false)(ht:∃ a,X.mg x=qq (.ref a)/\mE X.K X.w a aI)(hk:PE X k (aH X.K fk)) :
 PE X (.Compare k [.In] [.Name x p] pos) (aH X.K (f1 fk (dM (sQ aI)))):=by
 obtain⟨a,hm,ta⟩:=ht;refine PE.weak (aAY (aKe (aI:=aI)) hk (rX (v:=.ref a) hg hm rfl hd) rfl) λ σ H Q hPq43=>?_
 obtain⟨F,L,S,env,w,S',R,E,e,q⟩:=hPq43;obtain⟨⟨w1,S1⟩,e1,e2⟩:=bind_some e;obtain⟨d,z,e3,e4,rfl,rfl⟩:=pH e2;cases d with
 | str y =>
   cases e4;refine⟨F,L,S,env,w1,_,R,E,e1,λ F1 L1 H1 u g1 R1 d1=>⟨a,y,rfl,ta,(fM R1 d1 e3).str,?_⟩⟩
   exact q F1 L1 H1 _ g1 R1 (.bl _)
 | _=>cases e4
theorem aOp{x y:Str}{p:Pos}(hg:Gl X x)(hd:(x==("__debug__" : Str))=false)(ht:∃ t,X.mg x=qq (.str y t)):PE X (.Name x p) (aH X.K (fC (.str y))):=by
 obtain⟨t,hm⟩:=ht;refine PE.weak (rX (v:=.str y) hg hm ⟨t,rfl⟩ hd) λ σ H Q hPq44=>?_
 obtain⟨F,L,S,env,w,S',R,E,e,q⟩:=hPq44;cases e;exact q F L H _ Gr.refl R (.str _)
end
open PySem.Builtin PySem.Builtin.Str
noncomputable def jE(x y z:PySem.Str):PySem.Str:=if ((occurrences x y 0 x.length 1).isEmpty||(y.length==0&&z.length==0))=true then x else glued z (partsBetween x (occurrences x y 0 x.length 1) y.length)
theorem aHo(x y z:PySem.Str)(t u v q:Tok)
 (hf:((occurrences x y 0 x.length 1).isEmpty||(y.length==0&&z.length==0))=false ->
   (u==0||v==0)=false/\(u==v)=false/\(y==z)=false/\tooLong (x.length+(occurrences x y 0 x.length 1).length*z.length)=false) :
 Gives («str.replace» ⟨[.str x t,.str y u,.str z v,.int 1 q],[]⟩) (if ((occurrences x y 0 x.length 1).isEmpty||(y.length==0&&z.length==0))=true then .val (.str x t) else .str (glued z (partsBetween x (occurrences x y 0 x.length 1) y.length))):=by
 have e : «str.replace» ⟨[.str x t,.str y u,.str z v,.int 1 q],[]⟩=(if ((occurrences x y 0 x.length 1).isEmpty||(y.length==0&&z.length==0))=true then (do rule "str.replace.nothing";ret (.str x t)) else
  (isSame (.str y u) (.str z v) >>= λ same =>
    if same=true then (do rule "str.replace.old-is-new";ret (.str x t)) else
    if tooLong (x.length+(occurrences x y 0 x.length 1).length*z.length)=true then unsupported "str.replace:memory" else
    retStr (glued z (partsBetween x (occurrences x y 0 x.length 1) y.length)))):=by
  show(do let limit <- countLimit "str.replace" (qq (.int 1 q)) (x.length+1);_)=_
  rw[countLimit_int "str.replace" 1 q (x.length+1) (by decide)]
  rfl
 rw[e];cases hc:((occurrences x y 0 x.length 1).isEmpty||(y.length==0&&z.length==0))
 ·obtain⟨h0,huv,hyz,hl⟩:=hf hc;rw[isSame_str_other y z u v h0 huv hyz,hl];exact .of_eq rfl
 ·exact .rule (.of_eq rfl)
theorem aLf(x y z:PySem.Str):(jE x y z).length<=x.length+z.length:=by
 unfold jE
 split
 ·omega
 ·have h1:=StrLaws.occ_length_le x y 0 x.length 1;have hy:(glued y (partsBetween x (occurrences x y 0 x.length 1) y.length)).length=x.length:=by rw[StrLaws.glued_between_self]
  rw[size_glued,length_partsBetween,Nat.add_sub_cancel] at hy;rw[size_glued,length_partsBetween,Nat.add_sub_cancel];have h2:(occurrences x y 0 x.length 1).length*z.length<=1*z.length:=yDl _ h1;omega
section
variable {prog : zq}{w : zx}{A : zv}{E : qx -> qj -> Prop}{s : qj}{x y z : PySem.Str}{t u v q : Tok}{Q : qx -> qj -> Prop}
theorem aHu(hu:u≠0)(hv:v≠0)(huv:u≠v)(hyz:(y==z)=false)(hb:x.length+z.length<=1000000)
 (hq:∀ t' k,Q (.str (jE x y z) t') {s with toks:=k }):qu (model prog w) A (call (.builtin "str.replace") [.str x t,.str y u,.str z v,.int 1 q]) Q E s:=by
 have hl:tooLong (x.length+(occurrences x y 0 x.length 1).length*z.length)=false:=by
  have h1:=StrLaws.occ_length_le x y 0 x.length 1;have h2:(occurrences x y 0 x.length 1).length*z.length<=1*z.length:=yDl _ h1;unfold tooLong;rw[qo];exact dqF (by omega)
 refine call_gives PySem.F.slot_str_replace (typeIs_str _ _ _) PySem.F.entry_str_replace (PySem.F.args_str_replace_4 _ _ _ _) (aHo x y z t u v q λ _=>⟨by simp[hu,hv],by simp[huv],hyz,hl⟩) ?_
 have hq':=hq;have hn:=aLf x y z;unfold jE at hq' hn;cases hc:((occurrences x y 0 x.length 1).isEmpty||(y.length==0&&z.length==0))
 ·rw[hc] at hq' hn;simp only[yAw,if_false] at hq' hn ⊢;exact⟨by rw[qo];omega,hq' _ _⟩
 ·rw[hc] at hq';simp only[if_true] at hq' ⊢;exact hq' t s.toks
end
section
variable {X : Cx}
def qY(X:Cx)(e:qw)(t:TE):Prop:=∀ (aA:List (qv×Obj)) (s:qj) (σ:L2.St) (H:Hp) (Q:VK),Inv X aA σ H s->0<s.toks->t σ H Q->qu (model X.prog X.w) X.A (eval e X.env) (EP X aA σ Q) X.xe s
def nA(X:Cx)(es:List qw)(t:TA):Prop:=∀ (pos:Pos) (aA:List (qv×Obj)) (s:qj) (σ:L2.St) (H:Hp) (Q:List V->Hp->Prop),Inv X aA σ H s->0<s.toks->t σ H Q->qu (model X.prog X.w) X.A (spliced (backTo pos (zj es X.env))) (λ us s2=>∃ vs H2,Inv X aA σ H2 s2/\aO vs us/\Q vs H2) X.xe s
theorem qY.of{e:qw}{t:TE}(h:PE X e t):qY X e t:=λ aA s σ H Q I _ q=>h aA s σ H Q I q
theorem nA.of{es:List qw}{t:TA}(h:PA X es t):nA X es t:=λ pos aA s σ H Q I _ q=>h pos aA s σ H Q I q
theorem aJj{e:qw}{es:List qw}{te:TE}{t:TA}(ha:qY X e te)(hr:nA X es t)(hs:zj (e::es) X.env=(false,eval e X.env)::zj es X.env):nA X (e::es) (wR te t):=by
 intro pos aA s σ H Q I hp h;rw[hs];show qu _ _ (spliced ((false,eval e X.env)::backTo pos (zj es X.env))) _ _ s;refine Calls.spliced_cons (wpAny_with_toks (n:=1) hp (wpAny_mono (ha aA s σ H _ I hp h) (λ u s1 hPq45 hk=>?_) λ _ _ z _=>z))
 obtain⟨x,H1,I1,r1,q1⟩:=hPq45;exact aU (hr pos aA s1 σ H1 _ I1 hk q1) λ us s2 ⟨xs,H2,I2,r2,q2⟩=>⟨x::xs,H2,I2,.cons r1 r2,q2⟩
theorem aJS{x:PySem.Str}{k:Nat}{p pos0:Pos}{b:qw}{es:List qw}{fb:FE}{t:TA}(hb:PE X b (aH X.K fb))(hr:nA X es t)(hs:zj (.BinOp (.Constant (.str x) k p) .Add b pos0::es) X.env=(false,eval (.BinOp (.Constant (.str x) k p) .Add b pos0) X.env)::zj es X.env) :
 PA X (.BinOp (.Constant (.str x) k p) .Add b pos0::es) (wR (aH X.K (kE .Add (fC (.str x)) fb)) t):=by
 intro pos aA s σ H Q I h;rw[hs];show qu _ _ (spliced ((false,eval (.BinOp (.Constant (.str x) k p) .Add b pos0) X.env)::backTo pos (zj es X.env))) _ _ s;obtain⟨F,L,S,env,w,S',R,E,e,q⟩:=h;obtain⟨⟨w2,S2⟩,e2,e⟩:=bind_some e;refine Calls.spliced_cons (wpAny_BinOp (Calls.Constant_str ?_));refine wpAny_with_toks (n:=1) (Nat.le_add_left 1 s.toks) (wpAny_mono (hb aA _ σ H (λ y H2=>∃ F2 L2,Gr F L F2 L2/\Rel X.K F2 L2 S2 H2/\dQ X.K F2 L2 w2 y) (I.tok _) ⟨F,L,S,env,w2,S2,R,E,e2,λ F2 L2 H2 y g2 R2 d2=>⟨F2,L2,g2,R2,d2⟩⟩) (λ u s2 hPq46 hk=>?_) λ _ _ z _=>z)
 obtain⟨y,H2,I2,r2,F2,L2,g2,R2,d2⟩:=hPq46;obtain⟨da,db,z,ea,eb,eg,rfl,rfl⟩:=nH e;cases ea;refine wpAny_with_toks (n:=1) hk (wpAny_mono (aE6 (op:=.Add) (Q:=λ v H3=>∃ F3 L3,Gr F2 L2 F3 L3/\Rel X.K F3 L3 S' H3/\dQ X.K F3 L3 (.d z) v) I2 (x:=.str x) (y:=y) ⟨_,rfl⟩ r2 R2 (fM R2 (w:=.d (.str x)) (show Den X.K F2 (.str x) (.str x) from .str x) rfl) (fM R2 d2 eb) eg ?_) (λ v s3 ⟨vv,H3,I3,r3,F3,L3,g3,R3,d3⟩ hk3=>?_) λ _ _ z _=>z)
 ·exact λ F3 H3 r hF R3 d3=>⟨F3,L2,⟨hF,[],(yAu _).symm⟩,R3,d3⟩
 ·exact aU (hr pos aA s3 σ H3 _ I3 hk3 (q F3 L3 H3 vv (g2.trans g3) R3 d3)) λ us s4 ⟨xs,H4,I4,r4,q4⟩=>⟨vv::xs,H4,I4,.cons r3 r4,q4⟩
theorem aFf{K:FrG}{fa:FE}{fr:FA}(σ:L2.St)(H:Hp)(Q:List V->Hp->Prop)(h:cP K (cB fa fr) σ H Q):wR (aH K fa) (cP K fr) σ H Q:=by
 obtain⟨F,L,S,env,ws,S',R,E,e,q⟩:=h;obtain⟨⟨w,S1⟩,e1,e2⟩:=bind_some e;obtain⟨⟨wr,S2⟩,e3,e4⟩:=bind_some e2;cases e4;exact⟨F,L,S,env,w,S1,R,E,e1,λ F1 L1 H1 v g1 R1 d1=>⟨F1,L1,S1,env,wr,S2,R1,E.mono g1,e3,λ F2 L2 H2 vs g2 R2 d2=>q F2 L2 H2 _ (g1.trans g2) R2 (.cons (d1.mono g2) d2)⟩⟩
theorem aFA{e:qw}{es:List qw}{fa:FE}{fr:FA}(ha:qY X e (aH X.K fa))(hr:nA X es (cP X.K fr))(hs:zj (e::es) X.env=(false,eval e X.env)::zj es X.env):nA X (e::es) (cP X.K (cB fa fr)):=
 λ pos aA s σ H Q I hp h=>aJj ha hr hs pos aA s σ H Q I hp (aFf σ H Q h)
noncomputable def xQ(fo:FE)(y z:PySem.Str):FE:=λ env S=>(fo env S).bind λ p=>match p.1 with
 | .d (.str x)=>if x.length<=100000 then qq (.d (.str (jE x y z)),p.2) else qz
 | _=>qz
theorem aKu{o:qw}{y z:PySem.Str}{k1 k2 k3:Nat}{p1 p2 p3 apos cpos:Pos}{fo:FE}(ho:PE X o (aH X.K fo))(hyz:y≠z)(hz:z.length<=10)(hbase:attributeBase o "replace" X.env (eval o X.env)=eval o X.env)(hline:(apos.endLine==cpos.line)=true) :
 qY X (.Call (.Attribute o "replace" apos) [.Constant (.str y) k1 p1,.Constant (.str z) k2 p2,.Constant (.int 1) k3 p3] [] cpos) (aH X.K (xQ fo y z)):=by
 rintro aA s σ H Q I hp ⟨F,L,S,env,w,S',R,E,e,q⟩;obtain⟨⟨w1,S1⟩,e1,e2⟩:=bind_some e;dsimp only at e2
 split at e2
 ·split at e2
  ·rename_i x hx;cases e2;refine wpAny_Call_method_late hbase rfl hline rfl (wpAny_with_toks (n:=1) hp (wpAny_mono (ho aA s σ H (λ v H1=>∃ F1 L1,v=.str x/\Gr F L F1 L1/\Rel X.K F1 L1 S' H1) I ⟨F,L,S,env,_,_,R,E,e1,λ F1 L1 H1 v g1 R1 d1=>?_⟩) (λ v s1 ⟨xv,H1,I1,r1,F1,L1,ex,g1,R1⟩ hk=>?_) λ _ _ z _=>z))
   ·cases (show Den X.K F1 (.str x) v from d1)
    exact⟨F1,L1,rfl,g1,R1⟩
   ·subst ex;obtain⟨t,rfl⟩:=r1;refine⟨"str", "str.replace",yEd,PySem.F.slot_str_replace,PySem.F.type_str_replace,typeIs_str _ _ _,(λ _ e=>nomatch e),?_⟩
    refine Calls.callWith_builtin rfl (Calls.evalArgs_plain ?_);refine Calls.spliced_cons (Calls.Constant_str (k:=k1) (pos:=p1) (Calls.spliced_cons (Calls.Constant_str (k:=k2) (pos:=p2) (Calls.spliced_cons (wpAny_Constant_int (k:=k3) (pos:=p3) (Calls.spliced_nil ?_))))));have hk:1<=s1.toks:=hk;refine aHu (u:=s1.toks) (v:=s1.toks+1) (yEk hk) (yDo _) (xAh (yCv _)) (beq_eq_false_iff_ne.mpr hyz) (by omega) λ t' k=>⟨.str _,H1,(I1.tok k),⟨_,rfl⟩,q F1 L1 H1 _ g1 R1 (.str _)⟩
  ·cases e2
 ·cases e2
noncomputable def aQb:V->Option Int->Option Int->Hp->VK->Prop:=λ x lo hi H Q=>∃ z,x=.str z/\z.length<=qk/\Q (.str (Txt.slice z lo hi)) H
theorem aLX:lK X aQb:=by
 rintro aA s σ H x v vl vu lo hi sl Q I rx hs pl pu ⟨z,e,hz,q⟩;subst e;obtain⟨t,rfl⟩:=rx;refine⟨"str",_,PySem.F.slot_str_getitem.lookup,typeIs_str _ _ _,?_⟩;have bB:∀ (l u:Option (Int×Tok)),s.heap.IsSlice sl l u qz->lo=l.map (·.1)->hi=u.map (·.1)->qu (model X.prog X.w) X.A (getItem (.str z t) (.ref sl)) (EP X aA σ Q) X.xe s:=λ l u hsl e1 e2=>by
  refine wpAny_getItem_str_slice (l:=l) (u:=u) (st:=qz) hsl rfl ?_;subst e1 e2;exact post_val_or_str ⟨xAg (Txt.slice_le z _ _) hz,λ t' k=>⟨.str _,H,I.tok k,⟨_,rfl⟩,q⟩⟩
 obtain⟨o,h1,h2,h3⟩:=hs;cases pl with
 | none =>
   cases pu with
   | none=>exact bB qz qz ⟨o,h1,h2,h3⟩ rfl rfl
   | int j tj=>exact bB qz (qq (j,tj)) ⟨o,h1,h2,h3⟩ rfl rfl
 | int i ti =>
   cases pu with
   | none=>exact bB (qq (i,ti)) qz ⟨o,h1,h2,h3⟩ rfl rfl
   | int j tj=>exact bB (qq (i,ti)) (qq (j,tj)) ⟨o,h1,h2,h3⟩ rfl rfl
noncomputable def aBK(lo hi:Option Int):D->Option D
 | .str z=>if z.length<=qk then qq (.str (Txt.slice z lo hi)) else qz
 | _=>qz
noncomputable def xM(fa:FE)(fl fh:FO):FE:=λ env S=>(fa env S).bind λ p=>(fl env p.2).bind λ q=>(fh env q.2).bind λ r=>(dr r.2 p.1).bind λ d=>(aBK q.1 r.1 d).bind λ z=>qq (.d z,r.2)
theorem aOU{a:qw}{lo hi:Option qw}{p2 pos:Pos}{fa:FE}{fl fh:FO}(ha:PE X a (aH X.K fa))(hl:PO X lo (iK X.K fl))(hh:PO X hi (iK X.K fh)):PE X (.Subscript a (.Slice lo hi qz p2) pos) (aH X.K (xM fa fl fh)):=
 PE.weak (aAJ aLX ha hl hh) λ σ H Q aJ=>by
  obtain⟨F,L,S,env,w',S',R,E,e,q⟩:=aJ;obtain⟨⟨w,S1⟩,e1,e⟩:=bind_some e;obtain⟨⟨l,S2⟩,e2,e⟩:=bind_some e;obtain⟨⟨h,S3⟩,e3,e⟩:=bind_some e;obtain⟨d,e4,e⟩:=bind_some e;obtain⟨z,e5,e⟩:=bind_some e;cases e;refine⟨F,L,S,env,w,S1,R,E,e1,λ F1 L1 H1 v g1 R1 d1=>⟨F1,L1,S1,env,l,S2,R1,E.mono g1,e2,λ F2 L2 H2 g2 R2=>⟨F2,L2,S2,env,h,S3,R2,E.mono (g1.trans g2),e3,λ F3 L3 H3 g3 R3=>?_⟩⟩⟩
  have n:=fM R3 (d1.mono (g2.trans g3)) e4;cases d with
  | str x =>
    have e6:(if x.length<=qk then qq (yAa (Txt.slice x l h)) else qz)=qq z:=e5
    split at e6
    ·rename_i hz;cases e6;exact⟨x,n.str,hz,q F3 L3 H3 _ ((g1.trans g2).trans g3) R3 (.str _)⟩
    ·cases e6
  | _=>cases e5
noncomputable def xH:D->D->Option D
 | .str x,.int n=>if x.length<=1000/\0<=n/\n<=1000 then qq (.str (Txt.mul x n)) else qz
 | _,_=>qz
theorem aKc{x:PySem.Str}{n:Int}(h1:x.length<=1000)(h2:0<=n)(h3:n<=1000):MulOk x n:=by
 have hm:x.length*n.toNat<=1000*1000:=Nat.mul_le_mul h1 (by omega)
 refine⟨?_,λ a _=>?_,λ _ _=>?_⟩
 ·rw[dqF (by omega),dqF (by omega)]
  rfl
 ·have:(1000:Int)<=(2^63-1)/n:=(Int.le_ediv_iff_mul_le (by omega)).mpr (by omega)
  omega
 ·unfold tooLong;rw[qo];exact dqF (by omega)
theorem aKI:bS X (zu .Mult) (nB X xH):=by
 rintro aA s σ H x y v u Q I rx ry ⟨F,L,S,dx,dy,z,R,nx,ny,e,q⟩;unfold xH at e
 split at e
 ·split at e
  ·rename_i hc;cases e;cases nx.str;cases ny.int;obtain⟨t,rfl⟩:=rx;obtain⟨t',rfl⟩:=ry;exact SB.mul (aKc hc.1 hc.2.1 hc.2.2) λ t' k=>⟨.str _,H,I.tok k,⟨_,rfl⟩,q.here R (.str _)⟩
  ·cases e
 ·cases e
noncomputable def wW(fa fb:FE):FE:=f2 fa fb (gC xH)
theorem aM5{a b:qw}{pos:Pos}{fa fb:FE}(ha:PE X a (aH X.K fa))(hb:PE X b (aH X.K fb)):PE X (.BinOp a .Mult b pos) (aH X.K (wW fa fb)):=
 PE.weak (aFI aKI ha hb) (oF kW)
end
noncomputable def dL(fa:FE)(fl fh:FO):FE:=λ env S=>(fa env S).bind λ p=>(fl env p.2).bind λ q=>(fh env q.2).bind λ r=>(dr r.2 p.1).bind λ d=>match d with
 | .list xs=>qq (.d (.list (cC xs q.1 r.1)),r.2)
 | .tuple xs=>qq (.d (.tuple (cC xs q.1 r.1)),r.2)
 | _=>qz
noncomputable def gK(fa:FE):FL:=λ env S=>(fa env S).bind λ p=>match p.1 with
 | .d (.list ds)=>qq (ds,p.2)
 | .d (.tuple ds)=>qq (ds,p.2)
 | _=>qz
section
variable {X : Cx}{pos : Pos}
theorem aQF{a:qw}{lo hi:Option qw}{p2:Pos}{fa:FE}{fl fh:FO}(ha:PE X a (aH X.K fa))(hl:PO X lo (iK X.K fl))(hh:PO X hi (iK X.K fh)):PE X (.Subscript a (.Slice lo hi qz p2) pos) (aH X.K (dL fa fl fh)):=by
 rintro aA s σ H Q I ⟨F,L,S,env,w,S',R,E,e,q⟩;obtain⟨⟨w1,S1⟩,e1,e⟩:=bind_some e;obtain⟨⟨l,S2⟩,e2,e⟩:=bind_some e;obtain⟨⟨h,S3⟩,e3,e⟩:=bind_some e;obtain⟨d,e4,e⟩:=bind_some e;dsimp only at e e2 e3 e4;cases d with
 | list xs =>
   cases e;refine qJ (aOO ha hl hh) aA s σ H Q I ⟨F,L,S,env,_,_,R,E,?_,q⟩;unfold fQ aGT;rw[e1];dsimp only[yCs];rw[e2];dsimp only;rw[e3];dsimp only;rw[e4];rfl
 | tuple xs =>
   cases e;refine aMi ha hl hh aA s σ H Q I ⟨F,L,S,env,_,_,R,E,?_,q⟩;unfold aFR;rw[e1];dsimp only[yCs];rw[e2];dsimp only;rw[e3];dsimp only;rw[e4];dsimp only[aGu]
 | _=>cases e
theorem aQe{tg a:qw}{fa:FE}(ha:PE X a (aH X.K fa)):PI X tg a (iT X.K (gK fa)):=by
 rintro aA s σ H Rr I ⟨F,L,S,env,ds,S',R,E,e,q⟩;obtain⟨⟨w1,S1⟩,e1,e⟩:=bind_some e;dsimp only at e
 split at e
 ·rename_i ds';cases e;refine aOZ ha aA s σ H Rr I ⟨F,L,S,env,_,_,R,E,?_,q⟩;unfold aGS;rw[e1];rfl
 ·cases e;refine aOz ha aA s σ H Rr I ⟨F,L,S,env,_,_,R,E,?_,q⟩;unfold aGx;rw[e1];rfl
 ·cases e
end
inductive Ty where
 | int | bool | str | lst | tup
 deriving DecidableEq
noncomputable def Ty.s:Ty->String
 | .int => "int" | .bool => "bool" | .str => "str" | .lst => "list" | .tup => "tuple"
noncomputable def Ty.n:Ty->Str
 | .int => "int" | .bool => "bool" | .str => "str" | .lst => "list" | .tup => "tuple"
noncomputable def fP:Ty->D->Option D
 | _,.dict _=>qz
 | .int,.int _=>qq (.bool true)
 | .int,.bool _=>qq (.bool true)
 | .bool,.bool _=>qq (.bool true)
 | .str,.str _=>qq (.bool true)
 | .lst,.list _=>qq (.bool true)
 | .tup,.tuple _=>qq (.bool true)
 | _,_=>qq (.bool false)
theorem aOl{i:Int}:fP .int (.int i)=qq (.bool true):=rfl
theorem aOR{i:Int}:fP .bool (.int i)=qq (.bool false):=rfl
theorem aOW{xs:List D}:fP .tup (.tuple xs)=qq (.bool true):=rfl
theorem aOX{b:Bool}:fP .bool (.bool b)=qq (.bool true):=rfl
theorem aPP{b:Bool}:fP .int (.bool b)=qq (.bool true):=rfl
theorem aMn(K:FrG){ty:Ty}{d z:D}(h:fP ty d=qq z):tR K ty.s d=qq z:=by
 cases ty<;>cases d<;>first | (cases h;done) | (cases h;rfl)
inductive B where
 | len | mx | mn | int | abs | tup | sum | all | any
 deriving DecidableEq
noncomputable def B.g:B->List D->Option D
 | .len=>dA | .mx=>aBZ | .mn=>uA | .int=>tJ | .abs=>aBO | .tup=>sH | .sum=>aBI | .all=>xV | .any=>xK
noncomputable def B.n:B->Str
 | .len => "len" | .mx => "max" | .mn => "min" | .int => "int" | .abs => "abs" | .tup => "tuple" | .sum => "sum" | .all => "all" | .any => "any"
inductive E where
 | var (i:Nat) | int (i:Int) | bl (b:Bool) | non | str (x:Str)
 | bin (op:vz) (a b:E) | un (op:yx) (a:E) | cmp (op:jx) (a b:E) | ltl (a b:E)
 | and (a b:E) | or (a b:E) | not (a:E) | ite (c a b:E)
 | tup (es:E) | lst (es:E) | nil | cons (a r:E)
 | chn (op op':jx) (a b c:E) | con (x:Str) (ts:List Tv)
 | ix (a b:E) | dsp (k l m:Str) (a b c i:E) | tab (x:Str) (aI:List (Str×Tv)) (k:E) | slL (a lo hi:E) | sl (a lo hi:E) | no
 | call (f:Nat) (es:E) | blt (b:B) (es:E) | isi (a:E) (n:Ty) | bits (a:E) | app (o a:E) | pop (o a:E) | idx (o a:E)
 | lof (a:E) | lzip (a b:E) | lrg1 (a:E) | lrg2 (a b:E) | srt (a:E) | lrev (a:E) | lrep (a b:E) | comp (elt:E) (t:Tg) (it:E) (cond:E)
 | it (a:E) | rng1 (a:E) | rng2 (a b:E) | rng3 (a b c:E) | rrng (a:E) | enm (a:E) | zip (a b:E) | zip3 (a b c:E)
 | fz (a:E) | new (a:E)
 | its (a:E) | ins (n:Bool) (a b:E) | st1 (a:E) | itx (a:E) | spl (a b:E) | jn (a b:E) | intb (x:Str) (aI:List (Str×Tv)) (k:E) | gst (x y:Str)
 | sls (a lo hi:E) | srep (a b:E) | ls3 (x:Str) (a b o:E) (y z:Str) (es:E)
abbrev Calls:=Nat->Option (Nat×(List W->aB->Option (W×aB)))
noncomputable def iB(C:Calls)(f:Nat)(fs:FA):FE:=λ env S=>match C f with
 | some (np,call)=>sZ fs np call env S
 | none=>qz
section
variable (C : Calls)
mutual
noncomputable def ev:E->FE
 | .var i=>fH i
 | .int i=>fC (.int i)
 | .bl b=>fC (.bool b)
 | .non=>fC .none
 | .str x=>fC (.str x)
 | .bin op a b=>kE op (ev a) (ev b)
 | .un op a=>yQ op (ev a)
 | .cmp op a b=>kA op (ev a) (ev b)
 | .and a b=>sR (ev a) (ev b)
 | .or a b=>xZ (ev a) (ev b)
 | .not a=>xI (ev a)
 | .ite c a b=>oN (tv c) (ev a) (ev b)
 | .tup es=>tV (av es)
 | .ix a b=>rA (ev a) (ev b)
 | .tab _ aI k=>f1 (ev k) (dM (xL aI))
 | .chn op op' a b c=>kU op op' (ev a) (ev b) (ev c)
 | .con _ ts=>fC (.tuple (ts.map Tv.d))
 | .sl a lo hi=>dL (ev a) (ov lo) (ov hi)
 | .call f es=>iB C f (av es)
 | .blt b es=>qL (av es) b.g
 | .isi a n=>f1 (ev a) (dM (fP n))
 | .app o a=>fX (ev o) (ev a)
 | .fz a=>fQ (lv a)
 | .new a=>fG (lv a)
 | .ins n a b=>kD n (ev a) (ev b)
 | .st1 a=>f1 (ev a) (dM tL)
 | .itx a=>f1 (ev a) (dM tG)
 | .jn a b=>jF (ev a) (ev b)
 | .intb _ aI k=>f1 (ev k) (dM (sQ aI))
 | .gst _ y=>fC (.str y)
 | .sls a lo hi=>xM (ev a) (ov lo) (ov hi)
 | .srep a b=>wW (ev a) (ev b)
 | _=>λ _ _=>qz
noncomputable def tv:E->FT
 | .and a b=>xO (tv a) (tv b)
 | .or a b=>yM (tv a) (tv b)
 | .not a=>xU (tv a)
 | .var i=>cG (fH i)
 | .cmp op a b=>cG (kA op (ev a) (ev b))
 | .chn op op' a b c=>cG (kU op op' (ev a) (ev b) (ev c))
 | .ix a b=>cG (rA (ev a) (ev b))
 | .call f es=>cG (iB C f (av es))
 | .blt b es=>cG (qL (av es) b.g)
 | .isi a n=>cG (f1 (ev a) (dM (fP n)))
 | .bin op a b=>cG (kE op (ev a) (ev b))
 | .bl b=>cG (fC (.bool b))
 | .no=>oO
 | .ins n a b=>cG (kD n (ev a) (ev b))
 | _=>λ _ _=>qz
noncomputable def av:E->FA
 | .nil=>fO
 | .cons a r=>cB (ev a) (av r)
 | _=>λ _ _=>qz
noncomputable def ov:E->FO
 | .no=>dS
 | .cons a .nil=>cY (ev a)
 | _=>λ _ _=>qz
noncomputable def lv:E->FL
 | .lst es=>jB (av es)
 | .lof a=>xR (ev a)
 | .comp elt t it cond=>gG t (lv it) (tv cond) (ev elt)
 | .it a=>gK (ev a)
 | .rng1 a=>tB (ev a)
 | .enm a=>sM (ev a)
 | .its a=>qK (ev a)
 | .spl a b=>mU (ev a) (ev b)
 | .ls3 x a b o y z es=>jB (cB (kE .Add (fC (.str x)) (ev a)) (cB (ev b) (cB (xQ (ev o) y z) (av es))))
 | _=>λ _ _=>qz
end
inductive Sx where
 | skip | seq (a b:Sx) | expr (e:E) | ret (e:E)
 | ifs (c:E) (a b:Sx) | set (i:Nat) (e:E) | setC (nw:Bool) (i:Nat) (e:E) | setT (t:Tg) (e:E) | put (o i e:E)
 | loop (t:Tg) (it:E) (b:Sx)
noncomputable def xs:Sx->FS
 | .skip=>nU
 | .seq a b=>cM (xs a) (xs b)
 | .expr e=>tF (ev C e)
 | .ret e=>mR (ev C e)
 | .ifs c a b=>nC (tv C c) (xs a) (xs b)
 | .set i e=>dJ i (ev C e)
 | .setC nw i e=>dJ i (match nw with | true=>fG (lv C e) | false=>fQ (lv C e))
 | .setT t e=>qD t (ev C e)
 | .put o i e=>mQ (ev C o) (ev C i) (ev C e)
 | .loop t it b=>iN t (lv C it) (xs b)
theorem aM4{i}:ev C (.var i)=fH i:=rfl
theorem aNW{i}:ev C (.int i)=fC (.int i):=rfl
theorem aOK{b}:ev C (.bl b)=fC (.bool b):=rfl
theorem aNA:ev C .non=fC .none:=rfl
theorem aMt{x}:ev C (.str x)=fC (.str x):=rfl
theorem aNY{op a b}:ev C (.bin op a b)=kE op (ev C a) (ev C b):=rfl
theorem aPF{op a}:ev C (.un op a)=yQ op (ev C a):=rfl
theorem aNS{op a b}:ev C (.cmp op a b)=kA op (ev C a) (ev C b):=rfl
theorem aM3{a b}:ev C (.and a b)=sR (ev C a) (ev C b):=rfl
theorem aOi{a b}:ev C (.or a b)=xZ (ev C a) (ev C b):=rfl
theorem aNm{a}:ev C (.not a)=xI (ev C a):=rfl
theorem aNN{c a b}:ev C (.ite c a b)=oN (tv C c) (ev C a) (ev C b):=rfl
theorem aNj{es}:ev C (.tup es)=tV (av C es):=rfl
theorem aOg{a b}:ev C (.ix a b)=rA (ev C a) (ev C b):=rfl
theorem aN1{n0 aI k}:ev C (.tab n0 aI k)=f1 (ev C k) (dM (xL aI)):=rfl
theorem aNa{op op' a b c}:ev C (.chn op op' a b c)=kU op op' (ev C a) (ev C b) (ev C c):=rfl
theorem aNg{n0 ts}:ev C (.con n0 ts)=fC (.tuple (ts.map Tv.d)):=rfl
theorem aFK{a lo hi}:ev C (.sl a lo hi)=dL (ev C a) (ov C lo) (ov C hi):=rfl
theorem aKC{f es}:ev C (.call f es)=iB C f (av C es):=rfl
theorem aMB{b es}:ev C (.blt b es)=qL (av C es) b.g:=rfl
theorem aMm{a n}:ev C (.isi a n)=f1 (ev C a) (dM (fP n)):=rfl
theorem aNh{o a}:ev C (.app o a)=fX (ev C o) (ev C a):=rfl
theorem aPH{a}:ev C (.fz a)=fQ (lv C a):=rfl
theorem aLG{a}:ev C (.new a)=fG (lv C a):=rfl
theorem aN9{n a b}:ev C (.ins n a b)=kD n (ev C a) (ev C b):=rfl
theorem aOb{a}:ev C (.st1 a)=f1 (ev C a) (dM tL):=rfl
theorem aLQ{a}:ev C (.itx a)=f1 (ev C a) (dM tG):=rfl
theorem aOh{a b}:ev C (.jn a b)=jF (ev C a) (ev C b):=rfl
theorem aKA{n0 aI k}:ev C (.intb n0 aI k)=f1 (ev C k) (dM (sQ aI)):=rfl
theorem aLV{n0 y}:ev C (.gst n0 y)=fC (.str y):=rfl
theorem aNl{a lo hi}:ev C (.sls a lo hi)=xM (ev C a) (ov C lo) (ov C hi):=rfl
theorem aLo{a b}:ev C (.srep a b)=wW (ev C a) (ev C b):=rfl
theorem aM7{x a b o y z es}:lv C (.ls3 x a b o y z es)=jB (cB (kE .Add (fC (.str x)) (ev C a)) (cB (ev C b) (cB (xQ (ev C o) y z) (av C es)))):=rfl
theorem aNb{n a b}:tv C (.ins n a b)=cG (kD n (ev C a) (ev C b)):=rfl
theorem aM1{a}:lv C (.its a)=qK (ev C a):=rfl
theorem aLM{a b}:lv C (.spl a b)=mU (ev C a) (ev C b):=rfl
theorem aNZ{a b}:tv C (.and a b)=xO (tv C a) (tv C b):=rfl
theorem aOG{a b}:tv C (.or a b)=yM (tv C a) (tv C b):=rfl
theorem aLW{a}:tv C (.not a)=xU (tv C a):=rfl
theorem aNu{i}:tv C (.var i)=cG (fH i):=rfl
theorem aMC{op a b}:tv C (.cmp op a b)=cG (kA op (ev C a) (ev C b)):=rfl
theorem aLR{op op' a b c}:tv C (.chn op op' a b c)=cG (kU op op' (ev C a) (ev C b) (ev C c)):=rfl
theorem aPn{a b}:tv C (.ix a b)=cG (rA (ev C a) (ev C b)):=rfl
theorem aKv{f es}:tv C (.call f es)=cG (iB C f (av C es)):=rfl
theorem aMO{b es}:tv C (.blt b es)=cG (qL (av C es) b.g):=rfl
theorem aOa{a n}:tv C (.isi a n)=cG (f1 (ev C a) (dM (fP n))):=rfl
theorem aN2{op a b}:tv C (.bin op a b)=cG (kE op (ev C a) (ev C b)):=rfl
theorem aPO{b}:tv C (.bl b)=cG (fC (.bool b)):=rfl
theorem aPm:tv C .no=oO:=rfl
theorem aOd:av C .nil=fO:=rfl
theorem aKE{a r}:av C (.cons a r)=cB (ev C a) (av C r):=rfl
theorem aPN:ov C .no=dS:=rfl
theorem aKq{a}:ov C (.cons a .nil)=cY (ev C a):=rfl
theorem aMA{es}:lv C (.lst es)=jB (av C es):=rfl
theorem aMo{a}:lv C (.lof a)=xR (ev C a):=rfl
theorem aKK{elt t it cond}:lv C (.comp elt t it cond)=gG t (lv C it) (tv C cond) (ev C elt):=rfl
theorem wU{a}:lv C (.it a)=gK (ev C a):=rfl
theorem pM{a}:lv C (.rng1 a)=tB (ev C a):=rfl
theorem pT{a}:lv C (.enm a)=sM (ev C a):=rfl
theorem aEp:xs C .skip=nU:=rfl
theorem nO{a b}:xs C (.seq a b)=cM (xs C a) (xs C b):=rfl
theorem aLn{e}:xs C (.expr e)=tF (ev C e):=rfl
theorem aFD{e}:xs C (.ret e)=mR (ev C e):=rfl
theorem sJ{c a b}:xs C (.ifs c a b)=nC (tv C c) (xs C a) (xs C b):=rfl
theorem nM{i e}:xs C (.set i e)=dJ i (ev C e):=rfl
theorem aAN{nw i e}:xs C (.setC nw i e)=dJ i (match nw with | true=>fG (lv C e) | false=>fQ (lv C e)):=rfl
theorem aKt{t e}:xs C (.setT t e)=qD t (ev C e):=rfl
theorem aFw{o i e}:xs C (.put o i e)=mQ (ev C o) (ev C i) (ev C e):=rfl
theorem aLB{t it b}:xs C (.loop t it b)=iN t (lv C it) (xs C b):=rfl
end
theorem no{P:Prop}(h:false=true):P:=by cases h
theorem bV{a b:Bool}(h:(a&&b)=true):a=true/\b=true:=by
 cases a with
 | false=>exact no h
 | true=>exact⟨rfl,h⟩
theorem aL{a b:Bool}(h:(a&&b)=true):a=true:=(bV h).1
theorem aR{a b:Bool}(h:(a&&b)=true):b=true:=(bV h).2
theorem dW{c:Prop}{d:Decidable c}{f:c->Bool}(h:(@dite _ c d f λ _=>false)=true):c:=by
 cases d with
 | isTrue k=>exact k
 | isFalse _=>exact no h
noncomputable def eJ(k:Str->Pos->Bool)(x:qw):Bool:=if h:x.ctorIdx=23 then @Expr.Name.elim (λ _=>Bool) x h k else false
theorem eR{P:qw->Prop}{k:Str->Pos->Bool}{x:qw}(h:eJ k x=true)(g:∀ a b,k a b=true->P (.Name a b)):P x:=@Expr.Name.elim (λ e=>eJ k e=true->P e) x (dW h) g h
noncomputable def kCo(k:Const->Nat->Pos->Bool)(x:qw):Bool:=if h:x.ctorIdx=19 then @Expr.Constant.elim (λ _=>Bool) x h k else false
theorem aQC{P:qw->Prop}{k:Const->Nat->Pos->Bool}{x:qw}(h:kCo k x=true)(g:∀ a b c,k a b c=true->P (.Constant a b c)):P x:=@Expr.Constant.elim (λ e=>kCo k e=true->P e) x (dW h) g h
noncomputable def oX(k:qw->vz->qw->Pos->Bool)(x:qw):Bool:=if h:x.ctorIdx=2 then @Expr.BinOp.elim (λ _=>Bool) x h k else false
theorem xW{P:qw->Prop}{k:qw->vz->qw->Pos->Bool}{x:qw}(h:oX k x=true)(g:∀ a b c d,k a b c d=true->P (.BinOp a b c d)):P x:=@Expr.BinOp.elim (λ e=>oX k e=true->P e) x (dW h) g h
noncomputable def uM(k:yx->qw->Pos->Bool)(x:qw):Bool:=if h:x.ctorIdx=3 then @Expr.UnaryOp.elim (λ _=>Bool) x h k else false
theorem aBG{P:qw->Prop}{k:yx->qw->Pos->Bool}{x:qw}(h:uM k x=true)(g:∀ a b c,k a b c=true->P (.UnaryOp a b c)):P x:=@Expr.UnaryOp.elim (λ e=>uM k e=true->P e) x (dW h) g h
noncomputable def zC(k:qw->List jx->List qw->Pos->Bool)(x:qw):Bool:=if h:x.ctorIdx=15 then @Expr.Compare.elim (λ _=>Bool) x h k else false
theorem aGn{P:qw->Prop}{k:qw->List jx->List qw->Pos->Bool}{x:qw}(h:zC k x=true)(g:∀ a b c d,k a b c d=true->P (.Compare a b c d)):P x:=@Expr.Compare.elim (λ e=>zC k e=true->P e) x (dW h) g h
noncomputable def kBo(k:BoolOp->List qw->Pos->Bool)(x:qw):Bool:=if h:x.ctorIdx=0 then @Expr.BoolOp.elim (λ _=>Bool) x h k else false
theorem aQE{P:qw->Prop}{k:BoolOp->List qw->Pos->Bool}{x:qw}(h:kBo k x=true)(g:∀ a b c,k a b c=true->P (.BoolOp a b c)):P x:=@Expr.BoolOp.elim (λ e=>kBo k e=true->P e) x (dW h) g h
noncomputable def kIe(k:qw->qw->qw->Pos->Bool)(x:qw):Bool:=if h:x.ctorIdx=5 then @Expr.IfExp.elim (λ _=>Bool) x h k else false
theorem aQG{P:qw->Prop}{k:qw->qw->qw->Pos->Bool}{x:qw}(h:kIe k x=true)(g:∀ a b c d,k a b c d=true->P (.IfExp a b c d)):P x:=@Expr.IfExp.elim (λ e=>kIe k e=true->P e) x (dW h) g h
noncomputable def mY(k:List qw->Nat->Pos->Bool)(x:qw):Bool:=if h:x.ctorIdx=25 then @Expr.Tuple.elim (λ _=>Bool) x h k else false
theorem oR{P:qw->Prop}{k:List qw->Nat->Pos->Bool}{x:qw}(h:mY k x=true)(g:∀ a b c,k a b c=true->P (.Tuple a b c)):P x:=@Expr.Tuple.elim (λ e=>mY k e=true->P e) x (dW h) g h
noncomputable def oS(k:List qw->Pos->Bool)(x:qw):Bool:=if h:x.ctorIdx=24 then @Expr.List.elim (λ _=>Bool) x h k else false
theorem tM{P:qw->Prop}{k:List qw->Pos->Bool}{x:qw}(h:oS k x=true)(g:∀ a b,k a b=true->P (.List a b)):P x:=@Expr.List.elim (λ e=>oS k e=true->P e) x (dW h) g h
noncomputable def yR(k:qw->qw->Pos->Bool)(x:qw):Bool:=if h:x.ctorIdx=21 then @Expr.Subscript.elim (λ _=>Bool) x h k else false
theorem aGp{P:qw->Prop}{k:qw->qw->Pos->Bool}{x:qw}(h:yR k x=true)(g:∀ a b c,k a b c=true->P (.Subscript a b c)):P x:=@Expr.Subscript.elim (λ e=>yR k e=true->P e) x (dW h) g h
noncomputable def kSl(k:Option qw->Option qw->Option qw->Pos->Bool)(x:qw):Bool:=if h:x.ctorIdx=26 then @Expr.Slice.elim (λ _=>Bool) x h k else false
theorem aQp{P:qw->Prop}{k:Option qw->Option qw->Option qw->Pos->Bool}{x:qw}(h:kSl k x=true)(g:∀ a b c d,k a b c d=true->P (.Slice a b c d)):P x:=@Expr.Slice.elim (λ e=>kSl k e=true->P e) x (dW h) g h
noncomputable def yT(k:qw->List qw->List Keyword->Pos->Bool)(x:qw):Bool:=if h:x.ctorIdx=16 then @Expr.Call.elim (λ _=>Bool) x h k else false
theorem aGz{P:qw->Prop}{k:qw->List qw->List Keyword->Pos->Bool}{x:qw}(h:yT k x=true)(g:∀ a b c d,k a b c d=true->P (.Call a b c d)):P x:=@Expr.Call.elim (λ e=>yT k e=true->P e) x (dW h) g h
noncomputable def yU(k:qw->Str->Pos->Bool)(x:qw):Bool:=if h:x.ctorIdx=20 then @Expr.Attribute.elim (λ _=>Bool) x h k else false
theorem aGs{P:qw->Prop}{k:qw->Str->Pos->Bool}{x:qw}(h:yU k x=true)(g:∀ a b c,k a b c=true->P (.Attribute a b c)):P x:=@Expr.Attribute.elim (λ e=>yU k e=true->P e) x (dW h) g h
noncomputable def kLc(k:qw->List Comprehension->zw->Pos->Bool)(x:qw):Bool:=if h:x.ctorIdx=8 then @Expr.ListComp.elim (λ _=>Bool) x h k else false
theorem aQi{P:qw->Prop}{k:qw->List Comprehension->zw->Pos->Bool}{x:qw}(h:kLc k x=true)(g:∀ a b c d,k a b c d=true->P (.ListComp a b c d)):P x:=@Expr.ListComp.elim (λ e=>kLc k e=true->P e) x (dW h) g h
noncomputable def uU(k:qw->Pos->Bool)(x:zy):Bool:=if h:x.ctorIdx=24 then @Stmt.Expr.elim (λ _=>Bool) x h k else false
theorem aB2{P:zy->Prop}{k:qw->Pos->Bool}{x:zy}(h:uU k x=true)(g:∀ a b,k a b=true->P (.Expr a b)):P x:=@Stmt.Expr.elim (λ e=>uU k e=true->P e) x (dW h) g h
noncomputable def yZ(k:Option qw->Pos->Bool)(x:zy):Bool:=if h:x.ctorIdx=3 then @Stmt.Return.elim (λ _=>Bool) x h k else false
theorem aGQ{P:zy->Prop}{k:Option qw->Pos->Bool}{x:zy}(h:yZ k x=true)(g:∀ a b,k a b=true->P (.Return a b)):P x:=@Stmt.Return.elim (λ e=>yZ k e=true->P e) x (dW h) g h
noncomputable def zA(k:qw->List zy->List zy->Pos->Bool)(x:zy):Bool:=if h:x.ctorIdx=12 then @Stmt.If.elim (λ _=>Bool) x h k else false
theorem aGO{P:zy->Prop}{k:qw->List zy->List zy->Pos->Bool}{x:zy}(h:zA k x=true)(g:∀ a b c d,k a b c d=true->P (.If a b c d)):P x:=@Stmt.If.elim (λ e=>zA k e=true->P e) x (dW h) g h
noncomputable def hJ(k:List qw->qw->Pos->Bool)(x:zy):Bool:=if h:x.ctorIdx=5 then @Stmt.Assign.elim (λ _=>Bool) x h k else false
theorem jD{P:zy->Prop}{k:List qw->qw->Pos->Bool}{x:zy}(h:hJ k x=true)(g:∀ a b c,k a b c=true->P (.Assign a b c)):P x:=@Stmt.Assign.elim (λ e=>hJ k e=true->P e) x (dW h) g h
noncomputable def zG(k:qw->qw->List zy->List zy->Pos->Bool)(x:zy):Bool:=if h:x.ctorIdx=9 then @Stmt.For.elim (λ _=>Bool) x h k else false
theorem aGK{P:zy->Prop}{k:qw->qw->List zy->List zy->Pos->Bool}{x:zy}(h:zG k x=true)(g:∀ a b c d e,k a b c d e=true->P (.For a b c d e)):P x:=@Stmt.For.elim (λ e=>zG k e=true->P e) x (dW h) g h
noncomputable def gI{α:Type}(k:α->Bool)(l:List α):Bool:=match l with
 | [a]=>k a
 | _=>false
theorem fS{α:Type}{P:List α->Prop}{k:α->Bool}:∀ {l:List α},gI k l=true->(∀ a,k a=true->P [a])->P l
 | [],h,_=>no h
 | [a],h,g=>g a h
 | _::_::_,h,_=>no h
noncomputable def qI{α:Type}(k:α->α->Bool)(l:List α):Bool:=match l with
 | a::r=>gI (k a) r
 | []=>false
theorem sX{α:Type}{P:List α->Prop}{k:α->α->Bool}:∀ {l:List α},qI k l=true->(∀ a b,k a b=true->P [a,b])->P l
 | [],h,_=>no h
 | a::_,h,g=>fS (P:=λ r=>P (a::r)) h (g a)
noncomputable def aGA{α:Type}(k:α->α->α->Bool)(l:List α):Bool:=match l with
 | a::r=>qI (k a) r
 | []=>false
theorem aOA{α:Type}{P:List α->Prop}{k:α->α->α->Bool}:∀ {l:List α},aGA k l=true->(∀ a b c,k a b c=true->P [a,b,c])->P l
 | [],h,_=>no h
 | a::_,h,g=>sX (P:=λ r=>P (a::r)) h (g a)
theorem eP{α:Type}{P:List α->Prop}:∀ {l:List α},l.isEmpty=true->P []->P l
 | [],_,g=>g
 | _::_,h,_=>no h
noncomputable def uC{α:Type}(o:Option α):Bool:=match o with
 | none=>true
 | some _=>false
theorem xG{α:Type}{P:Option α->Prop}:∀ {o:Option α},uC o=true->P qz->P o
 | none,_,g=>g
 | some _,h,_=>no h
theorem qC{α:Type}{P:Option α->Prop}{k:α->Bool}:∀ {o:Option α},o.any k=true->(∀ a,k a=true->P (qq a))->P o
 | none,h,_=>no h
 | some a,h,g=>g a h
theorem dT{p:Prop}{d:Decidable p}(h:decide p=true):p:=oqT h
noncomputable def iP(sc:zw)(x:Str):Bool:=match sc.names.lookup x with
 | some .local=>true | some .cell=>true | some .free=>true | _=>false
noncomputable def loc(sc:zw)(x:Str):Bool:=match sc.names.lookup x with
 | some .local=>true | some .cell=>true | _=>false
noncomputable def aF5(e:E):Bool:=decide (e.ctorIdx=E.nil.ctorIdx)
theorem aP8{P:E->Prop}{e:E}(h:aF5 e=true)(g:P .nil):P e:=@E.nil.elim P e (dT h) g
theorem aJs{α:Type}{o:Option α}{p:α->Bool}(h:o.any p=true):∃ a,o=qq a/\p a=true:=by
 cases o with
 | none=>cases h
 | some a=>exact⟨a,rfl,h⟩
noncomputable def lo(sc:zw)(x:Str):Bool:=decide (sc.names.lookup x=qq .local)
noncomputable def gl(sc:zw)(x:Str):Bool:=decide (sc.names.lookup x=qq .globalImplicit)
noncomputable def bR(e:qw):Bool:=![7,22,26].contains e.ctorIdx
noncomputable def kL(e:qw):Bool:=![0,3,5,15].contains e.ctorIdx
noncomputable def wG(e:qw):Bool:=![16].contains e.ctorIdx
noncomputable def eZ(e:qw):Bool:=![8,9,10].contains e.ctorIdx
noncomputable def wY(e:qw):Bool:=mY (λ _ _ _=>true) e
noncomputable def kQ:List qw->Bool
 | []=>true
 | e::r=>bR e&&kQ r
noncomputable def oJ(scope osc:zw):zw:={scope with names:=scope.names.map λ(n,k)=>if (k==.free&&osc.kind==.function&&osc.names.lookup n==qq .cell) then (n,.cell) else (n,k) }
noncomputable def aBn(scope osc:zw):Bool:=decide (scope.kind=.function)&&scope.names.all λ x=>(!decide (x.2=.cell))&&(!decide (x.2=.free)||decide (osc.names.lookup x.1=qq .cell)||decide (osc.names.lookup x.1=qq .free))&&(!decide (x.2=.local)||decide (scope.names.lookup x.1=qq .local))
noncomputable def xN(N:List Str)(scope:zw)(is:List Nat):Nat->Bool
 | 0=>true
 | n+1=>xN N scope is n&&(match N[n]? with
   | some x=>!decide (scope.names.lookup x=qq .local)||is.contains n
   | none=>true)
noncomputable def aBe(b:Bool)(N:List Str)(sc:zw)(i:Nat)(x:Str):Bool:=decide (N[i]? = qq x)&&(match b with
 | true=>decide (sc.names.lookup x=qq .local)
 | false=>loc sc x)
noncomputable def aAS(b:Bool)(N:List Str)(sc:zw):List Nat->List qw->Bool
 | [],es=>es.isEmpty
 | i::is,es=>(match es with
   | e::r=>eJ (λ x _=>aBe b N sc i x&&aAS b N sc is r) e
   | []=>false)
noncomputable def qN(b:Bool)(N:List Str)(sc:zw)(t:Tg)(e:qw):Bool:=match t with
 | .one i=>eJ (λ x _=>aBe b N sc i x) e
 | .many is=>mY (λ es _ _=>aAS b N sc is es) e
noncomputable def aEP(e:E):Bool:=decide (e.ctorIdx=(E.comp .no (.one 0) .no .no).ctorIdx)
theorem aQK{P:E->Prop}{e:E}(h:aEP e=true)(g:∀ a t b c,P (.comp a t b c)):P e:=@E.comp.elim P e (dT h) g
noncomputable def aBT(e:E):Bool:=decide (e.ctorIdx=E.no.ctorIdx)
theorem aGq{P:E->Prop}{e:E}(h:aBT e=true)(g:P .no):P e:=@E.no.elim P e (dT h) g
noncomputable def gY(c:Const)(e:qw):Bool:=kCo (λ d _ _=>decide (d=c)) e
theorem iZ{P:qw->Prop}{c:Const}{x:qw}(h:gY c x=true)(g:∀ k p,P (.Constant c k p)):P x:=
 aQC h λ _ k p z=>(dT z)▸g k p
noncomputable def oQ(k:qw->jx->qw->Bool)(e:qw):Bool:=zC (λ x os ys _=>gI (λ o=>gI (λ y=>k x o y&&bR y) ys) os) e
theorem qE{P:qw->Prop}{k:qw->jx->qw->Bool}{x:qw}(h:oQ k x=true)(g:∀ a o b p,k a o b=true->bR b=true->P (.Compare a [o] [b] p)):P x:=
 aGn h λ a os _ p z=>fS (P:=λ os=>P (.Compare a os _ p)) z λ o z=>fS (P:=λ ys=>P (.Compare a [o] ys p)) z λ b z=>g a o b p (aL z) (aR z)
noncomputable def aBM(k:qw->jx->qw->jx->qw->Bool)(e:qw):Bool:=zC (λ x os ys _=>qI (λ o o'=>qI (λ y z=>k x o y o' z&&bR z) ys) os) e
theorem aFP{P:qw->Prop}{k:qw->jx->qw->jx->qw->Bool}{x:qw}(h:aBM k x=true)(g:∀ a o b o' c p,k a o b o' c=true->bR c=true->P (.Compare a [o,o'] [b,c] p)):P x:=
 aGn h λ a os _ p z=>sX (P:=λ os=>P (.Compare a os _ p)) z λ o o' z=>sX (P:=λ ys=>P (.Compare a [o,o'] ys p)) z λ b c z=>g a o b o' c p (aL z) (aR z)
noncomputable def qB(op:BoolOp)(k:qw->qw->Bool)(e:qw):Bool:=kBo (λ o es p=>decide (o=op)&&(match es with
 | [x,y]=>k x y
 | x::y::z::r=>k x (.BoolOp op (y::z::r) p)
 | _=>false)) e
theorem sC{P:qw->Prop}{op:BoolOp}{k:qw->qw->Bool}{x:qw}(h:qB op k x=true)(g:∀ a b p,k a b=true->P (.BoolOp op [a,b] p))(f:∀ a b c r p,k a (.BoolOp op (b::c::r) p)=true->P (.BoolOp op (a::b::c::r) p)):P x:=
 aQE h λ o es p z=>by
  obtain rfl:=dT (aL z)
  match es,aR z with
  | [a,b],z=>exact g a b p z
  | a::b::c::r,z=>exact f a b c r p z
  | [],z=>exact no z
  | [_],z=>exact no z
noncomputable def uL(k:qw->qw->Bool)(e:qw):Bool:=yR (λ x y _=>k x y&&bR y) e
theorem aBU{P:qw->Prop}{k:qw->qw->Bool}{x:qw}(h:uL k x=true)(g:∀ a b p,k a b=true->bR b=true->P (.Subscript a b p)):P x:=aGp h λ a b p z=>g a b p (aL z) (aR z)
noncomputable def aBV(k:qw->Option qw->Option qw->Bool)(e:qw):Bool:=yR (λ x s _=>kSl (λ l h t _=>uC t&&k x l h) s) e
theorem aFH{P:qw->Prop}{k:qw->Option qw->Option qw->Bool}{x:qw}(h:aBV k x=true)(g:∀ a l u p q,k a l u=true->P (.Subscript a (.Slice l u qz p) q)):P x:=
 aGp h λ a _ q z=>aQp (P:=λ s=>P (.Subscript a s q)) z λ l u _ p z=>xG (P:=λ t=>P (.Subscript a (.Slice l u t p) q)) (aL z) (g a l u p q (aR z))
noncomputable def iD(k:Str->List qw->Bool)(e:qw):Bool:=yT (λ f xs ks _=>eJ (λ n _=>ks.isEmpty&&k n xs) f) e
theorem kZ{P:qw->Prop}{k:Str->List qw->Bool}{x:qw}(h:iD k x=true)(g:∀ n p xs q,k n xs=true->P (.Call (.Name n p) xs [] q)):P x:=
 aGz h λ _ xs ks q z=>eR (P:=λ f=>P (.Call f xs ks q)) z λ n p z=>eP (P:=λ ks=>P (.Call (.Name n p) xs ks q)) (aL z) (g n p xs q (aR z))
noncomputable def qT(nm:Str)(sc:zw)(k:qw->Bool)(e:qw):Bool:=iD (λ n xs=>decide (n=nm)&&gl sc n&&gI (λ y=>k y&&bR y) xs) e
theorem tU{P:qw->Prop}{nm:Str}{sc:zw}{k:qw->Bool}{x:qw}(h:qT nm sc k x=true)(g:∀ p y q,gl sc nm=true->k y=true->bR y=true->P (.Call (.Name nm p) [y] [] q)):P x:=
 kZ h λ n p xs q z=>by
  obtain rfl:=dT (aL (aL z));exact fS (P:=λ xs=>P (.Call (.Name n p) xs [] q)) (aR z) λ y u=>g p y q (aR (aL z)) (aL u) (aR u)
noncomputable def qZ(nm:Str)(sc:zw)(k l:qw->Bool)(e:qw):Bool:=iD (λ n xs=>decide (n=nm)&&gl sc n&&qI (λ y z=>(k y&&bR y)&&(l z&&bR z)) xs) e
theorem xT{P:qw->Prop}{nm:Str}{sc:zw}{k l:qw->Bool}{x:qw}(h:qZ nm sc k l x=true)(g:∀ p y z q,gl sc nm=true->k y=true->bR y=true->l z=true->bR z=true->P (.Call (.Name nm p) [y,z] [] q)):P x:=
 kZ h λ n p xs q z=>by
  obtain rfl:=dT (aL (aL z));exact sX (P:=λ xs=>P (.Call (.Name n p) xs [] q)) (aR z) λ y w u=>g p y w q (aR (aL z)) (aL (aL u)) (aR (aL u)) (aL (aR u)) (aR (aR u))
noncomputable def kMe(nm:Str)(k:qw->List qw->Bool)(e:qw):Bool:=yT (λ f xs ks cp=>yU (λ o m ap=>ks.isEmpty&&(ap.endLine==cp.line)&&decide (m=nm)&&wG o&&k o xs) f) e
theorem aGW{P:qw->Prop}{nm:Str}{k:qw->List qw->Bool}{x:qw}(h:kMe nm k x=true)(g:∀ o ap xs cp,(ap.endLine==cp.line)=true->wG o=true->k o xs=true->P (.Call (.Attribute o nm ap) xs [] cp)):P x:=
 aGz h λ _ xs ks cp z=>aGs (P:=λ f=>P (.Call f xs ks cp)) z λ o m ap z=>by
  obtain rfl:=dT (aR (aL (aL z)));exact eP (P:=λ ks=>P (.Call (.Attribute o m ap) xs ks cp)) (aL (aL (aL (aL z)))) (g o ap xs cp (aR (aL (aL (aL z)))) (aR (aL z)) (aR z))
noncomputable def tI(nm:Str)(k l:qw->Bool)(e:qw):Bool:=kMe nm (λ o xs=>k o&&gI (λ y=>l y&&bR y) xs) e
theorem wT{P:qw->Prop}{nm:Str}{k l:qw->Bool}{x:qw}(h:tI nm k l x=true)(g:∀ o ap y cp,(ap.endLine==cp.line)=true->wG o=true->k o=true->l y=true->bR y=true->P (.Call (.Attribute o nm ap) [y] [] cp)):P x:=
 aGW h λ o ap xs cp h1 h2 z=>fS (P:=λ xs=>P (.Call (.Attribute o nm ap) xs [] cp)) (aR z) λ y u=>g o ap y cp h1 h2 (aL z) (aL u) (aR u)
noncomputable def aGb(k:qw->qw->qw->List qw->zw->Bool)(e:qw):Bool:=kLc (λ el gs sc _=>gI (λ g=>decide (g.is_async=0)&&k el g.target g.iter g.ifs sc) gs) e
theorem aNG{P:qw->Prop}{k:qw->qw->qw->List qw->zw->Bool}{x:qw}(h:aGb k x=true)(g:∀ e tg it ifs sc p,k e tg it ifs sc=true->P (.ListComp e [⟨tg,it,ifs,0⟩] sc p)):P x:=
 aQi h λ e _ sc p z=>fS (P:=λ gs=>P (.ListComp e gs sc p)) z λ aJ z=>by
  obtain⟨tg,it,ifs,as⟩:=aJ;obtain rfl:as=0:=dT (aL z);exact g e tg it ifs sc p (aR z)
noncomputable def aBQ(N:List Str)(t:Tg)(cond:E)(sc:zw)(fI:qw->qw->Bool)(fT fE:zw->qw->Bool)(x:qw):Bool:=aGb (λ e tg iter ifs scope=>aBn scope sc&&xN N scope t.slots N.length&&qN true N (oJ scope sc) t tg&&fI tg iter&&bR iter &&
 (match ifs with | []=>aBT cond | y::r=>r.isEmpty&&fT (oJ scope sc) y)&&fE (oJ scope sc) e) x
theorem aB4{P:qw->Prop}{N:List Str}{t:Tg}{cond:E}{sc:zw}{fI:qw->qw->Bool}{fT fE:zw->qw->Bool}{x:qw}(h:aBQ N t cond sc fI fT fE x=true)(g:∀ e tg iter ifs scope p,aBn scope sc=true->xN N scope t.slots N.length=true->qN true N (oJ scope sc) t tg=true->fI tg iter=true->bR iter=true->(match ifs with | []=>aBT cond | y::r=>r.isEmpty&&fT (oJ scope sc) y)=true->fE (oJ scope sc) e=true->P (.ListComp e [⟨tg,iter,ifs,0⟩] scope p)):P x:=
 aNG h λ e tg iter ifs scope p h=>g e tg iter ifs scope p (aL (aL (aL (aL (aL (aL h)))))) (aR (aL (aL (aL (aL (aL h)))))) (aR (aL (aL (aL (aL h))))) (aR (aL (aL (aL h)))) (aR (aL (aL h))) (aR (aL h)) (aR h)
structure Tx where
 fn:List (Str×Nat)
 tb:List (Str×List (Str×Tv))
 cn:List (Str×List Tv)
 st:List (Str×Str)
section
variable (T : Tx)(N : List Str)
mutual
noncomputable def aX:E->zw->qw->Bool
 | .var i,sc,x=>eJ (λ x _=>decide (N[i]? = qq x)&&iP sc x && !(x==("__debug__" : Str)) && !(x==("__classdict__" : Str))) x
 | .int i,_,x=>gY (.int i) x
 | .bl i,_,x=>gY (.bool i) x
 | .non,_,x=>gY .none x
 | .str i,_,x=>gY (.str i) x
 | .bin op a b,sc,x=>oX (λ x op' y _=>decide (op'=op)&&aX a sc x&&aX b sc y) x
 | .un op a,sc,x=>uM (λ op' x _=>decide (op'=op) && !decide (op=.Not)&&aX a sc x) x
 | .cmp op a b,sc,x=>oQ (λ x op' y=>decide (op'=op)&&aX a sc x&&aX b sc y) x
 | .and a b,sc,x=>qB .And (λ x y=>aX a sc x&&aX b sc y) x
 | .or a b,sc,x=>qB .Or (λ x y=>aX a sc x&&aX b sc y) x
 | .not a,sc,x=>uM (λ o x _=>decide (o=.Not)&&aX a sc x) x
 | .ite c a b,sc,x=>kIe (λ x y z _=>jJ c sc x&&aX a sc y&&aX b sc z) x
 | .tup es,sc,x=>mY (λ xs _ _=>jI es sc xs) x
 | .ix a b,sc,x=>uL (λ x y=>aX a sc x&&aX b sc y) x
 | .chn op op' a b c,sc,x=>aBM (λ x o y o' z=>decide (o=op)&&decide (o'=op')&&aX a sc x&&aX b sc y&&aX c sc z) x
 | .con n ts,sc,x=>eJ (λ x _=>decide (x=n)&&T.cn.contains (n,ts)&&gl sc x && !(x==("__debug__" : Str))) x
 | .tab n aI k,sc,x=>uL (λ x y=>aX k sc y&&eJ (λ x _=>decide (x=n)&&T.tb.contains (n,aI)&&gl sc x && !(x==("__debug__" : Str))) x) x
 | .sl a lo hi,sc,x=>aBV (λ x l h=>aX a sc x&&uK lo sc l&&uK hi sc h) x
 | .call f es,sc,x=>iD (λ x xs=>decide ((T.fn[f]?).map (·.1)=qq x)&&gl sc x && !(x==("__debug__" : Str))&&jI es sc xs&&kQ xs) x
 | .blt b es,sc,x=>iD (λ x ys=>!ys.isEmpty&&decide (x=b.n)&&gl sc x&&jI es sc ys&&kQ ys) x
 | .isi a n,sc,x=>qZ "isinstance" sc (λ y=>aX a sc y) (λ z=>eJ (λ z _=>decide (z=n.n)&&gl sc z) z) x
 | .app o a,sc,x=>tI "append" (λ x=>aX o sc x) (λ y=>aX a sc y) x
 | .fz a,sc,e=>uR a sc e
 | .new a,sc,e=>uR a sc e
 | .ins n a b,sc,x=>oQ (λ x op' y=>decide (op'=nZ n)&&aX a sc x&&aX b sc y) x
 | .st1 a,sc,x=>qT "str" sc (λ y=>aX a sc y) x
 | .itx a,sc,x=>qT "int" sc (λ y=>aX a sc y) x
 | .jn o a,sc,x=>tI "join" (λ x=>aX o sc x) (λ y=>aX a sc y) x
 | .intb n aI k,sc,x=>oQ (λ x op' y=>decide (op'=.In)&&aX k sc x&&eJ (λ x _=>decide (x=n)&&T.tb.contains (n,aI)&&gl sc x && !(x==("__debug__" : Str))) y) x
 | .sls a lo hi,sc,x=>aBV (λ x l h=>aX a sc x&&uK lo sc l&&uK hi sc h) x
 | .srep a b,sc,x=>oX (λ x op' y _=>decide (op'=.Mult)&&aX a sc x&&aX b sc y) x
 | .gst n y,sc,x=>eJ (λ x _=>decide (x=n)&&T.st.contains (n,y)&&gl sc x && !(x==("__debug__" : Str))) x
 | _,_,_=>false
noncomputable def jJ:E->zw->qw->Bool
 | .and a b,sc,x=>qB .And (λ x y=>jJ a sc x&&jJ b sc y) x
 | .or a b,sc,x=>qB .Or (λ x y=>jJ a sc x&&jJ b sc y) x
 | .not a,sc,x=>uM (λ o x _=>decide (o=.Not)&&jJ a sc x) x
 | .chn op op' a b c,sc,x=>aBM (λ x o y o' z=>decide (o=op)&&decide (o'=op')&&aX a sc x&&aX b sc y&&aX c sc z) x
 | .cmp op a b,sc,x=>oQ (λ x op' y=>decide (op'=op)&&aX a sc x&&aX b sc y) x
 | .var i,sc,x=>eJ (λ x _=>decide (N[i]? = qq x)&&iP sc x && !(x==("__debug__" : Str)) && !(x==("__classdict__" : Str))) x&&kL x
 | .bl i,_,x=>gY (.bool i) x&&kL x
 | .bin op a b,sc,x=>oX (λ x op' y _=>decide (op'=op)&&aX a sc x&&aX b sc y) x&&kL x
 | .ix a b,sc,x=>uL (λ x y=>aX a sc x&&aX b sc y) x&&kL x
 | .call f es,sc,x=>iD (λ x xs=>decide ((T.fn[f]?).map (·.1)=qq x)&&gl sc x && !(x==("__debug__" : Str))&&jI es sc xs&&kQ xs) x&&kL x
 | .blt b es,sc,x=>iD (λ x ys=>!ys.isEmpty&&decide (x=b.n)&&gl sc x&&jI es sc ys&&kQ ys) x&&kL x
 | .isi a n,sc,x=>qZ "isinstance" sc (λ y=>aX a sc y) (λ z=>eJ (λ z _=>decide (z=n.n)&&gl sc z) z) x&&kL x
 | .ins n a b,sc,x=>oQ (λ x op' y=>decide (op'=nZ n)&&aX a sc x&&aX b sc y) x
 | _,_,_=>false
noncomputable def jI:E->zw->List qw->Bool
 | .nil,_,xs=>xs.isEmpty
 | .cons a r,sc,xs=>(match xs with
   | x::xs=>aX a sc x&&bR x&&jI r sc xs
   | []=>false)
 | _,_,_=>false
noncomputable def uK:E->zw->Option qw->Bool
 | .no,_,x=>uC x
 | .cons a r,sc,x=>aF5 r&&x.any λ x=>aX a sc x
 | _,_,_=>false
noncomputable def uR:E->zw->qw->Bool
 | .lst es,sc,x=>oS (λ xs _=>jI es sc xs) x
 | .lof a,sc,x=>qT "list" sc (λ y=>aX a sc y) x
 | .comp elt t it cond,sc,x=>aBQ N t cond sc (λ g y=>uJ it sc g y) (λ s y=>jJ cond s y) (λ s y=>aX elt s y) x
 | .ls3 x a b o y z es,sc,e=>oS (λ xs _=>decide (y≠z)&&decide (z.length<=10)&&(match xs with
   | e1::e2::e3::r=>oX (λ u op v _=>decide (op=.Add)&&gY (.str x) u&&aX a sc v) e1&&(aX b sc e2&&bR e2)&&kMe "replace" (λ q ys=>aX o sc q&&aGA (λ u v w=>gY (.str y) u&&gY (.str z) v&&gY (.int 1) w) ys) e3&&jI es sc r
   | _=>false)) e
 | .spl o a,sc,x=>tI "split" (λ x=>aX o sc x) (λ y=>aX a sc y) x
 | _,_,_=>false
noncomputable def uJ:E->zw->qw->qw->Bool
 | .it a,sc,_,x=>aX a sc x
 | .rng1 a,sc,_,x=>qT "range" sc (λ y=>aX a sc y) x
 | .enm a,sc,tg,x=>wY tg&&qT "enumerate" sc (λ y=>aX a sc y) x
 | .its a,sc,_,x=>aX a sc x
 | _,_,_,_=>false
end
mutual
noncomputable def okS:Sx->zw->zy->Bool
 | .expr e,sc,st=>uU (λ x _=>aX T N e sc x&&eZ x) st
 | .ret e,sc,st=>yZ (λ v _=>v.any λ x=>aX T N e sc x) st
 | .ifs c a b,sc,st=>zA (λ x y z _=>jJ T N c sc x&&kC a sc y&&kC b sc z) st
 | .set i e,sc,st=>hJ (λ ts y _=>aX T N e sc y&&eZ y&&gI (λ t=>eJ (λ x _=>decide (N[i]? = qq x)&&loc sc x) t) ts) st
 | .setC _ i e,sc,st=>hJ (λ ts y _=>aEP e&&uR T N e sc y&&gI (λ t=>eJ (λ x _=>decide (N[i]? = qq x)&&loc sc x) t) ts) st
 | .setT t e,sc,st=>hJ (λ ts y _=>aX T N e sc y&&eZ y && !wY y&&gI (λ tg=>wY tg&&qN false N sc t tg) ts) st
 | .put o i e,sc,st=>hJ (λ ts z _=>aX T N e sc z&&eZ z&&gI (λ t=>uL (λ x y=>aX T N o sc x&&aX T N i sc y) t) ts) st
 | .loop t it b,sc,st=>zG (λ tg x y z _=>z.isEmpty&&qN false N sc t tg&&uJ T N it sc tg x&&bR x&&kC b sc y) st
 | _,_,_=>false
noncomputable def kC:Sx->zw->List zy->Bool
 | .skip,_,l=>l.isEmpty
 | .seq a b,sc,l=>(match l with
   | st::r=>okS a sc st&&kC b sc r
   | []=>false)
 | _,_,_=>false
end
end
noncomputable def bltNames:List Str:=["len", "max", "min", "int", "abs", "tuple", "sum", "all", "any", "isinstance", "list", "range", "enumerate", "bool", "str", "reversed", "zip", "sorted"]
structure Ctx(T:Tx)(C:Calls)(X:Cx):Prop where
 nd:X.N.Nodup
 calm:X.calm=true
 xe:X.xe=λ _ _=>False
 kind:X.env.scope.kind=.function
 room:∃ k,Room k X.A/\∀ f np call x,C f=qq (np,call)->(T.fn[f]?).map (·.1)=qq x->∃ fa fd ps,X.mg x=qq (.ref fa)/\yBq X.K (.ref fa)=true/\dG X.K fd ps []/\FnOk X.prog X.w X.K X.mg X.base fJ k fa fd ps (hZ X.K np call)
 blt:∀ x∈bltNames,X.mg x=qz
 tbs:∀ x aI,(x,aI)∈T.tb->∃ a,X.mg x=qq (.ref a)/\mE X.K X.w a aI
 cns:∀ x ts,(x,ts)∈T.cn->∃ a,X.mg x=qq (.ref a)/\nV X.K a ts
 sts:∀ x y,(x,y)∈T.st->∃ t,X.mg x=qq (.str y t)
theorem Ctx.units{T:Tx}{C:Calls}{X:Cx}(h:Ctx T C X):X.A.units+64<cLine:=let ⟨_,r,_⟩:=h.room;r.units
theorem Ctx.own{T:Tx}{C:Calls}{X:Cx}(h:Ctx T C X):PassesOwn (model X.prog X.w) X.A X.env X.xe:=by rw[h.xe];exact PassesOwn.never
theorem Ctx.comp{T:Tx}{C:Calls}{X Y:Cx}{scope:zw}(h:Ctx T C X)(hk:scope.kind=.function)(hy:iY X scope Y):Ctx T C Y/\Y.env.scope=oJ scope X.env.scope/\Y.N=X.N/\Y.K=X.K:=by
 obtain⟨aA,fp,Ca,s₀,H₀,rfl⟩:=hy;exact⟨⟨h.nd,h.calm,rfl,hk,h.room,h.blt,h.tbs,h.cns,h.sts⟩,rfl,rfl,rfl⟩
theorem dE{e:qw}(h:bR e=true)(es:List qw)(env:Env):zj (e::es) env=(false,eval e env)::zj es env:=by
 cases e<;>first | rfl | exact no h
theorem rQ:∀ {es:List qw} (h:kQ es=true) (env:Env) (pos:Pos),(backTo pos (zj es env)).any (·.1)=false
 | [],_,_,_=>rfl
 | e::es,h,env,pos=>by
   obtain⟨h1,h2⟩:=bV h;rw[dE h1];show(false||(backTo pos (zj es env)).any (·.1))=false
   rw[rQ h2 env pos];rfl
theorem aFU{e:qw}(h:bR e=true):vW e:=by
 intro o i;cases e<;>first | rfl | exact no h
theorem nG{e:qw}(h:bR e=true)(op:jx):jv op e=false:=by
 cases e<;>first | rfl | exact no h
theorem rH{e:qw}(h:bR e=true)(env:Env)(x:qx):jj e env x=pure x:=by
 cases e<;>first | rfl | exact no h
theorem lV{e:qw}(h:wG e=true)(m:Str)(env:Env):attributeBase e m env (eval e env)=eval e env:=by
 cases e<;>first | rfl | exact no h
theorem lT{e:qw}(h:eZ e=true)(t:Option qw)(line:Nat)(env:Env):swapsWith e t line env=pure false:=by
 cases e<;>first | rfl | exact no h
theorem aN5{e:qw}(h:kL e=true)(env:Env)(eK:Sem qx):isTrue e env eK=(do let v <- eK;standAt e.pos;holding [v] (truthy v)):=by
 cases e<;>first | rfl | exact no h
theorem aIP{o i:qw}{pos:Pos}{env:Env}(h:bR i=true)(v:qx):assign (.Subscript o i pos) env v=(do
 let ov <- holding [v] (eval o env)
 let iv <- holding [v,ov] (eval i env)
 standAt pos
 holding [v,ov,iv] (setItem ov iv v)
 release [v,ov,iv] []):=by
 cases i<;>first | rfl | exact no h
section
variable {X : Cx}
theorem aA8{x:Str}(h:iP X.env.scope x=true):lO X.env.scope x:=by
 unfold iP at h;unfold lO
 split at h<;>first | exact .inl (by assumption) | exact .inr (.inl (by assumption)) | exact .inr (.inr (by assumption)) | exact no h
theorem pU{x:Str}(h:loc X.env.scope x=true):L2.Loc X.env.scope x:=by
 unfold loc at h;unfold L2.Loc
 split at h<;>first | exact .inl (by assumption) | exact .inr (by assumption) | exact no h
theorem cX{x:Str}(h:gl X.env.scope x=true):Gl X x:=(oqT h:X.env.scope.names.lookup x=qq .globalImplicit)
theorem dD{x y:Str}(h:(!(x==y))=true):(x==y)=false:=by
 cases e:x==y with
 | false=>rfl
 | true=>rw[e] at h;exact no h
def aBh(b:Bool)(X:Cx):Prop:=b=true\/∀ x,X.fn x=true
theorem aD6{b:Bool}(st:aBh b X){i:Nat}{x:Str}(h:aBe b X.N X.env.scope i x=true):X.N[i]? = qq x/\L2.Loc X.env.scope x/\(X.fn x=true\/X.env.scope.names.lookup x=qq .local):=by
 obtain⟨h1,h2⟩:=bV h;cases b with
 | true =>
   have h3:=oqT h2;exact⟨oqT h1,.inl h3,.inr h3⟩
 | false =>
   refine⟨oqT h1,pU h2,?_⟩;rcases st with z | z
   ·cases z
   ·exact .inl (z x)
noncomputable def uB:List Nat->hU
 | []=>aBW
 | i::is=>aBp (mI i) (uB is)
noncomputable def oZ(K:FrG):Tg->TG
 | .one i=>mI i
 | .many is=>aBz K is.length (uB is)
theorem aFq(K:FrG):∀ is:List Nat,uP K is (uB is)
 | []=>aK2
 | _::is=>aJD (aFq K is)
theorem pY(K:FrG)(t:Tg):GA K t (oZ K t):=by
 cases t with
 | one i=>exact aMe i
 | many is=>exact aKN (aFq K is)
theorem aDx{b:Bool}(st:aBh b X)(nd:X.N.Nodup):∀ {is:List Nat}{es:List qw},aAS b X.N X.env.scope is es=true->oY X es (uB is)/\(xj es X.env).length=is.length/\(xj es X.env).findIdx? (·.1)=qz
 | [],[],_=>⟨aKG,rfl,rfl⟩
 | [],_::_,h=>no h
 | _::_,[],h=>no h
 | i::is,e::r,h=>eR (P:=λ e=>oY X (e::r) (uB (i::is))/\(xj (e::r) X.env).length=(i::is).length/\(xj (e::r) X.env).findIdx? (·.1)=qz) h λ x p h=>by
   obtain⟨a1,a2,a3⟩:=aD6 st (aL h);obtain⟨pg,hl2,hf⟩:=aDx st nd (aR h);refine⟨aJI (aAO nd a1 a2 a3) pg rfl,?_,?_⟩
   ·show((false,assign (.Name x p) X.env)::xj r X.env).length=_;rw[yBg,yBg,hl2]
   ·show((false,assign (.Name x p) X.env)::xj r X.env).findIdx? (·.1)=qz;rw[List.findIdx?_cons,hf];rfl
theorem qF{b:Bool}(st:aBh b X)(nd:X.N.Nodup)(hc:X.calm=true){t:Tg}{tg:qw}(h:qN b X.N X.env.scope t tg=true):PG X tg (oZ X.K t):=by
 cases t with
 | one i=>exact eR (P:=λ e=>PG X e (mI i)) h λ x p h=>let ⟨a1,a2,a3⟩:=aD6 st h;aAO nd a1 a2 a3
 | many is=>exact oR (P:=λ e=>PG X e (oZ X.K (.many is))) h λ es k p h=>let ⟨pg,hl2,hf⟩:=aDx st nd h;aMg hc pg hl2 hf
end
section
variable (T : Tx)(C : Calls)
def SE(c:E):Prop:=∀ X,Ctx T C X->∀ x,aX T X.N c X.env.scope x=true->PE X x (aH X.K (ev C c))
def ST(c:E):Prop:=∀ X,Ctx T C X->∀ x,jJ T X.N c X.env.scope x=true->PT X x (dU X.K (tv C c))/\∀ op es p,x=.BoolOp op es p->PW X x (dU X.K (tv C c))
def SA(c:E):Prop:=∀ X,Ctx T C X->∀ x,jI T X.N c X.env.scope x=true->PA X x (cP X.K (av C c))
def SO(c:E):Prop:=∀ X,Ctx T C X->∀ x,uK T X.N c X.env.scope x=true->PO X x (iK X.K (ov C c))
def SL(c:E):Prop:=∀ X,Ctx T C X->∀ x,uR T X.N c X.env.scope x=true->PE X x (gJ X.K (lv C c))
def SI(c:E):Prop:=∀ X,Ctx T C X->∀ tg x,uJ T X.N c X.env.scope tg x=true->PI X tg x (iT X.K (lv C c))
end
section
variable {T : Tx}{C : Calls}
theorem aKd{X:Cx}{x:qw}{f:FE}(h:∀ env S,f env S=qz):PE X x (aH X.K f):=λ aA s σ H Q I aJ=>by
 obtain⟨F,L,S,env,w,S',R,E,e,q⟩:=aJ;rw[h] at e;cases e
theorem aPu{X:Cx}{x:qw}{f:FE}(h:PE X x (aH X.K f))(ht:kL x=true):PT X x (dU X.K (cG f))/\∀ op es p,x=.BoolOp op es p->PW X x (dU X.K (cG f)):=
 ⟨aPo h λ eK=>aN5 ht X.env eK,λ op es p e=>by subst e;exact no ht⟩
theorem aE7(i:Nat):SE T C (.var i):=λ X hX x hx=>eR (P:=λ x=>PE X x _) hx λ y p h=>aBm (dT (aL (aL (aL h)))) (aA8 (aR (aL (aL h)))) (dD (aR (aL h))) (dD (aR h))
theorem aMI(i:Int):SE T C (.int i):=λ X hX x h=>iZ (P:=λ x=>PE X x _) h λ k p=>aO9
theorem aFZ(i:Bool):SE T C (.bl i):=λ X hX x h=>iZ (P:=λ x=>PE X x _) h λ k p=>aGy
theorem aNM:SE T C .non:=λ X hX x h=>iZ (P:=λ x=>PE X x _) h λ k p=>aO4
theorem aL4(i:Str):SE T C (.str i):=λ X hX x h=>iZ (P:=λ x=>PE X x _) h λ k p=>aFL
theorem aFi{op:vz}{a b:E}(ha:SE T C a)(hb:SE T C b):SE T C (.bin op a b):=λ X hX x hx=>xW (P:=λ x=>PE X x _) hx λ l o r p h=>by
 obtain rfl:=dT (aL (aL h));exact aGh (ha X hX _ (aR (aL h))) (hb X hX _ (aR h))
theorem aOn{op:yx}{a:E}(ha:SE T C a):SE T C (.un op a):=λ X hX x hx=>aBG (P:=λ x=>PE X x _) hx λ o r p h=>by
 obtain rfl:=dT (aL (aL h));exact aPX (ha X hX _ (aR h))
theorem aLU{op:jx}{a b:E}(ha:SE T C a)(hb:SE T C b):SE T C (.cmp op a b):=λ X hX x hx=>qE (P:=λ x=>PE X x _) hx λ l o r p h h4=>by
 obtain rfl:=dT (aL (aL h));exact aF7 hX.units (ha X hX _ (aR (aL h))) (hb X hX _ (aR h)) (nG h4 o)
theorem xD{X:Cx}{x:qw}{t:TT}(h:PT X x t)(n:x.ctorIdx≠0):PT X x t/\∀ op es p,x=.BoolOp op es p->PW X x t:=
 ⟨h,λ op es p e=>absurd (congrArg Expr.ctorIdx e) n⟩
theorem aMS{op:jx}{a b:E}(ha:SE T C a)(hb:SE T C b):ST T C (.cmp op a b):=λ X hX x hx=>qE (P:=λ x=>PT X x _/\∀ op es p,x=.BoolOp op es p->PW X x _) hx λ l o r p h h4=>by
 obtain rfl:=dT (aL (aL h));exact xD (aM9 hX.units (ha X hX _ (aR (aL h))) (hb X hX _ (aR h)) (nG h4 o)) (yDo 14)
theorem aMG{op op':jx}{a b c:E}(ha:SE T C a)(hb:SE T C b)(hc:SE T C c):SE T C (.chn op op' a b c):=λ X hX x hx=>aFP (P:=λ x=>PE X x _) hx λ l o m o' r p h h6=>by
 obtain rfl:=dT (aL (aL (aL (aL h))));obtain rfl:=dT (aR (aL (aL (aL h))));exact aK5 hX.units (ha X hX _ (aR (aL (aL h)))) (hb X hX _ (aR (aL h))) (hc X hX _ (aR h)) (nG h6 o')
theorem aMP{op op':jx}{a b c:E}(ha:SE T C a)(hb:SE T C b)(hc:SE T C c):ST T C (.chn op op' a b c):=λ X hX x hx=>aFP (P:=λ x=>PT X x _/\∀ op es p,x=.BoolOp op es p->PW X x _) hx λ l o m o' r p h h6=>by
 obtain rfl:=dT (aL (aL (aL (aL h))));obtain rfl:=dT (aR (aL (aL (aL h))));exact xD (aJy hX.units (ha X hX _ (aR (aL (aL h)))) (hb X hX _ (aR (aL h))) (hc X hX _ (aR h)) (nG h6 o')) (yDo 14)
theorem aNw{n:Str}{ts:List Tv}:SE T C (.con n ts):=λ X hX x hx=>eR (P:=λ x=>PE X x _) hx λ y p h=>by
 obtain rfl:=dT (aL (aL (aL h)));exact aO2 (cX (aR (aL h))) (dD (aR h)) (hX.cns _ _ (List.contains_iff_mem.mp (aR (aL (aL h)))))
theorem aND{a b:E}(ha:SE T C a)(hb:SE T C b):SE T C (.and a b):=λ X hX x hx=>sC (P:=λ x=>PE X x _) hx
 (λ l r p h=>PE.weak (vY (ha X hX _ (aL h)) (aA5 (hb X hX _ (aR h)))) wM) λ l b c r p h=>PE.weak (vY (ha X hX _ (aL h)) (hb X hX _ (aR h))) wM
theorem aO5{a b:E}(ha:SE T C a)(hb:SE T C b):SE T C (.or a b):=λ X hX x hx=>sC (P:=λ x=>PE X x _) hx
 (λ l r p h=>PE.weak (aF3 (ha X hX _ (aL h)) (aA5 (hb X hX _ (aR h)))) aF4) λ l b c r p h=>PE.weak (aF3 (ha X hX _ (aL h)) (hb X hX _ (aR h))) aF4
theorem aFu{X:Cx}{x:qw}{t:TT}(k:PW X x t):PT X x t/\∀ op es p,x=.BoolOp op es p->PW X x t:=⟨k.pt,λ _ _ _ _=>k⟩
theorem aMN{a b:E}(ha:ST T C a)(hb:ST T C b):ST T C (.and a b):=λ X hX x hx=>aFu (sC (P:=λ x=>PW X x _) hx
 (λ l r p h=>PW.weak (aE0 (ha X hX _ (aL h)).1 (aK0 (hb X hX _ (aR h)).1)) aFX) λ l b c r p h=>PW.weak (aE0 (ha X hX _ (aL h)).1 ((hb X hX _ (aR h)).2 _ _ _ rfl)) aFX)
theorem aOF{a b:E}(ha:ST T C a)(hb:ST T C b):ST T C (.or a b):=λ X hX x hx=>aFu (sC (P:=λ x=>PW X x _) hx
 (λ l r p h=>PW.weak (aF2 (ha X hX _ (aL h)).1 (aNe (hb X hX _ (aR h)).1)) aGU) λ l b c r p h=>PW.weak (aF2 (ha X hX _ (aL h)).1 ((hb X hX _ (aR h)).2 _ _ _ rfl)) aGU)
theorem aN3{a:E}(ha:SE T C a):SE T C (.not a):=λ X hX x hx=>aBG (P:=λ x=>PE X x _) hx λ o y p h=>by
 obtain rfl:=dT (aL h);exact aMy (ha X hX _ (aR h))
theorem aLP{a:E}(ha:ST T C a):ST T C (.not a):=λ X hX x hx=>aBG (P:=λ x=>PT X x _/\∀ op es p,x=.BoolOp op es p->PW X x _) hx λ o y p h=>by
 obtain rfl:=dT (aL h);exact xD (aPt (ha X hX _ (aR h)).1) (yDo 2)
theorem aMa{c a b:E}(hc:ST T C c)(ha:SE T C a)(hb:SE T C b):SE T C (.ite c a b):=λ X hX x hx=>aQG (P:=λ x=>PE X x _) hx λ x y z p h=>aO7 (hc X hX _ (aL (aL h))).1 (ha X hX _ (aR (aL h))) (hb X hX _ (aR h))
theorem aMf{a:E}(ha:SA T C a):SE T C (.tup a):=λ X hX x hx=>oR (P:=λ x=>PE X x _) hx λ xs k p h=>aF9 (ha X hX _ h)
theorem aNr{a:E}(ha:SA T C a):SL T C (.lst a):=λ X hX x hx=>tM (P:=λ x=>PE X x _) hx λ xs p h=>sY (ha X hX _ h)
theorem aMZ:SA T C .nil:=λ X hX x h=>eP (P:=λ x=>PA X x _) h nX
theorem aKP{a r:E}(ha:SE T C a)(hr:SA T C r):SA T C (.cons a r):=λ X hX x h=>by
 cases x with
 | nil=>exact no h
 | cons y ys=>exact nS (ha X hX _ (aL (aL h))) (hr X hX _ (aR h)) (dE (aR (aL h)) _ _)
theorem aPr:SO T C .no:=λ X hX x h=>xG (P:=λ x=>PO X x _) h aQs
theorem aJ9{a r:E}(ha:SE T C a):SO T C (.cons a r):=λ X hX x h=>aP8 (P:=λ r=>PO X x (iK X.K (ov C (.cons a r)))) (aL h) (qC (P:=λ x=>PO X x _) (aR h) λ y h=>aNU (ha X hX _ h))
theorem aFO{a b:E}(ha:SE T C a)(hb:SE T C b):SE T C (.ix a b):=λ X hX x hx=>aBU (P:=λ x=>PE X x _) hx λ l r p h h3=>aPU (ha X hX _ (aL h)) (hb X hX _ (aR h)) (aFU h3)
theorem aNc{n:Str}{aI:List (Str×Tv)}{k:E}(hk:SE T C k):SE T C (.tab n aI k):=λ X hX x hx=>aBU (P:=λ x=>PE X x _) hx λ y z p g h6=>eR (P:=λ y=>PE X (.Subscript y z p) _) (aR g) λ u q h=>by
 obtain rfl:=dT (aL (aL (aL h)));exact aPp (cX (aR (aL h))) (dD (aR h)) (hX.tbs _ _ (List.contains_iff_mem.mp (aR (aL (aL h))))) (hk X hX _ (aL g)) (aFU h6)
theorem aPG{a lo hi:E}(ha:SE T C a)(hl:SO T C lo)(hh:SO T C hi):SE T C (.sl a lo hi):=λ X hX x hx=>aFH (P:=λ x=>PE X x _) hx λ y l u p q h=>aQF (ha X hX _ (aL (aL h))) (hl X hX _ (aR (aL h))) (hh X hX _ (aR h))
theorem aKJ{N:List Str}{a:E}{sc:zw}(h:jI T N a sc []=true):a=.nil:=by
 cases a<;>first | rfl | exact no h
theorem aIw{f np:Nat}{call:List W->aB->Option (W×aB)}{fs:FA}(h:C f=qq (np,call)):iB C f fs=sZ fs np call:=by
 funext env S
 unfold iB;rw[h]
theorem aD2{f:Nat}{a:E}(ha:SA T C a):SE T C (.call f a):=λ X hX x hx=>kZ (P:=λ x=>PE X x _) hx λ y p zs q h=>by
 cases hC:C f with
 | none=>exact aKd λ env S=>by show iB C f (av C a) env S=qz;unfold iB;rw[hC]
 | some nc =>
   obtain⟨k,rm,fs⟩:=hX.room;obtain⟨fa,fd,ps,m1,m2,m3,m4⟩:=fs f nc.1 nc.2 y hC (dT (aL (aL (aL (aL h)))));have hw:∀ σ H Q,aH X.K (ev C (.call f a)) σ H Q->xA (hZ X.K nc.1 nc.2) [] E0 (cP X.K (av C a)) σ H Q:=λ σ H Q hq=>aNL σ H Q (aIw (fs:=av C a) hC▸hq)
   have h2:=cX (aR (aL (aL (aL h))));have h3:=dD (aR (aL (aL h)));cases zs with
   | nil =>
     refine PE.weak (aJe m4 rm h2 m1 m2 m3 .nil aFM h3) λ σ H Q hq=>?_
     obtain⟨F,L,S,env,ws,S',R,E,e,q2⟩:=hw σ H Q hq;cases aKJ (aR (aL h));cases e;exact q2 F L H [] Gr.refl R .nil
   | cons z zr=>exact PE.weak (aK6 m4 rm h2 m1 m2 m3 .nil aFM (ha X hX _ (aR (aL h))) h3 (dE (aL (aR h)) _ _) (rQ (aR (aR h)) _ _)) hw
theorem aES{b:B}{a:E}(ha:SA T C a):SE T C (.blt b a):=λ X hX x hx=>kZ (P:=λ x=>PE X x _) hx λ y p zs q h=>by
 obtain rfl:=dT (aR (aL (aL (aL h))));cases zs with
 | nil=>exact no (aL (aL (aL (aL h))))
 | cons z zr =>
 have A:=ha X hX _ (aR (aL h));have G:=cX (aR (aL (aL h)));have s1:=dE (aL (aR h)) zr X.env;have s2:=rQ (aR (aR h)) X.env q;cases b with
 | len=>exact PE.weak (jM aPe G (hX.blt _ (by decide)) (by decide +kernel) A (by decide) (by decide) s1 s2) lE
 | mx=>exact PE.weak (jM (aOL hX.calm) G (hX.blt _ (by decide)) (by decide +kernel) A (by decide) (by decide) s1 s2) lE
 | mn=>exact PE.weak (jM (aOm hX.calm) G (hX.blt _ (by decide)) (by decide +kernel) A (by decide) (by decide) s1 s2) lE
 | abs=>exact PE.weak (jM aPk G (hX.blt _ (by decide)) (by decide +kernel) A (by decide) (by decide) s1 s2) lE
 | sum=>exact PE.weak (jM (aPD hX.calm) G (hX.blt _ (by decide)) (by decide +kernel) A (by decide) (by decide) s1 s2) lE
 | all=>exact PE.weak (jM (aOt hX.calm) G (hX.blt _ (by decide)) (by decide +kernel) A (by decide) (by decide) s1 s2) lE
 | any=>exact PE.weak (jM (aPC hX.calm) G (hX.blt _ (by decide)) (by decide +kernel) A (by decide) (by decide) s1 s2) lE
 | int=>exact PE.weak (rJ aPw G (hX.blt _ (by decide)) (by decide +kernel) A (by decide) (by decide) s1 s2) lE
 | tup=>exact PE.weak (rJ aKx G (hX.blt _ (by decide)) (by decide +kernel) A (by decide) (by decide) s1 s2) lE
theorem aDE(n:Ty):zk n.n=qq (.type n.s)/\n.n∈bltNames:=by cases n<;>exact⟨by decide +kernel,by decide⟩
theorem aFa{a:E}{n:Ty}(ha:SE T C a):SE T C (.isi a n):=λ X hX x hx=>xT (P:=λ x=>PE X x _) hx λ p y w q h3 h5 h6 h7 _=>eR (P:=λ w=>PE X (.Call (.Name "isinstance" p) [y,w] [] q) _) h7 λ z pz h=>by
 obtain rfl:=dT (aL h);have k:=aOV (X:=X) (n:=n.s) (x:=n.n) (p:=p) (p':=pz) (pos:=q) (ha X hX _ h5) (cX h3) (hX.blt _ (by decide)) (by decide +kernel) (cX (aR h)) (hX.blt _ (aDE n).2) (aDE n).1 (by cases n<;>decide) (by cases n<;>decide) (dE h6 _ _)
 refine PE.weak k λ σ H Q ⟨F,L,S,env,w,S',R,E,e,q2⟩=>⟨F,L,S,env,w,S',R,E,?_,q2⟩
 obtain⟨⟨w1,S1⟩,e1,e2⟩:=bind_some e;obtain⟨d,z,e3,e4,rfl,rfl⟩:=pH e2;unfold aGv f1;rw[e1];show dM (tR X.K n.s) _ w1=_;unfold dM;rw[e3];dsimp only[yCs];rw[aMn X.K e4]
theorem st1{X:Cx}{z:qw}(h:bR z=true):zj [z] X.env=(false,eval z X.env)::zj [] X.env:=dE h [] X.env
theorem mX{X:Cx}{a:E}{z:qw}(ha:SE T C a)(hX:Ctx T C X)(h:aX T X.N a X.env.scope z=true)(hp:bR z=true):PA X [z] (cP X.K (cB (ev C a) fO)):=nS (ha X hX _ h) nX (st1 hp)
theorem aMU{o a:E}(ho:SE T C o)(ha:SE T C a):SE T C (.app o a):=λ X hX x hx=>wT (P:=λ x=>PE X x _) hx λ y ap z cp h4 h3 h2 h5 h6 =>
 PE.weak (xF PySem.F.plainAttrs_list PySem.F.slot_list_append PySem.F.type_list_append aAi (ho X hX _ h2) (mX ha hX h5 h6) (lV h3 _ _) (by rw[st1 h6];rfl) h4 (st1 h6) rfl) aFF
theorem aNP{a:E}(ha:SE T C a):SL T C (.lof a):=λ X hX x hx=>tU (P:=λ x=>PE X x _) hx λ p z q h2 h3 h4 =>
 PE.weak (rJ aHz (cX h2) (hX.blt _ (by decide)) (by decide +kernel) (mX ha hX h3 h4) (by decide) (by decide) (st1 h4) rfl) aOH
theorem aPc{a:E}(ha:SE T C a):SI T C (.it a):=λ X hX tg x h=>aQe (ha X hX _ h)
theorem aLk{a:E}(ha:SE T C a):SI T C (.rng1 a):=λ X hX tg x hx=>tU (P:=λ x=>PI X tg x _) hx λ p z q h2 h3 h4 =>
 PI.weak (aIM (cX h2) (hX.blt _ (by decide)) (mX ha hX h3 h4) (st1 h4)) aM8
theorem aNf{a:E}(ha:SE T C a):SI T C (.enm a):=λ X hX tg x hx=>oR (P:=λ tg=>PI X tg x _) (aL hx) λ ts k tp _=>tU (P:=λ x=>PI X _ x _) (aR hx) λ p z q h2 h3 h4 =>
 PI.weak (aJz (cX h2) (hX.blt _ (by decide)) (mX ha hX h3 h4) (st1 h4)) aLc
theorem or2{a b:Bool}(h:(a||b)=true)(n:a=false):b=true:=by
 rw[n] at h;exact h
theorem aAT{scope osc:zw}(h:aBn scope osc=true):ScOk scope osc:=by
 have h2:=List.all_eq_true.mp (aR h);refine⟨dT (aL h),λ x hx e=>?_,λ x hx e=>?_,λ x hx e=>?_⟩
 ·have:=h2 x hx;simp[e] at this
 ·have:=h2 x hx;simp[e] at this;exact this
 ·have:=h2 x hx;simp[e] at this;exact this
theorem wK{N:List Str}{scope:zw}{is:List Nat}:∀ {n:Nat},xN N scope is n=true->∀ i,i<n->∀ x,N[i]? = qq x->scope.names.lookup x=qq .local->i∈is
 | 0,_,i,hi,_,_,_=>absurd hi (Nat.not_lt_zero i)
 | n+1,h,i,hi,x,e,el=>by
   rcases Nat.lt_succ_iff_lt_or_eq.mp hi with z | z
   ·exact wK (aL h) i z x e el
   ·subst z;have h2:=aR h;rw[e] at h2;exact List.contains_iff_mem.mp (or2 h2 (by rw[el];rfl))
theorem aKj{elt it cond:E}{t:Tg}(he:SE T C elt)(hi:SI T C it)(hc:ST T C cond):SL T C (.comp elt t it cond):=λ X hX x hx=>aB4 (P:=λ x=>PE X x _) hx λ e tg iter ifs scope p h1 h2 h3 h4 h5 h6 h7=>by
 have sok:=aAT h1;refine aA4 (g:=oZ X.K t) hX.calm sok (λ i x a1 a2=>wK h2 i (gIm a1).1 x a1 a2) (hi X hX tg iter h4) (λ Y hY=>?_) (pY X.K t) (λ Y hY=>?_) (λ Y hY=>?_) (rH h5 X.env)
 ·obtain⟨c1,c2,c3,c4⟩:=hX.comp sok.kind hY;rw[<- c4];exact qF (.inl rfl) c1.nd c1.calm (by rw[c2,c3];exact h3)
 ·obtain⟨c1,c2,c3,c4⟩:=hX.comp sok.kind hY;cases ifs with
  | nil=>exact aGq (P:=λ cond=>kR Y [] (tv C cond)) h6 aAk
  | cons y r=>exact eP (P:=λ r=>kR Y (y::r) _) (aL h6) (aDf (hc Y c1 y (by rw[c2,c3];exact aR h6)).1)
 ·obtain⟨c1,c2,c3,c4⟩:=hX.comp sok.kind hY;rw[<- c4];exact he Y c1 e (by rw[c2,c3];exact h7)
theorem aOw{a:E}(ha:SL T C a):SE T C (.fz a):=λ X hX x h=>qJ (ha X hX x h)
theorem aNp{a:E}(ha:SL T C a):SE T C (.new a):=λ X hX x h=>aF0 (ha X hX x h)
theorem aLK{n:Bool}{a b:E}(ha:SE T C a)(hb:SE T C b):SE T C (.ins n a b):=λ X hX x hx=>qE (P:=λ x=>PE X x _) hx λ l o r p h h4=>by
 obtain rfl:=dT (aL (aL h));exact aPI (ha X hX _ (aR (aL h))) (hb X hX _ (aR h)) (nG h4 _)
theorem aMH{n:Bool}{a b:E}(ha:SE T C a)(hb:SE T C b):ST T C (.ins n a b):=λ X hX x hx=>qE (P:=λ x=>PT X x _/\∀ op es p,x=.BoolOp op es p->PW X x _) hx λ l o r p h h4=>by
 obtain rfl:=dT (aL (aL h));exact xD (aNR (ha X hX _ (aR (aL h))) (hb X hX _ (aR h)) (nG h4 _)) (yDo 14)
theorem aN7{a:E}(ha:SE T C a):SE T C (.st1 a):=λ X hX x hx=>tU (P:=λ x=>PE X x _) hx λ p z q h2 h3 h4 =>
 PE.weak (rJ aIv (cX h2) (hX.blt _ (by decide)) (by decide +kernel) (mX ha hX h3 h4) (by decide) (by decide) (st1 h4) rfl) aF6
theorem aMu{a:E}(ha:SE T C a):SE T C (.itx a):=λ X hX x hx=>tU (P:=λ x=>PE X x _) hx λ p z q h2 h3 h4 =>
 PE.weak (rJ aIA (cX h2) (hX.blt _ (by decide)) (by decide +kernel) (mX ha hX h3 h4) (by decide) (by decide) (st1 h4) rfl) aF6
theorem aPa{o a:E}(ho:SE T C o)(ha:SE T C a):SE T C (.jn o a):=λ X hX x hx=>wT (P:=λ x=>PE X x _) hx λ y ap z cp h4 h3 h2 h5 h6 =>
 PE.weak (xF yEd PySem.F.slot_str_join PySem.F.type_str_join aKH (ho X hX _ h2) (mX ha hX h5 h6) (lV h3 _ _) (by rw[st1 h6];rfl) h4 (st1 h6) rfl) aQJ
theorem aMD{o a:E}(ho:SE T C o)(ha:SE T C a):SL T C (.spl o a):=λ X hX x hx=>wT (P:=λ x=>PE X x _) hx λ y ap z cp h4 h3 h2 h5 h6 =>
 PE.weak (xF yEd yCx PySem.F.type_str_split aJT (ho X hX _ h2) (mX ha hX h5 h6) (lV h3 _ _) (by rw[st1 h6];rfl) h4 (st1 h6) rfl) aPv
theorem aKg{n:Str}{aI:List (Str×Tv)}{k:E}(hk:SE T C k):SE T C (.intb n aI k):=λ X hX x hx=>qE (P:=λ x=>PE X x _) hx λ l o r p h h4=>eR (P:=λ r=>PE X (.Compare l [o] [r] p) _) (aR h) λ u q g=>by
 obtain rfl:=dT (aL (aL h));obtain rfl:=dT (aL (aL (aL g)));exact aLS (cX (aR (aL g))) (dD (aR g)) (hX.tbs _ _ (List.contains_iff_mem.mp (aR (aL (aL g))))) (hk X hX _ (aR (aL h)))
theorem aMF{n y:Str}:SE T C (.gst n y):=λ X hX x hx=>eR (P:=λ x=>PE X x _) hx λ u p h=>by
 obtain rfl:=dT (aL (aL (aL h)));exact aOp (cX (aR (aL h))) (dD (aR h)) (hX.sts _ _ (List.contains_iff_mem.mp (aR (aL (aL h)))))
theorem aM2{a:E}(ha:SE T C a):SI T C (.its a):=λ X hX tg x h=>aOu (ha X hX x h)
theorem aLY{a lo hi:E}(ha:SE T C a)(hl:SO T C lo)(hh:SO T C hi):SE T C (.sls a lo hi):=λ X hX x hx=>aFH (P:=λ x=>PE X x _) hx λ o l h k p q=>aOU (ha X hX _ (aL (aL q))) (hl X hX _ (aR (aL q))) (hh X hX _ (aR q))
theorem aKn{a b:E}(ha:SE T C a)(hb:SE T C b):SE T C (.srep a b):=λ X hX x hx=>xW (P:=λ x=>PE X x _) hx λ l op r p h=>by
 obtain rfl:=dT (aL (aL h));exact aM5 (ha X hX _ (aR (aL h))) (hb X hX _ (aR h))
theorem aNz{x y z:Str}{a b o es:E}(ha:SE T C a)(hb:SE T C b)(ho:SE T C o)(hes:SA T C es):SL T C (.ls3 x a b o y z es):=λ X hX e hx=>tM (P:=λ e=>PE X e _) hx λ xs p h=>by
 have hyz:=dT (aL (aL h));have hz:=dT (aR (aL h));have h:=aR h
 match xs,h with
 | [],h=>exact no h
 | [_],h=>exact no h
 | [_,_],h=>exact no h
 | e1::e2::e3::r,h =>
   have h4:=aL h;have h3:=aL h4;have h2:=aL h3;refine sY ?_;refine xW (P:=λ e1=>PA X (e1::e2::e3::r) _) h2 λ u op v q h5=>?_
   obtain rfl:=dT (aL (aL h5));refine iZ (P:=λ u=>PA X (.BinOp u .Add v q::e2::e3::r) _) (aR (aL h5)) λ k1 q1=>?_
   refine aGW (P:=λ e3=>PA X (.BinOp (.Constant (.str x) k1 q1) .Add v q::e2::e3::r) _) (aR h4) λ ob ap ys cp g1 g2 g3=>?_
   refine aOA (P:=λ ys=>PA X (.BinOp (.Constant (.str x) k1 q1) .Add v q::e2 :: .Call (.Attribute ob "replace" ap) ys [] cp::r) _) (aR g3) λ u1 u2 u3 g4=>?_
   refine iZ (P:=λ u1=>PA X (.BinOp (.Constant (.str x) k1 q1) .Add v q::e2 :: .Call (.Attribute ob "replace" ap) [u1,u2,u3] [] cp::r) _) (aL (aL g4)) λ k2 q2=>?_
   refine iZ (P:=λ u2=>PA X (.BinOp (.Constant (.str x) k1 q1) .Add v q::e2 :: .Call (.Attribute ob "replace" ap) [.Constant (.str y) k2 q2,u2,u3] [] cp::r) _) (aR (aL g4)) λ k3 q3=>?_
   refine iZ (P:=λ u3=>PA X (.BinOp (.Constant (.str x) k1 q1) .Add v q::e2 :: .Call (.Attribute ob "replace" ap) [.Constant (.str y) k2 q2,.Constant (.str z) k3 q3,u3] [] cp::r) _) (aR g4) λ k4 q4=>?_
   exact PA.weak (aJS (ha X hX _ (aR h5)) (aFA (qY.of (hb X hX _ (aL (aR h3)))) (aFA (aKu (ho X hX _ (aL g3)) hyz hz (lV g2 _ _) g1) (nA.of (hes X hX _ (aR h))) rfl) (dE (aR (aR h3)) _ _)) rfl) aFf
theorem nT{c:E}(h:SE T C c)(ht:tv C c=cG (ev C c))(hk:∀ N sc x,jJ T N c sc x=(aX T N c sc x&&kL x)):ST T C c:=λ X hX x q=>by
 rw[hk] at q;rw[ht];exact aPu (h X hX x (aL q)) (aR q)
structure Sn(T:Tx)(C:Calls)(c:E):Prop where
 e:SE T C c:=by exact λ _ _ _ h=>no h
 t:ST T C c:=by exact λ _ _ _ h=>no h
 a:SA T C c:=by exact λ _ _ _ h=>no h
 o:SO T C c:=by exact λ _ _ _ h=>no h
 l:SL T C c:=by exact λ _ _ _ h=>no h
 i:SI T C c:=by exact λ _ _ _ _ h=>no h
theorem sn(c:E):Sn T C c:=by
 induction c with
 | var i=>exact {e:=aE7 i,t:=nT (aE7 i) rfl λ _ _ _=>rfl }
 | int i=>exact {e:=aMI i }
 | bl b=>exact {e:=aFZ b,t:=nT (aFZ b) rfl λ _ _ _=>rfl }
 | non=>exact {e:=aNM }
 | str x=>exact {e:=aL4 x }
 | bin op a b aN bC=>exact {e:=aFi aN.e bC.e,t:=nT (aFi aN.e bC.e) rfl λ _ _ _=>rfl }
 | un op a aN=>exact {e:=aOn aN.e }
 | cmp op a b aN bC=>exact {e:=aLU aN.e bC.e,t:=aMS aN.e bC.e }
 | ltl a b aN bC=>exact {}
 | and a b aN bC=>exact {e:=aND aN.e bC.e,t:=aMN aN.t bC.t }
 | or a b aN bC=>exact {e:=aO5 aN.e bC.e,t:=aOF aN.t bC.t }
 | not a aN=>exact {e:=aN3 aN.e,t:=aLP aN.t }
 | ite c a b ihc aN bC=>exact {e:=aMa ihc.t aN.e bC.e }
 | tup a aN=>exact {e:=aMf aN.a }
 | lst a aN=>exact {l:=aNr aN.a }
 | nil=>exact {a:=aMZ }
 | cons a r aN ihr=>exact {a:=aKP aN.e ihr.a,o:=aJ9 aN.e }
 | chn op gC a b c aN bC ihc=>exact {e:=aMG aN.e bC.e ihc.e,t:=aMP aN.e bC.e ihc.e }
 | con x ts=>exact {e:=aNw }
 | ix a b aN bC=>exact {e:=aFO aN.e bC.e,t:=nT (aFO aN.e bC.e) rfl λ _ _ _=>rfl }
 | dsp k l m a b c i aN bC ihc ihi=>exact {}
 | tab x aI k ihk=>exact {e:=aNc ihk.e }
 | slL a lo hi aN ihlo ihhi=>exact {}
 | sl a lo hi aN ihlo ihhi=>exact {e:=aPG aN.e ihlo.o ihhi.o }
 | no=>exact {o:=aPr }
 | call f a aN=>exact {e:=aD2 aN.a,t:=nT (aD2 aN.a) rfl λ _ _ _=>rfl }
 | blt b a aN=>exact {e:=aES aN.a,t:=nT (aES aN.a) rfl λ _ _ _=>rfl }
 | isi a n aN=>exact {e:=aFa aN.e,t:=nT (aFa aN.e) rfl λ _ _ _=>rfl }
 | bits a aN=>exact {}
 | app o a iho aN=>exact {e:=aMU iho.e aN.e }
 | pop o a iho aN=>exact {}
 | idx o a iho aN=>exact {}
 | lof a aN=>exact {l:=aNP aN.e }
 | lzip a b aN bC=>exact {}
 | lrg1 a aN=>exact {}
 | lrg2 a b aN bC=>exact {}
 | srt a aN=>exact {}
 | lrev a aN=>exact {}
 | lrep a b aN bC=>exact {}
 | comp elt t it cond ihelt ihit ihcond=>exact {l:=aKj ihelt.e ihit.i ihcond.t }
 | it a aN=>exact {i:=aPc aN.e }
 | rng1 a aN=>exact {i:=aLk aN.e }
 | rng2 a b aN bC=>exact {}
 | rng3 a b c aN bC ihc=>exact {}
 | rrng a aN=>exact {}
 | enm a aN=>exact {i:=aNf aN.e }
 | zip a b aN bC=>exact {}
 | zip3 a b c aN bC ihc=>exact {}
 | fz a aN=>exact {e:=aOw aN.l }
 | new a aN=>exact {e:=aNp aN.l }
 | its a aN=>exact {i:=aM2 aN.e }
 | ins n a b aN bC=>exact {e:=aLK aN.e bC.e,t:=aMH aN.e bC.e }
 | st1 a aN=>exact {e:=aN7 aN.e }
 | itx a aN=>exact {e:=aMu aN.e }
 | spl a b aN bC=>exact {l:=aMD aN.e bC.e }
 | jn a b aN bC=>exact {e:=aPa aN.e bC.e }
 | intb x aI k ihk=>exact {e:=aKg ihk.e }
 | gst x y=>exact {e:=aMF }
 | sls a lo hi aN ihlo ihhi=>exact {e:=aLY aN.e ihlo.o ihhi.o }
 | srep a b aN bC=>exact {e:=aKn aN.e bC.e }
 | ls3 x a b o y z es aN bC iho ihes=>exact {l:=aNz aN.e bC.e iho.e ihes.a }
end
section
variable (T : Tx)(C : Calls)
def SS(c:Sx):Prop:=∀ X,Ctx T C X->(∀ x,X.fn x=true)->∀ st,okS T X.N c X.env.scope st=true->PS X st (cE X.K (xs C c))
def mW(c:Sx):Prop:=∀ X,Ctx T C X->(∀ x,X.fn x=true)->∀ st,kC T X.N c X.env.scope st=true->bN X st (cE X.K (xs C c))
end
section
variable {T : Tx}{C : Calls}
theorem aED{e t:qw}(h:eZ e=true)(line:Nat)(env:Env):swapsWithSole [t] e line env=pure false:=lT h _ _ _
theorem aH7{e:qw}{ts:List qw}{k:Nat}{p:Pos}{env:Env}(h:wY e=false):yj [.Tuple ts k p] e env=pure qz:=by
 cases e<;>first | rfl | exact no h.symm
theorem aHL{o i e:qw}{p:Pos}{env:Env}:yj [.Subscript o i p] e env=pure qz:=by
 cases e<;>rfl
theorem aMX{a b:Sx}(ha:SS T C a)(hb:mW T C b):mW T C (.seq a b):=λ X hX hf st h=>by
 cases st with
 | nil=>exact no h
 | cons s r =>
   obtain⟨h1,h2⟩:=bV h;exact aFW (ha X hX hf _ h1) (hb X hX hf _ h2)
theorem aLb:mW T C .skip:=λ X hX hf st h=>eP (P:=λ st=>bN X st _) h aFB
theorem aKm{e:E}:SS T C (.expr e):=λ X hX hf st h=>aB2 (P:=λ st=>PS X st _) h λ x p h=>aFd ((sn e).e X hX _ (aL h)) (lT (aR h) _ _ _)
theorem aM0{e:E}:SS T C (.ret e):=λ X hX hf st h=>aGQ (P:=λ st=>PS X st _) h λ _ p h=>qC (P:=λ v=>PS X (.Return v p) _) h λ x h=>aGi ((sn e).e X hX _ h)
theorem aMx{c:E}{a b:Sx}(ha:mW T C a)(hb:mW T C b):SS T C (.ifs c a b):=λ X hX hf st h=>aGO (P:=λ st=>PS X st _) h λ x y z p h=>aQN ((sn c).t X hX _ (aL (aL h))).1 (ha X hX hf _ (aR (aL h))) (hb X hX hf _ (aR h))
theorem aMw{i:Nat}{e:E}:SS T C (.set i e):=λ X hX hf st h=>jD (P:=λ st=>PS X st _) h λ _ y p h=>fS (P:=λ ts=>PS X (.Assign ts y p) _) (aR h) λ _ g=>eR (P:=λ t=>PS X (.Assign [t] y p) _) g λ x q g =>
 xB hX.nd (dT (aL g)) (pU (aR g)) ((sn e).e X hX _ (aL (aL h))) (lT (aR (aL h)) _ _ _) (.inl (hf _))
theorem aP6{K:FrG}{f:FL}(σ:St)(H:Hp)(Q:VK)(h:aH K (fQ f) σ H Q):gJ K f σ H Q:=by
 obtain⟨F,L,S,env,w,S',R,E,e,q⟩:=h;obtain⟨⟨ds,S1⟩,e1,e2⟩:=bind_some e;cases e2;exact⟨F,L,S,env,ds,_,R,E,e1,λ F1 L1 H1 p xs g1 R1 hF hL hH dl=>q _ L1 _ _ (g1.trans (Gr.new hF)) (R1.adopt hF hL hH) (Den.lst (bJ.of bQ) (dl.mono (eN hF)))⟩
theorem aOM{K:FrG}{f:FL}(σ:St)(H:Hp)(Q:VK)(h:aH K (fG f) σ H Q):gJ K f σ H Q:=by
 obtain⟨F,L,S,env,w,S',R,E,e,q⟩:=h;obtain⟨⟨ds,S1⟩,e1,e2⟩:=bind_some e;cases e2;refine⟨F,L,S,env,ds,_,R,E,e1,λ F1 L1 H1 p xs g1 R1 hF hL hH dl=>q _ _ _ _ (g1.trans Gr.newLoc) (R1.adoptLoc hF hL hH dl) ⟨p,?_,rfl⟩⟩
 dsimp only;rw[<- R1.len,yAd (yAe _)];simp
theorem aQL{K:FrG}{f:FL}(nw:Bool):∀ (σ:St) (H:Hp) (Q:VK),aH K (match nw with | true=>fG f | false=>fQ f) σ H Q->gJ K f σ H Q:=by
 cases nw
 ·exact aP6
 ·exact aOM
theorem aJ4{nw:Bool}{i:Nat}{e:E}:SS T C (.setC nw i e):=λ X hX hf st h=>jD (P:=λ st=>PS X st _) h λ _ y p h=>fS (P:=λ ts=>PS X (.Assign ts y p) _) (aR h) λ _ g=>eR (P:=λ t=>PS X (.Assign [t] y p) _) g λ x q g=>by
 refine aQK (P:=λ e=>uR T X.N e X.env.scope y=true->PS X (.Assign [.Name x q] y p) (cE X.K (xs C (.setC nw i e)))) (aL (aL h)) (λ elt t it cond hL=>aB4 (P:=λ y=>PS X (.Assign [.Name x q] y p) (cE X.K (xs C (.setC nw i (.comp elt t it cond))))) hL λ e tg iter ifs scope r h1 h2 h3 h4 h5 h6 h7=>?_) (aR (aL h))
 have sok:=aAT h1;refine aIV (g:=oZ X.K t) hX.nd (dT (aL g)) (pU (aR g)) (.inl (hf _)) hX.calm sok (λ i x a1 a2=>wK h2 i (gIm a1).1 x a1 a2) ((sn it).i X hX tg iter h4) (λ Y hY=>?_) (pY X.K t) (λ Y hY=>?_) (λ Y hY=>?_) (rH h5 X.env) (aQL nw)
 ·obtain⟨c1,c2,c3,c4⟩:=hX.comp sok.kind hY;rw[<- c4];exact qF (.inl rfl) c1.nd c1.calm (by rw[c2,c3];exact h3)
 ·obtain⟨c1,c2,c3,c4⟩:=hX.comp sok.kind hY;cases ifs with
  | nil=>exact aGq (P:=λ cond=>kR Y [] (tv C cond)) h6 aAk
  | cons y r=>exact eP (P:=λ r=>kR Y (y::r) _) (aL h6) (aDf ((sn cond).t Y c1 y (by rw[c2,c3];exact aR h6)).1)
 ·obtain⟨c1,c2,c3,c4⟩:=hX.comp sok.kind hY;rw[<- c4];exact(sn elt).e Y c1 e (by rw[c2,c3];exact h7)
theorem tK{b:Bool}(h:(!b)=true):b=false:=by
 cases b with
 | false=>rfl
 | true=>exact no h
theorem aLs{t:Tg}{e:E}:SS T C (.setT t e):=λ X hX hf st h=>jD (P:=λ st=>PS X st _) h λ _ v p h=>fS (P:=λ ts=>PS X (.Assign ts v p) _) (aR h) λ tg g=>by
 have h1:=qF (.inr hf) hX.nd hX.calm (aR g)
 revert h1
 exact oR (P:=λ tg=>PG X tg (oZ X.K t)->PS X (.Assign [tg] v p) (cE X.K (xs C (.setT t e)))) (aL g) λ ts k q _ h1=>PS.weak (aEX ((sn e).e X hX _ (aL (aL (aL h)))) h1 (aED (aR (aL (aL h))) _ _) (aH7 (tK (aR (aL h)))) rfl) (aNV (pY X.K t))
theorem aMc{o i e:E}:SS T C (.put o i e):=λ X hX hf st h=>jD (P:=λ st=>PS X st _) h λ _ z p h=>fS (P:=λ ts=>PS X (.Assign ts z p) _) (aR h) λ _ g=>aBU (P:=λ t=>PS X (.Assign [t] z p) _) g λ x y q g h3 =>
 aPS ((sn o).e X hX _ (aL g)) ((sn i).e X hX _ (aR g)) ((sn e).e X hX _ (aL (aL h))) (aIP h3) (aED (aR (aL h)) _ _) aHL
theorem aLD{t:Tg}{it:E}{b:Sx}(hb:mW T C b):SS T C (.loop t it b):=λ X hX hf st h=>aGK (P:=λ st=>PS X st _) h λ tg x y z p h=>eP (P:=λ z=>PS X (.For tg x y z p) _) (aL (aL (aL (aL h))))
 (aPx hX.own hX.calm ((sn it).i X hX _ _ (aR (aL (aL h)))) (qF (.inr hf) hX.nd hX.calm (aR (aL (aL (aL h))))) (pY X.K t) (hb X hX hf _ (aR h)) (rH (aR (aL h)) X.env))
theorem ss(c:Sx):SS T C c/\mW T C c:=by
 have N2:∀ {c:Sx},SS T C c->(∀ N sc st,kC T N c sc st=false)->SS T C c/\mW T C c:=λ q hh=>⟨q,λ X hX hf st h=>by rw[hh] at h;exact no h⟩
 induction c with
 | skip=>exact⟨λ X hX hf st h=>no h,aLb⟩
 | seq a b aN bC=>exact⟨λ X hX hf st h=>no h,aMX aN.1 bC.2⟩
 | expr e=>exact N2 aKm λ _ _ _=>rfl
 | ret e=>exact N2 aM0 λ _ _ _=>rfl
 | ifs c a b aN bC=>exact N2 (aMx aN.2 bC.2) λ _ _ _=>rfl
 | set i e=>exact N2 aMw λ _ _ _=>rfl
 | setC nw i e=>exact N2 aJ4 λ _ _ _=>rfl
 | setT t e=>exact N2 aLs λ _ _ _=>rfl
 | put o i e=>exact N2 aMc λ _ _ _=>rfl
 | loop t it b bC=>exact N2 (aLD bC.2) λ _ _ _=>rfl
end
structure Fn where
 name:Str
 np:Nat
 N:List Str
 body:Sx
 st:zy
noncomputable def aF(fs:List Fn):Nat->Calls
 | 0=>λ _=>qz
 | d+1=>λ f=>(fs[f]?).map λ F=>(F.np,cQ (xs (aF fs d) F.body) F.N.length)
structure Tbs where
 tb:List (Str×List (Str×Tv))
 cn:List (Str×List Tv)
 st:List (Str×Str)
noncomputable def tab(fs:List Fn)(tb:Tbs):Tx:=⟨fs.map λ F=>(F.name,F.np),tb.tb,tb.cn,tb.st⟩
noncomputable def wD:List Str->Bool
 | []=>true
 | x::r=>!r.contains x&&wD r
theorem aAF:∀ {l:List Str},wD l=true->l.Nodup
 | [],_=>List.nodup_nil
 | x::r,h=>by
   obtain⟨h1,h2⟩:=bV h;refine List.nodup_cons.mpr ⟨λ z=>?_,aAF h2⟩
   have:r.contains x=true:=by simpa using z
   rw[this] at h1;exact no h1
noncomputable def uE(fs:List Fn)(tb:Tbs)(F:Fn):Bool:=
 decide ((bI F.st).kind=.function) && !(bI F.st).isCoroutine && !(bI F.st).isGenerator&&wD F.N&&decide (F.np<=F.N.length)&&(F.N.take F.np).all (loc (bI F.st))&&(bI F.st).names.all (λ y=>!decide (y.2=.free)) &&
  kC (tab fs tb) F.N F.body (bI F.st) (dX F.st)
theorem sF{sc:zw}{x:Str}(h:loc sc x=true):sc.names.lookup x=qq .local\/sc.names.lookup x=qq .cell:=by
 unfold loc at h
 split at h<;>first | exact .inl (by assumption) | exact .inr (by assumption) | exact no h
theorem aJt{fs:List Fn}{tb:Tbs}{F:Fn}(h:uE fs tb F=true):FnScope F.N (F.N.take F.np) (bI F.st)/\kC (tab fs tb) F.N F.body (bI F.st) (dX F.st)=true/\(F.N.take F.np).length=F.np:=by
 obtain⟨h,h8⟩:=bV h;obtain⟨h,h7⟩:=bV h;obtain⟨h,h6⟩:=bV h;obtain⟨h,h5⟩:=bV h;obtain⟨h,h4⟩:=bV h;obtain⟨h,h3⟩:=bV h;obtain⟨h1,h2⟩:=bV h;have hl:(F.N.take F.np).length=F.np:=by
  rw[yBf];have:=oqT h5;omega
 refine⟨⟨oqT h1,?_,?_,aAF h4,by rw[hl],λ x hx=>sF (List.all_eq_true.mp h6 x hx),λ y hy=>?_⟩,h8,hl⟩
 ·cases q:(bI F.st).isCoroutine with
  | false=>rfl
  | true=>rw[q] at h2;exact no h2
 ·cases q:(bI F.st).isGenerator with
  | false=>rfl
  | true=>rw[q] at h3;exact no h3
 ·have:=List.all_eq_true.mp h7 y hy;intro z;rw[dqT z] at this;exact no this
section
variable {P : zq}{w : zx}{K : FrG}{mg : Str -> Option qx}{base : Heap}
theorem aD3(fs:List Fn)(tb:Tbs)(hk:∀ F∈fs,uE fs tb F=true)(top:∀ F∈fs,∃ fa fd,Fun K F.name F.name F.st fa fd/\mg F.name=qq (.ref fa)/\dG K fd (F.N.take F.np) [])(hb:∀ x∈bltNames,mg x=qz)(ht:∀ x aI,(x,aI)∈tb.tb->∃ a,mg x=qq (.ref a)/\mE K w a aI)(hcn:∀ x ts,(x,ts)∈tb.cn->∃ a,mg x=qq (.ref a)/\nV K a ts)(cU:∀ x y,(x,y)∈tb.st->∃ t,mg x=qq (.str y t)) :
 ∀ d f F np call fa fd,fs[f]? = qq F->aF fs d f=qq (np,call)->Fun K F.name F.name F.st fa fd->FnOk P w K mg base fJ d fa fd (F.N.take F.np) (hZ K np call)
 | 0,f,F,np,call,fa,fd,eF,e,Fu=>by cases e
 | d+1,f,F,np,call,fa,fd,eF,e,Fu=>by
   have ih:=aD3 fs tb hk top hb ht hcn cU d;have e2:(F.np,cQ (xs (aF fs d) F.body) F.N.length)=(np,call):=by
    have e':(fs[f]?).map (λ F=>(F.np,cQ (xs (aF fs d) F.body) F.N.length))=qq (np,call):=e
    rw[eF] at e';exact Option.some.inj e'
   cases e2;have hm:F∈fs:=xAi eF;obtain⟨sc,hok,hl⟩:=aJt (hk F hm);refine Fu.ok sc (λ vs H Q E h=>?_) λ cdv A outer s H vs Q E hr h=>?_
   ·obtain⟨F1,L,S,ws,w1,S',hn,R,dl,_⟩:=h;rw[hl,<- hn];exact dl.length.symm
   ·refine⟨_,(ss (T:=tab fs tb) (C:=aF fs d) F.body).2 _ ⟨sc.nd,rfl,rfl,sc.kind,⟨d,hr,λ f' np' call' x' e1 e2=>?_⟩,hb,λ x aI hx=>ht x aI hx,λ x ts hx=>hcn x ts hx,λ x y hx=>cU x y hx⟩ (λ _=>rfl) _ hok,aE5 h⟩
    have e2:((fs.map λ F=>(F.name,F.np))[f']?).map (·.1)=qq x':=e2
    rw[xAb] at e2;cases q:fs[f']? with
    | none=>rw[q] at e2;cases e2
    | some F' =>
      rw[q] at e2;have hx:F'.name=x':=Option.some.inj e2;subst hx;obtain⟨fa',fd',Fu',hmg',hbi'⟩:=top F' (xAi q);exact⟨fa',fd',_,hmg',Fu'.kp,hbi',ih f' F' np' call' fa' fd' q e1 Fu'⟩
end
structure TopFn(K:FrG)(F:Fn):Prop where
 ex:∃ (f:qv) (oc:qx) (od an:Option qv) (sl:Array (Option qx)) (kV dc pm cd ct:qx),yBz K qy F.name=qq (qq (.ref f)) /\
  K.lookup f=qq ⟨oc,od,.func (yBx F.name F.name (gP F.st) (dX F.st) (bI F.st) .none kV dc pm an cd ct),sl⟩/\yDm K cd F.name=true/\yBq K (.ref f)=true
theorem top_mk{K:FrG}{F:Fn}{f:qv}{oc:qx}{od an:Option qv}{sl:Array (Option qx)}{kV dc pm cd ct:qx}(a:yBz K qy F.name=qq (qq (.ref f)))
 (l:K.lookup f=qq ⟨oc,od,.func (yBx F.name F.name (gP F.st) (dX F.st) (bI F.st) .none kV dc pm an cd ct),sl⟩) (c:yDm K cd F.name=true) (k:yBq K (.ref f)=true):TopFn K F:=
 ⟨f,oc,od,an,sl,kV,dc,pm,cd,ct,a,l,c,k⟩
structure TabTop(K:FrG)(w:zx)(t:Str×List (Str×Tv)):Prop where
 ex:∃ (a:qv) (es:Array DictEntry) (ep:Nat),yBz K qy t.1=qq (qq (.ref a))/\(a==sysModules)=false/\K.lookup a=qq {cls:=.type "dict",data:=.dict es ep }/\nW w es.toList t.2
theorem tab_mk{K:FrG}{w:zx}{t:Str×List (Str×Tv)}{a:qv}{es:Array DictEntry}{ep:Nat}(a1:yBz K qy t.1=qq (qq (.ref a)))
 (l1:K.lookup a=qq {cls:=.type "dict",data:=.dict es ep }) (c1:nW w es.toList t.2) (s1:(a==sysModules)=false):TabTop K w t:=⟨a,es,ep,a1,s1,l1,c1⟩
structure ConTop(K:FrG)(t:Str×List Tv):Prop where
 ex:∃ a:qv,yBz K qy t.1=qq (qq (.ref a))/\nV K a t.2
theorem con_mk{K:FrG}{t:Str×List Tv}{a:qv}{its:Array qx}{n:Nat}{od:Option qv}{sl:Array (Option qx)}(a1:yBz K qy t.1=qq (qq (.ref a)))
 (l1:K.lookup a=qq {cls:=.type "tuple",dict:=od,data:=.seq its n,slots:=sl }) (z1:its.size<=100) (c1:wN its.toList t.2):ConTop K t:=
 ⟨a,a1,_,its,n,l1,rfl,rfl,xAg z1 (by decide),c1⟩
structure StTop(K:FrG)(t:Str×Str):Prop where
 ex:∃ k:Tok,yBz K qy t.1=qq (qq (.str t.2 k))
theorem st_mk{K:FrG}{t:Str×Str}{k:Tok}(a1:yBz K qy t.1=qq (qq (.str t.2 k))):StTop K t:=⟨k,a1⟩
def pQ(F:Fn):Prop:=∀ (kV doc pm:qx) (an:Option qv) (cdv ct:qx) (us:List qx),us.length=(F.N.take F.np).length->bindArgs (yBx F.name F.name (gP F.st) (dX F.st) (bI F.st) .none kV doc pm an cdv ct) ⟨us,[]⟩=pure ((F.N.take F.np).zip us)
noncomputable def wS(F:Fn):Bool:=match gP F.st with
 | ⟨[],as,qz,[],_,qz,_⟩=>decide (F.N.take F.np=as.map (·.arg))&&decide (F.N.take F.np).Nodup
 | _=>false
theorem aAE:∀ {ns:List Str}{us:List qx},ns.Nodup->us.length=ns.length->(∀ n∈ns,((ns.zip us).lookup n).isNone=false)/\ns.filterMap (λ n=>((ns.zip us).lookup n).map (n,·))=ns.zip us
 | [],us,_,_=>⟨λ n h=>(nomatch h),by cases us<;>rfl⟩
 | x::ns,[],_,h=>by cases h
 | x::ns,u::us,hn,hl=>by
   obtain⟨h1,h2⟩:=List.nodup_cons.mp hn;obtain⟨i1,i2⟩:=aAE h2 (Nat.succ.inj hl);have e:∀ n∈ns,((x,u)::ns.zip us).lookup n=(ns.zip us).lookup n:=λ n m=>by
    rw[yAy];have:(n==x)=false:=by
     rw[beq_eq_false_iff_ne];rintro rfl;exact h1 m
    rw[this]
   refine⟨λ n m=>?_,?_⟩
   ·rw[List.zip_cons_cons];rcases List.mem_cons.mp m with rfl | m
    ·rw[yAy,beq_self_eq_true];rfl
    ·rw[e n m];exact i1 n m
   ·rw[List.zip_cons_cons,yCi,yAy,beq_self_eq_true];show(x,u)::_=_;congr 1;rw[<- i2];rw[i2];have g:∀ l:List Str,(∀ n∈l,n∈ns)->l.filterMap (λ n=>(((x,u)::ns.zip us).lookup n).map (n,·))=l.filterMap (λ n=>((ns.zip us).lookup n).map (n,·)):=λ l=>by
     induction l with
     | nil=>intro _;rfl
     | cons y l ih=>intro hl;rw[yCi,yCi,e y (hl y xAd),ih λ n m=>hl n (xAf _ m)]
    rw[g ns λ n m=>m,i2]
theorem aDC{F:Fn}(h:wS F=true):pQ F:=by
 intro kV doc pm an cdv ct us hu;unfold wS at h
 split at h
 ·rename_i as kd df e;obtain⟨h1,h2⟩:=bV h;have h1:=oqT h1;rw[e];rw[h1] at hu h2 ⊢;obtain⟨i1,i2⟩:=aAE (oqT h2) hu;have m:((as.map (·.arg)).take (as.map (·.arg)).length).filter (λ n=>(((as.map (·.arg)).zip us).lookup n).isNone)=[]:=by
   rw[yAh,List.filter_eq_nil_iff];intro n hn;rw[i1 n hn];decide
  unfold bindArgs;have q:seqItems? Value.none=(pure qz:Sem (Option (Array qx))):=rfl;simp only[yBx,q,pure_bind,yCg,yDg,yAu,List.forIn_nil,yEo,yEa,List.drop_nil,List.zip_nil_right,yFu,hu,gt_iff_lt,yBa,decide_false,yBh,yAw,if_false,m,List.isEmpty_nil,Bool.not_true,i2,Option.isNone_none]
 ·exact no h
theorem aCG:∀ {ns:List Int}{i:Int},i∈ns->yAj i<=PySem.W.WData.weightAll (ns.map PySem.W.WData.int)
 | [],i,h=>by cases h
 | n::r,i,h=>by
   have e:PySem.W.WData.weightAll ((n::r).map PySem.W.WData.int)=yAj n+1+PySem.W.WData.weightAll (r.map PySem.W.WData.int):=rfl;rw[e];rcases List.mem_cons.mp h with z | z
   ·subst z;omega
   ·have:=aCG z;omega
theorem aJf{ns:List Int}(h:PySem.W.WData.layableAll [PySem.W.WData.list (ns.map PySem.W.WData.int)]=true):∀ i∈ns,yAj i<=1048576:=λ i hi=>by
 have h1:PySem.W.WData.layable (PySem.W.WData.list (ns.map PySem.W.WData.int))=true:=by
  have:=List.all_eq_true.mp h _ xAd;exact this
 have h2:PySem.W.WData.weight (PySem.W.WData.list (ns.map PySem.W.WData.int))<=2^20:=oqT (bV h1).2;exact xAg (aCG hi) h2
theorem aJ7{l:yFs}{n:Nat}{q:zq}{loose:List Str}{XP:(Str->Option qx)->Heap->Prop}{YP:zx->Heap->Prop}{d:DefRec}
 (hn:l.most=qq n) (hdf:d.params.defaults=[])
 (go:∀ (w:zx) (s₀ s₁:qj) (mg mb:Str->Option qx) (fa:qv) (a:qv) (vs:List qx) (ns:List Int),
   PySem.W.Ground q loose [] XP w s₀ mg mb s₁.heap->YP w s₁.heap->mg d.name=qq (.ref fa) ->
   s₁.heap.get? a=qq {cls:=.type "list",data:=.seq vs.toArray }->IntsAre vs ns->ns.length<=n->(∀ i∈ns,yAj i<=1048576)->s₁.gens = #[] ->
   vo (model l.prog w) callerA (.call (.ref fa) ⟨[.ref a],[]⟩) (λ r s'=>r=.ok (.ret (.bool true))/\OldK s₁.heap s'.heap/\s'.os=s₁.os/\AllBare s'.gens) s₁) :
 PySem.W.WalkO q loose XP YP l.row.toRowW d [] (λ f vs=>PySem.call f vs):=by
 intro w s₀ s₁ mg mb G Y fa o pm cd doc dV kV ho hd hcd hD hmg hg args vals as hpre hlay hrd hwl hlo;obtain rfl:dV=.none:=PySem.W.Dflts.none hD hdf;obtain rfl:kV=.none:=PySem.W.Dflts.noKw hD;obtain⟨a,vs,ns,rfl,rfl,hobj,hints,bW⟩:=Att.script_of hn hpre hwl;refine PySem.W.enter_call (codeAny_mono (go w s₀ s₁ mg mb fa a vs ns G Y hmg hobj hints bW (aJf hlay) hg) λ r s' hq=>?_)
 obtain⟨rfl,h2,h3,h4⟩:=hq;exact⟨.inl ⟨.bool true,.bool true,[],rfl,λ _=>rfl,.bool true,Att.post_true l _,λ _=>⟨List.Pairwise.nil,λ _ hm=>(nomatch hm)⟩⟩,h2,h3,h4⟩
structure Trc(h:Heap)(h0:Heap)(H:Hp)(e:qv)(cls:qx)(dx:Option qv)(fl:Option qx):Prop where
 ex:∃ oe vs,h.get? e=qq oe/\oe.cls=cls/\oe.dict=dx/\oe.data=.fields vs/\1<vs.size/\h0.get? e=qz/\H e=qz /\
  (fl=qz/\vs[1]? = qq .none\/∃ f T oT ts,fl=qq f/\vs[1]? = qq (.ref T)/\T≠e/\h0.get? T=qz/\H T=qz/\h.get? T=qq oT/\oT.data=.fields ts/\ts[3]? = qq f)
structure Chg(fs:List qv)(h0:Heap)(H:Hp)(h h':Heap):Prop where
 keep:∀ b o,h.get? b=qq o->b ∉ fs->(h0.get? b≠qz\/H b≠qz\/∀ vs,o.data≠.fields vs)->h'.get? b=qq o
 slot:∀ b o,h.get? b=qq o->b∈fs->(∀ vs,o.data≠.fields vs)->∃ sl,h'.get? b=qq {o with slots:=sl }
 there:∀ b o,h.get? b=qq o->∃ o',h'.get? b=qq o'
theorem Chg.refl{fs:List qv}{h0:Heap}{H:Hp}{h:Heap}:Chg fs h0 H h h:=⟨λ _ _ e _ _=>e,λ _ o e _ _=>⟨o.slots,e⟩,λ _ o e=>⟨o,e⟩⟩
theorem Chg.trans{fs:List qv}{h0:Heap}{H:Hp}{h h1 h2:Heap}(a:Chg fs h0 H h h1)(b:Chg fs h0 H h1 h2):Chg fs h0 H h h2:=
 ⟨λ c o e n q=>b.keep c o (a.keep c o e n q) n q,λ c o e n q=>by
  obtain⟨sl,e1⟩:=a.slot c o e n q;obtain⟨sl2,e2⟩:=b.slot c _ e1 n q;exact⟨sl2,e2⟩,λ c o e=>let ⟨o1,e1⟩:=a.there c o e;b.there c o1 e1⟩
section
variable {M : Model}{A : zv}{E : qx -> qj -> Prop}{s : qj}
theorem aJH{base:Heap}{env:Env}{outer:List Env}{L e:qv}{oe:Obj}{vs:Array qx}{head:qx}{hadNext:Bool}{Q:Unit->qj->Prop}
 (hfr:A.frames=qq (env::outer)) (hl:s.heap.FunFrames base (env::outer)) (hf:env.frame=qq L) (he:s.heap.get? e=qq oe) (hd:oe.data=.fields vs) (hsz:1<vs.size)
 (h:∀ h' T oT ts,h'.get? e=qq (oe.mapFields (·.setIfInBounds 1 (.ref T)))->s.heap.objs.size<=T->h'.get? T=qq oT->oT.data=.fields ts->ts[3]? = qq (jy L) ->
   (∀ b o,s.heap.get? b=qq o->b≠e->b ∉ dB (env::outer)->h'.get? b=qq o)->(∀ b o,s.heap.get? b=qq o->b≠e->∃ sl,h'.get? b=qq {o with slots:=sl })->Q () {s with heap:=h' }) :
 qu M A (do let a <- frameOf env;let pl <- entryPlaceOf L hadNext;let b <- EntryCells.newEntry head a .none (jy L) .none pl;setField (.ref e) 1 b) Q E s:=by
 have hene:e ∉ (env::outer).filterMap (·.frame):=λ hm=>by
  obtain⟨_,o,ho,hnf⟩:=hl.mem hm;rw[he] at ho;cases ho;exact hnf vs hd
 refine wB (wpAny_frameOf_fun hfr hl hf λ h1 hs1=>?_)
 refine wB (wpAny_entryPlaceOf λ pl hpl=>?_)
 unfold EntryCells.newEntry newFields;refine wB (xu ?_ (hpl.sizeOk5 _ _ _ _ _));have he1:h1.get? e=qq oe:=(hs1.2.1 e hene).trans he;generalize hob:({cls:=.type "traceback",dict:=qz,data:=.fields ([head,.ref L,.none,jy L,.none]++(if pl.isEmpty then yAg 6 Value.none else pl)).toArray }:Obj)=ob
 have hobd:ob.data=.fields ([head,.ref L,.none,jy L,.none]++(if pl.isEmpty then yAg 6 Value.none else pl)).toArray:=by rw[<- hob]
 have he2:=hpS (h:=h1) ob he1;refine wpAny_setField he2 hd hsz ?_;have hTe:h1.objs.size≠e:=yEk (xAa he1);have hd3:=Obj.data_mapFields hd (·.setIfInBounds 1 (Value.ref h1.objs.size));have hfr:ob.isFreed=false:=Obj.isFreed_of_fields hobd;refine h _ h1.objs.size ob _ (yBy _ he2 (Obj.isFreed_of_fields hd3)) (by rw[hs1.1];exact yAe _) ?_ hobd (by simp) (λ b o hb hbe hbf=>?_) λ b o hb hbe=>?_
 ·rw[yBm _ _ (Ne.symm hTe)];exact xAe h1 hfr
 ·rw[yBm _ _ (Ne.symm hbe)];exact hpS _ ((hs1.2.1 b hbf).trans hb)
 ·obtain⟨sl,hs⟩:=hs1.2.2 b o hb;exact⟨sl,by rw[yBm _ _ (Ne.symm hbe)];exact hpS _ hs⟩
theorem aKY{base:Heap}{env:Env}{outer:List Env}{L e:qv}{cls:qx}{dx:Option qv}{fl:Option qx}{h0:Heap}{H:Hp}{Q:Unit->qj->Prop}
 (hfr:A.frames=qq (env::outer)) (hl:s.heap.FunFrames base (env::outer)) (hf:env.frame=qq L) (hlo:∀ b,s.heap.objs.size<=b->h0.get? b=qz) (hH:∀ b,s.heap.objs.size<=b->H b=qz) (ht:Trc s.heap h0 H e cls dx fl)
 (hfl:fl=qz\/fl=qq .none\/fl=qq (jy L)) (h:∀ h',Trc h' h0 H e cls dx (qq (jy L))->Chg (dB (env::outer)) h0 H s.heap h'->Q () {s with heap:=h' }):qu M A (noteFrame (.ref e) env) Q E s:=by
 obtain⟨oe,vs,he,hc,hdx,hd,hsz,hle,hHe,ht⟩:=id ht.ex;have last:∀ {s1:qj}{head:qx}{hn:Bool},s1.heap.FunFrames base (env::outer)->s1.heap.get? e=qq oe->s1.heap.objs.size=s.heap.objs.size->Chg (dB (env::outer)) h0 H s.heap s1.heap->(∀ h',Q () {s1 with heap:=h' }=Q () {s with heap:=h' }) ->
  qu M A (do let a <- frameOf env;let pl <- entryPlaceOf L hn;let b <- EntryCells.newEntry head a .none (jy L) .none pl;setField (.ref e) 1 b) Q E s1:=by
  intro s1 head hn hl1 he1 hz c1 hQ;refine aJH hfr hl1 hf he1 hd hsz λ h' T oT ts x1 x2 x3 x4 x5 x6 x7=>?_
  rw[hQ];have hT:s.heap.objs.size<=T:=by rw[<- hz];exact x2
  have hTe:T≠e:=λ z=>by
   have:=xAa he;rw[<- z] at this;exact absurd (xAc this hT) (yBa _)
  refine h h' ⟨_,_,x1,?_,?_,Obj.data_mapFields hd _,by simpa using hsz,hle,hHe,.inr ⟨_,T,oT,ts,rfl,by simp[hsz],hTe,hlo T hT,hH T hT,x3,x4,x5⟩⟩ (c1.trans ⟨λ b o hb hn hq=>x6 b o hb (λ z=>?_) hn,λ b o hb hm hnf=>x7 b o hb (λ z=>?_),λ b o hb=>?_⟩)
  ·rw[Obj.cls_mapFields];exact hc
  ·have:(oe.mapFields (·.setIfInBounds 1 (Value.ref T))).dict=oe.dict:=by
    obtain⟨_,_,dt,_⟩:=oe;cases dt<;>rfl
   rw[this];exact hdx
  ·subst z;rw[he1] at hb;cases hb;rcases hq with q | q | q
   ·exact q hle
   ·exact q hHe
   ·exact q vs hd
  ·subst z;rw[he1] at hb;cases hb;exact hnf vs hd
  ·by_cases z:b=e
   ·subst z;exact⟨_,x1⟩
   ·obtain⟨sl,q⟩:=x7 b o hb z;exact⟨_,q⟩
 rcases ht with ⟨rfl,h1⟩ | ⟨f,T,oT,ts,rfl,h1,hTe,hTlo,hHT,hT,hdT,h3⟩
 ·unfold noteFrame;simp only[hf];refine wB (xy he hd h1 ?_);rw[if_neg (by decide)]
  exact last hl he rfl .refl λ _=>rfl
 ·by_cases hfL:f=jy L
  ·subst hfL;unfold noteFrame;simp only[hf];refine wB (xy he hd h1 ?_);rw[if_pos (show(Value.ref T != Value.none)=true from by simp)]
   refine wB (xy hT hdT h3 ?_);rw[if_pos (show(jy L==jy L)=true from by simp)]
   exact wP (h s.heap ht .refl)
  ·obtain rfl:f=.none:=by
    rcases hfl with z | z | z
    ·cases z
    ·cases z;rfl
    ·cases z;exact absurd rfl hfL
   unfold noteFrame;simp only[hf];refine wB (xy he hd h1 ?_);rw[if_pos (show(Value.ref T != Value.none)=true from by simp)]
   refine wB (xy hT hdT h3 ?_);rw[if_neg (show ¬ ((Value.none==jy L)=true) from by simp[jy])]
   refine wB (wpAny_setField hT hdT (Array.getElem?_eq_some_iff.mp h3).1 ?_);have other:∀ b,b≠T->(s.heap.update T (Obj.mapFields (·.setIfInBounds 3 Value.none))).get? b=s.heap.get? b:=λ b hb=>yBm _ _ (Ne.symm hb)
   have noRec:∀ b o,s.heap.get? b=qq o->(∀ vs,o.data≠.fields vs)->b≠T:=λ b o hb hnf q=>by
    subst q;rw[hT] at hb;cases hb;exact hnf ts hdT
   refine last (hl.of_keeps λ b o hb hnf=>⟨o,(other b (noRec b o hb hnf)).trans hb,rfl⟩) ((other e (Ne.symm hTe)).trans he) (Heap.size_after_update ..) ⟨λ b o hb hn hq=>(other b λ z=>?_).trans hb,λ b o hb hm hnf=>⟨o.slots,(other b (noRec b o hb hnf)).trans hb⟩,λ b o hb=>?_⟩ λ _=>rfl
   ·subst z;rw[hT] at hb;cases hb;rcases hq with q | q | q
    ·exact q hTlo
    ·exact q hHT
    ·exact q ts hdT
   ·by_cases z:b=T
    ·subst z;exact⟨_,yBy _ hT (Obj.isFreed_of_fields (Obj.data_mapFields hdT _))⟩
    ·exact⟨o,(other b z).trans hb⟩
theorem aI1{e:qv}{cls:qx}{dx:Option qv}{f:qx}{h0:Heap}{H:Hp}{fs:List qv}{v:Option qv}{Q:Unit->qj->Prop}(ht:Trc s.heap h0 H e cls dx (qq f))
 (h:∀ h',Trc h' h0 H e cls dx (qq (v.elim .none λ f=>jy f))->Chg fs h0 H s.heap h'->Q () {s with heap:=h' }):qu M A (setFlight (.ref e) v) Q E s:=by
 obtain⟨oe,vs,he,hc,hdx,hd,hsz,hle,hHe,ht⟩:=ht.ex;rcases ht with ⟨z,_⟩ | ⟨f',T,oT,ts,z,h1,hTe,hTlo,hHT,hT,hdT,h3⟩
 ·cases z
 cases z;have hsz3:3<ts.size:=(Array.getElem?_eq_some_iff.mp h3).1;unfold setFlight;refine wB (xy he hd h1 ?_);rw[if_pos (show(Value.ref T != Value.none)=true from by simp)]
 have other:∀ b,b≠T->(s.heap.update T (Obj.mapFields (·.setIfInBounds 3 (v.elim Value.none λ f=>jy f)))).get? b=s.heap.get? b:=λ b hb=>yBm _ _ (Ne.symm hb)
 have noRec:∀ b o,s.heap.get? b=qq o->(∀ vs,o.data≠.fields vs)->b≠T:=λ b o hb hnf q=>by
  subst q;rw[hT] at hb;cases hb;exact hnf ts hdT
 have hT2:=yBy (Obj.mapFields (·.setIfInBounds 3 (v.elim Value.none λ f=>jy f))) hT (Obj.isFreed_of_fields (Obj.data_mapFields hdT _))
 refine wpAny_setField hT hdT hsz3 (h _ ⟨oe,vs,(other e (Ne.symm hTe)).trans he,hc,hdx,hd,hsz,hle,hHe,.inr ⟨_,T,_,_,rfl,h1,hTe,hTlo,hHT,hT2,Obj.data_mapFields hdT _,by simp[hsz3]⟩⟩ ⟨λ b o hb hn hq=>(other b λ z=>?_).trans hb,λ b o hb hm hnf=>⟨o.slots,(other b (noRec b o hb hnf)).trans hb⟩,λ b o hb=>?_⟩)
 ·subst z;rw[hT] at hb;cases hb;rcases hq with q | q | q
  ·exact q hTlo
  ·exact q hHT
  ·exact q ts hdT
 ·by_cases z:b=T
  ·subst z;exact⟨_,hT2⟩
  ·exact⟨o,(other b z).trans hb⟩
end
structure Bel(X:Cx)(aA:List (qv×Obj))(h0:Heap):Prop where
 s0:∀ b o,X.s₀.heap.get? b=qq o->b ∉ X.ex->h0.get? b≠qz
 loc:h0.get? X.env.locals≠qz
 cell:∀ x c,X.env.cells.lookup x=qq c->h0.get? c≠qz
 pin:∀ p∈X.pn++aA,h0.get? p.1≠qz
theorem jZ{h:Heap}{b:qv}{o:Obj}(e:h.get? b=qq o):h.get? b≠qz:=by rw[e];simp
theorem sA{X:Cx}{aA:List (qv×Obj)}{σ:L2.St}{H:Hp}{s:qj}(I:Inv X aA σ H s):Bel X aA s.heap:=
 ⟨λ b o e n=>let ⟨_,e'⟩:=I.base.there b o e n;jZ e',let ⟨_,⟨_,_,_,ho,_⟩,_⟩:=I.loc;jZ ho,λ x c e=>let ⟨v,o,ho,_⟩:=I.cell x c e;jZ ho,λ p hp=>jZ (I.pin p hp).1⟩
theorem aEk{X:Cx}{aA:List (qv×Obj)}{σ:L2.St}{H:Hp}{s:qj}{h0 h':Heap}(I:Inv X aA σ H s)(B:Bel X aA h0)(c:Chg (dB X.stack) h0 H s.heap h'):Inv X aA σ H {s with heap:=h' }:=by
 have nfs:∀ b u,H b=qq u->b ∉ dB X.stack:=λ b u e z=>by rw[I.stkFree b z] at e;cases e
 have hnf:∀ b∈dB X.stack,∀ o,s.heap.get? b=qq o->∀ vs,o.data≠.fields vs:=λ b hb o ho vs=>by
  obtain⟨_,o',ho',hd⟩:=I.stack.mem hb;rw[ho] at ho';cases ho';exact hd vs
 have any:∀ b o,s.heap.get? b=qq o->h0.get? b≠qz->∃ sl,h'.get? b=qq {o with slots:=sl }:=λ b o e n=>by
  by_cases hb:b∈dB X.stack
  ·exact c.slot b o e hb (hnf b hb o e)
  ·exact⟨o.slots,c.keep b o e hb (.inl n)⟩
 have neL:∀ b o,X.s₀.heap.get? b=qq o->b≠X.env.locals:=λ b o e=>xAh (xAc (xAa e) I.ok.above)
 have cellK:∀ x k,X.env.cells.lookup x=qq k->∀ v,s.heap.IsCell k v->h'.IsCell k v:=λ x k e v aJ=>by
  obtain⟨o,ho,hd⟩:=aJ;obtain⟨sl,q⟩:=any k o ho (B.cell x k e);exact⟨_,q,hd⟩
 refine⟨I.ok,I.os,I.bare,⟨λ b o e n hb hx=>?_,λ b o e n hb hx=>?_,I.base.free,λ b o e hx=>?_,I.base.tups,I.base.frzs,I.base.tbls⟩,?_,λ x k e=>?_,I.free,I.freeC,λ p hp=>?_,λ b u e=>?_,I.len⟩
 ·exact c.keep b o (I.base.keep b o e n hb hx) (λ z=>(List.mem_cons.mp (I.stkSub b z)).elim (neL b o e) hb) (.inl (B.s0 b o e hx))
 ·obtain⟨sl,e1⟩:=I.base.slot b o e n hb hx;obtain⟨sl',e2⟩:=any b _ e1 (B.s0 b o e hx);exact⟨sl',e2⟩
 ·obtain⟨o',e1⟩:=I.base.there b o e hx;exact c.there b o' e1
 ·obtain⟨m,⟨o,es,ep,ho,r⟩,hl⟩:=I.loc;obtain⟨sl,q⟩:=any _ o ho B.loc;refine⟨m,⟨_,es,ep,q,r⟩,λ i x v e1 e2 e3=>?_⟩
  obtain⟨u,r,l⟩:=hl i x v e1 e2 e3;refine⟨u,r,?_⟩;rcases l with l | ⟨k,d,e,z⟩
  ·exact .inl l
  ·exact .inr ⟨k,d,e,cellK x d e _ z⟩
 ·obtain⟨v,z⟩:=I.cell x k e;exact⟨v,cellK x k e v z⟩
 ·obtain⟨e,n,ne,nf,d⟩:=I.pin p hp;exact⟨c.keep p.1 p.2 e (λ z=>(List.mem_cons.mp (I.stkSub _ z)).elim ne nf) (.inl (B.pin p hp)),n,ne,nf,d⟩
 ·refine(I.hok b u e).stay (λ d v hd q=>c.keep d v q ?_ (.inr (.inl ?_))) (λ _ q=>q) λ _ _ q=>q
  ·rcases hd with z | z
   ·rw[z];exact nfs b u e
   ·exact nfs d _ z
  ·rcases hd with z | z
   ·rw[z,e];simp
   ·rw[z];simp
abbrev XW:=L2.St->qx->Option qv->Hp->Prop
def jC(X:Cx)(W:XW)(e:qx)(s:qj):Prop:=∃ a cls dx fl h0 σ H,e=.ref a/\Inv X [] σ H s/\Trc s.heap h0 H a cls dx fl/\(fl=qz\/fl=qq .none\/fl=qq (jy X.env.locals))/\Bel X [] h0/\(∀ b,h0.get? b≠qz->s.heap.get? b≠qz)/\W σ cls dx H
noncomputable def iQ(P:zq)(w:zx):gZ:=λ outer H s E e s'=>∃ a cls dx H',e=.ref a/\s'.os=s.os/\AllBare s'.gens/\Un (dB outer) [] H H' s.heap s'.heap/\cO P w H' s'.heap/\Trc s'.heap s.heap H' a cls dx (qq .none)/\E cls dx H'
structure Dfb(X:Cx):Prop where
 stk:X.stack=X.env::X.outer
 frm:X.env.frame=qq X.env.locals
 ex:X.ex=[]
theorem aHG{h0 h:Heap}(q:∀ b,h0.get? b≠qz->h.get? b≠qz):∀ b,h.objs.size<=b->h0.get? b=qz:=λ b hb=>by
 cases e:h0.get? b with
 | none=>rfl
 | some o =>
   have:=q b (jZ e);cases e2:h.get? b with
   | none=>exact absurd e2 this
   | some o2=>exact absurd (xAc (xAa e2) hb) (yBa _)
theorem Chg.stay{fs:List qv}{h0 h1:Heap}{H:Hp}{h h':Heap}(c:Chg fs h1 H h h')(q:∀ b,h0.get? b≠qz->h.get? b≠qz):∀ b,h0.get? b≠qz->h'.get? b≠qz:=λ b hb=>by
 have:=q b hb;cases e:h.get? b with
 | none=>exact absurd e this
 | some o=>obtain⟨o',e'⟩:=c.there b o e;exact jZ e'
theorem pK{X:Cx}{aA:List (qv×Obj)}{σ:L2.St}{H:Hp}{s:qj}(I:Inv X aA σ H s):Inv X [] σ H s:=
 ⟨I.ok,I.os,I.bare,I.base,I.loc,I.cell,I.free,I.freeC,λ p hp=>I.pin p (by rw[yAu] at hp;exact yBk _ hp),I.hok,I.len⟩
theorem Trc.down{h h0 h1:Heap}{H:Hp}{e:qv}{cls:qx}{dx:Option qv}{fl:Option qx}(t:Trc h h1 H e cls dx fl)(q:∀ b,h0.get? b≠qz->h1.get? b≠qz):Trc h h0 H e cls dx fl:=by
 have z:∀ b,h1.get? b=qz->h0.get? b=qz:=λ b hb=>by
  cases e:h0.get? b with
  | none=>rfl
  | some o=>exact absurd hb (q b (jZ e))
 obtain⟨oe,vs,he,hc,hdx,hd,hsz,hle,hHe,ht⟩:=t.ex;refine⟨oe,vs,he,hc,hdx,hd,hsz,z e hle,hHe,?_⟩;rcases ht with t | ⟨f,T,oT,ts,a,b,c,d,r⟩
 ·exact .inl t
 ·exact .inr ⟨f,T,oT,ts,a,b,c,z T d,r⟩
theorem aAH{X:Cx}{A:zv}{W:XW}{e:qx}{s:qj}{E:qx->qj->Prop}{Q:Unit->qj->Prop}(D:Dfb X)(hA:A.frames=X.A.frames)(h:jC X W e s)
 (hq:∀ a cls dx h0 σ H s',e=.ref a->Inv X [] σ H s'->Trc s'.heap h0 H a cls dx (qq (jy X.env.locals))->Bel X [] h0->(∀ b,h0.get? b≠qz->s'.heap.get? b≠qz)->W σ cls dx H->Q () s'):qu (model X.prog X.w) A (noteFrame e X.env) Q E s:=by
 obtain⟨a,cls,dx,fl,h0,σ,H,rfl,I,T,hfl,B,hb,hw⟩:=h;have hs:=I.stack;rw[D.stk] at hs;refine aKY (by rw[hA,I.ok.frames,D.stk]) hs D.frm (aHG hb) (λ b=>I.hok.fresh) T hfl λ h' T' c=>?_
 rw[<- D.stk] at c;exact hq a cls dx h0 σ H _ rfl (aEk I B c) T' B (c.stay hb) hw
theorem rP{X:Cx}{A:zv}{σ:L2.St}{H:Hp}{a:qv}{cls f:qx}{dx:Option qv}{h0:Heap}{s:qj}{v:Option qv}{E:qx->qj->Prop}{Q:Unit->qj->Prop}(I:Inv X [] σ H s)(T:Trc s.heap h0 H a cls dx (qq f))(B:Bel X [] h0)(hb:∀ b,h0.get? b≠qz->s.heap.get? b≠qz)
 (hq:∀ s',Inv X [] σ H s'->Trc s'.heap h0 H a cls dx (qq (v.elim .none λ f=>jy f))->(∀ b,h0.get? b≠qz->s'.heap.get? b≠qz)->Q () s'):qu (model X.prog X.w) A (setFlight (.ref a) v) Q E s:=
 aI1 (fs:=dB X.stack) T λ h' T' c=>hq _ (aEk I B c) T' (c.stay hb)
theorem aJm{P:zq}{w:zx}{K:FrG}{mg:Str->Option qx}{base:Heap}{N:List Str}{bF:Str}{scope:zw}{f:qv}{cd:qx}{A:zv}{outer:List Env}{s:qj}{H:Hp}{E:XK}{e:qx}{s':qj}
 (h:jC (gW (iQ P w) P w K mg base N bF scope f cd A outer s H E) (λ _=>E) e s'):(gW (iQ P w) P w K mg base N bF scope f cd A outer s H E).xe e s':=by
 unfold gW leaving;refine wB (aAH (X:=gW (iQ P w) P w K mg base N bF scope f cd A outer s H E) ⟨rfl,rfl,rfl⟩ rfl h λ a cls dx h0 σ H' s1 ea I T B hb hw=>?_)
 subst ea;refine rP (X:=gW (iQ P w) P w K mg base N bF scope f cd A outer s H E) (v:=qz) I T B hb λ s2 I2 T2 hb2=>?_
 exact⟨a,cls,dx,H',rfl,I2.os,I2.bare,I2.base,I2.hok,T2.down λ b hb=>by
  cases q:s.heap.get? b with
  | none=>exact absurd q hb
  | some o=>exact B.s0 b o q (by intro z;cases z),hw⟩
theorem aEd{X:Cx}{W:XW}(D:Dfb X):PassesOwn (model X.prog X.w) X.A X.env (jC X W):=λ e s h=>by
 refine aAH D rfl h λ a cls dx h0 σ H s1 ea I T B hb hw=>?_
 subst ea;obtain⟨oe,vs,he,hc,hdx,hd,hsz,hle,hHe,ht⟩:=id T.ex;rcases ht with ⟨z,_⟩ | ⟨f',Tb,oT,ts,z,h1,_⟩
 ·cases z
 cases z;unfold cameBackBy;refine wB (xy he hd h1 ?_);rw[if_neg (by simp)]
 refine rP I T B hb λ s2 I2 T2 hb2=>?_
 rw[D.frm] at T2;exact⟨a,cls,dx,_,h0,σ,H,rfl,I2,T2,.inr (.inr rfl),B,hb2,hw⟩
theorem jC.unwish{X:Cx}{E:qx->qj->Prop}{W:XW}{e:qx}{s:qj}(h:jC (X.wish E) W e s):jC X W e s:=by
 obtain⟨a,cls,dx,fl,h0,σ,H,ea,I,T,hfl,B,hb,hw⟩:=h;exact⟨a,cls,dx,fl,h0,σ,H,ea,I.unwish,T,hfl,⟨B.s0,B.loc,B.cell,B.pin⟩,hb,hw⟩
theorem Dfb.wish{X:Cx}(D:Dfb X)(E:qx->qj->Prop):Dfb (X.wish E):=⟨D.stk,D.frm,D.ex⟩
section
variable {P : zq}{w : zx}{K : FrG}{mg : Str -> Option qx}{base : Heap}
theorem bN.wish{X:Cx}{E:qx->qj->Prop}(hE:∀ e s,E e s->X.xe e s){st:List zy}{t:TS}(h:bN (X.wish E) st t):bN X st t:=λ aA s σ H D I hw =>
 wpAny_mono (h aA s σ H D (I.wish _) hw) (λ _ _ q=>q.unwish) hE
theorem Fun.okX{x bF:Str}{st:zy}{f:qv}{fd:jz}{N ps:List Str}{k:Nat}{sp:Sp}(F:Fun K x bF st f fd)(S:FnScope N ps (bI st))(len:∀ vs H Q E,sp vs H Q E->vs.length=ps.length)
 (hbody:∀ (X:Cx) (A:zv) (vs:List V) (H:Hp) (Q:VK) (E:XK),X.prog=P->X.w=w->X.K=K->X.mg=mg->X.base=base->X.N=N->X.env.scope=bI st->X.calm=true->(∀ x,X.fn x=true)->Dfb X->Room k X.A->sp vs H Q E ->
   ∃ t,bN (X.wish (jC X λ _=>E)) (dX st) t/\t {nx:=λ _ H'=>Q .non H',rt:=Q } (start N vs) H):FnOk P w K mg base (iQ P w) (k+1) f fd ps sp:=by
 obtain⟨oc,od,kV,doc,pm,an,cdv,ct,osl,rfl,lk,hcd⟩:=F.ex;refine aGl lk hcd S len λ A outer s H vs Q E hr hsp=>?_
 obtain⟨t,h,q⟩:=hbody (gW (iQ P w) P w K mg base N bF (bI st) f cdv A outer s H E) A vs H Q E rfl rfl rfl rfl rfl rfl rfl rfl (λ _=>rfl) ⟨rfl,rfl,rfl⟩ hr hsp
 exact⟨t,bN.wish (λ e s h=>aJm h) h,q⟩
end
section
variable {X : Cx}{k : Nat}{f : qv}{fd : jz}{ps : List Str}{sp : Sp}{W : XW}{x : Str}{p pos : Pos}{e : qw}{es : List qw}{t : TA}
def sW(X:Cx)(W:XW):Prop:=∀ e s,jC X W e s->X.xe e s
theorem aK9{aA:List (qv×Obj)}{σ:L2.St}{H:Hp}{s:qj}{Q:VK}{us:List qx}{vs:List V}(F:FnOk X.prog X.w X.K X.mg X.base (iQ X.prog X.w) k f fd ps sp)(hr:Room k X.A)(hb:dG X.K fd ps [])(hx:sW X W)
 (I:Inv X aA σ H s) (r:aO vs us) (h:sp vs H Q (W σ)):qu (model X.prog X.w) X.A (call (.ref f) us) (EP X aA σ Q) X.xe s:=by
 have hl:(us++[]).length=ps.length:=by rw[yAu,<- r.length];exact F.len _ _ _ _ h
 have hbb:=hb s us I.kIn hl;rw[yAu] at hbb;refine wpAny_call (codeAny_mono (F.run X.A X.stack s H ⟨us,[]⟩ us vs Q (W σ) hr I.env0 hbb r h) λ r s' hq=>?_)
 cases r with
 | error e =>
   obtain⟨a,cls,dx,H',rfl,os,bare,un,hok,T,q⟩:=hq;have I2:Inv X aA σ H' s':=I.call' (ch:=[]) os un hok bare λ b z=>absurd z (by simp)
   exact hx _ _ ⟨a,cls,dx,_,s.heap,σ,H',rfl,pK I2,T,.inr (.inl rfl),sA (pK I),λ b hb=>by
    cases q:s.heap.get? b with
    | none=>exact absurd q hb
    | some o=>obtain⟨o',e'⟩:=un.there b o q (by simp);exact jZ e',q⟩
 | ok fl =>
   cases fl with
   | ret u=>exact I.after hq
   | next=>exact False.elim hq
   | brk=>exact False.elim hq
   | cont=>exact False.elim hq
def aFz(sp:Sp)(W:XW)(t:TA):TE:=λ σ H Q=>t σ H λ vs H1=>sp vs H1 Q (W σ)
theorem aJh(F:FnOk X.prog X.w X.K X.mg X.base (iQ X.prog X.w) k f fd ps sp)(hr:Room k X.A)(hg:Gl X x)(hm:X.mg x=qq (.ref f))(hk:yBq X.K (.ref f)=true)(hb:dG X.K fd ps [])(hx:sW X W)
 (ha:PA X (e::es) t) (hdb:(x==("__debug__" : Str))=false) (he:zj (e::es) X.env=(false,eval e X.env)::zj es X.env) (hpl:(backTo pos (zj es X.env)).any (·.1)=false) :
 PE X (.Call (.Name x p) (e::es) [] pos) (aFz sp W t):=by
 intro aA s σ H Q I h;refine jq (kS I hg hm ?_ hdb);refine yDu (h₀:=X.base) I.ok.mod.kin hk (aU (ha pos aA s σ H _ I h) λ us s1 ⟨vs,H1,I1,r,q⟩=>⟨I1.kIn,?_⟩) he hpl
 exact aK9 F hr hb hx I1 r q
end
inductive FlX where
 | fl (f:Fl) | ex (env:aS) (c:Str) (r:D)
abbrev FX:=aS->aB->Option (FlX×aB)
inductive ResX where
 | ok (w:W) | ex (c:Str) (r:D)
abbrev jK:=aS->aB->Option (ResX×aB)
def oP(K:FrG)(F:Hp)(c:Str)(r:D)(cls:qx)(dx:Option qv):Prop:=∃ C,cls=.ref C/\yBz K qy c=qq (qq (.ref C))/\tH F dx r
theorem oP.mono{K:FrG}{F F':Hp}(e:bO F F'){c:Str}{r:D}{cls:qx}{dx:Option qv}(h:oP K F c r cls dx):oP K F' c r cls dx:=let ⟨C,h1,h2,h3⟩:=h;⟨C,h1,h2,h3.mono e⟩
section
variable (K : FrG)(W : XW)
noncomputable def aOB(D:Ends)(F':Hp)(L':List qv)(H':Hp):FlX->Prop
 | .fl f=>yB K D F' L' H' f
 | .ex env c r=>∀ σ cls dx,EnvR K F' L' env σ->oP K F' c r cls dx->W σ cls dx H'
def tX(f:FX):TS:=λ D σ H=>∃ F L S env fx S',Rel K F L S H/\EnvR K F L env σ/\f env S=qq (fx,S')/\∀ F' L' H',Gr F L F' L'->Rel K F' L' S' H'->aOB K W D F' L' H' fx
noncomputable def sU(F:Hp)(L:List qv)(S':aB)(Q:VK)(E:XK):ResX->Prop
 | .ok w=>oG K F L S' w Q
 | .ex c r=>∀ F' L' H' cls dx,Gr F L F' L'->Rel K F' L' S' H'->oP K F' c r cls dx->E cls dx H'
def oW(f:jK):TE:=λ σ H Q=>∃ F L S env res S',Rel K F L S H/\EnvR K F L env σ/\f env S=qq (res,S')/\sU K F L S' Q (W σ) res
noncomputable def oV(np:Nat)(call:List EV.W->aB->Option (ResX×aB)):Sp:=λ vs H Q E=>∃ F L S ws res S',ws.length=np/\Rel K F L S H/\WDenL K F L ws vs/\call ws S=qq (res,S')/\sU K F L S' Q E res
end
theorem sU.mono{K:FrG}{F F1:Hp}{L L1:List qv}{S':aB}{Q:VK}{E:XK}{res:ResX}(g:Gr F L F1 L1)(h:sU K F L S' Q E res):sU K F1 L1 S' Q E res:=by
 cases res with
 | ok w=>exact λ F2 L2 H2 v g2 R2 d2=>h F2 L2 H2 v (g.trans g2) R2 d2
 | ex c r=>exact λ F2 L2 H2 cls dx g2 R2 x2=>h F2 L2 H2 cls dx (g.trans g2) R2 x2
section
variable {X : Cx}{W : XW}{pos : Pos}
theorem PS.nox{st:zy}{t:TS}(h:PS X.nox st t):PS X st t:=λ aA s σ H D I hw =>
 wpAny_mono (h aA s σ H D (I.wish _) hw) (λ _ _ q=>q.unwish) λ _ _ z=>False.elim z
theorem PA.nox{es:List qw}{t:TA}(h:PA X.nox es t):PA X es t:=λ pos aA s σ H Q I hw =>
 wpAny_mono (h pos aA s σ H Q (I.wish _) hw) (λ _ _ hPr4=>by obtain⟨v,H',I',r,q⟩:=hPr4;exact⟨v,H',I'.unwish,r,q⟩) λ _ _ z=>False.elim z
noncomputable def xP(f:FS):FX:=λ env S=>(f env S).bind λ p=>qq (.fl p.1,p.2)
theorem aQw{K:FrG}{f:FS}(D:Ends)(σ:L2.St)(H:Hp)(h:tX K W (xP f) D σ H):cE K f D σ H:=by
 obtain⟨F,L,S,env,fx,S',R,E,e,q⟩:=h;obtain⟨⟨fl,S1⟩,e1,e2⟩:=bind_some e;cases e2;exact gR R E e1 q
theorem x_s{st:zy}{f:FS}(h:PS X.nox st (cE X.K f)):PS X st (tX X.K W (xP f)):=PS.weak (PS.nox h) aQw
noncomputable def aFY:FX:=λ env S=>qq (.fl (.nx env),S)
theorem aPJ:bN X [] (tX X.K W aFY):=bN.weak aAV λ D σ H h=>by
 obtain⟨F,L,S,env,fx,S',R,E,e,q⟩:=h;cases e;exact q F L H Gr.refl R σ E
noncomputable def aGV(fa fb:FX):FX:=λ env S=>(fa env S).bind λ p=>match p.1 with
 | .fl (.nx e)=>fb e p.2
 | fl=>qq (fl,p.2)
theorem aOC{a:zy}{b:List zy}{fa fb:FX}(ha:PS X a (tX X.K W fa))(hb:bN X b (tX X.K W fb)):bN X (a::b) (tX X.K W (aGV fa fb)):=bN.weak (aAy ha hb) λ D σ H h=>by
 obtain⟨F,L,S,env,fx,S',R,E,e,q⟩:=h;obtain⟨⟨f1,S1⟩,e1,e2⟩:=bind_some e;cases f1 with
 | ex e' c r=>cases e2;exact⟨F,L,S,env,_,_,R,E,e1,q⟩
 | fl f1 =>
   cases f1 with
   | nx e'=>exact⟨F,L,S,env,_,_,R,E,e1,λ F1 L1 H1 g1 R1 σ1 E1=>⟨F1,L1,S1,e',fx,S',R1,E1,e2,λ F2 L2 H2 g2 R2=>q F2 L2 H2 (g1.trans g2) R2⟩⟩
   | rt w=>cases e2;exact⟨F,L,S,env,_,_,R,E,e1,q⟩
   | bk e'=>cases e2;exact⟨F,L,S,env,_,_,R,E,e1,q⟩
   | ct e'=>cases e2;exact⟨F,L,S,env,_,_,R,E,e1,q⟩
noncomputable def xIf(fc:FT)(fa fb:FX):FX:=λ env S=>(fc env S).bind λ p=>if p.1=true then fa env p.2 else fb env p.2
theorem aQy{c:qw}{a b:List zy}{fc:FT}{fa fb:FX}(hc:PT X.nox c (dU X.K fc))(ha:bN X a (tX X.K W fa))(hb:bN X b (tX X.K W fb)):PS X (.If c a b pos) (tX X.K W (xIf fc fa fb)):=PS.weak (aFE (PT.nox hc) ha hb) λ D σ H h=>by
 obtain⟨F,L,S,env,fx,S',R,E,e,q⟩:=h;obtain⟨⟨c,S1⟩,e1,e2⟩:=bind_some e;refine⟨F,L,S,env,c,S1,R,E,e1,λ F1 L1 H1 g1 R1=>?_⟩
 cases c with
 | true=>exact oK ⟨F1,L1,S1,env,fx,S',R1,E.mono g1,by simpa using e2,λ F2 L2 H2 g2 R2=>q F2 L2 H2 (g1.trans g2) R2⟩
 | false=>exact oE ⟨F1,L1,S1,env,fx,S',R1,E.mono g1,by simpa using e2,λ F2 L2 H2 g2 R2=>q F2 L2 H2 (g1.trans g2) R2⟩
noncomputable def mK(t:Tg)(fb:FX):List D->FX
 | []=>λ env S=>qq (.fl (.nx env),S)
 | d::ds=>λ env S=>(t.put d env).bind λ e1=>(fb e1 S).bind λ q=>(match q.1 with
    | .fl (.nx e)=>mK t fb ds e q.2
    | .fl (.ct e)=>mK t fb ds e q.2
    | .fl (.bk e)=>qq (.fl (.nx e),q.2)
    | fl=>qq (fl,q.2))
noncomputable def mO(t:Tg)(fi:FL)(fb:FX):FX:=λ env S=>(fi env S).bind λ p=>mK t fb p.1 env p.2
theorem aOJ{tg iter:qw}{b:List zy}{t:Tg}{g:TG}{fi:FL}{fb:FX}(hp:PassesOwn (model X.prog X.w) X.A X.env X.xe)(hc:X.calm=true)(hi:PI X tg iter (iT X.K fi))(hg:PG X tg g)(ga:GA X.K t g)(hb:bN X b (tX X.K W fb))
 (hs:∀ x,jj iter X.env x=pure x):PS X (.For tg iter b [] pos) (tX X.K W (mO t fi fb)):=PS.weak (aEY hp hc hi hg hb hs) λ D σ H h=>by
 obtain⟨F,L,S,env,fx,S',R,E,e,q⟩:=h;obtain⟨⟨ds,S1⟩,e1,e2⟩:=bind_some e;refine⟨F,L,S,env,ds,S1,R,E,e1,λ F0 L0 H0 J g0 R0 wk=>?_⟩
 dsimp only at e2;refine⟨λ i m σ1 H1=>i+m=ds.length/\∃ F1 L1 S1 env1,Gr F0 L0 F1 L1/\Rel X.K F1 L1 S1 H1/\EnvR X.K F1 L1 env1 σ1/\mK t fb (ds.drop i) env1 S1=qq (fx,S'),
  ⟨ds.length,yEm _,F0,L0,S1,env,Gr.refl,R0,E.mono g0,by rw[yCw];exact e2⟩,?_⟩
 rintro i m σ1 H1 ⟨him,F1,L1,S1',env1,g1,R1,E1,e3⟩;cases m with
 | zero =>
   have hi:i=ds.length:=by omega
   subst hi;rw[yEq] at e3;cases e3;exact .inl ⟨wk.stop H1 (g1.f.trans R1.sub),q F1 L1 H1 (g0.trans g1) R1 σ1 E1⟩
 | succ m =>
   have hi:i<ds.length:=by omega
   refine .inr ⟨wk.go i H1 (g1.f.trans R1.sub) hi,λ σ3 H3=>∃ F3 L3 S3 env3,Gr F0 L0 F3 L3/\Rel X.K F3 L3 S3 H3/\EnvR X.K F3 L3 env3 σ3/\mK t fb (ds.drop (i+1)) env3 S3=qq (fx,S'),
    λ σ3 H3 h3=>⟨m,yCv m,by omega,h3⟩,λ x H2 y=>?_⟩
   rw[yCl hi] at e3;obtain⟨env2,e4,e5⟩:=bind_some e3;obtain⟨⟨f6,S6⟩,e6,e7⟩:=bind_some e5;obtain⟨F2,s2,R2,d2⟩:=wk.yld i H1 F1 L1 S1' x H2 ds[i] g1 R1 (yAc hi) y;have g2:Gr F1 L1 F2 L1:=⟨s2,[],by simp⟩
   refine ga ds[i] x σ1 H2 F2 L1 S1' env1 env2 _ R2 (E1.mono g2) d2 e4 λ σ2 E2=>?_
   refine⟨F2,L1,S1',env2,f6,S6,R2,E2,e6,λ F3 L3 H3 g3 R3=>?_⟩
   have g03:=(g1.trans g2).trans g3;cases f6 with
   | ex e' c r=>cases e7;exact λ σ3 cls dx E3 x3=>q F3 L3 H3 (g0.trans g03) R3 σ3 cls dx E3 x3
   | fl f6 =>
     cases f6 with
     | nx e'=>exact λ σ3 E3=>⟨F3,L3,S6,e',g03,R3,E3,e7⟩
     | ct e'=>exact λ σ3 E3=>⟨F3,L3,S6,e',g03,R3,E3,e7⟩
     | bk e'=>cases e7;exact λ σ3 E3=>q F3 L3 H3 (g0.trans g03) R3 σ3 E3
     | rt w=>cases e7;exact λ v d=>q F3 L3 H3 (g0.trans g03) R3 v d
noncomputable def lA(f:jK):FX:=λ env S=>(f env S).bind λ p=>match p.1 with
 | .ok _=>qq (.fl (.nx env),p.2)
 | .ex c r=>qq (.ex env c r,p.2)
noncomputable def kI(i:Nat)(f:jK):FX:=λ env S=>(f env S).bind λ p=>match p.1 with
 | .ok w=>qq (.fl (.nx (env.set i (qq w))),p.2)
 | .ex c r=>qq (.ex env c r,p.2)
noncomputable def aF1(k:Str)(f:jK):jK:=λ env S=>(f env S).bind λ p=>match p.1 with
 | .ok (.d x)=>qq (.ok (.d (.tuple [.str k,x])),p.2)
 | .ok _=>qz
 | .ex c r=>qq (.ex c r,p.2)
noncomputable def aBv(fs:FA)(np:Nat)(call:List EV.W->aB->Option (ResX×aB)):jK:=λ env S=>(fs env S).bind λ p=>if p.1.length=np then call p.1 p.2 else qz
theorem aLZ{e:qw}{f:jK}(h:PE X e (oW X.K W f))(hs:swapsWith e qz pos.line X.env=pure false):PS X (.Expr e pos) (tX X.K W (lA f)):=PS.weak (aEB h hs) λ D σ H h=>by
 obtain⟨F,L,S,env,fx,S',R,E,e,q⟩:=h;obtain⟨⟨res,S1⟩,e1,e2⟩:=bind_some e;refine⟨F,L,S,env,res,S1,R,E,e1,?_⟩;cases res with
 | ok w=>cases e2;exact λ F1 L1 H1 v g1 R1 d1=>q F1 L1 H1 g1 R1 σ (E.mono g1)
 | ex c r=>cases e2;exact λ F1 L1 H1 cls dx g1 R1 x1=>q F1 L1 H1 g1 R1 σ cls dx (E.mono g1) x1
theorem aPs{i:Nat}{x:Str}{e:qw}{f:jK}{pos':Pos}(hN:X.N.Nodup)(hi:X.N[i]? = qq x)(hx:Loc X.env.scope x)(h:PE X e (oW X.K W f))(hs:swapsWith e (qq (.Name x pos')) pos.line X.env=pure false)(hf:X.fn x=true\/X.env.scope.names.lookup x=qq .local) :
 PS X (.Assign [.Name x pos'] e pos) (tX X.K W (kI i f)):=PS.weak (aE3 hN hi hx h hs hf) λ D σ H h=>by
 obtain⟨F,L,S,env,fx,S',R,E,e,q⟩:=h;obtain⟨⟨res,S1⟩,e1,e2⟩:=bind_some e;refine⟨F,L,S,env,res,S1,R,E,e1,?_⟩;cases res with
 | ok w=>cases e2;exact λ F1 L1 H1 v g1 R1 d1=>q F1 L1 H1 g1 R1 _ ((E.mono g1).set i d1)
 | ex c r=>cases e2;exact λ F1 L1 H1 cls dx g1 R1 x1=>q F1 L1 H1 g1 R1 σ cls dx (E.mono g1) x1
theorem aL0{k:Str}{j:Nat}{p1:Pos}{kk:Nat}{e:qw}{f:jK}(h:PE X e (oW X.K W f))(hp:bR e=true):PE X (.Tuple [.Constant (.str k) j p1,e] kk pos) (oW X.K W (aF1 k f)):=
 PE.weak (aA2 (jP aFv (jP h pS (dE hp _ _)))) λ σ H Q h=>by
  obtain⟨F,L,S,env,res,S',R,E,e,q⟩:=h;obtain⟨⟨r1,S1⟩,e1,e2⟩:=bind_some e;refine⟨F,L,S,env,r1,S1,R,E,e1,?_⟩;cases r1 with
  | ex c r=>cases e2;exact q
  | ok w =>
    cases w with
    | d x =>
      cases e2;exact λ F1 L1 H1 v g1 R1 d1=>⟨by show 2<=qk;decide,λ p hp=>q _ L1 _ _ (g1.trans (Gr.new (R1.sub.free hp))) (R1.new hp) (Den.tup (bM.of bQ) (.cons (.str k) (.cons (Den.mono (eN (R1.sub.free hp)) d1) .nil)))⟩
    | loc n=>cases e2
    | exc c r=>cases e2
theorem aJ8{K:FrG}{fs:FA}{np:Nat}{call:List EV.W->aB->Option (ResX×aB)}(σ:L2.St)(H:Hp)(Q:VK)(h:oW K W (aBv fs np call) σ H Q):aFz (oV K np call) W (cP K fs) σ H Q:=by
 obtain⟨F,L,S,env,res,S',R,E,e,q⟩:=h;obtain⟨⟨ws,S1⟩,e1,e⟩:=bind_some e
 split at e
 ·rename_i hn;exact⟨F,L,S,env,ws,S1,R,E,e1,λ F1 L1 H1 vs g1 R1 d1=>⟨F1,L1,S1,ws,res,S',hn,R1,d1,e,q.mono g1⟩⟩
 ·cases e
end
noncomputable def eQ(fb:FX)(n:Nat)(ws:List W)(S:aB):Option (ResX×aB):=(fb (ws.map qq++yAg (n-ws.length) qz) S).bind λ p=>match p.1 with
 | .fl (.rt w)=>(iO S.length p.2 w).bind λ q=>qq (.ok q.1,q.2)
 | .fl (.nx _)=>qq (.ok (.d .none),p.2.take S.length)
 | .ex _ c r=>qq (.ex c r,p.2.take S.length)
 | _=>qz
theorem aKR{K:FrG}{fb:FX}{N:List Str}{np:Nat}{vs:List V}{H:Hp}{Q:VK}{E:XK}(h:oV K np (eQ fb N.length) vs H Q E):tX K (λ _=>E) fb {nx:=λ _ H'=>Q .non H',rt:=Q } (L2.start N vs) H:=by
 obtain⟨F,L,S,ws,res,S',hn,R,dl,e,q⟩:=h;obtain⟨⟨fx,S1⟩,e1,e2⟩:=bind_some e;refine⟨F,L,S,_,fx,S1,R,aAb dl,e1,λ F1 L1 H1 g1 R1=>?_⟩
 cases fx with
 | ex aK c r =>
   cases e2;intro σ' cls dx E' x';obtain⟨sf,M,rfl⟩:=g1;have R2:=R1.cut;rw[R.len] at R2;exact q F1 L H1 cls dx ⟨sf,[],by simp⟩ R2 x'
 | fl f =>
   cases f with
   | nx aK =>
     cases e2;exact λ σ' E'=>wC (w:=.d .none) R.len g1 R1 Den.non rfl q
   | rt w' =>
     obtain⟨⟨w2,S2⟩,e3,e4⟩:=bind_some e2;cases e4;exact λ v d=>wC R.len g1 R1 d e3 q
   | bk aK=>cases e2
   | ct aK=>cases e2
noncomputable def nN(call:List EV.W->aB->Option (ResX×aB)):List EV.W->aB->Option (W×aB):=λ ws S=>(call ws S).bind λ p=>match p.1 with
 | .ok w=>qq (w,p.2)
 | .ex _ _=>qz
theorem aJl{P:zq}{w:zx}{K:FrG}{mg:Str->Option qx}{base:Heap}{k:Nat}{f:qv}{fd:jz}{ps:List Str}{np:Nat}{call:List EV.W->aB->Option (ResX×aB)}
 (F:FnOk P w K mg base (iQ P w) k f fd ps (oV K np call)):FnOk P w K mg base fJ k f fd ps (hZ K np (nN call)):=by
 have hsp:∀ vs H Q E,hZ K np (nN call) vs H Q E->oV K np call vs H Q E0:=λ vs H Q E h=>by
  obtain⟨F,L,S,ws,w,S',hn,R,dl,e,q⟩:=h;obtain⟨⟨res,S1⟩,e1,e2⟩:=bind_some e;cases res with
  | ok w1=>cases e2;exact⟨F,L,S,ws,_,_,hn,R,dl,e1,q⟩
  | ex c r=>cases e2
 refine⟨λ vs H Q E h=>F.len vs H Q E0 (hsp vs H Q E h),λ A outer s H args us vs Q E hr he hb hv h=>codeAny_mono (F.run A outer s H args us vs Q E0 hr he hb hv (hsp vs H Q E h)) λ r s' q=>?_⟩
 cases r with
 | ok fl=>cases fl<;>exact q
 | error e =>
   obtain⟨_,_,_,_,_,_,_,_,_,_,z⟩:=q;exact z
end EV
namespace EV
open PySem L2 PySem.Spec PyProof.Rows PySem.W
section
variable {prog : zq}{w : zx}{A : zv}{E : qx -> qj -> Prop}{s : qj}{K : FrG}{x D : qv}{ox : Obj}{odo : Option Obj}{name : Str}{tk : Tok}
theorem aDW{R:Result->qj->Prop}(X:K.In s.heap)(I:yCf s.heap x ox D odo)(hm:mroIn K D (.type "BaseException")=qq true)
 (h:qu (model prog w) A.in1 (Builtin.«object.__getattribute__» ⟨[.ref x,.str name tk],[]⟩) (λ bB s'=>match bB with | .done f=>R (.ok f) s' | .again c'=>c'.quiet=true/\vo (model prog w) A c' R s') (λ e s'=>R (.error e) s') s) :
 vo (model prog w) A (.call (.builtin "BaseException.__getattribute__") ⟨[.ref x,.str name tk],[]⟩) R s:=by
 obtain⟨hh,g,d,t,os⟩:=s;have L0:=I.type (M:=model prog w);have L1:=looks_mroIn (M:=model prog w) X hm;have L2:Looks (model prog w) hh (isInstance (.ref x) (.type "BaseException")) true:=L0.andThen L1;refine codeAny_call_builtin F.attr_ValueError.ga.plain F.entry_bexc_ga ?_;have hk:builtinKind "BaseException.__getattribute__" = qq .slot:=by decide +kernel
 have hsplit:splitId "BaseException.__getattribute__" = qq ("BaseException", "__getattribute__"):=by decide +kernel
 have ha:=F.args_bexc_ga (.ref x) (.str name tk);simp only[checkBuiltinCall,hk,hsplit];refine wB (L2.at ?_)
 repeat (any_goals (first | assumption | wp_step))
theorem aEV{fill expr:Bool}{Q:qx->qj->Prop}(X:K.In s.heap)(I:yCf s.heap x ox D odo)(hga:findIn K (.ref D) "__getattribute__" = qq (qq (.builtin "BaseException.__getattribute__")))(hgt:findIn K (.ref D) "__getattr__" = qq qz)
 (h:vo (model prog w) A (.call (.builtin "BaseException.__getattribute__") ⟨[.ref x,.str name tk],[]⟩) (λ r s'=>match r with | .ok (.ret v)=>qu (model prog w) A (handedOut v) Q E s' | _=>False) s) :
 qu (model prog w) A (getAttrBy (.ref x) (.str name tk) fill expr) Q E s:=by
 obtain⟨hh,g,d,t,os⟩:=s;have L0:=I.type (M:=model prog w);have L1:=looks_findIn (M:=model prog w) X hga;have L2:=looks_findIn (M:=model prog w) X hgt;have f3:=F.attr_ValueError.ga.bind (.ref x);have hx2:(Value.builtin "BaseException.__getattribute__" == Value.builtin "object.__getattribute__")=false:=by decide +kernel
 have hx0:(expr&&onTheHeap (Value.builtin "BaseException.__getattribute__"))=false:=by cases expr<;>rfl
 unfold getAttrBy;refine xq (wB (L0.at (wB (L1.at ?_))));dsimp only;rw[hx2,yFi,if_neg yAt];unfold getAttrByItsOwn hookBefore;rw[if_pos (show onTheHeap (Value.ref D)=true from rfl)]
 refine wB (L2.at (wB (yw (xq ?_))));unfold callGetattribute boundAndCalled;rw[hx0,if_neg yAt,f3];refine wB (wP (wpAny_call (codeAny_mono h λ r s' q=>?_)))
 rcases r with e | (_ | _ | _ | v)
 all_goals first | exact q.elim | exact q
theorem aHR{a g:qx}(hc:(clsIn K D).isSome=true)(ha:findIn K (.ref D) name=qq (qq a))(hg:specialIn K a "__get__" = qq (qq g))(ht:takesIn K a=qq true):findObj K D odo name=qq (.bind g a):=by
 obtain⟨cd,hc⟩:=Option.isSome_iff_exists.mp hc;unfold findObj;rw[hc,yBj,ha,yBj];simp[hg,ht]
theorem aJL{g a:qx}{Q:Fin->qj->Prop}(X:K.In s.heap)(I:yCf s.heap x ox D odo)(hf:findObj K D odo name=qq (.bind g a))(h:vo (model prog w) A (.call g ⟨[a,.ref x,.ref D],[]⟩) (λ r s'=>match r with | .ok (.ret v)=>qu (model prog w) A (ret v) Q E s' | .ok _=>False | .error e=>E e s') s):qu (model prog w) A (Builtin.«object.__getattribute__» ⟨[.ref x,.str name tk],[]⟩) Q E s:=by
 obtain⟨hh,gg,d,t,os⟩:=s;have L0:=I.type (M:=model prog w);have L1:=looks_find (M:=model prog w) X I hf;unfold Builtin.«object.__getattribute__»
 repeat (any_goals (first | assumption | with_reducible refine L0.at ?_ | with_reducible refine L1.at ?_ | wp_step))
theorem aIU{v:qx}{Q:Fin->qj->Prop}(X:K.In s.heap)(I:yCf s.heap x ox D odo)(hf:findObj K D odo name=qq (.value v))(h:Q (.done (.ret v)) s):qu (model prog w) A (Builtin.«object.__getattribute__» ⟨[.ref x,.str name tk],[]⟩) Q E s:=by
 obtain⟨hh,gg,d,t,os⟩:=s;have L0:=I.type (M:=model prog w);have L1:=looks_find (M:=model prog w) X I hf;unfold Builtin.«object.__getattribute__»
 repeat (any_goals (first | assumption | with_reducible refine L0.at ?_ | with_reducible refine L1.at ?_ | wp_step))
end
structure XcOk(K:FrG)(D:qv):Prop where
 ga:findIn K (.ref D) "__getattribute__" = qq (qq (.builtin "BaseException.__getattribute__"))
 gt:findIn K (.ref D) "__getattr__" = qq qz
 mb:mroIn K D (.type "BaseException")=qq true
 mo:mroIn K D (.type "object")=qq true
 hd:hasDictIn K D=true
 rw:findIn K (.ref D) "row" = qq qz
 ca:findIn K (.ref D) "__class__" = qq (qq (.builtin "object.__class__"))
 cg:specialIn K (.builtin "object.__class__") "__get__" = qq (qq (.builtin "getset_descriptor.__get__"))
 ct:takesIn K (.builtin "object.__class__")=qq true
theorem XcOk.cl{K:FrG}{D:qv}(O:XcOk K D):(clsIn K D).isSome=true:=by
 obtain⟨cd,hc,_⟩:=aJs O.hd;rw[hc];rfl
theorem aDt{K:FrG}{x D:qv}{ox:Obj}{odo:Option Obj}(O:XcOk K D):KitX K (.ref x) (.ref D) (λ h=>yCf h x ox D odo) where
 ty:=λ _ _ _ I=>I.type
 it:=λ _ _ X _=>by
  obtain⟨cdD,hcD⟩:=Option.isSome_iff_exists.mp O.cl;unfold clsIn at hcD
  split at hcD
  ·rename_i c' d' cd' sl' ho;intro A' Q' E' s' k q;unfold isType loadHead;exact wB (wpAny_loadPart (k _ _ (X _ _ ho)) (wP q))
  ·cases hcD
 ne:=λ h tp dd its n sl X htp=>by
  obtain⟨cdD,hcD⟩:=Option.isSome_iff_exists.mp O.cl;refine Bool.eq_false_iff.mpr λ q=>?_
  have e:D=tp:=Value.ref.inj (beq_iff_eq.mp q);subst e;unfold clsIn at hcD
  split at hcD
  ·rename_i c' d' cd' sl' ho;have z:=(X _ _ ho).symm.trans htp;cases z
  ·cases hcD
 ca:=λ {prog w A E Q s} X I k=>by
  unfold getAttr? getAttrBy?;refine wB (wpAny_mkText (wB (yw ?_)));refine aEV (s:={s with toks:=s.toks+1 }) X I O.ga O.gt (aDW (s:={s with toks:=s.toks+1 }) X I O.mb (aJL (s:={s with toks:=s.toks+1 }) X I (aHR O.cl O.ca O.cg O.ct) ?_))
  refine class_get (s:={s with toks:=s.toks+1 }) X I O.mo (wP ?_)
  show qu _ _ (handedOut (.ref D)) _ _ _;rw[handedOut_of rfl];exact wP (wP k)
end EV
namespace EV
open PySem L2 PySem.Spec PyProof.Rows PySem.W
theorem vF{P:zq}{w:zx}{H:Hp}{h:Heap}{a:qv}{o:HO}(x:fA P w H h a o):∃ u,h.get? a=qq u:=by
 cases o with
 | lst xs=>obtain⟨_,_,_,_,e⟩:=x;exact⟨_,e⟩
 | tup xs=>obtain⟨_,_,_,o,e,_⟩:=x;exact⟨o,e⟩
 | dK aI=>obtain⟨_,_,_,_,o,_,_,e,_⟩:=x;exact⟨o,e⟩
 | dT aI=>obtain⟨_,_,_,_,o,_,_,e,_⟩:=x;exact⟨o,e⟩
 | set S n=>obtain⟨o,_,_,_,e,_⟩:=x;exact⟨o,e⟩
 | ins C dx fs=>obtain⟨_,_,_,e,_⟩:=x;exact⟨_,e⟩
 | own y=>exact x
 | xd fs=>obtain⟨mA,hn,_⟩:=x;obtain⟨_,_,_,e,_⟩:=hn;exact⟨_,e⟩
 | met f y=>exact⟨_,x⟩
 | rng lo hi=>obtain⟨_,_,_,e⟩:=x;exact⟨_,e⟩
 | frz o u=>exact⟨o,x.1⟩
 | tbl ps=>exact⟨_,x⟩
 | ext φ=>exact x.2.1
noncomputable abbrev jG:List qx:=[.type "ValueError",.type "Exception",.type "BaseException",.type "object"]
theorem aEH{K:FrG}{h:Heap}{C:qv}{bmB:List qx}{newId:String}(X:K.In h)(q:excIn K C bmB newId=true):∃ bm N nm qn bs hd sn sub ab col dd k0 k1 k2 k3 k5 mN,
 h.get? C=qq (excClassObj nm qn C N bs bm hd sn sub ab col dd k0 k1 k2 k3 k5 newId)/\h.Ns N mN/\mN "__init__" = qz/\OwnTail h bmB bm:=by
 unfold excIn at q
 split at q
 ·rename_i dd cd sl ho
  split at q
  ·rename_i C' bm k0 k1 k2 k3 n k5 hm hs;simp only[yBi,beq_iff_eq,yDh] at q;obtain⟨⟨⟨⟨⟨rfl,rfl⟩,hdel⟩,ht⟩,hok⟩,hni⟩:=q;obtain⟨nm,bs,mro,ns,qn,hd,sn,sub,ab,col,del⟩:=cd;dsimp only at hm hdel hok hni;subst hm hdel;obtain⟨l⟩:=sl;simp only at hs;subst hs;exact⟨bm,ns,nm,qn,bs,hd,sn,sub,ab,col,dd,k0,k1,k2,k3,k5,_,X _ _ ho,.of_isNs (isNs_of_in X hok),nsMap_none_of_in X hok hni,tail_of_in X ht⟩
  ·cases q
 ·cases q
noncomputable def aFr(c:Str):FX:=λ env S=>qq (.ex env c .none,S)
theorem aJc{X:Cx}{W:XW}{c:Str}{C:qv}{np cpos pos:Pos}(hx:sW X W)(hc:X.calm=true)(hg:Gl X c)(hm:X.mg c=qq (.ref C))(hns:nsIn X.K qy c=qq (qq (.ref C)))(hq:excIn X.K C jG "ValueError.__new__" = true)
 (hd:(c==("__debug__" : Str))=false):PS X (.Raise (qq (.Call (.Name c np) [] [] cpos)) qz pos) (tX X.K W (aFr c)):=by
 rintro aA s σ H D I ⟨F0,L,S,env,fx,S',R,E,e,q⟩;cases e;obtain⟨bm,N,nm,qn,bs,hd',sn,sub,ab,col,dd,k0,k1,k2,k3,k5,mN,hC,hN,hni,T⟩:=aEH I.kIn hq;refine wpAny_Raise_call_subT (C:=C) yDi (T.hasType PySem.F.excBase_ValueError.hasBase) (I.ok.hd hc) rfl hni (kS I hg hm ⟨rfl,evalArgs_empty ⟨rfl,yEx _,hC,hN,T,λ h' e me=>?_⟩⟩ hd)
 obtain⟨t,he,_,_⟩:=me.there;refine hx _ _ ⟨e,.ref C,qz,qz,s.heap,σ,H,rfl,pK (I.kept (t':=s.toks) me.keeps),⟨_,_,he,rfl,rfl,rfl,Nat.lt_of_sub_pos (by simp),me.new,?_,.inl ⟨rfl,rfl⟩⟩,.inl rfl,sA (pK I),λ b hb=>?_,q F0 L H Gr.refl R σ (.ref C) qz E ⟨C,rfl,hns,rfl⟩⟩
 ·cases z:H e with
  | none=>rfl
  | some u =>
    obtain⟨o,ho⟩:=vF (I.hok e u z);rw[me.new] at ho;cases ho
 ·cases z:s.heap.get? b with
  | none=>exact absurd z hb
  | some o=>exact jZ (me.keeps b o z)
theorem aAl{X:Cx}{aA:List (qv×Obj)}{σ:L2.St}{H:Hp}{s:qj}{h0:Heap}{a:qv}{o:HO}(I:Inv X aA σ H s)(B:Bel X aA h0)(ha:h0.get? a=qz)(hH:H a=qz)(new:fA X.prog X.w (aQ H a o) s.heap a o):Inv X aA σ (aQ H a o) s:=by
 have ne:∀ b,h0.get? b≠qz->b≠a:=λ b hb z=>hb (by rw[z];exact ha)
 have nt:∀ b u,H b=qq u->b≠a:=λ b u e z=>by rw[z,hH] at e;cases e
 refine⟨I.ok,I.os,I.bare,⟨I.base.keep,I.base.slot,λ b u e n hx=>?_,I.base.there,λ b xs e=>?_,λ b u v e=>?_,λ b ps e=>?_⟩,I.loc,I.cell,?_,λ x c e=>?_,λ p hp=>?_,λ b u e=>?_,I.len⟩
 ·rw[aW (ne b (B.s0 b u e hx))];exact I.base.free b u e n hx
 ·have q:=I.base.tups b xs e;rw[aW (nt b _ q)];exact q
 ·have q:=I.base.frzs b u v e;rw[aW (nt b _ q)];exact q
 ·obtain⟨m,q⟩:=I.base.tbls b ps e;exact⟨m,by rw[aW (nt b _ q)];exact q⟩
 ·rw[aW (ne _ B.loc)];exact I.free
 ·rw[aW (ne _ (B.cell x c e))];exact I.freeC x c e
 ·obtain⟨e,n,r⟩:=I.pin p hp;exact⟨e,by rw[aW (ne _ (B.pin p hp))];exact n,r⟩
 ·by_cases hb:b=a
  ·subst hb;rw[bQ] at e;cases e;exact new
  ·rw[aW hb] at e;exact(I.hok b u e).stay (λ _ _ _ q=>q) (λ c q=>by rw[aW (nt c _ q)];exact q) λ c xs q=>by rw[aW (nt c _ q)];exact q
theorem aKs{X:Cx}{A:zv}{E:qx->qj->Prop}{aA:List (qv×Obj)}{σ:L2.St}{H:Hp}{s:qj}{i:Nat}{n:Str}{pos:Pos}{Q:Unit->qj->Prop}(I:Inv X aA σ H s)(hN:X.N.Nodup)(hi:X.N[i]? = qq n)(hl:X.env.kindOf n=qq .local)
 (h:∀ s',Inv X aA (σ.set i qz) H s'->Q () s'):qu (model X.prog X.w) A (do bindName X.env n .none;unbindBehindTheSuite X.env n pos) Q E s:=by
 obtain⟨m,hn,hm⟩:=id I.loc;have hk:(X.env.scope.kind==.class||(X.env.scope.kind==.module&&X.env.locals != X.env.globals))=false:=by rw[I.ok.kind];rfl
 refine wpAny_nameGoes_keeps hl hn hk λ h' v hn' hs=>h _ ?_
 have neL:∀ b o,X.s₀.heap.get? b=qq o->b≠X.env.locals:=λ b o e=>xAh (xAc (xAa e) I.ok.above)
 have nt:∀ b u,H b=qq u->b≠X.env.locals:=λ b u e z=>by rw[z,I.free] at e;cases e
 refine⟨I.ok,I.os,I.bare,⟨λ b o e nn hb hx=>?_,λ b o e nn hb hx=>?_,I.base.free,λ b o e hx=>?_,I.base.tups,I.base.frzs,I.base.tbls⟩,⟨_,hn',λ j y v' e1 e2 e3=>?_⟩,λ y c e=>?_,I.free,I.freeC,λ p hp=>?_,λ b u e=>?_,by simpa using I.len⟩
 ·exact(hs.2 b (neL b o e)).trans (I.base.keep b o e nn hb hx)
 ·obtain⟨sl,e1⟩:=I.base.slot b o e nn hb hx;exact⟨sl,(hs.2 b (neL b o e)).trans e1⟩
 ·obtain⟨o',e1⟩:=I.base.there b o e hx;exact⟨o',(hs.2 b (neL b o e)).trans e1⟩
 ·by_cases hj:j=i
  ·subst hj;rcases yFg j σ.length with z | z
   ·rw[yAo z] at e2;cases e2
   ·rw[yDc (by rw[yAq];exact z)] at e2;cases e2
  ·rw[yAn (Ne.symm hj)] at e2;obtain⟨u',r',q⟩:=hm j y v' e1 e2 e3;refine⟨u',r',?_⟩;rcases q with ⟨k,e⟩ | ⟨k,c,e,z⟩
   ·refine .inl ⟨k,?_⟩;have:y≠n:=λ e=>hj (aAK hN e1 (e▸hi))
    simp[this,e]
   ·exact .inr ⟨k,c,e,z.sameBut hs (I.cne y c e)⟩
 ·obtain⟨w',z⟩:=I.cell y c e;exact⟨w',z.sameBut hs (I.cne y c e)⟩
 ·obtain⟨e,n,ne,nf,d⟩:=I.pin p hp;exact⟨(hs.2 p.1 ne).trans e,n,ne,nf,d⟩
 ·refine(I.hok b u e).stay (λ d w' hd q=>(hs.2 d ?_).trans q) (λ _ q=>q) λ _ _ q=>q
  rcases hd with z | z
  ·rw[z];exact nt b u e
  ·exact nt d _ z
noncomputable abbrev eE(X:Cx)(aA:List (qv×Obj)):Cx:={X with pn:=X.pn++aA }
noncomputable abbrev oU(X:Cx)(e:qx):Cx:={X with A:=X.A.mark (qq e),calm:=false,xe:=λ _ _=>False }
theorem okP{X:Cx}{aA:List (qv×Obj)}(ok:X.Ok):(eE X aA).Ok:=⟨ok.mod,ok.kind,ok.glob,ok.blt,ok.above,ok.inj,ok.has,ok.cab,ok.hd,ok.frames,ok.stk,ok.exf,ok.bs,ok.bsz,ok.noex,ok.exfs,ok.funs,ok.frf⟩
theorem aP1{X:Cx}{aA:List (qv×Obj)}(ok:(eE X aA).Ok):X.Ok:=⟨ok.mod,ok.kind,ok.glob,ok.blt,ok.above,ok.inj,ok.has,ok.cab,ok.hd,ok.frames,ok.stk,ok.exf,ok.bs,ok.bsz,ok.noex,ok.exfs,ok.funs,ok.frf⟩
theorem aGR{X:Cx}{aA:List (qv×Obj)}{σ:L2.St}{H:Hp}{s:qj}(I:Inv X aA σ H s):Inv (eE X aA) [] σ H s:=⟨okP I.ok,I.os,I.bare,I.base,I.loc,I.cell,I.free,I.freeC,λ p hp=>I.pin p (by rw[yAu] at hp;exact hp),I.hok,I.len⟩
theorem wV{X:Cx}{aA:List (qv×Obj)}{σ:L2.St}{H:Hp}{s:qj}(I:Inv (eE X aA) [] σ H s):Inv X aA σ H s:=⟨aP1 I.ok,I.os,I.bare,I.base,I.loc,I.cell,I.free,I.freeC,λ p hp=>I.pin p (by rw[yAu];exact hp),I.hok,I.len⟩
theorem aBJ{X:Cx}{e:qx}{aA:List (qv×Obj)}{σ:L2.St}{H:Hp}{s:qj}(I:Inv X aA σ H s):Inv (oU X e) aA σ H s:=
 let ok:=I.ok
 ⟨⟨ok.mod,ok.kind,ok.glob,ok.blt,ok.above,ok.inj,ok.has,ok.cab,λ z=>(nomatch z),ok.frames,ok.stk,ok.exf,ok.bs,ok.bsz,ok.noex,ok.exfs,ok.funs,ok.frf⟩,I.os,I.bare,I.base,I.loc,I.cell,I.free,I.freeC,I.pin,I.hok,I.len⟩
theorem sV{X:Cx}{e:qx}{aA:List (qv×Obj)}{σ:L2.St}{H:Hp}{s:qj}(ok:X.Ok)(I:Inv (oU X e) aA σ H s):Inv X aA σ H s:=⟨ok,I.os,I.bare,I.base,I.loc,I.cell,I.free,I.freeC,I.pin,I.hok,I.len⟩
theorem spP{X:Cx}{aA:List (qv×Obj)}{D:Ends}{f:Flow}{s:qj}(h:SP (eE X aA) [] D f s):SP X aA D f s:=by
 cases f with
 | next=>obtain⟨σ',H',I,q⟩:=h;exact⟨σ',H',wV I,q⟩
 | brk=>obtain⟨σ',H',I,q⟩:=h;exact⟨σ',H',wV I,q⟩
 | cont=>obtain⟨σ',H',I,q⟩:=h;exact⟨σ',H',wV I,q⟩
 | ret u=>obtain⟨v,σ',H',I,r,q⟩:=h;exact⟨v,σ',H',wV I,r,q⟩
structure Hd where
 d:Str
 sl:Option Nat
 f:FS
noncomputable def tY(i:Nat):Fl×aB->Option (Fl×aB)
 | (.nx e,S)=>qq (.nx (e.set i qz),S)
 | _=>qz
noncomputable def eD(tb:Str->Str->Option Bool)(c:Str)(r:D):List Hd->FS
 | []=>λ _ _=>qz
 | h::hs=>λ env S=>match tb c h.d with
   | some true=>(match h.sl with
     | none=>h.f env S
     | some i=>(h.f (env.set i (qq (.exc c r))) S).bind (tY i))
   | some false=>eD tb c r hs env S
   | none=>qz
noncomputable def qQ(tb:Str->Str->Option Bool)(fb:FX)(hs:List Hd):FX:=λ env S=>(fb env S).bind λ p=>match p.1 with
 | .fl f=>qq (.fl f,p.2)
 | .ex e c r=>(eD tb c r hs e p.2).bind λ q=>qq (.fl q.1,q.2)
noncomputable def xY(X:Cx)(h:Hd):ExceptHandler->Prop
 | .ExceptHandler (qq (.Name d _)) nm (b0::suite) _=>d=h.d/\Gl X d/\(d==("__debug__" : Str))=false/\(∃ C,nsIn X.K qy d=qq (qq (.ref C))/\X.mg d=qq (.ref C)) /\
    (match nm,h.sl with
      | none,qz=>True
      | some n,qq i=>X.N[i]? = qq n/\X.env.scope.names.lookup n=qq .local
      | _,_=>False)/\∀ e,bN (oU X e) (b0::suite) (cE X.K h.f)
 | _=>False
inductive HdsOk (X:Cx):List Hd->List ExceptHandler->Prop
 | nil:HdsOk X [] []
 | cons {h:Hd}{hs:List Hd}{a:ExceptHandler}{as:List ExceptHandler}:xY X h a->HdsOk X hs as->HdsOk X (h::hs) (a::as)
def aBB(K:FrG)(tb:Str->Str->Option Bool):Prop:=∀ c d b C C',tb c d=qq b->nsIn K qy c=qq (qq (.ref C))->nsIn K qy d=qq (qq (.ref C'))->exmOne K (.ref C) (.ref C')=qq b
end EV
namespace EV
open PySem L2 PySem.Spec PyProof.Rows PySem.W
noncomputable def yN(K:FrG)(C:qv)(bmB:List qx)(newId:String):Bool:=match K.lookup C with
 | some ⟨.type "type",_,.cls cd,sl⟩=>(match cd.mro,sl.toList with
   | .ref C'::bm,[_,_,_,_,qq (.builtin n),_]=>C'==C&&n==newId && !cd.hasDel&&cd.hasDict&&tailIn K bmB bm&&nsOkIn K cd.ns
   | _,_=>false)
 | _=>false
theorem aAC{K:FrG}{h:Heap}{C:qv}{bmB:List qx}{newId:String}(X:K.In h)(q:yN K C bmB newId=true):∃ bm N nm qn bs sn sub ab col dd k0 k1 k2 k3 k5,
 h.get? C=qq (excClassObj nm qn C N bs bm true sn sub ab col dd k0 k1 k2 k3 k5 newId)/\OwnTail h bmB bm:=by
 unfold yN at q
 split at q
 ·rename_i dd cd sl ho
  split at q
  ·rename_i C' bm k0 k1 k2 k3 n k5 hm hs;simp only[yBi,beq_iff_eq,yDh] at q;obtain⟨⟨⟨⟨⟨rfl,rfl⟩,hdel⟩,hdi⟩,ht⟩,hok⟩:=q;obtain⟨nm,bs,mro,ns,qn,hd,sn,sub,ab,col,del⟩:=cd;dsimp only at hm hdel hok hdi;subst hm hdel hdi;obtain⟨l⟩:=sl;simp only at hs;subst hs;exact⟨bm,ns,nm,qn,bs,sn,sub,ab,col,dd,k0,k1,k2,k3,k5,X _ _ ho,tail_of_in X ht⟩
  ·cases q
 ·cases q
section
variable {prog : zq}{w : zx}{A : zv}{E : qx -> qj -> Prop}{h : Heap}{g : Array GenState}{d : Drawn}{t : Nat}{os : OsState}
variable {nm q : Str}{C N : qv}{bs bm : List qx}{sn : List Str}{sub : List qx}{ab : Bool}{col : Option Bool}{dd : Option qv}{k0 k1 k2 k3 k5 : Option qx}
theorem aHX(T:OwnTail h jG bm){bK:List qx}{fI:qv}{oI:Obj}{Q:PySem.Fin->qj->Prop}(hC:h.get? C=qq (excClassObj nm q C N bs bm true sn sub ab col dd k0 k1 k2 k3 k5 "ValueError.__new__"))
 (Li:Looks (model prog w) h (typeLookup (.ref C) "__init__") (qq (.ref fI))) (hfI:h.get? fI=qq oI) (hfc:oI.cls=.type "function")
 (hq:∀ h' e,Heap.MadeExcOf h h' e (.ref C) bK->qu (model prog w) A (call (.ref fI) (.ref e::bK)) (λ r s'=>r=.none/\Q (.done (.ret (.ref e))) s') E ⟨h',g,d,t,os⟩) (hrest:bK.length<=qk) :
 qu (model prog w) A (Builtin.«type.__call__» ⟨.ref C::bK,[]⟩) Q E ⟨h,g,d,t,os⟩:=by
 have F:=yDi
 repeat (first | with_reducible refine wpAny_loadPart_at hC ?_ | with_reducible refine wpAny_madeBy_exc hC ?_ | wp_step)
 refine codeAny_call_builtin_code (Code.quiet_builtin _ F.quiet) (wpAny_check_new_subU F F.hasB T hC ?_);refine codeAny_exc_new_subU F F.hasB F T hC ?_ hrest;show qu _ _ _ _ _ _;have kp:∀ b o,h.get? b=qq o->((h.push {cls:=.type "tuple",data:=.seq bK.toArray }).push {cls:=.ref C,data:=.fields #[.ref h.objs.size,.none,.none,.none,.bool false,.none] }).get? b=qq o:=λ b o e=>hpS _ (hpS _ e)
 have hC₁:=kp _ _ hC;have hfI₁:=kp _ _ hfI;have hget:((h.push {cls:=.type "tuple",data:=.seq bK.toArray }).push
  {cls:=.ref C,data:=.fields #[.ref h.objs.size,.none,.none,.none,.bool false,.none] }).get? (h.objs.size+1)=qq
  {cls:=.ref C,data:=.fields #[.ref h.objs.size,.none,.none,.none,.bool false,.none] }:=by heap_get
 have hcC:(Value.ref C::bm).contains (.ref C)=true:=by simp
 unfold isInstance
 repeat (first | with_reducible refine wpAny_loadPart_at hget ?_ | (with_reducible refine wpAny_isSubtype_exc hC₁ ?_;rw[hcC]) | wp_step)
 show qu _ _ (typeLookup (.ref C) _) _ _ _;refine(Li.keeps kp).at ?_;refine xq (wB ?_);unfold bindSpecial;refine wB (wpAny_typeOf (T:="function") ⟨_,hfI₁,hfc⟩ ?_);rw[if_pos (by decide)]
 refine wP (wB (wpAny_mono (hq _ (h.objs.size+1) ⟨kp,yDk (Nat.le_succ _),h.objs.size,hget,yDk (yAe _),?_⟩) (λ r s' hr=>?_) λ _ _ x=>x))
 ·exact hpS _ (Heap.get?_push_at rfl rfl)
 ·obtain⟨rfl,hQ⟩:=hr
  wp_walk
  exact hQ
theorem aH1(T:OwnTail h jG bm){bK:List qx}{fI:qv}{oI:Obj}{Q:qx->qj->Prop}(hC:h.get? C=qq (excClassObj nm q C N bs bm true sn sub ab col dd k0 k1 k2 k3 k5 "ValueError.__new__"))
 (Li:Looks (model prog w) h (typeLookup (.ref C) "__init__") (qq (.ref fI))) (hfI:h.get? fI=qq oI) (hfc:oI.cls=.type "function")
 (hq:∀ h' e,Heap.MadeExcOf h h' e (.ref C) bK->qu (model prog w) (A.under (.builtin "type.__call__" ⟨.ref C::bK,[]⟩)) (call (.ref fI) (.ref e::bK)) (λ r s'=>r=.none/\Q (.ref e) s') E ⟨h',g,d,t,os⟩) (hrest:bK.length<=qk) :
 qu (model prog w) A (call (.ref C) bK) Q E ⟨h,g,d,t,os⟩:=by
 have f1:=tc_lookup;have f2:=tc_bind (.ref C);have hT:(⟨h,g,d,t,os⟩:qj).TypeIs (.ref C) "type":=⟨_,hC,rfl⟩;refine wpAny_call (codeAny_of_tree ?_);show qu _ _ (callAny (.ref C) _) _ _ _
 repeat (any_goals (first | assumption | with_reducible refine wpAny_loadPart_at hC ?_ | wp_step))
 refine⟨rfl,?_⟩;refine codeAny_call_builtin_at (Code.quiet_builtin _ (by decide +kernel)) entry_typeCall (wpAny_check_type_call_sub hC (aHX (hrest:=hrest) T hC Li hfI hfc λ h' e hm=>?_))
 exact hq h' e hm
theorem aHN{bm:List qx}(T:OwnTail h jG bm)(self:qx):refuseLoop self "__setattr__" bm=pure ():=by
 induction T with
 | base=>exact PySem.F.store_ValueError.passes self
 | own _ _ _ _ ih=>rw[refuseLoop_ref];exact ih
theorem aIF{K:FrG}{x:qv}{ox:Obj}{vs:Array qx}{name:Str}{v:qx}{Q:Unit->qj->Prop}(X:K.In h)(T:OwnTail h jG bm)(hC:h.get? C=qq (excClassObj nm q C N bs bm true sn sub ab col dd k0 k1 k2 k3 k5 "ValueError.__new__"))
 (hs:findIn K (.ref C) "__setattr__" = qq (qq (.builtin "object.__setattr__"))) (hn:findIn K (.ref C) name=qq qz) (hx:h.get? x=qq ox) (hc:ox.cls=.ref C) (hd:ox.dict=qz) (hdat:ox.data=.fields vs)
 (hq:∀ h' tk' d',d'≠x->h.get? d'=qz->h.objs.size<=d'->h'.get? x=qq {ox with dict:=qq d' }->h'.Ns1 d' (λ y=>if y=name then qq v else qz)->(∀ b o,b≠x->h.get? b=qq o->h'.get? b=qq o)->Q () ⟨h',g,d,tk',os⟩) :
 qu (model prog w) A (setAttr (.ref x) name v) Q E ⟨h,g,d,t,os⟩:=by
 have I:yCf h x ox C qz:=⟨hx,hc,by unfold notCls;rw[hdat],by rw[hd];trivial⟩
 have SF:=PySem.F.store_object;have hcO:(Value.ref C::bm).contains (.type "object")=true:=by rw[yCy,T.hasType (show jG.contains (.type "object")=true by decide),Bool.or_true]
 refine set_plain (s:=⟨h,g,d,t,os⟩) X I hs ?_;have sub:Looks (model prog w) h (isInstance (.ref x) (.type "object")) true:=I.type.andThen (λ A Q E s k z=>by
  obtain⟨hh,g,d,t,os⟩:=s;refine wpAny_isSubtype_exc (k _ _ hC) ?_;rw[hcO];exact z)
 refine codeAny_call_builtin SF.slot.plain SF.entry (@check_slot (model prog w) _ _ ⟨h,g,d,t+1,os⟩ "object.__setattr__" "object" "__setattr__" (.ref x) [.str name t,v] [] _ SF.kind SF.split sub (SF.args (.ref x) (.str name t) v) ?_);have L3:=looks_findIn (M:=model prog w) X hn;rw[osa_eq,refuse_eq];refine wB (wB (I.type.at (wB (wpAny_mroOf_exc hC ?_))));rw[refuseLoop_ref,aHN T];refine wP (wB (I.type.at (wB (L3.at (wB (wP ?_))))));show qu _ _ (Builtin.ObjectAttr.storeInOwnDict _ _ _ _ _ _) _ _ _;have hxs:x≠h.objs.size:=xAh (xAa hx);have hx₁:(h.push {cls:=.type "dict",data:=.dict #[] }).get? x=qq ox:=hpS _ hx;unfold Builtin.ObjectAttr.storeInOwnDict Builtin.ObjectAttr.ownDictForStores instanceDict
 repeat (first | (with_reducible refine wpAny_loadPart_at hx ?_;rw[hc]) | with_reducible refine wpAny_loadPart_at hC ?_ | wp_step)
 rw[hd];dsimp only;rw[if_neg (by simp[typeHasDict]),hdat]
 refine wB (wpAny_alloc' ?_);refine wB (wpAny_update' hx₁ ?_);refine wP ?_;have hgd:((h.push {cls:=.type "dict",data:=.dict #[] }).update x λ o=>{cls:=o.cls,dict:=qq h.objs.size,data:=o.data,slots:=o.slots }).get? h.objs.size=qq {cls:=.type "dict",data:=.dict #[] }:=
  (Heap.get?_update_ne _ _ _ _ hxs.symm).trans (Heap.get?_push_at rfl rfl)
 have hnd:((h.push {cls:=.type "dict",data:=.dict #[] }).update x λ o=>{cls:=o.cls,dict:=qq h.objs.size,data:=o.data,slots:=o.slots }).Ns h.objs.size (λ _=>qz):=
  ⟨_,#[],_,hgd,rfl,λ e he=>absurd he (by simp),λ _=>rfl⟩
 show qu _ _ (Builtin.ObjectAttr.storeInDict h.objs.size (.str name t) name v) _ _ _;unfold Builtin.ObjectAttr.storeInDict Builtin.ObjectAttr.newKeyGuard;refine wB (wP (wB (wpAny_nsSet1 (Heap.Ns1.of_empty hnd) λ h' hn' hs=>?_)))
 obtain⟨oD,esD,epD,hoD,hdD,hcD⟩:=hn'.count (Within.cons name v Within.nil);refine wB (wpAny_lookBehind hoD (by rw[hdD];exact pastItsLine_dict (xAg hcD (by rw[yBg,yEa,qo];omega))) ?_)
 refine wP ?_;show Q () _;refine hq h' _ h.objs.size hxs.symm (yDk (yAe _)) (yAe _) ?_ hn' λ b ob hbx hb=>?_
 ·refine(hs.2 x hxs).trans (yBy _ hx₁ ?_);have hfr:=(Heap.get?_some_iff.mp hx).2;obtain⟨oc,od,odt,osl⟩:=ox;cases odt<;>first | rfl | exact hfr
 ·exact(hs.2 b (xAh (xAa hb))).trans ((Heap.get?_update_ne _ _ _ _ hbx).trans (hpS _ hb))
end
structure XiOk(K:FrG)(C fI:qv):Prop where
 ex:yN K C jG "ValueError.__new__" = true
 it:findIn K (.ref C) "__init__" = qq (qq (.ref fI))
 sa:findIn K (.ref C) "__setattr__" = qq (qq (.builtin "object.__setattr__"))
 rw:findIn K (.ref C) "row" = qq qz
 kp:keepIn K (.ref C)=true
 fn:isFn K (.ref fI)=true
def aQI(X:Cx)(C:qv):TS:=λ D σ H=>∃ a oe vs i,σ[0]? = qq (qq (.ref a))/\σ[1]? = qq (qq (.int i))/\H a=qq (.ext λ h=>h.get? a=qq oe)/\oe.cls=.ref C/\oe.dict=qz/\oe.data=.fields vs /\
 ∀ dx,H dx=qz->dx≠a->D.nx σ (aQ (aQ H dx (.xd [("row",.int i)])) a (.ext λ h=>h.get? a=qq {oe with dict:=qq dx }))
theorem aNF{X:Cx}{C fI:qv}(O:XiOk X.K C fI){n0 n1:Str}{p0 p1 pos pos':Pos}(h0:X.N[0]? = qq n0)(h1:X.N[1]? = qq n1)(v0:lO X.env.scope n0)(v1:lO X.env.scope n1)(d0:(n0==("__debug__" : Str))=false)(c0:(n0==("__classdict__" : Str))=false)(d1:(n1==("__debug__" : Str))=false)(c1:(n1==("__classdict__" : Str))=false) :
 PS X (.Assign [.Attribute (.Name n0 p0) "row" pos'] (.Name n1 p1) pos) (aQI X C):=by
 rintro aA s σ H D I ⟨a,oe,vs,i,e0,e1,ea,hc,hd,hdat,q⟩;refine plainObj_wpAny_Assign_Attribute (aU (aBf (pos:=p1) h1 v1 d1 c1 aA s σ H (λ v H'=>v=.int i/\H'=H) I ⟨_,e1,rfl,rfl⟩) λ u s1 g1=>?_) rfl
 obtain⟨y,H1,I1,ry,ey,eH⟩:=g1;subst ey eH;refine aU (aBf (pos:=p0) h0 v0 d0 c0 aA s1 σ H1 (λ v H'=>v=.ref a/\H'=H1) I1 ⟨_,e0,rfl,rfl⟩) λ ov s2 g2=>?_
 obtain⟨x,H2,I2,rx,ex,eH⟩:=g2;subst ex eH;obtain rfl:ov=Value.ref a:=rx;obtain⟨bm,N,nm,qn,bs,sn,sub,ab,col,dd,k0,k1,k2,k3,k5,hC,T⟩:=aAC I2.kIn O.ex;have he:=(I2.hok a _ ea).1;obtain⟨h2,g2,d2,t2,o2⟩:=s2;refine aIF I2.kIn T hC O.sa O.rw he hc hd hdat λ h' tk' dx nx hnn hsz hx' hns hk=>?_
 have hdx:H2 dx=qz:=I2.hok.fresh hsz;refine⟨σ,_,?_,q dx hdx nx⟩;have hdo:∃ o,h'.get? dx=qq o:=let ⟨o,_,_,e,_⟩:=hns;⟨o,e⟩;have na:∀ b,H2 b=qz->b≠a:=λ b n z=>by rw[z,ea] at n;cases n
 have nd:∀ b u,h2.get? b=qq u->b≠dx:=λ b u e z=>by rw[z,hnn] at e;cases e
 have nd2:∀ b u,H2 b=qq u->b≠dx:=λ b u e z=>by rw[z,hdx] at e;cases e
 have un:Un X.fs [] H2 (aQ (aQ H2 dx (.xd [("row",.int i)])) a (.ext λ h=>h.get? a=qq {oe with dict:=qq dx })) h2 h':=by
  refine⟨λ b o e n _ _=>hk b o (na b n) e,λ b o e n _ _=>⟨o.slots,hk b o (na b n) e⟩,λ b o e n _=>?_,λ b o e _=>?_,λ b xs e=>?_,λ b o u e=>?_,λ b ps e=>⟨#[],?_⟩⟩
  ·rw[aW (na b n),aW (nd b o e)];exact n
  ·by_cases z:b=a
   ·rw[z];exact⟨_,hx'⟩
   ·exact⟨o,hk b o z e⟩
  ·rw[aW (λ z=>by rw[z,ea] at e;cases e),aW (nd2 b _ e)];exact e
  ·rw[aW (λ z=>by rw[z,ea] at e;cases e),aW (nd2 b _ e)];exact e
  ·rw[aW (λ z=>by rw[z,ea] at e;cases e),aW (nd2 b _ e),e];simp
 have hok:cO X.prog X.w (aQ (aQ H2 dx (.xd [("row",.int i)])) a (.ext λ h=>h.get? a=qq {oe with dict:=qq dx })) h':=λ b u e=>by
  by_cases z:b=a
  ·subst z;rw[bQ] at e;cases e;exact⟨hx',⟨_,hx'⟩,λ h1 h2 q1 q2=>q2 _ q1⟩
  ·rw[aW z] at e
   by_cases z2:b=dx
   ·subst z2;rw[bQ] at e;cases e;refine⟨_,hns,λ f=>?_⟩
    by_cases hf:f = "row"
    ·subst hf;rw[if_pos rfl];exact ry
    ·rw[if_neg hf,yAy];have:(f==("row" : Str))=false:=by rw[beq_eq_false_iff_ne];exact hf
     rw[this];exact trivial
   ·rw[aW z2] at e;refine(I2.hok b u e).stay (λ c v hcc k=>hk c v (λ y=>?_) k) (λ c k=>?_) λ c xs k=>?_
    ·rcases hcc with y2 | y2
     ·exact z (y2.symm.trans y)
     ·rw[y,ea] at y2;cases y2
    ·rw[aW (λ y=>by rw[y,ea] at k;cases k),aW (nd2 c _ k)];exact k
    ·rw[aW (λ y=>by rw[y,ea] at k;cases k),aW (nd2 c _ k)];exact k
 exact I2.un (t':=tk') un hok
noncomputable def qV(C:qv):Sp:=λ vs H Q _=>∃ a oe fv i,vs=[.ref a,.int i]/\H a=qq (.ext λ h=>h.get? a=qq oe)/\oe.cls=.ref C/\oe.dict=qz/\oe.data=.fields fv /\
 ∀ dx,H dx=qz->dx≠a->Q .non (aQ (aQ H dx (.xd [("row",.int i)])) a (.ext λ h=>h.get? a=qq {oe with dict:=qq dx }))
noncomputable def aGP(n0 n1:Str):List zy->Bool
 | [.Assign [.Attribute (.Name x _) a _] (.Name y _) _]=>decide (x=n0)&&decide (a = "row")&&decide (y=n1)
 | _=>false
noncomputable def aBj(st:zy)(n0 n1:Str):Bool:=decide ((bI st).kind=.function) && !(bI st).isCoroutine && !(bI st).isGenerator&&decide (n0≠n1)&&loc (bI st) n0&&loc (bI st) n1&&(bI st).names.all (λ y=>!decide (y.2=.free)) &&
 !(n0==("__debug__" : Str)) && !(n0==("__classdict__" : Str)) && !(n1==("__debug__" : Str)) && !(n1==("__classdict__" : Str))&&aGP n0 n1 (dX st)
theorem aMv{P:zq}{w:zx}{K:FrG}{mg:Str->Option qx}{base:Heap}{x bF:Str}{st:zy}{fI C:qv}{fd:jz}{n0 n1:Str}{k:Nat}(Fu:Fun K x bF st fI fd)(h:aBj st n0 n1=true)(O:XiOk K C fI):FnOk P w K mg base fJ (k+1) fI fd [n0,n1] (qV C):=by
 obtain⟨h,h12⟩:=bV h;obtain⟨h,h11⟩:=bV h;obtain⟨h,h10⟩:=bV h;obtain⟨h,h9⟩:=bV h;obtain⟨h,h8⟩:=bV h;obtain⟨h,h7⟩:=bV h;obtain⟨h,h6⟩:=bV h;obtain⟨h,h5⟩:=bV h;obtain⟨h,h4⟩:=bV h;obtain⟨h,h3⟩:=bV h;obtain⟨h1,h2⟩:=bV h;have hne:n0≠n1:=oqT h4;have sc:FnScope [n0,n1] [n0,n1] (bI st):=⟨oqT h1,tK h2,tK h3,by simp[hne],rfl,λ x hx=>by
  rcases List.mem_cons.mp hx with rfl | hx
  ·exact sF h5
  ·rw[yBl] at hx;subst hx;exact sF h6,λ y hy z=>by
  have:=List.all_eq_true.mp h7 y hy;rw[dqT z] at this;exact no this⟩
 refine Fu.ok sc (λ vs H Q E hsp=>?_) λ cdv A outer s H vs Q E hr hsp=>?_
 ·obtain⟨a,oe,fv,i,rfl,_⟩:=hsp;rfl
 ·have iP:∀ {y:Str},loc (bI st) y=true->lO (bI st) y:=λ hy=>by
   rcases sF hy with z | z
   ·exact .inl z
   ·exact .inr (.inl z)
  unfold aGP at h12
  split at h12
  ·rename_i x p0 a p' y p1 pos hb;obtain⟨q,q3⟩:=bV h12;obtain⟨q1,q2⟩:=bV q;have q1:=oqT q1;have q2:=oqT q2;have q3:=oqT q3;subst q1 q2 q3;rw[hb];refine⟨_,aAy (aNF (X:=(gW fJ P w K mg base [x,y] bF (bI st) fI cdv A outer s H E).nox) O rfl rfl (iP h5) (iP h6) (dD h8) (dD h9) (dD h10) (dD h11)) aAV,?_⟩;obtain⟨a,oe,fv,i,rfl,e1,e2,e3,e4,e5⟩:=hsp;exact⟨a,oe,fv,i,rfl,rfl,e1,e2,e3,e4,λ dx f1 f2=>e5 dx f1 f2⟩
  ·exact no h12
theorem aHO{X:Cx}{aA:List (qv×Obj)}{σ:L2.St}{H H':Hp}{s:qj}{a:qv}{φ:Heap->Prop}(I:Inv X aA σ H s)(ea:H a=qq (.ext φ))(ha:H' a=qz)(hb:∀ b,b≠a->H' b=H b):Inv X aA σ H' s:=by
 have nt:∀ b u,H' b=qq u->b≠a:=λ b u e z=>by rw[z,ha] at e;cases e
 have ni:∀ b,H b=qz->H' b=qz:=λ b n=>by
  by_cases z:b=a
  ·rw[z];exact ha
  ·rw[hb b z];exact n
 refine⟨I.ok,I.os,I.bare,⟨I.base.keep,I.base.slot,λ b u e n hx=>ni b (I.base.free b u e n hx),I.base.there,λ b xs e=>?_,λ b u v e=>?_,λ b ps e=>?_⟩,I.loc,I.cell,ni _ I.free,λ x c e=>ni _ (I.freeC x c e),λ p hp=>?_,λ b u e=>?_,I.len⟩
 ·have q:=I.base.tups b xs e;rw[hb b (λ z=>by rw[z,ea] at q;cases q)];exact q
 ·have q:=I.base.frzs b u v e;rw[hb b (λ z=>by rw[z,ea] at q;cases q)];exact q
 ·obtain⟨m,q⟩:=I.base.tbls b ps e;exact⟨m,by rw[hb b (λ z=>by rw[z,ea] at q;cases q)];exact q⟩
 ·obtain⟨e,n,r⟩:=I.pin p hp;exact⟨e,ni _ n,r⟩
 ·have e':=e;rw[hb b (nt b u e)] at e';exact(I.hok b u e').stay (λ _ _ _ q=>q) (λ c q=>by rw[hb c (λ z=>by rw[z,ea] at q;cases q)];exact q) λ c xs q=>by rw[hb c (λ z=>by rw[z,ea] at q;cases q)];exact q
section
variable {M : Model}{A : zv}{E : qx -> qj -> Prop}{env : Env}
variable {nm q : Str}{C N : qv}{bs bm : List qx}{hdct : Bool}{sn : List Str}{sub : List qx}{ab : Bool}{col : Option Bool}{dd : Option qv}{k0 k1 k2 k3 k5 : Option qx}{newId : String}
theorem aH0{s:qj}{x:Sem qx}{Q:Flow->qj->Prop}(hh:A.handled=qz)
 (h:qu M A x (λ v s₁=>∃ e dx vs nm q N bs bm hdct sn sub ab col dd k0 k1 k2 k3 k5 newId,v=.ref e/\s₁.heap.get? C=qq (excClassObj nm q C N bs bm hdct sn sub ab col dd k0 k1 k2 k3 k5 newId)/\bm.contains (.type "BaseException")=true /\
   s₁.heap.get? e=qq {cls:=.ref C,dict:=dx,data:=.fields vs }/\vs[1]? = qq .none/\E (.ref e) s₁) E s) :
 qu M A (raiseStmt env (qq x) qz) Q E s:=by
 unfold raiseStmt;refine wB (wpAny_mono h (λ v s₁ h₁=>?_) λ _ _ x=>x)
 obtain⟨e,dx,vs,nm,q,N,bs,bm,hdct,sn,sub,ab,col,dd,k0,k1,k2,k3,k5,newId,rfl,hC,hbase,he,hv1,hE⟩:=h₁;have hcB:(Value.ref C::bm).contains (.type "BaseException")=true:=by rw[yCy,hbase,Bool.or_true]
 obtain⟨hp,g,d,tk,os⟩:=s₁
 repeat (first | with_reducible refine wpAny_loadPart_at he ?_ | with_reducible refine wpAny_loadPart_at hC ?_ | (with_reducible refine wpAny_isSubtype_exc hC ?_;rw[hcB]) | wp_step)
 rw[hv1];refine wP ?_;rw[if_neg (by decide)]
 exact wP (wpAny_raiseNew_none hh hE)
end
theorem aEe{X:Cx}{C fI:qv}{fd:jz}{n0 n1:Str}{k:Nat}(O:XiOk X.K C fI)(hr:Room (k+1) X.A)(F:FnOk X.prog X.w X.K X.mg X.base fJ k fI fd [n0,n1] (qV C))(hbi:dG X.K fd [n0,n1] [])(hf:∃ oI,X.K.lookup fI=qq oI/\oI.cls=.type "function")
 {aA:List (qv×Obj)}{σ:L2.St}{H1:Hp}{s1:qj}{u:qx}{i:Int}{Q:qx->qj->Prop} (I1:Inv X aA σ H1 s1) (ru:aT (.int i) u)
 (hq:∀ s' ea dx ta,H1 ea=qz->H1 dx=qz->dx≠ea->s1.heap.get? ea=qz->Inv X aA σ (aQ (aQ H1 dx (.xd [("row",.int i)])) ea (.ext λ h=>h.get? ea=qq {cls:=.ref C,dict:=qq dx,data:=.fields #[.ref ta,.none,.none,.none,.bool false,.none] })) s'->(∀ b,s1.heap.get? b≠qz->s'.heap.get? b≠qz)->Q (.ref ea) s') :
 qu (model X.prog X.w) X.A (call (.ref C) [u]) Q X.xe s1:=by
 obtain⟨bm,N,nm,qn,bs,sn,sub,ab,col,dd,k0,k1,k2,k3,k5,hC,T⟩:=aAC I1.kIn O.ex;obtain⟨oI,hoI,hoc⟩:=hf;have Li:=looks_findIn (M:=model X.prog X.w) I1.kIn O.it;have hoI1:=I1.kIn _ _ hoI;obtain⟨h1,gg1,d1,t1,o1⟩:=s1;refine aH1 T hC Li hoI1 hoc (λ h' ea me=>?_) (by show 1<=qk;decide)
 obtain⟨ta,hea,_,_⟩:=me.there;have Ik:=I1.kept (t':=t1) me.keeps;have hHe:H1 ea=qz:=by
  cases z:H1 ea with
  | none=>rfl
  | some u =>
    obtain⟨o,ho⟩:=vF (I1.hok ea u z);rw[me.new] at ho;cases ho
 have It:=aAl (o:=.ext λ h=>h.get? ea=qq {cls:=.ref C,data:=.fields #[.ref ta,.none,.none,.none,.bool false,.none] }) Ik (sA I1) me.new hHe ⟨hea,⟨_,hea⟩,λ h1 h2 q1 q2=>q2 _ q1⟩
 refine wpAny_call (codeAny_mono (F.run _ X.stack _ _ ⟨[.ref ea,u],[]⟩ [.ref ea,u] [.ref ea,.int i] (λ v H2=>v=.non/\∃ dx,H1 dx=qz/\dx≠ea/\H2=aQ (aQ (aQ H1 ea (.ext λ h=>h.get? ea=qq {cls:=.ref C,data:=.fields #[.ref ta,.none,.none,.none,.bool false,.none] })) dx (.xd [("row",.int i)])) ea (.ext λ h=>h.get? ea=qq {cls:=.ref C,dict:=qq dx,data:=.fields #[.ref ta,.none,.none,.none,.bool false,.none] })) E0 (hr.make C [u] []) (It.env0.make C [u] []) (by have:=hbi _ [.ref ea,u] It.kIn rfl;rw[yAu] at this;exact this) (.cons rfl (.cons ru .nil))
  ⟨ea,_,_,i,rfl,bQ,rfl,rfl,rfl,λ dx f1 f2=>⟨rfl,dx,by rw[aW f2] at f1;exact f1,f2,rfl⟩⟩) λ r s' hc=>?_)
 cases r with
 | error x=>exact hc.elim
 | ok fl =>
   cases fl with
   | next=>exact hc.elim
   | brk=>exact hc.elim
   | cont=>exact hc.elim
   | ret u2 =>
     obtain⟨v,H2,os,bare,un,hok,rv,rfl,dx,f1,f2,rfl⟩:=hc;have I3:=It.call' (ch:=[]) os un hok bare λ b z=>absurd z (by simp)
     have eH:aQ (aQ (aQ H1 ea (.ext λ h=>h.get? ea=qq {cls:=.ref C,data:=.fields #[.ref ta,.none,.none,.none,.bool false,.none] })) dx (.xd [("row",.int i)])) ea (.ext λ h=>h.get? ea=qq {cls:=.ref C,dict:=qq dx,data:=.fields #[.ref ta,.none,.none,.none,.bool false,.none] }) =
      aQ (aQ H1 dx (.xd [("row",.int i)])) ea (.ext λ h=>h.get? ea=qq {cls:=.ref C,dict:=qq dx,data:=.fields #[.ref ta,.none,.none,.none,.bool false,.none] }):=by
      funext b
      by_cases z:b=ea
      ·subst z;rw[bQ,bQ]
      ·rw[aW z,aW z]
       by_cases z2:b=dx
       ·subst z2;rw[bQ,bQ]
       ·rw[aW z2,aW z2,aW z]
     rw[eH] at I3;refine⟨rv,hq s' ea dx ta hHe f1 f2 me.new I3 λ b hb=>?_⟩
     cases z:h1.get? b with
     | none=>exact absurd z hb
     | some o =>
       obtain⟨o',e'⟩:=un.there b o (me.keeps b o z) (by simp)
       exact jZ e'
noncomputable def aG0(c:Str)(fe:FE):FE:=λ env S=>(fe env S).bind λ p=>match p.1 with
 | .d (.int i)=>qq (.d (.dict [(.str c,.int i)]),p.2)
 | _=>qz
theorem aLT{X:Cx}{c:Str}{C fI:qv}{fd:jz}{n0 n1:Str}{k:Nat}{np cpos:Pos}{e:qw}{fe:FE}(hg:Gl X c)(hm:X.mg c=qq (.ref C))(hns:nsIn X.K qy c=qq (qq (.ref C)))(O:XiOk X.K C fI)
 (hr:Room (k+1) X.A) (F:FnOk X.prog X.w X.K X.mg X.base fJ k fI fd [n0,n1] (qV C)) (hbi:dG X.K fd [n0,n1] []) (hf:∃ oI,X.K.lookup fI=qq oI/\oI.cls=.type "function") (hd:(c==("__debug__" : Str))=false) (he:PE X e (aH X.K fe)) (hp:bR e=true) :
 PE X (.Call (.Name c np) [e] [] cpos) (aH X.K (aG0 c fe)):=by
 rintro aA s σ H Q I ⟨F0,L,S,env,w,S',R,E,ef,q⟩;obtain⟨⟨w1,S1⟩,e1,e2⟩:=bind_some ef;cases w1 with
 | loc n=>cases e2
 | exc c r=>cases e2
 | d dd =>
   cases dd with
   | int i =>
     cases e2;have ha:PA X [e] (cP X.K (cB fe fO)):=nS he nX (dE hp _ _);refine jq (kS I hg hm ?_ hd);refine yDu (h₀:=X.base) I.ok.mod.kin O.kp (aU (ha cpos aA s σ H (λ vs H1=>vs=[.int i]/\∃ F1 L1,Gr F0 L F1 L1/\Rel X.K F1 L1 S1 H1) I ⟨F0,L,S,env,[.d (.int i)],S1,R,E,by unfold cB;rw[e1];rfl,λ F1 L1 H1 vs g1 R1 d1=>?_⟩) λ us s1 ⟨vs,H1,I1,r,ev,F1,L1,g1,R1⟩=>⟨I1.kIn,?_⟩) (dE hp _ _) rfl
     ·cases d1 with
      | cons d1 d2 =>
        cases d2;cases (show Den X.K F1 (.int i) _ from d1)
        exact⟨rfl,F1,L1,g1,R1⟩
     subst ev;obtain⟨u,rfl,ru⟩:=fB r;refine aEe O hr F hbi hf I1 ru λ s' ea dx ta f1 f2 f3 f4 I3 _=>⟨.ref ea,_,I3,rfl,?_⟩
     have h2:aQ H1 dx (.xd [("row",.int i)]) ea=qz:=by rw[aW f3.symm];exact f1
     have R2:=(R1.new (o:=.xd [("row",.int i)]) f2).new (o:=.ext λ h=>h.get? ea=qq {cls:=.ref C,dict:=qq dx,data:=.fields #[.ref ta,.none,.none,.none,.bool false,.none] }) h2
     have hF:F1 dx=qz:=R1.sub.free f2;have hF2:aQ F1 dx (.xd [("row",.int i)]) ea=qz:=(R1.new (o:=.xd [("row",.int i)]) f2).sub.free h2;exact q _ L1 _ _ ((g1.trans (Gr.new hF)).trans (Gr.new hF2)) R2 (Den.exc ⟨C,_,bQ,rfl,rfl,hns,dx,rfl,by rw[aW f3];exact bQ⟩)
   | _=>cases e2
noncomputable def aBS(c:Str):FE:=λ _ S=>qq (.d (.dict [(.str c,.none)]),S)
theorem aNJ{X:Cx}{c:Str}{C:qv}{np pos:Pos}(hg:Gl X c)(hm:X.mg c=qq (.ref C))(hns:nsIn X.K qy c=qq (qq (.ref C)))(hq:excIn X.K C jG "ValueError.__new__" = true)(kp:keepIn X.K (.ref C)=true)(hd:(c==("__debug__" : Str))=false):PE X (.Call (.Name c np) [] [] pos) (aH X.K (aBS c)):=by
 rintro aA s σ H Q I ⟨F0,L,S,env,w,S',R,E,ef,q⟩;cases ef;refine jq (kS I hg hm ?_ hd);refine PySem.W.callWith_K0 I.kIn kp ?_;obtain⟨bm,N,nm,qn,bs,hd',sn,sub,ab,col,dd,k0,k1,k2,k3,k5,mN,hC,hN,hni,T⟩:=aEH I.kIn hq;have FB:=yDi;obtain⟨h1,gg1,d1,t1,o1⟩:=s;refine wpAny_call_exc_subU (hrest:=yEx _) FB FB.hasB FB T hC hN hni λ h' ea me=>?_
 obtain⟨ta,hea,_,_⟩:=me.there;have hHe:H ea=qz:=by
  cases z:H ea with
  | none=>rfl
  | some u =>
    obtain⟨o,ho⟩:=vF (I.hok ea u z);rw[me.new] at ho;cases ho
 have It:=aAl (o:=.ext λ h=>h.get? ea=qq {cls:=.ref C,data:=.fields #[.ref ta,.none,.none,.none,.bool false,.none] }) (I.kept (t':=t1) me.keeps) (sA I) me.new hHe ⟨hea,⟨_,hea⟩,λ h1 h2 q1 q2=>q2 _ q1⟩
 exact⟨.ref ea,_,It,rfl,q _ L _ _ (Gr.new (R.sub.free hHe)) (R.new hHe) (Den.exc ⟨C,_,bQ,rfl,rfl,hns,rfl⟩)⟩
noncomputable def vV(c:Str)(fe:FE):FX:=λ env S=>(fe env S).bind λ p=>match p.1 with
 | .d (.int i)=>qq (.ex env c (.int i),p.2)
 | _=>qz
theorem aJY{X:Cx}{W:XW}{c:Str}{C fI:qv}{fd:jz}{n0 n1:Str}{k:Nat}{np cpos pos:Pos}{e:qw}{fe:FE}(hx:sW X W)(hc:X.calm=true)(hg:Gl X c)(hm:X.mg c=qq (.ref C))(hns:nsIn X.K qy c=qq (qq (.ref C)))(O:XiOk X.K C fI)
 (hr:Room (k+1) X.A) (F:FnOk X.prog X.w X.K X.mg X.base fJ k fI fd [n0,n1] (qV C)) (hbi:dG X.K fd [n0,n1] []) (hf:∃ oI,X.K.lookup fI=qq oI/\oI.cls=.type "function") (hd:(c==("__debug__" : Str))=false) (he:PE X e (aH X.K fe)) (hp:bR e=true) :
 PS X (.Raise (qq (.Call (.Name c np) [e] [] cpos)) qz pos) (tX X.K W (vV c fe)):=by
 rintro aA s σ H D I ⟨F0,L,S,env,fx,S',R,E,ef,q⟩;obtain⟨⟨w1,S1⟩,e1,e2⟩:=bind_some ef;cases w1 with
 | loc n=>cases e2
 | exc c r=>cases e2
 | d dd =>
   cases dd with
   | int i =>
     cases e2;rw[arm_exec_Raise];simp only[evalOpt,Option.map];refine wB (vx (aH0 (C:=C) (I.ok.hd hc) (wB (wpAny_mono ?_ (λ v s₃ h₃=>wB (vx (wP h₃))) λ _ _ x=>x))))
     have ha:PA X [e] (cP X.K (cB fe fO)):=nS he nX (dE hp _ _);refine jq (kS I hg hm ?_ hd);refine yDu (h₀:=X.base) I.ok.mod.kin O.kp (aU (ha cpos aA s σ H (λ vs H1=>vs=[.int i]/\∃ F1 L1,Gr F0 L F1 L1/\Rel X.K F1 L1 S1 H1) I ⟨F0,L,S,env,[.d (.int i)],S1,R,E,by unfold cB;rw[e1];rfl,λ F1 L1 H1 vs g1 R1 d1=>?_⟩) λ us s1 ⟨vs,H1,I1,r,ev,F1,L1,g1,R1⟩=>⟨I1.kIn,?_⟩) (dE hp _ _) rfl
     ·cases d1 with
      | cons d1 d2 =>
        cases d2;cases (show Den X.K F1 (.int i) _ from d1)
        exact⟨rfl,F1,L1,g1,R1⟩
     subst ev;obtain⟨u,rfl,ru⟩:=fB r;refine aEe O hr F hbi hf I1 ru λ s' ea dx ta f1 f2 f3 f4 I3 cU=>?_
     have hH3:aQ H1 dx (.xd [("row",.int i)]) ea=qz:=by rw[aW f3.symm];exact f1
     have I4:=aHO (H':=aQ H1 dx (.xd [("row",.int i)])) I3 bQ hH3 λ b z=>(aW z).symm
     have he4:=(I3.hok ea _ bQ).1;obtain⟨bm,N,nm,qn,bs,sn,sub,ab,col,dd,k0,k1,k2,k3,k5,hC,T⟩:=aAC I4.kIn O.ex;refine⟨ea,_,_,nm,qn,N,bs,bm,true,sn,sub,ab,col,dd,k0,k1,k2,k3,k5, "ValueError.__new__",rfl,hC,T.hasType PySem.F.excBase_ValueError.hasBase,he4,rfl,?_⟩;refine hx _ _ ⟨ea,.ref C,qq dx,qz,s1.heap,σ,aQ H1 dx (.xd [("row",.int i)]),rfl,pK I4,⟨_,_,he4,rfl,rfl,rfl,Nat.lt_of_sub_pos (by simp),f4,hH3,.inl ⟨rfl,rfl⟩⟩,.inl rfl,sA (pK I1),cU,?_⟩
     have hF:F1 dx=qz:=R1.sub.free f2;exact q (aQ F1 dx (.xd [("row",.int i)])) L1 _ (g1.trans (Gr.new hF)) (R1.new f2) σ (.ref C) (qq dx) (E.mono (g1.trans (Gr.new hF))) ⟨C,rfl,hns,dx,rfl,bQ⟩
   | _=>cases e2
end EV
namespace EV
open PySem L2 PySem.Spec PyProof.Rows PySem.W
theorem aIu{K:FrG}{F:Hp}{L:List qv}{env:aS}{σ:St}(h:EnvR K F L env σ)(i:Nat):EnvR K F L (env.set i qz) (σ.set i qz):=by
 refine⟨by rw[yAq,yAq];exact h.len,λ j u e=>?_⟩
 by_cases hj:i=j
 ·subst hj;rcases yFg i env.length with q | q
  ·rw[yAo q] at e;cases e
  ·rw[yDc (by rw[yAq];exact q)] at e;cases e
 ·rw[yAn hj] at e;obtain⟨x,e1,r1⟩:=h.get j u e;exact⟨x,by rw[yAn hj];exact e1,r1⟩
theorem aDb{X:Cx}{tb:Str->Str->Option Bool}(ht:aBB X.K tb)(hN:X.N.Nodup)(hf:∀ x,X.fn x=true){a:qv}{cls:qx}{dx:Option qv}{h0:Heap}{c:Str}{r:D}{D:Ends}{E:qx->qj->Prop} :
 ∀ {hs:List Hd}{as:List ExceptHandler},HdsOk X hs as->∀ {σ:L2.St}{H F:Hp}{L:List qv}{S S':aB}{env:aS}{fl:Fl}{s:qj},Inv X [] σ H s->Trc s.heap h0 H a cls dx (qq .none)->Bel X [] h0->(∀ b,h0.get? b≠qz->s.heap.get? b≠qz) ->
  Rel X.K F L S H->EnvR X.K F L env σ->oP X.K F c r cls dx->eD tb c r hs env S=qq (fl,S')->(∀ F' L' H',Gr F L F' L'->Rel X.K F' L' S' H'->yB X.K D F' L' H' fl)->qu (model X.prog X.w) X.A (handleBy (.ref a) X.env as) (SP X [] D) E s
 | _,_,.nil,σ,H,F,L,S,S',env,fl,s,I,T,B,hb,R,En,Xk,e,q=>by cases e
 | h::hs,ah::as,.cons hd hr,σ,H,F,L,S,S',env,fl,s,I,T,B,hb,R,En,Xk,e,q=>by
   unfold xY at hd
   split at hd
   ·rename_i d np nm b0 suite pos;obtain⟨rfl,hg,hdb,⟨C',hns',hm'⟩,hnm,hsu⟩:=hd;obtain⟨C,rfl,hns,hx⟩:=id Xk;have Is:Inv (oU X (.ref a)) [] σ H s:=aBJ I;obtain⟨oe,vs,he,hc,hdx,hdat,hsz,hnew,hHe,htr⟩:=id T.ex;have LT:Looks (model X.prog X.w) s.heap (typeOf (.ref a)) (.ref C):=hc▸(Looks.ld he).andThen .now;cases hb2:tb c h.d with
    | none =>
      have e':eD tb c r (h::hs) env S=qz:=by unfold eD;rw[hb2]
      rw[e'] at e;cases e
    | some b =>
      have hex:=ht c h.d b C C' hb2 hns hns';refine wpAny_handleBy_cons (codeAny_handlers_test (kS (X:=oU X (.ref a)) Is hg hm' ((exm_one I.kIn LT hex).here ?_) hdb)) (by intro z;cases z)
      cases b with
      | false =>
        have e':eD tb c r hs env S=qq (fl,S'):=by
         have:eD tb c r (h::hs) env S=eD tb c r hs env S:=by rw[eD];rw[hb2]
         rw[<- this];exact e
        exact aDb ht hN hf hr I T B hb R En Xk e' q
      | true =>
        show vo _ _ _ _ _;cases nm with
        | none =>
          cases hsl:h.sl with
          | some i=>rw[hsl] at hnm;exact hnm.elim
          | none =>
            have e':h.f env S=qq (fl,S'):=by
             have:eD tb c r (h::hs) env S=h.f env S:=by rw[eD];rw[hb2];dsimp only;rw[hsl]
             rw[<- this];exact e
            refine codeAny_handlers_suite (rP (v:=qz) I T B hb λ s1 I1 T1 hb1=>?_)
            refine wpAny_mono (hsu (.ref a) [] s1 σ H D (aBJ I1) (gR R En e' q)) (λ f s2 h2=>?_) λ _ _ z=>z.elim
            cases f with
            | next=>obtain⟨σ',H',I',q'⟩:=h2;exact⟨σ',H',sV I.ok I',q'⟩
            | brk=>obtain⟨σ',H',I',q'⟩:=h2;exact⟨σ',H',sV I.ok I',q'⟩
            | cont=>obtain⟨σ',H',I',q'⟩:=h2;exact⟨σ',H',sV I.ok I',q'⟩
            | ret u=>obtain⟨v,σ',H',I',r',q'⟩:=h2;exact⟨v,σ',H',sV I.ok I',r',q'⟩
        | some n =>
          cases hsl:h.sl with
          | none=>rw[hsl] at hnm;exact hnm.elim
          | some i =>
            rw[hsl] at hnm;have e':(h.f (env.set i (qq (.exc c r))) S).bind (tY i)=qq (fl,S'):=by
             have:eD tb c r (h::hs) env S=(h.f (env.set i (qq (.exc c r))) S).bind (tY i):=by rw[eD];rw[hb2];dsimp only;rw[hsl]
             rw[<- this];exact e
            obtain⟨⟨fl1,S1⟩,e1,e2⟩:=bind_some e';cases fl1 with
            | rt w=>cases e2
            | bk e=>cases e2
            | ct e=>cases e2
            | nx e1' =>
              cases e2;refine codeAny_handlers_suite_as (rP (v:=qz) I T B hb λ s1 I1 T1 hb1=>?_)
              obtain⟨oe1,vs1,he1,hc1,hdx1,hdat1,hsz1,hnew1,hHe1,htr1⟩:=id T1.ex;have I2:=aAl (o:=.ext λ h=>h.get? a=qq oe1) I1 B hnew1 hHe1 ⟨he1,⟨_,he1⟩,λ h1 h2 q1 q2=>q2 _ q1⟩
              have g1:Gr F L (aQ F a (.ext λ h=>h.get? a=qq oe1)) L:=Gr.new (R.sub.free hHe1)
              have xc:iJ X.K (aQ F a (.ext λ h=>h.get? a=qq oe1)) a c r:=⟨C,oe1,bQ,hc1,by unfold notCls;rw[hdat1],hns,by rw[hdx1];exact hx.mono g1.f⟩
              refine aAx (X:=oU X (.ref a)) (aBJ I2) hN hnm.1 (.inl hnm.2) (v:=.ref a) (u:=.ref a) rfl (λ s2 I3=>?_) (.inl (hf n))
              refine wpAny_mono (hsu (.ref a) [] s2 _ _ {nx:=λ σ' H'=>D.nx (σ'.set i qz) H',rt:=λ _ _=>False } I3 (gR (R.new hHe1) ((En.mono g1).set i (w:=.exc c r) ⟨a,rfl,xc⟩) e1 λ F2 L2 H2 g2 R2 σ2 E2=>q F2 L2 H2 (g1.trans g2) R2 _ (aIu E2 i))) (λ f s3 h3=>?_) λ _ _ z=>z.elim
              cases f with
              | next =>
                obtain⟨σ',H',I',q'⟩:=h3;exact aKs (sV I.ok I') hN hnm.1 hnm.2 λ s4 I4=>⟨_,_,I4,q'⟩
              | brk=>obtain⟨σ',H',I',q'⟩:=h3;exact q'.elim
              | cont=>obtain⟨σ',H',I',q'⟩:=h3;exact q'.elim
              | ret u=>obtain⟨v,σ',H',I',r',q'⟩:=h3;exact q'.elim
   ·exact hd.elim
theorem aPQ{X:Cx}{W:XW}{tb:Str->Str->Option Bool}(ht:aBB X.K tb)(hN:X.N.Nodup)(hf:∀ x,X.fn x=true)(Df:Dfb X){body:List zy}{h0:ExceptHandler}{as:List ExceptHandler}{pos:Pos}{fb:FX}{hs:List Hd}
 (hb:∀ aA W',bN ((eE X aA).wish (jC (eE X aA) W')) body (tX X.K W' fb)) (hh:∀ aA,HdsOk (eE X aA) hs (h0::as)):PS X (.Try body (h0::as) [] [] pos) (tX X.K W (qQ tb fb hs)):=by
 rintro aA s σ H D I ⟨F,L,S,env,fx,S',R,E,e,q⟩;obtain⟨⟨p,S1⟩,e1,e2⟩:=bind_some e;have nxt:∀ {f:Flow}{s1:qj}{E':qx->qj->Prop},SP ((eE X aA).wish E') [] D f s1->(match f with | .next=>qu (model X.prog X.w) X.A (execs [] X.env) (SP X aA D) X.xe s1 | f=>SP X aA D f s1):=λ {f s1 E'} h=>by
  have h2:=spP h.unwish;cases f with
  | next=>exact wpAny_execs_nil h2
  | brk=>exact h2
  | cont=>exact h2
  | ret u=>exact h2
 cases p with
 | fl f =>
   cases e2;exact wpAny_Try_except (wpAny_mono (hb aA (λ _ _ _ _=>False) [] s σ H D ((aGR I).wish _) ⟨F,L,S,env,_,_,R,E,e1,q⟩) (λ f s1 h1=>nxt h1) λ e s1 h1=>by
    obtain⟨_,_,_,_,_,_,_,_,_,_,_,_,_,z⟩:=h1;exact z.elim)
 | ex env1 c r =>
   obtain⟨⟨fl,S2⟩,e3,e4⟩:=bind_some e2;cases e4;refine wpAny_Try_except (wpAny_mono (hb aA (λ σ' cls dx H'=>∃ F' L' aK S1,Gr F L F' L'/\Rel X.K F' L' S1 H'/\EnvR X.K F' L' aK σ'/\oP X.K F' c r cls dx/\eD tb c r hs aK S1=qq (fl,S2)) [] s σ H D ((aGR I).wish _)
    ⟨F,L,S,env,_,_,R,E,e1,λ F1 L1 H1 g1 R1 σ1 cls dx E1 x1=>⟨F1,L1,env1,S1,g1,R1,E1,x1,e3⟩⟩) (λ f s1 h1=>nxt h1) λ e s1 h1=>?_)
   refine aAH (X:=eE X aA) ⟨Df.stk,Df.frm,Df.ex⟩ rfl h1 λ a cls dx h0 σ1 H1 s2 ea I2 T2 B2 hb2 hw=>?_
   subst ea;obtain⟨F1,L1,aK,S3,g1,R1,E1,x1,e5⟩:=hw;refine rP (X:=eE X aA) (v:=qz) I2 T2 B2 hb2 λ s3 I3 T3 hb3=>?_
   exact aU (aDb (X:=eE X aA) ht hN hf (hh aA) I3 T3 B2 hb3 R1 E1 x1 e5 λ F2 L2 H2 g2 R2=>q F2 L2 H2 (g1.trans g2) R2) λ f s4 h4=>spP h4
section
variable {X : Cx}{pos : Pos}
noncomputable def lM(tb:Str->Str->Option Bool)(c:Str):List Str->Option Bool
 | []=>qq false
 | d::ds=>match tb c d with
   | some true=>qq true
   | some false=>lM tb c ds
   | none=>qz
noncomputable def qR:EV.W->Option (Str×D)
 | .exc c r=>qq (c,r)
 | .d (.dict [(.str c,r)])=>qq (c,r)
 | _=>qz
theorem aAG{K:FrG}{F:Hp}{L:List qv}{w:EV.W}{v:V}{z:Str×D}(h:dQ K F L w v)(e:qR w=qq z):∃ a,v=.ref a/\iJ K F a z.1 z.2:=by
 unfold qR at e
 split at e
 ·cases e;exact h
 ·cases e;cases (show Den K F _ v from h) with
  | exc x=>exact⟨_,rfl,x⟩
 ·cases e
noncomputable def oC(tb:Str->Str->Option Bool)(fa:FE)(ds:List Str):FE:=λ env S=>(fa env S).bind λ p=>(qR p.1).bind λ z=>(lM tb z.1 ds).bind λ b=>qq (.d (.bool b),p.2)
end
end EV
namespace EV
open PySem L2 PySem.Spec PyProof.Rows PySem.W
def eT(K:FrG)(mg:Str->Option qx)(d:Str)(v:V):Prop:=(∃ C,v=.ref C/\nsIn K qy d=qq (qq (.ref C))/\mg d=qq (.ref C))\/(∃ n,v=.ty n/\mg d=qz/\zk d=qq (.type n)/\d ≠ "__name__")
noncomputable def tO:V->qx
 | .ref a=>.ref a
 | .ty n=>.type n
 | _=>.none
theorem eT.val{K:FrG}{mg:Str->Option qx}{d:Str}{v:V}{u:qx}(h:eT K mg d v)(r:aT v u):u=tO v:=by
 rcases h with ⟨C,rfl,_⟩ | ⟨n,rfl,_⟩<;>exact r
theorem eT.rel{K:FrG}{mg:Str->Option qx}{d:Str}{v:V}(h:eT K mg d v):aT v (tO v):=by
 rcases h with ⟨C,rfl,_⟩ | ⟨n,rfl,_⟩<;>rfl
structure XT(K:FrG)(mg:Str->Option qx)(tb:Str->Str->Option Bool):Prop where
 exm:aBB K tb
 cls:∀ c d b C,tb c d=qq b->nsIn K qy c=qq (qq (.ref C))->XcOk K C
 nm:∀ c d b,tb c d=qq b->∃ v,eT K mg d v/\∀ C,nsIn K qy c=qq (qq (.ref C))->kitOne K (.ref C) (tO v)=qq b
section
variable {X : Cx}{pos : Pos}{tb : Str -> Str -> Option Bool}
theorem aPf{d:Str}{v:V}{p:Pos}(hg:Gl X d)(hd:(d==("__debug__" : Str))=false)(h:eT X.K X.mg d v):PE X (.Name d p) (tC v):=by
 rcases h with ⟨C,rfl,_,hm⟩ | ⟨n,rfl,hm,hv,hn⟩
 ·exact rX hg hm rfl hd
 ·exact aD9 hg hm hv rfl hn hd
theorem aEb{aA:List (qv×Obj)}{σ:L2.St}{H F:Hp}{s:qj}{a:qv}{c:Str}{r:D}(I:Inv X aA σ H s)(sb:bO F H)(h:iJ X.K F a c r):∃ C oe od,nsIn X.K qy c=qq (qq (.ref C))/\yCf s.heap a oe C od:=by
 obtain⟨C,oe,h1,h2,h3,h4,h5⟩:=h;have e:=(I.hok a _ (sb _ _ h1)).1;cases r with
 | none=>exact⟨C,oe,qz,h4,e,h2,h3,by rw[show oe.dict=qz from h5];trivial⟩
 | int i =>
   obtain⟨dx,q1,q2⟩:=h5;obtain⟨od,ho⟩:=vF (I.hok dx _ (sb _ _ q2));exact⟨C,oe,qq od,h4,e,h2,h3,by rw[q1];exact ho⟩
 | _=>exact h5.elim
theorem aJ5(T:XT X.K X.mg tb){d:Str}{v:V}(nv:eT X.K X.mg d v):cF X (.builtin "isinstance") (λ xs H Q=>∃ F L S a c r b,xs=[.ref a,v]/\Rel X.K F L S H/\iJ X.K F a c r/\tb c d=qq b/\Q (.bl b) H):=λ aA s σ H xs us Q I r aJ=>by
 obtain⟨F,L,S,a,c,rr,b,e,R,xc,hb,q⟩:=aJ;subst e;obtain⟨u,u2,rfl,r1,r2⟩:=sP r;cases (show u=Value.ref a from r1)
 obtain rfl:=nv.val r2;obtain⟨C,oe,od,hC,J⟩:=aEb I R.sub xc;obtain⟨v',nv',hk⟩:=T.nm c d b hb;have:v'=v:=by
  rcases nv with ⟨C1,rfl,n1,m1⟩ | ⟨n,rfl,m1,n1,_⟩<;>rcases nv' with ⟨C2,rfl,n2,m2⟩ | ⟨n',rfl,m2,n2,_⟩
  ·rw[m1] at m2;cases m2;rfl
  ·rw[m1] at m2;cases m2
  ·rw[m1] at m2;cases m2
  ·rw[n1] at n2;cases n2;rfl
 subst this;exact kia_one (aDt (T.cls c d b C hb hC)) I.kIn J (hk C hC) (λ z=>nomatch z) λ tk=>⟨.bl b,H,I.tok _,rfl,q⟩
theorem aEE(T:XT X.K X.mg tb){c:Str}{C:qv}(hC:nsIn X.K qy c=qq (qq (.ref C))):∀ {ds:List Str}{vs:List V}{b:Bool},Paired (eT X.K X.mg) ds vs->lM tb c ds=qq b->kitAny X.K (.ref C) (vs.map tO)=qq b
 | _,_,_,.nil,e=>by cases e;rfl
 | d::ds,v::vs,b,.cons nv r,e=>by
   have e':(match tb c d with | some true=>qq true | some false=>lM tb c ds | none=>qz)=qq b:=e
   cases hb:tb c d with
   | none=>rw[hb] at e';cases e'
   | some b1 =>
     rw[hb] at e';obtain⟨v',nv',hk⟩:=T.nm c d b1 hb;have:v'=v:=by
      rcases nv with ⟨C1,rfl,n1,m1⟩ | ⟨n,rfl,m1,n1,_⟩<;>rcases nv' with ⟨C2,rfl,n2,m2⟩ | ⟨n',rfl,m2,n2,_⟩
      ·rw[m1] at m2;cases m2;rfl
      ·rw[m1] at m2;cases m2
      ·rw[m1] at m2;cases m2
      ·rw[n1] at n2;cases n2;rfl
     subst this;have hk:=hk C hC;rw[yAi];unfold kitAny;rw[hk];cases b1 with
     | true=>exact e'
     | false=>exact aEE T hC r e'
theorem aEu:∀ {ds:List Str}{vs:List V}{us:List qx},Paired (eT X.K X.mg) ds vs->aO vs us->us=vs.map tO
 | _,_,_,.nil,.nil=>rfl
 | _,_,_,.cons nv r,.cons rv rs=>by rw[yAi,<- aEu r rs,nv.val rv]
theorem aKw(T:XT X.K X.mg tb){ds:List Str}{vs:List V}(nv:Paired (eT X.K X.mg) ds vs)(hne:ds≠[]):cF X (.builtin "isinstance") (λ xs H Q=>∃ F L S a c r b p,xs=[.ref a,.ref p]/\H p=qq (.tup vs)/\Rel X.K F L S H/\iJ X.K F a c r/\lM tb c ds=qq b/\Q (.bl b) H):=λ aA s σ H xs us Q I r aJ=>by
 obtain⟨F,L,S,a,c,rr,b,p,e,hp,R,xc,hb,q⟩:=aJ;subst e;obtain⟨u,u2,rfl,r1,r2⟩:=sP r;cases (show u=Value.ref a from r1)
 cases (show u2=Value.ref p from r2)
 obtain⟨C,oe,od,hC,J⟩:=aEb I R.sub xc;obtain⟨_,its,rv,o,ho,hc,n,hd⟩:=I.hok p _ hp;obtain rfl:=aEu nv rv;have hX:XcOk X.K C:=by
  cases ds with
  | nil=>exact absurd rfl hne
  | cons d ds =>
    have e':(match tb c d with | some true=>qq true | some false=>lM tb c ds | none=>qz)=qq b:=hb
    cases hb1:tb c d with
    | none=>rw[hb1] at e';cases e'
    | some b1=>exact T.cls c d b1 C hb1 hC
 obtain⟨oc,od',oda,osl⟩:=o;dsimp only at hc hd;subst hc hd;exact kia_tup (aDt hX) I.kIn J ho (aEE T hC nv hb) (λ z=>nomatch z) λ tk=>⟨.bl b,H,I.tok _,rfl,q⟩
end
end EV
namespace EV
open PySem L2 PySem.Spec PyProof.Rows PySem.W
inductive Hx where
 | bl (b:Bool) | str (x:Str) | row (i:Nat) | isi (i:Nat) (d:Str) | isl (i:Nat) (ds:List Str)
inductive Hs where
 | set (j:Nat) (a:Hx) | tup (j:Nat) (as:List Hx) | lst (nw:Bool) (j:Nat) (as:List Hx) | app (j:Nat) (a:Hx) | cat (j:Nat) (as:List Hx)
noncomputable def tT(tb:Str->Str->Option Bool)(fa:FE):FE:=λ env S=>(fa env S).bind λ p=>(qR p.1).bind λ z=>match z.2,tb z.1 z.1 with
 | .int i,qq _=>qq (.d (.int i),p.2)
 | _,_=>qz
section
variable (tb : Str -> Str -> Option Bool)
noncomputable def hv:Hx->FE
 | .bl b=>fC (.bool b)
 | .str x=>fC (.str x)
 | .row i=>tT tb (fH i)
 | .isi i d=>oC tb (fH i) [d]
 | .isl i ds=>oC tb (fH i) ds
noncomputable def lN:List Hx->FA
 | []=>fO
 | a::as=>cB (hv tb a) (lN as)
noncomputable def cU:Hs->FS
 | .set j a=>dJ j (hv tb a)
 | .tup j as=>dJ j (tV (lN tb as))
 | .lst nw j as=>dJ j (match nw with | true=>fG (jB (lN tb as)) | false=>fQ (jB (lN tb as)))
 | .app j a=>tF (fX (fH j) (hv tb a))
 | .cat j as=>dJ j (kE .Add (fH j) (fQ (jB (lN tb as))))
noncomputable def kH:List Hs->FS
 | []=>nU
 | a::as=>cM (cU tb a) (kH as)
end
section
variable (N : List Str)(sc : zw)
noncomputable def uV(i:Nat)(x:qw):Bool:=eJ (λ x _=>decide (N[i]? = qq x)&&iP sc x && !(x==("__debug__" : Str)) && !(x==("__classdict__" : Str))) x
noncomputable def uD(d:Str)(x:qw):Bool:=eJ (λ z _=>decide (z=d)&&gl sc z && !(z==("__debug__" : Str))) x
noncomputable def aBr:List Str->List qw->Bool
 | [],xs=>xs.isEmpty
 | d::ds,xs=>(match xs with
   | x::xs=>uD sc d x&&bR x&&aBr ds xs
   | []=>false)
noncomputable def uH:Hx->qw->Bool
 | .bl b,x=>gY (.bool b) x
 | .str k,x=>gY (.str k) x
 | .row i,x=>yU (λ o m _=>decide (m = "row")&&eJ (λ x _=>decide (N[i]? = qq x)&&iP sc x && !(x==("__debug__" : Str)) && !(x==("__classdict__" : Str))) o) x
 | .isi i d,x=>qZ "isinstance" sc (λ y=>uV N sc i y) (λ z=>uD sc d z) x
 | .isl i ds,x=>!ds.isEmpty&&decide (ds.length<=100)&&qZ "isinstance" sc (λ y=>uV N sc i y) (λ z=>mY (λ xs _ _=>aBr sc ds xs) z) x
noncomputable def sS:List Hx->List qw->Bool
 | [],xs=>xs.isEmpty
 | a::as,xs=>(match xs with
   | x::xs=>uH N sc a x&&bR x&&sS as xs
   | []=>false)
noncomputable def lH(j:Nat)(ts:List qw):Bool:=gI (λ t=>eJ (λ x _=>decide (N[j]? = qq x)&&loc sc x) t) ts
noncomputable def aGw:Hs->zy->Bool
 | .set j a,st=>hJ (λ ts y _=>uH N sc a y&&eZ y&&lH N sc j ts) st
 | .tup j as,st=>hJ (λ ts y _=>mY (λ xs _ _=>sS N sc as xs) y&&eZ y&&lH N sc j ts) st
 | .lst _ j as,st=>hJ (λ ts y _=>oS (λ xs _=>sS N sc as xs) y&&eZ y&&lH N sc j ts) st
 | .app j a,st=>uU (λ x _=>tI "append" (λ y=>uV N sc j y) (λ z=>uH N sc a z) x&&eZ x) st
 | .cat j as,st=>hJ (λ ts y _=>oX (λ x o z _=>decide (o=.Add)&&uV N sc j x&&oS (λ xs _=>sS N sc as xs) z) y&&eZ y&&lH N sc j ts) st
noncomputable def aBl:List Hs->List zy->Bool
 | [],l=>l.isEmpty
 | a::as,l=>(match l with
   | st::r=>aGw N sc a st&&aBl as r
   | []=>false)
end
section
variable {X : Cx}{tb : Str -> Str -> Option Bool}
theorem xS{i:Nat}{x:qw}(h:uV X.N X.env.scope i x=true):PE X x (aH X.K (fH i)):=eR (P:=λ x=>PE X x _) h λ x p h=>aBm (dT (aL (aL (aL h)))) (aA8 (aR (aL (aL h)))) (dD (aR (aL h))) (dD (aR h))
def xX(K:FrG)(mg:Str->Option qx)(ns:List Str):Prop:=∀ d∈ns,∃ v,eT K mg d v
theorem aBy{d:Str}{v:V}{x:qw}(nv:eT X.K X.mg d v)(h:uD X.env.scope d x=true):PE X x (tC v):=eR (P:=λ x=>PE X x _) h λ x p h=>by
 obtain rfl:=dT (aL (aL h));exact aPf (cX (aR (aL h))) (dD (aR h)) nv
theorem aFo:∀ {ds:List Str}{es:List qw},(∀ d∈ds,∃ v,eT X.K X.mg d v)->aBr X.env.scope ds es=true->∃ vs,Paired (eT X.K X.mg) ds vs/\PA X es (λ _ H Q=>Q vs H)
 | [],es,_,h=>eP (P:=λ es=>∃ vs,Paired (eT X.K X.mg) [] vs/\PA X es (λ _ H Q=>Q vs H)) h ⟨[],.nil,pS⟩
 | d::ds,[],_,h=>no h
 | d::ds,x::es,hn,h=>by
   obtain⟨v,nv⟩:=hn d xAd;obtain⟨vs,p,ha⟩:=aFo (λ d' hd=>hn d' (xAf _ hd)) (aR h)
   exact⟨v::vs,.cons nv p,jP (aBy nv (aL (aL h))) ha (dE (aR (aL h)) _ _)⟩
theorem aET{d:Str}{v:V}{fa:FE}{y z:qw}{p q:Pos}(T:XT X.K X.mg tb)(nv:eT X.K X.mg d v)(hb:X.mg "isinstance" = qz)(hg:Gl X "isinstance")(hy:PE X y (aH X.K fa))(py:bR y=true)(hz:PE X z (tC v))(pz:bR z=true):PE X (.Call (.Name "isinstance" p) [y,z] [] q) (aH X.K (oC tb fa [d])):=by
 refine PE.weak (jM (aJ5 T nv) hg hb (by decide +kernel) (jP hy (jP hz pS (dE pz _ _)) (dE py _ _)) (by decide) (by decide) (dE py _ _) (rQ (es:=[z]) (by unfold kQ kQ;rw[pz];rfl) _ _)) λ σ H Q hPq47=>?_
 obtain⟨F,L,S,env,w,S',R,E,e,q⟩:=hPq47;obtain⟨⟨w1,S1⟩,e1,e2⟩:=bind_some e;obtain⟨⟨c,r⟩,ez,e2⟩:=bind_some e2;obtain⟨b,e3,e4⟩:=bind_some e2;cases e4;refine⟨F,L,S,env,w1,_,R,E,e1,λ F1 L1 H1 v1 g1 R1 d1=>?_⟩
 obtain⟨a,rfl,xc⟩:=aAG d1 ez;have e5:tb c d=qq b:=by
  have e3':(match tb c d with | some true=>qq true | some false=>qq false | none=>qz)=qq b:=e3
  cases hb:tb c d with
  | none=>rw[hb] at e3';cases e3'
  | some b'=>rw[hb] at e3';cases b'<;>exact e3'
 exact⟨F1,L1,_,a,c,r,b,rfl,R1,xc,e5,q F1 L1 H1 _ g1 R1 (Den.bl b)⟩
theorem aN6{ds:List Str}{vs:List V}{fa:FE}{y:qw}{es:List qw}{kk:Nat}{tp p q:Pos}(T:XT X.K X.mg tb)(nv:Paired (eT X.K X.mg) ds vs)(hne:ds≠[])(hl:ds.length<=100)(hb:X.mg "isinstance" = qz)(hg:Gl X "isinstance")(hy:PE X y (aH X.K fa))(py:bR y=true)(hz:PA X es (λ _ H Q=>Q vs H)) :
 PE X (.Call (.Name "isinstance" p) [y,.Tuple es kk tp] [] q) (aH X.K (oC tb fa ds)):=by
 refine PE.weak (jM (aKw T nv hne) hg hb (by decide +kernel) (jP hy (jP (aA2 hz) pS rfl) (dE py _ _)) (by decide) (by decide) (dE py _ _) rfl) λ σ H Q hPq48=>?_
 obtain⟨F,L,S,env,w,S',R,E,e,q⟩:=hPq48;obtain⟨⟨w1,S1⟩,e1,e2⟩:=bind_some e;obtain⟨⟨c,r⟩,ez,e2⟩:=bind_some e2;obtain⟨b,e3,e4⟩:=bind_some e2;cases e4;refine⟨F,L,S,env,w1,_,R,E,e1,λ F1 L1 H1 v1 g1 R1 d1=>?_⟩
 obtain⟨a,rfl,xc⟩:=aAG d1 ez;refine⟨by rw[<- nv.length];exact xAg hl (by decide),λ p hp=>⟨F1,L1,_,a,c,r,b,p,rfl,bQ,R1.lay hp,xc,e3,q F1 L1 _ _ g1 (R1.lay hp) (Den.bl b)⟩⟩
theorem aMl{aA:List (qv×Obj)}{σ:L2.St}{H F:Hp}{s:qj}{a:qv}{c:Str}{i:Int}(I:Inv X aA σ H s)(sb:bO F H)(h:iJ X.K F a c (.int i)):∃ C oe od v,nsIn X.K qy c=qq (qq (.ref C))/\yCf s.heap a oe C (qq od)/\lookIn "row" od=qq (qq v)/\aT (.int i) v:=by
 obtain⟨C,oe,h1,h2,h3,h4,dx,q1,q2⟩:=h;have e:=(I.hok a _ (sb _ _ h1)).1;obtain⟨mA,hn,hr⟩:=I.hok dx _ (sb _ _ q2);obtain⟨od,ho,hl⟩:=aDq hn;have r:=hr "row";have hlk:List.lookup ("row" : Str) [(("row" : Str),V.int i)]=qq (V.int i):=rfl;rw[hlk] at r;obtain⟨v,hv,rv⟩:=tQ.some_of r;exact⟨C,oe,od,v,h4,⟨e,h2,h3,by rw[q1];exact ho⟩,by rw[hl,hv],rv⟩
theorem aPL{i:Nat}{x:Str}{p pos:Pos}(T:XT X.K X.mg tb)(hN:X.N[i]? = qq x)(hv:lO X.env.scope x)(hd:(x==("__debug__" : Str))=false)(hcd:(x==("__classdict__" : Str))=false):PE X (.Attribute (.Name x p) "row" pos) (aH X.K (tT tb (fH i))):=by
 rintro aA s σ H Q I ⟨F,L,S,env,w,S',R,E,e,q⟩;obtain⟨⟨w1,S1⟩,e1,e2⟩:=bind_some e;obtain⟨⟨c,r⟩,ez,e2⟩:=bind_some e2;dsimp only at e2 ez
 split at e2
 ·rename_i j b hb;cases e2;refine Attribute_name (aU (aBm (pos:=p) hN hv hd hcd aA s σ H (λ v H1=>∃ a F1 L1,v=.ref a/\Gr F L F1 L1/\Rel X.K F1 L1 S' H1/\iJ X.K F1 a c (.int j)) I ⟨F,L,S,env,_,_,R,E,e1,λ F1 L1 H1 v g1 R1 d1=>?_⟩) λ u s1 h1=>?_)
  ·obtain⟨a,rfl,xc⟩:=aAG d1 ez;exact⟨a,F1,L1,rfl,g1,R1,xc⟩
  ·obtain⟨v,H1,I1,rv,a,F1,L1,rfl,g1,R1,xc⟩:=h1;obtain rfl:u=Value.ref a:=rv;obtain⟨C,oe,od,v,hC,J,hl,rv⟩:=aMl I1 R1.sub xc;have O:=T.cls c c b C hb hC;obtain⟨tk,rfl⟩:=rv;unfold getAttr;refine wB (wpAny_mkText (aEV (s:={s1 with toks:=s1.toks+1 }) I1.kIn J O.ga O.gt (aDW (s:={s1 with toks:=s1.toks+1 }) I1.kIn J O.mb (aIU (s:={s1 with toks:=s1.toks+1 }) I1.kIn J (findObj_own O.hd O.rw rfl hl) ?_))))
   show qu _ _ (handedOut (.int j tk)) _ _ _;rw[handedOut_of rfl];exact wP ⟨.int j,H1,I1.tok _,⟨_,rfl⟩,q F1 L1 H1 _ g1 R1 (Den.int j)⟩
 ·cases e2
noncomputable def Hx.nms:Hx->List Str
 | .isi _ d=>[d]
 | .isl _ ds=>ds
 | _=>[]
theorem xE(T:XT X.K X.mg tb)(hb:X.mg "isinstance" = qz){a:Hx}(hn:xX X.K X.mg a.nms){x:qw}(h:uH X.N X.env.scope a x=true):PE X x (aH X.K (hv tb a)):=by
 cases a with
 | bl b=>exact iZ (P:=λ x=>PE X x _) h λ _ _=>aGy
 | str k=>exact iZ (P:=λ x=>PE X x _) h λ _ _=>aFL
 | row i =>
   refine aGs (P:=λ x=>PE X x _) h λ o m ap h=>eR (P:=λ o=>PE X (.Attribute o m ap) _) (aR h) λ n p g=>?_
   obtain rfl:=dT (aL h);exact aPL T (dT (aL (aL (aL g)))) (aA8 (aR (aL (aL g)))) (dD (aR (aL g))) (dD (aR g))
 | isi i d =>
   obtain⟨v,nv⟩:=hn d xAd;exact xT (P:=λ x=>PE X x _) h λ p y z q hg hy py hz pz=>aET T nv hb (cX hg) (xS hy) py (aBy nv hz) pz
 | isl i ds =>
   refine xT (P:=λ x=>PE X x _) (aR h) λ p y z q hg hy py hz pz=>oR (P:=λ z=>PE X (.Call (.Name "isinstance" p) [y,z] [] q) _) hz λ es kk tp hz=>?_
   obtain⟨vs,nv,ha⟩:=aFo hn hz;refine aN6 T nv (λ z=>?_) (dT (aR (aL h))) hb (cX hg) (xS hy) py ha
   have:=aL (aL h);rw[z] at this;exact no this
theorem wJ(T:XT X.K X.mg tb)(hb:X.mg "isinstance" = qz):∀ {as:List Hx}{xs:List qw},(∀ a∈as,xX X.K X.mg a.nms)->sS X.N X.env.scope as xs=true->PA X xs (cP X.K (lN tb as))
 | [],xs,_,h=>eP (P:=λ xs=>PA X xs _) h nX
 | a::as,[],_,h=>no h
 | a::as,x::xs,hn,h=>nS (xE T hb (hn a xAd) (aL (aL h))) (wJ T hb (λ b m=>hn b (xAf _ m)) (aR h)) (dE (aR (aL h)) _ _)
noncomputable def Hs.hxs:Hs->List Hx
 | .set _ a=>[a]
 | .tup _ as=>as
 | .lst _ _ as=>as
 | .app _ a=>[a]
 | .cat _ as=>as
theorem aPg(T:XT X.K X.mg tb)(hb:X.mg "isinstance" = qz)(nd:X.N.Nodup)(hf:∀ x,X.fn x=true){a:Hs}(hn:∀ b∈a.hxs,xX X.K X.mg b.nms){st:zy}(h:aGw X.N X.env.scope a st=true):PS X st (cE X.K (cU tb a)):=by
 have asg:∀ {j:Nat}{ts:List qw}{y:qw}{p:Pos}{fa:FE},lH X.N X.env.scope j ts=true->eZ y=true->PE X y (aH X.K fa)->PS X (.Assign ts y p) (cE X.K (dJ j fa)):=λ {j ts y p fa} g hy he =>
  fS (P:=λ ts=>PS X (.Assign ts y p) _) g λ _ g=>eR (P:=λ t=>PS X (.Assign [t] y p) _) g λ x q g=>xB nd (dT (aL g)) (pU (aR g)) he (lT hy _ _ _) (.inl (hf _))
 cases a with
 | set j a=>exact jD (P:=λ st=>PS X st _) h λ ts y p h=>asg (aR h) (aR (aL h)) (xE T hb (hn a xAd) (aL (aL h)))
 | tup j as=>exact jD (P:=λ st=>PS X st _) h λ ts y p h=>asg (aR h) (aR (aL h)) (oR (P:=λ y=>PE X y _) (aL (aL h)) λ xs _ _ h=>aF9 (wJ T hb hn h))
 | lst nw j as =>
   refine jD (P:=λ st=>PS X st _) h λ ts y p h=>asg (aR h) (aR (aL h)) ?_
   have z:PE X y (gJ X.K (jB (lN tb as))):=tM (P:=λ y=>PE X y _) (aL (aL h)) λ xs _ h=>sY (wJ T hb hn h)
   cases nw
   ·exact qJ z
   ·exact aF0 z
 | app j a =>
   exact aB2 (P:=λ st=>PS X st _) h λ x p h=>aFd (wT (P:=λ x=>PE X x _) (aL h) λ o ap y cp h4 h3 h2 h5 h6 =>
    PE.weak (xF PySem.F.plainAttrs_list PySem.F.slot_list_append PySem.F.type_list_append aAi (xS h2) (nS (xE T hb (hn a xAd) h5) nX (dE h6 _ _)) (lV h3 _ _) (by rw[st1 h6];rfl) h4 (st1 h6) rfl) aFF) (lT (aR h) _ _ _)
 | cat j as =>
   exact jD (P:=λ st=>PS X st _) h λ ts y p h=>asg (aR h) (aR (aL h)) (xW (P:=λ y=>PE X y _) (aL (aL h)) λ x o z _ h=>by
    obtain rfl:=dT (aL (aL h));exact aGh (xS (aR (aL h))) (qJ (tM (P:=λ y=>PE X y _) (aR h) λ xs _ h=>sY (wJ T hb hn h))))
theorem aE1(T:XT X.K X.mg tb)(hb:X.mg "isinstance" = qz)(nd:X.N.Nodup)(hf:∀ x,X.fn x=true):∀ {as:List Hs}{l:List zy},(∀ a∈as,∀ b∈a.hxs,xX X.K X.mg b.nms)->aBl X.N X.env.scope as l=true->bN X l (cE X.K (kH tb as))
 | [],l,_,h=>eP (P:=λ l=>bN X l _) h aFB
 | a::as,[],_,h=>no h
 | a::as,st::l,hn,h=>aFW (aPg T hb nd hf (hn a xAd) (aL h)) (aE1 T hb nd hf (λ b m=>hn b (xAf _ m)) (aR h))
end
end EV
namespace EV
open PySem L2 PySem.Spec PyProof.Rows PySem.W
inductive Xx where
 | s (a:Sx) | skip | seq (a b:Xx) | ifs (c:E) (a b:Xx) | loop (t:Tg) (it:E) (b:Xx)
 | raise (c:Str) | raise1 (c:Str) (e:E) | cal (f:Nat) (es:E) | set (i f:Nat) (es:E) | pair (i:Nat) (k:Str) (f:Nat) (es:E)
 | tri (b:Xx) (hs:List (Str×Option Nat×List Hs)) | mks (j:Nat) (cs:List Str) (e:E) | hnd (o:Nat) (it b:E) (c d:Str)
abbrev fR:=Nat->Option (Nat×(List W->aB->Option (ResX×aB)))
noncomputable def gT(CX:fR)(f:Nat)(fs:FA):jK:=λ env S=>match CX f with
 | some (np,call)=>aBv fs np call env S
 | none=>qz
noncomputable def aB0(fe:FE):List Str->FA
 | []=>fO
 | c::cs=>cB (aG0 c fe) (aB0 fe cs)
section
variable (C : Calls)(CX : fR)(tb : Str -> Str -> Option Bool)
noncomputable def xx:Xx->FX
 | .s a=>xP (xs C a)
 | .skip=>aFY
 | .seq a b=>aGV (xx a) (xx b)
 | .ifs c a b=>xIf (tv C c) (xx a) (xx b)
 | .loop t it b=>mO t (lv C it) (xx b)
 | .raise c=>aFr c
 | .raise1 c e=>vV c (ev C e)
 | .cal f es=>lA (gT CX f (av C es))
 | .set i f es=>kI i (gT CX f (av C es))
 | .pair i k f es=>kI i (aF1 k (gT CX f (av C es)))
 | .tri b hs=>qQ tb (xx b) (hs.map λ h=>⟨h.1,h.2.1,kH tb h.2.2⟩)
 | .mks j cs e=>xP (dJ j (fQ (jB (aB0 (ev C e) cs))))
 | .hnd o it b c d=>xP (mR (sR (kA .Eq (fQ (gG (.one o) (lv C it) oO (tT tb (fH o)))) (ev C b)) (oC tb (aBS c) [d])))
end
noncomputable def zF(k:Option qw->Option qw->Pos->Bool)(x:zy):Bool:=if h:x.ctorIdx=16 then @Stmt.Raise.elim (λ _=>Bool) x h k else false
theorem aGt{P:zy->Prop}{k:Option qw->Option qw->Pos->Bool}{x:zy}(h:zF k x=true)(g:∀ a b c,k a b c=true->P (.Raise a b c)):P x:=@Stmt.Raise.elim (λ e=>zF k e=true->P e) x (dW h) g h
noncomputable def kTr(k:List zy->List ExceptHandler->List zy->List zy->Pos->Bool)(x:zy):Bool:=if h:x.ctorIdx=17 then @Stmt.Try.elim (λ _=>Bool) x h k else false
theorem aPV{P:zy->Prop}{k:List zy->List ExceptHandler->List zy->List zy->Pos->Bool}{x:zy}(h:kTr k x=true)(g:∀ a b c d e,k a b c d e=true->P (.Try a b c d e)):P x:=@Stmt.Try.elim (λ e=>kTr k e=true->P e) x (dW h) g h
structure Xz where
 xo:List Str
 xb:List Str
 rc:List Str
 ri:List (Str×Str×zy)
section
variable (T : Tx)(Z : Xz)(N : List Str)
noncomputable def aQO(sc:zw)(h:Str×Option Nat×List Hs):ExceptHandler->Bool
 | .ExceptHandler t nm body _=>Z.xo.contains h.1&&t.any (λ t=>uD sc h.1 t)&&(match nm,h.2.1 with
    | none,qz=>true
    | some n,qq i=>decide (N[i]? = qq n)&&decide (sc.names.lookup n=qq .local)
    | _,_=>false) && !body.isEmpty&&aBl N sc h.2.2 body&&h.2.2.all λ a=>a.hxs.all λ b=>b.nms.all λ d=>Z.xo.contains d||Z.xb.contains d
noncomputable def aBx(sc:zw):List (Str×Option Nat×List Hs)->List ExceptHandler->Bool
 | [],as=>as.isEmpty
 | h::hs,as=>(match as with
   | a::as=>aQO Z N sc h a&&aBx sc hs as
   | []=>false)
noncomputable def yD(f:Nat)(es:E)(sc:zw)(x:qw):Bool:=iD (λ x xs=>decide ((T.fn[f]?).map (·.1)=qq x)&&gl sc x && !(x==("__debug__" : Str))&&jI T N es sc xs&&kQ xs && !xs.isEmpty) x
noncomputable def aBk(e:E)(sc:zw):List Str->List qw->Bool
 | [],xs=>xs.isEmpty
 | c::cs,xs=>(match xs with
   | x::xs=>iD (λ n ys=>gI (λ y=>aX T N e sc y&&bR y) ys&&decide (n=c)&&gl sc n && !(n==("__debug__" : Str))&&(Z.ri.map (·.1)).contains c) x&&bR x&&aBk e sc cs xs
   | []=>false)
noncomputable def aFJ(o:Nat)(it b:E)(sc:zw)(x:qw):Bool:=oQ (λ l op r=>decide (op=.Eq)&&aBQ N (.one o) .no sc (λ g y=>uJ T N it sc g y) (λ _ _=>false) (λ s y=>uH N s (.row o) y) l&&aX T N b sc r) x
noncomputable def aGg(c d:Str)(sc:zw)(x:qw):Bool:=(Z.xo.contains d||Z.xb.contains d)&&qZ "isinstance" sc (λ y=>iD (λ n xs=>xs.isEmpty&&decide (n=c)&&gl sc n && !(n==("__debug__" : Str))&&Z.rc.contains c) y) (λ z=>uD sc d z) x
mutual
noncomputable def okX:Xx->zw->zy->Bool
 | .s a,sc,st=>okS T N a sc st
 | .ifs c a b,sc,st=>zA (λ x y z _=>jJ T N c sc x&&kB a sc y&&kB b sc z) st
 | .loop t it b,sc,st=>zG (λ tg x y z _=>z.isEmpty&&qN false N sc t tg&&uJ T N it sc tg x&&bR x&&kB b sc y) st
 | .raise c,sc,st=>zF (λ e ca _=>uC ca&&e.any λ e=>iD (λ n xs=>xs.isEmpty&&decide (n=c)&&gl sc n && !(n==("__debug__" : Str))&&Z.rc.contains c) e) st
 | .raise1 c e,sc,st=>zF (λ x ca _=>uC ca&&x.any λ x=>iD (λ n xs=>gI (λ y=>aX T N e sc y&&bR y) xs&&decide (n=c)&&gl sc n && !(n==("__debug__" : Str))&&(Z.ri.map (·.1)).contains c) x) st
 | .cal f es,sc,st=>uU (λ x _=>yD T N f es sc x&&eZ x) st
 | .set i f es,sc,st=>hJ (λ ts y _=>yD T N f es sc y&&eZ y&&lH N sc i ts) st
 | .pair i k f es,sc,st=>hJ (λ ts y _=>mY (λ xs _ _=>qI (λ u v=>gY (.str k) u&&yD T N f es sc v&&bR v) xs) y&&eZ y&&lH N sc i ts) st
 | .tri b hs,sc,st=>kTr (λ bd hds oe fb _=>oe.isEmpty&&fb.isEmpty && !hs.isEmpty&&kB b sc bd&&aBx Z N sc hs hds) st
 | .mks j cs e,sc,st=>hJ (λ ts y _=>oS (λ xs _=>aBk T Z N e sc cs xs) y&&eZ y&&lH N sc j ts) st
 | .hnd o it b c d,sc,st=>yZ (λ v _=>v.any λ x=>qB .And (λ l r=>aFJ T N o it b sc l&&aGg Z c d sc r) x) st
 | _,_,_=>false
noncomputable def kB:Xx->zw->List zy->Bool
 | .skip,_,l=>l.isEmpty
 | .seq a b,sc,l=>(match l with
   | st::r=>okX a sc st&&kB b sc r
   | []=>false)
 | _,_,_=>false
end
end
structure XCtx(T:Tx)(Z:Xz)(C:Calls)(CX:fR)(tb:Str->Str->Option Bool)(X:Cx)(W:XW):Prop where
 ctx:Ctx T C X.nox
 fly:sW X W
 own:PassesOwn (model X.prog X.w) X.A X.env X.xe
 dfb:Dfb X
 fn:∀ x,X.fn x=true
 xt:XT X.K X.mg tb
 cal:∃ k,Room k X.A/\∀ f np call x,CX f=qq (np,call)->(T.fn[f]?).map (·.1)=qq x->∃ fa fd ps,X.mg x=qq (.ref fa)/\keepIn X.K (.ref fa)=true/\dG X.K fd ps []/\FnOk X.prog X.w X.K X.mg X.base (iQ X.prog X.w) k fa fd ps (oV X.K np call)
 xo:∀ d∈Z.xo,∃ C,nsIn X.K qy d=qq (qq (.ref C))/\X.mg d=qq (.ref C)
 xb:∀ d∈Z.xb,∃ n,X.mg d=qz/\zk d=qq (.type n)/\d ≠ "__name__"
 rc:∀ c∈Z.rc,∃ C,nsIn X.K qy c=qq (qq (.ref C))/\X.mg c=qq (.ref C)/\excIn X.K C jG "ValueError.__new__" = true/\keepIn X.K (.ref C)=true
 rm:Room 2 X.A
 ri:∀ c∈Z.ri.map (·.1),∃ C fI fd n0 n1,nsIn X.K qy c=qq (qq (.ref C))/\X.mg c=qq (.ref C)/\XiOk X.K C fI/\FnOk X.prog X.w X.K X.mg X.base fJ 1 fI fd [n0,n1] (qV C)/\dG X.K fd [n0,n1] []/\∃ oI,X.K.lookup fI=qq oI/\oI.cls=.type "function"
section
variable {T : Tx}{Z : Xz}{C : Calls}{CX : fR}{tb : Str -> Str -> Option Bool}
theorem XCtx.nms{X:Cx}{W:XW}(h:XCtx T Z C CX tb X W){d:Str}(hd:(Z.xo.contains d||Z.xb.contains d)=true):∃ v,eT X.K X.mg d v:=by
 rcases Bool.or_eq_true_iff.mp hd with z | z
 ·obtain⟨C,h1,h2⟩:=h.xo d (by simpa using z)
  exact⟨.ref C,.inl ⟨C,rfl,h1,h2⟩⟩
 ·obtain⟨n,h1,h2,h3⟩:=h.xb d (by simpa using z)
  exact⟨.ty n,.inr ⟨n,rfl,h1,h2,h3⟩⟩
theorem XCtx.tri{X:Cx}{W:XW}(h:XCtx T Z C CX tb X W)(aA:List (qv×Obj))(W':XW):XCtx T Z C CX tb ((eE X aA).wish (jC (eE X aA) W')) W' where
 ctx:=⟨h.ctx.nd,h.ctx.calm,rfl,h.ctx.kind,h.ctx.room,h.ctx.blt,h.ctx.tbs,h.ctx.cns,h.ctx.sts⟩
 fly:=λ _ _ z=>z.unwish
 own:=aEd (X:=eE X aA) ⟨h.dfb.stk,h.dfb.frm,h.dfb.ex⟩
 dfb:=⟨h.dfb.stk,h.dfb.frm,h.dfb.ex⟩
 fn:=h.fn
 xt:=h.xt
 cal:=h.cal
 xo:=h.xo
 xb:=h.xb
 rc:=h.rc
 rm:=h.rm
 ri:=h.ri
theorem PI.nox{X:Cx}{tg iter:qw}{wi:TI}(h:PI X.nox tg iter wi):PI X tg iter wi:=λ aA s σ H R I hw =>
 wpAny_mono (h aA s σ H R (I.wish _) hw) (λ v s1 h1=>wpAny_mono h1 (λ itv s2 hPr5=>by obtain⟨it,fp,tn,J,H',e,I',t,t0,hf,r⟩:=hPr5;exact⟨it,fp,tn,J,H',e,I'.unwish,t,t0,hf,r⟩) λ _ _ z=>z.elim) λ _ _ z=>z.elim
theorem aAM{X:Cx}{W:XW}(hX:XCtx T Z C CX tb X W){f:Nat}{es:E}{x:qw}(h:yD T X.N f es X.env.scope x=true):PE X x (oW X.K W (gT CX f (av C es))):=by
 refine kZ (P:=λ x=>PE X x _) h λ n p xs q h=>?_
 intro aA s σ H Q I t;obtain⟨F,L,S,env,res,S',R,E,e,r⟩:=id t;unfold gT at e;cases hc:CX f with
 | none=>rw[hc] at e;cases e
 | some v =>
   obtain⟨np,call⟩:=v;obtain⟨k,hr,hk⟩:=hX.cal;have h5:=aL (aL h);have h4:=aL h5;have h3:=aL h4;have h2:=aL h3;obtain⟨fa,fd,ps,m1,m2,m3,m4⟩:=hk f np call n hc (dT h2);cases xs with
   | nil=>exact no (aR h)
   | cons y ys =>
     have ha:PA X (y::ys) (cP X.K (av C es)):=PA.nox ((sn (T:=T) (C:=C) es).a X.nox hX.ctx _ (aR h5));have hp:=aR (aL h);obtain⟨p1,p2⟩:=bV hp;rw[hc] at e;exact aJh m4 hr (cX (aR h3)) m1 m2 m3 hX.fly ha (dD (aR h4)) (dE p1 _ _) (rQ p2 _ _) aA s σ H Q I (aJ8 σ H Q ⟨F,L,S,env,res,S',R,E,e,r⟩)
theorem aEW{X:Cx}{W:XW}(hX:XCtx T Z C CX tb X W)(aA:List (qv×Obj)):∀ {hs:List (Str×Option Nat×List Hs)}{as:List ExceptHandler},aBx Z X.N X.env.scope hs as=true->HdsOk (eE X aA) (hs.map λ h=>⟨h.1,h.2.1,kH tb h.2.2⟩) as
 | [],as,h=>eP (P:=λ as=>HdsOk (eE X aA) [] as) h .nil
 | h::hs,[],e=>no e
 | h::hs,a::as,e=>by
   refine .cons ?_ (aEW hX aA (aR e));have e1:=aL e;cases a with
   | ExceptHandler t nm body pos =>
     have e2:=aL e1;have e3:=aL e2;have e4:=aL e3;have e5:=aL e4;have hnm:=aR e4;have hne:=aR e3;have hss:=aR e2;have hall:=aR e1;refine qC (P:=λ t=>xY (eE X aA) _ (.ExceptHandler t nm body pos)) (aR e5) λ t ht=>eR (P:=λ t=>xY (eE X aA) _ (.ExceptHandler (qq t) nm body pos)) ht λ d np hd=>?_
     obtain rfl:=dT (aL (aL hd));cases body with
     | nil=>exact no hne
     | cons b0 suite =>
       refine⟨rfl,cX (aR (aL hd)),dD (aR hd),hX.xo _ (by simpa using aL e5),?_,λ ev=>?_⟩
       ·cases nm with
        | none =>
          cases hsl:h.2.1 with
          | none=>dsimp only;rw[hsl];trivial
          | some i=>rw[hsl] at hnm;exact no hnm
        | some n =>
          cases hsl:h.2.1 with
          | none=>rw[hsl] at hnm;exact no hnm
          | some i=>rw[hsl] at hnm;dsimp only;rw[hsl];exact⟨dT (aL hnm),dT (aR hnm)⟩
       ·refine aE1 (X:=oU (eE X aA) ev) hX.xt (hX.ctx.blt _ (by decide)) hX.ctx.nd hX.fn (λ a ha b hb d hd'=>hX.nms ?_) hss
        exact List.all_eq_true.mp (List.all_eq_true.mp (List.all_eq_true.mp hall a ha) b hb) d hd'
theorem aFg{X:Cx}{W:XW}(hX:XCtx T Z C CX tb X W){e:E}:∀ {cs:List Str}{xs:List qw},aBk T Z X.N e X.env.scope cs xs=true->PA X.nox xs (cP X.K (aB0 (ev C e) cs))
 | [],xs,h=>eP (P:=λ xs=>PA X.nox xs _) h nX
 | c::cs,[],h=>no h
 | c::cs,x::xs,h=>by
   refine nS ?_ (aFg hX (aR h)) (dE (aR (aL h)) _ _);refine kZ (P:=λ x=>PE X.nox x _) (aL (aL h)) λ n np ys q h=>?_
   have h4:=aL h;have h3:=aL h4;have h2:=aL h3;obtain rfl:=dT (aR h2);obtain⟨C,fI,fd,n0,n1,c1,c2,c3,c4,c5,c6⟩:=hX.ri n (by simpa using aR h)
   exact fS (P:=λ ys=>PE X.nox (.Call (.Name n np) ys [] q) _) (aL h2) λ y hy=>aLT (X:=X.nox) (cX (aR h3)) c2 c1 c3 hX.rm c4 c5 c6 (dD (aR h4)) ((sn e).e X.nox hX.ctx _ (aL hy)) (aR hy)
theorem aFt{X:Cx}{W:XW}(hX:XCtx T Z C CX tb X W){o:Nat}{it b:E}{x:qw}(h:aFJ T X.N o it b X.env.scope x=true):PE X.nox x (aH X.K (kA .Eq (fQ (gG (.one o) (lv C it) oO (tT tb (fH o)))) (ev C b))):=by
 refine qE (P:=λ x=>PE X.nox x _) h λ l op r p h h4=>?_
 obtain rfl:=dT (aL (aL h));refine aF7 hX.ctx.units (qJ ?_) ((sn b).e X.nox hX.ctx _ (aR h)) (nG h4 .Eq);refine aB4 (P:=λ l=>PE X.nox l _) (aR (aL h)) λ e tg iter ifs scope p h1 h2 h3 h4 h5 h6 h7=>?_
 have sok:=aAT h1;refine aA4 (X:=X.nox) (g:=oZ X.K (.one o)) hX.ctx.calm sok (λ i x a1 a2=>wK h2 i (gIm a1).1 x a1 a2) ((sn it).i X.nox hX.ctx tg iter h4) (λ Y hY=>?_) (pY X.K (.one o)) (λ Y hY=>?_) (λ Y hY=>?_) (rH h5 X.nox.env)
 ·obtain⟨c1,c2,c3,c4⟩:=hX.ctx.comp sok.kind hY;have z:=qF (X:=Y) (.inl rfl) c1.nd c1.calm (t:=.one o) (tg:=tg) (by rw[c2,c3];exact h3)
  rw[c4] at z;exact z
 ·cases ifs with
  | nil=>exact aAk
  | cons y r=>exact no (aR h6)
 ·obtain⟨aA,fp,Ca,s₀,H₀,rfl⟩:=hY;exact xE (X:=iS X.nox aA fp scope Ca s₀ H₀) (a:=.row o) hX.xt (hX.ctx.blt _ (by decide)) (λ _ z=>absurd z (by simp[Hx.nms])) h7
theorem aFb{X:Cx}{W:XW}(hX:XCtx T Z C CX tb X W){c d:Str}{x:qw}(h:aGg Z c d X.env.scope x=true):PE X.nox x (aH X.K (oC tb (aBS c) [d])):=by
 obtain⟨v,nv⟩:=hX.nms (aL h);refine xT (P:=λ x=>PE X.nox x _) (aR h) λ p y z q hg hy py hz pz=>aET hX.xt nv (hX.ctx.blt _ (by decide)) (cX hg) ?_ py (aBy (X:=X.nox) nv hz) pz
 refine kZ (P:=λ y=>PE X.nox y _) hy λ n np ys q h=>?_
 have h4:=aL h;have h3:=aL h4;have h2:=aL h3;obtain rfl:=dT (aR h2);obtain⟨C,c1,c2,c3,c4⟩:=hX.rc n (by simpa using aR h)
 exact eP (P:=λ ys=>PE X.nox (.Call (.Name n np) ys [] q) _) (aL h2) (aNJ (X:=X.nox) (cX (aR h3)) c2 c1 c3 c4 (dD (aR h4)))
def SX(T:Tx)(Z:Xz)(C:Calls)(CX:fR)(tb:Str->Str->Option Bool)(c:Xx):Prop:=∀ X W,XCtx T Z C CX tb X W->∀ st,okX T Z X.N c X.env.scope st=true->PS X st (tX X.K W (xx C CX tb c))
def SXs(T:Tx)(Z:Xz)(C:Calls)(CX:fR)(tb:Str->Str->Option Bool)(c:Xx):Prop:=∀ X W,XCtx T Z C CX tb X W->∀ st,kB T Z X.N c X.env.scope st=true->bN X st (tX X.K W (xx C CX tb c))
theorem sx(c:Xx):SX T Z C CX tb c/\SXs T Z C CX tb c:=by
 have N2:∀ {c:Xx},SX T Z C CX tb c->(∀ N sc st,kB T Z N c sc st=false)->SX T Z C CX tb c/\SXs T Z C CX tb c:=λ q hh=>⟨q,λ X W hX st h=>by rw[hh] at h;exact no h⟩
 have asg:∀ {X:Cx}{W:XW},XCtx T Z C CX tb X W->∀ {j:Nat}{ts:List qw}{y:qw}{p:Pos}{f:jK},lH X.N X.env.scope j ts=true->eZ y=true->PE X y (oW X.K W f)->PS X (.Assign ts y p) (tX X.K W (kI j f)):=λ {X W} hX {j ts y p f} g hy he =>
  fS (P:=λ ts=>PS X (.Assign ts y p) _) g λ _ g=>eR (P:=λ t=>PS X (.Assign [t] y p) _) g λ x q g=>aPs hX.ctx.nd (dT (aL g)) (pU (aR g)) he (lT hy _ _ _) (.inl (hX.fn _))
 induction c with
 | s a=>exact N2 (λ X W hX st h=>x_s ((ss a).1 X.nox hX.ctx hX.fn st h)) λ _ _ _=>rfl
 | skip=>exact⟨λ X W hX st h=>no h,λ X W hX st h=>eP (P:=λ st=>bN X st _) h aPJ⟩
 | seq a b aN bC=>exact⟨λ X W hX st h=>no h,λ X W hX st h=>by
    cases st with
    | nil=>exact no h
    | cons s r=>exact aOC (aN.1 X W hX _ (aL h)) (bC.2 X W hX _ (aR h))⟩
 | ifs c a b aN bC=>exact N2 (λ X W hX st h=>aGO (P:=λ st=>PS X st _) h λ x y z p h=>aQy ((sn c).t X.nox hX.ctx _ (aL (aL h))).1 (aN.2 X W hX _ (aR (aL h))) (bC.2 X W hX _ (aR h))) λ _ _ _=>rfl
 | loop t it b bC=>exact N2 (λ X W hX st h=>aGK (P:=λ st=>PS X st _) h λ tg x y z p h=>eP (P:=λ z=>PS X (.For tg x y z p) _) (aL (aL (aL (aL h))))
    (aOJ hX.own hX.ctx.calm (PI.nox ((sn it).i X.nox hX.ctx _ _ (aR (aL (aL h))))) (qF (X:=X) (.inr hX.fn) hX.ctx.nd hX.ctx.calm (aR (aL (aL (aL h))))) (pY X.K t) (bC.2 X W hX _ (aR h)) (rH (aR (aL h)) X.env))) λ _ _ _=>rfl
 | raise c=>exact N2 (λ X W hX st h=>aGt (P:=λ st=>PS X st _) h λ e ca p h=>xG (P:=λ ca=>PS X (.Raise e ca p) _) (aL h) (qC (P:=λ e=>PS X (.Raise e qz p) _) (aR h) λ e h=>kZ (P:=λ e=>PS X (.Raise (qq e) qz p) _) h λ n np xs q h=>by
    have h4:=aL h;have h3:=aL h4;have h2:=aL h3;obtain rfl:=dT (aR h2);obtain⟨C,c1,c2,c3,_⟩:=hX.rc n (by simpa using aR h)
    exact eP (P:=λ xs=>PS X (.Raise (qq (.Call (.Name n np) xs [] q)) qz p) _) (aL h2) (aJc hX.fly hX.ctx.calm (cX (aR h3)) c2 c1 c3 (dD (aR h4))))) λ _ _ _=>rfl
 | raise1 c e=>exact N2 (λ X W hX st h=>aGt (P:=λ st=>PS X st _) h λ x ca p h=>xG (P:=λ ca=>PS X (.Raise x ca p) _) (aL h) (qC (P:=λ x=>PS X (.Raise x qz p) _) (aR h) λ x h=>kZ (P:=λ x=>PS X (.Raise (qq x) qz p) _) h λ n np xs q h=>by
    have h4:=aL h;have h3:=aL h4;have h2:=aL h3;obtain rfl:=dT (aR h2);obtain⟨C,fI,fd,n0,n1,c1,c2,c3,c4,c5,c6⟩:=hX.ri n (by simpa using aR h)
    exact fS (P:=λ xs=>PS X (.Raise (qq (.Call (.Name n np) xs [] q)) qz p) _) (aL h2) λ y hy=>aJY hX.fly hX.ctx.calm (cX (aR h3)) c2 c1 c3 hX.rm c4 c5 c6 (dD (aR h4)) (PE.nox ((sn e).e X.nox hX.ctx _ (aL hy))) (aR hy))) λ _ _ _=>rfl
 | cal f es=>exact N2 (λ X W hX st h=>aB2 (P:=λ st=>PS X st _) h λ x p h=>aLZ (aAM hX (aL h)) (lT (aR h) _ _ _)) λ _ _ _=>rfl
 | set i f es=>exact N2 (λ X W hX st h=>jD (P:=λ st=>PS X st _) h λ ts y p h=>asg hX (aR h) (aR (aL h)) (aAM hX (aL (aL h)))) λ _ _ _=>rfl
 | pair i k f es=>exact N2 (λ X W hX st h=>jD (P:=λ st=>PS X st _) h λ ts y p h=>asg hX (aR h) (aR (aL h)) (oR (P:=λ y=>PE X y _) (aL (aL h)) λ xs kk q h=>sX (P:=λ xs=>PE X (.Tuple xs kk q) _) h λ u v h=>iZ (P:=λ u=>PE X (.Tuple [u,v] kk q) _) (aL (aL h)) λ j p1=>aL0 (aAM hX (aR (aL h))) (aR h))) λ _ _ _=>rfl
 | mks j cs e=>exact N2 (λ X W hX st h=>x_s (jD (P:=λ st=>PS X.nox st _) h λ ts y p h=>fS (P:=λ ts=>PS X.nox (.Assign ts y p) _) (aR h) λ _ g=>eR (P:=λ t=>PS X.nox (.Assign [t] y p) _) g λ x q g=>xB (X:=X.nox) hX.ctx.nd (dT (aL g)) (pU (aR g)) (qJ (tM (P:=λ y=>PE X.nox y _) (aL (aL h)) λ xs _ h=>sY (aFg hX h))) (lT (aR (aL h)) _ _ _) (.inl (hX.fn _)))) λ _ _ _=>rfl
 | hnd o it b c d=>exact N2 (λ X W hX st h=>x_s (aGQ (P:=λ st=>PS X.nox st _) h λ _ p h=>qC (P:=λ v=>PS X.nox (.Return v p) _) h λ x h=>aGi (sC (P:=λ x=>PE X.nox x _) h (λ l r p h=>PE.weak (vY (aFt hX (aL h)) (aA5 (aFb hX (aR h)))) wM) λ l b c r p h=>PE.weak (vY (aFt hX (aL h)) (aFb hX (aR h))) wM))) λ _ _ _=>rfl
 | tri b hs bC=>exact N2 (λ X W hX st h=>aPV (P:=λ st=>PS X st _) h λ bd hds oe fb p h=>by
    have h4:=aL h;have h3:=aL h4;have h2:=aL h3;refine eP (P:=λ oe=>PS X (.Try bd hds oe fb p) _) (aL h2) (eP (P:=λ fb=>PS X (.Try bd hds [] fb p) _) (aR h2) ?_)
    have hh:=λ aA=>aEW hX aA (aR h)
    cases hds with
    | nil =>
      cases hs with
      | nil=>exact no (aR h3)
      | cons a b=>exact no (aR h)
    | cons h0 as=>exact aPQ hX.xt.exm hX.ctx.nd hX.fn hX.dfb (λ aA W'=>bC.2 _ W' (hX.tri aA W') _ (aR h4)) hh) λ _ _ _=>rfl
end
end EV
namespace EV
open PySem L2 PySem.Spec PyProof.Rows PySem.W
structure FnX where
 name:Str
 np:Nat
 N:List Str
 body:Sx ⊕ Xx
 st:zy
 kp:Bool:=false
noncomputable def aGM(fb:FS)(n:Nat)(ws:List EV.W)(S:aB):Option (EV.W×aB):=(fb (ws.map qq++yAg (n-ws.length) qz) S).bind λ p=>match p.1 with
 | .rt (.loc m)=>if m<S.length then qz else match p.2[m]? with
   | some (qq ds)=>qq (.loc S.length,p.2.take S.length++[qq ds])
   | _=>qz
 | _=>qz
theorem aKU{K:FrG}{fb:FS}{N:List Str}{np:Nat}{vs:List V}{H:Hp}{Q:VK}{E:XK}(h:hZ K np (aGM fb N.length) vs H Q E):cE K fb {nx:=λ _ H'=>Q .non H',rt:=Q } (L2.start N vs) H:=by
 obtain⟨F,L,S,ws,w,S',hn,R,dl,e,q⟩:=h;obtain⟨⟨fl,S1⟩,e1,e2⟩:=bind_some e;refine gR R (aAb dl) e1 λ F1 L1 H1 g1 R1=>?_
 cases fl with
 | nx aK=>cases e2
 | bk aK=>cases e2
 | ct aK=>cases e2
 | rt w' =>
   intro v d;cases w' with
   | d x=>cases e2
   | exc c r=>cases e2
   | loc m =>
     have e':(if m<S.length then qz else match S1[m]? with | some (qq ds)=>qq (EV.W.loc S.length,S1.take S.length++[qq ds]) | _=>qz)=qq (w,S'):=e2
     split at e'
     ·cases e'
     ·rename_i hm
      split at e'
      ·rename_i ds es;cases e';obtain⟨a,ea,rfl⟩:=d;obtain⟨sf,M,rfl⟩:=g1;have hl:=R.len;have hl1:=R1.len;have hS1:L.length<=S1.length:=by rw[<- hl1];simp
       have hnd:=List.nodup_append.mp R1.nd;have eM:M[m-L.length]? = qq a:=by
        rw[yAd (by omega)] at ea
        exact ea
       have eg:∀ n a',(L++[a])[n]? = qq a'->(n<L.length/\L[n]? = qq a')\/(n=L.length/\a'=a):=λ n a' z=>by
        by_cases c:n<L.length
        ·rw[xAj c] at z;exact .inl ⟨c,z⟩
        ·rw[yAd (by omega)] at z
         cases k:n-L.length with
         | zero=>rw[k] at z;simp at z;exact .inr ⟨by omega,z.symm⟩
         | succ j=>rw[k] at z;simp at z
       refine q F1 (L++[a]) H1 _ ⟨sf,[a],rfl⟩ ⟨R1.sub,?_,?_,λ n a' ds' z z'=>?_,λ n a' z=>?_⟩ ⟨a,?_,rfl⟩
       ·exact List.nodup_append.mpr ⟨hnd.1,by simp,λ x hx y hy=>by
         rw[List.mem_singleton.mp hy];exact hnd.2.2 x hx a (xAi eM)⟩
       ·simp only[yAp,yBf,yBg,yEa];omega
       ·rcases eg n a' z with ⟨c,z2⟩ | ⟨rfl,rfl⟩
        ·rw[xAj (by rw[yBf];omega),yDp (by omega)] at z'
         exact R1.loc n a' ds' (by rw[xAj c];exact z2) z'
        ·rw[yAd (by rw[yBf];omega)] at z'
         have:L.length-(S1.take S.length).length=0:=by rw[yBf];omega
         rw[this] at z';have z2:ds=ds':=by simpa using z'
         rw[<- z2];exact R1.loc m a' ds ea es
       ·rcases eg n a' z with ⟨c,z2⟩ | ⟨rfl,rfl⟩
        ·exact R1.tr n a' (by rw[xAj c];exact z2)
        ·exact R1.tr m a' ea
       ·rw[<- hl,yAd (yAe _),yCr];rfl
      ·cases e'
noncomputable def aGH(kp:Bool)(fb:FS)(n:Nat):List EV.W->aB->Option (EV.W×aB):=match kp with
 | false=>cQ fb n
 | true=>aGM fb n
theorem aKr{K:FrG}{kp:Bool}{fb:FS}{N:List Str}{np:Nat}{vs:List V}{H:Hp}{Q:VK}{E:XK}(h:hZ K np (aGH kp fb N.length) vs H Q E):cE K fb {nx:=λ _ H'=>Q .non H',rt:=Q } (L2.start N vs) H:=by
 cases kp with
 | false=>exact aE5 h
 | true=>exact aKU h
noncomputable def FnX.fn(G:FnX):Fn:={name:=G.name,np:=G.np,N:=G.N,body:=.skip,st:=G.st }
noncomputable def iH(C:Calls)(CX:fR)(tb:Str->Str->Option Bool)(G:FnX):List W->aB->Option (W×aB):=match G.body with
 | .inl b=>aGH G.kp (xs C b) G.N.length
 | .inr x=>nN (eQ (xx C CX tb x) G.N.length)
section
variable (fs : List Fn)(gs : List FnX)(tb : Str -> Str -> Option Bool)
noncomputable def aON(d:Nat)(C:Calls)(CX:fR):Calls:=λ f=>if f<fs.length then aF fs (d+1) f else (gs[f-fs.length]?).map λ G=>(G.np,iH C CX tb G)
noncomputable def aLI(C:Calls)(CX:fR):fR:=λ f=>if f<fs.length then qz else (gs[f-fs.length]?).bind λ G=>match G.body with
 | .inl _=>qz
 | .inr x=>qq (G.np,eQ (xx C CX tb x) G.N.length)
noncomputable def aE:Nat->Calls×fR
 | 0=>(λ _=>qz,λ _=>qz)
 | d+1=>(aON fs gs tb d (aE d).1 (aE d).2,aLI fs gs tb (aE d).1 (aE d).2)
noncomputable def kJ(t:Tbs):Tx:=⟨(fs.map λ F=>(F.name,F.np))++gs.map λ G=>(G.name,G.np),t.tb,t.cn,t.st⟩
noncomputable def wX(t:Tbs)(Z:Xz)(G:FnX):Bool:=
 decide ((bI G.st).kind=.function) && !(bI G.st).isCoroutine && !(bI G.st).isGenerator&&wD G.N&&decide (G.np<=G.N.length)&&(G.N.take G.np).all (loc (bI G.st))&&(bI G.st).names.all (λ y=>!decide (y.2=.free)) &&
  (match G.body with
    | .inl b=>kC (kJ fs gs t) G.N b (bI G.st) (dX G.st)
    | .inr x=>kB (kJ fs gs t) Z G.N x (bI G.st) (dX G.st))
end
theorem aC9{fs:List Fn}{gs:List FnX}{t:Tbs}{Z:Xz}{G:FnX}(h:wX fs gs t Z G=true):FnScope G.N (G.N.take G.np) (bI G.st)/\(match G.body with
 | .inl b=>kC (kJ fs gs t) G.N b (bI G.st) (dX G.st)
 | .inr x=>kB (kJ fs gs t) Z G.N x (bI G.st) (dX G.st))=true/\(G.N.take G.np).length=G.np:=by
 obtain⟨h,h8⟩:=bV h;obtain⟨h,h7⟩:=bV h;obtain⟨h,h6⟩:=bV h;obtain⟨h,h5⟩:=bV h;obtain⟨h,h4⟩:=bV h;obtain⟨h,h3⟩:=bV h;obtain⟨h1,h2⟩:=bV h;have hl:(G.N.take G.np).length=G.np:=by
  rw[yBf];have:=oqT h5;omega
 refine⟨⟨oqT h1,tK h2,tK h3,aAF h4,by rw[hl],λ x hx=>sF (List.all_eq_true.mp h6 x hx),λ y hy=>?_⟩,h8,hl⟩
 have:=List.all_eq_true.mp h7 y hy;intro z;rw[dqT z] at this;exact no this
structure XK0(K:FrG)(mg:Str->Option qx)(Z:Xz)(tb:Str->Str->Option Bool):Prop where
 xt:XT K mg tb
 xo:∀ d∈Z.xo,∃ C,nsIn K qy d=qq (qq (.ref C))/\mg d=qq (.ref C)
 xb:∀ d∈Z.xb,∃ n,mg d=qz/\zk d=qq (.type n)/\d ≠ "__name__"
 rc:∀ c∈Z.rc,∃ C,nsIn K qy c=qq (qq (.ref C))/\mg c=qq (.ref C)/\excIn K C jG "ValueError.__new__" = true/\keepIn K (.ref C)=true
 ri:∀ z∈Z.ri,∃ C fI fd,nsIn K qy z.1=qq (qq (.ref C))/\mg z.1=qq (.ref C)/\XiOk K C fI/\Fun K "__init__" z.2.1 z.2.2 fI fd/\aBj z.2.2 "self" "row" = true/\dG K fd ["self", "row"] []/\∃ oI,K.lookup fI=qq oI/\oI.cls=.type "function"
section
variable {P : zq}{w : zx}{K : FrG}{mg : Str -> Option qx}{base : Heap}{fs : List Fn}{gs : List FnX}{tb : Str -> Str -> Option Bool}{t : Tbs}{Z : Xz}
theorem aDu{f:Nat}{x:Str}(h:((kJ fs gs t).fn[f]?).map (·.1)=qq x):(∃ F,f<fs.length/\fs[f]? = qq F/\F.name=x)\/(∃ G,¬ f<fs.length/\gs[f-fs.length]? = qq G/\G.name=x):=by
 unfold kJ at h;dsimp only at h
 by_cases hf:f<fs.length
 ·rw[xAj (by simpa using hf),xAb] at h
  cases q:fs[f]? with
  | none=>rw[q] at h;cases h
  | some F=>rw[q] at h;exact .inl ⟨F,hf,rfl,Option.some.inj h⟩
 ·rw[yAd (by simpa using hf),xAb,yAb] at h
  cases q:gs[f-fs.length]? with
  | none=>rw[q] at h;cases h
  | some G=>rw[q] at h;exact .inr ⟨G,hf,rfl,Option.some.inj h⟩
theorem aDT(hk:∀ F∈fs,uE fs t F=true)(gk:∀ G∈gs,wX fs gs t Z G=true)(top:∀ F∈fs,∃ fa fd,Fun K F.name F.name F.st fa fd/\mg F.name=qq (.ref fa)/\dG K fd (F.N.take F.np) [])(topX:∀ G∈gs,∃ fa fd,Fun K G.name G.name G.st fa fd/\mg G.name=qq (.ref fa)/\dG K fd (G.N.take G.np) [])
 (hb:∀ x∈bltNames,mg x=qz) (ht:∀ x aI,(x,aI)∈t.tb->∃ a,mg x=qq (.ref a)/\mE K w a aI) (hcn:∀ x ts,(x,ts)∈t.cn->∃ a,mg x=qq (.ref a)/\nV K a ts) (cU:∀ x y,(x,y)∈t.st->∃ k,mg x=qq (.str y k)) (X0:XK0 K mg Z tb) :
 ∀ d,(∀ f np call x,(aE fs gs tb d).1 f=qq (np,call)->((kJ fs gs t).fn[f]?).map (·.1)=qq x->∃ fa fd ps,mg x=qq (.ref fa)/\keepIn K (.ref fa)=true/\dG K fd ps []/\FnOk P w K mg base fJ (d+2) fa fd ps (hZ K np call)) /\
  (∀ f np call x,(aE fs gs tb d).2 f=qq (np,call)->((kJ fs gs t).fn[f]?).map (·.1)=qq x->∃ fa fd ps,mg x=qq (.ref fa)/\keepIn K (.ref fa)=true/\dG K fd ps []/\FnOk P w K mg base (iQ P w) (d+2) fa fd ps (oV K np call)) /\
  (∀ g G np call fa fd,gs[g]? = qq G->(aE fs gs tb d).1 (fs.length+g)=qq (np,call)->Fun K G.name G.name G.st fa fd->FnOk P w K mg base fJ (d+2) fa fd (G.N.take G.np) (hZ K np call))
 | 0=>⟨λ f np call x e=>(by cases e),λ f np call x e=>(by cases e),λ g G np call fa fd _ e=>(by cases e)⟩
 | d+1=>by
   obtain⟨ih1,ih2,_⟩:=aDT hk gk top topX hb ht hcn cU X0 d;have raising:∀ (G:FnX) (x:Xx),G∈gs->G.body=.inr x->∀ fa fd,Fun K G.name G.name G.st fa fd->FnOk P w K mg base (iQ P w) (d+1+2) fa fd (G.N.take G.np) (oV K G.np (eQ (xx (aE fs gs tb d).1 (aE fs gs tb d).2 tb x) G.N.length)):=λ G x hG hbd fa fd Fu=>by
    obtain⟨sc,hok,hl⟩:=aC9 (gk G hG);rw[hbd] at hok;refine Fun.okX Fu sc (λ vs H Q E h=>?_) λ X A vs H Q E e1 e2 e3 e4 e5 e6 e7 e8 e9 D hr h=>?_
    ·obtain⟨F1,L,S,ws,w1,S',hn,R,dl,_⟩:=h;rw[hl,<- hn];exact dl.length.symm
    ·subst e1 e2 e3 e4 e5;refine⟨_,(sx (T:=kJ fs gs t) (Z:=Z) (C:=(aE fs gs tb d).1) (CX:=(aE fs gs tb d).2) (tb:=tb) x).2 (X.wish (jC X λ _=>E)) (λ _=>E) ?_ _ (by show kB _ _ X.N x X.env.scope _=true;rw[e6,e7];exact hok),aKR h⟩
     have hri:∀ c∈Z.ri.map (·.1),∃ C fI fd n0 n1,nsIn X.K qy c=qq (qq (.ref C))/\X.mg c=qq (.ref C)/\XiOk X.K C fI/\FnOk X.prog X.w X.K X.mg X.base fJ 1 fI fd [n0,n1] (qV C)/\dG X.K fd [n0,n1] []/\∃ oI,X.K.lookup fI=qq oI/\oI.cls=.type "function":=λ c hc=>by
      obtain⟨z,hz,rfl⟩:=List.mem_map.mp hc;obtain⟨C,fI,fd,r1,r2,r3,r4,r5,r6,r7⟩:=X0.ri z hz;exact⟨C,fI,fd, "self", "row",r1,r2,r3,aMv r4 r5 r3,r6,r7⟩
     exact {ctx:=⟨by show X.N.Nodup;rw[e6];exact sc.nd,e8,rfl,by show X.env.scope.kind=_;rw[e7];exact sc.kind,⟨d+2,hr,ih1⟩,hb,ht,hcn,cU⟩,fly:=λ _ _ z=>z.unwish,own:=aEd (X:=X) D,dfb:=D.wish _,fn:=e9,xt:=X0.xt,cal:=⟨d+2,hr,ih2⟩,xo:=X0.xo,xb:=X0.xb,rc:=X0.rc,rm:=hr.mono (by omega),ri:=hri }
   have each:∀ G∈gs,∀ fa fd,Fun K G.name G.name G.st fa fd->FnOk P w K mg base fJ (d+1+2) fa fd (G.N.take G.np) (hZ K G.np (iH (aE fs gs tb d).1 (aE fs gs tb d).2 tb G)):=λ G hGm fa fd Fu=>by
    unfold iH;cases hbd:G.body with
    | inr x=>exact aJl (raising G x hGm hbd fa fd Fu)
    | inl b =>
      dsimp only;obtain⟨sc,hok,hl⟩:=aC9 (gk G hGm);rw[hbd] at hok;refine Fu.ok sc (λ vs H Q E h=>?_) λ cdv A outer s H vs Q E hr h=>?_
      ·obtain⟨F1,L,S,ws,w1,S',hn,R,dl,_⟩:=h;rw[hl,<- hn];exact dl.length.symm
      ·exact⟨_,(ss (T:=kJ fs gs t) (C:=(aE fs gs tb d).1) b).2 _ ⟨sc.nd,rfl,rfl,sc.kind,⟨d+2,hr,λ f' np' call' x' e1 e2=>ih1 f' np' call' x' e1 e2⟩,hb,λ x aI hx=>ht x aI hx,λ x ts hx=>hcn x ts hx,λ x y hx=>cU x y hx⟩ (λ _=>rfl) _ hok,aKr h⟩
   refine⟨λ f np call x e q=>?_,λ f np call x e q=>?_,λ g G np call fa fd hG e Fu=>?_⟩
   ·rcases aDu q with ⟨F,hf,hF,rfl⟩ | ⟨G,hf,hG,rfl⟩
    ·have e':aF fs (d+1) f=qq (np,call):=by
      have:(aE fs gs tb (d+1)).1 f=aF fs (d+1) f:=if_pos hf;rw[<- this];exact e
     obtain⟨fa,fd,Fu,hm,hbi⟩:=top F (xAi hF);exact⟨fa,fd,_,hm,Fu.kp,hbi,(aD3 fs t hk top hb ht hcn cU (d+1) f F np call fa fd hF e' Fu).mono (Nat.le_add_right _ _)⟩
    ·have e':(gs[f-fs.length]?).map (λ G=>(G.np,iH (aE fs gs tb d).1 (aE fs gs tb d).2 tb G))=qq (np,call):=by
      have:(aE fs gs tb (d+1)).1 f=(gs[f-fs.length]?).map λ G=>(G.np,iH (aE fs gs tb d).1 (aE fs gs tb d).2 tb G):=if_neg hf
      rw[<- this];exact e
     rw[hG] at e';cases e';have hGm:G∈gs:=xAi hG;obtain⟨fa,fd,Fu,hm,hbi⟩:=topX G hGm;exact⟨fa,fd,_,hm,Fu.kp,hbi,each G hGm fa fd Fu⟩
   ·rcases aDu q with ⟨F,hf,hF,rfl⟩ | ⟨G,hf,hG,rfl⟩
    ·have e':(qz:Option (Nat×(List EV.W->aB->Option (ResX×aB))))=qq (np,call):=by
      have:(aE fs gs tb (d+1)).2 f=qz:=if_pos hf;rw[<- this];exact e
     cases e'
    ·have e':((gs[f-fs.length]?).bind λ G=>match G.body with | .inl _=>qz | .inr x=>qq (G.np,eQ (xx (aE fs gs tb d).1 (aE fs gs tb d).2 tb x) G.N.length))=qq (np,call):=by
      have:(aE fs gs tb (d+1)).2 f=(gs[f-fs.length]?).bind λ G=>match G.body with | .inl _=>qz | .inr x=>qq (G.np,eQ (xx (aE fs gs tb d).1 (aE fs gs tb d).2 tb x) G.N.length):=if_neg hf
      rw[<- this];exact e
     rw[hG] at e';have hGm:G∈gs:=xAi hG;obtain⟨fa,fd,Fu,hm,hbi⟩:=topX G hGm;cases hbd:G.body with
     | inl b=>rw[yBj,hbd] at e';cases e'
     | inr x =>
       rw[yBj,hbd] at e';cases e';exact⟨fa,fd,_,hm,Fu.kp,hbi,raising G x hGm hbd fa fd Fu⟩
   ·have e':(gs[g]?).map (λ G=>(G.np,iH (aE fs gs tb d).1 (aE fs gs tb d).2 tb G))=qq (np,call):=by
     have:(aE fs gs tb (d+1)).1 (fs.length+g)=(gs[fs.length+g-fs.length]?).map λ G=>(G.np,iH (aE fs gs tb d).1 (aE fs gs tb d).2 tb G):=if_neg (by omega)
     rw[yCt] at this;rw[<- this];exact e
    rw[hG] at e';cases e';exact each G (xAi hG) fa fd Fu
end
noncomputable def oH(l:List (Str×Str×Bool))(c d:Str):Option Bool:=(l.find? λ e=>e.1==c&&e.2.1==d).map (·.2.2)
structure EntTop(K:FrG)(e:Str×Str×Bool):Prop where
 ex:∃ C,nsIn K qy e.1=qq (qq (.ref C))/\XcOk K C/\((∃ C',nsIn K qy e.2.1=qq (qq (.ref C'))/\exmOne K (.ref C) (.ref C')=qq e.2.2/\kitOne K (.ref C) (.ref C')=qq e.2.2) \/
  ∃ n,nsIn K qy e.2.1=qq qz/\zk e.2.1=qq (.type n)/\e.2.1 ≠ "__name__" /\ kitOne K (.ref C) (.type n)=qq e.2.2)
theorem aA3{l:List (Str×Str×Bool)}{c d:Str}{b:Bool}(h:oH l c d=qq b):(c,d,b)∈l:=by
 unfold oH at h;obtain⟨e,h1,h2⟩:=Option.map_eq_some_iff.mp h;have h3:=List.find?_some h1;have h4:=List.mem_of_find?_eq_some h1;obtain⟨c',d',b'⟩:=e;obtain⟨q1,q2⟩:=bV h3;have q1:c'=c:=by simpa using q1
 have q2:d'=d:=by simpa using q2
 have h2:b'=b:=h2;subst q1 q2 h2;exact h4
theorem aO1{K:FrG}{mg:Str->Option qx}{l:List (Str×Str×Bool)}(hm:∀ x v,nsIn K qy x=qq (qq v)->mg x=qq v)(hn:∀ x,nsIn K qy x=qq qz->mg x=qz)(h:∀ e∈l,EntTop K e):XT K mg (oH l) where
 exm:=λ c d b C C' hb hc hd=>by
  obtain⟨C1,h1,_,h3⟩:=(h _ (aA3 hb)).ex;have h1:nsIn K qy c=qq (qq (.ref C1)):=h1;rw[hc] at h1;cases h1;rcases h3 with ⟨C2,q1,q2,_⟩ | ⟨n,q1,_⟩
  ·have q1:nsIn K qy d=qq (qq (.ref C2)):=q1;rw[hd] at q1;cases q1;exact q2
  ·have q1:nsIn K qy d=qq qz:=q1;rw[hd] at q1;cases q1
 cls:=λ c d b C hb hc=>by
  obtain⟨C1,h1,h2,_⟩:=(h _ (aA3 hb)).ex;have h1:nsIn K qy c=qq (qq (.ref C1)):=h1;rw[hc] at h1;cases h1;exact h2
 nm:=λ c d b hb=>by
  obtain⟨C1,h1,_,h3⟩:=(h _ (aA3 hb)).ex;have h1:nsIn K qy c=qq (qq (.ref C1)):=h1;rcases h3 with ⟨C2,q1,_,q3⟩ | ⟨n,q1,q2,q3,q4⟩
  ·exact⟨.ref C2,.inl ⟨C2,rfl,q1,hm _ _ q1⟩,λ C hc=>by rw[hc] at h1;cases h1;exact q3⟩
  ·exact⟨.ty n,.inr ⟨n,rfl,hn _ q1,q2,q3⟩,λ C hc=>by rw[hc] at h1;cases h1;exact q4⟩
structure RcTop(K:FrG)(c:Str):Prop where
 ex:∃ C,nsIn K qy c=qq (qq (.ref C))/\excIn K C jG "ValueError.__new__" = true/\keepIn K (.ref C)=true
structure RiTop(K:FrG)(z:Str×Str×zy):Prop where
 ex:∃ (C fI:qv) (oc:qx) (od an:Option qv) (sl:Array (Option qx)) (kV dc pm cd ct:qx),nsIn K qy z.1=qq (qq (.ref C))/\XiOk K C fI/\K.lookup fI=qq ⟨oc,od,.func (fnOf "__init__" z.2.1 (gP z.2.2) (dX z.2.2) (bI z.2.2) .none kV dc pm an cd ct),sl⟩ /\
  codeIn K cd z.2.1=true/\keepIn K (.ref fI)=true
noncomputable def aBs(st:zy):Bool:=match gP st with
 | ⟨[],as,qz,[],_,qz,_⟩=>decide ((["self", "row"]:List Str)=as.map (·.arg))
 | _=>false
theorem aIW{x bF:Str}{st:zy}(h:aBs st=true)(kV doc pm:qx)(an:Option qv)(cdv ct:qx)(us:List qx)(hu:us.length=(["self", "row"]:List Str).length):bindArgs (fnOf x bF (gP st) (dX st) (bI st) .none kV doc pm an cdv ct) ⟨us,[]⟩=pure ((["self", "row"]:List Str).zip us):=by
 unfold aBs at h
 split at h
 ·rename_i as kd df e;have h1:=oqT h;rw[e];rw[h1] at hu ⊢;obtain⟨i1,i2⟩:=aAE (ns:=as.map (·.arg)) (us:=us) (by rw[<- h1];decide) hu
  have m:((as.map (·.arg)).take (as.map (·.arg)).length).filter (λ n=>(((as.map (·.arg)).zip us).lookup n).isNone)=[]:=by
   rw[yAh,List.filter_eq_nil_iff];intro n hn;rw[i1 n hn];decide
  unfold bindArgs;have q:seqItems? Value.none=(pure qz:Sem (Option (Array qx))):=rfl;simp only[yBx,q,pure_bind,yCg,yDg,yAu,List.forIn_nil,yEo,yEa,List.drop_nil,List.zip_nil_right,yFu,hu,gt_iff_lt,yBa,decide_false,yBh,yAw,if_false,m,List.isEmpty_nil,Bool.not_true,i2,Option.isNone_none]
 ·exact no h
structure XoTop(K:FrG)(c:Str):Prop where
 ex:∃ C,nsIn K qy c=qq (qq (.ref C))
structure XbTop(K:FrG)(d:Str):Prop where
 ex:∃ n,nsIn K qy d=qq qz/\zk d=qq (.type n)/\d ≠ "__name__"
theorem law_ofX{l:yFs}{q:zq}{loose:List Str}{XP:(Str->Option qx)->Heap->Prop}{YP:zx->Heap->Prop}{d:DefRec}{K:Params->FrG}(fs:List Fn)(gs:List FnX)(tb:Tbs)(Z:Xz)(xl:List (Str×Str×Bool))(f D:Nat)(L:FnX)(x:Str)
 (hn:l.most=qq 63) (hdf:d.params.defaults=[]) (hr:Room (D+2) callerA) (hY:∀ (w:zx) (h:Heap),YP w h->(K w.params).In h)
 (hk:∀ F∈fs,uE fs tb F=true) (gk:∀ G∈gs,wX fs gs tb Z G=true) (hb:∀ F∈fs,pQ F) (gb:∀ G∈gs,pQ G.fn) (hL:gs[f]? = qq L) (hname:L.name=d.name) (hps:L.N.take L.np=[x])
 (top:∀ w:zx,∀ h:Heap,(K w.params).In h->∀ F∈fs,TopFn (K w.params) F) (topX:∀ w:zx,∀ h:Heap,(K w.params).In h->∀ G∈gs,TopFn (K w.params) G.fn) (tbl:∀ w:zx,∀ h:Heap,(K w.params).In h->∀ t∈tb.tb,TabTop (K w.params) w t) (cnl:∀ w:zx,∀ h:Heap,(K w.params).In h->∀ t∈tb.cn,ConTop (K w.params) t) (stl:∀ w:zx,∀ h:Heap,(K w.params).In h->∀ t∈tb.st,StTop (K w.params) t) (tbn:∀ w:zx,∀ h:Heap,(K w.params).In h->∀ x∈bltNames,yBz (K w.params) qy x=qq qz)
 (rit:∀ w:zx,∀ h:Heap,(K w.params).In h->∀ z∈Z.ri,RiTop (K w.params) z) (rik:∀ z∈Z.ri,aBj z.2.2 "self" "row" = true/\aBs z.2.2=true) (ent:∀ w:zx,∀ h:Heap,(K w.params).In h->∀ e∈xl,EntTop (K w.params) e) (rct:∀ w:zx,∀ h:Heap,(K w.params).In h->∀ c∈Z.rc,RcTop (K w.params) c) (xot:∀ w:zx,∀ h:Heap,(K w.params).In h->∀ c∈Z.xo,XoTop (K w.params) c) (xbt:∀ w:zx,∀ h:Heap,(K w.params).In h->∀ c∈Z.xb,XbTop (K w.params) c)
 (main:∀ ns:List Int,ns.length<=63->(∀ i∈ns,yAj i<=1048576)->∃ call S',(aE fs gs (oH xl) D).1 (fs.length+f)=qq (1,call)/\call [.d (.list (ns.map yAl))] []=qq (.d (.bool true),S')) :
 PySem.W.WalkO q loose XP YP l.row.toRowW d [] (λ f vs=>PySem.call f vs):=by
 obtain⟨call,S0,hcall,_⟩:=main [] (by simp) (by simp)
 refine aJ7 hn hdf λ w s₀ s₁ mg mb fa a vs ns G Y hmg hobj hints bW hsm hg=>?_
 have KX:=hY w _ Y;have tops:∀ F:Fn,pQ F->TopFn (K w.params) F->∃ fa fd,Fun (K w.params) F.name F.name F.st fa fd/\mg F.name=qq (.ref fa)/\dG (K w.params) fd (F.N.take F.np) []:=λ F hF hT=>by
  obtain⟨f,oc,od,an,sl,kV,dc,pm,cd,ct,a,l,c,k⟩:=hT.ex;have Fu:=aEU (st:=F.st) l c k;exact⟨f,_,Fu,yFm KX G.T.g a,Fu.binds hF⟩
 have hmv:∀ x v,nsIn (K w.params) qy x=qq (qq v)->mg x=qq v:=λ x v e=>yFm KX G.T.g e
 have hmn:∀ x,nsIn (K w.params) qy x=qq qz->mg x=qz:=λ x e=>PySem.W.mg_none_of KX G.T.g e
 have hblt:∀ x∈bltNames,mg x=qz:=λ y hy=>hmn y (tbn w _ KX y hy)
 have htab:∀ x aI,(x,aI)∈tb.tb->∃ a,mg x=qq (.ref a)/\mE (K w.params) w a aI:=λ x aI hx=>by
  obtain⟨a,es,ep,a1,s1,l1,c1⟩:=(tbl w _ KX (x,aI) hx).ex;exact⟨a,yFm KX G.T.g a1,s1,es,ep,l1,c1⟩
 have hcon:∀ x ts,(x,ts)∈tb.cn->∃ a,mg x=qq (.ref a)/\nV (K w.params) a ts:=λ x ts hx=>by
  obtain⟨a,a1,c1⟩:=(cnl w _ KX (x,ts) hx).ex;exact⟨a,yFm KX G.T.g a1,c1⟩
 have cU:∀ x y,(x,y)∈tb.st->∃ t,mg x=qq (.str y t):=λ x y hx=>by
  obtain⟨k,a1⟩:=(stl w _ KX (x,y) hx).ex;exact⟨k,hmv _ _ a1⟩
 have X0:XK0 (K w.params) mg Z (oH xl):=⟨aO1 hmv hmn (ent w _ KX),λ d hd=>by
  obtain⟨C,h⟩:=(xot w _ KX d hd).ex;exact⟨C,h,hmv _ _ h⟩,λ d hd=>by
  obtain⟨n,h1,h2,h3⟩:=(xbt w _ KX d hd).ex;exact⟨n,hmn _ h1,h2,h3⟩,λ c hc=>by
  obtain⟨C,h1,h2⟩:=(rct w _ KX c hc).ex;exact⟨C,h1,hmv _ _ h1,h2⟩,λ z hz=>by
  obtain⟨C,fI,oc,od,an,sl,kV,dc,pm,cd,ct,a1,a2,a3,a4,a5⟩:=(rit w _ KX z hz).ex;have Fu:Fun (K w.params) "__init__" z.2.1 z.2.2 fI _:=aEU (st:=z.2.2) a3 a4 a5;refine⟨C,fI,_,a1,hmv _ _ a1,a2,Fu,(rik z hz).1,Fu.binds λ kV doc pm an cdv ct us hu=>aIW (rik z hz).2 kV doc pm an cdv ct us hu,_,a3,?_⟩
  have q:=a2.fn;unfold isFn at q;have q:=beq_iff_eq.mp q;unfold typeIn at q;simp only[a3] at q;exact Option.some.inj q⟩
 have hLm:L∈gs:=xAi hL;obtain⟨fa1,fd,Fu,hmg1,hbi⟩:=tops L.fn (gb L hLm) (topX w _ KX L hLm);have hmg1:mg L.name=qq (.ref fa1):=hmg1;rw[<- hname,hmg1] at hmg;cases hmg;refine L2.law_call (fd:=fd) (sp:=hZ (K w.params) 1 call) (CX:=fJ) (x:=x) KX G.T.g G.T.b G.T.builtins G.T.nolimit hg hobj hints (xAg bW (by decide)) hr (λ base kb nb=>?_) (λ s u=>?_) (λ H hO hS=>?_) λ _ _ _ z=>z
 ·have P1:=(aDT (P:=l.prog) (w:=w) (base:=base) (Z:=Z) hk gk (λ F hF=>tops F (hb F hF) (top w _ KX F hF)) (λ G hG=>tops G.fn (gb G hG) (topX w _ KX G hG)) hblt htab hcon cU X0 D).2.2 f L 1 call _ _ hL hcall Fu
  rw[hps] at P1;exact P1
 ·obtain⟨oc,od,kV,doc,pm,an,cdv,ct,osl,rfl,lk,hcd⟩:=Fu.ex;have:=gb L hLm kV doc pm an cdv ct [u] (by show [u].length=(L.N.take L.np).length;rw[hps];rfl)
  have e:L.fn.N.take L.fn.np=[x]:=hps;rw[e] at this;exact .of_eq this
 ·obtain⟨call',S',hcall',hrun⟩:=main ns bW hsm;rw[hcall] at hcall';cases hcall';refine⟨H,[],[],[.d (.list (ns.map yAl))],.d (.bool true),S',rfl,⟨bO.refl _,List.nodup_nil,rfl,λ n a ds e=>by simp at e,λ n a e=>by simp at e⟩,.cons (Den.lst hS (DenL.of_ints ns)) .nil,hrun,λ F' L' H' v g R d=>?_⟩
  cases (show Den (K w.params) F' (.bool true) v from d)
  rfl
end EV
namespace EV
open PySem L2
theorem aEj{α:Type}(S:List α)(a b:α):(S++[a]).set S.length b=S++[b]:=by simp
theorem aAI{α:Type}{t:Tg}{fc:FT}{fe:FE}{env:aS}{S:aB}(enc g:α->D)(p:α->Bool):∀ (l:List α) (aG:List D),aG.length+l.length<=qk ->
 (∀ a∈l,∃ e1,t.put (enc a) env=qq e1/\(∀ S',fc e1 S'=qq (p a,S'))/\(p a=true->∀ S',fe e1 S'=qq (.d (g a),S'))) ->
 jA t fc fe S.length env (l.map enc) (S++[qq aG])=qq (S++[qq (aG++(l.filter p).map g)])
 | [],aG,_,_=>by simp[jA]
 | a::l,aG,hz,h=>by
   obtain⟨e1,h1,h2,h3⟩:=h a xAd;have hlt:aG.length<qk:=by simp at hz;omega
   have bK:=λ x (hx:x∈l)=>h x (xAf _ hx)
   simp only[yAi,jA,h1,yBj,h2];cases hp:p a with
   | false =>
     simp only[yAw,if_false];rw[aAI enc g p l aG (by simp at hz;omega) bK]
     simp[yEr,hp]
   | true =>
     have ea:eU (S++[qq aG]) (.loc S.length) (.d (g a))=qq (.d .none,S++[qq (aG++[g a])]):=by
      unfold eU;simp only[yAd (yAe S.length),yCr,yBr];rw[if_pos hlt,aEj]
     simp only[if_true,h3 hp,yBj,ea];rw[aAI enc g p l (aG++[g a]) (by simp at hz ⊢;omega) bK]
     simp[yEr,hp]
theorem aDQ{α:Type}{t:Tg}{fi:FL}{fc:FT}{fe:FE}{env:aS}{S S1:aB}(enc g:α->D)(p:α->Bool)(l:List α)(hi:fi env S=qq (l.map enc,S1))(hz:l.length<=qk)
 (h:∀ a∈l,∃ e1,t.put (enc a) (clr t.slots env)=qq e1/\(∀ S',fc e1 S'=qq (p a,S'))/\(p a=true->∀ S',fe e1 S'=qq (.d (g a),S'))):gG t fi fc fe env S=qq ((l.filter p).map g,S1):=by
 unfold gG;rw[hi];simp only[yBj];rw[aAI enc g p l [] (by simpa using hz) h]
 simp
theorem aAu{α:Type}{t:Tg}{fc:FT}{fe:FE}{env:aS}{S:aB}(enc g:α->D)(p:α->Bool):∀ (l:List α) (aG:List D),aG.length+l.length<=qk ->
 (∀ a∈l,∃ e1,t.put (enc a) env=qq e1/\(∀ aG,fc e1 (S++[qq aG])=qq (p a,S++[qq aG]))/\(p a=true->∀ aG,fe e1 (S++[qq aG])=qq (.d (g a),S++[qq aG]))) ->
 jA t fc fe S.length env (l.map enc) (S++[qq aG])=qq (S++[qq (aG++(l.filter p).map g)])
 | [],aG,_,_=>by simp[jA]
 | a::l,aG,hz,h=>by
   obtain⟨e1,h1,h2,h3⟩:=h a xAd;have hlt:aG.length<qk:=by simp at hz;omega
   have bK:=λ x (hx:x∈l)=>h x (xAf _ hx)
   simp only[yAi,jA,h1,yBj,h2];cases hp:p a with
   | false =>
     simp only[yAw,if_false];rw[aAu enc g p l aG (by simp at hz;omega) bK]
     simp[yEr,hp]
   | true =>
     have ea:eU (S++[qq aG]) (.loc S.length) (.d (g a))=qq (.d .none,S++[qq (aG++[g a])]):=by
      unfold eU;simp only[yAd (yAe S.length),yCr,yBr];rw[if_pos hlt,aEj]
     simp only[if_true,h3 hp,yBj,ea];rw[aAu enc g p l (aG++[g a]) (by simp at hz ⊢;omega) bK]
     simp[yEr,hp]
theorem aJq{α:Type}{t:Tg}{fi:FL}{fc:FT}{fe:FE}{env:aS}{S S1:aB}(enc g:α->D)(p:α->Bool)(l:List α)(hi:fi env S=qq (l.map enc,S1))(hz:l.length<=qk)
 (h:∀ a∈l,∃ e1,t.put (enc a) (clr t.slots env)=qq e1/\(∀ aG,fc e1 (S1++[qq aG])=qq (p a,S1++[qq aG]))/\(p a=true->∀ aG,fe e1 (S1++[qq aG])=qq (.d (g a),S1++[qq aG]))):gG t fi fc fe env S=qq ((l.filter p).map g,S1):=by
 unfold gG;rw[hi];simp only[yBj];rw[aAu enc g p l [] (by simpa using hz) h]
 simp
theorem iW{α:Type}{t:Tg}{fi:FL}{fe:FE}{env:aS}{S S1:aB}(enc g:α->D)(l:List α)(hi:fi env S=qq (l.map enc,S1))(hz:l.length<=qk)
 (h:∀ a∈l,∃ e1,t.put (enc a) (clr t.slots env)=qq e1/\∀ S',fe e1 S'=qq (.d (g a),S')):gG t fi oO fe env S=qq (l.map g,S1):=by
 rw[aDQ (fc:=oO) enc g (λ _=>true) l hi hz λ a ha=>let ⟨e1,h1,h2⟩:=h a ha;⟨e1,h1,λ _=>rfl,λ _=>h2⟩]
 rw[List.filter_eq_self.mpr (λ _ _=>rfl)]
theorem aJM(n:Nat):∀ lo:Int,kG lo n=(yAx n).map λ k=>yAl (lo+(k:Nat)):=by
 induction n with
 | zero=>intro lo;rfl
 | succ n ih =>
   intro lo;rw[kG,ih,List.range_succ_eq_map,yAi,yCa];congr 1
   ·simp
   ·apply yEz;intro k _;simp only[Function.comp];congr 1
    push_cast
    omega
theorem aDh:∀ (ds:List D) (k:Int),gU k ds=(ds.zipIdx).map λ p=>yBp [.int (k+(p.2:Nat)),p.1]
 | [],_=>rfl
 | d::r,k=>by
   rw[gU,aDh r (k+1),List.zipIdx_cons,yAi];congr 1
   ·simp
   ·rw[List.zipIdx_succ,yCa];apply yEz;intro p _;simp only[Function.comp];congr 3
    push_cast
    omega
end EV
namespace BM
theorem vQ(n:Nat):0<2^n:=Nat.two_pow_pos n
noncomputable def bl(n:Nat):Nat:=if n=0 then 0 else n.log2+1
noncomputable def aPZ(l:List Bool):Nat:=(l.takeWhile id).length
noncomputable def hi(l:List Bool):Nat:=l.length-aPZ (l.reverse.map (!·))
end BM
namespace BM
end BM
namespace BM
open PySem
theorem aHW(a:Nat):((a:Int)).natAbs=a:=by omega
theorem aHK(a:Nat):yAj a=if a=0 then 0 else a.log2+1:=by
 unfold yAj
 by_cases h:a=0
 ·subst h;rfl
 ·rw[if_neg h,if_neg (by simp;omega),aHW]
theorem aIj{a n:Nat}(h:a<2^n):yAj a<=n:=by
 rw[aHK]
 split
 ·exact yEx _
 ·rename_i h0;exact(Nat.log2_lt h0).mpr h
theorem aDR(n:Nat):((2^n:Nat):Int)=(2:Int)^n:=by simp
theorem aPY{x y:Int}(h:y.natAbs.log2<9000):yCe x y=false:=by
 unfold yCe;dsimp only;have:¬ ((if (y==0)=true then 0 else y.natAbs.log2/30+1)>300):=by
  split
  ·omega
  ·omega
 rw[dqF this];rfl
end BM
namespace EV
open PySem L2 BM
theorem dY(i j:Int):bL .Add (.int i) (.int j)=qq (.int (i+j)):=rfl
theorem eG(i j:Int):bL .Sub (.int i) (.int j)=qq (.int (i-j)):=rfl
theorem jN{w:Nat}(h1:w<=100000):bL .LShift (.int 1) (.int w)=qq (.int ((2^w:Nat):Int)):=by
 have c:(0:Int)<=w/\(yAj 1:Int)+w<=2^27:=⟨by omega,by(have:(yAj 1:Int)=1:=(by decide);omega)⟩
 simp only[bL,wI];rw[if_pos c,Int.one_mul,yBo,aDR]
theorem aLw{n a k:Nat}(h:n<2^a)(h2:a+k<=100000):bL .LShift (.int n) (.int k)=qq (.int ((n*2^k:Nat):Int)):=by
 have c:(0:Int)<=(k:Nat)/\((yAj (n:Int):Nat):Int)+(k:Nat)<=2^27:=by
  have:=aIj h;exact⟨by omega,by omega⟩
 simp only[bL,wI];rw[if_pos c,yBo,<- aDR];congr 2
theorem eX{i j:Int}(h:0<j):bL .Mod (.int i) (.int j)=qq (.int (i%j)):=by
 simp only[bL,wI];rw[if_pos (by omega),Int.fmod_eq_emod_of_nonneg _ (by omega)]
theorem lX{i j:Int}(h:0<j)(h2:j<2^64):bL .FloorDiv (.int i) (.int j)=qq (.int (i/j)):=by
 simp only[bL,wI];have h3:j.natAbs.log2<9000:=Nat.lt_trans ((Nat.log2_lt (by omega)).mpr (show j.natAbs<2^64 by omega)) (by decide)
 rw[if_pos ⟨by omega,aPY h3⟩,Int.fdiv_eq_ediv_of_nonneg _ (by omega)]
theorem aHM{i j:Int}(h1 : -(2^64)<j)(h2:j<2^64):mH i j=true:=by
 unfold mH;have:=intBits_le_64 h1 h2;have h:¬ (yAj j>wu):=Nat.not_lt.mpr this;rw[dqF h];simp
theorem aHE{i j:Int}(h1 : -(2^64)<i)(h2:i<2^64):mH i j=true:=by
 unfold mH;have:=intBits_le_64 h1 h2;have h:¬ (yAj i>wu):=Nat.not_lt.mpr this;rw[dqF h];simp
theorem vS{i j:Int}(h1 : -(2^64)<j)(h2:j<2^64):bL .Mult (.int i) (.int j)=qq (.int (i*j)):=by
 show(if mH i j=true then qq (yAl (i*j)) else qz)=_
 rw[if_pos (aHM h1 h2)]
theorem pG{i j:Int}(h1 : -(2^64)<i)(h2:i<2^64):bL .Mult (.int i) (.int j)=qq (.int (i*j)):=by
 show(if mH i j=true then qq (yAl (i*j)) else qz)=_
 rw[if_pos (aHE h1 h2)]
theorem jR{xs ys:List D}(h:xs.length+ys.length<=1000000):bL .Add (.list xs) (.list ys)=qq (.list (xs++ys)):=by
 show(if xs.length+ys.length<=qk then qq (yEf (xs++ys)) else qz)=_
 rw[if_pos (by rw[qo];omega)]
theorem eB(i j:Int):aZ .Eq (.int i) (.int j)=qq (.bool (i==j)):=rfl
theorem sL(i j:Int):aZ .NotEq (.int i) (.int j)=qq (.bool (!(i==j))):=rfl
theorem cT(i j:Int):aZ .Lt (.int i) (.int j)=qq (.bool (decide (i<j))):=rfl
theorem mB(i j:Int):aZ .LtE (.int i) (.int j)=qq (.bool (decide (i<=j))):=rfl
theorem gQ(i j:Int):aZ .Gt (.int i) (.int j)=qq (.bool (decide (j<i))):=rfl
theorem pR(i j:Int):aZ .GtE (.int i) (.int j)=qq (.bool (decide (j<=i))):=rfl
end EV
namespace EV
open PySem L2 BM
theorem oB{α β:Type}(a:α)(f:α->Option β):(qq a).bind f=f a:=of_eq_true (eq_self (f a))
theorem oM{α β:Type}(a:α)(f:α->β):(qq a).map f=qq (f a):=of_eq_true (eq_self (qq (f a)))
noncomputable def cl(fs:List Fn)(d f:Nat)(ws:List W)(S:aB):Option (W×aB):=match aF fs d f with
 | some (np,call)=>if ws.length=np then call ws S else qz
 | none=>qz
theorem aIR(fs:List Fn)(d f:Nat)(fa:FA)(env:aS)(S:aB):iB (aF fs d) f fa env S=(fa env S).bind λ p=>cl fs d f p.1 p.2:=by
 unfold iB cl sZ;cases aF fs d f with
 | none=>cases fa env S<;>rfl
 | some q=>rfl
theorem cV{fs:List Fn}{f:Nat}{F:Fn}(h:fs[f]? = qq F)(d:Nat)(ws:List W)(S:aB)(hw:ws.length=F.np):cl fs (d+1) f ws S=cQ (xs (aF fs d) F.body) F.N.length ws S:=by
 have e:aF fs (d+1) f=qq (F.np,cQ (xs (aF fs d) F.body) F.N.length):=by
  show(fs[f]?).map _=_;rw[h];rfl
 unfold cl;rw[e];exact if_pos hw
theorem szT{n:Nat}(h:n<=1000):(n<=qk)=True:=by
 rw[qo];exact eq_true (by omega)
end EV
namespace EV
open PySem L2 BM
theorem aAh(w:Nat):((2^w:Nat):Int)-1=((2^w-1:Nat):Int):=by
 have:=vQ w;omega
theorem pC{fa:FE}{env:aS}{S S1:aB}{w:Nat}(h:fa env S=qq (.d (.int w),S1))(hw:w<=1000000):tB fa env S=qq ((yAx w).map (λ k=>yAl (k:Nat)),S1):=by
 have c : -(2^62)<=((w:Nat):Int)/\((w:Nat):Int)<2^62:=⟨by omega,by omega⟩
 unfold tB;rw[h,oB];simp only[];rw[if_pos c,aJM,yBo];congr 2;apply yEz;intro k _;rw[Int.zero_add]
theorem aCD{fa:FE}{env:aS}{S S1:aB}{ds:List D}(h:fa env S=qq (.d (.list ds),S1)):sM fa env S=qq (ds.zipIdx.map (λ p=>yBp [.int (p.2:Nat),p.1]),S1):=by
 simp only[sM,h,oB];rw[aDh];simp
theorem eA{xs:List D}{k:Nat}{x:D}(h:xs[k]? = qq x):bH (.list xs) (.int k)=qq x:=by
 have hl:k<xs.length:=(gIm h).1;show(gL xs.length ((k:Nat):Int)).bind (λ j=>xs[j]?)=qq x
 unfold gL;rw[if_pos (by omega),if_pos (by omega),oB,yBo]
 exact h
theorem rR{xs:List D}{k:Nat}{x:D}(h:xs[k]? = qq x):bH (.tuple xs) (.int k)=qq x:=eA (xs:=xs) h
theorem aBa(xs:List D)(k:Nat):cC xs qz (qq (k:Nat))=xs.take k:=by
 unfold cC;rw[HT.sIx_none,HT.sIx_nat,yCw,yFu];rcases Nat.le_total k xs.length with h | h
 ·rw[yFa h]
 ·rw[yFq h,yAh,yBn h]
theorem aDz(l:List D)(b:D):cC (l++[b]) (qq (-1)) qz=[b]:=by
 have e:(-1+((l.length:Int)+1)).toNat=l.length:=by omega
 unfold cC HT.sIx;simp[e]
theorem cA{xs:List D}:dA [.list xs]=qq (.int xs.length):=rfl
theorem dF{xs:List D}:dA [.tuple xs]=qq (.int xs.length):=rfl
theorem sB{xs:List D}:sH [.list xs]=qq (.tuple xs):=rfl
theorem sG{xs:List D}:sH [.tuple xs]=qq (.tuple xs):=rfl
theorem aFh{i:Int}:tJ [.int i]=qq (.int i):=rfl
theorem aEZ{k:Bool}:tJ [.bool k]=qq (.int (if k then 1 else 0)):=rfl
theorem aMj{α:Type}(a:α):List.take 1 [a]=[a]:=rfl
theorem aN4{α:Type}(a b:α):List.take 1 [a,b]=[a]:=rfl
theorem aMJ{α:Type}(a b:α):List.take 2 [a,b]=[a,b]:=rfl
end EV
namespace EV
open PySem L2 PySem.Spec PyProof.Rows PySem.W
theorem aGX{K:FrG}{D:qv}(a2:findIn K (.ref D) "__getattribute__" = qq (qq (.builtin "BaseException.__getattribute__")))(a3:findIn K (.ref D) "__getattr__" = qq qz)(a4:mroIn K D (.type "BaseException")=qq true)(a5:mroIn K D (.type "object")=qq true)(a6:hasDictIn K D=true)
 (a7:findIn K (.ref D) "__class__" = qq (qq (.builtin "object.__class__"))) (a8:specialIn K (.builtin "object.__class__") "__get__" = qq (qq (.builtin "getset_descriptor.__get__"))) (a9:takesIn K (.builtin "object.__class__")=qq true) (a0:findIn K (.ref D) "row" = qq qz):XcOk K D:=⟨a2,a3,a4,a5,a6,a0,a7,a8,a9⟩
theorem ent_own{K:FrG}{c d:Str}{b:Bool}{C C':qv}(a1:nsIn K qy c=qq (qq (.ref C)))(a2:findIn K (.ref C) "__getattribute__" = qq (qq (.builtin "BaseException.__getattribute__")))(a3:findIn K (.ref C) "__getattr__" = qq qz)(a4:mroIn K C (.type "BaseException")=qq true)(a5:mroIn K C (.type "object")=qq true)(a6:hasDictIn K C=true)
 (a7:findIn K (.ref C) "__class__" = qq (qq (.builtin "object.__class__"))) (a8:specialIn K (.builtin "object.__class__") "__get__" = qq (qq (.builtin "getset_descriptor.__get__"))) (a9:takesIn K (.builtin "object.__class__")=qq true) (a0:findIn K (.ref C) "row" = qq qz) (b1:nsIn K qy d=qq (qq (.ref C'))) (b2:exmOne K (.ref C) (.ref C')=qq b) (b3:kitOne K (.ref C) (.ref C')=qq b):EntTop K (c,d,b):=
 ⟨C,a1,aGX a2 a3 a4 a5 a6 a7 a8 a9 a0,.inl ⟨C',b1,b2,b3⟩⟩
theorem ent_blt{K:FrG}{c d:Str}{b:Bool}{C:qv}{n:String}(a1:nsIn K qy c=qq (qq (.ref C)))(a2:findIn K (.ref C) "__getattribute__" = qq (qq (.builtin "BaseException.__getattribute__")))(a3:findIn K (.ref C) "__getattr__" = qq qz)(a4:mroIn K C (.type "BaseException")=qq true)(a5:mroIn K C (.type "object")=qq true)(a6:hasDictIn K C=true)
 (a7:findIn K (.ref C) "__class__" = qq (qq (.builtin "object.__class__"))) (a8:specialIn K (.builtin "object.__class__") "__get__" = qq (qq (.builtin "getset_descriptor.__get__"))) (a9:takesIn K (.builtin "object.__class__")=qq true) (a0:findIn K (.ref C) "row" = qq qz) (b1:nsIn K qy d=qq qz) (b2:zk d=qq (.type n)) (hn:d ≠ "__name__") (b3:kitOne K (.ref C) (.type n)=qq b):EntTop K (c,d,b):=
 ⟨C,a1,aGX a2 a3 a4 a5 a6 a7 a8 a9 a0,.inr ⟨n,b1,b2,hn,b3⟩⟩
theorem topX_mk{K:FrG}{name:Str}{np:Nat}{N:List Str}{body:Sx ⊕ Xx}{st:zy}{kp:Bool}{f:qv}{oc:qx}{od an:Option qv}{sl:Array (Option qx)}{kV dc pm cd ct:qx}(a:yBz K qy name=qq (qq (.ref f)))
 (l:K.lookup f=qq ⟨oc,od,.func (yBx name name (gP st) (dX st) (bI st) .none kV dc pm an cd ct),sl⟩) (c:yDm K cd name=true) (k:yBq K (.ref f)=true):TopFn K (FnX.fn ⟨name,np,N,body,st,kp⟩):=
 ⟨f,oc,od,an,sl,kV,dc,pm,cd,ct,a,l,c,k⟩
theorem ri_mk{K:FrG}{c bF:Str}{st:zy}{C fI:qv}{oc:qx}{od an:Option qv}{sl:Array (Option qx)}{kV dc pm cd ct:qx}(a1:nsIn K qy c=qq (qq (.ref C)))(a3:findIn K (.ref C) "__init__" = qq (qq (.ref fI)))(a2:yN K C [.type "ValueError",.type "Exception",.type "BaseException",.type "object"] "ValueError.__new__" = true)(a4:findIn K (.ref C) "__setattr__" = qq (qq (.builtin "object.__setattr__")))(a5:findIn K (.ref C) "row" = qq qz)
 (a6:keepIn K (.ref C)=true) (a7:isFn K (.ref fI)=true) (a8:K.lookup fI=qq ⟨oc,od,.func (fnOf "__init__" bF (gP st) (dX st) (bI st) .none kV dc pm an cd ct),sl⟩) (a9:codeIn K cd bF=true) (b1:keepIn K (.ref fI)=true):RiTop K (c,bF,st):=
 ⟨C,fI,oc,od,an,sl,kV,dc,pm,cd,ct,a1,⟨a2,a3,a4,a5,a6,a7⟩,a8,a9,b1⟩
theorem xo_mk{K:FrG}{c:Str}{C:qv}(a1:nsIn K qy c=qq (qq (.ref C))):XoTop K c:=⟨C,a1⟩
theorem xb_mk{K:FrG}{c:Str}{n:String}(a1:nsIn K qy c=qq qz)(a2:zk c=qq (.type n))(a3:c ≠ "__name__"):XbTop K c:=⟨n,a1,a2,a3⟩
section
variable {fs : List Fn}{gs : List FnX}{tb : Str -> Str -> Option Bool}
noncomputable def cD(fs:List Fn)(gs:List FnX)(tb:Str->Str->Option Bool)(d f:Nat)(ws:List EV.W)(S:aB):Option (EV.W×aB):=match (aE fs gs tb d).1 f with
 | some (np,call)=>if ws.length=np then call ws S else qz
 | none=>qz
theorem dN(d f:Nat)(fa:FA)(env:aS)(S:aB):iB (aE fs gs tb d).1 f fa env S=(fa env S).bind λ p=>cD fs gs tb d f p.1 p.2:=by
 unfold iB cD sZ;cases (aE fs gs tb d).1 f with
 | none=>cases fa env S<;>rfl
 | some q=>rfl
theorem gF(d f:Nat)(ws:List EV.W)(S:aB)(h:f<fs.length):cD fs gs tb (d+1) f ws S=cl fs (d+1) f ws S:=by
 have:(aE fs gs tb (d+1)).1 f=aF fs (d+1) f:=if_pos h;unfold cD cl;rw[this]<;>cases aF fs (d+1) f<;>rfl
theorem wF{g:Nat}{G:FnX}(hG:gs[g]? = qq G)(d:Nat)(ws:List EV.W)(S:aB)(h:ws.length=G.np):cD fs gs tb (d+1) (fs.length+g) ws S=iH (aE fs gs tb d).1 (aE fs gs tb d).2 tb G ws S:=by
 have:(aE fs gs tb (d+1)).1 (fs.length+g)=(gs[fs.length+g-fs.length]?).map λ G=>(G.np,iH (aE fs gs tb d).1 (aE fs gs tb d).2 tb G):=if_neg (by omega)
 rw[yCt,hG] at this;unfold cD;rw[this];exact if_pos h
noncomputable def cK(fs:List Fn)(gs:List FnX)(tb:Str->Str->Option Bool)(d f:Nat)(ws:List EV.W)(S:aB):Option (ResX×aB):=match (aE fs gs tb d).2 f with
 | some (np,call)=>if ws.length=np then call ws S else qz
 | none=>qz
theorem pE(d f:Nat)(fa:FA)(env:aS)(S:aB):gT (aE fs gs tb d).2 f fa env S=(fa env S).bind λ p=>cK fs gs tb d f p.1 p.2:=by
 unfold gT cK aBv;cases (aE fs gs tb d).2 f with
 | none=>cases fa env S<;>rfl
 | some q=>rfl
theorem mD{g:Nat}{G:FnX}{x:Xx}(hG:gs[g]? = qq G)(hx:G.body=.inr x)(d:Nat)(ws:List EV.W)(S:aB)(h:ws.length=G.np):cK fs gs tb (d+1) (fs.length+g) ws S=eQ (xx (aE fs gs tb d).1 (aE fs gs tb d).2 tb x) G.N.length ws S:=by
 have:(aE fs gs tb (d+1)).2 (fs.length+g)=(gs[fs.length+g-fs.length]?).bind λ G=>match G.body with | .inl _=>qz | .inr x=>qq (G.np,eQ (xx (aE fs gs tb d).1 (aE fs gs tb d).2 tb x) G.N.length):=if_neg (by omega)
 rw[yCt,hG,yBj,hx] at this;unfold cK;rw[this];exact if_pos h
theorem aJp{g d:Nat}{G:FnX}{w r:EV.W}{S:aB}(h:gs[g]? = qq G)(hn:G.np=1)(e:cD fs gs tb (d+1) (fs.length+g) [w] []=qq (r,S)):∃ call S',(aE fs gs tb (d+1)).1 (fs.length+g)=qq (1,call)/\call [w] []=qq (r,S'):=by
 refine⟨iH (aE fs gs tb d).1 (aE fs gs tb d).2 tb G,S,?_,?_⟩
 ·have:(aE fs gs tb (d+1)).1 (fs.length+g)=(gs[fs.length+g-fs.length]?).map λ G=>(G.np,iH (aE fs gs tb d).1 (aE fs gs tb d).2 tb G):=if_neg (by omega)
  rw[yCt,h] at this;rw[this,<- hn];rfl
 ·rw[<- wF h d [w] [] (by rw[hn];rfl)]
  exact e
end
end EV
namespace EV
open PySem L2 BM
section
variable {C : Calls}{env : aS}{S S1 S2 S3 S4 : aB}{a b c e es r : E}
variable {s t u : Sx}{aK : aS}{R : Option (Fl×aB)}{w : W}
end
end EV
namespace K24
open PySem L2 EV BM
local macro_rules
 | `(tactic| omega)=>`(tactic| first | (with_reducible assumption) | (with_reducible exact yAe _) | (with_reducible exact Nat.le_add_right _ _) | (with_reducible exact xAg ‹_› (by decide)) | (with_reducible exact xAc ‹_› (by decide)) | (with_reducible exact yFh ‹_› (by decide)) | (with_reducible exact yEj ‹_›) | (with_reducible exact xAg (yEj ‹_›) (by decide)) | (with_reducible exact xAg (Nat.add_le_add_right ‹_› _) (by decide)) | (with_reducible exact Nat.add_le_add_left (by decide) _) | (with_reducible exact yEp ‹_›) | (with_reducible exact Nat.lt_of_not_le ‹_›) | (with_reducible exact Nat.not_lt_of_le ‹_›) | (with_reducible exact Nat.not_le_of_lt ‹_›) | (with_reducible exact xAc ‹_› ‹_›) | (with_reducible exact xAg ‹_› ‹_›) | (with_reducible exact xAg ‹_› (Nat.add_le_add_left (by decide) _)) | (with_reducible exact xAg ‹_› (xAg (Nat.add_le_add_right ‹_› _) (by decide))) | omega (config:={}))
 | `(tactic| simp only[evs])=>`(tactic| simp only[evs,True])
 | `(tactic| simp only[evs,$ls,*])=>`(tactic| simp only[aM4,aNW,aOK,aNA,aMt,aNY,aPF,aNS,aM3,aOi,aNm,aNN,aNj,aOg,aN1,aNa,aNg,aFK,aKC,aMB,aMm,aNh,aPH,aLG,aN9,aOb,aLQ,aOh,aKA,aLV,aNl,aLo,aM7,aNb,aM1,aLM,aNZ,aOG,aLW,aNu,aMC,aLR,aPn,aKv,aMO,aOa,aN2,aPO,aPm,aOd,aKE,aPN,aKq,aMA,aMo,aKK,wU,pM,pT,aEp,nO,aLn,aFD,sJ,nM,aAN,aKt,aFw,aLB,cM,dJ,qD,nC,mR,aPK,tF,nU,kE,yQ,kA,cG,f2,f1,gC,dM,dr,zB,fC,fH,iO,aIR,cB,fO,tV,jB,fQ,qL,rA,xO,yM,xU,sR,xZ,xI,oN,uG,B.g,aOl,aOR,aOW,aOX,aPP,tN,Tg.put,lZ,Tg.slots,yAi,yCg,yBg,yEa,Nat.reduceAdd,Nat.reduceSub,yEm,yBb,List.replicate_zero,List.cons_append,yDg,yBr,yDy,yBs,yCc,oB,oM,yAh,Bool.not_false,Bool.not_true,yAw,if_true,if_false,reduceIte,Nat.reduceLeDiff,Nat.reduceEqDiff,szT,List.take_nil,List.take_zero,kU,aQq,aBX,aMj,aN4,aMJ,$ls,*])
noncomputable def top(i:Nat):zy:=PySem.Challenge.pw_fewbits_k24_lines_refused.main.body.getD i (.Pass ⟨0,0,0,0⟩)
noncomputable def jL:List (Str×Tv):=[("in",.int 0),("num",.int 0),("not",.int 1),("and",.int 2),("or",.int 2),("xor",.int 2),("add",.int 2),("sub",.int 2),("mul",.int 2),("left",.int 1),("right",.int 1),("slide",.int 1),("cut",.int 1),("wide",.int 1),("sign",.int 1),("same",.int 2),("less",.int 2),("under",.int 2),("pick",.int 3)]
noncomputable def pI:List Tv:=[.str "left",.str "right",.str "slide"]
noncomputable def aAg:List Tv:=[.str "same",.str "less",.str "under"]
noncomputable def zW:List Tv:=[.str "wide",.str "sign"]
noncomputable def tbs:Tbs:=⟨[("OPERAND_COUNTS",jL)],[("SHIFTS",pI),("COMPARES",aAg),("WIDENINGS",zW)],[("FIGURES", "0123456789")]⟩
abbrev J0:E:=.int 0
abbrev J1:E:=.int 1
abbrev J2:E:=.int 2
abbrev J3:E:=.int 3
abbrev J4:E:=.int 4
abbrev J5:E:=.int 5
abbrev J7:E:=.int 7
abbrev J8:E:=.int 8
abbrev J9:E:=.int 9
abbrev V0:E:=.var 0
abbrev V1:E:=.var 1
abbrev V2:E:=.var 2
abbrev V3:E:=.var 3
abbrev V4:E:=.var 4
abbrev V5:E:=.var 5
abbrev V6:E:=.var 6
abbrev V8:E:=.var 8
abbrev V9:E:=.var 9
noncomputable def aGa:Sx:=(.seq (.ret (.bin .Sub (.bin .LShift J1 V0) J1))
 .skip)
noncomputable def aJu:Sx:=(.seq (.ret (.intb "OPERAND_COUNTS" jL V0))
 .skip)
noncomputable def aCx:Sx:=(.seq (.set 1 (.ite (.or (.cmp .Eq V0 (.str "num")) (.cmp .In V0 (.con "SHIFTS" pI))) J1 J0))
 (.seq (.ret (.bin .Add (.bin .Add J1 (.tab "OPERAND_COUNTS" jL V0)) V1))
 .skip))
noncomputable def aIK:Sx:=(.seq (.ret (.sl V0 (.cons J2 .nil) (.cons (.bin .Add J2 (.tab "OPERAND_COUNTS" jL (.ix V0 J0))) .nil)))
 .skip)
noncomputable def aCt:E:=(.comp (.ix V1 V2) (.one 2) (.it (.call 3 (.cons V0 .nil))) .no)
noncomputable def aHD:Sx:=(.seq (.ret (.blt .tup (.cons (.fz aCt) .nil)))
 .skip)
noncomputable def aCv:E:=(.comp (.cmp .Eq V4 V3) (.one 4) (.it V1) .no)
noncomputable def aHQ:Sx:=(.seq (.set 2 (.ix V0 J0))
 (.seq (.set 3 (.ix V0 J1))
 (.seq (.ifs (.cmp .In V2 (.con "COMPARES" aAg)) (.seq (.ret (.and (.cmp .Eq V3 J1) (.cmp .Eq (.ix V1 J0) (.ix V1 J1))))
 .skip) .skip)
 (.seq (.ifs (.cmp .Eq V2 (.str "pick")) (.seq (.ret (.cmp .Eq V1 (.tup (.cons J1 (.cons V3 (.cons V3 .nil))))))
 .skip) .skip)
 (.seq (.ifs (.cmp .Eq V2 (.str "cut")) (.seq (.ret (.cmp .GtE (.ix V1 J0) V3))
 .skip) .skip)
 (.seq (.ifs (.cmp .In V2 (.con "WIDENINGS" zW)) (.seq (.ret (.cmp .LtE (.ix V1 J0) V3))
 .skip) .skip)
 (.seq (.ret (.blt .all (.cons (.fz aCv) .nil)))
 .skip)))))))
noncomputable def aHI:Sx:=(.seq (.ifs (.cmp .Eq (.ix V0 J0) (.str "num")) (.seq (.ret (.cmp .LtE (.ix V0 J2) (.call 0 (.cons (.ix V0 J1) .nil))))
 .skip) .skip)
 (.seq (.ifs (.cmp .In (.ix V0 J0) (.con "SHIFTS" pI)) (.seq (.ret (.cmp .LtE (.ix V0 J3) (.int 63)))
 .skip) .skip)
 (.seq (.ret (.bl true))
 .skip)))
noncomputable def zQ:E:=(.comp (.ins false V1 (.gst "FIGURES" "0123456789")) (.one 1) (.its V0) .no)
noncomputable def aIn:Sx:=(.seq (.ifs (.or (.cmp .Lt (.blt .len (.cons V0 .nil)) J1) (.cmp .Gt (.blt .len (.cons V0 .nil)) (.int 20))) (.seq (.ret (.bl false))
 .skip) .skip)
 (.seq (.ifs (.and (.cmp .Eq (.ix V0 J0) (.str "0")) (.cmp .NotEq V0 (.str "0"))) (.seq (.ret (.bl false))
 .skip) .skip)
 (.seq (.ret (.blt .all (.cons (.fz zQ) .nil)))
 .skip)))
noncomputable def zN:E:=(.comp (.call 7 (.cons V1 .nil)) (.one 1) (.it V0) .no)
noncomputable def aHB:Sx:=(.seq (.ret (.blt .all (.cons (.fz zN) .nil)))
 .skip)
noncomputable def aCw:E:=(.comp (.itx V1) (.one 1) (.it V0) .no)
noncomputable def aHS:Sx:=(.seq (.ret (.blt .tup (.cons (.fz aCw) .nil)))
 .skip)
noncomputable def aKy:Sx:=(.seq (.set 1 (.fz (.spl V0 (.str " "))))
 (.seq (.set 2 (.ix V1 J0))
 (.seq (.ifs (.or (.not (.call 1 (.cons V2 .nil))) (.or (.cmp .NotEq (.blt .len (.cons V1 .nil)) (.bin .Add J1 (.call 2 (.cons V2 .nil)))) (.not (.call 8 (.cons (.sl V1 (.cons J1 .nil) .no) .nil))))) (.seq (.ret .non)
 .skip) .skip)
 (.seq (.ret (.bin .Add (.tup (.cons V2 .nil)) (.call 9 (.cons (.sl V1 (.cons J1 .nil) .no) .nil))))
 .skip))))
noncomputable def aJC:Sx:=(.seq (.set 1 (.fz (.spl V0 (.str " "))))
 (.seq (.ifs (.or (.cmp .NotEq (.ix V1 J0) (.str "out")) (.or (.cmp .Lt (.blt .len (.cons V1 .nil)) J2) (.or (.cmp .Gt (.blt .len (.cons V1 .nil)) J9) (.not (.call 8 (.cons (.sl V1 (.cons J1 .nil) .no) .nil)))))) (.seq (.ret .non)
 .skip) .skip)
 (.seq (.ret (.call 9 (.cons (.sl V1 (.cons J1 .nil) .no) .nil)))
 .skip)))
noncomputable def gM:Sx:=(.seq (.setT (.many [3,4]) (.sl V0 .no (.cons J2 .nil)))
 (.seq (.put V0 J1 (.bin .Add V4 J1))
 (.seq (.ifs (.and (.cmp .Lt (.bin .Add (.bin .FloorDiv V4 (.int 12)) J1) (.blt .len (.cons V3 .nil))) (.cmp .Eq (.bin .Mod (.ix V3 J0) J2) J1)) (.seq (.ifs (.cmp .Eq (.bin .Mod V4 (.int 12)) J0) (.seq (.put V0 J2 (.ix V3 (.bin .Add (.bin .FloorDiv V4 (.int 12)) J1)))
 .skip) .skip)
 (.seq (.set 5 (.bin .Mod (.ix V0 J2) V1))
 (.seq (.put V0 J2 (.bin .FloorDiv (.ix V0 J2) V1))
 (.seq (.ret V5)
 .skip)))) .skip)
 (.seq (.ifs (.cmp .Lt V4 (.blt .len (.cons V3 .nil))) (.seq (.ret (.bin .Mod (.ix V3 V4) V1))
 .skip) .skip)
 (.seq (.set 2 (.bin .Add (.bin .Mult V4 (.int 7919)) J5))
 (.seq (.ifs (.cmp .Gt (.blt .len (.cons (.ix V0 J0) .nil)) J0) (.seq (.set 2 (.bin .Add V2 (.bin .Mult (.ix (.ix V0 J0) (.bin .Mod (.bin .Mult V4 J7) (.blt .len (.cons (.ix V0 J0) .nil)))) (.bin .Add (.int 48271) V4))))
 .skip) .skip)
 (.seq (.set 2 (.bin .Mod (.bin .Mult (.bin .Mod V2 (.int 2147483629)) (.bin .Add V4 J3)) (.int 2147483629)))
 (.seq (.set 2 (.bin .Mod (.bin .Mult V2 V2) (.int 2147483587)))
 (.seq (.ret (.bin .Mod (.bin .Mod (.bin .Mult V2 V2) (.int 1999999973)) V1))
 .skip)))))))))
noncomputable def zR:Sx:=(.seq (.ifs (.cmp .Lt V1 (.int 31)) (.seq (.ret (.call 12 (.cons V0 (.cons (.bin .LShift J1 V1) .nil))))
 .skip) .skip)
 (.seq (.ret (.bin .Add (.call 12 (.cons V0 (.cons (.bin .LShift J1 (.int 30)) .nil))) (.bin .LShift (.call 12 (.cons V0 (.cons (.bin .LShift J1 (.bin .Sub V1 (.int 30))) .nil))) (.int 30))))
 .skip))
noncomputable def aCJ:Sx:=(.seq (.ret (.ix (.fz (.lst (.cons J1 (.cons (.int 64) (.cons (.bin .Add J1 (.call 12 (.cons V0 (.cons J8 .nil)))) (.cons (.bin .Add J1 (.call 12 (.cons V0 (.cons (.int 64) .nil)))) .nil)))))) (.call 12 (.cons V0 (.cons J4 .nil)))))
 .skip)
noncomputable def aAp:Sx:=(.seq (.set 2 (.call 12 (.cons V0 (.cons J5 .nil))))
 (.seq (.set 3 (.fz (.lst (.cons J0 (.cons (.bin .Sub (.bin .LShift J1 V1) J1) (.cons (.bin .LShift J1 (.call 12 (.cons V0 (.cons V1 .nil)))) (.cons (.bin .Sub (.bin .LShift J1 (.call 12 (.cons V0 (.cons V1 .nil)))) J1) .nil)))))))
 (.seq (.ifs (.cmp .Lt V2 J4) (.seq (.ret (.ix V3 V2))
 .skip) .skip)
 (.seq (.ret (.call 13 (.cons V0 (.cons V1 .nil))))
 .skip))))
noncomputable def rK:Sx:=(.seq (.ifs (.cmp .Eq (.ix (.ix V1 V2) J1) V3) (.seq (.ret V2)
 .skip) .skip)
 (.seq (.set 4 (.ix (.fz (.lst (.cons (.str "wide") (.cons (.str "sign") .nil)))) (.call 12 (.cons V0 (.cons J2 .nil)))))
 (.seq (.ifs (.cmp .Gt (.ix (.ix V1 V2) J1) V3) (.seq (.set 4 (.str "cut"))
 .skip) .skip)
 (.seq (.expr (.app V1 (.tup (.cons V4 (.cons V3 (.cons V2 .nil))))))
 (.seq (.ret (.bin .Sub (.blt .len (.cons V1 .nil)) J1))
 .skip)))))
noncomputable def aHj:E:=(.comp V4 (.one 4) (.rng1 (.blt .len (.cons V1 .nil))) (.cmp .Eq (.ix (.ix V1 V4) J1) V2))
noncomputable def rD:Sx:=(.seq (.setC false 3 aHj)
 (.seq (.ifs (.and (.cmp .NotEq V3 (.fz (.lst .nil))) (.cmp .Gt (.call 12 (.cons V0 (.cons J4 .nil))) J0)) (.seq (.ret (.ix V3 (.bin .Sub (.bin .Sub (.blt .len (.cons V3 .nil)) J1) (.call 12 (.cons V0 (.cons (.blt .len (.cons V3 .nil)) .nil))))))
 .skip) .skip)
 (.seq (.ret (.call 16 (.cons V0 (.cons V1 (.cons (.call 12 (.cons V0 (.cons (.blt .len (.cons V1 .nil)) .nil))) (.cons V2 .nil))))))
 .skip)))
noncomputable def zH:Sx:=(.seq (.set 3 (.call 12 (.cons V0 (.cons (.blt .len (.cons V1 .nil)) .nil))))
 (.seq (.set 4 (.ix (.ix V1 V3) J1))
 (.seq (.ifs (.cmp .Eq V2 (.str "cut")) (.seq (.ret (.tup (.cons (.str "cut") (.cons (.bin .Add J1 (.call 12 (.cons V0 (.cons V4 .nil)))) (.cons V3 .nil)))))
 .skip) .skip)
 (.seq (.ret (.tup (.cons V2 (.cons (.bin .Add V4 (.call 12 (.cons V0 (.cons (.bin .Sub (.int 65) V4) .nil)))) (.cons V3 .nil)))))
 .skip))))
noncomputable def zU:Sx:=(.seq (.set 4 (.ix (.fz (.lst (.cons (.call 12 (.cons V0 (.cons V3 .nil))) (.cons (.call 12 (.cons V0 (.cons (.int 64) .nil))) .nil)))) (.bin .FloorDiv (.call 12 (.cons V0 (.cons J4 .nil))) J3)))
 (.seq (.ret (.tup (.cons V2 (.cons V3 (.cons (.call 17 (.cons V0 (.cons V1 (.cons V3 .nil)))) (.cons V4 .nil))))))
 .skip))
noncomputable def aAd:Sx:=(.seq (.set 4 (.call 17 (.cons V0 (.cons V1 (.cons V3 .nil)))))
 (.seq (.set 5 (.call 17 (.cons V0 (.cons V1 (.cons V3 .nil)))))
 (.seq (.ifs (.cmp .In V2 (.tup (.cons (.str "same") (.cons (.str "less") (.cons (.str "under") .nil))))) (.seq (.set 3 J1)
 .skip) .skip)
 (.seq (.ret (.tup (.cons V2 (.cons V3 (.cons V4 (.cons V5 .nil))))))
 .skip))))
noncomputable def iV:Sx:=(.seq (.set 2 (.fz (.lst (.cons (.str "in") (.cons (.str "num") (.cons (.str "num") (.cons (.str "not") (.cons (.str "and") (.cons (.str "or") (.cons (.str "xor") (.cons (.str "add") (.cons (.str "sub") (.cons (.str "mul") (.cons (.str "left") (.cons (.str "right") (.cons (.str "slide") (.cons (.str "cut") .nil)))))))))))))))))
 (.seq (.set 2 (.bin .Add V2 (.fz (.lst (.cons (.str "wide") (.cons (.str "sign") (.cons (.str "same") (.cons (.str "less") (.cons (.str "under") (.cons (.str "pick") .nil))))))))))
 (.seq (.set 3 (.ix V2 (.call 12 (.cons V0 (.cons (.int 20) .nil)))))
 (.seq (.set 4 (.ix (.ix V1 (.call 12 (.cons V0 (.cons (.blt .len (.cons V1 .nil)) .nil)))) J1))
 (.seq (.ifs (.cmp .Eq (.call 12 (.cons V0 (.cons J4 .nil))) J1) (.seq (.set 4 (.call 14 (.cons V0 .nil)))
 .skip) .skip)
 (.seq (.ifs (.cmp .Eq V3 (.str "in")) (.seq (.set 5 (.tup (.cons (.str "in") (.cons V4 .nil))))
 .skip) (.seq (.ifs (.cmp .Eq V3 (.str "num")) (.seq (.set 5 (.tup (.cons (.str "num") (.cons V4 (.cons (.call 15 (.cons V0 (.cons V4 .nil))) .nil)))))
 .skip) (.seq (.ifs (.cmp .Eq V3 (.str "not")) (.seq (.set 5 (.tup (.cons (.str "not") (.cons V4 (.cons (.call 17 (.cons V0 (.cons V1 (.cons V4 .nil)))) .nil)))))
 .skip) (.seq (.ifs (.cmp .In V3 (.tup (.cons (.str "left") (.cons (.str "right") (.cons (.str "slide") .nil))))) (.seq (.set 5 (.call 19 (.cons V0 (.cons V1 (.cons V3 (.cons V4 .nil))))))
 .skip) (.seq (.ifs (.cmp .In V3 (.tup (.cons (.str "cut") (.cons (.str "wide") (.cons (.str "sign") .nil))))) (.seq (.set 5 (.call 18 (.cons V0 (.cons V1 (.cons V3 .nil)))))
 .skip) (.seq (.ifs (.cmp .Eq V3 (.str "pick")) (.seq (.set 6 (.call 17 (.cons V0 (.cons V1 (.cons J1 .nil)))))
 (.seq (.set 5 (.bin .Add (.tup (.cons (.str "pick") (.cons V4 (.cons V6 .nil)))) (.sl (.call 20 (.cons V0 (.cons V1 (.cons V3 (.cons V4 .nil))))) (.cons J2 .nil) .no)))
 .skip)) (.seq (.set 5 (.call 20 (.cons V0 (.cons V1 (.cons V3 (.cons V4 .nil))))))
 .skip))
 .skip))
 .skip))
 .skip))
 .skip))
 .skip))
 (.seq (.expr (.app V1 V5))
 .skip)))))))
noncomputable def zK:E:=(.rng1 (.ix (.fz (.lst (.cons (.call 12 (.cons V0 (.cons J3 .nil))) (.cons J7 .nil)))) (.blt .int (.cons (.cmp .Eq (.call 12 (.cons V0 (.cons J8 .nil))) J1) .nil))))
noncomputable def zJ:Sx:=(.seq (.expr (.app V5 (.call 12 (.cons V0 (.cons (.blt .len (.cons V2 .nil)) .nil)))))
 .skip)
noncomputable def uZ:E:=(.rng1 V1)
noncomputable def vC:Sx:=(.seq (.ifs (.cmp .Lt (.blt .len (.cons V2 .nil)) (.int 37)) (.seq (.expr (.call 21 (.cons V0 (.cons V2 .nil))))
 .skip) .skip)
 .skip)
noncomputable def kO:Sx:=(.seq (.set 2 (.new (.lst (.cons (.tup (.cons (.str "in") (.cons (.call 14 (.cons V0 .nil)) .nil))) .nil))))
 (.seq (.loop (.one 3) uZ vC)
 (.seq (.set 4 (.fz (.lst (.cons (.bin .Sub (.blt .len (.cons V2 .nil)) J1) (.cons (.call 12 (.cons V0 (.cons (.blt .len (.cons V2 .nil)) .nil))) .nil)))))
 (.seq (.set 5 (.new (.lst (.cons (.ix V4 (.blt .int (.cons (.cmp .Eq (.call 12 (.cons V0 (.cons J4 .nil))) J1) .nil))) .nil))))
 (.seq (.loop (.one 3) zK zJ)
 (.seq (.ret (.tup (.cons (.blt .tup (.cons V2 .nil)) (.cons (.blt .tup (.cons V5 .nil)) .nil))))
 .skip))))))
noncomputable def vB:E:=(.its V0)
noncomputable def zI:Sx:=(.seq (.ifs (.ins true V1 (.str "0123456789")) (.seq (.ret (.bl false))
 .skip) .skip)
 .skip)
noncomputable def aHs:Sx:=(.seq (.loop (.one 1) vB zI)
 (.seq (.ret (.and (.chn .LtE .LtE J1 (.blt .len (.cons V0 .nil)) (.int 20)) (.or (.cmp .NotEq (.ix V0 J0) (.str "0")) (.cmp .Eq V0 (.str "0")))))
 .skip))
noncomputable def aHx:Sx:=(.seq (.ifs (.cmp .Eq V0 (.str "in")) (.seq (.ret J1)
 .skip) .skip)
 (.seq (.ifs (.cmp .In V0 (.tup (.cons (.str "num") (.cons (.str "not") (.cons (.str "cut") (.cons (.str "wide") (.cons (.str "sign") .nil))))))) (.seq (.ret J2)
 .skip) .skip)
 (.seq (.ifs (.cmp .Eq V0 (.str "pick")) (.seq (.ret J4)
 .skip) .skip)
 (.seq (.set 1 (.str "and or xor add sub mul same less under left right slide"))
 (.seq (.ifs (.cmp .In V0 (.fz (.spl V1 (.str " ")))) (.seq (.ret J3)
 .skip) .skip)
 (.seq (.ret (.int 99))
 .skip))))))
noncomputable def aCr:E:=(.comp V3 (.one 3) (.it (.sl V0 (.cons J1 .nil) .no)) (.call 23 (.cons V3 .nil)))
noncomputable def aHl:Sx:=(.seq (.setC false 2 aCr)
 (.seq (.ifs (.cmp .NotEq (.blt .len (.cons V2 .nil)) (.bin .Sub (.blt .len (.cons V0 .nil)) J1)) (.seq (.ret (.bl false))
 .skip) .skip)
 (.seq (.ifs V1 (.seq (.ret (.and (.cmp .Eq (.ix V0 J0) (.str "out")) (.chn .LtE .LtE J1 (.blt .len (.cons V2 .nil)) J8)))
 .skip) .skip)
 (.seq (.ret (.cmp .Eq (.blt .len (.cons V2 .nil)) (.call 24 (.cons (.ix V0 J0) .nil))))
 .skip))))
noncomputable def uY:E:=(.rng1 (.blt .len (.cons V0 .nil)))
noncomputable def uX:Sx:=(.seq (.ifs (.not (.call 25 (.cons (.fz (.spl (.ix V0 V1) (.str " "))) (.cons (.cmp .Eq V1 (.bin .Sub (.blt .len (.cons V0 .nil)) J1)) .nil)))) (.seq (.ret V1)
 .skip) .skip)
 .skip)
noncomputable def aHn:Sx:=(.seq (.loop (.one 1) uY uX)
 (.seq (.ret (.un .USub J1))
 .skip))
noncomputable def aCs:E:=(.comp (.st1 V3) (.one 3) (.it (.sl V2 (.cons J1 .nil) .no)) .no)
noncomputable def vA:E:=(.it (.bin .Add (.ix V0 J0) (.tup (.cons (.bin .Add (.tup (.cons (.str "out") .nil)) (.ix V0 J1)) .nil))))
noncomputable def pB:Sx:=(.seq (.expr (.app V1 (.jn (.str " ") (.bin .Add (.fz (.lst (.cons (.ix V2 J0) .nil))) (.fz aCs)))))
 .skip)
noncomputable def zP:Sx:=(.seq (.set 1 (.new (.lst .nil)))
 (.seq (.loop (.one 2) vA pB)
 (.seq (.ret V1)
 .skip)))
noncomputable def aHh:Sx:=(.seq (.set 2 (.fz (.lst (.cons (.bin .Add (.str "0") V1) (.cons (.bin .Add (.str "-") V1) (.cons (.bin .Add (.str "+") V1) (.cons (.bin .Add V1 (.str "a")) (.cons (.str "") (.cons (.bin .Add V1 (.srep (.str "0") (.bin .Sub (.int 21) (.blt .mn (.cons (.blt .len (.cons V1 .nil)) (.cons (.int 20) .nil)))))) (.cons (.bin .Add V1 (.str ".")) .nil))))))))))
 (.seq (.ret (.ix (.bin .Add V2 (.fz (.lst (.cons (.bin .Add V1 (.str "_0")) (.cons (.bin .Add (.bin .Add (.sls V1 .no (.cons J1 .nil)) (.str "_")) (.sls V1 (.cons J1 .nil) .no)) .nil))))) (.call 12 (.cons V0 (.cons J9 .nil)))))
 .skip))
noncomputable def zS:Sx:=(.seq (.set 2 (.fz (.spl V1 (.str " "))))
 (.seq (.set 3 (.fz (.lst (.cons (.str "ins") (.cons (.str "In") (.cons (.str "nun") (.cons (.str "shl") (.cons (.str "mod") (.cons (.str "neg") (.cons (.str "picks") (.cons (.str "o") (.cons (.str "AND") (.cons (.str "out") (.cons (.str "rows") (.cons (.str "") (.cons (.str "0") .nil))))))))))))))))
 (.seq (.set 4 (.new (.ls3 " " V1 (.bin .Add V1 (.str " ")) V1 " " "  " (.cons (.str "") (.cons (.bin .Add V1 (.str " 7")) (.cons (.jn (.str " ") (.sl V2 .no (.cons (.un .USub J1) .nil))) .nil))))))
 (.seq (.expr (.app V4 (.jn (.str " ") (.bin .Add (.fz (.lst (.cons (.ix V3 (.call 12 (.cons V0 (.cons (.int 13) .nil)))) .nil))) (.sl V2 (.cons J1 .nil) .no)))))
 (.seq (.set 5 (.bin .Add J1 (.call 12 (.cons V0 (.cons (.bin .Sub (.blt .len (.cons V2 .nil)) J1) .nil)))))
 (.seq (.expr (.app V4 (.jn (.str " ") (.bin .Add (.bin .Add (.sl V2 .no (.cons V5 .nil)) (.fz (.lst (.cons (.call 28 (.cons V0 (.cons (.ix V2 V5) .nil))) .nil)))) (.sl V2 (.cons (.bin .Add V5 J1) .nil) .no)))))
 (.seq (.set 4 (.bin .Add V4 (.fz (.lst (.cons (.str "out") (.cons (.str "out 0 0 0 0 0 0 0 0 0") (.cons (.str "in 5") (.cons (.str "out 1") (.cons (.str "num 65 0") (.cons (.str "not 8 99") .nil))))))))))
 (.seq (.ret (.ix V4 (.call 12 (.cons V0 (.cons (.blt .len (.cons V4 .nil)) .nil)))))
 .skip))))))))
noncomputable def zL:E:=(.comp (.ix V5 J1) (.one 5) (.it (.call 4 (.cons V2 (.cons V0 .nil)))) .no)
noncomputable def zM:E:=(.comp (.cmp .GtE V4 V1) (.one 4) (.it (.call 3 (.cons V2 .nil))) .no)
noncomputable def aCA:Xx:=(.seq (.s (.set 2 (.ix (.var 0) (.var 1))))
 (.seq (.ifs (.or (.cmp .Lt (.ix (.var 2) (.int 1)) (.int 1)) (.cmp .Gt (.ix (.var 2) (.int 1)) (.int 64))) (.seq (.raise1 "NoWidth" (.var 1))
 .skip) .skip)
 (.seq (.ifs (.blt .any (.cons (.fz zM) .nil)) (.seq (.raise1 "NoRow" (.var 1))
 .skip) .skip)
 (.seq (.s (.set 3 (.blt .tup (.cons (.fz zL) .nil))))
 (.seq (.ifs (.not (.call 5 (.cons (.var 2) (.cons (.var 3) .nil)))) (.seq (.raise1 "NoFit" (.var 1))
 .skip) .skip)
 (.seq (.ifs (.not (.call 6 (.cons (.var 2) .nil))) (.seq (.raise1 "NoNumber" (.var 1))
 .skip) .skip)
 .skip))))))
noncomputable def aAs:E:=(.comp (.cmp .GtE V4 (.blt .len (.cons V2 .nil))) (.one 4) (.it V3) .no)
noncomputable def rM:E:=(.rng1 (.blt .len (.cons V2 .nil)))
noncomputable def lR:Xx:=(.seq (.cal 30 (.cons (.var 2) (.cons (.var 1) .nil)))
 .skip)
noncomputable def aFN:Xx:=(.seq (.s (.setT (.many [2,3]) (.var 0)))
 (.seq (.loop (.one 1) rM lR)
 (.seq (.ifs (.blt .any (.cons (.fz aAs) .nil)) (.seq (.raise1 "NoRow" (.blt .len (.cons (.var 2) .nil)))
 .skip) .skip)
 (.seq (.s (.ret (.bl true)))
 .skip))))
noncomputable def nE:E:=(.enm V0)
noncomputable def iU:Xx:=(.seq (.s (.set 4 (.call 10 (.cons (.var 3) .nil))))
 (.seq (.ifs (.cmp .Is (.var 4) .non) (.seq (.raise1 "NoLine" (.var 2))
 .skip) .skip)
 (.seq (.s (.expr (.app (.var 1) (.var 4))))
 .skip)))
noncomputable def nI:Xx:=(.seq (.s (.set 1 (.new (.lst .nil))))
 (.seq (.loop (.many [2,3]) nE iU)
 (.seq (.s (.ret (.blt .tup (.cons (.var 1) .nil))))
 .skip)))
noncomputable def tD:Xx:=(.seq (.ifs (.not (.isi (.var 0) .str)) (.seq (.raise1 "NoLine" (.int 0))
 .skip) .skip)
 (.seq (.s (.set 1 (.fz (.spl (.var 0) (.str "\n")))))
 (.seq (.s (.set 2 (.bin .Sub (.blt .len (.cons (.var 1) .nil)) (.int 1))))
 (.seq (.set 3 32 (.cons (.sl (.var 1) .no (.cons (.var 2) .nil)) .nil))
 (.seq (.s (.set 4 (.call 11 (.cons (.ix (.var 1) (.var 2)) .nil))))
 (.seq (.ifs (.cmp .Is (.var 4) .non) (.seq (.raise1 "NoLine" (.var 2))
 .skip) .skip)
 (.seq (.s (.set 5 (.tup (.cons (.var 3) (.cons (.var 4) .nil)))))
 (.seq (.cal 31 (.cons (.var 5) .nil))
 (.seq (.s (.ret (.var 5)))
 .skip)))))))))
noncomputable def vD:Xx:=(.seq (.s (.set 2 (.new (.lst .nil))))
 (.seq (.s (.set 3 (.tup (.cons (.str "none") (.cons (.int 0) .nil)))))
 (.seq (.tri (.seq (.cal 33 (.cons (.var 0) .nil))
 .skip) [("NoLine",qq 4,[.tup 3 [.str "line",.row 4]])])
 (.seq (.tri (.seq (.cal 33 (.cons (.var 0) .nil))
 .skip) [("BitsError",qq 4,[.lst true 2 [.isi 4 "ValueError",.isi 4 "NoLine"],.app 2 (.isl 4 ["NoFit", "NoNumber", "NoRow", "NoWidth", "TooMany"])])])
 (.seq (.s (.ret (.and (.cmp .Eq (.var 3) (.tup (.cons (.str "line") (.cons (.var 1) .nil)))) (.and (.not (.isi (.ix (.var 3) (.int 1)) .bool)) (.cmp .Eq (.var 2) (.fz (.lst (.cons (.bl true) (.cons (.bl true) (.cons (.bl false) .nil))))))))))
 .skip)))))
noncomputable def vT:E:=(.rng1 V2)
noncomputable def aAU:Sx:=(.seq (.set 9 (.call 12 (.cons V1 (.cons (.blt .len (.cons V5 .nil)) .nil))))
 (.seq (.put V6 V9 (.call 29 (.cons V1 (.cons (.ix V5 V9) .nil))))
 .skip))
noncomputable def qP:Sx:=(.seq (.set 1 (.new (.lst (.cons V0 (.cons J0 (.cons J0 .nil))))))
 (.seq (.set 2 (.bin .Add J1 (.call 12 (.cons V1 (.cons J2 .nil)))))
 (.seq (.set 3 (.call 12 (.cons V1 (.cons J9 .nil))))
 (.seq (.set 4 (.call 22 (.cons V1 (.cons (.bin .Add J1 (.blt .mn (.cons (.blt .len (.cons V0 .nil)) (.cons J8 .nil)))) .nil))))
 (.seq (.set 5 (.call 27 (.cons V4 .nil)))
 (.seq (.ifs (.cmp .NotEq (.call 33 (.cons (.jn (.str "\n") V5) .nil)) V4) (.seq (.ret (.bl false))
 .skip) .skip)
 (.seq (.set 6 (.new (.lof V5)))
 (.seq (.loop (.one 7) vT aAU)
 (.seq (.ifs (.cmp .Lt V3 J3) (.seq (.set 6 (.ix (.fz (.lst (.cons (.bin .Add V5 (.fz (.lst (.cons (.str "") .nil)))) (.cons (.bin .Add (.fz (.lst (.cons (.str "") .nil))) V5) (.cons (.bin .Add V5 (.sl V5 (.cons (.un .USub J1) .nil) .no)) .nil))))) V3))
 .skip) .skip)
 (.seq (.set 8 (.call 26 (.cons V6 .nil)))
 (.seq (.ifs (.and (.cmp .GtE V8 J0) (.not (.call 34 (.cons (.jn (.str "\n") V6) (.cons V8 .nil))))) (.seq (.ret (.bl false))
 .skip) .skip)
 (.seq (.ifs (.and (.cmp .Eq V3 J4) (.not (.call 34 (.cons (.ix (.fz (.lst (.cons .non (.cons J0 (.cons V4 (.cons (.tup (.cons (.str "in 5") (.cons (.str "out 0") .nil))) (.cons (.bl true) .nil))))))) (.call 12 (.cons V1 (.cons J5 .nil)))) (.cons J0 .nil))))) (.seq (.ret (.bl false))
 .skip) .skip)
 (.seq (.ret (.and (.call 34 (.cons (.str "") (.cons J0 .nil))) (.cmp .Eq (.call 33 (.cons (.jn (.str "\n") V5) .nil)) V4)))
 .skip)))))))))))))
noncomputable def fns:List Fn:=[
 {name:="full",np:=1,N:=["width"],body:=aGa,st:=top 9 },
 {name:="is_word",np:=1,N:=["word"],body:=aJu,st:=top 15 },
 {name:="number_count",np:=1,N:=["word", "further"],body:=aCx,st:=top 16 },
 {name:="operands",np:=1,N:=["row"],body:=aIK,st:=top 17 },
 {name:="of_operands",np:=2,N:=["row", "values", "k"],body:=aHD,st:=top 18 },
 {name:="widths_fit",np:=2,N:=["row", "widths", "word", "width", "each"],body:=aHQ,st:=top 20 },
 {name:="number_fits",np:=1,N:=["row"],body:=aHI,st:=top 21 },
 {name:="is_number",np:=1,N:=["part", "sign"],body:=aIn,st:=top 26 },
 {name:="are_numbers",np:=1,N:=["parts", "part"],body:=aHB,st:=top 27 },
 {name:="numbers_in",np:=1,N:=["parts", "part"],body:=aHS,st:=top 28 },
 {name:="row_in",np:=1,N:=["line", "parts", "word"],body:=aKy,st:=top 29 },
 {name:="outs_in",np:=1,N:=["line", "parts"],body:=aJC,st:=top 30 },
 {name:="_law_draw",np:=2,N:=["_law_state", "_law_many", "_law_cell", "_law_script", "_law_k", "_law_digit"],body:=gM,st:=top 34 },
 {name:="_law_number",np:=2,N:=["_law_state", "_law_width_here"],body:=zR,st:=top 35 },
 {name:="_law_width",np:=1,N:=["_law_state"],body:=aCJ,st:=top 36 },
 {name:="_law_num",np:=2,N:=["_law_state", "_law_width_here", "_law_sort", "_law_some"],body:=aAp,st:=top 37 },
 {name:="_law_fit",np:=4,N:=["_law_state", "_law_rows", "_law_a", "_law_width_here", "_law_word"],body:=rK,st:=top 38 },
 {name:="_law_operand",np:=3,N:=["_law_state", "_law_rows", "_law_width_here", "_law_some", "_law_k"],body:=rD,st:=top 39 },
 {name:="_law_turned_width",np:=3,N:=["_law_state", "_law_rows", "_law_word", "_law_a", "_law_width_here"],body:=zH,st:=top 40 },
 {name:="_law_shift",np:=4,N:=["_law_state", "_law_rows", "_law_word", "_law_width_here", "_law_k"],body:=zU,st:=top 41 },
 {name:="_law_pair",np:=4,N:=["_law_state", "_law_rows", "_law_word", "_law_width_here", "_law_a", "_law_b"],body:=aAd,st:=top 42 },
 {name:="_law_row",np:=2,N:=["_law_state", "_law_rows", "_law_some", "_law_word", "_law_width_here", "_law_row_here", "_law_c"],body:=iV,st:=top 43 },
 {name:="_law_program",np:=2,N:=["_law_state", "_law_most", "_law_rows", "_law_k", "_law_last", "_law_outs"],body:=kO,st:=top 44 },
 {name:="_law_figures",np:=1,N:=["_law_word", "_law_sign"],body:=aHs,st:=top 45 },
 {name:="_law_numbers",np:=1,N:=["_law_word", "_law_some"],body:=aHx,st:=top 46 },
 {name:="_law_line_good",np:=2,N:=["_law_words", "_law_last", "_law_numbers_here", "_law_word"],body:=aHl,st:=top 47 },
 {name:="_law_first_bad",np:=1,N:=["_law_lines", "_law_at"],body:=aHn,st:=top 48 },
 {name:="_law_text_of",np:=1,N:=["_law_program_here", "_law_lines", "_law_row_here", "_law_number_here"],body:=zP,st:=top 49 },
 {name:="_law_number_spoilt",np:=2,N:=["_law_state", "_law_word", "_law_some"],body:=aHh,st:=top 50 },
 {name:="_law_spoilt",np:=2,N:=["_law_state", "_law_line", "_law_words", "_law_some", "_law_lines", "_law_at"],body:=zS,st:=top 51 }]
noncomputable def gns:List FnX:=[
 {name:="look_at_row",np:=2,N:=["rows", "k", "row", "widths", "operand", "ahead"],body:=.inr aCA,st:=top 22 },
 {name:="look",np:=1,N:=["program", "k", "rows", "outs", "out"],body:=.inr aFN,st:=top 23 },
 {name:="rows_in",np:=1,N:=["lines", "rows", "k", "line", "row"],body:=.inr nI,st:=top 31 },
 {name:="read",np:=1,N:=["text", "lines", "last", "rows", "outs", "program"],body:=.inr tD,st:=top 32 },
 {name:="_law_refused",np:=2,N:=["_law_text", "_law_due", "_law_said", "_law_own", "e"],body:=.inr vD,st:=top 52 },
 {name:="law",np:=1,N:=["_law_script", "_law_state", "_law_many", "_law_sort", "_law_program_here", "_law_good", "_law_lines", "_law_k", "_law_due", "_law_at"],body:=.inl qP,st:=top 53 }]
noncomputable def xz:Xz:=⟨["BitsError", "NoLine", "NoFit", "NoNumber", "NoRow", "NoWidth", "TooMany"],["ValueError"],[],[("NoNumber", "NoNumber.__init__",rY (top 6) 0),("NoFit", "NoFit.__init__",rY (top 5) 0),("NoRow", "NoRow.__init__",rY (top 4) 0),("NoWidth", "NoWidth.__init__",rY (top 3) 0),("NoLine", "NoLine.__init__",rY (top 2) 0)]⟩
noncomputable def xl:List (Str×Str×Bool):=("NoNumber", "BitsError",true)::("NoNumber", "NoLine",false)::("NoNumber", "NoFit",false)::("NoNumber", "NoNumber",true)::("NoNumber", "NoRow",false)::("NoNumber", "NoWidth",false)::("NoNumber", "TooMany",false)::("NoNumber", "ValueError",true)::("NoFit", "BitsError",true)::("NoFit", "NoLine",false)::("NoFit", "NoFit",true)::("NoFit", "NoNumber",false)::("NoFit", "NoRow",false)::("NoFit", "NoWidth",false)::("NoFit", "TooMany",false)::("NoFit", "ValueError",true)::("NoRow", "BitsError",true)::("NoRow", "NoLine",false)::("NoRow", "NoFit",false)::("NoRow", "NoNumber",false)::("NoRow", "NoRow",true)::("NoRow", "NoWidth",false)::("NoRow", "TooMany",false)::("NoRow", "ValueError",true)::("NoWidth", "BitsError",true)::("NoWidth", "NoLine",false)::("NoWidth", "NoFit",false)::("NoWidth", "NoNumber",false)::("NoWidth", "NoRow",false)::("NoWidth", "NoWidth",true)::("NoWidth", "TooMany",false)::("NoWidth", "ValueError",true)::("NoLine", "BitsError",true)::("NoLine", "NoLine",true)::("NoLine", "NoFit",false)::("NoLine", "NoNumber",false)::("NoLine", "NoRow",false)::("NoLine", "NoWidth",false)::("NoLine", "TooMany",false)::("NoLine", "ValueError",true)::[]
noncomputable def cR(ns:List Int)(k:Nat)(x:Int):List D:=[.list (ns.map yAl),.int k,.int x]
theorem aLp{α:Type}{S:List α}{n:Nat}{a v:α}(h:S[n]? = qq a):(S.set n v)[n]? = qq v:=yAo (gIm h).1
theorem aAm{α:Type}(S:List α)(n:Nat)(v:α):(S.set n v).take S.length=S.set n v:=by
 rw[yBn];rw[yAq];exact yAe _
theorem aFe(a b c:D):bH (.list [a,b,c]) (.int 0)=qq a:=rfl
theorem aFn(a b c:D):bH (.list [a,b,c]) (.int 2)=qq c:=rfl
theorem aQk(a b c:D):cC [a,b,c] qz (qq 2)=[a,b]:=rfl
theorem pO{ns:List Int}{k:Nat}(h:k<ns.length):bH (.list (ns.map yAl)) (.int k)=qq (.int ns[k]):=eA (by rw[xAb,yAc h];rfl)
theorem rT(i:Int){w:Nat}(hw:0<w):∃ r:Nat,i%(w:Int)=(r:Int)/\r<w:=by
 have h0:=Int.emod_nonneg i (show(w:Int)≠0 by omega)
 have h1:=Int.emod_lt_of_pos i (show(0:Int)<(w:Int) by omega)
 exact⟨(i%(w:Int)).toNat,by omega,by omega⟩
theorem aPi:gL 3 1=qq 1:=rfl
theorem aGf:gL 3 2=qq 2:=rfl
theorem nJ(ns:List Int):(ns.map yAl).length=ns.length:=yAb ..
noncomputable def pL:Sx:=match gM with
 | .seq _ (.seq _ (.seq _ r))=>r
 | _=>.skip
theorem pD(i p:Int)(hp:0<p)(hp2:p<=2147483647) : -(2^64)<i%p/\i%p<2^64:=by
 have h0:=Int.emod_nonneg i (show p≠0 by omega)
 have h1:=Int.emod_lt_of_pos i hp;exact⟨by omega,by omega⟩
theorem aIZ(C:Calls)(n k m:Nat)(ns:List Int)(x:Int)(S:aB)(e2 e5:Option W)(hS:S[n]? = qq (qq (cR ns (k+1) x)))(hm:0<m)(hk:k<=100000) :
 ∃ r:Nat,r<m/\xs C pL [qq (.loc n),qq (.d (.int m)),e2,qq (.d (.list (ns.map yAl))),qq (.d (.int k)),e5] S=qq (.rt (.d (.int r)),S):=by
 unfold cR at hS;have hm':(0:Int)<(m:Int):=by omega
 by_cases c1:k<ns.length
 ·have d1:decide ((k:Int)<((ns.length:Nat):Int))=true:=dqT (by omega)
  obtain⟨r,er,hr⟩:=rT ns[k] hm;refine⟨r,hr,?_⟩;simp only[evs,pL,gM,cA,dF,nJ,cT,d1,pO c1,eX hm',er]
 ·have d1:decide ((k:Int)<((ns.length:Nat):Int))=false:=dqF (by omega)
  have bB:∀ c:Int,∃ r:Nat,r<m/\c%2147483629*((k:Int)+3)%2147483629*(c%2147483629*((k:Int)+3)%2147483629)%2147483587*(c%2147483629*((k:Int)+3)%2147483629*(c%2147483629*((k:Int)+3)%2147483629)%2147483587)%1999999973%(m:Int)=(r:Int):=λ c=>by
   obtain⟨r,er,hr⟩:=rT (c%2147483629*((k:Int)+3)%2147483629*(c%2147483629*((k:Int)+3)%2147483629)%2147483587*(c%2147483629*((k:Int)+3)%2147483629*(c%2147483629*((k:Int)+3)%2147483629)%2147483587)%1999999973) hm;exact⟨r,hr,er⟩
  by_cases c2:0<ns.length
  ·have d2:decide ((0:Int)<((ns.length:Nat):Int))=true:=dqT (by omega)
   obtain⟨q,eq,hq⟩:=rT ((k:Int)*7) c2;obtain⟨r,hr,er⟩:=bB ((k:Int)*7919+5+ns[q]*(48271+(k:Int)));refine⟨r,hr,?_⟩;have s1:=pD ((k:Int)*7919+5+ns[q]*(48271+(k:Int))) 2147483629 (by decide) (by decide)
   have s2:=pD (((k:Int)*7919+5+ns[q]*(48271+(k:Int)))%2147483629*((k:Int)+3)) 2147483629 (by decide) (by decide)
   have s3:=pD (((k:Int)*7919+5+ns[q]*(48271+(k:Int)))%2147483629*((k:Int)+3)%2147483629*(((k:Int)*7919+5+ns[q]*(48271+(k:Int)))%2147483629*((k:Int)+3)%2147483629)) 2147483587 (by decide) (by decide)
   simp only[evs,pL,gM,cA,dF,nJ,cT,d1,vS (i:=(k:Int)) (j:=7919) (by decide) (by decide),dY,hS,aFe,gQ,d2,vS (i:=(k:Int)) (j:=7) (by decide) (by decide),eX (i:=(k:Int)*7) (j:=((ns.length:Nat):Int)) (by omega),eq,pO hq,
    vS (i:=ns[q]) (j:=48271+(k:Int)) (by omega) (by omega),eX (j:=2147483629) (by decide),pG s1.1 s1.2,pG s2.1 s2.2,eX (j:=2147483587) (by decide),pG s3.1 s3.2,eX (j:=1999999973) (by decide),eX hm',er]
  ·have d2:decide ((0:Int)<((ns.length:Nat):Int))=false:=dqF (by omega)
   obtain⟨r,hr,er⟩:=bB ((k:Int)*7919+5);refine⟨r,hr,?_⟩;have s1:=pD ((k:Int)*7919+5) 2147483629 (by decide) (by decide)
   have s2:=pD (((k:Int)*7919+5)%2147483629*((k:Int)+3)) 2147483629 (by decide) (by decide)
   have s3:=pD (((k:Int)*7919+5)%2147483629*((k:Int)+3)%2147483629*(((k:Int)*7919+5)%2147483629*((k:Int)+3)%2147483629)) 2147483587 (by decide) (by decide)
   simp only[evs,pL,gM,cA,dF,nJ,cT,d1,vS (i:=(k:Int)) (j:=7919) (by decide) (by decide),dY,hS,aFe,gQ,d2,eX (j:=2147483629) (by decide),pG s1.1 s1.2,pG s2.1 s2.2,eX (j:=2147483587) (by decide),pG s3.1 s3.2,eX (j:=1999999973) (by decide),eX hm',er]
noncomputable def nP:Sx:=match gM with
 | .seq _ (.seq _ (.seq i _))=>i
 | _=>.skip
noncomputable def aAX:Sx:=match gM with
 | .seq _ (.seq p _)=>p
 | _=>.skip
noncomputable def vU:Sx:=match gM with
 | .seq p _=>p
 | _=>.skip
theorem aLr(d n k m:Nat)(ns:List Int)(x:Int)(S:aB)(hS:S[n]? = qq (qq (cR ns k x)))(hm:0<m)(hm2:m<2^64)(hk:k<=100000) :
 ∃ (r:Nat) (x':Int),r<m/\cl fns (d+1) 12 [.loc n,.d (.int m)] S=qq (.d (.int r),S.set n (qq (cR ns (k+1) x'))):=by
 have hm':(0:Int)<(m:Int):=by omega
 have hm2':(m:Int)<2^64:=by exact_mod_cast hm2
 have e1:(k:Int)/12+1=((k/12+1:Nat):Int):=by omega
 have e2:(k:Int)+1=((k+1:Nat):Int):=by omega
 have gs:=λ v=>aLp (v:=v) hS
 have start:(cM (xs (aF fns d) vU) (xs (aF fns d) aAX)) [qq (.loc n),qq (.d (.int m)),qz,qz,qz,qz] S=qq (.nx [qq (.loc n),qq (.d (.int m)),qz,qq (.d (.list (ns.map yAl))),qq (.d (.int k)),qz],S.set n (qq (cR ns (k+1) x))):=by
  unfold cR at hS ⊢;simp only[evs,vU,aAX,gM,dL,cY,dS,hS,aQk,mQ,mF,aPi,dY,e2]
 have eK:∀ (R:Option (Fl×aB)),cM (xs (aF fns d) nP) (xs (aF fns d) pL) [qq (.loc n),qq (.d (.int m)),qz,qq (.d (.list (ns.map yAl))),qq (.d (.int k)),qz] (S.set n (qq (cR ns (k+1) x)))=R ->
  cl fns (d+1) 12 [.loc n,.d (.int m)] S=R.bind λ p=>match p.1 with
   | .rt w=>iO S.length p.2 w
   | .nx _=>qq (.d .none,p.2.take S.length)
   | _=>qz:=λ R hR=>by
  rw[cV rfl d _ S rfl,<- hR];simp only[cM] at start ⊢;cases q:xs (aF fns d) vU [qq (.loc n),qq (.d (.int m)),qz,qz,qz,qz] S with
  | none=>rw[q] at start;cases start
  | some z =>
    obtain⟨fl,S1⟩:=z;rw[q] at start;simp only[oB] at start;cases fl with
    | nx e =>
      simp only at start;show((cM (xs (aF fns d) vU) (cM (xs (aF fns d) aAX) (cM (xs (aF fns d) nP) (xs (aF fns d) pL)))) [qq (.loc n),qq (.d (.int m)),qz,qz,qz,qz] S).bind _=_;simp only[cM,q,oB,start]
      all_goals rfl
    | rt w=>cases start
    | bk e=>cases start
    | ct e=>cases start
 have hS2:(S.set n (qq (cR ns (k+1) x)))[n]? = qq (qq (cR ns (k+1) x)):=gs _;have skip:xs (aF fns d) nP [qq (.loc n),qq (.d (.int m)),qz,qq (.d (.list (ns.map yAl))),qq (.d (.int k)),qz] (S.set n (qq (cR ns (k+1) x)))=qq (.nx [qq (.loc n),qq (.d (.int m)),qz,qq (.d (.list (ns.map yAl))),qq (.d (.int k)),qz],S.set n (qq (cR ns (k+1) x))) ->
  ∃ (r:Nat) (x':Int),r<m/\cl fns (d+1) 12 [.loc n,.d (.int m)] S=qq (.d (.int r),S.set n (qq (cR ns (k+1) x'))):=λ h=>by
  obtain⟨r,hr,ht⟩:=aIZ (aF fns d) n k m ns x _ qz qz hS2 hm hk;refine⟨r,x,hr,?_⟩;rw[eK _ rfl];simp only[cM,h,oB,ht,iO,aAm]
 by_cases c1:k/12+1<ns.length
 ·have d1:decide (((k/12+1:Nat):Int)<((ns.length:Nat):Int))=true:=dqT (by omega)
  have i0:bH (.list (ns.map yAl)) (.int 0)=qq (.int ns[0]):=pO (k:=0) (by omega)
  rcases yCd (ns[0]%2==1) with c2 | c2
  ·rcases yCd ((k:Int)%12==0) with c3 | c3
   ·obtain⟨r,er,hr⟩:=rT ns[k/12+1] hm;refine⟨r,ns[k/12+1]/(m:Int),hr,?_⟩;rw[eK _ rfl];unfold cR at hS2 ⊢;simp only[evs,nP,gM,mQ,mF,aGf,dY,lX (i:=(k:Int)) (j:=12) (by decide) (by decide),e1,cA,dF,nJ,cT,d1,i0,eX (i:=ns[0]) (j:=2) (by decide),eB,c2,eX (i:=(k:Int)) (j:=12) (by decide),c3,hS2,gs,yFv,pO c1,aFn,eX hm',er,lX hm' hm2',aAm]
   ·obtain⟨r,er,hr⟩:=rT x hm;refine⟨r,x/(m:Int),hr,?_⟩;rw[eK _ rfl];unfold cR at hS2 ⊢;simp only[evs,nP,gM,mQ,mF,aGf,dY,lX (i:=(k:Int)) (j:=12) (by decide) (by decide),e1,cA,dF,nJ,cT,d1,i0,eX (i:=ns[0]) (j:=2) (by decide),eB,c2,eX (i:=(k:Int)) (j:=12) (by decide),c3,hS2,gs,yFv,aFn,eX hm',er,lX hm' hm2',aAm]
  ·apply skip;simp only[evs,nP,gM,dY,lX (i:=(k:Int)) (j:=12) (by decide) (by decide),e1,cA,dF,nJ,cT,d1,i0,eX (i:=ns[0]) (j:=2) (by decide),eB,c2]
 ·have d1:decide (((k/12+1:Nat):Int)<((ns.length:Nat):Int))=false:=dqF (by omega)
  apply skip;simp only[evs,nP,gM,dY,lX (i:=(k:Int)) (j:=12) (by decide) (by decide),e1,cA,dF,nJ,cT,d1]
inductive Wd where
 | «in» | num | not | and | or | xor | add | sub | mul | left | right | slide | cut | wide | sign | same | less | under | pick
 deriving DecidableEq
noncomputable def Wd.s:Wd->Str
 | .in => "in" | .num => "num" | .not => "not" | .and => "and" | .or => "or" | .xor => "xor" | .add => "add" | .sub => "sub" | .mul => "mul" | .left => "left" | .right => "right" | .slide => "slide"
 | .cut => "cut" | .wide => "wide" | .sign => "sign" | .same => "same" | .less => "less" | .under => "under" | .pick => "pick"
structure Rw where
 wd:Wd
 w:Nat
 args:List Nat
noncomputable def nD(n:Nat):D:=.int n
noncomputable def Rw.d(r:Rw):D:=.tuple (.str r.wd.s::nD r.w::r.args.map nD)
def gS(ws:List Nat)(r:Rw):Prop:=1<=r.w/\r.w<=64/\match r.wd,r.args with
 | .in,[]=>True
 | .num,[n]=>n<2^r.w
 | .not,[a]=>ws[a]? = qq r.w
 | .and,[a,b] | .or,[a,b] | .xor,[a,b] | .add,[a,b] | .sub,[a,b] | .mul,[a,b]=>ws[a]? = qq r.w/\ws[b]? = qq r.w
 | .left,[a,k] | .right,[a,k] | .slide,[a,k]=>ws[a]? = qq r.w/\k<64
 | .cut,[a]=>∃ v,ws[a]? = qq v/\r.w<=v
 | .wide,[a] | .sign,[a]=>∃ v,ws[a]? = qq v/\v<=r.w
 | .same,[a,b] | .less,[a,b] | .under,[a,b]=>r.w=1/\∃ v,ws[a]? = qq v/\ws[b]? = qq v
 | .pick,[c,a,b]=>ws[c]? = qq 1/\ws[a]? = qq r.w/\ws[b]? = qq r.w
 | _,_=>False
noncomputable def cW:List Nat->List Rw->Prop
 | _,[]=>True
 | ws,r::rs=>gS ws r/\cW (ws++[r.w]) rs
theorem zT:∀ {rs:List Rw}{ws:List Nat}{r:Rw},cW ws rs->gS (ws++rs.map (·.w)) r->cW ws (rs++[r])
 | [],ws,r,_,h=>⟨by simpa using h,True.intro⟩
 | q::rs,ws,r,⟨h1,h2⟩,h=>⟨h1,zT h2 (by simpa using h)⟩
noncomputable def aP(S:aB)(n p:Nat)(ns:List Int)(k:Nat)(x:Int)(rs:List Rw):aB:=(S.set n (qq (cR ns k x))).set p (qq (rs.map Rw.d))
section
variable {S : aB}{n p : Nat}{ns : List Int}{k : Nat}{x : Int}{rs : List Rw}
structure At0(S:aB)(n p:Nat):Prop where
 hn:n<S.length
 ne:n≠p
structure At(S:aB)(n p:Nat):Prop extends At0 S n p where
 hp:p<S.length
theorem At0.state(h:At0 S n p):(aP S n p ns k x rs)[n]? = qq (qq (cR ns k x)):=by
 unfold aP;rw[yAn h.ne.symm,yAo h.hn]
theorem At.rows(h:At S n p):(aP S n p ns k x rs)[p]? = qq (qq (rs.map Rw.d)):=by
 unfold aP;rw[yAo (by rw[yAq];exact h.hp)]
theorem At.rowsT(h:At S n p)(T:aB):(aP S n p ns k x rs++T)[p]? = qq (qq (rs.map Rw.d)):=by
 rw[xAj (by simp[aP];exact h.hp)]
 exact h.rows
theorem At0.len(h:At0 S n p):(aP S n p ns k x rs).length=S.length:=by simp[aP]
theorem At0.take(h:At0 S n p)(k':Nat)(x':Int)(bA:List Rw):(aP S n p ns k' x' bA).take (aP S n p ns k x rs).length=aP S n p ns k' x' bA:=by
 rw[h.len,yBn];rw[h.len];exact yAe _
theorem At0.put(h:At0 S n p)(k':Nat)(x':Int):(aP S n p ns k x rs).set n (qq (cR ns k' x'))=aP S n p ns k' x' rs:=by
 unfold aP;rw[List.set_comm _ _ h.ne.symm,yFv]
theorem At.putR(h:At S n p)(r:Rw):(aP S n p ns k x rs).set p (qq (rs.map Rw.d++[r.d]))=aP S n p ns k x (rs++[r]):=by
 unfold aP;rw[yFv,yAr];rfl
end
section
variable {S : aB}{n p : Nat}{ns : List Int}{k : Nat}{x : Int}{rs : List Rw}
theorem eY(h:At0 S n p)(d m:Nat)(hm:0<m)(hm2:m<2^64)(hk:k<=100000):∃ (r:Nat) (x':Int),r<m/\cl fns (d+1) 12 [.loc n,.d (.int m)] (aP S n p ns k x rs)=qq (.d (.int r),aP S n p ns (k+1) x' rs):=by
 obtain⟨r,x',hr,e⟩:=aLr d n k m ns x _ h.state hm hm2 hk;exact⟨r,x',hr,by rw[e,h.put]⟩
theorem gN(h:At0 S n p)(d m:Nat){i:Int}(hi:i=(m:Nat))(hm:0<m)(hm2:m<2^64)(hk:k<=100000):∃ (r:Nat) (x':Int),r<m/\cl fns (d+1) 12 [.loc n,.d (.int i)] (aP S n p ns k x rs)=qq (.d (.int r),aP S n p ns (k+1) x' rs):=by
 subst hi;exact eY h d m hm hm2 hk
theorem aDI{w:Nat}(h:w<64):2^w<2^64:=yEs (by decide) h
theorem aI4(h:At0 S n p)(d w:Nat)(hw:w<=64)(hk:k<=99000):∃ (r k':Nat) (x':Int),r<2^w/\k'<=k+2/\cl fns (d+2) 13 [.loc n,.d (.int w)] (aP S n p ns k x rs)=qq (.d (.int r),aP S n p ns k' x' rs):=by
 by_cases c:w<31
 ·have d1:decide ((w:Int)<31)=true:=dqT (by omega)
  obtain⟨r,x',hr,e⟩:=eY (ns:=ns) (k:=k) (x:=x) (rs:=rs) h d (2^w) (vQ w) (aDI (by omega)) (by omega)
  refine⟨r,k+1,x',hr,by omega,?_⟩
  rw[cV rfl (d+1) _ _ rfl];simp only[evs,cQ,zR,cT,d1,jN (show w<=100000 by omega),e,h.take]
 ·have d1:decide ((w:Int)<31)=false:=dqF (by omega)
  have e1:(w:Int)-30=((w-30:Nat):Int):=by omega
  have s30:=jN (w:=30) (by decide)
  rw[show((30:Nat):Int)=30 from rfl] at s30
  obtain⟨r,x',hr,e⟩:=eY (ns:=ns) (k:=k) (x:=x) (rs:=rs) h d (2^30) (by decide) (by decide) (by omega)
  obtain⟨q,x2,hq,e'⟩:=eY (ns:=ns) (k:=k+1) (x:=x') (rs:=rs) h d (2^(w-30)) (vQ _) (aDI (by omega)) (by omega)
  have hb:r+q*2^30<2^w:=by
   have e3:(2:Nat)^w=2^(w-30)*2^30:=by rw[<- Nat.pow_add,show w-30+30=w by omega]
   have h3:(q+1)*2^30<=2^(w-30)*2^30:=yDl _ hq;rw[Nat.add_mul] at h3;omega
  have sh:bL .LShift (.int q) (.int 30)=qq (.int ((q*2^30:Nat):Int)):=aLw (n:=q) (a:=w-30) (k:=30) hq (by omega)
  have ad:(r:Int)+((q*2^30:Nat):Int)=((r+q*2^30:Nat):Int):=(Int.natCast_add _ _).symm;refine⟨r+q*2^30,k+2,x2,hb,by omega,?_⟩
  rw[cV rfl (d+1) _ _ rfl];simp only[evs,cQ,zR,cT,d1,s30,e,eG,e1,jN (show w-30<=100000 by omega),e',sh,dY,ad,h.take]
end
theorem at4(a b c e:D){r:Nat}(h1:r<4):∃ x,(x=a\/x=b\/x=c\/x=e)/\bH (.list [a,b,c,e]) (.int r)=qq x:=by
 have:r=0\/r=1\/r=2\/r=3:=by omega
 rcases this with rfl | rfl | rfl | rfl
 ·exact⟨a,.inl rfl,rfl⟩
 ·exact⟨b,.inr (.inl rfl),rfl⟩
 ·exact⟨c,.inr (.inr (.inl rfl)),rfl⟩
 ·exact⟨e,.inr (.inr (.inr rfl)),rfl⟩
section
variable {S : aB}{n p : Nat}{ns : List Int}{k : Nat}{x : Int}{rs : List Rw}
theorem aDy(h:At0 S n p)(d:Nat)(hk:k<=99000):∃ (w:Nat) (x':Int),1<=w/\w<=64/\cl fns (d+2) 14 [.loc n] (aP S n p ns k x rs)=qq (.d (.int w),aP S n p ns (k+3) x' rs):=by
 obtain⟨r1,x1,h1,e1⟩:=gN (ns:=ns) (k:=k) (x:=x) (rs:=rs) h d 8 (i:=8) rfl (by decide) (by decide) (by omega)
 obtain⟨r2,x2,h2,e2⟩:=gN (ns:=ns) (k:=k+1) (x:=x1) (rs:=rs) h d 64 (i:=64) rfl (by decide) (by decide) (by omega)
 obtain⟨r3,x3,h3,e3⟩:=gN (ns:=ns) (k:=k+2) (x:=x2) (rs:=rs) h d 4 (i:=4) rfl (by decide) (by decide) (by omega)
 have a1:(1:Int)+(r1:Int)=((1+r1:Nat):Int):=by omega
 have a2:(1:Int)+(r2:Int)=((1+r2:Nat):Int):=by omega
 obtain⟨y,hy,e⟩:=at4 (.int 1) (.int 64) (.int ((1+r1:Nat):Int)) (.int ((1+r2:Nat):Int)) h3;obtain⟨w,rB,bZ,rfl⟩:∃ w:Nat,1<=w/\w<=64/\y=.int w:=by
  rcases hy with rfl | rfl | rfl | rfl
  ·exact⟨1,by decide,by decide,rfl⟩
  ·exact⟨64,by decide,by decide,rfl⟩
  ·exact⟨_,by omega,by omega,rfl⟩
  ·exact⟨_,by omega,by omega,rfl⟩
 refine⟨w,x3,rB,bZ,?_⟩;rw[cV rfl (d+1) _ _ rfl];simp only[evs,cQ,aCJ,e1,e2,e3,dY,a1,a2,e,h.take]
end
theorem aBu(a b:D):bH (.list [a,b]) (.int ((0:Nat):Int))=qq a:=rfl
theorem aBq(a b:D):bH (.list [a,b]) (.int ((1:Nat):Int))=qq b:=rfl
theorem aEc{t:Tg}{fb:FS}(P:Nat->aS->aB->Prop):∀ (ds:List D) (i:Nat) (env:aS) (S:aB),P i env S->(∀ j d env S,i<=j->j<i+ds.length->P j env S->∃ e1 aK S',t.put d env=qq e1/\fb e1 S=qq (.nx aK,S')/\P (j+1) aK S') ->
 ∃ aK S',eC t fb ds env S=qq (.nx aK,S')/\P (i+ds.length) aK S'
 | [],i,env,S,h0,_=>⟨env,S,rfl,h0⟩
 | d::ds,i,env,S,h0,h=>by
   obtain⟨e1,aK,S',h1,h2,h3⟩:=h i d env S (yAe _) (by simp) h0
   obtain⟨env2,S2,h4,h5⟩:=aEc P ds (i+1) aK S' h3 λ j d' env S a b=>h j d' env S (by omega) (by simp at b ⊢;omega)
   refine⟨env2,S2,by simp only[eC,h1,oB,h2];exact h4,?_⟩
   have:i+(d::ds).length=i+1+ds.length:=by simp;omega
   rw[this];exact h5
theorem aA6{t:Tg}{fi:FL}{fb:FS}{env:aS}{S S1:aB}{ds:List D}(P:Nat->aS->aB->Prop)(hi:fi env S=qq (ds,S1))(h0:P 0 env S1)(h:∀ j d env S,j<ds.length->P j env S->∃ e1 aK S',t.put d env=qq e1/\fb e1 S=qq (.nx aK,S')/\P (j+1) aK S') :
 ∃ aK S',iN t fi fb env S=qq (.nx aK,S')/\P ds.length aK S':=by
 obtain⟨aK,S',h1,h2⟩:=aEc (t:=t) (fb:=fb) P ds 0 env S1 h0 λ j d env S _ b=>h j d env S (by omega)
 exact⟨aK,S',by unfold iN;rw[hi,oB];exact h1,by simpa using h2⟩
theorem b2i(b:Bool):∃ q:Nat,q<2/\(if b then (1:Int) else 0)=(q:Int):=by
 cases b
 ·exact⟨0,by decide,rfl⟩
 ·exact⟨1,by decide,rfl⟩
theorem at2(a b:D){r:Nat}(h1:r<2):∃ x,(x=a\/x=b)/\bH (.list [a,b]) (.int r)=qq x:=by
 have:r=0\/r=1:=by omega
 rcases this with rfl | rfl
 ·exact⟨a,.inl rfl,rfl⟩
 ·exact⟨b,.inr rfl,rfl⟩
theorem jV{C:Calls}{a r:Sx}{env e1:aS}{S S1:aB}(h:xs C a env S=qq (.nx e1,S1)):xs C (.seq a r) env S=xs C r e1 S1:=by simp only[nO,cM,h,oB]
theorem aGD(ns:List Int)(k:Nat)(x:Int):aP [qz] 0 1 ns k x []=[qq (cR ns k x)]:=rfl
theorem at1:At0 [qz] 0 1:=⟨by decide,by decide⟩
noncomputable abbrev s0(ns:List Int)(k:Nat)(x:Int):aB:=[qq (cR ns k x)]
section
variable {ns : List Int}{k : Nat}{x : Int}
end
section
variable {S : aB}{n p : Nat}{ns : List Int}{k : Nat}{x : Int}{rs : List Rw}
theorem aMR(h:At0 S n p)(d w:Nat)(hw:1<=w)(bZ:w<=64)(hk:k<=98000):∃ (r k':Nat) (x':Int),r<2^w/\k'<=k+5/\cl fns (d+3) 15 [.loc n,.d (.int w)] (aP S n p ns k x rs)=qq (.d (.int r),aP S n p ns k' x' rs):=by
 have hw3:w<2^64:=by omega
 have hp:=vQ w;obtain⟨r1,x1,h1,e1⟩:=gN (ns:=ns) (k:=k) (x:=x) (rs:=rs) h (d+1) 5 (i:=5) rfl (by decide) (by decide) (by omega)
 obtain⟨r2,x2,h2,e2⟩:=eY (ns:=ns) (k:=k+1) (x:=x1) (rs:=rs) h (d+1) w (by omega) hw3 (by omega)
 obtain⟨r3,x3,h3,e3⟩:=eY (ns:=ns) (k:=k+2) (x:=x2) (rs:=rs) h (d+1) w (by omega) hw3 (by omega)
 by_cases c:r1<4
 ·have d1:decide ((r1:Int)<4)=true:=dqT (by omega)
  obtain⟨y,hy,e⟩:=at4 (.int 0) (.int ((2^w-1:Nat):Int)) (.int ((2^r2:Nat):Int)) (.int ((2^r3-1:Nat):Int)) c;obtain⟨q,hq,rfl⟩:∃ q:Nat,q<2^w/\y=.int q:=by
   have l2:2^r2<2^w:=yEs (by decide) h2
   have l3:2^r3<2^w:=yEs (by decide) h3
   rcases hy with rfl | rfl | rfl | rfl
   ·exact⟨0,hp,rfl⟩
   ·exact⟨_,by omega,rfl⟩
   ·exact⟨_,l2,rfl⟩
   ·exact⟨_,by omega,rfl⟩
  refine⟨q,k+3,x3,hq,by omega,?_⟩
  rw[cV rfl (d+2) _ _ rfl];simp only[evs,cQ,aAp,e1,jN (show w<=100000 by omega),eG,aAh,e2,jN (show r2<=100000 by omega),e3,jN (show r3<=100000 by omega),cT,d1,e,h.take]
 ·have d1:decide ((r1:Int)<4)=false:=dqF (by omega)
  obtain⟨r,k',x',hr,hk',e⟩:=aI4 (ns:=ns) (k:=k+3) (x:=x3) (rs:=rs) h d w bZ (by omega)
  refine⟨r,k',x',hr,by omega,?_⟩
  rw[cV rfl (d+2) _ _ rfl];simp only[evs,cQ,aAp,e1,jN (show w<=100000 by omega),eG,aAh,e2,jN (show r2<=100000 by omega),e3,jN (show r3<=100000 by omega),cT,d1,e,h.take]
end
theorem aE4:∀ L:List Nat,yCh (L.map nD)=true
 | []=>rfl
 | a::r=>by
   have ih:=aE4 r;simp only[yAi,yCh,ih,yFn];rfl
theorem aDP:∀ L:List Nat,yCj (L.map nD)=0
 | []=>rfl
 | a::r=>by
   have ih:=aDP r;simp only[yAi,yCj,ih];rfl
theorem aLL(L:List Nat):aZ .NotEq (.list (L.map nD)) (.list [])=qq (.bool (!L.isEmpty)):=by
 have h1:(yEf (L.map nD)).canLay0=true:=aE4 L;have h2:(yEf (L.map nD)).depth<=60:=by
  show yCj (L.map nD)+1<=60;rw[aDP];decide
 unfold aZ iM;simp only[];rw[if_pos ⟨h1,rfl,h2⟩];cases L<;>rfl
theorem iF(r:Rw):bH r.d (.int 1)=qq (.int r.w):=rR (xs:=.str r.wd.s::nD r.w::r.args.map nD) (k:=1) rfl
noncomputable def wdE(a b:Wd):Bool:=match aZ .Eq (.str a.s) (.str b.s) with
 | some (.bool c)=>c==decide (a=b)
 | _=>false
theorem aMK(a b:Wd):wdE a b=true:=by
 have h:∀ i:Fin 19,∀ j:Fin 19,wdE (Wd.ofNat i) (Wd.ofNat j)=true:=by decide +kernel
 have e:∀ a:Wd,∃ i:Fin 19,Wd.ofNat i=a:=λ a=>⟨⟨a.ctorIdx,by cases a<;>decide⟩,Wd.ofNat_ctorIdx a⟩
 obtain⟨i,rfl⟩:=e a;obtain⟨j,rfl⟩:=e b;exact h i j
theorem jU(a b:Wd):aZ .Eq (.str a.s) (.str b.s)=qq (.bool (decide (a=b))):=by
 have h:=aMK a b;unfold wdE at h
 split at h
 ·rename_i c e;rw[e,eq_of_beq h]
 ·cases h
theorem vN(a:Wd):aZ .In (.str a.s) (.tuple [.str "left",.str "right",.str "slide"])=qq (.bool (decide (a=.left\/a=.right\/a=.slide))):=by cases a<;>rfl
theorem aNK(a:Wd):aZ .In (.str a.s) (.tuple [.str "cut",.str "wide",.str "sign"])=qq (.bool (decide (a=.cut\/a=.wide\/a=.sign))):=by cases a<;>rfl
theorem aAQ(a:Wd):aZ .In (.str a.s) (.tuple [.str "same",.str "less",.str "under"])=qq (.bool (decide (a=.same\/a=.less\/a=.under))):=by cases a<;>rfl
theorem cS{C:Calls}{c:E}{t bK:Sx}{env:aS}{S S1:aB}{r:Option (Fl×aB)}(h:tv C c env S=qq (false,S1))(k:xs C bK env S1=r):xs C (.seq (.ifs c t .skip) bK) env S=r:=by
 rw[<- k];simp only[nO,sJ,aEp,cM,nC,nU,h,oB,yAw,if_false]
theorem eO{C:Calls}{c:E}{t e bK:Sx}{env:aS}{S S1 S2:aB}{w:W}(h:tv C c env S=qq (true,S1))(k:xs C t env S1=qq (.rt w,S2)):xs C (.seq (.ifs c t e) bK) env S=qq (.rt w,S2):=by
 simp only[nO,sJ,cM,nC,h,oB,if_true,k]
theorem bT{C:Calls}{e:E}{bK:Sx}{env:aS}{S S1:aB}{w:W}(h:ev C e env S=qq (w,S1)):xs C (.seq (.ret e) bK) env S=qq (.rt w,S1):=by
 simp only[nO,aFD,cM,mR,h,oB]
theorem cH{C:Calls}{i:Nat}{e:E}{bK:Sx}{env aK:aS}{S S1:aB}{w:W}{r:Option (Fl×aB)}(h:ev C e env S=qq (w,S1))(he:env.set i (qq w)=aK)(k:xs C bK aK S1=r):xs C (.seq (.set i e) bK) env S=r:=by
 subst he;rw[<- k];simp only[nO,nM,cM,dJ,h,oB]
theorem dZ{fs:List Fn}{f:Nat}{F:Fn}(h:fs[f]? = qq F)(d:Nat){ws:List W}{env:aS}{S S1:aB}{x:D}(hw:ws.length=F.np)(he:ws.map qq++yAg (F.N.length-ws.length) qz=env)(hS:S1.take S.length=S1)(k:xs (aF fs d) F.body env S=qq (.rt (.d x),S1)):cl fs (d+1) f ws S=qq (.d x,S1):=by
 subst he;rw[cV h d ws S hw];simp only[cQ,k,oB,iO,hS]
theorem jW{C:Calls}{i:Nat}{x:Str}{env:aS}{S:aB}{a:D}{b:Bool}(h:env[i]? = qq (qq (.d a)))(hc:aZ .Eq a (.str x)=qq (.bool b)):tv C (.cmp .Eq (.var i) (.str x)) env S=qq (b,S):=by
 simp only[evs,h,hc]
theorem qA{C:Calls}{i:Nat}{e:E}{env:aS}{S:aB}{a t:D}{b:Bool}(h:env[i]? = qq (qq (.d a)))(he:ev C e env S=qq (.d t,S))(hc:aZ .In a t=qq (.bool b)):tv C (.cmp .In (.var i) e) env S=qq (b,S):=by
 simp only[evs,h,he,hc]
noncomputable def dC:Sx->Sx
 | .seq _ b=>b
 | x=>x
theorem oA{C:Calls}{c:E}{a b:Sx}{env:aS}{S S1:aB}{r:Option (Fl×aB)}(h:tv C c env S=qq (true,S1))(k:xs C a env S1=r):xs C (.ifs c a b) env S=r:=by
 rw[<- k];simp only[sJ,nC,h,oB,if_true]
theorem aGm{C:Calls}{c:E}{a b:Sx}{env:aS}{S S1:aB}{r:Option (Fl×aB)}(h:tv C c env S=qq (false,S1))(k:xs C b env S1=r):xs C (.ifs c a b) env S=r:=by
 rw[<- k];simp only[sJ,nC,h,oB,yAw,if_false]
theorem lD{C:Calls}{a b:Sx}{env e1:aS}{S S1:aB}{r:Option (Fl×aB)}(h:xs C a env S=qq (.nx e1,S1))(k:xs C b e1 S1=r):xs C (.seq a b) env S=r:=by
 rw[jV h];exact k
theorem aA9{C:Calls}{a:Sx}{env e1:aS}{S S1:aB}(h:xs C a env S=qq (.nx e1,S1)):xs C (.seq a .skip) env S=qq (.nx e1,S1):=lD h rfl
theorem lY{C:Calls}{i:Nat}{e:E}{env:aS}{S S1:aB}{w:W}(h:ev C e env S=qq (w,S1)):xs C (.seq (.set i e) .skip) env S=qq (.nx (env.set i (qq w)),S1):=cH h rfl rfl
theorem uF{C:Calls}{s:Sx}{c:E}{a b:Sx}{env r:aS}{S S1:aB}(hs:s=.ifs c a (.seq b .skip))(h:tv C c env S=qq (false,S))(k:xs C b env S=qq (.nx r,S1)):xs C s env S=qq (.nx r,S1):=by
 rw[hs];exact aGm h (aA9 k)
section
variable {S : aB}{n p : Nat}{ns : List Int}{k : Nat}{x : Int}{rs : List Rw}
theorem wE{a:Nat}{r:Rw}(h:rs[a]? = qq r):bH (.list (rs.map Rw.d)) (.int a)=qq r.d:=eA (by rw[xAb,h];rfl)
theorem gD(rs:List Rw):(rs.map Rw.d).length=rs.length:=yAb ..
theorem aEa(h:At S n p)(hl:rs.length<=1000)(r:Rw):eU (aP S n p ns k x rs) (.loc p) (.d r.d)=qq (.d .none,aP S n p ns k x (rs++[r])):=by
 unfold eU;simp only[h.rows];rw[if_pos (by rw[gD,qo];omega),h.putR]
structure Opd(rs bA:List Rw)(a w:Nat):Prop where
 ext:∃ t,bA=rs++t/\t.length<=1
 ok:cW [] bA
 wd:(bA.map (·.w))[a]? = qq w
theorem mL{a:Nat}{r:Rw}(h:rs[a]? = qq r):(rs.map (·.w))[a]? = qq r.w:=by rw[xAb,h];rfl
theorem aFl(h:At S n p)(d a w:Nat)(hr:cW [] rs)(ha:a<rs.length)(hl:rs.length<=100)(hw:1<=w)(bZ:w<=64)(hk:k<=99000) :
 ∃ (a' k':Nat) (x':Int) (bA:List Rw),Opd rs bA a' w/\k'<=k+1/\cl fns (d+2) 16 [.loc n,.loc p,.d (.int a),.d (.int w)] (aP S n p ns k x rs)=qq (.d (.int a'),aP S n p ns k' x' bA):=by
 obtain⟨r,hra⟩:∃ r,rs[a]? = qq r:=⟨rs[a],yAc ha⟩;have ga:=wE hra
 by_cases c:r.w=w
 ·refine⟨a,k,x,rs,⟨⟨[],by simp,by simp⟩,hr,by rw[mL hra,c]⟩,by omega,?_⟩
  rw[cV rfl (d+1) _ _ rfl];simp only[evs,cQ,rK,h.rows,ga,iF,eB,c,beq_self_eq_true,h.take]
 ·have c':(((r.w:Nat):Int)==((w:Nat):Int))=false:=by
   rw[beq_eq_false_iff_ne];intro z;exact c (by exact_mod_cast z)
  obtain⟨q,x',hq,e⟩:=gN (ns:=ns) (k:=k) (x:=x) (rs:=rs) h.toAt0 d 2 (i:=2) rfl (by decide) (by decide) (by omega)
  have bB:∀ wd:Wd,gS ([]++rs.map (·.w)) ⟨wd,w,[a]⟩->Opd rs (rs++[⟨wd,w,[a]⟩]) rs.length w:=λ wd ok=>⟨⟨_,rfl,yAe _⟩,zT hr ok,by simp⟩
  have len1:∀ r:Rw,((rs++[r]).length:Int)-1=((rs.length:Nat):Int):=λ r=>by simp
  have ap:∀ wd:Wd,eU (aP S n p ns (k+1) x' rs) (.loc p) (.d (.tuple [.str wd.s,.int w,.int a]))=qq (.d .none,aP S n p ns (k+1) x' (rs++[⟨wd,w,[a]⟩])):=λ wd=>aEa h (by omega) ⟨wd,w,[a]⟩
  by_cases c2:w<r.w
  ·have d2:decide (((w:Nat):Int)<((r.w:Nat):Int))=true:=dqT (by omega)
   refine⟨rs.length,k+1,x',_,bB .cut ⟨hw,bZ,r.w,by simpa using mL hra,yEj c2⟩,by omega,?_⟩
   have ap':=ap .cut;simp only[Wd.s] at ap';have:q=0\/q=1:=by omega
   rw[cV rfl (d+1) _ _ rfl];rcases this with rfl | rfl
   all_goals simp only[evs,cQ,rK,h.rows,ga,iF,eB,c',e,aBu,aBq,gQ,d2,fX,ap',cA,dF,gD,eG,len1,h.take]
  ·have d2:decide (((w:Nat):Int)<((r.w:Nat):Int))=false:=dqF (by omega)
   have:q=0\/q=1:=by omega
   rcases this with rfl | rfl
   ·refine⟨rs.length,k+1,x',_,bB .wide ⟨hw,bZ,r.w,by simpa using mL hra,yEp c2⟩,by omega,?_⟩
    have ap':=ap .wide;simp only[Wd.s] at ap';rw[cV rfl (d+1) _ _ rfl];simp only[evs,cQ,rK,h.rows,ga,iF,eB,c',e,aBu,gQ,d2,fX,ap',cA,dF,gD,eG,len1,h.take]
   ·refine⟨rs.length,k+1,x',_,bB .sign ⟨hw,bZ,r.w,by simpa using mL hra,yEp c2⟩,by omega,?_⟩
    have ap':=ap .sign;simp only[Wd.s] at ap';rw[cV rfl (d+1) _ _ rfl];simp only[evs,cQ,rK,h.rows,ga,iF,eB,c',e,aBq,gQ,d2,fX,ap',cA,dF,gD,eG,len1,h.take]
end
section
variable {S : aB}{n p : Nat}{ns : List Int}{k : Nat}{x : Int}{rs : List Rw}
theorem aAe:∀ {rs:List Rw}{ws:List Nat}{a:Nat}{r:Rw},cW ws rs->rs[a]? = qq r->1<=r.w/\r.w<=64
 | q::rs,ws,0,r,⟨h1,_⟩,e=>by
   have e':q=r:=by simpa using e
   subst e';exact⟨h1.1,h1.2.1⟩
 | q::rs,ws,a+1,r,⟨_,h2⟩,e=>aAe h2 (by simpa using e)
 | [],_,_,_,_,e=>by simp at e
noncomputable def rN:Sx:=match rD with
 | .seq _ r=>r
 | _=>.skip
theorem rF(h:At S n p)(d w:Nat)(hr:cW [] rs)(h0:0<rs.length)(hl:rs.length<=100)(hw:1<=w)(bZ:w<=64)(hk:k<=98000) :
 ∃ (a k':Nat) (x':Int) (bA:List Rw),Opd rs bA a w/\k'<=k+3/\cl fns (d+3) 17 [.loc n,.loc p,.d (.int w)] (aP S n p ns k x rs)=qq (.d (.int a),aP S n p ns k' x' bA):=by
 have hc:gG (.one 4) (lv (aF fns (d+2)) (.rng1 (.blt .len (.cons (.var 1) .nil)))) (tv (aF fns (d+2)) (.cmp .Eq (.ix (.ix (.var 1) (.var 4)) (.int 1)) (.var 2))) (ev (aF fns (d+2)) (.var 4)) [qq (.loc n),qq (.loc p),qq (.d (.int w)),qz,qz] (aP S n p ns k x rs)
  = qq (((yAx rs.length).filter λ j=>(rs.map (·.w))[j]?==qq w).map nD,aP S n p ns k x rs):=by
  refine aJq nD nD (λ j=>(rs.map (·.w))[j]?==qq w) (yAx rs.length) ?_ (by rw[List.length_range,qo];omega) (λ j hj=>?_)
  ·simp only[wU,pM,pT];refine pC ?_ (by omega)
   simp only[evs,h.rows,cA,dF,gD]
  ·have hj':j<rs.length:=by simpa using hj
   obtain⟨r,hrj⟩:∃ r,rs[j]? = qq r:=⟨rs[j],yAc hj'⟩;have hb:((rs.map (·.w))[j]?==qq w)=(((r.w:Nat):Int)==((w:Nat):Int)):=by
    rw[mL hrj,Bool.eq_iff_iff];simp;omega
   refine⟨_,rfl,λ aG=>?_,λ _ aG=>?_⟩
   ·rw[hb];simp only[evs,clr,yAm,yAz,nD,h.rowsT,wE hrj,iF,eB]
   ·simp only[evs,clr,yAm,yAz,nD]
 generalize hL:(yAx rs.length).filter (λ j=>(rs.map (·.w))[j]?==qq w)=L at hc
 have hmem:∀ a∈L,(rs.map (·.w))[a]? = qq w:=λ a ha=>by
  rw[<- hL] at ha;simpa using (List.mem_filter.mp ha).2
 have bW:L.length<=rs.length:=by
  rw[<- hL];have:=List.length_filter_le (λ j=>(rs.map (·.w))[j]?==qq w) (yAx rs.length)
  simpa using this
 have set:xs (aF fns (d+2)) (.setC false 3 (.comp (.var 4) (.one 4) (.rng1 (.blt .len (.cons (.var 1) .nil))) (.cmp .Eq (.ix (.ix (.var 1) (.var 4)) (.int 1)) (.var 2)))) [qq (.loc n),qq (.loc p),qq (.d (.int w)),qz,qz] (aP S n p ns k x rs)=qq (.nx [qq (.loc n),qq (.loc p),qq (.d (.int w)),qq (.d (.list (L.map nD))),qz],aP S n p ns k x rs):=by
  simp only[aAN,dJ,fQ];show((gG _ _ _ _ _ _).bind _).bind _=_;rw[hc];simp only[evs]
 have eK:∀ R,xs (aF fns (d+2)) rN [qq (.loc n),qq (.loc p),qq (.d (.int w)),qq (.d (.list (L.map nD))),qz] (aP S n p ns k x rs)=R->cl fns (d+3) 17 [.loc n,.loc p,.d (.int w)] (aP S n p ns k x rs)=R.bind λ q=>match q.1 with
  | .rt w=>iO (aP S n p ns k x rs).length q.2 w
  | .nx _=>qq (.d .none,q.2.take (aP S n p ns k x rs).length)
  | _=>qz:=λ R hR=>by
  rw[cV rfl (d+2) _ _ rfl,<- hR];show((cM (xs (aF fns (d+2)) (.setC false 3 (.comp (.var 4) (.one 4) (.rng1 (.blt .len (.cons (.var 1) .nil))) (.cmp .Eq (.ix (.ix (.var 1) (.var 4)) (.int 1)) (.var 2))))) (xs (aF fns (d+2)) rN)) [qq (.loc n),qq (.loc p),qq (.d (.int w)),qz,qz] (aP S n p ns k x rs)).bind _=_;simp only[cM,set,oB]
  all_goals rfl
 rw[eK _ rfl];clear eK set hc;have hr64:rs.length<2^64:=by omega
 have nn:=aLL L;have ll:(L.map nD).length=L.length:=yAb ..;rcases yCd L.isEmpty with hE | hE
 ·rw[hE] at nn;obtain⟨q,x1,hq,e1⟩:=eY (ns:=ns) (k:=k) (x:=x) (rs:=rs) h.toAt0 (d+1) rs.length h0 hr64 (by omega)
  obtain⟨a,k',x',bA,ho,hk',e2⟩:=aFl (ns:=ns) (k:=k+1) (x:=x1) h d q w hr hq hl hw bZ (by omega)
  refine⟨a,k',x',bA,ho,by omega,?_⟩
  simp only[evs,rN,rD,nn,h.rows,cA,dF,gD,e1,e2,h.take]
 ·rw[hE] at nn;have hL0:0<L.length:=by
   cases L with
   | nil=>cases hE
   | cons b r=>simp
  obtain⟨q4,x1,hq4,e1⟩:=gN (ns:=ns) (k:=k) (x:=x) (rs:=rs) h.toAt0 (d+1) 4 (i:=4) rfl (by decide) (by decide) (by omega)
  by_cases c:0<q4
  ·have d1:decide ((0:Int)<(q4:Int))=true:=dqT (by omega)
   obtain⟨q,x2,hq,e2⟩:=eY (ns:=ns) (k:=k+1) (x:=x1) (rs:=rs) h.toAt0 (d+1) L.length hL0 (by omega) (by omega)
   have e3:((L.length:Nat):Int)-1-(q:Int)=((L.length-1-q:Nat):Int):=by omega
   obtain⟨a,ha⟩:∃ a,L[L.length-1-q]? = qq a:=⟨L[L.length-1-q],yAc (by omega)⟩
   have ga:bH (.list (L.map nD)) (.int ((L.length-1-q:Nat):Int))=qq (.int a):=eA (by rw[xAb,ha];rfl)
   refine⟨a,k+2,x2,rs,⟨⟨[],by simp,by simp⟩,hr,hmem a (xAi ha)⟩,by omega,?_⟩
   simp only[evs,rN,rD,nn,e1,gQ,d1,cA,dF,ll,eG,e2,e3,ga,h.take]
  ·have d1:decide ((0:Int)<(q4:Int))=false:=dqF (by omega)
   obtain⟨q,x2,hq,e2⟩:=eY (ns:=ns) (k:=k+1) (x:=x1) (rs:=rs) h.toAt0 (d+1) rs.length h0 hr64 (by omega)
   obtain⟨a,k',x',bA,ho,hk',e3⟩:=aFl (ns:=ns) (k:=k+2) (x:=x2) h d q w hr hq hl hw bZ (by omega)
   refine⟨a,k',x',bA,ho,by omega,?_⟩
   simp only[evs,rN,rD,nn,e1,gQ,d1,h.rows,cA,dF,gD,e2,e3,h.take]
end
section
variable {S : aB}{n p : Nat}{ns : List Int}{k : Nat}{x : Int}{rs : List Rw}
theorem aI3(h:At S n p)(d:Nat)(wd:Wd)(uW:wd=.cut\/wd=.wide\/wd=.sign)(hr:cW [] rs)(h0:0<rs.length)(hl:rs.length<=100)(hk:k<=98000) :
 ∃ (r:Rw) (x':Int),gS (rs.map (·.w)) r/\cl fns (d+2) 18 [.loc n,.loc p,.d (.str wd.s)] (aP S n p ns k x rs)=qq (.d r.d,aP S n p ns (k+2) x' rs):=by
 obtain⟨a,x1,ha,e1⟩:=eY (ns:=ns) (k:=k) (x:=x) (rs:=rs) h.toAt0 d rs.length h0 (by omega) (by omega)
 obtain⟨r,hra⟩:∃ r,rs[a]? = qq r:=⟨rs[a],yAc ha⟩;obtain⟨rB,bZ⟩:=aAe hr hra;have ga:=wE hra;have cw:=jU wd .cut;rw[show Wd.cut.s=("cut" : Str) from rfl] at cw
 have e65:(65:Int)-(r.w:Int)=((65-r.w:Nat):Int):=by omega
 by_cases c:wd=.cut
 ·subst c;obtain⟨q,x2,hq,e2⟩:=eY (ns:=ns) (k:=k+1) (x:=x1) (rs:=rs) h.toAt0 d r.w (by omega) (by omega) (by omega)
  have a1:(1:Int)+(q:Int)=((1+q:Nat):Int):=by omega
  refine⟨⟨.cut,1+q,[a]⟩,x2,⟨by show 1<=1+q;omega,by show 1+q<=64;omega,r.w,mL hra,by show 1+q<=r.w;omega⟩,?_⟩
  rw[cV rfl (d+1) _ _ rfl];simp only[evs,cQ,zH,h.rows,cA,dF,gD,e1,ga,iF,cw,decide_true,e2,dY,a1,h.take];rfl
 ·obtain⟨q,x2,hq,e2⟩:=eY (ns:=ns) (k:=k+1) (x:=x1) (rs:=rs) h.toAt0 d (65-r.w) (by omega) (by omega) (by omega)
  have a1:(r.w:Int)+(q:Int)=((r.w+q:Nat):Int):=by omega
  rw[dqF c] at cw;have ok:gS (rs.map (·.w)) ⟨wd,r.w+q,[a]⟩:=by
   refine⟨by show 1<=r.w+q;omega,by show r.w+q<=64;omega,?_⟩
   rcases uW with rfl | rfl | rfl
   ·exact absurd rfl c
   ·exact⟨r.w,mL hra,by show r.w<=r.w+q;omega⟩
   ·exact⟨r.w,mL hra,by show r.w<=r.w+q;omega⟩
  refine⟨⟨wd,r.w+q,[a]⟩,x2,ok,?_⟩;rw[cV rfl (d+1) _ _ rfl];simp only[evs,cQ,zH,h.rows,cA,dF,gD,e1,ga,iF,cw,eG,e65,e2,dY,a1,h.take];rfl
theorem Opd.len{rs bA:List Rw}{a w:Nat}(o:Opd rs bA a w):rs.length<=bA.length/\bA.length<=rs.length+1:=by
 obtain⟨t,rfl,h⟩:=o.ext;simp;omega
theorem Opd.keep{rs bA:List Rw}{a w b v:Nat}(o:Opd rs bA a w)(h:(rs.map (·.w))[b]? = qq v):(bA.map (·.w))[b]? = qq v:=by
 obtain⟨t,rfl,_⟩:=o.ext;rw[yAr,xAj (gIm h).1];exact h
theorem aJk(h:At S n p)(d w:Nat)(wd:Wd)(uW:wd=.left\/wd=.right\/wd=.slide)(hr:cW [] rs)(h0:0<rs.length)(hl:rs.length<=90)(hw:1<=w)(bZ:w<=64)(hk:k<=97000) :
 ∃ (r:Rw) (k':Nat) (x':Int) (bA:List Rw),cW [] bA/\rs.length<=bA.length/\bA.length<=rs.length+1/\gS (bA.map (·.w)) r/\k'<=k+6/\cl fns (d+4) 19 [.loc n,.loc p,.d (.str wd.s),.d (.int w)] (aP S n p ns k x rs)=qq (.d r.d,aP S n p ns k' x' bA):=by
 obtain⟨q1,x1,h1,e1⟩:=eY (ns:=ns) (k:=k) (x:=x) (rs:=rs) h.toAt0 (d+2) w (by omega) (by omega) (by omega)
 obtain⟨q2,x2,h2,e2⟩:=gN (ns:=ns) (k:=k+1) (x:=x1) (rs:=rs) h.toAt0 (d+2) 64 (i:=64) rfl (by decide) (by decide) (by omega)
 obtain⟨q3,x3,h3,e3⟩:=gN (ns:=ns) (k:=k+2) (x:=x2) (rs:=rs) h.toAt0 (d+2) 4 (i:=4) rfl (by decide) (by decide) (by omega)
 obtain⟨a,k',x',bA,ho,hk',e4⟩:=rF (ns:=ns) (k:=k+3) (x:=x3) h d w hr h0 (by omega) hw bZ (by omega)
 have bB:∀ kk:Nat,kk<64->gS (bA.map (·.w)) ⟨wd,w,[a,kk]⟩:=λ kk hkk=>by
  refine⟨hw,bZ,?_⟩;rcases uW with rfl | rfl | rfl<;>exact⟨ho.wd,hkk⟩
 have hq:(q3:Int)/3=((0:Nat):Int)\/(q3:Int)/3=((1:Nat):Int):=by omega
 rcases hq with hq | hq
 ·refine⟨⟨wd,w,[a,q1]⟩,k',x',bA,ho.ok,ho.len.1,ho.len.2,bB q1 (by omega),by omega,?_⟩
  rw[cV rfl (d+3) _ _ rfl];simp only[evs,cQ,zU,e1,e2,e3,lX (i:=(q3:Int)) (j:=3) (by decide) (by decide),hq,aBu,e4,h.take]
  rfl
 ·refine⟨⟨wd,w,[a,q2]⟩,k',x',bA,ho.ok,ho.len.1,ho.len.2,bB q2 (by omega),by omega,?_⟩
  rw[cV rfl (d+3) _ _ rfl];simp only[evs,cQ,zU,e1,e2,e3,lX (i:=(q3:Int)) (j:=3) (by decide) (by decide),hq,aBq,e4,h.take]
  rfl
noncomputable def sO(wd:Wd)(w:Nat):Nat:=if (wd=.same\/wd=.less\/wd=.under) then 1 else w
theorem aEN(h:At S n p)(d w:Nat)(wd:Wd)(hr:cW [] rs)(h0:0<rs.length)(hl:rs.length<=90)(hw:1<=w)(bZ:w<=64)(hk:k<=97000) :
 ∃ (a b k':Nat) (x':Int) (bA:List Rw),cW [] bA/\(∃ t,bA=rs++t/\t.length<=2)/\(bA.map (·.w))[a]? = qq w/\(bA.map (·.w))[b]? = qq w/\k'<=k+6 /\
  cl fns (d+4) 20 [.loc n,.loc p,.d (.str wd.s),.d (.int w)] (aP S n p ns k x rs)=qq (.d (.tuple [.str wd.s,.int (sO wd w:Nat),.int a,.int b]),aP S n p ns k' x' bA):=by
 obtain⟨a,k1,x1,rs1,o1,hk1,e1⟩:=rF (ns:=ns) (k:=k) (x:=x) h d w hr h0 (by omega) hw bZ (by omega)
 have l1:=o1.len;obtain⟨b,k2,x2,rs2,o2,hk2,e2⟩:=rF (ns:=ns) (k:=k1) (x:=x1) h d w o1.ok (by omega) (by omega) hw bZ (by omega)
 refine⟨a,b,k2,x2,rs2,o2.ok,?_,o2.keep o1.wd,o2.wd,by omega,?_⟩
 ·obtain⟨t1,rfl,ht1⟩:=o1.ext;obtain⟨t2,rfl,ht2⟩:=o2.ext;exact⟨t1++t2,by simp,by simp;omega⟩
 ·rw[cV rfl (d+3) _ _ rfl]
  by_cases c:wd=.same\/wd=.less\/wd=.under
  ·have is:=aAQ wd;rw[dqT c] at is;have pw:sO wd w=1:=if_pos c;simp only[evs,cQ,aAd,e1,e2,is,pw,h.take];rfl
  ·have is:=aAQ wd;rw[dqF c] at is;have pw:sO wd w=w:=if_neg c;simp only[evs,cQ,aAd,e1,e2,is,pw,h.take]
end
noncomputable def cZ(k:Nat):Sx:=match iV with
 | .seq a1 (.seq a2 (.seq a3 (.seq a4 (.seq a5 (.seq a6 (.seq a7 _))))))=>[a1,a2,a3,a4,a5,a6,a7].getD k .skip
 | _=>.skip
theorem aIT:iV=.seq (cZ 0) (.seq (cZ 1) (.seq (cZ 2) (.seq (cZ 3) (.seq (cZ 4) (.seq (cZ 5) (.seq (cZ 6) .skip)))))):=rfl
theorem aOs(a b c e f:D):bL .Add (.tuple [a,b,c]) (.tuple [e,f])=qq (.tuple [a,b,c,e,f]):=by
 show(if [a,b,c].isEmpty=false/\[a,b,c].length+[e,f].length<=qk then qq (yBp ([a,b,c]++[e,f])) else qz)=_
 rw[if_pos ⟨rfl,by rw[qo];show 3+2<=16777216;decide⟩]
 rfl
theorem aO3(a b c e:D):cC [a,b,c,e] (qq 2) qz=[c,e]:=rfl
theorem aOS:(HT.sIx 4 0 (qq 2)=0/\HT.sIx 4 4 qz=4)=False:=by simp[HT.sIx]
section
variable {S : aB}{n p : Nat}{ns : List Int}{k : Nat}{x : Int}{rs : List Rw}
theorem aKl(h:At S n p)(d w:Nat)(wd:Wd)(l2 e5 e6:Option W)(hr:cW [] rs)(h0:0<rs.length)(hl:rs.length<=80)(hw:1<=w)(bZ:w<=64)(hk:k<=96000) :
 ∃ (r:Rw) (k':Nat) (x':Int) (bA:List Rw) (e6':Option W),cW [] bA/\rs.length<=bA.length/\bA.length<=rs.length+3/\gS (bA.map (·.w)) r/\k'<=k+12 /\
  xs (aF fns (d+4)) (cZ 5) [qq (.loc n),qq (.loc p),l2,qq (.d (.str wd.s)),qq (.d (.int w)),e5,e6] (aP S n p ns k x rs)=qq (.nx [qq (.loc n),qq (.loc p),l2,qq (.d (.str wd.s)),qq (.d (.int w)),qq (.d r.d),e6'],aP S n p ns k' x' bA):=by
 have c1:aZ .Eq (.str wd.s) (.str "in")=qq (.bool (decide (wd=.in))):=jU wd .in
 by_cases k1:wd=.in
 ·subst k1;refine⟨⟨.in,w,[]⟩,k,x,rs,e6,hr,by omega,by omega,⟨hw,bZ,True.intro⟩,by omega,?_⟩
  exact oA (jW rfl c1) (lY rfl)
 rw[dqF k1] at c1;have q1:=λ {r S1}=>uF (C:=aF fns (d+4)) (s:=cZ 5) (env:=[qq (.loc n),qq (.loc p),l2,qq (.d (.str wd.s)),qq (.d (.int w)),e5,e6]) (S:=aP S n p ns k x rs) (r:=r) (S1:=S1) rfl (jW rfl c1)
 clear c1;have c2:aZ .Eq (.str wd.s) (.str "num")=qq (.bool (decide (wd=.num))):=jU wd .num
 by_cases k2:wd=.num
 ·subst k2;obtain⟨q,k',x',hq,hk',e⟩:=aMR (ns:=ns) (k:=k) (x:=x) (rs:=rs) h.toAt0 (d+1) w hw bZ (by omega)
  refine⟨⟨.num,w,[q]⟩,k',x',rs,e6,hr,by omega,by omega,⟨hw,bZ,hq⟩,by omega,q1 (oA (jW rfl c2) (lY ?_))⟩
  simp only[evs,e];rfl
 rw[dqF k2] at c2;have q2:=λ {r S1} h=>q1 (uF (r:=r) (S1:=S1) rfl (jW rfl c2) h)
 clear c2;have c3:aZ .Eq (.str wd.s) (.str "not")=qq (.bool (decide (wd=.not))):=jU wd .not
 by_cases k3:wd=.not
 ·subst k3;obtain⟨a,k',x',bA,o,hk',e⟩:=rF (ns:=ns) (k:=k) (x:=x) h (d+1) w hr h0 (by omega) hw bZ (by omega)
  have l:=o.len;refine⟨⟨.not,w,[a]⟩,k',x',bA,e6,o.ok,by omega,by omega,⟨hw,bZ,o.wd⟩,by omega,q2 (oA (jW rfl c3) (lY ?_))⟩
  simp only[evs,e];rfl
 rw[dqF k3] at c3;have q3:=λ {r S1} h=>q2 (uF (r:=r) (S1:=S1) rfl (jW rfl c3) h)
 clear c3;have c4:=vN wd
 by_cases k4:wd=.left\/wd=.right\/wd=.slide
 ·rw[dqT k4] at c4;obtain⟨r,k',x',bA,ok,l1,l2,okr,hk',e⟩:=aJk (ns:=ns) (k:=k) (x:=x) h d w wd k4 hr h0 (by omega) hw bZ (by omega)
  refine⟨r,k',x',bA,e6,ok,by omega,by omega,okr,by omega,q3 (oA (qA rfl rfl c4) (lY ?_))⟩
  simp only[evs,e]
 rw[dqF k4] at c4;have q4:=λ {r S1} h=>q3 (uF (r:=r) (S1:=S1) rfl (qA rfl rfl c4) h)
 clear c4;have c5:=aNK wd
 by_cases k5:wd=.cut\/wd=.wide\/wd=.sign
 ·rw[dqT k5] at c5;obtain⟨r,x',okr,e⟩:=aI3 (ns:=ns) (k:=k) (x:=x) h (d+2) wd k5 hr h0 (by omega) (by omega)
  refine⟨r,k+2,x',rs,e6,hr,by omega,by omega,okr,by omega,q4 (oA (qA rfl rfl c5) (lY ?_))⟩
  simp only[evs,e]
 rw[dqF k5] at c5;have q5:=λ {r S1} h=>q4 (uF (r:=r) (S1:=S1) rfl (qA rfl rfl c5) h)
 clear c5;have c6:aZ .Eq (.str wd.s) (.str "pick")=qq (.bool (decide (wd=.pick))):=jU wd .pick
 by_cases k6:wd=.pick
 ·subst k6;obtain⟨c,k1',x1,rs1,o1,hk1,e1⟩:=rF (ns:=ns) (k:=k) (x:=x) h (d+1) 1 hr h0 (by omega) (by decide) (by decide) (by omega)
  have l1:=o1.len;obtain⟨a,b,k',x',bA,ok,⟨t,rfl,ht⟩,wa,wb,hk',e2⟩:=aEN (ns:=ns) (k:=k1') (x:=x1) h d w .pick o1.ok (by omega) (by omega) hw bZ (by omega)
  have wc:((rs1++t).map (·.w))[c]? = qq 1:=by
   rw[yAr,xAj (gIm o1.wd).1];exact o1.wd
  rw[show((1:Nat):Int)=1 from rfl] at e1
  refine⟨⟨.pick,w,[c,a,b]⟩,k',x',rs1++t,qq (.d (.int c)),ok,by simp;omega,by simp;omega,⟨hw,bZ,wc,wa,wb⟩,by omega,q5 (oA (jW rfl c6) (cH (S1:=aP S n p ns k1' x1 rs1) (w:=.d (.int c)) ?_ rfl (lY ?_)))⟩
  ·simp only[evs,e1]
  ·simp only[evs,e2,dL,cY,dS,aOS,aO3,aOs];rfl
 rw[dqF k6] at c6;obtain⟨a,b,k',x',bA,ok,⟨t,rfl,ht⟩,wa,wb,hk',e2⟩:=aEN (ns:=ns) (k:=k) (x:=x) h d w wd hr h0 (by omega) hw bZ (by omega)
 have okr:gS ((rs++t).map (·.w)) ⟨wd,sO wd w,[a,b]⟩:=by
  clear q1 q2 q3 q4 q5 c6 e2;cases wd
  all_goals first | exact⟨hw,bZ,wa,wb⟩ | exact⟨yAe 1,oqT rfl,rfl,w,wa,wb⟩ | exact absurd rfl k1 | exact absurd rfl k2 | exact absurd rfl k3 | exact absurd rfl k6 | exact absurd (.inl rfl) k4 | exact absurd (.inr (.inl rfl)) k4 | exact absurd (.inr (.inr rfl)) k4 | exact absurd (.inl rfl) k5 | exact absurd (.inr (.inl rfl)) k5 | exact absurd (.inr (.inr rfl)) k5
 refine⟨⟨wd,sO wd w,[a,b]⟩,k',x',rs++t,e6,ok,by simp,by simp;omega,okr,by omega,q5 (aGm (jW rfl c6) (lY ?_))⟩
 simp only[evs,e2];rfl
end
noncomputable def yV:List Wd:=[.in,.num,.num,.not,.and,.or,.xor,.add,.sub,.mul,.left,.right,.slide,.cut,.wide,.sign,.same,.less,.under,.pick]
noncomputable def jH:D:=.list (yV.map λ w=>yAa w.s)
section
variable {S : aB}{n p : Nat}{ns : List Int}{k : Nat}{x : Int}{rs : List Rw}
theorem aMT(h:At S n p)(d:Nat)(hr:cW [] rs)(h0:0<rs.length)(hl:rs.length<=80)(hk:k<=95000) :
 ∃ (k':Nat) (x':Int) (bA:List Rw),cW [] bA/\rs.length<=bA.length/\bA.length<=rs.length+4/\k'<=k+20/\cl fns (d+5) 21 [.loc n,.loc p] (aP S n p ns k x rs)=qq (.d .none,aP S n p ns k' x' bA):=by
 have s01:xs (aF fns (d+4)) (.seq (cZ 0) (cZ 1)) [qq (.loc n),qq (.loc p),qz,qz,qz,qz,qz] (aP S n p ns k x rs)=qq (.nx [qq (.loc n),qq (.loc p),qq (.d jH),qz,qz,qz,qz],aP S n p ns k x rs):=by
  simp only[evs,cZ,iV,yBd,yBe];rw[jR (by simp)]
  simp only[evs];rfl
 obtain⟨q1,x1,h1,e1⟩:=gN (ns:=ns) (k:=k) (x:=x) (rs:=rs) h.toAt0 (d+3) 20 (i:=20) rfl (by decide) (by decide) (by omega)
 obtain⟨wd,uW⟩:∃ wd,yV[q1]? = qq wd:=⟨yV[q1],yAc (by simpa [yV] using h1)⟩
 have gw:bH jH (.int q1)=qq (.str wd.s):=eA (by rw[xAb,uW];rfl)
 have s2:xs (aF fns (d+4)) (cZ 2) [qq (.loc n),qq (.loc p),qq (.d jH),qz,qz,qz,qz] (aP S n p ns k x rs)=qq (.nx [qq (.loc n),qq (.loc p),qq (.d jH),qq (.d (.str wd.s)),qz,qz,qz],aP S n p ns (k+1) x1 rs):=by
  simp only[evs,cZ,iV,yBd,yBe,e1,gw]
 obtain⟨a,x2,ha,e2⟩:=eY (ns:=ns) (k:=k+1) (x:=x1) (rs:=rs) h.toAt0 (d+3) rs.length h0 (by omega) (by omega)
 obtain⟨r,hra⟩:∃ r,rs[a]? = qq r:=⟨rs[a],yAc ha⟩;obtain⟨rB,bZ⟩:=aAe hr hra;have s3:xs (aF fns (d+4)) (cZ 3) [qq (.loc n),qq (.loc p),qq (.d jH),qq (.d (.str wd.s)),qz,qz,qz] (aP S n p ns (k+1) x1 rs)=qq (.nx [qq (.loc n),qq (.loc p),qq (.d jH),qq (.d (.str wd.s)),qq (.d (.int r.w)),qz,qz],aP S n p ns (k+2) x2 rs):=by
  simp only[evs,cZ,iV,yBd,yBe,h.rows,cA,dF,gD,e2,wE hra,iF]
 obtain⟨q3,x3,h3,e3⟩:=gN (ns:=ns) (k:=k+2) (x:=x2) (rs:=rs) h.toAt0 (d+3) 4 (i:=4) rfl (by decide) (by decide) (by omega)
 obtain⟨w,k4,x4,hw3,hw4,hk4,s4⟩:∃ (w k4:Nat) (x4:Int),1<=w/\w<=64/\k4<=k+6/\xs (aF fns (d+4)) (cZ 4) [qq (.loc n),qq (.loc p),qq (.d jH),qq (.d (.str wd.s)),qq (.d (.int r.w)),qz,qz] (aP S n p ns (k+2) x2 rs)=qq (.nx [qq (.loc n),qq (.loc p),qq (.d jH),qq (.d (.str wd.s)),qq (.d (.int w)),qz,qz],aP S n p ns k4 x4 rs):=by
  rcases yCd ((q3:Int)==1) with c | c
  ·obtain⟨w,x4,g1,g2,e4⟩:=aDy (ns:=ns) (k:=k+3) (x:=x3) (rs:=rs) h.toAt0 (d+2) (by omega)
   refine⟨w,k+6,x4,g1,g2,by omega,?_⟩
   simp only[evs,cZ,iV,yBd,yBe,e3,eB,c,e4]
  ·refine⟨r.w,k+3,x3,rB,bZ,by omega,?_⟩
   simp only[evs,cZ,iV,yBd,yBe,e3,eB,c]
 obtain⟨rr,k',x',bA,e6',ok,l1,l2,okr,hk',s5⟩:=aKl (ns:=ns) (k:=k4) (x:=x4) h d w wd (qq (.d jH)) qz qz hr h0 hl hw3 hw4 (by omega)
 refine⟨k',x',bA++[rr],zT ok (by simpa using okr),by simp;omega,by simp;omega,by omega,?_⟩
 rw[cV rfl (d+4) _ _ rfl];have full:xs (aF fns (d+4)) iV [qq (.loc n),qq (.loc p),qz,qz,qz,qz,qz] (aP S n p ns k x rs)=qq (.nx [qq (.loc n),qq (.loc p),qq (.d jH),qq (.d (.str wd.s)),qq (.d (.int w)),qq (.d rr.d),e6'],aP S n p ns k' x' (bA++[rr])):=by
  have s01':∀ r:Sx,xs (aF fns (d+4)) (.seq (cZ 0) (.seq (cZ 1) r)) [qq (.loc n),qq (.loc p),qz,qz,qz,qz,qz] (aP S n p ns k x rs)=xs (aF fns (d+4)) r [qq (.loc n),qq (.loc p),qq (.d jH),qz,qz,qz,qz] (aP S n p ns k x rs):=λ r=>by
   simp only[nO,cM] at s01 ⊢;cases q:xs (aF fns (d+4)) (cZ 0) [qq (.loc n),qq (.loc p),qz,qz,qz,qz,qz] (aP S n p ns k x rs) with
   | none=>rw[q] at s01;cases s01
   | some z =>
     obtain⟨fl,S1⟩:=z;rw[q] at s01;cases fl with
     | nx e =>
       simp only[oB] at s01 ⊢;rw[s01];simp only[oB]
     | rt w=>cases s01
     | bk e=>cases s01
     | ct e=>cases s01
  rw[aIT,s01',jV s2,jV s3,jV s4,jV s5];simp only[evs,cZ,iV,yBd,yBe,fX,aEa h (show bA.length<=1000 by omega)]
 show((xs (aF fns (d+4)) iV [qq (.loc n),qq (.loc p),qz,qz,qz,qz,qz] (aP S n p ns k x rs)).bind _)=_;rw[full];simp only[oB,h.take]
end
noncomputable def fU(k:Nat):Sx:=match kO with
 | .seq a1 (.seq a2 (.seq a3 (.seq a4 (.seq a5 (.seq a6 _)))))=>[a1,a2,a3,a4,a5,a6].getD k .skip
 | _=>.skip
theorem aH5:kO=.seq (fU 0) (.seq (fU 1) (.seq (fU 2) (.seq (fU 3) (.seq (fU 4) (.seq (fU 5) .skip))))):=rfl
theorem aGN(ns:List Int)(k:Nat)(x:Int)(rs:List Rw)(o:List D):aP [qz,qz,qq o] 0 1 ns k x rs=[qq (cR ns k x),qq (rs.map Rw.d),qq o]:=rfl
theorem qM:At [qz,qz] 0 1:=⟨⟨by decide,by decide⟩,by decide⟩
theorem uQ(o:List D):At [qz,qz,qq o] 0 1:=⟨⟨by show 0<3;decide,by decide⟩,by show 1<3;decide⟩
theorem aH9(d most:Nat)(ns:List Int)(hm:most<=30)(kk:Nat)(xx:Int)(hkk:kk<=40000):∃ (rs:List Rw) (aD:List Nat) (k:Nat) (x:Int),cW [] rs/\0<rs.length/\rs.length<=40/\(∀ o∈aD,o<rs.length)/\0<aD.length/\aD.length<=8/\k<=kk+1000 /\
 cl fns (d+6) 22 [.loc 0,.d (.int most)] [qq (cR ns kk xx)]=qq (.d (.tuple [.tuple (rs.map Rw.d),.tuple (aD.map nD)]),[qq (cR ns k x)]):=by
 obtain⟨w,x0,rB,bZ,e0⟩:=aDy (ns:=ns) (k:=kk) (x:=xx) (rs:=[]) at1 (d+3) (by omega)
 rw[aGD,aGD] at e0;have p0:xs (aF fns (d+5)) (fU 0) [qq (.loc 0),qq (.d (.int most)),qz,qz,qz,qz] [qq (cR ns kk xx)]=qq (.nx [qq (.loc 0),qq (.d (.int most)),qq (.loc 1),qz,qz,qz],aP [qz,qz] 0 1 ns (kk+3) x0 [⟨.in,w,[]⟩]):=by
  simp only[evs,fU,kO,yBd,yBe,fG,e0];rfl
 obtain⟨env1,S1,p1,a3,rs,k1,x1,ok1,l0,l1,hk1,rfl,rfl⟩:=aA6 (t:=.one 3) (fi:=lv (aF fns (d+5)) uZ) (fb:=xs (aF fns (d+5)) vC) (env:=[qq (.loc 0),qq (.d (.int most)),qq (.loc 1),qz,qz,qz]) (S:=aP [qz,qz] 0 1 ns (kk+3) x0 [⟨.in,w,[]⟩])
  (λ j env S=>∃ (a3:Option W) (rs:List Rw) (k:Nat) (x:Int),cW [] rs/\0<rs.length/\rs.length<=40/\k<=kk+3+20*j/\env=[qq (.loc 0),qq (.d (.int most)),qq (.loc 1),a3,qz,qz]/\S=aP [qz,qz] 0 1 ns k x rs)
  (show lv (aF fns (d+5)) uZ _ _=qq ((yAx most).map (λ k=>yAl (k:Nat)),_) by
    simp only[uZ,wU,pM,pT];exact pC (by simp only[evs]) (by omega))
  ⟨qz,[⟨.in,w,[]⟩],kk+3,x0,⟨⟨rB,bZ,True.intro⟩,True.intro⟩,by simp,by simp,by omega,rfl,rfl⟩ (by
   rintro j dd env S hj ⟨a3,rs,k,x,ok,l0,l1,hk,rfl,rfl⟩;have hj':j<most:=by simpa using hj
   refine⟨[qq (.loc 0),qq (.d (.int most)),qq (.loc 1),qq (.d dd),qz,qz],[qq (.loc 0),qq (.d (.int most)),qq (.loc 1),qq (.d dd),qz,qz],?_⟩
   by_cases c:rs.length<37
   ·have d1:decide (((rs.length:Nat):Int)<37)=true:=dqT (by omega)
    obtain⟨k',x',bA,ok',g1,g2,hk',e⟩:=aMT (ns:=ns) (k:=k) (x:=x) qM d ok l0 (by omega) (by omega)
    refine⟨_,rfl,?_,qq (.d dd),bA,k',x',ok',by omega,by omega,by omega,rfl,rfl⟩
    simp only[evs,vC,qM.rows,cA,dF,gD,cT,d1,e]
   ·have d1:decide (((rs.length:Nat):Int)<37)=false:=dqF (by omega)
    refine⟨_,rfl,?_,qq (.d dd),rs,k,x,ok,l0,l1,by omega,rfl,rfl⟩
    simp only[evs,vC,qM.rows,cA,dF,gD,cT,d1])
 have hk2:k1<=kk+700:=by simp at hk1;omega
 obtain⟨q,x2,hq,e2⟩:=eY (ns:=ns) (k:=k1) (x:=x1) (rs:=rs) qM.toAt0 (d+4) rs.length l0 (by omega) (by omega)
 have len1:((rs.length:Nat):Int)-1=((rs.length-1:Nat):Int):=by omega
 have p2:xs (aF fns (d+5)) (fU 2) [qq (.loc 0),qq (.d (.int most)),qq (.loc 1),a3,qz,qz] (aP [qz,qz] 0 1 ns k1 x1 rs)=qq (.nx [qq (.loc 0),qq (.d (.int most)),qq (.loc 1),a3,qq (.d (.list [.int ((rs.length-1:Nat):Int),.int q])),qz],aP [qz,qz] 0 1 ns (k1+1) x2 rs):=by
  simp only[evs,fU,kO,yBd,yBe,qM.rows,cA,dF,gD,eG,len1,e2]
 obtain⟨q3,x3,hq3,e3⟩:=gN (ns:=ns) (k:=k1+1) (x:=x2) (rs:=rs) qM.toAt0 (d+4) 4 (i:=4) rfl (by decide) (by decide) (by omega)
 obtain⟨b3,hb3,eb3⟩:=b2i ((q3:Int)==1);obtain⟨y,hy,ey⟩:=at2 (.int ((rs.length-1:Nat):Int)) (.int q) hb3;obtain⟨o1,ho1,rfl⟩:∃ o:Nat,o<rs.length/\y=.int o:=by
  rcases hy with rfl | rfl
  ·exact⟨_,by omega,rfl⟩
  ·exact⟨_,hq,rfl⟩
 have p3:xs (aF fns (d+5)) (fU 3) [qq (.loc 0),qq (.d (.int most)),qq (.loc 1),a3,qq (.d (.list [.int ((rs.length-1:Nat):Int),.int q])),qz] (aP [qz,qz] 0 1 ns (k1+1) x2 rs)=qq (.nx [qq (.loc 0),qq (.d (.int most)),qq (.loc 1),a3,qq (.d (.list [.int ((rs.length-1:Nat):Int),.int q])),qq (.loc 2)],aP [qz,qz,qq ([o1].map nD)] 0 1 ns (k1+2) x3 rs):=by
  simp only[evs,fU,kO,yBd,yBe,fG,e3,eB,aFh,aEZ,eb3,ey];rfl
 obtain⟨q4,x4,hq4,e4⟩:=gN (ns:=ns) (k:=k1+2) (x:=x3) (rs:=rs) (uQ ([o1].map nD)).toAt0 (d+4) 3 (i:=3) rfl (by decide) (by decide) (by omega)
 obtain⟨q5,x5,hq5,e5⟩:=gN (ns:=ns) (k:=k1+3) (x:=x4) (rs:=rs) (uQ ([o1].map nD)).toAt0 (d+4) 8 (i:=8) rfl (by decide) (by decide) (by omega)
 obtain⟨b5,hb5,eb5⟩:=b2i ((q5:Int)==1);obtain⟨z,hz,ez⟩:=at2 (.int q4) (.int 7) hb5;obtain⟨m,hm7,rfl⟩:∃ m:Nat,m<=7/\z=.int m:=by
  rcases hz with rfl | rfl
  ·exact⟨_,by omega,rfl⟩
  ·exact⟨7,by decide,rfl⟩
 obtain⟨env2,S2,p4,a3',aD,k6,x6,ho,ol,hk6,rfl,rfl⟩:=aA6 (t:=.one 3) (fi:=lv (aF fns (d+5)) zK) (fb:=xs (aF fns (d+5)) zJ) (env:=[qq (.loc 0),qq (.d (.int most)),qq (.loc 1),a3,qq (.d (.list [.int ((rs.length-1:Nat):Int),.int q])),qq (.loc 2)]) (S:=aP [qz,qz,qq ([o1].map nD)] 0 1 ns (k1+2) x3 rs) (S1:=aP [qz,qz,qq ([o1].map nD)] 0 1 ns (k1+4) x5 rs) (ds:=(yAx m).map (λ k=>yAl (k:Nat)))
  (λ j env S=>∃ (a3:Option W) (aD:List Nat) (k:Nat) (x:Int),(∀ o∈aD,o<rs.length)/\aD.length=j+1/\k<=k1+4+j/\env=[qq (.loc 0),qq (.d (.int most)),qq (.loc 1),a3,qq (.d (.list [.int ((rs.length-1:Nat):Int),.int q])),qq (.loc 2)]/\S=aP [qz,qz,qq (aD.map nD)] 0 1 ns k x rs)
  (by
    simp only[zK,wU,pM,pT];refine pC ?_ (by omega)
    simp only[yAi,yCg] at e4 e5;simp only[evs,e4,e5,eB,aFh,aEZ,eb5,ez])
  ⟨a3,[o1],k1+4,x5,by simpa using ho1,rfl,by omega,rfl,rfl⟩ (by
   rintro j dd env S hj ⟨a3,aD,k,x,ho,ol,hk,rfl,rfl⟩;have hj':j<m:=by simpa using hj
   obtain⟨q6,x6,hq6,e6⟩:=eY (ns:=ns) (k:=k) (x:=x) (rs:=rs) (uQ (aD.map nD)).toAt0 (d+4) rs.length l0 (by omega) (by omega)
   refine⟨[qq (.loc 0),qq (.d (.int most)),qq (.loc 1),qq (.d dd),qq (.d (.list [.int ((rs.length-1:Nat):Int),.int q])),qq (.loc 2)],[qq (.loc 0),qq (.d (.int most)),qq (.loc 1),qq (.d dd),qq (.d (.list [.int ((rs.length-1:Nat):Int),.int q])),qq (.loc 2)],aP [qz,qz,qq ((aD++[q6]).map nD)] 0 1 ns (k+1) x6 rs,rfl,?_,qq (.d dd),aD++[q6],k+1,x6,?_,by simp;omega,by omega,rfl,rfl⟩
   ·have ap:eU (aP [qz,qz,qq (aD.map nD)] 0 1 ns (k+1) x6 rs) (.loc 2) (.d (.int q6))=qq (.d .none,aP [qz,qz,qq ((aD++[q6]).map nD)] 0 1 ns (k+1) x6 rs):=by
     rw[aGN,aGN];unfold eU;simp only[yDy,yBr];rw[if_pos (by rw[yAb,qo];omega),yAr]
     rfl
    simp only[evs,zJ,(uQ (aD.map nD)).rows,cA,dF,gD,e6,fX,ap]
   ·intro o h;rcases List.mem_append.mp h with z | z
    ·exact ho o z
    ·rw[List.mem_singleton.mp z];exact hq6)
 have ol':aD.length=m+1:=by simpa using ol
 have hk7:k6<=k1+4+m:=by simpa using hk6
 refine⟨rs,aD,k6,x6,ok1,l0,l1,ho,by omega,by omega,by omega,?_⟩
 rw[cV rfl (d+5) _ _ rfl];have full:xs (aF fns (d+5)) kO [qq (.loc 0),qq (.d (.int most)),qz,qz,qz,qz] [qq (cR ns kk xx)]=qq (.rt (.d (.tuple [.tuple (rs.map Rw.d),.tuple (aD.map nD)])),aP [qz,qz,qq (aD.map nD)] 0 1 ns k6 x6 rs):=by
  have p1':xs (aF fns (d+5)) (fU 1) [qq (.loc 0),qq (.d (.int most)),qq (.loc 1),qz,qz,qz] (aP [qz,qz] 0 1 ns (kk+3) x0 [⟨.in,w,[]⟩])=qq (.nx [qq (.loc 0),qq (.d (.int most)),qq (.loc 1),a3,qz,qz],aP [qz,qz] 0 1 ns k1 x1 rs):=p1;have p4':xs (aF fns (d+5)) (fU 4) [qq (.loc 0),qq (.d (.int most)),qq (.loc 1),a3,qq (.d (.list [.int ((rs.length-1:Nat):Int),.int q])),qq (.loc 2)] (aP [qz,qz,qq ([o1].map nD)] 0 1 ns (k1+2) x3 rs)=qq (.nx [qq (.loc 0),qq (.d (.int most)),qq (.loc 1),a3',qq (.d (.list [.int ((rs.length-1:Nat):Int),.int q])),qq (.loc 2)],aP [qz,qz,qq (aD.map nD)] 0 1 ns k6 x6 rs):=p4;rw[aH5,jV p0,jV p1',jV p2,jV p3,jV p4'];have g2:(aP [qz,qz,qq (aD.map nD)] 0 1 ns k6 x6 rs)[2]? = qq (qq (aD.map nD)):=rfl;simp only[evs,fU,kO,yBd,yBe,(uQ (aD.map nD)).rows,g2,sB,sG]
 show((xs (aF fns (d+5)) kO [qq (.loc 0),qq (.d (.int most)),qz,qz,qz,qz] [qq (cR ns kk xx)]).bind _)=_;rw[full];simp only[oB,iO];rfl
noncomputable def hV:Wd->Nat
 | .in | .num=>0
 | .not | .left | .right | .slide | .cut | .wide | .sign=>1
 | .pick=>3
 | _=>2
theorem aEL(wd:Wd):xL jL (.str wd.s)=qq (.int (hV wd:Nat)):=by cases wd<;>kernel_rfl
theorem aBo(r:Rw):bH r.d (.int 0)=qq (.str r.wd.s):=rR (xs:=.str r.wd.s::nD r.w::r.args.map nD) (k:=0) rfl
theorem aLj{fa:FE}{fl fh:FO}{env:aS}{S:aB}(r:Rw)(c:Nat)(h1:fa env S=qq (.d r.d,S))(h2:fl env S=qq (qq 2,S))(h3:fh env S=qq (qq ((2+c:Nat):Int),S)):dL fa fl fh env S=qq (.d (.tuple ((r.args.take c).map nD)),S):=by
 have i2:HT.sIx (yAa r.wd.s::nD r.w::r.args.map nD).length 0 (qq 2)=2:=by
  rw[show(2:Int)=((2:Nat):Int) from rfl,HT.sIx_nat]
  simp
 have e:cC (yAa r.wd.s::nD r.w::r.args.map nD) (qq 2) (qq ((2+c:Nat):Int))=(r.args.take c).map nD:=by
  unfold cC;rw[i2,HT.sIx_nat];simp only[List.drop_succ_cons,yCw,yBg,yAb];rw[List.map_take];rcases Nat.le_total c r.args.length with z | z
  ·rw[yFa (by omega),show 2+c-2=c by omega]
  ·rw[yFq (by omega),yBn (by simp),yBn (by simpa using z)]
 unfold dL;rw[h1,oB];simp only[];rw[h2,oB];simp only[];rw[h3,oB];simp only[dr,oB,Rw.d];rw[e]
theorem aCI(d:Nat)(r:Rw)(S:aB):cl fns (d+1) 3 [.d r.d] S=qq (.d (.tuple ((r.args.take (hV r.wd)).map nD)),S):=by
 have e2:(2:Int)+((hV r.wd:Nat):Int)=((2+hV r.wd:Nat):Int):=by omega
 have sl:ev (aF fns d) (.sl (.var 0) (.cons (.int 2) .nil) (.cons (.bin .Add (.int 2) (.tab "OPERAND_COUNTS" jL (.ix (.var 0) (.int 0)))) .nil)) [qq (.d r.d)] S=qq (.d (.tuple ((r.args.take (hV r.wd)).map nD)),S):=by
  simp only[aFK];refine aLj r (hV r.wd) (by simp only[evs]) (by simp only[evs,cY]) ?_
  simp only[evs,cY,aBo,aEL,dY,e2]
 rw[cV rfl d _ S rfl];show((cM (mR (ev (aF fns d) (.sl (.var 0) (.cons (.int 2) .nil) (.cons (.bin .Add (.int 2) (.tab "OPERAND_COUNTS" jL (.ix (.var 0) (.int 0)))) .nil)))) nU) [qq (.d r.d)] S).bind _=_;simp only[cM,mR,sl,oB,iO,yAh]
theorem aLe(d w:Nat)(h:w<=100000)(S:aB):cl fns (d+1) 0 [.d (.int w)] S=qq (.d (.int ((2^w-1:Nat):Int)),S):=by
 rw[cV rfl d _ S rfl];simp only[evs,cQ,aGa,jN h,eG,aAh]
section
variable {C : Calls}{CX : fR}{tb : Str -> Str -> Option Bool}
theorem xk{a b:Xx}{env e1:aS}{S S1:aB}{r:Option (FlX×aB)}(h:xx C CX tb a env S=qq (.fl (.nx e1),S1))(k:xx C CX tb b e1 S1=r):xx C CX tb (.seq a b) env S=r:=by
 show(xx C CX tb a env S).bind _=r;rw[h];exact k
theorem wO{a b:Xx}{env:aS}{S S1:aB}{w:W}(h:xx C CX tb a env S=qq (.fl (.rt w),S1)):xx C CX tb (.seq a b) env S=qq (.fl (.rt w),S1):=by
 show(xx C CX tb a env S).bind _=_;rw[h];rfl
theorem dH{a b:Xx}{env e:aS}{S S1:aB}{c:Str}{r:D}(h:xx C CX tb a env S=qq (.ex e c r,S1)):xx C CX tb (.seq a b) env S=qq (.ex e c r,S1):=by
 show(xx C CX tb a env S).bind _=_;rw[h];rfl
theorem cN{a:Sx}{env:aS}{S S1:aB}{fl:Fl}(h:xs C a env S=qq (fl,S1)):xx C CX tb (.s a) env S=qq (.fl fl,S1):=by
 show(xs C a env S).bind _=_;rw[h];rfl
theorem mV{c:E}{a b:Xx}{env:aS}{S S1:aB}{r:Option (FlX×aB)}(h:tv C c env S=qq (true,S1))(k:xx C CX tb a env S1=r):xx C CX tb (.ifs c a b) env S=r:=by
 show(tv C c env S).bind _=r;rw[h];exact k
theorem fK{c:E}{a b:Xx}{env:aS}{S S1:aB}{r:Option (FlX×aB)}(h:tv C c env S=qq (false,S1))(k:xx C CX tb b env S1=r):xx C CX tb (.ifs c a b) env S=r:=by
 show(tv C c env S).bind _=r;rw[h];exact k
end
noncomputable def aC:Str->Str->Option Bool:=oH xl
inductive Ft4 where
 | width | row | fit | number
noncomputable def Ft4.c:Ft4->Str
 | .width => "NoWidth" | .row => "NoRow" | .fit => "NoFit" | .number => "NoNumber"
noncomputable def Ft4.s:Ft4->Str
 | .width => "width" | .row => "row" | .fit => "fit" | .number => "number"
noncomputable def eW:Wd->Nat
 | .in=>0
 | .num | .not | .cut | .wide | .sign=>1
 | .pick=>3
 | _=>2
def Ar(r:Rw):Prop:=r.args.length=eW r.wd
noncomputable def cJ(a b:Nat):Bool:=((a:Nat):Int)==((b:Nat):Int)
noncomputable def bP(rs:List Rw)(a:Nat):Rw:=rs.getD a ⟨.in,0,[]⟩
noncomputable def iI(wd:Wd)(w:Nat)(vs:List Nat):Bool:=match wd with
 | .same | .less | .under=>cJ w 1&&cJ (vs.getD 0 0) (vs.getD 1 0)
 | .pick=>cJ (vs.getD 0 0) 1&&(cJ (vs.getD 1 0) w&&cJ (vs.getD 2 0) w)
 | .cut=>decide (((w:Nat):Int)<=((vs.getD 0 0:Nat):Int))
 | .wide | .sign=>decide (((vs.getD 0 0:Nat):Int)<=((w:Nat):Int))
 | _=>vs.all λ v=>cJ v w
noncomputable def kK(r:Rw):Bool:=match r.wd with
 | .num=>decide (r.args.getD 0 0<2^r.w)
 | .left | .right | .slide=>decide (r.args.getD 1 0<=63)
 | _=>true
noncomputable def cI(r:Rw):List Nat:=r.args.take (hV r.wd)
noncomputable def jX(rs:List Rw)(k:Nat)(r:Rw):Option Ft4:=
 if r.w<1\/64<r.w then qq .width
 else if (cI r).any (λ a=>decide (((k:Nat):Int)<=((a:Nat):Int)))=true then qq .row
 else if iI r.wd r.w ((cI r).map λ a=>(bP rs a).w)=false then qq .fit
 else if kK r=false then qq .number else qz
theorem aKF(wd:Wd):hV wd<=eW wd:=by cases wd<;>decide
theorem aEz{r:Rw}(h:Ar r):(cI r).length=hV r.wd:=by
 unfold cI;rw[yBf,h];exact yFa (aKF r.wd)
theorem aFp{r:Rw}(h:Ar r):(cI r).length<=3:=by
 rw[aEz h];cases r.wd<;>decide
theorem aLh(a:Wd):aZ .In (.str a.s) (.tuple [.str "wide",.str "sign"])=qq (.bool (decide (a=.wide\/a=.sign))):=by cases a<;>rfl
theorem wZ{vs:List Nat}{k:Nat}(h:k<vs.length):bH (.tuple (vs.map nD)) (.int k)=qq (.int ((vs.getD k 0:Nat):Int)):=by
 refine rR ?_;rw[xAb,yAc h,yDj,yAc h];rfl
theorem aQl(a b c x y z:Int):aZ .Eq (.tuple [.int a,.int b,.int c]) (.tuple [.int x,.int y,.int z])=qq (.bool ((a==x)&&((b==y)&&(c==z)))):=by
 unfold aZ iM;simp only[yFj,yCh,yDt,yCj,yBw,yEv,yFn,yCu];rfl
theorem aPz{vs:List Nat}(h:vs.length=3):vs.map nD=[.int ((vs.getD 0 0:Nat):Int),.int ((vs.getD 1 0:Nat):Int),.int ((vs.getD 2 0:Nat):Int)]:=by
 match vs,h with
 | [a,b,c],_=>rfl
theorem all_map{α:Type}(g:α->Bool)(l:List α):xV [.list (l.map λ x=>yAs (g x))]=qq (.bool (l.all g)):=by
 have:jT (l.map λ x=>yAs (g x))=qq (l.map g):=by
  induction l with
  | nil=>rfl
  | cons a l ih=>simp only[yAi,jT,ih,oB]
 show(jT _).bind _=_;rw[this,oB];simp[List.all_map]
theorem any_map{α:Type}(g:α->Bool)(l:List α):xK [.list (l.map λ x=>yAs (g x))]=qq (.bool (l.any g)):=by
 have:jT (l.map λ x=>yAs (g x))=qq (l.map g):=by
  induction l with
  | nil=>rfl
  | cons a l ih=>simp only[yAi,jT,ih,oB]
 show(jT _).bind _=_;rw[this,oB];simp[List.any_map]
theorem aKh{wd:Wd}(h1:¬(wd=.same\/wd=.less\/wd=.under))(h2:¬ wd=.pick)(h3:¬ wd=.cut)(h4:¬(wd=.wide\/wd=.sign))(w:Nat)(vs:List Nat):iI wd w vs=vs.all λ v=>cJ v w:=by
 cases wd<;>first | rfl | (exact absurd rfl h2) | (exact absurd rfl h3) | (exact absurd (.inl rfl) h1) | (exact absurd (.inr (.inl rfl)) h1) | (exact absurd (.inr (.inr rfl)) h1) | (exact absurd (.inl rfl) h4) | (exact absurd (.inr rfl) h4)
theorem aLi(d:Nat)(r:Rw)(vs:List Nat)(hv:vs.length=hV r.wd)(S:aB):cl fns (d+1) 5 [.d r.d,.d (.tuple (vs.map nD))] S=qq (.d (.bool (iI r.wd r.w vs)),S):=by
 have r0:=aBo r;have r1:=iF r;have t1:=qA (C:=aF fns d) (i:=2) (S:=S) (e:=.con "COMPARES" aAg) (env:=[qq (.d r.d),qq (.d (.tuple (vs.map nD))),qq (.d (.str r.wd.s)),qq (.d (.int r.w)),qz]) rfl rfl (aAQ r.wd);have t2:=jW (C:=aF fns d) (i:=2) (S:=S) (x:="pick") (env:=[qq (.d r.d),qq (.d (.tuple (vs.map nD))),qq (.d (.str r.wd.s)),qq (.d (.int r.w)),qz]) rfl (jU r.wd .pick);have t3:=jW (C:=aF fns d) (i:=2) (S:=S) (x:="cut") (env:=[qq (.d r.d),qq (.d (.tuple (vs.map nD))),qq (.d (.str r.wd.s)),qq (.d (.int r.w)),qz]) rfl (jU r.wd .cut);have t4:=qA (C:=aF fns d) (i:=2) (S:=S) (e:=.con "WIDENINGS" zW) (env:=[qq (.d r.d),qq (.d (.tuple (vs.map nD))),qq (.d (.str r.wd.s)),qq (.d (.int r.w)),qz]) rfl rfl (aLh r.wd);refine dZ rfl d rfl rfl yAh (cH (w:=.d (.str r.wd.s)) (S1:=S) (by simp only[evs,r0]) rfl (cH (w:=.d (.int r.w)) (S1:=S) (by simp only[evs,r1]) rfl ?_))
 show xs (aF fns d) _ [qq (.d r.d),qq (.d (.tuple (vs.map nD))),qq (.d (.str r.wd.s)),qq (.d (.int r.w)),qz] S=_
 by_cases c1:r.wd=.same\/r.wd=.less\/r.wd=.under
 ·rw[dqT c1] at t1;have hn:vs.length=2:=by rcases c1 with c | c | c<;>rw[hv,c]<;>rfl
  have g0:bH (.tuple (vs.map nD)) (.int 0)=qq (.int ((vs.getD 0 0:Nat):Int)):=wZ (k:=0) (by omega)
  have g1:bH (.tuple (vs.map nD)) (.int 1)=qq (.int ((vs.getD 1 0:Nat):Int)):=wZ (k:=1) (by omega)
  have ef:iI r.wd r.w vs=(cJ r.w 1&&cJ (vs.getD 0 0) (vs.getD 1 0)):=by rcases c1 with c | c | c<;>rw[c]<;>rfl
  rw[ef];refine eO t1 (bT ?_);unfold cJ;generalize yBp (vs.map nD)=T at *;rcases yCd (((r.w:Nat):Int)==1) with z | z
  ·simp only[evs,eB,z,g0,g1];rw[show(((r.w:Nat):Int)==((1:Nat):Int))=true from z]
   rfl
  ·simp only[evs,eB,z];rw[show(((r.w:Nat):Int)==((1:Nat):Int))=false from z]
   rfl
 rw[dqF c1] at t1;refine cS t1 ?_
 by_cases c2:r.wd=.pick
 ·rw[dqT c2] at t2;have hn:vs.length=3:=by rw[hv,c2];rfl
  have ef:iI r.wd r.w vs=(cJ (vs.getD 0 0) 1&&(cJ (vs.getD 1 0) r.w&&cJ (vs.getD 2 0) r.w)):=by rw[c2];rfl
  rw[ef];refine eO t2 (bT ?_);have e:=aQl ((vs.getD 0 0:Nat):Int) ((vs.getD 1 0:Nat):Int) ((vs.getD 2 0:Nat):Int) 1 (r.w:Nat) (r.w:Nat);rw[<- aPz hn] at e;simp only[evs,e];rfl
 rw[dqF c2] at t2;refine cS t2 ?_
 by_cases c3:r.wd=.cut
 ·rw[dqT c3] at t3;have hn:vs.length=1:=by rw[hv,c3];rfl
  have ef:iI r.wd r.w vs=decide (((r.w:Nat):Int)<=((vs.getD 0 0:Nat):Int)):=by rw[c3];rfl
  have g0:bH (.tuple (vs.map nD)) (.int 0)=qq (.int ((vs.getD 0 0:Nat):Int)):=wZ (k:=0) (by omega)
  rw[ef];exact eO t3 (bT (by simp only[evs,g0,pR]))
 rw[dqF c3] at t3;refine cS t3 ?_
 by_cases c4:r.wd=.wide\/r.wd=.sign
 ·rw[dqT c4] at t4;have hn:vs.length=1:=by rcases c4 with c | c<;>rw[hv,c]<;>rfl
  have ef:iI r.wd r.w vs=decide (((vs.getD 0 0:Nat):Int)<=((r.w:Nat):Int)):=by rcases c4 with c | c<;>rw[c]<;>rfl
  have g0:bH (.tuple (vs.map nD)) (.int 0)=qq (.int ((vs.getD 0 0:Nat):Int)):=wZ (k:=0) (by omega)
  rw[ef];exact eO t4 (bT (by simp only[evs,g0,mB]))
 rw[dqF c4] at t4;refine cS t4 (bT ?_);rw[aKh c1 c2 c3 c4];have hc:lv (aF fns d) aCv [qq (.d r.d),qq (.d (.tuple (vs.map nD))),qq (.d (.str r.wd.s)),qq (.d (.int r.w)),qz] S=qq (vs.map (λ v=>yAs (cJ v r.w)),S):=by
  refine iW (fi:=lv (aF fns d) (.it (.var 1))) (fe:=ev (aF fns d) (.cmp .Eq (.var 4) (.var 3))) nD (λ v=>yAs (cJ v r.w)) vs ?_ (by rw[qo,hv];cases r.wd<;>decide) λ v _=>?_
  ·simp only[evs,gK]
  ·refine⟨_,rfl,λ S'=>?_⟩
   simp only[evs,clr,yAm,yAz,nD,eB];rfl
 simp only[evs,hc,all_map]
theorem ar1{r:Rw}(h:r.args.length=1):bH r.d (.int 2)=qq (.int ((r.args.getD 0 0:Nat):Int)):=by
 obtain⟨wd,w,args⟩:=r
 match args,h with
 | [a],_=>rfl
theorem ar2{r:Rw}(h:r.args.length=2):bH r.d (.int 3)=qq (.int ((r.args.getD 1 0:Nat):Int)):=by
 obtain⟨wd,w,args⟩:=r
 match args,h with
 | [a,b],_=>rfl
theorem aK3(a w:Nat):decide (((a:Nat):Int)<=((2^w-1:Nat):Int))=decide (a<2^w):=by
 have:=Nat.two_pow_pos w;rw[decide_eq_decide];omega
theorem aLC{r:Rw}(h1:¬ r.wd=.num)(h2:¬(r.wd=.left\/r.wd=.right\/r.wd=.slide)):kK r=true:=by
 obtain⟨wd,w,args⟩:=r;cases wd<;>first | rfl | (exact absurd rfl h1) | (exact absurd (.inl rfl) h2) | (exact absurd (.inr (.inl rfl)) h2) | (exact absurd (.inr (.inr rfl)) h2)
theorem aKD(d:Nat)(r:Rw)(ar:Ar r)(hw:r.w<=64)(S:aB):cl fns (d+2) 6 [.d r.d] S=qq (.d (.bool (kK r)),S):=by
 have r0:=aBo r;have r1:=iF r;refine dZ rfl (d+1) rfl rfl yAh ?_;show xs (aF fns (d+1)) _ [qq (.d r.d)] S=_
 by_cases c1:r.wd=.num
 ·have e1:aZ .Eq (.str r.wd.s) (.str "num")=qq (.bool true):=by have:=jU r.wd .num;rw[dqT c1] at this;exact this
  have a1:=ar1 (r:=r) (by rw[ar,c1];rfl)
  have fu:=aLe d r.w (by omega) S
  have ef:kK r=decide (r.args.getD 0 0<2^r.w):=by unfold kK;rw[c1]
  rw[ef,<- aK3];generalize r.d=R at *;exact eO (S1:=S) (by simp only[evs,r0,e1]) (bT (by simp only[evs,a1,r1,fu,mB]))
 have e1:aZ .Eq (.str r.wd.s) (.str "num")=qq (.bool false):=by have:=jU r.wd .num;rw[dqF c1] at this;exact this
 refine cS (S1:=S) (by simp only[evs,r0,e1]) ?_
 by_cases c2:r.wd=.left\/r.wd=.right\/r.wd=.slide
 ·have e2:aZ .In (.str r.wd.s) (.tuple (pI.map Tv.d))=qq (.bool true):=by have:=vN r.wd;rw[dqT c2] at this;exact this
  have a2:=ar2 (r:=r) (by rw[ar];rcases c2 with c | c | c<;>rw[c]<;>rfl)
  have ef:kK r=decide (r.args.getD 1 0<=63):=by unfold kK;rcases c2 with c | c | c<;>rw[c]
  have ee:decide (((r.args.getD 1 0:Nat):Int)<=63)=decide (r.args.getD 1 0<=63):=by rw[decide_eq_decide];omega
  rw[ef,<- ee];generalize r.d=R at *;exact eO (S1:=S) (by simp only[evs,r0,e2]) (bT (by simp only[evs,a2,mB]))
 have e2:aZ .In (.str r.wd.s) (.tuple (pI.map Tv.d))=qq (.bool false):=by have:=vN r.wd;rw[dqF c2] at this;exact this
 rw[aLC c1 c2];exact cS (S1:=S) (by simp only[evs,r0,e2]) (bT (by simp only[evs]))
theorem aEO{rs:List Rw}{a:Nat}(h:a<rs.length):bH (.tuple (rs.map Rw.d)) (.int a)=qq (bP rs a).d:=by
 refine rR ?_;unfold bP;rw[xAb,yAc h,yDj,yAc h];rfl
theorem aJF(d:Nat)(rs:List Rw)(r:Rw)(ar:Ar r)(h:∀ a∈cI r,a<rs.length)(S:aB):cl fns (d+2) 4 [.d r.d,.d (.tuple (rs.map Rw.d))] S=qq (.d (.tuple ((cI r).map λ a=>(bP rs a).d)),S):=by
 have op:=aCI d r S;refine dZ rfl (d+1) rfl rfl yAh ?_;show xs (aF fns (d+1)) _ [qq (.d r.d),qq (.d (.tuple (rs.map Rw.d))),qz] S=_;have hc:lv (aF fns (d+1)) aCt [qq (.d r.d),qq (.d (.tuple (rs.map Rw.d))),qz] S=qq ((cI r).map (λ a=>(bP rs a).d),S):=by
  refine iW (fi:=lv (aF fns (d+1)) (.it (.call 3 (.cons (.var 0) .nil)))) (fe:=ev (aF fns (d+1)) (.ix (.var 1) (.var 2))) nD (λ a=>(bP rs a).d) (cI r) ?_ (by rw[qo];have:=aFp ar;omega) λ a ha=>?_
  ·simp only[evs,op,gK];rfl
  ·refine⟨_,rfl,λ S'=>?_⟩
   have g:=aEO (h a ha);simp only[evs,clr,yAm,yAz,nD,g]
 exact bT (by simp only[evs,hc,sB,sG])
noncomputable def nY(rs:List Rw):Nat->Nat->Option (Ft4×Nat)
 | 0,_=>qz
 | n+1,k=>match jX rs k (bP rs k) with
   | some f=>qq (f,k)
   | none=>nY rs n (k+1)
noncomputable def pZ(rs:List Rw)(aD:List Nat):Option (Ft4×Nat):=match nY rs rs.length 0 with
 | some z=>qq z
 | none=>if aD.any (λ o=>decide (((rs.length:Nat):Int)<=((o:Nat):Int)))=true then qq (.row,rs.length) else qz
noncomputable def aGo(k:Nat):Option Ft4->ResX
 | none=>.ok (.d .none)
 | some f=>.ex f.c (.int k)
noncomputable def aQB:Option (Ft4×Nat)->ResX
 | none=>.ok (.d (.bool true))
 | some z=>.ex z.1.c (.int (z.2:Nat))
theorem aB1{rs:List Rw}{k:Nat}(h:k<rs.length):rs[k]? = qq (bP rs k):=by
 unfold bP;rw[yDj,yAc h];rfl
theorem aO8{rs:List Rw}{k:Nat}(h:k<rs.length):bP rs k∈rs:=xAi (aB1 h)
theorem jS{C:Calls}{CX:fR}{x:Xx}{n:Nat}{ws:List W}{env e:aS}{S:aB}{c:Str}{r:D}(he:ws.map qq++yAg (n-ws.length) qz=env)(k:xx C CX aC x env S=qq (.ex e c r,S)):eQ (xx C CX aC x) n ws S=qq (.ex c r,S):=by
 unfold eQ;rw[he,k,oB];show qq (ResX.ex c r,S.take S.length)=_;rw[yAh]
theorem aLA{C:Calls}{CX:fR}{x:Xx}{n:Nat}{ws:List W}{env e:aS}{S:aB}(he:ws.map qq++yAg (n-ws.length) qz=env)(k:xx C CX aC x env S=qq (.fl (.nx e),S)):eQ (xx C CX aC x) n ws S=qq (.ok (.d .none),S):=by
 unfold eQ;rw[he,k,oB];show qq (ResX.ok (.d .none),S.take S.length)=_;rw[yAh]
theorem aEq{C:Calls}{CX:fR}{x:Xx}{n:Nat}{ws:List W}{env:aS}{S:aB}{y:D}(he:ws.map qq++yAg (n-ws.length) qz=env)(k:xx C CX aC x env S=qq (.fl (.rt (.d y)),S)):eQ (xx C CX aC x) n ws S=qq (.ok (.d y),S):=by
 unfold eQ;rw[he,k,oB];show qq (ResX.ok (.d y),S.take S.length)=_;rw[yAh]
theorem aGe{C:Calls}{i:Nat}{env:aS}{S:aB}{R:D}{w:Nat}(h:env[i]? = qq (qq (.d R)))(h1:bH R (.int 1)=qq (.int w)):tv C (.or (.cmp .Lt (.ix (.var i) (.int 1)) (.int 1)) (.cmp .Gt (.ix (.var i) (.int 1)) (.int 64))) env S=qq (decide (w<1\/64<w),S):=by
 by_cases c1:w<1
 ·have d1:decide (((w:Nat):Int)<1)=true:=dqT (by omega)
  rw[dqT (Or.inl c1)];simp only[evs,h,h1,cT,d1]
 ·have d1:decide (((w:Nat):Int)<1)=false:=dqF (by omega)
  have d2:decide ((64:Int)<((w:Nat):Int))=decide (w<1\/64<w):=by rw[decide_eq_decide];omega
  rw[<- d2];simp only[evs,h,h1,cT,gQ,d1]
theorem aNQ(d:Nat)(rs:List Rw)(k:Nat)(hk:k<rs.length)(ar:Ar (bP rs k))(S:aB):cK fns gns aC (d+3) 30 [.d (.tuple (rs.map Rw.d)),.d (.int k)] S=qq (aGo k (jX rs k (bP rs k)),S):=by
 rw[show cK fns gns aC (d+3) 30=cK fns gns aC (d+3) (fns.length+0) from rfl,mD (x:=aCA) rfl rfl (d+2) _ S rfl]
 have rk:=aEO hk;generalize bP rs k=r at *;have r1:=iF r;have op:cD fns gns aC (d+2) 3 [.d r.d] S=qq (.d (.tuple ((cI r).map nD)),S):=(gF (d+1) 3 _ _ (by decide)).trans (aCI (d+1) r S)
 have of':(∀ a∈cI r,a<rs.length)->cD fns gns aC (d+2) 4 [.d r.d,.d (.tuple (rs.map Rw.d))] S=qq (.d (.tuple ((cI r).map λ a=>(bP rs a).d)),S):=λ h=>(gF (d+1) 4 _ _ (by decide)).trans (aJF d rs r ar h S)
 have wf:∀ vs:List Nat,vs.length=hV r.wd->cD fns gns aC (d+2) 5 [.d r.d,.d (.tuple (vs.map nD))] S=qq (.d (.bool (iI r.wd r.w vs)),S):=λ vs hv=>(gF (d+1) 5 _ _ (by decide)).trans (aLi (d+1) r vs hv S)
 have nf:r.w<=64->cD fns gns aC (d+2) 6 [.d r.d] S=qq (.d (.bool (kK r)),S):=λ h=>(gF (d+1) 6 _ _ (by decide)).trans (aKD d r ar h S)
 have ol:=aEz ar;have o3:=aFp ar;unfold jX;generalize kK r=bn at *;generalize (aE fns gns aC (d+2)).2=CX at *;have ha:lv (aE fns gns aC (d+2)).1 zM [qq (.d (.tuple (rs.map Rw.d))),qq (.d (.int k)),qq (.d r.d),qz,qz,qz] S=qq ((cI r).map (λ a=>yAs (decide (((k:Nat):Int)<=((a:Nat):Int)))),S):=by
  refine iW (fi:=lv (aE fns gns aC (d+2)).1 (.it (.call 3 (.cons (.var 2) .nil)))) (fe:=ev (aE fns gns aC (d+2)).1 (.cmp .GtE (.var 4) (.var 1))) nD (λ a=>yAs (decide (((k:Nat):Int)<=((a:Nat):Int)))) (cI r) ?_ (by rw[qo];omega) λ a _=>?_
  ·simp only[evs,dN,op,gK]
  ·refine⟨_,rfl,λ S'=>?_⟩
   simp only[evs,clr,yAm,yAz,nD,pR]
 have hb:(∀ a∈cI r,a<rs.length)->lv (aE fns gns aC (d+2)).1 zL [qq (.d (.tuple (rs.map Rw.d))),qq (.d (.int k)),qq (.d r.d),qz,qz,qz] S=qq (((cI r).map λ a=>(bP rs a).w).map nD,S):=λ h=>by
  have of':=of' h;rw[yCa];refine iW (fi:=lv (aE fns gns aC (d+2)).1 (.it (.call 4 (.cons (.var 2) (.cons (.var 0) .nil))))) (fe:=ev (aE fns gns aC (d+2)).1 (.ix (.var 5) (.int 1))) (λ a=>(bP rs a).d) (nD ∘ λ a=>(bP rs a).w) (cI r) ?_ (by rw[qo];omega) λ a _=>?_
  ·simp only[evs,dN,of',gK]
  ·refine⟨_,rfl,λ S'=>?_⟩
   simp only[evs,clr,yAm,yAz,iF];rfl
 have q1:∀ bK,xx (aE fns gns aC (d+2)).1 CX aC (.seq (.s (.set 2 (.ix (.var 0) (.var 1)))) bK) [qq (.d (.tuple (rs.map Rw.d))),qq (.d (.int k)),qz,qz,qz,qz] S=xx (aE fns gns aC (d+2)).1 CX aC bK [qq (.d (.tuple (rs.map Rw.d))),qq (.d (.int k)),qq (.d r.d),qz,qz,qz] S:=λ bK=>xk (cN (by simp only[evs,rk])) rfl
 by_cases c1:r.w<1\/64<r.w
 ·rw[if_pos c1];refine jS rfl ((q1 _).trans (dH (mV (S1:=S) ?_ (dH rfl))));rw[aGe rfl r1,dqT c1]
 rw[if_neg c1];have t1:=aGe (C:=(aE fns gns aC (d+2)).1) (i:=2) (env:=[qq (.d (.tuple (rs.map Rw.d))),qq (.d (.int k)),qq (.d r.d),qz,qz,qz]) (S:=S) rfl r1;rw[dqF c1] at t1;have t2:tv (aE fns gns aC (d+2)).1 (.blt .any (.cons (.fz zM) .nil)) [qq (.d (.tuple (rs.map Rw.d))),qq (.d (.int k)),qq (.d r.d),qz,qz,qz] S=qq ((cI r).any λ a=>decide (((k:Nat):Int)<=((a:Nat):Int)),S):=by
  simp only[evs,ha,any_map]
 by_cases c2:((cI r).any λ a=>decide (((k:Nat):Int)<=((a:Nat):Int)))=true
 ·rw[if_pos c2];rw[c2] at t2;exact jS rfl ((q1 _).trans (xk (fK t1 rfl) (dH (mV t2 (dH rfl)))))
 rw[if_neg c2];have lt:∀ a∈cI r,a<rs.length:=λ a m=>by
  have z:=c2;rw[yFr] at z;rcases yFg a k with q | q
  ·omega
  ·exact absurd ⟨a,m,dqT (by omega)⟩ z
 rw[Bool.eq_false_iff.mpr c2] at t2;have hb:=hb lt;have wf:=wf ((cI r).map λ a=>(bP rs a).w) (by rw[yAb];exact ol)
 have t3:xs (aE fns gns aC (d+2)).1 (.set 3 (.blt .tup (.cons (.fz zL) .nil))) [qq (.d (.tuple (rs.map Rw.d))),qq (.d (.int k)),qq (.d r.d),qz,qz,qz] S=qq (.nx [qq (.d (.tuple (rs.map Rw.d))),qq (.d (.int k)),qq (.d r.d),qq (.d (.tuple (((cI r).map λ a=>(bP rs a).w).map nD))),qz,qz],S):=by
  simp only[evs,hb,sB,sG]
 have t4:tv (aE fns gns aC (d+2)).1 (.not (.call 5 (.cons (.var 2) (.cons (.var 3) .nil)))) [qq (.d (.tuple (rs.map Rw.d))),qq (.d (.int k)),qq (.d r.d),qq (.d (.tuple (((cI r).map λ a=>(bP rs a).w).map nD))),qz,qz] S=qq (!iI r.wd r.w ((cI r).map λ a=>(bP rs a).w),S):=by
  simp only[evs,dN,wf]
 have t5:tv (aE fns gns aC (d+2)).1 (.not (.call 6 (.cons (.var 2) .nil))) [qq (.d (.tuple (rs.map Rw.d))),qq (.d (.int k)),qq (.d r.d),qq (.d (.tuple (((cI r).map λ a=>(bP rs a).w).map nD))),qz,qz] S=qq (!bn,S):=by
  have nf:=nf (by omega)
  simp only[evs,dN,nf]
 generalize iI r.wd r.w ((cI r).map λ a=>(bP rs a).w)=bf at *
 cases bf with
 | false=>exact jS rfl ((q1 _).trans (xk (fK t1 rfl) (xk (fK t2 rfl) (xk (cN t3) (dH (mV t4 (dH rfl)))))))
 | true =>
   cases bn with
   | false=>exact jS rfl ((q1 _).trans (xk (fK t1 rfl) (xk (fK t2 rfl) (xk (cN t3) (xk (fK t4 rfl) (dH (mV t5 (dH rfl))))))))
   | true=>exact aLA rfl ((q1 _).trans (xk (fK t1 rfl) (xk (fK t2 rfl) (xk (cN t3) (xk (fK t4 rfl) (xk (fK t5 rfl) rfl))))))
theorem aCO{rs:List Rw}{n k:Nat}:nY rs (n+1) k=(match jX rs k (bP rs k) with
 | some f=>qq (f,k)
 | none=>nY rs n (k+1)):=rfl
noncomputable def flL(e:aS):Option (Ft4×Nat)->FlX
 | none=>.fl (.nx e)
 | some z=>.ex e z.1.c (.int (z.2:Nat))
theorem aDG(d:Nat)(rs:List Rw)(ar:∀ r∈rs,Ar r)(S:aB)(p o:D):∀ (n j:Nat) (a1:Option W),j+n=rs.length ->
 ∃ a1':Option W,mK (.one 1) (xx (aE fns gns aC (d+3)).1 (aE fns gns aC (d+3)).2 aC lR) ((List.range' j n).map nD) [qq (.d p),a1,qq (.d (.tuple (rs.map Rw.d))),qq (.d o),qz] S=qq (flL [qq (.d p),a1',qq (.d (.tuple (rs.map Rw.d))),qq (.d o),qz] (nY rs n j),S)
 | 0,j,a1,_=>⟨a1,rfl⟩
 | n+1,j,a1,h=>by
   have la:=aNQ d rs j (by omega) (ar _ (aO8 (by omega))) S
   obtain⟨a1',ih⟩:=aDG d rs ar S p o n (j+1) (qq (.d (nD j))) (by omega)
   rw[aCO];have eb:xx (aE fns gns aC (d+3)).1 (aE fns gns aC (d+3)).2 aC (.cal 30 (.cons (.var 2) (.cons (.var 1) .nil))) [qq (.d p),qq (.d (nD j)),qq (.d (.tuple (rs.map Rw.d))),qq (.d o),qz] S=lA (λ _ S'=>qq (aGo j (jX rs j (bP rs j)),S')) [qq (.d p),qq (.d (nD j)),qq (.d (.tuple (rs.map Rw.d))),qq (.d o),qz] S:=by
    show lA (gT (aE fns gns aC (d+3)).2 30 (av (aE fns gns aC (d+3)).1 (.cons (.var 2) (.cons (.var 1) .nil)))) _ S=_;have e:av (aE fns gns aC (d+3)).1 (.cons (.var 2) (.cons (.var 1) .nil)) [qq (.d p),qq (.d (nD j)),qq (.d (.tuple (rs.map Rw.d))),qq (.d o),qz] S=qq ([.d (.tuple (rs.map Rw.d)),.d (nD j)],S):=by simp only[evs]
    unfold lA;rw[pE,e,oB];show yCs (cK fns gns aC (d+3) 30 [.d (.tuple (rs.map Rw.d)),.d (.int j)] S) _=_;rw[la]
   generalize (aE fns gns aC (d+3)).1=C at *;generalize (aE fns gns aC (d+3)).2=CX at *;show ∃ a1',((xx C CX aC lR [qq (.d p),qq (.d (nD j)),qq (.d (.tuple (rs.map Rw.d))),qq (.d o),qz] S).bind λ q=>_)=_
   cases hf:jX rs j (bP rs j) with
   | none =>
     rw[hf] at eb;refine⟨a1',?_⟩;rw[show xx C CX aC lR [qq (.d p),qq (.d (nD j)),qq (.d (.tuple (rs.map Rw.d))),qq (.d o),qz] S=qq (.fl (.nx [qq (.d p),qq (.d (nD j)),qq (.d (.tuple (rs.map Rw.d))),qq (.d o),qz]),S) from xk eb rfl,oB]
     exact ih
   | some f =>
     rw[hf] at eb;refine⟨qq (.d (nD j)),?_⟩;rw[show xx C CX aC lR [qq (.d p),qq (.d (nD j)),qq (.d (.tuple (rs.map Rw.d))),qq (.d o),qz] S=qq (.ex [qq (.d p),qq (.d (nD j)),qq (.d (.tuple (rs.map Rw.d))),qq (.d o),qz] f.c (.int j),S) from dH eb,oB]
     rfl
noncomputable def bX(rs:List Rw)(aD:List Nat):D:=.tuple [.tuple (rs.map Rw.d),.tuple (aD.map nD)]
theorem aLa(d:Nat)(rs:List Rw)(aD:List Nat)(ar:∀ r∈rs,Ar r)(hl:rs.length<=1000)(ho:aD.length<=1000)(S:aB):cK fns gns aC (d+4) 31 [.d (bX rs aD)] S=qq (aQB (pZ rs aD),S):=by
 rw[show cK fns gns aC (d+4) 31=cK fns gns aC (d+4) (fns.length+1) from rfl,mD (x:=aFN) rfl rfl (d+3) _ S rfl]
 obtain⟨a1,lo⟩:=aDG d rs ar S (bX rs aD) (.tuple (aD.map nD)) rs.length 0 qz (by omega)
 rw[<- List.range_eq_range'] at lo;unfold pZ;generalize nY rs rs.length 0=z at *;have ll:dA [.tuple (rs.map Rw.d)]=qq (.int rs.length):=by rw[dF,yAb]
 have pu:Tg.put (.many [2,3]) (bX rs aD) [qq (.d (bX rs aD)),qz,qz,qz,qz]=qq [qq (.d (bX rs aD)),qz,qq (.d (.tuple (rs.map Rw.d))),qq (.d (.tuple (aD.map nD))),qz]:=rfl;generalize bX rs aD=P at *;generalize (aE fns gns aC (d+3)).1=C at *;generalize (aE fns gns aC (d+3)).2=CX at *;have i0:lv C rM [qq (.d P),qz,qq (.d (.tuple (rs.map Rw.d))),qq (.d (.tuple (aD.map nD))),qz] S=qq ((yAx rs.length).map nD,S):=by
  refine pC ?_ (by omega)
  generalize yBp (rs.map Rw.d)=R at *;simp only[evs,ll]
 have hc:lv C aAs [qq (.d P),a1,qq (.d (.tuple (rs.map Rw.d))),qq (.d (.tuple (aD.map nD))),qz] S=qq (aD.map (λ o=>yAs (decide (((rs.length:Nat):Int)<=((o:Nat):Int)))),S):=by
  refine iW (fi:=lv C (.it (.var 3))) (fe:=ev C (.cmp .GtE (.var 4) (.blt .len (.cons (.var 2) .nil)))) nD (λ o=>yAs (decide (((rs.length:Nat):Int)<=((o:Nat):Int)))) aD ?_ (by rw[qo];omega) λ a _=>?_
  ·simp only[evs,gK]
  ·refine⟨_,rfl,λ S'=>?_⟩
   generalize yBp (rs.map Rw.d)=R at *;simp only[evs,clr,yAm,yAz,ll,nD,pR]
 have ta:tv C (.blt .any (.cons (.fz aAs) .nil)) [qq (.d P),a1,qq (.d (.tuple (rs.map Rw.d))),qq (.d (.tuple (aD.map nD))),qz] S=qq (aD.any λ o=>decide (((rs.length:Nat):Int)<=((o:Nat):Int)),S):=by
  simp only[evs,hc,any_map]
 have s1:xx C CX aC (.s (.setT (.many [2,3]) (.var 0))) [qq (.d P),qz,qz,qz,qz] S=qq (.fl (.nx [qq (.d P),qz,qq (.d (.tuple (rs.map Rw.d))),qq (.d (.tuple (aD.map nD))),qz]),S):=by
  refine cN ?_;show qD _ _ _ _=_;unfold qD;rw[show ev C (.var 0) [qq (.d P),qz,qz,qz,qz] S=qq (.d P,S) from rfl,oB]
  show(Tg.put _ _ _).bind _=_;rw[pu];rfl
 have s2:xx C CX aC (.loop (.one 1) rM lR) [qq (.d P),qz,qq (.d (.tuple (rs.map Rw.d))),qq (.d (.tuple (aD.map nD))),qz] S=qq (flL [qq (.d P),a1,qq (.d (.tuple (rs.map Rw.d))),qq (.d (.tuple (aD.map nD))),qz] z,S):=by
  show mO (.one 1) (lv C rM) (xx C CX aC lR) _ _=_;unfold mO;rw[i0,oB];exact lo
 cases z with
 | some z=>exact jS rfl (xk s1 (dH s2))
 | none =>
   have s2:xx C CX aC (.loop (.one 1) rM lR) [qq (.d P),qz,qq (.d (.tuple (rs.map Rw.d))),qq (.d (.tuple (aD.map nD))),qz] S=qq (.fl (.nx [qq (.d P),a1,qq (.d (.tuple (rs.map Rw.d))),qq (.d (.tuple (aD.map nD))),qz]),S):=s2;dsimp only
   by_cases c:(aD.any λ o=>decide (((rs.length:Nat):Int)<=((o:Nat):Int)))=true
   ·rw[c] at ta;rw[if_pos c];have ra:xx C CX aC (.raise1 "NoRow" (.blt .len (.cons (.var 2) .nil))) [qq (.d P),a1,qq (.d (.tuple (rs.map Rw.d))),qq (.d (.tuple (aD.map nD))),qz] S=qq (.ex [qq (.d P),a1,qq (.d (.tuple (rs.map Rw.d))),qq (.d (.tuple (aD.map nD))),qz] "NoRow" (.int rs.length),S):=by
     show vV "NoRow" _ _ _=_;unfold vV;generalize yBp (rs.map Rw.d)=R at *;simp only[evs,ll]
    exact jS rfl (xk s1 (xk s2 (dH (mV ta (dH ra)))))
   ·rw[Bool.eq_false_iff.mpr c] at ta;rw[if_neg c];exact aEq rfl (xk s1 (xk s2 (xk (fK ta rfl) (wO (cN (by simp only[evs]))))))
noncomputable def jl(c:Nat):List (List Nat)->List Nat
 | []=>[]
 | [a]=>a
 | a::b::r=>a++c::jl c (b::r)
theorem lW(c:Nat):∀ ps:List Str,(Txt.join ⟨#[c]⟩ ps).cps.toList=jl c (ps.map λ p=>p.cps.toList):=by
 intro ps;rw[show Txt.join ⟨#[c]⟩ ps=Str.join ⟨#[c]⟩ ps from StrLaws.glued_eq_join _ ps]
 induction ps with
 | nil=>rfl
 | cons a r ih =>
   cases r with
   | nil=>rfl
   | cons b r =>
     show(a++⟨#[c]⟩++Str.join ⟨#[c]⟩ (b::r)).cps.toList=_;rw[Str.cps_append,Str.cps_append,yFb,yFb,ih];show a.cps.toList++[c]++_=_;rw[yCp];rfl
theorem aEC{c:Nat}:∀ {a b r s:List Nat},c ∉ a->c ∉ b->a++c::r=b++c::s->a=b/\r=s
 | [],[],r,s,_,_,h=>⟨rfl,(List.cons.inj h).2⟩
 | [],y::b,r,s,_,hb,h=>absurd (by rw[(List.cons.inj h).1];exact xAd) hb
 | x::a,[],r,s,ha,_,h=>absurd (by rw[<- (List.cons.inj h).1];exact xAd) ha
 | x::a,y::b,r,s,ha,hb,h=>by
   obtain⟨h1,h2⟩:=List.cons.inj h;obtain⟨i1,i2⟩:=aEC (λ z=>ha (xAf _ z)) (λ z=>hb (xAf _ z)) h2
   exact⟨by rw[h1,i1],i2⟩
theorem aFj{c:Nat}:∀ {as bs:List (List Nat)},as≠[]->bs≠[]->(∀ a∈as,c ∉ a)->(∀ b∈bs,c ∉ b)->jl c as=jl c bs->as=bs
 | [],_,h,_,_,_,_=>absurd rfl h
 | _::_,[],_,h,_,_,_=>absurd rfl h
 | [a],[b],_,_,_,_,h=>by
   have h:a=b:=h;rw[h]
 | [a],b::b'::r,_,_,ha,_,h=>absurd (by
    have h:a=b++c::jl c (b'::r):=h;rw[h];simp) (ha a xAd)
 | a::a'::r,[b],_,_,_,hb,h=>absurd (by
    have h:a++c::jl c (a'::r)=b:=h;rw[<- h];simp) (hb b xAd)
 | a::a'::r,b::b'::s,_,_,ha,hb,h=>by
   obtain⟨h1,h2⟩:=aEC (ha a xAd) (hb b xAd) h;rw[h1,aFj (by simp) (by simp) (λ x m=>ha x (xAf _ m)) (λ x m=>hb x (xAf _ m)) h2]
theorem aCH:∀ {ps qs:List Str},(ps.map λ p=>p.cps.toList)=(qs.map λ p=>p.cps.toList)->ps=qs
 | [],[],_=>rfl
 | [],_::_,h=>by cases h
 | _::_,[],h=>by cases h
 | p::ps,q::qs,h=>by
   obtain⟨h1,h2⟩:=List.cons.inj h;rw[aCH h2,Str.ext' (Array.toList_inj.mp h1)]
theorem aDD(x:Str)(c:Nat):Txt.split x ⟨#[c]⟩≠[]:=by
 unfold Txt.split
 split
 ·simp
 ·split
  ·simp
  ·intro h;have:=congrArg yEy h;rw[length_partsBetween] at this;simp at this
theorem aCQ{c:Nat}{ps:List Str}(hne:ps≠[])(hf:∀ p∈ps,c ∉ p.cps.toList):Txt.split (Txt.join ⟨#[c]⟩ ps) ⟨#[c]⟩=ps:=by
 have e:Str.join ⟨#[c]⟩ (Txt.split (Txt.join ⟨#[c]⟩ ps) ⟨#[c]⟩)=Txt.join ⟨#[c]⟩ ps:=StrLaws.join_split _ _;have e2:jl c ((Txt.split (Txt.join ⟨#[c]⟩ ps) ⟨#[c]⟩).map λ p=>p.cps.toList)=jl c (ps.map λ p=>p.cps.toList):=by
  rw[<- lW,<- lW,show Txt.join ⟨#[c]⟩ (Txt.split (Txt.join ⟨#[c]⟩ ps) ⟨#[c]⟩)=Str.join ⟨#[c]⟩ (Txt.split (Txt.join ⟨#[c]⟩ ps) ⟨#[c]⟩) from StrLaws.glued_eq_join _ _,e]
 refine aCH (aFj (λ z=>aDD _ c (List.map_eq_nil_iff.mp z)) (λ z=>hne (List.map_eq_nil_iff.mp z)) (λ a m=>?_) (λ a m=>?_) e2)
 ·obtain⟨p,mp,rfl⟩:=List.mem_map.mp m;exact StrLaws.split_free _ c p mp
 ·obtain⟨p,mp,rfl⟩:=List.mem_map.mp m;exact hf p mp
noncomputable def bE(n:Nat):Str:=Str.ofString (toString ((n:Nat):Int))
theorem rS(m:Nat):(bE m).cps.toList=(yEn 10 m).map Char.toNat:=PySem.W.KIN.signs_num m
theorem pP(m:Nat):∀ c∈(bE m).cps.toList,48<=c/\c<=57:=λ c hc=>by
 rw[rS] at hc;obtain⟨ch,hch,e⟩:=List.mem_map.mp hc;have r:=PyProof.Rows.digit_range (Nat.isDigit_of_mem_toDigits (by decide) (by decide) hch)
 rw[<- e];exact r
theorem aBc(m:Nat):(bE m).cps.toList≠[]:=by
 rw[rS];intro e;have h:=toDigits_len_ge 10 m;rw[List.map_eq_nil_iff.mp e] at h;exact absurd h (by decide)
theorem pN{m:Nat}(h:m<10^20):(bE m).length<=20:=PyProof.Rows.toString_length_le (by omega) (by decide) (by exact_mod_cast h)
theorem aJv(m:Nat):1<=(bE m).length:=by
 have:=aBc m;have e:(bE m).cps.toList.length=(bE m).length:=yAk;cases h:(bE m).cps.toList with
 | nil=>exact absurd h this
 | cons a r=>rw[h] at e;simp at e;omega
theorem aKo{m:Nat}(h:m<10^20):PySem.intText? (bE m)=qq ((m:Nat):Int):=by
 have e:=intText_digits (x:=bE m) (pP m) (aBc m) (xAg (pN h) (by decide))
 rw[rS,PySem.W.KIN.val_back] at e;exact e
theorem aP3:∀ m:Nat,m≠0->(yEn 10 m).head?≠qq '0':=by
 intro m
 induction m using Nat.strongRecOn with
 | _ m ih =>
   intro h0
   by_cases h:m<10
   ·rw[Nat.toDigits_of_lt_base h];have:∀ d:Nat,d<10->d≠0->([Nat.digitChar d].head?≠qq '0'):=by decide
    exact this m h h0
   ·have hm:m%10<10:=Nat.mod_lt m (by decide)
    have t:yEn 10 (m/10)++yEn 10 (m%10)=yEn 10 (10*(m/10)+m%10):=Nat.toDigits_append_toDigits (by decide) (by omega) hm
    rw[Nat.div_add_mod] at t;have i:=ih (m/10) (by omega) (by omega)
    rw[<- t];cases e:yEn 10 (m/10) with
    | nil =>
      have h:=toDigits_len_ge 10 (m/10);rw[e] at h;exact absurd h (by decide)
    | cons a r =>
      rw[e] at i;exact i
theorem aID{m:Nat}(h:m≠0){c:Nat}(hc:(bE m).cps.toList.head? = qq c):c≠48:=by
 rw[rS,List.head?_map] at hc;obtain⟨ch,e1,e2⟩:=Option.map_eq_some_iff.mp hc;intro z;subst z;have:ch = '0':=Char.toNat_inj.mp e2;rw[this] at e1;exact aP3 m h e1
theorem aJP:bE 0 = "0":=by decide
theorem aDO{ws:List Nat}{r:Rw}(h:gS ws r):Ar r:=by
 obtain⟨wd,w,args⟩:=r;rcases args with _ | ⟨a,_ | ⟨b,_ | ⟨c,_ | ⟨e,t⟩⟩⟩⟩<;>cases wd<;>first | rfl | exact h.2.2.elim
theorem aAn:∀ {rs:List Rw}{ws:List Nat},cW ws rs->∀ r∈rs,Ar r
 | [],_,_,r,h=>by cases h
 | q::rs,ws,⟨h1,h2⟩,r,h=>by
   rcases List.mem_cons.mp h with rfl | h
   ·exact aDO h1
   ·exact aAn h2 r h
theorem aC8:∀ (rs:List Rw) (ws:List Nat),cW ws rs->∀ (j:Nat) (r:Rw),rs[j]? = qq r->gS (ws++(rs.take j).map (·.w)) r
 | [],_,_,j,r,h=>by simp at h
 | q::rs,ws,⟨h1,h2⟩,0,r,h=>by
   cases h;simpa using h1
 | q::rs,ws,⟨h1,h2⟩,j+1,r,h=>by
   have:=aC8 rs (ws++[q.w]) h2 j r (by simpa using h)
   simpa using this
theorem jO{rs:List Rw}{k:Nat}{r:Rw}(h1:1<=r.w)(h2:r.w<=64)(h3:∀ a∈cI r,a<k)(h4:iI r.wd r.w ((cI r).map λ a=>(bP rs a).w)=true)(h5:kK r=true):jX rs k r=qz:=by
 unfold jX;have c2:¬ ((cI r).any λ a=>decide (((k:Nat):Int)<=((a:Nat):Int)))=true:=λ z=>by
  rw[yFr] at z;obtain⟨a,m,q⟩:=z;have:=h3 a m;have:=oqT q;omega
 rw[if_neg (by omega),if_neg c2,h4,if_neg (by decide),h5,if_neg (by decide)]
theorem pW{a b:Nat}(h:a=b):cJ a b=true:=by
 subst h;unfold cJ;exact beq_self_eq_true _
theorem aJO{rs:List Rw}{k:Nat}{ws:List Nat}{r:Rw}(hw:∀ a v,ws[a]? = qq v->a<k/\(bP rs a).w=v)(h:gS ws r):jX rs k r=qz:=by
 have ha:=aDO h;obtain⟨wd,w,args⟩:=r;have e1:∀ {a v:Nat},ws[a]? = qq v->(∀ x∈[a],x<k):=λ q x m=>by
  rw[yBl] at m;subst m;exact(hw _ _ q).1
 have e2:∀ {a b v u:Nat},ws[a]? = qq v->ws[b]? = qq u->(∀ x∈[a,b],x<k):=λ q q' x m=>by
  rcases List.mem_cons.mp m with rfl | m
  ·exact(hw _ _ q).1
  ·exact e1 q' x m
 have a1:∀ {a v:Nat},ws[a]? = qq v->([a].map λ a=>(bP rs a).w)=[v]:=λ q=>by
  rw[yAi,(hw _ _ q).2,yCg]
 have a2:∀ {a b v u:Nat},ws[a]? = qq v->ws[b]? = qq u->([a,b].map λ a=>(bP rs a).w)=[v,u]:=λ q q'=>by
  rw[yAi,(hw _ _ q).2,a1 q']
 have i1:∀ v:Nat,([v].all λ x=>cJ x v)=true:=λ v=>by rw[yDw,pW rfl];rfl
 have i2:∀ v:Nat,([v,v].all λ x=>cJ x v)=true:=λ v=>by rw[yDw,pW rfl];exact i1 v
 have cm:∀ {a b v:Nat},ws[a]? = qq v->ws[b]? = qq v->(cJ 1 1&&cJ (([a,b].map λ a=>(bP rs a).w).getD 0 0) (([a,b].map λ a=>(bP rs a).w).getD 1 0))=true:=λ {a b v} q q'=>by
  rw[a2 q q'];show(cJ 1 1&&cJ v v)=true;rw[pW rfl,pW rfl];rfl
 rcases args with _ | ⟨a,_ | ⟨b,_ | ⟨c,_ | ⟨e,t⟩⟩⟩⟩
 ·cases wd<;>first | exact h.2.2.elim | exact jO h.1 h.2.1 (λ x m=>by cases m) rfl rfl
 ·cases wd
  case num=>exact jO h.1 h.2.1 (λ x m=>by cases m) rfl (dqT h.2.2)
  case not=>exact jO h.1 h.2.1 (e1 h.2.2) (by show((([a].map λ a=>(bP rs a).w)).all λ v=>cJ v w)=true;rw[a1 h.2.2];exact i1 w) rfl
  case cut =>
   obtain⟨v,q1,q2⟩:=h.2.2;have q2:w<=v:=q2;exact jO h.1 h.2.1 (e1 q1) (by show decide (((w:Nat):Int)<=(((([a].map λ a=>(bP rs a).w)).getD 0 0:Nat):Int))=true;rw[a1 q1];exact dqT (by show((w:Nat):Int)<=((v:Nat):Int);omega)) rfl
  case wide =>
   obtain⟨v,q1,q2⟩:=h.2.2;have q2:v<=w:=q2;exact jO h.1 h.2.1 (e1 q1) (by show decide ((((([a].map λ a=>(bP rs a).w)).getD 0 0:Nat):Int)<=((w:Nat):Int))=true;rw[a1 q1];exact dqT (by show((v:Nat):Int)<=((w:Nat):Int);omega)) rfl
  case sign =>
   obtain⟨v,q1,q2⟩:=h.2.2;have q2:v<=w:=q2;exact jO h.1 h.2.1 (e1 q1) (by show decide ((((([a].map λ a=>(bP rs a).w)).getD 0 0:Nat):Int)<=((w:Nat):Int))=true;rw[a1 q1];exact dqT (by show((v:Nat):Int)<=((w:Nat):Int);omega)) rfl
  all_goals exact h.2.2.elim
 ·cases wd
  case left | right | slide =>
   have q2:b<64:=h.2.2.2;exact jO h.1 h.2.1 (e1 h.2.2.1) (by show((([a].map λ a=>(bP rs a).w)).all λ v=>cJ v w)=true;rw[a1 h.2.2.1];exact i1 w) (dqT (by show b<=63;omega))
  case and | or | xor | add | sub | mul=>exact jO h.1 h.2.1 (e2 h.2.2.1 h.2.2.2) (by show((([a,b].map λ a=>(bP rs a).w)).all λ v=>cJ v w)=true;rw[a2 h.2.2.1 h.2.2.2];exact i2 w) rfl
  case same | less | under =>
   obtain⟨q0,v,q1,q2⟩:=h.2.2;have q0:w=1:=q0;subst q0;exact jO h.1 h.2.1 (e2 q1 q2) (cm q1 q2) rfl
  all_goals exact h.2.2.elim
 ·cases wd
  case pick =>
   obtain⟨q1,q2,q3⟩:=h.2.2;refine jO h.1 h.2.1 (λ x m=>?_) ?_ rfl
   ·rcases List.mem_cons.mp m with rfl | m
    ·exact(hw _ _ q1).1
    ·exact e2 q2 q3 x m
   ·have e:([a,b,c].map λ a=>(bP rs a).w)=[1,w,w]:=by rw[yAi,(hw _ _ q1).2,a2 q2 q3]
    show iI .pick w ([a,b,c].map λ a=>(bP rs a).w)=true
    rw[e];show(cJ 1 1&&(cJ w w&&cJ w w))=true;rw[pW rfl,pW rfl];rfl
  all_goals exact h.2.2.elim
 ·cases wd<;>exact h.2.2.elim
theorem aCS{rs:List Rw}:∀ (n k:Nat),(∀ j,k<=j->j<k+n->jX rs j (bP rs j)=qz)->nY rs n k=qz
 | 0,_,_=>rfl
 | n+1,k,h=>by
   rw[aCO,h k (yAe _) (by omega)]
   exact aCS n (k+1) λ j h1 h2=>h j (by omega) (by omega)
theorem aDj{rs:List Rw}{aD:List Nat}(ok:cW [] rs)(ho:∀ o∈aD,o<rs.length):pZ rs aD=qz:=by
 unfold pZ;rw[aCS rs.length 0 λ j _ hj=>?_]
 ·dsimp only;refine if_neg λ z=>?_
  rw[yFr] at z;obtain⟨a,m,q⟩:=z;have:=ho a m;have:=oqT q;omega
 ·have hj:j<rs.length:=by omega
  have h:=aC8 rs [] ok j (bP rs j) (aB1 hj);refine aJO (λ a v q=>?_) h
  rw[yDg,xAb] at q;obtain⟨r,q1,q2⟩:=Option.map_eq_some_iff.mp q;rw[List.getElem?_take] at q1
  by_cases c:a<j
  ·rw[if_pos c] at q1;refine⟨c,?_⟩;rw[aB1 (show a<rs.length by omega)] at q1
   cases q1;exact q2
  ·rw[if_neg c] at q1;cases q1
theorem lS(xs:List D)(k:Nat):cC xs (qq (k:Nat)) qz=xs.drop k:=by
 unfold cC;rw[HT.sIx_nat,HT.sIx_none];rcases Nat.le_total k xs.length with h | h
 ·rw[yFa h];exact yBn (by rw[yFp];exact yAe _)
 ·rw[yFq h,List.drop_of_length_le h,yEq,List.take_nil]
theorem aBC{xs ys:List D}(h:xs≠[])(h2:xs.length+ys.length<=1000):bL .Add (.tuple xs) (.tuple ys)=qq (.tuple (xs++ys)):=by
 cases xs with
 | nil=>exact absurd rfl h
 | cons a xs =>
   show(if _ then _ else _)=_
   rw[if_pos ⟨rfl,by rw[qo];omega⟩]
noncomputable def Rw.l(r:Rw):List D:=.str r.wd.s::nD r.w::r.args.map nD
theorem wA(wd:Wd):eW wd<=3:=by cases wd<;>decide
noncomputable def FG:Str:="0123456789"
theorem aKW{c:Nat}(h:dP ⟨#[c]⟩ FG=true):48<=c/\c<=57:=by
 obtain⟨i,hi⟩:=(StrLaws.found_iff FG ⟨#[c]⟩).mp h;have hc:=(StrLaws.subAt_one FG c i).mp hi;exact(by decide +kernel:∀ c∈FG.cps.toList,48<=c/\c<=57) c (xAi hc)
noncomputable def cL(x:Str):Bool:=decide (1<=x.length)&&decide (x.length<=20) && !((x.cps.toList.head?==qq 48) && !(x == "0"))&&x.cps.toList.all λ c=>dP ⟨#[c]⟩ FG
theorem aEf:∀ (cs:List Nat) (a:Nat),(∀ c∈cs,48<=c/\c<=57)->cs.foldl (λ aG c=>aG*10+(c-48)) a<(a+1)*10^cs.length
 | [],a,_=>by simp
 | c::cs,a,h=>by
   have hc:=h c xAd;have i:=aEf cs (a*10+(c-48)) λ x m=>h x (xAf _ m)
   rw[yAm,yBg,Nat.pow_succ];refine xAc i ?_;have:(a*10+(c-48)+1)<=(a+1)*10:=by omega
   calc (a*10+(c-48)+1)*10^cs.length<=((a+1)*10)*10^cs.length:=yDl _ this
    _=(a+1)*(10^cs.length*10):=by rw[Nat.mul_assoc,Nat.mul_comm 10]
theorem aMh(cs:List Nat)(h:∀ c∈cs,48<=c/\c<=57):NumText.digitsVal cs<10^cs.length:=by
 have:=aEf cs 0 h;rw[yEm,Nat.one_mul] at this;exact this
theorem aNo{x:Str}(h:cL x=true):∃ n,n<10^20/\x=bE n:=by
 unfold cL at h;simp only[yBi,decide_eq_true_eq,yDh,List.all_eq_true] at h;obtain⟨⟨⟨h1,h2⟩,h3⟩,h4⟩:=h;have hd:∀ c∈x.cps.toList,48<=c/\c<=57:=λ c m=>aKW (h4 c m)
 have el:x.cps.toList.length=x.length:=yAk;have hv:=aMh _ hd;rw[el] at hv;refine⟨NumText.digitsVal x.cps.toList,xAc hv (yEt (by decide) h2),?_⟩
 have first:x.length-1=0\/∃ c r,x.cps.toList=c::r/\49<=c:=by
  cases e:x.cps.toList with
  | nil=>rw[e] at el;simp at el;omega
  | cons c r =>
    by_cases z:c=48
    ·left
     rw[e,z] at h3;simp only[List.head?_cons,beq_self_eq_true,yCu,Bool.not_eq_false'] at h3;have:x = "0":=eq_of_beq h3;rw[this];decide
    ·right
     have:=hd c (by rw[e];exact xAd)
     exact⟨c,r,rfl,by omega⟩
 have t:=NumText.toDigits_digitsVal (x.length-1) x.cps.toList (by omega) hd first
 apply Str.ext';apply Array.toList_inj.mp;rw[rS,t,yCa];have:∀ l:List Nat,(∀ c∈l,48<=c/\c<=57)->l.map (Char.toNat ∘ Char.ofNat)=l:=by
  intro l
  induction l with
  | nil=>intro _;rfl
  | cons a l ih =>
    intro h;have ha:=h a xAd;have e:(Char.ofNat a).toNat=a:=(by decide +kernel:∀ a,a<58->(Char.ofNat a).toNat=a) a (by omega)
    rw[yAi,ih λ x m=>h x (xAf _ m)]
    show(Char.ofNat a).toNat::l=a::l;rw[e]
 exact(this _ hd).symm
theorem aD1:∀ {t:List Str},t.all cL=true->∃ L:List Nat,(∀ n∈L,n<10^20)/\t=L.map bE
 | [],_=>⟨[],(λ n m=>by cases m),rfl⟩
 | x::t,h=>by
   rw[yDw,yBi] at h;obtain⟨n,hn,rfl⟩:=aNo h.1;obtain⟨L,hL,rfl⟩:=aD1 h.2;refine⟨n::L,λ m hm=>?_,rfl⟩
   rcases List.mem_cons.mp hm with rfl | hm
   ·exact hn
   ·exact hL m hm
theorem fN:(" " : Str)=⟨#[32]⟩:=by decide
theorem xC:("\n" : Str)=⟨#[10]⟩:=by decide
theorem aFy(c:Nat):∀ as:List (List Nat),(jl c as).length<=(as.map (·.length)).sum+as.length
 | []=>yEx _
 | [a]=>by simp[jl]
 | a::b::r=>by
   have:=aFy c (b::r);simp[jl] at this ⊢;omega
theorem pJ(c:Nat)(ps:List Str):(Txt.join ⟨#[c]⟩ ps).length<=(ps.map (·.length)).sum+ps.length:=by
 have h:=aFy c (ps.map λ p=>p.cps.toList)
 have e:(Txt.join ⟨#[c]⟩ ps).cps.toList.length=(Txt.join ⟨#[c]⟩ ps).length:=yAk;rw[<- lW,e,yCa,yAb] at h;exact h
theorem kX{α:Type}(f:α->Nat)(b:Nat):∀ l:List α,(∀ a∈l,f a<=b)->(l.map f).sum<=l.length*b
 | [],_=>by simp
 | a::l,h=>by
   have h1:=h a xAd;have h2:=kX f b l λ x m=>h x (xAf _ m)
   simp only[yAi,List.sum_cons,yBg,Nat.succ_mul];omega
theorem aFs{c x:Nat}:∀ {as:List (List Nat)},x∈jl c as->x=c\/∃ a∈as,x∈a
 | [],h=>by cases h
 | [a],h=>.inr ⟨a,xAd,h⟩
 | a::b::r,h=>by
   have h:x∈a++c::jl c (b::r):=h;rcases List.mem_append.mp h with h | h
   ·exact .inr ⟨a,xAd,h⟩
   ·rcases List.mem_cons.mp h with h | h
    ·exact .inl h
    ·rcases aFs h with h | ⟨a',m,h⟩
     ·exact .inl h
     ·exact .inr ⟨a',xAf _ m,h⟩
theorem aDL{c x:Nat}{ps:List Str}(h:x∈(Txt.join ⟨#[c]⟩ ps).cps.toList):x=c\/∃ p∈ps,x∈p.cps.toList:=by
 rw[lW] at h;rcases aFs h with h | ⟨a,m,h⟩
 ·exact .inl h
 ·obtain⟨p,mp,rfl⟩:=List.mem_map.mp m;exact .inr ⟨p,mp,h⟩
theorem aA1{x:Str}(h:∀ c∈x.cps.toList,c<1114112):yBt x=true:=by
 show x.cps.all (· < 0x110000)=true;rw[<- Array.all_toList,List.all_eq_true];intro c m;exact dqT (h c m)
theorem wH{C:Calls}{env:aS}{S:aB}{i c:Nat}{sep:Str}(hs:sep=⟨#[c]⟩){ps:List Str}(h:env[i]? = qq (qq (.d (.str (Txt.join sep ps)))))(hne:ps≠[])(hf:∀ p∈ps,c ∉ p.cps.toList)(hl:(Txt.join sep ps).length<=1000000) :
 ev C (.fz (.spl (.var i) (.str sep))) env S=qq (.d (.list (ps.map yAa)),S):=by
 have y0:(sep.length==0)=false:=by rw[hs];rfl
 have e:Txt.split (Txt.join sep ps) sep=ps:=by rw[hs];exact aCQ hne hf
 have hz:(Txt.join sep ps).length+2<=qk:=by rw[qo];omega
 simp only[evs,h,mU,mM,y0,hz,and_self,e]
theorem aM6(c:Nat)(h1:48<=c)(h2:c<=57):dP ⟨#[c]⟩ "0123456789" = true:=
 (by decide +kernel:∀ c,c<58->48<=c->dP ⟨#[c]⟩ "0123456789" = true) c (by omega) h1
theorem aAR{z:Str}{c:Nat}{r:List Nat}(h:z.cps.toList=c::r)(hz:z.length<=100):bH (.str z) (.int 0)=qq (.str ⟨#[c]⟩):=by
 show(if z.length<=qk then (hB z.cps.toList 0).bind λ c=>qq (yAa ⟨#[c]⟩) else qz)=_
 rw[if_pos (by rw[qo];omega),h]
 unfold hB gL;simp
theorem aLv{c:Nat}(h1:48<=c)(h2:c<=57)(h3:c≠48):aZ .Eq (.str ⟨#[c]⟩) (.str "0")=qq (.bool false):=by
 have:c=49\/c=50\/c=51\/c=52\/c=53\/c=54\/c=55\/c=56\/c=57:=by omega
 rcases this with rfl | rfl | rfl | rfl | rfl | rfl | rfl | rfl | rfl<;>kernel_rfl
theorem aKT:aZ .Eq (.str ⟨#[48]⟩) (.str "0")=qq (.bool true):=by kernel_rfl
theorem aK4:aZ .NotEq (.str "0") (.str "0")=qq (.bool false):=by kernel_rfl
theorem aJ1(d n:Nat)(h:n<10^20)(S:aB):cl fns (d+1) 7 [.d (.str (bE n))] S=qq (.d (.bool true),S):=by
 have l1:=aJv n;have l2:=pN h;have dg:=pP n;have ll:dA [.str (bE n)]=qq (.int ((bE n).length:Nat)):=if_pos (by rw[qo];omega)
 have d1:decide ((((bE n).length:Nat):Int)<1)=false:=dqF (by omega)
 have d2:decide ((20:Int)<(((bE n).length:Nat):Int))=false:=dqF (by omega)
 obtain⟨c,r,ec⟩:∃ c r,(bE n).cps.toList=c::r:=by
  cases e:(bE n).cps.toList with
  | nil=>exact absurd e (aBc n)
  | cons c r=>exact⟨c,r,rfl⟩
 have i0:=aAR ec (by omega)
 have c1:=dg c (by rw[ec];exact xAd)
 refine dZ rfl d rfl rfl yAh ?_;show xs (aF fns d) _ [qq (.d (.str (bE n))),qz] S=_;have t2:tv (aF fns d) (.and (.cmp .Eq (.ix (.var 0) (.int 0)) (.str "0")) (.cmp .NotEq (.var 0) (.str "0"))) [qq (.d (.str (bE n))),qz] S=qq (false,S):=by
  by_cases z:n=0
  ·subst z;rw[aJP] at i0 ec ⊢;have:c=48:=(List.cons.inj ec).1.symm;subst this;simp only[evs,i0,aKT,aK4]
  ·have e0:=aLv c1.1 c1.2 (aID z (by rw[ec];rfl))
   simp only[evs,i0,e0]
 have hc:lv (aF fns d) zQ [qq (.d (.str (bE n))),qz] S=qq ((bE n).cps.toList.map (λ c=>yAs (dP ⟨#[c]⟩ "0123456789")),S):=by
  refine iW (fi:=lv (aF fns d) (.its (.var 0))) (fe:=ev (aF fns d) (.ins false (.var 1) (.gst "FIGURES" "0123456789"))) mP (λ c=>yAs (dP ⟨#[c]⟩ "0123456789")) (bE n).cps.toList ?_ (by rw[qo,yAk];show(bE n).length<=_;omega) λ a _=>?_
  ·simp only[evs,qK]
  ·refine⟨_,rfl,λ S'=>?_⟩
   simp only[evs,clr,yAm,yAz,mP,kD,lF]
 have al:((bE n).cps.toList.all λ c=>dP ⟨#[c]⟩ "0123456789")=true:=List.all_eq_true.mpr λ c m=>aM6 c (dg c m).1 (dg c m).2
 have am:=all_map (λ c=>dP ⟨#[c]⟩ "0123456789") (bE n).cps.toList
 rw[al] at am;generalize bE n=z at *;refine cS (S1:=S) (by simp only[evs,ll,cT,gQ,d1,d2]) (cS t2 (bT ?_))
 simp only[evs,hc,am]
theorem aDp(d:Nat)(L:List Nat)(h:∀ n∈L,n<10^20)(hl:L.length<=100)(S:aB):cl fns (d+2) 8 [.d (.list (L.map λ n=>.str (bE n)))] S=qq (.d (.bool true),S):=by
 refine dZ rfl (d+1) rfl rfl yAh ?_;show xs (aF fns (d+1)) _ [qq (.d (.list (L.map λ n=>.str (bE n)))),qz] S=_
 have hc:lv (aF fns (d+1)) zN [qq (.d (.list (L.map λ n=>.str (bE n)))),qz] S=qq (L.map (λ _=>yAs true),S):=by
  refine iW (fi:=lv (aF fns (d+1)) (.it (.var 0))) (fe:=ev (aF fns (d+1)) (.call 7 (.cons (.var 1) .nil))) (λ n=>.str (bE n)) (λ _=>yAs true) L ?_ (by rw[qo];omega) λ a ha=>?_
  ·simp only[evs,gK]
  ·refine⟨_,rfl,λ S'=>?_⟩
   have:=aJ1 d a (h a ha) S';simp only[evs,clr,yAm,yAz,this]
 have am:=all_map (λ _:Nat=>true) L
 have:(L.all λ _=>true)=true:=by simp
 rw[this] at am;exact bT (by simp only[evs,hc,am])
theorem aDF(d:Nat)(L:List Nat)(h:∀ n∈L,n<10^20)(hl:L.length<=100)(S:aB):cl fns (d+1) 9 [.d (.list (L.map λ n=>.str (bE n)))] S=qq (.d (.tuple (L.map nD)),S):=by
 refine dZ rfl d rfl rfl yAh ?_;show xs (aF fns d) _ [qq (.d (.list (L.map λ n=>.str (bE n)))),qz] S=_
 have hc:lv (aF fns d) aCw [qq (.d (.list (L.map λ n=>.str (bE n)))),qz] S=qq (L.map nD,S):=by
  refine iW (fi:=lv (aF fns d) (.it (.var 0))) (fe:=ev (aF fns d) (.itx (.var 1))) (λ n=>.str (bE n)) nD L ?_ (by rw[qo];omega) λ a ha=>?_
  ·simp only[evs,gK]
  ·refine⟨_,rfl,λ S'=>?_⟩
   have hi:=aKo (h a ha);have hz:(bE a).length<=640:=xAg (pN (h a ha)) (by decide)
   simp only[evs,clr,yAm,yAz,tG,hz,hi];rfl
 exact bT (by simp only[evs,hc,sB,sG])
theorem aJQ(wd:Wd):(jL.lookup wd.s).isSome=true:=by cases wd<;>kernel_rfl
theorem aIy(d:Nat)(wd:Wd)(S:aB):cl fns (d+1) 1 [.d (.str wd.s)] S=qq (.d (.bool true),S):=by
 have h:=aJQ wd;refine dZ rfl d rfl rfl yAh (bT ?_);show ev (aF fns d) _ [qq (.d (.str wd.s))] S=_;simp only[evs,sQ,h]
theorem aDa(d:Nat)(wd:Wd)(S:aB):cl fns (d+1) 2 [.d (.str wd.s)] S=qq (.d (.int ((1+eW wd:Nat):Int)),S):=by
 have tc:=aEL wd;have e1:=jU wd .num;have e1:aZ .Eq (.str wd.s) (.str "num")=qq (.bool (decide (wd=.num))):=e1;have e2:aZ .In (.str wd.s) (.tuple (pI.map Tv.d))=qq (.bool (decide (wd=.left\/wd=.right\/wd=.slide))):=vN wd;refine dZ rfl d rfl rfl yAh ?_;show xs (aF fns d) _ [qq (.d (.str wd.s)),qz] S=_;have bB:∀ f:Nat,hV wd+f=eW wd->xs (aF fns d) (dC aCx) [qq (.d (.str wd.s)),qq (.d (.int f))] S=qq (.rt (.d (.int ((1+eW wd:Nat):Int))),S):=λ f hf=>by
  have:(1:Int)+((hV wd:Nat):Int)+((f:Nat):Int)=((1+eW wd:Nat):Int):=by omega
  exact bT (by simp only[evs,tc,dY,this])
 by_cases c1:wd=.num
 ·rw[dqT c1] at e1;exact cH (w:=.d (.int ((1:Nat):Int))) (S1:=S) (by simp only[evs,oN,e1];rfl) rfl (bB 1 (by rw[c1];rfl))
 rw[dqF c1] at e1
 by_cases c2:wd=.left\/wd=.right\/wd=.slide
 ·rw[dqT c2] at e2;exact cH (w:=.d (.int ((1:Nat):Int))) (S1:=S) (by simp only[evs,oN,e1,e2];rfl) rfl (bB 1 (by rcases c2 with c | c | c<;>rw[c]<;>rfl))
 ·rw[dqF c2] at e2;refine cH (w:=.d (.int ((0:Nat):Int))) (S1:=S) (by simp only[evs,oN,e1,e2];rfl) rfl (bB 0 ?_)
  cases wd<;>first | rfl | (exact absurd rfl c1) | (exact absurd (.inl rfl) c2) | (exact absurd (.inr (.inl rfl)) c2) | (exact absurd (.inr (.inr rfl)) c2)
def Bd(r:Rw):Prop:=r.w<10^20/\∀ a∈r.args,a<10^20
noncomputable def fF(r:Rw):List Str:=r.wd.s::(r.w::r.args).map bE
noncomputable def bY(r:Rw):Str:=Txt.join " " (fF r)
theorem aC2(wd:Wd):∀ c∈wd.s.cps.toList,97<=c/\c<=122:=by cases wd<;>decide +kernel
theorem aDV(wd:Wd):wd.s.length<=20:=by cases wd<;>decide
theorem aIG{r:Rw}{c:Nat}(hc:c<48):∀ p∈fF r,c ∉ p.cps.toList:=λ p m z=>by
 rcases List.mem_cons.mp m with rfl | m
 ·have:=aC2 _ c z;omega
 ·obtain⟨n,_,rfl⟩:=List.mem_map.mp m;have:=pP n c z;omega
theorem aJA{r:Rw}(b:Bd r):∀ p∈fF r,p.length<=20:=λ p m=>by
 rcases List.mem_cons.mp m with rfl | m
 ·exact aDV _
 ·obtain⟨n,mn,rfl⟩:=List.mem_map.mp m;refine pN ?_;rcases List.mem_cons.mp mn with rfl | mn
  ·exact b.1
  ·exact b.2 n mn
theorem aJi{r:Rw}(ar:Ar r)(b:Bd r):(bY r).length<=200:=by
 have h:=pJ 32 (fF r);have s:=kX (λ p:Str=>p.length) 20 (fF r) (aJA b)
 have l:(fF r).length<=5:=by
  have:=wA r.wd;rw[<- ar] at this;unfold fF;simp;omega
 unfold bY;rw[fN];omega
theorem aDN(d:Nat)(r:Rw)(ar:Ar r)(b:Bd r)(S:aB):cl fns (d+3) 10 [.d (.str (bY r))] S=qq (.d r.d,S):=by
 have hl:=aJi ar b;have a3:=wA r.wd;rw[<- ar] at a3;have bn:∀ n∈r.w::r.args,n<10^20:=λ n m=>by
  rcases List.mem_cons.mp m with rfl | m
  ·exact b.1
  ·exact b.2 n m
 have sp:∀ e,ev (aF fns (d+2)) (.fz (.spl (.var 0) (.str " "))) (qq (.d (.str (bY r)))::e) S=qq (.d (.list ((fF r).map yAa)),S):=λ e=>wH fN rfl (by unfold fF;simp) (aIG (by decide)) (by show(bY r).length<=_;omega)
 have i0:bH (.list ((fF r).map yAa)) (.int 0)=qq (.str r.wd.s):=eA (k:=0) rfl;have iw:=aIy (d+1) r.wd S;have nc:=aDa (d+1) r.wd S;have ll:dA [.list ((fF r).map yAa)]=qq (.int ((1+(1+eW r.wd):Nat):Int)):=by
  rw[cA,yAb];unfold fF;rw[<- ar];simp;omega
 have cf:cC ((fF r).map yAa) (qq 1) qz=(r.w::r.args).map λ n=>yAa (bE n):=by
  rw[show(qq (1:Int))=qq ((1:Nat):Int) from rfl,lS]
  unfold fF;rw[yAi,yCa];rfl
 have an:=aDp d (r.w::r.args) bn (by simp;omega) S
 have ni:=aDF (d+1) (r.w::r.args) bn (by simp;omega) S
 have e1:(1:Int)+((1+eW r.wd:Nat):Int)=((1+(1+eW r.wd):Nat):Int):=by omega
 have ct:bL .Add (.tuple [.str r.wd.s]) (.tuple ((r.w::r.args).map nD))=qq r.d:=by
  rw[aBC (by simp) (by simp;omega)]
  rfl
 refine dZ rfl (d+2) rfl rfl yAh (cH (sp _) rfl ?_);show xs (aF fns (d+2)) _ [qq (.d (.str (bY r))),qq (.d (.list ((fF r).map yAa))),qz] S=_;generalize (fF r).map yAa=P at *;generalize List.map (λ n=>yAa (bE n)) (r.w::r.args)=NL at *
 generalize List.map nD (r.w::r.args)=TL at *;generalize bY r=Z at *;refine cH (w:=.d (.str r.wd.s)) (S1:=S) (by simp only[evs,i0]) rfl ?_
 show xs (aF fns (d+2)) _ [qq (.d (.str Z)),qq (.d (.list P)),qq (.d (.str r.wd.s))] S=_;refine cS (S1:=S) ?_ (bT ?_)
 ·simp only[evs,iw,ll,nc,dY,e1,sL,beq_self_eq_true,dL,cY,dS,cf,an]
 ·simp only[evs,dL,cY,dS,cf,ni,ct]
noncomputable def fV(aD:List Nat):List Str:="out" :: aD.map bE
noncomputable def fW(aD:List Nat):Str:=Txt.join " " (fV aD)
theorem aI2{aD:List Nat}{c:Nat}(hc:c<48):∀ p∈fV aD,c ∉ p.cps.toList:=λ p m z=>by
 rcases List.mem_cons.mp m with rfl | m
 ·have z:c∈([111,117,116]:List Nat):=z;simp at z;omega
 ·obtain⟨n,_,rfl⟩:=List.mem_map.mp m;have:=pP n c z;omega
theorem aJb{aD:List Nat}(b:∀ o∈aD,o<10^20):∀ p∈fV aD,p.length<=20:=λ p m=>by
 rcases List.mem_cons.mp m with rfl | m
 ·decide
 ·obtain⟨n,mn,rfl⟩:=List.mem_map.mp m;exact pN (b n mn)
theorem aJ0{aD:List Nat}(b:∀ o∈aD,o<10^20)(l:aD.length<=8):(fW aD).length<=200:=by
 have h:=pJ 32 (fV aD);have s:=kX (λ p:Str=>p.length) 20 (fV aD) (aJb b)
 have l:(fV aD).length<=9:=by
  unfold fV;simp;omega
 unfold fW;rw[fN];omega
theorem aNO:aZ .NotEq (.str "out") (.str "out")=qq (.bool false):=by kernel_rfl
theorem aIJ(d:Nat)(aD:List Nat)(b:∀ o∈aD,o<10^20)(l1:1<=aD.length)(l2:aD.length<=8)(S:aB):cl fns (d+3) 11 [.d (.str (fW aD))] S=qq (.d (.tuple (aD.map nD)),S):=by
 have hl:=aJ0 b l2;have sp:∀ e,ev (aF fns (d+2)) (.fz (.spl (.var 0) (.str " "))) (qq (.d (.str (fW aD)))::e) S=qq (.d (.list ((fV aD).map yAa)),S):=λ e=>wH fN rfl (by unfold fV;simp) (aI2 (by decide)) (by show(fW aD).length<=_;omega)
 have i0:bH (.list ((fV aD).map yAa)) (.int 0)=qq (.str "out"):=eA (k:=0) rfl;have ll:dA [.list ((fV aD).map yAa)]=qq (.int ((1+aD.length:Nat):Int)):=by
  rw[cA,yAb];unfold fV;simp;omega
 have d1:decide (((1+aD.length:Nat):Int)<2)=false:=dqF (by omega)
 have d2:decide ((9:Int)<((1+aD.length:Nat):Int))=false:=dqF (by omega)
 have cf:cC ((fV aD).map yAa) (qq 1) qz=aD.map λ n=>yAa (bE n):=by
  rw[show(qq (1:Int))=qq ((1:Nat):Int) from rfl,lS]
  unfold fV;rw[yAi,yCa];rfl
 have an:=aDp d aD b (by omega) S
 have ni:=aDF (d+1) aD b (by omega) S
 refine dZ rfl (d+2) rfl rfl yAh (cH (sp _) rfl ?_);generalize (fV aD).map yAa=P at *;generalize List.map (λ n=>yAa (bE n)) aD=NL at *
 generalize List.map nD aD=TL at *;generalize fW aD=Z at *;show xs (aF fns (d+2)) _ [qq (.d (.str Z)),qq (.d (.list P))] S=_;refine cS (S1:=S) ?_ (bT ?_)
 ·simp only[evs,i0,aNO,ll,cT,gQ,d1,d2,dL,cY,dS,cf,an]
 ·simp only[evs,dL,cY,dS,cf,ni]
def mZ(x:Str):Prop:=∀ c∈x.cps.toList,c<1114112
theorem mZ.ok{x:Str}(h:mZ x):yBt x=true:=aA1 h
theorem rZ{x y:Str}(hx:yBt x=true)(hy:yBt y=true):aZ .Eq (.str x) (.str y)=qq (.bool (x==y)):=by
 unfold aZ iM;simp[yFj,yDt,yBw,hx,hy]
theorem aAB{x y:Str}(hx:yBt x=true)(hy:yBt y=true):aZ .NotEq (.str x) (.str y)=qq (.bool (!(x==y))):=by
 unfold aZ iM;simp[yFj,yDt,yBw,hx,hy]
theorem yL:yBt "0" = true:=by kernel_rfl
theorem aGc(c:Nat):((⟨#[c]⟩:Str) == "0")=(qq c==qq 48):=by
 by_cases z:c=48
 ·subst z;decide
 ·rw[beq_eq_false_iff_ne.mpr λ e=>z (by cases e;rfl),beq_eq_false_iff_ne.mpr λ e=>z (Option.some.inj e)]
theorem aBw(c:Nat)(n:Bool):lF n (.str ⟨#[c]⟩) (.str "0123456789")=qq (.bool (if n=true then !dP ⟨#[c]⟩ FG else dP ⟨#[c]⟩ FG)):=rfl
theorem aIE(d:Nat)(x:Str)(ha:mZ x)(hl:x.length<=2000)(S:aB):cl fns (d+1) 7 [.d (.str x)] S=qq (.d (.bool (cL x)),S):=by
 have ll:dA [.str x]=qq (.int x.length):=if_pos (by rw[qo];omega)
 refine dZ rfl d rfl rfl yAh ?_;show xs (aF fns d) _ [qq (.d (.str x)),qz] S=_;have t1:tv (aF fns d) (.or (.cmp .Lt (.blt .len (.cons (.var 0) .nil)) (.int 1)) (.cmp .Gt (.blt .len (.cons (.var 0) .nil)) (.int 20))) [qq (.d (.str x)),qz] S=qq (!(decide (1<=x.length)&&decide (x.length<=20)),S):=by
  by_cases c1:1<=x.length
  ·have d1:decide (((x.length:Nat):Int)<1)=false:=dqF (by omega)
   have d2:decide ((20:Int)<((x.length:Nat):Int)) = !decide (x.length<=20):=by rw[<- decide_not,decide_eq_decide];omega
   rw[dqT c1,yCu,<- d2];simp only[evs,ll,cT,gQ,d1]
  ·have d1:decide (((x.length:Nat):Int)<1)=true:=dqT (by omega)
   rw[dqF c1];simp only[evs,ll,cT,d1,yBh]
 unfold cL
 by_cases cl:(decide (1<=x.length)&&decide (x.length<=20))=true
 ·rw[cl] at t1 ⊢;obtain⟨c,r,ec⟩:∃ c r,x.cps.toList=c::r:=by
   cases e:x.cps.toList with
   | nil =>
     have el:x.cps.toList.length=x.length:=yAk;rw[e] at el;simp at cl el;omega
   | cons c r=>exact⟨c,r,rfl⟩
  have bW:x.length<=20:=by simp at cl;omega
  have i0:=aAR ec (by omega)
  have oc:yBt ⟨#[c]⟩=true:=aA1 λ a m=>by
   have:a=c:=by simpa using m
   rw[this];exact ha c (by rw[ec];exact xAd)
  have e0:=rZ oc yL;have e1:=aAB ha.ok yL;rw[aGc] at e0;have eh:x.cps.toList.head? = qq c:=by rw[ec];rfl
  rw[eh];have t2:tv (aF fns d) (.and (.cmp .Eq (.ix (.var 0) (.int 0)) (.str "0")) (.cmp .NotEq (.var 0) (.str "0"))) [qq (.d (.str x)),qz] S=qq ((qq c==qq 48) && !(x == "0"),S):=by
   generalize (qq c==qq 48)=b1 at *;generalize (x == "0")=b2 at *;cases b1<;>cases b2<;>simp only[evs,i0,e0,e1,yCu,yBh]
  have hc:lv (aF fns d) zQ [qq (.d (.str x)),qz] S=qq (x.cps.toList.map (λ c=>yAs (dP ⟨#[c]⟩ FG)),S):=by
   refine iW (fi:=lv (aF fns d) (.its (.var 0))) (fe:=ev (aF fns d) (.ins false (.var 1) (.gst "FIGURES" "0123456789"))) mP (λ c=>yAs (dP ⟨#[c]⟩ FG)) x.cps.toList ?_ (by rw[qo,yAk];show x.length<=_;omega) λ a _=>?_
   ·simp only[evs,qK]
   ·refine⟨_,rfl,λ S'=>?_⟩
    simp only[evs,clr,yAm,yAz,mP,kD,aBw]
  have am:=all_map (λ c=>dP ⟨#[c]⟩ FG) x.cps.toList
  refine cS t1 ?_;cases hb:((qq c==qq 48) && !(x == "0")) with
  | true =>
    rw[hb] at t2;exact eO t2 (bT (by simp only[evs];rfl))
  | false =>
    rw[hb] at t2;refine cS t2 (bT ?_);simp only[evs,hc,am];rfl
 ·rw[Bool.eq_false_iff.mpr cl] at t1 ⊢;exact eO t1 (bT (by simp only[evs];rfl))
theorem aCU(d:Nat)(L:List Str)(h:∀ x∈L,mZ x/\x.length<=2000)(hl:L.length<=2000)(S:aB):cl fns (d+2) 8 [.d (.list (L.map yAa))] S=qq (.d (.bool (L.all cL)),S):=by
 refine dZ rfl (d+1) rfl rfl yAh ?_;show xs (aF fns (d+1)) _ [qq (.d (.list (L.map yAa))),qz] S=_;have hc:lv (aF fns (d+1)) zN [qq (.d (.list (L.map yAa))),qz] S=qq (L.map (λ x=>yAs (cL x)),S):=by
  refine iW (fi:=lv (aF fns (d+1)) (.it (.var 0))) (fe:=ev (aF fns (d+1)) (.call 7 (.cons (.var 1) .nil))) yAa (λ x=>yAs (cL x)) L ?_ (by rw[qo];omega) λ a ha=>?_
  ·simp only[evs,gK]
  ·refine⟨_,rfl,λ S'=>?_⟩
   have:=aIE d a (h a ha).1 (h a ha).2 S';simp only[evs,clr,yAm,yAz,this]
 have am:=all_map cL L;exact bT (by simp only[evs,hc,am])
noncomputable def wdB(x:Str):Bool:=(jL.lookup x).isSome
noncomputable def aGY:List Wd:=[.in,.num,.not,.and,.or,.xor,.add,.sub,.mul,.left,.right,.slide,.cut,.wide,.sign,.same,.less,.under,.pick]
noncomputable def mS(w:Str):Option Wd:=aGY.find? λ wd=>w==wd.s
theorem aL6(wd:Wd):mS wd.s=qq wd:=by cases wd<;>kernel_rfl
theorem aER{w:Str}{wd:Wd}(h:mS w=qq wd):w=wd.s:=by
 have:=List.find?_some (p:=λ wd:Wd=>w==wd.s) h
 exact eq_of_beq this
theorem aCN{x:Str}:∀ {l:List (Str×Tv)},(l.lookup x).isSome=true->x∈l.map (·.1)
 | [],h=>by cases h
 | p::l,h=>by
   rw[yAy] at h;cases e:x==p.1 with
   | true=>rw[eq_of_beq e];exact xAd
   | false =>
     rw[e] at h;exact xAf _ (aCN h)
theorem aLO:jL.map (·.1)=aGY.map Wd.s:=by kernel_rfl
theorem aOD{x:Str}(h:wdB x=true):∃ wd:Wd,x=wd.s:=by
 have m:=aCN h;rw[aLO] at m;obtain⟨wd,_,e⟩:=List.mem_map.mp m;exact⟨wd,e.symm⟩
noncomputable def dI(ps:List Str):Bool:=match ps with
 | []=>false
 | w::t=>(match mS w with
   | some wd=>t.all cL&&(t.length==1+eW wd)
   | none=>false)
theorem aIp{w:Str}{t:List Str}(h:dI (w::t)=true):∃ r:Rw,Ar r/\Bd r/\w::t=fF r:=by
 unfold dI at h;cases hw:mS w with
 | none=>simp only[hw] at h;cases h
 | some wd =>
   simp only[hw,yBi] at h;obtain⟨h2,h3⟩:=h;obtain rfl:=aER hw;have h3:t.length=1+eW wd:=eq_of_beq h3;obtain⟨L,hL,rfl⟩:=aD1 h2;rw[yAb] at h3;cases L with
   | nil=>simp at h3;omega
   | cons n L =>
     refine⟨⟨wd,n,L⟩,?_,⟨hL n xAd,λ a m=>hL a (xAf _ m)⟩,rfl⟩
     show L.length=eW wd;simp at h3;omega
structure Ln(z:Str):Prop where
 a:mZ z
 n:10 ∉ z.cps.toList
 l:z.length<=2000
 s:(Txt.split z " ").length<=60
theorem vI(z:Str):∃ w t,Txt.split z " " = w::t:=by
 have:=aDD z 32;rw[<- fN] at this;cases e:Txt.split z " " with
 | nil=>exact absurd e this
 | cons w t=>exact⟨w,t,rfl⟩
theorem vE(z:Str):Txt.join " " (Txt.split z " ")=z:=(StrLaws.glued_eq_join _ _).trans (StrLaws.join_split z " ")
theorem Ln.part{z:Str}(h:Ln z):∀ x∈Txt.split z " ",mZ x/\x.length<=2000:=λ x m=>by
 constructor
 ·intro c mc;refine h.a c ?_;rw[<- vE z,fN,lW];have key:∀ (as:List (List Nat)),∀ a∈as,∀ y∈a,y∈jl 32 as:=by
   intro as
   induction as with
   | nil=>intro a m;cases m
   | cons b as ih =>
     intro a m y my;cases as with
     | nil =>
       rw[List.mem_singleton.mp m] at my;exact my
     | cons b' as =>
       show y∈b++32::jl 32 (b'::as);rcases List.mem_cons.mp m with rfl | m
       ·exact yBk _ my
       ·exact xAk _ (xAf _ (ih a m y my))
  rw[<- fN];exact key _ _ (List.mem_map.mpr ⟨x,m,rfl⟩) c mc
 ·refine xAg ?_ h.l;have key:∀ (as:List (List Nat)),∀ a∈as,a.length<=(jl 32 as).length:=by
   intro as
   induction as with
   | nil=>intro a m;cases m
   | cons b as ih =>
     intro a m;cases as with
     | nil =>
       rw[List.mem_singleton.mp m];exact yAe _
     | cons b' as =>
       show a.length<=(b++32::jl 32 (b'::as)).length;rw[yAp,yBg];rcases List.mem_cons.mp m with rfl | m
       ·omega
       ·have:=ih a m;omega
  have:=key ((Txt.split z " ").map λ p=>p.cps.toList) x.cps.toList (List.mem_map.mpr ⟨x,m,rfl⟩)
  rw[<- lW,<- fN,vE] at this;exact this
theorem aAZ{C:Calls}{env:aS}{S:aB}{i:Nat}{z:Str}(h:env[i]? = qq (qq (.d (.str z))))(hl:z.length<=1000000):ev C (.fz (.spl (.var i) (.str " "))) env S=qq (.d (.list ((Txt.split z " ").map yAa)),S):=by
 have y0:((" " : Str).length==0)=false:=by decide
 have hz:z.length+2<=qk:=by rw[qo];omega
 simp only[evs,h,mU,mM,y0,hz,and_self]
theorem aI6(d:Nat)(z:Str)(h:Ln z)(hb:dI (Txt.split z " ")=false)(S:aB):cl fns (d+3) 10 [.d (.str z)] S=qq (.d .none,S):=by
 obtain⟨w,t,es⟩:=vI z;have hp:=h.part;have hs:=h.s;have sp:∀ e,ev (aF fns (d+2)) (.fz (.spl (.var 0) (.str " "))) (qq (.d (.str z))::e) S=qq (.d (.list ((Txt.split z " ").map yAa)),S):=λ e=>aAZ rfl (xAg h.l (by decide))
 rw[es] at hb hp sp hs;have i0:bH (.list ((w::t).map yAa)) (.int 0)=qq (.str w):=eA (k:=0) rfl;have iw:cl fns (d+2) 1 [.d (.str w)] S=qq (.d (.bool (wdB w)),S):=by
  refine dZ rfl (d+1) rfl rfl yAh (bT ?_);show ev (aF fns (d+1)) _ [qq (.d (.str w))] S=_;simp only[evs,sQ];rfl
 have ll:dA [.list ((w::t).map yAa)]=qq (.int ((1+t.length:Nat):Int)):=by
  rw[cA,yAb,yBg,Nat.add_comm]
 have cf:cC ((w::t).map yAa) (qq 1) qz=t.map yAa:=lS _ 1;have an:=aCU d t (λ x m=>hp x (xAf _ m)) (by simp at hs;omega) S
 have tst:tv (aF fns (d+2)) (.or (.not (.call 1 (.cons (.var 2) .nil))) (.or (.cmp .NotEq (.blt .len (.cons (.var 1) .nil)) (.bin .Add (.int 1) (.call 2 (.cons (.var 2) .nil)))) (.not (.call 8 (.cons (.sl (.var 1) (.cons (.int 1) .nil) .no) .nil))))) [qq (.d (.str z)),qq (.d (.list ((w::t).map yAa))),qq (.d (.str w))] S=qq (true,S):=by
  cases hw:wdB w with
  | false =>
    rw[hw] at iw;generalize (w::t).map yAa=P at *;simp only[evs,iw]
  | true =>
    rw[hw] at iw;obtain⟨wd,rfl⟩:=aOD hw;have nc:=aDa (d+1) wd S;have e1:(1:Int)+((1+eW wd:Nat):Int)=((1+(1+eW wd):Nat):Int):=by omega
    by_cases hl:t.length=1+eW wd
    ·have ha:t.all cL=false:=by
      cases ha:t.all cL with
      | false=>rfl
      | true =>
        exfalso;unfold dI at hb;simp only[aL6,ha,hl,beq_self_eq_true] at hb;cases hb
     rw[ha] at an;rw[hl] at ll;generalize (wd.s::t).map yAa=P at *;simp only[evs,iw,ll,nc,dY,e1,sL,beq_self_eq_true,dL,cY,dS,cf,an]
    ·have e2:(!(((1+t.length:Nat):Int)==((1+(1+eW wd):Nat):Int)))=true:=by
      rw[yDh,beq_eq_false_iff_ne];omega
     generalize (wd.s::t).map yAa=P at *;simp only[evs,iw,ll,nc,dY,e1,sL,e2]
 refine dZ rfl (d+2) rfl rfl yAh (cH (sp _) rfl ?_);show xs (aF fns (d+2)) _ [qq (.d (.str z)),qq (.d (.list ((w::t).map yAa))),qz] S=_;generalize (w::t).map yAa=P at *;exact cH (w:=.d (.str w)) (S1:=S) (by simp only[evs,i0]) rfl (eO tst (bT (by simp only[evs])))
noncomputable def fD(ps:List Str):Bool:=match ps with
 | []=>false
 | w::t=>(w == "out")&&t.all cL&&(decide (1<=t.length)&&decide (t.length<=8))
theorem aOQ:yBt "out" = true:=by kernel_rfl
theorem aH6(d:Nat)(z:Str)(h:Ln z)(hb:fD (Txt.split z " ")=false)(S:aB):cl fns (d+3) 11 [.d (.str z)] S=qq (.d .none,S):=by
 obtain⟨w,t,es⟩:=vI z;have hp:=h.part;have hs:=h.s;have sp:∀ e,ev (aF fns (d+2)) (.fz (.spl (.var 0) (.str " "))) (qq (.d (.str z))::e) S=qq (.d (.list ((Txt.split z " ").map yAa)),S):=λ e=>aAZ rfl (xAg h.l (by decide))
 rw[es] at hb hp sp hs;have i0:bH (.list ((w::t).map yAa)) (.int 0)=qq (.str w):=eA (k:=0) rfl;have ne:=aAB (hp w xAd).1.ok aOQ;have ll:dA [.list ((w::t).map yAa)]=qq (.int ((1+t.length:Nat):Int)):=by
  rw[cA,yAb,yBg,Nat.add_comm]
 have cf:cC ((w::t).map yAa) (qq 1) qz=t.map yAa:=lS _ 1;have an:=aCU d t (λ x m=>hp x (xAf _ m)) (by simp at hs;omega) S
 have tst:tv (aF fns (d+2)) (.or (.cmp .NotEq (.ix (.var 1) (.int 0)) (.str "out")) (.or (.cmp .Lt (.blt .len (.cons (.var 1) .nil)) (.int 2)) (.or (.cmp .Gt (.blt .len (.cons (.var 1) .nil)) (.int 9)) (.not (.call 8 (.cons (.sl (.var 1) (.cons (.int 1) .nil) .no) .nil)))))) [qq (.d (.str z)),qq (.d (.list ((w::t).map yAa)))] S=qq (true,S):=by
  cases hw:w == "out" with
  | false =>
    rw[hw] at ne;generalize (w::t).map yAa=P at *;simp only[evs,i0,ne]
  | true =>
    rw[hw] at ne
    by_cases c1:1<=t.length
    ·have d1:decide (((1+t.length:Nat):Int)<2)=false:=dqF (by omega)
     by_cases c2:t.length<=8
     ·have d2:decide ((9:Int)<((1+t.length:Nat):Int))=false:=dqF (by omega)
      have ha:t.all cL=false:=by
       cases ha:t.all cL with
       | false=>rfl
       | true =>
         exfalso;unfold fD at hb;simp only[hw,ha,dqT c1,dqT c2] at hb;cases hb
      rw[ha] at an;generalize (w::t).map yAa=P at *;simp only[evs,i0,ne,ll,cT,gQ,d1,d2,dL,cY,dS,cf,an]
     ·have d2:decide ((9:Int)<((1+t.length:Nat):Int))=true:=dqT (by omega)
      generalize (w::t).map yAa=P at *;simp only[evs,i0,ne,ll,cT,gQ,d1,d2]
    ·have d1:decide (((1+t.length:Nat):Int)<2)=true:=dqT (by omega)
     generalize (w::t).map yAa=P at *;simp only[evs,i0,ne,ll,cT,d1]
 refine dZ rfl (d+2) rfl rfl yAh (cH (sp _) rfl ?_);show xs (aF fns (d+2)) _ [qq (.d (.str z)),qq (.d (.list ((w::t).map yAa)))] S=_;generalize (w::t).map yAa=P at *;exact eO tst (bT (by simp only[evs]))
noncomputable def fL(p:Str×List Nat):D:=.tuple (.str p.1::p.2.map nD)
noncomputable def aY(p:Str×List Nat):List Str:=p.1::p.2.map bE
noncomputable def aV(p:Str×List Nat):Str:=Txt.join " " (aY p)
noncomputable def aGE(r:Rw):Str×List Nat:=(r.wd.s,r.w::r.args)
structure LnOk(p:Str×List Nat):Prop where
 w:p.1.length<=20
 c:∀ c∈p.1.cps.toList,97<=c/\c<=122
 n:∀ n∈p.2,n<10^20
 l:p.2.length<=8
theorem aN8{r:Rw}(ar:Ar r)(b:Bd r):LnOk (aGE r):=⟨aDV _,aC2 _,λ n m=>by
 rcases List.mem_cons.mp m with rfl | m
 ·exact b.1
 ·exact b.2 n m,by
 have:=wA r.wd;rw[<- ar] at this;show(r.w::r.args).length<=8;simp;omega⟩
theorem aMr{aD:List Nat}(b:∀ o∈aD,o<10^20)(l:aD.length<=8):LnOk (("out" : Str),aD):=⟨show("out" : Str).length<=20 by decide,show ∀ c∈("out" : Str).cps.toList,97<=c/\c<=122 by decide +kernel,b,l⟩
theorem aEv{p:Str×List Nat}(h:LnOk p):∀ x∈aY p,x.length<=20:=λ x m=>by
 rcases List.mem_cons.mp m with rfl | m
 ·exact h.w
 ·obtain⟨n,mn,rfl⟩:=List.mem_map.mp m;exact pN (h.n n mn)
theorem aD7{p:Str×List Nat}(h:LnOk p):((aY p).map (·.length)).sum+(aY p).length<=200:=by
 have s:=kX (λ p:Str=>p.length) 20 (aY p) (aEv h)
 have l:(aY p).length<=9:=by
  have:=h.l;unfold aY;simp;omega
 omega
theorem aEs{p:Str×List Nat}(h:LnOk p):(aV p).length<=200:=by
 have j:=pJ 32 (aY p);have:=aD7 h;unfold aV;rw[fN];omega
theorem aKV{p:Str×List Nat}(h:LnOk p){c:Nat}(m:c∈(aV p).cps.toList):c=32\/(48<=c/\c<=122):=by
 unfold aV at m;rw[fN] at m;rcases aDL m with z | ⟨x,mx,z⟩
 ·exact .inl z
 ·right
  rcases List.mem_cons.mp mx with rfl | mx
  ·have:=h.c c z;omega
  ·obtain⟨n,_,rfl⟩:=List.mem_map.mp mx;have:=pP n c z;omega
theorem aEK:∀ ps:List Str,pV (ps.map yAa)=qq ps
 | []=>rfl
 | a::l=>by
   show(pV (l.map yAa)).bind _=_;rw[aEK l];rfl
theorem nL{sep:Str}{ps:List Str}(h1:sep.length=1)(h:(ps.map (·.length)).sum+ps.length<=1000000):mJ (.str sep) (.list (ps.map yAa))=qq (.str (Txt.join sep ps)):=by
 show(pV (ps.map yAa)).bind _=_;rw[aEK,oB,if_pos (by rw[h1];omega)]
theorem aK1{n:Nat}(h:n<10^20):tL (.int n)=qq (.str (bE n)):=by
 refine if_pos ?_;show(Int.natAbs ((n:Nat):Int)).log2<1920;rw[Int.natAbs_natCast]
 by_cases z:n=0
 ·subst z;decide
 ·exact(Nat.log2_lt z).mpr (xAc h (xAg (by decide:10^20<=2^70) (yEt (by decide) (by decide))))
theorem yS:(" " : Str).length=1:=by decide
theorem nl1:("\n" : Str).length=1:=by decide
noncomputable def bD(rs:List Rw)(aD:List Nat):List (Str×List Nat):=rs.map aGE++[(("out" : Str),aD)]
noncomputable def lC(rs:List Rw)(aD:List Nat):Str:=Txt.join "\n" ((bD rs aD).map aV)
theorem vP{rs:List Rw}{aD:List Nat}(ar:∀ r∈rs,Ar r)(bd:∀ r∈rs,Bd r)(bo:∀ o∈aD,o<10^20)(lo:aD.length<=8):∀ p∈bD rs aD,LnOk p:=λ p m=>by
 rcases List.mem_append.mp m with m | m
 ·obtain⟨r,mr,rfl⟩:=List.mem_map.mp m;exact aN8 (ar r mr) (bd r mr)
 ·rw[List.mem_singleton.mp m];exact aMr bo lo
theorem aAr{ps:List (Str×List Nat)}(h:∀ p∈ps,LnOk p)(hl:ps.length<=200):((ps.map aV).map (·.length)).sum+(ps.map aV).length<=50000:=by
 have s:=kX (λ p:Str=>p.length) 200 (ps.map aV) λ x m=>by
  obtain⟨p,mp,rfl⟩:=List.mem_map.mp m;exact aEs (h p mp)
 rw[yAb] at s ⊢;omega
theorem aJV{ps:List (Str×List Nat)}(h:∀ p∈ps,LnOk p)(hl:ps.length<=200):(Txt.join "\n" (ps.map aV)).length<=50000:=by
 have j:=pJ 10 (ps.map aV);have:=aAr h hl;rw[xC];omega
theorem aH3{ps:List (Str×List Nat)}(h:∀ p∈ps,LnOk p):∀ x∈ps.map aV,10 ∉ x.cps.toList:=λ x m z=>by
 obtain⟨p,mp,rfl⟩:=List.mem_map.mp m;have:=aKV (h p mp) z;omega
theorem rL(S0:aB)(l:List D)(x:D)(h:l.length<=1000):eU (S0++[qq l]) (.loc S0.length) (.d x)=qq (.d .none,S0++[qq (l++[x])]):=by
 unfold eU;simp only[yAd (yAe S0.length),yCr,yBr];rw[if_pos (by rw[qo];omega)]
 rw[List.set_append_right _ _ (yAe _),yCr];rfl
theorem vO(S0:aB)(l:List D):(S0++[qq l])[S0.length]? = qq (qq l):=by
 rw[yAd (yAe _),yCr];rfl
noncomputable def dR(S:aB)(rs:List Rw):aB:=S++[qq (rs.map Rw.d)]
theorem aFC(r:Rw):aZ .Is r.d .none=qq (.bool false):=rfl
theorem aKb(l:List D):aZ .Is (.tuple l) .none=qq (.bool false):=rfl
theorem aCE(d:Nat)(S:aB)(L:D):∀ (l aG:List Rw) (k:Nat) (a2 a3 a4:Option W),(∀ r∈l,Ar r)->(∀ r∈l,Bd r)->aG.length+l.length<=500->∃ a2' a3' a4':Option W,
 mK (.many [2,3]) (xx (aE fns gns aC (d+3)).1 (aE fns gns aC (d+3)).2 aC iU) (((l.map λ r=>yAa (bY r)).zipIdx k).map λ p=>yBp [.int (p.2:Nat),p.1]) [qq (.d L),qq (.loc S.length),a2,a3,a4] (dR S aG)=qq (.fl (.nx [qq (.d L),qq (.loc S.length),a2',a3',a4']),dR S (aG++l))
 | [],aG,k,a2,a3,a4,_,_,_=>⟨a2,a3,a4,by rw[yAu];rfl⟩
 | r::l,aG,k,a2,a3,a4,ar,bd,hl=>by
   have hll:aG.length+(l.length+1)<=500:=hl;obtain⟨b2,b3,b4,ih⟩:=aCE d S L l (aG++[r]) (k+1) (qq (.d (.int k))) (qq (.d (.str (bY r)))) (qq (.d r.d)) (λ q m=>ar q (xAf _ m)) (λ q m=>bd q (xAf _ m)) (by simp;omega)
   refine⟨b2,b3,b4,?_⟩;have ri:cD fns gns aC (d+3) 10 [.d (.str (bY r))] (dR S aG)=qq (.d r.d,dR S aG):=(gF (d+2) 10 _ _ (by decide)).trans (aDN d r (ar r xAd) (bd r xAd) _)
   have ap:eU (dR S aG) (.loc S.length) (.d r.d)=qq (.d .none,dR S (aG++[r])):=by
    unfold dR;rw[yAr];exact rL S (aG.map Rw.d) r.d (by simp;omega)
   have nn:=aFC r;have el:aG++r::l=(aG++[r])++l:=by simp
   rw[el];show((xx (aE fns gns aC (d+3)).1 (aE fns gns aC (d+3)).2 aC iU [qq (.d L),qq (.loc S.length),qq (.d (.int k)),qq (.d (.str (bY r))),a4] (dR S aG)).bind λ q=>_)=_
   have e:xx (aE fns gns aC (d+3)).1 (aE fns gns aC (d+3)).2 aC iU [qq (.d L),qq (.loc S.length),qq (.d (.int k)),qq (.d (.str (bY r))),a4] (dR S aG)=qq (.fl (.nx [qq (.d L),qq (.loc S.length),qq (.d (.int k)),qq (.d (.str (bY r))),qq (.d r.d)]),dR S (aG++[r])):=by
    generalize r.d=R at *;generalize bY r=Z at *;refine xk (cN (fl:=.nx [qq (.d L),qq (.loc S.length),qq (.d (.int k)),qq (.d (.str Z)),qq (.d R)]) (S1:=dR S aG) (by simp only[evs,dN,ri])) ?_
    refine xk (fK (S1:=dR S aG) (by simp only[evs,nn]) rfl) (xk (cN (fl:=.nx [qq (.d L),qq (.loc S.length),qq (.d (.int k)),qq (.d (.str Z)),qq (.d R)]) (S1:=dR S (aG++[r])) (by simp only[evs,fX,ap])) rfl)
   rw[e,oB];exact ih
theorem aDo(d:Nat)(rs:List Rw)(ar:∀ r∈rs,Ar r)(bd:∀ r∈rs,Bd r)(lr:rs.length<=100)(S:aB):cK fns gns aC (d+4) 32 [.d (.list (rs.map λ r=>yAa (bY r)))] S=qq (.ok (.d (.tuple (rs.map Rw.d))),S):=by
 rw[show cK fns gns aC (d+4) 32=cK fns gns aC (d+4) (fns.length+2) from rfl,mD (x:=nI) rfl rfl (d+3) _ S rfl]
 obtain⟨a2,a3,a4,lp⟩:=aCE d S (.list (rs.map λ r=>yAa (bY r))) rs [] 0 qz qz qz ar bd (by simp;omega)
 rw[yDg] at lp;have it:lv (aE fns gns aC (d+3)).1 nE [qq (.d (.list (rs.map λ r=>yAa (bY r)))),qq (.loc S.length),qz,qz,qz] (dR S [])=qq (((rs.map λ r=>yAa (bY r)).zipIdx).map (λ p=>yBp [.int (p.2:Nat),p.1]),dR S []):=by
  simp only[nE,pT];exact aCD (by simp only[evs])
 have gl:(dR S rs)[S.length]? = qq (qq (rs.map Rw.d)):=vO S _;have tk:(dR S rs).take S.length=S:=yEi;generalize (aE fns gns aC (d+3)).1=C at *;generalize (aE fns gns aC (d+3)).2=CX at *;generalize yEf (rs.map λ r=>yAa (bY r))=L at *
 unfold eQ;show((xx C CX aC nI [qq (.d L),qz,qz,qz,qz] S).bind _)=_;have e:xx C CX aC nI [qq (.d L),qz,qz,qz,qz] S=qq (.fl (.rt (.d (.tuple (rs.map Rw.d)))),dR S rs):=by
  refine xk (cN (fl:=.nx [qq (.d L),qq (.loc S.length),qz,qz,qz]) (S1:=dR S []) (by simp only[evs,fG];rfl)) ?_
  refine xk (e1:=[qq (.d L),qq (.loc S.length),a2,a3,a4]) (S1:=dR S rs) ?_ (wO (cN (by simp only[evs,gl,sB,sG])))
  show mO (.many [2,3]) (lv C nE) (xx C CX aC iU) _ _=_;unfold mO;rw[it,oB];exact lp
 rw[e,oB];show qq (ResX.ok (.d (.tuple (rs.map Rw.d))),(dR S rs).take S.length)=_;rw[tk]
noncomputable def aGF(rs:List Rw)(aD:List Nat):Option (Ft4×Nat)->ResX
 | none=>.ok (.d (bX rs aD))
 | some z=>.ex z.1.c (.int (z.2:Nat))
theorem aEh(d:Nat)(rs:List Rw)(aD:List Nat)(ar:∀ r∈rs,Ar r)(bd:∀ r∈rs,Bd r)(bo:∀ o∈aD,o<10^20)(lr:rs.length<=100)(l1:1<=aD.length)(lo:aD.length<=8)(S:aB):cK fns gns aC (d+5) 33 [.d (.str (lC rs aD))] S=qq (aGF rs aD (pZ rs aD),S):=by
 rw[show cK fns gns aC (d+5) 33=cK fns gns aC (d+5) (fns.length+3) from rfl,mD (x:=tD) rfl rfl (d+4) _ S rfl]
 have lk:=vP ar bd bo lo;have ll:(bD rs aD).length<=200:=by unfold bD;simp;omega
 have el:((bD rs aD).map aV).map yAa=(rs.map λ r=>yAa (bY r))++[.str (fW aD)]:=by
  unfold bD;rw[yAr,yAr,yCa,yCa];rfl
 have sp:∀ (C:Calls) e,ev C (.fz (.spl (.var 0) (.str "\n"))) (qq (.d (.str (lC rs aD)))::e) S=qq (.d (.list ((rs.map λ r=>yAa (bY r))++[.str (fW aD)])),S):=λ C e=>by
  rw[<- el];exact wH xC rfl (by unfold bD;simp) (aH3 lk) (xAg (aJV lk ll) (by decide))
 have ln:dA [.list ((rs.map λ r=>yAa (bY r))++[.str (fW aD)])]=qq (.int ((rs.length+1:Nat):Int)):=by
  rw[cA];simp
 have e1:((rs.length+1:Nat):Int)-1=((rs.length:Nat):Int):=by omega
 have cf:cC ((rs.map λ r=>yAa (bY r))++[.str (fW aD)]) qz (qq ((rs.length:Nat):Int))=rs.map λ r=>yAa (bY r):=by
  rw[aBa];exact List.take_left' (by rw[yAb])
 have il:bH (.list ((rs.map λ r=>yAa (bY r))++[.str (fW aD)])) (.int ((rs.length:Nat):Int))=qq (.str (fW aD)):=eA (by rw[yAd (by simp)];simp)
 have ri:=aDo d rs ar bd lr S;have oi:cD fns gns aC (d+4) 11 [.d (.str (fW aD))] S=qq (.d (.tuple (aD.map nD)),S):=(gF (d+3) 11 _ _ (by decide)).trans (aIJ (d+1) aD bo l1 lo S)
 have lo':=aLa d rs aD ar (by omega) (by omega) S
 have nn:=aKb (aD.map nD);have is:∀ z:Str,fP .str (.str z)=qq (.bool true):=λ _=>rfl
 generalize pZ rs aD=z at *;have ep:bX rs aD=.tuple [.tuple (rs.map Rw.d),.tuple (aD.map nD)]:=rfl;unfold aGF;rw[ep] at lo' ⊢;generalize (rs.map λ r=>yAa (bY r))++[.str (fW aD)]=LL at *
 generalize (rs.map λ r=>yAa (bY r))=RL at *
 generalize yBp (rs.map Rw.d)=RT at *;generalize yBp (aD.map nD)=OT at *;generalize lC rs aD=TX at *;generalize fW aD=OS at *;have s1:xx (aE fns gns aC (d+4)).1 (aE fns gns aC (d+4)).2 aC (.set 3 32 (.cons (.sl (.var 1) .no (.cons (.var 2) .nil)) .nil)) [qq (.d (.str TX)),qq (.d (.list LL)),qq (.d (.int rs.length)),qz,qz,qz] S=qq (.fl (.nx [qq (.d (.str TX)),qq (.d (.list LL)),qq (.d (.int rs.length)),qq (.d RT),qz,qz]),S):=by
  show kI 3 (gT (aE fns gns aC (d+4)).2 32 (av (aE fns gns aC (d+4)).1 (.cons (.sl (.var 1) .no (.cons (.var 2) .nil)) .nil))) _ S=_;have e:av (aE fns gns aC (d+4)).1 (.cons (.sl (.var 1) .no (.cons (.var 2) .nil)) .nil) [qq (.d (.str TX)),qq (.d (.list LL)),qq (.d (.int rs.length)),qz,qz,qz] S=qq ([.d (.list RL)],S):=by simp only[evs,dL,cY,dS,cf]
  unfold kI;rw[pE,e,oB,ri];rfl
 have s2:xx (aE fns gns aC (d+4)).1 (aE fns gns aC (d+4)).2 aC (.cal 31 (.cons (.var 5) .nil)) [qq (.d (.str TX)),qq (.d (.list LL)),qq (.d (.int rs.length)),qq (.d RT),qq (.d OT),qq (.d (.tuple [RT,OT]))] S=qq (flL [qq (.d (.str TX)),qq (.d (.list LL)),qq (.d (.int rs.length)),qq (.d RT),qq (.d OT),qq (.d (.tuple [RT,OT]))] z,S):=by
  show lA (gT (aE fns gns aC (d+4)).2 31 (av (aE fns gns aC (d+4)).1 (.cons (.var 5) .nil))) _ S=_;have e:av (aE fns gns aC (d+4)).1 (.cons (.var 5) .nil) [qq (.d (.str TX)),qq (.d (.list LL)),qq (.d (.int rs.length)),qq (.d RT),qq (.d OT),qq (.d (.tuple [RT,OT]))] S=qq ([.d (.tuple [RT,OT])],S):=by simp only[evs]
  unfold lA;rw[pE,e,oB,lo'];cases z<;>rfl
 have s3:∀ e,ev (aE fns gns aC (d+4)).1 (.call 11 (.cons (.ix (.var 1) (.var 2)) .nil)) (qq (.d (.str TX))::qq (.d (.list LL))::qq (.d (.int rs.length))::e) S=qq (.d OT,S):=λ e=>by simp only[evs,dN,il,oi]
 have sp:=λ e=>sp (aE fns gns aC (d+4)).1 e
 generalize (aE fns gns aC (d+4)).1=C at *;generalize (aE fns gns aC (d+4)).2=CX at *;have pre:∀ {fx:FlX},xx C CX aC (.seq (.cal 31 (.cons (.var 5) .nil)) (.seq (.s (.ret (.var 5))) .skip)) [qq (.d (.str TX)),qq (.d (.list LL)),qq (.d (.int rs.length)),qq (.d RT),qq (.d OT),qq (.d (.tuple [RT,OT]))] S=qq (fx,S)->xx C CX aC tD [qq (.d (.str TX)),qz,qz,qz,qz,qz] S=qq (fx,S):=λ {fx} h=>by
  refine xk (fK (S1:=S) (by simp only[evs,is]) rfl) ?_
  refine xk (cN (fl:=.nx [qq (.d (.str TX)),qq (.d (.list LL)),qz,qz,qz,qz]) (S1:=S) (by simp only[nM,dJ,sp,oB];rfl)) ?_
  refine xk (cN (fl:=.nx [qq (.d (.str TX)),qq (.d (.list LL)),qq (.d (.int rs.length)),qz,qz,qz]) (S1:=S) (by simp only[evs,ln,eG,e1])) ?_
  refine xk s1 ?_;refine xk (cN (fl:=.nx [qq (.d (.str TX)),qq (.d (.list LL)),qq (.d (.int rs.length)),qq (.d RT),qq (.d OT),qz]) (S1:=S) (by simp only[nM,dJ,s3,oB];rfl)) ?_
  refine xk (fK (S1:=S) (by simp only[evs,nn]) rfl) ?_
  refine xk (cN (fl:=.nx [qq (.d (.str TX)),qq (.d (.list LL)),qq (.d (.int rs.length)),qq (.d RT),qq (.d OT),qq (.d (.tuple [RT,OT]))]) (S1:=S) (by simp only[evs])) h
 cases z with
 | none =>
   have s2:xx C CX aC (.cal 31 (.cons (.var 5) .nil)) [qq (.d (.str TX)),qq (.d (.list LL)),qq (.d (.int rs.length)),qq (.d RT),qq (.d OT),qq (.d (.tuple [RT,OT]))] S=qq (.fl (.nx [qq (.d (.str TX)),qq (.d (.list LL)),qq (.d (.int rs.length)),qq (.d RT),qq (.d OT),qq (.d (.tuple [RT,OT]))]),S):=s2;exact aEq rfl (pre (xk s2 (wO (cN (by simp only[evs])))))
 | some z=>exact jS rfl (pre (dH s2))
theorem aCY{α:Type}{t:Tg}{fb:FS}{S:aB}(P:aS->Prop)(r:W)(enc:α->D)(bad:α->Bool):∀ (l:List α) (env:aS),P env->(∀ a∈l,∀ env,P env->∃ e1,t.put (enc a) env=qq e1/\(bad a=true->fb e1 S=qq (.rt r,S))/\(bad a=false->∃ aK,fb e1 S=qq (.nx aK,S)/\P aK)) ->
 (l.any bad=true->eC t fb (l.map enc) env S=qq (.rt r,S))/\(l.any bad=false->∃ aK,eC t fb (l.map enc) env S=qq (.nx aK,S)/\P aK)
 | [],env,h0,_=>⟨λ h=>(by cases h),λ _=>⟨env,rfl,h0⟩⟩
 | a::l,env,h0,h=>by
   obtain⟨e1,h1,h2,h3⟩:=h a xAd env h0;cases c:bad a with
   | true =>
     refine⟨λ _=>?_,λ h=>by rw[yEu,c] at h;cases h⟩
     simp only[yAi,eC,h1,oB,h2 c]
   | false =>
     obtain⟨aK,h4,h5⟩:=h3 c;obtain⟨h6,h7⟩:=aCY P r enc bad l aK h5 λ x hx=>h x (xAf _ hx)
     rw[yEu,c,Bool.false_or];refine⟨λ q=>?_,λ q=>?_⟩
     ·simp only[yAi,eC,h1,oB,h4];exact h6 q
     ·obtain⟨env2,h8,h9⟩:=h7 q;refine⟨env2,?_,h9⟩;simp only[yAi,eC,h1,oB,h4];exact h8
theorem aJZ{α:Type}{t:Tg}{fi:FL}{fb:FS}{env:aS}{S S1:aB}(P:aS->Prop)(r:W)(enc:α->D)(bad:α->Bool)(l:List α)(hi:fi env S=qq (l.map enc,S1))(h0:P env)(h:∀ a∈l,∀ env,P env->∃ e1,t.put (enc a) env=qq e1/\(bad a=true->fb e1 S1=qq (.rt r,S1))/\(bad a=false->∃ aK,fb e1 S1=qq (.nx aK,S1)/\P aK)) :
 (l.any bad=true->iN t fi fb env S=qq (.rt r,S1))/\(l.any bad=false->∃ aK,iN t fi fb env S=qq (.nx aK,S1)/\P aK):=by
 obtain⟨h1,h2⟩:=aCY (t:=t) (fb:=fb) (S:=S1) P r enc bad l env h0 h;unfold iN;rw[hi,oB];exact⟨h1,h2⟩
noncomputable def iL:List Str->Nat->Option Nat
 | [],_=>qz
 | z::l,k=>if dI (Txt.split z " ")=true then iL l (k+1) else qq k
theorem aFk{z:Str}(h:dI (Txt.split z " ")=true):∃ r:Rw,Ar r/\Bd r/\z=bY r:=by
 obtain⟨w,t,es⟩:=vI z;rw[es] at h;obtain⟨r,ar,bd,e⟩:=aIp h;refine⟨r,ar,bd,?_⟩;rw[<- vE z,es,e];rfl
theorem aEM:∀ {zs:List Str}{k:Nat},iL zs k=qz->∃ rs:List Rw,(∀ r∈rs,Ar r)/\(∀ r∈rs,Bd r)/\zs=rs.map bY
 | [],_,_=>⟨[],(λ r m=>by cases m),(λ r m=>by cases m),rfl⟩
 | z::l,k,h=>by
   unfold iL at h
   by_cases c:dI (Txt.split z " ")=true
   ·rw[if_pos c] at h;obtain⟨r,ar,bd,rfl⟩:=aFk c;obtain⟨rs,a,b,rfl⟩:=aEM h;refine⟨r::rs,λ q m=>?_,λ q m=>?_,rfl⟩
    ·rcases List.mem_cons.mp m with rfl | m
     ·exact ar
     ·exact a q m
    ·rcases List.mem_cons.mp m with rfl | m
     ·exact bd
     ·exact b q m
   ·rw[if_neg c] at h;cases h
theorem aEt(d:Nat)(S:aB)(L:D):∀ (l:List Str) (aG:List D) (k j:Nat) (a2 a3 a4:Option W),(∀ z∈l,Ln z)->aG.length+l.length<=500->iL l k=qq j->∃ (e:aS) (acc':List D),
 mK (.many [2,3]) (xx (aE fns gns aC (d+3)).1 (aE fns gns aC (d+3)).2 aC iU) (((l.map yAa).zipIdx k).map λ p=>yBp [.int (p.2:Nat),p.1]) [qq (.d L),qq (.loc S.length),a2,a3,a4] (S++[qq aG])=qq (.ex e "NoLine" (.int j),S++[qq acc'])
 | [],aG,k,j,a2,a3,a4,_,_,h=>by cases h
 | z::l,aG,k,j,a2,a3,a4,ln,hl,h=>by
   have hll:aG.length+(l.length+1)<=500:=hl;unfold iL at h
   by_cases c:dI (Txt.split z " ")=true
   ·rw[if_pos c] at h;obtain⟨r,ar,bd,rfl⟩:=aFk c;obtain⟨e0,acc',ih⟩:=aEt d S L l (aG++[r.d]) (k+1) j (qq (.d (.int k))) (qq (.d (.str (bY r)))) (qq (.d r.d)) (λ q m=>ln q (xAf _ m)) (by simp;omega) h
    refine⟨e0,acc',?_⟩;have ri:cD fns gns aC (d+3) 10 [.d (.str (bY r))] (S++[qq aG])=qq (.d r.d,S++[qq aG]):=(gF (d+2) 10 _ _ (by decide)).trans (aDN d r ar bd _)
    have ap:=rL S aG r.d (by omega)
    have nn:=aFC r;show((xx (aE fns gns aC (d+3)).1 (aE fns gns aC (d+3)).2 aC iU [qq (.d L),qq (.loc S.length),qq (.d (.int k)),qq (.d (.str (bY r))),a4] (S++[qq aG])).bind λ q=>_)=_
    have e:xx (aE fns gns aC (d+3)).1 (aE fns gns aC (d+3)).2 aC iU [qq (.d L),qq (.loc S.length),qq (.d (.int k)),qq (.d (.str (bY r))),a4] (S++[qq aG])=qq (.fl (.nx [qq (.d L),qq (.loc S.length),qq (.d (.int k)),qq (.d (.str (bY r))),qq (.d r.d)]),S++[qq (aG++[r.d])]):=by
     generalize r.d=R at *;generalize bY r=Z at *;refine xk (cN (fl:=.nx [qq (.d L),qq (.loc S.length),qq (.d (.int k)),qq (.d (.str Z)),qq (.d R)]) (S1:=S++[qq aG]) (by simp only[evs,dN,ri])) ?_
     refine xk (fK (S1:=S++[qq aG]) (by simp only[evs,nn]) rfl) (xk (cN (fl:=.nx [qq (.d L),qq (.loc S.length),qq (.d (.int k)),qq (.d (.str Z)),qq (.d R)]) (S1:=S++[qq (aG++[R])]) (by simp only[evs,fX,ap])) rfl)
    rw[e,oB];exact ih
   ·rw[if_neg c] at h;cases h;have ri:cD fns gns aC (d+3) 10 [.d (.str z)] (S++[qq aG])=qq (.d .none,S++[qq aG]):=(gF (d+2) 10 _ _ (by decide)).trans (aI6 d z (ln z xAd) (Bool.eq_false_iff.mpr c) _)
    have nn:aZ .Is .none .none=qq (.bool true):=rfl;refine⟨[qq (.d L),qq (.loc S.length),qq (.d (.int k)),qq (.d (.str z)),qq (.d .none)],aG,?_⟩;show((xx (aE fns gns aC (d+3)).1 (aE fns gns aC (d+3)).2 aC iU [qq (.d L),qq (.loc S.length),qq (.d (.int k)),qq (.d (.str z)),a4] (S++[qq aG])).bind λ q=>_)=_
    have e:xx (aE fns gns aC (d+3)).1 (aE fns gns aC (d+3)).2 aC iU [qq (.d L),qq (.loc S.length),qq (.d (.int k)),qq (.d (.str z)),a4] (S++[qq aG])=qq (.ex [qq (.d L),qq (.loc S.length),qq (.d (.int k)),qq (.d (.str z)),qq (.d .none)] "NoLine" (.int k),S++[qq aG]):=by
     refine xk (cN (fl:=.nx [qq (.d L),qq (.loc S.length),qq (.d (.int k)),qq (.d (.str z)),qq (.d .none)]) (S1:=S++[qq aG]) (by simp only[evs,dN,ri])) ?_
     exact dH (mV (S1:=S++[qq aG]) (by simp only[evs,nn]) (dH rfl))
    rw[e,oB]
theorem aIa(d:Nat)(zs:List Str)(ln:∀ z∈zs,Ln z)(lz:zs.length<=100)(j:Nat)(hj:iL zs 0=qq j)(S:aB):cK fns gns aC (d+4) 32 [.d (.list (zs.map yAa))] S=qq (.ex "NoLine" (.int j),S):=by
 rw[show cK fns gns aC (d+4) 32=cK fns gns aC (d+4) (fns.length+2) from rfl,mD (x:=nI) rfl rfl (d+3) _ S rfl]
 obtain⟨e0,acc',lp⟩:=aEt d S (.list (zs.map yAa)) zs [] 0 j qz qz qz ln (by simp;omega) hj
 have it:lv (aE fns gns aC (d+3)).1 nE [qq (.d (.list (zs.map yAa))),qq (.loc S.length),qz,qz,qz] (S++[qq []])=qq (((zs.map yAa).zipIdx).map (λ p=>yBp [.int (p.2:Nat),p.1]),S++[qq []]):=by
  simp only[nE,pT];exact aCD (by simp only[evs])
 generalize (aE fns gns aC (d+3)).1=C at *;generalize (aE fns gns aC (d+3)).2=CX at *;generalize yEf (zs.map yAa)=L at *;unfold eQ;show((xx C CX aC nI [qq (.d L),qz,qz,qz,qz] S).bind _)=_;have e:xx C CX aC nI [qq (.d L),qz,qz,qz,qz] S=qq (.ex e0 "NoLine" (.int j),S++[qq acc']):=by
  refine xk (cN (fl:=.nx [qq (.d L),qq (.loc S.length),qz,qz,qz]) (S1:=S++[qq []]) (by simp only[evs,fG])) ?_
  refine dH ?_;show mO (.many [2,3]) (lv C nE) (xx C CX aC iU) _ _=_;unfold mO;rw[it,oB];exact lp
 rw[e,oB];show qq (ResX.ex "NoLine" (.int j),(S++_).take S.length)=_;rw[yEi]
noncomputable def fY(zs:List Str)(o:Str):Option Nat:=match iL zs 0 with
 | some k=>qq k
 | none=>if fD (Txt.split o " ")=true then qz else qq zs.length
noncomputable def kF(zs:List Str)(o:Str):Str:=Txt.join "\n" (zs++[o])
theorem aLm{zs:List Str}{o:Str}(ln:∀ z∈zs,Ln z)(lo:Ln o)(lz:zs.length<=100):(kF zs o).length<=500000:=by
 have j:=pJ 10 (zs++[o]);have s:=kX (λ p:Str=>p.length) 2000 (zs++[o]) λ x m=>by
  rcases List.mem_append.mp m with m | m
  ·exact(ln x m).l
  ·rw[List.mem_singleton.mp m];exact lo.l
 have l:(zs++[o]).length<=101:=by simp;omega
 unfold kF;rw[xC];omega
theorem aDw(d:Nat)(zs:List Str)(o:Str)(ln:∀ z∈zs,Ln z)(lo:Ln o)(lz:zs.length<=100)(j:Nat)(hj:fY zs o=qq j)(S:aB):cK fns gns aC (d+5) 33 [.d (.str (kF zs o))] S=qq (.ex "NoLine" (.int j),S):=by
 rw[show cK fns gns aC (d+5) 33=cK fns gns aC (d+5) (fns.length+3) from rfl,mD (x:=tD) rfl rfl (d+4) _ S rfl]
 have sp:∀ (C:Calls) e,ev C (.fz (.spl (.var 0) (.str "\n"))) (qq (.d (.str (kF zs o)))::e) S=qq (.d (.list ((zs++[o]).map yAa)),S):=λ C e=>by
  refine wH xC rfl (by simp) (λ p m=>?_) (xAg (aLm ln lo lz) (by decide))
  rcases List.mem_append.mp m with m | m
  ·exact(ln p m).n
  ·rw[List.mem_singleton.mp m];exact lo.n
 have em:(zs++[o]).map yAa=zs.map yAa++[.str o]:=by rw[yAr];rfl
 rw[em] at sp;have l1:dA [.list (zs.map yAa++[.str o])]=qq (.int ((zs.length+1:Nat):Int)):=by
  rw[cA];simp
 have e1:((zs.length+1:Nat):Int)-1=((zs.length:Nat):Int):=by omega
 have cf:cC (zs.map yAa++[.str o]) qz (qq ((zs.length:Nat):Int))=zs.map yAa:=by
  rw[aBa];exact List.take_left' (by rw[yAb])
 have il:bH (.list (zs.map yAa++[.str o])) (.int ((zs.length:Nat):Int))=qq (.str o):=eA (by rw[yAd (by simp)];simp)
 have is:∀ z:Str,fP .str (.str z)=qq (.bool true):=λ _=>rfl
 have nn:aZ .Is .none .none=qq (.bool true):=rfl;have sp:=λ e=>sp (aE fns gns aC (d+4)).1 e
 cases hb:iL zs 0 with
 | some k =>
   unfold fY at hj;simp only[hb] at hj;cases hj;have ri:=aIa d zs ln lz j hb S;generalize kF zs o=TX at *;generalize zs.map yAa++[.str o]=LL at *;generalize zs.map yAa=RL at *;have s1:xx (aE fns gns aC (d+4)).1 (aE fns gns aC (d+4)).2 aC (.set 3 32 (.cons (.sl (.var 1) .no (.cons (.var 2) .nil)) .nil)) [qq (.d (.str TX)),qq (.d (.list LL)),qq (.d (.int zs.length)),qz,qz,qz] S=qq (.ex [qq (.d (.str TX)),qq (.d (.list LL)),qq (.d (.int zs.length)),qz,qz,qz] "NoLine" (.int j),S):=by
    show kI 3 (gT (aE fns gns aC (d+4)).2 32 (av (aE fns gns aC (d+4)).1 (.cons (.sl (.var 1) .no (.cons (.var 2) .nil)) .nil))) _ S=_;have e:av (aE fns gns aC (d+4)).1 (.cons (.sl (.var 1) .no (.cons (.var 2) .nil)) .nil) [qq (.d (.str TX)),qq (.d (.list LL)),qq (.d (.int zs.length)),qz,qz,qz] S=qq ([.d (.list RL)],S):=by simp only[evs,dL,cY,dS,cf]
    unfold kI;rw[pE,e,oB,ri];rfl
   generalize (aE fns gns aC (d+4)).1=C at *;generalize (aE fns gns aC (d+4)).2=CX at *;refine jS (env:=[qq (.d (.str TX)),qz,qz,qz,qz,qz]) (e:=[qq (.d (.str TX)),qq (.d (.list LL)),qq (.d (.int zs.length)),qz,qz,qz]) rfl ?_;refine xk (fK (S1:=S) (by simp only[evs,is]) rfl) ?_
   refine xk (cN (fl:=.nx [qq (.d (.str TX)),qq (.d (.list LL)),qz,qz,qz,qz]) (S1:=S) (by simp only[nM,dJ,sp,oB];rfl)) ?_
   refine xk (cN (fl:=.nx [qq (.d (.str TX)),qq (.d (.list LL)),qq (.d (.int zs.length)),qz,qz,qz]) (S1:=S) (by simp only[evs,l1,eG,e1])) ?_
   exact dH s1
 | none =>
   unfold fY at hj;simp only[hb] at hj;have hg:fD (Txt.split o " ")=false:=by
    by_cases c:fD (Txt.split o " ")=true
    ·rw[if_pos c] at hj;cases hj
    ·exact Bool.eq_false_iff.mpr c
   rw[hg,if_neg (by decide)] at hj
   cases hj;obtain⟨rs,ar,bd,er⟩:=aEM hb;have ri:cK fns gns aC (d+4) 32 [.d (.list (zs.map yAa))] S=qq (.ok (.d (.tuple (rs.map Rw.d))),S):=by
    have:=aDo d rs ar bd (by rw[er,yAb] at lz;omega) S
    rw[er,yCa];exact this
   have oi:cD fns gns aC (d+4) 11 [.d (.str o)] S=qq (.d .none,S):=(gF (d+3) 11 _ _ (by decide)).trans (aH6 (d+1) o lo hg S)
   generalize zs.length=n at *;generalize kF zs o=TX at *;generalize zs.map yAa++[.str o]=LL at *;generalize zs.map yAa=RL at *;generalize yBp (rs.map Rw.d)=RT at *;have s1:xx (aE fns gns aC (d+4)).1 (aE fns gns aC (d+4)).2 aC (.set 3 32 (.cons (.sl (.var 1) .no (.cons (.var 2) .nil)) .nil)) [qq (.d (.str TX)),qq (.d (.list LL)),qq (.d (.int n)),qz,qz,qz] S=qq (.fl (.nx [qq (.d (.str TX)),qq (.d (.list LL)),qq (.d (.int n)),qq (.d RT),qz,qz]),S):=by
    show kI 3 (gT (aE fns gns aC (d+4)).2 32 (av (aE fns gns aC (d+4)).1 (.cons (.sl (.var 1) .no (.cons (.var 2) .nil)) .nil))) _ S=_;have e:av (aE fns gns aC (d+4)).1 (.cons (.sl (.var 1) .no (.cons (.var 2) .nil)) .nil) [qq (.d (.str TX)),qq (.d (.list LL)),qq (.d (.int n)),qz,qz,qz] S=qq ([.d (.list RL)],S):=by simp only[evs,dL,cY,dS,cf]
    unfold kI;rw[pE,e,oB,ri];rfl
   have s3:∀ e,ev (aE fns gns aC (d+4)).1 (.call 11 (.cons (.ix (.var 1) (.var 2)) .nil)) (qq (.d (.str TX))::qq (.d (.list LL))::qq (.d (.int n))::e) S=qq (.d .none,S):=λ e=>by simp only[evs,dN,il,oi]
   generalize (aE fns gns aC (d+4)).1=C at *;generalize (aE fns gns aC (d+4)).2=CX at *;refine jS (env:=[qq (.d (.str TX)),qz,qz,qz,qz,qz]) (e:=[qq (.d (.str TX)),qq (.d (.list LL)),qq (.d (.int n)),qq (.d RT),qq (.d .none),qz]) rfl ?_;refine xk (fK (S1:=S) (by simp only[evs,is]) rfl) ?_
   refine xk (cN (fl:=.nx [qq (.d (.str TX)),qq (.d (.list LL)),qz,qz,qz,qz]) (S1:=S) (by simp only[nM,dJ,sp,oB];rfl)) ?_
   refine xk (cN (fl:=.nx [qq (.d (.str TX)),qq (.d (.list LL)),qq (.d (.int n)),qz,qz,qz]) (S1:=S) (by simp only[evs,l1,eG,e1])) ?_
   refine xk s1 ?_;refine xk (cN (fl:=.nx [qq (.d (.str TX)),qq (.d (.list LL)),qq (.d (.int n)),qq (.d RT),qq (.d .none),qz]) (S1:=S) (by simp only[nM,dJ,s3,oB];rfl)) ?_
   exact dH (mV (S1:=S) (by simp only[evs,nn]) (dH rfl))
theorem aJW(d:Nat)(x:D)(hx:fP .str x=qq (.bool false))(S:aB):cK fns gns aC (d+1) 33 [.d x] S=qq (.ex "NoLine" (.int 0),S):=by
 rw[show cK fns gns aC (d+1) 33=cK fns gns aC (d+1) (fns.length+3) from rfl,mD (x:=tD) rfl rfl d _ S rfl]
 generalize (aE fns gns aC d).1=C at *;generalize (aE fns gns aC d).2=CX at *;exact jS rfl (dH (mV (S1:=S) (by simp only[evs,hx]) (dH rfl)))
theorem aC4:∀ L:List Str,lU (L.map yAa)=true
 | []=>rfl
 | x::L=>aC4 L
theorem aEn(x:Str):∀ L:List Str,qX (.str x) (L.map yAa)=L.contains x
 | []=>rfl
 | y::L=>by
   have h:=aEn x L;simp only[yAi,qX,h,yBw,yCy];rw[BEq.comm]
theorem aEl{x:Str}{L:List Str}{t:D}(hs:pX t=qq (L.map yAa)):aZ .In (.str x) t=qq (.bool (L.contains x)):=by
 unfold aZ iM;simp only[hs,oB];rw[if_pos ⟨rfl,aC4 L⟩,aEn];rfl
theorem aHU(d:Nat)(x:Str)(ha:mZ x)(hl:x.length<=2000)(S:aB):cl fns (d+1) 23 [.d (.str x)] S=qq (.d (.bool (cL x)),S):=by
 have ll:dA [.str x]=qq (.int x.length):=if_pos (by rw[qo];omega)
 refine dZ rfl d rfl rfl yAh ?_;show xs (aF fns d) _ [qq (.d (.str x)),qz] S=_;have ff:=aJZ (t:=.one 1) (fi:=lv (aF fns d) vB) (fb:=xs (aF fns d) zI) (env:=[qq (.d (.str x)),qz]) (S:=S) (S1:=S) (λ e=>∃ a,e=[qq (.d (.str x)),a]) (.d (.bool false)) mP (λ c=>!dP ⟨#[c]⟩ FG) x.cps.toList
  (by simp only[evs,vB,qK]) ⟨qz,rfl⟩ λ c _ env aJ=>by
    obtain⟨a,he⟩:=aJ;subst he;refine⟨[qq (.d (.str x)),qq (.d (.str ⟨#[c]⟩))],rfl,λ h=>?_,λ h=>?_⟩
    ·have fi:lF true (.str ⟨#[c]⟩) (.str "0123456789")=qq (.bool (!dP ⟨#[c]⟩ FG)):=aBw c true;rw[h] at fi;exact eO (S1:=S) (by simp only[evs,kD,fi]) (bT (by simp only[evs]))
    ·have fi:lF true (.str ⟨#[c]⟩) (.str "0123456789")=qq (.bool (!dP ⟨#[c]⟩ FG)):=aBw c true;rw[h] at fi;exact⟨[qq (.d (.str x)),qq (.d (.str ⟨#[c]⟩))],cS (S1:=S) (by simp only[evs,kD,fi]) rfl,_,rfl⟩
 have ea:(x.cps.toList.any λ c=>!dP ⟨#[c]⟩ FG) = !(x.cps.toList.all λ c=>dP ⟨#[c]⟩ FG):=by rw[List.not_all_eq_any_not]
 rw[ea] at ff;unfold cL;cases hb:(x.cps.toList.all λ c=>dP ⟨#[c]⟩ FG) with
 | false =>
   rw[hb] at ff;have f1:=ff.1 rfl;rw[yFi];show cM _ _ _ _=_;unfold cM;have f1':xs (aF fns d) (.loop (.one 1) vB zI) [qq (.d (.str x)),qz] S=_:=f1;rw[f1',oB]
 | true =>
   rw[hb] at ff;obtain⟨aK,f2,a,rfl⟩:=ff.2 rfl;rw[yFn];refine lD (e1:=[qq (.d (.str x)),a]) (S1:=S) f2 (bT ?_)
   by_cases c1:1<=x.length
   ·have d1:decide ((1:Int)<=((x.length:Nat):Int))=true:=dqT (by omega)
    by_cases c2:x.length<=20
    ·have d2:decide (((x.length:Nat):Int)<=20)=true:=dqT (by omega)
     obtain⟨c,r,ec⟩:∃ c r,x.cps.toList=c::r:=by
      cases e:x.cps.toList with
      | nil =>
        have el:x.cps.toList.length=x.length:=yAk;rw[e] at el;simp at el;omega
      | cons c r=>exact⟨c,r,rfl⟩
     have i0:=aAR ec (by omega)
     have oc:yBt ⟨#[c]⟩=true:=aA1 λ a m=>by
      have:a=c:=by simpa using m
      rw[this];exact ha c (by rw[ec];exact xAd)
     have e0:=aAB oc yL;have e1:=rZ ha.ok yL;rw[aGc] at e0;have eh:x.cps.toList.head? = qq c:=by rw[ec];rfl
     rw[eh,dqT c1,dqT c2];generalize (qq c==qq 48)=b1 at *;generalize (x == "0")=b2 at *;cases b1<;>cases b2<;>simp only[evs,ll,mB,d1,d2,i0,e0,e1,yCu,yBh]
    ·have d2:decide (((x.length:Nat):Int)<=20)=false:=dqF (by omega)
     rw[dqF c2,yFi,yBh];simp only[evs,ll,mB,d1,d2]
   ·have d1:decide ((1:Int)<=((x.length:Nat):Int))=false:=dqF (by omega)
    rw[dqF c1,yBh,yBh];simp only[evs,ll,mB,d1]
noncomputable def tS(w:Str):Nat:=match mS w with
 | some wd=>1+eW wd
 | none=>99
noncomputable def qW:List Str:=["num", "not", "cut", "wide", "sign"]
noncomputable def lQ:List Str:=["and", "or", "xor", "add", "sub", "mul", "same", "less", "under", "left", "right", "slide"]
noncomputable def aBH(w:Str):Nat:=if (w == "in")=true then 1 else if qW.contains w=true then 2 else if (w == "pick")=true then 4 else if lQ.contains w=true then 3 else 99
theorem aKa(w:Str):aBH w=tS w:=by
 unfold tS;cases h:mS w with
 | some wd =>
   obtain rfl:=aER h;cases wd<;>kernel_rfl
 | none =>
   have hn:∀ wd:Wd,(w==wd.s)=false:=λ wd=>by
    have:=List.find?_eq_none.mp h wd (by cases wd<;>decide)
    simpa using this
   have h2:qW.contains w=false:=by
    simp only[qW,yCy,List.contains_nil,Bool.or_false];rw[show(w == "num")=false from hn .num,show(w == "not")=false from hn .not,show(w == "cut")=false from hn .cut,show(w == "wide")=false from hn .wide,show(w == "sign")=false from hn .sign]
    rfl
   have h3:lQ.contains w=false:=by
    simp only[lQ,yCy,List.contains_nil,Bool.or_false];rw[show(w == "and")=false from hn .and,show(w == "or")=false from hn .or,show(w == "xor")=false from hn .xor,show(w == "add")=false from hn .add,show(w == "sub")=false from hn .sub,show(w == "mul")=false from hn .mul,show(w == "same")=false from hn .same,show(w == "less")=false from hn .less,show(w == "under")=false from hn .under,show(w == "left")=false from hn .left,show(w == "right")=false from hn .right,show(w == "slide")=false from hn .slide]
    rfl
   unfold aBH;rw[h2,h3,show(w == "in")=false from hn .in,show(w == "pick")=false from hn .pick]
   rfl
theorem aQg:Txt.split "and or xor add sub mul same less under left right slide" " " = lQ:=by decide +kernel
theorem aJ3(d:Nat)(w:Str)(ha:mZ w)(S:aB):cl fns (d+1) 24 [.d (.str w)] S=qq (.d (.int (tS w:Nat)),S):=by
 rw[<- aKa];have e1:aZ .Eq (.str w) (.str "in")=qq (.bool (w == "in")):=rZ ha.ok (by kernel_rfl)
 have e2:aZ .In (.str w) (.tuple [.str "num",.str "not",.str "cut",.str "wide",.str "sign"])=qq (.bool (qW.contains w)):=aEl (L:=qW) rfl;have e3:aZ .Eq (.str w) (.str "pick")=qq (.bool (w == "pick")):=rZ ha.ok (by kernel_rfl)
 have e4:aZ .In (.str w) (.list (lQ.map yAa))=qq (.bool (lQ.contains w)):=aEl (L:=lQ) rfl;have y0:((" " : Str).length==0)=false:=by decide
 have hz:("and or xor add sub mul same less under left right slide" : Str).length+2<=qk:=by rw[qo];decide
 refine dZ rfl d rfl rfl yAh ?_;show xs (aF fns d) _ [qq (.d (.str w)),qz] S=_;unfold aBH;generalize (w == "in")=b1 at *;generalize qW.contains w=b2 at *;generalize (w == "pick")=b3 at *;generalize lQ.contains w=b4 at *;cases b1 with
 | true=>exact eO (S1:=S) (by simp only[evs,e1]) (bT (by simp only[evs];rfl))
 | false =>
   refine cS (S1:=S) (by simp only[evs,e1]) ?_
   cases b2 with
   | true=>exact eO (S1:=S) (by simp only[evs,e2]) (bT (by simp only[evs];rfl))
   | false =>
     refine cS (S1:=S) (by simp only[evs,e2]) ?_
     cases b3 with
     | true=>exact eO (S1:=S) (by simp only[evs,e3]) (bT (by simp only[evs];rfl))
     | false =>
       refine cS (S1:=S) (by simp only[evs,e3]) (cH (w:=.d (.str "and or xor add sub mul same less under left right slide")) (S1:=S) rfl rfl ?_)
       have tt:tv (aF fns d) (.cmp .In (.var 0) (.fz (.spl (.var 1) (.str " ")))) [qq (.d (.str w)),qq (.d (.str "and or xor add sub mul same less under left right slide"))] S=qq (b4,S):=by
        simp only[evs,mU,mM,y0,hz,and_self,aQg];generalize lQ.map yAa=L3 at *;simp only[evs,e4]
       cases b4 with
       | true=>exact eO tt (bT (by simp only[evs];rfl))
       | false=>exact cS tt (bT (by simp only[evs];rfl))
theorem aJw(d:Nat)(z:Str)(h:Ln z)(last:Bool)(S:aB):cl fns (d+2) 25 [.d (.list ((Txt.split z " ").map yAa)),.d (.bool last)] S=qq (.d (.bool (if last=true then fD (Txt.split z " ") else dI (Txt.split z " "))),S):=by
 obtain⟨w,t,es⟩:=vI z;have hp:=h.part;have hs:=h.s;rw[es] at hp hs ⊢;have hs:t.length+1<=60:=hs;have i0:bH (.list ((w::t).map yAa)) (.int 0)=qq (.str w):=eA (k:=0) rfl;have ll:dA [.list ((w::t).map yAa)]=qq (.int ((t.length+1:Nat):Int)):=by
  rw[cA,yAb,yBg]
 have e1:((t.length+1:Nat):Int)-1=((t.length:Nat):Int):=by omega
 have cf:cC ((w::t).map yAa) (qq 1) qz=t.map yAa:=lS _ 1;have lf:dA [.list ((t.filter cL).map yAa)]=qq (.int (((t.filter cL).length:Nat):Int)):=by rw[cA,yAb]
 have lnw:=aJ3 d w (hp w xAd).1 S;have eo:aZ .Eq (.str w) (.str "out")=qq (.bool (w == "out")):=rZ (hp w xAd).1.ok (by kernel_rfl)
 refine dZ rfl (d+1) rfl rfl yAh ?_;show xs (aF fns (d+1)) _ [qq (.d (.list ((w::t).map yAa))),qq (.d (.bool last)),qz,qz] S=_;have hc:lv (aF fns (d+1)) aCr [qq (.d (.list ((w::t).map yAa))),qq (.d (.bool last)),qz,qz] S=qq ((t.filter cL).map yAa,S):=by
  refine aDQ (fi:=lv (aF fns (d+1)) (.it (.sl (.var 0) (.cons (.int 1) .nil) .no))) (fc:=tv (aF fns (d+1)) (.call 23 (.cons (.var 3) .nil))) (fe:=ev (aF fns (d+1)) (.var 3)) yAa yAa cL t ?_ (by rw[qo];omega) λ a ha=>?_
  ·generalize (w::t).map yAa=P at *;simp only[evs,gK,dL,cY,dS,cf]
  ·refine⟨_,rfl,λ S'=>?_,λ _ S'=>?_⟩
   ·have:=aHU d a (hp a (xAf _ ha)).1 (hp a (xAf _ ha)).2 S';simp only[evs,clr,yAm,yAz,this]
   ·simp only[evs,clr,yAm,yAz]
 refine lD (e1:=[qq (.d (.list ((w::t).map yAa))),qq (.d (.bool last)),qq (.d (.list ((t.filter cL).map yAa))),qz]) (S1:=S) ?_ ?_
 ·simp only[aAN,dJ,fQ,hc,oB];rfl
 have fl:(t.filter cL).length<=t.length:=List.length_filter_le _ _
 by_cases ha:t.all cL=true
 ·have ff:t.filter cL=t:=List.filter_eq_self.mpr λ a m=>List.all_eq_true.mp ha a m
  rw[ff] at lf ⊢;refine cS (S1:=S) ?_ ?_
  ·generalize (w::t).map yAa=P at *;generalize t.map yAa=P2 at *;simp only[evs,ll,lf,eG,e1,sL,beq_self_eq_true]
  cases last with
  | true =>
    refine eO (S1:=S) (by simp only[evs]) (bT ?_)
    show _=qq (W.d (.bool (fD (w::t))),S);have:fD (w::t)=((w == "out")&&(decide (1<=t.length)&&decide (t.length<=8))):=by
     unfold fD;simp only[ha,yFn]
    rw[this];generalize (w::t).map yAa=P at *;generalize t.map yAa=P2 at *;cases hb:(w == "out") with
    | false =>
      rw[hb] at eo;simp only[evs,i0,eo,yBh]
    | true =>
      rw[hb] at eo;rw[yCu]
      by_cases c1:1<=t.length
      ·have d1:decide ((1:Int)<=((t.length:Nat):Int))=true:=dqT (by omega)
       have d2:decide (((t.length:Nat):Int)<=8)=decide (t.length<=8):=by rw[decide_eq_decide];omega
       rw[dqT c1,<- d2,yCu];simp only[evs,i0,eo,lf,mB,d1]
      ·have d1:decide ((1:Int)<=((t.length:Nat):Int))=false:=dqF (by omega)
       rw[dqF c1,yBh];simp only[evs,i0,eo,lf,mB,d1]
  | false =>
    refine cS (S1:=S) (by simp only[evs]) (bT ?_)
    show _=qq (W.d (.bool (dI (w::t))),S);have:dI (w::t)=(((t.length:Nat):Int)==((tS w:Nat):Int)):=by
     unfold dI tS;cases hw:mS w with
     | some wd =>
       simp only[hw,ha,yCu];rw[Bool.eq_iff_iff,beq_iff_eq,beq_iff_eq];omega
     | none =>
       simp only[hw]
       symm
       rw[beq_eq_false_iff_ne];omega
    rw[this];generalize (w::t).map yAa=P at *;generalize t.map yAa=P2 at *;simp only[evs,i0,lf,lnw,eB]
 ·have hne:(t.filter cL).length≠t.length:=λ e=>ha (List.all_eq_true.mpr (List.length_filter_eq_length_iff.mp e))
  have e2:(!((((t.filter cL).length:Nat):Int)==((t.length:Nat):Int)))=true:=by
   rw[yDh,beq_eq_false_iff_ne];omega
  have r:(if last=true then fD (w::t) else dI (w::t))=false:=by
   have hf:=Bool.eq_false_iff.mpr ha;cases last
   ·show dI (w::t)=false;unfold dI;cases hw:mS w with
    | some wd=>simp only[hw,hf,yBh]
    | none=>simp only[hw]
   ·show fD (w::t)=false;unfold fD;simp only[hf,yFi,yBh]
  rw[r];refine eO (S1:=S) ?_ (bT (by simp only[evs]))
  generalize (w::t).map yAa=P at *;generalize (t.filter cL).map yAa=P2 at *;simp only[evs,ll,lf,eG,e1,sL,e2]
theorem aCV{α:Type}{t:Tg}{fb:FS}{S:aB}(P:aS->Prop)(r:α->W)(enc:α->D)(bad:α->Bool):∀ (l:List α) (env:aS),P env->(∀ a∈l,∀ env,P env->∃ e1,t.put (enc a) env=qq e1/\(bad a=true->fb e1 S=qq (.rt (r a),S))/\(bad a=false->∃ aK,fb e1 S=qq (.nx aK,S)/\P aK)) ->
 (∀ a,l.find? bad=qq a->eC t fb (l.map enc) env S=qq (.rt (r a),S))/\(l.find? bad=qz->∃ aK,eC t fb (l.map enc) env S=qq (.nx aK,S)/\P aK)
 | [],env,h0,_=>⟨λ _ h=>(by cases h),λ _=>⟨env,rfl,h0⟩⟩
 | a::l,env,h0,h=>by
   obtain⟨e1,h1,h2,h3⟩:=h a xAd env h0;cases c:bad a with
   | true =>
     rw[yDf,c];refine⟨λ b hb=>?_,λ h=>by cases h⟩
     cases hb;simp only[yAi,eC,h1,oB,h2 c]
   | false =>
     obtain⟨aK,h4,h5⟩:=h3 c;obtain⟨h6,h7⟩:=aCV P r enc bad l aK h5 λ x hx=>h x (xAf _ hx)
     rw[yDf,c];refine⟨λ b q=>?_,λ q=>?_⟩
     ·simp only[yAi,eC,h1,oB,h4];exact h6 b q
     ·obtain⟨env2,h8,h9⟩:=h7 q;refine⟨env2,?_,h9⟩;simp only[yAi,eC,h1,oB,h4];exact h8
theorem aDv(f:Nat->Bool):∀ (zs:List Str) (k:Nat),(∀ i z,zs[i]? = qq z->f (k+i) = !dI (Txt.split z " "))->(List.range' k zs.length).find? f=iL zs k
 | [],_,_=>rfl
 | z::zs,k,h=>by
   have h0:f k = !dI (Txt.split z " "):=h 0 z rfl;have ih:=aDv f zs (k+1) λ i y hy=>by
    have:=h (i+1) y hy;rw[show k+1+i=k+(i+1) by omega]
    exact this
   show(k::List.range' (k+1) zs.length).find? f=iL (z::zs) k;unfold iL;rw[yDf,h0];cases c:dI (Txt.split z " ") with
   | true=>exact ih
   | false=>rfl
theorem aLd(f:Nat->Bool)(zs:List Str)(o:Str)(h:∀ i z,zs[i]? = qq z->f i = !dI (Txt.split z " "))(ho:f zs.length = !fD (Txt.split o " ")):(yAx (zs.length+1)).find? f=fY zs o:=by
 have e:=aDv f zs 0 λ i z q=>by rw[yEm];exact h i z q
 rw[List.range_succ,List.find?_append,List.range_eq_range',e];unfold fY;cases iL zs 0 with
 | some k=>rfl
 | none =>
   show([zs.length].find? f)=_;rw[yDf,ho];cases fD (Txt.split o " ")<;>rfl
noncomputable def mT:Option Nat->Int
 | some j=>(j:Nat)
 | none=>-1
def yH(w:W)(L:List Str)(S:aB):Prop:=w=.d (.list (L.map yAa))\/∃ n,w=.loc n/\S[n]? = qq (qq (L.map yAa))
theorem aLF(d:Nat)(w:W)(zs:List Str)(o:Str)(ln:∀ z∈zs,Ln z)(lo:Ln o)(lz:zs.length<=100)(S:aB)(hw:yH w (zs++[o]) S):cl fns (d+3) 26 [w] S=qq (.d (.int (mT (fY zs o))),S):=by
 have hd:=hw;unfold yH at hd;have em:((zs++[o]).map yAa).length=zs.length+1:=by simp
 have l1:dA [.list ((zs++[o]).map yAa)]=qq (.int ((zs.length+1:Nat):Int)):=by
  rw[cA,em]
 have e1:((zs.length+1:Nat):Int)-1=((zs.length:Nat):Int):=by omega
 refine dZ rfl (d+2) rfl rfl yAh ?_;show xs (aF fns (d+2)) _ [qq w,qz] S=_;have ix:∀ i z,(zs++[o])[i]? = qq z->bH (.list ((zs++[o]).map yAa)) (.int ((i:Nat):Int))=qq (.str z):=λ i z q=>eA (by rw[xAb,q];rfl)
 have lns:∀ z∈zs++[o],Ln z:=λ z m=>by
  rcases List.mem_append.mp m with m | m
  ·exact ln z m
  ·rw[List.mem_singleton.mp m];exact lo
 let bad:Nat->Bool:=λ i=>match (zs++[o])[i]? with
  | some z=>!(if (((i:Nat):Int)==((zs.length:Nat):Int))=true then fD (Txt.split z " ") else dI (Txt.split z " "))
  | none=>false
 have ff:=aCV (t:=.one 1) (fb:=xs (aF fns (d+2)) uX) (S:=S) (λ e=>∃ a,e=[qq w,a]) (λ i=>.d (.int ((i:Nat):Int))) (λ i:Nat=>yAl ((i:Nat):Int)) bad (yAx (zs.length+1)) [qq w,qz] ⟨qz,rfl⟩ λ i mi env aJ=>by
  obtain⟨a,he⟩:=aJ;subst he;have hi:=List.mem_range.mp mi;obtain⟨z,hz⟩:∃ z,(zs++[o])[i]? = qq z:=⟨_,yAc (by simp;omega)⟩
  have lz':=lns z (xAi hz);have hx:=ix i z hz;have lg:=aJw d z lz' (((i:Nat):Int)==((zs.length:Nat):Int)) S;have hb:bad i = !(if (((i:Nat):Int)==((zs.length:Nat):Int))=true then fD (Txt.split z " ") else dI (Txt.split z " ")):=by
   show(match (zs++[o])[i]? with | some z=>_ | none=>_)=_
   rw[hz]
  have y0:((" " : Str).length==0)=false:=by decide
  have hzz:z.length+2<=qk:=by have:=lz'.l;rw[qo];omega
  have tt:tv (aF fns (d+2)) (.not (.call 25 (.cons (.fz (.spl (.ix (.var 0) (.var 1)) (.str " "))) (.cons (.cmp .Eq (.var 1) (.bin .Sub (.blt .len (.cons (.var 0) .nil)) (.int 1))) .nil)))) [qq w,qq (.d (.int ((i:Nat):Int)))] S=qq (bad i,S):=by
   rw[hb];generalize (if (((i:Nat):Int)==((zs.length:Nat):Int))=true then fD (Txt.split z " ") else dI (Txt.split z " "))=g at *
   have esp:∃ q,q=(Txt.split z " ").map yAa:=⟨_,rfl⟩;obtain⟨SP,esp⟩:=esp;rw[<- esp] at lg;generalize (zs++[o]).map yAa=LL at *;rcases hd with rfl | ⟨n,rfl,hd⟩
   ·simp only[evs,l1,e1,eG,eB,hx,mU,mM,y0,hzz,and_self,<- esp,lg]
   ·simp only[evs,hd,l1,e1,eG,eB,hx,mU,mM,y0,hzz,and_self,<- esp,lg]
  refine⟨[qq w,qq (.d (.int ((i:Nat):Int)))],rfl,λ h=>?_,λ h=>?_⟩
  ·rw[h] at tt;exact eO tt (bT (by simp only[evs]))
  ·rw[h] at tt;exact⟨[qq w,qq (.d (.int ((i:Nat):Int)))],cS tt rfl,_,rfl⟩
 have it:lv (aF fns (d+2)) uY [qq w,qz] S=qq ((yAx (zs.length+1)).map (λ i:Nat=>yAl ((i:Nat):Int)),S):=by
  simp only[uY,pM];refine pC ?_ (by omega)
  generalize (zs++[o]).map yAa=LL at *;rcases hd with rfl | ⟨n,rfl,hd⟩
  ·simp only[evs,l1]
  ·simp only[evs,hd,l1]
 have fe:(yAx (zs.length+1)).find? bad=fY zs o:=by
  refine aLd bad zs o (λ i z hz=>?_) ?_
  ·have hi:i<zs.length:=(gIm hz).1;show(match (zs++[o])[i]? with | some z=>_ | none=>_)=_
   rw[xAj hi,hz];have:(((i:Nat):Int)==((zs.length:Nat):Int))=false:=by rw[beq_eq_false_iff_ne];omega
   simp only[this,yAw,if_false]
  ·show(match (zs++[o])[zs.length]? with | some z=>_ | none=>_)=_
   rw[yAd (yAe _),yCr];simp only[yBr,beq_self_eq_true,if_true]
 rw[fe] at ff;have lp:∀ {r},eC (.one 1) (xs (aF fns (d+2)) uX) ((yAx (zs.length+1)).map (λ i:Nat=>yAl ((i:Nat):Int))) [qq w,qz] S=r->xs (aF fns (d+2)) (.loop (.one 1) uY uX) [qq w,qz] S=r:=λ {r} h=>by
  show iN _ _ _ _ _=r;unfold iN;rw[it,oB];exact h
 cases hf:fY zs o with
 | some j =>
   have:=lp (ff.1 j hf);show cM _ _ _ _=_;unfold cM;rw[this,oB];rfl
 | none =>
   obtain⟨aK,f2,a,rfl⟩:=ff.2 hf;exact lD (e1:=[qq w,a]) (S1:=S) (lp f2) (bT (by simp only[evs];rfl))
structure Pt(n:Nat)(z:Str):Prop where
 c:∀ c∈z.cps.toList,c≠10/\c≠32/\c<1114112
 l:z.length<=n
structure Lc(a b:Nat)(z:Str):Prop where
 c:∀ c∈z.cps.toList,c≠10/\c<1114112
 l:z.length<=a
 s:z.cps.toList.count 32<=b
theorem jQ(x y:Str):(x++y).cps.toList=x.cps.toList++y.cps.toList:=by
 rw[Str.cps_append,yFb]
theorem nK(x y:Str):(x++y).length=x.length+y.length:=by
 have h:(x++y).cps.toList.length=(x.cps.toList++y.cps.toList).length:=congrArg yEy (jQ x y);rw[yAp,yAk,yAk,yAk] at h;exact h
theorem Pt.app{a b:Nat}{x y:Str}(h:Pt a x)(g:Pt b y):Pt (a+b) (x++y):=⟨λ c m=>by
 rw[jQ] at m;rcases List.mem_append.mp m with m | m
 ·exact h.c c m
 ·exact g.c c m,by
 have h1:=h.l;have h2:=g.l;rw[nK];omega⟩
theorem Pt.mono{a b:Nat}{x:Str}(h:Pt a x)(hab:a<=b):Pt b x:=⟨h.c,xAg h.l hab⟩
theorem Lc.app{a b a' b':Nat}{x y:Str}(h:Lc a b x)(g:Lc a' b' y):Lc (a+a') (b+b') (x++y):=⟨λ c m=>by
 rw[jQ] at m;rcases List.mem_append.mp m with m | m
 ·exact h.c c m
 ·exact g.c c m,by
 have h1:=h.l;have h2:=g.l;rw[nK];omega,by
 have h1:=h.s;have h2:=g.s;rw[jQ,yCq];omega⟩
theorem aAz{c:Nat}:∀ {as:List (List Nat)},(∀ a∈as,c ∉ a)->(jl c as).count c=as.length-1
 | [],_=>rfl
 | [a],h=>List.count_eq_zero.mpr (h a xAd)
 | a::b::r,h=>by
   have i:=aAz (as:=b::r) λ x m=>h x (xAf _ m)
   show(a++c::jl c (b::r)).count c=_;rw[yCq,List.count_cons_self,i,List.count_eq_zero.mpr (h a xAd)];simp
theorem Lc.ln{a b:Nat}{z:Str}(h:Lc a b z)(ha:a<=2000)(hb:b<=59):Ln z:=⟨λ c m=>(h.c c m).2,λ m=>(h.c 10 m).1 rfl,xAg h.l ha,by
 have e:=aAz (c:=32) (as:=(Txt.split z " ").map λ p=>p.cps.toList) λ a m=>by
  obtain⟨p,mp,rfl⟩:=List.mem_map.mp m;rw[fN] at mp;exact StrLaws.split_free _ 32 p mp
 rw[<- lW,<- fN,vE,yAb] at e;have:=h.s;omega⟩
theorem Lc.join{n:Nat}{ps:List Str}(h:∀ p∈ps,Pt n p):Lc (ps.length*(n+1)) ps.length (Txt.join " " ps):=⟨λ c m=>by
 rw[fN] at m;rcases aDL m with z | ⟨x,mx,z⟩
 ·subst z;decide
 ·exact⟨((h x mx).c c z).1,((h x mx).c c z).2.2⟩,by
 have j:=pJ 32 ps;have s:=kX (λ p:Str=>p.length) n ps λ x m=>(h x m).l
 rw[fN,Nat.mul_succ];omega,by
 rw[fN,lW,aAz λ a m=>?_,yAb]
 ·omega
 ·obtain⟨p,mp,rfl⟩:=List.mem_map.mp m;exact λ z=>((h p mp).c 32 z).2.1 rfl⟩
theorem aAw{n:Nat}{ps:List Str}(h:∀ p∈ps,Pt n p)(hn:n<=100)(hl:ps.length<=100):(ps.map (·.length)).sum+ps.length<=1000000:=by
 have s:=kX (λ p:Str=>p.length) n ps λ x m=>(h x m).l
 have:ps.length*n<=100*100:=Nat.mul_le_mul hl hn;omega
theorem mC{p:Str×List Nat}(h:LnOk p):∀ x∈aY p,Pt 20 x:=λ x m=>⟨λ c mc=>by
 rcases List.mem_cons.mp m with rfl | m
 ·have:=h.c c mc;omega
 ·obtain⟨n,_,rfl⟩:=List.mem_map.mp m;have:=pP n c mc;omega,aEv h x m⟩
theorem aBi{p:Str×List Nat}(h:LnOk p):(aY p).length<=9:=by
 have:=h.l;unfold aY;simp;omega
theorem aBd{p:Str×List Nat}(h:LnOk p):Lc 200 9 (aV p):=by
 have j:=Lc.join (mC h);have l:=aBi h;exact⟨j.c,aEs h,xAg j.s l⟩
theorem aJg{p:Str×List Nat}(h:LnOk p):Txt.split (aV p) " " = aY p:=by
 unfold aV;rw[fN];refine aCQ (by unfold aY;simp) λ x m z=>((mC h x m).c 32 z).2.1 rfl
theorem aE2(z a b:Str):Builtin.Str.glued z [a,b]=a++z++b:=rfl
theorem aII(x y z:Str):jE x y z=x\/∃ a b:Str,x=a++y++b/\jE x y z=a++z++b:=by
 unfold jE
 split
 ·exact .inl rfl
 ·rename_i hc
  right
  have h1:=StrLaws.occ_length_le x y 0 x.length 1;have h2:=StrLaws.glued_between_self x y 1;have h3:=length_partsBetween x (Builtin.Str.occurrences x y 0 x.length 1) y.length;have h4:(Builtin.Str.occurrences x y 0 x.length 1).length=1:=by
   cases e:Builtin.Str.occurrences x y 0 x.length 1 with
   | nil=>rw[e] at hc;simp at hc
   | cons a r=>rw[e] at h1;simp at h1 ⊢;exact h1
  rw[h4] at h3;cases e:Builtin.Str.partsBetween x (Builtin.Str.occurrences x y 0 x.length 1) y.length with
  | nil=>rw[e] at h3;cases h3
  | cons a r =>
    rw[e] at h3 h2;cases r with
    | nil=>simp at h3
    | cons b r =>
      cases r with
      | nil=>exact⟨a,b,by rw[aE2] at h2;exact h2.symm,aE2 _ _ _⟩
      | cons c r=>simp at h3
theorem aL1{a b:Nat}{x:Str}(h:Lc a b x):Lc (a+2) (b+2) (jE x " " "  "):=by
 rcases aII x " " "  " with e | ⟨p,q,e1,e2⟩
 ·rw[e];exact⟨h.c,xAg h.l (by omega),xAg h.s (by omega)⟩
 ·rw[e2];have hc:=h.c;have hl:=h.l;have hs:=h.s;rw[e1,jQ,jQ] at hc hs;rw[e1,nK,nK] at hl;rw[yCq,yCq] at hs;have k2:("  " : Str).cps.toList.count 32=2:=by decide +kernel
  have l2:("  " : Str).length=2:=by decide
  refine⟨λ c m=>?_,?_,?_⟩
  ·rw[jQ,jQ] at m;rcases List.mem_append.mp m with m | m
   ·rcases List.mem_append.mp m with m | m
    ·exact hc c (yBk _ (yBk _ m))
    ·exact(by decide +kernel:∀ c∈("  " : Str).cps.toList,c≠10/\c<1114112) c m
   ·exact hc c (xAk _ m)
  ·rw[nK,nK];omega
  ·rw[jQ,jQ,yCq,yCq];omega
theorem aIS{x:Str}{l u:Option Int}:∀ c∈(Txt.slice x l u).cps.toList,c∈x.cps.toList:=λ c m=>by
 unfold Txt.slice at m
 split at m
 ·exact m
 ·obtain⟨i,_,e⟩:=List.mem_filterMap.mp (show c∈List.filterMap _ _ from m)
  exact Array.mem_toList_iff.mpr (Array.mem_of_getElem? e)
theorem Pt.slice{n:Nat}{x:Str}(h:Pt n x)(l u:Option Int):Pt n (Txt.slice x l u):=⟨λ c m=>h.c c (aIS c m),xAg (Txt.slice_le x l u) h.l⟩
theorem aDH{n:Int}(h:n.toNat<=30):Pt 30 (Txt.mul "0" n):=by
 have e:(Txt.mul "0" n).cps.toList=yAg n.toNat 48:=by
  rw[show("0" : Str)=⟨#[48]⟩ by decide]
  exact PyProof.Rows.mul_one_list 48 n
 refine⟨λ c m=>?_,?_⟩
 ·rw[e] at m;rw[(List.mem_replicate.mp m).2];decide
 ·have:(Txt.mul "0" n).cps.toList.length=(Txt.mul "0" n).length:=yAk;rw[<- this,e,yDb];exact h
theorem iA{x y:Str}(h:x.length+y.length<=1000000):bL .Add (.str x) (.str y)=qq (.str (x++y)):=by
 show(if x.length+y.length<=qk then qq (yAa (x++y)) else qz)=_
 rw[if_pos (by rw[qo];omega)]
theorem aDY(C:Calls)(S:aB)(P:D):∀ (ps:List (Str×List Nat)) (aG:List Str) (a2:Option W),(∀ p∈ps,LnOk p)->aG.length+ps.length<=500->∃ a2':Option W,
 eC (.one 2) (xs C pB) (ps.map fL) [qq (.d P),qq (.loc S.length),a2,qz] (S++[qq (aG.map yAa)])=qq (.nx [qq (.d P),qq (.loc S.length),a2',qz],S++[qq ((aG++ps.map aV).map yAa)])
 | [],aG,a2,_,_=>⟨a2,by rw[yCg,yCg,yAu];rfl⟩
 | p::ps,aG,a2,h,hl=>by
   have hp:=h p xAd;have hll:aG.length+(ps.length+1)<=500:=hl;obtain⟨b2,ih⟩:=aDY C S P ps (aG++[aV p]) (qq (.d (fL p))) (λ q m=>h q (xAf _ m)) (by simp;omega)
   refine⟨b2,?_⟩;have js:=nL yS (ps:=aY p) (xAg (aD7 hp) (by decide))
   have ap:=rL S (aG.map yAa) (.str (aV p)) (by simp;omega)
   have i0:bH (fL p) (.int 0)=qq (.str p.1):=rR (k:=0) rfl;have ea:aG.map yAa++[yAa (aV p)]=(aG++[aV p]).map yAa:=by rw[yAr];rfl
   rw[ea] at ap;have el:aG++aV p::ps.map aV=(aG++[aV p])++ps.map aV:=by simp
   have hpl:=hp.l;have hc:lv C aCs [qq (.d P),qq (.loc S.length),qq (.d (fL p)),qz] (S++[qq (aG.map yAa)])=qq (p.2.map (λ n=>yAa (bE n)),S++[qq (aG.map yAa)]):=by
    refine iW (fi:=lv C (.it (.sl (.var 2) (.cons (.int 1) .nil) .no))) (fe:=ev C (.st1 (.var 3))) nD (λ n=>yAa (bE n)) p.2 ?_ (by rw[qo];omega) λ a ha=>?_
    ·have cf:cC (yAa p.1::p.2.map nD) (qq 1) qz=p.2.map nD:=lS _ 1;unfold fL;generalize p.2.map nD=NL at *;simp only[evs,gK,dL,cY,dS,cf]
    ·refine⟨_,rfl,λ S'=>?_⟩
     have sn:=aK1 (hp.n a ha);simp only[evs,clr,yAm,yAz,nD,sn]
   have ct:bL .Add (.list [.str p.1]) (.list (p.2.map λ n=>yAa (bE n)))=qq (.list ((aY p).map yAa)):=by
    rw[jR (by simp;omega)]
    unfold aY;rw[yAi,yCa];rfl
   show((xs C pB [qq (.d P),qq (.loc S.length),qq (.d (fL p)),qz] (S++[qq (aG.map yAa)])).bind _)=_;have e:xs C pB [qq (.d P),qq (.loc S.length),qq (.d (fL p)),qz] (S++[qq (aG.map yAa)])=qq (.nx [qq (.d P),qq (.loc S.length),qq (.d (fL p)),qz],S++[qq ((aG++[aV p]).map yAa)]):=by
    refine aA9 ?_;generalize S++[qq (aG.map yAa)]=S1 at *;generalize S++[qq ((aG++[aV p]).map yAa)]=S2 at *;generalize (aY p).map yAa=PL at *;generalize p.2.map (λ n=>yAa (bE n))=NL at *
    generalize fL p=Z at *;have js:mJ (.str " ") (.list PL)=qq (.str (aV p)):=js;simp only[evs,jF,hc,i0,ct,js,fX,ap]
   rw[e,oB];show eC (.one 2) (xs C pB) (ps.map fL) _ _=_;rw[ih,yAi,el]
theorem aIq(d:Nat)(rs:List Rw)(aD:List Nat)(ar:∀ r∈rs,Ar r)(bd:∀ r∈rs,Bd r)(bo:∀ o∈aD,o<10^20)(lr:rs.length<=100)(lo:aD.length<=8)(S:aB):cl fns (d+1) 27 [.d (bX rs aD)] S=qq (.d (.list (((bD rs aD).map aV).map yAa)),S):=by
 have lk:=vP ar bd bo lo;have ll:(bD rs aD).length<=200:=by unfold bD;simp;omega
 obtain⟨a2,lp⟩:=aDY (aF fns d) S (bX rs aD) (bD rs aD) [] qz lk (by simp;omega)
 have ct:bL .Add (.tuple [.str "out"]) (.tuple (aD.map nD))=qq (fL ("out",aD)):=by
  rw[aBC (by simp) (by simp;omega)]
  rfl
 have el:(bD rs aD).map fL=rs.map Rw.d++[fL ("out",aD)]:=by
  unfold bD;rw[yAr,yCa];rfl
 have ct2:bL .Add (.tuple (rs.map Rw.d)) (.tuple [fL ("out",aD)])=qq (.tuple ((bD rs aD).map fL)):=by
  rw[el]
  by_cases z:rs=[]
  ·subst z;rfl
  ·exact aBC (λ q=>z (List.map_eq_nil_iff.mp q)) (by simp;omega)
 have i0:bH (bX rs aD) (.int 0)=qq (.tuple (rs.map Rw.d)):=rfl;have i1:bH (bX rs aD) (.int 1)=qq (.tuple (aD.map nD)):=rfl;rw[yDg] at lp;have gl:=vO S (((bD rs aD).map aV).map yAa);generalize ((bD rs aD).map aV).map yAa=L2 at *;generalize (bD rs aD).map fL=LD at *;generalize fL ("out",aD)=OD at *;generalize bX rs aD=P at *;rw[cV rfl d _ S rfl]
 suffices H:xs (aF fns d) zP [qq (.d P),qz,qz,qz] S=qq (.rt (.loc S.length),S++[qq L2]) by
  show((xs (aF fns d) zP [qq (.d P),qz,qz,qz] S).bind _)=_;rw[H,oB];show iO S.length (S++[qq L2]) (.loc S.length)=_;simp only[iO,yBa,if_false,gl];show qq (W.d (.list L2),(S++_).take S.length)=_;rw[yEi]
 refine cH (w:=.loc S.length) (S1:=S++[qq []]) (by simp only[evs,fG]) rfl (lD (e1:=[qq (.d P),qq (.loc S.length),a2,qz]) (S1:=S++[qq L2]) ?_ (bT ?_))
 ·show iN (.one 2) (lv (aF fns d) vA) (xs (aF fns d) pB) [qq (.d P),qq (.loc S.length),qz,qz] (S++[qq []])=_;have it:lv (aF fns d) vA [qq (.d P),qq (.loc S.length),qz,qz] (S++[qq []])=qq (LD,S++[qq []]):=by
   simp only[evs,vA,gK,i0,i1,ct,ct2]
  unfold iN;rw[it,oB];exact lp
 ·simp only[evs]
noncomputable abbrev sT(T:aB)(ns:List Int)(k:Nat)(x:Int):aB:=qq (cR ns k x)::T
theorem aFT(T:aB)(ns:List Int)(k:Nat)(x:Int)(h:T.length<=40):aP (qz::T) 0 50 ns k x []=sT T ns k x:=by
 unfold aP;rw[yBs,List.set_eq_of_length_le];simp;omega
theorem aQf(T:aB)(h:T.length<=40):At0 (qz::T) 0 50:=⟨by simp,by decide⟩
section
variable {ns : List Int}{k : Nat}{x : Int}
theorem sE(T:aB)(hT:T.length<=40)(d m:Nat)(hm:0<m)(hm2:m<2^64)(hk:k<=100000):∃ (r:Nat) (x':Int),r<m/\cl fns (d+1) 12 [.loc 0,.d (.int m)] (sT T ns k x)=qq (.d (.int r),sT T ns (k+1) x'):=by
 obtain⟨r,x',hr,e⟩:=eY (rs:=[]) (ns:=ns) (k:=k) (x:=x) (aQf T hT) d m hm hm2 hk;rw[aFT T _ _ _ hT,aFT T _ _ _ hT] at e;exact⟨r,x',hr,e⟩
end
noncomputable def qG(w:Str)(n:Int):List Str:=["0" ++ w, "-" ++ w, "+" ++ w,w ++ "a", "",w++Txt.mul "0" n,w ++ ".",w ++ "_0",Txt.slice w qz (qq 1) ++ "_" ++ Txt.slice w (qq 1) qz]
theorem kY{x:Str}(h:(x.cps.toList.all λ c=>!(c==10) && !(c==32)&&decide (c<1114112))=true)(hl:x.length<=5):Pt 5 x:=⟨λ c m=>by
 have:=List.all_eq_true.mp h c m;simpa [and_assoc] using this,hl⟩
theorem aNE{w:Str}(h:Pt 20 w){n:Int}(hn:n.toNat<=30):∀ y∈qG w n,Pt 60 y:=λ y m=>by
 simp only[qG,yBc,yAv,or_false] at m;rcases m with rfl | rfl | rfl | rfl | rfl | rfl | rfl | rfl | rfl
 ·exact((kY (x:="0") (by decide +kernel) (by decide)).app h).mono (by omega)
 ·exact((kY (x:="-") (by decide +kernel) (by decide)).app h).mono (by omega)
 ·exact((kY (x:="+") (by decide +kernel) (by decide)).app h).mono (by omega)
 ·exact(h.app (kY (x:="a") (by decide +kernel) (by decide))).mono (by omega)
 ·exact(kY (x:="") (by decide +kernel) (by decide)).mono (by omega)
 ·exact(h.app (aDH hn)).mono (by omega)
 ·exact(h.app (kY (x:=".") (by decide +kernel) (by decide))).mono (by omega)
 ·exact(h.app (kY (x:="_0") (by decide +kernel) (by decide))).mono (by omega)
 ·exact(((h.slice qz (qq 1)).app (kY (x:="_") (by decide +kernel) (by decide))).app (h.slice (qq 1) qz)).mono (by omega)
theorem aId(d:Nat)(T:aB)(hT:T.length<=40)(ns:List Int)(k:Nat)(x:Int)(w:Str)(h:Pt 20 w)(hk:k<=90000):∃ (y:Str) (x':Int),Pt 60 y/\cl fns (d+2) 28 [.loc 0,.d (.str w)] (sT T ns k x)=qq (.d (.str y),sT T ns (k+1) x'):=by
 obtain⟨r,x',hr,dr⟩:=sE (ns:=ns) (k:=k) (x:=x) T hT d 9 (by decide) (by decide) (by omega)
 have hl:=h.l;have dr:cl fns (d+1) 12 [.loc 0,.d (.int 9)] (sT T ns k x)=qq (.d (.int r),sT T ns (k+1) x'):=dr;have ll:dA [.str w]=qq (.int w.length):=if_pos (by rw[qo];omega)
 have mn:uA [.int w.length,.int 20]=qq (.int (if (20:Int)<((w.length:Nat):Int) then (20:Int) else ((w.length:Nat):Int))):=rfl
 rw[if_neg (by omega)] at mn
 have b1:bL .Add (.str "0") (.str w)=qq (.str ("0" ++ w)):=iA (by rw[show("0" : Str).length=1 by decide];omega)
 have b2:bL .Add (.str "-") (.str w)=qq (.str ("-" ++ w)):=iA (by rw[show("-" : Str).length=1 by decide];omega)
 have b3:bL .Add (.str "+") (.str w)=qq (.str ("+" ++ w)):=iA (by rw[show("+" : Str).length=1 by decide];omega)
 have b4:bL .Add (.str w) (.str "a")=qq (.str (w ++ "a")):=iA (by rw[show("a" : Str).length=1 by decide];omega)
 have hz:(((21:Int)-((w.length:Nat):Int)).toNat)<=30:=by omega
 have b6:xH (.str "0") (.int (21-((w.length:Nat):Int)))=qq (.str (Txt.mul "0" (21-((w.length:Nat):Int)))):=if_pos ⟨by decide,by omega,by omega⟩
 have zl:=(aDH hz).l;have b6':bL .Add (.str w) (.str (Txt.mul "0" (21-((w.length:Nat):Int))))=qq (.str (w++Txt.mul "0" (21-((w.length:Nat):Int)))):=iA (by omega)
 have b7:bL .Add (.str w) (.str ".")=qq (.str (w ++ ".")):=iA (by rw[show(".": Str).length=1 by decide];omega)
 have b8:bL .Add (.str w) (.str "_0")=qq (.str (w ++ "_0")):=iA (by rw[show("_0" : Str).length=2 by decide];omega)
 have s1:aBK qz (qq 1) (.str w)=qq (.str (Txt.slice w qz (qq 1))):=if_pos (by rw[qo];omega)
 have s2:aBK (qq 1) qz (.str w)=qq (.str (Txt.slice w (qq 1) qz)):=if_pos (by rw[qo];omega)
 have l1:=(h.slice qz (qq 1)).l;have l2:=(h.slice (qq 1) qz).l;have b9:bL .Add (.str (Txt.slice w qz (qq 1))) (.str "_")=qq (.str (Txt.slice w qz (qq 1) ++ "_")):=iA (by rw[show("_" : Str).length=1 by decide];omega)
 have b10:bL .Add (.str (Txt.slice w qz (qq 1) ++ "_")) (.str (Txt.slice w (qq 1) qz))=qq (.str (Txt.slice w qz (qq 1) ++ "_" ++ Txt.slice w (qq 1) qz)):=iA (by rw[nK,show("_" : Str).length=1 by decide];omega)
 have hp:=aNE h hz;have bW:(qG w (21-((w.length:Nat):Int))).length=9:=rfl;obtain⟨y,hy⟩:∃ y,(qG w (21-((w.length:Nat):Int)))[r]? = qq y:=⟨_,yAc (by rw[bW];exact hr)⟩
 refine⟨y,x',hp y (xAi hy),?_⟩;have iy:bH (.list ((qG w (21-((w.length:Nat):Int))).map yAa)) (.int r)=qq (.str y):=eA (by rw[xAb,hy];rfl)
 have e1:(21:Int)-((w.length:Nat):Int)=21-((w.length:Nat):Int):=rfl;refine dZ rfl (d+1) rfl rfl (show List.take (sT T ns (k+1) x').length _=_ from yAh) ?_
 show xs (aF fns (d+1)) _ [qq (.loc 0),qq (.d (.str w)),qz] (sT T ns k x)=_;unfold qG at iy;generalize Txt.slice w qz (qq 1)=sl1 at *;generalize Txt.slice w (qq 1) qz=sl2 at *;generalize Txt.mul "0" (21-((w.length:Nat):Int))=zs at *;generalize sT T ns k x=S at *;generalize sT T ns (k+1) x'=S' at *;refine cH (w:=.d (.list [.str ("0" ++ w),.str ("-" ++ w),.str ("+" ++ w),.str (w ++ "a"),.str "",.str (w++zs),.str (w ++ ".")])) (S1:=S) (by simp only[evs,b1,b2,b3,b4,ll,mn,eG,wW,b6,b6',b7]) rfl (bT ?_)
 have bc:=jR (xs:=[.str ("0" ++ w),.str ("-" ++ w),.str ("+" ++ w),.str (w ++ "a"),.str "",.str (w++zs),.str (w ++ ".")]) (ys:=[.str (w ++ "_0"),.str (sl1 ++ "_" ++ sl2)]) (by simp)
 generalize w ++ "_0" = q8 at *;generalize "0" ++ w=q0 at *;generalize "-" ++ w=q1 at *;generalize "+" ++ w=q2 at *;generalize w ++ "a" = q3 at *;generalize w++zs=q5 at *;generalize w ++ "." = q6 at *;generalize sl1 ++ "_" ++ sl2=q9 at *;show ev (aF fns (d+1)) _ [qq (.loc 0),qq (.d (.str w)),qq (.d (.list [.str q0,.str q1,.str q2,.str q3,.str "",.str q5,.str q6]))] S=_;have iy:bH (.list [.str q0,.str q1,.str q2,.str q3,.str "",.str q5,.str q6,.str q8,.str q9]) (.int r)=qq (.str y):=iy;simp only[evs,xM,dS,cY,b8,s1,s2,b9,b10,bc,dr,iy]
noncomputable def qH:List Str:=["ins", "In", "nun", "shl", "mod", "neg", "picks", "o", "AND", "out", "rows", "", "0"]
noncomputable def lJ:List Str:=["out", "out 0 0 0 0 0 0 0 0 0", "in 5", "out 1", "num 65 0", "not 8 99"]
theorem aKi:∀ y∈qH,Pt 20 y:=λ y m=>by
 have h:∀ y∈qH,(y.cps.toList.all λ c=>!(c==10) && !(c==32)&&decide (c<1114112))=true/\y.length<=5:=by decide +kernel
 exact(kY (h y m).1 (h y m).2).mono (by decide)
theorem aNn:∀ y∈lJ,Lc 30 20 y:=λ y m=>by
 have h:∀ y∈lJ,(y.cps.toList.all λ c=>!(c==10)&&decide (c<1114112))=true/\y.length<=30/\y.cps.toList.count 32<=20:=by decide +kernel
 refine⟨λ c mc=>?_,(h y m).2.1,(h y m).2.2⟩
 have:=List.all_eq_true.mp (h y m).1 c mc;simpa using this
theorem aFS(T:aB)(ns:List Int)(k:Nat)(x:Int)(L:List D)(y:D)(h:L.length<=1000):eU (sT (T++[qq L]) ns k x) (.loc (T.length+1)) (.d y)=qq (.d .none,sT (T++[qq (L++[y])]) ns k x):=rL (sT T ns k x) L y h
theorem aOI(T:aB)(ns:List Int)(k:Nat)(x:Int)(L:List D):(sT (T++[qq L]) ns k x)[T.length+1]? = qq (qq L):=vO (sT T ns k x) L
noncomputable def fZ(p:Str×List Nat):List Str:=[" " ++ aV p,aV p ++ " ",jE (aV p) " " "  ", "",aV p ++ " 7",Txt.join " " (aY p).dropLast]
theorem aNs{p:Str×List Nat}(h:LnOk p):∀ y∈fZ p,Ln y:=λ y m=>by
 have z:=aBd h;have l:=aBi h;have one:Lc 1 1 " ":=⟨by decide +kernel,by decide,by decide +kernel⟩
 have two:Lc 2 1 " 7":=⟨by decide +kernel,by decide,by decide +kernel⟩
 simp only[fZ,yBc,yAv,or_false] at m;rcases m with rfl | rfl | rfl | rfl | rfl | rfl
 ·exact(one.app z).ln (by decide) (by decide)
 ·exact(z.app one).ln (by decide) (by decide)
 ·exact(aL1 z).ln (by decide) (by decide)
 ·exact Lc.ln (a:=0) (b:=0) ⟨by decide +kernel,by decide,by decide +kernel⟩ (by decide) (by decide)
 ·exact(z.app two).ln (by decide) (by decide)
 ·have j:=Lc.join (n:=20) (ps:=(aY p).dropLast) λ x mx=>mC h x (List.dropLast_subset _ mx)
  rw[List.length_dropLast] at j;exact j.ln (by omega) (by omega)
theorem aJB(l:List D)(b:D):cC (l++[b]) qz (qq (-1))=l:=by
 have e:(-1+((l.length:Int)+1)).toNat=l.length:=by omega
 unfold cC HT.sIx;simp[e]
theorem aJU(ps:List Str)(h:ps≠[]):cC (ps.map yAa) qz (qq (-1))=ps.dropLast.map yAa:=by
 have e:ps=ps.dropLast++[ps.getLast h]:=(yEw h).symm;rw[show ps.map yAa=ps.dropLast.map yAa++[.str (ps.getLast h)] by
  conv=>lhs;rw[e]
  rw[yAr];rfl]
 exact aJB _ _
theorem aIX(d:Nat)(T:aB)(hT:T.length<=20)(ns:List Int)(k:Nat)(x:Int)(p:Str×List Nat)(h:LnOk p)(hne:1<=p.2.length)(hk:k<=80000):∃ (y:Str) (x':Int),Ln y/\cl fns (d+3) 29 [.loc 0,.d (.str (aV p))] (sT T ns k x)=qq (.d (.str y),sT T ns (k+4) x'):=by
 have zl:=(aBd h).l;have pl:=aBi h;have ep:(aY p).length=p.2.length+1:=by unfold aY;simp
 have T1:∀ L:List D,(T++[qq L]).length<=40:=λ L=>by simp;omega
 have b0:bL .Add (.str " ") (.str (aV p))=qq (.str (" " ++ aV p)):=iA (by rw[show(" " : Str).length=1 by decide];omega)
 have b1:bL .Add (.str (aV p)) (.str " ")=qq (.str (aV p ++ " ")):=iA (by rw[show(" " : Str).length=1 by decide];omega)
 have b2:bL .Add (.str (aV p)) (.str " 7")=qq (.str (aV p ++ " 7")):=iA (by rw[show(" 7" : Str).length=2 by decide];omega)
 have zr:(aV p).length<=100000:=by omega
 have un:qS .USub (.int 1)=qq (.int (-1)):=rfl;have cd:=aJU (aY p) (by unfold aY;simp)
 have jd:=nL yS (ps:=(aY p).dropLast) (aAw (n:=20) (λ x mx=>mC h x (List.dropLast_subset _ mx)) (by decide) (by rw[List.length_dropLast];omega))
 obtain⟨r1,x1,hr1,d1⟩:=sE (ns:=ns) (k:=k) (x:=x) (T++[qq ((fZ p).map yAa)]) (T1 _) (d+1) 13 (by decide) (by decide) (by omega)
 have d1:cl fns (d+2) 12 [.loc 0,.d (.int 13)] (sT (T++[qq ((fZ p).map yAa)]) ns k x)=qq (.d (.int r1),sT (T++[qq ((fZ p).map yAa)]) ns (k+1) x1):=d1;obtain⟨s1,hs1⟩:∃ y,qH[r1]? = qq y:=⟨_,yAc hr1⟩;have i1:bH (.list (qH.map yAa)) (.int r1)=qq (.str s1):=eA (by rw[xAb,hs1];rfl)
 have cf:cC ((aY p).map yAa) (qq 1) qz=(aY p).tail.map yAa:=by
  rw[show(qq (1:Int))=qq ((1:Nat):Int) from rfl,lS]
  unfold aY;rfl
 have p1:∀ q∈s1::(aY p).tail,Pt 20 q:=λ q m=>by
  rcases List.mem_cons.mp m with rfl | m
  ·exact aKi _ (xAi hs1)
  ·exact mC h q (List.mem_of_mem_tail m)
 have l1:(s1::(aY p).tail).length<=9:=by simp;omega
 have j1:=nL yS (ps:=s1::(aY p).tail) (aAw p1 (by decide) (by omega))
 have c1:bL .Add (.list [.str s1]) (.list ((aY p).tail.map yAa))=qq (.list ((s1::(aY p).tail).map yAa)):=jR (by simp at l1 ⊢;omega)
 have n1:Ln (Txt.join " " (s1::(aY p).tail)):=(Lc.join p1).ln (by omega) (by omega)
 generalize Txt.join " " (s1::(aY p).tail)=z1 at *;have a1:=aFS T ns (k+1) x1 ((fZ p).map yAa) (.str z1) (by rw[yAb];show 6<=1000;decide)
 generalize eL7:(fZ p).map yAa++[.str z1]=L7 at *;have ln1:dA [.list ((aY p).map yAa)]=qq (.int ((p.2.length+1:Nat):Int)):=by rw[cA,yAb,ep]
 have e1:((p.2.length+1:Nat):Int)-1=((p.2.length:Nat):Int):=by omega
 obtain⟨r2,x2,hr2,d2⟩:=sE (ns:=ns) (k:=k+1) (x:=x1) (T++[qq L7]) (T1 _) (d+1) p.2.length (by omega) (by omega) (by omega)
 have e2:(1:Int)+((r2:Nat):Int)=((r2+1:Nat):Int):=by omega
 have e3:((r2+1:Nat):Int)+1=((r2+2:Nat):Int):=by omega
 obtain⟨w2,bZ⟩:∃ y,(aY p)[r2+1]? = qq y:=⟨_,yAc (by omega)⟩
 have i2:bH (.list ((aY p).map yAa)) (.int ((r2+1:Nat):Int))=qq (.str w2):=eA (by rw[xAb,bZ];rfl)
 obtain⟨v2,x3,hv2,d3⟩:=aId d (T++[qq L7]) (T1 _) ns (k+2) x2 w2 (mC h w2 (xAi bZ)) (by omega)
 have ct:cC ((aY p).map yAa) qz (qq ((r2+1:Nat):Int))=((aY p).take (r2+1)).map yAa:=by rw[aBa,List.map_take]
 have cr:cC ((aY p).map yAa) (qq ((r2+2:Nat):Int)) qz=((aY p).drop (r2+2)).map yAa:=by rw[lS,List.map_drop]
 have p2:∀ q∈(aY p).take (r2+1)++[v2]++(aY p).drop (r2+2),Pt 60 q:=λ q m=>by
  rcases List.mem_append.mp m with m | m
  ·rcases List.mem_append.mp m with m | m
   ·exact(mC h q (List.mem_of_mem_take m)).mono (by decide)
   ·rw[List.mem_singleton.mp m];exact hv2
  ·exact(mC h q (List.mem_of_mem_drop m)).mono (by decide)
 have l2:((aY p).take (r2+1)++[v2]++(aY p).drop (r2+2)).length<=20:=by simp;omega
 have j2:=nL yS (ps:=(aY p).take (r2+1)++[v2]++(aY p).drop (r2+2)) (aAw p2 (by decide) (by omega))
 have c2:bL .Add (.list (((aY p).take (r2+1)).map yAa)) (.list [.str v2])=qq (.list (((aY p).take (r2+1)++[v2]).map yAa)):=by
  rw[jR (by simp;omega),yAr]
  rfl
 have c3:bL .Add (.list (((aY p).take (r2+1)++[v2]).map yAa)) (.list (((aY p).drop (r2+2)).map yAa))=qq (.list (((aY p).take (r2+1)++[v2]++(aY p).drop (r2+2)).map yAa)):=by
  rw[jR (by simp;omega),<- yAr]
 have n2:Ln (Txt.join " " ((aY p).take (r2+1)++[v2]++(aY p).drop (r2+2))):=(Lc.join p2).ln (by omega) (by omega)
 generalize Txt.join " " ((aY p).take (r2+1)++[v2]++(aY p).drop (r2+2))=z2 at *;have lL7:L7.length=7:=by rw[<- eL7];rfl
 have a2:=aFS T ns (k+3) x3 L7 (.str z2) (by omega)
 have g2:=aOI T ns (k+3) x3 (L7++[.str z2]);have c4:bL .Add (.list (L7++[.str z2])) (.list (lJ.map yAa))=qq (.list ((fZ p++[z1,z2]++lJ).map yAa)):=by
  rw[jR (by rw[yAp,lL7];show 7+1+6<=1000000;decide),<- eL7,yAr,yAr]
  simp
 have la:(fZ p++[z1,z2]++lJ).length=14:=rfl;have ll4:dA [.list ((fZ p++[z1,z2]++lJ).map yAa)]=qq (.int 14):=by rw[cA,yAb,la];rfl
 obtain⟨r4,x4,hr4,d4⟩:=sE (ns:=ns) (k:=k+3) (x:=x3) (T++[qq (L7++[.str z2])]) (T1 _) (d+1) 14 (by decide) (by decide) (by omega)
 have d4:cl fns (d+2) 12 [.loc 0,.d (.int 14)] (sT (T++[qq (L7++[.str z2])]) ns (k+3) x3)=qq (.d (.int r4),sT (T++[qq (L7++[.str z2])]) ns (k+4) x4):=d4;obtain⟨y,hy⟩:∃ y,(fZ p++[z1,z2]++lJ)[r4]? = qq y:=⟨_,yAc (by rw[la];exact hr4)⟩
 have i4:bH (.list ((fZ p++[z1,z2]++lJ).map yAa)) (.int r4)=qq (.str y):=eA (by rw[xAb,hy];rfl)
 have ny:Ln y:=by
  rcases List.mem_append.mp (xAi hy) with m | m
  ·rcases List.mem_append.mp m with m | m
   ·exact aNs h y m
   ·simp only[yBc,yAv,or_false] at m;rcases m with rfl | rfl
    ·exact n1
    ·exact n2
  ·exact(aNn y m).ln (by decide) (by decide)
 refine⟨y,x4,ny,?_⟩;have sp:ev (aF fns (d+2)) (.fz (.spl (.var 1) (.str " "))) [qq (.loc 0),qq (.d (.str (aV p))),qz,qz,qz,qz] (sT T ns k x)=qq (.d (.list ((aY p).map yAa)),sT T ns k x):=by
  have:=aAZ (C:=aF fns (d+2)) (env:=[qq (.loc 0),qq (.d (.str (aV p))),qz,qz,qz,qz]) (S:=sT T ns k x) (i:=1) (z:=aV p) rfl (by omega)
  rw[aJg h] at this;exact this
 rw[cV rfl (d+2) _ _ rfl]
 suffices H:xs (aF fns (d+2)) zS [qq (.loc 0),qq (.d (.str (aV p))),qz,qz,qz,qz] (sT T ns k x)=qq (.rt (.d (.str y)),sT (T++[qq (L7++[.str z2])]) ns (k+4) x4) by
  show((xs (aF fns (d+2)) zS [qq (.loc 0),qq (.d (.str (aV p))),qz,qz,qz,qz] (sT T ns k x)).bind _)=_;rw[H,oB];show qq (W.d (.str y),(sT T ns (k+4) x4++[qq (L7++[yAa z2])]).take (T.length+1))=_;rw[show T.length+1=(sT T ns (k+4) x4).length from rfl,yEi]
 have q6:(fZ p).map yAa=[.str (" " ++ aV p),.str (aV p ++ " "),.str (jE (aV p) " " "  "),.str "",.str (aV p ++ " 7"),.str (Txt.join " " (aY p).dropLast)]:=rfl;generalize (fZ p++[z1,z2]++lJ).map yAa=L14 at *;generalize eLL:(fZ p).map yAa=L6 at *;generalize eS0:sT T ns k x=S0 at *;have eS1:S0++[qq L6]=sT (T++[qq L6]) ns k x:=by rw[<- eS0];rfl
 have lS0:S0.length=T.length+1:=by rw[<- eS0];rfl
 generalize ((aY p).dropLast).map yAa=PD at *;generalize ((aY p).tail).map yAa=PT at *;generalize ((aY p).take (r2+1)++[v2]++(aY p).drop (r2+2)).map yAa=PS at *;generalize ((aY p).take (r2+1)++[v2]).map yAa=PA at *;generalize ((aY p).take (r2+1)).map yAa=PB at *;generalize ((aY p).drop (r2+2)).map yAa=PC at *;generalize (s1::(aY p).tail).map yAa=PE at *;generalize (aY p).map yAa=PL at *;generalize sT (T++[qq L6]) ns k x=S1 at *;generalize sT (T++[qq L6]) ns (k+1) x1=S2 at *;generalize sT (T++[qq L7]) ns (k+1) x1=S3 at *;generalize sT (T++[qq L7]) ns (k+1+1) x2=S4 at *;generalize sT (T++[qq L7]) ns (k+2+1) x3=S5 at *;generalize sT (T++[qq (L7++[yAa z2])]) ns (k+3) x3=S6 at *;generalize sT (T++[qq (L7++[yAa z2])]) ns (k+4) x4=S7 at *;generalize Txt.join " " (aY p).dropLast=z6 at *;generalize aV p=Z at *;generalize L7++[yAa z2]=L8 at *;refine cH sp rfl ?_;refine cH (w:=.d (.list (qH.map yAa))) (S1:=S0) rfl rfl ?_;generalize qH.map yAa=P13 at *;refine cH (w:=.loc (T.length+1)) (S1:=S1) ?_ rfl ?_
 ·show ev (aF fns (d+2)) _ [qq (.loc 0),qq (.d (.str Z)),qq (.d (.list PL)),qq (.d (.list P13)),qz,qz] S0=_;rw[<- eS1,<- lS0,q6];simp only[evs,fG,xQ,b0,b1,b2,zr,dL,cY,dS,un,cd,jF,jd]
 refine lD (e1:=[qq (.loc 0),qq (.d (.str Z)),qq (.d (.list PL)),qq (.d (.list P13)),qq (.loc (T.length+1)),qz]) (S1:=S3) ?_ ?_
 ·show xs (aF fns (d+2)) _ [qq (.loc 0),qq (.d (.str Z)),qq (.d (.list PL)),qq (.d (.list P13)),qq (.loc (T.length+1)),qz] S1=_;simp only[evs,d1,i1,dL,cY,dS,cf,c1,jF,j1,fX,a1]
 refine cH (w:=.d (.int ((r2+1:Nat):Int))) (S1:=S4) (by simp only[evs,ln1,eG,e1,d2,dY,e2]) rfl ?_
 refine lD (e1:=[qq (.loc 0),qq (.d (.str Z)),qq (.d (.list PL)),qq (.d (.list P13)),qq (.loc (T.length+1)),qq (.d (.int ((r2+1:Nat):Int)))]) (S1:=S6) ?_ ?_
 ·show xs (aF fns (d+2)) _ [qq (.loc 0),qq (.d (.str Z)),qq (.d (.list PL)),qq (.d (.list P13)),qq (.loc (T.length+1)),qq (.d (.int ((r2+1:Nat):Int)))] S4=_;simp only[evs,i2,d3,dL,cY,dS,ct,c2,dY,e3,cr,c3,jF,j2,fX,a2]
 refine cH (w:=.d (.list L14)) (S1:=S6) ?_ rfl (bT ?_)
 ·have c4:bL .Add (.list L8) (.list [.str "out",.str "out 0 0 0 0 0 0 0 0 0",.str "in 5",.str "out 1",.str "num 65 0",.str "not 8 99"])=qq (.list L14):=c4;simp only[evs,g2,c4]
 ·show ev (aF fns (d+2)) _ [qq (.loc 0),qq (.d (.str Z)),qq (.d (.list PL)),qq (.d (.list P13)),qq (.d (.list L14)),qq (.d (.int ((r2+1:Nat):Int)))] S6=_;simp only[evs,ll4,d4,i4]
noncomputable def aBL:List (Str×Option Nat×List Hs):=[("NoLine",qq 4,[.tup 3 [.str "line",.row 4]])]
noncomputable def aBR:List (Str×Option Nat×List Hs):=[("BitsError",qq 4,[.lst true 2 [.isi 4 "ValueError",.isi 4 "NoLine"],.app 2 (.isl 4 ["NoFit", "NoNumber", "NoRow", "NoWidth", "TooMany"])])]
theorem aOE:aC "NoLine" "NoLine" = qq true:=by kernel_rfl
theorem aPh:aC "NoLine" "BitsError" = qq true:=by kernel_rfl
theorem aPA:lM aC "NoLine" ["ValueError"]=qq true:=by kernel_rfl
theorem aOo:lM aC "NoLine" ["NoLine"]=qq true:=by kernel_rfl
theorem aPB:lM aC "NoLine" ["NoFit", "NoNumber", "NoRow", "NoWidth", "TooMany"]=qq false:=by kernel_rfl
theorem aMW(j:Int):aZ .Eq (.tuple [.str "line",.int j]) (.tuple [.str "line",.int j])=qq (.bool true):=by
 have h:yBt "line" = true:=by kernel_rfl
 unfold aZ iM;simp[yFj,yCh,yDt,yCj,yBw,yEv,h]
theorem aAa(d:Nat)(x:D)(j:Nat)(S:aB)(hr:∀ S,cK fns gns aC (d+5) 33 [.d x] S=qq (.ex "NoLine" (.int j),S)):cD fns gns aC (d+6) 34 [.d x,.d (.int j)] S=qq (.d (.bool true),S):=by
 rw[show cD fns gns aC (d+6) 34=cD fns gns aC (d+6) (fns.length+4) from rfl,wF rfl (d+5) _ S rfl]
 have cx:∀ a b c S,xx (aE fns gns aC (d+5)).1 (aE fns gns aC (d+5)).2 aC (.seq (.cal 33 (.cons (.var 0) .nil)) .skip) [qq (.d x),a,b,c,qz] S=qq (.ex [qq (.d x),a,b,c,qz] "NoLine" (.int j),S):=λ a b c S=>by
  refine dH ?_;show lA (gT (aE fns gns aC (d+5)).2 33 (av (aE fns gns aC (d+5)).1 (.cons (.var 0) .nil))) _ S=_;have:av (aE fns gns aC (d+5)).1 (.cons (.var 0) .nil) [qq (.d x),a,b,c,qz] S=qq ([.d x],S):=by simp only[evs]
  unfold lA;rw[pE,this,oB,hr];rfl
 show nN (eQ (xx (aE fns gns aC (d+5)).1 (aE fns gns aC (d+5)).2 aC vD) 5) [.d x,.d (.int j)] S=_;generalize (aE fns gns aC (d+5)).1=C at *;generalize (aE fns gns aC (d+5)).2=CX at *;have run:xx C CX aC vD [qq (.d x),qq (.d (.int j)),qz,qz,qz] S=qq (.fl (.rt (.d (.bool true))),(S++[qq []])++[qq [.bool true,.bool true,.bool false]]):=by
  refine xk (cN (fl:=.nx [qq (.d x),qq (.d (.int j)),qq (.loc S.length),qz,qz]) (S1:=S++[qq []]) (by simp only[evs,fG])) ?_
  refine xk (cN (fl:=.nx [qq (.d x),qq (.d (.int j)),qq (.loc S.length),qq (.d (.tuple [.str "none",.int 0])),qz]) (S1:=S++[qq []]) (by simp only[evs])) ?_
  have h1:eD aC "NoLine" (.int j) (aBL.map λ h=>⟨h.1,h.2.1,kH aC h.2.2⟩) [qq (.d x),qq (.d (.int j)),qq (.loc S.length),qq (.d (.tuple [.str "none",.int 0])),qz] (S++[qq []])=qq (.nx [qq (.d x),qq (.d (.int j)),qq (.loc S.length),qq (.d (.tuple [.str "line",.int j])),qz],S++[qq []]):=by
   simp only[evs,aBL,yAi,yCg,eD,aOE,kH,cU,hv,lN,tT,qR,tY]
  refine xk (e1:=[qq (.d x),qq (.d (.int j)),qq (.loc S.length),qq (.d (.tuple [.str "line",.int j])),qz]) (S1:=S++[qq []]) ?_ ?_
  ·show qQ aC (xx C CX aC (.seq (.cal 33 (.cons (.var 0) .nil)) .skip)) (aBL.map λ h=>⟨h.1,h.2.1,kH aC h.2.2⟩) _ _=_
   unfold qQ;rw[cx,oB];show(eD aC "NoLine" (.int j) _ _ _).bind _=_;rw[h1];rfl
  have ap:=rL (S++[qq []]) [.bool true,.bool true] (.bool false) (by decide)
  have h2:eD aC "NoLine" (.int j) (aBR.map λ h=>⟨h.1,h.2.1,kH aC h.2.2⟩) [qq (.d x),qq (.d (.int j)),qq (.loc S.length),qq (.d (.tuple [.str "line",.int j])),qz] (S++[qq []])=qq (.nx [qq (.d x),qq (.d (.int j)),qq (.loc (S++[qq []]).length),qq (.d (.tuple [.str "line",.int j])),qz],(S++[qq []])++[qq [.bool true,.bool true,.bool false]]):=by
   have ap:eU ((S++[qq []])++[qq [.bool true,.bool true]]) (.loc (S++[qq []]).length) (.d (.bool false))=qq (.d .none,(S++[qq []])++[qq [.bool true,.bool true,.bool false]]):=ap;generalize S++[qq []]=S1 at *;simp only[evs,aBR,yAi,yCg,eD,aPh,kH,cU,hv,lN,oC,qR,aPA,aOo,aPB,fG,fX,ap,tY]
  refine xk (e1:=[qq (.d x),qq (.d (.int j)),qq (.loc (S++[qq []]).length),qq (.d (.tuple [.str "line",.int j])),qz]) (S1:=(S++[qq []])++[qq [.bool true,.bool true,.bool false]]) ?_ ?_
  ·show qQ aC (xx C CX aC (.seq (.cal 33 (.cons (.var 0) .nil)) .skip)) (aBR.map λ h=>⟨h.1,h.2.1,kH aC h.2.2⟩) _ _=_
   unfold qQ;rw[cx,oB];show(eD aC "NoLine" (.int j) _ _ _).bind _=_;rw[h2];rfl
  have gl:=vO (S++[qq []]) [.bool true,.bool true,.bool false];have ed:=aMW (j:Nat);have i1:bH (.tuple [.str "line",.int j]) (.int 1)=qq (.int j):=rfl;have e3:aZ .Eq (.list [.bool true,.bool true,.bool false]) (.list [.bool true,.bool true,.bool false])=qq (.bool true):=by kernel_rfl
  have ib:fP .bool (.int j)=qq (.bool false):=rfl;generalize (S++[qq []])++[qq [yAs true,.bool true,.bool false]]=S2 at *;generalize (S++[qq []]).length=n at *;exact wO (cN (by simp only[evs,ed,i1,ib,gl,e3]))
 unfold nN eQ;show(((xx C CX aC vD [qq (.d x),qq (.d (.int j)),qz,qz,qz] S).bind _).bind _)=_;rw[run,oB];show qq (W.d (yAs true),((S++[qq []])++[qq [yAs true,yAs true,yAs false]]).take S.length)=_;rw[yCp,yEi]
inductive Pl:Nat->D->Prop
 | int {d:Nat}{i:Int}:Pl d (.int i)
 | str {d:Nat}{x:Str} (h:yBt x=true):Pl d (.str x)
 | tup {d:Nat}{ts:List D} (h:∀ t∈ts,Pl d t) (hl:ts.length<=1000):Pl (d+1) (.tuple ts)
theorem aEg:∀ {ts:List D},(∀ t∈ts,t.canLay0=true)->yCh ts=true
 | [],_=>rfl
 | t::ts,h=>by
   show(t.canLay0&&yCh ts)=true;rw[h t xAd,aEg λ x m=>h x (xAf _ m)]
   rfl
theorem aEx:∀ {ts:List D},(∀ t∈ts,yBw t t=true)->yEv ts ts=true
 | [],_=>by simp[yEv]
 | t::ts,h=>by
   have h1:=h t xAd;have h2:=aEx λ x m=>h x (xAf _ m)
   simp[yEv,h1,h2]
theorem aEy{n:Nat}:∀ {ts:List D},(∀ t∈ts,t.depth<=n)->yCj ts<=n
 | [],_=>by simp[yCj]
 | t::ts,h=>by
   have h1:=h t xAd;have h2:=aEy λ x m=>h x (xAf _ m)
   simp only[yCj];omega
theorem Pl.lay{d:Nat}{t:D}(h:Pl d t):t.canLay0=true:=by
 induction h with
 | int=>rfl
 | str h=>exact h
 | tup h hl ih=>exact aEg ih
theorem Pl.eqv{d:Nat}{t:D}(h:Pl d t):yBw t t=true:=by
 induction h with
 | int=>simp[yBw]
 | str h=>simp[yBw]
 | tup h hl ih =>
   have:=aEx ih;simp[yBw,this]
theorem Pl.dep{d:Nat}{t:D}(h:Pl d t):t.depth<=d:=by
 induction h with
 | int=>simp[yDt]
 | str h=>simp[yDt]
 | tup h hl ih =>
   have:=aEy ih;simp only[yDt];omega
theorem Pl.cmp{d:Nat}{t:D}(h:Pl d t)(hd:d<=50):aZ .Eq t t=qq (.bool true):=by
 have h1:=h.lay;have h2:=h.eqv;have h3:=h.dep;unfold aZ iM;simp only[];rw[if_pos ⟨h1,h1,by omega⟩,h2]
 rfl
theorem Pl.ne{d:Nat}{t:D}(h:Pl d t)(hd:d<=50):aZ .NotEq t t=qq (.bool false):=by
 have h1:=h.lay;have h2:=h.eqv;have h3:=h.dep;unfold aZ iM;simp only[];rw[if_pos ⟨h1,h1,by omega⟩,h2]
 rfl
theorem aKp(wd:Wd):yBt wd.s=true:=by cases wd<;>kernel_rfl
theorem aNq{r:Rw}(ar:Ar r):Pl 1 r.d:=.tup (λ t m=>by
 rcases List.mem_cons.mp m with rfl | m
 ·exact .str (aKp _)
 ·rcases List.mem_cons.mp m with rfl | m
  ·exact .int
  ·obtain⟨n,_,rfl⟩:=List.mem_map.mp m;exact .int) (by
 have:=wA r.wd;rw[<- ar] at this;simp;omega)
theorem aFG{rs:List Rw}{aD:List Nat}(ar:∀ r∈rs,Ar r)(lr:rs.length<=100)(lo:aD.length<=8):Pl 3 (bX rs aD):=.tup (λ t m=>by
 rcases List.mem_cons.mp m with rfl | m
 ·exact .tup (λ t m=>by
   obtain⟨r,mr,rfl⟩:=List.mem_map.mp m;exact aNq (ar r mr)) (by simp;omega)
 ·rcases List.mem_cons.mp m with rfl | m
  ·exact .tup (λ t m=>by
    obtain⟨n,_,rfl⟩:=List.mem_map.mp m;exact .int) (by simp;omega)
  ·cases m) (by simp)
theorem aJX{ws:List Nat}{r:Rw}(h:gS ws r)(hw:ws.length<=1000):Bd r:=by
 obtain⟨wd,w,args⟩:=r;have h2:w<=64:=h.2.1;have lt:∀ {a v:Nat},ws[a]? = qq v->a<10^20:=λ {a v} q=>by
  have:=(gIm q).1;omega
 have e0:∀ a∈([]:List Nat),a<10^20:=λ a m=>by cases m
 have e1:∀ {a:Nat},a<10^20->∀ x∈[a],x<10^20:=λ q x m=>by rw[List.mem_singleton.mp m];exact q
 have e2:∀ {a b:Nat},a<10^20->b<10^20->∀ x∈[a,b],x<10^20:=λ q q' x m=>by
  rcases List.mem_cons.mp m with rfl | m
  ·exact q
  ·exact e1 q' x m
 refine⟨show w<10^20 by omega,?_⟩
 rcases args with _ | ⟨a,_ | ⟨b,_ | ⟨c,_ | ⟨e,t⟩⟩⟩⟩
 ·exact e0
 ·cases wd
  case num =>
   have q:a<2^w:=h.2.2;exact e1 (xAc q (xAg (yEt (by decide) h2) (by decide)))
  case not=>exact e1 (lt h.2.2)
  case cut=>obtain⟨v,q,_⟩:=h.2.2;exact e1 (lt q)
  case wide=>obtain⟨v,q,_⟩:=h.2.2;exact e1 (lt q)
  case sign=>obtain⟨v,q,_⟩:=h.2.2;exact e1 (lt q)
  all_goals exact h.2.2.elim
 ·cases wd
  case left | right | slide =>
   have q2:b<64:=h.2.2.2;exact e2 (lt h.2.2.1) (by omega)
  case and | or | xor | add | sub | mul=>exact e2 (lt h.2.2.1) (lt h.2.2.2)
  case same | less | under =>
   obtain⟨_,v,q1,q2⟩:=h.2.2;exact e2 (lt q1) (lt q2)
  all_goals exact h.2.2.elim
 ·cases wd
  case pick =>
   obtain⟨q1,q2,q3⟩:=h.2.2;intro x m;rcases List.mem_cons.mp m with rfl | m
   ·exact lt q1
   ·exact e2 (lt q2) (lt q3) x m
  all_goals exact h.2.2.elim
 ·cases wd<;>exact h.2.2.elim
theorem aAo:∀ {rs:List Rw}{ws:List Nat},cW ws rs->ws.length+rs.length<=1000->∀ r∈rs,Bd r
 | [],_,_,_,r,h=>by cases h
 | q::rs,ws,⟨h1,h2⟩,hl,r,h=>by
   have hl:ws.length+(rs.length+1)<=1000:=hl;rcases List.mem_cons.mp h with rfl | h
   ·exact aJX h1 (by omega)
   ·exact aAo h2 (by simp;omega) r h
theorem aDk{g:Nat}{G:FnX}{x:Xx}(hG:gns[g]? = qq G)(hx:G.body=.inr x)(d:Nat)(ws:List W)(S:aB)(h:ws.length=G.np){w:W}{S':aB}(e:cK fns gns aC (d+1) (fns.length+g) ws S=qq (.ok w,S')):cD fns gns aC (d+1) (fns.length+g) ws S=qq (w,S'):=by
 rw[wF hG d ws S h];rw[mD hG hx d ws S h] at e;unfold iH;rw[hx];show nN _ ws S=_;unfold nN;rw[e];rfl
theorem zE(d:Nat)(T:aB)(hT:T.length<=40)(ns:List Int)(k:Nat)(x:Int)(m:Nat){i:Int}(hi:i=(m:Nat))(hm:0<m)(hm2:m<2^64)(hk:k<=100000):∃ (r:Nat) (x':Int),r<m/\cD fns gns aC (d+1) 12 [.loc 0,.d (.int i)] (sT T ns k x)=qq (.d (.int r),sT T ns (k+1) x'):=by
 obtain⟨r,x',h1,h2⟩:=sE (ns:=ns) (k:=k) (x:=x) T hT d m hm hm2 hk;rw[<- hi] at h2;exact⟨r,x',h1,(gF d 12 _ _ (by decide)).trans h2⟩
theorem aBg:Ln "":=Lc.ln (a:=0) (b:=0) ⟨by decide +kernel,by decide,by decide +kernel⟩ (by decide) (by decide)
theorem aLE:kF [] "" = "":=by decide +kernel
theorem aNk:fY [] "" = qq 0:=by decide +kernel
noncomputable def lw9:Sx:=dC (dC (dC (dC (dC (dC (dC (dC (dC qP))))))))
theorem aIm{L:List Str}(h:∀ z∈L,Ln z)(hl:L.length<=101):mJ (.str "\n") (.list (L.map yAa))=qq (.str (Txt.join "\n" L)):=by
 refine nL nl1 ?_;have s:=kX (λ p:Str=>p.length) 2000 L λ x m=>(h x m).l
 omega
noncomputable def aBN(G:D):List D:=[.none,.int 0,G,.tuple [.str "in 5",.str "out 0"],.bool true]
theorem aJa(d:Nat)(T:aB)(hT:T.length<=40)(ns:List Int)(k:Nat)(x:Int)(hk:k<=90000)(rs0:List Rw)(aD:List Nat)(s:D)(a2 a7 a9:Option W)(q:Nat)(w:W)(zs:List Str)(o:Str)(ok:cW [] rs0)(h0:∀ o∈aD,o<rs0.length)(l0:rs0.length<=100)(o1:1<=aD.length)(o8:aD.length<=8)
 (ln:∀ z∈zs,Ln z) (lo:Ln o) (lz:zs.length<=100) (hw:yH w (zs++[o]) (sT T ns k x)):∃ S',
 xs (aE fns gns aC (d+6)).1 lw9 [qq (.d s),qq (.loc 0),a2,qq (.d (.int q)),qq (.d (bX rs0 aD)),qq (.d (.list (((bD rs0 aD).map aV).map yAa))),qq w,a7,qz,a9] (sT T ns k x)=qq (.rt (.d (.bool true)),S'):=by
 have ar0:=aAn ok;have bd0:=aAo ok (by simp;omega)
 have bo:∀ o∈aD,o<10^20:=λ o m=>by have:=h0 o m;omega
 have gl:=aDj ok h0;have rd:∀ S,cD fns gns aC (d+6) 33 [.d (.str (lC rs0 aD))] S=qq (.d (bX rs0 aD),S):=λ S=>by
  have rd:=aEh (d+1) rs0 aD ar0 bd0 bo l0 o1 o8 S;rw[gl] at rd;exact aDk (g:=3) rfl rfl (d+5) _ S rfl rd
 have ce:=(aFG ar0 l0 o8).cmp (by decide)
 have lk:=vP ar0 bd0 bo o8;have jg:mJ (.str "\n") (.list (((bD rs0 aD).map aV).map yAa))=qq (.str (lC rs0 aD)):=nL nl1 (xAg (aAr lk (by unfold bD;simp;omega)) (by decide))
 have fb:cD fns gns aC (d+6) 26 [w] (sT T ns k x)=qq (.d (.int (mT (fY zs o))),sT T ns k x):=(gF (d+5) 26 _ _ (by decide)).trans (aLF (d+3) w zs o ln lo lz _ hw)
 have lns:∀ z∈zs++[o],Ln z:=λ z m=>by
  rcases List.mem_append.mp m with m | m
  ·exact ln z m
  ·rw[List.mem_singleton.mp m];exact lo
 have jw:mJ (.str "\n") (.list ((zs++[o]).map yAa))=qq (.str (kF zs o)):=aIm lns (by simp;omega)
 have rf:∀ j,fY zs o=qq j->∀ S,cD fns gns aC (d+6) 34 [.d (.str (kF zs o)),.d (.int j)] S=qq (.d (.bool true),S):=λ j hj S=>aAa d _ j S λ S=>aDw d zs o ln lo lz j hj S
 have r0:∀ S,cD fns gns aC (d+6) 34 [.d (.str ""),.d (.int 0)] S=qq (.d (.bool true),S):=λ S=>aAa d _ 0 S λ S=>by
  have:=aDw d [] "" (λ z m=>by cases m) aBg (by simp) 0 aNk S
  rw[aLE] at this;exact this
 have rn:∀ (y:D),fP .str y=qq (.bool false)->∀ S,cD fns gns aC (d+6) 34 [.d y,.d (.int 0)] S=qq (.d (.bool true),S):=λ y hy S=>aAa d y 0 S λ S=>aJW (d+4) y hy S
 obtain⟨r5,x5,hr5,d5⟩:=zE (d+5) T hT ns k x 5 (i:=5) rfl (by decide) (by decide) (by omega)
 have ib:∃ y,(aBN (bX rs0 aD))[r5]? = qq y/\fP .str y=qq (.bool false):=by
  have:r5=0\/r5=1\/r5=2\/r5=3\/r5=4:=by omega
  rcases this with rfl | rfl | rfl | rfl | rfl<;>exact⟨_,rfl,rfl⟩
 obtain⟨y5,hy5,iy5⟩:=ib;have i5:bH (.list (aBN (bX rs0 aD))) (.int r5)=qq y5:=eA hy5;have rn5:=rn y5 iy5;unfold aBN at i5;generalize bX rs0 aD=G at *;generalize ((bD rs0 aD).map aV).map yAa=GL at *;generalize lC rs0 aD=TX at *;have bB:∀ (z:Int) S,xs (aE fns gns aC (d+6)).1 (dC (dC (dC lw9))) [qq (.d s),qq (.loc 0),a2,qq (.d (.int q)),qq (.d G),qq (.d (.list GL)),qq w,a7,qq (.d (.int z)),a9] S=qq (.rt (.d (.bool true)),S):=λ z S =>
  bT (by simp only[evs,dN,r0,jF,jg,rd,ce])
 have mid:∀ z:Int,∃ S',xs (aE fns gns aC (d+6)).1 (dC (dC lw9)) [qq (.d s),qq (.loc 0),a2,qq (.d (.int q)),qq (.d G),qq (.d (.list GL)),qq w,a7,qq (.d (.int z)),a9] (sT T ns k x)=qq (.rt (.d (.bool true)),S'):=λ z=>by
  generalize sT T ns k x=S1 at *;generalize sT T ns (k+1) x5=S2 at *
  by_cases c:q=4
  ·have c4:(((q:Nat):Int)==4)=true:=by rw[c];rfl
   exact⟨S2,cS (S1:=S2) (by simp only[evs,dN,eB,c4,d5,i5,rn5]) (bB z S2)⟩
  ·have c4:(((q:Nat):Int)==4)=false:=by rw[beq_eq_false_iff_ne];omega
   exact⟨S1,cS (S1:=S1) (by simp only[evs,eB,c4]) (bB z S1)⟩
 obtain⟨S',m⟩:=mid (mT (fY zs o));refine⟨S',cH (w:=.d (.int (mT (fY zs o)))) (S1:=sT T ns k x) (by simp only[evs,dN,fb]) rfl ?_⟩
 refine cS (S1:=sT T ns k x) ?_ m;show tv (aE fns gns aC (d+6)).1 _ [qq (.d s),qq (.loc 0),a2,qq (.d (.int q)),qq (.d G),qq (.d (.list GL)),qq w,a7,qq (.d (.int (mT (fY zs o)))),a9] (sT T ns k x)=_;cases hf:fY zs o with
 | none =>
   have c0:decide ((0:Int)<=mT qz)=false:=by decide
   simp only[evs,pR,c0]
 | some j =>
   have c0:decide ((0:Int)<=mT (qq j))=true:=dqT (by show(0:Int)<=((j:Nat):Int);omega)
   have rf:=rf j hf (sT T ns k x);have rf:cD fns gns aC (d+6) 34 [.d (.str (kF zs o)),.d (.int (mT (qq j)))] (sT T ns k x)=qq (.d (.bool true),sT T ns k x):=rf;unfold yH at hw;generalize (zs++[o]).map yAa=LL at *;generalize sT T ns k x=S1 at *;rcases hw with rfl | ⟨n,rfl,hn⟩
   ·simp only[evs,dN,pR,c0,jF,jw,rf]
   ·simp only[evs,dN,pR,c0,jF,hn,jw,rf]
theorem aDz(l:List D)(b:D):cC (l++[b]) (qq (-1)) qz=[b]:=by
 have e:(-1+((l.length:Int)+1)).toNat=l.length:=by omega
 unfold cC HT.sIx;simp[e]
theorem aNt(S:aB)(n:Nat)(l:List D)(j:Nat)(y:D)(h:S[n]? = qq (qq l))(hj:j<l.length):mF S (.loc n) (.d (.int j)) (.d y)=qq (S.set n (qq (l.set j y))):=by
 have e:gL l.length ((j:Nat):Int)=qq j:=by
  unfold gL;simp;omega
 unfold mF;simp only[h,e,oB]
theorem aFx(L:List Str)(h:L≠[]):∃ zs o,L=zs++[o]:=⟨L.dropLast,L.getLast h,(yEw h).symm⟩
theorem aOe(d:Nat)(ns:List Int)(h1:ns.length<=63):cD fns gns aC (d+7) 35 [.d (.list (ns.map yAl))] []=qq (.d (.bool true),[]):=by
 obtain⟨most,hm,em⟩:∃ most:Nat,most<=30/\(1:Int)+(if (8:Int)<((ns.length:Nat):Int) then (8:Int) else ((ns.length:Nat):Int))=((most:Nat):Int):=by
  by_cases c:(8:Int)<((ns.length:Nat):Int)
  ·exact⟨9,by omega,by rw[if_pos c];rfl⟩
  ·exact⟨1+ns.length,by omega,by rw[if_neg c];omega⟩
 obtain⟨m0,x1,hm4,d1⟩:=zE (d+5) [] (by decide) ns 0 0 2 (i:=2) rfl (by decide) (by decide) (by omega)
 have e1:(1:Int)+((m0:Nat):Int)=((1+m0:Nat):Int):=by omega
 obtain⟨q,x2,hq,d2⟩:=zE (d+5) [] (by decide) ns 1 x1 9 (i:=9) rfl (by decide) (by decide) (by omega)
 obtain⟨rs0,outs0,k,x,ok,l0,l40,ho,o0,o8,hk,ep⟩:=aH9 d most ns hm 2 x2 (by omega)
 have ep:cD fns gns aC (d+6) 22 [.loc 0,.d (.int most)] (sT [] ns 2 x2)=qq (.d (bX rs0 outs0),sT [] ns k x):=(gF (d+5) 22 _ _ (by decide)).trans ep
 have arr:=aAn ok;have bdd:=aAo ok (by simp;omega)
 have bo:∀ o∈outs0,o<10^20:=λ o m=>by have:=ho o m;omega
 have lk:=vP arr bdd bo o8;have gl:=aDj ok ho;have ce:=(aFG arr (by omega) o8).ne (by decide)
 have tx:cD fns gns aC (d+6) 27 [.d (bX rs0 outs0)] (sT [] ns k x)=qq (.d (.list (((bD rs0 outs0).map aV).map yAa)),sT [] ns k x):=(gF (d+5) 27 _ _ (by decide)).trans (aIq (d+5) rs0 outs0 arr bdd bo (by omega) o8 _)
 have rd:cD fns gns aC (d+6) 33 [.d (.str (lC rs0 outs0))] (sT [] ns k x)=qq (.d (bX rs0 outs0),sT [] ns k x):=by
  have rd:=aEh (d+1) rs0 outs0 arr bdd bo (by omega) o0 o8 (sT [] ns k x)
  rw[gl] at rd;exact aDk (g:=3) rfl rfl (d+5) _ _ rfl rd
 have jg:mJ (.str "\n") (.list (((bD rs0 outs0).map aV).map yAa))=qq (.str (lC rs0 outs0)):=nL nl1 (xAg (aAr lk (by unfold bD;simp;omega)) (by decide))
 have mn:uA [.int ns.length,.int 8]=qq (.int (if (8:Int)<((ns.length:Nat):Int) then (8:Int) else ((ns.length:Nat):Int))):=rfl
 have ln:dA [.list (ns.map yAl)]=qq (.int ns.length):=by rw[cA,yAb]
 have lp:(bD rs0 outs0).length=rs0.length+1:=by unfold bD;simp
 have gln:∀ z∈(bD rs0 outs0).map aV,Ln z:=λ z m=>by
  obtain⟨p,mp,rfl⟩:=List.mem_map.mp m;exact(aBd (lk p mp)).ln (by decide) (by decide)
 have lg:dA [.list (((bD rs0 outs0).map aV).map yAa)]=qq (.int ((rs0.length+1:Nat):Int)):=by rw[cA,yAb,yAb,lp]
 have pne:∀ p∈bD rs0 outs0,1<=p.2.length:=λ p m=>by
  unfold bD at m;rcases List.mem_append.mp m with m | m
  ·obtain⟨r,_,rfl⟩:=List.mem_map.mp m;show 1<=(r.w::r.args).length;simp
  ·rw[List.mem_singleton.mp m];exact o0
 rw[show cD fns gns aC (d+7) 35=cD fns gns aC (d+7) (fns.length+5) from rfl,wF rfl (d+6) _ _ rfl]
 show cQ (xs (aE fns gns aC (d+6)).1 qP) 10 [.d (.list (ns.map yAl))] []=_
 suffices H:∃ S',xs (aE fns gns aC (d+6)).1 qP [qq (.d (.list (ns.map yAl))),qz,qz,qz,qz,qz,qz,qz,qz,qz] []=qq (.rt (.d (.bool true)),S') by
  obtain⟨S',e⟩:=H;unfold cQ;show(xs (aE fns gns aC (d+6)).1 qP [qq (.d (.list (ns.map yAl))),qz,qz,qz,qz,qz,qz,qz,qz,qz] []).bind _=_;rw[e];rfl
 obtain⟨aK,S',p1,L,a7,a9,k7,x7,lL,hL,hk7,rfl,rfl⟩:=aA6 (t:=.one 7) (fi:=lv (aE fns gns aC (d+6)).1 vT) (fb:=xs (aE fns gns aC (d+6)).1 aAU) (env:=[qq (.d (.list (ns.map yAl))),qq (.loc 0),qq (.d (.int ((1+m0:Nat):Int))),qq (.d (.int q)),qq (.d (bX rs0 outs0)),qq (.d (.list (((bD rs0 outs0).map aV).map yAa))),qq (.loc 1),qz,qz,qz]) (S:=sT [qq (((bD rs0 outs0).map aV).map yAa)] ns k x) (S1:=sT [qq (((bD rs0 outs0).map aV).map yAa)] ns k x) (ds:=(yAx (1+m0)).map (λ k=>yAl (k:Nat)))
  (λ j env S=>∃ (L:List Str) (a7 a9:Option W) (k':Nat) (x':Int),L.length=rs0.length+1/\(∀ z∈L,Ln z)/\k'<=k+6*j/\env=[qq (.d (.list (ns.map yAl))),qq (.loc 0),qq (.d (.int ((1+m0:Nat):Int))),qq (.d (.int q)),qq (.d (bX rs0 outs0)),qq (.d (.list (((bD rs0 outs0).map aV).map yAa))),qq (.loc 1),a7,qz,a9]/\S=sT [qq (L.map yAa)] ns k' x')
  (by
    simp only[vT,pM];exact pC (by simp only[evs]) (by omega))
  ⟨(bD rs0 outs0).map aV,qz,qz,k,x,by rw[yAb,lp],gln,by omega,rfl,rfl⟩ (by
   rintro j dd env S hj ⟨L,a7,a9,k',x',lL,hL,hk',rfl,rfl⟩;have hj':j<1+m0:=by simpa using hj
   obtain⟨r,x3,hr,d3⟩:=zE (d+5) [qq (L.map yAa)] (by simp) ns k' x' (rs0.length+1) (i:=((rs0.length+1:Nat):Int)) rfl (by omega) (by omega) (by omega)
   obtain⟨p,hp⟩:∃ p,(bD rs0 outs0)[r]? = qq p:=⟨_,yAc (by omega)⟩
   have mp:=xAi hp;have ig:bH (.list (((bD rs0 outs0).map aV).map yAa)) (.int r)=qq (.str (aV p)):=eA (by rw[xAb,xAb,hp];rfl)
   obtain⟨y,x4,ny,es⟩:=aIX (d+3) [qq (L.map yAa)] (by simp) ns (k'+1) x3 p (lk p mp) (pne p mp) (by omega)
   have es:cD fns gns aC (d+6) 29 [.loc 0,.d (.str (aV p))] (sT [qq (L.map yAa)] ns (k'+1) x3)=qq (.d (.str y),sT [qq (L.map yAa)] ns (k'+1+4) x4):=(gF (d+5) 29 _ _ (by decide)).trans es
   have pu:=aNt (sT [qq (L.map yAa)] ns (k'+1+4) x4) 1 (L.map yAa) r (.str y) rfl (by rw[yAb];omega)
   have eS:(sT [qq (L.map yAa)] ns (k'+1+4) x4).set 1 (qq ((L.map yAa).set r (.str y)))=sT [qq ((L.set r y).map yAa)] ns (k'+1+4) x4:=by rw[List.map_set];rfl
   rw[eS] at pu;refine⟨[qq (.d (.list (ns.map yAl))),qq (.loc 0),qq (.d (.int ((1+m0:Nat):Int))),qq (.d (.int q)),qq (.d (bX rs0 outs0)),qq (.d (.list (((bD rs0 outs0).map aV).map yAa))),qq (.loc 1),qq (.d dd),qz,a9],[qq (.d (.list (ns.map yAl))),qq (.loc 0),qq (.d (.int ((1+m0:Nat):Int))),qq (.d (.int q)),qq (.d (bX rs0 outs0)),qq (.d (.list (((bD rs0 outs0).map aV).map yAa))),qq (.loc 1),qq (.d dd),qz,qq (.d (.int r))],sT [qq ((L.set r y).map yAa)] ns (k'+1+4) x4,rfl,?_,L.set r y,qq (.d dd),qq (.d (.int r)),k'+1+4,x4,by rw[yAq];exact lL,?_,by omega,rfl,rfl⟩
   ·generalize bX rs0 outs0=G at *;generalize ((bD rs0 outs0).map aV).map yAa=GL at *;generalize sT [qq (L.map yAa)] ns k' x'=S1 at *;generalize sT [qq (L.map yAa)] ns (k'+1) x3=S2 at *;generalize sT [qq (L.map yAa)] ns (k'+1+4) x4=S3 at *;generalize sT [qq ((L.set r y).map yAa)] ns (k'+1+4) x4=S4 at *;refine cH (w:=.d (.int r)) (S1:=S2) (by simp only[evs,dN,lg,d3]) rfl (aA9 ?_)
    simp only[evs,aFw,mQ,dN,ig,es,pu]
   ·intro z m;rcases List.mem_or_eq_of_mem_set m with m | rfl
    ·exact hL z m
    ·exact ny)
 have hk9:k7<=90000:=by
  rw[yAb,List.length_range] at hk7;omega
 have p1':xs (aE fns gns aC (d+6)).1 (.loop (.one 7) vT aAU) [qq (.d (.list (ns.map yAl))),qq (.loc 0),qq (.d (.int ((1+m0:Nat):Int))),qq (.d (.int q)),qq (.d (bX rs0 outs0)),qq (.d (.list (((bD rs0 outs0).map aV).map yAa))),qq (.loc 1),qz,qz,qz] (sT [qq (((bD rs0 outs0).map aV).map yAa)] ns k x)=qq (.nx [qq (.d (.list (ns.map yAl))),qq (.loc 0),qq (.d (.int ((1+m0:Nat):Int))),qq (.d (.int q)),qq (.d (bX rs0 outs0)),qq (.d (.list (((bD rs0 outs0).map aV).map yAa))),qq (.loc 1),a7,qz,a9],sT [qq (L.map yAa)] ns k7 x7):=p1;have tl:∃ S',xs (aE fns gns aC (d+6)).1 (dC (dC (dC (dC (dC (dC (dC (dC qP)))))))) [qq (.d (.list (ns.map yAl))),qq (.loc 0),qq (.d (.int ((1+m0:Nat):Int))),qq (.d (.int q)),qq (.d (bX rs0 outs0)),qq (.d (.list (((bD rs0 outs0).map aV).map yAa))),qq (.loc 1),a7,qz,a9] (sT [qq (L.map yAa)] ns k7 x7)=qq (.rt (.d (.bool true)),S'):=by
  have go:=aJa d [qq (L.map yAa)] (by simp) ns k7 x7 hk9 rs0 outs0 (.list (ns.map yAl)) (qq (.d (.int ((1+m0:Nat):Int)))) a7 a9 q
  by_cases c:q<3
  ·have c3:decide (((q:Nat):Int)<3)=true:=dqT (by omega)
   have gne:(bD rs0 outs0).map aV≠[]:=λ e=>by
    have:=congrArg yEy e;rw[yAb,lp] at this;cases this
   obtain⟨gz,g1,eg⟩:=aFx _ gne;have lgz:gz.length=rs0.length:=by
    have:=congrArg yEy eg;rw[yAb,lp] at this;simp at this;omega
   have eGL:((bD rs0 outs0).map aV).map yAa=gz.map yAa++[.str g1]:=by rw[eg,yAr];rfl
   have gz_ln:∀ z∈gz,Ln z:=λ z m=>gln z (by rw[eg];exact yBk _ m)
   have g1_ln:Ln g1:=gln g1 (by rw[eg];exact xAk _ xAd)
   let opts:List (List Str):=[gz++[g1]++[("" : Str)],("" : Str)::(gz++[g1]),gz++[g1]++[g1]]
   have hopt:∃ zs o,opts[q]? = qq (zs++[o])/\(∀ z∈zs,Ln z)/\Ln o/\zs.length<=100:=by
    have:q=0\/q=1\/q=2:=by omega
    rcases this with rfl | rfl | rfl
    ·exact⟨gz++[g1], "",rfl,λ z m=>by rcases List.mem_append.mp m with m | m;exact gz_ln z m;rw[List.mem_singleton.mp m];exact g1_ln,aBg,by simp;omega⟩
    ·exact⟨"" :: gz,g1,rfl,λ z m=>by rcases List.mem_cons.mp m with rfl | m;exact aBg;exact gz_ln z m,g1_ln,by simp;omega⟩
    ·exact⟨gz++[g1],g1,rfl,λ z m=>by rcases List.mem_append.mp m with m | m;exact gz_ln z m;rw[List.mem_singleton.mp m];exact g1_ln,g1_ln,by simp;omega⟩
   obtain⟨zs,o,ho',h2,h3,h4⟩:=hopt;obtain⟨S',g⟩:=go (.d (.list ((zs++[o]).map yAa))) zs o ok ho (by omega) o0 o8 h2 h3 h4 (.inl rfl)
   refine⟨S',lD (oA (S1:=sT [qq (L.map yAa)] ns k7 x7) (by simp only[evs,cT,c3]) (lY (w:=.d (.list ((zs++[o]).map yAa))) (S1:=sT [qq (L.map yAa)] ns k7 x7) ?_)) g⟩
   have ix:bH (.list (opts.map λ l=>yEf (l.map yAa))) (.int q)=qq (.list ((zs++[o]).map yAa)):=eA (by rw[xAb,ho'];rfl)
   have eo:opts.map (λ l=>yEf (l.map yAa))=[.list (gz.map yAa++[.str g1]++[.str ""]),.list (yAa "" :: (gz.map yAa++[.str g1])),.list (gz.map yAa++[.str g1]++[.str g1])]:=by
    simp only[opts,yAi,yCg,yAr]
   rw[eo] at ix;rw[eGL];have lGZ:(gz.map yAa).length<=100:=by rw[yAb];omega
   generalize gz.map yAa=GZ at *;generalize (zs++[o]).map yAa=LL at *;generalize bX rs0 outs0=G at *;generalize sT [qq (L.map yAa)] ns k7 x7=S1 at *;have un:qS .USub (.int 1)=qq (.int (-1)):=rfl;have cl1:=aDz GZ (.str g1);have b1:bL .Add (.list (GZ++[.str g1])) (.list [.str ""])=qq (.list (GZ++[.str g1]++[.str ""])):=jR (by simp;omega)
   have b2:bL .Add (.list [.str ""]) (.list (GZ++[.str g1]))=qq (.list (yAa "" :: (GZ++[.str g1]))):=jR (by simp;omega)
   have b3:bL .Add (.list (GZ++[.str g1])) (.list [.str g1])=qq (.list (GZ++[.str g1]++[.str g1])):=jR (by simp;omega)
   generalize GZ++[yAa g1]++[yAa ""]=q1 at *;generalize GZ++[yAa g1]++[yAa g1]=q3 at *;generalize GZ++[yAa g1]=q0 at *;simp only[evs,b1,b2,b3,dL,cY,dS,un,cl1,ix]
  ·have c3:decide (((q:Nat):Int)<3)=false:=dqF (by omega)
   obtain⟨zs,o,rfl⟩:=aFx L (λ e=>by rw[e] at lL;cases lL)
   have lz:zs.length<=100:=by simp at lL;omega
   obtain⟨S',g⟩:=go (.loc 1) zs o ok ho (by omega) o0 o8 (λ z m=>hL z (yBk _ m)) (hL o (xAk _ xAd)) lz (.inr ⟨1,rfl,rfl⟩)
   exact⟨S',cS (S1:=sT [qq ((zs++[o]).map yAa)] ns k7 x7) (by simp only[evs,cT,c3]) g⟩
 obtain⟨S',tl⟩:=tl;refine⟨S',?_⟩;refine cH (w:=.loc 0) (S1:=sT [] ns 0 0) rfl rfl ?_;refine cH (w:=.d (.int ((1+m0:Nat):Int))) (S1:=sT [] ns 1 x1) (by simp only[yBs,yCc];simp only[evs,dN,d1,dY,e1]) rfl ?_
 refine cH (w:=.d (.int q)) (S1:=sT [] ns 2 x2) (by simp only[yBs,yCc];generalize ((1+m0:Nat):Int)=M at *;simp only[evs,dN,d2]) rfl ?_
 refine cH (w:=.d (bX rs0 outs0)) (S1:=sT [] ns k x) (by simp only[yBs,yCc];generalize bX rs0 outs0=G at *;generalize ((1+m0:Nat):Int)=M at *;simp only[evs,dN,ln,mn,dY,em,ep]) rfl ?_
 refine cH (w:=.d (.list (((bD rs0 outs0).map aV).map yAa))) (S1:=sT [] ns k x) (by simp only[yBs,yCc];generalize bX rs0 outs0=G at *;generalize ((bD rs0 outs0).map aV).map yAa=GL at *;generalize ((1+m0:Nat):Int)=M at *;simp only[evs,dN,tx]) rfl ?_
 refine cS (S1:=sT [] ns k x) (by simp only[yBs,yCc];generalize bX rs0 outs0=G at *;generalize ((bD rs0 outs0).map aV).map yAa=GL at *;generalize ((1+m0:Nat):Int)=M at *;generalize lC rs0 outs0=TX at *;simp only[evs,dN,jF,jg,rd,ce]) ?_
 refine cH (w:=.loc 1) (S1:=sT [qq (((bD rs0 outs0).map aV).map yAa)] ns k x) ?_ rfl ?_
 ·simp only[yBs,yCc];generalize bX rs0 outs0=G at *;generalize ((bD rs0 outs0).map aV).map yAa=GL at *;generalize ((1+m0:Nat):Int)=M at *;simp only[evs,fG,xR,pX]
 exact lD p1' tl
theorem main:∀ ns:List Int,ns.length<=63->(∀ i∈ns,yAj i<=1048576)->∃ call S',(aE fns gns (oH xl) 12).1 (fns.length+5)=qq (1,call)/\call [.d (.list (ns.map yAl))] []=qq (.d (.bool true),S'):=λ ns h _ =>
 aJp (d:=11) rfl rfl (aOe 5 ns h)
theorem oks:∀ F∈fns,uE fns tbs F=true:=by decide +kernel
theorem oksX:∀ G∈gns,wX fns gns tbs xz G=true:=by decide +kernel
theorem bok:∀ F∈fns,wS F=true:=by decide +kernel
theorem aQP:∀ G∈gns,wS G.fn=true:=by decide +kernel
theorem binds:∀ F∈fns,pQ F:=λ F hF=>aDC (bok F hF)
theorem bindsX:∀ G∈gns,pQ G.fn:=λ G hG=>aDC (aQP G hG)
end K24
structure PySem.W.Fast:Prop where (tw2093780669388419135 tw6506877113047075988 tw15764520657898563683 tw16401291832695464729 tw10582925176034680658 tw8257562275869353776 tw18040623171229497346 tw17475085131758441581 tw5940232991742231427 tw10553335374837158503 tw9409633746785624466 tw6403032604633867691 tw8305061467789833365 tw13628760946331282702 tw17675025624538916331 tw224674135746809529 tw13804946069759572034 tw5262977296390567693 tw11286505710569687119 tw9345929634624909993 tw13142584438082145830 tw18116808134235786504 tw3294922402202534751 tw13720305151058560077 tw13119969181766111068 tw14840208398037760322 tw2460231523300640107 tw6431505372948316398 tw8083034738434108608 tw13545387176858920342 tw2165539835720241752 tw6279377590509871966 tw13109453522167352588 tw7444819162742982320 tw2903270462093787924 tw9178753306396167973 tw1374413309953894194 tw8982688770409075615 tw2859346266301394209 tw4303863260227453805 tw13529436796605710230 tw15860687748485214083 tw18268336280050755395 tw8623200497844798940 tw3591006049139509781 tw4934525847484294506 tw15095558842751071732 tw35533417536833378 tw2661595333967943918 tw8442721848040271247 tw9401269583965257296 tw2099269070337815445 tw5713978997028706555 tw14732749845617307792 tw9598021028389517915 tw2084289387517131967 tw1866715967810631395 tw15810570283715548671 tw667691803239565530 tw6579570477427654479 tw13036441992019631351 tw5360923275465593161 tw876384018141724043 tw3908451763618551747 tw2033107451740132694 tw8823551570469886156 tw16209982350531570502 tw3856891303357374799 tw9618241873141744192 tw15549809784784244614 tw1325238391527141897 tw10706659552469575541 tw16918997001719699343 tw2443841405993713523 tw1485424605937990985 tw14348093609762176100 tw12822940177792254292 tw6316863278069152128 tw9356159693680269072 tw5361918985147528572 tw13323884645628679311 tw9791130720425358711 tw12414049094631497995 tw12104199104227905808 tw16015880776572537604 tw7863400215554644832 tw4984954956397545934 tw2634315346830548088 tw13964753493891311635 tw5651388832386246233 tw16299337691919300034 tw1522372492521058443 tw16041500722999516331 tw10241546784826623587 tw15155526547823576160 tw17116180014799651788 tw12786716473651178370 tw11898442913744826003 tw8977448840674428131 tw1023076663746211848 tw3832452228596455976 tw1835407756954292490 tw4954538391753796904 tw16659110662571346381 tw4143776539747819810 tw495739542904737661 tw14719242003087975713 tw3031517800029344832 tw188197899096920964 tw11522158406764933084 tw6426111716031521808 tw8881218600209046236 tw4375432087523424880 tw18260073170294989073 tw8088132616524680388 tw5013349939287228789 tw18234070812017646016 tw14908612702245479508 tw11895175958091807062 tw8581648195643313489 tw1144307742275654303 tw486459346990172943 tw3902813219248424534 tw15468285861233317432 tw13510918204511136032 tw16653189691877040350 tw13523383707090804952 tw4253521020101461188 tw5002115216330805477 tw14371607901764507829 tw9170198463009378137 tw1013679516353468454 tw7013009006013247764 tw2585181027894681881 tw13668550167531795201 tw1387852282102579940 tw9030118151035054787 tw16017462160817581739 tw14257272093065970593 tw578324216137005048 tw2206216155116499479 tw12084085658696537577 tw13483059220390932863 tw8284968471235657593 tw31826629965205455 tw16598874045449129982 tw11385707712593604506 tw10851988156064710335 tw4264123608931103436 tw4955146293953174673 tw12649095110907651795 tw6869639643720720778 tw10382274512019262672 tw17854436869444701092 tw3699859154532621867 tw1060312653166211257 tw13933769517842611925 tw11495436043729468114 tw9992745834051673959 tw18324206866195306767 tw15282908428432996703 tw13045768081629306628 tw11951786505930334150 tw5908953374170352816 tw14473134034626991355 tw4157887470716155382 tw17029929098728056808 tw14856227895319467625 tw17505602924266115818 tw11518674725480599479 tw13562042526016531323 tw7355418020394908287 tw1519181962172251575 tw18432617652226211633 tw5563737443873521184 tw11272276141240291786 tw7210838716903924629 tw11862867287156421426 tw17996550302843116679 tw2895954389404948596 tw15975809495376283772 tw15488681002166163765 tw16449606129099087320 tw8521102699260469214 tw13614634919832419066 tw3803497754976425044 tw13779245554921347946 tw10954656653625829128 tw437751353502641550 tw7070722767060369186 tw17805668227442800681 tw16938401913013390869 tw4853648453132596521 tw17386376881763811104 tw5157364259867563504 tw3464145276129492735 tw9768210485636642942 tw12276018327888653364 tw10792856512108794150 tw2223071260719426667 tw8579610914174402663 tw14407878926755180651 tw9433270424084251818 tw7001179502839225436 tw9162222229565455441 tw12495935461043164123 tw3823618663991981686 tw8922058084466753579 tw8629497808279076822 tw47991962342310542 tw3356813330426727806 tw17589788204950354613 tw4327332509752315937 tw1203082974836800332 tw16460240911471779740 tw6458182867084228393 tw16145831266932944056 tw14925780072487017733 tw14811257972377278845 tw170286345789993726 tw8348313595861820079 tw4943211024579029542 tw4022683217237403432 tw9818003905903059186 tw259816163638393286 tw17251417516507580769 tw8387118329890237519 tw1692445088219310533 tw6535093382750386388 tw8305664487835766197 tw11575344272618355237 tw8810171498166871080 tw6797761078286787744 tw16031585748901482429 tw12170401235254586940 tw11756803315388537492 tw7592328738950362014 tw7741869451180395527 tw13400425909807272746 tw16699955239294932938 tw8446671394996951724 tw14867870178655841110 tw182392517649967532 tw6209258116207882187 tw16318245988942209783 tw5411280761714369933 tw7793591789482008334 tw186596289571734674 tw10257870505359438696 tw7336864202155824151 tw1183861828571088577 tw10224173889913534969 tw9072739643874796007 tw13453478190934239313 tw3043335623475506610 tw12283252054087103368 tw1450810284024944421 tw2803164631837942616 tw16082113942491516151 tw887323754129106602 tw2729351403763476249 tw1891608599030654030 tw861393198946624988 tw9546445609517097679 tw2338269554322362130 tw3863235682762586400 tw2683471146953401604 tw635727224449730698 tw13578307673954457322 tw11989142620491999625 tw7280817055797106581 tw12262966771953496262 tw4195850207274688892 tw8280555401443047878 tw239579909400012644 tw3427935271075763474 tw10763207418854288072 tw8294289066141467689 tw4958865715145527980 tw12646086546380010754 tw14205552128911134250 tw13459198909151458911 tw4379480910558777799 tw735375783762843081 tw4706980688190389142 tw5432521875687735528 tw9990474072470173163 tw17684609409435789027 tw1561862162312448765 tw15067415907154538966 tw10284487059125187130 tw3946444897413226310 tw11643747468476648085 tw18001717962770691100 tw2303563142065291385 tw17629315734375730344 tw10096447632746989269 tw9049668055905106475 tw7210024691081386901 tw50041744873618602 tw12455303257201702702 tw3201599774099157259 tw14284745794054119704 tw783556886758720864 tw12817566026731282872 tw2117547777791211856 tw18432512704405679775 tw3799510464157499815 tw4595666104058344067 tw3812335583174560897 tw6770530872847289429 tw9506275427971137128 tw14516448493104194965 tw256395954918753434 tw10808810621765715337 tw8765651186800075407 tw12736134537943069140 tw7141510796893238707 tw18134172005773791945 tw4768656337890677740 tw5574216018044951729 tw14530153136553128436 tw2856765761847227081 tw11580422817878887506 tw1122806515238125089 tw18249807375352008911 tw4193943938077022576 tw9399378322444370264 tw2140397091798586948 tw5597413131395107041 tw2608430519083162133 tw9243018393382974551 tw5443503390741702634 tw17153437504605111882 tw6725253825361156730 tw7599378887299633200 tw9487967860902704159 tw868543440754022381 tw17634165979727896713 tw6633092930463319973 tw15113422493375533335 tw17058100999197372448 tw15573548242989618345 tw5345373344401003713 tw2417562836616709112 tw15608931168202352622 tw5720948155717931707 tw10686168396730134544 tw4864877830077971988 tw15025355630089548874 tw11196001779913382140 tw12566137409399589294 tw3155175036164630167 tw5727254725152185837 tw13952734996287699136 tw1389955758746133755 tw18420090969067759785 tw6231097789067631448:True)
set_option maxRecDepth 100000 in
set_option maxHeartbeats 0 in
theorem PySem.Challenge.cw_fewbits_k24_lines_refused_holds : PySem.Challenge.rw_fewbits_k24_lines_refused.Holds := by
 w_on;o_law;k_head;(case hw=>w_witness2)
 k_fill
 refine EV.law_ofX (l:=PySem.Challenge.rw_fewbits_k24_lines_refused) K24.fns K24.gns K24.tbs K24.xz K24.xl 5 12 _ "_law_script" rfl rfl ⟨rfl,by decide,by decide⟩ (λ w h Y=>PySem.W.kIn_of Y) K24.oks K24.oksX K24.binds K24.bindsX rfl rfl rfl ?top ?topX ?tbl ?cnl ?stl ?tbn ?rit ?rik ?ent ?rct ?xot ?xbt K24.main
 case top =>
  intro w h KX F hF;simp only[K24.fns,yBc,yAv,or_false] at hF;rcases hF with rfl | rfl | rfl | rfl | rfl | rfl | rfl | rfl | rfl | rfl | rfl | rfl | rfl | rfl | rfl | rfl | rfl | rfl | rfl | rfl | rfl | rfl | rfl | rfl | rfl | rfl | rfl | rfl | rfl | rfl
  all_goals
   refine' EV.top_mk ?a1 ?l1 ?c1 ?k1
   (case a1=>k_is)
   (case l1=>k_is)
   (case c1=>k_is)
   (case k1=>k_is)
 case topX =>
  intro w h KX F hF;simp only[K24.gns,yBc,yAv,or_false] at hF;rcases hF with rfl | rfl | rfl | rfl | rfl | rfl
  all_goals
   refine' EV.topX_mk ?a1 ?l1 ?c1 ?k1
   (case a1=>k_is)
   (case l1=>k_is)
   (case c1=>k_is)
   (case k1=>k_is)
 case rit =>
  intro w h KX c hc;simp only[K24.xz,yBc,yAv,or_false] at hc;rcases hc with rfl | rfl | rfl | rfl | rfl
  all_goals
   refine' EV.ri_mk ?a1 ?a3 ?a2 ?a4 ?a5 ?a6 ?a7 ?a8 ?a9 ?b1
   (case a1=>k_is)
   (case a3=>k_is)
   (case a2=>kernel_rfl)
   (case a4=>k_is)
   (case a5=>k_is)
   (case a6=>k_is)
   (case a7=>k_is)
   (case a8=>k_is)
   (case a9=>k_is)
   (case b1=>k_is)
 case rik=>decide +kernel
 case ent =>
  intro w h KX e he;simp only[K24.xl,yBc,yAv,or_false] at he;rcases he with rfl | rfl | rfl | rfl | rfl | rfl | rfl | rfl | rfl | rfl | rfl | rfl | rfl | rfl | rfl | rfl | rfl | rfl | rfl | rfl | rfl | rfl | rfl | rfl | rfl | rfl | rfl | rfl | rfl | rfl | rfl | rfl | rfl | rfl | rfl | rfl | rfl | rfl | rfl | rfl
  all_goals first
   | (refine' EV.ent_own ?a1 ?a2 ?a3 ?a4 ?a5 ?a6 ?a7 ?a8 ?a9 ?a0 ?b1 ?b2 ?b3
      (case a1=>k_is)
      (case a0=>k_is)
      (case a2=>k_is)
      (case a3=>k_is)
      (case a4=>k_is)
      (case a5=>k_is)
      (case a6=>k_is)
      (case a7=>k_is)
      (case a8=>k_is)
      (case a9=>k_is)
      (case b1=>k_is)
      (case b2=>kts_exm)
      (case b3=>kit_is))
   | (refine' EV.ent_blt ?a1 ?a2 ?a3 ?a4 ?a5 ?a6 ?a7 ?a8 ?a9 ?a0 ?b1 (PyProof.Rows.Boot.«ValueError») (by decide) ?b3
      (case a1=>k_is)
      (case a0=>k_is)
      (case a2=>k_is)
      (case a3=>k_is)
      (case a4=>k_is)
      (case a5=>k_is)
      (case a6=>k_is)
      (case a7=>k_is)
      (case a8=>k_is)
      (case a9=>k_is)
      (case b1=>k_is)
      (case b3=>kit_is))
 case rct =>
  intro w h KX c hc;cases hc
 case xot =>
  intro w h KX c hc;simp only[K24.xz,yBc,yAv,or_false] at hc;rcases hc with rfl | rfl | rfl | rfl | rfl | rfl | rfl
  all_goals
   refine' EV.xo_mk ?a1
   (case a1=>k_is)
 case xbt =>
  intro w h KX c hc;simp only[K24.xz,yBc,yAv,or_false] at hc;rcases hc with rfl
  all_goals
   refine' EV.xb_mk ?a1 (PyProof.Rows.Boot.«ValueError») (by decide)
   (case a1=>k_is)
 case tbl =>
  intro w h KX t ht;simp only[K24.tbs,yBc,yAv,or_false] at ht;rcases ht with rfl
  all_goals
   refine' EV.tab_mk ?a1 ?l1 ?c1 ?s1
   (case a1=>k_is)
   (case l1=>k_is)
   (case c1=>(repeat' (first | exact True.intro | apply And.intro))<;>first | rfl | exact⟨_,rfl⟩)
   (case s1=>decide)
 case cnl =>
  intro w h KX t ht;simp only[K24.tbs,yBc,yAv,or_false] at ht;rcases ht with rfl | rfl | rfl
  all_goals
   refine' EV.con_mk ?a1 ?l1 ?z1 ?c1
   (case a1=>k_is)
   (case l1=>k_is)
   (case z1=>decide)
   (case c1=>(repeat' (first | exact True.intro | apply And.intro))<;>first | rfl | exact⟨_,rfl⟩)
 case stl =>
  intro w h KX t ht;simp only[K24.tbs,yBc,yAv,or_false] at ht;rcases ht with rfl
  all_goals
   refine' EV.st_mk ?a1
   (case a1=>k_is)
 case tbn =>
  intro w h KX x hx;simp only[EV.bltNames,yBc,yAv,or_false] at hx;rcases hx with rfl | rfl | rfl | rfl | rfl | rfl | rfl | rfl | rfl | rfl | rfl | rfl | rfl | rfl | rfl | rfl | rfl | rfl
  all_goals k_is
