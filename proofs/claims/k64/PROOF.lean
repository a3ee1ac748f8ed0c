import PyProof.Rows.All
import Wide.All
import OpenK.AllK
import Wide.FinOn
import Lean
import PyProof.EqAt
import PyProof.EqKinds
import PyProof.TupleCall
import PyProof.ListMulRoad
import PyProof.FactsAll.tuple
import PyProof.MaxThree
import PyProof.SeqI3
import PyProof.Draws
import PyProof.NeKinds
import PyProof.Rows.SortShell
import PyProof.ListRange
import PyProof.DictTable
import PyProof.Rows.Range3
import PyProof.ZipIter
import PyProof.FactsAll.range_2
import PyProof.Rows.SeqMore2
import PyProof.StrWalks
import PyProof.EnumMake
import PyProof.Rows.StrJoin2
import PyProof.Rows.StrNews
import PyProof.CallStr
import PyProof.DictRoads
import KE.KIntText
import PyProof.ToksMono
import PyProof.StrBlockG
import PyProof.StrBlock2
import PyProof.MeetsStr3
import PySem.Challenge.RW_fewbits_k64_whole_traded_tells_the_same
set_option compiler.extract_closed false
set_option genInjectivity false
set_option genSizeOf false
open Lean renaming mkAtom->mqA,Syntax->mq,mkNode->mqM
open Lean.Macro renaming throwUnsupported->mqF
private def mqO(l:List mq:=[]):mq:=Lean.mkNullNode l.toArray
private def mqJ(c:String)(l:List mq):mq:=Lean.mkNullNode (Lean.mkSepArray l.toArray (mqA c))
private def mqN(k:String)(l:List mq):mq:=mqM ("Lean.Parser."++k).toName l.toArray
private def mqI(f:String):mq:=Lean.mkIdent f.toName
private def mqE(f:mq)(l:List mq):=mqN "Term.app" [f,mqO l]
private def mqT(f:String):=mqE (mqI f)
private def mqD(f:String):=mqE (mqN "Term.dotIdent" [mqA ".",mqI f])
private def mqC:=mqN "Tactic.optConfig" [mqO]
private def mqV(n:String)(l:=[mqC]):=mqN ("Tactic."++n) (mqA n::l)
private def mqQ(t:List mq):=mqN "Tactic.tacticSeq" [mqN "Tactic.tacticSeq1Indented" [mqJ ";" t]]
private def mqB(t:mq):=mqN "Term.byTactic" [mqA "by",mqQ [t]]
private def mqG(p:List mq)(e:mq):=mqV "obtain" [mqO [mqN "Tactic.rcasesPatMed" [mqO p]],mqO,mqO [mqA ":=",mqO [e]]]
private def mqP:Nat->mq->mq
 |0,s=>s
 |n+1,s=>if s.isIdent then mqN "Tactic.rcasesPat.one" [s] else if s.getNumArgs<2 then mqN "Tactic.rcasesPat.ignore" [s[0]] else mqN "Tactic.rcasesPat.tuple" [mqA "⟨",mqJ "," ((if s[0].getNumArgs>0 then s[1][0]::s[1][2].getSepArgs.toList else s[1].getSepArgs.toList).map λ x=>mqN "Tactic.rcasesPatLo" [mqN "Tactic.rcasesPatMed" [mqO [mqP n x]],mqO]),mqA "⟩"]
local macro_rules(kind:=coeNotation)|s=>return mqT "List.length" [s[1]]
local macro_rules(kind:=Lean.Parser.Term.paren)|s=>if s[1].getKind==`Lean.Parser.Term.cdot then return mqB (mqV "decide") else if s[1][1].getKind==`Lean.Parser.Term.hole then return mqB (mqV "omega") else mqF
local macro_rules(kind:=Lean.Parser.Term.typeAscription)|s=>if s[3].getNumArgs=0 then return mqB (mqV "simpa" [mqO,mqO,mqN "Tactic.simpaArgsRest" [mqC,mqO,mqO,mqO,mqO [mqA "using",s[1]]]]) else mqF
local macro_rules(kind:=«term__[_]_!»)|s=>return mqT "Nat.testBit" [s[0],s[3]]
local macro_rules(kind:=Lean.Parser.Tactic.tacticLet__)|s=>return mqG [mqP 9 s[2][0][0]] s[2][0][4]
local macro_rules(kind:=Lean.Parser.Command.declaration)|s=>if s[1].getKind==`Lean.Parser.Command.definition&&s[0].getArgs.all (·.getNumArgs==0) then return s.setArg 0 (s[0].setArg 4 (mqO [mqN "Command.noncomputable" [mqA "noncomputable"]])) else mqF
open List renaming getElem?_eq_getElem->yAa,length_map->yAb,getElem?_map->yAc,take_length->yAe,getElem?_append_right->yAf,replicate->yAg,size_toArray->yAi,map_cons->yAt,map_append->yAw,replicate_succ->yAy,foldl_cons->yAz,getElem?_set_ne->yBa,getElem?_set_self->yBb,getElem?_cons_zero->yBc,range->yBd,length_set->yBe,length_cons->yBg,map_map->yBh,length_take->yBk,getElem?_eq_none->yBn,foldl_nil->yBo,append_assoc->yBq,getElem?_cons_succ->yBr,getD_cons_zero->yBs,map_congr_left->yBx,getD_cons_succ->yBy,filter_cons->yCb,take_of_length_le->yCf,lookup_cons->yCh,range'->yCt,drop_eq_getElem_cons->yCu,length_replicate->yCw,getElem?_take_of_lt->yDa,set_cons_zero->yDc,flatten_cons->yDi,filterMap_cons->yDj,nil_append->yDp,set_cons_succ->yDu,getElem?_of_mem->yDy,append_nil->yDz,length_nil->yEb,getElem?_replicate->yEj,mem_cons->yEl,not_mem_nil->yEo,mem_singleton->yEr,take->yEt,drop_zero->yFd,getElem?_zip_eq_some->yFf,drop_length->yFg,cons_append->yFi,set_eq_of_length_le->yFq,map_replicate->yFt,filter_append->yFv,take_succ_eq_append_getElem->yFw,all_cons->yGg,getElem_of_mem->yGk,replicate_zero->yGl,map_nil->yGs,getElem?_drop->yHb,take_left->yHf,nodup_append->yHh,getD->yHi,mem_range'_1->yHj,length_range->yHl,length->yHn,getElem_inj->yHq,length_drop->yHr,getElem_mem->yHu,set_set->yHz
open Nat renaming le_refl->yAd,testBit_and->yAh,testBit_xor->yAl,pow_le_pow_right->yAo,zero_testBit->yAq,testBit_mod_two_pow->yAr,mod_two_eq_zero_or_one->yAs,sub_self->yBf,and_two_pow_sub_one_eq_mod->yBj,or_lt_two_pow->yBl,min_le_right->yCa,mod_eq_of_lt->yCc,xor_lt_two_pow->yCe,lt_irrefl->yCg,testBit_two_pow->yCj,pow_zero->yCk,not_lt_zero->yCl,div_add_mod->yCm,pow_lt_pow_right->yCo,lt_pow_two_of_testBit->yCv,min_le_left->yCy,and_le_left->yCz,testBit_succ->yDd,testBit_div_two_pow->yDf,add_comm->yDh,min_eq_left->yDn,le_max_left->yDq,min_eq_right->yDr,testBit_zero->yDs,zero_le->yDw,toNat_testBit->yEc,le_of_lt->yEd,sub_le_sub_left->yEm,le_add_right->yEp,pow_succ->yEv,div_lt_iff_lt_mul->yEw,sub_le->yFa,lt_succ_self->yFh,and_le_right->yFj,pow_add->yFl,mul_comm->yFo,zero_add->yFp,testBit_two_pow_mul->yFu,div_one->yFz,le_of_succ_le->yGa,ne_of_gt->yGd,le_of_not_lt->yGf,reduceAdd->yGh,add_le_add_left->yGj,lt_or_ge->yGt,sub_zero->yGu,le_total->yGv,add_sub_cancel->yGw,xor_zero->yGz,add_zero->yHa,mul_one->yHp,reduceLeDiff->yHt,le_of_eq->yHw,lt_trans->yHy
open Int renaming toNat_natCast->yAu,natCast_mul->yBz,mul_assoc->yEn,natCast_emod->yFk,mul_le_mul_of_nonneg_right->yGe,mul_add->yGm,natCast_nonneg->yGr,emod_lt_of_pos->yGx,mul_comm->yGy,le_trans->yHx
open Bool renaming true_and->yAk,and_eq_true->yAp,false_and->yAv,false_eq_true->yAx,eq_false_or_eq_true->yBi,false_ne_true->yBm,and_false->yBp,or_eq_true->yBw,and_true->yCi,eq_iff_iff->yEa,or_true->yEg,or_false->yEk,not_true->yEz,not_false->yHe
open Option renaming bind_some->yCp,bind->yDk,getD_none->yHs
open PySem.Builtin.Range renaming rangeSize->yEi,small->yIb
open PySem.Builtin.SmallTypes renaming nextOf->yBu,ownedTupleIsFree->yDm,ownedTupleHandOut->yFe,iterAll->yGq
open PySem.Builtin.Int renaming intBits->yAm
open PyProof.Rows renaming callWith_type1->yBv,slot_tuple_getitem->yCr
open PySem.Heap renaming get?_update_other->yCq,get?_update_self->yCx,SameBut->yEe
open PySem.PyData renaming tuple->yAj,int->yAn,eqv->yCd,depthAll->yCn,canLayAll0->yCs,bool->yDl,list->yEx,depth->yEy,eqvAll->yFb,str->yIa
open PySem.W renaming keepIn->yDg,fnOf->yDt,nsIn->yEf,kia_one->yEu,findIn->yGb,codeIn->yGc,methodObj->yHg,mg_of->yHo
open PySem.F renaming plain_extend_loop->yDx,slot_int_rmul->yEs,args_tuple_add_2->yFm,args_tuple_mul_2->yFn,entry_tuple_add->yFr,entry_tuple_mul->yFs,slot_tuple_add->yFx,slot_tuple_mul->yFy,slot_int_bit_length->yGi,entry_extend_loop->yHd
open PySem.Builtin renaming bitNot->yBt,divisionGoesByPylong->yDe,bitAnd->yEq,bitXor->yHc,bitOr->yHm
open PySem.Builtin.Slice renaming slicePlaces->yDv,sliceAdjust->yFc,sliceApplied->yGn
open PySem.Builtin.Tuple renaming tupleExact->yDb,tupleItemsOf->yGo,tupleTooMany->yGp
open PySem.Builtin.List renaming listExtendWith->yDo,listSameRef->yHk,listItems->yHv
open Array renaming length_toList->yEh
open PySem renaming Value->qx,Shared->qj,Addr->qv,Expr->qw,sizeLine->qy,wpAny->qk,starEach->qu,sizeLine_eq->qo,Program->zq,World->zx,Around->zj,Scope->zv,binaryOp->zw,wpAny_holding->zy,assignEach->zk,wpAny_field->zu,wpAny_newObj_type->zo,mainGlobals->xq,bootBuiltins->xz,Stmt->xj,compareOp->xw,wpAny_Call_Name_kw->xy,foldedSetIterable->xk,wpAny_truthy_bool->xu,wpAny_pyIter_list->jq,wpAny_setField_rec->jz,behindInMarks->jx,Operator->jj,NameKind->jv,wpAny_seqItems->jw,wpAny_call_entry->jy,CmpOp->jk,FuncData->ju,wpAny_passesOwn->jo,wpAny_updateSeq->vq,sliceBounds->vz,codeAny->vx,wpAny_pyNext_list_item->vj,wpAny_pyNext_list_end->vv,call_meets->vw,letOwnedTupleGo->vy,shortFactorBits->vo,UnaryOp->wz,typeIs_int->wj,wpAny_rule->ww,wpAny_binaryOp_repeat_ref->wu,swappedStores->yq,wpAny_standAt->yz,wpAny_pyIter_zip->yx,rawInt->yj,pyNext->yv,wpAny_pyIter_rangeiter->yw,wpAny_specialOf->yy,IsRangeIter->yk
open Option renaming some->qq,none->qz
abbrev wB:=@PySem.wpAny_bind
abbrev wP:=@PySem.wpAny_pure
abbrev hpS:=@PySem.Heap.get?_push_of_some
def gIm {α:Type _}{l:List α}{i:Nat}{a:α}:l[i]?=qq a->∃ h,l[i]=a:=List.getElem?_eq_some_iff.mp
abbrev dqF:=@decide_eq_false
abbrev dqT:=@decide_eq_true
abbrev oqT:=@of_decide_eq_true
abbrev FrG:=PySem.W.Frag
abbrev xAa:=@PySem.Heap.lt_size
abbrev xAb:=@Nat.lt_of_lt_of_le
abbrev xAc:=@List.mem_cons_self
abbrev xAd:=@PySem.Heap.get?_push_size
abbrev xAe:=@Nat.two_pow_pos
abbrev xAf:=@List.mem_cons_of_mem
abbrev xAg:=@List.getD_eq_getElem?_getD
abbrev xAh:=@Nat.le_trans
abbrev xAi:=@Nat.lt_of_le_of_lt
abbrev xAj:=@Nat.ne_of_lt
abbrev xAk:=@List.mem_of_getElem?
abbrev xAl:=@Nat.eq_of_testBit_eq
abbrev xAm:=@List.getElem?_append_left
abbrev xAn:=@List.length_append
abbrev xAo:=@Nat.testBit_or
abbrev xAp:=@List.mem_append_right
local macro_rules(kind:=Lean.Parser.Tactic.omega)|_s=>return mqV "lia"
set_option Elab.async false
set_option linter.all false
set_option maxRecDepth 100000
namespace L2
open PySem PySem.Spec PyProof.Rows
abbrev fX:=Sum Int Str
def rO:fX->qx->Bool
 |.inl k,v=>Value.isInt k v|.inr x,v=>Value.isStrOf x v
def aZC(w:zx):fX->Int
 |.inl k=>hashInt k|.inr x=>hashStr w x
def nA:∀ {k:fX}{v:qx},rO k v=true->(∃ i t,k=Sum.inl i/\v=Value.int i t)\/(∃ x t,k=Sum.inr x/\v=Value.str x t)
 |.inl i,v,h=>by
   let(t,e):=Value.isInt_shape (k:=i) (v:=v) h;exact .inl ⟨i,t,rfl,e⟩
 |.inr x,v,h=>by
   let(t,e):=Value.isStrOf_shape (x:=x) (v:=v) h;exact .inr ⟨x,t,rfl,e⟩
def aGR(x:Str)(t:Tok):rO (.inr x) (.str x t)=true:=by simp[rO,Value.isStrOf]
def aUW(a b:Int):decide ((Sum.inl a:fX)=Sum.inl b)=(a==b):=by
 by_cases e:a=b
 ·subst e;simp
 ·have h:¬ (Sum.inl a:fX)=Sum.inl b:=λ q=>e (Sum.inl.inj q)
  rw[dqF h];exact(beq_eq_false_iff_ne.mpr e).symm
def aTl(a b:Str):decide ((Sum.inr a:fX)=Sum.inr b)=decide (a=b):=by
 by_cases e:a=b
 ·subst e;simp
 ·have h:¬ (Sum.inr a:fX)=Sum.inr b:=λ q=>e (Sum.inr.inj q)
  rw[dqF h,dqF e]
def aVI(a:Int)(b:Str):decide ((Sum.inl a:fX)=Sum.inr b)=false:=dqF (λ q=>nomatch q)
def aTe(a:Str)(b:Int):decide ((Sum.inr a:fX)=Sum.inl b)=false:=dqF (λ q=>nomatch q)
def oW(prog:zq)(w:zx):PySem.KeyKind prog w fX where
 is:=rO
 hash:=aZC w
 inj:=λ v a b ha hb=>by
  rcases nA ha with ⟨i,t,rfl,rfl⟩|⟨x,t,rfl,rfl⟩
  ·rcases nA hb with ⟨j,u,rfl,e⟩|⟨y,u,rfl,e⟩
   ·injection e with e1 _;rw[e1]
   ·exact nomatch e
  ·rcases nA hb with ⟨j,u,rfl,e⟩|⟨y,u,rfl,e⟩
   ·exact nomatch e
   ·injection e with e1 _;rw[e1]
 byValue:=λ k v h=>by
  rcases nA h with ⟨i,t,rfl,rfl⟩|⟨x,t,rfl,rfl⟩<;>rfl
 pyHash:=λ hv h=>by
  rcases nA hv with ⟨i,t,rfl,rfl⟩|⟨x,t,rfl,rfl⟩
  ·exact wpAny_pyHash_int h
  ·exact wpAny_pyHash_str h
 eqBool:=λ hu hv h=>by
  rcases nA hu with ⟨i,t,rfl,rfl⟩|⟨x,t,rfl,rfl⟩
  ·rcases nA hv with ⟨j,u,rfl,rfl⟩|⟨y,u,rfl,rfl⟩
   ·rw[aUW] at h;exact wpAny_eqBool_int h
   ·rw[aVI] at h;exact SeqAt.EqAt.int_str i t y u _ _ _ _ h
  ·rcases nA hv with ⟨j,u,rfl,rfl⟩|⟨y,u,rfl,rfl⟩
   ·rw[aTe] at h;exact SeqAt.EqAt.str_int x t j u _ _ _ _ h
   ·rw[aTl] at h;exact wpAny_eqBool_str h
 «strs»:=λ k x t v h=>by
  rcases nA h with ⟨i,u,rfl,e⟩|⟨y,u,rfl,e⟩
  ·exact nomatch e
  ·injection e with e1 _
   subst e1;cases v<;>rfl
end L2
namespace L2
open PySem PySem.Spec PyProof.Rows
inductive V where
 |non|bl (b:Bool)|int (i:Int)|str (x:Str)|byt (b:Array UInt8)|flt (b:UInt64)|ref (a:qv)|ty (n:String)
 deriving DecidableEq
def bM:V->qx->Prop
 |.non,u=>u=Value.none|.bl b,u=>u=Value.bool b|.int i,u=>∃ t,u=Value.int i t|.str x,u=>∃ t,u=Value.str x t|.byt b,u=>∃ t,u=Value.bytes b t|.flt b,u=>∃ t,u=Value.float b t|.ref a,u=>u=Value.ref a|.ty n,u=>u=Value.type n
noncomputable abbrev bG:List V->List qx->Prop:=Paired bM
def bG.length{xs:List V}(r:bG xs us):↑xs=↑us:=Paired.length r
def bG.get:∀ {xs:List V}{us:List qx}{i:Nat}{x:V},bG xs us->xs[i]?=qq x->∃ u,us[i]?=qq u/\bM x u
 |_,_,_,_,.nil,e=>by simp at e|_,_,0,_,.cons r _,e=>by simp at e;subst e;exact⟨_,rfl,r⟩
 |_,_,i+1,x,.cons _ t,e=>by
   let(u,h1,h2):=bG.get (i:=i) (x:=x) t (e:);exact⟨u,by simpa using h1,h2⟩
def bG.set(r:bM x u):∀ {xs:List V}{us:List qx} (i:Nat),bG xs us->bG (xs.set i x) (us.set i u)
 |_,_,_,.nil=>.nil|_,_,0,.cons _ t=>.cons r t|_,_,i+1,.cons q t=>.cons q (bG.set r i t)
def bG.append:∀ {xs ys:List V}{us ws:List qx},bG xs us->bG ys ws->bG (xs++ys) (us++ws)
 |_,_,_,_,.nil,s=>s|_,_,_,_,.cons r t,s=>.cons r (bG.append t s)
def bG.take:∀ {xs:List V}{us:List qx} (n:Nat),bG xs us->bG (xs.take n) (us.take n)
 |_,_,0,_=>.nil|_,_,_+1,.nil=>.nil|_,_,n+1,.cons r t=>.cons r (bG.take n t)
def bG.drop:∀ {xs:List V}{us:List qx} (n:Nat),bG xs us->bG (xs.drop n) (us.drop n)
 |_,_,0,r=>r|_,_,_+1,.nil=>.nil|_,_,n+1,.cons _ t=>bG.drop n t
def aMd:Option V->Option qx->Prop
 |some v,qq u=>bM v u|none,qz=>True|_,_=>False
def KV{κ:Type}:List (κ×V)->List (κ×qx)->Prop:=Paired λ(p:κ×V) (q:κ×qx)=>p.1=q.1/\bM p.2 q.2
def kV:fX->V
 |.inl i=>.int i|.inr x=>.str x
inductive HO where
 |lst (xs:List V)
 |tup (xs:List V)
 |dK (bL:List (fX×V))|dT (bL:List (List fX×V))
 |set (S:Int->Bool) (n:Nat)
 |ins (C dx:qv) (fs:List (Str×V))
 |own (x:qv)
 |xd (fs:List (Str×V))
 |met (f x:qv)
 |rng (lo hi:Int)
 |frz (o:Obj) (u:HO)
 |tbl (ps:Array qx)
 |ext (φ:Heap->Prop)
abbrev Hp:=qv->Option HO
def bQ(H:Hp)(a:qv)(o:HO):Hp:=λ b=>if b=a then qq o else H b
def eH:bQ H a o a=qq o:=by unfold bQ;rw[if_pos rfl]
def bT(h:b≠a):bQ H a o b=H b:=by unfold bQ;rw[if_neg h]
def eN{H:Hp}{a b:qv}{o:HO}(h:H a=qq o)(h':H b=qz):a≠b:=by intro e;subst e;rw[h] at h';cases h'
section
variable (P:zq)(w:zx)
def iW(H:Hp)(h:Heap)(a:qv):HO->Prop
 |.lst xs=>↑xs<=qy/\∃ (aH:List qx) (n:Nat),bG xs aH/\h.get? a=qq {cls:=.type "list",data:=.seq aH.toArray n }|.tup xs=>↑xs<=qy/\∃ aH:List qx,bG xs aH/\IsTup h a aH.toArray|.dK bL=>bL.length<=qy/\(a==sysModules)=false/\∃ vs,KV bL vs/\h.DictOf (oW P w) a vs
 |.dT bL=>bL.length<=qy/\(a==sysModules)=false/\∃ xs:List (List fX×qv×qx),
    Paired (λ(p:List fX×V) (q:List fX×qv×qx)=>p.1=q.1/\H q.2.1=qq (.tup (p.1.map kV))/\bM p.2 q.2.2) bL xs /\
    ∃ o es ep,h.get? a=qq o/\o.ExactDict/\o.data=.dict es ep/\es.toList=xs.map (entryOfKey (tupleKind (oW P w)))/\(xs.map (·.1)).Nodup
 |.set S n=>h.SetOf (intKind P w) a S n
 |.ins C dx fs=>H dx=qq (.own a)/\↑fs<=1000/\dx≠a/\h.get? a=qq (PySem.W.instObj C dx) /\
    ∃ mA,h.Ns1 dx mA/\(∀ f,aMd (fs.lookup f) (mA f))/\PySem.Within mA (fs.map (·.1))
 |.own _=>∃ o,h.get? a=qq o|.xd fs=>∃ mA,h.Ns1 a mA/\∀ f,aMd (fs.lookup f) (mA f)|.rng lo hi=>∃ t u v,h.get? a=qq {cls:=.type "range",data:=.fields #[.int lo t,.int hi u,.int 1 v] }|.frz o u=>h.get? a=qq o/\iW H h a u|.tbl ps=>h.get? a=qq {cls:=.none,data:=.fields ps }|.met f x=>h.get? a=qq (yHg (.ref f) (.ref x))|.ext φ=>φ h/\(∃ o,h.get? a=qq o)/\∀ h1 h2:Heap,φ h1->(∀ o,h1.get? a=qq o->h2.get? a=qq o)->φ h2
def dZ(H:Hp)(h:Heap):Prop:=∀ a o,H a=qq o->iW P w H h a o
end
def iW.lt(x:iW P w H h a o):a<h.objs.size:=by
 cases o with
 |lst xs=>let(_,_,_,_,e):=x;exact xAa e
 |tup xs=>let(_,_,_,p):=x;exact p.lt
 |dK bL=>let(_,_,_,_,o,_,_,e,_):=x;exact xAa e
 |dT bL=>let(_,_,_,_,o,_,_,e,_):=x;exact xAa e
 |set S n=>let(o,_,_,_,e,_):=x;exact xAa e
 |ins C dx fs=>let(_,_,_,e,_):=x;exact xAa e
 |own y=>let(_,e):=x;exact xAa e
 |xd fs=>let(_,(_,_,_,e,_),_):=x;exact xAa e
 |rng lo hi=>let(_,_,_,e):=x;exact xAa e
 |frz ob u=>let(e,_):=x;exact xAa e
 |tbl ps=>exact xAa (show h.get? a=qq _ from x)
 |met f y=>exact xAa (show h.get? a=qq _ from x)
 |ext φ=>let(_,(_,e),_):=x;exact xAa e
def Paired.mapP{α β:Type}{F G:α->β->Prop}:∀ {l₁:List α}{l₂:List β},Paired F l₁ l₂->(∀ a b,F a b->G a b)->Paired G l₁ l₂
 |_,_,.nil,_=>.nil|_,_,.cons r t,f=>.cons (f _ _ r) (Paired.mapP t f)
def iW.stay{h':Heap}(x:iW P w H h a o)(k:∀ b u,(b=a\/H b=qq (.own a))->h.get? b=qq u->h'.get? b=qq u)(ho:∀ b,H b=qq (.own a)->H' b=qq (.own a))(ht:∀ b xs,H b=qq (.tup xs)->H' b=qq (.tup xs)):iW P w H' h' a o:=by
 induction o with
 |lst xs=>let(z,aH,n,r,e):=x;exact⟨z,aH,n,r,k _ _ (.inl rfl) e⟩
 |tup xs=>let(z,aH,r,ob,e,c):=x;exact⟨z,aH,r,ob,k _ _ (.inl rfl) e,c⟩
 |dK bL=>let(z,y,vs,r,ob,es,ep,e,c):=x;exact⟨z,y,vs,r,ob,es,ep,k _ _ (.inl rfl) e,c⟩
 |dT bL=>
   let(z,y,xs,r,ob,es,ep,e,c):=x;exact⟨z,y,xs,Paired.mapP r λ p q z=>⟨z.1,ht _ _ z.2.1,z.2.2⟩,ob,es,ep,k _ _ (.inl rfl) e,c⟩
 |set S n=>let(ob,es,ep,t,e,c):=x;exact⟨ob,es,ep,t,k _ _ (.inl rfl) e,c⟩
 |ins C dx fs=>
   let(d,z,ne,e,mA,(od,es,ep,e2,c),r):=x;exact⟨ho _ d,z,ne,k _ _ (.inl rfl) e,mA,⟨od,es,ep,k _ _ (.inr d) e2,c⟩,r⟩
 |own y=>let(ob,e):=x;exact⟨ob,k _ _ (.inl rfl) e⟩
 |xd fs=>let(mA,(od,es,ep,e,c),r):=x;exact⟨mA,⟨od,es,ep,k _ _ (.inl rfl) e,c⟩,r⟩
 |rng lo hi=>let(t,u,v,e):=x;exact⟨t,u,v,k _ _ (.inl rfl) e⟩
 |frz ob u ih=>let(e,q):=x;exact⟨k _ _ (.inl rfl) e,ih q⟩
 |tbl ps=>
   have e:h.get? a=qq {cls:=.none,data:=.fields ps }:=x;show h'.get? a=qq {cls:=.none,data:=.fields ps };exact k a _ (.inl rfl) e
 |met f y=>
   have e:h.get? a=qq (yHg (.ref f) (.ref y)):=x;show h'.get? a=qq (yHg (.ref f) (.ref y));exact k a _ (.inl rfl) e
 |ext φ=>let(p,(o,e),st):=x;exact⟨st _ _ p λ o q=>k _ _ (.inl rfl) q,⟨o,k _ _ (.inl rfl) e⟩,st⟩
def dZ.lt(x:dZ P w H h)(e:H a=qq o):a<h.objs.size:=(x a o e).lt
def dZ.fresh(x:dZ P w H h)(e:h.objs.size<=a):H a=qz:=by
 cases q:H a with
 |none=>rfl|some u=>exact absurd (xAb (x.lt q) e) (yCg _)
def dZ.kept{h':Heap}(x:dZ P w H h)(k:∀ b u,h.get? b=qq u->h'.get? b=qq u):dZ P w H h':=λ a o e=>
 (x a o e).stay (λ b u _ q=>k b u q) (λ _ q=>q) λ _ _ q=>q
def dZ.laid{h':Heap}(x:dZ P w H h)(k:∀ b u,h.get? b=qq u->h'.get? b=qq u)(hp:h.objs.size<=a)(new:iW P w (bQ H a o) h' a o):dZ P w (bQ H a o) h':=λ b u e=>by
 have hn:=x.fresh hp;by_cases hb:b=a
 ·subst hb;rw[eH] at e;cases e;exact new
 ·rw[bT hb] at e;exact(x b u e).stay (λ c v _ q=>k c v q) (λ c q=>by rw[bT (eN q hn)];exact q) λ c xs q=>by rw[bT (eN q hn)];exact q
def Rd(H:Hp)(a:qv)(u:HO):Prop:=H a=qq u\/∃ o,H a=qq (.frz o u)
def Rd.ok(r:Rd H a u)(x:dZ P w H h):iW P w H h a u:=by
 rcases r with r|⟨o,r⟩
 ·exact x a u r
 ·let(_,q):=x a _ r;exact q
def Mut:Option HO->Prop
 |some (.lst _)=>True|some (.dK _)=>True|some (.dT _)=>True|some (.set _ _)=>True|some (.ins _ _ _)=>True|some (.ext _)=>True|_=>False
def dZ.write{h':Heap}(ok:dZ P w H h)(mu:Mut (H x))(he:e=x\/H e=qq (.own x))(k:∀ b u,b≠e->h.get? b=qq u->h'.get? b=qq u)(heo:∃ u,h'.get? e=qq u)(new:iW P w (bQ H x o') h' x o'):dZ P w (bQ H x o') h':=λ b u q=>by
 have nown:∀ c y,H c=qq (.own y)->c≠x:=λ c y r z=>by subst z;rw[r] at mu;exact mu
 have ntup:∀ c xs,H c=qq (.tup xs)->c≠x:=λ c xs r z=>by subst z;rw[r] at mu;exact mu
 by_cases hb:b=x
 ·subst hb;rw[eH] at q;cases q;exact new
 ·rw[bT hb] at q;by_cases hbe:b=e
  ·have q':H b=qq (.own x):=by
    rcases he with z|z
    ·exact absurd (hbe.trans z) hb
    ·rw[hbe];exact z
   rw[q] at q';cases q';let(v,hv):=heo;exact⟨v,by rw[hbe];exact hv⟩
  ·refine(ok b u q).stay (λ c v hc r=>k c v ?_ r) (λ c r=>by rw[bT (nown c b r)];exact r) λ c xs r=>by rw[bT (ntup c xs r)];exact r
   rcases hc with rfl|hc
   ·exact hbe
   ·rintro rfl;rcases he with z|z
    ·exact nown c b hc z
    ·rw[hc] at z;cases z;exact hb rfl
structure Un(fs ex:List qv)(H H':Hp)(h h':Heap):Prop where
 keep:∀ b o,h.get? b=qq o->H b=qz->b ∉ fs->b ∉ ex->h'.get? b=qq o
 slot:∀ b o,h.get? b=qq o->H b=qz->b∈fs->b ∉ ex->∃ sl,h'.get? b=qq {o with slots:=sl }
 free:∀ b o,h.get? b=qq o->H b=qz->b ∉ ex->H' b=qz
 there:∀ b o,h.get? b=qq o->b ∉ ex->∃ o',h'.get? b=qq o'
 tups:∀ b xs,H b=qq (.tup xs)->H' b=qq (.tup xs)
 frzs:∀ b o u,H b=qq (.frz o u)->H' b=qq (.frz o u)
 tbls:∀ b ps,H b=qq (.tbl ps)->∃ more,H' b=qq (.tbl (ps++more))
def Un.any(u:Un fs ex H H1 h h1)(q:h.get? b=qq ob)(n:H b=qz)(hx:b ∉ ex):∃ sl,h1.get? b=qq {ob with slots:=sl }:=by
 by_cases hb:b∈fs
 ·exact u.slot b ob q n hb hx
 ·exact⟨ob.slots,u.keep b ob q n hb hx⟩
def Un.kept{h h':Heap}(k:∀ b u,h.get? b=qq u->h'.get? b=qq u):Un fs ex H H h h':=
 ⟨λ b ob q _ _ _=>k b ob q,λ b ob q _ _ _=>⟨ob.slots,k b ob q⟩,λ _ _ _ n _=>n,λ b ob q _=>⟨ob,k b ob q⟩,λ _ _ q=>q,λ _ _ _ q=>q,λ _ ps q=>⟨#[],by rw[q];simp⟩⟩
def Un.refl:Un fs ex H H h h:=Un.kept λ _ _ q=>q
def Un.laid{h h':Heap}(k:∀ b u,h.get? b=qq u->h'.get? b=qq u)(hp:h.objs.size<=a)(hn:H a=qz):Un fs ex H (bQ H a o) h h' where
 keep:=λ b u q _ _ _=>k b u q
 slot:=λ b u q _ _ _=>⟨u.slots,k b u q⟩
 free:=λ b u q n _=>by rw[bT (xAj (xAb (xAa q) hp))];exact n
 there:=λ b u q _=>⟨u,k b u q⟩
 tups:=λ b xs q=>by rw[bT (eN q hn)];exact q
 frzs:=λ b u xs q=>by rw[bT (eN q hn)];exact q
 tbls:=λ b ps q=>⟨#[],by rw[bT (eN q hn),q];simp⟩
def Un.write{h h':Heap}(mu:Mut (H x))(he:e=x\/H e=qq (.own x))(k:∀ b u,b≠e->h.get? b=qq u->h'.get? b=qq u)(heo:∃ u,h'.get? e=qq u):Un fs ex H (bQ H x o) h h':=by
 have hx:∀ b,H b=qz->b≠x:=λ b n z=>by subst z;rw[n] at mu;exact mu
 have hb:∀ b,H b=qz->b≠e:=λ b n z=>by
  subst z;rcases he with r|r
  ·exact hx b n r
  ·rw[n] at r;cases r
 have hm:∀ b u,H b=qq u->¬ Mut (qq u)->b≠x:=λ b u q nm z=>by subst z;rw[q] at mu;exact nm mu
 refine⟨λ b u q n _ _=>k b u (hb b n) q,λ b u q n _ _=>⟨u.slots,k b u (hb b n) q⟩,λ b u q n _=>by rw[bT (hx b n)];exact n,λ b u q _=>?_,
  λ b xs q=>by rw[bT (hm b _ q λ z=>z)];exact q,λ b u xs q=>by rw[bT (hm b _ q λ z=>z)];exact q,λ b ps q=>⟨#[],by rw[bT (hm b _ q λ z=>z),q];simp⟩⟩
 by_cases hbe:b=e
 ·subst hbe;exact heo
 ·exact⟨u,k b u hbe q⟩
def trk(h:Heap)(H:Hp):List qv:=(yBd h.objs.size).filter λ a=>(H a).isSome
def nZ(h:Heap)(H:Hp):Heap:=PySem.W.hideAll h (trk h H)
def aPa(h:Heap)(H:Hp):(nZ h H).objs.size=h.objs.size:=PySem.W.hideAll_size _ _
def aPU{h:Heap}(e:h.get? b=qq o)(n:H b=qz):(nZ h H).get? b=qq o:=
 PySem.W.hideAll_get _ e λ hm=>by
  have q:(H b).isSome=true:=(List.mem_filter.mp hm).2;rw[n] at q;simp at q
def aQP(e:(nZ h H).get? b=qq o):h.get? b=qq o/\H b=qz:=by
 have e':h.get? b=qq o:=PySem.W.of_hideAll (trk h H) e;refine⟨e',?_⟩;cases q:H b with
 |none=>rfl
 |some x=>
   have hm:b∈trk h H:=List.mem_filter.mpr ⟨List.mem_range.mpr (xAa e'),by simp[q]⟩;have z:(nZ h H).get? b=qz:=PySem.W.hideAll_none (trk h H) hm;rw[z] at e;cases e
def aSh(g h:Heap)(L:qv):List (qv×Obj):=(yBd h.objs.size).filterMap λ a=>if a=L\/(g.get? a).isSome=true then qz else (h.get? a).map λ o=>(a,o)
def cJ(g h:Heap)(L d:qv):List (qv×Obj):=(aSh g h L).filter λ p=>decide (p.1≠d)
end L2
namespace L2
open PySem PySem.Spec PyProof.Rows
structure Mod(K:FrG)(mg:Str->Option qx)(base:Heap):Prop where
 kin:K.In base
 glob:base.Ns xq mg
 blt:∃ mb,base.Ns builtinsNs mb/\∀ x:Str,x ≠ "__name__" -> mb x=xz x
 nolimit:base.NoLimit
structure Cx where
 prog:zq
 w:zx
 K:FrG
 mg:Str->Option qx
 base:Heap
 A:zj
 N:List Str
 s₀:qj
 H₀:Hp
 env:Env
 outer:List Env
 stack:List Env
 ex:List qv
 fn:Str->Bool
 calm:Bool
 pn:List (qv×Obj)
 xe:qx->qj->Prop
def iZ(l:List Env):List qv:=l.filterMap (·.frame)
noncomputable abbrev Cx.fs(X:Cx):List qv:=iZ X.outer
def zP(sc:zv)(x:Str):Prop:=sc.names.lookup x=qq .local\/sc.names.lookup x=qq .cell\/sc.names.lookup x=qq .free
def Loc(sc:zv)(x:Str):Prop:=sc.names.lookup x=qq .local\/sc.names.lookup x=qq .cell
def aZO(env:Env)(h:Heap)(m:Str->Option qx)(x:Str)(u:qx):Prop:=
 (env.kindOf x=qq .local/\m x=qq u)\/((env.kindOf x=qq .cell\/env.kindOf x=qq .free)/\∃ c,env.cells.lookup x=qq c/\h.IsCell c (qq u))
structure Cx.Ok(X:Cx):Prop where
 mod:Mod X.K X.mg X.base
 kind:X.env.scope.kind=.function
 glob:X.env.globals=xq
 blt:X.env.builtins=builtinsNs
 above:X.s₀.heap.objs.size<=X.env.locals
 inj:∀ x y c,X.env.cells.lookup x=qq c->X.env.cells.lookup y=qq c->x=y
 has:∀ x,(X.env.kindOf x=qq .cell\/X.env.kindOf x=qq .free)->∃ c,X.env.cells.lookup x=qq c
 cab:∀ x c,X.fn x=true->X.env.cells.lookup x=qq c->X.s₀.heap.objs.size<=c
 hd:X.calm=true->X.A.handled=qz
 frames:X.A.frames=qq X.stack
 stk:X.stack=X.outer\/(X.stack=X.env::X.outer/\X.env.frame=qq X.env.locals)
 exf:∀ b∈X.ex,b≠X.env.locals/\∀ x c,X.env.cells.lookup x=qq c->c≠b
 bs:∀ b o,X.base.get? b=qq o->X.s₀.heap.get? b=qq o/\X.H₀ b=qz
 bsz:X.base.objs.size<=X.s₀.heap.objs.size
 noex:∀ b o,X.base.get? b=qq o->b ∉ X.ex
 exfs:∀ b∈X.ex,b ∉ X.fs
 funs:X.s₀.heap.FunFrames X.base X.outer
 frf:∀ b∈X.fs,X.H₀ b=qz
structure Inv(X:Cx)(aB:List (qv×Obj))(σ:List (Option V))(H:Hp)(s:qj):Prop where
 ok:X.Ok
 os:s.os=X.s₀.os
 bare:AllBare s.gens
 base:Un X.fs X.ex X.H₀ H X.s₀.heap s.heap
 loc:∃ m,s.heap.Ns X.env.locals m/\∀ (i:Nat) (x:Str) (v:V),X.N[i]?=qq x->σ[i]?=qq (qq v)->zP X.env.scope x->∃ u,bM v u/\aZO X.env s.heap m x u
 cell:∀ x c,X.env.cells.lookup x=qq c->∃ v,s.heap.IsCell c v
 free:H X.env.locals=qz
 freeC:∀ x c,X.env.cells.lookup x=qq c->H c=qz
 pin:∀ p∈X.pn++aB,s.heap.get? p.1=qq p.2/\H p.1=qz/\p.1≠X.env.locals/\p.1 ∉ X.fs/\∀ v,p.2.data≠.cell v
 hok:dZ X.prog X.w H s.heap
 len:σ.length=X.N.length
section
variable {X:Cx}{aB:List (qv×Obj)}{σ:List (Option V)}{H H':Hp}{s:qj}{h':Heap}
def Cx.Ok.nofr(ok:X.Ok)(e:X.base.get? b=qq o):b ∉ X.fs:=λ hb=>by
 have:=(ok.funs.mem hb).1;rw[e] at this;cases this
def Inv.bs(I:Inv X aB σ H s):∀ b o,X.base.get? b=qq o->s.heap.get? b=qq o/\H b=qz:=λ b o e=>
 ⟨I.base.keep b o (I.ok.bs b o e).1 (I.ok.bs b o e).2 (I.ok.nofr e) (I.ok.noex b o e),I.base.free b o (I.ok.bs b o e).1 (I.ok.bs b o e).2 (I.ok.noex b o e)⟩
def Inv.bk(I:Inv X aB σ H s):∀ b o,X.base.get? b=qq o->s.heap.get? b=qq o:=λ b o e=>(I.bs b o e).1
def Inv.mod(I:Inv X aB σ H s):Mod X.K X.mg X.base:=I.ok.mod
def Inv.kIn(I:Inv X aB σ H s):X.K.In s.heap:=I.ok.mod.kin.keeps I.bk
def Inv.lt(I:Inv X aB σ H s):X.env.locals<s.heap.objs.size:=let ⟨_,hn,_⟩:=I.loc;hn.lt
def Inv.sz(I:Inv X aB σ H s):X.s₀.heap.objs.size<=s.heap.objs.size:=xAh I.ok.above (yEd I.lt)
def Inv.nofs(I:Inv X aB σ H s)(h:s.heap.objs.size<=a):a ∉ X.fs:=λ hb=>by
 let(_,o,ho,_):=I.ok.funs.mem hb;exact absurd (xAb (xAa ho) (xAh I.sz h)) (yCg _)
def Inv.cne(I:Inv X aB σ H s):∀ x c,X.env.cells.lookup x=qq c->c≠X.env.locals:=λ x c e z=>by
 let(v,o,ho,hd):=I.cell x c e;let(m,(o',es,ep,ho',hd',_),_):=I.loc;rw[z,ho'] at ho;cases ho;rw[hd'] at hd;cases hd
def Inv.funs(I:Inv X aB σ H s):s.heap.FunFrames X.base X.outer:=by
 have all:∀ (l:List Env),(∀ b∈iZ l,b∈X.fs)->X.s₀.heap.FunFrames X.base l->s.heap.FunFrames X.base l:=by
  intro l
  induction l with
  |nil=>intro _ _;trivial
  |cons env r ih=>
    intro hs hl;let(hk,(L,o,hf,hn,ho,hd),hr):=hl;have hL:L∈X.fs:=hs L (by unfold iZ;rw[yDj,hf];exact xAc);let(sl,e):=I.base.slot L o ho (I.ok.frf L hL) hL λ z=>I.ok.exfs L z hL
    exact⟨hk,⟨L,_,hf,hn,e,hd⟩,ih (λ b hb=>hs b (by unfold iZ;rw[yDj,hf];exact xAf _ hb)) hr⟩
 exact all X.outer (λ _ hb=>hb) I.ok.funs
def Inv.stack(I:Inv X aB σ H s):s.heap.FunFrames X.base X.stack:=by
 rcases I.ok.stk with e|⟨e,hf⟩
 ·rw[e];exact I.funs
 ·rw[e];let(m,hn,_):=I.loc;refine .cons (by rw[I.ok.kind];decide) hf hn ?_ I.funs;exact Heap.get?_none_of_le (xAh I.ok.bsz I.ok.above)
def Inv.stkSub(I:Inv X aB σ H s):∀ b∈iZ X.stack,b∈X.env.locals::X.fs:=λ b hb=>by
 rcases I.ok.stk with e|⟨e,hf⟩
 ·rw[e] at hb;exact xAf _ hb
 ·rw[e] at hb;unfold iZ at hb;rw[yDj,hf] at hb;exact hb
def Inv.stkFree(I:Inv X aB σ H s):∀ b∈iZ X.stack,H b=qz:=λ b hb=>by
 rcases List.mem_cons.mp (I.stkSub b hb) with e|hb
 ·rw[e];exact I.free
 ·let(_,o,ho,_):=I.ok.funs.mem hb;exact I.base.free b o ho (I.ok.frf b hb) λ z=>I.ok.exfs b z hb
def Inv.step{g':Array GenState}{t':Nat}{d':Drawn}{ch:List qv}(I:Inv X aB σ H s)
 (hch:∀ b∈ch,(b∈X.ex\/X.s₀.heap.objs.size<=b)/\b≠X.env.locals/\(∀ x c,X.env.cells.lookup x=qq c->c≠b)/\∀ p∈X.pn++aB,p.1≠b)
 (keep:∀ b o,b≠X.env.locals->b ∉ X.fs->b ∉ ch->s.heap.get? b=qq o->H b=qz->h'.get? b=qq o)
 (slot:∀ b o,b≠X.env.locals->b∈X.fs->b ∉ ch->s.heap.get? b=qq o->H b=qz->∃ sl,h'.get? b=qq {o with slots:=sl }) (free:∀ b o,b ∉ ch->s.heap.get? b=qq o->H b=qz->H' b=qz)
 (there:∀ b o,b ∉ ch->s.heap.get? b=qq o->∃ o',h'.get? b=qq o')
 (tups:∀ b xs,H b=qq (.tup xs)->H' b=qq (.tup xs)) (frzs:∀ b o u,H b=qq (.frz o u)->H' b=qq (.frz o u)) (tbls:∀ b ps,H b=qq (.tbl ps)->∃ more,H' b=qq (.tbl (ps++more)))
 (ns:∀ m,s.heap.Ns X.env.locals m->h'.Ns X.env.locals m) (hok:dZ X.prog X.w H' h') (hg:AllBare g') :
 Inv X aB σ H' {s with heap:=h',gens:=g',drawn:=d',toks:=t' }:=by
 have neL:∀ b o,X.s₀.heap.get? b=qq o->b≠X.env.locals:=λ b o e=>xAj (xAb (xAa e) I.ok.above)
 have neC:∀ b o,X.s₀.heap.get? b=qq o->b ∉ X.ex->b ∉ ch:=λ b o e hx hb=>by
  rcases (hch b hb).1 with z|z
  ·exact hx z
  ·exact absurd (xAb (xAa e) z) (yCg _)
 have cellK:∀ x c,X.env.cells.lookup x=qq c->∀ v,s.heap.IsCell c v->h'.IsCell c v:=λ x c e v bD=>by
  let(o,ho,hd):=bD;have nch:c ∉ ch:=λ z=>(hch c z).2.2.1 x c e rfl
  by_cases hc:c∈X.fs
  ·let(sl,q):=slot c o (I.cne x c e) hc nch ho (I.freeC x c e);exact⟨_,q,hd⟩
  ·exact⟨o,keep c o (I.cne x c e) hc nch ho (I.freeC x c e),hd⟩
 refine⟨I.ok,I.os,hg,⟨λ b o e n hb hx=>?_,λ b o e n hb hx=>?_,λ b o e n hx=>?_,λ b o e hx=>?_,λ b xs e=>tups b xs (I.base.tups b xs e),λ b o xs e=>frzs b o xs (I.base.frzs b o xs e),λ b ps e=>?_⟩,?_,λ x c e=>?_,?_,λ x c e=>?_,λ p hp=>?_,hok,I.len⟩
 ·exact keep b o (neL b o e) hb (neC b o e hx) (I.base.keep b o e n hb hx) (I.base.free b o e n hx)
 ·let(sl,e1):=I.base.slot b o e n hb hx;let(sl',e2):=slot b _ (neL b o e) hb (neC b o e hx) e1 (I.base.free b o e n hx);exact⟨sl',e2⟩
 ·let(o',e1):=I.base.there b o e hx;exact free b o' (neC b o e hx) e1 (I.base.free b o e n hx)
 ·let(o',e1):=I.base.there b o e hx;exact there b o' (neC b o e hx) e1
 ·let(m1,e1):=I.base.tbls b ps e;let(m2,e2):=tbls b _ e1;exact⟨m1++m2,by rw[e2,Array.append_assoc]⟩
 ·let(m,hn,hl):=I.loc;refine⟨m,ns m hn,λ i x v e1 e2 e3=>?_⟩;let(u,r,l):=hl i x v e1 e2 e3;refine⟨u,r,?_⟩;rcases l with l|⟨k,c,e,z⟩
  ·exact .inl l
  ·exact .inr ⟨k,c,e,cellK x c e _ z⟩
 ·let(v,z):=I.cell x c e;exact⟨v,cellK x c e v z⟩
 ·let(m,(o,_,_,ho,_),_):=I.loc;exact free _ o (λ z=>(hch _ z).2.1 rfl) ho I.free
 ·let(v,o,ho,hd):=I.cell x c e;exact free c o (λ z=>(hch c z).2.2.1 x c e rfl) ho (I.freeC x c e)
 ·let(e,n,ne,nf,d):=I.pin p hp;have nch:p.1 ∉ ch:=λ z=>(hch p.1 z).2.2.2 p hp rfl
  exact⟨keep p.1 p.2 ne nf nch e n,free p.1 p.2 nch e n,ne,nf,d⟩
def Inv.un(I:Inv X aB σ H s)(u:Un X.fs [] H H' s.heap h')(hok:dZ X.prog X.w H' h'):Inv X aB σ H' {s with heap:=h',toks:=t' }:=by
 let(m,(o,es,ep,ho,r),_):=id I.loc;let(sl,hL):=u.any ho I.free (by simp)
 exact I.step (g':=s.gens) (d':=s.drawn) (ch:=[]) (λ _ z=>nomatch z) (λ b o _ hb _ e n=>u.keep b o e n hb (by simp)) (λ b o _ hb _ e n=>u.slot b o e n hb (by simp)) (λ b o _ e n=>u.free b o e n (by simp)) (λ b o _ e=>u.there b o e (by simp)) u.tups u.frzs u.tbls (λ m' hm=>by
  let(o',es',ep',ho',r'):=hm;rw[ho] at ho';cases ho';exact⟨_,es',ep',hL,r'⟩) hok I.bare
def Inv.call(I:Inv X aB σ H s)(u:Un (iZ X.stack) ch H H' s.heap h')(hok:dZ X.prog X.w H' h')(hg:AllBare g')(hch:∀ b∈ch,(b∈X.ex\/X.s₀.heap.objs.size<=b)/\b≠X.env.locals/\(∀ x c,X.env.cells.lookup x=qq c->c≠b)/\∀ p∈X.pn++aB,p.1≠b) :
 Inv X aB σ H' {s with heap:=h',gens:=g',drawn:=d',toks:=t' }:=by
 let(m,(o,es,ep,ho,r),_):=id I.loc;let(sl,hL):=u.any ho I.free λ z=>(hch _ z).2.1 rfl
 exact I.step (ch:=ch) hch (λ b o hL hb hc e n=>u.keep b o e n (λ z=>(List.mem_cons.mp (I.stkSub b z)).elim hL hb) hc) (λ b o _ _ hc e n=>u.any e n hc) (λ b o hc e n=>u.free b o e n hc) (λ b o hc e=>u.there b o e hc) u.tups u.frzs u.tbls (λ m' hm=>by
  let(o',es',ep',ho',r'):=hm;rw[ho] at ho';cases ho';exact⟨_,es',ep',hL,r'⟩) hok hg
def Inv.turned(I:Inv X aB σ H s)(k:∀ b o,b≠it->s.heap.get? b=qq o->h'.get? b=qq o)(hn:H it=qz)(hL:it≠X.env.locals)(h1:it∈X.ex\/X.s₀.heap.objs.size<=it)(h2:∀ x c,X.env.cells.lookup x=qq c->c≠it)(h3:∀ p∈X.pn++aB,p.1≠it):Inv X aB σ H {s with heap:=h',toks:=t' }:=by
 have nit:∀ b u,H b=qq u->b≠it:=λ b u e z=>by rw[z,hn] at e;cases e
 refine I.step (g':=s.gens) (d':=s.drawn) (ch:=[it]) (λ b hb=>?_) (λ b o _ _ hc e _=>k b o (λ z=>hc (by simp[z])) e) (λ b o _ _ hc e _=>⟨o.slots,k b o (λ z=>hc (by simp[z])) e⟩) (λ _ _ _ _ n=>n)
  (λ b o hc e=>⟨o,k b o (λ z=>hc (by simp[z])) e⟩) (λ _ _ e=>e) (λ _ _ _ e=>e) (λ b ps e=>⟨#[],by rw[e];simp⟩) (λ m hm=>?_) (λ b u e=>?_) I.bare
 ·have e:b=it:=(hb:)
  subst e;exact⟨h1,hL,h2,h3⟩
 ·let(o,es,ep,ho,r):=hm;exact⟨o,es,ep,k _ o (Ne.symm hL) ho,r⟩
 ·refine(I.hok b u e).stay (λ c v hc q=>k c v ?_ q) (λ _ q=>q) λ _ _ q=>q
  rcases hc with z|z
  ·rw[z];exact nit b u e
  ·exact nit c _ z
def Inv.tok(I:Inv X aB σ H s)(t:Nat):Inv X aB σ H {s with toks:=t }:=I.un (h':=s.heap) (t':=t) Un.refl I.hok
def Inv.kept(I:Inv X aB σ H s)(k:∀ b u,s.heap.get? b=qq u->h'.get? b=qq u):Inv X aB σ H {s with heap:=h',toks:=t' }:=I.un (Un.kept k) (I.hok.kept k)
def Inv.laid(I:Inv X aB σ H s)(k:∀ b u,s.heap.get? b=qq u->h'.get? b=qq u)(hp:s.heap.objs.size<=a)(new:iW X.prog X.w (bQ H a o) h' a o) :
 Inv X aB σ (bQ H a o) {s with heap:=h',toks:=t' }:=I.un (Un.laid k hp (I.hok.fresh hp)) (I.hok.laid k hp new)
def Inv.write(I:Inv X aB σ H s)(mu:Mut (H x))(he:e=x\/H e=qq (.own x))(k:∀ b u,b≠e->s.heap.get? b=qq u->h'.get? b=qq u)(heo:∃ u,h'.get? e=qq u)(new:iW X.prog X.w (bQ H x o) h' x o):Inv X aB σ (bQ H x o) {s with heap:=h',toks:=t' }:=I.un (Un.write mu he k heo) (I.hok.write mu he k heo new)
def Inv.pins_of(I:Inv X aB σ H s)(h:∀ p∈pins',s.heap.get? p.1=qq p.2/\H p.1=qz/\p.1≠X.env.locals/\p.1 ∉ X.fs/\∀ v,p.2.data≠.cell v):Inv X pins' σ H s:=
 ⟨I.ok,I.os,I.bare,I.base,I.loc,I.cell,I.free,I.freeC,λ p hp=>(List.mem_append.mp hp).elim (λ z=>I.pin p (List.mem_append_left _ z)) (h p),I.hok,I.len⟩
def aHR{N:List Str}(hN:N.Nodup){i j:Nat}{x:Str}(a:N[i]?=qq x)(b:N[j]?=qq x):i=j:=by let(h1,e1):=gIm a;let(h2,e2):=gIm b;exact(yHq hN).mp (e1.trans e2.symm)
def aOF{E:qx->qj->Prop}{Q:Unit->qj->Prop}(I:Inv X aB σ H s)(hN:X.N.Nodup)(hi:X.N[i]?=qq x)(hx:Loc X.env.scope x)(r:bM v u)(h:∀ s',Inv X aB (σ.set i (qq v)) H s'->(∃ a,yEe a s.heap s'.heap/\(a=X.env.locals\/X.env.cells.lookup x=qq a))->Q () s')(hf:X.fn x=true\/X.env.scope.names.lookup x=qq .local:=by first|exact .inl rfl|exact .inr rfl|assumption):qk M A (storeName X.env x u) Q E s:=by
 let(m,hn,hl):=id I.loc;have hcls:(X.env.scope.kind==.class||(X.env.scope.kind==.module&&X.env.locals != X.env.globals))=false:=by rw[I.ok.kind];rfl
 have hiσ:i<σ.length:=by rw[I.len];exact(gIm hi).1
 have cne:=I.cne;have tracked:∀ {a:qv}{h':Heap},(∃ o,s.heap.get? a=qq o/\H a=qz)->yEe a s.heap h'->dZ X.prog X.w H h':=λ {a h'} ha hs b ob e=>by
  let(_,_,hfree):=ha;refine(I.hok b ob e).stay (λ c w' hc q=>(hs.2 c ?_).trans q) (λ _ q=>q) λ _ _ q=>q
  rintro rfl;rcases hc with rfl|hc
  ·rw[hfree] at e;cases e
  ·rw[hfree] at hc;cases hc
 rcases hx with hk|hk
 ·refine wpAny_storeName_local hk hn (λ h' hn' hs=>?_) hcls;let(oL,_,_,hoL,_):=id hn;refine h _ ⟨I.ok,I.os,I.bare,⟨λ b o e n hb hx=>?_,λ b o e n hb hx=>?_,I.base.free,λ b o e hx=>?_,I.base.tups,I.base.frzs,I.base.tbls⟩,⟨_,hn',λ j y v' e1 e2 e3=>?_⟩,λ y c e=>?_,I.free,I.freeC,λ p hp=>?_,tracked ⟨oL,hoL,I.free⟩ hs,by simpa using I.len⟩ ⟨_,hs,.inl rfl⟩
  ·exact(hs.2 b (xAj (xAb (xAa e) I.ok.above))).trans (I.base.keep b o e n hb hx)
  ·let(sl,e1):=I.base.slot b o e n hb hx;exact⟨sl,(hs.2 b (xAj (xAb (xAa e) I.ok.above))).trans e1⟩
  ·let(o',e1):=I.base.there b o e hx;exact⟨o',(hs.2 b (xAj (xAb (xAa e) I.ok.above))).trans e1⟩
  ·by_cases hj:j=i
   ·subst hj;rw[hi] at e1;cases e1;rw[yBb hiσ] at e2;cases e2;exact⟨u,r,.inl ⟨hk,by simp⟩⟩
   ·rw[yBa (Ne.symm hj)] at e2;let(u',r',q):=hl j y v' e1 e2 e3;refine⟨u',r',?_⟩;rcases q with ⟨k,e⟩|⟨k,c,e,z⟩
    ·refine .inl ⟨k,?_⟩;have:y≠x:=λ e=>hj (aHR hN e1 (e▸hi))
     simp[this,e]
    ·exact .inr ⟨k,c,e,z.sameBut hs (cne y c e)⟩
  ·let(w',z):=I.cell y c e;exact⟨w',z.sameBut hs (cne y c e)⟩
  ·let(e,n,ne,nf,d):=I.pin p hp;exact⟨(hs.2 p.1 ne).trans e,n,ne,nf,d⟩
 ·have hfn:X.fn x=true:=by
   rcases hf with z|z
   ·exact z
   ·rw[z] at hk;cases hk
  let(c,hc):=I.ok.has x (.inl hk);let(w',z):=I.cell x c hc;refine wpAny_storeName_cell I.ok.kind hk hc z (λ h' hc' hs=>?_);let(oc,hoc,hocd):=id z;refine h {s with heap:=h' } ⟨I.ok,I.os,I.bare,⟨λ b o e n hb hx=>?_,λ b o e n hb hx=>?_,I.base.free,λ b o e hx=>?_,I.base.tups,I.base.frzs,I.base.tbls⟩,⟨m,hn.sameBut hs (Ne.symm (cne x c hc)),λ j y v' e1 e2 e3=>?_⟩,λ y c' e=>?_,I.free,I.freeC,λ p hp=>?_,tracked ⟨oc,hoc,I.freeC x c hc⟩ hs,by simpa using I.len⟩ ⟨c,hs,.inr hc⟩
  ·exact(hs.2 b (xAj (xAb (xAa e) (I.ok.cab x c hfn hc)))).trans (I.base.keep b o e n hb hx)
  ·let(sl,e1):=I.base.slot b o e n hb hx;exact⟨sl,(hs.2 b (xAj (xAb (xAa e) (I.ok.cab x c hfn hc)))).trans e1⟩
  ·let(o',e1):=I.base.there b o e hx;exact⟨o',(hs.2 b (xAj (xAb (xAa e) (I.ok.cab x c hfn hc)))).trans e1⟩
  ·by_cases hj:j=i
   ·subst hj;rw[hi] at e1;cases e1;rw[yBb hiσ] at e2;cases e2;exact⟨u,r,.inr ⟨.inl hk,c,hc,hc'⟩⟩
   ·rw[yBa (Ne.symm hj)] at e2;let(u',r',q):=hl j y v' e1 e2 e3;refine⟨u',r',?_⟩;rcases q with q|⟨k,c',e,z'⟩
    ·exact .inl q
    ·refine .inr ⟨k,c',e,z'.sameBut hs ?_⟩;rintro rfl;exact hj (aHR hN e1 (I.ok.inj _ _ _ e hc▸hi))
  ·by_cases hcc:c'=c
   ·subst hcc;exact⟨_,hc'⟩
   ·let(w2,z2):=I.cell y c' e;exact⟨w2,z2.sameBut hs hcc⟩
  ·let(e,n,ne,nf,d):=I.pin p hp;refine⟨(hs.2 p.1 ?_).trans e,n,ne,nf,d⟩;intro q;rw[q,hoc] at e;have q':oc=p.2:=Option.some.inj e;exact d w' (by rw[<- q'];exact hocd)
def aHT{E:qx->qj->Prop}{Q:Unit->qj->Prop}(I:Inv X aB σ H s)(hN:X.N.Nodup)(hi:X.N[i]?=qq x)(hx:Loc X.env.scope x)(r:bM v u)(h:∀ s',Inv X aB (σ.set i (qq v)) H s'->Q () s')(hf:X.fn x=true\/X.env.scope.names.lookup x=qq .local:=by first|exact .inl rfl|exact .inr rfl|assumption):qk M A (storeName X.env x u) Q E s:=
 aOF I hN hi hx r (λ s' I' _=>h s' I') hf
def Inv.call'{s':qj}(I:Inv X aB σ H s)(ho:s'.os=s.os)(u:Un (iZ X.stack) ch H H' s.heap s'.heap)(hok:dZ X.prog X.w H' s'.heap)(hg:AllBare s'.gens)(hch:∀ b∈ch,(b∈X.ex\/X.s₀.heap.objs.size<=b)/\b≠X.env.locals/\(∀ x c,X.env.cells.lookup x=qq c->c≠b)/\∀ p∈X.pn++aB,p.1≠b):Inv X aB σ H' s':=by let(h',g',d',t',o'):=s';have e:o'=s.os:=ho;subst e;exact I.call (g':=g') (t':=t') (d':=d') u hok hg hch
end
abbrev XK:=qx->Option qv->Hp->Prop
abbrev St:=List (Option V)
abbrev VK:=V->Hp->Prop
abbrev TE:=St->Hp->VK->Prop
abbrev TT:=St->Hp->(Bool->Hp->Prop)->Prop
abbrev TA:=St->Hp->(List V->Hp->Prop)->Prop
structure Ends where
 nx:St->Hp->Prop
 rt:VK
 bk:St->Hp->Prop:=λ _ _=>False
 ct:St->Hp->Prop:=λ _ _=>False
abbrev TS:=Ends->St->Hp->Prop
def EP(X:Cx)(aB:List (qv×Obj))(σ:St)(Q:VK)(u:qx)(s':qj):Prop:=∃ v H',Inv X aB σ H' s'/\bM v u/\Q v H'
def TP(X:Cx)(aB:List (qv×Obj))(σ:St)(Q:Bool->Hp->Prop)(b:Bool)(s':qj):Prop:=∃ H',Inv X aB σ H' s'/\Q b H'
def AP(X:Cx)(aB:List (qv×Obj))(σ:St)(Q:List V->Hp->Prop)(us:List qx)(s':qj):Prop:=∃ vs H',Inv X aB σ H' s'/\bG vs us/\Q vs H'
def SP(X:Cx)(aB:List (qv×Obj))(D:Ends)(f:Flow)(s':qj):Prop:=
 match f with
 |.next=>∃ σ' H',Inv X aB σ' H' s'/\D.nx σ' H'|.brk=>∃ σ' H',Inv X aB σ' H' s'/\D.bk σ' H'|.cont=>∃ σ' H',Inv X aB σ' H' s'/\D.ct σ' H'|.ret u=>∃ v σ' H',Inv X aB σ' H' s'/\bM v u/\D.rt v H'
def PE(X:Cx)(e:qw)(t:TE):Prop:=
 ∀ (aB:List (qv×Obj)) (s:qj) (σ:St) (H:Hp) (Q:VK),Inv X aB σ H s->t σ H Q->qk (model X.prog X.w) X.A (eval e X.env) (EP X aB σ Q) X.xe s
def PT(X:Cx)(e:qw)(t:TT):Prop:=
 ∀ (aB:List (qv×Obj)) (s:qj) (σ:St) (H:Hp) (Q:Bool->Hp->Prop),Inv X aB σ H s->t σ H Q->qk (model X.prog X.w) X.A (isTrue e X.env (eval e X.env)) (TP X aB σ Q) X.xe s
def PW(X:Cx)(e:qw)(t:TT):Prop:=
 ∀ (fR:Sem qx) (aB:List (qv×Obj)) (s:qj) (σ:St) (H:Hp) (Q:Bool->Hp->Prop),Inv X aB σ H s->t σ H Q->qk (model X.prog X.w) X.A (isTrue e X.env fR) (TP X aB σ Q) X.xe s
def PW.pt{t:TT}(h:PW X e t):PT X e t:=h _
def PA(X:Cx)(es:List qw)(t:TA):Prop:=
 ∀ (pos:Pos) (aB:List (qv×Obj)) (s:qj) (σ:St) (H:Hp) (Q:List V->Hp->Prop),Inv X aB σ H s->t σ H Q->qk (model X.prog X.w) X.A (spliced (backTo pos (qu es X.env))) (AP X aB σ Q) X.xe s
def PS(X:Cx)(st:xj)(t:TS):Prop:=
 ∀ (aB:List (qv×Obj)) (s:qj) (σ:St) (H:Hp) (D:Ends),Inv X aB σ H s->t D σ H->qk (model X.prog X.w) X.A (exec st X.env) (SP X aB D) X.xe s
def eE(X:Cx)(st:List xj)(t:TS):Prop:=
 ∀ (aB:List (qv×Obj)) (s:qj) (σ:St) (H:Hp) (D:Ends),Inv X aB σ H s->t D σ H->qk (model X.prog X.w) X.A (execs st X.env) (SP X aB D) X.xe s
def bO{α:Type}{t:Sem α}{Q Q':α->qj->Prop}{E:qx->qj->Prop}(h:qk M A t Q E s)(hQ:∀ a s,Q a s->Q' a s):qk M A t Q' E s:=wpAny_mono h hQ λ _ _ x=>x
end L2
namespace L2
open PySem PySem.Spec PyProof.Rows
def bin{ta tb:TE}(ha:PE X a ta)(hb:PE X b tb){R:V->V->Hp->Prop}(I:Inv X aB σ H s)(h:ta σ H λ x H1=>tb σ H1 λ y H2=>R x y H2){α:Type}{Q:α->qj->Prop}{f:qx->qx->Sem α}(hf:∀ v u s2 x y H2,Inv X aB σ H2 s2->bM x v->bM y u->R x y H2->qk (model X.prog X.w) X.A (f v u) Q X.xe s2) :
 qk (model X.prog X.w) X.A (eval a X.env) (λ v s₁=>qk (model X.prog X.w) X.A (eval b X.env) (λ u s₂=>qk (model X.prog X.w) X.A (f v u) Q X.xe s₂) X.xe s₁) X.xe s:=by
 refine bO (ha aB s σ H _ I h) λ v s1 hPq0=>?_
 let(x,H1,I1,r1,q1):=hPq0;refine bO (hb aB s1 σ H1 _ I1 q1) λ u s2 hPq1=>?_
 let(y,H2,I2,r2,q2):=hPq1;exact hf v u s2 x y H2 I2 r1 r2 q2
def aYA(i:Nat):TE:=λ σ H Q=>∃ v,σ[i]?=qq (qq v)/\Q v H
def tC(v:V):TE:=λ _ H Q=>Q v H
variable {X:Cx}
def aVf{i:Nat}{x:Str}{pos:Pos}(hN:X.N[i]?=qq x)(hv:zP X.env.scope x)(hd:(x==("__debug__" : Str))=false:=by decide)(hcd:(x==("__classdict__" : Str))=false:=by decide):PE X (.Name x pos) (aYA i):=by
 intro aB s σ H Q I h;let(v,e,h):=h;let(m,hn,hl):=I.loc;let(u,r,l):=hl i x v hN e hv;have cH:EP X aB σ Q u s:=⟨v,H,I,r,h⟩;rcases l with ⟨hk,hm⟩|⟨hk,c,hc,hcell⟩
 ·exact wpAny_Name (wpAny_loadName_local I.ok.kind hk hn hm cH) hd
 ·rcases hk with hk|hk
  ·exact wpAny_Name (wpAny_loadName_cell I.ok.kind hk hc hcell cH) hd
  ·exact wpAny_Name (wpAny_loadName_free I.ok.kind hk hc hcell cH hcd) hd
def aUf{i j pos}:PE X (.Constant (.int i) j pos) (tC (.int i)):=λ _ _ _ H _ I h=>wpAny_Constant_int ⟨.int i,H,I.tok _,⟨_,rfl⟩,h⟩
def aWq{b j pos}:PE X (.Constant (.bool b) j pos) (tC (.bl b)):=λ _ _ _ H _ I h=>Constant_bool ⟨.bl b,H,I,rfl,h⟩
def aTv{j pos}:PE X (.Constant .none j pos) (tC .non):=λ _ _ _ H _ I h=>Constant_none ⟨.non,H,I,rfl,h⟩
def aUS{x j pos}:PE X (.Constant (.str x) j pos) (tC (.str x)):=λ _ _ _ H _ I h=>Calls.Constant_str ⟨.str x,H,I.tok _,⟨_,rfl⟩,h⟩
def Gl(X:Cx)(x:Str):Prop:=X.env.kindOf x=qq .globalImplicit
def aDY{E:qx->qj->Prop}{Q:qx->qj->Prop}(I:Inv X aB σ H s)(hg:Gl X x)(hm:X.mg x=qq u)(h:Q u s)(hd:(x==("__debug__" : Str))=false:=by decide):qk (model X.prog X.w) X.A (eval (.Name x pos) X.env) Q E s:=
 Calls.Name_function_global I.ok.kind hg (Calls.loadGlobal_global (by rw[I.ok.glob];exact I.mod.glob.keeps I.bk) hm h) hd
def pH{E:qx->qj->Prop}{aB:List (qv×Obj)}{s:qj}{σ:St}{H:Hp}{x:Str}{u:qx}{pos:Pos}{Q:qx->qj->Prop}(I:Inv X aB σ H s)(hg:Gl X x)(hm:X.mg x=qz)(hv:xz x=qq u)(h:Q u s)
 (hn:x ≠ "__name__":=by decide) (hd:(x==("__debug__" : Str))=false:=by decide):qk (model X.prog X.w) X.A (eval (.Name x pos) X.env) Q E s:=by let(mb,h1,h2):=I.mod.blt;exact Calls.Name_function_global I.ok.kind hg (Calls.loadGlobal_builtin (by rw[I.ok.glob];exact I.mod.glob.keeps I.bk) hm (by rw[I.ok.blt];exact h1.keeps I.bk) ((h2 x hn).trans hv) h) hd
def aIu(hg:Gl X x)(hm:X.mg x=qq u)(r:bM v u)(hd:(x==("__debug__" : Str))=false:=by decide):PE X (.Name x pos) (tC v):=
 λ _ _ _ H _ I h=>aDY I hg hm ⟨v,H,I,r,h⟩ hd
def aRs{x:Str}{v:V}{u:qx}{pos:Pos}(hg:Gl X x)(hm:X.mg x=qz)(hv:xz x=qq u)(r:bM v u)(hn:x ≠ "__name__":=by decide)(hd:(x==("__debug__" : Str))=false:=by decide):PE X (.Name x pos) (tC v):=
 λ _ _ _ H _ I h=>pH I hg hm hv ⟨v,H,I,r,h⟩ hn hd
def aMg(t u:TT):TT:=λ σ H Q=>t σ H λ c H1=>if c=true then u σ H1 Q else Q false H1
def tOr(t u:TT):TT:=λ σ H Q=>t σ H λ c H1=>if c=true then Q true H1 else u σ H1 Q
def aZg(t:TT):TT:=λ σ H Q=>t σ H λ c H1=>Q (!c) H1
def aRE{tA:TT}(ha:PT X a tA):PW X (.BoolOp .And [a] pos) tA:=by
 intro wh aB s σ H Q I h;refine isTrue_and (bO (ha aB s σ H Q I h) λ c s1 e=>?_);cases c with
 |true=>exact isTrue_and_nil e|false=>exact e
def aTj{tA:TT}(ha:PT X a tA):PW X (.BoolOp .Or [a] pos) tA:=by
 intro wh aB s σ H Q I h;refine isTrue_or (bO (ha aB s σ H Q I h) λ c s1 e=>?_);cases c with
 |false=>exact isTrue_or_nil e|true=>exact e
def aJ4{tA tB':TT}{cJ:List qw}(ha:PT X a tA)(hb:PW X (.BoolOp .And (b::cJ) pos) tB'):PW X (.BoolOp .And (a::b::cJ) pos) (aMg tA tB'):=by
 intro wh aB s σ H Q I h;refine isTrue_and (bO (ha aB s σ H _ I h) λ c s1 hPq2=>?_);let(H1,I1,q1):=hPq2;cases c with
 |true=>exact hb wh aB s1 σ H1 Q I1 q1|false=>exact⟨H1,I1,q1⟩
def aLL{tA tB':TT}{cJ:List qw}(ha:PT X a tA)(hb:PW X (.BoolOp .Or (b::cJ) pos) tB'):PW X (.BoolOp .Or (a::b::cJ) pos) (tOr tA tB'):=by
 intro wh aB s σ H Q I h;refine isTrue_or (bO (ha aB s σ H _ I h) λ c s1 hPq3=>?_);let(H1,I1,q1):=hPq3;cases c with
 |true=>exact⟨H1,I1,q1⟩|false=>exact hb wh aB s1 σ H1 Q I1 q1
def aTI{tA:TT}(ha:PT X a tA):PT X (.UnaryOp .Not a pos) (aZg tA):=by intro aB s σ H Q I h;exact isTrue_not (ha aB s σ H (λ c H1=>Q (!c) H1) I h)
def aLz(ta tb:TE):TE:=λ σ H Q=>ta σ H λ x H1=>∃ c,x=.bl c/\if c=true then tb σ H1 Q else Q (.bl false) H1
def aMm(ta tb:TE):TE:=λ σ H Q=>ta σ H λ x H1=>∃ c,x=.bl c/\if c=true then Q (.bl true) H1 else tb σ H1 Q
def aWB(ta:TE):TE:=λ σ H Q=>ta σ H λ x H1=>∃ c,x=.bl c/\Q (.bl (!c)) H1
def aKS{op}{t:TE}(h:PE X a t):PE X (.BoolOp op [a] pos) t:=λ aB s σ H Q I hw=>BoolOp_one (h aB s σ H Q I hw)
def aKn{ta tb:TE}{cJ:List qw}(ha:PE X a ta)(hb:PE X (.BoolOp .And (b::cJ) pos) tb):PE X (.BoolOp .And (a::b::cJ) pos) (aLz ta tb):=by
 intro aB s σ H Q I h;refine BoolOp_and (bO (ha aB s σ H _ I h) λ v s1 hPq4=>?_);let(x,H1,I1,r1,q1):=hPq4;let(c,rfl,q1):=q1;cases r1;refine xu ?_;cases c with
 |true=>exact hb aB s1 σ H1 Q I1 q1|false=>exact⟨.bl false,H1,I1,rfl,q1⟩
def aLf{ta tb:TE}{cJ:List qw}(ha:PE X a ta)(hb:PE X (.BoolOp .Or (b::cJ) pos) tb):PE X (.BoolOp .Or (a::b::cJ) pos) (aMm ta tb):=by
 intro aB s σ H Q I h;refine BoolOp_or (bO (ha aB s σ H _ I h) λ v s1 hPq5=>?_);let(x,H1,I1,r1,q1):=hPq5;let(c,rfl,q1):=q1;cases r1;refine xu ?_;cases c with
 |false=>exact hb aB s1 σ H1 Q I1 q1|true=>exact⟨.bl true,H1,I1,rfl,q1⟩
def aS7{ta:TE}(ha:PE X a ta):PE X (.UnaryOp .Not a pos) (aWB ta):=by intro aB s σ H Q I h;refine UnaryOp_ (bO (ha aB s σ H _ I h) λ v s1 hPq6=>?_);let(x,H1,I1,r1,q1):=hPq6;let(c,rfl,q1):=q1;cases r1;exact not_of (xu ⟨.bl (!c),H1,I1,rfl,q1⟩)
def tIf(t:TT)(ta tb:TE):TE:=λ σ H Q=>t σ H λ c H1=>if c=true then ta σ H1 Q else tb σ H1 Q
def aPF{ta tb:TE}{tA:TT}(hc:PT X c tA)(ha:PE X a ta)(hb:PE X b tb):PE X (.IfExp c a b pos) (tIf tA ta tb):=by
 intro aB s σ H Q I h;refine wpAny_IfExp (bO (hc aB s σ H _ I h) λ d s1 hPq7=>?_);let(H1,I1,q1):=hPq7;cases d with
 |true=>exact ha aB s1 σ H1 Q I1 q1|false=>exact hb aB s1 σ H1 Q I1 q1
end L2
namespace L2
open PySem PySem.Spec PyProof.Rows
def cK(K:FrG)(H:Hp)(a:qv)(xs:List V):Prop:=
 Rd H a (.lst xs) \/
  ∃ (o:Obj) (aH:Array qx) (n:Nat),K.lookup a=qq o/\o.cls=.type "list" /\ o.dict=qz/\o.data=.seq aH n/\aH.size<=qy/\bG xs aH.toList
def cQ(K:FrG)(H:Hp)(a:qv)(xs:List V):Prop:=
 Rd H a (.tup xs) \/
  ∃ (o:Obj) (aH:Array qx) (n:Nat),K.lookup a=qq o/\o.cls=.type "tuple" /\ o.data=.seq aH n/\aH.size<=qy/\bG xs aH.toList
def aZa:qx->Option V
 |.none=>qq .non|.bool b=>qq (.bl b)|.int i _=>qq (.int i)|.str x _=>qq (.str x)|.bytes b _=>qq (.byt b)|.float b _=>qq (.flt b)|.ref a=>qq (.ref a)|.type n=>qq (.ty n)|_=>qz
def bM.abs(r:bM x u):aZa u=qq x:=by
 cases x with
 |non=>cases r;rfl|bl _=>cases r;rfl
 |int _=>let(t,rfl):=r;rfl
 |str _=>let(t,rfl):=r;rfl
 |byt _=>let(t,rfl):=r;rfl
 |flt _=>let(t,rfl):=r;rfl
 |ref _=>cases r;rfl|ty _=>cases r;rfl
def bM.inj(r:bM x u)(q:bM y u):x=y:=Option.some.inj (r.abs.symm.trans q.abs)
def bG.inj:∀ {xs ys:List V}{us:List qx},bG xs us->bG ys us->xs=ys
 |_,_,_,.nil,.nil=>rfl|_,_,_,.cons r t,.cons r' t'=>by rw[r.inj r',bG.inj t t']
variable {K:FrG}
section
variable {X:Cx}{aB:List (qv×Obj)}{σ:St}{H:Hp}{s:qj}{a:qv}{xs ys:List V}
def cK.of(h:H a=qq (.lst xs)):cK K H a xs:=.inl (.inl h)
def cQ.of(h:H a=qq (.tup xs)):cQ K H a xs:=.inl (.inl h)
def Inv.list(I:Inv X aB σ H s)(h:cK X.K H a xs):∃ aH:List qx,bG xs aH/\PlainL s.heap a aH.toArray/\↑xs<=qy:=by
 rcases h with h|⟨o,aH,n,hk,hc,hd,hs,hz,r⟩
 ·let(z,aH,n,r,e):=h.ok I.hok;exact⟨aH,r,⟨_,n,e,rfl,rfl,rfl⟩,z⟩
 ·refine⟨aH.toList,r,⟨o,n,I.kIn a o hk,hc,hd,by simpa using hs⟩,?_⟩;have e:=r.length;simp only[yEh] at e;omega
def Inv.tuple(I:Inv X aB σ H s)(h:cQ X.K H a xs):∃ aH:List qx,bG xs aH/\IsTup s.heap a aH.toArray/\↑xs<=qy:=by
 rcases h with h|⟨o,aH,n,hk,hc,hs,hz,r⟩
 ·let(z,aH,r,p):=h.ok I.hok;exact⟨aH,r,p,z⟩
 ·refine⟨aH.toList,r,⟨o,I.kIn a o hk,hc,n,by simpa using hs⟩,?_⟩;have e:=r.length;simp only[yEh] at e;omega
def Inv.list_inj(I:Inv X aB σ H s)(h:cK X.K H a xs)(h':cK X.K H a ys):xs=ys:=by
 let(aH,r,(o,n,e,_,_,d),_):=I.list h;let(its',r',(o',n',e',_,_,d'),_):=I.list h';rw[e] at e';cases e';rw[d] at d';injection d' with d1 _
 have:aH=its':=(congrArg Array.toList d1:)
 subst this;exact r.inj r'
def Inv.tuple_inj(I:Inv X aB σ H s)(h:cQ X.K H a xs)(h':cQ X.K H a ys):xs=ys:=by
 let(aH,r,(o,e,_,n,d),_):=I.tuple h;let(its',r',(o',e',_,n',d'),_):=I.tuple h';rw[e] at e';cases e';rw[d] at d';injection d' with d1 _
 have:aH=its':=(congrArg Array.toList d1:)
 subst this;exact r.inj r'
end
noncomputable abbrev Cx.wish(X:Cx)(E:qx->qj->Prop):Cx:={X with xe:=E }
noncomputable abbrev Cx.nox(X:Cx):Cx:=X.wish λ _ _=>False
variable {X:Cx}
def Cx.Ok.wish(ok:X.Ok)(E:qx->qj->Prop):(X.wish E).Ok:=
 ⟨ok.mod,ok.kind,ok.glob,ok.blt,ok.above,ok.inj,ok.has,ok.cab,ok.hd,ok.frames,ok.stk,ok.exf,ok.bs,ok.bsz,ok.noex,ok.exfs,ok.funs,ok.frf⟩
def Cx.Ok.unwish{E:qx->qj->Prop}(ok:(X.wish E).Ok):X.Ok:=
 ⟨ok.mod,ok.kind,ok.glob,ok.blt,ok.above,ok.inj,ok.has,ok.cab,ok.hd,ok.frames,ok.stk,ok.exf,ok.bs,ok.bsz,ok.noex,ok.exfs,ok.funs,ok.frf⟩
section
variable {X:Cx}{aB:List (qv×Obj)}{σ:St}{H:Hp}{s:qj}{E:qx->qj->Prop}
def Inv.wish(I:Inv X aB σ H s)(E:qx->qj->Prop):Inv (X.wish E) aB σ H s:=⟨I.ok.wish E,I.os,I.bare,I.base,I.loc,I.cell,I.free,I.freeC,I.pin,I.hok,I.len⟩
def Inv.unwish(I:Inv (X.wish E) aB σ H s):Inv X aB σ H s:=⟨I.ok.unwish,I.os,I.bare,I.base,I.loc,I.cell,I.free,I.freeC,I.pin,I.hok,I.len⟩
def SP.unwish{D:Ends}(h:SP (X.wish E) aB D f s'):SP X aB D f s':=by
 cases f with
 |next=>let(σ',H',I,q):=h;exact⟨σ',H',I.unwish,q⟩
 |brk=>let(σ',H',I,q):=h;exact⟨σ',H',I.unwish,q⟩
 |cont=>let(σ',H',I,q):=h;exact⟨σ',H',I.unwish,q⟩
 |ret u=>let(v,σ',H',I,r,q):=h;exact⟨v,σ',H',I.unwish,r,q⟩
def eE.nox{st:List xj}{t:TS}(h:eE X.nox st t):eE X st t:=λ aB s σ H D I hw=>
 wpAny_mono (h aB s σ H D (I.wish _) hw) (λ _ _ q=>q.unwish) λ _ _ z=>False.elim z
end
def aXt:TS:=λ D σ H=>D.nx σ H
def aZU(t u:TS):TS:=λ D σ H=>t {D with nx:=u D } σ H
def aQQ:eE X [] aXt:=λ _ _ σ H _ I h=>wpAny_execs_nil ⟨σ,H,I,h⟩
def aQh{st:xj}{cJ:List xj}{t u:TS}(h1:PS X st t)(h2:eE X cJ u):eE X (st::cJ) (aZU t u):=by
 intro aB s σ H D I h;refine wpAny_execs_cons (bO (h1 aB s σ H {D with nx:=u D } I h) λ f s1 q=>?_);cases f with
 |next=>
   let(σ',H',I',q):=q;exact h2 aB s1 σ' H' D I' q
 |ret v=>exact q|brk=>exact q|cont=>exact q
def Inv.quiet(I:Inv X aB σ H s):interactive X.env=false:=by simp[interactive,I.ok.kind]
def aVU(te:TE):TS:=λ D σ H=>te σ H λ _ H1=>D.nx σ H1
def aQV{te:TE}{pos:Pos}(he:PE X e te)(hs:swapsWith e qz pos.line X.env=pure false:=by rfl):PS X (.Expr e pos) (aVU te):=by intro aB s σ H D I h;exact wpAny_Expr_any (bO (he aB s σ H _ I h) λ v s1 ⟨x,H1,I1,r1,q1⟩=>⟨σ,H1,I1,q1⟩) I.quiet hs
def aZf(te:TE):TS:=λ D σ H=>te σ H D.rt
def aVs{te:TE}(he:PE X e te):PS X (.Return (qq e) pos) (aZf te):=by intro aB s σ H D I h;exact wpAny_Return_some (bO (he aB s σ H _ I h) λ v s1 ⟨x,H1,I1,r1,q1⟩=>⟨x,σ,H1,I1,r1,q1⟩)
def aY4(c:TT)(t u:TS):TS:=λ D σ H=>c σ H λ b H1=>if b=true then t D σ H1 else u D σ H1
def aWK{tc:TT}(hc:PT X c tc)(ha:eE X a t)(hb:eE X b u):PS X (.If c a b pos) (aY4 tc t u):=by
 intro aB s σ H D I h;refine wpAny_If (bO (hc aB s σ H _ I h) λ d s1 hPq8=>?_);let(H1,I1,q1):=hPq8;cases d with
 |true=>exact ha aB s1 σ H1 D I1 q1|false=>exact hb aB s1 σ H1 D I1 q1
abbrev TG:=V->St->Hp->(St->Hp->Prop)->Prop
abbrev jO:=List V->St->Hp->(St->Hp->Prop)->Prop
def PG(X:Cx)(target:qw)(t:TG):Prop:=
 ∀ (aB:List (qv×Obj)) (s:qj) (σ:St) (H:Hp) (v:V) (u:qx) (Q:St->Hp->Prop),Inv X aB σ H s->bM v u->t v σ H Q ->
  qk (model X.prog X.w) X.A (assign target X.env u) (λ _ s'=>∃ σ' H',Inv X aB σ' H' s'/\Q σ' H') X.xe s
def sM(X:Cx)(ts:List qw)(t:jO):Prop:=
 ∀ (aB:List (qv×Obj)) (s:qj) (σ:St) (H:Hp) (vs:List V) (us:List qx) (Q:St->Hp->Prop),Inv X aB σ H s->bG vs us->t vs σ H Q ->
  qk (model X.prog X.w) X.A (assignInOrder ((zk ts X.env).map (·.2)) us) (λ _ s'=>∃ σ' H',Inv X aB σ' H' s'/\Q σ' H') X.xe s
abbrev aE9:=V->V->V->Hp->(Hp->Prop)->Prop
def aMJ(X:Cx)(t:aE9):Prop:=
 ∀ (aB:List (qv×Obj)) (s:qj) (σ:St) (H:Hp) (o i v:V) (ov iv u:qx) (Q:Hp->Prop),Inv X aB σ H s->bM o ov->bM i iv->bM v u->t o i v H Q ->
  qk (model X.prog X.w) X.A (setItem ov iv u) (λ _ s'=>∃ H',Inv X aB σ H' s'/\Q H') X.xe s
def pW(i:Nat):TG:=λ v σ H Q=>Q (σ.set i (qq v)) H
def aDU(hN:X.N.Nodup)(hi:X.N[i]?=qq x)(hx:Loc X.env.scope x)(hf:X.fn x=true\/X.env.scope.names.lookup x=qq .local:=by first|exact .inl rfl|exact .inr rfl|assumption):PG X (.Name x pos) (pW i):=by intro aB s σ H v u Q I r h;exact wpAny_assign_Name (aHT I hN hi hx r (λ s' I'=>⟨_,H,I',h⟩) hf)
def aE1:jO:=λ vs σ H Q=>vs=[]/\Q σ H
def aEA(t:TG)(u:jO):jO:=λ vs σ H Q=>∃ v r,vs=v::r/\t v σ H λ σ' H'=>u r σ' H' Q
def aSf:sM X [] aE1:=by intro aB s σ H vs us Q I r h;let(e,h):=h;subst e;cases r;exact assignInOrder_nil ⟨σ,H,I,h⟩
def aQg(h1:PG X e t)(h2:sM X es u)(hs:(zk (e::es) X.env).map (·.2)=assign e X.env::(zk es X.env).map (·.2):=by rfl):sM X (e::es) (aEA t u):=by
 intro aB s σ H vs us Q I r h;let(v,vr,e1,h):=h;subst e1;cases r with
 |cons r rr=>
   rw[hs];refine assignInOrder_cons (bO (h1 aB s σ H _ _ _ I r h) λ _ s1 hPq9=>?_);let(σ1,H1,I1,q1):=hPq9;exact h2 aB s1 σ1 H1 _ _ Q I1 rr q1
def aYX(K:FrG)(n:Nat)(t:jO):TG:=λ v σ H Q=>∃ a xs,v=.ref a/\cQ K H a xs/\↑xs=n/\t xs σ H Q
def aS0{pos:Pos}{es:List qw}{k:Nat}{t:jO}{n:Nat}(hc:X.calm=true)(h:sM X es t)
 (hn:(zk es X.env).length=n:=by rfl) (hst:(zk es X.env).findIdx? (·.1)=qz:=by rfl):PG X (.Tuple es k pos) (aYX X.K n t):=by
 intro aB s σ H v u Q I r hw;let(a,xs,e1,hq,hl,hw):=hw;subst e1;cases r;let(aH,rv,ht,hz):=I.tuple hq;refine assign_Tuple_tuple (I.ok.hd hc) ht (by simp[hn,<- hl,rv.length]) hst λ h' hx=>?_
 have I1:Inv X aB σ H {s with heap:=h' }:=I.kept (t':=s.toks) λ b o e=>hx b o (xAj (xAa e)) e
 exact h aB _ σ H xs _ Q I1 (rv:) hw
def aMc(to ti:TE)(t:aE9):TG:=λ v σ H Q=>to σ H λ o H1=>ti σ H1 λ i H2=>t o i v H2 λ H3=>Q σ H3
def aT5{to ti:TE}(ho:PE X o to)(hi:PE X i ti)(hs:aMJ X t)(ha:∀ v,assign (.Subscript o i pos) X.env v=(do
   let ov <- holding [v] (eval o X.env);let iv <- holding [v,ov] (eval i X.env)
   standAt pos
   holding [v,ov,iv] (setItem ov iv v)
   release [v,ov,iv] []):=by intro _;rfl):PG X (.Subscript o i pos) (aMc to ti t):=by intro aB s σ H v u Q I r h;rw[ha];refine wB (zy (bO (ho aB s σ H _ I h) λ ov s1 hPq10=>?_));let(x,H1,I1,r1,q1):=hPq10;refine wB (zy (bO (hi aB s1 σ H1 _ I1 q1) λ iv s2 hPq11=>?_));let(y,H2,I2,r2,q2):=hPq11;refine wB (yz (wB (zy (bO (hs aB s2 σ H2 x y v ov iv u _ I2 r1 r2 r q2) λ _ s3 hPq12=>?_))));let(H3,I3,q3):=hPq12;exact wpAny_release ⟨σ,H3,I3,q3⟩
def yI(te:TE)(g:TG):TS:=λ D σ H=>te σ H λ x H1=>g x σ H1 D.nx
def aJ0{pos:Pos}{te:TE}(he:PE X e te)(hg:PG X tg g)(hs:swapsWithSole [tg] e pos.line X.env=pure false:=by rfl)(hw:yq [tg] e X.env=pure qz:=by rfl)(h1:(zk [tg] X.env).map (·.2)=[assign tg X.env]:=by rfl):PS X (.Assign [tg] e pos) (yI te g):=by intro aB s σ H D I h;refine wpAny_Assign_stores (bO (he aB s σ H _ I h) λ v s1 hPq13=>?_) hs hw;let(x,H1,I1,r1,q1):=hPq13;rw[h1];exact bO (hg aB s1 σ H1 x v _ I1 r1 q1) λ _ s2 q=>q
def aVt{pos:Pos}{te:TE}(hN:X.N.Nodup)(hi:X.N[i]?=qq x)(hx:Loc X.env.scope x)(he:PE X e te)(hs:swapsWith e (qq (.Name x pos')) pos.line X.env=pure false:=by rfl)(hf:X.fn x=true\/X.env.scope.names.lookup x=qq .local:=by first|exact .inl rfl|exact .inr rfl|assumption) :
 PS X (.Assign [.Name x pos'] e pos) (yI te (pW i)):=by intro aB s σ H D I h;refine wpAny_Assign_Name (bO (he aB s σ H _ I h) λ v s1 hPq14=>?_) hs;let(y,H1,I1,r1,q1):=hPq14;exact aHT I1 hN hi hx r1 (λ s2 I2=>⟨_,H1,I2,q1⟩) hf
structure It where
 go:Nat->Hp->Prop
 yld:Nat->Hp->V->Hp->Prop
 stop:Nat->Hp->Prop
def gM(X:Cx)(aB:List (qv×Obj))(H:Hp)(b:qv):Prop:=
 H b=qz/\b≠X.env.locals/\b ∉ X.fs/\(b∈X.ex\/X.s₀.heap.objs.size<=b)/\(∀ x c,X.env.cells.lookup x=qq c->c≠b)/\∀ p∈X.pn++aB,p.1≠b
def Inv.fpOk(I:Inv X aB σ H s)(hb:s.heap.objs.size<=b)(hn:H' b=qz):gM X aB H' b:=by
 refine⟨hn,yGd (xAb I.lt hb),I.nofs hb,.inr (xAh I.sz hb),λ x c e z=>?_,λ p hp z=>?_⟩
 ·let(v,q):=I.cell x c e;exact absurd (xAb q.lt (by rw[z];exact hb)) (yCg _)
 ·exact absurd (xAb (xAa (I.pin p hp).1) (by rw[z];exact hb)) (yCg _)
structure Turn(P:zq)(w:zx)(K:FrG)(tg:qw)(J:It)(fp:List qv)(it:qv)(tn:Nat->Heap->Prop):Prop where
 mem:it∈fp
 obj:∀ i h,tn i h->∀ b∈fp,∃ o,h.get? b=qq o/\∀ v,o.data≠.cell v
 keep:∀ i h h',tn i h->(∀ b∈fp,∀ o,h.get? b=qq o->h'.get? b=qq o)->tn i h'
 item:∀ (X:Cx),X.prog=P->X.w=w->X.K=K->X.calm=true->∀ (i:Nat) (aB:List (qv×Obj)) (s:qj) (σ:St) (H:Hp) (E:qx->qj->Prop),Inv X aB σ H s->(∀ b∈fp,gM X aB H b)->tn i s.heap->J.go i H ->
  qk (model P w) X.A (yv (.ref it)) (λ r s1=>∃ u,r=qq u /\
   qk (model P w) X.A (vy tg (.ref it) u) (λ _ s2=>∃ x H',Inv X aB σ H' s2/\bM x u/\J.yld i H x H'/\tn (i+1) s2.heap/\∀ b∈fp,H' b=qz) E s1) E s
 done:∀ (X:Cx),X.prog=P->X.w=w->X.K=K->X.calm=true->∀ (i:Nat) (aB:List (qv×Obj)) (s:qj) (σ:St) (H:Hp) (E:qx->qj->Prop),Inv X aB σ H s->(∀ b∈fp,gM X aB H b)->tn i s.heap->J.stop i H ->
  qk (model P w) X.A (yv (.ref it)) (λ r s1=>r=qz/\Inv X aB σ H s1) E s
 self:∀ (A:zj) (i:Nat) (s:qj) (Q:qx->qj->Prop) (E:qx->qj->Prop),tn i s.heap->Q (.ref it) s->qk (model P w) A (pyIter (.ref it)) Q E s
abbrev TI:=St->Hp->(It->Hp->Prop)->Prop
def PIE(X:Cx)(aB:List (qv×Obj))(σ:St)(tg:qw)(R:It->Hp->Prop)(itv:qx)(s2:qj):Prop:=
 ∃ (it:qv) (fp:List qv) (tn:Nat->Heap->Prop) (J:It) (H':Hp),itv=.ref it/\Inv X aB σ H' s2/\Turn X.prog X.w X.K tg J fp it tn/\tn 0 s2.heap/\(∀ b∈fp,gM X aB H' b)/\R J H'
def PI(X:Cx)(tg iter:qw)(wi:TI):Prop:=
 ∀ (aB:List (qv×Obj)) (s:qj) (σ:St) (H:Hp) (R:It->Hp->Prop),Inv X aB σ H s->wi σ H R ->
  qk (model X.prog X.w) X.A (eval iter X.env) (λ v s1=>qk (model X.prog X.w) X.A (pyIter v) (PIE X aB σ tg R) X.xe s1) X.xe s
def aBG{E:qx->qj->Prop}{s:qj}{Q:Unit->qj->Prop}(ho:s.heap.get? it=qq o)(hc:o.cls=.type n)(hd:o.data=.fields vs)(hn:["enumerate","zip","dict_itemiterator","dict_reverseitemiterator","odict_iterator","itertools.zip_longest","itertools.pairwise"].contains n=false)(hQ:Q () s):qk M A (vy tg (.ref it) u) Q E s:=by
 unfold vy;cases tg<;>first
  |exact wP hQ
  | (cases u<;>first
      |exact wP hQ
      | (refine wB (wpAny_load ho ?_)
         rw[hc,hd];show qk M A (if (["enumerate","zip","dict_itemiterator","dict_reverseitemiterator","odict_iterator","itertools.zip_longest","itertools.pairwise"].contains n&&vs[0]?==qq (yj _))=true then _ else _) Q E s;rw[if_neg (by intro h;rw[hn,yAv] at h;cases h)]
         exact wP hQ))
def Itl(K:FrG)(a:qv):It:=
 ⟨λ i H=>∃ xs x,cK K H a xs/\xs[i]?=qq x,λ i H x H'=>H'=H/\∀ xs,cK K H a xs->xs[i]?=qq x,λ i H=>∃ xs,cK K H a xs/\↑xs<=i⟩
def Itt(K:FrG)(a:qv):It:=
 ⟨λ i H=>∃ xs x,cQ K H a xs/\xs[i]?=qq x,λ i H x H'=>H'=H/\∀ xs,cQ K H a xs->xs[i]?=qq x,λ i H=>∃ xs,cQ K H a xs/\↑xs<=i⟩
def Itr(lo:Int)(n:Nat):It:=⟨λ i _=>i<n,λ i H x H'=>H'=H/\x=.int (lo+i),λ i _=>n<=i⟩
def aPr(a it:qv):Turn P w K tg (Itl K a) [it] it (λ i h=>h.IsListIter it a i) where
 mem:=by simp
 obj:=λ i h st b hb=>by
  have e:b=it:=(hb:)
  subst e;let(o,e,c,d):=st;exact⟨o,e,λ v z=>by rw[d] at z;cases z⟩
 keep:=λ i h h' st k=>st.at λ o e=>k it (by simp) o e
 item:=by
  intro X hP hw hK hc i aB s σ H E I hf st hg;subst hP hw hK;let(xs,x,hq,hx):=hg;let(aH,rv,p,hz):=I.list hq;let(u,hu,ru):=rv.get hx;let(f0,f1,f2,f3,f4,f5):=hf it (by simp);refine vj st p.isList (x:=u) (hu:) λ h' st' sb=>?_
  have I1:Inv X aB σ H {s with heap:=h' }:=I.turned (t':=s.toks) (λ b o hb e=>(sb.2 b hb).trans e) f0 f1 f3 f4 f5;let(o,e,c,d):=id st';exact⟨u,rfl,aBG (s:={s with heap:=h' }) e c d (·) ⟨x,H,I1,ru,⟨rfl,λ ys hy=>by rw[I.list_inj hy hq];exact hx⟩,st',λ b hb=>(hf b hb).1⟩⟩
 done:=by
  intro X hP hw hK hc i aB s σ H E I hf st hg;subst hP hw hK;let(xs,hq,hx):=hg;let(aH,rv,p,hz):=I.list hq;let(f0,f1,f2,f3,f4,f5):=hf it (by simp);have hl:=rv.length;exact vv (I.ok.hd hc) st p.isList (by simp;omega) λ h' eb=>⟨rfl,I.turned (t':=s.toks) (λ b o hb e=>eb b o hb e) f0 f1 f3 f4 f5⟩
 self:=λ _ _ _ _ _ st h=>wpAny_pyIter_listiter st h
def aOl(a it:qv):Turn P w K tg (Itt K a) [it] it (λ i h=>h.IsTupleIter it a i) where
 mem:=by simp
 obj:=λ i h st b hb=>by
  have e:b=it:=(hb:)
  subst e;let(o,e,c,d):=st;exact⟨o,e,λ v z=>by rw[d] at z;cases z⟩
 keep:=λ i h h' st k=>st.at λ o e=>k it (by simp) o e
 item:=by
  intro X hP hw hK hc i aB s σ H E I hf st hg;subst hP hw hK;let(xs,x,hq,hx):=hg;let(aH,rv,p,hz):=I.tuple hq;let(u,hu,ru):=rv.get hx;let(f0,f1,f2,f3,f4,f5):=hf it (by simp);refine wpAny_pyNext_tuple_item st (show s.heap.IsTuple a aH.toArray from p) (x:=u) (hu:) λ h' st' sb=>?_
  have I1:Inv X aB σ H {s with heap:=h' }:=I.turned (t':=s.toks) (λ b o hb e=>(sb.2 b hb).trans e) f0 f1 f3 f4 f5;let(o,e,c,d):=id st';exact⟨u,rfl,aBG (s:={s with heap:=h' }) e c d (·) ⟨x,H,I1,ru,⟨rfl,λ ys hy=>by rw[I.tuple_inj hy hq];exact hx⟩,st',λ b hb=>(hf b hb).1⟩⟩
 done:=by
  intro X hP hw hK hc i aB s σ H E I hf st hg;subst hP hw hK;let(xs,hq,hx):=hg;let(aH,rv,p,hz):=I.tuple hq;let(f0,f1,f2,f3,f4,f5):=hf it (by simp);have hl:=rv.length;exact wpAny_pyNext_tuple_end (I.ok.hd hc) st (show s.heap.IsTuple a aH.toArray from p) (by simp;omega) λ h' eb=>⟨rfl,I.turned (t':=s.toks) (λ b o hb e=>eb b o hb e) f0 f1 f3 f4 f5⟩
 self:=λ _ _ _ _ _ st h=>wpAny_pyIter_tupleiter st h
def aOb(it:qv)(lo:Int)(n:Nat):Turn P w K tg (Itr lo n) [it] it (λ i h=>yk h it (lo+(i:Nat)*1) ((n:Int)-(i:Nat)) 1) where
 mem:=by simp
 obj:=λ i h st b hb=>by
  have e:b=it:=(hb:)
  subst e;exact⟨_,st,λ v z=>by
   have z':Data.fields _=Data.cell v:=z;cases z'⟩
 keep:=λ i h h' st k=>k it (by simp) _ st
 item:=by
  intro X hP hw hK hc i aB s σ H E I hf st hg;subst hP hw hK;let(f0,f1,f2,f3,f4,f5):=hf it (by simp);have W:=Walks.range (prog:=X.prog) (w:=X.w) (I.ok.hd hc) it lo 1 n;refine W.item i s _ _ hg st λ v h' tk hv st' kk=>?_
  let(t,rfl):=hv;have I1:Inv X aB σ H {s with heap:=h',toks:=tk }:=I.turned (λ b o hb e=>kk b o (hb:) e) f0 f1 f3 f4 f5;refine⟨_,rfl,aBG (s:={s with heap:=h',toks:=tk }) (n:="range_iterator") st' rfl rfl (·) ⟨.int (lo+i),H,I1,⟨t,?_⟩,⟨rfl,rfl⟩,st',λ b hb=>(hf b hb).1⟩⟩;rw[Int.mul_one]
 done:=by
  intro X hP hw hK hc i aB s σ H E I hf st hg;subst hP hw hK;let(f0,f1,f2,f3,f4,f5):=hf it (by simp);exact wpAny_pyNext_range_end (I.ok.hd hc) st (by have:n<=i:=hg;omega) λ h' eb=>⟨rfl,I.turned (t':=s.toks) (λ b o hb e=>eb b o hb e) f0 f1 f3 f4 f5⟩
 self:=λ _ _ _ _ _ st h=>yw st h
end L2
namespace L2
open PySem PySem.Spec PyProof.Rows
def aXL(K:FrG)(tl:TE):TI:=λ σ H R=>tl σ H λ x H1=>∃ a,x=.ref a/\(∃ xs,cK K H1 a xs)/\R (Itl K a) H1
def aZB(K:FrG)(tl:TE):TI:=λ σ H R=>tl σ H λ x H1=>∃ a,x=.ref a/\(∃ xs,cQ K H1 a xs)/\R (Itt K a) H1
def aRH{tl:TE}(hl:PE X l tl):PI X tg l (aXL X.K tl):=by
 intro aB s σ H R I h;refine bO (hl aB s σ H _ I h) λ v s1 hPq15=>?_
 let(x,H1,I1,r1,q1):=hPq15;let(a,e,(xs,hq),q):=q1;subst e;cases r1;let(aH,rv,p,hz):=I1.list hq;refine jq p.isList ?_;refine⟨s1.heap.objs.size,[s1.heap.objs.size],_,_,H1,rfl,I1.kept (t':=s1.toks) λ b o e=>hpS _ e,aPr a _,⟨_,xAd _ rfl,rfl,rfl⟩,λ b hb=>?_,q⟩;have e:b=s1.heap.objs.size:=(hb:)
 subst e;exact I1.fpOk (yAd _) (I1.hok.fresh (yAd _))
def aTh{tl:TE}(hl:PE X l tl):PI X tg l (aZB X.K tl):=by
 intro aB s σ H R I h;refine bO (hl aB s σ H _ I h) λ v s1 hPq16=>?_
 let(x,H1,I1,r1,q1):=hPq16;let(a,e,(xs,hq),q):=q1;subst e;cases r1;let(aH,rv,p,hz):=I1.tuple hq;refine wpAny_pyIter_tuple (show s1.heap.IsTuple a aH.toArray from p) ?_;refine⟨s1.heap.objs.size,[s1.heap.objs.size],_,_,H1,rfl,I1.kept (t':=s1.toks) λ b o e=>hpS _ e,aOl a _,⟨_,xAd _ rfl,rfl,rfl⟩,λ b hb=>?_,q⟩;have e:b=s1.heap.objs.size:=(hb:)
 subst e;exact I1.fpOk (yAd _) (I1.hok.fresh (yAd _))
def aPK{R:It->Hp->Prop}{E:qx->qj->Prop}{lo hi:Int}(I:Inv X aB σ H s)(h1 : -(2^62)<=lo)(h2:lo<2^62)(h3 : -(2^62)<=hi)(h4:hi<2^62)(q:R (Itr lo (hi-lo).toNat) H):qk (model X.prog X.w) X.A (pyIter (.ref s.heap.objs.size)) (PIE X aB σ tg R) E {s with heap:=s.heap.push {cls:=.type "range",data:=.fields #[.int lo t,.int hi u,.int 1 v] },toks:=tk }:=by
 refine wpAny_pyIter_range (IsRange.new ..) (small_one h1 h2 h3 h4) ?_;have I1:Inv X aB σ H {s with heap:=s.heap.push {cls:=.type "range",data:=.fields #[.int lo t,.int hi u,.int 1 v] },toks:=tk }:=I.kept λ b o e=>hpS _ e
 refine⟨(s.heap.push {cls:=.type "range",data:=.fields #[.int lo t,.int hi u,.int 1 v] }).objs.size,[(s.heap.push {cls:=.type "range",data:=.fields #[.int lo t,.int hi u,.int 1 v] }).objs.size],_,_,H,rfl,
  I1.kept (t':=tk) λ b o e=>hpS _ e,aOb _ lo (hi-lo).toNat,?_,λ b hb=>?_,q⟩
 ·have e1:lo+((0:Nat):Int)*1=lo:=by simp
  have e2:(((hi-lo).toNat:Nat):Int)-((0:Nat):Int)=yEi lo hi 1:=by rw[rangeSize_one];split<;>omega
  show yk _ _ (lo+((0:Nat):Int)*1) ((((hi-lo).toNat:Nat):Int)-((0:Nat):Int)) 1;rw[e1,e2];exact xAd _ rfl
 ·have e:b=(s.heap.push {cls:=.type "range",data:=.fields #[.int lo t,.int hi u,.int 1 v] }).objs.size:=(hb:)
  subst e;exact I1.fpOk (yAd _) (I1.hok.fresh (yAd _))
def aL2(ta:TA):TI:=λ σ H R=>ta σ H λ vs H1=>∃ j:Int,vs=[.int j] /\ -(2^62)<=j/\j<2^62/\R (Itr 0 j.toNat) H1
def aOV{ta:TA}(hg:Gl X "range")(hm:X.mg "range" = qz)(ha:PA X [a] ta)(hs:qu [a] X.env=[(false,eval a X.env)]:=by rfl):PI X tg (.Call (.Name "range" p) [a] [] pos) (aL2 ta):=by
 intro aB s σ H R I h;refine Call_ (pH I hg hm boot_range (yBv (bO (ha pos aB s σ H _ I h) λ us s1 hPq17=>?_) hs rfl));let(vs,H1,I1,r1,q1):=hPq17;let(j,e,q1,q2,q):=q1;subst e;cases r1 with
 |cons r rr=>
   cases rr;let(t,rfl):=r;exact call_range_1 (aPK I1 (!_) (!_) q1 q2 (q:))
def aZn(wi:TI)(g:TG)(tb:TS):TS:=λ D σ H=>wi σ H λ J H1=>∃ W:Nat->Nat->St->Hp->Prop,(∃ m,W 0 m σ H1)/\∀ i m σ H,W i m σ H ->
 (J.stop i H/\D.nx σ H)\/(J.go i H/\∃ N:St->Hp->Prop,(∀ σ' H',N σ' H'->∃ m',m'<m/\W (i+1) m' σ' H')/\∀ x H',J.yld i H x H'->g x σ H' λ σ2 H2=>tb {D with nx:=N,ct:=N,bk:=D.nx } σ2 H2)
def xO(fp:List qv)(h:Heap):List (qv×Obj):=fp.filterMap λ b=>(h.get? b).map λ o=>(b,o)
def vU{h:Heap}(hb:b∈fp)(e:h.get? b=qq o):(b,o)∈xO fp h:=List.mem_filterMap.mpr ⟨b,hb,by rw[e];rfl⟩
def aPv(hp:p∈xO fp h):p.1∈fp/\h.get? p.1=qq p.2:=by
 let(b,hb,e):=List.mem_filterMap.mp hp;cases q:h.get? b with
 |none=>rw[q] at e;cases e
 |some o=>
   rw[q] at e;have e':(b,o)=p:=Option.some.inj e;subst e';exact⟨hb,q⟩
def Inv.pinned(I:Inv X aB σ H s)(hf:∀ b∈fp,gM X aB H b)(ho:∀ b∈fp,∃ o,s.heap.get? b=qq o/\∀ v,o.data≠.cell v):Inv X (aB++xO fp s.heap) σ H s:=
 I.pins_of λ p hp=>(List.mem_append.mp hp).elim (λ z=>I.pin p (xAp _ z)) λ z=>by
  let(hb,e):=aPv z;let(f0,f1,f2,_):=hf p.1 hb;let(o,e',d):=ho p.1 hb;rw[e] at e';cases e';exact⟨e,f0,f1,f2,d⟩
def Inv.unpinned(I:Inv X (aB++pl) σ H s):Inv X aB σ H s:=I.pins_of λ p hp=>I.pin p (xAp _ (List.mem_append_left _ hp))
def aVG{X:Cx}{wi:TI}(hp:PassesOwn (model X.prog X.w) X.A X.env X.xe)(hc:X.calm=true)(hi:PI X tg iter wi)(hg:PG X tg g)(hb:eE X body tb)(hs:∀ x,xk iter X.env x=pure x:=by intro _;rfl):PS X (.For tg iter body [] pos) (aZn wi g tb):=by
 intro aB s σ H D I h;refine wpAny_For (bO (hi aB s σ H _ I h) λ v s1 h1=>bO h1 λ itv s2 h2=>?_) hs;let(it,fp,tn,J,H2,e,I2,T,st2,f2,W,(m0,w0),turn):=h2;subst e;have stat:∀ {H':Hp},(∀ b∈fp,H' b=qz)->∀ b∈fp,gM X aB H' b:=λ hn b hb=>⟨hn b hb,(f2 b hb).2⟩
 refine codeAny_forLoop_any (λ n s'=>∃ i σ' H',Inv X aB σ' H' s'/\tn i s'.heap/\(∀ b∈fp,H' b=qz)/\W i n σ' H') ?_ m0 ⟨0,σ,H2,I2,st2,λ b hb=>(f2 b hb).1,w0⟩;rintro n s3 ⟨i,σ3,H3,I3,st3,fr3,w3⟩;rcases turn i n σ3 H3 w3 with ⟨stop,qn⟩|⟨go,N,hN,step⟩
 ·refine jo hp (bO (T.done X rfl rfl rfl hc i aB s3 σ3 H3 X.xe I3 (stat fr3) st3 stop) λ r s4 hPq18=>?_);let(hr,I4):=hPq18;subst hr;exact wpAny_execs_nil ⟨σ3,H3,I4,qn⟩
 ·refine jo hp (bO (T.item X rfl rfl rfl hc i aB s3 σ3 H3 X.xe I3 (stat fr3) st3 go) λ r s4 hPq19=>?_);let(u,hr,h4):=hPq19;subst hr;refine jo hp (bO h4 λ _ s5 hPq20=>?_);let(x,H5,I5,r5,y5,st5,fr5):=hPq20;have I5':=I5.pinned (stat fr5) (T.obj _ _ st5);refine jo hp (bO (hg _ s5 σ3 H5 x u _ I5' r5 (step x H5 y5)) λ _ s6 hPq21=>?_);let(σ6,H6,I6,q6):=hPq21;refine jo hp (bO (hb _ s6 σ6 H6 _ I6 q6) λ f s7 q7=>?_);have again:∀ {σ7:St}{H7:Hp},Inv X (aB++xO fp s5.heap) σ7 H7 s7->N σ7 H7->∃ m,m<n/\∃ i σ' H',Inv X aB σ' H' s7/\tn i s7.heap/\(∀ b∈fp,H' b=qz)/\W i m σ' H':=λ {σ7 H7} I7 n7=>by
   let(m',hm,w7):=hN σ7 H7 n7;refine⟨m',hm,i+1,σ7,H7,I7.unpinned,T.keep _ _ _ st5 λ b hb o e=>(I7.pin (b,o) (xAp _ (xAp _ (vU hb e)))).1,λ b hb=>?_,w7⟩;let(o,e,d):=T.obj _ _ st5 b hb;exact(I7.pin (b,o) (xAp _ (xAp _ (vU hb e)))).2.1
  cases f with
  |next=>let(σ7,H7,I7,n7):=q7;exact again I7 n7
  |cont=>let(σ7,H7,I7,n7):=q7;exact again I7 n7
  |brk=>let(σ7,H7,I7,q7):=q7;exact⟨σ7,H7,I7.unpinned,q7⟩
  |ret v=>let(x7,σ7,H7,I7,r7,q7):=q7;exact⟨x7,σ7,H7,I7.unpinned,r7,q7⟩
end L2
namespace L2
open PySem PySem.Spec PyProof.Rows
abbrev R2:=V->V->Hp->VK->Prop
def dE(X:Cx)(f:qx->qx->Sem qx)(r:R2):Prop:=
 ∀ (aB:List (qv×Obj)) (s:qj) (σ:St) (H:Hp) (x y:V) (v u:qx) (Q:VK),Inv X aB σ H s->bM x v->bM y u->r x y H Q ->
  qk (model X.prog X.w) X.A (f v u) (EP X aB σ Q) X.xe s
def UnR(X:Cx)(f:qx->Sem qx)(r:V->Hp->VK->Prop):Prop:=
 ∀ (aB:List (qv×Obj)) (s:qj) (σ:St) (H:Hp) (x:V) (v:qx) (Q:VK),Inv X aB σ H s->bM x v->r x H Q ->
  qk (model X.prog X.w) X.A (f v) (EP X aB σ Q) X.xe s
def fK(X:Cx)(f:qx)(r:List V->Hp->VK->Prop):Prop:=
 ∀ (aB:List (qv×Obj)) (s:qj) (σ:St) (H:Hp) (xs:List V) (us:List qx) (Q:VK),Inv X aB σ H s->bG xs us->r xs H Q ->
  qk (model X.prog X.w) X.A (call f us) (EP X aB σ Q) X.xe s
def aZz(X:Cx)(r:V->Hp->(Bool->Hp->Prop)->Prop):Prop:=
 ∀ (aB:List (qv×Obj)) (s:qj) (σ:St) (H:Hp) (x:V) (v:qx) (Q:Bool->Hp->Prop),Inv X aB σ H s->bM x v->r x H Q ->
  qk (model X.prog X.w) X.A (truthy v) (TP X aB σ Q) X.xe s
def zN(r:R2)(ta tb:TE):TE:=λ σ H Q=>ta σ H λ x H1=>tb σ H1 λ y H2=>r x y H2 Q
def tUn(r:V->Hp->VK->Prop)(ta:TE):TE:=λ σ H Q=>ta σ H λ x H1=>r x H1 Q
def rI(C:Int->Int->Prop)(g:Int->Int->V):R2:=λ x y H Q=>∃ i j,x=.int i/\y=.int j/\C i j/\Q (g i j) H
def kF(g:Int->Int->V):R2:=λ x y H Q=>∃ i j,x=.int i/\y=.int j/\Q (g i j) H
def rU(g:Int->V):V->Hp->VK->Prop:=λ x H Q=>∃ i,x=.int i/\Q (g i) H
def aFf{ta tb:TE}(ha:PE X a ta)(hb:PE X b tb){R:V->V->Hp->Prop}(I:Inv X aB σ H s)(h:ta σ H λ x H1=>tb σ H1 λ y H2=>R x y H2){Q:qx->qj->Prop}{f:qx->qx->Sem qx}(hf:∀ v u s2 x y H2,Inv X aB σ H2 s2->bM x v->bM y u->R x y H2->qk (model X.prog X.w) X.A (f v u) Q X.xe s2) :
 qk (model X.prog X.w) X.A (eval a X.env) (λ v s₁=>qk (model X.prog X.w) X.A (eval b X.env) (λ u s₂=>qk (model X.prog X.w) X.A (f v u) Q X.xe s₂) X.xe s₁) X.xe s:=by
 refine bO (ha aB s σ H _ I h) λ v s1 hPq22=>?_
 let(x,H1,I1,r1,q1):=hPq22;refine bO (hb aB s1 σ H1 _ I1 q1) λ u s2 hPq23=>?_
 let(y,H2,I2,r2,q2):=hPq23;exact hf v u s2 x y H2 I2 r1 r2 q2
def aLN{ta tb:TE}{r:R2}(ho:dE X (zw op) r)(ha:PE X a ta)(hb:PE X b tb):PE X (.BinOp a op b pos) (zN r ta tb):=by intro aB s σ H Q I h;exact wpAny_BinOp (aFf ha hb I h λ v u s2 x y H2 I2 rx ry q=>ho aB s2 σ H2 x y v u Q I2 rx ry q)
def aWM{ta:TE}{r:V->Hp->VK->Prop}(ho:UnR X (unaryOp op) r)(ha:PE X a ta):PE X (.UnaryOp op a pos) (tUn r ta):=by intro aB s σ H Q I h;exact UnaryOp_ (bO (ha aB s σ H _ I h) λ v s1 ⟨x,H1,I1,r1,q1⟩=>ho aB s1 σ H1 x v Q I1 r1 q1)
variable {X:Cx}
def zR{f:qx->qx->Sem qx}{C:Int->Int->Prop}{g:Int->Int->Int}(rule:∀ (i j:Int) (t u:Tok) (s:qj) (Q:qx->qj->Prop) (E:qx->qj->Prop),C i j->Q (.int (g i j) s.toks) {s with toks:=s.toks+1 }->qk (model X.prog X.w) X.A (f (.int i t) (.int j u)) Q E s) :
 dE X f (rI C λ i j=>.int (g i j)):=by intro aB s σ H x y v u Q I rx ry h;let(i,j,rfl,rfl,hc,q):=h;let(t,rfl):=rx;let(t',rfl):=ry;exact rule i j t t' s _ _ hc ⟨.int (g i j),H,I.tok _,⟨_,rfl⟩,q⟩
def yJ{f:qx->qx->Sem qx}{g:Int->Int->Int}(rule:∀ (i j:Int) (t u:Tok) (s:qj) (Q:qx->qj->Prop) (E:qx->qj->Prop),Q (.int (g i j) s.toks) {s with toks:=s.toks+1 }->qk (model X.prog X.w) X.A (f (.int i t) (.int j u)) Q E s) :
 dE X f (kF λ i j=>.int (g i j)):=by intro aB s σ H x y v u Q I rx ry h;let(i,j,rfl,rfl,q):=h;let(t,rfl):=rx;let(t',rfl):=ry;exact rule i j t t' s _ _ ⟨.int (g i j),H,I.tok _,⟨_,rfl⟩,q⟩
def aB2{f:qx->qx->Sem qx}{g:Int->Int->Bool}(rule:∀ (i j:Int) (t u:Tok) (s:qj) (Q:qx->qj->Prop) (E:qx->qj->Prop),Q (.bool (g i j)) s->qk (model X.prog X.w) X.A (f (.int i t) (.int j u)) Q E s) :
 dE X f (kF λ i j=>.bl (g i j)):=by intro aB s σ H x y v u Q I rx ry h;let(i,j,rfl,rfl,q):=h;let(t,rfl):=rx;let(t',rfl):=ry;exact rule i j t t' s _ _ ⟨.bl (g i j),H,I,rfl,q⟩
def aZb(i j:Int):Prop:=0<=j/\j<=1000000/\i.natAbs<2^64
def aOk(k:Nat):(0:Int)<=2^k:=by rw[two_pow_cast];exact yGr _
def aUd:dE X (zw .Add) (kF λ i j=>.int (i+j)):=yJ λ _ _ _ _ _ _ _ q=>add_int q
def aVE:dE X (zw .Sub) (kF λ i j=>.int (i-j)):=yJ λ _ _ _ _ _ _ _ q=>sub_int q
def aRO:dE X (zw .Mod) (rI (λ _ j=>j≠0) λ i j=>.int (i.fmod j)):=zR λ _ _ _ _ _ _ _ hc q=>mod_int' hc q
def aTA:dE X (zw .Pow) (rI aZb λ i j=>.int (i^j.toNat)):=zR λ _ _ _ _ _ _ _ hc q=>pow_int_small hc.1 hc.2.1 hc.2.2 q
def aTE:dE X (zw .RShift) (rI (λ _ j=>0<=j) λ i j=>.int (i/2^j.toNat)):=zR λ i j _ _ _ _ _ hc q=>
 rshift_int hc (by rw[Int.fdiv_eq_ediv_of_nonneg i (aOk _)];exact q)
def aTJ:dE X (zw .BitAnd) (kF λ i j=>.int (yEq i j)):=yJ λ _ _ _ _ _ _ _ q=>and_int q
def aWt:dE X (zw .BitOr) (kF λ i j=>.int (yHm i j)):=yJ λ _ _ _ _ _ _ _ q=>or_int q
def aVm:dE X (zw .BitXor) (kF λ i j=>.int (yHc i j)):=yJ λ _ _ _ _ _ _ _ q=>xor_int q
def unI{f:qx->Sem qx}{g:Int->Int}(rule:∀ (i:Int) (t:Tok) (s:qj) (Q:qx->qj->Prop) (E:qx->qj->Prop),Q (.int (g i) s.toks) {s with toks:=s.toks+1 }->qk (model X.prog X.w) X.A (f (.int i t)) Q E s) :
 UnR X f (rU λ i=>.int (g i)):=by intro aB s σ H x v Q I rx h;let(i,rfl,q):=h;let(t,rfl):=rx;exact rule i t s _ _ ⟨.int (g i),H,I.tok _,⟨_,rfl⟩,q⟩
def aUG:UnR X (unaryOp .USub) (rU λ i=>.int (-i)):=unI λ _ _ _ _ _ q=>neg_int q
def aVa:UnR X (unaryOp .Invert) (rU λ i=>.int (yBt i)):=unI λ _ _ _ _ _ q=>invert_int q
def aBe{Q:VK}(I:Inv X aB σ H s)(q:Q (.bl k) H)(e:k=k'):EP X aB σ Q (.bool k') s:=by subst e;exact⟨.bl k,H,I,rfl,q⟩
def aWl:dE X (xw .Lt) (kF λ i j=>.bl (decide (i<j))):=aB2 λ _ _ _ _ _ _ _ q=>lt_int q
def aXp:dE X (xw .LtE) (kF λ i j=>.bl (decide (i<=j))):=aB2 λ _ _ _ _ _ _ _ q=>le_int q
def aXg:dE X (xw .Gt) (kF λ i j=>.bl (decide (j<i))):=aB2 λ _ _ _ _ _ _ _ q=>gt_int q
def aX6:dE X (xw .GtE) (kF λ i j=>.bl (decide (j<=i))):=aB2 λ _ _ _ _ _ _ _ q=>ge_int q
def aST:dE X (xw .Is) (λ x y H Q=>y=.non/\Q (.bl (decide (x=.non))) H):=by
 intro aB s σ H x y v u Q I rx ry h;let(rfl,q):=h;cases ry;refine is_none_gen (aBe I q ?_);cases x<;>first
  |(cases rx;rfl)
  |(let(t,rfl):=rx;rfl)
def aSb:dE X (xw .IsNot) (λ x y H Q=>y=.non/\Q (.bl (!decide (x=.non))) H):=by
 intro aB s σ H x y v u Q I rx ry h;let(rfl,q):=h;cases ry;refine isnot_none_gen (aBe I q ?_);cases x<;>first
  |(cases rx;rfl)
  |(let(t,rfl):=rx;rfl)
def bAd(b:qw)(h:op≠.In:=by decide)(h2:op≠.NotIn:=by decide):jx op b=false:=by
 have e1:(op==CmpOp.In)=false:=by cases op<;>first|rfl|exact absurd rfl h
 have e2:(op==CmpOp.NotIn)=false:=by cases op<;>first|rfl|exact absurd rfl h2
 cases b<;>simp[jx,e1,e2]
def aRZ{ta tb:TE}{r:R2}(ho:dE X (xw op) r)(ha:PE X a ta)(hb:PE X b tb)(hm:jx op b=false):PE X (.Compare a [op] [b] pos) (zN r ta tb):=by intro aB s σ H Q I h;exact wpAny_Compare1 (aFf ha hb I h λ v u s2 x y H2 I2 rx ry q=>ho aB s2 σ H2 x y v u Q I2 rx ry q) hm
def aXM(t:TE):TT:=λ σ H Q=>t σ H λ x H'=>∃ k,x=.bl k/\Q k H'
def aRq{ta tb:TE}{r:R2}(ho:dE X (xw op) r)(ha:PE X a ta)(hb:PE X b tb)(hm:jx op b=false):PT X (.Compare a [op] [b] pos) (aXM (zN r ta tb)):=by
 intro aB s σ H Q I h;refine wpAny_isTrue_Compare1 (bO (ha aB s σ H _ I h) λ v s1 ⟨x,H1,I1,r1,q1⟩=>bO (hb aB s1 σ H1 _ I1 q1) λ u s2 ⟨y,H2,I2,r2,q2⟩=>
  bO (ho aB s2 σ H2 x y v u _ I2 r1 r2 q2) λ c s3 ⟨z,H3,I3,r3,k,e,q3⟩=>?_) hm
 subst e;cases r3;exact xu ⟨H3,I3,q3⟩
def aE2(K:FrG)(x:V)(H:Hp)(k:Bool):Prop:=
 match x with
 |.non=>k=false|.bl b=>k=b|.int i=>k=(i != 0)|.str y=>y.length<=qy/\k=((y.length:Int) != 0)|.byt y=>y.size<=qy/\k=((y.size:Int) != 0)|.ref p=>(∃ xs,cK K H p xs/\k = !xs.isEmpty)\/(∃ xs,cQ K H p xs/\k = !xs.isEmpty)\/∃ bL,H p=qq (.dK bL)/\k = !bL.isEmpty|_=>False
def aOt{κ:Type}{bL:List (κ×V)}{vs:List (κ×qx)}(r:KV bL vs):(!vs.isEmpty) = !bL.isEmpty:=by cases r<;>rfl
def aGJ{xs:List V}(r:bG xs aH):(!aH.toArray.isEmpty) = !xs.isEmpty:=by cases r<;>simp
def rF:(qy:Nat)<2^63:=by rw[qo];decide
def aS2:aZz X (λ x H Q=>∃ k,aE2 X.K x H k/\Q k H):=by
 intro aB s σ H x v Q I rx h;let(k,e,q):=h;have hl:=rF;have hs:qy=16777216:=qo;cases x with
 |non=>
   cases rx;have e':k=false:=e;subst e';exact truthy_none ⟨H,I,q⟩
 |bl b=>
   cases rx;have e':k=b:=e;subst e';exact xu ⟨H,I,q⟩
 |int i=>
   let(t,rfl):=rx;have e':k=(i != 0):=e;subst e';exact PySem.P.truthy_int ⟨H,I,q⟩
 |str y=>
   let(t,rfl):=rx;obtain⟨hy,e'⟩:y.length<=qy/\k=((y.length:Int) != 0):=e;subst e';exact PySem.P.truthy_str (!_) ⟨H,I.tok _,q⟩
 |byt y=>
   let(t,rfl):=rx;obtain⟨hy,e'⟩:y.size<=qy/\k=((y.size:Int) != 0):=e;subst e';exact PySem.W.truthy_bytes (!_) ⟨H,I.tok _,q⟩
 |ref p=>
   cases rx;have e':(∃ xs,cK X.K H p xs/\k = !xs.isEmpty)\/(∃ xs,cQ X.K H p xs/\k = !xs.isEmpty)\/∃ bL,H p=qq (.dK bL)/\k = !bL.isEmpty:=e;rcases e' with ⟨xs,hx,e'⟩|⟨xs,hx,e'⟩|⟨bL,hx,e'⟩
   ·subst e';let(aH,r,pl,hz):=I.list hx;have cY:=r.length;exact wpAny_truthy_list pl.isList (by simp only[yAi];omega) ⟨H,I.tok _,by rw[aGJ r];exact q⟩
   ·subst e';let(aH,r,pl,hz):=I.tuple hx;have cY:=r.length;exact truthy_tuple pl (by simp only[yAi];omega) ⟨H,I.tok _,by rw[aGJ r];exact q⟩
   ·subst e';obtain⟨hz,hS,vs,r,m⟩:bL.length<=qy/\(p==sysModules)=false/\∃ vs,KV bL vs/\s.heap.DictOf (oW X.prog X.w) p vs:=I.hok p _ hx;have cY:bL.length=↑vs:=Paired.length r;exact wpAny_truthy_dict hS m (!_) ⟨H,I.tok _,by rw[aOt r];exact q⟩
 |_=>exact(show False from e).elim
def aPA{ta:TE}(ha:PE X a ta)(he:∀ fR,isTrue a X.env fR=(do let v <- fR;standAt a.pos;holding [v] (truthy v))) :
 PT X a (λ σ H Q=>ta σ H λ x H'=>∃ k,aE2 X.K x H' k/\Q k H'):=by intro aB s σ H Q I h;exact isTrue_plain (bO (ha aB s σ H _ I h) λ v s1 ⟨x,H1,I1,r1,q1⟩=>aS2 aB s1 σ H1 x v Q I1 r1 q1) (he _)
def aOp:dE X (zw .Add) (λ x y H Q=>∃ i j,x=.str i/\y=.str j/\i.length+j.length<=qy/\Q (.str (i++j)) H):=by intro aB s σ H x y v u Q I rx ry h;let(i,j,rfl,rfl,hz,q):=h;let(t,rfl):=rx;let(t',rfl):=ry;exact add_str (λ t' tk=>⟨.str (i++j),H,I.tok _,⟨_,rfl⟩,q⟩) hz
def mI(r:bG [x] us):∃ u,us=[u]/\bM x u:=by
 cases r with
 |cons r1 r2=>cases r2;exact⟨_,rfl,r1⟩
def aEx(r:bG [x,y] us):∃ u w',us=[u,w']/\bM x u/\bM y w':=by
 cases r with
 |cons r1 r2=>
   cases r2 with
   |cons r3 r4=>cases r4;exact⟨_,_,rfl,r1,r3⟩
def aOM(hc:X.calm=true):fK X (.builtin "max") (λ xs H Q=>∃ i j,xs=[.int i,.int j]/\Q (.int (if j>i then j else i)) H):=by
 intro aB s σ H xs us Q I r h;let(i,j,rfl,q):=h;let(u,w',rfl,(t,rfl),(t',rfl)):=aEx r;refine max_two_ints (I.ok.hd hc) λ h' tk k=>⟨_,H,I.kept k,?_,q⟩
 by_cases hj:j>i
 ·rw[if_pos hj,if_pos hj];exact⟨_,rfl⟩
 ·rw[if_neg hj,if_neg hj];exact⟨_,rfl⟩
def aPs(hc:X.calm=true):fK X (.builtin "min") (λ xs H Q=>∃ i j,xs=[.int i,.int j]/\Q (.int (if j<i then j else i)) H):=by
 intro aB s σ H xs us Q I r h;let(i,j,rfl,q):=h;let(u,w',rfl,(t,rfl),(t',rfl)):=aEx r;refine min_two_ints (I.ok.hd hc) λ h' tk k=>⟨_,H,I.kept k,?_,q⟩
 by_cases hj:j<i
 ·rw[if_pos hj,if_pos hj];exact⟨_,rfl⟩
 ·rw[if_neg hj,if_neg hj];exact⟨_,rfl⟩
def aHa:fK X (.type "int") (λ xs H Q=>(∃ i,xs=[.int i]/\Q (.int i) H)\/∃ k,xs=[.bl k]/\Q (.int (if k then 1 else 0)) H):=by
 intro aB s σ H xs us Q I r h;rcases h with ⟨i,rfl,q⟩|⟨k,rfl,q⟩
 ·let(u,rfl,t,rfl):=mI r;exact call_int_int ⟨.int i,H,I,⟨_,rfl⟩,q⟩
 ·let(u,rfl,r1):=mI r;cases r1;exact call_int_bool ⟨.int (if k then 1 else 0),H,I.tok _,⟨_,rfl⟩,q⟩
end L2
namespace L2
open PySem PySem.Spec PyProof.Rows
structure ObjM(h:Heap)(x dx C:qv)(mA:Str->Option qx):Prop where
 obj:h.get? x=qq (PySem.W.instObj C dx)
 ns:h.Ns1 dx mA
 ne:dx≠x
section
variable {P:zq}{w:zx}{H H':Hp}{h h':Heap}{a C dx:qv}{fs fs':List (Str×V)}
end
structure Cls(K:FrG)(C:qv):Prop where
 pg:PySem.W.plainGet K C Str.empty=true
 hd:PySem.W.hasDictIn K C=true
 po:PySem.W.plainOver K C=true
 sa:yGb K (.ref C) "__setattr__" = qq (qq (.builtin "object.__setattr__"))
structure Con(K:FrG)(C:qv)(f:Str)(v:V)(u:qx):Prop where
 at_:yGb K (.ref C) f=qq (qq u)
 rel:bM v u
 get:PySem.W.specialIn K u "__get__" = qq qz
 cp:PySem.W.copiedNames.contains f=false
structure Meth(K:FrG)(C:qv)(m:Str)(f:qv):Prop where
 at_:yGb K (.ref C) m=qq (qq (.ref f))
 fn:PySem.W.isFn K (.ref f)=true
 kp:yDg K (.ref f)=true
section
variable {X:Cx}{aB:List (qv×Obj)}{σ:St}{H:Hp}{s:qj}{a C dx:qv}{fs:List (Str×V)}{f:Str}{v:V}{A:zj}{E:qx->qj->Prop}
end
section
variable {X:Cx}{aB:List (qv×Obj)}{σ:St}{H:Hp}{s:qj}{A:zj}{E:qx->qj->Prop}{Q:qx->qj->Prop}{c:qx}{b:Bool}
inductive TyOf (K:FrG) (H:Hp):V->qx->Prop where
 |non:TyOf K H .non (.type "NoneType")
 |bl (x:Bool):TyOf K H (.bl x) (.type "bool")
 |int (i:Int):TyOf K H (.int i) (.type "int")
 |str (x:Str):TyOf K H (.str x) (.type "str")
 |flt (x:UInt64):TyOf K H (.flt x) (.type "float")
 |lst {a:qv}{xs:List V} (e:H a=qq (.lst xs)):TyOf K H (.ref a) (.type "list")
 |frz {a:qv}{o:Obj}{xs:List V} (e:H a=qq (.frz o (.lst xs))):TyOf K H (.ref a) (.type "list")
 |tup {a:qv}{xs:List V} (e:H a=qq (.tup xs)):TyOf K H (.ref a) (.type "tuple")
 |dK {a:qv}{bL:List (fX×V)} (e:H a=qq (.dK bL)):TyOf K H (.ref a) (.type "dict")
 |dT {a:qv}{bL:List (List fX×V)} (e:H a=qq (.dT bL)):TyOf K H (.ref a) (.type "dict")
 |ins {a C dx:qv}{fs:List (Str×V)} (e:H a=qq (.ins C dx fs)) (cl:Cls K C) (ha:yGb K (.ref C) "__class__" = qq (qq (.builtin "object.__class__")))
    (hn:PySem.W.specialIn K (.builtin "object.__class__") "__get__" = qq (qq (.builtin "getset_descriptor.__get__"))) (htk:PySem.W.takesIn K (.builtin "object.__class__")=qq true)
    (hm:PySem.W.mroIn K C (.type "object")=qq true):TyOf K H (.ref a) (.ref C)
end
end L2
namespace L2
open PySem PySem.Spec PyProof.Rows
structure Room(k:Nat)(A:zj):Prop where
 hd:A.handled=qz
 dp:A.depth+3*k+5<recursionLimit
 un:A.units+16*k+200<cLine
def Room.deeper(r:Room (k+1) A)(env:Env):Room k (A.deeper env):=
 ⟨r.hd,by have:=r.dp;show A.depth+1+3*k+5<_;omega,by have:=r.un;show A.units+3+16*k+200<_;omega⟩
def Room.depth(r:Room k A):A.depth<recursionLimit:=by have:=r.dp;omega
def Room.units(r:Room k A):A.units+64<cLine:=by have:=r.un;omega
def aMj:TA:=λ _ H Q=>Q [] H
def aXP(ta:TE)(tr:TA):TA:=λ σ H Q=>ta σ H λ x H1=>tr σ H1 λ xs H2=>Q (x::xs) H2
def aKb:PA X [] aMj:=λ _ _ _ _ H Q I h=>Calls.spliced_nil ⟨[],H,I,.nil,h⟩
def aDS{te:TE}{t:TA}(ha:PE X e te)(hr:PA X es t)(hs:qu (e::es) X.env=(false,eval e X.env)::qu es X.env:=by rfl):PA X (e::es) (aXP te t):=by intro pos aB s σ H Q I h;rw[hs];show qk _ _ (spliced ((false,eval e X.env)::backTo pos (qu es X.env))) _ _ s;refine Calls.spliced_cons (bO (ha aB s σ H _ I h) λ u s1 hPq24=>?_);let(x,H1,I1,r1,q1):=hPq24;exact bO (hr pos aB s1 σ H1 _ I1 q1) λ us s2 ⟨xs,H2,I2,r2,q2⟩=>⟨x::xs,H2,I2,.cons r1 r2,q2⟩
def aZN(t:TA):TE:=λ σ H Q=>t σ H λ xs H1=>↑xs<=qy/\∀ p,H1 p=qz->Q (.ref p) (bQ H1 p (.tup xs))
def aZJ(t:TA):TE:=λ σ H Q=>t σ H λ xs H1=>↑xs<=qy/\∀ p,H1 p=qz->Q (.ref p) (bQ H1 p (.lst xs))
def aVl{t:TA}{x1}(h:PA X es t):PE X (.Tuple es x1 pos) (aZN t):=by intro aB s σ H Q I hq;refine wpAny_Tuple_spliced (bO (h pos aB s σ H _ I hq) λ us s1 ⟨xs,H1,I1,r,z,q⟩=>⟨by rw[<- r.length];exact z,?_⟩);have hf:H1 s1.heap.objs.size=qz:=I1.hok.fresh (yAd _);refine⟨.ref s1.heap.objs.size,bQ H1 s1.heap.objs.size (.tup xs),I1.laid (t':=s1.toks) (λ b u e=>hpS _ e) (yAd _) ?_,rfl,q _ hf⟩;exact⟨z,us,r,⟨_,xAd _ rfl,rfl,_,rfl⟩⟩
def aVC{t:TA}(h:PA X es t):PE X (.List es pos) (aZJ t):=by intro aB s σ H Q I hq;refine wpAny_List_spliced (bO (h pos aB s σ H _ I hq) λ us s1 ⟨xs,H1,I1,r,z,q⟩=>⟨by rw[<- r.length];exact z,?_⟩);have hf:H1 s1.heap.objs.size=qz:=I1.hok.fresh (yAd _);refine⟨.ref s1.heap.objs.size,bQ H1 s1.heap.objs.size (.lst xs),I1.laid (t':=s1.toks) (λ b u e=>hpS _ e) (yAd _) ?_,rfl,q _ hf⟩;exact⟨z,us,0,r,xAd _ rfl⟩
abbrev Sp:=List V->Hp->VK->XK->Prop
abbrev lJ:=List Env->Hp->qj->XK->qx->qj->Prop
structure Env0(P:zq)(w:zx)(K:FrG)(mg:Str->Option qx)(base:Heap)(A:zj)(outer:List Env)(s:qj)(H:Hp):Prop where
 frames:A.frames=qq outer
 mod:Mod K mg base
 bs:∀ b o,base.get? b=qq o->s.heap.get? b=qq o/\H b=qz
 bsz:base.objs.size<=s.heap.objs.size
 funs:s.heap.FunFrames base outer
 frf:∀ b∈iZ outer,H b=qz
 hok:dZ P w H s.heap
 bare:AllBare s.gens
def CE(outer:List Env)(P:zq)(w:zx)(H:Hp)(s:qj)(Q:VK)(u:qx)(s':qj):Prop:=
 ∃ v H',s'.os=s.os/\AllBare s'.gens/\Un (iZ outer) [] H H' s.heap s'.heap/\dZ P w H' s'.heap/\bM v u/\Q v H'
def CR(CX:lJ)(outer:List Env)(P:zq)(w:zx)(H:Hp)(s:qj)(Q:VK)(E:XK)(r:Result)(s':qj):Prop:=
 match r with
 |.ok (.ret u)=>CE outer P w H s Q u s'|.ok _=>False|.error e=>CX outer H s E e s'
structure FnOk(P:zq)(w:zx)(K:FrG)(mg:Str->Option qx)(base:Heap)(CX:lJ)(k:Nat)(f:qv)(fd:ju)(ps:List Str)(sp:Sp):Prop where
 len:∀ vs H Q E,sp vs H Q E->↑vs=↑ps
 run:∀ (A:zj) (outer:List Env) (s:qj) (H:Hp) (args:Args) (us:List qx) (vs:List V) (Q:VK) (E:XK),Room k A->Env0 P w K mg base A outer s H->BindsTo s fd args (ps.zip us)->bG vs us->sp vs H Q E ->
  vx (model P w) A (.call (.ref f) args) (CR CX outer P w H s Q E) s
variable {K:FrG}
def FnOk.imp{mg:Str->Option qx}(F:FnOk P w K mg base CX k f fd ps sp)(h:∀ vs H Q E,sp' vs H Q E->sp vs H Q E):FnOk P w K mg base CX k f fd ps sp':=
 ⟨λ vs H Q E q=>F.len vs H Q E (h _ _ _ _ q),λ A outer s H args us vs Q E hr he hb hv hs=>F.run A outer s H args us vs Q E hr he hb hv (h _ _ _ _ hs)⟩
section
variable {X:Cx}{aB:List (qv×Obj)}{σ:St}{H:Hp}{s s':qj}
def Inv.env0(I:Inv X aB σ H s):Env0 X.prog X.w X.K X.mg X.base X.A X.stack s H:=
 ⟨I.ok.frames,I.ok.mod,I.bs,xAh I.ok.bsz I.sz,I.stack,I.stkFree,I.hok,I.bare⟩
def Inv.after{Q:VK}(I:Inv X aB σ H s)(h:CE X.stack X.prog X.w H s Q u s'):EP X aB σ Q u s':=by let(v,H',os,bare,un,hok,r,q):=h;let(hh,g,d,t,os'):=s';obtain rfl:os'=s.os:=os;exact⟨v,H',I.call (h':=hh) (g':=g) (d':=d) (t':=t) (ch:=[]) un hok bare (λ b z=>absurd z (by simp)),r,q⟩
end
def aBD(sp:Sp)(dvs:List V)(E:XK)(t:TA):TE:=λ σ H Q=>t σ H λ vs H1=>sp (vs++dvs) H1 Q E
def nO(K:FrG)(fd:ju)(ps:List Str)(ds:List qx):Prop:=
 ∀ (s:qj) (us:List qx),K.In s.heap->(us++ds).length=↑ps->BindsTo s fd ⟨us,[]⟩ (ps.zip (us++ds))
def nO.all{ps:List Str}(h:∀ us:List qx,↑us=↑ps->bindArgs fd ⟨us,[]⟩=pure (ps.zip us)):nO K fd ps []:=λ s us _ hl=>by
 rw[yDz] at hl ⊢;exact .of_eq (h us hl)
def aBk(CX:lJ)(X:Cx)(E:XK):Prop:=∀ (aB:List (qv×Obj)) (σ:St) (H:Hp) (s:qj) (e:qx) (s':qj),Inv X aB σ H s->CX X.stack H s E e s'->X.xe e s'
variable {X:Cx}
def aKh{E:XK}{Q:VK}(F:FnOk X.prog X.w X.K X.mg X.base CX k f fd ps sp)(hr:Room k X.A)(hb:nO X.K fd ps ds)(hd:bG dvs ds)(hx:aBk CX X E)(I:Inv X aB σ H s)(r:bG vs us)(h:sp (vs++dvs) H Q E):qk (model X.prog X.w) X.A (call (.ref f) us) (EP X aB σ Q) X.xe s:=by
 have r2:bG (vs++dvs) (us++ds):=r.append hd;have hl:(us++ds).length=↑ps:=by rw[<- r2.length];exact F.len _ _ _ _ h
 refine wpAny_call (codeAny_mono (F.run X.A X.stack s H ⟨us,[]⟩ (us++ds) (vs++dvs) Q E hr I.env0 (hb s us I.kIn hl) r2 h) λ r s' hq=>?_);cases r with
 |error e=>exact hx aB σ H s e s' I hq
 |ok fl=>
   cases fl with
   |ret u=>exact I.after hq|next=>exact False.elim hq|brk=>exact False.elim hq|cont=>exact False.elim hq
def aRb{CX:lJ}{k:Nat}{f:qv}{fd:ju}{ps:List Str}{sp:Sp}{dvs:List V}{ds:List qx}{E:XK}{x:Str}{p pos:Pos}{e:qw}{es:List qw}{t:TA}(F:FnOk X.prog X.w X.K X.mg X.base CX k f fd ps sp)(hr:Room k X.A)(hg:Gl X x)(hm:X.mg x=qq (.ref f))(hk:yDg X.K (.ref f)=true)(hb:nO X.K fd ps ds)(hd:bG dvs ds)(hx:aBk CX X E)
 (ha:PA X (e::es) t) (hdb:(x==("__debug__" : Str))=false:=by decide) (he:qu (e::es) X.env=(false,eval e X.env)::qu es X.env:=by rfl) (hpl:(backTo pos (qu es X.env)).any (·.1)=false:=by rfl) :
 PE X (.Call (.Name x p) (e::es) [] pos) (aBD sp dvs E t):=by intro aB s σ H Q I h;refine xy (aDY I hg hm ?_ hdb);refine PySem.W.callWith_K (h₀:=X.base) I.ok.mod.kin hk (bO (ha pos aB s σ H _ I h) λ us s1 ⟨vs,H1,I1,r,q⟩=>⟨I1.kIn,?_⟩) he hpl;exact aKh F hr hb hd hx I1 r q
def aQv{E:XK}(F:FnOk X.prog X.w X.K X.mg X.base CX k f fd ps sp)(hr:Room k X.A)(hg:Gl X x)(hm:X.mg x=qq (.ref f))(hk:yDg X.K (.ref f)=true)(hb:nO X.K fd ps ds)(hd:bG dvs ds)(hx:aBk CX X E)(hdb:(x==("__debug__" : Str))=false:=by decide):PE X (.Call (.Name x p) [] [] pos) (aBD sp dvs E aMj):=by intro aB s σ H Q I h;refine xy (aDY I hg hm ?_ hdb);exact PySem.W.callWith_K0 I.kIn hk (aKh (us:=[]) F hr hb hd hx I .nil h)
structure Mk(K:FrG)(C f:qv):Prop where
 makes:PySem.W.makesIn K C=true
 init:yGb K (.ref C) "__init__" = qq (qq (.ref f))
 fn:PySem.W.isFn K (.ref f)=true
 kp:yDg K (.ref C)=true
structure KBinds(K:FrG)(fd:ju)(ps ks:List Str)(g:List qx->List qx->List qx)(gV:List V->List V->List V):Prop where
 to:∀ (s:qj) (us ws:List qx),K.In s.heap->(g us ws).length=↑ps->BindsTo s fd ⟨us,ks.zip ws⟩ (ps.zip (g us ws))
 rel:∀ {vs:List V}{us:List qx}{zs:List V}{ws:List qx},bG vs us->bG zs ws->bG (gV vs zs) (g us ws)
structure FnScope(N P:List Str)(sc:zv):Prop where
 kind:sc.kind=.function
 co:sc.isCoroutine=false
 gen:sc.isGenerator=false
 nd:N.Nodup
 pre:N.take P.length=P
 par:∀ x∈P,sc.names.lookup x=qq .local\/sc.names.lookup x=qq .cell
 nofree:∀ y∈sc.names,y.2≠.free
def aHq{kindOf:Str->Option jv}:∀ {binds:List (Str×qx)}{m:Str->Option qx},(∀ v,(x,v) ∉ binds)->bindL kindOf binds m x=m x
 |[],_,_=>rfl
 |(n,v)::r,m,h=>by
   unfold bindL;rw[aHq λ w hw=>h w (xAf _ hw)];split
   ·have:x≠n:=by rintro rfl;exact h v xAc
    simp[this]
   ·rfl
def aHx{kindOf:Str->Option jv}:∀ {binds:List (Str×qx)}{m:Str->Option qx},(∀ v,(x,v) ∉ binds)->bindC kindOf binds m x=m x
 |[],_,_=>rfl
 |(n,v)::r,m,h=>by
   unfold bindC;rw[aHx λ w hw=>h w (xAf _ hw)];split
   ·rfl
   ·have:x≠n:=by rintro rfl;exact h v xAc
    simp[this]
def aG4{kindOf:Str->Option jv}:∀ {P:List Str}{vs:List qx}{i:Nat}{m:Str->Option qx},P.Nodup->P[i]?=qq x->vs[i]?=qq v->kindOf x=qq .local ->
 bindL kindOf (P.zip vs) m x=qq v
 |[],_,_,_,_,h,_,_=>by simp at h|_::_,[],_,_,_,_,h,_=>by simp at h
 |p::P,w::vs,0,m,nd,h1,h2,hk=>by
   simp at h1 h2;subst h1;subst h2;show bindL kindOf ((p,w)::P.zip vs) m p=_;unfold bindL;rw[aHq λ v hv=>(List.nodup_cons.mp nd).1 (List.of_mem_zip hv).1,if_pos hk];simp
 |p::P,w::vs,i+1,m,nd,h1,h2,hk=>by
   show bindL kindOf ((p,w)::P.zip vs) m x=_;unfold bindL;exact aG4 (i:=i) (List.nodup_cons.mp nd).2 (h1:) (h2:) hk
def aHw{kindOf:Str->Option jv}:∀ {P:List Str}{vs:List qx}{i:Nat}{m:Str->Option qx},P.Nodup->P[i]?=qq x->vs[i]?=qq v->kindOf x≠qq .local ->
 bindC kindOf (P.zip vs) m x=qq v
 |[],_,_,_,_,h,_,_=>by simp at h|_::_,[],_,_,_,_,h,_=>by simp at h
 |p::P,w::vs,0,m,nd,h1,h2,hk=>by
   simp at h1 h2;subst h1;subst h2;show bindC kindOf ((p,w)::P.zip vs) m p=_;unfold bindC;rw[aHx λ v hv=>(List.nodup_cons.mp nd).1 (List.of_mem_zip hv).1,if_neg hk];simp
 |p::P,w::vs,i+1,m,nd,h1,h2,hk=>by
   show bindC kindOf ((p,w)::P.zip vs) m x=_;unfold bindC;exact aHw (i:=i) (List.nodup_cons.mp nd).2 (h1:) (h2:) hk
def start(N:List Str)(vs:List V):St:=vs.map qq++yAg (N.length-↑vs) qz
def uG(CX:lJ)(P:zq)(w:zx)(K:FrG)(mg:Str->Option qx)(base:Heap)(N:List Str)(cS:Str)(scope:zv)(f:qv)(cd:qx)(A:zj)(outer:List Env)(s:qj)(H:Hp)(E:XK):Cx where
 prog:=P
 w:=w
 K:=K
 mg:=mg
 base:=base
 A:=A.deeper (envOfC cS scope s.heap.objs.size f cd)
 N:=N
 s₀:=s
 H₀:=H
 env:=envOfC cS scope s.heap.objs.size f cd
 outer:=outer
 stack:=envOfC cS scope s.heap.objs.size f cd::outer
 ex:=[]
 calm:=true
 fn:=λ _=>true
 pn:=[]
 xe:=λ e s'=>qk (model P w) (A.deeper (envOfC cS scope s.heap.objs.size f cd)) (leaving (envOfC cS scope s.heap.objs.size f cd) e) (λ _ s''=>CX outer H s E e s'') (λ e' s''=>CX outer H s E e' s'') s'
def aHS{sc:zv}(h:sc.names.lookup x=qq .cell):∃ c,(cellsFrom n sc.names []).lookup x=qq c:=by have q:=PySem.W.cellsFrom_some sc.names n [] (.inl h);exact Option.isSome_iff_exists.mp q
def aOG{mg:Str->Option qx}{A:zj}{E:XK}{vs:List V}(S:FnScope N ps scope)(hd:A.handled=qz)(e0:Env0 P w K mg base A outer s H)(hl:↑vs=↑ps)(r:bG vs us)(x:InCallC s s.heap.objs.size (bindL (envOfC cS scope s.heap.objs.size f cd).kindOf (ps.zip us) λ _=>qz) (cellsFrom (s.heap.objs.size+1) scope.names []) (bindC (envOfC cS scope s.heap.objs.size f cd).kindOf (ps.zip us) λ _=>qz) s1) :
 Inv (uG CX P w K mg base N cS scope f cd A outer s H E) [] (start N vs) H s1:=by
 have hpl:↑ps<=N.length:=by have:=congrArg yHn S.pre;rw[yBk] at this;omega
 let(h1,tk,rfl,hk):=x.done;have noA:∀ b:qv,b ∉ (uG CX P w K mg base N cS scope f cd A outer s H E).ex:=λ b z=>absurd (show b∈([]:List qv) from z) (by simp)
 refine⟨⟨e0.mod,S.kind,rfl,rfl,yAd _,λ y z c h1 h2=>?_,λ y hy=>?_,λ y c _ h=>?_,λ _=>hd,Around.frames_deeper e0.frames,.inr ⟨rfl,rfl⟩,λ b z=>absurd z (noA b),e0.bs,e0.bsz,λ b _ _=>noA b,λ b z=>absurd z (noA b),e0.funs,e0.frf⟩,
  rfl,e0.bare,Un.kept hk,⟨_,x.toInCall.ns,λ i y v h1 h2 h3=>?_⟩,λ y c h=>⟨_,x.cell y c h⟩,e0.hok.fresh (yAd _),λ y c h=>?_,λ p hp=>absurd (show p∈([]:List (qv×Obj)) from hp) (by simp),e0.hok.kept hk,?_⟩
 ·exact name_of_addr x.apart (PySem.mem_of_lookup h1) (PySem.mem_of_lookup h2)
 ·have hy:scope.names.lookup y=qq .cell\/scope.names.lookup y=qq .free:=hy;rcases hy with hy|hy
  ·exact aHS hy
  ·exact absurd rfl (S.nofree _ (PySem.mem_of_lookup hy))
 ·exact yEd (x.above y c (PySem.mem_of_lookup h))
 ·have hi:i<↑vs:=by
   unfold start at h2;by_cases hi:i<↑vs
   ·exact hi
   ·rw[yAf (hi:)] at h2;rw[yEj] at h2;split at h2<;>cases h2
  have ha:vs[i]?=qq v:=by
   unfold start at h2;rw[xAm (hi:),yAc] at h2;cases e:vs[i]? with
   |none=>rw[e] at h2;cases h2|some a=>rw[e] at h2;cases h2;rfl
  let(u,hu,rv):=r.get ha;have hp:ps[i]?=qq y:=by
   rw[<- S.pre,yDa (!_)];exact h1
  have ndP:ps.Nodup:=by rw[<- S.pre];exact S.nd.sublist (List.take_sublist _ _)
  refine⟨u,rv,?_⟩;rcases S.par y (xAk hp) with k|k
  ·exact .inl ⟨k,aG4 ndP hp hu k⟩
  ·let(c,e):=aHS (n:=s.heap.objs.size+1) k;refine .inr ⟨.inl k,c,e,?_⟩;have q:=x.cell y c e;rw[aHw ndP hp hu (by show scope.names.lookup y≠_;rw[k];decide)] at q;exact q
 ·exact e0.hok.fresh (yEd (x.above y c (PySem.mem_of_lookup h)))
 ·unfold start;show _=N.length;rw[xAn,yAb,yCw];omega
def aYf{mg:Str->Option qx}{kV:qx}(lk:K.lookup f=qq ⟨oc,od,.func (yDt name cS params body scope dV kV doc pm an cdv ct),osl⟩)(hcd:yGc K cdv cS=true)(S:FnScope N ps scope)(len:∀ vs H Q E,sp vs H Q E->↑vs=↑ps)(hbody:∀ (A:zj) (outer:List Env) (s:qj) (H:Hp) (vs:List V) (Q:VK) (E:XK),Room k (A.deeper (envOfC cS scope s.heap.objs.size f cdv))->sp vs H Q E ->
   ∃ t,eE (uG CX P w K mg base N cS scope f cdv A outer s H E) body t/\t {nx:=λ _ H'=>Q .non H',rt:=Q } (start N vs) H) :
 FnOk P w K mg base CX (k+1) f (yDt name cS params body scope dV kV doc pm an cdv ct) ps sp:=by
 refine⟨len,λ A outer s H args us vs Q E hr e0 hb r hsp=>?_⟩;have hl:=len _ _ _ _ hsp;have KX:K.In s.heap:=e0.mod.kin.keeps λ b o e=>(e0.bs b o e).1
 have lim:s.heap.NoLimit:=e0.mod.nolimit.keeps λ b o e=>(e0.bs b o e).1
 have hkind:∀ y∈ps.zip us,scope.names.lookup y.1=qq .local\/(scope.names.lookup y.1=qq .cell/\((cellsFrom (s.heap.objs.size+1) scope.names []).lookup y.1).isSome=true):=λ bD hy=>by
  let(n,v):=bD;rcases S.par n (List.of_mem_zip hy).1 with q|q
  ·exact .inl q
  ·exact .inr ⟨q,PySem.W.cellsFrom_some _ _ _ (.inl q)⟩
 refine codeAny_call_function hr.depth (KX _ _ lk) rfl S.co S.gen rfl (PySem.W.codeRec_of KX hcd) (hb _ _ _ _ ?_);refine wpAny_newFunctionEnv_cells S.kind hkind λ env he s1 x=>?_
 subst he;refine⟨lim.keeps x.toInCall.keep,codeAny_func ?_⟩;let(t,ht,hq):=hbody A outer s H vs Q E (hr.deeper _) hsp;have I:Inv (uG CX P w K mg base N cS scope f cdv A outer s H E) [] (start N vs) H s1:=aOG S hr.hd e0 hl r x;refine wpAny_mono (ht [] s1 (start N vs) H _ I hq) (λ fl s' hs=>?_) λ e s' hs=>hs
 have cH:∀ {σ':St}{H':Hp}{v:V}{u:qx},Inv (uG CX P w K mg base N cS scope f cdv A outer s H E) [] σ' H' s'->bM v u->Q v H'->CE outer P w H s Q u s':=
  λ {σ' H' v u} J rv q=>⟨v,H',J.os,J.bare,J.base,J.hok,rv,q⟩
 cases fl with
 |ret u=>
   let(v,σ',H',J,rv,q):=hs;exact cH J rv q
 |next=>
   let(σ',H',J,q):=hs;exact cH (v:=V.non) (u:=Value.none) J rfl q
 |brk=>
   let(_,_,_,q):=hs;exact False.elim q
 |cont=>
   let(_,_,_,q):=hs;exact False.elim q
end L2
namespace L2
open PySem PySem.Spec PyProof.Rows
def tCB(r:List V->Hp->VK->Prop)(t:TA):TE:=λ σ H Q=>t σ H λ vs H1=>r vs H1 Q
def qW{X:Cx}{x:Str}{p pos:Pos}{e:qw}{es:List qw}{t:TA}{id:String}{r:List V -> Hp -> VK -> Prop}(hc:fK X (.builtin id) r)(hg:Gl X x)(hm:X.mg x=qz)(hv:xz x=qq (.builtin id))(ha:PA X (e::es) t)(hn:x ≠ "__name__":=by decide)(hdb:(x==("__debug__" : Str))=false:=by decide)
 (he:qu (e::es) X.env=(false,eval e X.env)::qu es X.env:=by rfl) (hpl:(backTo pos (qu es X.env)).any (·.1)=false:=by rfl):PE X (.Call (.Name x p) (e::es) [] pos) (tCB r t):=by intro aB s σ H Q I h;refine xy (pH I hg hm hv ?_ hn hdb);exact PyProof.Rows.callWith_builtin1 (bO (ha pos aB s σ H _ I h) λ us s1 ⟨vs,H1,I1,r1,q1⟩=>hc aB s1 σ H1 vs us Q I1 r1 q1) he hpl
def aG9{X:Cx}{x:Str}{p pos:Pos}{e:qw}{es:List qw}{t:TA}{T:String}{r:List V -> Hp -> VK -> Prop}(hc:fK X (.type T) r)(hg:Gl X x)(hm:X.mg x=qz)(hv:xz x=qq (.type T))(ha:PA X (e::es) t)(hn:x ≠ "__name__":=by decide)(hdb:(x==("__debug__" : Str))=false:=by decide)
 (he:qu (e::es) X.env=(false,eval e X.env)::qu es X.env:=by rfl) (hpl:(backTo pos (qu es X.env)).any (·.1)=false:=by rfl):PE X (.Call (.Name x p) (e::es) [] pos) (tCB r t):=by intro aB s σ H Q I h;refine xy (pH I hg hm hv ?_ hn hdb);exact yBv (bO (ha pos aB s σ H _ I h) λ us s1 ⟨vs,H1,I1,r1,q1⟩=>hc aB s1 σ H1 vs us Q I1 r1 q1) he hpl
end L2
namespace HT
open PySem PyProof.Rows
section
open PySem.SeqAt
open PySem.AutoSeq1 (wpAny_loadPart')
open PySem.MeetsSeq PySem.MeetsSeq2 PySem.MeetsSeq3
end
def cat_tup{E:qx -> qj -> Prop}{s:qj}{vs ws:List qx}{Q:qx->qj->Prop}(ht:IsTup s.heap t vs.toArray)(hb:IsTup s.heap b ws.toArray)(hv:vs≠[])(h1:ws=[]->Q (.ref t) s)(h2:ws≠[]->Q (.ref s.heap.objs.size) {s with heap:=s.heap.push {cls:=.type "tuple",data:=.seq (vs++ws).toArray } })(hsz:↑vs+↑ws<=qy):qk (model prog w) A (zw .Add (.ref t) (.ref b)) Q E s:=by
 let((cls,dd,data,sl),ho,hc,n,hd):=id ht;let((cls2,dd2,data2,sl2),ho2,hc2,n2,hd2):=id hb;simp only at hc hd hc2 hd2;subst hc hd hc2 hd2;have e:vs.toArray++ws.toArray=(vs++ws).toArray:=by simp
 by_cases hw:ws=[]
 ·exact concat_meets ⟨_,ho,rfl⟩ ⟨_,ho2,rfl⟩ noFill_tuple_add seq_tuple_add yFx yFr (yFm _ _)
   (tuple_addW1 t b vs.toArray ws.toArray n n2 dd dd2 sl sl2 (hv:) (by simp[hw])) ⟨ho,ho2,h1 hw⟩
 ·refine concat_meets ⟨_,ho,rfl⟩ ⟨_,ho2,rfl⟩ noFill_tuple_add seq_tuple_add yFx yFr (yFm _ _)
   (tuple_addW2 t b vs.toArray ws.toArray n n2 dd dd2 sl sl2 (hv:) (hw:) (by rw[yAi,yAi];exact hsz)) ⟨ho,ho2,?_⟩
  rw[e];exact h2 hw
def sIx(n d:Nat):Option Int->Nat
 |none=>d
 |some v=>if v<0 then (v+(n:Int)).toNat else min v.toNat n
def sIx_none(n d:Nat):sIx n d qz=d:=rfl
def sIx_nat(n d k:Nat):sIx n d (qq (k:Int))=min k n:=by show(if (k:Int)<0 then ((k:Int)+(n:Int)).toNat else min (k:Int).toNat n)=min k n;rw[if_neg (!_),yAu]
def aU1(n d:Nat)(hd:d<=n)(o:Option Int):sIx n d o<=n:=by
 cases o with
 |none=>exact hd
 |some v=>
   show(if v<0 then (v+(n:Int)).toNat else min v.toNat n)<=n;by_cases hv:v<0
   ·rw[if_pos hv];omega
   ·rw[if_neg hv];exact yCa _ _
def aJj(v:Int)(n d:Nat):(if v<0 then max (v+(n:Int)) 0 else min v (n:Int))=((sIx n d (qq v):Nat):Int):=by
 show(if v<0 then max (v+(n:Int)) 0 else min v (n:Int))=(((if v<0 then (v+(n:Int)).toNat else min v.toNat n):Nat):Int);by_cases hv:v<0
 ·simp only[if_pos hv];omega
 ·simp only[if_neg hv];omega
def aOA(lo hi:Option Int)(n:Nat):yFc lo hi 1 (n:Int)=(((sIx n 0 lo:Nat):Int),((sIx n n hi:Nat):Int)):=by
 have h1:¬ ((1:Int)<0):=by omega
 unfold yFc;simp only[h1,if_false];refine Prod.ext ?_ ?_
 ·cases lo with|none=>rfl|some v=>exact aJj v n 0
 ·cases hi with|none=>rfl|some v=>exact aJj v n n
def aOx(i j:Nat):yDv (i:Int) (j:Int) 1=j-i:=by
 unfold yDv;have h1:(1:Int)>0:=by omega
 simp only[h1,if_true,Int.ediv_one];split<;>omega
def aGB{E:qx -> qj -> Prop}{Q:Option Int->qj->Prop}(p:IsPart v o)(h:Q o s):qk (model prog w) A (Builtin.Slice.slicePartIndex v) Q E s:=by
 cases p with
 |none=>exact slicePart_none h|int i t=>exact slicePart_int h
def sliceApplied_gen{E:qx -> qj -> Prop}{s:qj}{lo hi:Option Int}{Q:Int×Int×Nat->qj->Prop}(hs:s.heap.IsSliceOf sl vl vu .none)(pl:IsPart vl lo)(pu:IsPart vu hi)(h:Q (((sIx n 0 lo:Nat):Int),1,sIx n n hi-sIx n 0 lo) s):qk (model prog w) A (yGn (.ref sl) (pure (n:Int))) Q E s:=by let(os,hos,hcs,hds):=id hs;unfold yGn Builtin.Slice.sliceFields;refine wB (wB (zu hos hds (x:=vl) rfl (wB (zu hos hds (x:=vu) rfl (wB (zu hos hds (x:=.none) rfl (wP ?_)))))));refine wB (slicePart_none ?_);show qk _ _ (if ((1:Int)==0)=true then _ else _) _ _ s;rw[if_neg (·)];refine wB (aGB pl (wB (aGB pu (wB (wP ?_)))));show qk _ _ (match yFc lo hi 1 (n:Int) with|(lo,hi)=>pure (lo,(1:Int),yDv lo hi 1)) _ _ s;rw[aOA lo hi n];show qk _ _ (pure (((sIx n 0 lo:Nat):Int),(1:Int),yDv ((sIx n 0 lo:Nat):Int) ((sIx n n hi:Nat):Int) 1)) _ _ s;rw[aOx];exact wP h
def aQr(xs:Array qx)(i k:Nat):((yBd k).filterMap λ(m:Nat)=>xs[((i:Int)+(m:Int)*1).toNat]?).toArray=((xs.toList.drop i).take k).toArray:=by
 have e:(λ(m:Nat)=>xs[((i:Int)+(m:Int)*1).toNat]?)=λ m=>xs[i+m]?:=by
  funext m;have:((i:Int)+(m:Int)*1).toNat=i+m:=by omega
  rw[this]
 rw[e];have:=pick_run xs i k;rw[List.filterMap_map] at this;have e2:((λ x=>xs[x]?) ∘ λ x=>i+x)=λ m=>xs[i+m]?:=rfl
 rw[e2] at this;rw[this]
def getItem_tuple_cut{E:qx -> qj -> Prop}{s:qj}{lo hi:Option Int}{Q:qx->qj->Prop}(ht:IsTup s.heap t aX)(hs:s.heap.IsSliceOf sl vl vu .none)(pl:IsPart vl lo)(pu:IsPart vu hi)(hw:¬ (sIx aX.size 0 lo=0/\sIx aX.size aX.size hi=aX.size))(h:Q (.ref s.heap.objs.size) {s with heap:=s.heap.push {cls:=.type "tuple",data:=.seq ((aX.toList.drop (sIx aX.size 0 lo)).take (sIx aX.size aX.size hi-sIx aX.size 0 lo)).toArray } })(hsz:aX.size<=qy):qk (model prog w) A (getItem (.ref t) (.ref sl)) Q E s:=by
 have htake:sizeOk (.seq ((aX.toList.drop (sIx aX.size 0 lo)).take (sIx aX.size aX.size hi-sIx aX.size 0 lo)).toArray):=by
  show((aX.toList.drop (sIx aX.size 0 lo)).take (sIx aX.size aX.size hi-sIx aX.size 0 lo)).toArray.size<=qy;rw[yAi,yBk,yHr,yEh];omega
 have hj:sIx aX.size aX.size hi<=aX.size:=aU1 _ _ (yAd _) hi;let(os,hos,hcs,hds):=id hs;have hTs:s.TypeIs (.ref sl) "slice":=⟨os,hos,hcs⟩;unfold getItem
 try with_reducible refine zy ?_
 first|refine wB (wP ?_)|skip
 refine wB (wpAny_sequenceKey ht.typeIs (·) ?_)
 refine wB (wpAny_callSpecial?_slot (name:=Str.ofString "__getitem__") ht.typeIs yCr
  (jy yCr ht.typeIs entry_tuple_getitem ?_ (args_tuple_getitem _ _)))
 show qk _ _ (yGo (.ref t) >>= _) _ _ s;refine wB (tupleItemsOf_ ht ?_);refine wB (wpAny_typeOf hTs ?_);rw[if_pos (·)];refine wB (sliceApplied_gen hs pl pu ?_);have hno:¬ ((((sIx aX.size 0 lo:Nat):Int)==0&&(1:Int)==1&&(sIx aX.size aX.size hi-sIx aX.size 0 lo)==aX.size)=true):=by
  intro q;rw[yAp,yAp] at q;have q1:((sIx aX.size 0 lo:Nat):Int)=0:=eq_of_beq q.1.1;have q2:sIx aX.size aX.size hi-sIx aX.size 0 lo=aX.size:=eq_of_beq q.2;exact hw ⟨by omega,by omega⟩
 show qk _ _ (if (((sIx aX.size 0 lo:Nat):Int)==0&&(1:Int)==1&&(sIx aX.size aX.size hi-sIx aX.size 0 lo)==aX.size)=true then _ else _) _ _ s;rw[if_neg hno,aQr]
 first
  |exact wB (m:=yDb _) (zo (wP ⟨_,rfl,wP h⟩) htake)
  |exact wB (m:=yDb _) (zo (wB (wP (wP ⟨_,rfl,wP h⟩))) htake)
  |exact wB (wB (m:=yDb _) (zo (wP (wP ⟨_,rfl,wP h⟩)) htake))
  |exact wB (wB (m:=yDb _) (zo (wP ⟨_,rfl,wP h⟩) htake))
end HT
namespace L2
open PySem PySem.Spec PyProof.Rows
abbrev TO:=St->Hp->(Option Int->Hp->Prop)->Prop
def PO(X:Cx)(e:Option qw)(t:TO):Prop:=
 ∀ (aB:List (qv×Obj)) (s:qj) (σ:St) (H:Hp) (Q:Option Int->Hp->Prop),Inv X aB σ H s->t σ H Q ->
  qk (model X.prog X.w) X.A (evalPart e X.env) (λ u s'=>∃ o H',Inv X aB σ H' s'/\IsPart u o/\Q o H') X.xe s
def aSm:TO:=λ _ H Q=>Q qz H
def aWo(t:TE):TO:=λ σ H Q=>t σ H λ x H1=>∃ i,x=.int i/\Q (qq i) H1
def aRh:PO X qz aSm:=by intro aB s σ H Q I h;rw[evalPart_none];exact wP ⟨qz,H,I,.none,h⟩
def aDX{X:Cx}{e:qw}{te:TE}(h:PE X e te):PO X (qq e) (aWo te):=by
 intro aB s σ H Q I hw;rw[evalPart_some];refine bO (h aB s σ H _ I hw) λ u s1 hPq25=>?_
 let(x,H1,I1,r1,q1):=hPq25;let(i,rfl,q):=q1;let(t,rfl):=r1;exact⟨qq i,H1,I1,.int i t,q⟩
def SlR(X:Cx)(r:V->Option Int->Option Int->Hp->VK->Prop):Prop:=
 ∀ (aB:List (qv×Obj)) (s:qj) (σ:St) (H:Hp) (x:V) (v vl vu:qx) (lo hi:Option Int) (sl:qv) (Q:VK),Inv X aB σ H s->bM x v->s.heap.IsSliceOf sl vl vu .none->IsPart vl lo->IsPart vu hi->r x lo hi H Q ->
  ∃ T id,typeLookup (.type T) "__getitem__" = pure (qq (.builtin id))/\s.TypeIs v T/\qk (model X.prog X.w) X.A (getItem v (.ref sl)) (EP X aB σ Q) X.xe s
def tSl(r:V->Option Int->Option Int->Hp->VK->Prop)(te:TE)(tl th:TO):TE:=λ σ H Q=>te σ H λ x H1=>tl σ H1 λ l H2=>th σ H2 λ u H3=>r x l u H3 Q
def aH6{te:TE}{lo hi:Option qw}{r:V->Option Int->Option Int->Hp->VK->Prop}(hr:SlR X r)(he:PE X e te)(hl:PO X lo tl)(hu:PO X hi th):PE X (.Subscript e (.Slice lo hi qz p2) pos) (tSl r te tl th):=by
 intro aB s σ H Q I h;refine Subscript_ (bO (he aB s σ H _ I h) λ v s1 hPq26=>?_);let(x,H1,I1,r1,q1):=hPq26;refine wpAny_Slice (bO (hl aB s1 σ H1 _ I1 q1) λ vl s2 ⟨l,H2,I2,pl,q2⟩=>bO (hu aB s2 σ H2 _ I2 q2) λ vu s3 hPq27=>?_);let(u,H3,I3,pu,q3):=hPq27;rw[evalPart_none];refine wP ?_;have I4:Inv X aB σ H3 {s3 with heap:=s3.heap.push {cls:=.type "slice",data:=.fields #[vl,vu,.none] } }:=I3.kept (t':=s3.toks) λ b ob q=>hpS _ q
 let(T,id,hT,ht,hg):=hr aB {s3 with heap:=s3.heap.push {cls:=.type "slice",data:=.fields #[vl,vu,.none] } } σ H3 x v vl vu l u s3.heap.objs.size Q I4 r1 (Heap.IsSliceOf.new ..) pl pu q3;show qk (model X.prog X.w) X.A (subscriptTail e (.Slice lo hi qz p2) v (.ref s3.heap.objs.size)) (EP X aB σ Q) X.xe {s3 with heap:=s3.heap.push {cls:=.type "slice",data:=.fields #[vl,vu,.none] } };exact tail_any (ops:=[.ref s3.heap.objs.size,v]) ht hT hg (by with_unfolding_all rfl)
def oE(xs:List V)(lo hi:Option Int):List V:=(xs.drop (HT.sIx ↑xs 0 lo)).take (HT.sIx ↑xs ↑xs hi-HT.sIx ↑xs 0 lo)
def aGk(xs:List V)(lo hi:Option Int):(oE xs lo hi).length<=↑xs:=by unfold oE;rw[yBk,yHr];omega
def aZR(K:FrG):V->Option Int->Option Int->Hp->VK->Prop:=λ x lo hi H Q=>∃ a xs,x=.ref a/\cQ K H a xs /\
 ¬ (HT.sIx ↑xs 0 lo=0/\HT.sIx ↑xs ↑xs hi=↑xs)/\∀ p,H p=qz->Q (.ref p) (bQ H p (.tup (oE xs lo hi)))
def aS8:SlR X (aZR X.K):=by
 intro aB s σ H x v vl vu lo hi sl Q I rx hs pl pu h;let(a,xs,rfl,hx,hw,q):=h;cases rx;let(aH,r,ht,hz):=I.tuple hx;have cY:aH.toArray.size=↑xs:=by rw[yAi];exact r.length.symm
 refine⟨"tuple",_,PyProof.Rows.slot_tuple_getitem.lookup,ht.typeIs,?_⟩;refine HT.getItem_tuple_cut ht hs pl pu (by rw[cY];exact hw) ?_ (by rw[cY];exact hz);rw[cY];refine⟨.ref s.heap.objs.size,_,I.laid (t':=s.toks) (o:=.tup (oE xs lo hi)) (λ b ob q=>hpS _ q) (yAd _) ?_,rfl,q _ (I.hok.fresh (yAd _))⟩;exact⟨xAh (aGk xs lo hi) hz,_,(r.drop (HT.sIx ↑xs 0 lo)).take (HT.sIx ↑xs ↑xs hi-HT.sIx ↑xs 0 lo),IsTup.new _ _⟩
def aWY(K:FrG):R2:=λ x y H Q=>∃ a b xs ys,x=.ref a/\y=.ref b/\cQ K H a xs/\cQ K H b ys/\xs≠[]/\↑xs+↑ys<=qy /\
 (ys=[]->Q (.ref a) H)/\(ys≠[]->∀ p,H p=qz->Q (.ref p) (bQ H p (.tup (xs++ys))))
def bG.nil_iff{xs:List V}(r:bG xs us):us=[] ↔ xs=[]:=by
 cases r with
 |nil=>simp|cons _ _=>simp
def aR5:dE X (zw .Add) (aWY X.K):=by intro aB s σ H x y v u Q I rx ry h;let(a,b,xs,ys,rfl,rfl,ha,hb,hx,hz,q1,q2):=h;cases rx;cases ry;let(aH,r1,p1,_):=I.tuple ha;let(vG,r2,p2,_):=I.tuple hb;refine HT.cat_tup p1 p2 (λ z=>hx (r1.nil_iff.mp z)) (λ z=>⟨.ref a,H,I,rfl,q1 (r2.nil_iff.mp z)⟩) (λ z=>?_) (by rw[<- r1.length,<- r2.length];exact hz);refine⟨.ref s.heap.objs.size,_,I.laid (t':=s.toks) (o:=.tup (xs++ys)) (λ b ob q=>hpS _ q) (yAd _) ?_,rfl,q2 (λ w=>z (r2.nil_iff.mpr w)) _ (I.hok.fresh (yAd _))⟩;exact⟨by rw[xAn];exact hz,_,r1.append r2,IsTup.new _ _⟩
end L2
namespace L2
open PySem PySem.Spec PyProof.Rows
def kK(n:Nat)(i:Int):Option Nat:=if 0<=i then (if i<n then qq i.toNat else qz) else if -(n:Int)<=i then qq (i+n).toNat else qz
def lK{α:Type}(xs:List α)(i:Int):Option α:=(kK ↑xs i).bind λ j=>xs[j]?
def aJy{i:Int}(h:kK n i=qq j):seqIndex? i n=qq j/\j<n /\ -(n:Int)<=i/\i<n:=by
 unfold kK at h;by_cases h0:0<=i
 ·rw[if_pos h0] at h;by_cases h1:i<n
  ·rw[if_pos h1] at h;have e:i.toNat=j:=Option.some.inj h;exact⟨by rw[seqIndex_of h0 h1,e],by omega,by omega,h1⟩
  ·rw[if_neg h1] at h;cases h
 ·rw[if_neg h0] at h;by_cases h1 : -(n:Int)<=i
  ·rw[if_pos h1] at h;have e:(i+n).toNat=j:=Option.some.inj h;exact⟨by rw[seqIndex_neg (!_) h1,e],by omega,h1,by omega⟩
  ·rw[if_neg h1] at h;cases h
def aDB{α:Type}{xs:List α}{i:Int}{v:α}(h:lK xs i=qq v):∃ j,seqIndex? i ↑xs=qq j/\xs[j]?=qq v/\j<↑xs /\ -(↑xs:Int)<=i/\i<↑xs:=by
 unfold lK at h;cases e:kK ↑xs i with
 |none=>rw[e] at h;cases h
 |some j=>
   rw[e] at h;let(h1,h2,h3,h4):=aJy e;exact⟨j,h1,h,h2,h3,h4⟩
def aA3(b:qw):Prop:=∀ o i,subscripted b false o i=operate [o,i] (getItem o i)
def uU(X:Cx)(r:R2):Prop:=
 ∀ (value mZ:qw) (aB:List (qv×Obj)) (s:qj) (σ:St) (H:Hp) (x y:V) (v u:qx) (Q:VK),Inv X aB σ H s->bM x v->bM y u->r x y H Q ->
  subscripted mZ false v u=operate [v,u] (getItem v u)->qk (model X.prog X.w) X.A (subscriptTail value mZ v u) (EP X aB σ Q) X.xe s
def MtR(X:Cx)(id:String)(r:V->List V->Hp->VK->Prop):Prop:=
 ∀ (aB:List (qv×Obj)) (s:qj) (σ:St) (H:Hp) (x:V) (xs:List V) (v:qx) (us:List qx) (Q:VK),Inv X aB σ H s->bM x v->bG xs us->r x xs H Q ->
  qk (model X.prog X.w) X.A (call (.builtin id) (v::us)) (EP X aB σ Q) X.xe s
def aK1{ta tb:TE}{r:R2}(hr:uU X r)(ha:PE X a ta)(hb:PE X b tb)(hs:aA3 b):PE X (.Subscript a b pos) (zN r ta tb):=by intro aB s σ H Q I h;exact Subscript_ (aFf ha hb I h λ v u s2 x y H2 I2 rx ry q=>hr a b aB s2 σ H2 x y v u Q I2 rx ry q (hs _ _))
def aZs(K:FrG):R2:=λ x y H Q=>∃ p xs i v,x=.ref p/\y=.int i/\cK K H p xs/\lK xs i=qq v/\Q v H
def aZk(K:FrG):R2:=λ x y H Q=>∃ p xs i v,x=.ref p/\y=.int i/\cQ K H p xs/\lK xs i=qq v/\Q v H
def aZG:R2:=λ x y H Q=>∃ z i c,x=.str z/\y=.int i/\z.length<=qy/\lK z.cps.toList i=qq c/\Q (.str ⟨#[c]⟩) H
def aSC:uU X (aZs X.K):=by
 intro value mZ aB s σ H x y v u Q I rx ry h hs;let(p,xs,i,z,rfl,rfl,hq,he,q):=h;cases rx;let(t,rfl):=ry;let(aH,r,pl,hz):=I.list hq;let(j,h1,h2,h3,h4,h5):=aDB he;let(w,ew,rw'):=r.get h2;have hl:=r.length;have hn:=rF;have cH:EP X aB σ Q w s:=⟨z,H,I,rw',q⟩;by_cases h0:0<=i
 ·have hj:i.toNat=j:=by
   rw[seqIndex_of h0 h5] at h1;exact Option.some.inj h1
  exact item_listR pl.isList h0 (!_) (by rw[hj];simpa using ew) cH hs
 ·have hj:(i+(aH.toArray.size:Int)).toNat=j:=by
   rw[seqIndex_neg (!_) h4] at h1;rw[yAi,<- hl];exact Option.some.inj h1
  exact subscriptTail_builtinR (x:=w) pl.isList.typeIs slot_list_getitem.lookup
   (wpAny_getItem_list_neg (Q:=λ r s'=>r=w/\EP X aB σ Q r s') pl.isList (!_) (by rw[yAi]<;>omega) (!_) (by rw[hj];simpa using ew) ⟨rfl,cH⟩) hs
def aSS:uU X (aZk X.K):=by
 intro value mZ aB s σ H x y v u Q I rx ry h hs;let(p,xs,i,z,rfl,rfl,hq,he,q):=h;cases rx;let(t,rfl):=ry;let(aH,r,pl,hz):=I.tuple hq;let(j,h1,h2,h3,h4,h5):=aDB he;let(w,ew,rw'):=r.get h2;have hl:=r.length;have hn:=rF;have cH:EP X aB σ Q w s:=⟨z,H,I,rw',q⟩;exact subscriptTail_builtinR (x:=w) pl.typeIs slot_tuple_getitem.lookup
  (getItem_tuple (j:=j) (Q:=λ r s'=>r=w/\EP X aB σ Q r s') pl (!_) (!_) (by rw[yAi,<- hl];exact h1) (ew:) ⟨rfl,cH⟩) hs
def aTp:uU X aZG:=by
 intro value mZ aB s σ H x y v u Q I rx ry h hs;let(z,i,c,rfl,rfl,hz,he,q):=h;let(t,rfl):=rx;let(t',rfl):=ry;let(j,h1,h2,h3,h4,h5):=aDB he;have hl:z.cps.toList.length=z.length:=by simp[Str.length]
 rw[hl] at h1 h4 h5;have hn:=rF;exact tail_any (typeIs_str s z t) slot_str_getitem.lookup (getItem_str (c:=c) (by
  have e1:decide (i < -(2^63:Int))=false:=dqF (!_);have e2:decide (i ≥ 2^63)=false:=dqF (!_)
  rw[e1,e2,yEk]) (by rw[h1];simpa using h2) ⟨.str ⟨#[c]⟩,H,I.tok _,⟨_,rfl⟩,q⟩) hs
def aOn(aH:List qx)(n j:Nat)(u:qx):Obj.mapSeq (·.setIfInBounds j u) {cls:=.type "list",data:=.seq aH.toArray n }={cls:=.type "list",data:=.seq (aH.set j u).toArray n }:=by simp[Obj.mapSeq]
def Inv.lst{xs:List V}(I:Inv X aB σ H s)(h:H p=qq (.lst xs)) :
 ∃ (aH:List qx) (n:Nat),bG xs aH/\s.heap.get? p=qq {cls:=.type "list",data:=.seq aH.toArray n }/\↑xs<=qy:=by let(z,aH,n,r,e):=I.hok p _ h;exact⟨aH,n,r,e,z⟩
def Inv.lstUpd{X:Cx}{aB:List (qv×Obj)}{σ:St}{H:Hp}{s:qj}{p:qv}{xs ys:List V}{aH its':List qx}{n n':Nat}{f:Obj->Obj}(I:Inv X aB σ H s)(h:H p=qq (.lst xs))
 (ho:s.heap.get? p=qq {cls:=.type "list",data:=.seq aH.toArray n }) (hf:f {cls:=.type "list",data:=.seq aH.toArray n }={cls:=.type "list",data:=.seq its'.toArray n' }) (r:bG ys its') (hz:↑ys<=qy) (t:Nat) :
 Inv X aB σ (bQ H p (.lst ys)) {s with heap:=s.heap.update p f,toks:=t }:=by
 have e:(s.heap.update p f).get? p=qq {cls:=.type "list",data:=.seq its'.toArray n' }:=by
  rw[yCx f ho (by rw[hf]<;>rfl),hf]
 refine I.write (x:=p) (e:=p) (by rw[h];trivial) (.inl rfl) (λ b u hb q=>(yCq _ _ (Ne.symm hb)).trans q) ⟨_,e⟩ ?_;exact⟨hz,its',n',r,e⟩
def aK6:V->V->V->Hp->(Hp->Prop)->Prop:=λ o i v H Q=>∃ p xs k j,o=.ref p/\i=.int k/\H p=qq (.lst xs)/\kK ↑xs k=qq j/\Q (bQ H p (.lst (xs.set j v)))
def aQG:aMJ X aK6:=by
 intro aB s σ H o i v ov iv u Q I ro ri rv h;let(p,xs,k,j,rfl,rfl,hp,hj,q):=h;cases ro;let(t,rfl):=ri;let(aH,n,r,ho,hz):=I.lst hp;let(h1,h2,h3,h4):=aJy hj;have hl:=r.length;have hn:=rF;have I':Inv X aB σ (bQ H p (.lst (xs.set j v))) {s with heap:=s.heap.update p (Obj.mapSeq (·.setIfInBounds j u)) }:=
  I.lstUpd hp ho (aOn aH n j u) (r.set rv j) (by rw[yBe];exact hz) s.toks
 by_cases h0:0<=k
 ·have hk:k.toNat=j:=by
   rw[seqIndex_of h0 h4] at h1;exact Option.some.inj h1
  exact PySem.W.ki_setAt ho h0 (!_) (by rw[yAi,<- hl];exact h4) (by rw[hk];exact⟨_,I',q⟩)
 ·have hk:(k+(aH.toArray.size:Int)).toNat=j:=by
   rw[seqIndex_neg (!_) h3] at h1;rw[yAi,<- hl];exact Option.some.inj h1
  exact PySem.W.ki_setBack ho (!_) (by rw[yAi,<- hl];exact h3) (!_) (by rw[hk];exact⟨_,I',q⟩)
def aNN(lo hi:Option Int)(n:Nat):(vz lo hi qz n).1=((HT.sIx n 0 lo:Nat):Int)/\(vz lo hi qz n).2.1=((HT.sIx n n hi:Nat):Int)/\(vz lo hi qz n).2.2=1:=by
 refine⟨?_,?_,rfl⟩
 ·cases lo with
  |none=>simp[vz,HT.sIx]
  |some i=>
    simp only[vz,HT.sIx,yHs,show(1:Int)>0 by decide,if_true];by_cases h:i<0
    ·simp only[h,if_true]<;>omega
    ·simp only[h,if_false]<;>omega
 ·cases hi with
  |none=>simp[vz,HT.sIx]
  |some i=>
    simp only[vz,HT.sIx,yHs,show(1:Int)>0 by decide,if_true];by_cases h:i<0
    ·simp only[h,if_true]<;>omega
    ·simp only[h,if_false]<;>omega
def aNx(aH:List qx)(lo hi:Option Int):slicePick aH.toArray lo hi qz=((aH.drop (HT.sIx aH.length 0 lo)).take (HT.sIx aH.length aH.length hi-HT.sIx aH.length 0 lo)).toArray:=by let(h1,h2,h3):=aNN lo hi aH.toArray.size;unfold slicePick;rw[h1,h2,h3];simp only[sliceRange_one,pick_run,yAi]<;>rfl
def aYZ(K:FrG):V->Option Int->Option Int->Hp->VK->Prop:=λ x lo hi H Q=>∃ a xs,x=.ref a/\cK K H a xs/\∀ p,H p=qz->Q (.ref p) (bQ H p (.lst (oE xs lo hi)))
def aRT:SlR X (aYZ X.K):=by intro aB s σ H x v vl vu lo hi sl Q I rx hs pl pu h;let(a,xs,rfl,hx,q):=h;cases rx;let(aH,r,ht,hz):=I.list hx;have cY:=r.length;refine⟨"list",_,slot_list_getitem.lookup,ht.isList.typeIs,?_⟩;refine wpAny_getItem_list_slice ht.isList hs pl pu .none (by simp) ?_ (by rw[yAi]<;>omega);rw[aNx,<- cY];refine⟨.ref s.heap.objs.size,_,I.laid (t':=s.toks) (o:=.lst (oE xs lo hi)) (λ b ob q=>hpS _ q) (yAd _) ?_,rfl,q _ (I.hok.fresh (yAd _))⟩;exact⟨xAh (aGk xs lo hi) hz,_,0,(r.drop (HT.sIx ↑xs 0 lo)).take (HT.sIx ↑xs ↑xs hi-HT.sIx ↑xs 0 lo),xAd _ rfl⟩
def mF:V->Bool
 |.non=>true|.bl _=>true|.int _=>true|.str _=>true|_=>false
def oN:V->V->Bool
 |.non,.non=>true|.bl a,.bl b=>a==b
 |.bl a,.int b=>(if a then 1 else 0)==b
 |.int a,.bl b=>a==(if b then 1 else 0)
 |.int a,.int b=>a==b|.str a,.str b=>a==b|_,_=>false
def aTL(ry:bM y u)(rx:bM x v)(fy:mF y=true)(fx:mF x=true):SeqAt.EqAt A s u v (oN y x):=by
 cases y with
 |non=>
   cases ry;cases x with
   |non=>cases rx;exact SeqAt.EqAt.same _|bl b=>cases rx;exact SeqAt.EqAt.none_bool b
   |int b=>let(t,rfl):=rx;exact SeqAt.EqAt.none_int b t
   |str b=>let(t,rfl):=rx;exact SeqAt.EqAt.none_str b t
   |_=>exact absurd (show false=true from fx) yBm
 |bl a=>
   cases ry;cases x with
   |non=>cases rx;exact SeqAt.EqAt.bool_none a|bl b=>cases rx;exact SeqAt.EqAt.bool_bool a b
   |int b=>let(t,rfl):=rx;exact SeqAt.EqAt.bool_int a b t
   |str b=>let(t,rfl):=rx;exact SeqAt.EqAt.bool_str a b t
   |_=>exact absurd (show false=true from fx) yBm
 |int a=>
   let(t',rfl):=ry;cases x with
   |non=>cases rx;exact SeqAt.EqAt.int_none a t'|bl b=>cases rx;exact SeqAt.EqAt.int_bool a t' b
   |int b=>let(t,rfl):=rx;exact SeqAt.EqAt.int_int a t' b t
   |str b=>let(t,rfl):=rx;exact SeqAt.EqAt.int_str a t' b t
   |_=>exact absurd (show false=true from fx) yBm
 |str a=>
   let(t',rfl):=ry;cases x with
   |non=>cases rx;exact SeqAt.EqAt.str_none a t'|bl b=>cases rx;exact SeqAt.EqAt.str_bool a t' b
   |int b=>let(t,rfl):=rx;exact SeqAt.EqAt.str_int a t' b t
   |str b=>let(t,rfl):=rx;exact SeqAt.EqAt.str_str a t' b t
   |_=>exact absurd (show false=true from fx) yBm
 |_=>exact absurd (show false=true from fy) yBm
def iM(x:V)(u:qx):Bool:=match u with|.none=>oN .non x|.bool b=>oN (.bl b) x|.int i _=>oN (.int i) x|.str z _=>oN (.str z) x|_=>false
def aKT(r:bM y u)(f:mF y=true):iM x u=oN y x:=by
 cases y with
 |non=>cases r;rfl|bl b=>cases r;rfl
 |int i=>let(t,rfl):=r;rfl
 |str z=>let(t,rfl):=r;rfl
 |_=>exact absurd (show false=true from f) yBm
def wX:∀ {xs:List V}{us:List qx},bG xs us->xs.all mF=true->us.any (iM x)=xs.any λ y=>oN y x
 |_,_,.nil,_=>rfl
 |y::xs,u::us,.cons r t,f=>by
   rw[yGg,yAp] at f;rw[List.any_cons,List.any_cons,aKT r f.1,wX t f.2]
def wJ(rx:bM x v)(fx:mF x=true):∀ {xs:List V}{us:List qx},bG xs us->xs.all mF=true->∀ u∈us,SeqAt.EqAt A s u v (iM x u)
 |_,_,.nil,_=>λ u hu=>by cases hu
 |y::xs,u::us,.cons r t,f=>λ u' hu=>by
   rw[yGg,yAp] at f;rcases List.mem_cons.mp hu with rfl|hu
   ·rw[aKT r f.1];exact aTL r rx f.1 fx
   ·exact wJ rx fx t f.2 u' hu
def vB(x:V)(xs:List V):Bool:=xs.any λ y=>oN y x
def rIn(K:FrG)(neg:Bool):R2:=λ x y H Q=>∃ p xs,y=.ref p/\(cK K H p xs\/cQ K H p xs)/\mF x=true/\xs.all mF=true/\Q (.bl (if neg then !vB x xs else vB x xs)) H
def aPo:dE X (xw .In) (rIn X.K false):=by
 intro aB s σ H x y v u Q I rx ry h;let(p,xs,rfl,hq,fx,fs,q):=h;cases ry;rcases hq with hq|hq
 ·let(aH,r,pl,hz):=I.list hq;refine SeqAt.in_listAt (iM x) pl.isList (λ w hw=>wJ rx fx r fs w (hw:)) ⟨.bl _,H,I,rfl,?_⟩;rw[show aH.toArray.any (iM x)=aH.any (iM x) by simp,wX r fs];exact q
 ·let(aH,r,pl,hz):=I.tuple hq;refine SeqAt.in_tupleAt (iM x) pl (λ w hw=>wJ rx fx r fs w (hw:)) ⟨.bl _,H,I,rfl,?_⟩;rw[show aH.toArray.any (iM x)=aH.any (iM x) by simp,wX r fs];exact q
def aNL:dE X (xw .NotIn) (rIn X.K true):=by
 intro aB s σ H x y v u Q I rx ry h;let(p,xs,rfl,hq,fx,fs,q):=h;cases ry;rcases hq with hq|hq
 ·let(aH,r,pl,hz):=I.list hq;refine SeqAt.notIn_listAt (iM x) pl.isList (λ w hw=>wJ rx fx r fs w (hw:)) ⟨.bl _,H,I,rfl,?_⟩;rw[show aH.toArray.any (iM x)=aH.any (iM x) by simp,wX r fs];exact q
 ·let(aH,r,pl,hz):=I.tuple hq;refine SeqAt.notIn_tupleAt (iM x) pl (λ w hw=>wJ rx fx r fs w (hw:)) ⟨.bl _,H,I,rfl,?_⟩;rw[show aH.toArray.any (iM x)=aH.any (iM x) by simp,wX r fs];exact q
def aGh:fK X (.builtin "len") (λ xs H Q=>∃ p ys,xs=[.ref p]/\(cK X.K H p ys\/cQ X.K H p ys)/\Q (.int ↑ys) H):=by
 intro aB s σ H xs us Q I r h;let(p,ys,rfl,hq,q):=h;let(u,rfl,rx):=mI r;cases rx;have hn:=rF;rcases hq with hq|hq
 ·let(aH,r',pl,hz):=I.list hq;have cY:=r'.length;exact Calls.call_len_list pl.isList (by simp only[yAi]<;>omega) ⟨.int ↑ys,H,I.tok _,⟨s.toks+1,by rw[yAi,cY]⟩,q⟩
 ·let(aH,r',pl,hz):=I.tuple hq;have cY:=r'.length;exact len_tuple pl (by simp only[yAi]<;>omega) ⟨.int ↑ys,H,I.tok _,⟨s.toks+1,by rw[yAi,cY]⟩,q⟩
def aNG:fK X (.builtin "len") (λ xs H Q=>∃ z,xs=[.str z]/\z.length<=qy/\Q (.int z.length) H):=by intro aB s σ H xs us Q I r h;let(z,rfl,hz,q):=h;let(u,rfl,t,rfl):=mI r;have hn:=rF;exact len_str (!_) ⟨.int z.length,H,I.tok _,⟨_,rfl⟩,q⟩
def aF7:fK X (.type "tuple") (λ xs H Q=>∃ p ys,xs=[.ref p]/\((cK X.K H p ys/\∀ l,H l=qz->Q (.ref l) (bQ H l (.tup ys)))\/(cQ X.K H p ys/\Q (.ref p) H))):=by
 intro aB s σ H xs us Q I r h;let(p,ys,rfl,h):=h;let(u,rfl,rx):=mI r;cases rx;rcases h with ⟨hq,q⟩|⟨hq,q⟩
 ·let(aH,r',pl,hz):=I.list hq;have cY:=r'.length;refine call_tuple_list pl.isList (λ h' kp=>?_) (by simp only[yAi]<;>omega);have I1:Inv X aB σ H {s with heap:=h' }:=I.kept (t':=s.toks) kp;have I2:Inv X aB σ (bQ H h'.objs.size (.tup ys)) {s with heap:=h'.push {cls:=.type "tuple",data:=.seq aH.toArray } }:=
   I1.laid (t':=s.toks) (λ b o e=>hpS _ e) (yAd _) (show iW X.prog X.w _ _ _ (.tup ys) from ⟨hz,aH,r',IsTup.new _ _⟩)
  exact⟨.ref h'.objs.size,_,I2,rfl,q _ (I1.hok.fresh (yAd _))⟩
 ·let(aH,r',pl,hz):=I.tuple hq;exact call_tuple_same pl ⟨.ref p,H,I,rfl,q⟩
def tyV(K:FrG)(T:String)(x:V)(H:Hp):Prop:=match x with
 |.str _=>T = "str"|.int _=>T = "int"
 |.ref p=>(T = "list" /\ ∃ xs,cK K H p xs)\/(T = "tuple" /\ ∃ o,K.lookup p=qq o/\o.cls=.type "tuple" /\ o.dict=qz) \/
    (T = "dict" /\ ((∃ bL,H p=qq (.dK bL))\/∃ bL,H p=qq (.dT bL)))\/(T = "set" /\ ∃ S n,H p=qq (.set S n))
 |_=>False
def aKu(I:Inv X aB σ H s)(r:bM x v)(ty:tyV X.K T x H) :
 s.TypeIs v T/\∀ a,v=.ref a->∃ ob,s.heap.get? a=qq ob/\ob.dict=qz:=by
 cases x with
 |str z=>
   let(t,rfl):=r;cases (show T = "str" from ty);exact⟨typeIs_str s z t,λ _ e=>nomatch e⟩
 |int i=>
   let(t,rfl):=r;cases (show T = "int" from ty);exact⟨wj s i t,λ _ e=>nomatch e⟩
 |ref p=>
   cases r;rcases ty with ⟨rfl,xs,hq⟩|⟨rfl,o,hk,hc,hd⟩|⟨rfl,hk⟩|⟨rfl,S,n,hk⟩
   ·let(aH,_,pl,_):=I.list hq;refine⟨pl.isList.typeIs,λ a e=>?_⟩;cases e;let(o,n,e,c,hd,_):=pl;exact⟨o,e,hd⟩
   ·refine⟨⟨o,I.kIn p o hk,hc⟩,λ a e=>?_⟩;cases e;exact⟨o,I.kIn _ o hk,hd⟩
   ·have z:∃ o,s.heap.get? p=qq o/\o.ExactDict:=by
     rcases hk with ⟨bL,hk⟩|⟨bL,hk⟩
     ·let(_,_,_,_,o,_,_,e,ex,_):=I.hok p _ hk;exact⟨o,e,ex⟩
     ·let(_,_,_,_,o,_,_,e,ex,_):=I.hok p _ hk;exact⟨o,e,ex⟩
    let(o,e,ex):=z;refine⟨⟨o,e,ex.1⟩,λ a e2=>?_⟩;cases e2;exact⟨o,e,ex.2.1⟩
   ·let(o,_,_,_,e,ex,_):=I.hok p _ hk;refine⟨⟨o,e,ex.1⟩,λ a e2=>?_⟩;cases e2;exact⟨o,e,ex.2.1⟩
 |_=>exact False.elim ty
def aZK(K:FrG)(T:String)(r:V->List V->Hp->VK->Prop)(to:TE):TE:=λ σ H Q=>to σ H λ x H1=>tyV K T x H1/\r x [] H1 Q
def tBM(K:FrG)(T:String)(r:V->List V->Hp->VK->Prop)(to:TE)(t:TA):TE:=λ σ H Q=>to σ H λ x H1=>tyV K T x H1/\t σ H1 λ xs H2=>r x xs H2 Q
def aUH{to:TE}{apos cpos:Pos}{id:String}{r:V -> List V -> Hp -> VK -> Prop}(pa:PlainAttrs T)(slot:Slot T name id)(hty:typeOf (.builtin id)=pure (.type "method_descriptor"))(hm:MtR X id r)(ho:PE X o to)(hbase:attributeBase o name X.env (eval o X.env)=eval o X.env:=by rfl)(hline:(apos.endLine==cpos.line)=true:=by rfl):PE X (.Call (.Attribute o name apos) [] [] cpos) (aZK X.K T r to):=by intro aB s σ H Q I h;refine wpAny_Call_method0_late hbase hline (bO (ho aB s σ H _ I h) λ v s1 hPq28=>?_);let(x,H1,I1,r1,ty,q1):=hPq28;let(h1,h2):=aKu I1 r1 ty;exact⟨T,id,pa,slot,hty,h1,h2,Calls.callWith_builtin rfl (PySem.evalArgs_none (hm aB s1 σ H1 x [] v [] Q I1 r1 .nil q1))⟩
def aV1{X:Cx}{o e:qw}{es:List qw}{to:TE}{t:TA}{name:Str}{apos cpos:Pos}{T id:String}{r:V -> List V -> Hp -> VK -> Prop}(pa:PlainAttrs T)(slot:Slot T name id)(hty:typeOf (.builtin id)=pure (.type "method_descriptor"))(hm:MtR X id r)(ho:PE X o to)(ha:PA X (e::es) t)
 (hbase:attributeBase o name X.env (eval o X.env)=eval o X.env:=by rfl)
 (hfew:((backTo cpos (qu (e::es) X.env)).all (λ x=>!x.1)&&(backToKw cpos (keywordEach [] X.env)).all (λ x=>x.1.isSome)
   && decide ((e::es).length+([]:List Keyword).length+(if ([]:List Keyword).isEmpty then 0 else 1)<30))=true:=by rfl)
 (hline:(apos.endLine==cpos.line)=true:=by rfl) (hs:qu (e::es) X.env=(false,eval e X.env)::qu es X.env:=by rfl) (hplain:(backTo cpos (qu es X.env)).any (·.1)=false:=by rfl) :
 PE X (.Call (.Attribute o name apos) (e::es) [] cpos) (tBM X.K T r to t):=by intro aB s σ H Q I h;refine wpAny_Call_method_late hbase hfew hline rfl (bO (ho aB s σ H _ I h) λ v s1 hPq29=>?_);let(x,H1,I1,r1,ty,q1):=hPq29;let(h1,h2):=aKu I1 r1 ty;refine⟨T,id,pa,slot,hty,h1,h2,?_⟩;have hA:=ha cpos aB s1 σ H1 _ I1 q1;rw[hs] at hA ⊢;refine Calls.callWith_builtin (by show(false||(backTo cpos (qu es X.env)).any (·.1))=false;rw[hplain]<;>rfl) (Calls.evalArgs_plain ?_);exact bO hA λ us s2 ⟨vs,H2,I2,r2,q2⟩=>hm aB s2 σ H2 x vs v us Q I2 r1 r2 q2
end L2
namespace L2
open PySem PySem.Spec PyProof.Rows
def MtM(X:Cx)(id:String)(r:V->List V->Hp->VK->Prop):Prop:=
 ∀ (aB:List (qv×Obj)) (s:qj) (σ:St) (H:Hp) (x:V) (xs:List V) (v:qx) (us:List qx) (Q:VK),Inv X aB σ H s->bM x v->bG xs us->r x xs H Q ->
  qk (model X.prog X.w) X.A (call (.builtin id) (v::us)) (EP X aB σ Q) X.xe s
def bG.one:∀ {x:V}{us:List qx},bG [x] us->∃ u,us=[u]/\bM x u
 |_,_,.cons r .nil=>⟨_,rfl,r⟩
def bG.rep{xs:List V}(h:bG xs us):∀ k:Nat,bG (yAg k xs).flatten (yAg k us).flatten
 |0=>.nil
 |k+1=>by
   rw[yAy,yAy,yDi,yDi];exact bG.append h (bG.rep h k)
def aAG(aH:List qx):∀ (k:Nat) (aF:List qx),
 List.foldl (λ x1 x2=>x1++x2) aF.toArray (yAg k aH.toArray)=(aF++(yAg k aH).flatten).toArray
 |0,aF=>by simp
 |k+1,aF=>by
   have e:aF.toArray++aH.toArray=(aF++aH).toArray:=by simp
   have e2:(aF++aH)++(yAg k aH).flatten=aF++(yAg (k+1) aH).flatten:=by
    rw[yAy,yDi,yBq]
   rw[<- e2,<- aAG aH k (aF++aH),<- e,yAy,yAz]
section
variable {X:Cx}{aB:List (qv×Obj)}{σ:St}{H:Hp}{s:qj}{l b:qv}{xs ys zs:List V}
def Inv.lset{aH its':List qx}{f:Array qx->Array qx}(I:Inv X aB σ H s)(hH:H l=qq (.lst xs))(e:s.heap.get? l=qq {cls:=.type "list",data:=.seq aH.toArray n })(hf:f aH.toArray=its'.toArray)(hv:bG ys its')(hz:↑ys<=qy) :
 Inv X aB σ (bQ H l (.lst ys)) {s with heap:=s.heap.update l (Obj.mapSeq f),toks:=t' }:=by have q:=PySem.IsL.update e f;rw[hf] at q;refine I.write (x:=l) (e:=l) (by rw[hH];exact trivial) (.inl rfl) (λ b' u hb hu=>(yCq s.heap (Obj.mapSeq f) (Ne.symm hb)).trans hu) ⟨_,q⟩ ?_;exact⟨hz,its',_,hv,q⟩
def Inv.lnew(I:Inv X aB σ H s)(hv:bG ys aH)(hz:↑ys<=qy) :
 Inv X aB σ (bQ H s.heap.objs.size (.lst ys)) {s with heap:=s.heap.push {cls:=.type "list",data:=.seq aH.toArray },toks:=t' }:=
 I.laid (λ _ _ q=>hpS _ q) (yAd _) ⟨hz,aH,0,hv,xAd _ rfl⟩
def Inv.fresh(I:Inv X aB σ H s):H s.heap.objs.size=qz:=I.hok.fresh (yAd _)
def Inv.lstM(I:Inv X aB σ H s)(hH:H l=qq (.lst xs)):↑xs<=qy/\∃ (aH:List qx) (n:Nat),bG xs aH/\↑xs=aH.length/\s.heap.get? l=qq {cls:=.type "list",data:=.seq aH.toArray n }:=by let(z,aH,n,r,e):=I.hok l _ hH;exact⟨z,aH,n,r,r.length,e⟩
end
def aJg:V->List V->Hp->VK->Prop:=λ x vs H Q=>∃ l xs y,x=.ref l/\vs=[y]/\H l=qq (.lst xs)/\↑xs<qy/\Q .non (bQ H l (.lst (xs++[y])))
def aG7:MtM X "list.append" aJg:=by intro aB s σ H x vs v us Q I rx rv h;let(l,xs,y,rfl,rfl,hH,hz,q):=h;cases rx;let(u,rfl,ru):=rv.one;let(z,aH,n,r,hl,e):=I.lstM hH;refine vw F.slot_list_append ⟨_,e,rfl⟩ F.entry_list_append (F.args_list_append_2 _ _) (PySem.list_append l aH.toArray n u (by rw[yAi];omega)) ⟨e,?_⟩;refine⟨.non,_,I.lset (its':=aH++[u]) hH e (by simp) (r.append (.cons ru .nil)) ?_,rfl,q⟩;rw[xAn,List.length_singleton];omega
def aR6{α:Type}(xs:List α)(k:Nat):(yAg k xs).flatten.length=k*↑xs:=by
 induction k with
 |zero=>simp|succ k ih=>rw[yAy,yDi,xAn,ih,Nat.succ_mul,yDh]
end L2
namespace Att
open PySem PySem.W PySem.Calls PyProof.Rows
def aNp:∀ (ns:List Int) (vs:List qx),WellAll P h vs (ns.map WData.int)->IntsAre vs ns:=by
 intro ns
 induction ns with
 |nil=>
   intro vs w;rw[yGs] at w;cases w;exact .nil
 |cons n ns ih=>
   intro vs w;rw[yAt] at w;cases w with
   |cons a b=>
     cases a;exact .cons _ _ (ih _ b)
def script_of{l:OpenLaw}(hn:l.most=qq n)(hpre:l.row.toRowW.claim.pre args=true)(hwl:WellAll P h vals args) :
 ∃ a vs ns,vals=[Value.ref a]/\args=[WData.list (ns.map WData.int)]/\h.get? a=qq {cls:=.type "list",data:=.seq vs.toArray }/\IntsAre vs ns/\↑ns<=n:=by
 have hsh:WShape.hasAll [] args [.list .int]=true:=(pre_splitW hpre).1;have hc:l.pre.holds [] {args:=args }=true:=(pre_splitW hpre).2;let(d,r,rfl,h1,h2):=hasAllW_cons hsh;obtain rfl:=hasAllW_nil h2;let(xs,rfl,h3):=hasW_list h1;let(ns,rfl):=items_int h3;have cY:↑ns<=n:=by
  unfold OpenLaw.pre at hc;have h4:(WTm.not (.lt (.lit (.int (n:Int))) (.len (.arg 0)))).holds [] {args:=[.list (ns.map .int)] }=true:=by
   have h4:=(holds_andW hc).1;rw[hn] at h4;exact h4
  have h5:=condW_of h4 (w_not (w_lt w_lit (w_len_list (w_arg rfl))));rw[yAb] at h5;refine yGf λ q=>?_
  have q':(n:Int)<((↑ns:Nat):Int):=by omega
  first
   |(rw[dqT q'] at h5;exact absurd h5 (·))
   |(simp at h5;omega)
 cases hwl with
 |cons w1 w2=>
   cases w2;cases w1 with
   |list ho hall=>exact⟨_,_,ns,rfl,rfl,ho,aNp ns _ hall,cY⟩
def post_true(l:OpenLaw)(args:List WData):l.row.toRowW.claim.post args (.bool true) args=true:=
 postW_of (r:=l.row.toRowW) (X:=(true==true))
  (show WShape.has [] (.bool true) .bool=true by first|rfl|decide|simp[WShape.has,WShape.arms,WShape.armsAll])
  (show(WTm.eq .res (.lit (.bool true))).value [] {args:=args,res:=qq (.bool true),after:=args }=qq (.bool (true==true)) from w_eq_bool (w_res rfl) w_lit) rfl
def bAe(h:Heap)(L d:qv):List (qv×Obj):=(yBd h.objs.size).filterMap λ a=>if a=L\/a=d then qz else (h.get? a).map λ o=>(a,o)
end Att
namespace L2
open PySem PySem.Spec PyProof.Rows
def aG0:∀ {vs:List qx}{ns:List Int},IntsAre vs ns->bG (ns.map V.int) vs
 |_,_,.nil=>.nil|_,_,.cons n t h=>.cons ⟨t,rfl⟩ (aG0 h)
def aMR(H:Hp):Prop:=∀ b,H b=qz\/∃ o xs,H b=qq (.frz o (.lst xs))
def law_call{K:FrG}{mg mb:Str->Option qx}{s₁:qj}(KX:K.In s₁.heap)(hns:s₁.heap.Ns xq mg)(hb:s₁.heap.Ns builtinsNs mb)(hbb:∀ x:Str,x ≠ "__name__" -> mb x=xz x)(hlim:s₁.heap.NoLimit)(hg:s₁.gens = #[])(ha:s₁.heap.get? a=qq {cls:=.type "list",data:=.seq vs.toArray })(hi:IntsAre vs ns)(hl:↑ns<=qy)(hr:Room k callerA)(F:∀ base:Heap,K.In base->base.Ns xq mg->FnOk P w K mg base CX k fa fd [x] sp)(hbind:∀ (s:qj) (u:qx),BindsTo s fd ⟨[u],[]⟩ [(x,u)])(hsp:∀ H:Hp,aMR H->cK K H a (ns.map V.int)->sp [.ref a] H (λ v _=>v=.bl true) λ _ _ _=>False)(hCX:∀ H e s',CX [] H s₁ (λ _ _ _=>False) e s'->False) :
 vx (model P w) callerA (.call (.ref fa) ⟨[.ref a],[]⟩) (λ r s'=>r=.ok (.ret (.bool true))/\OldK s₁.heap s'.heap/\s'.os=s₁.os/\AllBare s'.gens) s₁:=by
 have rv:=aG0 hi;have lenV:=hi.length;have core:∀ H:Hp,aMR H->cK K H a (ns.map V.int)->dZ P w H s₁.heap->(∀ b,H b≠qz->b=a)->(H a≠qz->K.lookup a=qz) ->
  vx (model P w) callerA (.call (.ref fa) ⟨[.ref a],[]⟩) (λ r s'=>r=.ok (.ret (.bool true))/\OldK s₁.heap s'.heap/\s'.os=s₁.os/\AllBare s'.gens) s₁:=by
  intro H hO hS hok hA hK;have wV:∀ {b:qv}{o:Obj},s₁.heap.get? b=qq o->H b=qz->(nZ s₁.heap H).get? b=qq o:=λ e n=>aPU e n
  have noA:∀ {b:qv}{o:Obj}{es:Array DictEntry}{ep:Nat},s₁.heap.get? b=qq o->o.data=.dict es ep->H b=qz:=λ {b o es ep} e d=>by
   cases q:H b with
   |none=>rfl
   |some u=>
     have e':b=a:=hA b (by rw[q];simp);subst e';rw[ha] at e;cases e;have d':Data.seq vs.toArray _=Data.dict es ep:=d;cases d'
  have nsK:∀ {b:qv}{m:Str->Option qx},s₁.heap.Ns b m->(nZ s₁.heap H).Ns b m:=λ {b m} ⟨o,es,ep,e,d,r⟩=>⟨o,es,ep,wV e (noA e d),d,r⟩
  have hKb:K.In (nZ s₁.heap H):=λ b o e=>wV (KX b o e) (by
   cases q:H b with
   |none=>rfl
   |some u=>
     have e':b=a:=hA b (by rw[q];simp)
     subst e';rw[hK (by rw[q];simp)] at e;cases e)
  have hM:Mod K mg (nZ s₁.heap H):=⟨hKb,nsK hns,⟨mb,nsK hb,hbb⟩,let ⟨mc,h1,h2⟩:=hlim;⟨mc,nsK h1,h2⟩⟩;have e0:Env0 P w K mg (nZ s₁.heap H) callerA [] s₁ H:=⟨rfl,hM,λ b o e=>aQP e,yHw (aPa _ _),trivial,λ b hb=>absurd (show b∈([]:List qv) from hb) (by simp),hok,.of_eq hg⟩;refine codeAny_mono ((F _ hKb (nsK hns)).run callerA [] s₁ H ⟨[.ref a],[]⟩ [.ref a] [.ref a] _ _ hr e0 (hbind s₁ (.ref a)) (.cons rfl .nil) (hsp H hO hS)) λ r s' h=>?_
  cases r with
  |error e=>exact(hCX H e s' h).elim
  |ok fl=>
    cases fl with
    |next=>exact False.elim h|brk=>exact False.elim h|cont=>exact False.elim h
    |ret u=>
      let(v,H',os,bare,un,hok',r',q):=h;have q':v=.bl true:=q;subst q';obtain rfl:u=Value.bool true:=r';refine⟨rfl,OldK.of_keep λ b o e=>?_,os,bare⟩;cases q:H b with
      |none=>exact un.keep b o e q (by intro z;exact absurd (show b∈([]:List qv) from z) (by simp)) (by simp)
      |some u=>
        rcases hO b with z|⟨ob,xs,z⟩
        ·rw[q] at z;cases z
        ·have z2:=un.frzs b ob _ z;let(e1,_):=hok b _ z;let(e2,_):=hok' b _ z2;rw[e] at e1;cases e1;exact e2
 cases hk:K.lookup a with
 |some o=>
   have e:=KX a o hk;rw[ha] at e;cases e;refine core (λ _=>qz) (λ _=>.inl rfl) (.inr ⟨_,vs.toArray,_,hk,rfl,rfl,rfl,by rw[yAi,lenV];exact hl,by simpa using rv⟩) (λ b u z=>by have z':(qz:Option HO)=qq u:=z;cases z') (λ b z=>absurd rfl z) λ z=>absurd rfl z
 |none=>
   refine core (λ b=>if b=a then qq (.frz {cls:=.type "list",data:=.seq vs.toArray } (.lst (ns.map V.int))) else qz) (λ b=>?_) (.inl (.inr ⟨{cls:=.type "list",data:=.seq vs.toArray },if_pos rfl⟩)) (λ b u z=>?_) (λ b z=>?_) λ _=>hk
   ·by_cases hb:b=a
    ·exact .inr ⟨_,_,if_pos hb⟩
    ·exact .inl (if_neg hb)
   ·by_cases hb:b=a
    ·have z':=(if_pos hb).symm.trans z;cases z';subst hb;exact⟨ha,by rw[yAb];exact hl,vs,_,rv,ha⟩
    ·have z':=(if_neg hb).symm.trans z;cases z'
   ·by_cases hb:b=a
    ·exact hb
    ·exact absurd (if_neg hb) z
end L2
namespace L2
open PySem PySem.Spec PyProof.Rows
noncomputable abbrev KOf{K:FrG}{h:Heap}(_:K.In h):FrG:=K
end L2
namespace L2
open PySem PySem.Spec PyProof.Rows
def pF(s:xj):Arguments:=match s with|.FunctionDef _ a _ _ _ _ _ _ _ _=>a|_=>{posonlyargs:=[],args:=[],vararg:=qz,kwonlyargs:=[],kw_defaults:=[],kwarg:=qz,defaults:=[] }
def lW(s:xj):List xj:=match s with|.FunctionDef _ _ b _ _ _ _ _ _ _=>b|_=>[]
def fJ(s:xj):zv:=match s with|.FunctionDef _ _ _ _ _ _ sc _ _ _=>sc|_=>{kind:=.function,names:=[],isGenerator:=false,isCoroutine:=false }
noncomputable abbrev uV:lJ:=λ _ _ _ _ _ _=>False
noncomputable abbrev E0:XK:=λ _ _ _=>False
def aLd:aBk uV X E0:=λ _ _ _ _ _ _ _ h=>h.elim
structure Fun(K:FrG)(x cS:Str)(st:xj)(f:qv)(fd:ju):Prop where
 ex:∃ (oc:qx) (od:Option qv) (kV doc pm:qx) (an:Option qv) (cdv ct:qx) (osl:Array (Option qx)),
  fd=yDt x cS (pF st) (lW st) (fJ st) .none kV doc pm an cdv ct/\K.lookup f=qq ⟨oc,od,.func fd,osl⟩/\yGc K cdv cS=true
 kp:yDg K (.ref f)=true
variable {K:FrG}
def Fun.ok{P:zq}{w:zx}{mg:Str -> Option qx}{base:Heap}{x cS:Str}{st:xj}{f:qv}{fd:ju}{N ps:List Str}{k:Nat}{sp:Sp}(F:Fun K x cS st f fd)(S:FnScope N ps (fJ st))(len:∀ vs H Q E,sp vs H Q E->↑vs=↑ps)
 (hbody:∀ (cdv:qx) (A:zj) (outer:List Env) (s:qj) (H:Hp) (vs:List V) (Q:VK) (E:XK),Room k (A.deeper (envOfC cS (fJ st) s.heap.objs.size f cdv))->sp vs H Q E ->
   ∃ t,eE (uG uV P w K mg base N cS (fJ st) f cdv A outer s H E).nox (lW st) t/\t {nx:=λ _ H'=>Q .non H',rt:=Q } (start N vs) H):FnOk P w K mg base uV (k+1) f fd ps sp:=by
 let(oc,od,kV,doc,pm,an,cdv,ct,osl,rfl,lk,hcd):=F.ex;refine aYf lk hcd S len λ A outer s H vs Q E hr hsp=>?_
 let(t,h,q):=hbody cdv A outer s H vs Q E hr hsp;exact⟨t,h.nox,q⟩
def Fun.binds{x cS:Str}{st:xj}{f:qv}{fd:ju}{ps:List Str}(F:Fun K x cS st f fd)
 (h:∀ (kV doc pm:qx) (an:Option qv) (cdv ct:qx) (us:List qx),↑us=↑ps->bindArgs (yDt x cS (pF st) (lW st) (fJ st) .none kV doc pm an cdv ct) ⟨us,[]⟩=pure (ps.zip us)):nO K fd ps []:=by let(oc,od,kV,doc,pm,an,cdv,ct,osl,rfl,lk,hcd):=F.ex;exact .all (h kV doc pm an cdv ct)
def aVv{x cS:Str}{st:xj}{f:qv}{oc:qx}{od an:Option qv}{osl:Array (Option qx)}{kV doc pm cdv ct:qx}(l:K.lookup f=qq ⟨oc,od,.func (yDt x cS (pF st) (lW st) (fJ st) .none kV doc pm an cdv ct),osl⟩)
 (c:yGc K cdv cS=true) (k:yDg K (.ref f)=true):Fun K x cS st f (yDt x cS (pF st) (lW st) (fJ st) .none kV doc pm an cdv ct):=⟨⟨oc,od,kV,doc,pm,an,cdv,ct,osl,rfl,l,c⟩,k⟩
def uO{B:Prop}(h:B):if false=true then A else B:=by rw[if_neg yBm];exact h
def uH{B:Prop}(h:A):if true=true then A else B:=by rw[if_pos rfl];exact h
def bY(H H':Hp):Prop:=∀ b o,H b=qq o->H' b=qq o
def bY.refl(H:Hp):bY H H:=λ _ _ h=>h
def bY.trans(a:bY H H1)(b:bY H1 H2):bY H H2:=λ c o h=>b c o (a c o h)
def bY.free(e:bY H H')(h:H' l=Option.none):H l=Option.none:=by
 cases q:H l with
 |none=>rfl
 |some o=>
   rw[e l o q] at h;cases h
def bY.seq{xs:List V}(e:bY H H')(h:cK K H a xs):cK K H' a xs:=by
 rcases h with (h|⟨o,h⟩)|h
 ·exact .inl (.inl (e _ _ h))
 ·exact .inl (.inr ⟨o,e _ _ h⟩)
 ·exact .inr h
end L2
set_option maxHeartbeats 4000000
namespace EV
open PySem L2 PySem.Spec PyProof.Rows
abbrev D:=PyData
inductive W where
 |d (x:D)|loc (n:Nat)|exc (c:Str) (r:D)
abbrev aE:=List (Option (List D))
abbrev bI:=List (Option W)
abbrev St:=L2.St
def aCc(F:Hp)(d:Option qv):D->Prop
 |.none=>d=qz|.int i=>∃ dx,d=qq dx/\F dx=qq (.xd [("row",.int i)])|_=>False
def yS(K:FrG)(F:Hp)(a:qv)(c:Str)(r:D):Prop:=∃ C oe,F a=qq (.ext λ h=>h.get? a=qq oe)/\oe.cls=.ref C/\PySem.W.notCls oe=true/\yEf K xq c=qq (qq (.ref C))/\aCc F oe.dict r
def aCc.mono(e:bY F F')(h:aCc F d r):aCc F' d r:=by
 cases r with
 |none=>exact h
 |int i=>let(dx,h1,h2):=h;exact⟨dx,h1,e _ _ h2⟩
 |_=>exact h
variable {K:FrG}
def yS.mono(e:bY F F')(h:yS K F a c r):yS K F' a c r:=by let(C,oe,h1,h2,h3,h4,h5):=h;exact⟨C,oe,e _ _ h1,h2,h3,h4,h5.mono e⟩
section
variable (K:FrG)(F:Hp)
mutual
inductive Den:D->V->Prop
 |non:Den .none .non
 |bl (b:Bool):Den (.bool b) (.bl b)
 |int (i:Int):Den (.int i) (.int i)
 |str (x:Str):Den (.str x) (.str x)
 |lst {a:qv}{xs:List V}{ds:List D}:cK K F a xs->DenL ds xs->Den (.list ds) (.ref a)
 |tup {a:qv}{xs:List V}{ds:List D}:cQ K F a xs->DenL ds xs->Den (.tuple ds) (.ref a)
 |exc {a:qv}{c:Str}{r:D}:yS K F a c r->Den (.dict [(.str c,r)]) (.ref a)
inductive DenL:List D->List V->Prop
 |nil:DenL [] []
 |cons {d:D}{ds:List D}{x:V}{xs:List V}:Den d x->DenL ds xs->DenL (d::ds) (x::xs)
end
end
def nN{xs:List V}(e:bY H H')(h:cQ K H a xs):cQ K H' a xs:=by
 rcases h with (h|⟨o,h⟩)|h
 ·exact .inl (.inl (e _ _ h))
 ·exact .inl (.inr ⟨o,e _ _ h⟩)
 ·exact .inr h
mutual
theorem Den.mono{K:FrG}{F F':Hp}(e:bY F F'):∀ {d:D}{v:V},Den K F d v->Den K F' d v
 |_,_,.non=>.non|_,_,.bl b=>.bl b|_,_,.int i=>.int i|_,_,.str x=>.str x|_,_,.lst h r=>.lst (e.seq h) (DenL.mono e r)|_,_,.tup h r=>.tup (nN e h) (DenL.mono e r)|_,_,.exc h=>.exc (h.mono e)
theorem DenL.mono{K:FrG}{F F':Hp}(e:bY F F'):∀ {ds:List D}{xs:List V},DenL K F ds xs->DenL K F' ds xs
 |_,_,.nil=>.nil|_,_,.cons h r=>.cons (Den.mono e h) (DenL.mono e r)
end
section
variable {K:FrG}{F:Hp}
def DenL.length:∀ {ds:List D}{xs:List V},DenL K F ds xs->↑ds=↑xs
 |_,_,.nil=>rfl|_,_,.cons _ r=>congrArg (· + 1) (DenL.length r)
def DenL.get:∀ {ds:List D}{xs:List V}{i:Nat}{d:D},DenL K F ds xs->ds[i]?=qq d->∃ x,xs[i]?=qq x/\Den K F d x
 |_,_,_,_,.nil,e=>by simp at e|_,_,0,_,.cons h _,e=>by simp at e;subst e;exact⟨_,rfl,h⟩
 |_,_,i+1,d,.cons _ r,e=>by
   let(x,h1,h2):=DenL.get (i:=i) (d:=d) r (e:);exact⟨x,by simpa using h1,h2⟩
def DenL.append:∀ {ds es:List D}{xs ys:List V},DenL K F ds xs->DenL K F es ys->DenL K F (ds++es) (xs++ys)
 |_,_,_,_,.nil,s=>s|_,_,_,_,.cons h r,s=>.cons h (DenL.append r s)
def DenL.take:∀ {ds:List D}{xs:List V} (n:Nat),DenL K F ds xs->DenL K F (ds.take n) (xs.take n)
 |_,_,0,_=>.nil|_,_,_+1,.nil=>.nil|_,_,n+1,.cons h r=>.cons h (DenL.take n r)
def DenL.drop:∀ {ds:List D}{xs:List V} (n:Nat),DenL K F ds xs->DenL K F (ds.drop n) (xs.drop n)
 |_,_,0,r=>r|_,_,_+1,.nil=>.nil|_,_,n+1,.cons _ r=>DenL.drop n r
def DenL.set:∀ {ds:List D}{xs:List V} (i:Nat) {d:D}{x:V},DenL K F ds xs->Den K F d x->DenL K F (ds.set i d) (xs.set i x)
 |_,_,_,_,_,.nil,_=>.nil|_,_,0,_,_,.cons _ r,h=>.cons h r|_,_,i+1,_,_,.cons q r,h=>.cons q (DenL.set i r h)
def DenL.rep{ds:List D}{xs:List V}(h:DenL K F ds xs):∀ n:Nat,DenL K F (yAg n ds).flatten (yAg n xs).flatten
 |0=>.nil
 |n+1=>by
   rw[yAy,yAy,yDi,yDi];exact h.append (DenL.rep h n)
def DenL.of_ints:∀ (ns:List Int),DenL K F (ns.map yAn) (ns.map V.int)
 |[]=>.nil|n::r=>.cons (.int n) (DenL.of_ints r)
end
structure Rel(K:FrG)(F:Hp)(L:List qv)(S:aE)(H:Hp):Prop where
 sub:bY F H
 nd:L.Nodup
 len:↑L=↑S
 loc:∀ (n:Nat) (a:qv) (ds:List D),L[n]?=qq a->S[n]?=qq (qq ds)->F a=qz/\∃ xs,H a=qq (.lst xs)/\DenL K F ds xs
 tr:∀ (n:Nat) (a:qv),L[n]?=qq a->∃ xs,H a=qq (.lst xs)
def fG(K:FrG)(F:Hp)(L:List qv):W->V->Prop
 |.d x,v=>Den K F x v|.loc n,v=>∃ a,L[n]?=qq a/\v=.ref a|.exc c r,v=>∃ a,v=.ref a/\yS K F a c r
structure EnvR(K:FrG)(F:Hp)(L:List qv)(env:bI)(σ:St):Prop where
 len:env.length=σ.length
 get:∀ (i:Nat) (w:W),env[i]?=qq (qq w)->∃ v,σ[i]?=qq (qq v)/\fG K F L w v
structure Gr(F:Hp)(L:List qv)(F':Hp)(L':List qv):Prop where
 f:bY F F'
 l:∃ M,L'=L++M
def Gr.refl:Gr F L F L:=⟨bY.refl _,[],by simp⟩
def Gr.trans(a:Gr F L F' L')(b:Gr F' L' F'' L''):Gr F L F'' L'':=by let(f1,M,rfl):=a;let(f2,N,rfl):=b;exact⟨f1.trans f2,M++N,by rw[yBq]⟩
def Gr.get{F F':Hp}{L L':List qv}(g:Gr F L F' L'){n:Nat}{a:qv}(h:L[n]?=qq a):L'[n]?=qq a:=by let(_,M,rfl):=g;rw[xAm (gIm h).1];exact h
def fG.mono(g:Gr F L F' L')(h:fG K F L w v):fG K F' L' w v:=by
 cases w with
 |d x=>exact Den.mono g.f h
 |loc n=>let(a,e,r):=h;exact⟨a,g.get e,r⟩
 |exc c r=>let(a,e,h):=h;exact⟨a,e,h.mono g.f⟩
def EnvR.mono(g:Gr F L F' L')(h:EnvR K F L env σ):EnvR K F' L' env σ:=
 ⟨h.len,λ i w e=>let ⟨v,e1,r⟩:=h.get i w e;⟨v,e1,r.mono g⟩⟩
def EnvR.set(h:EnvR K F L env σ)(i:Nat)(r:fG K F L w v):EnvR K F L (env.set i (qq w)) (σ.set i (qq v)):=by
 refine⟨by rw[yBe,yBe];exact h.len,λ j u e=>?_⟩;by_cases hj:i=j
 ·subst hj;have hl:i<env.length:=by
   rcases yGt i env.length with q|q
   ·exact q
   ·rw[yBn (by rw[yBe];exact q)] at e;cases e
  rw[yBb hl] at e;cases e;exact⟨v,yBb (by rw[<- h.len];exact hl),r⟩
 ·rw[yBa hj] at e;let(x,e1,r1):=h.get j u e;exact⟨x,by rw[yBa hj];exact e1,r1⟩
def gC(h:H p=qz):bY H (bQ H p o):=λ b u q=>by rw[bT (eN q h)];exact q
def Rel.new(r:Rel K F L S H)(h:H p=qz):Rel K (bQ F p o) L S (bQ H p o):=by
 have hF:F p=qz:=r.sub.free h;refine⟨λ b u q=>?_,r.nd,r.len,λ n a ds e1 e2=>?_,λ n a e=>?_⟩
 ·by_cases hb:b=p
  ·subst hb;rw[eH] at q ⊢;exact q
  ·rw[bT hb] at q ⊢;exact r.sub _ _ q
 ·let(f,xs,e3,dl):=r.loc n a ds e1 e2;have ne:a≠p:=eN e3 h;exact⟨by rw[bT ne];exact f,xs,by rw[bT ne];exact e3,DenL.mono (gC hF) dl⟩
 ·let(xs,hx):=r.tr n a e;exact⟨xs,by rw[bT (eN hx h)];exact hx⟩
def Gr.new(h:F p=qz):Gr F L (bQ F p o) L:=⟨gC h,[],by simp⟩
def Rel.newLoc(r:Rel K F L S H){xs:List V}(h:H p=qz)(dl:DenL K F ds xs):Rel K F (L++[p]) (S++[qq ds]) (bQ H p (.lst xs)):=by
 have hF:F p=qz:=r.sub.free h;refine⟨λ b u q=>?_,?_,by rw[xAn,xAn,r.len]<;>rfl,λ n a es e1 e2=>?_,λ n a e=>?_⟩
 ·rw[bT (eN q hF)];exact r.sub _ _ q
 ·rw[yHh];refine⟨r.nd,by simp,λ a ha b hb=>?_⟩;rw[yEr] at hb;subst hb;let(n,hn):=yDy ha;let(xs,hx):=r.tr n a hn;exact eN hx h
 ·by_cases hn:n<↑L
  ·rw[xAm hn] at e1;rw[xAm (by rw[<- r.len];exact hn)] at e2;let(f,ys,e3,dl'):=r.loc n a es e1 e2;exact⟨f,ys,by rw[bT (eN e3 h)];exact e3,dl'⟩
  ·rw[yAf (!_)] at e1;rw[yAf (by rw[<- r.len];omega)] at e2;have z:n-↑L=0:=by
    have:=(gIm e1).1;simp at this;omega
   rw[<- r.len] at e2;rw[z] at e1 e2;simp at e1 e2;subst e1 e2;exact⟨hF,xs,eH,dl⟩
 ·by_cases hn:n<↑L
  ·rw[xAm hn] at e;let(ys,hy):=r.tr n a e;exact⟨ys,by rw[bT (eN hy h)];exact hy⟩
  ·rw[yAf (!_)] at e;have z:a=p:=by
    have h1:=xAk e;simpa using h1
   exact⟨xs,by rw[z];exact eH⟩
def Rel.lay(r:Rel K F L S H)(h:H p=qz):Rel K F L S (bQ H p o):=by
 refine⟨λ b u q=>by rw[bT (eN q (r.sub.free h))];exact r.sub _ _ q,r.nd,r.len,λ n a ds e1 e2=>?_,λ n a e=>?_⟩
 ·let(f,xs,e3,dl):=r.loc n a ds e1 e2;exact⟨f,xs,by rw[bT (eN e3 h)];exact e3,dl⟩
 ·let(xs,hx):=r.tr n a e;exact⟨xs,by rw[bT (eN hx h)];exact hx⟩
def Rel.notin(r:Rel K F L S H)(h:H p=qz):p ∉ L:=λ hp=>by
 let(n,hn):=yDy hp;let(xs,hx):=r.tr n p hn;rw[h] at hx;cases hx
def Rel.adopt(r:Rel K F L S H){xs:List V}(hF:F p=qz)(hL:p ∉ L)(hH:H p=qq (.lst xs)):Rel K (bQ F p (.lst xs)) L S H:=by
 refine⟨λ b u q=>?_,r.nd,r.len,λ n a ds e1 e2=>?_,r.tr⟩
 ·by_cases hb:b=p
  ·subst hb;rw[eH] at q;rw[hH];exact q
  ·rw[bT hb] at q;exact r.sub _ _ q
 ·let(f,ys,e3,dl):=r.loc n a ds e1 e2;have ne:a≠p:=λ z=>hL (by rw[<- z];exact xAk e1)
  exact⟨by rw[bT ne];exact f,ys,e3,dl.mono (gC hF)⟩
def Rel.adoptLoc(r:Rel K F L S H){xs:List V}(hF:F p=qz)(hL:p ∉ L)(hH:H p=qq (.lst xs))(dl:DenL K F ds xs):Rel K F (L++[p]) (S++[qq ds]) H:=by
 refine⟨r.sub,?_,by rw[xAn,xAn,r.len]<;>rfl,λ n a es e1 e2=>?_,λ n a e=>?_⟩
 ·rw[yHh];refine⟨r.nd,by simp,λ a ha b hb=>?_⟩;rw[yEr] at hb;subst hb;exact λ z=>hL (z▸ha)
 ·by_cases hn:n<↑L
  ·rw[xAm hn] at e1;rw[xAm (by rw[<- r.len];exact hn)] at e2;exact r.loc n a es e1 e2
  ·rw[yAf (!_)] at e1;rw[yAf (by rw[<- r.len];omega)] at e2;have z:n-↑L=0:=by
    have:=(gIm e1).1;simp at this;omega
   rw[<- r.len] at e2;rw[z] at e1 e2;simp at e1 e2;subst e1 e2;exact⟨hF,xs,hH,dl⟩
 ·by_cases hn:n<↑L
  ·rw[xAm hn] at e;exact r.tr n a e
  ·rw[yAf (!_)] at e;have z:a=p:=by
    have h1:=xAk e;simpa using h1
   exact⟨xs,by rw[z];exact hH⟩
def Gr.newLoc:Gr F L F (L++[p]):=⟨bY.refl _,[p],rfl⟩
def Rel.put(r:Rel K F L S H)(e:L[n]?=qq a)(hF:F a=qz)(dl:DenL K F es ys):Rel K F L (S.set n (qq es)) (bQ H a (.lst ys)):=by
 refine⟨λ b u q=>by rw[bT (eN q hF)];exact r.sub _ _ q,r.nd,by rw[yBe];exact r.len,λ m b fs e1 e2=>?_,λ m b e1=>?_⟩
 ·by_cases hm:n=m
  ·subst hm;rw[e] at e1;cases e1;have hl:n<↑S:=by rw[<- r.len];exact(gIm e).1
   rw[yBb hl] at e2;cases e2;exact⟨hF,ys,eH,dl⟩
  ·rw[yBa hm] at e2;have ne:b≠a:=λ z=>by
    subst z;have h1:=(gIm e);have h2:=(gIm e1);let(l1,g1):=h1;let(l2,g2):=h2;exact hm ((yHq r.nd).mp (g1.trans g2.symm))
   let(f,xs,e3,d3):=r.loc m b fs e1 e2;exact⟨f,xs,by rw[bT ne];exact e3,d3⟩
 ·by_cases hb:b=a
  ·exact⟨ys,by rw[hb];exact eH⟩
  ·let(zs,hz):=r.tr m b e1;exact⟨zs,by rw[bT hb];exact hz⟩
def Rel.freeze{F H:Hp}{L:List qv}{S:aE}(r:Rel K F L S H){n:Nat}{a:qv}{ds:List D}(e:L[n]?=qq a)(es:S[n]?=qq (qq ds)) :
 ∃ F',Gr F L F' L/\Rel K F' L (S.set n qz) H/\Den K F' (.list ds) (.ref a):=by
 let(hF,xs,e3,dl):=r.loc n a ds e es;refine⟨bQ F a (.lst xs),Gr.new hF,⟨λ b u q=>?_,r.nd,by rw[yBe];exact r.len,λ m b fs e1 e2=>?_,r.tr⟩,.lst (cK.of eH) (dl.mono (gC hF))⟩
 ·by_cases hb:b=a
  ·subst hb;rw[eH] at q;rw[e3];exact q
  ·rw[bT hb] at q;exact r.sub _ _ q
 ·by_cases hm:n=m
  ·subst hm;have hl:n<↑S:=(gIm es).1;rw[yBb hl] at e2;cases e2
  ·rw[yBa hm] at e2;have ne:b≠a:=λ z=>by
    subst z;let(l1,g1):=gIm e;let(l2,g2):=gIm e1;exact hm ((yHq r.nd).mp (g1.trans g2.symm))
   let(f,ys,e4,d4):=r.loc m b fs e1 e2;exact⟨by rw[bT ne];exact f,ys,e4,d4.mono (gC hF)⟩
def Rel.cut(r:Rel K F (L++M) S H):Rel K F L (S.take ↑L) H:=by
 have hl:↑L<=↑S:=by have:=r.len;rw[xAn] at this;omega
 refine⟨r.sub,(List.nodup_append.mp r.nd).1,by rw[yBk];omega,λ n a ds e1 e2=>?_,λ n a e1=>?_⟩
 ·have hn:n<↑L:=(gIm e1).1;rw[yDa hn] at e2;exact r.loc n a ds (by rw[xAm hn];exact e1) e2
 ·have hn:n<↑L:=(gIm e1).1;exact r.tr n a (by rw[xAm hn];exact e1)
def bW(K:FrG)(F H:Hp)(x:D)(v:V):Prop:=Den K F x v\/∃ ds a xs,x=.list ds/\v=.ref a/\H a=qq (.lst xs)/\DenL K F ds xs
def dr(S:aE):W->Option D
 |.d x=>qq x
 |.loc n=>match S[n]? with
   |some (qq ds)=>qq (.list ds)|_=>qz
 |.exc _ _=>qz
def kW(r:Rel K F L S H)(h:fG K F L w v)(e:dr S w=qq x):bW K F H x v:=by
 cases w with
 |d y=>cases e;exact .inl h|exc c r=>cases e
 |loc n=>
   let(a,e1,rfl):=h;cases e2:S[n]? with
   |none=>simp[dr,e2] at e
   |some o=>
     cases o with
     |none=>simp[dr,e2] at e
     |some ds=>
       simp[dr,e2] at e;subst e;let(f,xs,e3,dl):=r.loc n a ds e1 e2;exact .inr ⟨ds,a,xs,rfl,rfl,e3,dl⟩
def bW.non(h:bW K F H .none v):v=.non:=by
 rcases h with h|⟨_,_,_,e,_⟩
 ·cases h;rfl
 ·cases e
def bW.bl(h:bW K F H (.bool b) v):v=.bl b:=by
 rcases h with h|⟨_,_,_,e,_⟩
 ·cases h;rfl
 ·cases e
def bW.int{i:Int}(h:bW K F H (.int i) v):v=.int i:=by
 rcases h with h|⟨_,_,_,e,_⟩
 ·cases h;rfl
 ·cases e
def bW.str(h:bW K F H (.str x) v):v=.str x:=by
 rcases h with h|⟨_,_,_,e,_⟩
 ·cases h;rfl
 ·cases e
def bW.lst{F H:Hp}{v:V}{ds:List D}(s:bY F H)(h:bW K F H (.list ds) v):∃ a xs,v=.ref a/\cK K H a xs/\DenL K F ds xs:=by
 rcases h with h|⟨_,a,xs,e,e2,e3,dl⟩
 ·cases h with|lst q r=>exact⟨_,_,rfl,s.seq q,r⟩
 ·cases e;exact⟨a,xs,e2,cK.of e3,dl⟩
def bW.tup{F H:Hp}{v:V}{ds:List D}(s:bY F H)(h:bW K F H (.tuple ds) v):∃ a xs,v=.ref a/\cQ K H a xs/\DenL K F ds xs:=by
 rcases h with h|⟨_,_,_,e,_⟩
 ·cases h with|tup q r=>exact⟨_,_,rfl,nN s q,r⟩
 ·cases e
def aNm:fillsNumberSlot (.type "tuple") "mul" = pure false:=
 PySem.fillsNumberSlot_seq (id:="tuple.__mul__") (r:=qq (.builtin "tuple.__rmul__")) PySem.F.slot_tuple_mul.lookup (by decide +kernel) PySem.F.slot_tuple_rmul.lookup (by decide +kernel)
def aNC:seqRepeat? (.type "tuple")=pure (qq (.builtin "tuple.__mul__")):=by unfold seqRepeat?;rw[PySem.seqSlot_of (T:="tuple") (name:="__mul__") (id:="tuple.__mul__") PySem.F.slot_tuple_mul.lookup (by decide +kernel),PySem.seqSlot_of (T:="tuple") (name:="__rmul__") (id:="tuple.__rmul__") PySem.F.slot_tuple_rmul.lookup (by decide +kernel)];rfl
def aNu(a:Int)(t:Tok)(l:qv)(aX:Array qx)(n:Nat)(d:Option qv)(sl:Array (Option qx)) :
 Meets (Builtin.«int.__rmul__» ⟨[.int a t,.ref l],[]⟩) (λ _ R s=>s.heap.get? l=qq {cls:=.type "tuple",dict:=d,data:=.seq aX n,slots:=sl }/\R (.ok (.ret Value.notImplemented)) s):=
 .of_wp λ prog w A R s h=>by let(hp,g,d,tk,os):=s;let(hl,h):=h;wp_walk;exact⟨_,rfl,h⟩
def aNA(l:qv)(aX:Array qx)(n:Nat)(d:Option qv)(sl:Array (Option qx))(t:Tok) :
 Meets (Builtin.«tuple.__mul__» ⟨[.ref l,.int 1 t],[]⟩) (λ _ R s=>s.heap.get? l=qq {cls:=.type "tuple",dict:=d,data:=.seq aX n,slots:=sl }/\R (.ok (.ret (.ref l))) s):=
 .of_wp λ prog w A R s h=>by
  let(hp,g,d,tk,os):=s;let(hl,h):=h
  wp_walk
  exact⟨_,rfl,h⟩
def aNt(l:qv)(x:qx)(n:Nat)(d:Option qv)(sl:Array (Option qx))(t:Tok) :
 Meets (Builtin.«tuple.__mul__» ⟨[.ref l,.int 0 t],[]⟩) (λ _ R s=>s.heap.get? l=qq {cls:=.type "tuple",dict:=d,data:=.seq #[x] n,slots:=sl }/\R (.ok (.ret (.ref s.heap.objs.size))) {s with heap:=s.heap.push {cls:=.type "tuple",data:=.seq #[] } }):=
 .of_wp λ prog w A R s h=>by
  let(hp,g,d,tk,os):=s;let(hl,h):=h
  wp_walk
  exact⟨_,rfl,h⟩
def aAG(x:qx):∀ (k:Nat) (aF:Array qx),(yAg k #[x]).foldl (· ++ ·) aF=aF++(yAg k x).toArray
 |0,aF=>by simp
 |k+1,aF=>by
   rw[yAy,yAz,aAG x k];apply Array.ext';simp[yAy]
def aNy(l:qv)(x:qx)(n:Nat)(d:Option qv)(sl:Array (Option qx))(k:Nat)(hk:2<=k)(hk2:k<=1000)(t:Tok) :
 Meets (Builtin.«tuple.__mul__» ⟨[.ref l,.int k t],[]⟩) (λ _ R s=>s.heap.get? l=qq {cls:=.type "tuple",dict:=d,data:=.seq #[x] n,slots:=sl }/\R (.ok (.ret (.ref s.heap.objs.size))) {s with heap:=s.heap.push {cls:=.type "tuple",data:=.seq (yAg k x).toArray } }):=
 .of_wp λ prog w A R s h=>by
  let(hp,g,d,tk,os):=s;let(hl,h):=h;have c1:(decide (((k:Nat):Int) < -(2^63))||decide (((k:Nat):Int) ≥ 2^63))=false:=by simp;omega
  have c2:(((k:Nat):Int)==1)=false:=by rw[beq_eq_false_iff_ne];omega
  have c3:decide (((k:Nat):Int)<=0)=false:=dqF (!_);have c4:((#[x]:Array qx).isEmpty||(((k:Nat):Int)==1))=false:=by rw[c2];rfl
  have c5:(decide (((k:Nat):Int)<=0)||(#[x]:Array qx).isEmpty)=false:=by rw[c3];rfl
  have c6:¬ (((#[x]:Array qx).size:Int)*((k:Nat):Int)>(2^63-1)/8):=by
   show ¬ (((1:Nat):Int)*((k:Nat):Int)>(2^63-1)/8);omega
  have hsz:qy=16777216:=by decide
  have c7:yGp (((#[x]:Array qx).size:Int)*((k:Nat):Int))=false:=by
   unfold yGp;refine dqF ?_;show ¬ (((1:Nat):Int)*((k:Nat):Int)>((qy:Nat):Int));omega
  wp_walk
  rw[if_neg (by rw[c1];exact yBm)];refine wB (wpAny_tupleItemsOf hl rfl ?_);simp only[c4,c5,c6,c7,yAx,if_false];rw[yAu,aAG,show(#[]:Array qx)++(yAg k x).toArray=(yAg k x).toArray by simp];refine wB (m:=yDb _) (zo (wP ⟨_,rfl,h⟩) ?_);show(yAg k x).toArray.size<=qy;rw[yAi,yCw,hsz];omega
section
variable {X:Cx}{aB:List (qv×Obj)}{σ:L2.St}{H:Hp}{s:qj}{Q:VK}
def aIa(r:bM x u):∀ k:Nat,bG (yAg k x) (yAg k u)
 |0=>.nil|k+1=>.cons r (aIa r k)
def aZc(I:Inv X aB σ H s)(ha:cQ X.K H a [x])(hk:k<=1000)(q1:k=1->Q (.ref a) H)(q:∀ p,H p=qz->Q (.ref p) (bQ H p (.tup (yAg k x)))):qk (model X.prog X.w) X.A (zw .Mult (.ref a) (.int k t)) (EP X aB σ Q) X.xe s:=by
 let(aH,r1,p1,_):=I.tuple ha;obtain⟨u,rfl,ru⟩:∃ u,aH=[u]/\bM x u:=by
  cases r1 with
  |cons r r'=>cases r';exact⟨_,rfl,r⟩
 let((cls,d,data,sl),ho,hcl,n,hd):=p1;simp only at hcl hd;subst hcl hd;have hsz:qy=16777216:=by decide
 have cH:∀ (aH:List qx),aH=yAg k u->EP X aB σ Q (.ref s.heap.objs.size) {s with heap:=s.heap.push {cls:=.type "tuple",data:=.seq aH.toArray } }:=λ aH e=>by
  subst e;exact⟨.ref _,_,I.laid (t':=s.toks) (o:=.tup (yAg k x)) (λ b ob q=>hpS _ q) (yAd _) ⟨by rw[yCw,hsz];omega,_,aIa ru k,⟨_,xAd _ rfl,rfl,0,rfl⟩⟩,rfl,q _ (I.hok.fresh (yAd _))⟩
 refine wu (T:="tuple") (U:="int") (·) ⟨_,ho,rfl⟩ (λ s'=>wj s' k t) aNm PySem.F.fills_int_mul yEs aNC PySem.F.slot_int_index.lookup
  (vw yEs (wj s k t) PySem.F.entry_int_rmul (PySem.F.args_int_rmul_2 _ _) (aNu k t a _ n d sl)
    ⟨ho,rfl,⟨_,ho,rfl⟩,?_⟩)
 by_cases h1:k=1
 ·subst h1;exact vw yFy ⟨_,ho,rfl⟩ yFs (yFn _ _) (aNA a _ n d sl t) ⟨ho,.ref a,H,I,rfl,q1 rfl⟩
 ·by_cases h0:k=0
  ·subst h0;exact vw yFy ⟨_,ho,rfl⟩ yFs (yFn _ _) (aNt a u n d sl t) ⟨ho,cH [] rfl⟩
  ·exact vw yFy ⟨_,ho,rfl⟩ yFs (yFn _ _) (aNy a u n d sl k (!_) hk t) ⟨ho,cH _ rfl⟩
end
def pQ(i j:Int):Bool:=!(decide (yAm i>vo)&&decide (yAm j>vo)&&Builtin.Int.intTooBig (yAm i+yAm j))
def zG{α:Type}(n:Nat)(xs:List α):List α:=(yAg n xs).flatten
def aFa:D->D->Option D
 |.int i,.int j=>qq (.int (i+j))
 |.str x,.str y=>if x.length+y.length<=qy then qq (.str (x++y)) else qz
 |.tuple [],.tuple ys=>qq (.tuple ys)
 |.tuple xs,.tuple ys=>if xs.isEmpty=false/\↑xs+↑ys<=qy then qq (.tuple (xs++ys)) else qz
 |.list xs,.list ys=>if ↑xs+↑ys<=qy then qq (.list (xs++ys)) else qz
 |_,_=>qz
def aFi:D->D->Option D
 |.int i,.int j=>if pQ i j=true then qq (.int (i*j)) else qz
 |.list xs,.int k=>if k<2^63 /\ -(2^63)<=k/\↑xs*k.toNat<=qy then qq (.list (zG k.toNat xs)) else qz
 |.tuple [x],.int k=>if 0<=k/\k<=1000 then qq (.tuple (yAg k.toNat x)) else qz
 |_,_=>qz
def i2{α:Type}(f:Int->Int->Option α):D->D->Option α
 |.int i,.int j=>f i j|_,_=>qz
def lZ{α:Type}{f:Int->Int->Option α}{i j:Int}:i2 f (.int i) (.int j)=f i j:=rfl
def jD{α:Type}{f:Int->Int->Option α}{z:α}(h:i2 f x y=qq z):∃ i j,x=.int i/\y=.int j/\f i j=qq z:=by
 cases x<;>first|(cases h;done)|skip
 cases y<;>first|(cases h;done)|exact⟨_,_,rfl,rfl,h⟩
def jU:D->Bool
 |.none=>true|_=>false
def aH9(h:jU x=true):x=.none:=by cases x<;>first|rfl|cases h
def cB(op:jj)(x y:D):Option D:=match op with
 |.Add=>aFa x y|.Sub=>i2 (λ i j=>qq (.int (i-j))) x y|.Mult=>aFi x y|.MatMult=>qz|.Div=>qz
 |.Mod=>i2 (λ i j=>if j≠0 then qq (.int (i.fmod j)) else qz) x y
 |.Pow=>i2 (λ i j=>if 0<=j/\j<=1000000/\i.natAbs<2^64 then qq (.int (i^j.toNat)) else qz) x y
 |.LShift=>i2 (λ i j=>if 0<=j/\(yAm i:Int)+j<=2^27 then qq (.int (i*2^j.toNat)) else qz) x y
 |.RShift=>i2 (λ i j=>if 0<=j then qq (.int (i/2^j.toNat)) else qz) x y
 |.BitOr=>i2 (λ i j=>qq (.int (yHm i j))) x y|.BitXor=>i2 (λ i j=>qq (.int (yHc i j))) x y|.BitAnd=>i2 (λ i j=>qq (.int (yEq i j))) x y
 |.FloorDiv=>i2 (λ i j=>if j≠0/\yDe i j=false then qq (.int (i.fdiv j)) else qz) x y
def sK:wz->D->Option D
 |.USub,.int i=>qq (.int (-i))|.Invert,.int i=>qq (.int (yBt i))|_,_=>qz
def jW:D->Bool
 |.none|.bool _|.int _|.str _=>true
 |_=>false
def qZ:List D->Bool
 |[]=>true|d::r=>jW d&&qZ r
def inD(x:D):List D->Bool
 |[]=>false|y::r=>yCd y x||inD x r
def aEJ:D->Option (List D)
 |.list xs=>qq xs|.tuple xs=>qq xs|_=>qz
def uK:D->D->Option Bool
 |.bool a,.bool b=>qq (a==b)|_,_=>qz
def aHf(h:uK x y=qq b):∃ p q,x=.bool p/\y=.bool q/\b=(p==q):=by
 unfold uK at h;split at h
 ·rename_i p q;exact⟨p,q,rfl,rfl,(Option.some.inj h).symm⟩
 ·cases h
def qA(op:jk)(x y:D):Option Bool:=match op with
 |.Eq=>if x.canLay0=true/\y.canLay0=true/\x.depth<=60 then qq (yCd x y) else qz
 |.NotEq=>if x.canLay0=true/\y.canLay0=true/\x.depth<=60 then qq (!yCd x y) else qz
 |.Lt=>i2 (λ i j=>qq (decide (i<j))) x y|.LtE=>i2 (λ i j=>qq (decide (i<=j))) x y|.Gt=>i2 (λ i j=>qq (decide (j<i))) x y|.GtE=>i2 (λ i j=>qq (decide (j<=i))) x y
 |.Is=>if jU y=true then qq (jU x) else uK x y
 |.IsNot=>if jU y=true then qq (!jU x) else (uK x y).bind λ b=>qq (!b)
 |.In=>(aEJ y).bind λ ys=>if jW x=true/\qZ ys=true then qq (inD x ys) else qz
 |.NotIn=>(aEJ y).bind λ ys=>if jW x=true/\qZ ys=true then qq (!inD x ys) else qz
def sE:D->Option Bool
 |.none=>qq false|.bool b=>qq b|.int i=>qq (i != 0)
 |.str x=>if x.length<=qy then qq ((x.length:Int) != 0) else qz
 |.list xs=>qq (!xs.isEmpty)|.tuple xs=>qq (!xs.isEmpty)|.dict _=>qz
section
variable {X:Cx}{aB:List (qv×Obj)}{s:qj}{σ:L2.St}{H:Hp}{x y:V}{v u:qx}{Q:VK}{F:Hp}{L:List qv}{S:aE}{dx dy z:D}
abbrev fV(X:Cx)(F:Hp)(L:List qv)(S:aE)(z:D)(Q:VK):Prop:=∀ F' H' r,bY F F'->Rel X.K F' L S H'->Den X.K F' z r->Q r H'
abbrev aB8(X:Cx)(F:Hp)(H:Hp)(zs:List D)(Q:VK):Prop:=∀ p xs,H p=qz->DenL X.K F zs xs->Q (.ref p) (bQ H p (.lst xs))
def fV.here(R:Rel X.K F L S H)(q:fV X F L S z Q)(h:Den X.K F z r):Q r H:=q F H r (bY.refl _) R h
def aB8.out{zs:List D}(R:Rel X.K F L S H)(q:fV X F L S (.list zs) Q):aB8 X F H zs Q:=λ p xs hp dl=>
 q _ _ _ (gC (R.sub.free hp)) (R.new hp) (.lst (cK.of eH) (dl.mono (gC (R.sub.free hp))))
def fV.tup{zs:List D}(R:Rel X.K F L S H)(q:fV X F L S (.tuple zs) Q){p:qv}{xs:List V}(hp:H p=qz)(dl:DenL X.K F zs xs):Q (.ref p) (bQ H p (.tup xs)):=
 q _ _ _ (gC (R.sub.free hp)) (R.new hp) (.tup (cQ.of eH) (dl.mono (gC (R.sub.free hp))))
def aZI{xs:List V}(I:Inv X aB σ H s)(ha:cK X.K H a xs)(hb:cK X.K H b ys)(hz:↑xs+↑ys<=qy)(q:∀ p,H p=qz->Q (.ref p) (bQ H p (.lst (xs++ys)))):qk (model X.prog X.w) X.A (zw .Add (.ref a) (.ref b)) (EP X aB σ Q) X.xe s:=by
 let(aH,r1,p1,_):=I.list ha;let(vG,r2,p2,_):=I.list hb;let((cls,dd,data,sl),ho,hc,n,hd):=p1.isList;let((cls2,dd2,data2,sl2),ho2,hc2,n2,hd2):=p2.isList;simp only at hc hd hc2 hd2;subst hc hd hc2 hd2;have e:aH.toArray++vG.toArray=(aH++vG).toArray:=by simp
 refine concat_meets ⟨_,ho,rfl⟩ ⟨_,ho2,rfl⟩ noFill_list_add seq_list_add PySem.F.slot_list_add PySem.F.entry_list_add (PySem.F.args_list_add_2 _ _) (list_addW a b aH.toArray vG.toArray n n2 dd dd2 sl sl2 (by rw[yAi,yAi,<- r1.length,<- r2.length];exact hz)) ⟨ho,ho2,?_⟩;rw[e];exact⟨.ref _,_,I.lnew (t':=s.toks) (r1.append r2) (by rw[xAn];omega),rfl,q _ I.fresh⟩
def aMk{xs:List V}{k:Int}(I:Inv X aB σ H s)(ha:cK X.K H a xs)(h1 : -(2^63)<=k)(h2:k<2^63)(hz:↑xs*k.toNat<=qy)(q:∀ p,H p=qz->Q (.ref p) (bQ H p (.lst (yAg k.toNat xs).flatten))):qk (model X.prog X.w) X.A (zw .Mult (.ref a) (.int k t)) (EP X aB σ Q) X.xe s:=by
 let(aH,r1,p1,_):=I.list ha;let((cls,d,data,sl),ho,hcl,n,hd):=p1.isList;simp only at hcl hd;subst hcl hd;have hsz:aH.toArray.size*k.toNat<=2^24:=by
  rw[yAi,<- r1.length];have:qy=2^24:=rfl;rw[<- this];exact hz
 refine wu (T:="list") (U:="int") (·) ⟨_,ho,rfl⟩ (λ s'=>wj s' k t) noFill_list_mul PySem.F.fills_int_mul yEs repeat_list PySem.F.slot_int_index.lookup
  (vw yEs (wj s k t) PySem.F.entry_int_rmul (PySem.F.args_int_rmul_2 _ _) (lm_int_rmul_list_any k t a aH.toArray n d sl)
    ⟨ho,rfl,⟨_,ho,rfl⟩,vw PySem.F.slot_list_mul ⟨_,ho,rfl⟩ PySem.F.entry_list_mul (PySem.F.args_list_mul_2 _ _)
     (lm_list_mul_any a aH.toArray n d sl k t (by simp[Builtin.List.listFitsIndex];omega) (!_) (by simp[Builtin.List.listTooLong,qy];simpa using hsz))
     ⟨ho,?_⟩⟩)
 rw[listMul_foldl_if];exact⟨.ref _,_,I.lnew (t':=s.toks) (r1.rep k.toNat) (by rw[aR6,yFo];exact hz),rfl,q _ I.fresh⟩
def aYy(I:Inv X aB σ H s)(ha:cQ X.K H a [])(hb:cQ X.K H b ys)(q:Q (.ref b) H):qk (model X.prog X.w) X.A (zw .Add (.ref a) (.ref b)) (EP X aB σ Q) X.xe s:=by let(aH,r1,p1,_):=I.tuple ha;let(vG,r2,p2,_):=I.tuple hb;cases r1;let((cls,dd,data,sl),ho,hc,n,hd):=p1;let((cls2,dd2,data2,sl2),ho2,hc2,n2,hd2):=p2;simp only at hc hd hc2 hd2;subst hc hd hc2 hd2;exact concat_meets ⟨_,ho,rfl⟩ ⟨_,ho2,rfl⟩ noFill_tuple_add seq_tuple_add yFx yFr (yFm _ _) (tuple_addW0 a b _ vG.toArray n n2 dd dd2 sl sl2 rfl) ⟨ho,ho2,⟨.ref b,H,I,rfl,q⟩⟩
def aTM(I:Inv X aB σ H s)(rx:bM x v)(ry:bM y u)(R:Rel X.K F L S H)(nx:bW X.K F H dx x)(ny:bW X.K F H dy y)(e:aFa dx dy=qq z)(q:fV X F L S z Q) :
 qk (model X.prog X.w) X.A (zw .Add v u) (EP X aB σ Q) X.xe s:=by
 unfold aFa at e;split at e
 ·rename_i i j;cases e;exact aUd aB s σ H x y v u Q I rx ry ⟨i,j,nx.int,ny.int,q.here R (.int _)⟩
 ·rename_i a b;split at e
  ·rename_i c;cases e;exact aOp aB s σ H x y v u Q I rx ry ⟨a,b,nx.str,ny.str,c,q.here R (.str _)⟩
  ·cases e
 ·rename_i ys;cases e;let(a,vs,rfl,h1,d1):=nx.tup R.sub;let(b,ws,rfl,h2,d2):=ny.tup R.sub;cases d1;cases rx;cases ry;refine aYy I h1 h2 (q F H _ (bY.refl _) R ?_);rcases ny with ny|⟨_,_,_,e,_⟩
  ·exact ny
  ·cases e
 ·rename_i xs ys _;split at e
  ·rename_i c;cases e;let(a,vs,rfl,h1,d1):=nx.tup R.sub;let(b,ws,rfl,h2,d2):=ny.tup R.sub;have hne:vs≠[]:=λ z=>by
    have:=d1.length;rw[z] at this;cases xs with
    |nil=>simp at c|cons _ _=>simp at this
   refine aR5 aB s σ H _ _ v u Q I rx ry ⟨a,b,vs,ws,rfl,rfl,h1,h2,hne,by rw[<- d1.length,<- d2.length];exact c.2,λ z=>?_,λ z p hp=>?_⟩
   ·have:ys=[]:=by
     have h:=d2.length;rw[z] at h;exact List.eq_nil_of_length_eq_zero h
    subst this;refine q F H _ (bY.refl _) R ?_;rw[yDz];rcases nx with nx|⟨_,_,_,e,_⟩
    ·exact nx
    ·cases e
   ·exact q.tup R hp (d1.append d2)
  ·cases e
 ·rename_i xs ys;split at e
  ·rename_i c;cases e;let(a,vs,rfl,h1,d1):=nx.lst R.sub;let(b,ws,rfl,h2,d2):=ny.lst R.sub;cases rx;cases ry;exact aZI I h1 h2 (by rw[<- d1.length,<- d2.length];exact c) λ p hp=>aB8.out R q p _ hp (d1.append d2)
  ·cases e
 ·cases e
def aIY{F:Hp}{x:D}{v:V}(h:Den K F x v):∀ k:Nat,DenL K F (yAg k x) (yAg k v)
 |0=>.nil|k+1=>.cons h (aIY h k)
def aUO(I:Inv X aB σ H s)(rx:bM x v)(ry:bM y u)(R:Rel X.K F L S H)(nx:bW X.K F H dx x)(ny:bW X.K F H dy y)(e:aFi dx dy=qq z)(q:fV X F L S z Q) :
 qk (model X.prog X.w) X.A (zw .Mult v u) (EP X aB σ Q) X.xe s:=by
 unfold aFi at e;split at e
 ·rename_i i j;split at e
  ·rename_i c;cases e;obtain rfl:=nx.int;obtain rfl:=ny.int;let(t,rfl):=rx;let(t',rfl):=ry;refine PyProof.Rows.mul_int ⟨.int (i*j),H,I.tok _,⟨_,rfl⟩,q.here R (.int _)⟩ ?_;unfold IntMulOk;unfold pQ at c;intro z;rw[z] at c;cases c
  ·cases e
 ·rename_i xs k;split at e
  ·rename_i c;cases e;let(a,vs,rfl,h1,d1):=nx.lst R.sub;obtain rfl:=ny.int;cases rx;let(t',rfl):=ry;exact aMk I h1 c.2.1 c.1 (by rw[<- d1.length];exact c.2.2) λ p hp=>aB8.out R q p _ hp (d1.rep _)
  ·cases e
 ·rename_i xd k;split at e
  ·rename_i c;cases e;let(a,vs,rfl,h1,d1):=nx.tup R.sub;obtain rfl:=ny.int;cases rx;let(t',rfl):=ry;obtain⟨kk,rfl⟩:∃ kk:Nat,k=(kk:Nat):=⟨k.toNat,by omega⟩;rw[yAu] at q;cases d1 with
   |cons dx dn=>
     cases dn;refine aZc I h1 (!_) (λ hk=>?_) λ p hp=>fV.tup R q hp (aIY dx kk)
     subst hk;refine q F H _ (bY.refl _) R ?_;rcases nx with nx|⟨_,_,_,z,_⟩
     ·exact nx
     ·cases z
  ·cases e
 ·cases e
def xP{C:Int->Int->Prop}{g:Int->Int->Int}(rule:dE X (zw op) (rI C λ i j=>.int (g i j))){i j:Int}(c:C i j)(I:Inv X aB σ H s)(rx:bM x v)(ry:bM y u)(R:Rel X.K F L S H)(nx:bW X.K F H (.int i) x)(ny:bW X.K F H (.int j) y)(q:fV X F L S (.int (g i j)) Q) :
 qk (model X.prog X.w) X.A (zw op v u) (EP X aB σ Q) X.xe s:=
 rule aB s σ H x y v u Q I rx ry ⟨i,j,nx.int,ny.int,c,q.here R (.int _)⟩
def aAY{g:Int->Int->Int}(rule:dE X (zw op) (kF λ i j=>.int (g i j))){i j:Int}(I:Inv X aB σ H s)(rx:bM x v)(ry:bM y u)(R:Rel X.K F L S H)(nx:bW X.K F H (.int i) x)(ny:bW X.K F H (.int j) y)(q:fV X F L S (.int (g i j)) Q) :
 qk (model X.prog X.w) X.A (zw op v u) (EP X aB σ Q) X.xe s:=
 rule aB s σ H x y v u Q I rx ry ⟨i,j,nx.int,ny.int,q.here R (.int _)⟩
def aQX:dE X (zw .FloorDiv) (rI (λ i j=>j≠0/\yDe i j=false) λ i j=>.int (i.fdiv j)):=zR λ _ _ _ _ _ _ _ hc q=>floordiv_int hc.1 q (.inl hc.2)
def aWy:dE X (zw .LShift) (rI (λ i j=>0<=j/\(yAm i:Int)+j<=2^27) λ i j=>.int (i*2^j.toNat)):=zR λ _ _ _ _ _ _ _ hc q=>lshift_int hc.1 hc.2 q
def aW{α β:Type}{o:Option α}{f:α->Option β}{b:β}(h:o.bind f=qq b):∃ a,o=qq a/\f a=qq b:=by
 cases o with
 |none=>cases h|some a=>exact⟨a,rfl,h⟩
def nT{α:Type}{p:Prop} [Decidable p]{a z:α}(h:(if p then qq a else qz)=qq z):p/\a=z:=by
 split at h
 ·rename_i c;cases h;exact⟨c,rfl⟩
 ·cases h
def aU7(I:Inv X aB σ H s)(rx:bM x v)(ry:bM y u)(R:Rel X.K F L S H)(nx:bW X.K F H dx x)(ny:bW X.K F H dy y)(e:cB op dx dy=qq z)(q:fV X F L S z Q) :
 qk (model X.prog X.w) X.A (zw op v u) (EP X aB σ Q) X.xe s:=by
 cases op with
 |Add=>exact aTM I rx ry R nx ny e q|Mult=>exact aUO I rx ry R nx ny e q|MatMult=>cases e|Div=>cases e
 |Sub=>let(i,j,rfl,rfl,e):=jD e;cases e;exact aAY aVE I rx ry R nx ny q
 |BitAnd=>let(i,j,rfl,rfl,e):=jD e;cases e;exact aAY aTJ I rx ry R nx ny q
 |BitOr=>let(i,j,rfl,rfl,e):=jD e;cases e;exact aAY aWt I rx ry R nx ny q
 |BitXor=>let(i,j,rfl,rfl,e):=jD e;cases e;exact aAY aVm I rx ry R nx ny q
 |FloorDiv=>let(i,j,rfl,rfl,e):=jD e;let(c,rfl):=nT e;exact xP aQX c I rx ry R nx ny q
 |Mod=>let(i,j,rfl,rfl,e):=jD e;let(c,rfl):=nT e;exact xP aRO c I rx ry R nx ny q
 |Pow=>let(i,j,rfl,rfl,e):=jD e;let(c,rfl):=nT e;exact xP aTA c I rx ry R nx ny q
 |LShift=>let(i,j,rfl,rfl,e):=jD e;let(c,rfl):=nT e;exact xP aWy c I rx ry R nx ny q
 |RShift=>let(i,j,rfl,rfl,e):=jD e;let(c,rfl):=nT e;exact xP aTE c I rx ry R nx ny q
def aV6(I:Inv X aB σ H s)(rx:bM x v)(R:Rel X.K F L S H)(nx:bW X.K F H dx x)(e:sK op dx=qq z)(q:fV X F L S z Q) :
 qk (model X.prog X.w) X.A (unaryOp op v) (EP X aB σ Q) X.xe s:=by
 unfold sK at e;split at e
 ·cases e;exact aUG aB s σ H x v Q I rx ⟨_,nx.int,q.here R (.int _)⟩
 ·cases e;exact aVa aB s σ H x v Q I rx ⟨_,nx.int,q.here R (.int _)⟩
 ·cases e
mutual
theorem aHs(I:Inv X aB σ H s)(sb:bY F H):∀ {d:D}{x:V}{v:qx},Den X.K F d x->bM x v->d.canLay0=true->∃ as,Reads s.heap v d as
 |_,_,v,.non,r,_=>by cases (show v=Value.none from r);exact⟨_,.none⟩
 |_,_,v,.bl b,r,_=>by cases (show v=Value.bool b from r);exact⟨_,.bool b⟩
 |_,_,v,.int i,r,_=>by let(t,rfl):=(show ∃ t,v=Value.int i t from r);exact⟨_,.int i t⟩
 |_,_,v,.str y,r,_=>by let(t,rfl):=(show ∃ t,v=Value.str y t from r);exact⟨_,.str y t⟩
 |_,_,v,.lst (a:=a) h dl,r,c=>by
   cases (show v=Value.ref a from r);let(aH,rv,p1,_):=I.list (sb.seq h);let(o,ho,hc,n,hd):=p1.isList;let(as,ra):=aAt I sb dl rv c;exact⟨_,.list ho hc hd (ra:)⟩
 |_,_,v,.exc _,_,c=>by cases c
 |_,_,v,.tup (a:=a) h dl,r,c=>by
   cases (show v=Value.ref a from r);let(aH,rv,p1,_):=I.tuple (nN sb h);let(o,ho,hc,n,hd):=p1;let(as,ra):=aAt I sb dl rv c;exact⟨_,.tuple ho hc hd (ra:)⟩
theorem aAt(I:Inv X aB σ H s)(sb:bY F H):∀ {ds:List D}{xs:List V}{us:List qx},DenL X.K F ds xs->bG xs us->yCs ds=true->∃ as,ReadsAll s.heap us ds as
 |_,_,_,.nil,r,_=>by cases r;exact⟨_,.nil⟩
 |_,_,_,.cons h dl,.cons r rs,c=>by
   let(c1,c2):=Bool.and_eq_true_iff.mp c;let(as,ra):=aHs I sb h r c1;let(bs,rb):=aAt I sb dl rs c2;exact⟨_,.cons ra rb⟩
end
def aAK(I:Inv X aB σ H s)(R:Rel X.K F L S H)(rx:bM x v)(nx:bW X.K F H dx x)(c:dx.canLay0=true):∃ as,Reads s.heap v dx as:=by
 rcases nx with nx|⟨ds,a,xs,rfl,rfl,e,dl⟩
 ·exact aHs I R.sub nx rx c
 ·cases rx;let(aH,rv,p1,_):=I.list (cK.of e);let(o,ho,hc,n,hd):=p1.isList;let(as,ra):=aAt I R.sub dl rv c;exact⟨_,.list ho hc hd (ra:)⟩
def aXX(hu:X.A.units+64<cLine)(I:Inv X aB σ H s)(rx:bM x v)(ry:bM y u)(R:Rel X.K F L S H)(nx:bW X.K F H dx x)(ny:bW X.K F H dy y)(c1:dx.canLay0=true)(c2:dy.canLay0=true)(c3:dx.depth<=60)(q:Q (.bl (yCd dx dy)) H):qk (model X.prog X.w) X.A (xw .Eq v u) (EP X aB σ Q) X.xe s:=by let(as,ra):=aAK I R rx nx c1;let(bs,rb):=aAK I R ry ny c2;refine SeqAt.compareEq_reads ra rb c1 c2 ?_ ⟨.bl _,H,I,rfl,q⟩;have:min dx.depth dy.depth<=dx.depth:=yCy _ _;omega
def aXd(hu:X.A.units+64<cLine)(I:Inv X aB σ H s)(rx:bM x v)(ry:bM y u)(R:Rel X.K F L S H)(nx:bW X.K F H dx x)(ny:bW X.K F H dy y)(c1:dx.canLay0=true)(c2:dy.canLay0=true)(c3:dx.depth<=60)(q:Q (.bl (!yCd dx dy)) H):qk (model X.prog X.w) X.A (xw .NotEq v u) (EP X aB σ Q) X.xe s:=by let(as,ra):=aAK I R rx nx c1;let(bs,rb):=aAK I R ry ny c2;refine SeqAt.compareNe_reads ra rb c1 c2 ?_ ⟨.bl _,H,I,rfl,q⟩;have:min dx.depth dy.depth<=dx.depth:=yCy _ _;omega
end
def aQc(h1:Den K F d x)(h2:Den K F e y)(f1:jW d=true)(f2:jW e=true):oN x y=yCd d e:=by
 cases h1<;>first|(simp[jW] at f1;done)|skip
 all_goals cases h2<;>first|(simp[jW] at f2;done)|rfl|skip
def aDx(h1:Den K F d x)(f1:jW d=true):mF x=true:=by cases h1<;>first|rfl|(simp[jW] at f1;done)
def aDh:∀ {ds:List D}{xs:List V},DenL K F ds xs->qZ ds=true->xs.all mF=true
 |_,_,.nil,_=>rfl
 |_,_,.cons h r,f=>by
   simp only[qZ,yAp] at f;rw[yGg,aDx h f.1,aDh r f.2];rfl
def aDV(h2:Den K F e y)(f2:jW e=true):∀ {ds:List D}{xs:List V},DenL K F ds xs->qZ ds=true->vB y xs=inD e ds
 |_,_,.nil,_=>rfl
 |_,_,.cons h r,f=>by
   simp only[qZ,yAp] at f;have ih:=aDV h2 f2 r f.2;unfold vB at ih ⊢;rw[List.any_cons,ih,aQc h h2 f.1 f2];rfl
section
variable {X:Cx}{aB:List (qv×Obj)}{s:qj}{σ:L2.St}{H:Hp}{x y:V}{v u:qx}{Q:VK}{F:Hp}{L:List qv}{S:aE}{dx dy:D}{b:Bool}
def bW.flat(h:bW X.K F H d z)(f:jW d=true):Den X.K F d z:=by
 rcases h with h|⟨ds,_,_,rfl,_⟩
 ·exact h
 ·simp[jW] at f
def aIr(sb:bY F H)(h:bW X.K F H d z)(e:aEJ d=qq ys):∃ p xs,z=.ref p/\(cK X.K H p xs\/cQ X.K H p xs)/\DenL X.K F ys xs:=by
 cases d with
 |list l=>cases e;let(a,xs,e1,q,dl):=h.lst sb;exact⟨a,xs,e1,.inl q,dl⟩
 |tuple l=>cases e;let(a,xs,e1,q,dl):=h.tup sb;exact⟨a,xs,e1,.inr q,dl⟩
 |_=>cases e
def aJE(R:Rel X.K F L S H)(nx:bW X.K F H dx x):decide (x=.non)=jU dx:=by
 cases dx with
 |none=>rw[nx.non];rfl|bool c=>rw[nx.bl];rfl|int c=>rw[nx.int];rfl|str c=>rw[nx.str];rfl
 |list c=>let(a,xs,rfl,_):=nx.lst R.sub;rfl
 |tuple c=>let(a,xs,rfl,_):=nx.tup R.sub;rfl
 |dict c=>
   rcases nx with h|⟨_,_,_,e,_⟩
   ·cases h;rfl
   ·cases e
def aUg(hu:X.A.units+64<cLine)(I:Inv X aB σ H s)(rx:bM x v)(ry:bM y u)(R:Rel X.K F L S H)(nx:bW X.K F H dx x)(ny:bW X.K F H dy y)(e:qA op dx dy=qq b)(q:Q (.bl b) H) :
 qk (model X.prog X.w) X.A (xw op v u) (EP X aB σ Q) X.xe s:=by
 cases op with
 |Lt=>let(i,j,rfl,rfl,e):=jD e;cases e;exact aWl aB s σ H x y v u Q I rx ry ⟨_,_,nx.int,ny.int,q⟩
 |LtE=>let(i,j,rfl,rfl,e):=jD e;cases e;exact aXp aB s σ H x y v u Q I rx ry ⟨_,_,nx.int,ny.int,q⟩
 |Gt=>let(i,j,rfl,rfl,e):=jD e;cases e;exact aXg aB s σ H x y v u Q I rx ry ⟨_,_,nx.int,ny.int,q⟩
 |GtE=>let(i,j,rfl,rfl,e):=jD e;cases e;exact aX6 aB s σ H x y v u Q I rx ry ⟨_,_,nx.int,ny.int,q⟩
 |Eq=>let(c,rfl):=nT e;exact aXX hu I rx ry R nx ny c.1 c.2.1 c.2.2 q
 |NotEq=>let(c,rfl):=nT e;exact aXd hu I rx ry R nx ny c.1 c.2.1 c.2.2 q
 |Is=>
   have e':(if jU dy=true then qq (jU dx) else uK dx dy)=qq b:=e;by_cases c:jU dy=true
   ·rw[if_pos c] at e';cases e';cases aH9 c;exact aST aB s σ H x y v u Q I rx ry ⟨ny.non,by rw[aJE R nx];exact q⟩
   ·rw[if_neg c] at e';let(p1,p2,rfl,rfl,rfl):=aHf e';obtain rfl:=nx.bl;obtain rfl:=ny.bl;cases rx;cases ry;exact wpAny_is_plain rfl (aBe I q (by cases p1<;>cases p2<;>rfl))
 |IsNot=>
   have e':(if jU dy=true then qq (!jU dx) else (uK dx dy).bind λ b=>qq (!b))=qq b:=e;by_cases c:jU dy=true
   ·rw[if_pos c] at e';cases e';cases aH9 c;exact aSb aB s σ H x y v u Q I rx ry ⟨ny.non,by rw[aJE R nx];exact q⟩
   ·rw[if_neg c] at e';let(b0,e1,e2):=aW e';cases e2;let(p1,p2,rfl,rfl,rfl):=aHf e1;obtain rfl:=nx.bl;obtain rfl:=ny.bl;cases rx;cases ry;exact wpAny_isNot_plain rfl (aBe I q (by cases p1<;>cases p2<;>rfl))
 |In=>
   let(ys,hs,e):=aW e;let(c,rfl):=nT e;let(p,xs,e1,sq,dl):=aIr R.sub ny hs;refine aPo aB s σ H x y v u Q I rx ry ⟨p,xs,e1,sq,aDx (nx.flat c.1) c.1,aDh dl c.2,?_⟩;show Q (.bl (vB x xs)) H;rw[aDV (nx.flat c.1) c.1 dl c.2];exact q
 |NotIn=>
   let(ys,hs,e):=aW e;let(c,rfl):=nT e;let(p,xs,e1,sq,dl):=aIr R.sub ny hs;refine aNL aB s σ H x y v u Q I rx ry ⟨p,xs,e1,sq,aDx (nx.flat c.1) c.1,aDh dl c.2,?_⟩;show Q (.bl (!vB x xs)) H;rw[aDV (nx.flat c.1) c.1 dl c.2];exact q
def aGw{xs:List V}(h:DenL K F ds xs):xs.isEmpty=ds.isEmpty:=by cases h<;>rfl
def aQY(R:Rel X.K F L S H)(nx:bW X.K F H dx x)(e:sE dx=qq b):aE2 X.K x H b:=by
 cases dx with
 |none=>cases e;rw[nx.non];exact rfl|bool c=>cases e;rw[nx.bl];exact rfl|int c=>cases e;rw[nx.int];exact rfl
 |str c=>
   rw[nx.str];have e':(if c.length<=qy then qq ((c.length:Int) != 0) else qz)=qq b:=e;split at e'
   ·rename_i h;cases e';exact⟨h,rfl⟩
   ·cases e'
 |list c=>cases e;let(a,xs,rfl,sq,dl):=nx.lst R.sub;exact .inl ⟨xs,sq,by rw[aGw dl]⟩
 |tuple c=>cases e;let(a,xs,rfl,sq,dl):=nx.tup R.sub;exact .inr (.inl ⟨xs,sq,by rw[aGw dl]⟩)
 |dict c=>cases e
end
abbrev FE:=bI->aE->Option (W×aE)
abbrev FT:=bI->aE->Option (Bool×aE)
abbrev FA:=bI->aE->Option (List W×aE)
abbrev FL:=bI->aE->Option (List D×aE)
inductive Fl where
 |nx (env:bI)|rt (w:W)|bk (env:bI)|ct (env:bI)
abbrev FS:=bI->aE->Option (Fl×aE)
inductive WDenL (K:FrG) (F:Hp) (L:List qv):List W->List V->Prop
 |nil:WDenL K F L [] []
 |cons {w:W}{ws:List W}{x:V}{xs:List V}:fG K F L w x->WDenL K F L ws xs->WDenL K F L (w::ws) (x::xs)
def WDenL.length:∀ {ws:List W}{xs:List V},WDenL K F L ws xs->↑ws=↑xs
 |_,_,.nil=>rfl|_,_,.cons _ r=>congrArg (· + 1) r.length
section
variable (K:FrG)
def bH(f:FE):TE:=λ σ H Q=>∃ F L S env w S',Rel K F L S H/\EnvR K F L env σ/\f env S=qq (w,S')/\∀ F' L' H' v,Gr F L F' L'->Rel K F' L' S' H'->fG K F' L' w v->Q v H'
def fW(f:FT):TT:=λ σ H Q=>∃ F L S env b S',Rel K F L S H/\EnvR K F L env σ/\f env S=qq (b,S')/\∀ F' L' H',Gr F L F' L'->Rel K F' L' S' H'->Q b H'
def iN(f:FA):TA:=λ σ H Q=>∃ F L S env ws S',Rel K F L S H/\EnvR K F L env σ/\f env S=qq (ws,S')/\∀ F' L' H' vs,Gr F L F' L'->Rel K F' L' S' H'->WDenL K F' L' ws vs->Q vs H'
def jJ(f:FL):TE:=λ σ H Q=>∃ F L S env ds S',Rel K F L S H/\EnvR K F L env σ/\f env S=qq (ds,S')/\∀ F' L' H' p xs,Gr F L F' L'->Rel K F' L' S' H'->F' p=qz->p ∉ L'->H' p=qq (.lst xs)->DenL K F' ds xs->Q (.ref p) H'
def dY(f:FS):TS:=λ D σ H=>∃ F L S env fl S',Rel K F L S H/\EnvR K F L env σ/\f env S=qq (fl,S')/\∀ F' L' H',Gr F L F' L'->Rel K F' L' S' H'->match fl with|.nx aY=>∀ σ',EnvR K F' L' aY σ'->D.nx σ' H'|.rt w=>∀ v,fG K F' L' w v->D.rt v H'|.bk aY=>∀ σ',EnvR K F' L' aY σ'->D.bk σ' H'|.ct aY=>∀ σ',EnvR K F' L' aY σ'->D.ct σ' H'
end
def PE.weak{t t':TE}(h:PE X e t)(w:∀ σ H Q,t' σ H Q->t σ H Q):PE X e t':=λ aB s σ H Q I q=>h aB s σ H Q I (w σ H Q q)
def PT.weak{t t':TT}(h:PT X e t)(w:∀ σ H Q,t' σ H Q->t σ H Q):PT X e t':=λ aB s σ H Q I q=>h aB s σ H Q I (w σ H Q q)
def PW.weak{t t':TT}(h:PW X e t)(w:∀ σ H Q,t' σ H Q->t σ H Q):PW X e t':=λ wh aB s σ H Q I q=>h wh aB s σ H Q I (w σ H Q q)
def PA.weak{t t':TA}(h:PA X e t)(w:∀ σ H Q,t' σ H Q->t σ H Q):PA X e t':=λ pos aB s σ H Q I q=>h pos aB s σ H Q I (w σ H Q q)
def PS.weak(h:PS X e t)(w:∀ D σ H,t' D σ H->t D σ H):PS X e t':=λ aB s σ H D I q=>h aB s σ H D I (w D σ H q)
def eE.weak(h:eE X e t)(w:∀ D σ H,t' D σ H->t D σ H):eE X e t':=λ aB s σ H D I q=>h aB s σ H D I (w D σ H q)
abbrev uI(K:FrG)(F:Hp)(L:List qv)(S':aE)(w:W)(Q:VK):Prop:=∀ F' L' H' v,Gr F L F' L'->Rel K F' L' S' H'->fG K F' L' w v->Q v H'
def f2(fa fb:FE)(g:aE->W->W->Option (W×aE)):FE:=λ env S=>(fa env S).bind λ p=>(fb env p.2).bind λ q=>g q.2 p.1 q.1
def f1(fa:FE)(g:aE->W->Option (W×aE)):FE:=λ env S=>(fa env S).bind λ p=>g p.2 p.1
def aBZ{K:FrG}{fa fb:FE}{g:aE->W->W->Option (W×aE)}{r:R2}(hr:∀ F L S H x y wx wy w S' Q,Rel K F L S H->fG K F L wx x->fG K F L wy y->g S wx wy=qq (w,S')->uI K F L S' w Q->r x y H Q)(σ:St)(H:Hp)(Q:VK)(h:bH K (f2 fa fb g) σ H Q):zN r (bH K fa) (bH K fb) σ H Q:=by
 let(F,L,S,env,w,S',R,E,e,q):=h;unfold f2 at e;cases ea:fa env S with
 |none=>rw[ea] at e;cases e
 |some p=>
   let(wx,S1):=p;rw[ea] at e;dsimp only[yDk] at e;cases eb:fb env S1 with
   |none=>rw[eb] at e;cases e
   |some p2=>
     let(wy,S2):=p2;rw[eb] at e;dsimp only at e;refine⟨F,L,S,env,wx,S1,R,E,ea,λ F1 L1 H1 x g1 R1 d1=>⟨F1,L1,S1,env,wy,S2,R1,E.mono g1,eb,λ F2 L2 H2 y g2 R2 d2=>?_⟩⟩;exact hr F2 L2 S2 H2 x y wx wy w S' Q R2 (d1.mono g2) d2 e λ F3 L3 H3 v g3 R3 d3=>q F3 L3 H3 v ((g1.trans g2).trans g3) R3 d3
def aYW{fa:FE}{g:aE->W->Option (W×aE)}{r:V->Hp->VK->Prop}(hr:∀ F L S H x wx w S' Q,Rel K F L S H->fG K F L wx x->g S wx=qq (w,S')->uI K F L S' w Q->r x H Q)(σ:St)(H:Hp)(Q:VK)(h:bH K (f1 fa g) σ H Q):tUn r (bH K fa) σ H Q:=by
 let(F,L,S,env,w,S',R,E,e,q):=h;unfold f1 at e;cases ea:fa env S with
 |none=>rw[ea] at e;cases e
 |some p=>
   let(wx,S1):=p;rw[ea] at e;dsimp only[yDk] at e;refine⟨F,L,S,env,wx,S1,R,E,ea,λ F1 L1 H1 x g1 R1 d1=>?_⟩;exact hr F1 L1 S1 H1 x wx w S' Q R1 d1 e λ F3 L3 H3 v g3 R3 d3=>q F3 L3 H3 v (g1.trans g3) R3 d3
def jI(i:Nat):FE:=λ env S=>match env[i]? with|some (qq w)=>qq (w,S)|_=>qz
def aO3(h:jI i env S=qq (w,S')):env[i]?=qq (qq w)/\S'=S:=by
 unfold jI at h;split at h
 ·rename_i w' e;cases h;exact⟨e,rfl⟩
 ·cases h
variable {X:Cx}
def aW0(hN:X.N[i]?=qq x)(hv:zP X.env.scope x)(hd:(x==("__debug__" : Str))=false)(hcd:(x==("__classdict__" : Str))=false):PE X (.Name x pos) (bH X.K (jI i)):=
 PE.weak (aVf hN hv hd hcd) λ σ H Q bD=>by
  let(F,L,S,env,w,S',R,E,e,q):=bD;let(e1,rfl):=aO3 e;let(v,e2,d):=E.get i w e1;exact⟨v,e2,q F L H v Gr.refl R d⟩
def fC(d:D):FE:=λ _ S=>qq (.d d,S)
def aWj{i j pos}:PE X (.Constant (.int i) j pos) (bH X.K (fC (.int i))):=
 PE.weak aUf λ σ H Q bD=>by let(F,L,S,env,w,S',R,E,e,q):=bD;cases e;exact q F L H _ Gr.refl R (.int i)
def aZF{b j pos}:PE X (.Constant (.bool b) j pos) (bH X.K (fC (.bool b))):=
 PE.weak aWq λ σ H Q bD=>by let(F,L,S,env,w,S',R,E,e,q):=bD;cases e;exact q F L H _ Gr.refl R (.bl b)
def aYd{j pos}:PE X (.Constant .none j pos) (bH X.K (fC .none)):=
 PE.weak aTv λ σ H Q bD=>by let(F,L,S,env,w,S',R,E,e,q):=bD;cases e;exact q F L H _ Gr.refl R .non
def aX2{x j pos}:PE X (.Constant (.str x) j pos) (bH X.K (fC (.str x))):=
 PE.weak aUS λ σ H Q bD=>by let(F,L,S,env,w,S',R,E,e,q):=bD;cases e;exact q F L H _ Gr.refl R (.str x)
def hZ(g:D->D->Option D)(S:aE)(x y:W):Option (W×aE):=(dr S x).bind λ a=>(dr S y).bind λ b=>(g a b).bind λ z=>qq (.d z,S)
def gS(g:D->Option D)(S:aE)(x:W):Option (W×aE):=(dr S x).bind λ a=>(g a).bind λ z=>qq (.d z,S)
def aHU{g:D->D->Option D}(h:hZ g S x y=qq (w,S')):∃ a b z,dr S x=qq a/\dr S y=qq b/\g a b=qq z/\w=.d z/\S'=S:=by
 unfold hZ at h;cases e1:dr S x with
 |none=>rw[e1] at h;cases h
 |some a=>
   cases e2:dr S y with
   |none=>rw[e1,e2] at h;cases h
   |some b=>
     rw[e1,e2] at h;dsimp only[yDk] at h;cases e3:g a b with
     |none=>rw[e3] at h;cases h|some z=>rw[e3] at h;cases h;exact⟨a,b,z,rfl,rfl,e3,rfl,rfl⟩
def wM{g:D->Option D}(h:gS g S x=qq (w,S')):∃ a z,dr S x=qq a/\g a=qq z/\w=.d z/\S'=S:=by
 unfold gS at h;cases e1:dr S x with
 |none=>rw[e1] at h;cases h
 |some a=>
   rw[e1] at h;dsimp only[yDk] at h;cases e3:g a with
   |none=>rw[e3] at h;cases h|some z=>rw[e3] at h;cases h;exact⟨a,z,rfl,e3,rfl,rfl⟩
def aA8{Q:VK}(X:Cx)(hK:X.K=K)(q:uI K F L S (.d z) Q):fV X F L S z Q:=λ F' H' r sf R d=>by
 subst hK;exact q F' L H' r ⟨sf,[],by simp⟩ R d
def rD2(X:Cx)(g:D->D->Option D):R2:=λ x y H Q=>∃ F L S dx dy z,Rel X.K F L S H/\bW X.K F H dx x/\bW X.K F H dy y/\g dx dy=qq z/\fV X F L S z Q
def aBn{g:D->D->Option D}(F:Hp)(L:List qv)(S:aE)(H:Hp)(x y:V)(wx wy w:W)(S':aE)(Q:VK)(R:Rel X.K F L S H)(h1:fG X.K F L wx x)(h2:fG X.K F L wy y)(e:hZ g S wx wy=qq (w,S'))(q:uI X.K F L S' w Q):rD2 X g x y H Q:=by let(a,b,z,e1,e2,e3,rfl,rfl):=aHU e;exact⟨F,L,S',a,b,z,R,kW R h1 e1,kW R h2 e2,e3,aA8 X rfl q⟩
def sG(op:jj)(fa fb:FE):FE:=f2 fa fb (hZ (cB op))
def aYz{fa fb:FE}(ha:PE X a (bH X.K fa))(hb:PE X b (bH X.K fb)):PE X (.BinOp a op b pos) (bH X.K (sG op fa fb)):=
 PE.weak (aLN (r:=rD2 X (cB op)) (λ aB s σ H x y v u Q I rx ry hPr0=>by let(F,L,S,dx,dy,z,R,nx,ny,e,q):=hPr0;exact aU7 I rx ry R nx ny e q) ha hb) (aBZ aBn)
def zS(op:wz)(fa:FE):FE:=f1 fa (gS (sK op))
def aZQ{fa:FE}(ha:PE X a (bH X.K fa)):PE X (.UnaryOp op a pos) (bH X.K (zS op fa)):=
 PE.weak (aWM (r:=λ x H Q=>∃ F L S dx z,Rel X.K F L S H/\bW X.K F H dx x/\sK op dx=qq z/\fV X F L S z Q) (λ aB s σ H x v Q I rx hPr1=>by let(F,L,S,dx,z,R,nx,e,q):=hPr1;exact aV6 I rx R nx e q) ha)
  (aYW λ F L S H x wx w S' Q R d e q=>by
    let(a,z,e1,e3,rfl,rfl):=wM e;exact⟨F,L,S',a,z,R,kW R d e1,e3,aA8 X rfl q⟩)
def aS(op:jk)(x y:D):Option D:=(qA op x y).map yDl
def aId(hu:X.A.units+64<cLine):dE X (xw op) (rD2 X (aS op)):=λ aB s σ H x y v u Q I rx ry bD=>by
 let(F,L,S,dx,dy,z,R,nx,ny,e,q):=bD;unfold aS at e;cases ec:qA op dx dy with
 |none=>rw[ec] at e;cases e|some b=>rw[ec] at e;cases e;exact aUg hu I rx ry R nx ny ec (q.here R (.bl b))
def oD(op:jk)(fa fb:FE):FE:=f2 fa fb (hZ (aS op))
def aXa{fa fb:FE}(hu:X.A.units+64<cLine)(ha:PE X a (bH X.K fa))(hb:PE X b (bH X.K fb))(hm:jx op b=false):PE X (.Compare a [op] [b] pos) (bH X.K (oD op fa fb)):=
 PE.weak (aRZ (aId hu) ha hb hm) (aBZ aBn)
def dP(fa:FE):FT:=λ env S=>(fa env S).bind λ p=>(dr p.2 p.1).bind λ d=>(sE d).bind λ b=>qq (b,p.2)
def aG6{fa:FE}(h:dP fa env S=qq (b,S')):∃ w d,fa env S=qq (w,S')/\dr S' w=qq d/\sE d=qq b:=by
 unfold dP at h;cases ea:fa env S with
 |none=>rw[ea] at h;cases h
 |some p=>
   let(w,S1):=p;rw[ea] at h;dsimp only[yDk] at h;cases e1:dr S1 w with
   |none=>rw[e1] at h;cases h
   |some d=>
     rw[e1] at h;dsimp only at h;cases e2:sE d with
     |none=>rw[e2] at h;cases h|some c=>rw[e2] at h;cases h;exact⟨w,d,rfl,e1,e2⟩
def aXq{fa:FE}(ha:PE X a (bH X.K fa))(he:∀ fR,isTrue a X.env fR=(do let v <- fR;standAt a.pos;holding [v] (truthy v))):PT X a (fW X.K (dP fa)):=
 PT.weak (aPA ha he) λ σ H Q bD=>by
  let(F,L,S,env,b,S',R,E,e,q):=bD;let(w,d,e1,e2,e3):=aG6 e;exact⟨F,L,S,env,w,S',R,E,e1,λ F1 L1 H1 v g1 R1 d1=>⟨b,aQY R1 (kW R1 d1 e2) e3,q F1 L1 H1 g1 R1⟩⟩
def aSU{fa fb:FE}(hu:X.A.units+64<cLine)(ha:PE X a (bH X.K fa))(hb:PE X b (bH X.K fb))(hm:jx op b=false):PT X (.Compare a [op] [b] pos) (fW X.K (dP (oD op fa fb))):=
 PT.weak (aRq (aId hu) ha hb hm) λ σ H Q bD=>by
  let(F,L,S,env,b,S',R,E,e,q):=bD;let(w,d,e1,e2,e3):=aG6 e;refine @aBZ _ fa fb (hZ (aS op)) _ aBn σ H _ ⟨F,L,S,env,w,S',R,E,e1,λ F1 L1 H1 v g1 R1 d1=>?_⟩;have hc:∃ c,w=.d (.bool c):=by
   unfold oD f2 at e1;cases ea:fa env S with
   |none=>rw[ea] at e1;cases e1
   |some p=>
     rw[ea] at e1;dsimp only[yDk] at e1;cases eb:fb env p.2 with
     |none=>rw[eb] at e1;cases e1
     |some p2=>
       rw[eb] at e1;dsimp only at e1;let(_,_,z,_,_,e6,rfl,_):=aHU e1;unfold aS at e6;cases e7:qA op _ _ with
       |none=>rw[e7] at e6;cases e6|some c=>rw[e7] at e6;cases e6;exact⟨c,rfl⟩
  let(c,rfl):=hc;cases e2;cases e3;have hv:v=.bl b:=by cases (show Den X.K F1 (.bool b) v from d1);rfl
  exact⟨b,hv,q F1 L1 H1 g1 R1⟩
def yR(fa fb:FT):FT:=λ env S=>(fa env S).bind λ p=>if p.1=true then fb env p.2 else qq (false,p.2)
def zZ(fa fb:FT):FT:=λ env S=>(fa env S).bind λ p=>if p.1=true then qq (true,p.2) else fb env p.2
def zH(fa:FT):FT:=λ env S=>(fa env S).bind λ p=>qq (!p.1,p.2)
def aLM{fa fb:FT}(σ:St)(H:Hp)(Q:Bool->Hp->Prop)(h:fW K (yR fa fb) σ H Q):aMg (fW K fa) (fW K fb) σ H Q:=by
 let(F,L,S,env,b,S',R,E,e,q):=h;let((c,S1),e1,e2):=aW e;refine⟨F,L,S,env,c,S1,R,E,e1,λ F1 L1 H1 g1 R1=>?_⟩;dsimp only at e2;cases c with
 |true=>exact uH ⟨F1,L1,S1,env,b,S',R1,E.mono g1,by simpa using e2,λ F2 L2 H2 g2 R2=>q F2 L2 H2 (g1.trans g2) R2⟩
 |false=>
   have e3:qq (false,S1)=qq (b,S'):=(e2:)
   cases e3;exact uO (q F1 L1 H1 g1 R1)
def aMN{fa fb:FT}(σ:St)(H:Hp)(Q:Bool->Hp->Prop)(h:fW K (zZ fa fb) σ H Q):tOr (fW K fa) (fW K fb) σ H Q:=by
 let(F,L,S,env,b,S',R,E,e,q):=h;let((c,S1),e1,e2):=aW e;refine⟨F,L,S,env,c,S1,R,E,e1,λ F1 L1 H1 g1 R1=>?_⟩;dsimp only at e2;cases c with
 |false=>exact uO ⟨F1,L1,S1,env,b,S',R1,E.mono g1,by simpa using e2,λ F2 L2 H2 g2 R2=>q F2 L2 H2 (g1.trans g2) R2⟩
 |true=>
   have e3:qq (true,S1)=qq (b,S'):=(e2:)
   cases e3;exact uH (q F1 L1 H1 g1 R1)
def aXz{fa:FT}(ha:PT X a (fW X.K fa)):PT X (.UnaryOp .Not a pos) (fW X.K (zH fa)):=
 PT.weak (aTI ha) λ σ H Q bD=>by
  let(F,L,S,env,b,S',R,E,e,q):=bD;let((c,S1),e1,e2):=aW e;cases e2;exact⟨F,L,S,env,c,S1,R,E,e1,q⟩
def xW(fa fb:FE):FE:=λ env S=>(fa env S).bind λ p=>match p.1 with|.d (.bool true)=>fb env p.2|.d (.bool false)=>qq (.d (.bool false),p.2)|_=>qz
def yM(fa fb:FE):FE:=λ env S=>(fa env S).bind λ p=>match p.1 with|.d (.bool false)=>fb env p.2|.d (.bool true)=>qq (.d (.bool true),p.2)|_=>qz
def yF(fa:FE):FE:=λ env S=>(fa env S).bind λ p=>match p.1 with|.d (.bool b)=>qq (.d (.bool (!b)),p.2)|_=>qz
def xU(h:fG K F L (.d (.bool b)) v):v=.bl b:=by cases (show Den K F (.bool b) v from h);rfl
def aKI{fa fb:FE}(σ:St)(H:Hp)(Q:VK)(h:bH K (xW fa fb) σ H Q):aLz (bH K fa) (bH K fb) σ H Q:=by
 let(F,L,S,env,w,S',R,E,e,q):=h;let((c,S1),e1,e2):=aW e;dsimp only at e2;split at e2
 ·exact⟨F,L,S,env,_,S1,R,E,e1,λ F1 L1 H1 v g1 R1 d1=>⟨true,xU d1,uH ⟨F1,L1,S1,env,w,S',R1,E.mono g1,e2,λ F2 L2 H2 v2 g2 R2 d2=>q F2 L2 H2 v2 (g1.trans g2) R2 d2⟩⟩⟩
 ·cases e2;exact⟨F,L,S,env,_,_,R,E,e1,λ F1 L1 H1 v g1 R1 d1=>⟨false,xU d1,uO (q F1 L1 H1 _ g1 R1 (Den.bl false))⟩⟩
 ·cases e2
def aK2{fa fb:FE}(σ:St)(H:Hp)(Q:VK)(h:bH K (yM fa fb) σ H Q):aMm (bH K fa) (bH K fb) σ H Q:=by
 let(F,L,S,env,w,S',R,E,e,q):=h;let((c,S1),e1,e2):=aW e;dsimp only at e2;split at e2
 ·exact⟨F,L,S,env,_,S1,R,E,e1,λ F1 L1 H1 v g1 R1 d1=>⟨false,xU d1,uO ⟨F1,L1,S1,env,w,S',R1,E.mono g1,e2,λ F2 L2 H2 v2 g2 R2 d2=>q F2 L2 H2 v2 (g1.trans g2) R2 d2⟩⟩⟩
 ·cases e2;exact⟨F,L,S,env,_,_,R,E,e1,λ F1 L1 H1 v g1 R1 d1=>⟨true,xU d1,uH (q F1 L1 H1 _ g1 R1 (Den.bl true))⟩⟩
 ·cases e2
def aUu{fa:FE}(ha:PE X a (bH X.K fa)):PE X (.UnaryOp .Not a pos) (bH X.K (yF fa)):=
 PE.weak (aS7 ha) λ σ H Q bD=>by
  let(F,L,S,env,w,S',R,E,e,q):=bD;let((c,S1),e1,e2):=aW e;dsimp only at e2;split at e2
  ·cases e2;exact⟨F,L,S,env,_,_,R,E,e1,λ F1 L1 H1 v g1 R1 d1=>⟨_,xU d1,q F1 L1 H1 _ g1 R1 (Den.bl _)⟩⟩
  ·cases e2
def zD(fc:FT)(fa fb:FE):FE:=λ env S=>(fc env S).bind λ p=>if p.1=true then fa env p.2 else fb env p.2
def aV5{fc:FT}{fa fb:FE}(hc:PT X c (fW X.K fc))(ha:PE X a (bH X.K fa))(hb:PE X b (bH X.K fb)):PE X (.IfExp c a b pos) (bH X.K (zD fc fa fb)):=
 PE.weak (aPF hc ha hb) λ σ H Q bD=>by
  let(F,L,S,env,w,S',R,E,e,q):=bD;let((c,S1),e1,e2):=aW e;refine⟨F,L,S,env,c,S1,R,E,e1,λ F1 L1 H1 g1 R1=>?_⟩;dsimp only at e2;cases c with
  |true=>exact uH ⟨F1,L1,S1,env,w,S',R1,E.mono g1,by simpa using e2,λ F2 L2 H2 v g2 R2 d2=>q F2 L2 H2 v (g1.trans g2) R2 d2⟩|false=>exact uO ⟨F1,L1,S1,env,w,S',R1,E.mono g1,by simpa using e2,λ F2 L2 H2 v g2 R2 d2=>q F2 L2 H2 v (g1.trans g2) R2 d2⟩
def jX:FA:=λ _ S=>qq ([],S)
def eT(fa:FE)(fr:FA):FA:=λ env S=>(fa env S).bind λ p=>(fr env p.2).bind λ q=>qq (p.1::q.1,q.2)
def aEO:PA X [] (iN X.K jX):=PA.weak aKb λ σ H Q bD=>by let(F,L,S,env,ws,S',R,E,e,q):=bD;cases e;exact q F L H [] Gr.refl R .nil
def nI{fa:FE}{fr:FA}(ha:PE X e (bH X.K fa))(hr:PA X es (iN X.K fr))(hs:qu (e::es) X.env=(false,eval e X.env)::qu es X.env):PA X (e::es) (iN X.K (eT fa fr)):=
 PA.weak (aDS ha hr hs) λ σ H Q bD=>by
  let(F,L,S,env,ws,S',R,E,e,q):=bD;let((w,S1),e1,e2):=aW e;let((wr,S2),e3,e4):=aW e2;cases e4;exact⟨F,L,S,env,w,S1,R,E,e1,λ F1 L1 H1 v g1 R1 d1=>⟨F1,L1,S1,env,wr,S2,R1,E.mono g1,e3,λ F2 L2 H2 vs g2 R2 d2=>q F2 L2 H2 _ (g1.trans g2) R2 (.cons (d1.mono g2) d2)⟩⟩
def sA:List W->Option (List D)
 |[]=>qq []|.d x::r=>(sA r).bind λ l=>qq (x::l)|.loc _::_=>qz|.exc _ _::_=>qz
def aDt:∀ {ws:List W}{xs:List V}{ds:List D},WDenL K F L ws xs->sA ws=qq ds->DenL K F ds xs
 |_,_,_,.nil,e=>by cases e;exact .nil
 |.d x::r,_,_,.cons h t,e=>by
   let(l,e1,e2):=aW e;cases e2;exact .cons h (aDt t e1)
 |.loc _::_,_,_,.cons _ _,e=>by cases e|.exc _ _::_,_,_,.cons _ _,e=>by cases e
def yZ(fs:FA):FE:=λ env S=>(fs env S).bind λ p=>(sA p.1).bind λ ds=>if ↑ds<=qy then qq (.d (.tuple ds),p.2) else qz
def aWm{fs:FA}(h:PA X es (iN X.K fs)):PE X (.Tuple es k pos) (bH X.K (yZ fs)):=
 PE.weak (aVl h) λ σ H Q bD=>by
  let(F,L,S,env,w,S',R,E,e,q):=bD;let((ws,S1),e1,e2):=aW e;let(ds,e3,e4):=aW e2;split at e4
  ·rename_i hz;cases e4;refine⟨F,L,S,env,ws,_,R,E,e1,λ F1 L1 H1 vs g1 R1 d1=>?_⟩;have dl:=aDt d1 e3;refine⟨by rw[<- dl.length];exact hz,λ p hp=>?_⟩;exact q _ L1 _ _ (g1.trans (Gr.new (R1.sub.free hp))) (R1.new hp) (Den.tup (cQ.of eH) (dl.mono (gC (R1.sub.free hp))))
  ·cases e4
def yN(fs:FA):FL:=λ env S=>(fs env S).bind λ p=>(sA p.1).bind λ ds=>if ↑ds<=qy then qq (ds,p.2) else qz
def aWw{fs:FA}(h:PA X es (iN X.K fs)):PE X (.List es pos) (jJ X.K (yN fs)):=
 PE.weak (aVC h) λ σ H Q bD=>by
  let(F,L,S,env,ds,S',R,E,e,q):=bD;let((ws,S1),e1,e2):=aW e;let(ds',e3,e4):=aW e2;split at e4
  ·rename_i hz;cases e4;refine⟨F,L,S,env,ws,_,R,E,e1,λ F1 L1 H1 vs g1 R1 d1=>?_⟩;have dl:=aDt d1 e3;exact⟨by rw[<- dl.length];exact hz,λ p hp=>q F1 L1 _ p vs g1 (R1.lay hp) (R1.sub.free hp) (R1.notin hp) eH dl⟩
  ·cases e4
def kG(f:FL):FE:=λ env S=>(f env S).bind λ p=>qq (.d (.list p.1),p.2)
def aMX{f:FL}(h:PE X e (jJ X.K f)):PE X e (bH X.K (kG f)):=
 PE.weak h λ σ H Q bD=>by
  let(F,L,S,env,w,S',R,E,e,q):=bD;let((ds,S1),e1,e2):=aW e;cases e2;exact⟨F,L,S,env,ds,_,R,E,e1,λ F1 L1 H1 p xs g1 R1 hF hL hH dl=>q _ L1 _ _ (g1.trans (Gr.new hF)) (R1.adopt hF hL hH) (Den.lst (cK.of eH) (dl.mono (gC hF)))⟩
def gI(f:FL):FE:=λ env S=>(f env S).bind λ p=>qq (.loc p.2.length,p.2++[qq p.1])
def aYt{f:FL}(h:PE X e (jJ X.K f)):PE X e (bH X.K (gI f)):=
 PE.weak h λ σ H Q bD=>by
  let(F,L,S,env,w,S',R,E,e,q):=bD;let((ds,S1),e1,e2):=aW e;cases e2;refine⟨F,L,S,env,ds,_,R,E,e1,λ F1 L1 H1 p xs g1 R1 hF hL hH dl=>q _ _ _ _ (g1.trans Gr.newLoc) (R1.adoptLoc hF hL hH dl) ⟨p,?_,rfl⟩⟩;dsimp only;rw[<- R1.len,yAf (yAd _)];simp
def aN:D->D->Option D
 |.list xs,.int i=>lK xs i|.tuple xs,.int i=>lK xs i
 |.str z,.int i=>if z.length<=qy then (lK z.cps.toList i).bind λ c=>qq (.str ⟨#[c]⟩) else qz
 |_,_=>qz
def aJt{xs:List V}{i:Int}(h:DenL K F ds xs)(e:lK ds i=qq d):∃ x,lK xs i=qq x/\Den K F d x:=by unfold lK at e ⊢;rw[<- h.length];let(j,e1,e2):=aW e;let(x,e3,dx):=h.get e2;exact⟨x,by rw[e1];exact e3,dx⟩
def aRF:uU X (rD2 X aN):=λ value mZ aB s σ H x y v u Q I rx ry bD hs=>by
 let(F,L,S,dx,dy,z,R,nx,ny,e,q):=bD;unfold aN at e;split at e
 ·let(a,xs,rfl,sq,dl):=nx.lst R.sub;let(r,e1,d1):=aJt dl e;exact aSC value mZ aB s σ H _ y v u Q I rx ry ⟨a,xs,_,r,rfl,ny.int,sq,e1,q.here R d1⟩ hs
 ·let(a,xs,rfl,sq,dl):=nx.tup R.sub;let(r,e1,d1):=aJt dl e;exact aSS value mZ aB s σ H _ y v u Q I rx ry ⟨a,xs,_,r,rfl,ny.int,sq,e1,q.here R d1⟩ hs
 ·split at e
  ·rename_i hz;let(c,e1,e2):=aW e;cases e2;exact aTp value mZ aB s σ H x y v u Q I rx ry ⟨_,_,c,nx.str,ny.int,hz,e1,q.here R (.str _)⟩ hs
  ·cases e
 ·cases e
def oQ(fa fb:FE):FE:=f2 fa fb (hZ aN)
def aYF{fa fb:FE}(ha:PE X a (bH X.K fa))(hb:PE X b (bH X.K fb))(hs:aA3 b):PE X (.Subscript a b pos) (bH X.K (oQ fa fb)):=
 PE.weak (aK1 aRF ha hb hs) (aBZ aBn)
abbrev FO:=bI->aE->Option (Option Int×aE)
def zM:FO:=λ _ S=>qq (qz,S)
def nP(fa:FE):FO:=λ env S=>(fa env S).bind λ p=>match p.1 with|.d (.int i)=>qq (qq i,p.2)|_=>qz
def mL(K:FrG)(f:FO):TO:=λ σ H Q=>∃ F L S env o S',Rel K F L S H/\EnvR K F L env σ/\f env S=qq (o,S')/\∀ F' L' H',Gr F L F' L'->Rel K F' L' S' H'->Q o H'
def aYD:PO X qz (mL X.K zM):=λ aB s σ H Q I bD=>by
 let(F,L,S,env,o,S',R,E,e,q):=bD;cases e;exact aRh aB s σ H Q I (q F L H Gr.refl R)
def aUb{fa:FE}(ha:PE X a (bH X.K fa)):PO X (qq a) (mL X.K (nP fa)):=λ aB s σ H Q I bD=>by
 let(F,L,S,env,o,S',R,E,e,q):=bD;let((w,S1),e1,e2):=aW e;dsimp only at e2;split at e2
 ·cases e2;refine aDX ha aB s σ H Q I ⟨F,L,S,env,_,_,R,E,e1,λ F1 L1 H1 v g1 R1 d1=>?_⟩;cases (show Den X.K F1 (.int _) v from d1);exact⟨_,rfl,q F1 L1 H1 g1 R1⟩
 ·cases e2
def fA(xs:List D)(lo hi:Option Int):List D:=(xs.drop (HT.sIx ↑xs 0 lo)).take (HT.sIx ↑xs ↑xs hi-HT.sIx ↑xs 0 lo)
def aI5{xs:List V}(h:DenL K F ds xs)(lo hi:Option Int):DenL K F (fA ds lo hi) (oE xs lo hi):=by unfold fA oE;rw[h.length];exact(h.drop _).take _
def slL:D->Option Int->Option Int->Option (List D)
 |.list xs,lo,hi=>qq (fA xs lo hi)|_,_,_=>qz
def aMr(fa:FE)(fl fh:FO):FL:=λ env S=>(fa env S).bind λ p=>(fl env p.2).bind λ q=>(fh env q.2).bind λ r=>(dr r.2 p.1).bind λ d=>(slL d q.1 r.1).bind λ z=>qq (z,r.2)
def aVP{lo hi:Option qw}{fa:FE}{fl fh:FO}(ha:PE X a (bH X.K fa))(hl:PO X lo (mL X.K fl))(hh:PO X hi (mL X.K fh)):PE X (.Subscript a (.Slice lo hi qz p2) pos) (jJ X.K (aMr fa fl fh)):=
 PE.weak (aH6 aRT ha hl hh) λ σ H Q bD=>by
  let(F,L,S,env,ds,S',R,E,e,q):=bD;let((w,S1),e1,e):=aW e;let((l,S2),e2,e):=aW e;let((h,S3),e3,e):=aW e;let(d,e4,e):=aW e;let(z,e5,e):=aW e;cases e;refine⟨F,L,S,env,w,S1,R,E,e1,λ F1 L1 H1 v g1 R1 d1=>⟨F1,L1,S1,env,l,S2,R1,E.mono g1,e2,λ F2 L2 H2 g2 R2=>⟨F2,L2,S2,env,h,S3,R2,E.mono (g1.trans g2),e3,λ F3 L3 H3 g3 R3=>?_⟩⟩⟩;have n:=kW R3 (d1.mono (g2.trans g3)) e4;cases d with
  |list xs=>
    cases e5;let(a,vs,rfl,sq,dl):=n.lst R3.sub;exact⟨a,vs,rfl,sq,λ p hp=>q F3 L3 _ p _ ((g1.trans g2).trans g3) (R3.lay hp) (R3.sub.free hp) (R3.notin hp) eH (aI5 dl l h)⟩
  |_=>cases e5
def uT(K:FrG)(np:Nat)(call:List W->aE->Option (W×aE)):Sp:=λ vs H Q _=>∃ F L S ws w S',↑ws=np/\Rel K F L S H/\WDenL K F L ws vs/\call ws S=qq (w,S')/\uI K F L S' w Q
def aBE(fs:FA)(np:Nat)(call:List W->aE->Option (W×aE)):FE:=λ env S=>(fs env S).bind λ p=>if p.1.length=np then call p.1 p.2 else qz
def aUQ{fs:FA}{call:List W->aE->Option (W×aE)}(σ:St)(H:Hp)(Q:VK)(h:bH K (aBE fs np call) σ H Q):aBD (uT K np call) [] E0 (iN K fs) σ H Q:=by
 let(F,L,S,env,w,S',R,E,e,q):=h;let((ws,S1),e1,e):=aW e;split at e
 ·rename_i hn;refine⟨F,L,S,env,ws,S1,R,E,e1,λ F1 L1 H1 vs g1 R1 d1=>⟨F1,L1,S1,ws,w,S',hn,R1,by rw[yDz];exact d1,e,λ F2 L2 H2 v g2 R2 d2=>q F2 L2 H2 v (g1.trans g2) R2 d2⟩⟩
 ·cases e
inductive NowL (K:FrG) (F H:Hp):List D->List V->Prop
 |nil:NowL K F H [] []
 |cons {d:D}{ds:List D}{x:V}{xs:List V}:bW K F H d x->NowL K F H ds xs->NowL K F H (d::ds) (x::xs)
def oR(S:aE):List W->Option (List D)
 |[]=>qq []|w::r=>(dr S w).bind λ d=>(oR S r).bind λ l=>qq (d::l)
def aIo(R:Rel K F L S H):∀ {ws:List W}{xs:List V}{ds:List D},WDenL K F L ws xs->oR S ws=qq ds->NowL K F H ds xs
 |_,_,_,.nil,e=>by cases e;exact .nil
 |_,_,_,.cons h t,e=>by
   let(d,e1,e):=aW e;let(l,e2,e):=aW e;cases e;exact .cons (kW R h e1) (aIo R t e2)
def oG(X:Cx)(g:List D->Option D):List V->Hp->VK->Prop:=λ xs H Q=>∃ F L S ds z,Rel X.K F L S H/\NowL X.K F H ds xs/\g ds=qq z/\fV X F L S z Q
def sH(fs:FA)(g:List D->Option D):FE:=λ env S=>(fs env S).bind λ p=>(oR p.2 p.1).bind λ ds=>(g ds).bind λ z=>qq (.d z,p.2)
def pS{fs:FA}{g:List D->Option D}(σ:St)(H:Hp)(Q:VK)(h:bH X.K (sH fs g) σ H Q):tCB (oG X g) (iN X.K fs) σ H Q:=by let(F,L,S,env,w,S',R,E,e,q):=h;let((ws,S1),e1,e):=aW e;let(ds,e2,e):=aW e;let(z,e3,e):=aW e;cases e;refine⟨F,L,S,env,ws,_,R,E,e1,λ F1 L1 H1 vs g1 R1 d1=>⟨F1,L1,S1,ds,z,R1,aIo R1 d1 e2,e3,aA8 X rfl λ F2 L2 H2 v g2 R2 d2=>q F2 L2 H2 v (g1.trans g2) R2 d2⟩⟩
section
variable {prog:zq}{w:zx}{A:zj}{E:qx->qj->Prop}
def aGU{it t:qv}{aX:Array qx}(hne:t≠it):∀ (n i:Nat) (s:qj) (Q:List qx->qj->Prop),s.heap.IsListIter it t i->s.heap.IsList t aX->i+n<=aX.size ->
 (∀ h',h'.IsListIter it t (i+n)->yEe it s.heap h'->Q ((aX.toList.drop i).take n) {s with heap:=h' })->qk (model prog w) A (draw (.ref it) n) Q E s
 |0,i,s,Q,hit,_,_,hQ=>wP (hQ s.heap hit (Heap.SameBut.refl _ _):)
 |n+1,i,s,Q,hit,hl,hle,hQ=>by
   have hlt:i<aX.size:=by omega
   show qk _ _ (yv (.ref it) >>= _) Q E s;refine wB (vj hit hl (x:=aX[i]) (by simp[hlt]) λ h1 hit1 hs1=>?_);refine wB (zy (aGU hne n (i+1) _ _ hit1 (hl.extBut hs1.extBut hne) (!_) λ h2 hit2 hs2=>wP ?_));have q:=hQ h2 (by rw[show i+(n+1)=i+1+n by omega];exact hit2) (hs1.trans hs2);rw[yCu (hlt:),List.take_succ_cons] at q;exact q
end
def aNQ{A:zj}{E:qx -> qj -> Prop}{s:qj}{x1}{Q:Unit->qj->Prop}(hh:A.handled=qz)(hl:s.heap.IsList t aX)(hn:(zk elts env).length=aX.size)(hstar:(zk elts env).findIdx? (·.1)=qz)(h:∀ h',Heap.ExtBut s.heap.objs.size s.heap h'->qk (model prog w) A (assignInOrder ((zk elts env).map (·.2)) aX.toList) Q E {s with heap:=h' }) :
 qk (model prog w) A (assign (.Tuple elts x1 pos) env (.ref t)) Q E s:=by
 have hlt:t≠s.heap.objs.size:=by let(o,ho,_):=hl;exact xAj (xAa ho)
 have hl1:∀ o,(s.heap.push o).IsList t aX:=λ o=>let ⟨u,hu,r⟩:=hl;⟨u,hpS _ hu,r⟩
 rw[arm_assign_Tuple];refine wB (yz ?_);unfold unpack;rw[hn,hstar];refine wB (zy ?_);unfold unpackItems;refine wB ?_;unfold notIterableAtAll;refine wB (yy hl.typeIs slot_list_iter.lookup (wP ?_));simp only[yAx,if_false];refine wB (zy (jq hl ?_));refine wB (zy (aGU hlt aX.size 0 _ _ ⟨_,xAd _ rfl,rfl,rfl⟩ (hl1 _) (!_) λ h1 hit1 hs1=>?_));rw[show yEt aX.size (List.drop 0 aX.toList)=aX.toList by rw[yFd];exact yCf (by simp)];rw[if_neg (by simp)];have hl2:h1.IsList t aX:=(hl1 _).extBut hs1.extBut hlt;refine wB (zy (vv hh hit1 hl2 (by simp) λ h2 he2=>?_));simp only[Option.isSome_none,yAx,if_false];exact wP (h h2 λ b o hb e=>he2 b o hb (hs1.extBut b o hb (hpS _ e)))
def aFe(K:FrG)(n:Nat)(t:jO):TG:=λ v σ H Q=>∃ a xs,v=.ref a/\(cQ K H a xs\/cK K H a xs)/\↑xs=n/\t xs σ H Q
def aVz(hc:X.calm=true)(h:sM X es t)(hn:(zk es X.env).length=n)(hst:(zk es X.env).findIdx? (·.1)=qz):PG X (.Tuple es k pos) (aFe X.K n t):=by
 intro aB s σ H v u Q I r hw;let(a,xs,e1,hq,hl,hw):=hw;rcases hq with hq|hq
 ·exact aS0 hc h hn hst aB s σ H v u Q I r ⟨a,xs,e1,hq,hl,hw⟩
 ·subst e1;cases r;let(aH,rv,pl,hz):=I.list hq;refine aNQ (I.ok.hd hc) pl.isList (by simp[hn,<- hl,rv.length]) hst λ h' hx=>?_
  have I1:Inv X aB σ H {s with heap:=h' }:=I.kept (t':=s.toks) λ b o e=>hx b o (xAj (xAa e)) e
  exact h aB _ σ H xs _ Q I1 (rv:) hw
def aMU(K:FrG)(D:Ends)(F':Hp)(L':List qv)(H':Hp):Fl->Prop
 |.nx aY=>∀ σ',EnvR K F' L' aY σ'->D.nx σ' H'|.rt w=>∀ v,fG K F' L' w v->D.rt v H'|.bk aY=>∀ σ',EnvR K F' L' aY σ'->D.bk σ' H'|.ct aY=>∀ σ',EnvR K F' L' aY σ'->D.ct σ' H'
def nJ{f:FS}{D:Ends}(R:Rel K F L S H)(E:EnvR K F L env σ)(e:f env S=qq (fl,S'))(q:∀ F' L' H',Gr F L F' L'->Rel K F' L' S' H'->aMU K D F' L' H' fl):dY K f D σ H:=⟨F,L,S,env,fl,S',R,E,e,λ F' L' H' g R'=>by
 have:=q F' L' H' g R';cases fl<;>exact this⟩
def lT{f:FS}{D:Ends}{σ:St}{H:Hp}(h:dY K f D σ H):∃ F L S env fl S',Rel K F L S H/\EnvR K F L env σ/\f env S=qq (fl,S')/\∀ F' L' H',Gr F L F' L'->Rel K F' L' S' H'->aMU K D F' L' H' fl:=by
 let(F,L,S,env,fl,S',R,E,e,q):=h;exact⟨F,L,S,env,fl,S',R,E,e,λ F' L' H' g R'=>by
  have:=q F' L' H' g R';cases fl<;>exact this⟩
def rP:FS:=λ env S=>qq (.nx env,S)
def aU6:eE X [] (dY X.K rP):=eE.weak aQQ λ D σ H h=>by
 let(F,L,S,env,fl,S',R,E,e,q):=lT h;cases e;exact q F L H Gr.refl R σ E
def dN(fa fb:FS):FS:=λ env S=>(fa env S).bind λ p=>match p.1 with|.nx e=>fb e p.2|fl=>qq (fl,p.2)
def aXo{fa fb:FS}(ha:PS X a (dY X.K fa))(hb:eE X b (dY X.K fb)):eE X (a::b) (dY X.K (dN fa fb)):=eE.weak (aQh ha hb) λ D σ H h=>by
 let(F,L,S,env,fl,S',R,E,e,q):=lT h;let((f1,S1),e1,e2):=aW e;cases f1 with
 |nx e'=>exact nJ R E e1 λ F1 L1 H1 g1 R1 σ1 E1=>nJ R1 E1 e2 λ F2 L2 H2 g2 R2=>q F2 L2 H2 (g1.trans g2) R2|rt w=>cases e2;exact nJ R E e1 λ F1 L1 H1 g1 R1=>q F1 L1 H1 g1 R1|bk e'=>cases e2;exact nJ R E e1 λ F1 L1 H1 g1 R1=>q F1 L1 H1 g1 R1|ct e'=>cases e2;exact nJ R E e1 λ F1 L1 H1 g1 R1=>q F1 L1 H1 g1 R1
def xS(fa:FE):FS:=λ env S=>(fa env S).bind λ p=>qq (.nx env,p.2)
def aUc{pos:Pos}{fa:FE}(h:PE X e (bH X.K fa))(hs:swapsWith e qz pos.line X.env=pure false):PS X (.Expr e pos) (dY X.K (xS fa)):=PS.weak (aQV h hs) λ D σ H h=>by
 let(F,L,S,env,fl,S',R,E,e,q):=lT h;let((w,S1),e1,e2):=aW e;cases e2;exact⟨F,L,S,env,w,_,R,E,e1,λ F1 L1 H1 v g1 R1 d1=>q F1 L1 H1 g1 R1 σ (E.mono g1)⟩
def qE(fa:FE):FS:=λ env S=>(fa env S).bind λ p=>qq (.rt p.1,p.2)
def aXW{fa:FE}(h:PE X e (bH X.K fa)):PS X (.Return (qq e) pos) (dY X.K (qE fa)):=PS.weak (aVs h) λ D σ H h=>by
 let(F,L,S,env,fl,S',R,E,e,q):=lT h;let((w,S1),e1,e2):=aW e;cases e2;exact⟨F,L,S,env,w,_,R,E,e1,λ F1 L1 H1 v g1 R1 d1=>q F1 L1 H1 g1 R1 v d1⟩
def aVL:FS:=λ env S=>qq (.rt (.d .none),S)
def oH(fc:FT)(fa fb:FS):FS:=λ env S=>(fc env S).bind λ p=>if p.1=true then fa env p.2 else fb env p.2
def aYE{fc:FT}{fa fb:FS}(hc:PT X c (fW X.K fc))(ha:eE X a (dY X.K fa))(hb:eE X b (dY X.K fb)):PS X (.If c a b pos) (dY X.K (oH fc fa fb)):=PS.weak (aWK hc ha hb) λ D σ H h=>by
 let(F,L,S,env,fl,S',R,E,e,q):=lT h;let((c,S1),e1,e2):=aW e;refine⟨F,L,S,env,c,S1,R,E,e1,λ F1 L1 H1 g1 R1=>?_⟩;cases c with
 |true=>exact uH (nJ R1 (E.mono g1) (e2:) λ F2 L2 H2 g2 R2=>q F2 L2 H2 (g1.trans g2) R2)|false=>exact uO (nJ R1 (E.mono g1) (e2:) λ F2 L2 H2 g2 R2=>q F2 L2 H2 (g1.trans g2) R2)
def jH(i:Nat)(fa:FE):FS:=λ env S=>(fa env S).bind λ p=>qq (.nx (env.set i (qq p.1)),p.2)
def aLZ{fa:FE}(D:Ends)(σ:St)(H:Hp)(h:dY K (jH i fa) D σ H):yI (bH K fa) (pW i) D σ H:=by let(F,L,S,env,fl,S',R,E,e,q):=lT h;let((w,S1),e1,e2):=aW e;cases e2;exact⟨F,L,S,env,w,_,R,E,e1,λ F1 L1 H1 v g1 R1 d1=>q F1 L1 H1 g1 R1 _ ((E.mono g1).set i d1)⟩
def aLr{pos:Pos}{fa:FE}(hN:X.N.Nodup)(hi:X.N[i]?=qq x)(hx:Loc X.env.scope x)(he:PE X e (bH X.K fa))(hs:swapsWith e (qq (.Name x pos')) pos.line X.env=pure false)(hf:X.fn x=true\/X.env.scope.names.lookup x=qq .local) :
 PS X (.Assign [.Name x pos'] e pos) (dY X.K (jH i fa)):=PS.weak (aVt hN hi hx he hs hf) aLZ
def pJ:List Nat->List D->bI->Option bI
 |[],[],env=>qq env|i::is,d::ds,env=>pJ is ds (env.set i (qq (.d d)))|_,_,_=>qz
inductive Tg where
 |one (i:Nat)|many (is:List Nat)
def Tg.put:Tg->D->bI->Option bI
 |.one i,d,env=>qq (env.set i (qq (.d d)))|.many is,.tuple ds,env=>pJ is ds env|.many is,.list ds,env=>pJ is ds env|.many _,_,_=>qz
def GA(K:FrG)(t:Tg)(g:TG):Prop:=∀ (d:D) (x:V) (σ:St) (H F:Hp) (L:List qv) (S:aE) (env aY:bI) (Q:St->Hp->Prop),
 Rel K F L S H->EnvR K F L env σ->Den K F d x->t.put d env=qq aY->(∀ σ',EnvR K F L aY σ'->Q σ' H)->g x σ H Q
def aTn(i:Nat):GA K (.one i) (pW i):=λ d x σ H F L S env aY Q R E dn e q=>by
 cases e;exact q _ (E.set i (w:=.d d) dn)
def zK(K:FrG)(is:List Nat)(g:jO):Prop:=∀ (ds:List D) (xs:List V) (σ:St) (H F:Hp) (L:List qv) (S:aE) (env aY:bI) (Q:St->Hp->Prop),
 Rel K F L S H->EnvR K F L env σ->DenL K F ds xs->pJ is ds env=qq aY->(∀ σ',EnvR K F L aY σ'->Q σ' H)->g xs σ H Q
def aSw:zK K [] aE1:=λ ds xs σ H F L S env aY Q R E dn e q=>by
 cases dn with
 |nil=>cases e;exact⟨rfl,q σ E⟩|cons _ _=>cases e
def aP1(h:zK K is g):zK K (i::is) (aEA (pW i) g):=λ ds xs σ H F L S env aY Q R E dn e q=>by
 cases dn with
 |nil=>cases e|cons d1 dr=>exact⟨_,_,rfl,h _ _ _ H F L S _ aY Q R (E.set i (w:=.d _) d1) dr e q⟩
def aCX:∀ {is:List Nat}{ds:List D}{env aY:bI},pJ is ds env=qq aY->↑is=↑ds
 |[],[],_,_,_=>rfl|_::is,_::ds,_,_,e=>congrArg (· + 1) (@aCX is ds _ _ e)|[],_::_,_,_,e=>by cases e|_::_,[],_,_,e=>by cases e
def aQ4(h:zK K is g):GA K (.many is) (aFe K ↑is g):=λ d x σ H F L S env aY Q R E dn e q=>by
 cases d with
 |tuple ds=>
   cases dn with
   |tup sq dl=>exact⟨_,_,rfl,.inl (nN R.sub sq),by rw[<- dl.length];exact(aCX e).symm,h _ _ σ H F L S env aY Q R E dl e q⟩
 |list ds=>
   cases dn with
   |lst sq dl=>exact⟨_,_,rfl,.inr (R.sub.seq sq),by rw[<- dl.length];exact(aCX e).symm,h _ _ σ H F L S env aY Q R E dl e q⟩
 |_=>cases e
def pU(t:Tg)(fa:FE):FS:=λ env S=>(fa env S).bind λ p=>match p.1 with|.d d=>(t.put d env).bind λ e=>qq (.nx e,p.2)|_=>qz
def aUz{fa:FE}(hg:GA K t g)(D:Ends)(σ:St)(H:Hp)(h:dY K (pU t fa) D σ H):yI (bH K fa) g D σ H:=by
 let(F,L,S,env,fl,S',R,E,e,q):=lT h;let((w,S1),e1,e2):=aW e;dsimp only at e2;split at e2
 ·let(e',e3,e4):=aW e2;cases e4;exact⟨F,L,S,env,_,_,R,E,e1,λ F1 L1 H1 v g1 R1 d1=>hg _ v σ H1 F1 L1 _ env e' _ R1 (E.mono g1) d1 e3 λ σ' E'=>q F1 L1 H1 g1 R1 σ' E'⟩
 ·cases e2
def kX(S:aE):W->W->W->Option aE
 |.loc n,.d (.int k),.d x=>match S[n]? with
   |some (qq ds)=>(kK ↑ds k).bind λ j=>qq (S.set n (qq (ds.set j x)))|_=>qz
 |_,_,_=>qz
def mM(fo fi fe:FE):FS:=λ env S=>(fe env S).bind λ p=>(fo env p.2).bind λ q=>(fi env q.2).bind λ r=>(kX r.2 q.1 r.1 p.1).bind λ S'=>qq (.nx env,S')
def aOv(h:kX S o i x=qq S'):∃ n k d ds j,o=.loc n/\i=.d (.int k)/\x=.d d/\S[n]?=qq (qq ds)/\kK ↑ds k=qq j/\S'=S.set n (qq (ds.set j d)):=by
 unfold kX at h;split at h
 ·split at h
  ·rename_i ds e;let(j,e1,e2):=aW h;cases e2;exact⟨_,_,_,ds,j,rfl,rfl,rfl,e,e1,rfl⟩
  ·cases h
 ·cases h
def aWu{fo fi fe:FE}(D:Ends)(σ:St)(H:Hp)(h:dY K (mM fo fi fe) D σ H):yI (bH K fe) (aMc (bH K fo) (bH K fi) aK6) D σ H:=by
 let(F,L,S,env,fl,S',R,E,e,q):=lT h;let((we,S1),e1,e):=aW e;let((wo,S2),e2,e):=aW e;let((wi,S3),e3,e):=aW e;let(S4,e4,e):=aW e;cases e;let(n,k,d,ds,j,rfl,rfl,rfl,e5,e6,rfl):=aOv e4;refine⟨F,L,S,env,_,S1,R,E,e1,λ F1 L1 H1 v g1 R1 d1=>⟨F1,L1,S1,env,_,S2,R1,E.mono g1,e2,λ F2 L2 H2 o g2 R2 d2=>⟨F2,L2,S2,env,_,S3,R2,E.mono (g1.trans g2),e3,λ F3 L3 H3 i g3 R3 d3=>?_⟩⟩⟩;let(a,ea,rfl):=d2.mono g3;let(fa,xs,ha,dl):=R3.loc n a ds ea e5;have hi:i=.int k:=by cases (show Den K F3 (.int k) i from d3);rfl
 refine⟨a,xs,k,j,rfl,hi,ha,by rw[<- dl.length];exact e6,?_⟩;exact q F3 L3 _ ((g1.trans g2).trans g3) (R3.put ea fa (dl.set j (show Den K F3 d v from d1.mono (g2.trans g3)))) σ (E.mono ((g1.trans g2).trans g3))
def aXH{pos:Pos}{fo fi fe:FE}(ho:PE X o (bH X.K fo))(hi:PE X i (bH X.K fi))(he:PE X e (bH X.K fe))(ha:∀ v,assign (.Subscript o i pos') X.env v=(do
 let ov <- holding [v] (eval o X.env);let iv <- holding [v,ov] (eval i X.env)
 standAt pos'
 holding [v,ov,iv] (setItem ov iv v)
 release [v,ov,iv] []))(hs:swapsWithSole [.Subscript o i pos'] e pos.line X.env=pure false)(hw:yq [.Subscript o i pos'] e X.env=pure qz):PS X (.Assign [.Subscript o i pos'] e pos) (dY X.K (mM fo fi fe)):=
 PS.weak (aJ0 he (aT5 ho hi aQG ha) hs hw) aWu
def dI(S:aE):W->W->Option (W×aE)
 |.loc n,.d x=>match S[n]? with
   |some (qq ds)=>if ↑ds<qy then qq (.d .none,S.set n (qq (ds++[x]))) else qz
   |_=>qz
 |_,_=>qz
def aHn(h:dI S o x=qq (w,S')):∃ n d ds,o=.loc n/\x=.d d/\S[n]?=qq (qq ds)/\↑ds<qy/\w=.d .none/\S'=S.set n (qq (ds++[d])):=by
 unfold dI at h;split at h
 ·split at h
  ·rename_i ds e;split at h
   ·rename_i hz;cases h;exact⟨_,_,ds,rfl,rfl,e,hz,rfl,rfl⟩
   ·cases h
  ·cases h
 ·cases h
def gK(fo fe:FE):FE:=f2 fo fe dI
def aVS{fo fe:FE}(σ:St)(H:Hp)(Q:VK)(h:bH K (gK fo fe) σ H Q):tBM K "list" aJg (bH K fo) (iN K (eT fe jX)) σ H Q:=by
 let(F,L,S,env,w,S',R,E,e,q):=h;let((wo,S1),e1,e):=aW e;let((we,S2),e2,e):=aW e;let(n,d,ds,rfl,rfl,e5,hz,rfl,rfl):=aHn e;refine⟨F,L,S,env,_,S1,R,E,e1,λ F1 L1 H1 o g1 R1 d1=>?_⟩;let(a,ea,rfl):=d1;refine⟨.inl ⟨rfl,?_⟩,F1,L1,S1,env,[.d d],S2,R1,E.mono g1,?_,λ F2 L2 H2 vs g2 R2 d2=>?_⟩
 ·let(xs,hx):=R1.tr n a ea;exact⟨xs,cK.of hx⟩
 ·unfold eT;rw[e2];rfl
 ·cases d2 with
  |cons dd dr=>
    cases dr;have ea2:=g2.get ea;let(fa,xs,ha,dl):=R2.loc n a ds ea2 e5;exact⟨a,xs,_,rfl,rfl,ha,by rw[<- dl.length];exact hz,q F2 L2 _ _ (g1.trans g2) (R2.put ea2 fa (dl.append (.cons dd .nil))) Den.non⟩
structure Wk(K:FrG)(F:Hp)(L:List qv)(J:It)(ds:List D):Prop where
 go:∀ (i:Nat) (H:Hp),bY F H->i<↑ds->J.go i H
 stop:∀ (H:Hp),bY F H->J.stop ↑ds H
 yld:∀ (i:Nat) (H F1:Hp) (L1:List qv) (S:aE) (x:V) (H':Hp) (d:D),Gr F L F1 L1->Rel K F1 L1 S H->ds[i]?=qq d->J.yld i H x H'->∃ F2,bY F1 F2/\Rel K F2 L1 S H'/\Den K F2 d x
def kH(K:FrG)(f:FL):TI:=λ σ H R=>∃ F L S env ds S',Rel K F L S H/\EnvR K F L env σ/\f env S=qq (ds,S')/\∀ F' L' H' J,Gr F L F' L'->Rel K F' L' S' H'->Wk K F' L' J ds->R J H'
def PI.weak{t t':TI}(h:PI X tg iter t)(w:∀ σ H R,t' σ H R->t σ H R):PI X tg iter t':=λ aB s σ H R I q=>h aB s σ H R I (w σ H R q)
def aSd{xs:List V}(sq:cK K F a xs)(dl:DenL K F ds xs):Wk K F L (Itl K a) ds where
 go:=λ i H s hi=>⟨xs,xs[i]'(by rw[<- dl.length];exact hi),s.seq sq,by simp[dl.length▸hi]⟩
 stop:=λ H s=>⟨xs,s.seq sq,yHw dl.length.symm⟩
 yld:=λ i H F1 L1 S x H' d g R e y=>by
  let(e1,y):=y;subst e1;have h:=y xs ((g.f.trans R.sub).seq sq);let(x',e2,dx):=dl.get e;rw[h] at e2;cases e2;exact⟨F1,bY.refl _,R,dx.mono g.f⟩
def aVy{xs:List V}(sq:cQ K F a xs)(dl:DenL K F ds xs):Wk K F L (Itt K a) ds where
 go:=λ i H s hi=>⟨xs,xs[i]'(by rw[<- dl.length];exact hi),nN s sq,by simp[dl.length▸hi]⟩
 stop:=λ H s=>⟨xs,nN s sq,yHw dl.length.symm⟩
 yld:=λ i H F1 L1 S x H' d g R e y=>by
  let(e1,y):=y;subst e1;have h:=y xs (nN (g.f.trans R.sub) sq);let(x',e2,dx):=dl.get e;rw[h] at e2;cases e2;exact⟨F1,bY.refl _,R,dx.mono g.f⟩
def mK(lo:Int):Nat->List D
 |0=>[]|n+1=>.int lo::mK (lo+1) n
def aCR(n:Nat):∀ lo:Int,(mK lo n).length=n:=by
 induction n with
 |zero=>intro lo;rfl|succ n ih=>intro lo;simp[mK,ih]
def aIh:∀ (n:Nat) (lo:Int) (i:Nat),i<n->(mK lo n)[i]?=qq (.int (lo+i))
 |0,_,_,h=>by omega|n+1,lo,0,_=>by simp[mK]
 |n+1,lo,i+1,h=>by
   rw[mK,yBr,aIh n (lo+1) i (!_)];congr 2
   push_cast
   omega
def aPJ(lo:Int)(n:Nat):Wk K F L (Itr lo n) (mK lo n) where
 go:=λ i H s hi=>by rw[aCR] at hi;exact hi
 stop:=λ H s=>by rw[aCR];exact yAd _
 yld:=λ i H F1 L1 S x H' d g R e y=>by
  let(rfl,rfl):=y;have hi:i<n:=by
   have:=(gIm e).1;rw[aCR] at this;exact this
  rw[aIh n lo i hi] at e;cases e;exact⟨F1,bY.refl _,R,.int _⟩
def aMY(fa:FE):FL:=λ env S=>(fa env S).bind λ p=>match p.1 with|.d (.list ds)=>qq (ds,p.2)|_=>qz
def aMl(fa:FE):FL:=λ env S=>(fa env S).bind λ p=>match p.1 with|.d (.tuple ds)=>qq (ds,p.2)|_=>qz
def aXY{fa:FE}(ha:PE X a (bH X.K fa)):PI X tg a (kH X.K (aMY fa)):=PI.weak (aRH ha) λ σ H Rr bD=>by
 let(F,L,S,env,ds,S',R,E,e,q):=bD;let((w,S1),e1,e2):=aW e;dsimp only at e2;split at e2
 ·cases e2;refine⟨F,L,S,env,_,_,R,E,e1,λ F1 L1 H1 v g1 R1 d1=>?_⟩;cases (show Den X.K F1 (.list ds) v from d1) with
  |lst sq dl=>exact⟨_,rfl,⟨_,R1.sub.seq sq⟩,q F1 L1 H1 _ g1 R1 (aSd sq dl)⟩
 ·cases e2
def aYg{fa:FE}(ha:PE X a (bH X.K fa)):PI X tg a (kH X.K (aMl fa)):=PI.weak (aTh ha) λ σ H Rr bD=>by
 let(F,L,S,env,ds,S',R,E,e,q):=bD;let((w,S1),e1,e2):=aW e;dsimp only at e2;split at e2
 ·cases e2;refine⟨F,L,S,env,_,_,R,E,e1,λ F1 L1 H1 v g1 R1 d1=>?_⟩;cases (show Den X.K F1 (.tuple ds) v from d1) with
  |tup sq dl=>exact⟨_,rfl,⟨_,nN R1.sub sq⟩,q F1 L1 H1 _ g1 R1 (aVy sq dl)⟩
 ·cases e2
def yG(fa:FE):FL:=λ env S=>(fa env S).bind λ p=>match p.1 with
 |.d (.int j)=>if -(2^62)<=j/\j<2^62 then qq (mK 0 j.toNat,p.2) else qz
 |_=>qz
def aT7{fa:FE}(σ:St)(H:Hp)(Rr:It->Hp->Prop)(h:kH K (yG fa) σ H Rr):aL2 (iN K (eT fa jX)) σ H Rr:=by
 let(F,L,S,env,ds,S',R,E,e,q):=h;let((w,S1),e1,e2):=aW e;dsimp only at e2;split at e2
 ·split at e2
  ·rename_i j c;cases e2;refine⟨F,L,S,env,[.d (.int j)],_,R,E,by unfold eT;rw[e1];rfl,λ F1 L1 H1 vs g1 R1 d1=>?_⟩;cases d1 with
   |cons dd dr=>
     cases dr;cases (show Den K F1 (.int j) _ from dd);exact⟨j,rfl,c.1,c.2,q F1 L1 H1 _ g1 R1 (aPJ 0 j.toNat)⟩
  ·cases e2
 ·cases e2
def kC(t:Tg)(fb:FS):List D->FS
 |[]=>λ env S=>qq (.nx env,S)
 | d::ds=>λ env S=>(t.put d env).bind λ e1=>(fb e1 S).bind λ q=>(match q.1 with
    |.nx e=>kC t fb ds e q.2|.ct e=>kC t fb ds e q.2|.bk e=>qq (.nx e,q.2)
    | .rt w=>qq (.rt w,q.2))
def gZ(t:Tg)(fi:FL)(fb:FS):FS:=λ env S=>(fi env S).bind λ p=>kC t fb p.1 env p.2
def aWs{fi:FL}{fb:FS}(hp:PassesOwn (model X.prog X.w) X.A X.env X.xe)(hc:X.calm=true)(hi:PI X tg iter (kH X.K fi))(hg:PG X tg g)(ga:GA X.K t g)(hb:eE X b (dY X.K fb))(hs:∀ x,xk iter X.env x=pure x):PS X (.For tg iter b [] pos) (dY X.K (gZ t fi fb)):=PS.weak (aVG hp hc hi hg hb hs) λ D σ H h=>by
 let(F,L,S,env,fl,S',R,E,e,q):=lT h;let((ds,S1),e1,e2):=aW e;refine⟨F,L,S,env,ds,S1,R,E,e1,λ F0 L0 H0 J g0 R0 wk=>?_⟩
 dsimp only at e2;refine⟨λ i m σ1 H1=>i+m=↑ds/\∃ F1 L1 S1 env1,Gr F0 L0 F1 L1/\Rel X.K F1 L1 S1 H1/\EnvR X.K F1 L1 env1 σ1/\kC t fb (ds.drop i) env1 S1=qq (fl,S'),
  ⟨↑ds,yFp _,F0,L0,S1,env,Gr.refl,R0,E.mono g0,by rw[yFd];exact e2⟩,?_⟩
 rintro i m σ1 H1 ⟨him,F1,L1,S1',env1,g1,R1,E1,e3⟩;cases m with
 |zero=>
   have hi:i=↑ds:=by omega
   subst hi;rw[yFg] at e3;cases e3;exact .inl ⟨wk.stop H1 (g1.f.trans R1.sub),q F1 L1 H1 (g0.trans g1) R1 σ1 E1⟩
 |succ m=>
   have hi:i<↑ds:=by omega
   refine .inr ⟨wk.go i H1 (g1.f.trans R1.sub) hi,λ σ3 H3=>∃ F3 L3 S3 env3,Gr F0 L0 F3 L3/\Rel X.K F3 L3 S3 H3/\EnvR X.K F3 L3 env3 σ3/\kC t fb (ds.drop (i+1)) env3 S3=qq (fl,S'),
    λ σ3 H3 h3=>⟨m,yFh m,by omega,h3⟩,λ x H2 y=>?_⟩
   rw[yCu hi] at e3;let(env2,e4,e5):=aW e3;let((f6,S6),e6,e7):=aW e5;let(F2,s2,R2,d2):=wk.yld i H1 F1 L1 S1' x H2 ds[i] g1 R1 (yAa hi) y;have g2:Gr F1 L1 F2 L1:=⟨s2,[],by simp⟩;refine ga ds[i] x σ1 H2 F2 L1 S1' env1 env2 _ R2 (E1.mono g2) d2 e4 λ σ2 E2=>?_
   refine nJ R2 E2 e6 λ F3 L3 H3 g3 R3=>?_
   have g03:=(g1.trans g2).trans g3;cases f6 with
   |nx e'=>exact λ σ3 E3=>⟨F3,L3,S6,e',g03,R3,E3,e7⟩|ct e'=>exact λ σ3 E3=>⟨F3,L3,S6,e',g03,R3,E3,e7⟩|bk e'=>cases e7;exact λ σ3 E3=>q F3 L3 H3 (g0.trans g03) R3 σ3 E3|rt w=>cases e7;exact λ v d=>q F3 L3 H3 (g0.trans g03) R3 v d
def lC(k:Nat)(S:aE):W->Option (W×aE)
 |.d x=>qq (.d x,S.take k)
 |.loc m=>if m<k then qq (.loc m,S.take k) else match S[m]? with
   |some (qq ds)=>qq (.d (.list ds),S.take k)|_=>qz
 |.exc c r=>qq (.exc c r,S.take k)
def gL(fb:FS)(n:Nat)(ws:List W)(S:aE):Option (W×aE):=(fb (ws.map qq++yAg (n-↑ws) qz) S).bind λ p=>match p.1 with|.rt w=>lC ↑S p.2 w|.nx _=>qq (.d .none,p.2.take ↑S)|_=>qz
def aOq{N:List Str}:∀ {ws:List W}{vs:List V},WDenL K F L ws vs->EnvR K F L (ws.map qq++yAg (N.length-↑ws) qz) (L2.start N vs):=by
 intro ws vs h;unfold L2.start;rw[h.length];generalize N.length-↑vs=k;refine⟨by simp[h.length],?_⟩
 induction h with
 |nil=>
   intro i w e;have:=xAk e;simp at this
 |cons hd tl ih=>
   intro i w e;cases i with
   |zero=>simp at e;subst e;exact⟨_,rfl,hd⟩
   |succ i=>
     let(v,e1,d):=ih i w (e:);exact⟨v,by simpa using e1,d⟩
def aJ8{F1:Hp}{L:List qv}{S:aE}{Q:VK}(R:↑L=↑S)(g:Gr F L F1 L1)(R1:Rel K F1 L1 S1 H1)(d:fG K F1 L1 w v)(e:lC ↑S S1 w=qq (w',S'))(q:uI K F L S' w' Q):Q v H1:=by
 let(sf,M,rfl):=g;cases w with
 |d x=>
   cases e;have R2:=R1.cut;rw[R] at R2;exact q F1 L H1 v ⟨sf,[],by simp⟩ R2 d
 |exc c r=>
   cases e;have R2:=R1.cut;rw[R] at R2;exact q F1 L H1 v ⟨sf,[],by simp⟩ R2 d
 |loc m=>
   have e':(if m<↑S then qq (W.loc m,S1.take ↑S) else match S1[m]? with|some (qq ds)=>qq (W.d (.list ds),S1.take ↑S)|_=>qz)=qq (w',S'):=e;split at e'
   ·rename_i hm;cases e';have R2:=R1.cut;rw[R] at R2;let(a,ea,rfl):=d;rw[xAm (by rw[R];exact hm)] at ea;exact q F1 L H1 _ ⟨sf,[],by simp⟩ R2 ⟨a,ea,rfl⟩
   ·rename_i hm;split at e'
    ·rename_i ds es;cases e';let(a,ea,rfl):=d;let(F2,g2,R2,d2):=R1.freeze ea es;have R3:=R2.cut;rw[R,List.take_set,yFq (by rw[yBk];omega)] at R3;exact q F2 L H1 _ ⟨sf.trans g2.f,[],by simp⟩ R3 d2
    ·cases e'
def aUV{fb:FS}{N:List Str}{Q:VK}{E:XK}(h:uT K np (gL fb N.length) vs H Q E):dY K fb {nx:=λ _ H'=>Q .non H',rt:=Q } (L2.start N vs) H:=by
 let(F,L,S,ws,w,S',hn,R,dl,e,q):=h;let((fl,S1),e1,e2):=aW e;refine nJ R (aOq dl) e1 λ F1 L1 H1 g1 R1=>?_
 cases fl with
 |nx aY=>
   cases e2;exact λ σ' E'=>aJ8 (w:=.d .none) R.len g1 R1 Den.non rfl q
 |rt w'=>exact λ v d=>aJ8 R.len g1 R1 d e2 q|bk aY=>cases e2|ct aY=>cases e2
def aGd{α β:Type}{f:α->β->Sem (ForInStep β)}{g:α->β->β}:∀ (l:List α) (c:β),(∀ x∈l,∀ c,f x c=pure (ForInStep.yield (g x c)))->forIn l c f=pure (l.foldl (λ c x=>g x c) c)
 |[],c,_=>rfl
 |x::l,c,h=>by
   rw[List.forIn_cons,h x xAc c,pure_bind];exact aGd l (g x c) λ y hy=>h y (xAf _ hy)
def kS(env:Env)(x:Str×jv)(cs:List (Str×qv)):List (Str×qv):=if (x.2==NameKind.free)=true then (x.1,(env.cells.lookup x.1).getD 0)::cs else cs
def yO(scope:zv)(env:Env):List (Str×qv):=scope.names.foldl (λ c x=>kS env x c) []
def aOh{scope:zv}{env:Env}(h:∀ x∈scope.names,x.2=.free->∃ c,env.cells.lookup x.1=qq c):closureFor scope env=pure (yO scope env):=by
 unfold closureFor yO;dsimp only;rw[aGd (g:=kS env) scope.names [] (λ x hx c=>?_)]
 ·rfl
 ·let(n,k):=x;unfold kS;dsimp only;by_cases hk:k=.free
  ·let(a,ha):=h (n,k) hx hk;rw[if_pos (by simp[hk]),if_pos (by simp[hk])];have:cellOf env n=pure a:=by unfold cellOf;rw[ha]
   rw[this,pure_bind,ha];rfl
  ·rw[if_neg (by simp[hk]),if_neg (by simp[hk])]
def aHJ{env:Env}:∀ (l:List (Str×jv)) (aF:List (Str×qv)),(∀ x∈l,x.2=.free->∃ c,env.cells.lookup x.1=qq c)->(∀ x c,aF.lookup x=qq c->env.cells.lookup x=qq c) ->
 ∀ x c,(l.foldl (λ c x=>kS env x c) aF).lookup x=qq c->env.cells.lookup x=qq c
 |[],aF,_,ha,x,c,e=>ha x c e
 |y::l,aF,h,ha,x,c,e=>by
   refine aHJ l (kS env y aF) (λ z hz=>h z (xAf _ hz)) (λ z d ez=>?_) x c e;unfold kS at ez;split at ez
   ·rename_i hk;let(a,hy):=h y xAc (hk:);rw[yCh] at ez;split at ez
    ·rename_i hz;cases ez;have:z=y.1:=(hz:)
     rw[this,hy];rfl
    ·exact ha z d ez
   ·exact ha z d ez
def aEo:∀ (l:List (Str×jv)) (aF:List (Str×qv)) (x:Str),((∃ k,(x,k)∈l/\k=.free)\/∃ c,aF.lookup x=qq c)->∃ c,(l.foldl (λ c x=>kS env x c) aF).lookup x=qq c
 |[],aF,x,h=>by
   rcases h with ⟨k,hk,_⟩|h
   ·simp at hk
   ·exact h
 |y::l,aF,x,h=>by
   refine aEo l (kS env y aF) x ?_;have step:(∃ c,aF.lookup x=qq c)->∃ c,(kS env y aF).lookup x=qq c:=λ bD=>by
    let(c,e):=bD;unfold kS;split
    ·rw[yCh];split
     ·exact⟨_,rfl⟩
     ·exact⟨c,e⟩
    ·exact⟨c,e⟩
   rcases h with ⟨k,hk,e⟩|h
   ·rcases List.mem_cons.mp hk with z|z
    ·right;subst z e;unfold kS;rw[if_pos (by simp)];exact⟨(env.cells.lookup x).getD 0,by rw[yCh];simp⟩
    ·exact .inl ⟨k,z,e⟩
   ·exact .inr (step h)
def aGn(h:Str->jv->jv):∀ l:List (Str×jv),(l.map λ p=>(p.1,h p.1 p.2)).lookup x=(l.lookup x).map (h x)
 |[]=>rfl
 |(n,k)::r=>by
   have ih:=@aGn x h r;rw[yAt,yCh,yCh];cases hx:x==n with
   |true=>
     have e:x=n:=(hx:)
     subst e;rfl
   |false=>exact ih
def aNs{env:Env}(names:List (Str×jv)) :
 (names.map λ(n,k)=>if (k==NameKind.free&&env.scope.kind==.function&&env.kindOf n==qq .cell) then (n,NameKind.cell) else (n,k)).lookup x =
   (names.lookup x).map λ k=>if (k==NameKind.free&&env.scope.kind==.function&&env.kindOf x==qq .cell) then NameKind.cell else k:=by
 have e:(λ(p:Str×jv)=>match p with|(n,k)=>if (k==NameKind.free&&env.scope.kind==.function&&env.kindOf n==qq .cell)=true then (n,NameKind.cell) else (n,k)) =
  λ p=>(p.1,if (p.2==NameKind.free&&env.scope.kind==.function&&env.kindOf p.1==qq .cell)=true then NameKind.cell else p.2):=funext λ bD=>by
  let(n,k):=bD;dsimp only;split<;>rfl
 rw[e];exact aGn (λ n k=>if (k==NameKind.free&&env.scope.kind==.function&&env.kindOf n==qq .cell)=true then NameKind.cell else k) names
def aNE{R:Result -> qj -> Prop}(I:Nat->qj->Prop)(turn:∀ n s,I n s->qk (model prog w) A (yv it) (λ r s₁=>match r with
   |none=>R (.ok .next) s₁
   | some v=>qk (model prog w) A (vy target it v) (λ _ s₀=>qk (model prog w) A (assign target env v) (λ _ s₂=>
      qk (model prog w) A (forIn ifs true λ c r=>if r=true then do let ok <- isTrue c env (eval c env);pure (ForInStep.yield ok) else pure (ForInStep.yield r)) (λ ok s₃=>
       if ok=true then qk (model prog w) A (eval elt env) (λ x s₄=>
        qk (model prog w) A (call (.builtin "list.append") [aF,x]) (λ _ s₅=>∃ m,m<n/\I m s₅) (λ _ _=>False) s₄) (λ _ _=>False) s₃
       else ∃ m,m<n/\I m s₃) (λ _ _=>False) s₂) (λ _ _=>False) s₀) (λ _ _=>False) s₁) (λ _ _=>False) s)(n:Nat)(h:I n s):vx (model prog w) A (.compLoop (.ListComp elt [⟨target,iter,ifs,0⟩] scope pos) 0 it aF env) R s:=by
 have up:∀ {α:Type}{t:Sem α}{Q Q':α->qj->Prop}{E:qx->qj->Prop}{s:qj},qk (model prog w) A t Q (λ _ _=>False) s->(∀ a s,Q a s->Q' a s)->qk (model prog w) A t Q' E s:=
  λ h hq=>wpAny_mono h hq λ _ _ f=>f.elim
 refine codeAny_loop rfl I (λ n s hI=>?_) n h;show qk _ A ((compTurn (.ListComp elt [⟨target,iter,ifs,0⟩] scope pos) 0 it aF env).onRaise (λ x=>do noteFrame x env;theTreesLotGoes x)) _ _ s;refine wpAny_noted ?_;rw[compTurn_list];refine wB (yz (wB (up (turn n s hI) λ r s₁ h₁=>?_)));cases r with
 |none=>exact wP h₁
 |some v=>
   refine wB (up h₁ λ _ s₀ h₀=>?_);refine wB (up h₀ λ _ s₂ h₂=>wB (up h₂ λ ok s₃ h₃=>?_));cases ok with
   |false=>exact wP ⟨rfl,h₃⟩
   |true=>
     exact wB (wB (up h₃ λ x s₄ h₄=>wB (up h₄ λ _ s₅ h₅=>wP (wP ⟨rfl,h₅⟩))))
def lG(X:Cx)(aB:List (qv×Obj))(fp:List qv)(scope:zv)(C:qv)(s₀:qj)(H₀:Hp):Cx:=
 {X with s₀:=s₀,H₀:=H₀,env:=compEnvC scope (yO scope X.env) C X.env,outer:=X.stack,stack:=X.stack,ex:=fp,fn:=λ _=>false,pn:=X.pn++aB,xe:=λ _ _=>False }
def kU(X:Cx)(scope:zv)(Y:Cx):Prop:=∃ aB fp C s₀ H₀,Y=lG X aB fp scope C s₀ H₀
structure ScOk(scope osc:zv):Prop where
 kind:scope.kind=.function
 nocell:∀ x∈scope.names,x.2≠.cell
 free:∀ x∈scope.names,x.2=.free->osc.names.lookup x.1=qq .cell\/osc.names.lookup x.1=qq .free
 loc:∀ x∈scope.names,x.2=.local->scope.names.lookup x.1=qq .local
def mem_of_lookup{α:Type}{k:α}:∀ {l:List (Str×α)},l.lookup x=qq k->(x,k)∈l
 |[],h=>by simp at h
 |(n,j)::r,h=>by
   rw[yCh] at h;split at h
   ·rename_i hx;cases h;have:x=n:=(hx:)
    subst this;exact xAc
   ·exact xAf _ (mem_of_lookup h)
section
variable {X:Cx}{aB:List (qv×Obj)}{σ:L2.St}{H:Hp}{s:qj}{scope:zv}{fp:List qv}
def aHd:(lG X aB fp scope C s₀ H₀).env.kindOf x=(scope.names.lookup x).map λ k=>if (k==NameKind.free&&X.env.scope.kind==.function&&X.env.kindOf x==qq .cell) then NameKind.cell else k:=
 aNs scope.names
def aHv(ok:ScOk scope X.env.scope)(h:(lG X aB fp scope C s₀ H₀).env.kindOf x=qq .cell\/(lG X aB fp scope C s₀ H₀).env.kindOf x=qq .free):scope.names.lookup x=qq .free:=by
 rw[aHd] at h;cases e:scope.names.lookup x with
 |none=>rw[e] at h;simp at h
 |some k=>
   rw[e] at h;have nc:=ok.nocell (x,k) (mem_of_lookup e);cases k with
   |free=>rfl|cell=>exact absurd rfl nc| «local» => simp at h|globalExplicit=>simp at h|globalImplicit=>simp at h
def aIv(I:Inv X aB σ H s)(hfp:∀ b∈fp,gM X aB H b):∀ b∈fp,b ∉ iZ X.stack:=λ b hb z=>by
 rcases List.mem_cons.mp (I.stkSub b z) with q|q
 ·exact(hfp b hb).2.1 q
 ·exact(hfp b hb).2.2.1 q
def aHj(I:Inv X aB σ H s)(ok:ScOk scope X.env.scope):∀ x∈scope.names,x.2=.free->∃ c,X.env.cells.lookup x.1=qq c:=λ x hx e=>by
 rcases ok.free x hx e with q|q
 ·exact I.ok.has x.1 (.inl q)
 ·exact I.ok.has x.1 (.inr q)
def rD(I:Inv X aB σ H s)(ok:ScOk scope X.env.scope)(h:(yO scope X.env).lookup x=qq c):X.env.cells.lookup x=qq c:=
 aHJ scope.names [] (aHj I ok) (λ x c e=>by simp at e) x c h
def aSF(I:Inv X aB σ H s)(ok:ScOk scope X.env.scope)(hfp:∀ b∈fp,gM X aB H b)(hth:∀ b∈fp,b<s.heap.objs.size)(hC:s.heap.objs.size<=C):(lG X aB fp scope C s H).Ok where
 mod:=I.ok.mod
 kind:=ok.kind
 glob:=I.ok.glob
 blt:=I.ok.blt
 above:=hC
 inj:=λ x y c h1 h2=>I.ok.inj x y c (rD I ok h1) (rD I ok h2)
 has:=λ x h=>aEo scope.names [] x (.inl ⟨.free,mem_of_lookup (aHv ok h),rfl⟩)
 cab:=λ x c h _=>nomatch h
 hd:=I.ok.hd
 frames:=I.ok.frames
 stk:=.inl rfl
 exf:=λ b hb=>⟨λ z=>absurd (xAb (hth b hb) hC) (by have z':b=C:=z;rw[z'];exact yCg _),λ x c h=>(hfp b hb).2.2.2.2.1 x c (rD I ok h)⟩
 bs:=I.bs
 bsz:=xAh I.ok.bsz I.sz
 noex:=λ b o e hb=>by
  rcases (hfp b hb).2.2.2.1 with z|z
  ·exact I.ok.noex b o e z
  ·exact absurd (xAb (xAa e) (xAh I.ok.bsz z)) (yCg _)
 exfs:=λ b hb=>aIv I hfp b hb
 funs:=I.stack
 frf:=I.stkFree
end
def clr{α:Type}(is:List Nat)(l:List (Option α)):List (Option α):=is.foldl (λ e i=>e.set i qz) l
def vT{α:Type}:∀ (is:List Nat) (l:List (Option α)),(clr is l).length=↑l
 |[],_=>rfl
 |i::is,l=>by
   show(clr is (l.set i qz)).length=_;rw[vT is,yBe]
def aA1{α:Type}:∀ (is:List Nat) (l:List (Option α)) (j:Nat) (v:α),(clr is l)[j]?=qq (qq v)->l[j]?=qq (qq v)/\j ∉ is
 |[],_,_,_,h=>⟨h,by simp⟩
 |i::is,l,j,v,h=>by
   let(h1,h2):=aA1 is (l.set i qz) j v h;by_cases hj:i=j
   ·subst hj;rcases yGt i ↑l with q|q
    ·rw[yBb q] at h1;cases h1
    ·rw[yBn (by rw[yBe];exact q)] at h1;cases h1
   ·rw[yBa hj] at h1;exact⟨h1,λ z=>(List.mem_cons.mp z).elim (λ e=>hj e.symm) h2⟩
def aDv{α:Type}:∀ (is:List Nat) (l:List (Option α)) (j:Nat),j ∉ is->(clr is l)[j]?=l[j]?
 |[],_,_,_=>rfl
 |i::is,l,j,h=>by
   show(clr is (l.set i qz))[j]?=_;rw[aDv is _ j (λ z=>h (xAf _ z)),yBa (λ z=>h (by rw[z];exact xAc))]
def Tg.slots:Tg->List Nat
 |.one i=>[i]|.many is=>is
def EnvR.clr(h:EnvR K F L env σ)(is:List Nat):EnvR K F L (EV.clr is env) (EV.clr is σ):=
 ⟨by rw[vT,vT];exact h.len,λ j w e=>by
  let(e1,hj):=aA1 is env j w e;let(v,e2,d):=h.get j w e1;exact⟨v,by rw[aDv is σ j hj];exact e2,d⟩⟩
def aCU:∀ {is:List Nat}{ds:List D}{env aY:bI}{j:Nat},pJ is ds env=qq aY->j ∉ is->aY[j]?=env[j]?
 |[],[],_,_,_,e,_=>by cases e;rfl
 |i::is,d::ds,env,aY,j,e,h=>by
   rw[@aCU is ds _ _ _ e (λ z=>h (xAf _ z)),yBa (λ z=>h (by rw[z];exact xAc))]
 |[],_::_,_,_,_,e,_=>by cases e|_::_,[],_,_,_,e,_=>by cases e
def Tg.put_keep{t:Tg}(e:t.put d env=qq aY)(h:j ∉ t.slots):aY[j]?=env[j]?:=by
 cases t with
 |one i=>cases e;exact yBa (λ z=>h (by rw[z];exact xAc))
 |many is=>
   cases d with
   |tuple ds=>exact aCU e h|list ds=>exact aCU e h|_=>cases e
def aCJ:∀ {is:List Nat}{ds:List D}{env aY:bI},pJ is ds env=qq aY->aY.length=env.length
 |[],[],_,_,e=>by cases e;rfl|i::is,d::ds,env,aY,e=>by rw[@aCJ is ds _ _ e,yBe]|[],_::_,_,_,e=>by cases e|_::_,[],_,_,e=>by cases e
def Tg.put_length{t:Tg}(e:t.put d env=qq aY):aY.length=env.length:=by
 cases t with
 |one i=>cases e;exact yBe
 |many is=>
   cases d with
   |tuple ds=>exact aCJ e|list ds=>exact aCJ e|_=>cases e
def EnvR.back{F:Hp}{L:List qv}{env aY:bI}{σ:St}{t:Tg}{d:D}(e:t.put d (EV.clr t.slots env)=qq aY)(h:EnvR K F L aY σ):EnvR K F L (EV.clr t.slots env) σ:=
 ⟨by rw[<- h.len,Tg.put_length e],λ j w q=>by
  let(_,hj):=aA1 t.slots env j w q;exact h.get j w (by rw[Tg.put_keep e hj];exact q)⟩
def iU(t:Tg)(fc:FT)(fe:FE)(n:Nat)(env:bI):List D->aE->Option aE
 |[],S=>qq S
 |d::ds,S=>(t.put d env).bind λ e1=>(fc e1 S).bind λ c=>if c.1=true then (fe e1 c.2).bind λ p=>(dI p.2 (.loc n) p.1).bind λ r=>iU t fc fe n env ds r.2 else iU t fc fe n env ds c.2
def iG(t:Tg)(fi:FL)(fc:FT)(fe:FE):FL:=λ env S=>(fi env S).bind λ p=>(iU t fc fe p.2.length (clr t.slots env) p.1 (p.2++[qq []])).bind λ S'=>match S'[p.2.length]? with|some (qq zs)=>qq (zs,S'.take p.2.length)|_=>qz
def nF(Y:Cx)(ifs:List qw)(fc:FT):Prop:=∀ (aB:List (qv×Obj)) (s:qj) (σ:St) (H:Hp) (Q:Bool->Hp->Prop),Inv Y aB σ H s->fW Y.K fc σ H Q ->
 qk (model Y.prog Y.w) Y.A (forIn ifs true λ c r=>if r=true then do let ok <- isTrue c Y.env (eval c Y.env);pure (ForInStep.yield ok) else pure (ForInStep.yield r)) (TP Y aB σ Q) Y.xe s
def oC:FT:=λ _ S=>qq (true,S)
def aHp:nF Y [] oC:=λ aB s σ H Q I bD=>by
 let(F,L,S,env,b,S',R,E,e,q):=bD;cases e;exact wpAny_tests_nil ⟨H,I,q F L H Gr.refl R⟩
def aGT{fc:FT}(h:PT Y c (fW Y.K fc)):nF Y [c] fc:=λ aB s σ H Q I q=>wpAny_tests_one (h aB s σ H Q I q)
def aEL(N:List Str)(scope:zv)(is:List Nat):Prop:=∀ (i:Nat) (x:Str),N[i]?=qq x->scope.names.lookup x=qq .local->i∈is
def aHh{scope:zv}{tg iter elt:qw}{ifs:List qw}{pos:Pos}{t:Tg}{g:TG}{fi:FL}{fc:FT}{fe:FE}(use:Option (qx->Sem Unit))(hc:X.calm=true)(ok:ScOk scope X.env.scope)(own:aEL X.N scope t.slots)(hi:PI X tg iter (kH X.K fi))(hg:∀ Y,kU X scope Y->PG Y tg g)(ga:GA X.K t g)
 (ht:∀ Y,kU X scope Y->nF Y ifs fc) (he:∀ Y,kU X scope Y->PE Y elt (bH X.K fe)) (hs:∀ x,xk iter X.env x=pure x)
 {aB:List (qv×Obj)}{s:qj}{σ:St}{H:Hp}{Q:VK}{QQ:qx->qj->Prop}{pp:Pos} (I:Inv X aB σ H s) (h:jJ X.K (iG t fi fc fe) σ H Q)
 (hend:∀ (p C:qv) (s1:qj) (H':Hp),gM X aB H' C->(∃ m,s1.heap.Ns C m)->(∀ h',yEe C s1.heap h'->Inv X aB σ H' {s1 with heap:=h' })->Q (.ref p) H' ->
   compPost (model X.prog X.w) X.A X.xe use QQ (.ref p) C (.ok .next) s1) :
 qk (model X.prog X.w) X.A (comprehension (.ListComp elt [⟨tg,iter,ifs,0⟩] scope pos) scope X.env pp (newList []) false (eval iter X.env) use) QQ X.xe s:=by
 let(F,L,S,env,zs,S',R,E,e,q):=h;let((ds,S1),e1,e):=aW e;let(S2,e2,e):=aW e;dsimp only at e e2;have hz:S2[↑S1]?=qq (qq zs)/\S'=S2.take ↑S1:=by
  split at e
  ·rename_i z ez;cases e;exact⟨ez,rfl⟩
  ·cases e
 let(hz,rfl):=hz;refine wpAny_comprehension_free (use:=use) rfl hs (aOh (aHj I ok)) ok.kind ok.loc ?_;refine bO (hi aB s σ H (λ J H'=>∃ F' L',Gr F L F' L'/\Rel X.K F' L' S1 H'/\Wk X.K F' L' J ds) I ⟨F,L,S,env,ds,S1,R,E,e1,λ F' L' H' J g R' wk=>⟨F',L',g,R',wk⟩⟩) λ v s1 h1=>bO h1 λ itv s2 h2=>?_
 let(it,fp,tn,J,H2,rfl,I2,T,st2,f2,F1,L1,g1,R1,wk):=h2;refine zo (wpAny_newFunctionEnv ok.nocell (by intro y hy;simp at hy) (λ h₁ hns₁ hsb₁=>?_) ok.kind);dsimp only at hns₁ hsb₁ ⊢;have I3:Inv X aB σ (bQ H2 s2.heap.objs.size (.lst [])) {s2 with heap:=s2.heap.push {cls:=.type "list",dict:=qz,data:=.seq ([]:List qx).toArray } }:=I2.lnew (aH:=[]) (t':=s2.toks) .nil (yDw _);generalize hs3:({s2 with heap:=s2.heap.push {cls:=.type "list",dict:=qz,data:=.seq ([]:List qx).toArray } }:qj)=s3 at I3;have hh3:s2.heap.push {cls:=.type "list",dict:=qz,data:=.seq ([]:List qx).toArray }=s3.heap:=by rw[<- hs3]
 generalize hD:s2.heap.objs.size=Dd at I3;generalize hH3:bQ H2 Dd (.lst [])=H3 at I3;have hfr2:H2 Dd=qz:=by rw[<- hD];exact I2.fresh
 rw[hh3] at hns₁ hsb₁;rw[hh3];have hst:({heap:=h₁,gens:=s2.gens,drawn:=s2.drawn,toks:=s2.toks+([]:List (Str×qx)).length,os:=s2.os }:qj)={s3 with heap:=h₁,toks:=s3.toks+([]:List (Str×qx)).length }:=by rw[<- hs3]
 rw[hst];clear hst;generalize hC:s3.heap.objs.size=C at hns₁ hsb₁;have old:∀ b u,s3.heap.get? b=qq u->h₁.get? b=qq u:=λ b u q=>by
  have hb:b≠C:=by rw[<- hC];exact xAj (xAa q)
  exact hsb₁.extBut b u hb (hpS _ q)
 have lt2:∀ b∈fp,b<s2.heap.objs.size:=λ b hb=>by
  let(o,eo,_):=T.obj 0 _ st2 b hb;exact xAa eo
 have up23:∀ b u,s2.heap.get? b=qq u->s3.heap.get? b=qq u:=λ b u q=>by rw[<- hh3];exact hpS _ q
 have lt3:∀ b∈fp,b<s3.heap.objs.size:=λ b hb=>by
  let(o,eo,_):=T.obj 0 _ st2 b hb;exact xAa (up23 b o eo)
 have f3:∀ b∈fp,gM X aB H3 b:=λ b hb=>by
  refine⟨?_,(f2 b hb).2⟩;have ne:b≠Dd:=by rw[<- hD];exact xAj (lt2 b hb)
  rw[<- hH3,bT ne];exact(f2 b hb).1
 have okY:(lG X aB fp scope C s3 H3).Ok:=aSF I3 ok f3 lt3 (by rw[hC];exact yAd _);have hIC:kU X scope (lG X aB fp scope C s3 H3):=⟨aB,fp,C,s3,H3,rfl⟩;generalize hY:lG X aB fp scope C s3 H3=Y at okY hIC;have yE:Y.env=compEnvC scope (yO scope X.env) C X.env:=by rw[<- hY];rfl
 have I4:Inv Y [] (clr t.slots σ) H3 {s3 with heap:=h₁,toks:=s3.toks+([]:List (Str×qx)).length }:=by
  rw[<- hY] at okY ⊢;refine⟨okY,rfl,I3.bare,Un.kept old,⟨_,hns₁,λ i x v a1 a2 a3=>?_⟩,λ x c a=>?_,?_,λ x c a=>I3.freeC x c (rD I3 ok a),λ p hp=>?_,I3.hok.kept old,by rw[vT];exact I3.len⟩
  ·let(a4,a5):=aA1 t.slots σ i v a2;have nl:scope.names.lookup x≠qq .local:=λ z=>a5 (own i x a1 z)
   have sP:(lG X aB fp scope C s3 H3).env.kindOf x=qq .cell\/(lG X aB fp scope C s3 H3).env.kindOf x=qq .free:=by
    rcases a3 with z|z|z
    ·exfalso;have z':(lG X aB fp scope C s3 H3).env.kindOf x=qq .local:=z;rw[aHd] at z';cases ek:scope.names.lookup x with
     |none=>rw[ek] at z';cases z'
     |some k=>
       rw[ek] at z';cases k with
       | «local» => exact nl ek
       |free=>
         simp only[Option.map_some,Option.some.injEq] at z';split at z'<;>cases z'
       |cell=>exact ok.nocell (x,.cell) (mem_of_lookup ek) rfl|globalExplicit=>simp at z'|globalImplicit=>simp at z'
    ·exact .inl z
    ·exact .inr z
   have fr:=aHv ok sP;have ov:=ok.free (x,.free) (mem_of_lookup fr) rfl;let(m,hm,hl):=I3.loc;let(u,ru,lk):=hl i x v a1 a4 (ov.elim (λ z=>.inr (.inl z)) λ z=>.inr (.inr z));refine⟨u,ru,.inr ⟨sP,?_⟩⟩;let(c,hcl):=@aEo X.env scope.names [] x (.inl ⟨.free,mem_of_lookup fr,rfl⟩);have hc2:=rD I3 ok hcl;rcases lk with ⟨z,_⟩|⟨_,c',e',o',ho',hd'⟩
   ·exfalso;have z':X.env.scope.names.lookup x=qq .local:=z;rcases ov with w|w
    ·rw[w] at z';cases z'
    ·rw[w] at z';cases z'
   ·rw[hc2] at e';cases e';exact⟨c,hcl,o',old _ _ ho',hd'⟩
  ·let(v,o,ho,hd):=I3.cell x c (rD I3 ok a);exact⟨v,o,old _ _ ho,hd⟩
  ·show H3 C=qz;rw[<- hC];exact I3.fresh
  ·have hp':p∈X.pn++aB:=by
    have:p∈(X.pn++aB)++[]:=hp;rwa [yDz] at this
   let(b1,b2,b3,b4,b5):=I3.pin p hp';refine⟨old _ _ b1,b2,?_,λ z=>?_,b5⟩
   ·show p.1≠C;rw[<- hC];exact xAj (xAa b1)
   ·rcases List.mem_cons.mp (I3.stkSub p.1 z) with w|w
    ·exact b3 w
    ·exact b4 w
 have fpY:∀ {H':Hp},(∀ b∈fp,H' b=qz)->∀ b∈fp,gM Y [] H' b:=λ hn b hb=>by
  rw[<- hY];refine⟨hn b hb,?_,aIv I3 f3 b hb,.inl hb,λ x c a=>(f3 b hb).2.2.2.2.1 x c (rD I3 ok a),λ p hp=>?_⟩
  ·show b≠C;rw[<- hC];exact xAj (lt3 b hb)
  ·have hp':p∈X.pn++aB:=by
    have:p∈(X.pn++aB)++[]:=hp;rwa [yDz] at this
   exact(f3 b hb).2.2.2.2.2 p hp'
 have yA:Y.A=X.A:=by rw[<- hY];rfl
 have yP:Y.prog=X.prog:=by rw[<- hY];rfl
 have yW:Y.w=X.w:=by rw[<- hY];rfl
 have yK:Y.K=X.K:=by rw[<- hY];rfl
 have yC:Y.calm=true:=by rw[<- hY];exact hc
 have yX:Y.xe=λ _ _=>False:=by rw[<- hY];rfl
 have R3:Rel X.K F1 (L1++[Dd]) (S1++[qq []]) H3:=by rw[<- hH3];exact R1.newLoc hfr2 .nil
 obtain⟨PP,hPP⟩:∃ PP:Result->qj->Prop,PP=compPost (model X.prog X.w) X.A X.xe use QQ (.ref Dd) C:=⟨_,rfl⟩;have cH:∀ (s1:qj) (σ':L2.St) (H' F':Hp) (L':List qv),Inv Y [] σ' H' s1->Gr F1 (L1++[Dd]) F' L'->Rel X.K F' L' S2 H'->PP (.ok .next) s1:=by
  intro s1 σ' H' F' L' J' gg RR;rw[hPP];rw[<- hY] at J';let(m,hmC,_):=J'.loc;have hCn:H' C=qz:=J'.free;have hfC:gM X aB H' C:=I3.fpOk (by rw[hC];exact yAd _) hCn;let(sf,M,rfl):=gg;have cY:↑L1=↑S1:=R1.len;have eL:((L1++[Dd])++M)[↑S1]?=qq Dd:=by
   rw[yBq,yAf (by rw[cY];exact yAd _),cY,yBf];rfl
  let(hF,xs,hx,dl):=RR.loc ↑S1 Dd zs eL hz;have RR2:Rel X.K F' (L1++([Dd]++M)) S2 H':=by rw[<- yBq];exact RR
  have Rc:=RR2.cut;rw[cY] at Rc;have hnd:Dd ∉ L1:=λ z=>by
   have nd:=RR2.nd;rw[yHh] at nd;exact nd.2.2 Dd z Dd (by simp) rfl
  refine hend Dd C s1 H' hfC ⟨m,hmC⟩ (λ h' sb=>?_) (q F' L1 H' Dd xs (g1.trans ⟨sf,[],by simp⟩) Rc hF hnd hx dl);have neC:∀ b u,s3.heap.get? b=qq u->b≠C:=λ b u z=>by rw[<- hC];exact xAj (xAa z)
  have kp:∀ b u,b≠C->s1.heap.get? b=qq u->h'.get? b=qq u:=λ b u z w=>sb.extBut b u z w
  have bU:Un (iZ X.stack) fp H3 H' s3.heap s1.heap:=J'.base;have u:Un (iZ X.stack) fp H3 H' s3.heap h':=
   ⟨λ b o z n hb hx=>kp b o (neC b o z) (bU.keep b o z n hb hx),λ b o z n hb hx=>by let(sl,w):=bU.slot b o z n hb hx;exact⟨sl,kp b _ (neC b o z) w⟩,bU.free,
    λ b o z hx=>by let(o',w):=bU.there b o z hx;exact⟨o',kp b _ (neC b o z) w⟩,bU.tups,bU.frzs,bU.tbls⟩
  have hokY:dZ X.prog X.w H' s1.heap:=J'.hok;have hok':dZ X.prog X.w H' h':=λ b o z=>(hokY b o z).stay (λ c v hc2 w=>kp c v (λ zz=>by
   rcases hc2 with w2|w2
   ·rw[w2] at zz;rw[zz,hCn] at z;cases z
   ·rw[zz,hCn] at w2;cases w2) w) (λ _ w=>w) λ _ _ w=>w
  have os1:s1.os=s3.os:=J'.os;exact I3.call' (s':={s1 with heap:=h' }) os1 u hok' J'.bare λ b hb=>⟨(f3 b hb).2.2.2.1,(f3 b hb).2.1,(f3 b hb).2.2.2.2.1,(f3 b hb).2.2.2.2.2⟩
 have loop:∀ s5:qj,Inv Y [] (clr t.slots σ) H3 s5->tn 0 s5.heap ->
  vx (model X.prog X.w) X.A (.compLoop (.ListComp elt [⟨tg,iter,ifs,0⟩] scope pos) 0 (.ref it) (.ref Dd) Y.env) PP s5:=by
  intro s5 I5 st5;have E0:EnvR X.K F1 (L1++[Dd]) (clr t.slots env) (clr t.slots σ):=(E.mono (g1.trans Gr.newLoc)).clr t.slots;obtain⟨Iv,hIv⟩:∃ Iv:Nat->qj->Prop,∀ n s',Iv n s' ↔ (∃ i σ' H' F' L' S',Inv Y [] σ' H' s'/\tn i s'.heap/\(∀ b∈fp,H' b=qz)/\Gr F1 (L1++[Dd]) F' L'/\Rel X.K F' L' S' H'/\EnvR X.K F' L' (clr t.slots env) σ'/\i+n=↑ds /\
   iU t fc fe ↑S1 (clr t.slots env) (ds.drop i) S'=qq S2):=⟨_,λ _ _=>Iff.rfl⟩
  refine aNE Iv ?_ ↑ds ((hIv _ _).mpr ⟨0,clr t.slots σ,H3,F1,L1++[Dd],S1++[qq []],I5,st5,λ b hb=>(f3 b hb).1,Gr.refl,R3,E0,yFp _,by rw[yFd];exact e2⟩);intro n s6 h6;let(i,σ6,H6,F6,L6,S6,I6,st6,fr6,g6,R6,E6,hin,ec):=(hIv _ _).mp h6;clear h6;have g16:Gr F1 L1 F6 L6:=Gr.newLoc.trans g6;have toA:∀ {α:Type}{tt:Sem α}{QQ:α->qj->Prop}{EE:qx->qj->Prop}{ss:qj},qk (model X.prog X.w) Y.A tt QQ EE ss->qk (model X.prog X.w) X.A tt QQ EE ss:=λ hh=>by rw[yA] at hh;exact hh
  cases n with
  |zero=>
    have hi':i=↑ds:=by omega
    subst hi';rw[yFg] at ec;cases ec;refine bO (toA (T.done Y yP yW yK yC ↑ds [] s6 σ6 H6 _ I6 (fpY fr6) st6 (wk.stop H6 (g16.f.trans R6.sub)))) λ r s7 hPq30=>?_
    let(hr,I7):=hPq30;subst hr;exact cH s7 σ6 H6 F6 L6 I7 g6 R6
  |succ n=>
    have hi':i<↑ds:=by omega
    refine bO (toA (T.item Y yP yW yK yC i [] s6 σ6 H6 _ I6 (fpY fr6) st6 (wk.go i H6 (g16.f.trans R6.sub) hi'))) λ r s7 hPq31=>?_
    let(u,hr,h7):=hPq31;subst hr;refine bO (toA h7) λ _ s8 hPq32=>?_
    let(x,H8,I8,r8,y8,st8,fr8):=hPq32;let(F8,sf8,R8,d8):=wk.yld i H6 F6 L6 S6 x H8 ds[i] g16 R6 (yAa hi') y8;have g8:Gr F6 L6 F8 L6:=⟨sf8,[],by simp⟩;rw[yCu hi'] at ec;let(env9,ep,ec):=aW ec;let((cb,S9),et,ec):=aW ec;have I8':=I8.pinned (fpY fr8) (T.obj _ _ st8);have toF:∀ {α:Type}{tt:Sem α}{QQ:α->qj->Prop}{ss:qj},qk (model Y.prog Y.w) Y.A tt QQ Y.xe ss->qk (model X.prog X.w) X.A tt QQ (λ _ _=>False) ss:=λ hh=>by rw[yX,yP,yW,yA] at hh;exact hh
    refine toF (bO (hg Y hIC _ s8 σ6 H8 x u (λ σ' H'=>H'=H8/\EnvR X.K F8 L6 env9 σ') I8' r8 (ga ds[i] x σ6 H8 F8 L6 S6 (clr t.slots env) env9 _ R8 (E6.mono g8) d8 ep λ σ' E'=>⟨rfl,E'⟩)) λ _ s9 hPq33=>?_);let(σ9,H9,I9,hH9,E9):=hPq33;subst hH9;refine toF (bO (ht Y hIC _ s9 σ9 H9 (λ b H'=>∃ F' L',Gr F8 L6 F' L'/\Rel X.K F' L' S9 H'/\b=cb) I9 (by rw[yK];exact⟨F8,L6,S6,env9,cb,S9,R8,E9,et,λ F' L' H' g' R'=>⟨F',L',g',R',rfl⟩⟩)) λ ok2 s10 hPq34=>?_);let(H10,I10,F10,L10,g10,R10,hb10):=hPq34;subst hb10;dsimp only at ec;have again:∀ {σ7:L2.St}{H7 F7:Hp}{L7:List qv}{S7:aE}{s7':qj},Inv Y ([]++xO fp s8.heap) σ7 H7 s7'->Gr F8 L6 F7 L7->Rel X.K F7 L7 S7 H7->EnvR X.K F7 L7 env9 σ7->iU t fc fe ↑S1 (clr t.slots env) (ds.drop (i+1)) S7=qq S2 ->
     ∃ m,m<n+1/\Iv m s7':=by
     intro σ7 H7 F7 L7 S7 s7' I7 g7 R7 E7 ec7;refine⟨n,yFh n,(hIv _ _).mpr ⟨i+1,σ7,H7,F7,L7,S7,I7.unpinned,T.keep _ _ _ st8 λ b hb o eo=>(I7.pin (b,o) (xAp _ (xAp _ (vU hb eo)))).1,λ b hb=>?_,(g6.trans g8).trans g7,R7,EnvR.back ep E7,by omega,ec7⟩⟩;let(o,eo,_):=T.obj _ _ st8 b hb;exact(I7.pin (b,o) (xAp _ (xAp _ (vU hb eo)))).2.1
    cases ok2 with
    |false=>
      rw[if_neg (by simp)] at ec;rw[if_neg (by simp)];exact again I10 g10 R10 (E9.mono g10) ec
    |true=>
      rw[if_pos rfl] at ec;rw[if_pos rfl];let((wv,S11),ee,ec):=aW ec;let((wn,S12),ea,ec):=aW ec;let(n',dv,zs',hn',hw',es',hlt,hwn,rfl):=aHn ea;cases hn';subst hw';refine toF (bO (he Y hIC _ s10 σ9 H10 (λ v H'=>∃ F' L',Gr F10 L10 F' L'/\Rel X.K F' L' S11 H'/\Den X.K F' dv v) I10 ⟨F10,L10,S9,env9,_,S11,R10,E9.mono g10,ee,λ F' L' H' v g' R' d'=>⟨F',L',g',R',d'⟩⟩) λ xv s11 hPq35=>?_);let(v11,H11,I11,r11,F11,L11,g11,R11,d11):=hPq35;have gA:Gr F1 (L1++[Dd]) F11 L11:=((g6.trans g8).trans g10).trans g11;have eL:L11[↑S1]?=qq Dd:=gA.get (by rw[yAf (by rw[R1.len];exact yAd _),R1.len,yBf];rfl);let(hF,xs,hx,dl):=R11.loc ↑S1 Dd zs' eL es';refine toF (bO (@aG7 Y _ s11 σ9 H11 (.ref Dd) [v11] (.ref Dd) [xv] (λ _ H'=>Rel X.K F11 L11 (S11.set ↑S1 (qq (zs'++[dv]))) H') I11 rfl (.cons r11 .nil) ⟨Dd,xs,v11,rfl,rfl,hx,by rw[<- dl.length];exact hlt,R11.put eL hF (dl.append (.cons d11 .nil))⟩) λ _ s12 hPq36=>?_);let(_,H12,I12,_,R12):=hPq36;exact again I12 (g10.trans g11) R12 (E9.mono (g10.trans g11)) ec
 rw[yE,hPP] at loop;have st4:tn 0 h₁:=T.keep 0 _ _ st2 λ b _ o eo=>old b o (up23 b o eo)
 exact codeAny_compStart_list (loop _ I4 st4) (T.self X.A 0 _ _ _ st4 (loop _ I4 st4))
def aKf{t:Tg}{fi:FL}{fc:FT}{fe:FE}(hc:X.calm=true)(ok:ScOk scope X.env.scope)(own:aEL X.N scope t.slots)(hi:PI X tg iter (kH X.K fi))(hg:∀ Y,kU X scope Y->PG Y tg g)(ga:GA X.K t g)(ht:∀ Y,kU X scope Y->nF Y ifs fc)(he:∀ Y,kU X scope Y->PE Y elt (bH X.K fe))(hs:∀ x,xk iter X.env x=pure x) :
 PE X (.ListComp elt [⟨tg,iter,ifs,0⟩] scope pos) (jJ X.K (iG t fi fc fe)):=λ aB s σ H Q I h=>by
 rw[eval_ListComp];exact aHh qz hc ok own hi hg ga ht he hs I h λ p C s1 H' _ hm hI q=>hm.elim λ m hm=>⟨m,hm,λ h' sb=>⟨.ref p,H',hI h' sb,rfl,q⟩⟩
def aOU{t:Tg}{fi:FL}{fc:FT}{fe:FE}{fa:FE}(hN:X.N.Nodup)(hx1:X.N[i]?=qq x)(hx2:L2.Loc X.env.scope x)(hf:X.fn x=true\/X.env.scope.names.lookup x=qq .local)(hc:X.calm=true)(ok:ScOk scope X.env.scope)(own:aEL X.N scope t.slots)(hi:PI X tg iter (kH X.K fi))(hg:∀ Y,kU X scope Y->PG Y tg g)(ga:GA X.K t g)(ht:∀ Y,kU X scope Y->nF Y ifs fc)(he:∀ Y,kU X scope Y->PE Y elt (bH X.K fe))(hs:∀ x,xk iter X.env x=pure x)(hw:∀ σ H Q,bH X.K fa σ H Q->jJ X.K (iG t fi fc fe) σ H Q) :
 PS X (.Assign [.Name x pos'] (.ListComp elt [⟨tg,iter,ifs,0⟩] scope pos) spos) (dY X.K (jH i fa)):=by
 have hb:∃ b,swapsWith (.ListComp elt [⟨tg,iter,ifs,0⟩] scope pos) (qq (.Name x pos')) spos.line X.env=pure b:=⟨_,rfl⟩;let(b,hb):=hb;cases b with
 |false=>exact aLr hN hx1 hx2 (PE.weak (aKf hc ok own hi hg ga ht he hs) hw) hb hf
 |true=>
   intro aB s σ H DD I h;have h2:=aLZ DD σ H h;rw[exec_Assign_Name_used _ _ _ _ hb];refine wB (yz (wB ?_));show qk _ X.A (do let _ <- comprehension (.ListComp elt [⟨tg,iter,ifs,0⟩] scope pos) scope X.env _ (newList []) false (eval iter X.env) (qq (assign (.Name x pos') X.env))) _ _ s;refine wB (bO (aHh (QQ:=λ _ s'=>SP X aB DD .next s') (qq (assign (.Name x pos') X.env)) hc ok own hi hg ga ht he hs I (hw _ _ _ h2) λ p C s1 H' hC hm hI q=>?_) λ _ s' hq=>wP (wP hq));let(m,hm):=hm;have I1:Inv X aB σ H' s1:=hI s1.heap (Heap.SameBut.refl _ _);let(o,es,ep,ho,hd,r):=hm;have I2:=I1.pinned (fp:=[C]) (λ b hb=>by rw[List.mem_singleton.mp hb];exact hC) λ b hb=>by rw[List.mem_singleton.mp hb];exact⟨o,ho,λ v z=>by rw[hd] at z;cases z⟩
   refine bO (aDU (pos:=pos') hN hx1 hx2 hf _ s1 σ H' (.ref p) (.ref p) _ I2 rfl q) λ _ s2 hPq37=>?_
   let(σ2,H2,I3,q3):=hPq37;let(b1,b2,_):=I3.pin (C,o) (xAp _ (xAp _ (vU (by simp) ho)));refine⟨m,⟨o,es,ep,b1,hd,r⟩,λ h' sb=>⟨σ2,H2,?_,q3⟩⟩;exact I3.unpinned.turned (t':=s2.toks) (λ b o hb e=>sb.extBut b o hb e) b2 hC.2.1 hC.2.2.2.1 hC.2.2.2.2.1 hC.2.2.2.2.2
def rG:List D->Option (List Int)
 |[]=>qq []|.int i::r=>(rG r).bind λ l=>qq (i::l)|_::_=>qz
def lV:List D->Option (List Bool)
 |[]=>qq []|.bool i::r=>(lV r).bind λ l=>qq (i::l)|_::_=>qz
def eX:List D->Option D
 |[.list xs]=>qq (.int ↑xs)|[.tuple xs]=>qq (.int ↑xs)
 |[.str z]=>if z.length<=qy then qq (.int z.length) else qz
 |_=>qz
def nY:List D->Option D
 |[.int i,.int j]=>qq (.int (if j>i then j else i))
 |[.int i,.int j,.int k]=>qq (.int (if j>i then (if k>j then k else j) else (if k>i then k else i)))
 |[.list xs]=>match rG xs with
   |some (i::r)=>qq (.int (r.foldl max i))|_=>qz
 |_=>qz
def nW:List D->Option D
 |[.int i,.int j]=>qq (.int (if j<i then j else i))
 |[.list xs]=>match rG xs with
   |some (i::r)=>qq (.int (r.foldl min i))|_=>qz
 |_=>qz
def zC:List D->Option D
 |[.int i]=>qq (.int i)
 |[.bool k]=>qq (.int (if k then 1 else 0))
 |_=>qz
def xL:List D->Option D
 |[.list xs]=>qq (.tuple xs)|[.tuple xs]=>qq (.tuple xs)|_=>qz
def aCb:List D->Option D
 |[.list xs]=>(rG xs).bind λ l=>qq (.int l.sum)|_=>qz
def aB5:List D->Option D
 |[.list xs]=>(lV xs).bind λ l=>qq (.bool (l.all id))|_=>qz
def aB6:List D->Option D
 |[.list xs]=>(lV xs).bind λ l=>qq (.bool (l.any id))|_=>qz
def jY{xs:List V}(h:NowL X.K F H [d] xs):∃ x,xs=[x]/\bW X.K F H d x:=by
 cases h with
 |cons a b=>cases b;exact⟨_,rfl,a⟩
def aMD{xs:List V}(h:NowL X.K F H [d,e] xs):∃ x y,xs=[x,y]/\bW X.K F H d x/\bW X.K F H e y:=by
 cases h with
 |cons a b=>
   cases b with
   |cons c d=>cases d;exact⟨_,_,rfl,a,c⟩
def aYV{xs:List V}(h:NowL X.K F H [d,e,f] xs):∃ x y z,xs=[x,y,z]/\bW X.K F H d x/\bW X.K F H e y/\bW X.K F H f z:=by
 cases h with
 |cons a b=>cases b with
   |cons c d=>cases d with
     |cons e f=>cases f;exact⟨_,_,_,rfl,a,c,e⟩
def aV2(r:bG [x,y,z] us):∃ u v w',us=[u,v,w']/\bM x u/\bM y v/\bM z w':=by
 cases r with
 |cons r1 r2=>cases r2 with
   |cons r3 r4=>cases r4 with
     |cons r5 r6=>cases r6;exact⟨_,_,_,rfl,r1,r3,r5⟩
def aO6(hc:X.calm=true):fK X (.builtin "max") (λ xs H Q=>∃ i j k,xs=[.int i,.int j,.int k]/\Q (.int (if j>i then (if k>j then k else j) else (if k>i then k else i))) H):=by
 intro aB s σ H xs us Q I r h;let(i,j,k,rfl,q):=h;let(u,v,w',rfl,(t,rfl),(t',rfl),(t2,rfl)):=aV2 r;refine max_three_ints (I.ok.hd hc) λ h' tk kk=>⟨_,H,I.kept kk,?_,q⟩
 by_cases h1:j>i<;>by_cases h2:k>j<;>by_cases h3:k>i<;>simp only[h1,h2,h3,if_true,if_false]<;>exact⟨_,rfl⟩
def aAA:∀ {ds:List D}{xs:List V}{ns:List Int},DenL K F ds xs->rG ds=qq ns->xs=ns.map V.int
 |_,_,_,.nil,e=>by cases e;rfl
 |.int i::r,_,_,.cons h t,e=>by
   let(l,e1,e2):=aW e;cases e2;cases h;rw[yAt,aAA t e1]
 |.none::_,_,_,.cons _ _,e=>by cases e|.bool _::_,_,_,.cons _ _,e=>by cases e|.str _::_,_,_,.cons _ _,e=>by cases e|.list _::_,_,_,.cons _ _,e=>by cases e|.tuple _::_,_,_,.cons _ _,e=>by cases e|.dict _::_,_,_,.cons _ _,e=>by cases e
def aII:∀ (l:List Int) (i:Int),(l.foldl max i∈i::l)/\∀ a∈i::l,a<=l.foldl max i
 |[],i=>⟨List.mem_singleton.mpr rfl,λ a h=>by rw[List.mem_singleton.mp h];exact Int.le_refl _⟩
 |b::l,i=>by
   let(h1,h2):=aII l (max i b);rw[yAz];refine⟨?_,λ a ha=>?_⟩
   ·rcases List.mem_cons.mp h1 with h|h
    ·rw[h];rcases Int.le_total i b with q|q
     ·rw[Int.max_eq_right q];simp
     ·rw[Int.max_eq_left q];simp
    ·simp[h]
   ·have h3:=h2 (max i b) xAc;simp only[yEl] at ha;rcases ha with rfl|rfl|ha
    ·exact yHx (Int.le_max_left _ _) h3
    ·exact yHx (Int.le_max_right _ _) h3
    ·exact h2 a (xAf _ ha)
def aJc:∀ (l:List Int) (i:Int),(l.foldl min i∈i::l)/\∀ a∈i::l,l.foldl min i<=a
 |[],i=>⟨List.mem_singleton.mpr rfl,λ a h=>by rw[List.mem_singleton.mp h];exact Int.le_refl _⟩
 |b::l,i=>by
   let(h1,h2):=aJc l (min i b);rw[yAz];refine⟨?_,λ a ha=>?_⟩
   ·rcases List.mem_cons.mp h1 with h|h
    ·rw[h];rcases Int.le_total i b with q|q
     ·rw[Int.min_eq_left q];simp
     ·rw[Int.min_eq_right q];simp
    ·simp[h]
   ·have h3:=h2 (min i b) xAc;simp only[yEl] at ha;rcases ha with rfl|rfl|ha
    ·exact yHx h3 (Int.min_le_left _ _)
    ·exact yHx h3 (Int.min_le_right _ _)
    ·exact h2 a (xAf _ ha)
def aC2:∀ {l:List Int}{us:List qx},bG (l.map V.int) us->∃ ps:List (Int×Tok),us=ps.map (λ p=>Value.int p.1 p.2)/\ps.map (·.1)=l
 |[],us,r=>by cases r;exact⟨[],rfl,rfl⟩
 |i::l,us,r=>by
   cases r with
   |cons h t=>
     let(tk,rfl):=h;let(ps,rfl,rfl):=aC2 t;exact⟨(i,tk)::ps,rfl,rfl⟩
def aPn(hc:X.calm=true):fK X (.builtin "max") (λ xs H Q=>∃ (a:qv) (l:List Int),xs=[.ref a]/\cK X.K H a (l.map V.int)/\0<↑l/\∀ M,M∈l->(∀ i∈l,i<=M)->Q (.int M) H):=by
 intro aB s σ H xs us Q I r h;let(a,l,rfl,sq,hl,q):=h;let(u,rfl,ru):=mI r;cases ru;let(aH,rv,pl,hz):=I.list sq;let(ps,rfl,rfl):=aC2 rv;have hIL:s.heap.IsList a (intItems ps.toArray):=by
  have e:intItems ps.toArray=(ps.map (λ p=>Value.int p.1 p.2)).toArray:=by simp[intItems]
  rw[e];exact pl.isList
 refine max_intList (xs:=ps.toArray) (I.ok.hd hc) hIL (hl:) λ v h' tk hv hk=>?_
 let(t,rfl):=intItems_at hv;let(h1,h2):=argBest_gt (numAt ps.toArray) (ps.toArray.size-1);refine⟨.int _,H,I.kept hk,⟨_,rfl⟩,q _ ?_ λ i hi=>?_⟩
 ·rw[numAt_eq];have hz':0<ps.toArray.size:=(hl:)
  exact getD_mem (by rw[yAb,yEh];exact xAi h1 (Nat.sub_lt hz' Nat.one_pos))
 ·let(j,hj,rfl):=mem_getD hi;rw[yAb] at hj;have:=h2 j (by rw[yAi];omega);rw[numAt_eq (j:=j)] at this;exact this
def aOI(hc:X.calm=true):fK X (.builtin "min") (λ xs H Q=>∃ (a:qv) (l:List Int),xs=[.ref a]/\cK X.K H a (l.map V.int)/\0<↑l/\∀ M,M∈l->(∀ i∈l,M<=i)->Q (.int M) H):=by
 intro aB s σ H xs us Q I r h;let(a,l,rfl,sq,hl,q):=h;let(u,rfl,ru):=mI r;cases ru;let(aH,rv,pl,hz):=I.list sq;let(ps,rfl,rfl):=aC2 rv;have hIL:s.heap.IsList a (intItems ps.toArray):=by
  have e:intItems ps.toArray=(ps.map (λ p=>Value.int p.1 p.2)).toArray:=by simp[intItems]
  rw[e];exact pl.isList
 refine min_intList (xs:=ps.toArray) (I.ok.hd hc) hIL (hl:) λ v h' tk hv hk=>?_
 let(t,rfl):=intItems_at hv;let(h1,h2):=argBest_lt (numAt ps.toArray) (ps.toArray.size-1);refine⟨.int _,H,I.kept hk,⟨_,rfl⟩,q _ ?_ λ i hi=>?_⟩
 ·rw[numAt_eq];have hz':0<ps.toArray.size:=(hl:)
  exact getD_mem (by rw[yAb,yEh];exact xAi h1 (Nat.sub_lt hz' Nat.one_pos))
 ·let(j,hj,rfl):=mem_getD hi;rw[yAb] at hj;have:=h2 j (by rw[yAi];omega);rw[numAt_eq (j:=j)] at this;exact this
def aXx:fK X (.builtin "len") (oG X eX):=λ aB s σ H xs us Q I r bD=>by
 let(F,L,S,ds,z,R,n,e,q):=bD;unfold eX at e;split at e
 ·cases e;let(x,rfl,nx):=jY n;let(a,ys,rfl,sq,dl):=nx.lst R.sub;exact aGh aB s σ H _ us Q I r ⟨a,ys,rfl,.inl sq,by rw[<- dl.length];exact q.here R (.int _)⟩
 ·cases e;let(x,rfl,nx):=jY n;let(a,ys,rfl,sq,dl):=nx.tup R.sub;exact aGh aB s σ H _ us Q I r ⟨a,ys,rfl,.inr sq,by rw[<- dl.length];exact q.here R (.int _)⟩
 ·split at e
  ·rename_i hz;cases e;let(x,rfl,nx):=jY n;exact aNG aB s σ H _ us Q I r ⟨_,by rw[nx.str],hz,q.here R (.int _)⟩
  ·cases e
 ·cases e
def aXe(hc:X.calm=true):fK X (.builtin "max") (oG X nY):=λ aB s σ H xs us Q I r bD=>by
 let(F,L,S,ds,z,R,n,e,q):=bD;unfold nY at e;split at e
 ·cases e;let(x,y,rfl,nx,ny):=aMD n;exact aOM hc aB s σ H _ us Q I r ⟨_,_,by rw[nx.int,ny.int],q.here R (.int _)⟩
 ·cases e;let(x,y,u,rfl,nx,ny,nu):=aYV n;exact aO6 hc aB s σ H _ us Q I r ⟨_,_,_,by rw[nx.int,ny.int,nu.int],q.here R (.int _)⟩
 ·split at e
  ·rename_i xs' i r' hi;cases e;let(x,rfl,nx):=jY n;let(a,ys,rfl,sq,dl):=nx.lst R.sub;obtain rfl:=aAA dl hi;refine aPn hc aB s σ H _ us Q I r ⟨a,i::r',rfl,sq,by simp,λ M h1 h2=>?_⟩;have f:=aII r' i;have:M=r'.foldl max i:=Int.le_antisymm (f.2 _ h1) (h2 _ f.1);rw[this];exact q.here R (.int _)
  ·cases e
 ·cases e
def aWd(hc:X.calm=true):fK X (.builtin "min") (oG X nW):=λ aB s σ H xs us Q I r bD=>by
 let(F,L,S,ds,z,R,n,e,q):=bD;unfold nW at e;split at e
 ·cases e;let(x,y,rfl,nx,ny):=aMD n;exact aPs hc aB s σ H _ us Q I r ⟨_,_,by rw[nx.int,ny.int],q.here R (.int _)⟩
 ·split at e
  ·rename_i xs' i r' hi;cases e;let(x,rfl,nx):=jY n;let(a,ys,rfl,sq,dl):=nx.lst R.sub;obtain rfl:=aAA dl hi;refine aOI hc aB s σ H _ us Q I r ⟨a,i::r',rfl,sq,by simp,λ M h1 h2=>?_⟩;have f:=aJc r' i;have:M=r'.foldl min i:=Int.le_antisymm (h2 _ f.1) (f.2 _ h1);rw[this];exact q.here R (.int _)
  ·cases e
 ·cases e
def aVO:fK X (.type "int") (oG X zC):=λ aB s σ H xs us Q I r bD=>by
 let(F,L,S,ds,z,R,n,e,q):=bD;unfold zC at e;split at e
 ·cases e;let(x,rfl,nx):=jY n;exact aHa aB s σ H _ us Q I r (.inl ⟨_,by rw[nx.int],q.here R (.int _)⟩)
 ·cases e;let(x,rfl,nx):=jY n;exact aHa aB s σ H _ us Q I r (.inr ⟨_,by rw[nx.bl],q.here R (.int _)⟩)
 ·cases e
def aSI:fK X (.type "tuple") (oG X xL):=λ aB s σ H xs us Q I r bD=>by
 let(F,L,S,ds,z,R,n,e,q):=bD;unfold xL at e;split at e
 ·cases e;let(x,rfl,nx):=jY n;let(a,ys,rfl,sq,dl):=nx.lst R.sub;exact aF7 aB s σ H _ us Q I r ⟨a,ys,rfl,.inl ⟨sq,λ l hl=>q.tup R hl dl⟩⟩
 ·cases e;let(x,rfl,nx):=jY n;have nx':=nx;let(a,ys,rfl,sq,dl):=nx.tup R.sub;refine aF7 aB s σ H _ us Q I r ⟨a,ys,rfl,.inr ⟨sq,q.here R ?_⟩⟩;rcases nx' with nx|⟨_,_,_,e,_⟩
  ·exact nx
  ·cases e
 ·cases e
def aCQ{A:zj}(hh:A.handled=qz)(I ax:qv)(hne:ax≠I)(aX:Array qx) :
 WalksS prog w A I [I,ax] [I] (λ a b=>b=a) aX.size (λ i v=>aX[i]?=qq v) (λ i s=>s.heap.IsListIter I ax i/\s.heap.IsList ax aX) where
 sub:=λ b hb=>by simp at hb;simp[hb]
 grefl:=λ _=>rfl
 gtrans:=λ _ _ _ h1 h2=>h2.trans h1
 frame:=λ _ _ _ _ st _ hk=>⟨st.1.at λ o e=>hk I (by simp) o e,st.2.at λ o e=>hk ax (by simp) o e⟩
 item:=λ i s Q E hi st hQ=>by
  refine vj st.1 st.2 (x:=aX[i]) (by simp[hi]) λ h' hit' hs'=>?_
  exact hQ _ _ (by simp[hi]) ⟨hit',st.2.extBut hs'.extBut hne⟩ ⟨λ b o hb e=>hs'.extBut b o (λ h=>hb (by simp[h])) e,rfl,rfl,rfl,yAd _⟩
 done:=λ s Q E st hQ=>vv hh st.1 st.2 (by simp) λ h' he'=>hQ _ ⟨λ b o hb e=>he' b o (λ h=>hb (by simp[h])) e,rfl,rfl,rfl,yAd _⟩
 self:=λ _ _ _ _ st hQ=>wpAny_pyIter_listiter st.1 hQ
def aGx:∀ (ns:List Int) (k:Nat),k<=↑ns->preSum (λ i=>ns.getD i 0) k=(ns.take k).sum
 |_,0,_=>by simp[preSum]
 |ns,k+1,h=>by
   rw[preSum,aGx ns k (!_),yFw (!_),List.sum_append];have:ns.getD k 0=ns[k]:=by simp[yHi,yAa (show k<↑ns by omega)]
   rw[this];simp
def aCP:∀ {ds:List D}{xs:List V}{ns:List Bool},DenL K F ds xs->lV ds=qq ns->xs=ns.map V.bl
 |_,_,_,.nil,e=>by cases e;rfl
 |.bool i::r,_,_,.cons h t,e=>by
   let(l,e1,e2):=aW e;cases e2;cases h;rw[yAt,aCP t e1]
 |.none::_,_,_,.cons _ _,e=>by cases e|.int _::_,_,_,.cons _ _,e=>by cases e|.str _::_,_,_,.cons _ _,e=>by cases e|.list _::_,_,_,.cons _ _,e=>by cases e|.tuple _::_,_,_,.cons _ _,e=>by cases e|.dict _::_,_,_,.cons _ _,e=>by cases e
def aNP{ns:List Int}{us:List qx}(r:bG (ns.map V.int) us){i:Nat}{v:qx}(e:us[i]?=qq v):∃ t,v=.int (ns.getD i 0) t:=by
 have hl:=r.length;rw[yAb] at hl;have hi:i<↑ns:=by rw[hl];exact(gIm e).1
 let(u,e1,ru):=bG.get r (i:=i) (x:=.int ns[i]) (by rw[yAc,yAa hi];rfl);rw[e] at e1;cases e1;let(t,rfl):=ru;exact⟨t,by simp[yHi,yAa hi]⟩
def aGi{ns:List Bool}{us:List qx}(r:bG (ns.map V.bl) us){i:Nat}{v:qx}(e:us[i]?=qq v):v=.bool (ns.getD i false):=by
 have hl:=r.length;rw[yAb] at hl;have hi:i<↑ns:=by rw[hl];exact(gIm e).1
 let(u,e1,ru):=bG.get r (i:=i) (x:=.bl ns[i]) (by rw[yAc,yAa hi];rfl);rw[e] at e1;cases e1;obtain rfl:=ru;simp[yHi,yAa hi]
def aWS(hc:X.calm=true):fK X (.builtin "sum") (oG X aCb):=λ aB s σ H xs us Q I r bD=>by
 let(F,L,S,ds,z,R,n,e,q):=bD;unfold aCb at e;split at e
 ·let(ns,e1,e2):=aW e;cases e2;let(x,rfl,nx):=jY n;let(a,ys,rfl,sq,dl):=nx.lst R.sub;obtain rfl:=aAA dl e1;let(u,rfl,ru):=mI r;cases ru;let(aH,rv,pl,hz):=I.list sq;have hh:X.A.in1.handled=qz:=I.ok.hd hc;refine call_sum_walkAnyS (jq pl.isList ?_);have hne:a≠s.heap.objs.size:=by
   let(o,ho,_):=pl.isList;exact xAj (xAa ho)
  have hl:=rv.length;rw[yAb] at hl;refine⟨_,_,_,_,_,_,_,λ i=>ns.getD i 0,rfl,aCQ hh s.heap.objs.size a hne aH.toArray,⟨⟨_,xAd _ rfl,rfl,rfl⟩,?_⟩,λ b hb=>?_,λ i v e=>aNP rv (e:),λ s' t' mv=>?_⟩
  ·let(o,ho,r'):=pl.isList;exact⟨o,hpS _ ho,r'⟩
  ·let(o,ho,_):=pl.isList;have h1:=xAa ho;simp only[yEl,yEo,or_false] at hb;rw[Heap.size_push];rcases hb with rfl|rfl
   ·exact yFh _
   ·exact Nat.lt_succ_of_lt h1
  ·let(h',g',d',t2,o'):=s';let(mh,mg,md,mo,mt):=mv;dsimp only at mh mg md mo;subst mg md mo;have I':Inv X aB σ H {s with heap:=h',toks:=t2 }:=I.kept λ b o e=>mh b o (λ z=>by
    have:b=s.heap.objs.size:=(z:)
    exact yCg _ (this▸xAa e)) (hpS _ e)
   have e3:preSum (λ i=>ns.getD i 0) aH.toArray.size=ns.sum:=by
    rw[yAi,<- hl,aGx ns ↑ns (yAd _),yAe]
   rw[e3];exact⟨.int ns.sum,H,I',⟨_,rfl⟩,q.here R (.int _)⟩
 ·cases e
def aGE{Q:Bool->qj->Prop}{E:qx->qj->Prop}(h:Q b s):qk (model prog w) A (truthy (.bool b)) Q E s:=by
 first
  |exact xu h
  |exact PySem.wpAny_truthy_bool h
  |exact truthy_bool h
def aPf(bs:List Bool):(yBd ↑bs).all (λ i=>bs.getD i false)=bs.all id:=by
 have h:(yBd ↑bs).map (λ i=>bs.getD i false)=bs:=by
  apply List.ext_getElem
  ·simp
  ·intro i h1 h2;simp[yHi,yAa h2]
 have h2:bs.all id=((yBd ↑bs).map (λ i=>bs.getD i false)).all id:=by rw[h]
 rw[h2,List.all_map];rfl
def aOK(bs:List Bool):(yBd ↑bs).any (λ i=>bs.getD i false)=bs.any id:=by
 have h:(yBd ↑bs).map (λ i=>bs.getD i false)=bs:=by
  apply List.ext_getElem
  ·simp
  ·intro i h1 h2;simp[yHi,yAa h2]
 have h2:bs.any id=((yBd ↑bs).map (λ i=>bs.getD i false)).any id:=by rw[h]
 rw[h2,List.any_map];rfl
def aWr(hc:X.calm=true):fK X (.builtin "all") (oG X aB5):=λ aB s σ H xs us Q I r bD=>by
 let(F,L,S,ds,z,R,n,e,q):=bD;unfold aB5 at e;split at e
 ·let(bs,e1,e2):=aW e;cases e2;let(x,rfl,nx):=jY n;let(a,ys,rfl,sq,dl):=nx.lst R.sub;obtain rfl:=aCP dl e1;let(u,rfl,ru):=mI r;cases ru;let(aH,rv,pl,hz):=I.list sq;have hh:X.A.in1.handled=qz:=I.ok.hd hc;refine call_all_walkS (jq pl.isList ?_);have hne:a≠s.heap.objs.size:=by
   let(o,ho,_):=pl.isList;exact xAj (xAa ho)
  have hl:=rv.length;rw[yAb] at hl;refine⟨_,_,_,_,_,_,_,λ i=>bs.getD i false,rfl,aCQ hh s.heap.objs.size a hne aH.toArray,⟨⟨_,xAd _ rfl,rfl,rfl⟩,?_⟩,λ i v s' Q' E' e hq=>?_,λ s' mv=>?_⟩
  ·let(o,ho,r'):=pl.isList;exact⟨o,hpS _ ho,r'⟩
  ·obtain rfl:=aGi rv (i:=i) (e:);exact aGE hq
  ·let(h',g',d',t2,o'):=s';let(mh,mg,md,mo,mt):=mv;dsimp only at mh mg md mo;subst mg md mo;have I':Inv X aB σ H {s with heap:=h',toks:=t2 }:=I.kept λ b o e=>mh b o (λ z=>by
    have:b=s.heap.objs.size:=(z:)
    exact yCg _ (this▸xAa e)) (hpS _ e)
   rw[yAi,<- hl,aPf];exact⟨.bl (bs.all id),H,I',rfl,q.here R (.bl _)⟩
 ·cases e
def aWf(hc:X.calm=true):fK X (.builtin "any") (oG X aB6):=λ aB s σ H xs us Q I r bD=>by
 let(F,L,S,ds,z,R,n,e,q):=bD;unfold aB6 at e;split at e
 ·let(bs,e1,e2):=aW e;cases e2;let(x,rfl,nx):=jY n;let(a,ys,rfl,sq,dl):=nx.lst R.sub;obtain rfl:=aCP dl e1;let(u,rfl,ru):=mI r;cases ru;let(aH,rv,pl,hz):=I.list sq;have hh:X.A.in1.handled=qz:=I.ok.hd hc;refine call_any_walkS (jq pl.isList ?_);have hne:a≠s.heap.objs.size:=by
   let(o,ho,_):=pl.isList;exact xAj (xAa ho)
  have hl:=rv.length;rw[yAb] at hl;refine⟨_,_,_,_,_,_,_,λ i=>bs.getD i false,rfl,aCQ hh s.heap.objs.size a hne aH.toArray,⟨⟨_,xAd _ rfl,rfl,rfl⟩,?_⟩,λ i v s' Q' E' e hq=>?_,λ s' mv=>?_⟩
  ·let(o,ho,r'):=pl.isList;exact⟨o,hpS _ ho,r'⟩
  ·obtain rfl:=aGi rv (i:=i) (e:);exact aGE hq
  ·let(h',g',d',t2,o'):=s';let(mh,mg,md,mo,mt):=mv;dsimp only at mh mg md mo;subst mg md mo;have I':Inv X aB σ H {s with heap:=h',toks:=t2 }:=I.kept λ b o e=>mh b o (λ z=>by
    have:b=s.heap.objs.size:=(z:)
    exact yCg _ (this▸xAa e)) (hpS _ e)
   rw[yAi,<- hl,aOK];exact⟨.bl (bs.any id),H,I',rfl,q.here R (.bl _)⟩
 ·cases e
def tyD:D->Option String
 |.none=>qq "NoneType"|.bool _=>qq "bool"|.int _=>qq "int"|.str _=>qq "str"|.list _=>qq "list"|.tuple _=>qq "tuple"|.dict _=>qz
def zF(K:FrG)(n:String)(d:D):Option D:=(tyD d).bind λ t=>(PySem.W.kitOne K (.type t) (.type n)).map yDl
def aU8{Q:VK}(I:Inv X aB σ H s)(R:Rel X.K F L S H)(rx:bM x v)(nx:bW X.K F H d x)(e:zF X.K n d=qq z)(q:fV X F L S z Q) :
 qk (model X.prog X.w) X.A (call (.builtin "isinstance") [v,.type n]) (EP X aB σ Q) X.xe s:=by
 let(t,e1,e2):=aW e;cases ek:PySem.W.kitOne X.K (.type t) (.type n) with
 |none=>rw[ek] at e2;cases e2
 |some b=>
   rw[ek] at e2;cases e2;have cH:∀ tk,EP X aB σ Q (.bool b) {s with toks:=tk }:=λ tk=>⟨.bl b,H,I.tok _,rfl,q.here R (.bl b)⟩
   cases d with
   |none=>cases e1;obtain rfl:=nx.non;cases (show v=Value.none from rx);exact yEu PySem.W.kitx_none I.kIn True.intro ek (λ z=>nomatch z) cH
   |bool y=>cases e1;obtain rfl:=nx.bl;cases (show v=Value.bool y from rx);exact yEu PySem.W.kitx_bool I.kIn True.intro ek (λ z=>nomatch z) cH
   |int i=>cases e1;obtain rfl:=nx.int;let(t,q):=(show ∃ t,v=Value.int i t from rx);cases q;exact yEu PySem.W.kitx_int I.kIn True.intro ek (λ z=>nomatch z) cH
   |str y=>cases e1;obtain rfl:=nx.str;let(t,q):=(show ∃ t,v=Value.str y t from rx);cases q;exact yEu PySem.W.kitx_str I.kIn True.intro ek (λ z=>nomatch z) cH
   |list l=>
     cases e1;let(a,xs,rfl,sq,dl):=nx.lst R.sub;cases (show v=Value.ref a from rx);let(aH,rv,pl,_):=I.list sq;let(o,ho,hc,_):=pl.isList;exact yEu PySem.W.kitx_list I.kIn ⟨o,ho,hc⟩ ek (λ z=>nomatch z) cH
   |tuple l=>
     cases e1;let(a,xs,rfl,sq,dl):=nx.tup R.sub;cases (show v=Value.ref a from rx);let(aH,rv,pl,_):=I.tuple sq;let(o,ho,hc,_):=pl;exact yEu PySem.W.kitx_tuple I.kIn ⟨o,ho,hc⟩ ek (λ z=>nomatch z) cH
   |dict l=>cases e1
def aMx(K:FrG)(n:String)(fa:FE):FE:=f1 fa (gS (zF K n))
def aVW{fa:FE}(ha:PE X a (bH X.K fa))(hg:Gl X "isinstance")(hm:X.mg "isinstance" = qz)(hv:xz "isinstance" = qq (.builtin "isinstance"))(hg':Gl X x)(hm':X.mg x=qz)(hv':xz x=qq (.type n))(hn:x ≠ "__name__")(hd:(x==("__debug__" : Str))=false)(h1:qu [a,.Name x p'] X.env=(false,eval a X.env)::qu [.Name x p'] X.env):PE X (.Call (.Name "isinstance" p) [a,.Name x p'] [] pos) (bH X.K (aMx X.K n fa)):=by
 have pt:PE X (.Name x p') (tC (.ty n)):=aRs hg' hm' hv' rfl hn hd;have rule:fK X (.builtin "isinstance") (λ xs H Q=>∃ F L S y d z,xs=[y,.ty n]/\Rel X.K F L S H/\bW X.K F H d y/\zF X.K n d=qq z/\fV X F L S z Q):=λ aB s σ H xs us Q I r bD=>by
  let(F,L,S,y,d,z,e,R,ny,e2,q):=bD;subst e;let(u,u2,rfl,r1,r2):=aEx r;cases (show u2=Value.type n from r2);exact aU8 I R r1 ny e2 q
 refine PE.weak (qW rule hg hm hv (aDS ha (aDS pt aKb) h1) (·) (·) h1 rfl) λ σ H Q hPq38=>?_
 let(F,L,S,env,w,S',R,E,e,q):=hPq38;let((w1,S1),e1,e2):=aW e;let(d,z,e3,e4,rfl,rfl):=wM e2;exact⟨F,L,S,env,w1,_,R,E,e1,λ F1 L1 H1 v g1 R1 d1=>⟨F1,L1,_,v,d,z,rfl,R1,kW R1 d1 e3,e4,aA8 X rfl λ F2 L2 H2 v2 g2 R2 d2=>q F2 L2 H2 v2 (g1.trans g2) R2 d2⟩⟩
def aLY:D->Option D
 |.int i=>qq (.int ((yAm i:Nat):Int))|_=>qz
def aEP(fa:FE):FE:=f1 fa (gS aLY)
def aRM:MtR X "int.bit_length" (λ x xs H Q=>∃ i,x=.int i/\xs=[]/\Q (.int ((yAm i:Nat):Int)) H):=λ aB s σ H x xs v us Q I rx rs bD=>by
 let(i,e1,e2,q):=bD;subst e1 e2;let(t,rfl):=rx;cases rs;exact call_gives yGi (wj s i t) PySem.F.entry_int_bit_length (PySem.F.args_int_bit_length_1 _) (PySem.AutoIntG2.int_bit_length_int_0 i t) (show EP X aB σ Q _ _ from ⟨.int _,H,I.tok _,⟨_,rfl⟩,q⟩)
section
variable {X:Cx}{aB:List (qv×Obj)}{σ:L2.St}{H:Hp}{s:qj}{h':Heap}
def aGH{ch:List qv}{p:qv}{o:HO}{t':Nat}(I:Inv X aB σ H s)(hch:∀ b∈ch,gM X aB H b)(k:∀ b u,b ∉ ch->s.heap.get? b=qq u->h'.get? b=qq u)(hp:s.heap.objs.size<=p)
 (new:iW X.prog X.w (bQ H p o) h' p o):Inv X aB σ (bQ H p o) {s with heap:=h',toks:=t' }:=by
 have hn:=I.hok.fresh hp;have nch:∀ b u,H b=qq u->b ∉ ch:=λ b u e z=>by rw[(hch b z).1] at e;cases e
 have nep:∀ b u,s.heap.get? b=qq u->b≠p:=λ b u e z=>absurd (xAb (xAa e) hp) (by rw[z];exact yCg _)
 refine I.step (g':=s.gens) (d':=s.drawn) (ch:=ch) (λ b hb=>⟨(hch b hb).2.2.2.1,(hch b hb).2.1,(hch b hb).2.2.2.2.1,(hch b hb).2.2.2.2.2⟩) (λ b o _ _ hc e _=>k b o hc e) (λ b o _ _ hc e _=>⟨o.slots,k b o hc e⟩) (λ b o _ e n=>by rw[bT (nep b o e)];exact n)
  (λ b o hc e=>⟨o,k b o hc e⟩) (λ b xs e=>by rw[bT (eN e hn)];exact e) (λ b u v e=>by rw[bT (eN e hn)];exact e) (λ b ps e=>⟨#[],by rw[bT (eN e hn),e];simp⟩) (λ m hm=>?_) (λ b u e=>?_) I.bare
 ·let(o,es,ep,ho,r):=hm;exact⟨o,es,ep,k _ o (λ z=>(hch _ z).2.1 rfl) ho,r⟩
 ·by_cases hb:b=p
  ·subst hb;rw[eH] at e;cases e;exact new
  ·rw[bT hb] at e;refine(I.hok b u e).stay (λ c v hc q=>k c v ?_ q) (λ c q=>by rw[bT (eN q hn)];exact q) λ c xs q=>by rw[bT (eN q hn)];exact q
   rcases hc with z|z
   ·rw[z];exact nch b u e
   ·exact nch c _ z
end
def aNq{E:qx -> qj -> Prop}{s:qj}{Q:qx->qj->Prop}(hit:s.heap.IsTupleIter it t i)(ht:s.heap.IsTuple t aX)(hx:aX[i]?=qq x)(hQ:∀ h',h'.IsTupleIter it t (i+1)->yEe it s.heap h'->Q x {s with heap:=h' }):qk (model prog w) A (yBu (.ref it)) Q E s:=by let(o,ho,hc,hd):=id hit;let(ol,hol,_,nl,hdl):=ht;unfold yBu;refine wB (wpAny_callSpecial?_slot (name:=Str.ofString "__next__") hit.typeIs F.slot_tuple_iterator_next (jy F.slot_tuple_iterator_next hit.typeIs F.entry_tuple_iterator_next ?_ (F.args_tuple_iterator_next_1 _)));show qk _ _ (field (.ref it) 0 >>= _) _ _ s;refine wB (zu ho hd (x:=.ref t) rfl ?_);show qk _ _ (if (Value.ref t==Value.none)=true then _ else _) _ _ s;rw[if_neg (show ¬ ((Value.ref t==Value.none)=true) from yBm)];show qk _ _ (field (.ref it) 1 >>= _) _ _ s;refine wB (zu ho hd (x:=.int i 0) rfl ?_);show qk _ _ (seqItems? (.ref t) >>= _) _ _ s;refine wB (jw hol hdl ?_);simp only[yAu,hx];refine wB (wpAny_setField ho hd (by simp) (wP ⟨x,rfl,wP (hQ _ ⟨_,yCx _ ho (Obj.isFreed_of_fields (Obj.data_mapFields hd _)),(Obj.cls_mapFields ..).trans hc,?_⟩ (Heap.SameBut.update ..))⟩));rw[Obj.data_mapFields hd];simp[yj]
def aNr{A:zj}{E:qx -> qj -> Prop}{s:qj}{Q:qx->qj->Prop}(hh:A.handled=qz)(hit:s.heap.IsTupleIter it t i)(ht:s.heap.IsTuple t aX)(hx:aX[i]?=qz)(hE:∀ h' e,Heap.ExtBut it s.heap h'->(∃ o,h'.get? e=qq o/\o.cls=.type "StopIteration")->E (.ref e) {s with heap:=h' }):qk (model prog w) A (yBu (.ref it)) Q E s:=by
 let(o,ho,hc,hd):=id hit;let(ol,hol,_,nl,hdl):=ht;unfold yBu;refine wB (wpAny_callSpecial?_slot (name:=Str.ofString "__next__") hit.typeIs F.slot_tuple_iterator_next (jy F.slot_tuple_iterator_next hit.typeIs F.entry_tuple_iterator_next ?_ (F.args_tuple_iterator_next_1 _)));show qk _ _ (field (.ref it) 0 >>= _) _ _ s;refine wB (zu ho hd (x:=.ref t) rfl ?_);show qk _ _ (if (Value.ref t==Value.none)=true then _ else _) _ _ s;rw[if_neg (show ¬ ((Value.ref t==Value.none)=true) from yBm)];show qk _ _ (field (.ref it) 1 >>= _) _ _ s;refine wB (zu ho hd (x:=.int i 0) rfl ?_);show qk _ _ (seqItems? (.ref t) >>= _) _ _ s;refine wB (jw hol hdl ?_);simp only[yAu,hx];refine wB (ww (wB (wpAny_setField ho hd (by simp) ?_)));show qk _ _ (newExc (.type "StopIteration") [] >>= _) _ _ _;refine wB ?_;simp only[newExc,newTuple];refine wB (zo (wB (m:=firstArgMember _ _) (wpAny_of_eq (a:=Value.none) (by first|rfl|(simp only[firstArgMember];rfl)) (zo ?_ (by size_fits)))) (by size_fits));simp only[raiseNew];refine wB (wpAny_handled ?_)
 first|rw[show A.in1.handled=qz from hh]|rw[hh]
 exact wB (wP (wpAny_throw (hE _ _ (((Heap.SameBut.update ..).extBut.push _).push _) ⟨_,xAd _ rfl,rfl⟩)))
def aPx{A:zj}(hh:A.handled=qz)(it t:qv)(hne:t≠it)(aX:Array qx):Draws prog w A it [it,t] aX.size (λ i v=>aX[i]?=qq v) (λ i h=>h.IsTupleIter it t i/\h.IsTuple t aX) where
 live:=λ _ _ st=>let ⟨o,ho,_⟩:=st.1;⟨o,ho⟩
 frame:=λ _ _ _ st hk=>⟨st.1.at λ o e=>hk it (by simp) o e,let ⟨u,hu,r⟩:=st.2;⟨u,hk t (by simp) u hu,r⟩⟩
 item:=λ i s Q E hi st hQ=>aNq st.1 st.2 (x:=aX[i]) (by simp[hi]) λ h' hit' hs'=>hQ _ h' s.toks (by simp[hi]) ⟨hit',let ⟨u,hu,r⟩:=st.2;⟨u,hs'.extBut t u hne hu,r⟩⟩ hs'
 done:=λ s Q E st hE=>aNr hh st.1 st.2 (by simp) hE
inductive Tv where
 |int (i:Int)|str (x:Str)|bool (b:Bool)
 deriving DecidableEq
def Tv.d:Tv->D
 |.int i=>.int i|.str x=>.str x|.bool b=>.bool b
def Tv.v:Tv->V
 |.int i=>.int i|.str x=>.str x|.bool b=>.bl b
def Tv.den(t:Tv):Den K F t.d t.v:=by
 cases t
 ·exact .int _
 ·exact .str _
 ·exact .bl _
def uD(w:zx):List DictEntry->List (Str×Tv)->Prop
 |[],[]=>True|e::r,(x,v)::bL=>e.hash=hashStr w x/\(∃ t,e.key=.str x t)/\bM v.v e.val/\uD w r bL|_,_=>False
def xY(K:FrG)(w:zx)(a:qv)(bL:List (Str×Tv)):Prop:=(a==sysModules)=false/\∃ es ep,K.lookup a=qq {cls:=.type "dict",data:=.dict es ep }/\uD w es.toList bL
def aB3(bL:List (Str×Tv)):D->Option D
 |.str x=>(bL.lookup x).map Tv.d|_=>qz
def aIj:∀ {l:List DictEntry}{bL:List (Str×Tv)},uD w l bL->∀ e∈l,∃ k,(oW P w).is k e.key=true/\e.hash=(oW P w).hash k
 |[],[],_,e,h=>by cases h
 |e::r,(x,v)::bL,ok,e',h=>by
   let(h1,(t,h2),_,h4):=ok;rcases List.mem_cons.mp h with rfl|h
   ·exact⟨.inr x,by rw[h2];exact aGR x t,h1⟩
   ·exact aIj h4 e' h
 |[],_::_,ok,_,_=>ok.elim|_::_,[],ok,_,_=>ok.elim
def aQE(x y:Str)(t:Tok):rO (.inr x) (.str y t)=(x==y):=by
 have h:(y==x)=(x==y):=by
  rw[yEa];constructor<;>intro z<;>simp at z ⊢ <;> exact z.symm
 simp[rO,Value.isStrOf,h]
def aHI:∀ {l:List DictEntry}{bL:List (Str×Tv)},uD w l bL->bL.lookup k=qq v->∃ u,(l.find? λ e=>rO (.inr k) e.key).map (·.val)=qq u/\bM v.v u
 |[],[],_,h=>by cases h
 |e::r,(x,v')::bL,ok,h=>by
   let(h1,(t,h2),h3,h4):=ok;rw[yCh] at h;rw[List.find?_cons,h2,aQE];cases q:k==x with
   |true=>
     rw[q] at h;cases h;exact⟨e.val,rfl,h3⟩
   |false=>
     rw[q] at h;exact aHI h4 h
 |[],_::_,ok,_=>ok.elim|_::_,[],ok,_=>ok.elim
def aVb:uU X (λ x y H Q=>∃ a k v,x=.ref a/\xY X.K X.w a bL/\y=.str k/\bL.lookup k=qq v/\Q v.v H):=by
 intro value mZ aB s σ H x y v u Q I rx ry h hs;let(a,k,tv,rfl,(_,es,ep,hl,ok),rfl,hv,q):=h;cases rx;let(t,rfl):=ry;let(z,e1,e2):=aHI ok hv;have hm:s.heap.MapOf (oW X.prog X.w) a (λ k=>findBy (oW X.prog X.w).is es k):=⟨_,es,ep,I.kIn a _ hl,⟨rfl,rfl,rfl⟩,rfl,λ e he=>aIj ok e (he:),λ _=>rfl⟩;have hz:findBy (oW X.prog X.w).is es (.inr k)=qq z:=by
  unfold findBy;rw[<- Array.find?_toList];exact e1
 exact tail_any hm.typeIs PySem.F.slot_dict_getitem.lookup (wpAny_getItem_of (aGR k t) hm hz ⟨_,H,I.tok _,e2,q⟩) hs
def aXZ{fk:FE}(hg:Gl X x)(hd:(x==("__debug__" : Str))=false)(ht:∃ a,X.mg x=qq (.ref a)/\xY X.K X.w a bL)(hk:PE X k (bH X.K fk))(hs:aA3 k) :
 PE X (.Subscript (.Name x p) k pos) (bH X.K (f1 fk (gS (aB3 bL)))):=by
 let(a,hm,ta):=ht;refine PE.weak (aK1 (aVb (bL:=bL)) (aIu (v:=.ref a) hg hm rfl hd) hk hs) λ σ H Q hPq39=>?_
 let(F,L,S,env,w,S',R,E,e,q):=hPq39;let((w1,S1),e1,e2):=aW e;let(d,z,e3,e4,rfl,rfl):=wM e2;cases d with
 |str y=>
   let(v,hv,rfl):=Option.map_eq_some_iff.mp (show(bL.lookup y).map Tv.d=qq z from e4);refine⟨F,L,S,env,w1,_,R,E,e1,λ F1 L1 H1 u g1 R1 d1=>⟨a,y,v,rfl,ta,(kW R1 d1 e3).str,hv,?_⟩⟩;exact q F1 L1 H1 v.v g1 R1 (show Den X.K F1 v.d v.v from v.den)
 |_=>cases e4
def aBO:List qx->List Tv->Prop
 |[],[]=>True|u::us,t::ts=>bM t.v u/\aBO us ts|_,_=>False
def aHz:∀ {us:List qx}{ts:List Tv},aBO us ts->bG (ts.map Tv.v) us
 |[],[],_=>.nil|_::_,_::_,⟨h1,h2⟩=>.cons h1 (aHz h2)|[],_::_,h=>h.elim|_::_,[],h=>h.elim
def aJf:∀ ts:List Tv,DenL K F (ts.map Tv.d) (ts.map Tv.v)
 |[]=>.nil|t::ts=>.cons t.den (aJf ts)
def uE(K:FrG)(a:qv)(ts:List Tv):Prop:=∃ (o:Obj) (aH:Array qx) (n:Nat),K.lookup a=qq o/\o.cls=.type "tuple" /\ o.data=.seq aH n/\aH.size<=qy/\aBO aH.toList ts
def aRI(h:uE K a ts):Den K F (.tuple (ts.map Tv.d)) (.ref a):=by let(o,aH,n,h1,h2,h3,h4,h5):=h;exact .tup (.inr ⟨o,aH,n,h1,h2,h3,h4,aHz h5⟩) (aJf ts)
def aVX(hg:Gl X x)(hd:(x==("__debug__" : Str))=false)(ht:∃ a,X.mg x=qq (.ref a)/\uE X.K a ts):PE X (.Name x p) (bH X.K (fC (.tuple (ts.map Tv.d)))):=by
 let(a,hm,ca):=ht;refine PE.weak (aIu (v:=.ref a) hg hm rfl hd) λ σ H Q hPq40=>?_
 let(F,L,S,env,w,S',R,E,e,q):=hPq40;cases e;exact q F L H _ Gr.refl R (aRI ca)
def aU3(op op':jk)(fa fb fc:FE):FE:=λ env S=>(fa env S).bind λ p=>(fb env p.2).bind λ q=>(hZ (aS op) q.2 p.1 q.1).bind λ r=>match r.1 with|.d (.bool true)=>(fc env r.2).bind λ t=>hZ (aS op') t.2 q.1 t.1|.d (.bool false)=>qq (.d (.bool false),r.2)|_=>qz
def aNj{E:qx->qj->Prop}{s:qj}{lo hi:Option Int}{Q:qx->qj->Prop}(ht:IsTup s.heap t aX)(hs:s.heap.IsSliceOf sl vl vu .none)(pl:IsPart vl lo)(pu:IsPart vu hi)(hw:HT.sIx aX.size 0 lo=0/\HT.sIx aX.size aX.size hi=aX.size)(h:Q (.ref t) s):qk (model prog w) A (getItem (.ref t) (.ref sl)) Q E s:=by
 let(os,hos,hcs,hds):=id hs;have hTs:s.TypeIs (.ref sl) "slice":=⟨os,hos,hcs⟩;unfold getItem
 try with_reducible refine zy ?_
 first|refine wB (wP ?_)|skip
 refine wB (wpAny_sequenceKey ht.typeIs (·) ?_)
 refine wB (wpAny_callSpecial?_slot (name:=Str.ofString "__getitem__") ht.typeIs yCr
  (jy yCr ht.typeIs entry_tuple_getitem ?_ (args_tuple_getitem _ _)))
 show qk _ _ (yGo (.ref t) >>= _) _ _ s;refine wB (tupleItemsOf_ ht ?_);refine wB (wpAny_typeOf hTs ?_);rw[if_pos (·)];refine wB (HT.sliceApplied_gen hs pl pu ?_);have hyes:(((HT.sIx aX.size 0 lo:Nat):Int)==0&&(1:Int)==1&&(HT.sIx aX.size aX.size hi-HT.sIx aX.size 0 lo)==aX.size)=true:=by
  rw[hw.1,hw.2];simp
 show qk _ _ (if (((HT.sIx aX.size 0 lo:Nat):Int)==0&&(1:Int)==1&&(HT.sIx aX.size aX.size hi-HT.sIx aX.size 0 lo)==aX.size)=true then _ else _) _ _ s;rw[if_pos hyes];unfold Builtin.Tuple.tupleIsExact;refine wB (wB (wpAny_typeOf ht.typeIs (wP ?_)));rw[if_pos (·)]
 first
  |exact wB (ww (wP ⟨_,rfl,wP h⟩))
  |exact wB (ww (wB (wP (wP ⟨_,rfl,wP h⟩))))
  |exact wB (ww (wP ⟨_,rfl,h⟩))
def aYa(K:FrG):V->Option Int->Option Int->Hp->VK->Prop:=λ x lo hi H Q=>∃ a xs,x=.ref a/\cQ K H a xs /\
 (((HT.sIx ↑xs 0 lo=0/\HT.sIx ↑xs ↑xs hi=↑xs)/\Q (.ref a) H)\/(¬ (HT.sIx ↑xs 0 lo=0/\HT.sIx ↑xs ↑xs hi=↑xs)/\∀ p,H p=qz->Q (.ref p) (bQ H p (.tup (oE xs lo hi)))))
def aQ5:SlR X (aYa X.K):=by
 intro aB s σ H x v vl vu lo hi sl Q I rx hs pl pu h;obtain⟨a,xs,rfl,hx,⟨hw,q⟩|⟨hw,q⟩⟩:=h
 ·cases rx;let(aH,r,ht,hz):=I.tuple hx;have cY:aH.toArray.size=↑xs:=by rw[yAi];exact r.length.symm
  refine⟨"tuple",_,PyProof.Rows.slot_tuple_getitem.lookup,ht.typeIs,?_⟩;exact aNj ht hs pl pu (by rw[cY];exact hw) ⟨.ref a,H,I,rfl,q⟩
 ·exact aS8 aB s σ H _ v vl vu lo hi sl Q I rx hs pl pu ⟨a,xs,rfl,hx,hw,q⟩
def aMs:D->Option Int->Option Int->Option D
 |.tuple xs,lo,hi=>qq (.tuple (fA xs lo hi))|_,_,_=>qz
def aKZ(fa:FE)(fl fh:FO):FE:=λ env S=>(fa env S).bind λ p=>(fl env p.2).bind λ q=>(fh env q.2).bind λ r=>(dr r.2 p.1).bind λ d=>(aMs d q.1 r.1).bind λ z=>qq (.d z,r.2)
def aT9{lo hi:Option qw}{fa:FE}{fl fh:FO}(ha:PE X a (bH X.K fa))(hl:PO X lo (mL X.K fl))(hh:PO X hi (mL X.K fh)):PE X (.Subscript a (.Slice lo hi qz p2) pos) (bH X.K (aKZ fa fl fh)):=
 PE.weak (aH6 aQ5 ha hl hh) λ σ H Q bD=>by
  let(F,L,S,env,ds,S',R,E,e,q):=bD;let((w,S1),e1,e):=aW e;let((l,S2),e2,e):=aW e;let((h,S3),e3,e):=aW e;let(d,e4,e):=aW e;let(z,e5,e):=aW e;cases e;refine⟨F,L,S,env,w,S1,R,E,e1,λ F1 L1 H1 v g1 R1 d1=>⟨F1,L1,S1,env,l,S2,R1,E.mono g1,e2,λ F2 L2 H2 g2 R2=>⟨F2,L2,S2,env,h,S3,R2,E.mono (g1.trans g2),e3,λ F3 L3 H3 g3 R3=>?_⟩⟩⟩;have n:=kW R3 (d1.mono (g2.trans g3)) e4;cases d with
  |tuple xs=>
    cases e5;let(a,vs,rfl,sq,dl):=n.tup R3.sub;refine⟨a,vs,rfl,sq,?_⟩;by_cases hw:HT.sIx ↑vs 0 l=0/\HT.sIx ↑vs ↑vs h=↑vs
    ·refine .inl ⟨hw,q F3 L3 H3 _ ((g1.trans g2).trans g3) R3 ?_⟩;have ec:fA xs l h=xs:=by
      unfold fA;rw[dl.length,hw.1,hw.2,yFd,yGu,<- dl.length,yAe]
     rw[ec];rcases n with n|⟨_,_,_,z,_⟩
     ·exact n
     ·cases z
    ·exact .inr ⟨hw,λ p hp=>q _ L3 _ _ (((g1.trans g2).trans g3).trans (Gr.new (R3.sub.free hp))) (R3.new hp) (Den.tup (cQ.of eH) ((aI5 dl l h).mono (gC (R3.sub.free hp))))⟩
  |_=>cases e5
def aVK(X:Cx):R2:=λ x y H Q=>∃ a k xs,x=.ref a/\y=.int k/\cK X.K H a xs /\ -(2^63)<=k/\k<2^63/\↑xs*k.toNat<=qy/\∀ p,H p=qz->Q (.ref p) (bQ H p (.lst (yAg k.toNat xs).flatten))
def yY(fa fb:FE):FL:=λ env S=>(fa env S).bind λ p=>(fb env p.2).bind λ q=>(dr q.2 p.1).bind λ d=>match d,q.1 with
 |.list xs,.d (.int k)=>if k<2^63 /\ -(2^63)<=k/\↑xs*k.toNat<=qy then qq (zG k.toNat xs,q.2) else qz
 |_,_=>qz
def aXQ{fa fb:FE}(ha:PE X a (bH X.K fa))(hb:PE X b (bH X.K fb)):PE X (.BinOp a .Mult b pos) (jJ X.K (yY fa fb)):=by
 refine PE.weak (aLN (r:=aVK X) (λ aB s σ H x y v u Q I rx ry ⟨a,k,xs,hx,hy,sq,h1,h2,hz,q⟩=>?_) ha hb) λ σ H Q ⟨F,L,S,env,ds,S',R,E,e,q⟩=>?_
 ·subst hx hy;cases rx;let(t,rfl):=ry;exact aMk I sq h1 h2 hz q
 ·let((w1,S1),e1,e):=aW e;let((w2,S2),e2,e):=aW e;let(d,e3,e):=aW e;dsimp only at e e2 e3;refine⟨F,L,S,env,w1,S1,R,E,e1,λ F1 L1 H1 x g1 R1 d1=>⟨F1,L1,S1,env,w2,S2,R1,E.mono g1,e2,λ F2 L2 H2 y g2 R2 d2=>?_⟩⟩;cases d with
  |list xs=>
    cases w2 with
    |loc n=>cases e|exc c r=>cases e
    |d v=>
      cases v with
      |int kk=>
        dsimp only at e;split at e
        ·rename_i c;cases e;let(a,vs,rfl,sq,dl):=(kW R2 (d1.mono g2) e3).lst R2.sub;cases (show Den X.K F2 (.int kk) y from d2);exact⟨a,kk,vs,rfl,rfl,sq,c.2.1,c.1,by rw[<- dl.length];exact c.2.2,λ p hp=>q F2 L2 _ p _ (g1.trans g2) (R2.lay hp) (R2.sub.free hp) (R2.notin hp) eH (dl.rep kk.toNat)⟩
        ·cases e
      |_=>cases e
  |_=>cases e
section
open PySem.SeqAt
open PySem.AutoSeq1 (wpAny_loadPart')
open PySem.MeetsSeq PySem.MeetsSeq2 PySem.MeetsSeq3
def tM:∀ {vs:List qx}{ns:List Int}{i:Nat},IntsAre vs ns->i<↑vs->∃ a t,vs[i]?=qq (.int a t)/\ns.drop i=a::ns.drop (i+1)
 |_,_,i,.nil,h=>absurd h (yCl i)|_,_,0,.cons a t _,_=>⟨a,t,rfl,rfl⟩
 |_,_,i+1,.cons a t r,h=>by
   let(b,u,h1,h2):=tM (i:=i) r (h:);exact⟨b,u,by simpa using h1,by simpa using h2⟩
end
def aL9(f:FL):FL:=λ env S=>(f env S).bind λ p=>if p.1.length<=1000000 then qq p else qz
def vV:1000000<=qy:=by rw[qo];decide
def Itd(hi:Int)(n:Nat):It:=⟨λ i _=>i<n,λ i H x H'=>H'=H/\x=.int (hi-i),λ i _=>n<=i⟩
def aPl(it:qv)(hi:Int)(n:Nat):Turn P w K tg (Itd hi n) [it] it (λ i h=>yk h it (hi+(i:Nat)*(-1)) ((n:Int)-(i:Nat)) (-1)) where
 mem:=by simp
 obj:=λ i h st b hb=>by
  have e:b=it:=(hb:)
  subst e;exact⟨_,st,λ v z=>by
   have z':Data.fields _=Data.cell v:=z;cases z'⟩
 keep:=λ i h h' st k=>k it (by simp) _ st
 item:=by
  intro X hP hw hK hc i aB s σ H E I hf st hg;subst hP hw hK;let(f0,f1,f2,f3,f4,f5):=hf it (by simp);have W:=Walks.range (prog:=X.prog) (w:=X.w) (I.ok.hd hc) it hi (-1) n;refine W.item i s _ _ hg st λ v h' tk hv st' kk=>?_
  let(t,rfl):=hv;have I1:Inv X aB σ H {s with heap:=h',toks:=tk }:=I.turned (λ b o hb e=>kk b o (hb:) e) f0 f1 f3 f4 f5;refine⟨_,rfl,aBG (s:={s with heap:=h',toks:=tk }) (n:="range_iterator") st' rfl rfl (·) ⟨.int (hi-i),H,I1,⟨t,?_⟩,⟨rfl,rfl⟩,st',λ b hb=>(hf b hb).1⟩⟩;congr 1;omega
 done:=by
  intro X hP hw hK hc i aB s σ H E I hf st hg;subst hP hw hK;let(f0,f1,f2,f3,f4,f5):=hf it (by simp);exact wpAny_pyNext_range_end (I.ok.hd hc) st (by have:n<=i:=hg;omega) λ h' eb=>⟨rfl,I.turned (t':=s.toks) (λ b o hb e=>eb b o hb e) f0 f1 f3 f4 f5⟩
 self:=λ _ _ _ _ _ st h=>yw st h
def aF5(a b:Int):yEi a b (-1)=if b<a then a-b else 0:=by unfold yEi;simp only[show ¬ ((-1:Int)>0) by decide,if_false,Int.neg_neg,Int.ediv_one,gt_iff_lt];split<;>omega
def aOs{a b:Int}(ha : -(2^62)<=a)(ha':a<2^62)(hb : -(2^62)<=b)(hb':b<2^62):yIb a b (-1)=true:=by unfold yIb;rw[aF5];simp only[Builtin.Range.rangeFitsLong,yAp,yBw,decide_eq_true_eq,beq_iff_eq,show ¬ ((-1:Int)>0) by decide,if_false];split<;>omega
def aRQ{R:It->Hp->Prop}{E:qx->qj->Prop}{hi lo:Int}(I:Inv X aB σ H s)(h1 : -(2^62)<=hi)(h2:hi<2^62)(h3 : -(2^62)<=lo)(h4:lo<2^62)(q:R (Itd hi (hi-lo).toNat) H):qk (model X.prog X.w) X.A (pyIter (.ref s.heap.objs.size)) (PIE X aB σ tg R) E {s with heap:=s.heap.push {cls:=.type "range",data:=.fields #[.int hi t,.int lo u,.int (-1) v] },toks:=tk }:=by
 refine wpAny_pyIter_range (IsRange.new ..) (aOs h1 h2 h3 h4) ?_;have I1:Inv X aB σ H {s with heap:=s.heap.push {cls:=.type "range",data:=.fields #[.int hi t,.int lo u,.int (-1) v] },toks:=tk }:=I.kept λ b o e=>hpS _ e
 refine⟨(s.heap.push {cls:=.type "range",data:=.fields #[.int hi t,.int lo u,.int (-1) v] }).objs.size,[(s.heap.push {cls:=.type "range",data:=.fields #[.int hi t,.int lo u,.int (-1) v] }).objs.size],_,_,H,rfl,
  I1.kept (t':=tk) λ b o e=>hpS _ e,aPl _ hi (hi-lo).toNat,?_,λ b hb=>?_,q⟩
 ·have e1:hi+((0:Nat):Int)*(-1)=hi:=by simp
  have e2:(((hi-lo).toNat:Nat):Int)-((0:Nat):Int)=yEi hi lo (-1):=by rw[aF5];split<;>omega
  show yk _ _ (hi+((0:Nat):Int)*(-1)) ((((hi-lo).toNat:Nat):Int)-((0:Nat):Int)) (-1);rw[e1,e2];exact xAd _ rfl
 ·have e:b=(s.heap.push {cls:=.type "range",data:=.fields #[.int hi t,.int lo u,.int (-1) v] }).objs.size:=(hb:)
  subst e;exact I1.fpOk (yAd _) (I1.hok.fresh (yAd _))
def aK8(ta:TA):TI:=λ σ H R=>ta σ H λ vs H1=>∃ i j:Int,vs=[.int i,.int j,.int (-1)]/\(-(2^62)<=i/\i<2^62 /\ -(2^62)<=j/\j<2^62)/\R (Itd i (i-j).toNat) H1
def aON{ta:TA}(hg:Gl X "range")(hm:X.mg "range" = qz)(ha:PA X [a,b,c] ta)(hs:qu [a,b,c] X.env=(false,eval a X.env)::qu [b,c] X.env)(hs2:qu [b,c] X.env=[(false,eval b X.env),(false,eval c X.env)]) :
 PI X tg (.Call (.Name "range" p) [a,b,c] [] pos) (aK8 ta):=by
 intro aB s σ H R I h;refine Call_ (pH I hg hm boot_range (yBv (bO (ha pos aB s σ H _ I h) λ us s1 hPq41=>?_) hs (by rw[hs2];rfl)));let(vs,H1,I1,r1,q1):=hPq41;let(i,j,e,(q1,q2,q3,q4),q):=q1;subst e;cases r1 with
 |cons r rr=>
   cases rr with
   |cons r' rr=>
     cases rr with
     |cons r'' rr=>
       cases rr;let(t,rfl):=r;let(t',rfl):=r';let(t'',rfl):=r'';exact call_range_3 (·) (aRQ I1 q1 q2 q3 q4 q)
def mB(hi:Int):Nat->List D
 |0=>[]|n+1=>.int hi::mB (hi-1) n
def sV:∀ (n:Nat) (hi:Int),(mB hi n).length=n
 |0,_=>rfl|n+1,hi=>by rw[mB,yBg,sV n]
def aCW:∀ (n:Nat) (hi:Int) (i:Nat),i<n->(mB hi n)[i]?=qq (.int (hi-i))
 |0,_,_,h=>by omega|n+1,hi,0,_=>by simp[mB]
 |n+1,hi,i+1,h=>by
   rw[mB,yBr,aCW n (hi-1) i (!_)];congr 2
   push_cast
   omega
def aSQ(hi:Int)(n:Nat):Wk K F L (Itd hi n) (mB hi n) where
 go:=λ i H s hi=>by rw[sV] at hi;exact hi
 stop:=λ H s=>by rw[sV];exact yAd _
 yld:=λ i H F1 L1 S x H' d g R e y=>by
  let(rfl,rfl):=y;have hi:i<n:=by
   have:=(gIm e).1;rw[sV] at this;exact this
  rw[aCW n _ i hi] at e;cases e;exact⟨F1,bY.refl _,R,.int _⟩
def aBB(fa fb fc:FE):FL:=λ env S=>(fa env S).bind λ p=>(fb env p.2).bind λ q=>(fc env q.2).bind λ r=>match p.1,q.1,r.1 with
 |.d (.int i),.d (.int j),.d (.int k)=>if (-(2^62)<=i/\i<2^62 /\ -(2^62)<=j/\j<2^62)/\k = -1 then qq (mB i (i-j).toNat,r.2) else qz
 |_,_,_=>qz
def aUT{fa fb fc:FE}(σ:L2.St)(H:Hp)(Rr:It->Hp->Prop)(h:kH K (aBB fa fb fc) σ H Rr):aK8 (iN K (eT fa (eT fb (eT fc jX)))) σ H Rr:=by
 let(F,L,S,env,ds,S',R,E,e,q):=h;let((w,S1),e1,e2):=aW e;let((w2,S2),e3,e4):=aW e2;let((w3,S3),e5,e6):=aW e4;dsimp only at e6 e3 e5;split at e6
 ·split at e6
  ·rename_i c;let(c,rfl):=c;cases e6;refine⟨F,L,S,env,[.d (.int _),.d (.int _),.d (.int _)],_,R,E,by unfold eT;rw[e1];dsimp only[yDk];rw[e3];dsimp only[yDk];rw[e5];rfl,λ F1 L1 H1 vs g1 R1 d1=>?_⟩;cases d1 with
   |cons dd dr=>
     cases dr with
     |cons dd2 dr=>
       cases dr with
       |cons dd3 dr=>
         cases dr;cases (show Den K F1 (.int _) _ from dd);cases (show Den K F1 (.int _) _ from dd2);cases (show Den K F1 (.int _) _ from dd3);exact⟨_,_,rfl,c,q F1 L1 H1 _ g1 R1 (aSQ _ _)⟩
  ·cases e6
 ·cases e6
def aUU(t:Bool):String:=if t then "tuple_iterator" else "list_iterator"
def fU(t:Bool)(h:Heap)(a:qv)(aH:Array qx):Prop:=match t with|true=>h.IsTuple a aH|false=>h.IsList a aH
def nC(t:Bool)(h:Heap)(it a:qv)(i:Nat):Prop:=match t with|true=>h.IsTupleIter it a i|false=>h.IsListIter it a i
def Sq(t:Bool)(K:FrG)(H:Hp)(a:qv)(xs:List V):Prop:=match t with|true=>cQ K H a xs|false=>cK K H a xs
def nC.at{h':Heap}(x:nC t h it a i)(q:∀ o,h.get? it=qq o->h'.get? it=qq o):nC t h' it a i:=by
 cases t with
 |true=>exact Heap.IsTupleIter.at (h:=h) x q|false=>exact Heap.IsListIter.at (h:=h) x q
def nC.obj(x:nC t h it a i):∃ o,h.get? it=qq o/\∀ v,o.data≠.cell v:=by
 cases t with
 |true=>let(o,ho,hc,hd):=x;exact⟨o,ho,λ v z=>by rw[hd] at z;cases z⟩
 |false=>let(o,ho,hc,hd):=x;exact⟨o,ho,λ v z=>by rw[hd] at z;cases z⟩
def fU.lt(x:fU t h a aH):a<h.objs.size:=by
 cases t with
 |true=>let(o,ho,_):=x;exact xAa ho
 |false=>let(o,ho,_):=x;exact xAa ho
def aPQ{A:zj}(hh:A.handled=qz)(t:Bool)(it l:qv)(hne:l≠it)(aX:Array qx):Draws prog w A it [it,l] aX.size (λ i v=>aX[i]?=qq v) (λ i h=>nC t h it l i/\fU t h l aX):=by
 cases t with
 |true=>exact aPx hh it l hne aX|false=>exact Draws.list hh it l hne aX
def aLP{xs:List V}(I:Inv X aB σ H s)(h:Sq t X.K H a xs):∃ aH:List qx,bG xs aH/\fU t s.heap a aH.toArray:=by
 cases t with
 |true=>let(aH,rv,pl,hz):=I.tuple h;exact⟨aH,rv,pl⟩
 |false=>let(aH,rv,pl,hz):=I.list h;exact⟨aH,rv,pl.isList⟩
def aKH{xs:List V}(I:Inv X aB σ H s)(h:Sq t X.K H a xs)(h':Sq t X.K H a ys):xs=ys:=by
 cases t with
 |true=>exact I.tuple_inj h h'|false=>exact I.list_inj h h'
def aDz{xs:List V}(e:bY H H')(h:Sq t K H a xs):Sq t K H' a xs:=by
 cases t with
 |true=>exact nN e h|false=>exact e.seq h
def aOj{aB:List (qv×Obj)}{σ:L2.St}{H:Hp}{s:qj}{h':Heap}{ch:List qv}{t':Nat}(I:Inv X aB σ H s)(hch:∀ b∈ch,gM X aB H b)(k:∀ b u,b ∉ ch->s.heap.get? b=qq u->h'.get? b=qq u) :
 Inv X aB σ H {s with heap:=h',toks:=t' }:=by
 have nch:∀ b u,H b=qq u->b ∉ ch:=λ b u e z=>by rw[(hch b z).1] at e;cases e
 refine I.step (g':=s.gens) (d':=s.drawn) (ch:=ch) (λ b hb=>⟨(hch b hb).2.2.2.1,(hch b hb).2.1,(hch b hb).2.2.2.2.1,(hch b hb).2.2.2.2.2⟩) (λ b o _ _ hc e _=>k b o hc e) (λ b o _ _ hc e _=>⟨o.slots,k b o hc e⟩) (λ _ _ _ _ n=>n)
  (λ b o hc e=>⟨o,k b o hc e⟩) (λ _ _ e=>e) (λ _ _ _ e=>e) (λ b ps e=>⟨#[],by rw[e];simp⟩) (λ m hm=>?_) (λ b u e=>?_) I.bare
 ·let(o,es,ep,ho,r):=hm;exact⟨o,es,ep,k _ o (λ z=>(hch _ z).2.1 rfl) ho,r⟩
 ·refine(I.hok b u e).stay (λ c v hc q=>k c v ?_ q) (λ _ q=>q) λ _ _ q=>q
  rcases hc with z|z
  ·rw[z];exact nch b u e
  ·exact nch c _ z
def aO1{E:qx -> qj -> Prop}{s:qj}{Q:qx->qj->Prop}(hl:fU t s.heap l aX)(h:Q (.ref s.heap.objs.size) {s with heap:=s.heap.push {cls:=.type (aUU t),data:=.fields #[.ref l,.int 0 0] } }):qk (model prog w) A (pyIter (.ref l)) Q E s:=by
 cases t with
 |true=>exact wpAny_pyIter_tuple hl h|false=>exact jq hl h
abbrev aJZ(h:Heap)(z TI TO a:qv)(f:Bool):Prop:=
 h.get? z=qq {cls:=.type "zip",dict:=qz,data:=.fields #[yj a,.bool f,.bool false,.ref TI,.ref TO],slots:=#[] }
def aOJ{E:qx -> qj -> Prop}{s:qj}{Q:Option Obj->qj->Prop}(h:Q (s.heap.get? a) s):qk (model prog w) A (loadIfAlive a) Q E s:=λ _ _ _=>h
def aN8{E:qx -> qj -> Prop}{s:qj}{TI TO:qv}{Q:Bool->qj->Prop}(hz:aJZ s.heap z TI TO a f)(ha:∃ o,s.heap.get? a=qq o)(hQ:∀ h',aJZ h' z TI TO a true->yEe z s.heap h'->Q false {s with heap:=h' }):qk (model prog w) A (yDm (.ref z)) Q E s:=by
 unfold yDm;refine wB (zu hz rfl (x:=yj a) rfl ?_);let(o,ho):=ha;have hn:((s.heap.get? ((a:Int)).toNat).isNone)=false:=by
  rw[yAu,ho];rfl
 show qk _ _ (loadIfAlive ((a:Int)).toNat >>= _) _ _ _;refine wB (aOJ ?_);rw[hn];simp only[yAx,if_false];cases f with
 |true=>
   refine wB (zu hz rfl (x:=.bool true) rfl ?_);rw[if_neg (·)];exact wP (hQ s.heap hz (Heap.SameBut.refl _ _))
 |false=>
   refine wB (zu hz rfl (x:=.bool false) rfl ?_);rw[if_pos (·)];exact wB (jz hz (by simp) λ h₁ hz₁ hs₁=>wP (hQ h₁ hz₁ hs₁))
abbrev Tp(h:Heap)(a:qv)(xs:List qx):Prop:=h.get? a=qq {cls:=.type "tuple",data:=.seq xs.toArray }
abbrev Zo(h:Heap)(e:qv)(f:qx)(g:Bool):Prop:=h.get? (e+2)=qq {cls:=.type "zip",data:=.fields #[f,.bool g,.bool false,.ref e,.ref (e+1)] }
abbrev Zq:=List (Bool×qv)
structure ZT(n:Nat)(qs:Zq)(k j:Nat)(h:Heap):Prop where
 it:∀ (i:Nat) q,qs[i]?=qq q->nC q.1 h (n+i) q.2 (if i<j then k+1 else k)
 ti:Tp h (n+↑qs) ((yCt n ↑qs).map .ref)
def nn(h:a≠b):(n+a:Nat)≠n+b:=λ e=>h (Nat.add_left_cancel e)
def na{a b:Nat}(h:a≠b):a≠b:=h
def mW{α:Type}{l:List α}{q:α}(h:l[i]?=qq q):i<↑l:=(gIm h).1
def ZT.keep{h':Heap}(T:ZT n qs k j h)(r:∀ c o,n<=c->c<=n+↑qs->h.get? c=qq o->h'.get? c=qq o):ZT n qs k j h':=
 ⟨λ i q e=>(T.it i q e).at λ o x=>r _ o (yEp ..) (yGj (yEd (mW e)) _) x,r _ _ (yEp ..) (yAd _) T.ti⟩
def ZT.all(T:ZT n qs k j h)(hj:↑qs<=j):ZT n qs (k+1) 0 h:=⟨λ i q e=>by have x:=T.it i q e;rw[if_pos (xAb (mW e) hj)] at x;rw[if_neg (yCl _)];exact x,T.ti⟩
def aEV{os:List qx}(T:ZT n qs k j h)(hO:Tp h (n+↑qs+1) os)(hz:Zo h (n+↑qs) f g)(c:Nat)(h1:n<=c)(h2:c<=n+↑qs+2):∃ o,h.get? c=qq o/\∀ v,o.data≠.cell v:=by
 by_cases h3:c<n+↑qs
 ·have e:=yAa (l:=qs) (show c-n<↑qs by omega);have:=(T.it _ _ e).obj;rwa [show n+(c-n)=c by omega] at this
 have:c=n+↑qs\/c=n+↑qs+1\/c=n+↑qs+2:=by omega
 rcases this with rfl|rfl|rfl
 ·exact⟨_,T.ti,λ v z=>by cases z⟩
 ·exact⟨_,hO,λ v z=>by cases z⟩
 ·exact⟨_,hz,λ v z=>by cases z⟩
def Ys(qs:Zq)(vs:Nat->List qx)(k j:Nat)(ys:List qx):Prop:=∀ i:Nat,i<↑qs->i<j->(vs i)[k]?=ys[i]?
def aYC(h:Heap)(e:qv):Prop:=∃ o,h.get? e=qq o/\o.cls=.type "StopIteration"
structure ZL(n:Nat)(qs:Zq)(k:Nat)(h0:Heap)(j:Nat)(h:Heap):Prop where
 t:ZT n qs k j h
 sz:h.objs.size=h0.objs.size
 fr:∀ c o,c<n\/n+↑qs+2<c->h0.get? c=qq o->h.get? c=qq o
def fU.at{h':Heap}(x:fU t h a aH)(f:∀ o,h.get? a=qq o->h'.get? a=qq o):fU t h' a aH:=by
 cases t with
 |true=>let(o,ho,r):=x;exact⟨o,f _ ho,r⟩
 |false=>let(o,ho,r):=x;exact⟨o,f _ ho,r⟩
def ZL.same(L:ZL n qs k h0 j h)(x:c=n+↑qs+1\/c=n+↑qs+2)(hs:yEe c h h'):ZL n qs k h0 j h':=
 ⟨L.t.keep λ b o _ hb e=>hs.extBut _ _ (λ(z:b=c)=>by subst z;rcases x with rfl|rfl<;>omega) e,hs.1.trans L.sz,λ b o hb e=>hs.extBut _ _ (λ(z:b=c)=>by subst z;rcases x with rfl|rfl<;>omega) (L.fr b o hb e)⟩
def aLn{A:zj}{E:qx -> qj -> Prop}{s:qj}{Q:qx->qj->Prop}{us:List qx}(hh:A.handled=qz)(hq:qs[j]?=qq q)(L:ZL n qs k h0 j s.heap)(sq:fU q.1 h0 q.2 us.toArray/\q.2<n/\k<=↑us)(hQ:∀ x h' tk,us[k]?=qq x->ZL n qs k h0 (j+1) h'->yEe (n+j) s.heap h'->Q x {s with heap:=h',toks:=tk })(hE:∀ h' e,k=↑us->Heap.ExtBut (n+j) s.heap h'->aYC h' e->E (.ref e) {s with heap:=h' }):qk (model prog w) A (yBu (.ref (n+j))) Q E s:=by
 let(sq,lt,hk):=sq;replace sq:fU q.1 s.heap q.2 us.toArray:=fU.at sq λ o e=>L.fr _ o (.inl lt) e
 have D:=@aPQ prog w _ hh q.1 (n+j) q.2 (xAj (xAb lt (yEp ..))) us.toArray;have t:=L.t.it j q hq;rw[if_neg (yCg _)] at t;have jl:=mW hq;have ze:us.toArray.size=↑us:=yAi ..;by_cases e:k<↑us
 ·refine D.item k _ _ _ (ze▸e) ⟨t,sq⟩ λ x h' tk px st hs=>hQ x h' tk (List.getElem?_toArray▸px) ⟨⟨λ i q' hi=>?_,hs.extBut _ _ (nn (yGd jl)) L.t.ti⟩,hs.1.trans L.sz,λ c o hc e=>hs.extBut _ _ (λ(z:c=n+j)=>by subst z;omega) (L.fr c o hc e)⟩ hs
  by_cases c:i=j
  ·subst c;rw[hq] at hi;cases hi;rw[if_pos (yFh _)];exact st.1
  ·have x:=(L.t.it i q' hi).at λ o x=>hs.extBut _ _ (nn c) x
   rwa [ite_cond_congr (propext (⟨λ z=>by omega,λ z=>by omega⟩:i<j ↔ i<j+1))] at x
 ·have:us.toArray.size=k:=by omega
  exact D.done _ _ _ (this▸⟨t,sq⟩) λ h' e hs he=>hE h' e (!_) hs he
structure ZH(n:Nat)(qs:Zq)(k:Nat)(h:Heap):Prop where
 t:ZT n qs k 0 h
 to:∃ os,↑os=↑qs/\Tp h (n+↑qs+1) os
 z:∃ f g,Zo h (n+↑qs) f g/\(f=.none/\g=false\/∃ a:Nat,f=yj a/\∃ o,h.get? a=qq o)
def aES{α:Type}{l cJ:List α}{x:α}(h:x::cJ=l.drop j):l[j]?=qq x/\cJ=l.drop (j+1):=by
 have e:l[j]?=qq x:=by rw[<- List.head?_drop,<- h];rfl
 refine⟨e,?_⟩;rw[<- List.tail_drop,<- h];rfl
def aK4{A:zj}{E:qx -> qj -> Prop}{s:qj}{qs:Zq}{vs:Nat -> List qx}{Q:Option qx->qj->Prop}(hh:A.in1.handled=qz)(h0:0<↑qs)(h3:↑qs<=3)(Z:ZH n qs k s.heap)(sq:∀ i q,qs[i]?=qq q->fU q.1 s.heap q.2 (vs i).toArray/\q.2<n/\k<=(vs i).length)(hQ:∀ h' tk ys,↑ys=↑qs->Ys qs vs k ↑qs ys->ZH n qs (k+1) h'->Tp h' s.heap.objs.size ys->(∀ c o,c<n\/n+↑qs+2<c->s.heap.get? c=qq o->h'.get? c=qq o) ->
   (Zo s.heap (n+↑qs) .none false->Zo h' (n+↑qs) (yj s.heap.objs.size) false)->Q (qq (.ref s.heap.objs.size)) {s with heap:=h',toks:=tk })(hE:∀ h' tk i,i<↑qs->k=(vs i).length->(∀ c o,c<n\/n+↑qs+2<c->s.heap.get? c=qq o->h'.get? c=qq o)->Q qz {s with heap:=h',toks:=tk }) :
 qk (model prog w) A (yv (.ref (n+↑qs+2))) Q E s:=by
 let(f,g,hz,hf):=Z.z;let(os,ol,kM):=Z.to;have hT:s.TypeIs (.ref (n+↑qs+2)) "zip":=⟨_,hz,rfl⟩;have hk3:∀ l:List qx,↑l=↑qs->↑l<=qy:=λ l e=>xAh (show ↑l<=1000000 by omega) vV
 have gr:∀ j,j<↑qs->((yCt n ↑qs).map Value.ref)[j]?=qq (.ref (n+j)):=λ j h=>by simp[h]
 unfold yv;refine wB (wpAny_attempt (wpAny_callSpecial?_slot (name:=Str.ofString "__next__") hT F.slot_zip_next (jy F.slot_zip_next hT F.entry_zip_next ?_ (F.args_zip_next_1 _))));show qk _ _ (field (.ref (n+↑qs+2)) 2 >>= _) _ _ _;refine wB (zu hz rfl (x:=.bool false) rfl ?_);show qk _ _ (field (.ref (n+↑qs+2)) 3 >>= _) _ _ _;refine wB (zu hz rfl (x:=.ref (n+↑qs)) rfl ?_);refine wB (jw Z.t.ti rfl ?_);have hi:(((yCt n ↑qs).map Value.ref).toArray.isEmpty)=false:=by
  cases e:↑qs with
  |zero=>omega|succ m=>rfl
 dsimp only;rw[hi];simp only[yAx,if_false];rcases hf with ⟨rfl,rfl⟩|⟨a,rfl,o,ho⟩
 ·refine wB ?_;unfold yDm;refine wB (zu hz rfl (x:=.none) rfl (wP ?_));simp only[if_true];refine wB (ww ?_);refine wB (zu hz rfl (x:=.ref (n+↑qs+1)) rfl ?_);refine wB (jz hz (by simp) λ h₁ hz₁ hs₁=>?_);refine wB (wpAny_forIn_list _ (λ cJ b s'=>∃ j os h tk,cJ=((yCt n ↑qs).map Value.ref).zipIdx.drop j/\b=(qz,())/\s'={s with heap:=h,toks:=tk }/\ZL n qs k s.heap j h/\↑os=↑qs/\Tp h (n+↑qs+1) os/\Ys qs vs k j os/\Zo h (n+↑qs) .ellipsis false) _ ?_ ?_ _ _ ?_)
  ·rintro x cJ b s' ⟨j,os,h,tk,e1,e2,e3,L,e4,kM,hy,hz⟩;subst e2 e3;let(e5,e6):=aES e1;have jl:j<↑qs:=by have:=mW e5;simpa using this
   have:x=(.ref (n+j),j):=by
    rw[List.getElem?_zipIdx,gr j jl] at e5;simpa using e5.symm
   subst this;refine wB (wpAny_onRaise ?_);show qk _ _ (yBu (.ref (n+j)) >>= _) _ _ _;refine wB (aLn hh (yAa jl) L (sq j _ (yAa jl)) (λ x h2 tk2 hx L2 hs2=>wP ?_) λ h2 e ek hs2 he=>?_)
   ·have hTO2:Tp h2 (n+↑qs+1) os:=hs2.extBut _ _ (na (!_)) kM;refine wB (jw hTO2 rfl (wB (vq hTO2 rfl (wB (wpAny_letGo (wP ?_))))));have hs3:=Heap.SameBut.update h2 (n+↑qs+1) (Obj.mapSeq (·.setIfInBounds j x));refine⟨j+1,os.set j x,_,tk2,e6,rfl,rfl,L2.same (.inl rfl) hs3,by simp[e4],?_,λ i hi hj=>?_,hs3.extBut _ _ (na (!_)) (hs2.extBut _ _ (na (!_)) hz)⟩
    ·show Heap.get? _ _=_;rw[yCx _ hTO2 rfl];simp[Obj.mapSeq]
    ·by_cases c:i=j
     ·subst c;rw[hx];simp[e4,jl]
     ·rw[hy i hi (!_),yBa (Ne.symm c)]
   ·have hz2:Zo h2 (n+↑qs) .ellipsis false:=hs2 _ _ (na (!_)) hz;let(oe,ho,hc):=he;have hez:e≠n+↑qs+2:=λ x=>by subst x;rw[hz2] at ho;cases ho;simp at hc
    refine jz hz2 (by simp) λ h3 _ hs3=>?_
    exact wB (wpAny_isInstance (T:="StopIteration") (b:=true) ⟨oe,hs3.extBut _ _ hez ho,hc⟩ isSubtype_stop (wP (hE _ _ j jl ek λ c o hc e=>hs3.extBut _ _ (λ z:c=_=>by subst z;omega) (hs2 _ _ (λ z:c=_=>by subst z;omega) (L.fr c o hc e)))))
  ·rintro b s' ⟨j,os,h,tk,e1,e2,e3,L,e4,kM,hy,hz⟩;subst e2 e3;have jl:↑qs<=j:=by have:=congrArg yHn e1;simp at this;omega
   refine wB (jw kM rfl (wB (wpAny_newTuple ?_ (hk3 _ e4))));have hz6:Zo (h.push {cls:=.type "tuple",data:=.seq os.toArray }) (n+↑qs) .ellipsis false:=hpS _ hz;have zl:n+↑qs+2<h.objs.size:=xAa hz;show qk _ _ (yFe (.ref (n+↑qs+2)) (.ref h.objs.size) >>= _) _ _ _;unfold yFe;refine wB (wB (jz hz6 (by simp) λ h7 hz7 hs7=>jz hz7 (by simp) λ h8 hz8 hs8=>?_));have up:∀ c o,c≠n+↑qs+2->(h.push {cls:=.type "tuple",data:=.seq os.toArray }).get? c=qq o->h8.get? c=qq o:=λ c o c1 e=>hs8.extBut _ _ c1 (hs7.extBut _ _ c1 e)
   have hz9:Zo h8 (n+↑qs) (yj h.objs.size) false:=hz8;have hT8:Tp h8 h.objs.size os:=up _ _ (yGd zl) (xAd _ rfl);refine wP ⟨_,rfl,?_⟩;show qk _ _ (pure (qq (Value.ref h.objs.size))) _ _ _;rw[L.sz] at hz9 hT8 ⊢;exact wP (hQ h8 _ os e4 (λ i hi _=>hy i hi (!_)) ⟨(L.t.all jl).keep λ c o _ hc e=>up c o (na (!_)) (hpS _ e),⟨os,e4,up _ _ (na (!_)) (hpS _ kM)⟩,_,_,hz9,.inr ⟨_,rfl,_,hT8⟩⟩ hT8 (λ c o hc e=>up c o (na (!_)) (hpS _ (L.fr c o hc e))) λ _=>hz9)
  ·exact⟨0,os,h₁,_,rfl,rfl,rfl,(ZL.mk Z.t rfl λ _ _ _ e=>e).same (.inr rfl) hs₁,ol,hs₁.extBut _ _ (na (!_)) kM,λ i _ z=>absurd z (yCl _),hz₁⟩
 ·have hz0:=hz;refine wB (aN8 (z:=n+↑qs+2) hz ⟨o,ho⟩ λ h₁ hz₁ hs₁=>?_);simp only[yAx,if_false];rw[<- Array.forIn_toList];refine wB (wpAny_forIn_list _ (λ cJ b s'=>∃ j ys h tk,cJ=((yCt n ↑qs).map Value.ref).drop j/\b=(qz,ys.toArray)/\s'={s with heap:=h,toks:=tk }/\ZL n qs k s.heap j h/\↑ys=min j ↑qs/\Ys qs vs k j ys/\Zo h (n+↑qs) (yj a) true/\Tp h (n+↑qs+1) os) _ ?_ ?_ _ _ ?_)
  ·rintro x cJ b s' ⟨j,ys,h,tk,e1,e2,e3,L,e4,hy,hz,kM⟩;subst e2 e3;let(e5,e6):=aES e1;have jl:j<↑qs:=by have:=mW e5;simpa using this
   rw[gr j jl] at e5;cases e5;refine wB (zy ?_);show qk _ _ (yBu (.ref (n+j)) >>= _) _ _ _;refine wB (aLn hh (yAa jl) L (sq j _ (yAa jl)) (λ x h2 tk2 hx L2 hs2=>wP (wP ?_)) λ h2 e ek hs2 he=>?_)
   ·refine⟨j+1,ys++[x],h2,tk2,e6,by simp,rfl,L2,by simp;omega,λ i hi hj=>?_,hs2.extBut _ _ (na (!_)) hz,hs2.extBut _ _ (na (!_)) kM⟩;by_cases c:i=j
    ·subst c;rw[hx,yAf (!_),show i-↑ys=0 by omega];rfl
    ·rw[hy i hi (!_),xAm (!_)]
   ·let(oe,ho,hc):=he;exact wB (wpAny_isInstance (T:="StopIteration") (b:=true) ⟨oe,ho,hc⟩ isSubtype_stop (wP (hE _ _ j jl ek λ c o hc e=>hs2 _ _ (λ z:c=_=>by subst z;omega) (L.fr c o hc e))))
  ·rintro b s' ⟨j,ys,h,tk,e1,e2,e3,L,e4,hy,hz,kM⟩;subst e2 e3;have jl:↑qs<=j:=by have:=congrArg yHn e1;simp at this;omega
   have e4:↑ys=↑qs:=by omega
   refine wB (wpAny_newTuple ?_ (hk3 _ e4));refine wP ⟨_,rfl,?_⟩;show qk _ _ (pure (qq (Value.ref h.objs.size))) _ _ _;have hT:Tp (h.push {cls:=.type "tuple",data:=.seq ys.toArray }) h.objs.size ys:=xAd _ rfl;rw[L.sz] at hT ⊢;refine wP (hQ _ _ ys e4 (λ i hi _=>hy i hi (!_)) ⟨(L.t.all jl).keep λ c o _ hc e=>hpS _ e,⟨os,ol,hpS _ kM⟩,_,_,hpS _ hz,.inr ⟨_,rfl,?_⟩⟩ hT (λ c o hc e=>hpS _ (L.fr c o hc e)) λ z=>?_)
   ·by_cases c:n<=a/\a<=n+↑qs+2
    ·let(o,e,_):=aEV L.t kM hz a c.1 c.2;exact⟨o,hpS _ e⟩
    ·exact⟨o,hpS _ (L.fr a o (!_) ho)⟩
   ·have:=hz0.symm.trans z;simp[yj] at this
  ·exact⟨0,[],h₁,_,rfl,rfl,rfl,(ZL.mk Z.t rfl λ _ _ _ e=>e).same (.inr rfl) hs₁,by simp,λ i _ z=>absurd z (yCl _),hz₁,hs₁.extBut _ _ (na (!_)) kM⟩
def aE5{n:Nat}{qs:Zq}{k:Nat}{aB:List (qv×Obj)}{σ:L2.St}{H:Hp}{s:qj}(I:Inv X aB σ H s)(hl:∀ q∈qs,q.2<n)(h:∀ q∈qs,∃ xs,Sq q.1 X.K H q.2 xs/\k<=↑xs) :
 ∃ vs:Nat->List qx,(∀ i q,qs[i]?=qq q->fU q.1 s.heap q.2 (vs i).toArray/\q.2<n/\k<=(vs i).length)/\∀ (i:Nat) q xs,qs[i]?=qq q->Sq q.1 X.K H q.2 xs->bG xs (vs i):=by
 have:∀ i:Nat,∃ us:List qx,∀ q,qs[i]?=qq q->(fU q.1 s.heap q.2 us.toArray/\q.2<n/\k<=↑us)/\∀ xs,Sq q.1 X.K H q.2 xs->bG xs us:=λ i=>by
  cases e:qs[i]? with
  |none=>exact⟨[],λ q z=>nomatch z⟩
  |some q=>
    have m:=xAk e;let(xs,sq,hk):=h q m;let(us,rv,pl):=aLP I sq;refine⟨us,λ q' z=>?_⟩;cases z;exact⟨⟨pl,hl q m,rv.length▸hk⟩,λ zs hz=>aKH I sq hz▸rv⟩
 let(vs,hv):=Classical.axiomOfChoice this;exact⟨vs,λ i q e=>(hv i q e).1,λ i q xs e=>(hv i q e).2 xs⟩
def aJr:∀ {us:List qx}{P:Nat->V->Prop},(∀ (j:Nat) u,us[j]?=qq u->∃ x,P j x/\bM x u)->∃ xs:List V,bG xs us/\∀ (j:Nat) x,xs[j]?=qq x->P j x
 |[],_,_=>⟨[],.nil,λ _ _ z=>by simp at z⟩
 |u::us,P,h=>by
   let(x,p,r):=h 0 u rfl;let(xs,v,q):=aJr (P:=λ j=>P (j+1)) λ j u e=>h (j+1) u e
   refine⟨x::xs,.cons r v,λ j y e=>?_⟩;cases j with
   |zero=>cases e;exact p|succ j=>exact q j y e
def yT(K:FrG)(qs:Zq):It:=
 ⟨λ i H=>∀ q∈qs,∃ xs,Sq q.1 K H q.2 xs/\i<↑xs,
  λ i H v H'=>∃ p ys,H p=qz/\H'=bQ H p (.tup ys)/\v=.ref p/\↑ys=↑qs/\∀ (j:Nat) q xs,qs[j]?=qq q->Sq q.1 K H q.2 xs->xs[i]?=ys[j]?,
  λ i H=>(∀ q∈qs,∃ xs,Sq q.1 K H q.2 xs/\i<=↑xs)/\∃ q∈qs,∃ xs,Sq q.1 K H q.2 xs/\i=↑xs⟩
section
variable {n:Nat}{qs:Zq}{k:Nat}{X:Cx}{aB:List (qv×Obj)}{σ:L2.St}{H:Hp}{s:qj}{A:zj}{E:qx->qj->Prop}
def aK0{Q:Option qx->qj->Prop}(hh:A.in1.handled=qz)(h0:0<↑qs)(h3:↑qs<=3)(hl:∀ q∈qs,q.2<n)(I:Inv X aB σ H s)(Z:ZH n qs k s.heap)(h:∀ q∈qs,∃ xs,Sq q.1 X.K H q.2 xs/\k<↑xs)(hQ:∀ h' tk us ys,bG ys us->↑ys=↑qs->(∀ (j:Nat) q xs,qs[j]?=qq q->Sq q.1 X.K H q.2 xs->xs[k]?=ys[j]?)->ZH n qs (k+1) h'->Tp h' s.heap.objs.size us->(∀ c o,c<n\/n+↑qs+2<c->s.heap.get? c=qq o->h'.get? c=qq o) ->
   (Zo s.heap (n+↑qs) .none false->Zo h' (n+↑qs) (yj s.heap.objs.size) false)->Q (qq (.ref s.heap.objs.size)) {s with heap:=h',toks:=tk }) :
 qk (model X.prog X.w) A (yv (.ref (n+↑qs+2))) Q E s:=by
 let(vs,v1,v2):=aE5 I hl λ q m=>(h q m).imp λ xs a=>⟨a.1,yEd a.2⟩
 refine aK4 hh h0 h3 Z v1 (λ h' tk us ul hy Z' hT fr hz=>?_) λ h' tk i il ek _=>?_
 ·let(ys,rv,hys):=@aJr us (λ j x=>∀ q xs,qs[j]?=qq q->Sq q.1 X.K H q.2 xs->xs[k]?=qq x) λ j u e=>by
   have jl:j<↑qs:=ul▸mW e;have eq:=yAa jl;let(xs,sq,kl):=h _ (xAk eq);let(u',e1,r):=(v2 j _ xs eq sq).get (yAa kl);rw[hy j jl jl,e] at e1;cases e1;refine⟨_,λ q zs eq' sz=>?_,r⟩;rw[eq] at eq';cases eq';rw[aKH I sz sq,yAa kl]
  refine hQ h' tk us ys rv (rv.length.trans ul) (λ j q xs e sq=>?_) Z' hT fr hz;have jl:j<↑ys:=by rw[rv.length,ul];exact mW e
  rw[yAa jl,hys j _ (yAa jl) q xs e sq]
 ·have eq:=yAa il;let(xs,sq,kl):=h _ (xAk eq);have:=(v2 i _ xs eq sq).length;omega
def aLm{Q:Option qx->qj->Prop}(hh:A.in1.handled=qz)(h0:0<↑qs)(h3:↑qs<=3)(hl:∀ q∈qs,q.2<n)(I:Inv X aB σ H s)(Z:ZH n qs k s.heap)(hf:∀ b∈yCt n (↑qs+3),gM X aB H b)(h:(yT X.K qs).stop k H)(hQ:∀ h' tk,Inv X aB σ H {s with heap:=h',toks:=tk }->Q qz {s with heap:=h',toks:=tk }):qk (model X.prog X.w) A (yv (.ref (n+↑qs+2))) Q E s:=by
 let(h1,q,m,xs,sq,e):=h;let(vs,v1,v2):=aE5 I hl h1;refine aK4 hh h0 h3 Z v1 (λ h' tk us ul hy _ _ _ _=>?_) λ h' tk i il ek fr=>hQ _ _ (aOj I hf λ c o hb e'=>fr c o ?_ e')
 ·let(j,jl,eq):=yGk m;have e1:=hy j jl jl;rw[yBn (by rw[<- (v2 j q xs (List.getElem?_eq_some_iff.mpr ⟨jl,eq⟩) sq).length,e];exact yAd _),yAa (ul▸jl)] at e1;cases e1
 ·rw[yHj] at hb;omega
end
def aPW(n:Nat)(qs:Zq)(h0:0<↑qs)(h3:↑qs<=3)(hl:∀ q∈qs,q.2<n) :
 Turn P w K (.Tuple elts k pos) (yT K qs) (yCt n (↑qs+3)) (n+↑qs+2) (λ i h=>ZH n qs i h/\Zo h (n+↑qs) .none false) where
 mem:=List.mem_range'_1.mpr (!_)
 obj:=λ i h bD b hb=>by
  let(Z,hz):=bD;let(os,_,hO):=Z.to;have:=List.mem_range'_1.mp hb;exact aEV Z.t hO hz b this.1 (!_)
 keep:=λ i h h' bD q=>by
  let(Z,hz):=bD;have q':∀ c o,n<=c->c<=n+↑qs+2->h.get? c=qq o->h'.get? c=qq o:=λ c o a b e=>q c (List.mem_range'_1.mpr (!_)) o e
  let(os,ol,hO):=Z.to;have hz':Zo h' (n+↑qs) .none false:=q' _ _ (!_) (!_) hz;exact⟨⟨Z.t.keep λ c o a b=>q' c o a (!_),⟨os,ol,q' _ _ (!_) (!_) hO⟩,_,_,hz',.inl ⟨rfl,rfl⟩⟩,hz'⟩
 item:=λ X hP hW hK hc i aB s σ H E I hf bD hg=>by
  let(Z,hz):=bD;subst hP hW hK;refine aK0 (I.ok.hd hc) h0 h3 hl I Z hg λ h' tk us ys rv yl hy Z' hT fr hzo=>⟨_,rfl,wpAny_letOwnedTupleGo_zip (hzo hz) λ h₂ hz₂ hs₂=>?_⟩
  replace hs₂:yEe (n+↑qs+2) h' h₂:=hs₂;have zl:n+↑qs+2<s.heap.objs.size:=xAa hz;let(os,ol,hO):=Z'.to;refine⟨.ref s.heap.objs.size,_,@aGH _ _ _ _ s h₂ _ s.heap.objs.size (.tup ys) tk I hf (λ c o hb e'=>?_) (yAd _) ⟨xAh (show ↑ys<=1000000 by omega) vV,us,rv,⟨_,hs₂.extBut _ _ (yGd zl) hT,rfl,0,rfl⟩⟩,rfl,⟨s.heap.objs.size,ys,I.fresh,rfl,rfl,yl,hy⟩,⟨⟨Z'.t.keep λ c o _ b=>hs₂.extBut c o (na (!_)),⟨os,ol,hs₂.extBut _ _ (na (!_)) hO⟩,_,_,hz₂,.inl ⟨rfl,rfl⟩⟩,hz₂⟩,λ c hb=>?_⟩
  ·rw[yHj] at hb;exact hs₂.extBut c o (na (!_)) (fr c o (!_) e')
  ·have:=List.mem_range'_1.mp hb;rw[bT (na (!_))];exact(hf c hb).1
 done:=λ X hP hW hK hc i aB s σ H E I hf bD hs=>by
  let(Z,hz):=bD;subst hP hW hK;exact aLm (I.ok.hd hc) h0 h3 hl I Z hf hs λ h' tk I'=>⟨rfl,I'⟩
 self:=λ A i s Q E h hq=>yx h.2 hq
noncomputable abbrev Zr(qs:Zq):List qx:=qs.map λ q=>.ref q.2
def aOw{E:qx -> qj -> Prop}{s:qj}{vs:Nat -> List qx}{Q:List qx->qj->Prop}(sq:∀ i q,qs[i]?=qq q->fU q.1 s.heap q.2 (vs i).toArray)(h:∀ h',h'.objs.size=s.heap.objs.size+↑qs->(∀ (i:Nat) q,qs[i]?=qq q->nC q.1 h' (s.heap.objs.size+i) q.2 0)->(∀ c o,s.heap.get? c=qq o->h'.get? c=qq o)->Q ((yCt s.heap.objs.size ↑qs).map .ref) {s with heap:=h' }) :
 qk (model prog w) A (yGq (Zr qs)) Q E s:=by
 unfold yGq;refine wB (wpAny_forIn_list _ (λ cJ b s'=>∃ j h,j<=↑qs/\cJ=(Zr qs).drop j/\b=((yCt s.heap.objs.size j).map Value.ref).toArray/\s'={s with heap:=h }/\h.objs.size=s.heap.objs.size+j/\(∀ (i:Nat) q,qs[i]?=qq q->i<j->nC q.1 h (s.heap.objs.size+i) q.2 0)/\∀ c o,s.heap.get? c=qq o->h.get? c=qq o) _ ?_ ?_ _ _ ?_)
 ·rintro x cJ b s' ⟨j,h,jl,e1,e2,e3,e4,hi,k⟩;subst e2 e3;let(e5,e6):=aES e1;rw[yAc] at e5;cases eq:qs[j]? with
  |none=>rw[eq] at e5;cases e5
  |some q=>
    rw[eq] at e5;cases e5;refine wB (zy (aO1 (fU.at (sq j q eq) (k _)) (wP ⟨j+1,_,mW eq,e6,?_,rfl,?_,λ i q' eq' il=>?_,λ c o e=>hpS _ (k c o e)⟩)))
    ·show Array.push _ (Value.ref h.objs.size)=_;rw[e4,List.range'_1_concat];simp
    ·rw[Heap.size_push];show h.objs.size+1=_;omega
    ·by_cases c:i=j
     ·subst c;rw[eq] at eq';cases eq';rw[<- e4];cases q.1<;>exact⟨_,xAd _ rfl,rfl,rfl⟩
     ·exact(hi i q' eq' (!_)).at λ o e=>hpS _ e
 ·rintro b s' ⟨j,h',jl,e1,e2,e3,e4,hi,k⟩;subst e2 e3;have:j=↑qs:=by have:=congrArg yHn e1;simp at this;omega
  subst this;exact wP (h h' e4 (λ i q e=>hi i q e (mW e)) k)
 ·exact⟨0,s.heap,yDw _,rfl,rfl,rfl,rfl,λ _ _ _ z=>absurd z (yCl _),λ _ _ e=>e⟩
def aDq(h:Heap)(o:Obj)(hr:o.isFreed=false):∃ h',h.push o=h'/\h'.get? h.objs.size=qq o/\h'.objs.size=h.objs.size+1/\∀ c u,h.get? c=qq u->h'.get? c=qq u:=⟨_,rfl,xAd _ hr,Heap.size_push ..,λ _ _ e=>hpS _ e⟩
def aSO{qs:Zq}{vs:Nat -> List qx}(h3:↑qs<=3):Meets (Builtin.«zip.__new__» ⟨.type "zip" :: Zr qs,[]⟩) (λ _ R s=>(∀ i q,qs[i]?=qq q->fU q.1 s.heap q.2 (vs i).toArray)/\∀ h',ZH s.heap.objs.size qs 0 h'->Zo h' (s.heap.objs.size+↑qs) .none false->h'.objs.size=s.heap.objs.size+↑qs+3 ->
 (∀ c o,s.heap.get? c=qq o->h'.get? c=qq o)->R (.ok (.ret (.ref (s.heap.objs.size+↑qs+2)))) {s with heap:=h' }):=
 .of_wp λ prog w A R s h=>by
  let(hp,g,d,tk,os):=s;let(sq,h):=h;have hsub:=sub_zip
  wp_walk using aOw sq
  intro h' sz it k;dsimp only at sz it k sq h;let(h1,e1,g1,z1,k1):=aDq h' {cls:=.type "tuple",data:=.seq ((yCt hp.objs.size ↑qs).map Value.ref).toArray } rfl;let(h2,e2,g2,z2,k2):=aDq h1 {cls:=.type "tuple",data:=.seq (((yCt hp.objs.size ↑qs).map Value.ref).map λ _=>Value.none).toArray } rfl;have l3:∀ l:List qx,↑l=↑qs->↑l<=qy:=λ l e=>xAh (show ↑l<=1000000 by omega) vV
  refine wB (wpAny_newTuple ?_ (l3 _ (by simp)));dsimp only;rw[e1];refine wB (wpAny_newTuple ?_ (l3 _ (by simp)));dsimp only;rw[e2]
  wp_walk
  let(h4,e4,g4,z4,k4):=aDq h2 {cls:=.type "zip",data:=.fields (Builtin.SmallTypes.ownedTupleFields++[Value.bool false,Value.ref h'.objs.size,Value.ref h1.objs.size]).toArray } rfl;refine⟨_,rfl,?_⟩;rw[e4];rw[z2,z1,sz] at g4 z4 ⊢;rw[z1,sz] at g2;rw[sz] at g1;have hz:Zo h4 (hp.objs.size+↑qs) .none false:=g4;exact h h4 ⟨⟨λ i q e=>(it i q e).at λ o e=>k4 _ _ (k2 _ _ (k1 _ _ e)),k4 _ _ (k2 _ _ g1)⟩,⟨_,by simp,k4 _ _ g2⟩,_,_,hz,.inl ⟨rfl,rfl⟩⟩ hz z4 λ c o e=>k4 _ _ (k2 _ _ (k1 _ _ (k c o e)))
def zok:∀ qs:Zq,2<=↑qs->↑qs<=3->checkTypeCall "zip" ⟨Zr qs,[]⟩=pure ()/\checkBuiltinCall "zip.__new__" ⟨.type "zip" :: Zr qs,[]⟩=pure ()/\∀ obj,argsOk "object.__init__" ⟨obj::Zr qs,[]⟩
 |[_,_],_,_=>⟨F.typeCall_zip_2 _ _,F.newCall_zip_2 _ _,λ obj=>F.args_object_init_3 obj _ _⟩
 | [_,_,_],_,_=>⟨by kernel_rfl,by kernel_rfl,λ _=>by
   unfold argsOk;rw[signature?_of (id:="object.__init__") (n:=['_','_','t','i','n','i','_','_']) (o:=['t','c','e','j','b','o']) (by kernel_rfl) F.owner_object];kernel_rfl⟩
def aQl{E:qx -> qj -> Prop}{s:qj}{qs:Zq}{vs:Nat -> List qx}{Q:qx->qj->Prop}(h2:2<=↑qs)(h3:↑qs<=3)(sq:∀ i q,qs[i]?=qq q->fU q.1 s.heap q.2 (vs i).toArray)(h:∀ h',ZH s.heap.objs.size qs 0 h'->Zo h' (s.heap.objs.size+↑qs) .none false->h'.objs.size=s.heap.objs.size+↑qs+3->(∀ c o,s.heap.get? c=qq o->h'.get? c=qq o)->Q (.ref (s.heap.objs.size+↑qs+2)) {s with heap:=h' }) :
 qk (model prog w) A (call (.type "zip") (Zr qs)) Q E s:=by let(o1,o2,o3):=zok qs h2 h3;exact callType_new F.called_zip (·) o1 o2 o3 F.entry_zip_new (@aSO _ vs h3) ⟨sq,λ h' Z hz sz k=>⟨⟨_,hz,rfl⟩,h h' Z hz sz k⟩⟩
def zJ(K:FrG)(ta:TA):TI:=λ σ H R=>ta σ H λ vs H1=>∃ qs:Zq,vs=qs.map (λ q=>.ref q.2)/\2<=↑qs/\↑qs<=3/\(∀ q∈qs,∃ xs,Sq q.1 K H1 q.2 xs)/\R (yT K qs) H1
def aLT{Q:qx->qj->Prop}{E:qx->qj->Prop}{qs:Zq}(I:Inv X aB σ H s)(r:bG (qs.map λ q=>.ref q.2) us)(h2:2<=↑qs)(h3:↑qs<=3)(sq:∀ q∈qs,∃ xs,Sq q.1 X.K H q.2 xs)(h:∀ h',Inv X aB σ H {s with heap:=h' }->(∀ q∈qs,q.2<s.heap.objs.size)->ZH s.heap.objs.size qs 0 h'->Zo h' (s.heap.objs.size+↑qs) .none false->h'.objs.size=s.heap.objs.size+↑qs+3->(∀ b∈yCt s.heap.objs.size (↑qs+3),gM X aB H b)->Q (.ref (s.heap.objs.size+↑qs+2)) {s with heap:=h' }) :
 qk (model X.prog X.w) A (call (.type "zip") us) Q E s:=by
 have e:∀ {qs:Zq}{us:List qx},bG (qs.map λ q=>.ref q.2) us->us=Zr qs:=λ {qs}=>by
  induction qs with
  |nil=>intro us r;cases r;rfl
  |cons q qs ih=>intro us r;cases r with|cons a b=>cases a;rw[ih b];rfl
 rw[e r];have hl:∀ q∈qs,q.2<s.heap.objs.size:=λ q m=>by
  let(xs,sx):=sq q m;let(us,_,pl):=aLP I sx;exact pl.lt
 let(vs,v1,_):=aE5 (k:=0) I hl λ q m=>(sq q m).imp λ xs a=>⟨a,yDw _⟩
 refine aQl h2 h3 (λ i q e=>(v1 i q e).1) λ h' Z hz sz k=>h h' (I.kept (t':=s.toks) k) hl Z hz sz λ b hb=>?_
 have:=(List.mem_range'_1.mp hb).1;exact I.fpOk this (I.hok.fresh this)
def aIB{ta:TA}(hg:Gl X "zip")(hm:X.mg "zip" = qz)(ha:PA X (a::es) ta)(hs:qu (a::es) X.env=(false,eval a X.env)::qu es X.env)(hs2:((backTo pos (qu es X.env)).any λ x=>x.fst)=false):PI X (.Tuple elts k pp) (.Call (.Name "zip" p) (a::es) [] pos) (zJ X.K ta):=by intro aB s σ H R I h;refine Call_ (pH I hg hm boot_zip (yBv (bO (ha pos aB s σ H _ I h) λ us s1 hq=>?_) hs hs2));let(vs,H1,I1,r1,q1):=hq;let(qs,rfl,h2,h3,sq,q):=q1;exact aLT I1 r1 h2 h3 sq λ h' I2 hl Z hz _ fp=>yx hz ⟨_,_,_,_,H1,rfl,I2,aPW _ qs (!_) h3 hl,⟨Z,hz⟩,fp,q⟩
def aJd{K:FrG}:∀ {ds:List D}{ys:List V},↑ds=↑ys->(∀ (j:Nat) d y,ds[j]?=qq d->ys[j]?=qq y->Den K F d y)->DenL K F ds ys
 |[],[],_,_=>.nil|d::ds,y::ys,h,k=>.cons (k 0 d y rfl rfl) (aJd (Nat.succ.inj h) λ j=>k (j+1))
structure Zd(K:FrG)(F:Hp)(qs:Zq)(dss:List (List D))(zs:List D):Prop where
 len:↑dss=↑qs
 sq:∀ (j:Nat) q ds,qs[j]?=qq q->dss[j]?=qq ds->∃ xs,Sq q.1 K F q.2 xs/\DenL K F ds xs
 le:∀ ds∈dss,↑zs<=↑ds
 eq:∃ ds∈dss,↑zs=↑ds
 get:∀ (i:Nat) d,zs[i]?=qq d->∃ es,d=.tuple es/\dss.map (·[i]?)=es.map qq
section
variable {K:FrG}{F F1 H:Hp}{qs:Zq}{dss:List (List D)}{zs:List D}
def Zd.go(Z:Zd K F qs dss zs)(s:bY F H)(h:k<=↑zs):∀ q∈qs,∃ xs,Sq q.1 K H q.2 xs/\k<=↑xs:=λ q m=>by
 let(j,jl,e):=yGk m;have e2:=yAa (l:=dss) (Z.len▸jl);let(xs,sq,dl):=Z.sq j q _ (List.getElem?_eq_some_iff.mpr ⟨jl,e⟩) e2;exact⟨xs,aDz s sq,xAh h (dl.length▸Z.le _ (xAk e2))⟩
def Zd.stop(Z:Zd K F qs dss zs)(s:bY F H):(yT K qs).stop ↑zs H:=by refine⟨Z.go s (yAd _),?_⟩;let(ds,m,el):=Z.eq;let(j,jl,e):=yGk m;have e2:=yAa (l:=qs) (Z.len▸jl);let(xs,sq,dl):=Z.sq j _ ds e2 (List.getElem?_eq_some_iff.mpr ⟨jl,e⟩);exact⟨_,xAk e2,xs,aDz s sq,el.trans dl.length⟩
def Zd.den(Z:Zd K F qs dss zs)(s1:bY F F1)(s2:bY F1 H){i:Nat}{d:D}{p:qv}{ys:List V}(e:zs[i]?=qq d)(hp:H p=qz)(yl:↑ys=↑qs)(hy:∀ (j:Nat) q xs,qs[j]?=qq q->Sq q.1 K H q.2 xs->xs[i]?=ys[j]?):Den K (bQ F1 p (.tup ys)) d (.ref p):=by
 let(es,rfl,ee):=Z.get i d e;have el:↑es=↑dss:=by have:=congrArg yHn ee;simpa using this.symm
 refine .tup (cQ.of eH) (aJd (by rw[el,yl,Z.len]) λ j d y hd hy'=>?_);have jl:j<↑dss:=el▸mW hd;have e2:=yAa (l:=qs) (Z.len▸jl);let(xs,sq,dl):=Z.sq j _ _ e2 (yAa jl);have e3:=congrArg (·[j]?) ee;simp only[yAc,yAa jl,hd,Option.map_some,Option.some.injEq] at e3;let(x,e4,dx):=dl.get e3;rw[hy j _ xs e2 (aDz (s1.trans s2) sq),hy'] at e4;cases e4;exact dx.mono (s1.trans (gC (s2.free hp)))
def aJK(Z:Zd K F qs dss zs):Wk K F L (yT K qs) zs where
 go:=λ i H s hi=>Z.go s hi
 stop:=λ H s=>Z.stop s
 yld:=λ i H F1 L1 S x H' d g R e y=>by
  let(p,ys,hp,rfl,rfl,yl,hy):=y;exact⟨_,gC (R.sub.free hp),R.new hp,Z.den g.f R.sub e hp yl hy⟩
def oA:W->Option (List D)
 |.d (.list ds)=>qq ds|.d (.tuple ds)=>qq ds|_=>qz
def qU(h:oA w=qq ds)(d:fG K F L w v):∃ q:Bool×qv,v=.ref q.2/\∃ xs,Sq q.1 K F q.2 xs/\DenL K F ds xs:=by
 unfold oA at h;split at h
 ·cases h;cases (show Den K F (.list ds) v from d) with|lst sq dl=>exact⟨(false,_),rfl,_,sq,dl⟩
 ·cases h;cases (show Den K F (.tuple ds) v from d) with|tup sq dl=>exact⟨(true,_),rfl,_,sq,dl⟩
 ·cases h
end
def hJ:List D->List D->List D
 |a::as,b::bs=>.tuple [a,b]::hJ as bs|_,_=>[]
def aAn:∀ as bs:List D,(hJ as bs).length=min ↑as ↑bs
 |[],_=>by simp[hJ]|_::_,[]=>by simp[hJ]|_::as,_::bs=>by simp[hJ,aAn as bs]
def aAO:∀ (as bs:List D) (i:Nat) (d:D),(hJ as bs)[i]?=qq d->∃ a b,as[i]?=qq a/\bs[i]?=qq b/\d=.tuple [a,b]
 |[],_,i,d,h=>by simp[hJ] at h|_::_,[],i,d,h=>by simp[hJ] at h|a::as,b::bs,0,d,h=>by simp[hJ] at h;exact⟨a,b,rfl,rfl,h.symm⟩|a::as,b::bs,i+1,d,h=>aAO as bs i d h
def gH:List D->List D->List D->List D
 |a::as,b::bs,c::cs=>.tuple [a,b,c]::gH as bs cs|_,_,_=>[]
def aCN:∀ as bs cs:List D,(gH as bs cs).length=min ↑as (min ↑bs ↑cs)
 |[],_,_=>by simp[gH]|_::_,[],_=>by simp[gH]|_::_,_::_,[]=>by simp[gH]|_::as,_::bs,_::cs=>by simp[gH,aCN as bs cs]
def aGX:∀ (as bs cs:List D) (i:Nat) (d:D),(gH as bs cs)[i]?=qq d->∃ a b c,as[i]?=qq a/\bs[i]?=qq b/\cs[i]?=qq c/\d=.tuple [a,b,c]
 |[],_,_,i,d,h=>by simp[gH] at h|_::_,[],_,i,d,h=>by simp[gH] at h|_::_,_::_,[],i,d,h=>by simp[gH] at h|a::as,b::bs,c::cs,0,d,h=>by simp[gH] at h;exact⟨a,b,c,rfl,rfl,rfl,h.symm⟩|a::as,b::bs,c::cs,i+1,d,h=>aGX as bs cs i d h
def aP6(x y z:List D)(ds:List D)(h:ds∈[x,y,z]):(gH x y z).length<=↑ds:=by
 rw[aCN];simp only[yEl,yEo,or_false] at h;rcases h with rfl|rfl|rfl
 ·exact yCy _ _
 ·exact xAh (yCa _ _) (yCy _ _)
 ·exact xAh (yCa _ _) (yCa _ _)
def aQA(x y z:List D):∃ ds∈[x,y,z],(gH x y z).length=↑ds:=by
 rw[aCN];rcases yGv x.length (min y.length z.length) with q|q
 ·exact⟨x,by simp,yDn q⟩
 rw[yDr q];rcases yGv y.length z.length with q|q
 ·exact⟨y,by simp,yDn q⟩
 ·exact⟨z,by simp,yDr q⟩
def aJ9{F:Hp}(j:Nat)(q:Bool×qv)(ds:List D)(h:([]:Zq)[j]?=qq q)(_:([]:List (List D))[j]?=qq ds):∃ xs,Sq q.1 K F q.2 xs/\DenL K F ds xs:=by simp at h
def wZ{F:Hp}{q0:Bool×qv}{ds0:List D}{qs:Zq}{dss:List (List D)}(h:∃ xs,Sq q0.1 K F q0.2 xs/\DenL K F ds0 xs)(t:∀ (j:Nat) q ds,qs[j]?=qq q->dss[j]?=qq ds->∃ xs,Sq q.1 K F q.2 xs/\DenL K F ds xs) :
 ∀ (j:Nat) q ds,(q0::qs)[j]?=qq q->(ds0::dss)[j]?=qq ds->∃ xs,Sq q.1 K F q.2 xs/\DenL K F ds xs
 |0,_,_,e1,e2=>by cases e1;cases e2;exact h|j+1,q,ds,e1,e2=>t j q ds e1 e2
def aEB(Z:Zd K F qs dss zs)(s:bY F H):∀ q∈qs,∃ xs,Sq q.1 K H q.2 xs:=λ q m=>(Z.go s (yDw _) q m).imp λ xs a=>a.1
def zd2{q1 q2:Bool×qv}(h1:∃ xs,Sq q1.1 K F q1.2 xs/\DenL K F as xs)(h2:∃ xs,Sq q2.1 K F q2.2 xs/\DenL K F bs xs):Zd K F [q1,q2] [as,bs] (hJ as bs):=
 ⟨rfl,wZ h1 (wZ h2 aJ9),by simp[aAn];omega,by simp[aAn];omega,λ i d e=>by let(a,b,e1,e2,rfl):=aAO as bs i d e;exact⟨_,rfl,by simp[e1,e2]⟩⟩
section
variable {K:FrG}{fa fb fc:FE}(σ:L2.St)(H:Hp)(Rr:It->Hp->Prop)
def qD(fa fb:FE):FL:=λ env S=>(fa env S).bind λ p=>(fb env p.2).bind λ q=>(oA p.1).bind λ ds=>(oA q.1).bind λ es=>qq (hJ ds es,q.2)
theorem aYl(h:kH K (qD fa fb) σ H Rr):zJ K (iN K (eT fa (eT fb jX))) σ H Rr:=by
 let(F,L,S,env,ds,S',R,E,e,q):=h;let((w1,S1),e1,e):=aW e;let((w2,S2),e2,e):=aW e;let(ds1,e3,e):=aW e;let(ds2,e4,e):=aW e;dsimp only at e e2 e3 e4;cases e;refine⟨F,L,S,env,[w1,w2],S',R,E,by unfold eT;simp only[e1,e2,jX,yCp],λ F1 L1 H1 vs g1 R1 d1=>?_⟩;obtain - | ⟨da,- | ⟨db,- | -⟩⟩:=d1
 let(q1,rfl,h1):=qU e3 da;let(q2,rfl,h2):=qU e4 db;have Z:=zd2 h1 h2;exact⟨[q1,q2],rfl,by simp,by simp,aEB Z R1.sub,q F1 L1 H1 _ g1 R1 (aJK Z)⟩
def aBP(fa fb fc:FE):FL:=λ env S=>(fa env S).bind λ p=>(fb env p.2).bind λ q=>(fc env q.2).bind λ r=>(oA p.1).bind λ ds=>(oA q.1).bind λ es=>(oA r.1).bind λ gs=>qq (gH ds es gs,r.2)
theorem aUa(h:kH K (aBP fa fb fc) σ H Rr):zJ K (iN K (eT fa (eT fb (eT fc jX)))) σ H Rr:=by
 let(F,L,S,env,ds,S',R,E,e,q):=h;let((w1,S1),e1,e):=aW e;let((w2,S2),e2,e):=aW e;let((w3,S3),e0,e):=aW e;let(ds1,e3,e):=aW e;let(ds2,e4,e):=aW e;let(ds3,e5,e):=aW e;dsimp only at e e2 e3 e4 e0 e5;cases e;refine⟨F,L,S,env,[w1,w2,w3],S',R,E,by unfold eT;simp only[e1,e2,e0,jX,yCp],λ F1 L1 H1 vs g1 R1 d1=>?_⟩;obtain - | ⟨da,- | ⟨db,- | ⟨dc,- | -⟩⟩⟩:=d1
 let(q1,rfl,h1):=qU e3 da;let(q2,rfl,h2):=qU e4 db;let(q3,rfl,h3):=qU e5 dc;have Z:Zd K F1 [q1,q2,q3] [ds1,ds2,ds3] (gH ds1 ds2 ds3):=⟨rfl,wZ h1 (wZ h2 (wZ h3 aJ9)),aP6 _ _ _,aQA _ _ _,λ i d e=>by let(a,b,c,e1,e2,e3,rfl):=aGX _ _ _ i d e;exact⟨_,rfl,by simp[e1,e2,e3]⟩⟩;exact⟨[q1,q2,q3],rfl,by simp,by simp,aEB Z R1.sub,q F1 L1 H1 _ g1 R1 (aJK Z)⟩
end
section
variable {X:Cx}{elts:List qw}{k:Nat}{pp:Pos}{a b c:qw}{ta:TA}{p pos:Pos}(hg:Gl X "zip")(hm:X.mg "zip"=qz)
include hg hm
theorem aTU(ha:PA X [a,b] ta)(hs:qu [a,b] X.env=(false,eval a X.env)::qu [b] X.env)(hs2:qu [b] X.env=[(false,eval b X.env)]):PI X (.Tuple elts k pp) (.Call (.Name "zip" p) [a,b] [] pos) (zJ X.K ta):=aIB hg hm ha hs (by rw[hs2];rfl)
theorem aSi(ha:PA X [a,b,c] ta)(hs:qu [a,b,c] X.env=(false,eval a X.env)::qu [b,c] X.env)(hs2:qu [b,c] X.env=(false,eval b X.env)::qu [c] X.env)(hs3:qu [c] X.env=[(false,eval c X.env)]):PI X (.Tuple elts k pp) (.Call (.Name "zip" p) [a,b,c] [] pos) (zJ X.K ta):=aIB hg hm ha hs (by rw[hs2,hs3];rfl)
end
def Rel.relay(r:Rel K F L S H)(hF:F p=qz)(hL:p ∉ L):Rel K F L S (bQ H p o):=by
 refine⟨λ b u q=>by rw[bT (eN q hF)];exact r.sub _ _ q,r.nd,r.len,λ n a ds e1 e2=>?_,λ n a e=>?_⟩
 ·let(f,xs,e3,dl):=r.loc n a ds e1 e2;have ne:a≠p:=λ z=>hL (by rw[<- z];exact xAk e1)
  exact⟨f,xs,by rw[bT ne];exact e3,dl⟩
 ·let(xs,hx):=r.tr n a e;have ne:a≠p:=λ z=>hL (by rw[<- z];exact xAk e)
  exact⟨xs,by rw[bT ne];exact hx⟩
def aHe(k:Den K F d v):∀ {ds:List D}{xs:List V},DenL K F ds xs->DenL K F (ds++[d]) (xs++[v])
 |_,_,.nil=>.cons k .nil|_,_,.cons a b=>.cons a (aHe k b)
structure ZW(X:Cx)(aB:List (qv×Obj))(σ:L2.St)(F1:Hp)(L1:List qv)(S1:aE)(SA:qv)(n:Nat)(qs:Zq)(ds:List D)(H F:Hp)(vs:List V)(s:qj):Prop where
 inv:Inv X aB σ H s
 same:bY F1 F
 rel:Rel X.K F L1 S1 H
 free:F SA=qz
 lst:H SA=qq (.lst vs)
 den:DenL X.K F ds vs
 fp:∀ c∈yCt n (↑qs+3),gM X aB H c
def aQb{X:Cx}{F1:Hp}{SA:qv}{qs:Zq}{A:zj}{R:Result->qj->Prop}(hh:A.in1.in1.handled=qz)(h0:0<↑qs)(h3:↑qs<=3)(hq:∀ q∈qs,q.2<n)(Z:Zd X.K F1 qs dss zs)(hL:SA ∉ L1)(cY:↑zs<=1000000)(hR:∀ s' H' F' vs',ZW X aB σ F1 L1 S1 SA n qs zs H' F' vs' s'->R (.ok (.ret res)) s') :
 ∀ (k i:Nat) (s:qj) (H F:Hp) (vs:List V),↑zs-i=k->i<=↑zs->ZW X aB σ F1 L1 S1 SA n qs (zs.take i) H F vs s->ZH n qs i s.heap ->
 vx (model X.prog X.w) A (.builtin "list.extend.loop" ⟨[.ref SA,.ref (n+↑qs+2),res],[]⟩) R s:=by
 intro k
 induction k with
 |zero=>
   intro i s H F vs hk hi hw hz;have hin:i=↑zs:=by omega
   refine codeAny_builtin yHd ?_;rw[Around.under_plainId yDx _];show qk _ A.in1 (yv (.ref (n+↑qs+2)) >>= _) _ _ s;subst hin;rw[yAe] at hw;exact wB (aLm hh h0 h3 hq hw.inv hz hw.fp (Z.stop (hw.same.trans hw.rel.sub)) λ h' tk I'=>wP (hR _ H F vs ⟨I',hw.same,hw.rel,hw.free,hw.lst,hw.den,hw.fp⟩))
 |succ k ih=>
   intro i s H F vs hk hi hw hz;have hlt:i<↑zs:=by omega
   refine codeAny_builtin yHd ?_;rw[Around.under_plainId yDx _];show qk _ A.in1 (yv (.ref (n+↑qs+2)) >>= _) _ _ s;refine wB (aK0 hh h0 h3 hq hw.inv hz (Z.go (hw.same.trans hw.rel.sub) hlt) λ h' tk us ys rv yl hy Z' hT fr _=>?_);have hp:H s.heap.objs.size=qz:=hw.inv.fresh;have hF:F s.heap.objs.size=qz:=hw.rel.sub.free hp;have neS:SA≠s.heap.objs.size:=λ q=>by rw[<- q,hw.lst] at hp;cases hp
   let(os,ol,hO):=Z'.to;let(f,g,hzo,_):=Z'.z;have I2:Inv X aB σ (bQ H s.heap.objs.size (.tup ys)) {s with heap:=h',toks:=tk }:=aGH (s:=s) hw.inv hw.fp (λ c o hb e'=>fr c o (by rw[yHj] at hb;omega) e') (yAd _) ⟨xAh (show ↑ys<=1000000 by omega) vV,us,rv,⟨_,hT,rfl,0,rfl⟩⟩;have hS:bQ H s.heap.objs.size (.tup ys) SA=qq (.lst vs):=by rw[bT neS];exact hw.lst
   let(hv,aH,m,rl,hl,e):=I2.lstM hS;have vl:↑vs=i:=by
    have:=hw.den.length;rw[yBk] at this;omega
   have hs:1000000<=qy:=vV;show qk _ A.in1 (updateSeq SA (·.push (.ref s.heap.objs.size)) >>= _) _ _ _;have ne:∀ c∈yCt n (↑qs+3),c≠SA:=λ c hc q=>by
    have:=(hw.fp c hc).1;rw[q,hw.lst] at this;cases this
   have kp:∀ c o,c≠SA->h'.get? c=qq o->(h'.update SA (Obj.mapSeq (·.push (.ref s.heap.objs.size)))).get? c=qq o:=λ c o hc q=>(yCq _ _ (Ne.symm hc)).trans q
   have kr:∀ c o,n<=c->c<=n+↑qs+2->h'.get? c=qq o->(h'.update SA (Obj.mapSeq (·.push (.ref s.heap.objs.size)))).get? c=qq o:=λ c o a b=>kp c o (ne c (List.mem_range'_1.mpr (!_)))
   refine wB (vq e rfl (wP ⟨plainId_quiet yDx _,ih (i+1) _ (bQ (bQ H s.heap.objs.size (.tup ys)) SA (.lst (vs++[.ref s.heap.objs.size]))) (bQ F s.heap.objs.size (.tup ys)) _ (!_) hlt ⟨?_,hw.same.trans (gC hF),Rel.relay (hw.rel.new hp) (by rw[bT neS];exact hw.free) hL,by rw[bT neS];exact hw.free,eH,?_,λ c hc=>⟨?_,(hw.fp c hc).2⟩⟩ ⟨Z'.t.keep λ c o a b=>kr c o a (!_),⟨os,ol,kr _ _ (!_) (!_) hO⟩,?_⟩⟩) (by simp;omega) (by simp;omega))
   ·exact I2.lset (its':=aH++[.ref s.heap.objs.size]) hS e (by simp) (bG.append rl (.cons (show bM (.ref s.heap.objs.size) (Value.ref s.heap.objs.size) from rfl) .nil)) (by rw[xAn];show ↑vs+1<=_;omega)
   ·rw[yFw hlt];exact aHe (Z.den hw.same hw.rel.sub (yAa hlt) hp yl hy) (hw.den.mono (gC hF))
   ·have c1:c<s.heap.objs.size:=by
     let(os,_,hO):=hz.to;let(_,_,hzo,_):=hz.z;have:=List.mem_range'_1.mp hc;let(o,e,_):=aEV hz.t hO hzo c this.1 (!_);exact xAa e
    rw[bT (ne c hc),bT (xAj c1)];exact(hw.fp c hc).1
   ·let(f,g,hzo,hf):=Z'.z;refine⟨f,g,kr _ _ (!_) (!_) hzo,hf.imp_right λ hfa=>?_⟩;let(a,ea,o,eo):=hfa;refine⟨a,ea,?_⟩;by_cases c1:a=SA
    ·subst c1;exact⟨_,PySem.IsL.update e _⟩
    ·exact⟨o,kp a o c1 eo⟩
def aOm:typeLookup (.type "zip") "__len__" = pure qz:=by rw[typeLookup_type,builtinLookup_eq_fast];kernel_rfl
def aNO:typeLookup (.type "zip") "__length_hint__" = pure qz:=by rw[typeLookup_type,builtinLookup_eq_fast];kernel_rfl
def aOc{s:qj}{R:Result -> qj -> Prop}{TI TO:qv}{f0:qx}(S:qv)(res:qx)(c₀:Nat)(hz:IsZip s.heap z TI TO f0)(hSz:S≠z)(hS:s.heap.get? S=qq {cls:=.type "list",data:=.seq #[] c₀ })(hR:∀ h' c,(∀ b o,b≠S->s.heap.get? b=qq o->h'.get? b=qq o)->h'.get? S=qq {cls:=.type "list",data:=.seq #[] c }->vx (model prog w) A (.builtin "list.extend.loop" ⟨[.ref S,.ref z,res],[]⟩) R {s with heap:=h' }) :
 qk (model prog w) A.in1 (yDo (.ref S) (.ref z) res)
  (λ cH s'=>match cH with|.done f=>R (.ok f) s'|.again c'=>c'.quiet=true/\vx (model prog w) A c' R s') (λ e s'=>R (.error e) s') s:=by
 have hT:s.TypeIs (.ref z) "zip":=⟨_,hz,rfl⟩;unfold yDo;refine wB (wpAny_typeOf hT ?_);have h1:yHk (.ref S) (.ref z)=false:=by simp[yHk,hSz]
 have h2:(Value.type "zip" == Value.type "list")=false:=by decide
 have h3:(Value.type "zip" == Value.type "tuple")=false:=by decide
 simp only[h1,h2,h3,yEk,yAx,if_false];refine wB (yx hz ?_);refine wB (zy ?_);unfold Builtin.List.listLengthHint;refine wB (yy hT aOm ?_);show qk _ A.in1 (specialOf (Value.ref z) (Str.ofString "__length_hint__") >>= _) _ _ _;refine wB (yy hT aNO ?_);refine wP ?_;show qk _ A.in1 (rule "list.extend.makes-room" >>= λ _=>Builtin.List.listTouch (.ref S) >>= λ _=>
  again (.builtin "list.extend.loop" ⟨[.ref S,.ref z,res],[]⟩)) _ _ _
 refine wB (ww ?_);refine wB ?_;show qk _ A.in1 (updateSeq S (·.push .none) >>= λ _=>updateSeq S (·.pop)) _ _ _;refine wB (vq hS rfl ?_);have hS₂:=yCx (Obj.mapSeq (·.push Value.none)) hS rfl;refine vq (hz:=by seq_fits) hS₂ rfl ?_;have hS₃:=yCx (Obj.mapSeq (·.pop)) hS₂ rfl;have oth:∀ b o,b≠S->s.heap.get? b=qq o->((s.heap.update S (Obj.mapSeq (·.push Value.none))).update S (Obj.mapSeq (·.pop))).get? b=qq o:=
  λ b o hb e=>(yCq _ _ (Ne.symm hb)).trans ((yCq _ _ (Ne.symm hb)).trans e)
 exact wP ⟨plainId_quiet yDx _,hR _ _ oth hS₃⟩
def aQu{s:qj}{R:Result -> qj -> Prop}{TI TO:qv}{f0:qx}(S:qv)(hz:IsZip s.heap z TI TO f0)(hSz:S≠z)(hS:s.heap.get? S=qq {cls:=.type "list",data:=.seq #[] })(hR:∀ h' c,(∀ b o,b≠S->s.heap.get? b=qq o->h'.get? b=qq o)->h'.get? S=qq {cls:=.type "list",data:=.seq #[] c }->vx (model prog w) A (.builtin "list.extend.loop" ⟨[.ref S,.ref z,.none],[]⟩) R {s with heap:=h' }) :
 qk (model prog w) A.in1 (Builtin.«list.__init__» ⟨[.ref S,.ref z],[]⟩)
  (λ cH s'=>match cH with|.done f=>R (.ok f) s'|.again c'=>c'.quiet=true/\vx (model prog w) A c' R s') (λ e s'=>R (.error e) s') s:=by
 show qk _ A.in1 (yHv (.ref S) >>= λ old=>Builtin.List.listUpdate (.ref S) (λ _=>#[]) >>= λ _=>letGo old.toList.reverse >>= λ _=>yDo (.ref S) (.ref z) .none) _ _ s;refine wB ?_;unfold yHv;refine wB (jw hS rfl (wP ?_));show qk _ A.in1 (updateSeq S (λ _=>#[]) >>= λ _=>letGo (#[]:Array qx).toList.reverse >>= λ _=>yDo (.ref S) (.ref z) .none) _ _ s;have hS2:=yCx (Obj.mapSeq (λ _=>(#[]:Array qx))) hS rfl;have oth:∀ b o,b≠S->s.heap.get? b=qq o->(s.heap.update S (Obj.mapSeq (λ _=>(#[]:Array qx)))).get? b=qq o:=λ b o hb e=>(yCq _ _ (Ne.symm hb)).trans e
 refine wB (vq hS rfl (wB (wpAny_letGo ?_)));exact aOc S .none _ (oth _ _ (Ne.symm hSz) hz) hSz hS2 λ h' c hk hS'=>hR h' c (λ b o hb e=>hk b o hb (oth b o hb e)) hS'
def aNz{A:zj}{E:qx -> qj -> Prop}{s:qj}{TI TO:qv}{f0:qx}{Q:qx->qj->Prop}(hz:IsZip s.heap z TI TO f0)(hQ:∀ h' c (R:Result->qj->Prop),(∀ b o,s.heap.get? b=qq o->h'.get? b=qq o)->h'.get? s.heap.objs.size=qq {cls:=.type "list",data:=.seq #[] c }->(∀ s',Q (.ref s.heap.objs.size) s'->R (.ok (.ret .none)) s')->vx (model prog w) A.in1 (.builtin "list.extend.loop" ⟨[.ref s.heap.objs.size,.ref z,.none],[]⟩) R {s with heap:=h' }) :
 qk (model prog w) A (call (.type "list") [.ref z]) Q E s:=by
 have hSz:s.heap.objs.size≠z:=yGd (xAa hz);have hS:(s.heap.push {cls:=.type "list",data:=.seq #[] }).get? s.heap.objs.size=qq {cls:=.type "list",data:=.seq #[] }:=xAd _ rfl;refine callType_codes (Q₁:=λ ob s1=>ob=.ref s.heap.objs.size/\s1={s with heap:=s.heap.push {cls:=.type "list",data:=.seq #[] } }) PySem.F.called_list (PySem.F.typeCall_list_1 _) PySem.F.entry_list_init (code_list_new _ ⟨rfl,rfl⟩) λ ob s1 h1=>?_
 let(rfl,rfl):=h1;refine⟨⟨_,hS,rfl⟩,PySem.F.args_list_init_2 _ _,aQu _ (hpS _ hz) hSz hS λ h' c hk hS'=>?_⟩;exact hQ h' c _ (λ b o e=>hk b o (xAj (xAa e)) (hpS _ e)) hS' λ s' q=>⟨rfl,q⟩
def uB(fa fb:FE):FL:=aL9 (qD fa fb)
def aTF{fa fb:FE}(ha:PE X a (bH X.K fa))(hb:PE X b (bH X.K fb))(hc:X.calm=true)(hg:Gl X "list")(hm:X.mg "list" = qz)(hg2:Gl X "zip")(hm2:X.mg "zip" = qz)(hs:qu [a,b] X.env=(false,eval a X.env)::qu [b] X.env)(hs2:qu [b] X.env=[(false,eval b X.env)]):PE X (.Call (.Name "list" p) [.Call (.Name "zip" p2) [a,b] [] pos2] [] pos) (jJ X.K (uB fa fb)):=by
 rintro aB s σ H Q I ⟨F,L,S,env,ds,S',R,E,e,q⟩;let((ds',S1'),e0,e):=aW e;let((w1,S1),e1,e2):=aW e0;let((w2,S2),e3,e4):=aW e2;let(ds1,e5,e6):=aW e4;let(ds2,e7,e8):=aW e6;dsimp only at e e3 e5 e7;cases e8;split at e
 ·rename_i cY;cases e;refine xy (pH I hg hm (show xz "list" = qq (.type "list") by decide +kernel) ?_);refine yBv ?_ rfl rfl;show qk _ _ (spliced ((false,eval (.Call (.Name "zip" p2) [a,b] [] pos2) X.env)::[])) _ _ s;refine Calls.spliced_cons ?_;refine xy (pH I hg2 hm2 boot_zip ?_);refine yBv ?_ hs (by rw[hs2];rfl)
  refine bO (nI ha (nI hb aEO hs2) hs pos2 aB s σ H (λ vs H1=>∃ v v2 F1 L1,vs=[v,v2]/\Gr F L F1 L1/\Rel X.K F1 L1 S2 H1/\fG X.K F1 L1 w1 v/\fG X.K F1 L1 w2 v2) I ⟨F,L,S,env,[w1,w2],_,R,E,by unfold eT;rw[e1];dsimp only[yDk];rw[e3];rfl,λ F1 L1 H1 vs g1 R1 d1=>by
   obtain - | ⟨da,- | ⟨db,- | -⟩⟩:=d1
   exact⟨_,_,F1,L1,rfl,g1,R1,da,db⟩⟩) λ us s1 hq=>?_
  let(vs,H1,I1,r1,v,v2,F1,L1,ev,g1,R1,d1,d2):=hq;subst ev;let(q1,rfl,h1):=qU e5 d1;let(q2,rfl,h2):=qU e7 d2;have Z:=zd2 h1 h2;refine aLT (qs:=[q1,q2]) I1 r1 (by simp) (by simp) (aEB Z R1.sub) λ h' I2 hl ZH0 hz sz fp=>?_
  refine Calls.spliced_nil (aNz hz λ h2 c R2 hk2 hS hR2=>?_);dsimp only at hk2 hS hR2 ⊢;have fr:H1 h'.objs.size=qz:=I2.hok.fresh (yAd _);have I3:Inv X aB σ (bQ H1 h'.objs.size (.lst [])) {s1 with heap:=h2 }:=I2.laid (t':=s1.toks) hk2 (yAd _) ⟨yDw _,[],c,.nil,hS⟩;have nS:h'.objs.size ∉ L1:=R1.notin fr;let(os,ol,hO):=ZH0.to;refine @aQb _ _ _ L1 aB σ S2 _ X F1 _ _ X.A.in1 _ (show X.A.in1.in1.in1.handled=qz from I.ok.hd hc) (by simp) (by simp) hl Z nS cY (λ s' H' F' vs' hw=>hR2 s' ?_) _ 0 _ (bQ H1 h'.objs.size (.lst [])) F1 [] rfl (yDw _)
   ⟨I3,bY.refl _,R1.lay fr,R1.sub.free fr,eH,.nil,λ b hb=>⟨by rw[bT (na (by have:=List.mem_range'_1.mp hb;rw[sz];exact xAj this.2))];exact(fp b hb).1,(fp b hb).2⟩⟩ ⟨ZH0.t.keep λ c o _ _ e=>hk2 _ _ e,⟨os,ol,hk2 _ _ hO⟩,_,_,hk2 _ _ hz,.inl ⟨rfl,rfl⟩⟩
  exact⟨.ref h'.objs.size,H',hw.inv,rfl,q F' L1 H' _ vs' (g1.trans ⟨hw.same,[],by simp⟩) hw.rel hw.free nS hw.lst hw.den⟩
 ·cases e
open PySem.Builtin PySem.Builtin.Str
def mS(fa:FE)(fl fh:FO):FE:=λ env S=>(fa env S).bind λ p=>(fl env p.2).bind λ q=>(fh env q.2).bind λ r=>(dr r.2 p.1).bind λ d=>match d with|.list xs=>qq (.d (.list (fA xs q.1 r.1)),r.2)|.tuple xs=>qq (.d (.tuple (fA xs q.1 r.1)),r.2)|_=>qz
def fH(fa:FE):FL:=λ env S=>(fa env S).bind λ p=>match p.1 with|.d (.list ds)=>qq (ds,p.2)|.d (.tuple ds)=>qq (ds,p.2)|_=>qz
def aY5{lo hi:Option qw}{fa:FE}{fl fh:FO}(ha:PE X a (bH X.K fa))(hl:PO X lo (mL X.K fl))(hh:PO X hi (mL X.K fh)):PE X (.Subscript a (.Slice lo hi qz p2) pos) (bH X.K (mS fa fl fh)):=by
 rintro aB s σ H Q I ⟨F,L,S,env,w,S',R,E,e,q⟩;let((w1,S1),e1,e):=aW e;let((l,S2),e2,e):=aW e;let((h,S3),e3,e):=aW e;let(d,e4,e):=aW e;dsimp only at e e2 e3 e4;cases d with
 |list xs=>
   cases e;refine aMX (aVP ha hl hh) aB s σ H Q I ⟨F,L,S,env,_,_,R,E,?_,q⟩;unfold kG aMr;rw[e1];dsimp only[yDk];rw[e2];dsimp only;rw[e3];dsimp only;rw[e4];rfl
 |tuple xs=>
   cases e;refine aT9 ha hl hh aB s σ H Q I ⟨F,L,S,env,_,_,R,E,?_,q⟩;unfold aKZ;rw[e1];dsimp only[yDk];rw[e2];dsimp only;rw[e3];dsimp only;rw[e4];dsimp only[aMs]
 |_=>cases e
def aY3{fa:FE}(ha:PE X a (bH X.K fa)):PI X tg a (kH X.K (fH fa)):=by
 rintro aB s σ H Rr I ⟨F,L,S,env,ds,S',R,E,e,q⟩;let((w1,S1),e1,e):=aW e;dsimp only at e;split at e
 ·rename_i ds';cases e;refine aXY ha aB s σ H Rr I ⟨F,L,S,env,_,_,R,E,?_,q⟩;unfold aMY;rw[e1];rfl
 ·cases e;refine aYg ha aB s σ H Rr I ⟨F,L,S,env,_,_,R,E,?_,q⟩;unfold aMl;rw[e1];rfl
 ·cases e
inductive Ty where
 |int|bool|str|lst|tup
 deriving DecidableEq
def Ty.s:Ty->String
 |.int => "int" |.bool => "bool" |.str => "str" |.lst => "list" |.tup => "tuple"
def Ty.n:Ty->Str
 |.int => "int" |.bool => "bool" |.str => "str" |.lst => "list" |.tup => "tuple"
def kB:Ty->D->Option D
 |_,.dict _=>qz|.int,.int _=>qq (.bool true)|.int,.bool _=>qq (.bool true)|.bool,.bool _=>qq (.bool true)|.str,.str _=>qq (.bool true)|.lst,.list _=>qq (.bool true)|.tup,.tuple _=>qq (.bool true)|_,_=>qq (.bool false)
def aXm{i:Int}:kB .int (.int i)=qq (.bool true):=rfl
def aX9{i:Int}:kB .bool (.int i)=qq (.bool false):=rfl
def aV8{xs:List D}:kB .tup (.tuple xs)=qq (.bool true):=rfl
def aWh:kB .bool (.bool b)=qq (.bool true):=rfl
def aWv:kB .int (.bool b)=qq (.bool true):=rfl
def aTw(K:FrG)(h:kB ty d=qq z):zF K ty.s d=qq z:=by cases ty<;>cases d<;>first|(cases h;done)|(cases h;rfl)
inductive B where
 |len|mx|mn|int|tup|sum|all|any
 deriving DecidableEq
def B.g:B->List D->Option D
 |.len=>eX|.mx=>nY|.mn=>nW|.int=>zC|.tup=>xL|.sum=>aCb|.all=>aB5|.any=>aB6
def B.n:B->Str
 |.len => "len" |.mx => "max" |.mn => "min" |.int => "int" |.tup => "tuple" |.sum => "sum" |.all => "all" |.any => "any"
inductive E where
 |var (i:Nat)|int (i:Int)|bl (b:Bool)|non|str (x:Str)
 |bin (op:jj) (a b:E)|un (op:wz) (a:E)|cmp (op:jk) (a b:E)|ltl (a b:E)
 |and (a b:E)|or (a b:E)|not (a:E)|ite (c a b:E)
 |tup (es:E)|lst (es:E)|nil|cons (a r:E)
 |chn (op op':jk) (a b c:E)|con (x:Str) (ts:List Tv)
 |ix (a b:E)|dsp (k l m:Str) (a b c i:E)|tab (x:Str) (bL:List (Str×Tv)) (k:E)|slL (a lo hi:E)|sl (a lo hi:E)|no
 |call (f:Nat) (es:E)|blt (b:B) (es:E)|isi (a:E) (n:Ty)|bits (a:E)|app (o a:E)|pop (o a:E)|idx (o a:E)
 |lof (a:E)|lzip (a b:E)|lrg1 (a:E)|lrg2 (a b:E)|srt (a:E)|lrev (a:E)|lrep (a b:E)|comp (elt:E) (t:Tg) (it:E) (cond:E)
 |it (a:E)|rng1 (a:E)|rng2 (a b:E)|rng3 (a b c:E)|rrng (a:E)|enm (a:E)|zip (a b:E)|zip3 (a b c:E)
 |fz (a:E)|new (a:E)
 |aH (a:E)|ins (n:Bool) (a b:E)|mT (a:E)|itx (a:E)|spl (a b:E)|jn (a b:E)|intb (x:Str) (bL:List (Str×Tv)) (k:E)|gst (x y:Str)
 |sls (a lo hi:E)|srep (a b:E)|ls3 (x:Str) (a b o:E) (y z:Str) (es:E)
abbrev Calls:=Nat->Option (Nat×(List W->aE->Option (W×aE)))
def lY(C:Calls)(f:Nat)(fs:FA):FE:=λ env S=>match C f with|some (np,call)=>aBE fs np call env S|none=>qz
section
variable (C:Calls)
mutual
noncomputable def ev:E->FE
 |.var i=>jI i|.int i=>fC (.int i)|.bl b=>fC (.bool b)|.non=>fC .none|.str x=>fC (.str x)|.bin op a b=>sG op (ev a) (ev b)|.un op a=>zS op (ev a)|.cmp op a b=>oD op (ev a) (ev b)|.and a b=>xW (ev a) (ev b)|.or a b=>yM (ev a) (ev b)|.not a=>yF (ev a)|.ite c a b=>zD (tv c) (ev a) (ev b)|.tup es=>yZ (av es)|.ix a b=>oQ (ev a) (ev b)|.tab _ bL k=>f1 (ev k) (gS (aB3 bL))|.con _ ts=>fC (.tuple (ts.map Tv.d))|.sl a lo hi=>mS (ev a) (ov lo) (ov hi)|.call f es=>lY C f (av es)|.blt b es=>sH (av es) b.g|.isi a n=>f1 (ev a) (gS (kB n))|.bits a=>aEP (ev a)|.app o a=>gK (ev o) (ev a)|.fz a=>kG (lv a)|.new a=>gI (lv a)|_=>λ _ _=>qz
noncomputable def tv:E->FT
 |.and a b=>yR (tv a) (tv b)|.or a b=>zZ (tv a) (tv b)|.not a=>zH (tv a)|.var i=>dP (jI i)|.cmp op a b=>dP (oD op (ev a) (ev b))|.ix a b=>dP (oQ (ev a) (ev b))|.call f es=>dP (lY C f (av es))|.blt b es=>dP (sH (av es) b.g)|.isi a n=>dP (f1 (ev a) (gS (kB n)))|.bin op a b=>dP (sG op (ev a) (ev b))|.bl b=>dP (fC (.bool b))|.no=>oC|_=>λ _ _=>qz
noncomputable def av:E->FA
 |.nil=>jX|.cons a r=>eT (ev a) (av r)|_=>λ _ _=>qz
noncomputable def ov:E->FO
 |.no=>zM|.cons a .nil=>nP (ev a)|_=>λ _ _=>qz
noncomputable def lv:E->FL
 |.lst es=>yN (av es)|.lzip a b=>uB (ev a) (ev b)|.lrep a b=>yY (ev a) (ev b)|.comp elt t it cond=>iG t (lv it) (tv cond) (ev elt)|.it a=>fH (ev a)|.rng1 a=>yG (ev a)|.rng3 a b c=>aBB (ev a) (ev b) (ev c)|.zip a b=>qD (ev a) (ev b)|.zip3 a b c=>aBP (ev a) (ev b) (ev c)|_=>λ _ _=>qz
end
inductive Sx where
 |skip|seq (a b:Sx)|expr (e:E)|ret (e:E)|nev
 |ifs (c:E) (a b:Sx)|set (i:Nat) (e:E)|setC (nw:Bool) (i:Nat) (e:E)|setT (t:Tg) (e:E)|put (o i e:E)
 |loop (t:Tg) (it:E) (b:Sx)
def xs:Sx->FS
 |.skip=>rP|.nev=>λ _ _=>qz|.seq a b=>dN (xs a) (xs b)|.expr e=>xS (ev C e)|.ret e=>qE (ev C e)|.ifs c a b=>oH (tv C c) (xs a) (xs b)|.set i e=>jH i (ev C e)
 |.setC nw i e=>jH i (match nw with|true=>gI (lv C e)|false=>kG (lv C e))
 |.setT t e=>pU t (ev C e)|.put o i e=>mM (ev C o) (ev C i) (ev C e)|.loop t it b=>gZ t (lv C it) (xs b)
theorem aBy{i}:ev C (.var i)=jI i:=rfl
theorem aTX{i}:ev C (.int i)=fC (.int i):=rfl
theorem aV9{b}:ev C (.bl b)=fC (.bool b):=rfl
theorem aUe:ev C .non=fC .none:=rfl
theorem aTs{x}:ev C (.str x)=fC (.str x):=rfl
theorem aKO{op a b}:ev C (.bin op a b)=sG op (ev C a) (ev C b):=rfl
theorem aK9{op a}:ev C (.un op a)=zS op (ev C a):=rfl
theorem aD2{op a b}:ev C (.cmp op a b)=oD op (ev C a) (ev C b):=rfl
theorem aKV{a b}:ev C (.and a b)=xW (ev C a) (ev C b):=rfl
theorem aLR{a b}:ev C (.or a b)=yM (ev C a) (ev C b):=rfl
theorem aJS{a}:ev C (.not a)=yF (ev C a):=rfl
theorem aKt{c a b}:ev C (.ite c a b)=zD (tv C c) (ev C a) (ev C b):=rfl
theorem aJV{es}:ev C (.tup es)=yZ (av C es):=rfl
theorem aBL{a b}:ev C (.ix a b)=oQ (ev C a) (ev C b):=rfl
theorem aUD{n0 bL k}:ev C (.tab n0 bL k)=f1 (ev C k) (gS (aB3 bL)):=rfl
theorem aUl{n0 ts}:ev C (.con n0 ts)=fC (.tuple (ts.map Tv.d)):=rfl
theorem aEN{a lo hi}:ev C (.sl a lo hi)=mS (ev C a) (ov C lo) (ov C hi):=rfl
theorem aJI{f es}:ev C (.call f es)=lY C f (av C es):=rfl
theorem aKX{b es}:ev C (.blt b es)=sH (av C es) b.g:=rfl
theorem aKR{a n}:ev C (.isi a n)=f1 (ev C a) (gS (kB n)):=rfl
theorem aRf{a}:ev C (.bits a)=aEP (ev C a):=rfl
theorem aKv{o a}:ev C (.app o a)=gK (ev C o) (ev C a):=rfl
theorem aK7{a}:ev C (.fz a)=kG (lv C a):=rfl
theorem aEa{a}:ev C (.new a)=gI (lv C a):=rfl
theorem aKs{a b}:tv C (.and a b)=yR (tv C a) (tv C b):=rfl
theorem aLV{a b}:tv C (.or a b)=zZ (tv C a) (tv C b):=rfl
theorem aKz{a}:tv C (.not a)=zH (tv C a):=rfl
theorem aUZ{i}:tv C (.var i)=dP (jI i):=rfl
theorem aJ6{op a b}:tv C (.cmp op a b)=dP (oD op (ev C a) (ev C b)):=rfl
theorem aWI{a b}:tv C (.ix a b)=dP (oQ (ev C a) (ev C b)):=rfl
theorem aQL{f es}:tv C (.call f es)=dP (lY C f (av C es)):=rfl
theorem aTg{b es}:tv C (.blt b es)=dP (sH (av C es) b.g):=rfl
theorem aUw{a n}:tv C (.isi a n)=dP (f1 (ev C a) (gS (kB n))):=rfl
theorem aUP{op a b}:tv C (.bin op a b)=dP (sG op (ev C a) (ev C b)):=rfl
theorem aX0{b}:tv C (.bl b)=dP (fC (.bool b)):=rfl
theorem aXs:tv C .no=oC:=rfl
theorem aUC:av C .nil=jX:=rfl
theorem aIm{a r}:av C (.cons a r)=eT (ev C a) (av C r):=rfl
theorem aX5:ov C .no=zM:=rfl
theorem aIJ{a}:ov C (.cons a .nil)=nP (ev C a):=rfl
theorem aKo{es}:lv C (.lst es)=yN (av C es):=rfl
theorem aR8{a b}:lv C (.lzip a b)=uB (ev C a) (ev C b):=rfl
theorem tN{a b c}:lv C (.rng3 a b c)=aBB (ev C a) (ev C b) (ev C c):=rfl
theorem aI6{a b}:lv C (.lrep a b)=yY (ev C a) (ev C b):=rfl
theorem aQS{elt t it cond}:lv C (.comp elt t it cond)=iG t (lv C it) (tv C cond) (ev C elt):=rfl
theorem uA{a}:lv C (.it a)=fH (ev C a):=rfl
theorem rA{a}:lv C (.rng1 a)=yG (ev C a):=rfl
theorem tV{a b}:lv C (.zip a b)=qD (ev C a) (ev C b):=rfl
theorem tI{a b c}:lv C (.zip3 a b c)=aBP (ev C a) (ev C b) (ev C c):=rfl
theorem aDQ:xs C .skip=rP:=rfl
theorem jQ{a b}:xs C (.seq a b)=dN (xs C a) (xs C b):=rfl
theorem aJe{e}:xs C (.expr e)=xS (ev C e):=rfl
theorem aD7{e}:xs C (.ret e)=qE (ev C e):=rfl
theorem tT{c a b}:xs C (.ifs c a b)=oH (tv C c) (xs C a) (xs C b):=rfl
theorem aBg{i e}:xs C (.set i e)=jH i (ev C e):=rfl
theorem aDP{nw i e}:xs C (.setC nw i e)=jH i (match nw with|true=>gI (lv C e)|false=>kG (lv C e)):=rfl
theorem aRz{t e}:xs C (.setT t e)=pU t (ev C e):=rfl
theorem aJR{o i e}:xs C (.put o i e)=mM (ev C o) (ev C i) (ev C e):=rfl
theorem aAX{t it b}:xs C (.loop t it b)=gZ t (lv C it) (xs C b):=rfl
end
def no{P:Prop}(h:false=true):P:=by cases h
def iJ(h:(a&&b)=true):a=true/\b=true:=by
 cases a with
 |false=>exact no h|true=>exact⟨rfl,h⟩
def aL(h:(a&&b)=true):a=true:=(iJ h).1
def aR(h:(a&&b)=true):b=true:=(iJ h).2
def fQ{f:c->Bool}(h:(@dite _ c d f λ _=>false)=true):c:=by
 cases d with
 |isTrue k=>exact k|isFalse _=>exact no h
def jN(k:Str->Pos->Bool)(x:qw):Bool:=if h:x.ctorIdx=23 then @Expr.Name.elim (λ _=>Bool) x h k else false
def oF{P:qw->Prop}{k:Str->Pos->Bool}(h:jN k x=true)(g:∀ a b,k a b=true->P (.Name a b)):P x:=@Expr.Name.elim (λ e=>jN k e=true->P e) x (fQ h) g h
def kCo(k:Const->Nat->Pos->Bool)(x:qw):Bool:=if h:x.ctorIdx=19 then @Expr.Constant.elim (λ _=>Bool) x h k else false
def aYQ{P:qw->Prop}{k:Const->Nat->Pos->Bool}(h:kCo k x=true)(g:∀ a b c,k a b c=true->P (.Constant a b c)):P x:=@Expr.Constant.elim (λ e=>kCo k e=true->P e) x (fQ h) g h
def zQ(k:qw->jj->qw->Pos->Bool)(x:qw):Bool:=if h:x.ctorIdx=2 then @Expr.BinOp.elim (λ _=>Bool) x h k else false
def aMa{P:qw->Prop}{k:qw->jj->qw->Pos->Bool}(h:zQ k x=true)(g:∀ a b c d,k a b c d=true->P (.BinOp a b c d)):P x:=@Expr.BinOp.elim (λ e=>zQ k e=true->P e) x (fQ h) g h
def zY(k:wz->qw->Pos->Bool)(x:qw):Bool:=if h:x.ctorIdx=3 then @Expr.UnaryOp.elim (λ _=>Bool) x h k else false
def aEZ{P:qw->Prop}{k:wz->qw->Pos->Bool}(h:zY k x=true)(g:∀ a b c,k a b c=true->P (.UnaryOp a b c)):P x:=@Expr.UnaryOp.elim (λ e=>zY k e=true->P e) x (fQ h) g h
def kCm(k:qw->List jk->List qw->Pos->Bool)(x:qw):Bool:=if h:x.ctorIdx=15 then @Expr.Compare.elim (λ _=>Bool) x h k else false
def aZh{P:qw->Prop}{k:qw->List jk->List qw->Pos->Bool}(h:kCm k x=true)(g:∀ a b c d,k a b c d=true->P (.Compare a b c d)):P x:=@Expr.Compare.elim (λ e=>kCm k e=true->P e) x (fQ h) g h
def kBo(k:BoolOp->List qw->Pos->Bool)(x:qw):Bool:=if h:x.ctorIdx=0 then @Expr.BoolOp.elim (λ _=>Bool) x h k else false
def aZL{P:qw->Prop}{k:BoolOp->List qw->Pos->Bool}(h:kBo k x=true)(g:∀ a b c,k a b c=true->P (.BoolOp a b c)):P x:=@Expr.BoolOp.elim (λ e=>kBo k e=true->P e) x (fQ h) g h
def kIe(k:qw->qw->qw->Pos->Bool)(x:qw):Bool:=if h:x.ctorIdx=5 then @Expr.IfExp.elim (λ _=>Bool) x h k else false
def aZp{P:qw->Prop}{k:qw->qw->qw->Pos->Bool}(h:kIe k x=true)(g:∀ a b c d,k a b c d=true->P (.IfExp a b c d)):P x:=@Expr.IfExp.elim (λ e=>kIe k e=true->P e) x (fQ h) g h
def zO(k:List qw->Nat->Pos->Bool)(x:qw):Bool:=if h:x.ctorIdx=25 then @Expr.Tuple.elim (λ _=>Bool) x h k else false
def yH{P:qw->Prop}{k:List qw->Nat->Pos->Bool}(h:zO k x=true)(g:∀ a b c,k a b c=true->P (.Tuple a b c)):P x:=@Expr.Tuple.elim (λ e=>zO k e=true->P e) x (fQ h) g h
def kLi(k:List qw->Pos->Bool)(x:qw):Bool:=if h:x.ctorIdx=24 then @Expr.List.elim (λ _=>Bool) x h k else false
def aZt{P:qw->Prop}{k:List qw->Pos->Bool}(h:kLi k x=true)(g:∀ a b,k a b=true->P (.List a b)):P x:=@Expr.List.elim (λ e=>kLi k e=true->P e) x (fQ h) g h
def kSu(k:qw->qw->Pos->Bool)(x:qw):Bool:=if h:x.ctorIdx=21 then @Expr.Subscript.elim (λ _=>Bool) x h k else false
def aMV{P:qw->Prop}{k:qw->qw->Pos->Bool}(h:kSu k x=true)(g:∀ a b c,k a b c=true->P (.Subscript a b c)):P x:=@Expr.Subscript.elim (λ e=>kSu k e=true->P e) x (fQ h) g h
def kSl(k:Option qw->Option qw->Option qw->Pos->Bool)(x:qw):Bool:=if h:x.ctorIdx=26 then @Expr.Slice.elim (λ _=>Bool) x h k else false
def aYJ{P:qw->Prop}{k:Option qw->Option qw->Option qw->Pos->Bool}(h:kSl k x=true)(g:∀ a b c d,k a b c d=true->P (.Slice a b c d)):P x:=@Expr.Slice.elim (λ e=>kSl k e=true->P e) x (fQ h) g h
def kCa(k:qw->List qw->List Keyword->Pos->Bool)(x:qw):Bool:=if h:x.ctorIdx=16 then @Expr.Call.elim (λ _=>Bool) x h k else false
def aMz{P:qw->Prop}{k:qw->List qw->List Keyword->Pos->Bool}(h:kCa k x=true)(g:∀ a b c d,k a b c d=true->P (.Call a b c d)):P x:=@Expr.Call.elim (λ e=>kCa k e=true->P e) x (fQ h) g h
def kAt(k:qw->Str->Pos->Bool)(x:qw):Bool:=if h:x.ctorIdx=20 then @Expr.Attribute.elim (λ _=>Bool) x h k else false
def aYP{P:qw->Prop}{k:qw->Str->Pos->Bool}(h:kAt k x=true)(g:∀ a b c,k a b c=true->P (.Attribute a b c)):P x:=@Expr.Attribute.elim (λ e=>kAt k e=true->P e) x (fQ h) g h
def kLc(k:qw->List Comprehension->zv->Pos->Bool)(x:qw):Bool:=if h:x.ctorIdx=8 then @Expr.ListComp.elim (λ _=>Bool) x h k else false
def aZw{P:qw->Prop}{k:qw->List Comprehension->zv->Pos->Bool}(h:kLc k x=true)(g:∀ a b c d,k a b c d=true->P (.ListComp a b c d)):P x:=@Expr.ListComp.elim (λ e=>kLc k e=true->P e) x (fQ h) g h
def kEx(k:qw->Pos->Bool)(x:xj):Bool:=if h:x.ctorIdx=24 then @Stmt.Expr.elim (λ _=>Bool) x h k else false
def aZe{P:xj->Prop}{k:qw->Pos->Bool}(h:kEx k x=true)(g:∀ a b,k a b=true->P (.Expr a b)):P x:=@Stmt.Expr.elim (λ e=>kEx k e=true->P e) x (fQ h) g h
def kRe(k:Option qw->Pos->Bool)(x:xj):Bool:=if h:x.ctorIdx=3 then @Stmt.Return.elim (λ _=>Bool) x h k else false
def aZT{P:xj->Prop}{k:Option qw->Pos->Bool}(h:kRe k x=true)(g:∀ a b,k a b=true->P (.Return a b)):P x:=@Stmt.Return.elim (λ e=>kRe k e=true->P e) x (fQ h) g h
def kSf(k:qw->List xj->List xj->Pos->Bool)(x:xj):Bool:=if h:x.ctorIdx=12 then @Stmt.If.elim (λ _=>Bool) x h k else false
def aYB{P:xj->Prop}{k:qw->List xj->List xj->Pos->Bool}(h:kSf k x=true)(g:∀ a b c d,k a b c d=true->P (.If a b c d)):P x:=@Stmt.If.elim (λ e=>kSf k e=true->P e) x (fQ h) g h
def uW(k:List qw->qw->Pos->Bool)(x:xj):Bool:=if h:x.ctorIdx=5 then @Stmt.Assign.elim (λ _=>Bool) x h k else false
def aCe{P:xj->Prop}{k:List qw->qw->Pos->Bool}(h:uW k x=true)(g:∀ a b c,k a b c=true->P (.Assign a b c)):P x:=@Stmt.Assign.elim (λ e=>uW k e=true->P e) x (fQ h) g h
def kFo(k:qw->qw->List xj->List xj->Pos->Bool)(x:xj):Bool:=if h:x.ctorIdx=9 then @Stmt.For.elim (λ _=>Bool) x h k else false
def aZv{P:xj->Prop}{k:qw->qw->List xj->List xj->Pos->Bool}(h:kFo k x=true)(g:∀ a b c d e,k a b c d e=true->P (.For a b c d e)):P x:=@Stmt.For.elim (λ e=>kFo k e=true->P e) x (fQ h) g h
def kY{α:Type}(k:α->Bool)(l:List α):Bool:=match l with|[a]=>k a|_=>false
def mE{α:Type}{P:List α->Prop}{k:α->Bool}:∀ {l:List α},kY k l=true->(∀ a,k a=true->P [a])->P l
 |[],h,_=>no h|[a],h,g=>g a h|_::_::_,h,_=>no h
def aFl{α:Type}(k:α->α->Bool)(l:List α):Bool:=match l with|a::r=>kY (k a) r|[]=>false
def aLI{α:Type}{P:List α->Prop}{k:α->α->Bool}:∀ {l:List α},aFl k l=true->(∀ a b,k a b=true->P [a,b])->P l
 |[],h,_=>no h|a::_,h,g=>mE (P:=λ r=>P (a::r)) h (g a)
def aMI{α:Type}(k:α->α->α->Bool)(l:List α):Bool:=match l with|a::r=>aFl (k a) r|[]=>false
def aW4{α:Type}{P:List α->Prop}{k:α->α->α->Bool}:∀ {l:List α},aMI k l=true->(∀ a b c,k a b c=true->P [a,b,c])->P l
 |[],h,_=>no h|a::_,h,g=>aLI (P:=λ r=>P (a::r)) h (g a)
def pX{α:Type}{P:List α->Prop}:∀ {l:List α},l.isEmpty=true->P []->P l
 |[],_,g=>g|_::_,h,_=>no h
def aE8{α:Type}(o:Option α):Bool:=match o with|none=>true|some _=>false
def aLu{α:Type}{P:Option α->Prop}:∀ {o:Option α},aE8 o=true->P qz->P o
 |none,_,g=>g|some _,h,_=>no h
def aLe{α:Type}{P:Option α->Prop}{k:α->Bool}:∀ {o:Option α},o.any k=true->(∀ a,k a=true->P (qq a))->P o
 |none,h,_=>no h|some a,h,g=>g a h
def dT{p:Prop}{d:Decidable p}(h:decide p=true):p:=oqT h
def sP(sc:zv)(x:Str):Bool:=match sc.names.lookup x with
 |some .local=>true|some .cell=>true|some .free=>true|_=>false
def loc(sc:zv)(x:Str):Bool:=match sc.names.lookup x with
 |some .local=>true|some .cell=>true|_=>false
def aLS(e:E):Bool:=decide (e.ctorIdx=E.nil.ctorIdx)
def aZy{P:E->Prop}(h:aLS e=true)(g:P .nil):P e:=@E.nil.elim P e (dT h) g
def lo(sc:zv)(x:Str):Bool:=decide (sc.names.lookup x=qq .local)
def gl(sc:zv)(x:Str):Bool:=decide (sc.names.lookup x=qq .globalImplicit)
def cZ(e:qw):Bool:=![7,22,26].contains e.ctorIdx
def mP(e:qw):Bool:=![0,3,5,15].contains e.ctorIdx
def aBv(e:qw):Bool:=![16].contains e.ctorIdx
def tP(e:qw):Bool:=![8,9,10].contains e.ctorIdx
def yD(e:qw):Bool:=zO (λ _ _ _=>true) e
def tD:List qw->Bool
 |[]=>true|e::r=>cZ e&&tD r
def sF(scope osc:zv):zv:={scope with names:=scope.names.map λ(n,k)=>if (k==.free&&osc.kind==.function&&osc.names.lookup n==qq .cell) then (n,.cell) else (n,k) }
def aET(scope osc:zv):Bool:=decide (scope.kind=.function)&&scope.names.all λ x=>(!decide (x.2=.cell))&&(!decide (x.2=.free)||decide (osc.names.lookup x.1=qq .cell)||decide (osc.names.lookup x.1=qq .free))&&(!decide (x.2=.local)||decide (scope.names.lookup x.1=qq .local))
def aB0(N:List Str)(scope:zv)(is:List Nat):Nat->Bool
 |0=>true
 | n+1=>aB0 N scope is n&&(match N[n]? with
   |some x=>!decide (scope.names.lookup x=qq .local)||is.contains n
   | none=>true)
def aEs(b:Bool)(N:List Str)(sc:zv)(i:Nat)(x:Str):Bool:=decide (N[i]?=qq x)&&(match b with
 |true=>decide (sc.names.lookup x=qq .local)
 | false=>loc sc x)
def aDD(b:Bool)(N:List Str)(sc:zv):List Nat->List qw->Bool
 |[],es=>es.isEmpty
 | i::is,es=>(match es with
   |e::r=>jN (λ x _=>aEs b N sc i x&&aDD b N sc is r) e
   | []=>false)
def yU(b:Bool)(N:List Str)(sc:zv)(t:Tg)(e:qw):Bool:=match t with|.one i=>jN (λ x _=>aEs b N sc i x) e|.many is=>zO (λ es _ _=>aDD b N sc is es) e
def aIx(e:E):Bool:=decide (e.ctorIdx=(E.comp .no (.one 0) .no .no).ctorIdx)
def aZo{P:E->Prop}(h:aIx e=true)(g:∀ a t b c,P (.comp a t b c)):P e:=@E.comp.elim P e (dT h) g
def aFd(e:E):Bool:=decide (e.ctorIdx=E.no.ctorIdx)
def aMQ{P:E->Prop}(h:aFd e=true)(g:P .no):P e:=@E.no.elim P e (dT h) g
def uL(c:Const)(e:qw):Bool:=kCo (λ d _ _=>decide (d=c)) e
def aBI{P:qw->Prop}(h:uL c x=true)(g:∀ k p,P (.Constant c k p)):P x:=
 aYQ h λ _ k p z=>(dT z)▸g k p
def aFb(k:qw->jk->qw->Bool)(e:qw):Bool:=kCm (λ x os ys _=>kY (λ o=>kY (λ y=>k x o y&&cZ y) ys) os) e
def aLw{P:qw->Prop}{k:qw->jk->qw->Bool}(h:aFb k x=true)(g:∀ a o b p,k a o b=true->cZ b=true->P (.Compare a [o] [b] p)):P x:=
 aZh h λ a os _ p z=>mE (P:=λ os=>P (.Compare a os _ p)) z λ o z=>mE (P:=λ ys=>P (.Compare a [o] ys p)) z λ b z=>g a o b p (aL z) (aR z)
def xZ(op:BoolOp)(k:qw->qw->Bool)(e:qw):Bool:=kBo (λ o es p=>decide (o=op)&&(match es with
 |[x,y]=>k x y|x::y::z::r=>k x (.BoolOp op (y::z::r) p)
 | _=>false)) e
def aBi{P:qw->Prop}{k:qw->qw->Bool}(h:xZ op k x=true)(g:∀ a b p,k a b=true->P (.BoolOp op [a,b] p))(f:∀ a b c r p,k a (.BoolOp op (b::c::r) p)=true->P (.BoolOp op (a::b::c::r) p)):P x:=
 aZL h λ o es p z=>by
  obtain rfl:=dT (aL z)
  match es,aR z with
  |[a,b],z=>exact g a b p z|a::b::c::r,z=>exact f a b c r p z|[],z=>exact no z|[_],z=>exact no z
def zU(k:qw->qw->Bool)(e:qw):Bool:=kSu (λ x y _=>k x y&&cZ y) e
def aE4{P:qw->Prop}{k:qw->qw->Bool}(h:zU k x=true)(g:∀ a b p,k a b=true->cZ b=true->P (.Subscript a b p)):P x:=aMV h λ a b p z=>g a b p (aL z) (aR z)
def aMW(k:qw->Option qw->Option qw->Bool)(e:qw):Bool:=kSu (λ x s _=>kSl (λ l h t _=>aE8 t&&k x l h) s) e
def aWz{P:qw->Prop}{k:qw->Option qw->Option qw->Bool}(h:aMW k x=true)(g:∀ a l u p q,k a l u=true->P (.Subscript a (.Slice l u qz p) q)):P x:=
 aMV h λ a _ q z=>aYJ (P:=λ s=>P (.Subscript a s q)) z λ l u _ p z=>aLu (P:=λ t=>P (.Subscript a (.Slice l u t p) q)) (aL z) (g a l u p q (aR z))
def pY(k:Str->List qw->Bool)(e:qw):Bool:=kCa (λ f xs ks _=>jN (λ n _=>ks.isEmpty&&k n xs) f) e
def xK{P:qw->Prop}{k:Str->List qw->Bool}(h:pY k x=true)(g:∀ n p xs q,k n xs=true->P (.Call (.Name n p) xs [] q)):P x:=
 aMz h λ _ xs ks q z=>oF (P:=λ f=>P (.Call f xs ks q)) z λ n p z=>pX (P:=λ ks=>P (.Call (.Name n p) xs ks q)) (aL z) (g n p xs q (aR z))
def kB1(nm:Str)(sc:zv)(k:qw->Bool)(e:qw):Bool:=pY (λ n xs=>decide (n=nm)&&gl sc n&&kY (λ y=>k y&&cZ y) xs) e
def aMH{P:qw->Prop}{k:qw->Bool}(h:kB1 nm sc k x=true)(g:∀ p y q,gl sc nm=true->k y=true->cZ y=true->P (.Call (.Name nm p) [y] [] q)):P x:=
 xK h λ n p xs q z=>by
  obtain rfl:=dT (aL (aL z));exact mE (P:=λ xs=>P (.Call (.Name n p) xs [] q)) (aR z) λ y u=>g p y q (aR (aL z)) (aL u) (aR u)
def zV(nm:Str)(sc:zv)(k l:qw->Bool)(e:qw):Bool:=pY (λ n xs=>decide (n=nm)&&gl sc n&&aFl (λ y z=>(k y&&cZ y)&&(l z&&cZ z)) xs) e
def aE0{P:qw->Prop}{k l:qw->Bool}(h:zV nm sc k l x=true)(g:∀ p y z q,gl sc nm=true->k y=true->cZ y=true->l z=true->cZ z=true->P (.Call (.Name nm p) [y,z] [] q)):P x:=
 xK h λ n p xs q z=>by
  obtain rfl:=dT (aL (aL z));exact aLI (P:=λ xs=>P (.Call (.Name n p) xs [] q)) (aR z) λ y w u=>g p y w q (aR (aL z)) (aL (aL u)) (aR (aL u)) (aL (aR u)) (aR (aR u))
def kB3(nm:Str)(sc:zv)(k l m:qw->Bool)(e:qw):Bool:=pY (λ n xs=>decide (n=nm)&&gl sc n&&aMI (λ y z w=>(k y&&cZ y)&&((l z&&cZ z)&&(m w&&cZ w))) xs) e
def aMw{P:qw->Prop}{k l m:qw->Bool}(h:kB3 nm sc k l m x=true)(g:∀ p y z w q,gl sc nm=true->k y=true->cZ y=true->l z=true->cZ z=true->m w=true->cZ w=true->P (.Call (.Name nm p) [y,z,w] [] q)):P x:=
 xK h λ n p xs q z=>by
  obtain rfl:=dT (aL (aL z));exact aW4 (P:=λ xs=>P (.Call (.Name n p) xs [] q)) (aR z) λ y w v u=>g p y w v q (aR (aL z)) (aL (aL u)) (aR (aL u)) (aL (aL (aR u))) (aR (aL (aR u))) (aL (aR (aR u))) (aR (aR (aR u)))
def kMe(nm:Str)(k:qw->List qw->Bool)(e:qw):Bool:=kCa (λ f xs ks cp=>kAt (λ o m ap=>ks.isEmpty&&(ap.endLine==cp.line)&&decide (m=nm)&&aBv o&&k o xs) f) e
def aMb{P:qw->Prop}{k:qw->List qw->Bool}(h:kMe nm k x=true)(g:∀ o ap xs cp,(ap.endLine==cp.line)=true->aBv o=true->k o xs=true->P (.Call (.Attribute o nm ap) xs [] cp)):P x:=
 aMz h λ _ xs ks cp z=>aYP (P:=λ f=>P (.Call f xs ks cp)) z λ o m ap z=>by
  obtain rfl:=dT (aR (aL (aL z)));exact pX (P:=λ ks=>P (.Call (.Attribute o m ap) xs ks cp)) (aL (aL (aL (aL z)))) (g o ap xs cp (aR (aL (aL (aL z)))) (aR (aL z)) (aR z))
def aMe(nm:Str)(k l:qw->Bool)(e:qw):Bool:=kMe nm (λ o xs=>k o&&kY (λ y=>l y&&cZ y) xs) e
def aXi{P:qw->Prop}{k l:qw->Bool}(h:aMe nm k l x=true)(g:∀ o ap y cp,(ap.endLine==cp.line)=true->aBv o=true->k o=true->l y=true->cZ y=true->P (.Call (.Attribute o nm ap) [y] [] cp)):P x:=
 aMb h λ o ap xs cp h1 h2 z=>mE (P:=λ xs=>P (.Call (.Attribute o nm ap) xs [] cp)) (aR z) λ y u=>g o ap y cp h1 h2 (aL z) (aL u) (aR u)
def aLk(k:qw->qw->qw->List qw->zv->Bool)(e:qw):Bool:=kLc (λ el gs sc _=>kY (λ g=>decide (g.is_async=0)&&k el g.target g.iter g.ifs sc) gs) e
def aTd{P:qw->Prop}{k:qw->qw->qw->List qw->zv->Bool}(h:aLk k x=true)(g:∀ e tg it ifs sc p,k e tg it ifs sc=true->P (.ListComp e [⟨tg,it,ifs,0⟩] sc p)):P x:=
 aZw h λ e _ sc p z=>mE (P:=λ gs=>P (.ListComp e gs sc p)) z λ bD z=>by
  let(tg,it,ifs,as):=bD;obtain rfl:as=0:=dT (aL z);exact g e tg it ifs sc p (aR z)
def aMv(N:List Str)(t:Tg)(cond:E)(sc:zv)(fI:qw->qw->Bool)(fT fE:zv->qw->Bool)(x:qw):Bool:=aLk (λ e tg iter ifs scope=>aET scope sc&&aB0 N scope t.slots N.length&&yU true N (sF scope sc) t tg&&fI tg iter&&cZ iter &&
 (match ifs with | []=>aFd cond | y::r=>r.isEmpty&&fT (sF scope sc) y)&&fE (sF scope sc) e) x
def aMK{P:qw->Prop}{cond:E}{fI:qw->qw->Bool}{fT fE:zv->qw->Bool}(h:aMv N t cond sc fI fT fE x=true)(g:∀ e tg iter ifs scope p,aET scope sc=true->aB0 N scope t.slots N.length=true->yU true N (sF scope sc) t tg=true->fI tg iter=true->cZ iter=true->(match ifs with|[]=>aFd cond|y::r=>r.isEmpty&&fT (sF scope sc) y)=true->fE (sF scope sc) e=true->P (.ListComp e [⟨tg,iter,ifs,0⟩] scope p)):P x:=
 aTd h λ e tg iter ifs scope p h=>g e tg iter ifs scope p (aL (aL (aL (aL (aL (aL h)))))) (aR (aL (aL (aL (aL (aL h)))))) (aR (aL (aL (aL (aL h))))) (aR (aL (aL (aL h)))) (aR (aL (aL h))) (aR (aL h)) (aR h)
structure Tx where
 fn:List (Str×Nat)
 tb:List (Str×List (Str×Tv))
 cn:List (Str×List Tv)
 st:List (Str×Str)
section
variable (T:Tx)(N:List Str)
mutual
noncomputable def bR:E->zv->qw->Bool
 |.var i,sc,x=>jN (λ x _=>decide (N[i]?=qq x)&&sP sc x && !(x==("__debug__" : Str)) && !(x==("__classdict__" : Str))) x|.int i,_,x=>uL (.int i) x|.bl i,_,x=>uL (.bool i) x|.non,_,x=>uL .none x|.str i,_,x=>uL (.str i) x|.bin op a b,sc,x=>zQ (λ x op' y _=>decide (op'=op)&&bR a sc x&&bR b sc y) x|.un op a,sc,x=>zY (λ op' x _=>decide (op'=op) && !decide (op=.Not)&&bR a sc x) x|.cmp op a b,sc,x=>aFb (λ x op' y=>decide (op'=op)&&bR a sc x&&bR b sc y) x|.and a b,sc,x=>xZ .And (λ x y=>bR a sc x&&bR b sc y) x|.or a b,sc,x=>xZ .Or (λ x y=>bR a sc x&&bR b sc y) x|.not a,sc,x=>zY (λ o x _=>decide (o=.Not)&&bR a sc x) x|.ite c a b,sc,x=>kIe (λ x y z _=>mY c sc x&&bR a sc y&&bR b sc z) x|.tup es,sc,x=>zO (λ xs _ _=>oJ es sc xs) x|.ix a b,sc,x=>zU (λ x y=>bR a sc x&&bR b sc y) x|.con n ts,sc,x=>jN (λ x _=>decide (x=n)&&T.cn.contains (n,ts)&&gl sc x && !(x==("__debug__" : Str))) x|.tab n bL k,sc,x=>zU (λ x y=>bR k sc y&&jN (λ x _=>decide (x=n)&&T.tb.contains (n,bL)&&gl sc x && !(x==("__debug__" : Str))) x) x|.sl a lo hi,sc,x=>aMW (λ x l h=>bR a sc x&&okO lo sc l&&okO hi sc h) x|.call f es,sc,x=>pY (λ x xs=>decide ((T.fn[f]?).map (·.1)=qq x)&&gl sc x && !(x==("__debug__" : Str))&&oJ es sc xs&&tD xs) x|.blt b es,sc,x=>pY (λ x ys=>!ys.isEmpty&&decide (x=b.n)&&gl sc x&&oJ es sc ys&&tD ys) x|.isi a n,sc,x=>zV "isinstance" sc (λ y=>bR a sc y) (λ z=>jN (λ z _=>decide (z=n.n)&&gl sc z) z) x|.bits a,sc,x=>kMe "bit_length" (λ x ys=>bR a sc x&&ys.isEmpty) x|.app o a,sc,x=>aMe "append" (λ x=>bR o sc x) (λ y=>bR a sc y) x|.fz a,sc,e=>zT a sc e|.new a,sc,e=>zT a sc e|_,_,_=>false
noncomputable def mY:E->zv->qw->Bool
 |.and a b,sc,x=>xZ .And (λ x y=>mY a sc x&&mY b sc y) x|.or a b,sc,x=>xZ .Or (λ x y=>mY a sc x&&mY b sc y) x|.not a,sc,x=>zY (λ o x _=>decide (o=.Not)&&mY a sc x) x|.cmp op a b,sc,x=>aFb (λ x op' y=>decide (op'=op)&&bR a sc x&&bR b sc y) x|.var i,sc,x=>jN (λ x _=>decide (N[i]?=qq x)&&sP sc x && !(x==("__debug__" : Str)) && !(x==("__classdict__" : Str))) x&&mP x|.bl i,_,x=>uL (.bool i) x&&mP x|.bin op a b,sc,x=>zQ (λ x op' y _=>decide (op'=op)&&bR a sc x&&bR b sc y) x&&mP x|.ix a b,sc,x=>zU (λ x y=>bR a sc x&&bR b sc y) x&&mP x|.call f es,sc,x=>pY (λ x xs=>decide ((T.fn[f]?).map (·.1)=qq x)&&gl sc x && !(x==("__debug__" : Str))&&oJ es sc xs&&tD xs) x&&mP x|.blt b es,sc,x=>pY (λ x ys=>!ys.isEmpty&&decide (x=b.n)&&gl sc x&&oJ es sc ys&&tD ys) x&&mP x|.isi a n,sc,x=>zV "isinstance" sc (λ y=>bR a sc y) (λ z=>jN (λ z _=>decide (z=n.n)&&gl sc z) z) x&&mP x|_,_,_=>false
noncomputable def oJ:E->zv->List qw->Bool
 |.nil,_,xs=>xs.isEmpty
 | .cons a r,sc,xs=>(match xs with
   |x::xs=>bR a sc x&&cZ x&&oJ r sc xs
   | []=>false)
 |_,_,_=>false
noncomputable def okO:E->zv->Option qw->Bool
 |.no,_,x=>aE8 x|.cons a r,sc,x=>aLS r&&x.any λ x=>bR a sc x|_,_,_=>false
noncomputable def zT:E->zv->qw->Bool
 |.lst es,sc,x=>kLi (λ xs _=>oJ es sc xs) x|.lzip a b,sc,x=>kB1 "list" sc (λ y=>zV "zip" sc (λ z=>bR a sc z) (λ w=>bR b sc w) y) x|.lrep a b,sc,x=>zQ (λ x o y _=>decide (o=.Mult)&&bR a sc x&&bR b sc y) x|.comp elt t it cond,sc,x=>aMv N t cond sc (λ g y=>okI it sc g y) (λ s y=>mY cond s y) (λ s y=>bR elt s y) x|_,_,_=>false
noncomputable def okI:E->zv->qw->qw->Bool
 |.it a,sc,_,x=>bR a sc x|.rng1 a,sc,_,x=>kB1 "range" sc (λ y=>bR a sc y) x|.rng3 a b c,sc,_,x=>kB3 "range" sc (λ y=>bR a sc y) (λ z=>bR b sc z) (λ w=>bR c sc w) x|.zip a b,sc,tg,x=>yD tg&&zV "zip" sc (λ y=>bR a sc y) (λ z=>bR b sc z) x|.zip3 a b c,sc,tg,x=>yD tg&&kB3 "zip" sc (λ y=>bR a sc y) (λ z=>bR b sc z) (λ w=>bR c sc w) x|_,_,_,_=>false
end
mutual
noncomputable def okS:Sx->zv->xj->Bool
 |.nev,_,_=>true|.expr e,sc,st=>kEx (λ x _=>bR T N e sc x&&tP x) st|.ret e,sc,st=>kRe (λ v _=>v.any λ x=>bR T N e sc x) st|.ifs c a b,sc,st=>kSf (λ x y z _=>mY T N c sc x&&pZ a sc y&&pZ b sc z) st|.set i e,sc,st=>uW (λ ts y _=>bR T N e sc y&&tP y&&kY (λ t=>jN (λ x _=>decide (N[i]?=qq x)&&loc sc x) t) ts) st|.setC _ i e,sc,st=>uW (λ ts y _=>aIx e&&zT T N e sc y&&kY (λ t=>jN (λ x _=>decide (N[i]?=qq x)&&loc sc x) t) ts) st|.setT t e,sc,st=>uW (λ ts y _=>bR T N e sc y&&tP y && !yD y&&kY (λ tg=>yD tg&&yU false N sc t tg) ts) st|.put o i e,sc,st=>uW (λ ts z _=>bR T N e sc z&&tP z&&kY (λ t=>zU (λ x y=>bR T N o sc x&&bR T N i sc y) t) ts) st|.loop t it b,sc,st=>kFo (λ tg x y z _=>z.isEmpty&&yU false N sc t tg&&okI T N it sc tg x&&cZ x&&pZ b sc y) st|_,_,_=>false
noncomputable def pZ:Sx->zv->List xj->Bool
 |.skip,_,l=>l.isEmpty
 | .seq a b,sc,l=>(match l with
   |st::r=>okS a sc st&&pZ b sc r
   | []=>false)
 |_,_,_=>false
end
end
def bltNames:List Str:=["len","max","min","int","abs","tuple","sum","all","any","isinstance","list","range","enumerate","bool","str","reversed","zip","sorted"]
structure Ctx(T:Tx)(C:Calls)(X:Cx):Prop where
 nd:X.N.Nodup
 calm:X.calm=true
 xe:X.xe=λ _ _=>False
 kind:X.env.scope.kind=.function
 room:∃ k,Room k X.A/\∀ f np call x,C f=qq (np,call)->(T.fn[f]?).map (·.1)=qq x->∃ fa fd ps,X.mg x=qq (.ref fa)/\yDg X.K (.ref fa)=true/\nO X.K fd ps []/\FnOk X.prog X.w X.K X.mg X.base uV k fa fd ps (uT X.K np call)
 blt:∀ x∈bltNames,X.mg x=qz
 tbs:∀ x bL,(x,bL)∈T.tb->∃ a,X.mg x=qq (.ref a)/\xY X.K X.w a bL
 cns:∀ x ts,(x,ts)∈T.cn->∃ a,X.mg x=qq (.ref a)/\uE X.K a ts
 sts:∀ x y,(x,y)∈T.st->∃ t,X.mg x=qq (.str y t)
variable {C:Calls}
def Ctx.units(h:Ctx T C X):X.A.units+64<cLine:=let ⟨_,r,_⟩:=h.room;r.units
def Ctx.own(h:Ctx T C X):PassesOwn (model X.prog X.w) X.A X.env X.xe:=by rw[h.xe];exact PassesOwn.never
def Ctx.comp{scope:zv}(h:Ctx T C X)(hk:scope.kind=.function)(hy:kU X scope Y):Ctx T C Y/\Y.env.scope=sF scope X.env.scope/\Y.N=X.N/\Y.K=X.K:=by let(aB,fp,Ca,s₀,H₀,rfl):=hy;exact⟨⟨h.nd,h.calm,rfl,hk,h.room,h.blt,h.tbs,h.cns,h.sts⟩,rfl,rfl,rfl⟩
def iD(h:cZ e=true)(es:List qw)(env:Env):qu (e::es) env=(false,eval e env)::qu es env:=by cases e<;>first|rfl|exact no h
def aDw:∀ {es:List qw} (h:tD es=true) (env:Env) (pos:Pos),(backTo pos (qu es env)).any (·.1)=false
 |[],_,_,_=>rfl
 |e::es,h,env,pos=>by
   let(h1,h2):=iJ h;rw[iD h1];show(false||(backTo pos (qu es env)).any (·.1))=false;rw[aDw h2 env pos];rfl
def aLJ(h:cZ e=true):aA3 e:=by intro o i;cases e<;>first|rfl|exact no h
def aHA(h:cZ e=true)(op:jk):jx op e=false:=by cases e<;>first|rfl|exact no h
def aDc(h:cZ e=true)(env:Env)(x:qx):xk e env x=pure x:=by cases e<;>first|rfl|exact no h
def wV(h:aBv e=true)(m:Str)(env:Env):attributeBase e m env (eval e env)=eval e env:=by cases e<;>first|rfl|exact no h
def aDl(h:tP e=true)(t:Option qw)(line:Nat)(env:Env):swapsWith e t line env=pure false:=by cases e<;>first|rfl|exact no h
def aTm(h:mP e=true)(env:Env)(fR:Sem qx):isTrue e env fR=(do let v <- fR;standAt e.pos;holding [v] (truthy v)):=by cases e<;>first|rfl|exact no h
def aPq(h:cZ i=true)(v:qx):assign (.Subscript o i pos) env v=(do
 let ov <- holding [v] (eval o env);let iv <- holding [v,ov] (eval i env)
 standAt pos
 holding [v,ov,iv] (setItem ov iv v)
 release [v,ov,iv] []):=by cases i<;>first|rfl|exact no h
def aUX(h:sP X.env.scope x=true):zP X.env.scope x:=by unfold sP at h;unfold zP;split at h<;>first|exact .inl (by assumption)|exact .inr (.inl (by assumption))|exact .inr (.inr (by assumption))|exact no h
def aEr(h:loc X.env.scope x=true):L2.Loc X.env.scope x:=by unfold loc at h;unfold L2.Loc;split at h<;>first|exact .inl (by assumption)|exact .inr (by assumption)|exact no h
def jV(h:gl X.env.scope x=true):Gl X x:=(oqT h:X.env.scope.names.lookup x=qq .globalImplicit)
def vZ{x y:Str}(h:(!(x==y))=true):(x==y)=false:=by
 cases e:x==y with
 |false=>rfl|true=>rw[e] at h;exact no h
def aEc(b:Bool)(X:Cx):Prop:=b=true\/∀ x,X.fn x=true
def aJi(st:aEc b X)(h:aEs b X.N X.env.scope i x=true):X.N[i]?=qq x/\L2.Loc X.env.scope x/\(X.fn x=true\/X.env.scope.names.lookup x=qq .local):=by
 let(h1,h2):=iJ h;cases b with
 |true=>
   have h3:=oqT h2;exact⟨oqT h1,.inl h3,.inr h3⟩
 |false=>
   refine⟨oqT h1,aEr h2,?_⟩;rcases st with z|z
   ·cases z
   ·exact .inl (z x)
def yL:List Nat->jO
 |[]=>aE1|i::is=>aEA (pW i) (yL is)
def vC(K:FrG):Tg->TG
 |.one i=>pW i|.many is=>aFe K ↑is (yL is)
def aKA(K:FrG):∀ is:List Nat,zK K is (yL is)
 |[]=>aSw|_::is=>aP1 (aKA K is)
def aBF(K:FrG)(t:Tg):GA K t (vC K t):=by
 cases t with
 |one i=>exact aTn i|many is=>exact aQ4 (aKA K is)
section
variable {X:Cx}
def aIf{b:Bool}(st:aEc b X)(nd:X.N.Nodup):∀ {is:List Nat}{es:List qw},aDD b X.N X.env.scope is es=true->sM X es (yL is)/\(zk es X.env).length=↑is/\(zk es X.env).findIdx? (·.1)=qz
 |[],[],_=>⟨aSf,rfl,rfl⟩|[],_::_,h=>no h|_::_,[],h=>no h
 |i::is,e::r,h=>oF (P:=λ e=>sM X (e::r) (yL (i::is))/\(zk (e::r) X.env).length=(i::is).length/\(zk (e::r) X.env).findIdx? (·.1)=qz) h λ x p h=>by
   let(a1,a2,a3):=aJi st (aL h);let(pg,hl2,hf):=aIf st nd (aR h);refine⟨aQg (aDU nd a1 a2 a3) pg rfl,?_,?_⟩
   ·show((false,assign (.Name x p) X.env)::zk r X.env).length=_;rw[yBg,yBg,hl2]
   ·show((false,assign (.Name x p) X.env)::zk r X.env).findIdx? (·.1)=qz;rw[List.findIdx?_cons,hf];rfl
end
def aBz(st:aEc b X)(nd:X.N.Nodup)(hc:X.calm=true)(h:yU b X.N X.env.scope t tg=true):PG X tg (vC X.K t):=by
 cases t with
 |one i=>exact oF (P:=λ e=>PG X e (pW i)) h λ x p h=>let ⟨a1,a2,a3⟩:=aJi st h;aDU nd a1 a2 a3|many is=>exact yH (P:=λ e=>PG X e (vC X.K (.many is))) h λ es k p h=>let ⟨pg,hl2,hf⟩:=aIf st nd h;aVz hc pg hl2 hf
section
variable (T:Tx)(C:Calls)
def SE(c:E):Prop:=∀ X,Ctx T C X->∀ x,bR T X.N c X.env.scope x=true->PE X x (bH X.K (ev C c))
def ST(c:E):Prop:=∀ X,Ctx T C X->∀ x,mY T X.N c X.env.scope x=true->PT X x (fW X.K (tv C c))/\∀ op es p,x=.BoolOp op es p->PW X x (fW X.K (tv C c))
def SA(c:E):Prop:=∀ X,Ctx T C X->∀ x,oJ T X.N c X.env.scope x=true->PA X x (iN X.K (av C c))
def SO(c:E):Prop:=∀ X,Ctx T C X->∀ x,okO T X.N c X.env.scope x=true->PO X x (mL X.K (ov C c))
def SL(c:E):Prop:=∀ X,Ctx T C X->∀ x,zT T X.N c X.env.scope x=true->PE X x (jJ X.K (lv C c))
def SI(c:E):Prop:=∀ X,Ctx T C X->∀ tg x,okI T X.N c X.env.scope tg x=true->PI X tg x (kH X.K (lv C c))
end
def aRd{f:FE}(h:∀ env S,f env S=qz):PE X x (bH X.K f):=λ aB s σ H Q I bD=>by
 let(F,L,S,env,w,S',R,E,e,q):=bD;rw[h] at e;cases e
def aWJ{f:FE}(h:PE X x (bH X.K f))(ht:mP x=true):PT X x (fW X.K (dP f))/\∀ op es p,x=.BoolOp op es p->PW X x (fW X.K (dP f)):=
 ⟨aXq h λ fR=>aTm ht X.env fR,λ op es p e=>by subst e;exact no ht⟩
def aJN(i:Nat):SE T C (.var i):=λ X hX x hx=>oF (P:=λ x=>PE X x _) hx λ y p h=>aW0 (dT (aL (aL (aL h)))) (aUX (aR (aL (aL h)))) (vZ (aR (aL h))) (vZ (aR h))
def aUs(i:Int):SE T C (.int i):=λ X hX x h=>aBI (P:=λ x=>PE X x _) h λ k p=>aWj
def aKY(i:Bool):SE T C (.bl i):=λ X hX x h=>aBI (P:=λ x=>PE X x _) h λ k p=>aZF
def aTa:SE T C .non:=λ X hX x h=>aBI (P:=λ x=>PE X x _) h λ k p=>aYd
def aVc(i:Str):SE T C (.str i):=λ X hX x h=>aBI (P:=λ x=>PE X x _) h λ k p=>aX2
def aKC(ha:SE T C a)(hb:SE T C b):SE T C (.bin op a b):=λ X hX x hx=>aMa (P:=λ x=>PE X x _) hx λ l o r p h=>by
 obtain rfl:=dT (aL (aL h));exact aYz (ha X hX _ (aR (aL h))) (hb X hX _ (aR h))
def aXv(ha:SE T C a):SE T C (.un op a):=λ X hX x hx=>aEZ (P:=λ x=>PE X x _) hx λ o r p h=>by
 obtain rfl:=dT (aL (aL h));exact aZQ (ha X hX _ (aR h))
def aTk(ha:SE T C a)(hb:SE T C b):SE T C (.cmp op a b):=λ X hX x hx=>aLw (P:=λ x=>PE X x _) hx λ l o r p h h4=>by
 obtain rfl:=dT (aL (aL h));exact aXa hX.units (ha X hX _ (aR (aL h))) (hb X hX _ (aR h)) (aHA h4 o)
def aLC{t:TT}(h:PT X x t)(n:x.ctorIdx≠0):PT X x t/\∀ op es p,x=.BoolOp op es p->PW X x t:=
 ⟨h,λ op es p e=>absurd (congrArg Expr.ctorIdx e) n⟩
def aT0(ha:SE T C a)(hb:SE T C b):ST T C (.cmp op a b):=λ X hX x hx=>aLw (P:=λ x=>PT X x _/\∀ op es p,x=.BoolOp op es p->PW X x _) hx λ l o r p h h4=>by
 obtain rfl:=dT (aL (aL h));exact aLC (aSU hX.units (ha X hX _ (aR (aL h))) (hb X hX _ (aR h)) (aHA h4 o)) (Nat.succ_ne_zero 14)
def aUY:SE T C (.con n ts):=λ X hX x hx=>oF (P:=λ x=>PE X x _) hx λ y p h=>by
 obtain rfl:=dT (aL (aL (aL h)));exact aVX (jV (aR (aL h))) (vZ (aR h)) (hX.cns _ _ (List.contains_iff_mem.mp (aR (aL (aL h)))))
def aUN(ha:SE T C a)(hb:SE T C b):SE T C (.and a b):=λ X hX x hx=>aBi (P:=λ x=>PE X x _) hx
 (λ l r p h=>PE.weak (aKn (ha X hX _ (aL h)) (aKS (hb X hX _ (aR h)))) aKI) λ l b c r p h=>PE.weak (aKn (ha X hX _ (aL h)) (hb X hX _ (aR h))) aKI
def aYs(ha:SE T C a)(hb:SE T C b):SE T C (.or a b):=λ X hX x hx=>aBi (P:=λ x=>PE X x _) hx
 (λ l r p h=>PE.weak (aLf (ha X hX _ (aL h)) (aKS (hb X hX _ (aR h)))) aK2) λ l b c r p h=>PE.weak (aLf (ha X hX _ (aL h)) (hb X hX _ (aR h))) aK2
def aKU{t:TT}(k:PW X x t):PT X x t/\∀ op es p,x=.BoolOp op es p->PW X x t:=⟨k.pt,λ _ _ _ _=>k⟩
def aS5(ha:ST T C a)(hb:ST T C b):ST T C (.and a b):=λ X hX x hx=>aKU (aBi (P:=λ x=>PW X x _) hx
 (λ l r p h=>PW.weak (aJ4 (ha X hX _ (aL h)).1 (aRE (hb X hX _ (aR h)).1)) aLM) λ l b c r p h=>PW.weak (aJ4 (ha X hX _ (aL h)).1 ((hb X hX _ (aR h)).2 _ _ _ rfl)) aLM)
def aYh(ha:ST T C a)(hb:ST T C b):ST T C (.or a b):=λ X hX x hx=>aKU (aBi (P:=λ x=>PW X x _) hx
 (λ l r p h=>PW.weak (aLL (ha X hX _ (aL h)).1 (aTj (hb X hX _ (aR h)).1)) aMN) λ l b c r p h=>PW.weak (aLL (ha X hX _ (aL h)).1 ((hb X hX _ (aR h)).2 _ _ _ rfl)) aMN)
def aUq(ha:SE T C a):SE T C (.not a):=λ X hX x hx=>aEZ (P:=λ x=>PE X x _) hx λ o y p h=>by
 obtain rfl:=dT (aL h);exact aUu (ha X hX _ (aR h))
def aTH(ha:ST T C a):ST T C (.not a):=λ X hX x hx=>aEZ (P:=λ x=>PT X x _/\∀ op es p,x=.BoolOp op es p->PW X x _) hx λ o y p h=>by
 obtain rfl:=dT (aL h);exact aLC (aXz (ha X hX _ (aR h)).1) (Nat.succ_ne_zero 2)
def aUM(hc:ST T C c)(ha:SE T C a)(hb:SE T C b):SE T C (.ite c a b):=λ X hX x hx=>aZp (P:=λ x=>PE X x _) hx λ x y z p h=>aV5 (hc X hX _ (aL (aL h))).1 (ha X hX _ (aR (aL h))) (hb X hX _ (aR h))
def aSY(ha:SA T C a):SE T C (.tup a):=λ X hX x hx=>yH (P:=λ x=>PE X x _) hx λ xs k p h=>aWm (ha X hX _ h)
def aUK(ha:SA T C a):SL T C (.lst a):=λ X hX x hx=>aZt (P:=λ x=>PE X x _) hx λ xs p h=>aWw (ha X hX _ h)
def aUA:SA T C .nil:=λ X hX x h=>pX (P:=λ x=>PA X x _) h aEO
def aSe(ha:SE T C a)(hr:SA T C r):SA T C (.cons a r):=λ X hX x h=>by
 cases x with
 |nil=>exact no h|cons y ys=>exact nI (ha X hX _ (aL (aL h))) (hr X hX _ (aR h)) (iD (aR (aL h)) _ _)
def aXb:SO T C .no:=λ X hX x h=>aLu (P:=λ x=>PO X x _) h aYD
def aSu(ha:SE T C a):SO T C (.cons a r):=λ X hX x h=>aZy (P:=λ r=>PO X x (mL X.K (ov C (.cons a r)))) (aL h) (aLe (P:=λ x=>PO X x _) (aR h) λ y h=>aUb (ha X hX _ h))
def aLG(ha:SE T C a)(hb:SE T C b):SE T C (.ix a b):=λ X hX x hx=>aE4 (P:=λ x=>PE X x _) hx λ l r p h h3=>aYF (ha X hX _ (aL h)) (hb X hX _ (aR h)) (aLJ h3)
def aTO(hk:SE T C k):SE T C (.tab n bL k):=λ X hX x hx=>aE4 (P:=λ x=>PE X x _) hx λ y z p g h6=>oF (P:=λ y=>PE X (.Subscript y z p) _) (aR g) λ u q h=>by
 obtain rfl:=dT (aL (aL (aL h)));exact aXZ (jV (aR (aL h))) (vZ (aR h)) (hX.tbs _ _ (List.contains_iff_mem.mp (aR (aL (aL h))))) (hk X hX _ (aL g)) (aLJ h6)
def aYj{lo hi:E}(ha:SE T C a)(hl:SO T C lo)(hh:SO T C hi):SE T C (.sl a lo hi):=λ X hX x hx=>aWz (P:=λ x=>PE X x _) hx λ y l u p q h=>aY5 (ha X hX _ (aL (aL h))) (hl X hX _ (aR (aL h))) (hh X hX _ (aR h))
def aRL(h:oJ T N a sc []=true):a=.nil:=by cases a<;>first|rfl|exact no h
def aPt{call:List W->aE->Option (W×aE)}{fs:FA}(h:C f=qq (np,call)):lY C f fs=aBE fs np call:=by funext env S;unfold lY;rw[h]
def aIU(ha:SA T C a):SE T C (.call f a):=λ X hX x hx=>xK (P:=λ x=>PE X x _) hx λ y p zs q h=>by
 cases hC:C f with
 |none=>exact aRd λ env S=>by show lY C f (av C a) env S=qz;unfold lY;rw[hC]
 |some nc=>
   let(k,rm,fs):=hX.room;let(fa,fd,ps,m1,m2,m3,m4):=fs f nc.1 nc.2 y hC (dT (aL (aL (aL (aL h)))));have hw:∀ σ H Q,bH X.K (ev C (.call f a)) σ H Q->aBD (uT X.K nc.1 nc.2) [] E0 (iN X.K (av C a)) σ H Q:=λ σ H Q hq=>aUQ σ H Q (aPt (fs:=av C a) hC▸hq)
   have h2:=jV (aR (aL (aL (aL h))));have h3:=vZ (aR (aL (aL h)));cases zs with
   |nil=>
     refine PE.weak (aQv m4 rm h2 m1 m2 m3 .nil aLd h3) λ σ H Q hq=>?_
     let(F,L,S,env,ws,S',R,E,e,q2):=hw σ H Q hq;cases aRL (aR (aL h));cases e;exact q2 F L H [] Gr.refl R .nil
   |cons z zr=>exact PE.weak (aRb m4 rm h2 m1 m2 m3 .nil aLd (ha X hX _ (aR (aL h))) h3 (iD (aL (aR h)) _ _) (aDw (aR (aR h)) _ _)) hw
def aKp(ha:SA T C a):SE T C (.blt b a):=λ X hX x hx=>xK (P:=λ x=>PE X x _) hx λ y p zs q h=>by
 obtain rfl:=dT (aR (aL (aL (aL h))));cases zs with
 |nil=>exact no (aL (aL (aL (aL h))))
 |cons z zr=>
 have A:=ha X hX _ (aR (aL h));have G:=jV (aR (aL (aL h)));have s1:=iD (aL (aR h)) zr X.env;have s2:=aDw (aR (aR h)) X.env q;cases b with
 |len=>exact PE.weak (qW aXx G (hX.blt _ (·)) (by decide +kernel) A (·) (·) s1 s2) pS|mx=>exact PE.weak (qW (aXe hX.calm) G (hX.blt _ (·)) (by decide +kernel) A (·) (·) s1 s2) pS|mn=>exact PE.weak (qW (aWd hX.calm) G (hX.blt _ (·)) (by decide +kernel) A (·) (·) s1 s2) pS|sum=>exact PE.weak (qW (aWS hX.calm) G (hX.blt _ (·)) (by decide +kernel) A (·) (·) s1 s2) pS|all=>exact PE.weak (qW (aWr hX.calm) G (hX.blt _ (·)) (by decide +kernel) A (·) (·) s1 s2) pS|any=>exact PE.weak (qW (aWf hX.calm) G (hX.blt _ (·)) (by decide +kernel) A (·) (·) s1 s2) pS|int=>exact PE.weak (aG9 aVO G (hX.blt _ (·)) (by decide +kernel) A (·) (·) s1 s2) pS|tup=>exact PE.weak (aG9 aSI G (hX.blt _ (·)) (by decide +kernel) A (·) (·) s1 s2) pS
def aH4(n:Ty):xz n.n=qq (.type n.s)/\n.n∈bltNames:=by cases n<;>exact⟨by decide +kernel,by decide⟩
def aJP(ha:SE T C a):SE T C (.isi a n):=λ X hX x hx=>aE0 (P:=λ x=>PE X x _) hx λ p y w q h3 h5 h6 h7 _=>oF (P:=λ w=>PE X (.Call (.Name "isinstance" p) [y,w] [] q) _) h7 λ z pz h=>by
 obtain rfl:=dT (aL h);have k:=@aVW X _ n.n n.s pz p q _ (ha X hX _ h5) (jV h3) (hX.blt _ (·)) (by decide +kernel) (jV (aR h)) (hX.blt _ (aH4 n).2) (aH4 n).1 (by cases n<;>decide) (by cases n<;>decide) (iD h6 _ _);refine PE.weak k λ σ H Q ⟨F,L,S,env,w,S',R,E,e,q2⟩=>⟨F,L,S,env,w,S',R,E,?_,q2⟩
 let((w1,S1),e1,e2):=aW e;let(d,z,e3,e4,rfl,rfl):=wM e2;unfold aMx f1;rw[e1];show gS (zF X.K n.s) _ w1=_;unfold gS;rw[e3];dsimp only[yDk];rw[aTw X.K e4]
def aSA(ha:SE T C a):SE T C (.bits a):=λ X hX x hx=>aMb (P:=λ x=>PE X x _) hx λ o ap xs cp h4 h3 h=>pX (P:=λ xs=>PE X (.Call (.Attribute o "bit_length" ap) xs [] cp) _) (aR h) (by
 refine PE.weak (aUH PySem.F.plainAttrs_int yGi PySem.F.type_int_bit_length aRM (ha X hX _ (aL h)) (wV h3 _ _) h4) λ σ H Q hPq42=>?_
 let(F,L,S,env,w,S',R,E,e,q):=hPq42;let((w1,S1),e1,e2):=aW e;let(d,z,e3,e4,rfl,rfl):=wM e2;refine⟨F,L,S,env,w1,_,R,E,e1,λ F1 L1 H1 v g1 R1 d1=>?_⟩;have nw:=kW R1 d1 e3;cases d<;>first|(cases e4;done)|skip
 cases e4;obtain rfl:=nw.int;exact⟨rfl,_,rfl,rfl,q F1 L1 H1 _ g1 R1 (Den.int _)⟩)
def mT(h:cZ z=true):qu [z] X.env=(false,eval z X.env)::qu [] X.env:=iD h [] X.env
def zW(ha:SE T C a)(hX:Ctx T C X)(h:bR T X.N a X.env.scope z=true)(hp:cZ z=true):PA X [z] (iN X.K (eT (ev C a) jX)):=nI (ha X hX _ h) aEO (mT hp)
def aUk(ho:SE T C o)(ha:SE T C a):SE T C (.app o a):=λ X hX x hx=>aXi (P:=λ x=>PE X x _) hx λ y ap z cp h4 h3 h2 h5 h6=>
 PE.weak (aV1 PySem.F.plainAttrs_list PySem.F.slot_list_append PySem.F.type_list_append aG7 (ho X hX _ h2) (zW ha hX h5 h6) (wV h3 _ _) (by rw[mT h6];rfl) h4 (mT h6) rfl) aVS
def aRC(ha:SE T C a)(hb:SE T C b):SL T C (.lzip a b):=λ X hX x hx=>aMH (P:=λ x=>PE X x _) hx λ p y q h2 h3 _=>aE0 (P:=λ y=>PE X (.Call (.Name "list" p) [y] [] q) _) h3 λ p' z w q' h4 h5 h6 h7 h8=>
 aTF (ha X hX _ h5) (hb X hX _ h7) hX.calm (jV h2) (hX.blt _ (·)) (jV h4) (hX.blt _ (·)) (iD h6 [w] X.env) (mT h8)
def aRe(ha:SE T C a)(hb:SE T C b):SL T C (.lrep a b):=λ X hX x hx=>aMa (P:=λ x=>PE X x _) hx λ l o r p h=>by
 obtain rfl:=dT (aL (aL h));exact aXQ (ha X hX _ (aR (aL h))) (hb X hX _ (aR h))
def aWX(ha:SE T C a):SI T C (.it a):=λ X hX tg x h=>aY3 (ha X hX _ h)
def aSv(ha:SE T C a):SI T C (.rng1 a):=λ X hX tg x hx=>aMH (P:=λ x=>PI X tg x _) hx λ p z q h2 h3 h4=>
 PI.weak (aOV (jV h2) (hX.blt _ (·)) (zW ha hX h3 h4) (mT h4)) aT7
def aQ2(ha:SE T C a)(hb:SE T C b)(hc:SE T C c):SI T C (.rng3 a b c):=λ X hX tg x hx=>aMw (P:=λ x=>PI X tg x _) hx λ p z w v q h2 h3 h4 h5 h6 h7 h8=>by
 have st:=iD h4 [w,v] X.env;have st2:=iD h6 [v] X.env;exact PI.weak (aON (jV h2) (hX.blt _ (·)) (nI (ha X hX _ h3) (nI (hb X hX _ h5) (zW hc hX h7 h8) st2) st) st (by rw[st2,mT h8];rfl)) aUT
def aSX(ha:SE T C a)(hb:SE T C b):SI T C (.zip a b):=λ X hX tg x hx=>yH (P:=λ tg=>PI X tg x _) (aL hx) λ ts k tp _=>aE0 (P:=λ x=>PI X _ x _) (aR hx) λ p z z2 q h2 h3 h4 h5 h6=>
 PI.weak (aTU (jV h2) (hX.blt _ (·)) (nI (ha X hX _ h3) (zW hb hX h5 h6) (iD h4 [z2] X.env)) (iD h4 [z2] X.env) (mT h6)) aYl
def aQK(ha:SE T C a)(hb:SE T C b)(hc:SE T C c):SI T C (.zip3 a b c):=λ X hX tg x hx=>yH (P:=λ tg=>PI X tg x _) (aL hx) λ ts k tp _=>aMw (P:=λ x=>PI X _ x _) (aR hx) λ p z z2 z3 q h2 h3 h4 h5 h6 h7 h8=>
 PI.weak (aSi (jV h2) (hX.blt _ (·)) (nI (ha X hX _ h3) (nI (hb X hX _ h5) (zW hc hX h7 h8) (iD h6 [z3] X.env)) (iD h4 [z2,z3] X.env)) (iD h4 [z2,z3] X.env) (iD h6 [z3] X.env) (mT h8)) aUa
def or2(h:(a||b)=true)(n:a=false):b=true:=by rw[n] at h;exact h
def aIG(h:aET scope osc=true):ScOk scope osc:=by
 have h2:=List.all_eq_true.mp (aR h);refine⟨dT (aL h),λ x hx e=>?_,λ x hx e=>?_,λ x hx e=>?_⟩
 ·have:=h2 x hx;simp[e] at this
 ·have:=h2 x hx;simp[e] at this;exact this
 ·have:=h2 x hx;simp[e] at this;exact this
def aD5:∀ {n:Nat},aB0 N scope is n=true->∀ i,i<n->∀ x,N[i]?=qq x->scope.names.lookup x=qq .local->i∈is
 |0,_,i,hi,_,_,_=>absurd hi (yCl i)
 |n+1,h,i,hi,x,e,el=>by
   rcases Nat.lt_succ_iff_lt_or_eq.mp hi with z|z
   ·exact aD5 (aL h) i z x e el
   ·subst z;have h2:=aR h;rw[e] at h2;exact List.contains_iff_mem.mp (or2 h2 (by rw[el];rfl))
def aSN{cond:E}(he:SE T C elt)(hi:SI T C it)(hc:ST T C cond):SL T C (.comp elt t it cond):=λ X hX x hx=>aMK (P:=λ x=>PE X x _) hx λ e tg iter ifs scope p h1 h2 h3 h4 h5 h6 h7=>by
 have sok:=aIG h1;refine aKf (g:=vC X.K t) hX.calm sok (λ i x a1 a2=>aD5 h2 i (gIm a1).1 x a1 a2) (hi X hX tg iter h4) (λ Y hY=>?_) (aBF X.K t) (λ Y hY=>?_) (λ Y hY=>?_) (aDc h5 X.env)
 ·let(c1,c2,c3,c4):=hX.comp sok.kind hY;rw[<- c4];exact aBz (.inl rfl) c1.nd c1.calm (by rw[c2,c3];exact h3)
 ·let(c1,c2,c3,c4):=hX.comp sok.kind hY;cases ifs with|nil=>exact aMQ (P:=λ cond=>nF Y [] (tv C cond)) h6 aHp|cons y r=>exact pX (P:=λ r=>nF Y (y::r) _) (aL h6) (aGT (hc Y c1 y (by rw[c2,c3];exact aR h6)).1)
 ·let(c1,c2,c3,c4):=hX.comp sok.kind hY;rw[<- c4];exact he Y c1 e (by rw[c2,c3];exact h7)
def aW7(ha:SL T C a):SE T C (.fz a):=λ X hX x h=>aMX (ha X hX x h)
def aSR(ha:SL T C a):SE T C (.new a):=λ X hX x h=>aYt (ha X hX x h)
def rQ(h:SE T C c)(ht:tv C c=dP (ev C c))(hk:∀ N sc x,mY T N c sc x=(bR T N c sc x&&mP x)):ST T C c:=λ X hX x q=>by
 rw[hk] at q;rw[ht];exact aWJ (h X hX x (aL q)) (aR q)
structure Sn(T:Tx)(C:Calls)(c:E):Prop where
 e:SE T C c:=by exact λ _ _ _ h=>no h
 t:ST T C c:=by exact λ _ _ _ h=>no h
 a:SA T C c:=by exact λ _ _ _ h=>no h
 o:SO T C c:=by exact λ _ _ _ h=>no h
 l:SL T C c:=by exact λ _ _ _ h=>no h
 i:SI T C c:=by exact λ _ _ _ _ h=>no h
def sn(c:E):Sn T C c:=by
 induction c with
 |var i=>exact {e:=aJN i,t:=rQ (aJN i) rfl λ _ _ _=>rfl }|int i=>exact {e:=aUs i }|bl b=>exact {e:=aKY b,t:=rQ (aKY b) rfl λ _ _ _=>rfl }|non=>exact {e:=aTa }|str x=>exact {e:=aVc x }|bin op a b bF cG=>exact {e:=aKC bF.e cG.e,t:=rQ (aKC bF.e cG.e) rfl λ _ _ _=>rfl }|un op a bF=>exact {e:=aXv bF.e }|cmp op a b bF cG=>exact {e:=aTk bF.e cG.e,t:=aT0 bF.e cG.e }|ltl a b bF cG=>exact {}|and a b bF cG=>exact {e:=aUN bF.e cG.e,t:=aS5 bF.t cG.t }|or a b bF cG=>exact {e:=aYs bF.e cG.e,t:=aYh bF.t cG.t }|not a bF=>exact {e:=aUq bF.e,t:=aTH bF.t }|ite c a b ihc bF cG=>exact {e:=aUM ihc.t bF.e cG.e }|tup a bF=>exact {e:=aSY bF.a }|lst a bF=>exact {l:=aUK bF.a }|nil=>exact {a:=aUA }|cons a r bF ihr=>exact {a:=aSe bF.e ihr.a,o:=aSu bF.e }|chn op hZ a b c bF cG ihc=>exact {}|con x ts=>exact {e:=aUY }|ix a b bF cG=>exact {e:=aLG bF.e cG.e,t:=rQ (aLG bF.e cG.e) rfl λ _ _ _=>rfl }|dsp k l m a b c i bF cG ihc ihi=>exact {}|tab x bL k ihk=>exact {e:=aTO ihk.e }|slL a lo hi bF ihlo ihhi=>exact {}|sl a lo hi bF ihlo ihhi=>exact {e:=aYj bF.e ihlo.o ihhi.o }|no=>exact {o:=aXb }|call f a bF=>exact {e:=aIU bF.a,t:=rQ (aIU bF.a) rfl λ _ _ _=>rfl }|blt b a bF=>exact {e:=aKp bF.a,t:=rQ (aKp bF.a) rfl λ _ _ _=>rfl }|isi a n bF=>exact {e:=aJP bF.e,t:=rQ (aJP bF.e) rfl λ _ _ _=>rfl }|bits a bF=>exact {e:=aSA bF.e }|app o a iho bF=>exact {e:=aUk iho.e bF.e }|pop o a iho bF=>exact {}|idx o a iho bF=>exact {}|lof a bF=>exact {}|lzip a b bF cG=>exact {l:=aRC bF.e cG.e }|lrg1 a bF=>exact {}|lrg2 a b bF cG=>exact {}|srt a bF=>exact {}|lrev a bF=>exact {}|lrep a b bF cG=>exact {l:=aRe bF.e cG.e }|comp elt t it cond ihelt ihit ihcond=>exact {l:=aSN ihelt.e ihit.i ihcond.t }|it a bF=>exact {i:=aWX bF.e }|rng1 a bF=>exact {i:=aSv bF.e }|rng2 a b bF cG=>exact {}|rng3 a b c bF cG ihc=>exact {i:=aQ2 bF.e cG.e ihc.e }|rrng a bF=>exact {}|enm a bF=>exact {}|zip a b bF cG=>exact {i:=aSX bF.e cG.e }|zip3 a b c bF cG ihc=>exact {i:=aQK bF.e cG.e ihc.e }|fz a bF=>exact {e:=aW7 bF.l }|new a bF=>exact {e:=aSR bF.l }|aH a bF=>exact {}|ins n a b bF cG=>exact {}|mT a bF=>exact {}|itx a bF=>exact {}|spl a b bF cG=>exact {}|jn a b bF cG=>exact {}|intb x bL k ihk=>exact {}|gst x y=>exact {}|sls a lo hi bF ihlo ihhi=>exact {}|srep a b bF cG=>exact {}|ls3 x a b o y z es bF cG iho ihes=>exact {}
section
variable (T:Tx)(C:Calls)
def SS(c:Sx):Prop:=∀ X,Ctx T C X->(∀ x,X.fn x=true)->∀ st,okS T X.N c X.env.scope st=true->PS X st (dY X.K (xs C c))
def qJ(c:Sx):Prop:=∀ X,Ctx T C X->(∀ x,X.fn x=true)->∀ st,pZ T X.N c X.env.scope st=true->eE X st (dY X.K (xs C c))
end
def aIM(h:tP e=true)(line:Nat)(env:Env):swapsWithSole [t] e line env=pure false:=aDl h _ _ _
def aN6(h:yD e=false):yq [.Tuple ts k p] e env=pure qz:=by cases e<;>first|rfl|exact no h.symm
def aNS:yq [.Subscript o i p] e env=pure qz:=by cases e<;>rfl
def aTf(ha:SS T C a)(hb:qJ T C b):qJ T C (.seq a b):=λ X hX hf st h=>by
 cases st with
 |nil=>exact no h
 |cons s r=>
   let(h1,h2):=iJ h;exact aXo (ha X hX hf _ h1) (hb X hX hf _ h2)
def aRt:qJ T C .skip:=λ X hX hf st h=>pX (P:=λ st=>eE X st _) h aU6
def aTV:SS T C .nev:=λ X hX hf st h aB s σ H D I t=>by
 let(F,L,S,env,fl,S',R,E,e,q):=lT t;cases e
def aSl:SS T C (.expr e):=λ X hX hf st h=>aZe (P:=λ st=>PS X st _) h λ x p h=>aUc ((sn e).e X hX _ (aL h)) (aDl (aR h) _ _ _)
def aTR:SS T C (.ret e):=λ X hX hf st h=>aZT (P:=λ st=>PS X st _) h λ _ p h=>aLe (P:=λ v=>PS X (.Return v p) _) h λ x h=>aXW ((sn e).e X hX _ h)
def aUL(ha:qJ T C a)(hb:qJ T C b):SS T C (.ifs c a b):=λ X hX hf st h=>aYB (P:=λ st=>PS X st _) h λ x y z p h=>aYE ((sn c).t X hX _ (aL (aL h))).1 (ha X hX hf _ (aR (aL h))) (hb X hX hf _ (aR h))
def aVo:SS T C (.set i e):=λ X hX hf st h=>aCe (P:=λ st=>PS X st _) h λ _ y p h=>mE (P:=λ ts=>PS X (.Assign ts y p) _) (aR h) λ _ g=>oF (P:=λ t=>PS X (.Assign [t] y p) _) g λ x q g=>
 aLr hX.nd (dT (aL g)) (aEr (aR g)) ((sn e).e X hX _ (aL (aL h))) (aDl (aR (aL h)) _ _ _) (.inl (hf _))
def aZA{f:FL}(σ:St)(H:Hp)(Q:VK)(h:bH K (kG f) σ H Q):jJ K f σ H Q:=by let(F,L,S,env,w,S',R,E,e,q):=h;let((ds,S1),e1,e2):=aW e;cases e2;exact⟨F,L,S,env,ds,_,R,E,e1,λ F1 L1 H1 p xs g1 R1 hF hL hH dl=>q _ L1 _ _ (g1.trans (Gr.new hF)) (R1.adopt hF hL hH) (Den.lst (cK.of eH) (dl.mono (gC hF)))⟩
def aED{f:FL}(σ:St)(H:Hp)(Q:VK)(h:bH K (gI f) σ H Q):jJ K f σ H Q:=by let(F,L,S,env,w,S',R,E,e,q):=h;let((ds,S1),e1,e2):=aW e;cases e2;refine⟨F,L,S,env,ds,_,R,E,e1,λ F1 L1 H1 p xs g1 R1 hF hL hH dl=>q _ _ _ _ (g1.trans Gr.newLoc) (R1.adoptLoc hF hL hH dl) ⟨p,?_,rfl⟩⟩;dsimp only;rw[<- R1.len,yAf (yAd _)];simp
def aYS{f:FL}(nw:Bool):∀ (σ:St) (H:Hp) (Q:VK),bH K (match nw with|true=>gI f|false=>kG f) σ H Q->jJ K f σ H Q:=by
 cases nw
 ·exact aZA
 ·exact aED
def aSq:SS T C (.setC nw i e):=λ X hX hf st h=>aCe (P:=λ st=>PS X st _) h λ _ y p h=>mE (P:=λ ts=>PS X (.Assign ts y p) _) (aR h) λ _ g=>oF (P:=λ t=>PS X (.Assign [t] y p) _) g λ x q g=>by
 refine aZo (P:=λ e=>zT T X.N e X.env.scope y=true->PS X (.Assign [.Name x q] y p) (dY X.K (xs C (.setC nw i e)))) (aL (aL h)) (λ elt t it cond hL=>aMK (P:=λ y=>PS X (.Assign [.Name x q] y p) (dY X.K (xs C (.setC nw i (.comp elt t it cond))))) hL λ e tg iter ifs scope r h1 h2 h3 h4 h5 h6 h7=>?_) (aR (aL h));have sok:=aIG h1;refine aOU (g:=vC X.K t) hX.nd (dT (aL g)) (aEr (aR g)) (.inl (hf _)) hX.calm sok (λ i x a1 a2=>aD5 h2 i (gIm a1).1 x a1 a2) ((sn it).i X hX tg iter h4) (λ Y hY=>?_) (aBF X.K t) (λ Y hY=>?_) (λ Y hY=>?_) (aDc h5 X.env) (aYS nw)
 ·let(c1,c2,c3,c4):=hX.comp sok.kind hY;rw[<- c4];exact aBz (.inl rfl) c1.nd c1.calm (by rw[c2,c3];exact h3)
 ·let(c1,c2,c3,c4):=hX.comp sok.kind hY;cases ifs with|nil=>exact aMQ (P:=λ cond=>nF Y [] (tv C cond)) h6 aHp|cons y r=>exact pX (P:=λ r=>nF Y (y::r) _) (aL h6) (aGT ((sn cond).t Y c1 y (by rw[c2,c3];exact aR h6)).1)
 ·let(c1,c2,c3,c4):=hX.comp sok.kind hY;rw[<- c4];exact(sn elt).e Y c1 e (by rw[c2,c3];exact h7)
def aYK(h:(!b)=true):b=false:=by
 cases b with
 |false=>rfl|true=>exact no h
def aRl:SS T C (.setT t e):=λ X hX hf st h=>aCe (P:=λ st=>PS X st _) h λ _ v p h=>mE (P:=λ ts=>PS X (.Assign ts v p) _) (aR h) λ tg g=>by
 have h1:=aBz (.inr hf) hX.nd hX.calm (aR g);revert h1;exact yH (P:=λ tg=>PG X tg (vC X.K t)->PS X (.Assign [tg] v p) (dY X.K (xs C (.setT t e)))) (aL g) λ ts k q _ h1=>PS.weak (aJ0 ((sn e).e X hX _ (aL (aL (aL h)))) h1 (aIM (aR (aL (aL h))) _ _) (aN6 (aYK (aR (aL h)))) rfl) (aUz (aBF X.K t))
def aUp:SS T C (.put o i e):=λ X hX hf st h=>aCe (P:=λ st=>PS X st _) h λ _ z p h=>mE (P:=λ ts=>PS X (.Assign ts z p) _) (aR h) λ _ g=>aE4 (P:=λ t=>PS X (.Assign [t] z p) _) g λ x y q g h3=>
 aXH ((sn o).e X hX _ (aL g)) ((sn i).e X hX _ (aR g)) ((sn e).e X hX _ (aL (aL h))) (aPq h3) (aIM (aR (aL h)) _ _) aNS
def aRj(hb:qJ T C b):SS T C (.loop t it b):=λ X hX hf st h=>aZv (P:=λ st=>PS X st _) h λ tg x y z p h=>pX (P:=λ z=>PS X (.For tg x y z p) _) (aL (aL (aL (aL h))))
 (aWs hX.own hX.calm ((sn it).i X hX _ _ (aR (aL (aL h)))) (aBz (.inr hf) hX.nd hX.calm (aR (aL (aL (aL h))))) (aBF X.K t) (hb X hX hf _ (aR h)) (aDc (aR (aL h)) X.env))
def ss{C:Calls}(c:Sx):SS T C c/\qJ T C c:=by
 have N2:∀ {c:Sx},SS T C c->(∀ N sc st,pZ T N c sc st=false)->SS T C c/\qJ T C c:=λ q hh=>⟨q,λ X hX hf st h=>by rw[hh] at h;exact no h⟩
 induction c with
 |skip=>exact⟨λ X hX hf st h=>no h,aRt⟩|seq a b bF cG=>exact⟨λ X hX hf st h=>no h,aTf bF.1 cG.2⟩|expr e=>exact N2 aSl λ _ _ _=>rfl|ret e=>exact N2 aTR λ _ _ _=>rfl|nev=>exact N2 aTV λ _ _ _=>rfl|ifs c a b bF cG=>exact N2 (aUL bF.2 cG.2) λ _ _ _=>rfl|set i e=>exact N2 aVo λ _ _ _=>rfl|setC nw i e=>exact N2 aSq λ _ _ _=>rfl|setT t e=>exact N2 aRl λ _ _ _=>rfl|put o i e=>exact N2 aUp λ _ _ _=>rfl|loop t it b cG=>exact N2 (aRj cG.2) λ _ _ _=>rfl
structure Fn where
 name:Str
 np:Nat
 N:List Str
 body:Sx
 st:xj
def aC(fs:List Fn):Nat->Calls
 |0=>λ _=>qz|d+1=>λ f=>(fs[f]?).map λ F=>(F.np,gL (xs (aC fs d) F.body) F.N.length)
structure Tbs where
 tb:List (Str×List (Str×Tv))
 cn:List (Str×List Tv)
 st:List (Str×Str)
def tab(fs:List Fn)(tb:Tbs):Tx:=⟨fs.map λ F=>(F.name,F.np),tb.tb,tb.cn,tb.st⟩
def aEd:List Str->Bool
 |[]=>true|x::r=>!r.contains x&&aEd r
def aIl:∀ {l:List Str},aEd l=true->l.Nodup
 |[],_=>List.nodup_nil
 |x::r,h=>by
   let(h1,h2):=iJ h;refine List.nodup_cons.mpr ⟨λ z=>?_,aIl h2⟩;have:r.contains x=true:=(z:)
   rw[this] at h1;exact no h1
def aB9(fs:List Fn)(tb:Tbs)(F:Fn):Bool:=
 decide ((fJ F.st).kind=.function) && !(fJ F.st).isCoroutine && !(fJ F.st).isGenerator&&aEd F.N&&decide (F.np<=F.N.length)&&(F.N.take F.np).all (loc (fJ F.st))&&(fJ F.st).names.all (λ y=>!decide (y.2=.free)) &&
  pZ (tab fs tb) F.N F.body (fJ F.st) (lW F.st)
def aVd(h:loc sc x=true):sc.names.lookup x=qq .local\/sc.names.lookup x=qq .cell:=by unfold loc at h;split at h<;>first|exact .inl (by assumption)|exact .inr (by assumption)|exact no h
def aP8(h:aB9 fs tb F=true):FnScope F.N (F.N.take F.np) (fJ F.st)/\pZ (tab fs tb) F.N F.body (fJ F.st) (lW F.st)=true/\(F.N.take F.np).length=F.np:=by
 let(h,h8):=iJ h;let(h,h7):=iJ h;let(h,h6):=iJ h;let(h,h5):=iJ h;let(h,h4):=iJ h;let(h,h3):=iJ h;let(h1,h2):=iJ h;have hl:(F.N.take F.np).length=F.np:=by
  rw[yBk];have:=oqT h5;omega
 refine⟨⟨oqT h1,?_,?_,aIl h4,by rw[hl],λ x hx=>aVd (List.all_eq_true.mp h6 x hx),λ y hy=>?_⟩,h8,hl⟩
 ·cases q:(fJ F.st).isCoroutine with|false=>rfl|true=>rw[q] at h2;exact no h2
 ·cases q:(fJ F.st).isGenerator with|false=>rfl|true=>rw[q] at h3;exact no h3
 ·have:=List.all_eq_true.mp h7 y hy;intro z;rw[dqT z] at this;exact no this
section
variable {P:zq}{w:zx}{K:FrG}{mg:Str->Option qx}{base:Heap}
def aJn(fs:List Fn)(tb:Tbs)(hk:∀ F∈fs,aB9 fs tb F=true)(top:∀ F∈fs,∃ fa fd,Fun K F.name F.name F.st fa fd/\mg F.name=qq (.ref fa)/\nO K fd (F.N.take F.np) [])(hb:∀ x∈bltNames,mg x=qz)(ht:∀ x bL,(x,bL)∈tb.tb->∃ a,mg x=qq (.ref a)/\xY K w a bL)(hcn:∀ x ts,(x,ts)∈tb.cn->∃ a,mg x=qq (.ref a)/\uE K a ts)(hst:∀ x y,(x,y)∈tb.st->∃ t,mg x=qq (.str y t)) :
 ∀ d f F np call fa fd,fs[f]?=qq F->aC fs d f=qq (np,call)->Fun K F.name F.name F.st fa fd->FnOk P w K mg base uV d fa fd (F.N.take F.np) (uT K np call)
 |0,f,F,np,call,fa,fd,eF,e,Fu=>by cases e
 |d+1,f,F,np,call,fa,fd,eF,e,Fu=>by
   have ih:=aJn fs tb hk top hb ht hcn hst d;have e2:(F.np,gL (xs (aC fs d) F.body) F.N.length)=(np,call):=by
    have e':(fs[f]?).map (λ F=>(F.np,gL (xs (aC fs d) F.body) F.N.length))=qq (np,call):=e;rw[eF] at e';exact Option.some.inj e'
   cases e2;have hm:F∈fs:=xAk eF;let(sc,hok,hl):=aP8 (hk F hm);refine Fu.ok sc (λ vs H Q E h=>?_) λ cdv A outer s H vs Q E hr h=>?_
   ·let(F1,L,S,ws,w1,S',hn,R,dl,_):=h;rw[hl,<- hn];exact dl.length.symm
   ·refine⟨_,(@ss (tab fs tb) (aC fs d) F.body).2 _ ⟨sc.nd,rfl,rfl,sc.kind,⟨d,hr,λ f' np' call' x' e1 e2=>?_⟩,hb,λ x bL hx=>ht x bL hx,λ x ts hx=>hcn x ts hx,λ x y hx=>hst x y hx⟩ (λ _=>rfl) _ hok,aUV h⟩;have e2:((fs.map λ F=>(F.name,F.np))[f']?).map (·.1)=qq x':=e2;rw[yAc] at e2;cases q:fs[f']? with
    |none=>rw[q] at e2;cases e2
    |some F'=>
      rw[q] at e2;have hx:F'.name=x':=Option.some.inj e2;subst hx;let(fa',fd',Fu',hmg',hbi'):=top F' (xAk q);exact⟨fa',fd',_,hmg',Fu'.kp,hbi',ih f' F' np' call' fa' fd' q e1 Fu'⟩
end
structure TopFn(K:FrG)(F:Fn):Prop where
 ex:∃ (f:qv) (oc:qx) (od an:Option qv) (sl:Array (Option qx)) (kV dc pm cd ct:qx),yEf K xq F.name=qq (qq (.ref f)) /\
  K.lookup f=qq ⟨oc,od,.func (yDt F.name F.name (pF F.st) (lW F.st) (fJ F.st) .none kV dc pm an cd ct),sl⟩/\yGc K cd F.name=true/\yDg K (.ref f)=true
def top_mk{F:Fn}{kV:qx}(a:yEf K xq F.name=qq (qq (.ref f)))(l:K.lookup f=qq ⟨oc,od,.func (yDt F.name F.name (pF F.st) (lW F.st) (fJ F.st) .none kV dc pm an cd ct),sl⟩)(c:yGc K cd F.name=true)(k:yDg K (.ref f)=true):TopFn K F:=
 ⟨f,oc,od,an,sl,kV,dc,pm,cd,ct,a,l,c,k⟩
structure TabTop(K:FrG)(w:zx)(t:Str×List (Str×Tv)):Prop where
 ex:∃ (a:qv) (es:Array DictEntry) (ep:Nat),yEf K xq t.1=qq (qq (.ref a))/\(a==sysModules)=false/\K.lookup a=qq {cls:=.type "dict",data:=.dict es ep }/\uD w es.toList t.2
def tab_mk{t:Str×List (Str×Tv)}{es:Array DictEntry}(a1:yEf K xq t.1=qq (qq (.ref a)))(l1:K.lookup a=qq {cls:=.type "dict",data:=.dict es ep })(c1:uD w es.toList t.2)(s1:(a==sysModules)=false):TabTop K w t:=⟨a,es,ep,a1,s1,l1,c1⟩
structure ConTop(K:FrG)(t:Str×List Tv):Prop where
 ex:∃ a:qv,yEf K xq t.1=qq (qq (.ref a))/\uE K a t.2
def con_mk{t:Str×List Tv}{aH:Array qx}(a1:yEf K xq t.1=qq (qq (.ref a)))(l1:K.lookup a=qq {cls:=.type "tuple",dict:=od,data:=.seq aH n,slots:=sl })(z1:aH.size<=100)(c1:aBO aH.toList t.2):ConTop K t:=
 ⟨a,a1,_,aH,n,l1,rfl,rfl,xAh z1 (·),c1⟩
structure StTop(K:FrG)(t:Str×Str):Prop where
 ex:∃ k:Tok,yEf K xq t.1=qq (qq (.str t.2 k))
def aD1(F:Fn):Prop:=∀ (kV doc pm:qx) (an:Option qv) (cdv ct:qx) (us:List qx),↑us=(F.N.take F.np).length->bindArgs (yDt F.name F.name (pF F.st) (lW F.st) (fJ F.st) .none kV doc pm an cdv ct) ⟨us,[]⟩=pure ((F.N.take F.np).zip us)
def aEz(F:Fn):Bool:=match pF F.st with|⟨[],as,qz,[],_,qz,_⟩=>decide (F.N.take F.np=as.map (·.arg))&&decide (F.N.take F.np).Nodup|_=>false
def aHL:∀ {ns:List Str}{us:List qx},ns.Nodup->↑us=↑ns->(∀ n∈ns,((ns.zip us).lookup n).isNone=false)/\ns.filterMap (λ n=>((ns.zip us).lookup n).map (n,·))=ns.zip us
 |[],us,_,_=>⟨λ n h=>(nomatch h),by cases us<;>rfl⟩|x::ns,[],_,h=>by cases h
 |x::ns,u::us,hn,hl=>by
   let(h1,h2):=List.nodup_cons.mp hn;let(i1,i2):=aHL h2 (Nat.succ.inj hl);have e:∀ n∈ns,((x,u)::ns.zip us).lookup n=(ns.zip us).lookup n:=λ n m=>by
    rw[yCh];have:(n==x)=false:=by
     rw[beq_eq_false_iff_ne];rintro rfl;exact h1 m
    rw[this]
   refine⟨λ n m=>?_,?_⟩
   ·rw[List.zip_cons_cons];rcases List.mem_cons.mp m with rfl|m
    ·rw[yCh,beq_self_eq_true];rfl
    ·rw[e n m];exact i1 n m
   ·rw[List.zip_cons_cons,yDj,yCh,beq_self_eq_true];show(x,u)::_=_;congr 1;rw[<- i2];rw[i2];have g:∀ l:List Str,(∀ n∈l,n∈ns)->l.filterMap (λ n=>(((x,u)::ns.zip us).lookup n).map (n,·))=l.filterMap (λ n=>((ns.zip us).lookup n).map (n,·)):=λ l=>by
     induction l with
     |nil=>intro _;rfl|cons y l ih=>intro hl;rw[yDj,yDj,e y (hl y xAc),ih λ n m=>hl n (xAf _ m)]
    rw[g ns λ n m=>m,i2]
def aPB(h:aEz F=true):aD1 F:=by
 intro kV doc pm an cdv ct us hu;unfold aEz at h;split at h
 ·rename_i as kd df e;let(h1,h2):=iJ h;have h1:=oqT h1;rw[e];rw[h1] at hu h2 ⊢;let(i1,i2):=aHL (oqT h2) hu;have m:((as.map (·.arg)).take (as.map (·.arg)).length).filter (λ n=>(((as.map (·.arg)).zip us).lookup n).isNone)=[]:=by
   rw[yAe,List.filter_eq_nil_iff];intro n hn;rw[i1 n hn];decide
  unfold bindArgs;have q:seqItems? Value.none=(pure qz:Sem (Option (Array qx))):=rfl;simp only[yDt,q,pure_bind,yGs,yDp,yDz,List.forIn_nil,yHs,yEb,List.drop_nil,List.zip_nil_right,yGu,hu,gt_iff_lt,yCg,decide_false,yAv,yAx,if_false,m,List.isEmpty_nil,yEz,i2,Option.isNone_none]
 ·exact no h
def aGs:∀ {ns:List Int}{i:Int},i∈ns->yAm i<=PySem.W.WData.weightAll (ns.map PySem.W.WData.int)
 |[],i,h=>by cases h
 |n::r,i,h=>by
   have e:PySem.W.WData.weightAll ((n::r).map PySem.W.WData.int)=yAm n+1+PySem.W.WData.weightAll (r.map PySem.W.WData.int):=rfl;rw[e];rcases List.mem_cons.mp h with z|z
   ·subst z;omega
   ·have:=aGs z;omega
def aPT{ns:List Int}(h:PySem.W.WData.layableAll [PySem.W.WData.list (ns.map PySem.W.WData.int)]=true):∀ i∈ns,yAm i<=1048576:=λ i hi=>by
 have h1:PySem.W.WData.layable (PySem.W.WData.list (ns.map PySem.W.WData.int))=true:=by
  have:=List.all_eq_true.mp h _ xAc;exact this
 have h2:PySem.W.WData.weight (PySem.W.WData.list (ns.map PySem.W.WData.int))<=2^20:=oqT (iJ h1).2;exact xAh (aGs hi) h2
def aSz{l:PySem.W.OpenLaw}{XP:(Str->Option qx)->Heap->Prop}{YP:zx->Heap->Prop}{d:DefRec}(hn:l.most=qq n)(hdf:d.params.defaults=[])(go:∀ (w:zx) (s₀ s₁:qj) (mg mb:Str->Option qx) (fa:qv) (a:qv) (vs:List qx) (ns:List Int),
   PySem.W.Ground q loose [] XP w s₀ mg mb s₁.heap->YP w s₁.heap->mg d.name=qq (.ref fa) ->
   s₁.heap.get? a=qq {cls:=.type "list",data:=.seq vs.toArray }->IntsAre vs ns->↑ns<=n->(∀ i∈ns,yAm i<=1048576)->s₁.gens = #[] ->
   vx (model l.prog w) callerA (.call (.ref fa) ⟨[.ref a],[]⟩) (λ r s'=>r=.ok (.ret (.bool true))/\OldK s₁.heap s'.heap/\s'.os=s₁.os/\AllBare s'.gens) s₁) :
 PySem.W.WalkO q loose XP YP l.row.toRowW d [] (λ f vs=>PySem.call f vs):=by intro w s₀ s₁ mg mb G Y fa o pm cd doc dV kV ho hd hcd hD hmg hg args vals as hpre hlay hrd hwl hlo;obtain rfl:dV=.none:=PySem.W.Dflts.none hD hdf;obtain rfl:kV=.none:=PySem.W.Dflts.noKw hD;let(a,vs,ns,rfl,rfl,hobj,hints,cY):=Att.script_of hn hpre hwl;refine PySem.W.enter_call (codeAny_mono (go w s₀ s₁ mg mb fa a vs ns G Y hmg hobj hints cY (aPT hlay) hg) λ r s' hq=>?_);let(rfl,h2,h3,h4):=hq;exact⟨.inl ⟨.bool true,.bool true,[],rfl,λ _=>rfl,.bool true,Att.post_true l _,λ _=>⟨List.Pairwise.nil,λ _ hm=>(nomatch hm)⟩⟩,h2,h3,h4⟩
def law_of{l:PySem.W.OpenLaw}{XP:(Str->Option qx)->Heap->Prop}{YP:zx->Heap->Prop}{d:DefRec}{K:Params->FrG}(fs:List Fn)(tb:Tbs)(f D:Nat)(L:Fn)(x:Str)(hn:l.most=qq 63)(hdf:d.params.defaults=[])(hr:Room D callerA)(hY:∀ (w:zx) (h:Heap),YP w h->(K w.params).In h)(hk:∀ F∈fs,aB9 fs tb F=true)(hb:∀ F∈fs,aD1 F)(hL:fs[f]?=qq L)(hname:L.name=d.name)(hps:L.N.take L.np=[x])(top:∀ w:zx,∀ h:Heap,(K w.params).In h->∀ F∈fs,TopFn (K w.params) F)(tbl:∀ w:zx,∀ h:Heap,(K w.params).In h->∀ t∈tb.tb,TabTop (K w.params) w t)(cnl:∀ w:zx,∀ h:Heap,(K w.params).In h->∀ t∈tb.cn,ConTop (K w.params) t)(stl:∀ w:zx,∀ h:Heap,(K w.params).In h->∀ t∈tb.st,StTop (K w.params) t)(tbn:∀ w:zx,∀ h:Heap,(K w.params).In h->∀ x∈bltNames,yEf (K w.params) xq x=qq qz)(main:∀ ns:List Int,↑ns<=63->(∀ i∈ns,yAm i<=1048576)->∃ call S',aC fs D f=qq (1,call)/\call [.d (.list (ns.map yAn))] []=qq (.d (.bool true),S')) :
 PySem.W.WalkO q loose XP YP l.row.toRowW d [] (λ f vs=>PySem.call f vs):=by
 let(call,S0,hcall,_):=main [] (by simp) (by simp);refine aSz hn hdf λ w s₀ s₁ mg mb fa a vs ns G Y hmg hobj hints cY hsm hg=>?_
 have KX:=hY w _ Y;have tops:∀ F∈fs,∃ fa fd,Fun (K w.params) F.name F.name F.st fa fd/\mg F.name=qq (.ref fa)/\nO (K w.params) fd (F.N.take F.np) []:=λ F hF=>by
  let(f,oc,od,an,sl,kV,dc,pm,cd,ct,a,l,c,k):=(top w _ KX F hF).ex;have Fu:=aVv (st:=F.st) l c k;exact⟨f,_,Fu,yHo KX G.T.g a,Fu.binds (hb F hF)⟩
 have hblt:∀ x∈bltNames,mg x=qz:=λ y hy=>PySem.W.mg_none_of KX G.T.g (tbn w _ KX y hy)
 have htab:∀ x bL,(x,bL)∈tb.tb->∃ a,mg x=qq (.ref a)/\xY (K w.params) w a bL:=λ x bL hx=>by
  let(a,es,ep,a1,s1,l1,c1):=(tbl w _ KX (x,bL) hx).ex;exact⟨a,yHo KX G.T.g a1,s1,es,ep,l1,c1⟩
 have hcon:∀ x ts,(x,ts)∈tb.cn->∃ a,mg x=qq (.ref a)/\uE (K w.params) a ts:=λ x ts hx=>by
  let(a,a1,c1):=(cnl w _ KX (x,ts) hx).ex;exact⟨a,yHo KX G.T.g a1,c1⟩
 have hst:∀ x y,(x,y)∈tb.st->∃ t,mg x=qq (.str y t):=λ x y hx=>by
  let(k,a1):=(stl w _ KX (x,y) hx).ex;exact⟨k,yHo KX G.T.g a1⟩
 let(fa1,fd,Fu,hmg1,hbi):=tops L (xAk hL);rw[<- hname,hmg1] at hmg;cases hmg;refine L2.law_call (fd:=fd) (sp:=uT (K w.params) 1 call) (CX:=uV) (x:=x) KX G.T.g G.T.b G.T.builtins G.T.nolimit hg hobj hints (xAh cY (·)) hr (λ base kb nb=>?_) (λ s u=>?_) (λ H hO hS=>?_) λ _ _ _ z=>z
 ·have P1:=@aJn l.prog w _ _ base fs tb hk tops hblt htab hcon hst D f L 1 call _ _ hL hcall Fu;rw[hps] at P1;exact P1
 ·let(oc,od,kV,doc,pm,an,cdv,ct,osl,rfl,lk,hcd):=Fu.ex;have:=hb L (xAk hL) kV doc pm an cdv ct [u] (by rw[hps];rfl);rw[hps] at this;exact .of_eq this
 ·let(call',S',hcall',hrun):=main ns cY hsm;rw[hcall] at hcall';cases hcall';refine⟨H,[],[],[.d (.list (ns.map yAn))],.d (.bool true),S',rfl,⟨bY.refl _,List.nodup_nil,rfl,λ n a ds e=>by simp at e,λ n a e=>by simp at e⟩,.cons (Den.lst hS (DenL.of_ints ns)) .nil,hrun,λ F' L' H' v g R d=>?_⟩;cases (show Den (K w.params) F' (.bool true) v from d);rfl
end EV
namespace EV
open PySem L2
def aDy{α:Type}(S:List α)(a b:α):(S++[a]).set ↑S b=S++[b]:=by simp
def aDo{α:Type}{t:Tg}{fc:FT}{fe:FE}{S:aE}(enc g:α->D)(p:α->Bool):∀ (l:List α) (aF:List D),aF.length+↑l<=qy ->
 (∀ a∈l,∃ e1,t.put (enc a) env=qq e1/\(∀ S',fc e1 S'=qq (p a,S'))/\(p a=true->∀ S',fe e1 S'=qq (.d (g a),S'))) ->
 iU t fc fe ↑S env (l.map enc) (S++[qq aF])=qq (S++[qq (aF++(l.filter p).map g)])
 |[],aF,_,_=>by simp[iU]
 |a::l,aF,hz,h=>by
   let(e1,h1,h2,h3):=h a xAc;have hlt:aF.length<qy:=by simp at hz;omega
   have cJ:=λ x (hx:x∈l)=>h x (xAf _ hx)
   simp only[yAt,iU,h1,yCp,h2];cases hp:p a with
   |false=>
     simp only[yAx,if_false];rw[aDo enc g p l aF (by simp at hz;omega) cJ];simp[yCb,hp]
   |true=>
     have ea:dI (S++[qq aF]) (.loc ↑S) (.d (g a))=qq (.d .none,S++[qq (aF++[g a])]):=by
      unfold dI;simp only[yAf (yAd ↑S),yBf,yBc];rw[if_pos hlt,aDy]
     simp only[if_true,h3 hp,yCp,ea];rw[aDo enc g p l (aF++[g a]) (by simp at hz ⊢;omega) cJ];simp[yCb,hp]
def aPI{α:Type}{t:Tg}{fi:FL}{fc:FT}{fe:FE}(enc g:α->D)(p:α->Bool)(l:List α)(hi:fi env S=qq (l.map enc,S1))(hz:↑l<=qy)(h:∀ a∈l,∃ e1,t.put (enc a) (clr t.slots env)=qq e1/\(∀ S',fc e1 S'=qq (p a,S'))/\(p a=true->∀ S',fe e1 S'=qq (.d (g a),S'))):iG t fi fc fe env S=qq ((l.filter p).map g,S1):=by unfold iG;rw[hi];simp only[yCp];rw[aDo enc g p l [] (hz:) h];simp
def aDp{α:Type}{t:Tg}{fc:FT}{fe:FE}{env:bI}{S:aE}(enc g:α->D)(p:α->Bool):∀ (l:List α) (aF:List D),aF.length+↑l<=qy ->
 (∀ a∈l,∃ e1,t.put (enc a) env=qq e1/\(∀ aF,fc e1 (S++[qq aF])=qq (p a,S++[qq aF]))/\(p a=true->∀ aF,fe e1 (S++[qq aF])=qq (.d (g a),S++[qq aF]))) ->
 iU t fc fe ↑S env (l.map enc) (S++[qq aF])=qq (S++[qq (aF++(l.filter p).map g)])
 |[],aF,_,_=>by simp[iU]
 |a::l,aF,hz,h=>by
   let(e1,h1,h2,h3):=h a xAc;have hlt:aF.length<qy:=by simp at hz;omega
   have cJ:=λ x (hx:x∈l)=>h x (xAf _ hx)
   simp only[yAt,iU,h1,yCp,h2];cases hp:p a with
   |false=>
     simp only[yAx,if_false];rw[aDp enc g p l aF (by simp at hz;omega) cJ];simp[yCb,hp]
   |true=>
     have ea:dI (S++[qq aF]) (.loc ↑S) (.d (g a))=qq (.d .none,S++[qq (aF++[g a])]):=by
      unfold dI;simp only[yAf (yAd ↑S),yBf,yBc];rw[if_pos hlt,aDy]
     simp only[if_true,h3 hp,yCp,ea];rw[aDp enc g p l (aF++[g a]) (by simp at hz ⊢;omega) cJ];simp[yCb,hp]
def aAW{α:Type}{t:Tg}{fi:FL}{fc:FT}{fe:FE}(enc g:α->D)(p:α->Bool)(l:List α)(hi:fi env S=qq (l.map enc,S1))(hz:↑l<=qy)(h:∀ a∈l,∃ e1,t.put (enc a) (clr t.slots env)=qq e1/\(∀ aF,fc e1 (S1++[qq aF])=qq (p a,S1++[qq aF]))/\(p a=true->∀ aF,fe e1 (S1++[qq aF])=qq (.d (g a),S1++[qq aF]))):iG t fi fc fe env S=qq ((l.filter p).map g,S1):=by unfold iG;rw[hi];simp only[yCp];rw[aDp enc g p l [] (hz:) h];simp
def lU{α:Type}{t:Tg}{fi:FL}{fe:FE}(enc g:α->D)(l:List α)(hi:fi env S=qq (l.map enc,S1))(hz:↑l<=qy)(h:∀ a∈l,∃ e1,t.put (enc a) (clr t.slots env)=qq e1/\∀ S',fe e1 S'=qq (.d (g a),S')):iG t fi oC fe env S=qq (l.map g,S1):=by rw[aPI (fc:=oC) enc g (λ _=>true) l hi hz λ a ha=>let ⟨e1,h1,h2⟩:=h a ha;⟨e1,h1,λ _=>rfl,λ _=>h2⟩];rw[List.filter_eq_self.mpr (λ _ _=>rfl)]
def aQC(n:Nat):∀ lo:Int,mK lo n=(yBd n).map λ k=>yAn (lo+(k:Nat)):=by
 induction n with
 |zero=>intro lo;rfl
 |succ n ih=>
   intro lo;rw[mK,ih,List.range_succ_eq_map,yAt,yBh];congr 1
   ·simp
   ·apply yBx;intro k _;simp only[Function.comp];congr 1
    push_cast
    omega
end EV
namespace BM
def qX(n:Nat):0<2^n:=xAe n
def pN(n w:Nat):List Bool:=(yBd w).map n.testBit
def aPk(n w i:Nat):(pN n w).getD i false=(decide (i<w)&&n[i]!):=by
 unfold pN;by_cases h:i<w
 ·simp[yHi,h]
 ·simp[yHi,h]
def cP(h:n<2^w)(hi:w<=i):n[i]! =false:=Nat.testBit_lt_two_pow (xAb h (yAo (·) hi))
def bl(n:Nat):Nat:=if n=0 then 0 else n.log2+1
def tU(h:n≠0):bl n=n.log2+1:=if_neg h
def jS(n:Nat):n<2^bl n:=by
 by_cases h:n=0
 ·subst h;decide
 ·rw[tU h];exact Nat.lt_log2_self
def nH(h:n≠0):n[(bl n-1)]! =true:=by
 rw[tU h,yGw];have h1:2^n.log2<=n:=Nat.log2_self_le h;have h2:n<2^(n.log2+1):=Nat.lt_log2_self;rw[Nat.testBit_eq_decide_div_mod_eq];have:n/2^n.log2=1:=by
  apply Nat.div_eq_of_lt_le
  ·omega
  ·rw[yEv] at h2;omega
 simp[this]
def pP(h:n<2^w):bl n<=w:=by
 by_cases h0:n=0
 ·subst h0;simp[bl]
 ·rw[tU h0];exact(Nat.log2_lt h0).mpr h
def aG1(h1:n<2^k)(h2:k=0\/n[(k-1)]! =true):bl n=k:=by
 rcases h2 with h2|h2
 ·subst h2;have:n=0:=(h1:)
  subst this;rfl
 ·have h3:=pP h1;rcases yGt (bl n) k with h4|h4
  ·exfalso;have:=cP (jS n) (show bl n<=k-1 by omega);rw[this] at h2;cases h2
  ·omega
def cV(w i:Nat):(2^w-1)[i]! =decide (i<w):=Nat.testBit_two_pow_sub_one w i
def mN(l:List Bool):Nat:=(l.takeWhile id).length
def aHu(r:List Bool):mN (true::r)=mN r+1:=by simp[mN]
def aGN(r:List Bool):mN (false::r)=0:=by simp[mN]
def aHV:∀ (l:List Bool) (i:Nat),i<mN l->l[i]?=qq true
 |[],i,h=>by simp[mN] at h|false::r,i,h=>by simp[aGN] at h|true::r,0,h=>rfl|true::r,i+1,h=>by rw[aHu] at h;simpa using aHV r i (!_)
def aNJ(m:Nat):(2*m+1)^^^(2*m+1+1)=2*(m^^^(m+1))+1:=by
 apply xAl;intro i;cases i with
 |zero=>rw[yAl];simp[yDs];omega
 |succ i=>
   rw[yAl,yDd,yDd,yDd];rw[show(2*m+1)/2=m by omega,show(2*m+1+1)/2=m+1 by omega,show(2*(m^^^(m+1))+1)/2=(m^^^(m+1)) by omega,yAl]
def aNv(m:Nat):(2*m)^^^(2*m+1)=1:=by
 apply xAl;intro i;cases i with
 |zero=>rw[yAl];simp[yDs]
 |succ i=>
   rw[yAl,yDd,yDd,yDd];rw[show(2*m)/2=m by omega,show(2*m+1)/2=m by omega];simp
def aPu(x:Nat):bl (2*x+1)=bl x+1:=by
 apply aG1
 ·have:=jS x;rw[yEv];omega
 ·right;rw[yGw];by_cases h:x=0
  ·subst h;rfl
  ·have h2:=nH h;have h3:bl x=(bl x-1)+1:=by rw[tU h];omega
   rw[h3,yDd,show(2*x+1)/2=x by omega];exact h2
def aGA(n:Nat):n^^^(n+1)≠0:=by
 intro h;have:n=n+1:=by
  have:=congrArg (λ z=>z^^^(n+1)) h;simpa [Nat.xor_assoc] using this
 omega
def aAM(h:n≠0):1<=bl n:=by rw[tU h];omega
def aOo(n w:Nat):pN n (w+1)=n[0]!::pN (n/2) w:=by unfold pN;rw[List.range_succ_eq_map,yAt,yBh];congr 1;apply yBx;intro i _;simp only[Function.comp];exact yDd n i
def aGL:∀ (w n:Nat),n<2^w->bl (n^^^(n+1))-1=mN (pN n w)
 |0,n,h=>by
   have:n=0:=(h:)
   subst this;rfl
 |w+1,n,h=>by
   rw[aOo];have hd:n/2<2^w:=by rw[yEv] at h;omega
   have ih:=aGL w (n/2) hd;rcases yAs n with p|p
   ·have e:n=2*(n/2):=by omega
    have e2:n^^^(n+1)=1:=by rw[e];exact aNv _
    rw[e2,yDs,p];rw[show bl 1=1 from by decide];simp[aGN]
   ·have e:n=2*(n/2)+1:=by omega
    have e2:n^^^(n+1)=2*((n/2)^^^(n/2+1))+1:=by
     have:=aNJ (n/2);rw[<- e] at this;exact this
    rw[e2,aPu,yDs,p];simp only[decide_true,aHu];have:=aAM (aGA (n/2));omega
def hi(l:List Bool):Nat:=↑l-mN (l.reverse.map (!·))
def aN2(h:n<2^w):n^^^(2^w-1)<2^w:=yCe h (by have:=qX w;omega)
def cW(n w v:Nat):Nat:=if n&&&2^(w-1)=0 then n else n|||((2^v-1)^^^(2^w-1))
def aGc(n k:Nat):(n&&&2^k=0) ↔ n[k]! =false:=by
 constructor
 ·intro h;have:=congrArg (λ z=>z[k]!) h;simpa [yAh,Nat.testBit_two_pow_self] using this
 ·intro h;apply xAl;intro i;rw[yAh,yCj,yAq];by_cases e:k=i
  ·subst e;simp[h]
  ·simp[e]
def sX(h:n<2^w)(hw:0<w)(hv:w<=v)(i:Nat):(cW n w v)[i]! =if i<w then n[i]! else (decide (i<v)&&n[(w-1)]!):=by
 unfold cW;cases e:n[(w-1)]! with
 |false=>
   rw[if_pos ((aGc _ _).mpr e)];split
   ·rfl
   ·rw[cP h (!_)];simp
 |true=>
   rw[if_neg (λ z=>by rw[(aGc _ _).mp z] at e;cases e)];rw[xAo,yAl,cV,cV];split
   ·rename_i hi;have:i<v:=by omega
    simp[hi,this]
   ·rename_i hi;rw[cP h (!_)];simp[hi]
def vQ(h:n<2^w)(hw:0<w)(hv:w<=v):cW n w v<2^v:=by
 apply yCv;intro i hi;rw[sX h hw hv,if_neg (!_)];have:¬ i<v:=by omega
 simp[this]
def aBf(x d:Nat):Nat:=x/2^d*2^d
def aAp(x d i:Nat):(aBf x d)[i]! =(decide (d<=i)&&x[i]!):=by
 unfold aBf;rw[Nat.testBit_mul_two_pow];by_cases h:d<=i
 ·simp[h,yDf,show i-d+d=i by omega]
 ·simp[h]
def qM(x w:Nat):Nat:=2^w-1-x
def pC(h:x<2^w)(i:Nat):(qM x w)[i]! =(decide (i<w) && !x[i]!):=by unfold qM;rw[show 2^w-1-x=2^w-(x+1) by omega];exact Nat.testBit_two_pow_sub_succ h i
def xI(l g w:Nat):Nat:=(2^w-1)^^^(2^bl (l^^^g)-1)
def aCZ(hl:l<2^w)(hg:g<2^w)(i:Nat):(xI l g w)[i]! =(decide (i<w)&&decide (bl (l^^^g)<=i)):=by
 unfold xI;rw[yAl,cV,cV];have hd:bl (l^^^g)<=w:=pP (yCe hl hg);by_cases h1:i<w<;>by_cases h2:i<bl (l^^^g)
 ·simp[h1,h2,show ¬ bl (l^^^g)<=i by omega]
 ·simp[h1,h2,show bl (l^^^g)<=i by omega]
 ·omega
 ·simp[h1,h2]
def pM(l g w:Nat):Nat:=xI l g w&&&l
def wI(l g w:Nat):Nat:=xI l g w^^^pM l g w
def aPZ(hl:l<2^w)(hg:g<2^w):pM l g w=aBf l (bl (l^^^g)):=by
 apply xAl;intro i;rw[pM,yAh,aCZ hl hg,aAp];by_cases h1:i<w
 ·simp[h1]
 ·rw[cP hl (!_)];simp
def aNY(hl:l<2^w)(hg:g<2^w):wI l g w=aBf (qM l w) (bl (l^^^g)):=by apply xAl;intro i;rw[wI,yAl,pM,yAh,aCZ hl hg,aAp,pC hl];by_cases h1:i<w<;>by_cases h2:bl (l^^^g)<=i<;>cases l[i]!<;>simp[h1,h2]
def bAf(h:bl (l^^^g)<=i):l[i]! =g[i]!:=by have:=cP (jS (l^^^g)) h;rw[yAl] at this;cases a:l[i]!<;>cases b:g[i]!<;>simp[a,b] at this ⊢
def aPm(h:l^^^g<2^d):l/2^d=g/2^d:=by apply xAl;intro i;rw[yDf,yDf];have:=cP h (show d<=i+d by omega);rw[yAl] at this;cases a:l[(i+d)]!<;>cases b:g[(i+d)]!<;>simp[a,b] at this ⊢
def aNZ(h1:l<=m)(h2:m<=g):m/2^bl (l^^^g)=l/2^bl (l^^^g):=by have e:=aPm (jS (l^^^g));have a:=Nat.div_le_div_right (c:=2^bl (l^^^g)) h1;have b:=Nat.div_le_div_right (c:=2^bl (l^^^g)) h2;omega
def aGz(h1:l<=m)(h2:m<=g)(hi:bl (l^^^g)<=i):m[i]! =l[i]!:=by have:=congrArg (λ z=>z[(i-bl (l^^^g))]!) (aNZ h1 h2);simp only[yDf] at this;rwa [show i-bl (l^^^g)+bl (l^^^g)=i by omega] at this
def aNo(hl:l<2^w)(hg:g<2^w)(h1:l<=m)(h2:m<=g):m&&&wI l g w=0:=by
 apply xAl;intro i;rw[yAh,aNY hl hg,aAp,pC hl,yAq];by_cases h:bl (l^^^g)<=i
 ·rw[aGz h1 h2 h];cases l[i]!<;>simp
 ·simp[h]
def aNF(hl:l<2^w)(hg:g<2^w)(h1:l<=m)(h2:m<=g):m&&&pM l g w=pM l g w:=by
 apply xAl;intro i;rw[yAh,aPZ hl hg,aAp];by_cases h:bl (l^^^g)<=i
 ·rw[aGz h1 h2 h];cases l[i]!<;>simp
 ·simp[h]
end BM
namespace BM
def iE(n k i:Nat):(n/2^k)[i]! =n[(k+i)]!:=by rw[yDf,yDh]
def kP(n:Nat):n=0 ↔ ∀ i,n[i]! =false:=by
 constructor
 ·rintro rfl i;simp
 ·intro h;apply xAl;intro i;simp[h i]
def aCL(m k:Nat):m/2^k=0 ↔ ∀ i,k<=i->m[i]! =false:=by
 rw[kP];constructor
 ·intro h i hi;have:=h (i-k);rw[iE,show k+(i-k)=i by omega] at this;exact this
 ·intro h i;rw[iE];exact h _ (!_)
def bJ(a b:Nat):Nat:=a-(a&&&b)
def aSG(a b:Nat):bJ a b=a^^^(a&&&b):=by
 have h:(a^^^(a&&&b))+(a&&&b)=a:=by
  have key:∀ (n x y:Nat),x<=n->(x^^^(x&&&y))+(x&&&y)=x:=by
   intro n
   induction n with
   |zero=>
     intro x y hx;have:x=0:=by omega
     subst this;simp
   |succ n ih=>
     intro x y hx;by_cases h0:x=0
     ·subst h0;simp
     ·have ih':=ih (x/2) (y/2) (!_);have e1:(x^^^(x&&&y))/2=(x/2)^^^((x/2)&&&(y/2)):=by
       apply xAl;intro i;simp[Nat.testBit_div_two]
      have e2:(x&&&y)/2=(x/2)&&&(y/2):=by
       apply xAl;intro i;simp[Nat.testBit_div_two]
      have m1:(x^^^(x&&&y))%2=(x%2+(x&&&y)%2)%2:=by
       have a1:=yEc (x^^^(x&&&y)) 0;have a2:=yEc x 0;have a3:=yEc (x&&&y) 0;simp only[yCk,yFz] at a1 a2 a3;rw[<- a1,<- a2,<- a3,yAl,yAh];cases x[0]!<;>cases y[0]!<;>rfl
      have m2:(x&&&y)%2<=x%2:=by
       have a2:=yEc x 0;have a3:=yEc (x&&&y) 0;simp only[yCk,yFz] at a2 a3;rw[<- a2,<- a3,yAh];cases x[0]!<;>cases y[0]!<;>decide
      rw[<- e1,<- e2] at ih';omega
  exact key a a b (yAd _)
 unfold bJ;omega
def dJ(a b i:Nat):(bJ a b)[i]! =(a[i]! && !b[i]!):=by rw[aSG,yAl,yAh];cases a[i]!<;>cases b[i]!<;>rfl
def wA(a b:Nat):bJ a b=0 ↔ ∀ i,a[i]! =true->b[i]! =true:=by
 rw[kP];constructor
 ·intro h i ha;have:=h i;rw[dJ,ha] at this;simpa using this
 ·intro h i;rw[dJ];cases ha:a[i]! with|false=>rfl|true=>rw[h i ha];rfl
def aGl(h:x<2^k)(i:Nat):(x+q*2^k)[i]! =if i<k then x[i]! else q[(i-k)]!:=by rw[yDh,yFo,Nat.testBit_two_pow_mul_add _ h]
def aRa(h:n<2^w)(hw:0<w):n/2^(w-1)=(n[(w-1)]!).toNat:=by
 rw[yEc];have:n/2^(w-1)<2:=by
  rw[yEw (xAe _),<- Nat.pow_succ'];rw[show(w-1).succ=w by omega];exact h
 exact(yCc this).symm
end BM
namespace BM
open PySem
def aMt(a b:Nat):yEq a b=((a&&&b:Nat):Int):=by unfold yEq;rw[dqT (yGr a),dqT (yGr b)];simp
def bOr(a b:Nat):yHm a b=((a|||b:Nat):Int):=by
 unfold yHm yEq yBt;rw[dqF (show ¬ (0:Int) <= -(a:Int)-1 by omega),dqF (show ¬ (0:Int) <= -(b:Int)-1 by omega)];have e1:(-(-(a:Int)-1)-1).toNat=a:=by omega
 have e2:(-(-(b:Int)-1)-1).toNat=b:=by omega
 simp only[e1,e2];omega
def aGr:∀ (n a b:Nat),a<=n->(a^^^b)+(a&&&b)=(a|||b)
 |0,a,b,h=>by
   have:a=0:=by omega
   subst this;simp
 |n+1,a,b,h=>by
   by_cases ha:a=0
   ·subst ha;simp
   have ih:=aGr n (a/2) (b/2) (!_);have x2:=Nat.xor_div_two (a:=a) (b:=b);have a2:=Nat.and_div_two (a:=a) (b:=b);have o2:=Nat.or_div_two (a:=a) (b:=b);have xm:(a^^^b)%2=(a%2+b%2)%2:=by
    have:=yAl a b 0;simp only[yDs] at this;rcases yAs a with p|p<;>rcases yAs b with q|q<;>rcases yAs (a^^^b) with r|r<;>simp[p,q,r] at this ⊢
   have am:(a&&&b)%2=(a%2)*(b%2):=by
    have:=yAh a b 0;simp only[yDs] at this;rcases yAs a with p|p<;>rcases yAs b with q|q<;>rcases yAs (a&&&b) with r|r<;>simp[p,q,r] at this ⊢
   have om:(a|||b)%2=(a%2+b%2)-(a%2)*(b%2):=by
    have:=xAo a b 0;simp only[yDs] at this;rcases yAs a with p|p<;>rcases yAs b with q|q<;>rcases yAs (a|||b) with r|r<;>simp[p,q,r] at this ⊢
   have h1:=yCm (a^^^b) 2;have h2:=yCm (a&&&b) 2;have h3:=yCm (a|||b) 2;rcases yAs a with p|p<;>rcases yAs b with q|q<;>rw[p,q] at xm am om<;>omega
def aYM(a b:Nat):yHc a b=((a^^^b:Nat):Int):=by unfold yHc;rw[aMt,bOr];have:=aGr a a b (yAd _);omega
def aN4(a:Nat):((a:Int)).natAbs=a:=by omega
def aGp(a:Nat):yAm a=if a=0 then 0 else a.log2+1:=by
 unfold yAm;by_cases h:a=0
 ·subst h;rfl
 ·rw[if_neg h,if_neg (by simp;omega),aN4]
def aOy{a n:Nat}(h:a<2^n):yAm a<=n:=by
 rw[aGp];split
 ·exact yDw _
 ·rename_i h0;exact(Nat.log2_lt h0).mpr h
def aDk(n:Nat):((2^n:Nat):Int)=(2:Int)^n:=by simp
def aY7{x y:Int}(h:y.natAbs.log2<9000):yDe x y=false:=by
 unfold yDe;dsimp only;have:¬ ((if (y==0)=true then 0 else y.natAbs.log2/30+1)>300):=by
  split
  ·omega
  ·omega
 rw[dqF this];rfl
end BM
namespace EV
open PySem L2 BM
def dS(i j:Int):cB .Add (.int i) (.int j)=qq (.int (i+j)):=rfl
def cO(i j:Int):cB .Sub (.int i) (.int j)=qq (.int (i-j)):=rfl
def dC(a b:Nat):cB .BitAnd (.int a) (.int b)=qq (.int ((a&&&b:Nat):Int)):=by simp only[cB,lZ,aMt]
def eQ(a b:Nat):cB .BitOr (.int a) (.int b)=qq (.int ((a|||b:Nat):Int)):=by simp only[cB,lZ,bOr]
def jC(a b:Nat):cB .BitXor (.int a) (.int b)=qq (.int ((a^^^b:Nat):Int)):=by simp only[cB,lZ,aYM]
def gB{w:Nat}(h1:w<=100000):cB .LShift (.int 1) (.int w)=qq (.int ((2^w:Nat):Int)):=by have c:(0:Int)<=w/\(yAm 1:Int)+w<=2^27:=⟨by omega,by(have:(yAm 1:Int)=1:=(·);omega)⟩;simp only[cB,lZ];rw[if_pos c,Int.one_mul,yAu,aDk]
def tL{n a k:Nat}(h:n<2^a)(h2:a+k<=100000):cB .LShift (.int n) (.int k)=qq (.int ((n*2^k:Nat):Int)):=by
 have c:(0:Int)<=(k:Nat)/\((yAm (n:Int):Nat):Int)+(k:Nat)<=2^27:=by
  have:=aOy h;exact⟨by omega,by omega⟩
 simp only[cB,lZ];rw[if_pos c,yAu,<- aDk];congr 2
def gD{i j:Int}(h:0<j):cB .Mod (.int i) (.int j)=qq (.int (i%j)):=by simp only[cB,lZ];rw[if_pos (!_),Int.fmod_eq_emod_of_nonneg _ (!_)]
def oY{i j:Int}(h:0<j)(h2:j<2^64):cB .FloorDiv (.int i) (.int j)=qq (.int (i/j)):=by simp only[cB,lZ];have h3:j.natAbs.log2<9000:=yHy ((Nat.log2_lt (!_)).mpr (show j.natAbs<2^64 by omega)) (·);rw[if_pos ⟨by omega,aY7 h3⟩,Int.fdiv_eq_ediv_of_nonneg _ (!_)]
def aNR{i j:Int}(h1 : -(2^64)<j)(h2:j<2^64):pQ i j=true:=by unfold pQ;have:=intBits_le_64 h1 h2;have h:¬ (yAm j>vo):=Nat.not_lt.mpr this;rw[dqF h];simp
def aNK{i j:Int}(h1 : -(2^64)<i)(h2:i<2^64):pQ i j=true:=by unfold pQ;have:=intBits_le_64 h1 h2;have h:¬ (yAm i>vo):=Nat.not_lt.mpr this;rw[dqF h];simp
def wT{i j:Int}(h1 : -(2^64)<j)(h2:j<2^64):cB .Mult (.int i) (.int j)=qq (.int (i*j)):=by show(if pQ i j=true then qq (yAn (i*j)) else qz)=_;rw[if_pos (aNR h1 h2)]
def lS{i j:Int}(h1 : -(2^64)<i)(h2:i<2^64):cB .Mult (.int i) (.int j)=qq (.int (i*j)):=by show(if pQ i j=true then qq (yAn (i*j)) else qz)=_;rw[if_pos (aNK h1 h2)]
def aIA{xs ys:List D}(h:↑xs+↑ys<=1000000):cB .Add (.list xs) (.list ys)=qq (.list (xs++ys)):=by show(if ↑xs+↑ys<=qy then qq (yEx (xs++ys)) else qz)=_;rw[if_pos (by rw[qo];omega)]
def aQo{α:Type}(k:Nat)(x:α):zG k [x]=yAg k x:=by
 unfold zG
 induction k with
 |zero=>rfl|succ k ih=>rw[yAy,yDi,ih,yAy];rfl
def aZ(i j:Int):aS .Eq (.int i) (.int j)=qq (.bool (i==j)):=rfl
def kT(i j:Int):aS .NotEq (.int i) (.int j)=qq (.bool (!(i==j))):=rfl
def dM(i j:Int):aS .Lt (.int i) (.int j)=qq (.bool (decide (i<j))):=rfl
def aEh(i j:Int):aS .LtE (.int i) (.int j)=qq (.bool (decide (i<=j))):=rfl
def kR(i j:Int):aS .Gt (.int i) (.int j)=qq (.bool (decide (j<i))):=rfl
def xN(i j:Int):aS .GtE (.int i) (.int j)=qq (.bool (decide (j<=i))):=rfl
end EV
namespace EV
open PySem L2 BM
def oB{α β:Type}(a:α)(f:α->Option β):(qq a).bind f=f a:=of_eq_true (eq_self (f a))
def oM{α β:Type}(a:α)(f:α->β):(qq a).map f=qq (f a):=of_eq_true (eq_self (qq (f a)))
def cl(fs:List Fn)(d f:Nat)(ws:List W)(S:aE):Option (W×aE):=match aC fs d f with
 |some (np,call)=>if ↑ws=np then call ws S else qz
 |none=>qz
def aG5(fs:List Fn)(d f:Nat)(fa:FA)(env:bI)(S:aE):lY (aC fs d) f fa env S=(fa env S).bind λ p=>cl fs d f p.1 p.2:=by
 unfold lY cl aBE;cases aC fs d f with
 |none=>cases fa env S<;>rfl|some q=>rfl
def bE(h:fs[f]?=qq F)(d:Nat)(ws:List W)(S:aE)(hw:↑ws=F.np):cl fs (d+1) f ws S=gL (xs (aC fs d) F.body) F.N.length ws S:=by
 have e:aC fs (d+1) f=qq (F.np,gL (xs (aC fs d) F.body) F.N.length):=by
  show(fs[f]?).map _=_;rw[h];rfl
 unfold cl;rw[e];exact if_pos hw
def aR1(h:fs[f]?=qq F)(hn:F.np=1)(e:cl fs (d+1) f [w] []=qq (r,S)):∃ call S',aC fs (d+1) f=qq (1,call)/\call [w] []=qq (r,S'):=by
 refine⟨gL (xs (aC fs d) F.body) F.N.length,S,?_,?_⟩
 ·show(fs[f]?).map _=_;rw[h,<- hn];rfl
 ·rw[<- bE h d [w] [] (by rw[hn];rfl)];exact e
def szT(h:n<=1000):(n<=qy)=True:=by rw[qo];exact eq_true (!_)
def aOd{α:Type}(g:α->Int)(l:List α):rG (l.map λ x=>yAn (g x))=qq (l.map g):=by
 induction l with
 |nil=>rfl|cons x r ih=>simp only[yAt,rG,ih,yCp]
end EV
namespace EV
open PySem L2 BM
def aC6(w:Nat):((2^w:Nat):Int)-1=((2^w-1:Nat):Int):=by have:=qX w;omega
def qS{fa:FE}{env:bI}{S S1:aE}{w:Nat}(h:fa env S=qq (.d (.int w),S1))(hw:w<=1000000):yG fa env S=qq ((yBd w).map (λ k=>yAn (k:Nat)),S1):=by have c : -(2^62)<=((w:Nat):Int)/\((w:Nat):Int)<2^62:=⟨by omega,by omega⟩;unfold yG;rw[h,oB];simp only[];rw[if_pos c,aQC,yAu];congr 2;apply yBx;intro k _;rw[Int.zero_add]
def aH1(h:env[i]?=qq (qq w)):jI i env S=qq (w,S):=by unfold jI;rw[h]
def iT{xs:List D}{k:Nat}{x:D}(h:xs[k]?=qq x):aN (.list xs) (.int k)=qq x:=by have hl:k<↑xs:=(gIm h).1;show(kK ↑xs ((k:Nat):Int)).bind (λ j=>xs[j]?)=qq x;unfold kK;rw[if_pos (!_),if_pos (!_),oB,yAu];exact h
def gE{xs:List D}{k:Nat}{x:D}(h:xs[k]?=qq x):aN (.tuple xs) (.int k)=qq x:=@iT xs _ _ h
def aS3(xs:List D)(k:Nat):fA xs qz (qq (k:Nat))=xs.take k:=by
 unfold fA;rw[HT.sIx_none,HT.sIx_nat,yFd,yGu];rcases yGv k ↑xs with h|h
 ·rw[yDn h]
 ·rw[yDr h,yAe,yCf h]
def aIF{t:Tg}{fb:FS}(P:Nat->bI->aE->Prop):∀ (ds:List D) (i:Nat) (env:bI) (S:aE),P i env S->(∀ j d env S,ds[j]?=qq d->P (i+j) env S->∃ e1 aY S',t.put d env=qq e1/\fb e1 S=qq (.nx aY,S')/\P (i+j+1) aY S') ->
 ∃ aY S',kC t fb ds env S=qq (.nx aY,S')/\P (i+↑ds) aY S'
 |[],i,env,S,h0,_=>⟨env,S,rfl,h0⟩
 |d::ds,i,env,S,h0,h=>by
   let(e1,aY,S',h1,h2,h3):=h 0 d env S rfl h0;let(env2,S2,h4,h5):=aIF P ds (i+1) aY S' h3 λ j d' env S a b=>by
    have:=h (j+1) d' env S (a:) (by rw[show i+(j+1)=i+1+j by omega];exact b);rw[show i+(j+1)=i+1+j by omega] at this;exact this
   refine⟨env2,S2,by simp only[kC,h1,oB,h2];exact h4,?_⟩;have:i+(d::ds).length=i+1+↑ds:=by simp;omega
   rw[this];exact h5
def nK{t:Tg}{fi:FL}{fb:FS}(P:Nat->bI->aE->Prop)(hi:fi env S=qq (ds,S1))(h0:P 0 env S1)(h:∀ j d env S,ds[j]?=qq d->P j env S->∃ e1 aY S',t.put d env=qq e1/\fb e1 S=qq (.nx aY,S')/\P (j+1) aY S') :
 ∃ aY S',gZ t fi fb env S=qq (.nx aY,S')/\P ↑ds aY S':=by
 let(aY,S',h1,h2):=@aIF t fb P ds 0 env S1 h0 λ j d env S a b=>by
  have:=h j d env S a (b:);simpa using this
 exact⟨aY,S',by unfold gZ;rw[hi,oB];exact h1,by simpa using h2⟩
def aHW{α:Type}(f:α->Nat):∀ l:List α,(l.map λ x=>((f x:Nat):Int)).sum=(((l.map f).sum:Nat):Int)
 |[]=>rfl
 |x::r=>by
   rw[yAt,yAt,List.sum_cons,List.sum_cons,aHW f r]
   push_cast
   rfl
def eC{xs:List D}:eX [.list xs]=qq (.int ↑xs):=rfl
def dL{xs:List D}:eX [.tuple xs]=qq (.int ↑xs):=rfl
def jE{xs:List D}:xL [.list xs]=qq (.tuple xs):=rfl
def jG{xs:List D}:xL [.tuple xs]=qq (.tuple xs):=rfl
def aEl{i:Int}:zC [.int i]=qq (.int i):=rfl
def aEq:zC [.bool k]=qq (.int (if k then 1 else 0)):=rfl
def oX(n k:Nat):cB .RShift (.int n) (.int k)=qq (.int ((n/2^k:Nat):Int)):=by
 have c:(0:Int)<=(k:Nat):=by omega
 simp only[cB,lZ];rw[if_pos c,yAu,<- aDk];congr 2
def aHP(a b:Nat):cB .BitAnd (.int a) (.int (yBt (b:Nat)))=qq (.int ((bJ a b:Nat):Int)):=by
 have h1:decide ((0:Int)<=(a:Nat))=true:=dqT (!_);have h2:decide ((0:Int)<=yBt (b:Nat))=false:=dqF (by unfold yBt;omega);have h3:(yBt (yBt (b:Nat))).toNat=b:=by unfold yBt;omega
 have h4:a&&&b<=a:=yCz;simp only[cB,lZ];unfold yEq;rw[h1,h2];simp only[h3,yAu];congr 2;unfold bJ;omega
def aJa(i:Int):sK .Invert (.int i)=qq (.int (yBt i)):=rfl
def aDi{x:D}{k:Nat}(h:k<=1000):cB .Mult (.tuple [x]) (.int k)=qq (.tuple (yAg k x)):=by show(if 0<=((k:Nat):Int)/\((k:Nat):Int)<=1000 then qq (yAj (yAg ((k:Nat):Int).toNat x)) else qz)=_;rw[if_pos ⟨by omega,by omega⟩,yAu]
def aH7{α:Type}{t:Tg}{fe:FE}(enc:α->D)(I:Nat->aE->Prop)(Q:α->D->Prop):∀ (l:List α) (aF:List D) (j:Nat) (S:aE),aF.length+↑l<=qy->j+↑l<=N->↑S=n->I j S ->
 (∀ a∈l,∃ e1,t.put (enc a) env=qq e1/\∀ j S aF,j<N->↑S=n->I j S->∃ v S',fe e1 (S++[qq aF])=qq (.d v,S'++[qq aF])/\↑S'=n/\I (j+1) S'/\Q a v) ->
 ∃ vs S',iU t oC fe n env (l.map enc) (S++[qq aF])=qq (S'++[qq (aF++vs)])/\↑S'=n/\I (j+↑l) S'/\↑vs=↑l/\∀ (i:Nat) (a:α),l[i]?=qq a->∃ v,vs[i]?=qq v/\Q a v
 |[],aF,j,S,_,_,hn,hI,_=>⟨[],S,by simp[iU],hn,hI,rfl,by simp⟩
 |a::l,aF,j,S,hz,hN,hn,hI,h=>by
   let(e1,h1,h2):=h a xAc;let(v,S1,h3,h4,h5,h6):=h2 j S aF (by simp at hN;omega) hn hI;have hlt:aF.length<qy:=by simp at hz;omega
   have ea:dI (S1++[qq aF]) (.loc n) (.d v)=qq (.d .none,S1++[qq (aF++[v])]):=by
    unfold dI;subst h4;simp only[yAf (yAd ↑S1),yBf,yBc];rw[if_pos hlt,aDy]
   let(vs,S2,h7,h8,h9,h10,h11):=aH7 enc I Q l (aF++[v]) (j+1) S1 (by simp at hz ⊢;omega) (by simp at hN;omega) h4 h5 λ x hx=>h x (xAf _ hx)
   refine⟨v::vs,S2,?_,h8,by rw[yBg,show j+(↑l+1)=j+1+↑l by omega];exact h9,by simp[h10],λ i b hb=>?_⟩
   ·simp only[yAt,iU,h1,oC,oB,if_true,h3,ea];rw[h7];simp
   ·cases i with|zero=>simp at hb;subst hb;exact⟨v,rfl,h6⟩|succ i=>simpa using h11 i b (hb:)
def aIk{α:Type}{t:Tg}{fi:FL}{fe:FE}(enc:α->D)(I:Nat->aE->Prop)(Q:α->D->Prop)(l:List α)(hi:fi env S=qq (l.map enc,S1))(hz:↑l<=qy)(h0:I 0 S1)(h:∀ a∈l,∃ e1,t.put (enc a) (clr t.slots env)=qq e1/\∀ j S aF,j<↑l->↑S=↑S1->I j S->∃ v S',fe e1 (S++[qq aF])=qq (.d v,S'++[qq aF])/\↑S'=↑S1/\I (j+1) S'/\Q a v) :
 ∃ vs S',iG t fi oC fe env S=qq (vs,S')/\↑S'=↑S1/\I ↑l S'/\↑vs=↑l/\∀ (i:Nat) (a:α),l[i]?=qq a->∃ v,vs[i]?=qq v/\Q a v:=by let(vs,S',h1,h2,h3,h4,h5):=@aH7 ↑l ↑S1 _ _ _ fe enc I Q l [] 0 S1 (hz:) (by simp) rfl h0 h;refine⟨vs,S',?_,h2,by simpa using h3,h4,h5⟩;unfold iG;rw[hi];simp only[oB];rw[h1];simp[<- h2]
def aEk{α:Type}(a:α):yEt 1 [a]=[a]:=rfl
def aEi{α:Type}(a b:α):yEt 1 [a,b]=[a]:=rfl
def aEp{α:Type}(a b:α):yEt 2 [a,b]=[a,b]:=rfl
end EV
namespace EV
open PySem L2 BM
section
variable {C:Calls}{env:bI}{S S1 S2 S3 S4:aE}{a b c e es r:E}
def aWA(h:env[i]?=qq (qq w)):ev C (.var i) env S=qq (w,S):=by rw[aBy];exact aH1 h
def aXA{i:Int}:ev C (.int i) env S=qq (.d (.int i),S):=rfl
def aZr:ev C (.bl i) env S=qq (.d (.bool i),S):=rfl
def aXB:ev C .non env S=qq (.d .none,S):=rfl
def aYc:ev C (.str i) env S=qq (.d (.str i),S):=rfl
def aWC(ha:ev C a env S=qq (.d x,S1))(hb:ev C b env S1=qq (.d y,S2))(hz:cB op x y=qq z):ev C (.bin op a b) env S=qq (.d z,S2):=by simp only[aKO,sG,f2,ha,oB,hb,hZ,dr,hz]
def aYN(ha:ev C a env S=qq (.d x,S1))(hz:sK op x=qq z):ev C (.un op a) env S=qq (.d z,S1):=by simp only[aK9,zS,f1,ha,oB,gS,dr,hz]
def aLl(ha:ev C a env S=qq (.d x,S1))(hb:ev C b env S1=qq (.d y,S2))(hz:aS op x y=qq z):ev C (.cmp op a b) env S=qq (.d z,S2):=by simp only[aD2,oD,f2,ha,oB,hb,hZ,dr,hz]
def aZi(ha:ev C a env S=qq (wa,S1))(hb:ev C b env S1=qq (.d y,S2))(hx:dr S2 wa=qq x)(hz:aN x y=qq z):ev C (.ix a b) env S=qq (.d z,S2):=by have h2:dr S2 (.d y)=qq y:=rfl;simp only[aBL,oQ,f2,ha,oB,hb,hZ,hx,h2,hz]
def aYp:dr S (.d x)=qq x:=rfl
def aWV{n:Nat}{l:List D}(h:S[n]?=qq (qq l)):dr S (.loc n)=qq (.list l):=by simp only[dr,h]
def aTc:oR S []=qq []:=rfl
def aWH(h:dr S w=qq x)(k:oR S ws=qq ds):oR S (w::ws)=qq (x::ds):=by simp only[oR,h,k,oB]
def slD(d:D)(l h:Option Int):Option D:=match d with|.list xs=>qq (.list (fA xs l h))|.tuple xs=>qq (.tuple (fA xs l h))|_=>qz
def aZx{lo hi:E}(ha:ev C a env S=qq (wa,S1))(hl:ov C lo env S1=qq (l,S2))(hh:ov C hi env S2=qq (h,S3))(hx:dr S3 wa=qq x)(hz:slD x l h=qq z):ev C (.sl a lo hi) env S=qq (.d z,S3):=by simp only[aEN,mS,ha,oB,hl,hh,hx];cases x<;>first|(cases hz;done)|(cases hz;rfl)
def aZu:ov C .no env S=qq (qz,S):=rfl
def aU0{i:Int}(h:ev C a env S=qq (.d (.int i),S1)):ov C (.cons a .nil) env S=qq (qq i,S1):=by simp only[aIJ,nP,h,oB]
def aXJ(ho:ev C o env S=qq (wo,S1))(ha:ev C a env S1=qq (wa,S2))(h:dI S2 wo wa=qq (w,S3)):ev C (.app o a) env S=qq (w,S3):=by simp only[aKv,gK,f2,ho,oB,ha,h]
def aWF(ht:tv C c env S=qq (p,S1))(k:cond p (ev C a env S1) (ev C b env S1)=R):ev C (.ite c a b) env S=R:=by rw[<- k];cases p<;>simp only[aKt,zD,ht,oB,yAx,if_false,if_true,cond_true,cond_false]
def aYn(ha:ev C a env S=qq (.d (.bool p),S1))(k:cond p (ev C b env S1) (qq (.d (.bool false),S1))=R):ev C (.and a b) env S=R:=by rw[<- k];cases p<;>simp only[aKV,xW,ha,oB,cond_true,cond_false]
def aZq(ha:ev C a env S=qq (.d (.bool p),S1))(k:cond p (qq (.d (.bool true),S1)) (ev C b env S1)=R):ev C (.or a b) env S=R:=by rw[<- k];cases p<;>simp only[aLR,yM,ha,oB,cond_true,cond_false]
def aXf(ha:ev C a env S=qq (.d (.bool p),S1)):ev C (.not a) env S=qq (.d (.bool (!p)),S1):=by simp only[aJS,yF,ha,oB]
def aV4(ha:ev C a env S=qq (wa,S1))(hx:dr S1 wa=qq x)(hz:kB ty x=qq z):ev C (.isi a ty) env S=qq (.d z,S1):=by simp only[aKR,f1,ha,oB,gS,hx,hz]
def aUj(ha:av (aC fs d) es env S=qq (ws,S1))(hc:cl fs d f ws S1=qq (w,S2)):ev (aC fs d) (.call f es) env S=qq (w,S2):=by rw[aJI,aG5,ha,oB];exact hc
def aW1{t:B}(ha:av C es env S=qq (ws,S1))(hd:oR S1 ws=qq ds)(hz:t.g ds=qq z):ev C (.blt t es) env S=qq (.d z,S1):=by simp only[aKX,sH,ha,oB,hd,hz]
def aXS(ha:av C es env S=qq (ws,S1))(hd:sA ws=qq ds)(hl:↑ds<=1000):ev C (.tup es) env S=qq (.d (.tuple ds),S1):=by simp only[aJV,yZ,ha,oB,hd,szT hl,if_true]
def aYI(h:lv C a env S=qq (ds,S1)):ev C (.fz a) env S=qq (.d (.list ds),S1):=by simp only[aK7,kG,h,oB]
def aXC(ha:av C es env S=qq (ws,S1))(hd:sA ws=qq ds)(hl:↑ds<=1000):lv C (.lst es) env S=qq (ds,S1):=by simp only[aKo,yN,ha,oB,hd,szT hl,if_true]
def aWg(h:lv C a env S=qq (ds,S1)):ev C (.new a) env S=qq (.loc ↑S1,S1++[qq ds]):=by simp only[aEa,gI,h,oB]
def aWc:av C .nil env S=qq ([],S):=rfl
def aTY(ha:ev C a env S=qq (w,S1))(hr:av C r env S1=qq (ws,S2)):av C (.cons a r) env S=qq (w::ws,S2):=by simp only[aIm,eT,ha,oB,hr]
def aVB(ha:ev C a env S=qq (.d x,S1))(hb:ev C b env S1=qq (.d y,S2))(hz:aS op x y=qq (.bool p)):tv C (.cmp op a b) env S=qq (p,S2):=by have:=aLl ha hb hz;rw[aD2] at this;simp only[aJ6,dP,this,oB,dr,sE]
def aWZ(ht:tv C e=dP (ev C e))(ha:ev C e env S=qq (.d x,S1))(hz:sE x=qq p):tv C e env S=qq (p,S1):=by rw[ht];simp only[dP,ha,oB,dr,hz]
def aUo(ha:tv C a env S=qq (p,S1))(hb:cond p (tv C b env S1) (qq (false,S1))=R):tv C (.and a b) env S=R:=by rw[<- hb];cases p<;>simp only[aKs,yR,ha,oB,yAx,if_false,if_true,cond_true,cond_false]
def aWW(ha:tv C a env S=qq (p,S1))(hb:cond p (qq (true,S1)) (tv C b env S1)=R):tv C (.or a b) env S=R:=by rw[<- hb];cases p<;>simp only[aLV,zZ,ha,oB,yAx,if_false,if_true,cond_true,cond_false]
def aTo(ha:tv C a env S=qq (p,S1)):tv C (.not a) env S=qq (!p,S1):=by simp only[aKz,zH,ha,oB]
def uJ{α:Type}{x y z:α}(h:x=z):cond true x y=z:=h
def uN{α:Type}{x y z:α}(h:y=z):cond false x y=z:=h
variable {s t u:Sx}{aY:bI}{R:Option (Fl×aE)}{w:W}
def nQ(h:xs C s env S=qq (fl,S1))(k:qq (fl,S1)=R):xs C s env S=R:=h.trans k
def rV{w:W}{R:Option (W×aE)}(h:ev C e env S=qq (w,S1))(k:qq (w,S1)=R):ev C e env S=R:=h.trans k
def rS{p:Bool}{R:Option (Bool×aE)}(h:tv C e env S=qq (p,S1))(k:qq (p,S1)=R):tv C e env S=R:=h.trans k
def rM{l:List D}{R:Option (List D×aE)}(h:lv C e env S=qq (l,S1))(k:qq (l,S1)=R):lv C e env S=R:=h.trans k
def aUt:xs C .skip env S=qq (.nx env,S):=rfl
def uP(C:Calls)(t:Sx)(fl:Fl)(S:aE):Option (Fl×aE):=match fl with|.nx e=>xs C t e S|fl=>qq (fl,S)
def aXc(h:xs C s env S=qq (fl,S1))(k:uP C t fl S1=R):xs C (.seq s t) env S=R:=by rw[<- k];cases fl<;>simp only[jQ,dN,h,oB,uP]
def aY2(k:xs C t aY S=R):uP C t (.nx aY) S=R:=k
def aYY(k:qq (.rt w,S)=R):uP C t (.rt w) S=R:=k
def aYL(k:qq (.bk aY,S)=R):uP C t (.bk aY) S=R:=k
def aZE(k:qq (.ct aY,S)=R):uP C t (.ct aY) S=R:=k
def aYk(he:ev C e env S=qq (we,S1))(ho:ev C o env S1=qq (wo,S2))(hi:ev C i env S2=qq (wi,S3))(h:kX S3 wo wi we=qq S4):xs C (.put o i e) env S=qq (.nx env,S4):=by simp only[aJR,mM,he,oB,ho,hi,h]
def aX3(h:ev C e env S=qq (w,S1))(he:env.set i (qq w)=aY):xs C (.set i e) env S=qq (.nx aY,S1):=by rw[<- he];simp only[aBg,jH,h,oB]
def aXG(h:ev C e env S=qq (w,S1)):xs C (.ret e) env S=qq (.rt w,S1):=by simp only[aD7,qE,h,oB]
def aT1(h:ev C e env S=qq (w,S1)):xs C (.expr e) env S=qq (.nx env,S1):=by simp only[aJe,xS,h,oB]
def aVV(ht:tv C a env S=qq (p,S1))(k:cond p (xs C s env S1) (xs C t env S1)=R):xs C (.ifs a s t) env S=R:=by rw[<- k];cases p<;>simp only[tT,oH,ht,oB,yAx,if_false,if_true,cond_true,cond_false]
def aVk(h:gZ tg (lv C a) (xs C s) env S=R):xs C (.loop tg a s) env S=R:=h
def aKK{ws:List W}(he:ws.map qq++yAg (n-↑ws) qz=env)(k:xs C body env S=qq (.rt (.d x),S1))(hS:S1.take ↑S=S2):gL (xs C body) n ws S=qq (.d x,S2):=by subst he;simp only[gL,k,oB,lC,hS]
end
end EV
namespace K64
open PySem L2 EV BM
private def mqS(p:String)(l:List mq)(b:="simp"):mq:=mqV b [mqC,mqO,mqO [mqA "only"],mqO [mqA "[",mqJ "," ((((p.splitOn " ").filter (·!="")).map mqI++l).map λ t=>mqN "Tactic.simpLemma" [mqO,mqO,t]),mqA "]"],mqO]
private def mqH(n:String)(l:List mq):=mqV "tacticErw___" [mqC,mqN "Tactic.rwRuleSeq" [mqA "[",mqJ "," ((mqI n::l).map λ t=>mqN "Tactic.rwRule" [mqO,t]),mqA "]"],mqO]
private def mqX(a:mq):=
 let a:=a[2][1].getSepArgs.toList.map (·[1])
 (a.headD .missing,a.tail)
private def mqR:=mqN "Tactic.tacticRfl" [mqA "rfl"]
private def mqW(t:mq):=mqN "Tactic.withReducible" [mqA "with_reducible",mqQ [t]]
private def mqK(t:mq):=mqV "focus" [mqQ [t]]
private def mqZ(t:mq)(u:=mqR):=mqK (mqM `Lean.Parser.Tactic.«tactic_<;>_» #[t,mqA "<;>",u])
private def mqY(l:List mq)(e:=[mqV "fail" [mqO]]):=mqV "first" [mqO ((l++e).map λ t=>mqM `group #[mqA "|",mqQ [t]])]
private def mqU(t:mq):=mqV "apply" [t]
private def mqEv:="aBy aTX aV9 aUe aTs aKO aK9 aD2 aKV aLR aJS aKt aJV aBL aUD aUl aEN aJI aKX aKR aRf aKv aK7 aEa aKs aLV aKz aUZ aJ6 aWI aQL aTg aUw aUP aX0 aXs aUC aIm aX5 aIJ aKo aI6 aQS EV.uA EV.rA EV.tN aR8 EV.tV EV.tI aDQ EV.jQ aJe aD7 EV.tT aBg aDP aRz aJR aAX EV.dN EV.jH EV.pU EV.oH EV.qE aVL EV.xS EV.rP EV.sG EV.zS EV.oD EV.dP EV.f2 EV.f1 EV.hZ EV.gS EV.dr EV.oR EV.fC EV.jI EV.lC aG5 EV.eT EV.jX EV.yZ EV.yN EV.kG EV.sH EV.oQ EV.yR EV.zZ EV.zH EV.xW EV.yM EV.yF EV.zD EV.sA EV.B.g aXm aX9 aV8 aWh aWv EV.sE EV.Tg.put EV.pJ EV.Tg.slots yAt yGs yBg yEb yGh Nat.reduceSub yFp yAy yGl yFi yDp yBc yBr yDc yDu EV.oB EV.oM yAe yHe yEz yAx if_true if_false reduceIte yHt Nat.reduceEqDiff szT List.take_nil List.take_zero aU3 EV.qD aBP EV.oA aEk aEi aEp"
private def mqU2(n:String):=if n="" then [] else [mqW (mqU (mqI n))]
private def mqC2(l:List mq)(x:Char):mq:=
 if x='r' then mqR else
 if x='g' then mqH "go.10.55" l else
 if x='c' then mqY [mqW (mqV "assumption" []),mqZ (mqS "" l) (mqW mqR)] else
 if x='v' then mqZ (mqS mqEv l) (mqW mqR) else
 if x='b' then mqZ (mqS "yDc yDu" [] "dsimp") else
 if x='a' then mqH "go.0.4" l else
 if x='d' then mqH "go.4.6" l else
 if x='e' then mqH "go.6.8" l else
 if x='f' then mqH "go.8.10" l else
 mqY [mqZ (mqS (if x='h' then "EV.B.g" else if x='i' then "yBg yEb yGh yHt" else if x='j' then "slD" else "") l),mqK mqR]
local macro_rules(kind:=Lean.Parser.Tactic.tacticErw___)|s=>do
 let (n,l):=mqX s
 match n.getId with
 |.num (.num _ a) b=>if b<a+4 then mqF else return mqH s!"go.{(a+b)/2}.{b}" l
 |.anonymous=>if n.toNat>19 then mqF else return mqZ (mqS (if n.toNat<9 then mqEv else mqEv++" EV.gL") l)
 |_=>mqF
local macro_rules(kind:=Lean.Parser.Tactic.omega)|_s=>return mqW (mqY (mqV "assumption" []::(("yAd/1 _ yEp/2 _ _ xAh/2 a d xAb/2 a d xAi/2 a d yEd/1 a xAh/2 yEd/1 a d xAh/2 Nat.add_le_add_right/2 a _ d yGj/2 d _ yGf/1 a Nat.lt_of_not_le/1 a Nat.not_lt_of_le/1 a Nat.not_le_of_lt/1 a xAb/2 a a xAh/2 a a xAh/2 a yGj/2 d _ xAh/2 a xAh/2 Nat.add_le_add_right/2 a _ d".splitOn " ").foldr (λ t l=>match t.splitOn "/" with|[f,n]=>let n:=n.toNat!;mqT f (l.take n)::l.drop n|_=>(if t="_" then mqN "Term.hole" [mqA "_"] else mqB (if t="a" then mqV "assumption" [] else mqV "decide"))::l) []).map λ t=>mqV "exact" [t]))
local macro_rules(kind:=Lean.Parser.Tactic.tacticErw___)|s=>do
 let (n,l):=mqX s
 match n.getId with
 |.num (.num _ a) b=>
  if a+3<b then return mqH s!"go.{a}.{(a+b)/2}" l
  return mqY (((("aY2:g aYY:r aYL:r aZE:r EV.uJ:g EV.uN:g EV.uJ:g EV.uN:r EV.uJ:r EV.uN:g aWA:r aXA aTY:gg aWc aUj:gc aWC:ggl aZi:gggl aX3:gb aXc:ga aVB:ggl aVV:gd aXG:g aUt aW1:ggh aUo:ge aTo:g aYc aWW:gf aZr aXB aZu aYp aTc aT1:g aWV:l aWH:gg aXS:gri aYI:g aXC:gri aWg:g aZx:ggggj aU0:g aYN:gl aLl:ggl aXJ:ggl aYk:gggl aWF:gd aYn:ge aZq:gf aXf:g aV4:ggr aVk:c aWZ:rgr :c :v".splitOn " ").take b).drop a).map λ t=>mqO ((match t.splitOn ":" with|[n,r]=>mqU2 n++r.toList.map (mqC2 l)|_=>mqU2 t)))
 |.anonymous=>
  let k:=n.toNat
  if k=20 then return mqS mqEv l
  let i:=mqN "Tactic.rcasesPat.one" [mqI "rfl"]
  if k=50 then return mqG [i,mqA "|",i,mqA "|",i] (l.headD .missing)
  let d:=l.take (k%10);let l:=l.drop (k%10);let g:=[mqH "go.10.55" l,mqY [mqK mqR,mqZ (mqS "" l)]]
  if k<10 then return mqY [mqO ((if k=0 then [] else [mqS "" d "dsimp"])++mqY (["nQ","rV","rS","rM"].map λ x=>mqU (mqI x))::g)]
  return mqY [mqO [mqU (mqT "aKK" [mqI "rfl"]),mqV "focus" [mqQ (mqS "List.map yBg yEb yGh Nat.reduceSub yFp yAy yGl yFi yDp" d "dsimp"::mqU (mqI "nQ")::g)],mqY [mqV "exact" [mqI "yAe"],mqZ (mqS "aEk aEi aEp" l),mqK mqR]]]
 |_=>mqF
local macro_rules(kind:=Lean.Parser.Term.tuple)|s=>if s[1].getNumArgs=0 then return mqB (mqV "omega") else mqF
local macro_rules(kind:=«term_<$>_»)|s=>return mqT "aC" [mqI "fns",mqM `«term_+_» #[s[0],mqA "+",s[2]]]
local macro_rules(kind:=«term#[_,]»)|s=>return mqT "qq" [mqD "loc" [s[1][0]]]
local macro_rules(kind:=Lean.Parser.Term.typeAscription)|s=>if s[3].getNumArgs=0 then return mqT "qq" [mqD "d" [mqD "int" [s[1]]]] else mqF
def top(i:Nat):xj:=PySem.Challenge.pw_fewbits_k64_whole_traded_tells_the_same.main.body.getD i (.Pass ⟨0,0,0,0⟩)
def vI:List (Str×Tv):=[("in",.int 0),("num",.int 0),("not",.int 1),("and",.int 2),("or",.int 2),("xor",.int 2),("add",.int 2),("sub",.int 2),("mul",.int 2),("left",.int 1),("right",.int 1),("slide",.int 1),("cut",.int 1),("wide",.int 1),("sign",.int 1),("same",.int 2),("less",.int 2),("under",.int 2),("pick",.int 3)]
def kQ:List Tv:=[.str "left",.str "right",.str "slide"]
def aEn:List Tv:=[.str "add",.str "sub",.str "mul"]
def nB:List Tv:=[.str "same",.str "less",.str "under"]
def aCT:List Tv:=[.str "wide",.str "sign"]
def sZ:List Tv:=[.int 0,.int 0,.int 1]
def wH:List Tv:=[.int 1,.int 0,.int 1]
def xV:List Tv:=[.int 0,.int 1,.int 1]
def aCI:List Tv:=[.str "and",.str "or",.str "xor",.str "add",.str "mul"]
def tbs:Tbs:=⟨[("OPERAND_COUNTS",vI)],[("SHIFTS",kQ),("SUMS",aEn),("COMPARES",nB),("WIDENINGS",aCT),("NOTHING",sZ),("NOUGHT",wH),("ONE",xV),("EXCHANGEABLE",aCI)],[]⟩
abbrev J0:E:=.int 0
abbrev J1:E:=.int 1
abbrev J2:E:=.int 2
abbrev J3:E:=.int 3
abbrev J4:E:=.int 4
abbrev J5:E:=.int 5
abbrev J6:E:=.int 6
abbrev J7:E:=.int 7
abbrev J8:E:=.int 8
abbrev J9:E:=.int 9
abbrev V0:E:=.var 0
abbrev V1:E:=.var 1
abbrev V2:E:=.var 2
abbrev V3:E:=.var 3
abbrev V4:E:=.var 4
abbrev V5:E:=.var 5
abbrev V6:E:=.var 6
abbrev V7:E:=.var 7
abbrev V8:E:=.var 8
abbrev V9:E:=.var 9
abbrev N0:E:=.nil
abbrev K0:Sx:=.skip
section
local macro_rules(kind:=«term_::_»)|s=>return mqD "cons" [s[0],s[2]]
local macro_rules(kind:=«term_^_»)|s=>return mqD "seq" [s[0],s[2]]
def aK5:Sx:=.ret (.bin .Sub (.bin .LShift J1 V0) J1)^K0
def aJ2:Sx:=.ret (.bits V0)^K0
def aKB:Sx:=.ret (.call 0 (.call 1 (V0::N0)::N0))^K0
def aH8:Sx:=.ret (.bin .Sub (.call 1 (.bin .BitXor V0 (.bin .Add V0 J1)::N0)) J1)^K0
def aIi:Sx:=.ret (.bin .Sub V1 (.call 1 (.bin .BitXor V0 (.call 0 (V1::N0))::N0)))^K0
def aCY:Sx:=.set 3 (.bin .LShift J1 (.bin .Sub V1 J1))^.ifs (.cmp .Eq (.bin .BitAnd V0 V3) J0) (.ret V0^K0) .skip^.ret (.bin .BitOr V0 (.bin .BitXor (.call 0 (V2::N0)) (.call 0 (V1::N0))))^K0
def aGm:Sx:=.set 3 (.bin .BitXor (.call 0 (V2::N0)) (.call 2 (.bin .BitXor V0 V1::N0)))^.set 4 (.bin .BitAnd V3 V0)^.ret (.tup (.bin .BitXor V3 V4::V4::N0))^K0
def aOR:Sx:=.ret (.sl V0 (J2::N0) (.bin .Add J2 (.tab "OPERAND_COUNTS" vI (.ix V0 J0))::N0))^K0
def aF2:Sx:=.ret (.bin .Add (.bin .Add (.sl V0 .no (J2::N0)) V1) (.sl V0 (.bin .Add J2 (.blt .len (V1::N0))::N0) .no))^K0
def aCF:E:=.comp (.ix V1 V2) (.one 2) (.it (.call 7 (V0::N0))) .no
def aGb:Sx:=.ret (.blt .tup (.fz aCF::N0))^K0
def aG2:Sx:=.set 2 (.ix V0 J0)^.ret (.ix (.ix V2 V1) J1)^K0
def aF8:E:=.comp (.ix V1 J1) (.one 1) (.it (.ix V0 J0)) .no
def aGO:Sx:=.ret (.blt .tup (.fz aF8::N0))^K0
def aF6:Sx:=.ret (.tup (.bin .BitAnd V2 (.un .Invert (.bin .BitAnd V1 (.un .Invert V0)))::.bin .BitAnd V2 (.un .Invert V0)::N0))^K0
def aHr:Sx:=.set 3 (.call 1 (V2::N0))^.set 4 (.blt .mn (V3::.call 3 (V1::N0)::N0))^.set 5 (.blt .mn (.bin .Sub V3 V4::.call 3 (V0::N0)::N0))^.ret (.tup (.call 0 (.bin .Sub V3 V4::N0)::.call 0 (.bin .Sub V3 V5::N0)::N0))^K0
def aDO:Sx:=.ifs (.cmp .Eq (.bin .RShift V0 V1) J0) (.ret V0^K0) .skip^.ret (.bin .BitOr (.bin .BitAnd V0 (.call 0 (V1::N0))) (.bin .LShift J1 (.bin .Sub V1 J1)))^K0
def aAm:Sx:=.ifs (.cmp .Eq V0 (.str "left")) (.ret (.bin .RShift V3 V2)^K0) .skip^.ifs (.cmp .Eq V0 (.str "right")) (.ret (.bin .BitAnd (.bin .LShift V3 V2) (.call 0 (V1::N0)))^K0) .skip^.ret (.call 14 (.bin .LShift V3 V2::V1::N0))^K0
def aAz:Sx:=.ifs (.cmp .Eq (.ix V0 J1) J1) (.ret (.tup (J1::V1::J0::N0))^K0) .skip^.ifs (.cmp .Eq (.ix V0 J0) J1) (.ret (.tup (J1::J0::V1::N0))^K0) .skip^.ret (.tup (J1::V1::V1::N0))^K0
def aGf:Sx:=.set 4 (.ix V0 J0)^.ifs (.cmp .Eq V4 (.str "and")) (.ret (.call 12 (.ix (.ix V2 J0) J0::.ix (.ix V2 J1) J0::V3::N0))^K0) .skip^.ifs (.cmp .Eq V4 (.str "or")) (.ret (.call 12 (.ix (.ix V2 J0) J1::.ix (.ix V2 J1) J1::V3::N0))^K0) .skip^.ifs (.cmp .In V4 (.tup (.str "add"::.str "sub"::N0))) (.ret (.tup (.call 2 (V3::N0)::.call 2 (V3::N0)::N0))^K0) .skip^.ifs (.cmp .Eq V4 (.str "mul")) (.ret (.call 13 (.ix (.ix V2 J0) J0::.ix (.ix V2 J1) J0::V3::N0))^K0) .skip^.ifs (.cmp .In V4 (.con "SHIFTS" kQ)) (.ret (.tup (.call 15 (V4::.ix V0 J1::.ix V0 J3::V3::N0)::N0))^K0) .skip^.ifs (.cmp .Eq V4 (.str "wide")) (.ret (.tup (.bin .BitAnd V3 (.call 0 (.ix V1 J0::N0))::N0))^K0) .skip^.ifs (.cmp .Eq V4 (.str "sign")) (.ret (.tup (.call 14 (V3::.ix V1 J0::N0)::N0))^K0) .skip^.ifs (.cmp .In V4 (.con "COMPARES" nB)) (.ret (.tup (.call 0 (.ix V1 J0::N0)::.call 0 (.ix V1 J1::N0)::N0))^K0) .skip^.ifs (.cmp .Eq V4 (.str "pick")) (.ret (.call 16 (.ix V2 J0::V3::N0))^K0) .skip^.ret (.bin .Mult (.tup (V3::N0)) (.blt .len (.call 7 (V0::N0)::N0)))^K0
def aEK:Sx:=.ifs (.cmp .Eq V3 J0) (.ret (.bin .Mult (.tup (J0::N0)) (.blt .len (.call 7 (V0::N0)::N0)))^K0) .skip^.ret (.call 17 (V0::V1::V2::V3::N0))^K0
def aF9:E:=.comp (.call 10 (V0::V7::N0)) (.one 7) (.it (.call 7 (V4::N0))) .no
def aGI:Sx:=.set 4 (.ix (.ix V0 J0) V2)^.set 5 (.blt .tup (.fz aF9::N0))^.set 6 (.call 18 (V4::V5::.call 9 (V4::V1::N0)::V3::N0))^.ret (.fz (.lzip (.call 7 (V4::N0)) V6))^K0
def aAL:E:=.it (.call 19 (V0::V1::V4::.ix V2 V4::N0))
def aAE:Sx:=.put V2 V7 (.bin .BitOr (.ix V2 V7) V8)^K0
def aAB:E:=.rng3 (.bin .Sub (.blt .len (V5::N0)) J1) (.un .USub J1) (.un .USub J1)
def aDe:Sx:=.loop (.many [7,8]) aAL aAE^K0
def aC8:E:=.it V6
def aDb:Sx:=.put V2 V3 (.call 0 (.call 10 (V0::V3::N0)::N0))^K0
def gW:Sx:=.setT (.many [5,6]) V0^.set 2 (.new (.lrep (.fz (.lst (J0::N0))) (.blt .len (V5::N0))))^.loop (.one 3) aC8 aDb^.loop (.one 4) aAB aDe^.ret (.blt .tup (V2::N0))^K0
def aHl:Sx:=.ret (.bin .BitXor (.call 0 (V1::N0)) (.call 0 (.bin .Sub V1 V0::N0)))^K0
def aGv:Sx:=.ret (.bin .BitOr (.ix V0 J0) (.ix V0 J1))^K0
def wY:Sx:=.setT (.many [3,4,5]) V0^.set 2 (.call 21 (V5::V1::N0))^.ifs (.cmp .NotEq (.bin .BitAnd V3 V2) J0) (.set 3 (.bin .BitOr V3 V2)^K0) .skip^.ifs (.cmp .NotEq (.bin .BitAnd V4 V2) J0) (.set 4 (.bin .BitOr V4 V2)^K0) .skip^.ret (.tup (V3::V4::.blt .mx (V5::.call 4 (V3::V1::N0)::.call 4 (V4::V1::N0)::N0)::N0))^K0
def aKl:Sx:=.ret (.ix V0 J1)^K0
def aGV:Sx:=.ret (.bin .BitXor (.call 0 (V1::N0)) (.ix V0 J0))^K0
def aQa:Sx:=.ifs (.cmp .Eq V0 (.str "add")) (.ret (.bin .Add V1 V2)^K0) .skip^.ifs (.cmp .Eq V0 (.str "sub")) (.ret (.bin .Sub V1 V2)^K0) .skip^.ret (.bin .Mult V1 V2)^K0
def aGP:Sx:=.set 3 (.call 0 (.call 3 (.bin .BitAnd (.call 22 (V1::N0)) (.call 22 (V2::N0))::N0)::N0))^.set 4 (.bin .BitAnd (.call 26 (V0::.call 24 (V1::N0)::.call 24 (V2::N0)::N0)) V3)^.ret (.tup (.bin .BitXor V3 V4::V4::N0))^K0
def aAi:Sx:=.ifs (.cmp .NotEq V0 (.str "mul")) (.ret J0^K0) .skip^.ret (.call 0 (.blt .mn (V1::.bin .Add (.call 3 (.ix V2 J0::N0)) (.call 3 (.ix V3 J0::N0))::N0)::N0))^K0
def aAZ:Sx:=.ifs (.cmp .Eq V0 (.str "sub")) (.ret (.tup (.bin .Sub (.call 24 (V2::N0)) (.call 25 (V3::V1::N0))::.bin .Sub (.call 25 (V2::V1::N0)) (.call 24 (V3::N0))::N0))^K0) .skip^.set 4 (.call 26 (V0::.call 24 (V2::N0)::.call 24 (V3::N0)::N0))^.set 5 (.call 26 (V0::.call 25 (V2::V1::N0)::.call 25 (V3::V1::N0)::N0))^.ret (.tup (V4::V5::N0))^K0
def aAw:Sx:=.setT (.many [4,5]) (.call 29 (V0::V1::V2::V3::N0))^.ifs (.or (.cmp .Lt V4 J0) (.cmp .Gt V5 (.call 0 (V1::N0)))) (.ret (.tup (J0::J0::N0))^K0) .skip^.ret (.call 6 (V4::V5::V1::N0))^K0
def aAr:Sx:=.ifs (.cmp .Eq V0 (.str "mul")) (.ret J1^K0) .skip^.ret (.blt .mx (J1::.bin .Sub (.blt .mn (.ix V1 J2::.ix V2 J2::N0)) J1::N0))^K0
def aHk:Sx:=.set 4 (.call 27 (V0::V2::V3::N0))^.set 5 (.call 30 (V0::V1::V2::V3::N0))^.set 6 (.bin .BitOr (.bin .BitOr (.ix V4 J0) (.ix V5 J0)) (.call 28 (V0::V1::V2::V3::N0)))^.ret (.tup (V6::.bin .BitOr (.ix V4 J1) (.ix V5 J1)::.call 31 (V0::V2::V3::N0)::N0))^K0
def aGS:Sx:=.ret (.tup (.bin .BitXor (.call 0 (V0::N0)) V1::V1::J1::N0))^K0
def aGg:Sx:=.ret (.bin .BitOr (.bin .BitAnd (.ix V0 J0) (.ix V1 J1)) (.bin .BitAnd (.ix V0 J1) (.ix V1 J0)))^K0
def aAe:Sx:=.set 3 (.blt .mn (.ix V1 J2::.ix V2 J2::N0))^.ifs (.cmp .Eq V0 (.str "and")) (.ret (.tup (.bin .BitOr (.ix V1 J0) (.ix V2 J0)::.bin .BitAnd (.ix V1 J1) (.ix V2 J1)::V3::N0))^K0) .skip^.ifs (.cmp .Eq V0 (.str "or")) (.ret (.tup (.bin .BitAnd (.ix V1 J0) (.ix V2 J0)::.bin .BitOr (.ix V1 J1) (.ix V2 J1)::V3::N0))^K0) .skip^.set 4 (.bin .BitOr (.bin .BitAnd (.ix V1 J0) (.ix V2 J0)) (.bin .BitAnd (.ix V1 J1) (.ix V2 J1)))^.ret (.tup (V4::.call 34 (V1::V2::N0)::V3::N0))^K0
def aGD:Sx:=.set 3 (.bin .BitOr (.bin .LShift (.ix V1 J0) V2) (.call 0 (V2::N0)))^.ret (.tup (.bin .BitAnd V3 (.call 0 (V0::N0))::.bin .BitAnd (.bin .LShift (.ix V1 J1) V2) (.call 0 (V0::N0))::.blt .mx (J1::.bin .Sub (.ix V1 J2) V2::N0)::N0))^K0
def aCS:Sx:=.set 3 (.bin .BitOr (.bin .RShift (.ix V1 J0) V2) (.call 21 (.blt .mn (V2::V0::N0)::V0::N0)))^.ret (.tup (V3::.bin .RShift (.ix V1 J1) V2::.ite (.cmp .Eq V2 J0) (.ix V1 J2) J1::N0))^K0
def aGy:Sx:=.set 3 (.bin .Add V0 V2)^.ret (.tup (.bin .RShift (.call 5 (.ix V1 J0::V0::V3::N0)) V2::.bin .RShift (.call 5 (.ix V1 J1::V0::V3::N0)) V2::.blt .mn (V0::.bin .Add (.ix V1 J2) V2::N0)::N0))^K0
def aNW:Sx:=.ifs (.cmp .Eq V0 (.str "left")) (.ret (.call 36 (V1::V2::V3::N0))^K0) .skip^.ifs (.cmp .Eq V0 (.str "right")) (.ret (.call 37 (V1::V2::V3::N0))^K0) .skip^.ret (.call 38 (V1::V2::V3::N0))^K0
def vY:Sx:=.setT (.many [4,5,6]) V3^.ifs (.cmp .Eq V0 (.str "cut")) (.ret (.tup (.bin .BitAnd V4 (.call 0 (V2::N0))::.bin .BitAnd V5 (.call 0 (V2::N0))::.blt .mx (J1::.bin .Sub V6 (.bin .Sub V1 V2)::N0)::N0))^K0) .skip^.ifs (.cmp .Eq V0 (.str "wide")) (.ret (.tup (.bin .BitOr V4 (.call 21 (.bin .Sub V2 V1::V2::N0))::V5::.ite (.cmp .Eq V2 V1) V6 J1::N0))^K0) .skip^.ret (.tup (.call 5 (V4::V1::V2::N0)::.call 5 (V5::V1::V2::N0)::.bin .Add V6 (.bin .Sub V2 V1)::N0))^K0
def aAv:Sx:=.ifs (.cmp .NotEq (.call 34 (V1::V2::N0)) J0) (.ret (.con "NOUGHT" wH)^K0) .skip^.ifs (.cmp .Eq (.bin .BitAnd (.call 22 (V1::N0)) (.call 22 (V2::N0))) (.call 0 (V0::N0))) (.ret (.con "ONE" xV)^K0) .skip^.ret (.con "NOTHING" sZ)^K0
def aAq:Sx:=.ifs (.cmp .Lt (.call 25 (V1::V0::N0)) (.call 24 (V2::N0))) (.ret (.con "ONE" xV)^K0) .skip^.ifs (.cmp .GtE (.call 24 (V1::N0)) (.call 25 (V2::V0::N0))) (.ret (.con "NOUGHT" wH)^K0) .skip^.ret (.con "NOTHING" sZ)^K0
def aGu:Sx:=.setT (.many [3,4,5]) V0^.set 2 (.bin .BitAnd (.bin .BitXor V3 V4) (.call 21 (J1::V1::N0)))^.ret (.tup (.bin .BitXor V3 V2::.bin .BitXor V4 V2::V5::N0))^K0
def aNB:Sx:=.ifs (.cmp .Eq V0 (.str "same")) (.ret (.call 41 (V1::V2::V3::N0))^K0) .skip^.ifs (.cmp .Eq V0 (.str "less")) (.ret (.call 42 (V1::V2::V3::N0))^K0) .skip^.ret (.call 42 (V1::.call 43 (V2::V1::N0)::.call 43 (V3::V1::N0)::N0))^K0
def aAo:Sx:=.ifs (.cmp .Eq (.ix V0 J1) J1) (.ret V1^K0) .skip^.ifs (.cmp .Eq (.ix V0 J0) J1) (.ret V2^K0) .skip^.ret (.tup (.bin .BitAnd (.ix V1 J0) (.ix V2 J0)::.bin .BitAnd (.ix V1 J1) (.ix V2 J1)::.blt .mn (.ix V1 J2::.ix V2 J2::N0)::N0))^K0
def aOz:Sx:=.set 3 (.ix V0 J0)^.set 4 (.ix V0 J1)^.ifs (.cmp .Eq V3 (.str "in")) (.ret (.con "NOTHING" sZ)^K0) .skip^.ifs (.cmp .Eq V3 (.str "num")) (.ret (.call 33 (V4::.ix V0 J2::N0))^K0) .skip^.ifs (.cmp .Eq V3 (.str "not")) (.ret (.tup (.ix (.ix V2 J0) J1::.ix (.ix V2 J0) J0::.ix (.ix V2 J0) J2::N0))^K0) .skip^.ifs (.cmp .In V3 (.con "SUMS" aEn)) (.ret (.call 32 (V3::V4::.ix V2 J0::.ix V2 J1::N0))^K0) .skip^.ifs (.cmp .In V3 (.con "SHIFTS" kQ)) (.ret (.call 39 (V3::V4::.ix V2 J0::.ix V0 J3::N0))^K0) .skip^.ifs (.cmp .In V3 (.con "COMPARES" nB)) (.ret (.call 44 (V3::.ix V1 J0::.ix V2 J0::.ix V2 J1::N0))^K0) .skip^.ifs (.cmp .Eq V3 (.str "pick")) (.ret (.call 45 (.ix V2 J0::.ix V2 J1::.ix V2 J2::N0))^K0) .skip^.ifs (.cmp .In V3 (.tup (.str "and"::.str "or"::.str "xor"::N0))) (.ret (.call 35 (V3::.ix V2 J0::.ix V2 J1::N0))^K0) .skip^.ret (.call 40 (V3::.ix V1 J0::V4::.ix V2 J0::N0))^K0
def aLQ:Sx:=.ret (.call 23 (.call 46 (V0::V1::V2::N0)::.ix V0 J1::N0))^K0
def aAj:E:=.it (.ix V0 J0)
def aAg:Sx:=.expr (.app V2 (.call 47 (V3::.call 9 (V3::V1::N0)::.call 9 (V3::V2::N0)::N0)))^K0
def aHg:Sx:=.set 1 (.call 11 (V0::N0))^.set 2 (.new (.lst .nil))^.loop (.one 3) aAj aAg^.ret (.blt .tup (V2::N0))^K0
def aKQ:Sx:=.ret (.cmp .Eq (.bin .BitAnd V0 (.un .Invert V1)) J0)^K0
def vR:Sx:=.set 2 (.bin .BitAnd (.ix V0 J1) V1)^.ifs (.or (.cmp .Eq V2 J0) (.or (.cmp .NotEq (.bin .BitAnd V2 (.bin .Sub V2 J1)) J0) (.not (.call 49 (V1::.call 22 (V0::N0)::N0))))) (.ret .non^K0) .skip^.ret (.bin .Sub (.call 1 (V2::N0)) J1)^K0
def qO:Sx:=.set 4 (.ix V0 J0)^.ifs (.call 49 (V2::.call 22 (V1::N0)::N0)) (.ret (.ix V1 J1)^K0) .skip^.ifs (.and (.cmp .In V4 (.tup (.str "xor"::.str "sub"::.str "less"::.str "under"::N0))) (.cmp .Eq (.ix V3 J0) (.ix V3 J1))) (.ret J0^K0) .skip^.ifs (.and (.cmp .Eq V4 (.str "same")) (.cmp .Eq (.ix V3 J0) (.ix V3 J1))) (.ret J1^K0) .skip^.ret .non^K0
def sU:Sx:=.ifs (.cmp .Eq V0 (.str "and")) (.ret (.call 49 (V2::.ix V1 J1::N0))^K0) .skip^.ifs (.cmp .In V0 (.tup (.str "or"::.str "xor"::N0))) (.ret (.call 49 (V2::.ix V1 J0::N0))^K0) .skip^.ifs (.cmp .In V0 (.tup (.str "add"::.str "sub"::N0))) (.ret (.call 49 (.call 2 (V2::N0)::.ix V1 J0::N0))^K0) .skip^.ret (.and (.cmp .Eq V0 (.str "mul")) (.cmp .Eq (.call 50 (V1::.call 2 (V2::N0)::N0)) J0))^K0
def vL:Sx:=.ifs (.or (.cmp .Eq (.ix V1 J1) (.ix V1 J2)) (.cmp .Eq (.ix V0 J1) J1)) (.ret J1^K0) .skip^.ret (.ite (.cmp .Eq (.ix V0 J0) J1) J2 .non)^K0
def iB:Sx:=.set 5 (.ix V0 J0)^.ifs (.and (.cmp .In V5 (.tup (.str "and"::.str "or"::N0))) (.cmp .Eq (.ix V4 J0) (.ix V4 J1))) (.ret J0^K0) .skip^.ifs (.cmp .Eq V5 (.str "pick")) (.ret (.call 53 (.ix V3 J0::V4::N0))^K0) .skip^.ifs (.cmp .In V5 (.con "SHIFTS" kQ)) (.ret (.ite (.cmp .Eq (.ix V0 J3) J0) J0 .non)^K0) .skip^.ifs (.cmp .In V5 (.tup (.str "cut"::.str "wide"::.str "sign"::N0))) (.ret (.ite (.cmp .Eq (.ix V2 J0) (.ix V0 J1)) J0 .non)^K0) .skip^.ifs (.and (.cmp .Eq (.blt .len (V4::N0)) J2) (.call 52 (V5::.ix V3 J1::V1::N0))) (.ret J0^K0) .skip^.ifs (.and (.cmp .In V5 (.con "EXCHANGEABLE" aCI)) (.call 52 (V5::.ix V3 J0::V1::N0))) (.ret J1^K0) .skip^.ret .non^K0
def aCA:E:=.it (.tup (.tup (J0::J1::N0)::.tup (J1::J0::N0)::N0))
def vH:Sx:=.set 6 (.call 50 (.ix V2 V5::V1::N0))^.ifs (.cmp .IsNot V6 .non) (.ret (.tup (.str "left"::.ix V0 J1::.ix V3 V4::V6::N0))^K0) .skip^K0
def qN:Sx:=.loop (.many [4,5]) aCA vH^.ret .non^K0
def qQ:Sx:=.set 4 (.call 2 (V1::N0))^.ifs (.cmp .Eq (.ix V0 J0) (.str "mul")) (.ret (.call 55 (V0::V4::V2::V3::N0))^K0) .skip^.ifs (.and (.cmp .Eq (.ix V0 J0) (.str "add")) (.call 49 (V4::.bin .BitOr (.ix (.ix V2 J0) J0) (.ix (.ix V2 J1) J0)::N0))) (.ret (.bin .Add (.tup (.str "or"::.ix V0 J1::N0)) V3)^K0) .skip^.ifs (.and (.cmp .Eq (.ix V0 J0) (.str "sub")) (.call 49 (V4::.bin .BitOr (.ix (.ix V2 J1) J0) (.ix (.ix V2 J0) J1)::N0))) (.ret (.bin .Add (.tup (.str "xor"::.ix V0 J1::N0)) V3)^K0) .skip^.ret .non^K0
def pK:Sx:=.ifs (.cmp .Eq (.ix V0 J0) (.str "in")) (.ret (.tup (.str "kept"::V0::.non::N0))^K0) .skip^.ifs (.cmp .Eq V2 J0) (.ret (.tup (.str "gone"::.non::.non::N0))^K0) .skip^.ifs (.cmp .Eq (.ix V0 J0) (.str "num")) (.ret (.tup (.str "kept"::V0::.non::N0))^K0) .skip^.set 6 (.call 51 (V0::V1::V2::V5::N0))^.ifs (.cmp .IsNot V6 .non) (.ret (.tup (.str "known"::.tup (.str "num"::.ix V0 J1::V6::N0)::.non::N0))^K0) .skip^.set 7 (.call 54 (V0::V2::V3::V4::V5::N0))^.ifs (.cmp .IsNot V7 .non) (.ret (.tup (.str "passed"::.non::.ix V5 V7::N0))^K0) .skip^.set 8 (.call 56 (V0::V2::V4::V5::N0))^.ifs (.cmp .IsNot V8 .non) (.ret (.tup (.str "cheaper"::V8::.non::N0))^K0) .skip^.ret (.tup (.str "kept"::.call 8 (V0::V5::N0)::.non::N0))^K0
def aAx:E:=.comp (.ix V5 (.var 15)) (.one 15) (.it (.ix V0 J1)) .no
def aAu:E:=.zip3 (.ix V0 J0) V1 V2
def sY:Sx:=.set 11 (.tup (.call 9 (V8::V3::N0)::.call 9 (V8::V1::N0)::.call 9 (V8::V5::N0)::N0))^.setT (.many [12,13,14]) (.call 57 (V8::V9::.var 10::.ix (.var 11) J0::.ix (.var 11) J1::.ix (.var 11) J2::N0))^.ifs (.cmp .IsNot (.var 13) .non) (.set 14 (.blt .len (V4::N0))^.expr (.app V4 (.var 13))^K0) .skip^.expr (.app V5 (.var 14))^.expr (.app V6 (.var 12))^K0
def aIH:Sx:=.set 1 (.call 48 (V0::N0))^.set 2 (.call 20 (V0::V1::N0))^.set 3 (.call 11 (V0::N0))^.set 4 (.new (.lst .nil))^.set 5 (.new (.lst .nil))^.set 6 (.new (.lst .nil))^.loop (.many [8,9,10]) aAu sY^.set 7 (.blt .tup (.fz aAx::N0))^.ret (.tup (.tup (.blt .tup (V4::N0)::V7::N0)::.blt .tup (V6::N0)::N0))^K0
def aF1:E:=.comp (.cmp .Eq V4 V3) (.one 4) (.it V1) .no
def aNT:Sx:=.set 2 (.ix V0 J0)^.set 3 (.ix V0 J1)^.ifs (.cmp .In V2 (.con "COMPARES" nB)) (.ret (.and (.cmp .Eq V3 J1) (.cmp .Eq (.ix V1 J0) (.ix V1 J1)))^K0) .skip^.ifs (.cmp .Eq V2 (.str "pick")) (.ret (.cmp .Eq V1 (.tup (J1::V3::V3::N0)))^K0) .skip^.ifs (.cmp .Eq V2 (.str "cut")) (.ret (.cmp .GtE (.ix V1 J0) V3)^K0) .skip^.ifs (.cmp .In V2 (.con "WIDENINGS" aCT)) (.ret (.cmp .LtE (.ix V1 J0) V3)^K0) .skip^.ret (.blt .all (.fz aF1::N0))^K0
def aNI:Sx:=.ifs (.cmp .Eq (.ix V0 J0) (.str "num")) (.ret (.cmp .LtE (.ix V0 J2) (.call 0 (.ix V0 J1::N0)))^K0) .skip^.ifs (.cmp .In (.ix V0 J0) (.con "SHIFTS" kQ)) (.ret (.cmp .LtE (.ix V0 J3) (.int 63))^K0) .skip^.ret (.bl true)^K0
def aFZ:E:=.comp (.ix V5 J1) (.one 5) (.it (.call 9 (V2::V0::N0))) .no
def aCG:E:=.comp (.cmp .GtE V4 V1) (.one 4) (.it (.call 7 (V2::N0))) .no
def aCK:Sx:=.set 2 (.ix V0 V1)^.ifs (.or (.cmp .Lt (.ix V2 J1) J1) (.cmp .Gt (.ix V2 J1) (.int 64))) (.nev^K0) .skip^.ifs (.blt .any (.fz aCG::N0)) (.nev^K0) .skip^.set 3 (.blt .tup (.fz aFZ::N0))^.ifs (.not (.call 59 (V2::V3::N0))) (.nev^K0) .skip^.ifs (.not (.call 60 (V2::N0))) (.nev^K0) .skip^K0
def aDg:E:=.comp (.cmp .GtE V4 (.blt .len (V2::N0))) (.one 4) (.it V3) .no
def aIg:E:=.rng1 (.blt .len (V2::N0))
def aHK:Sx:=.expr (.call 61 (V2::V1::N0))^K0
def aWx:Sx:=.setT (.many [2,3]) V0^.loop (.one 1) aIg aHK^.ifs (.blt .any (.fz aDg::N0)) (.nev^K0) .skip^.ret (.bl true)^K0
def aOD:Sx:=.set 2 (.ix V0 J0)^.set 3 (.ix V0 J1)^.ifs (.cmp .In V2 (.tup (.str "not"::.str "and"::.str "or"::.str "xor"::.str "pick"::N0))) (.ret V3^K0) .skip^.ifs (.cmp .In V2 (.con "COMPARES" nB)) (.ret (.ix V1 (.ix V0 J2))^K0) .skip^.ifs (.cmp .In V2 (.tup (.str "add"::.str "sub"::N0))) (.ret (.bin .Mult J2 V3)^K0) .skip^.ifs (.cmp .Eq V2 (.str "mul")) (.ret (.bin .Mult V3 V3)^K0) .skip^.ret J0^K0
def aHt:E:=.comp (.call 63 (V2::V1::N0)) (.one 2) (.it (.ix V0 J0)) .no
def aKi:Sx:=.set 1 (.call 11 (V0::N0))^.ret (.blt .sum (.fz aHt::N0))^K0
def aIP:Sx:=.ret (.bin .BitXor V0 (.bin .LShift J1 (.bin .Sub V1 J1)))^K0
def aPw:Sx:=.ifs (.cmp .Eq V0 (.str "same")) (.set 4 (.cmp .Eq V2 V3)^K0) (.ifs (.cmp .Eq V0 (.str "less")) (.set 4 (.cmp .Lt V2 V3)^K0) (.set 4 (.cmp .Lt (.call 65 (V2::V1::N0)) (.call 65 (V3::V1::N0)))^K0)^K0)^.ret (.ite V4 J1 J0)^K0
def aQI:Sx:=.ifs (.cmp .Eq V0 (.str "left")) (.ret (.bin .BitAnd (.bin .LShift V2 V3) (.call 0 (V1::N0)))^K0) .skip^.ifs (.cmp .Eq V0 (.str "right")) (.ret (.bin .RShift V2 V3)^K0) .skip^.ret (.bin .RShift (.call 5 (V2::V1::.bin .Add V1 V3::N0)) V3)^K0
def aOE:Sx:=.ifs (.cmp .Eq V0 (.str "and")) (.ret (.bin .BitAnd V2 V3)^K0) .skip^.ifs (.cmp .Eq V0 (.str "or")) (.ret (.bin .BitOr V2 V3)^K0) .skip^.ifs (.cmp .Eq V0 (.str "xor")) (.ret (.bin .BitXor V2 V3)^K0) .skip^.ifs (.cmp .Eq V0 (.str "add")) (.ret (.bin .BitAnd (.bin .Add V2 V3) (.call 0 (V1::N0)))^K0) .skip^.ifs (.cmp .Eq V0 (.str "sub")) (.ret (.bin .BitAnd (.bin .Sub V2 V3) (.call 0 (V1::N0)))^K0) .skip^.ret (.bin .BitAnd (.bin .Mult V2 V3) (.call 0 (V1::N0)))^K0
def aEI:Sx:=.set 3 (.ix V0 J0)^.set 4 (.ix V0 J1)^.ifs (.cmp .Eq V3 (.str "num")) (.ret (.ix V0 J2)^K0) .skip^.ifs (.cmp .Eq V3 (.str "not")) (.ret (.bin .BitXor (.ix V2 J0) (.call 0 (V4::N0)))^K0) .skip^.ifs (.cmp .In V3 (.con "SHIFTS" kQ)) (.ret (.call 67 (V3::V4::.ix V2 J0::.ix V0 J3::N0))^K0) .skip^.ifs (.cmp .Eq V3 (.str "cut")) (.ret (.bin .BitAnd (.ix V2 J0) (.call 0 (V4::N0)))^K0) .skip^.ifs (.cmp .Eq V3 (.str "wide")) (.ret (.ix V2 J0)^K0) .skip^.ifs (.cmp .Eq V3 (.str "sign")) (.ret (.call 5 (.ix V2 J0::.ix V1 J0::V4::N0))^K0) .skip^.ifs (.cmp .In V3 (.con "COMPARES" nB)) (.ret (.call 66 (V3::.ix V1 J0::.ix V2 J0::.ix V2 J1::N0))^K0) .skip^.ifs (.cmp .Eq V3 (.str "pick")) (.ret (.ite (.cmp .Eq (.ix V2 J0) J1) (.ix V2 J1) (.ix V2 J2))^K0) .skip^.ret (.call 68 (V3::V4::.ix V2 J0::.ix V2 J1::N0))^K0
def aAy:E:=.zip (.ix V0 J0) V2
def vS:Sx:=.ifs (.cmp .Eq (.ix V6 J0) (.str "in")) (.set 8 (.ix V1 V5)^.set 5 (.bin .Add V5 J1)^K0) (.set 8 (.call 69 (V6::.call 9 (V6::V3::N0)::.call 9 (V6::V4::N0)::N0))^K0)^.expr (.app V4 (.bin .BitXor V8 V7))^K0
def aJB:Sx:=.set 3 (.call 11 (V0::N0))^.set 4 (.new (.lst .nil))^.set 5 J0^.loop (.many [6,7]) aAy vS^.ret (.blt .tup (V4::N0))^K0
def aMT:Sx:=.ret (.call 70 (V0::V1::.bin .Mult (.tup (J0::N0)) (.blt .len (.ix V0 J0::N0))::N0))^K0
def aGq:E:=.comp (.ix V1 V2) (.one 2) (.it (.ix V0 J1)) .no
def aH5:Sx:=.ret (.blt .tup (.fz aGq::N0))^K0
def aXw:Sx:=.ret (.call 72 (V0::.call 71 (V0::V1::N0)::N0))^K0
def jB:Sx:=.setT (.many [3,4]) (.sl V0 .no (J2::N0))^.put V0 J1 (.bin .Add V4 J1)^.ifs (.and (.cmp .Lt (.bin .Add (.bin .FloorDiv V4 (.int 12)) J1) (.blt .len (V3::N0))) (.cmp .Eq (.bin .Mod (.ix V3 J0) J2) J1)) (.ifs (.cmp .Eq (.bin .Mod V4 (.int 12)) J0) (.put V0 J2 (.ix V3 (.bin .Add (.bin .FloorDiv V4 (.int 12)) J1))^K0) .skip^.set 5 (.bin .Mod (.ix V0 J2) V1)^.put V0 J2 (.bin .FloorDiv (.ix V0 J2) V1)^.ret V5^K0) .skip^.ifs (.cmp .Lt V4 (.blt .len (V3::N0))) (.ret (.bin .Mod (.ix V3 V4) V1)^K0) .skip^.set 2 (.bin .Add (.bin .Mult V4 (.int 7919)) J5)^.ifs (.cmp .Gt (.blt .len (.ix V0 J0::N0)) J0) (.set 2 (.bin .Add V2 (.bin .Mult (.ix (.ix V0 J0) (.bin .Mod (.bin .Mult V4 J7) (.blt .len (.ix V0 J0::N0)))) (.bin .Add (.int 48271) V4)))^K0) .skip^.set 2 (.bin .Mod (.bin .Mult (.bin .Mod V2 (.int 2147483629)) (.bin .Add V4 J3)) (.int 2147483629))^.set 2 (.bin .Mod (.bin .Mult V2 V2) (.int 2147483587))^.ret (.bin .Mod (.bin .Mod (.bin .Mult V2 V2) (.int 1999999973)) V1)^K0
def aCM:Sx:=.ifs (.cmp .Lt V1 (.int 31)) (.ret (.call 74 (V0::.bin .LShift J1 V1::N0))^K0) .skip^.ret (.bin .Add (.call 74 (V0::.bin .LShift J1 (.int 30)::N0)) (.bin .LShift (.call 74 (V0::.bin .LShift J1 (.bin .Sub V1 (.int 30))::N0)) (.int 30)))^K0
def aGo:Sx:=.ret (.ix (.fz (.lst (J1::.int 64::.bin .Add J1 (.call 74 (V0::J8::N0))::.bin .Add J1 (.call 74 (V0::.int 64::N0))::N0))) (.call 74 (V0::J4::N0)))^K0
def aC7:Sx:=.set 2 (.call 74 (V0::J5::N0))^.set 3 (.fz (.lst (J0::.bin .Sub (.bin .LShift J1 V1) J1::.bin .LShift J1 (.call 74 (V0::V1::N0))::.bin .Sub (.bin .LShift J1 (.call 74 (V0::V1::N0))) J1::N0)))^.ifs (.cmp .Lt V2 J4) (.ret (.ix V3 V2)^K0) .skip^.ret (.call 75 (V0::V1::N0))^K0
def vX:Sx:=.ifs (.cmp .Eq (.ix (.ix V1 V2) J1) V3) (.ret V2^K0) .skip^.set 4 (.ix (.fz (.lst (.str "wide"::.str "sign"::N0))) (.call 74 (V0::J2::N0)))^.ifs (.cmp .Gt (.ix (.ix V1 V2) J1) V3) (.set 4 (.str "cut")^K0) .skip^.expr (.app V1 (.tup (V4::V3::V2::N0)))^.ret (.bin .Sub (.blt .len (V1::N0)) J1)^K0
def aNl:E:=.comp V4 (.one 4) (.rng1 (.blt .len (V1::N0))) (.cmp .Eq (.ix (.ix V1 V4) J1) V2)
def vK:Sx:=.setC false 3 aNl^.ifs (.and (.cmp .NotEq V3 (.fz (.lst .nil))) (.cmp .Gt (.call 74 (V0::J4::N0)) J0)) (.ret (.ix V3 (.bin .Sub (.bin .Sub (.blt .len (V3::N0)) J1) (.call 74 (V0::.blt .len (V3::N0)::N0))))^K0) .skip^.ret (.call 78 (V0::V1::.call 74 (V0::.blt .len (V1::N0)::N0)::V2::N0))^K0
def aCC:Sx:=.set 3 (.call 74 (V0::.blt .len (V1::N0)::N0))^.set 4 (.ix (.ix V1 V3) J1)^.ifs (.cmp .Eq V2 (.str "cut")) (.ret (.tup (.str "cut"::.bin .Add J1 (.call 74 (V0::V4::N0))::V3::N0))^K0) .skip^.ret (.tup (V2::.bin .Add V4 (.call 74 (V0::.bin .Sub (.int 65) V4::N0))::V3::N0))^K0
def aCO:Sx:=.set 4 (.ix (.fz (.lst (.call 74 (V0::V3::N0)::.call 74 (V0::.int 64::N0)::N0))) (.bin .FloorDiv (.call 74 (V0::J4::N0)) J3))^.ret (.tup (V2::V3::.call 79 (V0::V1::V3::N0)::V4::N0))^K0
def aC1:Sx:=.set 4 (.call 79 (V0::V1::V3::N0))^.set 5 (.call 79 (V0::V1::V3::N0))^.ifs (.cmp .In V2 (.tup (.str "same"::.str "less"::.str "under"::N0))) (.set 3 J1^K0) .skip^.ret (.tup (V2::V3::V4::V5::N0))^K0
def kO:Sx:=.set 2 (.fz (.lst (.str "in"::.str "num"::.str "num"::.str "not"::.str "and"::.str "or"::.str "xor"::.str "add"::.str "sub"::.str "mul"::.str "left"::.str "right"::.str "slide"::.str "cut"::N0)))^.set 2 (.bin .Add V2 (.fz (.lst (.str "wide"::.str "sign"::.str "same"::.str "less"::.str "under"::.str "pick"::N0))))^.set 3 (.ix V2 (.call 74 (V0::.int 20::N0)))^.set 4 (.ix (.ix V1 (.call 74 (V0::.blt .len (V1::N0)::N0))) J1)^.ifs (.cmp .Eq (.call 74 (V0::J4::N0)) J1) (.set 4 (.call 76 (V0::N0))^K0) .skip^.ifs (.cmp .Eq V3 (.str "in")) (.set 5 (.tup (.str "in"::V4::N0))^K0) (.ifs (.cmp .Eq V3 (.str "num")) (.set 5 (.tup (.str "num"::V4::.call 77 (V0::V4::N0)::N0))^K0) (.ifs (.cmp .Eq V3 (.str "not")) (.set 5 (.tup (.str "not"::V4::.call 79 (V0::V1::V4::N0)::N0))^K0) (.ifs (.cmp .In V3 (.tup (.str "left"::.str "right"::.str "slide"::N0))) (.set 5 (.call 81 (V0::V1::V3::V4::N0))^K0) (.ifs (.cmp .In V3 (.tup (.str "cut"::.str "wide"::.str "sign"::N0))) (.set 5 (.call 80 (V0::V1::V3::N0))^K0) (.ifs (.cmp .Eq V3 (.str "pick")) (.set 6 (.call 79 (V0::V1::J1::N0))^.set 5 (.bin .Add (.tup (.str "pick"::V4::V6::N0)) (.sl (.call 82 (V0::V1::V3::V4::N0)) (J2::N0) .no))^K0) (.set 5 (.call 82 (V0::V1::V3::V4::N0))^K0)^K0)^K0)^K0)^K0)^K0)^.expr (.app V1 V5)^K0
def aCD:E:=.rng1 (.ix (.fz (.lst (.call 74 (V0::J3::N0)::J7::N0))) (.blt .int (.cmp .Eq (.call 74 (V0::J8::N0)) J1::N0)))
def aCE:Sx:=.expr (.app V6 (.call 74 (V0::.blt .len (V3::N0)::N0)))^K0
def aAb:E:=.rng1 V1
def aAc:Sx:=.ifs (.cmp .Lt (.blt .len (V3::N0)) (.int 37)) (.expr (.call 83 (V0::V3::N0))^K0) .skip^K0
def iC:Sx:=.set 2 (.call 76 (V0::N0))^.set 3 (.new (.lst (.tup (.str "in"::V2::N0)::N0)))^.ifs (.cmp .Eq (.call 74 (V0::J8::N0)) J1) (.set 3 (.new (.lst (.tup (.str "num"::V2::.call 77 (V0::V2::N0)::N0)::N0)))^K0) .skip^.loop (.one 4) aAb aAc^.set 5 (.fz (.lst (.bin .Sub (.blt .len (V3::N0)) J1::.call 74 (V0::.blt .len (V3::N0)::N0)::N0)))^.set 6 (.new (.lst (.ix V5 (.blt .int (.cmp .Eq (.call 74 (V0::J4::N0)) J1::N0))::N0)))^.loop (.one 4) aCD aCE^.ret (.tup (.blt .tup (V3::N0)::.blt .tup (V6::N0)::N0))^K0
def aAd:E:=.it (.ix V1 J0)
def vJ:Sx:=.ifs (.cmp .Eq (.ix V3 J0) (.str "in")) (.expr (.app V2 (.call 77 (V0::.ix V3 J1::N0)))^K0) .skip^K0
def aGj:Sx:=.set 2 (.new (.lst .nil))^.loop (.one 3) aAd vJ^.ret (.blt .tup (V2::N0))^K0
def aGt:Sx:=.expr (.app V0 V1)^.ret (.bin .Sub (.blt .len (V0::N0)) J1)^K0
def aFY:E:=.comp V9 (.one 9) (.rng1 (.blt .len (V1::N0))) (.cmp .Eq (.ix (.ix V1 V9) J1) V2)
def qP:Sx:=.set 3 (.call 74 (V0::J9::N0))^.setC false 4 aFY^.ifs (.and (.cmp .Eq V3 J0) (.cmp .NotEq V4 (.fz (.lst .nil)))) (.ret (.ix V4 (.call 74 (V0::.blt .len (V4::N0)::N0)))^K0) .skip^.ifs (.cmp .Lt V3 J3) (.ret (.call 86 (V1::.tup (.str "num"::V2::.call 77 (V0::V2::N0)::N0)::N0))^K0) .skip^.ifs (.cmp .Eq V3 J3) (.set 8 (.bin .Add J1 (.call 74 (V0::V2::N0)))^.ret (.call 86 (V1::.tup (.str "wide"::V2::.call 86 (V1::.tup (.str "in"::V8::N0)::N0)::N0)::N0))^K0) .skip^.set 5 (.call 86 (V1::.tup (.str "in"::V2::N0)::N0))^.ifs (.cmp .Eq V3 J4) (.ret V5^K0) .skip^.ifs (.cmp .Eq V3 J5) (.ret (.call 86 (V1::.tup (.str "left"::V2::V5::.call 74 (V0::V2::N0)::N0)::N0))^K0) .skip^.set 6 (.call 77 (V0::V2::N0))^.ifs (.cmp .Eq V3 J6) (.set 6 (.bin .Sub (.bin .Sub (.bin .LShift J1 V2) J1) V6)^K0) .skip^.set 7 (.call 86 (V1::.tup (.str "num"::V2::V6::N0)::N0))^.set 5 (.call 86 (V1::.tup (.ix (.ix (.fz (.lst (.tup (.str "and"::.str "or"::N0)::.tup (.str "and"::.str "and"::N0)::N0))) (.call 74 (V0::J2::N0))) (.blt .int (.cmp .Eq V3 J8::N0))::V2::V5::V7::N0)::N0))^.ifs (.and (.cmp .Eq (.call 74 (V0::J2::N0)) J1) (.cmp .Lt (.blt .len (V1::N0)) (.int 30))) (.set 7 (.call 86 (V1::.tup (.str "num"::V2::.bin .LShift J1 (.call 74 (V0::V2::N0))::N0)::N0))^.set 5 (.call 86 (V1::.tup (.str "or"::V2::V5::V7::N0)::N0))^K0) .skip^.ret V5^K0
def aND:Sx:=.ifs (.cmp .Eq (.call 74 (V0::J2::N0)) J1) (.ret (.call 86 (V1::.tup (.str "or"::V3::V2::.call 86 (V1::.tup (.str "num"::V3::J0::N0)::N0)::N0)::N0))^K0) .skip^.ret (.call 86 (V1::.tup (.str "and"::V3::V2::.call 86 (V1::.tup (.str "num"::V3::.bin .Sub (.bin .LShift J1 V3) J1::N0)::N0)::N0)::N0))^K0
def vM:Sx:=.set 2 (.fz (.lst (.str "and"::.str "or"::.str "xor"::.str "add"::.str "sub"::.str "mul"::.str "mul"::.str "mul"::.str "add"::.str "sub"::.str "pick"::.str "same"::.str "less"::.str "under"::N0)))^.set 2 (.bin .Add V2 (.fz (.lst (.str "left"::.str "right"::.str "slide"::.str "cut"::.str "wide"::.str "sign"::.str "not"::N0))))^.set 3 (.ix V2 (.call 74 (V0::.int 21::N0)))^.set 4 (.call 76 (V0::N0))^.set 5 (.call 87 (V0::V1::V4::N0))^.ifs (.cmp .In V3 (.tup (.str "left"::.str "right"::.str "slide"::N0))) (.ret (.call 86 (V1::.tup (V3::V4::V5::.bin .Mult (.call 74 (V0::J2::N0)) (.call 74 (V0::.int 64::N0))::N0)::N0))^K0) .skip^.ifs (.cmp .Eq V3 (.str "not")) (.ret (.call 86 (V1::.tup (V3::V4::V5::N0)::N0))^K0) .skip^.ifs (.cmp .Eq V3 (.str "cut")) (.ret (.call 86 (V1::.tup (V3::.blt .mx (J1::.bin .Sub V4 (.bin .Mult (.call 74 (V0::J2::N0)) (.call 74 (V0::.int 64::N0)))::N0)::V5::N0)::N0))^K0) .skip^.ifs (.cmp .In V3 (.tup (.str "wide"::.str "sign"::N0))) (.ret (.call 86 (V1::.tup (V3::.blt .mn (.int 64::.bin .Add V4 (.bin .Mult (.call 74 (V0::J2::N0)) (.call 74 (V0::.int 64::N0)))::N0)::V5::N0)::N0))^K0) .skip^.set 6 (.call 87 (V0::V1::V4::N0))^.set 7 (.call 74 (V0::J8::N0))^.ifs (.cmp .Eq V7 J1) (.set 6 V5^K0) .skip^.ifs (.cmp .Eq V7 J2) (.set 6 (.call 88 (V0::V1::V5::V4::N0))^K0) .skip^.ifs (.cmp .Eq V3 (.str "pick")) (.ret (.call 86 (V1::.tup (V3::V4::.call 87 (V0::V1::J1::N0)::V5::V6::N0)::N0))^K0) .skip^.ifs (.cmp .In V3 (.tup (.str "same"::.str "less"::.str "under"::N0))) (.set 4 J1^K0) .skip^.ret (.call 86 (V1::.tup (V3::V4::V5::V6::N0)::N0))^K0
def aFX:Sx:=.set 3 (.ix (.ix V1 V2) J1)^.set 4 (.call 74 (V0::J4::N0))^.ifs (.cmp .Eq V4 J0) (.ret V2^K0) .skip^.ifs (.cmp .Eq V4 J1) (.ret (.call 86 (V1::.tup (.str "cut"::.bin .Add J1 (.call 74 (V0::V3::N0))::V2::N0)::N0))^K0) .skip^.ifs (.cmp .Eq V4 J2) (.ret (.call 86 (V1::.tup (.str "right"::V3::V2::.call 74 (V0::V3::N0)::N0)::N0))^K0) .skip^.set 5 (.call 86 (V1::.tup (.str "num"::V3::.call 77 (V0::V3::N0)::N0)::N0))^.ret (.call 86 (V1::.tup (.str "and"::V3::V2::V5::N0)::N0))^K0
def aAa:E:=.rng1 J2
def aCz:Sx:=.expr (.app V2 (.call 90 (V0::V1::.call 89 (V0::V1::N0)::N0)))^K0
def aNi:Sx:=.set 1 (.new (.lst .nil))^.set 2 (.new (.lst .nil))^.loop (.one 3) aAa aCz^.ret (.tup (.blt .tup (V1::N0)::.blt .tup (.sl V2 .no (.bin .Add J1 (.call 74 (V0::J2::N0))::N0)::N0)::N0))^K0
def aGa:E:=.comp V1 (.one 1) (.it (.ix V0 J0)) (.cmp .Eq (.ix V1 J0) (.str "in"))
def aOQ:Sx:=.ret (.fz aGa)^K0
def aFV:E:=.comp V4 (.one 4) (.it V2) (.cmp .NotIn V4 (.tup (.str "gone"::.str "passed"::N0)))
def aCB:E:=.zip (.ix V0 J0) V2
def aFW:Sx:=.ifs (.or (.cmp .NotIn V4 (.tup (.str "gone"::.str "known"::.str "passed"::.str "cheaper"::.str "kept"::N0))) (.and (.cmp .Eq (.ix V3 J0) (.str "in")) (.cmp .NotEq V4 (.str "kept")))) (.ret (.bl false)^K0) .skip^K0
def aNk:Sx:=.ifs (.or (.not (.isi V2 .tup)) (.cmp .NotEq (.blt .len (V2::N0)) (.blt .len (.ix V0 J0::N0)))) (.ret (.bl false)^K0) .skip^.loop (.many [3,4]) aCB aFW^.ret (.cmp .Eq (.blt .len (.fz aFV::N0)) (.blt .len (.ix V1 J0::N0)))^K0
def aCH:E:=.rng1 J4
def aF4:Sx:=.set 4 (.call 85 (V0::V1::N0))^.ifs (.cmp .NotEq (.call 73 (V2::V4::N0)) (.call 73 (V1::V4::N0))) (.ret (.bl false)^K0) .skip^K0
def aF0:E:=.comp (.ix (.ix (.ix V2 J0) V5) J1) (.one 5) (.it (.ix V2 J1)) .no
def aF3:E:=.comp (.ix (.ix (.ix V1 J0) V5) J1) (.one 5) (.it (.ix V1 J1)) .no
def aNV:Sx:=.ifs (.or (.cmp .IsNot (.call 62 (V2::N0)) (.bl true)) (.or (.cmp .NotEq (.call 92 (V2::N0)) (.call 92 (V1::N0))) (.cmp .Gt (.call 64 (V2::N0)) (.call 64 (V1::N0))))) (.ret (.bl false)^K0) .skip^.ifs (.cmp .NotEq (.fz aF0) (.fz aF3)) (.ret (.bl false)^K0) .skip^.loop (.one 3) aCH aF4^.ret (.bl true)^K0
def qB:Sx:=.set 1 (.new (.lst (V0::J0::J0::N0)))^.ifs (.cmp .Eq (.call 74 (V1::J2::N0)) J1) (.set 2 (.call 91 (V1::N0))^K0) (.set 2 (.call 84 (V1::.bin .Add J1 (.blt .mn (.blt .len (V0::N0)::.int 24::N0))::N0))^K0)^.setT (.many [3,4]) (.call 58 (V2::N0))^.ifs (.or (.not (.call 93 (V2::V3::V4::N0))) (.not (.call 94 (V1::V2::V3::N0)))) (.ret (.bl false)^K0) .skip^.ret (.call 94 (V1::V2::.ix (.call 58 (V3::N0)) J0::N0))^K0
end
def fns:List Fn:=[
 ⟨"full",1,["width"],aK5,top 1⟩,
 ⟨"reach",1,["number"],aJ2,top 2⟩,
 ⟨"below",1,["number"],aKB,top 3⟩,
 ⟨"low_run",1,["number"],aH8,top 4⟩,
 ⟨"top_run",2,["number","width"],aIi,top 5⟩,
 ⟨"stretched",3,["number","width","wider","top"],aCY,top 6⟩,
 ⟨"shared_top",3,["least","greatest","width","known","ones"],aGm,top 7⟩,
 ⟨"operands",1,["row"],aOR,top 14⟩,
 ⟨"with_operands",2,["row","numbers"],aF2,top 15⟩,
 ⟨"of_operands",2,["row","values","k"],aGb,top 16⟩,
 ⟨"width_of",2,["program","k","rows"],aG2,top 17⟩,
 ⟨"widths_of",1,["program","row"],aGO,top 18⟩,
 ⟨"settled_need",3,["first","second","mask"],aF6,top 20⟩,
 ⟨"mul_need",3,["first","second","mask","h","u","g"],aHr,top 21⟩,
 ⟨"folded",2,["mask","width"],aDO,top 22⟩,
 ⟨"shift_need",4,["word","width","k","mask"],aAm,top 23⟩,
 ⟨"pick_need",2,["choice","mask"],aAz,top 24⟩,
 ⟨"asking_need",4,["row","widths","facts","mask","word"],aGf,top 25⟩,
 ⟨"need",4,["row","widths","facts","mask"],aEK,top 26⟩,
 ⟨"row_needs",4,["program","facts","k","mask","row","widths","needs","operand"],aGI,top 28⟩,
 ⟨"asked",2,["program","facts","masks","out","k","rows","outs","operand","mask"],gW,top 29⟩,
 ⟨"top_mask",2,["count","width"],aHl,top 31⟩,
 ⟨"known_bits",1,["fact"],aGv,top 32⟩,
 ⟨"closed",2,["fact","width","top","noughts","ones","alike"],wY,top 33⟩,
 ⟨"least",1,["fact"],aKl,top 34⟩,
 ⟨"greatest",2,["fact","width"],aGV,top 35⟩,
 ⟨"outcome",3,["word","one","other"],aQa,top 37⟩,
 ⟨"low_masks",3,["word","one","other","low","ones"],aGP,top 38⟩,
 ⟨"low_noughts",4,["word","width","one","other"],aAi,top 39⟩,
 ⟨"bounds",4,["word","width","one","other","lowest","highest"],aAZ,top 40⟩,
 ⟨"top_masks",4,["word","width","one","other","lowest","highest"],aAw,top 41⟩,
 ⟨"sum_alike",3,["word","one","other"],aAr,top 42⟩,
 ⟨"sum_fact",4,["word","width","one","other","low","top","noughts"],aHk,top 43⟩,
 ⟨"num_fact",2,["width","number"],aGS,top 48⟩,
 ⟨"unlike_bits",2,["one","other"],aGg,top 49⟩,
 ⟨"bitwise_fact",3,["word","one","other","alike","noughts"],aAe,top 50⟩,
 ⟨"left_fact",3,["width","fact","k","noughts"],aGD,top 51⟩,
 ⟨"right_fact",3,["width","fact","k","noughts"],aCS,top 52⟩,
 ⟨"slide_fact",3,["width","fact","k","wider"],aGy,top 53⟩,
 ⟨"shift_fact",4,["word","width","fact","k"],aNW,top 54⟩,
 ⟨"fit_fact",4,["word","v","w","fact","noughts","ones","alike"],vY,top 55⟩,
 ⟨"same_fact",3,["width","one","other"],aAv,top 56⟩,
 ⟨"less_fact",3,["width","one","other"],aAq,top 57⟩,
 ⟨"top_turned",2,["fact","width","turning","noughts","ones","alike"],aGu,top 58⟩,
 ⟨"compare_fact",4,["word","width","one","other"],aNB,top 59⟩,
 ⟨"pick_fact",3,["choice","one","other"],aAo,top 60⟩,
 ⟨"open_fact",3,["row","widths","facts","word","width"],aOz,top 61⟩,
 ⟨"rule",3,["row","widths","facts"],aLQ,top 62⟩,
 ⟨"facts_of",1,["program","widths","facts","row"],aHg,top 63⟩,
 ⟨"among",2,["mask","other"],aKQ,top 66⟩,
 ⟨"single_bit",2,["fact","mask","ones"],vR,top 67⟩,
 ⟨"known_number",4,["row","fact","mask","places","word"],qO,top 68⟩,
 ⟨"changes_nothing",3,["word","fact","mask"],sU,top 69⟩,
 ⟨"passed_side",2,["choice","places"],vL,top 70⟩,
 ⟨"passed_operand",5,["row","mask","widths","facts","places","word"],iB,top 71⟩,
 ⟨"product_by_shift",4,["row","low","facts","places","one","other","k"],qN,top 72⟩,
 ⟨"cheaper_row",4,["row","mask","facts","places","low"],qQ,top 73⟩,
 ⟨"trade",6,["row","fact","mask","widths","facts","places","number","operand","cheaper"],pK,top 74⟩,
 ⟨"traded",1,["program","facts","masks","widths","rows","places","words","outs","row","fact","mask","about","word","made","place","out"],aIH,top 75⟩,
 ⟨"widths_fit",2,["row","widths","word","width","each"],aNT,top 83⟩,
 ⟨"number_fits",1,["row"],aNI,top 84⟩,
 ⟨"look_at_row",2,["rows","k","row","widths","operand","ahead"],aCK,top 85⟩,
 ⟨"look",1,["program","k","rows","outs","out"],aWx,top 86⟩,
 ⟨"row_price",2,["row","widths","word","width"],aOD,top 88⟩,
 ⟨"price",1,["program","widths","row"],aKi,top 89⟩,
 ⟨"lifted",2,["number","width"],aIP,top 91⟩,
 ⟨"compared",4,["word","width","one","other","found"],aPw,top 92⟩,
 ⟨"shifted",4,["word","width","number","k"],aQI,top 93⟩,
 ⟨"combined",4,["word","width","one","other"],aOE,top 94⟩,
 ⟨"work",3,["row","widths","numbers","word","width"],aEI,top 95⟩,
 ⟨"turned",3,["program","inputs","masks","widths","numbers","taken","row","mask","number"],aJB,top 97⟩,
 ⟨"run",2,["program","inputs"],aMT,top 98⟩,
 ⟨"of_outs",2,["program","numbers","out"],aH5,top 99⟩,
 ⟨"told",2,["program","inputs"],aXw,top 100⟩,
 ⟨"_law_draw",2,["_law_state","_law_many","_law_cell","_law_script","_law_k","_law_digit"],jB,top 102⟩,
 ⟨"_law_number",2,["_law_state","_law_width_here"],aCM,top 103⟩,
 ⟨"_law_width",1,["_law_state"],aGo,top 104⟩,
 ⟨"_law_num",2,["_law_state","_law_width_here","_law_sort","_law_some"],aC7,top 105⟩,
 ⟨"_law_fit",4,["_law_state","_law_rows","_law_a","_law_width_here","_law_word"],vX,top 106⟩,
 ⟨"_law_operand",3,["_law_state","_law_rows","_law_width_here","_law_some","_law_k"],vK,top 107⟩,
 ⟨"_law_turned_width",3,["_law_state","_law_rows","_law_word","_law_a","_law_width_here"],aCC,top 108⟩,
 ⟨"_law_shift",4,["_law_state","_law_rows","_law_word","_law_width_here","_law_k"],aCO,top 109⟩,
 ⟨"_law_pair",4,["_law_state","_law_rows","_law_word","_law_width_here","_law_a","_law_b"],aC1,top 110⟩,
 ⟨"_law_row",2,["_law_state","_law_rows","_law_some","_law_word","_law_width_here","_law_row_here","_law_c"],kO,top 111⟩,
 ⟨"_law_program",2,["_law_state","_law_most","_law_width_here","_law_rows","_law_k","_law_last","_law_outs"],iC,top 112⟩,
 ⟨"_law_inputs",2,["_law_state","_law_program_here","_law_found","_law_row_here"],aGj,top 113⟩,
 ⟨"_law_added",2,["_law_rows","_law_row_here"],aGt,top 114⟩,
 ⟨"_law_partly",3,["_law_state","_law_rows","_law_width_here","_law_sort","_law_some","_law_one","_law_number_here","_law_other","_law_narrow","_law_k"],qP,top 115⟩,
 ⟨"_law_copied",4,["_law_state","_law_rows","_law_a","_law_width_here"],aND,top 116⟩,
 ⟨"_law_tested",2,["_law_state","_law_rows","_law_some","_law_word","_law_width_here","_law_a","_law_b","_law_sort"],vM,top 117⟩,
 ⟨"_law_asked_less",3,["_law_state","_law_rows","_law_a","_law_width_here","_law_sort","_law_other"],aFX,top 118⟩,
 ⟨"_law_known_program",1,["_law_state","_law_rows","_law_outs","_law_turn"],aNi,top 119⟩,
 ⟨"_law_ins",1,["_law_program_here","_law_row_here"],aOQ,top 120⟩,
 ⟨"_law_words_good",3,["_law_program_here","_law_made","_law_words","_law_row_here","_law_word"],aNk,top 121⟩,
 ⟨"_law_right",3,["_law_state","_law_program_here","_law_made","_law_turn","_law_inputs_here","_law_k"],aNV,top 122⟩,
 ⟨"law",1,["_law_script","_law_state","_law_program_here","_law_made","_law_words"],qB,top 123⟩]
def aV(ns:List Int)(k:Nat)(x:Int):List D:=[.list (ns.map yAn),.int k,.int x]
def aRc{α:Type}{S:List α}{a v:α}(h:S[n]?=qq a):(S.set n v)[n]?=qq v:=yBb (gIm h).1
def aDd{α:Type}(S:List α)(n:Nat)(v:α):(S.set n v).take ↑S=S.set n v:=by rw[yCf];rw[yBe];exact yAd _
def aJL(a b c:D):aN (.list [a,b,c]) (.int 0)=qq a:=rfl
def aJY(a b c:D):aN (.list [a,b,c]) (.int 2)=qq c:=rfl
def aZD(a b c:D):fA [a,b,c] qz (qq 2)=[a,b]:=rfl
def tM{ns:List Int}(h:k<↑ns):aN (.list (ns.map yAn)) (.int k)=qq (.int ns[k]):=iT (by rw[yAc,yAa h];rfl)
def cs1(h:b<a):((a:Nat):Int)-1-(b:Int)=((a-1-b:Nat):Int):=()
def xA(i:Int){w:Nat}(hw:0<w):∃ r:Nat,i%(w:Int)=(r:Int)/\r<w:=by have h0:=Int.emod_nonneg i (show(w:Int)≠0 by omega);have h1:=yGx i (show(0:Int)<(w:Int) by omega);exact⟨(i%(w:Int)).toNat,by omega,by omega⟩
def aW5:kK 3 1=qq 1:=rfl
def aLF:kK 3 2=qq 2:=rfl
def qY(ns:List Int):↑(ns.map yAn)=↑ns:=yAb ..
def tE:Sx:=match jB with|.seq _ (.seq _ (.seq _ r))=>r|_=>.skip
def tB(i p:Int)(hp:0<p)(hp2:p<=2147483647) : -(2^64)<i%p/\i%p<2^64:=by have h0:=Int.emod_nonneg i (show p≠0 by omega);have h1:=yGx i hp;exact⟨by omega,by omega⟩
def aOY(C:Calls)(n k m:Nat)(ns:List Int)(x:Int)(S:aE)(e2 e5:Option W)(hS:S[n]?=qq (qq (aV ns (k+1) x)))(hm:0<m)(hk:k<=100000) :
 ∃ r:Nat,r<m/\xs C tE [#[n],(m:),e2,qq (.d (.list (ns.map yAn))),(k:),e5] S=qq (.rt (.d (.int r)),S):=by
 unfold aV at hS;have hm':(0:Int)<(m:Int):=();by_cases c1:k<↑ns
 ·have d1:decide ((k:Int)<((↑ns:Nat):Int))=true:=dqT ();let(r,er,hr):=xA ns[k] hm;refine⟨r,hr,?_⟩;erw[2,tE,jB,eC,dL,qY,dM,d1,tM c1,gD hm',er]
 ·have d1:decide ((k:Int)<((↑ns:Nat):Int))=false:=dqF ();have cH:∀ c:Int,∃ r:Nat,r<m/\c%2147483629*((k:Int)+3)%2147483629*(c%2147483629*((k:Int)+3)%2147483629)%2147483587*(c%2147483629*((k:Int)+3)%2147483629*(c%2147483629*((k:Int)+3)%2147483629)%2147483587)%1999999973%(m:Int)=(r:Int):=λ c=>by
   let(r,er,hr):=xA (c%2147483629*((k:Int)+3)%2147483629*(c%2147483629*((k:Int)+3)%2147483629)%2147483587*(c%2147483629*((k:Int)+3)%2147483629*(c%2147483629*((k:Int)+3)%2147483629)%2147483587)%1999999973) hm;exact⟨r,hr,er⟩
  by_cases c2:0<↑ns
  ·have d2:decide ((0:Int)<((↑ns:Nat):Int))=true:=dqT ();let(q,eq,hq):=xA ((k:Int)*7) c2;let(r,hr,er):=cH ((k:Int)*7919+5+ns[q]*(48271+(k:Int)));refine⟨r,hr,?_⟩;have s1:=tB ((k:Int)*7919+5+ns[q]*(48271+(k:Int))) 2147483629 (·) (·);have s2:=tB (((k:Int)*7919+5+ns[q]*(48271+(k:Int)))%2147483629*((k:Int)+3)) 2147483629 (·) (·);have s3:=tB (((k:Int)*7919+5+ns[q]*(48271+(k:Int)))%2147483629*((k:Int)+3)%2147483629*(((k:Int)*7919+5+ns[q]*(48271+(k:Int)))%2147483629*((k:Int)+3)%2147483629)) 2147483587 (·) (·)
   erw[20,tE,jB,eC,dL,qY,dM,d1,@wT (k:Int) 7919 (·) (·),dS,hS,aJL,kR,d2,@wT (k:Int) 7 (·) (·),@gD ((k:Int)*7) ((↑ns:Nat):Int) (),eq,tM hq,
    @wT (ns[q]) (48271+(k:Int)) () (),@gD _ 2147483629 (·),lS s1.1 s1.2,lS s2.1 s2.2,@gD _ 2147483587 (·),lS s3.1 s3.2,@gD _ 1999999973 (·),gD hm',er]
  ·have d2:decide ((0:Int)<((↑ns:Nat):Int))=false:=dqF ();let(r,hr,er):=cH ((k:Int)*7919+5);refine⟨r,hr,?_⟩;have s1:=tB ((k:Int)*7919+5) 2147483629 (·) (·);have s2:=tB (((k:Int)*7919+5)%2147483629*((k:Int)+3)) 2147483629 (·) (·);have s3:=tB (((k:Int)*7919+5)%2147483629*((k:Int)+3)%2147483629*(((k:Int)*7919+5)%2147483629*((k:Int)+3)%2147483629)) 2147483587 (·) (·);have hq1:=@wT (k:Int) 7919 (·) (·);have hq2:=λ i=>@gD i 2147483629 (·)
   have hq3:=λ i=>@gD i 2147483587 (·)
   have hq4:=λ i=>@gD i 1999999973 (·)
   erw[2,tE,jB,eC,dL,qY,dM,d1,hq1,dS,hS,aJL,kR,d2,hq2,lS s1.1 s1.2,lS s2.1 s2.2,hq3,lS s3.1 s3.2,hq4,gD hm',er]
def rC:Sx:=match jB with|.seq _ (.seq _ (.seq i _))=>i|_=>.skip
def aDJ:Sx:=match jB with|.seq _ (.seq p _)=>p|_=>.skip
def aA2:Sx:=match jB with|.seq p _=>p|_=>.skip
def aRA(d n k m:Nat)(ns:List Int)(x:Int)(S:aE)(hS:S[n]?=qq (qq (aV ns k x)))(hm:0<m)(hm2:m<2^64)(hk:k<=100000) :
 ∃ (r:Nat) (x':Int),r<m/\cl fns (d+1) 74 [.loc n,.d (.int m)] S=qq (.d (.int r),S.set n (qq (aV ns (k+1) x'))):=by
 have hm':(0:Int)<(m:Int):=();have hm2':(m:Int)<2^64:=by exact_mod_cast hm2
 have e1:(k:Int)/12+1=((k/12+1:Nat):Int):=();have e2:(k:Int)+1=((k+1:Nat):Int):=();have gs:=λ v=>aRc (v:=v) hS
 have start:(dN (xs (aC fns d) aA2) (xs (aC fns d) aDJ)) [#[n],(m:),qz,qz,qz,qz] S=qq (.nx [#[n],(m:),qz,qq (.d (.list (ns.map yAn))),(k:),qz],S.set n (qq (aV ns (k+1) x))):=by
  unfold aV at hS ⊢;erw[3,aA2,aDJ,jB,mS,nP,zM,hS,aZD,mM,kX,aW5,dS,e2]
 have fR:∀ (R:Option (Fl×aE)),dN (xs (aC fns d) rC) (xs (aC fns d) tE) [#[n],(m:),qz,qq (.d (.list (ns.map yAn))),(k:),qz] (S.set n (qq (aV ns (k+1) x)))=R ->
  cl fns (d+1) 74 [.loc n,.d (.int m)] S=R.bind λ p=>match p.1 with
   |.rt w=>lC ↑S p.2 w|.nx _=>qq (.d .none,p.2.take ↑S)
   |_=>qz:=λ R hR=>by
  rw[bE rfl d _ S rfl,<- hR];simp only[dN] at start ⊢;cases q:xs (aC fns d) aA2 [#[n],(m:),qz,qz,qz,qz] S with
  |none=>rw[q] at start;cases start
  |some z=>
    let(fl,S1):=z;rw[q] at start;simp only[oB] at start;cases fl with
    |nx e=>
      simp only at start;show((dN (xs (aC fns d) aA2) (dN (xs (aC fns d) aDJ) (dN (xs (aC fns d) rC) (xs (aC fns d) tE)))) [#[n],(m:),qz,qz,qz,qz] S).bind _=_;simp only[dN,q,oB,start]
      all_goals rfl
    |rt w=>cases start|bk e=>cases start|ct e=>cases start
 have hS2:(S.set n (qq (aV ns (k+1) x)))[n]?=qq (qq (aV ns (k+1) x)):=gs _;have skip:xs (aC fns d) rC [#[n],(m:),qz,qq (.d (.list (ns.map yAn))),(k:),qz] (S.set n (qq (aV ns (k+1) x)))=qq (.nx [#[n],(m:),qz,qq (.d (.list (ns.map yAn))),(k:),qz],S.set n (qq (aV ns (k+1) x))) ->
  ∃ (r:Nat) (x':Int),r<m/\cl fns (d+1) 74 [.loc n,.d (.int m)] S=qq (.d (.int r),S.set n (qq (aV ns (k+1) x'))):=λ h=>by
  let(r,hr,ht):=aOY (aC fns d) n k m ns x _ qz qz hS2 hm hk;refine⟨r,x,hr,?_⟩;rw[fR _ rfl];simp only[dN,h,oB,ht,lC,aDd]
 by_cases c1:k/12+1<↑ns
 ·have d1:decide (((k/12+1:Nat):Int)<((↑ns:Nat):Int))=true:=dqT ();have i0:aN (.list (ns.map yAn)) (.int 0)=qq (.int ns[0]):=tM (k:=0) ();rcases yBi (ns[0]%2==1) with c2|c2
  ·rcases yBi ((k:Int)%12==0) with c3|c3
   ·let(r,er,hr):=xA ns[k/12+1] hm;refine⟨r,ns[k/12+1]/(m:Int),hr,?_⟩;rw[fR _ rfl];unfold aV at hS2 ⊢;have hq5:=@oY (k:Int) 12 (·) (·);have hq6:=@gD (ns[0]) 2 (·);have hq7:=@gD (k:Int) 12 (·);erw[2,rC,jB,mM,kX,aLF,dS,hq5,e1,eC,dL,qY,dM,d1,i0,hq6,aZ,c2,hq7,c3,hS2,gs,yHz,tM c1,aJY,gD hm',er,oY hm' hm2',aDd]
   ·let(r,er,hr):=xA x hm;refine⟨r,x/(m:Int),hr,?_⟩;rw[fR _ rfl];unfold aV at hS2 ⊢;have hq8:=@oY (k:Int) 12 (·) (·);have hq9:=@gD (ns[0]) 2 (·);have hq10:=@gD (k:Int) 12 (·);erw[2,rC,jB,mM,kX,aLF,dS,hq8,e1,eC,dL,qY,dM,d1,i0,hq9,aZ,c2,hq10,c3,hS2,gs,yHz,aJY,gD hm',er,oY hm' hm2',aDd]
  ·apply skip;have hq11:=@oY (k:Int) 12 (·) (·);have hq12:=@gD (ns[0]) 2 (·);erw[2,rC,jB,dS,hq11,e1,eC,dL,qY,dM,d1,i0,hq12,aZ,c2]
 ·have d1:decide (((k/12+1:Nat):Int)<((↑ns:Nat):Int))=false:=dqF ();apply skip;have hq13:=@oY (k:Int) 12 (·) (·);erw[2,rC,jB,dS,hq13,e1,eC,dL,qY,dM,d1]
inductive Wd where
 | «in» |num|not|and|or|xor|add|sub|mul|left|right|slide|cut|wide|sign|same|less|under|pick
 deriving DecidableEq
def Wd.s:Wd->Str
 |.in => "in" |.num => "num" |.not => "not" |.and => "and" |.or => "or" |.xor => "xor" |.add => "add" |.sub => "sub" |.mul => "mul" |.left => "left" |.right => "right" |.slide => "slide"
 |.cut => "cut" |.wide => "wide" |.sign => "sign" |.same => "same" |.less => "less" |.under => "under" |.pick => "pick"
structure Rw where
 wd:Wd
 w:Nat
 args:List Nat
def nD(n:Nat):D:=.int n
def Rw.d(r:Rw):D:=.tuple (.str r.wd.s::nD r.w::r.args.map nD)
def cN(ws:List Nat)(r:Rw):Prop:=1<=r.w/\r.w<=64/\match r.wd,r.args with
 |.in,[]=>True|.num,[n]=>n<2^r.w|.not,[a]=>ws[a]?=qq r.w
 |.and,[a,b]|.or,[a,b]|.xor,[a,b]|.add,[a,b]|.sub,[a,b]|.mul,[a,b]=>ws[a]?=qq r.w/\ws[b]?=qq r.w
 |.left,[a,k]|.right,[a,k]|.slide,[a,k]=>ws[a]?=qq r.w/\k<64
 |.cut,[a]=>∃ v,ws[a]?=qq v/\r.w<=v
 |.wide,[a]|.sign,[a]=>∃ v,ws[a]?=qq v/\v<=r.w
 |.same,[a,b]|.less,[a,b]|.under,[a,b]=>r.w=1/\∃ v,ws[a]?=qq v/\ws[b]?=qq v
 |.pick,[c,a,b]=>ws[c]?=qq 1/\ws[a]?=qq r.w/\ws[b]?=qq r.w|_,_=>False
def bS:List Nat->List Rw->Prop
 |_,[]=>True|ws,r::rs=>cN ws r/\bS (ws++[r.w]) rs
def vN:∀ {rs:List Rw}{ws:List Nat}{r:Rw},bS ws rs->cN (ws++rs.map (·.w)) r->bS ws (rs++[r])
 |[],ws,r,_,h=>⟨by simpa using h,True.intro⟩|q::rs,ws,r,⟨h1,h2⟩,h=>⟨h1,vN h2 (by simpa using h)⟩
def aU(S:aE)(n p:Nat)(ns:List Int)(k:Nat)(x:Int)(rs:List Rw):aE:=(S.set n (qq (aV ns k x))).set p (qq (rs.map Rw.d))
local macro_rules(kind:=«term_<*_»)|s=>return mqT "PyData.tuple" [mqT "List.cons" [mqT "PyData.tuple" [mqT "List.map" [mqI "Rw.d",s[0]]],mqT "List.cons" [s[2],mqI "List.nil"]]]
local macro_rules(kind:=«term~~~_»)|s=>let a:Lean.Term:=⟨s[1]⟩;`(List.map (·.w) $a)
local macro_rules(kind:=«term_*>_»)|s=>return mqT "PyData.tuple" [mqT "List.map" [s[2],s[0]]]
structure At0(S:aE)(n p:Nat):Prop where
 hn:n<↑S
 ne:n≠p
structure At(S:aE)(n p:Nat):Prop extends At0 S n p where
 hp:p<↑S
def At0.state{x:Int}{rs:List Rw}(h:At0 S n p):(aU S n p ns k x rs)[n]?=qq (qq (aV ns k x)):=by unfold aU;rw[yBa h.ne.symm,yBb h.hn]
def At.rows{x:Int}{rs:List Rw}(h:At S n p):(aU S n p ns k x rs)[p]?=qq (qq (rs.map Rw.d)):=by unfold aU;rw[yBb (by rw[yBe];exact h.hp)]
def At.rowsT{x:Int}{rs:List Rw}(h:At S n p)(T:aE):(aU S n p ns k x rs++T)[p]?=qq (qq (rs.map Rw.d)):=by rw[xAm (by simp[aU];exact h.hp)];exact h.rows
def At0.len{x:Int}{rs:List Rw}(h:At0 S n p):↑(aU S n p ns k x rs)=↑S:=by simp[aU]
def At0.take{x:Int}{rs:List Rw}(h:At0 S n p)(k':Nat)(x':Int)(aI:List Rw):(aU S n p ns k' x' aI).take ↑(aU S n p ns k x rs)=aU S n p ns k' x' aI:=by rw[h.len,yCf];rw[h.len];exact yAd _
def At0.put{x:Int}{rs:List Rw}(h:At0 S n p)(k':Nat)(x':Int):(aU S n p ns k x rs).set n (qq (aV ns k' x'))=aU S n p ns k' x' rs:=by unfold aU;rw[List.set_comm _ _ h.ne.symm,yHz]
def At.putR{x:Int}{rs:List Rw}(h:At S n p)(r:Rw):(aU S n p ns k x rs).set p (qq (rs.map Rw.d++[r.d]))=aU S n p ns k x (rs++[r]):=by unfold aU;rw[yHz,yAw];rfl
def fS{x:Int}{rs:List Rw}(h:At0 S n p)(d m:Nat)(hm:0<m)(hm2:m<2^64)(hk:k<=100000):∃ (r:Nat) (x':Int),r<m/\cl fns (d+1) 74 [.loc n,.d (.int m)] (aU S n p ns k x rs)=qq (.d (.int r),aU S n p ns (k+1) x' rs):=by let(r,x',hr,e):=aRA d n k m ns x _ h.state hm hm2 hk;exact⟨r,x',hr,by rw[e,h.put]⟩
def iP{x:Int}{rs:List Rw}(h:At0 S n p)(d m:Nat){i:Int}(hi:i=(m:Nat))(hm:0<m)(hm2:m<2^64)(hk:k<=100000):∃ (r:Nat) (x':Int),r<m/\cl fns (d+1) 74 [.loc n,.d (.int i)] (aU S n p ns k x rs)=qq (.d (.int r),aU S n p ns (k+1) x' rs):=by subst hi;exact fS h d m hm hm2 hk
def aHX(h:w<64):2^w<2^64:=yCo (·) h
def aOO{x:Int}{rs:List Rw}(h:At0 S n p)(d w:Nat)(hw:w<=64)(hk:k<=99000):∃ (r k':Nat) (x':Int),r<2^w/\k'<=k+2/\cl fns (d+2) 75 [.loc n,.d (.int w)] (aU S n p ns k x rs)=qq (.d (.int r),aU S n p ns k' x' rs):=by
 by_cases c:w<31
 ·have d1:decide ((w:Int)<31)=true:=dqT ();let(r,x',hr,e):=@fS _ _ _ k ns x rs h d (2^w) (qX w) (aHX ()) ();refine⟨r,k+1,x',hr,by omega,?_⟩;rw[bE rfl (d+1) _ _ rfl];have hq14:=gB (show w<=100000 by omega);erw[11,aCM,dM,d1,hq14,e,h.take]
 ·have d1:decide ((w:Int)<31)=false:=dqF ();have e1:(w:Int)-30=((w-30:Nat):Int):=();have s30:=@gB 30 (·);rw[show((30:Nat):Int)=30 from rfl] at s30;let(r,x',hr,e):=@fS _ _ _ k ns x rs h d (2^30) (·) (·) ();let(q,x2,hq,e'):=@fS _ _ _ (k+1) ns x' rs h d (2^(w-30)) (qX _) (aHX ()) ();have hb:r+q*2^30<2^w:=by
   have e3:(2:Nat)^w=2^(w-30)*2^30:=by rw[<- yFl,show w-30+30=w by omega]
   have h3:(q+1)*2^30<=2^(w-30)*2^30:=Nat.mul_le_mul_right _ hq;rw[Nat.add_mul] at h3;omega
  have sh:cB .LShift (.int q) (.int 30)=qq (.int ((q*2^30:Nat):Int)):=@tL q (w-30) 30 hq ();have ad:(r:Int)+((q*2^30:Nat):Int)=((r+q*2^30:Nat):Int):=(Int.natCast_add _ _).symm;refine⟨r+q*2^30,k+2,x2,hb,by omega,?_⟩;rw[bE rfl (d+1) _ _ rfl];have hq15:=gB (show w-30<=100000 by omega);erw[11,aCM,dM,d1,s30,e,cO,e1,hq15,e',sh,dS,ad,h.take]
def at4(a b c e:D){r:Nat}(h1:r<4):∃ x,(x=a\/x=b\/x=c\/x=e)/\aN (.list [a,b,c,e]) (.int r)=qq x:=by
 have:r=0\/r=1\/r=2\/r=3:=();rcases this with rfl|rfl|rfl|rfl
 ·exact⟨a,.inl rfl,rfl⟩
 ·exact⟨b,.inr (.inl rfl),rfl⟩
 ·exact⟨c,.inr (.inr (.inl rfl)),rfl⟩
 ·exact⟨e,.inr (.inr (.inr rfl)),rfl⟩
def aDs{x:Int}{rs:List Rw}(h:At0 S n p)(d:Nat)(hk:k<=99000):∃ (w:Nat) (x':Int),1<=w/\w<=64/\cl fns (d+2) 76 [.loc n] (aU S n p ns k x rs)=qq (.d (.int w),aU S n p ns (k+3) x' rs):=by
 let(r1,x1,h1,e1):=iP (ns:=ns) (k:=k) (x:=x) (rs:=rs) h d 8 (i:=8) rfl (·) (·) ();let(r2,x2,h2,e2):=iP (ns:=ns) (k:=k+1) (x:=x1) (rs:=rs) h d 64 (i:=64) rfl (·) (·) ();let(r3,x3,h3,e3):=iP (ns:=ns) (k:=k+2) (x:=x2) (rs:=rs) h d 4 (i:=4) rfl (·) (·) ();have a1:(1:Int)+(r1:Int)=((1+r1:Nat):Int):=();have a2:(1:Int)+(r2:Int)=((1+r2:Nat):Int):=();let(y,hy,e):=at4 (.int 1) (.int 64) (.int ((1+r1:Nat):Int)) (.int ((1+r2:Nat):Int)) h3;obtain⟨w,bZ,bB,rfl⟩:∃ w:Nat,1<=w/\w<=64/\y=.int w:=by
  rcases hy with rfl|rfl|rfl|rfl
  ·exact⟨1,by decide,by decide,rfl⟩
  ·exact⟨64,by decide,by decide,rfl⟩
  ·exact⟨_,by omega,by omega,rfl⟩
  ·exact⟨_,by omega,by omega,rfl⟩
 refine⟨w,x3,bZ,bB,?_⟩;rw[bE rfl (d+1) _ _ rfl];erw[11,aGo,e1,e2,e3,dS,a1,a2,e,h.take]
def aEE(a b:D):aN (.list [a,b]) (.int ((0:Nat):Int))=qq a:=rfl
def aEy(a b:D):aN (.list [a,b]) (.int ((1:Nat):Int))=qq b:=rfl
def aIV{t:Tg}{fb:FS}(P:Nat->bI->aE->Prop):∀ (ds:List D) (i:Nat) (env:bI) (S:aE),P i env S->(∀ j d env S,i<=j->j<i+↑ds->P j env S->∃ e1 aY S',t.put d env=qq e1/\fb e1 S=qq (.nx aY,S')/\P (j+1) aY S') ->
 ∃ aY S',kC t fb ds env S=qq (.nx aY,S')/\P (i+↑ds) aY S'
 |[],i,env,S,h0,_=>⟨env,S,rfl,h0⟩
 |d::ds,i,env,S,h0,h=>by
   let(e1,aY,S',h1,h2,h3):=h i d env S (yAd _) (by simp) h0;let(env2,S2,h4,h5):=aIV P ds (i+1) aY S' h3 λ j d' env S a b=>h j d' env S () (by simp at b ⊢;omega)
   refine⟨env2,S2,by simp only[kC,h1,oB,h2];exact h4,?_⟩;have:i+↑(d::ds)=i+1+↑ds:=by simp;omega
   rw[this];exact h5
def aBw{t:Tg}{fi:FL}{fb:FS}(P:Nat->bI->aE->Prop)(hi:fi env S=qq (ds,S1))(h0:P 0 env S1)(h:∀ j d env S,j<↑ds->P j env S->∃ e1 aY S',t.put d env=qq e1/\fb e1 S=qq (.nx aY,S')/\P (j+1) aY S') :
 ∃ aY S',gZ t fi fb env S=qq (.nx aY,S')/\P ↑ds aY S':=by
 let(aY,S',h1,h2):=@aIV t fb P ds 0 env S1 h0 λ j d env S _ b=>h j d env S ()
 exact⟨aY,S',by unfold gZ;rw[hi,oB];exact h1,by simpa using h2⟩
def b2i(b:Bool):∃ q:Nat,q<2/\(if b then (1:Int) else 0)=(q:Int):=by
 cases b
 ·exact⟨0,by decide,rfl⟩
 ·exact⟨1,by decide,rfl⟩
def at2(a b:D){r:Nat}(h1:r<2):∃ x,(x=a\/x=b)/\aN (.list [a,b]) (.int r)=qq x:=by
 have:r=0\/r=1:=();rcases this with rfl|rfl
 ·exact⟨a,.inl rfl,rfl⟩
 ·exact⟨b,.inr rfl,rfl⟩
variable {C:Calls}
def gF(h:xs C a env S=qq (.nx e1,S1)):xs C (.seq a r) env S=xs C r e1 S1:=by simp only[jQ,dN,h,oB]
def aMP(ns:List Int)(k:Nat)(x:Int):aU [qz] 0 1 ns k x []=[qq (aV ns k x)]:=rfl
def at1:At0 [qz] 0 1:=⟨by decide,by decide⟩
noncomputable abbrev s0(ns:List Int)(k:Nat)(x:Int):aE:=[qq (aV ns k x)]
def aXy{x:Int}(d m:Nat)(hm:0<m)(hm2:m<2^64)(hk:k<=100000):∃ (r:Nat) (x':Int),r<m/\cl fns (d+1) 74 [.loc 0,.d (.int m)] (s0 ns k x)=qq (.d (.int r),s0 ns (k+1) x'):=by let(r,x',hr,e):=@fS _ _ _ k ns x [] at1 d m hm hm2 hk;exact⟨r,x',hr,e⟩
def aWn{x:Int}(d m:Nat){i:Int}(hi:i=(m:Nat))(hm:0<m)(hm2:m<2^64)(hk:k<=100000):∃ (r:Nat) (x':Int),r<m/\cl fns (d+1) 74 [.loc 0,.d (.int i)] (s0 ns k x)=qq (.d (.int r),s0 ns (k+1) x'):=by subst hi;exact aXy d m hm hm2 hk
def dF(n:Nat):(((n:Nat):Int)==0)=(n==0):=by rw[yEa,beq_iff_eq,beq_iff_eq];omega
def xQ{x:Int}{rs:List Rw}(h:At0 S n p)(d w:Nat)(hw:1<=w)(bB:w<=64)(hk:k<=98000):∃ (r k':Nat) (x':Int),r<2^w/\k'<=k+5/\cl fns (d+3) 77 [.loc n,.d (.int w)] (aU S n p ns k x rs)=qq (.d (.int r),aU S n p ns k' x' rs):=by
 have hw3:w<2^64:=();have hp:=qX w;let(r1,x1,h1,e1):=iP (ns:=ns) (k:=k) (x:=x) (rs:=rs) h (d+1) 5 (i:=5) rfl (·) (·) ();let(r2,x2,h2,e2):=@fS _ _ _ (k+1) ns x1 rs h (d+1) w () hw3 ();let(r3,x3,h3,e3):=@fS _ _ _ (k+2) ns x2 rs h (d+1) w () hw3 ();by_cases c:r1<4
 ·have d1:decide ((r1:Int)<4)=true:=dqT ();let(y,hy,e):=at4 (.int 0) (.int ((2^w-1:Nat):Int)) (.int ((2^r2:Nat):Int)) (.int ((2^r3-1:Nat):Int)) c;obtain⟨q,hq,rfl⟩:∃ q:Nat,q<2^w/\y=.int q:=by
   have l2:2^r2<2^w:=yCo (·) h2;have l3:2^r3<2^w:=yCo (·) h3;rcases hy with rfl|rfl|rfl|rfl
   ·exact⟨0,hp,rfl⟩
   ·exact⟨_,by omega,rfl⟩
   ·exact⟨_,l2,rfl⟩
   ·exact⟨_,by omega,rfl⟩
  refine⟨q,k+3,x3,hq,by omega,?_⟩;rw[bE rfl (d+2) _ _ rfl];have hq16:=gB (show w<=100000 by omega);have hq17:=gB (show r2<=100000 by omega);have hq18:=gB (show r3<=100000 by omega);erw[11,aC7,e1,hq16,cO,aC6,e2,hq17,e3,hq18,dM,d1,e,h.take]
 ·have d1:decide ((r1:Int)<4)=false:=dqF ();let(r,k',x',hr,hk',e):=@aOO _ _ _ (k+3) ns x3 rs h d w bB ();refine⟨r,k',x',hr,by omega,?_⟩;rw[bE rfl (d+2) _ _ rfl];have hq19:=gB (show w<=100000 by omega);have hq20:=gB (show r2<=100000 by omega);have hq21:=gB (show r3<=100000 by omega);erw[11,aC7,e1,hq19,cO,aC6,e2,hq20,e3,hq21,dM,d1,e,h.take]
def aJW:∀ L:List Nat,yCs (L.map nD)=true
 |[]=>rfl
 |a::r=>by
   have ih:=aJW r;simp only[yAt,yCs,ih,yCi];rfl
def aHG:∀ L:List Nat,yCn (L.map nD)=0
 |[]=>rfl
 |a::r=>by
   have ih:=aHG r;simp only[yAt,yCn,ih];rfl
def aD9(L:List Nat):aS .NotEq (.list (L.map nD)) (.list [])=qq (.bool (!L.isEmpty)):=by
 have h1:(yEx (L.map nD)).canLay0=true:=aJW L;have h2:(yEx (L.map nD)).depth<=60:=by
  show yCn (L.map nD)+1<=60;rw[aHG];decide
 unfold aS qA;simp only[];rw[if_pos ⟨h1,rfl,h2⟩];cases L<;>rfl
def dX(r:Rw):aN r.d (.int 1)=qq (.int r.w):=@gE (.str r.wd.s::nD r.w::r.args.map nD) 1 _ rfl
def wdE(a b:Wd):Bool:=match aS .Eq (.str a.s) (.str b.s) with|some (.bool c)=>c==decide (a=b)|_=>false
def aVg(a b:Wd):wdE a b=true:=by
 have h:∀ i:Fin 19,∀ j:Fin 19,wdE (Wd.ofNat i) (Wd.ofNat j)=true:=by decide +kernel
 have e:∀ a:Wd,∃ i:Fin 19,Wd.ofNat i=a:=λ a=>⟨⟨a.ctorIdx,by cases a<;>decide⟩,Wd.ofNat_ctorIdx a⟩
 let(i,rfl):=e a;let(j,rfl):=e b;exact h i j
def bN(a b:Wd):aS .Eq (.str a.s) (.str b.s)=qq (.bool (decide (a=b))):=by
 have h:=aVg a b;unfold wdE at h;split at h
 ·rename_i c e;rw[e,eq_of_beq h]
 ·cases h
def oV(a:Wd):aS .In (.str a.s) (.tuple [.str "left",.str "right",.str "slide"])=qq (.bool (decide (a=.left\/a=.right\/a=.slide))):=by cases a<;>rfl
def aJX(a:Wd):aS .In (.str a.s) (.tuple [.str "cut",.str "wide",.str "sign"])=qq (.bool (decide (a=.cut\/a=.wide\/a=.sign))):=by cases a<;>rfl
def pE(a:Wd):aS .In (.str a.s) (.tuple [.str "same",.str "less",.str "under"])=qq (.bool (decide (a=.same\/a=.less\/a=.under))):=by cases a<;>rfl
def aJ{cJ:Sx}(h:tv C c env S=qq (false,S1))(k:xs C cJ env S1=r):xs C (.seq (.ifs c t .skip) cJ) env S=r:=by rw[<- k];simp only[jQ,tT,aDQ,dN,oH,rP,h,oB,yAx,if_false]
def bP{cJ:Sx}(h:tv C c env S=qq (true,S1))(k:xs C t env S1=qq (.rt w,S2)):xs C (.seq (.ifs c t e) cJ) env S=qq (.rt w,S2):=by simp only[jQ,tT,dN,oH,h,oB,if_true,k]
def bC{cJ:Sx}(h:ev C e env S=qq (w,S1)):xs C (.seq (.ret e) cJ) env S=qq (.rt w,S1):=by simp only[jQ,aD7,dN,qE,h,oB]
def cC{i:Nat}{e:E}{cJ:Sx}{env aY:bI}{S S1:aE}{w:W}{r:Option (Fl×aE)}(h:ev C e env S=qq (w,S1))(he:env.set i (qq w)=aY)(k:xs C cJ aY S1=r):xs C (.seq (.set i e) cJ) env S=r:=by subst he;rw[<- k];simp only[jQ,aBg,dN,jH,h,oB]
def bX(h:fs[f]?=qq F)(d:Nat){ws:List W}{S S1:aE}(hw:↑ws=F.np)(he:ws.map qq++yAg (↑F.N-↑ws) qz=env)(hS:S1.take ↑S=S1)(k:xs (aC fs d) F.body env S=qq (.rt (.d x),S1)):cl fs (d+1) f ws S=qq (.d x,S1):=by subst he;rw[bE h d ws S hw];simp only[gL,k,oB,lC,hS]
def cF{C:Calls}(h:env[i]?=qq (qq (.d a)))(hc:aS .Eq a (.str x)=qq (.bool b)):tv C (.cmp .Eq (.var i) (.str x)) env S=qq (b,S):=by erw[0,h,hc]
def fF{C:Calls}(h:env[i]?=qq (qq (.d a)))(he:ev C e env S=qq (.d t,S))(hc:aS .In a t=qq (.bool b)):tv C (.cmp .In (.var i) e) env S=qq (b,S):=by erw[0,h,he,hc]
def aQ:Sx->Sx
 |.seq _ b=>b|x=>x
def cL:Sx->Sx
 |.seq a _=>a|x=>x
def reS:Sx->E
 |.ret e=>e|_=>.no
def mH(h:tv C c env S=qq (true,S1))(k:xs C a env S1=r):xs C (.ifs c a b) env S=r:=by rw[<- k];simp only[tT,oH,h,oB,if_true]
def uC(h:tv C c env S=qq (false,S1))(k:xs C b env S1=r):xs C (.ifs c a b) env S=r:=by rw[<- k];simp only[tT,oH,h,oB,yAx,if_false]
def fD(h:xs C a env S=qq (.nx e1,S1))(k:xs C b e1 S1=r):xs C (.seq a b) env S=r:=by rw[gF h];exact k
def aBu(h:xs C a env S=qq (.nx e1,S1)):xs C (.seq a .skip) env S=qq (.nx e1,S1):=fD h rfl
def jF(h:ev C e env S=qq (w,S1)):xs C (.seq (.set i e) .skip) env S=qq (.nx (env.set i (qq w)),S1):=cC h rfl rfl
def yV{C:Calls}(hs:s=.ifs c a (.seq b .skip))(h:tv C c env S=qq (false,S))(k:xs C b env S=qq (.nx r,S1)):xs C s env S=qq (.nx r,S1):=by rw[hs];exact uC h (aBu k)
namespace GP
def aBs{rs:List Rw}{a:Nat}{r:Rw}(h:rs[a]?=qq r):aN (.list (rs.map Rw.d)) (.int a)=qq r.d:=iT (by rw[yAc,h];rfl)
def rows_len(rs:List Rw):↑(rs.map Rw.d)=↑rs:=yAb ..
def aI7{x:Int}{rs:List Rw}(h:At S n p)(hl:↑rs<=1000)(r:Rw):dI (aU S n p ns k x rs) (.loc p) (.d r.d)=qq (.d .none,aU S n p ns k x (rs++[r])):=by unfold dI;simp only[h.rows];rw[if_pos (by rw[rows_len,qo];omega),h.putR]
structure Opd(rs aI:List Rw)(a w:Nat):Prop where
 ext:∃ t,aI=rs++t/\↑t<=1
 ok:bS [] aI
 wd:(aI.map (·.w))[a]?=qq w
def qC{rs:List Rw}{a:Nat}{r:Rw}(h:rs[a]?=qq r):(~~~rs)[a]?=qq r.w:=by rw[yAc,h];rfl
def aJ7{x:Int}{rs:List Rw}(h:At S n p)(d a w:Nat)(hr:bS [] rs)(ha:a<↑rs)(hl:↑rs<=100)(hw:1<=w)(bB:w<=64)(hk:k<=99000) :
 ∃ (a' k':Nat) (x':Int) (aI:List Rw),Opd rs aI a' w/\k'<=k+1/\cl fns (d+2) 78 [.loc n,.loc p,.d (.int a),.d (.int w)] (aU S n p ns k x rs)=qq (.d (.int a'),aU S n p ns k' x' aI):=by
 obtain⟨r,hra⟩:∃ r,rs[a]?=qq r:=⟨rs[a],yAa ha⟩;have ga:=aBs hra;by_cases c:r.w=w
 ·refine⟨a,k,x,rs,⟨⟨[],by simp,by simp⟩,hr,by rw[qC hra,c]⟩,by omega,?_⟩;rw[bE rfl (d+1) _ _ rfl];erw[11,vX,h.rows,ga,dX,aZ,c,beq_self_eq_true,h.take]
 ·have c':((r.w:Int)==(w:Int))=false:=by
   rw[beq_eq_false_iff_ne];intro z;exact c (by exact_mod_cast z)
  let(q,x',hq,e):=iP (ns:=ns) (k:=k) (x:=x) (rs:=rs) h.toAt0 d 2 (i:=2) rfl (·) (·) ();have cH:∀ wd:Wd,cN ([]++rs.map (·.w)) ⟨wd,w,[a]⟩->Opd rs (rs++[⟨wd,w,[a]⟩]) ↑rs w:=λ wd ok=>⟨⟨_,rfl,yAd _⟩,vN hr ok,by simp⟩
  have aCd:∀ r:Rw,(↑(rs++[r]):Int)-1=((↑rs:Nat):Int):=λ r=>by simp
  have ap:∀ wd:Wd,dI (aU S n p ns (k+1) x' rs) (.loc p) (.d (.tuple [.str wd.s,.int w,.int a]))=qq (.d .none,aU S n p ns (k+1) x' (rs++[⟨wd,w,[a]⟩])):=λ wd=>aI7 h () ⟨wd,w,[a]⟩
  by_cases c2:w<r.w
  ·have d2:decide ((w:Int)<(r.w:Int))=true:=dqT ();refine⟨↑rs,k+1,x',_,cH .cut ⟨hw,bB,r.w,by simpa using qC hra,yEd c2⟩,by omega,?_⟩;have ap':=ap .cut;simp only[Wd.s] at ap';have:q=0\/q=1:=();rw[bE rfl (d+1) _ _ rfl];rcases this with rfl|rfl
   all_goals erw[20,gL,vX,h.rows,ga,dX,aZ,c',e,aEE,aEy,kR,d2,gK,ap',eC,dL,rows_len,cO,aCd,h.take]
  ·have d2:decide ((w:Int)<(r.w:Int))=false:=dqF ();have:q=0\/q=1:=();rcases this with rfl|rfl
   ·refine⟨↑rs,k+1,x',_,cH .wide ⟨hw,bB,r.w,by simpa using qC hra,yGf c2⟩,by omega,?_⟩;have ap':=ap .wide;simp only[Wd.s] at ap';rw[bE rfl (d+1) _ _ rfl];erw[11,vX,h.rows,ga,dX,aZ,c',e,aEE,kR,d2,gK,ap',eC,dL,rows_len,cO,aCd,h.take]
   ·refine⟨↑rs,k+1,x',_,cH .sign ⟨hw,bB,r.w,by simpa using qC hra,yGf c2⟩,by omega,?_⟩;have ap':=ap .sign;simp only[Wd.s] at ap';rw[bE rfl (d+1) _ _ rfl];erw[11,vX,h.rows,ga,dX,aZ,c',e,aEy,kR,d2,gK,ap',eC,dL,rows_len,cO,aCd,h.take]
def aC0:∀ {rs:List Rw}{ws:List Nat}{a:Nat}{r:Rw},bS ws rs->rs[a]?=qq r->1<=r.w/\r.w<=64
 |q::rs,ws,0,r,⟨h1,_⟩,e=>by
   have e':q=r:=by simpa using e
   subst e';exact⟨h1.1,h1.2.1⟩
 |q::rs,ws,a+1,r,⟨_,h2⟩,e=>aC0 h2 (by simpa using e)|[],_,_,_,_,e=>by simp at e
def wC:Sx:=match vK with|.seq _ r=>r|_=>.skip
def vW{x:Int}{rs:List Rw}(h:At S n p)(d w:Nat)(hr:bS [] rs)(h0:0<↑rs)(hl:↑rs<=100)(hw:1<=w)(bB:w<=64)(hk:k<=98000) :
 ∃ (a k':Nat) (x':Int) (aI:List Rw),Opd rs aI a w/\k'<=k+3/\cl fns (d+3) 79 [.loc n,.loc p,.d (.int w)] (aU S n p ns k x rs)=qq (.d (.int a),aU S n p ns k' x' aI):=by
 have hc:iG (.one 4) (lv (d<$>2) (.rng1 (.blt .len (.cons (.var 1) .nil)))) (tv (d<$>2) (.cmp .Eq (.ix (.ix (.var 1) (.var 4)) (.int 1)) (.var 2))) (ev (d<$>2) (.var 4)) [#[n],#[p],(w:),qz,qz] (aU S n p ns k x rs)
  = qq (((yBd ↑rs).filter λ j=>(~~~rs)[j]?==qq w).map nD,aU S n p ns k x rs):=by
  refine aAW nD nD (λ j=>(~~~rs)[j]?==qq w) (yBd ↑rs) ?_ (by rw[yHl,qo];omega) (λ j hj=>?_)
  ·simp only[uA,rA,tN,tV,tI];refine qS ?_ ();erw[0,h.rows,eC,dL,rows_len]
  ·have hj':j<↑rs:=by simpa using hj
   obtain⟨r,hrj⟩:∃ r,rs[j]?=qq r:=⟨rs[j],yAa hj'⟩;have hb:((~~~rs)[j]?==qq w)=(((r.w:Nat):Int)==(w:Int)):=by
    rw[qC hrj,yEa];simp;omega
   refine⟨_,rfl,λ aF=>?_,λ _ aF=>?_⟩
   ·rw[hb];erw[0,clr,yAz,yBo,nD,h.rowsT,aBs hrj,dX,aZ]
   ·erw[0,clr,yAz,yBo,nD]
 generalize hL:(yBd ↑rs).filter (λ j=>(~~~rs)[j]?==qq w)=L at hc;have hmem:∀ a∈L,(~~~rs)[a]?=qq w:=λ a ha=>by
  rw[<- hL] at ha;simpa using (List.mem_filter.mp ha).2
 have cY:↑L<=↑rs:=by
  rw[<- hL];have:=List.length_filter_le (λ j=>(~~~rs)[j]?==qq w) (yBd ↑rs);simpa using this
 have set:xs (d<$>2) (.setC false 3 (.comp (.var 4) (.one 4) (.rng1 (.blt .len (.cons (.var 1) .nil))) (.cmp .Eq (.ix (.ix (.var 1) (.var 4)) (.int 1)) (.var 2)))) [#[n],#[p],(w:),qz,qz] (aU S n p ns k x rs)=qq (.nx [#[n],#[p],(w:),qq (.d (.list (L.map nD))),qz],aU S n p ns k x rs):=by
  simp only[aDP,jH,kG];show((iG _ _ _ _ _ _).bind _).bind _=_;rw[hc];erw[0,True]
 have fR:∀ R,xs (d<$>2) wC [#[n],#[p],(w:),qq (.d (.list (L.map nD))),qz] (aU S n p ns k x rs)=R->cl fns (d+3) 79 [.loc n,.loc p,.d (.int w)] (aU S n p ns k x rs)=R.bind λ q=>match q.1 with
  |.rt w=>lC ↑(aU S n p ns k x rs) q.2 w|.nx _=>qq (.d .none,q.2.take ↑(aU S n p ns k x rs))
  |_=>qz:=λ R hR=>by
  rw[bE rfl (d+2) _ _ rfl,<- hR];show((dN (xs (d<$>2) (.setC false 3 (.comp (.var 4) (.one 4) (.rng1 (.blt .len (.cons (.var 1) .nil))) (.cmp .Eq (.ix (.ix (.var 1) (.var 4)) (.int 1)) (.var 2))))) (xs (d<$>2) wC)) [#[n],#[p],(w:),qz,qz] (aU S n p ns k x rs)).bind _=_;simp only[dN,set,oB]
  all_goals rfl
 rw[fR _ rfl];clear fR set hc;have hr64:↑rs<2^64:=();have nn:=aD9 L;have ll:↑(L.map nD)=↑L:=yAb ..;rcases yBi L.isEmpty with hE|hE
 ·rw[hE] at nn;let(q,x1,hq,e1):=@fS _ _ _ k ns x rs h.toAt0 (d+1) ↑rs h0 hr64 ();let(a,k',x',aI,ho,hk',e2):=@aJ7 _ _ _ (k+1) ns x1 _ h d q w hr hq hl hw bB ();refine⟨a,k',x',aI,ho,by omega,?_⟩;erw[2,wC,vK,nn,h.rows,eC,dL,rows_len,e1,e2,h.take]
 ·rw[hE] at nn;have hL0:0<↑L:=by
   cases L with
   |nil=>cases hE|cons b r=>simp
  let(q4,x1,hq4,e1):=iP (ns:=ns) (k:=k) (x:=x) (rs:=rs) h.toAt0 (d+1) 4 (i:=4) rfl (·) (·) ();by_cases c:0<q4
  ·have d1:decide ((0:Int)<(q4:Int))=true:=dqT ();let(q,x2,hq,e2):=@fS _ _ _ (k+1) ns x1 rs h.toAt0 (d+1) ↑L hL0 () ();have e3:((↑L:Nat):Int)-1-(q:Int)=((↑L-1-q:Nat):Int):=cs1 hq;obtain⟨a,ha⟩:∃ a,L[↑L-1-q]?=qq a:=⟨L[↑L-1-q],yAa ()⟩;have ga:aN (.list (L.map nD)) (.int ((↑L-1-q:Nat):Int))=qq (.int a):=iT (by rw[yAc,ha];rfl);refine⟨a,k+2,x2,rs,⟨⟨[],by simp,by simp⟩,hr,hmem a (xAk ha)⟩,by omega,?_⟩;erw[2,wC,vK,nn,e1,kR,d1,eC,dL,ll,cO,e2,e3,ga,h.take]
  ·have d1:decide ((0:Int)<(q4:Int))=false:=dqF ();let(q,x2,hq,e2):=@fS _ _ _ (k+1) ns x1 rs h.toAt0 (d+1) ↑rs h0 hr64 ();let(a,k',x',aI,ho,hk',e3):=@aJ7 _ _ _ (k+2) ns x2 _ h d q w hr hq hl hw bB ();refine⟨a,k',x',aI,ho,by omega,?_⟩;erw[2,wC,vK,nn,e1,kR,d1,h.rows,eC,dL,rows_len,e2,e3,h.take]
def aAC{x:Int}{rs:List Rw}(h:At S n p)(d:Nat)(wd:Wd)(aG:wd=.cut\/wd=.wide\/wd=.sign)(hr:bS [] rs)(h0:0<↑rs)(hl:↑rs<=100)(hk:k<=98000) :
 ∃ (r:Rw) (x':Int),cN (~~~rs) r/\cl fns (d+2) 80 [.loc n,.loc p,.d (.str wd.s)] (aU S n p ns k x rs)=qq (.d r.d,aU S n p ns (k+2) x' rs):=by
 let(a,x1,ha,e1):=@fS _ _ _ k ns x rs h.toAt0 d ↑rs h0 () ();obtain⟨r,hra⟩:∃ r,rs[a]?=qq r:=⟨rs[a],yAa ha⟩;let(bZ,bB):=aC0 hr hra;have ga:=aBs hra;have cw:=bN wd .cut;rw[show Wd.cut.s=("cut" : Str) from rfl] at cw;have e65:(65:Int)-(r.w:Int)=((65-r.w:Nat):Int):=();by_cases c:wd=.cut
 ·subst c;let(q,x2,hq,e2):=@fS _ _ _ (k+1) ns x1 rs h.toAt0 d r.w () () ();have a1:(1:Int)+(q:Int)=((1+q:Nat):Int):=();refine⟨⟨.cut,1+q,[a]⟩,x2,⟨by show 1<=1+q;omega,by show 1+q<=64;omega,r.w,qC hra,by show 1+q<=r.w;omega⟩,?_⟩;rw[bE rfl (d+1) _ _ rfl];erw[11,aCC,h.rows,eC,dL,rows_len,e1,ga,dX,cw,decide_true,e2,dS,a1,h.take]
 ·let(q,x2,hq,e2):=@fS _ _ _ (k+1) ns x1 rs h.toAt0 d (65-r.w) () () ();have a1:(r.w:Int)+(q:Int)=((r.w+q:Nat):Int):=();rw[dqF c] at cw;have ok:cN (~~~rs) ⟨wd,r.w+q,[a]⟩:=by
   refine⟨by show 1<=r.w+q;omega,by show r.w+q<=64;omega,?_⟩;erw[50,aG]
   ·exact absurd rfl c
   ·exact⟨r.w,qC hra,by show r.w<=r.w+q;omega⟩
   ·exact⟨r.w,qC hra,by show r.w<=r.w+q;omega⟩
  refine⟨⟨wd,r.w+q,[a]⟩,x2,ok,?_⟩;rw[bE rfl (d+1) _ _ rfl];erw[11,aCC,h.rows,eC,dL,rows_len,e1,ga,dX,cw,cO,e65,e2,dS,a1,h.take]
def Opd.len{rs:List Rw}(o:Opd rs aI a w):↑rs<=↑aI/\↑aI<=↑rs+1:=by let(t,rfl,h):=o.ext;simp;omega
def Opd.keep{rs aI:List Rw}{a w b v:Nat}(o:Opd rs aI a w)(h:(~~~rs)[b]?=qq v):(aI.map (·.w))[b]?=qq v:=by let(t,rfl,_):=o.ext;rw[yAw,xAm (gIm h).1];exact h
def aAV{x:Int}{rs:List Rw}(h:At S n p)(d w:Nat)(wd:Wd)(aG:wd=.left\/wd=.right\/wd=.slide)(hr:bS [] rs)(h0:0<↑rs)(hl:↑rs<=90)(hw:1<=w)(bB:w<=64)(hk:k<=97000) :
 ∃ (r:Rw) (k':Nat) (x':Int) (aI:List Rw),bS [] aI/\↑rs<=↑aI/\↑aI<=↑rs+1/\cN (aI.map (·.w)) r/\k'<=k+6/\cl fns (d+4) 81 [.loc n,.loc p,.d (.str wd.s),.d (.int w)] (aU S n p ns k x rs)=qq (.d r.d,aU S n p ns k' x' aI):=by
 let(q1,x1,h1,e1):=@fS _ _ _ k ns x rs h.toAt0 (d+2) w () () ();let(q2,x2,h2,e2):=iP (ns:=ns) (k:=k+1) (x:=x1) (rs:=rs) h.toAt0 (d+2) 64 (i:=64) rfl (·) (·) ();let(q3,x3,h3,e3):=iP (ns:=ns) (k:=k+2) (x:=x2) (rs:=rs) h.toAt0 (d+2) 4 (i:=4) rfl (·) (·) ();let(a,k',x',aI,ho,hk',e4):=@vW _ _ _ (k+3) ns x3 _ h d w hr h0 () hw bB ();have cH:∀ kk:Nat,kk<64->cN (aI.map (·.w)) ⟨wd,w,[a,kk]⟩:=λ kk hkk=>by
  refine⟨hw,bB,?_⟩;erw[50,aG]<;>exact⟨ho.wd,hkk⟩
 have hq:(q3:Int)/3=((0:Nat):Int)\/(q3:Int)/3=((1:Nat):Int):=();rcases hq with hq|hq
 ·refine⟨⟨wd,w,[a,q1]⟩,k',x',aI,ho.ok,ho.len.1,ho.len.2,cH q1 (),by omega,?_⟩;rw[bE rfl (d+3) _ _ rfl];have hq22:=@oY (q3:Int) 3 (·) (·);erw[11,aCO,e1,e2,e3,hq22,hq,aEE,e4,h.take]
 ·refine⟨⟨wd,w,[a,q2]⟩,k',x',aI,ho.ok,ho.len.1,ho.len.2,cH q2 (),by omega,?_⟩;rw[bE rfl (d+3) _ _ rfl];have hq23:=@oY (q3:Int) 3 (·) (·);erw[11,aCO,e1,e2,e3,hq23,hq,aEy,e4,h.take]
def xT(wd:Wd)(w:Nat):Nat:=if (wd=.same\/wd=.less\/wd=.under) then 1 else w
def aIq{x:Int}{rs:List Rw}(h:At S n p)(d w:Nat)(wd:Wd)(hr:bS [] rs)(h0:0<↑rs)(hl:↑rs<=90)(hw:1<=w)(bB:w<=64)(hk:k<=97000) :
 ∃ (a b k':Nat) (x':Int) (aI:List Rw),bS [] aI/\(∃ t,aI=rs++t/\↑t<=2)/\(aI.map (·.w))[a]?=qq w/\(aI.map (·.w))[b]?=qq w/\k'<=k+6 /\
  cl fns (d+4) 82 [.loc n,.loc p,.d (.str wd.s),.d (.int w)] (aU S n p ns k x rs)=qq (.d (.tuple [.str wd.s,.int (xT wd w:Nat),.int a,.int b]),aU S n p ns k' x' aI):=by
 let(a,k1,x1,rs1,o1,hk1,e1):=@vW _ _ _ k ns x _ h d w hr h0 () hw bB ();have l1:=o1.len;let(b,k2,x2,rs2,o2,hk2,e2):=@vW _ _ _ k1 ns x1 _ h d w o1.ok () () hw bB ();refine⟨a,b,k2,x2,rs2,o2.ok,?_,o2.keep o1.wd,o2.wd,by omega,?_⟩
 ·let(t1,rfl,ht1):=o1.ext;let(t2,rfl,ht2):=o2.ext;exact⟨t1++t2,by simp,by simp;omega⟩
 ·rw[bE rfl (d+3) _ _ rfl];by_cases c:wd=.same\/wd=.less\/wd=.under
  ·have is:=pE wd;rw[dqT c] at is;have pw:xT wd w=1:=if_pos c;erw[11,aC1,e1,e2,is,pw,h.take]
  ·have is:=pE wd;rw[dqF c] at is;have pw:xT wd w=w:=if_neg c;erw[11,aC1,e1,e2,is,pw,h.take]
def eI(k:Nat):Sx:=match kO with|.seq a1 (.seq a2 (.seq a3 (.seq a4 (.seq a5 (.seq a6 (.seq a7 _))))))=>[a1,a2,a3,a4,a5,a6,a7].getD k .skip|_=>.skip
def aPp:kO=.seq (eI 0) (.seq (eI 1) (.seq (eI 2) (.seq (eI 3) (.seq (eI 4) (.seq (eI 5) (.seq (eI 6) .skip)))))):=rfl
def aYi(a b c e f:D):cB .Add (.tuple [a,b,c]) (.tuple [e,f])=qq (.tuple [a,b,c,e,f]):=by show(if [a,b,c].isEmpty=false/\↑[a,b,c]+↑[e,f]<=qy then qq (yAj ([a,b,c]++[e,f])) else qz)=_;rw[if_pos ⟨rfl,by rw[qo];show 3+2<=16777216;decide⟩];rfl
def aWR(a b c e:D):fA [a,b,c,e] (qq 2) qz=[c,e]:=rfl
def aYu:(HT.sIx 4 0 (qq 2)=0/\HT.sIx 4 4 qz=4)=False:=by simp[HT.sIx]
def aRw{x:Int}{rs:List Rw}(h:At S n p)(d w:Nat)(wd:Wd)(l2 e5 e6:Option W)(hr:bS [] rs)(h0:0<↑rs)(hl:↑rs<=80)(hw:1<=w)(bB:w<=64)(hk:k<=96000) :
 ∃ (r:Rw) (k':Nat) (x':Int) (aI:List Rw) (e6':Option W),bS [] aI/\↑rs<=↑aI/\↑aI<=↑rs+3/\cN (aI.map (·.w)) r/\k'<=k+12 /\
  xs (d<$>4) (eI 5) [#[n],#[p],l2,qq (.d (.str wd.s)),(w:),e5,e6] (aU S n p ns k x rs)=qq (.nx [#[n],#[p],l2,qq (.d (.str wd.s)),(w:),qq (.d r.d),e6'],aU S n p ns k' x' aI):=by
 have c1:aS .Eq (.str wd.s) (.str "in")=qq (.bool (decide (wd=.in))):=bN wd .in;by_cases k1:wd=.in
 ·subst k1;refine⟨⟨.in,w,[]⟩,k,x,rs,e6,hr,by omega,by omega,⟨hw,bB,True.intro⟩,by omega,?_⟩;exact mH (cF rfl c1) (jF rfl)
 rw[dqF k1] at c1;have q1:=λ {r S1}=>@yV (eI 5) _ [#[n],#[p],l2,qq (.d (.str wd.s)),(w:),e5,e6] (aU S n p ns k x rs) _ S1 r _ (d<$>4) rfl (cF rfl c1)
 clear c1;have c2:aS .Eq (.str wd.s) (.str "num")=qq (.bool (decide (wd=.num))):=bN wd .num;by_cases k2:wd=.num
 ·subst k2;let(q,k',x',hq,hk',e):=@xQ _ _ _ k ns x rs h.toAt0 (d+1) w hw bB ();refine⟨⟨.num,w,[q]⟩,k',x',rs,e6,hr,by omega,by omega,⟨hw,bB,hq⟩,by omega,q1 (mH (cF rfl c2) (jF ?_))⟩;erw[0,e]
 rw[dqF k2] at c2;have q2:=λ {r S1} h=>q1 (yV (r:=r) (S1:=S1) rfl (cF rfl c2) h)
 clear c2;have c3:aS .Eq (.str wd.s) (.str "not")=qq (.bool (decide (wd=.not))):=bN wd .not;by_cases k3:wd=.not
 ·subst k3;let(a,k',x',aI,o,hk',e):=@vW _ _ _ k ns x _ h (d+1) w hr h0 () hw bB ();have l:=o.len;refine⟨⟨.not,w,[a]⟩,k',x',aI,e6,o.ok,by omega,by omega,⟨hw,bB,o.wd⟩,by omega,q2 (mH (cF rfl c3) (jF ?_))⟩;erw[0,e]
 rw[dqF k3] at c3;have q3:=λ {r S1} h=>q2 (yV (r:=r) (S1:=S1) rfl (cF rfl c3) h)
 clear c3;have c4:=oV wd;by_cases k4:wd=.left\/wd=.right\/wd=.slide
 ·rw[dqT k4] at c4;let(r,k',x',aI,ok,l1,l2,okr,hk',e):=aAV (ns:=ns) (k:=k) (x:=x) h d w wd k4 hr h0 () hw bB ();refine⟨r,k',x',aI,e6,ok,by omega,by omega,okr,by omega,q3 (mH (fF rfl rfl c4) (jF ?_))⟩;erw[0,e]
 rw[dqF k4] at c4;have q4:=λ {r S1} h=>q3 (yV (r:=r) (S1:=S1) rfl (fF rfl rfl c4) h)
 clear c4;have c5:=aJX wd;by_cases k5:wd=.cut\/wd=.wide\/wd=.sign
 ·rw[dqT k5] at c5;let(r,x',okr,e):=aAC (ns:=ns) (k:=k) (x:=x) h (d+2) wd k5 hr h0 () ();refine⟨r,k+2,x',rs,e6,hr,by omega,by omega,okr,by omega,q4 (mH (fF rfl rfl c5) (jF ?_))⟩;erw[0,e]
 rw[dqF k5] at c5;have q5:=λ {r S1} h=>q4 (yV (r:=r) (S1:=S1) rfl (fF rfl rfl c5) h)
 clear c5;have c6:aS .Eq (.str wd.s) (.str "pick")=qq (.bool (decide (wd=.pick))):=bN wd .pick;by_cases k6:wd=.pick
 ·subst k6;let(c,k1',x1,rs1,o1,hk1,e1):=@vW _ _ _ k ns x _ h (d+1) 1 hr h0 () (·) (·) ();have l1:=o1.len;let(a,b,k',x',aI,ok,(t,rfl,ht),wa,wb,hk',e2):=@aIq _ _ _ k1' ns x1 _ h d w .pick o1.ok () () hw bB ();have wc:((rs1++t).map (·.w))[c]?=qq 1:=by
   rw[yAw,xAm (gIm o1.wd).1];exact o1.wd
  rw[show((1:Nat):Int)=1 from rfl] at e1;refine⟨⟨.pick,w,[c,a,b]⟩,k',x',rs1++t,(c:),ok,by simp;omega,by simp;omega,⟨hw,bB,wc,wa,wb⟩,by omega,q5 (mH (cF rfl c6) (cC (S1:=aU S n p ns k1' x1 rs1) (w:=.d (.int c)) ?_ rfl (jF ?_)))⟩
  ·erw[0,e1]
  ·erw[0,e2,mS,nP,zM,aYu,aWR,aYi]
 rw[dqF k6] at c6;let(a,b,k',x',aI,ok,(t,rfl,ht),wa,wb,hk',e2):=@aIq _ _ _ k ns x _ h d w wd hr h0 () hw bB ();have okr:cN ((rs++t).map (·.w)) ⟨wd,xT wd w,[a,b]⟩:=by
  clear q1 q2 q3 q4 q5 c6 e2;cases wd
  all_goals first|exact⟨hw,bB,wa,wb⟩|exact⟨yAd 1,oqT rfl,rfl,w,wa,wb⟩|exact absurd rfl k1|exact absurd rfl k2|exact absurd rfl k3|exact absurd rfl k6|exact absurd (.inl rfl) k4|exact absurd (.inr (.inl rfl)) k4|exact absurd (.inr (.inr rfl)) k4|exact absurd (.inl rfl) k5|exact absurd (.inr (.inl rfl)) k5|exact absurd (.inr (.inr rfl)) k5
 refine⟨⟨wd,xT wd w,[a,b]⟩,k',x',rs++t,e6,ok,by simp,by simp;omega,okr,by omega,q5 (uC (cF rfl c6) (jF ?_))⟩;erw[0,e2]
def wds:List Wd:=[.in,.num,.num,.not,.and,.or,.xor,.add,.sub,.mul,.left,.right,.slide,.cut,.wide,.sign,.same,.less,.under,.pick]
def lD:D:=.list (wds.map λ w=>yIa w.s)
def row_ok{x:Int}{rs:List Rw}(h:At S n p)(d:Nat)(hr:bS [] rs)(h0:0<↑rs)(hl:↑rs<=80)(hk:k<=95000) :
 ∃ (k':Nat) (x':Int) (aI:List Rw),bS [] aI/\↑rs<=↑aI/\↑aI<=↑rs+4/\k'<=k+20/\cl fns (d+5) 83 [.loc n,.loc p] (aU S n p ns k x rs)=qq (.d .none,aU S n p ns k' x' aI):=by
 have s01:xs (d<$>4) (.seq (eI 0) (eI 1)) [#[n],#[p],qz,qz,qz,qz,qz] (aU S n p ns k x rs)=qq (.nx [#[n],#[p],qq (.d lD),qz,qz,qz,qz],aU S n p ns k x rs):=by
  erw[20,eI,kO,yBy,yBs];rw[aIA (by simp)];erw[0,True]
 let(q1,x1,h1,e1):=iP (ns:=ns) (k:=k) (x:=x) (rs:=rs) h.toAt0 (d+3) 20 (i:=20) rfl (·) (·) ();obtain⟨wd,aG⟩:∃ wd,wds[q1]?=qq wd:=⟨wds[q1],yAa (by simpa [wds] using h1)⟩;have gw:aN lD (.int q1)=qq (.str wd.s):=iT (by rw[yAc,aG];rfl);have s2:xs (d<$>4) (eI 2) [#[n],#[p],qq (.d lD),qz,qz,qz,qz] (aU S n p ns k x rs)=qq (.nx [#[n],#[p],qq (.d lD),qq (.d (.str wd.s)),qz,qz,qz],aU S n p ns (k+1) x1 rs):=by
  erw[2,eI,kO,yBy,yBs,e1,gw]
 let(a,x2,ha,e2):=@fS _ _ _ (k+1) ns x1 rs h.toAt0 (d+3) ↑rs h0 () ();obtain⟨r,hra⟩:∃ r,rs[a]?=qq r:=⟨rs[a],yAa ha⟩;let(bZ,bB):=aC0 hr hra;have s3:xs (d<$>4) (eI 3) [#[n],#[p],qq (.d lD),qq (.d (.str wd.s)),qz,qz,qz] (aU S n p ns (k+1) x1 rs)=qq (.nx [#[n],#[p],qq (.d lD),qq (.d (.str wd.s)),(r.w:),qz,qz],aU S n p ns (k+2) x2 rs):=by
  erw[2,eI,kO,yBy,yBs,h.rows,eC,dL,rows_len,e2,aBs hra,dX]
 let(q3,x3,h3,e3):=iP (ns:=ns) (k:=k+2) (x:=x2) (rs:=rs) h.toAt0 (d+3) 4 (i:=4) rfl (·) (·) ();obtain⟨w,k4,x4,hw3,hw4,hk4,s4⟩:∃ (w k4:Nat) (x4:Int),1<=w/\w<=64/\k4<=k+6/\xs (d<$>4) (eI 4) [#[n],#[p],qq (.d lD),qq (.d (.str wd.s)),(r.w:),qz,qz] (aU S n p ns (k+2) x2 rs)=qq (.nx [#[n],#[p],qq (.d lD),qq (.d (.str wd.s)),(w:),qz,qz],aU S n p ns k4 x4 rs):=by
  rcases yBi ((q3:Int)==1) with c|c
  ·let(w,x4,g1,g2,e4):=@aDs _ _ _ (k+3) ns x3 rs h.toAt0 (d+2) ();refine⟨w,k+6,x4,g1,g2,by omega,?_⟩;erw[2,eI,kO,yBy,yBs,e3,aZ,c,e4]
  ·refine⟨r.w,k+3,x3,bZ,bB,by omega,?_⟩;erw[2,eI,kO,yBy,yBs,e3,aZ,c]
 let(rr,k',x',aI,e6',ok,l1,l2,okr,hk',s5):=@aRw _ _ _ k4 ns x4 _ h d w wd (qq (.d lD)) qz qz hr h0 hl hw3 hw4 ();refine⟨k',x',aI++[rr],vN ok (by simpa using okr),by simp;omega,by simp;omega,by omega,?_⟩;rw[bE rfl (d+4) _ _ rfl];have full:xs (d<$>4) kO [#[n],#[p],qz,qz,qz,qz,qz] (aU S n p ns k x rs)=qq (.nx [#[n],#[p],qq (.d lD),qq (.d (.str wd.s)),(w:),qq (.d rr.d),e6'],aU S n p ns k' x' (aI++[rr])):=by
  have s01':∀ r:Sx,xs (d<$>4) (.seq (eI 0) (.seq (eI 1) r)) [#[n],#[p],qz,qz,qz,qz,qz] (aU S n p ns k x rs)=xs (d<$>4) r [#[n],#[p],qq (.d lD),qz,qz,qz,qz] (aU S n p ns k x rs):=λ r=>by
   simp only[jQ,dN] at s01 ⊢;cases q:xs (d<$>4) (eI 0) [#[n],#[p],qz,qz,qz,qz,qz] (aU S n p ns k x rs) with
   |none=>rw[q] at s01;cases s01
   |some z=>
     let(fl,S1):=z;rw[q] at s01;cases fl with
     |nx e=>
       simp only[oB] at s01 ⊢;rw[s01];simp only[oB]
     |rt w=>cases s01|bk e=>cases s01|ct e=>cases s01
  rw[aPp,s01',gF s2,gF s3,gF s4,gF s5];have hq24:=λ ns k x=>@aI7 _ _ _ ns k x _ h (show ↑aI<=1000 by omega)
  erw[2,eI,kO,yBy,yBs,gK,hq24]
 show((xs (d<$>4) kO [#[n],#[p],qz,qz,qz,qz,qz] (aU S n p ns k x rs)).bind _)=_;rw[full];simp only[oB,h.take]
end GP
def tr(n w:Nat):Nat:=w-bl (n^^^(2^w-1))
def aUr(n w i:Nat):(n^^^(2^w-1))[i]! =(n[i]! ^^ decide (i<w)):=by rw[yAl,cV]
def aLy(n w:Nat):tr n w<=w:=yFa _ _
def aIW(hi:w-tr n w<=i)(hw:i<w):n[i]! =true:=by
 have h1:bl (n^^^(2^w-1))<=i:=by unfold tr at hi;omega
 have h2:=cP (jS (n^^^(2^w-1))) h1;rw[aUr,dqT hw] at h2;cases q:n[i]! with
 |true=>rfl|false=>rw[q] at h2;cases h2
def dD(a w:Nat):Nat:=(2^w-1)^^^(2^(w-a)-1)
def lQ:(dD a w)[i]! =(decide (w-a<=i)&&decide (i<w)):=by
 unfold dD;rw[yAl,cV,cV];by_cases h1:i<w<;>by_cases h2:i<w-a
 ·rw[dqT h1,dqT h2,dqF ()];rfl
 ·rw[dqT h1,dqF h2,dqT ()];rfl
 ·omega
 ·rw[dqF h1,dqF h2,yBp];rfl
def aEg:x&&&y≠0 ↔ ∃ i,x[i]! =true/\y[i]! =true:=by
 constructor
 ·intro h;by_cases c:∃ i,x[i]! =true/\y[i]! =true
  ·exact c
  ·refine absurd ((kP _).mpr λ i=>?_) h;rw[yAh];cases h1:x[i]!<;>cases h2:y[i]!<;>first|rfl|exact absurd ⟨i,h1,h2⟩ c
 ·rintro ⟨i,h1,h2⟩ z;rw[kP] at z;have:=z i;rw[yAh,h1,h2] at this;cases this
def dB(x a w:Nat):Nat:=if x&&&dD a w=0 then x else x|||dD a w
def aBQ(h:x<2^w):dB x a w<2^w:=by
 unfold dB;split
 ·exact h
 ·exact yBl h (by
   apply yCv;intro i hi;rw[lQ,dqF (show ¬ i<w by omega),yBp])
def aBc:(dB x a w)[i]! =true ↔ x[i]! =true\/((w-a<=i/\i<w)/\∃ j,(w-a<=j/\j<w)/\x[j]! =true):=by
 unfold dB;split
 ·rename_i h;constructor
  ·intro z;exact .inl z
  ·rintro (z|⟨_,j,h1,h2⟩)
   ·exact z
   ·refine absurd h (aEg.mpr ⟨j,h2,?_⟩);rw[lQ,dqT h1.1,dqT h1.2];rfl
 ·rename_i h;let(j,h1,h2):=aEg.mp h;rw[lQ,yAp,decide_eq_true_eq,decide_eq_true_eq] at h2;rw[xAo,yBw,lQ,yAp,decide_eq_true_eq,decide_eq_true_eq];constructor
  ·rintro (z|z)
   ·exact .inl z
   ·exact .inr ⟨z,j,h2,h1⟩
  ·rintro (z|⟨z,_⟩)
   ·exact .inl z
   ·exact .inr z
def zA(i j k:Nat):Nat:=max (max i j) k
structure Ft where
 N:Nat
 O:Nat
 A:Nat
def fM(f:Ft)(w:Nat):Ft:=⟨dB f.N f.A w,dB f.O f.A w,zA f.A (tr (dB f.N f.A w) w) (tr (dB f.O f.A w) w)⟩
def Hd(f:Ft)(n w:Nat):Prop:=(∀ i,f.N[i]! =true->n[i]! =false)/\(∀ i,f.O[i]! =true->n[i]! =true)/\((∀ i,w-f.A<=i->i<w->n[i]! =true)\/(∀ i,w-f.A<=i->i<w->n[i]! =false))
structure FtOk(f:Ft)(w:Nat):Prop where
 lN:f.N<2^w
 lO:f.O<2^w
 a1:1<=f.A
 aw:f.A<=w
def aWi(h:FtOk f w):FtOk (fM f w) w:=by have h1:=aLy (dB f.N f.A w) w;have h2:=aLy (dB f.O f.A w) w;have h3:=h.a1;have h4:=h.aw;exact⟨aBQ h.lN,aBQ h.lO,xAh h3 (xAh (yDq _ _) (yDq _ _)),Nat.max_le.mpr ⟨Nat.max_le.mpr ⟨h4,h1⟩,h2⟩⟩
def aPP(h:FtOk f w):Hd (fM f w) n w ↔ Hd f n w:=by
 have aA:f.A<=(fM f w).A:=xAh (yDq _ _) (yDq _ _);constructor
 ·rintro ⟨h1,h2,h3⟩;refine⟨λ i hi=>h1 i (aBc.mpr (.inl hi)),λ i hi=>h2 i (aBc.mpr (.inl hi)),?_⟩;rcases h3 with h3|h3
  ·exact .inl λ i a b=>h3 i (xAh (yEm aA _) a) b
  ·exact .inr λ i a b=>h3 i (xAh (yEm aA _) a) b
 ·rintro ⟨h1,h2,h3⟩;have hN:∀ i,(fM f w).N[i]! =true->n[i]! =false:=λ i hi=>by
   rcases aBc.mp hi with z|⟨⟨a,b⟩,j,⟨c,d⟩,e⟩
   ·exact h1 i z
   ·rcases h3 with h3|h3
    ·have x1:=h3 j c d;rw[h1 j e] at x1;cases x1
    ·exact h3 i a b
  have hO:∀ i,(fM f w).O[i]! =true->n[i]! =true:=λ i hi=>by
   rcases aBc.mp hi with z|⟨⟨a,b⟩,j,⟨c,d⟩,e⟩
   ·exact h2 i z
   ·rcases h3 with h3|h3
    ·exact h3 i a b
    ·have x1:=h3 j c d;rw[h2 j e] at x1;cases x1
  refine⟨hN,hO,?_⟩;have cA:(fM f w).A=f.A\/(fM f w).A=tr (fM f w).N w\/(fM f w).A=tr (fM f w).O w:=by
   show max (max _ _) _=_\/max (max _ _) _=tr (dB f.N f.A w) w\/max (max _ _) _=tr (dB f.O f.A w) w;omega
  rcases cA with c|c|c
  ·rw[c];exact h3
  ·rw[c];exact .inr λ i a b=>hN i (aIW a b)
  ·rw[c];exact .inl λ i a b=>hO i (aIW a b)
def aZS(h:Hd f n w):f.N&&&f.O=0:=by
 by_cases c:f.N&&&f.O=0
 ·exact c
 ·let(i,h1,h2):=aEg.mp c;have x:=h.1 i h1;rw[h.2.1 i h2] at x;cases x
def aBq(hn:n<2^w)(hi:i<w):(2^w-1-n)[i]! = !n[i]!:=by have:=pC hn i;unfold qM at this;rw[this,dqT hi,yAk]
def aPE(hn:n<2^w)(ha:a<=w):n/2^(w-a)=2^a-1 ↔ ∀ i,w-a<=i->i<w->n[i]! =true:=by
 constructor
 ·intro h i h1 h2;have:(n/2^(w-a))[(i-(w-a))]! =(2^a-1)[(i-(w-a))]!:=by rw[h]
  rw[iE,cV,show w-a+(i-(w-a))=i by omega,dqT ()] at this;exact this
 ·intro h;apply xAl;intro i;rw[iE,cV];by_cases c:i<a
  ·rw[h _ () (),dqT c]
  ·rw[cP hn (),dqF c]
def aPX(hn:n<2^w)(ha:a<=w):n/2^(w-a)=0 ↔ ∀ i,w-a<=i->i<w->n[i]! =false:=by
 rw[aCL];constructor
 ·intro h i h1 _;exact h i h1
 ·intro h i h1;by_cases c:i<w
  ·exact h i h1 c
  ·exact cP hn ()
def aDn:(x&&&y=0) ↔ ∀ i,y[i]! =true->x[i]! =false:=by
 rw[kP];constructor
 ·intro h i hy;have:=h i;rw[yAh,hy,yCi] at this;exact this
 ·intro h i;rw[yAh];cases hy:y[i]! with|false=>exact yBp _|true=>rw[h i hy];rfl
def aHi{x y:Nat}:(x&&&y=y) ↔ ∀ i,y[i]! =true->x[i]! =true:=by
 constructor
 ·intro h i hy;have:=congrArg (λ z=>z[i]!) h;simp only[yAh,hy,yCi] at this;exact this
 ·intro h;apply xAl;intro i;rw[yAh];cases hy:y[i]! with|false=>exact yBp _|true=>rw[h i hy];rfl
def cT(d w:Nat)(h:w<=100000)(S:aE):cl fns (d+1) 0 [.d (.int w)] S=qq (.d (.int ((2^w-1:Nat):Int)),S):=by rw[bE rfl d _ S rfl];erw[11,aK5,gB h,cO,aC6]
def aSg(n:Nat):yAm (n:Int)=bl n:=aGp n
def wF(d n:Nat)(S:aE):cl fns (d+1) 1 [.d (.int n)] S=qq (.d (.int ((bl n:Nat):Int)),S):=by rw[bE rfl d _ S rfl];erw[11,aJ2,aEP,aLY,aSg]
def lr(n:Nat):Nat:=bl (n^^^(n+1))-1
def aRV(n:Nat):lr n=mN (pN n (bl n+1)):=aGL (bl n+1) n (xAb (jS n) (yAo (·) ()))
def aAU(d n:Nat)(S:aE)(h:n<2^10000):cl fns (d+2) 2 [.d (.int n)] S=qq (.d (.int ((2^bl n-1:Nat):Int)),S):=by rw[bE rfl (d+1) _ S rfl];have hq25:=cT d (bl n) (xAh (pP h) (·));erw[11,aKB,wF d n,hq25]
def aKD(h:n<2^w)(hw:w<=10000):n<2^10000:=xAb h (yAo (·) hw)
def aEb(d n:Nat)(S:aE):cl fns (d+2) 3 [.d (.int n)] S=qq (.d (.int ((lr n:Nat):Int)),S):=by
 have h1:=aAM (aGA n);have e1:(n:Int)+1=((n+1:Nat):Int):=();have e2:((bl (n^^^(n+1)):Nat):Int)-1=((lr n:Nat):Int):=by unfold lr;omega
 rw[bE rfl (d+1) _ S rfl];erw[11,aH8,dS,e1,jC,wF d,cO,e2]
def Ft.d(f:Ft):D:=.tuple [.int f.N,.int f.O,.int f.A]
def fP(f:Ft):aN f.d (.int 0)=qq (.int f.N):=rfl
def fO(f:Ft):aN f.d (.int 1)=qq (.int f.O):=rfl
def lA(f:Ft):aN f.d (.int 2)=qq (.int f.A):=rfl
def wS(a b:Nat):(((a:Nat):Int)==((b:Nat):Int))=(a==b):=by rw[yEa,beq_iff_eq,beq_iff_eq];omega
def aHo(d n w:Nat)(S:aE)(hn:n<2^w)(hw:w<=64):cl fns (d+2) 4 [.d (.int n),.d (.int w)] S=qq (.d (.int ((tr n w:Nat):Int)),S):=by
 have h1:=pP (aN2 hn);have e2:(w:Int)-((bl (n^^^(2^w-1)):Nat):Int)=((tr n w:Nat):Int):=by unfold tr;omega
 rw[bE rfl (d+1) _ S rfl];have hq26:=cT d w ();erw[11,aIi,hq26,jC,wF d,cO,e2]
def qT(d a w:Nat)(S:aE)(ha:a<=w)(hw:w<=64):cl fns (d+2) 21 [.d (.int a),.d (.int w)] S=qq (.d (.int ((dD a w:Nat):Int)),S):=by have e:(w:Int)-(a:Int)=((w-a:Nat):Int):=();rw[bE rfl (d+1) _ S rfl];have hq27:=cT d w ();have hq28:=cT d (w-a) ();erw[11,aHl,hq27,cO,e,hq28,jC]
def mxI(i j:Nat):(if (j:Int)>(i:Int) then ((j:Nat):Int) else ((i:Nat):Int))=((max i j:Nat):Int):=by
 by_cases h:(j:Int)>(i:Int)
 ·rw[if_pos h];omega
 ·rw[if_neg h];omega
def aAH(i j k:Nat):nY [.int i,.int j,.int k]=qq (.int ((zA i j k:Nat):Int)):=by
 show qq (yAn (if (j:Int)>(i:Int) then (if (k:Int)>(j:Int) then (k:Int) else (j:Int)) else (if (k:Int)>(i:Int) then (k:Int) else (i:Int))))=_;rw[mxI,mxI];unfold zA;by_cases h:(j:Int)>(i:Int)
 ·rw[if_pos h,show max (max i j) k=max j k by omega]
 ·rw[if_neg h,show max (max i j) k=max i k by omega]
def aD6(h:(x&&&dD a w==0)=true):dB x a w=x:=by unfold dB;rw[if_pos (eq_of_beq h)]
def aEv(h:(x&&&dD a w==0)=false):dB x a w=x|||dD a w:=by unfold dB;rw[if_neg (by simpa using h)]
def aOW(d:Nat)(f:Ft)(w:Nat)(k:FtOk f w)(hw:w<=64)(S:aE):cl fns (d+3) 23 [.d f.d,.d (.int w)] S=qq (.d (fM f w).d,S):=by
 have t1:=aHo d (dB f.N f.A w) w S (aBQ k.lN) hw;have t2:=aHo d (dB f.O f.A w) w S (aBQ k.lO) hw;rw[bE rfl (d+2) _ S rfl];show _=qq (W.d (.tuple [.int ((dB f.N f.A w:Nat):Int),.int ((dB f.O f.A w:Nat):Int),.int ((zA f.A (tr (dB f.N f.A w) w) (tr (dB f.O f.A w) w):Nat):Int)]),S);cases c1:(f.N&&&dD f.A w==0) with
 |true=>
   rw[aD6 c1] at t1 ⊢;cases c2:(f.O&&&dD f.A w==0) with
   |true=>
     rw[aD6 c2] at t2 ⊢;erw[11,wY,Ft.d,qT (d:=d) (a:=f.A) (w:=w) (S:=S) k.aw hw,dC,kT,dF,c1,c2,t1,t2,aAH]
   |false=>
     rw[aEv c2] at t2 ⊢;erw[11,wY,Ft.d,qT (d:=d) (a:=f.A) (w:=w) (S:=S) k.aw hw,dC,kT,dF,c1,c2,eQ,t1,t2,aAH]
 |false=>
   rw[aEv c1] at t1 ⊢;cases c2:(f.O&&&dD f.A w==0) with
   |true=>
     rw[aD6 c2] at t2 ⊢;erw[11,wY,Ft.d,qT (d:=d) (a:=f.A) (w:=w) (S:=S) k.aw hw,dC,kT,dF,c1,c2,eQ,t1,t2,aAH]
   |false=>
     rw[aEv c2] at t2 ⊢;erw[11,wY,Ft.d,qT (d:=d) (a:=f.A) (w:=w) (S:=S) k.aw hw,dC,kT,dF,c1,c2,eQ,t1,t2,aAH]
def wK(d:Nat)(f:Ft)(S:aE):cl fns (d+1) 24 [.d f.d] S=qq (.d (.int f.O),S):=by rw[bE rfl d _ S rfl];erw[11,aKl,fO]
def aAk(d:Nat)(f:Ft)(w:Nat)(lN:f.N<2^w)(hw:w<=64)(S:aE):cl fns (d+2) 25 [.d f.d,.d (.int w)] S=qq (.d (.int ((2^w-1-f.N:Nat):Int)),S):=by
 have e:(2^w-1)^^^f.N=2^w-1-f.N:=by
  apply xAl;intro i;have:=pC lN i;unfold qM at this;rw[this,yAl,cV];by_cases c:i<w
  ·rw[dqT c];cases f.N[i]!<;>rfl
  ·rw[dqF c,cP lN ()];rfl
 rw[bE rfl (d+1) _ S rfl];have hq29:=cT d w ();erw[11,aGV,fP,hq29,jC,e]
def sW(d n w v:Nat)(S:aE)(hw:0<w)(hv:v<=1000)(bB:w<=64):cl fns (d+2) 5 [.d (.int n),.d (.int w),.d (.int v)] S=qq (.d (.int ((cW n w v:Nat):Int)),S):=by
 have e1:(w:Int)-1=((w-1:Nat):Int):=();rw[bE rfl (d+1) _ S rfl];unfold cW;by_cases c:n&&&2^(w-1)=0
 ·have d1:(n&&&2^(w-1)==0)=true:=by rw[beq_iff_eq];exact c
  rw[if_pos c];have hq30:=gB (show w-1<=100000 by omega);erw[11,aCY,cO,e1,hq30,dC,aZ,dF,d1]
 ·have d1:(n&&&2^(w-1)==0)=false:=by rw[beq_eq_false_iff_ne];exact c
  rw[if_neg c];have hq31:=gB (show w-1<=100000 by omega);have hq32:=cT d v ();have hq33:=cT d w ();erw[11,aCY,cO,e1,hq31,dC,aZ,dF,d1,hq32,hq33,jC,eQ]
def aDm(a k:Nat):nY [.int 1,.int ((a:Nat)-(k:Nat):Int)]=qq (.int ((max 1 (a-k):Nat):Int)):=by unfold nY;simp only[];congr 2;by_cases h1:(a:Int)-(k:Int)>1<;>simp only[h1,if_true,if_false]<;>omega
def lM(i j:Nat):nW [.int i,.int j]=qq (.int ((min i j:Nat):Int)):=by unfold nW;simp only[];congr 2;by_cases h1:(j:Int)<(i:Int)<;>simp only[h1,if_true,if_false]<;>omega
def tZ(w:Nat)(f:Ft)(k:Nat):Ft:=⟨(f.N*2^k|||(2^k-1))&&&(2^w-1),f.O*2^k&&&(2^w-1),max 1 (f.A-k)⟩
def aRx(d w:Nat)(f:Ft)(k:Nat)(hf:FtOk f w)(hw:w<=64)(hk:k<=1000)(S:aE):cl fns (d+2) 36 [.d (.int w),.d f.d,.d (.int k)] S=qq (.d (tZ w f k).d,S):=by rw[bE rfl (d+1) _ S rfl];have hq34:=tL hf.lN (show w+k<=100000 by omega);have hq35:=tL hf.lO (show w+k<=100000 by omega);have hq36:=cT d k ();have hq37:=cT d w ();erw[11,aGD,fP,fO,lA,hq34,hq35,hq36,hq37,eQ,dC,cO,aDm]
def mD(w:Nat)(f:Ft)(k:Nat):Ft:=⟨f.N/2^k|||dD (min k w) w,f.O/2^k,if k=0 then f.A else 1⟩
def aQk(d w:Nat)(f:Ft)(k:Nat)(hw:w<=64)(S:aE):cl fns (d+3) 37 [.d (.int w),.d f.d,.d (.int k)] S=qq (.d (mD w f k).d,S):=by
 have tm:=qT d (min k w) w S () hw;rw[bE rfl (d+2) _ S rfl];by_cases c:k=0
 ·have d1:(k==0)=true:=by rw[beq_iff_eq];exact c
  have e:(mD w f k).d=.tuple [.int ((f.N/2^k|||dD (min k w) w:Nat):Int),.int ((f.O/2^k:Nat):Int),.int f.A]:=by unfold mD;rw[if_pos c];rfl
  rw[e];erw[11,aCS,fP,fO,lA,oX,lM,tm,eQ,aZ,dF,d1]
 ·have d1:(k==0)=false:=by rw[beq_eq_false_iff_ne];exact c
  have e:(mD w f k).d=.tuple [.int ((f.N/2^k|||dD (min k w) w:Nat):Int),.int ((f.O/2^k:Nat):Int),.int 1]:=by unfold mD;rw[if_neg c];rfl
  rw[e];erw[11,aCS,fP,fO,lA,oX,lM,tm,eQ,aZ,dF,d1]
def xD(w:Nat)(f:Ft)(k:Nat):Ft:=⟨cW f.N w (w+k)/2^k,cW f.O w (w+k)/2^k,min w (f.A+k)⟩
def aPG(d w:Nat)(f:Ft)(k:Nat)(bZ:1<=w)(hw:w<=64)(hk:k<=900)(S:aE):cl fns (d+3) 38 [.d (.int w),.d f.d,.d (.int k)] S=qq (.d (xD w f k).d,S):=by have e1:(w:Int)+(k:Int)=((w+k:Nat):Int):=();have e2:(f.A:Int)+(k:Int)=((f.A+k:Nat):Int):=();rw[bE rfl (d+2) _ S rfl];have hq38:=sW d f.N w (w+k) S () () hw;have hq39:=sW d f.O w (w+k) S () () hw;erw[11,aGy,fP,fO,lA,dS,e1,e2,hq38,hq39,oX,lM]
def zE(v w:Nat)(f:Ft):Ft:=⟨f.N&&&(2^w-1),f.O&&&(2^w-1),max 1 (f.A-(v-w))⟩
def mG(v w:Nat)(f:Ft):Ft:=⟨f.N|||dD (w-v) w,f.O,if w=v then f.A else 1⟩
def yB(v w:Nat)(f:Ft):Ft:=⟨cW f.N v w,cW f.O v w,f.A+(w-v)⟩
def aS9(d v w:Nat)(f:Ft)(hv:w<=v)(hw:w<=64)(S:aE):cl fns (d+2) 40 [.d (.str "cut"),.d (.int v),.d (.int w),.d f.d] S=qq (.d (zE v w f).d,S):=by have c1:aS .Eq (.str "cut") (.str "cut")=qq (.bool true):=bN .cut .cut;have e1:(v:Int)-(w:Int)=((v-w:Nat):Int):=();rw[bE rfl (d+1) _ S rfl];have hq40:=cT d w ();erw[11,vY,Ft.d,c1,hq40,dC,cO,e1,aDm]
def aJu(d v w:Nat)(f:Ft)(hv:v<=w)(hw:w<=64)(S:aE):cl fns (d+3) 40 [.d (.str "wide"),.d (.int v),.d (.int w),.d f.d] S=qq (.d (mG v w f).d,S):=by
 have c1:aS .Eq (.str "wide") (.str "cut")=qq (.bool false):=bN .wide .cut;have c2:aS .Eq (.str "wide") (.str "wide")=qq (.bool true):=bN .wide .wide;have e1:(w:Int)-(v:Int)=((w-v:Nat):Int):=();have tm:=qT d (w-v) w S () hw;rw[bE rfl (d+2) _ S rfl];by_cases c:w=v
 ·have d1:(w==v)=true:=by rw[beq_iff_eq];exact c
  have e:(mG v w f).d=.tuple [.int ((f.N|||dD (w-v) w:Nat):Int),.int f.O,.int f.A]:=by unfold mG;rw[if_pos c];rfl
  rw[e];erw[11,vY,Ft.d,c1,c2,cO,e1,tm,eQ,aZ,wS,d1]
 ·have d1:(w==v)=false:=by rw[beq_eq_false_iff_ne];exact c
  have e:(mG v w f).d=.tuple [.int ((f.N|||dD (w-v) w:Nat):Int),.int f.O,.int 1]:=by unfold mG;rw[if_neg c];rfl
  rw[e];erw[11,vY,Ft.d,c1,c2,cO,e1,tm,eQ,aZ,wS,d1]
def aQZ(d v w:Nat)(f:Ft)(hv1:1<=v)(hv:v<=w)(hw:w<=64)(S:aE):cl fns (d+3) 40 [.d (.str "sign"),.d (.int v),.d (.int w),.d f.d] S=qq (.d (yB v w f).d,S):=by have c1:aS .Eq (.str "sign") (.str "cut")=qq (.bool false):=bN .sign .cut;have c2:aS .Eq (.str "sign") (.str "wide")=qq (.bool false):=bN .sign .wide;have e1:(w:Int)-(v:Int)=((w-v:Nat):Int):=();have e2:(f.A:Int)+((w-v:Nat):Int)=((f.A+(w-v):Nat):Int):=();rw[bE rfl (d+2) _ S rfl];have hq41:=sW d f.N v w S () () ();have hq42:=sW d f.O v w S () () ();erw[11,vY,Ft.d,c1,c2,cO,e1,hq41,hq42,dS,e2]
def uY(wd:Wd)(f g:Ft):Ft:=match wd with|.and=>⟨f.N|||g.N,f.O&&&g.O,min f.A g.A⟩|.or=>⟨f.N&&&g.N,f.O|||g.O,min f.A g.A⟩|_=>⟨f.N&&&g.N|||f.O&&&g.O,f.N&&&g.O|||f.O&&&g.N,min f.A g.A⟩
def aAJ(d:Nat)(f g:Ft)(S:aE):cl fns (d+1) 34 [.d f.d,.d g.d] S=qq (.d (.int ((f.N&&&g.O|||f.O&&&g.N:Nat):Int)),S):=by rw[bE rfl d _ S rfl];erw[11,aGg,fP,fO,eQ,dC]
def aOg(d:Nat)(wd:Wd)(aG:wd=.and\/wd=.or\/wd=.xor)(f g:Ft)(S:aE):cl fns (d+2) 35 [.d (.str wd.s),.d f.d,.d g.d] S=qq (.d (uY wd f g).d,S):=by
 have c1:aS .Eq (.str wd.s) (.str "and")=qq (.bool (decide (wd=.and))):=bN wd .and;have c2:aS .Eq (.str wd.s) (.str "or")=qq (.bool (decide (wd=.or))):=bN wd .or;rw[bE rfl (d+1) _ S rfl];erw[50,aG]
 ·simp only[decide_true] at c1;erw[11,aAe,fP,fO,lA,lM,c1,eQ,dC]
 ·simp only[reduceCtorEq,decide_false,decide_true] at c1 c2;erw[11,aAe,fP,fO,lA,lM,c1,c2,eQ,dC]
 ·simp only[reduceCtorEq,decide_false] at c1 c2;erw[11,aAe,fP,fO,lA,lM,c1,c2,eQ,dC,aAJ d]
def dO(f:Ft)(k:Nat):Nat:=2-2*(f.N[k]!).toNat-(f.O[k]!).toNat
def gX{f:Ft}(hd:f.N&&&f.O=0)(k:Nat):(dO f k==0)=f.N[k]!:=by have:=(kP _).mp hd k;rw[yAh] at this;unfold dO;revert this;cases f.N[k]!<;>cases f.O[k]!<;>decide
def gY{f:Ft}(hd:f.N&&&f.O=0)(k:Nat):(dO f k==1)=f.O[k]!:=by have:=(kP _).mp hd k;rw[yAh] at this;unfold dO;revert this;cases f.N[k]!<;>cases f.O[k]!<;>decide
def xM(f:Ft)(k:Nat):dO f k<3:=by unfold dO;omega
def ntN(x:Nat):Nat:=[1,0,2].getD x 2
def aBC(f:Ft)(k i:Nat):Nat:=if i<k then 0 else dO f (i-k)
def aBr(f:Ft)(w k i:Nat):Nat:=if i+k<w then dO f (i+k) else 0
def aMo(f:Ft)(w i:Nat):Nat:=dO f (min i (w-1))
def aBV(f:Ft)(w i:Nat):Nat:=if i<w then dO f i else 0
structure Mk(t:Nat->Nat)(n:Nat)(g:Ft):Prop where
 lN:g.N<2^n
 lO:g.O<2^n
 b0:∀ i,i<n->g.N[i]! =(t i==0)
 b1:∀ i,i<n->g.O[i]! =(t i==1)
def aMS{f:Ft}(hd:f.N&&&f.O=0)(k:Nat):(ntN (dO f k)==0)=f.O[k]!:=by rw[<- gY hd k];have:=xM f k;revert this;generalize dO f k=x;intro h;have:x=0\/x=1\/x=2:=();erw[50,this]<;>rfl
def aMG{f:Ft}(hd:f.N&&&f.O=0)(k:Nat):(ntN (dO f k)==1)=f.N[k]!:=by rw[<- gX hd k];have:=xM f k;revert this;generalize dO f k=x;intro h;have:x=0\/x=1\/x=2:=();erw[50,this]<;>rfl
def aTW(hf:FtOk f w)(hd:f.N&&&f.O=0):Mk (λ i=>ntN (dO f i)) w ⟨f.O,f.N,f.A⟩:=
 ⟨hf.lO,hf.lN,λ i _=>(aMS hd i).symm,λ i _=>(aMG hd i).symm⟩
def wU(w:Nat):2^w-1<2^w:=by have:=xAe w;omega
def aAs(n k i:Nat):(n*2^k)[i]! =(decide (k<=i)&&n[(i-k)]!):=by
 have:=@aGl 0 k n (xAe k) i;rw[yFp] at this;rw[this];by_cases c:i<k
 ·rw[if_pos c,dqF (),yAq,yAv]
 ·rw[if_neg c,dqT (),yAk]
def aI3{f:Ft}(k:Nat)(hd:f.N&&&f.O=0):Mk (aBC f k) w (tZ w f k):=by
 refine⟨xAi yFj (wU w),xAi yFj (wU w),λ i hi=>?_,λ i hi=>?_⟩
 ·show((f.N*2^k|||(2^k-1))&&&(2^w-1))[i]! =_;rw[yAh,xAo,cV,cV,aAs,dqT hi,yCi];unfold aBC;by_cases c:i<k
  ·rw[if_pos c,dqT c,yEg];rfl
  ·rw[if_neg c,dqF c,yEk,dqT (),yAk,gX hd]
 ·show(f.O*2^k&&&(2^w-1))[i]! =_;rw[yAh,cV,aAs,dqT hi,yCi];unfold aBC;by_cases c:i<k
  ·rw[if_pos c,dqF (),yAv];rfl
  ·rw[if_neg c,dqT (),yAk,gY hd]
def aEe(a w:Nat):dD a w<2^w:=by apply yCv;intro i hi;rw[lQ,dqF (show ¬ i<w by omega),yBp]
def aHb(h:n<2^w):n/2^k<2^w:=xAi (Nat.div_le_self _ _) h
def aIe(k:Nat)(hf:FtOk f w)(hd:f.N&&&f.O=0):Mk (aBr f w k) w (mD w f k):=by
 refine⟨yBl (aHb hf.lN) (aEe _ _),aHb hf.lO,λ i hi=>?_,λ i hi=>?_⟩
 ·show(f.N/2^k|||dD (min k w) w)[i]! =_;rw[xAo,iE,lQ,dqT hi,yCi];unfold aBr;by_cases c:i+k<w
  ·rw[if_pos c,dqF (),yEk,gX hd,yDh]
  ·rw[if_neg c,dqT (),yEg];rfl
 ·show(f.O/2^k)[i]! =_;rw[iE];unfold aBr;by_cases c:i+k<w
  ·rw[if_pos c,gY hd,yDh]
  ·rw[if_neg c,cP hf.lO ()];rfl
def tF(h:n<2^w)(hw:0<w)(hv:w<=v)(hi:i<v):(cW n w v)[i]! =n[(min i (w-1))]!:=by
 rw[sX h hw hv];by_cases c:i<w
 ·rw[if_pos c,yDn ()]
 ·rw[if_neg c,dqT hi,yAk,yDr ()]
def aHD(k:Nat)(hw:1<=w)(hf:FtOk f w)(hd:f.N&&&f.O=0):Mk (λ i=>aMo f w (i+k)) w (xD w f k):=by
 have hl:∀ n,n<2^w->cW n w (w+k)/2^k<2^w:=λ n hn=>by
  rw[yEw (xAe k),<- yFl];exact vQ hn hw ()
 refine⟨hl _ hf.lN,hl _ hf.lO,λ i hi=>?_,λ i hi=>?_⟩
 ·show(cW f.N w (w+k)/2^k)[i]! =(dO f (min (i+k) (w-1))==0);rw[iE,tF hf.lN hw () (),gX hd,yDh]
 ·show(cW f.O w (w+k)/2^k)[i]! =(dO f (min (i+k) (w-1))==1);rw[iE,tF hf.lO hw () (),gY hd,yDh]
def aKx{f:Ft}(v w:Nat)(hd:f.N&&&f.O=0):Mk (dO f) w (zE v w f):=by
 refine⟨xAi yFj (wU w),xAi yFj (wU w),λ i hi=>?_,λ i hi=>?_⟩
 ·show(f.N&&&(2^w-1))[i]! =_;rw[yAh,cV,dqT hi,yCi,gX hd]
 ·show(f.O&&&(2^w-1))[i]! =_;rw[yAh,cV,dqT hi,yCi,gY hd]
def aI2(h:n<2^v)(hv:v<=w):n<2^w:=xAb h (yAo (·) hv)
def aI1(hv:v<=w)(hf:FtOk f v)(hd:f.N&&&f.O=0):Mk (aBV f v) w (mG v w f):=by
 refine⟨yBl (aI2 hf.lN hv) (aEe _ _),aI2 hf.lO hv,λ i hi=>?_,λ i hi=>?_⟩
 ·show(f.N|||dD (w-v) w)[i]! =_;rw[xAo,lQ,dqT hi,yCi];unfold aBV;by_cases c:i<v
  ·rw[if_pos c,dqF (),yEk,gX hd]
  ·rw[if_neg c,dqT (),yEg];rfl
 ·show f.O[i]! =_;unfold aBV;by_cases c:i<v
  ·rw[if_pos c,gY hd]
  ·rw[if_neg c,cP hf.lO ()];rfl
def aIn(h1:1<=v)(hv:v<=w)(hf:FtOk f v)(hd:f.N&&&f.O=0):Mk (aMo f v) w (yB v w f):=by
 refine⟨vQ hf.lN h1 hv,vQ hf.lO h1 hv,λ i hi=>?_,λ i hi=>?_⟩
 ·show(cW f.N v w)[i]! =(dO f (min i (v-1))==0);rw[tF hf.lN h1 hv hi,gX hd]
 ·show(cW f.O v w)[i]! =(dO f (min i (v-1))==1);rw[tF hf.lO h1 hv hi,gY hd]
def btN(b:Nat)(x y:Nat):Nat:=match b with
 |0=>if x=0\/y=0 then 0 else if x<2/\y<2 then x*y else 2
 |1=>if x=1\/y=1 then 1 else if x<2/\y<2 then x+y else 2
 |_=>if x<2/\y<2 then (if x=y then 0 else 1) else 2
def jT(f:Ft)(k:Nat):dO f k=0\/dO f k=1\/dO f k=2:=by have:=xM f k;omega
def uZ(b:Nat)(f g:Ft):Ft:=match b with|0=>⟨f.N|||g.N,f.O&&&g.O,min f.A g.A⟩|1=>⟨f.N&&&g.N,f.O|||g.O,min f.A g.A⟩|_=>⟨f.N&&&g.N|||f.O&&&g.O,f.N&&&g.O|||f.O&&&g.N,min f.A g.A⟩
def aLq(b:Nat)(hb:b=0\/b=1\/b=2)(hf:FtOk f w)(hd:f.N&&&f.O=0)(hg:FtOk g w)(he:g.N&&&g.O=0):Mk (λ i=>btN b (dO f i) (dO g i)) w (uZ b f g):=by
 have an:∀ {x y:Nat},x<2^w->x&&&y<2^w:=λ h=>xAi yCz h
 erw[50,hb]
 ·refine⟨yBl hf.lN hg.lN,an hf.lO,λ i _=>?_,λ i _=>?_⟩
  ·show(f.N|||g.N)[i]! =_;rw[xAo,<- gX hd,<- gX he];rcases jT f i with h|h|h<;>rcases jT g i with h'|h'|h'<;>rw[h,h']<;>rfl
  ·show(f.O&&&g.O)[i]! =_;rw[yAh,<- gY hd,<- gY he];rcases jT f i with h|h|h<;>rcases jT g i with h'|h'|h'<;>rw[h,h']<;>rfl
 ·refine⟨an hf.lN,yBl hf.lO hg.lO,λ i _=>?_,λ i _=>?_⟩
  ·show(f.N&&&g.N)[i]! =_;rw[yAh,<- gX hd,<- gX he];rcases jT f i with h|h|h<;>rcases jT g i with h'|h'|h'<;>rw[h,h']<;>rfl
  ·show(f.O|||g.O)[i]! =_;rw[xAo,<- gY hd,<- gY he];rcases jT f i with h|h|h<;>rcases jT g i with h'|h'|h'<;>rw[h,h']<;>rfl
 ·refine⟨yBl (an hf.lN) (an hf.lO),yBl (an hf.lN) (an hf.lO),λ i _=>?_,λ i _=>?_⟩
  ·show(f.N&&&g.N|||f.O&&&g.O)[i]! =_;rw[xAo,yAh,yAh,<- gX hd,<- gX he,<- gY hd,<- gY he];rcases jT f i with h|h|h<;>rcases jT g i with h'|h'|h'<;>rw[h,h']<;>rfl
  ·show(f.N&&&g.O|||f.O&&&g.N)[i]! =_;rw[xAo,yAh,yAh,<- gX hd,<- gX he,<- gY hd,<- gY he];rcases jT f i with h|h|h<;>rcases jT g i with h'|h'|h'<;>rw[h,h']<;>rfl
def rs(x:Int)(w:Nat):Nat:=(x%((2^w:Nat):Int)).toNat
def pG(x:Int)(w:Nat):((rs x w:Nat):Int)=x%((2^w:Nat):Int):=by
 unfold rs;have:(0:Int)<((2^w:Nat):Int):=by have:=xAe w;omega
 have:=Int.emod_nonneg x (b:=((2^w:Nat):Int)) ();omega
def pO(x:Int)(w:Nat):rs x w<2^w:=by
 have h:=pG x w;have:(0:Int)<((2^w:Nat):Int):=by have:=xAe w;omega
 have:=yGx x this;omega
def aV0{x:Int}(h0:0<=x)(h1:x<((2^w:Nat):Int)):((rs x w:Nat):Int)=x:=by rw[pG,Int.emod_eq_of_lt h0 h1]
def aJ1(x:Int)(h:L<=w):rs x w%2^L=rs x L:=by
 have e:((rs x w%2^L:Nat):Int)=((rs x L:Nat):Int):=by
  rw[yFk,pG,pG];exact Int.emod_emod_of_dvd x (by
   have:(2:Nat)^L ∣ 2^w:=Nat.pow_dvd_pow 2 h;exact Int.natCast_dvd_natCast.mpr this)
 omega
def aTB(x:Int)(h:L<=w)(hi:i<L):(rs x w)[i]! =(rs x L)[i]!:=by rw[<- aJ1 x h,yAr,dqT hi,yAk]
def nE(h:i<lr n):n[i]! =true:=by
 rw[aRV] at h;have h1:=aHV _ i h;have h2:(pN n (bl n+1)).getD i false=true:=by rw[xAg,h1];rfl
 rw[aPk,yAp] at h2;exact h2.2
def aWT(h:n<2^w):lr n<=w:=by
 by_cases c:lr n<=w
 ·exact c
 ·have:=@nE w n ();rw[cP h (yAd _)] at this;cases this
def aDI{x y:Nat}(h:∀ i,x[i]! =true->y[i]! =true):x<=y:=by
 have:y&&&x=x:=by
  rw[aHi];exact h
 rw[<- this];exact yCz
def aKc(hx:x<2^w)(hy:y<2^w)(h:∀ i,x[i]! =true->y[i]! =false):y<=2^w-1-x:=by
 refine aDI (y:=qM x w) λ i hi=>?_
 have hiw:i<w:=by
  by_cases c:i<w
  ·exact c
  ·rw[cP hy ()] at hi;cases hi
 rw[pC hx,dqT hiw,yAk];cases q:x[i]! with
 |false=>rfl|true=>rw[h i q] at hi;cases hi
def aBK(h:Hd f n w):f.O<=n:=aDI h.2.1
def aBH(k:FtOk f w)(hn:n<2^w)(h:Hd f n w):n<=2^w-1-f.N:=aKc k.lN hn h.1
def aKa(h:Hd f n w)(hk:∀ i,i<L->(f.N|||f.O)[i]! =true):n%2^L=f.O%2^L:=by
 apply xAl;intro i;rw[yAr,yAr];by_cases c:i<L
 ·rw[dqT c,yAk,yAk];have q:=hk i c;rw[xAo] at q;cases o:f.O[i]! with
  |true=>exact h.2.1 i o
  |false=>
    rw[o,yEk] at q;exact h.1 i q
 ·rw[dqF c,yAv,yAv]
inductive Sw where|add|sub|mul
def Sw.oc:Sw->Int->Int->Int
 |.add,a,b=>a+b|.sub,a,b=>a-b|.mul,a,b=>a*b
def aGK(h:a%2^L=b%2^L):((a:Nat):Int)%((2^L:Nat):Int)=((b:Nat):Int)%((2^L:Nat):Int):=by rw[<- yFk,<- yFk,h]
def aVn(s:Sw){a b c e:Nat}{L:Nat}(h1:a%2^L=c%2^L)(h2:b%2^L=e%2^L):rs (s.oc a b) L=rs (s.oc c e) L:=by
 have g1:=aGK h1;have g2:=aGK h2;have:s.oc a b%((2^L:Nat):Int)=s.oc c e%((2^L:Nat):Int):=by
  cases s with
  |add=>show((a:Nat)+(b:Nat):Int)%_=((c:Nat)+(e:Nat):Int)%_;rw[Int.add_emod,g1,g2,<- Int.add_emod]|sub=>show((a:Nat)-(b:Nat):Int)%_=((c:Nat)-(e:Nat):Int)%_;rw[Int.sub_emod,g1,g2,<- Int.sub_emod]|mul=>show((a:Nat)*(b:Nat):Int)%_=((c:Nat)*(e:Nat):Int)%_;rw[Int.mul_emod,g1,g2,<- Int.mul_emod]
 unfold rs;rw[this]
def gO(f g:Ft):Nat:=lr ((f.N|||f.O)&&&(g.N|||g.O))
def aDG(k:FtOk f w):gO f g<=w:=aWT (xAi yCz (yBl k.lN k.lO))
def kZ(s:Sw)(f g:Ft):Nat:=rs (s.oc (f.O:Nat) (g.O:Nat)) (gO f g)
def sC(s:Sw)(f g:Ft):Nat:=(2^gO f g-1)^^^kZ s f g
def aH0(s:Sw)(k:FtOk f w)(h1:Hd f a w)(h2:Hd g b w)(hi:i<gO f g):(rs (s.oc (a:Nat) (b:Nat)) w)[i]! =(kZ s f g)[i]!:=by
 have hk:∀ i,i<gO f g->(f.N|||f.O)[i]! =true/\(g.N|||g.O)[i]! =true:=λ i hi=>by
  have:=nE hi;rw[yAh,yAp] at this;exact this
 rw[aTB _ (aDG k) hi,aVn s (aKa h1 λ i hi=>(hk i hi).1) (aKa h2 λ i hi=>(hk i hi).2)];rfl
def aPO(h:(kZ s f g)[i]! =true):i<gO f g:=by
 by_cases c:i<gO f g
 ·exact c
 ·have hl:kZ s f g<2^gO f g:=pO _ _;rw[cP hl ()] at h;cases h
def aPD(h:(sC s f g)[i]! =true):i<gO f g/\(kZ s f g)[i]! =false:=by
 unfold sC at h;rw[yAl,cV] at h;have hl:kZ s f g<2^gO f g:=pO _ _;by_cases c:i<gO f g
 ·rw[dqT c] at h;refine⟨c,?_⟩;cases q:(kZ s f g)[i]! with|false=>rfl|true=>rw[q] at h;cases h
 ·rw[dqF c,cP hl ()] at h;cases h
def gQ(s:Sw)(w:Nat)(f g:Ft):Int:=match s with|.sub=>(f.O:Nat)-((2^w-1-g.N:Nat):Int)|s=>s.oc (f.O:Nat) (g.O:Nat)
def gT(s:Sw)(w:Nat)(f g:Ft):Int:=match s with|.sub=>((2^w-1-f.N:Nat):Int)-(g.O:Nat)|s=>s.oc ((2^w-1-f.N:Nat):Int) ((2^w-1-g.N:Nat):Int)
def aL0(s:Sw)(kf:FtOk f w)(kg:FtOk g w)(ha:a<2^w)(hb:b<2^w)(h1:Hd f a w)(h2:Hd g b w):gQ s w f g<=s.oc (a:Nat) (b:Nat)/\s.oc (a:Nat) (b:Nat)<=gT s w f g:=by
 have l1:=aBK h1;have l2:=aBK h2;have m1:=aBH kf ha h1;have m2:=aBH kg hb h2;cases s with
 |add=>
   show((f.O:Nat)+(g.O:Nat):Int)<=(a:Nat)+(b:Nat)/\((a:Nat)+(b:Nat):Int)<=((2^w-1-f.N:Nat):Int)+((2^w-1-g.N:Nat):Int);generalize 2^w-1-f.N=F at *;generalize 2^w-1-g.N=G at *;omega
 |sub=>
   show((f.O:Nat)-((2^w-1-g.N:Nat):Int))<=(a:Nat)-(b:Nat)/\((a:Nat)-(b:Nat):Int)<=((2^w-1-f.N:Nat):Int)-(g.O:Nat);generalize 2^w-1-f.N=F at *;generalize 2^w-1-g.N=G at *;omega
 |mul=>
   show((f.O:Nat)*(g.O:Nat):Int)<=(a:Nat)*(b:Nat)/\((a:Nat)*(b:Nat):Int)<=((2^w-1-f.N:Nat):Int)*((2^w-1-g.N:Nat):Int);rw[<- yBz,<- yBz,<- yBz];exact⟨Int.ofNat_le.mpr (Nat.mul_le_mul l1 l2),Int.ofNat_le.mpr (Nat.mul_le_mul m1 m2)⟩
def qG(s:Sw)(w:Nat)(f g:Ft):Nat:=if gQ s w f g<0\/gT s w f g>((2^w-1:Nat):Int) then 0 else wI (gQ s w f g).toNat (gT s w f g).toNat w
def sN(s:Sw)(w:Nat)(f g:Ft):Nat:=if gQ s w f g<0\/gT s w f g>((2^w-1:Nat):Int) then 0 else pM (gQ s w f g).toNat (gT s w f g).toNat w
def aQB(hl:l<2^w)(hg:g<2^w):xI l g w<2^w:=by apply yCv;intro i hi;rw[aCZ hl hg,dqF (),yAv]
def aHE(s:Sw)(kf:FtOk f w)(kg:FtOk g w)(ha:a<2^w)(hb:b<2^w)(h1:Hd f a w)(h2:Hd g b w) :
 (∀ i,(qG s w f g)[i]! =true->(rs (s.oc (a:Nat) (b:Nat)) w)[i]! =false)/\(∀ i,(sN s w f g)[i]! =true->(rs (s.oc (a:Nat) (b:Nat)) w)[i]! =true)/\qG s w f g<2^w/\sN s w f g<2^w:=by
 have hb':=aL0 s kf kg ha hb h1 h2;have hp:=xAe w;unfold qG sN;by_cases c:gQ s w f g<0\/gT s w f g>((2^w-1:Nat):Int)
 ·rw[if_pos c,if_pos c];refine⟨λ i hi=>?_,λ i hi=>?_,hp,hp⟩
  ·rw[yAq] at hi;cases hi
  ·rw[yAq] at hi;cases hi
 ·rw[if_neg c,if_neg c];have e:=@aV0 w (s.oc (a:Nat) (b:Nat)) () ();have q1:(gQ s w f g).toNat<=rs (s.oc (a:Nat) (b:Nat)) w:=();have q2:rs (s.oc (a:Nat) (b:Nat)) w<=(gT s w f g).toNat:=();have q3:(gQ s w f g).toNat<2^w:=();have q4:(gT s w f g).toNat<2^w:=();have n1:=aNo q3 q4 q1 q2;have n2:=aNF q3 q4 q1 q2;rw[aDn] at n1;rw[aHi] at n2;have kl:=aQB q3 q4;exact⟨n1,n2,yCe kl (xAi yCz kl),xAi yCz kl⟩
def sO(s:Sw)(w:Nat)(f g:Ft):Nat:=match s with|.mul=>2^min w (lr f.N+lr g.N)-1|_=>0
def aJq{n:Nat}(h:∀ i,i<L->n[i]! =false):2^L ∣ n:=by
 have:n%2^L=0:=by
  rw[kP];intro i;rw[yAr];by_cases c:i<L
  ·rw[h i c,yBp]
  ·rw[dqF c,yAv]
 exact Nat.dvd_of_mod_eq_zero this
def aQ1(s:Sw)(h1:Hd f a w)(h2:Hd g b w):∀ i,(sO s w f g)[i]! =true->(rs (s.oc (a:Nat) (b:Nat)) w)[i]! =false:=by
 intro i hi;cases s with
 |add=>rw[show sO .add w f g=0 from rfl,yAq] at hi;cases hi
 |sub=>rw[show sO .sub w f g=0 from rfl,yAq] at hi;cases hi
 |mul=>
   have hi':(2^min w (lr f.N+lr g.N)-1)[i]! =true:=hi;rw[cV,decide_eq_true_eq] at hi';let(c,hc):=@aJq (lr f.N) a λ i hi=>h1.1 i (nE hi)
   let(e,he):=@aJq (lr g.N) b λ i hi=>h2.1 i (nE hi)
   have ex:rs (Sw.mul.oc (a:Nat) (b:Nat)) w=a*b%2^w:=by
    have:=pG (Sw.mul.oc (a:Nat) (b:Nat)) w;have e2:Sw.mul.oc (a:Nat) (b:Nat)=((a*b:Nat):Int):=(yBz a b).symm;rw[e2,<- yFk] at this;rw[e2];omega
   rw[ex,yAr,dqT (),yAk];have:a*b=c*e*2^(lr f.N+lr g.N):=by
    rw[hc,he,yFl];simp only[yFo,Nat.mul_left_comm,Nat.mul_assoc]
   rw[this,aAs,dqF (),yAv]
def aEj(hn:n<2^w)(ha:a<=w):((∀ i,w-a<=i->i<w->n[i]! =true)\/(∀ i,w-a<=i->i<w->n[i]! =false)) ↔ 2^w-2^(w-a)<=n\/n<2^(w-a):=by
 have hp:=xAe (w-a);have e1:(2:Nat)^w=2^a*2^(w-a):=by rw[<- yFl,show a+(w-a)=w by omega]
 have hpa:=xAe a;rw[<- aPE hn ha,<- aPX hn ha];have q0:n/2^(w-a)=0 ↔ n<2^(w-a):=by
  rw[Nat.div_eq_zero_iff];omega
 have q1:n/2^(w-a)=2^a-1 ↔ 2^w-2^(w-a)<=n:=by
  have es:(2^a-1)*2^(w-a)=2^w-2^(w-a):=by rw[Nat.sub_mul,Nat.one_mul,<- e1]
  constructor
  ·intro h;have:=Nat.div_mul_le_self n (2^(w-a));rw[h,es] at this;exact this
  ·intro h;have g1:2^a-1<=n/2^(w-a):=by
    rw[Nat.le_div_iff_mul_le hp,es];exact h
   have g2:n/2^(w-a)<2^a:=by
    rw[yEw hp,<- e1];exact hn
   omega
 rw[q0,q1]
def lI(s:Sw)(f g:Ft):Nat:=match s with|.mul=>1|_=>max 1 (min f.A g.A-1)
def tG{n:Nat}(ha:m<=a)(h:(∀ i,w-a<=i->i<w->n[i]! =true)\/(∀ i,w-a<=i->i<w->n[i]! =false)):(∀ i,w-m<=i->i<w->n[i]! =true)\/(∀ i,w-m<=i->i<w->n[i]! =false):=by
 rcases h with h|h
 ·exact .inl λ i a b=>h i (xAh (yEm ha _) a) b
 ·exact .inr λ i a b=>h i (xAh (yEm ha _) a) b
def mC(n w:Nat):(∀ i,w-1<=i->i<w->n[i]! =true)\/(∀ i,w-1<=i->i<w->n[i]! =false):=by
 cases c:n[(w-1)]! with
 |true=>exact .inl λ i h1 h2=>by rw[show i=w-1 by omega];exact c|false=>exact .inr λ i h1 h2=>by rw[show i=w-1 by omega];exact c
def aKF{W:Nat}(ha:a<W)(h:W-T<=a\/a<T)(hT:T<=W):∃ x k:Int,((a:Nat):Int)=x+k*((W:Nat):Int) /\ -((T:Nat):Int)<=x/\x<((T:Nat):Int):=by
 rcases h with h|h
 ·exact⟨(a:Int)-W,1,by omega,by omega,by omega⟩
 ·exact⟨(a:Int),0,by omega,by omega,by omega⟩
def aSs{x W T r k:Int}(h:r=x+k*W)(h1 : -(2*T)<=x)(h2:x<2*T)(hT:2*T<=W)(r0:0<=r)(rW:r<W):W-2*T<=r\/r<2*T:=by
 rcases (show k <= -1\/k=0\/k=1\/2<=k by omega) with c|rfl|rfl|c
 ·have:k*W<=(-1)*W:=yGe c ();omega
 ·exact .inr ()
 ·exact .inl ()
 ·have:2*W<=k*W:=yGe c ();omega
def aTz{x y k l W z:Int}:(x+k*W+(y+l*W))-W*z=x+y+(k+l-z)*W:=by rw[Int.sub_mul,Int.add_mul,yGy W z];omega
def aVh{x y k l W z:Int}:(x+k*W-(y+l*W))-W*z=x-y+(k-l-z)*W:=by rw[Int.sub_mul,Int.sub_mul,yGy W z];omega
def aZd(c:lI s f g≠1):(lI s f g=min f.A g.A-1/\2<=min f.A g.A-1)/\s≠.mul:=by
 cases s with
 |mul=>exact absurd rfl c
 |add=>
   have e:lI .add f g=max 1 (min f.A g.A-1):=rfl;exact⟨by omega,λ h=>nomatch h⟩
 |sub=>
   have e:lI .sub f g=max 1 (min f.A g.A-1):=rfl;exact⟨by omega,λ h=>nomatch h⟩
def aRW(s:Sw)(kf:FtOk f w)(kg:FtOk g w)(ha:a<2^w)(hb:b<2^w)(h1:Hd f a w)(h2:Hd g b w) :
 (∀ i,w-lI s f g<=i->i<w->(rs (s.oc (a:Nat) (b:Nat)) w)[i]! =true)\/(∀ i,w-lI s f g<=i->i<w->(rs (s.oc (a:Nat) (b:Nat)) w)[i]! =false):=by
 by_cases c:lI s f g=1
 ·rw[c];exact mC _ _
 ·have hw:=kf.aw;let((hA,hm),hs):=aZd c;have g1:min f.A g.A<=f.A:=yCy ..;have g2:min f.A g.A<=g.A:=yCa ..;rw[hA];generalize min f.A g.A=m at *;have hmw:m<=w:=xAh g1 hw;rw[aEj (pO _ _) (xAh (yFa m 1) hmw)];have a1:=(aEj ha hmw).mp (tG g1 h1.2.2);have a2:=(aEj hb hmw).mp (tG g2 h2.2.2);have e:(2:Nat)^(w-(m-1))=2*2^(w-m):=by
   rw[show w-(m-1)=w-m+1 by omega,yEv,yFo]
  have hT:2*2^(w-m)<=2^w:=by
   rw[<- e];exact yAo (·) (yFa ..)
  rw[e];have hT1:2^(w-m)<=2^w:=yAo (·) (yFa ..);let(x,k,e1,x1,x2):=aKF ha a1 hT1;let(y,l,e2,y1,y2):=aKF hb a2 hT1;have hr:=pG (s.oc (a:Nat) (b:Nat)) w;have hl:=pO (s.oc (a:Nat) (b:Nat)) w;rw[Int.emod_def] at hr;generalize rs (s.oc (a:Nat) (b:Nat)) w=r at *;generalize s.oc (a:Nat) (b:Nat)/((2^w:Nat):Int)=z at *;generalize (2:Nat)^w=W at *;generalize (2:Nat)^(w-m)=T at *;clear a1 a2 h1 h2 e g1 g2 hmw hw hm hA c;have cH:∀ {x k:Int},(r:Int)=x+k*(W:Int) -> -(2*(T:Int))<=x->x<2*(T:Int)->W-2*T<=r\/r<2*T:=λ q1 q2 q3=>by
   rcases aSs q1 q2 q3 () () () with q|q
   ·exact .inl ()
   ·exact .inr ()
  cases s with
  |mul=>exact absurd rfl hs
  |add=>
    have hk:(r:Int)=(a:Int)+(b:Int)-(W:Int)*z:=hr;rw[e1,e2,aTz] at hk;exact cH hk () ()
  |sub=>
    have hk:(r:Int)=(a:Int)-(b:Int)-(W:Int)*z:=hr;rw[e1,e2,aVh] at hk;exact cH hk () ()
def uQ(s:Sw)(w:Nat)(f g:Ft):Ft:=⟨sC s f g|||qG s w f g|||sO s w f g,kZ s f g|||sN s w f g,lI s f g⟩
def aPN(s:Sw)(kf:FtOk f w)(kg:FtOk g w)(ha:a<2^w)(hb:b<2^w)(h1:Hd f a w)(h2:Hd g b w):Hd (uQ s w f g) (rs (s.oc (a:Nat) (b:Nat)) w) w:=by
 let(t1,t2,_,_):=aHE s kf kg ha hb h1 h2;refine⟨λ i hi=>?_,λ i hi=>?_,aRW s kf kg ha hb h1 h2⟩
 ·have hi':(sC s f g|||qG s w f g|||sO s w f g)[i]! =true:=hi;rw[xAo,xAo,yBw,yBw] at hi';rcases hi' with (q|q)|q
  ·let(q1,q2):=aPD q;rw[aH0 s kf h1 h2 q1,q2]
  ·exact t1 i q
  ·exact aQ1 s h1 h2 i q
 ·have hi':(kZ s f g|||sN s w f g)[i]! =true:=hi;rw[xAo,yBw] at hi';rcases hi' with q|q
  ·rw[aH0 s kf h1 h2 (aPO q),q]
  ·exact t2 i q
def aC9(h:n<2^v)(hv:v<=w):n<2^w:=xAb h (yAo (·) hv)
def aJM(s:Sw)(kf:FtOk f w)(kg:FtOk g w)(ha:a<2^w)(hb:b<2^w)(h1:Hd f a w)(h2:Hd g b w):FtOk (uQ s w f g) w:=by
 let(_,_,t3,t4):=aHE s kf kg ha hb h1 h2;have hL:=aDG (g:=g) kf;have hO:kZ s f g<2^gO f g:=pO _ _;have hN:sC s f g<2^gO f g:=yCe (by have:=xAe (gO f g);omega) hO;have hl:sO s w f g<2^w:=by
  have:=xAe w;cases s with
  |add=>exact this|sub=>exact this|mul=>exact aC9 (v:=min w (lr f.N+lr g.N)) (by show 2^min w (lr f.N+lr g.N)-1<_;have:=xAe (min w (lr f.N+lr g.N));omega) ()
 have q1:=kf.aw;have q2:=kf.a1;refine⟨yBl (yBl (aC9 hN hL) t3) hl,yBl (aC9 hO hL) t4,?_,?_⟩
 ·show 1<=lI s f g;cases s with|mul=>exact yAd 1|add=>exact yDq _ _|sub=>exact yDq _ _
 ·show lI s f g<=w;cases s with|mul=>show 1<=w;omega|add=>exact Nat.max_le.mpr ⟨xAh q2 q1,xAh (yFa _ _) (xAh (yCy _ _) q1)⟩|sub=>exact Nat.max_le.mpr ⟨xAh q2 q1,xAh (yFa _ _) (xAh (yCy _ _) q1)⟩
def F1:Ft:=⟨0,1,1⟩
def F0:Ft:=⟨1,0,1⟩
def kJ:Ft:=⟨0,0,1⟩
def l3(a b c e:Int):Ft:=if b<c then F1 else if e<=a then F0 else kJ
def aL8(a b c e:Int):l3 a b c e=F1\/l3 a b c e=F0\/l3 a b c e=kJ:=by
 unfold l3;split
 ·exact .inl rfl
 ·split
  ·exact .inr (.inl rfl)
  ·exact .inr (.inr rfl)
def aA9(h:r<2^k):r^^^2^k=r+2^k:=by
 apply xAl;intro i;have e:r+2^k=r+1*2^k:=();rw[e,aGl h,yAl,yCj];by_cases c:i<k
 ·rw[if_pos c,dqF (),Bool.xor_false]
 ·rw[if_neg c,cP h (),Bool.false_xor];by_cases c2:k=i
  ·subst c2;rw[dqT rfl,yBf];rfl
  ·rw[dqF c2];have:1<2^(i-k):=Nat.one_lt_two_pow ();rw[cP this (yAd _)]
def aDr(h1:2^k<=n)(h2:n<2^(k+1)):n^^^2^k=n-2^k:=by
 have hr:n-2^k<2^k:=by rw[yEv] at h2;omega
 have e:(n-2^k)^^^2^k=n:=by rw[aA9 hr];omega
 calc n^^^2^k=((n-2^k)^^^2^k)^^^2^k:=by rw[e]
  _=n-2^k:=by rw[Nat.xor_assoc,Nat.xor_self,yGz]
def aLK(h:n<2^w)(hw:0<w):n[(w-1)]! =decide (2^(w-1)<=n):=by
 have hb:=aRa h hw;have hp:=xAe (w-1);cases c:n[(w-1)]! with
 |true=>
   rw[c] at hb;have:2^(w-1)<=n:=by
    by_cases q:n<2^(w-1)
    ·rw[Nat.div_eq_of_lt q] at hb;exact absurd hb (·)
    ·omega
   rw[dqT this]
 |false=>
   rw[c] at hb;have:¬ 2^(w-1)<=n:=λ q=>by
    have h3:=Nat.div_pos q hp;rw[hb] at h3;exact absurd h3 (·)
   rw[dqF this]
def tt(f:Ft)(w:Nat):Ft:=⟨f.N^^^((f.N^^^f.O)&&&dD 1 w),f.O^^^((f.N^^^f.O)&&&dD 1 w),f.A⟩
def aHQ(hw:1<=w):(dD 1 w)[i]! =decide (w-1=i):=by
 rw[lQ];by_cases c:w-1=i
 ·rw[dqT c,dqT (),dqT ()];rfl
 ·rw[dqF c];by_cases c2:w-1<=i
  ·rw[dqF (show ¬ i<w by omega),yBp]
  ·rw[dqF c2,yAv]
def aPH(k:FtOk f w)(hd:f.N&&&f.O=0)(hw:1<=w) :
 (f.N<2^(w-1)/\f.O<2^(w-1)/\(tt f w).N=f.N/\(tt f w).O=f.O)\/(f.N<2^(w-1)/\2^(w-1)<=f.O/\(tt f w).N=f.N+2^(w-1)/\(tt f w).O=f.O-2^(w-1))\/(2^(w-1)<=f.N/\f.O<2^(w-1)/\(tt f w).N=f.N-2^(w-1)/\(tt f w).O=f.O+2^(w-1)):=by
 have hN:=aLK k.lN (show 0<w by omega);have hO:=aLK k.lO (show 0<w by omega);have lN:=k.lN;have lO:=k.lO;have e:w-1+1=w:=();have tb:∀ b:Bool,(f.N[(w-1)]! ^^ f.O[(w-1)]!)=b->(f.N^^^f.O)&&&dD 1 w=if b=true then 2^(w-1) else 0:=λ b hb=>by
  apply xAl;intro i;rw[yAh,aHQ hw,yAl];by_cases c:w-1=i
  ·subst c;rw[hb,dqT rfl,yCi];cases b
   ·simp
   ·simp
  ·rw[dqF c,yBp];cases b
   ·simp
   ·rw[if_pos rfl,yCj,dqF c]
 by_cases c1:2^(w-1)<=f.N
 ·by_cases c2:2^(w-1)<=f.O
  ·exfalso;have:=(kP _).mp hd (w-1);rw[yAh,hN,hO,dqT c1,dqT c2] at this;cases this
  ·refine .inr (.inr ⟨c1,by omega,?_,?_⟩)
   ·show f.N^^^_=_;rw[tb true (by rw[hN,hO,dqT c1,dqF c2];rfl),if_pos rfl,aDr c1 (by rw[e];exact lN)]
   ·show f.O^^^_=_;rw[tb true (by rw[hN,hO,dqT c1,dqF c2];rfl),if_pos rfl,aA9 ()]
 ·by_cases c2:2^(w-1)<=f.O
  ·refine .inr (.inl ⟨by omega,c2,?_,?_⟩)
   ·show f.N^^^_=_;rw[tb true (by rw[hN,hO,dqT c2,dqF c1];rfl),if_pos rfl,aA9 ()]
   ·show f.O^^^_=_;rw[tb true (by rw[hN,hO,dqT c2,dqF c1];rfl),if_pos rfl,aDr c2 (by rw[e];exact lO)]
  ·refine .inl ⟨by omega,by omega,?_,?_⟩
   ·show f.N^^^_=_;rw[tb false (by rw[hN,hO,dqF c2,dqF c1];rfl),if_neg (·),yGz]
   ·show f.O^^^_=_;rw[tb false (by rw[hN,hO,dqF c2,dqF c1];rfl),if_neg (·),yGz]
def aLj(k:FtOk f w)(hd:f.N&&&f.O=0)(hw:1<=w):(tt f w).N<2^w:=by
 have h2:(2:Nat)^w=2^(w-1)+2^(w-1):=by
  have:(2:Nat)^(w-1+1)=2^(w-1)*2:=yEv ..;rw[show w-1+1=w by omega] at this;omega
 have lN:=k.lN;rcases aPH k hd hw with ⟨_,_,h,_⟩|⟨_,_,h,_⟩|⟨_,_,h,_⟩<;>rw[h]<;>omega
def oO(w:Nat)(f g:Ft):Ft:=if f.N&&&g.O|||f.O&&&g.N≠0 then F0 else if (f.N|||f.O)&&&(g.N|||g.O)=2^w-1 then F1 else kJ
def aX1(w:Nat)(f g:Ft):oO w f g=F1\/oO w f g=F0\/oO w f g=kJ:=by
 unfold oO;split
 ·exact .inr (.inl rfl)
 ·split
  ·exact .inl rfl
  ·exact .inr (.inr rfl)
def qH(t f g:Ft):Ft:=if t.O=1 then f else if t.N=1 then g else ⟨f.N&&&g.N,f.O&&&g.O,min f.A g.A⟩
def aYx(hf:FtOk f w)(hg:FtOk g w):FtOk (qH t f g) w:=by
 unfold qH;split
 ·exact hf
 ·split
  ·exact hg
  ·have h1:=hf.a1;have h2:=hg.a1;have h3:=hf.aw;exact⟨xAi yCz hf.lN,xAi yCz hf.lO,by show 1<=min f.A g.A;omega,by show min f.A g.A<=w;omega⟩
def Al(n w a:Nat):Prop:=(∀ i,w-a<=i->i<w->n[i]! =true)\/(∀ i,w-a<=i->i<w->n[i]! =false)
def pL{f:Ft}(hd:f.N&&&f.O=0)(h:Hd f a w)(j:Nat):(dO f j=0->a[j]! =false)/\(dO f j=1->a[j]! =true):=by
 refine⟨λ e=>h.1 j ?_,λ e=>h.2.1 j ?_⟩
 ·rw[<- gX hd j,beq_iff_eq];exact e
 ·rw[<- gY hd j,beq_iff_eq];exact e
def pA{t:Nat->Nat}{z:Nat}(m:Mk t n g)(hz:∀ i,i<n->(t i=0->z[i]! =false)/\(t i=1->z[i]! =true))(ha:Al z n g.A):Hd g z n:=by
 have hl:∀ {x:Nat},x<2^n->∀ i,x[i]! =true->i<n:=λ {x} hx i hi=>by
  by_cases c:i<n
  ·exact c
  ·rw[cP hx ()] at hi;cases hi
 refine⟨λ i hi=>?_,λ i hi=>?_,ha⟩
 ·have c:=hl m.lN i hi;rw[m.b0 i c,beq_iff_eq] at hi;exact(hz i c).1 hi
 ·have c:=hl m.lO i hi;rw[m.b1 i c,beq_iff_eq] at hi;exact(hz i c).2 hi
def xJ(n w:Nat):rs ((n:Nat):Int) w=n%2^w:=by have:=pG ((n:Nat):Int) w;rw[<- yFk] at this;omega
def aHH(h:n<2^w):rs ((n:Nat):Int) w=n:=by rw[xJ,yCc h]
section
variable {f:Ft}{a w:Nat}(hf:FtOk f w)(hd:f.N&&&f.O=0)(ha:a<2 ^ w)(h:Hd f a w)
include hf hd ha h
theorem aP5:Hd ⟨f.O,f.N,f.A⟩ (2^w-1-a) w:=by
 refine pA (aTW hf hd) (λ i hi=>?_) ?_
 ·rw[aBq ha hi];refine⟨λ e=>?_,λ e=>?_⟩
  ·have:f.O[i]! =true:=by rw[<- aMS hd i,beq_iff_eq];exact e
   rw[h.2.1 i this];rfl
  ·have:f.N[i]! =true:=by rw[<- aMG hd i,beq_iff_eq];exact e
   rw[h.1 i this];rfl
 ·rcases h.2.2 with q|q
  ·exact .inr λ i h1 h2=>by rw[aBq ha h2,q i h1 h2];rfl
  ·exact .inl λ i h1 h2=>by rw[aBq ha h2,q i h1 h2];rfl
theorem aO7(k:Nat):Hd (tZ w f k) (a*2^k%2^w) w:=by
 have hb:∀ i,i<w->(a*2^k%2^w)[i]! =(decide (k<=i)&&a[(i-k)]!):=λ i hi=>by
  rw[yAr,dqT hi,yAk,aAs]
 refine pA (aI3 k hd) (λ i hi=>?_) ?_
 ·rw[hb i hi];unfold aBC;by_cases c:i<k
  ·rw[if_pos c,dqF (),yAv];exact⟨λ _=>rfl,λ e=>nomatch e⟩
  ·rw[if_neg c,dqT (),yAk];exact pL hd h (i-k)
 ·show Al _ w (max 1 (f.A-k));by_cases c:f.A-k<=1
  ·rw[Nat.max_eq_left c];exact mC _ _
  ·rw[Nat.max_eq_right ()];have:=hf.aw;rcases h.2.2 with q|q
   ·exact .inl λ i h1 h2=>by rw[hb i h2,dqT (),yAk];exact q _ () ()
   ·exact .inr λ i h1 h2=>by rw[hb i h2,dqT (),yAk];exact q _ () ()
theorem aOr(k:Nat):Hd (mD w f k) (a/2^k) w:=by
 refine pA (aIe k hf hd) (λ i hi=>?_) ?_
 ·rw[iE];unfold aBr;by_cases c:i+k<w
  ·rw[if_pos c,yDh k i];exact pL hd h (i+k)
  ·rw[if_neg c,cP ha ()];exact⟨λ _=>rfl,λ e=>nomatch e⟩
 ·show Al _ w (if k=0 then f.A else 1);by_cases c:k=0
  ·subst c;rw[if_pos rfl,yCk,yFz];exact h.2.2
  ·rw[if_neg c];exact mC _ _
theorem aOC(hw:1<=w)(k:Nat):Hd (xD w f k) (cW a w (w+k)/2^k) w:=by
 have hb:∀ i,i<w->(cW a w (w+k)/2^k)[i]! =a[(min (i+k) (w-1))]!:=λ i hi=>by
  rw[iE,tF ha hw () (),yDh]
 refine pA (aHD k hw hf hd) (λ i hi=>?_) ?_
 ·rw[hb i hi];exact pL hd h _
 ·have h1:=hf.a1;show Al _ w (min w (f.A+k));rcases h.2.2 with q|q
  ·exact .inl λ i h1 h2=>by rw[hb i h2];exact q _ () ()
  ·exact .inr λ i h1 h2=>by rw[hb i h2];exact q _ () ()
theorem aP2(hv:v<=w):Hd (zE w v f) (a%2^v) v:=by
 have hb:∀ i,i<v->(a%2^v)[i]! =a[i]!:=λ i hi=>by rw[yAr,dqT hi,yAk]
 refine pA (aKx w v hd) (λ i hi=>?_) ?_
 ·rw[hb i hi];exact pL hd h _
 ·have h1:=hf.aw;show Al _ v (max 1 (f.A-(w-v)));by_cases c:f.A-(w-v)<=1
  ·rw[Nat.max_eq_left c];exact mC _ _
  ·rw[Nat.max_eq_right ()];rcases h.2.2 with q|q
   ·exact .inl λ i h1 h2=>by rw[hb i h2];exact q _ () ()
   ·exact .inr λ i h1 h2=>by rw[hb i h2];exact q _ () ()
theorem aO5(hv:w<=v):Hd (mG w v f) a v:=by
 refine pA (aI1 hv hf hd) (λ i hi=>?_) ?_
 ·unfold aBV;by_cases c:i<w
  ·rw[if_pos c];exact pL hd h i
  ·rw[if_neg c,cP ha ()];exact⟨λ _=>rfl,λ e=>nomatch e⟩
 ·show Al _ v (if v=w then f.A else 1);by_cases c:v=w
  ·subst c;rw[if_pos rfl];exact h.2.2
  ·rw[if_neg c];exact mC _ _
theorem aO2(hw:1<=w)(hv:w<=v):Hd (yB w v f) (cW a w v) v:=by
 have hb:∀ i,i<v->(cW a w v)[i]! =a[(min i (w-1))]!:=λ i hi=>tF ha hw hv hi
 refine pA (aIn hw hv hf hd) (λ i hi=>?_) ?_
 ·rw[hb i hi];exact pL hd h _
 ·have h1:=hf.a1;show Al _ v (f.A+(v-w));rcases h.2.2 with q|q
  ·exact .inl λ i h1 h2=>by rw[hb i h2];exact q _ () ()
  ·exact .inr λ i h1 h2=>by rw[hb i h2];exact q _ () ()
end
def bwv(b:Nat)(x y:Nat):Nat:=match b with|0=>x&&&y|1=>x|||y|_=>x^^^y
def bwB(b:Nat)(x y:Bool):Bool:=match b with|0=>x&&y|1=>x||y|_=>x ^^ y
def aDZ(hb:b=0\/b=1\/b=2)(x y i:Nat):(bwv b x y)[i]! =bwB b (x[i]!) (y[i]!):=by
 erw[50,hb]
 ·exact yAh ..
 ·exact xAo ..
 ·exact yAl ..
def aU9:∀ (b p q:Fin 3) (x y:Bool),(p.1=0->x=false)/\(p.1=1->x=true)->(q.1=0->y=false)/\(q.1=1->y=true)->(btN b.1 p.1 q.1=0->bwB b.1 x y=false)/\(btN b.1 p.1 q.1=1->bwB b.1 x y=true):=by decide
def aRp(hb:b=0\/b=1\/b=2)(hf:FtOk f w)(hd:f.N&&&f.O=0)(h:Hd f x w)(hg:FtOk g w)(he:g.N&&&g.O=0)(h':Hd g y w):Hd (uZ b f g) (bwv b x y) w:=by
 refine pA (aLq b hb hf hd hg he) (λ i hi=>?_) ?_
 ·rw[aDZ hb];exact aU9 ⟨b,by omega⟩ ⟨_,xM f i⟩ ⟨_,xM g i⟩ _ _ (pL hd h i) (pL he h' i)
 ·have hA:(uZ b f g).A=min f.A g.A:=by erw[50,hb]<;>rfl
  rw[hA];have q1:Al x w (min f.A g.A):=tG () h.2.2;have q2:Al y w (min f.A g.A):=tG () h'.2.2;have go:∀ (p q:Bool),(∀ i,w-min f.A g.A<=i->i<w->x[i]! =p)->(∀ i,w-min f.A g.A<=i->i<w->y[i]! =q)->Al (bwv b x y) w (min f.A g.A):=λ p q hp hq=>by
   cases c:bwB b p q with
   |true=>exact .inl λ i h1 h2=>by rw[aDZ hb,hp i h1 h2,hq i h1 h2,c]|false=>exact .inr λ i h1 h2=>by rw[aDZ hb,hp i h1 h2,hq i h1 h2,c]
  rcases q1 with q1|q1<;>rcases q2 with q2|q2
  ·exact go _ _ q1 q2
  ·exact go _ _ q1 q2
  ·exact go _ _ q1 q2
  ·exact go _ _ q1 q2
def kD(a w:Nat):Int:=if 2^(w-1)<=a then (a:Nat)-((2^w:Nat):Int) else (a:Nat)
def aTx(x:Int)(w:Nat)(q:Int):rs (x+((2^w:Nat):Int)*q) w=rs x w:=by unfold rs;rw[Int.add_mul_emod_self_left]
def tJ{i:Nat}{p:Prop}(h:(0:Nat)[i]! =true):p:=by rw[yAq] at h;cases h
def aJl:Hd F1 1 1:=⟨λ i h=>tJ h,λ i h=>h,mC _ _⟩
def aI0:Hd F0 0 1:=⟨λ i h=>yAq i,λ i h=>tJ h,mC _ _⟩
def aJG(z:Nat):Hd kJ z 1:=⟨λ i h=>tJ h,λ i h=>tJ h,mC _ _⟩
def aJx{a b c e x y:Int}(h1:a<=x)(h2:x<=b)(h3:c<=y)(h4:y<=e):Hd (l3 a b c e) (decide (x<y)).toNat 1:=by
 unfold l3;by_cases c1:b<c
 ·rw[if_pos c1,dqT ()];exact aJl
 ·rw[if_neg c1];by_cases c2:e<=a
  ·rw[if_pos c2,dqF ()];exact aI0
  ·rw[if_neg c2];exact aJG _
def aOS(kf:FtOk f w)(kg:FtOk g w)(ha:a<2^w)(hb:b<2^w)(h1:Hd f a w)(h2:Hd g b w):Hd (l3 (f.O:Nat) ((2^w-1-f.N:Nat):Int) (g.O:Nat) ((2^w-1-g.N:Nat):Int)) (decide ((a:Int)<(b:Int))).toNat 1:=
 aJx (Int.ofNat_le.mpr (aBK h1)) (Int.ofNat_le.mpr (aBH kf ha h1)) (Int.ofNat_le.mpr (aBK h2)) (Int.ofNat_le.mpr (aBH kg hb h2))
def aO8(kf:FtOk f w)(ha:a<2^w)(hb:b<2^w)(h1:Hd f a w)(h2:Hd g b w):Hd (oO w f g) (decide (a=b)).toNat 1:=by
 unfold oO;by_cases c1:f.N&&&g.O|||f.O&&&g.N=0
 ·rw[if_neg (by simp[c1])];by_cases c2:(f.N|||f.O)&&&(g.N|||g.O)=2^w-1
  ·rw[if_pos c2];have:a=b:=by
    apply xAl;intro i;by_cases c:i<w
    ·have q:((f.N|||f.O)&&&(g.N|||g.O))[i]! =true:=by rw[c2,cV,dqT c]
     have z:=(kP _).mp c1 i;rw[yAh,xAo,xAo] at q;rw[xAo,yAh,yAh] at z;have p1:=h1.1 i;have p2:=h1.2.1 i;have p3:=h2.1 i;have p4:=h2.2.1 i;revert q z p1 p2 p3 p4;generalize f.N[i]! =y0;generalize f.O[i]! =y1;generalize g.N[i]! =y2;generalize g.O[i]! =y3;generalize a[i]! =y4;generalize b[i]! =y5;revert y0 y1 y2 y3 y4 y5;decide
    ·rw[cP ha (),cP hb ()]
   rw[dqT this];exact aJl
  ·rw[if_neg c2];exact aJG _
 ·rw[if_pos c1];have:a≠b:=by
   rintro rfl;apply c1;rw[kP];intro i;rw[xAo,yAh,yAh];have p1:=h1.1 i;have p2:=h1.2.1 i;have p3:=h2.1 i;have p4:=h2.2.1 i;revert p1 p2 p3 p4;generalize f.N[i]! =y0;generalize f.O[i]! =y1;generalize g.N[i]! =y2;generalize g.O[i]! =y3;generalize a[i]! =y4;revert y0 y1 y2 y3 y4;decide
  rw[dqF this];exact aI0
def tw(a w:Nat):Int:=kD a w+((2^(w-1):Nat):Int)
def aXr(hw:1<=w):(2:Nat)^w=2^(w-1)+2^(w-1):=by have:(2:Nat)^(w-1+1)=2^(w-1)*2:=yEv ..;rw[show w-1+1=w by omega] at this;omega
def aD4(ha:a<2^w)(hw:1<=w):((a^^^2^(w-1):Nat):Int)=tw a w:=by
 have h2:=aXr hw;unfold tw kD;by_cases c:2^(w-1)<=a
 ·rw[if_pos c,aDr c (by rw[show w-1+1=w by omega];exact ha)];omega
 ·rw[if_neg c,aA9 ()];omega
def aIZ(hw:1<=w)(h:Hd f a w)(i:Nat):((tt f w).N[i]! =true->(a^^^2^(w-1))[i]! =false)/\((tt f w).O[i]! =true->(a^^^2^(w-1))[i]! =true):=by
 have h1:=h.1 i;have h2:=h.2.1 i;show((f.N^^^((f.N^^^f.O)&&&dD 1 w))[i]! =true->_)/\((f.O^^^((f.N^^^f.O)&&&dD 1 w))[i]! =true->_);simp only[yAl,yAh,aHQ hw,yCj];have key:∀ b n o x:Bool,(n=true->x=false)->(o=true->x=true)->((n ^^ ((n ^^ o)&&b))=true->(x ^^ b)=false)/\((o ^^ ((n ^^ o)&&b))=true->(x ^^ b)=true):=by decide
 exact key _ _ _ _ h1 h2
def aLU(kf:FtOk f w)(hd:f.N&&&f.O=0)(hw:1<=w)(ha:a<2^w)(h:Hd f a w):(((tt f w).O:Nat):Int)<=tw a w/\tw a w<=((2^w-1-(tt f w).N:Nat):Int):=by have hp:2^(w-1)<2^w:=yCo (·) ();have lN:(tt f w).N<2^w:=yCe kf.lN (xAi yFj (aEe 1 w));rw[<- aD4 ha hw];exact⟨Int.ofNat_le.mpr (aDI λ i=>(aIZ hw h i).2),Int.ofNat_le.mpr (aKc lN (yCe ha hp) λ i=>(aIZ hw h i).1)⟩
def aOu(kf:FtOk f w)(kg:FtOk g w)(fd:f.N&&&f.O=0)(gd:g.N&&&g.O=0)(hw:1<=w)(ha:a<2^w)(hb:b<2^w)(h1:Hd f a w)(h2:Hd g b w):Hd (l3 ((tt f w).O:Nat) ((2^w-1-(tt f w).N:Nat):Int) ((tt g w).O:Nat) ((2^w-1-(tt g w).N:Nat):Int)) (decide (kD a w<kD b w)).toNat 1:=by
 have i1:=aLU kf fd hw ha h1;have i2:=aLU kg gd hw hb h2;have e:decide (kD a w<kD b w)=decide (tw a w<tw b w):=by
  rw[decide_eq_decide];unfold tw;omega
 rw[e];exact aJx i1.1 i1.2 i2.1 i2.2
def aOT(ht:Hd t c 1)(hc:c<2)(h1:Hd f a w)(h2:Hd g b w):Hd (qH t f g) (if c=1 then a else b) w:=by
 unfold qH;by_cases c1:t.O=1
 ·have:c=1:=by
   have:=ht.2.1 0 (by rw[c1];rfl);rcases (show c=0\/c=1 by omega) with rfl|rfl
   ·cases this
   ·rfl
  rw[if_pos c1,if_pos this];exact h1
 ·rw[if_neg c1];by_cases c2:t.N=1
  ·have:c=0:=by
    have:=ht.1 0 (by rw[c2];rfl);rcases (show c=0\/c=1 by omega) with rfl|rfl
    ·rfl
    ·cases this
   rw[if_pos c2,if_neg ()];exact h2
  ·rw[if_neg c2];have go:∀ {z:Nat}{h:Ft},Hd h z w->(∀ i,(f.N&&&g.N)[i]! =true->h.N[i]! =true)->(∀ i,(f.O&&&g.O)[i]! =true->h.O[i]! =true)->min f.A g.A<=h.A->Hd ⟨f.N&&&g.N,f.O&&&g.O,min f.A g.A⟩ z w:=λ {z h} q q1 q2 q3=>
    ⟨λ i hi=>q.1 i (q1 i hi),λ i hi=>q.2.1 i (q2 i hi),tG q3 q.2.2⟩
   have an:∀ {x y:Nat} i,(x&&&y)[i]! =true->x[i]! =true/\y[i]! =true:=λ i hi=>by
    rw[yAh,yAp] at hi;exact hi
   split
   ·exact go h1 (λ i hi=>(an i hi).1) (λ i hi=>(an i hi).1) ()
   ·exact go h2 (λ i hi=>(an i hi).2) (λ i hi=>(an i hi).2) ()
def aLa(a b:D):aN (.tuple [a,b]) (.int 0)=qq a:=rfl
def aXU(a b:D):aN (.tuple [a,b]) (.int 1)=qq b:=rfl
def aRR(a:Wd):aS .In (.str a.s) (.tuple [.str "add",.str "sub",.str "mul"])=qq (.bool (decide (a=.add\/a=.sub\/a=.mul))):=by cases a<;>rfl
def aXR(a:Wd):aS .In (.str a.s) (.tuple [.str "and",.str "or",.str "xor"])=qq (.bool (decide (a=.and\/a=.or\/a=.xor))):=by cases a<;>rfl
def aLv(a:Wd):aS .In (.str a.s) (.tuple [.str "wide",.str "sign"])=qq (.bool (decide (a=.wide\/a=.sign))):=by cases a<;>rfl
def fB{j:Int}(h:env[i]?=qq (qq (.d R)))(e:aN R (.int j)=qq x):ev C (.ix (.var i) (.int j)) env S=qq (.d x,S):=by erw[0,h,e]
noncomputable abbrev oe(R Wi Fs:D)(wd:Wd)(v:Int):bI:=[qq (.d R),qq (.d Wi),qq (.d Fs),qq (.d (.str wd.s)),(v:)]
section
variable (C:Calls)(R Wi Fs:D)(v:Int)(S:aE)(wd:Wd)
theorem nX:tv C (.cmp .Eq (.var 3) (.str "in")) (oe R Wi Fs wd v) S=qq (decide (wd=.in),S):=cF rfl (bN wd .in)
theorem gG:tv C (.cmp .Eq (.var 3) (.str "num")) (oe R Wi Fs wd v) S=qq (decide (wd=.num),S):=cF rfl (bN wd .num)
theorem iH:tv C (.cmp .Eq (.var 3) (.str "not")) (oe R Wi Fs wd v) S=qq (decide (wd=.not),S):=cF rfl (bN wd .not)
theorem xG:tv C (.cmp .Eq (.var 3) (.str "pick")) (oe R Wi Fs wd v) S=qq (decide (wd=.pick),S):=cF rfl (bN wd .pick)
theorem tS:tv C (.cmp .In (.var 3) (.con "SUMS" aEn)) (oe R Wi Fs wd v) S=qq (decide (wd=.add\/wd=.sub\/wd=.mul),S):=fF rfl rfl (aRR wd)
theorem jP:tv C (.cmp .In (.var 3) (.con "SHIFTS" kQ)) (oe R Wi Fs wd v) S=qq (decide (wd=.left\/wd=.right\/wd=.slide),S):=fF rfl rfl (oV wd)
theorem rH:tv C (.cmp .In (.var 3) (.con "COMPARES" nB)) (oe R Wi Fs wd v) S=qq (decide (wd=.same\/wd=.less\/wd=.under),S):=fF rfl rfl (pE wd)
theorem aMy:tv C (.cmp .In (.var 3) (.tup (.cons (.str "and") (.cons (.str "or") (.cons (.str "xor") .nil))))) (oe R Wi Fs wd v) S=qq (decide (wd=.and\/wd=.or\/wd=.xor),S):=fF rfl rfl (aXR wd)
end
def aVx{wd:Wd}(h:wd=.cut\/wd=.wide\/wd=.sign):¬ wd=.in/\¬ wd=.num/\¬ wd=.not/\¬ (wd=.add\/wd=.sub\/wd=.mul)/\¬ (wd=.left\/wd=.right\/wd=.slide)/\¬ (wd=.same\/wd=.less\/wd=.under)/\¬ wd=.pick/\¬ (wd=.and\/wd=.or\/wd=.xor):=by erw[50,h]<;>decide
def aXn{wd:Wd}(h:wd=.and\/wd=.or\/wd=.xor):¬ wd=.in/\¬ wd=.num/\¬ wd=.not/\¬ (wd=.add\/wd=.sub\/wd=.mul)/\¬ (wd=.left\/wd=.right\/wd=.slide)/\¬ (wd=.same\/wd=.less\/wd=.under)/\¬ wd=.pick:=by erw[50,h]<;>decide
def aW6{wd:Wd}(h:wd=.left\/wd=.right\/wd=.slide):¬ wd=.in/\¬ wd=.num/\¬ wd=.not/\¬ (wd=.add\/wd=.sub\/wd=.mul):=by erw[50,h]<;>decide
section
variable (d:Nat)(R Wi Fs:D)(v:Int)(S:aE)
theorem aPV(f:Ft)(e0:aN R (.int 0)=qq (.str "not"))(e1:aN R (.int 1)=qq (.int v))(ef:aN Fs (.int 0)=qq f.d):cl fns (d+1) 46 [.d R,.d Wi,.d Fs] S=qq (.d (Ft.mk f.O f.N f.A).d,S):=by have t1:=nX (aC fns d) R Wi Fs v S .not;have t2:=gG (aC fns d) R Wi Fs v S .not;have t3:=iH (aC fns d) R Wi Fs v S .not;refine bX (S1:=S) rfl d rfl rfl yAe (cC (S1:=S) (w:=.d (.str Wd.not.s)) (fB rfl e0) rfl (cC (S1:=S) (w:=.d (.int v)) (fB rfl e1) rfl (aJ t1 (aJ t2 (bP t3 (bC ?_))))));erw[0,ef,fP,fO,lA]
theorem aGF(wd:Wd)(aG:wd=.left\/wd=.right\/wd=.slide)(f:Ft)(k:Nat)(g:D)(e0:aN R (.int 0)=qq (.str wd.s))(e1:aN R (.int 1)=qq (.int v))(e3:aN R (.int 3)=qq (.int k))(ef:aN Fs (.int 0)=qq f.d)(hk:cl fns d 39 [.d (.str wd.s),.d (.int v),.d f.d,.d (.int k)] S=qq (.d g,S)):cl fns (d+1) 46 [.d R,.d Wi,.d Fs] S=qq (.d g,S):=by have t1:=nX (aC fns d) R Wi Fs v S wd;have t2:=gG (aC fns d) R Wi Fs v S wd;have t3:=iH (aC fns d) R Wi Fs v S wd;have t4:=tS (aC fns d) R Wi Fs v S wd;have t5:=jP (aC fns d) R Wi Fs v S wd;rw[dqT aG] at t5;let(n1,n2,n3,n4):=aW6 aG;rw[dqF n1] at t1;rw[dqF n2] at t2;rw[dqF n3] at t3;rw[dqF n4] at t4;refine bX (S1:=S) rfl d rfl rfl yAe (cC (S1:=S) (w:=.d (.str wd.s)) (fB rfl e0) rfl (cC (S1:=S) (w:=.d (.int v)) (fB rfl e1) rfl (aJ t1 (aJ t2 (aJ t3 (aJ t4 (bP t5 (bC ?_))))))));erw[0,ef,e3,hk]
theorem aIL(wd:Wd)(aG:wd=.and\/wd=.or\/wd=.xor)(f g:Ft)(e0:aN R (.int 0)=qq (.str wd.s))(e1:aN R (.int 1)=qq (.int v))(ef:aN Fs (.int 0)=qq f.d)(eg:aN Fs (.int 1)=qq g.d):cl fns (d+3) 46 [.d R,.d Wi,.d Fs] S=qq (.d (uY wd f g).d,S):=by have t1:=nX (d<$>2) R Wi Fs v S wd;have t2:=gG (d<$>2) R Wi Fs v S wd;have t3:=iH (d<$>2) R Wi Fs v S wd;have t4:=tS (d<$>2) R Wi Fs v S wd;have t5:=jP (d<$>2) R Wi Fs v S wd;have t6:=rH (d<$>2) R Wi Fs v S wd;have t7:=xG (d<$>2) R Wi Fs v S wd;have t8:=aMy (d<$>2) R Wi Fs v S wd;rw[dqT aG] at t8;let(n1,n2,n3,n4,n5,n6,n7):=aXn aG;rw[dqF n1] at t1;rw[dqF n2] at t2;rw[dqF n3] at t3;rw[dqF n4] at t4;rw[dqF n5] at t5;rw[dqF n6] at t6;rw[dqF n7] at t7;refine bX (S1:=S) rfl (d+2) rfl rfl yAe (cC (S1:=S) (w:=.d (.str wd.s)) (fB rfl e0) rfl (cC (S1:=S) (w:=.d (.int v)) (fB rfl e1) rfl (aJ t1 (aJ t2 (aJ t3 (aJ t4 (aJ t5 (aJ t6 (aJ t7 (bP t8 (bC ?_)))))))))));erw[0,ef,eg,aOg d wd aG f g]
theorem aAT(wd:Wd)(aG:wd=.cut\/wd=.wide\/wd=.sign)(f:Ft)(w:Int)(g:D)(e0:aN R (.int 0)=qq (.str wd.s))(e1:aN R (.int 1)=qq (.int v))(ew:aN Wi (.int 0)=qq (.int w))(ef:aN Fs (.int 0)=qq f.d)(hk:cl fns d 40 [.d (.str wd.s),.d (.int w),.d (.int v),.d f.d] S=qq (.d g,S)):cl fns (d+1) 46 [.d R,.d Wi,.d Fs] S=qq (.d g,S):=by have t1:=nX (aC fns d) R Wi Fs v S wd;have t2:=gG (aC fns d) R Wi Fs v S wd;have t3:=iH (aC fns d) R Wi Fs v S wd;have t4:=tS (aC fns d) R Wi Fs v S wd;have t5:=jP (aC fns d) R Wi Fs v S wd;have t6:=rH (aC fns d) R Wi Fs v S wd;have t7:=xG (aC fns d) R Wi Fs v S wd;have t8:=aMy (aC fns d) R Wi Fs v S wd;let(n1,n2,n3,n4,n5,n6,n7,n8):=aVx aG;rw[dqF n1] at t1;rw[dqF n2] at t2;rw[dqF n3] at t3;rw[dqF n4] at t4;rw[dqF n5] at t5;rw[dqF n6] at t6;rw[dqF n7] at t7;rw[dqF n8] at t8;refine bX (S1:=S) rfl d rfl rfl yAe (cC (S1:=S) (w:=.d (.str wd.s)) (fB rfl e0) rfl (cC (S1:=S) (w:=.d (.int v)) (fB rfl e1) rfl (aJ t1 (aJ t2 (aJ t3 (aJ t4 (aJ t5 (aJ t6 (aJ t7 (aJ t8 (bC ?_)))))))))));erw[0,ew,ef,hk]
theorem aA5(n:Nat)(g:Ft)(e1:aN R (.int 1)=qq (.int n))(ho:cl fns (d+3) 46 [.d R,.d Wi,.d Fs] S=qq (.d g.d,S))(hg:FtOk g n)(hn:n<=64):cl fns (d+4) 47 [.d R,.d Wi,.d Fs] S=qq (.d (fM g n).d,S):=by rw[bE rfl (d+3) _ S rfl];erw[11,aLQ,ho,e1,aOW d g n hg hn]
end
def shN(wd:Wd)(w:Nat)(f:Ft)(k:Nat):Ft:=match wd with|.left=>tZ w f k|.right=>mD w f k|_=>xD w f k
def aAV(d:Nat)(wd:Wd)(aG:wd=.left\/wd=.right\/wd=.slide)(w:Nat)(f:Ft)(k:Nat)(hf:FtOk f w)(bZ:1<=w)(hw:w<=64)(hk:k<=900)(S:aE):cl fns (d+4) 39 [.d (.str wd.s),.d (.int w),.d f.d,.d (.int k)] S=qq (.d (shN wd w f k).d,S):=by
 have t1:=@cF [qq (.d (.str wd.s)),(w:),qq (.d f.d),(k:)] 0 _ "left" _ S (d<$>3) rfl (bN wd .left);have t2:=@cF [qq (.d (.str wd.s)),(w:),qq (.d f.d),(k:)] 0 _ "right" _ S (d<$>3) rfl (bN wd .right);erw[50,aG]
 ·refine bX (S1:=S) rfl (d+3) rfl rfl yAe (bP t1 (bC ?_));have hq43:=aRx (d+1) w f k hf hw ();erw[0,hq43]
 ·refine bX (S1:=S) rfl (d+3) rfl rfl yAe (aJ t1 (bP t2 (bC ?_)));erw[0,aQk d w f k hw]
 ·refine bX (S1:=S) rfl (d+3) rfl rfl yAe (aJ t1 (aJ t2 (bC ?_)));erw[0,aPG d w f k bZ hw hk]
def wD(d:Nat)(f:Ft)(S:aE):cl fns (d+1) 22 [.d f.d] S=qq (.d (.int ((f.N|||f.O:Nat):Int)),S):=by rw[bE rfl d _ S rfl];erw[11,aGv,fP,fO,eQ]
def kN(n:Nat):(((n:Nat):Int)==1)=(n==1):=by rw[yEa,beq_iff_eq,beq_iff_eq];omega
def aIQ(d w:Nat)(f g:Ft)(hf:f.N<2^w)(hg:g.N<2^w)(hw:w<=64)(S:aE):cl fns (d+3) 42 [.d (.int w),.d f.d,.d g.d] S=qq (.d (l3 (f.O:Nat) ((2^w-1-f.N:Nat):Int) (g.O:Nat) ((2^w-1-g.N:Nat):Int)).d,S):=by
 have g1:=aAk d f w hf hw S;have g2:=aAk d g w hg hw S;have l1:=wK (d+1) f S;have l2:=wK (d+1) g S;rw[bE rfl (d+2) _ S rfl];unfold l3;by_cases c1:((2^w-1-f.N:Nat):Int)<((g.O:Nat):Int)
 ·rw[if_pos c1];erw[11,aAq,g1,l2,dM,dqT c1,xV,Tv.d]
 ·rw[if_neg c1];by_cases c2:((2^w-1-g.N:Nat):Int)<=((f.O:Nat):Int)
  ·rw[if_pos c2];erw[11,aAq,g1,l2,dM,dqF c1,l1,g2,xN,dqT c2,wH,Tv.d]
  ·rw[if_neg c2];erw[11,aAq,g1,l2,dM,dqF c1,l1,g2,xN,dqF c2,sZ,Tv.d]
def aAC(d w:Nat)(f:Ft)(bZ:1<=w)(hw:w<=64)(S:aE):cl fns (d+3) 43 [.d f.d,.d (.int w)] S=qq (.d (tt f w).d,S):=by have t:cl fns (d+2) 21 [.d (.int 1),.d (.int w)] S=qq (.d (.int ((dD 1 w:Nat):Int)),S):=qT d 1 w S bZ hw;rw[bE rfl (d+2) _ S rfl];erw[11,aGu,Ft.d,t,jC,dC]
def aSM(d w:Nat)(f g:Ft)(hw:w<=64)(S:aE):cl fns (d+3) 41 [.d (.int w),.d f.d,.d g.d] S=qq (.d (oO w f g).d,S):=by
 rw[bE rfl (d+2) _ S rfl];unfold oO;by_cases c1:f.N&&&g.O|||f.O&&&g.N=0
 ·have d1:(f.N&&&g.O|||f.O&&&g.N==0)=true:=by rw[beq_iff_eq];exact c1
  rw[if_neg (by simp[c1])];by_cases c2:(f.N|||f.O)&&&(g.N|||g.O)=2^w-1
  ·have d2:((f.N|||f.O)&&&(g.N|||g.O)==2^w-1)=true:=by rw[beq_iff_eq];exact c2
   rw[if_pos c2];have hq44:=cT (d+1) w ();erw[11,aAv,aAJ (d+1),kT,dF,d1,wD (d+1),dC,hq44,aZ,wS,d2,xV,Tv.d]
  ·have d2:((f.N|||f.O)&&&(g.N|||g.O)==2^w-1)=false:=by rw[beq_eq_false_iff_ne];exact c2
   rw[if_neg c2];have hq45:=cT (d+1) w ();erw[11,aAv,aAJ (d+1),kT,dF,d1,wD (d+1),dC,hq45,aZ,wS,d2,sZ,Tv.d]
 ·have d1:(f.N&&&g.O|||f.O&&&g.N==0)=false:=by rw[beq_eq_false_iff_ne];exact c1
  rw[if_pos c1];erw[11,aAv,aAJ (d+1),kT,dF,d1,wH,Tv.d]
def aRr(d:Nat)(t f g:Ft)(S:aE):cl fns (d+1) 45 [.d t.d,.d f.d,.d g.d] S=qq (.d (qH t f g).d,S):=by
 rw[bE rfl d _ S rfl];unfold qH;by_cases c1:t.O=1
 ·have d1:(t.O==1)=true:=by rw[beq_iff_eq];exact c1
  rw[if_pos c1];erw[11,aAo,fO,aZ,kN,d1]
 ·have d1:(t.O==1)=false:=by rw[beq_eq_false_iff_ne];exact c1
  rw[if_neg c1];by_cases c2:t.N=1
  ·have d2:(t.N==1)=true:=by rw[beq_iff_eq];exact c2
   rw[if_pos c2];erw[11,aAo,fO,fP,aZ,kN,d1,d2]
  ·have d2:(t.N==1)=false:=by rw[beq_eq_false_iff_ne];exact c2
   rw[if_neg c2];erw[11,aAo,fO,fP,lA,aZ,kN,d1,d2,dC,lM]
def qK(wd:Wd)(w:Nat)(f g:Ft):Ft:=match wd with|.same=>oO w f g|.less=>l3 (f.O:Nat) ((2^w-1-f.N:Nat):Int) (g.O:Nat) ((2^w-1-g.N:Nat):Int)|_=>l3 ((tt f w).O:Nat) ((2^w-1-(tt f w).N:Nat):Int) ((tt g w).O:Nat) ((2^w-1-(tt g w).N:Nat):Int)
def aXF(wd:Wd)(w:Nat)(f g:Ft):qK wd w f g=F1\/qK wd w f g=F0\/qK wd w f g=kJ:=by
 unfold qK;split
 ·exact aX1 ..
 ·exact aL8 ..
 ·exact aL8 ..
structure Ftd(f:Ft)(w:Nat):Prop where
 ok:FtOk f w
 dj:f.N&&&f.O=0
def aOe(d:Nat)(wd:Wd)(aG:wd=.same\/wd=.less\/wd=.under)(w:Nat)(f g:Ft)(hf:Ftd f w)(hg:Ftd g w)(bZ:1<=w)(hw:w<=64)(S:aE):cl fns (d+4) 44 [.d (.str wd.s),.d (.int w),.d f.d,.d g.d] S=qq (.d (qK wd w f g).d,S):=by
 have t1:=@cF [qq (.d (.str wd.s)),(w:),qq (.d f.d),qq (.d g.d)] 0 _ "same" _ S (d<$>3) rfl (bN wd .same);have t2:=@cF [qq (.d (.str wd.s)),(w:),qq (.d f.d),qq (.d g.d)] 0 _ "less" _ S (d<$>3) rfl (bN wd .less);erw[50,aG]
 ·refine bX (S1:=S) rfl (d+3) rfl rfl yAe (bP t1 (bC ?_));erw[0,aSM d w f g hw]
 ·refine bX (S1:=S) rfl (d+3) rfl rfl yAe (aJ t1 (bP t2 (bC ?_)));erw[0,aIQ d w f g hf.ok.lN hg.ok.lN hw]
 ·refine bX (S1:=S) rfl (d+3) rfl rfl yAe (aJ t1 (aJ t2 (bC ?_)));erw[0,aAC d w f bZ hw,aAC d w g bZ hw,aIQ d w (tt f w) (tt g w) (aLj hf.ok hf.dj bZ) (aLj hg.ok hg.dj bZ) hw]
def Sw.wd:Sw->Wd
 |.add=>.add|.sub=>.sub|.mul=>.mul
def aAf(x:Int)(L:Nat):cB .BitAnd (.int x) (.int ((2^L-1:Nat):Int))=qq (.int ((rs x L:Nat):Int)):=by
 have hp:=xAe L;by_cases c:0<=x
 ·obtain⟨n,rfl⟩:∃ n:Nat,x=(n:Nat):=⟨x.toNat,by omega⟩;rw[dC,xJ,yBj]
 ·have h1:decide ((0:Int)<=x)=false:=dqF c;have h2:decide ((0:Int)<=((2^L-1:Nat):Int))=true:=dqT ();obtain⟨b,hb⟩:∃ b:Nat,yBt x=(b:Nat):=⟨(yBt x).toNat,by unfold yBt;omega⟩;have hx:x = -((b:Nat):Int)-1:=by unfold yBt at hb;omega
  have e:(2^L-1)&&&b=b%2^L:=by rw[Nat.and_comm,yBj]
  have hm:=Nat.mod_lt b hp;have hr:=pG x L;have e2:x%((2^L:Nat):Int)=((2^L:Nat):Int)-1-((b%2^L:Nat):Int):=by
   have hd:(b:Int)=((2^L:Nat):Int)*((b/2^L:Nat):Int)+((b%2^L:Nat):Int):=by
    rw[<- yBz,<- Int.natCast_add,yCm]
   have hx2:x=(((2^L:Nat):Int)-1-((b%2^L:Nat):Int))+((2^L:Nat):Int)*(-((b/2^L:Nat):Int)-1):=by
    rw[hx,hd,Int.mul_sub,Int.mul_neg,Int.mul_one];omega
   rw[hx2,Int.add_mul_emod_self_left,Int.emod_eq_of_lt () ()]
  simp only[cB,lZ];unfold yEq;rw[h1,h2];simp only[hb,yAu,e];congr 2;omega
def aCV(d:Nat)(s:Sw)(x y:Nat)(hx:x<2^64)(S:aE):cl fns (d+1) 26 [.d (.str s.wd.s),.d (.int x),.d (.int y)] S=qq (.d (.int (s.oc (x:Nat) (y:Nat))),S):=by
 have t1:=@cF [qq (.d (.str s.wd.s)),(x:),(y:)] 0 _ "add" _ S (aC fns d) rfl (bN s.wd .add);have t2:=@cF [qq (.d (.str s.wd.s)),(x:),(y:)] 0 _ "sub" _ S (aC fns d) rfl (bN s.wd .sub);cases s with
 |add=>
   refine bX (S1:=S) rfl d rfl rfl yAe (bP t1 (bC ?_));erw[0,dS]
 |sub=>
   refine bX (S1:=S) rfl d rfl rfl yAe (aJ t1 (bP t2 (bC ?_)));erw[0,cO]
 |mul=>
   refine bX (S1:=S) rfl d rfl rfl yAe (aJ t1 (aJ t2 (bC ?_)));have hq46:=@lS (x:Int) (y:Int) () ();erw[0,hq46]
def p64(h:n<2^w)(hw:w<=64):n<2^64:=xAb h (yAo (·) hw)
def aRN(d:Nat)(s:Sw)(w:Nat)(f g:Ft)(hf:FtOk f w)(hw:w<=64)(S:aE):cl fns (d+3) 27 [.d (.str s.wd.s),.d f.d,.d g.d] S=qq (.d (.tuple [.int ((sC s f g:Nat):Int),.int ((kZ s f g:Nat):Int)]),S):=by have hL:=aDG (g:=g) hf;have e1:=aEb d ((f.N|||f.O)&&&(g.N|||g.O)) S;have e2:=cT (d+1) (gO f g) (show gO f g<=100000 by omega) S;rw[bE rfl (d+2) _ S rfl];erw[20,gL,aGP,wD (d+1),dC];rw[e1];erw[20,show lr ((f.N|||f.O)&&&(g.N|||g.O))=gO f g from rfl];rw[e2];erw[0,wK (d+1),aCV (d+1) s f.O g.O (p64 hf.lO hw),aAf,jC]
def aOL(d:Nat)(s:Sw)(w:Nat)(f g:Ft)(hf:FtOk f w)(hg:FtOk g w)(hw:w<=64)(S:aE):cl fns (d+3) 29 [.d (.str s.wd.s),.d (.int w),.d f.d,.d g.d] S=qq (.d (.tuple [.int (gQ s w f g),.int (gT s w f g)]),S):=by
 have g1:=aAk d f w hf.lN hw S;have g2:=aAk d g w hg.lN hw S;have l1:=wK (d+1) f S;have l2:=wK (d+1) g S;have hp:=xAe w;have o1:=aCV (d+1) s f.O g.O (p64 hf.lO hw) S;have o2:=aCV (d+1) s (2^w-1-f.N) (2^w-1-g.N) (@p64 _ w () hw) S;have t1:aS .Eq (.str s.wd.s) (.str "sub")=qq (.bool (decide (s.wd=.sub))):=bN s.wd .sub;rw[bE rfl (d+2) _ S rfl];cases s with
 |sub=>
   have t:aS .Eq (.str Sw.sub.wd.s) (.str "sub")=qq (.bool true):=t1;erw[11,aAZ,t,g1,g2,l1,l2,cO]
 |add=>
   have t:aS .Eq (.str Sw.add.wd.s) (.str "sub")=qq (.bool false):=t1;erw[11,aAZ,t,g1,g2,l1,l2,o1,o2]
 |mul=>
   have t:aS .Eq (.str Sw.mul.wd.s) (.str "sub")=qq (.bool false):=t1;erw[11,aAZ,t,g1,g2,l1,l2,o1,o2]
def aPh(d l g w:Nat)(S:aE)(hl:l<2^w)(hg:g<2^w)(hw:w<=64):cl fns (d+3) 6 [.d (.int l),.d (.int g),.d (.int w)] S=qq (.d (.tuple [.int (wI l g w:Nat),.int (pM l g w:Nat)]),S):=by have hx:l^^^g<2^10000:=aKD (yCe hl hg) ();rw[bE rfl (d+2) _ S rfl];have hq47:=cT (d+1) w ();erw[11,aGm,hq47,jC,aAU d (l^^^g) _ hx,dC]
def aLh(s:Sw)(w:Nat)(f g:Ft)(hf:FtOk f w)(hg:FtOk g w)(ha:a<2^w)(hb:b<2^w)(h1:Hd f a w)(h2:Hd g b w):gQ s w f g<=gT s w f g:=by have:=aL0 s hf hg ha hb h1 h2;omega
def aSk(d:Nat)(s:Sw)(w:Nat)(f g:Ft)(hf:FtOk f w)(hg:FtOk g w)(hb:gQ s w f g<=gT s w f g)(hw:w<=64)(S:aE):cl fns (d+4) 30 [.d (.str s.wd.s),.d (.int w),.d f.d,.d g.d] S=qq (.d (.tuple [.int ((qG s w f g:Nat):Int),.int ((sN s w f g:Nat):Int)]),S):=by
 have b1:=aOL d s w f g hf hg hw S;have hp:=xAe w;rw[bE rfl (d+3) _ S rfl];unfold qG sN;by_cases c1:gQ s w f g<0
 ·rw[if_pos (.inl c1),if_pos (.inl c1)];erw[11,aAw,b1,dM,dqT c1]
 ·by_cases c2:((2^w-1:Nat):Int)<gT s w f g
  ·rw[if_pos (.inr c2),if_pos (.inr c2)];have hq48:=cT (d+2) w ();erw[11,aAw,b1,dM,dqF c1,hq48,kR,dqT c2]
  ·have c:¬ (gQ s w f g<0\/gT s w f g>((2^w-1:Nat):Int)):=λ h=>h.elim c1 c2
   rw[if_neg c,if_neg c];obtain⟨l,hl⟩:∃ l:Nat,gQ s w f g=(l:Nat):=⟨(gQ s w f g).toNat,by omega⟩;obtain⟨u,hu⟩:∃ u:Nat,gT s w f g=(u:Nat):=⟨(gT s w f g).toNat,by omega⟩;rw[hl] at c1;rw[hu] at c2;rw[hl,hu] at b1 hb;rw[hl,hu,yAu,yAu];have hq49:=cT (d+2) w ();have hq50:=aPh d l u w S () () hw;erw[11,aAw,b1,dM,dqF c1,hq49,kR,dqF c2,hq50]
def aSx(d:Nat)(s:Sw)(w:Nat)(f g:Ft)(hw:w<=64)(S:aE):cl fns (d+3) 28 [.d (.str s.wd.s),.d (.int w),.d f.d,.d g.d] S=qq (.d (.int ((sO s w f g:Nat):Int)),S):=by
 rw[bE rfl (d+2) _ S rfl];cases s with
 |add=>
   have t:aS .NotEq (.str Sw.add.wd.s) (.str "mul")=qq (.bool true):=by kernel_rfl
   erw[11,aAi,t]
 |sub=>
   have t:aS .NotEq (.str Sw.sub.wd.s) (.str "mul")=qq (.bool true):=by kernel_rfl
   erw[11,aAi,t]
 |mul=>
   have t:aS .NotEq (.str Sw.mul.wd.s) (.str "mul")=qq (.bool false):=by kernel_rfl
   have e:((lr f.N:Nat):Int)+((lr g.N:Nat):Int)=((lr f.N+lr g.N:Nat):Int):=();have hq51:=cT (d+1) (min w (lr f.N+lr g.N)) ();erw[11,aAi,t,fP,aEb d,dS,e,lM,hq51]
def aOP(d:Nat)(s:Sw)(f g:Ft)(S:aE):cl fns (d+1) 31 [.d (.str s.wd.s),.d f.d,.d g.d] S=qq (.d (.int ((lI s f g:Nat):Int)),S):=by
 have e:∀ m:Nat,nY [.int 1,.int (((m:Nat):Int)-1)]=qq (.int ((max 1 (m-1):Nat):Int)):=λ m=>aDm m 1
 rw[bE rfl d _ S rfl];cases s with
 |add=>
   have t:aS .Eq (.str Sw.add.wd.s) (.str "mul")=qq (.bool false):=bN .add .mul;erw[11,aAr,t,lA,lM,cO,e]
 |sub=>
   have t:aS .Eq (.str Sw.sub.wd.s) (.str "mul")=qq (.bool false):=bN .sub .mul;erw[11,aAr,t,lA,lM,cO,e]
 |mul=>
   have t:aS .Eq (.str Sw.mul.wd.s) (.str "mul")=qq (.bool true):=bN .mul .mul;erw[11,aAr,t]
def aUB(d:Nat)(s:Sw)(w:Nat)(f g:Ft)(hf:FtOk f w)(hg:FtOk g w)(hb:gQ s w f g<=gT s w f g)(hw:w<=64)(S:aE):cl fns (d+5) 32 [.d (.str s.wd.s),.d (.int w),.d f.d,.d g.d] S=qq (.d (uQ s w f g).d,S):=by rw[bE rfl (d+4) _ S rfl];erw[11,aHk,aRN (d+1) s w f g hf hw,aSk d s w f g hf hg hb hw,aLa,aXU,eQ,aSx (d+1) s w f g hw,aOP (d+3) s f g]
section
variable (d:Nat)(R Wi Fs:D)(v:Nat)(S:aE)
theorem aHC(s:Sw)(f g:Ft)(e0:aN R (.int 0)=qq (.str s.wd.s))(e1:aN R (.int 1)=qq (.int v))(ef:aN Fs (.int 0)=qq f.d)(eg:aN Fs (.int 1)=qq g.d)(hf:FtOk f v)(hg:FtOk g v)(hb:gQ s v f g<=gT s v f g)(hv:v<=64):cl fns (d+6) 46 [.d R,.d Wi,.d Fs] S=qq (.d (uQ s v f g).d,S):=by
 have aG:s.wd=.add\/s.wd=.sub\/s.wd=.mul:=by
  cases s
  ·exact .inl rfl
  ·exact .inr (.inl rfl)
  ·exact .inr (.inr rfl)
 have t1:=nX (d<$>5) R Wi Fs (v:Nat) S s.wd;have t2:=gG (d<$>5) R Wi Fs (v:Nat) S s.wd;have t3:=iH (d<$>5) R Wi Fs (v:Nat) S s.wd;have t4:=tS (d<$>5) R Wi Fs (v:Nat) S s.wd;rw[dqT aG] at t4;rw[dqF (by rcases aG with h|h|h<;>rw[h]<;>decide)] at t1 t2 t3;refine bX (S1:=S) rfl (d+5) rfl rfl yAe (cC (S1:=S) (w:=.d (.str s.wd.s)) (fB rfl e0) rfl (cC (S1:=S) (w:=.d (.int v)) (fB rfl e1) rfl (aJ t1 (aJ t2 (aJ t3 (bP t4 (bC ?_)))))));erw[0,ef,eg,aUB d s v f g hf hg hb hv]
end
section
variable {f:Ft}{w:Nat}(hf:FtOk f w)(hd:f.N&&&f.O=0)(bZ:1 <= w)
include hf hd bZ
theorem aJh(k:Nat):FtOk (tZ w f k) w:=by have m:=@aI3 w _ k hd;have:=hf.aw;exact⟨m.lN,m.lO,yDq _ _,Nat.max_le.mpr ⟨bZ,xAh (yFa _ _) this⟩⟩
theorem aHy(k:Nat):FtOk (mD w f k) w:=by
 have m:=aIe k hf hd;have h1:=hf.aw;have h2:=hf.a1;refine⟨m.lN,m.lO,?_,?_⟩
 ·show 1<=if k=0 then f.A else 1
  split<;>omega
 ·show(if k=0 then f.A else 1)<=w;split<;>omega
theorem aQH(k:Nat):FtOk (xD w f k) w:=by have m:=aHD k bZ hf hd;have h1:=hf.a1;exact⟨m.lN,m.lO,by show 1<=min w (f.A+k);omega,by show min w (f.A+k)<=w;omega⟩
theorem aTq(hv1:1<=v)(hv:v<=w):FtOk (zE w v f) v:=by have m:=aKx w v hd;have h1:=hf.aw;exact⟨m.lN,m.lO,yDq _ _,by show max 1 (f.A-(w-v))<=v;omega⟩
theorem aIT(hv:w<=v):FtOk (mG w v f) v:=by
 have m:=aI1 hv hf hd;have h1:=hf.aw;have h2:=hf.a1;refine⟨m.lN,m.lO,?_,?_⟩
 ·show 1<=if v=w then f.A else 1
  split<;>omega
 ·show(if v=w then f.A else 1)<=v;split<;>omega
theorem aRm(hv:w<=v):FtOk (yB w v f) v:=by have m:=aIn bZ hv hf hd;have h1:=hf.aw;have h2:=hf.a1;exact⟨m.lN,m.lO,by show 1<=f.A+(v-w);omega,by show f.A+(v-w)<=v;omega⟩
end
def aEF(hb:b=0\/b=1\/b=2)(hf:FtOk f w)(hd:f.N&&&f.O=0)(hg:FtOk g w)(he:g.N&&&g.O=0):FtOk (uZ b f g) w:=by have m:=aLq b hb hf hd hg he;have h1:=hf.a1;have h2:=hg.a1;have h3:=hf.aw;erw[50,hb]<;>exact⟨m.lN,m.lO,by show 1<=min f.A g.A;omega,by show min f.A g.A<=w;omega⟩
section
variable (d:Nat)(R Wi Fs:D)(v:Int)(S:aE)
theorem nc5{wd:Wd}(h:wd=.same\/wd=.less\/wd=.under):wd≠.in/\wd≠.num/\wd≠.not/\(¬ (wd=.add\/wd=.sub\/wd=.mul))/\¬ (wd=.left\/wd=.right\/wd=.slide):=by erw[50,h]<;>decide
theorem aPg(wd:Wd)(aG:wd=.same\/wd=.less\/wd=.under)(w:Nat)(f g:Ft)(e0:aN R (.int 0)=qq (.str wd.s))(e1:aN R (.int 1)=qq (.int v))(ew:aN Wi (.int 0)=qq (.int w))(ef:aN Fs (.int 0)=qq f.d)(eg:aN Fs (.int 1)=qq g.d)(hf:Ftd f w)(hg:Ftd g w)(bZ:1<=w)(hw:w<=64):cl fns (d+5) 46 [.d R,.d Wi,.d Fs] S=qq (.d (qK wd w f g).d,S):=by have t1:=nX (d<$>4) R Wi Fs v S wd;have t2:=gG (d<$>4) R Wi Fs v S wd;have t3:=iH (d<$>4) R Wi Fs v S wd;have t4:=tS (d<$>4) R Wi Fs v S wd;have t5:=jP (d<$>4) R Wi Fs v S wd;have t6:=rH (d<$>4) R Wi Fs v S wd;let(n1,n2,n3,n4,n5):=nc5 aG;rw[dqT aG] at t6;rw[dqF n1] at t1;rw[dqF n2] at t2;rw[dqF n3] at t3;rw[dqF n4] at t4;rw[dqF n5] at t5;refine bX (S1:=S) rfl (d+4) rfl rfl yAe (cC (S1:=S) (w:=.d (.str wd.s)) (fB rfl e0) rfl (cC (S1:=S) (w:=.d (.int v)) (fB rfl e1) rfl (aJ t1 (aJ t2 (aJ t3 (aJ t4 (aJ t5 (bP t6 (bC ?_)))))))));erw[0,ew,ef,eg,aOe d wd aG w f g hf hg bZ hw]
theorem aOa(t f g:Ft)(e0:aN R (.int 0)=qq (.str "pick"))(e1:aN R (.int 1)=qq (.int v))(et:aN Fs (.int 0)=qq t.d)(ef:aN Fs (.int 1)=qq f.d)(eg:aN Fs (.int 2)=qq g.d):cl fns (d+2) 46 [.d R,.d Wi,.d Fs] S=qq (.d (qH t f g).d,S):=by have t1:=nX (d<$>1) R Wi Fs v S .pick;have t2:=gG (d<$>1) R Wi Fs v S .pick;have t3:=iH (d<$>1) R Wi Fs v S .pick;have t4:=tS (d<$>1) R Wi Fs v S .pick;have t5:=jP (d<$>1) R Wi Fs v S .pick;have t6:=rH (d<$>1) R Wi Fs v S .pick;have t7:=xG (d<$>1) R Wi Fs v S .pick;refine bX (S1:=S) rfl (d+1) rfl rfl yAe (cC (S1:=S) (w:=.d (.str Wd.pick.s)) (fB rfl e0) rfl (cC (S1:=S) (w:=.d (.int v)) (fB rfl e1) rfl (aJ t1 (aJ t2 (aJ t3 (aJ t4 (aJ t5 (aJ t6 (bP t7 (bC ?_))))))))));erw[0,et,ef,eg,aRr d t f g]
end
structure Op(f:Ft)(w:Nat):Prop where
 ok:FtOk f w
 ho:∃ a,a<2^w/\Hd f a w
 w1:1<=w
 w2:w<=64
def Op.dj(o:Op f w):f.N&&&f.O=0:=by let(a,_,h):=o.ho;exact aZS h
def aM:Wd->Nat
 |.in|.num=>0
 |.not|.left|.right|.slide|.cut|.wide|.sign=>1
 |.pick=>3|_=>2
def aRv(wd:Wd):aB3 vI (.str wd.s)=qq (.int (aM wd:Nat)):=by cases wd<;>kernel_rfl
def iF(r:Rw):aN r.d (.int 0)=qq (.str r.wd.s):=@gE (.str r.wd.s::nD r.w::r.args.map nD) 0 _ rfl
def aRX{fa:FE}{fl fh:FO}(r:Rw)(c:Nat)(h1:fa env S=qq (.d r.d,S))(h2:fl env S=qq (qq 2,S))(h3:fh env S=qq (qq ((2+c:Nat):Int),S)):mS fa fl fh env S=qq (.d (.tuple ((r.args.take c).map nD)),S):=by
 have i2:HT.sIx ↑(yIa r.wd.s::nD r.w::r.args.map nD) 0 (qq 2)=2:=by
  rw[show(2:Int)=((2:Nat):Int) from rfl,HT.sIx_nat];simp
 have e:fA (yIa r.wd.s::nD r.w::r.args.map nD) (qq 2) (qq ((2+c:Nat):Int))=(r.args.take c).map nD:=by
  unfold fA;rw[i2,HT.sIx_nat];simp only[List.drop_succ_cons,yFd,yBg,yAb];rw[List.map_take];rcases yGv c ↑r.args with z|z
  ·rw[yDn (),show 2+c-2=c by omega]
  ·rw[yDr (),yCf (by simp),yCf (by simpa using z)]
 unfold mS;rw[h1,oB];simp only[];rw[h2,oB];simp only[];rw[h3,oB];simp only[dr,oB,Rw.d];rw[e]
def qR(d:Nat)(r:Rw)(S:aE):cl fns (d+1) 7 [.d r.d] S=qq (.d (.tuple ((r.args.take (aM r.wd)).map nD)),S):=by
 have e2:(2:Int)+((aM r.wd:Nat):Int)=((2+aM r.wd:Nat):Int):=();have sl:ev (aC fns d) (.sl (.var 0) (.cons (.int 2) .nil) (.cons (.bin .Add (.int 2) (.tab "OPERAND_COUNTS" vI (.ix (.var 0) (.int 0)))) .nil)) [qq (.d r.d)] S=qq (.d (.tuple ((r.args.take (aM r.wd)).map nD)),S):=by
  simp only[aEN];refine aRX r (aM r.wd) (by erw[20,True]) (by erw[20,nP]) ?_;erw[0,nP,iF,aRv,dS,e2]
 rw[bE rfl d _ S rfl];show((dN (qE (ev (aC fns d) (.sl (.var 0) (.cons (.int 2) .nil) (.cons (.bin .Add (.int 2) (.tab "OPERAND_COUNTS" vI (.ix (.var 0) (.int 0)))) .nil)))) rP) [qq (.d r.d)] S).bind _=_;simp only[dN,qE,sl,oB,lC,yAe]
inductive RwOk:Rw->List Nat->Prop
 |inp {w:Nat} (h1:1<=w) (h2:w<=64):RwOk ⟨.in,w,[]⟩ []
 |num {w n:Nat} (h1:1<=w) (h2:w<=64) (hn:n<2^w):RwOk ⟨.num,w,[n]⟩ []
 |nt {w a:Nat} (h1:1<=w) (h2:w<=64):RwOk ⟨.not,w,[a]⟩ [w]
 |sh {wd:Wd}{w a k:Nat} (h1:1<=w) (h2:w<=64) (aG:wd=.left\/wd=.right\/wd=.slide) (hk:k<64):RwOk ⟨wd,w,[a,k]⟩ [w]
 |cut {w v a:Nat} (h1:1<=w) (hv:w<=v) (h2:v<=64):RwOk ⟨.cut,w,[a]⟩ [v]
 |wide {w v a:Nat} (h1:1<=v) (hv:v<=w) (h2:w<=64):RwOk ⟨.wide,w,[a]⟩ [v]
 |sign {w v a:Nat} (h1:1<=v) (hv:v<=w) (h2:w<=64):RwOk ⟨.sign,w,[a]⟩ [v]
 |bw {wd:Wd}{w a b:Nat} (h1:1<=w) (h2:w<=64) (aG:wd=.and\/wd=.or\/wd=.xor):RwOk ⟨wd,w,[a,b]⟩ [w,w]
 |sm {s:Sw}{w a b:Nat} (h1:1<=w) (h2:w<=64):RwOk ⟨s.wd,w,[a,b]⟩ [w,w]
 |cmp {wd:Wd}{v a b:Nat} (h1:1<=v) (h2:v<=64) (aG:wd=.same\/wd=.less\/wd=.under):RwOk ⟨wd,1,[a,b]⟩ [v,v]
 |pick {w c a b:Nat} (h1:1<=w) (h2:w<=64):RwOk ⟨.pick,w,[c,a,b]⟩ [1,w,w]
def iK:List Nat->List Nat->Prop
 |w::ws,n::ns=>n<2^w/\iK ws ns|[],[]=>True|_,_=>False
def eJ(h:iK [w] ns):∃ a,ns=[a]/\a<2^w:=by
 rcases ns with _|⟨a,_|⟨b,r⟩⟩
 ·exact h.elim
 ·exact⟨a,rfl,h.1⟩
 ·exact h.2.elim
def gP(h:iK [w,v] ns):∃ a b,ns=[a,b]/\a<2^w/\b<2^v:=by
 rcases ns with _|⟨a,_|⟨b,_|⟨c,r⟩⟩⟩
 ·exact h.elim
 ·exact h.2.elim
 ·exact⟨a,b,rfl,h.1,h.2.1⟩
 ·exact h.2.2.elim
def zI(h:iK [w,v,u] ns):∃ a b c,ns=[a,b,c]/\a<2^w/\b<2^v/\c<2^u:=by
 rcases ns with _|⟨a,_|⟨b,_|⟨c,_|⟨e,r⟩⟩⟩⟩
 ·exact h.elim
 ·exact h.2.elim
 ·exact h.2.2.elim
 ·exact⟨a,b,c,rfl,h.1,h.2.1,h.2.2.1⟩
 ·exact h.2.2.2.elim
def shV(wd:Wd)(w a k:Nat):Nat:=match wd with|.left=>a*2^k%2^w|.right=>a/2^k|_=>cW a w (w+k)/2^k
def qI(wd:Wd)(w a b:Nat):Bool:=match wd with|.same=>decide (a=b)|.less=>decide ((a:Int)<(b:Int))|_=>decide (kD a w<kD b w)
def oI(wd:Wd)(w a b:Nat):Nat:=match wd with|.and=>a&&&b|.or=>a|||b|.xor=>a^^^b|.add=>rs ((a:Nat)+(b:Nat):Int) w|.sub=>rs ((a:Nat)-(b:Nat):Int) w|_=>rs ((a:Nat)*(b:Nat):Int) w
def g0(l:List Nat)(i:Nat):Nat:=l.getD i 0
def cD(r:Rw)(ws ns:List Nat):Nat:=match r.wd with
 |.in=>0|.num=>g0 r.args 0|.not=>2^r.w-1-g0 ns 0
 |.left|.right|.slide=>shV r.wd r.w (g0 ns 0) (g0 r.args 1)
 |.cut=>g0 ns 0%2^r.w|.wide=>g0 ns 0|.sign=>cW (g0 ns 0) (g0 ws 0) r.w
 |.same|.less|.under=>(qI r.wd (g0 ws 0) (g0 ns 0) (g0 ns 1)).toNat
 |.pick=>if g0 ns 0=1 then g0 ns 1 else g0 ns 2
 |wd=>oI wd r.w (g0 ns 0) (g0 ns 1)
def aID(hn:n<2^w):n^^^(2^w-1)=2^w-1-n:=by
 apply xAl;intro i;rw[yAl,cV];have:=pC hn i;unfold qM at this;rw[this];by_cases c:i<w
 ·rw[dqT c,yAk];cases n[i]!<;>rfl
 ·rw[dqF c,cP hn ()];rfl
def aG8(d a w:Nat)(bZ:1<=w)(hw:w<=64)(S:aE):cl fns (d+1) 65 [.d (.int a),.d (.int w)] S=qq (.d (.int ((a^^^2^(w-1):Nat):Int)),S):=by have e1:(w:Int)-1=((w-1:Nat):Int):=();rw[bE rfl d _ S rfl];have hq52:=gB (show w-1<=100000 by omega);erw[11,aIP,cO,e1,hq52,jC]
def aDu(h:env[i]?=qq (qq (.d (.bool b)))):ev C (.ite (.var i) (.int 1) (.int 0)) env S=qq (.d (.int ((b.toNat:Nat):Int)),S):=by
 cases b
 ·erw[0,h]
 ·erw[0,h]
def aN3(d:Nat)(wd:Wd)(aG:wd=.same\/wd=.less\/wd=.under)(w a b:Nat)(bZ:1<=w)(hw:w<=64)(ha:a<2^w)(hb:b<2^w)(S:aE):cl fns (d+2) 66 [.d (.str wd.s),.d (.int w),.d (.int a),.d (.int b)] S=qq (.d (.int (((qI wd w a b).toNat:Nat):Int)),S):=by
 have t1:=@cF [qq (.d (.str wd.s)),(w:),(a:),(b:),qz] 0 _ "same" _ S (d<$>1) rfl (bN wd .same);have t2:=@cF [qq (.d (.str wd.s)),(w:),(a:),(b:),qz] 0 _ "less" _ S (d<$>1) rfl (bN wd .less);have e:(a==b)=decide (a=b):=by rw[yEa,beq_iff_eq,decide_eq_true_eq]
 erw[50,aG]
 ·refine bX (S1:=S) rfl (d+1) rfl rfl yAe (fD (mH t1 (jF (w:=.d (.bool (decide (a=b)))) ?_)) (bC (aDu rfl)));erw[0,aZ,wS,e]
 ·refine bX (S1:=S) rfl (d+1) rfl rfl yAe (fD (uC t1 (aBu (mH t2 (jF (w:=.d (.bool (decide ((a:Int)<(b:Int))))) ?_)))) (bC (aDu rfl)));erw[0,dM]
 ·refine bX (S1:=S) rfl (d+1) rfl rfl yAe (fD (uC t1 (aBu (uC t2 (jF (w:=.d (.bool (decide (kD a w<kD b w)))) ?_)))) (bC (aDu rfl)));have e2:decide (tw a w<tw b w)=decide (kD a w<kD b w):=by
   rw[decide_eq_decide];unfold tw;omega
  erw[0,aG8 d a w bZ hw,aG8 d b w bZ hw,dM,aD4 ha bZ,aD4 hb bZ,e2]
def aGW(n w:Nat):n&&&(2^w-1)=n%2^w:=yBj n w
def aOB(d:Nat)(wd:Wd)(aG:wd=.left\/wd=.right\/wd=.slide)(w a k:Nat)(bZ:1<=w)(hw:w<=64)(ha:a<2^w)(hk:k<=900)(S:aE):cl fns (d+3) 67 [.d (.str wd.s),.d (.int w),.d (.int a),.d (.int k)] S=qq (.d (.int ((shV wd w a k:Nat):Int)),S):=by
 have t1:=@cF [qq (.d (.str wd.s)),(w:),(a:),(k:)] 0 _ "left" _ S (d<$>2) rfl (bN wd .left);have t2:=@cF [qq (.d (.str wd.s)),(w:),(a:),(k:)] 0 _ "right" _ S (d<$>2) rfl (bN wd .right);have e1:(w:Int)+(k:Int)=((w+k:Nat):Int):=();erw[50,aG]
 ·refine bX (S1:=S) rfl (d+2) rfl rfl yAe (bP t1 (bC ?_));have hq53:=tL ha (show w+k<=100000 by omega);have hq54:=cT (d+1) w ();erw[0,hq53,hq54,dC,aGW]
 ·refine bX (S1:=S) rfl (d+2) rfl rfl yAe (aJ t1 (bP t2 (bC ?_)));erw[0,oX]
 ·refine bX (S1:=S) rfl (d+2) rfl rfl yAe (aJ t1 (aJ t2 (bC ?_)));have hq55:=sW d a w (w+k) S () () hw;erw[0,dS,e1,hq55,oX]
def aN0(d:Nat)(wd:Wd)(aG:(wd=.and\/wd=.or\/wd=.xor)\/wd=.add\/wd=.sub\/wd=.mul)(w a b:Nat)(hw:w<=64)(ha:a<2^w)(S:aE):cl fns (d+2) 68 [.d (.str wd.s),.d (.int w),.d (.int a),.d (.int b)] S=qq (.d (.int ((oI wd w a b:Nat):Int)),S):=by
 have t:∀ (x:Str) (v:Wd),x=v.s->tv (d<$>1) (.cmp .Eq (.var 0) (.str x)) [qq (.d (.str wd.s)),(w:),(a:),(b:)] S=qq (decide (wd=v),S):=λ x v hx=>by
  subst hx;exact cF rfl (bN wd v)
 have t1:=t "and" .and rfl;have t2:=t "or" .or rfl;have t3:=t "xor" .xor rfl;have t4:=t "add" .add rfl;have t5:=t "sub" .sub rfl;have h64:=p64 ha hw;rcases aG with (rfl|rfl|rfl)|rfl|rfl|rfl
 ·refine bX (S1:=S) rfl (d+1) rfl rfl yAe (bP t1 (bC ?_));erw[0,dC]
 ·refine bX (S1:=S) rfl (d+1) rfl rfl yAe (aJ t1 (bP t2 (bC ?_)));erw[0,eQ]
 ·refine bX (S1:=S) rfl (d+1) rfl rfl yAe (aJ t1 (aJ t2 (bP t3 (bC ?_))));erw[0,jC]
 ·refine bX (S1:=S) rfl (d+1) rfl rfl yAe (aJ t1 (aJ t2 (aJ t3 (bP t4 (bC ?_)))));have hq56:=cT d w ();erw[0,dS,hq56,aAf]
 ·refine bX (S1:=S) rfl (d+1) rfl rfl yAe (aJ t1 (aJ t2 (aJ t3 (aJ t4 (bP t5 (bC ?_))))));have hq57:=cT d w ();erw[0,cO,hq57,aAf]
 ·refine bX (S1:=S) rfl (d+1) rfl rfl yAe (aJ t1 (aJ t2 (aJ t3 (aJ t4 (aJ t5 (bC ?_))))));have hq58:=@lS (a:Int) (b:Int) () ();have hq59:=cT d w ();erw[0,hq58,hq59,aAf]
section
variable (C:Calls)(R Wi Fs:D)(v:Int)(S:aE)(wd:Wd)
theorem uF:tv C (.cmp .Eq (.var 3) (.str "cut")) (oe R Wi Fs wd v) S=qq (decide (wd=.cut),S):=cF rfl (bN wd .cut)
theorem xF:tv C (.cmp .Eq (.var 3) (.str "wide")) (oe R Wi Fs wd v) S=qq (decide (wd=.wide),S):=cF rfl (bN wd .wide)
theorem aBo:tv C (.cmp .Eq (.var 3) (.str "sign")) (oe R Wi Fs wd v) S=qq (decide (wd=.sign),S):=cF rfl (bN wd .sign)
end
def aBR:Sx:=aQ (aQ aEI)
def aLi:E:=reS (cL (aQ (aQ (aQ (aQ (aQ (aQ (aQ (aQ aBR)))))))))
def aQ8{wd:Wd}(aG:(wd=.and\/wd=.or\/wd=.xor)\/wd=.add\/wd=.sub\/wd=.mul):¬ wd=.num/\¬ wd=.not/\¬ (wd=.left\/wd=.right\/wd=.slide)/\¬ wd=.cut/\¬ wd=.wide/\¬ wd=.sign/\¬ (wd=.same\/wd=.less\/wd=.under)/\¬ wd=.pick:=by rcases aG with (rfl|rfl|rfl)|rfl|rfl|rfl<;>decide
def aPe{v:Int}(wd:Wd)(aG:(wd=.and\/wd=.or\/wd=.xor)\/wd=.add\/wd=.sub\/wd=.mul)(h:ev C aLi (oe R Wi Ns wd v) S=qq (.d x,S)):xs C aBR (oe R Wi Ns wd v) S=qq (.rt (.d x),S):=by have t1:=gG C R Wi Ns v S wd;have t2:=iH C R Wi Ns v S wd;have t3:=jP C R Wi Ns v S wd;have t4:=uF C R Wi Ns v S wd;have t5:=xF C R Wi Ns v S wd;have t6:=aBo C R Wi Ns v S wd;have t7:=rH C R Wi Ns v S wd;have t8:=xG C R Wi Ns v S wd;let(n1,n2,n3,n4,n5,n6,n7,n8):=aQ8 aG;rw[dqF n1] at t1;rw[dqF n2] at t2;rw[dqF n3] at t3;rw[dqF n4] at t4;rw[dqF n5] at t5;rw[dqF n6] at t6;rw[dqF n7] at t7;rw[dqF n8] at t8;exact aJ t1 (aJ t2 (aJ t3 (aJ t4 (aJ t5 (aJ t6 (aJ t7 (aJ t8 (bC h))))))))
def aTi{wd:Wd}(aG:wd=.same\/wd=.less\/wd=.under):¬ wd=.num/\¬ wd=.not/\¬ (wd=.left\/wd=.right\/wd=.slide)/\¬ wd=.cut/\¬ wd=.wide/\¬ wd=.sign:=by erw[50,aG]<;>decide
def nM(d:Nat){x R Wi Ns:D}{wd:Wd}{v:Nat}(S:aE)(e0:aN R (.int 0)=qq (.str wd.s))(e1:aN R (.int 1)=qq (.int v))(k:xs (d<$>3) aBR (oe R Wi Ns wd (v:Nat)) S=qq (.rt (.d x),S)):cl fns (d+4) 69 [.d R,.d Wi,.d Ns] S=qq (.d x,S):=
 bX (S1:=S) rfl (d+3) rfl rfl yAe (cC (S1:=S) (fB rfl e0) rfl (cC (S1:=S) (fB rfl e1) rfl k))
section
variable (d:Nat)(S:aE)(R Wi Ns:D)(w:Nat)(e1:aN R (.int 1)=qq (.int (w:Nat)))
include e1
theorem aUE(n:Nat)(e0:aN R (.int 0)=qq (.str "num"))(e2:aN R (.int 2)=qq (.int n)):cl fns (d+4) 69 [.d R,.d Wi,.d Ns] S=qq (.d (.int n),S):=
 nM d (wd:=.num) S e0 e1 (bP (gG (d<$>3) R Wi Ns (w:Nat) S .num) (bC (fB rfl e2)))
theorem aSW(x:Nat)(hw:w<=64)(hx:x<2^w)(e0:aN R (.int 0)=qq (.str "not"))(i0:aN Ns (.int 0)=qq (.int x)):cl fns (d+4) 69 [.d R,.d Wi,.d Ns] S=qq (.d (.int ((2^w-1-x:Nat):Int)),S):=by refine nM d (wd:=.not) S e0 e1 (aJ (gG (d<$>3) R Wi Ns (w:Nat) S .not) (bP (iH (d<$>3) R Wi Ns (w:Nat) S .not) (bC ?_)));have hq60:=cT (d+2) w ();erw[0,i0,hq60,jC,aID hx]
theorem aXl(wd:Wd)(aG:wd=.left\/wd=.right\/wd=.slide)(x k:Nat)(bZ:1<=w)(hw:w<=64)(hx:x<2^w)(hk:k<64)(e0:aN R (.int 0)=qq (.str wd.s))(e3:aN R (.int 3)=qq (.int k))(i0:aN Ns (.int 0)=qq (.int x)):cl fns (d+4) 69 [.d R,.d Wi,.d Ns] S=qq (.d (.int ((shV wd w x k:Nat):Int)),S):=by have t1:=gG (d<$>3) R Wi Ns (w:Nat) S wd;have t2:=iH (d<$>3) R Wi Ns (w:Nat) S wd;have t3:=jP (d<$>3) R Wi Ns (w:Nat) S wd;rw[dqT aG] at t3;rw[dqF (by erw[50,aG]<;>decide)] at t1 t2;refine nM d (wd:=wd) S e0 e1 (aJ t1 (aJ t2 (bP t3 (bC ?_))));have hq61:=aOB d wd aG w x k bZ hw hx ();erw[0,i0,e3,hq61]
theorem aTr(x:Nat)(hw:w<=64)(e0:aN R (.int 0)=qq (.str "cut"))(i0:aN Ns (.int 0)=qq (.int x)):cl fns (d+4) 69 [.d R,.d Wi,.d Ns] S=qq (.d (.int ((x%2^w:Nat):Int)),S):=by refine nM d (wd:=.cut) S e0 e1 (aJ (gG (d<$>3) R Wi Ns (w:Nat) S .cut) (aJ (iH (d<$>3) R Wi Ns (w:Nat) S .cut) (aJ (jP (d<$>3) R Wi Ns (w:Nat) S .cut) (bP (uF (d<$>3) R Wi Ns (w:Nat) S .cut) (bC ?_)))));have hq62:=cT (d+2) w ();erw[0,i0,hq62,dC,aGW]
theorem aRo(x:Nat)(e0:aN R (.int 0)=qq (.str "wide"))(i0:aN Ns (.int 0)=qq (.int x)):cl fns (d+4) 69 [.d R,.d Wi,.d Ns] S=qq (.d (.int x),S):=
 nM d (wd:=.wide) S e0 e1 (aJ (gG (d<$>3) R Wi Ns (w:Nat) S .wide) (aJ (iH (d<$>3) R Wi Ns (w:Nat) S .wide) (aJ (jP (d<$>3) R Wi Ns (w:Nat) S .wide) (aJ (uF (d<$>3) R Wi Ns (w:Nat) S .wide) (bP (xF (d<$>3) R Wi Ns (w:Nat) S .wide) (bC (fB rfl i0)))))))
theorem aSa(x v:Nat)(hv:1<=v)(hvw:v<=w)(hw:w<=64)(e0:aN R (.int 0)=qq (.str "sign"))(i0:aN Ns (.int 0)=qq (.int x))(j0:aN Wi (.int 0)=qq (.int v)):cl fns (d+4) 69 [.d R,.d Wi,.d Ns] S=qq (.d (.int ((cW x v w:Nat):Int)),S):=by refine nM d (wd:=.sign) S e0 e1 (aJ (gG (d<$>3) R Wi Ns (w:Nat) S .sign) (aJ (iH (d<$>3) R Wi Ns (w:Nat) S .sign) (aJ (jP (d<$>3) R Wi Ns (w:Nat) S .sign) (aJ (uF (d<$>3) R Wi Ns (w:Nat) S .sign) (aJ (xF (d<$>3) R Wi Ns (w:Nat) S .sign) (bP (aBo (d<$>3) R Wi Ns (w:Nat) S .sign) (bC ?_)))))));have hq63:=sW (d+1) x v w S () () ();erw[0,i0,j0,hq63]
theorem aIC(wd:Wd)(aG:(wd=.and\/wd=.or\/wd=.xor)\/wd=.add\/wd=.sub\/wd=.mul)(x y:Nat)(hw:w<=64)(hx:x<2^w)(e0:aN R (.int 0)=qq (.str wd.s))(i0:aN Ns (.int 0)=qq (.int x))(i1:aN Ns (.int 1)=qq (.int y)):cl fns (d+4) 69 [.d R,.d Wi,.d Ns] S=qq (.d (.int ((oI wd w x y:Nat):Int)),S):=by refine nM d (wd:=wd) S e0 e1 (aPe wd aG ?_);erw[6,aLi,aBR,aQ,cL,reS,aEI,i0,i1,aN0 (d+1) wd aG w x y hw hx]
theorem aTQ(wd:Wd)(aG:wd=.same\/wd=.less\/wd=.under)(x y v:Nat)(hv1:1<=v)(hv:v<=64)(hx:x<2^v)(hy:y<2^v)(e0:aN R (.int 0)=qq (.str wd.s))(i0:aN Ns (.int 0)=qq (.int x))(i1:aN Ns (.int 1)=qq (.int y))(j0:aN Wi (.int 0)=qq (.int v)):cl fns (d+4) 69 [.d R,.d Wi,.d Ns] S=qq (.d (.int (((qI wd v x y).toNat:Nat):Int)),S):=by have t1:=gG (d<$>3) R Wi Ns (w:Nat) S wd;have t2:=iH (d<$>3) R Wi Ns (w:Nat) S wd;have t3:=jP (d<$>3) R Wi Ns (w:Nat) S wd;have t4:=uF (d<$>3) R Wi Ns (w:Nat) S wd;have t5:=xF (d<$>3) R Wi Ns (w:Nat) S wd;have t6:=aBo (d<$>3) R Wi Ns (w:Nat) S wd;have t7:=rH (d<$>3) R Wi Ns (w:Nat) S wd;let(n1,n2,n3,n4,n5,n6):=aTi aG;rw[dqT aG] at t7;rw[dqF n1] at t1;rw[dqF n2] at t2;rw[dqF n3] at t3;rw[dqF n4] at t4;rw[dqF n5] at t5;rw[dqF n6] at t6;refine nM d (wd:=wd) S e0 e1 (aJ t1 (aJ t2 (aJ t3 (aJ t4 (aJ t5 (aJ t6 (bP t7 (bC ?_))))))));erw[0,i0,i1,j0,aN3 (d+1) wd aG v x y hv1 hv hx hy]
theorem aRS(z x y:Nat)(e0:aN R (.int 0)=qq (.str "pick"))(i0:aN Ns (.int 0)=qq (.int z))(i1:aN Ns (.int 1)=qq (.int x))(i2:aN Ns (.int 2)=qq (.int y)):cl fns (d+4) 69 [.d R,.d Wi,.d Ns] S=qq (.d (.int (((if z=1 then x else y):Nat):Int)),S):=by
 refine nM d (wd:=.pick) S e0 e1 (aJ (gG (d<$>3) R Wi Ns (w:Nat) S .pick) (aJ (iH (d<$>3) R Wi Ns (w:Nat) S .pick) (aJ (jP (d<$>3) R Wi Ns (w:Nat) S .pick) (aJ (uF (d<$>3) R Wi Ns (w:Nat) S .pick) (aJ (xF (d<$>3) R Wi Ns (w:Nat) S .pick) (aJ (aBo (d<$>3) R Wi Ns (w:Nat) S .pick) (aJ (rH (d<$>3) R Wi Ns (w:Nat) S .pick) (bP (xG (d<$>3) R Wi Ns (w:Nat) S .pick) (bC ?_)))))))));by_cases q:z=1
 ·have d1:(z==1)=true:=by rw[beq_iff_eq];exact q
  rw[if_pos q];erw[0,i0,i1,aZ,kN,d1]
 ·have d1:(z==1)=false:=by rw[beq_eq_false_iff_ne];exact q
  rw[if_neg q];erw[0,i0,i2,aZ,kN,d1]
end
def aQ0(h:RwOk r ws)(hi:r.wd≠.in)(hl:iK ws ns)(d:Nat)(S:aE):cl fns (d+4) 69 [.d r.d,.d (ws*>nD),.d (ns*>nD)] S=qq (.d (.int ((cD r ws ns:Nat):Int)),S):=by
 cases h with
 |inp=>exact absurd rfl hi|num h1 h2 hn=>exact aUE d S _ _ _ _ rfl _ rfl rfl
 |nt h1 h2=>
   let(x,rfl,hx):=eJ hl;exact aSW d S _ _ _ _ rfl x h2 hx rfl rfl
 |sh h1 h2 aG hk=>
   rename_i wd w a k;let(x,rfl,hx):=eJ hl;have ev':cD ⟨wd,w,[a,k]⟩ [w] [x]=shV wd w x k:=by erw[50,aG]<;>rfl
   rw[ev'];exact aXl d S _ _ _ w rfl wd aG x k h1 h2 hx hk rfl rfl rfl
 |cut h1 hv h2=>
   let(x,rfl,hx):=eJ hl;exact aTr d S _ _ _ _ rfl x (xAh hv h2) rfl rfl
 |wide h1 hv h2=>
   let(x,rfl,hx):=eJ hl;exact aRo d S _ _ _ _ rfl x rfl rfl
 |sign h1 hv h2=>
   let(x,rfl,hx):=eJ hl;exact aSa d S _ _ _ _ rfl x _ h1 hv h2 rfl rfl rfl
 |bw h1 h2 aG=>
   rename_i wd w a b;let(x,y,rfl,hx,hy):=gP hl;have ev':cD ⟨wd,w,[a,b]⟩ [w,w] [x,y]=oI wd w x y:=by erw[50,aG]<;>rfl
   rw[ev'];exact aIC d S _ _ _ w rfl wd (.inl aG) x y h2 hx rfl rfl rfl
 |sm h1 h2=>
   rename_i s w a b;let(x,y,rfl,hx,hy):=gP hl;have aG:s.wd=.add\/s.wd=.sub\/s.wd=.mul:=by
    cases s
    ·exact .inl rfl
    ·exact .inr (.inl rfl)
    ·exact .inr (.inr rfl)
   have ev':cD ⟨s.wd,w,[a,b]⟩ [w,w] [x,y]=oI s.wd w x y:=by cases s<;>rfl
   rw[ev'];exact aIC d S _ _ _ w rfl s.wd (.inr aG) x y h2 hx rfl rfl rfl
 |cmp h1 h2 aG=>
   rename_i wd v a b;let(x,y,rfl,hx,hy):=gP hl;have ev':cD ⟨wd,1,[a,b]⟩ [v,v] [x,y]=(qI wd v x y).toNat:=by erw[50,aG]<;>rfl
   rw[ev'];exact aTQ d S _ _ _ 1 rfl wd aG x y v h1 h2 hx hy rfl rfl rfl rfl
 |pick h1 h2=>
   let(z,x,y,rfl,hz,hx,hy):=zI hl;exact aRS d S _ _ _ _ rfl z x y rfl rfl rfl rfl
def aJQ(wd:Wd):aM wd<=3:=by cases wd<;>decide
def aAS(S0:aE)(l:List D)(x:D)(h:↑l<=1000):dI (S0++[qq l]) (.loc ↑S0) (.d x)=qq (.d .none,S0++[qq (l++[x])]):=by unfold dI;simp only[yAf (yAd ↑S0),yBf,yBc];rw[if_pos (by rw[qo];omega)];rw[List.set_append_right _ _ (yAd _),yBf];rfl
def qV(S0:aE)(l:List D):(S0++[qq l])[↑S0]?=qq (qq l):=by rw[yAf (yAd _),yBf];rfl
def aT(r:Rw)(l:List Nat):List Nat:=(r.args.take (aM r.wd)).map (g0 l)
def aGQ{α:Type}{l:List α}{vs:List D}{f:α->D}(h1:↑vs=↑l)(h2:∀ (i:Nat) (a:α),l[i]?=qq a->∃ v,vs[i]?=qq v/\v=f a):vs=l.map f:=by
 apply List.ext_getElem?;intro i;rw[yAc];by_cases c:i<↑l
 ·let(v,h3,rfl):=h2 i l[i] (yAa c);rw[h3,yAa c];rfl
 ·rw[yBn (),yBn ()];rfl
def oU(d:Nat)(r:Rw)(w:W)(x:D)(f:Nat->D)(S:aE)(hv:∀ aF,dr (S++[qq aF]) w=qq x)(hx:∀ a∈r.args.take (aM r.wd),aN x (nD a)=qq (f a)):cl fns (d+2) 9 [.d r.d,w] S=qq (.d (.tuple ((r.args.take (aM r.wd)).map f)),S):=by
 have cY:↑(r.args.take (aM r.wd))<=3:=by have:=aJQ r.wd;rw[yBk];omega
 let(vs,S',e1,hS',hI,hvl,hq):=@aIk [qq (.d r.d),qq w,qz] S S _ (.one 2) (lv (d<$>1) (.it (.call 7 (.cons (.var 0) .nil)))) (ev (d<$>1) (.ix (.var 1) (.var 2))) nD (λ _ S'=>S'=S) (λ a v=>v=f a) (r.args.take (aM r.wd)) (by
  erw[20,qR d,fH]) (by rw[qo];omega) rfl (by
  intro a ha;refine⟨_,rfl,?_⟩;rintro j S' aF hj hS rfl;refine⟨f a,S',?_,rfl,rfl,rfl⟩;have hd:∀ {k:D->Option (W×aE)},(dr (S'++[qq aF]) w).bind k=k x:=λ {k}=>by rw[hv aF];rfl
  simp only[aBL,aBy,oQ,f2,jI,hZ,clr,Tg.slots,yAz,yBo,yDu,yDc,yBr,yBc,oB,hd];show((aN x (nD a)).bind λ z=>qq (W.d z,S'++[qq aF]))=_
  rw[hx a ha];rfl)
 subst hI;have e2:vs=(r.args.take (aM r.wd)).map f:=aGQ hvl hq;subst e2;have e1':lv (d<$>1) aCF [qq (.d r.d),qq w,qz] S'=qq ((r.args.take (aM r.wd)).map f,S'):=e1;rw[bE rfl (d+1) _ S' rfl];erw[11,aGb,e1',jE,jG]
def aBU{l:List Nat}(h:a<↑l):(l.map nD)[a]?=qq (nD (g0 l a)):=by rw[yAc,yAa h];show qq (nD l[a])=qq (nD (l.getD a 0));rw[xAg,yAa h];rfl
def aDC(d:Nat)(r:Rw)(l:List Nat)(S:aE)(h:∀ a∈r.args.take (aM r.wd),a<↑l):cl fns (d+2) 9 [.d r.d,.d (l*>nD)] S=qq (.d (.tuple ((aT r l).map nD)),S):=by
 have:=oU d r (.d (l*>nD)) (l*>nD) (λ a=>nD (g0 l a)) S (λ _=>rfl) λ a ha=>gE (aBU (h a ha))
 rw[this,aT,yBh];rfl
def aSy(d:Nat)(r:Rw)(l:List Nat)(S0:aE)(h:∀ a∈r.args.take (aM r.wd),a<↑l):cl fns (d+2) 9 [.d r.d,.loc ↑S0] (S0++[qq (l.map nD)])=qq (.d (.tuple ((aT r l).map nD)),S0++[qq (l.map nD)]):=by
 have:=oU d r (.loc ↑S0) (.list (l.map nD)) (λ a=>nD (g0 l a)) (S0++[qq (l.map nD)]) (λ aF=>by
  show(match (S0++[qq (l.map nD)]++[qq aF])[↑S0]? with|some (qq ds)=>qq (yEx ds)|_=>qz)=_
  rw[yBq,yAf (yAd _),yBf];rfl) λ a ha=>iT (aBU (h a ha))
 rw[this,aT,yBh];rfl
def aAh(d:Nat)(rs:List Rw)(o:D)(hl:↑rs<=1000)(S:aE):cl fns (d+1) 11 [.d (rs<*o)] S=qq (.d (.tuple ((~~~rs).map nD)),S):=by
 have i0:aN (rs<*o) (.int 0)=qq (rs*>Rw.d):=rfl;have hc:lv (aC fns d) aF8 [qq (.d (rs<*o)),qz] S=qq ((~~~rs).map nD,S):=by
  rw[yBh];refine lU (fi:=lv (aC fns d) (.it (.ix (.var 0) (.int 0)))) (fe:=ev (aC fns d) (.ix (.var 1) (.int 1))) Rw.d (nD ∘ λ r=>r.w) rs ?_ (by rw[qo];omega) λ r hr=>?_
  ·erw[0,i0,fH]
  ·refine⟨_,rfl,λ S'=>?_⟩;erw[0,clr,yAz,yBo,dX]
 rw[bE rfl d _ S rfl];erw[11,aGO,hc,jE,jG]
def bV:List Rw->List Nat->Prop
 |[],is=>is=[]
 |r::rs,is=>if r.wd=.in then ∃ n is',is=n::is'/\n<2^r.w/\bV rs is' else bV rs is
def sJ(rs:List Rw):Prop:=∀ (j:Nat) (r:Rw),rs[j]?=qq r->RwOk r (aT r (~~~rs))/\∀ a∈r.args.take (aM r.wd),a<j
def tK{W:List Nat}(h:∀ (i a w:Nat),aF[i]?=qq a->W[i]?=qq w->a<2^w):∀ (l:List Nat),(∀ a∈l,a<↑aF/\a<↑W)->iK (l.map (g0 W)) (l.map (g0 aF))
 |[],_=>True.intro
 |a::l,hl=>by
   let(h1,h2):=hl a xAc;refine⟨h a _ _ ?_ ?_,tK h l λ b hb=>hl b (xAf _ hb)⟩
   ·show aF[a]?=qq (aF.getD a 0);rw[xAg,yAa h1];rfl
   ·show W[a]?=qq (W.getD a 0);rw[xAg,yAa h2];rfl
def aEt(h:RwOk r ws)(hl:iK ws ns):cD r ws ns<2^r.w:=by
 have hp:=xAe r.w;cases h with
 |inp=>exact hp|num h1 h2 hn=>exact hn
 |nt=>
   let(x,rfl,hx):=eJ hl;exact xAi (yFa _ _) ()
 |sh h1 h2 aG hk=>
   let(x,rfl,hx):=eJ hl;erw[50,aG]
   ·exact Nat.mod_lt _ hp
   ·exact xAi (Nat.div_le_self _ _) hx
   ·rename_i w a k;show cW x w (w+k)/2^k<2^w;rw[yEw (xAe k),<- yFl];exact vQ hx h1 ()
 |cut=>exact Nat.mod_lt _ hp
 |wide h1 hv h2=>
   let(x,rfl,hx):=eJ hl;exact xAb hx (yAo (·) hv)
 |sign h1 hv h2=>
   let(x,rfl,hx):=eJ hl;exact vQ hx h1 hv
 |bw h1 h2 aG=>
   let(x,y,rfl,hx,hy):=gP hl;erw[50,aG]
   ·exact xAi yCz hx
   ·exact yBl hx hy
   ·exact yCe hx hy
 |sm h1 h2=>
   let(x,y,rfl,hx,hy):=gP hl;rename_i s w a b;cases s
   ·exact pO ((x:Int)+(y:Int)) w
   ·exact pO ((x:Int)-(y:Int)) w
   ·exact pO ((x:Int)*(y:Int)) w
 |cmp h1 h2 aG=>
   have q:∀ b:Bool,b.toNat<2^1:=λ b=>by cases b<;>decide
   erw[50,aG]<;>exact q _
 |pick h1 h2=>
   let(z,x,y,rfl,hz,hx,hy):=zI hl;show(if z=1 then x else y)<_;split
   ·exact hx
   ·exact hy
def aAD{α:Type}{l:List α}{a:α}(h:l[j]?=qq a):l.drop j=a::l.drop (j+1):=by let(hl,rfl):=gIm h;exact yCu hl
def cI:List Rw->List Nat->List Nat->List Nat->List Nat
 |[],_,_,aF=>aF
 |r::rs,W,is,aF=>if r.wd=.in then cI rs W is.tail (aF++[g0 is 0]) else cI rs W is (aF++[cD r (aT r W) (aT r aF)])
structure Prg(rs:List Rw):Prop where
 l:↑rs<=100
 fit:sJ rs
 ins:∃ is,bV rs is
 ws:∀ (j:Nat) (r:Rw),rs[j]?=qq r->1<=r.w/\r.w<=64
def iR{l:List Nat}(h:a<↑l):l[a]?=qq (g0 l a):=by show l[a]?=qq (l.getD a 0);rw[xAg,yAa h];rfl
def aAR:∀ (rs:List Rw) (W is aF:List Nat),∃ t,cI rs W is aF=aF++t
 |[],W,is,aF=>⟨[],by simp[cI]⟩
 |r::rs,W,is,aF=>by
   unfold cI;split
   ·let(t,h):=aAR rs W is.tail (aF++[g0 is 0]);exact⟨[g0 is 0]++t,by rw[h,yBq]⟩
   ·let(t,h):=aAR rs W is (aF++[cD r (aT r W) (aT r aF)]);exact⟨[cD r (aT r W) (aT r aF)]++t,by rw[h,yBq]⟩
def aDA:∀ (rs:List Rw) (W is aF:List Nat) (j:Nat) (r:Rw),rs[j]?=qq r->r.wd≠.in->(cI rs W is aF)[↑aF+j]?=qq (cD r (aT r W) (aT r ((cI rs W is aF).take (↑aF+j))))
 |[],W,is,aF,j,r,h,_=>by simp at h
 |q::rs,W,is,aF,0,r,h,hw=>by
   cases h;unfold cI;rw[if_neg hw];let(t,ht):=aAR rs W is (aF++[cD q (aT q W) (aT q aF)]);rw[ht,yHa,yBq,yHf,yAf (yAd _),yBf];rfl
 |q::rs,W,is,aF,j+1,r,h,hw=>by
   have h':rs[j]?=qq r:=by simpa using h
   unfold cI;split
   ·have:=aDA rs W is.tail (aF++[g0 is 0]) j r h' hw;rw[xAn,show ↑aF+↑[g0 is 0]+j=↑aF+(j+1) by simp;omega] at this;exact this
   ·have:=aDA rs W is (aF++[cD q (aT q W) (aT q aF)]) j r h' hw;rw[xAn,show ↑aF+↑[cD q (aT q W) (aT q aF)]+j=↑aF+(j+1) by simp;omega] at this;exact this
def aQn{r:Rw}{l:List Nat}(h:∀ a∈r.args.take (aM r.wd),a<m):aT r (l.take m)=aT r l:=by
 unfold aT;refine yBx λ a ha=>?_
 show(l.take m).getD a 0=l.getD a 0;rw[xAg,xAg,yDa (h a ha)]
def aKr{rs:List Rw}(hf:sJ rs)(is:List Nat){j:Nat}{r:Rw}(hr:rs[j]?=qq r)(hw:r.wd≠.in):(cI rs (~~~rs) is [])[j]?=qq (cD r (aT r (~~~rs)) (aT r (cI rs (~~~rs) is []))):=by have:=aDA rs (~~~rs) is [] j r hr hw;rw[yEb,yFp,aQn (hf j r hr).2] at this;exact this
def wO:∀ (rs:List Rw) (W is aF:List Nat),↑(cI rs W is aF)=↑aF+↑rs
 |[],_,_,_=>rfl
 |r::rs,W,is,aF=>by
   unfold cI;split
   ·rw[wO rs,xAn];simp;omega
   ·rw[wO rs,xAn];simp;omega
def aJp{W:List Nat}(h:∀ (i a w:Nat),aF[i]?=qq a->W[i]?=qq w->a<2^w)(hw:W[↑aF]?=qq w)(hz:z<2^w):∀ (i a w:Nat),(aF++[z])[i]?=qq a->W[i]?=qq w->a<2^w:=λ i a v h1 h2=>by
 by_cases c:i<↑aF
 ·rw[xAm c] at h1;exact h i a v h1 h2
 ·have ci:i=↑aF:=by
   have:=(gIm h1).1;simp at this;omega
  subst ci;rw[yAf (yAd _),yBf] at h1;cases h1;rw[hw] at h2;cases h2;exact hz
def aDW(hf:sJ rs0):∀ (rs:List Rw) (is aF:List Nat),rs=rs0.drop ↑aF->bV rs is->(∀ (i a w:Nat),aF[i]?=qq a->(rs0.map (·.w))[i]?=qq w->a<2^w)->∀ (i a w:Nat),(cI rs (rs0.map (·.w)) is aF)[i]?=qq a->(rs0.map (·.w))[i]?=qq w->a<2^w
 |[],is,aF,_,_,hb=>hb
 |r::rs,is,aF,hd,hi,hb=>by
   have hr:rs0[↑aF]?=qq r:=by
    have:=congrArg (λ l=>l[0]?) hd;simp only[yBc,yHb,yHa] at this;exact this.symm
   have hd':∀ z:Nat,rs=rs0.drop ↑(aF++[z]):=λ z=>by
    rw[xAn,List.length_singleton];have:=congrArg List.tail hd;rw[List.tail_drop] at this;exact this
   have hw:(rs0.map (·.w))[↑aF]?=qq r.w:=by rw[yAc,hr];rfl
   have hj:↑aF<↑rs0:=(gIm hr).1;unfold cI;split
   ·rename_i c;rw[bV,if_pos c] at hi;let(n,is',rfl,hn,hi'):=hi;exact aDW hf rs is' (aF++[n]) (hd' n) hi' (aJp hb hw hn)
   ·rename_i c;rw[bV,if_neg c] at hi;let(f1,f2):=hf _ r hr;have lt:=tK hb (r.args.take (aM r.wd)) λ a ha=>⟨f2 a ha,by have:=f2 a ha;rw[yAb];omega⟩
    exact aDW hf rs is _ (hd' _) hi (aJp hb hw (aEt f1 lt))
def aBa{rs:List Rw}(p:Prg rs)(hi:bV rs is):↑(cI rs (~~~rs) is [])=↑rs:=by rw[wO];simp
def aBj{rs:List Rw}(p:Prg rs){is:List Nat}(hi:bV rs is){i a w:Nat}(h1:(cI rs (~~~rs) is [])[i]?=qq a)(h2:(~~~rs)[i]?=qq w):a<2^w:=aDW p.fit rs is [] rfl hi (λ i a w h=>by simp at h) i a w h1 h2
def gN:List Rw->List Nat->List Nat->List Nat->List Nat->List Nat
 |r::rs,W,is,m::ms,aF=>if r.wd=.in then gN rs W is.tail ms (aF++[g0 is 0^^^m]) else gN rs W is ms (aF++[cD r (aT r W) (aT r aF)^^^m])
 |_,_,_,_,aF=>aF
structure MsOk(rs:List Rw)(ms:List Nat):Prop where
 l:↑ms=↑rs
 lt:∀ (j:Nat) (r:Rw) (m:Nat),rs[j]?=qq r->ms[j]?=qq m->m<2^r.w
def aOi(d:Nat)(rs:List Rw)(o:D)(is ms:List Nat)(hl:↑rs<=100)(hf:sJ rs)(hi:bV rs is)(hm:MsOk rs ms)(S:aE):cl fns (d+6) 70 [.d (rs<*o),.d (is*>nD),.d (ms*>nD)] S=qq (.d (.tuple ((gN rs (~~~rs) is ms []).map nD)),S)/\↑(gN rs (~~~rs) is ms [])=↑rs/\∀ (i a w:Nat),(gN rs (~~~rs) is ms [])[i]?=qq a->(~~~rs)[i]?=qq w->a<2^w:=by
 have i0:aN (rs<*o) (.int 0)=qq (rs*>Rw.d):=rfl;obtain⟨P,hP⟩:∃ P:D,P=(rs<*o):=⟨_,rfl⟩;have wo:=aAh (d+4) rs o ();rw[<- hP] at i0 wo ⊢;let(aY,S',p1,aF,tk,c6,c7,c8,rfl,rfl,al,ar,ai,ab):=nK (t:=.many [6,7]) (fi:=lv (d<$>5) aAy) (fb:=xs (d<$>5) vS) (env:=[qq (.d P),qq (.d (is*>nD)),qq (.d (ms*>nD)),qq (.d (.tuple ((~~~rs).map nD))),qq (.loc ↑S),(0:),qz,qz,qz]) (S:=S++[qq []]) (S1:=S++[qq []]) (ds:=hJ (rs.map Rw.d) (ms.map nD))
  (λ j env S'=>∃ (aF:List Nat) (tk:Nat) (c6 c7 c8:Option W),env=[qq (.d P),qq (.d (is*>nD)),qq (.d (ms*>nD)),qq (.d (.tuple ((~~~rs).map nD))),qq (.loc ↑S),(tk:),c6,c7,c8]/\S'=S++[qq (aF.map nD)]/\↑aF=j/\gN (rs.drop j) (~~~rs) (is.drop tk) (ms.drop j) aF=gN rs (~~~rs) is ms []/\bV (rs.drop j) (is.drop tk)/\∀ (i a w:Nat),aF[i]?=qq a->(~~~rs)[i]?=qq w->a<2^w)
  (by erw[20,aAy,i0]) ⟨[],0,qz,qz,qz,rfl,rfl,rfl,rfl,hi,by simp⟩ (by
    rintro j dd env S' hd ⟨aF,tk,c6,c7,c8,rfl,rfl,al,ar,ai,ab⟩;let(a0,b0,ha,hb,rfl):=aAO _ _ j dd hd;rw[yAc] at ha hb;let(r,hr,rfl):=Option.map_eq_some_iff.mp ha;let(m,hmj,rfl):=Option.map_eq_some_iff.mp hb;have hmlt:=hm.lt j r m hr hmj;let(f1,f2):=hf j r hr;have hj:j<↑rs:=(gIm hr).1;have hw:(~~~rs)[j]?=qq r.w:=by rw[yAc,hr];rfl
    have hWl:↑(~~~rs)=↑rs:=yAb ..;rw[aAD hr] at ar ai;rw[aAD hmj] at ar;have more:∀ z:Nat,z<2^r.w->∀ (i a w:Nat),(aF++[z^^^m])[i]?=qq a->(~~~rs)[i]?=qq w->a<2^w:=λ z hz i a w h1 h2=>by
     by_cases c:i<↑aF
     ·rw[xAm c] at h1;exact ab i a w h1 h2
     ·have ci:i=j:=by
       have:=(gIm h1).1;simp at this;omega
      subst ci;rw[yAf (),show i-↑aF=0 by omega] at h1;cases h1;rw[hw] at h2;cases h2;exact yCe hz hmlt
    have ap:∀ z:Nat,dI (S++[qq (aF.map nD)]) (.loc ↑S) (.d (.int z))=qq (.d .none,S++[qq ((aF++[z]).map nD)]):=λ z=>by
     rw[aAS S (aF.map nD) _ (by rw[yAb];omega),yAw];rfl
    have xo:∀ z:Nat,cB .BitXor (.int z) (nD m)=qq (.int ((z^^^m:Nat):Int)):=λ z=>jC z m
    by_cases c:r.wd=.in
    ·have t:aS .Eq (.str r.wd.s) (.str "in")=qq (.bool true):=by rw[c];exact bN .in .in
     rw[bV,if_pos c] at ai;let(n,is',e1,hn,hi'):=ai;rw[gN,if_pos c,e1] at ar;have e2:is'=is.drop (tk+1):=by rw[<- List.tail_drop,e1];rfl
     have e3:aN (is*>nD) (.int tk)=qq (.int n):=gE (by
      have:(is.drop tk)[0]?=qq n:=by rw[e1];rfl
      rw[yHb,yHa] at this;rw[yAc,this];rfl)
     have e4:(tk:Int)+1=((tk+1:Nat):Int):=();refine⟨_,[qq (.d P),qq (.d (is*>nD)),qq (.d (ms*>nD)),qq (.d (.tuple ((~~~rs).map nD))),qq (.loc ↑S),(((tk+1:Nat):Int):),qq (.d r.d),qq (.d (nD m)),(n:)],S++[qq ((aF++[n^^^m]).map nD)],rfl,?_,aF++[n^^^m],tk+1,_,_,_,rfl,rfl,by simp[al],?_,?_,more n hn⟩
     ·erw[1,vS,iF,t,e3,dS,e4,xo,gK,ap]
     ·rw[<- e2,<- ar];rfl
     ·rw[<- e2];exact hi'
    ·have t:aS .Eq (.str r.wd.s) (.str "in")=qq (.bool false):=by
      have:=bN r.wd .in;rw[dqF c] at this;exact this
     rw[bV,if_neg c] at ai;rw[gN,if_neg c] at ar;have lt:=tK ab (r.args.take (aM r.wd)) λ a ha=>⟨by have:=f2 a ha;omega,by have:=f2 a ha;omega⟩
     have o1:=aDC (d+3) r (~~~rs) (S++[qq (aF.map nD)]) λ a ha=>by have:=f2 a ha;omega
     have o2:=aSy (d+3) r aF S λ a ha=>by have:=f2 a ha;omega
     have wk:=aQ0 f1 c lt (d+1) (S++[qq (aF.map nD)]);have wl:=aEt f1 lt;refine⟨_,[qq (.d P),qq (.d (is*>nD)),qq (.d (ms*>nD)),qq (.d (.tuple ((~~~rs).map nD))),qq (.loc ↑S),(tk:),qq (.d r.d),qq (.d (nD m)),(((cD r (aT r (~~~rs)) (aT r aF):Nat):Int):)],S++[qq ((aF++[cD r (aT r (~~~rs)) (aT r aF)^^^m]).map nD)],rfl,?_,_,tk,_,_,_,rfl,rfl,by simp[al],ar,ai,more _ wl⟩
     have wk':cl fns (d+5) 69 [.d r.d,.d (.tuple ((aT r (~~~rs)).map nD)),.d (.tuple ((aT r aF).map nD))] (S++[qq (aF.map nD)])=qq (.d (.int ((cD r (aT r (~~~rs)) (aT r aF):Nat):Int)),S++[qq (aF.map nD)]):=wk;erw[20,vS,iF,t,o1,o2,wk',xo,gK,ap])
 have zl:↑(hJ (rs.map Rw.d) (ms.map nD))=↑rs:=by
  rw[aAn,yAb,yAb,hm.l,Nat.min_self]
 rw[zl] at al ar;rw[yFg] at ar;have ar':aF=gN rs (~~~rs) is ms []:=by
  have e:gN [] (~~~rs) (is.drop tk) (ms.drop ↑rs) aF=aF:=by unfold gN;rfl
  rw[<- e];exact ar
 subst ar';refine⟨?_,al,ab⟩;have p1':gZ (.many [6,7]) (lv (d<$>5) aAy) (xs (d<$>5) vS) [qq (.d P),qq (.d (is*>nD)),qq (.d (ms*>nD)),qq (.d (.tuple ((~~~rs).map nD))),qq (.loc ↑S),(0:),qz,qz,qz] (S++[qq []])=qq (.nx [qq (.d P),qq (.d (is*>nD)),qq (.d (ms*>nD)),qq (.d (.tuple ((~~~rs).map nD))),qq (.loc ↑S),(tk:),c6,c7,c8],S++[qq ((gN rs (~~~rs) is ms []).map nD)]):=p1;have tk1:∀ x,yEt ↑S (S++[x])=S:=λ x=>yHf
 rw[bE rfl (d+5) _ S rfl];erw[11,aJB,wo,gI,p1',qV,jE,jG,tk1]
def aSr(rs:List Rw):MsOk rs (yAg ↑rs 0):=⟨yCw,λ j r m h1 h2=>by
 rw[yEj] at h2;split at h2
 ·cases h2;exact xAe _
 ·cases h2⟩
def aQ6(d:Nat)(rs:List Rw)(o:D)(is:List Nat)(hl:↑rs<=100)(hf:sJ rs)(hi:bV rs is)(S:aE):cl fns (d+7) 71 [.d (rs<*o),.d (is*>nD)] S=qq (.d (.tuple ((gN rs (~~~rs) is (yAg ↑rs 0) []).map nD)),S):=by
 have i0:aN (rs<*o) (.int 0)=qq (rs*>Rw.d):=rfl;have ln:eX [(rs*>Rw.d)]=qq (.int ↑rs):=by
  show qq (yAn ((↑(rs.map Rw.d):Nat):Int))=_;rw[yAb]
 have e:=(aOi d rs o is _ hl hf hi (aSr rs) S).1;rw[yFt] at e;have e':cl fns (d+6) 70 [.d (rs<*o),.d (is*>nD),.d (.tuple (yAg ↑rs (.int 0)))] S=qq (.d (.tuple ((gN rs (~~~rs) is (yAg ↑rs 0) []).map nD)),S):=e;rw[bE rfl (d+6) _ S rfl];have hq64:=aDi (x:=.int 0) (show ↑rs<=1000 by omega);erw[11,aMT,i0,ln,hq64,e']
def aQs(hn:n<2^w):(2^w-1)^^^n=2^w-1-n:=by rw[Nat.xor_comm];exact aID hn
def uR(n w:Nat):Ft:=⟨2^w-1-n,n,1⟩
def aLo(hn:n<2^w)(hw:1<=w):FtOk (uR n w) w:=⟨by show 2^w-1-n<2^w;have:=xAe w;omega,hn,yAd 1,hw⟩
def aRK(hn:n<2^w):Hd (uR n w) n w:=by
 refine⟨λ i hi=>?_,λ i hi=>hi,mC _ _⟩;have hi':(2^w-1-n)[i]! =true:=hi;by_cases c:i<w
 ·rw[aBq hn c] at hi';simpa using hi'
 ·exact cP hn ()
def aJF(hw:1<=w):fM kJ w=kJ:=by
 have u:dB 0 1 w=0:=by
  unfold dB;rw[Nat.zero_and,if_pos rfl]
 have t:tr 0 w=0:=by
  unfold tr;rw[Nat.zero_xor];have:bl (2^w-1)=w:=aG1 (wU w) (.inr (by rw[cV,dqT ()]));omega
 show Ft.mk (dB 0 1 w) (dB 0 1 w) (zA 1 (tr (dB 0 1 w) w) (tr (dB 0 1 w) w))=⟨0,0,1⟩;rw[u,t];rfl
def aQD(d n w:Nat)(hn:n<2^w)(bZ:1<=w)(hw:w<=64)(S:aE):cl fns (d+4) 47 [.d (.tuple [.str "num",.int w,.int n]),.d (.tuple []),.d (.tuple [])] S=qq (.d (fM (uR n w) w).d,S):=by
 have nf:cl fns (d+2) 33 [.d (.int w),.d (.int n)] S=qq (.d (uR n w).d,S):=by
  rw[bE rfl (d+1) _ S rfl];have hq65:=cT d w ();erw[11,aGS,hq65,jC,aQs hn]
 have i2:aN (.tuple [.str "num",.int w,.int n]) (.int 2)=qq (.int n):=rfl;refine aA5 d _ _ _ S w (uR n w) rfl ?_ (aLo hn bZ) hw;have t1:=nX (d<$>2) (.tuple [.str "num",.int w,.int n]) (.tuple []) (.tuple []) (w:Nat) S .num;have t2:=gG (d<$>2) (.tuple [.str "num",.int w,.int n]) (.tuple []) (.tuple []) (w:Nat) S .num;refine bX (S1:=S) rfl (d+2) rfl rfl yAe (cC (S1:=S) (w:=.d (.str Wd.num.s)) (fB rfl rfl) rfl (cC (S1:=S) (w:=.d (.int w)) (fB rfl rfl) rfl (aJ t1 (bP t2 (bC ?_)))));erw[0,i2,nf]
def aSE(d w:Nat)(bZ:1<=w)(hw:w<=64)(S:aE):cl fns (d+4) 47 [.d (.tuple [.str "in",.int w]),.d (.tuple []),.d (.tuple [])] S=qq (.d kJ.d,S):=by have t1:=nX (d<$>2) (.tuple [.str "in",.int w]) (.tuple []) (.tuple []) (w:Nat) S .in;have hk:FtOk kJ w:=⟨xAe w,xAe w,yAd 1,bZ⟩;have r:=aA5 d (.tuple [.str "in",.int w]) (.tuple []) (.tuple []) S w kJ rfl (bX (S1:=S) rfl (d+2) rfl rfl yAe (cC (S1:=S) (w:=.d (.str Wd.in.s)) (fB rfl rfl) rfl (cC (S1:=S) (w:=.d (.int w)) (fB rfl rfl) rfl (bP t1 (bC rfl))))) hk hw;rw[aJF bZ] at r;exact r
def sS:List Ft->List Nat->List Nat->Prop
 |f::Fs,w::ws,n::ns=>(n<2^w/\Hd f n w)/\sS Fs ws ns|[],[],[]=>True|_,_,_=>False
def rX:List Ft->List Nat->Prop
 |f::Fs,w::ws=>Op f w/\rX Fs ws|[],[]=>True|_,_=>False
structure RG(r:Rw)(ws:List Nat)(Fs:List Ft):Prop where
 g:∃ g:Ft,FtOk g r.w/\(∀ d S,cl fns (d+7) 47 [.d r.d,.d (ws*>nD),.d (Fs*>Ft.d)] S=qq (.d (fM g r.w).d,S))/\(∀ ns,sS Fs ws ns->r.wd≠.in->Hd g (cD r ws ns) r.w)/\(r.wd=.in->∀ z,Hd g z r.w)
def sI(h:rX Fs [w]):∃ f,Fs=[f]/\Op f w:=by
 rcases Fs with _|⟨a,_|⟨b,r⟩⟩
 ·exact h.elim
 ·exact⟨a,rfl,h.1⟩
 ·exact h.2.elim
def yQ(h:rX Fs [w,v]):∃ f g,Fs=[f,g]/\Op f w/\Op g v:=by
 rcases Fs with _|⟨a,_|⟨b,_|⟨c,r⟩⟩⟩
 ·exact h.elim
 ·exact h.2.elim
 ·exact⟨a,b,rfl,h.1,h.2.1⟩
 ·exact h.2.2.elim
def aYH(h:rX Fs [w,v,u]):∃ f g k,Fs=[f,g,k]/\Op f w/\Op g v/\Op k u:=by
 rcases Fs with _|⟨a,_|⟨b,_|⟨c,_|⟨e,r⟩⟩⟩⟩
 ·exact h.elim
 ·exact h.2.elim
 ·exact h.2.2.elim
 ·exact⟨a,b,c,rfl,h.1,h.2.1,h.2.2.1⟩
 ·exact h.2.2.2.elim
def zB(h:sS [f] [w] ns):∃ a,ns=[a]/\a<2^w/\Hd f a w:=by
 rcases ns with _|⟨a,_|⟨b,r⟩⟩
 ·exact h.elim
 ·exact⟨a,rfl,h.1⟩
 ·exact h.2.elim
def aE6(h:sS [f,g] [w,v] ns):∃ a b,ns=[a,b]/\(a<2^w/\Hd f a w)/\b<2^v/\Hd g b v:=by
 rcases ns with _|⟨a,_|⟨b,_|⟨c,r⟩⟩⟩
 ·exact h.elim
 ·exact h.2.elim
 ·exact⟨a,b,rfl,h.1,h.2.1⟩
 ·exact h.2.2.elim
def aY0(h:sS [f,g,k] [w,v,u] ns):∃ a b c,ns=[a,b,c]/\(a<2^w/\Hd f a w)/\(b<2^v/\Hd g b v)/\c<2^u/\Hd k c u:=by
 rcases ns with _|⟨a,_|⟨b,_|⟨c,_|⟨e,r⟩⟩⟩⟩
 ·exact h.elim
 ·exact h.2.elim
 ·exact h.2.2.elim
 ·exact⟨a,b,c,rfl,h.1,h.2.1,h.2.2.1⟩
 ·exact h.2.2.2.elim
def nU{r:Rw}(hi:r.wd≠.in)(h2:r.w<=64)(g:Ft)(hg:FtOk g r.w)(ho:∀ d S,cl fns (d+6) 46 [.d r.d,.d (ws*>nD),.d (Fs*>Ft.d)] S=qq (.d g.d,S))(hh:∀ ns,sS Fs ws ns->Hd g (cD r ws ns) r.w):RG r ws Fs:=
 ⟨g,hg,λ d S=>aA5 (d+3) _ _ _ S r.w g (dX r) (ho d S) hg h2,λ ns h _=>hh ns h,λ h=>absurd h hi⟩
def aT4(o:Op f w):RG ⟨.not,w,[a]⟩ [w] [f]:=
 nU (λ h=>nomatch h) o.w2 ⟨f.O,f.N,f.A⟩ ⟨o.ok.lO,o.ok.lN,o.ok.a1,o.ok.aw⟩ (λ d S=>aPV (d+5) _ _ _ (w:Nat) S f rfl rfl rfl) λ ns h=>by
  let(x,rfl,hx,hf):=zB h;exact aP5 o.ok o.dj hx hf
def aVQ{wd:Wd}(h:wd=.left\/wd=.right\/wd=.slide):wd≠.in:=by erw[50,h]<;>decide
def aYm{wd:Wd}(h:wd=.and\/wd=.or\/wd=.xor):wd≠.in:=by erw[50,h]<;>decide
def aXj{wd:Wd}(h:wd=.same\/wd=.less\/wd=.under):wd≠.in:=by erw[50,h]<;>decide
def aVM(s:Sw):s.wd≠.in:=by cases s<;>decide
def aVY(wd:Wd)(aG:wd=.left\/wd=.right\/wd=.slide)(hk:k<64)(o:Op f w):RG ⟨wd,w,[a,k]⟩ [w] [f]:=by
 refine nU (aVQ aG) o.w2 (shN wd w f k) ?_ (λ d S=>aGF (d+5) _ _ _ (w:Nat) S wd aG f k _ rfl rfl rfl rfl (aAV (d+1) wd aG w f k o.ok o.w1 o.w2 () S)) λ ns h=>?_
 ·erw[50,aG]
  ·exact aJh o.ok o.dj o.w1 k
  ·exact aHy o.ok o.dj o.w1 k
  ·exact aQH o.ok o.dj o.w1 k
 ·let(x,rfl,hx,hf):=zB h;erw[50,aG]
  ·exact aO7 o.ok o.dj hx hf k
  ·exact aOr o.ok o.dj hx hf k
  ·exact aOC o.ok o.dj hx hf o.w1 k
def aUm(h1:1<=w)(hv:w<=v)(o:Op f v):RG ⟨.cut,w,[a]⟩ [v] [f]:=
 nU (λ h=>nomatch h) (xAh hv o.w2) (zE v w f) (aTq o.ok o.dj o.w1 h1 hv) (λ d S=>aAT (d+5) _ _ _ (w:Nat) S .cut (.inl rfl) f (v:Nat) _ rfl rfl rfl rfl (aS9 (d+3) v w f hv (xAh hv o.w2) S)) λ ns h=>by
  let(x,rfl,hx,hf):=zB h;exact aP2 o.ok o.dj hx hf hv
def aSj(hv:v<=w)(h2:w<=64)(o:Op f v):RG ⟨.wide,w,[a]⟩ [v] [f]:=
 nU (λ h=>nomatch h) h2 (mG v w f) (aIT o.ok o.dj o.w1 hv) (λ d S=>aAT (d+5) _ _ _ (w:Nat) S .wide (.inr (.inl rfl)) f (v:Nat) _ rfl rfl rfl rfl (aJu (d+2) v w f hv h2 S)) λ ns h=>by
  let(x,rfl,hx,hf):=zB h;exact aO5 o.ok o.dj hx hf hv
def aSJ(hv:v<=w)(h2:w<=64)(o:Op f v):RG ⟨.sign,w,[a]⟩ [v] [f]:=
 nU (λ h=>nomatch h) h2 (yB v w f) (aRm o.ok o.dj o.w1 hv) (λ d S=>aAT (d+5) _ _ _ (w:Nat) S .sign (.inr (.inr rfl)) f (v:Nat) _ rfl rfl rfl rfl (aQZ (d+2) v w f o.w1 hv h2 S)) λ ns h=>by
  let(x,rfl,hx,hf):=zB h;exact aO2 o.ok o.dj hx hf o.w1 hv
def aWP(wd:Wd)(aG:wd=.and\/wd=.or\/wd=.xor)(o:Op f w)(o':Op g w):RG ⟨wd,w,[a,b]⟩ [w,w] [f,g]:=by
 obtain⟨n,hb',eb,ej⟩:∃ n,(n=0\/n=1\/n=2)/\uY wd f g=uZ n f g/\∀ x y:Nat,cD ⟨wd,w,[a,b]⟩ [w,w] [x,y]=bwv n x y:=by
  erw[50,aG]
  ·exact⟨0,.inl rfl,rfl,λ x y=>rfl⟩
  ·exact⟨1,.inr (.inl rfl),rfl,λ x y=>rfl⟩
  ·exact⟨2,.inr (.inr rfl),rfl,λ x y=>rfl⟩
 refine nU (aYm aG) o.w2 (uZ n f g) (aEF hb' o.ok o.dj o'.ok o'.dj) (λ d S=>?_) λ ns h=>?_
 ·have q:=aIL (d+3) (Rw.mk wd w [a,b]).d (.tuple [nD w,nD w]) (.tuple [f.d,g.d]) (w:Nat) S wd aG f g rfl rfl rfl rfl;rw[eb] at q;exact q
 ·let(x,y,rfl,(hx,h1),hy,h2):=aE6 h;rw[ej];exact aRp hb' o.ok o.dj h1 o'.ok o'.dj h2
def aXV(s:Sw)(o:Op f w)(o':Op g w):RG ⟨s.wd,w,[a,b]⟩ [w,w] [f,g]:=by
 let(p,hp,h):=o.ho;let(q,hq,h'):=o'.ho;refine nU (aVM s) o.w2 (uQ s w f g) (aJM s o.ok o'.ok hp hq h h') (λ d S=>aHC d _ _ _ w S s f g rfl rfl rfl rfl o.ok o'.ok (aLh s w f g o.ok o'.ok hp hq h h') o.w2) λ ns hn=>?_
 let(x,y,rfl,(hx,h1),hy,h2):=aE6 hn;have e:cD ⟨s.wd,w,[a,b]⟩ [w,w] [x,y]=rs (s.oc (x:Nat) (y:Nat)) w:=by cases s<;>rfl
 rw[e];exact aPN s o.ok o'.ok hx hy h1 h2
def aS6(wd:Wd)(aG:wd=.same\/wd=.less\/wd=.under)(o:Op f v)(o':Op g v):RG ⟨wd,1,[a,b]⟩ [v,v] [f,g]:=by
 have hk:FtOk (qK wd v f g) 1:=by rcases aXF wd v f g with h|h|h<;>rw[h]<;>exact⟨by decide,by decide,by decide,by decide⟩
 refine nU (aXj aG) (show 1<=64 by omega) (qK wd v f g) hk (λ d S=>aPg (d+1) _ _ _ ((1:Nat):Int) S wd aG v f g rfl rfl rfl rfl rfl ⟨o.ok,o.dj⟩ ⟨o'.ok,o'.dj⟩ o.w1 o.w2) λ ns hn=>?_
 let(x,y,rfl,(hx,h1),hy,h2):=aE6 hn;erw[50,aG]
 ·exact aO8 o.ok hx hy h1 h2
 ·exact aOS o.ok o'.ok hx hy h1 h2
 ·exact aOu o.ok o'.ok o.dj o'.dj o.w1 hx hy h1 h2
def aRi(ot:Op t 1)(o:Op f w)(o':Op g w):RG ⟨.pick,w,[c,a,b]⟩ [1,w,w] [t,f,g]:=
 nU (λ h=>nomatch h) o.w2 (qH t f g) (aYx o.ok o'.ok) (λ d S=>aOa (d+4) _ _ _ (w:Nat) S t f g rfl rfl rfl rfl rfl) λ ns hn=>by
  let(z,x,y,rfl,(hz,h0),(hx,h1),hy,h2):=aY0 hn;exact aOT h0 hz h1 h2
def aUi(h1:1<=w)(h2:w<=64)(hn:n<2^w):RG ⟨.num,w,[n]⟩ [] []:=
 ⟨uR n w,aLo hn h1,λ d S=>aQD (d+3) n w hn h1 h2 S,λ ns _ _=>aRK hn,λ h=>nomatch h⟩
def aXk(h1:1<=w)(h2:w<=64):RG ⟨.in,w,[]⟩ [] []:=by refine⟨kJ,⟨xAe w,xAe w,yAd 1,h1⟩,λ d S=>?_,λ ns _ h=>absurd rfl h,λ _ z=>⟨λ i h=>tJ h,λ i h=>tJ h,mC _ _⟩⟩;have:=aSE (d+3) w h1 h2 S;rw[aJF h1];exact this
def rg(h:RwOk r ws)(o:rX Fs ws):RG r ws Fs:=by
 cases h with
 |inp h1 h2=>
   rcases Fs with _|⟨f,Fs⟩
   ·exact aXk h1 h2
   ·exact o.elim
 |num h1 h2 hn=>
   rcases Fs with _|⟨f,Fs⟩
   ·exact aUi h1 h2 hn
   ·exact o.elim
 |nt h1 h2=>
   let(f,rfl,o1):=sI o;exact aT4 o1
 |sh h1 h2 aG hk=>
   let(f,rfl,o1):=sI o;exact aVY _ aG hk o1
 |cut h1 hv h2=>
   let(f,rfl,o1):=sI o;exact aUm h1 hv o1
 |wide h1 hv h2=>
   let(f,rfl,o1):=sI o;exact aSj hv h2 o1
 |sign h1 hv h2=>
   let(f,rfl,o1):=sI o;exact aSJ hv h2 o1
 |bw h1 h2 aG=>
   let(f,g,rfl,o1,o2):=yQ o;exact aWP _ aG o1 o2
 |sm h1 h2=>
   let(f,g,rfl,o1,o2):=yQ o;exact aXV _ o1 o2
 |cmp h1 h2 aG=>
   let(f,g,rfl,o1,o2):=yQ o;exact aS6 _ aG o1 o2
 |pick h1 h2=>
   let(t,f,g,rfl,ot,o1,o2):=aYH o;exact aRi ot o1 o2
def f0(F:List Ft)(a:Nat):Ft:=F.getD a ⟨0,0,1⟩
def cE(r:Rw)(F:List Ft):List Ft:=(r.args.take (aM r.wd)).map (f0 F)
structure Snd(rs:List Rw)(F:List Ft):Prop where
 ok:∀ (i:Nat) (f:Ft) (w:Nat),F[i]?=qq f->(~~~rs)[i]?=qq w->FtOk f w
 hold:∀ is,bV rs is->∀ (i:Nat) (f:Ft) (w n:Nat),F[i]?=qq f->(~~~rs)[i]?=qq w->(cI rs (~~~rs) is [])[i]?=qq n->Hd f n w
def nL{F:List Ft}(h:a<↑F):F[a]?=qq (f0 F a):=by show F[a]?=qq (F.getD a ⟨0,0,1⟩);rw[xAg,yAa h];rfl
def aJk{rs:List Rw}(p:Prg rs){a w:Nat}(h:(~~~rs)[a]?=qq w):1<=w/\w<=64:=by rw[yAc] at h;let(r,hr,rfl):=Option.map_eq_some_iff.mp h;exact p.ws a r hr
def aDF{rs:List Rw}(p:Prg rs)(s:Snd rs F):∀ (l:List Nat),(∀ a∈l,a<↑F/\a<↑rs)->rX (l.map (f0 F)) (l.map (g0 (~~~rs)))
 |[],_=>True.intro
 |a::l,h=>by
   let(h1,h2):=h a xAc;have hw:=@iR a (rs.map (·.w)) (by rw[yAb];exact h2);have hf:=nL h1;let(is,hi):=p.ins;have hn:=@iR a (cI rs (~~~rs) is []) (by rw[aBa p hi];exact h2);let(w1,w2):=aJk p hw;exact⟨⟨s.ok a _ _ hf hw,⟨_,aBj p hi hn hw,s.hold is hi a _ _ _ hf hw hn⟩,w1,w2⟩,aDF p s l λ b hb=>h b (xAf _ hb)⟩
def aJ5{rs:List Rw}(p:Prg rs)(s:Snd rs F)(hi:bV rs is):∀ (l:List Nat),(∀ a∈l,a<↑F/\a<↑rs)->sS (l.map (f0 F)) (l.map (g0 (~~~rs))) (l.map (g0 (cI rs (~~~rs) is [])))
 |[],_=>True.intro
 |a::l,h=>by
   let(h1,h2):=h a xAc;have hw:=@iR a (rs.map (·.w)) (by rw[yAb];exact h2);have hf:=nL h1;have hn:=@iR a (cI rs (~~~rs) is []) (by rw[aBa p hi];exact h2);exact⟨⟨aBj p hi hn hw,s.hold is hi a _ _ _ hf hw hn⟩,aJ5 p s hi l λ b hb=>h b (xAf _ hb)⟩
structure Nx(rs:List Rw)(F:List Ft)(j:Nat)(r:Rw)(g:Ft):Prop where
 ok:FtOk g r.w
 rule:∀ d S,cl fns (d+7) 47 [.d r.d,.d (.tuple ((aT r (~~~rs)).map nD)),.d (.tuple ((cE r F).map Ft.d))] S=qq (.d g.d,S)
 hold:∀ is,bV rs is->∀ n,(cI rs (~~~rs) is [])[j]?=qq n->Hd g n r.w
def aPb{rs:List Rw}(p:Prg rs)(s:Snd rs F)(hr:rs[j]?=qq r)(hF:j<=↑F):∃ g,Nx rs F j r g:=by
 let(f1,f2):=p.fit j r hr;have hj:j<↑rs:=(gIm hr).1;have hb:∀ a∈r.args.take (aM r.wd),a<↑F/\a<↑rs:=λ a ha=>by have:=f2 a ha;omega
 let(g,gk,rl,h1,h2):=(rg f1 (aDF p s _ hb)).g;refine⟨fM g r.w,aWi gk,rl,λ is hi n hn=>(aPP gk).mpr ?_⟩;by_cases c:r.wd=.in
 ·exact h2 c n
 ·have e:=aKr p.fit is hr c;rw[hn] at e;cases e;exact h1 _ (aJ5 p s hi _ hb) c
def aQF{rs:List Rw}(s:Snd rs F)(hr:rs[↑F]?=qq r)(nx:Nx rs F ↑F r g)(fk:FtOk f r.w)(hN:∀ i,f.N[i]! =true->g.N[i]! =true)(hO:∀ i,f.O[i]! =true->g.O[i]! =true)(hA:f.A<=g.A):Snd rs (F++[f]):=by
 have last:∀ {i:Nat}{x:Ft},(F++[f])[i]?=qq x->F[i]?=qq x\/(i=↑F/\x=f):=λ {i x} h=>by
  by_cases c:i<↑F
  ·rw[xAm c] at h;exact .inl h
  ·have hl:=(gIm h).1;simp at hl;have:i=↑F:=();subst this;rw[yAf (yAd _),yBf] at h;cases h;exact .inr ⟨rfl,rfl⟩
 have hw:(~~~rs)[↑F]?=qq r.w:=by rw[yAc,hr];rfl
 refine⟨λ i x w h1 h2=>?_,λ is hi i x w n h1 h2 h3=>?_⟩
 ·rcases last h1 with h|⟨rfl,rfl⟩
  ·exact s.ok i x w h h2
  ·rw[hw] at h2;cases h2;exact fk
 ·rcases last h1 with h|⟨rfl,rfl⟩
  ·exact s.hold is hi i x w n h h2 h3
  ·rw[hw] at h2;cases h2;have q:=nx.hold is hi n h3;exact⟨λ i hi=>q.1 i (hN i hi),λ i hi=>q.2.1 i (hO i hi),tG hA q.2.2⟩
def aSD(rs:List Rw):Snd rs []:=⟨λ i f w h=>by simp at h,λ is hi i f w n h=>by simp at h⟩
def aQW(d:Nat)(r:Rw)(F:List Ft)(S0:aE)(h:∀ a∈r.args.take (aM r.wd),a<↑F):cl fns (d+2) 9 [.d r.d,.loc ↑S0] (S0++[qq (F.map Ft.d)])=qq (.d (.tuple ((cE r F).map Ft.d)),S0++[qq (F.map Ft.d)]):=by
 have:=oU d r (.loc ↑S0) (.list (F.map Ft.d)) (λ a=>(f0 F a).d) (S0++[qq (F.map Ft.d)]) (λ aF=>by
  show(match (S0++[qq (F.map Ft.d)]++[qq aF])[↑S0]? with|some (qq ds)=>qq (yEx ds)|_=>qz)=_
  rw[yBq,yAf (yAd _),yBf];rfl) λ a ha=>iT (by rw[yAc,nL (h a ha)];rfl)
 rw[this,cE,yBh];rfl
def aQi{r:Rw}{F:List Ft}(h:∀ a∈r.args.take (aM r.wd),a<↑F):cE r (F++[f])=cE r F:=by
 unfold cE;refine yBx λ a ha=>?_
 show(F++[f]).getD a ⟨0,0,1⟩=F.getD a ⟨0,0,1⟩;rw[xAg,xAg,xAm (h a ha)]
def aTT{F:List Ft}(h:a<↑F):f0 (F++[f]) a=f0 F a:=by show(F++[f]).getD a ⟨0,0,1⟩=F.getD a ⟨0,0,1⟩;rw[xAg,xAg,xAm h]
def aU2(F:List Ft)(f:Ft):f0 (F++[f]) ↑F=f:=by show(F++[f]).getD ↑F ⟨0,0,1⟩=f;rw[xAg,yAf (yAd _),yBf];rfl
def vF(rs:List Rw)(F:List Ft):Prop:=∀ (i:Nat) (r:Rw),i<↑F->rs[i]?=qq r->∃ g,g=f0 F i/\Nx rs F i r g
def aIw{rs:List Rw}(p:Prg rs){F:List Ft}(hi:i<=↑F)(hr:rs[i]?=qq r)(nx:Nx rs F i r g):Nx rs (F++[f]) i r g:=by refine⟨nx.ok,?_,nx.hold⟩;rw[aQi λ a ha=>by have:=(p.fit i r hr).2 a ha;omega];exact nx.rule
def aP4{rs:List Rw}(p:Prg rs)(h:vF rs F)(hr:rs[↑F]?=qq r)(nx:Nx rs F ↑F r g):vF rs (F++[g]):=λ i q hi hq=>by
 by_cases c:i<↑F
 ·let(g',rfl,h1):=h i q c hq;exact⟨_,(aTT c).symm,aIw p () hq h1⟩
 ·have ci:i=↑F:=by simp at hi;omega
  subst ci;rw[hr] at hq;cases hq;exact⟨g,(aU2 F g).symm,aIw p (yAd _) hr nx⟩
def aNU(d:Nat)(rs:List Rw)(o:D)(p:Prg rs)(S:aE):∃ F:List Ft,↑F=↑rs/\Snd rs F/\vF rs F/\cl fns (d+9) 48 [.d (rs<*o)] S=qq (.d (F*>Ft.d),S):=by
 have i0:aN (rs<*o) (.int 0)=qq (rs*>Rw.d):=rfl;have pl:=p.l;let(aY,S',p1,F,c3,rfl,rfl,fl,fs,fo):=nK (t:=.one 3) (fi:=lv (d<$>8) aAj) (fb:=xs (d<$>8) aAg) (env:=[qq (.d (rs<*o)),qq (.d (.tuple ((~~~rs).map nD))),qq (.loc ↑S),qz]) (S:=S++[qq []]) (S1:=S++[qq []]) (ds:=rs.map Rw.d)
  (λ j env S'=>∃ (F:List Ft) (c3:Option W),env=[qq (.d (rs<*o)),qq (.d (.tuple ((~~~rs).map nD))),qq (.loc ↑S),c3]/\S'=S++[qq (F.map Ft.d)]/\↑F=j/\Snd rs F/\vF rs F)
  (by
    erw[20,aAj,i0,fH]) ⟨[],qz,rfl,rfl,rfl,aSD rs,λ i r hi=>absurd hi (yCl i)⟩ (by
    rintro j dd env S' hd ⟨F,c3,rfl,rfl,fl,fs,fo⟩;rw[yAc] at hd;let(r,hr,rfl):=Option.map_eq_some_iff.mp hd;subst fl;let(f1,f2):=p.fit _ r hr;have hj:↑F<↑rs:=(gIm hr).1;have hWl:↑(~~~rs)=↑rs:=yAb ..;let(g,nx):=aPb p fs hr (yAd _);have o1:=aDC (d+6) r (~~~rs) (S++[qq (F.map Ft.d)]) λ a ha=>by have:=f2 a ha;omega
    have o2:=aQW (d+6) r F S λ a ha=>f2 a ha
    have rl:=nx.rule (d+1) (S++[qq (F.map Ft.d)]);have ap:dI (S++[qq (F.map Ft.d)]) (.loc ↑S) (.d g.d)=qq (.d .none,S++[qq ((F++[g]).map Ft.d)]):=by
     rw[aAS S (F.map Ft.d) _ (by rw[yAb];omega),yAw];rfl
    refine⟨_,[qq (.d (rs<*o)),qq (.d (.tuple ((~~~rs).map nD))),qq (.loc ↑S),qq (.d r.d)],S++[qq ((F++[g]).map Ft.d)],rfl,?_,F++[g],_,rfl,rfl,by simp,aQF fs hr nx nx.ok (λ i h=>h) (λ i h=>h) (yAd _),aP4 p fo hr nx⟩
    erw[20,aAg,o1,o2,rl,gK,ap])
 rw[yAb] at fl;refine⟨F,fl,fs,fo,?_⟩;have p1':gZ (.one 3) (lv (d<$>8) aAj) (xs (d<$>8) aAg) [qq (.d (rs<*o)),qq (.d (.tuple ((~~~rs).map nD))),qq (.loc ↑S),qz] (S++[qq []])=qq (.nx [qq (.d (rs<*o)),qq (.d (.tuple ((~~~rs).map nD))),qq (.loc ↑S),c3],S++[qq (F.map Ft.d)]):=p1;have tk1:∀ x,yEt ↑S (S++[x])=S:=λ x=>yHf
 rw[bE rfl (d+8) _ S rfl];have hq66:=aAh (d+7) rs o ();erw[11,aHg,hq66,gI,p1',qV,jE,jG,tk1]
def aDa:∀ (rs:List Rw) (ws:List Nat),bS ws rs->∀ (j:Nat) (r:Rw),rs[j]?=qq r->cN (ws++(rs.take j).map (·.w)) r
 |[],_,_,j,r,h=>by simp at h
 |q::rs,ws,⟨h1,h2⟩,0,r,h=>by
   cases h;simpa using h1
 |q::rs,ws,⟨h1,h2⟩,j+1,r,h=>by
   have:=aDa rs (ws++[q.w]) h2 j r (by simpa using h);simpa using this
def aMO{a n:Nat}(h:a<n):∀ x∈[a],x<n:=λ x hx=>by
 rw[List.mem_singleton.mp hx];exact h
def aMM{a b n:Nat}(h:a<n)(h':b<n):∀ x∈[a,b],x<n:=λ x hx=>by
 rcases List.mem_cons.mp hx with rfl|hx
 ·exact h
 ·exact aMO h' x hx
def aZj{a b c n:Nat}(h:a<n)(h':b<n)(h'':c<n):∀ x∈[a,b,c],x<n:=λ x hx=>by
 rcases List.mem_cons.mp hx with rfl|hx
 ·exact h
 ·exact aMM h' h'' x hx
def aML:∀ x∈([]:List Nat),x<n:=λ x hx=>by simp at hx
section
variable {ws W:List Nat}{n:Nat}(hw:∀ a v, ws[a]?=qq v->g0 W a=v /\ 1 <= v /\ v <= 64 /\ a<n)
include hw
theorem rL{args:List Nat}(e:(args.take (aM wd))=[a])(h:ws[a]?=qq v)(k:RwOk ⟨wd,w,args⟩ [v]):RwOk ⟨wd,w,args⟩ (aT ⟨wd,w,args⟩ W)/\∀ x∈args.take (aM wd),x<n:=by
 let(e1,_,_,e4):=hw a v h;have:aT ⟨wd,w,args⟩ W=[v]:=by
  show(args.take (aM wd)).map (g0 W)=[v];rw[e,yAt,yGs,e1]
 rw[this,e];exact⟨k,aMO e4⟩
theorem rE{args:List Nat}(e:(args.take (aM wd))=[a,b])(h:ws[a]?=qq v)(h':ws[b]?=qq u)(k:RwOk ⟨wd,w,args⟩ [v,u]):RwOk ⟨wd,w,args⟩ (aT ⟨wd,w,args⟩ W)/\∀ x∈args.take (aM wd),x<n:=by
 let(e1,_,_,e4):=hw a v h;let(d1,_,_,d4):=hw b u h';have:aT ⟨wd,w,args⟩ W=[v,u]:=by
  show(args.take (aM wd)).map (g0 W)=[v,u];rw[e,yAt,yAt,yGs,e1,d1]
 rw[this,e];exact⟨k,aMM e4 d4⟩
omit hw in
theorem aXO(h:cN ws ⟨wd,w,[]⟩):RwOk ⟨wd,w,[]⟩ (aT ⟨wd,w,[]⟩ W)/\∀ x∈yEt (aM wd) [],x<n:=by
 cases wd
 case «in» => exact⟨.inp h.1 h.2.1,aML⟩
 all_goals exact h.2.2.elim
theorem aW3(h:cN ws ⟨wd,w,[a]⟩):RwOk ⟨wd,w,[a]⟩ (aT ⟨wd,w,[a]⟩ W)/\∀ x∈yEt (aM wd) [a],x<n:=by
 cases wd
 case num=>exact⟨.num h.1 h.2.1 h.2.2,aML⟩
 case not=>exact rL hw rfl h.2.2 (.nt h.1 h.2.1)
 case cut=>
  let(v,q1,q2):=h.2.2;exact rL hw rfl q1 (.cut h.1 q2 (hw a v q1).2.2.1)
 case wide=>
  let(v,q1,q2):=h.2.2;exact rL hw rfl q1 (.wide (hw a v q1).2.1 q2 h.2.1)
 case sign=>
  let(v,q1,q2):=h.2.2;exact rL hw rfl q1 (.sign (hw a v q1).2.1 q2 h.2.1)
 all_goals exact h.2.2.elim
theorem aEw(aG:wd=.same\/wd=.less\/wd=.under)(q:w=1/\∃ v,ws[a]?=qq v/\ws[b]?=qq v)(e:aM wd=2):RwOk ⟨wd,w,[a,b]⟩ (aT ⟨wd,w,[a,b]⟩ W)/\∀ x∈yEt (aM wd) [a,b],x<n:=by let(rfl,v,q1,q2):=q;exact rE hw (by rw[e];rfl) q1 q2 (.cmp (hw a v q1).2.1 (hw a v q1).2.2.1 aG)
theorem aYv(h:cN ws ⟨wd,w,[a,b]⟩):RwOk ⟨wd,w,[a,b]⟩ (aT ⟨wd,w,[a,b]⟩ W)/\∀ x∈yEt (aM wd) [a,b],x<n:=by
 cases wd
 case left=>exact rL hw rfl h.2.2.1 (.sh h.1 h.2.1 (.inl rfl) h.2.2.2)
 case right=>exact rL hw rfl h.2.2.1 (.sh h.1 h.2.1 (.inr (.inl rfl)) h.2.2.2)
 case slide=>exact rL hw rfl h.2.2.1 (.sh h.1 h.2.1 (.inr (.inr rfl)) h.2.2.2)
 case and=>exact rE hw rfl h.2.2.1 h.2.2.2 (.bw h.1 h.2.1 (.inl rfl))
 case or=>exact rE hw rfl h.2.2.1 h.2.2.2 (.bw h.1 h.2.1 (.inr (.inl rfl)))
 case xor=>exact rE hw rfl h.2.2.1 h.2.2.2 (.bw h.1 h.2.1 (.inr (.inr rfl)))
 case add=>exact rE hw rfl h.2.2.1 h.2.2.2 (.sm (s:=.add) h.1 h.2.1)
 case sub=>exact rE hw rfl h.2.2.1 h.2.2.2 (.sm (s:=.sub) h.1 h.2.1)
 case mul=>exact rE hw rfl h.2.2.1 h.2.2.2 (.sm (s:=.mul) h.1 h.2.1)
 case same=>exact aEw hw (.inl rfl) h.2.2 rfl
 case less=>exact aEw hw (.inr (.inl rfl)) h.2.2 rfl
 case under=>exact aEw hw (.inr (.inr rfl)) h.2.2 rfl
 all_goals exact h.2.2.elim
theorem aVR(h:cN ws ⟨wd,w,[a,b,c]⟩):RwOk ⟨wd,w,[a,b,c]⟩ (aT ⟨wd,w,[a,b,c]⟩ W)/\∀ x∈yEt (aM wd) [a,b,c],x<n:=by
 cases wd
 case pick=>
  let(q1,q2,q3):=h.2.2;let(e1,_,_,e4):=hw a _ q1;let(d1,_,_,d4):=hw b _ q2;let(c1,_,_,c4):=hw c _ q3;have:aT ⟨.pick,w,[a,b,c]⟩ W=[1,w,w]:=by
   show [g0 W a,g0 W b,g0 W c]=[1,w,w];rw[e1,d1,c1]
  rw[this];exact⟨.pick h.1 h.2.1,aZj e4 d4 c4⟩
 all_goals exact h.2.2.elim
omit hw in
theorem aWk(h:cN ws ⟨wd,w,a::b::c::e::t⟩):False:=by
 cases wd
 all_goals exact h.2.2
theorem aIp(h:cN ws r):RwOk r (aT r W)/\∀ x∈r.args.take (aM r.wd),x<n:=by
 let(wd,w,args):=r
 match args,h with
 |[],h=>exact aXO h|[a],h=>exact aW3 hw h|[a,b],h=>exact aYv hw h|[a,b,c],h=>exact aVR hw h|_::_::_::_::_,h=>exact(aWk h).elim
end
def aIc:∀ rs:List Rw,∃ is,bV rs is
 |[]=>⟨[],rfl⟩
 |r::rs=>by
   let(is,h):=aIc rs;by_cases c:r.wd=.in
   ·refine⟨0::is,?_⟩;rw[bV,if_pos c];exact⟨0,is,rfl,xAe _,h⟩
   ·refine⟨is,?_⟩;rw[bV,if_neg c];exact h
def xR{rs:List Rw}(h:bS [] rs)(hl:↑rs<=100):Prg rs:=by
 have ws:∀ (j:Nat) (r:Rw),rs[j]?=qq r->1<=r.w/\r.w<=64:=λ j r hr=>by
  have:=aDa rs [] h j r hr;exact⟨this.1,this.2.1⟩
 refine⟨hl,λ j r hr=>?_,aIc rs,ws⟩;have ok:=aDa rs [] h j r hr;rw[yDp] at ok;refine aIp (n:=j) (λ a v ha=>?_) ok;have hj:j<↑rs:=(gIm hr).1;have haj:a<j:=by
  have:=(gIm ha).1;rw[yAb,yBk] at this;omega
 rw[yAc,yDa haj] at ha;let(q,hq,rfl):=Option.map_eq_some_iff.mp ha;let(w1,w2):=ws a q hq;refine⟨?_,w1,w2,haj⟩;show(~~~rs).getD a 0=q.w;rw[xAg,yAc,hq];rfl
noncomputable abbrev sT(T:aE)(ns:List Int)(k:Nat)(x:Int):aE:=qq (aV ns k x)::T
def tX(T:aE)(ns:List Int)(k:Nat)(x:Int)(h:↑T<=40):aU (qz::T) 0 50 ns k x []=sT T ns k x:=by unfold aU;rw[yDc,yFq];simp;omega
def aE7(T:aE)(h:↑T<=40):At0 (qz::T) 0 50:=⟨by simp,by decide⟩
def aLc{x:Int}(T:aE)(hT:↑T<=40)(d w:Nat)(hw:1<=w)(bB:w<=64)(hk:k<=98000):∃ (r k':Nat) (x':Int),r<2^w/\k'<=k+5/\cl fns (d+3) 77 [.loc 0,.d (.int w)] (sT T ns k x)=qq (.d (.int r),sT T ns k' x'):=by let(r,k',x',hr,hk',e):=@xQ _ _ _ k ns x [] (aE7 T hT) d w hw bB hk;rw[tX T _ _ _ hT,tX T _ _ _ hT] at e;exact⟨r,k',x',hr,hk',e⟩
def aTZ{x:Int}(T:aE)(hT:↑T<=40)(d m:Nat)(hm:0<m)(hm2:m<2^64)(hk:k<=100000):∃ (r:Nat) (x':Int),r<m/\cl fns (d+1) 74 [.loc 0,.d (.int m)] (sT T ns k x)=qq (.d (.int r),sT T ns (k+1) x'):=by let(r,x',hr,e):=@fS _ _ _ k ns x [] (aE7 T hT) d m hm hm2 hk;rw[tX T _ _ _ hT,tX T _ _ _ hT] at e;exact⟨r,x',hr,e⟩
def aO4{x:Int}(d:Nat)(rs:List Rw)(o:D)(p:Prg rs)(hk:k<=50000):∃ (is:List Nat) (k':Nat) (x':Int),bV rs is/\k'<=k+5*↑rs/\cl fns (d+4) 85 [.loc 0,.d (rs<*o)] [qq (aV ns k x)]=qq (.d (is*>nD),[qq (aV ns k' x')]):=by
 have i0:aN (rs<*o) (.int 0)=qq (rs*>Rw.d):=rfl;have pl:=p.l;let(aY,S',p1,is,k',x',c3,hk',al,hi,rfl,rfl):=nK (t:=.one 3) (fi:=lv (d<$>3) aAd) (fb:=xs (d<$>3) vJ) (env:=[#[0],qq (.d (rs<*o)),#[1],qz]) (S:=[qq (aV ns k x),qq []]) (S1:=[qq (aV ns k x),qq []]) (ds:=rs.map Rw.d)
  (λ j env S'=>∃ (is:List Nat) (k':Nat) (x':Int) (c3:Option W),k'<=k+5*j/\↑is<=j/\(∀ is',bV (rs.drop j) is'->bV rs (is++is'))/\env=[#[0],qq (.d (rs<*o)),#[1],c3]/\S'=[qq (aV ns k' x'),qq (is.map nD)])
  (by
    erw[20,aAd,i0,fH]) ⟨[],k,x,qz,by omega,yAd _,λ is' h=>h,rfl,rfl⟩ (by
    rintro j dd env S' hd ⟨is,k',x',c3,hk',al,hi,rfl,rfl⟩;rw[yAc] at hd;let(r,hr,rfl):=Option.map_eq_some_iff.mp hd;have hj:j<↑rs:=(gIm hr).1;let(w1,w2):=p.ws j r hr;by_cases c:r.wd=.in
    ·have t:aS .Eq (.str r.wd.s) (.str "in")=qq (.bool true):=by rw[c];exact bN .in .in
     let(n,k2,x2,hn,hk2,e2):=@aLc k' ns x' [qq (is.map nD)] (by simp) d r.w w1 w2 ();have ap:dI [qq (aV ns k2 x2),qq (is.map nD)] (.loc 1) (.d (.int n))=qq (.d .none,[qq (aV ns k2 x2),qq ((is++[n]).map nD)]):=by
      have:=aAS [qq (aV ns k2 x2)] (is.map nD) (.int n) (by rw[yAb];omega);rw[yAw];exact this
     refine⟨_,[#[0],qq (.d (rs<*o)),#[1],qq (.d r.d)],[qq (aV ns k2 x2),qq ((is++[n]).map nD)],rfl,?_,is++[n],k2,x2,_,by omega,by simp;omega,λ is' h=>?_,rfl,rfl⟩
     ·erw[1,vJ,iF,t,dX,e2,gK,ap]
     ·have:=hi (n::is') (by
       rw[aAD hr,bV,if_pos c];exact⟨n,is',rfl,hn,h⟩)
      rw[yBq];exact this
    ·have t:aS .Eq (.str r.wd.s) (.str "in")=qq (.bool false):=by
      have:=bN r.wd .in;rw[dqF c] at this;exact this
     refine⟨_,[#[0],qq (.d (rs<*o)),#[1],qq (.d r.d)],[qq (aV ns k' x'),qq (is.map nD)],rfl,?_,is,k',x',_,by omega,by omega,λ is' h=>hi is' (by rw[aAD hr,bV,if_neg c];exact h),rfl,rfl⟩
     erw[20,vJ,iF,t])
 rw[yAb] at hk' hi;have hin:=hi [] (by rw[yFg];rfl);rw[yDz] at hin;refine⟨is,k',x',hin,hk',?_⟩;have p1':gZ (.one 3) (lv (d<$>3) aAd) (xs (d<$>3) vJ) [#[0],qq (.d (rs<*o)),#[1],qz] [qq (aV ns k x),qq []]=qq (.nx [#[0],qq (.d (rs<*o)),#[1],c3],[qq (aV ns k' x'),qq (is.map nD)]):=p1;rw[bE rfl (d+3) _ _ rfl];erw[11,aGj,gI,p1',jE,jG]
def aEM{m:Nat}(h:m[i]! =true):i<bl m:=by
 by_cases c:i<bl m
 ·exact c
 ·rw[cP (jS m) ()] at h;cases h
def aRB(i t:Nat):(2^i)[t]! =decide (i=t):=yCj
def eS(x w:Nat):Nat:=if x/2^w=0 then x else (x&&&(2^w-1))|||2^(w-1)
def wN(hw:1<=w):(eS x w)[t]! =true ↔ (t<w/\x[t]! =true)\/(t=w-1/\∃ j,w<=j/\x[j]! =true):=by
 unfold eS;split
 ·rename_i h;rw[aCL] at h;constructor
  ·intro z;refine .inl ⟨?_,z⟩;by_cases c:t<w
   ·exact c
   ·rw[h t ()] at z;cases z
  ·rintro (⟨_,z⟩|⟨_,j,h1,h2⟩)
   ·exact z
   ·rw[h j h1] at h2;cases h2
 ·rename_i h;rw[xAo,yAh,cV,aRB];have h':∃ j,w<=j/\x[j]! =true:=by
   rw[aCL] at h;by_cases c:∃ j,w<=j/\x[j]! =true
   ·exact c
   ·refine absurd (λ i hi=>?_) h;cases q:x[i]! with
    |false=>rfl|true=>exact absurd ⟨i,hi,q⟩ c
  constructor
  ·intro z;simp only[yBw,yAp,decide_eq_true_eq] at z;rcases z with ⟨z1,z2⟩|z
   ·exact .inl ⟨z2,z1⟩
   ·exact .inr ⟨z.symm,h'⟩
  ·rintro (⟨z1,z2⟩|⟨z,_⟩)
   ·simp[z1,z2]
   ·simp[z]
def aJs(hw:1<=w):eS x w<2^w:=by
 apply yCv;intro i hi;cases q:(eS x w)[i]! with
 |false=>rfl
 |true=>
   rcases (wN hw).mp q with ⟨h,_⟩|⟨h,_⟩<;>omega
structure Fc where
 N:Nat
 O:Nat
 A:Nat
noncomputable instance:Inhabited Fc:=⟨⟨0,0,0⟩⟩
def aO(wd:Wd)(w kk:Nat)(ws:List Nat)(fs:List Fc)(m:Nat):List Nat:=
 if m=0 then yAg (aM wd) 0 else
 match wd with
 |.in|.num=>[]
 |.not|.cut=>[m]
 |.xor=>[m,m]|.and=>[bJ m (bJ (fs.getD 1 default).N (fs.getD 0 default).N),bJ m (fs.getD 0 default).N]|.or=>[bJ m (bJ (fs.getD 1 default).O (fs.getD 0 default).O),bJ m (fs.getD 0 default).O]
 |.add|.sub=>[2^bl m-1,2^bl m-1]
 |.mul=>[2^(bl m-min (bl m) (lr (fs.getD 1 default).N))-1,2^(bl m-min (bl m-min (bl m) (lr (fs.getD 1 default).N)) (lr (fs.getD 0 default).N))-1]|.left=>[m/2^kk]|.right=>[(m*2^kk)&&&(2^w-1)]|.slide=>[eS (m*2^kk) w]|.wide=>[m&&&(2^ws.getD 0 0-1)]|.sign=>[eS m (ws.getD 0 0)]
 |.same|.less|.under=>[2^ws.getD 0 0-1,2^ws.getD 1 0-1]
 |.pick=>if (fs.getD 0 default).O=1 then [1,m,0] else if (fs.getD 0 default).N=1 then [1,0,m] else [1,m,m]
def aB7(wd:Wd)(w:Nat)(ws:List Nat):Prop:=1<=w/\w<=64/\match wd with
 |.in|.num=>ws=[]
 |.not|.left|.right|.slide=>ws=[w]
 |.and|.or|.xor|.add|.sub|.mul=>ws=[w,w]
 |.cut=>∃ v,ws=[v]/\w<=v/\v<=64
 |.wide|.sign=>∃ v,ws=[v]/\v<=w/\1<=v
 |.same|.less|.under=>w=1/\∃ v,ws=[v,v]/\1<=v/\v<=64
 |.pick=>ws=[1,w,w]
def wE:↑(aO wd w kk ws fs m)=aM wd:=by
 unfold aO;split
 ·simp
 ·cases wd<;>first|rfl|(simp only;split<;>first|rfl|(split<;>rfl))
def aAl(x k t:Nat):(x*2^k)[t]! =(decide (k<=t)&&x[(t-k)]!):=by rw[Nat.testBit_mul_two_pow]
def iS(h:k<=v):2^k-1<2^v:=by have h1:=xAe k;have h2:(2:Nat)^k<=2^v:=yAo (·) h;omega
def aA0(h:m<2^v):bJ m y<2^v:=xAi (yFa _ _) h
def aSc(wd:Wd)(w kk:Nat)(ws:List Nat)(fs:List Fc)(m c v:Nat)(hk:aB7 wd w ws)(hm:m<2^w)(hv:ws[c]?=qq v):(aO wd w kk ws fs m).getD c 0<2^v:=by
 by_cases h0:m=0
 ·subst h0;have e:(aO wd w kk ws fs 0).getD c 0=0:=by
   unfold aO;rw[if_pos rfl,xAg,yEj];split<;>rfl
  rw[e];exact xAe _
 have hb:bl m<=w:=pP hm;have e0:aO wd w kk ws fs m=_:=if_neg h0;rw[e0];have one:∀ {a u:Nat},ws=[u]->a<2^u->[a].getD c 0<2^v:=λ {a u} e h=>by
  subst e
  match c,hv with
  |0,hv=>cases hv;exact h|c+1,hv=>simp at hv
 have two:∀ {a b u x:Nat},ws=[u,x]->a<2^u->b<2^x->[a,b].getD c 0<2^v:=λ {a b u x} e h h2=>by
  subst e
  match c,hv with
  |0,hv=>cases hv;exact h|1,hv=>cases hv;exact h2|c+2,hv=>simp at hv
 have three:∀ {a b e u x y:Nat},ws=[u,x,y]->a<2^u->b<2^x->e<2^y->[a,b,e].getD c 0<2^v:=λ {a b e u x y} e' h h2 h3=>by
  subst e'
  match c,hv with
  |0,hv=>cases hv;exact h|1,hv=>cases hv;exact h2|2,hv=>cases hv;exact h3|c+3,hv=>simp at hv
 let(bZ,bB,hk):=hk;cases wd with
 | «in» => rw[hk] at hv;simp at hv|num=>rw[hk] at hv;simp at hv|not=>exact one hk hm
 |cut=>
   let(u,e,h1,h2):=hk;exact one e (xAb hm (yAo (·) h1))
 |xor=>exact two hk hm hm|and=>exact two hk (aA0 hm) (aA0 hm)|or=>exact two hk (aA0 hm) (aA0 hm)|add=>exact two hk (iS hb) (iS hb)|sub=>exact two hk (iS hb) (iS hb)|mul=>exact two hk (iS ()) (iS ())|left=>exact one hk (xAi (Nat.div_le_self _ _) hm)|right=>exact one hk (Nat.and_lt_two_pow _ (iS (yAd _)))|slide=>exact one hk (aJs bZ)
 |wide=>
   let(u,e,h1,h2):=hk;subst e;exact one rfl (Nat.and_lt_two_pow _ (iS (yAd _)))
 |sign=>
   let(u,e,h1,h2):=hk;subst e;exact one rfl (aJs h2)
 |same=>
   let(_,u,e,h1,h2):=hk;subst e;exact two rfl (iS (yAd _)) (iS (yAd _))
 |less=>
   let(_,u,e,h1,h2):=hk;subst e;exact two rfl (iS (yAd _)) (iS (yAd _))
 |under=>
   let(_,u,e,h1,h2):=hk;subst e;exact two rfl (iS (yAd _)) (iS (yAd _))
 |pick=>
   simp only;split
   ·exact three hk (·) hm (xAe _)
   ·split
    ·exact three hk (·) (xAe _) hm
    ·exact three hk (·) hm hm
def Fc.d(f:Fc):D:=.tuple [.int f.N,.int f.O,.int f.A]
def aB4(f:Fc):aN f.d (.int 0)=qq (.int f.N):=rfl
def aCa(f:Fc):aN f.d (.int 1)=qq (.int f.O):=rfl
def aLE(a:D):aN (.tuple [a]) (.int 0)=qq a:=rfl
def aBW(a b:D):aN (.tuple [a,b]) (.int 0)=qq a:=rfl
def aBT(a b:D):aN (.tuple [a,b]) (.int 1)=qq b:=rfl
def aYr(a b c:D):aN (.tuple [a,b,c]) (.int 0)=qq a:=rfl
def aGC(d a b m:Nat)(S:aE):cl fns (d+1) 12 [.d (.int a),.d (.int b),.d (.int m)] S=qq (.d (.tuple [.int ((bJ m (bJ b a):Nat):Int),.int ((bJ m a:Nat):Int)]),S):=by rw[bE rfl d _ S rfl];erw[11,aF6,aJa,aHP]
def aPC(i j:Nat):(if ((j:Nat):Int)<((i:Nat):Int) then ((j:Nat):Int) else ((i:Nat):Int))=((min i j:Nat):Int):=by
 by_cases c:j<i
 ·rw[if_pos (),yDr ()]
 ·rw[if_neg (),yDn ()]
def aN1(d a b m:Nat)(hm:m<2^64)(S:aE):cl fns (d+3) 13 [.d (.int a),.d (.int b),.d (.int m)] S=qq (.d (.tuple [.int ((2^(bl m-min (bl m) (lr b))-1:Nat):Int),.int ((2^(bl m-min (bl m-min (bl m) (lr b)) (lr a))-1:Nat):Int)]),S):=by have hb:=pP hm;have e1:((bl m:Nat):Int)-((min (bl m) (lr b):Nat):Int)=((bl m-min (bl m) (lr b):Nat):Int):=();have e2:((bl m:Nat):Int)-((min (bl m-min (bl m) (lr b)) (lr a):Nat):Int)=((bl m-min (bl m-min (bl m) (lr b)) (lr a):Nat):Int):=();rw[bE rfl (d+2) _ S rfl];erw[20,gL,aHr,wF (d+1),aEb d,nW,aPC,cO,e1,e2,cT (d+1) (bl m-min (bl m) (lr b)) (),cT (d+1) (bl m-min (bl m-min (bl m) (lr b)) (lr a)) ()]
def aGY(d y w:Nat)(hw:1<=w)(bB:w<=1000)(S:aE):cl fns (d+2) 14 [.d (.int y),.d (.int w)] S=qq (.d (.int ((eS y w:Nat):Int)),S):=by
 have e1:(w:Int)-1=((w-1:Nat):Int):=();rw[bE rfl (d+1) _ S rfl];unfold eS;by_cases c:y/2^w=0
 ·have d1:(y/2^w==0)=true:=by rw[beq_iff_eq];exact c
  rw[if_pos c];erw[11,aDO,oX,aZ,dF,d1]
 ·have d1:(y/2^w==0)=false:=by rw[beq_eq_false_iff_ne];exact c
  rw[if_neg c];have hq67:=cT d w ();have hq68:=gB (show w-1<=100000 by omega);erw[11,aDO,oX,aZ,dF,d1,hq67,dC,cO,e1,hq68,eQ]
def aRn(d w kk m:Nat)(S:aE):cl fns (d+3) 15 [.d (.str "left"),.d (.int w),.d (.int kk),.d (.int m)] S=qq (.d (.int ((m/2^kk:Nat):Int)),S):=by have c1:aS .Eq (.str "left") (.str "left")=qq (.bool true):=bN .left .left;rw[bE rfl (d+2) _ S rfl];erw[11,aAm,c1,oX]
def aP3(d w kk m:Nat)(hw:w<=64)(hk:kk<=64)(hm:m<2^64)(S:aE):cl fns (d+3) 15 [.d (.str "right"),.d (.int w),.d (.int kk),.d (.int m)] S=qq (.d (.int (((m*2^kk)&&&(2^w-1):Nat):Int)),S):=by have c1:aS .Eq (.str "right") (.str "left")=qq (.bool false):=bN .right .left;have c2:aS .Eq (.str "right") (.str "right")=qq (.bool true):=bN .right .right;rw[bE rfl (d+2) _ S rfl];have hq69:=tL hm (show 64+kk<=100000 by omega);have hq70:=cT (d+1) w ();erw[11,aAm,c1,c2,hq69,hq70,dC]
def aPM(d w kk m:Nat)(bZ:1<=w)(hw:w<=64)(hk:kk<=64)(hm:m<2^64)(S:aE):cl fns (d+3) 15 [.d (.str "slide"),.d (.int w),.d (.int kk),.d (.int m)] S=qq (.d (.int ((eS (m*2^kk) w:Nat):Int)),S):=by have c1:aS .Eq (.str "slide") (.str "left")=qq (.bool false):=bN .slide .left;have c2:aS .Eq (.str "slide") (.str "right")=qq (.bool false):=bN .slide .right;rw[bE rfl (d+2) _ S rfl];have hq71:=tL hm (show 64+kk<=100000 by omega);erw[11,aAm,c1,c2,hq71,aGY d _ w bZ ()]
def aNM(d:Nat)(f:Fc)(m:Nat)(S:aE):cl fns (d+1) 16 [.d f.d,.d (.int m)] S=qq (.d (.tuple ((if f.O=1 then [1,m,0] else if f.N=1 then [1,0,m] else [1,m,m]).map nD)),S):=by
 rw[bE rfl d _ S rfl];by_cases c1:f.O=1
 ·have d1:(f.O==1)=true:=by rw[beq_iff_eq];exact c1
  rw[if_pos c1];erw[11,aAz,aCa,aZ,kN,d1]
 ·have d1:(f.O==1)=false:=by rw[beq_eq_false_iff_ne];exact c1
  rw[if_neg c1];by_cases c2:f.N=1
  ·have d2:(f.N==1)=true:=by rw[beq_iff_eq];exact c2
   rw[if_pos c2];erw[11,aAz,aCa,aB4,aZ,kN,d1,d2]
  ·have d2:(f.N==1)=false:=by rw[beq_eq_false_iff_ne];exact c2
   rw[if_neg c2];erw[11,aAz,aCa,aB4,aZ,kN,d1,d2]
def tQ(wd:Wd)(args:List Nat)(kk:Nat):Prop:=match wd with
 |.in=>args=[]|.num=>∃ n,args=[n]
 |.not|.cut|.wide|.sign=>∃ a,args=[a]
 |.left|.right|.slide=>∃ a,args=[a,kk]/\kk<64
 |.pick=>∃ a b c,args=[a,b,c]|_=>∃ a b,args=[a,b]
def aAP(h:tQ wd args kk):↑(args.take (aM wd))=aM wd:=by
 cases wd<;>first
  |(obtain rfl:=h;rfl)
  |(let(a,b,c,rfl):=h;rfl)
  |(let(a,b,rfl):=h;rfl)
  |(let(a,rfl,_):=h;rfl)
  |(let(a,rfl):=h;rfl)
def aEC(a:Wd):aS .In (.str a.s) (.tuple [.str "add",.str "sub"])=qq (.bool (decide (a=.add\/a=.sub))):=by cases a<;>rfl
def aW2:aN (Rw.mk wd w [a,k]).d (.int 3)=qq (.int k):=rfl
def aCd{α:Type}{l:List α}(h:↑l=1):∃ a,l=[a]:=List.length_eq_one_iff.mp h
def aEW{α:Type}{l:List α}(h:↑l=2):∃ a b,l=[a,b]:=by
 match l,h with
 |[a,b],_=>exact⟨a,b,rfl⟩
def aY9{α:Type}{l:List α}(h:↑l=3):∃ a b c,l=[a,b,c]:=by
 match l,h with
 |[a,b,c],_=>exact⟨a,b,c,rfl⟩
noncomputable abbrev eA(R W G:D)(m:Nat)(x:Wd):bI:=[qq (.d R),qq (.d W),qq (.d G),(m:),qq (.d (.str x.s))]
def aK:Nat->Sx
 |0=>aQ aGf|k+1=>aQ (aK k)
section
variable (C:Calls)(R W G:D)(m:Nat)(S:aE)(x:Wd)
theorem aFc:tv C (.cmp .Eq (.var 4) (.str "and")) (eA R W G m x) S=qq (decide (x=.and),S):=cF rfl (bN x .and)
theorem aL7:tv C (.cmp .Eq (.var 4) (.str "or")) (eA R W G m x) S=qq (decide (x=.or),S):=cF rfl (bN x .or)
theorem aME:tv C (.cmp .In (.var 4) (.tup (.cons (.str "add") (.cons (.str "sub") .nil)))) (eA R W G m x) S=qq (decide (x=.add\/x=.sub),S):=fF rfl rfl (aEC x)
theorem aMC:tv C (.cmp .Eq (.var 4) (.str "mul")) (eA R W G m x) S=qq (decide (x=.mul),S):=cF rfl (bN x .mul)
theorem aMf:tv C (.cmp .In (.var 4) (.con "SHIFTS" kQ)) (eA R W G m x) S=qq (decide (x=.left\/x=.right\/x=.slide),S):=fF rfl rfl (oV x)
theorem aE3:tv C (.cmp .Eq (.var 4) (.str "wide")) (eA R W G m x) S=qq (decide (x=.wide),S):=cF rfl (bN x .wide)
theorem aMi:tv C (.cmp .Eq (.var 4) (.str "sign")) (eA R W G m x) S=qq (decide (x=.sign),S):=cF rfl (bN x .sign)
theorem aFg:tv C (.cmp .In (.var 4) (.con "COMPARES" nB)) (eA R W G m x) S=qq (decide (x=.same\/x=.less\/x=.under),S):=fF rfl rfl (pE x)
theorem aMh:tv C (.cmp .Eq (.var 4) (.str "pick")) (eA R W G m x) S=qq (decide (x=.pick),S):=cF rfl (bN x .pick)
variable {C R W G m S}{r:Option (Fl×aE)}
theorem jZ(e:aK k=.seq (.ifs c t .skip) (aK (k+1)))(h:tv C c (eA R W G m x) S=qq (b,S))(hb:b=false)(g:xs C (aK (k+1)) (eA R W G m x) S=r):xs C (aK k) (eA R W G m x) S=r:=by subst hb;rw[e];exact aJ h g
theorem aMB(h:(decide (x=.and)||decide (x=.or))=false)(g:xs C (aK 2) (eA R W G m x) S=r):xs C (aK 0) (eA R W G m x) S=r:=by let(h1,h2):=Bool.or_eq_false_iff.mp h;exact jZ x rfl (aFc C R W G m S x) h1 (jZ x rfl (aL7 C R W G m S x) h2 g)
theorem aMA(h:(decide (x=.and)||decide (x=.or))=false)(h2:decide (x=.add\/x=.sub)=false)(g:xs C (aK 3) (eA R W G m x) S=r):xs C (aK 0) (eA R W G m x) S=r:=aMB x h (jZ x rfl (aME C R W G m S x) h2 g)
theorem aMu(h:(decide (x=.and)||decide (x=.or))=false)(h2:(decide (x=.add\/x=.sub)||decide (x=.mul))=false)(g:xs C (aK 4) (eA R W G m x) S=r):xs C (aK 0) (eA R W G m x) S=r:=by let(h3,h4):=Bool.or_eq_false_iff.mp h2;exact aMA x h h3 (jZ x rfl (aMC C R W G m S x) h4 g)
theorem aFk(h:(decide (x=.and)||decide (x=.or))=false)(h2:(decide (x=.add\/x=.sub)||decide (x=.mul))=false)(h5:decide (x=.left\/x=.right\/x=.slide)=false)(g:xs C (aK 5) (eA R W G m x) S=r):xs C (aK 0) (eA R W G m x) S=r:=aMu x h h2 (jZ x rfl (aMf C R W G m S x) h5 g)
theorem aFj(h:(decide (x=.and)||decide (x=.or))=false)(h2:(decide (x=.add\/x=.sub)||decide (x=.mul))=false)(h5:decide (x=.left\/x=.right\/x=.slide)=false)(h6:(decide (x=.wide)||decide (x=.sign))=false)(g:xs C (aK 7) (eA R W G m x) S=r):xs C (aK 0) (eA R W G m x) S=r:=by let(h3,h4):=Bool.or_eq_false_iff.mp h6;exact aFk x h h2 h5 (jZ x rfl (aE3 C R W G m S x) h3 (jZ x rfl (aMi C R W G m S x) h4 g))
theorem aYO(h:(decide (x=.and)||decide (x=.or))=false)(h2:(decide (x=.add\/x=.sub)||decide (x=.mul))=false)(h5:decide (x=.left\/x=.right\/x=.slide)=false)(h6:(decide (x=.wide)||decide (x=.sign))=false)(h8:(decide (x=.same\/x=.less\/x=.under)||decide (x=.pick))=false)(g:xs C (aK 9) (eA R W G m x) S=r):xs C (aK 0) (eA R W G m x) S=r:=by let(h3,h4):=Bool.or_eq_false_iff.mp h8;exact aFj x h h2 h5 h6 (jZ x rfl (aFg C R W G m S x) h3 (jZ x rfl (aMh C R W G m S x) h4 g))
end
section
variable (d w kk m:Nat)(ws:List Nat)(R W:D)(S:aE)(h0:m≠0)
include h0
theorem aR9(f g:Fc):xs (d<$>3) (aK 0) (eA R W (.tuple ([f,g].map Fc.d)) m .and) S=qq (.rt (.d (.tuple ((aO .and w kk ws [f,g] m).map nD))),S):=by rw[show aO .and w kk ws [f,g] m=_ from if_neg h0];refine bP (aFc _ _ _ _ _ _ .and) (bC ?_);erw[0,aBW,aBT,aB4,aGC (d+2),nD,yBs,yBy]
theorem aTD(f g:Fc):xs (d<$>3) (aK 0) (eA R W (.tuple ([f,g].map Fc.d)) m .or) S=qq (.rt (.d (.tuple ((aO .or w kk ws [f,g] m).map nD))),S):=by rw[show aO .or w kk ws [f,g] m=_ from if_neg h0];refine jZ .or rfl (aFc _ _ _ _ _ _ .or) rfl (bP (aL7 _ _ _ _ _ _ .or) (bC ?_));erw[0,aBW,aBT,aCa,aGC (d+2),nD,yBs,yBy]
theorem aJb(x:Wd)(hx:decide (x=.add\/x=.sub)=true)(h1:(decide (x=.and)||decide (x=.or))=false)(G:D)(bm:m<2^10000):xs (d<$>3) (aK 0) (eA R W G m x) S=qq (.rt (.d (.tuple ([2^bl m-1,2^bl m-1].map nD))),S):=by have t:=aME (d<$>3) R W G m S x;rw[hx] at t;refine aMB x h1 (bP t (bC ?_));erw[0,aAU (d+1) m _ bm,nD]
theorem aSP(f g:Fc)(hm:m<2^64):xs (d<$>3) (aK 0) (eA R W (.tuple ([f,g].map Fc.d)) m .mul) S=qq (.rt (.d (.tuple ((aO .mul w kk ws [f,g] m).map nD))),S):=by rw[show aO .mul w kk ws [f,g] m=_ from if_neg h0];refine aMA .mul rfl rfl (bP (aMC _ _ _ _ _ _ .mul) (bC ?_));erw[20,aBW,aBT,aB4,aN1 d f.N g.N m hm,nD,yBs,yBy]
theorem aEf(x:Wd)(hx:decide (x=.left\/x=.right\/x=.slide)=true)(h1:(decide (x=.and)||decide (x=.or))=false)(h2:(decide (x=.add\/x=.sub)||decide (x=.mul))=false)(a:Nat)(G:D){z:Nat}(sl:cl fns (d+3) 15 [.d (.str x.s),.d (.int w),.d (.int kk),.d (.int m)] S=qq (.d (.int z),S)):xs (d<$>3) (aK 0) (eA (Rw.mk x w [a,kk]).d W G m x) S=qq (.rt (.d (.tuple ([z].map nD))),S):=by have t:=aMf (d<$>3) (Rw.mk x w [a,kk]).d W G m S x;rw[hx] at t;have r1:aN (Rw.mk x w [a,kk]).d (.int 1)=qq (.int w):=dX _;refine aMu x h1 h2 (bP t (bC ?_));erw[20,r1,aW2,sl,nD]
theorem aQd(v:Nat)(hv:v<=64)(G:D):xs (d<$>3) (aK 0) (eA R (.tuple ([v].map nD)) G m .wide) S=qq (.rt (.d (.tuple ([m&&&(2^v-1)].map nD))),S):=by refine aFk .wide rfl rfl rfl (bP (aE3 _ _ _ _ _ _ .wide) (bC ?_));have hq72:=cT (d+2) v ();erw[0,nD,aLE,hq72,dC]
theorem aQx(v:Nat)(hv1:1<=v)(hv:v<=64)(G:D):xs (d<$>3) (aK 0) (eA R (.tuple ([v].map nD)) G m .sign) S=qq (.rt (.d (.tuple ([eS m v].map nD))),S):=by refine aFk .sign rfl rfl rfl (jZ .sign rfl (aE3 _ _ _ _ _ _ .sign) rfl (bP (aMi _ _ _ _ _ _ .sign) (bC ?_)));have hq73:=aGY (d+1) m v hv1 ();erw[0,nD,aLE,hq73]
theorem aDL(x:Wd)(hx:decide (x=.same\/x=.less\/x=.under)=true)(h1:(decide (x=.and)||decide (x=.or))=false)(h2:(decide (x=.add\/x=.sub)||decide (x=.mul))=false)(h5:decide (x=.left\/x=.right\/x=.slide)=false)(h6:(decide (x=.wide)||decide (x=.sign))=false)(v:Nat)(hv:v<=64)(G:D):xs (d<$>3) (aK 0) (eA R (.tuple ([v,v].map nD)) G m x) S=qq (.rt (.d (.tuple ([2^v-1,2^v-1].map nD))),S):=by have t:=aFg (d<$>3) R (.tuple ([v,v].map nD)) G m S x;rw[hx] at t;refine aFj x h1 h2 h5 h6 (bP t (bC ?_));have hq74:=cT (d+2) v ();erw[0,nD,aBW,aBT,hq74]
theorem aQt(f g h:Fc):xs (d<$>3) (aK 0) (eA R W (.tuple ([f,g,h].map Fc.d)) m .pick) S=qq (.rt (.d (.tuple ((aO .pick w kk ws [f,g,h] m).map nD))),S):=by rw[show aO .pick w kk ws [f,g,h] m=_ from if_neg h0];refine aFj .pick rfl rfl rfl rfl (jZ .pick rfl (aFg _ _ _ _ _ _ .pick) rfl (bP (aMh _ _ _ _ _ _ .pick) (bC ?_)));erw[0,aYr,aNM (d+2),yBs]
omit h0 in
theorem aVN(n:Nat)(h:n<=10):cB .Mult (.tuple [.int m]) (.int ((n:Nat):Int))=qq (.tuple ((yAg n m).map nD)):=by rw[@aDi _ n (),yFt];rfl
theorem wG(x:Wd)(args:List Nat)(ha:tQ x args kk)(h1:(decide (x=.and)||decide (x=.or))=false)(h2:(decide (x=.add\/x=.sub)||decide (x=.mul))=false)(h5:decide (x=.left\/x=.right\/x=.slide)=false)(h6:(decide (x=.wide)||decide (x=.sign))=false)(h8:(decide (x=.same\/x=.less\/x=.under)||decide (x=.pick))=false)(G:D):xs (d<$>3) (aK 0) (eA (Rw.mk x w args).d W G m x) S=qq (.rt (.d (.tuple ((yAg (aM x) m).map nD))),S):=by
 have op:cl fns (d+3) 7 [.d (Rw.mk x w args).d] S=qq (.d (.tuple ((args.take (aM x)).map nD)),S):=qR (d+2) ⟨x,w,args⟩ S;have lop:eX [.tuple ((args.take (aM x)).map nD)]=qq (.int ((aM x:Nat):Int)):=by
  simp only[eC,dL,yAb,aAP ha]
 have rp:=aVN m (aM x) (by cases x<;>decide);refine aYO x h1 h2 h5 h6 h8 (bC ?_);erw[0,op,lop,rp]
end
def aPi(d:Nat)(wd:Wd)(w:Nat)(args:List Nat)(kk:Nat)(ws:List Nat)(fs:List Fc)(m:Nat)(hk:aB7 wd w ws)(hf:↑fs=aM wd)(ha:tQ wd args kk)(hm:m<2^w)(h0:m≠0)(S:aE) :
 cl fns (d+4) 17 [.d (Rw.mk wd w args).d,.d (ws*>nD),.d (fs*>Fc.d),.d (.int m)] S=qq (.d (.tuple ((aO wd w kk ws fs m).map nD)),S):=by
 have hm64:m<2^64:=xAb hm (yAo (·) hk.2.1);have r0:aN (Rw.mk wd w args).d (.int 0)=qq (.str wd.s):=iF _;have bm:m<2^10000:=aKD hm64 (·);refine bX rfl (d+3) rfl rfl (yAe) (cC (S1:=S) (w:=.d (.str wd.s)) (aY:=eA (Rw.mk wd w args).d (ws*>nD) (fs*>Fc.d) m wd) (by erw[20,r0]) rfl ?_);show xs (d<$>3) (aK 0) (eA (Rw.mk wd w args).d (ws*>nD) (fs*>Fc.d) m wd) S=_;clear r0;let(bZ,bB,hk):=hk;have e0:aO wd w kk ws fs m=_:=if_neg h0;cases wd
 case and=>let(f,g,rfl):=aEW hf;exact aR9 d w kk m ws _ _ S h0 f g
 case or=>let(f,g,rfl):=aEW hf;exact aTD d w kk m ws _ _ S h0 f g
 case add=>rw[e0];exact aJb d m _ _ S h0 .add rfl rfl _ bm
 case sub=>rw[e0];exact aJb d m _ _ S h0 .sub rfl rfl _ bm
 case mul=>let(f,g,rfl):=aEW hf;exact aSP d w kk m ws _ _ S h0 f g hm64
 case left=>
  let(a,rfl,hkk):=ha;rw[e0];exact aEf d w kk m _ S h0 .left rfl rfl rfl a _ (aRn d w kk m S)
 case right=>
  let(a,rfl,hkk):=ha;rw[e0];exact aEf d w kk m _ S h0 .right rfl rfl rfl a _ (aP3 d w kk m bB () hm64 S)
 case slide=>
  let(a,rfl,hkk):=ha;rw[e0];exact aEf d w kk m _ S h0 .slide rfl rfl rfl a _ (aPM d w kk m bZ bB () hm64 S)
 case wide=>
  let(v,rfl,hv1,hv2):=hk;rw[e0];exact aQd d m _ S h0 v () _
 case sign=>
  let(v,rfl,hv1,hv2):=hk;rw[e0];exact aQx d m _ S h0 v () () _
 case same=>
  let(_,v,rfl,hv1,hv2):=hk;rw[e0];exact aDL d m _ S h0 .same rfl rfl rfl rfl rfl v () _
 case less=>
  let(_,v,rfl,hv1,hv2):=hk;rw[e0];exact aDL d m _ S h0 .less rfl rfl rfl rfl rfl v () _
 case under=>
  let(_,v,rfl,hv1,hv2):=hk;rw[e0];exact aDL d m _ S h0 .under rfl rfl rfl rfl rfl v () _
 case pick=>let(f,g,h,rfl):=aY9 hf;exact aQt d w kk m ws _ _ S h0 f g h
 case «in» => rw[e0];exact wG d w kk m _ S h0 .in args ha rfl rfl rfl rfl rfl _
 case num=>rw[e0];exact wG d w kk m _ S h0 .num args ha rfl rfl rfl rfl rfl _
 case not=>rw[e0];exact wG d w kk m _ S h0 .not args ha rfl rfl rfl rfl rfl _
 case cut=>rw[e0];exact wG d w kk m _ S h0 .cut args ha rfl rfl rfl rfl rfl _
 case xor=>rw[e0];exact wG d w kk m _ S h0 .xor args ha rfl rfl rfl rfl rfl _
def aQy(n:Nat)(h:n<=10):cB .Mult (.tuple [.int 0]) (.int ((n:Nat):Int))=qq (.tuple ((yAg n 0).map nD)):=by rw[@aDi _ n (),yFt];rfl
def aQM(d:Nat)(wd:Wd)(w:Nat)(args:List Nat)(kk:Nat)(ws:List Nat)(fs:List Fc)(m:Nat)(hk:aB7 wd w ws)(hf:↑fs=aM wd)(ha:tQ wd args kk)(hm:m<2^w)(S:aE) :
 cl fns (d+5) 18 [.d (Rw.mk wd w args).d,.d (ws*>nD),.d (fs*>Fc.d),.d (.int m)] S=qq (.d (.tuple ((aO wd w kk ws fs m).map nD)),S):=by
 rw[bE rfl (d+4) _ S rfl];by_cases h0:m=0
 ·have d0:(m==0)=true:=by rw[beq_iff_eq];exact h0
  have e0:aO wd w kk ws fs m=yAg (aM wd) 0:=if_pos h0;have lop:eX [.tuple ((args.take (aM wd)).map nD)]=qq (.int ((aM wd:Nat):Int)):=by
   simp only[eC,dL,yAb,aAP ha]
  have op:cl fns (d+4) 7 [.d (Rw.mk wd w args).d] S=qq (.d (.tuple ((args.take (aM wd)).map nD)),S):=qR (d+3) ⟨wd,w,args⟩ S;rw[e0];have hq75:=aQy (aM wd) (by cases wd<;>decide);erw[11,aEK,aZ,dF,d0,op,lop,hq75]
 ·have d0:(m==0)=false:=by rw[beq_eq_false_iff_ne];exact h0
  erw[11,aEK,aZ,dF,d0,aPi d wd w args kk ws fs m hk hf ha hm h0]
def pT:Sx:=aQ (aQ (aQ iC))
def pR(k:Nat):Sx:=match k with|0=>cL iC|1=>cL (aQ iC)|2=>cL (aQ (aQ iC))|4=>cL pT|5=>cL (aQ pT)|6=>cL (aQ (aQ pT))|7=>cL (aQ (aQ (aQ pT)))|_=>cL (aQ (aQ (aQ (aQ pT))))
def aPY:pT=.seq (pR 4) (.seq (pR 5) (.seq (pR 6) (.seq (pR 7) (.seq (pR 8) .skip)))):=rfl
def aRD:iC=.seq (pR 0) (.seq (pR 1) (.seq (pR 2) pT)):=rfl
def aP0(h:At S 0 p)(ns:List Int)(k:Nat)(x:Int)(rs:List Rw):∃ T,aU S 0 p ns k x rs=qq (aV ns k x)::T:=by
 have hs:=h.toAt0.state (ns:=ns) (k:=k) (x:=x) (rs:=rs);rcases e:aU S 0 p ns k x rs with _|⟨a,T⟩
 ·rw[e] at hs;cases hs
 ·rw[e] at hs;cases hs;exact⟨T,rfl⟩
def aA7(h:At S 0 p)(ns:List Int)(k:Nat)(x:Int)(rs:List Rw)(T:aE):aU (S++T) 0 p ns k x rs=aU S 0 p ns k x rs++T:=by unfold aU;rw[List.set_append_left _ _ h.hn,List.set_append_left _ _ (by rw[yBe];exact h.hp)]
def At.app(h:At S 0 p)(T:aE):At (S++T) 0 p:=⟨⟨by rw[xAn];have:=h.hn;omega,h.ne⟩,by rw[xAn];have:=h.hp;omega⟩
def aPz{l:List Nat}{q n:Nat}(h:∀ o∈l,o<n)(hq:q<n):∀ o∈l++[q],o<n:=λ o ho=>by
 rcases List.mem_append.mp ho with ho|ho
 ·exact h o ho
 ·rw[yEr] at ho;subst ho;exact hq
def aR4(h:a=m+1)(h2:m<=7):a<=8:=()
def aLH(h:At S 0 p){x:Int}{rs:List Rw}(d most q:Nat)(hm:most<=30)(ok:bS [] rs)(l0:0<↑rs)(l1:↑rs<=40)(hk:k<=50000) :
 ∃ (aI:List Rw) (aD:List Nat) (k':Nat) (x':Int) (T:aE),bS [] aI/\0<↑aI/\↑aI<=40/\k'<=k+700/\(∀ o∈aD,o<↑aI)/\↑aD<=8/\xs (d<$>5) pT [#[0],(most:),(q:),#[p],qz,qz,qz] (aU S 0 p ns k x rs)=qq (.rt (.d (aI<*(aD*>nD))),qq (aV ns k' x')::T):=by
 let(env1,S1,p1,a4,aI,k1,x1,ok1,l0',l1',hk1,rfl,rfl):=aBw (t:=.one 4) (fi:=lv (d<$>5) aAb) (fb:=xs (d<$>5) aAc) (env:=[#[0],(most:),(q:),#[p],qz,qz,qz]) (S:=aU S 0 p ns k x rs)
  (λ j env S'=>∃ (a4:Option W) (rs:List Rw) (k':Nat) (x:Int),bS [] rs/\0<↑rs/\↑rs<=40/\k'<=k+20*j/\env=[#[0],(most:),(q:),#[p],a4,qz,qz]/\S'=aU S 0 p ns k' x rs)
  (show lv (d<$>5) aAb _ _=qq ((yBd most).map (λ k=>yAn (k:Nat)),_) by
    simp only[aAb,uA,rA,tN,tV,tI];exact qS rfl ())
  ⟨qz,rs,k,x,ok,l0,l1,by omega,rfl,rfl⟩ (by
   rintro j dd env S' hj ⟨a4,rs,k',x,ok,l0,l1,hk',rfl,rfl⟩;have hj':j<most:=by simpa using hj
   refine⟨[#[0],(most:),(q:),#[p],qq (.d dd),qz,qz],[#[0],(most:),(q:),#[p],qq (.d dd),qz,qz],?_⟩;by_cases c:↑rs<37
   ·have d1:decide (((↑rs:Nat):Int)<37)=true:=dqT ();let(k2,x',aI,ok',g1,g2,hk2,e):=GP.row_ok (ns:=ns) (k:=k') (x:=x) h d ok l0 () ();refine⟨_,rfl,?_,qq (.d dd),aI,k2,x',ok',by omega,by omega,by omega,rfl,rfl⟩;erw[1,aAc,h.rows,eC,dL,GP.rows_len,dM,d1,e]
   ·have d1:decide (((↑rs:Nat):Int)<37)=false:=dqF ();refine⟨_,rfl,?_,qq (.d dd),rs,k',x,ok,l0,l1,by omega,rfl,rfl⟩
    erw[20,aAc,h.rows,eC,dL,GP.rows_len,dM,d1])
 have hk2:k1<=k+600:=by simp at hk1;omega
 let(q2,x2,hq2,e2):=@fS _ _ _ k1 ns x1 aI h.toAt0 (d+4) ↑aI l0' () ();let(q3,x3,hq3,e3):=iP (ns:=ns) (k:=k1+1) (x:=x2) (rs:=aI) h.toAt0 (d+4) 4 (i:=4) rfl (·) (·) ();let(b3,hb3,eb3):=b2i ((q3:Int)==1);let(y,hy,ey):=at2 (.int (((↑aI:Nat):Int)-1)) (.int q2) hb3;obtain⟨y0,hy0,rfl⟩:∃ y0:Nat,y0<↑aI/\y=nD y0:=by
  rcases hy with rfl|rfl
  ·have e9:((↑aI:Nat):Int)-1=((↑aI-1:Nat):Int):=();exact⟨↑aI-1,by omega,by rw[e9];rfl⟩
  ·exact⟨q2,hq2,rfl⟩
 have p5:xs (d<$>5) (pR 5) [#[0],(most:),(q:),#[p],a4,qz,qz] (aU S 0 p ns k1 x1 aI)=qq (.nx [#[0],(most:),(q:),#[p],a4,qq (.d (.list [.int (((↑aI:Nat):Int)-1),.int q2])),qz],aU S 0 p ns (k1+1) x2 aI):=by
  erw[5,pR,pT,aQ,cL,iC,h.rows,eC,dL,GP.rows_len,cO,e2]
 have p6:xs (d<$>5) (pR 6) [#[0],(most:),(q:),#[p],a4,qq (.d (.list [.int (((↑aI:Nat):Int)-1),.int q2])),qz] (aU S 0 p ns (k1+1) x2 aI)=qq (.nx [#[0],(most:),(q:),#[p],a4,qq (.d (.list [.int (((↑aI:Nat):Int)-1),.int q2])),qq (.loc ↑S)],aU (S++[qq [nD y0]]) 0 p ns (k1+2) x3 aI):=by
  have hl:↑(aU S 0 p ns (k1+1+1) x3 aI)=↑S:=h.toAt0.len;rw[aA7 h];erw[5,pR,pT,aQ,cL,iC,gI,e3,aZ,aEl,aEq,eb3,ey,hl]
 let(q4,x4,hq4,e4):=iP (ns:=ns) (k:=k1+2) (x:=x3) (rs:=aI) (At.app h [qq [nD y0]]).toAt0 (d+4) 3 (i:=3) rfl (·) (·) ();let(q5,x5,hq5,e5):=iP (ns:=ns) (k:=k1+3) (x:=x4) (rs:=aI) (At.app h [qq [nD y0]]).toAt0 (d+4) 8 (i:=8) rfl (·) (·) ();let(b5,hb5,eb5):=b2i ((q5:Int)==1);let(z,hz,ez):=at2 (.int q4) (.int 7) hb5;obtain⟨m,hm7,rfl⟩:∃ m:Nat,m<=7/\z=.int m:=by
  rcases hz with rfl|rfl
  ·exact⟨_,by omega,rfl⟩
  ·exact⟨7,by decide,rfl⟩
 let(env2,S2,p4,a4',aD,k6,x6,ol,oa,hk6,rfl,rfl):=aBw (t:=.one 4) (fi:=lv (d<$>5) aCD) (fb:=xs (d<$>5) aCE) (env:=[#[0],(most:),(q:),#[p],a4,qq (.d (.list [.int (((↑aI:Nat):Int)-1),.int q2])),qq (.loc ↑S)]) (S:=aU (S++[qq [nD y0]]) 0 p ns (k1+2) x3 aI) (S1:=aU (S++[qq [nD y0]]) 0 p ns (k1+2+1+1) x5 aI) (ds:=(yBd m).map (λ k=>yAn (k:Nat)))
  (λ j env S'=>∃ (a4:Option W) (aD:List Nat) (k:Nat) (x:Int),↑aD=j+1/\(∀ o∈aD,o<↑aI)/\k<=k1+4+j/\env=[#[0],(most:),(q:),#[p],a4,qq (.d (.list [.int (((↑aI:Nat):Int)-1),.int q2])),qq (.loc ↑S)]/\S'=aU (S++[qq (aD.map nD)]) 0 p ns k x aI)
  (by
    simp only[aCD,uA,rA,tN,tV,tI];refine qS ?_ ()
    erw[20,e4,e5,aZ,aEl,aEq,eb5,ez])
  ⟨a4,[y0],k1+4,x5,rfl,λ o ho=>by rw[yEr] at ho;subst ho;exact hy0,by omega,rfl,rfl⟩ (by
   rintro j dd env S' hj ⟨a4,aD,k,x,ol,oa,hk,rfl,rfl⟩;have hj':j<m:=by simpa using hj
   have hA:=At.app h [qq (aD.map nD)];let(q6,x6,hq6,e6):=@fS _ _ _ k ns x aI hA.toAt0 (d+4) ↑aI l0' () ();refine⟨[#[0],(most:),(q:),#[p],qq (.d dd),qq (.d (.list [.int (((↑aI:Nat):Int)-1),.int q2])),qq (.loc ↑S)],[#[0],(most:),(q:),#[p],qq (.d dd),qq (.d (.list [.int (((↑aI:Nat):Int)-1),.int q2])),qq (.loc ↑S)],aU (S++[qq ((aD++[q6]).map nD)]) 0 p ns (k+1) x6 aI,rfl,?_,qq (.d dd),aD++[q6],k+1,x6,by simp[ol],aPz oa hq6,by omega,rfl,rfl⟩;have ap:dI (aU (S++[qq (aD.map nD)]) 0 p ns (k+1) x6 aI) (.loc ↑S) (.d (.int q6))=qq (.d .none,aU (S++[qq ((aD++[q6]).map nD)]) 0 p ns (k+1) x6 aI):=by
    rw[aA7 h,aA7 h,yAw];have hl:↑(aU S 0 p ns (k+1) x6 aI)=↑S:=h.toAt0.len;have:=aAS (aU S 0 p ns (k+1) x6 aI) (aD.map nD) (.int q6) (by rw[yAb];omega);rw[hl] at this;exact this
   erw[20,aCE,hA.rows,eC,dL,GP.rows_len,e6,gK,ap])
 have hk7:k6<=k1+4+m:=by simpa using hk6
 let(T,hT):=aP0 (At.app h [qq (aD.map nD)]) ns k6 x6 aI;refine⟨aI,aD,k6,x6,T,ok1,l0',l1',by omega,oa,aR4 (by simpa using ol) hm7,?_⟩;have p4':xs (d<$>5) (pR 4) [#[0],(most:),(q:),#[p],qz,qz,qz] (aU S 0 p ns k x rs)=qq (.nx [#[0],(most:),(q:),#[p],a4,qz,qz],aU S 0 p ns k1 x1 aI):=p1;have p7':xs (d<$>5) (pR 7) [#[0],(most:),(q:),#[p],a4,qq (.d (.list [.int (((↑aI:Nat):Int)-1),.int q2])),qq (.loc ↑S)] (aU (S++[qq [nD y0]]) 0 p ns (k1+2) x3 aI)=qq (.nx [#[0],(most:),(q:),#[p],a4',qq (.d (.list [.int (((↑aI:Nat):Int)-1),.int q2])),qq (.loc ↑S)],aU (S++[qq (aD.map nD)]) 0 p ns k6 x6 aI):=p4;rw[aPY,gF p4',gF p5,gF p6,gF p7',<- hT];have g2:(aU (S++[qq (aD.map nD)]) 0 p ns k6 x6 aI)[↑S]?=qq (qq (aD.map nD)):=by
  rw[aA7 h];have hl:↑(aU S 0 p ns k6 x6 aI)=↑S:=h.toAt0.len;rw[<- hl];exact qV _ _
 erw[5,pR,pT,aQ,cL,iC,(At.app h [qq (aD.map nD)]).rows,g2,jE,jG]
def A2:At [qz,qz] 0 1:=⟨⟨by decide,by decide⟩,by decide⟩
def A3(j:List D):At [qz,qq j,qz] 0 2:=⟨⟨by show 0<3;decide,by decide⟩,by show 2<3;decide⟩
def aUI(d most:Nat)(ns:List Int)(hm:most<=30)(kk:Nat)(xx:Int)(hkk:kk<=40000):∃ (rs:List Rw) (aD:List Nat) (k:Nat) (x:Int),bS [] rs/\0<↑rs/\↑rs<=40/\k<=kk+800/\(∀ o∈aD,o<↑rs)/\↑aD<=8/\cl fns (d+6) 84 [.loc 0,.d (.int most)] [qq (aV ns kk xx)]=qq (.d (rs<*(aD*>nD)),[qq (aV ns k x)]):=by
 let(w,x0,bZ,bB,e0):=@aDs _ _ _ kk ns xx [] at1 (d+3) ();rw[aMP,aMP] at e0;have p0:xs (d<$>5) (pR 0) [#[0],(most:),qz,qz,qz,qz,qz] [qq (aV ns kk xx)]=qq (.nx [#[0],(most:),(w:),qz,qz,qz,qz],[qq (aV ns (kk+3) x0)]):=by
  erw[3,pR,cL,iC,e0]
 have p1:xs (d<$>5) (pR 1) [#[0],(most:),(w:),qz,qz,qz,qz] [qq (aV ns (kk+3) x0)]=qq (.nx [#[0],(most:),(w:),#[1],qz,qz,qz],aU [qz,qz] 0 1 ns (kk+3) x0 [⟨.in,w,[]⟩]):=by
  erw[4,pR,cL,aQ,iC,gI]
 let(q,x1,hq,e1):=iP (ns:=ns) (k:=kk+3) (x:=x0) (rs:=[⟨.in,w,[]⟩]) A2.toAt0 (d+4) 8 (i:=8) rfl (·) (·) ();have ok0:bS [] [⟨.in,w,[]⟩]:=⟨⟨bZ,bB,True.intro⟩,True.intro⟩
 suffices H:∃ (rs:List Rw) (aD:List Nat) (k:Nat) (x:Int) (T:aE),bS [] rs/\0<↑rs/\↑rs<=40/\k<=kk+800/\(∀ o∈aD,o<↑rs)/\↑aD<=8/\xs (d<$>5) (.seq (pR 2) pT) [#[0],(most:),(w:),#[1],qz,qz,qz] (aU [qz,qz] 0 1 ns (kk+3) x0 [⟨.in,w,[]⟩])=qq (.rt (.d (rs<*(aD*>nD))),qq (aV ns k x)::T) by
  let(rs,aD,k,x,T,h1,h2,h3,h4,h6,h7,h5):=H;refine⟨rs,aD,k,x,h1,h2,h3,h4,h6,h7,?_⟩;have full:xs (d<$>5) iC [#[0],(most:),qz,qz,qz,qz,qz] [qq (aV ns kk xx)]=qq (.rt (.d (rs<*(aD*>nD))),qq (aV ns k x)::T):=by
   rw[aRD,gF p0,gF p1];exact h5
  rw[bE rfl (d+5) _ _ rfl];show((xs (d<$>5) iC [#[0],(most:),qz,qz,qz,qz,qz] [qq (aV ns kk xx)]).bind _)=_;rw[full];rfl
 by_cases c:q=1
 ·have dq:((q:Int)==1)=true:=by rw[beq_iff_eq];omega
  let(n,k2,x2,hn,hk2,e2):=@xQ _ _ _ (kk+3+1) ns x1 [⟨.in,w,[]⟩] A2.toAt0 (d+2) w bZ bB ();have hl:↑(aU [qz,qz] 0 1 ns k2 x2 [⟨.in,w,[]⟩])=2:=rfl;have p2:xs (d<$>5) (pR 2) [#[0],(most:),(w:),#[1],qz,qz,qz] (aU [qz,qz] 0 1 ns (kk+3) x0 [⟨.in,w,[]⟩])=qq (.nx [#[0],(most:),(w:),#[2],qz,qz,qz],aU [qz,qq ([(⟨.in,w,[]⟩:Rw)].map Rw.d),qz] 0 2 ns k2 x2 [⟨.num,w,[n]⟩]):=by
   erw[4,pR,cL,aQ,iC,e1,aZ,dq,e2,gI,hl]
  let(rs,aD,k,x,T,h1,h2,h3,h4,h6,h7,h5):=aLH (A3 ([(⟨.in,w,[]⟩:Rw)].map Rw.d)) (ns:=ns) (k:=k2) (x:=x2) (rs:=[⟨.num,w,[n]⟩]) d most w hm ⟨⟨bZ,bB,hn⟩,True.intro⟩ (by simp) (by simp) ();refine⟨rs,aD,k,x,T,h1,h2,h3,by omega,h6,h7,?_⟩;rw[gF p2];exact h5
 ·have dq:((q:Int)==1)=false:=by rw[beq_eq_false_iff_ne];omega
  have p2:xs (d<$>5) (pR 2) [#[0],(most:),(w:),#[1],qz,qz,qz] (aU [qz,qz] 0 1 ns (kk+3) x0 [⟨.in,w,[]⟩])=qq (.nx [#[0],(most:),(w:),#[1],qz,qz,qz],aU [qz,qz] 0 1 ns (kk+3+1) x1 [⟨.in,w,[]⟩]):=by
   erw[4,pR,cL,aQ,iC,e1,aZ,dq]
  let(rs,aD,k,x,T,h1,h2,h3,h4,h6,h7,h5):=aLH A2 (ns:=ns) (k:=kk+3+1) (x:=x1) (rs:=[⟨.in,w,[]⟩]) d most w hm ok0 (by simp) (by simp) ();refine⟨rs,aD,k,x,T,h1,h2,h3,by omega,h6,h7,?_⟩;rw[gF p2];exact h5
def aN5(d:Nat)(rs:D)(aD N:List Nat)(ho:∀ o∈aD,o<↑N)(hl:↑aD<=8)(S:aE):cl fns (d+1) 72 [.d (.tuple [rs,(aD*>nD)]),.d (N*>nD)] S=qq (.d (.tuple ((aD.map (g0 N)).map nD)),S):=by
 have i1:aN (.tuple [rs,(aD*>nD)]) (.int 1)=qq (aD*>nD):=rfl;have hc:lv (aC fns d) aGq [qq (.d (.tuple [rs,(aD*>nD)])),qq (.d (N*>nD)),qz] S=qq ((aD.map (g0 N)).map nD,S):=by
  rw[yBh];refine lU (fi:=lv (aC fns d) (.it (.ix (.var 0) (.int 1)))) (fe:=ev (aC fns d) (.ix (.var 1) (.var 2))) nD (nD ∘ g0 N) aD ?_ (by rw[qo];omega) λ o h=>?_
  ·erw[0,i1,fH]
  ·refine⟨_,rfl,λ S'=>?_⟩;have e:aN (N*>nD) (nD o)=qq (nD (g0 N o)):=gE (aBU (ho o h));erw[0,clr,yAz,yBo,e]
 rw[bE rfl d _ S rfl];erw[11,aH5,hc,jE,jG]
def uX(r:Rw):List Nat:=r.args.take (aM r.wd)
def dH(r:Rw):Nat:=r.args.getD 1 0
def fY(r:Rw)(F:List Ft):List Fc:=(cE r F).map λ f=>⟨f.N,f.O,f.A⟩
def eB(rs:List Rw)(F:List Ft)(r:Rw)(m:Nat):List Nat:=aO r.wd r.w (dH r) (aT r (~~~rs)) (fY r F) m
def eK(rs:List Rw)(F:List Ft)(r:Rw)(m:Nat):List (Nat×Nat):=(uX r).zip (eB rs F r m)
def pD(p:Nat×Nat):D:=.tuple [nD p.1,nD p.2]
def rR(h:RwOk r ws):aB7 r.wd r.w ws/\tQ r.wd r.args (dH r):=by
 cases h with
 |inp h1 h2=>exact⟨⟨h1,h2,rfl⟩,rfl⟩|num h1 h2 hn=>exact⟨⟨h1,h2,rfl⟩,_,rfl⟩|nt h1 h2=>exact⟨⟨h1,h2,rfl⟩,_,rfl⟩
 |sh h1 h2 aG hk=>erw[50,aG]<;>exact⟨⟨h1,h2,rfl⟩,_,rfl,hk⟩
 |cut h1 hv h2=>exact⟨⟨h1,xAh hv h2,_,rfl,hv,h2⟩,_,rfl⟩|wide h1 hv h2=>exact⟨⟨xAh h1 hv,h2,_,rfl,hv,h1⟩,_,rfl⟩|sign h1 hv h2=>exact⟨⟨xAh h1 hv,h2,_,rfl,hv,h1⟩,_,rfl⟩
 |bw h1 h2 aG=>erw[50,aG]<;>exact⟨⟨h1,h2,rfl⟩,_,_,rfl⟩
 |sm h1 h2=>
   rename_i s w a b;cases s<;>exact⟨⟨h1,h2,rfl⟩,_,_,rfl⟩
 |cmp h1 h2 aG=>erw[50,aG]<;>exact⟨⟨yAd 1,(show 1<=64 by decide),rfl,_,rfl,h1,h2⟩,_,_,rfl⟩
 |pick h1 h2=>exact⟨⟨h1,h2,rfl⟩,_,_,_,rfl⟩
def aJT:∀ as bs:List Nat,hJ (as.map nD) (bs.map nD)=(as.zip bs).map pD
 |[],_=>by cases ‹List Nat› <;> rfl|_::_,[]=>rfl
 |a::as,b::bs=>by
   show yAj [nD a,nD b]::hJ (as.map nD) (bs.map nD)=pD (a,b)::(as.zip bs).map pD;rw[aJT as bs];rfl
def aVZ(r:Rw)(F:List Ft):(fY r F).map Fc.d=(cE r F).map Ft.d:=by unfold fY;rw[yBh];rfl
def aKG(d a:Nat){rs:List Rw}(hr:rs[a]?=qq r)(o:D)(S:aE):cl fns (d+1) 10 [.d (rs<*o),.d (.int a)] S=qq (.d (.int r.w),S):=by have i0:aN (rs<*o) (.int 0)=qq (rs*>Rw.d):=rfl;have e1:aN (rs*>Rw.d) (.int a)=qq r.d:=gE (by rw[yAc,hr];rfl);rw[bE rfl d _ S rfl];erw[11,aG2,i0,e1,dX]
def rY{rs:List Rw}(hr:rs[a]?=qq r):g0 (~~~rs) a=r.w:=by show(~~~rs).getD a 0=_;rw[xAg,yAc,hr];rfl
def aSo{fa fb:FE}(h1:fa env S=qq (.d (as*>nD),S1))(h2:fb env S1=qq (.d (bs*>nD),S2))(hl:↑as<=1000):uB fa fb env S=qq ((as.zip bs).map pD,S2):=by
 have e:qD fa fb env S=qq ((as.zip bs).map pD,S2):=by
  unfold qD;rw[h1,oB,h2,oB,<- aJT];rfl
 unfold uB aL9;rw[e,oB,if_pos];show↑((as.zip bs).map pD)<=1000000;rw[yAb,List.length_zip];omega
def aR7(r:Rw):↑(uX r)<=3:=by have:=aJQ r.wd;unfold uX;rw[yBk];omega
def aRk{rs:List Rw}{F:List Ft}{r:Rw}{k:Nat}(p:Prg rs)(hr:rs[k]?=qq r):↑(fY r F)=aM r.wd:=by have h:=(rR (p.fit k r hr).1).2;unfold fY cE;rw[yAb,yAb];exact aAP h
def aNX{rs:List Rw}{F:List Ft}{r:Rw}{k m:Nat}(d:Nat)(p:Prg rs)(hr:rs[k]?=qq r)(hF:↑F=↑rs)(hm:m<2^r.w)(o:D)(S:aE):cl fns (d+6) 19 [.d (rs<*o),.d (F*>Ft.d),.d (.int k),.d (.int m)] S=qq (.d (.list ((eK rs F r m).map pD)),S):=by
 have i0:aN (rs<*o) (.int 0)=qq (rs*>Rw.d):=rfl;have e1:aN (rs*>Rw.d) (.int k)=qq r.d:=gE (by rw[yAc,hr];rfl);let(f1,f2'):=p.fit k r hr;have hk:k<↑rs:=(gIm hr).1;have ol:=aR7 r;have hc:lv (d<$>5) aF9 [qq (.d (rs<*o)),qq (.d (F*>Ft.d)),(k:),(m:),qq (.d r.d),qz,qz,qz] S=qq ((aT r (~~~rs)).map nD,S):=by
  unfold aT;rw[yBh];refine lU (fi:=lv (d<$>5) (.it (.call 7 (.cons (.var 4) .nil)))) (fe:=ev (d<$>5) (.call 10 (.cons (.var 0) (.cons (.var 7) .nil)))) nD (nD ∘ g0 (~~~rs)) (r.args.take (aM r.wd)) ?_ (by rw[qo];have:↑(r.args.take (aM r.wd))<=3:=ol;omega) λ a ha=>?_
  ·erw[0,qR (d+4),fH]
  ·refine⟨_,rfl,λ S'=>?_⟩;have haj:=f2' a ha;have hq:rs[a]?=qq rs[a]:=yAa ();have e2:=aKG (d+4) a hq o S';have e2':cl fns (d+5) 10 [.d (rs<*o),.d (nD a)] S'=qq (.d (.int (rs[a].w:Nat)),S'):=e2;erw[20,clr,yAz,yBo,e2'];show _=qq (W.d (nD (g0 (~~~rs) a)),S');rw[rY hq];rfl
 have o2:=oU (d+3) r (.d (F*>Ft.d)) (F*>Ft.d) (λ a=>(f0 F a).d) S (λ _=>rfl) λ a ha=>gE (by rw[yAc,nL (by have:=f2' a ha;omega)];rfl)
 have o2':cl fns (d+5) 9 [.d r.d,.d (F*>Ft.d)] S=qq (.d (.tuple ((fY r F).map Fc.d)),S):=by
  rw[o2,aVZ,cE,yBh];rfl
 let(w1,w2):=rR f1;have nk:=aQM d r.wd r.w r.args (dH r) (aT r (~~~rs)) (fY r F) m w1 (aRk p hr) w2 hm S;have nk':cl fns (d+5) 18 [.d r.d,.d (.tuple ((aT r (~~~rs)).map nD)),.d (.tuple ((fY r F).map Fc.d)),.d (.int m)] S=qq (.d (.tuple ((eB rs F r m).map nD)),S):=nk;have lz:∀ fa:FE,∀ env:bI,fa env S=qq (.d (.tuple ((uX r).map nD)),S)->env[6]?=qq (qq (.d (.tuple ((eB rs F r m).map nD))))->uB fa (jI 6) env S=qq ((eK rs F r m).map pD,S):=λ fa env h h6=>aSo h (aH1 h6) ()
 rw[bE rfl (d+5) _ S rfl];erw[20,gL,aGI,i0,e1,hc,jE,jG,o2',nk'];rw[lz _ _ (by erw[20,qR (d+4)];rfl) rfl];erw[0,True]
def cU(M:List Nat)(q:Nat×Nat):List Nat:=M.set q.1 (M.getD q.1 0|||q.2)
def gJ(rs:List Rw)(F:List Ft)(M:List Nat)(k:Nat):List Nat:=match rs[k]? with|some r=>(eK rs F r (M.getD k 0)).foldl cU M|none=>M
def kA(rs:List Rw)(F:List Ft):Nat->List Nat->List Nat
 |0,M=>M|k+1,M=>kA rs F k (gJ rs F M k)
def dU(rs:List Rw)(M:List Nat)(o:Nat):List Nat:=M.set o (2^g0 (~~~rs) o-1)
def qF(rs:List Rw)(aD:List Nat):List Nat:=aD.foldl (dU rs) (yAg ↑rs 0)
def eU(rs:List Rw)(F:List Ft)(aD:List Nat):List Nat:=kA rs F ↑rs (qF rs aD)
structure Bd(rs:List Rw)(M:List Nat):Prop where
 l:↑M=↑rs
 lt:∀ (i:Nat) (r:Rw),rs[i]?=qq r->M.getD i 0<2^r.w
def aGG{α β:Type}{f:β->α->β}{l:List α}{q:α}(M:β)(h:l[j]?=qq q):(l.take (j+1)).foldl f M=f ((l.take j).foldl f M) q:=by rw[List.take_add_one,h];simp
def vO{M:List Nat}(h:a≠i):(M.set a v).getD i 0=M.getD i 0:=by rw[xAg,xAg,yBa h]
def vP{M:List Nat}(h:a<↑M):(M.set a v).getD a 0=v:=by rw[xAg,yBb h];rfl
def aDK{M:List Nat}(h:i<↑M):M[i]?=qq (M.getD i 0):=by rw[xAg,yAa h];rfl
def aBb{rs:List Rw}(p:Prg rs)(hr:rs[k]?=qq r)(hm:m<2^r.w)(q:Nat×Nat)(hq:q∈eK rs F r m):q.1<k/\∀ r',rs[q.1]?=qq r'->q.2<2^r'.w:=by
 let(f1,f2):=p.fit k r hr;let(w1,w2):=rR f1;let(c,hc):=yDy hq;let(a,b):=q;unfold eK at hc;rw[yFf] at hc;let(h1,h2):=hc;refine⟨f2 a (xAk h1),λ r' hr'=>?_⟩;have hv:(aT r (~~~rs))[c]?=qq r'.w:=by
  unfold aT;have h1':(r.args.take (aM r.wd))[c]?=qq a:=h1;rw[yAc,h1'];show qq (g0 (~~~rs) a)=_;rw[rY hr']
 have:=aSc r.wd r.w (dH r) (aT r (~~~rs)) (fY r F) m c r'.w w1 hm hv;have e:(eB rs F r m).getD c 0=b:=by
  rw[xAg,h2];rfl
 rw[<- e];exact this
def aLg{rs:List Rw}(h:Bd rs M){q:Nat×Nat}(h1:q.1<↑rs)(h2:∀ r',rs[q.1]?=qq r'->q.2<2^r'.w):Bd rs (cU M q):=by
 refine⟨by unfold cU;rw[yBe];exact h.l,λ i r hr=>?_⟩;unfold cU;by_cases c:q.1=i
 ·rw[c] at h1 h2 ⊢;rw[vP (by rw[h.l];exact h1)];exact yBl (h.lt i r hr) (h2 r hr)
 ·rw[vO c];exact h.lt i r hr
section
variable {rs:List Rw}{F:List Ft}{r:Rw}{k m:Nat}
def aJJ(p:Prg rs)(hr:rs[k]?=qq r)(hm:m<2^r.w):∀ (l:List (Nat×Nat)) (M:List Nat),(∀ q∈l,q∈eK rs F r m)->Bd rs M->Bd rs (l.foldl cU M)
 |[],_,_,h=>h
 |q::l,M,hl,h=>by
   have hk:k<↑rs:=(gIm hr).1;let(a,b):=aBb p hr hm q (hl q xAc);exact aJJ p hr hm l _ (λ x hx=>hl x (xAf _ hx)) (aLg h () b)
end
def aDR{rs:List Rw}:Bd rs (yAg ↑rs 0):=by refine⟨yCw,λ i r hr=>?_⟩;have hi:i<↑rs:=(gIm hr).1;rw[xAg,yEj,if_pos hi];exact xAe _
def aPj{rs:List Rw}(hr:rs[o]?=qq r):dU rs M o=M.set o (2^r.w-1):=by unfold dU;rw[rY hr]
def aIE{rs:List Rw}(h:Bd rs M)(ho:o<↑rs):Bd rs (dU rs M o):=by
 refine⟨by unfold dU;rw[yBe];exact h.l,λ i r hr=>?_⟩;unfold dU;by_cases c:o=i
 ·subst c;rw[vP (by rw[h.l];exact ho),rY hr];have:=xAe r.w;omega
 ·rw[vO c];exact h.lt i r hr
section
variable {rs:List Rw}
def aD0:∀ (l:List Nat) (M:List Nat),(∀ o∈l,o<↑rs)->Bd rs M->Bd rs (l.foldl (dU rs) M)
 |[],_,_,h=>h|o::l,M,hl,h=>aD0 l _ (λ x hx=>hl x (xAf _ hx)) (aIE h (hl o xAc))
end
def aJA(S:aE)(M:List Nat)(a v:Nat)(ha:a<↑M):kX (S++[qq (M.map nD)]) (.loc ↑S) (.d (.int a)) (.d (.int v))=qq (S++[qq ((M.set a v).map nD)]):=by unfold kX;simp only[qV];unfold kK;rw[yAb,if_pos (),if_pos (),oB,yAu,List.set_append_right _ _ (yAd _),yBf,List.map_set];rfl
def aKe{M:List Nat}(h:i<↑M):aN (.list (M.map nD)) (.int i)=qq (.int ((M.getD i 0:Nat):Int)):=iT (by rw[yAc,aDK h];rfl)
def aX4{fa fb:FE}{env:bI}{S:aE}{n:Nat}(h1:fa env S=qq (.d (.list [.int 0]),S))(h2:fb env S=qq (.d (.int n),S))(hn:n<=1000):yY fa fb env S=qq ((yAg n 0).map nD,S):=by
 have hz:↑(([.int 0]:List D))*((n:Int)).toNat<=qy:=by rw[yAu,qo];simp;omega
 have hd:dr S (.d (.list [.int 0]))=qq (.list [.int 0]):=rfl;unfold yY;rw[h1,oB,h2,oB];show((dr S (.d (.list [.int 0]))).bind _)=_;rw[hd,oB];show(if (n:Int)<2^63 /\ -(2^63)<=(n:Int)/\↑(([.int 0]:List D))*((n:Int)).toNat<=qy then qq (zG ((n:Int)).toNat [yAn 0],S) else qz)=_;rw[if_pos ⟨by omega,by omega,hz⟩,yAu,aQo,yFt];rfl
def aO9{rs:List Rw}{F:List Ft}(d:Nat)(p:Prg rs)(hr:rs[k]?=qq r)(hF:↑F=↑rs)(o:D)(S:aE)(h:Bd rs M)(c3 c5 c6 c7 c8:Option W):∃ c7' c8':Option W,Bd rs (gJ rs F M k)/\gZ (.many [7,8]) (lv (d<$>6) aAL) (xs (d<$>6) aAE) [qq (.d (rs<*o)),qq (.d (F*>Ft.d)),qq (.loc ↑S),c3,(k:),c5,c6,c7,c8] (S++[qq (M.map nD)])=qq (.nx [qq (.d (rs<*o)),qq (.d (F*>Ft.d)),qq (.loc ↑S),c3,(k:),c5,c6,c7',c8'],S++[qq ((gJ rs F M k).map nD)]):=by
 have hk:k<↑rs:=(gIm hr).1;have hm:=h.lt k r hr;have e0:=@aKe k M (by rw[h.l];exact hk);have rn:=aNX d p hr hF hm o (S++[qq (M.map nD)]);have eR:gJ rs F M k=(eK rs F r (M.getD k 0)).foldl cU M:=by unfold gJ;rw[hr]
 let(aY,S',p1,c7',c8',hb,rfl,rfl):=nK (t:=.many [7,8]) (fi:=lv (d<$>6) aAL) (fb:=xs (d<$>6) aAE) (env:=[qq (.d (rs<*o)),qq (.d (F*>Ft.d)),qq (.loc ↑S),c3,(k:),c5,c6,c7,c8]) (S:=S++[qq (M.map nD)]) (S1:=S++[qq (M.map nD)]) (ds:=(eK rs F r (M.getD k 0)).map pD)
  (λ j env S'=>∃ c7 c8:Option W,Bd rs (((eK rs F r (M.getD k 0)).take j).foldl cU M)/\env=[qq (.d (rs<*o)),qq (.d (F*>Ft.d)),qq (.loc ↑S),c3,(k:),c5,c6,c7,c8]/\S'=S++[qq ((((eK rs F r (M.getD k 0)).take j).foldl cU M).map nD)])
  (by erw[20,aAL,qV,e0,rn,fH]) ⟨c7,c8,h,rfl,rfl⟩ (by
    rintro j dd env S' hd ⟨c7,c8,hb,rfl,rfl⟩;rw[yAc] at hd;let(q,hq,rfl):=Option.map_eq_some_iff.mp hd;let(q1,q2):=aBb p hr hm q (xAk hq);have ql:q.1<↑(((eK rs F r (M.getD k 0)).take j).foldl cU M):=by rw[hb.l];omega
    have ft:=aGG (f:=cU) M hq;have e1:=aKe ql;have pe:kX (S++[qq ((((eK rs F r (M.getD k 0)).take j).foldl cU M).map nD)]) (.loc ↑S) (.d (.int (q.1:Nat))) (.d (.int (((((eK rs F r (M.getD k 0)).take j).foldl cU M).getD q.1 0|||q.2:Nat):Int)))=qq (S++[qq ((cU (((eK rs F r (M.getD k 0)).take j).foldl cU M) q).map nD)]):=aJA S _ q.1 _ ql;refine⟨[qq (.d (rs<*o)),qq (.d (F*>Ft.d)),qq (.loc ↑S),c3,(k:),c5,c6,((q.1:Nat):),((q.2:Nat):)],[qq (.d (rs<*o)),qq (.d (F*>Ft.d)),qq (.loc ↑S),c3,(k:),c5,c6,((q.1:Nat):),((q.2:Nat):)],S++[qq ((cU (((eK rs F r (M.getD k 0)).take j).foldl cU M) q).map nD)],rfl,?_,_,_,?_,rfl,by rw[ft]⟩
    ·erw[1,aAE,qV,e1,eQ,mM,pe]
    ·rw[ft];exact aLg hb () q2)
 rw[yAb,yAe,<- eR] at hb p1;exact⟨c7',c8',hb,p1⟩
def aQz{rs:List Rw}{F:List Ft}(d:Nat)(p:Prg rs)(hF:↑F=↑rs)(aD:List Nat)(ho:∀ o∈aD,o<↑rs)(S:aE):Bd rs (eU rs F aD)/\cl fns (d+7) 20 [.d (rs<*(aD*>nD)),.d (F*>Ft.d)] S=qq (.d (.tuple ((eU rs F aD).map nD)),S):=by
 have pl:=p.l;have lR:eX [(rs*>Rw.d)]=qq (.int ↑rs):=by
  show qq (yAn ((↑(rs.map Rw.d):Nat):Int))=_;rw[yAb]
 let(env1,S1,p1,c3,hb0,rfl,rfl):=nK (t:=.one 3) (fi:=lv (d<$>6) aC8) (fb:=xs (d<$>6) aDb) (env:=[qq (.d (rs<*(aD*>nD))),qq (.d (F*>Ft.d)),qq (.loc ↑S),qz,qz,qq (.d (rs*>Rw.d)),qq (.d (aD*>nD)),qz,qz]) (S:=S++[qq ((yAg ↑rs 0).map nD)]) (S1:=S++[qq ((yAg ↑rs 0).map nD)]) (ds:=aD.map nD)
  (λ j env S'=>∃ c3:Option W,Bd rs ((aD.take j).foldl (dU rs) (yAg ↑rs 0))/\env=[qq (.d (rs<*(aD*>nD))),qq (.d (F*>Ft.d)),qq (.loc ↑S),c3,qz,qq (.d (rs*>Rw.d)),qq (.d (aD*>nD)),qz,qz]/\S'=S++[qq (((aD.take j).foldl (dU rs) (yAg ↑rs 0)).map nD)])
  (by erw[20,aC8,fH]) ⟨qz,aDR,rfl,rfl⟩ (by
    rintro j dd env S' hd ⟨c3,hb,rfl,rfl⟩;rw[yAc] at hd;let(q,hq,rfl):=Option.map_eq_some_iff.mp hd;have hql:=ho q (xAk hq);have hr:rs[q]?=qq rs[q]:=yAa hql;have ft:=aGG (f:=dU rs) (yAg ↑rs 0) hq;have wo:=aKG (d+5) q hr (aD*>nD) (S++[qq (((aD.take j).foldl (dU rs) (yAg ↑rs 0)).map nD)]);have fu:=cT (d+5) rs[q].w (by have:=(p.ws q _ hr).2;omega) (S++[qq (((aD.take j).foldl (dU rs) (yAg ↑rs 0)).map nD)]);have pe:kX (S++[qq (((aD.take j).foldl (dU rs) (yAg ↑rs 0)).map nD)]) (.loc ↑S) (.d (.int q)) (.d (.int ((2^rs[q].w-1:Nat):Int)))=qq (S++[qq ((dU rs ((aD.take j).foldl (dU rs) (yAg ↑rs 0)) q).map nD)]):=by
     rw[aPj hr];exact aJA S _ q _ (by rw[hb.l];exact hql)
    refine⟨[qq (.d (rs<*(aD*>nD))),qq (.d (F*>Ft.d)),qq (.loc ↑S),(q:),qz,qq (.d (rs*>Rw.d)),qq (.d (aD*>nD)),qz,qz],[qq (.d (rs<*(aD*>nD))),qq (.d (F*>Ft.d)),qq (.loc ↑S),(q:),qz,qq (.d (rs*>Rw.d)),qq (.d (aD*>nD)),qz,qz],S++[qq ((dU rs ((aD.take j).foldl (dU rs) (yAg ↑rs 0)) q).map nD)],rfl,?_,_,?_,rfl,by rw[ft]⟩
    ·erw[1,aDb,wo,fu,mM,pe]
    ·rw[ft];exact aIE hb hql)
 rw[yAb,yAe] at hb0 p1;have un1:sK .USub (.int 1)=qq (.int (-1)):=rfl;have i3:lv (d<$>6) aAB [qq (.d (rs<*(aD*>nD))),qq (.d (F*>Ft.d)),qq (.loc ↑S),c3,qz,qq (.d (rs*>Rw.d)),qq (.d (aD*>nD)),qz,qz] (S++[qq ((qF rs aD).map nD)])=qq (mB (((↑rs:Nat):Int)-1) ↑rs,S++[qq ((qF rs aD).map nD)]):=by
  have hc:(-(2^62)<=((↑rs:Nat):Int)-1/\((↑rs:Nat):Int)-1<2^62 /\ -(2^62)<=(-1:Int)/\(-1:Int)<2^62)/\(-1:Int) = -1:=⟨⟨by omega,by omega,by decide,by decide⟩,rfl⟩;have hn:(((↑rs:Nat):Int)-1-(-1)).toNat=↑rs:=();erw[20,aAB,aBB,lR,cO,un1];rw[if_pos ⟨hc.1,True.intro⟩,hn]
 let(env2,S2,p2,c4,c7,c8,M,hb,hM,rfl,rfl):=nK (t:=.one 4) (fi:=lv (d<$>6) aAB) (fb:=xs (d<$>6) aDe) (env:=[qq (.d (rs<*(aD*>nD))),qq (.d (F*>Ft.d)),qq (.loc ↑S),c3,qz,qq (.d (rs*>Rw.d)),qq (.d (aD*>nD)),qz,qz]) (S:=S++[qq ((qF rs aD).map nD)]) (S1:=S++[qq ((qF rs aD).map nD)]) (ds:=mB (((↑rs:Nat):Int)-1) ↑rs)
  (λ j env S'=>∃ (c4 c7 c8:Option W) (M:List Nat),Bd rs M/\kA rs F (↑rs-j) M=eU rs F aD/\env=[qq (.d (rs<*(aD*>nD))),qq (.d (F*>Ft.d)),qq (.loc ↑S),c3,c4,qq (.d (rs*>Rw.d)),qq (.d (aD*>nD)),c7,c8]/\S'=S++[qq (M.map nD)])
  i3 ⟨qz,qz,qz,qF rs aD,hb0,rfl,rfl,rfl⟩ (by
   rintro j dd env S' hd ⟨c4,c7,c8,M,hb,hM,rfl,rfl⟩;have hj:j<↑rs:=by
    have:=(gIm hd).1;rw[sV] at this;exact this
   rw[aCW _ _ j hj] at hd;have ek:((↑rs:Nat):Int)-1-(j:Int)=((↑rs-1-j:Nat):Int):=cs1 hj;rw[ek] at hd;cases hd;have hr:rs[↑rs-1-j]?=qq rs[↑rs-1-j]:=yAa ();let(c7',c8',hb',e):=aO9 d p hr hF (aD*>nD) S hb c3 (qq (.d (rs*>Rw.d))) (qq (.d (aD*>nD))) c7 c8;refine⟨[qq (.d (rs<*(aD*>nD))),qq (.d (F*>Ft.d)),qq (.loc ↑S),c3,(((↑rs-1-j:Nat):Int):),qq (.d (rs*>Rw.d)),qq (.d (aD*>nD)),c7,c8],[qq (.d (rs<*(aD*>nD))),qq (.d (F*>Ft.d)),qq (.loc ↑S),c3,(((↑rs-1-j:Nat):Int):),qq (.d (rs*>Rw.d)),qq (.d (aD*>nD)),c7',c8'],S++[qq ((gJ rs F M (↑rs-1-j)).map nD)],rfl,?_,_,_,_,_,hb',?_,rfl,rfl⟩
   ·erw[1,aDe,e]
   ·rw[<- hM,show ↑rs-j=(↑rs-1-j)+1 by omega]
    show _=kA rs F (↑rs-1-j) (gJ rs F M (↑rs-1-j));rw[show ↑rs-(j+1)=↑rs-1-j by omega])
 rw[sV,yBf] at hM;have hM':M=eU rs F aD:=hM;subst hM';refine⟨hb,?_⟩;have tk1:∀ x,yEt ↑S (S++[x])=S:=λ x=>yHf
 have q0:xs (d<$>6) (cL gW) [qq (.d (rs<*(aD*>nD))),qq (.d (F*>Ft.d)),qz,qz,qz,qz,qz,qz,qz] S=qq (.nx [qq (.d (rs<*(aD*>nD))),qq (.d (F*>Ft.d)),qz,qz,qz,qq (.d (rs*>Rw.d)),qq (.d (aD*>nD)),qz,qz],S):=by
  erw[2,cL,gW,True]
 have q1:xs (d<$>6) (cL (aQ gW)) [qq (.d (rs<*(aD*>nD))),qq (.d (F*>Ft.d)),qz,qz,qz,qq (.d (rs*>Rw.d)),qq (.d (aD*>nD)),qz,qz] S=qq (.nx [qq (.d (rs<*(aD*>nD))),qq (.d (F*>Ft.d)),qq (.loc ↑S),qz,qz,qq (.d (rs*>Rw.d)),qq (.d (aD*>nD)),qz,qz],S++[qq ((yAg ↑rs 0).map nD)]):=by
  simp only[cL,aQ,gW,aBg,aEa,aI6,jH,gI];rw[aX4 (n:=↑rs) (by erw[20,True]) (by erw[20,lR]) ()];erw[0,True]
 have e:gW=.seq (cL gW) (.seq (cL (aQ gW)) (.seq (cL (aQ (aQ gW))) (.seq (cL (aQ (aQ (aQ gW)))) (aQ (aQ (aQ (aQ gW))))))):=rfl;have p1':xs (d<$>6) (cL (aQ (aQ gW))) [qq (.d (rs<*(aD*>nD))),qq (.d (F*>Ft.d)),qq (.loc ↑S),qz,qz,qq (.d (rs*>Rw.d)),qq (.d (aD*>nD)),qz,qz] (S++[qq ((yAg ↑rs 0).map nD)])=qq (.nx [qq (.d (rs<*(aD*>nD))),qq (.d (F*>Ft.d)),qq (.loc ↑S),c3,qz,qq (.d (rs*>Rw.d)),qq (.d (aD*>nD)),qz,qz],S++[qq ((qF rs aD).map nD)]):=p1;have p2':xs (d<$>6) (cL (aQ (aQ (aQ gW)))) [qq (.d (rs<*(aD*>nD))),qq (.d (F*>Ft.d)),qq (.loc ↑S),c3,qz,qq (.d (rs*>Rw.d)),qq (.d (aD*>nD)),qz,qz] (S++[qq ((qF rs aD).map nD)])=qq (.nx [qq (.d (rs<*(aD*>nD))),qq (.d (F*>Ft.d)),qq (.loc ↑S),c3,c4,qq (.d (rs*>Rw.d)),qq (.d (aD*>nD)),c7,c8],S++[qq ((eU rs F aD).map nD)]):=p2;have fl:xs (d<$>6) gW [qq (.d (rs<*(aD*>nD))),qq (.d (F*>Ft.d)),qz,qz,qz,qz,qz,qz,qz] S=qq (.rt (.d (.tuple ((eU rs F aD).map nD))),S++[qq ((eU rs F aD).map nD)]):=by
  rw[e,gF q0,gF q1,gF p1',gF p2'];erw[2,aQ,gW,qV,jE,jG]
 rw[bE rfl (d+6) _ S rfl];show((xs (d<$>6) gW [qq (.d (rs<*(aD*>nD))),qq (.d (F*>Ft.d)),qz,qz,qz,qz,qz,qz,qz] S).bind _)=_;rw[fl];simp only[oB,lC,tk1]
def aPL{n j:Nat}{dd:D}(h:((yBd n).map λ k=>yAn ((k:Nat):Int))[j]?=qq dd):j<n/\dd=.int j:=by
 have hj:j<n:=by
  have:=(gIm h).1;simpa using this
 rw[yAc,List.getElem?_range hj] at h;cases h;exact⟨hj,rfl⟩
def Sb(a b:Nat):Prop:=∀ i,a[i]! =true->b[i]! =true
def Sb.refl(a:Nat):Sb a a:=λ _ h=>h
def aIb:∀ (l:List (Nat×Nat)) (M:List Nat) (i:Nat),(∀ q∈l,q.1≠i)->(l.foldl cU M).getD i 0=M.getD i 0
 |[],_,_,_=>rfl
 |q::l,M,i,h=>by
   show(l.foldl cU (cU M q)).getD i 0=_;rw[aIb l (cU M q) i λ x hx=>h x (xAf _ hx)];unfold cU;exact vO (h q xAc)
def aDM{rs:List Rw}(hr:rs[k]?=qq r):gJ rs F M k=(eK rs F r (M.getD k 0)).foldl cU M:=by unfold gJ;rw[hr]
def aDH{rs:List Rw}(p:Prg rs)(hk:k<↑rs)(h:Bd rs M):Bd rs (gJ rs F M k):=by have hr:rs[k]?=qq rs[k]:=yAa hk;rw[aDM hr];exact aJJ p hr (h.lt k _ hr) _ M (λ q hq=>hq) h
def aP9{rs:List Rw}(p:Prg rs)(h:Bd rs M)(hi:k<=i)(hk:k<↑rs):(gJ rs F M k).getD i 0=M.getD i 0:=by
 have hr:rs[k]?=qq rs[k]:=yAa hk;rw[aDM hr];refine aIb _ M i λ q hq=>?_
 have:=(aBb p hr (h.lt k _ hr) q hq).1;omega
section
variable {rs:List Rw}{F:List Ft}
def aHY(p:Prg rs):∀ (k:Nat) (M:List Nat) (i:Nat),Bd rs M->k<=↑rs->k<=i+1->(kA rs F k M).getD i 0=M.getD i 0
 |0,_,_,_,_,_=>rfl
 |k+1,M,i,h,hk,hi=>by
   show(kA rs F k (gJ rs F M k)).getD i 0=_;rw[aHY p k _ i (aDH p () h) () (),aP9 p h () ()]
def aJo(p:Prg rs):∀ (k:Nat) (M:List Nat),Bd rs M->k<=↑rs->Bd rs (kA rs F k M)
 |0,_,h,_=>h|k+1,M,h,hk=>aJo p k _ (aDH p () h) ()
end
def aTK{rs:List Rw}(p:Prg rs)(ho:∀ o∈aD,o<↑rs):Bd rs (eU rs F aD):=aJo p _ _ (aD0 aD _ ho aDR) (yAd _)
def bA:Option Nat->D
 |none=>.none|some n=>.int n
def aBp(a b:Option Nat):aS .Eq (bA a) (bA b)=qq (.bool (decide (a=b))):=by
 cases a with
 |none=>
   cases b with
   |none=>rfl|some n=>rfl
 |some m=>
   cases b with
   |none=>rfl
   |some n=>
     show aS .Eq (.int m) (.int n)=_;rw[aZ];congr 2;by_cases c:m=n
     ·subst c;rw[beq_self_eq_true,dqT rfl]
     ·rw[dqF (λ h=>c (Option.some.inj h)),beq_eq_false_iff_ne];omega
def aLA(a:Option Nat):aS .IsNot (bA a) .none=qq (.bool a.isSome):=by cases a<;>rfl
def aAQ(d m y:Nat)(S:aE):cl fns (d+1) 49 [.d (.int m),.d (.int y)] S=qq (.d (.bool (bJ m y==0)),S):=by rw[bE rfl d _ S rfl];erw[11,aKQ,aJa,aHP,aZ,dF]
def eG(f:Ft)(m:Nat):Option Nat:=if f.O&&&m=0\/(f.O&&&m)&&&((f.O&&&m)-1)≠0\/bJ m (f.N|||f.O)≠0 then qz else qq (bl (f.O&&&m)-1)
def iI(h:n=0):(n==0)=true:=by rw[h];rfl
def rZ(h:¬ n=0):(n==0)=false:=beq_eq_false_iff_ne.mpr h
def aHc(d:Nat)(f:Ft)(m:Nat)(S:aE):cl fns (d+2) 50 [.d f.d,.d (.int m)] S=qq (.d (bA (eG f m)),S):=by
 have e1:=aAQ d m (f.N|||f.O) S;have e2:=wD d f S;have f1:=fO f;obtain⟨o,ho⟩:∃ o,o=f.O&&&m:=⟨_,rfl⟩;have e3:=wF d o S;have b1:cB .BitAnd (.int f.O) (.int m)=qq (.int o):=by rw[ho];exact dC _ _
 rw[bE rfl (d+1) _ S rfl];unfold eG;rw[<- ho];by_cases c1:o=0
 ·have t1:=iI c1;rw[if_pos (.inl c1)];erw[11,vR,f1,b1,aZ,dF,t1]
 ·have t1:=rZ c1;have s1:(o:Int)-1=((o-1:Nat):Int):=();by_cases c2:o&&&(o-1)=0
  ·have t2:=iI c2;by_cases c3:bJ m (f.N|||f.O)=0
   ·have t3:=iI c3;have s2:((bl o:Nat):Int)-1=((bl o-1:Nat):Int):=by have:=@tU o ();omega
    rw[if_neg (λ h=>h.elim c1 λ h=>h.elim (λ h=>h c2) λ h=>h c3)];rw[t3] at e1;erw[11,vR,f1,b1,aZ,kT,dF,t1,cO,s1,dC,t2,e1,e2,e3,s2,yEz,yHe]
   ·have t3:=rZ c3;rw[if_pos (.inr (.inr c3))];rw[t3] at e1;erw[11,vR,f1,b1,aZ,kT,dF,t1,cO,s1,dC,t2,e1,e2,yEz,yHe]
  ·have t2:=rZ c2;rw[if_pos (.inr (.inl c2))];erw[11,vR,f1,b1,aZ,kT,dF,t1,cO,s1,dC,t2,yEz,yHe]
def pg(P:List (Option Nat))(i:Nat):Option Nat:=P.getD i qz
def xX{P:List (Option Nat)}(h:i<↑P):aN (P*>bA) (.int i)=qq (bA (pg P i)):=gE (by
 rw[yAc,yAa h];show qq (bA P[i])=qq (bA (P.getD i qz));rw[xAg,yAa h];rfl)
def aEX{P:List (Option Nat)}(h:0<↑P):aN (P*>bA) (.int 0)=qq (bA (pg P 0)):=xX h
def aBY{P:List (Option Nat)}(h:1<↑P):aN (P*>bA) (.int 1)=qq (bA (pg P 1)):=xX h
def aYT{P:List (Option Nat)}(h:2<↑P):aN (P*>bA) (.int 2)=qq (bA (pg P 2)):=xX h
def iX(P:List (Option Nat)):Bool:=decide (pg P 0=pg P 1)
def oP(wd:Wd):Bool:=decide (wd=.xor\/wd=.sub\/wd=.less\/wd=.under)
def aWO(a:Wd):aS .In (.str a.s) (.tuple [.str "xor",.str "sub",.str "less",.str "under"])=qq (.bool (oP a)):=by cases a<;>rfl
def mV(wd:Wd)(f:Ft)(m:Nat)(P:List (Option Nat)):Option Nat:=if bJ m (f.N|||f.O)=0 then qq f.O else if (oP wd&&iX P)=true then qq 0 else if (decide (wd=.same)&&iX P)=true then qq 1 else qz
def aBd{P:List (Option Nat)}(hP:↑P=aM wd)(h:oP wd=true\/wd=.same):1<↑P:=by rw[hP];revert h;cases wd<;>decide
def aNn(d:Nat)(r:Rw)(f:Ft)(m:Nat)(P:List (Option Nat))(hP:↑P=aM r.wd)(S:aE):cl fns (d+2) 51 [.d r.d,.d f.d,.d (.int m),.d (P*>bA)] S=qq (.d (bA (mV r.wd f m P)),S):=by
 have e1:=aAQ d m (f.N|||f.O) S;have e2:=wD d f S;have f1:=fO f;have r0:=iF r;have i1:=aWO r.wd;have i2:aS .Eq (.str r.wd.s) (.str "same")=qq (.bool (decide (r.wd=.same))):=bN r.wd .same;have q:=aBp (pg P 0) (pg P 1);rw[bE rfl (d+1) _ S rfl];unfold mV;by_cases c1:bJ m (f.N|||f.O)=0
 ·rw[if_pos c1];rw[iI c1] at e1;erw[11,qO,r0,e1,e2,f1]
 ·rw[if_neg c1];rw[rZ c1] at e1;cases c2:oP r.wd with
  |true=>
    have ns:decide (r.wd=.same)=false:=by
     rw[decide_eq_false_iff_not];intro h;rw[h] at c2;cases c2
    have p0:=@aEX P (by have:=aBd hP (.inl c2);omega);have p1:=aBY (aBd hP (.inl c2));rw[c2] at i1;rw[ns] at i2;rw[ns,yAk,yAv];cases c3:iX P with
    |true=>
      have q':aS .Eq (bA (pg P 0)) (bA (pg P 1))=qq (.bool true):=by rw[q];exact congrArg _ (congrArg _ c3)
      erw[11,qO,r0,e1,e2,i1,p0,p1,q']
    |false=>
      have q':aS .Eq (bA (pg P 0)) (bA (pg P 1))=qq (.bool false):=by rw[q];exact congrArg _ (congrArg _ c3)
      erw[11,qO,r0,e1,e2,i1,i2,p0,p1,q']
  |false=>
    rw[c2] at i1;rw[yAv,if_neg yBm];cases c3:decide (r.wd=.same) with
    |true=>
      have p0:=@aEX P (by have:=aBd hP (.inr (oqT c3));omega);have p1:=aBY (aBd hP (.inr (oqT c3)));rw[c3] at i2;rw[yAk];cases c4:iX P with
      |true=>
        have q':aS .Eq (bA (pg P 0)) (bA (pg P 1))=qq (.bool true):=by rw[q];exact congrArg _ (congrArg _ c4)
        erw[11,qO,r0,e1,e2,i1,i2,p0,p1,q']
      |false=>
        have q':aS .Eq (bA (pg P 0)) (bA (pg P 1))=qq (.bool false):=by rw[q];exact congrArg _ (congrArg _ c4)
        erw[11,qO,r0,e1,e2,i1,i2,p0,p1,q']
    |false=>
      rw[c3] at i2;rw[yAv,if_neg yBm];erw[11,qO,r0,e1,e2,i1,i2]
def dA(wd:Wd)(f:Ft)(m:Nat):Bool:=match wd with|.and=>bJ m f.O==0|.or=>bJ m f.N==0|.xor=>bJ m f.N==0|.add=>bJ (2^bl m-1) f.N==0|.sub=>bJ (2^bl m-1) f.N==0|.mul=>decide (eG f (2^bl m-1)=qq 0)|_=>false
def aWU(a:Wd):aS .In (.str a.s) (.tuple [.str "or",.str "xor"])=qq (.bool (decide (a=.or\/a=.xor))):=by cases a<;>rfl
def aTy(a:Option Nat):aS .Eq (bA a) (.int 0)=qq (.bool (decide (a=qq 0))):=aBp a (qq 0)
def aN9(d:Nat)(wd:Wd)(f:Ft)(m:Nat)(hm:m<2^64)(S:aE):cl fns (d+3) 52 [.d (.str wd.s),.d f.d,.d (.int m)] S=qq (.d (.bool (dA wd f m)),S):=by
 have f0:=fP f;have f1:=fO f;have am:=λ m y=>aAQ (d+1) m y S
 have bo:=aAU d m S (yHy hm (yCo (·) (·)));have sb:=aHc d f (2^bl m-1) S;have i1:aS .Eq (.str wd.s) (.str "and")=qq (.bool (decide (wd=.and))):=bN wd .and;have i2:=aWU wd;have i3:=aEC wd;have i4:aS .Eq (.str wd.s) (.str "mul")=qq (.bool (decide (wd=.mul))):=bN wd .mul;rw[bE rfl (d+2) _ S rfl];by_cases c1:wd=.and
 ·rw[dqT c1] at i1;have e:dA wd f m=(bJ m f.O==0):=by rw[c1];rfl
  have a1:=am m f.O;rw[e];erw[11,sU,i1,f1,a1]
 ·rw[dqF c1] at i1;by_cases c2:wd=.or\/wd=.xor
  ·rw[dqT c2] at i2;have e:dA wd f m=(bJ m f.N==0):=by rcases c2 with c2|c2<;>rw[c2]<;>rfl
   have a1:=am m f.N;rw[e];erw[11,sU,i1,i2,f0,a1]
  ·rw[dqF c2] at i2;by_cases c3:wd=.add\/wd=.sub
   ·rw[dqT c3] at i3;have e:dA wd f m=(bJ (2^bl m-1) f.N==0):=by rcases c3 with c3|c3<;>rw[c3]<;>rfl
    have a1:=am (2^bl m-1) f.N;rw[e];erw[11,sU,i1,i2,i3,f0,bo,a1]
   ·rw[dqF c3] at i3;by_cases c4:wd=.mul
    ·rw[dqT c4] at i4;have e:dA wd f m=decide (eG f (2^bl m-1)=qq 0):=by rw[c4];rfl
     have p0:=aTy (eG f (2^bl m-1));rw[e];erw[11,sU,i1,i2,i3,i4,bo,sb,p0]
    ·rw[dqF c4] at i4;have e:dA wd f m=false:=by
      revert c1 c2 c3 c4;cases wd<;>first|(intros;rfl)|(intro a b c d;exact absurd rfl a)|(intro a b c d;exact absurd (.inl rfl) b)|(intro a b c d;exact absurd (.inr rfl) b)|(intro a b c d;exact absurd (.inl rfl) c)|(intro a b c d;exact absurd (.inr rfl) c)|(intro a b c d;exact absurd rfl d)
     rw[e];erw[11,sU,i1,i2,i3,i4]
def jK(t:Ft)(P:List (Option Nat)):Option Nat:=if pg P 1=pg P 2\/t.O=1 then qq 1 else if t.N=1 then qq 2 else qz
def aLD(h:n=1):(n==1)=true:=by rw[h];rfl
def aLX(h:¬ n=1):(n==1)=false:=beq_eq_false_iff_ne.mpr h
def aPS(d:Nat)(t:Ft)(P:List (Option Nat))(hP:↑P=3)(S:aE):cl fns (d+1) 53 [.d t.d,.d (P*>bA)] S=qq (.d (bA (jK t P)),S):=by
 have f0:=fP t;have f1:=fO t;have p1:=@aBY P ();have p2:=@aYT P ();have q:=aBp (pg P 1) (pg P 2);rw[bE rfl d _ S rfl];unfold jK;by_cases c1:pg P 1=pg P 2
 ·rw[if_pos (.inl c1)];rw[dqT c1] at q;erw[11,vL,p1,p2,q]
 ·rw[dqF c1] at q;by_cases c2:t.O=1
  ·have o1:=aLD c2;rw[if_pos (.inr c2)];erw[11,vL,p1,p2,q,f1,aZ,kN,o1]
  ·have o1:=aLX c2;rw[if_neg (λ h=>h.elim c1 c2)];by_cases c3:t.N=1
   ·have o2:=aLD c3;rw[if_pos c3];erw[11,vL,p1,p2,q,f1,f0,aZ,kN,o1,o2]
   ·have o2:=aLX c3;rw[if_neg c3];erw[11,vL,p1,p2,q,f1,f0,aZ,kN,o1,o2]
def mX(wd:Wd):Bool:=decide (wd=.and\/wd=.or)
def qL(wd:Wd):Bool:=decide (wd=.left\/wd=.right\/wd=.slide)
def sR(wd:Wd):Bool:=decide (wd=.cut\/wd=.wide\/wd=.sign)
def iA(wd:Wd):Bool:=decide (wd=.and\/wd=.or\/wd=.xor\/wd=.add\/wd=.mul)
def aXN(a:Wd):aS .In (.str a.s) (.tuple [.str "and",.str "or"])=qq (.bool (mX a)):=by cases a<;>rfl
def aX7(a:Wd):aS .In (.str a.s) (aCI*>Tv.d)=qq (.bool (iA a)):=by cases a<;>rfl
def aXD(a:Wd):aS .In (.str a.s) (kQ*>Tv.d)=qq (.bool (qL a)):=oV a
def aVT(a:Wd):aS .In (.str a.s) (.tuple [.str "cut",.str "wide",.str "sign"])=qq (.bool (sR a)):=aJX a
def fZ(r:Rw)(m:Nat)(ws:List Nat)(Fs:List Ft)(P:List (Option Nat)):Option Nat:=
 cond (mX r.wd&&iX P) (qq 0) (cond (decide (r.wd=.pick)) (jK (f0 Fs 0) P) (cond (qL r.wd) (cond (dH r==0) (qq 0) qz) (cond (sR r.wd) (cond (g0 ws 0==r.w) (qq 0) qz)
  (cond (decide (↑P=2)&&dA r.wd (f0 Fs 1) m) (qq 0) (cond (iA r.wd&&dA r.wd (f0 Fs 0) m) (qq 1) qz)))))
def aXu{r:Rw}(h:1<↑r.args):aN r.d (.int 3)=qq (.int ((dH r:Nat):Int)):=@gE (.str r.wd.s::nD r.w::r.args.map nD) 3 _ (by
 show(r.args.map nD)[1]?=qq (nD (r.args.getD 1 0));rw[yAc,xAg,yAa h];rfl)
def aBS{Fs:List Ft}(h:i<↑Fs):aN (Fs*>Ft.d) (.int i)=qq (f0 Fs i).d:=gE (by rw[yAc,nL h];rfl)
def aFh{Fs:List Ft}(h:0<↑Fs):aN (Fs*>Ft.d) (.int 0)=qq (f0 Fs 0).d:=aBS h
def aB1{Fs:List Ft}(h:1<↑Fs):aN (Fs*>Ft.d) (.int 1)=qq (f0 Fs 1).d:=aBS h
def aYR{ws:List Nat}(h:0<↑ws):aN (ws*>nD) (.int 0)=qq (.int ((g0 ws 0:Nat):Int)):=gE (k:=0) (aBU h)
def aI8(a b:Nat):(((a:Nat):Int)==((b:Nat):Int))=(a==b):=by
 by_cases c:a=b
 ·subst c;rw[beq_self_eq_true,beq_self_eq_true]
 ·rw[beq_eq_false_iff_ne.mpr c,beq_eq_false_iff_ne];omega
def aKw(h:mX wd=true):aM wd=2:=by revert h;cases wd<;>decide
def aSn(h:RwOk r ws)(c:qL r.wd=true):1<↑r.args:=by
 have k:=(rR h).2;rcases oqT c with c'|c'|c'
 all_goals
  rw[c'] at k;let(a,e,_):=k;rw[e];exact yFh 1
def aWD(d:Nat)(r:Rw)(m:Nat)(hm:m<2^64)(ws:List Nat)(Fs:List Ft)(P:List (Option Nat))(ok:RwOk r ws)(hi:r.wd≠.in)(hn:r.wd≠.num)(lw:↑ws=aM r.wd)(lF:↑Fs=aM r.wd)(hP:↑P=aM r.wd)(S:aE):cl fns (d+4) 54 [.d r.d,.d (.int m),.d (ws*>nD),.d (Fs*>Ft.d),.d (P*>bA)] S=qq (.d (bA (fZ r m ws Fs P)),S):=by
 have c1:0<aM r.wd:=by
  revert hi hn;cases r.wd<;>decide
 have r0:=iF r;have r1:=dX r;have i1:=aXN r.wd;have i2:aS .Eq (.str r.wd.s) (.str "pick")=qq (.bool (decide (r.wd=.pick))):=bN r.wd .pick;have i3:=aXD r.wd;have i4:=aVT r.wd;have i5:=aX7 r.wd;have q:=aBp (pg P 0) (pg P 1);have F0:=@aFh Fs ();have W0:=@aYR ws ();have lP:eX [(P*>bA)]=qq (.int ↑P):=by
  show qq (yAn ((↑(P.map bA):Nat):Int))=_;rw[yAb]
 have ch:=λ f=>aN9 d r.wd f m hm S
 have mU:=ch (f0 Fs 0);have jM:=ch (f0 Fs 1);rw[bE rfl (d+3) _ S rfl];unfold fZ;have q':aS .Eq (bA (pg P 0)) (bA (pg P 1))=qq (.bool (iX P)):=q;cases a1:mX r.wd with
 |true=>
   have h2:=aKw a1;have p0:=@aEX P ();have p1:=@aBY P ();have F1:=@aB1 Fs ();have n2:decide (r.wd=.pick)=false:=by revert a1;cases r.wd<;>decide
   have n3:qL r.wd=false:=by revert a1;cases r.wd<;>decide
   have n4:sR r.wd=false:=by revert a1;cases r.wd<;>decide
   have n5:iA r.wd=true:=by revert a1;cases r.wd<;>decide
   have n6:decide (↑P=2)=true:=dqT ();have lE:(((↑P:Nat):Int)==2)=true:=by rw[beq_iff_eq];omega
   rw[a1] at i1;rw[n2] at i2;rw[n3] at i3;rw[n4] at i4;rw[n5] at i5;rw[n2,n3,n4,n5,n6,yAk,yAk,yAk];cases a2:iX P with
   |true=>
     rw[a2] at q';erw[11,iB,r0,i1,p0,p1,q']
   |false=>
     rw[a2] at q';cases a3:dA r.wd (f0 Fs 1) m with
     |true=>
       rw[a3] at jM;erw[11,iB,r0,i1,p0,p1,q',i2,i3,i4,lP,aZ,lE,F1,jM]
     |false=>
       rw[a3] at jM;cases a4:dA r.wd (f0 Fs 0) m with
       |true=>
         rw[a4] at mU;erw[11,iB,r0,i1,p0,p1,q',i2,i3,i4,i5,lP,aZ,lE,F1,jM,F0,mU]
       |false=>
         rw[a4] at mU;erw[11,iB,r0,i1,p0,p1,q',i2,i3,i4,i5,lP,aZ,lE,F1,jM,F0,mU]
 |false=>
   rw[a1] at i1;rw[yAv];cases a2:decide (r.wd=.pick) with
   |true=>
     have e3:aM r.wd=3:=by rw[oqT a2];rfl
     have ps:=aPS (d+2) (f0 Fs 0) P () S;rw[a2] at i2;erw[11,iB,r0,i1,i2,F0,ps]
   |false=>
     rw[a2] at i2;cases a3:qL r.wd with
     |true=>
       have r3:=aXu (aSn ok a3);rw[a3] at i3;cases a4:dH r==0 with
       |true=>
         erw[11,iB,r0,i1,i2,i3,r3,aZ,dF,a4]
       |false=>
         erw[11,iB,r0,i1,i2,i3,r3,aZ,dF,a4]
     |false=>
       rw[a3] at i3;cases a4:sR r.wd with
       |true=>
         rw[a4] at i4;cases a5:g0 ws 0==r.w with
         |true=>
           erw[11,iB,r0,i1,i2,i3,i4,W0,r1,aZ,aI8,a5]
         |false=>
           erw[11,iB,r0,i1,i2,i3,i4,W0,r1,aZ,aI8,a5]
       |false=>
         rw[a4] at i4;have tl:(iA r.wd&&dA r.wd (f0 Fs 0) m)=true\/(iA r.wd&&dA r.wd (f0 Fs 0) m)=false:=by cases (iA r.wd&&dA r.wd (f0 Fs 0) m)<;>simp
         by_cases c6:↑P=2
         ·have lE:(((↑P:Nat):Int)==2)=true:=by rw[beq_iff_eq];omega
          have F1:=@aB1 Fs ();rw[dqT c6,yAk];cases a6:dA r.wd (f0 Fs 1) m with
          |true=>
            rw[a6] at jM;erw[11,iB,r0,i1,i2,i3,i4,lP,aZ,lE,F1,jM]
          |false=>
            rw[a6] at jM;cases a7:iA r.wd with
            |true=>
              rw[a7] at i5;cases a8:dA r.wd (f0 Fs 0) m with
              |true=>
                rw[a8] at mU;erw[11,iB,r0,i1,i2,i3,i4,i5,lP,aZ,lE,F1,jM,F0,mU]
              |false=>
                rw[a8] at mU;erw[11,iB,r0,i1,i2,i3,i4,i5,lP,aZ,lE,F1,jM,F0,mU]
            |false=>
              rw[a7] at i5;erw[11,iB,r0,i1,i2,i3,i4,i5,lP,aZ,lE,F1,jM]
         ·have lE:(((↑P:Nat):Int)==2)=false:=by rw[beq_eq_false_iff_ne];omega
          rw[dqF c6,yAv];have a7:iA r.wd=false:=by
           rw[hP] at c6;revert c6;cases r.wd<;>decide
          rw[a7] at i5;rw[a7];erw[11,iB,r0,i1,i2,i3,i4,i5,lP,aZ,lE]
def aFm(a b:List D)(h:↑a+↑b<=1000):cB .Add (.tuple a) (.tuple b)=qq (.tuple (a++b)):=by
 cases a with
 |nil=>rfl
 |cons x r=>
   show(if (x::r).isEmpty=false/\↑(x::r)+↑b<=qy then qq (yAj ((x::r)++b)) else qz)=_;rw[if_pos ⟨rfl,by rw[qo];omega⟩]
def aQq(a:List D)(k:Nat):fA a (qq (k:Nat)) qz=a.drop k:=by
 unfold fA;rw[HT.sIx_none,HT.sIx_nat];rcases yGv k ↑a with h|h
 ·rw[yDn h,yCf (by rw[yHr];omega)]
 ·rw[yDr h,yFg,List.drop_of_length_le h,List.take_nil]
inductive Am where
 |s (x:Wd)|n (k:Nat)|z
def Am.d:Am->D
 |.s x=>.str x.s|.n k=>.int k|.z=>.none
def jA:Option Nat->Am
 |none=>.z|some k=>.n k
def aL3(a:Option Nat):(jA a).d=bA a:=by cases a<;>rfl
def aIX(P:List (Option Nat)):(P.map jA).map Am.d=P.map bA:=by rw[yBh];exact yBx λ a _=>aL3 a
def tA(l:List Am):D:=(l*>Am.d)
def gU(r:Rw):List Am:=.s r.wd :: .n r.w::r.args.map Am.n
def aJ3(l:List Nat):(l.map Am.n).map Am.d=l.map nD:=by rw[yBh];rfl
def aLx(r:Rw):tA (gU r)=r.d:=by show yAj (.str r.wd.s::nD r.w::(r.args.map Am.n).map Am.d)=_;rw[aJ3];rfl
def oS:Option (List Am)->D
 |none=>.none|some l=>tA l
def aXT(a:Option (List Am)):aS .IsNot (oS a) .none=qq (.bool a.isSome):=by cases a<;>rfl
def mQ(r:Rw)(a:Option Nat)(k:Nat):List Am:=[.s .left,.n r.w,jA a,.n k]
def zX(r:Rw)(lo:Nat)(Fs:List Ft)(P:List (Option Nat)):Option (List Am):=match eG (f0 Fs 1) lo with
 |some k=>qq (mQ r (pg P 0) k)
 | none=>(match eG (f0 Fs 0) lo with
   |some k=>qq (mQ r (pg P 1) k)
   | none=>qz)
def aXI(r:Rw)(a:Option Nat)(k:Nat):tA (mQ r a k)=.tuple [.str "left",.int r.w,bA a,.int k]:=by show yAj [.str "left",.int r.w,(jA a).d,.int k]=_;rw[aL3]
noncomputable abbrev eP(R:D)(lo:Nat)(G Q:D)(c4 c5 c6:Option W):bI:=[qq (.d R),(lo:),qq (.d G),qq (.d Q),c4,c5,c6]
def aJm(d:Nat)(r:Rw)(lo i j:Nat)(Fs:List Ft)(P:List (Option Nat))(hi:i<↑P)(hj:j<↑Fs)(c6:Option W)(S:aE):xs (d<$>2) vH (eP r.d lo (Fs*>Ft.d) (P*>bA) ((i:)) ((j:)) c6) S=(match eG (f0 Fs j) lo with
 |some k=>qq (.rt (.d (tA (mQ r (pg P i) k))),S)
 | none=>qq (.nx (eP r.d lo (Fs*>Ft.d) (P*>bA) ((i:)) ((j:)) (qq (.d .none))),S)):=by
 have e1:=aBS hj;have e2:=xX hi;have r1:=dX r;have sb:=aHc d (f0 Fs j) lo S;cases c:eG (f0 Fs j) lo with
 |none=>
   rw[c] at sb;have sb':cl fns (d+2) 50 [.d (f0 Fs j).d,.d (.int lo)] S=qq (.d .none,S):=sb;have is:aS .IsNot .none .none=qq (.bool false):=rfl;erw[2,vH,eP,e1,sb',is]
 |some k=>
   rw[c] at sb;have sb':cl fns (d+2) 50 [.d (f0 Fs j).d,.d (.int lo)] S=qq (.d (.int k),S):=sb;have is:aS .IsNot (.int k) .none=qq (.bool true):=rfl;erw[2,vH,eP,aXI,e1,sb',is,r1,e2]
def aWQ(d:Nat)(r:Rw)(lo:Nat)(Fs:List Ft)(P:List (Option Nat))(lF:↑Fs=2)(lP:↑P=2)(S:aE):cl fns (d+3) 55 [.d r.d,.d (.int lo),.d (Fs*>Ft.d),.d (P*>bA)] S=qq (.d (oS (zX r lo Fs P)),S):=by
 have t1:=aJm d r lo 0 1 Fs P () () qz S;have t2:=aJm d r lo 1 0 Fs P () () (qq (.d .none)) S;obtain⟨R,hR⟩:∃ R:D,R=r.d:=⟨_,rfl⟩;obtain⟨G,hG⟩:∃ G:D,G=(Fs*>Ft.d):=⟨_,rfl⟩;obtain⟨Q,hQ⟩:∃ Q:D,Q=(P*>bA):=⟨_,rfl⟩;rw[<- hR,<- hG,<- hQ] at t1 t2 ⊢;have it:∀ e,lv (d<$>2) aCA e S=qq ([.tuple [.int 0,.int 1],.tuple [.int 1,.int 0]],S):=λ e=>rfl
 have q1:Tg.put (.many [4,5]) (.tuple [.int 0,.int 1]) (eP R lo G Q qz qz qz)=qq (eP R lo G Q ((((0:Nat):Int):)) ((((1:Nat):Int):)) qz):=rfl;have q2:Tg.put (.many [4,5]) (.tuple [.int 1,.int 0]) (eP R lo G Q ((((0:Nat):Int):)) ((((1:Nat):Int):)) (qq (.d .none)))=qq (eP R lo G Q ((((1:Nat):Int):)) ((((0:Nat):Int):)) (qq (.d .none))):=rfl;have b:qN=.seq (.loop (.many [4,5]) aCA vH) (aQ qN):=rfl;rw[bE rfl (d+2) _ S rfl];show((xs (d<$>2) qN (eP R lo G Q qz qz qz) S).bind _)=_;unfold zX;cases c1:eG (f0 Fs 1) lo with
 |some k=>
   rw[c1] at t1;have lp:xs (d<$>2) qN (eP R lo G Q qz qz qz) S=qq (.rt (.d (tA (mQ r (pg P 0) k))),S):=by
    rw[b];simp only[jQ,aAX,dN,gZ,it,oB,kC,q1,t1]
   rw[lp];exact congrArg qq (Prod.ext rfl yAe)
 |none=>
   rw[c1] at t1;cases c2:eG (f0 Fs 0) lo with
   |some k=>
     rw[c2] at t2;have lp:xs (d<$>2) qN (eP R lo G Q qz qz qz) S=qq (.rt (.d (tA (mQ r (pg P 1) k))),S):=by
      rw[b];simp only[jQ,aAX,dN,gZ,it,oB,kC,q1,t1,q2,t2]
     rw[lp];exact congrArg qq (Prod.ext rfl yAe)
   |none=>
     rw[c2] at t2;have lp:xs (d<$>2) qN (eP R lo G Q qz qz qz) S=qq (.rt (.d .none),S):=by
      rw[b];simp only[jQ,aAX,dN,gZ,it,oB,kC,q1,t1,q2,t2];rfl
     rw[lp];exact congrArg qq (Prod.ext rfl yAe)
def mJ(r:Rw)(m:Nat)(Fs:List Ft)(P:List (Option Nat)):Option (List Am):=
 if r.wd=.mul then zX r (2^bl m-1) Fs P else if r.wd=.add/\bJ (2^bl m-1) ((f0 Fs 0).N|||(f0 Fs 1).N)=0 then qq (.s .or :: .n r.w::P.map jA)
 else if r.wd=.sub/\bJ (2^bl m-1) ((f0 Fs 1).N|||(f0 Fs 0).O)=0 then qq (.s .xor :: .n r.w::P.map jA) else qz
def aI9(x:Wd)(w:Nat)(P:List (Option Nat))(h:↑P<=3):cB .Add (.tuple [.str x.s,.int w]) (P*>bA)=qq (tA (.s x :: .n w::P.map jA)):=by rw[aFm [.str x.s,.int w] (P.map bA) (by rw[yAb];show 2+↑P<=1000;omega)];show _=qq (yAj (.str x.s :: .int w::(P.map jA).map Am.d));rw[aIX];rfl
def aN7(d:Nat)(r:Rw)(m:Nat)(hm:m<2^64)(Fs:List Ft)(P:List (Option Nat))(lF:↑Fs=aM r.wd)(lP:↑P=aM r.wd)(S:aE):cl fns (d+4) 56 [.d r.d,.d (.int m),.d (Fs*>Ft.d),.d (P*>bA)] S=qq (.d (oS (mJ r m Fs P)),S):=by
 have r0:=iF r;have r1:=dX r;have bo:=aAU (d+1) m S (yHy hm (yCo (·) (·)));have i1:aS .Eq (.str r.wd.s) (.str "mul")=qq (.bool (decide (r.wd=.mul))):=bN r.wd .mul;have i2:aS .Eq (.str r.wd.s) (.str "add")=qq (.bool (decide (r.wd=.add))):=bN r.wd .add;have i3:aS .Eq (.str r.wd.s) (.str "sub")=qq (.bool (decide (r.wd=.sub))):=bN r.wd .sub;have am:=λ y=>aAQ (d+2) (2^bl m-1) y S
 rw[bE rfl (d+3) _ S rfl];unfold mJ;by_cases c1:r.wd=.mul
 ·have h2:aM r.wd=2:=by rw[c1];rfl
  have pb:=aWQ d r (2^bl m-1) Fs P () () S;rw[if_pos c1];rw[dqT c1] at i1;erw[11,qQ,bo,r0,i1,pb]
 ·rw[if_neg c1];rw[dqF c1] at i1;by_cases c2:r.wd=.add
  ·have h2:aM r.wd=2:=by rw[c2];rfl
   have F0:=@aFh Fs ();have F1:=@aB1 Fs ();have g0':=fP (f0 Fs 0);have g1:=fP (f0 Fs 1);have ct:cB .Add (.tuple [.str "or",.int r.w]) (P*>bA)=qq (tA (.s .or :: .n r.w::P.map jA)):=aI9 .or r.w P ();have n3:¬ r.wd=.sub:=by rw[c2];decide
   have a:=am ((f0 Fs 0).N|||(f0 Fs 1).N);rw[dqT c2] at i2;rw[dqF n3] at i3;by_cases c3:bJ (2^bl m-1) ((f0 Fs 0).N|||(f0 Fs 1).N)=0
   ·rw[if_pos ⟨c2,c3⟩];rw[iI c3] at a;erw[11,qQ,bo,r0,r1,i1,i2,F0,F1,g0',g1,eQ,a,ct]
   ·rw[if_neg (λ h=>c3 h.2),if_neg (λ h=>n3 h.1)];rw[rZ c3] at a;erw[11,qQ,bo,r0,i1,i2,i3,F0,F1,g0',g1,eQ,a]
  ·rw[dqF c2] at i2;rw[if_neg (λ h=>c2 h.1)];by_cases c4:r.wd=.sub
   ·have h2:aM r.wd=2:=by rw[c4];rfl
    have F0:=@aFh Fs ();have F1:=@aB1 Fs ();have g0':=fO (f0 Fs 0);have g1:=fP (f0 Fs 1);have ct:cB .Add (.tuple [.str "xor",.int r.w]) (P*>bA)=qq (tA (.s .xor :: .n r.w::P.map jA)):=aI9 .xor r.w P ();have a:=am ((f0 Fs 1).N|||(f0 Fs 0).O);rw[dqT c4] at i3;by_cases c3:bJ (2^bl m-1) ((f0 Fs 1).N|||(f0 Fs 0).O)=0
    ·rw[if_pos ⟨c4,c3⟩];rw[iI c3] at a;erw[11,qQ,bo,r0,r1,i1,i2,i3,F0,F1,g0',g1,eQ,a,ct]
    ·rw[if_neg (λ h=>c3 h.2)];rw[rZ c3] at a;erw[11,qQ,bo,r0,i1,i2,i3,F0,F1,g0',g1,eQ,a]
   ·rw[dqF c4] at i3;rw[if_neg (λ h=>c4 h.1)];erw[11,qQ,bo,r0,i1,i2,i3]
def uS(r:Rw)(P:List (Option Nat)):List Am:=.s r.wd :: .n r.w::(P.map jA++(r.args.drop ↑P).map Am.n)
def aVq(r:Rw)(P:List (Option Nat))(h:↑P<=3)(ha:↑r.args<=10):∃ a b,fA (.str r.wd.s::nD r.w::r.args.map nD) qz (qq 2)=a/\fA (.str r.wd.s::nD r.w::r.args.map nD) (qq ((2+↑P:Nat):Int)) qz=b/\cB .Add (.tuple a) (P*>bA)=qq (.tuple (a++P.map bA))/\cB .Add (.tuple (a++P.map bA)) (.tuple b)=qq (tA (uS r P)):=by
 refine⟨_,_,aS3 _ 2,aQq _ _,aFm _ _ (by simp;omega),?_⟩;rw[aFm _ _ (by simp;omega)];have e:(yIa r.wd.s::nD r.w::r.args.map nD).drop (2+↑P)=(r.args.drop ↑P).map nD:=by
  rw[yDh 2,List.map_drop];rfl
 rw[e];show _=qq (yAj (.str r.wd.s::nD r.w::(P.map jA++(r.args.drop ↑P).map Am.n).map Am.d));rw[yAw,aIX,aJ3];rfl
def aSK(d:Nat)(r:Rw)(P:List (Option Nat))(h:↑P<=3)(ha:↑r.args<=10)(S:aE):cl fns (d+1) 8 [.d r.d,.d (P*>bA)] S=qq (.d (tA (uS r P)),S):=by
 let(a,b,h1,h2,h3,h4):=aVq r P h ha;have lP:eX [(P*>bA)]=qq (.int ↑P):=by
  show qq (yAn ((↑(P.map bA):Nat):Int))=_;rw[yAb]
 have ad:(2:Int)+((↑P:Nat):Int)=((2+↑P:Nat):Int):=();have rd:r.d=.tuple (.str r.wd.s::nD r.w::r.args.map nD):=rfl;rw[bE rfl d _ S rfl];rw[rd];erw[11,aF2,mS,lP,dS,ad,h1,h2,h3,h4]
inductive Vd where
 |gone|kept|known|passed|cheaper
 deriving DecidableEq
def Vd.s:Vd->Str
 |.gone => "gone" |.kept => "kept" |.known => "known" |.passed => "passed" |.cheaper => "cheaper"
structure Tr where
 v:Vd
 md:Option (List Am)
 pl:Option Nat
def Tr.d(t:Tr):D:=.tuple [.str t.v.s,oS t.md,bA t.pl]
def aMq(w n:Nat):List Am:=[.s .num,.n w,.n n]
def kE(r:Rw)(f:Ft)(m:Nat)(ws:List Nat)(Fs:List Ft)(P:List (Option Nat)):Tr:=
 if r.wd=.in then ⟨.kept,qq (gU r),qz⟩ else if m=0 then ⟨.gone,qz,qz⟩ else if r.wd=.num then ⟨.kept,qq (gU r),qz⟩ else match mV r.wd f m P with
 |some n=>⟨.known,qq (aMq r.w n),qz⟩
 | none=>(match fZ r m ws Fs P with
   |some i=>⟨.passed,qz,pg P i⟩
   | none=>(match mJ r m Fs P with
     |some l=>⟨.cheaper,qq l,qz⟩
     | none=>⟨.kept,qq (uS r P),qz⟩))
def aV7{r:Rw}{P:List (Option Nat)}(hP:↑P=aM r.wd)(c1:0<aM r.wd)(h:fZ r m ws Fs P=qq i):i<↑P:=by
 unfold fZ at h;cases a1:(mX r.wd&&iX P) with
 |true=>
   rw[a1] at h;have h:qq 0=qq i:=h;cases h;omega
 |false=>
   rw[a1] at h;cases a2:decide (r.wd=.pick) with
   |true=>
     rw[a2] at h;have e3:aM r.wd=3:=by rw[oqT a2];rfl
     have h:jK (f0 Fs 0) P=qq i:=h;unfold jK at h;split at h
     ·cases h;omega
     ·split at h
      ·cases h;omega
      ·cases h
   |false=>
     rw[a2] at h;have z:∀ {b:Bool},cond b (qq 0) qz=qq i->i<↑P:=λ {b} q=>by
      cases b with
      |true=>
        have q:qq 0=qq i:=q;cases q;omega
      |false=>cases q
     cases a3:qL r.wd with
     |true=>rw[a3] at h;exact z h
     |false=>
       rw[a3] at h;cases a4:sR r.wd with
       |true=>rw[a4] at h;exact z h
       |false=>
         rw[a4] at h;cases a5:(decide (↑P=2)&&dA r.wd (f0 Fs 1) m) with
         |true=>
           rw[a5] at h;have h:qq 0=qq i:=h;cases h;omega
         |false=>
           rw[a5] at h;cases a6:iA r.wd with
           |true=>
             have e2:aM r.wd=2:=by revert a6;cases r.wd<;>decide
             rw[a6,yAk] at h;cases a7:dA r.wd (f0 Fs 0) m with
             |true=>
               rw[a7] at h;have h:qq 1=qq i:=h;cases h;omega
             |false=>rw[a7] at h;cases h
           |false=>rw[a6,yAv] at h;cases h
def aQe(h:RwOk r ws):↑r.args<=10:=by cases h<;>(show _<=10;simp)
def aQm(d:Nat)(r:Rw)(f:Ft)(m:Nat)(hm:m<2^64)(ws:List Nat)(Fs:List Ft)(P:List (Option Nat))(ok:RwOk r ws)(lw:↑ws=aM r.wd)(lF:↑Fs=aM r.wd)(hP:↑P=aM r.wd)(S:aE):cl fns (d+5) 57 [.d r.d,.d f.d,.d (.int m),.d (ws*>nD),.d (Fs*>Ft.d),.d (P*>bA)] S=qq (.d (kE r f m ws Fs P).d,S):=by
 have r0:=iF r;have r1:=dX r;have i1:aS .Eq (.str r.wd.s) (.str "in")=qq (.bool (decide (r.wd=.in))):=bN r.wd .in;have i2:aS .Eq (.str r.wd.s) (.str "num")=qq (.bool (decide (r.wd=.num))):=bN r.wd .num;have rd:=aLx r;have c3:aM r.wd<=3:=by cases r.wd<;>decide
 rw[bE rfl (d+4) _ S rfl];unfold kE;by_cases c1:r.wd=.in
 ·rw[if_pos c1];rw[dqT c1] at i1;show _=qq (W.d (.tuple [.str "kept",tA (gU r),.none]),S);rw[rd];erw[11,pK,r0,i1]
 ·rw[if_neg c1];rw[dqF c1] at i1;by_cases c2:m=0
  ·have t0:=iI c2;rw[if_pos c2];erw[11,pK,r0,i1,aZ,dF,t0]
  ·have t0:=rZ c2;rw[if_neg c2];by_cases c4:r.wd=.num
   ·rw[if_pos c4];rw[dqT c4] at i2;show _=qq (W.d (.tuple [.str "kept",tA (gU r),.none]),S);rw[rd];erw[11,pK,r0,i1,aZ,dF,t0,i2]
   ·rw[if_neg c4];rw[dqF c4] at i2;have pos:0<aM r.wd:=by revert c1 c4;cases r.wd<;>decide
    have kn:=aNn (d+2) r f m P hP S;have po:=aWD d r m hm ws Fs P ok c1 c4 lw lF hP S;have ch:=aN7 d r m hm Fs P lF hP S;have wo:=aSK (d+3) r P () (aQe ok) S;have is1:=aLA (mV r.wd f m P);have is2:=aLA (fZ r m ws Fs P);have is3:=aXT (mJ r m Fs P);cases k1:mV r.wd f m P with
    |some n=>
      rw[k1] at kn is1;have is1:aS .IsNot (bA (qq n)) .none=qq (.bool true):=is1;erw[11,pK,r0,i1,aZ,dF,t0,i2,kn,is1,r1]
    |none=>
      rw[k1] at kn is1;have is1:aS .IsNot (bA qz) .none=qq (.bool false):=is1;cases k2:fZ r m ws Fs P with
      |some i=>
        have il:=aV7 hP pos k2;have pi:=xX il;rw[k2] at po is2;have is2:aS .IsNot (bA (qq i)) .none=qq (.bool true):=is2;have pe:bA (qq i)=.int i:=rfl;rw[pe] at po is2;erw[11,pK,r0,i1,aZ,dF,t0,i2,kn,is1,po,is2,pi]
      |none=>
        rw[k2] at po is2;have is2:aS .IsNot (bA qz) .none=qq (.bool false):=is2;cases k3:mJ r m Fs P with
        |some l=>
          rw[k3] at ch is3;have is3:aS .IsNot (oS (qq l)) .none=qq (.bool true):=is3;erw[11,pK,r0,i1,aZ,dF,t0,i2,kn,is1,po,is2,ch,is3]
        |none=>
          rw[k3] at ch is3;have is3:aS .IsNot (oS qz) .none=qq (.bool false):=is3;erw[11,pK,r0,i1,aZ,dF,t0,i2,kn,is1,po,is2,ch,is3,wo]
def z3:List Rw->List Ft->List Nat->List (Rw×Ft×Nat)
 |r::rs,f::F,m::M=>(r,f,m)::z3 rs F M|_,_,_=>[]
def aL5:∀ (rs:List Rw) (F:List Ft) (M:List Nat),gH (rs.map Rw.d) (F.map Ft.d) (M.map nD)=(z3 rs F M).map λ t=>yAj [t.1.d,t.2.1.d,nD t.2.2]
 |[],_,_=>rfl|_::_,[],_=>rfl|_::_,_::_,[]=>rfl
 |r::rs,f::F,m::M=>by
   have ih:=aL5 rs F M;simp only[yAt,gH,z3,ih]
def aKj:∀ (rs:List Rw) (F:List Ft) (M:List Nat) (k:Nat) (t:Rw×Ft×Nat),(z3 rs F M)[k]?=qq t ↔ rs[k]?=qq t.1/\F[k]?=qq t.2.1/\M[k]?=qq t.2.2
 |[],_,_,k,t=>by simp[z3]|_::_,[],_,k,t=>by simp[z3]|_::_,_::_,[],k,t=>by simp[z3]|r::rs,f::F,m::M,0,(a,b,c)=>by simp[z3]
 |r::rs,f::F,m::M,k+1,t=>by
   have ih:=aKj rs F M k t;simpa [z3] using ih
def aKd:∀ (rs:List Rw) (F:List Ft) (M:List Nat),↑F=↑rs->↑M=↑rs->↑(z3 rs F M)=↑rs
 |[],_,_,_,_=>rfl|_::_,[],_,h,_=>by cases h|_::_,_::_,[],_,h=>by cases h
 |r::rs,f::F,m::M,h1,h2=>by
   have ih:=aKd rs F M (Nat.succ.inj h1) (Nat.succ.inj h2);simp only[z3,yBg,ih]
def ap1(s:Option (List D))(l:List D)(T:aE)(y:D)(h:↑l<=1000):dI (s::qq l::T) (.loc 1) (.d y)=qq (.d .none,s::qq (l++[y])::T):=by unfold dI;simp only[yBr,yBc];rw[if_pos (by rw[qo];omega)];rfl
def ap2(s t:Option (List D))(l:List D)(T:aE)(y:D)(h:↑l<=1000):dI (s::t::qq l::T) (.loc 2) (.d y)=qq (.d .none,s::t::qq (l++[y])::T):=by unfold dI;simp only[yBr,yBc];rw[if_pos (by rw[qo];omega)];rfl
def ap3(s t u:Option (List D))(l:List D)(T:aE)(y:D)(h:↑l<=1000):dI (s::t::u::qq l::T) (.loc 3) (.d y)=qq (.d .none,s::t::u::qq (l++[y])::T):=by unfold dI;simp only[yBr,yBc];rw[if_pos (by rw[qo];omega)];rfl
structure S3 where
 R:List (List Am)
 P:List (Option Nat)
 V:List Vd
def vD(v:Vd):D:=.str v.s
def jL(t:Tr)(s:S3):S3:=match t.md with|some l=>⟨s.R++[l],s.P++[qq ↑s.R],s.V++[t.v]⟩|none=>⟨s.R,s.P++[t.pl],s.V++[t.v]⟩
def cM(r:Rw)(P:List (Option Nat)):List (Option Nat):=(r.args.take (aM r.wd)).map (pg P)
def kL(rs:List Rw)(F:List Ft)(M:List Nat)(j:Nat)(r:Rw)(P:List (Option Nat)):Tr:=kE r (f0 F j) (M.getD j 0) (aT r (~~~rs)) (cE r F) (cM r P)
def bK(rs:List Rw)(F:List Ft)(M:List Nat):Nat->S3
 |0=>⟨[],[],[]⟩
 |j+1=>match rs[j]? with
   |some r=>jL (kL rs F M j r (bK rs F M j).P) (bK rs F M j)|none=>bK rs F M j
noncomputable abbrev cX(s0:Option (List D))(s:S3):aE:=[s0,qq (s.R.map tA),qq (s.P.map bA),qq (s.V.map vD)]
structure Ln(s:S3)(j:Nat):Prop where
 p:↑s.P=j
 v:↑s.V=j
 r:↑s.R<=j
def aVe(h:Ln s j):Ln (jL t s) (j+1):=by
 unfold jL;cases t.md with
 |some l=>exact⟨by simp[h.p],by simp[h.v],by have:=h.r;simp;omega⟩|none=>exact⟨by simp[h.p],by simp[h.v],by have:=h.r;show ↑s.R<=j+1;omega⟩
def pV{rs:List Rw}(p:Prg rs){k:Nat}{r:Rw}(hr:rs[k]?=qq r):↑(r.args.take (aM r.wd))=aM r.wd:=aAP (rR (p.fit k r hr).1).2
def aA4{rs:List Rw}(p:Prg rs){k:Nat}{r:Rw}(hr:rs[k]?=qq r)(P:List (Option Nat)):↑(cM r P)=aM r.wd:=by unfold cM;rw[yAb];exact pV p hr
noncomputable abbrev eR(P:D)(F:List Ft)(M:List Nat)(Wi:D)(c7 c8 c9 c10 c11 c12 c13 c14:Option W):bI:=[qq (.d P),qq (.d (F*>Ft.d)),qq (.d (M*>nD)),qq (.d Wi),#[1],#[2],#[3],c7,c8,c9,c10,c11,c12,c13,c14,qz]
def aQN{rs:List Rw}{F:List Ft}(d:Nat)(p:Prg rs)(hF:↑F=↑rs)(h:Bd rs M)(hr:rs[j]?=qq r)(hs:Ln s j)(s0:Option (List D))(P0:D)(c11 c12 c13 c14:Option W):∃ c11' c12' c13' c14':Option W,xs (d<$>5) sY (eR P0 F M (.tuple ((~~~rs).map nD)) qz (qq (.d r.d)) (qq (.d (f0 F j).d)) ((((M.getD j 0:Nat):Int):)) c11 c12 c13 c14) (cX s0 s)=qq (.nx (eR P0 F M (.tuple ((~~~rs).map nD)) qz (qq (.d r.d)) (qq (.d (f0 F j).d)) ((((M.getD j 0:Nat):Int):)) c11' c12' c13' c14'),cX s0 (jL (kL rs F M j r s.P) s)):=by
 have hj:j<↑rs:=(gIm hr).1;have pl:=p.l;let(f1,f2):=p.fit j r hr;have hw:=p.ws j r hr;have hm:M.getD j 0<2^64:=xAb (h.lt j r hr) (yAo (·) hw.2);have o1:=aDC (d+3) r (~~~rs) (cX s0 s) λ a ha=>by have:=f2 a ha;rw[yAb];omega
 have o2:cl fns (d+5) 9 [.d r.d,.d (F*>Ft.d)] (cX s0 s)=qq (.d (.tuple ((cE r F).map Ft.d)),cX s0 s):=by
  have:=oU (d+3) r (.d (F*>Ft.d)) (F*>Ft.d) (λ a=>(f0 F a).d) (cX s0 s) (λ _=>rfl) λ a ha=>aBS (by have:=f2 a ha;omega)
  rw[this,cE,yBh];rfl
 have o3:cl fns (d+5) 9 [.d r.d,.loc 2] (cX s0 s)=qq (.d (.tuple ((cM r s.P).map bA)),cX s0 s):=by
  have:=oU (d+3) r (.loc 2) (.list (s.P.map bA)) (λ a=>bA (pg s.P a)) (cX s0 s) (λ _=>rfl) λ a ha=>iT (by
   have hl:a<↑s.P:=by have:=f2 a ha;rw[hs.p];exact this
   rw[yAc,yAa hl];show qq (bA s.P[a])=qq (bA (s.P.getD a qz));rw[xAg,yAa hl];rfl)
  rw[this,cM,yBh];rfl
 have la:=pV p hr;have lw:↑(aT r (~~~rs))=aM r.wd:=by unfold aT;rw[yAb];exact la
 have lF:↑(cE r F)=aM r.wd:=by unfold cE;rw[yAb];exact la
 have tr:=aQm d r (f0 F j) (M.getD j 0) hm (aT r (~~~rs)) (cE r F) (cM r s.P) f1 lw lF (aA4 p hr s.P) (cX s0 s);have tr':cl fns (d+5) 57 [.d r.d,.d (f0 F j).d,.d (.int ((M.getD j 0:Nat):Int)),.d (.tuple ((aT r (~~~rs)).map nD)),.d (.tuple ((cE r F).map Ft.d)),.d (.tuple ((cM r s.P).map bA))] (cX s0 s)=qq (.d (kL rs F M j r s.P).d,cX s0 s):=tr;obtain⟨⟨v,md,pl'⟩,ht⟩:∃ t,t=kL rs F M j r s.P:=⟨_,rfl⟩;rw[<- ht] at tr' ⊢;let(R,P,V):=s;have h1:=hs.p;have h2:=hs.v;have h3:=hs.r;dsimp only at h1 h2 h3;generalize hA:(aT r (~~~rs)).map nD=A1 at o1 tr';generalize hB:(cE r F).map Ft.d=A2 at o2 tr';generalize hC:(cM r P).map bA=A3 at o3 tr';have t0:aN (.tuple [.tuple A1,.tuple A2,.tuple A3]) (.int 0)=qq (.tuple A1):=rfl;have t1:aN (.tuple [.tuple A1,.tuple A2,.tuple A3]) (.int 1)=qq (.tuple A2):=rfl;have t2:aN (.tuple [.tuple A1,.tuple A2,.tuple A3]) (.int 2)=qq (.tuple A3):=rfl;have dt:(Tr.mk v md pl').d=.tuple [vD v,oS md,bA pl']:=rfl;rw[dt] at tr';cases md with
 |some l=>
   have is:aS .IsNot (tA l) .none=qq (.bool true):=rfl;have em:oS (qq l)=tA l:=rfl;rw[em] at tr';have lR:eX [.list (R.map tA)]=qq (.int ↑R):=by
    show qq (yAn ((↑(R.map tA):Nat):Int))=_;rw[yAb]
   have a1:=ap1 s0 (R.map tA) [qq (P.map bA),qq (V.map vD)] (tA l) (by rw[yAb];omega);have a2:=ap2 s0 (qq (R.map tA++[tA l])) (P.map bA) [qq (V.map vD)] (.int ↑R) (by rw[yAb];omega);have a3:=ap3 s0 (qq (R.map tA++[tA l])) (qq (P.map bA++[.int ↑R])) (V.map vD) [] (vD v) (by rw[yAb];omega);have es:cX s0 (jL ⟨v,qq l,pl'⟩ ⟨R,P,V⟩)=[s0,qq (R.map tA++[tA l]),qq (P.map bA++[.int ↑R]),qq (V.map vD++[vD v])]:=by
    show [s0,qq ((R++[l]).map tA),qq ((P++[qq ↑R]).map bA),qq ((V++[v]).map vD)]=_;rw[yAw,yAw,yAw];rfl
   refine⟨qq (.d (.tuple [.tuple A1,.tuple A2,.tuple A3])),qq (.d (vD v)),qq (.d (tA l)),(↑R:),?_⟩;rw[es];erw[2,sY,eR,cX,o1,o2,o3,t0,t1,t2,tr',is,lR,gK,a1,a2,a3]
 |none=>
   have is:aS .IsNot .none .none=qq (.bool false):=rfl;have em:oS qz=.none:=rfl;rw[em] at tr';have a2:=ap2 s0 (qq (R.map tA)) (P.map bA) [qq (V.map vD)] (bA pl') (by rw[yAb];omega);have a3:=ap3 s0 (qq (R.map tA)) (qq (P.map bA++[bA pl'])) (V.map vD) [] (vD v) (by rw[yAb];omega);have es:cX s0 (jL ⟨v,qz,pl'⟩ ⟨R,P,V⟩)=[s0,qq (R.map tA),qq (P.map bA++[bA pl']),qq (V.map vD++[vD v])]:=by
    show [s0,qq (R.map tA),qq ((P++[pl']).map bA),qq ((V++[v]).map vD)]=_;rw[yAw,yAw];rfl
   refine⟨qq (.d (.tuple [.tuple A1,.tuple A2,.tuple A3])),qq (.d (vD v)),qq (.d .none),qq (.d (bA pl')),?_⟩;rw[es];erw[2,sY,eR,cX,o1,o2,o3,t0,t1,t2,tr',is,gK,a2,a3]
def wL{rs:List Rw}(hr:rs[j]?=qq r):bK rs F M (j+1)=jL (kL rs F M j r (bK rs F M j).P) (bK rs F M j):=by show(match rs[j]? with|some r=>_|none=>_)=_;rw[hr]
def pI{rs:List Rw}:∀ j,j<=↑rs->Ln (bK rs F M j) j
 |0,_=>⟨rfl,rfl,yAd _⟩
 |j+1,h=>by
   rw[wL (yAa (show j<↑rs from h))];exact aVe (pI j (yGa h))
def aMp(s:S3)(aD:List Nat):D:=.tuple [.tuple [.tuple (s.R.map tA),.tuple (aD.map λ o=>bA (pg s.P o))],.tuple (s.V.map vD)]
def aOX(C:Calls)(c:E)(x i k:Nat)(env e1:bI)(aD:List Nat)(s:S3)(s0:Option (List D))(hl:↑aD<=8)(hin:∀ o∈aD,o<↑s.P)(hi:lv C (.it (.ix (.var x) (.int 1))) env (cX s0 s)=qq (aD.map nD,cX s0 s))(hp:∀ a:D,Tg.put (.one i) a (clr [i] env)=qq (e1.set i (qq (.d a))))(hk:∀ a:D,(e1.set i (qq (.d a)))[k]?=qq (#[2]))(hv:∀ a:D,(e1.set i (qq (.d a)))[i]?=qq (qq (.d a))):iG (.one i) (lv C (.it (.ix (.var x) (.int 1)))) oC (ev C (.ix (.var k) (.var i))) env (cX s0 s)=qq (aD.map λ o=>bA (pg s.P o),cX s0 s):=by
 let(vs,S2,ec,hS2,hI,hvl,hq):=@aIk env (cX s0 s) (cX s0 s) _ (.one i) (lv C (.it (.ix (.var x) (.int 1)))) (ev C (.ix (.var k) (.var i))) nD (λ _ S'=>S'=cX s0 s) (λ a v=>v=bA (pg s.P a)) aD hi (by rw[qo];omega) rfl (by
  intro a ha;refine⟨_,hp (nD a),?_⟩;rintro j S3 aF hj hSl rfl;have hx:aN (.list (s.P.map bA)) (nD a)=qq (bA (pg s.P a)):=iT (by
   have hl:=hin a ha;rw[yAc,yAa hl];show qq (bA s.P[a])=qq (bA (s.P.getD a qz));rw[xAg,yAa hl];rfl)
  refine⟨bA (pg s.P a),_,?_,rfl,rfl,rfl⟩;have h1:=hk (nD a);have h2:=hv (nD a);simp only[aBL,aBy,oQ,f2,jI,h1,h2,oB,hZ];show((aN (.list (s.P.map bA)) (nD a)).bind λ z=>qq (W.d z,cX s0 s++[qq aF]))=_
  rw[hx];rfl)
 subst hI;rw[ec,aGQ hvl hq]
def aPc{rs:List Rw}{F:List Ft}(d:Nat)(p:Prg rs)(hF:↑F=↑rs)(aD:List Nat)(ho:∀ o∈aD,o<↑rs)(hol:↑aD<=8)(s0:Option (List D))(eF:cl fns (d+9) 48 [.d (rs<*(aD*>nD))] [s0]=qq (.d (F*>Ft.d),[s0])):cl fns (d+10) 58 [.d (rs<*(aD*>nD))] [s0]=qq (.d (aMp (bK rs F (eU rs F aD) ↑rs) aD),[s0]):=by
 have pl:=p.l;let(hb,eA):=aQz (d+2) p hF aD ho [s0];have eW:=aAh (d+8) rs (aD*>nD) () [s0];obtain⟨M,hM⟩:∃ M,M=eU rs F aD:=⟨_,rfl⟩;rw[<- hM] at hb eA ⊢;have i0:aN (rs<*(aD*>nD)) (.int 0)=qq (rs*>Rw.d):=rfl;have i1:aN (rs<*(aD*>nD)) (.int 1)=qq (aD*>nD):=rfl;obtain⟨P,hP⟩:∃ P:D,P=(rs<*(aD*>nD)):=⟨_,rfl⟩;rw[<- hP] at eF eA eW i0 i1 ⊢;obtain⟨Wi,hWi⟩:∃ Wi:D,Wi=.tuple ((~~~rs).map nD):=⟨_,rfl⟩;rw[<- hWi] at eW;have hz:=aL5 rs F M;have it:lv (d<$>9) aAu (eR P F M Wi qz qz qz qz qz qz qz qz) (cX s0 ⟨[],[],[]⟩)=qq ((z3 rs F M).map (λ t=>yAj [t.1.d,t.2.1.d,nD t.2.2]),cX s0 ⟨[],[],[]⟩):=by
  erw[2,aAu,eR,i0,hz]
 let(aY,S',p1,c8,c9,c10,c11,c12,c13,c14,rfl,rfl):=nK (t:=.many [8,9,10]) (fb:=xs (d<$>9) sY)
  (λ j env S'=>∃ c8 c9 c10 c11 c12 c13 c14:Option W,env=eR P F M Wi qz c8 c9 c10 c11 c12 c13 c14/\S'=cX s0 (bK rs F M j))
  it ⟨qz,qz,qz,qz,qz,qz,qz,rfl,rfl⟩ (by
   rintro j dd env S' hd ⟨c8,c9,c10,c11,c12,c13,c14,rfl,rfl⟩;rw[yAc] at hd;let((r,f,m),ht,rfl):=Option.map_eq_some_iff.mp hd;let(hr,hf,hm):=(aKj rs F M j _).mp ht;have hj:j<↑rs:=(gIm hr).1;have ef:f=f0 F j:=by
    show f=F.getD j ⟨0,0,1⟩;rw[xAg,hf];rfl
   have em:m=M.getD j 0:=by rw[xAg,hm];rfl
   let(a11,a12,a13,a14,e):=aQN (d+4) p hF hb hr (pI j (yEd hj)) s0 P c11 c12 c13 c14;rw[<- hWi,<- ef,<- em] at e;exact⟨eR P F M Wi qz (qq (.d r.d)) (qq (.d f.d)) ((m:)) c11 c12 c13 c14,eR P F M Wi qz (qq (.d r.d)) (qq (.d f.d)) ((m:)) a11 a12 a13 a14,_,rfl,e,_,_,_,a11,a12,a13,a14,rfl,by rw[wL hr]⟩)
 rw[yAb,aKd rs F M hF hb.l] at p1;have ln:=@pI F M _ ↑rs (yAd _);generalize bK rs F M ↑rs=s at p1 ln ⊢;have oc:lv (d<$>9) aAx [qq (.d P),qq (.d (F*>Ft.d)),qq (.d (M*>nD)),qq (.d Wi),#[1],#[2],#[3],qz,c8,c9,c10,c11,c12,c13,c14,qz] (cX s0 s)=qq (aD.map λ o=>bA (pg s.P o),cX s0 s):=by
  refine aOX (d<$>9) aAx 0 15 5 _ [qq (.d P),qq (.d (F*>Ft.d)),qq (.d (M*>nD)),qq (.d Wi),#[1],#[2],#[3],qz,c8,c9,c10,c11,c12,c13,c14,qz] aD s s0 hol (λ o h=>by rw[ln.p];exact ho o h) ?_ (λ a=>rfl) (λ a=>rfl) λ a=>rfl
  erw[0,i1,fH]
 have p1':gZ (.many [8,9,10]) (lv (d<$>9) aAu) (xs (d<$>9) sY) [qq (.d P),qq (.d (F*>Ft.d)),qq (.d (M*>nD)),qq (.d Wi),#[1],#[2],#[3],qz,qz,qz,qz,qz,qz,qz,qz,qz] [s0,qq [],qq [],qq []]=qq (.nx (eR P F M Wi qz c8 c9 c10 c11 c12 c13 c14),cX s0 s):=p1;have oc':lv (d<$>9) aAx [qq (.d P),qq (.d (F*>Ft.d)),qq (.d (M*>nD)),qq (.d Wi),#[1],#[2],#[3],qz,c8,c9,c10,c11,c12,c13,c14,qz] [s0,qq (s.R.map tA),qq (s.P.map bA),qq (s.V.map vD)]=qq (aD.map λ o=>bA (pg s.P o),[s0,qq (s.R.map tA),qq (s.P.map bA),qq (s.V.map vD)]):=oc;rw[bE rfl (d+9) _ [s0] rfl];erw[13,aIH,eA,eR,eF,eW,gI,p1',cX,oc',jE,jG]
def wA:(bJ m y==0)=true ↔ ∀ i,m[i]! =true->y[i]! =true:=by
 rw[beq_iff_eq];constructor
 ·intro h i hi;have:=dJ m y i;rw[h,yAq,hi,yAk] at this;cases c:y[i]! with|true=>rfl|false=>rw[c] at this;cases this
 ·intro h;apply xAl;intro i;rw[dJ,yAq];cases c:m[i]! with|false=>rfl|true=>rw[h i c];rfl
def aJz(h0:o≠0):o&&&(o-1)=0 ↔ o=2^(bl o-1):=by
 have hb:=aAM h0;have lt:=jS o;have ge:2^(bl o-1)<=o:=Nat.ge_two_pow_of_testBit (nH h0);constructor
 ·intro h;apply Decidable.byContradiction;intro c;have p0:=xAe (bl o-1);have e:bl (o-1)=bl o:=by
   have h1:=@pP (o-1) (bl o) ();rcases yGt (bl (o-1)) (bl o) with c2|c2
   ·have h2:=jS (o-1);have h3:=yAo (show 0<2 by decide) (show bl (o-1)<=bl o-1 by omega);omega
   ·omega
  have hi:=@nH (o-1) ();rw[e] at hi;have:=(aDn.mp h) (bl o-1) hi;rw[nH h0] at this;cases this
 ·intro h;refine aDn.mpr λ i hi=>?_
  rw[h,Nat.testBit_two_pow_sub_one] at hi;rw[h,yCj];have:=oqT hi;exact dqF ()
def jR{n:Nat}(h:n[t]! =true):n≠0:=λ z=>by rw[z,yAq] at h;cases h
def nG(h:m≠0):2^bl m-1≠0:=by have:=aAM h;have:=yAo (show 0<2 by decide) this;omega
def aAI(h:m<2^w):eS m w=m:=by unfold eS;rw[if_pos (Nat.div_eq_of_lt h)]
def aIO(h:eG f m=qq 0):f.O[0]! =true:=by
 unfold eG at h;split at h
 ·cases h
 ·rename_i c;have c1:f.O&&&m≠0:=λ z=>c (.inl z)
  have c2:(f.O&&&m)&&&((f.O&&&m)-1)=0:=Decidable.byContradiction λ z=>c (.inr (.inl z))
  have e:=(aJz c1).mp c2;have h:bl (f.O&&&m)-1=0:=Option.some.inj h;rw[h] at e;have:(f.O&&&m)[0]! =true:=by rw[e];rfl
  rw[yAh,yAp] at this;exact this.1
def Dj(f:Ft):Prop:=∀ t,f.O[t]! =true->f.N[t]! =false
def aIy(hd:Dj f)(h:f.O[0]! =true):lr f.N=0:=by apply Decidable.byContradiction;intro c;have:=@nE 0 f.N ();rw[hd 0 h] at this;cases this
def aBx{fs:List Fc}{f g:Ft}(h0:m≠0)(e0:fs.getD 0 default=⟨f.N,f.O,f.A⟩)(e1:fs.getD 1 default=⟨g.N,g.O,g.A⟩):(aO .and w kk ws fs m).getD 0 0=bJ m (bJ g.N f.N)/\(aO .and w kk ws fs m).getD 1 0=bJ m f.N:=by unfold aO;rw[if_neg h0,e0,e1];exact⟨rfl,rfl⟩
def aBN{fs:List Fc}{f g:Ft}(h0:m≠0)(e0:fs.getD 0 default=⟨f.N,f.O,f.A⟩)(e1:fs.getD 1 default=⟨g.N,g.O,g.A⟩):(aO .or w kk ws fs m).getD 0 0=bJ m (bJ g.O f.O)/\(aO .or w kk ws fs m).getD 1 0=bJ m f.O:=by unfold aO;rw[if_neg h0,e0,e1];exact⟨rfl,rfl⟩
def aKL(h0:m≠0):bJ m (bJ y x)≠0\/bJ m x≠0:=by
 have t:=nH h0;cases c:x[(bl m-1)]! with
 |true=>
   left;refine jR (t:=bl m-1) ?_;rw[dJ,dJ,t,c];simp
 |false=>
   right;refine jR (t:=bl m-1) ?_;rw[dJ,t,c];rfl
def aBl{y:Nat}(h0:m≠0)(hs:(bJ m x==0)=true)(hd:∀ t,x[t]! =true->y[t]! =false):bJ m y≠0:=by have t:=nH h0;refine jR (t:=bl m-1) ?_;rw[dJ,t,hd _ (wA.mp hs _ t)];rfl
def aQw{fs:List Fc}{f:Ft}(h0:m≠0)(hd:Dj g)(e0:fs.getD 0 default=⟨f.N,f.O,f.A⟩)(e1:fs.getD 1 default=⟨g.N,g.O,g.A⟩)(h:dA wd g m=true):(aO wd w kk ws fs m).getD 0 0≠0:=by
 cases wd with
 |and=>
   rw[(aBx h0 e0 e1).1];refine aBl h0 h λ t ht=>?_
   rw[dJ,hd t ht,yAv]
 |or=>
   rw[(aBN h0 e0 e1).1];refine aBl h0 h λ t ht=>?_
   have:g.O[t]! =false:=by
    cases c:g.O[t]! with
    |false=>rfl|true=>rw[hd t c] at ht;cases ht
   rw[dJ,this,yAv]
 |xor=>unfold aO;rw[if_neg h0];exact h0|add=>unfold aO;rw[if_neg h0];exact nG h0|sub=>unfold aO;rw[if_neg h0];exact nG h0
 |mul=>
   have z:=aIy hd (aIO (oqT h));unfold aO;rw[if_neg h0,e1];show 2^(bl m-min (bl m) (lr g.N))-1≠0;rw[z,Nat.min_zero,yGu];exact nG h0
 |_=>cases h
def aQp{fs:List Fc}{g:Ft}(h0:m≠0)(hd:Dj f)(e0:fs.getD 0 default=⟨f.N,f.O,f.A⟩)(e1:fs.getD 1 default=⟨g.N,g.O,g.A⟩)(h5:iA wd=true)(h:dA wd f m=true):(aO wd w kk ws fs m).getD 1 0≠0:=by
 cases wd with
 |and=>
   rw[(aBx h0 e0 e1).2];exact aBl h0 h λ t ht=>hd t ht
 |or=>
   rw[(aBN h0 e0 e1).2];refine aBl h0 h λ t ht=>?_
   cases c:f.O[t]! with
   |false=>rfl|true=>rw[hd t c] at ht;cases ht
 |xor=>unfold aO;rw[if_neg h0];exact h0|add=>unfold aO;rw[if_neg h0];exact nG h0
 |mul=>
   have z:=aIy hd (aIO (oqT h));unfold aO;rw[if_neg h0,e0];show 2^(bl m-min (bl m-min (bl m) (lr (fs.getD 1 default).N)) (lr f.N))-1≠0;rw[z,Nat.min_zero,yGu];exact nG h0
 |_=>cases h5
def aL4{rs:List Rw}(p:Prg rs)(s:Snd rs F)(hF:↑F=↑rs)(ha:a<↑rs):Dj (f0 F a):=λ t ht=>by
 let(is,hi):=p.ins;have hw:=@iR a (rs.map (·.w)) (by rw[yAb];omega);have hn:=@iR a (cI rs (~~~rs) is []) (by rw[aBa p hi];omega);let(h1,h2,_):=s.hold is hi a _ _ _ (nL ()) hw hn;cases c:(f0 F a).N[t]! with
 |false=>rfl
 |true=>
   have z:=h1 t c;rw[h2 t ht] at z;cases z
def aBA{r:Rw}(h:(r.args.take (aM r.wd))[c]?=qq a):(fY r F).getD c default=⟨(f0 F a).N,(f0 F a).O,(f0 F a).A⟩/\f0 (cE r F) c=f0 F a:=by
 constructor
 ·unfold fY cE;rw[xAg,yAc,yAc,h];rfl
 ·show(cE r F).getD c ⟨0,0,1⟩=_;unfold cE;rw[xAg,yAc,h];rfl
def aDX{rs:List Rw}{F:List Ft}(p:Prg rs)(s:Snd rs F)(hF:↑F=↑rs){j:Nat}{r:Rw}(hr:rs[j]?=qq r){m:Nat}(h0:m≠0)(hm:m<2^r.w)(P:List (Option Nat))(hP:↑P=aM r.wd)(hp:∀ c,(eB rs F r m).getD c 0≠0->pg P c≠qz)(i:Nat)(hi:r.wd≠.in)(hn:r.wd≠.num)(h:fZ r m (aT r (~~~rs)) (cE r F) P=qq i):pg P i≠qz:=by
 let(f1,f2):=p.fit j r hr;have hj:j<↑rs:=(gIm hr).1;have la:=pV p hr;let(w1,w2):=rR f1;have at_:∀ c,c<aM r.wd->∃ a,(r.args.take (aM r.wd))[c]?=qq a/\a<↑rs:=λ c hc=>by
  refine⟨_,yAa (),?_⟩;have:=f2 _ (yHu (l:=r.args.take (aM r.wd)) (n:=c) ());omega
 have c1:0<aM r.wd:=by
  revert hi hn;cases r.wd<;>decide
 let(a,ha,hal):=at_ 0 c1;let(e0,e0'):=aBA (F:=F) ha;have d0:=aL4 p s hF hal;unfold eB at hp;unfold fZ at h;cases a1:(mX r.wd&&iX P) with
 |true=>
   rw[a1] at h;have h:qq 0=qq i:=h;cases h;let(b1,b2):=(yAp _ _▸a1:_/\_);have b2:=oqT b2;have h2:=aKw b1;let(a',ha',_):=at_ 1 ();let(e1,_):=aBA (F:=F) ha';have cH:(aO r.wd r.w (dH r) (aT r (~~~rs)) (fY r F) m).getD 0 0≠0\/(aO r.wd r.w (dH r) (aT r (~~~rs)) (fY r F) m).getD 1 0≠0:=by
    rcases oqT b1 with q|q
    ·rw[q,(aBx h0 e0 e1).1,(aBx h0 e0 e1).2];exact aKL h0
    ·rw[q,(aBN h0 e0 e1).1,(aBN h0 e0 e1).2];exact aKL h0
   rcases cH with q|q
   ·exact hp 0 q
   ·rw[b2];exact hp 1 q
 |false=>
   rw[a1] at h;cases a2:decide (r.wd=.pick) with
   |true=>
     rw[a2] at h;have q:=oqT a2;have h:jK (f0 (cE r F) 0) P=qq i:=h;rw[e0'] at h;have nd:aO r.wd r.w (dH r) (aT r (~~~rs)) (fY r F) m=if (f0 F a).O=1 then [1,m,0] else if (f0 F a).N=1 then [1,0,m] else [1,m,m]:=by
      rw[q];unfold aO;rw[if_neg h0,e0]
     rw[nd] at hp;unfold jK at h;by_cases k1:(f0 F a).O=1
     ·rw[if_pos (.inr k1)] at h;cases h;rw[if_pos k1] at hp;exact hp 1 h0
     ·rw[if_neg k1] at hp;by_cases k2:(f0 F a).N=1
      ·rw[if_pos k2] at hp;have p2:=hp 2 h0;split at h
       ·rename_i c;cases h;rcases c with c|c
        ·rw[c];exact p2
        ·exact absurd c k1
       ·cases h;exact p2
      ·rw[if_neg k2] at hp;split at h
       ·cases h;exact hp 1 h0
       ·cases h
   |false=>
     rw[a2] at h;cases a3:qL r.wd with
     |true=>
       rw[a3] at h;cases a4:dH r==0 with
       |false=>rw[a4] at h;cases h
       |true=>
         rw[a4] at h;have h:qq 0=qq i:=h;cases h;have k0:=beq_iff_eq.mp a4;refine hp 0 ?_;rw[k0];rcases oqT a3 with q|q|q
         ·rw[q];unfold aO;rw[if_neg h0];show m/2^0≠0;rw[yCk,yFz];exact h0
         ·rw[q];unfold aO;rw[if_neg h0];show(m*2^0)&&&(2^r.w-1)≠0;rw[yCk,yHp,yBj,yCc hm];exact h0
         ·rw[q];unfold aO;rw[if_neg h0];show eS (m*2^0) r.w≠0;rw[yCk,yHp,aAI hm];exact h0
     |false=>
       rw[a3] at h;cases a4:sR r.wd with
       |true=>
         rw[a4] at h;cases a5:g0 (aT r (~~~rs)) 0==r.w with
         |false=>rw[a5] at h;cases h
         |true=>
           rw[a5] at h;have h:qq 0=qq i:=h;cases h;have k0:(aT r (~~~rs)).getD 0 0=r.w:=beq_iff_eq.mp a5;refine hp 0 ?_;rcases oqT a4 with q|q|q
           ·rw[q];unfold aO;rw[if_neg h0];exact h0
           ·rw[q];unfold aO;rw[if_neg h0];show m&&&(2^(aT r (~~~rs)).getD 0 0-1)≠0;rw[k0,yBj,yCc hm];exact h0
           ·rw[q];unfold aO;rw[if_neg h0];show eS m ((aT r (~~~rs)).getD 0 0)≠0;rw[k0,aAI hm];exact h0
       |false=>
         rw[a4] at h;cases a5:(decide (↑P=2)&&dA r.wd (f0 (cE r F) 1) m) with
         |true=>
           rw[a5] at h;have h:qq 0=qq i:=h;cases h;let(b1,b2):=(yAp _ _▸a5:_/\_);have b1:=oqT b1;let(a',ha',hal'):=at_ 1 ();let(e1,e1'):=aBA (F:=F) ha';rw[e1'] at b2;exact hp 0 (aQw h0 (aL4 p s hF hal') e0 e1 b2)
         |false=>
           rw[a5] at h;cases a6:(iA r.wd&&dA r.wd (f0 (cE r F) 0) m) with
           |false=>rw[a6] at h;cases h
           |true=>
             rw[a6] at h;have h:qq 1=qq i:=h;cases h;let(b1,b2):=(yAp _ _▸a6:_/\_);have h2:aM r.wd=2:=by revert b1;cases r.wd<;>decide
             let(a',ha',hal'):=at_ 1 ();let(e1,e1'):=aBA (F:=F) ha';rw[e0'] at b2;exact hp 1 (aQp h0 d0 e0 e1 b1 b2)
def Pln(M:List Nat)(s:S3)(j:Nat):Prop:=∀ k,k<j->M.getD k 0≠0->pg s.P k≠qz
def aBt{P:List (Option Nat)}(h:k<↑P):pg (P++[x]) k=pg P k:=by show(P++[x]).getD k qz=P.getD k qz;rw[xAg,xAg,xAm h]
def aBm(P:List (Option Nat))(x:Option Nat):pg (P++[x]) ↑P=x:=by show(P++[x]).getD ↑P qz=x;rw[xAg,yAf (yAd _),yBf];rfl
def aWb{rs:List Rw}{F:List Ft}{M:List Nat}(p:Prg rs)(s:Snd rs F)(hF:↑F=↑rs){aD:List Nat}(hb:Bd rs M)(hmet:∀ (j:Nat) (r:Rw),rs[j]?=qq r->∀ q∈eK rs F r (M.getD j 0),Sb q.2 (M.getD q.1 0)){j:Nat}{r:Rw}(hr:rs[j]?=qq r){st:S3}(hl:↑st.P=j)(hpl:Pln M st j)(i:Nat)(h0:M.getD j 0≠0)(hi:r.wd≠.in)(hn:r.wd≠.num)(h:fZ r (M.getD j 0) (aT r (~~~rs)) (cE r F) (cM r st.P)=qq i):pg (cM r st.P) i≠qz:=by
 refine aDX p s hF hr h0 (hb.lt j r hr) (cM r st.P) (aA4 p hr st.P) (λ c hc=>?_) i hi hn h;let(f1,f2):=p.fit j r hr;have la:=pV p hr;have hcl:c<aM r.wd:=by
  apply Decidable.byContradiction;intro z;apply hc;rw[xAg,yBn (by unfold eB;rw[wE];omega)];rfl
 have ha:(r.args.take (aM r.wd))[c]?=qq (r.args.take (aM r.wd))[c]:=yAa ();generalize (r.args.take (aM r.wd))[c]=a at ha;have haj:=f2 a (xAk ha);have e:pg (cM r st.P) c=pg st.P a:=by
  show((r.args.take (aM r.wd)).map (pg st.P)).getD c qz=_;rw[xAg,yAc,ha];rfl
 rw[e];refine hpl a haj ?_;have hv:(eB rs F r (M.getD j 0))[c]?=qq ((eB rs F r (M.getD j 0)).getD c 0):=aDK (by unfold eB;rw[wE];omega);have hm:(a,(eB rs F r (M.getD j 0)).getD c 0)∈eK rs F r (M.getD j 0):=by
  refine xAk (i:=c) ?_;unfold eK uX;rw[yFf];exact⟨ha,hv⟩
 have sb:=hmet j r hr _ hm;exact jR (sb _ (nH hc))
def rJ{a b:Nat}(h:∀ i,i<L->a[i]! =b[i]!):∃ q:Int,((a:Nat):Int)=(b:Nat)+((2^L:Nat):Int)*q:=by
 have e:a%2^L=b%2^L:=by
  apply xAl;intro i;rw[yAr,yAr];by_cases c:i<L
  ·rw[h i c]
  ·rw[dqF c,yAv,yAv]
 have h1:=yCm a (2^L);have h2:=yCm b (2^L);refine⟨((a/2^L:Nat):Int)-((b/2^L:Nat):Int),?_⟩;rw[Int.mul_sub,<- yBz,<- yBz];generalize 2^L*(a/2^L)=x at *;generalize 2^L*(b/2^L)=y at *;omega
def xH(ha:a<2^v)(hb:b<2^v)(h:∀ i,i<v->a[i]! =b[i]!):a=b:=by
 apply xAl;intro i;by_cases c:i<v
 ·exact h i c
 ·rw[cP ha (),cP hb ()]
def aLW(x:Int)(ht:t<w):(rs x w)[t]! =(rs x (t+1))[t]!:=by rw[<- aJ1 x (show t+1<=w by omega),yAr,dqT (show t<t+1 by omega),yAk]
def oZ{x y q:Int}(ht:t<w)(hh:t<h)(e:x=y+((2^h:Nat):Int)*q):(rs x w)[t]! =(rs y w)[t]!:=by
 rw[aLW x ht,aLW y ht];have e2:x=y+((2^(t+1):Nat):Int)*(((2^(h-(t+1)):Nat):Int)*q):=by
  rw[e,<- yEn,<- yBz,<- yFl,Nat.add_sub_cancel' (show t+1<=h by omega)]
 rw[e2,aTx]
def aDj{a:Nat}(h:∀ i,i<u->a[i]! =false):∃ y:Int,((a:Nat):Int)=((2^u:Nat):Int)*y:=by
 let(q,e):=@rJ u a 0 λ i hi=>by rw[h i hi,yAq]
 exact⟨q,by rw[e];omega⟩
def lB(fs:List Fc)(ns:List Nat):Prop:=∀ c i,((fs.getD c default).N[i]! =true->(g0 ns c)[i]! =false)/\((fs.getD c default).O[i]! =true->(g0 ns c)[i]! =true)
def Ag(want os ns:List Nat):Prop:=∀ c i,(want.getD c 0)[i]! =true->(g0 os c)[i]! =(g0 ns c)[i]!
def an6:∀ n p a b c e:Bool,((!(p && !n))=true->c=a)->((!n)=true->e=b)->(n=true->a=false)->(p=true->b=false)->(c&&e)=(a&&b):=by decide
def or6:∀ n p a b c e:Bool,((!(p && !n))=true->c=a)->((!n)=true->e=b)->(n=true->a=true)->(p=true->b=true)->(c||e)=(a||b):=by decide
section
variable {w kk m t:Nat}{fs:List Fc}(hm:m<2 ^ w)(ht:m[t]! =true)
include hm ht
theorem uM:t<w:=by
 by_cases c:t<w
 ·exact c
 ·rw[cP hm ()] at ht;cases ht
theorem iY:m≠0:=λ h=>by rw[h,yAq] at ht;cases ht
theorem aSZ(ha:a<2^w)(hb:b<2^w)(ag:Ag (aO .not w kk [w] fs m) [b] [a]):(2^w-1-b)[t]! =(2^w-1-a)[t]!:=by
 have h0:=iY hm ht;have e:(aO .not w kk [w] fs m).getD 0 0=m:=by unfold aO;rw[if_neg h0];rfl
 have q:b[t]! =a[t]!:=ag 0 t (by rw[e];exact ht);have tl:=uM hm ht;have c1:=pC hb t;have c2:=pC ha t;unfold qM at c1 c2;rw[c1,c2,q]
theorem aQR(ag:Ag (aO .left w kk [w] fs m) [b] [a]):(b*2^kk%2^w)[t]! =(a*2^kk%2^w)[t]!:=by
 have h0:=iY hm ht;have e:(aO .left w kk [w] fs m).getD 0 0=m/2^kk:=by unfold aO;rw[if_neg h0];rfl
 rw[yAr,yAr,aAl,aAl];by_cases c:kk<=t
 ·have q:b[(t-kk)]! =a[(t-kk)]!:=ag 0 (t-kk) (by rw[e,iE,show kk+(t-kk)=t by omega];exact ht);rw[q]
 ·rw[dqF c,yAv,yAv]
theorem aPy(ha:a<2^w)(hb:b<2^w)(ag:Ag (aO .right w kk [w] fs m) [b] [a]):(b/2^kk)[t]! =(a/2^kk)[t]!:=by
 have h0:=iY hm ht;have e:(aO .right w kk [w] fs m).getD 0 0=(m*2^kk)&&&(2^w-1):=by unfold aO;rw[if_neg h0];rfl
 rw[iE,iE];by_cases c:kk+t<w
 ·exact ag 0 (kk+t) (by rw[e,yAh,cV,aAl,dqT c,dqT (show kk<=kk+t by omega),show kk+t-kk=t by omega,ht];rfl)
 ·rw[cP ha (),cP hb ()]
theorem aJD{f a b:Nat}(hv:1<=v)(hj:f[j]! =true)(ag:∀ i,(eS f v)[i]! =true->b[i]! =a[i]!):(if j<v then b[j]! else b[(v-1)]!)=(if j<v then a[j]! else a[(v-1)]!):=by
 by_cases c:j<v
 ·rw[if_pos c,if_pos c];exact ag j ((wN hv).mpr (.inl ⟨c,hj⟩))
 ·rw[if_neg c,if_neg c];exact ag (v-1) ((wN hv).mpr (.inr ⟨rfl,j,by omega,hj⟩))
theorem aP7(hw:1<=w)(ha:a<2^w)(hb:b<2^w)(ag:Ag (aO .slide w kk [w] fs m) [b] [a]):(cW b w (w+kk)/2^kk)[t]! =(cW a w (w+kk)/2^kk)[t]!:=by
 have h0:=iY hm ht;have tl:=uM hm ht;have e:(aO .slide w kk [w] fs m).getD 0 0=eS (m*2^kk) w:=by unfold aO;rw[if_neg h0];rfl
 have hj:(m*2^kk)[(kk+t)]! =true:=by rw[aAl,dqT (show kk<=kk+t by omega),show kk+t-kk=t by omega,ht];rfl
 have q:=aJD hm ht (v:=w) (a:=a) (b:=b) hw hj λ i hi=>ag 0 i (by rw[e];exact hi)
 rw[iE,iE,sX hb hw (),sX ha hw (),dqT (show kk+t<w+kk by omega),yAk,yAk];exact q
theorem aR0(hv:1<=v)(hvw:v<=w)(ha:a<2^v)(hb:b<2^v)(ag:Ag (aO .sign w kk [v] fs m) [b] [a]):(cW b v w)[t]! =(cW a v w)[t]!:=by
 have h0:=iY hm ht;have tl:=uM hm ht;have e:(aO .sign w kk [v] fs m).getD 0 0=eS m v:=by unfold aO;rw[if_neg h0];rfl
 have q:=aJD hm ht (v:=v) (a:=a) (b:=b) hv ht λ i hi=>ag 0 i (by rw[e];exact hi)
 rw[sX hb hv hvw,sX ha hv hvw,dqT tl,yAk,yAk];exact q
theorem aT3(ag:Ag (aO .cut w kk [v] fs m) [b] [a]):(b%2^w)[t]! =(a%2^w)[t]!:=by
 have h0:=iY hm ht;have e:(aO .cut w kk [v] fs m).getD 0 0=m:=by unfold aO;rw[if_neg h0];rfl
 have q:b[t]! =a[t]!:=ag 0 t (by rw[e];exact ht);rw[yAr,yAr,q]
theorem aSp(ha:a<2^v)(hb:b<2^v)(ag:Ag (aO .wide w kk [v] fs m) [b] [a]):b[t]! =a[t]!:=by
 have h0:=iY hm ht;have e:(aO .wide w kk [v] fs m).getD 0 0=m&&&(2^v-1):=by unfold aO;rw[if_neg h0];rfl
 by_cases c:t<v
 ·exact ag 0 t (by rw[e,yAh,cV,ht,dqT c];rfl)
 ·rw[cP ha (),cP hb ()]
theorem aVr(ag:Ag (aO .xor w kk ws fs m) [c,e] [a,b]):(c^^^e)[t]! =(a^^^b)[t]!:=by
 have h0:=iY hm ht;have e0:(aO .xor w kk ws fs m).getD 0 0=m:=by unfold aO;rw[if_neg h0];rfl
 have e1:(aO .xor w kk ws fs m).getD 1 0=m:=by unfold aO;rw[if_neg h0];rfl
 have q:c[t]! =a[t]!:=ag 0 t (by rw[e0];exact ht);have r:e[t]! =b[t]!:=ag 1 t (by rw[e1];exact ht);rw[yAl,yAl,q,r]
theorem aTG(F:lB fs [a,b])(ag:Ag (aO .and w kk ws fs m) [c,e] [a,b]):(c&&&e)[t]! =(a&&&b)[t]!:=by
 have h0:=iY hm ht;have e0:(aO .and w kk ws fs m).getD 0 0=bJ m (bJ (fs.getD 1 default).N (fs.getD 0 default).N):=by unfold aO;rw[if_neg h0];rfl
 have e1:(aO .and w kk ws fs m).getD 1 0=bJ m (fs.getD 0 default).N:=by unfold aO;rw[if_neg h0];rfl
 have g0':=ag 0 t;have g1':=ag 1 t;have f0:=(F 0 t).1;have f1:=(F 1 t).1;rw[e0,dJ,dJ,ht,yAk] at g0';rw[e1,dJ,ht,yAk] at g1';change _->c[t]! =a[t]! at g0';change _->e[t]! =b[t]! at g1';change _->a[t]! =false at f0;change _->b[t]! =false at f1;rw[yAh,yAh];exact an6 _ _ _ _ _ _ g0' g1' f0 f1
theorem aWL(F:lB fs [a,b])(ag:Ag (aO .or w kk ws fs m) [c,e] [a,b]):(c|||e)[t]! =(a|||b)[t]!:=by
 have h0:=iY hm ht;have e0:(aO .or w kk ws fs m).getD 0 0=bJ m (bJ (fs.getD 1 default).O (fs.getD 0 default).O):=by unfold aO;rw[if_neg h0];rfl
 have e1:(aO .or w kk ws fs m).getD 1 0=bJ m (fs.getD 0 default).O:=by unfold aO;rw[if_neg h0];rfl
 have g0':=ag 0 t;have g1':=ag 1 t;have f0:=(F 0 t).2;have f1:=(F 1 t).2;rw[e0,dJ,dJ,ht,yAk] at g0';rw[e1,dJ,ht,yAk] at g1';change _->c[t]! =a[t]! at g0';change _->e[t]! =b[t]! at g1';change _->a[t]! =true at f0;change _->b[t]! =true at f1;rw[xAo,xAo];exact or6 _ _ _ _ _ _ g0' g1' f0 f1
theorem aKy(aG:wd=.add\/wd=.sub)(ag:Ag (aO wd w kk ws fs m) [c,e] [a,b]):(∃ q:Int,((c:Nat):Int)=(a:Nat)+((2^bl m:Nat):Int)*q)/\∃ q:Int,((e:Nat):Int)=(b:Nat)+((2^bl m:Nat):Int)*q:=by
 have h0:=iY hm ht;have e0:(aO wd w kk ws fs m).getD 0 0=2^bl m-1:=by unfold aO;rw[if_neg h0];rcases aG with rfl|rfl<;>rfl
 have e1:(aO wd w kk ws fs m).getD 1 0=2^bl m-1:=by unfold aO;rw[if_neg h0];rcases aG with rfl|rfl<;>rfl
 exact⟨rJ λ i hi=>ag 0 i (by rw[e0,cV,dqT hi]),rJ λ i hi=>ag 1 i (by rw[e1,cV,dqT hi])⟩
theorem aT2(ag:Ag (aO .add w kk ws fs m) [c,e] [a,b]):(rs ((c:Nat)+(e:Nat):Int) w)[t]! =(rs ((a:Nat)+(b:Nat):Int) w)[t]!:=by let((q,e1),r,e2):=aKy hm ht (.inl rfl) ag;refine oZ (q:=q+r) (uM hm ht) (aEM ht) ?_;rw[e1,e2,yGm];omega
theorem aTu(ag:Ag (aO .sub w kk ws fs m) [c,e] [a,b]):(rs ((c:Nat)-(e:Nat):Int) w)[t]! =(rs ((a:Nat)-(b:Nat):Int) w)[t]!:=by let((q,e1),r,e2):=aKy hm ht (.inr rfl) ag;refine oZ (q:=q-r) (uM hm ht) (aEM ht) ?_;rw[e1,e2,Int.mul_sub];omega
theorem aVH(F:lB fs [a,b])(ag:Ag (aO .mul w kk ws fs m) [c,e] [a,b]):(rs ((c:Nat)*(e:Nat):Int) w)[t]! =(rs ((a:Nat)*(b:Nat):Int) w)[t]!:=by
 have h0:=iY hm ht;have e0:(aO .mul w kk ws fs m).getD 0 0=2^(bl m-min (bl m) (lr (fs.getD 1 default).N))-1:=by unfold aO;rw[if_neg h0];rfl
 have e1:(aO .mul w kk ws fs m).getD 1 0=2^(bl m-min (bl m-min (bl m) (lr (fs.getD 1 default).N)) (lr (fs.getD 0 default).N))-1:=by unfold aO;rw[if_neg h0];rfl
 obtain⟨u,hu⟩:∃ u,u=min (bl m) (lr (fs.getD 1 default).N):=⟨_,rfl⟩;obtain⟨g,hg⟩:∃ g,g=min (bl m-u) (lr (fs.getD 0 default).N):=⟨_,rfl⟩;rw[<- hu] at e0 e1;rw[<- hg] at e1;have a0:∀ i,i<bl m-u->c[i]! =a[i]!:=λ i hi=>ag 0 i (by rw[e0,cV,dqT hi])
 have a1:∀ i,i<bl m-g->e[i]! =b[i]!:=λ i hi=>ag 1 i (by rw[e1,cV,dqT hi])
 have zb:∀ i,i<u->b[i]! =false:=λ i hi=>(F 1 i).1 (nE (xAb hi (hu▸yCa _ _)))
 have za:∀ i,i<g->a[i]! =false:=λ i hi=>(F 0 i).1 (nE (xAb hi (hg▸yCa _ _)))
 have gu:g<=bl m-u:=hg▸yCy _ _;have ub:u<=bl m:=hu▸yCy _ _;let(q,eq):=rJ a0;let(r,er):=rJ a1;let(y,ey):=@aDj u e λ i hi=>by rw[a1 i (xAb hi (Nat.le_sub_of_add_le (yDh g u▸Nat.add_le_of_le_sub ub gu)))];exact zb i hi
 let(z,ez):=aDj za;have p1:((2^(bl m-u):Nat):Int)*((2^u:Nat):Int)=((2^bl m:Nat):Int):=by rw[<- yBz,<- yFl,Nat.sub_add_cancel ub]
 have p2:((2^g:Nat):Int)*((2^(bl m-g):Nat):Int)=((2^bl m:Nat):Int):=by rw[<- yBz,<- yFl,Nat.add_sub_cancel' (xAh gu (yFa _ _))]
 refine oZ (q:=q*y+z*r) (uM hm ht) (aEM ht) ?_;generalize ((2^(bl m-u):Nat):Int)=P1 at *;generalize ((2^(bl m-g):Nat):Int)=P2 at *;generalize ((2^bl m:Nat):Int)=P at *;generalize ((2^u:Nat):Int)=Q1 at *;generalize ((2^g:Nat):Int)=Q2 at *;generalize (a:Int)=A at *;generalize (b:Int)=B at *;generalize (c:Int)=C at *;generalize (e:Int)=E' at *;calc C*E'=A*E'+P1*q*E':=by rw[eq,Int.add_mul]
  _=A*(B+P2*r)+P1*q*(Q1*y):=by rw[<- er,<- ey]
  _=A*B+Q2*z*(P2*r)+P1*q*(Q1*y):=by rw[yGm,<- ez]
  _=A*B+P*(q*y+z*r):=by
   have h1:Q2*z*(P2*r)=P*(z*r):=by rw[<- p2];simp only[yEn,Int.mul_left_comm]
   have h2:P1*q*(Q1*y)=P*(q*y):=by rw[<- p1];simp only[yEn,Int.mul_left_comm]
   rw[h1,h2,yGm];omega
theorem aS1(aG:wd=.same\/wd=.less\/wd=.under)(ha:a<2^v)(hb:b<2^v)(hc:c<2^v)(he:e<2^v)(ag:Ag (aO wd w kk [v,v] fs m) [c,e] [a,b]):c=a/\e=b:=by
 have h0:=iY hm ht;have e0:(aO wd w kk [v,v] fs m).getD 0 0=2^v-1:=by unfold aO;rw[if_neg h0];erw[50,aG]<;>rfl
 have e1:(aO wd w kk [v,v] fs m).getD 1 0=2^v-1:=by unfold aO;rw[if_neg h0];erw[50,aG]<;>rfl
 exact⟨xH hc ha λ i hi=>ag 0 i (by rw[e0,cV,dqT hi]),xH he hb λ i hi=>ag 1 i (by rw[e1,cV,dqT hi])⟩
theorem aSt(hz:z<2^1)(hz':z'<2^1)(F:lB fs [z,a,b])(ag:Ag (aO .pick w kk ws fs m) [z',c,e] [z,a,b]):(if z'=1 then c else e)[t]! =(if z=1 then a else b)[t]!:=by
 have h0:=iY hm ht;have en:aO .pick w kk ws fs m=if (fs.getD 0 default).O=1 then [1,m,0] else if (fs.getD 0 default).N=1 then [1,0,m] else [1,m,m]:=by unfold aO;rw[if_neg h0]
 have e0:(aO .pick w kk ws fs m).getD 0 0=1:=by rw[en];split;rfl;split<;>rfl
 have ez:z'=z:=xH hz' hz λ i hi=>ag 0 i (by rw[e0,show i=0 by omega];rfl)
 subst ez;have o1:(fs.getD 0 default).O=1->z'=1:=λ h=>by
  have:=(F 0 0).2 (by rw[h];rfl);have q:z'[0]! =true:=this;rcases (show z'=0\/z'=1 by omega) with rfl|rfl
  ·cases q
  ·rfl
 have n1:(fs.getD 0 default).N=1->z'≠1:=λ h=>by
  have:=(F 0 0).1 (by rw[h];rfl);have q:z'[0]! =false:=this;rintro rfl;cases q
 by_cases c1:z'=1
 ·rw[if_pos c1,if_pos c1];refine ag 1 t ?_;rw[en];split
  ·exact ht
  ·rw[if_neg λ h=>n1 h c1];exact ht
 ·rw[if_neg c1,if_neg c1];refine ag 2 t ?_;rw[en,if_neg λ h=>c1 (o1 h)];split
  ·exact ht
  ·exact ht
end
def aUF{os:List Nat}(h:RwOk ⟨wd,w,args⟩ ws)(hk:tQ wd args kk)(hm:m<2^w)(ht:m[t]! =true)(ln:iK ws ns)(lo:iK ws os)(F:lB fs ns)(ag:Ag (aO wd w kk ws fs m) os ns):(cD ⟨wd,w,args⟩ ws os)[t]! =(cD ⟨wd,w,args⟩ ws ns)[t]!:=by
 cases h with
 |inp=>rfl|num=>rfl
 |nt h1 h2=>
   let(a,rfl,ha):=eJ ln;let(b,rfl,hb):=eJ lo;exact aSZ hm ht ha hb ag
 |sh h1 h2 aG hk'=>
   rename_i a0 k;let(a,rfl,ha):=eJ ln;let(b,rfl,hb):=eJ lo;have ek:k=kk:=by
    erw[50,aG]
    all_goals
     let(a1,e,_):=hk;injection e with _ e
     injection e
   subst ek;erw[50,aG]
   ·exact aQR hm ht ag
   ·exact aPy hm ht ha hb ag
   ·exact aP7 hm ht h1 ha hb ag
 |cut h1 hv h2=>
   let(a,rfl,ha):=eJ ln;let(b,rfl,hb):=eJ lo;exact aT3 hm ht ag
 |wide h1 hv h2=>
   let(a,rfl,ha):=eJ ln;let(b,rfl,hb):=eJ lo;exact aSp hm ht ha hb ag
 |sign h1 hv h2=>
   let(a,rfl,ha):=eJ ln;let(b,rfl,hb):=eJ lo;exact aR0 hm ht h1 hv ha hb ag
 |bw h1 h2 aG=>
   let(a,b,rfl,ha,hb):=gP ln;let(c,e,rfl,hc,he):=gP lo;erw[50,aG]
   ·exact aTG hm ht F ag
   ·exact aWL hm ht F ag
   ·exact aVr hm ht ag
 |sm h1 h2=>
   rename_i s _ _;let(a,b,rfl,ha,hb):=gP ln;let(c,e,rfl,hc,he):=gP lo;cases s with
   |add=>exact aT2 hm ht ag|sub=>exact aTu hm ht ag|mul=>exact aVH hm ht F ag
 |cmp h1 h2 aG=>
   let(a,b,rfl,ha,hb):=gP ln;let(c,e,rfl,hc,he):=gP lo;let(rfl,rfl):=aS1 hm ht aG ha hb hc he ag;rfl
 |pick h1 h2=>
   let(z,a,b,rfl,hz,ha,hb):=zI ln;let(z',c,e,rfl,hz',hc,he):=zI lo;exact aSt hm ht hz hz' F ag
def dQ(ws:List Nat)(r:Rw):Nat:=if r.wd=.not\/r.wd=.and\/r.wd=.or\/r.wd=.xor\/r.wd=.pick then r.w else if r.wd=.same\/r.wd=.less\/r.wd=.under then ws.getD (r.args.getD 0 0) 0 else if r.wd=.add\/r.wd=.sub then 2*r.w else if r.wd=.mul then r.w*r.w else 0
def aEU(ws:List Nat)(r:Rw):Prop:=(r.wd=.same\/r.wd=.less\/r.wd=.under)->∃ a l v,r.args=a::l/\ws[a]?=qq v
def aG3(h:cN ws r):aEU ws r:=by
 let(wd,w,args):=r;let(_,_,h):=h;intro hc;dsimp only at hc h ⊢;erw[50,hc]
 all_goals
  rcases args with _|⟨a,_|⟨b,_|⟨c,l⟩⟩⟩
  ·exact h.elim
  ·exact h.elim
  ·let(_,v,h1,h2):=h;exact⟨a,[b],v,rfl,h1⟩
  ·exact h.elim
def aGM:∀ {rs:List Rw}{ws:List Nat},bS ws rs->∀ r∈rs,aEU (ws++rs.map (·.w)) r
 |[],_,_,r,hr=>by cases hr
 |q::rs,ws,⟨h1,h2⟩,r,hr=>by
   rcases List.mem_cons.mp hr with rfl|hr
   ·intro hc;let(a,l,v,e1,e2):=aG3 h1 hc;exact⟨a,l,v,e1,by rw[xAm (gIm e2).1];exact e2⟩
   ·have:=aGM h2 r hr;rw[yBq] at this;exact this
def aH2:∀ {rs:List Rw}{ws:List Nat},bS ws rs->∀ r∈rs,r.w<=64
 |[],_,_,r,hr=>by cases hr
 |q::rs,ws,⟨h1,h2⟩,r,hr=>by
   rcases List.mem_cons.mp hr with rfl|hr
   ·exact h1.2.1
   ·exact aH2 h2 r hr
def aSB(a:Wd):aS .In (.str a.s) (.tuple [.str "not",.str "and",.str "or",.str "xor",.str "pick"])=qq (.bool (decide (a=.not\/a=.and\/a=.or\/a=.xor\/a=.pick))):=by cases a<;>rfl
def aWp{r:Rw}(h:r.args=a::l):aN r.d (.int 2)=qq (.int a):=@gE (.str r.wd.s::nD r.w::r.args.map nD) 2 _ (by rw[h];rfl)
def aTP{ws:List Nat}{a v:Nat}(h:ws[a]?=qq v):aN (ws*>nD) (.int a)=qq (.int v):=gE (by rw[yAc,h];rfl)
def aER{i:Nat}{e:E}{env:bI}{S:aE}{a t:D}{p:Prop} [Decidable p]{x y:Sx}{n m:Nat}(h:env[i]?=qq (qq (.d a)))(he:ev C e env S=qq (.d t,S))(hc:aS .In a t=qq (.bool (decide p)))(k1:p->xs C x env S=qq (.rt (.d (.int n)),S))(k2:¬ p->xs C y env S=qq (.rt (.d (.int m)),S)):xs C (.seq (.ifs (.cmp .In (.var i) e) x .skip) y) env S=qq (.rt (.d (.int ((if p then n else m:Nat):Nat))),S):=by
 by_cases c:p
 ·rw[dqT c] at hc;rw[if_pos c];exact bP (fF h he hc) (k1 c)
 ·rw[dqF c] at hc;rw[if_neg c];exact aJ (fF h he hc) (k2 c)
def aNH(d:Nat)(r:Rw)(ws:List Nat)(hc:aEU ws r)(hw:r.w<=64)(S:aE):cl fns (d+1) 63 [.d r.d,.d (ws*>nD)] S=qq (.d (.int (dQ ws r:Nat)),S):=by
 have e2:(2:Int)*(r.w:Int)=((2*r.w:Nat):Int):=by push_cast;rfl
 have e3:(r.w:Int)*(r.w:Int)=((r.w*r.w:Nat):Int):=by push_cast;rfl
 have m4:aS .Eq (.str r.wd.s) (.str "mul")=qq (.bool (decide (r.wd=.mul))):=bN r.wd .mul;refine bX rfl d rfl rfl yAe (cC (w:=.d (.str r.wd.s)) (S1:=S) ?_ rfl (cC (w:=.d (.int r.w)) (S1:=S) ?_ rfl (aER rfl rfl (aSB r.wd) (λ _=>bC rfl) λ _=>aER rfl rfl (pE r.wd) (λ c=>bC ?_) λ _=>aER rfl rfl (aEC r.wd) (λ _=>bC ?_) λ _=>?_)))
 ·erw[20,iF]
 ·erw[20,dX]
 ·let(a,l,v,e4,e5):=hc c;rw[e4,show ws.getD ((a::l).getD 0 0) 0=v by show ws.getD a 0=v;rw[xAg,e5];rfl];erw[20,aWp e4,aTP e5]
 ·erw[20,@lS 2 _ (·) (·),e2]
 ·by_cases c:r.wd=.mul
  ·rw[dqT c] at m4;rw[if_pos c];refine bP (cF rfl m4) (bC ?_);erw[20,@lS (r.w:Int) (r.w:Int) () (),e3]
  ·rw[dqF c] at m4;rw[if_neg c];exact aJ (cF rfl m4) (bC rfl)
def aHO(d:Nat)(rs:List Rw)(o:D)(hr:bS [] rs)(hl:↑rs<=1000)(S:aE):cl fns (d+2) 64 [.d (rs<*o)] S=qq (.d (.int (((rs.map (dQ (~~~rs))).sum:Nat):Int)),S):=by
 have hc:lv (d<$>1) aHt [qq (.d (rs<*o)),qq (.d (.tuple ((~~~rs).map nD))),qz] S=qq (rs.map (λ r=>yAn ((dQ (~~~rs) r:Nat):Int)),S):=by
  refine lU (fi:=lv (d<$>1) (.it (.ix (.var 0) (.int 0)))) (fe:=ev (d<$>1) (.call 63 (.cons (.var 2) (.cons (.var 1) .nil)))) Rw.d (λ r=>yAn ((dQ (~~~rs) r:Nat):Int)) rs ?_ (by rw[qo];omega) λ r hr'=>?_
  ·erw[0,fH,aLa]
  ·refine⟨_,rfl,λ S'=>?_⟩;have hcm:=aGM hr r hr';rw[yDp] at hcm;erw[0,clr,yAz,yBo,aNH d r (~~~rs) hcm (aH2 hr r hr')]
 rw[bE rfl (d+1) _ S rfl];erw[11,aKi,aAh d rs o hl,hc,aCb,aOd (λ r=>((dQ (~~~rs) r:Nat):Int)),aHW]
def hU:List Rw->Nat
 |[]=>0
 |r::rs=>if r.wd=.in then hU rs+1 else hU rs
def aAF(r:Rw)(rs:List Rw)(W is aF:List Nat):cI (r::rs) W is aF=if r.wd=.in then cI rs W is.tail (aF++[g0 is 0]) else cI rs W is (aF++[cD r (aT r W) (aT r aF)]):=rfl
def aHN(r:Rw)(rs:List Rw):hU (r::rs)=if r.wd=.in then hU rs+1 else hU rs:=rfl
def aAN(W:List Nat):∀ (a b:List Rw) (is aF:List Nat),cI (a++b) W is aF=cI b W (is.drop (hU a)) (cI a W is aF)
 |[],b,is,aF=>rfl
 |r::a,b,is,aF=>by
   rw[yFi,aAF,aAF,aHN];by_cases c:r.wd=.in
   ·rw[if_pos c,if_pos c,if_pos c,aAN W a b,List.drop_tail]
   ·rw[if_neg c,if_neg c,if_neg c,aAN W a b]
def aIN{r:Rw}{W:List Nat}(h:∀ a∈r.args.take (aM r.wd),a<↑W):aT r (W++X)=aT r W:=by
 unfold aT;refine yBx λ a ha=>?_
 show(W++X).getD a 0=W.getD a 0;rw[xAg,xAg,xAm (h a ha)]
def aJO{W:List Nat}:∀ (rs:List Rw) (is aF:List Nat),(∀ r∈rs,∀ a∈r.args.take (aM r.wd),a<↑W)->cI rs (W++X) is aF=cI rs W is aF
 |[],is,aF,_=>rfl
 |r::rs,is,aF,h=>by
   have ih:=λ is aF=>@aJO X _ rs is aF λ q m=>h q (xAf _ m)
   unfold cI;split
   ·exact ih _ _
   ·rw[aIN (h r xAc)];exact ih _ _
noncomputable abbrev rn(rs:List Rw)(is:List Nat):List Nat:=cI rs (~~~rs) is []
def mR(Q:List Rw)(is:List Nat)(r:Rw):Nat:=if r.wd=.in then g0 is (hU Q) else cD r (aT r (Q.map (·.w))) (aT r (rn Q is))
def aUn{rs:List Rw}(hf:sJ rs):∀ r∈rs,∀ a∈r.args.take (aM r.wd),a<↑rs:=λ r m a ha=>by
 let(j,hj):=yDy m;have:=(hf j r hj).2 a ha;have:=(gIm hj).1;omega
def lX(Q:List Rw)(is:List Nat):↑(rn Q is)=↑Q:=by unfold rn;rw[wO];simp
def aIS(l:List Nat)(n:Nat):g0 (l.drop n) 0=g0 l n:=by show(l.drop n).getD 0 0=l.getD n 0;rw[xAg,xAg,yHb,yHa]
def aRy{r:Rw}(hf:sJ Q)(hr:∀ a∈r.args.take (aM r.wd),a<↑Q)(is:List Nat):rn (Q++[r]) is=rn Q is++[mR Q is r]:=by
 have e:(Q++[r]).map (·.w)=Q.map (·.w)++[r.w]:=by rw[yAw];rfl
 unfold rn;rw[aAN,e,aJO Q is [] λ q m a ha=>by rw[yAb];exact aUn hf q m a ha];rw[aAF];unfold mR;by_cases c:r.wd=.in
 ·rw[if_pos c,if_pos c,aIS];rfl
 ·rw[if_neg c,if_neg c,aIN λ a ha=>by rw[yAb];exact hr a ha];rfl
def aKk{l:List Nat}(h:a<↑l):g0 (l++[x]) a=g0 l a:=by show(l++[x]).getD a 0=l.getD a 0;rw[xAg,xAg,xAm h]
def aKJ(l:List Nat)(x:Nat):g0 (l++[x]) ↑l=x:=by show(l++[x]).getD ↑l 0=x;rw[xAg,yAf (yAd _),yBf];rfl
def aUh{rs:List Rw}(hr:rs[j]?=qq r)(hi:r.wd=.in)(is:List Nat):g0 (rn rs is) j=g0 is (hU (rs.take j)):=by
 have hj:=(gIm hr).1;have e:rs=rs.take j++r::rs.drop (j+1):=by
  have h:=(gIm hr).2;rw[<- h,<- yCu hj,List.take_append_drop]
 have l:↑(cI (rs.take j) (~~~rs) is [])=j:=by
  rw[wO,yBk];simp;omega
 unfold rn
 conv=>lhs;rw[show cI rs (~~~rs) is []=cI (rs.take j++r::rs.drop (j+1)) (~~~rs) is [] by rw[<- e]]
 rw[aAN,aAF,if_pos hi];let(t,ht):=aAR (rs.drop (j+1)) (~~~rs) (is.drop (hU (rs.take j))).tail (cI (rs.take j) (~~~rs) is []++[g0 (is.drop (hU (rs.take j))) 0]);rw[ht,aIS];show((_++[_])++t).getD j 0=_;rw[xAg,xAm (by simp;omega),yAf (),l,yBf];rfl
noncomputable abbrev cR(f:Ft):Fc:=⟨f.N,f.O,f.A⟩
def aA6{m x:Nat}(h:m[t]! =true)(hx:x[t]! =false):(bJ m x)[t]! =true:=by rw[dJ,h,hx];rfl
def iQ(h:(bJ m x==0)=true)(ht:m[t]! =true):x[t]! =true:=wA.mp h t ht
def rK{m:Nat}(h:m[t]! =true):t<bl m:=by apply Decidable.byContradiction;intro c;rw[cP (jS m) ()] at h;cases h
def dW(c:t<h):(2^h-1)[t]! =true:=by rw[cV,dqT c]
def aC3{b:Nat}{f:Ft}(hf:∀ t,(f.N[t]! =true->b[t]! =false)/\(f.O[t]! =true->b[t]! =true))(e:(bJ (2^h-1) f.N==0)=true):∃ y:Int,((b:Nat):Int)=((2^h:Nat):Int)*y:=
 aDj λ i hi=>(hf i).1 (iQ e (dW hi))
def xE{b:Nat}{f:Ft}(hf:∀ t,(f.N[t]! =true->b[t]! =false)/\(f.O[t]! =true->b[t]! =true))(e:eG f (2^h-1)=qq k):k<h/\f.O[k]! =true/\∃ y:Int,((b:Nat):Int)=((2^k:Nat):Int)+((2^h:Nat):Int)*y:=by
 unfold eG at e;split at e
 ·cases e
 ·rename_i c;have c1:¬ f.O&&&(2^h-1)=0:=λ z=>c (.inl z)
  have c2:(f.O&&&(2^h-1))&&&((f.O&&&(2^h-1))-1)=0:=Decidable.byContradiction λ z=>c (.inr (.inl z))
  have c3:bJ (2^h-1) (f.N|||f.O)=0:=Decidable.byContradiction λ z=>c (.inr (.inr z))
  have ek:=Option.some.inj e;have o:=(aJz c1).mp c2;rw[ek] at o;have ob:∀ i,(f.O&&&(2^h-1))[i]! =decide (k=i):=λ i=>by rw[o,yCj]
  have hk:f.O[k]! =true/\k<h:=by
   have:=ob k;rw[dqT rfl,yAh,cV,yAp] at this;exact⟨this.1,oqT this.2⟩
  refine⟨hk.2,hk.1,?_⟩;refine rJ λ i hi=>?_
  rw[yCj];have kn:=wA.mp (iI c3) i (dW hi);have:=ob i;rw[yAh,dW hi,yCi] at this;by_cases d:k=i
  ·rw[dqT d] at this ⊢;exact(hf i).2 this
  ·rw[dqF d] at this ⊢;rw[xAo,this,yEk] at kn;exact(hf i).1 kn
def wW(hn:n<2^w)(x:Int)(ht:t<w)(hh:t<h)(e:∃ q:Int,x=((n:Nat):Int)+((2^h:Nat):Int)*q):(rs x w)[t]! =n[t]!:=by let(q,e):=e;rw[oZ ht hh e,aHH hn]
def iO(f:Ft)(a:Nat):Prop:=∀ t,(f.N[t]! =true->a[t]! =false)/\(f.O[t]! =true->a[t]! =true)
def rT(h:iO f a)(ho:f.O[t]! =true):f.N[t]! =false:=by
 cases c:f.N[t]! with
 |false=>rfl
 |true=>
   have h1:=(h t).1 c;rw[(h t).2 ho] at h1;cases h1
def aEQ(h:iO f a)(ho:f.N[t]! =true):f.O[t]! =false:=by
 cases c:f.O[t]! with
 |false=>rfl|true=>rw[rT h c] at ho;cases ho
def nV(hm:m<2^w)(ht:m[t]! =true):t<w:=by apply Decidable.byContradiction;intro c;rw[cP hm ()] at ht;cases ht
def nd2(h0:m≠0)(wd:Wd):aO wd w kk ws [cR f,cR g] m=match wd with
 |.xor=>[m,m]|.and=>[bJ m (bJ g.N f.N),bJ m f.N]|.or=>[bJ m (bJ g.O f.O),bJ m f.O]
 |.add|.sub=>[2^bl m-1,2^bl m-1]
 |.mul=>[2^(bl m-min (bl m) (lr g.N))-1,2^(bl m-min (bl m-min (bl m) (lr g.N)) (lr f.N))-1]
 |wd=>aO wd w kk ws [cR f,cR g] m:=by cases wd<;>first|rfl|exact if_neg h0
def lr0{n:Nat}(h:n[0]! =false):lr n=0:=by
 rcases Nat.eq_zero_or_pos (lr n) with z|z
 ·exact z
 ·rw[nE z] at h;cases h
def aK3{n:Nat}(h:n[k]! =false):lr n<=k:=by apply Decidable.byContradiction;intro c;rw[nE ()] at h;cases h
def jM(h0:m≠0)(hm:m<2^w)(ha:a<2^w)(hg:iO g b)(c:dA wd g m=true)(ht:m[t]! =true):((aO wd w kk ws [cR f,cR g] m).getD 0 0)[t]! =true/\(oI wd w a b)[t]! =a[t]!:=by
 have tw:=nV hm ht;have tb:=rK ht;rw[nd2 h0];cases wd
 case and=>
  have o:=iQ c ht;refine⟨aA6 ht (by rw[dJ,rT hg o];rfl),?_⟩;show(a&&&b)[t]! =_;rw[yAh,(hg t).2 o,yCi]
 case or=>
  have o:=iQ c ht;refine⟨aA6 ht (by rw[dJ,aEQ hg o];rfl),?_⟩;show(a|||b)[t]! =_;rw[xAo,(hg t).1 o,yEk]
 case xor=>
  refine⟨ht,?_⟩;show(a^^^b)[t]! =_;rw[yAl,(hg t).1 (iQ c ht),Bool.xor_false]
 case add=>
  let(y,e):=aC3 hg c;exact⟨dW tb,wW ha _ tw tb ⟨y,by rw[e]⟩⟩
 case sub=>
  let(y,e):=aC3 hg c;exact⟨dW tb,wW ha _ tw tb ⟨-y,by rw[e,Int.mul_neg];omega⟩⟩
 case mul=>
  let(_,o,y,e):=xE hg (oqT c);refine⟨?_,wW ha _ tw tb ⟨(a:Nat)*y,by rw[e,yGm,yCk,<- yEn,<- yEn,yGy (a:Int) ((2^bl m:Nat):Int)];simp⟩⟩;show(2^(bl m-min (bl m) (lr g.N))-1)[t]! =true;rw[lr0 (rT hg o)];exact dW ()
 all_goals cases c
def mU(h0:m≠0)(hm:m<2^w)(hb:b<2^w)(hf:iO f a)(x:iA wd=true)(c:dA wd f m=true)(ht:m[t]! =true):((aO wd w kk ws [cR f,cR g] m).getD 1 0)[t]! =true/\(oI wd w a b)[t]! =b[t]!:=by
 have tw:=nV hm ht;have tb:=rK ht;rw[nd2 h0];cases wd
 case and=>
  have o:=iQ c ht;refine⟨aA6 ht (rT hf o),?_⟩;show(a&&&b)[t]! =_;rw[yAh,(hf t).2 o,yAk]
 case or=>
  have o:=iQ c ht;refine⟨aA6 ht (aEQ hf o),?_⟩;show(a|||b)[t]! =_;rw[xAo,(hf t).1 o,Bool.false_or]
 case xor=>
  refine⟨ht,?_⟩;show(a^^^b)[t]! =_;rw[yAl,(hf t).1 (iQ c ht),Bool.false_xor]
 case add=>
  let(y,e):=aC3 hf c;exact⟨dW tb,wW hb _ tw tb ⟨y,by rw[e];omega⟩⟩
 case mul=>
  let(_,o,y,e):=xE hf (oqT c);refine⟨?_,wW hb _ tw tb ⟨y*(b:Nat),by rw[e,Int.add_mul,yCk,yEn];simp⟩⟩;show(2^(bl m-min (bl m-min (bl m) (lr g.N)) (lr f.N))-1)[t]! =true;rw[lr0 (rT hf o)];exact dW ()
 all_goals first|cases c|cases x
def aWe{y:Nat}(h0:m≠0)(hf:iO f a)(hg:iO g b)(x:mX wd=true)(g1:∀ t,((aO wd w kk ws [cR f,cR g] m).getD 0 0)[t]! =true->y[t]! =a[t]!)(g2:∀ t,((aO wd w kk ws [cR f,cR g] m).getD 1 0)[t]! =true->y[t]! =b[t]!)(ht:m[t]! =true):y[t]! =(oI wd w a b)[t]!:=by
 rw[nd2 h0] at g1 g2;cases wd
 case and=>
  have g1:(bJ m (bJ g.N f.N))[t]! =true->_:=g1 t;have g2:(bJ m f.N)[t]! =true->_:=g2 t;rw[dJ,ht,dJ] at g1;rw[dJ,ht] at g2;show _=(a&&&b)[t]!;rw[yAh];have f1:=(hf t).1;have g3:=(hg t).1;cases c1:f.N[t]! with
  |true=>
    rw[c1,yEz,yBp] at g1;rw[g1 rfl,f1 c1];rfl
  |false=>
    rw[c1] at g1 g2;have e2:=g2 rfl;cases c2:g.N[t]! with
    |true=>rw[e2,g3 c2,yBp]
    |false=>
      rw[c2] at g1;rw[<- g1 rfl,<- e2,Bool.and_self]
 case or=>
  have g1:(bJ m (bJ g.O f.O))[t]! =true->_:=g1 t;have g2:(bJ m f.O)[t]! =true->_:=g2 t;rw[dJ,ht,dJ] at g1;rw[dJ,ht] at g2;show _=(a|||b)[t]!;rw[xAo];have f1:=(hf t).2;have g3:=(hg t).2;cases c1:f.O[t]! with
  |true=>
    rw[c1,yEz,yBp] at g1;rw[g1 rfl,f1 c1];rfl
  |false=>
    rw[c1] at g1 g2;have e2:=g2 rfl;cases c2:g.O[t]! with
    |true=>rw[e2,g3 c2,yEg]
    |false=>
      rw[c2] at g1;rw[<- g1 rfl,<- e2,Bool.or_self]
 all_goals cases x
def xB{Fs:List Ft}(h:lB (Fs.map cR) ns)(e:Fs[c]?=qq f):iO f (g0 ns c):=λ t=>by
 have:=h c t;rw[xAg,yAc,e] at this;exact this
def aKm{Fs:List Ft}(h:↑Fs=2):∃ f g,Fs=[f,g]:=by
 rcases Fs with _|⟨f,_|⟨g,_|⟨x,l⟩⟩⟩
 ·cases h
 ·cases h
 ·exact⟨f,g,rfl⟩
 ·simp at h
def aHM{Fs:List Ft}(h:↑Fs=3):∃ e f g,Fs=[e,f,g]:=by
 rcases Fs with _|⟨e,_|⟨f,_|⟨g,_|⟨x,l⟩⟩⟩⟩
 ·cases h
 ·cases h
 ·cases h
 ·exact⟨e,f,g,rfl⟩
 ·simp at h
section
variable {w m kk:Nat}{Fs:List Ft}{P:List (Option Nat)}{z:Nat->Nat}{ns ws:List Nat}
def sL(wd:Wd)(w kk:Nat)(ws:List Nat)(Fs:List Ft)(m:Nat)(P:List (Option Nat))(z:Nat->Nat)(ns:List Nat):Prop:=∀ c q,pg P c=qq q->∀ t,((aO wd w kk ws (Fs.map cR) m).getD c 0)[t]! =true->(z q)[t]! =(g0 ns c)[t]!
def po2(hw:(mX wd=true\/wd=.xor\/wd=.add\/wd=.sub\/wd=.mul))(h0:m≠0)(hm:m<2^w)(ha:a<2^w)(hb:b<2^w)(lF:↑Fs=2)(hP:↑P=2)(fs:lB (Fs.map cR) [a,b])(ag:sL wd w kk ws Fs m P z [a,b])(e:fZ ⟨wd,w,args⟩ m ws Fs P=qq i)(eq:pg P i=qq q)(t:Nat)(ht:m[t]! =true):(z q)[t]! =(oI wd w a b)[t]!:=by
 let(f,g,rfl):=aKm lF;have hf:iO f a:=xB (c:=0) fs rfl;have hg:iO g b:=xB (c:=1) fs rfl;have np:decide (wd=.pick)=false:=by rcases hw with c|rfl|rfl|rfl|rfl<;>first|rfl|(cases wd<;>first|rfl|cases c)
 have ns3:qL wd=false:=by rcases hw with c|rfl|rfl|rfl|rfl<;>first|rfl|(cases wd<;>first|rfl|cases c)
 have nc3:sR wd=false:=by rcases hw with c|rfl|rfl|rfl|rfl<;>first|rfl|(cases wd<;>first|rfl|cases c)
 unfold fZ at e;dsimp only at e;rw[np,ns3,nc3] at e;have e:cond (mX wd&&iX P) (qq 0) (cond (decide (↑P=2)&&dA wd g m) (qq 0) (cond (iA wd&&dA wd f m) (qq 1) qz))=qq i:=e;rw[dqT hP,yAk] at e;cases c1:(mX wd&&iX P) with
 |true=>
   rw[c1] at e;have e:qq 0=qq i:=e;cases e;let(b1,b2):=(yAp _ _▸c1:_/\_);have b2:=oqT b2;exact aWe h0 hf hg b1 (ag 0 q eq) (ag 1 q (by rw[<- b2];exact eq)) ht
 |false=>
   rw[c1] at e;have e:cond (dA wd g m) (qq 0) (cond (iA wd&&dA wd f m) (qq 1) qz)=qq i:=e;cases c2:dA wd g m with
   |true=>
     rw[c2] at e;have e:qq 0=qq i:=e;cases e;let(h1,h2):=@jM _ _ _ _ _ _ _ kk ws f h0 hm ha hg c2 ht;rw[h2];exact ag 0 q eq t h1
   |false=>
     rw[c2] at e;have e:cond (iA wd&&dA wd f m) (qq 1) qz=qq i:=e;cases c3:(iA wd&&dA wd f m) with
     |false=>rw[c3] at e;cases e
     |true=>
       rw[c3] at e;have e:qq 1=qq i:=e;cases e;let(b1,b2):=(yAp _ _▸c3:_/\_);let(h1,h2):=@mU _ _ _ _ _ _ _ kk ws g h0 hm hb hf b1 b2 ht;rw[h2];exact ag 1 q eq t h1
def aRY(hc:c<2^1)(h0:m≠0)(lF:↑Fs=3)(fs:lB (Fs.map cR) [c,a,b])(ag:sL .pick w kk ws Fs m P z [c,a,b])(e:fZ ⟨.pick,w,args⟩ m ws Fs P=qq i)(eq:pg P i=qq q)(t:Nat)(ht:m[t]! =true):(z q)[t]! =(if c=1 then a else b)[t]!:=by
 let(f,g,g',rfl):=aHM lF;have hf:iO f c:=xB (c:=0) fs rfl;have e:jK f P=qq i:=e;have nd:aO .pick w kk ws ([f,g,g'].map cR) m=if f.O=1 then [1,m,0] else if f.N=1 then [1,0,m] else [1,m,m]:=if_neg h0
 unfold sL at ag;rw[nd] at ag;have c1:f.O=1->c=1:=λ o=>by
  have:c[0]! =true:=(hf 0).2 (by rw[o];rfl);rcases (by omega:c=0\/c=1) with rfl|rfl
  ·cases this
  ·rfl
 have c0:f.N=1->c=0:=λ o=>by
  have:c[0]! =false:=(hf 0).1 (by rw[o];rfl);rcases (by omega:c=0\/c=1) with rfl|rfl
  ·rfl
  ·cases this
 unfold jK at e;by_cases k1:f.O=1
 ·rw[if_pos (.inr k1)] at e;cases e;rw[if_pos k1] at ag;rw[if_pos (c1 k1)];exact ag 1 q eq t ht
 ·rw[if_neg k1] at ag;by_cases k2:f.N=1
  ·rw[if_pos k2] at ag;rw[if_neg (by rw[c0 k2];decide)];by_cases k3:pg P 1=pg P 2
   ·rw[if_pos (.inl k3)] at e;cases e;exact ag 2 q (by rw[<- k3];exact eq) t ht
   ·rw[if_neg (by rintro (h|h);exact k3 h;exact k1 h),if_pos k2] at e;cases e;exact ag 2 q eq t ht
  ·rw[if_neg k2] at ag;by_cases k3:pg P 1=pg P 2
   ·rw[if_pos (.inl k3)] at e;cases e;have h1:=ag 1 q eq t ht;have h2:=ag 2 q (by rw[<- k3];exact eq) t ht;split
    ·exact h1
    ·exact h2
   ·rw[if_neg (by rintro (h|h);exact k3 h;exact k1 h),if_neg k2] at e;cases e
end
section
variable {m:Nat}{Fs:List Ft}{P:List (Option Nat)}{z:Nat->Nat}{ns ws:List Nat}
def aGe:cW a w w=a:=by
 unfold cW;split
 ·rfl
 ·rw[Nat.xor_self,Nat.or_zero]
def aBX(e:cond b (qq 0) qz=qq i):b=true/\i=0:=by
 cases b with
 |false=>cases e|true=>cases e;exact⟨rfl,rfl⟩
def aS4(h:RwOk r ws)(lt:iK ws ns)(h0:m≠0)(hm:m<2^r.w)(lF:↑Fs=aM r.wd)(hP:↑P=aM r.wd)(fs:lB (Fs.map cR) ns)(ag:sL r.wd r.w (dH r) ws Fs m P z ns)(e:fZ r m ws Fs P=qq i)(eq:pg P i=qq q)(t:Nat)(ht:m[t]! =true):(z q)[t]! =(cD r ws ns)[t]!:=by
 cases h with
 |inp=>
   have hP:↑P=0:=hP;have e:cond (decide (↑P=2)&&_) _ _=qq i:=e;rw[hP] at e;cases e
 |num=>
   have hP:↑P=0:=hP;have e:cond (decide (↑P=2)&&_) _ _=qq i:=e;rw[hP] at e;cases e
 |nt=>
   have hP:↑P=1:=hP;have e:cond (decide (↑P=2)&&_) _ _=qq i:=e;rw[hP] at e;cases e
 |sh h1 h2 aG hk=>
   rename_i wd w a k;let(x,rfl,hx):=eJ lt;have e':cond (k==0) (qq 0) qz=qq i:=by erw[50,aG]<;>exact e
   let(c,rfl):=aBX e';have k0:=beq_iff_eq.mp c;subst k0;have tw:=nV hm ht;have nd:((aO wd w 0 [w] (Fs.map cR) m).getD 0 0)[t]! =true:=by
    erw[50,aG]
    ·show((if m=0 then _ else [m/2^0]:List Nat).getD 0 0)[t]! =true;rw[if_neg h0,yCk,yFz];exact ht
    ·show((if m=0 then _ else [(m*2^0)&&&(2^w-1)]:List Nat).getD 0 0)[t]! =true;rw[if_neg h0,yCk,yHp,yBj,yCc hm];exact ht
    ·show((if m=0 then _ else [eS (m*2^0) w]:List Nat).getD 0 0)[t]! =true;rw[if_neg h0,yCk,yHp,aAI hm];exact ht
   have:=ag 0 q eq t nd;rw[this];show x[t]! =_;erw[50,aG]
   ·show _=(x*2^0%2^w)[t]!;rw[yCk,yHp,yCc hx]
   ·show _=(x/2^0)[t]!;rw[yCk,yFz]
   ·show _=(cW x w (w+0)/2^0)[t]!;rw[yCk,yFz,yHa,aGe]
 |cut h1 hv h2=>
   rename_i w v a;let(x,rfl,hx):=eJ lt;have e':cond (v==w) (qq 0) qz=qq i:=e;let(c,rfl):=aBX e';have k0:=beq_iff_eq.mp c;subst k0;have:=ag 0 q eq t (by show((if m=0 then _ else [m]:List Nat).getD 0 0)[t]! =true;rw[if_neg h0];exact ht);rw[this];show x[t]! =(x%2^v)[t]!;rw[yCc hx]
 |wide h1 hv h2=>
   rename_i w v a;let(x,rfl,hx):=eJ lt;have e':cond (v==w) (qq 0) qz=qq i:=e;let(c,rfl):=aBX e';have k0:=beq_iff_eq.mp c;subst k0;exact ag 0 q eq t (by show((if m=0 then _ else [m&&&(2^v-1)]:List Nat).getD 0 0)[t]! =true;rw[if_neg h0,yBj,yCc hm];exact ht)
 |sign h1 hv h2=>
   rename_i w v a;let(x,rfl,hx):=eJ lt;have e':cond (v==w) (qq 0) qz=qq i:=e;let(c,rfl):=aBX e';have k0:=beq_iff_eq.mp c;subst k0;have:=ag 0 q eq t (by show((if m=0 then _ else [eS m v]:List Nat).getD 0 0)[t]! =true;rw[if_neg h0,aAI hm];exact ht);rw[this];show x[t]! =(cW x v v)[t]!;rw[aGe]
 |bw h1 h2 aG=>
   rename_i wd w x y;let(a,b,rfl,ha,hb):=gP lt;have c2:aM wd=2:=by erw[50,aG]<;>rfl
   have v:=po2 (z:=z) (by erw[50,aG];exact .inl rfl;exact .inl rfl;exact .inr (.inl rfl)) h0 hm ha hb (lF.trans c2) (hP.trans c2) fs ag e eq t ht;rw[v];erw[50,aG]<;>rfl
 |sm h1 h2=>
   rename_i s w x y;let(a,b,rfl,ha,hb):=gP lt;cases s
   ·exact po2 (.inr (.inr (.inl rfl))) h0 hm ha hb lF hP fs ag e eq t ht
   ·exact po2 (.inr (.inr (.inr (.inl rfl)))) h0 hm ha hb lF hP fs ag e eq t ht
   ·exact po2 (.inr (.inr (.inr (.inr rfl)))) h0 hm ha hb lF hP fs ag e eq t ht
 |cmp h1 h2 aG=>
   have e':cond (decide (↑P=2)&&false) (qq 0) qz=qq i:=by erw[50,aG]<;>exact e
   rw[yBp] at e';cases e'
 |pick h1 h2=>
   let(c,a,b,rfl,hc,ha,hb):=zI lt;exact aRY hc h0 lF fs ag e eq t ht
def aKN(h0:m≠0)(aG:wd=.same\/wd=.less\/wd=.under):aO wd 1 kk [v,v] Fc0 m=[2^v-1,2^v-1]:=by erw[50,aG]<;>exact if_neg h0
def aU5(h:RwOk r ws)(h0:m≠0)(k:oP r.wd=true\/r.wd=.same):(aO r.wd r.w (dH r) ws Fc0 m).getD 0 0≠0:=by
 cases h with
 |bw h1 h2 aG=>
   erw[50,aG]
   ·rcases k with k|k<;>cases k
   ·rcases k with k|k<;>cases k
   ·show(aO .xor _ _ _ _ _).getD 0 0≠0;rw[show aO .xor _ _ _ Fc0 m=[m,m] from if_neg h0];exact h0
 |sm h1 h2=>
   rename_i s w x y;cases s
   ·rcases k with k|k<;>cases k
   ·show(aO .sub _ _ _ _ _).getD 0 0≠0;rw[show aO .sub _ _ _ Fc0 m=[2^bl m-1,2^bl m-1] from if_neg h0];exact nG h0
   ·rcases k with k|k<;>cases k
 |cmp h1 h2 aG=>
   rw[aKN h0 aG];have:=yAo (show 0<2 by decide) h1;show 2^_-1≠0;omega
 |sh h1 h2 aG hk=>erw[50,aG]<;>rcases k with k|k<;>cases k
 |_=>rcases k with k|k<;>cases k
def aU4(h0:m≠0)(aG:wd=.same\/wd=.less\/wd=.under)(ha:a<2^v)(hb:b<2^v)(a0:∀ t,((aO wd 1 kk [v,v] Fc0 m).getD 0 0)[t]! =true->(z q)[t]! =a[t]!)(a1:∀ t,((aO wd 1 kk [v,v] Fc0 m).getD 1 0)[t]! =true->(z q)[t]! =b[t]!):a=b:=by rw[aKN h0 aG] at a0 a1;exact xH ha hb λ i hi=>(a0 i (dW hi)).symm.trans (a1 i (dW hi))
def aVA(h:RwOk r ws)(lt:iK ws ns)(h0:m≠0)(hm:m<2^r.w)(a0:∀ t,((aO r.wd r.w (dH r) ws (Fs.map cR) m).getD 0 0)[t]! =true->(z q)[t]! =(g0 ns 0)[t]!)(a1:∀ t,((aO r.wd r.w (dH r) ws (Fs.map cR) m).getD 1 0)[t]! =true->(z q)[t]! =(g0 ns 1)[t]!)(ht:m[t]! =true) :
 (oP r.wd=true->(cD r ws ns)[t]! =false)/\(r.wd=.same->r.w=1/\cD r ws ns=1):=by
 cases h with
 |bw h1 h2 aG=>
   let(a,b,rfl,ha,hb):=gP lt;erw[50,aG]
   ·exact⟨λ b=>(by cases b),λ b=>(by cases b)⟩
   ·exact⟨λ b=>(by cases b),λ b=>(by cases b)⟩
   ·refine⟨λ _=>?_,λ b=>(by cases b)⟩;dsimp only at a0 a1;rw[show aO .xor _ _ _ (Fs.map cR) m=[m,m] from if_neg h0] at a0 a1;show(a^^^b)[t]! =false;rw[yAl,show a[t]! =_ from (a0 t ht).symm,show b[t]! =_ from (a1 t ht).symm,Bool.xor_self]
 |sm h1 h2=>
   rename_i s w x y;let(a,b,rfl,ha,hb):=gP lt;cases s
   ·exact⟨λ b=>(by cases b),λ b=>(by cases b)⟩
   ·refine⟨λ _=>?_,λ b=>(by cases b)⟩;rw[show aO Sw.sub.wd _ _ _ (Fs.map cR) m=[2^bl m-1,2^bl m-1] from if_neg h0] at a0 a1;let(d,hd):=@rJ (bl m) a b λ i hi=>(a0 i (dW hi)).symm.trans (a1 i (dW hi))
    show(rs ((a:Nat)-(b:Nat):Int) w)[t]! =false;rw[@oZ _ _ _ _ ((0:Nat):Int) d (nV hm ht) (rK ht) (by rw[hd];simp;omega),aHH (xAe _),yAq]
   ·exact⟨λ b=>(by cases b),λ b=>(by cases b)⟩
 |cmp h1 h2 aG=>
   rename_i wd v x y;let(a,b,rfl,ha,hb):=gP lt;have ab:a=b:=aU4 h0 aG ha hb a0 a1;subst ab;clear a0 a1;have e:cD ⟨wd,1,[x,y]⟩ [v,v] [a,a]=(qI wd v a a).toNat:=by erw[50,aG]<;>rfl
   rw[e];erw[50,aG]
   ·exact⟨λ b=>(by cases b),λ _=>⟨rfl,by rw[show qI .same v a a=true from dqT rfl];rfl⟩⟩
   ·exact⟨λ _=>by rw[show qI .less v a a=false from dqF ()];exact yAq t,λ b=>(by cases b)⟩
   ·exact⟨λ _=>by rw[show qI .under v a a=false from dqF ()];exact yAq t,λ b=>(by cases b)⟩
 |sh h1 h2 aG hk=>erw[50,aG]<;>exact⟨λ b=>(by cases b),λ b=>(by cases b)⟩
 |_=>exact⟨λ b=>(by cases b),λ b=>(by cases b)⟩
def aUv(h:RwOk r ws)(lt:iK ws ns)(h0:m≠0)(hm:m<2^r.w)(hf:iO f (cD r ws ns))(fk:f.O<2^r.w)(ag:sL r.wd r.w (dH r) ws Fs m P z ns)(nn:∀ c,(aO r.wd r.w (dH r) ws (Fs.map cR) m).getD c 0≠0->pg P c≠qz)(e:mV r.wd f m P=qq n):n<2^r.w/\∀ t,m[t]! =true->n[t]! =(cD r ws ns)[t]!:=by
 unfold mV at e;by_cases c1:bJ m (f.N|||f.O)=0
 ·rw[if_pos c1] at e;cases e;refine⟨fk,λ t ht=>?_⟩;have:=iQ (iI c1) ht;rw[xAo,yBw] at this;rcases this with q|q
  ·rw[(hf t).1 q,aEQ hf q]
  ·rw[(hf t).2 q,q]
 rw[if_neg c1] at e;have one:(oP r.wd=true\/r.wd=.same)->iX P=true->∀ t,m[t]! =true->(oP r.wd=true->(cD r ws ns)[t]! =false)/\(r.wd=.same->r.w=1/\cD r ws ns=1):=λ k x t ht=>by
  cases q:pg P 0 with
  |none=>exact absurd q (nn 0 (aU5 h h0 k))|some q'=>exact aVA h lt h0 hm (ag 0 q' q) (ag 1 q' ((oqT x).symm.trans q)) ht
 by_cases c2:(oP r.wd&&iX P)=true
 ·rw[if_pos c2] at e;cases e;let(b1,b2):=(yAp _ _▸c2:_/\_);exact⟨xAe _,λ t ht=>by rw[yAq,(one (.inl b1) b2 t ht).1 b1]⟩
 rw[if_neg c2] at e;by_cases c3:(decide (r.wd=.same)&&iX P)=true
 ·rw[if_pos c3] at e;cases e;let(b1,b2):=(yAp _ _▸c3:_/\_);have b3:=oqT b1;let(t,ht):=Nat.exists_testBit_of_ne_zero h0;have w1:=((one (.inr b3) b2 t ht).2 b3).1;exact⟨by rw[w1];decide,λ t ht=>by rw[((one (.inr b3) b2 t ht).2 b3).2]⟩
 ·rw[if_neg c3] at e;cases e
end
def aKg(h:x&&&y=0):x+y=x|||y:=by have hx:=jS x;have hy:=jS y;have e:=BitVec.add_eq_or_of_and_eq_zero (BitVec.ofNat (bl x+bl y+1) x) (BitVec.ofNat (bl x+bl y+1) y) (by rw[<- BitVec.ofNat_and,h]);have px:=yAo (show 0<2 by decide) (show bl x<=bl x+bl y by omega);have py:=yAo (show 0<2 by decide) (show bl y<=bl x+bl y by omega);have pp:=yEv 2 (bl x+bl y);have e2:=congrArg BitVec.toNat e;rw[BitVec.toNat_add,BitVec.toNat_or,BitVec.toNat_ofNat,BitVec.toNat_ofNat,yCc (show x<2^(bl x+bl y+1) by omega),yCc (show y<2^(bl x+bl y+1) by omega),yCc (show x+y<2^(bl x+bl y+1) by omega)] at e2;exact e2
def iV(n h t:Nat):(n%2^h)[t]! =(decide (t<h)&&n[t]!):=yAr n h t
def aTt{a b:Nat}(hd:∀ t,t<h->a[t]! =false\/b[t]! =false):∃ q:Int,((a:Nat):Int)+((b:Nat):Int)=((a%2^h|||b%2^h:Nat):Int)+((2^h:Nat):Int)*q:=by
 have z:(a%2^h)&&&(b%2^h)=0:=by
  apply xAl;intro i;rw[yAh,iV,iV,yAq];by_cases c:i<h
  ·rcases hd i c with q|q
   ·rw[q,yBp,yAv]
   ·rw[q,yBp,yBp]
  ·rw[dqF c];rfl
 refine⟨((a/2^h:Nat):Int)+((b/2^h:Nat):Int),?_⟩;rw[<- aKg z];have h1:=yCm a (2^h);have h2:=yCm b (2^h);have e1:(a:Int)=((2^h:Nat):Int)*((a/2^h:Nat):Int)+((a%2^h:Nat):Int):=by exact_mod_cast h1.symm
 have e2:(b:Int)=((2^h:Nat):Int)*((b/2^h:Nat):Int)+((b%2^h:Nat):Int):=by exact_mod_cast h2.symm
 rw[yGm,Int.natCast_add];omega
def aSL{a b:Nat}(hd:∀ t,t<h->b[t]! =true->a[t]! =true):∃ q:Int,((a:Nat):Int)-((b:Nat):Int)=((a%2^h^^^b%2^h:Nat):Int)+((2^h:Nat):Int)*q:=by
 have z:(b%2^h)&&&(a%2^h^^^b%2^h)=0:=by
  apply xAl;intro i;rw[yAh,yAl,iV,iV,yAq];by_cases c:i<h
  ·rw[dqT c];have:=hd i c;cases e:b[i]! with|false=>rfl|true=>rw[this e];rfl
  ·rw[dqF c];rfl
 have y:=aKg z;have o:(b%2^h)|||(a%2^h^^^b%2^h)=a%2^h:=by
  apply xAl;intro i;rw[xAo,yAl,iV,iV];by_cases c:i<h
  ·rw[dqT c];have:=hd i c;cases e:b[i]! with|false=>cases a[i]!<;>rfl|true=>rw[this e];rfl
  ·rw[dqF c];rfl
 rw[o] at y;refine⟨((a/2^h:Nat):Int)-((b/2^h:Nat):Int),?_⟩;have h1:=yCm a (2^h);have h2:=yCm b (2^h);have e1:(a:Int)=((2^h:Nat):Int)*((a/2^h:Nat):Int)+((a%2^h:Nat):Int):=by exact_mod_cast h1.symm
 have e2:(b:Int)=((2^h:Nat):Int)*((b/2^h:Nat):Int)+((b%2^h:Nat):Int):=by exact_mod_cast h2.symm
 rw[Int.mul_sub];omega
def aHZ{y:Nat}(hm:m<2^w)(ha:a<2^w)(hf:iO f b)(e:eG f (2^bl m-1)=qq k)(hy:∀ t,t<bl m-k->y[t]! =a[t]!)(ht:m[t]! =true):(y*2^k%2^w)[t]! =(rs ((a:Nat)*(b:Nat):Int) w)[t]!:=by
 let(k1,o,d,eb):=xE hf e;have tw:=nV hm ht;have tb:=rK ht;rw[oZ (y:=((a*2^k:Nat):Int)) (q:=(a:Nat)*d) tw tb (by rw[eb,yGm,yBz,<- yEn,<- yEn,yGy (a:Int) ((2^bl m:Nat):Int)]),xJ,iV,iV,dqT tw,yAk,yAk];rw[yFo y,yFo a,yFu,yFu];by_cases c:k<=t
 ·rw[hy (t-k) ()]
 ·rw[dqF (show ¬ t ≥ k from c)];rfl
section
variable {m:Nat}{Fs:List Ft}{P:List (Option Nat)}{z:Nat->Nat}{ns ws W:List Nat}
def pl2{P:List (Option Nat)}(h:↑P=2)(h0:pg P 0=qq p)(h1:pg P 1=qq q):P=[qq p,qq q]:=by
 rcases P with _|⟨a,_|⟨b,_|⟨x,l⟩⟩⟩
 ·cases h
 ·cases h
 ·have h0:a=qq p:=h0;have h1:b=qq q:=h1;rw[h0,h1]
 ·simp at h
def tH{x:Option Nat}(h:x≠qz):∃ q,x=qq q:=by
 cases x with
 |none=>exact absurd rfl h|some q=>exact⟨q,rfl⟩
def nSw:Wd->Bool
 |.mul|.add|.sub=>false
 |_=>true
def aCf(h:nSw wd=true):wd≠.mul/\wd≠.add/\wd≠.sub:=by refine⟨?_,?_,?_⟩<;>(intro e;rw[e] at h;cases h)
def aLB(h:RwOk r ws):(∃ (s:Sw) (w x y:Nat),r=⟨s.wd,w,[x,y]⟩/\ws=[w,w]/\w<=64)\/(r.wd≠.mul/\r.wd≠.add/\r.wd≠.sub):=by
 cases h with
 |sm _ h2=>exact .inl ⟨_,_,_,_,rfl,rfl,h2⟩
 |bw _ _ aG=>erw[50,aG]<;>exact .inr (aCf rfl)
 |cmp _ _ aG=>erw[50,aG]<;>exact .inr (aCf rfl)
 |sh _ _ aG=>erw[50,aG]<;>exact .inr (aCf rfl)
 |_=>exact .inr (aCf rfl)
def aMF{a b c k i:Nat}(h:c<=k)(hi:i<a-k):i<a-min b c:=xAb hi (yEm (xAh (yCa _ _) h) _)
def aL6(h:c<=k)(k1:k<a):0<a-min b c:=Nat.sub_pos_of_lt (xAi (xAh (yCa _ _) h) k1)
def aVD(h:RwOk r ws)(lt:iK ws ns)(h0:m≠0)(hm:m<2^r.w)(lF:↑Fs=aM r.wd)(hP:↑P=aM r.wd)(fs:lB (Fs.map cR) ns)(ag:sL r.wd r.w (dH r) ws Fs m P z ns)(nn:∀ c,(aO r.wd r.w (dH r) ws (Fs.map cR) m).getD c 0≠0->pg P c≠qz)(e:mJ r m Fs P=qq l) :
 ∃ s:Sw,r.wd=s.wd/\((∃ q0 q1,P=[qq q0,qq q1]/\((s=.add/\l=gU ⟨.or,r.w,[q0,q1]⟩/\∀ t,m[t]! =true->(z q0|||z q1)[t]! =(cD r ws ns)[t]!)\/(s=.sub/\l=gU ⟨.xor,r.w,[q0,q1]⟩/\∀ t,m[t]! =true->(z q0^^^z q1)[t]! =(cD r ws ns)[t]!))) \/
  (∃ c q k,pg P c=qq q/\c<2/\k<64/\l=gU ⟨.left,r.w,[q,k]⟩/\∀ t,m[t]! =true->(z q*2^k%2^r.w)[t]! =(cD r ws ns)[t]!)):=by
 rcases aLB h with ⟨s,w,x,y,rfl,rfl,h2⟩|⟨n1,n2,n3⟩
 ·clear h;unfold mJ at e;let(a,b,rfl,ha,hb):=gP lt;have lF:↑Fs=2:=by cases s<;>exact lF
  have hP:↑P=2:=by cases s<;>exact hP
  let(f,g,rfl):=aKm lF;have hf:iO f a:=xB (c:=0) fs rfl;have hg:iO g b:=xB (c:=1) fs rfl;refine⟨s,rfl,?_⟩;have both:(s=.add\/s=.sub)->∃ q0 q1,P=[qq q0,qq q1]/\(∀ t,t<bl m->(z q0)[t]! =a[t]!)/\∀ t,t<bl m->(z q1)[t]! =b[t]!:=λ hs=>by
   have nd:aO s.wd w (dH ⟨s.wd,w,[x,y]⟩) [w,w] ([f,g].map cR) m=[2^bl m-1,2^bl m-1]:=by rcases hs with rfl|rfl<;>exact if_neg h0
   have nn:∀ c,(aO s.wd w (dH ⟨s.wd,w,[x,y]⟩) [w,w] ([f,g].map cR) m).getD c 0≠0->pg P c≠qz:=nn;have ag:∀ c q,pg P c=qq q->∀ t,((aO s.wd w (dH ⟨s.wd,w,[x,y]⟩) [w,w] ([f,g].map cR) m).getD c 0)[t]! =true->(z q)[t]! =(g0 [a,b] c)[t]!:=ag;rw[nd] at nn ag;let(q0,e0):=tH (nn 0 (nG h0));let(q1,e1):=tH (nn 1 (nG h0));exact⟨q0,q1,pl2 hP e0 e1,λ t ht=>ag 0 q0 e0 t (dW ht),λ t ht=>ag 1 q1 e1 t (dW ht)⟩
  cases s with
  |add=>
    have e:(if Wd.add=.add/\bJ (2^bl m-1) (f.N|||g.N)=0 then qq (.s .or :: .n w::P.map jA) else if _/\_ then _ else qz)=qq l:=e;by_cases c:bJ (2^bl m-1) (f.N|||g.N)=0
    ·rw[if_pos ⟨rfl,c⟩] at e;cases e;let(q0,q1,rfl,z0,z1):=both (.inl rfl);refine .inl ⟨q0,q1,rfl,.inl ⟨rfl,rfl,λ t ht=>?_⟩⟩;have tw:=nV hm ht;have tb:=rK ht;let(q,eq):=@aTt (bl m) a b λ i hi=>by
      have:=iQ (iI c) (dW hi);rw[xAo,yBw] at this;rcases this with k|k
      ·exact .inl ((hf i).1 k)
      ·exact .inr ((hg i).1 k)
     show _=(rs ((a:Nat)+(b:Nat):Int) w)[t]!;rw[oZ tw tb eq,xJ,iV,xAo,xAo,iV,iV,dqT tw,dqT tb,z0 t tb,z1 t tb];rfl
    ·rw[if_neg (λ k=>c k.2),if_neg (λ k=>by cases k.1)] at e;cases e
  |sub=>
    rw[if_neg (by intro h;cases h),if_neg (λ k=>by cases k.1)] at e;have e:(if Wd.sub=.sub/\bJ (2^bl m-1) (g.N|||f.O)=0 then qq (.s .xor :: .n w::P.map jA) else qz)=qq l:=e;by_cases c:bJ (2^bl m-1) (g.N|||f.O)=0
    ·rw[if_pos ⟨rfl,c⟩] at e;cases e;let(q0,q1,rfl,z0,z1):=both (.inr rfl);refine .inl ⟨q0,q1,rfl,.inr ⟨rfl,rfl,λ t ht=>?_⟩⟩;have tw:=nV hm ht;have tb:=rK ht;let(q,eq):=@aSL (bl m) a b λ i hi bi=>by
      have:=iQ (iI c) (dW hi);rw[xAo,yBw] at this;rcases this with k|k
      ·rw[(hg i).1 k] at bi;cases bi
      ·exact(hf i).2 k
     show _=(rs ((a:Nat)-(b:Nat):Int) w)[t]!;rw[oZ tw tb eq,xJ,iV,yAl,yAl,iV,iV,dqT tw,dqT tb,z0 t tb,z1 t tb];rfl
    ·rw[if_neg (λ k=>c k.2)] at e;cases e
  |mul=>
    have e:zX ⟨.mul,w,[x,y]⟩ (2^bl m-1) [f,g] P=qq l:=e;have nd:aO .mul w (dH ⟨.mul,w,[x,y]⟩) [w,w] ([f,g].map cR) m=[2^(bl m-min (bl m) (lr g.N))-1,2^(bl m-min (bl m-min (bl m) (lr g.N)) (lr f.N))-1]:=if_neg h0;have nn:∀ c,(aO .mul w (dH ⟨.mul,w,[x,y]⟩) [w,w] ([f,g].map cR) m).getD c 0≠0->pg P c≠qz:=nn;have ag:∀ c q,pg P c=qq q->∀ t,((aO .mul w (dH ⟨.mul,w,[x,y]⟩) [w,w] ([f,g].map cR) m).getD c 0)[t]! =true->(z q)[t]! =(g0 [a,b] c)[t]!:=ag;rw[nd] at nn ag;have bw:bl m<=w:=pP hm;right;unfold zX at e;cases s1:eG g (2^bl m-1) with
    |some k=>
      have s1':eG (f0 [f,g] 1) (2^bl m-1)=qq k:=s1;rw[s1'] at e;have e:qq (mQ ⟨.mul,w,[x,y]⟩ (pg P 0) k)=qq l:=e;let(k1,o,_):=xE hg s1;have lk:=aK3 (rT hg o);let(q,eq):=tH (nn 0 (@jR 0 _ (dW (aL6 lk k1))));rw[eq] at e;cases e;exact⟨0,q,k,eq,by decide,xAb k1 (xAh bw h2),rfl,λ t ht=>aHZ hm ha hg s1 (λ i hi=>ag 0 q eq i (dW (aMF lk hi))) ht⟩
    |none=>
      have s1':eG (f0 [f,g] 1) (2^bl m-1)=qz:=s1;rw[s1'] at e;cases s2:eG f (2^bl m-1) with
      |some k=>
        have s2':eG (f0 [f,g] 0) (2^bl m-1)=qq k:=s2;have e:(match eG (f0 [f,g] 0) (2^bl m-1) with|some k=>qq (mQ ⟨.mul,w,[x,y]⟩ (pg P 1) k)|none=>qz)=qq l:=e;rw[s2'] at e;have e:qq (mQ ⟨.mul,w,[x,y]⟩ (pg P 1) k)=qq l:=e;let(k1,o,_):=xE hf s2;have lk:=aK3 (rT hf o);let(q,eq):=tH (nn 1 (@jR 0 _ (dW (aL6 lk k1))));rw[eq] at e;cases e;refine⟨1,q,k,eq,by decide,xAb k1 (xAh bw h2),rfl,λ t ht=>?_⟩;rw[aHZ (y:=z q) hm hb hf s2 (λ i hi=>ag 1 q eq i (dW (aMF lk hi))) ht,yGy];rfl
      |none=>
        have s2':eG (f0 [f,g] 0) (2^bl m-1)=qz:=s2;have e:(match eG (f0 [f,g] 0) (2^bl m-1) with|some k=>qq (mQ ⟨.mul,w,[x,y]⟩ (pg P 1) k)|none=>qz)=qq l:=e;rw[s2'] at e;cases e
 ·unfold mJ at e;rw[if_neg n1,if_neg (λ q=>n2 q.1),if_neg (λ q=>n3 q.1)] at e;cases e
end
def dG(r:Rw):Bool:=decide (r.wd=.in)
def aD3:∀ l:List Rw,hU l=↑(l.filter dG)
 |[]=>rfl
 |r::l=>by
   rw[aHN,aD3 l,yCb];unfold dG;by_cases c:r.wd=.in
   ·rw[if_pos c,dqT c];rfl
   ·rw[if_neg c,dqF c];rfl
noncomputable abbrev wQ(l:List Rw):List Nat:=l.map (·.w)
def kI(W:List Nat)(l:List Rw):Nat:=(l.map (dQ W)).sum
def aDf(W:List Nat)(l:List Rw)(r:Rw):kI W (l++[r])=kI W l+dQ W r:=by unfold kI;rw[yAw,List.sum_append];simp
def aGZ{W V:List Nat}{r q:Rw}(h1:q.wd=r.wd)(h2:q.w=r.w)(h:(r.wd=.same\/r.wd=.less\/r.wd=.under)->V.getD (q.args.getD 0 0) 0=W.getD (r.args.getD 0 0) 0):dQ V q=dQ W r:=by
 unfold dQ;rw[h1,h2];by_cases c:r.wd=.same\/r.wd=.less\/r.wd=.under
 ·rw[h c]
 ·rw[if_neg c,if_neg c]
def aDE{W:List Nat}(h:cN W r):dQ (W++X) r=dQ W r:=aGZ rfl rfl λ c=>by
 let(a,l,v,e1,e2):=aG3 h c;rw[e1];show(W++X).getD a 0=W.getD a 0;rw[xAg,xAg,xAm (gIm e2).1]
def aIK{W:List Nat}:∀ {l:List Rw}{ws:List Nat},bS ws l->W=ws++wQ l->kI (W++X) l=kI W l
 |[],_,_,_=>rfl
 |r::l,ws,⟨h1,h2⟩,e=>by
   have ih:=@aIK X W _ _ h2 (by rw[e];simp);have e0:W=ws++(wQ (r::l)):=e;show(dQ (W++X) r+kI (W++X) l)=dQ W r+kI W l;rw[ih,e0,yBq,aDE h1,aDE h1]
def aBJ{rs:List Rw}(hr:rs[j]?=qq r):rs.take (j+1)=rs.take j++[r]:=by rw[List.take_succ,hr];rfl
structure Tv(rs:List Rw)(F:List Ft)(M:List Nat)(j:Nat)(Q:List Rw):Prop where
 R:(bK rs F M j).R=Q.map gU
 ok:bS [] Q
 le:↑Q<=j
 ins:Q.filter dG=(rs.take j).filter dG
 pr:kI (wQ Q) Q<=kI (wQ rs) (rs.take j)
 bd:∀ is,bV rs is->∀ q v,(wQ Q)[q]?=qq v->g0 (rn Q is) q<2^v
 pl:∀ (k:Nat) (r:Rw),k<j->rs[k]?=qq r->(M.getD k 0≠0\/r.wd=.in)->∃ q,pg (bK rs F M j).P k=qq q/\(wQ Q)[q]?=qq r.w/\∀ is,bV rs is->∀ t,(M.getD k 0)[t]! =true->(g0 (rn Q is) q)[t]! =(g0 (rn rs is) k)[t]!
 wd:∀ (k:Nat) (r:Rw) (q:Nat),k<j->rs[k]?=qq r->pg (bK rs F M j).P k=qq q->(wQ Q)[q]?=qq r.w
def aKP{rs:List Rw}(p:Prg rs)(hi:bV rs is)(hr:rs[j]?=qq r):g0 (rn rs is) j<2^r.w:=by have hj:=(gIm hr).1;exact aBj p hi (iR (by rw[lX];exact hj)) (by rw[yAc,hr];rfl)
def rN(h:l[a]?=qq v):g0 l a=v:=by show l.getD a 0=v;rw[xAg,h];rfl
def aLb{Q:List Rw}(p:Prg Q){a v:Nat}(h:(wQ Q)[a]?=qq v):1<=v/\v<=64:=aJk p h
def aR3(p:Prg Q)(h:cN (wQ Q) r):RwOk r (aT r (wQ Q))/\∀ a∈r.args.take (aM r.wd),a<↑(wQ Q):=
 aIp (λ a v e=>⟨rN e,(aLb p e).1,(aLb p e).2,(gIm e).1⟩) h
def rB{rs:List Rw}(p:Prg rs)(h:Tv rs F M j Q)(hr:rs[j]?=qq r)(et:kL rs F M j r (bK rs F M j).P=t)(em:t.md=qq (gU r'))(ok:cN (wQ Q) r')(ew:r'.w=r.w)(ei:dG r'=dG r)(e0:r.wd=.in->r'=r)(ep:dQ (wQ Q) r'<=dQ (wQ rs) r)(ev:r.wd≠.in->∀ is,bV rs is->∀ t,(M.getD j 0)[t]! =true->(mR Q is r')[t]! =(g0 (rn rs is) j)[t]!):Tv rs F M (j+1) (Q++[r']):=by
 have hj:=(gIm hr).1;have hl:=p.l;have le:=h.le;have pq:=xR h.ok ();let(rk,la):=aR3 pq ok;have la':∀ a∈r'.args.take (aM r'.wd),a<↑Q:=λ a ha=>by have:=la a ha;rw[yAb] at this;exact this
 have sn:=aRy pq.fit la';have S1:bK rs F M (j+1)=⟨(bK rs F M j).R++[gU r'],(bK rs F M j).P++[qq ↑(bK rs F M j).R],(bK rs F M j).V++[t.v]⟩:=by
  rw[wL hr,et];unfold jL;rw[em]
 have lR:↑(bK rs F M j).R=↑Q:=by rw[h.R,yAb]
 have lP:↑(bK rs F M j).P=j:=(@pI F M _ j ()).p;have e1:wQ (Q++[r'])=wQ Q++[r.w]:=by
  show(Q++[r']).map (·.w)=_;rw[yAw];simp[ew]
 have vin:∀ is,bV rs is->r.wd=.in->mR Q is r'=g0 (rn rs is) j:=λ is hi c=>by
  rw[e0 c];unfold mR;rw[if_pos c,aUh hr c,aD3,aD3,h.ins]
 have vlt:∀ is,bV rs is->mR Q is r'<2^r.w:=λ is hi=>by
  by_cases c:r.wd=.in
  ·rw[vin is hi c];exact aKP p hi hr
  ·have c':r'.wd≠.in:=λ z=>by
    have:dG r=true:=by rw[<- ei];exact dqT z
    exact c (oqT this)
   unfold mR;rw[if_neg c',<- ew];refine aEt rk ?_;refine tK (λ i a w h1 h2=>?_) _ λ a ha=>⟨by rw[lX];exact la' a ha,la a ha⟩
   have:=h.bd is hi i w h2;have e:g0 (rn Q is) i=a:=by
    show(rn Q is).getD i 0=a;rw[xAg,h1];rfl
   rw[e] at this;exact this
 refine⟨?_,vN h.ok (by rw[yDp];exact ok),by simp;omega,?_,?_,λ is hi q v hv=>?_,λ k rk' hk hrk hM=>?_,λ k rk' q hk hrk hq=>?_⟩
 ·rw[S1,h.R,yAw];rfl
 ·rw[yFv,h.ins,aBJ hr,yFv];congr 1;by_cases c:r.wd=.in
  ·rw[e0 c]
  ·have z:dG r=false:=dqF c;rw[yCb,yCb,ei,z];rfl
 ·rw[e1,aDf,aBJ hr,aDf,aIK (W:=wQ Q) h.ok rfl,aDE ok];exact Nat.add_le_add h.pr ep
 ·rw[e1] at hv;rw[sn];by_cases c:q<↑Q
  ·rw[xAm (by rw[yAb];exact c)] at hv;rw[aKk (by rw[lX];exact c)];exact h.bd is hi q v hv
  ·have hq:q=↑Q:=by
    have:=(gIm hv).1;simp at this;omega
   rw[hq,yAf (by simp)] at hv;have hv:r.w=v:=by simpa using hv
   rw[<- hv,hq,<- lX Q is,aKJ];exact vlt is hi
 ·rw[S1];by_cases c:k<j
  ·let(q,h1,h2,h3):=h.pl k rk' c hrk hM;have hq:q<↑Q:=by have:=(gIm h2).1;rw[yAb] at this;exact this
   refine⟨q,by rw[<- h1];exact aBt (by rw[lP];exact c),by rw[e1,xAm (by rw[yAb];exact hq)];exact h2,λ is hi t ht=>?_⟩;rw[sn,aKk (by rw[lX];exact hq)];exact h3 is hi t ht
  ·have ck:k=j:=();subst ck;rw[hr] at hrk;cases hrk;refine⟨↑Q,?_,by rw[e1,yAf (by simp)];simp,λ is hi t ht=>?_⟩
   ·have:=aBm (bK rs F M k).P (qq ↑(bK rs F M k).R);rw[lP,lR] at this;rw[lR];exact this
   ·rw[sn,<- lX Q is,aKJ];by_cases c:r.wd=.in
    ·rw[vin is hi c]
    ·exact ev c is hi t ht
 ·rw[S1] at hq;rw[e1];by_cases c:k<j
  ·have hq:pg (bK rs F M j).P k=qq q:=by rw[<- hq];exact(aBt (by rw[lP];exact c)).symm
   have h2:=h.wd k rk' q c hrk hq;rw[xAm (gIm h2).1];exact h2
  ·have ck:k=j:=();subst ck;rw[hr] at hrk;cases hrk;have e:=aBm (bK rs F M k).P (qq ↑(bK rs F M k).R);rw[lP] at e;have hq:qq ↑(bK rs F M k).R=qq q:=e.symm.trans hq;cases hq;rw[lR,yAf (by simp)];simp
def aJU{rs:List Rw}(p:Prg rs)(h:Tv rs F M j Q)(hr:rs[j]?=qq r)(et:kL rs F M j r (bK rs F M j).P=t)(em:t.md=qz)(ni:r.wd≠.in)(eg:M.getD j 0=0->t.pl=qz)(ev:M.getD j 0≠0->∃ q,t.pl=qq q/\(wQ Q)[q]?=qq r.w/\∀ is,bV rs is->∀ t,(M.getD j 0)[t]! =true->(g0 (rn Q is) q)[t]! =(g0 (rn rs is) j)[t]!):Tv rs F M (j+1) Q:=by
 have hj:=(gIm hr).1;have S1:bK rs F M (j+1)=⟨(bK rs F M j).R,(bK rs F M j).P++[t.pl],(bK rs F M j).V++[t.v]⟩:=by
  rw[wL hr,et];unfold jL;rw[em]
 have lP:↑(bK rs F M j).P=j:=(@pI F M _ j ()).p;have le:=h.le;refine⟨by rw[S1];exact h.R,h.ok,by omega,?_,?_,h.bd,λ k rk hk hrk hM=>?_,λ k rk q hk hrk hq=>?_⟩
 ·rw[h.ins,aBJ hr,yFv,yCb,show dG r=false from dqF ni];simp
 ·rw[aBJ hr,aDf];exact xAh h.pr (yEp _ _)
 ·rw[S1];by_cases c:k<j
  ·let(q,h1,h2,h3):=h.pl k rk c hrk hM;exact⟨q,by rw[<- h1];exact aBt (by rw[lP];exact c),h2,h3⟩
  ·have ck:k=j:=();subst ck;rw[hr] at hrk;cases hrk;let(q,h1,h2,h3):=ev (hM.resolve_right ni);refine⟨q,?_,h2,h3⟩;have:=aBm (bK rs F M k).P t.pl;rw[lP] at this;rw[<- h1];exact this
 ·rw[S1] at hq;by_cases c:k<j
  ·exact h.wd k rk q c hrk (by rw[<- hq];exact(aBt (by rw[lP];exact c)).symm)
  ·have ck:k=j:=();subst ck;rw[hr] at hrk;cases hrk;have e:=aBm (bK rs F M k).P t.pl;rw[lP] at e;have hq:t.pl=qq q:=e.symm.trans hq;by_cases z:M.getD k 0=0
   ·rw[eg z] at hq;cases hq
   ·let(q',h1,h2,_):=ev z;rw[h1] at hq;cases hq;exact h2
def aHB{rs:List Rw}{F:List Ft}{is:List Nat}(p:Prg rs)(s:Snd rs F)(hF:↑F=↑rs)(hi:bV rs is){k:Nat}{r:Rw}(hr:rs[k]?=qq r):lB (fY r F) (aT r (cI rs (~~~rs) is [])):=λ c i=>by
 let(f1,f2):=p.fit k r hr;have hk:k<↑rs:=(gIm hr).1;unfold fY cE aT g0;rw[yBh,xAg,xAg,yAc,yAc];cases e:(r.args.take (aM r.wd))[c]? with
 |none=>exact⟨λ z=>absurd z (by rw[show((Option.map _ qz:Option Fc).getD default).N=0 from rfl,yAq];decide),λ z=>absurd z (by rw[show((Option.map _ qz:Option Fc).getD default).O=0 from rfl,yAq];decide)⟩
 |some a=>
   have ha:=f2 a (xAk e);have hw:=@iR a (rs.map (·.w)) (by rw[yAb];omega);have hn:=@iR a (cI rs (~~~rs) is []) (by rw[aBa p hi];omega);let(h1,h2,_):=s.hold is hi a _ _ _ (nL ()) hw hn;exact⟨h1 i,h2 i⟩
abbrev sQ(rs:List Rw)(F:List Ft)(M:List Nat):Prop:=∀ (j:Nat) (r:Rw),rs[j]?=qq r->∀ q∈eK rs F r (M.getD j 0),Sb q.2 (M.getD q.1 0)
def aLs(P:List (Option Nat))(c:Nat):pg (cM r P) c=match (r.args.take (aM r.wd))[c]? with|some a=>pg P a|none=>qz:=by show((r.args.take (aM r.wd)).map (pg P)).getD c qz=_;rw[xAg,yAc];cases (r.args.take (aM r.wd))[c]? <;> rfl
def aEG{r:Rw}(l:List Nat)(h:(r.args.take (aM r.wd))[c]?=qq a):g0 (aT r l) c=g0 l a:=by show((r.args.take (aM r.wd)).map (g0 l)).getD c 0=_;rw[xAg,yAc,h];rfl
def aYo{rs:List Rw}{M:List Nat}(h:(eB rs F r (M.getD j 0)).getD c 0≠0)(la:↑(r.args.take (aM r.wd))=aM r.wd):∃ a,(r.args.take (aM r.wd))[c]?=qq a/\(a,(eB rs F r (M.getD j 0)).getD c 0)∈eK rs F r (M.getD j 0):=by
 have hcl:c<aM r.wd:=by
  apply Decidable.byContradiction;intro z;apply h;rw[xAg,yBn (by unfold eB;rw[wE];omega)];rfl
 have ha:(r.args.take (aM r.wd))[c]?=qq (r.args.take (aM r.wd))[c]:=yAa ();refine⟨_,ha,xAk (i:=c) ?_⟩;unfold eK uX;rw[yFf];exact⟨ha,aDK (by unfold eB;rw[wE];omega)⟩
def aEH{rs:List Rw}(p:Prg rs)(h:Tv rs F M j Q)(hr:rs[j]?=qq r)(met:sQ rs F M)(h0:(eB rs F r (M.getD j 0)).getD c 0≠0):∃ q,pg (cM r (bK rs F M j).P) c=qq q/\∀ is,bV rs is->∀ t,((eB rs F r (M.getD j 0)).getD c 0)[t]! =true->(g0 (rn Q is) q)[t]! =(g0 (aT r (rn rs is)) c)[t]!:=by let(a,ha,hm):=aYo h0 (pV p hr);have sb:=met j r hr _ hm;have haj:=(p.fit j r hr).2 a (xAk ha);have hj:=(gIm hr).1;let(q,h1,_,h3):=h.pl a rs[a] haj (yAa ()) (.inl (jR (sb _ (nH h0))));refine⟨q,by rw[aLs,ha];exact h1,λ is hi t ht=>?_⟩;rw[aEG _ ha];exact h3 is hi t (sb t ht)
def aUJ{rs:List Rw}(p:Prg rs)(h:Tv rs F M j Q)(hr:rs[j]?=qq r)(met:sQ rs F M)(hi:bV rs is):sL r.wd r.w (dH r) (aT r (wQ rs)) (cE r F) (M.getD j 0) (cM r (bK rs F M j).P) (g0 (rn Q is)) (aT r (rn rs is)):=λ c q hq t ht=>by
 let(q',h1,h2):=aEH p h hr met (c:=c) (jR ht);rw[hq] at h1;cases h1;exact h2 is hi t ht
def aLt{rs:List Rw}(p:Prg rs)(h:Tv rs F M j Q)(hr:rs[j]?=qq r)(met:sQ rs F M)(c:Nat)(h0:(eB rs F r (M.getD j 0)).getD c 0≠0):pg (cM r (bK rs F M j).P) c≠qz:=by let(q',h1,_):=aEH p h hr met h0;rw[h1];exact Option.some_ne_none _
def aEY{rs:List Rw}(p:Prg rs)(h:Tv rs F M j Q)(hr:rs[j]?=qq r)(hq:pg (cM r (bK rs F M j).P) c=qq q):(wQ Q)[q]?=qq (g0 (aT r (wQ rs)) c):=by
 rw[aLs] at hq;cases ha:(r.args.take (aM r.wd))[c]? with
 |none=>rw[ha] at hq;cases hq
 |some a=>
   rw[ha] at hq;have haj:=(p.fit j r hr).2 a (xAk ha);have hj:=(gIm hr).1;have e:=h.wd a rs[a] q haj (yAa ()) hq;rw[aEG _ ha,e,rY (yAa ())]
def aBh{rs:List Rw}{j:Nat}{r:Rw}(p:Prg rs){is:List Nat}(hi:bV rs is)(hr:rs[j]?=qq r):iK (aT r (wQ rs)) (aT r (rn rs is)):=by
 have hj:=(gIm hr).1;exact tK (λ i a w h1 h2=>aBj p hi h1 h2) _ λ a ha=>by
  have:=(p.fit j r hr).2 a ha;exact⟨by rw[lX];omega,by rw[yAb];omega⟩
def aHF:∀ {P:List (Option Nat)},(∀ c,c<↑P->pg P c≠qz)->∃ qs:List Nat,P=qs.map qq
 |[],_=>⟨[],rfl⟩
 |x::P,h=>by
   let(q,e):=tH (h 0 (Nat.succ_pos _));have e:x=qq q:=e;let(qs,e2):=@aHF P λ c hc=>h (c+1) (Nat.succ_lt_succ hc)
   exact⟨q::qs,by rw[e,e2];rfl⟩
def pB{rs:List Rw}(p:Prg rs)(hr:rs[j]?=qq r)(ni:r.wd≠.in)(is:List Nat):g0 (rn rs is) j=cD r (aT r (wQ rs)) (aT r (rn rs is)):=rN (aKr p.fit is hr ni)
def aD8{W qs:List Nat}(hq:qs.map (g0 W)=v::ws)(hl:∀ q∈qs,q<↑W):∃ a l,qs=a::l/\W[a]?=qq v/\l.map (g0 W)=ws/\∀ q∈l,q<↑W:=by let(a,l,rfl,e,e2):=List.map_eq_cons_iff.mp hq;exact⟨a,l,rfl,by rw[iR (hl a xAc),e],e2,λ q m=>hl q (xAf _ m)⟩
def vA{W qs:List Nat}(hq:qs.map (g0 W)=[v])(hl:∀ q∈qs,q<↑W):∃ a,qs=[a]/\W[a]?=qq v:=by let(a,l,rfl,e,e2,_):=aD8 hq hl;cases List.map_eq_nil_iff.mp e2;exact⟨a,rfl,e⟩
def q_2{W qs:List Nat}(hq:qs.map (g0 W)=[v,u])(hl:∀ q∈qs,q<↑W):∃ a b,qs=[a,b]/\W[a]?=qq v/\W[b]?=qq u:=by let(a,l,rfl,e,e2,h2):=aD8 hq hl;let(b,rfl,e3):=vA e2 h2;exact⟨a,b,rfl,e,e3⟩
def nCm:Wd->Bool
 |.same|.less|.under=>false
 |_=>true
def mO{wd:Wd}{p:Prop}(h:nCm wd=true)(q:wd=.same\/wd=.less\/wd=.under):p:=by erw[50,q]<;>cases h
def aTN{W qs:List Nat}(h:RwOk r ws)(hq:qs.map (g0 W)=ws)(hl:∀ q∈qs,q<↑W):cN W ⟨r.wd,r.w,qs++r.args.drop (aM r.wd)⟩/\(∀ W' os,cD ⟨r.wd,r.w,qs++r.args.drop (aM r.wd)⟩ W' os=cD r W' os)/\(r.wd=.same\/r.wd=.less\/r.wd=.under->W.getD (qs.getD 0 0) 0=g0 ws 0):=by
 cases h with
 |inp h1 h2=>
   cases List.map_eq_nil_iff.mp hq;exact⟨⟨h1,h2,trivial⟩,λ _ _=>rfl,mO rfl⟩
 |num h1 h2 hn=>
   cases List.map_eq_nil_iff.mp hq;exact⟨⟨h1,h2,hn⟩,λ _ _=>rfl,mO rfl⟩
 |nt h1 h2=>
   let(a,rfl,ea):=vA hq hl;exact⟨⟨h1,h2,ea⟩,λ _ _=>rfl,mO rfl⟩
 |sh h1 h2 aG hk=>
   let(a,rfl,ea):=vA hq hl;erw[50,aG]<;>exact⟨⟨h1,h2,ea,hk⟩,λ _ _=>rfl,mO rfl⟩
 |cut h1 hv h2=>
   let(a,rfl,ea):=vA hq hl;exact⟨⟨h1,xAh hv h2,_,ea,hv⟩,λ _ _=>rfl,mO rfl⟩
 |wide h1 hv h2=>
   let(a,rfl,ea):=vA hq hl;exact⟨⟨xAh h1 hv,h2,_,ea,hv⟩,λ _ _=>rfl,mO rfl⟩
 |sign h1 hv h2=>
   let(a,rfl,ea):=vA hq hl;exact⟨⟨xAh h1 hv,h2,_,ea,hv⟩,λ _ _=>rfl,mO rfl⟩
 |bw h1 h2 aG=>
   let(a,b,rfl,ea,eb):=q_2 hq hl;erw[50,aG]<;>exact⟨⟨h1,h2,ea,eb⟩,λ _ _=>rfl,mO rfl⟩
 |sm h1 h2=>
   rename_i s w x y;let(a,b,rfl,ea,eb):=q_2 hq hl;cases s<;>exact⟨⟨h1,h2,ea,eb⟩,λ _ _=>rfl,mO rfl⟩
 |cmp h1 h2 aG=>
   let(a,b,rfl,ea,eb):=q_2 hq hl;have e1:g0 W a=_:=List.head_eq_of_cons_eq hq;erw[50,aG]<;>exact⟨⟨yAd 1,(show(1:Nat)<=64 by decide),rfl,_,ea,eb⟩,λ _ _=>rfl,λ _=>e1⟩
 |pick h1 h2=>
   let(c,l,rfl,ec,e2,hl2):=aD8 hq hl;let(a,b,rfl,ea,eb):=q_2 e2 hl2;exact⟨⟨h1,h2,ec,ea,eb⟩,λ _ _=>rfl,mO rfl⟩
def aI4{qs:List Nat}(h:↑qs=n):(qs++l).take n=qs:=List.take_left' h
def aRu{rs:List Rw}(p:Prg rs)(sd:Snd rs F)(hF:↑F=↑rs)(hb:Bd rs M)(h:Tv rs F M j Q)(hr:rs[j]?=qq r)(met:sQ rs F M)(ni:r.wd≠.in)(nz:M.getD j 0≠0)(al:∀ c,c<aM r.wd->(eB rs F r (M.getD j 0)).getD c 0≠0):∃ r':Rw,uS r (cM r (bK rs F M j).P)=gU r'/\cN (wQ Q) r'/\r'.w=r.w/\r'.wd=r.wd/\dQ (wQ Q) r'<=dQ (wQ rs) r/\∀ is,bV rs is->∀ t,(M.getD j 0)[t]! =true->(mR Q is r')[t]! =(g0 (rn rs is) j)[t]!:=by
 let(f1,f2):=p.fit j r hr;let(w1,w2):=rR f1;have hl:=p.l;have hj:=(gIm hr).1;have le:=h.le;have lP:=aA4 p hr (bK rs F M j).P;have nn:=aLt p h hr met;let(qs,eq):=@aHF (cM r (bK rs F M j).P) λ c hc=>nn c (al c ())
 have lq:↑qs=aM r.wd:=by rw[<- lP,eq,yAb]
 have pq:∀ c,c<↑qs->pg (cM r (bK rs F M j).P) c=qq (g0 qs c):=λ c hc=>by
  rw[eq];show(qs.map qq).getD c qz=qq (qs.getD c 0);rw[xAg,xAg,yAc,yAa hc];rfl
 have wq:∀ c,c<↑qs->(wQ Q)[g0 qs c]?=qq (g0 (aT r (wQ rs)) c):=λ c hc=>aEY p h hr (pq c hc)
 have lw:↑(aT r (wQ rs))=aM r.wd:=by unfold aT;rw[yAb];exact pV p hr
 have hq:qs.map (g0 (wQ Q))=aT r (wQ rs):=by
  apply List.ext_getElem?;intro c;rw[yAc];by_cases hc:c<↑qs
  ·rw[iR hc,iR (l:=aT r (wQ rs)) ()];show qq (g0 (wQ Q) (g0 qs c))=_;rw[rN (wq c hc)]
  ·rw[yBn (),yBn ()];rfl
 have hlt:∀ q∈qs,q<↑(wQ Q):=λ q m=>by
  let(c,hc):=yDy m;have hc':=(gIm hc).1;have:=wq c hc';rw[rN hc] at this;exact(gIm this).1
 let(ok,ev,pc):=aTN f1 hq hlt;refine⟨⟨r.wd,r.w,qs++r.args.drop (aM r.wd)⟩,?_,ok,rfl,rfl,?_,λ is hi t ht=>?_⟩
 ·unfold uS gU;rw[eq,yAb,lq,yAw,yBh];rfl
 ·refine yHw (aGZ rfl rfl λ q=>?_);have c:aM r.wd=2:=by rcases q with q|q|q<;>rw[q]<;>rfl
  have q0:0<↑qs:=by rw[lq,c];decide
  have e:=pc q;have e1:(qs++r.args.drop (aM r.wd)).getD 0 0=qs.getD 0 0:=by rw[xAg,xAm q0,<- xAg]
  have e2:g0 (aT r (wQ rs)) 0=(wQ rs).getD (r.args.getD 0 0) 0:=by
   have ha:(r.args.take (aM r.wd))[0]?=qq (r.args.getD 0 0):=by
    rw[yDa (by rw[c];decide),xAg];have:0<↑r.args:=by
     have:=pV p hr;rw[yBk,c] at this;have:min 2 ↑r.args=2:=this;omega
    rw[yAa this];rfl
   exact aEG _ ha
  show(wQ Q).getD ((qs++r.args.drop (aM r.wd)).getD 0 0) 0=_;rw[e1,e,e2]
 ·rw[pB p hr ni is];unfold mR;rw[if_neg ni,ev];have o1:aT ⟨r.wd,r.w,qs++r.args.drop (aM r.wd)⟩ (wQ Q)=aT r (wQ rs):=by
   show((qs++r.args.drop (aM r.wd)).take (aM r.wd)).map (g0 (wQ Q))=_;rw[aI4 lq,hq]
  have o2:aT ⟨r.wd,r.w,qs++r.args.drop (aM r.wd)⟩ (rn Q is)=qs.map (g0 (rn Q is)):=by
   show((qs++r.args.drop (aM r.wd)).take (aM r.wd)).map (g0 (rn Q is))=_;rw[aI4 lq]
  rw[o1,o2];have lo:iK (aT r (wQ rs)) (qs.map (g0 (rn Q is))):=by
   rw[<- hq];refine tK (λ i a w h1 h2=>?_) _ λ a ha=>⟨by rw[lX];have:=hlt a ha;rw[yAb] at this;exact this,hlt a ha⟩
   have:=h.bd is hi i w h2;rw[rN h1] at this;exact this
  refine aUF (kk:=dH r) (fs:=fY r F) f1 w2 (hb.lt j r hr) ht (aBh p hi hr) lo (aHB p sd hF hi hr) λ c i hc=>?_
  have c0:(eB rs F r (M.getD j 0)).getD c 0≠0:=jR hc;have hcl:c<aM r.wd:=by
   apply Decidable.byContradiction;intro z;apply c0;rw[xAg,yBn (by unfold eB;rw[wE];omega)];rfl
  let(q,h1,h2):=aEH p h hr met c0;rw[pq c ()] at h1;cases h1;rw[<- h2 is hi i hc];have:g0 (qs.map (g0 (rn Q is))) c=g0 (rn Q is) (g0 qs c):=rN (by rw[yAc,iR ()];rfl);rw[this]
def aZV{P:List (Option Nat)}(h:RwOk r ws)(hP:↑P=aM r.wd)(e:fZ r m ws Fs P=qq i):g0 ws i=r.w:=by
 have i2:∀ {b1 b2 b3:Bool},cond b1 (qq 0) (cond b2 (qq 0) (cond b3 (qq 1) qz))=qq i->i=0\/i=1:=λ {b1 b2 b3} e=>by
  cases b1<;>cases b2<;>cases b3<;>first|(cases e;done)|(cases e;exact .inl rfl)|(cases e;exact .inr rfl)
 cases h with
 |inp=>
   have hP:↑P=0:=hP;have e:cond (decide (↑P=2)&&_) _ _=qq i:=e;rw[hP] at e;cases e
 |num=>
   have hP:↑P=0:=hP;have e:cond (decide (↑P=2)&&_) _ _=qq i:=e;rw[hP] at e;cases e
 |nt=>
   have hP:↑P=1:=hP;have e:cond (decide (↑P=2)&&_) _ _=qq i:=e;rw[hP] at e;cases e
 |sh h1 h2 aG hk=>
   rename_i wd w a k;have e':cond (k==0) (qq 0) qz=qq i:=by erw[50,aG]<;>exact e
   cases c:k==0 with
   |false=>rw[c] at e';cases e'
   |true=>
     rw[c] at e';have e':qq 0=qq i:=e';cases e';rfl
 |cut h1 hv h2=>
   rename_i w v a;have e':cond (v==w) (qq 0) qz=qq i:=e;cases c:v==w with
   |false=>rw[c] at e';cases e'
   |true=>
     rw[c] at e';have e':qq 0=qq i:=e';cases e';exact beq_iff_eq.mp c
 |wide h1 hv h2=>
   rename_i w v a;have e':cond (v==w) (qq 0) qz=qq i:=e;cases c:v==w with
   |false=>rw[c] at e';cases e'
   |true=>
     rw[c] at e';have e':qq 0=qq i:=e';cases e';exact beq_iff_eq.mp c
 |sign h1 hv h2=>
   rename_i w v a;have e':cond (v==w) (qq 0) qz=qq i:=e;cases c:v==w with
   |false=>rw[c] at e';cases e'
   |true=>
     rw[c] at e';have e':qq 0=qq i:=e';cases e';exact beq_iff_eq.mp c
 |bw h1 h2 aG=>
   erw[50,aG]<;>(rcases i2 e with rfl|rfl<;>rfl)
 |sm h1 h2=>
   rename_i s w x y;cases s<;>(rcases i2 e with rfl|rfl<;>rfl)
 |cmp h1 h2 aG=>
   have e':cond (decide (↑P=2)&&false) (qq 0) qz=qq i:=by erw[50,aG]<;>exact e
   rw[yBp] at e';cases e'
 |pick h1 h2=>
   have e:jK (f0 Fs 0) P=qq i:=e;unfold jK at e;split at e
   ·cases e;rfl
   ·split at e
    ·cases e;rfl
    ·cases e
def aV3{W:List Nat}(h:RwOk r ws)(c:r.wd=.in):cN W r:=by
 cases h with
 |inp h1 h2=>exact⟨h1,h2,trivial⟩
 |sh h1 h2 aG hk=>erw[50,aG]<;>cases c
 |bw h1 h2 aG=>erw[50,aG]<;>cases c
 |cmp h1 h2 aG=>erw[50,aG]<;>cases c
 |sm h1 h2=>rename_i s w x y;cases s<;>cases c|_=>cases c
def aUR{W:List Nat}(h:RwOk r ws)(c:r.wd=.num):cN W r/\∀ W os,cD r W os=g0 r.args 0:=by
 cases h with
 |num h1 h2 hn=>exact⟨⟨h1,h2,hn⟩,λ _ _=>rfl⟩
 |sh h1 h2 aG hk=>erw[50,aG]<;>cases c
 |bw h1 h2 aG=>erw[50,aG]<;>cases c
 |cmp h1 h2 aG=>erw[50,aG]<;>cases c
 |sm h1 h2=>rename_i s w x y;cases s<;>cases c|_=>cases c
def aYb{s:Sw}(h:RwOk r ws)(es:r.wd=s.wd):ws=[r.w,r.w]:=by
 rcases aLB h with ⟨s,w,x,y,rfl,rfl,_⟩|⟨n1,n2,n3⟩
 ·rfl
 ·cases s
  ·exact absurd es n2
  ·exact absurd es n3
  ·exact absurd es n1
def Kx(rs:List Rw)(F:List Ft):Prop:=∀ (j:Nat) (r:Rw),rs[j]?=qq r->r.wd≠.pick->∀ m,m≠0->m<2^r.w->∀ c,c<aM r.wd->(eB rs F r m).getD c 0=0->bJ m ((f0 F j).N|||(f0 F j).O)=0
def aRP{rs:List Rw}(p:Prg rs)(sd:Snd rs F)(hF:↑F=↑rs)(hb:Bd rs M)(met:sQ rs F M)(kx:Kx rs F)(h:Tv rs F M j Q)(hr:rs[j]?=qq r):∃ Q',Tv rs F M (j+1) Q':=by
 let(f1,f2):=p.fit j r hr;have hj:=(gIm hr).1;have hm:=hb.lt j r hr;have lP:=aA4 p hr (bK rs F M j).P;have lF:↑(cE r F)=aM r.wd:=by unfold cE;rw[yAb];exact pV p hr
 have ln:=@pI F M _ j ();have nn:=aLt p h hr met;let(is0,hi0):=p.ins;have fk:=sd.ok j (f0 F j) r.w (nL ()) (by rw[yAc,hr];rfl);let(w1,w2):=p.ws j r hr;have et:kL rs F M j r (bK rs F M j).P=kE r (f0 F j) (M.getD j 0) (aT r (wQ rs)) (cE r F) (cM r (bK rs F M j).P):=rfl;have zero:∀ (W:List Nat) (wd:Wd) (w:Nat) (l:List Nat),(wd=.in\/wd=.num\/wd=.left)->dQ W ⟨wd,w,l⟩=0:=λ W wd w l q=>by erw[50,q]<;>rfl
 by_cases c1:r.wd=.in
 ·have e:kE r (f0 F j) (M.getD j 0) (aT r (wQ rs)) (cE r F) (cM r (bK rs F M j).P)=⟨.kept,qq (gU r),qz⟩:=if_pos c1;have ok:cN (wQ Q) r:=aV3 f1 c1;exact⟨_,rB p h hr (et.trans e) rfl ok rfl rfl (λ _=>rfl) (by rw[show r=⟨r.wd,r.w,r.args⟩ from rfl,zero _ _ _ _ (.inl c1)];exact yDw _) λ q=>absurd c1 q⟩
 by_cases c2:M.getD j 0=0
 ·have e:kE r (f0 F j) (M.getD j 0) (aT r (wQ rs)) (cE r F) (cM r (bK rs F M j).P)=⟨.gone,qz,qz⟩:=(if_neg c1).trans (if_pos c2);exact⟨Q,aJU p h hr (et.trans e) rfl c1 (λ _=>rfl) λ q=>absurd c2 q⟩
 have hU:dG r=false:=dqF c1;have xQ:∀ {n:Nat},n<2^r.w->cN (wQ Q) ⟨.num,r.w,[n]⟩:=λ q=>⟨w1,w2,q⟩
 by_cases c3:r.wd=.num
 ·have e:kE r (f0 F j) (M.getD j 0) (aT r (wQ rs)) (cE r F) (cM r (bK rs F M j).P)=⟨.kept,qq (gU r),qz⟩:=(if_neg c1).trans ((if_neg c2).trans (if_pos c3));have ok:cN (wQ Q) r/\∀ W os,cD r W os=g0 r.args 0:=aUR f1 c3;refine⟨_,rB p h hr (et.trans e) rfl ok.1 rfl rfl (λ _=>rfl) (by rw[show r=⟨r.wd,r.w,r.args⟩ from rfl,zero _ _ _ _ (.inr (.inl c3))];exact yDw _) λ _ is hi t ht=>?_⟩;rw[pB p hr c1 is,ok.2];unfold mR;rw[if_neg c1,ok.2]
 have e3:kE r (f0 F j) (M.getD j 0) (aT r (wQ rs)) (cE r F) (cM r (bK rs F M j).P)=(match mV r.wd (f0 F j) (M.getD j 0) (cM r (bK rs F M j).P) with
  |some n=>⟨.known,qq (aMq r.w n),qz⟩
  | none=>(match fZ r (M.getD j 0) (aT r (wQ rs)) (cE r F) (cM r (bK rs F M j).P) with
    |some i=>⟨.passed,qz,pg (cM r (bK rs F M j).P) i⟩
    | none=>(match mJ r (M.getD j 0) (cE r F) (cM r (bK rs F M j).P) with
      |some l=>⟨.cheaper,qq l,qz⟩
      | none=>⟨.kept,qq (uS r (cM r (bK rs F M j).P)),qz⟩))):=(if_neg c1).trans ((if_neg c2).trans (if_neg c3))
 have alk:=λ is (hi:bV rs is)=>aUJ p h hr met hi
 have fso:=λ is (hi:bV rs is)=>aHB p sd hF hi hr
 have hol:∀ is,bV rs is->iO (f0 F j) (cD r (aT r (wQ rs)) (aT r (rn rs is))):=λ is hi t=>by
  have:=sd.hold is hi j (f0 F j) r.w (g0 (rn rs is) j) (nL ()) (by rw[yAc,hr];rfl) (iR (by rw[lX];exact hj));rw[pB p hr c1 is] at this;exact⟨this.1 t,this.2.1 t⟩
 cases k1:mV r.wd (f0 F j) (M.getD j 0) (cM r (bK rs F M j).P) with
 |some n=>
   rw[k1] at e3;have kv:=λ is hi=>aUv f1 (aBh p hi hr) c2 hm (hol is hi) fk.lO (alk is hi) nn k1
   refine⟨_,rB p h hr (r':=⟨.num,r.w,[n]⟩) (et.trans e3) rfl (xQ (kv is0 hi0).1) rfl (by rw[hU];rfl) (λ q=>absurd q c1) (by rw[zero _ _ _ _ (.inr (.inl rfl))];exact yDw _) λ _ is hi t ht=>?_⟩;rw[pB p hr c1 is,<- (kv is hi).2 t ht];rfl
 |none=>
   rw[k1] at e3;cases k2:fZ r (M.getD j 0) (aT r (wQ rs)) (cE r F) (cM r (bK rs F M j).P) with
   |some i=>
     rw[k2] at e3;have pn:pg (cM r (bK rs F M j).P) i≠qz:=aWb p sd hF (aD:=[]) hb met hr ln.p (λ k hk hM=>by
      let(q,h1,_):=h.pl k rs[k] hk (yAa ()) (.inl hM)
      rw[h1];exact Option.some_ne_none _) i c2 c1 c3 k2
     let(q,eq):=tH pn;refine⟨Q,aJU p h hr (et.trans e3) rfl c1 (λ z=>absurd z c2) λ _=>⟨q,eq,?_,λ is hi t ht=>?_⟩⟩
     ·rw[aEY p h hr eq,aZV f1 lP k2]
     ·rw[pB p hr c1 is];exact aS4 f1 (aBh p hi hr) c2 hm lF lP (fso is hi) (alk is hi) k2 eq t ht
   |none=>
     rw[k2] at e3;cases k3:mJ r (M.getD j 0) (cE r F) (cM r (bK rs F M j).P) with
     |some l=>
       rw[k3] at e3;have cv:=λ is hi=>aVD f1 (aBh p hi hr) c2 hm lF lP (fso is hi) (alk is hi) nn k3
       let(s,es,c):=cv is0 hi0;have w01:∀ c,c<2->g0 (aT r (wQ rs)) c=r.w:=λ c hc=>by
        rw[aYb f1 es];rcases (by omega:c=0\/c=1) with rfl|rfl<;>rfl
       have wat:∀ c q,c<2->pg (cM r (bK rs F M j).P) c=qq q->(wQ Q)[q]?=qq r.w:=λ c q hc hq=>by rw[aEY p h hr hq,w01 c hc]
       rcases c with ⟨q0,q1,eP,c⟩|⟨c,q,k,hq,hc,hk,el,_⟩
       ·have x0:=wat 0 q0 (·) (by rw[eP];rfl);have x1:=wat 1 q1 (·) (by rw[eP];rfl);rcases c with ⟨sa,el,_⟩|⟨sa,el,_⟩
        ·refine⟨_,rB p h hr (r':=⟨.or,r.w,[q0,q1]⟩) (et.trans e3) (by rw[el]) ⟨w1,w2,x0,x1⟩ rfl (by rw[hU];rfl) (λ q=>absurd q c1) ?_ λ _ is hi t ht=>?_⟩
         ·have:dQ (wQ rs) r=2*r.w:=by unfold dQ;rw[es,sa];rfl
          rw[this];show r.w<=2*r.w;omega
         ·rw[pB p hr c1 is];let(s',es',c'):=cv is hi;rcases c' with ⟨p0,p1,eP',c'⟩|⟨c',q',k',_,_,_,el',_⟩
          ·rw[eP] at eP';injection eP' with z1 z2
           injection z2 with z2
           cases z1;cases z2;rcases c' with ⟨_,_,v⟩|⟨_,el',_⟩
           ·exact v t ht
           ·rw[el] at el';cases el'
          ·rw[el] at el';cases el'
        ·refine⟨_,rB p h hr (r':=⟨.xor,r.w,[q0,q1]⟩) (et.trans e3) (by rw[el]) ⟨w1,w2,x0,x1⟩ rfl (by rw[hU];rfl) (λ q=>absurd q c1) ?_ λ _ is hi t ht=>?_⟩
         ·have:dQ (wQ rs) r=2*r.w:=by unfold dQ;rw[es,sa];rfl
          rw[this];show r.w<=2*r.w;omega
         ·rw[pB p hr c1 is];let(s',es',c'):=cv is hi;rcases c' with ⟨p0,p1,eP',c'⟩|⟨c',q',k',_,_,_,el',_⟩
          ·rw[eP] at eP';injection eP' with z1 z2
           injection z2 with z2
           cases z1;cases z2;rcases c' with ⟨_,el',_⟩|⟨_,_,v⟩
           ·rw[el] at el';cases el'
           ·exact v t ht
          ·rw[el] at el';cases el'
       ·refine⟨_,rB p h hr (r':=⟨.left,r.w,[q,k]⟩) (et.trans e3) (by rw[el]) ⟨w1,w2,wat c q hc hq,hk⟩ rfl (by rw[hU];rfl) (λ q=>absurd q c1) (by rw[zero _ _ _ _ (.inr (.inr rfl))];exact yDw _) λ _ is hi t ht=>?_⟩;rw[pB p hr c1 is];let(s',es',c'):=cv is hi;rcases c' with ⟨p0,p1,eP',⟨_,el',_⟩|⟨_,el',_⟩⟩|⟨c',q',k',hq',_,_,el',v⟩
        ·rw[el] at el';cases el'
        ·rw[el] at el';cases el'
        ·rw[el] at el';have:q=q'/\k=k':=by
          unfold gU at el';simp at el'
          first|exact el'|exact⟨by injection el'.1,by injection el'.2⟩
         let(rfl,rfl):=this;exact v t ht
     |none=>
       rw[k3] at e3;have kn0:¬ bJ (M.getD j 0) ((f0 F j).N|||(f0 F j).O)=0:=λ z=>by
        unfold mV at k1;rw[if_pos z] at k1;cases k1
       have al:∀ c,c<aM r.wd->(eB rs F r (M.getD j 0)).getD c 0≠0:=λ c hc z=>by
        by_cases cp:r.wd=.pick
        ·let(f,g,g',eFs):=@aHM (cE r F) (by rw[lF,cp];rfl);have e:jK f (cM r (bK rs F M j).P)=qz:=by
          have:=k2;unfold fZ at this;rw[cp,eFs] at this;exact this
         have nd:eB rs F r (M.getD j 0)=if f.O=1 then [1,M.getD j 0,0] else if f.N=1 then [1,0,M.getD j 0] else [1,M.getD j 0,M.getD j 0]:=by
          unfold eB;rw[show fY r F=(cE r F).map cR from rfl,cp,eFs];exact if_neg c2
         unfold jK at e;have o1:¬ f.O=1:=λ q=>by rw[if_pos (.inr q)] at e;cases e
         have o2:¬ f.N=1:=λ q=>by
          by_cases z2:pg (cM r (bK rs F M j).P) 1=pg (cM r (bK rs F M j).P) 2\/f.O=1
          ·rw[if_pos z2] at e;cases e
          ·rw[if_neg z2,if_pos q] at e;cases e
         rw[nd,if_neg o1,if_neg o2] at z;rw[cp] at hc;have hc:c<3:=hc;rcases (by omega:c=0\/c=1\/c=2) with rfl|rfl|rfl
         ·cases z
         ·exact c2 z
         ·exact c2 z
        ·exact kn0 (kx j r hr cp _ c2 hm c hc z)
       let(r',el,ok,ew,ewd,ep,ev):=aRu p sd hF hb h hr met c1 c2 al;exact⟨_,rB p h hr (r':=r') (et.trans e3) (by rw[el]) ok ew (by unfold dG;rw[ewd]) (λ q=>absurd q c1) ep λ _ is hi t ht=>ev is hi t ht⟩
def aRg{rs:List Rw}:Tv rs F M 0 []:=⟨rfl,trivial,yAd _,rfl,yAd _,λ _ _ q v h=>by simp at h,λ k r h=>absurd h (yCl k),λ k r q h=>absurd h (yCl k)⟩
section
variable {rs:List Rw}{F:List Ft}{M:List Nat}
def aKE(p:Prg rs)(sd:Snd rs F)(hF:↑F=↑rs)(hb:Bd rs M)(met:sQ rs F M)(kx:Kx rs F):∀ j,j<=↑rs->∃ Q,Tv rs F M j Q
 |0,_=>⟨[],aRg⟩
 |j+1,h=>by
   let(Q,t):=aKE p sd hF hb met kx j (yGa h);exact aRP p sd hF hb met kx t (yAa (show j<↑rs from h))
end
def aL1{x:Nat}(h:x[t]! =true):(dB x a w)[t]! =true:=by
 unfold dB;split
 ·exact h
 ·rw[xAo,h];rfl
def tY{m:Nat}(e:g=fM X w)(h:∀ t,m[t]! =true->X.N[t]! =true\/X.O[t]! =true):bJ m (g.N|||g.O)=0:=by
 refine beq_iff_eq.mp (wA.mpr λ t ht=>?_);rw[e,xAo,yBw];rcases h t ht with q|q
 ·exact .inl (aL1 q)
 ·exact .inr (aL1 q)
def aQO{f g:Ft}(h:f.d=g.d):f=g:=by
 let(a,b,c):=f;let(a',b',c'):=g;have h:yAj [.int a,.int b,.int c]=yAj [.int a',.int b',.int c']:=h;injection h with h
 injection h with h1 h
 injection h with h2 h
 injection h with h3
 injection h1 with h1
 injection h2 with h2
 injection h3 with h3
 rw[Int.ofNat.inj h1,Int.ofNat.inj h2,Int.ofNat.inj h3]
def vE{r:Rw}{g:Ft}(rl:∀ d S,cl fns (d+7) 47 [.d r.d,.d (ws*>nD),.d (Fs*>Ft.d)] S=qq (.d g.d,S))(X:Ft)(hX:FtOk X r.w)(h2:r.w<=64)(ho:∀ d S,cl fns (d+6) 46 [.d r.d,.d (ws*>nD),.d (Fs*>Ft.d)] S=qq (.d X.d,S)):g=fM X r.w:=by
 have e1:=rl 0 [];have e2:=aA5 3 _ _ _ [] r.w X (dX r) (ho 0 []) hX h2;have e2:cl fns 7 47 [.d r.d,.d (ws*>nD),.d (Fs*>Ft.d)] []=qq (.d (fM X r.w).d,[]):=e2;have e1:cl fns 7 47 [.d r.d,.d (ws*>nD),.d (Fs*>Ft.d)] []=qq (.d g.d,[]):=e1;rw[e1] at e2;have e3:=congrArg Prod.fst (Option.some.inj e2);have e3:W.d g.d=W.d (fM X r.w).d:=e3;injection e3 with e3
 exact aQO e3
def aEu(h:2^n-1=0):n=0:=by
 rcases Nat.eq_zero_or_pos n with z|z
 ·exact z
 ·have:=yAo (show 0<2 by decide) z;omega
def aJw(hw:1<=w)(h:x≠0):eS x w≠0:=by
 have b:=nH h;by_cases c:bl x-1<w
 ·exact jR ((wN hw).mpr (.inl ⟨c,b⟩))
 ·exact jR ((wN hw).mpr (.inr ⟨rfl,_,by omega,b⟩))
def tW(h:c<2):c=0\/c=1:=()
def aT8{g:Ft}(h:RwOk r ws)(o:rX Fs ws)(rl:∀ d S,cl fns (d+7) 47 [.d r.d,.d (ws*>nD),.d (Fs*>Ft.d)] S=qq (.d g.d,S))(np:r.wd≠.pick)(h0:m≠0)(hm:m<2^r.w)(hc:c<aM r.wd)(z:(aO r.wd r.w (dH r) ws (Fs.map cR) m).getD c 0=0):bJ m (g.N|||g.O)=0:=by
 have bw:=λ t (ht:m[t]! =true)=>nV hm ht
 cases h with
 |inp=>cases hc|num=>cases hc
 |nt h1 h2=>
   have hc:c<1:=hc;obtain rfl:c=0:=Nat.lt_one_iff.mp hc;have z:(if m=0 then _ else [m]:List Nat).getD 0 0=0:=z;rw[if_neg h0] at z;exact absurd z h0
 |sh h1 h2 aG hk=>
   rename_i wd w a k;have hc:c<1:=by erw[50,aG]<;>exact hc
   obtain rfl:c=0:=Nat.lt_one_iff.mp hc;let(f,rfl,o1):=sI o;have op:∀ d S,cl fns (d+6) 46 [.d (Rw.mk wd w [a,k]).d,.d (.tuple ([w].map nD)),.d (.tuple ([f].map Ft.d))] S=qq (.d (shN wd w f k).d,S):=λ d S=>aGF (d+5) _ _ _ (w:Nat) S wd aG f k _ rfl rfl rfl rfl (aAV (d+1) wd aG w f k o1.ok o1.w1 o1.w2 () S)
   erw[50,aG]
   ·refine tY (vE rl (tZ w f k) (aJh o1.ok o1.dj o1.w1 k) h2 op) λ t ht=>.inl ?_
    have z:(if m=0 then _ else [m/2^k]:List Nat).getD 0 0=0:=z;rw[if_neg h0] at z;have z:m/2^k=0:=z;have lt:m<2^k:=by
     rcases yGt m (2^k) with q|q
     ·exact q
     ·have:=Nat.div_pos q (xAe k);omega
    show((f.N*2^k|||(2^k-1))&&&(2^w-1))[t]! =true;rw[yAh,xAo,dW (nV lt ht),dW (bw t ht),yEg];rfl
   ·refine tY (vE rl (mD w f k) (aHy o1.ok o1.dj o1.w1 k) h2 op) λ t ht=>.inl ?_
    have z:(if m=0 then _ else [(m*2^k)&&&(2^w-1)]:List Nat).getD 0 0=0:=z;rw[if_neg h0] at z;have z:(m*2^k)&&&(2^w-1)=0:=z;have tw:t<w:=bw t ht;have tk:w<=t+k:=by
     apply Decidable.byContradiction;intro q;have:((m*2^k)&&&(2^w-1))[(t+k)]! =true:=by
      rw[yAh,dW (),yFo,yFu,dqT (),yGw,ht];rfl
     rw[z,yAq] at this;cases this
    show(f.N/2^k|||dD (min k w) w)[t]! =true;rw[xAo,lQ,dqT (show w-min k w<=t by omega),dqT tw,Bool.and_self,yEg]
   ·have z:(if m=0 then _ else [eS (m*2^k) w]:List Nat).getD 0 0=0:=z;rw[if_neg h0] at z;exact absurd z (aJw h1 (Nat.mul_ne_zero h0 (yGd (xAe k))))
 |cut h1 hv h2=>
   have hc:c<1:=hc;obtain rfl:c=0:=Nat.lt_one_iff.mp hc;have z:(if m=0 then _ else [m]:List Nat).getD 0 0=0:=z;rw[if_neg h0] at z;exact absurd z h0
 |wide h1 hv h2=>
   rename_i w v a;have hc:c<1:=hc;obtain rfl:c=0:=Nat.lt_one_iff.mp hc;let(f,rfl,o1):=sI o;have z:(if m=0 then _ else [m&&&(2^v-1)]:List Nat).getD 0 0=0:=z;rw[if_neg h0] at z;have z:m&&&(2^v-1)=0:=z;refine tY (vE rl (mG v w f) (aIT o1.ok o1.dj o1.w1 hv) h2 λ d S=>aAT (d+5) _ _ _ (w:Nat) S .wide (.inr (.inl rfl)) f (v:Nat) _ rfl rfl rfl rfl (aJu (d+2) v w f hv h2 S)) λ t ht=>.inl ?_
   have tv:v<=t:=by
    apply Decidable.byContradiction;intro q;have:(m&&&(2^v-1))[t]! =true:=by rw[yAh,ht,dW ()];rfl
    rw[z,yAq] at this;cases this
   have tw:t<w:=bw t ht;show(f.N|||dD (w-v) w)[t]! =true;rw[xAo,lQ,dqT (show w-(w-v)<=t by omega),dqT tw,Bool.and_self,yEg]
 |sign h1 hv h2=>
   rename_i w v a;have hc:c<1:=hc;obtain rfl:c=0:=Nat.lt_one_iff.mp hc;have z:(if m=0 then _ else [eS m v]:List Nat).getD 0 0=0:=z;rw[if_neg h0] at z;exact absurd z (aJw h1 h0)
 |bw h1 h2 aG=>
   rename_i wd w x y;have hc:c<2:=by erw[50,aG]<;>exact hc
   let(f,k,rfl,o1,o2):=yQ o;have op:∀ d S,cl fns (d+6) 46 [.d (Rw.mk wd w [x,y]).d,.d (.tuple ([w,w].map nD)),.d (.tuple ([f,k].map Ft.d))] S=qq (.d (uY wd f k).d,S):=λ d S=>aIL (d+3) (Rw.mk wd w [x,y]).d (.tuple [nD w,nD w]) (.tuple [f.d,k.d]) (w:Nat) S wd aG f k rfl rfl rfl rfl
   erw[50,aG]
   ·refine tY (vE rl (uY .and f k) (aEF (.inl rfl) o1.ok o1.dj o2.ok o2.dj) h2 op) λ t ht=>.inl ?_
    have z:((if m=0 then _ else [bJ m (bJ k.N f.N),bJ m f.N]:List Nat).getD c 0)=0:=z;rw[if_neg h0] at z;show(f.N|||k.N)[t]! =true;rw[xAo,yBw];rcases (tW hc) with rfl|rfl
    ·have:=iQ (iI z) ht;rw[dJ,yAp] at this;exact .inr this.1
    ·exact .inl (iQ (iI z) ht)
   ·refine tY (vE rl (uY .or f k) (aEF (.inr (.inl rfl)) o1.ok o1.dj o2.ok o2.dj) h2 op) λ t ht=>.inr ?_
    have z:((if m=0 then _ else [bJ m (bJ k.O f.O),bJ m f.O]:List Nat).getD c 0)=0:=z;rw[if_neg h0] at z;show(f.O|||k.O)[t]! =true;rw[xAo,yBw];rcases (tW hc) with rfl|rfl
    ·have:=iQ (iI z) ht;rw[dJ,yAp] at this;exact .inr this.1
    ·exact .inl (iQ (iI z) ht)
   ·have z:((if m=0 then _ else [m,m]:List Nat).getD c 0)=0:=z;rw[if_neg h0] at z;rcases (tW hc) with rfl|rfl<;>exact absurd z h0
 |sm h1 h2=>
   rename_i s w x y;have hc:c<2:=by cases s<;>exact hc
   let(f,k,rfl,o1,o2):=yQ o;have two:(s=.add\/s=.sub)->False:=λ hs=>by
    have z:((if m=0 then yAg 2 0 else [2^bl m-1,2^bl m-1]:List Nat).getD c 0)=0:=by rcases hs with rfl|rfl<;>exact z
    rw[if_neg h0] at z;rcases (tW hc) with rfl|rfl<;>exact nG h0 z
   cases s with
   |add=>exact(two (.inl rfl)).elim|sub=>exact(two (.inr rfl)).elim
   |mul=>
     let(a1,ha1,hh):=o1.ho;let(a2,ha2,hh'):=o2.ho;refine tY (vE rl (uQ .mul w f k) (aJM .mul o1.ok o2.ok ha1 ha2 hh hh') h2 λ d S=>aHC d _ _ _ w S .mul f k rfl rfl rfl rfl o1.ok o2.ok (aLh .mul w f k o1.ok o2.ok ha1 ha2 hh hh') h2) λ t ht=>.inl ?_
     have z:((if m=0 then _ else [2^(bl m-min (bl m) (lr k.N))-1,2^(bl m-min (bl m-min (bl m) (lr k.N)) (lr f.N))-1]:List Nat).getD c 0)=0:=z;rw[if_neg h0] at z;have tb:=rK ht;have tw:t<w:=bw t ht;have tl:t<lr f.N+lr k.N:=by
      rcases (tW hc) with rfl|rfl
      ·exact xAb tb (xAh (xAh (Nat.le_of_sub_eq_zero (aEu z)) (yCa _ _)) (Nat.le_add_left _ _))
      ·exact xAb tb (xAh (xAh (Nat.le_of_sub_eq_zero (aEu z)) (yCa _ _)) (yEp _ _))
     show(sC .mul f k|||qG .mul w f k|||(2^min w (lr f.N+lr k.N)-1))[t]! =true;rw[xAo,dW (),yEg]
 |cmp h1 h2 aG=>
   rename_i wd v x y;have hc:c<2:=by erw[50,aG]<;>exact hc
   have z:((if m=0 then yAg 2 0 else [2^v-1,2^v-1]:List Nat).getD c 0)=0:=by erw[50,aG]<;>exact z
   rw[if_neg h0] at z;have:2^v-1=0:=by rcases (tW hc) with rfl|rfl<;>exact z
   have:=aEu this;omega
 |pick=>exact absurd rfl np
def aYe{rs:List Rw}(p:Prg rs)(sd:Snd rs F)(hF:↑F=↑rs)(ow:vF rs F):Kx rs F:=λ j r hr np m h0 hm c hc z=>by
 have hj:=(gIm hr).1;let(f1,f2):=p.fit j r hr;let(g,eg,nx):=ow j r () hr;rw[<- eg];exact aT8 f1 (aDF p sd _ λ a ha=>by have:=f2 a ha;omega) nx.rule np h0 hm hc z
def Sb.trans(h:Sb a b)(k:Sb b c):Sb a c:=λ i x=>k i (h i x)
def aSV(a b:Nat):Sb a (a|||b):=λ i h=>by rw[xAo,h,Bool.true_or]
def aVp(a b:Nat):Sb b (a|||b):=λ i h=>by rw[xAo,h,yEg]
def aQT(M:List Nat)(q:Nat×Nat)(i:Nat):Sb (M.getD i 0) ((cU M q).getD i 0):=by
 unfold cU;by_cases c:q.1=i
 ·subst c;by_cases l:q.1<↑M
  ·rw[vP l];exact aSV _ _
  ·rw[yFq ()];exact Sb.refl _
 ·rw[vO c];exact Sb.refl _
def aDN:∀ (l:List (Nat×Nat)) (M:List Nat) (i:Nat),Sb (M.getD i 0) ((l.foldl cU M).getD i 0)
 |[],_,_=>Sb.refl _|q::l,M,i=>(aQT M q i).trans (aDN l (cU M q) i)
def aQf(M:List Nat)(q:Nat×Nat):↑(cU M q)=↑M:=by unfold cU;rw[yBe]
def aIz:∀ (l:List (Nat×Nat)) (M:List Nat) (q:Nat×Nat),q∈l->q.1<↑M->Sb q.2 ((l.foldl cU M).getD q.1 0)
 |[],_,_,h,_=>by cases h
 |x::l,M,q,h,hl=>by
   rcases List.mem_cons.mp h with rfl|h
   ·refine Sb.trans ?_ (aDN l (cU M q) q.1);unfold cU;rw[vP hl];exact aVp _ _
   ·exact aIz l (cU M x) q h (by rw[aQf];exact hl)
section
variable {rs:List Rw}{F:List Ft}
def aDT:∀ (k:Nat) (M:List Nat) (i:Nat),Sb (M.getD i 0) ((kA rs F k M).getD i 0)
 |0,_,_=>Sb.refl _
 |k+1,M,i=>by
   refine Sb.trans ?_ (aDT k (gJ rs F M k) i);unfold gJ;cases rs[k]? with
   |none=>exact Sb.refl _|some r=>exact aDN _ M i
def aH3(p:Prg rs):∀ (k:Nat) (M:List Nat),Bd rs M->k<=↑rs->∀ (j:Nat) (r:Rw),j<k->rs[j]?=qq r->∀ q∈eK rs F r ((kA rs F k M).getD j 0),Sb q.2 ((kA rs F k M).getD q.1 0)
 |0,_,_,_,j,_,hj,_,_,_=>absurd hj (yCl j)
 |k+1,M,h,hk,j,r,hj,hr,q,hq=>by
   have hb:=aDH (F:=F) p (show k<↑rs by omega) h;by_cases c:j=k
   ·subst c;have e:(kA rs F (j+1) M).getD j 0=M.getD j 0:=aHY p (j+1) M j h hk (yAd _);rw[e] at hq;have a:=(aBb p hr (h.lt j r hr) q hq).1;show Sb q.2 ((kA rs F j (gJ rs F M j)).getD q.1 0);refine Sb.trans ?_ (aDT j (gJ rs F M j) q.1);rw[aDM hr];exact aIz _ M q hq (by rw[h.l];omega)
   ·exact aH3 p k (gJ rs F M k) hb () j r () hr q hq
end
section
variable {rs:List Rw}
def aIt:∀ (l:List Nat) (M:List Nat) (o:Nat),o<↑M->(o∈l\/M.getD o 0=2^g0 (~~~rs) o-1)->(l.foldl (dU rs) M).getD o 0=2^g0 (~~~rs) o-1
 |[],_,_,_,h=>by
   rcases h with h|h
   ·cases h
   ·exact h
 |x::l,M,o,hl,h=>by
   show(l.foldl (dU rs) (dU rs M x)).getD o 0=_;refine aIt l (dU rs M x) o (by unfold dU;rw[yBe];exact hl) ?_;by_cases c:x=o
   ·subst c;right;unfold dU;exact vP hl
   ·rcases h with h|h
    ·rcases List.mem_cons.mp h with h|h
     ·exact absurd h.symm c
     ·exact .inl h
    ·right;unfold dU;rw[vO c];exact h
end
def xC:∀ (rs:List Rw) (is:List Nat),bV rs is ↔ bV (rs.filter dG) is
 |[],is=>Iff.rfl
 |r::rs,is=>by
   by_cases c:r.wd=.in
   ·have e:(r::rs).filter dG=r::rs.filter dG:=by rw[yCb,show dG r=true from dqT c,if_pos rfl]
    rw[e];unfold bV;rw[if_pos c,if_pos c];constructor
    ·rintro ⟨n,is',e1,e2,e3⟩;exact⟨n,is',e1,e2,(xC rs is').mp e3⟩
    ·rintro ⟨n,is',e1,e2,e3⟩;exact⟨n,is',e1,e2,(xC rs is').mpr e3⟩
   ·have e:(r::rs).filter dG=rs.filter dG:=by rw[yCb,show dG r=false from dqF c,if_neg (·)]
    rw[e];show(if r.wd=.in then _ else bV rs is) ↔ _;rw[if_neg c];exact xC rs is
structure Trd(rs:List Rw)(aD:List Nat)(Q:List Rw)(os:List Nat):Prop where
 ok:bS [] Q
 le:↑Q<=↑rs
 lt:∀ o∈os,o<↑Q
 ln:↑os=↑aD
 ins:Q.filter dG=rs.filter dG
 ws:os.map (g0 (wQ Q))=aD.map (g0 (wQ rs))
 pr:kI (wQ Q) Q<=kI (wQ rs) rs
 told:∀ is,bV rs is->bV Q is/\os.map (g0 (rn Q is))=aD.map (g0 (rn rs is))
def aVu{rs:List Rw}(p:Prg rs)(sd:Snd rs F)(hF:↑F=↑rs)(ow:vF rs F)(ho:∀ o∈aD,o<↑rs):∃ Q os,(bK rs F (eU rs F aD) ↑rs).R=Q.map gU/\aD.map (pg (bK rs F (eU rs F aD) ↑rs).P)=os.map qq/\Trd rs aD Q os:=by
 have hb:=aTK (F:=F) p ho;have b0:Bd rs (aD.foldl (dU rs) (yAg ↑rs 0)):=aD0 aD _ ho aDR;have met:sQ rs F (eU rs F aD):=λ j r hr q hq=>aH3 p _ _ b0 (yAd _) j r (gIm hr).1 hr q hq
 let(Q,t):=aKE p sd hF hb met (aYe p sd hF ow) ↑rs (yAd _);have fl:∀ o∈aD,∀ i,i<g0 (wQ rs) o->((eU rs F aD).getD o 0)[i]! =true:=λ o mo i hi=>by
  refine aDT ↑rs _ o i ?_;show((aD.foldl (dU rs) (yAg ↑rs 0)).getD o 0)[i]! =true;rw[aIt aD _ o (by rw[yCw];exact ho o mo) (.inl mo)];exact dW hi
 have at_:∀ o∈aD,∃ q,pg (bK rs F (eU rs F aD) ↑rs).P o=qq q/\q<↑Q/\g0 (wQ Q) q=g0 (wQ rs) o/\∀ is,bV rs is->g0 (rn Q is) q=g0 (rn rs is) o:=λ o mo=>by
  have ol:=ho o mo;have hr:rs[o]?=qq rs[o]:=yAa ol;have wo:g0 (wQ rs) o=rs[o].w:=rY hr;have w1:=(p.ws o _ hr).1;have nz:(eU rs F aD).getD o 0≠0:=jR (fl o mo 0 (by rw[wo];omega));let(q,h1,h2,h3):=t.pl o _ (ho o mo) hr (.inl nz);refine⟨q,h1,by have:=(gIm h2).1;rw[yAb] at this;exact this,by rw[rN h2,wo],λ is hi=>?_⟩;exact xH (t.bd is hi q _ h2) (aKP p hi hr) λ i hi'=>h3 is hi i (fl o mo i (by rw[wo];exact hi'))
 have all:∀ (l:List Nat),(∀ o∈l,o∈aD)->∃ os:List Nat,l.map (pg (bK rs F (eU rs F aD) ↑rs).P)=os.map qq/\(∀ o∈os,o<↑Q)/\↑os=↑l/\os.map (g0 (wQ Q))=l.map (g0 (wQ rs))/\∀ is,bV rs is->os.map (g0 (rn Q is))=l.map (g0 (rn rs is)):=λ l=>by
  induction l with
  |nil=>exact λ _=>⟨[],rfl,(λ o m=>by cases m),rfl,rfl,λ _ _=>rfl⟩
  |cons o l ih=>
    intro hl;let(os,e1,e2,e3,e4,e5):=ih λ x m=>hl x (xAf _ m)
    let(q,a1,a2,a3,a4):=at_ o (hl o xAc);refine⟨q::os,by rw[yAt,yAt,a1,e1],λ x m=>?_,by rw[yBg,yBg,e3],by rw[yAt,yAt,a3,e4],λ is hi=>by rw[yAt,yAt,a4 is hi,e5 is hi]⟩;rcases List.mem_cons.mp m with rfl|m
    ·exact a2
    ·exact e2 x m
 let(os,e1,e2,e3,e4,e5):=all aD λ _ m=>m
 have ins:Q.filter dG=rs.filter dG:=by
  have:=t.ins;rw[yAe] at this;exact this
 have pr:=t.pr;rw[yAe] at pr;exact⟨Q,os,t.R,e1,t.ok,t.le,e2,e3,ins,e4,pr,λ is hi=>⟨(xC Q is).mpr (by rw[ins];exact(xC rs is).mp hi),e5 is hi⟩⟩
def Trd.trans(h:Trd a x b y)(g:Trd b y c z):Trd a x c z:=
 ⟨g.ok,xAh g.le h.le,g.lt,g.ln.trans h.ln,g.ins.trans h.ins,g.ws.trans h.ws,xAh g.pr h.pr,λ is hi=>⟨(g.told is (h.told is hi).1).1,(g.told is (h.told is hi).1).2.trans (h.told is hi).2⟩⟩
section
variable (B:List Int×List D)(k:Nat)(x:Int)(rs:List Rw)
noncomputable abbrev aP(B:List Int×List D)(k:Nat)(x:Int)(rs:List Rw):aE:=[qq (aV B.1 k x),qq (rs.map Rw.d),qq B.2]
theorem aPR(d:Nat)(r:Rw)(hl:↑rs<=900):cl fns (d+1) 86 [.loc 1,.d r.d] (aP B k x rs)=qq (.d (.int ↑rs),aP B k x (rs++[r])):=by
 have ap:=ap1 (qq (aV B.1 k x)) (rs.map Rw.d) [qq B.2] r.d (by rw[yAb];omega);have lR:eX [.list (rs.map Rw.d++[r.d])]=qq (.int ((↑rs+1:Nat):Int)):=by
  show qq (yAn ((↑(rs.map Rw.d++[r.d]):Nat):Int))=_;rw[xAn,yAb];rfl
 have sb:((↑rs+1:Nat):Int)-1=((↑rs:Nat):Int):=();have es:aP B k x (rs++[r])=[qq (aV B.1 k x),qq (rs.map Rw.d++[r.d]),qq B.2]:=by
  show [qq (aV B.1 k x),qq ((rs++[r]).map Rw.d),qq B.2]=_;rw[yAw];rfl
 rw[es];rw[bE rfl d _ _ rfl];erw[11,aGt,aP,gK,ap,lR,cO,sb,yBg,List.take_succ_cons,yAe]
end
structure Ex(rs aI:List Rw)(i w n:Nat):Prop where
 ok:bS [] aI
 keep:∀ a v:Nat,(~~~rs)[a]?=qq v->(aI.map (·.w))[a]?=qq v
 at_:(aI.map (·.w))[i]?=qq w
 hi:↑aI<=↑rs+n
def aWN{rs:List Rw}{r:Rw}{a v:Nat}(h:(~~~rs)[a]?=qq v):((rs++[r]).map (·.w))[a]?=qq v:=by rw[yAw,xAm (gIm h).1];exact h
def aED(rs:List Rw)(r:Rw):((rs++[r]).map (·.w))[↑rs]?=qq r.w:=by rw[yAw,yAf (by rw[yAb];exact yAd _),yAb,yBf];rfl
def aVi{rs:List Rw}(h:bS [] rs)(hr:cN (~~~rs) r):bS [] (rs++[r]):=vN h (by rw[yDp];exact hr)
def Ex.add{rs:List Rw}(h:bS [] rs)(hr:cN (~~~rs) r):Ex rs (rs++[r]) ↑rs r.w 1:=⟨aVi h hr,λ _ _ e=>aWN e,aED rs r,by simp⟩
def Ex.refl{rs:List Rw}(h:bS [] rs)(e:(~~~rs)[i]?=qq w):Ex rs rs i w 0:=⟨h,λ _ _ e=>e,e,yAd _⟩
def Ex.then(h:Ex a b i w n)(g:Ex b c j v m):Ex a c j v (n+m):=⟨g.ok,λ x y e=>g.keep x y (h.keep x y e),g.at_,by have:=h.hi;have:=g.hi;omega⟩
def Ex.le(h:Ex a b i w n)(e:n<=m):Ex a b i w m:=⟨h.ok,h.keep,h.at_,by have:=h.hi;omega⟩
section
variable (B:List Int×List D)(k:Nat)(x:Int)(rs:List Rw)
theorem aYq(d w:Nat)(hl:↑rs<=100)(q:Nat):lv (aC fns d) aFY [#[0],#[1],(w:),(q:),qz,qz,qz,qz,qz,qz] (aP B k x rs)=qq (((yBd ↑rs).filter λ j=>(~~~rs)[j]?==qq w).map nD,aP B k x rs):=by
 have lR:eX [.list (rs.map Rw.d)]=qq (.int ↑rs):=by
  show qq (yAn ((↑(rs.map Rw.d):Nat):Int))=_;rw[yAb]
 refine @aAW _ _ _ _ _ (lv (aC fns d) (.rng1 (.blt .len (.cons (.var 1) .nil)))) (tv (aC fns d) (.cmp .Eq (.ix (.ix (.var 1) (.var 9)) (.int 1)) (.var 2))) (ev (aC fns d) (.var 9)) nD nD (λ j=>(~~~rs)[j]?==qq w) (yBd ↑rs) ?_ (by rw[yHl,qo];omega) (λ j hj=>?_)
 ·simp only[uA,rA,tN,tV,tI];refine qS ?_ ();erw[0,aP,lR]
 ·have hj':j<↑rs:=by simpa using hj
  obtain⟨r,hrj⟩:∃ r,rs[j]?=qq r:=⟨rs[j],yAa hj'⟩;have hb:(((r.w:Nat):Int)==(w:Int))=((~~~rs)[j]?==qq w):=by
   rw[yAc,hrj,yEa];simp;omega
  have e1:aN (.list (rs.map Rw.d)) (.int j)=qq r.d:=iT (by rw[yAc,hrj];rfl);have r1:=dX r;refine⟨[#[0],#[1],(w:),(q:),qz,qz,qz,qz,qz,(j:)],rfl,λ aF=>?_,λ _ aF=>rfl⟩;erw[0,aP,yFi,e1,r1,aZ,hb]
theorem dR(d m:Nat){i:Int}(hi:i=(m:Nat))(hm:0<m)(hm2:m<2^64)(hk:k<=90000):∃ (r:Nat) (x':Int),r<m/\cl fns (d+1) 74 [.loc 0,.d (.int i)] (aP B k x rs)=qq (.d (.int r),aP B (k+1) x' rs):=by subst hi;exact aTZ [qq (rs.map Rw.d),qq B.2] (by simp) d m hm hm2 ()
theorem nR(d w:Nat)(hw:1<=w)(bB:w<=64)(hk:k<=90000):∃ (r k':Nat) (x':Int),r<2^w/\k'<=k+5/\cl fns (d+3) 77 [.loc 0,.d (.int w)] (aP B k x rs)=qq (.d (.int r),aP B k' x' rs):=aLc [qq (rs.map Rw.d),qq B.2] (by simp) d w hw bB ()
theorem aR(d:Nat)(r:Rw)(hy:y=r.d)(hl:↑rs<=900):cl fns (d+1) 86 [.loc 1,.d y] (aP B k x rs)=qq (.d (.int ↑rs),aP B k x (rs++[r])):=by subst hy;exact aPR B k x rs d r hl
theorem tR{B:List Int×List D}{k k':Nat}{x x':Int}{rs aI:List Rw}:(aP B k' x' aI).take ↑(aP B k x rs)=aP B k' x' aI:=rfl
def aZl:Sx:=aQ (aQ (aQ (aQ (aQ (aQ (aQ (aQ (aQ (aQ (aQ (aQ qP)))))))))))
def pl8:Sx:=aQ (aQ (aQ (aQ (aQ (aQ (aQ (aQ qP)))))))
noncomputable abbrev eY(w s:Nat)(c4:D)(c5 c6 c7 c8:Option W):bI:=[#[0],#[1],(w:),(s:),qq (.d c4),c5,c6,c7,c8,qz]
theorem aYG(d w s i:Nat)(c4:D)(c6 c7:Option W)(hw:1<=w)(bB:w<=64)(hk:k<=80000)(hl:↑rs<=100)(ok:bS [] rs)(hi:(~~~rs)[i]?=qq w):∃ (aI:List Rw) (i' k':Nat) (x':Int),Ex rs aI i' w 2/\k'<=k+2/\xs (d<$>3) aZl (eY w s c4 ((i:)) c6 c7 qz) (aP B k x rs)=qq (.rt (.d (.int i')),aP B k' x' aI):=by
 let(q,x1,hq,e1):=dR B k x rs (d+2) 2 (i:=2) rfl (·) (·) ();have lR:eX [.list (rs.map Rw.d)]=qq (.int ↑rs):=by
  show qq (yAn ((↑(rs.map Rw.d):Nat):Int))=_;rw[yAb]
 have gR:∀ (k:Nat) (x:Int),(aP B k x rs)[1]?=qq (qq (rs.map Rw.d)):=λ _ _=>rfl
 rcases yBi ((q:Int)==1) with cq|cq
 ·rcases yBi (decide (((↑rs:Nat):Int)<30)) with cl_|cl_
  ·let(b,x2,hb,e2):=dR B (k+1) x1 rs (d+2) w rfl hw () ();have o1:cN (~~~rs) ⟨.num,w,[2^b]⟩:=⟨hw,bB,yCo (·) hb⟩;have x1':=Ex.add ok o1;have o2:cN ((rs++[(⟨.num,w,[2^b]⟩:Rw)]).map (·.w)) ⟨.or,w,[i,↑rs]⟩:=⟨hw,bB,x1'.keep _ _ hi,x1'.at_⟩;have x2':=Ex.add x1'.ok o2;have a1:=aR B (k+1+1) x2 rs (d+2) (y:=.tuple [.str "num",.int w,.int ((2^b:Nat):Int)]) ⟨.num,w,[2^b]⟩ rfl ();have a2:=aR B (k+1+1) x2 (rs++[⟨.num,w,[2^b]⟩]) (d+2) (y:=.tuple [.str "or",.int w,.int i,.int ↑rs]) ⟨.or,w,[i,↑rs]⟩ rfl (by simp;omega);refine⟨_,_,k+1+1,x2,x1'.then x2',by omega,?_⟩;refine fD (e1:=eY w s c4 (((↑(rs++[(⟨.num,w,[2^b]⟩:Rw)]):Nat):)) c6 ((↑rs:)) qz) (S1:=aP B (k+1+1) x2 ((rs++[⟨.num,w,[2^b]⟩])++[⟨.or,w,[i,↑rs]⟩])) ?_ ?_
   ·have hq76:=gB (show b<=100000 by omega);erw[0,e1,gR,aZ,cq,lR,dM,cl_,e2,hq76,a1,a2]
   ·exact bC rfl
  ·refine⟨rs,i,k+1,x1,(Ex.refl ok hi).le (),by omega,?_⟩;refine aJ (S1:=aP B (k+1) x1 rs) ?_ (bC rfl);erw[0,e1,gR,aZ,cq,lR,dM,cl_]
 ·refine⟨rs,i,k+1,x1,(Ex.refl ok hi).le (),by omega,?_⟩;refine aJ (S1:=aP B (k+1) x1 rs) ?_ (bC rfl);erw[0,e1,aZ,cq]
theorem aOH{q b:Nat}(hq:q<2)(hb:b<2):∃ (t:D) (wd:Wd),(wd=.and\/wd=.or)/\aN (.list [.tuple [.str "and",.str "or"],.tuple [.str "and",.str "and"]]) (.int q)=qq t/\aN t (.int b)=qq (.str wd.s):=by
 have hq':q=0\/q=1:=();have hb':b=0\/b=1:=();rcases hq' with rfl|rfl
 ·rcases hb' with rfl|rfl
  ·exact⟨_,.and,.inl rfl,rfl,rfl⟩
  ·exact⟨_,.or,.inr rfl,rfl,rfl⟩
 ·rcases hb' with rfl|rfl
  ·exact⟨_,.and,.inl rfl,rfl,rfl⟩
  ·exact⟨_,.and,.inl rfl,rfl,rfl⟩
theorem aUy(h:wd=.and\/wd=.or)(hw:1<=w)(bB:w<=64)(a:ws[i]?=qq w)(b:ws[j]?=qq w):cN ws ⟨wd,w,[i,j]⟩:=by rcases h with rfl|rfl<;>exact⟨hw,bB,a,b⟩
theorem aZm(d w s i:Nat)(c4:D)(hw:1<=w)(bB:w<=64)(hk:k<=70000)(hl:↑rs<=90)(ok:bS [] rs)(hi:(~~~rs)[i]?=qq w):∃ (aI:List Rw) (i' k':Nat) (x':Int),Ex rs aI i' w 4/\k'<=k+8/\xs (d<$>3) pl8 (eY w s c4 ((i:)) qz qz qz) (aP B k x rs)=qq (.rt (.d (.int i')),aP B k' x' aI):=by
 let(n0,k1,x1,hn0,hk1,e1):=nR B k x rs d w hw bB ();obtain⟨n1,hn1,en⟩:∃ n1:Nat,n1<2^w/\xs (d<$>3) (cL (aQ pl8)) (eY w s c4 ((i:)) ((n0:)) qz qz) (aP B k1 x1 rs)=qq (.nx (eY w s c4 ((i:)) ((n1:)) qz qz),aP B k1 x1 rs):=by
  rcases yBi ((s:Int)==6) with c|c
  ·have hp:=qX w;have f1:((2^w:Nat):Int)-1-(n0:Int)=((2^w-1-n0:Nat):Int):=cs1 hn0;refine⟨2^w-1-n0,by omega,?_⟩;have hq77:=gB (show w<=100000 by omega);erw[4,cL,aQ,pl8,qP,aZ,c,hq77,cO,f1]
  ·refine⟨n0,hn0,?_⟩;erw[4,cL,aQ,pl8,qP,aZ,c]
 let(q,x2,hq,e2):=dR B k1 x1 (rs++[⟨.num,w,[n1]⟩]) (d+2) 2 (i:=2) rfl (·) (·) ();let(b,hb,eb):=b2i ((s:Int)==8);let(t,wd,aG,t1,t2):=aOH hq hb;have o1:cN (~~~rs) ⟨.num,w,[n1]⟩:=⟨hw,bB,hn1⟩;have x1':=Ex.add ok o1;have x2':=Ex.add x1'.ok (aUy aG hw bB (x1'.keep _ _ hi) x1'.at_);have a1:=aR B k1 x1 rs (d+2) (y:=.tuple [.str "num",.int w,.int n1]) ⟨.num,w,[n1]⟩ rfl ();have a2:=aR B (k1+1) x2 (rs++[⟨.num,w,[n1]⟩]) (d+2) (y:=.tuple [.str wd.s,.int w,.int i,.int ↑rs]) ⟨wd,w,[i,↑rs]⟩ rfl (by simp;omega);let(aI,i',k',x',ex,hk',e3):=aYG B (k1+1) x2 (rs++[⟨.num,w,[n1]⟩]++[⟨wd,w,[i,↑rs]⟩]) d w s ↑(rs++[(⟨.num,w,[n1]⟩:Rw)]) c4 ((n1:)) ((↑rs:)) hw bB () (by simp;omega) x2'.ok x2'.at_;refine⟨aI,i',k',x',(x1'.then x2').then ex,by omega,?_⟩;refine fD (e1:=eY w s c4 ((i:)) ((n0:)) qz qz) (S1:=aP B k1 x1 rs) ?_ ?_
 ·erw[0,e1]
 refine fD en ?_;refine fD (e1:=eY w s c4 ((i:)) ((n1:)) ((↑rs:)) qz) (S1:=aP B k1 x1 (rs++[⟨.num,w,[n1]⟩])) ?_ ?_
 ·erw[0,a1]
 refine fD (e1:=eY w s c4 (((↑(rs++[(⟨.num,w,[n1]⟩:Rw)]):Nat):)) ((n1:)) ((↑rs:)) qz) (S1:=aP B (k1+1) x2 (rs++[⟨.num,w,[n1]⟩]++[⟨wd,w,[i,↑rs]⟩])) ?_ ?_
 ·erw[0,e2,aZ,aEl,aEq,eb,t1,t2,a2]
 exact e3
theorem aOf{p:Nat->Bool}(hj:j<↑((yBd n).filter p)):p (((yBd n).filter p)[j])=true:=(List.mem_filter.mp (yHu hj)).2
theorem aC5(d w:Nat){i:Int}(hi:i=(w:Nat))(hw:1<=w)(bB:w<=64)(hk:k<=60000)(hl:↑rs<=80)(ok:bS [] rs):∃ (aI:List Rw) (i' k':Nat) (x':Int),Ex rs aI i' w 5/\k'<=k+10/\cl fns (d+4) 87 [.loc 0,.loc 1,.d (.int i)] (aP B k x rs)=qq (.d (.int i'),aP B k' x' aI):=by
 subst hi;let(s,x1,hs,e1):=dR B k x rs (d+2) 9 (i:=9) rfl (·) (·) ();have pc:=aYq B (k+1) x1 rs (d+3) w () s;have mem:∀ j (hj:j<↑((yBd ↑rs).filter λ j=>(~~~rs)[j]?==qq w)),(~~~rs)[((yBd ↑rs).filter λ j=>(~~~rs)[j]?==qq w)[j]]?=qq w:=λ j hj=>by simpa using aOf hj
 have ml:↑((yBd ↑rs).filter λ j=>(~~~rs)[j]?==qq w)<=↑rs:=xAh (List.length_filter_le _ _) (by simp);generalize (yBd ↑rs).filter (λ j=>(~~~rs)[j]?==qq w)=L at pc mem ml
 suffices h:∃ (aI:List Rw) (i' k':Nat) (x':Int),Ex rs aI i' w 5/\k'<=k+10/\xs (d<$>3) (aQ (aQ qP)) (eY w s (.list (L.map nD)) qz qz qz qz) (aP B (k+1) x1 rs)=qq (.rt (.d (.int i')),aP B k' x' aI) by
  let(aI,i',k',x',ex,hk',e):=h;refine⟨aI,i',k',x',ex,hk',bX rfl (d+3) rfl rfl tR ?_⟩;refine fD (e1:=[#[0],#[1],(w:),(s:),qz,qz,qz,qz,qz,qz]) (S1:=aP B (k+1) x1 rs) ?_ ?_
  ·erw[0,e1]
  refine fD (e1:=eY w s (.list (L.map nD)) qz qz qz qz) (S1:=aP B (k+1) x1 rs) ?_ e;simp only[aDP,jH,kG,pc,oB];rfl
 by_cases c0:s=0/\L≠[]
 ·let(rfl,hL):=c0;have hL1:0<↑L:=List.length_pos_iff.mpr hL;have hLe:L.isEmpty=false:=by cases L with|nil=>exact absurd rfl hL|cons _ _=>rfl
  let(q,x2,hq,e2):=dR B (k+1) x1 rs (d+2) ↑L rfl hL1 () ();have lL:eX [.list (L.map nD)]=qq (.int ↑L):=by
   show qq (yAn ((↑(L.map nD):Nat):Int))=_;rw[yAb]
  have iL:aN (.list (L.map nD)) (.int q)=qq (.int (L[q]:Nat)):=iT (by rw[yAc,yAa hq];rfl);have c1:(((0:Nat):Int)==0)=true:=rfl;refine⟨rs,L[q],k+1+1,x2,(Ex.refl ok (mem q hq)).le (),by omega,?_⟩;refine bP (S1:=aP B (k+1) x1 rs) ?_ (bC ?_)
  ·erw[0,aZ,c1,aD9,hLe]
  ·erw[0,lL,e2,iL]
 have t2:tv (d<$>3) (.and (.cmp .Eq (.var 3) (.int 0)) (.cmp .NotEq (.var 4) (.fz (.lst .nil)))) (eY w s (.list (L.map nD)) qz qz qz qz) (aP B (k+1) x1 rs)=qq (false,aP B (k+1) x1 rs):=by
  by_cases c:s=0
  ·subst c;have hL:L=[]:=Classical.byContradiction λ h=>c0 ⟨rfl,h⟩
   subst hL;have c1:(((0:Nat):Int)==0)=true:=rfl;have hn:=aD9 [];erw[0,aZ,c1,hn]
  ·have c1:((s:Int)==0)=false:=beq_eq_false_iff_ne.mpr ();erw[0,aZ,c1]
 by_cases c3:s<3
 ·have d3:decide ((s:Int)<3)=true:=dqT ();let(n0,k1,x2,hn0,hk1,e2):=nR B (k+1) x1 rs d w hw bB ();have a1:=aR B k1 x2 rs (d+2) (y:=.tuple [.str "num",.int w,.int n0]) ⟨.num,w,[n0]⟩ rfl ();refine⟨_,_,k1,x2,(Ex.add ok (r:=⟨.num,w,[n0]⟩) ⟨hw,bB,hn0⟩).le (),by omega,?_⟩;refine aJ t2 (bP (S1:=aP B (k+1) x1 rs) ?_ (bC ?_))
  ·erw[0,dM,d3]
  ·erw[0,e2,a1]
 have t3:tv (d<$>3) (.cmp .Lt (.var 3) (.int 3)) (eY w s (.list (L.map nD)) qz qz qz qz) (aP B (k+1) x1 rs)=qq (false,aP B (k+1) x1 rs):=by
  have d3:decide ((s:Int)<3)=false:=dqF ();erw[0,dM,d3]
 by_cases c4:s=3
 ·have d4:((s:Int)==3)=true:=beq_iff_eq.mpr ();let(q,x2,hq,e2):=dR B (k+1) x1 rs (d+2) w rfl hw () ();have f1:(1:Int)+(q:Int)=((1+q:Nat):Int):=();have a1:=aR B (k+1+1) x2 rs (d+2) (y:=.tuple [.str "in",.int ((1+q:Nat):Int)]) ⟨.in,1+q,[]⟩ rfl ();have x1':=Ex.add ok (r:=⟨.in,1+q,[]⟩) ⟨by show 1<=1+q;omega,by show 1+q<=64;omega,trivial⟩;have a2:=aR B (k+1+1) x2 (rs++[⟨.in,1+q,[]⟩]) (d+2) (y:=.tuple [.str "wide",.int w,.int ↑rs]) ⟨.wide,w,[↑rs]⟩ rfl (by simp;omega);have x2':=Ex.add x1'.ok (r:=⟨.wide,w,[↑rs]⟩) ⟨hw,bB,1+q,x1'.at_,by show 1+q<=w;omega⟩;refine⟨_,_,k+1+1,x2,(x1'.then x2').le (),by omega,?_⟩;refine aJ t2 (aJ t3 (bP (S1:=aP B (k+1) x1 rs) ?_ (cC (w:=.d (.int ((1+q:Nat):Int))) (S1:=aP B (k+1+1) x2 rs) ?_ rfl (bC ?_))))
  ·erw[0,aZ,d4]
  ·erw[0,e2,dS,f1]
  ·erw[0,a1,a2]
 have t4:tv (d<$>3) (.cmp .Eq (.var 3) (.int 3)) (eY w s (.list (L.map nD)) qz qz qz qz) (aP B (k+1) x1 rs)=qq (false,aP B (k+1) x1 rs):=by
  have d4:((s:Int)==3)=false:=beq_eq_false_iff_ne.mpr ();erw[0,aZ,d4]
 have a1:=aR B (k+1) x1 rs (d+2) (y:=.tuple [.str "in",.int w]) ⟨.in,w,[]⟩ rfl ();have x1':=Ex.add ok (r:=⟨.in,w,[]⟩) ⟨hw,bB,trivial⟩
 suffices h:∃ (aI:List Rw) (i' k':Nat) (x':Int),Ex (rs++[⟨.in,w,[]⟩]) aI i' w 4/\k'<=k+10/\xs (d<$>3) (aQ (aQ (aQ (aQ (aQ (aQ qP)))))) (eY w s (.list (L.map nD)) ((↑rs:)) qz qz qz) (aP B (k+1) x1 (rs++[⟨.in,w,[]⟩]))=qq (.rt (.d (.int i')),aP B k' x' aI) by
  let(aI,i',k',x',ex,hk',e):=h;refine⟨aI,i',k',x',x1'.then ex,hk',?_⟩;refine aJ t2 (aJ t3 (aJ t4 (cC (w:=.d (.int ↑rs)) (S1:=aP B (k+1) x1 (rs++[(⟨.in,w,[]⟩:Rw)])) ?_ rfl e)));erw[0,a1]
 have g1:↑(rs++[(⟨.in,w,[]⟩:Rw)])<=81:=by simp;omega
 have ok1:=x1'.ok;have at1':((rs++[(⟨.in,w,[]⟩:Rw)]).map (·.w))[↑rs]?=qq w:=x1'.at_;generalize rs++[(⟨.in,w,[]⟩:Rw)]=rs1 at g1 ok1 at1' ;by_cases c5:s=4
 ·have d5:((s:Int)==4)=true:=beq_iff_eq.mpr ();refine⟨rs1,↑rs,k+1,x1,(Ex.refl ok1 at1').le (),by omega,?_⟩;refine bP (S1:=aP B (k+1) x1 rs1) ?_ (bC rfl);erw[0,aZ,d5]
 have t5:tv (d<$>3) (.cmp .Eq (.var 3) (.int 4)) (eY w s (.list (L.map nD)) ((↑rs:)) qz qz qz) (aP B (k+1) x1 rs1)=qq (false,aP B (k+1) x1 rs1):=by
  have d4:((s:Int)==4)=false:=beq_eq_false_iff_ne.mpr ();erw[0,aZ,d4]
 by_cases c6:s=5
 ·have d6:((s:Int)==5)=true:=beq_iff_eq.mpr ();let(q,x2,hq,e2):=dR B (k+1) x1 rs1 (d+2) w rfl hw () ();have a2:=aR B (k+1+1) x2 rs1 (d+2) (y:=.tuple [.str "left",.int w,.int ↑rs,.int q]) ⟨.left,w,[↑rs,q]⟩ rfl ();refine⟨_,_,k+1+1,x2,(Ex.add ok1 (r:=⟨.left,w,[↑rs,q]⟩) ⟨hw,bB,at1',by show q<64;omega⟩).le (),by omega,?_⟩;refine aJ t5 (bP (S1:=aP B (k+1) x1 rs1) ?_ (bC ?_))
  ·erw[0,aZ,d6]
  ·erw[0,e2,a2]
 have t6:tv (d<$>3) (.cmp .Eq (.var 3) (.int 5)) (eY w s (.list (L.map nD)) ((↑rs:)) qz qz qz) (aP B (k+1) x1 rs1)=qq (false,aP B (k+1) x1 rs1):=by
  have d4:((s:Int)==5)=false:=beq_eq_false_iff_ne.mpr ();erw[0,aZ,d4]
 let(aI,i',k',x',ex,hk',e):=aZm B (k+1) x1 rs1 d w s ↑rs (.list (L.map nD)) hw bB () () ok1 at1';exact⟨aI,i',k',x',ex,by omega,aJ t5 (aJ t6 e)⟩
theorem aOZ(d w b:Nat)(hw:1<=w)(bB:w<=64)(hk:k<=60000)(hl:↑rs<=90)(ok:bS [] rs)(hb:(~~~rs)[b]?=qq w):∃ (aI:List Rw) (i' k':Nat) (x':Int),Ex rs aI i' w 2/\k'<=k+10/\cl fns (d+4) 88 [.loc 0,.loc 1,.d (.int b),.d (.int w)] (aP B k x rs)=qq (.d (.int i'),aP B k' x' aI):=by
 let(q,x1,hq,e1):=dR B k x rs (d+2) 2 (i:=2) rfl (·) (·) ();have hp:=qX w;rcases yBi ((q:Int)==1) with c|c
 ·have a1:=aR B (k+1) x1 rs (d+2) (y:=.tuple [.str "num",.int w,.int 0]) ⟨.num,w,[0]⟩ rfl ();have x1':=Ex.add ok (r:=⟨.num,w,[0]⟩) ⟨hw,bB,hp⟩;have a2:=aR B (k+1) x1 (rs++[⟨.num,w,[0]⟩]) (d+2) (y:=.tuple [.str "or",.int w,.int b,.int ↑rs]) ⟨.or,w,[b,↑rs]⟩ rfl (by simp;omega);have x2':=Ex.add x1'.ok (r:=⟨.or,w,[b,↑rs]⟩) ⟨hw,bB,x1'.keep _ _ hb,x1'.at_⟩;refine⟨_,_,k+1,x1,(x1'.then x2').le (),by omega,bX rfl (d+3) rfl rfl tR ?_⟩;refine bP (S1:=aP B (k+1) x1 rs) ?_ (bC ?_)
  ·erw[0,e1,aZ,c]
  ·erw[0,a1,a2]
 ·have f1:((2^w:Nat):Int)-1=((2^w-1:Nat):Int):=();have a1:=aR B (k+1) x1 rs (d+2) (y:=.tuple [.str "num",.int w,.int ((2^w-1:Nat):Int)]) ⟨.num,w,[2^w-1]⟩ rfl ();have x1':=Ex.add ok (r:=⟨.num,w,[2^w-1]⟩) ⟨hw,bB,by show 2^w-1<2^w;omega⟩;have a2:=aR B (k+1) x1 (rs++[⟨.num,w,[2^w-1]⟩]) (d+2) (y:=.tuple [.str "and",.int w,.int b,.int ↑rs]) ⟨.and,w,[b,↑rs]⟩ rfl (by simp;omega);have x2':=Ex.add x1'.ok (r:=⟨.and,w,[b,↑rs]⟩) ⟨hw,bB,x1'.keep _ _ hb,x1'.at_⟩;refine⟨_,_,k+1,x1,(x1'.then x2').le (),by omega,bX rfl (d+3) rfl rfl tR ?_⟩;refine aJ (S1:=aP B (k+1) x1 rs) ?_ (bC ?_)
  ·erw[0,e1,aZ,c]
  ·have hq78:=gB (show w<=100000 by omega);erw[0,hq78,cO,f1,a1,a2]
end
def oK:List Wd:=[.and,.or,.xor,.add,.sub,.mul,.mul,.mul,.add,.sub,.pick,.same,.less,.under,.left,.right,.slide,.cut,.wide,.sign,.not]
def aT6:∀ w∈oK,w≠.in/\w≠.num:=by decide
def aTS{q:Nat}(h:q<21):∃ wd:Wd,wd≠.in/\wd≠.num/\aN (.list (oK.map λ w=>.str w.s)) (.int q)=qq (.str wd.s):=by have hl:q<↑oK:=h;have hm:=aT6 oK[q] (yHu hl);exact⟨oK[q],hm.1,hm.2,iT (by rw[yAc,yAa hl];rfl)⟩
def W14:D:=.list [.str "and",.str "or",.str "xor",.str "add",.str "sub",.str "mul",.str "mul",.str "mul",.str "add",.str "sub",.str "pick",.str "same",.str "less",.str "under"]
def W7:D:=.list [.str "left",.str "right",.str "slide",.str "cut",.str "wide",.str "sign",.str "not"]
def aRG:cB .Add W14 W7=qq (.list (oK.map λ w=>.str w.s)):=aIA (·)
section
variable (B:List Int×List D)(k:Nat)(x:Int)(rs:List Rw)
theorem wR(d:Nat)(hk:k<=90000):∃ (w:Nat) (x':Int),1<=w/\w<=64/\cl fns (d+2) 76 [.loc 0] (aP B k x rs)=qq (.d (.int w),aP B (k+3) x' rs):=by
 have hT':↑[qq (rs.map Rw.d),qq B.2]<=40:=by simp
 let(w,x',h1,h2,e):=@aDs _ _ _ k B.1 x [] (aE7 _ hT') d ();rw[tX _ _ _ _ hT',tX _ _ _ _ hT'] at e;exact⟨w,x',h1,h2,e⟩
noncomputable abbrev eZ(wd:Wd)(w b:Nat)(c6 c7:Option W):bI:=[#[0],#[1],qq (.d (.list (oK.map λ w=>.str w.s))),qq (.d (.str wd.s)),(w:),(b:),c6,c7]
def zL:Sx:=aQ (aQ (aQ (aQ (aQ vM))))
def oT:Sx:=aQ (aQ (aQ (aQ zL)))
def aZP:Sx:=aQ (aQ (aQ (aQ oT)))
theorem aXK(v:Int):nY [.int 1,.int v]=qq (.int (if 1<v then v else 1)):=rfl
theorem aVF(v:Int):nW [.int 64,.int v]=qq (.int (if v<64 then v else 64)):=rfl
theorem aW9(h:wd=.left\/wd=.right\/wd=.slide)(hw:1<=w)(bB:w<=64)(a:ws[i]?=qq w)(b:j<64):cN ws ⟨wd,w,[i,j]⟩:=by erw[50,h]<;>exact⟨hw,bB,a,b⟩
theorem aWE(h:wd=.wide\/wd=.sign)(hw:1<=w)(bB:w<=64)(a:ws[i]?=qq v)(b:v<=w):cN ws ⟨wd,w,[i]⟩:=by rcases h with rfl|rfl<;>exact⟨hw,bB,v,a,b⟩
theorem aWG(h:wd=.same\/wd=.less\/wd=.under)(a:ws[i]?=qq v)(b:ws[j]?=qq v):cN ws ⟨wd,1,[i,j]⟩:=by erw[50,h]<;>exact⟨yAd _,(by decide:(1:Nat)<=64),rfl,v,a,b⟩
theorem aY8(d w b c:Nat)(wd:Wd)(c7:Option W)(h1:wd≠.in/\wd≠.num/\wd≠.not/\wd≠.left/\wd≠.right/\wd≠.slide/\wd≠.cut/\wd≠.wide/\wd≠.sign)(hw:1<=w)(bB:w<=64)(hk:k<=60000)(hl:↑rs<=80)(ok:bS [] rs)(hb:(~~~rs)[b]?=qq w)(hc:(~~~rs)[c]?=qq w):∃ (aI:List Rw) (i' v k':Nat) (x':Int),1<=v/\v<=64/\Ex rs aI i' v 6/\k'<=k+10/\xs (d<$>4) aZP (eZ wd w b ((c:)) c7) (aP B k x rs)=qq (.rt (.d (.int i')),aP B k' x' aI):=by
 by_cases cp:wd=.pick
 ·subst cp;let(rs1,i1,k1,x1,ex,hk1,e1):=aC5 B k x rs d 1 (i:=1) rfl (·) (·) hk hl ok;have l1:=ex.hi;have a1:=aR B k1 x1 rs1 (d+3) (y:=.tuple [.str "pick",.int w,.int i1,.int b,.int c]) ⟨.pick,w,[i1,b,c]⟩ rfl ();refine⟨_,_,w,k1,x1,hw,bB,(ex.then (Ex.add ex.ok (r:=⟨.pick,w,[i1,b,c]⟩) ⟨hw,bB,ex.at_,ex.keep _ _ hb,ex.keep _ _ hc⟩)).le (),hk1,?_⟩;refine bP (S1:=aP B k x rs) (cF rfl (bN .pick .pick)) (bC ?_);erw[0,e1,Wd.s,a1]
 have t1:tv (d<$>4) (.cmp .Eq (.var 3) (.str "pick")) (eZ wd w b ((c:)) c7) (aP B k x rs)=qq (false,aP B k x rs):=cF rfl (by
  have:=bN wd .pick;rw[dqF cp] at this;exact this)
 by_cases cc:wd=.same\/wd=.less\/wd=.under
 ·have a1:=aR B k x rs (d+3) (y:=.tuple [.str wd.s,.int 1,.int b,.int c]) ⟨wd,1,[b,c]⟩ rfl ();refine⟨_,_,1,k,x,by decide,by decide,(Ex.add ok (aWG cc hb hc)).le (),by omega,?_⟩;refine aJ t1 (fD (e1:=[#[0],#[1],qq (.d (.list (oK.map λ w=>.str w.s))),qq (.d (.str wd.s)),(1:),(b:),(c:),c7]) (S1:=aP B k x rs) (mH (fF rfl rfl ?_) (jF rfl)) (bC ?_))
  ·have:=pE wd;rw[dqT cc] at this;exact this
  ·erw[0,a1]
 ·have a1:=aR B k x rs (d+3) (y:=.tuple [.str wd.s,.int w,.int b,.int c]) ⟨wd,w,[b,c]⟩ rfl ();have o:cN (~~~rs) ⟨wd,w,[b,c]⟩:=by
   refine⟨hw,bB,?_⟩;cases wd
   case and|or|xor|add|sub|mul=>exact⟨hb,hc⟩
   all_goals simp at h1 cc cp
  refine⟨_,_,w,k,x,hw,bB,(Ex.add ok o).le (),by omega,?_⟩;refine aJ t1 (aJ (fF rfl rfl ?_) (bC ?_))
  ·have:=pE wd;rw[dqF cc] at this;exact this
  ·erw[0,a1]
theorem aZM(d w b:Nat)(wd:Wd)(h1:wd≠.in/\wd≠.num/\wd≠.not/\wd≠.left/\wd≠.right/\wd≠.slide/\wd≠.cut/\wd≠.wide/\wd≠.sign)(hw:1<=w)(bB:w<=64)(hk:k<=50000)(hl:↑rs<=70)(ok:bS [] rs)(hb:(~~~rs)[b]?=qq w):∃ (aI:List Rw) (i' v k':Nat) (x':Int),1<=v/\v<=64/\Ex rs aI i' v 13/\k'<=k+40/\xs (d<$>4) oT (eZ wd w b qz qz) (aP B k x rs)=qq (.rt (.d (.int i')),aP B k' x' aI):=by
 let(rs1,c,k1,x1,ex1,hk1,e1):=aC5 B k x rs d w rfl hw bB () () ok;have l1:=ex1.hi;let(s,x2,hs,e2):=dR B k1 x1 rs1 (d+3) 8 (i:=8) rfl (·) (·) ();have hb1:=ex1.keep _ _ hb;obtain⟨rs2,c2,k2,x3,ex2,hk2,e3⟩:∃ (rs2:List Rw) (c2 k2:Nat) (x3:Int),Ex rs1 rs2 c2 w 2/\k2<=k1+11/\xs (d<$>4) (.seq (cL (aQ (aQ oT))) (.seq (cL (aQ (aQ (aQ oT)))) .skip)) (eZ wd w b ((c:)) ((s:))) (aP B (k1+1) x2 rs1)=qq (.nx (eZ wd w b ((c2:)) ((s:))),aP B k2 x3 rs2):=by
  by_cases s1:s=1
  ·subst s1;refine⟨rs1,b,k1+1,x2,(Ex.refl ex1.ok hb1).le (),by omega,?_⟩;have c1:(((1:Nat):Int)==1)=true:=rfl;have c2:(((1:Nat):Int)==2)=false:=rfl;erw[5,cL,aQ,zL,oT,vM,aZ,c1,c2]
  ·have c1:((s:Int)==1)=false:=beq_eq_false_iff_ne.mpr ();by_cases s2:s=2
   ·have c2:((s:Int)==2)=true:=beq_iff_eq.mpr ();let(rs2,c',k2,x3,ex2,hk2,e3):=aOZ B (k1+1) x2 rs1 d w b hw bB () () ex1.ok hb1;refine⟨rs2,c',k2,x3,ex2,by omega,?_⟩;erw[5,cL,aQ,zL,oT,vM,aZ,c1,c2,e3]
   ·have c2:((s:Int)==2)=false:=beq_eq_false_iff_ne.mpr ();refine⟨rs1,c,k1+1,x2,(Ex.refl ex1.ok ex1.at_).le (),by omega,?_⟩;erw[5,cL,aQ,zL,oT,vM,aZ,c1,c2]
 have l2:=ex2.hi;let(rs3,i3,v,k3,x4,hv,hv2,ex3,hk3,e4):=aY8 B k2 x3 rs2 d w b c2 wd ((s:)) h1 hw bB () () ex2.ok (ex2.keep _ _ hb1) ex2.at_;refine⟨rs3,i3,v,k3,x4,hv,hv2,(ex1.then ex2).then ex3,by omega,?_⟩;have e12:xs (d<$>4) oT (eZ wd w b qz qz) (aP B k x rs)=xs (d<$>4) (aQ (aQ oT)) (eZ wd w b ((c:)) ((s:))) (aP B (k1+1) x2 rs1):=by
  refine cC (w:=.d (.int c)) (S1:=aP B k1 x1 rs1) ?_ rfl (cC (w:=.d (.int s)) (S1:=aP B (k1+1) x2 rs1) ?_ rfl rfl)
  ·erw[0,e1]
  ·erw[0,e2]
 rw[e12];have e34:∀ (p q r:Sx) (E E':bI) (S S':aE) (z:Option (Fl×aE)),xs (d<$>4) (.seq p (.seq q .skip)) E S=qq (.nx E',S')->xs (d<$>4) r E' S'=z->xs (d<$>4) (.seq p (.seq q r)) E S=z:=λ p q r E E' S S' z h g=>by
  rw[<- g];simp only[jQ,aDQ,dN,rP] at h ⊢;cases hp:xs (d<$>4) p E S with
  |none=>rw[hp] at h;cases h
  |some y=>
    let(y1,y2):=y;rw[hp] at h;cases y1 with
    |nx E1=>
      simp only[oB] at h ⊢;cases hq:xs (d<$>4) q E1 y2 with
      |none=>rw[hq] at h;cases h
      |some y=>
        let(y1,y2):=y;rw[hq] at h;cases y1 with
        |nx E2=>
          simp only[oB] at h ⊢;cases h;rfl
        |rt w=>simp only[oB] at h;cases h|bk E2=>simp only[oB] at h;cases h|ct E2=>simp only[oB] at h;cases h
    |rt w=>simp only[oB] at h;cases h|bk E2=>simp only[oB] at h;cases h|ct E2=>simp only[oB] at h;cases h
 exact e34 _ _ _ _ _ _ _ _ e3 e4
theorem d2R(d:Nat)(hk:k<=80000):∃ (q r:Nat) (x1 x2:Int),q*r<64/\cl fns (d+1) 74 [.loc 0,.d (.int 2)] (aP B k x rs)=qq (.d (.int q),aP B (k+1) x1 rs)/\cl fns (d+1) 74 [.loc 0,.d (.int 64)] (aP B (k+1) x1 rs)=qq (.d (.int r),aP B (k+1+1) x2 rs)/\cB .Mult (.int q) (.int r)=qq (.int ((q*r:Nat):Int)):=by
 let(q,x1,hq,e1):=dR B k x rs d 2 rfl (·) (·) ();let(r,x2,hr,e2):=dR B (k+1) x1 rs d 64 (i:=64) rfl (·) (·) ();have f1:(q:Int)*(r:Int)=((q*r:Nat):Int):=(yBz _ _).symm;have f2:q*r<64:=by
  have:q=0\/q=1:=();rcases this with rfl|rfl<;>omega
 refine⟨q,r,x1,x2,f2,e1,e2,?_⟩;rw[<- f1];exact wT () ()
theorem aXE(hw:1<=w):∃ n:Nat,1<=n/\n<=w/\nY [.int 1,.int ((w:Int)-((m:Nat):Int))]=qq (.int n):=by refine⟨max 1 (w-m),by omega,by omega,?_⟩;rw[aXK];congr 2;split<;>omega
theorem aYw(hw:w<=64):∃ n:Nat,w<=n/\n<=64/\nW [.int 64,.int ((w:Int)+((m:Nat):Int))]=qq (.int n):=by refine⟨min 64 (w+m),by omega,by omega,?_⟩;rw[aVF];congr 2;split<;>omega
theorem aY1(d w b:Nat)(wd:Wd)(n1:wd≠.in)(n2:wd≠.num)(hw:1<=w)(bB:w<=64)(hk:k<=50000)(hl:↑rs<=70)(ok:bS [] rs)(hb:(~~~rs)[b]?=qq w):∃ (aI:List Rw) (i' v k':Nat) (x':Int),1<=v/\v<=64/\Ex rs aI i' v 13/\k'<=k+40/\xs (d<$>4) zL (eZ wd w b qz qz) (aP B k x rs)=qq (.rt (.d (.int i')),aP B k' x' aI):=by
 by_cases c1:wd=.left\/wd=.right\/wd=.slide
 ·let(q,r,x4,x5,hqr,f1,f2,f3):=d2R B k x rs (d+3) ();have a1:=aR B (k+1+1) x5 rs (d+3) (y:=.tuple [.str wd.s,.int w,.int b,.int ((q*r:Nat):Int)]) ⟨wd,w,[b,q*r]⟩ rfl ();refine⟨_,_,w,k+1+1,x5,hw,bB,(Ex.add ok (aW9 c1 hw bB hb hqr)).le (),by omega,?_⟩;refine bP (S1:=aP B k x rs) (fF rfl rfl ?_) (bC ?_)
  ·have:=oV wd;rw[dqT c1] at this;exact this
  ·erw[0,f1,f2,f3,a1]
 have t1:tv (d<$>4) (.cmp .In (.var 3) (.tup (.cons (.str "left") (.cons (.str "right") (.cons (.str "slide") .nil))))) (eZ wd w b qz qz) (aP B k x rs)=qq (false,aP B k x rs):=fF rfl rfl (by
  have:=oV wd;rw[dqF c1] at this;exact this)
 by_cases c2:wd=.not
 ·subst c2;have a1:=aR B k x rs (d+3) (y:=.tuple [.str Wd.not.s,.int w,.int b]) ⟨.not,w,[b]⟩ rfl ();refine⟨_,_,w,k,x,hw,bB,(Ex.add ok (r:=⟨.not,w,[b]⟩) ⟨hw,bB,hb⟩).le (),by omega,?_⟩;refine aJ t1 (bP (S1:=aP B k x rs) (cF rfl (bN .not .not)) (bC ?_));erw[0,a1]
 have t2:tv (d<$>4) (.cmp .Eq (.var 3) (.str "not")) (eZ wd w b qz qz) (aP B k x rs)=qq (false,aP B k x rs):=cF rfl (by
  have:=bN wd .not;rw[dqF c2] at this;exact this)
 by_cases c3:wd=.cut
 ·subst c3;let(q,r,x4,x5,hqr,f1,f2,f3):=d2R B k x rs (d+3) ();let(n,hn1,hn2,en):=aXE (m:=q*r) hw;have a1:=aR B (k+1+1) x5 rs (d+3) (y:=.tuple [.str Wd.cut.s,.int n,.int b]) ⟨.cut,n,[b]⟩ rfl ();refine⟨_,_,n,k+1+1,x5,hn1,by omega,(Ex.add ok (r:=⟨.cut,n,[b]⟩) ⟨hn1,by show n<=64;omega,w,hb,hn2⟩).le (),by omega,?_⟩;refine aJ t1 (aJ t2 (bP (S1:=aP B k x rs) (cF rfl (bN .cut .cut)) (bC ?_)));erw[0,f1,f2,f3,cO,en,a1]
 have t3:tv (d<$>4) (.cmp .Eq (.var 3) (.str "cut")) (eZ wd w b qz qz) (aP B k x rs)=qq (false,aP B k x rs):=cF rfl (by
  have:=bN wd .cut;rw[dqF c3] at this;exact this)
 by_cases c4:wd=.wide\/wd=.sign
 ·let(q,r,x4,x5,hqr,f1,f2,f3):=d2R B k x rs (d+3) ();let(n,hn1,hn2,en):=aYw (m:=q*r) bB;have a1:=aR B (k+1+1) x5 rs (d+3) (y:=.tuple [.str wd.s,.int n,.int b]) ⟨wd,n,[b]⟩ rfl ();refine⟨_,_,n,k+1+1,x5,by omega,hn2,(Ex.add ok (aWE c4 () hn2 hb hn1)).le (),by omega,?_⟩;refine aJ t1 (aJ t2 (aJ t3 (bP (S1:=aP B k x rs) (fF rfl rfl ?_) (bC ?_))))
  ·have:=aLv wd;rw[dqT c4] at this;exact this
  ·erw[0,f1,f2,f3,dS,en,a1]
 let(aI,i',v,k',x',hv,hv2,ex,hk',e):=aZM B k x rs d w b wd ⟨n1,n2,c2,λ h=>c1 (.inl h),λ h=>c1 (.inr (.inl h)),λ h=>c1 (.inr (.inr h)),c3,λ h=>c4 (.inl h),λ h=>c4 (.inr h)⟩ hw bB hk hl ok hb;refine⟨aI,i',v,k',x',hv,hv2,ex,hk',aJ t1 (aJ t2 (aJ t3 (aJ (fF rfl rfl ?_) e)))⟩;have:=aLv wd;rw[dqF c4] at this;exact this
theorem aO0(d:Nat)(hk:k<=40000)(hl:↑rs<=60)(ok:bS [] rs):∃ (aI:List Rw) (i' v k':Nat) (x':Int),1<=v/\v<=64/\Ex rs aI i' v 18/\k'<=k+60/\cl fns (d+5) 89 [.loc 0,.loc 1] (aP B k x rs)=qq (.d (.int i'),aP B k' x' aI):=by
 let(q,x1,hq,e1):=dR B k x rs (d+3) 21 (i:=21) rfl (·) (·) ();let(wd,n1,n2,e2):=aTS hq;let(w,x2,hw,bB,e3):=wR B (k+1) x1 rs (d+2) ();let(rs1,b,k1,x3,ex1,hk1,e4):=aC5 B (k+1+3) x2 rs d w rfl hw bB () () ok;have l1:=ex1.hi;let(aI,i',v,k',x',hv,hv2,ex,hk',e):=aY1 B k1 x3 rs1 d w b wd n1 n2 hw bB () () ex1.ok ex1.at_;refine⟨aI,i',v,k',x',hv,hv2,ex1.then ex,by omega,bX rfl (d+4) rfl rfl tR ?_⟩;refine cC (w:=.d W14) (S1:=aP B k x rs) ?_ rfl (cC (w:=.d (.list (oK.map λ w=>.str w.s))) (S1:=aP B k x rs) ?_ rfl (cC (w:=.d (.str wd.s)) (S1:=aP B (k+1) x1 rs) ?_ rfl (cC (w:=.d (.int w)) (S1:=aP B (k+1+3) x2 rs) ?_ rfl (cC (w:=.d (.int b)) (S1:=aP B k1 x3 rs1) ?_ rfl e))))
 ·erw[0,W14]
 ·have:=aRG;simp only[W7] at this;erw[0,this]
 ·erw[0,e1,e2]
 ·erw[0,e3]
 ·erw[0,e4]
noncomputable abbrev eAL(w b:Nat)(c4 c5:Option W):bI:=[#[0],#[1],(b:),(w:),c4,c5]
theorem aNw(d w b:Nat)(hw:1<=w)(bB:w<=64)(hk:k<=60000)(hl:↑rs<=80)(ok:bS [] rs)(hb:(~~~rs)[b]?=qq w):∃ (aI:List Rw) (i' v k':Nat) (x':Int),Ex rs aI i' v 2/\k'<=k+10/\cl fns (d+4) 90 [.loc 0,.loc 1,.d (.int b)] (aP B k x rs)=qq (.d (.int i'),aP B k' x' aI):=by
 let(s,x1,hs,e1):=dR B k x rs (d+2) 4 (i:=4) rfl (·) (·) ();obtain⟨r,hr,hrw⟩:∃ r,rs[b]?=qq r/\r.w=w:=by
  rw[yAc] at hb;cases h:rs[b]? with
  |none=>rw[h] at hb;cases hb|some r=>rw[h] at hb;exact⟨r,rfl,Option.some.inj hb⟩
 have i1:aN (.list (rs.map Rw.d)) (.int b)=qq r.d:=iT (by rw[yAc,hr];rfl);have i2:=dX r;rw[hrw] at i2
 suffices h:∃ (aI:List Rw) (i' v k':Nat) (x':Int),Ex rs aI i' v 2/\k'<=k+10/\xs (d<$>3) (aQ (aQ aFX)) (eAL w b ((s:)) qz) (aP B (k+1) x1 rs)=qq (.rt (.d (.int i')),aP B k' x' aI) by
  let(aI,i',v,k',x',ex,hk',e):=h;refine⟨aI,i',v,k',x',ex,hk',bX rfl (d+3) rfl rfl tR ?_⟩;refine cC (w:=.d (.int w)) (S1:=aP B k x rs) ?_ rfl (cC (w:=.d (.int s)) (S1:=aP B (k+1) x1 rs) ?_ rfl e)
  ·erw[0,i1,i2]
  ·erw[0,e1]
 by_cases c0:s=0
 ·subst c0;refine⟨rs,b,w,k+1,x1,(Ex.refl ok hb).le (),by omega,?_⟩;have c:(((0:Nat):Int)==0)=true:=rfl;refine bP (S1:=aP B (k+1) x1 rs) ?_ (bC rfl);erw[0,aZ,c]
 have t0:tv (d<$>3) (.cmp .Eq (.var 4) (.int 0)) (eAL w b ((s:)) qz) (aP B (k+1) x1 rs)=qq (false,aP B (k+1) x1 rs):=by
  have c:((s:Int)==0)=false:=beq_eq_false_iff_ne.mpr ();erw[0,aZ,c]
 by_cases c1:s=1
 ·have c:((s:Int)==1)=true:=beq_iff_eq.mpr ();let(q,x2,hq,e2):=dR B (k+1) x1 rs (d+2) w rfl hw () ();have f1:(1:Int)+(q:Int)=((1+q:Nat):Int):=();have a1:=aR B (k+1+1) x2 rs (d+2) (y:=.tuple [.str "cut",.int ((1+q:Nat):Int),.int b]) ⟨.cut,1+q,[b]⟩ rfl ();refine⟨_,_,1+q,k+1+1,x2,(Ex.add ok (r:=⟨.cut,1+q,[b]⟩) ⟨by show 1<=1+q;omega,by show 1+q<=64;omega,w,hb,by show 1+q<=w;omega⟩).le (),by omega,?_⟩;refine aJ t0 (bP (S1:=aP B (k+1) x1 rs) ?_ (bC ?_))
  ·erw[0,aZ,c]
  ·erw[0,e2,dS,f1,a1]
 have t1:tv (d<$>3) (.cmp .Eq (.var 4) (.int 1)) (eAL w b ((s:)) qz) (aP B (k+1) x1 rs)=qq (false,aP B (k+1) x1 rs):=by
  have c:((s:Int)==1)=false:=beq_eq_false_iff_ne.mpr ();erw[0,aZ,c]
 by_cases c2:s=2
 ·have c:((s:Int)==2)=true:=beq_iff_eq.mpr ();let(q,x2,hq,e2):=dR B (k+1) x1 rs (d+2) w rfl hw () ();have a1:=aR B (k+1+1) x2 rs (d+2) (y:=.tuple [.str "right",.int w,.int b,.int q]) ⟨.right,w,[b,q]⟩ rfl ();refine⟨_,_,w,k+1+1,x2,(Ex.add ok (r:=⟨.right,w,[b,q]⟩) ⟨hw,bB,hb,by show q<64;omega⟩).le (),by omega,?_⟩;refine aJ t0 (aJ t1 (bP (S1:=aP B (k+1) x1 rs) ?_ (bC ?_)))
  ·erw[0,aZ,c]
  ·erw[0,e2,a1]
 have t2:tv (d<$>3) (.cmp .Eq (.var 4) (.int 2)) (eAL w b ((s:)) qz) (aP B (k+1) x1 rs)=qq (false,aP B (k+1) x1 rs):=by
  have c:((s:Int)==2)=false:=beq_eq_false_iff_ne.mpr ();erw[0,aZ,c]
 let(n0,k1,x2,hn0,hk1,e2):=nR B (k+1) x1 rs d w hw bB ();have a1:=aR B k1 x2 rs (d+2) (y:=.tuple [.str "num",.int w,.int n0]) ⟨.num,w,[n0]⟩ rfl ();have x1':=Ex.add ok (r:=⟨.num,w,[n0]⟩) ⟨hw,bB,hn0⟩;have a2:=aR B k1 x2 (rs++[⟨.num,w,[n0]⟩]) (d+2) (y:=.tuple [.str "and",.int w,.int b,.int ↑rs]) ⟨.and,w,[b,↑rs]⟩ rfl (by simp;omega);have x2':=Ex.add x1'.ok (r:=⟨.and,w,[b,↑rs]⟩) ⟨hw,bB,x1'.keep _ _ hb,x1'.at_⟩;refine⟨_,_,w,k1,x2,x1'.then x2',by omega,?_⟩;refine aJ t0 (aJ t1 (aJ t2 (cC (w:=.d (.int ↑rs)) (S1:=aP B k1 x2 (rs++[(⟨.num,w,[n0]⟩:Rw)])) ?_ rfl (bC ?_))))
 ·erw[0,e2,a1]
 ·erw[0,a2]
end
def aZH(s t:Option (List D))(l:List D)(T:aE)(y:D)(h:↑l<=1000):dI (s::t::qq l::T) (.loc 2) (.d y)=qq (.d .none,s::t::qq (l++[y])::T):=by unfold dI;simp only[yBr,yBc];rw[if_pos (by rw[qo];omega)];rfl
def aQ3{fs:List Fn}{f:Nat}{F:Fn}(h:fs[f]?=qq F)(d:Nat){ws:List W}{env:bI}{S S1 S2:aE}{x:D}(hw:↑ws=F.np)(he:ws.map qq++yAg (↑F.N-↑ws) qz=env)(hS:S1.take ↑S=S2)(k:xs (aC fs d) F.body env S=qq (.rt (.d x),S1)):cl fs (d+1) f ws S=qq (.d x,S2):=by subst he;rw[bE h d ws S hw];simp only[gL,k,oB,lC,hS]
def aPd(d:Nat)(ns:List Int)(k:Nat)(x:Int)(hk:k<=30000):∃ (rs:List Rw) (aD:List Nat) (k':Nat) (x':Int),bS [] rs/\↑rs<=40/\(∀ o∈aD,o<↑rs)/\↑aD<=8/\k'<=k+200/\cl fns (d+6) 91 [.loc 0] [qq (aV ns k x)]=qq (.d (rs<*(aD*>nD)),[qq (aV ns k' x')]):=by
 let(env1,S1,p1,a3,rs,aD,k1,x1,ok,hl,hk1,ho,hm,rfl,rfl):=aBw (t:=.one 3) (fi:=lv (d<$>5) aAa) (fb:=xs (d<$>5) aCz) (env:=[#[0],#[1],#[2],qz]) (S:=aP (ns,[]) k x [])
  (λ j env S'=>∃ (a3:Option W) (rs:List Rw) (aD:List Nat) (k':Nat) (x':Int),bS [] rs/\↑rs<=20*j/\k'<=k+70*j/\↑aD=j/\(∀ o∈aD,o<↑rs)/\env=[#[0],#[1],#[2],a3]/\S'=aP (ns,aD.map nD) k' x' rs)
  (show lv (d<$>5) aAa _ _=qq ((yBd 2).map (λ k=>yAn (k:Nat)),_) by
    simp only[aAa,uA,rA,tN,tV,tI];exact qS (w:=2) rfl ())
  ⟨qz,[],[],k,x,trivial,by simp,by omega,rfl,λ o h=>(by cases h),rfl,rfl⟩ (by
   rintro j dd env S' hj ⟨a3,rs,aD,k',x',ok,hl,hk',ho,hm,rfl,rfl⟩;have hj':j<2:=by simpa using hj
   let(rs1,i1,v,k2,x2,hv,hv2,ex1,hk2,e1):=aO0 (ns,aD.map nD) k' x' rs d () () ok;have l1:=ex1.hi;let(rs2,i2,v2,k3,x3,ex2,hk3,e2):=aNw (ns,aD.map nD) k2 x2 rs1 (d+1) v i1 hv hv2 () () ex1.ok ex1.at_;have l2:=ex2.hi;have ap:=aZH (qq (aV ns k3 x3)) (qq (rs2.map Rw.d)) (aD.map nD) [] (.int i2) (by rw[yAb];omega);have mm:∀ o∈aD++[i2],o<↑rs2:=λ o h=>by
    rcases List.mem_append.mp h with h|h
    ·have:=hm o h;have g:=(ex1.then ex2).keep o _ (yAa (by rw[yAb];exact this));have:=(gIm g).1;rwa [yAb] at this
    ·rw[yEr] at h;subst h;have:=(gIm ex2.at_).1;rwa [yAb] at this
   refine⟨[#[0],#[1],#[2],qq (.d dd)],[#[0],#[1],#[2],qq (.d dd)],aP (ns,(aD++[i2]).map nD) k3 x3 rs2,rfl,?_,qq (.d dd),rs2,aD++[i2],k3,x3,ex2.ok,by omega,by omega,by simp[ho],mm,rfl,rfl⟩;have es:(aD++[i2]).map nD=aD.map nD++[.int i2]:=by rw[yAw];rfl
   rw[es];erw[20,aCz,e1,e2,gK,ap])
 have hl':↑rs<=40:=by simpa using hl
 have hk1':k1<=k+140:=by simpa using hk1
 have ho':↑aD=2:=by simpa using ho
 let(q,x2,hq,e2):=dR (ns,aD.map nD) k1 x1 rs (d+4) 2 (i:=2) rfl (·) (·) ();have f1:(1:Int)+(q:Int)=((1+q:Nat):Int):=();have cu:fA (aD.map nD) qz (qq ((1+q:Nat):Int))=(aD.take (1+q)).map nD:=by
  rw[List.map_take];unfold fA;have h1:HT.sIx ↑(aD.map nD) 0 qz=0:=rfl;have h2:HT.sIx ↑(aD.map nD) ↑(aD.map nD) (qq ((1+q:Nat):Int))=1+q:=by
   rw[yAb,ho'];have:q=0\/q=1:=();rcases this with rfl|rfl<;>rfl
  rw[h1,h2];rfl
 refine⟨rs,aD.take (1+q),k1+1,x2,ok,hl',λ o h=>hm o (List.mem_of_mem_take h),by rw[yBk];omega,by omega,aQ3 (S1:=aP (ns,aD.map nD) (k1+1) x2 rs) rfl (d+5) rfl rfl rfl ?_⟩;refine cC (w:=.loc 1) (S1:=[qq (aV ns k x),qq []]) rfl rfl (cC (w:=.loc 2) (S1:=aP (ns,[]) k x []) rfl rfl (fD (e1:=[#[0],#[1],#[2],a3]) (S1:=aP (ns,aD.map nD) k1 x1 rs) p1 (bC ?_)));erw[0,jE,jG,mS,nP,e2,dS,f1,cu]
namespace LK
inductive Ft4 where
 |width|row|fit|number
def Ft4.c:Ft4->Str
 |.width => "NoWidth" |.row => "NoRow" |.fit => "NoFit" |.number => "NoNumber"
def Ft4.s:Ft4->Str
 |.width => "width" |.row => "row" |.fit => "fit" |.number => "number"
def ari:Wd->Nat
 |.in=>0
 |.num|.not|.cut|.wide|.sign=>1
 |.pick=>3|_=>2
def Ar(r:Rw):Prop:=↑r.args=ari r.wd
def eD(a b:Nat):Bool:=((a:Nat):Int)==((b:Nat):Int)
def fN(rs:List Rw)(a:Nat):Rw:=rs.getD a ⟨.in,0,[]⟩
def sB(wd:Wd)(w:Nat)(vs:List Nat):Bool:=match wd with
 |.same|.less|.under=>eD w 1&&eD (vs.getD 0 0) (vs.getD 1 0)
 |.pick=>eD (vs.getD 0 0) 1&&(eD (vs.getD 1 0) w&&eD (vs.getD 2 0) w)|.cut=>decide ((w:Int)<=((vs.getD 0 0:Nat):Int))
 |.wide|.sign=>decide (((vs.getD 0 0:Nat):Int)<=(w:Int))
 |_=>vs.all λ v=>eD v w
def sD(r:Rw):Bool:=match r.wd with
 |.num=>decide (r.args.getD 0 0<2^r.w)
 |.left|.right|.slide=>decide (r.args.getD 1 0<=63)
 |_=>true
def fL(r:Rw):List Nat:=r.args.take (aM r.wd)
def aR2(wd:Wd):aM wd<=ari wd:=by cases wd<;>decide
def aJH(h:Ar r):↑(fL r)=aM r.wd:=by unfold fL;rw[yBk,h];exact yDn (aR2 r.wd)
def aKW(h:Ar r):↑(fL r)<=3:=by rw[aJH h];cases r.wd<;>decide
def aRJ(a:Wd):aS .In (.str a.s) (.tuple [.str "wide",.str "sign"])=qq (.bool (decide (a=.wide\/a=.sign))):=by cases a<;>rfl
def aBM{vs:List Nat}(h:k<↑vs):aN (vs*>nD) (.int k)=qq (.int ((vs.getD k 0:Nat):Int)):=by refine gE ?_;rw[yAc,yAa h,xAg,yAa h];rfl
def aY6(a b c x y z:Int):aS .Eq (.tuple [.int a,.int b,.int c]) (.tuple [.int x,.int y,.int z])=qq (.bool ((a==x)&&((b==y)&&(c==z)))):=by unfold aS qA;simp only[PyData.canLay0,yCs,yEy,yCn,yCd,yFb,yCi,yAk];rfl
def aX8{vs:List Nat}(h:↑vs=3):vs.map nD=[.int ((vs.getD 0 0:Nat):Int),.int ((vs.getD 1 0:Nat):Int),.int ((vs.getD 2 0:Nat):Int)]:=by
 match vs,h with
 |[a,b,c],_=>rfl
def all_map{α:Type}(g:α->Bool)(l:List α):aB5 [.list (l.map λ x=>yDl (g x))]=qq (.bool (l.all g)):=by
 have:lV (l.map λ x=>yDl (g x))=qq (l.map g):=by
  induction l with
  |nil=>rfl|cons a l ih=>simp only[yAt,lV,ih,oB]
 show(lV _).bind _=_;rw[this,oB];simp[List.all_map]
def any_map{α:Type}(g:α->Bool)(l:List α):aB6 [.list (l.map λ x=>yDl (g x))]=qq (.bool (l.any g)):=by
 have:lV (l.map λ x=>yDl (g x))=qq (l.map g):=by
  induction l with
  |nil=>rfl|cons a l ih=>simp only[yAt,lV,ih,oB]
 show(lV _).bind _=_;rw[this,oB];simp[List.any_map]
def aRU(h1:¬(wd=.same\/wd=.less\/wd=.under))(h2:¬ wd=.pick)(h3:¬ wd=.cut)(h4:¬(wd=.wide\/wd=.sign))(w:Nat)(vs:List Nat):sB wd w vs=vs.all λ v=>eD v w:=by cases wd<;>first|rfl|(exact absurd rfl h2)|(exact absurd rfl h3)|(exact absurd (.inl rfl) h1)|(exact absurd (.inr (.inl rfl)) h1)|(exact absurd (.inr (.inr rfl)) h1)|(exact absurd (.inl rfl) h4)|(exact absurd (.inr rfl) h4)
def aQ7(d:Nat)(r:Rw)(vs:List Nat)(hv:↑vs=aM r.wd)(S:aE):cl fns (d+1) 59 [.d r.d,.d (vs*>nD)] S=qq (.d (.bool (sB r.wd r.w vs)),S):=by
 have r0:=iF r;have r1:=dX r;have t1:=@fF [qq (.d r.d),qq (.d (vs*>nD)),qq (.d (.str r.wd.s)),(r.w:),qz] 2 (.con "COMPARES" nB) S _ _ _ (aC fns d) rfl rfl (pE r.wd);have t2:=@cF [qq (.d r.d),qq (.d (vs*>nD)),qq (.d (.str r.wd.s)),(r.w:),qz] 2 _ "pick" _ S (aC fns d) rfl (bN r.wd .pick);have t3:=@cF [qq (.d r.d),qq (.d (vs*>nD)),qq (.d (.str r.wd.s)),(r.w:),qz] 2 _ "cut" _ S (aC fns d) rfl (bN r.wd .cut);have t4:=@fF [qq (.d r.d),qq (.d (vs*>nD)),qq (.d (.str r.wd.s)),(r.w:),qz] 2 (.con "WIDENINGS" aCT) S _ _ _ (aC fns d) rfl rfl (aRJ r.wd);refine bX rfl d rfl rfl yAe (cC (w:=.d (.str r.wd.s)) (S1:=S) (by erw[20,r0]) rfl (cC (w:=.d (.int r.w)) (S1:=S) (by erw[20,r1]) rfl ?_));show xs (aC fns d) _ [qq (.d r.d),qq (.d (vs*>nD)),qq (.d (.str r.wd.s)),(r.w:),qz] S=_;by_cases c1:r.wd=.same\/r.wd=.less\/r.wd=.under
 ·rw[dqT c1] at t1;have hn:↑vs=2:=by rcases c1 with c|c|c<;>rw[hv,c]<;>rfl
  have g0:aN (vs*>nD) (.int 0)=qq (.int ((vs.getD 0 0:Nat):Int)):=@aBM 0 _ ();have g1:aN (vs*>nD) (.int 1)=qq (.int ((vs.getD 1 0:Nat):Int)):=@aBM 1 _ ();have ef:sB r.wd r.w vs=(eD r.w 1&&eD (vs.getD 0 0) (vs.getD 1 0)):=by rcases c1 with c|c|c<;>rw[c]<;>rfl
  rw[ef];refine bP t1 (bC ?_);unfold eD;generalize yAj (vs.map nD)=T at *;rcases yBi ((r.w:Int)==1) with z|z
  ·erw[20,aZ,z,g0,g1];rw[show((r.w:Int)==((1:Nat):Int))=true from z];rfl
  ·erw[20,aZ,z];rw[show((r.w:Int)==((1:Nat):Int))=false from z];rfl
 rw[dqF c1] at t1;refine aJ t1 ?_;by_cases c2:r.wd=.pick
 ·rw[dqT c2] at t2;have hn:↑vs=3:=by rw[hv,c2];rfl
  have ef:sB r.wd r.w vs=(eD (vs.getD 0 0) 1&&(eD (vs.getD 1 0) r.w&&eD (vs.getD 2 0) r.w)):=by rw[c2];rfl
  rw[ef];refine bP t2 (bC ?_);have e:=aY6 ((vs.getD 0 0:Nat):Int) ((vs.getD 1 0:Nat):Int) ((vs.getD 2 0:Nat):Int) 1 (r.w:Nat) (r.w:Nat);rw[<- aX8 hn] at e;erw[0,e]
 rw[dqF c2] at t2;refine aJ t2 ?_;by_cases c3:r.wd=.cut
 ·rw[dqT c3] at t3;have hn:↑vs=1:=by rw[hv,c3];rfl
  have ef:sB r.wd r.w vs=decide ((r.w:Int)<=((vs.getD 0 0:Nat):Int)):=by rw[c3];rfl
  have g0:aN (vs*>nD) (.int 0)=qq (.int ((vs.getD 0 0:Nat):Int)):=@aBM 0 _ ();rw[ef];exact bP t3 (bC (by erw[20,g0,xN]))
 rw[dqF c3] at t3;refine aJ t3 ?_;by_cases c4:r.wd=.wide\/r.wd=.sign
 ·rw[dqT c4] at t4;have hn:↑vs=1:=by rcases c4 with c|c<;>rw[hv,c]<;>rfl
  have ef:sB r.wd r.w vs=decide (((vs.getD 0 0:Nat):Int)<=(r.w:Int)):=by rcases c4 with c|c<;>rw[c]<;>rfl
  have g0:aN (vs*>nD) (.int 0)=qq (.int ((vs.getD 0 0:Nat):Int)):=@aBM 0 _ ();rw[ef];exact bP t4 (bC (by erw[20,g0,aEh]))
 rw[dqF c4] at t4;refine aJ t4 (bC ?_);rw[aRU c1 c2 c3 c4];have hc:lv (aC fns d) aF1 [qq (.d r.d),qq (.d (vs*>nD)),qq (.d (.str r.wd.s)),(r.w:),qz] S=qq (vs.map (λ v=>yDl (eD v r.w)),S):=by
  refine lU (fi:=lv (aC fns d) (.it (.var 1))) (fe:=ev (aC fns d) (.cmp .Eq (.var 4) (.var 3))) nD (λ v=>yDl (eD v r.w)) vs ?_ (by rw[qo,hv];cases r.wd<;>decide) λ v _=>?_
  ·erw[0,fH]
  ·refine⟨_,rfl,λ S'=>?_⟩;erw[0,clr,yAz,yBo,nD,aZ]
 erw[0,hc,all_map]
def ar1{r:Rw}(h:↑r.args=1):aN r.d (.int 2)=qq (.int ((r.args.getD 0 0:Nat):Int)):=by
 let(wd,w,args):=r
 match args,h with
 |[a],_=>rfl
def ar2{r:Rw}(h:↑r.args=2):aN r.d (.int 3)=qq (.int ((r.args.getD 1 0:Nat):Int)):=by
 let(wd,w,args):=r
 match args,h with
 |[a,b],_=>rfl
def aSH(a w:Nat):decide (((a:Nat):Int)<=((2^w-1:Nat):Int))=decide (a<2^w):=by have:=xAe w;rw[decide_eq_decide];omega
def aQ9{r:Rw}(h1:¬ r.wd=.num)(h2:¬(r.wd=.left\/r.wd=.right\/r.wd=.slide)):sD r=true:=by let(wd,w,args):=r;cases wd<;>first|rfl|(exact absurd rfl h1)|(exact absurd (.inl rfl) h2)|(exact absurd (.inr (.inl rfl)) h2)|(exact absurd (.inr (.inr rfl)) h2)
def aQU(d:Nat)(r:Rw)(ar:Ar r)(hw:r.w<=64)(S:aE):cl fns (d+2) 60 [.d r.d] S=qq (.d (.bool (sD r)),S):=by
 have r0:=iF r;have r1:=dX r;refine bX rfl (d+1) rfl rfl yAe ?_;show xs (d<$>1) _ [qq (.d r.d)] S=_;by_cases c1:r.wd=.num
 ·have e1:aS .Eq (.str r.wd.s) (.str "num")=qq (.bool true):=by have:=bN r.wd .num;rw[dqT c1] at this;exact this
  have a1:=@ar1 r (by rw[ar,c1];rfl);have fu:=cT d r.w () S;have ef:sD r=decide (r.args.getD 0 0<2^r.w):=by unfold sD;rw[c1]
  rw[ef,<- aSH];generalize r.d=R at *;exact bP (S1:=S) (by erw[20,r0,e1]) (bC (by erw[20,a1,r1,fu,aEh]))
 have e1:aS .Eq (.str r.wd.s) (.str "num")=qq (.bool false):=by have:=bN r.wd .num;rw[dqF c1] at this;exact this
 refine aJ (S1:=S) (by erw[20,r0,e1]) ?_;by_cases c2:r.wd=.left\/r.wd=.right\/r.wd=.slide
 ·have e2:aS .In (.str r.wd.s) (kQ*>Tv.d)=qq (.bool true):=by have:=oV r.wd;rw[dqT c2] at this;exact this
  have a2:=@ar2 r (by rw[ar];rcases c2 with c|c|c<;>rw[c]<;>rfl);have ef:sD r=decide (r.args.getD 1 0<=63):=by unfold sD;rcases c2 with c|c|c<;>rw[c]
  have ee:decide (((r.args.getD 1 0:Nat):Int)<=63)=decide (r.args.getD 1 0<=63):=by rw[decide_eq_decide];omega
  rw[ef,<- ee];generalize r.d=R at *;exact bP (S1:=S) (by erw[20,r0,e2]) (bC (by erw[20,a2,aEh]))
 have e2:aS .In (.str r.wd.s) (kQ*>Tv.d)=qq (.bool false):=by have:=oV r.wd;rw[dqF c2] at this;exact this
 rw[aQ9 c1 c2];exact aJ (S1:=S) (by erw[20,r0,e2]) (bC (by erw[20,True]))
def aIR{rs:List Rw}(h:a<↑rs):aN (rs*>Rw.d) (.int a)=qq (fN rs a).d:=by refine gE ?_;unfold fN;rw[yAc,yAa h,xAg,yAa h];rfl
def oU(d:Nat)(rs:List Rw)(r:Rw)(ar:Ar r)(h:∀ a∈fL r,a<↑rs)(S:aE):cl fns (d+2) 9 [.d r.d,.d (rs*>Rw.d)] S=qq (.d (.tuple ((fL r).map λ a=>(fN rs a).d)),S):=by
 have op:=qR d r S;refine bX rfl (d+1) rfl rfl yAe ?_;show xs (d<$>1) _ [qq (.d r.d),qq (.d (rs*>Rw.d)),qz] S=_;have hc:lv (d<$>1) aCF [qq (.d r.d),qq (.d (rs*>Rw.d)),qz] S=qq ((fL r).map (λ a=>(fN rs a).d),S):=by
  refine lU (fi:=lv (d<$>1) (.it (.call 7 (.cons (.var 0) .nil)))) (fe:=ev (d<$>1) (.ix (.var 1) (.var 2))) nD (λ a=>(fN rs a).d) (fL r) ?_ (by rw[qo];have:=aKW ar;omega) λ a ha=>?_
  ·erw[0,op,fH]
  ·refine⟨_,rfl,λ S'=>?_⟩;have g:=aIR (h a ha);erw[0,clr,yAz,yBo,nD,g]
 exact bC (by erw[20,hc,jE,jG])
def aMn{rs:List Rw}(h:k<↑rs):rs[k]?=qq (fN rs k):=by unfold fN;rw[xAg,yAa h];rfl
def aXh{C:Calls}{i:Nat}{env:bI}{S:aE}{R:D}{w:Nat}(h:env[i]?=qq (qq (.d R)))(h1:aN R (.int 1)=qq (.int w)):tv C (.or (.cmp .Lt (.ix (.var i) (.int 1)) (.int 1)) (.cmp .Gt (.ix (.var i) (.int 1)) (.int 64))) env S=qq (decide (w<1\/64<w),S):=by
 by_cases c1:w<1
 ·have d1:decide ((w:Int)<1)=true:=dqT ();rw[dqT (Or.inl c1)];erw[0,h,h1,dM,d1]
 ·have d1:decide ((w:Int)<1)=false:=dqF ();have d2:decide ((64:Int)<(w:Int))=decide (w<1\/64<w):=by rw[decide_eq_decide];omega
  rw[<- d2];erw[0,h,h1,dM,kR,d1]
def tO(h:a=b):eD a b=true:=by subst h;unfold eD;exact beq_self_eq_true _
def aVj(h:RwOk r ws):Ar r/\sB r.wd r.w ws=true/\sD r=true:=by
 have i1:∀ v:Nat,([v].all λ x=>eD x v)=true:=λ v=>by rw[yGg,tO rfl];rfl
 have i2:∀ v:Nat,([v,v].all λ x=>eD x v)=true:=λ v=>by rw[yGg,tO rfl];exact i1 v
 cases h with
 |inp=>exact⟨rfl,rfl,rfl⟩|num _ _ hn=>exact⟨rfl,rfl,dqT hn⟩|nt=>exact⟨rfl,i1 _,rfl⟩
 |sh _ _ aG hk=>erw[50,aG]<;>exact⟨rfl,i1 _,dqT (Nat.le_of_lt_succ hk)⟩
 |cut _ hv=>exact⟨rfl,dqT (Int.ofNat_le.mpr hv),rfl⟩|wide _ hv=>exact⟨rfl,dqT (Int.ofNat_le.mpr hv),rfl⟩|sign _ hv=>exact⟨rfl,dqT (Int.ofNat_le.mpr hv),rfl⟩
 |bw _ _ aG=>erw[50,aG]<;>exact⟨rfl,i2 _,rfl⟩
 |sm h1 h2=>
   rename_i s w x y;cases s<;>exact⟨rfl,i2 _,rfl⟩
 |cmp h1 h2 aG=>
   rename_i wd v x y;have:(eD 1 1&&eD v v)=true:=by rw[tO rfl,tO rfl];rfl
   erw[50,aG]<;>exact⟨rfl,this,rfl⟩
 |pick h1 h2=>
   rename_i w c x y;exact⟨rfl,(show(eD 1 1&&(eD w w&&eD w w))=true by rw[tO rfl,tO rfl];rfl),rfl⟩
def aWa(rs:List Rw)(a:Nat):g0 (~~~rs) a=(fN rs a).w:=by show(~~~rs).getD a 0=(rs.getD a ⟨.in,0,[]⟩).w;rw[xAg,yAc,xAg];cases rs[a]? <;> rfl
def lar(d:Nat)(rs:List Rw)(k:Nat)(hk:k<↑rs)(p:Prg rs)(S:aE):cl fns (d+3) 61 [.d (rs*>Rw.d),.d (.int k)] S=qq (.d .none,S):=by
 have rk:=aIR hk;let(f1,f2):=p.fit k _ (aMn hk);have w1:=p.ws k _ (aMn hk);let(ar,c3,c4):=aVj f1;rw[show aT (fN rs k) (~~~rs)=(fL (fN rs k)).map λ a=>(fN rs a).w from yBx λ a _=>aWa rs a] at c3;clear f1;generalize fN rs k=r at *;have r1:=dX r;have op:=qR (d+1) r S;have op:cl fns (d+2) 7 [.d r.d] S=qq (.d (.tuple ((fL r).map nD)),S):=op;have ol:=aJH ar;have o3:=aKW ar;have c1:¬ (r.w<1\/64<r.w):=();have c2:¬ ((fL r).any λ a=>decide ((k:Int)<=((a:Nat):Int)))=true:=λ z=>by
  rw[List.any_eq_true] at z;let(a,m,q):=z;have:=f2 a m;have:=oqT q;omega
 have lt:∀ a∈fL r,a<↑rs:=λ a m=>yHy (f2 a m) hk
 have of':=oU d rs r ar lt S;have wf:=aQ7 (d+1) r ((fL r).map λ a=>(fN rs a).w) (by rw[yAb];exact ol) S;rw[c3] at wf;have nf:=aQU d r ar () S;rw[c4] at nf;have ha:lv (d<$>2) aCG [qq (.d (rs*>Rw.d)),(k:),qq (.d r.d),qz,qz,qz] S=qq ((fL r).map (λ a=>yDl (decide ((k:Int)<=((a:Nat):Int)))),S):=by
  refine lU (fi:=lv (d<$>2) (.it (.call 7 (.cons (.var 2) .nil)))) (fe:=ev (d<$>2) (.cmp .GtE (.var 4) (.var 1))) nD (λ a=>yDl (decide ((k:Int)<=((a:Nat):Int)))) (fL r) ?_ (by rw[qo];omega) λ a _=>?_
  ·erw[0,op,fH]
  ·refine⟨_,rfl,λ S'=>?_⟩;erw[0,clr,yAz,yBo,nD,xN]
 have hb:lv (d<$>2) aFZ [qq (.d (rs*>Rw.d)),(k:),qq (.d r.d),qz,qz,qz] S=qq (((fL r).map λ a=>(fN rs a).w).map nD,S):=by
  rw[yBh];refine lU (fi:=lv (d<$>2) (.it (.call 9 (.cons (.var 2) (.cons (.var 0) .nil))))) (fe:=ev (d<$>2) (.ix (.var 5) (.int 1))) (λ a=>(fN rs a).d) (nD ∘ λ a=>(fN rs a).w) (fL r) ?_ (by rw[qo];omega) λ a _=>?_
  ·erw[0,of',fH]
  ·refine⟨_,rfl,λ S'=>?_⟩;erw[0,clr,yAz,yBo,dX]
 have t1:=@aXh (d<$>2) 2 [qq (.d (rs*>Rw.d)),(k:),qq (.d r.d),qz,qz,qz] S _ _ rfl r1;rw[dqF c1] at t1;have t2:tv (d<$>2) (.blt .any (.cons (.fz aCG) .nil)) [qq (.d (rs*>Rw.d)),(k:),qq (.d r.d),qz,qz,qz] S=qq (false,S):=by
  rw[<- Bool.eq_false_iff.mpr c2];erw[0,ha,any_map]
 have H:xs (d<$>2) aCK [qq (.d (rs*>Rw.d)),(k:),qz,qz,qz,qz] S=qq (.nx [qq (.d (rs*>Rw.d)),(k:),qq (.d r.d),qq (.d (.tuple (((fL r).map λ a=>(fN rs a).w).map nD))),qz,qz],S):=by
  refine cC (w:=.d r.d) (S1:=S) (by erw[20,rk]) rfl (aJ t1 (aJ t2 (cC (w:=.d (.tuple (((fL r).map λ a=>(fN rs a).w).map nD))) (S1:=S) ?_ rfl (aJ (S1:=S) ?_ (aJ (S1:=S) ?_ rfl)))))
  ·simp only[yDc,yDu];erw[0,hb,jE,jG]
  ·simp only[yDc,yDu];generalize yAj (((fL r).map λ a=>(fN rs a).w).map nD)=WT at *;generalize yAj (rs.map Rw.d)=RT at *;erw[0,wf]
  ·simp only[yDc,yDu];generalize yAj (((fL r).map λ a=>(fN rs a).w).map nD)=WT at *;generalize yAj (rs.map Rw.d)=RT at *;erw[0,nf]
 rw[bE rfl (d+2) _ S rfl];show((xs (d<$>2) aCK [qq (.d (rs*>Rw.d)),(k:),qz,qz,qz,qz] S).bind _)=_;rw[H,oB];show qq (W.d .none,S.take ↑S)=_;rw[yAe]
def look_ok(d:Nat)(rs:List Rw)(aD:List Nat)(ok:bS [] rs)(ho:∀ o∈aD,o<↑rs)(hl:↑rs<=100)(hol:↑aD<=1000)(S:aE):cl fns (d+4) 62 [.d (rs<*(aD*>nD))] S=qq (.d (.bool true),S):=by
 have p:=xR ok hl;have ll:eX [(rs*>Rw.d)]=qq (.int ↑rs):=by rw[dL,yAb]
 have pu:Tg.put (.many [2,3]) (rs<*(aD*>nD)) [qq (.d (rs<*(aD*>nD))),qz,qz,qz,qz]=qq [qq (.d (rs<*(aD*>nD))),qz,qq (.d (rs*>Rw.d)),qq (.d (aD*>nD)),qz]:=rfl;generalize yAj [(rs*>Rw.d),(aD*>nD)]=P at *;let(aY,S',p1,a1,rfl,hS):=nK (t:=.one 1) (fi:=lv (d<$>3) aIg) (fb:=xs (d<$>3) aHK) (env:=[qq (.d P),qz,qq (.d (rs*>Rw.d)),qq (.d (aD*>nD)),qz]) (S:=S) (S1:=S) (ds:=(yBd ↑rs).map nD)
  (λ j env S'=>∃ a1:Option W,env=[qq (.d P),a1,qq (.d (rs*>Rw.d)),qq (.d (aD*>nD)),qz]/\S'=S)
  (by
    refine qS ?_ ()
    generalize yAj (rs.map Rw.d)=R at *;erw[20,ll])
  ⟨qz,rfl,rfl⟩ (by
   rintro j dd env S' hd ⟨a1,rfl,rfl⟩;let(hj,rfl):=aPL hd;have la:=lar d rs j hj p S';refine⟨_,_,_,rfl,?_,(j:),rfl,rfl⟩;generalize yAj (rs.map Rw.d)=R at *;refine aBu ?_;erw[20,la])
 rw[hS] at p1;have hc:lv (d<$>3) aDg [qq (.d P),a1,qq (.d (rs*>Rw.d)),qq (.d (aD*>nD)),qz] S=qq (aD.map (λ o=>yDl (decide (((↑rs:Nat):Int)<=((o:Nat):Int)))),S):=by
  refine lU (fi:=lv (d<$>3) (.it (.var 3))) (fe:=ev (d<$>3) (.cmp .GtE (.var 4) (.blt .len (.cons (.var 2) .nil)))) nD (λ o=>yDl (decide (((↑rs:Nat):Int)<=((o:Nat):Int)))) aD ?_ (by rw[qo];omega) λ a _=>?_
  ·erw[0,fH]
  ·refine⟨_,rfl,λ S'=>?_⟩;generalize yAj (rs.map Rw.d)=R at *;erw[0,clr,yAz,yBo,ll,nD,xN]
 have no:(aD.any λ o=>decide (((↑rs:Nat):Int)<=((o:Nat):Int)))=false:=by
  rw[Bool.eq_false_iff];intro z;rw[List.any_eq_true] at z;let(a,m,q):=z;have:=ho a m;have:=oqT q;omega
 have ta:tv (d<$>3) (.blt .any (.cons (.fz aDg) .nil)) [qq (.d P),a1,qq (.d (rs*>Rw.d)),qq (.d (aD*>nD)),qz] S=qq (false,S):=by
  rw[<- no];erw[0,hc,any_map]
 refine bX rfl (d+3) rfl rfl yAe ?_;show xs (d<$>3) _ [qq (.d P),qz,qz,qz,qz] S=_;refine fD (e1:=[qq (.d P),qz,qq (.d (rs*>Rw.d)),qq (.d (aD*>nD)),qz]) (S1:=S) ?_ (fD (S1:=S) p1 (aJ ta (bC rfl)));show pU _ _ _ _=_;unfold pU;rw[show ev (d<$>3) (.var 0) [qq (.d P),qz,qz,qz,qz] S=qq (.d P,S) from rfl,oB];show(Tg.put _ _ _).bind _=_;rw[pu];rfl
end LK
def aC4:∀ (rs:List Rw) (W is aF:List Nat),gN rs W is (yAg ↑rs 0) aF=cI rs W is aF
 |[],_,_,_=>rfl
 |r::rs,W,is,aF=>by
   rw[yBg,yAy,gN,cI,yGz,yGz,aC4 rs,aC4 rs]
structure Pq(t:D):Prop where
 a:t.canLay0=true
 b:yCd t t=true
 c:t.depth<=5
def aLO:∀ {ts:List D},(∀ t∈ts,Pq t)->yCs ts=true/\yFb ts ts=true/\yCn ts<=5
 |[],_=>⟨rfl,by simp[yFb],by simp[yCn]⟩
 |t::ts,h=>by
   let(h1,h2,h3):=aLO λ x m=>h x (xAf _ m)
   have ht:=h t xAc;refine⟨?_,by simp[yFb,ht.b,h2],?_⟩
   ·show(t.canLay0&&yCs ts)=true;rw[ht.a,h1];rfl
   ·have:=ht.c;simp only[yCn];omega
def aEm{ts:List D}(h:∀ t∈ts,Pq t):aS .NotEq (.list ts) (.list ts)=qq (.bool false)/\aS .NotEq (.tuple ts) (.tuple ts)=qq (.bool false):=by
 let(h1,h2,h3):=aLO h;have a1:(yEx ts).canLay0=true:=h1;have a2:(yAj ts).canLay0=true:=h1;have b1:yCd (.list ts) (.list ts)=true:=by simp[yCd,h2]
 have b2:yCd (.tuple ts) (.tuple ts)=true:=by simp[yCd,h2]
 have c1:(yEx ts).depth<=6:=by simp only[yEy];omega
 have c2:(yAj ts).depth<=6:=by simp only[yEy];omega
 constructor
 ·unfold aS qA;simp only[];rw[if_pos ⟨a1,a1,by omega⟩,b1];rfl
 ·unfold aS qA;simp only[];rw[if_pos ⟨a2,a2,by omega⟩,b2];rfl
def aTb(i:Int):Pq (.int i):=⟨rfl,by simp[yCd],by simp[yEy]⟩
def aJC(l:List Nat):∀ t∈l.map nD,Pq t:=λ t m=>by
 let(n,_,rfl):=List.mem_map.mp m;exact aTb _
def aUx(r:Rw):Pq r.d:=by
 have h:∀ t∈yIa r.wd.s::nD r.w::r.args.map nD,t.canLay0=true/\yCd t t=true/\t.depth<=0:=λ t m=>by
  rcases List.mem_cons.mp m with rfl|m
  ·exact⟨by cases r.wd<;>kernel_rfl,by simp[yCd],by simp[yEy]⟩
  ·rcases List.mem_cons.mp m with rfl|m
   ·exact⟨rfl,by simp[nD,yCd],by simp[nD,yEy]⟩
   ·let(n,_,rfl):=List.mem_map.mp m;exact⟨rfl,by simp[nD,yCd],by simp[nD,yEy]⟩
 have al:∀ {ts:List D},(∀ t∈ts,t.canLay0=true/\yCd t t=true/\t.depth<=0)->yCs ts=true/\yFb ts ts=true/\yCn ts<=0:=λ {ts}=>by
  induction ts with
  |nil=>exact λ _=>⟨rfl,by simp[yFb],by simp[yCn]⟩
  |cons t ts ih=>
    intro h;let(h1,h2,h3):=ih λ x m=>h x (xAf _ m)
    let(g1,g2,g3):=h t xAc;refine⟨?_,by simp[yFb,g2,h2],?_⟩
    ·show(t.canLay0&&yCs ts)=true;rw[g1,h1];rfl
    ·simp only[yCn];omega
 let(h1,h2,h3):=al h;refine⟨h1,?_,?_⟩
 ·show yCd (.tuple _) (.tuple _)=true;simp[yCd,h2]
 ·show(yAj _).depth<=5;simp only[yEy];omega
def aKq{rs:List Rw}(d:Nat)(o:D)(hl:↑rs<=1000)(S:aE):cl fns (d+1) 92 [.d (rs<*o)] S=qq (.d (.list ((rs.filter dG).map Rw.d)),S):=by
 have i0:aN (rs<*o) (.int 0)=qq (rs*>Rw.d):=rfl;have hc:lv (aC fns d) aGa [qq (.d (rs<*o)),qz] S=qq ((rs.filter dG).map Rw.d,S):=by
  refine @aAW _ _ _ _ _ (lv (aC fns d) (.it (.ix (.var 0) (.int 0)))) (tv (aC fns d) (.cmp .Eq (.ix (.var 1) (.int 0)) (.str "in"))) (ev (aC fns d) (.var 1)) Rw.d Rw.d dG rs ?_ (by rw[qo];omega) λ r _=>?_
  ·erw[0,i0,fH]
  ·have e0:=iF r;have en:=bN r.wd .in;have en:aS .Eq (.str r.wd.s) (.str "in")=qq (.bool (dG r)):=en;generalize r.d=R at *;refine⟨_,rfl,λ aF=>?_,λ _ aF=>?_⟩
   ·erw[0,clr,yAz,yBo,e0,en]
   ·erw[0,clr,yAz,yBo]
 refine bX rfl d rfl rfl yAe (bC ?_);generalize yAj [(rs*>Rw.d),o]=P at *;erw[0,hc]
def aJv{rs:List Rw}(d:Nat)(p:Prg rs)(hi:bV rs is)(ho:∀ o∈aD,o<↑rs)(hol:↑aD<=8)(S:aE):cl fns (d+8) 73 [.d (rs<*(aD*>nD)),.d (is*>nD)] S=qq (.d (.tuple ((aD.map (g0 (rn rs is))).map nD)),S):=by have rg:=aQ6 d rs (aD*>nD) is p.l p.fit hi S;rw[aC4] at rg;have oo:=aN5 (d+6) (rs*>Rw.d) aD (rn rs is) (by rw[lX];exact ho) hol S;refine bX rfl (d+7) rfl rfl yAe (bC ?_);generalize yAj [(rs*>Rw.d),(aD*>nD)]=P at *;generalize yAj (is.map nD)=I at *;generalize yAj ((aD.map (g0 (rn rs is))).map nD)=O at *;have rg:cl fns (d+7) 71 [.d P,.d I] S=qq (.d (.tuple ((rn rs is).map nD)),S):=rg;generalize yAj ((rn rs is).map nD)=N at *;erw[0,rg,oo]
def aKM{rs:List Rw}(d i:Nat)(env:bI)(ho:∀ o∈aD,o<↑rs)(hol:↑aD<=8)(h5:i<5)(le:↑env=6)(he:env[i]?=qq (qq (.d (rs<*(aD*>nD)))))(S:aE):lv (aC fns d) (.comp (.ix (.ix (.ix (.var i) (.int 0)) (.var 5)) (.int 1)) (.one 5) (.it (.ix (.var i) (.int 1))) .no) env S=qq ((aD.map (g0 (wQ rs))).map nD,S):=by
 have i0:aN (rs<*(aD*>nD)) (.int 0)=qq (rs*>Rw.d):=rfl;have i1:aN (rs<*(aD*>nD)) (.int 1)=qq (aD*>nD):=rfl;generalize yAj [(rs*>Rw.d),(aD*>nD)]=P at *;rw[yBh];refine lU (fi:=lv (aC fns d) (.it (.ix (.var i) (.int 1)))) (fe:=ev (aC fns d) (.ix (.ix (.ix (.var i) (.int 0)) (.var 5)) (.int 1))) nD (nD ∘ g0 (wQ rs)) aD ?_ (by rw[qo];omega) λ o m=>?_
 ·erw[0,he,i1,fH]
 ·have ol:=ho o m;have hr:rs[o]?=qq rs[o]:=yAa ol;have g:aN (rs*>Rw.d) (.int o)=qq rs[o].d:=gE (by rw[yAc,hr];rfl);have rw:=dX rs[o];have gw:g0 (wQ rs) o=rs[o].w:=rY hr;refine⟨(clr [5] env).set 5 (qq (.d (nD o))),rfl,λ S'=>?_⟩;have e5:((clr [5] env).set 5 (qq (.d (nD o))))[5]?=qq (qq (.d (nD o))):=yBb (by rw[vT];omega);have ei:((clr [5] env).set 5 (qq (.d (nD o))))[i]?=qq (qq (.d P)):=by
   rw[yBa (),aDv [5] env i (by simp;omega)];exact he
  generalize (clr [5] env).set 5 (qq (.d (nD o)))=E at *;show _=qq (W.d (nD (g0 (wQ rs) o)),S');rw[gw];generalize rs[o].d=RD at *;generalize yAj (rs.map Rw.d)=RT at *;erw[0,ei,e5,i0,nD,g,rw]
def lH(v:Vd):Bool:=match v with
 |.gone|.passed=>false
 |_=>true
def aYU(r:Rw)(f:Ft)(m:Nat)(ws:List Nat)(Fs:List Ft)(P:List (Option Nat)):(kE r f m ws Fs P).md.isSome=lH (kE r f m ws Fs P).v/\(r.wd=.in->(kE r f m ws Fs P).v=.kept):=by
 unfold kE;by_cases c1:r.wd=.in
 ·rw[if_pos c1];exact⟨rfl,λ _=>rfl⟩
 rw[if_neg c1];refine⟨?_,λ q=>absurd q c1⟩;split
 ·rfl
 split
 ·rfl
 split
 ·rfl
 split
 ·rfl
 split<;>rfl
def aLp{rs:List Rw}:∀ j,j<=↑rs->↑((bK rs F M j).V.filter lH)=↑(bK rs F M j).R/\∀ (k:Nat) (r:Rw) (v:Vd),rs[k]?=qq r->(bK rs F M j).V[k]?=qq v->r.wd=.in->v=.kept
 |0,_=>⟨rfl,λ k r v _ h=>by cases h⟩
 |j+1,h=>by
   have hr:rs[j]?=qq rs[j]:=yAa h;let(h1,h2):=@aLp F M rs j (yGa h);let(t1,t2):=aYU rs[j] (f0 F j) (M.getD j 0) (aT rs[j] (~~~rs)) (cE rs[j] F) (cM rs[j] (bK rs F M j).P);have lv:=(@pI F M _ j (yGa h)).v;rw[wL hr];have t1:(kL rs F M j rs[j] (bK rs F M j).P).md.isSome=lH (kL rs F M j rs[j] (bK rs F M j).P).v:=t1;have t2:rs[j].wd=.in->(kL rs F M j rs[j] (bK rs F M j).P).v=.kept:=t2;generalize kL rs F M j rs[j] (bK rs F M j).P=t at *;have eV:(jL t (bK rs F M j)).V=(bK rs F M j).V++[t.v]:=by unfold jL;cases t.md<;>rfl
   have eR:↑(jL t (bK rs F M j)).R=↑(bK rs F M j).R+(if lH t.v=true then 1 else 0):=by
    rw[<- t1];unfold jL;cases t.md with
    |none=>rfl|some l=>simp
   rw[eV,eR];refine⟨?_,λ k r v hk hv hi=>?_⟩
   ·rw[yFv,xAn,h1,yCb];split<;>rfl
   ·by_cases c:k<j
    ·rw[xAm (by rw[lv];exact c)] at hv;exact h2 k r v hk hv hi
    ·have hkl:=(gIm hv).1;rw[xAn,lv] at hkl;have ck:k=j:=by simp at hkl;omega
     subst ck;rw[yAf (),lv,yBf] at hv;have hv:t.v=v:=by simpa using hv
     rw[hr] at hk;cases hk;rw[<- hv];exact t2 hi
def aVJ(v:Vd):aS .NotIn (vD v) (.tuple [.str "gone",.str "known",.str "passed",.str "cheaper",.str "kept"])=qq (.bool false):=by cases v<;>kernel_rfl
def aW8(v:Vd):aS .NotIn (vD v) (.tuple [.str "gone",.str "passed"])=qq (.bool (lH v)):=by cases v<;>kernel_rfl
def aTC:aS .NotEq (vD .kept) (.str "kept")=qq (.bool false):=by kernel_rfl
def aQJ(d:Nat)(rs:List Rw)(o Q o2:D)(V:List Vd)(R:List D)(hV:↑V=↑rs)(hl:↑rs<=100)(hk:∀ (k:Nat) (r:Rw) (v:Vd),rs[k]?=qq r->V[k]?=qq v->r.wd=.in->v=.kept)(hn:↑(V.filter lH)=↑R)(S:aE):cl fns (d+1) 93 [.d (rs<*o),.d (.tuple [.tuple R,o2]),.d (V*>vD)] S=qq (.d (.bool true),S):=by
 have i0:aN (rs<*o) (.int 0)=qq (rs*>Rw.d):=rfl;have j0:aN (.tuple [.tuple R,o2]) (.int 0)=qq (.tuple R):=rfl;have l1:eX [(V*>vD)]=qq (.int ↑rs):=by rw[dL,yAb,hV]
 have l2:eX [(rs*>Rw.d)]=qq (.int ↑rs):=by rw[dL,yAb]
 have l3:eX [.tuple R]=qq (.int ↑R):=dL;have it:kB .tup (V*>vD)=qq (.bool true):=rfl;generalize eP:yAj [(rs*>Rw.d),o]=P at *;generalize eM:yAj [.tuple R,o2]=M2 at *;let(aY,S',p1,a3,a4,rfl,hS):=nK (t:=.many [3,4]) (fi:=lv (aC fns d) aCB) (fb:=xs (aC fns d) aFW) (env:=[qq (.d P),qq (.d M2),qq (.d (V*>vD)),qz,qz]) (S:=S) (S1:=S) (ds:=hJ (rs.map Rw.d) (V.map vD))
  (λ j env S'=>∃ a3 a4:Option W,env=[qq (.d P),qq (.d M2),qq (.d (V*>vD)),a3,a4]/\S'=S)
  (by erw[20,aCB,i0,qD,oA]) ⟨qz,qz,rfl,rfl⟩ (by
    rintro j dd env S' hd ⟨a3,a4,rfl,rfl⟩;let(x,y,hx,hy,rfl):=aAO _ _ _ _ hd;rw[yAc] at hx hy;let(r,hr,rfl):=Option.map_eq_some_iff.mp hx;let(v,hv,rfl):=Option.map_eq_some_iff.mp hy;refine⟨_,_,_,rfl,?_,qq (.d r.d),qq (.d (vD v)),rfl,rfl⟩;have e0:=iF r;have en:=bN r.wd .in;have en:aS .Eq (.str r.wd.s) (.str "in")=qq (.bool (decide (r.wd=.in))):=en;have n5:=aVJ v;by_cases c:r.wd=.in
    ·have ev:=hk j r v hr hv c;subst ev;rw[dqT c] at en;have vk:=aTC;generalize r.d=RD at *;generalize vD .kept=VD at *;generalize yAj (V.map vD)=VT at *;refine aJ (S1:=S') ?_ rfl;erw[0,n5,e0,en,vk]
    ·rw[dqF c] at en;generalize r.d=RD at *;generalize vD v=VD at *;generalize yAj (V.map vD)=VT at *;refine aJ (S1:=S') ?_ rfl;erw[20,n5,e0,en])
 rw[hS] at p1;have hc:lv (aC fns d) aFV [qq (.d P),qq (.d M2),qq (.d (V*>vD)),a3,a4] S=qq ((V.filter lH).map vD,S):=by
  refine @aAW _ _ _ _ _ (lv (aC fns d) (.it (.var 2))) (tv (aC fns d) (.cmp .NotIn (.var 4) (.tup (.cons (.str "gone") (.cons (.str "passed") .nil))))) (ev (aC fns d) (.var 4)) vD vD lH V ?_ (by rw[qo];omega) λ v _=>?_
  ·erw[0,fH]
  ·have n2:=aW8 v;generalize vD v=VD at *;refine⟨_,rfl,λ aF=>?_,λ _ aF=>?_⟩
   ·erw[0,clr,yAz,yBo,n2]
   ·erw[0,clr,yAz,yBo]
 have l4:eX [.list ((V.filter lH).map vD)]=qq (.int ↑R):=by rw[eC,yAb,hn]
 refine bX rfl d rfl rfl yAe ?_;show xs (aC fns d) _ [qq (.d P),qq (.d M2),qq (.d (V*>vD)),qz,qz] S=_;refine aJ (S1:=S) ?_ (fD (S1:=S) p1 (bC ?_))
 ·generalize yAj (V.map vD)=VT at *;erw[0,it,l1,i0,l2,kT,beq_self_eq_true]
 ·generalize yAj (V.map vD)=VT at *;generalize (V.filter lH).map vD=FL at *;erw[0,hc,l4,j0,l3,aZ,beq_self_eq_true]
def aHm(d:Nat){rs:List Rw}{os:List Nat}(ok:bS [] rs)(hl:↑rs<=40)(ho:∀ o∈aD,o<↑rs)(hol:↑aD<=8)(t:Trd rs aD Q os)(ns:List Int)(k:Nat)(x:Int)(hk:k<=40000):∃ (k':Nat) (x':Int),k'<=k+800/\cl fns (d+9) 94 [.loc 0,.d (rs<*(aD*>nD)),.d (Q<*(os*>nD))] [qq (aV ns k x)]=qq (.d (.bool true),[qq (aV ns k' x')]):=by
 have p:=xR ok ();have le:=t.le;have pq:=xR t.ok ();have lk:=λ S=>LK.look_ok (d+4) Q os t.ok t.lt () (by rw[t.ln];omega) S
 have in1:=λ S=>@aKq Q (d+7) (os*>nD) () S
 have in2:=λ S=>@aKq rs (d+7) (aD*>nD) () S
 rw[t.ins] at in1;have pr1:=λ S=>aHO (d+6) Q (os*>nD) t.ok () S
 have pr2:=λ S=>aHO (d+6) rs (aD*>nD) ok () S
 have pp:decide (((((rs.map (dQ (wQ rs))).sum:Nat)):Int)<(((Q.map (dQ (wQ Q))).sum:Nat):Int))=false:=dqF (by have:=t.pr;unfold kI at this;omega);have nl:=(@aEm ((rs.filter dG).map Rw.d) λ y m=>by let(r,_,rfl):=List.mem_map.mp m;exact aUx r).1;have nw:=(aEm (aJC (aD.map (g0 (wQ rs))))).1;have nt:aS .IsNot (.bool true) (.bool true)=qq (.bool false):=by kernel_rfl
 generalize eP:yAj [(rs*>Rw.d),(aD*>nD)]=P at *;generalize eM:yAj [(Q*>Rw.d),(os*>nD)]=M2 at *;let(aY,S',p1,a3,a4,k',x',hk',rfl,rfl):=aBw (t:=.one 3) (fi:=lv (d<$>8) aCH) (fb:=xs (d<$>8) aF4) (env:=[#[0],qq (.d P),qq (.d M2),qz,qz,qz]) (S:=[qq (aV ns k x)]) (S1:=[qq (aV ns k x)]) (ds:=(yBd 4).map (λ k=>yAn (k:Nat)))
  (λ j env S'=>∃ (a3 a4:Option W) (k':Nat) (x':Int),k'<=k+200*j/\env=[#[0],qq (.d P),qq (.d M2),a3,a4,qz]/\S'=[qq (aV ns k' x')])
  (by
    simp only[aCH,rA];exact qS (w:=4) rfl ())
  ⟨qz,qz,k,x,by omega,rfl,rfl⟩ (by
   rintro j dd env S' hj ⟨a3,a4,k',x',hk',rfl,rfl⟩;have hj':j<4:=by simpa using hj
   let(is,k2,x2,hi,hk2,ei):=@aO4 k' ns x' (d+4) rs (aD*>nD) p ();let(hq,et):=t.told is hi;have t1:=@aJv _ os Q d pq hq t.lt (by rw[t.ln];exact hol) [qq (aV ns k2 x2)];have t2:=@aJv _ aD rs d p hi ho hol [qq (aV ns k2 x2)];rw[et] at t1;have nv:=(aEm (aJC (aD.map (g0 (rn rs is))))).2;rw[eP] at ei t2;rw[eM] at t1;have ei:cl fns (d+8) 85 [.loc 0,.d P] [qq (aV ns k' x')]=qq (.d (is*>nD),[qq (aV ns k2 x2)]):=ei;refine⟨_,_,_,rfl,?_,qq (.d dd),qq (.d (is*>nD)),k2,x2,by omega,rfl,rfl⟩
   generalize yAj (is.map nD)=I at *;generalize yAj ((aD.map (g0 (rn rs is))).map nD)=O at *;refine fD (e1:=[#[0],qq (.d P),qq (.d M2),qq (.d dd),qq (.d I),qz]) (S1:=[qq (aV ns k2 x2)]) (by erw[20,ei]) (aJ (S1:=[qq (aV ns k2 x2)]) (by erw[20,t1,t2,nv]) rfl))
 refine⟨k',x',by rw[yAb,yHl] at hk';omega,?_⟩;have lk:cl fns (d+8) 62 [.d M2] [qq (aV ns k x)]=qq (.d (.bool true),[qq (aV ns k x)]):=lk _;have c0:=@aKM os Q (d+8) 2 [#[0],qq (.d P),qq (.d M2),qz,qz,qz] t.lt (by rw[t.ln];exact hol) (·) rfl (by rw[eM];rfl) [qq (aV ns k x)];rw[t.ws] at c0;have c1:=@aKM aD rs (d+8) 1 [#[0],qq (.d P),qq (.d M2),qz,qz,qz] ho hol (·) rfl (by rw[eP];rfl) [qq (aV ns k x)];have c0:lv (d<$>8) aF0 [#[0],qq (.d P),qq (.d M2),qz,qz,qz] [qq (aV ns k x)]=_:=c0;have c1:lv (d<$>8) aF3 [#[0],qq (.d P),qq (.d M2),qz,qz,qz] [qq (aV ns k x)]=_:=c1;have in1:=in1 [qq (aV ns k x)];have in2:=in2 [qq (aV ns k x)];have pr1:=pr1 [qq (aV ns k x)];have pr2:=pr2 [qq (aV ns k x)];have tk:[qq (aV ns k' x')].take ↑[qq (aV ns k x)]=[qq (aV ns k' x')]:=rfl;refine bX rfl (d+8) rfl rfl tk ?_;show xs (d<$>8) _ [#[0],qq (.d P),qq (.d M2),qz,qz,qz] [qq (aV ns k x)]=_;refine aJ (S1:=[qq (aV ns k x)]) ?_ (aJ (S1:=[qq (aV ns k x)]) ?_ (fD (S1:=[qq (aV ns k' x')]) p1 (bC rfl)))
 ·generalize (rs.filter dG).map Rw.d=IL at *;generalize [qq (aV ns k x)]=S1 at *;generalize (((rs.map (dQ (wQ rs))).sum:Nat):Int)=p1' at *;generalize (((Q.map (dQ (wQ Q))).sum:Nat):Int)=p2' at *;erw[0,lk,nt,in1,in2,nl,pr1,pr2,kR,pp]
 ·generalize (aD.map (g0 (wQ rs))).map nD=OL at *;generalize [qq (aV ns k x)]=S1 at *;erw[0,c0,c1,nw]
def aIs(d:Nat){rs:List Rw}(ok:bS [] rs)(hl:↑rs<=40)(ho:∀ o∈aD,o<↑rs)(hol:↑aD<=8)(st:Option (List D)):∃ (Q:List Rw) (os:List Nat) (V:List Vd),Trd rs aD Q os/\↑V=↑rs/\↑(V.filter lH)=↑Q/\(∀ (k:Nat) (r:Rw) (v:Vd),rs[k]?=qq r->V[k]?=qq v->r.wd=.in->v=.kept) /\
 cl fns (d+10) 58 [.d (rs<*(aD*>nD))] [st]=qq (.d (.tuple [(Q<*(os*>nD)),(V*>vD)]),[st]):=by
 have p:=xR ok ();let(F,hF,sd,ow,eF):=aNU d rs (aD*>nD) p [st];have tr:=aPc d p hF aD ho hol st eF;let(Q,os,eR,eO,t):=aVu p sd hF ow ho;let(v1,v2):=@aLp F (eU rs F aD) rs ↑rs (yAd _);have ln:=@pI F (eU rs F aD) _ ↑rs (yAd _);refine⟨Q,os,(bK rs F (eU rs F aD) ↑rs).V,t,ln.v,by rw[v1,eR,yAb],v2,?_⟩;rw[tr];unfold aMp;have e1:(bK rs F (eU rs F aD) ↑rs).R.map tA=Q.map Rw.d:=by
  rw[eR,yBh];exact yBx λ r _=>aLx r
 have e2:(aD.map λ o=>bA (pg (bK rs F (eU rs F aD) ↑rs).P o))=os.map nD:=by
  have:=congrArg (List.map bA) eO;rw[yBh,yBh] at this;exact this
 rw[e1,e2]
def aQj(d:Nat){rs:List Rw}(ok:bS [] rs)(hl:↑rs<=40)(ho:∀ o∈aD,o<↑rs)(hol:↑aD<=8)(sc:Option W)(ns:List Int)(k:Nat)(x:Int)(hk:k<=35000):∃ S',xs (d<$>10) (aQ (aQ qB)) [sc,#[0],qq (.d (rs<*(aD*>nD))),qz,qz] [qq (aV ns k x)]=qq (.rt (.d (.bool true)),S'):=by
 let(Q,os,V,t,hV,hn,hv,e1):=aIs d ok hl ho hol (qq (aV ns k x));have le:=t.le;have wg:=aQJ (d+9) rs (aD*>nD) (Q*>Rw.d) (os*>nD) V (Q.map Rw.d) hV () hv (by rw[yAb];exact hn) [qq (aV ns k x)];let(k1,x1,hk1,r1):=aHm (d+1) ok hl ho hol t ns k x ();let(Q2,os2,Vb,t2,_,_,_,e2):=aIs d t.ok () t.lt (by rw[t.ln];exact hol) (qq (aV ns k1 x1));let(k2,x2,hk2,r2):=aHm (d+1) ok hl ho hol (t.trans t2) ns k1 x1 ();refine⟨[qq (aV ns k2 x2)],?_⟩;generalize yAj (V.map vD)=VT at *;generalize yAj (Vb.map vD)=VTb at *;generalize yAj [(rs*>Rw.d),(aD*>nD)]=P at *;generalize yAj [(Q*>Rw.d),(os*>nD)]=M1 at *;generalize yAj [(Q2*>Rw.d),(os2*>nD)]=M2 at *;have i0:aN (.tuple [M2,VTb]) (.int 0)=qq M2:=rfl;have r1:cl fns (d+10) 94 [.loc 0,.d P,.d M1] [qq (aV ns k x)]=qq (.d (.bool true),[qq (aV ns k1 x1)]):=r1;have r2:cl fns (d+10) 94 [.loc 0,.d P,.d M2] [qq (aV ns k1 x1)]=qq (.d (.bool true),[qq (aV ns k2 x2)]):=r2;generalize [qq (aV ns k x)]=S0 at *;generalize [qq (aV ns k1 x1)]=S1 at *;generalize [qq (aV ns k2 x2)]=S2 at *;have s1:xs (d<$>10) (cL (aQ (aQ qB))) [sc,#[0],qq (.d P),qz,qz] S0=qq (.nx [sc,#[0],qq (.d P),qq (.d M1),qq (.d VT)],S0):=by
  show pU _ (ev (d<$>10) (.call 58 (.cons (.var 2) .nil))) _ _=_;have e:ev (d<$>10) (.call 58 (.cons (.var 2) .nil)) [sc,#[0],qq (.d P),qz,qz] S0=qq (.d (.tuple [M1,VT]),S0):=by erw[20,e1]
  unfold pU;rw[e,oB];rfl
 refine fD s1 (aJ (S1:=S1) ?_ (bC ?_))
 ·erw[0,wg,r1]
 ·erw[0,e2,i0,r2]
def aVw(d:Nat)(ns:List Int)(h1:↑ns<=63):∃ S',cl fns (d+11) 95 [.d (.list (ns.map yAn))] []=qq (.d (.bool true),S'):=by
 obtain⟨most,hm,et⟩:∃ t:Nat,t<=30/\(1:Int)+(if (24:Int)<((↑ns:Nat):Int) then 24 else ((↑ns:Nat):Int))=((t:Nat):Int):=by
  refine⟨1+min ↑ns 24,by omega,?_⟩;split<;>omega
 let(q,x1,hq,d1):=aWn (ns:=ns) (k:=0) (x:=0) (d+9) 2 (i:=2) rfl (·) (·) ();have d1:cl fns (d+10) 74 [.loc 0,.d (.int 2)] [qq (aV ns 0 0)]=qq (.d (.int q),[qq (aV ns 1 x1)]):=d1;have mn:nW [.int ((↑ns:Nat):Int),.int 24]=qq (.int (if (24:Int)<((↑ns:Nat):Int) then 24 else ((↑ns:Nat):Int))):=rfl;have lN:eX [.list (ns.map yAn)]=qq (.int ↑ns):=by
  show qq (yAn ((↑(ns.map yAn):Nat):Int))=_;rw[yAb]
 have s0:xs (d<$>10) (cL qB) [qq (.d (.list (ns.map yAn))),qz,qz,qz,qz] []=qq (.nx [qq (.d (.list (ns.map yAn))),#[0],qz,qz,qz],[qq (aV ns 0 0)]):=by
  erw[2,cL,qB,gI]
 have s1:∃ (rs:List Rw) (aD:List Nat) (k:Nat) (x:Int),bS [] rs/\↑rs<=40/\(∀ o∈aD,o<↑rs)/\↑aD<=8/\k<=35000/\xs (d<$>10) (cL (aQ qB)) [qq (.d (.list (ns.map yAn))),#[0],qz,qz,qz] [qq (aV ns 0 0)]=qq (.nx [qq (.d (.list (ns.map yAn))),#[0],qq (.d (rs<*(aD*>nD))),qz,qz],[qq (aV ns k x)]):=by
  by_cases c:q=1
  ·have c':((q:Int)==1)=true:=by rw[c];rfl
   let(rs,aD,k,x,ok,l1,ho,hol,hk,e):=aPd (d+4) ns 1 x1 ();refine⟨rs,aD,k,x,ok,l1,ho,hol,by omega,?_⟩;generalize yAj [(rs*>Rw.d),(aD*>nD)]=P at *;generalize yEx (ns.map yAn)=NS at *;generalize [qq (aV ns 0 0)]=S0 at *;generalize [qq (aV ns 1 x1)]=S1 at *;generalize [qq (aV ns k x)]=S2 at *;exact mH (S1:=S1) (by erw[20,d1,aZ,c']) (jF (w:=.d P) (S1:=S2) (by erw[20,e]))
  ·have c':((q:Int)==1)=false:=by rw[beq_eq_false_iff_ne];omega
   let(rs,aD,k,x,ok,l0,l1,hk,ho,hol,e):=aUI (d+4) most ns hm 1 x1 ();refine⟨rs,aD,k,x,ok,l1,ho,hol,by omega,?_⟩;generalize yAj [(rs*>Rw.d),(aD*>nD)]=P at *;generalize yEx (ns.map yAn)=NS at *;generalize [qq (aV ns 0 0)]=S0 at *;generalize [qq (aV ns 1 x1)]=S1 at *;generalize [qq (aV ns k x)]=S2 at *;exact uC (S1:=S1) (by erw[20,d1,aZ,c']) (jF (w:=.d P) (S1:=S2) (by erw[20,lN,mn,dS,et,e]))
 let(rs,aD,k,x,ok,l1,ho,hol,hk,s1):=s1;let(S',tl):=aQj d ok l1 ho hol (qq (.d (.list (ns.map yAn)))) ns k x hk;have full:xs (d<$>10) qB [qq (.d (.list (ns.map yAn))),qz,qz,qz,qz] []=qq (.rt (.d (.bool true)),S'):=fD s0 (fD s1 tl);refine⟨[],?_⟩;rw[bE rfl (d+10) _ [] rfl];show((xs (d<$>10) qB [qq (.d (.list (ns.map yAn))),qz,qz,qz,qz] []).bind _)=_;rw[full];rfl
def main(ns:List Int)(h1:↑ns<=63)(h2:∀ i∈ns,yAm i<=1048576):∃ call S',aC fns 12 95=qq (1,call)/\call [.d (.list (ns.map yAn))] []=qq (.d (.bool true),S'):=by let(S',e):=aVw 1 ns h1;exact aR1 (d:=11) rfl rfl e
def oks:∀ F∈fns,aB9 fns tbs F=true:=by decide +kernel
def bok:∀ F∈fns,aEz F=true:=by decide +kernel
def binds:∀ F∈fns,aD1 F:=λ F hF=>aPB (bok F hF)
end K64
namespace PySem.W.Fast
def tw11932185497868130419:=0
def tw7138607437634457274:=0
def tw2086485017469761417:=0
def tw8992422134073082548:=0
def tw16158469639101635009:=0
def tw4996675570560686751:=0
def tw17562566206639770454:=0
def tw3558657089582247176:=0
def tw7114488290224651565:=0
def tw8996490061680920119:=0
def tw13313918818190606164:=0
def tw15828393670508722448:=0
def tw15387750501299887991:=0
def tw16246742035026786806:=0
def tw14187254639222274082:=0
def tw13584325784335512069:=0
def tw4137873453261542437:=0
def tw16020413685456637503:=0
def tw14422251259689139513:=0
def tw2256811665005074673:=0
def tw3514939831104578068:=0
def tw2790532436651710721:=0
def tw18232249592028735424:=0
def tw6712387887065095508:=0
def tw3200848642713871338:=0
def tw11529533359809475988:=0
def tw10922909790482468185:=0
def tw14831850958161398275:=0
def tw7730568831175419060:=0
def tw2729753524659530760:=0
def tw11637380675980308523:=0
def tw9067517646172781394:=0
def tw17222762343201272266:=0
def tw16881387377561744745:=0
def tw11744604826397110717:=0
def tw13766908480334298669:=0
def tw1541495760289460195:=0
def tw10864640812724399939:=0
def tw2430703572318776006:=0
def tw6442592444482413965:=0
def tw15232256564663645693:=0
def tw4745368290090124897:=0
def tw1306491606721361894:=0
def tw9894158220898576274:=0
def tw15317938791143503028:=0
def tw2769673399330148303:=0
def tw2250199867161721635:=0
def tw250762099051530152:=0
def tw13072187926752382190:=0
def tw9134026757813293539:=0
def tw10122048676854865515:=0
def tw15436810800617163116:=0
def tw2430554811554312680:=0
def tw16837397087339891254:=0
def tw185736981184950213:=0
def tw15507222101170366367:=0
def tw11977421107872771925:=0
def tw15330399028038068562:=0
def tw6198668682834752931:=0
def tw6592417845608116576:=0
def tw1303757441555384369:=0
def tw7422813932998948853:=0
def tw5703335171799842245:=0
def tw3490113532732674456:=0
def tw17833543893861810272:=0
def tw2928374360081113980:=0
def tw1957892856386840533:=0
def tw3327638433836200614:=0
def tw3050347782395524219:=0
def tw2701709985475019801:=0
def tw10570875833755098944:=0
def tw8994730105705002681:=0
def tw3837959523823787233:=0
def tw6799416304946189374:=0
def tw14882941939954927684:=0
def tw10203418772810120155:=0
def tw13525512214096335978:=0
def tw17009716247492718170:=0
def tw14017042417521542752:=0
def tw925634837872710973:=0
def tw7001077717140068741:=0
def tw8933647050152425281:=0
def tw4623837966145427805:=0
def tw9787645578733129337:=0
def tw13995491246086645503:=0
def tw545396725566539707:=0
def tw9471405881563179865:=0
def tw12077183781679198083:=0
def tw13846132064621228839:=0
def tw7070612511701371883:=0
def tw14931028112820669135:=0
def tw17654279079109809856:=0
def tw10346780557647878971:=0
def tw16625641954855781481:=0
def tw9706947788838501129:=0
def tw3704676530899435415:=0
def tw2032670773461753402:=0
def tw4804453275966021115:=0
def tw14915582690332453421:=0
def tw53680557554734419:=0
def tw10869275003245305049:=0
def tw7618949436113079372:=0
def tw5020714015335024128:=0
def tw9008229495574225562:=0
def tw15591472494197664864:=0
def tw16661560090990729827:=0
def tw17239661266077480691:=0
def tw14339115766106503554:=0
def tw10505481529716599633:=0
def tw8668045148187836111:=0
def tw15922083892772104677:=0
def tw18147981091903843772:=0
def tw14466060830141573144:=0
def tw15488744312209535484:=0
def tw8427118580380084226:=0
def tw7579969493295519303:=0
def tw7259434515672414747:=0
def tw7305953840017743598:=0
def tw1283916592897443328:=0
def tw2651943738435926123:=0
def tw5103438323858234838:=0
def tw8279739711076068608:=0
def tw6412210169560021095:=0
def tw7201427959345217238:=0
def tw16872119789042013348:=0
def tw6800774618001438014:=0
def tw7388047617931091260:=0
def tw10342646870490681428:=0
def tw1631880431791183100:=0
def tw4537725336328272888:=0
def tw13648046726911925579:=0
def tw988512012412844802:=0
def tw10898011799766256978:=0
def tw11575413477912561471:=0
def tw130512407654070368:=0
def tw12784560243874604873:=0
def tw4866828914782017428:=0
def tw1406231729358682518:=0
def tw1676371303784001401:=0
def tw8651772076552876035:=0
def tw10350571154563717000:=0
def tw5489170194832341933:=0
def tw15409829742596121462:=0
def tw18439730539276207110:=0
def tw7851836199185149295:=0
def tw18373254854169820905:=0
def tw584205370237600114:=0
def tw13735673292864979288:=0
def tw2422261501050771705:=0
def tw17700463583975456822:=0
def tw14720126642777614679:=0
def tw15864324285808587671:=0
def tw4334825478503908120:=0
def tw13513811255502485058:=0
def tw589045454187692164:=0
def tw17238664532582368164:=0
def tw7808087899050246844:=0
def tw5135947554439622139:=0
def tw6777205941353362916:=0
def tw10984722004735075786:=0
end PySem.W.Fast
structure PySem.W.Fast:Prop where (tw14644074640703978286 tw17532158959629471512 tw2900525478021047193 tw15848968050358162459 tw10875215068543278406 tw18236739903581934799 tw5317837857658070169 tw16810363128176368687 tw17205441728614030984 tw609790765274930558 tw3504251572275261124 tw1564769075665639313 tw5143849278570815591 tw16205593243198402388 tw7239128719433970840 tw4356560156678264735 tw4282966038888443592 tw17813495849886644280 tw4956062176309108520 tw9959111169266150590 tw9615438308548101347 tw18386838996022635062 tw3812589998030876725 tw2304466078850527330 tw2221817352256995366 tw941427626156164128 tw11665079512157549774 tw8609641274724267575 tw15791701422749470780 tw17147585555109960404 tw14900016089988754186 tw8169557473655485854 tw14185166386415442771 tw8527802066017268874 tw1913737441532752091 tw10306162216962858868 tw14858448151796441682 tw16511080851555445298 tw15437552557801651614 tw13663831932549340887 tw5031693398004606261 tw293431651711780987 tw8553335937489574052 tw12720508030524776149 tw13886198462235483638 tw14392783143300035720 tw7701667103740542135 tw6650073940560299380 tw382090574697267673 tw11563240868525634654 tw17926289778709530579 tw1668197303678462425 tw10717534988618184527 tw1156815443965729074 tw6263944463869061994 tw6685353335164266068 tw14157029579029377674 tw3286804662901181669 tw648359077286629591 tw12890321287043857663 tw728179093429490490 tw671366591724073579 tw15565666067058264252 tw5077262009226145111 tw16946675761363750652 tw3249035128822457008 tw281854744404509020 tw4986934260183816335 tw15573171021130688423 tw11335864100946503848 tw15014166421071323870 tw10200114693708764937 tw3526641422713478743 tw9165980773070373113 tw9893179513574794866 tw5319614886214746890 tw10147893124161216207 tw8682344232370050125 tw6067684968173431008 tw3475963472033022258 tw16591268230761082016 tw10451416123677425955 tw14673037876470647517 tw7799868238258815290 tw935500088168467975 tw16412010476995996752 tw7927219934993648650 tw6733608582765554281 tw3774911360471497874 tw13465482380507957857 tw10486114220749266684 tw7699340001891558137 tw3297454372230038142 tw75573821631528355 tw13784026127088557651 tw5836874112388872777 tw4898418089773594625 tw13358083452082135898 tw17972863345754778862 tw14375088736885523391 tw6855803606250137916 tw7147171042632231943 tw14466665932462120267 tw8025319740719314977 tw951706135771461863 tw4471312892120154617 tw15651945862619771394 tw12529782647051750073 tw10848527511577458414 tw9714982017026417782 tw249249548784420007 tw1565697346044036506 tw10251558580447581319 tw2605015175351064597 tw8103935788664004567 tw16297488214214323686 tw5606004910977135239 tw9654884307541537239 tw5174345126029489849 tw14725212086486790712 tw8242983481789105114 tw9297843850423999232 tw7906770215879151698 tw358422433403896095 tw16393863022292784536 tw11385273574226981290 tw10653548228783776685 tw11688174258947356796 tw4282748541171549948 tw11762715457053721129 tw13334136390907230101 tw11530482650027152936 tw18298163243329680393 tw1274003516359520028 tw5521813752232668858 tw5218042474017467592 tw848117519376245404 tw317048864122506089 tw848422425243719743 tw1096109534698222994 tw10925227540879829724 tw1491493678899671195 tw15115784998264991982 tw17845491108274378070 tw6453410988554124455 tw16622522118503624333 tw1270022485947623761 tw10547667197097697652 tw10074413537075364577 tw7147232576010308129 tw1811700750239370383 tw9881955013030206219 tw3968374201584572068 tw5223200503578111475 tw16641476782677985920 tw11161380795246362877 tw13435550467841375711 tw3312144548175158392 tw11619646791153360363 tw14870559119866733732 tw12747139897883793286 tw16128829759185744428 tw9466014164244811175 tw2333877556807267974 tw10010137951293639749 tw14266634396007739622 tw2822580527386292004 tw856043036831119837 tw6960328362299140152 tw3402197458956237678 tw4826211650879227823 tw8228075278420915971 tw6329240705118618287 tw3253784269895715598 tw15726842138480267446 tw5208736600010957194 tw2008695175707331150 tw16302580325569025013 tw13558193046956610728 tw17582819681195797779 tw17797065491936488014 tw44774525411000657 tw15627422946410027094 tw7880604767642070877 tw4915685467891905126 tw15012941233969293631 tw99203067574622836 tw3546548016904138429 tw10210250187909778915 tw10383738585090796615 tw10288092951687709909 tw14935394579235312739 tw14644213678451701462 tw1700303359019319322 tw4646726238791823533 tw11295040416055203295 tw15772483468556960490 tw1151525395016369629 tw1566177288497816922 tw16501740088453991855 tw9446927427917341216 tw4593460281101727012 tw9231157211204036854 tw12492379948893758518 tw11755217587289319312 tw13502237482395116450 tw17825475695894505140 tw7368341633906484400 tw1472614831306030021 tw5445220525652859048 tw12099599706172602656 tw3474858503952029212 tw11840279174674701167 tw12888357398033119017 tw1119721326506393062 tw11962808649825335757 tw11285718884914832935 tw9990299725015645977 tw5068964797506095358 tw4806872139774030707 tw17211884994373429134 tw17721124150939894067 tw4446753210602608000 tw6147464721963266609 tw3953219927013463666 tw12717754052971782364 tw12284003310489144460 tw10106595955610820452 tw15817671776319259461 tw332413374772975029 tw15584747774738094468 tw6714431376609750309 tw5307485337030644312 tw16084374665257889531 tw1222793911962350398 tw1341936999809153039 tw2501054539311561107 tw683087029002118755 tw579328755169181846 tw17903103058321808807:True)
set_option maxRecDepth 100000 in
set_option maxHeartbeats 0 in
theorem PySem.Challenge.cw_fewbits_k64_whole_traded_tells_the_same_holds : PySem.Challenge.rw_fewbits_k64_whole_traded_tells_the_same.Holds := by
 w_on;o_law;k_head;(case hw=>w_witness2)
 k_fill
 refine EV.law_of (l:=PySem.Challenge.rw_fewbits_k64_whole_traded_tells_the_same) K64.fns K64.tbs 95 12 _ "_law_script" rfl rfl ⟨rfl,by decide,by decide⟩ (λ w h Y=>PySem.W.kIn_of Y) K64.oks K64.binds rfl rfl rfl ?top ?tbl ?cnl ?stl ?tbn K64.main
 case top=>
  intro w h KX F hF;simp only[K64.fns,yEl,yEo,or_false] at hF;rcases hF with rfl|rfl|rfl|rfl|rfl|rfl|rfl|rfl|rfl|rfl|rfl|rfl|rfl|rfl|rfl|rfl|rfl|rfl|rfl|rfl|rfl|rfl|rfl|rfl|rfl|rfl|rfl|rfl|rfl|rfl|rfl|rfl|rfl|rfl|rfl|rfl|rfl|rfl|rfl|rfl|rfl|rfl|rfl|rfl|rfl|rfl|rfl|rfl|rfl|rfl|rfl|rfl|rfl|rfl|rfl|rfl|rfl|rfl|rfl|rfl|rfl|rfl|rfl|rfl|rfl|rfl|rfl|rfl|rfl|rfl|rfl|rfl|rfl|rfl|rfl|rfl|rfl|rfl|rfl|rfl|rfl|rfl|rfl|rfl|rfl|rfl|rfl|rfl|rfl|rfl|rfl|rfl|rfl|rfl|rfl|rfl
  all_goals
   refine' EV.top_mk ?a1 ?l1 ?c1 ?k1
   (case a1=>k_is)
   (case l1=>k_is)
   (case c1=>k_is)
   (case k1=>k_is)
 case tbl=>
  intro w h KX t ht;simp only[K64.tbs,yEl,yEo,or_false] at ht;rcases ht with rfl
  all_goals
   refine' EV.tab_mk ?a1 ?l1 ?c1 ?s1
   (case a1=>k_is)
   (case l1=>k_is)
   (case c1=>(repeat' (first|exact True.intro|apply And.intro))<;>first|rfl|exact⟨_,rfl⟩)
   (case s1=>decide)
 case cnl=>
  intro w h KX t ht;simp only[K64.tbs,yEl,yEo,or_false] at ht;rcases ht with rfl|rfl|rfl|rfl|rfl|rfl|rfl|rfl
  all_goals
   refine' EV.con_mk ?a1 ?l1 ?z1 ?c1
   (case a1=>k_is)
   (case l1=>k_is)
   (case z1=>decide)
   (case c1=>(repeat' (first|exact True.intro|apply And.intro))<;>first|rfl|exact⟨_,rfl⟩)
 case stl=>
  intro w h KX t ht;cases ht
 case tbn=>
  intro w h KX x hx;simp only[EV.bltNames,yEl,yEo,or_false] at hx;rcases hx with rfl|rfl|rfl|rfl|rfl|rfl|rfl|rfl|rfl|rfl|rfl|rfl|rfl|rfl|rfl|rfl|rfl|rfl
  all_goals k_is
