import PyProof.Rows.All
import Wide.All
import OpenK.AllK
import Wide.FinOn
import Lean
import PyProof.EqAt
import PyProof.EqKinds
import PyProof.TupleCall
import PyProof.ListMulRoad
import PyProof.FactsAll.tuple
import PyProof.MaxThree
import PyProof.SeqI3
import PyProof.Draws
import PyProof.NeKinds
import PyProof.Rows.SortShell
import PyProof.ListRange
import PyProof.DictTable
import PyProof.Rows.Range3
import PyProof.ZipIter
import PyProof.FactsAll.range_2
import PyProof.Rows.SeqMore2
import PyProof.StrWalks
import PyProof.EnumMake
import PyProof.Rows.StrJoin2
import PyProof.Rows.StrNews
import PyProof.CallStr
import PyProof.DictRoads
import KE.KIntText
import PyProof.ToksMono
import PyProof.StrBlockG
import PyProof.StrBlock2
import PyProof.MeetsStr3
import PySem.Challenge.RW_fewbits_k73_made_row_by_row
set_option compiler.extract_closed false
set_option genInjectivity false
set_option genSizeOf false
open Lean renaming mkAtom->mqA,Syntax->mq,mkNode->mqM
open Lean.Macro renaming throwUnsupported->mqF
private def mqO(l:List mq:=[]):mq:=Lean.mkNullNode l.toArray
private def mqJ(c:String)(l:List mq):mq:=Lean.mkNullNode (Lean.mkSepArray l.toArray (mqA c))
private def mqN(k:String)(l:List mq):mq:=mqM ("Lean.Parser."++k).toName l.toArray
private def mqI(f:String):mq:=Lean.mkIdent f.toName
private def mqE(f:mq)(l:List mq):=mqN "Term.app" [f,mqO l]
private def mqT(f:String):=mqE (mqI f)
private def mqD(f:String):=mqE (mqN "Term.dotIdent" [mqA ".",mqI f])
private def mqC:=mqN "Tactic.optConfig" [mqO]
private def mqV(n:String)(l:=[mqC]):=mqN ("Tactic."++n) (mqA n::l)
private def mqQ(t:List mq):=mqN "Tactic.tacticSeq" [mqN "Tactic.tacticSeq1Indented" [mqJ ";" t]]
private def mqB(t:mq):=mqN "Term.byTactic" [mqA "by",mqQ [t]]
private def mqG(p:List mq)(e:mq):=mqV "obtain" [mqO [mqN "Tactic.rcasesPatMed" [mqO p]],mqO,mqO [mqA ":=",mqO [e]]]
private def mqP:Nat->mq->mq
 |0,s=>s
 |n+1,s=>if s.isIdent then mqN "Tactic.rcasesPat.one" [s] else if s.getNumArgs<2 then mqN "Tactic.rcasesPat.ignore" [s[0]] else mqN "Tactic.rcasesPat.tuple" [mqA "⟨",mqJ "," ((if s[0].getNumArgs>0 then s[1][0]::s[1][2].getSepArgs.toList else s[1].getSepArgs.toList).map λ x=>mqN "Tactic.rcasesPatLo" [mqN "Tactic.rcasesPatMed" [mqO [mqP n x]],mqO]),mqA "⟩"]
local macro_rules(kind:=coeNotation)|s=>return mqT "List.length" [s[1]]
local macro_rules(kind:=Lean.Parser.Term.paren)|s=>if s[1].getKind==`Lean.Parser.Term.cdot then return mqB (mqV "decide") else if s[1][1].getKind==`Lean.Parser.Term.hole then return mqB (mqV "omega") else mqF
local macro_rules(kind:=Lean.Parser.Term.typeAscription)|s=>if s[3].getNumArgs=0 then return mqB (mqV "simpa" [mqO,mqO,mqN "Tactic.simpaArgsRest" [mqC,mqO,mqO,mqO,mqO [mqA "using",s[1]]]]) else mqF
local macro_rules(kind:=«term__[_]_!»)|s=>return mqT "Nat.testBit" [s[0],s[3]]
local macro_rules(kind:=Lean.Parser.Tactic.tacticLet__)|s=>return mqG [mqP 9 s[2][0][0]] s[2][0][4]
local macro_rules(kind:=Lean.Parser.Command.declaration)|s=>if s[1].getKind==`Lean.Parser.Command.definition&&s[0].getArgs.all (·.getNumArgs==0) then return s.setArg 0 (s[0].setArg 4 (mqO [mqN "Command.noncomputable" [mqA "noncomputable"]])) else mqF
open List renaming getElem?_eq_getElem->yAa,length_map->yAc,getElem?_map->yAd,replicate->yAe,getElem?_append_right->yAf,take_length->yAg,map_cons->yAh,size_toArray->yAi,length_cons->yAl,length_append->yAo,getElem?_set_ne->yAq,getElem?_set_self->yAr,map_append->yAv,replicate_succ->yAw,length_set->yBa,foldl_cons->yBb,map_map->yBd,getD_cons_zero->yBi,length_take->yBk,lookup_cons->yBl,range->yBm,append_assoc->yBp,length_nil->yBr,getD_cons_succ->yBs,getElem?_cons_zero->yBt,length_singleton->yBy,append_nil->yBz,mem_cons->yCa,not_mem_nil->yCe,take_of_length_le->yCh,filterMap_cons->yCi,range'->yCk,foldl_nil->yCm,find?_cons->yCo,getElem?_eq_none->yCp,set_cons_zero->yCr,getElem?_cons_succ->yCx,flatten_cons->yDb,map_congr_left->yDj,map_nil->yDn,set_cons_succ->yDp,getElem?_take_of_lt->yDt,set_eq_of_length_le->yDw,filter_cons->yEe,take->yEf,length_replicate->yEi,length_range->yEr,drop_eq_getElem_cons->yEu,length->yFb,getElem?_replicate->yFh,any_cons->yFk,nil_append->yFo,map_replicate->yFq,lookup->yFv,drop_zero->yFx,drop_length->yGc,cons_append->yGe,getElem?_of_mem->yGg,of_mem_zip->yGj,getElem_of_mem->yGl,replicate_zero->yGn,length_zip->yGo,mem_singleton->yGx,zip_cons_cons->yGy,mem_range'_1->yHj,length_drop->yHn,set_set->yHy
open Nat renaming le_refl->yAb,testBit_and->yAj,mod_two_eq_zero_or_one->yAp,le_of_ble_eq_true->yAu,sub_self->yAx,pow_le_pow_right->yAz,or_lt_two_pow->yBf,testBit_mod_two_pow->yBj,zero_le->yBv,and_le_left->yCb,zero_testBit->yCf,lt_pow_two_of_testBit->yCl,testBit_succ->yCu,lt_irrefl->yCv,testBit_div_two_pow->yCy,not_lt_zero->yDg,le_max_left->yDk,min_eq_right->yDl,testBit_zero->yDm,add_comm->yDo,min_le_left->yDv,min_eq_left->yDx,le_of_lt->yDz,and_two_pow_sub_one_eq_mod->yEa,xor_lt_two_pow->yEh,zero_add->yEk,reduceAdd->yEq,pow_lt_pow_right->yEs,lt_succ_self->yEw,min_le_right->yEx,le_of_not_lt->yEy,reduceLeDiff->yEz,add_le_add_left->yFc,testBit_two_pow->yFd,sub_le_sub_left->yFe,testBit_eq_decide_div_mod_eq->yFr,sub_le->yFw,lt_trans->yFy,pow_succ->yFz,div_lt_iff_lt_mul->yGa,le_add_right->yGd,and_le_right->yGf,div_add_mod->yGm,ne_of_gt->yGt,add_sub_cancel->yHa,succ_ne_zero->yHp,not_le_of_lt->yHq,le_of_eq->yHu,mul_comm->yHv,le_total->yHx
open Int renaming toNat_natCast->yAs,natCast_emod->yFa,natCast_mul->yFp,mul_le_mul_of_nonneg_right->yGb,natCast_nonneg->yGu,emod_lt_of_pos->yHb,le_trans->yHw
open Bool renaming false_eq_true->yAt,and_eq_true->yAy,true_and->yBc,false_ne_true->yBg,false_and->yBu,and_true->yCc,eq_iff_iff->yDf,and_false->yDs,eq_false_or_eq_true->yDy,or_eq_true->yEm,or_false->yFj
open Option renaming bind->yCs,bind_some->yCt,map_some->yDe,isNone_none->yGz,isSome_map->yHi,getD_none->yHo
open PySem.Builtin.Range renaming rangeSize->yEc,small->yHz
open PySem.Builtin.SmallTypes renaming nextOf->yBq,ownedTupleIsFree->yDh,ownedTupleHandOut->yEv,iterAll->yGs
open PySem.Builtin.Int renaming intBits->yAm
open PyProof.Rows renaming callWith_type1->yBe,slot_tuple_getitem->yCj
open PySem.Heap renaming get?_update_other->yCg,get?_update_self->yCn,SameBut->yCz,size_push->yHe
open PySem.PyData renaming tuple->yAk,int->yAn,str->yDc,eqv->yDu,depthAll->yEn,canLayAll0->yEp,list->yHm
open PySem.W renaming findIn->yBh,keepIn->yBo,emptyDict->yBw,fnOf->yBx,nsIn->yCd,codeIn->yDa,instObj->yDd,plainGet->yEd,kia_one->yEl,hasDictIn->yEo,plainOver->yFu,mg_of->yGh,plainGet_of->yGi,isFn->yGv,callWith_K->yGw,lookIn->yHd,methodObj->yHh,takerIn->yHs,makesIn->yHt
open PySem.F renaming plain_extend_loop->yDr,slot_int_rmul->yEj,args_tuple_add_2->yFf,args_tuple_mul_2->yFg,entry_tuple_add->yFi,entry_tuple_mul->yFl,slot_list_index->yFm,plainAttrs_list->yFn,slot_tuple_add->yFs,slot_tuple_mul->yFt,slot_int_bit_length->yGk,entry_extend_loop->yHf,args_list_index_2->yHg
open PySem.Builtin renaming bitNot->yBn,divisionGoesByPylong->yCw,bitAnd->yEg,bitXor->yHc,bitOr->yHl
open PySem.Builtin.Slice renaming slicePlaces->yDq,sliceAdjust->yEt,sliceApplied->yGp
open PySem.Builtin.Tuple renaming tupleExact->yCq,tupleItemsOf->yGq,tupleTooMany->yGr
open PySem.Builtin.List renaming listExtendWith->yDi,listSameRef->yHk,listItems->yHr
open Array renaming length_toList->yEb
open PySem renaming Value->qj,Shared->qv,Addr->qw,Expr->qy,sizeLine->qk,wpAny->qu,starEach->qo,sizeLine_eq->zq,Program->zx,World->zj,Around->zv,Scope->zw,mainGlobals->zy,binaryOp->zk,wpAny_holding->zu,assignEach->zo,wpAny_field->xq,behindInMarks->xz,wpAny_newObj_type->xj,compareOp->xw,wpAny_Call_Name_kw->xy,Stmt->xk,bootBuiltins->xu,foldedSetIterable->xo,wpAny_truthy_bool->jq,call_meets->jz,CmpOp->jx,wpAny_setField_rec->jj,Operator->jv,FuncData->jw,NameKind->jy,wpAny_seqItems->jk,codeAny->ju,wpAny_call_entry->jo,wpAny_passesOwn->vq,wpAny_updateSeq->vz,sliceBounds->vx,letOwnedTupleGo->vj,shortFactorBits->vv,wpAny_specialOf->vw,UnaryOp->vy,typeIs_int->vk,wpAny_rule->vo,wpAny_binaryOp_repeat_ref->wq,wpAny_pyIter_list->wz,swappedStores->wj,wpAny_standAt->ww,wpAny_pyIter_zip->wu,rawInt->yq,pyNext->yz,wpAny_pyNext_list_item->yx,wpAny_pyIter_rangeiter->yj,wpAny_pyNext_list_end->yv,IsRangeIter->yw
open Option renaming some->qz,none->qx
abbrev wB:=@PySem.wpAny_bind
abbrev wP:=@PySem.wpAny_pure
abbrev hpS:=@PySem.Heap.get?_push_of_some
def gIm {α:Type _}{l:List α}{i:Nat}{a:α}:l[i]?=qz a->∃ h,l[i]=a:=List.getElem?_eq_some_iff.mp
abbrev dqF:=@decide_eq_false
abbrev dqT:=@decide_eq_true
abbrev oqT:=@of_decide_eq_true
abbrev FrG:=PySem.W.Frag
abbrev xAa:=@PySem.Heap.lt_size
abbrev xAb:=@Nat.lt_of_lt_of_le
abbrev xAc:=@List.mem_cons_self
abbrev xAd:=@PySem.Heap.get?_push_size
abbrev xAe:=@Nat.two_pow_pos
abbrev xAf:=@List.mem_cons_of_mem
abbrev xAg:=@List.getD_eq_getElem?_getD
abbrev xAh:=@Nat.le_trans
abbrev xAi:=@Nat.lt_of_le_of_lt
abbrev xAj:=@Nat.ne_of_lt
abbrev xAk:=@List.mem_of_getElem?
abbrev xAl:=@Nat.eq_of_testBit_eq
abbrev xAm:=@List.getElem?_append_left
abbrev xAn:=@Nat.testBit_xor
abbrev xAo:=@Nat.testBit_or
abbrev xAp:=@List.mem_append_right
local macro_rules(kind:=Lean.Parser.Tactic.omega)|_s=>return mqV "lia"
set_option Elab.async false
set_option linter.all false
set_option maxRecDepth 100000
namespace L2
open PySem PySem.Spec PyProof.Rows
abbrev bE:=Sum Int Str
def nH:bE->qj->Bool
 |.inl k,v=>Value.isInt k v|.inr x,v=>Value.isStrOf x v
def aYS(w:zj):bE->Int
 |.inl k=>hashInt k|.inr x=>hashStr w x
def mU:∀ {k:bE}{v:qj},nH k v=true->(∃ i t,k=Sum.inl i/\v=Value.int i t)\/(∃ x t,k=Sum.inr x/\v=Value.str x t)
 |.inl i,v,h=>by
   let(t,e):=Value.isInt_shape (k:=i) (v:=v) h;exact .inl ⟨i,t,rfl,e⟩
 |.inr x,v,h=>by
   let(t,e):=Value.isStrOf_shape (x:=x) (v:=v) h;exact .inr ⟨x,t,rfl,e⟩
def aPX(i:Int)(t:Tok):nH (.inl i) (.int i t)=true:=by simp[nH,Value.isInt]
def aDn(x:Str)(t:Tok):nH (.inr x) (.str x t)=true:=by simp[nH,Value.isStrOf]
def aUt(a b:Int):decide ((Sum.inl a:bE)=Sum.inl b)=(a==b):=by
 by_cases e:a=b
 ·subst e;simp
 ·have h:¬ (Sum.inl a:bE)=Sum.inl b:=λ q=>e (Sum.inl.inj q)
  rw[dqF h];exact(beq_eq_false_iff_ne.mpr e).symm
def aWf(a b:Str):decide ((Sum.inr a:bE)=Sum.inr b)=decide (a=b):=by
 by_cases e:a=b
 ·subst e;simp
 ·have h:¬ (Sum.inr a:bE)=Sum.inr b:=λ q=>e (Sum.inr.inj q)
  rw[dqF h,dqF e]
def aWj(a:Int)(b:Str):decide ((Sum.inl a:bE)=Sum.inr b)=false:=dqF (λ q=>nomatch q)
def aUn(a:Str)(b:Int):decide ((Sum.inr a:bE)=Sum.inl b)=false:=dqF (λ q=>nomatch q)
def fM(prog:zx)(w:zj):PySem.KeyKind prog w bE where
 is:=nH
 hash:=aYS w
 inj:=λ v a b ha hb=>by
  rcases mU ha with ⟨i,t,rfl,rfl⟩|⟨x,t,rfl,rfl⟩
  ·rcases mU hb with ⟨j,u,rfl,e⟩|⟨y,u,rfl,e⟩
   ·injection e with e1 _;rw[e1]
   ·exact nomatch e
  ·rcases mU hb with ⟨j,u,rfl,e⟩|⟨y,u,rfl,e⟩
   ·exact nomatch e
   ·injection e with e1 _;rw[e1]
 byValue:=λ k v h=>by
  rcases mU h with ⟨i,t,rfl,rfl⟩|⟨x,t,rfl,rfl⟩<;>rfl
 pyHash:=λ hv h=>by
  rcases mU hv with ⟨i,t,rfl,rfl⟩|⟨x,t,rfl,rfl⟩
  ·exact wpAny_pyHash_int h
  ·exact wpAny_pyHash_str h
 eqBool:=λ hu hv h=>by
  rcases mU hu with ⟨i,t,rfl,rfl⟩|⟨x,t,rfl,rfl⟩
  ·rcases mU hv with ⟨j,u,rfl,rfl⟩|⟨y,u,rfl,rfl⟩
   ·rw[aUt] at h;exact wpAny_eqBool_int h
   ·rw[aWj] at h;exact SeqAt.EqAt.int_str i t y u _ _ _ _ h
  ·rcases mU hv with ⟨j,u,rfl,rfl⟩|⟨y,u,rfl,rfl⟩
   ·rw[aUn] at h;exact SeqAt.EqAt.str_int x t j u _ _ _ _ h
   ·rw[aWf] at h;exact wpAny_eqBool_str h
 «strs»:=λ k x t v h=>by
  rcases mU h with ⟨i,u,rfl,e⟩|⟨y,u,rfl,e⟩
  ·exact nomatch e
  ·injection e with e1 _
   subst e1;cases v<;>rfl
def aOs(prog:zx)(w:zj)(i:Int)(t:Tok):(fM prog w).is (.inl i) (.int i t)=true:=aPX i t
def aOx(prog:zx)(w:zj)(x:Str)(t:Tok):(fM prog w).is (.inr x) (.str x t)=true:=aDn x t
end L2
namespace L2
open PySem PySem.Spec PyProof.Rows
inductive V where
 |non|bl (b:Bool)|int (i:Int)|str (x:Str)|byt (b:Array UInt8)|flt (b:UInt64)|ref (a:qw)|ty (n:String)
 deriving DecidableEq
def aU:V->qj->Prop
 |.non,u=>u=Value.none|.bl b,u=>u=Value.bool b|.int i,u=>∃ t,u=Value.int i t|.str x,u=>∃ t,u=Value.str x t|.byt b,u=>∃ t,u=Value.bytes b t|.flt b,u=>∃ t,u=Value.float b t|.ref a,u=>u=Value.ref a|.ty n,u=>u=Value.type n
noncomputable abbrev bA:List V->List qj->Prop:=Paired aU
def bA.length{xs:List V}(r:bA xs us):↑xs=↑us:=Paired.length r
def bA.get:∀ {xs:List V}{us:List qj}{i:Nat}{x:V},bA xs us->xs[i]?=qz x->∃ u,us[i]?=qz u/\aU x u
 |_,_,_,_,.nil,e=>by simp at e|_,_,0,_,.cons r _,e=>by simp at e;subst e;exact⟨_,rfl,r⟩
 |_,_,i+1,x,.cons _ t,e=>by
   let(u,h1,h2):=bA.get (i:=i) (x:=x) t (e:);exact⟨u,by simpa using h1,h2⟩
def bA.set(r:aU x u):∀ {xs:List V}{us:List qj} (i:Nat),bA xs us->bA (xs.set i x) (us.set i u)
 |_,_,_,.nil=>.nil|_,_,0,.cons _ t=>.cons r t|_,_,i+1,.cons q t=>.cons q (bA.set r i t)
def bA.append:∀ {xs ys:List V}{us ws:List qj},bA xs us->bA ys ws->bA (xs++ys) (us++ws)
 |_,_,_,_,.nil,s=>s|_,_,_,_,.cons r t,s=>.cons r (bA.append t s)
def bA.take:∀ {xs:List V}{us:List qj} (n:Nat),bA xs us->bA (xs.take n) (us.take n)
 |_,_,0,_=>.nil|_,_,_+1,.nil=>.nil|_,_,n+1,.cons r t=>.cons r (bA.take n t)
def bA.drop:∀ {xs:List V}{us:List qj} (n:Nat),bA xs us->bA (xs.drop n) (us.drop n)
 |_,_,0,r=>r|_,_,_+1,.nil=>.nil|_,_,n+1,.cons _ t=>bA.drop n t
def bA.none_of:∀ {xs:List V}{us:List qj}{i:Nat},bA xs us->xs[i]?=qx->us[i]?=qx:=λ {xs us i} r e=>by
 have h1:=r.length;have h2:↑xs<=i:=List.getElem?_eq_none_iff.mp e;exact List.getElem?_eq_none_iff.mpr (!_)
def fW:Option V->Option qj->Prop
 |some v,qz u=>aU v u|none,qx=>True|_,_=>False
def KV{κ:Type}:List (κ×V)->List (κ×qj)->Prop:=Paired λ(p:κ×V) (q:κ×qj)=>p.1=q.1/\aU p.2 q.2
def kV:bE->V
 |.inl i=>.int i|.inr x=>.str x
inductive HO where
 |lst (xs:List V)
 |tup (xs:List V)
 |dK (aF:List (bE×V))|dT (aF:List (List bE×V))
 |set (S:Int->Bool) (n:Nat)
 |ins (C dx:qw) (fs:List (Str×V))
 |own (x:qw)
 |xd (fs:List (Str×V))
 |met (f x:qw)
 |rng (lo hi:Int)
 |frz (o:Obj) (u:HO)
 |tbl (ps:Array qj)
 |ext (φ:Heap->Prop)
abbrev Hp:=qw->Option HO
def bF(H:Hp)(a:qw)(o:HO):Hp:=λ b=>if b=a then qz o else H b
def cO:bF H a o a=qz o:=by unfold bF;rw[if_pos rfl]
def bO(h:b≠a):bF H a o b=H b:=by unfold bF;rw[if_neg h]
def aXO{H:Hp}{a b:qw}{o u:HO}(h:H a=qz o)(h':H b=qz u)(d:o≠u):a≠b:=by intro e;subst e;rw[h] at h';exact d (Option.some.inj h')
def eP{H:Hp}{a b:qw}{o:HO}(h:H a=qz o)(h':H b=qx):a≠b:=by intro e;subst e;rw[h] at h';cases h'
section
variable (P:zx)(w:zj)
def eQ(H:Hp)(h:Heap)(a:qw):HO->Prop
 |.lst xs=>↑xs<=qk/\∃ (aG:List qj) (n:Nat),bA xs aG/\h.get? a=qz {cls:=.type "list",data:=.seq aG.toArray n }|.tup xs=>↑xs<=qk/\∃ aG:List qj,bA xs aG/\IsTup h a aG.toArray|.dK aF=>aF.length<=qk/\(a==sysModules)=false/\∃ vs,KV aF vs/\h.DictOf (fM P w) a vs
 |.dT aF=>aF.length<=qk/\(a==sysModules)=false/\∃ xs:List (List bE×qw×qj),
    Paired (λ(p:List bE×V) (q:List bE×qw×qj)=>p.1=q.1/\H q.2.1=qz (.tup (p.1.map kV))/\aU p.2 q.2.2) aF xs /\
    ∃ o es ep,h.get? a=qz o/\o.ExactDict/\o.data=.dict es ep/\es.toList=xs.map (entryOfKey (tupleKind (fM P w)))/\(xs.map (·.1)).Nodup
 |.set S n=>h.SetOf (intKind P w) a S n
 |.ins C dx fs=>H dx=qz (.own a)/\↑fs<=1000/\dx≠a/\h.get? a=qz (yDd C dx) /\
    ∃ mA,h.Ns1 dx mA/\(∀ f,fW (fs.lookup f) (mA f))/\PySem.Within mA (fs.map (·.1))
 |.own _=>∃ o,h.get? a=qz o|.xd fs=>∃ mA,h.Ns1 a mA/\∀ f,fW (fs.lookup f) (mA f)|.rng lo hi=>∃ t u v,h.get? a=qz {cls:=.type "range",data:=.fields #[.int lo t,.int hi u,.int 1 v] }|.frz o u=>h.get? a=qz o/\eQ H h a u|.tbl ps=>h.get? a=qz {cls:=.none,data:=.fields ps }|.met f x=>h.get? a=qz (yHh (.ref f) (.ref x))|.ext φ=>φ h/\(∃ o,h.get? a=qz o)/\∀ h1 h2:Heap,φ h1->(∀ o,h1.get? a=qz o->h2.get? a=qz o)->φ h2
def bM(H:Hp)(h:Heap):Prop:=∀ a o,H a=qz o->eQ P w H h a o
end
def eQ.lt(x:eQ P w H h a o):a<h.objs.size:=by
 cases o with
 |lst xs=>let(_,_,_,_,e):=x;exact xAa e
 |tup xs=>let(_,_,_,p):=x;exact p.lt
 |dK aF=>let(_,_,_,_,o,_,_,e,_):=x;exact xAa e
 |dT aF=>let(_,_,_,_,o,_,_,e,_):=x;exact xAa e
 |set S n=>let(o,_,_,_,e,_):=x;exact xAa e
 |ins C dx fs=>let(_,_,_,e,_):=x;exact xAa e
 |own y=>let(_,e):=x;exact xAa e
 |xd fs=>let(_,(_,_,_,e,_),_):=x;exact xAa e
 |rng lo hi=>let(_,_,_,e):=x;exact xAa e
 |frz ob u=>let(e,_):=x;exact xAa e
 |tbl ps=>exact xAa (show h.get? a=qz _ from x)
 |met f y=>exact xAa (show h.get? a=qz _ from x)
 |ext φ=>let(_,(_,e),_):=x;exact xAa e
def Paired.mapP{α β:Type}{F G:α->β->Prop}:∀ {l₁:List α}{l₂:List β},Paired F l₁ l₂->(∀ a b,F a b->G a b)->Paired G l₁ l₂
 |_,_,.nil,_=>.nil|_,_,.cons r t,f=>.cons (f _ _ r) (Paired.mapP t f)
def eQ.stay{h':Heap}(x:eQ P w H h a o)(k:∀ b u,(b=a\/H b=qz (.own a))->h.get? b=qz u->h'.get? b=qz u)(ho:∀ b,H b=qz (.own a)->H' b=qz (.own a))(ht:∀ b xs,H b=qz (.tup xs)->H' b=qz (.tup xs)):eQ P w H' h' a o:=by
 induction o with
 |lst xs=>let(z,aG,n,r,e):=x;exact⟨z,aG,n,r,k _ _ (.inl rfl) e⟩
 |tup xs=>let(z,aG,r,ob,e,c):=x;exact⟨z,aG,r,ob,k _ _ (.inl rfl) e,c⟩
 |dK aF=>let(z,y,vs,r,ob,es,ep,e,c):=x;exact⟨z,y,vs,r,ob,es,ep,k _ _ (.inl rfl) e,c⟩
 |dT aF=>
   let(z,y,xs,r,ob,es,ep,e,c):=x;exact⟨z,y,xs,Paired.mapP r λ p q z=>⟨z.1,ht _ _ z.2.1,z.2.2⟩,ob,es,ep,k _ _ (.inl rfl) e,c⟩
 |set S n=>let(ob,es,ep,t,e,c):=x;exact⟨ob,es,ep,t,k _ _ (.inl rfl) e,c⟩
 |ins C dx fs=>
   let(d,z,ne,e,mA,(od,es,ep,e2,c),r):=x;exact⟨ho _ d,z,ne,k _ _ (.inl rfl) e,mA,⟨od,es,ep,k _ _ (.inr d) e2,c⟩,r⟩
 |own y=>let(ob,e):=x;exact⟨ob,k _ _ (.inl rfl) e⟩
 |xd fs=>let(mA,(od,es,ep,e,c),r):=x;exact⟨mA,⟨od,es,ep,k _ _ (.inl rfl) e,c⟩,r⟩
 |rng lo hi=>let(t,u,v,e):=x;exact⟨t,u,v,k _ _ (.inl rfl) e⟩
 |frz ob u ih=>let(e,q):=x;exact⟨k _ _ (.inl rfl) e,ih q⟩
 |tbl ps=>
   have e:h.get? a=qz {cls:=.none,data:=.fields ps }:=x;show h'.get? a=qz {cls:=.none,data:=.fields ps };exact k a _ (.inl rfl) e
 |met f y=>
   have e:h.get? a=qz (yHh (.ref f) (.ref y)):=x;show h'.get? a=qz (yHh (.ref f) (.ref y));exact k a _ (.inl rfl) e
 |ext φ=>let(p,(o,e),st):=x;exact⟨st _ _ p λ o q=>k _ _ (.inl rfl) q,⟨o,k _ _ (.inl rfl) e⟩,st⟩
def bM.lt(x:bM P w H h)(e:H a=qz o):a<h.objs.size:=(x a o e).lt
def bM.fresh(x:bM P w H h)(e:h.objs.size<=a):H a=qx:=by
 cases q:H a with
 |none=>rfl|some u=>exact absurd (xAb (x.lt q) e) (yCv _)
def bM.kept{h':Heap}(x:bM P w H h)(k:∀ b u,h.get? b=qz u->h'.get? b=qz u):bM P w H h':=λ a o e=>
 (x a o e).stay (λ b u _ q=>k b u q) (λ _ q=>q) λ _ _ q=>q
def bM.laid{h':Heap}(x:bM P w H h)(k:∀ b u,h.get? b=qz u->h'.get? b=qz u)(hp:h.objs.size<=a)(new:eQ P w (bF H a o) h' a o):bM P w (bF H a o) h':=λ b u e=>by
 have hn:=x.fresh hp;by_cases hb:b=a
 ·subst hb;rw[cO] at e;cases e;exact new
 ·rw[bO hb] at e;exact(x b u e).stay (λ c v _ q=>k c v q) (λ c q=>by rw[bO (eP q hn)];exact q) λ c xs q=>by rw[bO (eP q hn)];exact q
def Rd(H:Hp)(a:qw)(u:HO):Prop:=H a=qz u\/∃ o,H a=qz (.frz o u)
def Rd.ok(r:Rd H a u)(x:bM P w H h):eQ P w H h a u:=by
 rcases r with r|⟨o,r⟩
 ·exact x a u r
 ·let(_,q):=x a _ r;exact q
def zM:Option HO->Prop
 |some (.lst _)=>True|some (.dK _)=>True|some (.dT _)=>True|some (.set _ _)=>True|some (.ins _ _ _)=>True|some (.ext _)=>True|_=>False
def bM.write{h':Heap}(ok:bM P w H h)(mu:zM (H x))(he:e=x\/H e=qz (.own x))(k:∀ b u,b≠e->h.get? b=qz u->h'.get? b=qz u)(heo:∃ u,h'.get? e=qz u)(new:eQ P w (bF H x o') h' x o'):bM P w (bF H x o') h':=λ b u q=>by
 have nown:∀ c y,H c=qz (.own y)->c≠x:=λ c y r z=>by subst z;rw[r] at mu;exact mu
 have ntup:∀ c xs,H c=qz (.tup xs)->c≠x:=λ c xs r z=>by subst z;rw[r] at mu;exact mu
 by_cases hb:b=x
 ·subst hb;rw[cO] at q;cases q;exact new
 ·rw[bO hb] at q;by_cases hbe:b=e
  ·have q':H b=qz (.own x):=by
    rcases he with z|z
    ·exact absurd (hbe.trans z) hb
    ·rw[hbe];exact z
   rw[q] at q';cases q';let(v,hv):=heo;exact⟨v,by rw[hbe];exact hv⟩
  ·refine(ok b u q).stay (λ c v hc r=>k c v ?_ r) (λ c r=>by rw[bO (nown c b r)];exact r) λ c xs r=>by rw[bO (ntup c xs r)];exact r
   rcases hc with rfl|hc
   ·exact hbe
   ·rintro rfl;rcases he with z|z
    ·exact nown c b hc z
    ·rw[hc] at z;cases z;exact hb rfl
structure Un(fs ex:List qw)(H H':Hp)(h h':Heap):Prop where
 keep:∀ b o,h.get? b=qz o->H b=qx->b ∉ fs->b ∉ ex->h'.get? b=qz o
 slot:∀ b o,h.get? b=qz o->H b=qx->b∈fs->b ∉ ex->∃ sl,h'.get? b=qz {o with slots:=sl }
 free:∀ b o,h.get? b=qz o->H b=qx->b ∉ ex->H' b=qx
 there:∀ b o,h.get? b=qz o->b ∉ ex->∃ o',h'.get? b=qz o'
 tups:∀ b xs,H b=qz (.tup xs)->H' b=qz (.tup xs)
 frzs:∀ b o u,H b=qz (.frz o u)->H' b=qz (.frz o u)
 tbls:∀ b ps,H b=qz (.tbl ps)->∃ more,H' b=qz (.tbl (ps++more))
def Un.any(u:Un fs ex H H1 h h1)(q:h.get? b=qz ob)(n:H b=qx)(hx:b ∉ ex):∃ sl,h1.get? b=qz {ob with slots:=sl }:=by
 by_cases hb:b∈fs
 ·exact u.slot b ob q n hb hx
 ·exact⟨ob.slots,u.keep b ob q n hb hx⟩
def Un.kept{h h':Heap}(k:∀ b u,h.get? b=qz u->h'.get? b=qz u):Un fs ex H H h h':=
 ⟨λ b ob q _ _ _=>k b ob q,λ b ob q _ _ _=>⟨ob.slots,k b ob q⟩,λ _ _ _ n _=>n,λ b ob q _=>⟨ob,k b ob q⟩,λ _ _ q=>q,λ _ _ _ q=>q,λ _ ps q=>⟨#[],by rw[q];simp⟩⟩
def Un.refl:Un fs ex H H h h:=Un.kept λ _ _ q=>q
def Un.laid{h h':Heap}(k:∀ b u,h.get? b=qz u->h'.get? b=qz u)(hp:h.objs.size<=a)(hn:H a=qx):Un fs ex H (bF H a o) h h' where
 keep:=λ b u q _ _ _=>k b u q
 slot:=λ b u q _ _ _=>⟨u.slots,k b u q⟩
 free:=λ b u q n _=>by rw[bO (xAj (xAb (xAa q) hp))];exact n
 there:=λ b u q _=>⟨u,k b u q⟩
 tups:=λ b xs q=>by rw[bO (eP q hn)];exact q
 frzs:=λ b u xs q=>by rw[bO (eP q hn)];exact q
 tbls:=λ b ps q=>⟨#[],by rw[bO (eP q hn),q];simp⟩
def Un.write{h h':Heap}(mu:zM (H x))(he:e=x\/H e=qz (.own x))(k:∀ b u,b≠e->h.get? b=qz u->h'.get? b=qz u)(heo:∃ u,h'.get? e=qz u):Un fs ex H (bF H x o) h h':=by
 have hx:∀ b,H b=qx->b≠x:=λ b n z=>by subst z;rw[n] at mu;exact mu
 have hb:∀ b,H b=qx->b≠e:=λ b n z=>by
  subst z;rcases he with r|r
  ·exact hx b n r
  ·rw[n] at r;cases r
 have hm:∀ b u,H b=qz u->¬ zM (qz u)->b≠x:=λ b u q nm z=>by subst z;rw[q] at mu;exact nm mu
 refine⟨λ b u q n _ _=>k b u (hb b n) q,λ b u q n _ _=>⟨u.slots,k b u (hb b n) q⟩,λ b u q n _=>by rw[bO (hx b n)];exact n,λ b u q _=>?_,
  λ b xs q=>by rw[bO (hm b _ q λ z=>z)];exact q,λ b u xs q=>by rw[bO (hm b _ q λ z=>z)];exact q,λ b ps q=>⟨#[],by rw[bO (hm b _ q λ z=>z),q];simp⟩⟩
 by_cases hbe:b=e
 ·subst hbe;exact heo
 ·exact⟨u,k b u hbe q⟩
def trk(h:Heap)(H:Hp):List qw:=(yBm h.objs.size).filter λ a=>(H a).isSome
def nX(h:Heap)(H:Hp):Heap:=PySem.W.hideAll h (trk h H)
def aPj(h:Heap)(H:Hp):(nX h H).objs.size=h.objs.size:=PySem.W.hideAll_size _ _
def aQe{h:Heap}(e:h.get? b=qz o)(n:H b=qx):(nX h H).get? b=qz o:=
 PySem.W.hideAll_get _ e λ hm=>by
  have q:(H b).isSome=true:=(List.mem_filter.mp hm).2;rw[n] at q;simp at q
def aSu(e:(nX h H).get? b=qz o):h.get? b=qz o/\H b=qx:=by
 have e':h.get? b=qz o:=PySem.W.of_hideAll (trk h H) e;refine⟨e',?_⟩;cases q:H b with
 |none=>rfl
 |some x=>
   have hm:b∈trk h H:=List.mem_filter.mpr ⟨List.mem_range.mpr (xAa e'),by simp[q]⟩;have z:(nX h H).get? b=qx:=PySem.W.hideAll_none (trk h H) hm;rw[z] at e;cases e
def aSH(g h:Heap)(L:qw):List (qw×Obj):=(yBm h.objs.size).filterMap λ a=>if a=L\/(g.get? a).isSome=true then qx else (h.get? a).map λ o=>(a,o)
def cC(g h:Heap)(L d:qw):List (qw×Obj):=(aSH g h L).filter λ p=>decide (p.1≠d)
end L2
namespace L2
open PySem PySem.Spec PyProof.Rows
structure Mod(K:FrG)(mg:Str->Option qj)(base:Heap):Prop where
 kin:K.In base
 glob:base.Ns zy mg
 blt:∃ mb,base.Ns builtinsNs mb/\∀ x:Str,x ≠ "__name__" -> mb x=xu x
 nolimit:base.NoLimit
structure Cx where
 prog:zx
 w:zj
 K:FrG
 mg:Str->Option qj
 base:Heap
 A:zv
 N:List Str
 s₀:qv
 H₀:Hp
 env:Env
 outer:List Env
 stack:List Env
 ex:List qw
 fn:Str->Bool
 calm:Bool
 pn:List (qw×Obj)
 xe:qj->qv->Prop
def frs(l:List Env):List qw:=l.filterMap (·.frame)
noncomputable abbrev Cx.fs(X:Cx):List qw:=frs X.outer
def zP(sc:zw)(x:Str):Prop:=sc.names.lookup x=qz .local\/sc.names.lookup x=qz .cell\/sc.names.lookup x=qz .free
def Loc(sc:zw)(x:Str):Prop:=sc.names.lookup x=qz .local\/sc.names.lookup x=qz .cell
def aZV(env:Env)(h:Heap)(m:Str->Option qj)(x:Str)(u:qj):Prop:=
 (env.kindOf x=qz .local/\m x=qz u)\/((env.kindOf x=qz .cell\/env.kindOf x=qz .free)/\∃ c,env.cells.lookup x=qz c/\h.IsCell c (qz u))
structure Cx.Ok(X:Cx):Prop where
 mod:Mod X.K X.mg X.base
 kind:X.env.scope.kind=.function
 glob:X.env.globals=zy
 blt:X.env.builtins=builtinsNs
 above:X.s₀.heap.objs.size<=X.env.locals
 inj:∀ x y c,X.env.cells.lookup x=qz c->X.env.cells.lookup y=qz c->x=y
 has:∀ x,(X.env.kindOf x=qz .cell\/X.env.kindOf x=qz .free)->∃ c,X.env.cells.lookup x=qz c
 cab:∀ x c,X.fn x=true->X.env.cells.lookup x=qz c->X.s₀.heap.objs.size<=c
 hd:X.calm=true->X.A.handled=qx
 frames:X.A.frames=qz X.stack
 stk:X.stack=X.outer\/(X.stack=X.env::X.outer/\X.env.frame=qz X.env.locals)
 exf:∀ b∈X.ex,b≠X.env.locals/\∀ x c,X.env.cells.lookup x=qz c->c≠b
 bs:∀ b o,X.base.get? b=qz o->X.s₀.heap.get? b=qz o/\X.H₀ b=qx
 bsz:X.base.objs.size<=X.s₀.heap.objs.size
 noex:∀ b o,X.base.get? b=qz o->b ∉ X.ex
 exfs:∀ b∈X.ex,b ∉ X.fs
 funs:X.s₀.heap.FunFrames X.base X.outer
 frf:∀ b∈X.fs,X.H₀ b=qx
structure Inv(X:Cx)(aB:List (qw×Obj))(σ:List (Option V))(H:Hp)(s:qv):Prop where
 ok:X.Ok
 os:s.os=X.s₀.os
 bare:AllBare s.gens
 base:Un X.fs X.ex X.H₀ H X.s₀.heap s.heap
 loc:∃ m,s.heap.Ns X.env.locals m/\∀ (i:Nat) (x:Str) (v:V),X.N[i]?=qz x->σ[i]?=qz (qz v)->zP X.env.scope x->∃ u,aU v u/\aZV X.env s.heap m x u
 cell:∀ x c,X.env.cells.lookup x=qz c->∃ v,s.heap.IsCell c v
 free:H X.env.locals=qx
 freeC:∀ x c,X.env.cells.lookup x=qz c->H c=qx
 pin:∀ p∈X.pn++aB,s.heap.get? p.1=qz p.2/\H p.1=qx/\p.1≠X.env.locals/\p.1 ∉ X.fs/\∀ v,p.2.data≠.cell v
 hok:bM X.prog X.w H s.heap
 len:σ.length=X.N.length
section
variable {X:Cx}{aB:List (qw×Obj)}{σ:List (Option V)}{H H':Hp}{s:qv}{h':Heap}
def Cx.Ok.nofr(ok:X.Ok)(e:X.base.get? b=qz o):b ∉ X.fs:=λ hb=>by
 have:=(ok.funs.mem hb).1;rw[e] at this;cases this
def Inv.bs(I:Inv X aB σ H s):∀ b o,X.base.get? b=qz o->s.heap.get? b=qz o/\H b=qx:=λ b o e=>
 ⟨I.base.keep b o (I.ok.bs b o e).1 (I.ok.bs b o e).2 (I.ok.nofr e) (I.ok.noex b o e),I.base.free b o (I.ok.bs b o e).1 (I.ok.bs b o e).2 (I.ok.noex b o e)⟩
def Inv.bk(I:Inv X aB σ H s):∀ b o,X.base.get? b=qz o->s.heap.get? b=qz o:=λ b o e=>(I.bs b o e).1
def Inv.mod(I:Inv X aB σ H s):Mod X.K X.mg X.base:=I.ok.mod
def Inv.kIn(I:Inv X aB σ H s):X.K.In s.heap:=I.ok.mod.kin.keeps I.bk
def Inv.lt(I:Inv X aB σ H s):X.env.locals<s.heap.objs.size:=let ⟨_,hn,_⟩:=I.loc;hn.lt
def Inv.sz(I:Inv X aB σ H s):X.s₀.heap.objs.size<=s.heap.objs.size:=xAh I.ok.above (yDz I.lt)
def Inv.nofs(I:Inv X aB σ H s)(h:s.heap.objs.size<=a):a ∉ X.fs:=λ hb=>by
 let(_,o,ho,_):=I.ok.funs.mem hb;exact absurd (xAb (xAa ho) (xAh I.sz h)) (yCv _)
def Inv.cne(I:Inv X aB σ H s):∀ x c,X.env.cells.lookup x=qz c->c≠X.env.locals:=λ x c e z=>by
 let(v,o,ho,hd):=I.cell x c e;let(m,(o',es,ep,ho',hd',_),_):=I.loc;rw[z,ho'] at ho;cases ho;rw[hd'] at hd;cases hd
def Inv.funs(I:Inv X aB σ H s):s.heap.FunFrames X.base X.outer:=by
 have all:∀ (l:List Env),(∀ b∈frs l,b∈X.fs)->X.s₀.heap.FunFrames X.base l->s.heap.FunFrames X.base l:=by
  intro l
  induction l with
  |nil=>intro _ _;trivial
  |cons env r ih=>
    intro hs hl;let(hk,(L,o,hf,hn,ho,hd),hr):=hl;have hL:L∈X.fs:=hs L (by unfold frs;rw[yCi,hf];exact xAc);let(sl,e):=I.base.slot L o ho (I.ok.frf L hL) hL λ z=>I.ok.exfs L z hL
    exact⟨hk,⟨L,_,hf,hn,e,hd⟩,ih (λ b hb=>hs b (by unfold frs;rw[yCi,hf];exact xAf _ hb)) hr⟩
 exact all X.outer (λ _ hb=>hb) I.ok.funs
def Inv.stack(I:Inv X aB σ H s):s.heap.FunFrames X.base X.stack:=by
 rcases I.ok.stk with e|⟨e,hf⟩
 ·rw[e];exact I.funs
 ·rw[e];let(m,hn,_):=I.loc;refine .cons (by rw[I.ok.kind];decide) hf hn ?_ I.funs;exact Heap.get?_none_of_le (xAh I.ok.bsz I.ok.above)
def Inv.stkSub(I:Inv X aB σ H s):∀ b∈frs X.stack,b∈X.env.locals::X.fs:=λ b hb=>by
 rcases I.ok.stk with e|⟨e,hf⟩
 ·rw[e] at hb;exact xAf _ hb
 ·rw[e] at hb;unfold frs at hb;rw[yCi,hf] at hb;exact hb
def Inv.stkFree(I:Inv X aB σ H s):∀ b∈frs X.stack,H b=qx:=λ b hb=>by
 rcases List.mem_cons.mp (I.stkSub b hb) with e|hb
 ·rw[e];exact I.free
 ·let(_,o,ho,_):=I.ok.funs.mem hb;exact I.base.free b o ho (I.ok.frf b hb) λ z=>I.ok.exfs b z hb
def Inv.step{g':Array GenState}{t':Nat}{d':Drawn}{ch:List qw}(I:Inv X aB σ H s)
 (hch:∀ b∈ch,(b∈X.ex\/X.s₀.heap.objs.size<=b)/\b≠X.env.locals/\(∀ x c,X.env.cells.lookup x=qz c->c≠b)/\∀ p∈X.pn++aB,p.1≠b)
 (keep:∀ b o,b≠X.env.locals->b ∉ X.fs->b ∉ ch->s.heap.get? b=qz o->H b=qx->h'.get? b=qz o)
 (slot:∀ b o,b≠X.env.locals->b∈X.fs->b ∉ ch->s.heap.get? b=qz o->H b=qx->∃ sl,h'.get? b=qz {o with slots:=sl }) (free:∀ b o,b ∉ ch->s.heap.get? b=qz o->H b=qx->H' b=qx)
 (there:∀ b o,b ∉ ch->s.heap.get? b=qz o->∃ o',h'.get? b=qz o')
 (tups:∀ b xs,H b=qz (.tup xs)->H' b=qz (.tup xs)) (frzs:∀ b o u,H b=qz (.frz o u)->H' b=qz (.frz o u)) (tbls:∀ b ps,H b=qz (.tbl ps)->∃ more,H' b=qz (.tbl (ps++more)))
 (ns:∀ m,s.heap.Ns X.env.locals m->h'.Ns X.env.locals m) (hok:bM X.prog X.w H' h') (hg:AllBare g') :
 Inv X aB σ H' {s with heap:=h',gens:=g',drawn:=d',toks:=t' }:=by
 have neL:∀ b o,X.s₀.heap.get? b=qz o->b≠X.env.locals:=λ b o e=>xAj (xAb (xAa e) I.ok.above)
 have neC:∀ b o,X.s₀.heap.get? b=qz o->b ∉ X.ex->b ∉ ch:=λ b o e hx hb=>by
  rcases (hch b hb).1 with z|z
  ·exact hx z
  ·exact absurd (xAb (xAa e) z) (yCv _)
 have cellK:∀ x c,X.env.cells.lookup x=qz c->∀ v,s.heap.IsCell c v->h'.IsCell c v:=λ x c e v aX=>by
  let(o,ho,hd):=aX;have nch:c ∉ ch:=λ z=>(hch c z).2.2.1 x c e rfl
  by_cases hc:c∈X.fs
  ·let(sl,q):=slot c o (I.cne x c e) hc nch ho (I.freeC x c e);exact⟨_,q,hd⟩
  ·exact⟨o,keep c o (I.cne x c e) hc nch ho (I.freeC x c e),hd⟩
 refine⟨I.ok,I.os,hg,⟨λ b o e n hb hx=>?_,λ b o e n hb hx=>?_,λ b o e n hx=>?_,λ b o e hx=>?_,λ b xs e=>tups b xs (I.base.tups b xs e),λ b o xs e=>frzs b o xs (I.base.frzs b o xs e),λ b ps e=>?_⟩,?_,λ x c e=>?_,?_,λ x c e=>?_,λ p hp=>?_,hok,I.len⟩
 ·exact keep b o (neL b o e) hb (neC b o e hx) (I.base.keep b o e n hb hx) (I.base.free b o e n hx)
 ·let(sl,e1):=I.base.slot b o e n hb hx;let(sl',e2):=slot b _ (neL b o e) hb (neC b o e hx) e1 (I.base.free b o e n hx);exact⟨sl',e2⟩
 ·let(o',e1):=I.base.there b o e hx;exact free b o' (neC b o e hx) e1 (I.base.free b o e n hx)
 ·let(o',e1):=I.base.there b o e hx;exact there b o' (neC b o e hx) e1
 ·let(m1,e1):=I.base.tbls b ps e;let(m2,e2):=tbls b _ e1;exact⟨m1++m2,by rw[e2,Array.append_assoc]⟩
 ·let(m,hn,hl):=I.loc;refine⟨m,ns m hn,λ i x v e1 e2 e3=>?_⟩;let(u,r,l):=hl i x v e1 e2 e3;refine⟨u,r,?_⟩;rcases l with l|⟨k,c,e,z⟩
  ·exact .inl l
  ·exact .inr ⟨k,c,e,cellK x c e _ z⟩
 ·let(v,z):=I.cell x c e;exact⟨v,cellK x c e v z⟩
 ·let(m,(o,_,_,ho,_),_):=I.loc;exact free _ o (λ z=>(hch _ z).2.1 rfl) ho I.free
 ·let(v,o,ho,hd):=I.cell x c e;exact free c o (λ z=>(hch c z).2.2.1 x c e rfl) ho (I.freeC x c e)
 ·let(e,n,ne,nf,d):=I.pin p hp;have nch:p.1 ∉ ch:=λ z=>(hch p.1 z).2.2.2 p hp rfl
  exact⟨keep p.1 p.2 ne nf nch e n,free p.1 p.2 nch e n,ne,nf,d⟩
def Inv.un(I:Inv X aB σ H s)(u:Un X.fs [] H H' s.heap h')(hok:bM X.prog X.w H' h'):Inv X aB σ H' {s with heap:=h',toks:=t' }:=by
 let(m,(o,es,ep,ho,r),_):=id I.loc;let(sl,hL):=u.any ho I.free (by simp)
 exact I.step (g':=s.gens) (d':=s.drawn) (ch:=[]) (λ _ z=>nomatch z) (λ b o _ hb _ e n=>u.keep b o e n hb (by simp)) (λ b o _ hb _ e n=>u.slot b o e n hb (by simp)) (λ b o _ e n=>u.free b o e n (by simp)) (λ b o _ e=>u.there b o e (by simp)) u.tups u.frzs u.tbls (λ m' hm=>by
  let(o',es',ep',ho',r'):=hm;rw[ho] at ho';cases ho';exact⟨_,es',ep',hL,r'⟩) hok I.bare
def Inv.call(I:Inv X aB σ H s)(u:Un (frs X.stack) ch H H' s.heap h')(hok:bM X.prog X.w H' h')(hg:AllBare g')(hch:∀ b∈ch,(b∈X.ex\/X.s₀.heap.objs.size<=b)/\b≠X.env.locals/\(∀ x c,X.env.cells.lookup x=qz c->c≠b)/\∀ p∈X.pn++aB,p.1≠b) :
 Inv X aB σ H' {s with heap:=h',gens:=g',drawn:=d',toks:=t' }:=by
 let(m,(o,es,ep,ho,r),_):=id I.loc;let(sl,hL):=u.any ho I.free λ z=>(hch _ z).2.1 rfl
 exact I.step (ch:=ch) hch (λ b o hL hb hc e n=>u.keep b o e n (λ z=>(List.mem_cons.mp (I.stkSub b z)).elim hL hb) hc) (λ b o _ _ hc e n=>u.any e n hc) (λ b o hc e n=>u.free b o e n hc) (λ b o hc e=>u.there b o e hc) u.tups u.frzs u.tbls (λ m' hm=>by
  let(o',es',ep',ho',r'):=hm;rw[ho] at ho';cases ho';exact⟨_,es',ep',hL,r'⟩) hok hg
def Inv.turned(I:Inv X aB σ H s)(k:∀ b o,b≠it->s.heap.get? b=qz o->h'.get? b=qz o)(hn:H it=qx)(hL:it≠X.env.locals)(h1:it∈X.ex\/X.s₀.heap.objs.size<=it)(h2:∀ x c,X.env.cells.lookup x=qz c->c≠it)(h3:∀ p∈X.pn++aB,p.1≠it):Inv X aB σ H {s with heap:=h',toks:=t' }:=by
 have nit:∀ b u,H b=qz u->b≠it:=λ b u e z=>by rw[z,hn] at e;cases e
 refine I.step (g':=s.gens) (d':=s.drawn) (ch:=[it]) (λ b hb=>?_) (λ b o _ _ hc e _=>k b o (λ z=>hc (by simp[z])) e) (λ b o _ _ hc e _=>⟨o.slots,k b o (λ z=>hc (by simp[z])) e⟩) (λ _ _ _ _ n=>n)
  (λ b o hc e=>⟨o,k b o (λ z=>hc (by simp[z])) e⟩) (λ _ _ e=>e) (λ _ _ _ e=>e) (λ b ps e=>⟨#[],by rw[e];simp⟩) (λ m hm=>?_) (λ b u e=>?_) I.bare
 ·have e:b=it:=(hb:)
  subst e;exact⟨h1,hL,h2,h3⟩
 ·let(o,es,ep,ho,r):=hm;exact⟨o,es,ep,k _ o (Ne.symm hL) ho,r⟩
 ·refine(I.hok b u e).stay (λ c v hc q=>k c v ?_ q) (λ _ q=>q) λ _ _ q=>q
  rcases hc with z|z
  ·rw[z];exact nit b u e
  ·exact nit c _ z
def Inv.tok(I:Inv X aB σ H s)(t:Nat):Inv X aB σ H {s with toks:=t }:=I.un (h':=s.heap) (t':=t) Un.refl I.hok
def Inv.kept(I:Inv X aB σ H s)(k:∀ b u,s.heap.get? b=qz u->h'.get? b=qz u):Inv X aB σ H {s with heap:=h',toks:=t' }:=I.un (Un.kept k) (I.hok.kept k)
def Inv.laid(I:Inv X aB σ H s)(k:∀ b u,s.heap.get? b=qz u->h'.get? b=qz u)(hp:s.heap.objs.size<=a)(new:eQ X.prog X.w (bF H a o) h' a o) :
 Inv X aB σ (bF H a o) {s with heap:=h',toks:=t' }:=I.un (Un.laid k hp (I.hok.fresh hp)) (I.hok.laid k hp new)
def Inv.write(I:Inv X aB σ H s)(mu:zM (H x))(he:e=x\/H e=qz (.own x))(k:∀ b u,b≠e->s.heap.get? b=qz u->h'.get? b=qz u)(heo:∃ u,h'.get? e=qz u)(new:eQ X.prog X.w (bF H x o) h' x o):Inv X aB σ (bF H x o) {s with heap:=h',toks:=t' }:=I.un (Un.write mu he k heo) (I.hok.write mu he k heo new)
def Inv.pins_of(I:Inv X aB σ H s)(h:∀ p∈pins',s.heap.get? p.1=qz p.2/\H p.1=qx/\p.1≠X.env.locals/\p.1 ∉ X.fs/\∀ v,p.2.data≠.cell v):Inv X pins' σ H s:=
 ⟨I.ok,I.os,I.bare,I.base,I.loc,I.cell,I.free,I.freeC,λ p hp=>(List.mem_append.mp hp).elim (λ z=>I.pin p (List.mem_append_left _ z)) (h p),I.hok,I.len⟩
def aIO{N:List Str}(hN:N.Nodup){i j:Nat}{x:Str}(a:N[i]?=qz x)(b:N[j]?=qz x):i=j:=by let(h1,e1):=gIm a;let(h2,e2):=gIm b;exact(List.getElem_inj hN).mp (e1.trans e2.symm)
def aPg{E:qj->qv->Prop}{Q:Unit->qv->Prop}(I:Inv X aB σ H s)(hN:X.N.Nodup)(hi:X.N[i]?=qz x)(hx:Loc X.env.scope x)(r:aU v u)(h:∀ s',Inv X aB (σ.set i (qz v)) H s'->(∃ a,yCz a s.heap s'.heap/\(a=X.env.locals\/X.env.cells.lookup x=qz a))->Q () s')(hf:X.fn x=true\/X.env.scope.names.lookup x=qz .local:=by first|exact .inl rfl|exact .inr rfl|assumption):qu M A (storeName X.env x u) Q E s:=by
 let(m,hn,hl):=id I.loc;have hcls:(X.env.scope.kind==.class||(X.env.scope.kind==.module&&X.env.locals != X.env.globals))=false:=by rw[I.ok.kind];rfl
 have hiσ:i<σ.length:=by rw[I.len];exact(gIm hi).1
 have cne:=I.cne;have tracked:∀ {a:qw}{h':Heap},(∃ o,s.heap.get? a=qz o/\H a=qx)->yCz a s.heap h'->bM X.prog X.w H h':=λ {a h'} ha hs b ob e=>by
  let(_,_,hfree):=ha;refine(I.hok b ob e).stay (λ c w' hc q=>(hs.2 c ?_).trans q) (λ _ q=>q) λ _ _ q=>q
  rintro rfl;rcases hc with rfl|hc
  ·rw[hfree] at e;cases e
  ·rw[hfree] at hc;cases hc
 rcases hx with hk|hk
 ·refine wpAny_storeName_local hk hn (λ h' hn' hs=>?_) hcls;let(oL,_,_,hoL,_):=id hn;refine h _ ⟨I.ok,I.os,I.bare,⟨λ b o e n hb hx=>?_,λ b o e n hb hx=>?_,I.base.free,λ b o e hx=>?_,I.base.tups,I.base.frzs,I.base.tbls⟩,⟨_,hn',λ j y v' e1 e2 e3=>?_⟩,λ y c e=>?_,I.free,I.freeC,λ p hp=>?_,tracked ⟨oL,hoL,I.free⟩ hs,by simpa using I.len⟩ ⟨_,hs,.inl rfl⟩
  ·exact(hs.2 b (xAj (xAb (xAa e) I.ok.above))).trans (I.base.keep b o e n hb hx)
  ·let(sl,e1):=I.base.slot b o e n hb hx;exact⟨sl,(hs.2 b (xAj (xAb (xAa e) I.ok.above))).trans e1⟩
  ·let(o',e1):=I.base.there b o e hx;exact⟨o',(hs.2 b (xAj (xAb (xAa e) I.ok.above))).trans e1⟩
  ·by_cases hj:j=i
   ·subst hj;rw[hi] at e1;cases e1;rw[yAr hiσ] at e2;cases e2;exact⟨u,r,.inl ⟨hk,by simp⟩⟩
   ·rw[yAq (Ne.symm hj)] at e2;let(u',r',q):=hl j y v' e1 e2 e3;refine⟨u',r',?_⟩;rcases q with ⟨k,e⟩|⟨k,c,e,z⟩
    ·refine .inl ⟨k,?_⟩;have:y≠x:=λ e=>hj (aIO hN e1 (e▸hi))
     simp[this,e]
    ·exact .inr ⟨k,c,e,z.sameBut hs (cne y c e)⟩
  ·let(w',z):=I.cell y c e;exact⟨w',z.sameBut hs (cne y c e)⟩
  ·let(e,n,ne,nf,d):=I.pin p hp;exact⟨(hs.2 p.1 ne).trans e,n,ne,nf,d⟩
 ·have hfn:X.fn x=true:=by
   rcases hf with z|z
   ·exact z
   ·rw[z] at hk;cases hk
  let(c,hc):=I.ok.has x (.inl hk);let(w',z):=I.cell x c hc;refine wpAny_storeName_cell I.ok.kind hk hc z (λ h' hc' hs=>?_);let(oc,hoc,hocd):=id z;refine h {s with heap:=h' } ⟨I.ok,I.os,I.bare,⟨λ b o e n hb hx=>?_,λ b o e n hb hx=>?_,I.base.free,λ b o e hx=>?_,I.base.tups,I.base.frzs,I.base.tbls⟩,⟨m,hn.sameBut hs (Ne.symm (cne x c hc)),λ j y v' e1 e2 e3=>?_⟩,λ y c' e=>?_,I.free,I.freeC,λ p hp=>?_,tracked ⟨oc,hoc,I.freeC x c hc⟩ hs,by simpa using I.len⟩ ⟨c,hs,.inr hc⟩
  ·exact(hs.2 b (xAj (xAb (xAa e) (I.ok.cab x c hfn hc)))).trans (I.base.keep b o e n hb hx)
  ·let(sl,e1):=I.base.slot b o e n hb hx;exact⟨sl,(hs.2 b (xAj (xAb (xAa e) (I.ok.cab x c hfn hc)))).trans e1⟩
  ·let(o',e1):=I.base.there b o e hx;exact⟨o',(hs.2 b (xAj (xAb (xAa e) (I.ok.cab x c hfn hc)))).trans e1⟩
  ·by_cases hj:j=i
   ·subst hj;rw[hi] at e1;cases e1;rw[yAr hiσ] at e2;cases e2;exact⟨u,r,.inr ⟨.inl hk,c,hc,hc'⟩⟩
   ·rw[yAq (Ne.symm hj)] at e2;let(u',r',q):=hl j y v' e1 e2 e3;refine⟨u',r',?_⟩;rcases q with q|⟨k,c',e,z'⟩
    ·exact .inl q
    ·refine .inr ⟨k,c',e,z'.sameBut hs ?_⟩;rintro rfl;exact hj (aIO hN e1 (I.ok.inj _ _ _ e hc▸hi))
  ·by_cases hcc:c'=c
   ·subst hcc;exact⟨_,hc'⟩
   ·let(w2,z2):=I.cell y c' e;exact⟨w2,z2.sameBut hs hcc⟩
  ·let(e,n,ne,nf,d):=I.pin p hp;refine⟨(hs.2 p.1 ?_).trans e,n,ne,nf,d⟩;intro q;rw[q,hoc] at e;have q':oc=p.2:=Option.some.inj e;exact d w' (by rw[<- q'];exact hocd)
def aIF{E:qj->qv->Prop}{Q:Unit->qv->Prop}(I:Inv X aB σ H s)(hN:X.N.Nodup)(hi:X.N[i]?=qz x)(hx:Loc X.env.scope x)(r:aU v u)(h:∀ s',Inv X aB (σ.set i (qz v)) H s'->Q () s')(hf:X.fn x=true\/X.env.scope.names.lookup x=qz .local:=by first|exact .inl rfl|exact .inr rfl|assumption):qu M A (storeName X.env x u) Q E s:=
 aPg I hN hi hx r (λ s' I' _=>h s' I') hf
def Inv.call'{s':qv}(I:Inv X aB σ H s)(ho:s'.os=s.os)(u:Un (frs X.stack) ch H H' s.heap s'.heap)(hok:bM X.prog X.w H' s'.heap)(hg:AllBare s'.gens)(hch:∀ b∈ch,(b∈X.ex\/X.s₀.heap.objs.size<=b)/\b≠X.env.locals/\(∀ x c,X.env.cells.lookup x=qz c->c≠b)/\∀ p∈X.pn++aB,p.1≠b):Inv X aB σ H' s':=by let(h',g',d',t',o'):=s';have e:o'=s.os:=ho;subst e;exact I.call (g':=g') (t':=t') (d':=d') u hok hg hch
end
abbrev XK:=qj->Option qw->Hp->Prop
abbrev St:=List (Option V)
abbrev VK:=V->Hp->Prop
abbrev TE:=St->Hp->VK->Prop
abbrev TT:=St->Hp->(Bool->Hp->Prop)->Prop
abbrev TA:=St->Hp->(List V->Hp->Prop)->Prop
structure Ends where
 nx:St->Hp->Prop
 rt:VK
 bk:St->Hp->Prop:=λ _ _=>False
 ct:St->Hp->Prop:=λ _ _=>False
abbrev TS:=Ends->St->Hp->Prop
def EP(X:Cx)(aB:List (qw×Obj))(σ:St)(Q:VK)(u:qj)(s':qv):Prop:=∃ v H',Inv X aB σ H' s'/\aU v u/\Q v H'
def TP(X:Cx)(aB:List (qw×Obj))(σ:St)(Q:Bool->Hp->Prop)(b:Bool)(s':qv):Prop:=∃ H',Inv X aB σ H' s'/\Q b H'
def AP(X:Cx)(aB:List (qw×Obj))(σ:St)(Q:List V->Hp->Prop)(us:List qj)(s':qv):Prop:=∃ vs H',Inv X aB σ H' s'/\bA vs us/\Q vs H'
def SP(X:Cx)(aB:List (qw×Obj))(D:Ends)(f:Flow)(s':qv):Prop:=
 match f with
 |.next=>∃ σ' H',Inv X aB σ' H' s'/\D.nx σ' H'|.brk=>∃ σ' H',Inv X aB σ' H' s'/\D.bk σ' H'|.cont=>∃ σ' H',Inv X aB σ' H' s'/\D.ct σ' H'|.ret u=>∃ v σ' H',Inv X aB σ' H' s'/\aU v u/\D.rt v H'
def PE(X:Cx)(e:qy)(t:TE):Prop:=
 ∀ (aB:List (qw×Obj)) (s:qv) (σ:St) (H:Hp) (Q:VK),Inv X aB σ H s->t σ H Q->qu (model X.prog X.w) X.A (eval e X.env) (EP X aB σ Q) X.xe s
def PT(X:Cx)(e:qy)(t:TT):Prop:=
 ∀ (aB:List (qw×Obj)) (s:qv) (σ:St) (H:Hp) (Q:Bool->Hp->Prop),Inv X aB σ H s->t σ H Q->qu (model X.prog X.w) X.A (isTrue e X.env (eval e X.env)) (TP X aB σ Q) X.xe s
def PW(X:Cx)(e:qy)(t:TT):Prop:=
 ∀ (fR:Sem qj) (aB:List (qw×Obj)) (s:qv) (σ:St) (H:Hp) (Q:Bool->Hp->Prop),Inv X aB σ H s->t σ H Q->qu (model X.prog X.w) X.A (isTrue e X.env fR) (TP X aB σ Q) X.xe s
def PW.pt{t:TT}(h:PW X e t):PT X e t:=h _
def PA(X:Cx)(es:List qy)(t:TA):Prop:=
 ∀ (pos:Pos) (aB:List (qw×Obj)) (s:qv) (σ:St) (H:Hp) (Q:List V->Hp->Prop),Inv X aB σ H s->t σ H Q->qu (model X.prog X.w) X.A (spliced (backTo pos (qo es X.env))) (AP X aB σ Q) X.xe s
def PS(X:Cx)(st:xk)(t:TS):Prop:=
 ∀ (aB:List (qw×Obj)) (s:qv) (σ:St) (H:Hp) (D:Ends),Inv X aB σ H s->t D σ H->qu (model X.prog X.w) X.A (exec st X.env) (SP X aB D) X.xe s
def dI(X:Cx)(st:List xk)(t:TS):Prop:=
 ∀ (aB:List (qw×Obj)) (s:qv) (σ:St) (H:Hp) (D:Ends),Inv X aB σ H s->t D σ H->qu (model X.prog X.w) X.A (execs st X.env) (SP X aB D) X.xe s
def bD{α:Type}{t:Sem α}{Q Q':α->qv->Prop}{E:qj->qv->Prop}(h:qu M A t Q E s)(hQ:∀ a s,Q a s->Q' a s):qu M A t Q' E s:=wpAny_mono h hQ λ _ _ x=>x
end L2
namespace L2
open PySem PySem.Spec PyProof.Rows
def bin{ta tb:TE}(ha:PE X a ta)(hb:PE X b tb){R:V->V->Hp->Prop}(I:Inv X aB σ H s)(h:ta σ H λ x H1=>tb σ H1 λ y H2=>R x y H2){α:Type}{Q:α->qv->Prop}{f:qj->qj->Sem α}(hf:∀ v u s2 x y H2,Inv X aB σ H2 s2->aU x v->aU y u->R x y H2->qu (model X.prog X.w) X.A (f v u) Q X.xe s2) :
 qu (model X.prog X.w) X.A (eval a X.env) (λ v s₁=>qu (model X.prog X.w) X.A (eval b X.env) (λ u s₂=>qu (model X.prog X.w) X.A (f v u) Q X.xe s₂) X.xe s₁) X.xe s:=by
 refine bD (ha aB s σ H _ I h) λ v s1 hPq0=>?_
 let(x,H1,I1,r1,q1):=hPq0;refine bD (hb aB s1 σ H1 _ I1 q1) λ u s2 hPq1=>?_
 let(y,H2,I2,r2,q2):=hPq1;exact hf v u s2 x y H2 I2 r1 r2 q2
def zA(i:Nat):TE:=λ σ H Q=>∃ v,σ[i]?=qz (qz v)/\Q v H
def tC(v:V):TE:=λ _ H Q=>Q v H
variable {X:Cx}
def aLp{i:Nat}{x:Str}{pos:Pos}(hN:X.N[i]?=qz x)(hv:zP X.env.scope x)(hd:(x==("__debug__" : Str))=false:=by decide)(hcd:(x==("__classdict__" : Str))=false:=by decide):PE X (.Name x pos) (zA i):=by
 intro aB s σ H Q I h;let(v,e,h):=h;let(m,hn,hl):=I.loc;let(u,r,l):=hl i x v hN e hv;have bZ:EP X aB σ Q u s:=⟨v,H,I,r,h⟩;rcases l with ⟨hk,hm⟩|⟨hk,c,hc,hcell⟩
 ·exact wpAny_Name (wpAny_loadName_local I.ok.kind hk hn hm bZ) hd
 ·rcases hk with hk|hk
  ·exact wpAny_Name (wpAny_loadName_cell I.ok.kind hk hc hcell bZ) hd
  ·exact wpAny_Name (wpAny_loadName_free I.ok.kind hk hc hcell bZ hcd) hd
def aWd{i j pos}:PE X (.Constant (.int i) j pos) (tC (.int i)):=λ _ _ _ H _ I h=>wpAny_Constant_int ⟨.int i,H,I.tok _,⟨_,rfl⟩,h⟩
def aXj{b j pos}:PE X (.Constant (.bool b) j pos) (tC (.bl b)):=λ _ _ _ H _ I h=>Constant_bool ⟨.bl b,H,I,rfl,h⟩
def aVW{j pos}:PE X (.Constant .none j pos) (tC .non):=λ _ _ _ H _ I h=>Constant_none ⟨.non,H,I,rfl,h⟩
def aVb{x j pos}:PE X (.Constant (.str x) j pos) (tC (.str x)):=λ _ _ _ H _ I h=>Calls.Constant_str ⟨.str x,H,I.tok _,⟨_,rfl⟩,h⟩
def Gl(X:Cx)(x:Str):Prop:=X.env.kindOf x=qz .globalImplicit
def aA1{E:qj->qv->Prop}{Q:qj->qv->Prop}(I:Inv X aB σ H s)(hg:Gl X x)(hm:X.mg x=qz u)(h:Q u s)(hd:(x==("__debug__" : Str))=false:=by decide):qu (model X.prog X.w) X.A (eval (.Name x pos) X.env) Q E s:=
 Calls.Name_function_global I.ok.kind hg (Calls.loadGlobal_global (by rw[I.ok.glob];exact I.mod.glob.keeps I.bk) hm h) hd
def nE{E:qj->qv->Prop}{aB:List (qw×Obj)}{s:qv}{σ:St}{H:Hp}{x:Str}{u:qj}{pos:Pos}{Q:qj->qv->Prop}(I:Inv X aB σ H s)(hg:Gl X x)(hm:X.mg x=qx)(hv:xu x=qz u)(h:Q u s)
 (hn:x ≠ "__name__":=by decide) (hd:(x==("__debug__" : Str))=false:=by decide):qu (model X.prog X.w) X.A (eval (.Name x pos) X.env) Q E s:=by let(mb,h1,h2):=I.mod.blt;exact Calls.Name_function_global I.ok.kind hg (Calls.loadGlobal_builtin (by rw[I.ok.glob];exact I.mod.glob.keeps I.bk) hm (by rw[I.ok.blt];exact h1.keeps I.bk) ((h2 x hn).trans hv) h) hd
def aJX(hg:Gl X x)(hm:X.mg x=qz u)(r:aU v u)(hd:(x==("__debug__" : Str))=false:=by decide):PE X (.Name x pos) (tC v):=
 λ _ _ _ H _ I h=>aA1 I hg hm ⟨v,H,I,r,h⟩ hd
def aSF{x:Str}{v:V}{u:qj}{pos:Pos}(hg:Gl X x)(hm:X.mg x=qx)(hv:xu x=qz u)(r:aU v u)(hn:x ≠ "__name__":=by decide)(hd:(x==("__debug__" : Str))=false:=by decide):PE X (.Name x pos) (tC v):=
 λ _ _ _ H _ I h=>nE I hg hm hv ⟨v,H,I,r,h⟩ hn hd
def PC(X:Cx)(op:jx)(a b:qy)(t:TE):Prop:=
 ∀ (aB:List (qw×Obj)) (s:qv) (σ:St) (H:Hp) (Q:VK),Inv X aB σ H s->t σ H Q ->
  qu (model X.prog X.w) X.A (eval a X.env) (λ v s₁=>qu (model X.prog X.w) X.A (eval b X.env) (λ u s₂=>qu (model X.prog X.w) X.A (xw op v u) (EP X aB σ Q) X.xe s₂) X.xe s₁) X.xe s
def aIj(b:qy)(h:op≠.In)(h2:op≠.NotIn):xz op b=false:=by
 have e1:(op==CmpOp.In)=false:=by cases op<;>first|rfl|exact absurd rfl h
 have e2:(op==CmpOp.NotIn)=false:=by cases op<;>first|rfl|exact absurd rfl h2
 cases b<;>simp[xz,e1,e2]
def tB(t:TE):TT:=λ σ H Q=>t σ H λ x H1=>∃ c,x=.bl c/\Q c H1
def aVI{t:TE}(h:PC X op a b t)(h1:xz op b=false:=by first|exact aIj _ (·) (·)|rfl):PE X (.Compare a [op] [b] pos) t:=λ aB s σ H Q I hw=>wpAny_Compare1 (h aB s σ H Q I hw) h1
def aVY{t:TE}(h:PC X op a b t)(h1:xz op b=false:=by first|exact aIj _ (·) (·)|rfl):PT X (.Compare a [op] [b] pos) (tB t):=by intro aB s σ H Q I hw;refine wpAny_isTrue_Compare1 (bD (h aB s σ H _ I hw) λ v s1 h1=>bD h1 λ u s2 h2=>bD h2 λ c s3 hPq2=>?_) h1;let(x,H1,I1,r1,q1):=hPq2;let(d,rfl,q):=q1;cases r1;exact jq ⟨H1,I1,q⟩
def aNp(t u:TT):TT:=λ σ H Q=>t σ H λ c H1=>if c=true then u σ H1 Q else Q false H1
def tOr(t u:TT):TT:=λ σ H Q=>t σ H λ c H1=>if c=true then Q true H1 else u σ H1 Q
def aZf(t:TT):TT:=λ σ H Q=>t σ H λ c H1=>Q (!c) H1
def aTo{tA:TT}(ha:PT X a tA):PW X (.BoolOp .And [a] pos) tA:=by
 intro wh aB s σ H Q I h;refine isTrue_and (bD (ha aB s σ H Q I h) λ c s1 e=>?_);cases c with
 |true=>exact isTrue_and_nil e|false=>exact e
def aVt{tA:TT}(ha:PT X a tA):PW X (.BoolOp .Or [a] pos) tA:=by
 intro wh aB s σ H Q I h;refine isTrue_or (bD (ha aB s σ H Q I h) λ c s1 e=>?_);cases c with
 |false=>exact isTrue_or_nil e|true=>exact e
def aKa{tA tB':TT}{cC:List qy}(ha:PT X a tA)(hb:PW X (.BoolOp .And (b::cC) pos) tB'):PW X (.BoolOp .And (a::b::cC) pos) (aNp tA tB'):=by
 intro wh aB s σ H Q I h;refine isTrue_and (bD (ha aB s σ H _ I h) λ c s1 hPq3=>?_);let(H1,I1,q1):=hPq3;cases c with
 |true=>exact hb wh aB s1 σ H1 Q I1 q1|false=>exact⟨H1,I1,q1⟩
def aME{tA tB':TT}{cC:List qy}(ha:PT X a tA)(hb:PW X (.BoolOp .Or (b::cC) pos) tB'):PW X (.BoolOp .Or (a::b::cC) pos) (tOr tA tB'):=by
 intro wh aB s σ H Q I h;refine isTrue_or (bD (ha aB s σ H _ I h) λ c s1 hPq4=>?_);let(H1,I1,q1):=hPq4;cases c with
 |true=>exact⟨H1,I1,q1⟩|false=>exact hb wh aB s1 σ H1 Q I1 q1
def aTA{tA:TT}(ha:PT X a tA):PT X (.UnaryOp .Not a pos) (aZf tA):=by intro aB s σ H Q I h;exact isTrue_not (ha aB s σ H (λ c H1=>Q (!c) H1) I h)
def aLK(ta tb:TE):TE:=λ σ H Q=>ta σ H λ x H1=>∃ c,x=.bl c/\if c=true then tb σ H1 Q else Q (.bl false) H1
def aML(ta tb:TE):TE:=λ σ H Q=>ta σ H λ x H1=>∃ c,x=.bl c/\if c=true then Q (.bl true) H1 else tb σ H1 Q
def aYe(ta:TE):TE:=λ σ H Q=>ta σ H λ x H1=>∃ c,x=.bl c/\Q (.bl (!c)) H1
def aKi{op}{t:TE}(h:PE X a t):PE X (.BoolOp op [a] pos) t:=λ aB s σ H Q I hw=>BoolOp_one (h aB s σ H Q I hw)
def aK5{ta tb:TE}{cC:List qy}(ha:PE X a ta)(hb:PE X (.BoolOp .And (b::cC) pos) tb):PE X (.BoolOp .And (a::b::cC) pos) (aLK ta tb):=by
 intro aB s σ H Q I h;refine BoolOp_and (bD (ha aB s σ H _ I h) λ v s1 hPq5=>?_);let(x,H1,I1,r1,q1):=hPq5;let(c,rfl,q1):=q1;cases r1;refine jq ?_;cases c with
 |true=>exact hb aB s1 σ H1 Q I1 q1|false=>exact⟨.bl false,H1,I1,rfl,q1⟩
def aL6{ta tb:TE}{cC:List qy}(ha:PE X a ta)(hb:PE X (.BoolOp .Or (b::cC) pos) tb):PE X (.BoolOp .Or (a::b::cC) pos) (aML ta tb):=by
 intro aB s σ H Q I h;refine BoolOp_or (bD (ha aB s σ H _ I h) λ v s1 hPq6=>?_);let(x,H1,I1,r1,q1):=hPq6;let(c,rfl,q1):=q1;cases r1;refine jq ?_;cases c with
 |false=>exact hb aB s1 σ H1 Q I1 q1|true=>exact⟨.bl true,H1,I1,rfl,q1⟩
def aVX{ta:TE}(ha:PE X a ta):PE X (.UnaryOp .Not a pos) (aYe ta):=by intro aB s σ H Q I h;refine UnaryOp_ (bD (ha aB s σ H _ I h) λ v s1 hPq7=>?_);let(x,H1,I1,r1,q1):=hPq7;let(c,rfl,q1):=q1;cases r1;exact not_of (jq ⟨.bl (!c),H1,I1,rfl,q1⟩)
def tIf(t:TT)(ta tb:TE):TE:=λ σ H Q=>t σ H λ c H1=>if c=true then ta σ H1 Q else tb σ H1 Q
def aRe{ta tb:TE}{tA:TT}(hc:PT X c tA)(ha:PE X a ta)(hb:PE X b tb):PE X (.IfExp c a b pos) (tIf tA ta tb):=by
 intro aB s σ H Q I h;refine wpAny_IfExp (bD (hc aB s σ H _ I h) λ d s1 hPq8=>?_);let(H1,I1,q1):=hPq8;cases d with
 |true=>exact ha aB s1 σ H1 Q I1 q1|false=>exact hb aB s1 σ H1 Q I1 q1
end L2
namespace L2
open PySem PySem.Spec PyProof.Rows
def bX(K:FrG)(H:Hp)(a:qw)(xs:List V):Prop:=
 Rd H a (.lst xs) \/
  ∃ (o:Obj) (aG:Array qj) (n:Nat),K.lookup a=qz o/\o.cls=.type "list" /\ o.dict=qx/\o.data=.seq aG n/\aG.size<=qk/\bA xs aG.toList
def cH(K:FrG)(H:Hp)(a:qw)(xs:List V):Prop:=
 Rd H a (.tup xs) \/
  ∃ (o:Obj) (aG:Array qj) (n:Nat),K.lookup a=qz o/\o.cls=.type "tuple" /\ o.data=.seq aG n/\aG.size<=qk/\bA xs aG.toList
def aY6:qj->Option V
 |.none=>qz .non|.bool b=>qz (.bl b)|.int i _=>qz (.int i)|.str x _=>qz (.str x)|.bytes b _=>qz (.byt b)|.float b _=>qz (.flt b)|.ref a=>qz (.ref a)|.type n=>qz (.ty n)|_=>qx
def aU.abs(r:aU x u):aY6 u=qz x:=by
 cases x with
 |non=>cases r;rfl|bl _=>cases r;rfl
 |int _=>let(t,rfl):=r;rfl
 |str _=>let(t,rfl):=r;rfl
 |byt _=>let(t,rfl):=r;rfl
 |flt _=>let(t,rfl):=r;rfl
 |ref _=>cases r;rfl|ty _=>cases r;rfl
def aU.inj(r:aU x u)(q:aU y u):x=y:=Option.some.inj (r.abs.symm.trans q.abs)
def bA.inj:∀ {xs ys:List V}{us:List qj},bA xs us->bA ys us->xs=ys
 |_,_,_,.nil,.nil=>rfl|_,_,_,.cons r t,.cons r' t'=>by rw[r.inj r',bA.inj t t']
variable {K:FrG}
section
variable {X:Cx}{aB:List (qw×Obj)}{σ:St}{H:Hp}{s:qv}{a:qw}{xs ys:List V}
def bX.of(h:H a=qz (.lst xs)):bX K H a xs:=.inl (.inl h)
def cH.of(h:H a=qz (.tup xs)):cH K H a xs:=.inl (.inl h)
def Inv.list(I:Inv X aB σ H s)(h:bX X.K H a xs):∃ aG:List qj,bA xs aG/\PlainL s.heap a aG.toArray/\↑xs<=qk:=by
 rcases h with h|⟨o,aG,n,hk,hc,hd,hs,hz,r⟩
 ·let(z,aG,n,r,e):=h.ok I.hok;exact⟨aG,r,⟨_,n,e,rfl,rfl,rfl⟩,z⟩
 ·refine⟨aG.toList,r,⟨o,n,I.kIn a o hk,hc,hd,by simpa using hs⟩,?_⟩;have e:=r.length;simp only[yEb] at e;omega
def Inv.tuple(I:Inv X aB σ H s)(h:cH X.K H a xs):∃ aG:List qj,bA xs aG/\IsTup s.heap a aG.toArray/\↑xs<=qk:=by
 rcases h with h|⟨o,aG,n,hk,hc,hs,hz,r⟩
 ·let(z,aG,r,p):=h.ok I.hok;exact⟨aG,r,p,z⟩
 ·refine⟨aG.toList,r,⟨o,I.kIn a o hk,hc,n,by simpa using hs⟩,?_⟩;have e:=r.length;simp only[yEb] at e;omega
def Inv.list_inj(I:Inv X aB σ H s)(h:bX X.K H a xs)(h':bX X.K H a ys):xs=ys:=by
 let(aG,r,(o,n,e,_,_,d),_):=I.list h;let(its',r',(o',n',e',_,_,d'),_):=I.list h';rw[e] at e';cases e';rw[d] at d';injection d' with d1 _
 have:aG=its':=(congrArg Array.toList d1:)
 subst this;exact r.inj r'
def Inv.tuple_inj(I:Inv X aB σ H s)(h:cH X.K H a xs)(h':cH X.K H a ys):xs=ys:=by
 let(aG,r,(o,e,_,n,d),_):=I.tuple h;let(its',r',(o',e',_,n',d'),_):=I.tuple h';rw[e] at e';cases e';rw[d] at d';injection d' with d1 _
 have:aG=its':=(congrArg Array.toList d1:)
 subst this;exact r.inj r'
end
noncomputable abbrev Cx.wish(X:Cx)(E:qj->qv->Prop):Cx:={X with xe:=E }
noncomputable abbrev Cx.nox(X:Cx):Cx:=X.wish λ _ _=>False
variable {X:Cx}
def Cx.Ok.wish(ok:X.Ok)(E:qj->qv->Prop):(X.wish E).Ok:=
 ⟨ok.mod,ok.kind,ok.glob,ok.blt,ok.above,ok.inj,ok.has,ok.cab,ok.hd,ok.frames,ok.stk,ok.exf,ok.bs,ok.bsz,ok.noex,ok.exfs,ok.funs,ok.frf⟩
def Cx.Ok.unwish{E:qj->qv->Prop}(ok:(X.wish E).Ok):X.Ok:=
 ⟨ok.mod,ok.kind,ok.glob,ok.blt,ok.above,ok.inj,ok.has,ok.cab,ok.hd,ok.frames,ok.stk,ok.exf,ok.bs,ok.bsz,ok.noex,ok.exfs,ok.funs,ok.frf⟩
section
variable {X:Cx}{aB:List (qw×Obj)}{σ:St}{H:Hp}{s:qv}{E:qj->qv->Prop}
def Inv.wish(I:Inv X aB σ H s)(E:qj->qv->Prop):Inv (X.wish E) aB σ H s:=⟨I.ok.wish E,I.os,I.bare,I.base,I.loc,I.cell,I.free,I.freeC,I.pin,I.hok,I.len⟩
def Inv.unwish(I:Inv (X.wish E) aB σ H s):Inv X aB σ H s:=⟨I.ok.unwish,I.os,I.bare,I.base,I.loc,I.cell,I.free,I.freeC,I.pin,I.hok,I.len⟩
def SP.unwish{D:Ends}(h:SP (X.wish E) aB D f s'):SP X aB D f s':=by
 cases f with
 |next=>let(σ',H',I,q):=h;exact⟨σ',H',I.unwish,q⟩
 |brk=>let(σ',H',I,q):=h;exact⟨σ',H',I.unwish,q⟩
 |cont=>let(σ',H',I,q):=h;exact⟨σ',H',I.unwish,q⟩
 |ret u=>let(v,σ',H',I,r,q):=h;exact⟨v,σ',H',I.unwish,r,q⟩
def dI.nox{st:List xk}{t:TS}(h:dI X.nox st t):dI X st t:=λ aB s σ H D I hw=>
 wpAny_mono (h aB s σ H D (I.wish _) hw) (λ _ _ q=>q.unwish) λ _ _ z=>False.elim z
end
def aLY:TS:=λ D σ H=>D.nx σ H
def aMT(t u:TS):TS:=λ D σ H=>t {D with nx:=u D } σ H
def aJl:dI X [] aLY:=λ _ _ σ H _ I h=>wpAny_execs_nil ⟨σ,H,I,h⟩
def aIf{st:xk}{cC:List xk}{t u:TS}(h1:PS X st t)(h2:dI X cC u):dI X (st::cC) (aMT t u):=by
 intro aB s σ H D I h;refine wpAny_execs_cons (bD (h1 aB s σ H {D with nx:=u D } I h) λ f s1 q=>?_);cases f with
 |next=>
   let(σ',H',I',q):=q;exact h2 aB s1 σ' H' D I' q
 |ret v=>exact q|brk=>exact q|cont=>exact q
def Inv.quiet(I:Inv X aB σ H s):interactive X.env=false:=by simp[interactive,I.ok.kind]
def aXl(te:TE):TS:=λ D σ H=>te σ H λ _ H1=>D.nx σ H1
def aSM{te:TE}{pos:Pos}(he:PE X e te)(hs:swapsWith e qx pos.line X.env=pure false:=by rfl):PS X (.Expr e pos) (aXl te):=by intro aB s σ H D I h;exact wpAny_Expr_any (bD (he aB s σ H _ I h) λ v s1 ⟨x,H1,I1,r1,q1⟩=>⟨σ,H1,I1,q1⟩) I.quiet hs
def aZL(te:TE):TS:=λ D σ H=>te σ H D.rt
def aUM{te:TE}(he:PE X e te):PS X (.Return (qz e) pos) (aZL te):=by intro aB s σ H D I h;exact wpAny_Return_some (bD (he aB s σ H _ I h) λ v s1 ⟨x,H1,I1,r1,q1⟩=>⟨x,σ,H1,I1,r1,q1⟩)
def aZF(c:TT)(t u:TS):TS:=λ D σ H=>c σ H λ b H1=>if b=true then t D σ H1 else u D σ H1
def aYI{tc:TT}(hc:PT X c tc)(ha:dI X a t)(hb:dI X b u):PS X (.If c a b pos) (aZF tc t u):=by
 intro aB s σ H D I h;refine wpAny_If (bD (hc aB s σ H _ I h) λ d s1 hPq9=>?_);let(H1,I1,q1):=hPq9;cases d with
 |true=>exact ha aB s1 σ H1 D I1 q1|false=>exact hb aB s1 σ H1 D I1 q1
abbrev TG:=V->St->Hp->(St->Hp->Prop)->Prop
abbrev jT:=List V->St->Hp->(St->Hp->Prop)->Prop
def PG(X:Cx)(target:qy)(t:TG):Prop:=
 ∀ (aB:List (qw×Obj)) (s:qv) (σ:St) (H:Hp) (v:V) (u:qj) (Q:St->Hp->Prop),Inv X aB σ H s->aU v u->t v σ H Q ->
  qu (model X.prog X.w) X.A (assign target X.env u) (λ _ s'=>∃ σ' H',Inv X aB σ' H' s'/\Q σ' H') X.xe s
def rX(X:Cx)(ts:List qy)(t:jT):Prop:=
 ∀ (aB:List (qw×Obj)) (s:qv) (σ:St) (H:Hp) (vs:List V) (us:List qj) (Q:St->Hp->Prop),Inv X aB σ H s->bA vs us->t vs σ H Q ->
  qu (model X.prog X.w) X.A (assignInOrder ((zo ts X.env).map (·.2)) us) (λ _ s'=>∃ σ' H',Inv X aB σ' H' s'/\Q σ' H') X.xe s
abbrev aFi:=V->V->V->Hp->(Hp->Prop)->Prop
def aNA(X:Cx)(t:aFi):Prop:=
 ∀ (aB:List (qw×Obj)) (s:qv) (σ:St) (H:Hp) (o i v:V) (ov iv u:qj) (Q:Hp->Prop),Inv X aB σ H s->aU o ov->aU i iv->aU v u->t o i v H Q ->
  qu (model X.prog X.w) X.A (setItem ov iv u) (λ _ s'=>∃ H',Inv X aB σ H' s'/\Q H') X.xe s
def oW(i:Nat):TG:=λ v σ H Q=>Q (σ.set i (qz v)) H
def aDS(hN:X.N.Nodup)(hi:X.N[i]?=qz x)(hx:Loc X.env.scope x)(hf:X.fn x=true\/X.env.scope.names.lookup x=qz .local:=by first|exact .inl rfl|exact .inr rfl|assumption):PG X (.Name x pos) (oW i):=by intro aB s σ H v u Q I r h;exact wpAny_assign_Name (aIF I hN hi hx r (λ s' I'=>⟨_,H,I',h⟩) hf)
def aFq:jT:=λ vs σ H Q=>vs=[]/\Q σ H
def aE2(t:TG)(u:jT):jT:=λ vs σ H Q=>∃ v r,vs=v::r/\t v σ H λ σ' H'=>u r σ' H' Q
def aSk:rX X [] aFq:=by intro aB s σ H vs us Q I r h;let(e,h):=h;subst e;cases r;exact assignInOrder_nil ⟨σ,H,I,h⟩
def aQt(h1:PG X e t)(h2:rX X es u)(hs:(zo (e::es) X.env).map (·.2)=assign e X.env::(zo es X.env).map (·.2):=by rfl):rX X (e::es) (aE2 t u):=by
 intro aB s σ H vs us Q I r h;let(v,vr,e1,h):=h;subst e1;cases r with
 |cons r rr=>
   rw[hs];refine assignInOrder_cons (bD (h1 aB s σ H _ _ _ I r h) λ _ s1 hPq10=>?_);let(σ1,H1,I1,q1):=hPq10;exact h2 aB s1 σ1 H1 _ _ Q I1 rr q1
def aY4(K:FrG)(n:Nat)(t:jT):TG:=λ v σ H Q=>∃ a xs,v=.ref a/\cH K H a xs/\↑xs=n/\t xs σ H Q
def aVg{pos:Pos}{es:List qy}{k:Nat}{t:jT}{n:Nat}(hc:X.calm=true)(h:rX X es t)
 (hn:(zo es X.env).length=n:=by rfl) (hst:(zo es X.env).findIdx? (·.1)=qx:=by rfl):PG X (.Tuple es k pos) (aY4 X.K n t):=by
 intro aB s σ H v u Q I r hw;let(a,xs,e1,hq,hl,hw):=hw;subst e1;cases r;let(aG,rv,ht,hz):=I.tuple hq;refine assign_Tuple_tuple (I.ok.hd hc) ht (by simp[hn,<- hl,rv.length]) hst λ h' hx=>?_
 have I1:Inv X aB σ H {s with heap:=h' }:=I.kept (t':=s.toks) λ b o e=>hx b o (xAj (xAa e)) e
 exact h aB _ σ H xs _ Q I1 (rv:) hw
def aMR(to ti:TE)(t:aFi):TG:=λ v σ H Q=>to σ H λ o H1=>ti σ H1 λ i H2=>t o i v H2 λ H3=>Q σ H3
def aTQ{to ti:TE}(ho:PE X o to)(hi:PE X i ti)(hs:aNA X t)(ha:∀ v,assign (.Subscript o i pos) X.env v=(do
   let ov <- holding [v] (eval o X.env);let iv <- holding [v,ov] (eval i X.env)
   standAt pos
   holding [v,ov,iv] (setItem ov iv v)
   release [v,ov,iv] []):=by intro _;rfl):PG X (.Subscript o i pos) (aMR to ti t):=by intro aB s σ H v u Q I r h;rw[ha];refine wB (zu (bD (ho aB s σ H _ I h) λ ov s1 hPq11=>?_));let(x,H1,I1,r1,q1):=hPq11;refine wB (zu (bD (hi aB s1 σ H1 _ I1 q1) λ iv s2 hPq12=>?_));let(y,H2,I2,r2,q2):=hPq12;refine wB (ww (wB (zu (bD (hs aB s2 σ H2 x y v ov iv u _ I2 r1 r2 r q2) λ _ s3 hPq13=>?_))));let(H3,I3,q3):=hPq13;exact wpAny_release ⟨σ,H3,I3,q3⟩
def yI(te:TE)(g:TG):TS:=λ D σ H=>te σ H λ x H1=>g x σ H1 D.nx
def aK3{pos:Pos}{te:TE}(he:PE X e te)(hg:PG X tg g)(hs:swapsWithSole [tg] e pos.line X.env=pure false:=by rfl)(hw:wj [tg] e X.env=pure qx:=by rfl)(h1:(zo [tg] X.env).map (·.2)=[assign tg X.env]:=by rfl):PS X (.Assign [tg] e pos) (yI te g):=by intro aB s σ H D I h;refine wpAny_Assign_stores (bD (he aB s σ H _ I h) λ v s1 hPq14=>?_) hs hw;let(x,H1,I1,r1,q1):=hPq14;rw[h1];exact bD (hg aB s1 σ H1 x v _ I1 r1 q1) λ _ s2 q=>q
def aUa{pos:Pos}{te:TE}(hN:X.N.Nodup)(hi:X.N[i]?=qz x)(hx:Loc X.env.scope x)(he:PE X e te)(hs:swapsWith e (qz (.Name x pos')) pos.line X.env=pure false:=by rfl)(hf:X.fn x=true\/X.env.scope.names.lookup x=qz .local:=by first|exact .inl rfl|exact .inr rfl|assumption) :
 PS X (.Assign [.Name x pos'] e pos) (yI te (oW i)):=by intro aB s σ H D I h;refine wpAny_Assign_Name (bD (he aB s σ H _ I h) λ v s1 hPq15=>?_) hs;let(y,H1,I1,r1,q1):=hPq15;exact aIF I1 hN hi hx r1 (λ s2 I2=>⟨_,H1,I2,q1⟩) hf
structure It where
 go:Nat->Hp->Prop
 yld:Nat->Hp->V->Hp->Prop
 stop:Nat->Hp->Prop
def gL(X:Cx)(aB:List (qw×Obj))(H:Hp)(b:qw):Prop:=
 H b=qx/\b≠X.env.locals/\b ∉ X.fs/\(b∈X.ex\/X.s₀.heap.objs.size<=b)/\(∀ x c,X.env.cells.lookup x=qz c->c≠b)/\∀ p∈X.pn++aB,p.1≠b
def Inv.fpOk(I:Inv X aB σ H s)(hb:s.heap.objs.size<=b)(hn:H' b=qx):gL X aB H' b:=by
 refine⟨hn,yGt (xAb I.lt hb),I.nofs hb,.inr (xAh I.sz hb),λ x c e z=>?_,λ p hp z=>?_⟩
 ·let(v,q):=I.cell x c e;exact absurd (xAb q.lt (by rw[z];exact hb)) (yCv _)
 ·exact absurd (xAb (xAa (I.pin p hp).1) (by rw[z];exact hb)) (yCv _)
structure Turn(P:zx)(w:zj)(K:FrG)(tg:qy)(J:It)(fp:List qw)(it:qw)(tn:Nat->Heap->Prop):Prop where
 mem:it∈fp
 obj:∀ i h,tn i h->∀ b∈fp,∃ o,h.get? b=qz o/\∀ v,o.data≠.cell v
 keep:∀ i h h',tn i h->(∀ b∈fp,∀ o,h.get? b=qz o->h'.get? b=qz o)->tn i h'
 item:∀ (X:Cx),X.prog=P->X.w=w->X.K=K->X.calm=true->∀ (i:Nat) (aB:List (qw×Obj)) (s:qv) (σ:St) (H:Hp) (E:qj->qv->Prop),Inv X aB σ H s->(∀ b∈fp,gL X aB H b)->tn i s.heap->J.go i H ->
  qu (model P w) X.A (yz (.ref it)) (λ r s1=>∃ u,r=qz u /\
   qu (model P w) X.A (vj tg (.ref it) u) (λ _ s2=>∃ x H',Inv X aB σ H' s2/\aU x u/\J.yld i H x H'/\tn (i+1) s2.heap/\∀ b∈fp,H' b=qx) E s1) E s
 done:∀ (X:Cx),X.prog=P->X.w=w->X.K=K->X.calm=true->∀ (i:Nat) (aB:List (qw×Obj)) (s:qv) (σ:St) (H:Hp) (E:qj->qv->Prop),Inv X aB σ H s->(∀ b∈fp,gL X aB H b)->tn i s.heap->J.stop i H ->
  qu (model P w) X.A (yz (.ref it)) (λ r s1=>r=qx/\Inv X aB σ H s1) E s
 self:∀ (A:zv) (i:Nat) (s:qv) (Q:qj->qv->Prop) (E:qj->qv->Prop),tn i s.heap->Q (.ref it) s->qu (model P w) A (pyIter (.ref it)) Q E s
abbrev TI:=St->Hp->(It->Hp->Prop)->Prop
def PIE(X:Cx)(aB:List (qw×Obj))(σ:St)(tg:qy)(R:It->Hp->Prop)(itv:qj)(s2:qv):Prop:=
 ∃ (it:qw) (fp:List qw) (tn:Nat->Heap->Prop) (J:It) (H':Hp),itv=.ref it/\Inv X aB σ H' s2/\Turn X.prog X.w X.K tg J fp it tn/\tn 0 s2.heap/\(∀ b∈fp,gL X aB H' b)/\R J H'
def PI(X:Cx)(tg iter:qy)(wi:TI):Prop:=
 ∀ (aB:List (qw×Obj)) (s:qv) (σ:St) (H:Hp) (R:It->Hp->Prop),Inv X aB σ H s->wi σ H R ->
  qu (model X.prog X.w) X.A (eval iter X.env) (λ v s1=>qu (model X.prog X.w) X.A (pyIter v) (PIE X aB σ tg R) X.xe s1) X.xe s
def aBB{E:qj->qv->Prop}{s:qv}{Q:Unit->qv->Prop}(ho:s.heap.get? it=qz o)(hc:o.cls=.type n)(hd:o.data=.fields vs)(hn:["enumerate","zip","dict_itemiterator","dict_reverseitemiterator","odict_iterator","itertools.zip_longest","itertools.pairwise"].contains n=false)(hQ:Q () s):qu M A (vj tg (.ref it) u) Q E s:=by
 unfold vj;cases tg<;>first
  |exact wP hQ
  | (cases u<;>first
      |exact wP hQ
      | (refine wB (wpAny_load ho ?_)
         rw[hc,hd];show qu M A (if (["enumerate","zip","dict_itemiterator","dict_reverseitemiterator","odict_iterator","itertools.zip_longest","itertools.pairwise"].contains n&&vs[0]?==qz (yq _))=true then _ else _) Q E s;rw[if_neg (by intro h;rw[hn,yBu] at h;cases h)]
         exact wP hQ))
def Itl(K:FrG)(a:qw):It:=
 ⟨λ i H=>∃ xs x,bX K H a xs/\xs[i]?=qz x,λ i H x H'=>H'=H/\∀ xs,bX K H a xs->xs[i]?=qz x,λ i H=>∃ xs,bX K H a xs/\↑xs<=i⟩
def Itt(K:FrG)(a:qw):It:=
 ⟨λ i H=>∃ xs x,cH K H a xs/\xs[i]?=qz x,λ i H x H'=>H'=H/\∀ xs,cH K H a xs->xs[i]?=qz x,λ i H=>∃ xs,cH K H a xs/\↑xs<=i⟩
def zY(lo:Int)(n:Nat):It:=⟨λ i _=>i<n,λ i H x H'=>H'=H/\x=.int (lo+i),λ i _=>n<=i⟩
def aPe(a it:qw):Turn P w K tg (Itl K a) [it] it (λ i h=>h.IsListIter it a i) where
 mem:=by simp
 obj:=λ i h st b hb=>by
  have e:b=it:=(hb:)
  subst e;let(o,e,c,d):=st;exact⟨o,e,λ v z=>by rw[d] at z;cases z⟩
 keep:=λ i h h' st k=>st.at λ o e=>k it (by simp) o e
 item:=by
  intro X hP hw hK hc i aB s σ H E I hf st hg;subst hP hw hK;let(xs,x,hq,hx):=hg;let(aG,rv,p,hz):=I.list hq;let(u,hu,ru):=rv.get hx;let(f0,f1,f2,f3,f4,f5):=hf it (by simp);refine yx st p.isList (x:=u) (hu:) λ h' st' sb=>?_
  have I1:Inv X aB σ H {s with heap:=h' }:=I.turned (t':=s.toks) (λ b o hb e=>(sb.2 b hb).trans e) f0 f1 f3 f4 f5;let(o,e,c,d):=id st';exact⟨u,rfl,aBB (s:={s with heap:=h' }) e c d (·) ⟨x,H,I1,ru,⟨rfl,λ ys hy=>by rw[I.list_inj hy hq];exact hx⟩,st',λ b hb=>(hf b hb).1⟩⟩
 done:=by
  intro X hP hw hK hc i aB s σ H E I hf st hg;subst hP hw hK;let(xs,hq,hx):=hg;let(aG,rv,p,hz):=I.list hq;let(f0,f1,f2,f3,f4,f5):=hf it (by simp);have hl:=rv.length;exact yv (I.ok.hd hc) st p.isList (by simp;omega) λ h' eb=>⟨rfl,I.turned (t':=s.toks) (λ b o hb e=>eb b o hb e) f0 f1 f3 f4 f5⟩
 self:=λ _ _ _ _ _ st h=>wpAny_pyIter_listiter st h
def aO2(a it:qw):Turn P w K tg (Itt K a) [it] it (λ i h=>h.IsTupleIter it a i) where
 mem:=by simp
 obj:=λ i h st b hb=>by
  have e:b=it:=(hb:)
  subst e;let(o,e,c,d):=st;exact⟨o,e,λ v z=>by rw[d] at z;cases z⟩
 keep:=λ i h h' st k=>st.at λ o e=>k it (by simp) o e
 item:=by
  intro X hP hw hK hc i aB s σ H E I hf st hg;subst hP hw hK;let(xs,x,hq,hx):=hg;let(aG,rv,p,hz):=I.tuple hq;let(u,hu,ru):=rv.get hx;let(f0,f1,f2,f3,f4,f5):=hf it (by simp);refine wpAny_pyNext_tuple_item st (show s.heap.IsTuple a aG.toArray from p) (x:=u) (hu:) λ h' st' sb=>?_
  have I1:Inv X aB σ H {s with heap:=h' }:=I.turned (t':=s.toks) (λ b o hb e=>(sb.2 b hb).trans e) f0 f1 f3 f4 f5;let(o,e,c,d):=id st';exact⟨u,rfl,aBB (s:={s with heap:=h' }) e c d (·) ⟨x,H,I1,ru,⟨rfl,λ ys hy=>by rw[I.tuple_inj hy hq];exact hx⟩,st',λ b hb=>(hf b hb).1⟩⟩
 done:=by
  intro X hP hw hK hc i aB s σ H E I hf st hg;subst hP hw hK;let(xs,hq,hx):=hg;let(aG,rv,p,hz):=I.tuple hq;let(f0,f1,f2,f3,f4,f5):=hf it (by simp);have hl:=rv.length;exact wpAny_pyNext_tuple_end (I.ok.hd hc) st (show s.heap.IsTuple a aG.toArray from p) (by simp;omega) λ h' eb=>⟨rfl,I.turned (t':=s.toks) (λ b o hb e=>eb b o hb e) f0 f1 f3 f4 f5⟩
 self:=λ _ _ _ _ _ st h=>wpAny_pyIter_tupleiter st h
def aOT(it:qw)(lo:Int)(n:Nat):Turn P w K tg (zY lo n) [it] it (λ i h=>yw h it (lo+(i:Nat)*1) ((n:Int)-(i:Nat)) 1) where
 mem:=by simp
 obj:=λ i h st b hb=>by
  have e:b=it:=(hb:)
  subst e;exact⟨_,st,λ v z=>by
   have z':Data.fields _=Data.cell v:=z;cases z'⟩
 keep:=λ i h h' st k=>k it (by simp) _ st
 item:=by
  intro X hP hw hK hc i aB s σ H E I hf st hg;subst hP hw hK;let(f0,f1,f2,f3,f4,f5):=hf it (by simp);have W:=Walks.range (prog:=X.prog) (w:=X.w) (I.ok.hd hc) it lo 1 n;refine W.item i s _ _ hg st λ v h' tk hv st' kk=>?_
  let(t,rfl):=hv;have I1:Inv X aB σ H {s with heap:=h',toks:=tk }:=I.turned (λ b o hb e=>kk b o (hb:) e) f0 f1 f3 f4 f5;refine⟨_,rfl,aBB (s:={s with heap:=h',toks:=tk }) (n:="range_iterator") st' rfl rfl (·) ⟨.int (lo+i),H,I1,⟨t,?_⟩,⟨rfl,rfl⟩,st',λ b hb=>(hf b hb).1⟩⟩;rw[Int.mul_one]
 done:=by
  intro X hP hw hK hc i aB s σ H E I hf st hg;subst hP hw hK;let(f0,f1,f2,f3,f4,f5):=hf it (by simp);exact wpAny_pyNext_range_end (I.ok.hd hc) st (by have:n<=i:=hg;omega) λ h' eb=>⟨rfl,I.turned (t':=s.toks) (λ b o hb e=>eb b o hb e) f0 f1 f3 f4 f5⟩
 self:=λ _ _ _ _ _ st h=>yj st h
end L2
namespace L2
open PySem PySem.Spec PyProof.Rows
def aXA(K:FrG)(tl:TE):TI:=λ σ H R=>tl σ H λ x H1=>∃ a,x=.ref a/\(∃ xs,bX K H1 a xs)/\R (Itl K a) H1
def aZu(K:FrG)(tl:TE):TI:=λ σ H R=>tl σ H λ x H1=>∃ a,x=.ref a/\(∃ xs,cH K H1 a xs)/\R (Itt K a) H1
def aSA{tl:TE}(hl:PE X l tl):PI X tg l (aXA X.K tl):=by
 intro aB s σ H R I h;refine bD (hl aB s σ H _ I h) λ v s1 hPq16=>?_
 let(x,H1,I1,r1,q1):=hPq16;let(a,e,(xs,hq),q):=q1;subst e;cases r1;let(aG,rv,p,hz):=I1.list hq;refine wz p.isList ?_;refine⟨s1.heap.objs.size,[s1.heap.objs.size],_,_,H1,rfl,I1.kept (t':=s1.toks) λ b o e=>hpS _ e,aPe a _,⟨_,xAd _ rfl,rfl,rfl⟩,λ b hb=>?_,q⟩;have e:b=s1.heap.objs.size:=(hb:)
 subst e;exact I1.fpOk (yAb _) (I1.hok.fresh (yAb _))
def aUj{tl:TE}(hl:PE X l tl):PI X tg l (aZu X.K tl):=by
 intro aB s σ H R I h;refine bD (hl aB s σ H _ I h) λ v s1 hPq17=>?_
 let(x,H1,I1,r1,q1):=hPq17;let(a,e,(xs,hq),q):=q1;subst e;cases r1;let(aG,rv,p,hz):=I1.tuple hq;refine wpAny_pyIter_tuple (show s1.heap.IsTuple a aG.toArray from p) ?_;refine⟨s1.heap.objs.size,[s1.heap.objs.size],_,_,H1,rfl,I1.kept (t':=s1.toks) λ b o e=>hpS _ e,aO2 a _,⟨_,xAd _ rfl,rfl,rfl⟩,λ b hb=>?_,q⟩;have e:b=s1.heap.objs.size:=(hb:)
 subst e;exact I1.fpOk (yAb _) (I1.hok.fresh (yAb _))
def aIM{R:It->Hp->Prop}{E:qj->qv->Prop}{lo hi:Int}(I:Inv X aB σ H s)(h1 : -(2^62)<=lo)(h2:lo<2^62)(h3 : -(2^62)<=hi)(h4:hi<2^62)(q:R (zY lo (hi-lo).toNat) H):qu (model X.prog X.w) X.A (pyIter (.ref s.heap.objs.size)) (PIE X aB σ tg R) E {s with heap:=s.heap.push {cls:=.type "range",data:=.fields #[.int lo t,.int hi u,.int 1 v] },toks:=tk }:=by
 refine wpAny_pyIter_range (IsRange.new ..) (small_one h1 h2 h3 h4) ?_;have I1:Inv X aB σ H {s with heap:=s.heap.push {cls:=.type "range",data:=.fields #[.int lo t,.int hi u,.int 1 v] },toks:=tk }:=I.kept λ b o e=>hpS _ e
 refine⟨(s.heap.push {cls:=.type "range",data:=.fields #[.int lo t,.int hi u,.int 1 v] }).objs.size,[(s.heap.push {cls:=.type "range",data:=.fields #[.int lo t,.int hi u,.int 1 v] }).objs.size],_,_,H,rfl,
  I1.kept (t':=tk) λ b o e=>hpS _ e,aOT _ lo (hi-lo).toNat,?_,λ b hb=>?_,q⟩
 ·have e1:lo+((0:Nat):Int)*1=lo:=by simp
  have e2:(((hi-lo).toNat:Nat):Int)-((0:Nat):Int)=yEc lo hi 1:=by rw[rangeSize_one];split<;>omega
  show yw _ _ (lo+((0:Nat):Int)*1) ((((hi-lo).toNat:Nat):Int)-((0:Nat):Int)) 1;rw[e1,e2];exact xAd _ rfl
 ·have e:b=(s.heap.push {cls:=.type "range",data:=.fields #[.int lo t,.int hi u,.int 1 v] }).objs.size:=(hb:)
  subst e;exact I1.fpOk (yAb _) (I1.hok.fresh (yAb _))
def aL8(ta:TA):TI:=λ σ H R=>ta σ H λ vs H1=>∃ j:Int,vs=[.int j] /\ -(2^62)<=j/\j<2^62/\R (zY 0 j.toNat) H1
def aLR(ta:TA):TI:=λ σ H R=>ta σ H λ vs H1=>∃ i j:Int,vs=[.int i,.int j]/\(-(2^62)<=i/\i<2^62 /\ -(2^62)<=j/\j<2^62)/\R (zY i (j-i).toNat) H1
def aPT{ta:TA}(hg:Gl X "range")(hm:X.mg "range" = qx)(ha:PA X [a] ta)(hs:qo [a] X.env=[(false,eval a X.env)]:=by rfl):PI X tg (.Call (.Name "range" p) [a] [] pos) (aL8 ta):=by
 intro aB s σ H R I h;refine Call_ (nE I hg hm boot_range (yBe (bD (ha pos aB s σ H _ I h) λ us s1 hPq18=>?_) hs rfl));let(vs,H1,I1,r1,q1):=hPq18;let(j,e,q1,q2,q):=q1;subst e;cases r1 with
 |cons r rr=>
   cases rr;let(t,rfl):=r;exact call_range_1 (aIM I1 (!_) (!_) q1 q2 (q:))
def aPw{X:Cx}{tg:qy}{a b:qy}{ta:TA}{p pos:Pos}(hg:Gl X "range")(hm:X.mg "range" = qx)(ha:PA X [a,b] ta)(hs:qo [a,b] X.env=[(false,eval a X.env),(false,eval b X.env)]:=by rfl)(hs2:qo [b] X.env=[(false,eval b X.env)]:=by rfl) :
 PI X tg (.Call (.Name "range" p) [a,b] [] pos) (aLR ta):=by
 intro aB s σ H R I h;refine Call_ (nE I hg hm boot_range (yBe (bD (ha pos aB s σ H _ I h) λ us s1 hPq19=>?_) (by rw[hs,hs2]) (by rw[hs2];rfl)));let(vs,H1,I1,r1,q1):=hPq19;let(i,j,e,(q1,q2,q3,q4),q):=q1;subst e;cases r1 with
 |cons r rr=>
   cases rr with
   |cons r' rr=>
     cases rr;let(t,rfl):=r;let(t',rfl):=r';exact call_range_2 (aIM I1 q1 q2 q3 q4 q)
def aZA(wi:TI)(g:TG)(tb:TS):TS:=λ D σ H=>wi σ H λ J H1=>∃ W:Nat->Nat->St->Hp->Prop,(∃ m,W 0 m σ H1)/\∀ i m σ H,W i m σ H ->
 (J.stop i H/\D.nx σ H)\/(J.go i H/\∃ N:St->Hp->Prop,(∀ σ' H',N σ' H'->∃ m',m'<m/\W (i+1) m' σ' H')/\∀ x H',J.yld i H x H'->g x σ H' λ σ2 H2=>tb {D with nx:=N,ct:=N,bk:=D.nx } σ2 H2)
def wV(fp:List qw)(h:Heap):List (qw×Obj):=fp.filterMap λ b=>(h.get? b).map λ o=>(b,o)
def vI{h:Heap}(hb:b∈fp)(e:h.get? b=qz o):(b,o)∈wV fp h:=List.mem_filterMap.mpr ⟨b,hb,by rw[e];rfl⟩
def aPL(hp:p∈wV fp h):p.1∈fp/\h.get? p.1=qz p.2:=by
 let(b,hb,e):=List.mem_filterMap.mp hp;cases q:h.get? b with
 |none=>rw[q] at e;cases e
 |some o=>
   rw[q] at e;have e':(b,o)=p:=Option.some.inj e;subst e';exact⟨hb,q⟩
def Inv.pinned(I:Inv X aB σ H s)(hf:∀ b∈fp,gL X aB H b)(ho:∀ b∈fp,∃ o,s.heap.get? b=qz o/\∀ v,o.data≠.cell v):Inv X (aB++wV fp s.heap) σ H s:=
 I.pins_of λ p hp=>(List.mem_append.mp hp).elim (λ z=>I.pin p (xAp _ z)) λ z=>by
  let(hb,e):=aPL z;let(f0,f1,f2,_):=hf p.1 hb;let(o,e',d):=ho p.1 hb;rw[e] at e';cases e';exact⟨e,f0,f1,f2,d⟩
def Inv.unpinned(I:Inv X (aB++pl) σ H s):Inv X aB σ H s:=I.pins_of λ p hp=>I.pin p (xAp _ (List.mem_append_left _ hp))
def aUy{X:Cx}{wi:TI}(hp:PassesOwn (model X.prog X.w) X.A X.env X.xe)(hc:X.calm=true)(hi:PI X tg iter wi)(hg:PG X tg g)(hb:dI X body tb)(hs:∀ x,xo iter X.env x=pure x:=by intro _;rfl):PS X (.For tg iter body [] pos) (aZA wi g tb):=by
 intro aB s σ H D I h;refine wpAny_For (bD (hi aB s σ H _ I h) λ v s1 h1=>bD h1 λ itv s2 h2=>?_) hs;let(it,fp,tn,J,H2,e,I2,T,st2,f2,W,(m0,w0),turn):=h2;subst e;have stat:∀ {H':Hp},(∀ b∈fp,H' b=qx)->∀ b∈fp,gL X aB H' b:=λ hn b hb=>⟨hn b hb,(f2 b hb).2⟩
 refine codeAny_forLoop_any (λ n s'=>∃ i σ' H',Inv X aB σ' H' s'/\tn i s'.heap/\(∀ b∈fp,H' b=qx)/\W i n σ' H') ?_ m0 ⟨0,σ,H2,I2,st2,λ b hb=>(f2 b hb).1,w0⟩;rintro n s3 ⟨i,σ3,H3,I3,st3,fr3,w3⟩;rcases turn i n σ3 H3 w3 with ⟨stop,qn⟩|⟨go,N,hN,step⟩
 ·refine vq hp (bD (T.done X rfl rfl rfl hc i aB s3 σ3 H3 X.xe I3 (stat fr3) st3 stop) λ r s4 hPq20=>?_);let(hr,I4):=hPq20;subst hr;exact wpAny_execs_nil ⟨σ3,H3,I4,qn⟩
 ·refine vq hp (bD (T.item X rfl rfl rfl hc i aB s3 σ3 H3 X.xe I3 (stat fr3) st3 go) λ r s4 hPq21=>?_);let(u,hr,h4):=hPq21;subst hr;refine vq hp (bD h4 λ _ s5 hPq22=>?_);let(x,H5,I5,r5,y5,st5,fr5):=hPq22;have I5':=I5.pinned (stat fr5) (T.obj _ _ st5);refine vq hp (bD (hg _ s5 σ3 H5 x u _ I5' r5 (step x H5 y5)) λ _ s6 hPq23=>?_);let(σ6,H6,I6,q6):=hPq23;refine vq hp (bD (hb _ s6 σ6 H6 _ I6 q6) λ f s7 q7=>?_);have again:∀ {σ7:St}{H7:Hp},Inv X (aB++wV fp s5.heap) σ7 H7 s7->N σ7 H7->∃ m,m<n/\∃ i σ' H',Inv X aB σ' H' s7/\tn i s7.heap/\(∀ b∈fp,H' b=qx)/\W i m σ' H':=λ {σ7 H7} I7 n7=>by
   let(m',hm,w7):=hN σ7 H7 n7;refine⟨m',hm,i+1,σ7,H7,I7.unpinned,T.keep _ _ _ st5 λ b hb o e=>(I7.pin (b,o) (xAp _ (xAp _ (vI hb e)))).1,λ b hb=>?_,w7⟩;let(o,e,d):=T.obj _ _ st5 b hb;exact(I7.pin (b,o) (xAp _ (xAp _ (vI hb e)))).2.1
  cases f with
  |next=>let(σ7,H7,I7,n7):=q7;exact again I7 n7
  |cont=>let(σ7,H7,I7,n7):=q7;exact again I7 n7
  |brk=>let(σ7,H7,I7,q7):=q7;exact⟨σ7,H7,I7.unpinned,q7⟩
  |ret v=>let(x7,σ7,H7,I7,r7,q7):=q7;exact⟨x7,σ7,H7,I7.unpinned,r7,q7⟩
end L2
namespace L2
open PySem PySem.Spec PyProof.Rows
abbrev R2:=V->V->Hp->VK->Prop
def cY(X:Cx)(f:qj->qj->Sem qj)(r:R2):Prop:=
 ∀ (aB:List (qw×Obj)) (s:qv) (σ:St) (H:Hp) (x y:V) (v u:qj) (Q:VK),Inv X aB σ H s->aU x v->aU y u->r x y H Q ->
  qu (model X.prog X.w) X.A (f v u) (EP X aB σ Q) X.xe s
def UnR(X:Cx)(f:qj->Sem qj)(r:V->Hp->VK->Prop):Prop:=
 ∀ (aB:List (qw×Obj)) (s:qv) (σ:St) (H:Hp) (x:V) (v:qj) (Q:VK),Inv X aB σ H s->aU x v->r x H Q ->
  qu (model X.prog X.w) X.A (f v) (EP X aB σ Q) X.xe s
def gF(X:Cx)(f:qj)(r:List V->Hp->VK->Prop):Prop:=
 ∀ (aB:List (qw×Obj)) (s:qv) (σ:St) (H:Hp) (xs:List V) (us:List qj) (Q:VK),Inv X aB σ H s->bA xs us->r xs H Q ->
  qu (model X.prog X.w) X.A (call f us) (EP X aB σ Q) X.xe s
def aZS(X:Cx)(r:V->Hp->(Bool->Hp->Prop)->Prop):Prop:=
 ∀ (aB:List (qw×Obj)) (s:qv) (σ:St) (H:Hp) (x:V) (v:qj) (Q:Bool->Hp->Prop),Inv X aB σ H s->aU x v->r x H Q ->
  qu (model X.prog X.w) X.A (truthy v) (TP X aB σ Q) X.xe s
def tOp(r:R2)(ta tb:TE):TE:=λ σ H Q=>ta σ H λ x H1=>tb σ H1 λ y H2=>r x y H2 Q
def tUn(r:V->Hp->VK->Prop)(ta:TE):TE:=λ σ H Q=>ta σ H λ x H1=>r x H1 Q
def rI(C:Int->Int->Prop)(g:Int->Int->V):R2:=λ x y H Q=>∃ i j,x=.int i/\y=.int j/\C i j/\Q (g i j) H
def kO(g:Int->Int->V):R2:=λ x y H Q=>∃ i j,x=.int i/\y=.int j/\Q (g i j) H
def rU(g:Int->V):V->Hp->VK->Prop:=λ x H Q=>∃ i,x=.int i/\Q (g i) H
def aFD{ta tb:TE}(ha:PE X a ta)(hb:PE X b tb){R:V->V->Hp->Prop}(I:Inv X aB σ H s)(h:ta σ H λ x H1=>tb σ H1 λ y H2=>R x y H2){Q:qj->qv->Prop}{f:qj->qj->Sem qj}(hf:∀ v u s2 x y H2,Inv X aB σ H2 s2->aU x v->aU y u->R x y H2->qu (model X.prog X.w) X.A (f v u) Q X.xe s2) :
 qu (model X.prog X.w) X.A (eval a X.env) (λ v s₁=>qu (model X.prog X.w) X.A (eval b X.env) (λ u s₂=>qu (model X.prog X.w) X.A (f v u) Q X.xe s₂) X.xe s₁) X.xe s:=by
 refine bD (ha aB s σ H _ I h) λ v s1 hPq24=>?_
 let(x,H1,I1,r1,q1):=hPq24;refine bD (hb aB s1 σ H1 _ I1 q1) λ u s2 hPq25=>?_
 let(y,H2,I2,r2,q2):=hPq25;exact hf v u s2 x y H2 I2 r1 r2 q2
def aL5{ta tb:TE}{r:R2}(ho:cY X (zk op) r)(ha:PE X a ta)(hb:PE X b tb):PE X (.BinOp a op b pos) (tOp r ta tb):=by intro aB s σ H Q I h;exact wpAny_BinOp (aFD ha hb I h λ v u s2 x y H2 I2 rx ry q=>ho aB s2 σ H2 x y v u Q I2 rx ry q)
def aW6{ta:TE}{r:V->Hp->VK->Prop}(ho:UnR X (unaryOp op) r)(ha:PE X a ta):PE X (.UnaryOp op a pos) (tUn r ta):=by intro aB s σ H Q I h;exact UnaryOp_ (bD (ha aB s σ H _ I h) λ v s1 ⟨x,H1,I1,r1,q1⟩=>ho aB s1 σ H1 x v Q I1 r1 q1)
variable {X:Cx}
def zO{f:qj->qj->Sem qj}{C:Int->Int->Prop}{g:Int->Int->Int}(rule:∀ (i j:Int) (t u:Tok) (s:qv) (Q:qj->qv->Prop) (E:qj->qv->Prop),C i j->Q (.int (g i j) s.toks) {s with toks:=s.toks+1 }->qu (model X.prog X.w) X.A (f (.int i t) (.int j u)) Q E s) :
 cY X f (rI C λ i j=>.int (g i j)):=by intro aB s σ H x y v u Q I rx ry h;let(i,j,rfl,rfl,hc,q):=h;let(t,rfl):=rx;let(t',rfl):=ry;exact rule i j t t' s _ _ hc ⟨.int (g i j),H,I.tok _,⟨_,rfl⟩,q⟩
def yL{f:qj->qj->Sem qj}{g:Int->Int->Int}(rule:∀ (i j:Int) (t u:Tok) (s:qv) (Q:qj->qv->Prop) (E:qj->qv->Prop),Q (.int (g i j) s.toks) {s with toks:=s.toks+1 }->qu (model X.prog X.w) X.A (f (.int i t) (.int j u)) Q E s) :
 cY X f (kO λ i j=>.int (g i j)):=by intro aB s σ H x y v u Q I rx ry h;let(i,j,rfl,rfl,q):=h;let(t,rfl):=rx;let(t',rfl):=ry;exact rule i j t t' s _ _ ⟨.int (g i j),H,I.tok _,⟨_,rfl⟩,q⟩
def aCb{f:qj->qj->Sem qj}{g:Int->Int->Bool}(rule:∀ (i j:Int) (t u:Tok) (s:qv) (Q:qj->qv->Prop) (E:qj->qv->Prop),Q (.bool (g i j)) s->qu (model X.prog X.w) X.A (f (.int i t) (.int j u)) Q E s) :
 cY X f (kO λ i j=>.bl (g i j)):=by intro aB s σ H x y v u Q I rx ry h;let(i,j,rfl,rfl,q):=h;let(t,rfl):=rx;let(t',rfl):=ry;exact rule i j t t' s _ _ ⟨.bl (g i j),H,I,rfl,q⟩
def aZG(i j:Int):Prop:=0<=j/\j<=1000000/\i.natAbs<2^64
def aOL(k:Nat):(0:Int)<=2^k:=by rw[two_pow_cast];exact yGu _
def aUG:cY X (zk .Add) (kO λ i j=>.int (i+j)):=yL λ _ _ _ _ _ _ _ q=>add_int q
def aTz:cY X (zk .Sub) (kO λ i j=>.int (i-j)):=yL λ _ _ _ _ _ _ _ q=>sub_int q
def aRB:cY X (zk .Mod) (rI (λ _ j=>j≠0) λ i j=>.int (i.fmod j)):=zO λ _ _ _ _ _ _ _ hc q=>mod_int' hc q
def aTP:cY X (zk .Pow) (rI aZG λ i j=>.int (i^j.toNat)):=zO λ _ _ _ _ _ _ _ hc q=>pow_int_small hc.1 hc.2.1 hc.2.2 q
def aUN:cY X (zk .RShift) (rI (λ _ j=>0<=j) λ i j=>.int (i/2^j.toNat)):=zO λ i j _ _ _ _ _ hc q=>
 rshift_int hc (by rw[Int.fdiv_eq_ediv_of_nonneg i (aOL _)];exact q)
def aVh:cY X (zk .BitAnd) (kO λ i j=>.int (yEg i j)):=yL λ _ _ _ _ _ _ _ q=>and_int q
def aW8:cY X (zk .BitOr) (kO λ i j=>.int (yHl i j)):=yL λ _ _ _ _ _ _ _ q=>or_int q
def aU6:cY X (zk .BitXor) (kO λ i j=>.int (yHc i j)):=yL λ _ _ _ _ _ _ _ q=>xor_int q
def unI{f:qj->Sem qj}{g:Int->Int}(rule:∀ (i:Int) (t:Tok) (s:qv) (Q:qj->qv->Prop) (E:qj->qv->Prop),Q (.int (g i) s.toks) {s with toks:=s.toks+1 }->qu (model X.prog X.w) X.A (f (.int i t)) Q E s) :
 UnR X f (rU λ i=>.int (g i)):=by intro aB s σ H x v Q I rx h;let(i,rfl,q):=h;let(t,rfl):=rx;exact rule i t s _ _ ⟨.int (g i),H,I.tok _,⟨_,rfl⟩,q⟩
def aUZ:UnR X (unaryOp .USub) (rU λ i=>.int (-i)):=unI λ _ _ _ _ _ q=>neg_int q
def aUF:UnR X (unaryOp .Invert) (rU λ i=>.int (yBn i)):=unI λ _ _ _ _ _ q=>invert_int q
def aBl{Q:VK}(I:Inv X aB σ H s)(q:Q (.bl k) H)(e:k=k'):EP X aB σ Q (.bool k') s:=by subst e;exact⟨.bl k,H,I,rfl,q⟩
def aXU:cY X (xw .Lt) (kO λ i j=>.bl (decide (i<j))):=aCb λ _ _ _ _ _ _ _ q=>lt_int q
def aWT:cY X (xw .LtE) (kO λ i j=>.bl (decide (i<=j))):=aCb λ _ _ _ _ _ _ _ q=>le_int q
def aWJ:cY X (xw .Gt) (kO λ i j=>.bl (decide (j<i))):=aCb λ _ _ _ _ _ _ _ q=>gt_int q
def aYA:cY X (xw .GtE) (kO λ i j=>.bl (decide (j<=i))):=aCb λ _ _ _ _ _ _ _ q=>ge_int q
def aVy:cY X (xw .Is) (λ x y H Q=>y=.non/\Q (.bl (decide (x=.non))) H):=by
 intro aB s σ H x y v u Q I rx ry h;let(rfl,q):=h;cases ry;refine is_none_gen (aBl I q ?_);cases x<;>first
  |(cases rx;rfl)
  |(let(t,rfl):=rx;rfl)
def aSD:cY X (xw .IsNot) (λ x y H Q=>y=.non/\Q (.bl (!decide (x=.non))) H):=by
 intro aB s σ H x y v u Q I rx ry h;let(rfl,q):=h;cases ry;refine isnot_none_gen (aBl I q ?_);cases x<;>first
  |(cases rx;rfl)
  |(let(t,rfl):=rx;rfl)
def aZ6(b:qy)(h:op≠.In:=by decide)(h2:op≠.NotIn:=by decide):xz op b=false:=by
 have e1:(op==CmpOp.In)=false:=by cases op<;>first|rfl|exact absurd rfl h
 have e2:(op==CmpOp.NotIn)=false:=by cases op<;>first|rfl|exact absurd rfl h2
 cases b<;>simp[xz,e1,e2]
def aSQ{ta tb:TE}{r:R2}(ho:cY X (xw op) r)(ha:PE X a ta)(hb:PE X b tb)(hm:xz op b=false):PE X (.Compare a [op] [b] pos) (tOp r ta tb):=by intro aB s σ H Q I h;exact wpAny_Compare1 (aFD ha hb I h λ v u s2 x y H2 I2 rx ry q=>ho aB s2 σ H2 x y v u Q I2 rx ry q) hm
def aXd(t:TE):TT:=λ σ H Q=>t σ H λ x H'=>∃ k,x=.bl k/\Q k H'
def aSY{ta tb:TE}{r:R2}(ho:cY X (xw op) r)(ha:PE X a ta)(hb:PE X b tb)(hm:xz op b=false):PT X (.Compare a [op] [b] pos) (aXd (tOp r ta tb)):=by
 intro aB s σ H Q I h;refine wpAny_isTrue_Compare1 (bD (ha aB s σ H _ I h) λ v s1 ⟨x,H1,I1,r1,q1⟩=>bD (hb aB s1 σ H1 _ I1 q1) λ u s2 ⟨y,H2,I2,r2,q2⟩=>
  bD (ho aB s2 σ H2 x y v u _ I2 r1 r2 q2) λ c s3 ⟨z,H3,I3,r3,k,e,q3⟩=>?_) hm
 subst e;cases r3;exact jq ⟨H3,I3,q3⟩
def aFy(K:FrG)(x:V)(H:Hp)(k:Bool):Prop:=
 match x with
 |.non=>k=false|.bl b=>k=b|.int i=>k=(i != 0)|.str y=>y.length<=qk/\k=((y.length:Int) != 0)|.byt y=>y.size<=qk/\k=((y.size:Int) != 0)|.ref p=>(∃ xs,bX K H p xs/\k = !xs.isEmpty)\/(∃ xs,cH K H p xs/\k = !xs.isEmpty)\/∃ aF,H p=qz (.dK aF)/\k = !aF.isEmpty|_=>False
def aOO{κ:Type}{aF:List (κ×V)}{vs:List (κ×qj)}(r:KV aF vs):(!vs.isEmpty) = !aF.isEmpty:=by cases r<;>rfl
def aHh{xs:List V}(r:bA xs aG):(!aG.toArray.isEmpty) = !xs.isEmpty:=by cases r<;>simp
def nB:(qk:Nat)<2^63:=by rw[zq];decide
def aUY:aZS X (λ x H Q=>∃ k,aFy X.K x H k/\Q k H):=by
 intro aB s σ H x v Q I rx h;let(k,e,q):=h;have hl:=nB;have hs:qk=16777216:=zq;cases x with
 |non=>
   cases rx;have e':k=false:=e;subst e';exact truthy_none ⟨H,I,q⟩
 |bl b=>
   cases rx;have e':k=b:=e;subst e';exact jq ⟨H,I,q⟩
 |int i=>
   let(t,rfl):=rx;have e':k=(i != 0):=e;subst e';exact PySem.P.truthy_int ⟨H,I,q⟩
 |str y=>
   let(t,rfl):=rx;obtain⟨hy,e'⟩:y.length<=qk/\k=((y.length:Int) != 0):=e;subst e';exact PySem.P.truthy_str (!_) ⟨H,I.tok _,q⟩
 |byt y=>
   let(t,rfl):=rx;obtain⟨hy,e'⟩:y.size<=qk/\k=((y.size:Int) != 0):=e;subst e';exact PySem.W.truthy_bytes (!_) ⟨H,I.tok _,q⟩
 |ref p=>
   cases rx;have e':(∃ xs,bX X.K H p xs/\k = !xs.isEmpty)\/(∃ xs,cH X.K H p xs/\k = !xs.isEmpty)\/∃ aF,H p=qz (.dK aF)/\k = !aF.isEmpty:=e;rcases e' with ⟨xs,hx,e'⟩|⟨xs,hx,e'⟩|⟨aF,hx,e'⟩
   ·subst e';let(aG,r,pl,hz):=I.list hx;have cK:=r.length;exact wpAny_truthy_list pl.isList (by simp only[yAi];omega) ⟨H,I.tok _,by rw[aHh r];exact q⟩
   ·subst e';let(aG,r,pl,hz):=I.tuple hx;have cK:=r.length;exact truthy_tuple pl (by simp only[yAi];omega) ⟨H,I.tok _,by rw[aHh r];exact q⟩
   ·subst e';obtain⟨hz,hS,vs,r,m⟩:aF.length<=qk/\(p==sysModules)=false/\∃ vs,KV aF vs/\s.heap.DictOf (fM X.prog X.w) p vs:=I.hok p _ hx;have cK:aF.length=↑vs:=Paired.length r;exact wpAny_truthy_dict hS m (!_) ⟨H,I.tok _,by rw[aOO r];exact q⟩
 |_=>exact(show False from e).elim
def aQY{ta:TE}(ha:PE X a ta)(he:∀ fR,isTrue a X.env fR=(do let v <- fR;standAt a.pos;holding [v] (truthy v))) :
 PT X a (λ σ H Q=>ta σ H λ x H'=>∃ k,aFy X.K x H' k/\Q k H'):=by intro aB s σ H Q I h;exact isTrue_plain (bD (ha aB s σ H _ I h) λ v s1 ⟨x,H1,I1,r1,q1⟩=>aUY aB s1 σ H1 x v Q I1 r1 q1) (he _)
def aOI:cY X (zk .Add) (λ x y H Q=>∃ i j,x=.str i/\y=.str j/\i.length+j.length<=qk/\Q (.str (i++j)) H):=by intro aB s σ H x y v u Q I rx ry h;let(i,j,rfl,rfl,hz,q):=h;let(t,rfl):=rx;let(t',rfl):=ry;exact add_str (λ t' tk=>⟨.str (i++j),H,I.tok _,⟨_,rfl⟩,q⟩) hz
def rE(r:bA [x] us):∃ u,us=[u]/\aU x u:=by
 cases r with
 |cons r1 r2=>cases r2;exact⟨_,rfl,r1⟩
def aET(r:bA [x,y] us):∃ u w',us=[u,w']/\aU x u/\aU y w':=by
 cases r with
 |cons r1 r2=>
   cases r2 with
   |cons r3 r4=>cases r4;exact⟨_,_,rfl,r1,r3⟩
def aPz(hc:X.calm=true):gF X (.builtin "max") (λ xs H Q=>∃ i j,xs=[.int i,.int j]/\Q (.int (if j>i then j else i)) H):=by
 intro aB s σ H xs us Q I r h;let(i,j,rfl,q):=h;let(u,w',rfl,(t,rfl),(t',rfl)):=aET r;refine max_two_ints (I.ok.hd hc) λ h' tk k=>⟨_,H,I.kept k,?_,q⟩
 by_cases hj:j>i
 ·rw[if_pos hj,if_pos hj];exact⟨_,rfl⟩
 ·rw[if_neg hj,if_neg hj];exact⟨_,rfl⟩
def aPo(hc:X.calm=true):gF X (.builtin "min") (λ xs H Q=>∃ i j,xs=[.int i,.int j]/\Q (.int (if j<i then j else i)) H):=by
 intro aB s σ H xs us Q I r h;let(i,j,rfl,q):=h;let(u,w',rfl,(t,rfl),(t',rfl)):=aET r;refine min_two_ints (I.ok.hd hc) λ h' tk k=>⟨_,H,I.kept k,?_,q⟩
 by_cases hj:j<i
 ·rw[if_pos hj,if_pos hj];exact⟨_,rfl⟩
 ·rw[if_neg hj,if_neg hj];exact⟨_,rfl⟩
def aHM:gF X (.type "int") (λ xs H Q=>(∃ i,xs=[.int i]/\Q (.int i) H)\/∃ k,xs=[.bl k]/\Q (.int (if k then 1 else 0)) H):=by
 intro aB s σ H xs us Q I r h;rcases h with ⟨i,rfl,q⟩|⟨k,rfl,q⟩
 ·let(u,rfl,t,rfl):=rE r;exact call_int_int ⟨.int i,H,I,⟨_,rfl⟩,q⟩
 ·let(u,rfl,r1):=rE r;cases r1;exact call_int_bool ⟨.int (if k then 1 else 0),H,I.tok _,⟨_,rfl⟩,q⟩
end L2
namespace L2
open PySem PySem.Spec PyProof.Rows
structure ObjM(h:Heap)(x dx C:qw)(mA:Str->Option qj):Prop where
 obj:h.get? x=qz (yDd C dx)
 ns:h.Ns1 dx mA
 ne:dx≠x
def aPv{h:Heap}{mA:Str->Option qj}(n:h.Ns1 dx mA):∃ od,h.get? dx=qz od/\∀ name,yHd name od=qz (mA name):=by
 let(o,es,ep,ho,hd,hk,_,hm):=n;refine⟨o,ho,λ name=>?_⟩;have e:=hm name;unfold nsFind findBy at e;rw[<- Array.find?_toList] at e;unfold yHd;rw[hd];dsimp only;split
 ·rename_i y q;rw[q] at e;exact congrArg qz e
 ·rename_i q;rw[q] at e;have a:es.toList.any (·.refKey)=false:=by
   rw[List.any_eq_false];intro y hy;let(z,t,hkey):=hk y (Array.mem_toList_iff.mp hy);simp[DictEntry.refKey,hkey]
  have a':¬ es.toList.any (·.refKey)=true:=by rw[a];exact yBg
  rw[if_neg a'];exact congrArg qz e
def ObjM.look{mA:Str->Option qj}(I:ObjM h x dx C mA):∃ od,PySem.W.InstAt h x (yDd C dx) C (qz od)/\∀ name,yHd name od=qz (mA name):=
 let ⟨od,ho,hl⟩:=aPv I.ns
 ⟨od,⟨I.obj,rfl,rfl,ho⟩,hl⟩
variable {K:FrG}
def aSa{E:qj -> qv -> Prop}{s:qv}{mA:Str -> Option qj}{Q:qj->qv->Prop}(X:K.In s.heap)(I:ObjM s.heap x dx C mA)(hg:yEd K C name=true)(hh:yEo K C=true)(ha:yBh K (.ref C) name=qz qx)(hv:mA name=qz v)(hv':PySem.W.handedIn v=true)(h:Q v {s with toks:=s.toks+1 }) :
 qu (model prog w) A (getAttr (.ref x) name expr) Q E s:=by let(od,J,hl):=I.look;exact PySem.W.get_value X J (yGi hg).1 (PySem.W.findObj_own hh ha rfl (by rw[hl,hv])) hv' h
def aP1{E:qj -> qv -> Prop}{s:qv}{mA:Str -> Option qj}{Q:qj×List qj->qv->Prop}(X:K.In s.heap)(I:ObjM s.heap x dx C mA)(hg:yEd K C name=true)(hf:yBh K (.ref C) name=qz (qz (.ref f)))(ht:yGv K (.ref f)=true)(hv:mA name=qx)(h:Q (.ref f,[.ref x]) s) :
 qu (model prog w) A (getMethod (.ref x) name pl) Q E s:=by let(od,J,hl):=I.look;exact PySem.W.method_fn X J (yGi hg).1 (yGi hg).2 hf (beq_iff_eq.mp ht) (by show(yHd name od).map (·.isSome)=qz false;rw[hl,hv];rfl) h
def aRk{E:qj -> qv -> Prop}{s:qv}{mA:Str -> Option qj}{Q:Unit->qv->Prop}(X:K.In s.heap)(I:ObjM s.heap x dx C mA)(hs:yBh K (.ref C) "__setattr__" = qz (qz (.builtin "object.__setattr__")))(hp:yFu K C=true)(ht:yHs K C name=qz qx)(hh:yEo K C=true)(hw:PySem.Within mA ns)(hsz:↑ns<=qk)(h:∀ h',ObjM h' x dx C (λ y=>if y=name then qz v else mA y)->yCz dx s.heap h'->Q () {s with heap:=h',toks:=s.toks+2 }) :
 qu (model prog w) A (setAttr (.ref x) name v) Q E s:=by
 let(od,J,hl):=I.look;refine PySem.W.set_plain X J hs (PySem.W.osa_open (s:={s with toks:=s.toks+1 }) (r:=qx) X J hp ht λ b=>?_);let(cd,hc,hd'):=PySem.W.any_some hh;have hx:s.heap.get? x=qz ⟨.ref C,qz dx,.plain,#[]⟩:=I.obj;refine wB (wP (wB (wB (wpAny_loadPart hx (wB (PySem.W.Looks.here (s:={s with toks:=s.toks+1 }) (PySem.W.looks_clsIn X hc) ?_))))));rw[hd'];refine wP (a:=qz dx) (wB (wP (wB ?_)));refine wpAny_nsSet1 (s:={s with toks:=s.toks+1 }) I.ns λ h' hn2 hs2=>?_
 let(oD,esD,epD,hoD,hdD,hcD):=hn2.count (PySem.Within.cons name v hw);refine wB (wpAny_lookBehind hoD (by rw[hdD];exact pastItsLine_dict (xAh hcD (by rw[yAl];omega))) ?_);exact wP (h _ ⟨(hs2.2 _ (Ne.symm I.ne)).trans I.obj,hn2,I.ne⟩ hs2)
def aQi{A:zv}{s:qv}{R:Result->qv->Prop}(X:K.In s.heap)(hm:yHt K C=true)(hi:yBh K (.ref C) "__init__" = qz (qz (.ref f)))(hf:PySem.W.typeIn K (.ref f)=qz (.type "function"))(h:ju (model prog w) (A.under (.builtin "type.__call__" ⟨.ref C::vs,kw⟩)) (.call (.ref f) ⟨.ref (s.heap.objs.size+1)::vs,kw⟩) (PySem.W.InitBack (s.heap.objs.size+1) R)
   {s with heap:=(s.heap.push yBw).push (yDd C s.heap.objs.size) }) :
 ju (model prog w) A (.call (.ref C) ⟨vs,kw⟩) R s:=by let(hh,g,d,t,os):=s;exact PySem.W.make_core (PySem.W.makes_of X hm) (PySem.W.looks_findIn X hi) (λ self=>PySem.W.bind_fn X self hf) (.inl rfl) h
def fP(f:Str)(v:V):List (Str×V)->List (Str×V)
 |[]=>[(f,v)]
 |(g,x)::r=>if g=f then (g,v)::r else (g,x)::fP f v r
def aGU(f g:Str)(v:V):∀ fs:List (Str×V),(fP f v fs).lookup g=if g=f then qz v else fs.lookup g
 |[]=>by
   show yFv g [(f,v)]=_;by_cases h:g=f
   ·have hb:(g==f)=true:=beq_iff_eq.mpr h;simp only[yFv,hb,if_pos h]
   ·have hb:(g==f)=false:=beq_eq_false_iff_ne.mpr h;simp only[yFv,hb,if_neg h]
 |(k,x)::r=>by
   have ih:=aGU f g v r;rw[show fP f v ((k,x)::r)=(if k=f then (k,v)::r else (k,x)::fP f v r) from rfl];by_cases hk:k=f
   ·rw[if_pos hk];by_cases h:g=k
    ·have hb:(g==k)=true:=beq_iff_eq.mpr h;simp only[yFv,hb,if_pos (h.trans hk)]
    ·have hb:(g==k)=false:=beq_eq_false_iff_ne.mpr h;simp only[yFv,hb,if_neg (λ e:g=f=>h (e.trans hk.symm))]
   ·rw[if_neg hk];by_cases h:g=k
    ·have hb:(g==k)=true:=beq_iff_eq.mpr h;simp only[yFv,hb,if_neg (λ e:g=f=>hk (h.symm.trans e))]
    ·have hb:(g==k)=false:=beq_eq_false_iff_ne.mpr h;simp only[yFv,hb];exact ih
def aDo(f:Str)(v:V):∀ fs:List (Str×V),f∈(fP f v fs).map (·.1)/\∀ g,g∈fs.map (·.1)->g∈(fP f v fs).map (·.1)
 |[]=>⟨by simp[fP],λ g h=>by simp at h⟩
 |(k,x)::r=>by
   let(i1,i2):=aDo f v r;rw[show fP f v ((k,x)::r)=(if k=f then (k,v)::r else (k,x)::fP f v r) from rfl];by_cases hk:k=f
   ·rw[if_pos hk];subst hk;exact⟨by simp,λ g h=>by simpa using h⟩
   ·rw[if_neg hk];refine⟨?_,λ g h=>?_⟩
    ·rw[yAh];exact xAf _ i1
    ·rw[yAh] at h ⊢;rcases List.mem_cons.mp h with e|e
     ·exact List.mem_cons.mpr (.inl e)
     ·exact xAf _ (i2 g e)
def aG1(f:Str)(v:V):∀ fs:List (Str×V),(fP f v fs).length<=↑fs+1
 |[]=>by simp[fP]
 |(k,x)::r=>by
   have ih:=aG1 f v r;rw[show fP f v ((k,x)::r)=(if k=f then (k,v)::r else (k,x)::fP f v r) from rfl];by_cases hk:k=f
   ·rw[if_pos hk,yAl,yAl];omega
   ·rw[if_neg hk,yAl,yAl];omega
def fW.some_of(r:fW (qz v) o):∃ u,o=qz u/\aU v u:=by
 cases o with
 |none=>exact(show False from r).elim
 |some u=>exact⟨u,rfl,r⟩
def fW.none_of(r:fW qx o):o=qx:=by
 cases o with
 |none=>rfl
 |some u=>exact(show False from r).elim
def aPO(r:aU v u):PySem.W.handedIn u=true:=by
 cases v with
 |non=>cases (show u=Value.none from r);rfl
 |bl b=>cases (show u=Value.bool b from r);rfl
 |int i=>let(t,e):=(show ∃ t,u=Value.int i t from r);cases e;rfl
 |str x=>let(t,e):=(show ∃ t,u=Value.str x t from r);cases e;rfl
 |byt b=>let(t,e):=(show ∃ t,u=Value.bytes b t from r);cases e;rfl
 |flt b=>let(t,e):=(show ∃ t,u=Value.float b t from r);cases e;rfl
 |ref a=>cases (show u=Value.ref a from r);rfl
 |ty n=>cases (show u=Value.type n from r);rfl
section
variable {P:zx}{w:zj}{H H':Hp}{h h':Heap}{a C dx:qw}{fs fs':List (Str×V)}
def aDN(hok:bM P w H h)(e:H a=qz (.ins C dx fs)):∃ mA,ObjM h a dx C mA/\(∀ f,fW (fs.lookup f) (mA f))/\PySem.Within mA (fs.map (·.1))/\↑fs<=1000/\H dx=qz (.own a):=by let(d,z,ne,ob,mA,n,r,q):=(show eQ P w H h a (.ins C dx fs) from hok a _ e);exact⟨mA,⟨ob,n,ne⟩,r,q,z,d⟩
end
structure Cls(K:FrG)(C:qw):Prop where
 pg:yEd K C Str.empty=true
 hd:yEo K C=true
 po:yFu K C=true
 sa:yBh K (.ref C) "__setattr__" = qz (qz (.builtin "object.__setattr__"))
def Cls.get(c:Cls K C)(f:Str):yEd K C f=true:=c.pg
def NoAttr(K:FrG)(C:qw)(f:Str):Prop:=yBh K (.ref C) f=qz qx
def NoAttr.taker(n:NoAttr K C f):yHs K C f=qz qx:=by unfold yHs;rw[show yBh K (.ref C) f=qz qx from n];rfl
structure Con(K:FrG)(C:qw)(f:Str)(v:V)(u:qj):Prop where
 at_:yBh K (.ref C) f=qz (qz u)
 rel:aU v u
 get:PySem.W.specialIn K u "__get__" = qz qx
 cp:PySem.W.copiedNames.contains f=false
structure Meth(K:FrG)(C:qw)(m:Str)(f:qw):Prop where
 at_:yBh K (.ref C) m=qz (qz (.ref f))
 fn:yGv K (.ref f)=true
 kp:yBo K (.ref f)=true
section
variable {X:Cx}{aB:List (qw×Obj)}{σ:St}{H:Hp}{s:qv}{a C dx:qw}{fs:List (Str×V)}{f:Str}{v:V}{A:zv}{E:qj->qv->Prop}
def aO8{Q:qj->qv->Prop}(I:Inv X aB σ H s)(e:H a=qz (.ins C dx fs))(c:Cls X.K C)(n:NoAttr X.K C f)(l:fs.lookup f=qz v)(h:∀ u s',Inv X aB σ H s'->aU v u->Q u s'):qu (model X.prog X.w) A (getAttr (.ref a) f b) Q E s:=by let(mA,O,r,_,_,_):=aDN I.hok e;let(u,hu,ru):=fW.some_of (v:=v) (o:=mA f) (by rw[<- l];exact r f);exact aSa I.kIn O (c.get f) c.hd n hu (aPO ru) (h u _ (I.tok _) ru)
def aOH{Q:qj×List qj->qv->Prop}(I:Inv X aB σ H s)(e:H a=qz (.ins C dx fs))(c:Cls X.K C)(k:Meth X.K C m g)(l:fs.lookup m=qx)(h:Q (.ref g,[.ref a]) s):qu (model X.prog X.w) A (getMethod (.ref a) m pl) Q E s:=by let(mA,O,r,_,_,_):=aDN I.hok e;have hn:mA m=qx:=fW.none_of (by rw[<- l];exact r m);exact aP1 I.kIn O (c.get m) k.at_ k.fn hn h
def aOQ{Q:Unit->qv->Prop}(I:Inv X aB σ H s)(e:H a=qz (.ins C dx fs))(c:Cls X.K C)(n:NoAttr X.K C f)(hl:↑fs<1000)(ry:aU y u)(h:∀ s',Inv X aB σ (bF H a (.ins C dx (fP f y fs))) s'->Q () s'):qu (model X.prog X.w) A (setAttr (.ref a) f u) Q E s:=by
 let(mA,O,r,wi,_,ho):=aDN I.hok e;have hz:(fs.map (·.1)).length<=qk:=by rw[yAc,zq];omega
 refine aRk I.kIn O c.sa c.po n.taker c.hd wi hz λ h' O' sb=>h _ ?_
 have hd:∃ o,h'.get? dx=qz o:=let ⟨o,_,_,e',_⟩:=O'.ns;⟨o,e'⟩;refine I.write (x:=a) (e:=dx) (by rw[e];exact True.intro) (.inr ho) (λ b q hb z=>(sb.2 b hb).trans z) hd ?_;refine⟨by rw[bO O.ne];exact ho,?_,O.ne,O'.obj,_,O'.ns,λ g=>?_,λ g hg=>?_⟩
 ·have:=aG1 f y fs;omega
 ·show fW ((fP f y fs).lookup g) (if g=f then qz u else mA g);rw[aGU];by_cases q:g=f
  ·rw[if_pos q,if_pos q];exact ry
  ·rw[if_neg q,if_neg q];exact r g
 ·by_cases q:g=f
  ·rw[q];exact(aDo f y fs).1
  ·refine(aDo f y fs).2 g (wi g λ z=>hg ?_);show(if g=f then qz u else mA g)=qx;rw[if_neg q];exact z
def Inv.made(I:Inv X aB σ H s):Inv X aB σ (bF (bF H s.heap.objs.size (.own (s.heap.objs.size+1))) (s.heap.objs.size+1) (.ins C s.heap.objs.size []))
 {s with heap:=(s.heap.push yBw).push (yDd C s.heap.objs.size) }:=by
 have e1:(s.heap.push yBw).get? s.heap.objs.size=qz yBw:=xAd s.heap rfl;have e2:((s.heap.push yBw).push (yDd C s.heap.objs.size)).get? (s.heap.objs.size+1)=qz (yDd C s.heap.objs.size):=by
  have:=xAd (s.heap.push yBw) (o:=yDd C s.heap.objs.size) rfl;rwa [yHe] at this
 have e3:(s.heap.push yBw).Ns s.heap.objs.size (λ _=>qx):=⟨yBw,#[],_,e1,rfl,(λ e he=>absurd he (by simp)),λ _=>rfl⟩;have I1:=I.laid (a:=s.heap.objs.size) (o:=.own (s.heap.objs.size+1)) (h':=s.heap.push yBw) (t':=s.toks) (λ b u q=>hpS _ q) (yAb _) ⟨_,e1⟩;refine I1.laid (a:=s.heap.objs.size+1) (o:=.ins C s.heap.objs.size []) (t':=s.toks) (λ b u q=>hpS _ q) (yHu (yHe _ _)) ?_;have ne:s.heap.objs.size≠s.heap.objs.size+1:=xAj (yEw _);refine⟨by rw[bO ne,cO],yBv _,ne,e2,λ _=>qx,(Heap.Ns1.of_empty e3).at λ o q=>hpS _ q,λ _=>True.intro,λ y hy=>absurd rfl hy⟩
def aSO{Q:qj->qv->Prop}(hb:attributeBase e f env (eval e env)=eval e env)(h:qu (model prog w) A (eval e env) (λ o s₁=>qu (model prog w) A (getAttr o f true) Q E s₁) E s):qu (model prog w) A (eval (.Attribute e f pos) env) Q E s:=
 Attribute_any_ h (by rw[arm_eval_Attribute,hb])
end
def aZW(K:FrG)(ta:TE)(f:Str):TE:=λ σ H Q=>ta σ H λ x H1=>∃ a C dx fs v,x=.ref a/\H1 a=qz (.ins C dx fs)/\Cls K C/\NoAttr K C f/\fs.lookup f=qz v/\Q v H1
def aNe(K:FrG)(ta tv:TE)(f:Str):TS:=λ D σ H=>tv σ H λ y H1=>ta σ H1 λ x H2=>∃ a C dx fs,x=.ref a/\H2 a=qz (.ins C dx fs)/\Cls K C/\NoAttr K C f/\↑fs<1000 /\
 D.nx σ (bF H2 a (.ins C dx (fP f y fs)))
def aVL{ta:TE}(he:PE X e ta)(hb:attributeBase e f X.env (eval e X.env)=eval e X.env):PE X (.Attribute e f pos) (aZW X.K ta f):=by intro aB s σ H Q I h;refine aSO hb (bD (he aB s σ H _ I h) λ u s1 hPq26=>?_);let(x,H1,I1,rx,a,C,dx,fs,v,ex,ea,c,n,l,q):=hPq26;subst ex;obtain rfl:u=Value.ref a:=rx;exact aO8 I1 ea c n l λ u' s2 I2 ru=>⟨v,H1,I2,ru,q⟩
def aVV{pos:Pos}{ta tv:TE}(ha:PE X o ta)(hv:PE X value tv)(hs:swapsWith value (qz (.Attribute o f pos')) pos.line X.env=pure false):PS X (.Assign [.Attribute o f pos'] value pos) (aNe X.K ta tv f):=by intro aB s σ H D I h;refine plainObj_wpAny_Assign_Attribute (bD (hv aB s σ H _ I h) λ u s1 ⟨y,H1,I1,ry,q⟩=>bD (ha aB s1 σ H1 _ I1 q) λ ov s2 hPq27=>?_) hs;let(x,H2,I2,rx,a,C,dx,fs,ex,ea,c,n,l,q2):=hPq27;subst ex;obtain rfl:ov=Value.ref a:=rx;exact aOQ I2 ea c n l ry λ s3 I3=>⟨σ,_,I3,q2⟩
section
variable {X:Cx}{aB:List (qw×Obj)}{σ:St}{H:Hp}{s:qv}{A:zv}{E:qj->qv->Prop}{Q:qj->qv->Prop}{c:qj}{b:Bool}
inductive TyOf (K:FrG) (H:Hp):V->qj->Prop where
 |non:TyOf K H .non (.type "NoneType")
 |bl (x:Bool):TyOf K H (.bl x) (.type "bool")
 |int (i:Int):TyOf K H (.int i) (.type "int")
 |str (x:Str):TyOf K H (.str x) (.type "str")
 |flt (x:UInt64):TyOf K H (.flt x) (.type "float")
 |lst {a:qw}{xs:List V} (e:H a=qz (.lst xs)):TyOf K H (.ref a) (.type "list")
 |frz {a:qw}{o:Obj}{xs:List V} (e:H a=qz (.frz o (.lst xs))):TyOf K H (.ref a) (.type "list")
 |tup {a:qw}{xs:List V} (e:H a=qz (.tup xs)):TyOf K H (.ref a) (.type "tuple")
 |dK {a:qw}{aF:List (bE×V)} (e:H a=qz (.dK aF)):TyOf K H (.ref a) (.type "dict")
 |dT {a:qw}{aF:List (List bE×V)} (e:H a=qz (.dT aF)):TyOf K H (.ref a) (.type "dict")
 |ins {a C dx:qw}{fs:List (Str×V)} (e:H a=qz (.ins C dx fs)) (cl:Cls K C) (ha:yBh K (.ref C) "__class__" = qz (qz (.builtin "object.__class__")))
    (hn:PySem.W.specialIn K (.builtin "object.__class__") "__get__" = qz (qz (.builtin "getset_descriptor.__get__"))) (htk:PySem.W.takesIn K (.builtin "object.__class__")=qz true)
    (hm:PySem.W.mroIn K C (.type "object")=qz true):TyOf K H (.ref a) (.ref C)
end
end L2
namespace L2
open PySem PySem.Spec PyProof.Rows
structure Room(k:Nat)(A:zv):Prop where
 hd:A.handled=qx
 dp:A.depth+3*k+5<recursionLimit
 un:A.units+16*k+200<cLine
def Room.mono(r:Room k A)(h:j<=k):Room j A:=⟨r.hd,by have:=r.dp;omega,by have:=r.un;omega⟩
def Room.deeper(r:Room (k+1) A)(env:Env):Room k (A.deeper env):=
 ⟨r.hd,by have:=r.dp;show A.depth+1+3*k+5<_;omega,by have:=r.un;show A.units+3+16*k+200<_;omega⟩
def aO5{A:zv}:(A.under (.builtin "type.__call__" ⟨.ref C::us,kw⟩)).depth=A.depth+1:=by first|rfl|simp[Around.under,Code.weight,Code.isCreation,Code.isGuard,Code.isCaller,Code.frames,Code.isFrame,guardIds]
def aO1{A:zv}:(A.under (.builtin "type.__call__" ⟨.ref C::us,kw⟩)).units=A.units+1:=by first|rfl|simp[Around.under,Code.cUnits,Code.frames,Code.isFrame]
def Room.make(r:Room (k+1) A)(C:qw)(us:List qj)(kw:List (Str×qj)):Room k (A.under (.builtin "type.__call__" ⟨.ref C::us,kw⟩)):=
 ⟨r.hd,by have:=r.dp;rw[aO5];omega,by have:=r.un;rw[aO1];omega⟩
def Room.depth(r:Room k A):A.depth<recursionLimit:=by have:=r.dp;omega
def Room.units(r:Room k A):A.units+64<cLine:=by have:=r.un;omega
def aFx:TA:=λ _ H Q=>Q [] H
def aWs(ta:TE)(tr:TA):TA:=λ σ H Q=>ta σ H λ x H1=>tr σ H1 λ xs H2=>Q (x::xs) H2
def aEi:PA X [] aFx:=λ _ _ _ _ H Q I h=>Calls.spliced_nil ⟨[],H,I,.nil,h⟩
def aDQ{te:TE}{t:TA}(ha:PE X e te)(hr:PA X es t)(hs:qo (e::es) X.env=(false,eval e X.env)::qo es X.env:=by rfl):PA X (e::es) (aWs te t):=by intro pos aB s σ H Q I h;rw[hs];show qu _ _ (spliced ((false,eval e X.env)::backTo pos (qo es X.env))) _ _ s;refine Calls.spliced_cons (bD (ha aB s σ H _ I h) λ u s1 hPq28=>?_);let(x,H1,I1,r1,q1):=hPq28;exact bD (hr pos aB s1 σ H1 _ I1 q1) λ us s2 ⟨xs,H2,I2,r2,q2⟩=>⟨x::xs,H2,I2,.cons r1 r2,q2⟩
def aY7(t:TA):TE:=λ σ H Q=>t σ H λ xs H1=>↑xs<=qk/\∀ p,H1 p=qx->Q (.ref p) (bF H1 p (.tup xs))
def aFl(t:TA):TE:=λ σ H Q=>t σ H λ xs H1=>↑xs<=qk/\∀ p,H1 p=qx->Q (.ref p) (bF H1 p (.lst xs))
def aKk{t:TA}{x1}(h:PA X es t):PE X (.Tuple es x1 pos) (aY7 t):=by intro aB s σ H Q I hq;refine wpAny_Tuple_spliced (bD (h pos aB s σ H _ I hq) λ us s1 ⟨xs,H1,I1,r,z,q⟩=>⟨by rw[<- r.length];exact z,?_⟩);have hf:H1 s1.heap.objs.size=qx:=I1.hok.fresh (yAb _);refine⟨.ref s1.heap.objs.size,bF H1 s1.heap.objs.size (.tup xs),I1.laid (t':=s1.toks) (λ b u e=>hpS _ e) (yAb _) ?_,rfl,q _ hf⟩;exact⟨z,us,r,⟨_,xAd _ rfl,rfl,_,rfl⟩⟩
def aEs{t:TA}(h:PA X es t):PE X (.List es pos) (aFl t):=by intro aB s σ H Q I hq;refine wpAny_List_spliced (bD (h pos aB s σ H _ I hq) λ us s1 ⟨xs,H1,I1,r,z,q⟩=>⟨by rw[<- r.length];exact z,?_⟩);have hf:H1 s1.heap.objs.size=qx:=I1.hok.fresh (yAb _);refine⟨.ref s1.heap.objs.size,bF H1 s1.heap.objs.size (.lst xs),I1.laid (t':=s1.toks) (λ b u e=>hpS _ e) (yAb _) ?_,rfl,q _ hf⟩;exact⟨z,us,0,r,xAd _ rfl⟩
abbrev Sp:=List V->Hp->VK->XK->Prop
abbrev lU:=List Env->Hp->qv->XK->qj->qv->Prop
structure Env0(P:zx)(w:zj)(K:FrG)(mg:Str->Option qj)(base:Heap)(A:zv)(outer:List Env)(s:qv)(H:Hp):Prop where
 frames:A.frames=qz outer
 mod:Mod K mg base
 bs:∀ b o,base.get? b=qz o->s.heap.get? b=qz o/\H b=qx
 bsz:base.objs.size<=s.heap.objs.size
 funs:s.heap.FunFrames base outer
 frf:∀ b∈frs outer,H b=qx
 hok:bM P w H s.heap
 bare:AllBare s.gens
def CE(outer:List Env)(P:zx)(w:zj)(H:Hp)(s:qv)(Q:VK)(u:qj)(s':qv):Prop:=
 ∃ v H',s'.os=s.os/\AllBare s'.gens/\Un (frs outer) [] H H' s.heap s'.heap/\bM P w H' s'.heap/\aU v u/\Q v H'
def CR(CX:lU)(outer:List Env)(P:zx)(w:zj)(H:Hp)(s:qv)(Q:VK)(E:XK)(r:Result)(s':qv):Prop:=
 match r with
 |.ok (.ret u)=>CE outer P w H s Q u s'|.ok _=>False|.error e=>CX outer H s E e s'
structure FnOk(P:zx)(w:zj)(K:FrG)(mg:Str->Option qj)(base:Heap)(CX:lU)(k:Nat)(f:qw)(fd:jw)(ps:List Str)(sp:Sp):Prop where
 len:∀ vs H Q E,sp vs H Q E->↑vs=↑ps
 run:∀ (A:zv) (outer:List Env) (s:qv) (H:Hp) (args:Args) (us:List qj) (vs:List V) (Q:VK) (E:XK),Room k A->Env0 P w K mg base A outer s H->BindsTo s fd args (ps.zip us)->bA vs us->sp vs H Q E ->
  ju (model P w) A (.call (.ref f) args) (CR CX outer P w H s Q E) s
variable {K:FrG}
def FnOk.imp{mg:Str->Option qj}(F:FnOk P w K mg base CX k f fd ps sp)(h:∀ vs H Q E,sp' vs H Q E->sp vs H Q E):FnOk P w K mg base CX k f fd ps sp':=
 ⟨λ vs H Q E q=>F.len vs H Q E (h _ _ _ _ q),λ A outer s H args us vs Q E hr he hb hv hs=>F.run A outer s H args us vs Q E hr he hb hv (h _ _ _ _ hs)⟩
def Env0.make{mg:Str->Option qj}(e:Env0 P w K mg base A outer s H)(C:qw)(us:List qj)(kw:List (Str×qj)) :
 Env0 P w K mg base (A.under (.builtin "type.__call__" ⟨.ref C::us,kw⟩)) outer s H:=⟨by first|exact e.frames|(simpa [Around.under,Code.envs,Code.isFrame,pushEnvs] using e.frames),e.mod,e.bs,e.bsz,e.funs,e.frf,e.hok,e.bare⟩
section
variable {X:Cx}{aB:List (qw×Obj)}{σ:St}{H:Hp}{s s':qv}
def Inv.env0(I:Inv X aB σ H s):Env0 X.prog X.w X.K X.mg X.base X.A X.stack s H:=
 ⟨I.ok.frames,I.ok.mod,I.bs,xAh I.ok.bsz I.sz,I.stack,I.stkFree,I.hok,I.bare⟩
def Inv.after{Q:VK}(I:Inv X aB σ H s)(h:CE X.stack X.prog X.w H s Q u s'):EP X aB σ Q u s':=by let(v,H',os,bare,un,hok,r,q):=h;let(hh,g,d,t,os'):=s';obtain rfl:os'=s.os:=os;exact⟨v,H',I.call (h':=hh) (g':=g) (d':=d) (t':=t) (ch:=[]) un hok bare (λ b z=>absurd z (by simp)),r,q⟩
end
def aBL(sp:Sp)(dvs:List V)(E:XK)(t:TA):TE:=λ σ H Q=>t σ H λ vs H1=>sp (vs++dvs) H1 Q E
def aLr(C:qw)(m:Str)(sp:Sp)(dvs:List V)(E:XK)(ta:TE)(t:TA):TE:=λ σ H Q=>ta σ H λ x H1=>∃ a dx fs,x=.ref a/\H1 a=qz (.ins C dx fs)/\fs.lookup m=qx /\
 t σ H1 λ vs H2=>sp (x::(vs++dvs)) H2 Q E
def aMC(C:qw)(sp:Sp)(dvs:List V)(E:XK)(t:TA):TE:=λ σ H Q=>t σ H λ vs H1=>∀ x dx,H1 x=qx->H1 dx=qx->dx≠x ->
 sp (.ref x::(vs++dvs)) (bF (bF H1 dx (.own x)) x (.ins C dx [])) (λ v H2=>v=.non/\Q (.ref x) H2) E
def gZ(K:FrG)(fd:jw)(ps:List Str)(ds:List qj):Prop:=
 ∀ (s:qv) (us:List qj),K.In s.heap->(us++ds).length=↑ps->BindsTo s fd ⟨us,[]⟩ (ps.zip (us++ds))
def gZ.all{ps:List Str}(h:∀ us:List qj,↑us=↑ps->bindArgs fd ⟨us,[]⟩=pure (ps.zip us)):gZ K fd ps []:=λ s us _ hl=>by
 rw[yBz] at hl ⊢;exact .of_eq (h us hl)
def qT(CX:lU)(X:Cx)(E:XK):Prop:=∀ (aB:List (qw×Obj)) (σ:St) (H:Hp) (s:qv) (e:qj) (s':qv),Inv X aB σ H s->CX X.stack H s E e s'->X.xe e s'
variable {X:Cx}
def aD8{E:XK}{Q:VK}(F:FnOk X.prog X.w X.K X.mg X.base CX k f fd ps sp)(hr:Room k X.A)(hb:gZ X.K fd ps ds)(hd:bA dvs ds)(hx:qT CX X E)(I:Inv X aB σ H s)(r:bA vs us)(h:sp (vs++dvs) H Q E):qu (model X.prog X.w) X.A (call (.ref f) us) (EP X aB σ Q) X.xe s:=by
 have r2:bA (vs++dvs) (us++ds):=r.append hd;have hl:(us++ds).length=↑ps:=by rw[<- r2.length];exact F.len _ _ _ _ h
 refine wpAny_call (codeAny_mono (F.run X.A X.stack s H ⟨us,[]⟩ (us++ds) (vs++dvs) Q E hr I.env0 (hb s us I.kIn hl) r2 h) λ r s' hq=>?_);cases r with
 |error e=>exact hx aB σ H s e s' I hq
 |ok fl=>
   cases fl with
   |ret u=>exact I.after hq|next=>exact False.elim hq|brk=>exact False.elim hq|cont=>exact False.elim hq
def aRD{CX:lU}{k:Nat}{f:qw}{fd:jw}{ps:List Str}{sp:Sp}{dvs:List V}{ds:List qj}{E:XK}{x:Str}{p pos:Pos}{e:qy}{es:List qy}{t:TA}(F:FnOk X.prog X.w X.K X.mg X.base CX k f fd ps sp)(hr:Room k X.A)(hg:Gl X x)(hm:X.mg x=qz (.ref f))(hk:yBo X.K (.ref f)=true)(hb:gZ X.K fd ps ds)(hd:bA dvs ds)(hx:qT CX X E)
 (ha:PA X (e::es) t) (hdb:(x==("__debug__" : Str))=false:=by decide) (he:qo (e::es) X.env=(false,eval e X.env)::qo es X.env:=by rfl) (hpl:(backTo pos (qo es X.env)).any (·.1)=false:=by rfl) :
 PE X (.Call (.Name x p) (e::es) [] pos) (aBL sp dvs E t):=by intro aB s σ H Q I h;refine xy (aA1 I hg hm ?_ hdb);refine yGw (h₀:=X.base) I.ok.mod.kin hk (bD (ha pos aB s σ H _ I h) λ us s1 ⟨vs,H1,I1,r,q⟩=>⟨I1.kIn,?_⟩) he hpl;exact aD8 F hr hb hd hx I1 r q
def aQw{E:XK}(F:FnOk X.prog X.w X.K X.mg X.base CX k f fd ps sp)(hr:Room k X.A)(hg:Gl X x)(hm:X.mg x=qz (.ref f))(hk:yBo X.K (.ref f)=true)(hb:gZ X.K fd ps ds)(hd:bA dvs ds)(hx:qT CX X E)(hdb:(x==("__debug__" : Str))=false:=by decide):PE X (.Call (.Name x p) [] [] pos) (aBL sp dvs E aFx):=by intro aB s σ H Q I h;refine xy (aA1 I hg hm ?_ hdb);exact PySem.W.callWith_K0 I.kIn hk (aD8 (us:=[]) F hr hb hd hx I .nil h)
def aSE{CX:lU}{k:Nat}{f C:qw}{fd:jw}{ps:List Str}{sp:Sp}{dvs:List V}{ds:List qj}{E:XK}{m:Str}{pos apos:Pos}{e o:qy}{es:List qy}{ta:TE}{t:TA}{pl:Sem Bool}(he:PE X o ta)(c:Cls X.K C)(hm:Meth X.K C m f)(F:FnOk X.prog X.w X.K X.mg X.base CX k f fd ps sp)(hr:Room k X.A)(hb:gZ X.K fd ps ds)(hd:bA dvs ds)(hx:qT CX X E)(ha:PA X (e::es) t)
 (hst:qo (e::es) X.env=(false,eval e X.env)::qo es X.env:=by rfl) (hpl:(backTo pos (qo es X.env)).any (·.1)=false:=by rfl)
 (ht:eval (.Call (.Attribute o m apos) (e::es) [] pos) X.env=(do
   let ov <- eval o X.env
   standAt apos.atName
   let (f,first) <- holding [ov] (getMethod ov m pl)
   callWith pos f first (backTo pos (qo (e::es) X.env)) (backToKw pos (keywordEach [] X.env))):=by rfl) :
 PE X (.Call (.Attribute o m apos) (e::es) [] pos) (aLr C m sp dvs E ta t):=by intro aB s σ H Q I h;refine PySem.W.methodCall_KW (pl:=pl) (bD (he aB s σ H _ I h) λ u s1 hPq29=>?_) ht;let(x,H1,I1,rx,a,dx,fs,ex,ea,l,q):=hPq29;subst ex;obtain rfl:u=Value.ref a:=rx;refine aOH I1 ea c hm l ?_;refine yGw (first:=[.ref a]) (h₀:=X.base) I.ok.mod.kin hm.kp (bD (ha pos aB s1 σ H1 _ I1 q) λ us s2 ⟨vs,H2,I2,r,q2⟩=>⟨I2.kIn,?_⟩) hst hpl;exact aD8 (us:=.ref a::us) (vs:=.ref a::vs) F hr hb hd hx I2 (.cons rfl r) q2
structure Mk(K:FrG)(C f:qw):Prop where
 makes:yHt K C=true
 init:yBh K (.ref C) "__init__" = qz (qz (.ref f))
 fn:yGv K (.ref f)=true
 kp:yBo K (.ref C)=true
def aQh{E:XK}{Q:VK}(M:Mk X.K C f)(F:FnOk X.prog X.w X.K X.mg X.base CX k f fd ps sp)(hr:Room (k+1) X.A)(hb:gZ X.K fd ps ds)(hd:bA dvs ds)(hx:qT CX X E)(I:Inv X aB σ H s)(r:bA vs us)(h:∀ x dx,H x=qx->H dx=qx->dx≠x->sp (.ref x::(vs++dvs)) (bF (bF H dx (.own x)) x (.ins C dx [])) (λ v H2=>v=.non/\Q (.ref x) H2) E) :
 qu (model X.prog X.w) X.A (call (.ref C) us) (EP X aB σ Q) X.xe s:=by
 have hq:=h (s.heap.objs.size+1) s.heap.objs.size (I.hok.fresh (Nat.le_succ _)) (I.hok.fresh (yAb _)) (xAj (yEw _));have I2:=Inv.made (C:=C) I;have r2:bA (V.ref (s.heap.objs.size+1)::(vs++dvs)) (Value.ref (s.heap.objs.size+1)::(us++ds)):=.cons rfl (r.append hd);have hl:(Value.ref (s.heap.objs.size+1)::us++ds).length=↑ps:=by
  have e:=r2.length;rw[F.len _ _ _ _ hq] at e;exact e.symm
 refine wpAny_call (aQi (f:=f) I.kIn M.makes M.init (beq_iff_eq.mp M.fn) (codeAny_mono (F.run _ X.stack _ _ ⟨Value.ref (s.heap.objs.size+1)::us,[]⟩ (Value.ref (s.heap.objs.size+1)::(us++ds)) _ _ E (hr.make C us [])
  (I2.env0.make C us []) (hb _ (Value.ref (s.heap.objs.size+1)::us) I2.kIn hl) r2 hq) λ r s' hq'=>?_))
 cases r with
 |error e=>exact hx aB σ _ _ e s' I2 hq'
 |ok fl=>
   cases fl with
   |ret u=>
     let(v,H',I3,rv,ev,q3):=I2.after hq';subst ev;exact⟨rv,⟨V.ref (s.heap.objs.size+1),H',I3,rfl,q3⟩⟩
   |next=>exact False.elim hq'|brk=>exact False.elim hq'|cont=>exact False.elim hq'
def aSw{CX:lU}{k:Nat}{f C:qw}{fd:jw}{ps:List Str}{sp:Sp}{dvs:List V}{ds:List qj}{E:XK}{x:Str}{p pos:Pos}{e:qy}{es:List qy}{t:TA}(M:Mk X.K C f)(F:FnOk X.prog X.w X.K X.mg X.base CX k f fd ps sp)(hr:Room (k+1) X.A)(hg:Gl X x)(hm:X.mg x=qz (.ref C))(hb:gZ X.K fd ps ds)(hd:bA dvs ds)(hx:qT CX X E)
 (ha:PA X (e::es) t) (hdb:(x==("__debug__" : Str))=false:=by decide) (he:qo (e::es) X.env=(false,eval e X.env)::qo es X.env:=by rfl) (hpl:(backTo pos (qo es X.env)).any (·.1)=false:=by rfl) :
 PE X (.Call (.Name x p) (e::es) [] pos) (aMC C sp dvs E t):=by intro aB s σ H Q I h;refine xy (aA1 I hg hm ?_ hdb);refine yGw (h₀:=X.base) I.ok.mod.kin M.kp (bD (ha pos aB s σ H _ I h) λ us s1 ⟨vs,H1,I1,r,q⟩=>⟨I1.kIn,?_⟩) he hpl;exact aQh M F hr hb hd hx I1 r q
structure KBinds(K:FrG)(fd:jw)(ps ks:List Str)(g:List qj->List qj->List qj)(gV:List V->List V->List V):Prop where
 to:∀ (s:qv) (us ws:List qj),K.In s.heap->(g us ws).length=↑ps->BindsTo s fd ⟨us,ks.zip ws⟩ (ps.zip (g us ws))
 rel:∀ {vs:List V}{us:List qj}{zs:List V}{ws:List qj},bA vs us->bA zs ws->bA (gV vs zs) (g us ws)
structure FnScope(N P:List Str)(sc:zw):Prop where
 kind:sc.kind=.function
 co:sc.isCoroutine=false
 gen:sc.isGenerator=false
 nd:N.Nodup
 pre:N.take P.length=P
 par:∀ x∈P,sc.names.lookup x=qz .local\/sc.names.lookup x=qz .cell
 nofree:∀ y∈sc.names,y.2≠.free
def aHw{kindOf:Str->Option jy}:∀ {binds:List (Str×qj)}{m:Str->Option qj},(∀ v,(x,v) ∉ binds)->bindL kindOf binds m x=m x
 |[],_,_=>rfl
 |(n,v)::r,m,h=>by
   unfold bindL;rw[aHw λ w hw=>h w (xAf _ hw)];split
   ·have:x≠n:=by rintro rfl;exact h v xAc
    simp[this]
   ·rfl
def aHX{kindOf:Str->Option jy}:∀ {binds:List (Str×qj)}{m:Str->Option qj},(∀ v,(x,v) ∉ binds)->bindC kindOf binds m x=m x
 |[],_,_=>rfl
 |(n,v)::r,m,h=>by
   unfold bindC;rw[aHX λ w hw=>h w (xAf _ hw)];split
   ·rfl
   ·have:x≠n:=by rintro rfl;exact h v xAc
    simp[this]
def aH1{kindOf:Str->Option jy}:∀ {P:List Str}{vs:List qj}{i:Nat}{m:Str->Option qj},P.Nodup->P[i]?=qz x->vs[i]?=qz v->kindOf x=qz .local ->
 bindL kindOf (P.zip vs) m x=qz v
 |[],_,_,_,_,h,_,_=>by simp at h|_::_,[],_,_,_,_,h,_=>by simp at h
 |p::P,w::vs,0,m,nd,h1,h2,hk=>by
   simp at h1 h2;subst h1;subst h2;show bindL kindOf ((p,w)::P.zip vs) m p=_;unfold bindL;rw[aHw λ v hv=>(List.nodup_cons.mp nd).1 (yGj hv).1,if_pos hk];simp
 |p::P,w::vs,i+1,m,nd,h1,h2,hk=>by
   show bindL kindOf ((p,w)::P.zip vs) m x=_;unfold bindL;exact aH1 (i:=i) (List.nodup_cons.mp nd).2 (h1:) (h2:) hk
def aHA{kindOf:Str->Option jy}:∀ {P:List Str}{vs:List qj}{i:Nat}{m:Str->Option qj},P.Nodup->P[i]?=qz x->vs[i]?=qz v->kindOf x≠qz .local ->
 bindC kindOf (P.zip vs) m x=qz v
 |[],_,_,_,_,h,_,_=>by simp at h|_::_,[],_,_,_,_,h,_=>by simp at h
 |p::P,w::vs,0,m,nd,h1,h2,hk=>by
   simp at h1 h2;subst h1;subst h2;show bindC kindOf ((p,w)::P.zip vs) m p=_;unfold bindC;rw[aHX λ v hv=>(List.nodup_cons.mp nd).1 (yGj hv).1,if_neg hk];simp
 |p::P,w::vs,i+1,m,nd,h1,h2,hk=>by
   show bindC kindOf ((p,w)::P.zip vs) m x=_;unfold bindC;exact aHA (i:=i) (List.nodup_cons.mp nd).2 (h1:) (h2:) hk
def start(N:List Str)(vs:List V):St:=vs.map qz++yAe (N.length-↑vs) qx
def tY(CX:lU)(P:zx)(w:zj)(K:FrG)(mg:Str->Option qj)(base:Heap)(N:List Str)(qual:Str)(scope:zw)(f:qw)(cd:qj)(A:zv)(outer:List Env)(s:qv)(H:Hp)(E:XK):Cx where
 prog:=P
 w:=w
 K:=K
 mg:=mg
 base:=base
 A:=A.deeper (envOfC qual scope s.heap.objs.size f cd)
 N:=N
 s₀:=s
 H₀:=H
 env:=envOfC qual scope s.heap.objs.size f cd
 outer:=outer
 stack:=envOfC qual scope s.heap.objs.size f cd::outer
 ex:=[]
 calm:=true
 fn:=λ _=>true
 pn:=[]
 xe:=λ e s'=>qu (model P w) (A.deeper (envOfC qual scope s.heap.objs.size f cd)) (leaving (envOfC qual scope s.heap.objs.size f cd) e) (λ _ s''=>CX outer H s E e s'') (λ e' s''=>CX outer H s E e' s'') s'
def aIK{sc:zw}(h:sc.names.lookup x=qz .cell):∃ c,(cellsFrom n sc.names []).lookup x=qz c:=by have q:=PySem.W.cellsFrom_some sc.names n [] (.inl h);exact Option.isSome_iff_exists.mp q
def aPZ{mg:Str->Option qj}{A:zv}{E:XK}{vs:List V}(S:FnScope N ps scope)(hd:A.handled=qx)(e0:Env0 P w K mg base A outer s H)(hl:↑vs=↑ps)(r:bA vs us)(x:InCallC s s.heap.objs.size (bindL (envOfC qual scope s.heap.objs.size f cd).kindOf (ps.zip us) λ _=>qx) (cellsFrom (s.heap.objs.size+1) scope.names []) (bindC (envOfC qual scope s.heap.objs.size f cd).kindOf (ps.zip us) λ _=>qx) s1) :
 Inv (tY CX P w K mg base N qual scope f cd A outer s H E) [] (start N vs) H s1:=by
 have hpl:↑ps<=N.length:=by have:=congrArg yFb S.pre;rw[yBk] at this;omega
 let(h1,tk,rfl,hk):=x.done;have noA:∀ b:qw,b ∉ (tY CX P w K mg base N qual scope f cd A outer s H E).ex:=λ b z=>absurd (show b∈([]:List qw) from z) (by simp)
 refine⟨⟨e0.mod,S.kind,rfl,rfl,yAb _,λ y z c h1 h2=>?_,λ y hy=>?_,λ y c _ h=>?_,λ _=>hd,Around.frames_deeper e0.frames,.inr ⟨rfl,rfl⟩,λ b z=>absurd z (noA b),e0.bs,e0.bsz,λ b _ _=>noA b,λ b z=>absurd z (noA b),e0.funs,e0.frf⟩,
  rfl,e0.bare,Un.kept hk,⟨_,x.toInCall.ns,λ i y v h1 h2 h3=>?_⟩,λ y c h=>⟨_,x.cell y c h⟩,e0.hok.fresh (yAb _),λ y c h=>?_,λ p hp=>absurd (show p∈([]:List (qw×Obj)) from hp) (by simp),e0.hok.kept hk,?_⟩
 ·exact name_of_addr x.apart (PySem.mem_of_lookup h1) (PySem.mem_of_lookup h2)
 ·have hy:scope.names.lookup y=qz .cell\/scope.names.lookup y=qz .free:=hy;rcases hy with hy|hy
  ·exact aIK hy
  ·exact absurd rfl (S.nofree _ (PySem.mem_of_lookup hy))
 ·exact yDz (x.above y c (PySem.mem_of_lookup h))
 ·have hi:i<↑vs:=by
   unfold start at h2;by_cases hi:i<↑vs
   ·exact hi
   ·rw[yAf (hi:)] at h2;rw[yFh] at h2;split at h2<;>cases h2
  have ha:vs[i]?=qz v:=by
   unfold start at h2;rw[xAm (hi:),yAd] at h2;cases e:vs[i]? with
   |none=>rw[e] at h2;cases h2|some a=>rw[e] at h2;cases h2;rfl
  let(u,hu,rv):=r.get ha;have hp:ps[i]?=qz y:=by
   rw[<- S.pre,yDt (!_)];exact h1
  have ndP:ps.Nodup:=by rw[<- S.pre];exact S.nd.sublist (List.take_sublist _ _)
  refine⟨u,rv,?_⟩;rcases S.par y (xAk hp) with k|k
  ·exact .inl ⟨k,aH1 ndP hp hu k⟩
  ·let(c,e):=aIK (n:=s.heap.objs.size+1) k;refine .inr ⟨.inl k,c,e,?_⟩;have q:=x.cell y c e;rw[aHA ndP hp hu (by show scope.names.lookup y≠_;rw[k];decide)] at q;exact q
 ·exact e0.hok.fresh (yDz (x.above y c (PySem.mem_of_lookup h)))
 ·unfold start;show _=N.length;rw[yAo,yAc,yEi];omega
def aWV{mg:Str->Option qj}{dV kV:qj}(lk:K.lookup f=qz ⟨oc,od,.func (yBx name qual params body scope dV kV doc pm an cdv ct),osl⟩)(hcd:yDa K cdv qual=true)(S:FnScope N ps scope)(len:∀ vs H Q E,sp vs H Q E->↑vs=↑ps)(hbody:∀ (A:zv) (outer:List Env) (s:qv) (H:Hp) (vs:List V) (Q:VK) (E:XK),Room k (A.deeper (envOfC qual scope s.heap.objs.size f cdv))->sp vs H Q E ->
   ∃ t,dI (tY CX P w K mg base N qual scope f cdv A outer s H E) body t/\t {nx:=λ _ H'=>Q .non H',rt:=Q } (start N vs) H) :
 FnOk P w K mg base CX (k+1) f (yBx name qual params body scope dV kV doc pm an cdv ct) ps sp:=by
 refine⟨len,λ A outer s H args us vs Q E hr e0 hb r hsp=>?_⟩;have hl:=len _ _ _ _ hsp;have KX:K.In s.heap:=e0.mod.kin.keeps λ b o e=>(e0.bs b o e).1
 have lim:s.heap.NoLimit:=e0.mod.nolimit.keeps λ b o e=>(e0.bs b o e).1
 have hkind:∀ y∈ps.zip us,scope.names.lookup y.1=qz .local\/(scope.names.lookup y.1=qz .cell/\((cellsFrom (s.heap.objs.size+1) scope.names []).lookup y.1).isSome=true):=λ aX hy=>by
  let(n,v):=aX;rcases S.par n (yGj hy).1 with q|q
  ·exact .inl q
  ·exact .inr ⟨q,PySem.W.cellsFrom_some _ _ _ (.inl q)⟩
 refine codeAny_call_function hr.depth (KX _ _ lk) rfl S.co S.gen rfl (PySem.W.codeRec_of KX hcd) (hb _ _ _ _ ?_);refine wpAny_newFunctionEnv_cells S.kind hkind λ env he s1 x=>?_
 subst he;refine⟨lim.keeps x.toInCall.keep,codeAny_func ?_⟩;let(t,ht,hq):=hbody A outer s H vs Q E (hr.deeper _) hsp;have I:Inv (tY CX P w K mg base N qual scope f cdv A outer s H E) [] (start N vs) H s1:=aPZ S hr.hd e0 hl r x;refine wpAny_mono (ht [] s1 (start N vs) H _ I hq) (λ fl s' hs=>?_) λ e s' hs=>hs
 have bZ:∀ {σ':St}{H':Hp}{v:V}{u:qj},Inv (tY CX P w K mg base N qual scope f cdv A outer s H E) [] σ' H' s'->aU v u->Q v H'->CE outer P w H s Q u s':=
  λ {σ' H' v u} J rv q=>⟨v,H',J.os,J.bare,J.base,J.hok,rv,q⟩
 cases fl with
 |ret u=>
   let(v,σ',H',J,rv,q):=hs;exact bZ J rv q
 |next=>
   let(σ',H',J,q):=hs;exact bZ (v:=V.non) (u:=Value.none) J rfl q
 |brk=>
   let(_,_,_,q):=hs;exact False.elim q
 |cont=>
   let(_,_,_,q):=hs;exact False.elim q
end L2
namespace L2
open PySem PySem.Spec PyProof.Rows
def tCB(r:List V->Hp->VK->Prop)(t:TA):TE:=λ σ H Q=>t σ H λ vs H1=>r vs H1 Q
def aAO{X:Cx}{x:Str}{p pos:Pos}{e:qy}{es:List qy}{t:TA}{id:String}{r:List V -> Hp -> VK -> Prop}(hc:gF X (.builtin id) r)(hg:Gl X x)(hm:X.mg x=qx)(hv:xu x=qz (.builtin id))(ha:PA X (e::es) t)(hn:x ≠ "__name__":=by decide)(hdb:(x==("__debug__" : Str))=false:=by decide)
 (he:qo (e::es) X.env=(false,eval e X.env)::qo es X.env:=by rfl) (hpl:(backTo pos (qo es X.env)).any (·.1)=false:=by rfl):PE X (.Call (.Name x p) (e::es) [] pos) (tCB r t):=by intro aB s σ H Q I h;refine xy (nE I hg hm hv ?_ hn hdb);exact PyProof.Rows.callWith_builtin1 (bD (ha pos aB s σ H _ I h) λ us s1 ⟨vs,H1,I1,r1,q1⟩=>hc aB s1 σ H1 vs us Q I1 r1 q1) he hpl
def aHn{X:Cx}{x:Str}{p pos:Pos}{e:qy}{es:List qy}{t:TA}{T:String}{r:List V -> Hp -> VK -> Prop}(hc:gF X (.type T) r)(hg:Gl X x)(hm:X.mg x=qx)(hv:xu x=qz (.type T))(ha:PA X (e::es) t)(hn:x ≠ "__name__":=by decide)(hdb:(x==("__debug__" : Str))=false:=by decide)
 (he:qo (e::es) X.env=(false,eval e X.env)::qo es X.env:=by rfl) (hpl:(backTo pos (qo es X.env)).any (·.1)=false:=by rfl):PE X (.Call (.Name x p) (e::es) [] pos) (tCB r t):=by intro aB s σ H Q I h;refine xy (nE I hg hm hv ?_ hn hdb);exact yBe (bD (ha pos aB s σ H _ I h) λ us s1 ⟨vs,H1,I1,r1,q1⟩=>hc aB s1 σ H1 vs us Q I1 r1 q1) he hpl
end L2
namespace HT
open PySem PyProof.Rows
section
open PySem.SeqAt
open PySem.AutoSeq1 (wpAny_loadPart')
open PySem.MeetsSeq PySem.MeetsSeq2 PySem.MeetsSeq3
end
def cat_tup{E:qj -> qv -> Prop}{s:qv}{vs ws:List qj}{Q:qj->qv->Prop}(ht:IsTup s.heap t vs.toArray)(hb:IsTup s.heap b ws.toArray)(hv:vs≠[])(h1:ws=[]->Q (.ref t) s)(h2:ws≠[]->Q (.ref s.heap.objs.size) {s with heap:=s.heap.push {cls:=.type "tuple",data:=.seq (vs++ws).toArray } })(hsz:↑vs+↑ws<=qk):qu (model prog w) A (zk .Add (.ref t) (.ref b)) Q E s:=by
 let((cls,dd,data,sl),ho,hc,n,hd):=id ht;let((cls2,dd2,data2,sl2),ho2,hc2,n2,hd2):=id hb;simp only at hc hd hc2 hd2;subst hc hd hc2 hd2;have e:vs.toArray++ws.toArray=(vs++ws).toArray:=by simp
 by_cases hw:ws=[]
 ·exact concat_meets ⟨_,ho,rfl⟩ ⟨_,ho2,rfl⟩ noFill_tuple_add seq_tuple_add yFs yFi (yFf _ _)
   (tuple_addW1 t b vs.toArray ws.toArray n n2 dd dd2 sl sl2 (hv:) (by simp[hw])) ⟨ho,ho2,h1 hw⟩
 ·refine concat_meets ⟨_,ho,rfl⟩ ⟨_,ho2,rfl⟩ noFill_tuple_add seq_tuple_add yFs yFi (yFf _ _)
   (tuple_addW2 t b vs.toArray ws.toArray n n2 dd dd2 sl sl2 (hv:) (hw:) (by rw[yAi,yAi];exact hsz)) ⟨ho,ho2,?_⟩
  rw[e];exact h2 hw
def sIx(n d:Nat):Option Int->Nat
 |none=>d
 |some v=>if v<0 then (v+(n:Int)).toNat else min v.toNat n
def sIx_none(n d:Nat):sIx n d qx=d:=rfl
def sIx_nat(n d k:Nat):sIx n d (qz (k:Int))=min k n:=by show(if (k:Int)<0 then ((k:Int)+(n:Int)).toNat else min (k:Int).toNat n)=min k n;rw[if_neg (!_),yAs]
def aUi(n d:Nat)(hd:d<=n)(o:Option Int):sIx n d o<=n:=by
 cases o with
 |none=>exact hd
 |some v=>
   show(if v<0 then (v+(n:Int)).toNat else min v.toNat n)<=n;by_cases hv:v<0
   ·rw[if_pos hv];omega
   ·rw[if_neg hv];exact yEx _ _
def aJB(v:Int)(n d:Nat):(if v<0 then max (v+(n:Int)) 0 else min v (n:Int))=((sIx n d (qz v):Nat):Int):=by
 show(if v<0 then max (v+(n:Int)) 0 else min v (n:Int))=(((if v<0 then (v+(n:Int)).toNat else min v.toNat n):Nat):Int);by_cases hv:v<0
 ·simp only[if_pos hv];omega
 ·simp only[if_neg hv];omega
def aOK(lo hi:Option Int)(n:Nat):yEt lo hi 1 (n:Int)=(((sIx n 0 lo:Nat):Int),((sIx n n hi:Nat):Int)):=by
 have h1:¬ ((1:Int)<0):=by omega
 unfold yEt;simp only[h1,if_false];refine Prod.ext ?_ ?_
 ·cases lo with|none=>rfl|some v=>exact aJB v n 0
 ·cases hi with|none=>rfl|some v=>exact aJB v n n
def aOB(i j:Nat):yDq (i:Int) (j:Int) 1=j-i:=by
 unfold yDq;have h1:(1:Int)>0:=by omega
 simp only[h1,if_true,Int.ediv_one];split<;>omega
def aG5{E:qj -> qv -> Prop}{Q:Option Int->qv->Prop}(p:IsPart v o)(h:Q o s):qu (model prog w) A (Builtin.Slice.slicePartIndex v) Q E s:=by
 cases p with
 |none=>exact slicePart_none h|int i t=>exact slicePart_int h
def sliceApplied_gen{E:qj -> qv -> Prop}{s:qv}{lo hi:Option Int}{Q:Int×Int×Nat->qv->Prop}(hs:s.heap.IsSliceOf sl vl vu .none)(pl:IsPart vl lo)(pu:IsPart vu hi)(h:Q (((sIx n 0 lo:Nat):Int),1,sIx n n hi-sIx n 0 lo) s):qu (model prog w) A (yGp (.ref sl) (pure (n:Int))) Q E s:=by let(os,hos,hcs,hds):=id hs;unfold yGp Builtin.Slice.sliceFields;refine wB (wB (xq hos hds (x:=vl) rfl (wB (xq hos hds (x:=vu) rfl (wB (xq hos hds (x:=.none) rfl (wP ?_)))))));refine wB (slicePart_none ?_);show qu _ _ (if ((1:Int)==0)=true then _ else _) _ _ s;rw[if_neg (·)];refine wB (aG5 pl (wB (aG5 pu (wB (wP ?_)))));show qu _ _ (match yEt lo hi 1 (n:Int) with|(lo,hi)=>pure (lo,(1:Int),yDq lo hi 1)) _ _ s;rw[aOK lo hi n];show qu _ _ (pure (((sIx n 0 lo:Nat):Int),(1:Int),yDq ((sIx n 0 lo:Nat):Int) ((sIx n n hi:Nat):Int) 1)) _ _ s;rw[aOB];exact wP h
def aQq(xs:Array qj)(i k:Nat):((yBm k).filterMap λ(m:Nat)=>xs[((i:Int)+(m:Int)*1).toNat]?).toArray=((xs.toList.drop i).take k).toArray:=by
 have e:(λ(m:Nat)=>xs[((i:Int)+(m:Int)*1).toNat]?)=λ m=>xs[i+m]?:=by
  funext m;have:((i:Int)+(m:Int)*1).toNat=i+m:=by omega
  rw[this]
 rw[e];have:=pick_run xs i k;rw[List.filterMap_map] at this;have e2:((λ x=>xs[x]?) ∘ λ x=>i+x)=λ m=>xs[i+m]?:=rfl
 rw[e2] at this;rw[this]
def getItem_tuple_cut{E:qj -> qv -> Prop}{s:qv}{lo hi:Option Int}{Q:qj->qv->Prop}(ht:IsTup s.heap t aZ)(hs:s.heap.IsSliceOf sl vl vu .none)(pl:IsPart vl lo)(pu:IsPart vu hi)(hw:¬ (sIx aZ.size 0 lo=0/\sIx aZ.size aZ.size hi=aZ.size))(h:Q (.ref s.heap.objs.size) {s with heap:=s.heap.push {cls:=.type "tuple",data:=.seq ((aZ.toList.drop (sIx aZ.size 0 lo)).take (sIx aZ.size aZ.size hi-sIx aZ.size 0 lo)).toArray } })(hsz:aZ.size<=qk):qu (model prog w) A (getItem (.ref t) (.ref sl)) Q E s:=by
 have htake:sizeOk (.seq ((aZ.toList.drop (sIx aZ.size 0 lo)).take (sIx aZ.size aZ.size hi-sIx aZ.size 0 lo)).toArray):=by
  show((aZ.toList.drop (sIx aZ.size 0 lo)).take (sIx aZ.size aZ.size hi-sIx aZ.size 0 lo)).toArray.size<=qk;rw[yAi,yBk,yHn,yEb];omega
 have hj:sIx aZ.size aZ.size hi<=aZ.size:=aUi _ _ (yAb _) hi;let(os,hos,hcs,hds):=id hs;have hTs:s.TypeIs (.ref sl) "slice":=⟨os,hos,hcs⟩;unfold getItem
 try with_reducible refine zu ?_
 first|refine wB (wP ?_)|skip
 refine wB (wpAny_sequenceKey ht.typeIs (·) ?_)
 refine wB (wpAny_callSpecial?_slot (name:=Str.ofString "__getitem__") ht.typeIs yCj
  (jo yCj ht.typeIs entry_tuple_getitem ?_ (args_tuple_getitem _ _)))
 show qu _ _ (yGq (.ref t) >>= _) _ _ s;refine wB (tupleItemsOf_ ht ?_);refine wB (wpAny_typeOf hTs ?_);rw[if_pos (·)];refine wB (sliceApplied_gen hs pl pu ?_);have hno:¬ ((((sIx aZ.size 0 lo:Nat):Int)==0&&(1:Int)==1&&(sIx aZ.size aZ.size hi-sIx aZ.size 0 lo)==aZ.size)=true):=by
  intro q;rw[yAy,yAy] at q;have q1:((sIx aZ.size 0 lo:Nat):Int)=0:=eq_of_beq q.1.1;have q2:sIx aZ.size aZ.size hi-sIx aZ.size 0 lo=aZ.size:=eq_of_beq q.2;exact hw ⟨by omega,by omega⟩
 show qu _ _ (if (((sIx aZ.size 0 lo:Nat):Int)==0&&(1:Int)==1&&(sIx aZ.size aZ.size hi-sIx aZ.size 0 lo)==aZ.size)=true then _ else _) _ _ s;rw[if_neg hno,aQq]
 first
  |exact wB (m:=yCq _) (xj (wP ⟨_,rfl,wP h⟩) htake)
  |exact wB (m:=yCq _) (xj (wB (wP (wP ⟨_,rfl,wP h⟩))) htake)
  |exact wB (wB (m:=yCq _) (xj (wP (wP ⟨_,rfl,wP h⟩)) htake))
  |exact wB (wB (m:=yCq _) (xj (wP ⟨_,rfl,wP h⟩) htake))
end HT
namespace L2
open PySem PySem.Spec PyProof.Rows
abbrev TO:=St->Hp->(Option Int->Hp->Prop)->Prop
def PO(X:Cx)(e:Option qy)(t:TO):Prop:=
 ∀ (aB:List (qw×Obj)) (s:qv) (σ:St) (H:Hp) (Q:Option Int->Hp->Prop),Inv X aB σ H s->t σ H Q ->
  qu (model X.prog X.w) X.A (evalPart e X.env) (λ u s'=>∃ o H',Inv X aB σ H' s'/\IsPart u o/\Q o H') X.xe s
def aSC:TO:=λ _ H Q=>Q qx H
def aYC(t:TE):TO:=λ σ H Q=>t σ H λ x H1=>∃ i,x=.int i/\Q (qz i) H1
def aO3{ns:List Int}:∀ {us:List qj},bA (ns.map V.int) us->IntsAre us ns:=by
 induction ns with
 |nil=>intro us r;rw[yDn] at r;cases r;exact .nil
 |cons n ns ih=>
   intro us r;rw[yAh] at r;cases r with
   |cons r1 r2=>
     let(t,e):=r1;subst e;exact .cons n t (ih r2)
def aRS:PO X qx aSC:=by intro aB s σ H Q I h;rw[evalPart_none];exact wP ⟨qx,H,I,.none,h⟩
def aSN{te:TE}(h:PE X e te):PO X (qz e) (aYC te):=by
 intro aB s σ H Q I hw;rw[evalPart_some];refine bD (h aB s σ H _ I hw) λ u s1 hPq30=>?_
 let(x,H1,I1,r1,q1):=hPq30;let(i,rfl,q):=q1;let(t,rfl):=r1;exact⟨qz i,H1,I1,.int i t,q⟩
def SlR(X:Cx)(r:V->Option Int->Option Int->Hp->VK->Prop):Prop:=
 ∀ (aB:List (qw×Obj)) (s:qv) (σ:St) (H:Hp) (x:V) (v vl vu:qj) (lo hi:Option Int) (sl:qw) (Q:VK),Inv X aB σ H s->aU x v->s.heap.IsSliceOf sl vl vu .none->IsPart vl lo->IsPart vu hi->r x lo hi H Q ->
  ∃ T id,typeLookup (.type T) "__getitem__" = pure (qz (.builtin id))/\s.TypeIs v T/\qu (model X.prog X.w) X.A (getItem v (.ref sl)) (EP X aB σ Q) X.xe s
def tSl(r:V->Option Int->Option Int->Hp->VK->Prop)(te:TE)(tl th:TO):TE:=λ σ H Q=>te σ H λ x H1=>tl σ H1 λ l H2=>th σ H2 λ u H3=>r x l u H3 Q
def aIB{te:TE}{lo hi:Option qy}{r:V->Option Int->Option Int->Hp->VK->Prop}(hr:SlR X r)(he:PE X e te)(hl:PO X lo tl)(hu:PO X hi th):PE X (.Subscript e (.Slice lo hi qx p2) pos) (tSl r te tl th):=by
 intro aB s σ H Q I h;refine Subscript_ (bD (he aB s σ H _ I h) λ v s1 hPq31=>?_);let(x,H1,I1,r1,q1):=hPq31;refine wpAny_Slice (bD (hl aB s1 σ H1 _ I1 q1) λ vl s2 ⟨l,H2,I2,pl,q2⟩=>bD (hu aB s2 σ H2 _ I2 q2) λ vu s3 hPq32=>?_);let(u,H3,I3,pu,q3):=hPq32;rw[evalPart_none];refine wP ?_;have I4:Inv X aB σ H3 {s3 with heap:=s3.heap.push {cls:=.type "slice",data:=.fields #[vl,vu,.none] } }:=I3.kept (t':=s3.toks) λ b ob q=>hpS _ q
 let(T,id,hT,ht,hg):=hr aB {s3 with heap:=s3.heap.push {cls:=.type "slice",data:=.fields #[vl,vu,.none] } } σ H3 x v vl vu l u s3.heap.objs.size Q I4 r1 (Heap.IsSliceOf.new ..) pl pu q3;show qu (model X.prog X.w) X.A (subscriptTail e (.Slice lo hi qx p2) v (.ref s3.heap.objs.size)) (EP X aB σ Q) X.xe {s3 with heap:=s3.heap.push {cls:=.type "slice",data:=.fields #[vl,vu,.none] } };exact tail_any (ops:=[.ref s3.heap.objs.size,v]) ht hT hg (by with_unfolding_all rfl)
def nT(xs:List V)(lo hi:Option Int):List V:=(xs.drop (HT.sIx ↑xs 0 lo)).take (HT.sIx ↑xs ↑xs hi-HT.sIx ↑xs 0 lo)
def aGM(xs:List V)(lo hi:Option Int):(nT xs lo hi).length<=↑xs:=by unfold nT;rw[yBk,yHn];omega
def aY5(K:FrG):V->Option Int->Option Int->Hp->VK->Prop:=λ x lo hi H Q=>∃ a xs,x=.ref a/\cH K H a xs /\
 ¬ (HT.sIx ↑xs 0 lo=0/\HT.sIx ↑xs ↑xs hi=↑xs)/\∀ p,H p=qx->Q (.ref p) (bF H p (.tup (nT xs lo hi)))
def aUU:SlR X (aY5 X.K):=by
 intro aB s σ H x v vl vu lo hi sl Q I rx hs pl pu h;let(a,xs,rfl,hx,hw,q):=h;cases rx;let(aG,r,ht,hz):=I.tuple hx;have cK:aG.toArray.size=↑xs:=by rw[yAi];exact r.length.symm
 refine⟨"tuple",_,PyProof.Rows.slot_tuple_getitem.lookup,ht.typeIs,?_⟩;refine HT.getItem_tuple_cut ht hs pl pu (by rw[cK];exact hw) ?_ (by rw[cK];exact hz);rw[cK];refine⟨.ref s.heap.objs.size,_,I.laid (t':=s.toks) (o:=.tup (nT xs lo hi)) (λ b ob q=>hpS _ q) (yAb _) ?_,rfl,q _ (I.hok.fresh (yAb _))⟩;exact⟨xAh (aGM xs lo hi) hz,_,(r.drop (HT.sIx ↑xs 0 lo)).take (HT.sIx ↑xs ↑xs hi-HT.sIx ↑xs 0 lo),IsTup.new _ _⟩
def aYz(K:FrG):R2:=λ x y H Q=>∃ a b xs ys,x=.ref a/\y=.ref b/\cH K H a xs/\cH K H b ys/\xs≠[]/\↑xs+↑ys<=qk /\
 (ys=[]->Q (.ref a) H)/\(ys≠[]->∀ p,H p=qx->Q (.ref p) (bF H p (.tup (xs++ys))))
def bA.nil_iff{xs:List V}(r:bA xs us):us=[] ↔ xs=[]:=by
 cases r with
 |nil=>simp|cons _ _=>simp
def aSr:cY X (zk .Add) (aYz X.K):=by intro aB s σ H x y v u Q I rx ry h;let(a,b,xs,ys,rfl,rfl,ha,hb,hx,hz,q1,q2):=h;cases rx;cases ry;let(aG,r1,p1,_):=I.tuple ha;let(uU,r2,p2,_):=I.tuple hb;refine HT.cat_tup p1 p2 (λ z=>hx (r1.nil_iff.mp z)) (λ z=>⟨.ref a,H,I,rfl,q1 (r2.nil_iff.mp z)⟩) (λ z=>?_) (by rw[<- r1.length,<- r2.length];exact hz);refine⟨.ref s.heap.objs.size,_,I.laid (t':=s.toks) (o:=.tup (xs++ys)) (λ b ob q=>hpS _ q) (yAb _) ?_,rfl,q2 (λ w=>z (r2.nil_iff.mpr w)) _ (I.hok.fresh (yAb _))⟩;exact⟨by rw[yAo];exact hz,_,r1.append r2,IsTup.new _ _⟩
end L2
namespace L2
open PySem PySem.Spec PyProof.Rows
def jH(n:Nat)(i:Int):Option Nat:=if 0<=i then (if i<n then qz i.toNat else qx) else if -(n:Int)<=i then qz (i+n).toNat else qx
def jU{α:Type}(xs:List α)(i:Int):Option α:=(jH ↑xs i).bind λ j=>xs[j]?
def aJA{i:Int}(h:jH n i=qz j):seqIndex? i n=qz j/\j<n /\ -(n:Int)<=i/\i<n:=by
 unfold jH at h;by_cases h0:0<=i
 ·rw[if_pos h0] at h;by_cases h1:i<n
  ·rw[if_pos h1] at h;have e:i.toNat=j:=Option.some.inj h;exact⟨by rw[seqIndex_of h0 h1,e],by omega,by omega,h1⟩
  ·rw[if_neg h1] at h;cases h
 ·rw[if_neg h0] at h;by_cases h1 : -(n:Int)<=i
  ·rw[if_pos h1] at h;have e:(i+n).toNat=j:=Option.some.inj h;exact⟨by rw[seqIndex_neg (!_) h1,e],by omega,h1,by omega⟩
  ·rw[if_neg h1] at h;cases h
def aD0{α:Type}{xs:List α}{i:Int}{v:α}(h:jU xs i=qz v):∃ j,seqIndex? i ↑xs=qz j/\xs[j]?=qz v/\j<↑xs /\ -(↑xs:Int)<=i/\i<↑xs:=by
 unfold jU at h;cases e:jH ↑xs i with
 |none=>rw[e] at h;cases h
 |some j=>
   rw[e] at h;let(h1,h2,h3,h4):=aJA e;exact⟨j,h1,h,h2,h3,h4⟩
def aSs{α:Type}{xs:List α}{j:Nat}{v:α}(h:xs[j]?=qz v):jU xs (j:Int)=qz v:=by
 have hj:j<↑xs:=(gIm h).1;have e:jH ↑xs (j:Int)=qz j:=by
  unfold jH;rw[if_pos (!_),if_pos (!_)];simp
 unfold jU;rw[e];exact h
def qL(b:qy):Prop:=∀ o i,subscripted b false o i=operate [o,i] (getItem o i)
def uO(X:Cx)(r:R2):Prop:=
 ∀ (value iS:qy) (aB:List (qw×Obj)) (s:qv) (σ:St) (H:Hp) (x y:V) (v u:qj) (Q:VK),Inv X aB σ H s->aU x v->aU y u->r x y H Q ->
  subscripted iS false v u=operate [v,u] (getItem v u)->qu (model X.prog X.w) X.A (subscriptTail value iS v u) (EP X aB σ Q) X.xe s
def MtR(X:Cx)(id:String)(r:V->List V->Hp->VK->Prop):Prop:=
 ∀ (aB:List (qw×Obj)) (s:qv) (σ:St) (H:Hp) (x:V) (xs:List V) (v:qj) (us:List qj) (Q:VK),Inv X aB σ H s->aU x v->bA xs us->r x xs H Q ->
  qu (model X.prog X.w) X.A (call (.builtin id) (v::us)) (EP X aB σ Q) X.xe s
def aE9{ta tb:TE}{r:R2}(hr:uO X r)(ha:PE X a ta)(hb:PE X b tb)(hs:qL b):PE X (.Subscript a b pos) (tOp r ta tb):=by intro aB s σ H Q I h;exact Subscript_ (aFD ha hb I h λ v u s2 x y H2 I2 rx ry q=>hr a b aB s2 σ H2 x y v u Q I2 rx ry q (hs _ _))
def aY0(K:FrG):R2:=λ x y H Q=>∃ p xs i v,x=.ref p/\y=.int i/\bX K H p xs/\jU xs i=qz v/\Q v H
def aYP(K:FrG):R2:=λ x y H Q=>∃ p xs i v,x=.ref p/\y=.int i/\cH K H p xs/\jU xs i=qz v/\Q v H
def aZE:R2:=λ x y H Q=>∃ z i c,x=.str z/\y=.int i/\z.length<=qk/\jU z.cps.toList i=qz c/\Q (.str ⟨#[c]⟩) H
def aRR:uO X (aY0 X.K):=by
 intro value iS aB s σ H x y v u Q I rx ry h hs;let(p,xs,i,z,rfl,rfl,hq,he,q):=h;cases rx;let(t,rfl):=ry;let(aG,r,pl,hz):=I.list hq;let(j,h1,h2,h3,h4,h5):=aD0 he;let(w,ew,rw'):=r.get h2;have hl:=r.length;have hn:=nB;have bZ:EP X aB σ Q w s:=⟨z,H,I,rw',q⟩;by_cases h0:0<=i
 ·have hj:i.toNat=j:=by
   rw[seqIndex_of h0 h5] at h1;exact Option.some.inj h1
  exact item_listR pl.isList h0 (!_) (by rw[hj];simpa using ew) bZ hs
 ·have hj:(i+(aG.toArray.size:Int)).toNat=j:=by
   rw[seqIndex_neg (!_) h4] at h1;rw[yAi,<- hl];exact Option.some.inj h1
  exact subscriptTail_builtinR (x:=w) pl.isList.typeIs slot_list_getitem.lookup
   (wpAny_getItem_list_neg (Q:=λ r s'=>r=w/\EP X aB σ Q r s') pl.isList (!_) (by rw[yAi]<;>omega) (!_) (by rw[hj];simpa using ew) ⟨rfl,bZ⟩) hs
def aKd:uO X (aYP X.K):=by
 intro value iS aB s σ H x y v u Q I rx ry h hs;let(p,xs,i,z,rfl,rfl,hq,he,q):=h;cases rx;let(t,rfl):=ry;let(aG,r,pl,hz):=I.tuple hq;let(j,h1,h2,h3,h4,h5):=aD0 he;let(w,ew,rw'):=r.get h2;have hl:=r.length;have hn:=nB;have bZ:EP X aB σ Q w s:=⟨z,H,I,rw',q⟩;exact subscriptTail_builtinR (x:=w) pl.typeIs slot_tuple_getitem.lookup
  (getItem_tuple (j:=j) (Q:=λ r s'=>r=w/\EP X aB σ Q r s') pl (!_) (!_) (by rw[yAi,<- hl];exact h1) (ew:) ⟨rfl,bZ⟩) hs
def aUV:uO X aZE:=by
 intro value iS aB s σ H x y v u Q I rx ry h hs;let(z,i,c,rfl,rfl,hz,he,q):=h;let(t,rfl):=rx;let(t',rfl):=ry;let(j,h1,h2,h3,h4,h5):=aD0 he;have hl:z.cps.toList.length=z.length:=by simp[Str.length]
 rw[hl] at h1 h4 h5;have hn:=nB;exact tail_any (typeIs_str s z t) slot_str_getitem.lookup (getItem_str (c:=c) (by
  have e1:decide (i < -(2^63:Int))=false:=dqF (!_);have e2:decide (i ≥ 2^63)=false:=dqF (!_)
  rw[e1,e2,yFj]) (by rw[h1];simpa using h2) ⟨.str ⟨#[c]⟩,H,I.tok _,⟨_,rfl⟩,q⟩) hs
def aOU(aG:List qj)(n j:Nat)(u:qj):Obj.mapSeq (·.setIfInBounds j u) {cls:=.type "list",data:=.seq aG.toArray n }={cls:=.type "list",data:=.seq (aG.set j u).toArray n }:=by simp[Obj.mapSeq]
def Inv.lst{xs:List V}(I:Inv X aB σ H s)(h:H p=qz (.lst xs)) :
 ∃ (aG:List qj) (n:Nat),bA xs aG/\s.heap.get? p=qz {cls:=.type "list",data:=.seq aG.toArray n }/\↑xs<=qk:=by let(z,aG,n,r,e):=I.hok p _ h;exact⟨aG,n,r,e,z⟩
def Inv.lstUpd{X:Cx}{aB:List (qw×Obj)}{σ:St}{H:Hp}{s:qv}{p:qw}{xs ys:List V}{aG its':List qj}{n n':Nat}{f:Obj->Obj}(I:Inv X aB σ H s)(h:H p=qz (.lst xs))
 (ho:s.heap.get? p=qz {cls:=.type "list",data:=.seq aG.toArray n }) (hf:f {cls:=.type "list",data:=.seq aG.toArray n }={cls:=.type "list",data:=.seq its'.toArray n' }) (r:bA ys its') (hz:↑ys<=qk) (t:Nat) :
 Inv X aB σ (bF H p (.lst ys)) {s with heap:=s.heap.update p f,toks:=t }:=by
 have e:(s.heap.update p f).get? p=qz {cls:=.type "list",data:=.seq its'.toArray n' }:=by
  rw[yCn f ho (by rw[hf]<;>rfl),hf]
 refine I.write (x:=p) (e:=p) (by rw[h];trivial) (.inl rfl) (λ b u hb q=>(yCg _ _ (Ne.symm hb)).trans q) ⟨_,e⟩ ?_;exact⟨hz,its',n',r,e⟩
def aLA:V->V->V->Hp->(Hp->Prop)->Prop:=λ o i v H Q=>∃ p xs k j,o=.ref p/\i=.int k/\H p=qz (.lst xs)/\jH ↑xs k=qz j/\Q (bF H p (.lst (xs.set j v)))
def aQD:aNA X aLA:=by
 intro aB s σ H o i v ov iv u Q I ro ri rv h;let(p,xs,k,j,rfl,rfl,hp,hj,q):=h;cases ro;let(t,rfl):=ri;let(aG,n,r,ho,hz):=I.lst hp;let(h1,h2,h3,h4):=aJA hj;have hl:=r.length;have hn:=nB;have I':Inv X aB σ (bF H p (.lst (xs.set j v))) {s with heap:=s.heap.update p (Obj.mapSeq (·.setIfInBounds j u)) }:=
  I.lstUpd hp ho (aOU aG n j u) (r.set rv j) (by rw[yBa];exact hz) s.toks
 by_cases h0:0<=k
 ·have hk:k.toNat=j:=by
   rw[seqIndex_of h0 h4] at h1;exact Option.some.inj h1
  exact PySem.W.ki_setAt ho h0 (!_) (by rw[yAi,<- hl];exact h4) (by rw[hk];exact⟨_,I',q⟩)
 ·have hk:(k+(aG.toArray.size:Int)).toNat=j:=by
   rw[seqIndex_neg (!_) h3] at h1;rw[yAi,<- hl];exact Option.some.inj h1
  exact PySem.W.ki_setBack ho (!_) (by rw[yAi,<- hl];exact h3) (!_) (by rw[hk];exact⟨_,I',q⟩)
def aOg(lo hi:Option Int)(n:Nat):(vx lo hi qx n).1=((HT.sIx n 0 lo:Nat):Int)/\(vx lo hi qx n).2.1=((HT.sIx n n hi:Nat):Int)/\(vx lo hi qx n).2.2=1:=by
 refine⟨?_,?_,rfl⟩
 ·cases lo with
  |none=>simp[vx,HT.sIx]
  |some i=>
    simp only[vx,HT.sIx,yHo,show(1:Int)>0 by decide,if_true];by_cases h:i<0
    ·simp only[h,if_true]<;>omega
    ·simp only[h,if_false]<;>omega
 ·cases hi with
  |none=>simp[vx,HT.sIx]
  |some i=>
    simp only[vx,HT.sIx,yHo,show(1:Int)>0 by decide,if_true];by_cases h:i<0
    ·simp only[h,if_true]<;>omega
    ·simp only[h,if_false]<;>omega
def aN2(aG:List qj)(lo hi:Option Int):slicePick aG.toArray lo hi qx=((aG.drop (HT.sIx aG.length 0 lo)).take (HT.sIx aG.length aG.length hi-HT.sIx aG.length 0 lo)).toArray:=by let(h1,h2,h3):=aOg lo hi aG.toArray.size;unfold slicePick;rw[h1,h2,h3];simp only[sliceRange_one,pick_run,yAi]<;>rfl
def aZb(K:FrG):V->Option Int->Option Int->Hp->VK->Prop:=λ x lo hi H Q=>∃ a xs,x=.ref a/\bX K H a xs/\∀ p,H p=qx->Q (.ref p) (bF H p (.lst (nT xs lo hi)))
def aRp:SlR X (aZb X.K):=by intro aB s σ H x v vl vu lo hi sl Q I rx hs pl pu h;let(a,xs,rfl,hx,q):=h;cases rx;let(aG,r,ht,hz):=I.list hx;have cK:=r.length;refine⟨"list",_,slot_list_getitem.lookup,ht.isList.typeIs,?_⟩;refine wpAny_getItem_list_slice ht.isList hs pl pu .none (by simp) ?_ (by rw[yAi]<;>omega);rw[aN2,<- cK];refine⟨.ref s.heap.objs.size,_,I.laid (t':=s.toks) (o:=.lst (nT xs lo hi)) (λ b ob q=>hpS _ q) (yAb _) ?_,rfl,q _ (I.hok.fresh (yAb _))⟩;exact⟨xAh (aGM xs lo hi) hz,_,0,(r.drop (HT.sIx ↑xs 0 lo)).take (HT.sIx ↑xs ↑xs hi-HT.sIx ↑xs 0 lo),xAd _ rfl⟩
def mK:V->Bool
 |.non=>true|.bl _=>true|.int _=>true|.str _=>true|_=>false
def oH:V->V->Bool
 |.non,.non=>true|.bl a,.bl b=>a==b
 |.bl a,.int b=>(if a then 1 else 0)==b
 |.int a,.bl b=>a==(if b then 1 else 0)
 |.int a,.int b=>a==b|.str a,.str b=>a==b|_,_=>false
def aU8(ry:aU y u)(rx:aU x v)(fy:mK y=true)(fx:mK x=true):SeqAt.EqAt A s u v (oH y x):=by
 cases y with
 |non=>
   cases ry;cases x with
   |non=>cases rx;exact SeqAt.EqAt.same _|bl b=>cases rx;exact SeqAt.EqAt.none_bool b
   |int b=>let(t,rfl):=rx;exact SeqAt.EqAt.none_int b t
   |str b=>let(t,rfl):=rx;exact SeqAt.EqAt.none_str b t
   |_=>exact absurd (show false=true from fx) yBg
 |bl a=>
   cases ry;cases x with
   |non=>cases rx;exact SeqAt.EqAt.bool_none a|bl b=>cases rx;exact SeqAt.EqAt.bool_bool a b
   |int b=>let(t,rfl):=rx;exact SeqAt.EqAt.bool_int a b t
   |str b=>let(t,rfl):=rx;exact SeqAt.EqAt.bool_str a b t
   |_=>exact absurd (show false=true from fx) yBg
 |int a=>
   let(t',rfl):=ry;cases x with
   |non=>cases rx;exact SeqAt.EqAt.int_none a t'|bl b=>cases rx;exact SeqAt.EqAt.int_bool a t' b
   |int b=>let(t,rfl):=rx;exact SeqAt.EqAt.int_int a t' b t
   |str b=>let(t,rfl):=rx;exact SeqAt.EqAt.int_str a t' b t
   |_=>exact absurd (show false=true from fx) yBg
 |str a=>
   let(t',rfl):=ry;cases x with
   |non=>cases rx;exact SeqAt.EqAt.str_none a t'|bl b=>cases rx;exact SeqAt.EqAt.str_bool a t' b
   |int b=>let(t,rfl):=rx;exact SeqAt.EqAt.str_int a t' b t
   |str b=>let(t,rfl):=rx;exact SeqAt.EqAt.str_str a t' b t
   |_=>exact absurd (show false=true from fx) yBg
 |_=>exact absurd (show false=true from fy) yBg
def iO(x:V)(u:qj):Bool:=match u with|.none=>oH .non x|.bool b=>oH (.bl b) x|.int i _=>oH (.int i) x|.str z _=>oH (.str z) x|_=>false
def aKI(r:aU y u)(f:mK y=true):iO x u=oH y x:=by
 cases y with
 |non=>cases r;rfl|bl b=>cases r;rfl
 |int i=>let(t,rfl):=r;rfl
 |str z=>let(t,rfl):=r;rfl
 |_=>exact absurd (show false=true from f) yBg
def wF:∀ {xs:List V}{us:List qj},bA xs us->xs.all mK=true->us.any (iO x)=xs.any λ y=>oH y x
 |_,_,.nil,_=>rfl
 |y::xs,u::us,.cons r t,f=>by
   rw[List.all_cons,yAy] at f;rw[yFk,yFk,aKI r f.1,wF t f.2]
def vL(rx:aU x v)(fx:mK x=true):∀ {xs:List V}{us:List qj},bA xs us->xs.all mK=true->∀ u∈us,SeqAt.EqAt A s u v (iO x u)
 |_,_,.nil,_=>λ u hu=>by cases hu
 |y::xs,u::us,.cons r t,f=>λ u' hu=>by
   rw[List.all_cons,yAy] at f;rcases List.mem_cons.mp hu with rfl|hu
   ·rw[aKI r f.1];exact aU8 r rx f.1 fx
   ·exact vL rx fx t f.2 u' hu
def uN(x:V)(xs:List V):Bool:=xs.any λ y=>oH y x
def rIn(K:FrG)(neg:Bool):R2:=λ x y H Q=>∃ p xs,y=.ref p/\(bX K H p xs\/cH K H p xs)/\mK x=true/\xs.all mK=true/\Q (.bl (if neg then !uN x xs else uN x xs)) H
def aPS:cY X (xw .In) (rIn X.K false):=by
 intro aB s σ H x y v u Q I rx ry h;let(p,xs,rfl,hq,fx,fs,q):=h;cases ry;rcases hq with hq|hq
 ·let(aG,r,pl,hz):=I.list hq;refine SeqAt.in_listAt (iO x) pl.isList (λ w hw=>vL rx fx r fs w (hw:)) ⟨.bl _,H,I,rfl,?_⟩;rw[show aG.toArray.any (iO x)=aG.any (iO x) by simp,wF r fs];exact q
 ·let(aG,r,pl,hz):=I.tuple hq;refine SeqAt.in_tupleAt (iO x) pl (λ w hw=>vL rx fx r fs w (hw:)) ⟨.bl _,H,I,rfl,?_⟩;rw[show aG.toArray.any (iO x)=aG.any (iO x) by simp,wF r fs];exact q
def aOh:cY X (xw .NotIn) (rIn X.K true):=by
 intro aB s σ H x y v u Q I rx ry h;let(p,xs,rfl,hq,fx,fs,q):=h;cases ry;rcases hq with hq|hq
 ·let(aG,r,pl,hz):=I.list hq;refine SeqAt.notIn_listAt (iO x) pl.isList (λ w hw=>vL rx fx r fs w (hw:)) ⟨.bl _,H,I,rfl,?_⟩;rw[show aG.toArray.any (iO x)=aG.any (iO x) by simp,wF r fs];exact q
 ·let(aG,r,pl,hz):=I.tuple hq;refine SeqAt.notIn_tupleAt (iO x) pl (λ w hw=>vL rx fx r fs w (hw:)) ⟨.bl _,H,I,rfl,?_⟩;rw[show aG.toArray.any (iO x)=aG.any (iO x) by simp,wF r fs];exact q
def aGI:gF X (.builtin "len") (λ xs H Q=>∃ p ys,xs=[.ref p]/\(bX X.K H p ys\/cH X.K H p ys)/\Q (.int ↑ys) H):=by
 intro aB s σ H xs us Q I r h;let(p,ys,rfl,hq,q):=h;let(u,rfl,rx):=rE r;cases rx;have hn:=nB;rcases hq with hq|hq
 ·let(aG,r',pl,hz):=I.list hq;have cK:=r'.length;exact Calls.call_len_list pl.isList (by simp only[yAi]<;>omega) ⟨.int ↑ys,H,I.tok _,⟨s.toks+1,by rw[yAi,cK]⟩,q⟩
 ·let(aG,r',pl,hz):=I.tuple hq;have cK:=r'.length;exact len_tuple pl (by simp only[yAi]<;>omega) ⟨.int ↑ys,H,I.tok _,⟨s.toks+1,by rw[yAi,cK]⟩,q⟩
def aOc:gF X (.builtin "len") (λ xs H Q=>∃ z,xs=[.str z]/\z.length<=qk/\Q (.int z.length) H):=by intro aB s σ H xs us Q I r h;let(z,rfl,hz,q):=h;let(u,rfl,t,rfl):=rE r;have hn:=nB;exact len_str (!_) ⟨.int z.length,H,I.tok _,⟨_,rfl⟩,q⟩
def aGt:gF X (.type "tuple") (λ xs H Q=>∃ p ys,xs=[.ref p]/\((bX X.K H p ys/\∀ l,H l=qx->Q (.ref l) (bF H l (.tup ys)))\/(cH X.K H p ys/\Q (.ref p) H))):=by
 intro aB s σ H xs us Q I r h;let(p,ys,rfl,h):=h;let(u,rfl,rx):=rE r;cases rx;rcases h with ⟨hq,q⟩|⟨hq,q⟩
 ·let(aG,r',pl,hz):=I.list hq;have cK:=r'.length;refine call_tuple_list pl.isList (λ h' kp=>?_) (by simp only[yAi]<;>omega);have I1:Inv X aB σ H {s with heap:=h' }:=I.kept (t':=s.toks) kp;have I2:Inv X aB σ (bF H h'.objs.size (.tup ys)) {s with heap:=h'.push {cls:=.type "tuple",data:=.seq aG.toArray } }:=
   I1.laid (t':=s.toks) (λ b o e=>hpS _ e) (yAb _) (show eQ X.prog X.w _ _ _ (.tup ys) from ⟨hz,aG,r',IsTup.new _ _⟩)
  exact⟨.ref h'.objs.size,_,I2,rfl,q _ (I1.hok.fresh (yAb _))⟩
 ·let(aG,r',pl,hz):=I.tuple hq;exact call_tuple_same pl ⟨.ref p,H,I,rfl,q⟩
def tyV(K:FrG)(T:String)(x:V)(H:Hp):Prop:=match x with
 |.str _=>T = "str"|.int _=>T = "int"
 |.ref p=>(T = "list" /\ ∃ xs,bX K H p xs)\/(T = "tuple" /\ ∃ o,K.lookup p=qz o/\o.cls=.type "tuple" /\ o.dict=qx) \/
    (T = "dict" /\ ((∃ aF,H p=qz (.dK aF))\/∃ aF,H p=qz (.dT aF)))\/(T = "set" /\ ∃ S n,H p=qz (.set S n))
 |_=>False
def aKl(I:Inv X aB σ H s)(r:aU x v)(ty:tyV X.K T x H) :
 s.TypeIs v T/\∀ a,v=.ref a->∃ ob,s.heap.get? a=qz ob/\ob.dict=qx:=by
 cases x with
 |str z=>
   let(t,rfl):=r;cases (show T = "str" from ty);exact⟨typeIs_str s z t,λ _ e=>nomatch e⟩
 |int i=>
   let(t,rfl):=r;cases (show T = "int" from ty);exact⟨vk s i t,λ _ e=>nomatch e⟩
 |ref p=>
   cases r;rcases ty with ⟨rfl,xs,hq⟩|⟨rfl,o,hk,hc,hd⟩|⟨rfl,hk⟩|⟨rfl,S,n,hk⟩
   ·let(aG,_,pl,_):=I.list hq;refine⟨pl.isList.typeIs,λ a e=>?_⟩;cases e;let(o,n,e,c,hd,_):=pl;exact⟨o,e,hd⟩
   ·refine⟨⟨o,I.kIn p o hk,hc⟩,λ a e=>?_⟩;cases e;exact⟨o,I.kIn _ o hk,hd⟩
   ·have z:∃ o,s.heap.get? p=qz o/\o.ExactDict:=by
     rcases hk with ⟨aF,hk⟩|⟨aF,hk⟩
     ·let(_,_,_,_,o,_,_,e,ex,_):=I.hok p _ hk;exact⟨o,e,ex⟩
     ·let(_,_,_,_,o,_,_,e,ex,_):=I.hok p _ hk;exact⟨o,e,ex⟩
    let(o,e,ex):=z;refine⟨⟨o,e,ex.1⟩,λ a e2=>?_⟩;cases e2;exact⟨o,e,ex.2.1⟩
   ·let(o,_,_,_,e,ex,_):=I.hok p _ hk;refine⟨⟨o,e,ex.1⟩,λ a e2=>?_⟩;cases e2;exact⟨o,e,ex.2.1⟩
 |_=>exact False.elim ty
def aZy(K:FrG)(T:String)(r:V->List V->Hp->VK->Prop)(to:TE):TE:=λ σ H Q=>to σ H λ x H1=>tyV K T x H1/\r x [] H1 Q
def tBM(K:FrG)(T:String)(r:V->List V->Hp->VK->Prop)(to:TE)(t:TA):TE:=λ σ H Q=>to σ H λ x H1=>tyV K T x H1/\t σ H1 λ xs H2=>r x xs H2 Q
def aU1{to:TE}{apos cpos:Pos}{id:String}{r:V -> List V -> Hp -> VK -> Prop}(pa:PlainAttrs T)(slot:Slot T name id)(hty:typeOf (.builtin id)=pure (.type "method_descriptor"))(hm:MtR X id r)(ho:PE X o to)(hbase:attributeBase o name X.env (eval o X.env)=eval o X.env:=by rfl)(hline:(apos.endLine==cpos.line)=true:=by rfl):PE X (.Call (.Attribute o name apos) [] [] cpos) (aZy X.K T r to):=by intro aB s σ H Q I h;refine wpAny_Call_method0_late hbase hline (bD (ho aB s σ H _ I h) λ v s1 hPq33=>?_);let(x,H1,I1,r1,ty,q1):=hPq33;let(h1,h2):=aKl I1 r1 ty;exact⟨T,id,pa,slot,hty,h1,h2,Calls.callWith_builtin rfl (PySem.evalArgs_none (hm aB s1 σ H1 x [] v [] Q I1 r1 .nil q1))⟩
def aEI{X:Cx}{o e:qy}{es:List qy}{to:TE}{t:TA}{name:Str}{apos cpos:Pos}{T id:String}{r:V -> List V -> Hp -> VK -> Prop}(pa:PlainAttrs T)(slot:Slot T name id)(hty:typeOf (.builtin id)=pure (.type "method_descriptor"))(hm:MtR X id r)(ho:PE X o to)(ha:PA X (e::es) t)
 (hbase:attributeBase o name X.env (eval o X.env)=eval o X.env:=by rfl)
 (hfew:((backTo cpos (qo (e::es) X.env)).all (λ x=>!x.1)&&(backToKw cpos (keywordEach [] X.env)).all (λ x=>x.1.isSome)
   && decide ((e::es).length+([]:List Keyword).length+(if ([]:List Keyword).isEmpty then 0 else 1)<30))=true:=by rfl)
 (hline:(apos.endLine==cpos.line)=true:=by rfl) (hs:qo (e::es) X.env=(false,eval e X.env)::qo es X.env:=by rfl) (hplain:(backTo cpos (qo es X.env)).any (·.1)=false:=by rfl) :
 PE X (.Call (.Attribute o name apos) (e::es) [] cpos) (tBM X.K T r to t):=by intro aB s σ H Q I h;refine wpAny_Call_method_late hbase hfew hline rfl (bD (ho aB s σ H _ I h) λ v s1 hPq34=>?_);let(x,H1,I1,r1,ty,q1):=hPq34;let(h1,h2):=aKl I1 r1 ty;refine⟨T,id,pa,slot,hty,h1,h2,?_⟩;have hA:=ha cpos aB s1 σ H1 _ I1 q1;rw[hs] at hA ⊢;refine Calls.callWith_builtin (by show(false||(backTo cpos (qo es X.env)).any (·.1))=false;rw[hplain]<;>rfl) (Calls.evalArgs_plain ?_);exact bD hA λ us s2 ⟨vs,H2,I2,r2,q2⟩=>hm aB s2 σ H2 x vs v us Q I2 r1 r2 q2
end L2
namespace L2
open PySem PySem.Spec PyProof.Rows
def MtM(X:Cx)(id:String)(r:V->List V->Hp->VK->Prop):Prop:=
 ∀ (aB:List (qw×Obj)) (s:qv) (σ:St) (H:Hp) (x:V) (xs:List V) (v:qj) (us:List qj) (Q:VK),Inv X aB σ H s->aU x v->bA xs us->r x xs H Q ->
  qu (model X.prog X.w) X.A (call (.builtin id) (v::us)) (EP X aB σ Q) X.xe s
def bA.one:∀ {x:V}{us:List qj},bA [x] us->∃ u,us=[u]/\aU x u
 |_,_,.cons r .nil=>⟨_,rfl,r⟩
def bA.rep{xs:List V}(h:bA xs us):∀ k:Nat,bA (yAe k xs).flatten (yAe k us).flatten
 |0=>.nil
 |k+1=>by
   rw[yAw,yAw,yDb,yDb];exact bA.append h (bA.rep h k)
def aAJ(aG:List qj):∀ (k:Nat) (aM:List qj),
 List.foldl (λ x1 x2=>x1++x2) aM.toArray (yAe k aG.toArray)=(aM++(yAe k aG).flatten).toArray
 |0,aM=>by simp
 |k+1,aM=>by
   have e:aM.toArray++aG.toArray=(aM++aG).toArray:=by simp
   have e2:(aM++aG)++(yAe k aG).flatten=aM++(yAe (k+1) aG).flatten:=by
    rw[yAw,yDb,yBp]
   rw[<- e2,<- aAJ aG k (aM++aG),<- e,yAw,yBb]
section
variable {X:Cx}{aB:List (qw×Obj)}{σ:St}{H:Hp}{s:qv}{l b:qw}{xs ys zs:List V}
def Inv.lset{aG its':List qj}{f:Array qj->Array qj}(I:Inv X aB σ H s)(hH:H l=qz (.lst xs))(e:s.heap.get? l=qz {cls:=.type "list",data:=.seq aG.toArray n })(hf:f aG.toArray=its'.toArray)(hv:bA ys its')(hz:↑ys<=qk) :
 Inv X aB σ (bF H l (.lst ys)) {s with heap:=s.heap.update l (Obj.mapSeq f),toks:=t' }:=by have q:=PySem.IsL.update e f;rw[hf] at q;refine I.write (x:=l) (e:=l) (by rw[hH];exact trivial) (.inl rfl) (λ b' u hb hu=>(yCg s.heap (Obj.mapSeq f) (Ne.symm hb)).trans hu) ⟨_,q⟩ ?_;exact⟨hz,its',_,hv,q⟩
def Inv.lnew(I:Inv X aB σ H s)(hv:bA ys aG)(hz:↑ys<=qk) :
 Inv X aB σ (bF H s.heap.objs.size (.lst ys)) {s with heap:=s.heap.push {cls:=.type "list",data:=.seq aG.toArray },toks:=t' }:=
 I.laid (λ _ _ q=>hpS _ q) (yAb _) ⟨hz,aG,0,hv,xAd _ rfl⟩
def Inv.fresh(I:Inv X aB σ H s):H s.heap.objs.size=qx:=I.hok.fresh (yAb _)
def Inv.lstM(I:Inv X aB σ H s)(hH:H l=qz (.lst xs)):↑xs<=qk/\∃ (aG:List qj) (n:Nat),bA xs aG/\↑xs=aG.length/\s.heap.get? l=qz {cls:=.type "list",data:=.seq aG.toArray n }:=by let(z,aG,n,r,e):=I.hok l _ hH;exact⟨z,aG,n,r,r.length,e⟩
end
def aJG:V->List V->Hp->VK->Prop:=λ x vs H Q=>∃ l xs y,x=.ref l/\vs=[y]/\H l=qz (.lst xs)/\↑xs<qk/\Q .non (bF H l (.lst (xs++[y])))
def aHK:MtM X "list.append" aJG:=by intro aB s σ H x vs v us Q I rx rv h;let(l,xs,y,rfl,rfl,hH,hz,q):=h;cases rx;let(u,rfl,ru):=rv.one;let(z,aG,n,r,hl,e):=I.lstM hH;refine jz F.slot_list_append ⟨_,e,rfl⟩ F.entry_list_append (F.args_list_append_2 _ _) (PySem.list_append l aG.toArray n u (by rw[yAi];omega)) ⟨e,?_⟩;refine⟨.non,_,I.lset (its':=aG++[u]) hH e (by simp) (r.append (.cons ru .nil)) ?_,rfl,q⟩;rw[yAo,yBy];omega
def aRi{α:Type}(xs:List α)(k:Nat):(yAe k xs).flatten.length=k*↑xs:=by
 induction k with
 |zero=>simp|succ k ih=>rw[yAw,yDb,yAo,ih,Nat.succ_mul,yDo]
end L2
namespace Att
open PySem PySem.W PySem.Calls PyProof.Rows
def aNV:∀ (ns:List Int) (vs:List qj),WellAll P h vs (ns.map WData.int)->IntsAre vs ns:=by
 intro ns
 induction ns with
 |nil=>
   intro vs w;rw[yDn] at w;cases w;exact .nil
 |cons n ns ih=>
   intro vs w;rw[yAh] at w;cases w with
   |cons a b=>
     cases a;exact .cons _ _ (ih _ b)
def script_of{l:OpenLaw}(hn:l.most=qz n)(hpre:l.row.toRowW.claim.pre args=true)(hwl:WellAll P h vals args) :
 ∃ a vs ns,vals=[Value.ref a]/\args=[WData.list (ns.map WData.int)]/\h.get? a=qz {cls:=.type "list",data:=.seq vs.toArray }/\IntsAre vs ns/\↑ns<=n:=by
 have hsh:WShape.hasAll [] args [.list .int]=true:=(pre_splitW hpre).1;have hc:l.pre.holds [] {args:=args }=true:=(pre_splitW hpre).2;let(d,r,rfl,h1,h2):=hasAllW_cons hsh;obtain rfl:=hasAllW_nil h2;let(xs,rfl,h3):=hasW_list h1;let(ns,rfl):=items_int h3;have cK:↑ns<=n:=by
  unfold OpenLaw.pre at hc;have h4:(WTm.not (.lt (.lit (.int (n:Int))) (.len (.arg 0)))).holds [] {args:=[.list (ns.map .int)] }=true:=by
   have h4:=(holds_andW hc).1;rw[hn] at h4;exact h4
  have h5:=condW_of h4 (w_not (w_lt w_lit (w_len_list (w_arg rfl))));rw[yAc] at h5;refine yEy λ q=>?_
  have q':(n:Int)<((↑ns:Nat):Int):=by omega
  first
   |(rw[dqT q'] at h5;exact absurd h5 (·))
   |(simp at h5;omega)
 cases hwl with
 |cons w1 w2=>
   cases w2;cases w1 with
   |list ho hall=>exact⟨_,_,ns,rfl,rfl,ho,aNV ns _ hall,cK⟩
def post_true(l:OpenLaw)(args:List WData):l.row.toRowW.claim.post args (.bool true) args=true:=
 postW_of (r:=l.row.toRowW) (X:=(true==true))
  (show WShape.has [] (.bool true) .bool=true by first|rfl|decide|simp[WShape.has,WShape.arms,WShape.armsAll])
  (show(WTm.eq .res (.lit (.bool true))).value [] {args:=args,res:=qz (.bool true),after:=args }=qz (.bool (true==true)) from w_eq_bool (w_res rfl) w_lit) rfl
def aZ7(h:Heap)(L d:qw):List (qw×Obj):=(yBm h.objs.size).filterMap λ a=>if a=L\/a=d then qx else (h.get? a).map λ o=>(a,o)
end Att
namespace L2
open PySem PySem.Spec PyProof.Rows
def aHt:∀ {vs:List qj}{ns:List Int},IntsAre vs ns->bA (ns.map V.int) vs
 |_,_,.nil=>.nil|_,_,.cons n t h=>.cons ⟨t,rfl⟩ (aHt h)
def aNc(H:Hp):Prop:=∀ b,H b=qx\/∃ o xs,H b=qz (.frz o (.lst xs))
def law_call{K:FrG}{mg mb:Str->Option qj}{s₁:qv}(KX:K.In s₁.heap)(hns:s₁.heap.Ns zy mg)(hb:s₁.heap.Ns builtinsNs mb)(hbb:∀ x:Str,x ≠ "__name__" -> mb x=xu x)(hlim:s₁.heap.NoLimit)(hg:s₁.gens = #[])(ha:s₁.heap.get? a=qz {cls:=.type "list",data:=.seq vs.toArray })(hi:IntsAre vs ns)(hl:↑ns<=qk)(hr:Room k callerA)(F:∀ base:Heap,K.In base->base.Ns zy mg->FnOk P w K mg base CX k fa fd [x] sp)(hbind:∀ (s:qv) (u:qj),BindsTo s fd ⟨[u],[]⟩ [(x,u)])(hsp:∀ H:Hp,aNc H->bX K H a (ns.map V.int)->sp [.ref a] H (λ v _=>v=.bl true) λ _ _ _=>False)(hCX:∀ H e s',CX [] H s₁ (λ _ _ _=>False) e s'->False) :
 ju (model P w) callerA (.call (.ref fa) ⟨[.ref a],[]⟩) (λ r s'=>r=.ok (.ret (.bool true))/\OldK s₁.heap s'.heap/\s'.os=s₁.os/\AllBare s'.gens) s₁:=by
 have rv:=aHt hi;have lenV:=hi.length;have core:∀ H:Hp,aNc H->bX K H a (ns.map V.int)->bM P w H s₁.heap->(∀ b,H b≠qx->b=a)->(H a≠qx->K.lookup a=qx) ->
  ju (model P w) callerA (.call (.ref fa) ⟨[.ref a],[]⟩) (λ r s'=>r=.ok (.ret (.bool true))/\OldK s₁.heap s'.heap/\s'.os=s₁.os/\AllBare s'.gens) s₁:=by
  intro H hO hS hok hA hK;have oQ:∀ {b:qw}{o:Obj},s₁.heap.get? b=qz o->H b=qx->(nX s₁.heap H).get? b=qz o:=λ e n=>aQe e n
  have noA:∀ {b:qw}{o:Obj}{es:Array DictEntry}{ep:Nat},s₁.heap.get? b=qz o->o.data=.dict es ep->H b=qx:=λ {b o es ep} e d=>by
   cases q:H b with
   |none=>rfl
   |some u=>
     have e':b=a:=hA b (by rw[q];simp);subst e';rw[ha] at e;cases e;have d':Data.seq vs.toArray _=Data.dict es ep:=d;cases d'
  have nsK:∀ {b:qw}{m:Str->Option qj},s₁.heap.Ns b m->(nX s₁.heap H).Ns b m:=λ {b m} ⟨o,es,ep,e,d,r⟩=>⟨o,es,ep,oQ e (noA e d),d,r⟩
  have hKb:K.In (nX s₁.heap H):=λ b o e=>oQ (KX b o e) (by
   cases q:H b with
   |none=>rfl
   |some u=>
     have e':b=a:=hA b (by rw[q];simp)
     subst e';rw[hK (by rw[q];simp)] at e;cases e)
  have hM:Mod K mg (nX s₁.heap H):=⟨hKb,nsK hns,⟨mb,nsK hb,hbb⟩,let ⟨mc,h1,h2⟩:=hlim;⟨mc,nsK h1,h2⟩⟩;have e0:Env0 P w K mg (nX s₁.heap H) callerA [] s₁ H:=⟨rfl,hM,λ b o e=>aSu e,yHu (aPj _ _),trivial,λ b hb=>absurd (show b∈([]:List qw) from hb) (by simp),hok,.of_eq hg⟩;refine codeAny_mono ((F _ hKb (nsK hns)).run callerA [] s₁ H ⟨[.ref a],[]⟩ [.ref a] [.ref a] _ _ hr e0 (hbind s₁ (.ref a)) (.cons rfl .nil) (hsp H hO hS)) λ r s' h=>?_
  cases r with
  |error e=>exact(hCX H e s' h).elim
  |ok fl=>
    cases fl with
    |next=>exact False.elim h|brk=>exact False.elim h|cont=>exact False.elim h
    |ret u=>
      let(v,H',os,bare,un,hok',r',q):=h;have q':v=.bl true:=q;subst q';obtain rfl:u=Value.bool true:=r';refine⟨rfl,OldK.of_keep λ b o e=>?_,os,bare⟩;cases q:H b with
      |none=>exact un.keep b o e q (by intro z;exact absurd (show b∈([]:List qw) from z) (by simp)) (by simp)
      |some u=>
        rcases hO b with z|⟨ob,xs,z⟩
        ·rw[q] at z;cases z
        ·have z2:=un.frzs b ob _ z;let(e1,_):=hok b _ z;let(e2,_):=hok' b _ z2;rw[e] at e1;cases e1;exact e2
 cases hk:K.lookup a with
 |some o=>
   have e:=KX a o hk;rw[ha] at e;cases e;refine core (λ _=>qx) (λ _=>.inl rfl) (.inr ⟨_,vs.toArray,_,hk,rfl,rfl,rfl,by rw[yAi,lenV];exact hl,by simpa using rv⟩) (λ b u z=>by have z':(qx:Option HO)=qz u:=z;cases z') (λ b z=>absurd rfl z) λ z=>absurd rfl z
 |none=>
   refine core (λ b=>if b=a then qz (.frz {cls:=.type "list",data:=.seq vs.toArray } (.lst (ns.map V.int))) else qx) (λ b=>?_) (.inl (.inr ⟨{cls:=.type "list",data:=.seq vs.toArray },if_pos rfl⟩)) (λ b u z=>?_) (λ b z=>?_) λ _=>hk
   ·by_cases hb:b=a
    ·exact .inr ⟨_,_,if_pos hb⟩
    ·exact .inl (if_neg hb)
   ·by_cases hb:b=a
    ·have z':=(if_pos hb).symm.trans z;cases z';subst hb;exact⟨ha,by rw[yAc];exact hl,vs,_,rv,ha⟩
    ·have z':=(if_neg hb).symm.trans z;cases z'
   ·by_cases hb:b=a
    ·exact hb
    ·exact absurd (if_neg hb) z
end L2
namespace L2
open PySem PySem.Spec PyProof.Rows
noncomputable abbrev KOf{K:FrG}{h:Heap}(_:K.In h):FrG:=K
end L2
namespace L2
open PySem PySem.Spec PyProof.Rows
def kA(s:xk):Arguments:=match s with|.FunctionDef _ a _ _ _ _ _ _ _ _=>a|_=>{posonlyargs:=[],args:=[],vararg:=qx,kwonlyargs:=[],kw_defaults:=[],kwarg:=qx,defaults:=[] }
def gS(s:xk):List xk:=match s with|.FunctionDef _ _ b _ _ _ _ _ _ _=>b|_=>[]
def cQ(s:xk):zw:=match s with|.FunctionDef _ _ _ _ _ _ sc _ _ _=>sc|_=>{kind:=.function,names:=[],isGenerator:=false,isCoroutine:=false }
noncomputable abbrev nZ:lU:=λ _ _ _ _ _ _=>False
noncomputable abbrev E0:XK:=λ _ _ _=>False
def aBH:qT nZ X E0:=λ _ _ _ _ _ _ _ h=>h.elim
structure Fun(K:FrG)(x qual:Str)(st:xk)(f:qw)(fd:jw):Prop where
 ex:∃ (oc:qj) (od:Option qw) (kV doc pm:qj) (an:Option qw) (cdv ct:qj) (osl:Array (Option qj)),
  fd=yBx x qual (kA st) (gS st) (cQ st) .none kV doc pm an cdv ct/\K.lookup f=qz ⟨oc,od,.func fd,osl⟩/\yDa K cdv qual=true
 kp:yBo K (.ref f)=true
variable {K:FrG}
def Fun.ok{P:zx}{w:zj}{mg:Str -> Option qj}{base:Heap}{x qual:Str}{st:xk}{f:qw}{fd:jw}{N ps:List Str}{k:Nat}{sp:Sp}(F:Fun K x qual st f fd)(S:FnScope N ps (cQ st))(len:∀ vs H Q E,sp vs H Q E->↑vs=↑ps)
 (hbody:∀ (cdv:qj) (A:zv) (outer:List Env) (s:qv) (H:Hp) (vs:List V) (Q:VK) (E:XK),Room k (A.deeper (envOfC qual (cQ st) s.heap.objs.size f cdv))->sp vs H Q E ->
   ∃ t,dI (tY nZ P w K mg base N qual (cQ st) f cdv A outer s H E).nox (gS st) t/\t {nx:=λ _ H'=>Q .non H',rt:=Q } (start N vs) H):FnOk P w K mg base nZ (k+1) f fd ps sp:=by
 let(oc,od,kV,doc,pm,an,cdv,ct,osl,rfl,lk,hcd):=F.ex;refine aWV lk hcd S len λ A outer s H vs Q E hr hsp=>?_
 let(t,h,q):=hbody cdv A outer s H vs Q E hr hsp;exact⟨t,h.nox,q⟩
def Fun.binds{x qual:Str}{st:xk}{f:qw}{fd:jw}{ps:List Str}(F:Fun K x qual st f fd)
 (h:∀ (kV doc pm:qj) (an:Option qw) (cdv ct:qj) (us:List qj),↑us=↑ps->bindArgs (yBx x qual (kA st) (gS st) (cQ st) .none kV doc pm an cdv ct) ⟨us,[]⟩=pure (ps.zip us)):gZ K fd ps []:=by let(oc,od,kV,doc,pm,an,cdv,ct,osl,rfl,lk,hcd):=F.ex;exact .all (h kV doc pm an cdv ct)
def aEk{x qual:Str}{st:xk}{f:qw}{oc:qj}{od an:Option qw}{osl:Array (Option qj)}{kV doc pm cdv ct:qj}(l:K.lookup f=qz ⟨oc,od,.func (yBx x qual (kA st) (gS st) (cQ st) .none kV doc pm an cdv ct),osl⟩)
 (c:yDa K cdv qual=true) (k:yBo K (.ref f)=true):Fun K x qual st f (yBx x qual (kA st) (gS st) (cQ st) .none kV doc pm an cdv ct):=⟨⟨oc,od,kV,doc,pm,an,cdv,ct,osl,rfl,l,c⟩,k⟩
def uF{B:Prop}(h:B):if false=true then A else B:=by rw[if_neg yBg];exact h
def uI{B:Prop}(h:A):if true=true then A else B:=by rw[if_pos rfl];exact h
def bT(H H':Hp):Prop:=∀ b o,H b=qz o->H' b=qz o
def bT.refl(H:Hp):bT H H:=λ _ _ h=>h
def bT.trans(a:bT H H1)(b:bT H1 H2):bT H H2:=λ c o h=>b c o (a c o h)
def bT.free(e:bT H H')(h:H' l=Option.none):H l=Option.none:=by
 cases q:H l with
 |none=>rfl
 |some o=>
   rw[e l o q] at h;cases h
def bT.seq{xs:List V}(e:bT H H')(h:bX K H a xs):bX K H' a xs:=by
 rcases h with (h|⟨o,h⟩)|h
 ·exact .inl (.inl (e _ _ h))
 ·exact .inl (.inr ⟨o,e _ _ h⟩)
 ·exact .inr h
end L2
set_option maxHeartbeats 4000000
namespace L2
open PySem PySem.Spec PyProof.Rows
section
variable {κ:Type}[DecidableEq κ]
def jA(aF:List (κ×V))(k:κ):Option V:=(aF.find? λ kv=>decide (kv.1=k)).map (·.2)
def jD(aF:List (κ×V))(k:κ)(v:V):List (κ×V):=
 if (aF.any λ kv=>decide (kv.1=k))=true then aF.map (λ kv=>if kv.1=k then (kv.1,v) else kv) else aF++[(k,v)]
def aMg(aF:List (κ×V))(k:κ):List (κ×V):=aF.filter λ kv=>decide (kv.1≠k)
def aDz{p:κ×V}{r:List (κ×V)}{k:κ}(e:p.1=k):jA (p::r) k=qz p.2:=by simp[jA,yCo,e]
def aDq{p:κ×V}{r:List (κ×V)}{k:κ}(e:¬ p.1=k):jA (p::r) k=jA r k:=by simp[jA,yCo,e]
def aDA(k:κ):∀ aF:List (κ×V),(aF.any λ kv=>decide (kv.1=k))=(jA aF k).isSome
 |[]=>rfl
 |p::r=>by
   rw[yFk];by_cases e:p.1=k
   ·simp only[aDz e,dqT e,Bool.true_or,Option.isSome_some]
   ·rw[aDq e,dqF e,Bool.false_or];exact aDA k r
def aGT(aF:List (κ×V))(k:κ)(v:V):(jD aF k v).length<=aF.length+1:=by
 unfold jD;split
 ·rw[yAc];omega
 ·rw[yAo,yAl,yBr];omega
def fW.isSome_eq(r:fW o u):o.isSome=u.isSome:=by
 cases o with
 |none=>cases u with
   |none=>rfl
   |some _=>exact(show False from r).elim
 |some _=>cases u with
   |none=>exact(show False from r).elim
   |some _=>rfl
def fW.getD(r:fW o u)(rd:aU d d'):aU (o.getD d) (u.getD d'):=by
 cases o with
 |none=>cases u with
   |none=>exact rd
   |some _=>exact(show False from r).elim
 |some _=>cases u with
   |none=>exact(show False from r).elim
   |some _=>exact r
def KV.val{aF:List (κ×V)}{vs:List (κ×qj)}(r:KV aF vs)(k:κ):fW (jA aF k) (valueAt vs k):=by
 unfold KV at r
 induction r with
 |nil=>exact True.intro
 |@cons p q ps qs h t ih=>
   let(h1,h2):=h;by_cases e:p.1=k
   ·have e':q.1=k:=h1.symm.trans e;have b:valueAt (q::qs) k=qz q.2:=by simp[valueAt,yCo,e']
    rw[aDz e,b];exact h2
   ·have e':¬ q.1=k:=λ z=>e (h1.trans z)
    have b:valueAt (q::qs) k=valueAt qs k:=by simp[valueAt,yCo,e']
    rw[aDq e,b];exact ih
def KV.any{aF:List (κ×V)}{vs:List (κ×qj)}(r:KV aF vs)(k:κ):(aF.any λ kv=>decide (kv.1=k))=vs.any λ kv=>decide (kv.1=k):=by
 unfold KV at r
 induction r with
 |nil=>rfl|cons h t ih=>rw[yFk,yFk,ih,h.1]
def KV.repl{aF:List (κ×V)}{vs:List (κ×qj)}(r:KV aF vs)(k:κ){y:V}{u:qj}(ry:aU y u) :
 KV (aF.map λ kv=>if kv.1=k then (kv.1,y) else kv) (vs.map λ kv=>if kv.1=k then (kv.1,u) else kv):=by
 unfold KV at r ⊢
 induction r with
 |nil=>exact .nil
 |@cons p q ps qs h t ih=>
   rw[yAh,yAh];refine .cons ?_ ih;let(h1,h2):=h;by_cases e:p.1=k
   ·rw[if_pos e,if_pos (h1.symm.trans e)];exact⟨h1,ry⟩
   ·rw[if_neg e,if_neg (λ z=>e (h1.trans z))];exact⟨h1,h2⟩
def KV.put{aF:List (κ×V)}{vs:List (κ×qj)}(r:KV aF vs)(k:κ){y:V}{u:qj}(ry:aU y u):KV (jD aF k y) (stored vs k u):=by
 unfold jD stored;rw[r.any k];by_cases e:(vs.any λ kv=>decide (kv.1=k))=true
 ·rw[if_pos e,if_pos e];exact r.repl k ry
 ·rw[if_neg e,if_neg e];exact Paired.snoc r ⟨rfl,ry⟩
def KV.drop{aF:List (κ×V)}{vs:List (κ×qj)}(r:KV aF vs)(k:κ):KV (aMg aF k) (without vs k):=by
 unfold KV at r ⊢;unfold aMg without
 induction r with
 |nil=>exact .nil
 |@cons p q ps qs h t ih=>
   let(h1,h2):=h;rw[yEe,yEe];by_cases e:p.1=k
   ·have a:¬ decide (p.1≠k)=true:=by simp[e]
    have b:¬ decide (q.1≠k)=true:=by simp[h1.symm.trans e]
    rw[if_neg a,if_neg b];exact ih
   ·have e':¬ q.1=k:=λ z=>e (h1.trans z)
    have a:decide (p.1≠k)=true:=by simp[e]
    have b:decide (q.1≠k)=true:=by simp[e']
    rw[if_pos a,if_pos b];exact .cons ⟨h1,h2⟩ ih
def KV.keys{aF:List (κ×V)}{vs:List (κ×qj)}(r:KV aF vs):aF.map (·.1)=vs.map (·.1):=by
 unfold KV at r
 induction r with
 |nil=>rfl|cons h t ih=>rw[yAh,yAh,ih,h.1]
def KV.length{aF:List (κ×V)}{vs:List (κ×qj)}(r:KV aF vs):aF.length=↑vs:=Paired.length r
end
def xU(r:aU (kV k) u):(fM P w).is k u=true:=by
 cases k with
 |inl i=>let(t,e):=(show ∃ t,u=Value.int i t from r);subst e;exact aOs P w i t
 |inr x=>let(t,e):=(show ∃ t,u=Value.str x t from r);subst e;exact aOx P w x t
def aHr:∀ {ks:List bE}{us:List qj},bA (ks.map kV) us->ItemsAre (fM P w) ks us
 |[],_,r=>by rw[yDn] at r;cases r;exact .nil
 |k::ks,_,r=>by
   rw[yAh] at r;cases r with
   |cons h t=>exact .cons (xU h) (aHr t)
noncomputable abbrev KT(H:Hp):List (List bE×V)->List (List bE×qw×qj)->Prop:=Paired λ p q=>p.1=q.1/\H q.2.1=qz (.tup (p.1.map kV))/\aU p.2 q.2.2
def KT.val{xs:List (List bE×qw×qj)}(r:KT H aF xs)(k:List bE):fW (jA aF k) ((atKey xs k).map (·.2)):=by
 induction r with
 |nil=>exact True.intro
 |@cons p q ps qs h t ih=>
   let(h1,_,h2):=h;by_cases e:p.1=k
   ·have e':q.1=k:=h1.symm.trans e;have b:atKey (q::qs) k=qz q.2:=by simp[atKey,yCo,e']
    rw[aDz e,b];exact h2
   ·have e':¬ q.1=k:=λ z=>e (h1.trans z)
    have b:atKey (q::qs) k=atKey qs k:=by simp[atKey,yCo,e']
    rw[aDq e,b];exact ih
def KT.repl{xs:List (List bE×qw×qj)}(r:KT H aF xs)(k:List bE)(ry:aU y u) :
 KT H (aF.map λ kv=>if kv.1=k then (kv.1,y) else kv) (xs.map (putAt k u)):=by
 induction r with
 |nil=>exact .nil
 |@cons p q ps qs h t ih=>
   rw[yAh,yAh];refine .cons ?_ ih;let(h1,h2,h3):=h;unfold putAt;by_cases e:p.1=k
   ·rw[if_pos e,if_pos (h1.symm.trans e)];exact⟨h1,h2,ry⟩
   ·rw[if_neg e,if_neg (λ z=>e (h1.trans z))];exact⟨h1,h2,h3⟩
def KT.put{xs:List (List bE×qw×qj)}(r:KT H aF xs)(k:List bE)(hb:H b=qz (.tup (k.map kV)))(ry:aU y u) :
 KT H (jD aF k y) (storedH xs k b u):=by
 have e:(aF.any λ kv=>decide (kv.1=k))=(atKey xs k).isSome:=by
  rw[aDA,(r.val k).isSome_eq,yHi]
 unfold jD storedH;rw[e];by_cases q:(atKey xs k).isSome=true
 ·rw[if_pos q,if_pos q];exact r.repl k ry
 ·rw[if_neg q,if_neg q];exact Paired.snoc r ⟨rfl,hb,ry⟩
def KT.keeps{xs:List (List bE×qw×qj)}(r:KT H aF xs)(ht:∀ b ys,H b=qz (.tup ys)->H' b=qz (.tup ys)):KT H' aF xs:=
 Paired.mapP r λ _ _ z=>⟨z.1,ht _ _ z.2.1,z.2.2⟩
def aMj(ok:bM P w H h)(e:Rd H a u):eQ P w H h a u:=e.ok ok
def xD(ok:bM P w H h)(e:Rd H a (.dK aF)):aF.length<=qk/\(a==sysModules)=false/\∃ vs,KV aF vs/\h.DictOf (fM P w) a vs:=
 show eQ P w H h a (.dK aF) from aMj ok e
def aWL(ok:bM P w H h)(e:H a=qz (.dK aF)):aF.length<=qk/\(a==sysModules)=false/\∃ vs,KV aF vs/\h.DictOf (fM P w) a vs:=xD ok (.inl e)
def wX{ks:List bE}(ok:bM P w H h)(e:H a=qz (.tup (ks.map kV))):(tupleKind (fM P w)).is h ks a:=by let(_,aG,r,o,h1,h2,n,h3):=(show eQ P w H h a (.tup (ks.map kV)) from ok a _ e);exact⟨o,aG.toArray,n,h1,h2,h3,by simpa using aHr r⟩
def xE(ok:bM P w H h)(e:Rd H a (.dT aF)):aF.length<=qk/\(a==sysModules)=false /\
 ∃ xs,KT H aF xs/\h.DictOfH (tupleKind (fM P w)) a xs:=by
 let(z,y,xs,r,o,es,ep,h1,h2,h3,h4,h5):=(show eQ P w H h a (.dT aF) from aMj ok e);refine⟨z,y,xs,r,o,es,ep,h1,h2,h3,h4,λ x hx=>?_,h5⟩;have all:∀ {l:List (List bE×V)}{m:List (List bE×qw×qj)},KT H l m->∀ x∈m,(tupleKind (fM P w)).is h x.1 x.2.1:=by
  intro l m q
  induction q with
  |nil=>intro x hx;exact nomatch hx
  |@cons p q ps qs hq t ih=>
    intro x hx;rcases List.mem_cons.mp hx with e|hx
    ·subst e;exact wX ok (by rw[<- hq.1];exact hq.2.1)
    ·exact ih x hx
 exact all r x hx
def aW4(ok:bM P w H h)(e:H a=qz (.dT aF)):aF.length<=qk/\(a==sysModules)=false /\
 ∃ xs,KT H aF xs/\h.DictOfH (tupleKind (fM P w)) a xs:=xE ok (.inl e)
def jC(H:Hp)(a:qw)(y:V)(r:Option V):Prop:=
 (∃ aF k,Rd H a (.dK aF)/\y=kV k/\r=jA aF k)\/∃ aF k b,Rd H a (.dT aF)/\y=.ref b/\H b=qz (.tup (k.map kV))/\r=jA aF k
def rH(H:Hp)(a:qw)(y v:V)(H':Hp):Prop:=
 (∃ aF k,H a=qz (.dK aF)/\y=kV k/\aF.length<qk/\H'=bF H a (.dK (jD aF k v))) \/
 ∃ aF k b,H a=qz (.dT aF)/\y=.ref b/\H b=qz (.tup (k.map kV))/\aF.length<qk/\H'=bF H a (.dT (jD aF k v))
def jC.k{H:Hp}{a:qw}{aF:List (bE×V)}{k:bE}(e:H a=qz (.dK aF)):jC H a (kV k) (jA aF k):=.inl ⟨aF,k,.inl e,rfl,rfl⟩
def jC.t{k:List bE}(e:H a=qz (.dT aF))(eb:H b=qz (.tup (k.map kV))):jC H a (.ref b) (jA aF k):=.inr ⟨aF,k,b,.inl e,rfl,eb,rfl⟩
def rH.k{H:Hp}{a:qw}{aF:List (bE×V)}{k:bE}{v:V}(e:H a=qz (.dK aF))(hl:aF.length<qk):rH H a (kV k) v (bF H a (.dK (jD aF k v))):=.inl ⟨aF,k,e,rfl,hl,rfl⟩
def rH.t{k:List bE}(e:H a=qz (.dT aF))(eb:H b=qz (.tup (k.map kV)))(hl:aF.length<qk) :
 rH H a (.ref b) v (bF H a (.dT (jD aF k v))):=.inr ⟨aF,k,b,e,rfl,eb,hl,rfl⟩
section
variable {X:Cx}{aB:List (qw×Obj)}{σ:St}{H:Hp}{s:qv}{a:qw}{y v:V}{u r:qj}{o:Option V}{A:zv}{E:qj->qv->Prop}
def Inv.big(I:Inv X aB σ H s):sysModules<s.heap.objs.size:=by have h:zy<s.heap.objs.size:=(I.mod.glob.keeps I.bk).lt;exact yFy (·) h
def aP0{Q:qj->qv->Prop}(hu:A.units+1<cLine)(I:Inv X aB σ H s)(g:jC H a y (qz v))(ry:aU y u)(h:∀ w' s',Inv X aB σ H s'->aU v w'->Q w' s') :
 qu (model X.prog X.w) A (getItem (.ref a) u) Q E s:=by
 rcases g with ⟨aF,k,e,ey,l⟩|⟨aF,k,b,e,ey,eb,l⟩
 ·subst ey;let(z,hd,vs,rel,dd):=xD I.hok e;let(w',hw,rw'):=fW.some_of (v:=v) (o:=valueAt vs k) (by rw[l];exact rel.val k);exact wpAny_getItem_of (xU ry) dd.mapOf hw (h w' _ (I.tok _) rw')
 ·subst ey;cases (show u=Value.ref b from ry);let(z,hd,xs,rel,dd):=xE I.hok e;let(w',hw,rw'):=fW.some_of (v:=v) (o:=(atKey xs k).map (·.2)) (by rw[l];exact rel.val k);let(p,hp,hp2):=Option.map_eq_some_iff.mp hw;refine wpAny_getItem_heap (tupleKind_room_in1 hu) (wX I.hok eb) dd hp ?_;rw[hp2];exact h w' _ (I.tok _) rw'
def aYV{Q:qj->qv->Prop}(hu:A.units+1<cLine)(I:Inv X aB σ H s)(g:jC H a y o)(ry:aU y u)(h:∀ s',Inv X aB σ H s'->Q (.bool o.isSome) s') :
 qu (model X.prog X.w) A (xw .In u (.ref a)) Q E s:=by
 rcases g with ⟨aF,k,e,ey,l⟩|⟨aF,k,b,e,ey,eb,l⟩
 ·subst ey;let(z,hd,vs,rel,dd):=xD I.hok e;refine wpAny_in_of (xU ry) hd dd.mapOf ?_;rw[<- (rel.val k).isSome_eq,<- l];exact h _ (I.tok _)
 ·subst ey;cases (show u=Value.ref b from ry);let(z,hd,xs,rel,dd):=xE I.hok e;refine wpAny_in_heap (tupleKind_room_in1 hu) (wX I.hok eb) hd dd ?_;have q:=(rel.val k).isSome_eq;rw[yHi] at q;rw[<- q,<- l];exact h _ (I.tok _)
def aR2{Q:qj->qv->Prop}(hu:A.units+1<cLine)(I:Inv X aB σ H s)(g:jC H a y o)(ry:aU y u)(h:∀ s',Inv X aB σ H s'->Q (.bool (!o.isSome)) s') :
 qu (model X.prog X.w) A (xw .NotIn u (.ref a)) Q E s:=by
 rcases g with ⟨aF,k,e,ey,l⟩|⟨aF,k,b,e,ey,eb,l⟩
 ·subst ey;let(z,hd,vs,rel,dd):=xD I.hok e;refine wpAny_notIn_of (xU ry) hd dd.mapOf ?_;rw[<- (rel.val k).isSome_eq,<- l];exact h _ (I.tok _)
 ·subst ey;cases (show u=Value.ref b from ry);let(z,hd,xs,rel,dd):=xE I.hok e;refine wpAny_notIn_heap (tupleKind_room_in1 hu) (wX I.hok eb) hd dd ?_;have q:=(rel.val k).isSome_eq;rw[yHi] at q;rw[<- q,<- l];exact h _ (I.tok _)
def aI2(I:Inv X aB σ H s)(mu:zM (H a))(hs:yCz a s.heap h')(he:∃ q,h'.get? a=qz q)(new:eQ X.prog X.w (bF H a ob) h' a ob) :
 Inv X aB σ (bF H a ob) {s with heap:=h',toks:=t' }:=
 I.write (x:=a) (e:=a) mu (.inl rfl) (λ b q hb z=>(hs.2 b hb).trans z) he new
def aTy{h':Heap}{aF:List (bE×V)}(z:aF.length<=qk)(hd:(a==sysModules)=false)(rel:KV aF vs)(dd:h'.DictOf (fM P w) a vs) :
 eQ P w H' h' a (.dK aF):=⟨z,hd,vs,rel,dd⟩
def aPk{Q:Unit->qv->Prop}(hu:A.units+1<cLine)(I:Inv X aB σ H s)(g:rH H a y v H')(ry:aU y u)(rv:aU v r)(h:∀ s',Inv X aB σ H' s'->Q () s') :
 qu (model X.prog X.w) A (setItem (.ref a) u r) Q E s:=by
 rcases g with ⟨aF,k,e,ey,l,eH⟩|⟨aF,k,b,e,ey,eb,l,eH⟩
 ·subst ey eH;let(z,hd,vs,rel,dd):=aWL I.hok e;have hz:↑vs<=qk:=by rw[<- rel.length];exact z
  have hl:(jD aF k v).length<=qk:=by have:=aGT aF k v;omega
  refine wpAny_setItem_pairs (hsz:=hz) (xU ry) dd λ h' dd' hs=>h _ ?_
  have he:∃ q,h'.get? a=qz q:=let ⟨q,_,_,hq,_⟩:=dd';⟨q,hq⟩;exact aI2 I (by rw[e];exact True.intro) hs he (aTy hl hd (rel.put k rv) dd')
 ·subst ey eH;cases (show u=Value.ref b from ry);let(z,hd,xs,rel,dd):=aW4 I.hok e;have hz:↑xs<=qk:=by rw[<- Paired.length rel];exact z
  have hl:(jD aF k v).length<=qk:=by have:=aGT aF k v;omega
  refine wpAny_setItem_heap (hsz:=hz) (tupleKind_room_in1 hu) (wX I.hok eb) dd λ h' dd' hs=>h _ ?_
  let(q,es,ep,hq,h2,h3,h4,_,h5):=dd';refine aI2 I (by rw[e];exact True.intro) hs ⟨q,hq⟩ ⟨hl,hd,_,(rel.put k eb rv).keeps λ c ys ec=>?_,q,es,ep,hq,h2,h3,h4,h5⟩;rw[bO (aXO ec e (λ z=>nomatch z))];exact ec
end
section
variable {X:Cx}{aB:List (qw×Obj)}{σ:St}{H:Hp}{s:qv}{a:qw}{aF:List (bE×V)}{k:bE}{u:qj}{A:zv}{E:qj->qv->Prop}
end
def aNh(i:qy):Prop:=∀ ov iv,subscripted i false ov iv=operate [ov,iv] (getItem ov iv)
def aSI{E:qj->qv->Prop}{id:String}{Q:qj->qv->Prop}(hl:typeLookup (.type T) "__getitem__" = pure (qz (.builtin id)))(hs:aNh iS)(h:qu (model prog w) A (eval value env) (λ o s₁=>qu (model prog w) A (eval iS env) (λ i s₂=>s₂.TypeIs o T/\qu (model prog w) A (getItem o i) Q E s₂) E s₁) E s) :
 qu (model prog w) A (eval (.Subscript value iS pos) env) Q E s:=by
 refine Subscript_ (wpAny_mono h (λ o s₁ h₁=>wpAny_mono h₁ (λ i s₂ h₂=>?_) λ _ _ x=>x) λ _ _ x=>x);let(hT,h₂):=h₂;unfold subscriptTail;refine wB ?_;rw[getitemInPython_of_ne hT.not_modules];refine wB (vw hT hl ?_);have bZ:qu (model prog w) A (subscripted iS false o i) (λ r s₃=>qu (model prog w) A (letTemporaryGo value o r >>= λ _=>pure r) Q E s₃) E s₂:=by
  rw[hs o i];exact wpAny_operating (wpAny_mono h₂ (λ r s₃ h₃=>wB (wpAny_letTemporaryGo (wP h₃))) λ _ _ x=>x)
 first
  |exact wP (wB bZ)
  |exact wB (wP (wB bZ))
  |exact wB bZ
def aOv(I:Inv X aB σ H s)(g:jC H a y o):s.TypeIs (.ref a) "dict":=by
 rcases g with ⟨aF,k,e,_,_⟩|⟨aF,k,b,e,_,_,_⟩
 ·let(_,_,vs,_,dd):=xD I.hok e;exact dd.typeIs
 ·let(_,_,xs,_,dd):=xE I.hok e;exact dd.typeIs
def aWC(td ty:TE):TE:=λ σ H Q=>td σ H λ x H1=>ty σ H1 λ y H2=>∃ a v,x=.ref a/\jC H2 a y (qz v)/\Q v H2
def aZN(ty td:TE):TE:=λ σ H Q=>ty σ H λ y H1=>td σ H1 λ x H2=>∃ a o,x=.ref a/\jC H2 a y o/\Q (.bl o.isSome) H2
def aSl(ty td:TE):TE:=λ σ H Q=>ty σ H λ y H1=>td σ H1 λ x H2=>∃ a o,x=.ref a/\jC H2 a y o/\Q (.bl (!o.isSome)) H2
def aXN(td ty tv:TE):TS:=λ D σ H=>tv σ H λ v H1=>td σ H1 λ x H2=>ty σ H2 λ y H3=>∃ a H4,x=.ref a/\rH H3 a y v H4/\D.nx σ H4
variable {X:Cx}
def aS2{td ty:TE}(hu:X.A.units+1<cLine)(ho:PE X o td)(hi:PE X i ty)(hs:aNh i):PE X (.Subscript o i pos) (aWC td ty):=by intro aB s σ H Q I h;refine aSI PySem.F.slot_dict_getitem.lookup hs (bD (ho aB s σ H _ I h) λ u s1 ⟨x,H1,I1,rx,q1⟩=>bD (hi aB s1 σ H1 _ I1 q1) λ iv s2 hPq35=>?_);let(y,H2,I2,ry,a,v,ex,g,q2):=hPq35;subst ex;obtain rfl:u=Value.ref a:=rx;exact⟨aOv I2 g,aP0 hu I2 g ry λ w' s3 I3 rw'=>⟨v,H2,I3,rw',q2⟩⟩
def aV1{td ty:TE}(hu:X.A.units+1<cLine)(hi:PE X i ty)(ho:PE X o td):PC X .In i o (aZN ty td):=by
 intro aB s σ H Q I h;refine bD (hi aB s σ H _ I h) λ iv s1 ⟨y,H1,I1,ry,q1⟩=>bD (ho aB s1 σ H1 _ I1 q1) λ u s2 hPq36=>?_
 let(x,H2,I2,rx,a,ov,ex,g,q2):=hPq36;subst ex;obtain rfl:u=Value.ref a:=rx;exact aYV hu I2 g ry λ s3 I3=>⟨.bl ov.isSome,H2,I3,rfl,q2⟩
def aPY{td ty:TE}(hu:X.A.units+1<cLine)(hi:PE X i ty)(ho:PE X o td):PC X .NotIn i o (aSl ty td):=by
 intro aB s σ H Q I h;refine bD (hi aB s σ H _ I h) λ iv s1 ⟨y,H1,I1,ry,q1⟩=>bD (ho aB s1 σ H1 _ I1 q1) λ u s2 hPq37=>?_
 let(x,H2,I2,rx,a,ov,ex,g,q2):=hPq37;subst ex;obtain rfl:u=Value.ref a:=rx;exact aR2 hu I2 g ry λ s3 I3=>⟨.bl (!ov.isSome),H2,I3,rfl,q2⟩
def aRr{pos:Pos}{td ty tv:TE}(hu:X.A.units+1<cLine)(ho:PE X o td)(hi:PE X i ty)(hv:PE X value tv)(hs:swapsWith value (qz (.Subscript o i pos')) pos.line X.env=pure false) :
 PS X (.Assign [.Subscript o i pos'] value pos) (aXN td ty tv):=by intro aB s σ H D I h;refine wpAny_Assign_Subscript (bD (hv aB s σ H _ I h) λ r s1 ⟨v,H1,I1,rv,q1⟩=>bD (ho aB s1 σ H1 _ I1 q1) λ u s2 ⟨x,H2,I2,rx,q2⟩=>bD (hi aB s2 σ H2 _ I2 q2) λ iv s3 hPq38=>?_) hs;let(y,H3,I3,ry,a,H4,ex,g,q3):=hPq38;subst ex;obtain rfl:u=Value.ref a:=rx;exact aPk hu I3 g ry rv λ s4 I4=>⟨σ,H4,I4,q3⟩
def aQ2(h:Heap)(hb:sysModules<h.objs.size):eQ P w H (h.push {cls:=.type "dict",data:=.dict #[] }) h.objs.size (.dT []):=
 ⟨yBv _,beq_eq_false_iff_ne.mpr (Ne.symm (xAj hb)),[],.nil,_,#[],0,xAd _ rfl,⟨rfl,rfl,rfl⟩,rfl,rfl,List.nodup_nil⟩
def aKe:TE:=λ _ H Q=>∀ p,H p=qx->Q (.ref p) (bF H p (.dT []))
def aIp:PE X (.Dict [] [] pos) aKe:=λ aB s σ H Q I h=>
 wpAny_Dict_empty ⟨.ref s.heap.objs.size,_,I.laid (a:=s.heap.objs.size) (o:=.dT []) (t':=s.toks) (λ _ _ q=>hpS _ q) (yAb _) (aQ2 s.heap I.big),rfl,h _ (I.hok.fresh (yAb _))⟩
end L2
namespace EV
open PySem L2 PySem.Spec PyProof.Rows
abbrev D:=PyData
inductive W0 where
 |d (x:D)|loc (n:Nat)|dic (n:Nat)
inductive W where
 |d (x:D)|loc (n:Nat)|exc (c:Str) (r:D)|dic (n:Nat)|ob (fs:List (Str×W0))|tpl (ws:List W0)
abbrev Lx:=List (qw×Bool)
noncomputable abbrev ad(L:Lx):List qw:=L.map Prod.fst
abbrev aC:=List (Option (List D))
abbrev bB:=List (Option W)
abbrev St:=L2.St
def aCd(F:Hp)(d:Option qw):D->Prop
 |.none=>d=qx|.int i=>∃ dx,d=qz dx/\F dx=qz (.xd [("row",.int i)])|_=>False
def xX(K:FrG)(F:Hp)(a:qw)(c:Str)(r:D):Prop:=∃ C oe,F a=qz (.ext λ h=>h.get? a=qz oe)/\oe.cls=.ref C/\PySem.W.notCls oe=true/\yCd K zy c=qz (qz (.ref C))/\aCd F oe.dict r
def aCd.mono(e:bT F F')(h:aCd F d r):aCd F' d r:=by
 cases r with
 |none=>exact h
 |int i=>let(dx,h1,h2):=h;exact⟨dx,h1,e _ _ h2⟩
 |_=>exact h
variable {K:FrG}
def xX.mono(e:bT F F')(h:xX K F a c r):xX K F' a c r:=by let(C,oe,h1,h2,h3,h4,h5):=h;exact⟨C,oe,e _ _ h1,h2,h3,h4,h5.mono e⟩
section
variable (K:FrG)(F:Hp)
mutual
inductive Den:D->V->Prop
 |non:Den .none .non
 |bl (b:Bool):Den (.bool b) (.bl b)
 |int (i:Int):Den (.int i) (.int i)
 |str (x:Str):Den (.str x) (.str x)
 |lst {a:qw}{xs:List V}{ds:List D}:bX K F a xs->DenL ds xs->Den (.list ds) (.ref a)
 |tup {a:qw}{xs:List V}{ds:List D}:cH K F a xs->DenL ds xs->Den (.tuple ds) (.ref a)
 |exc {a:qw}{c:Str}{r:D}:xX K F a c r->Den (.dict [(.str c,r)]) (.ref a)
inductive DenL:List D->List V->Prop
 |nil:DenL [] []
 |cons {d:D}{ds:List D}{x:V}{xs:List V}:Den d x->DenL ds xs->DenL (d::ds) (x::xs)
end
end
def nG{xs:List V}(e:bT H H')(h:cH K H a xs):cH K H' a xs:=by
 rcases h with (h|⟨o,h⟩)|h
 ·exact .inl (.inl (e _ _ h))
 ·exact .inl (.inr ⟨o,e _ _ h⟩)
 ·exact .inr h
mutual
theorem Den.mono{K:FrG}{F F':Hp}(e:bT F F'):∀ {d:D}{v:V},Den K F d v->Den K F' d v
 |_,_,.non=>.non|_,_,.bl b=>.bl b|_,_,.int i=>.int i|_,_,.str x=>.str x|_,_,.lst h r=>.lst (e.seq h) (DenL.mono e r)|_,_,.tup h r=>.tup (nG e h) (DenL.mono e r)|_,_,.exc h=>.exc (h.mono e)
theorem DenL.mono{K:FrG}{F F':Hp}(e:bT F F'):∀ {ds:List D}{xs:List V},DenL K F ds xs->DenL K F' ds xs
 |_,_,.nil=>.nil|_,_,.cons h r=>.cons (Den.mono e h) (DenL.mono e r)
end
section
variable {K:FrG}{F:Hp}
def DenL.length:∀ {ds:List D}{xs:List V},DenL K F ds xs->↑ds=↑xs
 |_,_,.nil=>rfl|_,_,.cons _ r=>congrArg (· + 1) (DenL.length r)
def DenL.get:∀ {ds:List D}{xs:List V}{i:Nat}{d:D},DenL K F ds xs->ds[i]?=qz d->∃ x,xs[i]?=qz x/\Den K F d x
 |_,_,_,_,.nil,e=>by simp at e|_,_,0,_,.cons h _,e=>by simp at e;subst e;exact⟨_,rfl,h⟩
 |_,_,i+1,d,.cons _ r,e=>by
   let(x,h1,h2):=DenL.get (i:=i) (d:=d) r (e:);exact⟨x,by simpa using h1,h2⟩
def DenL.append:∀ {ds es:List D}{xs ys:List V},DenL K F ds xs->DenL K F es ys->DenL K F (ds++es) (xs++ys)
 |_,_,_,_,.nil,s=>s|_,_,_,_,.cons h r,s=>.cons h (DenL.append r s)
def DenL.take:∀ {ds:List D}{xs:List V} (n:Nat),DenL K F ds xs->DenL K F (ds.take n) (xs.take n)
 |_,_,0,_=>.nil|_,_,_+1,.nil=>.nil|_,_,n+1,.cons h r=>.cons h (DenL.take n r)
def DenL.drop:∀ {ds:List D}{xs:List V} (n:Nat),DenL K F ds xs->DenL K F (ds.drop n) (xs.drop n)
 |_,_,0,r=>r|_,_,_+1,.nil=>.nil|_,_,n+1,.cons _ r=>DenL.drop n r
def DenL.set:∀ {ds:List D}{xs:List V} (i:Nat) {d:D}{x:V},DenL K F ds xs->Den K F d x->DenL K F (ds.set i d) (xs.set i x)
 |_,_,_,_,_,.nil,_=>.nil|_,_,0,_,_,.cons _ r,h=>.cons h r|_,_,i+1,_,_,.cons q r,h=>.cons q (DenL.set i r h)
def DenL.rep{ds:List D}{xs:List V}(h:DenL K F ds xs):∀ n:Nat,DenL K F (yAe n ds).flatten (yAe n xs).flatten
 |0=>.nil
 |n+1=>by
   rw[yAw,yAw,yDb,yDb];exact h.append (DenL.rep h n)
def DenL.of_ints:∀ (ns:List Int),DenL K F (ns.map yAn) (ns.map V.int)
 |[]=>.nil|n::r=>.cons (.int n) (DenL.of_ints r)
end
def kD:bE->D
 |.inl i=>.int i|.inr x=>.str x
def kK(p:List bE×Int):D:=.tuple [.tuple (p.1.map kD),.int p.2]
structure Rel(K:FrG)(F:Hp)(L:Lx)(S:aC)(H:Hp):Prop where
 sub:bT F H
 nd:(ad L).Nodup
 len:↑L=↑S
 loc:∀ (n:Nat) (a:qw) (ds:List D),L[n]?=qz (a,false)->S[n]?=qz (qz ds)->F a=qx/\∃ xs,H a=qz (.lst xs)/\DenL K F ds xs
 dic:∀ (n:Nat) (a:qw) (ds:List D),L[n]?=qz (a,true)->S[n]?=qz (qz ds)->F a=qx/\∃ es:List (List bE×Int),ds=es.map kK/\H a=qz (.dT (es.map λ p=>(p.1,V.int p.2)))
 tr:∀ (n:Nat) (a:qw) (b:Bool),L[n]?=qz (a,b)->∃ o,H a=qz o/\(b=false->∃ xs,o=.lst xs)
def kF(K:FrG)(F:Hp)(L:Lx):W0->V->Prop
 |.d x,v=>Den K F x v|.loc n,v=>∃ a,L[n]?=qz (a,false)/\v=.ref a|.dic n,v=>∃ a,L[n]?=qz (a,true)/\v=.ref a
noncomputable abbrev pL(K:FrG)(F:Hp)(L:Lx):List W0->List V->Prop:=Paired (kF K F L)
noncomputable abbrev nF(K:FrG)(F:Hp)(L:Lx):List (Str×W0)->List (Str×V)->Prop:=Paired λ p q=>p.1=q.1/\kF K F L p.2 q.2
def dM(K:FrG)(F:Hp)(L:Lx):W->V->Prop
 |.d x,v=>Den K F x v|.loc n,v=>∃ a,L[n]?=qz (a,false)/\v=.ref a|.exc c r,v=>∃ a,v=.ref a/\xX K F a c r|.dic n,v=>∃ a,L[n]?=qz (a,true)/\v=.ref a|.ob fs,v=>∃ a C dx vs,v=.ref a/\F a=qz (.ins C dx vs)/\yCd K zy "Maker" = qz (qz (.ref C))/\nF K F L fs vs|.tpl ws,v=>∃ a vs,v=.ref a/\F a=qz (.tup vs)/\pL K F L ws vs
structure EnvR(K:FrG)(F:Hp)(L:Lx)(env:bB)(σ:St):Prop where
 len:env.length=σ.length
 get:∀ (i:Nat) (w:W),env[i]?=qz (qz w)->∃ v,σ[i]?=qz (qz v)/\dM K F L w v
structure Gr(F:Hp)(L:Lx)(F':Hp)(L':Lx):Prop where
 f:bT F F'
 l:∃ M,L'=L++M
def Gr.refl:Gr F L F L:=⟨bT.refl _,[],by simp⟩
def Gr.trans(a:Gr F L F' L')(b:Gr F' L' F'' L''):Gr F L F'' L'':=by let(f1,M,rfl):=a;let(f2,N,rfl):=b;exact⟨f1.trans f2,M++N,by rw[yBp]⟩
def Gr.get{F F':Hp}{L L':Lx}(g:Gr F L F' L'){n:Nat}{a:qw×Bool}(h:L[n]?=qz a):L'[n]?=qz a:=by let(_,M,rfl):=g;rw[xAm (gIm h).1];exact h
def kF.mono(g:Gr F L F' L')(h:kF K F L w v):kF K F' L' w v:=by
 cases w with
 |d x=>exact Den.mono g.f h
 |loc n=>let(a,e,r):=h;exact⟨a,g.get e,r⟩
 |dic n=>let(a,e,r):=h;exact⟨a,g.get e,r⟩
def dM.mono(g:Gr F L F' L')(h:dM K F L w v):dM K F' L' w v:=by
 cases w with
 |d x=>exact Den.mono g.f h
 |loc n=>let(a,e,r):=h;exact⟨a,g.get e,r⟩
 |exc c r=>let(a,e,h):=h;exact⟨a,e,h.mono g.f⟩
 |dic n=>let(a,e,r):=h;exact⟨a,g.get e,r⟩
 |ob fs=>let(a,C,dx,vs,e,h1,h2,h3):=h;exact⟨a,C,dx,vs,e,g.f _ _ h1,h2,L2.Paired.mapP h3 λ _ _ q=>⟨q.1,q.2.mono g⟩⟩
 |tpl ws=>let(a,vs,e,h1,h3):=h;exact⟨a,vs,e,g.f _ _ h1,L2.Paired.mapP h3 λ _ _ q=>q.mono g⟩
def EnvR.mono(g:Gr F L F' L')(h:EnvR K F L env σ):EnvR K F' L' env σ:=
 ⟨h.len,λ i w e=>let ⟨v,e1,r⟩:=h.get i w e;⟨v,e1,r.mono g⟩⟩
def EnvR.set(h:EnvR K F L env σ)(i:Nat)(r:dM K F L w v):EnvR K F L (env.set i (qz w)) (σ.set i (qz v)):=by
 refine⟨by rw[yBa,yBa];exact h.len,λ j u e=>?_⟩;by_cases hj:i=j
 ·subst hj;have hl:i<env.length:=by
   rcases Nat.lt_or_ge i env.length with q|q
   ·exact q
   ·rw[yCp (by rw[yBa];exact q)] at e;cases e
  rw[yAr hl] at e;cases e;exact⟨v,yAr (by rw[<- h.len];exact hl),r⟩
 ·rw[yAq hj] at e;let(x,e1,r1):=h.get j u e;exact⟨x,by rw[yAq hj];exact e1,r1⟩
def gD(h:H p=qx):bT H (bF H p o):=λ b u q=>by rw[bO (eP q h)];exact q
def aEq{L:Lx}{n:Nat}{a:qw}{b:Bool}(h:L[n]?=qz (a,b)):a∈ad L:=List.mem_map.mpr ⟨_,xAk h,rfl⟩
def Rel.inj{F H:Hp}{L:Lx}{S:aC}(r:Rel K F L S H){n m:Nat}{a:qw}{b c:Bool}(e:L[n]?=qz (a,b))(e1:L[m]?=qz (a,c)):n=m:=by
 have h1:(ad L)[n]?=qz a:=by rw[yAd,e];rfl
 have h2:(ad L)[m]?=qz a:=by rw[yAd,e1];rfl
 let(l1,g1):=gIm h1;let(l2,g2):=gIm h2;exact(List.getElem_inj r.nd).mp (g1.trans g2.symm)
def Rel.trl{F H:Hp}{L:Lx}{S:aC}(r:Rel K F L S H){n:Nat}{a:qw}(e:L[n]?=qz (a,false)):∃ xs,H a=qz (.lst xs):=by let(o,ho,h):=r.tr n a false e;let(xs,rfl):=h rfl;exact⟨xs,ho⟩
def Rel.notin(r:Rel K F L S H)(h:H p=qx):p ∉ ad L:=λ hp=>by
 let(n,hn):=yGg hp;rw[yAd] at hn;cases e:L[n]? with
 |none=>rw[e] at hn;cases hn
 |some q=>
   rw[e] at hn;cases hn;let(o,ho,_):=r.tr n q.1 q.2 e;rw[h] at ho;cases ho
def Rel.new(r:Rel K F L S H)(h:H p=qx):Rel K (bF F p o) L S (bF H p o):=by
 have hF:F p=qx:=r.sub.free h;refine⟨λ b u q=>?_,r.nd,r.len,λ n a ds e1 e2=>?_,λ n a ds e1 e2=>?_,λ n a b e=>?_⟩
 ·by_cases hb:b=p
  ·subst hb;rw[cO] at q ⊢;exact q
  ·rw[bO hb] at q ⊢;exact r.sub _ _ q
 ·let(f,xs,e3,dl):=r.loc n a ds e1 e2;have ne:a≠p:=eP e3 h;exact⟨by rw[bO ne];exact f,xs,by rw[bO ne];exact e3,DenL.mono (gD hF) dl⟩
 ·let(f,es,e3,e4):=r.dic n a ds e1 e2;have ne:a≠p:=eP e4 h;exact⟨by rw[bO ne];exact f,es,e3,by rw[bO ne];exact e4⟩
 ·let(o,hx,hy):=r.tr n a b e;exact⟨o,by rw[bO (eP hx h)];exact hx,hy⟩
def Gr.new(h:F p=qx):Gr F L (bF F p o) L:=⟨gD h,[],by simp⟩
def Rel.lay(r:Rel K F L S H)(h:H p=qx):Rel K F L S (bF H p o):=by
 refine⟨λ b u q=>by rw[bO (eP q (r.sub.free h))];exact r.sub _ _ q,r.nd,r.len,λ n a ds e1 e2=>?_,λ n a ds e1 e2=>?_,λ n a b e=>?_⟩
 ·let(f,xs,e3,dl):=r.loc n a ds e1 e2;exact⟨f,xs,by rw[bO (eP e3 h)];exact e3,dl⟩
 ·let(f,es,e3,e4):=r.dic n a ds e1 e2;exact⟨f,es,e3,by rw[bO (eP e4 h)];exact e4⟩
 ·let(o,hx,hy):=r.tr n a b e;exact⟨o,by rw[bO (eP hx h)];exact hx,hy⟩
def Rel.adoptO(r:Rel K F L S H)(hF:F p=qx)(hL:p ∉ ad L)(hH:H p=qz o):Rel K (bF F p o) L S H:=by
 refine⟨λ b u q=>?_,r.nd,r.len,λ n a ds e1 e2=>?_,λ n a ds e1 e2=>?_,r.tr⟩
 ·by_cases hb:b=p
  ·subst hb;rw[cO] at q;rw[hH];exact q
  ·rw[bO hb] at q;exact r.sub _ _ q
 ·let(f,ys,e3,dl):=r.loc n a ds e1 e2;have ne:a≠p:=λ z=>hL (by rw[<- z];exact aEq e1)
  exact⟨by rw[bO ne];exact f,ys,e3,dl.mono (gD hF)⟩
 ·let(f,es,e3,e4):=r.dic n a ds e1 e2;have ne:a≠p:=λ z=>hL (by rw[<- z];exact aEq e1)
  exact⟨by rw[bO ne];exact f,es,e3,e4⟩
def Rel.adopt(r:Rel K F L S H){xs:List V}(hF:F p=qx)(hL:p ∉ ad L)(hH:H p=qz (.lst xs)):Rel K (bF F p (.lst xs)) L S H:=r.adoptO hF hL hH
def Rel.adoptC(r:Rel K F L S H)(hL:p ∉ ad L)(hp:∃ o,H p=qz o/\(b=false->∃ xs,o=.lst xs))(h0:b=false->F p=qx/\∃ xs,H p=qz (.lst xs)/\DenL K F ds xs)(h1:b=true->F p=qx/\∃ es:List (List bE×Int),ds=es.map kK/\H p=qz (.dT (es.map λ p=>(p.1,V.int p.2)))):Rel K F (L++[(p,b)]) (S++[qz ds]) H:=by
 have last:∀ {n:Nat}{a:qw}{c:Bool}{es:List D},(L++[(p,b)])[n]?=qz (a,c)->(S++[qz ds])[n]?=qz (qz es)->(L[n]?=qz (a,c)/\S[n]?=qz (qz es))\/(a=p/\c=b/\es=ds):=λ {n a c es} e1 e2=>by
  by_cases hn:n<↑L
  ·rw[xAm hn] at e1;rw[xAm (by rw[<- r.len];exact hn)] at e2;exact .inl ⟨e1,e2⟩
  ·rw[yAf (!_)] at e1;rw[yAf (by rw[<- r.len];omega)] at e2;have z:n-↑L=0:=by
    have:=(gIm e1).1;simp at this;omega
   rw[<- r.len] at e2;rw[z] at e1 e2;cases e1;cases e2;exact .inr ⟨rfl,rfl,rfl⟩
 refine⟨r.sub,?_,by rw[yAo,yAo,r.len]<;>rfl,λ n a es e1 e2=>?_,λ n a es e1 e2=>?_,λ n a c e=>?_⟩
 ·simp only[ad,yAv];rw[List.nodup_append];refine⟨r.nd,by simp,λ a ha b hb=>?_⟩;have hb:b=p:=(hb:)
  subst hb;exact λ z=>hL (z▸ha)
 ·rcases last e1 e2 with ⟨q1,q2⟩|⟨rfl,q2,rfl⟩
  ·exact r.loc n a es q1 q2
  ·exact h0 q2.symm
 ·rcases last e1 e2 with ⟨q1,q2⟩|⟨rfl,q2,rfl⟩
  ·exact r.dic n a es q1 q2
  ·exact h1 q2.symm
 ·by_cases hn:n<↑L
  ·rw[xAm hn] at e;exact r.tr n a c e
  ·rw[yAf (!_)] at e;have h1:=xAk e;rw[yGx] at h1;cases h1;exact hp
def Rel.adoptLoc(r:Rel K F L S H){xs:List V}(hF:F p=qx)(hL:p ∉ ad L)(hH:H p=qz (.lst xs))(dl:DenL K F ds xs):Rel K F (L++[(p,false)]) (S++[qz ds]) H:=
 r.adoptC hL ⟨_,hH,λ _=>⟨xs,rfl⟩⟩ (λ _=>⟨hF,xs,hH,dl⟩) λ z=>(nomatch z)
def Rel.newLoc(r:Rel K F L S H){xs:List V}(h:H p=qx)(dl:DenL K F ds xs):Rel K F (L++[(p,false)]) (S++[qz ds]) (bF H p (.lst xs)):=
 (r.lay h).adoptLoc (r.sub.free h) (r.notin h) cO dl
def Rel.newDic(r:Rel K F L S H)(h:H p=qx):Rel K F (L++[(p,true)]) (S++[qz []]) (bF H p (.dT [])):=
 (r.lay h).adoptC (r.notin h) ⟨_,cO,λ z=>(nomatch z)⟩ (λ z=>(nomatch z)) λ _=>⟨r.sub.free h,[],rfl,cO⟩
def Gr.newLoc:Gr F L F (L++[p]):=⟨bT.refl _,[p],rfl⟩
def Rel.putC(r:Rel K F L S H)(e:L[n]?=qz (a,c))(hF:F a=qx)(h0:c=false->∃ ys,o=.lst ys/\DenL K F es ys)(h1:c=true->∃ ks:List (List bE×Int),es=ks.map kK/\o=.dT (ks.map λ p=>(p.1,V.int p.2))):Rel K F L (S.set n (qz es)) (bF H a o):=by
 have hl:n<↑S:=by rw[<- r.len];exact(gIm e).1
 refine⟨λ b u q=>by rw[bO (eP q hF)];exact r.sub _ _ q,r.nd,by rw[yBa];exact r.len,λ m b fs e1 e2=>?_,λ m b fs e1 e2=>?_,λ m b d e1=>?_⟩
 ·by_cases hm:n=m
  ·subst hm;rw[e] at e1;cases e1;rw[yAr hl] at e2;cases e2;let(ys,rfl,dl):=h0 rfl;exact⟨hF,ys,cO,dl⟩
  ·rw[yAq hm] at e2;have ne:b≠a:=λ z=>hm (r.inj e (z▸e1))
   let(f,xs,e3,d3):=r.loc m b fs e1 e2;exact⟨f,xs,by rw[bO ne];exact e3,d3⟩
 ·by_cases hm:n=m
  ·subst hm;rw[e] at e1;cases e1;rw[yAr hl] at e2;cases e2;let(ks,h2,rfl):=h1 rfl;exact⟨hF,ks,h2,cO⟩
  ·rw[yAq hm] at e2;have ne:b≠a:=λ z=>hm (r.inj e (z▸e1))
   let(f,xs,e3,d3):=r.dic m b fs e1 e2;exact⟨f,xs,e3,by rw[bO ne];exact d3⟩
 ·by_cases hb:b=a
  ·subst hb;obtain rfl:n=m:=r.inj e e1;rw[e] at e1;cases e1;exact⟨o,cO,λ z=>(h0 z).imp λ _ q=>q.1⟩
  ·let(zs,hz,hy):=r.tr m b d e1;exact⟨zs,by rw[bO hb];exact hz,hy⟩
def Rel.put(r:Rel K F L S H)(e:L[n]?=qz (a,false))(hF:F a=qx)(dl:DenL K F es ys):Rel K F L (S.set n (qz es)) (bF H a (.lst ys)):=
 r.putC e hF (λ _=>⟨ys,rfl,dl⟩) λ z=>(nomatch z)
def Rel.freeze{F H:Hp}{L:Lx}{S:aC}(r:Rel K F L S H){n:Nat}{a:qw}{ds:List D}(e:L[n]?=qz (a,false))(es:S[n]?=qz (qz ds)) :
 ∃ F',Gr F L F' L/\Rel K F' L (S.set n qx) H/\Den K F' (.list ds) (.ref a):=by
 let(hF,xs,e3,dl):=r.loc n a ds e es;have hl:n<↑S:=(gIm es).1;refine⟨bF F a (.lst xs),Gr.new hF,⟨λ b u q=>?_,r.nd,by rw[yBa];exact r.len,λ m b fs e1 e2=>?_,λ m b fs e1 e2=>?_,r.tr⟩,.lst (bX.of cO) (dl.mono (gD hF))⟩
 ·by_cases hb:b=a
  ·subst hb;rw[cO] at q;rw[e3];exact q
  ·rw[bO hb] at q;exact r.sub _ _ q
 ·by_cases hm:n=m
  ·subst hm;rw[yAr hl] at e2;cases e2
  ·rw[yAq hm] at e2;have ne:b≠a:=λ z=>hm (r.inj e (z▸e1))
   let(f,ys,e4,d4):=r.loc m b fs e1 e2;exact⟨by rw[bO ne];exact f,ys,e4,d4.mono (gD hF)⟩
 ·by_cases hm:n=m
  ·subst hm;rw[yAr hl] at e2;cases e2
  ·rw[yAq hm] at e2;have ne:b≠a:=λ z=>hm (r.inj e (z▸e1))
   let(f,ys,e4,d4):=r.dic m b fs e1 e2;exact⟨by rw[bO ne];exact f,ys,e4,d4⟩
def Rel.cut(r:Rel K F (L++M) S H):Rel K F L (S.take ↑L) H:=by
 have hl:↑L<=↑S:=by have:=r.len;rw[yAo] at this;omega
 have nd:=r.nd;simp only[ad,yAv] at nd;have lt:∀ {n:Nat}{q:qw×Bool},L[n]?=qz q->n<↑L:=λ e=>(gIm e).1
 refine⟨r.sub,(List.nodup_append.mp nd).1,by rw[yBk];omega,λ n a ds e1 e2=>?_,λ n a ds e1 e2=>?_,λ n a b e1=>?_⟩
 ·rw[yDt (lt e1)] at e2;exact r.loc n a ds (by rw[xAm (lt e1)];exact e1) e2
 ·rw[yDt (lt e1)] at e2;exact r.dic n a ds (by rw[xAm (lt e1)];exact e1) e2
 ·exact r.tr n a b (by rw[xAm (lt e1)];exact e1)
def bW(K:FrG)(F H:Hp)(x:D)(v:V):Prop:=Den K F x v\/∃ ds a xs,x=.list ds/\v=.ref a/\H a=qz (.lst xs)/\DenL K F ds xs
def eX:List W0->Option (List D)
 |[]=>qz []|.d x::r=>(eX r).map (x :: ·)|_=>qx
def dr(S:aC):W->Option D
 |.d x=>qz x
 |.loc n=>match S[n]? with
   |some (qz ds)=>qz (.list ds)|_=>qx
 |.tpl ws=>(eX ws).map yAk|_=>qx
def vZ:∀ {ws:List W0}{vs:List V}{ds:List D},pL K F L ws vs->eX ws=qz ds->DenL K F ds vs
 |[],_,_,.nil,e=>by cases e;exact .nil
 |.d x::ws,_,ds,.cons h r,e=>by
   cases q:eX ws with
   |none=>rw[eX,q] at e;cases e|some es=>rw[eX,q] at e;cases e;exact .cons h (vZ r q)
 |.loc n::ws,_,ds,.cons h r,e=>by cases e|.dic n::ws,_,ds,.cons h r,e=>by cases e
def wd:W->Option D
 |.d x=>qz x|.tpl ws=>(eX ws).map yAk|_=>qx
def aBj(h:dM K F L w v)(e:wd w=qz x):Den K F x v:=by
 cases w with
 |d y=>cases e;exact h
 |tpl ws=>
   let(a,vs,rfl,h1,h2):=h;cases q:eX ws with
   |none=>rw[wd,q] at e;cases e|some ds=>rw[wd,q] at e;cases e;exact .tup (.inl (.inl h1)) (vZ h2 q)
 |exc c r=>cases e|dic n=>cases e|ob fs=>cases e|loc n=>cases e
def kW(r:Rel K F L S H)(h:dM K F L w v)(e:dr S w=qz x):bW K F H x v:=by
 cases w with
 |d y=>cases e;exact .inl h|exc c r=>cases e|dic n=>cases e|ob fs=>cases e
 |tpl ws=>
   let(a,vs,rfl,h1,h2):=h;cases q:eX ws with
   |none=>rw[dr,q] at e;cases e|some ds=>rw[dr,q] at e;cases e;exact .inl (.tup (.inl (.inl h1)) (vZ h2 q))
 |loc n=>
   let(a,e1,rfl):=h;cases e2:S[n]? with
   |none=>simp[dr,e2] at e
   |some o=>
     cases o with
     |none=>simp[dr,e2] at e
     |some ds=>
       simp[dr,e2] at e;subst e;let(f,xs,e3,dl):=r.loc n a ds e1 e2;exact .inr ⟨ds,a,xs,rfl,rfl,e3,dl⟩
def bW.non(h:bW K F H .none v):v=.non:=by
 rcases h with h|⟨_,_,_,e,_⟩
 ·cases h;rfl
 ·cases e
def bW.bl(h:bW K F H (.bool b) v):v=.bl b:=by
 rcases h with h|⟨_,_,_,e,_⟩
 ·cases h;rfl
 ·cases e
def bW.int{i:Int}(h:bW K F H (.int i) v):v=.int i:=by
 rcases h with h|⟨_,_,_,e,_⟩
 ·cases h;rfl
 ·cases e
def bW.str(h:bW K F H (.str x) v):v=.str x:=by
 rcases h with h|⟨_,_,_,e,_⟩
 ·cases h;rfl
 ·cases e
def bW.lst{F H:Hp}{v:V}{ds:List D}(s:bT F H)(h:bW K F H (.list ds) v):∃ a xs,v=.ref a/\bX K H a xs/\DenL K F ds xs:=by
 rcases h with h|⟨_,a,xs,e,e2,e3,dl⟩
 ·cases h with|lst q r=>exact⟨_,_,rfl,s.seq q,r⟩
 ·cases e;exact⟨a,xs,e2,bX.of e3,dl⟩
def bW.tup{F H:Hp}{v:V}{ds:List D}(s:bT F H)(h:bW K F H (.tuple ds) v):∃ a xs,v=.ref a/\cH K H a xs/\DenL K F ds xs:=by
 rcases h with h|⟨_,_,_,e,_⟩
 ·cases h with|tup q r=>exact⟨_,_,rfl,nG s q,r⟩
 ·cases e
def aNU:fillsNumberSlot (.type "tuple") "mul" = pure false:=
 PySem.fillsNumberSlot_seq (id:="tuple.__mul__") (r:=qz (.builtin "tuple.__rmul__")) PySem.F.slot_tuple_mul.lookup (by decide +kernel) PySem.F.slot_tuple_rmul.lookup (by decide +kernel)
def aOf:seqRepeat? (.type "tuple")=pure (qz (.builtin "tuple.__mul__")):=by unfold seqRepeat?;rw[PySem.seqSlot_of (T:="tuple") (name:="__mul__") (id:="tuple.__mul__") PySem.F.slot_tuple_mul.lookup (by decide +kernel),PySem.seqSlot_of (T:="tuple") (name:="__rmul__") (id:="tuple.__rmul__") PySem.F.slot_tuple_rmul.lookup (by decide +kernel)];rfl
def aNZ(a:Int)(t:Tok)(l:qw)(aZ:Array qj)(n:Nat)(d:Option qw)(sl:Array (Option qj)) :
 Meets (Builtin.«int.__rmul__» ⟨[.int a t,.ref l],[]⟩) (λ _ R s=>s.heap.get? l=qz {cls:=.type "tuple",dict:=d,data:=.seq aZ n,slots:=sl }/\R (.ok (.ret Value.notImplemented)) s):=
 .of_wp λ prog w A R s h=>by let(hp,g,d,tk,os):=s;let(hl,h):=h;wp_walk;exact⟨_,rfl,h⟩
def aN5(l:qw)(aZ:Array qj)(n:Nat)(d:Option qw)(sl:Array (Option qj))(t:Tok) :
 Meets (Builtin.«tuple.__mul__» ⟨[.ref l,.int 1 t],[]⟩) (λ _ R s=>s.heap.get? l=qz {cls:=.type "tuple",dict:=d,data:=.seq aZ n,slots:=sl }/\R (.ok (.ret (.ref l))) s):=
 .of_wp λ prog w A R s h=>by
  let(hp,g,d,tk,os):=s;let(hl,h):=h
  wp_walk
  exact⟨_,rfl,h⟩
def aN0(l:qw)(x:qj)(n:Nat)(d:Option qw)(sl:Array (Option qj))(t:Tok) :
 Meets (Builtin.«tuple.__mul__» ⟨[.ref l,.int 0 t],[]⟩) (λ _ R s=>s.heap.get? l=qz {cls:=.type "tuple",dict:=d,data:=.seq #[x] n,slots:=sl }/\R (.ok (.ret (.ref s.heap.objs.size))) {s with heap:=s.heap.push {cls:=.type "tuple",data:=.seq #[] } }):=
 .of_wp λ prog w A R s h=>by
  let(hp,g,d,tk,os):=s;let(hl,h):=h
  wp_walk
  exact⟨_,rfl,h⟩
def aAJ(x:qj):∀ (k:Nat) (aM:Array qj),(yAe k #[x]).foldl (· ++ ·) aM=aM++(yAe k x).toArray
 |0,aM=>by simp
 |k+1,aM=>by
   rw[yAw,yBb,aAJ x k];apply Array.ext';simp[yAw]
def aN3(l:qw)(x:qj)(n:Nat)(d:Option qw)(sl:Array (Option qj))(k:Nat)(hk:2<=k)(hk2:k<=1000)(t:Tok) :
 Meets (Builtin.«tuple.__mul__» ⟨[.ref l,.int k t],[]⟩) (λ _ R s=>s.heap.get? l=qz {cls:=.type "tuple",dict:=d,data:=.seq #[x] n,slots:=sl }/\R (.ok (.ret (.ref s.heap.objs.size))) {s with heap:=s.heap.push {cls:=.type "tuple",data:=.seq (yAe k x).toArray } }):=
 .of_wp λ prog w A R s h=>by
  let(hp,g,d,tk,os):=s;let(hl,h):=h;have c1:(decide (((k:Nat):Int) < -(2^63))||decide (((k:Nat):Int) ≥ 2^63))=false:=by simp;omega
  have c2:(((k:Nat):Int)==1)=false:=by rw[beq_eq_false_iff_ne];omega
  have c3:decide (((k:Nat):Int)<=0)=false:=dqF (!_);have c4:((#[x]:Array qj).isEmpty||(((k:Nat):Int)==1))=false:=by rw[c2];rfl
  have c5:(decide (((k:Nat):Int)<=0)||(#[x]:Array qj).isEmpty)=false:=by rw[c3];rfl
  have c6:¬ (((#[x]:Array qj).size:Int)*((k:Nat):Int)>(2^63-1)/8):=by
   show ¬ (((1:Nat):Int)*((k:Nat):Int)>(2^63-1)/8);omega
  have hsz:qk=16777216:=by decide
  have c7:yGr (((#[x]:Array qj).size:Int)*((k:Nat):Int))=false:=by
   unfold yGr;refine dqF ?_;show ¬ (((1:Nat):Int)*((k:Nat):Int)>((qk:Nat):Int));omega
  wp_walk
  rw[if_neg (by rw[c1];exact yBg)];refine wB (wpAny_tupleItemsOf hl rfl ?_);simp only[c4,c5,c6,c7,yAt,if_false];rw[yAs,aAJ,show(#[]:Array qj)++(yAe k x).toArray=(yAe k x).toArray by simp];refine wB (m:=yCq _) (xj (wP ⟨_,rfl,h⟩) ?_);show(yAe k x).toArray.size<=qk;rw[yAi,yEi,hsz];omega
section
variable {X:Cx}{aB:List (qw×Obj)}{σ:L2.St}{H:Hp}{s:qv}{Q:VK}
def aIb(r:aU x u):∀ k:Nat,bA (yAe k x) (yAe k u)
 |0=>.nil|k+1=>.cons r (aIb r k)
def aZo(I:Inv X aB σ H s)(ha:cH X.K H a [x])(hk:k<=1000)(q1:k=1->Q (.ref a) H)(q:∀ p,H p=qx->Q (.ref p) (bF H p (.tup (yAe k x)))):qu (model X.prog X.w) X.A (zk .Mult (.ref a) (.int k t)) (EP X aB σ Q) X.xe s:=by
 let(aG,r1,p1,_):=I.tuple ha;obtain⟨u,rfl,ru⟩:∃ u,aG=[u]/\aU x u:=by
  cases r1 with
  |cons r r'=>cases r';exact⟨_,rfl,r⟩
 let((cls,d,data,sl),ho,hcl,n,hd):=p1;simp only at hcl hd;subst hcl hd;have hsz:qk=16777216:=by decide
 have bZ:∀ (aG:List qj),aG=yAe k u->EP X aB σ Q (.ref s.heap.objs.size) {s with heap:=s.heap.push {cls:=.type "tuple",data:=.seq aG.toArray } }:=λ aG e=>by
  subst e;exact⟨.ref _,_,I.laid (t':=s.toks) (o:=.tup (yAe k x)) (λ b ob q=>hpS _ q) (yAb _) ⟨by rw[yEi,hsz];omega,_,aIb ru k,⟨_,xAd _ rfl,rfl,0,rfl⟩⟩,rfl,q _ (I.hok.fresh (yAb _))⟩
 refine wq (T:="tuple") (U:="int") (·) ⟨_,ho,rfl⟩ (λ s'=>vk s' k t) aNU PySem.F.fills_int_mul yEj aOf PySem.F.slot_int_index.lookup
  (jz yEj (vk s k t) PySem.F.entry_int_rmul (PySem.F.args_int_rmul_2 _ _) (aNZ k t a _ n d sl)
    ⟨ho,rfl,⟨_,ho,rfl⟩,?_⟩)
 by_cases h1:k=1
 ·subst h1;exact jz yFt ⟨_,ho,rfl⟩ yFl (yFg _ _) (aN5 a _ n d sl t) ⟨ho,.ref a,H,I,rfl,q1 rfl⟩
 ·by_cases h0:k=0
  ·subst h0;exact jz yFt ⟨_,ho,rfl⟩ yFl (yFg _ _) (aN0 a u n d sl t) ⟨ho,bZ [] rfl⟩
  ·exact jz yFt ⟨_,ho,rfl⟩ yFl (yFg _ _) (aN3 a u n d sl k (!_) hk t) ⟨ho,bZ _ rfl⟩
end
def oX(i j:Int):Bool:=!(decide (yAm i>vv)&&decide (yAm j>vv)&&Builtin.Int.intTooBig (yAm i+yAm j))
def yZ{α:Type}(n:Nat)(xs:List α):List α:=(yAe n xs).flatten
def aFo:D->D->Option D
 |.int i,.int j=>qz (.int (i+j))
 |.str x,.str y=>if x.length+y.length<=qk then qz (.str (x++y)) else qx
 |.tuple [],.tuple ys=>qz (.tuple ys)
 |.tuple xs,.tuple ys=>if xs.isEmpty=false/\↑xs+↑ys<=qk then qz (.tuple (xs++ys)) else qx
 |.list xs,.list ys=>if ↑xs+↑ys<=qk then qz (.list (xs++ys)) else qx
 |_,_=>qx
def aFv:D->D->Option D
 |.int i,.int j=>if oX i j=true then qz (.int (i*j)) else qx
 |.list xs,.int k=>if k<2^63 /\ -(2^63)<=k/\↑xs*k.toNat<=qk then qz (.list (yZ k.toNat xs)) else qx
 |.tuple [x],.int k=>if 0<=k/\k<=1000 then qz (.tuple (yAe k.toNat x)) else qx
 |_,_=>qx
def i2{α:Type}(f:Int->Int->Option α):D->D->Option α
 |.int i,.int j=>f i j|_,_=>qx
def mH{α:Type}{f:Int->Int->Option α}{i j:Int}:i2 f (.int i) (.int j)=f i j:=rfl
def jM{α:Type}{f:Int->Int->Option α}{z:α}(h:i2 f x y=qz z):∃ i j,x=.int i/\y=.int j/\f i j=qz z:=by
 cases x<;>first|(cases h;done)|skip
 cases y<;>first|(cases h;done)|exact⟨_,_,rfl,rfl,h⟩
def kG:D->Bool
 |.none=>true|_=>false
def aIc(h:kG x=true):x=.none:=by cases x<;>first|rfl|cases h
def bV(op:jv)(x y:D):Option D:=match op with
 |.Add=>aFo x y|.Sub=>i2 (λ i j=>qz (.int (i-j))) x y|.Mult=>aFv x y|.MatMult=>qx|.Div=>qx
 |.Mod=>i2 (λ i j=>if j≠0 then qz (.int (i.fmod j)) else qx) x y
 |.Pow=>i2 (λ i j=>if 0<=j/\j<=1000000/\i.natAbs<2^64 then qz (.int (i^j.toNat)) else qx) x y
 |.LShift=>i2 (λ i j=>if 0<=j/\(yAm i:Int)+j<=2^27 then qz (.int (i*2^j.toNat)) else qx) x y
 |.RShift=>i2 (λ i j=>if 0<=j then qz (.int (i/2^j.toNat)) else qx) x y
 |.BitOr=>i2 (λ i j=>qz (.int (yHl i j))) x y|.BitXor=>i2 (λ i j=>qz (.int (yHc i j))) x y|.BitAnd=>i2 (λ i j=>qz (.int (yEg i j))) x y
 |.FloorDiv=>i2 (λ i j=>if j≠0/\yCw i j=false then qz (.int (i.fdiv j)) else qx) x y
def rZ:vy->D->Option D
 |.USub,.int i=>qz (.int (-i))|.Invert,.int i=>qz (.int (yBn i))|_,_=>qx
def kE:D->Bool
 |.none|.bool _|.int _|.str _=>true
 |_=>false
def qO:List D->Bool
 |[]=>true|d::r=>kE d&&qO r
def inD(x:D):List D->Bool
 |[]=>false|y::r=>yDu y x||inD x r
def aEW:D->Option (List D)
 |.list xs=>qz xs|.tuple xs=>qz xs|_=>qx
def uA:D->D->Option Bool
 |.bool a,.bool b=>qz (a==b)|_,_=>qx
def aHG(h:uA x y=qz b):∃ p q,x=.bool p/\y=.bool q/\b=(p==q):=by
 unfold uA at h;split at h
 ·rename_i p q;exact⟨p,q,rfl,rfl,(Option.some.inj h).symm⟩
 ·cases h
def rM(op:jx)(x y:D):Option Bool:=match op with
 |.Eq=>if x.canLay0=true/\y.canLay0=true/\x.depth<=60 then qz (yDu x y) else qx
 |.NotEq=>if x.canLay0=true/\y.canLay0=true/\x.depth<=60 then qz (!yDu x y) else qx
 |.Lt=>i2 (λ i j=>qz (decide (i<j))) x y|.LtE=>i2 (λ i j=>qz (decide (i<=j))) x y|.Gt=>i2 (λ i j=>qz (decide (j<i))) x y|.GtE=>i2 (λ i j=>qz (decide (j<=i))) x y
 |.Is=>if kG y=true then qz (kG x) else uA x y
 |.IsNot=>if kG y=true then qz (!kG x) else (uA x y).bind λ b=>qz (!b)
 |.In=>(aEW y).bind λ ys=>if kE x=true/\qO ys=true then qz (inD x ys) else qx
 |.NotIn=>(aEW y).bind λ ys=>if kE x=true/\qO ys=true then qz (!inD x ys) else qx
def pK:D->Option Bool
 |.none=>qz false|.bool b=>qz b|.int i=>qz (i != 0)
 |.str x=>if x.length<=qk then qz ((x.length:Int) != 0) else qx
 |.list xs=>qz (!xs.isEmpty)|.tuple xs=>qz (!xs.isEmpty)|.dict _=>qx
section
variable {X:Cx}{aB:List (qw×Obj)}{s:qv}{σ:L2.St}{H:Hp}{x y:V}{v u:qj}{Q:VK}{F:Hp}{L:Lx}{S:aC}{dx dy z:D}
abbrev fZ(X:Cx)(F:Hp)(L:Lx)(S:aC)(z:D)(Q:VK):Prop:=∀ F' H' r,bT F F'->Rel X.K F' L S H'->Den X.K F' z r->Q r H'
abbrev aCh(X:Cx)(F:Hp)(H:Hp)(zs:List D)(Q:VK):Prop:=∀ p xs,H p=qx->DenL X.K F zs xs->Q (.ref p) (bF H p (.lst xs))
def fZ.here(R:Rel X.K F L S H)(q:fZ X F L S z Q)(h:Den X.K F z r):Q r H:=q F H r (bT.refl _) R h
def aCh.out{zs:List D}(R:Rel X.K F L S H)(q:fZ X F L S (.list zs) Q):aCh X F H zs Q:=λ p xs hp dl=>
 q _ _ _ (gD (R.sub.free hp)) (R.new hp) (.lst (bX.of cO) (dl.mono (gD (R.sub.free hp))))
def fZ.tup{zs:List D}(R:Rel X.K F L S H)(q:fZ X F L S (.tuple zs) Q){p:qw}{xs:List V}(hp:H p=qx)(dl:DenL X.K F zs xs):Q (.ref p) (bF H p (.tup xs)):=
 q _ _ _ (gD (R.sub.free hp)) (R.new hp) (.tup (cH.of cO) (dl.mono (gD (R.sub.free hp))))
def aZU{xs:List V}(I:Inv X aB σ H s)(ha:bX X.K H a xs)(hb:bX X.K H b ys)(hz:↑xs+↑ys<=qk)(q:∀ p,H p=qx->Q (.ref p) (bF H p (.lst (xs++ys)))):qu (model X.prog X.w) X.A (zk .Add (.ref a) (.ref b)) (EP X aB σ Q) X.xe s:=by
 let(aG,r1,p1,_):=I.list ha;let(uU,r2,p2,_):=I.list hb;let((cls,dd,data,sl),ho,hc,n,hd):=p1.isList;let((cls2,dd2,data2,sl2),ho2,hc2,n2,hd2):=p2.isList;simp only at hc hd hc2 hd2;subst hc hd hc2 hd2;have e:aG.toArray++uU.toArray=(aG++uU).toArray:=by simp
 refine concat_meets ⟨_,ho,rfl⟩ ⟨_,ho2,rfl⟩ noFill_list_add seq_list_add PySem.F.slot_list_add PySem.F.entry_list_add (PySem.F.args_list_add_2 _ _) (list_addW a b aG.toArray uU.toArray n n2 dd dd2 sl sl2 (by rw[yAi,yAi,<- r1.length,<- r2.length];exact hz)) ⟨ho,ho2,?_⟩;rw[e];exact⟨.ref _,_,I.lnew (t':=s.toks) (r1.append r2) (by rw[yAo];omega),rfl,q _ I.fresh⟩
def aNw{xs:List V}{k:Int}(I:Inv X aB σ H s)(ha:bX X.K H a xs)(h1 : -(2^63)<=k)(h2:k<2^63)(hz:↑xs*k.toNat<=qk)(q:∀ p,H p=qx->Q (.ref p) (bF H p (.lst (yAe k.toNat xs).flatten))):qu (model X.prog X.w) X.A (zk .Mult (.ref a) (.int k t)) (EP X aB σ Q) X.xe s:=by
 let(aG,r1,p1,_):=I.list ha;let((cls,d,data,sl),ho,hcl,n,hd):=p1.isList;simp only at hcl hd;subst hcl hd;have hsz:aG.toArray.size*k.toNat<=2^24:=by
  rw[yAi,<- r1.length];have:qk=2^24:=rfl;rw[<- this];exact hz
 refine wq (T:="list") (U:="int") (·) ⟨_,ho,rfl⟩ (λ s'=>vk s' k t) noFill_list_mul PySem.F.fills_int_mul yEj repeat_list PySem.F.slot_int_index.lookup
  (jz yEj (vk s k t) PySem.F.entry_int_rmul (PySem.F.args_int_rmul_2 _ _) (lm_int_rmul_list_any k t a aG.toArray n d sl)
    ⟨ho,rfl,⟨_,ho,rfl⟩,jz PySem.F.slot_list_mul ⟨_,ho,rfl⟩ PySem.F.entry_list_mul (PySem.F.args_list_mul_2 _ _)
     (lm_list_mul_any a aG.toArray n d sl k t (by simp[Builtin.List.listFitsIndex];omega) (!_) (by simp[Builtin.List.listTooLong,qk];simpa using hsz))
     ⟨ho,?_⟩⟩)
 rw[listMul_foldl_if];exact⟨.ref _,_,I.lnew (t':=s.toks) (r1.rep k.toNat) (by rw[aRi,yHv];exact hz),rfl,q _ I.fresh⟩
def aXW(I:Inv X aB σ H s)(ha:cH X.K H a [])(hb:cH X.K H b ys)(q:Q (.ref b) H):qu (model X.prog X.w) X.A (zk .Add (.ref a) (.ref b)) (EP X aB σ Q) X.xe s:=by let(aG,r1,p1,_):=I.tuple ha;let(uU,r2,p2,_):=I.tuple hb;cases r1;let((cls,dd,data,sl),ho,hc,n,hd):=p1;let((cls2,dd2,data2,sl2),ho2,hc2,n2,hd2):=p2;simp only at hc hd hc2 hd2;subst hc hd hc2 hd2;exact concat_meets ⟨_,ho,rfl⟩ ⟨_,ho2,rfl⟩ noFill_tuple_add seq_tuple_add yFs yFi (yFf _ _) (tuple_addW0 a b _ uU.toArray n n2 dd dd2 sl sl2 rfl) ⟨ho,ho2,⟨.ref b,H,I,rfl,q⟩⟩
def aVU(I:Inv X aB σ H s)(rx:aU x v)(ry:aU y u)(R:Rel X.K F L S H)(nx:bW X.K F H dx x)(ny:bW X.K F H dy y)(e:aFo dx dy=qz z)(q:fZ X F L S z Q) :
 qu (model X.prog X.w) X.A (zk .Add v u) (EP X aB σ Q) X.xe s:=by
 unfold aFo at e;split at e
 ·rename_i i j;cases e;exact aUG aB s σ H x y v u Q I rx ry ⟨i,j,nx.int,ny.int,q.here R (.int _)⟩
 ·rename_i a b;split at e
  ·rename_i c;cases e;exact aOI aB s σ H x y v u Q I rx ry ⟨a,b,nx.str,ny.str,c,q.here R (.str _)⟩
  ·cases e
 ·rename_i ys;cases e;let(a,vs,rfl,h1,d1):=nx.tup R.sub;let(b,ws,rfl,h2,d2):=ny.tup R.sub;cases d1;cases rx;cases ry;refine aXW I h1 h2 (q F H _ (bT.refl _) R ?_);rcases ny with ny|⟨_,_,_,e,_⟩
  ·exact ny
  ·cases e
 ·rename_i xs ys _;split at e
  ·rename_i c;cases e;let(a,vs,rfl,h1,d1):=nx.tup R.sub;let(b,ws,rfl,h2,d2):=ny.tup R.sub;have hne:vs≠[]:=λ z=>by
    have:=d1.length;rw[z] at this;cases xs with
    |nil=>simp at c|cons _ _=>simp at this
   refine aSr aB s σ H _ _ v u Q I rx ry ⟨a,b,vs,ws,rfl,rfl,h1,h2,hne,by rw[<- d1.length,<- d2.length];exact c.2,λ z=>?_,λ z p hp=>?_⟩
   ·have:ys=[]:=by
     have h:=d2.length;rw[z] at h;exact List.eq_nil_of_length_eq_zero h
    subst this;refine q F H _ (bT.refl _) R ?_;rw[yBz];rcases nx with nx|⟨_,_,_,e,_⟩
    ·exact nx
    ·cases e
   ·exact q.tup R hp (d1.append d2)
  ·cases e
 ·rename_i xs ys;split at e
  ·rename_i c;cases e;let(a,vs,rfl,h1,d1):=nx.lst R.sub;let(b,ws,rfl,h2,d2):=ny.lst R.sub;cases rx;cases ry;exact aZU I h1 h2 (by rw[<- d1.length,<- d2.length];exact c) λ p hp=>aCh.out R q p _ hp (d1.append d2)
  ·cases e
 ·cases e
def aJP{F:Hp}{x:D}{v:V}(h:Den K F x v):∀ k:Nat,DenL K F (yAe k x) (yAe k v)
 |0=>.nil|k+1=>.cons h (aJP h k)
def aUS(I:Inv X aB σ H s)(rx:aU x v)(ry:aU y u)(R:Rel X.K F L S H)(nx:bW X.K F H dx x)(ny:bW X.K F H dy y)(e:aFv dx dy=qz z)(q:fZ X F L S z Q) :
 qu (model X.prog X.w) X.A (zk .Mult v u) (EP X aB σ Q) X.xe s:=by
 unfold aFv at e;split at e
 ·rename_i i j;split at e
  ·rename_i c;cases e;obtain rfl:=nx.int;obtain rfl:=ny.int;let(t,rfl):=rx;let(t',rfl):=ry;refine PyProof.Rows.mul_int ⟨.int (i*j),H,I.tok _,⟨_,rfl⟩,q.here R (.int _)⟩ ?_;unfold IntMulOk;unfold oX at c;intro z;rw[z] at c;cases c
  ·cases e
 ·rename_i xs k;split at e
  ·rename_i c;cases e;let(a,vs,rfl,h1,d1):=nx.lst R.sub;obtain rfl:=ny.int;cases rx;let(t',rfl):=ry;exact aNw I h1 c.2.1 c.1 (by rw[<- d1.length];exact c.2.2) λ p hp=>aCh.out R q p _ hp (d1.rep _)
  ·cases e
 ·rename_i xd k;split at e
  ·rename_i c;cases e;let(a,vs,rfl,h1,d1):=nx.tup R.sub;obtain rfl:=ny.int;cases rx;let(t',rfl):=ry;obtain⟨kk,rfl⟩:∃ kk:Nat,k=(kk:Nat):=⟨k.toNat,by omega⟩;rw[yAs] at q;cases d1 with
   |cons dx dn=>
     cases dn;refine aZo I h1 (!_) (λ hk=>?_) λ p hp=>fZ.tup R q hp (aJP dx kk)
     subst hk;refine q F H _ (bT.refl _) R ?_;rcases nx with nx|⟨_,_,_,z,_⟩
     ·exact nx
     ·cases z
  ·cases e
 ·cases e
def wO{C:Int->Int->Prop}{g:Int->Int->Int}(rule:cY X (zk op) (rI C λ i j=>.int (g i j))){i j:Int}(c:C i j)(I:Inv X aB σ H s)(rx:aU x v)(ry:aU y u)(R:Rel X.K F L S H)(nx:bW X.K F H (.int i) x)(ny:bW X.K F H (.int j) y)(q:fZ X F L S (.int (g i j)) Q) :
 qu (model X.prog X.w) X.A (zk op v u) (EP X aB σ Q) X.xe s:=
 rule aB s σ H x y v u Q I rx ry ⟨i,j,nx.int,ny.int,c,q.here R (.int _)⟩
def aBd{g:Int->Int->Int}(rule:cY X (zk op) (kO λ i j=>.int (g i j))){i j:Int}(I:Inv X aB σ H s)(rx:aU x v)(ry:aU y u)(R:Rel X.K F L S H)(nx:bW X.K F H (.int i) x)(ny:bW X.K F H (.int j) y)(q:fZ X F L S (.int (g i j)) Q) :
 qu (model X.prog X.w) X.A (zk op v u) (EP X aB σ Q) X.xe s:=
 rule aB s σ H x y v u Q I rx ry ⟨i,j,nx.int,ny.int,q.here R (.int _)⟩
def aRI:cY X (zk .FloorDiv) (rI (λ i j=>j≠0/\yCw i j=false) λ i j=>.int (i.fdiv j)):=zO λ _ _ _ _ _ _ _ hc q=>floordiv_int hc.1 q (.inl hc.2)
def aW1:cY X (zk .LShift) (rI (λ i j=>0<=j/\(yAm i:Int)+j<=2^27) λ i j=>.int (i*2^j.toNat)):=zO λ _ _ _ _ _ _ _ hc q=>lshift_int hc.1 hc.2 q
def aI{α β:Type}{o:Option α}{f:α->Option β}{b:β}(h:o.bind f=qz b):∃ a,o=qz a/\f a=qz b:=by
 cases o with
 |none=>cases h|some a=>exact⟨a,rfl,h⟩
def nL{α:Type}{p:Prop} [Decidable p]{a z:α}(h:(if p then qz a else qx)=qz z):p/\a=z:=by
 split at h
 ·rename_i c;cases h;exact⟨c,rfl⟩
 ·cases h
def aUp(I:Inv X aB σ H s)(rx:aU x v)(ry:aU y u)(R:Rel X.K F L S H)(nx:bW X.K F H dx x)(ny:bW X.K F H dy y)(e:bV op dx dy=qz z)(q:fZ X F L S z Q) :
 qu (model X.prog X.w) X.A (zk op v u) (EP X aB σ Q) X.xe s:=by
 cases op with
 |Add=>exact aVU I rx ry R nx ny e q|Mult=>exact aUS I rx ry R nx ny e q|MatMult=>cases e|Div=>cases e
 |Sub=>let(i,j,rfl,rfl,e):=jM e;cases e;exact aBd aTz I rx ry R nx ny q
 |BitAnd=>let(i,j,rfl,rfl,e):=jM e;cases e;exact aBd aVh I rx ry R nx ny q
 |BitOr=>let(i,j,rfl,rfl,e):=jM e;cases e;exact aBd aW8 I rx ry R nx ny q
 |BitXor=>let(i,j,rfl,rfl,e):=jM e;cases e;exact aBd aU6 I rx ry R nx ny q
 |FloorDiv=>let(i,j,rfl,rfl,e):=jM e;let(c,rfl):=nL e;exact wO aRI c I rx ry R nx ny q
 |Mod=>let(i,j,rfl,rfl,e):=jM e;let(c,rfl):=nL e;exact wO aRB c I rx ry R nx ny q
 |Pow=>let(i,j,rfl,rfl,e):=jM e;let(c,rfl):=nL e;exact wO aTP c I rx ry R nx ny q
 |LShift=>let(i,j,rfl,rfl,e):=jM e;let(c,rfl):=nL e;exact wO aW1 c I rx ry R nx ny q
 |RShift=>let(i,j,rfl,rfl,e):=jM e;let(c,rfl):=nL e;exact wO aUN c I rx ry R nx ny q
def aYj(I:Inv X aB σ H s)(rx:aU x v)(R:Rel X.K F L S H)(nx:bW X.K F H dx x)(e:rZ op dx=qz z)(q:fZ X F L S z Q) :
 qu (model X.prog X.w) X.A (unaryOp op v) (EP X aB σ Q) X.xe s:=by
 unfold rZ at e;split at e
 ·cases e;exact aUZ aB s σ H x v Q I rx ⟨_,nx.int,q.here R (.int _)⟩
 ·cases e;exact aUF aB s σ H x v Q I rx ⟨_,nx.int,q.here R (.int _)⟩
 ·cases e
mutual
theorem aHS(I:Inv X aB σ H s)(sb:bT F H):∀ {d:D}{x:V}{v:qj},Den X.K F d x->aU x v->d.canLay0=true->∃ as,Reads s.heap v d as
 |_,_,v,.non,r,_=>by cases (show v=Value.none from r);exact⟨_,.none⟩
 |_,_,v,.bl b,r,_=>by cases (show v=Value.bool b from r);exact⟨_,.bool b⟩
 |_,_,v,.int i,r,_=>by let(t,rfl):=(show ∃ t,v=Value.int i t from r);exact⟨_,.int i t⟩
 |_,_,v,.str y,r,_=>by let(t,rfl):=(show ∃ t,v=Value.str y t from r);exact⟨_,.str y t⟩
 |_,_,v,.lst (a:=a) h dl,r,c=>by
   cases (show v=Value.ref a from r);let(aG,rv,p1,_):=I.list (sb.seq h);let(o,ho,hc,n,hd):=p1.isList;let(as,ra):=aAx I sb dl rv c;exact⟨_,.list ho hc hd (ra:)⟩
 |_,_,v,.exc _,_,c=>by cases c
 |_,_,v,.tup (a:=a) h dl,r,c=>by
   cases (show v=Value.ref a from r);let(aG,rv,p1,_):=I.tuple (nG sb h);let(o,ho,hc,n,hd):=p1;let(as,ra):=aAx I sb dl rv c;exact⟨_,.tuple ho hc hd (ra:)⟩
theorem aAx(I:Inv X aB σ H s)(sb:bT F H):∀ {ds:List D}{xs:List V}{us:List qj},DenL X.K F ds xs->bA xs us->yEp ds=true->∃ as,ReadsAll s.heap us ds as
 |_,_,_,.nil,r,_=>by cases r;exact⟨_,.nil⟩
 |_,_,_,.cons h dl,.cons r rs,c=>by
   let(c1,c2):=Bool.and_eq_true_iff.mp c;let(as,ra):=aHS I sb h r c1;let(bs,rb):=aAx I sb dl rs c2;exact⟨_,.cons ra rb⟩
end
def aAF(I:Inv X aB σ H s)(R:Rel X.K F L S H)(rx:aU x v)(nx:bW X.K F H dx x)(c:dx.canLay0=true):∃ as,Reads s.heap v dx as:=by
 rcases nx with nx|⟨ds,a,xs,rfl,rfl,e,dl⟩
 ·exact aHS I R.sub nx rx c
 ·cases rx;let(aG,rv,p1,_):=I.list (bX.of e);let(o,ho,hc,n,hd):=p1.isList;let(as,ra):=aAx I R.sub dl rv c;exact⟨_,.list ho hc hd (ra:)⟩
def aXi(hu:X.A.units+64<cLine)(I:Inv X aB σ H s)(rx:aU x v)(ry:aU y u)(R:Rel X.K F L S H)(nx:bW X.K F H dx x)(ny:bW X.K F H dy y)(c1:dx.canLay0=true)(c2:dy.canLay0=true)(c3:dx.depth<=60)(q:Q (.bl (yDu dx dy)) H):qu (model X.prog X.w) X.A (xw .Eq v u) (EP X aB σ Q) X.xe s:=by let(as,ra):=aAF I R rx nx c1;let(bs,rb):=aAF I R ry ny c2;refine SeqAt.compareEq_reads ra rb c1 c2 ?_ ⟨.bl _,H,I,rfl,q⟩;have:min dx.depth dy.depth<=dx.depth:=yDv _ _;omega
def aX0(hu:X.A.units+64<cLine)(I:Inv X aB σ H s)(rx:aU x v)(ry:aU y u)(R:Rel X.K F L S H)(nx:bW X.K F H dx x)(ny:bW X.K F H dy y)(c1:dx.canLay0=true)(c2:dy.canLay0=true)(c3:dx.depth<=60)(q:Q (.bl (!yDu dx dy)) H):qu (model X.prog X.w) X.A (xw .NotEq v u) (EP X aB σ Q) X.xe s:=by let(as,ra):=aAF I R rx nx c1;let(bs,rb):=aAF I R ry ny c2;refine SeqAt.compareNe_reads ra rb c1 c2 ?_ ⟨.bl _,H,I,rfl,q⟩;have:min dx.depth dy.depth<=dx.depth:=yDv _ _;omega
end
def aQ8(h1:Den K F d x)(h2:Den K F e y)(f1:kE d=true)(f2:kE e=true):oH x y=yDu d e:=by
 cases h1<;>first|(simp[kE] at f1;done)|skip
 all_goals cases h2<;>first|(simp[kE] at f2;done)|rfl|skip
def aDs(h1:Den K F d x)(f1:kE d=true):mK x=true:=by cases h1<;>first|rfl|(simp[kE] at f1;done)
def aDv:∀ {ds:List D}{xs:List V},DenL K F ds xs->qO ds=true->xs.all mK=true
 |_,_,.nil,_=>rfl
 |_,_,.cons h r,f=>by
   simp only[qO,yAy] at f;rw[List.all_cons,aDs h f.1,aDv r f.2];rfl
def aD2(h2:Den K F e y)(f2:kE e=true):∀ {ds:List D}{xs:List V},DenL K F ds xs->qO ds=true->uN y xs=inD e ds
 |_,_,.nil,_=>rfl
 |_,_,.cons h r,f=>by
   simp only[qO,yAy] at f;have ih:=aD2 h2 f2 r f.2;unfold uN at ih ⊢;rw[yFk,ih,aQ8 h h2 f.1 f2];rfl
section
variable {X:Cx}{aB:List (qw×Obj)}{s:qv}{σ:L2.St}{H:Hp}{x y:V}{v u:qj}{Q:VK}{F:Hp}{L:Lx}{S:aC}{dx dy:D}{b:Bool}
def bW.flat(h:bW X.K F H d z)(f:kE d=true):Den X.K F d z:=by
 rcases h with h|⟨ds,_,_,rfl,_⟩
 ·exact h
 ·simp[kE] at f
def aJo(sb:bT F H)(h:bW X.K F H d z)(e:aEW d=qz ys):∃ p xs,z=.ref p/\(bX X.K H p xs\/cH X.K H p xs)/\DenL X.K F ys xs:=by
 cases d with
 |list l=>cases e;let(a,xs,e1,q,dl):=h.lst sb;exact⟨a,xs,e1,.inl q,dl⟩
 |tuple l=>cases e;let(a,xs,e1,q,dl):=h.tup sb;exact⟨a,xs,e1,.inr q,dl⟩
 |_=>cases e
def aJj(R:Rel X.K F L S H)(nx:bW X.K F H dx x):decide (x=.non)=kG dx:=by
 cases dx with
 |none=>rw[nx.non];rfl|bool c=>rw[nx.bl];rfl|int c=>rw[nx.int];rfl|str c=>rw[nx.str];rfl
 |list c=>let(a,xs,rfl,_):=nx.lst R.sub;rfl
 |tuple c=>let(a,xs,rfl,_):=nx.tup R.sub;rfl
 |dict c=>
   rcases nx with h|⟨_,_,_,e,_⟩
   ·cases h;rfl
   ·cases e
def aWc(hu:X.A.units+64<cLine)(I:Inv X aB σ H s)(rx:aU x v)(ry:aU y u)(R:Rel X.K F L S H)(nx:bW X.K F H dx x)(ny:bW X.K F H dy y)(e:rM op dx dy=qz b)(q:Q (.bl b) H) :
 qu (model X.prog X.w) X.A (xw op v u) (EP X aB σ Q) X.xe s:=by
 cases op with
 |Lt=>let(i,j,rfl,rfl,e):=jM e;cases e;exact aXU aB s σ H x y v u Q I rx ry ⟨_,_,nx.int,ny.int,q⟩
 |LtE=>let(i,j,rfl,rfl,e):=jM e;cases e;exact aWT aB s σ H x y v u Q I rx ry ⟨_,_,nx.int,ny.int,q⟩
 |Gt=>let(i,j,rfl,rfl,e):=jM e;cases e;exact aWJ aB s σ H x y v u Q I rx ry ⟨_,_,nx.int,ny.int,q⟩
 |GtE=>let(i,j,rfl,rfl,e):=jM e;cases e;exact aYA aB s σ H x y v u Q I rx ry ⟨_,_,nx.int,ny.int,q⟩
 |Eq=>let(c,rfl):=nL e;exact aXi hu I rx ry R nx ny c.1 c.2.1 c.2.2 q
 |NotEq=>let(c,rfl):=nL e;exact aX0 hu I rx ry R nx ny c.1 c.2.1 c.2.2 q
 |Is=>
   have e':(if kG dy=true then qz (kG dx) else uA dx dy)=qz b:=e;by_cases c:kG dy=true
   ·rw[if_pos c] at e';cases e';cases aIc c;exact aVy aB s σ H x y v u Q I rx ry ⟨ny.non,by rw[aJj R nx];exact q⟩
   ·rw[if_neg c] at e';let(p1,p2,rfl,rfl,rfl):=aHG e';obtain rfl:=nx.bl;obtain rfl:=ny.bl;cases rx;cases ry;exact wpAny_is_plain rfl (aBl I q (by cases p1<;>cases p2<;>rfl))
 |IsNot=>
   have e':(if kG dy=true then qz (!kG dx) else (uA dx dy).bind λ b=>qz (!b))=qz b:=e;by_cases c:kG dy=true
   ·rw[if_pos c] at e';cases e';cases aIc c;exact aSD aB s σ H x y v u Q I rx ry ⟨ny.non,by rw[aJj R nx];exact q⟩
   ·rw[if_neg c] at e';let(b0,e1,e2):=aI e';cases e2;let(p1,p2,rfl,rfl,rfl):=aHG e1;obtain rfl:=nx.bl;obtain rfl:=ny.bl;cases rx;cases ry;exact wpAny_isNot_plain rfl (aBl I q (by cases p1<;>cases p2<;>rfl))
 |In=>
   let(ys,hs,e):=aI e;let(c,rfl):=nL e;let(p,xs,e1,sq,dl):=aJo R.sub ny hs;refine aPS aB s σ H x y v u Q I rx ry ⟨p,xs,e1,sq,aDs (nx.flat c.1) c.1,aDv dl c.2,?_⟩;show Q (.bl (uN x xs)) H;rw[aD2 (nx.flat c.1) c.1 dl c.2];exact q
 |NotIn=>
   let(ys,hs,e):=aI e;let(c,rfl):=nL e;let(p,xs,e1,sq,dl):=aJo R.sub ny hs;refine aOh aB s σ H x y v u Q I rx ry ⟨p,xs,e1,sq,aDs (nx.flat c.1) c.1,aDv dl c.2,?_⟩;show Q (.bl (!uN x xs)) H;rw[aD2 (nx.flat c.1) c.1 dl c.2];exact q
def aG0{xs:List V}(h:DenL K F ds xs):xs.isEmpty=ds.isEmpty:=by cases h<;>rfl
def aR3(R:Rel X.K F L S H)(nx:bW X.K F H dx x)(e:pK dx=qz b):aFy X.K x H b:=by
 cases dx with
 |none=>cases e;rw[nx.non];exact rfl|bool c=>cases e;rw[nx.bl];exact rfl|int c=>cases e;rw[nx.int];exact rfl
 |str c=>
   rw[nx.str];have e':(if c.length<=qk then qz ((c.length:Int) != 0) else qx)=qz b:=e;split at e'
   ·rename_i h;cases e';exact⟨h,rfl⟩
   ·cases e'
 |list c=>cases e;let(a,xs,rfl,sq,dl):=nx.lst R.sub;exact .inl ⟨xs,sq,by rw[aG0 dl]⟩
 |tuple c=>cases e;let(a,xs,rfl,sq,dl):=nx.tup R.sub;exact .inr (.inl ⟨xs,sq,by rw[aG0 dl]⟩)
 |dict c=>cases e
end
abbrev FE:=bB->aC->Option (W×aC)
abbrev FT:=bB->aC->Option (Bool×aC)
abbrev FA:=bB->aC->Option (List W×aC)
abbrev FL:=bB->aC->Option (List D×aC)
inductive Fl where
 |nx (env:bB)|rt (w:W)|bk (env:bB)|ct (env:bB)
abbrev FS:=bB->aC->Option (Fl×aC)
inductive WDenL (K:FrG) (F:Hp) (L:Lx):List W->List V->Prop
 |nil:WDenL K F L [] []
 |cons {w:W}{ws:List W}{x:V}{xs:List V}:dM K F L w x->WDenL K F L ws xs->WDenL K F L (w::ws) (x::xs)
def WDenL.length:∀ {ws:List W}{xs:List V},WDenL K F L ws xs->↑ws=↑xs
 |_,_,.nil=>rfl|_,_,.cons _ r=>congrArg (· + 1) r.length
section
variable (K:FrG)
def aP(f:FE):TE:=λ σ H Q=>∃ F L S env w S',Rel K F L S H/\EnvR K F L env σ/\f env S=qz (w,S')/\∀ F' L' H' v,Gr F L F' L'->Rel K F' L' S' H'->dM K F' L' w v->Q v H'
def gB(f:FT):TT:=λ σ H Q=>∃ F L S env b S',Rel K F L S H/\EnvR K F L env σ/\f env S=qz (b,S')/\∀ F' L' H',Gr F L F' L'->Rel K F' L' S' H'->Q b H'
def eD(f:FA):TA:=λ σ H Q=>∃ F L S env ws S',Rel K F L S H/\EnvR K F L env σ/\f env S=qz (ws,S')/\∀ F' L' H' vs,Gr F L F' L'->Rel K F' L' S' H'->WDenL K F' L' ws vs->Q vs H'
def jY(f:FL):TE:=λ σ H Q=>∃ F L S env ds S',Rel K F L S H/\EnvR K F L env σ/\f env S=qz (ds,S')/\∀ F' L' H' p xs,Gr F L F' L'->Rel K F' L' S' H'->F' p=qx->p ∉ ad L'->H' p=qz (.lst xs)->DenL K F' ds xs->Q (.ref p) H'
def cZ(f:FS):TS:=λ D σ H=>∃ F L S env fl S',Rel K F L S H/\EnvR K F L env σ/\f env S=qz (fl,S')/\∀ F' L' H',Gr F L F' L'->Rel K F' L' S' H'->match fl with|.nx aS=>∀ σ',EnvR K F' L' aS σ'->D.nx σ' H'|.rt w=>∀ v,dM K F' L' w v->D.rt v H'|.bk aS=>∀ σ',EnvR K F' L' aS σ'->D.bk σ' H'|.ct aS=>∀ σ',EnvR K F' L' aS σ'->D.ct σ' H'
end
def PE.weak{t t':TE}(h:PE X e t)(w:∀ σ H Q,t' σ H Q->t σ H Q):PE X e t':=λ aB s σ H Q I q=>h aB s σ H Q I (w σ H Q q)
def PT.weak{t t':TT}(h:PT X e t)(w:∀ σ H Q,t' σ H Q->t σ H Q):PT X e t':=λ aB s σ H Q I q=>h aB s σ H Q I (w σ H Q q)
def PW.weak{t t':TT}(h:PW X e t)(w:∀ σ H Q,t' σ H Q->t σ H Q):PW X e t':=λ wh aB s σ H Q I q=>h wh aB s σ H Q I (w σ H Q q)
def PA.weak{t t':TA}(h:PA X e t)(w:∀ σ H Q,t' σ H Q->t σ H Q):PA X e t':=λ pos aB s σ H Q I q=>h pos aB s σ H Q I (w σ H Q q)
def PS.weak(h:PS X e t)(w:∀ D σ H,t' D σ H->t D σ H):PS X e t':=λ aB s σ H D I q=>h aB s σ H D I (w D σ H q)
def dI.weak(h:dI X e t)(w:∀ D σ H,t' D σ H->t D σ H):dI X e t':=λ aB s σ H D I q=>h aB s σ H D I (w D σ H q)
abbrev uK(K:FrG)(F:Hp)(L:Lx)(S':aC)(w:W)(Q:VK):Prop:=∀ F' L' H' v,Gr F L F' L'->Rel K F' L' S' H'->dM K F' L' w v->Q v H'
def f2(fa fb:FE)(g:aC->W->W->Option (W×aC)):FE:=λ env S=>(fa env S).bind λ p=>(fb env p.2).bind λ q=>g q.2 p.1 q.1
def f1(fa:FE)(g:aC->W->Option (W×aC)):FE:=λ env S=>(fa env S).bind λ p=>g p.2 p.1
def aCf{K:FrG}{fa fb:FE}{g:aC->W->W->Option (W×aC)}{r:R2}(hr:∀ F L S H x y wx wy w S' Q,Rel K F L S H->dM K F L wx x->dM K F L wy y->g S wx wy=qz (w,S')->uK K F L S' w Q->r x y H Q)(σ:St)(H:Hp)(Q:VK)(h:aP K (f2 fa fb g) σ H Q):tOp r (aP K fa) (aP K fb) σ H Q:=by
 let(F,L,S,env,w,S',R,E,e,q):=h;unfold f2 at e;cases ea:fa env S with
 |none=>rw[ea] at e;cases e
 |some p=>
   let(wx,S1):=p;rw[ea] at e;dsimp only[yCs] at e;cases eb:fb env S1 with
   |none=>rw[eb] at e;cases e
   |some p2=>
     let(wy,S2):=p2;rw[eb] at e;dsimp only at e;refine⟨F,L,S,env,wx,S1,R,E,ea,λ F1 L1 H1 x g1 R1 d1=>⟨F1,L1,S1,env,wy,S2,R1,E.mono g1,eb,λ F2 L2 H2 y g2 R2 d2=>?_⟩⟩;exact hr F2 L2 S2 H2 x y wx wy w S' Q R2 (d1.mono g2) d2 e λ F3 L3 H3 v g3 R3 d3=>q F3 L3 H3 v ((g1.trans g2).trans g3) R3 d3
def aYZ{fa:FE}{g:aC->W->Option (W×aC)}{r:V->Hp->VK->Prop}(hr:∀ F L S H x wx w S' Q,Rel K F L S H->dM K F L wx x->g S wx=qz (w,S')->uK K F L S' w Q->r x H Q)(σ:St)(H:Hp)(Q:VK)(h:aP K (f1 fa g) σ H Q):tUn r (aP K fa) σ H Q:=by
 let(F,L,S,env,w,S',R,E,e,q):=h;unfold f1 at e;cases ea:fa env S with
 |none=>rw[ea] at e;cases e
 |some p=>
   let(wx,S1):=p;rw[ea] at e;dsimp only[yCs] at e;refine⟨F,L,S,env,wx,S1,R,E,ea,λ F1 L1 H1 x g1 R1 d1=>?_⟩;exact hr F1 L1 S1 H1 x wx w S' Q R1 d1 e λ F3 L3 H3 v g3 R3 d3=>q F3 L3 H3 v (g1.trans g3) R3 d3
def kJ(i:Nat):FE:=λ env S=>match env[i]? with|some (qz w)=>qz (w,S)|_=>qx
def aPc(h:kJ i env S=qz (w,S')):env[i]?=qz (qz w)/\S'=S:=by
 unfold kJ at h;split at h
 ·rename_i w' e;cases h;exact⟨e,rfl⟩
 ·cases h
variable {X:Cx}
def aWR(hN:X.N[i]?=qz x)(hv:zP X.env.scope x)(hd:(x==("__debug__" : Str))=false)(hcd:(x==("__classdict__" : Str))=false):PE X (.Name x pos) (aP X.K (kJ i)):=
 PE.weak (aLp hN hv hd hcd) λ σ H Q aX=>by
  let(F,L,S,env,w,S',R,E,e,q):=aX;let(e1,rfl):=aPc e;let(v,e2,d):=E.get i w e1;exact⟨v,e2,q F L H v Gr.refl R d⟩
def fC(d:D):FE:=λ _ S=>qz (.d d,S)
def aMB{i j pos}:PE X (.Constant (.int i) j pos) (aP X.K (fC (.int i))):=
 PE.weak aWd λ σ H Q aX=>by let(F,L,S,env,w,S',R,E,e,q):=aX;cases e;exact q F L H _ Gr.refl R (.int i)
def aZa{b j pos}:PE X (.Constant (.bool b) j pos) (aP X.K (fC (.bool b))):=
 PE.weak aXj λ σ H Q aX=>by let(F,L,S,env,w,S',R,E,e,q):=aX;cases e;exact q F L H _ Gr.refl R (.bl b)
def aXT{j pos}:PE X (.Constant .none j pos) (aP X.K (fC .none)):=
 PE.weak aVW λ σ H Q aX=>by let(F,L,S,env,w,S',R,E,e,q):=aX;cases e;exact q F L H _ Gr.refl R .non
def aXn{x j pos}:PE X (.Constant (.str x) j pos) (aP X.K (fC (.str x))):=
 PE.weak aVb λ σ H Q aX=>by let(F,L,S,env,w,S',R,E,e,q):=aX;cases e;exact q F L H _ Gr.refl R (.str x)
def jG(g:D->D->Option D)(S:aC)(x y:W):Option (W×aC):=(dr S x).bind λ a=>(dr S y).bind λ b=>(g a b).bind λ z=>qz (.d z,S)
def gP(g:D->Option D)(S:aC)(x:W):Option (W×aC):=(dr S x).bind λ a=>(g a).bind λ z=>qz (.d z,S)
def aIY{g:D->D->Option D}(h:jG g S x y=qz (w,S')):∃ a b z,dr S x=qz a/\dr S y=qz b/\g a b=qz z/\w=.d z/\S'=S:=by
 unfold jG at h;cases e1:dr S x with
 |none=>rw[e1] at h;cases h
 |some a=>
   cases e2:dr S y with
   |none=>rw[e1,e2] at h;cases h
   |some b=>
     rw[e1,e2] at h;dsimp only[yCs] at h;cases e3:g a b with
     |none=>rw[e3] at h;cases h|some z=>rw[e3] at h;cases h;exact⟨a,b,z,rfl,rfl,e3,rfl,rfl⟩
def vO{g:D->Option D}(h:gP g S x=qz (w,S')):∃ a z,dr S x=qz a/\g a=qz z/\w=.d z/\S'=S:=by
 unfold gP at h;cases e1:dr S x with
 |none=>rw[e1] at h;cases h
 |some a=>
   rw[e1] at h;dsimp only[yCs] at h;cases e3:g a with
   |none=>rw[e3] at h;cases h|some z=>rw[e3] at h;cases h;exact⟨a,z,rfl,e3,rfl,rfl⟩
def aA7{Q:VK}(X:Cx)(hK:X.K=K)(q:uK K F L S (.d z) Q):fZ X F L S z Q:=λ F' H' r sf R d=>by
 subst hK;exact q F' L H' r ⟨sf,[],by simp⟩ R d
def rD2(X:Cx)(g:D->D->Option D):R2:=λ x y H Q=>∃ F L S dx dy z,Rel X.K F L S H/\bW X.K F H dx x/\bW X.K F H dy y/\g dx dy=qz z/\fZ X F L S z Q
def aBk{g:D->D->Option D}(F:Hp)(L:Lx)(S:aC)(H:Hp)(x y:V)(wx wy w:W)(S':aC)(Q:VK)(R:Rel X.K F L S H)(h1:dM X.K F L wx x)(h2:dM X.K F L wy y)(e:jG g S wx wy=qz (w,S'))(q:uK X.K F L S' w Q):rD2 X g x y H Q:=by let(a,b,z,e1,e2,e3,rfl,rfl):=aIY e;exact⟨F,L,S',a,b,z,R,kW R h1 e1,kW R h2 e2,e3,aA7 X rfl q⟩
def rQ(op:jv)(fa fb:FE):FE:=f2 fa fb (jG (bV op))
def aXy{fa fb:FE}(ha:PE X a (aP X.K fa))(hb:PE X b (aP X.K fb)):PE X (.BinOp a op b pos) (aP X.K (rQ op fa fb)):=
 PE.weak (aL5 (r:=rD2 X (bV op)) (λ aB s σ H x y v u Q I rx ry hPr0=>by let(F,L,S,dx,dy,z,R,nx,ny,e,q):=hPr0;exact aUp I rx ry R nx ny e q) ha hb) (aCf aBk)
def zZ(op:vy)(fa:FE):FE:=f1 fa (gP (rZ op))
def aZx{fa:FE}(ha:PE X a (aP X.K fa)):PE X (.UnaryOp op a pos) (aP X.K (zZ op fa)):=
 PE.weak (aW6 (r:=λ x H Q=>∃ F L S dx z,Rel X.K F L S H/\bW X.K F H dx x/\rZ op dx=qz z/\fZ X F L S z Q) (λ aB s σ H x v Q I rx hPr1=>by let(F,L,S,dx,z,R,nx,e,q):=hPr1;exact aYj I rx R nx e q) ha)
  (aYZ λ F L S H x wx w S' Q R d e q=>by
    let(a,z,e1,e3,rfl,rfl):=vO e;exact⟨F,L,S',a,z,R,kW R d e1,e3,aA7 X rfl q⟩)
def aW(op:jx)(x y:D):Option D:=(rM op x y).map PyData.bool
def aIw(hu:X.A.units+64<cLine):cY X (xw op) (rD2 X (aW op)):=λ aB s σ H x y v u Q I rx ry aX=>by
 let(F,L,S,dx,dy,z,R,nx,ny,e,q):=aX;unfold aW at e;cases ec:rM op dx dy with
 |none=>rw[ec] at e;cases e|some b=>rw[ec] at e;cases e;exact aWc hu I rx ry R nx ny ec (q.here R (.bl b))
def nO(op:jx)(fa fb:FE):FE:=f2 fa fb (jG (aW op))
def aXa{fa fb:FE}(hu:X.A.units+64<cLine)(ha:PE X a (aP X.K fa))(hb:PE X b (aP X.K fb))(hm:xz op b=false):PE X (.Compare a [op] [b] pos) (aP X.K (nO op fa fb)):=
 PE.weak (aSQ (aIw hu) ha hb hm) (aCf aBk)
def cU(fa:FE):FT:=λ env S=>(fa env S).bind λ p=>(dr p.2 p.1).bind λ d=>(pK d).bind λ b=>qz (b,p.2)
def aDd{fa:FE}(h:cU fa env S=qz (b,S')):∃ w d,fa env S=qz (w,S')/\dr S' w=qz d/\pK d=qz b:=by
 unfold cU at h;cases ea:fa env S with
 |none=>rw[ea] at h;cases h
 |some p=>
   let(w,S1):=p;rw[ea] at h;dsimp only[yCs] at h;cases e1:dr S1 w with
   |none=>rw[e1] at h;cases h
   |some d=>
     rw[e1] at h;dsimp only at h;cases e2:pK d with
     |none=>rw[e2] at h;cases h|some c=>rw[e2] at h;cases h;exact⟨w,d,rfl,e1,e2⟩
def aWU{fa:FE}(ha:PE X a (aP X.K fa))(he:∀ fR,isTrue a X.env fR=(do let v <- fR;standAt a.pos;holding [v] (truthy v))):PT X a (gB X.K (cU fa)):=
 PT.weak (aQY ha he) λ σ H Q aX=>by
  let(F,L,S,env,b,S',R,E,e,q):=aX;let(w,d,e1,e2,e3):=aDd e;exact⟨F,L,S,env,w,S',R,E,e1,λ F1 L1 H1 v g1 R1 d1=>⟨b,aR3 R1 (kW R1 d1 e2) e3,q F1 L1 H1 g1 R1⟩⟩
def aTL{fa fb:FE}(hu:X.A.units+64<cLine)(ha:PE X a (aP X.K fa))(hb:PE X b (aP X.K fb))(hm:xz op b=false):PT X (.Compare a [op] [b] pos) (gB X.K (cU (nO op fa fb))):=
 PT.weak (aSY (aIw hu) ha hb hm) λ σ H Q aX=>by
  let(F,L,S,env,b,S',R,E,e,q):=aX;let(w,d,e1,e2,e3):=aDd e;refine @aCf _ fa fb (jG (aW op)) _ aBk σ H _ ⟨F,L,S,env,w,S',R,E,e1,λ F1 L1 H1 v g1 R1 d1=>?_⟩;have hc:∃ c,w=.d (.bool c):=by
   unfold nO f2 at e1;cases ea:fa env S with
   |none=>rw[ea] at e1;cases e1
   |some p=>
     rw[ea] at e1;dsimp only[yCs] at e1;cases eb:fb env p.2 with
     |none=>rw[eb] at e1;cases e1
     |some p2=>
       rw[eb] at e1;dsimp only at e1;let(_,_,z,_,_,e6,rfl,_):=aIY e1;unfold aW at e6;cases e7:rM op _ _ with
       |none=>rw[e7] at e6;cases e6|some c=>rw[e7] at e6;cases e6;exact⟨c,rfl⟩
  let(c,rfl):=hc;cases e2;cases e3;have hv:v=.bl b:=by cases (show Den X.K F1 (.bool b) v from d1);rfl
  exact⟨b,hv,q F1 L1 H1 g1 R1⟩
def yB(fa fb:FT):FT:=λ env S=>(fa env S).bind λ p=>if p.1=true then fb env p.2 else qz (false,p.2)
def zU(fa fb:FT):FT:=λ env S=>(fa env S).bind λ p=>if p.1=true then qz (true,p.2) else fb env p.2
def yV(fa:FT):FT:=λ env S=>(fa env S).bind λ p=>qz (!p.1,p.2)
def aLw{fa fb:FT}(σ:St)(H:Hp)(Q:Bool->Hp->Prop)(h:gB K (yB fa fb) σ H Q):aNp (gB K fa) (gB K fb) σ H Q:=by
 let(F,L,S,env,b,S',R,E,e,q):=h;let((c,S1),e1,e2):=aI e;refine⟨F,L,S,env,c,S1,R,E,e1,λ F1 L1 H1 g1 R1=>?_⟩;dsimp only at e2;cases c with
 |true=>exact uI ⟨F1,L1,S1,env,b,S',R1,E.mono g1,by simpa using e2,λ F2 L2 H2 g2 R2=>q F2 L2 H2 (g1.trans g2) R2⟩
 |false=>
   have e3:qz (false,S1)=qz (b,S'):=(e2:)
   cases e3;exact uF (q F1 L1 H1 g1 R1)
def aM5{fa fb:FT}(σ:St)(H:Hp)(Q:Bool->Hp->Prop)(h:gB K (zU fa fb) σ H Q):tOr (gB K fa) (gB K fb) σ H Q:=by
 let(F,L,S,env,b,S',R,E,e,q):=h;let((c,S1),e1,e2):=aI e;refine⟨F,L,S,env,c,S1,R,E,e1,λ F1 L1 H1 g1 R1=>?_⟩;dsimp only at e2;cases c with
 |false=>exact uF ⟨F1,L1,S1,env,b,S',R1,E.mono g1,by simpa using e2,λ F2 L2 H2 g2 R2=>q F2 L2 H2 (g1.trans g2) R2⟩
 |true=>
   have e3:qz (true,S1)=qz (b,S'):=(e2:)
   cases e3;exact uI (q F1 L1 H1 g1 R1)
def aXH{fa:FT}(ha:PT X a (gB X.K fa)):PT X (.UnaryOp .Not a pos) (gB X.K (yV fa)):=
 PT.weak (aTA ha) λ σ H Q aX=>by
  let(F,L,S,env,b,S',R,E,e,q):=aX;let((c,S1),e1,e2):=aI e;cases e2;exact⟨F,L,S,env,c,S1,R,E,e1,q⟩
def xO(fa fb:FE):FE:=λ env S=>(fa env S).bind λ p=>match p.1 with|.d (.bool true)=>fb env p.2|.d (.bool false)=>qz (.d (.bool false),p.2)|_=>qx
def yH(fa fb:FE):FE:=λ env S=>(fa env S).bind λ p=>match p.1 with|.d (.bool false)=>fb env p.2|.d (.bool true)=>qz (.d (.bool true),p.2)|_=>qx
def xS(fa:FE):FE:=λ env S=>(fa env S).bind λ p=>match p.1 with|.d (.bool b)=>qz (.d (.bool (!b)),p.2)|_=>qx
def xR(h:dM K F L (.d (.bool b)) v):v=.bl b:=by cases (show Den K F (.bool b) v from h);rfl
def aKu{fa fb:FE}(σ:St)(H:Hp)(Q:VK)(h:aP K (xO fa fb) σ H Q):aLK (aP K fa) (aP K fb) σ H Q:=by
 let(F,L,S,env,w,S',R,E,e,q):=h;let((c,S1),e1,e2):=aI e;dsimp only at e2;split at e2
 ·exact⟨F,L,S,env,_,S1,R,E,e1,λ F1 L1 H1 v g1 R1 d1=>⟨true,xR d1,uI ⟨F1,L1,S1,env,w,S',R1,E.mono g1,e2,λ F2 L2 H2 v2 g2 R2 d2=>q F2 L2 H2 v2 (g1.trans g2) R2 d2⟩⟩⟩
 ·cases e2;exact⟨F,L,S,env,_,_,R,E,e1,λ F1 L1 H1 v g1 R1 d1=>⟨false,xR d1,uF (q F1 L1 H1 _ g1 R1 (Den.bl false))⟩⟩
 ·cases e2
def aLJ{fa fb:FE}(σ:St)(H:Hp)(Q:VK)(h:aP K (yH fa fb) σ H Q):aML (aP K fa) (aP K fb) σ H Q:=by
 let(F,L,S,env,w,S',R,E,e,q):=h;let((c,S1),e1,e2):=aI e;dsimp only at e2;split at e2
 ·exact⟨F,L,S,env,_,S1,R,E,e1,λ F1 L1 H1 v g1 R1 d1=>⟨false,xR d1,uF ⟨F1,L1,S1,env,w,S',R1,E.mono g1,e2,λ F2 L2 H2 v2 g2 R2 d2=>q F2 L2 H2 v2 (g1.trans g2) R2 d2⟩⟩⟩
 ·cases e2;exact⟨F,L,S,env,_,_,R,E,e1,λ F1 L1 H1 v g1 R1 d1=>⟨true,xR d1,uI (q F1 L1 H1 _ g1 R1 (Den.bl true))⟩⟩
 ·cases e2
def aV3{fa:FE}(ha:PE X a (aP X.K fa)):PE X (.UnaryOp .Not a pos) (aP X.K (xS fa)):=
 PE.weak (aVX ha) λ σ H Q aX=>by
  let(F,L,S,env,w,S',R,E,e,q):=aX;let((c,S1),e1,e2):=aI e;dsimp only at e2;split at e2
  ·cases e2;exact⟨F,L,S,env,_,_,R,E,e1,λ F1 L1 H1 v g1 R1 d1=>⟨_,xR d1,q F1 L1 H1 _ g1 R1 (Den.bl _)⟩⟩
  ·cases e2
def xZ(fc:FT)(fa fb:FE):FE:=λ env S=>(fc env S).bind λ p=>if p.1=true then fa env p.2 else fb env p.2
def aWA{fc:FT}{fa fb:FE}(hc:PT X c (gB X.K fc))(ha:PE X a (aP X.K fa))(hb:PE X b (aP X.K fb)):PE X (.IfExp c a b pos) (aP X.K (xZ fc fa fb)):=
 PE.weak (aRe hc ha hb) λ σ H Q aX=>by
  let(F,L,S,env,w,S',R,E,e,q):=aX;let((c,S1),e1,e2):=aI e;refine⟨F,L,S,env,c,S1,R,E,e1,λ F1 L1 H1 g1 R1=>?_⟩;dsimp only at e2;cases c with
  |true=>exact uI ⟨F1,L1,S1,env,w,S',R1,E.mono g1,by simpa using e2,λ F2 L2 H2 v g2 R2 d2=>q F2 L2 H2 v (g1.trans g2) R2 d2⟩|false=>exact uF ⟨F1,L1,S1,env,w,S',R1,E.mono g1,by simpa using e2,λ F2 L2 H2 v g2 R2 d2=>q F2 L2 H2 v (g1.trans g2) R2 d2⟩
def iK:FA:=λ _ S=>qz ([],S)
def cT(fa:FE)(fr:FA):FA:=λ env S=>(fa env S).bind λ p=>(fr env p.2).bind λ q=>qz (p.1::q.1,q.2)
def aEN:PA X [] (eD X.K iK):=PA.weak aEi λ σ H Q aX=>by let(F,L,S,env,ws,S',R,E,e,q):=aX;cases e;exact q F L H [] Gr.refl R .nil
def mC{fa:FE}{fr:FA}(ha:PE X e (aP X.K fa))(hr:PA X es (eD X.K fr))(hs:qo (e::es) X.env=(false,eval e X.env)::qo es X.env):PA X (e::es) (eD X.K (cT fa fr)):=
 PA.weak (aDQ ha hr hs) λ σ H Q aX=>by
  let(F,L,S,env,ws,S',R,E,e,q):=aX;let((w,S1),e1,e2):=aI e;let((wr,S2),e3,e4):=aI e2;cases e4;exact⟨F,L,S,env,w,S1,R,E,e1,λ F1 L1 H1 v g1 R1 d1=>⟨F1,L1,S1,env,wr,S2,R1,E.mono g1,e3,λ F2 L2 H2 vs g2 R2 d2=>q F2 L2 H2 _ (g1.trans g2) R2 (.cons (d1.mono g2) d2)⟩⟩
def jQ:List W->Option (List D)
 |[]=>qz []|.d x::r=>(jQ r).bind λ l=>qz (x::l)|.tpl ws::r=>(eX ws).bind λ x=>(jQ r).bind λ l=>qz (.tuple x::l)|_::_=>qx
def qI:∀ {ws:List W}{xs:List V}{ds:List D},WDenL K F L ws xs->jQ ws=qz ds->DenL K F ds xs
 |_,_,_,.nil,e=>by cases e;exact .nil
 |.d x::r,_,_,.cons h t,e=>by
   let(l,e1,e2):=aI e;cases e2;exact .cons h (qI t e1)
 |.tpl ws::r,_,_,.cons h t,e=>by
   let(x,e0,e):=aI e;let(l,e1,e2):=aI e;cases e2;let(a,vs,rfl,h1,h2):=h;exact .cons (.tup (.inl (.inl h1)) (vZ h2 e0)) (qI t e1)
 |.loc _::_,_,_,.cons _ _,e=>by cases e|.exc _ _::_,_,_,.cons _ _,e=>by cases e|.dic _::_,_,_,.cons _ _,e=>by cases e|.ob _::_,_,_,.cons _ _,e=>by cases e
def yM(fs:FA):FE:=λ env S=>(fs env S).bind λ p=>(jQ p.1).bind λ ds=>if ↑ds<=qk then qz (.d (.tuple ds),p.2) else qx
def aYM{fs:FA}(h:PA X es (eD X.K fs)):PE X (.Tuple es k pos) (aP X.K (yM fs)):=
 PE.weak (aKk h) λ σ H Q aX=>by
  let(F,L,S,env,w,S',R,E,e,q):=aX;let((ws,S1),e1,e2):=aI e;let(ds,e3,e4):=aI e2;split at e4
  ·rename_i hz;cases e4;refine⟨F,L,S,env,ws,_,R,E,e1,λ F1 L1 H1 vs g1 R1 d1=>?_⟩;have dl:=qI d1 e3;refine⟨by rw[<- dl.length];exact hz,λ p hp=>?_⟩;exact q _ L1 _ _ (g1.trans (Gr.new (R1.sub.free hp))) (R1.new hp) (Den.tup (cH.of cO) (dl.mono (gD (R1.sub.free hp))))
  ·cases e4
def yJ(fs:FA):FL:=λ env S=>(fs env S).bind λ p=>(jQ p.1).bind λ ds=>if ↑ds<=qk then qz (ds,p.2) else qx
def aXz{fs:FA}(h:PA X es (eD X.K fs)):PE X (.List es pos) (jY X.K (yJ fs)):=
 PE.weak (aEs h) λ σ H Q aX=>by
  let(F,L,S,env,ds,S',R,E,e,q):=aX;let((ws,S1),e1,e2):=aI e;let(ds',e3,e4):=aI e2;split at e4
  ·rename_i hz;cases e4;refine⟨F,L,S,env,ws,_,R,E,e1,λ F1 L1 H1 vs g1 R1 d1=>?_⟩;have dl:=qI d1 e3;exact⟨by rw[<- dl.length];exact hz,λ p hp=>q F1 L1 _ p vs g1 (R1.lay hp) (R1.sub.free hp) (R1.notin hp) cO dl⟩
  ·cases e4
def kM(f:FL):FE:=λ env S=>(f env S).bind λ p=>qz (.d (.list p.1),p.2)
def aNo{f:FL}(h:PE X e (jY X.K f)):PE X e (aP X.K (kM f)):=
 PE.weak h λ σ H Q aX=>by
  let(F,L,S,env,w,S',R,E,e,q):=aX;let((ds,S1),e1,e2):=aI e;cases e2;exact⟨F,L,S,env,ds,_,R,E,e1,λ F1 L1 H1 p xs g1 R1 hF hL hH dl=>q _ L1 _ _ (g1.trans (Gr.new hF)) (R1.adopt hF hL hH) (Den.lst (bX.of cO) (dl.mono (gD hF)))⟩
def hU(f:FL):FE:=λ env S=>(f env S).bind λ p=>qz (.loc p.2.length,p.2++[qz p.1])
def aXM{f:FL}(h:PE X e (jY X.K f)):PE X e (aP X.K (hU f)):=
 PE.weak h λ σ H Q aX=>by
  let(F,L,S,env,w,S',R,E,e,q):=aX;let((ds,S1),e1,e2):=aI e;cases e2;refine⟨F,L,S,env,ds,_,R,E,e1,λ F1 L1 H1 p xs g1 R1 hF hL hH dl=>q _ _ _ _ (g1.trans Gr.newLoc) (R1.adoptLoc hF hL hH dl) ⟨p,?_,rfl⟩⟩;dsimp only;rw[<- R1.len,yAf (yAb _)];simp
def aH:D->D->Option D
 |.list xs,.int i=>jU xs i|.tuple xs,.int i=>jU xs i
 |.str z,.int i=>if z.length<=qk then (jU z.cps.toList i).bind λ c=>qz (.str ⟨#[c]⟩) else qx
 |_,_=>qx
def aJw{xs:List V}{i:Int}(h:DenL K F ds xs)(e:jU ds i=qz d):∃ x,jU xs i=qz x/\Den K F d x:=by unfold jU at e ⊢;rw[<- h.length];let(j,e1,e2):=aI e;let(x,e3,dx):=h.get e2;exact⟨x,by rw[e1];exact e3,dx⟩
def aR7:uO X (rD2 X aH):=λ value iS aB s σ H x y v u Q I rx ry aX hs=>by
 let(F,L,S,dx,dy,z,R,nx,ny,e,q):=aX;unfold aH at e;split at e
 ·let(a,xs,rfl,sq,dl):=nx.lst R.sub;let(r,e1,d1):=aJw dl e;exact aRR value iS aB s σ H _ y v u Q I rx ry ⟨a,xs,_,r,rfl,ny.int,sq,e1,q.here R d1⟩ hs
 ·let(a,xs,rfl,sq,dl):=nx.tup R.sub;let(r,e1,d1):=aJw dl e;exact aKd value iS aB s σ H _ y v u Q I rx ry ⟨a,xs,_,r,rfl,ny.int,sq,e1,q.here R d1⟩ hs
 ·split at e
  ·rename_i hz;let(c,e1,e2):=aI e;cases e2;exact aUV value iS aB s σ H x y v u Q I rx ry ⟨_,_,c,nx.str,ny.int,hz,e1,q.here R (.str _)⟩ hs
  ·cases e
 ·cases e
def pX(fa fb:FE):FE:=f2 fa fb (jG aH)
def aYY{fa fb:FE}(ha:PE X a (aP X.K fa))(hb:PE X b (aP X.K fb))(hs:qL b):PE X (.Subscript a b pos) (aP X.K (pX fa fb)):=
 PE.weak (aE9 aR7 ha hb hs) (aCf aBk)
abbrev FO:=bB->aC->Option (Option Int×aC)
def zT:FO:=λ _ S=>qz (qx,S)
def pC(fa:FE):FO:=λ env S=>(fa env S).bind λ p=>match p.1 with|.d (.int i)=>qz (qz i,p.2)|_=>qx
def mO(K:FrG)(f:FO):TO:=λ σ H Q=>∃ F L S env o S',Rel K F L S H/\EnvR K F L env σ/\f env S=qz (o,S')/\∀ F' L' H',Gr F L F' L'->Rel K F' L' S' H'->Q o H'
def aZM:PO X qx (mO X.K zT):=λ aB s σ H Q I aX=>by
 let(F,L,S,env,o,S',R,E,e,q):=aX;cases e;exact aRS aB s σ H Q I (q F L H Gr.refl R)
def aTX{fa:FE}(ha:PE X a (aP X.K fa)):PO X (qz a) (mO X.K (pC fa)):=λ aB s σ H Q I aX=>by
 let(F,L,S,env,o,S',R,E,e,q):=aX;let((w,S1),e1,e2):=aI e;dsimp only at e2;split at e2
 ·cases e2;refine aSN ha aB s σ H Q I ⟨F,L,S,env,_,_,R,E,e1,λ F1 L1 H1 v g1 R1 d1=>?_⟩;cases (show Den X.K F1 (.int _) v from d1);exact⟨_,rfl,q F1 L1 H1 g1 R1⟩
 ·cases e2
def dY(xs:List D)(lo hi:Option Int):List D:=(xs.drop (HT.sIx ↑xs 0 lo)).take (HT.sIx ↑xs ↑xs hi-HT.sIx ↑xs 0 lo)
def aIZ{xs:List V}(h:DenL K F ds xs)(lo hi:Option Int):DenL K F (dY ds lo hi) (nT xs lo hi):=by unfold dY nT;rw[h.length];exact(h.drop _).take _
def slL:D->Option Int->Option Int->Option (List D)
 |.list xs,lo,hi=>qz (dY xs lo hi)|_,_,_=>qx
def aNa(fa:FE)(fl fh:FO):FL:=λ env S=>(fa env S).bind λ p=>(fl env p.2).bind λ q=>(fh env q.2).bind λ r=>(dr r.2 p.1).bind λ d=>(slL d q.1 r.1).bind λ z=>qz (z,r.2)
def aXD{lo hi:Option qy}{fa:FE}{fl fh:FO}(ha:PE X a (aP X.K fa))(hl:PO X lo (mO X.K fl))(hh:PO X hi (mO X.K fh)):PE X (.Subscript a (.Slice lo hi qx p2) pos) (jY X.K (aNa fa fl fh)):=
 PE.weak (aIB aRp ha hl hh) λ σ H Q aX=>by
  let(F,L,S,env,ds,S',R,E,e,q):=aX;let((w,S1),e1,e):=aI e;let((l,S2),e2,e):=aI e;let((h,S3),e3,e):=aI e;let(d,e4,e):=aI e;let(z,e5,e):=aI e;cases e;refine⟨F,L,S,env,w,S1,R,E,e1,λ F1 L1 H1 v g1 R1 d1=>⟨F1,L1,S1,env,l,S2,R1,E.mono g1,e2,λ F2 L2 H2 g2 R2=>⟨F2,L2,S2,env,h,S3,R2,E.mono (g1.trans g2),e3,λ F3 L3 H3 g3 R3=>?_⟩⟩⟩;have n:=kW R3 (d1.mono (g2.trans g3)) e4;cases d with
  |list xs=>
    cases e5;let(a,vs,rfl,sq,dl):=n.lst R3.sub;exact⟨a,vs,rfl,sq,λ p hp=>q F3 L3 _ p _ ((g1.trans g2).trans g3) (R3.lay hp) (R3.sub.free hp) (R3.notin hp) cO (aIZ dl l h)⟩
  |_=>cases e5
def pS(K:FrG)(np:Nat)(call:List W->aC->Option (W×aC)):Sp:=λ vs H Q _=>∃ F L S ws w S',↑ws=np/\Rel K F L S H/\WDenL K F L ws vs/\call ws S=qz (w,S')/\uK K F L S' w Q
def aBY(fs:FA)(np:Nat)(call:List W->aC->Option (W×aC)):FE:=λ env S=>(fs env S).bind λ p=>if p.1.length=np then call p.1 p.2 else qx
def aTD{fs:FA}{call:List W->aC->Option (W×aC)}(σ:St)(H:Hp)(Q:VK)(h:aP K (aBY fs np call) σ H Q):aBL (pS K np call) [] E0 (eD K fs) σ H Q:=by
 let(F,L,S,env,w,S',R,E,e,q):=h;let((ws,S1),e1,e):=aI e;split at e
 ·rename_i hn;refine⟨F,L,S,env,ws,S1,R,E,e1,λ F1 L1 H1 vs g1 R1 d1=>⟨F1,L1,S1,ws,w,S',hn,R1,by rw[yBz];exact d1,e,λ F2 L2 H2 v g2 R2 d2=>q F2 L2 H2 v (g1.trans g2) R2 d2⟩⟩
 ·cases e
inductive NowL (K:FrG) (F H:Hp):List D->List V->Prop
 |nil:NowL K F H [] []
 |cons {d:D}{ds:List D}{x:V}{xs:List V}:bW K F H d x->NowL K F H ds xs->NowL K F H (d::ds) (x::xs)
def nY(S:aC):List W->Option (List D)
 |[]=>qz []|w::r=>(dr S w).bind λ d=>(nY S r).bind λ l=>qz (d::l)
def aJm(R:Rel K F L S H):∀ {ws:List W}{xs:List V}{ds:List D},WDenL K F L ws xs->nY S ws=qz ds->NowL K F H ds xs
 |_,_,_,.nil,e=>by cases e;exact .nil
 |_,_,_,.cons h t,e=>by
   let(d,e1,e):=aI e;let(l,e2,e):=aI e;cases e;exact .cons (kW R h e1) (aJm R t e2)
def uQ(X:Cx)(g:List D->Option D):List V->Hp->VK->Prop:=λ xs H Q=>∃ F L S ds z,Rel X.K F L S H/\NowL X.K F H ds xs/\g ds=qz z/\fZ X F L S z Q
def rN(fs:FA)(g:List D->Option D):FE:=λ env S=>(fs env S).bind λ p=>(nY p.2 p.1).bind λ ds=>(g ds).bind λ z=>qz (.d z,p.2)
def xL{fs:FA}{g:List D->Option D}(σ:St)(H:Hp)(Q:VK)(h:aP X.K (rN fs g) σ H Q):tCB (uQ X g) (eD X.K fs) σ H Q:=by let(F,L,S,env,w,S',R,E,e,q):=h;let((ws,S1),e1,e):=aI e;let(ds,e2,e):=aI e;let(z,e3,e):=aI e;cases e;refine⟨F,L,S,env,ws,_,R,E,e1,λ F1 L1 H1 vs g1 R1 d1=>⟨F1,L1,S1,ds,z,R1,aJm R1 d1 e2,e3,aA7 X rfl λ F2 L2 H2 v g2 R2 d2=>q F2 L2 H2 v (g1.trans g2) R2 d2⟩⟩
section
variable {prog:zx}{w:zj}{A:zv}{E:qj->qv->Prop}
def aHQ{it t:qw}{aZ:Array qj}(hne:t≠it):∀ (n i:Nat) (s:qv) (Q:List qj->qv->Prop),s.heap.IsListIter it t i->s.heap.IsList t aZ->i+n<=aZ.size ->
 (∀ h',h'.IsListIter it t (i+n)->yCz it s.heap h'->Q ((aZ.toList.drop i).take n) {s with heap:=h' })->qu (model prog w) A (draw (.ref it) n) Q E s
 |0,i,s,Q,hit,_,_,hQ=>wP (hQ s.heap hit (Heap.SameBut.refl _ _):)
 |n+1,i,s,Q,hit,hl,hle,hQ=>by
   have hlt:i<aZ.size:=by omega
   show qu _ _ (yz (.ref it) >>= _) Q E s;refine wB (yx hit hl (x:=aZ[i]) (by simp[hlt]) λ h1 hit1 hs1=>?_);refine wB (zu (aHQ hne n (i+1) _ _ hit1 (hl.extBut hs1.extBut hne) (!_) λ h2 hit2 hs2=>wP ?_));have q:=hQ h2 (by rw[show i+(n+1)=i+1+n by omega];exact hit2) (hs1.trans hs2);rw[yEu (hlt:),List.take_succ_cons] at q;exact q
end
def aOz{A:zv}{E:qj -> qv -> Prop}{s:qv}{x1}{Q:Unit->qv->Prop}(hh:A.handled=qx)(hl:s.heap.IsList t aZ)(hn:(zo elts env).length=aZ.size)(hstar:(zo elts env).findIdx? (·.1)=qx)(h:∀ h',Heap.ExtBut s.heap.objs.size s.heap h'->qu (model prog w) A (assignInOrder ((zo elts env).map (·.2)) aZ.toList) Q E {s with heap:=h' }) :
 qu (model prog w) A (assign (.Tuple elts x1 pos) env (.ref t)) Q E s:=by
 have hlt:t≠s.heap.objs.size:=by let(o,ho,_):=hl;exact xAj (xAa ho)
 have hl1:∀ o,(s.heap.push o).IsList t aZ:=λ o=>let ⟨u,hu,r⟩:=hl;⟨u,hpS _ hu,r⟩
 rw[arm_assign_Tuple];refine wB (ww ?_);unfold unpack;rw[hn,hstar];refine wB (zu ?_);unfold unpackItems;refine wB ?_;unfold notIterableAtAll;refine wB (vw hl.typeIs slot_list_iter.lookup (wP ?_));simp only[yAt,if_false];refine wB (zu (wz hl ?_));refine wB (zu (aHQ hlt aZ.size 0 _ _ ⟨_,xAd _ rfl,rfl,rfl⟩ (hl1 _) (!_) λ h1 hit1 hs1=>?_));rw[show yEf aZ.size (List.drop 0 aZ.toList)=aZ.toList by rw[yFx];exact yCh (by simp)];rw[if_neg (by simp)];have hl2:h1.IsList t aZ:=(hl1 _).extBut hs1.extBut hlt;refine wB (zu (yv hh hit1 hl2 (by simp) λ h2 he2=>?_));simp only[Option.isSome_none,yAt,if_false];exact wP (h h2 λ b o hb e=>he2 b o hb (hs1.extBut b o hb (hpS _ e)))
def aFC(K:FrG)(n:Nat)(t:jT):TG:=λ v σ H Q=>∃ a xs,v=.ref a/\(cH K H a xs\/bX K H a xs)/\↑xs=n/\t xs σ H Q
def aTH(hc:X.calm=true)(h:rX X es t)(hn:(zo es X.env).length=n)(hst:(zo es X.env).findIdx? (·.1)=qx):PG X (.Tuple es k pos) (aFC X.K n t):=by
 intro aB s σ H v u Q I r hw;let(a,xs,e1,hq,hl,hw):=hw;rcases hq with hq|hq
 ·exact aVg hc h hn hst aB s σ H v u Q I r ⟨a,xs,e1,hq,hl,hw⟩
 ·subst e1;cases r;let(aG,rv,pl,hz):=I.list hq;refine aOz (I.ok.hd hc) pl.isList (by simp[hn,<- hl,rv.length]) hst λ h' hx=>?_
  have I1:Inv X aB σ H {s with heap:=h' }:=I.kept (t':=s.toks) λ b o e=>hx b o (xAj (xAa e)) e
  exact h aB _ σ H xs _ Q I1 (rv:) hw
def aMJ(K:FrG)(D:Ends)(F':Hp)(L':Lx)(H':Hp):Fl->Prop
 |.nx aS=>∀ σ',EnvR K F' L' aS σ'->D.nx σ' H'|.rt w=>∀ v,dM K F' L' w v->D.rt v H'|.bk aS=>∀ σ',EnvR K F' L' aS σ'->D.bk σ' H'|.ct aS=>∀ σ',EnvR K F' L' aS σ'->D.ct σ' H'
def mF{f:FS}{D:Ends}(R:Rel K F L S H)(E:EnvR K F L env σ)(e:f env S=qz (fl,S'))(q:∀ F' L' H',Gr F L F' L'->Rel K F' L' S' H'->aMJ K D F' L' H' fl):cZ K f D σ H:=⟨F,L,S,env,fl,S',R,E,e,λ F' L' H' g R'=>by
 have:=q F' L' H' g R';cases fl<;>exact this⟩
def kS{f:FS}{D:Ends}{σ:St}{H:Hp}(h:cZ K f D σ H):∃ F L S env fl S',Rel K F L S H/\EnvR K F L env σ/\f env S=qz (fl,S')/\∀ F' L' H',Gr F L F' L'->Rel K F' L' S' H'->aMJ K D F' L' H' fl:=by
 let(F,L,S,env,fl,S',R,E,e,q):=h;exact⟨F,L,S,env,fl,S',R,E,e,λ F' L' H' g R'=>by
  have:=q F' L' H' g R';cases fl<;>exact this⟩
def tR:FS:=λ env S=>qz (.nx env,S)
def aUg:dI X [] (cZ X.K tR):=dI.weak aJl λ D σ H h=>by
 let(F,L,S,env,fl,S',R,E,e,q):=kS h;cases e;exact q F L H Gr.refl R σ E
def eC(fa fb:FS):FS:=λ env S=>(fa env S).bind λ p=>match p.1 with|.nx e=>fb e p.2|fl=>qz (fl,p.2)
def aWt{fa fb:FS}(ha:PS X a (cZ X.K fa))(hb:dI X b (cZ X.K fb)):dI X (a::b) (cZ X.K (eC fa fb)):=dI.weak (aIf ha hb) λ D σ H h=>by
 let(F,L,S,env,fl,S',R,E,e,q):=kS h;let((f1,S1),e1,e2):=aI e;cases f1 with
 |nx e'=>exact mF R E e1 λ F1 L1 H1 g1 R1 σ1 E1=>mF R1 E1 e2 λ F2 L2 H2 g2 R2=>q F2 L2 H2 (g1.trans g2) R2|rt w=>cases e2;exact mF R E e1 λ F1 L1 H1 g1 R1=>q F1 L1 H1 g1 R1|bk e'=>cases e2;exact mF R E e1 λ F1 L1 H1 g1 R1=>q F1 L1 H1 g1 R1|ct e'=>cases e2;exact mF R E e1 λ F1 L1 H1 g1 R1=>q F1 L1 H1 g1 R1
def xB(fa:FE):FS:=λ env S=>(fa env S).bind λ p=>qz (.nx env,p.2)
def aVG{pos:Pos}{fa:FE}(h:PE X e (aP X.K fa))(hs:swapsWith e qx pos.line X.env=pure false):PS X (.Expr e pos) (cZ X.K (xB fa)):=PS.weak (aSM h hs) λ D σ H h=>by
 let(F,L,S,env,fl,S',R,E,e,q):=kS h;let((w,S1),e1,e2):=aI e;cases e2;exact⟨F,L,S,env,w,_,R,E,e1,λ F1 L1 H1 v g1 R1 d1=>q F1 L1 H1 g1 R1 σ (E.mono g1)⟩
def pJ(fa:FE):FS:=λ env S=>(fa env S).bind λ p=>qz (.rt p.1,p.2)
def aXw{fa:FE}(h:PE X e (aP X.K fa)):PS X (.Return (qz e) pos) (cZ X.K (pJ fa)):=PS.weak (aUM h) λ D σ H h=>by
 let(F,L,S,env,fl,S',R,E,e,q):=kS h;let((w,S1),e1,e2):=aI e;cases e2;exact⟨F,L,S,env,w,_,R,E,e1,λ F1 L1 H1 v g1 R1 d1=>q F1 L1 H1 g1 R1 v d1⟩
def aXY:FS:=λ env S=>qz (.rt (.d .none),S)
def oI(fc:FT)(fa fb:FS):FS:=λ env S=>(fc env S).bind λ p=>if p.1=true then fa env p.2 else fb env p.2
def aYW{fc:FT}{fa fb:FS}(hc:PT X c (gB X.K fc))(ha:dI X a (cZ X.K fa))(hb:dI X b (cZ X.K fb)):PS X (.If c a b pos) (cZ X.K (oI fc fa fb)):=PS.weak (aYI hc ha hb) λ D σ H h=>by
 let(F,L,S,env,fl,S',R,E,e,q):=kS h;let((c,S1),e1,e2):=aI e;refine⟨F,L,S,env,c,S1,R,E,e1,λ F1 L1 H1 g1 R1=>?_⟩;cases c with
 |true=>exact uI (mF R1 (E.mono g1) (e2:) λ F2 L2 H2 g2 R2=>q F2 L2 H2 (g1.trans g2) R2)|false=>exact uF (mF R1 (E.mono g1) (e2:) λ F2 L2 H2 g2 R2=>q F2 L2 H2 (g1.trans g2) R2)
def jS(i:Nat)(fa:FE):FS:=λ env S=>(fa env S).bind λ p=>qz (.nx (env.set i (qz p.1)),p.2)
def aLP{fa:FE}(D:Ends)(σ:St)(H:Hp)(h:cZ K (jS i fa) D σ H):yI (aP K fa) (oW i) D σ H:=by let(F,L,S,env,fl,S',R,E,e,q):=kS h;let((w,S1),e1,e2):=aI e;cases e2;exact⟨F,L,S,env,w,_,R,E,e1,λ F1 L1 H1 v g1 R1 d1=>q F1 L1 H1 g1 R1 _ ((E.mono g1).set i d1)⟩
def aMy{pos:Pos}{fa:FE}(hN:X.N.Nodup)(hi:X.N[i]?=qz x)(hx:Loc X.env.scope x)(he:PE X e (aP X.K fa))(hs:swapsWith e (qz (.Name x pos')) pos.line X.env=pure false)(hf:X.fn x=true\/X.env.scope.names.lookup x=qz .local) :
 PS X (.Assign [.Name x pos'] e pos) (cZ X.K (jS i fa)):=PS.weak (aUa hN hi hx he hs hf) aLP
def nC:List Nat->List D->bB->Option bB
 |[],[],env=>qz env|i::is,d::ds,env=>nC is ds (env.set i (qz (.d d)))|_,_,_=>qx
inductive Tg where
 |one (i:Nat)|many (is:List Nat)
def Tg.put:Tg->D->bB->Option bB
 |.one i,d,env=>qz (env.set i (qz (.d d)))|.many is,.tuple ds,env=>nC is ds env|.many is,.list ds,env=>nC is ds env|.many _,_,_=>qx
def GA(K:FrG)(t:Tg)(g:TG):Prop:=∀ (d:D) (x:V) (σ:St) (H F:Hp) (L:Lx) (S:aC) (env aS:bB) (Q:St->Hp->Prop),
 Rel K F L S H->EnvR K F L env σ->Den K F d x->t.put d env=qz aS->(∀ σ',EnvR K F L aS σ'->Q σ' H)->g x σ H Q
def aVR(i:Nat):GA K (.one i) (oW i):=λ d x σ H F L S env aS Q R E dn e q=>by
 cases e;exact q _ (E.set i (w:=.d d) dn)
def zK(K:FrG)(is:List Nat)(g:jT):Prop:=∀ (ds:List D) (xs:List V) (σ:St) (H F:Hp) (L:Lx) (S:aC) (env aS:bB) (Q:St->Hp->Prop),
 Rel K F L S H->EnvR K F L env σ->DenL K F ds xs->nC is ds env=qz aS->(∀ σ',EnvR K F L aS σ'->Q σ' H)->g xs σ H Q
def aSJ:zK K [] aFq:=λ ds xs σ H F L S env aS Q R E dn e q=>by
 cases dn with
 |nil=>cases e;exact⟨rfl,q σ E⟩|cons _ _=>cases e
def aRg(h:zK K is g):zK K (i::is) (aE2 (oW i) g):=λ ds xs σ H F L S env aS Q R E dn e q=>by
 cases dn with
 |nil=>cases e|cons d1 dr=>exact⟨_,_,rfl,h _ _ _ H F L S _ aS Q R (E.set i (w:=.d _) d1) dr e q⟩
def aC2:∀ {is:List Nat}{ds:List D}{env aS:bB},nC is ds env=qz aS->↑is=↑ds
 |[],[],_,_,_=>rfl|_::is,_::ds,_,_,e=>congrArg (· + 1) (@aC2 is ds _ _ e)|[],_::_,_,_,e=>by cases e|_::_,[],_,_,e=>by cases e
def aTf(h:zK K is g):GA K (.many is) (aFC K ↑is g):=λ d x σ H F L S env aS Q R E dn e q=>by
 cases d with
 |tuple ds=>
   cases dn with
   |tup sq dl=>exact⟨_,_,rfl,.inl (nG R.sub sq),by rw[<- dl.length];exact(aC2 e).symm,h _ _ σ H F L S env aS Q R E dl e q⟩
 |list ds=>
   cases dn with
   |lst sq dl=>exact⟨_,_,rfl,.inr (R.sub.seq sq),by rw[<- dl.length];exact(aC2 e).symm,h _ _ σ H F L S env aS Q R E dl e q⟩
 |_=>cases e
def xM(t:Tg)(fa:FE):FS:=λ env S=>(fa env S).bind λ p=>match p.1 with|.d d=>(t.put d env).bind λ e=>qz (.nx e,p.2)|_=>qx
def aT5{fa:FE}(hg:GA K t g)(D:Ends)(σ:St)(H:Hp)(h:cZ K (xM t fa) D σ H):yI (aP K fa) g D σ H:=by
 let(F,L,S,env,fl,S',R,E,e,q):=kS h;let((w,S1),e1,e2):=aI e;dsimp only at e2;split at e2
 ·let(e',e3,e4):=aI e2;cases e4;exact⟨F,L,S,env,_,_,R,E,e1,λ F1 L1 H1 v g1 R1 d1=>hg _ v σ H1 F1 L1 _ env e' _ R1 (E.mono g1) d1 e3 λ σ' E'=>q F1 L1 H1 g1 R1 σ' E'⟩
 ·cases e2
def iZ(S:aC):W->W->W->Option aC
 |.loc n,.d (.int k),.d x=>match S[n]? with
   |some (qz ds)=>(jH ↑ds k).bind λ j=>qz (S.set n (qz (ds.set j x)))|_=>qx
 |_,_,_=>qx
def jR(fo fi fe:FE):FS:=λ env S=>(fe env S).bind λ p=>(fo env p.2).bind λ q=>(fi env q.2).bind λ r=>(iZ r.2 q.1 r.1 p.1).bind λ S'=>qz (.nx env,S')
def aOY(h:iZ S o i x=qz S'):∃ n k d ds j,o=.loc n/\i=.d (.int k)/\x=.d d/\S[n]?=qz (qz ds)/\jH ↑ds k=qz j/\S'=S.set n (qz (ds.set j d)):=by
 unfold iZ at h;split at h
 ·split at h
  ·rename_i ds e;let(j,e1,e2):=aI h;cases e2;exact⟨_,_,_,ds,j,rfl,rfl,rfl,e,e1,rfl⟩
  ·cases h
 ·cases h
def aXu{fo fi fe:FE}(D:Ends)(σ:St)(H:Hp)(h:cZ K (jR fo fi fe) D σ H):yI (aP K fe) (aMR (aP K fo) (aP K fi) aLA) D σ H:=by
 let(F,L,S,env,fl,S',R,E,e,q):=kS h;let((we,S1),e1,e):=aI e;let((wo,S2),e2,e):=aI e;let((wi,S3),e3,e):=aI e;let(S4,e4,e):=aI e;cases e;let(n,k,d,ds,j,rfl,rfl,rfl,e5,e6,rfl):=aOY e4;refine⟨F,L,S,env,_,S1,R,E,e1,λ F1 L1 H1 v g1 R1 d1=>⟨F1,L1,S1,env,_,S2,R1,E.mono g1,e2,λ F2 L2 H2 o g2 R2 d2=>⟨F2,L2,S2,env,_,S3,R2,E.mono (g1.trans g2),e3,λ F3 L3 H3 i g3 R3 d3=>?_⟩⟩⟩;let(a,ea,rfl):=d2.mono g3;let(fa,xs,ha,dl):=R3.loc n a ds ea e5;have hi:i=.int k:=by cases (show Den K F3 (.int k) i from d3);rfl
 refine⟨a,xs,k,j,rfl,hi,ha,by rw[<- dl.length];exact e6,?_⟩;exact q F3 L3 _ ((g1.trans g2).trans g3) (R3.put ea fa (dl.set j (show Den K F3 d v from d1.mono (g2.trans g3)))) σ (E.mono ((g1.trans g2).trans g3))
def aX2{pos:Pos}{fo fi fe:FE}(ho:PE X o (aP X.K fo))(hi:PE X i (aP X.K fi))(he:PE X e (aP X.K fe))(ha:∀ v,assign (.Subscript o i pos') X.env v=(do
 let ov <- holding [v] (eval o X.env);let iv <- holding [v,ov] (eval i X.env)
 standAt pos'
 holding [v,ov,iv] (setItem ov iv v)
 release [v,ov,iv] []))(hs:swapsWithSole [.Subscript o i pos'] e pos.line X.env=pure false)(hw:wj [.Subscript o i pos'] e X.env=pure qx):PS X (.Assign [.Subscript o i pos'] e pos) (cZ X.K (jR fo fi fe)):=
 PS.weak (aK3 he (aTQ ho hi aQD ha) hs hw) aXu
def mP(S:aC)(n:Nat)(x:D):Option (W×aC):=match S[n]? with
 |some (qz ds)=>if ↑ds<qk then qz (.d .none,S.set n (qz (ds++[x]))) else qx
 |_=>qx
def cX(S:aC):W->W->Option (W×aC)
 |.loc n,.d x=>match S[n]? with
   |some (qz ds)=>if ↑ds<qk then qz (.d .none,S.set n (qz (ds++[x]))) else qx
   |_=>qx
 |.loc n,.tpl ws=>(eX ws).bind λ l=>mP S n (.tuple l)|_,_=>qx
def aHL(h:mP S n d=qz (w,S')):∃ ds,S[n]?=qz (qz ds)/\↑ds<qk/\w=.d .none/\S'=S.set n (qz (ds++[d])):=by
 unfold mP at h;split at h
 ·rename_i ds e;split at h
  ·rename_i hz;cases h;exact⟨ds,e,hz,rfl,rfl⟩
  ·cases h
 ·cases h
def aHj(h:cX S o x=qz (w,S')):∃ n d ds,o=.loc n/\wd x=qz d/\S[n]?=qz (qz ds)/\↑ds<qk/\w=.d .none/\S'=S.set n (qz (ds++[d])):=by
 cases o with
 |loc n=>
   cases x with
   |d x=>
     let(ds,h1,h2,h3,h4):=@aHL _ n x _ _ h;exact⟨n,x,ds,rfl,rfl,h1,h2,h3,h4⟩
   |tpl ws=>
     let(l,e,h):=aI (show(eX ws).bind (λ l=>mP S n (.tuple l))=qz (w,S') from h);let(ds,h1,h2,h3,h4):=aHL h;exact⟨n,_,ds,rfl,by rw[wd,e];rfl,h1,h2,h3,h4⟩
   |_=>cases h
 |_=>cases x<;>cases h
def lK(fo fe:FE):FE:=f2 fo fe cX
def aYn{fo fe:FE}(σ:St)(H:Hp)(Q:VK)(h:aP K (lK fo fe) σ H Q):tBM K "list" aJG (aP K fo) (eD K (cT fe iK)) σ H Q:=by
 let(F,L,S,env,w,S',R,E,e,q):=h;let((wo,S1),e1,e):=aI e;let((we,S2),e2,e):=aI e;let(n,d,ds,rfl,ed,e5,hz,rfl,rfl):=aHj e;refine⟨F,L,S,env,_,S1,R,E,e1,λ F1 L1 H1 o g1 R1 d1=>?_⟩;let(a,ea,rfl):=d1;refine⟨.inl ⟨rfl,?_⟩,F1,L1,S1,env,[we],S2,R1,E.mono g1,?_,λ F2 L2 H2 vs g2 R2 d2=>?_⟩
 ·let(xs,hx):=R1.trl ea;exact⟨xs,bX.of hx⟩
 ·unfold cT;rw[e2];rfl
 ·cases d2 with
  |cons dd dr=>
    cases dr;have ea2:=g2.get ea;let(fa,xs,ha,dl):=R2.loc n a ds ea2 e5;exact⟨a,xs,_,rfl,rfl,ha,by rw[<- dl.length];exact hz,q F2 L2 _ _ (g1.trans g2) (R2.put ea2 fa (dl.append (.cons (aBj dd ed) .nil))) Den.non⟩
structure Wk(K:FrG)(F:Hp)(L:Lx)(J:It)(ds:List D):Prop where
 go:∀ (i:Nat) (H:Hp),bT F H->i<↑ds->J.go i H
 stop:∀ (H:Hp),bT F H->J.stop ↑ds H
 yld:∀ (i:Nat) (H F1:Hp) (L1:Lx) (S:aC) (x:V) (H':Hp) (d:D),Gr F L F1 L1->Rel K F1 L1 S H->ds[i]?=qz d->J.yld i H x H'->∃ F2,bT F1 F2/\Rel K F2 L1 S H'/\Den K F2 d x
def jX(K:FrG)(f:FL):TI:=λ σ H R=>∃ F L S env ds S',Rel K F L S H/\EnvR K F L env σ/\f env S=qz (ds,S')/\∀ F' L' H' J,Gr F L F' L'->Rel K F' L' S' H'->Wk K F' L' J ds->R J H'
def PI.weak{t t':TI}(h:PI X tg iter t)(w:∀ σ H R,t' σ H R->t σ H R):PI X tg iter t':=λ aB s σ H R I q=>h aB s σ H R I (w σ H R q)
def aTr{xs:List V}(sq:bX K F a xs)(dl:DenL K F ds xs):Wk K F L (Itl K a) ds where
 go:=λ i H s hi=>⟨xs,xs[i]'(by rw[<- dl.length];exact hi),s.seq sq,by simp[dl.length▸hi]⟩
 stop:=λ H s=>⟨xs,s.seq sq,yHu dl.length.symm⟩
 yld:=λ i H F1 L1 S x H' d g R e y=>by
  let(e1,y):=y;subst e1;have h:=y xs ((g.f.trans R.sub).seq sq);let(x',e2,dx):=dl.get e;rw[h] at e2;cases e2;exact⟨F1,bT.refl _,R,dx.mono g.f⟩
def aUR{xs:List V}(sq:cH K F a xs)(dl:DenL K F ds xs):Wk K F L (Itt K a) ds where
 go:=λ i H s hi=>⟨xs,xs[i]'(by rw[<- dl.length];exact hi),nG s sq,by simp[dl.length▸hi]⟩
 stop:=λ H s=>⟨xs,nG s sq,yHu dl.length.symm⟩
 yld:=λ i H F1 L1 S x H' d g R e y=>by
  let(e1,y):=y;subst e1;have h:=y xs (nG (g.f.trans R.sub) sq);let(x',e2,dx):=dl.get e;rw[h] at e2;cases e2;exact⟨F1,bT.refl _,R,dx.mono g.f⟩
def lB(lo:Int):Nat->List D
 |0=>[]|n+1=>.int lo::lB (lo+1) n
def aCV(n:Nat):∀ lo:Int,(lB lo n).length=n:=by
 induction n with
 |zero=>intro lo;rfl|succ n ih=>intro lo;simp[lB,ih]
def aIq:∀ (n:Nat) (lo:Int) (i:Nat),i<n->(lB lo n)[i]?=qz (.int (lo+i))
 |0,_,_,h=>by omega|n+1,lo,0,_=>by simp[lB]
 |n+1,lo,i+1,h=>by
   rw[lB,yCx,aIq n (lo+1) i (!_)];congr 2
   push_cast
   omega
def aId(lo:Int)(n:Nat):Wk K F L (zY lo n) (lB lo n) where
 go:=λ i H s hi=>by rw[aCV] at hi;exact hi
 stop:=λ H s=>by rw[aCV];exact yAb _
 yld:=λ i H F1 L1 S x H' d g R e y=>by
  let(rfl,rfl):=y;have hi:i<n:=by
   have:=(gIm e).1;rw[aCV] at this;exact this
  rw[aIq n lo i hi] at e;cases e;exact⟨F1,bT.refl _,R,.int _⟩
def aNB(fa:FE):FL:=λ env S=>(fa env S).bind λ p=>match p.1 with|.d (.list ds)=>qz (ds,p.2)|_=>qx
def aNi(fa:FE):FL:=λ env S=>(fa env S).bind λ p=>match p.1 with|.d (.tuple ds)=>qz (ds,p.2)|_=>qx
def aYw{fa:FE}(ha:PE X a (aP X.K fa)):PI X tg a (jX X.K (aNB fa)):=PI.weak (aSA ha) λ σ H Rr aX=>by
 let(F,L,S,env,ds,S',R,E,e,q):=aX;let((w,S1),e1,e2):=aI e;dsimp only at e2;split at e2
 ·cases e2;refine⟨F,L,S,env,_,_,R,E,e1,λ F1 L1 H1 v g1 R1 d1=>?_⟩;cases (show Den X.K F1 (.list ds) v from d1) with
  |lst sq dl=>exact⟨_,rfl,⟨_,R1.sub.seq sq⟩,q F1 L1 H1 _ g1 R1 (aTr sq dl)⟩
 ·cases e2
def aYE{fa:FE}(ha:PE X a (aP X.K fa)):PI X tg a (jX X.K (aNi fa)):=PI.weak (aUj ha) λ σ H Rr aX=>by
 let(F,L,S,env,ds,S',R,E,e,q):=aX;let((w,S1),e1,e2):=aI e;dsimp only at e2;split at e2
 ·cases e2;refine⟨F,L,S,env,_,_,R,E,e1,λ F1 L1 H1 v g1 R1 d1=>?_⟩;cases (show Den X.K F1 (.tuple ds) v from d1) with
  |tup sq dl=>exact⟨_,rfl,⟨_,nG R1.sub sq⟩,q F1 L1 H1 _ g1 R1 (aUR sq dl)⟩
 ·cases e2
def xQ(fa:FE):FL:=λ env S=>(fa env S).bind λ p=>match p.1 with
 |.d (.int j)=>if -(2^62)<=j/\j<2^62 then qz (lB 0 j.toNat,p.2) else qx
 |_=>qx
def xC(fa fb:FE):FL:=λ env S=>(fa env S).bind λ p=>(fb env p.2).bind λ q=>match p.1,q.1 with
 |.d (.int i),.d (.int j)=>if (-(2^62)<=i/\i<2^62 /\ -(2^62)<=j/\j<2^62) then qz (lB i (j-i).toNat,q.2) else qx
 |_,_=>qx
def aTS{fa:FE}(σ:St)(H:Hp)(Rr:It->Hp->Prop)(h:jX K (xQ fa) σ H Rr):aL8 (eD K (cT fa iK)) σ H Rr:=by
 let(F,L,S,env,ds,S',R,E,e,q):=h;let((w,S1),e1,e2):=aI e;dsimp only at e2;split at e2
 ·split at e2
  ·rename_i j c;cases e2;refine⟨F,L,S,env,[.d (.int j)],_,R,E,by unfold cT;rw[e1];rfl,λ F1 L1 H1 vs g1 R1 d1=>?_⟩;cases d1 with
   |cons dd dr=>
     cases dr;cases (show Den K F1 (.int j) _ from dd);exact⟨j,rfl,c.1,c.2,q F1 L1 H1 _ g1 R1 (aId 0 j.toNat)⟩
  ·cases e2
 ·cases e2
def aV9{fa fb:FE}(σ:St)(H:Hp)(Rr:It->Hp->Prop)(h:jX K (xC fa fb) σ H Rr):aLR (eD K (cT fa (cT fb iK))) σ H Rr:=by
 let(F,L,S,env,ds,S',R,E,e,q):=h;let((w,S1),e1,e2):=aI e;let((w2,S2),e3,e4):=aI e2;dsimp only at e4;split at e4
 ·split at e4
  ·rename_i i j _ _ c;cases e4;refine⟨F,L,S,env,[.d (.int _),.d (.int _)],_,R,E,by unfold cT;rw[e1];dsimp only[yCs];rw[e3];rfl,λ F1 L1 H1 vs g1 R1 d1=>?_⟩;cases d1 with
   |cons dd dr=>
     cases dr with
     |cons dd2 dr=>
       cases dr;cases (show Den K F1 (.int _) _ from dd);cases (show Den K F1 (.int _) _ from dd2);exact⟨_,_,rfl,c,q F1 L1 H1 _ g1 R1 (aId _ _)⟩
  ·cases e4
 ·cases e4
def nW(t:Tg)(fb:FS):List D->FS
 |[]=>λ env S=>qz (.nx env,S)
 | d::ds=>λ env S=>(t.put d env).bind λ e1=>(fb e1 S).bind λ q=>(match q.1 with
    |.nx e=>nW t fb ds e q.2|.ct e=>nW t fb ds e q.2|.bk e=>qz (.nx e,q.2)
    | .rt w=>qz (.rt w,q.2))
def iH(t:Tg)(fi:FL)(fb:FS):FS:=λ env S=>(fi env S).bind λ p=>nW t fb p.1 env p.2
def aXJ{fi:FL}{fb:FS}(hp:PassesOwn (model X.prog X.w) X.A X.env X.xe)(hc:X.calm=true)(hi:PI X tg iter (jX X.K fi))(hg:PG X tg g)(ga:GA X.K t g)(hb:dI X b (cZ X.K fb))(hs:∀ x,xo iter X.env x=pure x):PS X (.For tg iter b [] pos) (cZ X.K (iH t fi fb)):=PS.weak (aUy hp hc hi hg hb hs) λ D σ H h=>by
 let(F,L,S,env,fl,S',R,E,e,q):=kS h;let((ds,S1),e1,e2):=aI e;refine⟨F,L,S,env,ds,S1,R,E,e1,λ F0 L0 H0 J g0 R0 wk=>?_⟩
 dsimp only at e2;refine⟨λ i m σ1 H1=>i+m=↑ds/\∃ F1 L1 S1 env1,Gr F0 L0 F1 L1/\Rel X.K F1 L1 S1 H1/\EnvR X.K F1 L1 env1 σ1/\nW t fb (ds.drop i) env1 S1=qz (fl,S'),
  ⟨↑ds,yEk _,F0,L0,S1,env,Gr.refl,R0,E.mono g0,by rw[yFx];exact e2⟩,?_⟩
 rintro i m σ1 H1 ⟨him,F1,L1,S1',env1,g1,R1,E1,e3⟩;cases m with
 |zero=>
   have hi:i=↑ds:=by omega
   subst hi;rw[yGc] at e3;cases e3;exact .inl ⟨wk.stop H1 (g1.f.trans R1.sub),q F1 L1 H1 (g0.trans g1) R1 σ1 E1⟩
 |succ m=>
   have hi:i<↑ds:=by omega
   refine .inr ⟨wk.go i H1 (g1.f.trans R1.sub) hi,λ σ3 H3=>∃ F3 L3 S3 env3,Gr F0 L0 F3 L3/\Rel X.K F3 L3 S3 H3/\EnvR X.K F3 L3 env3 σ3/\nW t fb (ds.drop (i+1)) env3 S3=qz (fl,S'),
    λ σ3 H3 h3=>⟨m,yEw m,by omega,h3⟩,λ x H2 y=>?_⟩
   rw[yEu hi] at e3;let(env2,e4,e5):=aI e3;let((f6,S6),e6,e7):=aI e5;let(F2,s2,R2,d2):=wk.yld i H1 F1 L1 S1' x H2 ds[i] g1 R1 (yAa hi) y;have g2:Gr F1 L1 F2 L1:=⟨s2,[],by simp⟩;refine ga ds[i] x σ1 H2 F2 L1 S1' env1 env2 _ R2 (E1.mono g2) d2 e4 λ σ2 E2=>?_
   refine mF R2 E2 e6 λ F3 L3 H3 g3 R3=>?_
   have g03:=(g1.trans g2).trans g3;cases f6 with
   |nx e'=>exact λ σ3 E3=>⟨F3,L3,S6,e',g03,R3,E3,e7⟩|ct e'=>exact λ σ3 E3=>⟨F3,L3,S6,e',g03,R3,E3,e7⟩|bk e'=>cases e7;exact λ σ3 E3=>q F3 L3 H3 (g0.trans g03) R3 σ3 E3|rt w=>cases e7;exact λ v d=>q F3 L3 H3 (g0.trans g03) R3 v d
def rK(k:Nat):aC->List W0->Option (List W0×aC)
 |S,[]=>qz ([],S)|S,.d x::r=>(rK k S r).map λ p=>(.d x::p.1,p.2)
 |S,.loc m::r=>if m<k then (rK k S r).map λ p=>(.loc m::p.1,p.2) else match S[m]? with
   |some (qz ds)=>(rK k (S.set m qx) r).map λ p=>(.d (.list ds)::p.1,p.2)|_=>qx
 |_,.dic _::_=>qx
def lH(k:Nat)(S:aC):W->Option (W×aC)
 |.d x=>qz (.d x,S.take k)
 |.loc m=>if m<k then qz (.loc m,S.take k) else match S[m]? with
   |some (qz ds)=>qz (.d (.list ds),S.take k)|_=>qx
 |.exc c r=>qz (.exc c r,S.take k)|.tpl ws=>(rK k S ws).map λ p=>(.tpl p.1,p.2.take k)|_=>qx
def map_some{α β:Type}{o:Option α}{f:α->β}{b:β}(h:o.map f=qz b):∃ a,o=qz a/\f a=b:=by
 cases o with
 |none=>cases h|some a=>cases h;exact⟨a,rfl,rfl⟩
def aAV:∀ {ws:List W0}{vs:List V}{F:Hp}{S:aC}{ws':List W0}{S':aC},Rel K F (L++M) S H->pL K F (L++M) ws vs->rK ↑L S ws=qz (ws',S')->∃ F',bT F F'/\Rel K F' (L++M) S' H/\pL K F' L ws' vs/\S'.take ↑L=S.take ↑L
 |[],_,F,S,ws',S',R,.nil,e=>by cases e;exact⟨F,bT.refl _,R,.nil,rfl⟩
 |.d x::r,_,F,S,ws',S',R,.cons h t,e=>by
   let((u,S1),e1,e2):=map_some e;cases e2;let(F',sf,R',d,z):=aAV R t e1;exact⟨F',sf,R',.cons (Den.mono sf h) d,z⟩
 |.loc m::r,_,F,S,ws',S',R,.cons h t,e=>by
   unfold rK at e;let(a,ea,rfl):=h;split at e
   ·rename_i hm;let((u,S1),e1,e2):=map_some e;cases e2;let(F',sf,R',d,z):=aAV R t e1;rw[xAm hm] at ea;exact⟨F',sf,R',.cons ⟨a,ea,rfl⟩ d,z⟩
   ·rename_i hm;split at e
    ·rename_i ds es;let((u,S1),e1,e2):=map_some e;cases e2;let(F2,g2,R2,d2):=R.freeze ea es;let(F',sf,R',d,z):=aAV R2 (L2.Paired.mapP t λ _ _ q=>q.mono g2) e1;refine⟨F',g2.f.trans sf,R',.cons (Den.mono sf d2) d,z.trans ?_⟩;rw[List.take_set,yDw (by rw[yBk];omega)]
    ·cases e
 |.dic m::r,_,F,S,ws',S',R,.cons h t,e=>by cases e
def fH(fb:FS)(n:Nat)(ws:List W)(S:aC):Option (W×aC):=(fb (ws.map qz++yAe (n-↑ws) qx) S).bind λ p=>match p.1 with|.rt w=>lH ↑S p.2 w|.nx _=>qz (.d .none,p.2.take ↑S)|_=>qx
def aO7{N:List Str}:∀ {ws:List W}{vs:List V},WDenL K F L ws vs->EnvR K F L (ws.map qz++yAe (N.length-↑ws) qx) (L2.start N vs):=by
 intro ws vs h;unfold L2.start;rw[h.length];generalize N.length-↑vs=k;refine⟨by simp[h.length],?_⟩
 induction h with
 |nil=>
   intro i w e;have:=xAk e;simp at this
 |cons hd tl ih=>
   intro i w e;cases i with
   |zero=>simp at e;subst e;exact⟨_,rfl,hd⟩
   |succ i=>
     let(v,e1,d):=ih i w (e:);exact⟨v,by simpa using e1,d⟩
def aKN{F1:Hp}{L:Lx}{S:aC}{Q:VK}(R:↑L=↑S)(g:Gr F L F1 L1)(R1:Rel K F1 L1 S1 H1)(d:dM K F1 L1 w v)(e:lH ↑S S1 w=qz (w',S'))(q:uK K F L S' w' Q):Q v H1:=by
 let(sf,M,rfl):=g;cases w with
 |d x=>
   cases e;have R2:=R1.cut;rw[R] at R2;exact q F1 L H1 v ⟨sf,[],by simp⟩ R2 d
 |exc c r=>
   cases e;have R2:=R1.cut;rw[R] at R2;exact q F1 L H1 v ⟨sf,[],by simp⟩ R2 d
 |dic n=>cases e|ob fs=>cases e
 |tpl ws=>
   let((u,S2),e1,e2):=map_some (show(rK ↑S S1 ws).map (λ p=>(W.tpl p.1,p.2.take ↑S))=qz (w',S') from e);cases e2;let(a,vs,rfl,h1,h2):=d;rw[<- R] at e1;let(F2,s2,R2,d2,z):=aAV R1 h2 e1;have R3:=R2.cut;rw[R] at R3;exact q F2 L H1 _ ⟨sf.trans s2,[],by simp⟩ R3 ⟨a,vs,rfl,s2 _ _ h1,d2⟩
 |loc m=>
   have e':(if m<↑S then qz (W.loc m,S1.take ↑S) else match S1[m]? with|some (qz ds)=>qz (W.d (.list ds),S1.take ↑S)|_=>qx)=qz (w',S'):=e;split at e'
   ·rename_i hm;cases e';have R2:=R1.cut;rw[R] at R2;let(a,ea,rfl):=d;rw[xAm (by rw[R];exact hm)] at ea;exact q F1 L H1 _ ⟨sf,[],by simp⟩ R2 ⟨a,ea,rfl⟩
   ·rename_i hm;split at e'
    ·rename_i ds es;cases e';let(a,ea,rfl):=d;let(F2,g2,R2,d2):=R1.freeze ea es;have R3:=R2.cut;rw[R,List.take_set,yDw (by rw[yBk];omega)] at R3;exact q F2 L H1 _ ⟨sf.trans g2.f,[],by simp⟩ R3 d2
    ·cases e'
def aTV{fb:FS}{N:List Str}{Q:VK}{E:XK}(h:pS K np (fH fb N.length) vs H Q E):cZ K fb {nx:=λ _ H'=>Q .non H',rt:=Q } (L2.start N vs) H:=by
 let(F,L,S,ws,w,S',hn,R,dl,e,q):=h;let((fl,S1),e1,e2):=aI e;refine mF R (aO7 dl) e1 λ F1 L1 H1 g1 R1=>?_
 cases fl with
 |nx aS=>
   cases e2;exact λ σ' E'=>aKN (w:=.d .none) R.len g1 R1 Den.non rfl q
 |rt w'=>exact λ v d=>aKN R.len g1 R1 d e2 q|bk aS=>cases e2|ct aS=>cases e2
def aGD{α β:Type}{f:α->β->Sem (ForInStep β)}{g:α->β->β}:∀ (l:List α) (c:β),(∀ x∈l,∀ c,f x c=pure (ForInStep.yield (g x c)))->forIn l c f=pure (l.foldl (λ c x=>g x c) c)
 |[],c,_=>rfl
 |x::l,c,h=>by
   rw[List.forIn_cons,h x xAc c,pure_bind];exact aGD l (g x c) λ y hy=>h y (xAf _ hy)
def kX(env:Env)(x:Str×jy)(cs:List (Str×qw)):List (Str×qw):=if (x.2==NameKind.free)=true then (x.1,(env.cells.lookup x.1).getD 0)::cs else cs
def yU(scope:zw)(env:Env):List (Str×qw):=scope.names.foldl (λ c x=>kX env x c) []
def aOW{scope:zw}{env:Env}(h:∀ x∈scope.names,x.2=.free->∃ c,env.cells.lookup x.1=qz c):closureFor scope env=pure (yU scope env):=by
 unfold closureFor yU;dsimp only;rw[aGD (g:=kX env) scope.names [] (λ x hx c=>?_)]
 ·rfl
 ·let(n,k):=x;unfold kX;dsimp only;by_cases hk:k=.free
  ·let(a,ha):=h (n,k) hx hk;rw[if_pos (by simp[hk]),if_pos (by simp[hk])];have:cellOf env n=pure a:=by unfold cellOf;rw[ha]
   rw[this,pure_bind,ha];rfl
  ·rw[if_neg (by simp[hk]),if_neg (by simp[hk])]
def aIP{env:Env}:∀ (l:List (Str×jy)) (aM:List (Str×qw)),(∀ x∈l,x.2=.free->∃ c,env.cells.lookup x.1=qz c)->(∀ x c,aM.lookup x=qz c->env.cells.lookup x=qz c) ->
 ∀ x c,(l.foldl (λ c x=>kX env x c) aM).lookup x=qz c->env.cells.lookup x=qz c
 |[],aM,_,ha,x,c,e=>ha x c e
 |y::l,aM,h,ha,x,c,e=>by
   refine aIP l (kX env y aM) (λ z hz=>h z (xAf _ hz)) (λ z d ez=>?_) x c e;unfold kX at ez;split at ez
   ·rename_i hk;let(a,hy):=h y xAc (hk:);rw[yBl] at ez;split at ez
    ·rename_i hz;cases ez;have:z=y.1:=(hz:)
     rw[this,hy];rfl
    ·exact ha z d ez
   ·exact ha z d ez
def aEn:∀ (l:List (Str×jy)) (aM:List (Str×qw)) (x:Str),((∃ k,(x,k)∈l/\k=.free)\/∃ c,aM.lookup x=qz c)->∃ c,(l.foldl (λ c x=>kX env x c) aM).lookup x=qz c
 |[],aM,x,h=>by
   rcases h with ⟨k,hk,_⟩|h
   ·simp at hk
   ·exact h
 |y::l,aM,x,h=>by
   refine aEn l (kX env y aM) x ?_;have step:(∃ c,aM.lookup x=qz c)->∃ c,(kX env y aM).lookup x=qz c:=λ aX=>by
    let(c,e):=aX;unfold kX;split
    ·rw[yBl];split
     ·exact⟨_,rfl⟩
     ·exact⟨c,e⟩
    ·exact⟨c,e⟩
   rcases h with ⟨k,hk,e⟩|h
   ·rcases List.mem_cons.mp hk with z|z
    ·right;subst z e;unfold kX;rw[if_pos (by simp)];exact⟨(env.cells.lookup x).getD 0,by rw[yBl];simp⟩
    ·exact .inl ⟨k,z,e⟩
   ·exact .inr (step h)
def aGN(h:Str->jy->jy):∀ l:List (Str×jy),(l.map λ p=>(p.1,h p.1 p.2)).lookup x=(l.lookup x).map (h x)
 |[]=>rfl
 |(n,k)::r=>by
   have ih:=@aGN x h r;rw[yAh,yBl,yBl];cases hx:x==n with
   |true=>
     have e:x=n:=(hx:)
     subst e;rfl
   |false=>exact ih
def aN1{env:Env}(names:List (Str×jy)) :
 (names.map λ(n,k)=>if (k==NameKind.free&&env.scope.kind==.function&&env.kindOf n==qz .cell) then (n,NameKind.cell) else (n,k)).lookup x =
   (names.lookup x).map λ k=>if (k==NameKind.free&&env.scope.kind==.function&&env.kindOf x==qz .cell) then NameKind.cell else k:=by
 have e:(λ(p:Str×jy)=>match p with|(n,k)=>if (k==NameKind.free&&env.scope.kind==.function&&env.kindOf n==qz .cell)=true then (n,NameKind.cell) else (n,k)) =
  λ p=>(p.1,if (p.2==NameKind.free&&env.scope.kind==.function&&env.kindOf p.1==qz .cell)=true then NameKind.cell else p.2):=funext λ aX=>by
  let(n,k):=aX;dsimp only;split<;>rfl
 rw[e];exact aGN (λ n k=>if (k==NameKind.free&&env.scope.kind==.function&&env.kindOf n==qz .cell)=true then NameKind.cell else k) names
def aOd{R:Result -> qv -> Prop}(I:Nat->qv->Prop)(turn:∀ n s,I n s->qu (model prog w) A (yz it) (λ r s₁=>match r with
   |none=>R (.ok .next) s₁
   | some v=>qu (model prog w) A (vj target it v) (λ _ s₀=>qu (model prog w) A (assign target env v) (λ _ s₂=>
      qu (model prog w) A (forIn ifs true λ c r=>if r=true then do let ok <- isTrue c env (eval c env);pure (ForInStep.yield ok) else pure (ForInStep.yield r)) (λ ok s₃=>
       if ok=true then qu (model prog w) A (eval elt env) (λ x s₄=>
        qu (model prog w) A (call (.builtin "list.append") [aM,x]) (λ _ s₅=>∃ m,m<n/\I m s₅) (λ _ _=>False) s₄) (λ _ _=>False) s₃
       else ∃ m,m<n/\I m s₃) (λ _ _=>False) s₂) (λ _ _=>False) s₀) (λ _ _=>False) s₁) (λ _ _=>False) s)(n:Nat)(h:I n s):ju (model prog w) A (.compLoop (.ListComp elt [⟨target,iter,ifs,0⟩] scope pos) 0 it aM env) R s:=by
 have up:∀ {α:Type}{t:Sem α}{Q Q':α->qv->Prop}{E:qj->qv->Prop}{s:qv},qu (model prog w) A t Q (λ _ _=>False) s->(∀ a s,Q a s->Q' a s)->qu (model prog w) A t Q' E s:=
  λ h hq=>wpAny_mono h hq λ _ _ f=>f.elim
 refine codeAny_loop rfl I (λ n s hI=>?_) n h;show qu _ A ((compTurn (.ListComp elt [⟨target,iter,ifs,0⟩] scope pos) 0 it aM env).onRaise (λ x=>do noteFrame x env;theTreesLotGoes x)) _ _ s;refine wpAny_noted ?_;rw[compTurn_list];refine wB (ww (wB (up (turn n s hI) λ r s₁ h₁=>?_)));cases r with
 |none=>exact wP h₁
 |some v=>
   refine wB (up h₁ λ _ s₀ h₀=>?_);refine wB (up h₀ λ _ s₂ h₂=>wB (up h₂ λ ok s₃ h₃=>?_));cases ok with
   |false=>exact wP ⟨rfl,h₃⟩
   |true=>
     exact wB (wB (up h₃ λ x s₄ h₄=>wB (up h₄ λ _ s₅ h₅=>wP (wP ⟨rfl,h₅⟩))))
def lS(X:Cx)(aB:List (qw×Obj))(fp:List qw)(scope:zw)(C:qw)(s₀:qv)(H₀:Hp):Cx:=
 {X with s₀:=s₀,H₀:=H₀,env:=compEnvC scope (yU scope X.env) C X.env,outer:=X.stack,stack:=X.stack,ex:=fp,fn:=λ _=>false,pn:=X.pn++aB,xe:=λ _ _=>False }
def kT(X:Cx)(scope:zw)(Y:Cx):Prop:=∃ aB fp C s₀ H₀,Y=lS X aB fp scope C s₀ H₀
structure ScOk(scope osc:zw):Prop where
 kind:scope.kind=.function
 nocell:∀ x∈scope.names,x.2≠.cell
 free:∀ x∈scope.names,x.2=.free->osc.names.lookup x.1=qz .cell\/osc.names.lookup x.1=qz .free
 loc:∀ x∈scope.names,x.2=.local->scope.names.lookup x.1=qz .local
def mem_of_lookup{α:Type}{k:α}:∀ {l:List (Str×α)},l.lookup x=qz k->(x,k)∈l
 |[],h=>by simp at h
 |(n,j)::r,h=>by
   rw[yBl] at h;split at h
   ·rename_i hx;cases h;have:x=n:=(hx:)
    subst this;exact xAc
   ·exact xAf _ (mem_of_lookup h)
section
variable {X:Cx}{aB:List (qw×Obj)}{σ:L2.St}{H:Hp}{s:qv}{scope:zw}{fp:List qw}
def aHs:(lS X aB fp scope C s₀ H₀).env.kindOf x=(scope.names.lookup x).map λ k=>if (k==NameKind.free&&X.env.scope.kind==.function&&X.env.kindOf x==qz .cell) then NameKind.cell else k:=
 aN1 scope.names
def aHq(ok:ScOk scope X.env.scope)(h:(lS X aB fp scope C s₀ H₀).env.kindOf x=qz .cell\/(lS X aB fp scope C s₀ H₀).env.kindOf x=qz .free):scope.names.lookup x=qz .free:=by
 rw[aHs] at h;cases e:scope.names.lookup x with
 |none=>rw[e] at h;simp at h
 |some k=>
   rw[e] at h;have nc:=ok.nocell (x,k) (mem_of_lookup e);cases k with
   |free=>rfl|cell=>exact absurd rfl nc| «local» => simp at h|globalExplicit=>simp at h|globalImplicit=>simp at h
def aJq(I:Inv X aB σ H s)(hfp:∀ b∈fp,gL X aB H b):∀ b∈fp,b ∉ frs X.stack:=λ b hb z=>by
 rcases List.mem_cons.mp (I.stkSub b z) with q|q
 ·exact(hfp b hb).2.1 q
 ·exact(hfp b hb).2.2.1 q
def aHz(I:Inv X aB σ H s)(ok:ScOk scope X.env.scope):∀ x∈scope.names,x.2=.free->∃ c,X.env.cells.lookup x.1=qz c:=λ x hx e=>by
 rcases ok.free x hx e with q|q
 ·exact I.ok.has x.1 (.inl q)
 ·exact I.ok.has x.1 (.inr q)
def qS(I:Inv X aB σ H s)(ok:ScOk scope X.env.scope)(h:(yU scope X.env).lookup x=qz c):X.env.cells.lookup x=qz c:=
 aIP scope.names [] (aHz I ok) (λ x c e=>by simp at e) x c h
def aRn(I:Inv X aB σ H s)(ok:ScOk scope X.env.scope)(hfp:∀ b∈fp,gL X aB H b)(hth:∀ b∈fp,b<s.heap.objs.size)(hC:s.heap.objs.size<=C):(lS X aB fp scope C s H).Ok where
 mod:=I.ok.mod
 kind:=ok.kind
 glob:=I.ok.glob
 blt:=I.ok.blt
 above:=hC
 inj:=λ x y c h1 h2=>I.ok.inj x y c (qS I ok h1) (qS I ok h2)
 has:=λ x h=>aEn scope.names [] x (.inl ⟨.free,mem_of_lookup (aHq ok h),rfl⟩)
 cab:=λ x c h _=>nomatch h
 hd:=I.ok.hd
 frames:=I.ok.frames
 stk:=.inl rfl
 exf:=λ b hb=>⟨λ z=>absurd (xAb (hth b hb) hC) (by have z':b=C:=z;rw[z'];exact yCv _),λ x c h=>(hfp b hb).2.2.2.2.1 x c (qS I ok h)⟩
 bs:=I.bs
 bsz:=xAh I.ok.bsz I.sz
 noex:=λ b o e hb=>by
  rcases (hfp b hb).2.2.2.1 with z|z
  ·exact I.ok.noex b o e z
  ·exact absurd (xAb (xAa e) (xAh I.ok.bsz z)) (yCv _)
 exfs:=λ b hb=>aJq I hfp b hb
 funs:=I.stack
 frf:=I.stkFree
end
def clr{α:Type}(is:List Nat)(l:List (Option α)):List (Option α):=is.foldl (λ e i=>e.set i qx) l
def aAz{α:Type}:∀ (is:List Nat) (l:List (Option α)),(clr is l).length=↑l
 |[],_=>rfl
 |i::is,l=>by
   show(clr is (l.set i qx)).length=_;rw[aAz is,yBa]
def aBb{α:Type}:∀ (is:List Nat) (l:List (Option α)) (j:Nat) (v:α),(clr is l)[j]?=qz (qz v)->l[j]?=qz (qz v)/\j ∉ is
 |[],_,_,_,h=>⟨h,by simp⟩
 |i::is,l,j,v,h=>by
   let(h1,h2):=aBb is (l.set i qx) j v h;by_cases hj:i=j
   ·subst hj;rcases Nat.lt_or_ge i ↑l with q|q
    ·rw[yAr q] at h1;cases h1
    ·rw[yCp (by rw[yBa];exact q)] at h1;cases h1
   ·rw[yAq hj] at h1;exact⟨h1,λ z=>(List.mem_cons.mp z).elim (λ e=>hj e.symm) h2⟩
def aIi{α:Type}:∀ (is:List Nat) (l:List (Option α)) (j:Nat),j ∉ is->(clr is l)[j]?=l[j]?
 |[],_,_,_=>rfl
 |i::is,l,j,h=>by
   show(clr is (l.set i qx))[j]?=_;rw[aIi is _ j (λ z=>h (xAf _ z)),yAq (λ z=>h (by rw[z];exact xAc))]
def Tg.slots:Tg->List Nat
 |.one i=>[i]|.many is=>is
def EnvR.clr(h:EnvR K F L env σ)(is:List Nat):EnvR K F L (EV.clr is env) (EV.clr is σ):=
 ⟨by rw[aAz,aAz];exact h.len,λ j w e=>by
  let(e1,hj):=aBb is env j w e;let(v,e2,d):=h.get j w e1;exact⟨v,by rw[aIi is σ j hj];exact e2,d⟩⟩
def aCT:∀ {is:List Nat}{ds:List D}{env aS:bB}{j:Nat},nC is ds env=qz aS->j ∉ is->aS[j]?=env[j]?
 |[],[],_,_,_,e,_=>by cases e;rfl
 |i::is,d::ds,env,aS,j,e,h=>by
   rw[@aCT is ds _ _ _ e (λ z=>h (xAf _ z)),yAq (λ z=>h (by rw[z];exact xAc))]
 |[],_::_,_,_,_,e,_=>by cases e|_::_,[],_,_,_,e,_=>by cases e
def Tg.put_keep{t:Tg}(e:t.put d env=qz aS)(h:j ∉ t.slots):aS[j]?=env[j]?:=by
 cases t with
 |one i=>cases e;exact yAq (λ z=>h (by rw[z];exact xAc))
 |many is=>
   cases d with
   |tuple ds=>exact aCT e h|list ds=>exact aCT e h|_=>cases e
def aCJ:∀ {is:List Nat}{ds:List D}{env aS:bB},nC is ds env=qz aS->aS.length=env.length
 |[],[],_,_,e=>by cases e;rfl|i::is,d::ds,env,aS,e=>by rw[@aCJ is ds _ _ e,yBa]|[],_::_,_,_,e=>by cases e|_::_,[],_,_,e=>by cases e
def Tg.put_length{t:Tg}(e:t.put d env=qz aS):aS.length=env.length:=by
 cases t with
 |one i=>cases e;exact yBa
 |many is=>
   cases d with
   |tuple ds=>exact aCJ e|list ds=>exact aCJ e|_=>cases e
def EnvR.back{F:Hp}{L:Lx}{env aS:bB}{σ:St}{t:Tg}{d:D}(e:t.put d (EV.clr t.slots env)=qz aS)(h:EnvR K F L aS σ):EnvR K F L (EV.clr t.slots env) σ:=
 ⟨by rw[<- h.len,Tg.put_length e],λ j w q=>by
  let(_,hj):=aBb t.slots env j w q;exact h.get j w (by rw[Tg.put_keep e hj];exact q)⟩
def gH(t:Tg)(fc:FT)(fe:FE)(n:Nat)(env:bB):List D->aC->Option aC
 |[],S=>qz S
 |d::ds,S=>(t.put d env).bind λ e1=>(fc e1 S).bind λ c=>if c.1=true then (fe e1 c.2).bind λ p=>(cX p.2 (.loc n) p.1).bind λ r=>gH t fc fe n env ds r.2 else gH t fc fe n env ds c.2
def gY(t:Tg)(fi:FL)(fc:FT)(fe:FE):FL:=λ env S=>(fi env S).bind λ p=>(gH t fc fe p.2.length (clr t.slots env) p.1 (p.2++[qz []])).bind λ S'=>match S'[p.2.length]? with|some (qz zs)=>qz (zs,S'.take p.2.length)|_=>qx
def mX(Y:Cx)(ifs:List qy)(fc:FT):Prop:=∀ (aB:List (qw×Obj)) (s:qv) (σ:St) (H:Hp) (Q:Bool->Hp->Prop),Inv Y aB σ H s->gB Y.K fc σ H Q ->
 qu (model Y.prog Y.w) Y.A (forIn ifs true λ c r=>if r=true then do let ok <- isTrue c Y.env (eval c Y.env);pure (ForInStep.yield ok) else pure (ForInStep.yield r)) (TP Y aB σ Q) Y.xe s
def lI:FT:=λ _ S=>qz (true,S)
def aHP:mX Y [] lI:=λ aB s σ H Q I aX=>by
 let(F,L,S,env,b,S',R,E,e,q):=aX;cases e;exact wpAny_tests_nil ⟨H,I,q F L H Gr.refl R⟩
def aHv{fc:FT}(h:PT Y c (gB Y.K fc)):mX Y [c] fc:=λ aB s σ H Q I q=>wpAny_tests_one (h aB s σ H Q I q)
def aEM(N:List Str)(scope:zw)(is:List Nat):Prop:=∀ (i:Nat) (x:Str),N[i]?=qz x->scope.names.lookup x=qz .local->i∈is
def aH0{scope:zw}{tg iter elt:qy}{ifs:List qy}{pos:Pos}{t:Tg}{g:TG}{fi:FL}{fc:FT}{fe:FE}(use:Option (qj->Sem Unit))(hc:X.calm=true)(ok:ScOk scope X.env.scope)(own:aEM X.N scope t.slots)(hi:PI X tg iter (jX X.K fi))(hg:∀ Y,kT X scope Y->PG Y tg g)(ga:GA X.K t g)
 (ht:∀ Y,kT X scope Y->mX Y ifs fc) (he:∀ Y,kT X scope Y->PE Y elt (aP X.K fe)) (hs:∀ x,xo iter X.env x=pure x)
 {aB:List (qw×Obj)}{s:qv}{σ:St}{H:Hp}{Q:VK}{QQ:qj->qv->Prop}{pp:Pos} (I:Inv X aB σ H s) (h:jY X.K (gY t fi fc fe) σ H Q)
 (hend:∀ (p C:qw) (s1:qv) (H':Hp),gL X aB H' C->(∃ m,s1.heap.Ns C m)->(∀ h',yCz C s1.heap h'->Inv X aB σ H' {s1 with heap:=h' })->Q (.ref p) H' ->
   compPost (model X.prog X.w) X.A X.xe use QQ (.ref p) C (.ok .next) s1) :
 qu (model X.prog X.w) X.A (comprehension (.ListComp elt [⟨tg,iter,ifs,0⟩] scope pos) scope X.env pp (newList []) false (eval iter X.env) use) QQ X.xe s:=by
 let(F,L,S,env,zs,S',R,E,e,q):=h;let((ds,S1),e1,e):=aI e;let(S2,e2,e):=aI e;dsimp only at e e2;have hz:S2[↑S1]?=qz (qz zs)/\S'=S2.take ↑S1:=by
  split at e
  ·rename_i z ez;cases e;exact⟨ez,rfl⟩
  ·cases e
 let(hz,rfl):=hz;refine wpAny_comprehension_free (use:=use) rfl hs (aOW (aHz I ok)) ok.kind ok.loc ?_;refine bD (hi aB s σ H (λ J H'=>∃ F' L',Gr F L F' L'/\Rel X.K F' L' S1 H'/\Wk X.K F' L' J ds) I ⟨F,L,S,env,ds,S1,R,E,e1,λ F' L' H' J g R' wk=>⟨F',L',g,R',wk⟩⟩) λ v s1 h1=>bD h1 λ itv s2 h2=>?_
 let(it,fp,tn,J,H2,rfl,I2,T,st2,f2,F1,L1,g1,R1,wk):=h2;refine xj (wpAny_newFunctionEnv ok.nocell (by intro y hy;simp at hy) (λ h₁ hns₁ hsb₁=>?_) ok.kind);dsimp only at hns₁ hsb₁ ⊢;have I3:Inv X aB σ (bF H2 s2.heap.objs.size (.lst [])) {s2 with heap:=s2.heap.push {cls:=.type "list",dict:=qx,data:=.seq ([]:List qj).toArray } }:=I2.lnew (aG:=[]) (t':=s2.toks) .nil (yBv _);generalize hs3:({s2 with heap:=s2.heap.push {cls:=.type "list",dict:=qx,data:=.seq ([]:List qj).toArray } }:qv)=s3 at I3;have hh3:s2.heap.push {cls:=.type "list",dict:=qx,data:=.seq ([]:List qj).toArray }=s3.heap:=by rw[<- hs3]
 generalize hD:s2.heap.objs.size=Dd at I3;generalize hH3:bF H2 Dd (.lst [])=H3 at I3;have hfr2:H2 Dd=qx:=by rw[<- hD];exact I2.fresh
 rw[hh3] at hns₁ hsb₁;rw[hh3];have hst:({heap:=h₁,gens:=s2.gens,drawn:=s2.drawn,toks:=s2.toks+([]:List (Str×qj)).length,os:=s2.os }:qv)={s3 with heap:=h₁,toks:=s3.toks+([]:List (Str×qj)).length }:=by rw[<- hs3]
 rw[hst];clear hst;generalize hC:s3.heap.objs.size=C at hns₁ hsb₁;have old:∀ b u,s3.heap.get? b=qz u->h₁.get? b=qz u:=λ b u q=>by
  have hb:b≠C:=by rw[<- hC];exact xAj (xAa q)
  exact hsb₁.extBut b u hb (hpS _ q)
 have lt2:∀ b∈fp,b<s2.heap.objs.size:=λ b hb=>by
  let(o,eo,_):=T.obj 0 _ st2 b hb;exact xAa eo
 have up23:∀ b u,s2.heap.get? b=qz u->s3.heap.get? b=qz u:=λ b u q=>by rw[<- hh3];exact hpS _ q
 have lt3:∀ b∈fp,b<s3.heap.objs.size:=λ b hb=>by
  let(o,eo,_):=T.obj 0 _ st2 b hb;exact xAa (up23 b o eo)
 have f3:∀ b∈fp,gL X aB H3 b:=λ b hb=>by
  refine⟨?_,(f2 b hb).2⟩;have ne:b≠Dd:=by rw[<- hD];exact xAj (lt2 b hb)
  rw[<- hH3,bO ne];exact(f2 b hb).1
 have okY:(lS X aB fp scope C s3 H3).Ok:=aRn I3 ok f3 lt3 (by rw[hC];exact yAb _);have hIC:kT X scope (lS X aB fp scope C s3 H3):=⟨aB,fp,C,s3,H3,rfl⟩;generalize hY:lS X aB fp scope C s3 H3=Y at okY hIC;have yE:Y.env=compEnvC scope (yU scope X.env) C X.env:=by rw[<- hY];rfl
 have I4:Inv Y [] (clr t.slots σ) H3 {s3 with heap:=h₁,toks:=s3.toks+([]:List (Str×qj)).length }:=by
  rw[<- hY] at okY ⊢;refine⟨okY,rfl,I3.bare,Un.kept old,⟨_,hns₁,λ i x v a1 a2 a3=>?_⟩,λ x c a=>?_,?_,λ x c a=>I3.freeC x c (qS I3 ok a),λ p hp=>?_,I3.hok.kept old,by rw[aAz];exact I3.len⟩
  ·let(a4,a5):=aBb t.slots σ i v a2;have nl:scope.names.lookup x≠qz .local:=λ z=>a5 (own i x a1 z)
   have pV:(lS X aB fp scope C s3 H3).env.kindOf x=qz .cell\/(lS X aB fp scope C s3 H3).env.kindOf x=qz .free:=by
    rcases a3 with z|z|z
    ·exfalso;have z':(lS X aB fp scope C s3 H3).env.kindOf x=qz .local:=z;rw[aHs] at z';cases ek:scope.names.lookup x with
     |none=>rw[ek] at z';cases z'
     |some k=>
       rw[ek] at z';cases k with
       | «local» => exact nl ek
       |free=>
         simp only[yDe,Option.some.injEq] at z';split at z'<;>cases z'
       |cell=>exact ok.nocell (x,.cell) (mem_of_lookup ek) rfl|globalExplicit=>simp at z'|globalImplicit=>simp at z'
    ·exact .inl z
    ·exact .inr z
   have fr:=aHq ok pV;have ov:=ok.free (x,.free) (mem_of_lookup fr) rfl;let(m,hm,hl):=I3.loc;let(u,ru,lk):=hl i x v a1 a4 (ov.elim (λ z=>.inr (.inl z)) λ z=>.inr (.inr z));refine⟨u,ru,.inr ⟨pV,?_⟩⟩;let(c,hcl):=@aEn X.env scope.names [] x (.inl ⟨.free,mem_of_lookup fr,rfl⟩);have hc2:=qS I3 ok hcl;rcases lk with ⟨z,_⟩|⟨_,c',e',o',ho',hd'⟩
   ·exfalso;have z':X.env.scope.names.lookup x=qz .local:=z;rcases ov with w|w
    ·rw[w] at z';cases z'
    ·rw[w] at z';cases z'
   ·rw[hc2] at e';cases e';exact⟨c,hcl,o',old _ _ ho',hd'⟩
  ·let(v,o,ho,hd):=I3.cell x c (qS I3 ok a);exact⟨v,o,old _ _ ho,hd⟩
  ·show H3 C=qx;rw[<- hC];exact I3.fresh
  ·have hp':p∈X.pn++aB:=by
    have:p∈(X.pn++aB)++[]:=hp;rwa [yBz] at this
   let(b1,b2,b3,b4,b5):=I3.pin p hp';refine⟨old _ _ b1,b2,?_,λ z=>?_,b5⟩
   ·show p.1≠C;rw[<- hC];exact xAj (xAa b1)
   ·rcases List.mem_cons.mp (I3.stkSub p.1 z) with w|w
    ·exact b3 w
    ·exact b4 w
 have fpY:∀ {H':Hp},(∀ b∈fp,H' b=qx)->∀ b∈fp,gL Y [] H' b:=λ hn b hb=>by
  rw[<- hY];refine⟨hn b hb,?_,aJq I3 f3 b hb,.inl hb,λ x c a=>(f3 b hb).2.2.2.2.1 x c (qS I3 ok a),λ p hp=>?_⟩
  ·show b≠C;rw[<- hC];exact xAj (lt3 b hb)
  ·have hp':p∈X.pn++aB:=by
    have:p∈(X.pn++aB)++[]:=hp;rwa [yBz] at this
   exact(f3 b hb).2.2.2.2.2 p hp'
 have yA:Y.A=X.A:=by rw[<- hY];rfl
 have yP:Y.prog=X.prog:=by rw[<- hY];rfl
 have yW:Y.w=X.w:=by rw[<- hY];rfl
 have yK:Y.K=X.K:=by rw[<- hY];rfl
 have yC:Y.calm=true:=by rw[<- hY];exact hc
 have yX:Y.xe=λ _ _=>False:=by rw[<- hY];rfl
 have R3:Rel X.K F1 (L1++[(Dd,false)]) (S1++[qz []]) H3:=by rw[<- hH3];exact R1.newLoc hfr2 .nil
 obtain⟨PP,hPP⟩:∃ PP:Result->qv->Prop,PP=compPost (model X.prog X.w) X.A X.xe use QQ (.ref Dd) C:=⟨_,rfl⟩;have bZ:∀ (s1:qv) (σ':L2.St) (H' F':Hp) (L':Lx),Inv Y [] σ' H' s1->Gr F1 (L1++[(Dd,false)]) F' L'->Rel X.K F' L' S2 H'->PP (.ok .next) s1:=by
  intro s1 σ' H' F' L' J' gg RR;rw[hPP];rw[<- hY] at J';let(m,hmC,_):=J'.loc;have hCn:H' C=qx:=J'.free;have hfC:gL X aB H' C:=I3.fpOk (by rw[hC];exact yAb _) hCn;let(sf,M,rfl):=gg;have cK:↑L1=↑S1:=R1.len;have eL:((L1++[(Dd,false)])++M)[↑S1]?=qz (Dd,false):=by
   rw[yBp,yAf (by rw[cK];exact yAb _),cK,yAx];rfl
  let(hF,xs,hx,dl):=RR.loc ↑S1 Dd zs eL hz;have RR2:Rel X.K F' (L1++([(Dd,false)]++M)) S2 H':=by rw[<- yBp];exact RR
  have Rc:=RR2.cut;rw[cK] at Rc;have hnd:Dd ∉ ad L1:=λ z=>by
   have nd:=RR2.nd;simp only[ad,yAv] at nd;rw[List.nodup_append] at nd;exact nd.2.2 Dd z Dd (by simp) rfl
  refine hend Dd C s1 H' hfC ⟨m,hmC⟩ (λ h' sb=>?_) (q F' L1 H' Dd xs (g1.trans ⟨sf,[],by simp⟩) Rc hF hnd hx dl);have neC:∀ b u,s3.heap.get? b=qz u->b≠C:=λ b u z=>by rw[<- hC];exact xAj (xAa z)
  have kp:∀ b u,b≠C->s1.heap.get? b=qz u->h'.get? b=qz u:=λ b u z w=>sb.extBut b u z w
  have bU:Un (frs X.stack) fp H3 H' s3.heap s1.heap:=J'.base;have u:Un (frs X.stack) fp H3 H' s3.heap h':=
   ⟨λ b o z n hb hx=>kp b o (neC b o z) (bU.keep b o z n hb hx),λ b o z n hb hx=>by let(sl,w):=bU.slot b o z n hb hx;exact⟨sl,kp b _ (neC b o z) w⟩,bU.free,
    λ b o z hx=>by let(o',w):=bU.there b o z hx;exact⟨o',kp b _ (neC b o z) w⟩,bU.tups,bU.frzs,bU.tbls⟩
  have hokY:bM X.prog X.w H' s1.heap:=J'.hok;have hok':bM X.prog X.w H' h':=λ b o z=>(hokY b o z).stay (λ c v hc2 w=>kp c v (λ zz=>by
   rcases hc2 with w2|w2
   ·rw[w2] at zz;rw[zz,hCn] at z;cases z
   ·rw[zz,hCn] at w2;cases w2) w) (λ _ w=>w) λ _ _ w=>w
  have os1:s1.os=s3.os:=J'.os;exact I3.call' (s':={s1 with heap:=h' }) os1 u hok' J'.bare λ b hb=>⟨(f3 b hb).2.2.2.1,(f3 b hb).2.1,(f3 b hb).2.2.2.2.1,(f3 b hb).2.2.2.2.2⟩
 have loop:∀ s5:qv,Inv Y [] (clr t.slots σ) H3 s5->tn 0 s5.heap ->
  ju (model X.prog X.w) X.A (.compLoop (.ListComp elt [⟨tg,iter,ifs,0⟩] scope pos) 0 (.ref it) (.ref Dd) Y.env) PP s5:=by
  intro s5 I5 st5;have E0:EnvR X.K F1 (L1++[(Dd,false)]) (clr t.slots env) (clr t.slots σ):=(E.mono (g1.trans Gr.newLoc)).clr t.slots;obtain⟨Iv,hIv⟩:∃ Iv:Nat->qv->Prop,∀ n s',Iv n s' ↔ (∃ i σ' H' F' L' S',Inv Y [] σ' H' s'/\tn i s'.heap/\(∀ b∈fp,H' b=qx)/\Gr F1 (L1++[(Dd,false)]) F' L'/\Rel X.K F' L' S' H'/\EnvR X.K F' L' (clr t.slots env) σ'/\i+n=↑ds /\
   gH t fc fe ↑S1 (clr t.slots env) (ds.drop i) S'=qz S2):=⟨_,λ _ _=>Iff.rfl⟩
  refine aOd Iv ?_ ↑ds ((hIv _ _).mpr ⟨0,clr t.slots σ,H3,F1,L1++[(Dd,false)],S1++[qz []],I5,st5,λ b hb=>(f3 b hb).1,Gr.refl,R3,E0,yEk _,by rw[yFx];exact e2⟩);intro n s6 h6;let(i,σ6,H6,F6,L6,S6,I6,st6,fr6,g6,R6,E6,hin,ec):=(hIv _ _).mp h6;clear h6;have g16:Gr F1 L1 F6 L6:=Gr.newLoc.trans g6;have toA:∀ {α:Type}{tt:Sem α}{QQ:α->qv->Prop}{EE:qj->qv->Prop}{ss:qv},qu (model X.prog X.w) Y.A tt QQ EE ss->qu (model X.prog X.w) X.A tt QQ EE ss:=λ hh=>by rw[yA] at hh;exact hh
  cases n with
  |zero=>
    have hi':i=↑ds:=by omega
    subst hi';rw[yGc] at ec;cases ec;refine bD (toA (T.done Y yP yW yK yC ↑ds [] s6 σ6 H6 _ I6 (fpY fr6) st6 (wk.stop H6 (g16.f.trans R6.sub)))) λ r s7 hPq39=>?_
    let(hr,I7):=hPq39;subst hr;exact bZ s7 σ6 H6 F6 L6 I7 g6 R6
  |succ n=>
    have hi':i<↑ds:=by omega
    refine bD (toA (T.item Y yP yW yK yC i [] s6 σ6 H6 _ I6 (fpY fr6) st6 (wk.go i H6 (g16.f.trans R6.sub) hi'))) λ r s7 hPq40=>?_
    let(u,hr,h7):=hPq40;subst hr;refine bD (toA h7) λ _ s8 hPq41=>?_
    let(x,H8,I8,r8,y8,st8,fr8):=hPq41;let(F8,sf8,R8,d8):=wk.yld i H6 F6 L6 S6 x H8 ds[i] g16 R6 (yAa hi') y8;have g8:Gr F6 L6 F8 L6:=⟨sf8,[],by simp⟩;rw[yEu hi'] at ec;let(env9,ep,ec):=aI ec;let((cb,S9),et,ec):=aI ec;have I8':=I8.pinned (fpY fr8) (T.obj _ _ st8);have toF:∀ {α:Type}{tt:Sem α}{QQ:α->qv->Prop}{ss:qv},qu (model Y.prog Y.w) Y.A tt QQ Y.xe ss->qu (model X.prog X.w) X.A tt QQ (λ _ _=>False) ss:=λ hh=>by rw[yX,yP,yW,yA] at hh;exact hh
    refine toF (bD (hg Y hIC _ s8 σ6 H8 x u (λ σ' H'=>H'=H8/\EnvR X.K F8 L6 env9 σ') I8' r8 (ga ds[i] x σ6 H8 F8 L6 S6 (clr t.slots env) env9 _ R8 (E6.mono g8) d8 ep λ σ' E'=>⟨rfl,E'⟩)) λ _ s9 hPq42=>?_);let(σ9,H9,I9,hH9,E9):=hPq42;subst hH9;refine toF (bD (ht Y hIC _ s9 σ9 H9 (λ b H'=>∃ F' L',Gr F8 L6 F' L'/\Rel X.K F' L' S9 H'/\b=cb) I9 (by rw[yK];exact⟨F8,L6,S6,env9,cb,S9,R8,E9,et,λ F' L' H' g' R'=>⟨F',L',g',R',rfl⟩⟩)) λ ok2 s10 hPq43=>?_);let(H10,I10,F10,L10,g10,R10,hb10):=hPq43;subst hb10;dsimp only at ec;have again:∀ {σ7:L2.St}{H7 F7:Hp}{L7:Lx}{S7:aC}{s7':qv},Inv Y ([]++wV fp s8.heap) σ7 H7 s7'->Gr F8 L6 F7 L7->Rel X.K F7 L7 S7 H7->EnvR X.K F7 L7 env9 σ7->gH t fc fe ↑S1 (clr t.slots env) (ds.drop (i+1)) S7=qz S2 ->
     ∃ m,m<n+1/\Iv m s7':=by
     intro σ7 H7 F7 L7 S7 s7' I7 g7 R7 E7 ec7;refine⟨n,yEw n,(hIv _ _).mpr ⟨i+1,σ7,H7,F7,L7,S7,I7.unpinned,T.keep _ _ _ st8 λ b hb o eo=>(I7.pin (b,o) (xAp _ (xAp _ (vI hb eo)))).1,λ b hb=>?_,(g6.trans g8).trans g7,R7,EnvR.back ep E7,by omega,ec7⟩⟩;let(o,eo,_):=T.obj _ _ st8 b hb;exact(I7.pin (b,o) (xAp _ (xAp _ (vI hb eo)))).2.1
    cases ok2 with
    |false=>
      rw[if_neg (by simp)] at ec;rw[if_neg (by simp)];exact again I10 g10 R10 (E9.mono g10) ec
    |true=>
      rw[if_pos rfl] at ec;rw[if_pos rfl];let((wv,S11),ee,ec):=aI ec;let((wn,S12),ea,ec):=aI ec;let(n',dv,zs',hn',hw',es',hlt,hwn,rfl):=aHj ea;cases hn';dsimp only at hw';refine toF (bD (he Y hIC _ s10 σ9 H10 (λ v H'=>∃ F' L',Gr F10 L10 F' L'/\Rel X.K F' L' S11 H'/\Den X.K F' dv v) I10 ⟨F10,L10,S9,env9,_,S11,R10,E9.mono g10,ee,λ F' L' H' v g' R' d'=>⟨F',L',g',R',aBj d' hw'⟩⟩) λ xv s11 hPq44=>?_);let(v11,H11,I11,r11,F11,L11,g11,R11,d11):=hPq44;have gA:Gr F1 (L1++[(Dd,false)]) F11 L11:=((g6.trans g8).trans g10).trans g11;have eL:L11[↑S1]?=qz (Dd,false):=gA.get (by rw[yAf (by rw[R1.len];exact yAb _),R1.len,yAx];rfl);let(hF,xs,hx,dl):=R11.loc ↑S1 Dd zs' eL es';refine toF (bD (@aHK Y _ s11 σ9 H11 (.ref Dd) [v11] (.ref Dd) [xv] (λ _ H'=>Rel X.K F11 L11 (S11.set ↑S1 (qz (zs'++[dv]))) H') I11 rfl (.cons r11 .nil) ⟨Dd,xs,v11,rfl,rfl,hx,by rw[<- dl.length];exact hlt,R11.put eL hF (dl.append (.cons d11 .nil))⟩) λ _ s12 hPq45=>?_);let(_,H12,I12,_,R12):=hPq45;exact again I12 (g10.trans g11) R12 (E9.mono (g10.trans g11)) ec
 rw[yE,hPP] at loop;have st4:tn 0 h₁:=T.keep 0 _ _ st2 λ b _ o eo=>old b o (up23 b o eo)
 exact codeAny_compStart_list (loop _ I4 st4) (T.self X.A 0 _ _ _ st4 (loop _ I4 st4))
def aKz{t:Tg}{fi:FL}{fc:FT}{fe:FE}(hc:X.calm=true)(ok:ScOk scope X.env.scope)(own:aEM X.N scope t.slots)(hi:PI X tg iter (jX X.K fi))(hg:∀ Y,kT X scope Y->PG Y tg g)(ga:GA X.K t g)(ht:∀ Y,kT X scope Y->mX Y ifs fc)(he:∀ Y,kT X scope Y->PE Y elt (aP X.K fe))(hs:∀ x,xo iter X.env x=pure x) :
 PE X (.ListComp elt [⟨tg,iter,ifs,0⟩] scope pos) (jY X.K (gY t fi fc fe)):=λ aB s σ H Q I h=>by
 rw[eval_ListComp];exact aH0 qx hc ok own hi hg ga ht he hs I h λ p C s1 H' _ hm hI q=>hm.elim λ m hm=>⟨m,hm,λ h' sb=>⟨.ref p,H',hI h' sb,rfl,q⟩⟩
def aPI{t:Tg}{fi:FL}{fc:FT}{fe:FE}{fa:FE}(hN:X.N.Nodup)(hx1:X.N[i]?=qz x)(hx2:L2.Loc X.env.scope x)(hf:X.fn x=true\/X.env.scope.names.lookup x=qz .local)(hc:X.calm=true)(ok:ScOk scope X.env.scope)(own:aEM X.N scope t.slots)(hi:PI X tg iter (jX X.K fi))(hg:∀ Y,kT X scope Y->PG Y tg g)(ga:GA X.K t g)(ht:∀ Y,kT X scope Y->mX Y ifs fc)(he:∀ Y,kT X scope Y->PE Y elt (aP X.K fe))(hs:∀ x,xo iter X.env x=pure x)(hw:∀ σ H Q,aP X.K fa σ H Q->jY X.K (gY t fi fc fe) σ H Q) :
 PS X (.Assign [.Name x pos'] (.ListComp elt [⟨tg,iter,ifs,0⟩] scope pos) spos) (cZ X.K (jS i fa)):=by
 have hb:∃ b,swapsWith (.ListComp elt [⟨tg,iter,ifs,0⟩] scope pos) (qz (.Name x pos')) spos.line X.env=pure b:=⟨_,rfl⟩;let(b,hb):=hb;cases b with
 |false=>exact aMy hN hx1 hx2 (PE.weak (aKz hc ok own hi hg ga ht he hs) hw) hb hf
 |true=>
   intro aB s σ H DD I h;have h2:=aLP DD σ H h;rw[exec_Assign_Name_used _ _ _ _ hb];refine wB (ww (wB ?_));show qu _ X.A (do let _ <- comprehension (.ListComp elt [⟨tg,iter,ifs,0⟩] scope pos) scope X.env _ (newList []) false (eval iter X.env) (qz (assign (.Name x pos') X.env))) _ _ s;refine wB (bD (aH0 (QQ:=λ _ s'=>SP X aB DD .next s') (qz (assign (.Name x pos') X.env)) hc ok own hi hg ga ht he hs I (hw _ _ _ h2) λ p C s1 H' hC hm hI q=>?_) λ _ s' hq=>wP (wP hq));let(m,hm):=hm;have I1:Inv X aB σ H' s1:=hI s1.heap (Heap.SameBut.refl _ _);let(o,es,ep,ho,hd,r):=hm;have I2:=I1.pinned (fp:=[C]) (λ b hb=>by rw[List.mem_singleton.mp hb];exact hC) λ b hb=>by rw[List.mem_singleton.mp hb];exact⟨o,ho,λ v z=>by rw[hd] at z;cases z⟩
   refine bD (aDS (pos:=pos') hN hx1 hx2 hf _ s1 σ H' (.ref p) (.ref p) _ I2 rfl q) λ _ s2 hPq46=>?_
   let(σ2,H2,I3,q3):=hPq46;let(b1,b2,_):=I3.pin (C,o) (xAp _ (xAp _ (vI (by simp) ho)));refine⟨m,⟨o,es,ep,b1,hd,r⟩,λ h' sb=>⟨σ2,H2,?_,q3⟩⟩;exact I3.unpinned.turned (t':=s2.toks) (λ b o hb e=>sb.extBut b o hb e) b2 hC.2.1 hC.2.2.2.1 hC.2.2.2.2.1 hC.2.2.2.2.2
def kU:List D->Option (List Int)
 |[]=>qz []|.int i::r=>(kU r).bind λ l=>qz (i::l)|_::_=>qx
def aA6:List D->Option (List Bool)
 |[]=>qz []|.bool i::r=>(aA6 r).bind λ l=>qz (i::l)|_::_=>qx
def iL:List D->Option D
 |[.list xs]=>qz (.int ↑xs)|[.tuple xs]=>qz (.int ↑xs)
 |[.str z]=>if z.length<=qk then qz (.int z.length) else qx
 |_=>qx
def nQ:List D->Option D
 |[.int i,.int j]=>qz (.int (if j>i then j else i))
 |[.int i,.int j,.int k]=>qz (.int (if j>i then (if k>j then k else j) else (if k>i then k else i)))
 |[.list xs]=>match kU xs with
   |some (i::r)=>qz (.int (r.foldl max i))|_=>qx
 |_=>qx
def gK:List D->Option D
 |[.int i,.int j]=>qz (.int (if j<i then j else i))
 |[.list xs]=>match kU xs with
   |some (i::r)=>qz (.int (r.foldl min i))|_=>qx
 |_=>qx
def rR:List D->Option D
 |[.int i]=>qz (.int i)
 |[.bool k]=>qz (.int (if k then 1 else 0))
 |_=>qx
def gU:List D->Option D
 |[.list xs]=>qz (.tuple xs)|[.tuple xs]=>qz (.tuple xs)|_=>qx
def nV{xs:List V}(h:NowL X.K F H [d] xs):∃ x,xs=[x]/\bW X.K F H d x:=by
 cases h with
 |cons a b=>cases b;exact⟨_,rfl,a⟩
def aMW{xs:List V}(h:NowL X.K F H [d,e] xs):∃ x y,xs=[x,y]/\bW X.K F H d x/\bW X.K F H e y:=by
 cases h with
 |cons a b=>
   cases b with
   |cons c d=>cases d;exact⟨_,_,rfl,a,c⟩
def aYT{xs:List V}(h:NowL X.K F H [d,e,f] xs):∃ x y z,xs=[x,y,z]/\bW X.K F H d x/\bW X.K F H e y/\bW X.K F H f z:=by
 cases h with
 |cons a b=>cases b with
   |cons c d=>cases d with
     |cons e f=>cases f;exact⟨_,_,_,rfl,a,c,e⟩
def aYF(r:bA [x,y,z] us):∃ u v w',us=[u,v,w']/\aU x u/\aU y v/\aU z w':=by
 cases r with
 |cons r1 r2=>cases r2 with
   |cons r3 r4=>cases r4 with
     |cons r5 r6=>cases r6;exact⟨_,_,_,rfl,r1,r3,r5⟩
def aPV(hc:X.calm=true):gF X (.builtin "max") (λ xs H Q=>∃ i j k,xs=[.int i,.int j,.int k]/\Q (.int (if j>i then (if k>j then k else j) else (if k>i then k else i))) H):=by
 intro aB s σ H xs us Q I r h;let(i,j,k,rfl,q):=h;let(u,v,w',rfl,(t,rfl),(t',rfl),(t2,rfl)):=aYF r;refine max_three_ints (I.ok.hd hc) λ h' tk kk=>⟨_,H,I.kept kk,?_,q⟩
 by_cases h1:j>i<;>by_cases h2:k>j<;>by_cases h3:k>i<;>simp only[h1,h2,h3,if_true,if_false]<;>exact⟨_,rfl⟩
def aAB:∀ {ds:List D}{xs:List V}{ns:List Int},DenL K F ds xs->kU ds=qz ns->xs=ns.map V.int
 |_,_,_,.nil,e=>by cases e;rfl
 |.int i::r,_,_,.cons h t,e=>by
   let(l,e1,e2):=aI e;cases e2;cases h;rw[yAh,aAB t e1]
 |.none::_,_,_,.cons _ _,e=>by cases e|.bool _::_,_,_,.cons _ _,e=>by cases e|.str _::_,_,_,.cons _ _,e=>by cases e|.list _::_,_,_,.cons _ _,e=>by cases e|.tuple _::_,_,_,.cons _ _,e=>by cases e|.dict _::_,_,_,.cons _ _,e=>by cases e
def aJU:∀ (l:List Int) (i:Int),(l.foldl max i∈i::l)/\∀ a∈i::l,a<=l.foldl max i
 |[],i=>⟨List.mem_singleton.mpr rfl,λ a h=>by rw[List.mem_singleton.mp h];exact Int.le_refl _⟩
 |b::l,i=>by
   let(h1,h2):=aJU l (max i b);rw[yBb];refine⟨?_,λ a ha=>?_⟩
   ·rcases List.mem_cons.mp h1 with h|h
    ·rw[h];rcases Int.le_total i b with q|q
     ·rw[Int.max_eq_right q];simp
     ·rw[Int.max_eq_left q];simp
    ·simp[h]
   ·have h3:=h2 (max i b) xAc;simp only[yCa] at ha;rcases ha with rfl|rfl|ha
    ·exact yHw (Int.le_max_left _ _) h3
    ·exact yHw (Int.le_max_right _ _) h3
    ·exact h2 a (xAf _ ha)
def aJK:∀ (l:List Int) (i:Int),(l.foldl min i∈i::l)/\∀ a∈i::l,l.foldl min i<=a
 |[],i=>⟨List.mem_singleton.mpr rfl,λ a h=>by rw[List.mem_singleton.mp h];exact Int.le_refl _⟩
 |b::l,i=>by
   let(h1,h2):=aJK l (min i b);rw[yBb];refine⟨?_,λ a ha=>?_⟩
   ·rcases List.mem_cons.mp h1 with h|h
    ·rw[h];rcases Int.le_total i b with q|q
     ·rw[Int.min_eq_left q];simp
     ·rw[Int.min_eq_right q];simp
    ·simp[h]
   ·have h3:=h2 (min i b) xAc;simp only[yCa] at ha;rcases ha with rfl|rfl|ha
    ·exact yHw h3 (Int.min_le_left _ _)
    ·exact yHw h3 (Int.min_le_right _ _)
    ·exact h2 a (xAf _ ha)
def aDb:∀ {l:List Int}{us:List qj},bA (l.map V.int) us->∃ ps:List (Int×Tok),us=ps.map (λ p=>Value.int p.1 p.2)/\ps.map (·.1)=l
 |[],us,r=>by cases r;exact⟨[],rfl,rfl⟩
 |i::l,us,r=>by
   cases r with
   |cons h t=>
     let(tk,rfl):=h;let(ps,rfl,rfl):=aDb t;exact⟨(i,tk)::ps,rfl,rfl⟩
def aPB(hc:X.calm=true):gF X (.builtin "max") (λ xs H Q=>∃ (a:qw) (l:List Int),xs=[.ref a]/\bX X.K H a (l.map V.int)/\0<↑l/\∀ M,M∈l->(∀ i∈l,i<=M)->Q (.int M) H):=by
 intro aB s σ H xs us Q I r h;let(a,l,rfl,sq,hl,q):=h;let(u,rfl,ru):=rE r;cases ru;let(aG,rv,pl,hz):=I.list sq;let(ps,rfl,rfl):=aDb rv;have hIL:s.heap.IsList a (intItems ps.toArray):=by
  have e:intItems ps.toArray=(ps.map (λ p=>Value.int p.1 p.2)).toArray:=by simp[intItems]
  rw[e];exact pl.isList
 refine max_intList (xs:=ps.toArray) (I.ok.hd hc) hIL (hl:) λ v h' tk hv hk=>?_
 let(t,rfl):=intItems_at hv;let(h1,h2):=argBest_gt (numAt ps.toArray) (ps.toArray.size-1);refine⟨.int _,H,I.kept hk,⟨_,rfl⟩,q _ ?_ λ i hi=>?_⟩
 ·rw[numAt_eq];have hz':0<ps.toArray.size:=(hl:)
  exact getD_mem (by rw[yAc,yEb];exact xAi h1 (Nat.sub_lt hz' Nat.one_pos))
 ·let(j,hj,rfl):=mem_getD hi;rw[yAc] at hj;have:=h2 j (by rw[yAi];omega);rw[numAt_eq (j:=j)] at this;exact this
def aPq(hc:X.calm=true):gF X (.builtin "min") (λ xs H Q=>∃ (a:qw) (l:List Int),xs=[.ref a]/\bX X.K H a (l.map V.int)/\0<↑l/\∀ M,M∈l->(∀ i∈l,M<=i)->Q (.int M) H):=by
 intro aB s σ H xs us Q I r h;let(a,l,rfl,sq,hl,q):=h;let(u,rfl,ru):=rE r;cases ru;let(aG,rv,pl,hz):=I.list sq;let(ps,rfl,rfl):=aDb rv;have hIL:s.heap.IsList a (intItems ps.toArray):=by
  have e:intItems ps.toArray=(ps.map (λ p=>Value.int p.1 p.2)).toArray:=by simp[intItems]
  rw[e];exact pl.isList
 refine min_intList (xs:=ps.toArray) (I.ok.hd hc) hIL (hl:) λ v h' tk hv hk=>?_
 let(t,rfl):=intItems_at hv;let(h1,h2):=argBest_lt (numAt ps.toArray) (ps.toArray.size-1);refine⟨.int _,H,I.kept hk,⟨_,rfl⟩,q _ ?_ λ i hi=>?_⟩
 ·rw[numAt_eq];have hz':0<ps.toArray.size:=(hl:)
  exact getD_mem (by rw[yAc,yEb];exact xAi h1 (Nat.sub_lt hz' Nat.one_pos))
 ·let(j,hj,rfl):=mem_getD hi;rw[yAc] at hj;have:=h2 j (by rw[yAi];omega);rw[numAt_eq (j:=j)] at this;exact this
def aWK:gF X (.builtin "len") (uQ X iL):=λ aB s σ H xs us Q I r aX=>by
 let(F,L,S,ds,z,R,n,e,q):=aX;unfold iL at e;split at e
 ·cases e;let(x,rfl,nx):=nV n;let(a,ys,rfl,sq,dl):=nx.lst R.sub;exact aGI aB s σ H _ us Q I r ⟨a,ys,rfl,.inl sq,by rw[<- dl.length];exact q.here R (.int _)⟩
 ·cases e;let(x,rfl,nx):=nV n;let(a,ys,rfl,sq,dl):=nx.tup R.sub;exact aGI aB s σ H _ us Q I r ⟨a,ys,rfl,.inr sq,by rw[<- dl.length];exact q.here R (.int _)⟩
 ·split at e
  ·rename_i hz;cases e;let(x,rfl,nx):=nV n;exact aOc aB s σ H _ us Q I r ⟨_,by rw[nx.str],hz,q.here R (.int _)⟩
  ·cases e
 ·cases e
def aX3(hc:X.calm=true):gF X (.builtin "max") (uQ X nQ):=λ aB s σ H xs us Q I r aX=>by
 let(F,L,S,ds,z,R,n,e,q):=aX;unfold nQ at e;split at e
 ·cases e;let(x,y,rfl,nx,ny):=aMW n;exact aPz hc aB s σ H _ us Q I r ⟨_,_,by rw[nx.int,ny.int],q.here R (.int _)⟩
 ·cases e;let(x,y,u,rfl,nx,ny,nu):=aYT n;exact aPV hc aB s σ H _ us Q I r ⟨_,_,_,by rw[nx.int,ny.int,nu.int],q.here R (.int _)⟩
 ·split at e
  ·rename_i xs' i r' hi;cases e;let(x,rfl,nx):=nV n;let(a,ys,rfl,sq,dl):=nx.lst R.sub;obtain rfl:=aAB dl hi;refine aPB hc aB s σ H _ us Q I r ⟨a,i::r',rfl,sq,by simp,λ M h1 h2=>?_⟩;have f:=aJU r' i;have:M=r'.foldl max i:=Int.le_antisymm (f.2 _ h1) (h2 _ f.1);rw[this];exact q.here R (.int _)
  ·cases e
 ·cases e
def aWx(hc:X.calm=true):gF X (.builtin "min") (uQ X gK):=λ aB s σ H xs us Q I r aX=>by
 let(F,L,S,ds,z,R,n,e,q):=aX;unfold gK at e;split at e
 ·cases e;let(x,y,rfl,nx,ny):=aMW n;exact aPo hc aB s σ H _ us Q I r ⟨_,_,by rw[nx.int,ny.int],q.here R (.int _)⟩
 ·split at e
  ·rename_i xs' i r' hi;cases e;let(x,rfl,nx):=nV n;let(a,ys,rfl,sq,dl):=nx.lst R.sub;obtain rfl:=aAB dl hi;refine aPq hc aB s σ H _ us Q I r ⟨a,i::r',rfl,sq,by simp,λ M h1 h2=>?_⟩;have f:=aJK r' i;have:M=r'.foldl min i:=Int.le_antisymm (h2 _ f.1) (f.2 _ h1);rw[this];exact q.here R (.int _)
  ·cases e
 ·cases e
def aXs:gF X (.type "int") (uQ X rR):=λ aB s σ H xs us Q I r aX=>by
 let(F,L,S,ds,z,R,n,e,q):=aX;unfold rR at e;split at e
 ·cases e;let(x,rfl,nx):=nV n;exact aHM aB s σ H _ us Q I r (.inl ⟨_,by rw[nx.int],q.here R (.int _)⟩)
 ·cases e;let(x,rfl,nx):=nV n;exact aHM aB s σ H _ us Q I r (.inr ⟨_,by rw[nx.bl],q.here R (.int _)⟩)
 ·cases e
def aTs:gF X (.type "tuple") (uQ X gU):=λ aB s σ H xs us Q I r aX=>by
 let(F,L,S,ds,z,R,n,e,q):=aX;unfold gU at e;split at e
 ·cases e;let(x,rfl,nx):=nV n;let(a,ys,rfl,sq,dl):=nx.lst R.sub;exact aGt aB s σ H _ us Q I r ⟨a,ys,rfl,.inl ⟨sq,λ l hl=>q.tup R hl dl⟩⟩
 ·cases e;let(x,rfl,nx):=nV n;have nx':=nx;let(a,ys,rfl,sq,dl):=nx.tup R.sub;refine aGt aB s σ H _ us Q I r ⟨a,ys,rfl,.inr ⟨sq,q.here R ?_⟩⟩;rcases nx' with nx|⟨_,_,_,e,_⟩
  ·exact nx
  ·cases e
 ·cases e
def aG2:∀ {ds:List D}{xs:List V}{ns:List Bool},DenL K F ds xs->aA6 ds=qz ns->xs=ns.map V.bl
 |_,_,_,.nil,e=>by cases e;rfl
 |.bool i::r,_,_,.cons h t,e=>by
   let(l,e1,e2):=aI e;cases e2;cases h;rw[yAh,aG2 t e1]
 |.none::_,_,_,.cons _ _,e=>by cases e|.int _::_,_,_,.cons _ _,e=>by cases e|.str _::_,_,_,.cons _ _,e=>by cases e|.list _::_,_,_,.cons _ _,e=>by cases e|.tuple _::_,_,_,.cons _ _,e=>by cases e|.dict _::_,_,_,.cons _ _,e=>by cases e
def tyD:D->Option String
 |.none=>qz "NoneType"|.bool _=>qz "bool"|.int _=>qz "int"|.str _=>qz "str"|.list _=>qz "list"|.tuple _=>qz "tuple"|.dict _=>qx
def zD(K:FrG)(n:String)(d:D):Option D:=(tyD d).bind λ t=>(PySem.W.kitOne K (.type t) (.type n)).map PyData.bool
def aUP{Q:VK}(I:Inv X aB σ H s)(R:Rel X.K F L S H)(rx:aU x v)(nx:bW X.K F H d x)(e:zD X.K n d=qz z)(q:fZ X F L S z Q) :
 qu (model X.prog X.w) X.A (call (.builtin "isinstance") [v,.type n]) (EP X aB σ Q) X.xe s:=by
 let(t,e1,e2):=aI e;cases ek:PySem.W.kitOne X.K (.type t) (.type n) with
 |none=>rw[ek] at e2;cases e2
 |some b=>
   rw[ek] at e2;cases e2;have bZ:∀ tk,EP X aB σ Q (.bool b) {s with toks:=tk }:=λ tk=>⟨.bl b,H,I.tok _,rfl,q.here R (.bl b)⟩
   cases d with
   |none=>cases e1;obtain rfl:=nx.non;cases (show v=Value.none from rx);exact yEl PySem.W.kitx_none I.kIn True.intro ek (λ z=>nomatch z) bZ
   |bool y=>cases e1;obtain rfl:=nx.bl;cases (show v=Value.bool y from rx);exact yEl PySem.W.kitx_bool I.kIn True.intro ek (λ z=>nomatch z) bZ
   |int i=>cases e1;obtain rfl:=nx.int;let(t,q):=(show ∃ t,v=Value.int i t from rx);cases q;exact yEl PySem.W.kitx_int I.kIn True.intro ek (λ z=>nomatch z) bZ
   |str y=>cases e1;obtain rfl:=nx.str;let(t,q):=(show ∃ t,v=Value.str y t from rx);cases q;exact yEl PySem.W.kitx_str I.kIn True.intro ek (λ z=>nomatch z) bZ
   |list l=>
     cases e1;let(a,xs,rfl,sq,dl):=nx.lst R.sub;cases (show v=Value.ref a from rx);let(aG,rv,pl,_):=I.list sq;let(o,ho,hc,_):=pl.isList;exact yEl PySem.W.kitx_list I.kIn ⟨o,ho,hc⟩ ek (λ z=>nomatch z) bZ
   |tuple l=>
     cases e1;let(a,xs,rfl,sq,dl):=nx.tup R.sub;cases (show v=Value.ref a from rx);let(aG,rv,pl,_):=I.tuple sq;let(o,ho,hc,_):=pl;exact yEl PySem.W.kitx_tuple I.kIn ⟨o,ho,hc⟩ ek (λ z=>nomatch z) bZ
   |dict l=>cases e1
def aMN(K:FrG)(n:String)(fa:FE):FE:=f1 fa (gP (zD K n))
def aXC{fa:FE}(ha:PE X a (aP X.K fa))(hg:Gl X "isinstance")(hm:X.mg "isinstance" = qx)(hv:xu "isinstance" = qz (.builtin "isinstance"))(hg':Gl X x)(hm':X.mg x=qx)(hv':xu x=qz (.type n))(hn:x ≠ "__name__")(hd:(x==("__debug__" : Str))=false)(h1:qo [a,.Name x p'] X.env=(false,eval a X.env)::qo [.Name x p'] X.env):PE X (.Call (.Name "isinstance" p) [a,.Name x p'] [] pos) (aP X.K (aMN X.K n fa)):=by
 have pt:PE X (.Name x p') (tC (.ty n)):=aSF hg' hm' hv' rfl hn hd;have rule:gF X (.builtin "isinstance") (λ xs H Q=>∃ F L S y d z,xs=[y,.ty n]/\Rel X.K F L S H/\bW X.K F H d y/\zD X.K n d=qz z/\fZ X F L S z Q):=λ aB s σ H xs us Q I r aX=>by
  let(F,L,S,y,d,z,e,R,ny,e2,q):=aX;subst e;let(u,u2,rfl,r1,r2):=aET r;cases (show u2=Value.type n from r2);exact aUP I R r1 ny e2 q
 refine PE.weak (aAO rule hg hm hv (aDQ ha (aDQ pt aEi) h1) (·) (·) h1 rfl) λ σ H Q hPq47=>?_
 let(F,L,S,env,w,S',R,E,e,q):=hPq47;let((w1,S1),e1,e2):=aI e;let(d,z,e3,e4,rfl,rfl):=vO e2;exact⟨F,L,S,env,w1,_,R,E,e1,λ F1 L1 H1 v g1 R1 d1=>⟨F1,L1,_,v,d,z,rfl,R1,kW R1 d1 e3,e4,aA7 X rfl λ F2 L2 H2 v2 g2 R2 d2=>q F2 L2 H2 v2 (g1.trans g2) R2 d2⟩⟩
def aLM:D->Option D
 |.int i=>qz (.int ((yAm i:Nat):Int))|_=>qx
def aEL(fa:FE):FE:=f1 fa (gP aLM)
def aRU:MtR X "int.bit_length" (λ x xs H Q=>∃ i,x=.int i/\xs=[]/\Q (.int ((yAm i:Nat):Int)) H):=λ aB s σ H x xs v us Q I rx rs aX=>by
 let(i,e1,e2,q):=aX;subst e1 e2;let(t,rfl):=rx;cases rs;exact call_gives yGk (vk s i t) PySem.F.entry_int_bit_length (PySem.F.args_int_bit_length_1 _) (PySem.AutoIntG2.int_bit_length_int_0 i t) (show EP X aB σ Q _ _ from ⟨.int _,H,I.tok _,⟨_,rfl⟩,q⟩)
section
variable {X:Cx}{aB:List (qw×Obj)}{σ:L2.St}{H:Hp}{s:qv}{h':Heap}
def aHf{ch:List qw}{p:qw}{o:HO}{t':Nat}(I:Inv X aB σ H s)(hch:∀ b∈ch,gL X aB H b)(k:∀ b u,b ∉ ch->s.heap.get? b=qz u->h'.get? b=qz u)(hp:s.heap.objs.size<=p)
 (new:eQ X.prog X.w (bF H p o) h' p o):Inv X aB σ (bF H p o) {s with heap:=h',toks:=t' }:=by
 have hn:=I.hok.fresh hp;have nch:∀ b u,H b=qz u->b ∉ ch:=λ b u e z=>by rw[(hch b z).1] at e;cases e
 have nep:∀ b u,s.heap.get? b=qz u->b≠p:=λ b u e z=>absurd (xAb (xAa e) hp) (by rw[z];exact yCv _)
 refine I.step (g':=s.gens) (d':=s.drawn) (ch:=ch) (λ b hb=>⟨(hch b hb).2.2.2.1,(hch b hb).2.1,(hch b hb).2.2.2.2.1,(hch b hb).2.2.2.2.2⟩) (λ b o _ _ hc e _=>k b o hc e) (λ b o _ _ hc e _=>⟨o.slots,k b o hc e⟩) (λ b o _ e n=>by rw[bO (nep b o e)];exact n)
  (λ b o hc e=>⟨o,k b o hc e⟩) (λ b xs e=>by rw[bO (eP e hn)];exact e) (λ b u v e=>by rw[bO (eP e hn)];exact e) (λ b ps e=>⟨#[],by rw[bO (eP e hn),e];simp⟩) (λ m hm=>?_) (λ b u e=>?_) I.bare
 ·let(o,es,ep,ho,r):=hm;exact⟨o,es,ep,k _ o (λ z=>(hch _ z).2.1 rfl) ho,r⟩
 ·by_cases hb:b=p
  ·subst hb;rw[cO] at e;cases e;exact new
  ·rw[bO hb] at e;refine(I.hok b u e).stay (λ c v hc q=>k c v ?_ q) (λ c q=>by rw[bO (eP q hn)];exact q) λ c xs q=>by rw[bO (eP q hn)];exact q
   rcases hc with z|z
   ·rw[z];exact nch b u e
   ·exact nch c _ z
end
def aYO(k:Int):List D->List D
 |[]=>[]|d::r=>.tuple [.int k,d]::aYO (k+1) r
def aNW{E:qj -> qv -> Prop}{s:qv}{Q:qj->qv->Prop}(hit:s.heap.IsTupleIter it t i)(ht:s.heap.IsTuple t aZ)(hx:aZ[i]?=qz x)(hQ:∀ h',h'.IsTupleIter it t (i+1)->yCz it s.heap h'->Q x {s with heap:=h' }):qu (model prog w) A (yBq (.ref it)) Q E s:=by let(o,ho,hc,hd):=id hit;let(ol,hol,_,nl,hdl):=ht;unfold yBq;refine wB (wpAny_callSpecial?_slot (name:=Str.ofString "__next__") hit.typeIs F.slot_tuple_iterator_next (jo F.slot_tuple_iterator_next hit.typeIs F.entry_tuple_iterator_next ?_ (F.args_tuple_iterator_next_1 _)));show qu _ _ (field (.ref it) 0 >>= _) _ _ s;refine wB (xq ho hd (x:=.ref t) rfl ?_);show qu _ _ (if (Value.ref t==Value.none)=true then _ else _) _ _ s;rw[if_neg (show ¬ ((Value.ref t==Value.none)=true) from yBg)];show qu _ _ (field (.ref it) 1 >>= _) _ _ s;refine wB (xq ho hd (x:=.int i 0) rfl ?_);show qu _ _ (seqItems? (.ref t) >>= _) _ _ s;refine wB (jk hol hdl ?_);simp only[yAs,hx];refine wB (wpAny_setField ho hd (by simp) (wP ⟨x,rfl,wP (hQ _ ⟨_,yCn _ ho (Obj.isFreed_of_fields (Obj.data_mapFields hd _)),(Obj.cls_mapFields ..).trans hc,?_⟩ (Heap.SameBut.update ..))⟩));rw[Obj.data_mapFields hd];simp[yq]
def aNY{A:zv}{E:qj -> qv -> Prop}{s:qv}{Q:qj->qv->Prop}(hh:A.handled=qx)(hit:s.heap.IsTupleIter it t i)(ht:s.heap.IsTuple t aZ)(hx:aZ[i]?=qx)(hE:∀ h' e,Heap.ExtBut it s.heap h'->(∃ o,h'.get? e=qz o/\o.cls=.type "StopIteration")->E (.ref e) {s with heap:=h' }):qu (model prog w) A (yBq (.ref it)) Q E s:=by
 let(o,ho,hc,hd):=id hit;let(ol,hol,_,nl,hdl):=ht;unfold yBq;refine wB (wpAny_callSpecial?_slot (name:=Str.ofString "__next__") hit.typeIs F.slot_tuple_iterator_next (jo F.slot_tuple_iterator_next hit.typeIs F.entry_tuple_iterator_next ?_ (F.args_tuple_iterator_next_1 _)));show qu _ _ (field (.ref it) 0 >>= _) _ _ s;refine wB (xq ho hd (x:=.ref t) rfl ?_);show qu _ _ (if (Value.ref t==Value.none)=true then _ else _) _ _ s;rw[if_neg (show ¬ ((Value.ref t==Value.none)=true) from yBg)];show qu _ _ (field (.ref it) 1 >>= _) _ _ s;refine wB (xq ho hd (x:=.int i 0) rfl ?_);show qu _ _ (seqItems? (.ref t) >>= _) _ _ s;refine wB (jk hol hdl ?_);simp only[yAs,hx];refine wB (vo (wB (wpAny_setField ho hd (by simp) ?_)));show qu _ _ (newExc (.type "StopIteration") [] >>= _) _ _ _;refine wB ?_;simp only[newExc,newTuple];refine wB (xj (wB (m:=firstArgMember _ _) (wpAny_of_eq (a:=Value.none) (by first|rfl|(simp only[firstArgMember];rfl)) (xj ?_ (by size_fits)))) (by size_fits));simp only[raiseNew];refine wB (wpAny_handled ?_)
 first|rw[show A.in1.handled=qx from hh]|rw[hh]
 exact wB (wP (wpAny_throw (hE _ _ (((Heap.SameBut.update ..).extBut.push _).push _) ⟨_,xAd _ rfl,rfl⟩)))
def aPH{A:zv}(hh:A.handled=qx)(it t:qw)(hne:t≠it)(aZ:Array qj):Draws prog w A it [it,t] aZ.size (λ i v=>aZ[i]?=qz v) (λ i h=>h.IsTupleIter it t i/\h.IsTuple t aZ) where
 live:=λ _ _ st=>let ⟨o,ho,_⟩:=st.1;⟨o,ho⟩
 frame:=λ _ _ _ st hk=>⟨st.1.at λ o e=>hk it (by simp) o e,let ⟨u,hu,r⟩:=st.2;⟨u,hk t (by simp) u hu,r⟩⟩
 item:=λ i s Q E hi st hQ=>aNW st.1 st.2 (x:=aZ[i]) (by simp[hi]) λ h' hit' hs'=>hQ _ h' s.toks (by simp[hi]) ⟨hit',let ⟨u,hu,r⟩:=st.2;⟨u,hs'.extBut t u hne hu,r⟩⟩ hs'
 done:=λ s Q E st hE=>aNY hh st.1 st.2 (by simp) hE
inductive Tv where
 |int (i:Int)|str (x:Str)|bool (b:Bool)
 deriving DecidableEq
def Tv.d:Tv->D
 |.int i=>.int i|.str x=>.str x|.bool b=>.bool b
def Tv.v:Tv->V
 |.int i=>.int i|.str x=>.str x|.bool b=>.bl b
def Tv.den(t:Tv):Den K F t.d t.v:=by
 cases t
 ·exact .int _
 ·exact .str _
 ·exact .bl _
def tO(w:zj):List DictEntry->List (Str×Tv)->Prop
 |[],[]=>True|e::r,(x,v)::aF=>e.hash=hashStr w x/\(∃ t,e.key=.str x t)/\aU v.v e.val/\tO w r aF|_,_=>False
def xP(K:FrG)(w:zj)(a:qw)(aF:List (Str×Tv)):Prop:=(a==sysModules)=false/\∃ es ep,K.lookup a=qz {cls:=.type "dict",data:=.dict es ep }/\tO w es.toList aF
def aCi(aF:List (Str×Tv)):D->Option D
 |.str x=>(aF.lookup x).map Tv.d|_=>qx
def aIN:∀ {l:List DictEntry}{aF:List (Str×Tv)},tO w l aF->∀ e∈l,∃ k,(fM P w).is k e.key=true/\e.hash=(fM P w).hash k
 |[],[],_,e,h=>by cases h
 |e::r,(x,v)::aF,ok,e',h=>by
   let(h1,(t,h2),_,h4):=ok;rcases List.mem_cons.mp h with rfl|h
   ·exact⟨.inr x,by rw[h2];exact aDn x t,h1⟩
   ·exact aIN h4 e' h
 |[],_::_,ok,_,_=>ok.elim|_::_,[],ok,_,_=>ok.elim
def aQO(x y:Str)(t:Tok):nH (.inr x) (.str y t)=(x==y):=by
 have h:(y==x)=(x==y):=by
  rw[yDf];constructor<;>intro z<;>simp at z ⊢ <;> exact z.symm
 simp[nH,Value.isStrOf,h]
def aIa:∀ {l:List DictEntry}{aF:List (Str×Tv)},tO w l aF->aF.lookup k=qz v->∃ u,(l.find? λ e=>nH (.inr k) e.key).map (·.val)=qz u/\aU v.v u
 |[],[],_,h=>by cases h
 |e::r,(x,v')::aF,ok,h=>by
   let(h1,(t,h2),h3,h4):=ok;rw[yBl] at h;rw[yCo,h2,aQO];cases q:k==x with
   |true=>
     rw[q] at h;cases h;exact⟨e.val,rfl,h3⟩
   |false=>
     rw[q] at h;exact aIa h4 h
 |[],_::_,ok,_=>ok.elim|_::_,[],ok,_=>ok.elim
def aWm:uO X (λ x y H Q=>∃ a k v,x=.ref a/\xP X.K X.w a aF/\y=.str k/\aF.lookup k=qz v/\Q v.v H):=by
 intro value iS aB s σ H x y v u Q I rx ry h hs;let(a,k,tv,rfl,(_,es,ep,hl,ok),rfl,hv,q):=h;cases rx;let(t,rfl):=ry;let(z,e1,e2):=aIa ok hv;have hm:s.heap.MapOf (fM X.prog X.w) a (λ k=>findBy (fM X.prog X.w).is es k):=⟨_,es,ep,I.kIn a _ hl,⟨rfl,rfl,rfl⟩,rfl,λ e he=>aIN ok e (he:),λ _=>rfl⟩;have hz:findBy (fM X.prog X.w).is es (.inr k)=qz z:=by
  unfold findBy;rw[<- Array.find?_toList];exact e1
 exact tail_any hm.typeIs PySem.F.slot_dict_getitem.lookup (wpAny_getItem_of (aDn k t) hm hz ⟨_,H,I.tok _,e2,q⟩) hs
def aYJ{fk:FE}(hg:Gl X x)(hd:(x==("__debug__" : Str))=false)(ht:∃ a,X.mg x=qz (.ref a)/\xP X.K X.w a aF)(hk:PE X k (aP X.K fk))(hs:qL k) :
 PE X (.Subscript (.Name x p) k pos) (aP X.K (f1 fk (gP (aCi aF)))):=by
 let(a,hm,ta):=ht;refine PE.weak (aE9 (aWm (aF:=aF)) (aJX (v:=.ref a) hg hm rfl hd) hk hs) λ σ H Q hPq48=>?_
 let(F,L,S,env,w,S',R,E,e,q):=hPq48;let((w1,S1),e1,e2):=aI e;let(d,z,e3,e4,rfl,rfl):=vO e2;cases d with
 |str y=>
   let(v,hv,rfl):=Option.map_eq_some_iff.mp (show(aF.lookup y).map Tv.d=qz z from e4);refine⟨F,L,S,env,w1,_,R,E,e1,λ F1 L1 H1 u g1 R1 d1=>⟨a,y,v,rfl,ta,(kW R1 d1 e3).str,hv,?_⟩⟩;exact q F1 L1 H1 v.v g1 R1 (show Den X.K F1 v.d v.v from v.den)
 |_=>cases e4
def aBO:List qj->List Tv->Prop
 |[],[]=>True|u::us,t::ts=>aU t.v u/\aBO us ts|_,_=>False
def aIt:∀ {us:List qj}{ts:List Tv},aBO us ts->bA (ts.map Tv.v) us
 |[],[],_=>.nil|_::_,_::_,⟨h1,h2⟩=>.cons h1 (aIt h2)|[],_::_,h=>h.elim|_::_,[],h=>h.elim
def aJI:∀ ts:List Tv,DenL K F (ts.map Tv.d) (ts.map Tv.v)
 |[]=>.nil|t::ts=>.cons t.den (aJI ts)
def tP(K:FrG)(a:qw)(ts:List Tv):Prop:=∃ (o:Obj) (aG:Array qj) (n:Nat),K.lookup a=qz o/\o.cls=.type "tuple" /\ o.data=.seq aG n/\aG.size<=qk/\aBO aG.toList ts
def aSp(h:tP K a ts):Den K F (.tuple (ts.map Tv.d)) (.ref a):=by let(o,aG,n,h1,h2,h3,h4,h5):=h;exact .tup (.inr ⟨o,aG,n,h1,h2,h3,h4,aIt h5⟩) (aJI ts)
def aYD(hg:Gl X x)(hd:(x==("__debug__" : Str))=false)(ht:∃ a,X.mg x=qz (.ref a)/\tP X.K a ts):PE X (.Name x p) (aP X.K (fC (.tuple (ts.map Tv.d)))):=by
 let(a,hm,ca):=ht;refine PE.weak (aJX (v:=.ref a) hg hm rfl hd) λ σ H Q hPq49=>?_
 let(F,L,S,env,w,S',R,E,e,q):=hPq49;cases e;exact q F L H _ Gr.refl R (aSp ca)
def aTE(op op':jx)(fa fb fc:FE):FE:=λ env S=>(fa env S).bind λ p=>(fb env p.2).bind λ q=>(jG (aW op) q.2 p.1 q.1).bind λ r=>match r.1 with|.d (.bool true)=>(fc env r.2).bind λ t=>jG (aW op') t.2 q.1 t.1|.d (.bool false)=>qz (.d (.bool false),r.2)|_=>qx
def aNS{E:qj->qv->Prop}{s:qv}{lo hi:Option Int}{Q:qj->qv->Prop}(ht:IsTup s.heap t aZ)(hs:s.heap.IsSliceOf sl vl vu .none)(pl:IsPart vl lo)(pu:IsPart vu hi)(hw:HT.sIx aZ.size 0 lo=0/\HT.sIx aZ.size aZ.size hi=aZ.size)(h:Q (.ref t) s):qu (model prog w) A (getItem (.ref t) (.ref sl)) Q E s:=by
 let(os,hos,hcs,hds):=id hs;have hTs:s.TypeIs (.ref sl) "slice":=⟨os,hos,hcs⟩;unfold getItem
 try with_reducible refine zu ?_
 first|refine wB (wP ?_)|skip
 refine wB (wpAny_sequenceKey ht.typeIs (·) ?_)
 refine wB (wpAny_callSpecial?_slot (name:=Str.ofString "__getitem__") ht.typeIs yCj
  (jo yCj ht.typeIs entry_tuple_getitem ?_ (args_tuple_getitem _ _)))
 show qu _ _ (yGq (.ref t) >>= _) _ _ s;refine wB (tupleItemsOf_ ht ?_);refine wB (wpAny_typeOf hTs ?_);rw[if_pos (·)];refine wB (HT.sliceApplied_gen hs pl pu ?_);have hyes:(((HT.sIx aZ.size 0 lo:Nat):Int)==0&&(1:Int)==1&&(HT.sIx aZ.size aZ.size hi-HT.sIx aZ.size 0 lo)==aZ.size)=true:=by
  rw[hw.1,hw.2];simp
 show qu _ _ (if (((HT.sIx aZ.size 0 lo:Nat):Int)==0&&(1:Int)==1&&(HT.sIx aZ.size aZ.size hi-HT.sIx aZ.size 0 lo)==aZ.size)=true then _ else _) _ _ s;rw[if_pos hyes];unfold Builtin.Tuple.tupleIsExact;refine wB (wB (wpAny_typeOf ht.typeIs (wP ?_)));rw[if_pos (·)]
 first
  |exact wB (vo (wP ⟨_,rfl,wP h⟩))
  |exact wB (vo (wB (wP (wP ⟨_,rfl,wP h⟩))))
  |exact wB (vo (wP ⟨_,rfl,h⟩))
def aWu(K:FrG):V->Option Int->Option Int->Hp->VK->Prop:=λ x lo hi H Q=>∃ a xs,x=.ref a/\cH K H a xs /\
 (((HT.sIx ↑xs 0 lo=0/\HT.sIx ↑xs ↑xs hi=↑xs)/\Q (.ref a) H)\/(¬ (HT.sIx ↑xs 0 lo=0/\HT.sIx ↑xs ↑xs hi=↑xs)/\∀ p,H p=qx->Q (.ref p) (bF H p (.tup (nT xs lo hi)))))
def aSg:SlR X (aWu X.K):=by
 intro aB s σ H x v vl vu lo hi sl Q I rx hs pl pu h;obtain⟨a,xs,rfl,hx,⟨hw,q⟩|⟨hw,q⟩⟩:=h
 ·cases rx;let(aG,r,ht,hz):=I.tuple hx;have cK:aG.toArray.size=↑xs:=by rw[yAi];exact r.length.symm
  refine⟨"tuple",_,PyProof.Rows.slot_tuple_getitem.lookup,ht.typeIs,?_⟩;exact aNS ht hs pl pu (by rw[cK];exact hw) ⟨.ref a,H,I,rfl,q⟩
 ·exact aUU aB s σ H _ v vl vu lo hi sl Q I rx hs pl pu ⟨a,xs,rfl,hx,hw,q⟩
def aMP:D->Option Int->Option Int->Option D
 |.tuple xs,lo,hi=>qz (.tuple (dY xs lo hi))|_,_,_=>qx
def aMx(fa:FE)(fl fh:FO):FE:=λ env S=>(fa env S).bind λ p=>(fl env p.2).bind λ q=>(fh env q.2).bind λ r=>(dr r.2 p.1).bind λ d=>(aMP d q.1 r.1).bind λ z=>qz (.d z,r.2)
def aT3{lo hi:Option qy}{fa:FE}{fl fh:FO}(ha:PE X a (aP X.K fa))(hl:PO X lo (mO X.K fl))(hh:PO X hi (mO X.K fh)):PE X (.Subscript a (.Slice lo hi qx p2) pos) (aP X.K (aMx fa fl fh)):=
 PE.weak (aIB aSg ha hl hh) λ σ H Q aX=>by
  let(F,L,S,env,ds,S',R,E,e,q):=aX;let((w,S1),e1,e):=aI e;let((l,S2),e2,e):=aI e;let((h,S3),e3,e):=aI e;let(d,e4,e):=aI e;let(z,e5,e):=aI e;cases e;refine⟨F,L,S,env,w,S1,R,E,e1,λ F1 L1 H1 v g1 R1 d1=>⟨F1,L1,S1,env,l,S2,R1,E.mono g1,e2,λ F2 L2 H2 g2 R2=>⟨F2,L2,S2,env,h,S3,R2,E.mono (g1.trans g2),e3,λ F3 L3 H3 g3 R3=>?_⟩⟩⟩;have n:=kW R3 (d1.mono (g2.trans g3)) e4;cases d with
  |tuple xs=>
    cases e5;let(a,vs,rfl,sq,dl):=n.tup R3.sub;refine⟨a,vs,rfl,sq,?_⟩;by_cases hw:HT.sIx ↑vs 0 l=0/\HT.sIx ↑vs ↑vs h=↑vs
    ·refine .inl ⟨hw,q F3 L3 H3 _ ((g1.trans g2).trans g3) R3 ?_⟩;have ec:dY xs l h=xs:=by
      unfold dY;rw[dl.length,hw.1,hw.2,yFx,Nat.sub_zero,<- dl.length,yAg]
     rw[ec];rcases n with n|⟨_,_,_,z,_⟩
     ·exact n
     ·cases z
    ·exact .inr ⟨hw,λ p hp=>q _ L3 _ _ (((g1.trans g2).trans g3).trans (Gr.new (R3.sub.free hp))) (R3.new hp) (Den.tup (cH.of cO) ((aIZ dl l h).mono (gD (R3.sub.free hp))))⟩
  |_=>cases e5
def aYh(X:Cx):R2:=λ x y H Q=>∃ a k xs,x=.ref a/\y=.int k/\bX X.K H a xs /\ -(2^63)<=k/\k<2^63/\↑xs*k.toNat<=qk/\∀ p,H p=qx->Q (.ref p) (bF H p (.lst (yAe k.toNat xs).flatten))
def rP(fa fb:FE):FL:=λ env S=>(fa env S).bind λ p=>(fb env p.2).bind λ q=>(dr q.2 p.1).bind λ d=>match d,q.1 with
 |.list xs,.d (.int k)=>if k<2^63 /\ -(2^63)<=k/\↑xs*k.toNat<=qk then qz (yZ k.toNat xs,q.2) else qx
 |_,_=>qx
def aX9{fa fb:FE}(ha:PE X a (aP X.K fa))(hb:PE X b (aP X.K fb)):PE X (.BinOp a .Mult b pos) (jY X.K (rP fa fb)):=by
 refine PE.weak (aL5 (r:=aYh X) (λ aB s σ H x y v u Q I rx ry ⟨a,k,xs,hx,hy,sq,h1,h2,hz,q⟩=>?_) ha hb) λ σ H Q ⟨F,L,S,env,ds,S',R,E,e,q⟩=>?_
 ·subst hx hy;cases rx;let(t,rfl):=ry;exact aNw I sq h1 h2 hz q
 ·let((w1,S1),e1,e):=aI e;let((w2,S2),e2,e):=aI e;let(d,e3,e):=aI e;dsimp only at e e2 e3;refine⟨F,L,S,env,w1,S1,R,E,e1,λ F1 L1 H1 x g1 R1 d1=>⟨F1,L1,S1,env,w2,S2,R1,E.mono g1,e2,λ F2 L2 H2 y g2 R2 d2=>?_⟩⟩;cases d with
  |list xs=>
    cases w2 with
    |loc n=>cases e|exc c r=>cases e|dic n=>cases e|ob fs=>cases e|tpl ws=>cases e
    |d v=>
      cases v with
      |int kk=>
        dsimp only at e;split at e
        ·rename_i c;cases e;let(a,vs,rfl,sq,dl):=(kW R2 (d1.mono g2) e3).lst R2.sub;cases (show Den X.K F2 (.int kk) y from d2);exact⟨a,kk,vs,rfl,rfl,sq,c.2.1,c.1,by rw[<- dl.length];exact c.2.2,λ p hp=>q F2 L2 _ p _ (g1.trans g2) (R2.lay hp) (R2.sub.free hp) (R2.notin hp) cO (dl.rep kk.toNat)⟩
        ·cases e
      |_=>cases e
  |_=>cases e
section
open PySem.SeqAt
open PySem.AutoSeq1 (wpAny_loadPart')
open PySem.MeetsSeq PySem.MeetsSeq2 PySem.MeetsSeq3
def sX:∀ {vs:List qj}{ns:List Int}{i:Nat},IntsAre vs ns->i<↑vs->∃ a t,vs[i]?=qz (.int a t)/\ns.drop i=a::ns.drop (i+1)
 |_,_,i,.nil,h=>absurd h (yDg i)|_,_,0,.cons a t _,_=>⟨a,t,rfl,rfl⟩
 |_,_,i+1,.cons a t r,h=>by
   let(b,u,h1,h2):=sX (i:=i) r (h:);exact⟨b,u,by simpa using h1,by simpa using h2⟩
end
def aNm(f:FL):FL:=λ env S=>(f env S).bind λ p=>if p.1.length<=1000000 then qz p else qx
def vH:1000000<=qk:=by rw[zq];decide
def Itd(hi:Int)(n:Nat):It:=⟨λ i _=>i<n,λ i H x H'=>H'=H/\x=.int (hi-i),λ i _=>n<=i⟩
def aPr(it:qw)(hi:Int)(n:Nat):Turn P w K tg (Itd hi n) [it] it (λ i h=>yw h it (hi+(i:Nat)*(-1)) ((n:Int)-(i:Nat)) (-1)) where
 mem:=by simp
 obj:=λ i h st b hb=>by
  have e:b=it:=(hb:)
  subst e;exact⟨_,st,λ v z=>by
   have z':Data.fields _=Data.cell v:=z;cases z'⟩
 keep:=λ i h h' st k=>k it (by simp) _ st
 item:=by
  intro X hP hw hK hc i aB s σ H E I hf st hg;subst hP hw hK;let(f0,f1,f2,f3,f4,f5):=hf it (by simp);have W:=Walks.range (prog:=X.prog) (w:=X.w) (I.ok.hd hc) it hi (-1) n;refine W.item i s _ _ hg st λ v h' tk hv st' kk=>?_
  let(t,rfl):=hv;have I1:Inv X aB σ H {s with heap:=h',toks:=tk }:=I.turned (λ b o hb e=>kk b o (hb:) e) f0 f1 f3 f4 f5;refine⟨_,rfl,aBB (s:={s with heap:=h',toks:=tk }) (n:="range_iterator") st' rfl rfl (·) ⟨.int (hi-i),H,I1,⟨t,?_⟩,⟨rfl,rfl⟩,st',λ b hb=>(hf b hb).1⟩⟩;congr 1;omega
 done:=by
  intro X hP hw hK hc i aB s σ H E I hf st hg;subst hP hw hK;let(f0,f1,f2,f3,f4,f5):=hf it (by simp);exact wpAny_pyNext_range_end (I.ok.hd hc) st (by have:n<=i:=hg;omega) λ h' eb=>⟨rfl,I.turned (t':=s.toks) (λ b o hb e=>eb b o hb e) f0 f1 f3 f4 f5⟩
 self:=λ _ _ _ _ _ st h=>yj st h
def aGn(a b:Int):yEc a b (-1)=if b<a then a-b else 0:=by unfold yEc;simp only[show ¬ ((-1:Int)>0) by decide,if_false,Int.neg_neg,Int.ediv_one,gt_iff_lt];split<;>omega
def aOF{a b:Int}(ha : -(2^62)<=a)(ha':a<2^62)(hb : -(2^62)<=b)(hb':b<2^62):yHz a b (-1)=true:=by unfold yHz;rw[aGn];simp only[Builtin.Range.rangeFitsLong,yAy,yEm,decide_eq_true_eq,beq_iff_eq,show ¬ ((-1:Int)>0) by decide,if_false];split<;>omega
def aTa{R:It->Hp->Prop}{E:qj->qv->Prop}{hi lo:Int}(I:Inv X aB σ H s)(h1 : -(2^62)<=hi)(h2:hi<2^62)(h3 : -(2^62)<=lo)(h4:lo<2^62)(q:R (Itd hi (hi-lo).toNat) H):qu (model X.prog X.w) X.A (pyIter (.ref s.heap.objs.size)) (PIE X aB σ tg R) E {s with heap:=s.heap.push {cls:=.type "range",data:=.fields #[.int hi t,.int lo u,.int (-1) v] },toks:=tk }:=by
 refine wpAny_pyIter_range (IsRange.new ..) (aOF h1 h2 h3 h4) ?_;have I1:Inv X aB σ H {s with heap:=s.heap.push {cls:=.type "range",data:=.fields #[.int hi t,.int lo u,.int (-1) v] },toks:=tk }:=I.kept λ b o e=>hpS _ e
 refine⟨(s.heap.push {cls:=.type "range",data:=.fields #[.int hi t,.int lo u,.int (-1) v] }).objs.size,[(s.heap.push {cls:=.type "range",data:=.fields #[.int hi t,.int lo u,.int (-1) v] }).objs.size],_,_,H,rfl,
  I1.kept (t':=tk) λ b o e=>hpS _ e,aPr _ hi (hi-lo).toNat,?_,λ b hb=>?_,q⟩
 ·have e1:hi+((0:Nat):Int)*(-1)=hi:=by simp
  have e2:(((hi-lo).toNat:Nat):Int)-((0:Nat):Int)=yEc hi lo (-1):=by rw[aGn];split<;>omega
  show yw _ _ (hi+((0:Nat):Int)*(-1)) ((((hi-lo).toNat:Nat):Int)-((0:Nat):Int)) (-1);rw[e1,e2];exact xAd _ rfl
 ·have e:b=(s.heap.push {cls:=.type "range",data:=.fields #[.int hi t,.int lo u,.int (-1) v] }).objs.size:=(hb:)
  subst e;exact I1.fpOk (yAb _) (I1.hok.fresh (yAb _))
def aLV(ta:TA):TI:=λ σ H R=>ta σ H λ vs H1=>∃ i j:Int,vs=[.int i,.int j,.int (-1)]/\(-(2^62)<=i/\i<2^62 /\ -(2^62)<=j/\j<2^62)/\R (Itd i (i-j).toNat) H1
def aPF{ta:TA}(hg:Gl X "range")(hm:X.mg "range" = qx)(ha:PA X [a,b,c] ta)(hs:qo [a,b,c] X.env=(false,eval a X.env)::qo [b,c] X.env)(hs2:qo [b,c] X.env=[(false,eval b X.env),(false,eval c X.env)]) :
 PI X tg (.Call (.Name "range" p) [a,b,c] [] pos) (aLV ta):=by
 intro aB s σ H R I h;refine Call_ (nE I hg hm boot_range (yBe (bD (ha pos aB s σ H _ I h) λ us s1 hPq50=>?_) hs (by rw[hs2];rfl)));let(vs,H1,I1,r1,q1):=hPq50;let(i,j,e,(q1,q2,q3,q4),q):=q1;subst e;cases r1 with
 |cons r rr=>
   cases rr with
   |cons r' rr=>
     cases rr with
     |cons r'' rr=>
       cases rr;let(t,rfl):=r;let(t',rfl):=r';let(t'',rfl):=r'';exact call_range_3 (·) (aTa I1 q1 q2 q3 q4 q)
def mG(hi:Int):Nat->List D
 |0=>[]|n+1=>.int hi::mG (hi-1) n
def sF:∀ (n:Nat) (hi:Int),(mG hi n).length=n
 |0,_=>rfl|n+1,hi=>by rw[mG,yAl,sF n]
def aC7:∀ (n:Nat) (hi:Int) (i:Nat),i<n->(mG hi n)[i]?=qz (.int (hi-i))
 |0,_,_,h=>by omega|n+1,hi,0,_=>by simp[mG]
 |n+1,hi,i+1,h=>by
   rw[mG,yCx,aC7 n (hi-1) i (!_)];congr 2
   push_cast
   omega
def aS1(hi:Int)(n:Nat):Wk K F L (Itd hi n) (mG hi n) where
 go:=λ i H s hi=>by rw[sF] at hi;exact hi
 stop:=λ H s=>by rw[sF];exact yAb _
 yld:=λ i H F1 L1 S x H' d g R e y=>by
  let(rfl,rfl):=y;have hi:i<n:=by
   have:=(gIm e).1;rw[sF] at this;exact this
  rw[aC7 n _ i hi] at e;cases e;exact⟨F1,bT.refl _,R,.int _⟩
def aBK(fa fb fc:FE):FL:=λ env S=>(fa env S).bind λ p=>(fb env p.2).bind λ q=>(fc env q.2).bind λ r=>match p.1,q.1,r.1 with
 |.d (.int i),.d (.int j),.d (.int k)=>if (-(2^62)<=i/\i<2^62 /\ -(2^62)<=j/\j<2^62)/\k = -1 then qz (mG i (i-j).toNat,r.2) else qx
 |_,_,_=>qx
def aU7{fa fb fc:FE}(σ:L2.St)(H:Hp)(Rr:It->Hp->Prop)(h:jX K (aBK fa fb fc) σ H Rr):aLV (eD K (cT fa (cT fb (cT fc iK)))) σ H Rr:=by
 let(F,L,S,env,ds,S',R,E,e,q):=h;let((w,S1),e1,e2):=aI e;let((w2,S2),e3,e4):=aI e2;let((w3,S3),e5,e6):=aI e4;dsimp only at e6 e3 e5;split at e6
 ·split at e6
  ·rename_i c;let(c,rfl):=c;cases e6;refine⟨F,L,S,env,[.d (.int _),.d (.int _),.d (.int _)],_,R,E,by unfold cT;rw[e1];dsimp only[yCs];rw[e3];dsimp only[yCs];rw[e5];rfl,λ F1 L1 H1 vs g1 R1 d1=>?_⟩;cases d1 with
   |cons dd dr=>
     cases dr with
     |cons dd2 dr=>
       cases dr with
       |cons dd3 dr=>
         cases dr;cases (show Den K F1 (.int _) _ from dd);cases (show Den K F1 (.int _) _ from dd2);cases (show Den K F1 (.int _) _ from dd3);exact⟨_,_,rfl,c,q F1 L1 H1 _ g1 R1 (aS1 _ _)⟩
  ·cases e6
 ·cases e6
def aU4(t:Bool):String:=if t then "tuple_iterator" else "list_iterator"
def fX(t:Bool)(h:Heap)(a:qw)(aG:Array qj):Prop:=match t with|true=>h.IsTuple a aG|false=>h.IsList a aG
def mW(t:Bool)(h:Heap)(it a:qw)(i:Nat):Prop:=match t with|true=>h.IsTupleIter it a i|false=>h.IsListIter it a i
def Sq(t:Bool)(K:FrG)(H:Hp)(a:qw)(xs:List V):Prop:=match t with|true=>cH K H a xs|false=>bX K H a xs
def mW.at{h':Heap}(x:mW t h it a i)(q:∀ o,h.get? it=qz o->h'.get? it=qz o):mW t h' it a i:=by
 cases t with
 |true=>exact Heap.IsTupleIter.at (h:=h) x q|false=>exact Heap.IsListIter.at (h:=h) x q
def mW.obj(x:mW t h it a i):∃ o,h.get? it=qz o/\∀ v,o.data≠.cell v:=by
 cases t with
 |true=>let(o,ho,hc,hd):=x;exact⟨o,ho,λ v z=>by rw[hd] at z;cases z⟩
 |false=>let(o,ho,hc,hd):=x;exact⟨o,ho,λ v z=>by rw[hd] at z;cases z⟩
def fX.lt(x:fX t h a aG):a<h.objs.size:=by
 cases t with
 |true=>let(o,ho,_):=x;exact xAa ho
 |false=>let(o,ho,_):=x;exact xAa ho
def aQ5{A:zv}(hh:A.handled=qx)(t:Bool)(it l:qw)(hne:l≠it)(aZ:Array qj):Draws prog w A it [it,l] aZ.size (λ i v=>aZ[i]?=qz v) (λ i h=>mW t h it l i/\fX t h l aZ):=by
 cases t with
 |true=>exact aPH hh it l hne aZ|false=>exact Draws.list hh it l hne aZ
def aMa{xs:List V}(I:Inv X aB σ H s)(h:Sq t X.K H a xs):∃ aG:List qj,bA xs aG/\fX t s.heap a aG.toArray:=by
 cases t with
 |true=>let(aG,rv,pl,hz):=I.tuple h;exact⟨aG,rv,pl⟩
 |false=>let(aG,rv,pl,hz):=I.list h;exact⟨aG,rv,pl.isList⟩
def aKs{xs:List V}(I:Inv X aB σ H s)(h:Sq t X.K H a xs)(h':Sq t X.K H a ys):xs=ys:=by
 cases t with
 |true=>exact I.tuple_inj h h'|false=>exact I.list_inj h h'
def aDI{xs:List V}(e:bT H H')(h:Sq t K H a xs):Sq t K H' a xs:=by
 cases t with
 |true=>exact nG e h|false=>exact e.seq h
def aO6{aB:List (qw×Obj)}{σ:L2.St}{H:Hp}{s:qv}{h':Heap}{ch:List qw}{t':Nat}(I:Inv X aB σ H s)(hch:∀ b∈ch,gL X aB H b)(k:∀ b u,b ∉ ch->s.heap.get? b=qz u->h'.get? b=qz u) :
 Inv X aB σ H {s with heap:=h',toks:=t' }:=by
 have nch:∀ b u,H b=qz u->b ∉ ch:=λ b u e z=>by rw[(hch b z).1] at e;cases e
 refine I.step (g':=s.gens) (d':=s.drawn) (ch:=ch) (λ b hb=>⟨(hch b hb).2.2.2.1,(hch b hb).2.1,(hch b hb).2.2.2.2.1,(hch b hb).2.2.2.2.2⟩) (λ b o _ _ hc e _=>k b o hc e) (λ b o _ _ hc e _=>⟨o.slots,k b o hc e⟩) (λ _ _ _ _ n=>n)
  (λ b o hc e=>⟨o,k b o hc e⟩) (λ _ _ e=>e) (λ _ _ _ e=>e) (λ b ps e=>⟨#[],by rw[e];simp⟩) (λ m hm=>?_) (λ b u e=>?_) I.bare
 ·let(o,es,ep,ho,r):=hm;exact⟨o,es,ep,k _ o (λ z=>(hch _ z).2.1 rfl) ho,r⟩
 ·refine(I.hok b u e).stay (λ c v hc q=>k c v ?_ q) (λ _ q=>q) λ _ _ q=>q
  rcases hc with z|z
  ·rw[z];exact nch b u e
  ·exact nch c _ z
def aPs{E:qj -> qv -> Prop}{s:qv}{Q:qj->qv->Prop}(hl:fX t s.heap l aZ)(h:Q (.ref s.heap.objs.size) {s with heap:=s.heap.push {cls:=.type (aU4 t),data:=.fields #[.ref l,.int 0 0] } }):qu (model prog w) A (pyIter (.ref l)) Q E s:=by
 cases t with
 |true=>exact wpAny_pyIter_tuple hl h|false=>exact wz hl h
abbrev aKX(h:Heap)(z TI TO a:qw)(f:Bool):Prop:=
 h.get? z=qz {cls:=.type "zip",dict:=qx,data:=.fields #[yq a,.bool f,.bool false,.ref TI,.ref TO],slots:=#[] }
def aPa{E:qj -> qv -> Prop}{s:qv}{Q:Option Obj->qv->Prop}(h:Q (s.heap.get? a) s):qu (model prog w) A (loadIfAlive a) Q E s:=λ _ _ _=>h
def aOA{E:qj -> qv -> Prop}{s:qv}{TI TO:qw}{Q:Bool->qv->Prop}(hz:aKX s.heap z TI TO a f)(ha:∃ o,s.heap.get? a=qz o)(hQ:∀ h',aKX h' z TI TO a true->yCz z s.heap h'->Q false {s with heap:=h' }):qu (model prog w) A (yDh (.ref z)) Q E s:=by
 unfold yDh;refine wB (xq hz rfl (x:=yq a) rfl ?_);let(o,ho):=ha;have hn:((s.heap.get? ((a:Int)).toNat).isNone)=false:=by
  rw[yAs,ho];rfl
 show qu _ _ (loadIfAlive ((a:Int)).toNat >>= _) _ _ _;refine wB (aPa ?_);rw[hn];simp only[yAt,if_false];cases f with
 |true=>
   refine wB (xq hz rfl (x:=.bool true) rfl ?_);rw[if_neg (·)];exact wP (hQ s.heap hz (Heap.SameBut.refl _ _))
 |false=>
   refine wB (xq hz rfl (x:=.bool false) rfl ?_);rw[if_pos (·)];exact wB (jj hz (by simp) λ h₁ hz₁ hs₁=>wP (hQ h₁ hz₁ hs₁))
abbrev Tp(h:Heap)(a:qw)(xs:List qj):Prop:=h.get? a=qz {cls:=.type "tuple",data:=.seq xs.toArray }
abbrev Zo(h:Heap)(e:qw)(f:qj)(g:Bool):Prop:=h.get? (e+2)=qz {cls:=.type "zip",data:=.fields #[f,.bool g,.bool false,.ref e,.ref (e+1)] }
abbrev Zq:=List (Bool×qw)
structure ZT(n:Nat)(qs:Zq)(k j:Nat)(h:Heap):Prop where
 it:∀ (i:Nat) q,qs[i]?=qz q->mW q.1 h (n+i) q.2 (if i<j then k+1 else k)
 ti:Tp h (n+↑qs) ((yCk n ↑qs).map .ref)
def nn(h:a≠b):(n+a:Nat)≠n+b:=λ e=>h (Nat.add_left_cancel e)
def na{a b:Nat}(h:a≠b):a≠b:=h
def mR{α:Type}{l:List α}{q:α}(h:l[i]?=qz q):i<↑l:=(gIm h).1
def ZT.keep{h':Heap}(T:ZT n qs k j h)(r:∀ c o,n<=c->c<=n+↑qs->h.get? c=qz o->h'.get? c=qz o):ZT n qs k j h':=
 ⟨λ i q e=>(T.it i q e).at λ o x=>r _ o (yGd ..) (yFc (yDz (mR e)) _) x,r _ _ (yGd ..) (yAb _) T.ti⟩
def ZT.all(T:ZT n qs k j h)(hj:↑qs<=j):ZT n qs (k+1) 0 h:=⟨λ i q e=>by have x:=T.it i q e;rw[if_pos (xAb (mR e) hj)] at x;rw[if_neg (yDg _)];exact x,T.ti⟩
def aFu{os:List qj}(T:ZT n qs k j h)(hO:Tp h (n+↑qs+1) os)(hz:Zo h (n+↑qs) f g)(c:Nat)(h1:n<=c)(h2:c<=n+↑qs+2):∃ o,h.get? c=qz o/\∀ v,o.data≠.cell v:=by
 by_cases h3:c<n+↑qs
 ·have e:=yAa (l:=qs) (show c-n<↑qs by omega);have:=(T.it _ _ e).obj;rwa [show n+(c-n)=c by omega] at this
 have:c=n+↑qs\/c=n+↑qs+1\/c=n+↑qs+2:=by omega
 rcases this with rfl|rfl|rfl
 ·exact⟨_,T.ti,λ v z=>by cases z⟩
 ·exact⟨_,hO,λ v z=>by cases z⟩
 ·exact⟨_,hz,λ v z=>by cases z⟩
def Ys(qs:Zq)(vs:Nat->List qj)(k j:Nat)(ys:List qj):Prop:=∀ i:Nat,i<↑qs->i<j->(vs i)[k]?=ys[i]?
def aY2(h:Heap)(e:qw):Prop:=∃ o,h.get? e=qz o/\o.cls=.type "StopIteration"
structure ZL(n:Nat)(qs:Zq)(k:Nat)(h0:Heap)(j:Nat)(h:Heap):Prop where
 t:ZT n qs k j h
 sz:h.objs.size=h0.objs.size
 fr:∀ c o,c<n\/n+↑qs+2<c->h0.get? c=qz o->h.get? c=qz o
def fX.at{h':Heap}(x:fX t h a aG)(f:∀ o,h.get? a=qz o->h'.get? a=qz o):fX t h' a aG:=by
 cases t with
 |true=>let(o,ho,r):=x;exact⟨o,f _ ho,r⟩
 |false=>let(o,ho,r):=x;exact⟨o,f _ ho,r⟩
def ZL.same(L:ZL n qs k h0 j h)(x:c=n+↑qs+1\/c=n+↑qs+2)(hs:yCz c h h'):ZL n qs k h0 j h':=
 ⟨L.t.keep λ b o _ hb e=>hs.extBut _ _ (λ(z:b=c)=>by subst z;rcases x with rfl|rfl<;>omega) e,hs.1.trans L.sz,λ b o hb e=>hs.extBut _ _ (λ(z:b=c)=>by subst z;rcases x with rfl|rfl<;>omega) (L.fr b o hb e)⟩
def aMF{A:zv}{E:qj -> qv -> Prop}{s:qv}{Q:qj->qv->Prop}{us:List qj}(hh:A.handled=qx)(hq:qs[j]?=qz q)(L:ZL n qs k h0 j s.heap)(sq:fX q.1 h0 q.2 us.toArray/\q.2<n/\k<=↑us)(hQ:∀ x h' tk,us[k]?=qz x->ZL n qs k h0 (j+1) h'->yCz (n+j) s.heap h'->Q x {s with heap:=h',toks:=tk })(hE:∀ h' e,k=↑us->Heap.ExtBut (n+j) s.heap h'->aY2 h' e->E (.ref e) {s with heap:=h' }):qu (model prog w) A (yBq (.ref (n+j))) Q E s:=by
 let(sq,lt,hk):=sq;replace sq:fX q.1 s.heap q.2 us.toArray:=fX.at sq λ o e=>L.fr _ o (.inl lt) e
 have D:=@aQ5 prog w _ hh q.1 (n+j) q.2 (xAj (xAb lt (yGd ..))) us.toArray;have t:=L.t.it j q hq;rw[if_neg (yCv _)] at t;have jl:=mR hq;have ze:us.toArray.size=↑us:=yAi ..;by_cases e:k<↑us
 ·refine D.item k _ _ _ (ze▸e) ⟨t,sq⟩ λ x h' tk px st hs=>hQ x h' tk (List.getElem?_toArray▸px) ⟨⟨λ i q' hi=>?_,hs.extBut _ _ (nn (yGt jl)) L.t.ti⟩,hs.1.trans L.sz,λ c o hc e=>hs.extBut _ _ (λ(z:c=n+j)=>by subst z;omega) (L.fr c o hc e)⟩ hs
  by_cases c:i=j
  ·subst c;rw[hq] at hi;cases hi;rw[if_pos (yEw _)];exact st.1
  ·have x:=(L.t.it i q' hi).at λ o x=>hs.extBut _ _ (nn c) x
   rwa [ite_cond_congr (propext (⟨λ z=>by omega,λ z=>by omega⟩:i<j ↔ i<j+1))] at x
 ·have:us.toArray.size=k:=by omega
  exact D.done _ _ _ (this▸⟨t,sq⟩) λ h' e hs he=>hE h' e (!_) hs he
structure ZH(n:Nat)(qs:Zq)(k:Nat)(h:Heap):Prop where
 t:ZT n qs k 0 h
 to:∃ os,↑os=↑qs/\Tp h (n+↑qs+1) os
 z:∃ f g,Zo h (n+↑qs) f g/\(f=.none/\g=false\/∃ a:Nat,f=yq a/\∃ o,h.get? a=qz o)
def aES{α:Type}{l cC:List α}{x:α}(h:x::cC=l.drop j):l[j]?=qz x/\cC=l.drop (j+1):=by
 have e:l[j]?=qz x:=by rw[<- List.head?_drop,<- h];rfl
 refine⟨e,?_⟩;rw[<- List.tail_drop,<- h];rfl
def aMq{A:zv}{E:qj -> qv -> Prop}{s:qv}{qs:Zq}{vs:Nat -> List qj}{Q:Option qj->qv->Prop}(hh:A.in1.handled=qx)(h0:0<↑qs)(h3:↑qs<=3)(Z:ZH n qs k s.heap)(sq:∀ i q,qs[i]?=qz q->fX q.1 s.heap q.2 (vs i).toArray/\q.2<n/\k<=(vs i).length)(hQ:∀ h' tk ys,↑ys=↑qs->Ys qs vs k ↑qs ys->ZH n qs (k+1) h'->Tp h' s.heap.objs.size ys->(∀ c o,c<n\/n+↑qs+2<c->s.heap.get? c=qz o->h'.get? c=qz o) ->
   (Zo s.heap (n+↑qs) .none false->Zo h' (n+↑qs) (yq s.heap.objs.size) false)->Q (qz (.ref s.heap.objs.size)) {s with heap:=h',toks:=tk })(hE:∀ h' tk i,i<↑qs->k=(vs i).length->(∀ c o,c<n\/n+↑qs+2<c->s.heap.get? c=qz o->h'.get? c=qz o)->Q qx {s with heap:=h',toks:=tk }) :
 qu (model prog w) A (yz (.ref (n+↑qs+2))) Q E s:=by
 let(f,g,hz,hf):=Z.z;let(os,ol,kP):=Z.to;have hT:s.TypeIs (.ref (n+↑qs+2)) "zip":=⟨_,hz,rfl⟩;have hk3:∀ l:List qj,↑l=↑qs->↑l<=qk:=λ l e=>xAh (show ↑l<=1000000 by omega) vH
 have gr:∀ j,j<↑qs->((yCk n ↑qs).map Value.ref)[j]?=qz (.ref (n+j)):=λ j h=>by simp[h]
 unfold yz;refine wB (wpAny_attempt (wpAny_callSpecial?_slot (name:=Str.ofString "__next__") hT F.slot_zip_next (jo F.slot_zip_next hT F.entry_zip_next ?_ (F.args_zip_next_1 _))));show qu _ _ (field (.ref (n+↑qs+2)) 2 >>= _) _ _ _;refine wB (xq hz rfl (x:=.bool false) rfl ?_);show qu _ _ (field (.ref (n+↑qs+2)) 3 >>= _) _ _ _;refine wB (xq hz rfl (x:=.ref (n+↑qs)) rfl ?_);refine wB (jk Z.t.ti rfl ?_);have hi:(((yCk n ↑qs).map Value.ref).toArray.isEmpty)=false:=by
  cases e:↑qs with
  |zero=>omega|succ m=>rfl
 dsimp only;rw[hi];simp only[yAt,if_false];rcases hf with ⟨rfl,rfl⟩|⟨a,rfl,o,ho⟩
 ·refine wB ?_;unfold yDh;refine wB (xq hz rfl (x:=.none) rfl (wP ?_));simp only[if_true];refine wB (vo ?_);refine wB (xq hz rfl (x:=.ref (n+↑qs+1)) rfl ?_);refine wB (jj hz (by simp) λ h₁ hz₁ hs₁=>?_);refine wB (wpAny_forIn_list _ (λ cC b s'=>∃ j os h tk,cC=((yCk n ↑qs).map Value.ref).zipIdx.drop j/\b=(qx,())/\s'={s with heap:=h,toks:=tk }/\ZL n qs k s.heap j h/\↑os=↑qs/\Tp h (n+↑qs+1) os/\Ys qs vs k j os/\Zo h (n+↑qs) .ellipsis false) _ ?_ ?_ _ _ ?_)
  ·rintro x cC b s' ⟨j,os,h,tk,e1,e2,e3,L,e4,kP,hy,hz⟩;subst e2 e3;let(e5,e6):=aES e1;have jl:j<↑qs:=by have:=mR e5;simpa using this
   have:x=(.ref (n+j),j):=by
    rw[List.getElem?_zipIdx,gr j jl] at e5;simpa using e5.symm
   subst this;refine wB (wpAny_onRaise ?_);show qu _ _ (yBq (.ref (n+j)) >>= _) _ _ _;refine wB (aMF hh (yAa jl) L (sq j _ (yAa jl)) (λ x h2 tk2 hx L2 hs2=>wP ?_) λ h2 e ek hs2 he=>?_)
   ·have hTO2:Tp h2 (n+↑qs+1) os:=hs2.extBut _ _ (na (!_)) kP;refine wB (jk hTO2 rfl (wB (vz hTO2 rfl (wB (wpAny_letGo (wP ?_))))));have hs3:=Heap.SameBut.update h2 (n+↑qs+1) (Obj.mapSeq (·.setIfInBounds j x));refine⟨j+1,os.set j x,_,tk2,e6,rfl,rfl,L2.same (.inl rfl) hs3,by simp[e4],?_,λ i hi hj=>?_,hs3.extBut _ _ (na (!_)) (hs2.extBut _ _ (na (!_)) hz)⟩
    ·show Heap.get? _ _=_;rw[yCn _ hTO2 rfl];simp[Obj.mapSeq]
    ·by_cases c:i=j
     ·subst c;rw[hx];simp[e4,jl]
     ·rw[hy i hi (!_),yAq (Ne.symm c)]
   ·have hz2:Zo h2 (n+↑qs) .ellipsis false:=hs2 _ _ (na (!_)) hz;let(oe,ho,hc):=he;have hez:e≠n+↑qs+2:=λ x=>by subst x;rw[hz2] at ho;cases ho;simp at hc
    refine jj hz2 (by simp) λ h3 _ hs3=>?_
    exact wB (wpAny_isInstance (T:="StopIteration") (b:=true) ⟨oe,hs3.extBut _ _ hez ho,hc⟩ isSubtype_stop (wP (hE _ _ j jl ek λ c o hc e=>hs3.extBut _ _ (λ z:c=_=>by subst z;omega) (hs2 _ _ (λ z:c=_=>by subst z;omega) (L.fr c o hc e)))))
  ·rintro b s' ⟨j,os,h,tk,e1,e2,e3,L,e4,kP,hy,hz⟩;subst e2 e3;have jl:↑qs<=j:=by have:=congrArg yFb e1;simp at this;omega
   refine wB (jk kP rfl (wB (wpAny_newTuple ?_ (hk3 _ e4))));have hz6:Zo (h.push {cls:=.type "tuple",data:=.seq os.toArray }) (n+↑qs) .ellipsis false:=hpS _ hz;have zl:n+↑qs+2<h.objs.size:=xAa hz;show qu _ _ (yEv (.ref (n+↑qs+2)) (.ref h.objs.size) >>= _) _ _ _;unfold yEv;refine wB (wB (jj hz6 (by simp) λ h7 hz7 hs7=>jj hz7 (by simp) λ h8 hz8 hs8=>?_));have up:∀ c o,c≠n+↑qs+2->(h.push {cls:=.type "tuple",data:=.seq os.toArray }).get? c=qz o->h8.get? c=qz o:=λ c o c1 e=>hs8.extBut _ _ c1 (hs7.extBut _ _ c1 e)
   have hz9:Zo h8 (n+↑qs) (yq h.objs.size) false:=hz8;have hT8:Tp h8 h.objs.size os:=up _ _ (yGt zl) (xAd _ rfl);refine wP ⟨_,rfl,?_⟩;show qu _ _ (pure (qz (Value.ref h.objs.size))) _ _ _;rw[L.sz] at hz9 hT8 ⊢;exact wP (hQ h8 _ os e4 (λ i hi _=>hy i hi (!_)) ⟨(L.t.all jl).keep λ c o _ hc e=>up c o (na (!_)) (hpS _ e),⟨os,e4,up _ _ (na (!_)) (hpS _ kP)⟩,_,_,hz9,.inr ⟨_,rfl,_,hT8⟩⟩ hT8 (λ c o hc e=>up c o (na (!_)) (hpS _ (L.fr c o hc e))) λ _=>hz9)
  ·exact⟨0,os,h₁,_,rfl,rfl,rfl,(ZL.mk Z.t rfl λ _ _ _ e=>e).same (.inr rfl) hs₁,ol,hs₁.extBut _ _ (na (!_)) kP,λ i _ z=>absurd z (yDg _),hz₁⟩
 ·have hz0:=hz;refine wB (aOA (z:=n+↑qs+2) hz ⟨o,ho⟩ λ h₁ hz₁ hs₁=>?_);simp only[yAt,if_false];rw[<- Array.forIn_toList];refine wB (wpAny_forIn_list _ (λ cC b s'=>∃ j ys h tk,cC=((yCk n ↑qs).map Value.ref).drop j/\b=(qx,ys.toArray)/\s'={s with heap:=h,toks:=tk }/\ZL n qs k s.heap j h/\↑ys=min j ↑qs/\Ys qs vs k j ys/\Zo h (n+↑qs) (yq a) true/\Tp h (n+↑qs+1) os) _ ?_ ?_ _ _ ?_)
  ·rintro x cC b s' ⟨j,ys,h,tk,e1,e2,e3,L,e4,hy,hz,kP⟩;subst e2 e3;let(e5,e6):=aES e1;have jl:j<↑qs:=by have:=mR e5;simpa using this
   rw[gr j jl] at e5;cases e5;refine wB (zu ?_);show qu _ _ (yBq (.ref (n+j)) >>= _) _ _ _;refine wB (aMF hh (yAa jl) L (sq j _ (yAa jl)) (λ x h2 tk2 hx L2 hs2=>wP (wP ?_)) λ h2 e ek hs2 he=>?_)
   ·refine⟨j+1,ys++[x],h2,tk2,e6,by simp,rfl,L2,by simp;omega,λ i hi hj=>?_,hs2.extBut _ _ (na (!_)) hz,hs2.extBut _ _ (na (!_)) kP⟩;by_cases c:i=j
    ·subst c;rw[hx,yAf (!_),show i-↑ys=0 by omega];rfl
    ·rw[hy i hi (!_),xAm (!_)]
   ·let(oe,ho,hc):=he;exact wB (wpAny_isInstance (T:="StopIteration") (b:=true) ⟨oe,ho,hc⟩ isSubtype_stop (wP (hE _ _ j jl ek λ c o hc e=>hs2 _ _ (λ z:c=_=>by subst z;omega) (L.fr c o hc e))))
  ·rintro b s' ⟨j,ys,h,tk,e1,e2,e3,L,e4,hy,hz,kP⟩;subst e2 e3;have jl:↑qs<=j:=by have:=congrArg yFb e1;simp at this;omega
   have e4:↑ys=↑qs:=by omega
   refine wB (wpAny_newTuple ?_ (hk3 _ e4));refine wP ⟨_,rfl,?_⟩;show qu _ _ (pure (qz (Value.ref h.objs.size))) _ _ _;have hT:Tp (h.push {cls:=.type "tuple",data:=.seq ys.toArray }) h.objs.size ys:=xAd _ rfl;rw[L.sz] at hT ⊢;refine wP (hQ _ _ ys e4 (λ i hi _=>hy i hi (!_)) ⟨(L.t.all jl).keep λ c o _ hc e=>hpS _ e,⟨os,ol,hpS _ kP⟩,_,_,hpS _ hz,.inr ⟨_,rfl,?_⟩⟩ hT (λ c o hc e=>hpS _ (L.fr c o hc e)) λ z=>?_)
   ·by_cases c:n<=a/\a<=n+↑qs+2
    ·let(o,e,_):=aFu L.t kP hz a c.1 c.2;exact⟨o,hpS _ e⟩
    ·exact⟨o,hpS _ (L.fr a o (!_) ho)⟩
   ·have:=hz0.symm.trans z;simp[yq] at this
  ·exact⟨0,[],h₁,_,rfl,rfl,rfl,(ZL.mk Z.t rfl λ _ _ _ e=>e).same (.inr rfl) hs₁,by simp,λ i _ z=>absurd z (yDg _),hz₁,hs₁.extBut _ _ (na (!_)) kP⟩
def aFs{n:Nat}{qs:Zq}{k:Nat}{aB:List (qw×Obj)}{σ:L2.St}{H:Hp}{s:qv}(I:Inv X aB σ H s)(hl:∀ q∈qs,q.2<n)(h:∀ q∈qs,∃ xs,Sq q.1 X.K H q.2 xs/\k<=↑xs) :
 ∃ vs:Nat->List qj,(∀ i q,qs[i]?=qz q->fX q.1 s.heap q.2 (vs i).toArray/\q.2<n/\k<=(vs i).length)/\∀ (i:Nat) q xs,qs[i]?=qz q->Sq q.1 X.K H q.2 xs->bA xs (vs i):=by
 have:∀ i:Nat,∃ us:List qj,∀ q,qs[i]?=qz q->(fX q.1 s.heap q.2 us.toArray/\q.2<n/\k<=↑us)/\∀ xs,Sq q.1 X.K H q.2 xs->bA xs us:=λ i=>by
  cases e:qs[i]? with
  |none=>exact⟨[],λ q z=>nomatch z⟩
  |some q=>
    have m:=xAk e;let(xs,sq,hk):=h q m;let(us,rv,pl):=aMa I sq;refine⟨us,λ q' z=>?_⟩;cases z;exact⟨⟨pl,hl q m,rv.length▸hk⟩,λ zs hz=>aKs I sq hz▸rv⟩
 let(vs,hv):=Classical.axiomOfChoice this;exact⟨vs,λ i q e=>(hv i q e).1,λ i q xs e=>(hv i q e).2 xs⟩
def aI8:∀ {us:List qj}{P:Nat->V->Prop},(∀ (j:Nat) u,us[j]?=qz u->∃ x,P j x/\aU x u)->∃ xs:List V,bA xs us/\∀ (j:Nat) x,xs[j]?=qz x->P j x
 |[],_,_=>⟨[],.nil,λ _ _ z=>by simp at z⟩
 |u::us,P,h=>by
   let(x,p,r):=h 0 u rfl;let(xs,v,q):=aI8 (P:=λ j=>P (j+1)) λ j u e=>h (j+1) u e
   refine⟨x::xs,.cons r v,λ j y e=>?_⟩;cases j with
   |zero=>cases e;exact p|succ j=>exact q j y e
def yN(K:FrG)(qs:Zq):It:=
 ⟨λ i H=>∀ q∈qs,∃ xs,Sq q.1 K H q.2 xs/\i<↑xs,
  λ i H v H'=>∃ p ys,H p=qx/\H'=bF H p (.tup ys)/\v=.ref p/\↑ys=↑qs/\∀ (j:Nat) q xs,qs[j]?=qz q->Sq q.1 K H q.2 xs->xs[i]?=ys[j]?,
  λ i H=>(∀ q∈qs,∃ xs,Sq q.1 K H q.2 xs/\i<=↑xs)/\∃ q∈qs,∃ xs,Sq q.1 K H q.2 xs/\i=↑xs⟩
section
variable {n:Nat}{qs:Zq}{k:Nat}{X:Cx}{aB:List (qw×Obj)}{σ:L2.St}{H:Hp}{s:qv}{A:zv}{E:qj->qv->Prop}
def aLH{Q:Option qj->qv->Prop}(hh:A.in1.handled=qx)(h0:0<↑qs)(h3:↑qs<=3)(hl:∀ q∈qs,q.2<n)(I:Inv X aB σ H s)(Z:ZH n qs k s.heap)(h:∀ q∈qs,∃ xs,Sq q.1 X.K H q.2 xs/\k<↑xs)(hQ:∀ h' tk us ys,bA ys us->↑ys=↑qs->(∀ (j:Nat) q xs,qs[j]?=qz q->Sq q.1 X.K H q.2 xs->xs[k]?=ys[j]?)->ZH n qs (k+1) h'->Tp h' s.heap.objs.size us->(∀ c o,c<n\/n+↑qs+2<c->s.heap.get? c=qz o->h'.get? c=qz o) ->
   (Zo s.heap (n+↑qs) .none false->Zo h' (n+↑qs) (yq s.heap.objs.size) false)->Q (qz (.ref s.heap.objs.size)) {s with heap:=h',toks:=tk }) :
 qu (model X.prog X.w) A (yz (.ref (n+↑qs+2))) Q E s:=by
 let(vs,v1,v2):=aFs I hl λ q m=>(h q m).imp λ xs a=>⟨a.1,yDz a.2⟩
 refine aMq hh h0 h3 Z v1 (λ h' tk us ul hy Z' hT fr hz=>?_) λ h' tk i il ek _=>?_
 ·let(ys,rv,hys):=@aI8 us (λ j x=>∀ q xs,qs[j]?=qz q->Sq q.1 X.K H q.2 xs->xs[k]?=qz x) λ j u e=>by
   have jl:j<↑qs:=ul▸mR e;have eq:=yAa jl;let(xs,sq,kl):=h _ (xAk eq);let(u',e1,r):=(v2 j _ xs eq sq).get (yAa kl);rw[hy j jl jl,e] at e1;cases e1;refine⟨_,λ q zs eq' sz=>?_,r⟩;rw[eq] at eq';cases eq';rw[aKs I sz sq,yAa kl]
  refine hQ h' tk us ys rv (rv.length.trans ul) (λ j q xs e sq=>?_) Z' hT fr hz;have jl:j<↑ys:=by rw[rv.length,ul];exact mR e
  rw[yAa jl,hys j _ (yAa jl) q xs e sq]
 ·have eq:=yAa il;let(xs,sq,kl):=h _ (xAk eq);have:=(v2 i _ xs eq sq).length;omega
def aMs{Q:Option qj->qv->Prop}(hh:A.in1.handled=qx)(h0:0<↑qs)(h3:↑qs<=3)(hl:∀ q∈qs,q.2<n)(I:Inv X aB σ H s)(Z:ZH n qs k s.heap)(hf:∀ b∈yCk n (↑qs+3),gL X aB H b)(h:(yN X.K qs).stop k H)(hQ:∀ h' tk,Inv X aB σ H {s with heap:=h',toks:=tk }->Q qx {s with heap:=h',toks:=tk }):qu (model X.prog X.w) A (yz (.ref (n+↑qs+2))) Q E s:=by
 let(h1,q,m,xs,sq,e):=h;let(vs,v1,v2):=aFs I hl h1;refine aMq hh h0 h3 Z v1 (λ h' tk us ul hy _ _ _ _=>?_) λ h' tk i il ek fr=>hQ _ _ (aO6 I hf λ c o hb e'=>fr c o ?_ e')
 ·let(j,jl,eq):=yGl m;have e1:=hy j jl jl;rw[yCp (by rw[<- (v2 j q xs (List.getElem?_eq_some_iff.mpr ⟨jl,eq⟩) sq).length,e];exact yAb _),yAa (ul▸jl)] at e1;cases e1
 ·rw[yHj] at hb;omega
end
def aQQ(n:Nat)(qs:Zq)(h0:0<↑qs)(h3:↑qs<=3)(hl:∀ q∈qs,q.2<n) :
 Turn P w K (.Tuple elts k pos) (yN K qs) (yCk n (↑qs+3)) (n+↑qs+2) (λ i h=>ZH n qs i h/\Zo h (n+↑qs) .none false) where
 mem:=List.mem_range'_1.mpr (!_)
 obj:=λ i h aX b hb=>by
  let(Z,hz):=aX;let(os,_,hO):=Z.to;have:=List.mem_range'_1.mp hb;exact aFu Z.t hO hz b this.1 (!_)
 keep:=λ i h h' aX q=>by
  let(Z,hz):=aX;have q':∀ c o,n<=c->c<=n+↑qs+2->h.get? c=qz o->h'.get? c=qz o:=λ c o a b e=>q c (List.mem_range'_1.mpr (!_)) o e
  let(os,ol,hO):=Z.to;have hz':Zo h' (n+↑qs) .none false:=q' _ _ (!_) (!_) hz;exact⟨⟨Z.t.keep λ c o a b=>q' c o a (!_),⟨os,ol,q' _ _ (!_) (!_) hO⟩,_,_,hz',.inl ⟨rfl,rfl⟩⟩,hz'⟩
 item:=λ X hP hW hK hc i aB s σ H E I hf aX hg=>by
  let(Z,hz):=aX;subst hP hW hK;refine aLH (I.ok.hd hc) h0 h3 hl I Z hg λ h' tk us ys rv yl hy Z' hT fr hzo=>⟨_,rfl,wpAny_letOwnedTupleGo_zip (hzo hz) λ h₂ hz₂ hs₂=>?_⟩
  replace hs₂:yCz (n+↑qs+2) h' h₂:=hs₂;have zl:n+↑qs+2<s.heap.objs.size:=xAa hz;let(os,ol,hO):=Z'.to;refine⟨.ref s.heap.objs.size,_,@aHf _ _ _ _ s h₂ _ s.heap.objs.size (.tup ys) tk I hf (λ c o hb e'=>?_) (yAb _) ⟨xAh (show ↑ys<=1000000 by omega) vH,us,rv,⟨_,hs₂.extBut _ _ (yGt zl) hT,rfl,0,rfl⟩⟩,rfl,⟨s.heap.objs.size,ys,I.fresh,rfl,rfl,yl,hy⟩,⟨⟨Z'.t.keep λ c o _ b=>hs₂.extBut c o (na (!_)),⟨os,ol,hs₂.extBut _ _ (na (!_)) hO⟩,_,_,hz₂,.inl ⟨rfl,rfl⟩⟩,hz₂⟩,λ c hb=>?_⟩
  ·rw[yHj] at hb;exact hs₂.extBut c o (na (!_)) (fr c o (!_) e')
  ·have:=List.mem_range'_1.mp hb;rw[bO (na (!_))];exact(hf c hb).1
 done:=λ X hP hW hK hc i aB s σ H E I hf aX hs=>by
  let(Z,hz):=aX;subst hP hW hK;exact aMs (I.ok.hd hc) h0 h3 hl I Z hf hs λ h' tk I'=>⟨rfl,I'⟩
 self:=λ A i s Q E h hq=>wu h.2 hq
noncomputable abbrev Zr(qs:Zq):List qj:=qs.map λ q=>.ref q.2
def aOD{E:qj -> qv -> Prop}{s:qv}{vs:Nat -> List qj}{Q:List qj->qv->Prop}(sq:∀ i q,qs[i]?=qz q->fX q.1 s.heap q.2 (vs i).toArray)(h:∀ h',h'.objs.size=s.heap.objs.size+↑qs->(∀ (i:Nat) q,qs[i]?=qz q->mW q.1 h' (s.heap.objs.size+i) q.2 0)->(∀ c o,s.heap.get? c=qz o->h'.get? c=qz o)->Q ((yCk s.heap.objs.size ↑qs).map .ref) {s with heap:=h' }) :
 qu (model prog w) A (yGs (Zr qs)) Q E s:=by
 unfold yGs;refine wB (wpAny_forIn_list _ (λ cC b s'=>∃ j h,j<=↑qs/\cC=(Zr qs).drop j/\b=((yCk s.heap.objs.size j).map Value.ref).toArray/\s'={s with heap:=h }/\h.objs.size=s.heap.objs.size+j/\(∀ (i:Nat) q,qs[i]?=qz q->i<j->mW q.1 h (s.heap.objs.size+i) q.2 0)/\∀ c o,s.heap.get? c=qz o->h.get? c=qz o) _ ?_ ?_ _ _ ?_)
 ·rintro x cC b s' ⟨j,h,jl,e1,e2,e3,e4,hi,k⟩;subst e2 e3;let(e5,e6):=aES e1;rw[yAd] at e5;cases eq:qs[j]? with
  |none=>rw[eq] at e5;cases e5
  |some q=>
    rw[eq] at e5;cases e5;refine wB (zu (aPs (fX.at (sq j q eq) (k _)) (wP ⟨j+1,_,mR eq,e6,?_,rfl,?_,λ i q' eq' il=>?_,λ c o e=>hpS _ (k c o e)⟩)))
    ·show Array.push _ (Value.ref h.objs.size)=_;rw[e4,List.range'_1_concat];simp
    ·rw[yHe];show h.objs.size+1=_;omega
    ·by_cases c:i=j
     ·subst c;rw[eq] at eq';cases eq';rw[<- e4];cases q.1<;>exact⟨_,xAd _ rfl,rfl,rfl⟩
     ·exact(hi i q' eq' (!_)).at λ o e=>hpS _ e
 ·rintro b s' ⟨j,h',jl,e1,e2,e3,e4,hi,k⟩;subst e2 e3;have:j=↑qs:=by have:=congrArg yFb e1;simp at this;omega
  subst this;exact wP (h h' e4 (λ i q e=>hi i q e (mR e)) k)
 ·exact⟨0,s.heap,yBv _,rfl,rfl,rfl,rfl,λ _ _ _ z=>absurd z (yDg _),λ _ _ e=>e⟩
def aDt(h:Heap)(o:Obj)(hr:o.isFreed=false):∃ h',h.push o=h'/\h'.get? h.objs.size=qz o/\h'.objs.size=h.objs.size+1/\∀ c u,h.get? c=qz u->h'.get? c=qz u:=⟨_,rfl,xAd _ hr,yHe ..,λ _ _ e=>hpS _ e⟩
def aSx{qs:Zq}{vs:Nat -> List qj}(h3:↑qs<=3):Meets (Builtin.«zip.__new__» ⟨.type "zip" :: Zr qs,[]⟩) (λ _ R s=>(∀ i q,qs[i]?=qz q->fX q.1 s.heap q.2 (vs i).toArray)/\∀ h',ZH s.heap.objs.size qs 0 h'->Zo h' (s.heap.objs.size+↑qs) .none false->h'.objs.size=s.heap.objs.size+↑qs+3 ->
 (∀ c o,s.heap.get? c=qz o->h'.get? c=qz o)->R (.ok (.ret (.ref (s.heap.objs.size+↑qs+2)))) {s with heap:=h' }):=
 .of_wp λ prog w A R s h=>by
  let(hp,g,d,tk,os):=s;let(sq,h):=h;have hsub:=sub_zip
  wp_walk using aOD sq
  intro h' sz it k;dsimp only at sz it k sq h;let(h1,e1,g1,z1,k1):=aDt h' {cls:=.type "tuple",data:=.seq ((yCk hp.objs.size ↑qs).map Value.ref).toArray } rfl;let(h2,e2,g2,z2,k2):=aDt h1 {cls:=.type "tuple",data:=.seq (((yCk hp.objs.size ↑qs).map Value.ref).map λ _=>Value.none).toArray } rfl;have l3:∀ l:List qj,↑l=↑qs->↑l<=qk:=λ l e=>xAh (show ↑l<=1000000 by omega) vH
  refine wB (wpAny_newTuple ?_ (l3 _ (by simp)));dsimp only;rw[e1];refine wB (wpAny_newTuple ?_ (l3 _ (by simp)));dsimp only;rw[e2]
  wp_walk
  let(h4,e4,g4,z4,k4):=aDt h2 {cls:=.type "zip",data:=.fields (Builtin.SmallTypes.ownedTupleFields++[Value.bool false,Value.ref h'.objs.size,Value.ref h1.objs.size]).toArray } rfl;refine⟨_,rfl,?_⟩;rw[e4];rw[z2,z1,sz] at g4 z4 ⊢;rw[z1,sz] at g2;rw[sz] at g1;have hz:Zo h4 (hp.objs.size+↑qs) .none false:=g4;exact h h4 ⟨⟨λ i q e=>(it i q e).at λ o e=>k4 _ _ (k2 _ _ (k1 _ _ e)),k4 _ _ (k2 _ _ g1)⟩,⟨_,by simp,k4 _ _ g2⟩,_,_,hz,.inl ⟨rfl,rfl⟩⟩ hz z4 λ c o e=>k4 _ _ (k2 _ _ (k1 _ _ (k c o e)))
def zok:∀ qs:Zq,2<=↑qs->↑qs<=3->checkTypeCall "zip" ⟨Zr qs,[]⟩=pure ()/\checkBuiltinCall "zip.__new__" ⟨.type "zip" :: Zr qs,[]⟩=pure ()/\∀ obj,argsOk "object.__init__" ⟨obj::Zr qs,[]⟩
 |[_,_],_,_=>⟨F.typeCall_zip_2 _ _,F.newCall_zip_2 _ _,λ obj=>F.args_object_init_3 obj _ _⟩
 | [_,_,_],_,_=>⟨by kernel_rfl,by kernel_rfl,λ _=>by
   unfold argsOk;rw[signature?_of (id:="object.__init__") (n:=['_','_','t','i','n','i','_','_']) (o:=['t','c','e','j','b','o']) (by kernel_rfl) F.owner_object];kernel_rfl⟩
def aQZ{E:qj -> qv -> Prop}{s:qv}{qs:Zq}{vs:Nat -> List qj}{Q:qj->qv->Prop}(h2:2<=↑qs)(h3:↑qs<=3)(sq:∀ i q,qs[i]?=qz q->fX q.1 s.heap q.2 (vs i).toArray)(h:∀ h',ZH s.heap.objs.size qs 0 h'->Zo h' (s.heap.objs.size+↑qs) .none false->h'.objs.size=s.heap.objs.size+↑qs+3->(∀ c o,s.heap.get? c=qz o->h'.get? c=qz o)->Q (.ref (s.heap.objs.size+↑qs+2)) {s with heap:=h' }) :
 qu (model prog w) A (call (.type "zip") (Zr qs)) Q E s:=by let(o1,o2,o3):=zok qs h2 h3;exact callType_new F.called_zip (·) o1 o2 o3 F.entry_zip_new (@aSx _ vs h3) ⟨sq,λ h' Z hz sz k=>⟨⟨_,hz,rfl⟩,h h' Z hz sz k⟩⟩
def zG(K:FrG)(ta:TA):TI:=λ σ H R=>ta σ H λ vs H1=>∃ qs:Zq,vs=qs.map (λ q=>.ref q.2)/\2<=↑qs/\↑qs<=3/\(∀ q∈qs,∃ xs,Sq q.1 K H1 q.2 xs)/\R (yN K qs) H1
def aMl{Q:qj->qv->Prop}{E:qj->qv->Prop}{qs:Zq}(I:Inv X aB σ H s)(r:bA (qs.map λ q=>.ref q.2) us)(h2:2<=↑qs)(h3:↑qs<=3)(sq:∀ q∈qs,∃ xs,Sq q.1 X.K H q.2 xs)(h:∀ h',Inv X aB σ H {s with heap:=h' }->(∀ q∈qs,q.2<s.heap.objs.size)->ZH s.heap.objs.size qs 0 h'->Zo h' (s.heap.objs.size+↑qs) .none false->h'.objs.size=s.heap.objs.size+↑qs+3->(∀ b∈yCk s.heap.objs.size (↑qs+3),gL X aB H b)->Q (.ref (s.heap.objs.size+↑qs+2)) {s with heap:=h' }) :
 qu (model X.prog X.w) A (call (.type "zip") us) Q E s:=by
 have e:∀ {qs:Zq}{us:List qj},bA (qs.map λ q=>.ref q.2) us->us=Zr qs:=λ {qs}=>by
  induction qs with
  |nil=>intro us r;cases r;rfl
  |cons q qs ih=>intro us r;cases r with|cons a b=>cases a;rw[ih b];rfl
 rw[e r];have hl:∀ q∈qs,q.2<s.heap.objs.size:=λ q m=>by
  let(xs,sx):=sq q m;let(us,_,pl):=aMa I sx;exact pl.lt
 let(vs,v1,_):=aFs (k:=0) I hl λ q m=>(sq q m).imp λ xs a=>⟨a,yBv _⟩
 refine aQZ h2 h3 (λ i q e=>(v1 i q e).1) λ h' Z hz sz k=>h h' (I.kept (t':=s.toks) k) hl Z hz sz λ b hb=>?_
 have:=(List.mem_range'_1.mp hb).1;exact I.fpOk this (I.hok.fresh this)
def aI6{ta:TA}(hg:Gl X "zip")(hm:X.mg "zip" = qx)(ha:PA X (a::es) ta)(hs:qo (a::es) X.env=(false,eval a X.env)::qo es X.env)(hs2:((backTo pos (qo es X.env)).any λ x=>x.fst)=false):PI X (.Tuple elts k pp) (.Call (.Name "zip" p) (a::es) [] pos) (zG X.K ta):=by intro aB s σ H R I h;refine Call_ (nE I hg hm boot_zip (yBe (bD (ha pos aB s σ H _ I h) λ us s1 hq=>?_) hs hs2));let(vs,H1,I1,r1,q1):=hq;let(qs,rfl,h2,h3,sq,q):=q1;exact aMl I1 r1 h2 h3 sq λ h' I2 hl Z hz _ fp=>wu hz ⟨_,_,_,_,H1,rfl,I2,aQQ _ qs (!_) h3 hl,⟨Z,hz⟩,fp,q⟩
def aJx{K:FrG}:∀ {ds:List D}{ys:List V},↑ds=↑ys->(∀ (j:Nat) d y,ds[j]?=qz d->ys[j]?=qz y->Den K F d y)->DenL K F ds ys
 |[],[],_,_=>.nil|d::ds,y::ys,h,k=>.cons (k 0 d y rfl rfl) (aJx (Nat.succ.inj h) λ j=>k (j+1))
structure Zd(K:FrG)(F:Hp)(qs:Zq)(dss:List (List D))(zs:List D):Prop where
 len:↑dss=↑qs
 sq:∀ (j:Nat) q ds,qs[j]?=qz q->dss[j]?=qz ds->∃ xs,Sq q.1 K F q.2 xs/\DenL K F ds xs
 le:∀ ds∈dss,↑zs<=↑ds
 eq:∃ ds∈dss,↑zs=↑ds
 get:∀ (i:Nat) d,zs[i]?=qz d->∃ es,d=.tuple es/\dss.map (·[i]?)=es.map qz
section
variable {K:FrG}{F F1 H:Hp}{qs:Zq}{dss:List (List D)}{zs:List D}
def Zd.go(Z:Zd K F qs dss zs)(s:bT F H)(h:k<=↑zs):∀ q∈qs,∃ xs,Sq q.1 K H q.2 xs/\k<=↑xs:=λ q m=>by
 let(j,jl,e):=yGl m;have e2:=yAa (l:=dss) (Z.len▸jl);let(xs,sq,dl):=Z.sq j q _ (List.getElem?_eq_some_iff.mpr ⟨jl,e⟩) e2;exact⟨xs,aDI s sq,xAh h (dl.length▸Z.le _ (xAk e2))⟩
def Zd.stop(Z:Zd K F qs dss zs)(s:bT F H):(yN K qs).stop ↑zs H:=by refine⟨Z.go s (yAb _),?_⟩;let(ds,m,el):=Z.eq;let(j,jl,e):=yGl m;have e2:=yAa (l:=qs) (Z.len▸jl);let(xs,sq,dl):=Z.sq j _ ds e2 (List.getElem?_eq_some_iff.mpr ⟨jl,e⟩);exact⟨_,xAk e2,xs,aDI s sq,el.trans dl.length⟩
def Zd.den(Z:Zd K F qs dss zs)(s1:bT F F1)(s2:bT F1 H){i:Nat}{d:D}{p:qw}{ys:List V}(e:zs[i]?=qz d)(hp:H p=qx)(yl:↑ys=↑qs)(hy:∀ (j:Nat) q xs,qs[j]?=qz q->Sq q.1 K H q.2 xs->xs[i]?=ys[j]?):Den K (bF F1 p (.tup ys)) d (.ref p):=by
 let(es,rfl,ee):=Z.get i d e;have el:↑es=↑dss:=by have:=congrArg yFb ee;simpa using this.symm
 refine .tup (cH.of cO) (aJx (by rw[el,yl,Z.len]) λ j d y hd hy'=>?_);have jl:j<↑dss:=el▸mR hd;have e2:=yAa (l:=qs) (Z.len▸jl);let(xs,sq,dl):=Z.sq j _ _ e2 (yAa jl);have e3:=congrArg (·[j]?) ee;simp only[yAd,yAa jl,hd,yDe,Option.some.injEq] at e3;let(x,e4,dx):=dl.get e3;rw[hy j _ xs e2 (aDI (s1.trans s2) sq),hy'] at e4;cases e4;exact dx.mono (s1.trans (gD (s2.free hp)))
def aLb(Z:Zd K F qs dss zs):Wk K F L (yN K qs) zs where
 go:=λ i H s hi=>Z.go s hi
 stop:=λ H s=>Z.stop s
 yld:=λ i H F1 L1 S x H' d g R e y=>by
  let(p,ys,hp,rfl,rfl,yl,hy):=y;exact⟨_,gD (R.sub.free hp),R.new hp,Z.den g.f R.sub e hp yl hy⟩
def pG:W->Option (List D)
 |.d (.list ds)=>qz ds|.d (.tuple ds)=>qz ds|_=>qx
def qE(h:pG w=qz ds)(d:dM K F L w v):∃ q:Bool×qw,v=.ref q.2/\∃ xs,Sq q.1 K F q.2 xs/\DenL K F ds xs:=by
 unfold pG at h;split at h
 ·cases h;cases (show Den K F (.list ds) v from d) with|lst sq dl=>exact⟨(false,_),rfl,_,sq,dl⟩
 ·cases h;cases (show Den K F (.tuple ds) v from d) with|tup sq dl=>exact⟨(true,_),rfl,_,sq,dl⟩
 ·cases h
end
def gI:List D->List D->List D
 |a::as,b::bs=>.tuple [a,b]::gI as bs|_,_=>[]
def aCR:∀ as bs:List D,(gI as bs).length=min ↑as ↑bs
 |[],_=>by simp[gI]|_::_,[]=>by simp[gI]|_::as,_::bs=>by simp[gI,aCR as bs]
def aIz:∀ (as bs:List D) (i:Nat) (d:D),(gI as bs)[i]?=qz d->∃ a b,as[i]?=qz a/\bs[i]?=qz b/\d=.tuple [a,b]
 |[],_,i,d,h=>by simp[gI] at h|_::_,[],i,d,h=>by simp[gI] at h|a::as,b::bs,0,d,h=>by simp[gI] at h;exact⟨a,b,rfl,rfl,h.symm⟩|a::as,b::bs,i+1,d,h=>aIz as bs i d h
def gG:List D->List D->List D->List D
 |a::as,b::bs,c::cs=>.tuple [a,b,c]::gG as bs cs|_,_,_=>[]
def aCO:∀ as bs cs:List D,(gG as bs cs).length=min ↑as (min ↑bs ↑cs)
 |[],_,_=>by simp[gG]|_::_,[],_=>by simp[gG]|_::_,_::_,[]=>by simp[gG]|_::as,_::bs,_::cs=>by simp[gG,aCO as bs cs]
def aHI:∀ (as bs cs:List D) (i:Nat) (d:D),(gG as bs cs)[i]?=qz d->∃ a b c,as[i]?=qz a/\bs[i]?=qz b/\cs[i]?=qz c/\d=.tuple [a,b,c]
 |[],_,_,i,d,h=>by simp[gG] at h|_::_,[],_,i,d,h=>by simp[gG] at h|_::_,_::_,[],i,d,h=>by simp[gG] at h|a::as,b::bs,c::cs,0,d,h=>by simp[gG] at h;exact⟨a,b,c,rfl,rfl,rfl,h.symm⟩|a::as,b::bs,c::cs,i+1,d,h=>aHI as bs cs i d h
def aQV(x y z:List D)(ds:List D)(h:ds∈[x,y,z]):(gG x y z).length<=↑ds:=by
 rw[aCO];simp only[yCa,yCe,or_false] at h;rcases h with rfl|rfl|rfl
 ·exact yDv _ _
 ·exact xAh (yEx _ _) (yDv _ _)
 ·exact xAh (yEx _ _) (yEx _ _)
def aQE(x y z:List D):∃ ds∈[x,y,z],(gG x y z).length=↑ds:=by
 rw[aCO];rcases yHx x.length (min y.length z.length) with q|q
 ·exact⟨x,by simp,yDx q⟩
 rw[yDl q];rcases yHx y.length z.length with q|q
 ·exact⟨y,by simp,yDx q⟩
 ·exact⟨z,by simp,yDl q⟩
def aKn{F:Hp}(j:Nat)(q:Bool×qw)(ds:List D)(h:([]:Zq)[j]?=qz q)(_:([]:List (List D))[j]?=qz ds):∃ xs,Sq q.1 K F q.2 xs/\DenL K F ds xs:=by simp at h
def wH{F:Hp}{q0:Bool×qw}{ds0:List D}{qs:Zq}{dss:List (List D)}(h:∃ xs,Sq q0.1 K F q0.2 xs/\DenL K F ds0 xs)(t:∀ (j:Nat) q ds,qs[j]?=qz q->dss[j]?=qz ds->∃ xs,Sq q.1 K F q.2 xs/\DenL K F ds xs) :
 ∀ (j:Nat) q ds,(q0::qs)[j]?=qz q->(ds0::dss)[j]?=qz ds->∃ xs,Sq q.1 K F q.2 xs/\DenL K F ds xs
 |0,_,_,e1,e2=>by cases e1;cases e2;exact h|j+1,q,ds,e1,e2=>t j q ds e1 e2
def aFb(Z:Zd K F qs dss zs)(s:bT F H):∀ q∈qs,∃ xs,Sq q.1 K H q.2 xs:=λ q m=>(Z.go s (yBv _) q m).imp λ xs a=>a.1
def zd2{q1 q2:Bool×qw}(h1:∃ xs,Sq q1.1 K F q1.2 xs/\DenL K F as xs)(h2:∃ xs,Sq q2.1 K F q2.2 xs/\DenL K F bs xs):Zd K F [q1,q2] [as,bs] (gI as bs):=
 ⟨rfl,wH h1 (wH h2 aKn),by simp[aCR];omega,by simp[aCR];omega,λ i d e=>by let(a,b,e1,e2,rfl):=aIz as bs i d e;exact⟨_,rfl,by simp[e1,e2]⟩⟩
section
variable {K:FrG}{fa fb fc:FE}(σ:L2.St)(H:Hp)(Rr:It->Hp->Prop)
def nR(fa fb:FE):FL:=λ env S=>(fa env S).bind λ p=>(fb env p.2).bind λ q=>(pG p.1).bind λ ds=>(pG q.1).bind λ es=>qz (gI ds es,q.2)
theorem aYx(h:jX K (nR fa fb) σ H Rr):zG K (eD K (cT fa (cT fb iK))) σ H Rr:=by
 let(F,L,S,env,ds,S',R,E,e,q):=h;let((w1,S1),e1,e):=aI e;let((w2,S2),e2,e):=aI e;let(ds1,e3,e):=aI e;let(ds2,e4,e):=aI e;dsimp only at e e2 e3 e4;cases e;refine⟨F,L,S,env,[w1,w2],S',R,E,by unfold cT;simp only[e1,e2,iK,yCt],λ F1 L1 H1 vs g1 R1 d1=>?_⟩;obtain - | ⟨da,- | ⟨db,- | -⟩⟩:=d1
 let(q1,rfl,h1):=qE e3 da;let(q2,rfl,h2):=qE e4 db;have Z:=zd2 h1 h2;exact⟨[q1,q2],rfl,by simp,by simp,aFb Z R1.sub,q F1 L1 H1 _ g1 R1 (aLb Z)⟩
def aBx(fa fb fc:FE):FL:=λ env S=>(fa env S).bind λ p=>(fb env p.2).bind λ q=>(fc env q.2).bind λ r=>(pG p.1).bind λ ds=>(pG q.1).bind λ es=>(pG r.1).bind λ gs=>qz (gG ds es gs,r.2)
theorem aT1(h:jX K (aBx fa fb fc) σ H Rr):zG K (eD K (cT fa (cT fb (cT fc iK)))) σ H Rr:=by
 let(F,L,S,env,ds,S',R,E,e,q):=h;let((w1,S1),e1,e):=aI e;let((w2,S2),e2,e):=aI e;let((w3,S3),e0,e):=aI e;let(ds1,e3,e):=aI e;let(ds2,e4,e):=aI e;let(ds3,e5,e):=aI e;dsimp only at e e2 e3 e4 e0 e5;cases e;refine⟨F,L,S,env,[w1,w2,w3],S',R,E,by unfold cT;simp only[e1,e2,e0,iK,yCt],λ F1 L1 H1 vs g1 R1 d1=>?_⟩;obtain - | ⟨da,- | ⟨db,- | ⟨dc,- | -⟩⟩⟩:=d1
 let(q1,rfl,h1):=qE e3 da;let(q2,rfl,h2):=qE e4 db;let(q3,rfl,h3):=qE e5 dc;have Z:Zd K F1 [q1,q2,q3] [ds1,ds2,ds3] (gG ds1 ds2 ds3):=⟨rfl,wH h1 (wH h2 (wH h3 aKn)),aQV _ _ _,aQE _ _ _,λ i d e=>by let(a,b,c,e1,e2,e3,rfl):=aHI _ _ _ i d e;exact⟨_,rfl,by simp[e1,e2,e3]⟩⟩;exact⟨[q1,q2,q3],rfl,by simp,by simp,aFb Z R1.sub,q F1 L1 H1 _ g1 R1 (aLb Z)⟩
end
section
variable {X:Cx}{elts:List qy}{k:Nat}{pp:Pos}{a b c:qy}{ta:TA}{p pos:Pos}(hg:Gl X "zip")(hm:X.mg "zip"=qx)
include hg hm
theorem aUc(ha:PA X [a,b] ta)(hs:qo [a,b] X.env=(false,eval a X.env)::qo [b] X.env)(hs2:qo [b] X.env=[(false,eval b X.env)]):PI X (.Tuple elts k pp) (.Call (.Name "zip" p) [a,b] [] pos) (zG X.K ta):=aI6 hg hm ha hs (by rw[hs2];rfl)
theorem aTm(ha:PA X [a,b,c] ta)(hs:qo [a,b,c] X.env=(false,eval a X.env)::qo [b,c] X.env)(hs2:qo [b,c] X.env=(false,eval b X.env)::qo [c] X.env)(hs3:qo [c] X.env=[(false,eval c X.env)]):PI X (.Tuple elts k pp) (.Call (.Name "zip" p) [a,b,c] [] pos) (zG X.K ta):=aI6 hg hm ha hs (by rw[hs2,hs3];rfl)
end
def Rel.relay(r:Rel K F L S H)(hF:F p=qx)(hL:p ∉ ad L):Rel K F L S (bF H p o):=by
 have ne:∀ {n:Nat}{a:qw}{b:Bool},L[n]?=qz (a,b)->a≠p:=λ e z=>hL (by rw[<- z];exact aEq e)
 refine⟨λ b u q=>by rw[bO (eP q hF)];exact r.sub _ _ q,r.nd,r.len,λ n a ds e1 e2=>?_,λ n a ds e1 e2=>?_,λ n a b e=>?_⟩
 ·let(f,xs,e3,dl):=r.loc n a ds e1 e2;exact⟨f,xs,by rw[bO (ne e1)];exact e3,dl⟩
 ·let(f,xs,e3,dl):=r.dic n a ds e1 e2;exact⟨f,xs,e3,by rw[bO (ne e1)];exact dl⟩
 ·let(o,hx,hy):=r.tr n a b e;exact⟨o,by rw[bO (ne e)];exact hx,hy⟩
def aHp(k:Den K F d v):∀ {ds:List D}{xs:List V},DenL K F ds xs->DenL K F (ds++[d]) (xs++[v])
 |_,_,.nil=>.cons k .nil|_,_,.cons a b=>.cons a (aHp k b)
structure ZW(X:Cx)(aB:List (qw×Obj))(σ:L2.St)(F1:Hp)(L1:Lx)(S1:aC)(SA:qw)(n:Nat)(qs:Zq)(ds:List D)(H F:Hp)(vs:List V)(s:qv):Prop where
 inv:Inv X aB σ H s
 same:bT F1 F
 rel:Rel X.K F L1 S1 H
 free:F SA=qx
 lst:H SA=qz (.lst vs)
 den:DenL X.K F ds vs
 fp:∀ c∈yCk n (↑qs+3),gL X aB H c
def aQg{X:Cx}{F1:Hp}{SA:qw}{qs:Zq}{A:zv}{R:Result->qv->Prop}(hh:A.in1.in1.handled=qx)(h0:0<↑qs)(h3:↑qs<=3)(hq:∀ q∈qs,q.2<n)(Z:Zd X.K F1 qs dss zs)(hL:SA ∉ ad L1)(cK:↑zs<=1000000)(hR:∀ s' H' F' vs',ZW X aB σ F1 L1 S1 SA n qs zs H' F' vs' s'->R (.ok (.ret res)) s') :
 ∀ (k i:Nat) (s:qv) (H F:Hp) (vs:List V),↑zs-i=k->i<=↑zs->ZW X aB σ F1 L1 S1 SA n qs (zs.take i) H F vs s->ZH n qs i s.heap ->
 ju (model X.prog X.w) A (.builtin "list.extend.loop" ⟨[.ref SA,.ref (n+↑qs+2),res],[]⟩) R s:=by
 intro k
 induction k with
 |zero=>
   intro i s H F vs hk hi hw hz;have hin:i=↑zs:=by omega
   refine codeAny_builtin yHf ?_;rw[Around.under_plainId yDr _];show qu _ A.in1 (yz (.ref (n+↑qs+2)) >>= _) _ _ s;subst hin;rw[yAg] at hw;exact wB (aMs hh h0 h3 hq hw.inv hz hw.fp (Z.stop (hw.same.trans hw.rel.sub)) λ h' tk I'=>wP (hR _ H F vs ⟨I',hw.same,hw.rel,hw.free,hw.lst,hw.den,hw.fp⟩))
 |succ k ih=>
   intro i s H F vs hk hi hw hz;have hlt:i<↑zs:=by omega
   refine codeAny_builtin yHf ?_;rw[Around.under_plainId yDr _];show qu _ A.in1 (yz (.ref (n+↑qs+2)) >>= _) _ _ s;refine wB (aLH hh h0 h3 hq hw.inv hz (Z.go (hw.same.trans hw.rel.sub) hlt) λ h' tk us ys rv yl hy Z' hT fr _=>?_);have hp:H s.heap.objs.size=qx:=hw.inv.fresh;have hF:F s.heap.objs.size=qx:=hw.rel.sub.free hp;have neS:SA≠s.heap.objs.size:=λ q=>by rw[<- q,hw.lst] at hp;cases hp
   let(os,ol,hO):=Z'.to;let(f,g,hzo,_):=Z'.z;have I2:Inv X aB σ (bF H s.heap.objs.size (.tup ys)) {s with heap:=h',toks:=tk }:=aHf (s:=s) hw.inv hw.fp (λ c o hb e'=>fr c o (by rw[yHj] at hb;omega) e') (yAb _) ⟨xAh (show ↑ys<=1000000 by omega) vH,us,rv,⟨_,hT,rfl,0,rfl⟩⟩;have hS:bF H s.heap.objs.size (.tup ys) SA=qz (.lst vs):=by rw[bO neS];exact hw.lst
   let(hv,aG,m,rl,hl,e):=I2.lstM hS;have vl:↑vs=i:=by
    have:=hw.den.length;rw[yBk] at this;omega
   have hs:1000000<=qk:=vH;show qu _ A.in1 (updateSeq SA (·.push (.ref s.heap.objs.size)) >>= _) _ _ _;have ne:∀ c∈yCk n (↑qs+3),c≠SA:=λ c hc q=>by
    have:=(hw.fp c hc).1;rw[q,hw.lst] at this;cases this
   have kp:∀ c o,c≠SA->h'.get? c=qz o->(h'.update SA (Obj.mapSeq (·.push (.ref s.heap.objs.size)))).get? c=qz o:=λ c o hc q=>(yCg _ _ (Ne.symm hc)).trans q
   have kr:∀ c o,n<=c->c<=n+↑qs+2->h'.get? c=qz o->(h'.update SA (Obj.mapSeq (·.push (.ref s.heap.objs.size)))).get? c=qz o:=λ c o a b=>kp c o (ne c (List.mem_range'_1.mpr (!_)))
   refine wB (vz e rfl (wP ⟨plainId_quiet yDr _,ih (i+1) _ (bF (bF H s.heap.objs.size (.tup ys)) SA (.lst (vs++[.ref s.heap.objs.size]))) (bF F s.heap.objs.size (.tup ys)) _ (!_) hlt ⟨?_,hw.same.trans (gD hF),Rel.relay (hw.rel.new hp) (by rw[bO neS];exact hw.free) hL,by rw[bO neS];exact hw.free,cO,?_,λ c hc=>⟨?_,(hw.fp c hc).2⟩⟩ ⟨Z'.t.keep λ c o a b=>kr c o a (!_),⟨os,ol,kr _ _ (!_) (!_) hO⟩,?_⟩⟩) (by simp;omega) (by simp;omega))
   ·exact I2.lset (its':=aG++[.ref s.heap.objs.size]) hS e (by simp) (bA.append rl (.cons (show aU (.ref s.heap.objs.size) (Value.ref s.heap.objs.size) from rfl) .nil)) (by rw[yAo];show ↑vs+1<=_;omega)
   ·rw[List.take_succ_eq_append_getElem hlt];exact aHp (Z.den hw.same hw.rel.sub (yAa hlt) hp yl hy) (hw.den.mono (gD hF))
   ·have c1:c<s.heap.objs.size:=by
     let(os,_,hO):=hz.to;let(_,_,hzo,_):=hz.z;have:=List.mem_range'_1.mp hc;let(o,e,_):=aFu hz.t hO hzo c this.1 (!_);exact xAa e
    rw[bO (ne c hc),bO (xAj c1)];exact(hw.fp c hc).1
   ·let(f,g,hzo,hf):=Z'.z;refine⟨f,g,kr _ _ (!_) (!_) hzo,hf.imp_right λ hfa=>?_⟩;let(a,ea,o,eo):=hfa;refine⟨a,ea,?_⟩;by_cases c1:a=SA
    ·subst c1;exact⟨_,PySem.IsL.update e _⟩
    ·exact⟨o,kp a o c1 eo⟩
def aON:typeLookup (.type "zip") "__len__" = pure qx:=by rw[typeLookup_type,builtinLookup_eq_fast];kernel_rfl
def aOk:typeLookup (.type "zip") "__length_hint__" = pure qx:=by rw[typeLookup_type,builtinLookup_eq_fast];kernel_rfl
def aOS{s:qv}{R:Result -> qv -> Prop}{TI TO:qw}{f0:qj}(S:qw)(res:qj)(c₀:Nat)(hz:IsZip s.heap z TI TO f0)(hSz:S≠z)(hS:s.heap.get? S=qz {cls:=.type "list",data:=.seq #[] c₀ })(hR:∀ h' c,(∀ b o,b≠S->s.heap.get? b=qz o->h'.get? b=qz o)->h'.get? S=qz {cls:=.type "list",data:=.seq #[] c }->ju (model prog w) A (.builtin "list.extend.loop" ⟨[.ref S,.ref z,res],[]⟩) R {s with heap:=h' }) :
 qu (model prog w) A.in1 (yDi (.ref S) (.ref z) res)
  (λ bZ s'=>match bZ with|.done f=>R (.ok f) s'|.again c'=>c'.quiet=true/\ju (model prog w) A c' R s') (λ e s'=>R (.error e) s') s:=by
 have hT:s.TypeIs (.ref z) "zip":=⟨_,hz,rfl⟩;unfold yDi;refine wB (wpAny_typeOf hT ?_);have h1:yHk (.ref S) (.ref z)=false:=by simp[yHk,hSz]
 have h2:(Value.type "zip" == Value.type "list")=false:=by decide
 have h3:(Value.type "zip" == Value.type "tuple")=false:=by decide
 simp only[h1,h2,h3,yFj,yAt,if_false];refine wB (wu hz ?_);refine wB (zu ?_);unfold Builtin.List.listLengthHint;refine wB (vw hT aON ?_);show qu _ A.in1 (specialOf (Value.ref z) (Str.ofString "__length_hint__") >>= _) _ _ _;refine wB (vw hT aOk ?_);refine wP ?_;show qu _ A.in1 (rule "list.extend.makes-room" >>= λ _=>Builtin.List.listTouch (.ref S) >>= λ _=>
  again (.builtin "list.extend.loop" ⟨[.ref S,.ref z,res],[]⟩)) _ _ _
 refine wB (vo ?_);refine wB ?_;show qu _ A.in1 (updateSeq S (·.push .none) >>= λ _=>updateSeq S (·.pop)) _ _ _;refine wB (vz hS rfl ?_);have hS₂:=yCn (Obj.mapSeq (·.push Value.none)) hS rfl;refine vz (hz:=by seq_fits) hS₂ rfl ?_;have hS₃:=yCn (Obj.mapSeq (·.pop)) hS₂ rfl;have oth:∀ b o,b≠S->s.heap.get? b=qz o->((s.heap.update S (Obj.mapSeq (·.push Value.none))).update S (Obj.mapSeq (·.pop))).get? b=qz o:=
  λ b o hb e=>(yCg _ _ (Ne.symm hb)).trans ((yCg _ _ (Ne.symm hb)).trans e)
 exact wP ⟨plainId_quiet yDr _,hR _ _ oth hS₃⟩
def aQH{s:qv}{R:Result -> qv -> Prop}{TI TO:qw}{f0:qj}(S:qw)(hz:IsZip s.heap z TI TO f0)(hSz:S≠z)(hS:s.heap.get? S=qz {cls:=.type "list",data:=.seq #[] })(hR:∀ h' c,(∀ b o,b≠S->s.heap.get? b=qz o->h'.get? b=qz o)->h'.get? S=qz {cls:=.type "list",data:=.seq #[] c }->ju (model prog w) A (.builtin "list.extend.loop" ⟨[.ref S,.ref z,.none],[]⟩) R {s with heap:=h' }) :
 qu (model prog w) A.in1 (Builtin.«list.__init__» ⟨[.ref S,.ref z],[]⟩)
  (λ bZ s'=>match bZ with|.done f=>R (.ok f) s'|.again c'=>c'.quiet=true/\ju (model prog w) A c' R s') (λ e s'=>R (.error e) s') s:=by
 show qu _ A.in1 (yHr (.ref S) >>= λ old=>Builtin.List.listUpdate (.ref S) (λ _=>#[]) >>= λ _=>letGo old.toList.reverse >>= λ _=>yDi (.ref S) (.ref z) .none) _ _ s;refine wB ?_;unfold yHr;refine wB (jk hS rfl (wP ?_));show qu _ A.in1 (updateSeq S (λ _=>#[]) >>= λ _=>letGo (#[]:Array qj).toList.reverse >>= λ _=>yDi (.ref S) (.ref z) .none) _ _ s;have hS2:=yCn (Obj.mapSeq (λ _=>(#[]:Array qj))) hS rfl;have oth:∀ b o,b≠S->s.heap.get? b=qz o->(s.heap.update S (Obj.mapSeq (λ _=>(#[]:Array qj)))).get? b=qz o:=λ b o hb e=>(yCg _ _ (Ne.symm hb)).trans e
 refine wB (vz hS rfl (wB (wpAny_letGo ?_)));exact aOS S .none _ (oth _ _ (Ne.symm hSz) hz) hSz hS2 λ h' c hk hS'=>hR h' c (λ b o hb e=>hk b o hb (oth b o hb e)) hS'
def aN6{A:zv}{E:qj -> qv -> Prop}{s:qv}{TI TO:qw}{f0:qj}{Q:qj->qv->Prop}(hz:IsZip s.heap z TI TO f0)(hQ:∀ h' c (R:Result->qv->Prop),(∀ b o,s.heap.get? b=qz o->h'.get? b=qz o)->h'.get? s.heap.objs.size=qz {cls:=.type "list",data:=.seq #[] c }->(∀ s',Q (.ref s.heap.objs.size) s'->R (.ok (.ret .none)) s')->ju (model prog w) A.in1 (.builtin "list.extend.loop" ⟨[.ref s.heap.objs.size,.ref z,.none],[]⟩) R {s with heap:=h' }) :
 qu (model prog w) A (call (.type "list") [.ref z]) Q E s:=by
 have hSz:s.heap.objs.size≠z:=yGt (xAa hz);have hS:(s.heap.push {cls:=.type "list",data:=.seq #[] }).get? s.heap.objs.size=qz {cls:=.type "list",data:=.seq #[] }:=xAd _ rfl;refine callType_codes (Q₁:=λ ob s1=>ob=.ref s.heap.objs.size/\s1={s with heap:=s.heap.push {cls:=.type "list",data:=.seq #[] } }) PySem.F.called_list (PySem.F.typeCall_list_1 _) PySem.F.entry_list_init (code_list_new _ ⟨rfl,rfl⟩) λ ob s1 h1=>?_
 let(rfl,rfl):=h1;refine⟨⟨_,hS,rfl⟩,PySem.F.args_list_init_2 _ _,aQH _ (hpS _ hz) hSz hS λ h' c hk hS'=>?_⟩;exact hQ h' c _ (λ b o e=>hk b o (xAj (xAa e)) (hpS _ e)) hS' λ s' q=>⟨rfl,q⟩
def tT(fa fb:FE):FL:=aNm (nR fa fb)
def aUk{fa fb:FE}(ha:PE X a (aP X.K fa))(hb:PE X b (aP X.K fb))(hc:X.calm=true)(hg:Gl X "list")(hm:X.mg "list" = qx)(hg2:Gl X "zip")(hm2:X.mg "zip" = qx)(hs:qo [a,b] X.env=(false,eval a X.env)::qo [b] X.env)(hs2:qo [b] X.env=[(false,eval b X.env)]):PE X (.Call (.Name "list" p) [.Call (.Name "zip" p2) [a,b] [] pos2] [] pos) (jY X.K (tT fa fb)):=by
 rintro aB s σ H Q I ⟨F,L,S,env,ds,S',R,E,e,q⟩;let((ds',S1'),e0,e):=aI e;let((w1,S1),e1,e2):=aI e0;let((w2,S2),e3,e4):=aI e2;let(ds1,e5,e6):=aI e4;let(ds2,e7,e8):=aI e6;dsimp only at e e3 e5 e7;cases e8;split at e
 ·rename_i cK;cases e;refine xy (nE I hg hm (show xu "list" = qz (.type "list") by decide +kernel) ?_);refine yBe ?_ rfl rfl;show qu _ _ (spliced ((false,eval (.Call (.Name "zip" p2) [a,b] [] pos2) X.env)::[])) _ _ s;refine Calls.spliced_cons ?_;refine xy (nE I hg2 hm2 boot_zip ?_);refine yBe ?_ hs (by rw[hs2];rfl)
  refine bD (mC ha (mC hb aEN hs2) hs pos2 aB s σ H (λ vs H1=>∃ v v2 F1 L1,vs=[v,v2]/\Gr F L F1 L1/\Rel X.K F1 L1 S2 H1/\dM X.K F1 L1 w1 v/\dM X.K F1 L1 w2 v2) I ⟨F,L,S,env,[w1,w2],_,R,E,by unfold cT;rw[e1];dsimp only[yCs];rw[e3];rfl,λ F1 L1 H1 vs g1 R1 d1=>by
   obtain - | ⟨da,- | ⟨db,- | -⟩⟩:=d1
   exact⟨_,_,F1,L1,rfl,g1,R1,da,db⟩⟩) λ us s1 hq=>?_
  let(vs,H1,I1,r1,v,v2,F1,L1,ev,g1,R1,d1,d2):=hq;subst ev;let(q1,rfl,h1):=qE e5 d1;let(q2,rfl,h2):=qE e7 d2;have Z:=zd2 h1 h2;refine aMl (qs:=[q1,q2]) I1 r1 (by simp) (by simp) (aFb Z R1.sub) λ h' I2 hl ZH0 hz sz fp=>?_
  refine Calls.spliced_nil (aN6 hz λ h2 c R2 hk2 hS hR2=>?_);dsimp only at hk2 hS hR2 ⊢;have fr:H1 h'.objs.size=qx:=I2.hok.fresh (yAb _);have I3:Inv X aB σ (bF H1 h'.objs.size (.lst [])) {s1 with heap:=h2 }:=I2.laid (t':=s1.toks) hk2 (yAb _) ⟨yBv _,[],c,.nil,hS⟩;have nS:h'.objs.size ∉ ad L1:=R1.notin fr;let(os,ol,hO):=ZH0.to;refine @aQg _ _ _ L1 aB σ S2 _ X F1 _ _ X.A.in1 _ (show X.A.in1.in1.in1.handled=qx from I.ok.hd hc) (by simp) (by simp) hl Z nS cK (λ s' H' F' vs' hw=>hR2 s' ?_) _ 0 _ (bF H1 h'.objs.size (.lst [])) F1 [] rfl (yBv _)
   ⟨I3,bT.refl _,R1.lay fr,R1.sub.free fr,cO,.nil,λ b hb=>⟨by rw[bO (na (by have:=List.mem_range'_1.mp hb;rw[sz];exact xAj this.2))];exact(fp b hb).1,(fp b hb).2⟩⟩ ⟨ZH0.t.keep λ c o _ _ e=>hk2 _ _ e,⟨os,ol,hk2 _ _ hO⟩,_,_,hk2 _ _ hz,.inl ⟨rfl,rfl⟩⟩
  exact⟨.ref h'.objs.size,H',hw.inv,rfl,q F' L1 H' _ vs' (g1.trans ⟨hw.same,[],by simp⟩) hw.rel hw.free nS hw.lst hw.den⟩
 ·cases e
def aNn(K:FrG):V->List V->Hp->VK->Prop:=λ x vs H Q=>(∃ (a:qw) (ns:List Int) (k:Int),x=.ref a/\vs=[.int k]/\bX K H a (ns.map V.int)/\k∈ns/\Q (.int (ns.idxOf k:Nat)) H)\/(∃ (a:qw) (bs:List Bool) (k:Bool),x=.ref a/\vs=[.bl k]/\bX K H a (bs.map V.bl)/\k∈bs/\Q (.int (bs.idxOf k:Nat)) H)
def aFn(k:Bool):qj->Bool
 |.bool b=>b==k|_=>false
def aXm{bs:List Bool}:∀ {us:List qj},bA (bs.map V.bl) us->us=bs.map Value.bool:=by
 induction bs with
 |nil=>intro us r;rw[yDn] at r;cases r;rfl
 |cons b bs ih=>
   intro us r;rw[yAh] at r;cases r with
   |cons r1 r2=>
     cases r1;rw[ih r2];rfl
def aZj(aB:List (qw×Obj))(s:qv)(σ:L2.St)(H:Hp)(v:qj)(us:List qj)(Q:VK)(I:Inv X aB σ H s)(a:qw)(bs:List Bool)(k:Bool)(rx:aU (.ref a) v)(rv:bA [.bl k] us)(sq:bX X.K H a (bs.map V.bl))(hk:k∈bs)(q:Q (.int (bs.idxOf k:Nat)) H):qu (model X.prog X.w) X.A (call (.builtin "list.index") (v::us)) (EP X aB σ Q) X.xe s:=by
 cases rx;let(u,rfl,ru):=rv.one;cases ru;let(aG,r,pl,hz):=I.list sq;obtain rfl:=aXm r;let((cls,dd,data,sl),ho,hc,n,hd):=pl.isList;simp only at hc hd;subst hc hd;have hn:=nB;have hj:bs.idxOf k<↑bs:=List.idxOf_lt_length_iff.mpr hk;rw[yAc] at hz;refine jz yFm ⟨_,ho,rfl⟩ PySem.F.entry_list_index (yHg _ _)
  (SeqAt.list_indexAt a (bs.map Value.bool).toArray n dd sl (.bool k) (aFn k) (bs.idxOf k) (hj:) (!_) ?_ ?_) ⟨ho,λ y hy=>?_,⟨.int (bs.idxOf k:Nat),H,I.tok _,⟨_,rfl⟩,q⟩⟩
 ·simp[aFn]
 ·intro j hjs hlt;have:=List.not_of_lt_findIdx (p:=(· == k)) (xs:=bs) hlt;simp only[List.getElem_toArray,List.getElem_map,aFn];simpa using this
 ·have hy':y∈bs.map Value.bool:=(hy:)
  let(b,_,rfl):=List.mem_map.mp hy';exact SeqAt.EqAt.bool_bool b k
def aQ1:MtM X "list.index" (aNn X.K):=by
 intro aB s σ H x vs v us Q I rx rv h;rcases h with h|⟨a,bs,k,rfl,rfl,sq,hk,q⟩
 case inr=>exact aZj aB s σ H v us Q I a bs k rx rv sq hk q
 let(a,ns,k,rfl,rfl,sq,hk,q):=h;cases rx;let(u,rfl,ru):=rv.one;let(t,rfl):=ru;let(aG,r,pl,hz):=I.list sq;have hi:=aO3 r;let((cls,dd,data,sl),ho,hc,n,hd):=pl.isList;simp only at hc hd;subst hc hd;have cK:=hi.length;have hn:=nB;have hj:ns.idxOf k<↑ns:=List.idxOf_lt_length_iff.mpr hk;rw[yAc] at hz;refine jz yFm ⟨_,ho,rfl⟩ PySem.F.entry_list_index (yHg _ _)
  (SeqAt.list_indexAt a aG.toArray n dd sl (.int k t) (isInt k) (ns.idxOf k) (by simpa [cK] using hj) (!_) ?_ ?_) ⟨ho,λ y hy=>(eq_isInt k t hi y (hy:)).at _ _,⟨.int (ns.idxOf k:Nat),H,I.tok _,⟨_,rfl⟩,q⟩⟩
 ·show isInt k aG[ns.idxOf k]=true;rw[isInt_at k hi _ (!_) hj];simpa using List.getElem_idxOf hj
 ·intro j hjs hlt;show isInt k aG[j]=false;rw[isInt_at k hi j (hjs:) (!_)];exact ne_of_lt_idxOf hlt _
def yR(S:aC):W->W->Option (W×aC)
 |.d (.list xs),.d (.int k)=>(kU xs).bind λ ns=>if k∈ns then qz (.d (.int ((ns.idxOf k:Nat):Int)),S) else qx
 |.d (.list xs),.d (.bool k)=>(aA6 xs).bind λ ns=>if k∈ns then qz (.d (.int ((ns.idxOf k:Nat):Int)),S) else qx
 |_,_=>qx
def aPC(h:yR S o x=qz (w,S')):(∃ xs k ns,o=.d (.list xs)/\x=.d (.int k)/\kU xs=qz ns/\k∈ns/\w=.d (.int ((ns.idxOf k:Nat):Int))/\S'=S)\/(∃ xs k ns,o=.d (.list xs)/\x=.d (.bool k)/\aA6 xs=qz ns/\k∈ns/\w=.d (.int ((ns.idxOf k:Nat):Int))/\S'=S):=by
 unfold yR at h;split at h
 case h_2=>
  rename_i xs k;let(ns,e1,e):=aI h;by_cases c:k∈ns
  ·rw[if_pos c] at e;cases e;exact .inr ⟨xs,k,ns,rfl,rfl,e1,c,rfl,rfl⟩
  ·rw[if_neg c] at e;cases e
 ·rename_i xs k;let(ns,e1,e):=aI h;by_cases c:k∈ns
  ·rw[if_pos c] at e;cases e;exact .inl ⟨xs,k,ns,rfl,rfl,e1,c,rfl,rfl⟩
  ·rw[if_neg c] at e;cases e
 ·cases h
def aB7(fo fe:FE):FE:=f2 fo fe yR
def aWS{fo fe:FE}(σ:L2.St)(H:Hp)(Q:VK)(h:aP K (aB7 fo fe) σ H Q):tBM K "list" (aNn K) (aP K fo) (eD K (cT fe iK)) σ H Q:=by
 let(F,L,S,env,w,S',R,E,e,q):=h;let((wo,S1),e1,e):=aI e;let((we,S2),e2,e):=aI e;rcases aPC e with ⟨xs,k,ns,rfl,rfl,e5,hk,rfl,rfl⟩|⟨xs,k,ns,rfl,rfl,e5,hk,rfl,rfl⟩
 case inr=>
  refine⟨F,L,S,env,_,S1,R,E,e1,λ F1 L1 H1 o g1 R1 d1=>?_⟩;cases (show Den K F1 (.list xs) o from d1) with
  |lst sq dl=>
    obtain rfl:=aG2 dl e5;refine⟨.inl ⟨rfl,_,R1.sub.seq sq⟩,F1,L1,S1,env,[.d (.bool k)],S',R1,E.mono g1,?_,λ F2 L2 H2 vs g2 R2 d2=>?_⟩
    ·unfold cT;rw[e2];rfl
    ·cases d2 with
     |cons dd dr=>
       cases dr;cases (show Den K F2 (.bool k) _ from dd);exact .inr ⟨_,ns,k,rfl,rfl,R2.sub.seq (g2.f.seq sq),hk,q F2 L2 H2 _ (g1.trans g2) R2 (.int _)⟩
 refine⟨F,L,S,env,_,S1,R,E,e1,λ F1 L1 H1 o g1 R1 d1=>?_⟩;cases (show Den K F1 (.list xs) o from d1) with
 |lst sq dl=>
   obtain rfl:=aAB dl e5;refine⟨.inl ⟨rfl,_,R1.sub.seq sq⟩,F1,L1,S1,env,[.d (.int k)],S',R1,E.mono g1,?_,λ F2 L2 H2 vs g2 R2 d2=>?_⟩
   ·unfold cT;rw[e2];rfl
   ·cases d2 with
    |cons dd dr=>
      cases dr;cases (show Den K F2 (.int k) _ from dd);exact .inl ⟨_,ns,k,rfl,rfl,R2.sub.seq (g2.f.seq sq),hk,q F2 L2 H2 _ (g1.trans g2) R2 (.int _)⟩
def aE0:Bool->jx
 |true=>.NotIn|false=>.In
def wM:List D->Option (List Str)
 |[]=>qz []|.str i::r=>(wM r).bind λ l=>qz (i::l)|_::_=>qx
open PySem.Builtin PySem.Builtin.Str
def PEp(X:Cx)(e:qy)(t:TE):Prop:=∀ (aB:List (qw×Obj)) (s:qv) (σ:L2.St) (H:Hp) (Q:VK),Inv X aB σ H s->0<s.toks->t σ H Q->qu (model X.prog X.w) X.A (eval e X.env) (EP X aB σ Q) X.xe s
def PAp(X:Cx)(es:List qy)(t:TA):Prop:=∀ (pos:Pos) (aB:List (qw×Obj)) (s:qv) (σ:L2.St) (H:Hp) (Q:List V->Hp->Prop),Inv X aB σ H s->0<s.toks->t σ H Q->qu (model X.prog X.w) X.A (spliced (backTo pos (qo es X.env))) (λ us s2=>∃ vs H2,Inv X aB σ H2 s2/\bA vs us/\Q vs H2) X.xe s
def PEp.of{t:TE}(h:PE X e t):PEp X e t:=λ aB s σ H Q I _ q=>h aB s σ H Q I q
def PAp.of{t:TA}(h:PA X es t):PAp X es t:=λ pos aB s σ H Q I _ q=>h pos aB s σ H Q I q
def W0.w:W0->W
 |.d x=>.d x|.loc n=>.loc n|.dic n=>.dic n
def w0:W->Option W0
 |.d x=>qz (.d x)|.loc n=>qz (.loc n)|.dic n=>qz (.dic n)|.tpl ws=>(eX ws).map λ l=>.d (.tuple l)|_=>qx
def w0s:List W->Option (List W0)
 |[]=>qz []|w::r=>(w0 w).bind λ x=>(w0s r).map (x :: ·)
def aB9(fa:FE)(f:Str):FE:=λ env S=>(fa env S).bind λ p=>match p.1 with|.ob fs=>(fs.lookup f).map λ w=>(w.w,p.2)|_=>qx
def aB1(m:Str)(fo:FE)(fs:FA)(np:Nat)(call:List W->aC->Option (W×aC)):FE:=λ env S=>(fo env S).bind λ p=>match p.1 with
 |.ob fl=>if (fl.lookup m).isNone=true then (fs env p.2).bind λ q=>if q.1.length+1=np then call (.ob fl::q.1) q.2 else qx else qx
 |_=>qx
inductive Ini where
 |arg (i:Nat)|lst|dct
 deriving DecidableEq
def lC(ds:List D):List (Str×Ini)->aC->Option (List (Str×W0)×aC)
 |[],S=>qz ([],S)|(f,.arg i)::r,S=>(ds[i]?).bind λ d=>(lC ds r S).map λ p=>((f,.d d)::p.1,p.2)|(f,.lst)::r,S=>(lC ds r (S++[qz []])).map λ p=>((f,.loc ↑S)::p.1,p.2)|(f,.dct)::r,S=>(lC ds r (S++[qz []])).map λ p=>((f,.dic ↑S)::p.1,p.2)
def aBR(ini:List (Str×Ini))(np:Nat)(fs:FA):FE:=λ env S=>(fs env S).bind λ p=>if p.1.length+1=np then (jQ p.1).bind λ ds=>(lC ds ini p.2).map λ q=>(.ob q.1,q.2) else qx
def aB6(fs:FA):FE:=λ env S=>(fs env S).bind λ p=>(w0s p.1).bind λ ws=>if ↑ws<=qk then qz (.tpl ws,p.2) else qx
def aCc(fa:FE)(i:Nat):FE:=λ env S=>(fa env S).bind λ p=>match p.1 with|.tpl ws=>(ws[i]?).map λ w=>(w.w,p.2)|_=>qx
def hJ:List W0->Option (List bE)
 |[]=>qz []|.d (.int i)::r=>(hJ r).map (.inl i :: ·)|.d (.str x)::r=>(hJ r).map (.inr x :: ·)|_=>qx
def tQ:List D->Option (List bE)
 |[]=>qz []|.int i::r=>(tQ r).map (.inl i :: ·)|.str x::r=>(tQ r).map (.inr x :: ·)|_=>qx
def rJ:D->Option (List bE×Int)
 |.tuple [.tuple ks,.int i]=>(tQ ks).map λ l=>(l,i)|_=>qx
def aEE:∀ l:List bE,tQ (l.map kD)=qz l
 |[]=>rfl|.inl i::r=>by rw[yAh,kD,tQ,aEE r];rfl|.inr i::r=>by rw[yAh,kD,tQ,aEE r];rfl
def aRE(p:List bE×Int):rJ (kK p)=qz p:=by rw[kK,rJ,aEE];rfl
def aB0:∀ es:List (List bE×Int),(es.map kK).filterMap rJ=es
 |[]=>rfl|p::r=>by rw[yAh,yCi,aRE,aB0 r]
def jZ(S:aC)(n:Nat):Option (List (List bE×Int)):=match S[n]? with|some (qz ds)=>qz (ds.filterMap rJ)|_=>qx
def dH(es:List (List bE×Int))(k:List bE):Option Int:=(es.find? λ p=>decide (p.1=k)).map (·.2)
def nN(es:List (List bE×Int))(k:List bE)(i:Int):List (List bE×Int):=if (dH es k).isSome=true then es.map λ p=>if p.1=k then (p.1,i) else p else es++[(k,i)]
noncomputable abbrev dV(es:List (List bE×Int)):List (List bE×V):=es.map λ p=>(p.1,V.int p.2)
def aBg(k:List bE):∀ es:List (List bE×Int),jA (dV es) k=(dH es k).map V.int
 |[]=>rfl
 |p::r=>by
   unfold jA dH;rw[dV,yAh,yCo,yCo];by_cases h:p.1=k
   ·simp only[h,decide_true];rfl
   ·simp only[h,decide_false];exact aBg k r
def aVi(es:List (List bE×Int))(k:List bE)(i:Int):jD (dV es) k (.int i)=dV (nN es k i):=by
 unfold jD nN;have h:((dV es).any λ kv=>decide (kv.1=k))=(dH es k).isSome:=by
  rw[aDA,aBg];cases dH es k<;>rfl
 rw[h];split
 ·rw[dV,dV,yBd,yBd];refine yDj λ p _=>?_
  dsimp only[Function.comp];split<;>rfl
 ·rw[dV,dV,yAv];rfl
def uJ(n:Bool)(fk fd:FE):FE:=λ env S=>(fk env S).bind λ p=>(fd env p.2).bind λ q=>match p.1,q.1 with|.tpl ws,.dic m=>(hJ ws).bind λ k=>(jZ q.2 m).map λ es=>(.d (.bool (n != (dH es k).isSome)),q.2)|_,_=>qx
def aBV(fd fk:FE):FE:=λ env S=>(fd env S).bind λ p=>(fk env p.2).bind λ q=>match p.1,q.1 with|.dic m,.tpl ws=>(hJ ws).bind λ k=>(jZ q.2 m).bind λ es=>(dH es k).map λ i=>(.d (.int i),q.2)|_,_=>qx
def aBX(fd fk fv:FE):FS:=λ env S=>(fv env S).bind λ p=>(fd env p.2).bind λ q=>(fk env q.2).bind λ r=>match p.1,q.1,r.1 with
 |.d (.int i),.dic m,.tpl ws=>(hJ ws).bind λ k=>(jZ r.2 m).bind λ es=>if ↑es<qk then qz (.nx env,r.2.set m (qz ((nN es k i).map kK))) else qx
 |_,_,_=>qx
def aMb:FE:=λ _ S=>qz (.dic ↑S,S++[qz []])
def kF.w{F:Hp}{L:Lx}{w:W0}{v:V}(h:kF K F L w v):dM K F L w.w v:=by cases w<;>exact h
def aVP(h:dM K F L w v)(e:w0 w=qz x):kF K F L x v:=by
 cases w with
 |d y=>cases e;exact h|loc n=>cases e;exact h|dic n=>cases e;exact h
 |tpl ws=>
   let(l,e1,e2):=map_some (show(eX ws).map _=qz x from e);cases e2;let(a,vs,rfl,h1,h2):=h;exact .tup (.inl (.inl h1)) (vZ h2 e1)
 |exc c r=>cases e|ob fs=>cases e
section
variable {K:FrG}{F:Hp}{L:Lx}
def aJM:∀ {ws:List W}{xs:List V}{zs:List W0},WDenL K F L ws xs->w0s ws=qz zs->pL K F L zs xs
 |_,_,_,.nil,e=>by cases e;exact .nil
 |w::r,_,_,.cons h t,e=>by
   let(x,e1,e):=aI e;let(l,e2,e3):=map_some e;cases e3;exact .cons (aVP h e1) (aJM t e2)
def aH2{f:Str}:∀ {fs:List (Str×W0)}{vs:List (Str×V)}{w:W0},nF K F L fs vs->fs.lookup f=qz w->∃ v,vs.lookup f=qz v/\kF K F L w v
 |[],_,_,.nil,e=>by cases e
 |(g,x)::r,(g',y)::r',w,.cons h t,e=>by
   let(h1,h2):=h;dsimp only at h1 h2;subst h1;rw[yBl] at e ⊢;split at e
   ·cases e;exact⟨y,rfl,h2⟩
   ·exact aH2 t e
def aJ5{f:Str}:∀ {fs:List (Str×W0)}{vs:List (Str×V)},nF K F L fs vs->fs.lookup f=qx->vs.lookup f=qx
 |[],_,.nil,e=>rfl
 |(g,x)::r,(g',y)::r',.cons h t,e=>by
   let(h1,h2):=h;dsimp only at h1 h2;subst h1;rw[yBl] at e ⊢;split at e
   ·cases e
   ·exact aJ5 t e
def aLd:∀ {ws:List W0}{vs:List V}{i:Nat}{w:W0},pL K F L ws vs->ws[i]?=qz w->∃ v,vs[i]?=qz v/\kF K F L w v
 |_,_,_,_,.nil,e=>by simp at e|_,_,0,_,.cons h _,e=>by simp at e;subst e;exact⟨_,rfl,h⟩
 |_,_,i+1,w,.cons _ r,e=>by
   let(x,h1,h2):=aLd (i:=i) (w:=w) r (e:);exact⟨x,by simpa using h1,h2⟩
def aKb:∀ {ws:List W0}{vs:List V},pL K F L ws vs->↑ws=↑vs
 |_,_,.nil=>rfl|_,_,.cons _ r=>congrArg (· + 1) (aKb r)
def vY:∀ {ws:List W0}{vs:List V}{k:List bE},pL K F L ws vs->hJ ws=qz k->vs=k.map kV
 |[],_,_,.nil,e=>by cases e;rfl
 |.d (.int i)::r,_,_,.cons h t,e=>by
   let(l,e1,e2):=map_some (show(hJ r).map _=_ from e);cases e2;cases (show Den K F (.int i) _ from h);rw[vY t e1];rfl
 |.d (.str i)::r,_,_,.cons h t,e=>by
   let(l,e1,e2):=map_some (show(hJ r).map _=_ from e);cases e2;cases (show Den K F (.str i) _ from h);rw[vY t e1];rfl
 |.loc _::_,_,_,.cons _ _,e=>by cases e|.dic _::_,_,_,.cons _ _,e=>by cases e|.d .none::_,_,_,.cons _ _,e=>by cases e|.d (.bool _)::_,_,_,.cons _ _,e=>by cases e|.d (.list _)::_,_,_,.cons _ _,e=>by cases e|.d (.tuple _)::_,_,_,.cons _ _,e=>by cases e|.d (.dict _)::_,_,_,.cons _ _,e=>by cases e
end
def aQ6(h:jZ S n=qz es):∃ ds,S[n]?=qz (qz ds)/\es=ds.filterMap rJ:=by
 unfold jZ at h;split at h
 ·rename_i ds e;cases h;exact⟨ds,e,rfl⟩
 ·cases h
def aEz(R:Rel K F L S H)(h:jZ S n=qz es)(e:L[n]?=qz (a,true)):F a=qx/\H a=qz (.dT (dV es)):=by let(ds,h1,rfl):=aQ6 h;let(hF,es,rfl,h2):=R.dic n a ds e h1;rw[aB0];exact⟨hF,h2⟩
abbrev lJ(K:FrG)(C:qw):Prop:=yCd K zy "Maker" = qz (qz (.ref C))
def aMm(a:lJ K C)(b:lJ K C'):C'=C:=by have:=a.symm.trans b;cases this;rfl
def aW7{fa:FE}(ha:PE X a (aP X.K fa))(hb:attributeBase a f X.env (eval a X.env)=eval a X.env)(hm:lJ X.K C)(hc:Cls X.K C)(hn:NoAttr X.K C f):PE X (.Attribute a f pos) (aP X.K (aB9 fa f)):=
 PE.weak (aVL ha hb) λ σ H Q aX=>by
  let(F,L,S,env,w,S',R,E,e,q):=aX;let((w1,S1),e1,e):=aI e;dsimp only at e;split at e
  ·rename_i fs;let(w0,e2,e3):=map_some e;cases e3;refine⟨F,L,S,env,_,_,R,E,e1,λ F1 L1 H1 v g1 R1 d1=>?_⟩;let(p,C',dx,vs,rfl,h1,h2,h3):=d1;obtain rfl:=aMm hm h2;let(u,h4,h5):=aH2 h3 e2;exact⟨p,_,dx,vs,u,rfl,R1.sub _ _ h1,hc,hn,h4,q F1 L1 H1 u g1 R1 h5.w⟩
  ·cases e
def aVZ{fo:FE}{fs:FA}{call:List W->aC->Option (W×aC)}(hm:lJ K C)(σ:St)(H:Hp)(Q:VK)(h:aP K (aB1 m fo fs np call) σ H Q):aLr C m (pS K np call) [] E0 (aP K fo) (eD K fs) σ H Q:=by
 let(F,L,S,env,w,S',R,E,e,q):=h;let((w1,S1),e1,e):=aI e;dsimp only at e;split at e
 ·rename_i fl;split at e
  ·rename_i hn;let((ws,S2),e2,e):=aI e;dsimp only at e;split at e
   ·rename_i hl;refine⟨F,L,S,env,_,_,R,E,e1,λ F1 L1 H1 v g1 R1 d1=>?_⟩;have d1':=d1;let(p,C',dx,vs,rfl,h1,h2,h3):=d1;obtain rfl:=aMm hm h2;refine⟨p,dx,vs,rfl,R1.sub _ _ h1,aJ5 h3 (Option.isNone_iff_eq_none.mp hn),F1,L1,S1,env,ws,S2,R1,E.mono g1,e2,λ F2 L2 H2 us g2 R2 d2=>?_⟩;exact⟨F2,L2,S2,.ob fl::ws,w,S',by rw[yAl];exact hl,R2,.cons (d1'.mono g2) (by rw[yBz];exact d2),e,λ F3 L3 H3 v g3 R3 d3=>q F3 L3 H3 v ((g1.trans g2).trans g3) R3 d3⟩
   ·cases e
  ·cases e
 ·cases e
def aYm{fs:FA}(h:PA X es (eD X.K fs)):PE X (.Tuple es k pos) (aP X.K (aB6 fs)):=
 PE.weak (aKk h) λ σ H Q aX=>by
  let(F,L,S,env,w,S',R,E,e,q):=aX;let((ws,S1),e1,e2):=aI e;let(zs,e3,e4):=aI e2;split at e4
  ·rename_i hz;cases e4;refine⟨F,L,S,env,ws,_,R,E,e1,λ F1 L1 H1 vs g1 R1 d1=>?_⟩;have dl:=aJM d1 e3;refine⟨by rw[<- aKb dl];exact hz,λ p hp=>?_⟩;have g2:Gr F1 L1 (bF F1 p (.tup vs)) L1:=Gr.new (R1.sub.free hp);exact q _ L1 _ _ (g1.trans g2) (R1.new hp) ⟨p,vs,rfl,cO,L2.Paired.mapP dl λ _ _ z=>z.mono g2⟩
  ·cases e4
def aWM{pos:Pos}{a b:qy}{i:Nat}{fa:FE}(ha:PE X a (aP X.K fa))(hb:PE X b (aP X.K (fC (.int i))))(hs:qL b):PE X (.Subscript a b pos) (aP X.K (aCc fa i)):=
 PE.weak (aE9 aKd ha hb hs) λ σ H Q aX=>by
  let(F,L,S,env,w,S',R,E,e,q):=aX;let((w1,S1),e1,e):=aI e;dsimp only at e;split at e
  ·rename_i ws;let(w0,e2,e3):=map_some e;cases e3;refine⟨F,L,S,env,_,_,R,E,e1,λ F1 L1 H1 v g1 R1 d1=>⟨F1,L1,_,env,.d (.int i),_,R1,E.mono g1,rfl,λ F2 L2 H2 u g2 R2 d2=>?_⟩⟩;let(p,vs,rfl,h1,h2):=d1.mono g2;let(u',h3,h4):=aLd h2 e2;cases (show Den X.K F2 (.int i) u from d2);exact⟨p,vs,i,u',rfl,rfl,cH.of (R2.sub _ _ h1),aSs h3,q F2 L2 H2 u' (g1.trans g2) R2 h4.w⟩
  ·cases e
def aVT:PE X (.Dict [] [] pos) (aP X.K aMb):=
 PE.weak aIp λ σ H Q aX=>by
  let(F,L,S,env,w,S',R,E,e,q):=aX;cases e;intro p hp;refine q F _ _ _ Gr.newLoc (R.newDic hp) ⟨p,?_,rfl⟩;rw[<- R.len,yAf (yAb _),yAx];rfl
def aLD{fa fb:FE}(hu:X.A.units+1<cLine)(ha:PE X a (aP X.K fa))(hb:PE X b (aP X.K fb)):PC X (aE0 n) a b (aP X.K (uJ n fa fb)):=by
 have key:∀ (σ:St) (H:Hp) (Q:VK),aP X.K (uJ n fa fb) σ H Q->aP X.K fa σ H λ y H1=>aP X.K fb σ H1 λ x H2=>∃ a o,x=.ref a/\jC H2 a y o/\Q (.bl (n != o.isSome)) H2:=λ σ H Q aX=>by
  let(F,L,S,env,w,S',R,E,e,q):=aX;let((w1,S1),e1,e):=aI e;let((w2,S2),e2,e):=aI e;dsimp only at e e2;split at e
  ·rename_i ws m;let(k,e3,e):=aI e;let(es,e4,e5):=map_some e;cases e5;refine⟨F,L,S,env,_,_,R,E,e1,λ F1 L1 H1 v g1 R1 d1=>⟨F1,L1,_,env,_,_,R1,E.mono g1,e2,λ F2 L2 H2 u g2 R2 d2=>?_⟩⟩;let(p,vs,rfl,h1,h2):=d1.mono g2;let(a,ea,rfl):=d2;obtain rfl:=vY h2 e3;let(_,hd):=aEz R2 e4 ea;refine⟨a,_,rfl,jC.t hd (R2.sub _ _ h1),?_⟩;rw[aBg];have:((dH es k).map V.int).isSome=(dH es k).isSome:=by cases dH es k<;>rfl
   rw[this];exact q F2 L2 H2 _ (g1.trans g2) R2 (.bl _)
  ·cases e
 cases n with
 |false=>
   intro aB s σ H Q I h;refine aV1 hu ha hb aB s σ H Q I ?_;let(F,L,S,env,w,S',R,E,e,q):=key σ H Q h;refine⟨F,L,S,env,w,S',R,E,e,λ F1 L1 H1 v g1 R1 d1=>?_⟩;let(F,L,S,env,w,S',R,E,e,q2):=q F1 L1 H1 v g1 R1 d1;refine⟨F,L,S,env,w,S',R,E,e,λ F1 L1 H1 v g1 R1 d1=>?_⟩;let(a,o,h1,h2,h3):=q2 F1 L1 H1 v g1 R1 d1;exact⟨a,o,h1,h2,by simpa using h3⟩
 |true=>
   intro aB s σ H Q I h;refine aPY hu ha hb aB s σ H Q I ?_;let(F,L,S,env,w,S',R,E,e,q):=key σ H Q h;refine⟨F,L,S,env,w,S',R,E,e,λ F1 L1 H1 v g1 R1 d1=>?_⟩;let(F,L,S,env,w,S',R,E,e,q2):=q F1 L1 H1 v g1 R1 d1;refine⟨F,L,S,env,w,S',R,E,e,λ F1 L1 H1 v g1 R1 d1=>?_⟩;let(a,o,h1,h2,h3):=q2 F1 L1 H1 v g1 R1 d1;exact⟨a,o,h1,h2,by simpa using h3⟩
def aVk{fa fb:FE}(hu:X.A.units+1<cLine)(ha:PE X a (aP X.K fa))(hb:PE X b (aP X.K fb))(hs:qL b):PE X (.Subscript a b pos) (aP X.K (aBV fa fb)):=
 PE.weak (aS2 hu ha hb hs) λ σ H Q aX=>by
  let(F,L,S,env,w,S',R,E,e,q):=aX;let((w1,S1),e1,e):=aI e;let((w2,S2),e2,e):=aI e;dsimp only at e e2;split at e
  ·rename_i m ws;let(k,e3,e):=aI e;let(es,e4,e):=aI e;let(i,e5,e6):=map_some e;cases e6;refine⟨F,L,S,env,_,_,R,E,e1,λ F1 L1 H1 v g1 R1 d1=>⟨F1,L1,_,env,_,_,R1,E.mono g1,e2,λ F2 L2 H2 u g2 R2 d2=>?_⟩⟩;let(a,ea,rfl):=d1.mono g2;let(p,vs,rfl,h1,h2):=d2;obtain rfl:=vY h2 e3;let(_,hd):=aEz R2 e4 ea;refine⟨a,.int i,rfl,?_,q F2 L2 H2 _ (g1.trans g2) R2 (.int _)⟩;have:=jC.t hd (R2.sub _ _ h1);rw[aBg,e5] at this;exact this
  ·cases e
def aVd{pos:Pos}{fo fi fe:FE}(hu:X.A.units+1<cLine)(ho:PE X o (aP X.K fo))(hi:PE X i (aP X.K fi))(he:PE X e (aP X.K fe))(hs:swapsWith e (qz (.Subscript o i pos')) pos.line X.env=pure false) :
 PS X (.Assign [.Subscript o i pos'] e pos) (cZ X.K (aBX fo fi fe)):=
 PS.weak (aRr hu ho hi he hs) λ D σ H h=>by
  let(F,L,S,env,fl,S',R,E,e,q):=kS h;let((w1,S1),e1,e):=aI e;let((w2,S2),e2,e):=aI e;let((w3,S3),e3,e):=aI e;dsimp only at e e2 e3;split at e
  ·let(k,e4,e):=aI e;let(es,e5,e):=aI e;split at e
   ·rename_i hl;cases e;refine⟨F,L,S,env,_,_,R,E,e1,λ F1 L1 H1 v g1 R1 d1=>⟨F1,L1,_,env,_,_,R1,E.mono g1,e2,λ F2 L2 H2 u g2 R2 d2=>⟨F2,L2,_,env,_,_,R2,E.mono (g1.trans g2),e3,λ F3 L3 H3 y g3 R3 d3=>?_⟩⟩⟩;cases (show Den X.K F1 (.int _) v from d1);let(a,ea,rfl):=d2.mono g3;let(p,vs,rfl,h1,h2):=d3;obtain rfl:=vY h2 e4;let(hF,hd):=aEz R3 e5 ea;refine⟨a,_,rfl,rH.t hd (R3.sub _ _ h1) (by rw[yAc];exact hl),?_⟩;rw[aVi];exact q F3 L3 _ ((g1.trans g2).trans g3) (R3.putC ea hF (λ z=>(nomatch z)) λ _=>⟨nN es k _,rfl,rfl⟩) σ (E.mono ((g1.trans g2).trans g3))
   ·cases e
  ·cases e
def aNs:Ini->TE
 |.arg i=>zA (i+1)|.lst=>aFl aFx|.dct=>aKe
def yS(K:FrG):List (Str×Ini)->TS
 |[]=>aLY|p::r=>aMT (aNe K (zA 0) (aNs p.2) p.1) (yS K r)
def aIT:∀ {vs:List (Str×V)},f ∉ vs.map (·.1)->fP f v vs=vs++[(f,v)]
 |[],_=>rfl
 |(g,x)::r,h=>by
   rw[yAh,yCa,not_or] at h;rw[fP,if_neg λ z=>h.1 z.symm,aIT h.2];rfl
section
variable {K:FrG}{F:Hp}{L:Lx}
def aDK:∀ {fs:List (Str×W0)}{vs:List (Str×V)},nF K F L fs vs->vs.map (·.1)=fs.map (·.1)
 |_,_,.nil=>rfl|_,_,.cons h t=>by rw[yAh,yAh,aDK t,h.1]
def aJt:∀ {fs:List (Str×W0)}{vs:List (Str×V)}{f:Str}{w:W0}{v:V},nF K F L fs vs->kF K F L w v->nF K F L (fs++[(f,w)]) (vs++[(f,v)])
 |_,_,_,_,_,.nil,h=>.cons ⟨rfl,h⟩ .nil|_,_,_,_,_,.cons a t,h=>.cons a (aJt t h)
end
def aJ1{L:Lx}{S:aC}(h:↑L=↑S):(L++[q])[↑S]?=qz q:=by rw[<- h,yAf (yAb _),yAx];rfl
def aJL{C x dx:qw}{ds:List D}{D:Ends}{σ:St}(hc:Cls K C)(hσ:σ[0]?=qz (qz (.ref x))):∀ (ini:List (Str×Ini)) {S S':aC}{fs fs0:List (Str×W0)}{F H:Hp}{L:Lx}{vs0:List (Str×V)},
 (∀ p∈ini,NoAttr K C p.1)->(fs0.map (·.1)++ini.map (·.1)).Nodup->fs0.length+ini.length<=1000->Rel K F L S H->F x=qx->x ∉ ad L->H x=qz (.ins C dx vs0)->nF K F L fs0 vs0 ->
 (∀ (i:Nat) (d:EV.D),ds[i]?=qz d->∃ v,σ[i+1]?=qz (qz v)/\Den K F d v)->lC ds ini S=qz (fs,S') ->
 (∀ F' L' H' vs',Gr F L F' L'->Rel K F' L' S' H'->F' x=qx->x ∉ ad L'->H' x=qz (.ins C dx vs')->nF K F' L' (fs0++fs) vs'->D.nx σ H')->yS K ini D σ H
 |[],S,S',fs,fs0,F,H,L,vs0,hn,nd,hl,R,hF,hL,hx,hf,ha,e,q=>by
   cases e;exact q F L H vs0 Gr.refl R hF hL hx (by rw[yBz];exact hf)
 |(f,i)::r,S,S',fs,fs0,F,H,L,vs0,hn,nd,hl,R,hF,hL,hx,hf,ha,e,q=>by
   have nf:f ∉ vs0.map (·.1):=by
    rw[aDK hf];intro z;exact(List.nodup_append.mp nd).2.2 f z f (by simp) rfl
   have lf:vs0.length<1000:=by
    have h1:=congrArg yFb (aDK hf);rw[yAc,yAc] at h1;rw[yAl] at hl;omega
   have nd':∀ w:W0,((fs0++[(f,w)]).map (·.1)++r.map (·.1)).Nodup:=λ w=>by
    rw[yAv,yBp];exact nd
   have hl':∀ w:W0,(fs0++[(f,w)]).length+r.length<=1000:=λ w=>by
    rw[yAo,yBy];rw[yAl] at hl;omega
   have hn':∀ p∈r,NoAttr K C p.1:=λ p hp=>hn p (xAf _ hp)
   have step:∀ {y:V}{w:W0}{F1 H1:Hp}{L1:Lx}{S1:aC}{fs1:List (Str×W0)},Gr F L F1 L1->Rel K F1 L1 S1 H1->F1 x=qx->x ∉ ad L1->H1 x=qz (.ins C dx vs0)->kF K F1 L1 w y->lC ds r S1=qz (fs1,S')->fs=(f,w)::fs1 ->
    zA 0 σ H1 λ x' H2=>∃ a C' dx' fs',x'=.ref a/\H2 a=qz (.ins C' dx' fs')/\Cls K C'/\NoAttr K C' f/\fs'.length<1000/\yS K r D σ (bF H2 a (.ins C' dx' (fP f y fs'))):=λ {y w F1 H1 L1 S1 fs1} g R1 hF1 hL1 hx1 dw e1 efs=>by
    refine⟨.ref x,hσ,x,C,dx,vs0,rfl,hx1,hc,hn _ xAc,lf,?_⟩;rw[aIT nf];refine aJL hc hσ r hn' (nd' w) (hl' w) (R1.relay hF1 hL1) hF1 hL1 cO (aJt (L2.Paired.mapP hf λ _ _ z=>⟨z.1,z.2.mono g⟩) dw) (λ i d z=>?_) e1 λ F' L' H' vs' g' R' h1 h2 h3 h4=>q F' L' H' vs' (g.trans g') R' h1 h2 h3 ?_
    ·let(v,h1,h2):=ha i d z;exact⟨v,h1,Den.mono g.f h2⟩
    ·rw[efs];rw[yBp] at h4;exact h4
   cases i with
   |arg i=>
     let(d,e1,e):=aI (show(ds[i]?).bind (λ d=>(lC ds r S).map λ p=>((f,W0.d d)::p.1,p.2))=qz (fs,S') from e);let((fs1,S1),e2,e3):=map_some e;cases e3;let(v,h1,h2):=ha i d e1;exact⟨v,h1,step (w:=.d d) Gr.refl R hF hL hx h2 e2 rfl⟩
   |lst=>
     let((fs1,S1),e2,e3):=map_some (show(lC ds r (S++[qz []])).map (λ p=>((f,W0.loc ↑S)::p.1,p.2))=qz (fs,S') from e);cases e3;refine⟨yBv _,λ p hp=>?_⟩;have ne:x≠p:=eP hx hp;refine step (w:=.loc ↑S) Gr.newLoc (R.newLoc hp .nil) hF ?_ (by rw[bO ne];exact hx) ⟨p,aJ1 R.len,rfl⟩ e2 rfl;rw[ad,yAv,List.mem_append,not_or];exact⟨hL,by simpa using ne⟩
   |dct=>
     let((fs1,S1),e2,e3):=map_some (show(lC ds r (S++[qz []])).map (λ p=>((f,W0.dic ↑S)::p.1,p.2))=qz (fs,S') from e);cases e3;intro p hp;have ne:x≠p:=eP hx hp;refine step (w:=.dic ↑S) Gr.newLoc (R.newDic hp) hF ?_ (by rw[bO ne];exact hx) ⟨p,aJ1 R.len,rfl⟩ e2 rfl;rw[ad,yAv,List.mem_append,not_or];exact⟨hL,by simpa using ne⟩
def spM(K:FrG)(C:qw)(ini:List (Str×Ini))(np:Nat):Sp:=λ vs H Q _=>∃ F L S x dx ds us fs S',vs=.ref x::us/\↑us+1=np/\Rel K F L S H/\F x=qx/\x ∉ ad L/\H x=qz (.ins C dx [])/\DenL K F ds us/\lC ds ini S=qz (fs,S') /\
 ∀ F' L' H' vs',Gr F L F' L'->Rel K F' L' S' H'->F' x=qx->x ∉ ad L'->H' x=qz (.ins C dx vs')->nF K F' L' fs vs'->Q .non H'
def aUW{Q:VK}{E:XK}(hc:Cls K C)(hn:∀ p∈ini,NoAttr K C p.1)(nd:(ini.map (·.1)).Nodup)(hl:ini.length<=1000)(h:spM K C ini np vs H Q E) :
 yS K ini {nx:=λ _ H'=>Q .non H',rt:=Q } (L2.start N vs) H:=by
 let(F,L,S,x,dx,ds,us,fs,S',rfl,hu,R,hF,hL,hx,dl,e,q):=h;refine aJL (ds:=ds) hc (x:=x) (dx:=dx) ?_ ini (fs0:=[]) (vs0:=[]) hn nd (by rw[yBr,yEk];exact hl) R hF hL hx .nil (λ i d z=>?_) e λ F' L' H' vs' g R' h1 h2 h3 h4=>q F' L' H' vs' g R' h1 h2 h3 h4
 ·rfl
 ·let(v,h1,h2):=dl.get z;refine⟨v,?_,h2⟩;unfold L2.start;rw[yAh,yGe,yCx,xAm (by rw[yAc];exact(gIm h1).1),yAd,h1];rfl
def aUA{fs:FA}(hm:lJ K C)(σ:St)(H:Hp)(Q:VK)(h:aP K (aBR ini np fs) σ H Q):aMC C (spM K C ini np) [] E0 (eD K fs) σ H Q:=by
 let(F,L,S,env,w,S',R,E,e,q):=h;let((ws,S1),e1,e):=aI e;dsimp only at e;split at e
 ·rename_i hl;let(ds,e2,e):=aI e;let((fl,S2),e3,e4):=map_some e;cases e4;refine⟨F,L,S,env,ws,S1,R,E,e1,λ F1 L1 H1 vs g1 R1 d1 x dx hx hd ne=>?_⟩;have R2:=R1.lay (o:=.own x) hd;have hx2:bF H1 dx (.own x) x=qx:=by rw[bO λ z=>ne z.symm];exact hx
  have R3:=R2.lay (o:=.ins C dx []) hx2;rw[yBz];refine⟨F1,L1,S1,x,dx,ds,vs,fl,S2,rfl,by rw[<- d1.length];exact hl,R3,R1.sub.free hx,R1.notin hx,cO,qI d1 e2,e3,λ F' L' H' vs' g' R' h1 h2 h3 h4=>⟨rfl,?_⟩⟩;have g2:Gr F' L' (bF F' x (.ins C dx vs')) L':=Gr.new h1;exact q _ L' H' _ ((g1.trans g').trans g2) (R'.adoptO h1 h2 h3) ⟨x,C,dx,vs',rfl,cO,hm,L2.Paired.mapP h4 λ _ _ z=>⟨z.1,z.2.mono g2⟩⟩
 ·cases e
def zH(xs:List D)(k:D):Option D:=match wM xs,k with|some _,.str k=>qz (.int (Spec.countIn (.str k) xs))|_,_=>qx
def aPy{xs:List D}(h:zH xs k=qz z):∃ ys s,wM xs=qz ys/\k=.str s/\z=.int (Spec.countIn (.str s) xs):=by
 unfold zH at h;split at h
 ·rename_i ys s e;cases h;exact⟨ys,s,e,rfl,rfl⟩
 ·cases h
def aHc:∀ {xs:List D}{ys:List Str},wM xs=qz ys->xs=ys.map yDc
 |[],_,e=>by cases e;rfl
 |.str x::r,_,e=>by
   let(l,e1,e2):=aI (show(wM r).bind (λ l=>qz (x::l))=_ from e);cases e2;rw[aHc e1];rfl
 |.none::_,_,e=>by cases e|.bool _::_,_,e=>by cases e|.int _::_,_,e=>by cases e|.list _::_,_,e=>by cases e|.tuple _::_,_,e=>by cases e|.dict _::_,_,e=>by cases e
def aE6:∀ {ys:List Str}{us:List qj},bA (ys.map V.str) us->StrsAre us ys
 |[],_,.nil=>.nil|y::r,_,.cons ⟨t,h⟩ q=>by subst h;exact .cons y t (aE6 q)
def aR1{Q:VK}{ys:List Str}(I:Inv X aB σ H s)(sq:cH X.K H a (ys.map V.str))(q:Q (.int (Spec.countIn (.str k) (ys.map yDc))) H) :
 qu (model X.prog X.w) X.A (call (.builtin "tuple.count") [.ref a,.str k t]) (EP X aB σ Q) X.xe s:=by let(aG,r,((cls,dd,data,sl),ho,hc,n,hd),hz):=I.tuple sq;simp only at hc hd;subst hc hd;have hs:=aE6 r;refine jz PySem.F.slot_tuple_count ⟨_,ho,rfl⟩ PySem.F.entry_tuple_count (PySem.F.args_tuple_count_2 _ _) (SeqAt.tuple_countAt a aG.toArray n dd sl (.str k t) (isStrOf k)) ⟨ho,λ y hy=>(eq_isStrOf k t hs y (hy:)).at _ _,?_⟩;refine⟨.int (Spec.countIn (.str k) (ys.map yDc)),H,I.tok _,⟨s.toks,?_⟩,q⟩;rw[<- countP_isStrOf_map k hs]
def aSV{Q:VK}{ys:List Str}(I:Inv X aB σ H s)(sq:bX X.K H a (ys.map V.str))(q:Q (.int (Spec.countIn (.str k) (ys.map yDc))) H) :
 qu (model X.prog X.w) X.A (call (.builtin "list.count") [.ref a,.str k t]) (EP X aB σ Q) X.xe s:=by let(aG,r,pl,hz):=I.list sq;let((cls,dd,data,sl),ho,hc,n,hd):=pl.isList;simp only at hc hd;subst hc hd;have hs:=aE6 r;refine jz PySem.F.slot_list_count ⟨_,ho,rfl⟩ PySem.F.entry_list_count (PySem.F.args_list_count_2 _ _) (SeqAt.list_countAt a aG.toArray n dd sl (.str k t) (isStrOf k)) ⟨ho,λ y hy=>(eq_isStrOf k t hs y (hy:)).at _ _,?_⟩;refine⟨.int (Spec.countIn (.str k) (ys.map yDc)),H,I.tok _,⟨s.toks,?_⟩,q⟩;rw[<- countP_isStrOf_map k hs]
def aNC(K:FrG):V->List V->Hp->VK->Prop:=λ x vs H Q=>∃ (a:qw) (ys:List Str) (k:Str),x=.ref a/\vs=[.str k]/\bX K H a (ys.map V.str)/\Q (.int (Spec.countIn (.str k) (ys.map yDc))) H
def aP3:MtM X "list.count" (aNC X.K):=by intro aB s σ H x vs v us Q I rx rv h;let(a,ys,k,rfl,rfl,sq,q):=h;cases rx;let(u,rfl,ru):=rv.one;let(t,rfl):=ru;exact aSV I sq q
def tX(fs:FA)(fa:FE):FE:=λ env S=>(fs env S).bind λ p=>(jQ p.1).bind λ xs=>if ↑xs<=qk then (fa env p.2).bind λ q=>(wd q.1).bind λ k=>(zH xs k).map λ z=>(.d z,q.2) else qx
def aHV{fs:FA}{fa:FE}(h:tX fs fa env S=qz (w,S')):∃ (ws:List W) (S1:aC) (ys:List Str) (wk:W) (k:Str),fs env S=qz (ws,S1)/\jQ ws=qz (ys.map yDc)/\(ys.map yDc).length<=qk/\fa env S1=qz (wk,S')/\wd wk=qz (.str k)/\w=.d (.int (Spec.countIn (.str k) (ys.map yDc))):=by
 let((ws,S1),e1,h):=aI h;let(xs,e2,h):=aI h;split at h
 ·rename_i hz;let((wk,S2),e3,h):=aI h;let(k,e4,h):=aI h;let(z,e5,e6):=map_some h;let(ys,s,e7,rfl,rfl):=aPy e5;obtain rfl:=aHc e7;cases e6;exact⟨ws,S1,ys,wk,s,e1,e2,hz,e3,e4,rfl⟩
 ·cases h
def aDM:∀ {ys:List Str}{xs:List V},DenL K F (ys.map yDc) xs->xs=ys.map V.str
 |[],_,.nil=>rfl|y::r,_,.cons h t=>by cases h;rw[aDM t];rfl
def aVO{apos cpos:Pos}{fs:FA}{fa:FE}(hs:PA X es (eD X.K fs))(ha:PE X e (aP X.K fa))(hline:(apos.endLine==cpos.line)=true)(st:qo [e] X.env=(false,eval e X.env)::qo [] X.env) :
 PE X (.Call (.Attribute (.Tuple es k tpos) "count" apos) [e] [] cpos) (aP X.K (tX fs fa)):=by
 rintro aB s σ H Q I ⟨F,L,S,env,w,S',R,E,eq,q⟩;let(ws,S1,ys,wk,kk,e1,e2,hz,e3,e4,rfl):=aHV eq;refine wpAny_Call_method_late (by rfl) (by rw[st];rfl) hline rfl (wpAny_Tuple_spliced (bD (hs tpos aB s σ H (λ vs H1=>∃ F1 L1,Gr F L F1 L1/\Rel X.K F1 L1 S1 H1/\WDenL X.K F1 L1 ws vs) I ⟨F,L,S,env,ws,S1,R,E,e1,λ F1 L1 H1 vs g1 R1 d1=>⟨F1,L1,g1,R1,d1⟩⟩) λ us s1 hPq51=>?_));let(vs,H1,I1,r,F1,L1,g1,R1,d1):=hPq51;have dl:=qI d1 e2;obtain rfl:=aDM dl;have cK:↑us<=qk:=by rw[<- r.length,<- dl.length];exact hz
 refine⟨cK,?_⟩;have hf:H1 s1.heap.objs.size=qx:=I1.hok.fresh (yAb _);have ob:=xAd (o:={cls:=.type "tuple",data:=.seq us.toArray 0 }) s1.heap rfl;have I2:Inv X aB σ (bF H1 s1.heap.objs.size (.tup (ys.map V.str))) {s1 with heap:=s1.heap.push {cls:=.type "tuple",data:=.seq us.toArray 0 } }:=
  I1.laid (t':=s1.toks) (λ b u e=>hpS _ e) (yAb _) ⟨by rw[r.length];exact cK,us,r,⟨_,ob,rfl,_,rfl⟩⟩
 refine⟨"tuple","tuple.count",PySem.F.plainAttrs_tuple,PySem.F.slot_tuple_count,PySem.F.type_tuple_count,⟨_,ob,rfl⟩,λ a e=>by cases e;exact⟨_,ob,rfl⟩,?_⟩;have g2:Gr F1 L1 (bF F1 s1.heap.objs.size (.tup (ys.map V.str))) L1:=Gr.new (R1.sub.free hf);have hA:=ha aB _ σ _ (λ v H2=>∃ F2 L2,Gr (bF F1 s1.heap.objs.size (.tup (ys.map V.str))) L1 F2 L2/\Rel X.K F2 L2 S' H2/\dM X.K F2 L2 wk v) I2 ⟨_,L1,S1,env,wk,S',R1.new hf,(E.mono g1).mono g2,e3,λ F2 L2 H2 v g R d=>⟨F2,L2,g,R,d⟩⟩;rw[st];refine Calls.callWith_builtin rfl (Calls.evalArgs_plain (Calls.spliced_cons (bD hA λ u s2 ⟨v,H2,I3,rv,F2,L2,g3,R3,d3⟩=>Calls.spliced_nil ?_)));have dk:=aBj d3 e4;cases dk;let(t,rfl):=rv;exact aR1 I3 (cH.of (R3.sub _ _ (g3.f _ _ cO))) (q F2 L2 H2 _ ((g1.trans g2).trans g3) R3 (.int _))
def aTR{fs:FA}{fa:FE}(σ:L2.St)(H:Hp)(Q:VK)(h:aP X.K (tX fs fa) σ H Q):tBM X.K "list" (aNC X.K) (aFl (eD X.K fs)) (eD X.K (cT fa iK)) σ H Q:=by
 let(F,L,S,env,w,S',R,E,eq,q):=h;let(ws,S1,ys,wk,kk,e1,e2,hz,e3,e4,rfl):=aHV eq;refine⟨F,L,S,env,ws,S1,R,E,e1,λ F1 L1 H1 vs g1 R1 d1=>?_⟩;have dl:=qI d1 e2;obtain rfl:=aDM dl;refine⟨by rw[<- dl.length];exact hz,λ p hp=>⟨.inl ⟨rfl,_,bX.of cO⟩,?_⟩⟩;have g2:Gr F1 L1 (bF F1 p (.lst (ys.map V.str))) L1:=Gr.new (R1.sub.free hp);refine⟨_,L1,S1,env,[wk],S',R1.new hp,(E.mono g1).mono g2,?_,λ F2 L2 H2 us g3 R3 d3=>?_⟩
 ·unfold cT;rw[e3];rfl
 ·cases d3 with
  |cons dd dr=>
    cases dr;cases aBj dd e4;exact⟨p,ys,kk,rfl,rfl,bX.of (R3.sub _ _ (g3.f _ _ cO)),q F2 L2 H2 _ ((g1.trans g2).trans g3) R3 (.int _)⟩
def oG(fa:FE)(fl fh:FO):FE:=λ env S=>(fa env S).bind λ p=>(fl env p.2).bind λ q=>(fh env q.2).bind λ r=>(dr r.2 p.1).bind λ d=>match d with|.list xs=>qz (.d (.list (dY xs q.1 r.1)),r.2)|.tuple xs=>qz (.d (.tuple (dY xs q.1 r.1)),r.2)|_=>qx
def zE(i:Nat)(f:FS):FS:=λ env S=>match env[i]? with
 | some (qz (.loc n))=>(match S[n]? with
   |some (qz ds)=>f (env.set i (qz (.d (.list ds)))) (S.set n qx)
   | _=>qx)
 |_=>qx
def eV(fa:FE):FL:=λ env S=>(fa env S).bind λ p=>match p.1 with|.d (.list ds)=>qz (ds,p.2)|.d (.tuple ds)=>qz (ds,p.2)|_=>qx
def aZr{lo hi:Option qy}{fa:FE}{fl fh:FO}(ha:PE X a (aP X.K fa))(hl:PO X lo (mO X.K fl))(hh:PO X hi (mO X.K fh)):PE X (.Subscript a (.Slice lo hi qx p2) pos) (aP X.K (oG fa fl fh)):=by
 rintro aB s σ H Q I ⟨F,L,S,env,w,S',R,E,e,q⟩;let((w1,S1),e1,e):=aI e;let((l,S2),e2,e):=aI e;let((h,S3),e3,e):=aI e;let(d,e4,e):=aI e;dsimp only at e e2 e3 e4;cases d with
 |list xs=>
   cases e;refine aNo (aXD ha hl hh) aB s σ H Q I ⟨F,L,S,env,_,_,R,E,?_,q⟩;unfold kM aNa;rw[e1];dsimp only[yCs];rw[e2];dsimp only;rw[e3];dsimp only;rw[e4];rfl
 |tuple xs=>
   cases e;refine aT3 ha hl hh aB s σ H Q I ⟨F,L,S,env,_,_,R,E,?_,q⟩;unfold aMx;rw[e1];dsimp only[yCs];rw[e2];dsimp only;rw[e3];dsimp only;rw[e4];dsimp only[aMP]
 |_=>cases e
def aZl{fa:FE}(ha:PE X a (aP X.K fa)):PI X tg a (jX X.K (eV fa)):=by
 rintro aB s σ H Rr I ⟨F,L,S,env,ds,S',R,E,e,q⟩;let((w1,S1),e1,e):=aI e;dsimp only at e;split at e
 ·rename_i ds';cases e;refine aYw ha aB s σ H Rr I ⟨F,L,S,env,_,_,R,E,?_,q⟩;unfold aNB;rw[e1];rfl
 ·cases e;refine aYE ha aB s σ H Rr I ⟨F,L,S,env,_,_,R,E,?_,q⟩;unfold aNi;rw[e1];rfl
 ·cases e
inductive Ty where
 |int|bool|str|lst|tup
 deriving DecidableEq
def Ty.s:Ty->String
 |.int => "int" |.bool => "bool" |.str => "str" |.lst => "list" |.tup => "tuple"
def Ty.n:Ty->Str
 |.int => "int" |.bool => "bool" |.str => "str" |.lst => "list" |.tup => "tuple"
def lD:Ty->D->Option D
 |_,.dict _=>qx|.int,.int _=>qz (.bool true)|.int,.bool _=>qz (.bool true)|.bool,.bool _=>qz (.bool true)|.str,.str _=>qz (.bool true)|.lst,.list _=>qz (.bool true)|.tup,.tuple _=>qz (.bool true)|_,_=>qz (.bool false)
def aWy{i:Int}:lD .int (.int i)=qz (.bool true):=rfl
def aYH{i:Int}:lD .bool (.int i)=qz (.bool false):=rfl
def aBz{xs:List D}:lD .tup (.tuple xs)=qz (.bool true):=rfl
def aXo:lD .bool (.bool b)=qz (.bool true):=rfl
def aYg:lD .int (.bool b)=qz (.bool true):=rfl
def aUT(K:FrG)(h:lD ty d=qz z):zD K ty.s d=qz z:=by cases ty<;>cases d<;>first|(cases h;done)|(cases h;rfl)
inductive B where
 |len|mx|mn|int|tup
 deriving DecidableEq
def B.g:B->List D->Option D
 |.len=>iL|.mx=>nQ|.mn=>gK|.int=>rR|.tup=>gU
def B.n:B->Str
 |.len => "len" |.mx => "max" |.mn => "min" |.int => "int" |.tup => "tuple"
inductive E where
 |var (i:Nat)|int (i:Int)|bl (b:Bool)|non|str (x:Str)
 |bin (op:jv) (a b:E)|un (op:vy) (a:E)|cmp (op:jx) (a b:E)
 |and (a b:E)|or (a b:E)|not (a:E)|ite (c a b:E)
 |tup (es:E)|lst (es:E)|nil|cons (a r:E)
 |con (x:Str) (ts:List Tv)
 |ix (a b:E)|tab (x:Str) (aF:List (Str×Tv)) (k:E)|sl (a lo hi:E)|no
 |call (f:Nat) (es:E)|blt (b:B) (es:E)|isi (a:E) (n:Ty)|bits (a:E)|app (o a:E)|idx (o a:E)
 |lzip (a b:E)|lrep (a b:E)|comp (elt:E) (t:Tg) (it:E) (cond:E)
 |it (a:E)|rng1 (a:E)|rng2 (a b:E)|rng3 (a b c:E)|zip (a b:E)|zip3 (a b c:E)
 |fz (a:E)|new (a:E)
 |fld (a:E) (f:Str)|mth (m:Str) (f:Nat) (o es:E)|mk (ini:List (Str×Ini)) (np:Nat) (es:E)|tpl (es:E)|tix (a:E) (i:Nat)|din (n:Bool) (k d:E)|dget (d k:E)|dnew|cou (b:Bool) (es a:E)
abbrev Calls:=Nat->Option (Nat×(List W->aC->Option (W×aC)))
def mE(C:Calls)(f:Nat)(fs:FA):FE:=λ env S=>match C f with|some (np,call)=>aBY fs np call env S|none=>qx
def rD(C:Calls)(m:Str)(f:Nat)(fo:FE)(fs:FA):FE:=λ env S=>match C f with|some (np,call)=>aB1 m fo fs np call env S|none=>qx
section
variable (C:Calls)
mutual
noncomputable def ev:E->FE
 |.var i=>kJ i|.int i=>fC (.int i)|.bl b=>fC (.bool b)|.non=>fC .none|.str x=>fC (.str x)|.bin op a b=>rQ op (ev a) (ev b)|.un op a=>zZ op (ev a)|.cmp op a b=>nO op (ev a) (ev b)|.and a b=>xO (ev a) (ev b)|.or a b=>yH (ev a) (ev b)|.not a=>xS (ev a)|.ite c a b=>xZ (tv c) (ev a) (ev b)|.tup es=>yM (av es)|.ix a b=>pX (ev a) (ev b)|.tab _ aF k=>f1 (ev k) (gP (aCi aF))|.con _ ts=>fC (.tuple (ts.map Tv.d))|.sl a lo hi=>oG (ev a) (ov lo) (ov hi)|.call f es=>mE C f (av es)|.blt b es=>rN (av es) b.g|.isi a n=>f1 (ev a) (gP (lD n))|.bits a=>aEL (ev a)|.app o a=>lK (ev o) (ev a)|.idx o a=>aB7 (ev o) (ev a)|.fz a=>kM (lv a)|.new a=>hU (lv a)|.fld a f=>aB9 (ev a) f|.mth m f o es=>rD C m f (ev o) (av es)|.mk ini np es=>aBR ini np (av es)|.tpl es=>aB6 (av es)|.tix a i=>aCc (ev a) i|.din n k d=>uJ n (ev k) (ev d)|.dget d k=>aBV (ev d) (ev k)|.dnew=>aMb|.cou _ es a=>tX (av es) (ev a)|_=>λ _ _=>qx
noncomputable def tv:E->FT
 |.and a b=>yB (tv a) (tv b)|.or a b=>zU (tv a) (tv b)|.not a=>yV (tv a)|.var i=>cU (kJ i)|.cmp op a b=>cU (nO op (ev a) (ev b))|.ix a b=>cU (pX (ev a) (ev b))|.call f es=>cU (mE C f (av es))|.blt b es=>cU (rN (av es) b.g)|.isi a n=>cU (f1 (ev a) (gP (lD n)))|.bin op a b=>cU (rQ op (ev a) (ev b))|.bl b=>cU (fC (.bool b))|.no=>lI|.din n k d=>cU (uJ n (ev k) (ev d))|_=>λ _ _=>qx
noncomputable def av:E->FA
 |.nil=>iK|.cons a r=>cT (ev a) (av r)|_=>λ _ _=>qx
noncomputable def ov:E->FO
 |.no=>zT|.cons a .nil=>pC (ev a)|_=>λ _ _=>qx
noncomputable def lv:E->FL
 |.lst es=>yJ (av es)|.lzip a b=>tT (ev a) (ev b)|.lrep a b=>rP (ev a) (ev b)|.comp elt t it cond=>gY t (lv it) (tv cond) (ev elt)|.it a=>eV (ev a)|.rng1 a=>xQ (ev a)|.rng2 a b=>xC (ev a) (ev b)|.rng3 a b c=>aBK (ev a) (ev b) (ev c)|.zip a b=>nR (ev a) (ev b)|.zip3 a b c=>aBx (ev a) (ev b) (ev c)|_=>λ _ _=>qx
end
inductive Sx where
 |skip|seq (a b:Sx)|expr (e:E)|ret (e:E)
 |ifs (c:E) (a b:Sx)|set (i:Nat) (e:E)|setC (nw:Bool) (i:Nat) (e:E)|setT (t:Tg) (e:E)|put (o i e:E)|dput (o i e:E)
 |loop (t:Tg) (it:E) (b:Sx)
 |frs (i:Nat) (s:Sx)
def xs:Sx->FS
 |.skip=>tR|.seq a b=>eC (xs a) (xs b)|.expr e=>xB (ev C e)|.ret e=>pJ (ev C e)|.ifs c a b=>oI (tv C c) (xs a) (xs b)|.set i e=>jS i (ev C e)
 |.setC nw i e=>jS i (match nw with|true=>hU (lv C e)|false=>kM (lv C e))
 |.setT t e=>xM t (ev C e)|.put o i e=>jR (ev C o) (ev C i) (ev C e)|.dput o i e=>aBX (ev C o) (ev C i) (ev C e)|.loop t it b=>iH t (lv C it) (xs b)|.frs i s=>zE i (xs s)
theorem aEj{i}:ev C (.var i)=kJ i:=rfl
theorem aVK{i}:ev C (.int i)=fC (.int i):=rfl
theorem aXf{b}:ev C (.bl b)=fC (.bool b):=rfl
theorem aVo:ev C .non=fC .none:=rfl
theorem aUL{x}:ev C (.str x)=fC (.str x):=rfl
theorem aKM{op a b}:ev C (.bin op a b)=rQ op (ev C a) (ev C b):=rfl
theorem aLs{op a}:ev C (.un op a)=zZ op (ev C a):=rfl
theorem aEa{op a b}:ev C (.cmp op a b)=nO op (ev C a) (ev C b):=rfl
theorem aK0{a b}:ev C (.and a b)=xO (ev C a) (ev C b):=rfl
theorem aLO{a b}:ev C (.or a b)=yH (ev C a) (ev C b):=rfl
theorem aK8{a}:ev C (.not a)=xS (ev C a):=rfl
theorem aKJ{c a b}:ev C (.ite c a b)=xZ (tv C c) (ev C a) (ev C b):=rfl
theorem aLe{es}:ev C (.tup es)=yM (av C es):=rfl
theorem aEQ{a b}:ev C (.ix a b)=pX (ev C a) (ev C b):=rfl
theorem aTF{n0 aF k}:ev C (.tab n0 aF k)=f1 (ev C k) (gP (aCi aF)):=rfl
theorem aVC{n0 ts}:ev C (.con n0 ts)=fC (.tuple (ts.map Tv.d)):=rfl
theorem aEU{a lo hi}:ev C (.sl a lo hi)=oG (ev C a) (ov C lo) (ov C hi):=rfl
theorem aJp{f es}:ev C (.call f es)=mE C f (av C es):=rfl
theorem aKD{b es}:ev C (.blt b es)=rN (av C es) b.g:=rfl
theorem aKE{a n}:ev C (.isi a n)=f1 (ev C a) (gP (lD n)):=rfl
theorem aSq{a}:ev C (.bits a)=aEL (ev C a):=rfl
theorem aLj{o a}:ev C (.app o a)=lK (ev C o) (ev C a):=rfl
theorem aTO{o a}:ev C (.idx o a)=aB7 (ev C o) (ev C a):=rfl
theorem aMA{a}:ev C (.fz a)=kM (lv C a):=rfl
theorem aEF{a}:ev C (.new a)=hU (lv C a):=rfl
theorem aWe{a f}:ev C (.fld a f)=aB9 (ev C a) f:=rfl
theorem aUw{m f o es}:ev C (.mth m f o es)=rD C m f (ev C o) (av C es):=rfl
theorem aYd{ini np es}:ev C (.mk ini np es)=aBR ini np (av C es):=rfl
theorem aWn{es}:ev C (.tpl es)=aB6 (av C es):=rfl
theorem aVD{a i}:ev C (.tix a i)=aCc (ev C a) i:=rfl
theorem aRv{d k}:ev C (.dget d k)=aBV (ev C d) (ev C k):=rfl
theorem aTM{b es a}:ev C (.cou b es a)=tX (av C es) (ev C a):=rfl
theorem aVl{n k d}:tv C (.din n k d)=cU (uJ n (ev C k) (ev C d)):=rfl
theorem aKO{a b}:tv C (.and a b)=yB (tv C a) (tv C b):=rfl
theorem aLz{a b}:tv C (.or a b)=zU (tv C a) (tv C b):=rfl
theorem aLf{a}:tv C (.not a)=yV (tv C a):=rfl
theorem aUq{i}:tv C (.var i)=cU (kJ i):=rfl
theorem aLi{op a b}:tv C (.cmp op a b)=cU (nO op (ev C a) (ev C b)):=rfl
theorem aYo{a b}:tv C (.ix a b)=cU (pX (ev C a) (ev C b)):=rfl
theorem aTw{f es}:tv C (.call f es)=cU (mE C f (av C es)):=rfl
theorem aWh{b es}:tv C (.blt b es)=cU (rN (av C es) b.g):=rfl
theorem aUv{a n}:tv C (.isi a n)=cU (f1 (ev C a) (gP (lD n))):=rfl
theorem aVa{op a b}:tv C (.bin op a b)=cU (rQ op (ev C a) (ev C b)):=rfl
theorem aXr{b}:tv C (.bl b)=cU (fC (.bool b)):=rfl
theorem aXG:tv C .no=lI:=rfl
theorem aTK:av C .nil=iK:=rfl
theorem aJi{a r}:av C (.cons a r)=cT (ev C a) (av C r):=rfl
theorem aXP:ov C .no=zT:=rfl
theorem aI7{a}:ov C (.cons a .nil)=pC (ev C a):=rfl
theorem aKF{es}:lv C (.lst es)=yJ (av C es):=rfl
theorem aSv{a b}:lv C (.lzip a b)=tT (ev C a) (ev C b):=rfl
theorem qQ{a b c}:lv C (.rng3 a b c)=aBK (ev C a) (ev C b) (ev C c):=rfl
theorem aJN{a b}:lv C (.lrep a b)=rP (ev C a) (ev C b):=rfl
theorem aRy{elt t it cond}:lv C (.comp elt t it cond)=gY t (lv C it) (tv C cond) (ev C elt):=rfl
theorem rB{a}:lv C (.it a)=eV (ev C a):=rfl
theorem qK{a}:lv C (.rng1 a)=xQ (ev C a):=rfl
theorem qJ{a b}:lv C (.rng2 a b)=xC (ev C a) (ev C b):=rfl
theorem qW{a b}:lv C (.zip a b)=nR (ev C a) (ev C b):=rfl
theorem qM{a b c}:lv C (.zip3 a b c)=aBx (ev C a) (ev C b) (ev C c):=rfl
theorem aI1:xs C .skip=tR:=rfl
theorem oT{a b}:xs C (.seq a b)=eC (xs C a) (xs C b):=rfl
theorem aI5{e}:xs C (.expr e)=xB (ev C e):=rfl
theorem aEH{e}:xs C (.ret e)=pJ (ev C e):=rfl
theorem sZ{c a b}:xs C (.ifs c a b)=oI (tv C c) (xs C a) (xs C b):=rfl
theorem aBe{i e}:xs C (.set i e)=jS i (ev C e):=rfl
theorem aDT{nw i e}:xs C (.setC nw i e)=jS i (match nw with|true=>hU (lv C e)|false=>kM (lv C e)):=rfl
theorem aJr{t e}:xs C (.setT t e)=xM t (ev C e):=rfl
theorem aK4{o i e}:xs C (.put o i e)=jR (ev C o) (ev C i) (ev C e):=rfl
theorem aR6{o i e}:xs C (.dput o i e)=aBX (ev C o) (ev C i) (ev C e):=rfl
theorem aTi{t it b}:xs C (.loop t it b)=iH t (lv C it) (xs C b):=rfl
theorem aKZ{i s}:xs C (.frs i s)=zE i (xs C s):=rfl
end
def no{P:Prop}(h:false=true):P:=by cases h
def dG(h:(a&&b)=true):a=true/\b=true:=by
 cases a with
 |false=>exact no h|true=>exact⟨rfl,h⟩
def aL(h:(a&&b)=true):a=true:=(dG h).1
def aR(h:(a&&b)=true):b=true:=(dG h).2
def fJ{f:c->Bool}(h:(@dite _ c d f λ _=>false)=true):c:=by
 cases d with
 |isTrue k=>exact k|isFalse _=>exact no h
def jJ(k:Str->Pos->Bool)(x:qy):Bool:=if h:x.ctorIdx=23 then @Expr.Name.elim (λ _=>Bool) x h k else false
def mM{P:qy->Prop}{k:Str->Pos->Bool}(h:jJ k x=true)(g:∀ a b,k a b=true->P (.Name a b)):P x:=@Expr.Name.elim (λ e=>jJ k e=true->P e) x (fJ h) g h
def kCo(k:Const->Nat->Pos->Bool)(x:qy):Bool:=if h:x.ctorIdx=19 then @Expr.Constant.elim (λ _=>Bool) x h k else false
def aZv{P:qy->Prop}{k:Const->Nat->Pos->Bool}(h:kCo k x=true)(g:∀ a b c,k a b c=true->P (.Constant a b c)):P x:=@Expr.Constant.elim (λ e=>kCo k e=true->P e) x (fJ h) g h
def zW(k:qy->jv->qy->Pos->Bool)(x:qy):Bool:=if h:x.ctorIdx=2 then @Expr.BinOp.elim (λ _=>Bool) x h k else false
def aM4{P:qy->Prop}{k:qy->jv->qy->Pos->Bool}(h:zW k x=true)(g:∀ a b c d,k a b c d=true->P (.BinOp a b c d)):P x:=@Expr.BinOp.elim (λ e=>zW k e=true->P e) x (fJ h) g h
def zL(k:vy->qy->Pos->Bool)(x:qy):Bool:=if h:x.ctorIdx=3 then @Expr.UnaryOp.elim (λ _=>Bool) x h k else false
def aFg{P:qy->Prop}{k:vy->qy->Pos->Bool}(h:zL k x=true)(g:∀ a b c,k a b c=true->P (.UnaryOp a b c)):P x:=@Expr.UnaryOp.elim (λ e=>zL k e=true->P e) x (fJ h) g h
def kCm(k:qy->List jx->List qy->Pos->Bool)(x:qy):Bool:=if h:x.ctorIdx=15 then @Expr.Compare.elim (λ _=>Bool) x h k else false
def aZQ{P:qy->Prop}{k:qy->List jx->List qy->Pos->Bool}(h:kCm k x=true)(g:∀ a b c d,k a b c d=true->P (.Compare a b c d)):P x:=@Expr.Compare.elim (λ e=>kCm k e=true->P e) x (fJ h) g h
def kBo(k:BoolOp->List qy->Pos->Bool)(x:qy):Bool:=if h:x.ctorIdx=0 then @Expr.BoolOp.elim (λ _=>Bool) x h k else false
def aZm{P:qy->Prop}{k:BoolOp->List qy->Pos->Bool}(h:kBo k x=true)(g:∀ a b c,k a b c=true->P (.BoolOp a b c)):P x:=@Expr.BoolOp.elim (λ e=>kBo k e=true->P e) x (fJ h) g h
def kIe(k:qy->qy->qy->Pos->Bool)(x:qy):Bool:=if h:x.ctorIdx=5 then @Expr.IfExp.elim (λ _=>Bool) x h k else false
def aZh{P:qy->Prop}{k:qy->qy->qy->Pos->Bool}(h:kIe k x=true)(g:∀ a b c d,k a b c d=true->P (.IfExp a b c d)):P x:=@Expr.IfExp.elim (λ e=>kIe k e=true->P e) x (fJ h) g h
def sB(k:List qy->Nat->Pos->Bool)(x:qy):Bool:=if h:x.ctorIdx=25 then @Expr.Tuple.elim (λ _=>Bool) x h k else false
def rG{P:qy->Prop}{k:List qy->Nat->Pos->Bool}(h:sB k x=true)(g:∀ a b c,k a b c=true->P (.Tuple a b c)):P x:=@Expr.Tuple.elim (λ e=>sB k e=true->P e) x (fJ h) g h
def zN(k:List qy->Pos->Bool)(x:qy):Bool:=if h:x.ctorIdx=24 then @Expr.List.elim (λ _=>Bool) x h k else false
def aFm{P:qy->Prop}{k:List qy->Pos->Bool}(h:zN k x=true)(g:∀ a b,k a b=true->P (.List a b)):P x:=@Expr.List.elim (λ e=>zN k e=true->P e) x (fJ h) g h
def kSu(k:qy->qy->Pos->Bool)(x:qy):Bool:=if h:x.ctorIdx=21 then @Expr.Subscript.elim (λ _=>Bool) x h k else false
def aM8{P:qy->Prop}{k:qy->qy->Pos->Bool}(h:kSu k x=true)(g:∀ a b c,k a b c=true->P (.Subscript a b c)):P x:=@Expr.Subscript.elim (λ e=>kSu k e=true->P e) x (fJ h) g h
def kSl(k:Option qy->Option qy->Option qy->Pos->Bool)(x:qy):Bool:=if h:x.ctorIdx=26 then @Expr.Slice.elim (λ _=>Bool) x h k else false
def aZd{P:qy->Prop}{k:Option qy->Option qy->Option qy->Pos->Bool}(h:kSl k x=true)(g:∀ a b c d,k a b c d=true->P (.Slice a b c d)):P x:=@Expr.Slice.elim (λ e=>kSl k e=true->P e) x (fJ h) g h
def kDi(k:List (Option qy)->List qy->Pos->Bool)(x:qy):Bool:=if h:x.ctorIdx=6 then @Expr.Dict.elim (λ _=>Bool) x h k else false
def aMQ{P:qy->Prop}{k:List (Option qy)->List qy->Pos->Bool}(h:kDi k x=true)(g:∀ a b c,k a b c=true->P (.Dict a b c)):P x:=@Expr.Dict.elim (λ e=>kDi k e=true->P e) x (fJ h) g h
def kCa(k:qy->List qy->List Keyword->Pos->Bool)(x:qy):Bool:=if h:x.ctorIdx=16 then @Expr.Call.elim (λ _=>Bool) x h k else false
def aMI{P:qy->Prop}{k:qy->List qy->List Keyword->Pos->Bool}(h:kCa k x=true)(g:∀ a b c d,k a b c d=true->P (.Call a b c d)):P x:=@Expr.Call.elim (λ e=>kCa k e=true->P e) x (fJ h) g h
def zX(k:qy->Str->Pos->Bool)(x:qy):Bool:=if h:x.ctorIdx=20 then @Expr.Attribute.elim (λ _=>Bool) x h k else false
def aFw{P:qy->Prop}{k:qy->Str->Pos->Bool}(h:zX k x=true)(g:∀ a b c,k a b c=true->P (.Attribute a b c)):P x:=@Expr.Attribute.elim (λ e=>zX k e=true->P e) x (fJ h) g h
def kLc(k:qy->List Comprehension->zw->Pos->Bool)(x:qy):Bool:=if h:x.ctorIdx=8 then @Expr.ListComp.elim (λ _=>Bool) x h k else false
def aZi{P:qy->Prop}{k:qy->List Comprehension->zw->Pos->Bool}(h:kLc k x=true)(g:∀ a b c d,k a b c d=true->P (.ListComp a b c d)):P x:=@Expr.ListComp.elim (λ e=>kLc k e=true->P e) x (fJ h) g h
def kEx(k:qy->Pos->Bool)(x:xk):Bool:=if h:x.ctorIdx=24 then @Stmt.Expr.elim (λ _=>Bool) x h k else false
def aZg{P:xk->Prop}{k:qy->Pos->Bool}(h:kEx k x=true)(g:∀ a b,k a b=true->P (.Expr a b)):P x:=@Stmt.Expr.elim (λ e=>kEx k e=true->P e) x (fJ h) g h
def kRe(k:Option qy->Pos->Bool)(x:xk):Bool:=if h:x.ctorIdx=3 then @Stmt.Return.elim (λ _=>Bool) x h k else false
def aZI{P:xk->Prop}{k:Option qy->Pos->Bool}(h:kRe k x=true)(g:∀ a b,k a b=true->P (.Return a b)):P x:=@Stmt.Return.elim (λ e=>kRe k e=true->P e) x (fJ h) g h
def kSf(k:qy->List xk->List xk->Pos->Bool)(x:xk):Bool:=if h:x.ctorIdx=12 then @Stmt.If.elim (λ _=>Bool) x h k else false
def aZz{P:xk->Prop}{k:qy->List xk->List xk->Pos->Bool}(h:kSf k x=true)(g:∀ a b c d,k a b c d=true->P (.If a b c d)):P x:=@Stmt.If.elim (λ e=>kSf k e=true->P e) x (fJ h) g h
def pZ(k:List qy->qy->Pos->Bool)(x:xk):Bool:=if h:x.ctorIdx=5 then @Stmt.Assign.elim (λ _=>Bool) x h k else false
def uE{P:xk->Prop}{k:List qy->qy->Pos->Bool}(h:pZ k x=true)(g:∀ a b c,k a b c=true->P (.Assign a b c)):P x:=@Stmt.Assign.elim (λ e=>pZ k e=true->P e) x (fJ h) g h
def kFo(k:qy->qy->List xk->List xk->Pos->Bool)(x:xk):Bool:=if h:x.ctorIdx=9 then @Stmt.For.elim (λ _=>Bool) x h k else false
def aZq{P:xk->Prop}{k:qy->qy->List xk->List xk->Pos->Bool}(h:kFo k x=true)(g:∀ a b c d e,k a b c d e=true->P (.For a b c d e)):P x:=@Stmt.For.elim (λ e=>kFo k e=true->P e) x (fJ h) g h
def jF{α:Type}(k:α->Bool)(l:List α):Bool:=match l with|[a]=>k a|_=>false
def jN{α:Type}{P:List α->Prop}{k:α->Bool}:∀ {l:List α},jF k l=true->(∀ a,k a=true->P [a])->P l
 |[],h,_=>no h|[a],h,g=>g a h|_::_::_,h,_=>no h
def aFB{α:Type}(k:α->α->Bool)(l:List α):Bool:=match l with|a::r=>jF (k a) r|[]=>false
def aMe{α:Type}{P:List α->Prop}{k:α->α->Bool}:∀ {l:List α},aFB k l=true->(∀ a b,k a b=true->P [a,b])->P l
 |[],h,_=>no h|a::_,h,g=>jN (P:=λ r=>P (a::r)) h (g a)
def aMU{α:Type}(k:α->α->α->Bool)(l:List α):Bool:=match l with|a::r=>aFB (k a) r|[]=>false
def aYG{α:Type}{P:List α->Prop}{k:α->α->α->Bool}:∀ {l:List α},aMU k l=true->(∀ a b c,k a b c=true->P [a,b,c])->P l
 |[],h,_=>no h|a::_,h,g=>aMe (P:=λ r=>P (a::r)) h (g a)
def iW{α:Type}{P:List α->Prop}:∀ {l:List α},l.isEmpty=true->P []->P l
 |[],_,g=>g|_::_,h,_=>no h
def aFj{α:Type}(o:Option α):Bool:=match o with|none=>true|some _=>false
def aLC{α:Type}{P:Option α->Prop}:∀ {o:Option α},aFj o=true->P qx->P o
 |none,_,g=>g|some _,h,_=>no h
def aMD{α:Type}{P:Option α->Prop}{k:α->Bool}:∀ {o:Option α},o.any k=true->(∀ a,k a=true->P (qz a))->P o
 |none,h,_=>no h|some a,h,g=>g a h
def dT{p:Prop}{d:Decidable p}(h:decide p=true):p:=oqT h
def pV(sc:zw)(x:Str):Bool:=match sc.names.lookup x with
 |some .local=>true|some .cell=>true|some .free=>true|_=>false
def loc(sc:zw)(x:Str):Bool:=match sc.names.lookup x with
 |some .local=>true|some .cell=>true|_=>false
def aMG(e:E):Bool:=decide (e.ctorIdx=E.nil.ctorIdx)
def aZJ{P:E->Prop}(h:aMG e=true)(g:P .nil):P e:=@E.nil.elim P e (dT h) g
def any_some{α:Type}{o:Option α}{p:α->Bool}(h:o.any p=true):∃ a,o=qz a/\p a=true:=by
 cases o with
 |none=>cases h|some a=>exact⟨a,rfl,h⟩
def lo(sc:zw)(x:Str):Bool:=decide (sc.names.lookup x=qz .local)
def gl(sc:zw)(x:Str):Bool:=decide (sc.names.lookup x=qz .globalImplicit)
def cR(e:qy):Bool:=![7,22,26].contains e.ctorIdx
def mN(e:qy):Bool:=![0,3,5,15].contains e.ctorIdx
def tD(e:qy):Bool:=![16].contains e.ctorIdx
def oS(e:qy):Bool:=![8,9,10].contains e.ctorIdx
def xG(e:qy):Bool:=sB (λ _ _ _=>true) e
def lZ:List qy->Bool
 |[]=>true|e::r=>cR e&&lZ r
def rL(scope osc:zw):zw:={scope with names:=scope.names.map λ(n,k)=>if (k==.free&&osc.kind==.function&&osc.names.lookup n==qz .cell) then (n,.cell) else (n,k) }
def aE3(scope osc:zw):Bool:=decide (scope.kind=.function)&&scope.names.all λ x=>(!decide (x.2=.cell))&&(!decide (x.2=.free)||decide (osc.names.lookup x.1=qz .cell)||decide (osc.names.lookup x.1=qz .free))&&(!decide (x.2=.local)||decide (scope.names.lookup x.1=qz .local))
def aCg(N:List Str)(scope:zw)(is:List Nat):Nat->Bool
 |0=>true
 | n+1=>aCg N scope is n&&(match N[n]? with
   |some x=>!decide (scope.names.lookup x=qz .local)||is.contains n
   | none=>true)
def aEu(b:Bool)(N:List Str)(sc:zw)(i:Nat)(x:Str):Bool:=decide (N[i]?=qz x)&&(match b with
 |true=>decide (sc.names.lookup x=qz .local)
 | false=>loc sc x)
def aD1(b:Bool)(N:List Str)(sc:zw):List Nat->List qy->Bool
 |[],es=>es.isEmpty
 | i::is,es=>(match es with
   |e::r=>jJ (λ x _=>aEu b N sc i x&&aD1 b N sc is r) e
   | []=>false)
def yF(b:Bool)(N:List Str)(sc:zw)(t:Tg)(e:qy):Bool:=match t with|.one i=>jJ (λ x _=>aEu b N sc i x) e|.many is=>sB (λ es _ _=>aD1 b N sc is es) e
def aI9(e:E):Bool:=decide (e.ctorIdx=(E.comp .no (.one 0) .no .no).ctorIdx)
def aZc{P:E->Prop}(h:aI9 e=true)(g:∀ a t b c,P (.comp a t b c)):P e:=@E.comp.elim P e (dT h) g
def aFE(e:E):Bool:=decide (e.ctorIdx=E.no.ctorIdx)
def aND{P:E->Prop}(h:aFE e=true)(g:P .no):P e:=@E.no.elim P e (dT h) g
def rO(c:Const)(e:qy):Bool:=kCo (λ d _ _=>decide (d=c)) e
def xW{P:qy->Prop}(h:rO c x=true)(g:∀ k p,P (.Constant c k p)):P x:=
 aZv h λ _ k p z=>(dT z)▸g k p
def yG(k:qy->jx->qy->Bool)(e:qy):Bool:=kCm (λ x os ys _=>jF (λ o=>jF (λ y=>k x o y&&cR y) ys) os) e
def aBE{P:qy->Prop}{k:qy->jx->qy->Bool}(h:yG k x=true)(g:∀ a o b p,k a o b=true->cR b=true->P (.Compare a [o] [b] p)):P x:=
 aZQ h λ a os _ p z=>jN (P:=λ os=>P (.Compare a os _ p)) z λ o z=>jN (P:=λ ys=>P (.Compare a [o] ys p)) z λ b z=>g a o b p (aL z) (aR z)
def xA(op:BoolOp)(k:qy->qy->Bool)(e:qy):Bool:=kBo (λ o es p=>decide (o=op)&&(match es with
 |[x,y]=>k x y|x::y::z::r=>k x (.BoolOp op (y::z::r) p)
 | _=>false)) e
def aBn{P:qy->Prop}{k:qy->qy->Bool}(h:xA op k x=true)(g:∀ a b p,k a b=true->P (.BoolOp op [a,b] p))(f:∀ a b c r p,k a (.BoolOp op (b::c::r) p)=true->P (.BoolOp op (a::b::c::r) p)):P x:=
 aZm h λ o es p z=>by
  obtain rfl:=dT (aL z)
  match es,aR z with
  |[a,b],z=>exact g a b p z|a::b::c::r,z=>exact f a b c r p z|[],z=>exact no z|[_],z=>exact no z
def pN(k:qy->qy->Bool)(e:qy):Bool:=kSu (λ x y _=>k x y&&cR y) e
def uH{P:qy->Prop}{k:qy->qy->Bool}(h:pN k x=true)(g:∀ a b p,k a b=true->cR b=true->P (.Subscript a b p)):P x:=aM8 h λ a b p z=>g a b p (aL z) (aR z)
def aNk(k:qy->Option qy->Option qy->Bool)(e:qy):Bool:=kSu (λ x s _=>kSl (λ l h t _=>aFj t&&k x l h) s) e
def aWE{P:qy->Prop}{k:qy->Option qy->Option qy->Bool}(h:aNk k x=true)(g:∀ a l u p q,k a l u=true->P (.Subscript a (.Slice l u qx p) q)):P x:=
 aM8 h λ a _ q z=>aZd (P:=λ s=>P (.Subscript a s q)) z λ l u _ p z=>aLC (P:=λ t=>P (.Subscript a (.Slice l u t p) q)) (aL z) (g a l u p q (aR z))
def nI(k:Str->List qy->Bool)(e:qy):Bool:=kCa (λ f xs ks _=>jJ (λ n _=>ks.isEmpty&&k n xs) f) e
def tI{P:qy->Prop}{k:Str->List qy->Bool}(h:nI k x=true)(g:∀ n p xs q,k n xs=true->P (.Call (.Name n p) xs [] q)):P x:=
 aMI h λ _ xs ks q z=>mM (P:=λ f=>P (.Call f xs ks q)) z λ n p z=>iW (P:=λ ks=>P (.Call (.Name n p) xs ks q)) (aL z) (g n p xs q (aR z))
def kB1(nm:Str)(sc:zw)(k:qy->Bool)(e:qy):Bool:=nI (λ n xs=>decide (n=nm)&&gl sc n&&jF (λ y=>k y&&cR y) xs) e
def aM7{P:qy->Prop}{k:qy->Bool}(h:kB1 nm sc k x=true)(g:∀ p y q,gl sc nm=true->k y=true->cR y=true->P (.Call (.Name nm p) [y] [] q)):P x:=
 tI h λ n p xs q z=>by
  obtain rfl:=dT (aL (aL z));exact jN (P:=λ xs=>P (.Call (.Name n p) xs [] q)) (aR z) λ y u=>g p y q (aR (aL z)) (aL u) (aR u)
def uP(nm:Str)(sc:zw)(k l:qy->Bool)(e:qy):Bool:=nI (λ n xs=>decide (n=nm)&&gl sc n&&aFB (λ y z=>(k y&&cR y)&&(l z&&cR z)) xs) e
def aCa{P:qy->Prop}{k l:qy->Bool}(h:uP nm sc k l x=true)(g:∀ p y z q,gl sc nm=true->k y=true->cR y=true->l z=true->cR z=true->P (.Call (.Name nm p) [y,z] [] q)):P x:=
 tI h λ n p xs q z=>by
  obtain rfl:=dT (aL (aL z));exact aMe (P:=λ xs=>P (.Call (.Name n p) xs [] q)) (aR z) λ y w u=>g p y w q (aR (aL z)) (aL (aL u)) (aR (aL u)) (aL (aR u)) (aR (aR u))
def kB3(nm:Str)(sc:zw)(k l m:qy->Bool)(e:qy):Bool:=nI (λ n xs=>decide (n=nm)&&gl sc n&&aMU (λ y z w=>(k y&&cR y)&&((l z&&cR z)&&(m w&&cR w))) xs) e
def aMK{P:qy->Prop}{k l m:qy->Bool}(h:kB3 nm sc k l m x=true)(g:∀ p y z w q,gl sc nm=true->k y=true->cR y=true->l z=true->cR z=true->m w=true->cR w=true->P (.Call (.Name nm p) [y,z,w] [] q)):P x:=
 tI h λ n p xs q z=>by
  obtain rfl:=dT (aL (aL z));exact aYG (P:=λ xs=>P (.Call (.Name n p) xs [] q)) (aR z) λ y w v u=>g p y w v q (aR (aL z)) (aL (aL u)) (aR (aL u)) (aL (aL (aR u))) (aR (aL (aR u))) (aL (aR (aR u))) (aR (aR (aR u)))
def kMe(nm:Str)(k:qy->List qy->Bool)(e:qy):Bool:=kCa (λ f xs ks cp=>zX (λ o m ap=>ks.isEmpty&&(ap.endLine==cp.line)&&decide (m=nm)&&tD o&&k o xs) f) e
def aB3{P:qy->Prop}{k:qy->List qy->Bool}(h:kMe nm k x=true)(g:∀ o ap xs cp,(ap.endLine==cp.line)=true->tD o=true->k o xs=true->P (.Call (.Attribute o nm ap) xs [] cp)):P x:=
 aMI h λ _ xs ks cp z=>aFw (P:=λ f=>P (.Call f xs ks cp)) z λ o m ap z=>by
  obtain rfl:=dT (aR (aL (aL z)));exact iW (P:=λ ks=>P (.Call (.Attribute o m ap) xs ks cp)) (aL (aL (aL (aL z)))) (g o ap xs cp (aR (aL (aL (aL z)))) (aR (aL z)) (aR z))
def aFt(nm:Str)(k l:qy->Bool)(e:qy):Bool:=kMe nm (λ o xs=>k o&&jF (λ y=>l y&&cR y) xs) e
def aLu{P:qy->Prop}{k l:qy->Bool}(h:aFt nm k l x=true)(g:∀ o ap y cp,(ap.endLine==cp.line)=true->tD o=true->k o=true->l y=true->cR y=true->P (.Call (.Attribute o nm ap) [y] [] cp)):P x:=
 aB3 h λ o ap xs cp h1 h2 z=>jN (P:=λ xs=>P (.Call (.Attribute o nm ap) xs [] cp)) (aR z) λ y u=>g o ap y cp h1 h2 (aL z) (aL u) (aR u)
def aLZ(k:qy->qy->qy->List qy->zw->Bool)(e:qy):Bool:=kLc (λ el gs sc _=>jF (λ g=>decide (g.is_async=0)&&k el g.target g.iter g.ifs sc) gs) e
def aUX{P:qy->Prop}{k:qy->qy->qy->List qy->zw->Bool}(h:aLZ k x=true)(g:∀ e tg it ifs sc p,k e tg it ifs sc=true->P (.ListComp e [⟨tg,it,ifs,0⟩] sc p)):P x:=
 aZi h λ e _ sc p z=>jN (P:=λ gs=>P (.ListComp e gs sc p)) z λ aX z=>by
  let(tg,it,ifs,as):=aX;obtain rfl:as=0:=dT (aL z);exact g e tg it ifs sc p (aR z)
def aM0(N:List Str)(t:Tg)(cond:E)(sc:zw)(fI:qy->qy->Bool)(fT fE:zw->qy->Bool)(x:qy):Bool:=aLZ (λ e tg iter ifs scope=>aE3 scope sc&&aCg N scope t.slots N.length&&yF true N (rL scope sc) t tg&&fI tg iter&&cR iter &&
 (match ifs with | []=>aFE cond | y::r=>r.isEmpty&&fT (rL scope sc) y)&&fE (rL scope sc) e) x
def aNx{P:qy->Prop}{cond:E}{fI:qy->qy->Bool}{fT fE:zw->qy->Bool}(h:aM0 N t cond sc fI fT fE x=true)(g:∀ e tg iter ifs scope p,aE3 scope sc=true->aCg N scope t.slots N.length=true->yF true N (rL scope sc) t tg=true->fI tg iter=true->cR iter=true->(match ifs with|[]=>aFE cond|y::r=>r.isEmpty&&fT (rL scope sc) y)=true->fE (rL scope sc) e=true->P (.ListComp e [⟨tg,iter,ifs,0⟩] scope p)):P x:=
 aUX h λ e tg iter ifs scope p h=>g e tg iter ifs scope p (aL (aL (aL (aL (aL (aL h)))))) (aR (aL (aL (aL (aL (aL h)))))) (aR (aL (aL (aL (aL h))))) (aR (aL (aL (aL h)))) (aR (aL (aL h))) (aR (aL h)) (aR h)
structure Tx where
 fn:List (Str×Nat)
 tb:List (Str×List (Str×Tv))
 cn:List (Str×List Tv)
 st:List (Str×Str)
 mt:List (Str×Nat)
 mo:Option (List (Str×Ini)×Nat)
def aEc(T:Tx)(f:Nat)(x:Str):Bool:=decide ((T.fn[f]?).map (·.1)=qz x) && !(T.mt.any λ p=>decide (p.2=f))
def aYl(T:Tx)(f:Str):Bool:=T.mo.any λ m=>m.1.any λ p=>decide (p.1=f)
section
variable (T:Tx)(N:List Str)
mutual
noncomputable def bJ:E->zw->qy->Bool
 |.var i,sc,x=>jJ (λ x _=>decide (N[i]?=qz x)&&pV sc x && !(x==("__debug__" : Str)) && !(x==("__classdict__" : Str))) x|.int i,_,x=>rO (.int i) x|.bl i,_,x=>rO (.bool i) x|.non,_,x=>rO .none x|.str i,_,x=>rO (.str i) x|.bin op a b,sc,x=>zW (λ x op' y _=>decide (op'=op)&&bJ a sc x&&bJ b sc y) x|.un op a,sc,x=>zL (λ op' x _=>decide (op'=op) && !decide (op=.Not)&&bJ a sc x) x|.cmp op a b,sc,x=>yG (λ x op' y=>decide (op'=op)&&bJ a sc x&&bJ b sc y) x|.and a b,sc,x=>xA .And (λ x y=>bJ a sc x&&bJ b sc y) x|.or a b,sc,x=>xA .Or (λ x y=>bJ a sc x&&bJ b sc y) x|.not a,sc,x=>zL (λ o x _=>decide (o=.Not)&&bJ a sc x) x|.ite c a b,sc,x=>kIe (λ x y z _=>mS c sc x&&bJ a sc y&&bJ b sc z) x|.tup es,sc,x=>sB (λ xs _ _=>jK es sc xs) x|.ix a b,sc,x=>pN (λ x y=>bJ a sc x&&bJ b sc y) x|.con n ts,sc,x=>jJ (λ x _=>decide (x=n)&&T.cn.contains (n,ts)&&gl sc x && !(x==("__debug__" : Str))) x|.tab n aF k,sc,x=>pN (λ x y=>bJ k sc y&&jJ (λ x _=>decide (x=n)&&T.tb.contains (n,aF)&&gl sc x && !(x==("__debug__" : Str))) x) x|.sl a lo hi,sc,x=>aNk (λ x l h=>bJ a sc x&&okO lo sc l&&okO hi sc h) x|.call f es,sc,x=>nI (λ x xs=>aEc T f x&&gl sc x && !(x==("__debug__" : Str))&&jK es sc xs&&lZ xs) x|.blt b es,sc,x=>nI (λ x ys=>!ys.isEmpty&&decide (x=b.n)&&gl sc x&&jK es sc ys&&lZ ys) x|.isi a n,sc,x=>uP "isinstance" sc (λ y=>bJ a sc y) (λ z=>jJ (λ z _=>decide (z=n.n)&&gl sc z) z) x|.bits a,sc,x=>kMe "bit_length" (λ x ys=>bJ a sc x&&ys.isEmpty) x|.app o a,sc,x=>aFt "append" (λ x=>bJ o sc x) (λ y=>bJ a sc y) x|.idx o a,sc,x=>aFt "index" (λ x=>bJ o sc x) (λ y=>bJ a sc y) x|.fz a,sc,e=>zQ a sc e|.new a,sc,e=>zQ a sc e|.fld a f,sc,x=>zX (λ o g _=>decide (g=f)&&tD o&&aYl T f&&bJ a sc o) x|.mth m f o es,sc,x=>kMe m (λ y ys=>decide ((m,f)∈T.mt)&&bJ o sc y&&jK es sc ys&&lZ ys && !ys.isEmpty&&decide (↑ys<30)) x|.mk ini np es,sc,x=>nI (λ x xs=>decide (T.mo=qz (ini,np))&&decide (x = "Maker")&&gl sc x&&jK es sc xs&&lZ xs && !xs.isEmpty) x|.tpl es,sc,x=>sB (λ xs _ _=>jK es sc xs) x|.tix a i,sc,x=>pN (λ x y=>bJ a sc x&&rO (.int i) y) x|.din n k d,sc,x=>yG (λ x op' y=>decide (op'=aE0 n)&&bJ k sc x&&bJ d sc y) x|.dget d k,sc,x=>pN (λ x y=>bJ d sc x&&bJ k sc y) x|.dnew,_,x=>kDi (λ ks vs _=>ks.isEmpty&&vs.isEmpty) x
 |.cou b es a,sc,x=>kMe "count" (λ o ys=>(match b with|false=>sB (λ xs _ _=>jK es sc xs) o|true=>zN (λ xs _=>jK es sc xs) o)&&jF (λ y=>bJ a sc y&&cR y) ys) x
 |_,_,_=>false
noncomputable def mS:E->zw->qy->Bool
 |.and a b,sc,x=>xA .And (λ x y=>mS a sc x&&mS b sc y) x|.or a b,sc,x=>xA .Or (λ x y=>mS a sc x&&mS b sc y) x|.not a,sc,x=>zL (λ o x _=>decide (o=.Not)&&mS a sc x) x|.cmp op a b,sc,x=>yG (λ x op' y=>decide (op'=op)&&bJ a sc x&&bJ b sc y) x|.var i,sc,x=>jJ (λ x _=>decide (N[i]?=qz x)&&pV sc x && !(x==("__debug__" : Str)) && !(x==("__classdict__" : Str))) x&&mN x|.bl i,_,x=>rO (.bool i) x&&mN x|.bin op a b,sc,x=>zW (λ x op' y _=>decide (op'=op)&&bJ a sc x&&bJ b sc y) x&&mN x|.ix a b,sc,x=>pN (λ x y=>bJ a sc x&&bJ b sc y) x&&mN x|.call f es,sc,x=>nI (λ x xs=>aEc T f x&&gl sc x && !(x==("__debug__" : Str))&&jK es sc xs&&lZ xs) x&&mN x|.blt b es,sc,x=>nI (λ x ys=>!ys.isEmpty&&decide (x=b.n)&&gl sc x&&jK es sc ys&&lZ ys) x&&mN x|.isi a n,sc,x=>uP "isinstance" sc (λ y=>bJ a sc y) (λ z=>jJ (λ z _=>decide (z=n.n)&&gl sc z) z) x&&mN x|.din n k d,sc,x=>yG (λ x op' y=>decide (op'=aE0 n)&&bJ k sc x&&bJ d sc y) x|_,_,_=>false
noncomputable def jK:E->zw->List qy->Bool
 |.nil,_,xs=>xs.isEmpty
 | .cons a r,sc,xs=>(match xs with
   |x::xs=>bJ a sc x&&cR x&&jK r sc xs
   | []=>false)
 |_,_,_=>false
noncomputable def okO:E->zw->Option qy->Bool
 |.no,_,x=>aFj x|.cons a r,sc,x=>aMG r&&x.any λ x=>bJ a sc x|_,_,_=>false
noncomputable def zQ:E->zw->qy->Bool
 |.lst es,sc,x=>zN (λ xs _=>jK es sc xs) x|.lzip a b,sc,x=>kB1 "list" sc (λ y=>uP "zip" sc (λ z=>bJ a sc z) (λ w=>bJ b sc w) y) x|.lrep a b,sc,x=>zW (λ x o y _=>decide (o=.Mult)&&bJ a sc x&&bJ b sc y) x|.comp elt t it cond,sc,x=>aM0 N t cond sc (λ g y=>okI it sc g y) (λ s y=>mS cond s y) (λ s y=>bJ elt s y) x|_,_,_=>false
noncomputable def okI:E->zw->qy->qy->Bool
 |.it a,sc,_,x=>bJ a sc x|.rng1 a,sc,_,x=>kB1 "range" sc (λ y=>bJ a sc y) x|.rng2 a b,sc,_,x=>uP "range" sc (λ y=>bJ a sc y) (λ z=>bJ b sc z) x|.rng3 a b c,sc,_,x=>kB3 "range" sc (λ y=>bJ a sc y) (λ z=>bJ b sc z) (λ w=>bJ c sc w) x|.zip a b,sc,tg,x=>xG tg&&uP "zip" sc (λ y=>bJ a sc y) (λ z=>bJ b sc z) x|.zip3 a b c,sc,tg,x=>xG tg&&kB3 "zip" sc (λ y=>bJ a sc y) (λ z=>bJ b sc z) (λ w=>bJ c sc w) x|_,_,_,_=>false
end
mutual
noncomputable def okS:Sx->zw->xk->Bool
 |.expr e,sc,st=>kEx (λ x _=>bJ T N e sc x&&oS x) st|.ret e,sc,st=>kRe (λ v _=>v.any λ x=>bJ T N e sc x) st|.ifs c a b,sc,st=>kSf (λ x y z _=>mS T N c sc x&&pH a sc y&&pH b sc z) st|.set i e,sc,st=>pZ (λ ts y _=>bJ T N e sc y&&oS y&&jF (λ t=>jJ (λ x _=>decide (N[i]?=qz x)&&loc sc x) t) ts) st|.setC _ i e,sc,st=>pZ (λ ts y _=>aI9 e&&zQ T N e sc y&&jF (λ t=>jJ (λ x _=>decide (N[i]?=qz x)&&loc sc x) t) ts) st|.setT t e,sc,st=>pZ (λ ts y _=>bJ T N e sc y&&oS y && !xG y&&jF (λ tg=>xG tg&&yF false N sc t tg) ts) st|.put o i e,sc,st=>pZ (λ ts z _=>bJ T N e sc z&&oS z&&jF (λ t=>pN (λ x y=>bJ T N o sc x&&bJ T N i sc y) t) ts) st|.dput o i e,sc,st=>pZ (λ ts z _=>bJ T N e sc z&&oS z&&jF (λ t=>pN (λ x y=>bJ T N o sc x&&bJ T N i sc y) t) ts) st|.loop t it b,sc,st=>kFo (λ tg x y z _=>z.isEmpty&&yF false N sc t tg&&okI T N it sc tg x&&cR x&&pH b sc y) st|.frs _ s,sc,st=>okS s sc st|_,_,_=>false
noncomputable def pH:Sx->zw->List xk->Bool
 |.skip,_,l=>l.isEmpty
 | .seq a b,sc,l=>(match l with
   |st::r=>okS a sc st&&pH b sc r
   | []=>false)
 |_,_,_=>false
end
end
def bltNames:List Str:=["len","max","min","int","abs","tuple","sum","all","any","isinstance","list","range","enumerate","bool","str","reversed","zip","sorted"]
structure Ctx(T:Tx)(C:Calls)(X:Cx):Prop where
 nd:X.N.Nodup
 calm:X.calm=true
 xe:X.xe=λ _ _=>False
 kind:X.env.scope.kind=.function
 room:∃ k,2<=k/\Room k X.A/\(∀ f np call x,C f=qz (np,call)->aEc T f x=true->∃ fa fd ps,X.mg x=qz (.ref fa)/\yBo X.K (.ref fa)=true/\gZ X.K fd ps []/\FnOk X.prog X.w X.K X.mg X.base nZ k fa fd ps (pS X.K np call)) /\
  ∀ m f np call,C f=qz (np,call)->(m,f)∈T.mt->∃ Cc fa fd ps,lJ X.K Cc/\Cls X.K Cc/\Meth X.K Cc m fa/\gZ X.K fd ps []/\FnOk X.prog X.w X.K X.mg X.base nZ k fa fd ps (pS X.K np call)
 mo:∀ ini np,T.mo=qz (ini,np)->∃ Cc fi fd ps,lJ X.K Cc/\Cls X.K Cc/\X.mg "Maker" = qz (.ref Cc)/\(∀ p∈ini,NoAttr X.K Cc p.1)/\Mk X.K Cc fi/\gZ X.K fd ps []/\FnOk X.prog X.w X.K X.mg X.base nZ 1 fi fd ps (spM X.K Cc ini np)
 blt:∀ x∈bltNames,X.mg x=qx
 tbs:∀ x aF,(x,aF)∈T.tb->∃ a,X.mg x=qz (.ref a)/\xP X.K X.w a aF
 cns:∀ x ts,(x,ts)∈T.cn->∃ a,X.mg x=qz (.ref a)/\tP X.K a ts
 sts:∀ x y,(x,y)∈T.st->∃ t,X.mg x=qz (.str y t)
variable {C:Calls}
def Ctx.units(h:Ctx T C X):X.A.units+64<cLine:=let ⟨_,_,r,_⟩:=h.room;r.units
def Ctx.own(h:Ctx T C X):PassesOwn (model X.prog X.w) X.A X.env X.xe:=by rw[h.xe];exact PassesOwn.never
def Ctx.comp{scope:zw}(h:Ctx T C X)(hk:scope.kind=.function)(hy:kT X scope Y):Ctx T C Y/\Y.env.scope=rL scope X.env.scope/\Y.N=X.N/\Y.K=X.K:=by let(aB,fp,Ca,s₀,H₀,rfl):=hy;exact⟨⟨h.nd,h.calm,rfl,hk,h.room,h.mo,h.blt,h.tbs,h.cns,h.sts⟩,rfl,rfl,rfl⟩
def fN(h:cR e=true)(es:List qy)(env:Env):qo (e::es) env=(false,eval e env)::qo es env:=by cases e<;>first|rfl|exact no h
def vP:∀ {es:List qy} (h:lZ es=true) (env:Env) (pos:Pos),(backTo pos (qo es env)).any (·.1)=false
 |[],_,_,_=>rfl
 |e::es,h,env,pos=>by
   let(h1,h2):=dG h;rw[fN h1];show(false||(backTo pos (qo es env)).any (·.1))=false;rw[vP h2 env pos];rfl
def aBI(h:cR e=true):qL e:=by intro o i;cases e<;>first|rfl|exact no h
def aAS(h:cR e=true)(op:jx):xz op e=false:=by cases e<;>first|rfl|exact no h
def aDh(h:cR e=true)(env:Env)(x:qj):xo e env x=pure x:=by cases e<;>first|rfl|exact no h
def oQ(h:tD e=true)(m:Str)(env:Env):attributeBase e m env (eval e env)=eval e env:=by cases e<;>first|rfl|exact no h
def vS(h:oS e=true)(t:Option qy)(line:Nat)(env:Env):swapsWith e t line env=pure false:=by cases e<;>first|rfl|exact no h
def aVA(h:mN e=true)(env:Env)(fR:Sem qj):isTrue e env fR=(do let v <- fR;standAt e.pos;holding [v] (truthy v)):=by cases e<;>first|rfl|exact no h
def aPx(h:cR i=true)(v:qj):assign (.Subscript o i pos) env v=(do
 let ov <- holding [v] (eval o env);let iv <- holding [v,ov] (eval i env)
 standAt pos
 holding [v,ov,iv] (setItem ov iv v)
 release [v,ov,iv] []):=by cases i<;>first|rfl|exact no h
def aK6(h:pV X.env.scope x=true):zP X.env.scope x:=by unfold pV at h;unfold zP;split at h<;>first|exact .inl (by assumption)|exact .inr (.inl (by assumption))|exact .inr (.inr (by assumption))|exact no h
def aEb(h:loc X.env.scope x=true):L2.Loc X.env.scope x:=by unfold loc at h;unfold L2.Loc;split at h<;>first|exact .inl (by assumption)|exact .inr (by assumption)|exact no h
def iX(h:gl X.env.scope x=true):Gl X x:=(oqT h:X.env.scope.names.lookup x=qz .globalImplicit)
def qF{x y:Str}(h:(!(x==y))=true):(x==y)=false:=by
 cases e:x==y with
 |false=>rfl|true=>rw[e] at h;exact no h
def aEy(b:Bool)(X:Cx):Prop:=b=true\/∀ x,X.fn x=true
def aJn(st:aEy b X)(h:aEu b X.N X.env.scope i x=true):X.N[i]?=qz x/\L2.Loc X.env.scope x/\(X.fn x=true\/X.env.scope.names.lookup x=qz .local):=by
 let(h1,h2):=dG h;cases b with
 |true=>
   have h3:=oqT h2;exact⟨oqT h1,.inl h3,.inr h3⟩
 |false=>
   refine⟨oqT h1,aEb h2,?_⟩;rcases st with z|z
   ·cases z
   ·exact .inl (z x)
def yQ:List Nat->jT
 |[]=>aFq|i::is=>aE2 (oW i) (yQ is)
def uL(K:FrG):Tg->TG
 |.one i=>oW i|.many is=>aFC K ↑is (yQ is)
def aJ9(K:FrG):∀ is:List Nat,zK K is (yQ is)
 |[]=>aSJ|_::is=>aRg (aJ9 K is)
def aBN(K:FrG)(t:Tg):GA K t (uL K t):=by
 cases t with
 |one i=>exact aVR i|many is=>exact aTf (aJ9 K is)
section
variable {X:Cx}
def aIU{b:Bool}(st:aEy b X)(nd:X.N.Nodup):∀ {is:List Nat}{es:List qy},aD1 b X.N X.env.scope is es=true->rX X es (yQ is)/\(zo es X.env).length=↑is/\(zo es X.env).findIdx? (·.1)=qx
 |[],[],_=>⟨aSk,rfl,rfl⟩|[],_::_,h=>no h|_::_,[],h=>no h
 |i::is,e::r,h=>mM (P:=λ e=>rX X (e::r) (yQ (i::is))/\(zo (e::r) X.env).length=(i::is).length/\(zo (e::r) X.env).findIdx? (·.1)=qx) h λ x p h=>by
   let(a1,a2,a3):=aJn st (aL h);let(pg,hl2,hf):=aIU st nd (aR h);refine⟨aQt (aDS nd a1 a2 a3) pg rfl,?_,?_⟩
   ·show((false,assign (.Name x p) X.env)::zo r X.env).length=_;rw[yAl,yAl,hl2]
   ·show((false,assign (.Name x p) X.env)::zo r X.env).findIdx? (·.1)=qx;rw[List.findIdx?_cons,hf];rfl
end
def aBS(st:aEy b X)(nd:X.N.Nodup)(hc:X.calm=true)(h:yF b X.N X.env.scope t tg=true):PG X tg (uL X.K t):=by
 cases t with
 |one i=>exact mM (P:=λ e=>PG X e (oW i)) h λ x p h=>let ⟨a1,a2,a3⟩:=aJn st h;aDS nd a1 a2 a3|many is=>exact rG (P:=λ e=>PG X e (uL X.K (.many is))) h λ es k p h=>let ⟨pg,hl2,hf⟩:=aIU st nd h;aTH hc pg hl2 hf
section
variable (T:Tx)(C:Calls)
def SE(c:E):Prop:=∀ X,Ctx T C X->∀ x,bJ T X.N c X.env.scope x=true->PE X x (aP X.K (ev C c))
def ST(c:E):Prop:=∀ X,Ctx T C X->∀ x,mS T X.N c X.env.scope x=true->PT X x (gB X.K (tv C c))/\∀ op es p,x=.BoolOp op es p->PW X x (gB X.K (tv C c))
def SA(c:E):Prop:=∀ X,Ctx T C X->∀ x,jK T X.N c X.env.scope x=true->PA X x (eD X.K (av C c))
def SO(c:E):Prop:=∀ X,Ctx T C X->∀ x,okO T X.N c X.env.scope x=true->PO X x (mO X.K (ov C c))
def SL(c:E):Prop:=∀ X,Ctx T C X->∀ x,zQ T X.N c X.env.scope x=true->PE X x (jY X.K (lv C c))
def SI(c:E):Prop:=∀ X,Ctx T C X->∀ tg x,okI T X.N c X.env.scope tg x=true->PI X tg x (jX X.K (lv C c))
end
def aJH{f:FE}(h:∀ env S,f env S=qx):PE X x (aP X.K f):=λ aB s σ H Q I aX=>by
 let(F,L,S,env,w,S',R,E,e,q):=aX;rw[h] at e;cases e
def aXx{f:FE}(h:PE X x (aP X.K f))(ht:mN x=true):PT X x (gB X.K (cU f))/\∀ op es p,x=.BoolOp op es p->PW X x (gB X.K (cU f)):=
 ⟨aWU h λ fR=>aVA ht X.env fR,λ op es p e=>by subst e;exact no ht⟩
def aKU(i:Nat):SE T C (.var i):=λ X hX x hx=>mM (P:=λ x=>PE X x _) hx λ y p h=>aWR (dT (aL (aL (aL h)))) (aK6 (aR (aL (aL h)))) (qF (aR (aL h))) (qF (aR h))
def aUd(i:Int):SE T C (.int i):=λ X hX x h=>xW (P:=λ x=>PE X x _) h λ k p=>aMB
def aMk(i:Bool):SE T C (.bl i):=λ X hX x h=>xW (P:=λ x=>PE X x _) h λ k p=>aZa
def aUH:SE T C .non:=λ X hX x h=>xW (P:=λ x=>PE X x _) h λ k p=>aXT
def aUC(i:Str):SE T C (.str i):=λ X hX x h=>xW (P:=λ x=>PE X x _) h λ k p=>aXn
def aKB(ha:SE T C a)(hb:SE T C b):SE T C (.bin op a b):=λ X hX x hx=>aM4 (P:=λ x=>PE X x _) hx λ l o r p h=>by
 obtain rfl:=dT (aL (aL h));exact aXy (ha X hX _ (aR (aL h))) (hb X hX _ (aR h))
def aXI(ha:SE T C a):SE T C (.un op a):=λ X hX x hx=>aFg (P:=λ x=>PE X x _) hx λ o r p h=>by
 obtain rfl:=dT (aL (aL h));exact aZx (ha X hX _ (aR h))
def aVq(ha:SE T C a)(hb:SE T C b):SE T C (.cmp op a b):=λ X hX x hx=>aBE (P:=λ x=>PE X x _) hx λ l o r p h h4=>by
 obtain rfl:=dT (aL (aL h));exact aXa hX.units (ha X hX _ (aR (aL h))) (hb X hX _ (aR h)) (aAS h4 o)
def aFa{t:TT}(h:PT X x t)(n:x.ctorIdx≠0):PT X x t/\∀ op es p,x=.BoolOp op es p->PW X x t:=
 ⟨h,λ op es p e=>absurd (congrArg Expr.ctorIdx e) n⟩
def aVw(ha:SE T C a)(hb:SE T C b):ST T C (.cmp op a b):=λ X hX x hx=>aBE (P:=λ x=>PT X x _/\∀ op es p,x=.BoolOp op es p->PW X x _) hx λ l o r p h h4=>by
 obtain rfl:=dT (aL (aL h));exact aFa (aTL hX.units (ha X hX _ (aR (aL h))) (hb X hX _ (aR h)) (aAS h4 o)) (yHp 14)
def aUr:SE T C (.con n ts):=λ X hX x hx=>mM (P:=λ x=>PE X x _) hx λ y p h=>by
 obtain rfl:=dT (aL (aL (aL h)));exact aYD (iX (aR (aL h))) (qF (aR h)) (hX.cns _ _ (List.contains_iff_mem.mp (aR (aL (aL h)))))
def aWb(ha:SE T C a)(hb:SE T C b):SE T C (.and a b):=λ X hX x hx=>aBn (P:=λ x=>PE X x _) hx
 (λ l r p h=>PE.weak (aK5 (ha X hX _ (aL h)) (aKi (hb X hX _ (aR h)))) aKu) λ l b c r p h=>PE.weak (aK5 (ha X hX _ (aL h)) (hb X hX _ (aR h))) aKu
def aX4(ha:SE T C a)(hb:SE T C b):SE T C (.or a b):=λ X hX x hx=>aBn (P:=λ x=>PE X x _) hx
 (λ l r p h=>PE.weak (aL6 (ha X hX _ (aL h)) (aKi (hb X hX _ (aR h)))) aLJ) λ l b c r p h=>PE.weak (aL6 (ha X hX _ (aL h)) (hb X hX _ (aR h))) aLJ
def aKG{t:TT}(k:PW X x t):PT X x t/\∀ op es p,x=.BoolOp op es p->PW X x t:=⟨k.pt,λ _ _ _ _=>k⟩
def aVn(ha:ST T C a)(hb:ST T C b):ST T C (.and a b):=λ X hX x hx=>aKG (aBn (P:=λ x=>PW X x _) hx
 (λ l r p h=>PW.weak (aKa (ha X hX _ (aL h)).1 (aTo (hb X hX _ (aR h)).1)) aLw) λ l b c r p h=>PW.weak (aKa (ha X hX _ (aL h)).1 ((hb X hX _ (aR h)).2 _ _ _ rfl)) aLw)
def aYB(ha:ST T C a)(hb:ST T C b):ST T C (.or a b):=λ X hX x hx=>aKG (aBn (P:=λ x=>PW X x _) hx
 (λ l r p h=>PW.weak (aME (ha X hX _ (aL h)).1 (aVt (hb X hX _ (aR h)).1)) aM5) λ l b c r p h=>PW.weak (aME (ha X hX _ (aL h)).1 ((hb X hX _ (aR h)).2 _ _ _ rfl)) aM5)
def aUs(ha:SE T C a):SE T C (.not a):=λ X hX x hx=>aFg (P:=λ x=>PE X x _) hx λ o y p h=>by
 obtain rfl:=dT (aL h);exact aV3 (ha X hX _ (aR h))
def aT6(ha:ST T C a):ST T C (.not a):=λ X hX x hx=>aFg (P:=λ x=>PT X x _/\∀ op es p,x=.BoolOp op es p->PW X x _) hx λ o y p h=>by
 obtain rfl:=dT (aL h);exact aFa (aXH (ha X hX _ (aR h)).1) (yHp 2)
def aUb(hc:ST T C c)(ha:SE T C a)(hb:SE T C b):SE T C (.ite c a b):=λ X hX x hx=>aZh (P:=λ x=>PE X x _) hx λ x y z p h=>aWA (hc X hX _ (aL (aL h))).1 (ha X hX _ (aR (aL h))) (hb X hX _ (aR h))
def aUK(ha:SA T C a):SE T C (.tup a):=λ X hX x hx=>rG (P:=λ x=>PE X x _) hx λ xs k p h=>aYM (ha X hX _ h)
def aVE(ha:SA T C a):SL T C (.lst a):=λ X hX x hx=>aFm (P:=λ x=>PE X x _) hx λ xs p h=>aXz (ha X hX _ h)
def aWo:SA T C .nil:=λ X hX x h=>iW (P:=λ x=>PA X x _) h aEN
def aRj(ha:SE T C a)(hr:SA T C r):SA T C (.cons a r):=λ X hX x h=>by
 cases x with
 |nil=>exact no h|cons y ys=>exact mC (ha X hX _ (aL (aL h))) (hr X hX _ (aR h)) (fN (aR (aL h)) _ _)
def aYs:SO T C .no:=λ X hX x h=>aLC (P:=λ x=>PO X x _) h aZM
def aRW(ha:SE T C a):SO T C (.cons a r):=λ X hX x h=>aZJ (P:=λ r=>PO X x (mO X.K (ov C (.cons a r)))) (aL h) (aMD (P:=λ x=>PO X x _) (aR h) λ y h=>aTX (ha X hX _ h))
def aMo(ha:SE T C a)(hb:SE T C b):SE T C (.ix a b):=λ X hX x hx=>uH (P:=λ x=>PE X x _) hx λ l r p h h3=>aYY (ha X hX _ (aL h)) (hb X hX _ (aR h)) (aBI h3)
def aTT(hk:SE T C k):SE T C (.tab n aF k):=λ X hX x hx=>uH (P:=λ x=>PE X x _) hx λ y z p g h6=>mM (P:=λ y=>PE X (.Subscript y z p) _) (aR g) λ u q h=>by
 obtain rfl:=dT (aL (aL (aL h)));exact aYJ (iX (aR (aL h))) (qF (aR h)) (hX.tbs _ _ (List.contains_iff_mem.mp (aR (aL (aL h))))) (hk X hX _ (aL g)) (aBI h6)
def aWD{lo hi:E}(ha:SE T C a)(hl:SO T C lo)(hh:SO T C hi):SE T C (.sl a lo hi):=λ X hX x hx=>aWE (P:=λ x=>PE X x _) hx λ y l u p q h=>aZr (ha X hX _ (aL (aL h))) (hl X hX _ (aR (aL h))) (hh X hX _ (aR h))
def aRY(h:jK T N a sc []=true):a=.nil:=by cases a<;>first|rfl|exact no h
def aPp{call:List W->aC->Option (W×aC)}{fs:FA}(h:C f=qz (np,call)):mE C f fs=aBY fs np call:=by funext env S;unfold mE;rw[h]
def aJh(ha:SA T C a):SE T C (.call f a):=λ X hX x hx=>tI (P:=λ x=>PE X x _) hx λ y p zs q h=>by
 cases hC:C f with
 |none=>exact aJH λ env S=>by show mE C f (av C a) env S=qx;unfold mE;rw[hC]
 |some nc=>
   let(k,_,rm,fs,_):=hX.room;let(fa,fd,ps,m1,m2,m3,m4):=fs f nc.1 nc.2 y hC (aL (aL (aL (aL h))));have hw:∀ σ H Q,aP X.K (ev C (.call f a)) σ H Q->aBL (pS X.K nc.1 nc.2) [] E0 (eD X.K (av C a)) σ H Q:=λ σ H Q hq=>aTD σ H Q (aPp (fs:=av C a) hC▸hq)
   have h2:=iX (aR (aL (aL (aL h))));have h3:=qF (aR (aL (aL h)));cases zs with
   |nil=>
     refine PE.weak (aQw m4 rm h2 m1 m2 m3 .nil aBH h3) λ σ H Q hq=>?_
     let(F,L,S,env,ws,S',R,E,e,q2):=hw σ H Q hq;cases aRY (aR (aL h));cases e;exact q2 F L H [] Gr.refl R .nil
   |cons z zr=>exact PE.weak (aRD m4 rm h2 m1 m2 m3 .nil aBH (ha X hX _ (aR (aL h))) h3 (fN (aL (aR h)) _ _) (vP (aR (aR h)) _ _)) hw
def aK7(ha:SA T C a):SE T C (.blt b a):=λ X hX x hx=>tI (P:=λ x=>PE X x _) hx λ y p zs q h=>by
 obtain rfl:=dT (aR (aL (aL (aL h))));cases zs with
 |nil=>exact no (aL (aL (aL (aL h))))
 |cons z zr=>
 have A:=ha X hX _ (aR (aL h));have G:=iX (aR (aL (aL h)));have s1:=fN (aL (aR h)) zr X.env;have s2:=vP (aR (aR h)) X.env q;cases b with
 |len=>exact PE.weak (aAO aWK G (hX.blt _ (·)) (by decide +kernel) A (·) (·) s1 s2) xL|mx=>exact PE.weak (aAO (aX3 hX.calm) G (hX.blt _ (·)) (by decide +kernel) A (·) (·) s1 s2) xL|mn=>exact PE.weak (aAO (aWx hX.calm) G (hX.blt _ (·)) (by decide +kernel) A (·) (·) s1 s2) xL|int=>exact PE.weak (aHn aXs G (hX.blt _ (·)) (by decide +kernel) A (·) (·) s1 s2) xL|tup=>exact PE.weak (aHn aTs G (hX.blt _ (·)) (by decide +kernel) A (·) (·) s1 s2) xL
def aIC(n:Ty):xu n.n=qz (.type n.s)/\n.n∈bltNames:=by cases n<;>exact⟨by decide +kernel,by decide⟩
def aKR(ha:SE T C a):SE T C (.isi a n):=λ X hX x hx=>aCa (P:=λ x=>PE X x _) hx λ p y w q h3 h5 h6 h7 _=>mM (P:=λ w=>PE X (.Call (.Name "isinstance" p) [y,w] [] q) _) h7 λ z pz h=>by
 obtain rfl:=dT (aL h);have k:=@aXC X _ n.n n.s pz p q _ (ha X hX _ h5) (iX h3) (hX.blt _ (·)) (by decide +kernel) (iX (aR h)) (hX.blt _ (aIC n).2) (aIC n).1 (by cases n<;>decide) (by cases n<;>decide) (fN h6 _ _);refine PE.weak k λ σ H Q ⟨F,L,S,env,w,S',R,E,e,q2⟩=>⟨F,L,S,env,w,S',R,E,?_,q2⟩
 let((w1,S1),e1,e2):=aI e;let(d,z,e3,e4,rfl,rfl):=vO e2;unfold aMN f1;rw[e1];show gP (zD X.K n.s) _ w1=_;unfold gP;rw[e3];dsimp only[yCs];rw[aUT X.K e4]
def aTg(ha:SE T C a):SE T C (.bits a):=λ X hX x hx=>aB3 (P:=λ x=>PE X x _) hx λ o ap xs cp h4 h3 h=>iW (P:=λ xs=>PE X (.Call (.Attribute o "bit_length" ap) xs [] cp) _) (aR h) (by
 refine PE.weak (aU1 PySem.F.plainAttrs_int yGk PySem.F.type_int_bit_length aRU (ha X hX _ (aL h)) (oQ h3 _ _) h4) λ σ H Q hPq52=>?_
 let(F,L,S,env,w,S',R,E,e,q):=hPq52;let((w1,S1),e1,e2):=aI e;let(d,z,e3,e4,rfl,rfl):=vO e2;refine⟨F,L,S,env,w1,_,R,E,e1,λ F1 L1 H1 v g1 R1 d1=>?_⟩;have nw:=kW R1 d1 e3;cases d<;>first|(cases e4;done)|skip
 cases e4;obtain rfl:=nw.int;exact⟨rfl,_,rfl,rfl,q F1 L1 H1 _ g1 R1 (Den.int _)⟩)
def iR(h:cR z=true):qo [z] X.env=(false,eval z X.env)::qo [] X.env:=fN h [] X.env
def pY(ha:SE T C a)(hX:Ctx T C X)(h:bJ T X.N a X.env.scope z=true)(hp:cR z=true):PA X [z] (eD X.K (cT (ev C a) iK)):=mC (ha X hX _ h) aEN (iR hp)
def aT7(ho:SE T C o)(ha:SE T C a):SE T C (.app o a):=λ X hX x hx=>aLu (P:=λ x=>PE X x _) hx λ y ap z cp h4 h3 h2 h5 h6=>
 PE.weak (aEI yFn PySem.F.slot_list_append PySem.F.type_list_append aHK (ho X hX _ h2) (pY ha hX h5 h6) (oQ h3 _ _) (by rw[iR h6];rfl) h4 (iR h6) rfl) aYn
def aVM(ho:SE T C o)(ha:SE T C a):SE T C (.idx o a):=λ X hX x hx=>aLu (P:=λ x=>PE X x _) hx λ y ap z cp h4 h3 h2 h5 h6=>
 PE.weak (aEI yFn yFm PySem.F.type_list_index aQ1 (ho X hX _ h2) (pY ha hX h5 h6) (oQ h3 _ _) (by rw[iR h6];rfl) h4 (iR h6) rfl) aWS
def aTp(ha:SE T C a)(hb:SE T C b):SL T C (.lzip a b):=λ X hX x hx=>aM7 (P:=λ x=>PE X x _) hx λ p y q h2 h3 _=>aCa (P:=λ y=>PE X (.Call (.Name "list" p) [y] [] q) _) h3 λ p' z w q' h4 h5 h6 h7 h8=>
 aUk (ha X hX _ h5) (hb X hX _ h7) hX.calm (iX h2) (hX.blt _ (·)) (iX h4) (hX.blt _ (·)) (fN h6 [w] X.env) (iR h8)
def aTc(ha:SE T C a)(hb:SE T C b):SL T C (.lrep a b):=λ X hX x hx=>aM4 (P:=λ x=>PE X x _) hx λ l o r p h=>by
 obtain rfl:=dT (aL (aL h));exact aX9 (ha X hX _ (aR (aL h))) (hb X hX _ (aR h))
def aXB(ha:SE T C a):SI T C (.it a):=λ X hX tg x h=>aZl (ha X hX _ h)
def aSP(ha:SE T C a):SI T C (.rng1 a):=λ X hX tg x hx=>aM7 (P:=λ x=>PI X tg x _) hx λ p z q h2 h3 h4=>
 PI.weak (aPT (iX h2) (hX.blt _ (·)) (pY ha hX h3 h4) (iR h4)) aTS
def aS0(ha:SE T C a)(hb:SE T C b)(hc:SE T C c):SI T C (.rng3 a b c):=λ X hX tg x hx=>aMK (P:=λ x=>PI X tg x _) hx λ p z w v q h2 h3 h4 h5 h6 h7 h8=>by
 have st:=fN h4 [w,v] X.env;have st2:=fN h6 [v] X.env;exact PI.weak (aPF (iX h2) (hX.blt _ (·)) (mC (ha X hX _ h3) (mC (hb X hX _ h5) (pY hc hX h7 h8) st2) st) st (by rw[st2,iR h8];rfl)) aU7
def aSb(ha:SE T C a)(hb:SE T C b):SI T C (.rng2 a b):=λ X hX tg x hx=>aCa (P:=λ x=>PI X tg x _) hx λ p z z2 q h2 h3 h4 h5 h6=>by
 have st:=fN h4 [z2] X.env;exact PI.weak (aPw (iX h2) (hX.blt _ (·)) (mC (ha X hX _ h3) (pY hb hX h5 h6) st) (by rw[st,iR h6];rfl) (iR h6)) aV9
def aT9(ha:SE T C a)(hb:SE T C b):SI T C (.zip a b):=λ X hX tg x hx=>rG (P:=λ tg=>PI X tg x _) (aL hx) λ ts k tp _=>aCa (P:=λ x=>PI X _ x _) (aR hx) λ p z z2 q h2 h3 h4 h5 h6=>
 PI.weak (aUc (iX h2) (hX.blt _ (·)) (mC (ha X hX _ h3) (pY hb hX h5 h6) (fN h4 [z2] X.env)) (fN h4 [z2] X.env) (iR h6)) aYx
def aSy(ha:SE T C a)(hb:SE T C b)(hc:SE T C c):SI T C (.zip3 a b c):=λ X hX tg x hx=>rG (P:=λ tg=>PI X tg x _) (aL hx) λ ts k tp _=>aMK (P:=λ x=>PI X _ x _) (aR hx) λ p z z2 z3 q h2 h3 h4 h5 h6 h7 h8=>
 PI.weak (aTm (iX h2) (hX.blt _ (·)) (mC (ha X hX _ h3) (mC (hb X hX _ h5) (pY hc hX h7 h8) (fN h6 [z3] X.env)) (fN h4 [z2,z3] X.env)) (fN h4 [z2,z3] X.env) (fN h6 [z3] X.env) (iR h8)) aT1
def or2(h:(a||b)=true)(n:a=false):b=true:=by rw[n] at h;exact h
def aJc(h:aE3 scope osc=true):ScOk scope osc:=by
 have h2:=List.all_eq_true.mp (aR h);refine⟨dT (aL h),λ x hx e=>?_,λ x hx e=>?_,λ x hx e=>?_⟩
 ·have:=h2 x hx;simp[e] at this
 ·have:=h2 x hx;simp[e] at this;exact this
 ·have:=h2 x hx;simp[e] at this;exact this
def aEd:∀ {n:Nat},aCg N scope is n=true->∀ i,i<n->∀ x,N[i]?=qz x->scope.names.lookup x=qz .local->i∈is
 |0,_,i,hi,_,_,_=>absurd hi (yDg i)
 |n+1,h,i,hi,x,e,el=>by
   rcases Nat.lt_succ_iff_lt_or_eq.mp hi with z|z
   ·exact aEd (aL h) i z x e el
   ·subst z;have h2:=aR h;rw[e] at h2;exact List.contains_iff_mem.mp (or2 h2 (by rw[el];rfl))
def aSm{cond:E}(he:SE T C elt)(hi:SI T C it)(hc:ST T C cond):SL T C (.comp elt t it cond):=λ X hX x hx=>aNx (P:=λ x=>PE X x _) hx λ e tg iter ifs scope p h1 h2 h3 h4 h5 h6 h7=>by
 have sok:=aJc h1;refine aKz (g:=uL X.K t) hX.calm sok (λ i x a1 a2=>aEd h2 i (gIm a1).1 x a1 a2) (hi X hX tg iter h4) (λ Y hY=>?_) (aBN X.K t) (λ Y hY=>?_) (λ Y hY=>?_) (aDh h5 X.env)
 ·let(c1,c2,c3,c4):=hX.comp sok.kind hY;rw[<- c4];exact aBS (.inl rfl) c1.nd c1.calm (by rw[c2,c3];exact h3)
 ·let(c1,c2,c3,c4):=hX.comp sok.kind hY;cases ifs with|nil=>exact aND (P:=λ cond=>mX Y [] (tv C cond)) h6 aHP|cons y r=>exact iW (P:=λ r=>mX Y (y::r) _) (aL h6) (aHv (hc Y c1 y (by rw[c2,c3];exact aR h6)).1)
 ·let(c1,c2,c3,c4):=hX.comp sok.kind hY;rw[<- c4];exact he Y c1 e (by rw[c2,c3];exact h7)
def aXL(ha:SL T C a):SE T C (.fz a):=λ X hX x h=>aNo (ha X hX x h)
def aTY(ha:SL T C a):SE T C (.new a):=λ X hX x h=>aXM (ha X hX x h)
def Ctx.hu(hX:Ctx T C X):X.A.units+1<cLine:=xAi (yFc (by decide:1<=64) _) hX.units
def aH3:∀ {es:List qy} (_:lZ es=true) (env:Env) (pos:Pos),(backTo pos (qo es env)).all (λ x=>!x.1)=true
 |[],_,_,_=>rfl
 |e::es,h,env,pos=>by
   let(h1,h2):=dG h;rw[fN h1];show(true&&(backTo pos (qo es env)).all (λ x=>!x.1))=true;rw[aH3 h2 env pos];rfl
def aWz{o:qy}{args:List qy}(h:tD o=true)(ha:lZ args=true)(hl:args.length<30)(m:Str)(apos pos:Pos)(hp:(apos.endLine==pos.line)=true)(env:Env):∃ pl:Sem Bool,eval (.Call (.Attribute o m apos) args [] pos) env=(do
 let ov <- eval o env
 standAt apos.atName
 let (f,first) <- holding [ov] (getMethod ov m pl)
 callWith pos f first (backTo pos (qo args env)) (backToKw pos (keywordEach [] env))):=by
 have hf:methodCallForm (args.length+([]:List Keyword).length) (backTo pos (qo args env)) (backToKw pos (keywordEach [] env))=true:=by
  unfold methodCallForm;rw[aH3 ha env pos];show(true&&true&&decide (args.length+0+0<30))=true;rw[dqT (show args.length+0+0<30 from hl)];rfl
 refine⟨?_,?_⟩
 rotate_left
 ·rw[arm_eval_Call,oQ h];unfold methodCall methodCallPos;rw[hf];simp only[Bool.not_true,Bool.false_or,hp,if_true,pure_bind];rfl
def aUe(ha:SE T C a):SE T C (.fld a f):=λ X hX x hx=>aFw (P:=λ x=>PE X x _) hx λ o g p h=>by
 obtain rfl:=dT (aL (aL (aL h)));let(m,e1,e2):=any_some (aR (aL h));let(p1,hp,e3):=List.any_eq_true.mp e2;let(Cc,fi,fd,ps,h1,h2,h3,h4,h5,h6,h7):=hX.mo m.1 m.2 e1;exact aW7 (ha X hX _ (aR h)) (oQ (aR (aL (aL h))) _ _) h1 h2 (dT e3▸h4 p1 hp)
def aRh{call:List W->aC->Option (W×aC)}{fo:FE}{fs:FA}(h:C f=qz (np,call)):rD C m f fo fs=aB1 m fo fs np call:=by funext env S;unfold rD;rw[h]
def aVu(ho:SE T C o)(ha:SA T C es):SE T C (.mth m f o es):=λ X hX x hx=>aB3 (P:=λ x=>PE X x _) hx λ y ap zs cp h1 h2 h=>by
 cases hC:C f with
 |none=>exact aJH λ env S=>by show rD C m f (ev C o) (av C es) env S=qx;unfold rD;rw[hC]
 |some nc=>
   let(k,_,rm,_,fs):=hX.room;let(Cc,fa,fd,ps,m1,m2,m3,m4,m5):=fs m f nc.1 nc.2 hC (dT (aL (aL (aL (aL (aL h))))));have h3:=aR (aL (aL h));cases zs with
   |nil=>exact no (aR (aL h))
   |cons z zr=>
     let(pl,ht):=aWz h2 h3 (dT (aR h)) m ap cp h1 X.env;exact PE.weak (aSE (pl:=pl) (ho X hX _ (aR (aL (aL (aL (aL h)))))) m2 m3 m5 rm m4 .nil aBH (ha X hX _ (aR (aL (aL (aL h))))) (fN (aL h3) _ _) (vP (aR h3) _ _) ht) λ σ H Q hq=>aVZ m1 σ H Q (aRh (fo:=ev C o) (fs:=av C es) hC▸hq)
def aWw(ha:SA T C es):SE T C (.mk ini np es):=λ X hX x hx=>tI (P:=λ x=>PE X x _) hx λ y p zs q h=>by
 let(Cc,fi,fd,ps,h1,h2,h3,h4,h5,h6,h7):=hX.mo ini np (dT (aL (aL (aL (aL (aL h))))));let(k,hk,rm,_,_):=hX.room;obtain rfl:=dT (aR (aL (aL (aL (aL h)))));have h8:=aR (aL h);cases zs with
 |nil=>exact no (aR h)|cons z zr=>exact PE.weak (aSw h5 h7 (rm.mono hk) (iX (aR (aL (aL (aL h))))) h3 h6 .nil aBH (ha X hX _ (aR (aL (aL h)))) (·) (fN (aL h8) _ _) (vP (aR h8) _ _)) λ σ H Q hq=>aUA h1 σ H Q hq
def aUm(ha:SA T C es):SE T C (.tpl es):=λ X hX x hx=>rG (P:=λ x=>PE X x _) hx λ xs k p h=>aYm (ha X hX _ h)
def aVS(ha:SE T C a):SE T C (.tix a i):=λ X hX x hx=>uH (P:=λ x=>PE X x _) hx λ l r p h h3=>by
 have hs:=aBI h3;revert hs;exact xW (P:=λ r=>qL r->PE X (.Subscript l r p) _) (aR h) λ k q hs=>aWM (ha X hX _ (aL h)) aMB hs
def aVm(ha:SE T C a)(hb:SE T C b):SE T C (.din n a b):=λ X hX x hx=>aBE (P:=λ x=>PE X x _) hx λ l o r p h h4=>by
 obtain rfl:=dT (aL (aL h));exact aVI (aLD hX.hu (ha X hX _ (aR (aL h))) (hb X hX _ (aR h))) (aAS h4 _)
def aV2(ha:SE T C a)(hb:SE T C b):ST T C (.din n a b):=λ X hX x hx=>aBE (P:=λ x=>PT X x _/\∀ op es p,x=.BoolOp op es p->PW X x _) hx λ l o r p h h4=>by
 obtain rfl:=dT (aL (aL h));refine aFa (PT.weak (aVY (aLD hX.hu (ha X hX _ (aR (aL h))) (hb X hX _ (aR h))) (aAS h4 _)) λ σ H Q hPq53=>?_) (yHp 14);let(F,L,S,env,b1,S',R,E,e,q):=hPq53;let(w,d,e1,e2,e3):=aDd e;refine⟨F,L,S,env,w,S',R,E,e1,λ F1 L1 H1 v g1 R1 d1=>?_⟩;have hc:∃ c,w=.d (.bool c):=by
  let(p,ea,e1):=aI e1;let(p2,eb,e1):=aI e1;split at e1
  ·let(k,e4,e1):=aI e1;let(es,e5,e6):=map_some e1;cases e6;exact⟨_,rfl⟩
  ·cases e1
 let(c,rfl):=hc;cases e2;cases e3;cases (show Den X.K F1 (.bool b1) v from d1);exact⟨_,rfl,q F1 L1 H1 g1 R1⟩
def aTk(ha:SE T C a)(hb:SE T C b):SE T C (.dget a b):=λ X hX x hx=>uH (P:=λ x=>PE X x _) hx λ l r p h h3=>aVk hX.hu (ha X hX _ (aL h)) (hb X hX _ (aR h)) (aBI h3)
def aTb:SE T C .dnew:=λ X hX x hx=>aMQ (P:=λ x=>PE X x _) hx λ ks vs p h=>iW (P:=λ ks=>PE X (.Dict ks vs p) _) (aL h) (iW (P:=λ vs=>PE X (.Dict [] vs p) _) (aR h) aVT)
def aVN(hs:SA T C es)(ha:SE T C a):SE T C (.cou b es a):=λ X hX x hx=>aB3 (P:=λ x=>PE X x _) hx λ o ap xs cp h1 h2 z=>jN (P:=λ xs=>PE X (.Call (.Attribute o "count" ap) xs [] cp) _) (aR z) λ y u=>by
 cases b with
 |false=>exact rG (P:=λ o=>PE X (.Call (.Attribute o "count" ap) [y] [] cp) _) (aL z) λ xs k tp h=>aVO (hs X hX _ h) (ha X hX _ (aL u)) h1 (iR (aR u))|true=>exact aFm (P:=λ o=>PE X (.Call (.Attribute o "count" ap) [y] [] cp) _) (aL z) λ xs tp h=>PE.weak (aEI yFn PySem.F.slot_list_count PySem.F.type_list_count aP3 (aEs (hs X hX _ h)) (pY ha hX (aL u) (aR u)) rfl (by rw[iR (aR u)];rfl) h1 (iR (aR u)) rfl) aTR
def qZ(h:SE T C c)(ht:tv C c=cU (ev C c))(hk:∀ N sc x,mS T N c sc x=(bJ T N c sc x&&mN x)):ST T C c:=λ X hX x q=>by
 rw[hk] at q;rw[ht];exact aXx (h X hX x (aL q)) (aR q)
structure Sn(T:Tx)(C:Calls)(c:E):Prop where
 e:SE T C c:=by exact λ _ _ _ h=>no h
 t:ST T C c:=by exact λ _ _ _ h=>no h
 a:SA T C c:=by exact λ _ _ _ h=>no h
 o:SO T C c:=by exact λ _ _ _ h=>no h
 l:SL T C c:=by exact λ _ _ _ h=>no h
 i:SI T C c:=by exact λ _ _ _ _ h=>no h
def sn(c:E):Sn T C c:=by
 induction c with
 |var i=>exact {e:=aKU i,t:=qZ (aKU i) rfl λ _ _ _=>rfl }|int i=>exact {e:=aUd i }|bl b=>exact {e:=aMk b,t:=qZ (aMk b) rfl λ _ _ _=>rfl }|non=>exact {e:=aUH }|str x=>exact {e:=aUC x }|bin op a b bH cN=>exact {e:=aKB bH.e cN.e,t:=qZ (aKB bH.e cN.e) rfl λ _ _ _=>rfl }|un op a bH=>exact {e:=aXI bH.e }|cmp op a b bH cN=>exact {e:=aVq bH.e cN.e,t:=aVw bH.e cN.e }|and a b bH cN=>exact {e:=aWb bH.e cN.e,t:=aVn bH.t cN.t }|or a b bH cN=>exact {e:=aX4 bH.e cN.e,t:=aYB bH.t cN.t }|not a bH=>exact {e:=aUs bH.e,t:=aT6 bH.t }|ite c a b ihc bH cN=>exact {e:=aUb ihc.t bH.e cN.e }|tup a bH=>exact {e:=aUK bH.a }|lst a bH=>exact {l:=aVE bH.a }|nil=>exact {a:=aWo }|cons a r bH ihr=>exact {a:=aRj bH.e ihr.a,o:=aRW bH.e }|con x ts=>exact {e:=aUr }|ix a b bH cN=>exact {e:=aMo bH.e cN.e,t:=qZ (aMo bH.e cN.e) rfl λ _ _ _=>rfl }|tab x aF k ihk=>exact {e:=aTT ihk.e }|sl a lo hi bH ihlo ihhi=>exact {e:=aWD bH.e ihlo.o ihhi.o }|no=>exact {o:=aYs }|call f a bH=>exact {e:=aJh bH.a,t:=qZ (aJh bH.a) rfl λ _ _ _=>rfl }|blt b a bH=>exact {e:=aK7 bH.a,t:=qZ (aK7 bH.a) rfl λ _ _ _=>rfl }|isi a n bH=>exact {e:=aKR bH.e,t:=qZ (aKR bH.e) rfl λ _ _ _=>rfl }|bits a bH=>exact {e:=aTg bH.e }|app o a iho bH=>exact {e:=aT7 iho.e bH.e }|idx o a iho bH=>exact {e:=aVM iho.e bH.e }|lzip a b bH cN=>exact {l:=aTp bH.e cN.e }|lrep a b bH cN=>exact {l:=aTc bH.e cN.e }|comp elt t it cond ihelt ihit ihcond=>exact {l:=aSm ihelt.e ihit.i ihcond.t }|it a bH=>exact {i:=aXB bH.e }|rng1 a bH=>exact {i:=aSP bH.e }|rng2 a b bH cN=>exact {i:=aSb bH.e cN.e }|rng3 a b c bH cN ihc=>exact {i:=aS0 bH.e cN.e ihc.e }|zip a b bH cN=>exact {i:=aT9 bH.e cN.e }|zip3 a b c bH cN ihc=>exact {i:=aSy bH.e cN.e ihc.e }|fz a bH=>exact {e:=aXL bH.l }|new a bH=>exact {e:=aTY bH.l }|fld a f bH=>exact {e:=aUe bH.e }|mth m f o es iho ihes=>exact {e:=aVu iho.e ihes.a }|mk ini np es ihes=>exact {e:=aWw ihes.a }|tpl es ihes=>exact {e:=aUm ihes.a }|tix a i bH=>exact {e:=aVS bH.e }|din n k d ihk ihd=>exact {e:=aVm ihk.e ihd.e,t:=aV2 ihk.e ihd.e }|dget d k ihd ihk=>exact {e:=aTk ihd.e ihk.e }|dnew=>exact {e:=aTb }|cou b es a ihes bH=>exact {e:=aVN ihes.a bH.e }
section
variable (T:Tx)(C:Calls)
def SS(c:Sx):Prop:=∀ X,Ctx T C X->(∀ x,X.fn x=true)->∀ st,okS T X.N c X.env.scope st=true->PS X st (cZ X.K (xs C c))
def qA(c:Sx):Prop:=∀ X,Ctx T C X->(∀ x,X.fn x=true)->∀ st,pH T X.N c X.env.scope st=true->dI X st (cZ X.K (xs C c))
end
def aJC(h:oS e=true)(line:Nat)(env:Env):swapsWithSole [t] e line env=pure false:=vS h _ _ _
def aOR(h:xG e=false):wj [.Tuple ts k p] e env=pure qx:=by cases e<;>first|rfl|exact no h.symm
def aOw:wj [.Subscript o i p] e env=pure qx:=by cases e<;>rfl
def aUl(ha:SS T C a)(hb:qA T C b):qA T C (.seq a b):=λ X hX hf st h=>by
 cases st with
 |nil=>exact no h
 |cons s r=>
   let(h1,h2):=dG h;exact aWt (ha X hX hf _ h1) (hb X hX hf _ h2)
def aTq:qA T C .skip:=λ X hX hf st h=>iW (P:=λ st=>dI X st _) h aUg
def aTj:SS T C (.expr e):=λ X hX hf st h=>aZg (P:=λ st=>PS X st _) h λ x p h=>aVG ((sn e).e X hX _ (aL h)) (vS (aR h) _ _ _)
def aUB:SS T C (.ret e):=λ X hX hf st h=>aZI (P:=λ st=>PS X st _) h λ _ p h=>aMD (P:=λ v=>PS X (.Return v p) _) h λ x h=>aXw ((sn e).e X hX _ h)
def aU9(ha:qA T C a)(hb:qA T C b):SS T C (.ifs c a b):=λ X hX hf st h=>aZz (P:=λ st=>PS X st _) h λ x y z p h=>aYW ((sn c).t X hX _ (aL (aL h))).1 (ha X hX hf _ (aR (aL h))) (hb X hX hf _ (aR h))
def aWi:SS T C (.set i e):=λ X hX hf st h=>uE (P:=λ st=>PS X st _) h λ _ y p h=>jN (P:=λ ts=>PS X (.Assign ts y p) _) (aR h) λ _ g=>mM (P:=λ t=>PS X (.Assign [t] y p) _) g λ x q g=>
 aMy hX.nd (dT (aL g)) (aEb (aR g)) ((sn e).e X hX _ (aL (aL h))) (vS (aR (aL h)) _ _ _) (.inl (hf _))
def aYQ{f:FL}(σ:St)(H:Hp)(Q:VK)(h:aP K (kM f) σ H Q):jY K f σ H Q:=by let(F,L,S,env,w,S',R,E,e,q):=h;let((ds,S1),e1,e2):=aI e;cases e2;exact⟨F,L,S,env,ds,_,R,E,e1,λ F1 L1 H1 p xs g1 R1 hF hL hH dl=>q _ L1 _ _ (g1.trans (Gr.new hF)) (R1.adopt hF hL hH) (Den.lst (bX.of cO) (dl.mono (gD hF)))⟩
def aYv{f:FL}(σ:St)(H:Hp)(Q:VK)(h:aP K (hU f) σ H Q):jY K f σ H Q:=by let(F,L,S,env,w,S',R,E,e,q):=h;let((ds,S1),e1,e2):=aI e;cases e2;refine⟨F,L,S,env,ds,_,R,E,e1,λ F1 L1 H1 p xs g1 R1 hF hL hH dl=>q _ _ _ _ (g1.trans Gr.newLoc) (R1.adoptLoc hF hL hH dl) ⟨p,?_,rfl⟩⟩;dsimp only;rw[<- R1.len,yAf (yAb _)];simp
def aZC{f:FL}(nw:Bool):∀ (σ:St) (H:Hp) (Q:VK),aP K (match nw with|true=>hU f|false=>kM f) σ H Q->jY K f σ H Q:=by
 cases nw
 ·exact aYQ
 ·exact aYv
def aS5:SS T C (.setC nw i e):=λ X hX hf st h=>uE (P:=λ st=>PS X st _) h λ _ y p h=>jN (P:=λ ts=>PS X (.Assign ts y p) _) (aR h) λ _ g=>mM (P:=λ t=>PS X (.Assign [t] y p) _) g λ x q g=>by
 refine aZc (P:=λ e=>zQ T X.N e X.env.scope y=true->PS X (.Assign [.Name x q] y p) (cZ X.K (xs C (.setC nw i e)))) (aL (aL h)) (λ elt t it cond hL=>aNx (P:=λ y=>PS X (.Assign [.Name x q] y p) (cZ X.K (xs C (.setC nw i (.comp elt t it cond))))) hL λ e tg iter ifs scope r h1 h2 h3 h4 h5 h6 h7=>?_) (aR (aL h));have sok:=aJc h1;refine aPI (g:=uL X.K t) hX.nd (dT (aL g)) (aEb (aR g)) (.inl (hf _)) hX.calm sok (λ i x a1 a2=>aEd h2 i (gIm a1).1 x a1 a2) ((sn it).i X hX tg iter h4) (λ Y hY=>?_) (aBN X.K t) (λ Y hY=>?_) (λ Y hY=>?_) (aDh h5 X.env) (aZC nw)
 ·let(c1,c2,c3,c4):=hX.comp sok.kind hY;rw[<- c4];exact aBS (.inl rfl) c1.nd c1.calm (by rw[c2,c3];exact h3)
 ·let(c1,c2,c3,c4):=hX.comp sok.kind hY;cases ifs with|nil=>exact aND (P:=λ cond=>mX Y [] (tv C cond)) h6 aHP|cons y r=>exact iW (P:=λ r=>mX Y (y::r) _) (aL h6) (aHv ((sn cond).t Y c1 y (by rw[c2,c3];exact aR h6)).1)
 ·let(c1,c2,c3,c4):=hX.comp sok.kind hY;rw[<- c4];exact(sn elt).e Y c1 e (by rw[c2,c3];exact h7)
def aFG(h:(!b)=true):b=false:=by
 cases b with
 |false=>rfl|true=>exact no h
def aRz:SS T C (.setT t e):=λ X hX hf st h=>uE (P:=λ st=>PS X st _) h λ _ v p h=>jN (P:=λ ts=>PS X (.Assign ts v p) _) (aR h) λ tg g=>by
 have h1:=aBS (.inr hf) hX.nd hX.calm (aR g);revert h1;exact rG (P:=λ tg=>PG X tg (uL X.K t)->PS X (.Assign [tg] v p) (cZ X.K (xs C (.setT t e)))) (aL g) λ ts k q _ h1=>PS.weak (aK3 ((sn e).e X hX _ (aL (aL (aL h)))) h1 (aJC (aR (aL (aL h))) _ _) (aOR (aFG (aR (aL h)))) rfl) (aT5 (aBN X.K t))
def aU0:SS T C (.put o i e):=λ X hX hf st h=>uE (P:=λ st=>PS X st _) h λ _ z p h=>jN (P:=λ ts=>PS X (.Assign ts z p) _) (aR h) λ _ g=>uH (P:=λ t=>PS X (.Assign [t] z p) _) g λ x y q g h3=>
 aX2 ((sn o).e X hX _ (aL g)) ((sn i).e X hX _ (aR g)) ((sn e).e X hX _ (aL (aL h))) (aPx h3) (aJC (aR (aL h)) _ _) aOw
def aSh:SS T C (.dput o i e):=λ X hX hf st h=>uE (P:=λ st=>PS X st _) h λ _ z p h=>jN (P:=λ ts=>PS X (.Assign ts z p) _) (aR h) λ _ g=>uH (P:=λ t=>PS X (.Assign [t] z p) _) g λ x y q g h3=>
 aVd hX.hu ((sn o).e X hX _ (aL g)) ((sn i).e X hX _ (aR g)) ((sn e).e X hX _ (aL (aL h))) (vS (aR (aL h)) _ _ _)
def aR0(hb:qA T C b):SS T C (.loop t it b):=λ X hX hf st h=>aZq (P:=λ st=>PS X st _) h λ tg x y z p h=>iW (P:=λ z=>PS X (.For tg x y z p) _) (aL (aL (aL (aL h))))
 (aXJ hX.own hX.calm ((sn it).i X hX _ _ (aR (aL (aL h)))) (aBS (.inr hf) hX.nd hX.calm (aR (aL (aL (aL h))))) (aBN X.K t) (hb X hX hf _ (aR h)) (aDh (aR (aL h)) X.env))
def aQM{α:Type}{l:List α}{a:α}(h:l[i]?=qz a):l.set i a=l:=by
 apply List.ext_getElem?;intro j;by_cases c:i=j
 ·subst c;rw[yAr (gIm h).1,h]
 ·rw[yAq c]
def aX6{f:FS}(D:Ends)(σ:St)(H:Hp)(h:cZ K (zE i f) D σ H):cZ K f D σ H:=by
 let(F,L,S,env,fl,S',R,E,e,q):=kS h;unfold zE at e;split at e
 ·rename_i n hn;split at e
  ·rename_i ds hs;let(v,hv,a,ha,rfl):=E.get i (.loc n) hn;let(F',g,R',dn):=R.freeze ha hs;have E':=(E.mono g).set i (w:=.d (.list ds)) dn;rw[aQM hv] at E';exact mF R' E' e λ F2 L2 H2 g2 R2=>q F2 L2 H2 (g.trans g2) R2
  ·cases e
 ·cases e
def aUI(hs:SS T C s):SS T C (.frs i s):=λ X hX hf st h=>PS.weak (hs X hX hf st h) aX6
def ss{C:Calls}(c:Sx):SS T C c/\qA T C c:=by
 have N2:∀ {c:Sx},SS T C c->(∀ N sc st,pH T N c sc st=false)->SS T C c/\qA T C c:=λ q hh=>⟨q,λ X hX hf st h=>by rw[hh] at h;exact no h⟩
 induction c with
 |skip=>exact⟨λ X hX hf st h=>no h,aTq⟩|seq a b bH cN=>exact⟨λ X hX hf st h=>no h,aUl bH.1 cN.2⟩|expr e=>exact N2 aTj λ _ _ _=>rfl|ret e=>exact N2 aUB λ _ _ _=>rfl|ifs c a b bH cN=>exact N2 (aU9 bH.2 cN.2) λ _ _ _=>rfl|set i e=>exact N2 aWi λ _ _ _=>rfl|setC nw i e=>exact N2 aS5 λ _ _ _=>rfl|setT t e=>exact N2 aRz λ _ _ _=>rfl|put o i e=>exact N2 aU0 λ _ _ _=>rfl|dput o i e=>exact N2 aSh λ _ _ _=>rfl|loop t it b cN=>exact N2 (aR0 cN.2) λ _ _ _=>rfl|frs i s ih=>exact N2 (aUI ih.1) λ _ _ _=>rfl
structure Fn where
 name:Str
 np:Nat
 N:List Str
 body:Sx
 st:xk
 me:Bool:=false
 qual:Str:=name
structure Cl where
 ini:List (Str×Ini)
 np:Nat
 N:List Str
 st:xk
def aD(fs:List Fn):Nat->Calls
 |0=>λ _=>qx|d+1=>λ f=>(fs[f]?).map λ F=>(F.np,fH (xs (aD fs d) F.body) F.N.length)
structure Tbs where
 tb:List (Str×List (Str×Tv))
 cn:List (Str×List Tv)
 st:List (Str×Str)
 cl:Option Cl
def nU:Nat->List Fn->List (Str×Nat)
 |_,[]=>[]
 |i,F::r=>if F.me=true then (F.name,i)::nU (i+1) r else nU (i+1) r
def tab(fs:List Fn)(tb:Tbs):Tx:=⟨fs.map λ F=>(F.name,F.np),tb.tb,tb.cn,tb.st,nU 0 fs,tb.cl.map λ c=>(c.ini,c.np)⟩
def aL9:∀ {fs:List Fn}{i f:Nat}{F:Fn},fs[f]?=qz F->F.me=true->(F.name,i+f)∈nU i fs
 |[],i,f,F,e,_=>by simp at e
 |G::r,i,0,F,e,h=>by
   simp at e;subst e;rw[nU,if_pos h];exact xAc
 |G::r,i,f+1,F,e,h=>by
   have q:=@aL9 r (i+1) f F (e:) h;rw[show i+1+f=i+(f+1) by omega] at q;rw[nU];split
   ·exact xAf _ q
   ·exact q
def aLq:∀ {fs:List Fn}{i f:Nat}{m:Str},(m,f)∈nU i fs->∃ F,i<=f/\fs[f-i]?=qz F/\F.me=true/\F.name=m
 |[],i,f,m,h=>by cases h
 |G::r,i,f,m,h=>by
   have cC:(m,f)∈nU (i+1) r->∃ F,i<=f/\(G::r)[f-i]?=qz F/\F.me=true/\F.name=m:=λ q=>by
    let(F,h1,h2,h3,h4):=aLq q;refine⟨F,by omega,?_,h3,h4⟩;rw[show f-i=(f-(i+1))+1 by omega];simpa using h2
   rw[nU] at h;split at h
   ·rename_i hm;rcases List.mem_cons.mp h with z|z
    ·cases z;exact⟨G,yAb _,by rw[yAx];rfl,hm,rfl⟩
    ·exact cC z
   ·exact cC h
def aEA(N:List Str)(sc:zw)(i:Nat)(e:qy):Bool:=jJ (λ x _=>decide (N[i]?=qz x)&&pV sc x && !(x==("__debug__" : Str)) && !(x==("__classdict__" : Str))) e
def aKm(N:List Str)(sc:zw)(i:Ini)(y:qy):Bool:=match i with|.arg j=>aEA N sc (j+1) y|.lst=>zN (λ xs _=>xs.isEmpty) y|.dct=>kDi (λ ks vs _=>ks.isEmpty&&vs.isEmpty) y
def aBt(N:List Str)(sc:zw):List (Str×Ini)->List xk->Bool
 |[],l=>l.isEmpty
 | p::r,l=>(match l with
   |st::l=>pZ (λ ts y _=>aKm N sc p.2 y&&oS y&&jF (λ t=>zX (λ o g _=>decide (g=p.1)&&aEA N sc 0 o) t) ts) st&&aBt N sc r l
   | []=>false)
def aJf(h:aEA X.N X.env.scope i e=true):PE X e (zA i):=mM (P:=λ e=>PE X e _) h λ y p h=>aLp (dT (aL (aL (aL h)))) (aK6 (aR (aL (aL h)))) (qF (aR (aL h))) (qF (aR h))
def aTu(h:aKm X.N X.env.scope i y=true):PE X y (aNs i):=by
 cases i with
 |arg j=>exact aJf h|lst=>exact aFm (P:=λ y=>PE X y _) h λ xs p h=>iW (P:=λ xs=>PE X (.List xs p) _) h (aEs aEi)|dct=>exact aMQ (P:=λ y=>PE X y _) h λ ks vs p h=>iW (P:=λ ks=>PE X (.Dict ks vs p) _) (aL h) (iW (P:=λ vs=>PE X (.Dict [] vs p) _) (aR h) aIp)
def aJz{X:Cx}:∀ {ini:List (Str×Ini)}{sts:List xk},aBt X.N X.env.scope ini sts=true->dI X sts (yS X.K ini)
 |[],sts,h=>iW (P:=λ sts=>dI X sts _) h aJl|p::r,[],h=>no h
 |p::r,st::sts,h=>by
   refine aIf ?_ (aJz (aR h));exact uE (P:=λ st=>PS X st _) (aL h) λ _ y q h=>jN (P:=λ ts=>PS X (.Assign ts y q) _) (aR h) λ _ g=>aFw (P:=λ t=>PS X (.Assign [t] y q) _) g λ o g p' h'=>by
    obtain rfl:=dT (aL h');exact aVV (aJf (aR h')) (aTu (aL (aL h))) (vS (aR (aL h)) _ _ _)
def wK:List Str->Bool
 |[]=>true|x::r=>!r.contains x&&wK r
def aAU:∀ {l:List Str},wK l=true->l.Nodup
 |[],_=>List.nodup_nil
 |x::r,h=>by
   let(h1,h2):=dG h;refine List.nodup_cons.mpr ⟨λ z=>?_,aAU h2⟩;have:r.contains x=true:=(z:)
   rw[this] at h1;exact no h1
def aB8(fs:List Fn)(tb:Tbs)(F:Fn):Bool:=
 decide ((cQ F.st).kind=.function) && !(cQ F.st).isCoroutine && !(cQ F.st).isGenerator&&wK F.N&&decide (F.np<=F.N.length)&&(F.N.take F.np).all (loc (cQ F.st))&&(cQ F.st).names.all (λ y=>!decide (y.2=.free)) &&
  pH (tab fs tb) F.N F.body (cQ F.st) (gS F.st)
def aKP(h:loc sc x=true):sc.names.lookup x=qz .local\/sc.names.lookup x=qz .cell:=by unfold loc at h;split at h<;>first|exact .inl (by assumption)|exact .inr (by assumption)|exact no h
def aQm(h:aB8 fs tb F=true):FnScope F.N (F.N.take F.np) (cQ F.st)/\pH (tab fs tb) F.N F.body (cQ F.st) (gS F.st)=true/\(F.N.take F.np).length=F.np:=by
 let(h,h8):=dG h;let(h,h7):=dG h;let(h,h6):=dG h;let(h,h5):=dG h;let(h,h4):=dG h;let(h,h3):=dG h;let(h1,h2):=dG h;have hl:(F.N.take F.np).length=F.np:=by
  rw[yBk];have:=oqT h5;omega
 refine⟨⟨oqT h1,?_,?_,aAU h4,by rw[hl],λ x hx=>aKP (List.all_eq_true.mp h6 x hx),λ y hy=>?_⟩,h8,hl⟩
 ·cases q:(cQ F.st).isCoroutine with|false=>rfl|true=>rw[q] at h2;exact no h2
 ·cases q:(cQ F.st).isGenerator with|false=>rfl|true=>rw[q] at h3;exact no h3
 ·have:=List.all_eq_true.mp h7 y hy;intro z;rw[dqT z] at this;exact no this
def zF(c:Cl):Bool:=
 decide ((cQ c.st).kind=.function) && !(cQ c.st).isCoroutine && !(cQ c.st).isGenerator&&wK c.N&&decide (c.np<=c.N.length)&&(c.N.take c.np).all (loc (cQ c.st))&&(cQ c.st).names.all (λ y=>!decide (y.2=.free)) &&
  aBt c.N (cQ c.st) c.ini (gS c.st)&&wK (c.ini.map (·.1))&&decide (c.ini.length<=1000)
def aQX(h:zF c=true):FnScope c.N (c.N.take c.np) (cQ c.st)/\aBt c.N (cQ c.st) c.ini (gS c.st)=true/\(c.N.take c.np).length=c.np/\(c.ini.map (·.1)).Nodup/\c.ini.length<=1000:=by
 let(h,h10):=dG h;let(h,h9):=dG h;let(h,h8):=dG h;let(h,h7):=dG h;let(h,h6):=dG h;let(h,h5):=dG h;let(h,h4):=dG h;let(h,h3):=dG h;let(h1,h2):=dG h;have hl:(c.N.take c.np).length=c.np:=by
  rw[yBk];have:=oqT h5;omega
 refine⟨⟨oqT h1,aFG h2,aFG h3,aAU h4,by rw[hl],λ x hx=>aKP (List.all_eq_true.mp h6 x hx),λ y hy=>?_⟩,h8,hl,aAU h9,oqT h10⟩;have:=List.all_eq_true.mp h7 y hy;intro z;rw[dqT z] at this;exact no this
def aM6(K:FrG)(F:Fn):Prop:=∃ Cc fa fd,lJ K Cc/\Cls K Cc/\Meth K Cc F.name fa/\Fun K F.name F.qual F.st fa fd/\gZ K fd (F.N.take F.np) []
def aNr(K:FrG)(mg:Str->Option qj)(c:Cl):Prop:=∃ Cc fi fd,lJ K Cc/\Cls K Cc/\mg "Maker" = qz (.ref Cc)/\(∀ p∈c.ini,NoAttr K Cc p.1)/\Mk K Cc fi/\Fun K "__init__" "Maker.__init__" c.st fi fd/\gZ K fd (c.N.take c.np) []
def aTe{mg:Str -> Option qj}(hk:zF c=true)(hc:Cls K Cc)(hn:∀ p∈c.ini,NoAttr K Cc p.1)(Fu:Fun K "__init__" "Maker.__init__" c.st fi fd):FnOk P w K mg base nZ 1 fi fd (c.N.take c.np) (spM K Cc c.ini c.np):=by
 let(sc,hok,hl,nd,le):=aQX hk;refine Fu.ok sc (λ vs H Q E h=>?_) λ cdv A outer s H vs Q E hr h=>⟨_,aJz hok,aUW hc hn nd le h⟩
 let(F,L,S,x,dx,ds,us,fs,S',rfl,hu,_):=h;rw[hl,<- hu];rfl
section
variable {P:zx}{w:zj}{K:FrG}{mg:Str->Option qj}{base:Heap}
def aJu(fs:List Fn)(tb:Tbs)(hk:∀ F∈fs,aB8 fs tb F=true)(top:∀ F∈fs,F.me=false->∃ fa fd,Fun K F.name F.name F.st fa fd/\mg F.name=qz (.ref fa)/\gZ K fd (F.N.take F.np) [])(topM:∀ F∈fs,F.me=true->aM6 K F)(hck:∀ c,tb.cl=qz c->zF c=true)(hcl:∀ c,tb.cl=qz c->aNr K mg c)
 (hb:∀ x∈bltNames,mg x=qx) (ht:∀ x aF,(x,aF)∈tb.tb->∃ a,mg x=qz (.ref a)/\xP K w a aF) (hcn:∀ x ts,(x,ts)∈tb.cn->∃ a,mg x=qz (.ref a)/\tP K a ts) (hst:∀ x y,(x,y)∈tb.st->∃ t,mg x=qz (.str y t)) :
 ∀ d f F np call q fa fd,fs[f]?=qz F->aD fs d f=qz (np,call)->Fun K F.name q F.st fa fd->FnOk P w K mg base nZ (d+2) fa fd (F.N.take F.np) (pS K np call)
 |0,f,F,np,call,q,fa,fd,eF,e,Fu=>by cases e
 |d+1,f,F,np,call,q,fa,fd,eF,e,Fu=>by
   have ih:=aJu fs tb hk top topM hck hcl hb ht hcn hst d;have e2:(F.np,fH (xs (aD fs d) F.body) F.N.length)=(np,call):=by
    have e':(fs[f]?).map (λ F=>(F.np,fH (xs (aD fs d) F.body) F.N.length))=qz (np,call):=e;rw[eF] at e';exact Option.some.inj e'
   cases e2;have hm:F∈fs:=xAk eF;let(sc,hok,hl):=aQm (hk F hm);refine Fu.ok sc (λ vs H Q E h=>?_) λ cdv A outer s H vs Q E hr h=>?_
   ·let(F1,L,S,ws,w1,S',hn,R,dl,_):=h;rw[hl,<- hn];exact dl.length.symm
   ·refine⟨_,(@ss (tab fs tb) (aD fs d) F.body).2 _ ⟨sc.nd,rfl,rfl,sc.kind,⟨d+2,by omega,hr,λ f' np' call' x' e1 e2=>?_,λ m f' np' call' e1 e2=>?_⟩,λ ini np e=>?_,hb,λ x aF hx=>ht x aF hx,λ x ts hx=>hcn x ts hx,λ x y hx=>hst x y hx⟩ (λ _=>rfl) _ hok,aTV h⟩
    ·let(e2,e3):=dG e2;have e2:((fs.map λ F=>(F.name,F.np))[f']?).map (·.1)=qz x':=dT e2;rw[yAd] at e2;cases q:fs[f']? with
     |none=>rw[q] at e2;cases e2
     |some F'=>
       rw[q] at e2;have hx:F'.name=x':=Option.some.inj e2;subst hx;have hme:F'.me=false:=by
        cases z:F'.me with
        |false=>rfl
        |true=>
          have z1:=aL9 (i:=0) q z;rw[yEk] at z1;have z2:((tab fs tb).mt.any λ p=>decide (p.2=f'))=true:=List.any_eq_true.mpr ⟨_,z1,by simp⟩;rw[z2] at e3;exact no e3
       let(fa',fd',Fu',hmg',hbi'):=top F' (xAk q) hme;exact⟨fa',fd',_,hmg',Fu'.kp,hbi',ih f' F' np' call' _ fa' fd' q e1 Fu'⟩
    ·let(F',_,h2,h3,rfl):=aLq e2;rw[Nat.sub_zero] at h2;let(Cc,fa',fd',m1,m2,m3,m4,m5):=topM F' (xAk h2) h3;exact⟨Cc,fa',fd',_,m1,m2,m3,m5,ih f' F' np' call' _ fa' fd' h2 e1 m4⟩
    ·let(c,e1,e2):=map_some (show tb.cl.map (λ c=>(c.ini,c.np))=qz (ini,np) from e);cases e2;let(Cc,fi,fd',m1,m2,m3,m4,m5,m6,m7):=hcl c e1;exact⟨Cc,fi,fd',_,m1,m2,m3,m4,m5,m7,aTe (hck c e1) m2 m4 m6⟩
end
structure TopFn(K:FrG)(F:Fn):Prop where
 me:F.me=false
 ex:∃ (f:qw) (oc:qj) (od an:Option qw) (sl:Array (Option qj)) (kV dc pm cd ct:qj),yCd K zy F.name=qz (qz (.ref f)) /\
  K.lookup f=qz ⟨oc,od,.func (yBx F.name F.name (kA F.st) (gS F.st) (cQ F.st) .none kV dc pm an cd ct),sl⟩/\yDa K cd F.name=true/\yBo K (.ref f)=true
def top_mk{F:Fn}{kV:qj}(a:yCd K zy F.name=qz (qz (.ref f)))(l:K.lookup f=qz ⟨oc,od,.func (yBx F.name F.name (kA F.st) (gS F.st) (cQ F.st) .none kV dc pm an cd ct),sl⟩)(c:yDa K cd F.name=true)(k:yBo K (.ref f)=true)(m:F.me=false:=by rfl):TopFn K F:=
 ⟨m,f,oc,od,an,sl,kV,dc,pm,cd,ct,a,l,c,k⟩
structure TopMe(K:FrG)(F:Fn):Prop where
 me:F.me=true
 ex:∃ (Cc f:qw) (oc:qj) (od an:Option qw) (sl:Array (Option qj)) (kV dc pm cd ct:qj),lJ K Cc/\Cls K Cc/\Meth K Cc F.name f /\
  K.lookup f=qz ⟨oc,od,.func (yBx F.name F.qual (kA F.st) (gS F.st) (cQ F.st) .none kV dc pm an cd ct),sl⟩/\yDa K cd F.qual=true/\yBo K (.ref f)=true
def topm_mk{F:Fn}{kV:qj}(a:yCd K zy "Maker" = qz (qz (.ref Cc)))(c1:yEd K Cc Str.empty=true)(c2:yEo K Cc=true)(c3:yFu K Cc=true)(c4:yBh K (.ref Cc) "__setattr__" = qz (qz (.builtin "object.__setattr__")))(m1:yBh K (.ref Cc) F.name=qz (qz (.ref f)))(m2:yGv K (.ref f)=true)(l:K.lookup f=qz ⟨oc,od,.func (yBx F.name F.qual (kA F.st) (gS F.st) (cQ F.st) .none kV dc pm an cd ct),sl⟩)(c:yDa K cd F.qual=true)(k:yBo K (.ref f)=true)(m:F.me=true:=by rfl):TopMe K F:=
 ⟨m,Cc,f,oc,od,an,sl,kV,dc,pm,cd,ct,a,⟨c1,c2,c3,c4⟩,⟨m1,m2,k⟩,l,c,k⟩
structure TopCl(K:FrG)(c:Cl):Prop where
 ex:∃ (Cc f:qw) (oc:qj) (od an:Option qw) (sl:Array (Option qj)) (kV dc pm cd ct:qj),lJ K Cc/\Cls K Cc/\(∀ p∈c.ini,NoAttr K Cc p.1)/\Mk K Cc f /\
  K.lookup f=qz ⟨oc,od,.func (yBx "__init__" "Maker.__init__" (kA c.st) (gS c.st) (cQ c.st) .none kV dc pm an cd ct),sl⟩/\yDa K cd "Maker.__init__" = true/\yBo K (.ref f)=true
def topc_mk{c:Cl}{kV:qj}(a:yCd K zy "Maker" = qz (qz (.ref Cc)))(c1:yEd K Cc Str.empty=true)(c2:yEo K Cc=true)(c3:yFu K Cc=true)(c4:yBh K (.ref Cc) "__setattr__" = qz (qz (.builtin "object.__setattr__")))(n:∀ p∈c.ini,NoAttr K Cc p.1)(m1:yHt K Cc=true)(m2:yBh K (.ref Cc) "__init__" = qz (qz (.ref f)))(m3:yGv K (.ref f)=true)(m4:yBo K (.ref Cc)=true)(l:K.lookup f=qz ⟨oc,od,.func (yBx "__init__" "Maker.__init__" (kA c.st) (gS c.st) (cQ c.st) .none kV dc pm an cd ct),sl⟩)(cc:yDa K cd "Maker.__init__" = true)(k:yBo K (.ref f)=true):TopCl K c:=
 ⟨Cc,f,oc,od,an,sl,kV,dc,pm,cd,ct,a,⟨c1,c2,c3,c4⟩,n,⟨m1,m2,m3,m4⟩,l,cc,k⟩
def Cl.fn(c:Cl):Fn:={name:="__init__",np:=c.np,N:=c.N,body:=.skip,st:=c.st,qual:="Maker.__init__" }
structure TabTop(K:FrG)(w:zj)(t:Str×List (Str×Tv)):Prop where
 ex:∃ (a:qw) (es:Array DictEntry) (ep:Nat),yCd K zy t.1=qz (qz (.ref a))/\(a==sysModules)=false/\K.lookup a=qz {cls:=.type "dict",data:=.dict es ep }/\tO w es.toList t.2
def tab_mk{t:Str×List (Str×Tv)}{es:Array DictEntry}(a1:yCd K zy t.1=qz (qz (.ref a)))(l1:K.lookup a=qz {cls:=.type "dict",data:=.dict es ep })(c1:tO w es.toList t.2)(s1:(a==sysModules)=false):TabTop K w t:=⟨a,es,ep,a1,s1,l1,c1⟩
structure ConTop(K:FrG)(t:Str×List Tv):Prop where
 ex:∃ a:qw,yCd K zy t.1=qz (qz (.ref a))/\tP K a t.2
def con_mk{t:Str×List Tv}{aG:Array qj}(a1:yCd K zy t.1=qz (qz (.ref a)))(l1:K.lookup a=qz {cls:=.type "tuple",dict:=od,data:=.seq aG n,slots:=sl })(z1:aG.size<=100)(c1:aBO aG.toList t.2):ConTop K t:=
 ⟨a,a1,_,aG,n,l1,rfl,rfl,xAh z1 (·),c1⟩
structure StTop(K:FrG)(t:Str×Str):Prop where
 ex:∃ k:Tok,yCd K zy t.1=qz (qz (.str t.2 k))
def wE(F:Fn):Prop:=∀ (qq:Str) (kV doc pm:qj) (an:Option qw) (cdv ct:qj) (us:List qj),↑us=(F.N.take F.np).length->bindArgs (yBx F.name qq (kA F.st) (gS F.st) (cQ F.st) .none kV doc pm an cdv ct) ⟨us,[]⟩=pure ((F.N.take F.np).zip us)
def aEY(F:Fn):Bool:=match kA F.st with|⟨[],as,qx,[],_,qx,_⟩=>decide (F.N.take F.np=as.map (·.arg))&&decide (F.N.take F.np).Nodup|_=>false
def aIJ:∀ {ns:List Str}{us:List qj},ns.Nodup->↑us=↑ns->(∀ n∈ns,((ns.zip us).lookup n).isNone=false)/\ns.filterMap (λ n=>((ns.zip us).lookup n).map (n,·))=ns.zip us
 |[],us,_,_=>⟨λ n h=>(nomatch h),by cases us<;>rfl⟩|x::ns,[],_,h=>by cases h
 |x::ns,u::us,hn,hl=>by
   let(h1,h2):=List.nodup_cons.mp hn;let(i1,i2):=aIJ h2 (Nat.succ.inj hl);have e:∀ n∈ns,((x,u)::ns.zip us).lookup n=(ns.zip us).lookup n:=λ n m=>by
    rw[yBl];have:(n==x)=false:=by
     rw[beq_eq_false_iff_ne];rintro rfl;exact h1 m
    rw[this]
   refine⟨λ n m=>?_,?_⟩
   ·rw[yGy];rcases List.mem_cons.mp m with rfl|m
    ·rw[yBl,beq_self_eq_true];rfl
    ·rw[e n m];exact i1 n m
   ·rw[yGy,yCi,yBl,beq_self_eq_true];show(x,u)::_=_;congr 1;rw[<- i2];rw[i2];have g:∀ l:List Str,(∀ n∈l,n∈ns)->l.filterMap (λ n=>(((x,u)::ns.zip us).lookup n).map (n,·))=l.filterMap (λ n=>((ns.zip us).lookup n).map (n,·)):=λ l=>by
     induction l with
     |nil=>intro _;rfl|cons y l ih=>intro hl;rw[yCi,yCi,e y (hl y xAc),ih λ n m=>hl n (xAf _ m)]
    rw[g ns λ n m=>m,i2]
def aIn(h:aEY F=true):wE F:=by
 intro qq kV doc pm an cdv ct us hu;unfold aEY at h;split at h
 ·rename_i as kd df e;let(h1,h2):=dG h;have h1:=oqT h1;rw[e];rw[h1] at hu h2 ⊢;let(i1,i2):=aIJ (oqT h2) hu;have m:((as.map (·.arg)).take (as.map (·.arg)).length).filter (λ n=>(((as.map (·.arg)).zip us).lookup n).isNone)=[]:=by
   rw[yAg,List.filter_eq_nil_iff];intro n hn;rw[i1 n hn];decide
  unfold bindArgs;have q:seqItems? Value.none=(pure qx:Sem (Option (Array qj))):=rfl;simp only[yBx,q,pure_bind,yDn,yFo,yBz,List.forIn_nil,yHo,yBr,List.drop_nil,List.zip_nil_right,Nat.sub_zero,hu,gt_iff_lt,yCv,decide_false,yBu,yAt,if_false,m,List.isEmpty_nil,Bool.not_true,i2,yGz]
 ·exact no h
def aGJ:∀ {ns:List Int}{i:Int},i∈ns->yAm i<=PySem.W.WData.weightAll (ns.map PySem.W.WData.int)
 |[],i,h=>by cases h
 |n::r,i,h=>by
   have e:PySem.W.WData.weightAll ((n::r).map PySem.W.WData.int)=yAm n+1+PySem.W.WData.weightAll (r.map PySem.W.WData.int):=rfl;rw[e];rcases List.mem_cons.mp h with z|z
   ·subst z;omega
   ·have:=aGJ z;omega
def aQn{ns:List Int}(h:PySem.W.WData.layableAll [PySem.W.WData.list (ns.map PySem.W.WData.int)]=true):∀ i∈ns,yAm i<=1048576:=λ i hi=>by
 have h1:PySem.W.WData.layable (PySem.W.WData.list (ns.map PySem.W.WData.int))=true:=by
  have:=List.all_eq_true.mp h _ xAc;exact this
 have h2:PySem.W.WData.weight (PySem.W.WData.list (ns.map PySem.W.WData.int))<=2^20:=oqT (dG h1).2;exact xAh (aGJ hi) h2
def aRT{l:PySem.W.OpenLaw}{XP:(Str->Option qj)->Heap->Prop}{YP:zj->Heap->Prop}{d:DefRec}(hn:l.most=qz n)(hdf:d.params.defaults=[])(go:∀ (w:zj) (s₀ s₁:qv) (mg mb:Str->Option qj) (fa:qw) (a:qw) (vs:List qj) (ns:List Int),
   PySem.W.Ground q loose [] XP w s₀ mg mb s₁.heap->YP w s₁.heap->mg d.name=qz (.ref fa) ->
   s₁.heap.get? a=qz {cls:=.type "list",data:=.seq vs.toArray }->IntsAre vs ns->↑ns<=n->(∀ i∈ns,yAm i<=1048576)->s₁.gens = #[] ->
   ju (model l.prog w) callerA (.call (.ref fa) ⟨[.ref a],[]⟩) (λ r s'=>r=.ok (.ret (.bool true))/\OldK s₁.heap s'.heap/\s'.os=s₁.os/\AllBare s'.gens) s₁) :
 PySem.W.WalkO q loose XP YP l.row.toRowW d [] (λ f vs=>PySem.call f vs):=by intro w s₀ s₁ mg mb G Y fa o pm cd doc dV kV ho hd hcd hD hmg hg args vals as hpre hlay hrd hwl hlo;obtain rfl:dV=.none:=PySem.W.Dflts.none hD hdf;obtain rfl:kV=.none:=PySem.W.Dflts.noKw hD;let(a,vs,ns,rfl,rfl,hobj,hints,cK):=Att.script_of hn hpre hwl;refine PySem.W.enter_call (codeAny_mono (go w s₀ s₁ mg mb fa a vs ns G Y hmg hobj hints cK (aQn hlay) hg) λ r s' hq=>?_);let(rfl,h2,h3,h4):=hq;exact⟨.inl ⟨.bool true,.bool true,[],rfl,λ _=>rfl,.bool true,Att.post_true l _,λ _=>⟨List.Pairwise.nil,λ _ hm=>(nomatch hm)⟩⟩,h2,h3,h4⟩
def law_of{l:PySem.W.OpenLaw}{XP:(Str->Option qj)->Heap->Prop}{YP:zj->Heap->Prop}{d:DefRec}{K:Params->FrG}(fs:List Fn)(tb:Tbs)(f D:Nat)(L:Fn)(x:Str)(hn:l.most=qz 63)(hdf:d.params.defaults=[])(hr:Room (D+2) callerA)(hY:∀ (w:zj) (h:Heap),YP w h->(K w.params).In h)(hk:∀ F∈fs,aB8 fs tb F=true)(hb:∀ F∈fs,wE F)(hL:fs[f]?=qz L)(hname:L.name=d.name)(hps:L.N.take L.np=[x])(hme:L.me=false)(top:∀ w:zj,∀ h:Heap,(K w.params).In h->∀ F∈fs,TopFn (K w.params) F\/TopMe (K w.params) F)(ck:∀ c,tb.cl=qz c->zF c=true/\wE c.fn)(clt:∀ w:zj,∀ h:Heap,(K w.params).In h->∀ c,tb.cl=qz c->TopCl (K w.params) c)(tbl:∀ w:zj,∀ h:Heap,(K w.params).In h->∀ t∈tb.tb,TabTop (K w.params) w t)(cnl:∀ w:zj,∀ h:Heap,(K w.params).In h->∀ t∈tb.cn,ConTop (K w.params) t)(stl:∀ w:zj,∀ h:Heap,(K w.params).In h->∀ t∈tb.st,StTop (K w.params) t)(tbn:∀ w:zj,∀ h:Heap,(K w.params).In h->∀ x∈bltNames,yCd (K w.params) zy x=qz qx)(main:∀ ns:List Int,↑ns<=63->(∀ i∈ns,yAm i<=1048576)->∃ call S',aD fs D f=qz (1,call)/\call [.d (.list (ns.map yAn))] []=qz (.d (.bool true),S')) :
 PySem.W.WalkO q loose XP YP l.row.toRowW d [] (λ f vs=>PySem.call f vs):=by
 let(call,S0,hcall,_):=main [] (by simp) (by simp);refine aRT hn hdf λ w s₀ s₁ mg mb fa a vs ns G Y hmg hobj hints cK hsm hg=>?_
 have KX:=hY w _ Y;have tops:∀ F∈fs,F.me=false->∃ fa fd,Fun (K w.params) F.name F.name F.st fa fd/\mg F.name=qz (.ref fa)/\gZ (K w.params) fd (F.N.take F.np) []:=λ F hF hme=>by
  rcases top w _ KX F hF with t|t
  ·let(f,oc,od,an,sl,kV,dc,pm,cd,ct,a,l,c,k):=t.ex;have Fu:=aEk (st:=F.st) l c k;exact⟨f,_,Fu,yGh KX G.T.g a,Fu.binds (hb F hF _)⟩
  ·rw[t.me] at hme;cases hme
 have topM:∀ F∈fs,F.me=true->aM6 (K w.params) F:=λ F hF hme=>by
  rcases top w _ KX F hF with t|t
  ·rw[t.me] at hme;cases hme
  ·let(Cc,f,oc,od,an,sl,kV,dc,pm,cd,ct,a1,a2,a3,l,c,k):=t.ex;have Fu:=aEk (st:=F.st) l c k;exact⟨Cc,f,_,a1,a2,a3,Fu,Fu.binds (hb F hF _)⟩
 have hcl:∀ c,tb.cl=qz c->aNr (K w.params) mg c:=λ c hc=>by
  let(Cc,f,oc,od,an,sl,kV,dc,pm,cd,ct,a1,a2,a3,a4,l,cc,k):=(clt w _ KX c hc).ex;have Fu:=aEk (st:=c.st) l cc k;exact⟨Cc,f,_,a1,a2,yGh KX G.T.g a1,a3,a4,Fu,Fu.binds ((ck c hc).2 _)⟩
 have hblt:∀ x∈bltNames,mg x=qx:=λ y hy=>PySem.W.mg_none_of KX G.T.g (tbn w _ KX y hy)
 have htab:∀ x aF,(x,aF)∈tb.tb->∃ a,mg x=qz (.ref a)/\xP (K w.params) w a aF:=λ x aF hx=>by
  let(a,es,ep,a1,s1,l1,c1):=(tbl w _ KX (x,aF) hx).ex;exact⟨a,yGh KX G.T.g a1,s1,es,ep,l1,c1⟩
 have hcon:∀ x ts,(x,ts)∈tb.cn->∃ a,mg x=qz (.ref a)/\tP (K w.params) a ts:=λ x ts hx=>by
  let(a,a1,c1):=(cnl w _ KX (x,ts) hx).ex;exact⟨a,yGh KX G.T.g a1,c1⟩
 have hst:∀ x y,(x,y)∈tb.st->∃ t,mg x=qz (.str y t):=λ x y hx=>by
  let(k,a1):=(stl w _ KX (x,y) hx).ex;exact⟨k,yGh KX G.T.g a1⟩
 let(fa1,fd,Fu,hmg1,hbi):=tops L (xAk hL) hme;rw[<- hname,hmg1] at hmg;cases hmg;refine L2.law_call (fd:=fd) (sp:=pS (K w.params) 1 call) (CX:=nZ) (x:=x) KX G.T.g G.T.b G.T.builtins G.T.nolimit hg hobj hints (xAh cK (·)) hr (λ base kb nb=>?_) (λ s u=>?_) (λ H hO hS=>?_) λ _ _ _ z=>z
 ·have P1:=@aJu l.prog w _ _ base fs tb hk tops topM (λ c hc=>(ck c hc).1) hcl hblt htab hcon hst D f L 1 call _ _ _ hL hcall Fu;rw[hps] at P1;exact P1
 ·let(oc,od,kV,doc,pm,an,cdv,ct,osl,rfl,lk,hcd):=Fu.ex;have:=hb L (xAk hL) L.name kV doc pm an cdv ct [u] (by rw[hps];rfl);rw[hps] at this;exact .of_eq this
 ·let(call',S',hcall',hrun):=main ns cK hsm;rw[hcall] at hcall';cases hcall';refine⟨H,[],[],[.d (.list (ns.map yAn))],.d (.bool true),S',rfl,⟨bT.refl _,List.nodup_nil,rfl,λ n a ds e=>by simp at e,λ n a ds e=>by simp at e,λ n a b e=>by simp at e⟩,.cons (Den.lst hS (DenL.of_ints ns)) .nil,hrun,λ F' L' H' v g R d=>?_⟩;cases (show Den (K w.params) F' (.bool true) v from d);rfl
end EV
namespace EV
open PySem L2
def wA{α:Type}(S:List α)(a b:α):(S++[a]).set ↑S b=S++[b]:=by simp
def aDy{α:Type}{t:Tg}{fc:FT}{fe:FE}{S:aC}(enc g:α->D)(p:α->Bool):∀ (l:List α) (aM:List D),aM.length+↑l<=qk ->
 (∀ a∈l,∃ e1,t.put (enc a) env=qz e1/\(∀ S',fc e1 S'=qz (p a,S'))/\(p a=true->∀ S',fe e1 S'=qz (.d (g a),S'))) ->
 gH t fc fe ↑S env (l.map enc) (S++[qz aM])=qz (S++[qz (aM++(l.filter p).map g)])
 |[],aM,_,_=>by simp[gH]
 |a::l,aM,hz,h=>by
   let(e1,h1,h2,h3):=h a xAc;have hlt:aM.length<qk:=by simp at hz;omega
   have cC:=λ x (hx:x∈l)=>h x (xAf _ hx)
   simp only[yAh,gH,h1,yCt,h2];cases hp:p a with
   |false=>
     simp only[yAt,if_false];rw[aDy enc g p l aM (by simp at hz;omega) cC];simp[yEe,hp]
   |true=>
     have ea:cX (S++[qz aM]) (.loc ↑S) (.d (g a))=qz (.d .none,S++[qz (aM++[g a])]):=by
      unfold cX;simp only[yAf (yAb ↑S),yAx,yBt];rw[if_pos hlt,wA]
     simp only[if_true,h3 hp,yCt,ea];rw[aDy enc g p l (aM++[g a]) (by simp at hz ⊢;omega) cC];simp[yEe,hp]
def aH7{α:Type}{t:Tg}{fi:FL}{fc:FT}{fe:FE}(enc g:α->D)(p:α->Bool)(l:List α)(hi:fi env S=qz (l.map enc,S1))(hz:↑l<=qk)(h:∀ a∈l,∃ e1,t.put (enc a) (clr t.slots env)=qz e1/\(∀ S',fc e1 S'=qz (p a,S'))/\(p a=true->∀ S',fe e1 S'=qz (.d (g a),S'))):gY t fi fc fe env S=qz ((l.filter p).map g,S1):=by unfold gY;rw[hi];simp only[yCt];rw[aDy enc g p l [] (hz:) h];simp
def aDF{α:Type}{t:Tg}{fc:FT}{fe:FE}{env:bB}{S:aC}(enc g:α->D)(p:α->Bool):∀ (l:List α) (aM:List D),aM.length+↑l<=qk ->
 (∀ a∈l,∃ e1,t.put (enc a) env=qz e1/\(∀ aM,fc e1 (S++[qz aM])=qz (p a,S++[qz aM]))/\(p a=true->∀ aM,fe e1 (S++[qz aM])=qz (.d (g a),S++[qz aM]))) ->
 gH t fc fe ↑S env (l.map enc) (S++[qz aM])=qz (S++[qz (aM++(l.filter p).map g)])
 |[],aM,_,_=>by simp[gH]
 |a::l,aM,hz,h=>by
   let(e1,h1,h2,h3):=h a xAc;have hlt:aM.length<qk:=by simp at hz;omega
   have cC:=λ x (hx:x∈l)=>h x (xAf _ hx)
   simp only[yAh,gH,h1,yCt,h2];cases hp:p a with
   |false=>
     simp only[yAt,if_false];rw[aDF enc g p l aM (by simp at hz;omega) cC];simp[yEe,hp]
   |true=>
     have ea:cX (S++[qz aM]) (.loc ↑S) (.d (g a))=qz (.d .none,S++[qz (aM++[g a])]):=by
      unfold cX;simp only[yAf (yAb ↑S),yAx,yBt];rw[if_pos hlt,wA]
     simp only[if_true,h3 hp,yCt,ea];rw[aDF enc g p l (aM++[g a]) (by simp at hz ⊢;omega) cC];simp[yEe,hp]
def aQT{α:Type}{t:Tg}{fi:FL}{fc:FT}{fe:FE}(enc g:α->D)(p:α->Bool)(l:List α)(hi:fi env S=qz (l.map enc,S1))(hz:↑l<=qk)(h:∀ a∈l,∃ e1,t.put (enc a) (clr t.slots env)=qz e1/\(∀ aM,fc e1 (S1++[qz aM])=qz (p a,S1++[qz aM]))/\(p a=true->∀ aM,fe e1 (S1++[qz aM])=qz (.d (g a),S1++[qz aM]))):gY t fi fc fe env S=qz ((l.filter p).map g,S1):=by unfold gY;rw[hi];simp only[yCt];rw[aDF enc g p l [] (hz:) h];simp
def mY{α:Type}{t:Tg}{fi:FL}{fe:FE}(enc g:α->D)(l:List α)(hi:fi env S=qz (l.map enc,S1))(hz:↑l<=qk)(h:∀ a∈l,∃ e1,t.put (enc a) (clr t.slots env)=qz e1/\∀ S',fe e1 S'=qz (.d (g a),S')):gY t fi lI fe env S=qz (l.map g,S1):=by rw[aH7 (fc:=lI) enc g (λ _=>true) l hi hz λ a ha=>let ⟨e1,h1,h2⟩:=h a ha;⟨e1,h1,λ _=>rfl,λ _=>h2⟩];rw[List.filter_eq_self.mpr (λ _ _=>rfl)]
def aII(n:Nat):∀ lo:Int,lB lo n=(yBm n).map λ k=>yAn (lo+(k:Nat)):=by
 induction n with
 |zero=>intro lo;rfl
 |succ n ih=>
   intro lo;rw[lB,ih,List.range_succ_eq_map,yAh,yBd];congr 1
   ·simp
   ·apply yDj;intro k _;simp only[Function.comp];congr 1
    push_cast
    omega
end EV
namespace BM
def vW(n:Nat):0<2^n:=xAe n
def pE(n w:Nat):List Bool:=(yBm w).map n.testBit
def aPQ(n w i:Nat):(pE n w).getD i false=(decide (i<w)&&n[i]!):=by
 unfold pE;by_cases h:i<w
 ·simp[List.getD,h]
 ·simp[List.getD,h]
def dO(h:n<2^w)(hi:w<=i):n[i]! =false:=Nat.testBit_lt_two_pow (xAb h (yAz (·) hi))
def bl(n:Nat):Nat:=if n=0 then 0 else n.log2+1
def wQ(h:n≠0):bl n=n.log2+1:=if_neg h
def tS(n:Nat):n<2^bl n:=by
 by_cases h:n=0
 ·subst h;decide
 ·rw[wQ h];exact Nat.lt_log2_self
def aVv(h:n≠0):n[(bl n-1)]! =true:=by
 rw[wQ h,yHa];have h1:2^n.log2<=n:=Nat.log2_self_le h;have h2:n<2^(n.log2+1):=Nat.lt_log2_self;rw[yFr];have:n/2^n.log2=1:=by
  apply Nat.div_eq_of_lt_le
  ·omega
  ·rw[yFz] at h2;omega
 simp[this]
def tV(h:n<2^w):bl n<=w:=by
 by_cases h0:n=0
 ·subst h0;simp[bl]
 ·rw[wQ h0];exact(Nat.log2_lt h0).mpr h
def aHN(h1:n<2^k)(h2:k=0\/n[(k-1)]! =true):bl n=k:=by
 rcases h2 with h2|h2
 ·subst h2;have:n=0:=(h1:)
  subst this;rfl
 ·have h3:=tV h1;rcases Nat.lt_or_ge (bl n) k with h4|h4
  ·exfalso;have:=dO (tS n) (show bl n<=k-1 by omega);rw[this] at h2;cases h2
  ·omega
def fB(w i:Nat):(2^w-1)[i]! =decide (i<w):=Nat.testBit_two_pow_sub_one w i
def mL(l:List Bool):Nat:=(l.takeWhile id).length
def aHl(r:List Bool):mL (true::r)=mL r+1:=by simp[mL]
def aHi(r:List Bool):mL (false::r)=0:=by simp[mL]
def aIg:∀ (l:List Bool) (i:Nat),i<mL l->l[i]?=qz true
 |[],i,h=>by simp[mL] at h|false::r,i,h=>by simp[aHi] at h|true::r,0,h=>rfl|true::r,i+1,h=>by rw[aHl] at h;simpa using aIg r i (!_)
def aN9(m:Nat):(2*m+1)^^^(2*m+1+1)=2*(m^^^(m+1))+1:=by
 apply xAl;intro i;cases i with
 |zero=>rw[xAn];simp[yDm];omega
 |succ i=>
   rw[xAn,yCu,yCu,yCu];rw[show(2*m+1)/2=m by omega,show(2*m+1+1)/2=m+1 by omega,show(2*(m^^^(m+1))+1)/2=(m^^^(m+1)) by omega,xAn]
def aN7(m:Nat):(2*m)^^^(2*m+1)=1:=by
 apply xAl;intro i;cases i with
 |zero=>rw[xAn];simp[yDm]
 |succ i=>
   rw[xAn,yCu,yCu,yCu];rw[show(2*m)/2=m by omega,show(2*m+1)/2=m by omega];simp
def aPt(x:Nat):bl (2*x+1)=bl x+1:=by
 apply aHN
 ·have:=tS x;rw[yFz];omega
 ·right;rw[yHa];by_cases h:x=0
  ·subst h;rfl
  ·have h2:=aVv h;have h3:bl x=(bl x-1)+1:=by rw[wQ h];omega
   rw[h3,yCu,show(2*x+1)/2=x by omega];exact h2
def aGQ(n:Nat):n^^^(n+1)≠0:=by
 intro h;have:n=n+1:=by
  have:=congrArg (λ z=>z^^^(n+1)) h;simpa [Nat.xor_assoc] using this
 omega
def aHU(h:n≠0):1<=bl n:=by rw[wQ h];omega
def aOE(n w:Nat):pE n (w+1)=n[0]!::pE (n/2) w:=by unfold pE;rw[List.range_succ_eq_map,yAh,yBd];congr 1;apply yDj;intro i _;simp only[Function.comp];exact yCu n i
def aG6:∀ (w n:Nat),n<2^w->bl (n^^^(n+1))-1=mL (pE n w)
 |0,n,h=>by
   have:n=0:=(h:)
   subst this;rfl
 |w+1,n,h=>by
   rw[aOE];have hd:n/2<2^w:=by rw[yFz] at h;omega
   have ih:=aG6 w (n/2) hd;rcases yAp n with p|p
   ·have e:n=2*(n/2):=by omega
    have e2:n^^^(n+1)=1:=by rw[e];exact aN7 _
    rw[e2,yDm,p];rw[show bl 1=1 from by decide];simp[aHi]
   ·have e:n=2*(n/2)+1:=by omega
    have e2:n^^^(n+1)=2*((n/2)^^^(n/2+1))+1:=by
     have:=aN9 (n/2);rw[<- e] at this;exact this
    rw[e2,aPt,yDm,p];simp only[decide_true,aHl];have:=aHU (aGQ (n/2));omega
def hi(l:List Bool):Nat:=↑l-mL (l.reverse.map (!·))
def aOp(h:n<2^w):n^^^(2^w-1)<2^w:=yEh h (by have:=vW w;omega)
def fL(n w v:Nat):Nat:=if n&&&2^(w-1)=0 then n else n|||((2^v-1)^^^(2^w-1))
def aGG(n k:Nat):(n&&&2^k=0) ↔ n[k]! =false:=by
 constructor
 ·intro h;have:=congrArg (λ z=>z[k]!) h;simpa [yAj,Nat.testBit_two_pow_self] using this
 ·intro h;apply xAl;intro i;rw[yAj,yFd,yCf];by_cases e:k=i
  ·subst e;simp[h]
  ·simp[e]
def aGH(h:n<2^w)(hw:0<w)(hv:w<=v)(i:Nat):(fL n w v)[i]! =if i<w then n[i]! else (decide (i<v)&&n[(w-1)]!):=by
 unfold fL;cases e:n[(w-1)]! with
 |false=>
   rw[if_pos ((aGG _ _).mpr e)];split
   ·rfl
   ·rw[dO h (!_)];simp
 |true=>
   rw[if_neg (λ z=>by rw[(aGG _ _).mp z] at e;cases e)];rw[xAo,xAn,fB,fB];split
   ·rename_i hi;have:i<v:=by omega
    simp[hi,this]
   ·rename_i hi;rw[dO h (!_)];simp[hi]
def aCP(h:n<2^w)(hw:0<w)(hv:w<=v):fL n w v<2^v:=by
 apply yCl;intro i hi;rw[aGH h hw hv,if_neg (!_)];have:¬ i<v:=by omega
 simp[this]
def aBu(x d:Nat):Nat:=x/2^d*2^d
def aAs(x d i:Nat):(aBu x d)[i]! =(decide (d<=i)&&x[i]!):=by
 unfold aBu;rw[Nat.testBit_mul_two_pow];by_cases h:d<=i
 ·simp[h,yCy,show i-d+d=i by omega]
 ·simp[h]
def rV(x w:Nat):Nat:=2^w-1-x
def sW(h:x<2^w)(i:Nat):(rV x w)[i]! =(decide (i<w) && !x[i]!):=by unfold rV;rw[show 2^w-1-x=2^w-(x+1) by omega];exact Nat.testBit_two_pow_sub_succ h i
def wN(l g w:Nat):Nat:=(2^w-1)^^^(2^bl (l^^^g)-1)
def aC8(hl:l<2^w)(hg:g<2^w)(i:Nat):(wN l g w)[i]! =(decide (i<w)&&decide (bl (l^^^g)<=i)):=by
 unfold wN;rw[xAn,fB,fB];have hd:bl (l^^^g)<=w:=tV (yEh hl hg);by_cases h1:i<w<;>by_cases h2:i<bl (l^^^g)
 ·simp[h1,h2,show ¬ bl (l^^^g)<=i by omega]
 ·simp[h1,h2,show bl (l^^^g)<=i by omega]
 ·omega
 ·simp[h1,h2]
def pA(l g w:Nat):Nat:=wN l g w&&&l
def vM(l g w:Nat):Nat:=wN l g w^^^pA l g w
def aQo(hl:l<2^w)(hg:g<2^w):pA l g w=aBu l (bl (l^^^g)):=by
 apply xAl;intro i;rw[pA,yAj,aC8 hl hg,aAs];by_cases h1:i<w
 ·simp[h1]
 ·rw[dO hl (!_)];simp
def aOm(hl:l<2^w)(hg:g<2^w):vM l g w=aBu (rV l w) (bl (l^^^g)):=by apply xAl;intro i;rw[vM,xAn,pA,yAj,aC8 hl hg,aAs,sW hl];by_cases h1:i<w<;>by_cases h2:bl (l^^^g)<=i<;>cases l[i]!<;>simp[h1,h2]
def aZ8(h:bl (l^^^g)<=i):l[i]! =g[i]!:=by have:=dO (tS (l^^^g)) h;rw[xAn] at this;cases a:l[i]!<;>cases b:g[i]!<;>simp[a,b] at this ⊢
def aPf(h:l^^^g<2^d):l/2^d=g/2^d:=by apply xAl;intro i;rw[yCy,yCy];have:=dO h (show d<=i+d by omega);rw[xAn] at this;cases a:l[(i+d)]!<;>cases b:g[(i+d)]!<;>simp[a,b] at this ⊢
def aOl(h1:l<=m)(h2:m<=g):m/2^bl (l^^^g)=l/2^bl (l^^^g):=by have e:=aPf (tS (l^^^g));have a:=Nat.div_le_div_right (c:=2^bl (l^^^g)) h1;have b:=Nat.div_le_div_right (c:=2^bl (l^^^g)) h2;omega
def aGZ(h1:l<=m)(h2:m<=g)(hi:bl (l^^^g)<=i):m[i]! =l[i]!:=by have:=congrArg (λ z=>z[(i-bl (l^^^g))]!) (aOl h1 h2);simp only[yCy] at this;rwa [show i-bl (l^^^g)+bl (l^^^g)=i by omega] at this
def aNX(hl:l<2^w)(hg:g<2^w)(h1:l<=m)(h2:m<=g):m&&&vM l g w=0:=by
 apply xAl;intro i;rw[yAj,aOm hl hg,aAs,sW hl,yCf];by_cases h:bl (l^^^g)<=i
 ·rw[aGZ h1 h2 h];cases l[i]!<;>simp
 ·simp[h]
def aOe(hl:l<2^w)(hg:g<2^w)(h1:l<=m)(h2:m<=g):m&&&pA l g w=pA l g w:=by
 apply xAl;intro i;rw[yAj,aQo hl hg,aAs];by_cases h:bl (l^^^g)<=i
 ·rw[aGZ h1 h2 h];cases l[i]!<;>simp
 ·simp[h]
end BM
namespace BM
def mB(n k i:Nat):(n/2^k)[i]! =n[(k+i)]!:=by rw[yCy,yDo]
def oO(n:Nat):n=0 ↔ ∀ i,n[i]! =false:=by
 constructor
 ·rintro rfl i;simp
 ·intro h;apply xAl;intro i;simp[h i]
def aCN(m k:Nat):m/2^k=0 ↔ ∀ i,k<=i->m[i]! =false:=by
 rw[oO];constructor
 ·intro h i hi;have:=h (i-k);rw[mB,show k+(i-k)=i by omega] at this;exact this
 ·intro h i;rw[mB];exact h _ (!_)
def jO(a b:Nat):Nat:=a-(a&&&b)
def aGO(h:x<2^k)(i:Nat):(x+q*2^k)[i]! =if i<k then x[i]! else q[(i-k)]!:=by rw[yDo,yHv,Nat.testBit_two_pow_mul_add _ h]
def aRw(h:n<2^w)(hw:0<w):n/2^(w-1)=(n[(w-1)]!).toNat:=by
 rw[Nat.toNat_testBit];have:n/2^(w-1)<2:=by
  rw[yGa (xAe _),<- Nat.pow_succ'];rw[show(w-1).succ=w by omega];exact h
 exact(Nat.mod_eq_of_lt this).symm
end BM
namespace BM
open PySem
def aNy(a b:Nat):yEg a b=((a&&&b:Nat):Int):=by unfold yEg;rw[dqT (yGu a),dqT (yGu b)];simp
def bOr(a b:Nat):yHl a b=((a|||b:Nat):Int):=by
 unfold yHl yEg yBn;rw[dqF (show ¬ (0:Int) <= -(a:Int)-1 by omega),dqF (show ¬ (0:Int) <= -(b:Int)-1 by omega)];have e1:(-(-(a:Int)-1)-1).toNat=a:=by omega
 have e2:(-(-(b:Int)-1)-1).toNat=b:=by omega
 simp only[e1,e2];omega
def aGS:∀ (n a b:Nat),a<=n->(a^^^b)+(a&&&b)=(a|||b)
 |0,a,b,h=>by
   have:a=0:=by omega
   subst this;simp
 |n+1,a,b,h=>by
   by_cases ha:a=0
   ·subst ha;simp
   have ih:=aGS n (a/2) (b/2) (!_);have x2:=Nat.xor_div_two (a:=a) (b:=b);have a2:=Nat.and_div_two (a:=a) (b:=b);have o2:=Nat.or_div_two (a:=a) (b:=b);have xm:(a^^^b)%2=(a%2+b%2)%2:=by
    have:=xAn a b 0;simp only[yDm] at this;rcases yAp a with p|p<;>rcases yAp b with q|q<;>rcases yAp (a^^^b) with r|r<;>simp[p,q,r] at this ⊢
   have am:(a&&&b)%2=(a%2)*(b%2):=by
    have:=yAj a b 0;simp only[yDm] at this;rcases yAp a with p|p<;>rcases yAp b with q|q<;>rcases yAp (a&&&b) with r|r<;>simp[p,q,r] at this ⊢
   have om:(a|||b)%2=(a%2+b%2)-(a%2)*(b%2):=by
    have:=xAo a b 0;simp only[yDm] at this;rcases yAp a with p|p<;>rcases yAp b with q|q<;>rcases yAp (a|||b) with r|r<;>simp[p,q,r] at this ⊢
   have h1:=yGm (a^^^b) 2;have h2:=yGm (a&&&b) 2;have h3:=yGm (a|||b) 2;rcases yAp a with p|p<;>rcases yAp b with q|q<;>rw[p,q] at xm am om<;>omega
def aY9(a b:Nat):yHc a b=((a^^^b:Nat):Int):=by unfold yHc;rw[aNy,bOr];have:=aGS a a b (yAb _);omega
def aOM(a:Nat):((a:Int)).natAbs=a:=by omega
def aGW(a:Nat):yAm a=if a=0 then 0 else a.log2+1:=by
 unfold yAm;by_cases h:a=0
 ·subst h;rfl
 ·rw[if_neg h,if_neg (by simp;omega),aOM]
def aO4{a n:Nat}(h:a<2^n):yAm a<=n:=by
 rw[aGW];split
 ·exact yBv _
 ·rename_i h0;exact(Nat.log2_lt h0).mpr h
def aDG(n:Nat):((2^n:Nat):Int)=(2:Int)^n:=by simp
def aZP{x y:Int}(h:y.natAbs.log2<9000):yCw x y=false:=by
 unfold yCw;dsimp only;have:¬ ((if (y==0)=true then 0 else y.natAbs.log2/30+1)>300):=by
  split
  ·omega
  ·omega
 rw[dqF this];rfl
end BM
namespace EV
open PySem L2 BM
def cV(i j:Int):bV .Add (.int i) (.int j)=qz (.int (i+j)):=rfl
def cP(i j:Int):bV .Sub (.int i) (.int j)=qz (.int (i-j)):=rfl
def dJ(a b:Nat):bV .BitAnd (.int a) (.int b)=qz (.int ((a&&&b:Nat):Int)):=by simp only[bV,mH,aNy]
def fG(a b:Nat):bV .BitOr (.int a) (.int b)=qz (.int ((a|||b:Nat):Int)):=by simp only[bV,mH,bOr]
def mZ(a b:Nat):bV .BitXor (.int a) (.int b)=qz (.int ((a^^^b:Nat):Int)):=by simp only[bV,mH,aY9]
def gR{w:Nat}(h1:w<=100000):bV .LShift (.int 1) (.int w)=qz (.int ((2^w:Nat):Int)):=by have c:(0:Int)<=w/\(yAm 1:Int)+w<=2^27:=⟨by omega,by(have:(yAm 1:Int)=1:=(·);omega)⟩;simp only[bV,mH];rw[if_pos c,Int.one_mul,yAs,aDG]
def wC{n a k:Nat}(h:n<2^a)(h2:a+k<=100000):bV .LShift (.int n) (.int k)=qz (.int ((n*2^k:Nat):Int)):=by
 have c:(0:Int)<=(k:Nat)/\((yAm (n:Int):Nat):Int)+(k:Nat)<=2^27:=by
  have:=aO4 h;exact⟨by omega,by omega⟩
 simp only[bV,mH];rw[if_pos c,yAs,<- aDG];congr 2
def fS{i j:Int}(h:0<j):bV .Mod (.int i) (.int j)=qz (.int (i%j)):=by simp only[bV,mH];rw[if_pos (!_),Int.fmod_eq_emod_of_nonneg _ (!_)]
def oR{i j:Int}(h:0<j)(h2:j<2^64):bV .FloorDiv (.int i) (.int j)=qz (.int (i/j)):=by simp only[bV,mH];have h3:j.natAbs.log2<9000:=yFy ((Nat.log2_lt (!_)).mpr (show j.natAbs<2^64 by omega)) (·);rw[if_pos ⟨by omega,aZP h3⟩,Int.fdiv_eq_ediv_of_nonneg _ (!_)]
def aOt{i j:Int}(h1 : -(2^64)<j)(h2:j<2^64):oX i j=true:=by unfold oX;have:=intBits_le_64 h1 h2;have h:¬ (yAm j>vv):=Nat.not_lt.mpr this;rw[dqF h];simp
def aOi{i j:Int}(h1 : -(2^64)<i)(h2:i<2^64):oX i j=true:=by unfold oX;have:=intBits_le_64 h1 h2;have h:¬ (yAm i>vv):=Nat.not_lt.mpr this;rw[dqF h];simp
def aAW{i j:Int}(h1 : -(2^64)<j)(h2:j<2^64):bV .Mult (.int i) (.int j)=qz (.int (i*j)):=by show(if oX i j=true then qz (yAn (i*j)) else qx)=_;rw[if_pos (aOt h1 h2)]
def qG{i j:Int}(h1 : -(2^64)<i)(h2:i<2^64):bV .Mult (.int i) (.int j)=qz (.int (i*j)):=by show(if oX i j=true then qz (yAn (i*j)) else qx)=_;rw[if_pos (aOi h1 h2)]
def aSR{xs ys:List D}(h:↑xs+↑ys<=1000000):bV .Add (.list xs) (.list ys)=qz (.list (xs++ys)):=by show(if ↑xs+↑ys<=qk then qz (yHm (xs++ys)) else qx)=_;rw[if_pos (by rw[zq];omega)]
def aQu{α:Type}(k:Nat)(x:α):yZ k [x]=yAe k x:=by
 unfold yZ
 induction k with
 |zero=>rfl|succ k ih=>rw[yAw,yDb,ih,yAw];rfl
def bP(i j:Int):aW .Eq (.int i) (.int j)=qz (.bool (i==j)):=rfl
def qU(i j:Int):aW .NotEq (.int i) (.int j)=qz (.bool (!(i==j))):=rfl
def fO(i j:Int):aW .Lt (.int i) (.int j)=qz (.bool (decide (i<j))):=rfl
def aEt(i j:Int):aW .LtE (.int i) (.int j)=qz (.bool (decide (i<=j))):=rfl
def fU(i j:Int):aW .Gt (.int i) (.int j)=qz (.bool (decide (j<i))):=rfl
def aKV(i j:Int):aW .GtE (.int i) (.int j)=qz (.bool (decide (j<=i))):=rfl
end EV
namespace EV
open PySem L2 BM
def oB{α β:Type}(a:α)(f:α->Option β):(qz a).bind f=f a:=of_eq_true (eq_self (f a))
def oM{α β:Type}(a:α)(f:α->β):(qz a).map f=qz (f a):=of_eq_true (eq_self (qz (f a)))
def cl(fs:List Fn)(d f:Nat)(ws:List W)(S:aC):Option (W×aC):=match aD fs d f with
 |some (np,call)=>if ↑ws=np then call ws S else qx
 |none=>qx
def aHF(fs:List Fn)(d f:Nat)(fa:FA)(env:bB)(S:aC):mE (aD fs d) f fa env S=(fa env S).bind λ p=>cl fs d f p.1 p.2:=by
 unfold mE cl aBY;cases aD fs d f with
 |none=>cases fa env S<;>rfl|some q=>rfl
def aN(h:fs[f]?=qz F)(d:Nat)(ws:List W)(S:aC)(hw:↑ws=F.np):cl fs (d+1) f ws S=fH (xs (aD fs d) F.body) F.N.length ws S:=by
 have e:aD fs (d+1) f=qz (F.np,fH (xs (aD fs d) F.body) F.N.length):=by
  show(fs[f]?).map _=_;rw[h];rfl
 unfold cl;rw[e];exact if_pos hw
def aSz(h:fs[f]?=qz F)(hn:F.np=1)(e:cl fs (d+1) f [w] []=qz (r,S)):∃ call S',aD fs (d+1) f=qz (1,call)/\call [w] []=qz (r,S'):=by
 refine⟨fH (xs (aD fs d) F.body) F.N.length,S,?_,?_⟩
 ·show(fs[f]?).map _=_;rw[h,<- hn];rfl
 ·rw[<- aN h d [w] [] (by rw[hn];rfl)];exact e
def szT(h:n<=1000):(n<=qk)=True:=by rw[zq];exact eq_true (!_)
end EV
namespace EV
open PySem L2 BM
def aAI(w:Nat):((2^w:Nat):Int)-1=((2^w-1:Nat):Int):=by have:=vW w;omega
def vD{fa:FE}{env:bB}{S S1:aC}{w:Nat}(h:fa env S=qz (.d (.int w),S1))(hw:w<=1000000):xQ fa env S=qz ((yBm w).map (λ k=>yAn (k:Nat)),S1):=by have c : -(2^62)<=((w:Nat):Int)/\((w:Nat):Int)<2^62:=⟨by omega,by omega⟩;unfold xQ;rw[h,oB];simp only[];rw[if_pos c,aII,yAs];congr 2;apply yDj;intro k _;rw[Int.zero_add]
def aH4(h:env[i]?=qz (qz w)):kJ i env S=qz (w,S):=by unfold kJ;rw[h]
def mI{xs:List D}{k:Nat}{x:D}(h:xs[k]?=qz x):aH (.list xs) (.int k)=qz x:=by have hl:k<↑xs:=(gIm h).1;show(jH ↑xs ((k:Nat):Int)).bind (λ j=>xs[j]?)=qz x;unfold jH;rw[if_pos (!_),if_pos (!_),oB,yAs];exact h
def cW{xs:List D}{k:Nat}{x:D}(h:xs[k]?=qz x):aH (.tuple xs) (.int k)=qz x:=@mI xs _ _ h
def aJb{t:Tg}{fb:FS}(P:Nat->bB->aC->Prop):∀ (ds:List D) (i:Nat) (env:bB) (S:aC),P i env S->(∀ j d env S,ds[j]?=qz d->P (i+j) env S->∃ e1 aS S',t.put d env=qz e1/\fb e1 S=qz (.nx aS,S')/\P (i+j+1) aS S') ->
 ∃ aS S',nW t fb ds env S=qz (.nx aS,S')/\P (i+↑ds) aS S'
 |[],i,env,S,h0,_=>⟨env,S,rfl,h0⟩
 |d::ds,i,env,S,h0,h=>by
   let(e1,aS,S',h1,h2,h3):=h 0 d env S rfl h0;let(env2,S2,h4,h5):=aJb P ds (i+1) aS S' h3 λ j d' env S a b=>by
    have:=h (j+1) d' env S (a:) (by rw[show i+(j+1)=i+1+j by omega];exact b);rw[show i+(j+1)=i+1+j by omega] at this;exact this
   refine⟨env2,S2,by simp only[nW,h1,oB,h2];exact h4,?_⟩;have:i+(d::ds).length=i+1+↑ds:=by simp;omega
   rw[this];exact h5
def kY{t:Tg}{fi:FL}{fb:FS}(P:Nat->bB->aC->Prop)(hi:fi env S=qz (ds,S1))(h0:P 0 env S1)(h:∀ j d env S,ds[j]?=qz d->P j env S->∃ e1 aS S',t.put d env=qz e1/\fb e1 S=qz (.nx aS,S')/\P (j+1) aS S') :
 ∃ aS S',iH t fi fb env S=qz (.nx aS,S')/\P ↑ds aS S':=by
 let(aS,S',h1,h2):=@aJb t fb P ds 0 env S1 h0 λ j d env S a b=>by
  have:=h j d env S a (b:);simpa using this
 exact⟨aS,S',by unfold iH;rw[hi,oB];exact h1,by simpa using h2⟩
def aOu{fa fb:FE}{env:bB}{S S1 S2:aC}{v w:Nat}(h:fa env S=qz (.d (.int v),S1))(h2:fb env S1=qz (.d (.int w),S2))(hv:v<=1000000)(hw:w<=1000000):xC fa fb env S=qz ((yBm (w-v)).map (λ k=>yAn ((v+k:Nat):Int)),S2):=by
 have c : -(2^62)<=((v:Nat):Int)/\((v:Nat):Int)<2^62 /\ -(2^62)<=((w:Nat):Int)/\((w:Nat):Int)<2^62:=⟨by omega,by omega,by omega,by omega⟩;have e:(((w:Nat):Int)-((v:Nat):Int)).toNat=w-v:=by omega
 unfold xC;rw[h,oB];simp only[];rw[h2,oB];simp only[];rw[if_pos c,aII,e];congr 2
def dR{xs:List D}:iL [.list xs]=qz (.int ↑xs):=rfl
def dU{xs:List D}:iL [.tuple xs]=qz (.int ↑xs):=rfl
def kC{xs:List D}:gU [.list xs]=qz (.tuple xs):=rfl
def kB{xs:List D}:gU [.tuple xs]=qz (.tuple xs):=rfl
def aKq{i:Int}:rR [.int i]=qz (.int i):=rfl
def aKc:rR [.bool k]=qz (.int (if k then 1 else 0)):=rfl
def kR(n k:Nat):bV .RShift (.int n) (.int k)=qz (.int ((n/2^k:Nat):Int)):=by
 have c:(0:Int)<=(k:Nat):=by omega
 simp only[bV,mH];rw[if_pos c,yAs,<- aDG];congr 2
def aIV(a b:Nat):bV .BitAnd (.int a) (.int (yBn (b:Nat)))=qz (.int ((jO a b:Nat):Int)):=by
 have h1:decide ((0:Int)<=(a:Nat))=true:=dqT (!_);have h2:decide ((0:Int)<=yBn (b:Nat))=false:=dqF (by unfold yBn;omega);have h3:(yBn (yBn (b:Nat))).toNat=b:=by unfold yBn;omega
 have h4:a&&&b<=a:=yCb;simp only[bV,mH];unfold yEg;rw[h1,h2];simp only[h3,yAs];congr 2;unfold jO;omega
def aJg(i:Int):rZ .Invert (.int i)=qz (.int (yBn i)):=rfl
def aIQ{x:D}{k:Nat}(h:k<=1000):bV .Mult (.tuple [x]) (.int k)=qz (.tuple (yAe k x)):=by show(if 0<=((k:Nat):Int)/\((k:Nat):Int)<=1000 then qz (yAk (yAe ((k:Nat):Int).toNat x)) else qx)=_;rw[if_pos ⟨by omega,by omega⟩,yAs]
def aIk{α:Type}{t:Tg}{fe:FE}(enc:α->D)(I:Nat->aC->Prop)(Q:α->D->Prop):∀ (l:List α) (aM:List D) (j:Nat) (S:aC),aM.length+↑l<=qk->j+↑l<=N->↑S=n->I j S ->
 (∀ a∈l,∃ e1,t.put (enc a) env=qz e1/\∀ j S aM,j<N->↑S=n->I j S->∃ v S',fe e1 (S++[qz aM])=qz (.d v,S'++[qz aM])/\↑S'=n/\I (j+1) S'/\Q a v) ->
 ∃ vs S',gH t lI fe n env (l.map enc) (S++[qz aM])=qz (S'++[qz (aM++vs)])/\↑S'=n/\I (j+↑l) S'/\↑vs=↑l/\∀ (i:Nat) (a:α),l[i]?=qz a->∃ v,vs[i]?=qz v/\Q a v
 |[],aM,j,S,_,_,hn,hI,_=>⟨[],S,by simp[gH],hn,hI,rfl,by simp⟩
 |a::l,aM,j,S,hz,hN,hn,hI,h=>by
   let(e1,h1,h2):=h a xAc;let(v,S1,h3,h4,h5,h6):=h2 j S aM (by simp at hN;omega) hn hI;have hlt:aM.length<qk:=by simp at hz;omega
   have ea:cX (S1++[qz aM]) (.loc n) (.d v)=qz (.d .none,S1++[qz (aM++[v])]):=by
    unfold cX;subst h4;simp only[yAf (yAb ↑S1),yAx,yBt];rw[if_pos hlt,wA]
   let(vs,S2,h7,h8,h9,h10,h11):=aIk enc I Q l (aM++[v]) (j+1) S1 (by simp at hz ⊢;omega) (by simp at hN;omega) h4 h5 λ x hx=>h x (xAf _ hx)
   refine⟨v::vs,S2,?_,h8,by rw[yAl,show j+(↑l+1)=j+1+↑l by omega];exact h9,by simp[h10],λ i b hb=>?_⟩
   ·simp only[yAh,gH,h1,lI,oB,if_true,h3,ea];rw[h7];simp
   ·cases i with|zero=>simp at hb;subst hb;exact⟨v,rfl,h6⟩|succ i=>simpa using h11 i b (hb:)
def aIu{α:Type}{t:Tg}{fi:FL}{fe:FE}(enc:α->D)(I:Nat->aC->Prop)(Q:α->D->Prop)(l:List α)(hi:fi env S=qz (l.map enc,S1))(hz:↑l<=qk)(h0:I 0 S1)(h:∀ a∈l,∃ e1,t.put (enc a) (clr t.slots env)=qz e1/\∀ j S aM,j<↑l->↑S=↑S1->I j S->∃ v S',fe e1 (S++[qz aM])=qz (.d v,S'++[qz aM])/\↑S'=↑S1/\I (j+1) S'/\Q a v) :
 ∃ vs S',gY t fi lI fe env S=qz (vs,S')/\↑S'=↑S1/\I ↑l S'/\↑vs=↑l/\∀ (i:Nat) (a:α),l[i]?=qz a->∃ v,vs[i]?=qz v/\Q a v:=by let(vs,S',h1,h2,h3,h4,h5):=@aIk ↑l ↑S1 _ _ _ fe enc I Q l [] 0 S1 (hz:) (by simp) rfl h0 h;refine⟨vs,S',?_,h2,by simpa using h3,h4,h5⟩;unfold gY;rw[hi];simp only[oB];rw[h1];simp[<- h2]
def aEh{α:Type}(a:α):yEf 1 [a]=[a]:=rfl
def aEp{α:Type}(a b:α):yEf 1 [a,b]=[a]:=rfl
def aEm{α:Type}(a b:α):yEf 2 [a,b]=[a,b]:=rfl
end EV
namespace EV
open PySem L2 BM
section
variable {C:Calls}{env:bB}{S S1 S2 S3 S4:aC}{a b c e es r:E}
def bK(h:env[i]?=qz (qz w)):ev C (.var i) env S=qz (w,S):=by rw[aEj];exact aH4 h
def nM{i:Int}:ev C (.int i) env S=qz (.d (.int i),S):=rfl
def aZp:ev C (.bl i) env S=qz (.d (.bool i),S):=rfl
def aWF:ev C .non env S=qz (.d .none,S):=rfl
def aYa:ev C (.str i) env S=qz (.d (.str i),S):=rfl
def aMh(ha:ev C a env S=qz (.d x,S1))(hb:ev C b env S1=qz (.d y,S2))(hz:bV op x y=qz z):ev C (.bin op a b) env S=qz (.d z,S2):=by simp only[aKM,rQ,f2,ha,oB,hb,jG,dr,hz]
def aY8(ha:ev C a env S=qz (.d x,S1))(hz:rZ op x=qz z):ev C (.un op a) env S=qz (.d z,S1):=by simp only[aLs,zZ,f1,ha,oB,gP,dr,hz]
def aEP(ha:ev C a env S=qz (.d x,S1))(hb:ev C b env S1=qz (.d y,S2))(hz:aW op x y=qz z):ev C (.cmp op a b) env S=qz (.d z,S2):=by simp only[aEa,nO,f2,ha,oB,hb,jG,dr,hz]
def jE(ha:ev C a env S=qz (wa,S1))(hb:ev C b env S1=qz (.d y,S2))(hx:dr S2 wa=qz x)(hz:aH x y=qz z):ev C (.ix a b) env S=qz (.d z,S2):=by have h2:dr S2 (.d y)=qz y:=rfl;simp only[aEQ,pX,f2,ha,oB,hb,jG,hx,h2,hz]
def aXV:dr S (.d x)=qz x:=rfl
def aXK{n:Nat}{l:List D}(h:S[n]?=qz (qz l)):dr S (.loc n)=qz (.list l):=by simp only[dr,h]
def aTC:nY S []=qz []:=rfl
def aXQ(h:dr S w=qz x)(k:nY S ws=qz ds):nY S (w::ws)=qz (x::ds):=by simp only[nY,h,k,oB]
def zJ(d:D)(l h:Option Int):Option D:=match d with|.list xs=>qz (.list (dY xs l h))|.tuple xs=>qz (.tuple (dY xs l h))|_=>qx
def aZX{lo hi:E}(ha:ev C a env S=qz (wa,S1))(hl:ov C lo env S1=qz (l,S2))(hh:ov C hi env S2=qz (h,S3))(hx:dr S3 wa=qz x)(hz:zJ x l h=qz z):ev C (.sl a lo hi) env S=qz (.d z,S3):=by simp only[aEU,oG,ha,oB,hl,hh,hx];cases x<;>first|(cases hz;done)|(cases hz;rfl)
def aZw:ov C .no env S=qz (qx,S):=rfl
def aV6{i:Int}(h:ev C a env S=qz (.d (.int i),S1)):ov C (.cons a .nil) env S=qz (qz i,S1):=by simp only[aI7,pC,h,oB]
def aMH(ho:ev C o env S=qz (wo,S1))(ha:ev C a env S1=qz (wa,S2))(h:cX S2 wo wa=qz (w,S3)):ev C (.app o a) env S=qz (w,S3):=by simp only[aLj,lK,f2,ho,oB,ha,h]
def aWI(ht:tv C c env S=qz (p,S1))(k:cond p (ev C a env S1) (ev C b env S1)=R):ev C (.ite c a b) env S=R:=by rw[<- k];cases p<;>simp only[aKJ,xZ,ht,oB,yAt,if_false,if_true,cond_true,cond_false]
def aXb(ha:ev C a env S=qz (.d (.bool p),S1))(k:cond p (ev C b env S1) (qz (.d (.bool false),S1))=R):ev C (.and a b) env S=R:=by rw[<- k];cases p<;>simp only[aK0,xO,ha,oB,cond_true,cond_false]
def aYR(ha:ev C a env S=qz (.d (.bool p),S1))(k:cond p (qz (.d (.bool true),S1)) (ev C b env S1)=R):ev C (.or a b) env S=R:=by rw[<- k];cases p<;>simp only[aLO,yH,ha,oB,cond_true,cond_false]
def aYk(ha:ev C a env S=qz (.d (.bool p),S1)):ev C (.not a) env S=qz (.d (.bool (!p)),S1):=by simp only[aK8,xS,ha,oB]
def aBD(ha:ev C a env S=qz (wa,S1))(hx:dr S1 wa=qz x)(hz:lD ty x=qz z):ev C (.isi a ty) env S=qz (.d z,S1):=by simp only[aKE,f1,ha,oB,gP,hx,hz]
def dW(ha:av (aD fs d) es env S=qz (ws,S1))(hc:cl fs d f ws S1=qz (w,S2)):ev (aD fs d) (.call f es) env S=qz (w,S2):=by rw[aJp,aHF,ha,oB];exact hc
def rC{t:B}(ha:av C es env S=qz (ws,S1))(hd:nY S1 ws=qz ds)(hz:t.g ds=qz z):ev C (.blt t es) env S=qz (.d z,S1):=by simp only[aKD,rN,ha,oB,hd,hz]
def tK(ha:av C es env S=qz (ws,S1))(hd:jQ ws=qz ds)(hl:↑ds<=1000):ev C (.tup es) env S=qz (.d (.tuple ds),S1):=by simp only[aLe,yM,ha,oB,hd,szT hl,if_true]
def aFz(h:lv C a env S=qz (ds,S1)):ev C (.fz a) env S=qz (.d (.list ds),S1):=by simp only[aMA,kM,h,oB]
def aBT(ha:av C es env S=qz (ws,S1))(hd:jQ ws=qz ds)(hl:↑ds<=1000):lv C (.lst es) env S=qz (ds,S1):=by simp only[aKF,yJ,ha,oB,hd,szT hl,if_true]
def xK(h:lv C a env S=qz (ds,S1)):ev C (.new a) env S=qz (.loc ↑S1,S1++[qz ds]):=by simp only[aEF,hU,h,oB]
def aBP:av C .nil env S=qz ([],S):=rfl
def bI(ha:ev C a env S=qz (w,S1))(hr:av C r env S1=qz (ws,S2)):av C (.cons a r) env S=qz (w::ws,S2):=by simp only[aJi,cT,ha,oB,hr]
def aD7(ha:ev C a env S=qz (.d x,S1))(hb:ev C b env S1=qz (.d y,S2))(hz:aW op x y=qz (.bool p)):tv C (.cmp op a b) env S=qz (p,S2):=by have:=aEP ha hb hz;rw[aEa] at this;simp only[aLi,cU,this,oB,dr,pK]
def aBF(ht:tv C e=cU (ev C e))(ha:ev C e env S=qz (.d x,S1))(hz:pK x=qz p):tv C e env S=qz (p,S1):=by rw[ht];simp only[cU,ha,oB,dr,hz]
def aT0(ha:tv C a env S=qz (p,S1))(hb:cond p (tv C b env S1) (qz (false,S1))=R):tv C (.and a b) env S=R:=by rw[<- hb];cases p<;>simp only[aKO,yB,ha,oB,yAt,if_false,if_true,cond_true,cond_false]
def aE4(ha:tv C a env S=qz (p,S1))(hb:cond p (qz (true,S1)) (tv C b env S1)=R):tv C (.or a b) env S=R:=by rw[<- hb];cases p<;>simp only[aLz,zU,ha,oB,yAt,if_false,if_true,cond_true,cond_false]
def aBh(ha:tv C a env S=qz (p,S1)):tv C (.not a) env S=qz (!p,S1):=by simp only[aLf,yV,ha,oB]
def uG{α:Type}{x y z:α}(h:x=z):cond true x y=z:=h
def tZ{α:Type}{x y z:α}(h:y=z):cond false x y=z:=h
variable {s t u:Sx}{aS:bB}{R:Option (Fl×aC)}{w:W}
def pB(h:xs C s env S=qz (fl,S1))(k:qz (fl,S1)=R):xs C s env S=R:=h.trans k
def tM{w:W}{R:Option (W×aC)}(h:ev C e env S=qz (w,S1))(k:qz (w,S1)=R):ev C e env S=R:=h.trans k
def tL{p:Bool}{R:Option (Bool×aC)}(h:tv C e env S=qz (p,S1))(k:qz (p,S1)=R):tv C e env S=R:=h.trans k
def tN{l:List D}{R:Option (List D×aC)}(h:lv C e env S=qz (l,S1))(k:qz (l,S1)=R):lv C e env S=R:=h.trans k
def aVf:xs C .skip env S=qz (.nx env,S):=rfl
def uC(C:Calls)(t:Sx)(fl:Fl)(S:aC):Option (Fl×aC):=match fl with|.nx e=>xs C t e S|fl=>qz (fl,S)
def aYy(h:xs C s env S=qz (fl,S1))(k:uC C t fl S1=R):xs C (.seq s t) env S=R:=by rw[<- k];cases fl<;>simp only[oT,eC,h,oB,uC]
def aY1(k:xs C t aS S=R):uC C t (.nx aS) S=R:=k
def aZR(k:qz (.rt w,S)=R):uC C t (.rt w) S=R:=k
def aZB(k:qz (.bk aS,S)=R):uC C t (.bk aS) S=R:=k
def aZk(k:qz (.ct aS,S)=R):uC C t (.ct aS) S=R:=k
def aMw(he:ev C e env S=qz (we,S1))(ho:ev C o env S1=qz (wo,S2))(hi:ev C i env S2=qz (wi,S3))(h:iZ S3 wo wi we=qz S4):xs C (.put o i e) env S=qz (.nx env,S4):=by simp only[aK4,jR,he,oB,ho,hi,h]
def aWq(h:ev C e env S=qz (w,S1))(he:env.set i (qz w)=aS):xs C (.set i e) env S=qz (.nx aS,S1):=by rw[<- he];simp only[aBe,jS,h,oB]
def aX7(h:ev C e env S=qz (w,S1)):xs C (.ret e) env S=qz (.rt w,S1):=by simp only[aEH,pJ,h,oB]
def aKT(h:ev C e env S=qz (w,S1)):xs C (.expr e) env S=qz (.nx env,S1):=by simp only[aI5,xB,h,oB]
def aXR(ht:tv C a env S=qz (p,S1))(k:cond p (xs C s env S1) (xs C t env S1)=R):xs C (.ifs a s t) env S=R:=by rw[<- k];cases p<;>simp only[sZ,oI,ht,oB,yAt,if_false,if_true,cond_true,cond_false]
def aV0(h:iH tg (lv C a) (xs C s) env S=R):xs C (.loop tg a s) env S=R:=h
def aLa{ws:List W}(he:ws.map qz++yAe (n-↑ws) qx=env)(k:xs C body env S=qz (.rt (.d x),S1))(hS:S1.take ↑S=S2):fH (xs C body) n ws S=qz (.d x,S2):=by subst he;simp only[fH,k,oB,lH,hS]
def tU{ws:List W}(h:fs[f]?=qz F)(hw:↑ws=F.np)(he:ws.map qz++yAe (F.N.length-↑ws) qx=env)(k:xs (aD fs d) F.body env S=qz (.rt (.d x),S1))(hS:S1.take ↑S=S2):cl fs (d+1) f ws S=qz (.d x,S2):=by subst he;rw[aN h d ws S hw];simp only[fH,k,oB,lH,hS]
end
section
variable {C:Calls}{env:bB}{S S1 S2 S3 S4:aC}{a b c e es r:E}{w:W}{fl:List (Str×W0)}{ws:List W0}{k:List bE}{el:List (List bE×Int)}{m:Nat}
def aEX(h:ev C a env S=qz (.ob fl,S1))(hf:fl.lookup f=qz x):ev C (.fld a f) env S=qz (x.w,S1):=by simp only[aWe,aB9,h,oB,hf,yDe]
def aKH(h:ev C a env S=qz (.ob fl,S1))(hf:fl.lookup f=qz (.loc n)):ev C (.fld a f) env S=qz (.loc n,S1):=aEX h hf
def aVj(h:ev C a env S=qz (.ob fl,S1))(hf:fl.lookup f=qz (.d x)):ev C (.fld a f) env S=qz (.d x,S1):=aEX h hf
def aVH(h:ev C a env S=qz (.ob fl,S1))(hf:fl.lookup f=qz (.dic n)):ev C (.fld a f) env S=qz (.dic n,S1):=aEX h hf
def xI(ho:ev (aD fs d) a env S=qz (.ob fl,S1))(hn:fl.lookup mn=qx)(ha:av (aD fs d) es env S1=qz (zs,S2))(hc:cl fs d f (.ob fl::zs) S2=qz (w,S3)):ev (aD fs d) (.mth mn f a es) env S=qz (w,S3):=by
 rw[aUw];unfold rD;unfold cl at hc;cases h:aD fs d f with
 |none=>rw[h] at hc;cases hc
 |some p=>
   rw[h] at hc;let(np,call):=p;dsimp only at hc ⊢;split at hc
   ·rename_i hl;have hl:↑zs+1=np:=hl;simp only[aB1,ho,oB,hn,yGz,if_true,ha,hl,hc]
   ·cases hc
def aEV(h:av C es env S=qz (zs,S1))(h0:w0s zs=qz ws)(hl:(↑ws<=1000)=True):ev C (.tpl es) env S=qz (.tpl ws,S1):=by have hl:↑ws<=qk:=xAh (of_eq_true hl) (·);simp only[aWn,aB6,h,oB,h0,if_pos hl]
def aE5(h:ev C a env S=qz (.tpl ws,S1))(hf:ws[i]?=qz x):ev C (.tix a i) env S=qz (x.w,S1):=by simp only[aVD,aCc,h,oB,hf,yDe]
def aD5(h:ev C a env S=qz (.tpl ws,S1))(hf:ws[i]?=qz (.loc n)):ev C (.tix a i) env S=qz (.loc n,S1):=aE5 h hf
def aEC(h:ev C a env S=qz (.tpl ws,S1))(hf:ws[i]?=qz (.d x)):ev C (.tix a i) env S=qz (.d x,S1):=aE5 h hf
def aVF(h:ev C a env S=qz (.tpl ws,S1))(hf:ws[i]?=qz (.dic n)):ev C (.tix a i) env S=qz (.dic n,S1):=aE5 h hf
def aTU(ha:ev C a env S=qz (.tpl ws,S1))(hb:ev C b env S1=qz (.dic m,S2))(hk:hJ ws=qz k)(hd:jZ S2 m=qz el)(hp:(n != (dH el k).isSome)=p):tv C (.din n a b) env S=qz (p,S2):=by subst hp;simp only[aVl,cU,uJ,ha,oB,hb,hk,hd,yDe,dr,pK]
def aUh{i:Int}(ha:ev C a env S=qz (.dic m,S1))(hb:ev C b env S1=qz (.tpl ws,S2))(hk:hJ ws=qz k)(hd:jZ S2 m=qz el)(hv:dH el k=qz i):ev C (.dget a b) env S=qz (.d (.int i),S2):=by simp only[aRv,aBV,ha,oB,hb,hk,hd,hv,yDe]
def aVB{i:Int}(hv:ev C e env S=qz (.d (.int i),S1))(ha:ev C a env S1=qz (.dic m,S2))(hb:ev C b env S2=qz (.tpl ws,S3))(hk:hJ ws=qz k)(hd:jZ S3 m=qz el)(hl:el.length<qk)(hS:S3.set m (qz ((nN el k i).map kK))=S4):xs C (.dput a b e) env S=qz (.nx env,S4):=by rw[<- hS];simp only[aR6,aBX,hv,oB,ha,hb,hk,hd,if_pos hl]
def aKQ:ev C .dnew env S=qz (.dic ↑S,S++[qz []]):=rfl
def aYt(h:av C es env S=qz (zs,S1))(hd:jQ zs=qz ds)(hl:(↑ds<=1000)=True)(ha:ev C a env S1=qz (u,S2))(hx:wd u=qz x)(hz:zH ds x=qz z):ev C (.cou t es a) env S=qz (.d z,S2):=by have hl:↑ds<=qk:=xAh (of_eq_true hl) (·);simp only[aTM,tX,h,oB,hd,if_pos hl,ha,hx,hz,yDe]
def aVz{t:Tg}(h:ev C e env S=qz (.d x,S1))(he:t.put x env=qz aS):xs C (.setT t e) env S=qz (.nx aS,S1):=by simp only[aJr,xM,h,oB,he]
def aKg{i:Nat}{ds:List D}{aS:bB}(h:lv C e env S=qz (ds,S1))(he:env.set i (qz (.d (.list ds)))=aS):xs C (.setC false i e) env S=qz (.nx aS,S1):=by rw[<- he];simp only[aDT,jS,kM,h,oB]
def aWv{s:Sx}{i n:Nat}{ds:List D}{aS:bB}{R:Option (Fl×aC)}(h1:env[i]?=qz (qz (.loc n)))(h2:S[n]?=qz (qz ds))(he:env.set i (qz (.d (.list ds)))=aS)(hS:S.set n qx=S1)(h:xs C s aS S1=R):xs C (.frs i s) env S=R:=by subst he hS;rw[aKZ];unfold zE;rw[h1];dsimp only;rw[h2];exact h
def aMY(h:av C es env S=qz (zs,S1))(hn:↑zs+1=np)(hd:jQ zs=qz ds)(hm:lC ds ini S1=qz (fs,S2)):ev C (.mk ini np es) env S=qz (.ob fs,S2):=by simp only[aYd,aBR,h,oB,if_pos hn,hd,hm,yDe]
end
end EV
namespace K73
open PySem L2 EV BM
private def mqS(p:String)(l:List mq)(b:="simp"):mq:=mqV b [mqC,mqO,mqO [mqA "only"],mqO [mqA "[",mqJ "," ((((p.splitOn " ").filter (·!="")).map mqI++l).map λ t=>mqN "Tactic.simpLemma" [mqO,mqO,t]),mqA "]"],mqO]
private def mqH(n:String)(l:List mq):=mqV "tacticErw___" [mqC,mqN "Tactic.rwRuleSeq" [mqA "[",mqJ "," ((mqI n::l).map λ t=>mqN "Tactic.rwRule" [mqO,t]),mqA "]"],mqO]
private def mqX(a:mq):=
 let a:=a[2][1].getSepArgs.toList.map (·[1])
 (a.headD .missing,a.tail)
private def mqR:=mqN "Tactic.tacticRfl" [mqA "rfl"]
private def mqW(t:mq):=mqN "Tactic.withReducible" [mqA "with_reducible",mqQ [t]]
private def mqK(t:mq):=mqV "focus" [mqQ [t]]
private def mqZ(t:mq)(u:=mqR):=mqK (mqM `Lean.Parser.Tactic.«tactic_<;>_» #[t,mqA "<;>",u])
private def mqY(l:List mq)(e:=[mqV "fail" [mqO]]):=mqV "first" [mqO ((l++e).map λ t=>mqM `group #[mqA "|",mqQ [t]])]
private def mqU(t:mq):=mqV "apply" [t]
private def mqEv:="aEj aVK aXf aVo aUL aKM aLs aEa aK0 aLO aK8 aKJ aLe aEQ aTF aVC aEU aJp aKD aKE aSq aLj aTO aMA aEF aKO aLz aLf aUq aLi aYo aTw aWh aUv aVa aXr aXG aTK aJi aXP aI7 aKF aJN aRy EV.rB EV.qK EV.qJ EV.qQ aSv EV.qW EV.qM aI1 EV.oT aI5 aEH EV.sZ aBe aDT aJr aK4 aTi aKZ EV.eC EV.jS EV.xM EV.oI EV.pJ aXY EV.xB EV.tR EV.rQ EV.zZ EV.nO EV.cU EV.f2 EV.f1 EV.jG EV.gP EV.dr EV.nY EV.fC EV.kJ EV.lH aHF EV.cT EV.iK EV.yM EV.yJ EV.kM EV.rN EV.pX EV.yB EV.zU EV.yV EV.xO EV.yH EV.xS EV.xZ EV.jQ EV.B.g aWy aYH aBz aXo aYg EV.pK EV.Tg.put EV.nC EV.Tg.slots yAh yDn yAl yBr yEq Nat.reduceSub yEk yAw yGn yGe yFo yBt yCx yCr yDp EV.oB EV.oM yAg Bool.not_false Bool.not_true yAt if_true if_false reduceIte yEz Nat.reduceEqDiff szT List.take_nil List.take_zero aTE EV.nR aBx EV.pG aEh aEp aEm"
private def mqU2(n:String):=if n="" then [] else [mqW (mqU (mqI n))]
private def mqC2(l:List mq)(x:Char):mq:=
 if x='r' then mqR else
 if x='g' then mqH "go.10.71" l else
 if x='c' then mqY [mqW (mqV "assumption" []),mqZ (mqS "" l) (mqW mqR)] else
 if x='v' then mqZ (mqS mqEv l) (mqW mqR) else
 if x='b' then mqZ (mqS "yCr yDp" [] "dsimp") else
 if x='a' then mqH "go.0.4" l else
 if x='d' then mqH "go.4.6" l else
 if x='e' then mqH "go.6.8" l else
 if x='f' then mqH "go.8.10" l else
 mqY [mqZ (mqS (if x='h' then "EV.B.g" else if x='i' then "yAl yBr yEq yEz" else if x='j' then "EV.zJ" else if x='k' then "Option.isSome_some Option.isSome_none bne_self_eq_false Bool.bne_false Bool.false_bne" else if x='m' then "yCr yDp" else if x='n' then "EV.Tg.put EV.nC yCr yDp" else "") l),mqK mqR]
local macro_rules(kind:=Lean.Parser.Tactic.tacticErw___)|s=>do
 let (n,l):=mqX s
 match n.getId with
 |.num (.num _ a) b=>if b<a+4 then mqF else return mqH s!"go.{(a+b)/2}.{b}" l
 |.anonymous=>if n.toNat>19 then mqF else return mqZ (mqS (if n.toNat<9 then mqEv else mqEv++" EV.fH") l)
 |_=>mqF
local macro_rules(kind:=Lean.Parser.Tactic.omega)|_s=>return mqW (mqY (mqV "assumption" []::(("yAb/1 _ yGd/2 _ _ xAh/2 a d xAb/2 a d xAi/2 a d yDz/1 a xAh/2 yDz/1 a d xAh/2 Nat.add_le_add_right/2 a _ d yFc/2 d _ yEy/1 a Nat.lt_of_not_le/1 a Nat.not_lt_of_le/1 a yHq/1 a xAb/2 a a xAh/2 a a xAh/2 a yFc/2 d _ xAh/2 a xAh/2 Nat.add_le_add_right/2 a _ d".splitOn " ").foldr (λ t l=>match t.splitOn "/" with|[f,n]=>let n:=n.toNat!;mqT f (l.take n)::l.drop n|_=>(if t="_" then mqN "Term.hole" [mqA "_"] else mqB (if t="a" then mqV "assumption" [] else mqV "decide"))::l) []).map λ t=>mqV "exact" [t]))
local macro_rules(kind:=Lean.Parser.Tactic.tacticErw___)|s=>do
 let (n,l):=mqX s
 match n.getId with
 |.num (.num _ a) b=>
  if a+3<b then return mqH s!"go.{a}.{(a+b)/2}" l
  return mqY (((("aY1:g aZR:r aZB:r aZk:r EV.uG:g EV.tZ:g EV.uG:g EV.tZ:r EV.uG:r EV.tZ:g EV.bK:r EV.nM EV.bI:gg aBP EV.dW:gc aMh:ggl EV.jE:gggl aWq:gb aYy:ga aD7:ggl aXR:gd aX7:g aVf EV.rC:ggh aT0:ge aBh:g aYa aE4:gf aZp aWF aZw aXV aTC aKT:g aXK:l aXQ:gg EV.tK:gri aFz:g aBT:gri EV.xK:g aZX:ggggj aV6:g aY8:gl aEP:ggl aMH:ggl aMw:gggl aWI:gd aXb:ge aYR:gf aYk:g aBD:ggr aKH:gr aVj:gr aVH:gr EV.xI:grgc aEV:gri aD5:gr aEC:gr aVF:gr aTU:ggllk aUh:gglll aVB:ggglllm aKQ aYt:grigrl aVz:gn aKg:gb aMY:grrr aV0:c aBF:rgr :c :v".splitOn " ").take b).drop a).map λ t=>mqO ((match t.splitOn ":" with|[n,r]=>mqU2 n++r.toList.map (mqC2 l)|_=>mqU2 t)))
 |.anonymous=>
  let k:=n.toNat
  if k=20 then return mqS mqEv l
  let i:=mqN "Tactic.rcasesPat.one" [mqI "rfl"]
  if k=50 then return mqG [i,mqA "|",i,mqA "|",i] (l.headD .missing)
  let d:=l.take (k%10);let l:=l.drop (k%10);let g:=[mqH "go.10.71" l,mqY [mqK mqR,mqZ (mqS "" l)]]
  if k<10 then return mqY [mqO ((if k=0 then [] else [mqS "" d "dsimp"])++mqY (["pB","tM","tL","tN"].map λ x=>mqU (mqI x))::g)]
  return mqY [mqO [mqU (mqT "aLa" [mqI "rfl"]),mqV "focus" [mqQ (mqS "List.map yAl yBr yEq Nat.reduceSub yEk yAw yGn yGe yFo" d "dsimp"::mqU (mqI "pB")::g)],mqY [mqV "exact" [mqI "yAg"],mqZ (mqS "aEh aEp aEm" l),mqK mqR]]]
 |_=>mqF
local macro_rules(kind:=Lean.Parser.Term.tuple)|s=>if s[1].getNumArgs=0 then return mqB (mqV "omega") else mqF
local macro_rules(kind:=«term_<$>_»)|s=>return mqT "aD" [mqI "fns",mqM `«term_+_» #[s[0],mqA "+",s[2]]]
local macro_rules(kind:=«term#[_,]»)|s=>return mqT "qz" [mqD "loc" [s[1][0]]]
local macro_rules(kind:=Lean.Parser.Term.typeAscription)|s=>if s[3].getNumArgs=0 then return mqT "qz" [mqD "d" [mqD "int" [s[1]]]] else mqF
def top(i:Nat):xk:=PySem.Challenge.pw_fewbits_k73_made_row_by_row.main.body.getD i (.Pass ⟨0,0,0,0⟩)
def uV:List (Str×Tv):=[("in",.int 0),("num",.int 0),("not",.int 1),("and",.int 2),("or",.int 2),("xor",.int 2),("add",.int 2),("sub",.int 2),("mul",.int 2),("left",.int 1),("right",.int 1),("slide",.int 1),("cut",.int 1),("wide",.int 1),("sign",.int 1),("same",.int 2),("less",.int 2),("under",.int 2),("pick",.int 3)]
def vN:List Tv:=[.str "left",.str "right",.str "slide"]
def aEG:List Tv:=[.str "add",.str "sub",.str "mul"]
def qC:List Tv:=[.str "same",.str "less",.str "under"]
def aCY:List Tv:=[.str "wide",.str "sign"]
def sI:List Tv:=[.int 0,.int 0,.int 1]
def vT:List Tv:=[.int 1,.int 0,.int 1]
def xV:List Tv:=[.int 0,.int 1,.int 1]
def wI:List Tv:=[.str "cut",.str "nought",.str "sign"]
def cl_ini:List (Str×Ini):=[("program",.arg 0),("stays",.arg 1),("rows",.lst),("places",.lst),("once",.dct)]
def aBW(s:xk)(j:Nat):xk:=match s with|.ClassDef _ _ _ b _ _ _ _ _ _ _=>b.getD j (.Pass ⟨0,0,0,0⟩)|_=>.Pass ⟨0,0,0,0⟩
def tbs:Tbs:=⟨[("OPERAND_COUNTS",uV)],[("SHIFTS",vN),("SUMS",aEG),("COMPARES",qC),("WIDENINGS",aCY),("NOTHING",sI),("NOUGHT",vT),("ONE",xV),("WORDS",wI)],[],qz ⟨cl_ini,3,["self","program","stays"],aBW (top 73) 0⟩⟩
abbrev J0:E:=.int 0
abbrev J1:E:=.int 1
abbrev J2:E:=.int 2
abbrev J3:E:=.int 3
abbrev J4:E:=.int 4
abbrev J5:E:=.int 5
abbrev J7:E:=.int 7
abbrev J8:E:=.int 8
abbrev V0:E:=.var 0
abbrev V1:E:=.var 1
abbrev V2:E:=.var 2
abbrev V3:E:=.var 3
abbrev V4:E:=.var 4
abbrev V5:E:=.var 5
abbrev V6:E:=.var 6
abbrev V7:E:=.var 7
abbrev V8:E:=.var 8
abbrev V9:E:=.var 9
abbrev N0:E:=.nil
abbrev K0:Sx:=.skip
section
local macro_rules(kind:=«term_::_»)|s=>return mqD "cons" [s[0],s[2]]
local macro_rules(kind:=«term_^_»)|s=>return mqD "seq" [s[0],s[2]]
def aMd:Sx:=.ret (.bin .Sub (.bin .LShift J1 V0) J1)^K0
def aLl:Sx:=.ret (.bits V0)^K0
def aK2:Sx:=.ret (.call 0 (.call 1 (V0::N0)::N0))^K0
def aIE:Sx:=.ret (.bin .Sub (.call 1 (.bin .BitXor V0 (.bin .Add V0 J1)::N0)) J1)^K0
def aIh:Sx:=.ret (.bin .Sub V1 (.call 1 (.bin .BitXor V0 (.call 0 (V1::N0))::N0)))^K0
def aC4:Sx:=.set 3 (.bin .LShift J1 (.bin .Sub V1 J1))^.ifs (.cmp .Eq (.bin .BitAnd V0 V3) J0) (.ret V0^K0) .skip^.ret (.bin .BitOr V0 (.bin .BitXor (.call 0 (V2::N0)) (.call 0 (V1::N0))))^K0
def aGL:Sx:=.set 3 (.bin .BitXor (.call 0 (V2::N0)) (.call 2 (.bin .BitXor V0 V1::N0)))^.set 4 (.bin .BitAnd V3 V0)^.ret (.tup (.bin .BitXor V3 V4::V4::N0))^K0
def aPl:Sx:=.ret (.sl V0 (J2::N0) (.bin .Add J2 (.tab "OPERAND_COUNTS" uV (.ix V0 J0))::N0))^K0
def aGk:Sx:=.ret (.bin .Add (.bin .Add (.sl V0 .no (J2::N0)) V1) (.sl V0 (.bin .Add J2 (.blt .len (V1::N0))::N0) .no))^K0
def aGh:E:=.comp (.ix V1 V2) (.one 2) (.it (.call 7 (V0::N0))) .no
def aGE:Sx:=.ret (.blt .tup (.fz aGh::N0))^K0
def aHE:Sx:=.set 2 (.ix V0 J0)^.ret (.ix (.ix V2 V1) J1)^K0
def aGv:E:=.comp (.ix V1 J1) (.one 1) (.it (.ix V0 J0)) .no
def aHb:Sx:=.ret (.blt .tup (.fz aGv::N0))^K0
def aGw:Sx:=.ret (.tup (.bin .BitAnd V2 (.un .Invert (.bin .BitAnd V1 (.un .Invert V0)))::.bin .BitAnd V2 (.un .Invert V0)::N0))^K0
def aHT:Sx:=.set 3 (.call 1 (V2::N0))^.set 4 (.blt .mn (V3::.call 3 (V1::N0)::N0))^.set 5 (.blt .mn (.bin .Sub V3 V4::.call 3 (V0::N0)::N0))^.ret (.tup (.call 0 (.bin .Sub V3 V4::N0)::.call 0 (.bin .Sub V3 V5::N0)::N0))^K0
def aDO:Sx:=.ifs (.cmp .Eq (.bin .RShift V0 V1) J0) (.ret V0^K0) .skip^.ret (.bin .BitOr (.bin .BitAnd V0 (.call 0 (V1::N0))) (.bin .LShift J1 (.bin .Sub V1 J1)))^K0
def aAp:Sx:=.ifs (.cmp .Eq V0 (.str "left")) (.ret (.bin .RShift V3 V2)^K0) .skip^.ifs (.cmp .Eq V0 (.str "right")) (.ret (.bin .BitAnd (.bin .LShift V3 V2) (.call 0 (V1::N0)))^K0) .skip^.ret (.call 14 (.bin .LShift V3 V2::V1::N0))^K0
def aAv:Sx:=.ifs (.cmp .Eq (.ix V0 J1) J1) (.ret (.tup (J1::V1::J0::N0))^K0) .skip^.ifs (.cmp .Eq (.ix V0 J0) J1) (.ret (.tup (J1::J0::V1::N0))^K0) .skip^.ret (.tup (J1::V1::V1::N0))^K0
def aGC:Sx:=.set 4 (.ix V0 J0)^.ifs (.cmp .Eq V4 (.str "and")) (.ret (.call 12 (.ix (.ix V2 J0) J0::.ix (.ix V2 J1) J0::V3::N0))^K0) .skip^.ifs (.cmp .Eq V4 (.str "or")) (.ret (.call 12 (.ix (.ix V2 J0) J1::.ix (.ix V2 J1) J1::V3::N0))^K0) .skip^.ifs (.cmp .In V4 (.tup (.str "add"::.str "sub"::N0))) (.ret (.tup (.call 2 (V3::N0)::.call 2 (V3::N0)::N0))^K0) .skip^.ifs (.cmp .Eq V4 (.str "mul")) (.ret (.call 13 (.ix (.ix V2 J0) J0::.ix (.ix V2 J1) J0::V3::N0))^K0) .skip^.ifs (.cmp .In V4 (.con "SHIFTS" vN)) (.ret (.tup (.call 15 (V4::.ix V0 J1::.ix V0 J3::V3::N0)::N0))^K0) .skip^.ifs (.cmp .Eq V4 (.str "wide")) (.ret (.tup (.bin .BitAnd V3 (.call 0 (.ix V1 J0::N0))::N0))^K0) .skip^.ifs (.cmp .Eq V4 (.str "sign")) (.ret (.tup (.call 14 (V3::.ix V1 J0::N0)::N0))^K0) .skip^.ifs (.cmp .In V4 (.con "COMPARES" qC)) (.ret (.tup (.call 0 (.ix V1 J0::N0)::.call 0 (.ix V1 J1::N0)::N0))^K0) .skip^.ifs (.cmp .Eq V4 (.str "pick")) (.ret (.call 16 (.ix V2 J0::V3::N0))^K0) .skip^.ret (.bin .Mult (.tup (V3::N0)) (.blt .len (.call 7 (V0::N0)::N0)))^K0
def aEJ:Sx:=.ifs (.cmp .Eq V3 J0) (.ret (.bin .Mult (.tup (J0::N0)) (.blt .len (.call 7 (V0::N0)::N0)))^K0) .skip^.ret (.call 17 (V0::V1::V2::V3::N0))^K0
def aGu:E:=.comp (.call 10 (V0::V7::N0)) (.one 7) (.it (.call 7 (V4::N0))) .no
def aHd:Sx:=.set 4 (.ix (.ix V0 J0) V2)^.set 5 (.blt .tup (.fz aGu::N0))^.set 6 (.call 18 (V4::V5::.call 9 (V4::V1::N0)::V3::N0))^.ret (.fz (.lzip (.call 7 (V4::N0)) V6))^K0
def aAH:E:=.it (.call 19 (V0::V1::V4::.ix V2 V4::N0))
def aAD:Sx:=.put V2 V7 (.bin .BitOr (.ix V2 V7) V8)^K0
def aAE:E:=.rng3 (.bin .Sub (.blt .len (V5::N0)) J1) (.un .USub J1) (.un .USub J1)
def aDl:Sx:=.loop (.many [7,8]) aAH aAD^K0
def aDi:E:=.it V6
def aDk:Sx:=.put V2 V3 (.call 0 (.call 10 (V0::V3::N0)::N0))^K0
def gT:Sx:=.setT (.many [5,6]) V0^.set 2 (.new (.lrep (.fz (.lst (J0::N0))) (.blt .len (V5::N0))))^.loop (.one 3) aDi aDk^.loop (.one 4) aAE aDl^.ret (.blt .tup (V2::N0))^K0
def aHO:Sx:=.ret (.bin .BitXor (.call 0 (V1::N0)) (.call 0 (.bin .Sub V1 V0::N0)))^K0
def aGR:Sx:=.ret (.bin .BitOr (.ix V0 J0) (.ix V0 J1))^K0
def vX:Sx:=.setT (.many [3,4,5]) V0^.set 2 (.call 21 (V5::V1::N0))^.ifs (.cmp .NotEq (.bin .BitAnd V3 V2) J0) (.set 3 (.bin .BitOr V3 V2)^K0) .skip^.ifs (.cmp .NotEq (.bin .BitAnd V4 V2) J0) (.set 4 (.bin .BitOr V4 V2)^K0) .skip^.ret (.tup (V3::V4::.blt .mx (V5::.call 4 (V3::V1::N0)::.call 4 (V4::V1::N0)::N0)::N0))^K0
def aKK:Sx:=.ret (.ix V0 J1)^K0
def aHx:Sx:=.ret (.bin .BitXor (.call 0 (V1::N0)) (.ix V0 J0))^K0
def aP9:Sx:=.ifs (.cmp .Eq V0 (.str "add")) (.ret (.bin .Add V1 V2)^K0) .skip^.ifs (.cmp .Eq V0 (.str "sub")) (.ret (.bin .Sub V1 V2)^K0) .skip^.ret (.bin .Mult V1 V2)^K0
def aG9:Sx:=.set 3 (.call 0 (.call 3 (.bin .BitAnd (.call 22 (V1::N0)) (.call 22 (V2::N0))::N0)::N0))^.set 4 (.bin .BitAnd (.call 26 (V0::.call 24 (V1::N0)::.call 24 (V2::N0)::N0)) V3)^.ret (.tup (.bin .BitXor V3 V4::V4::N0))^K0
def aAm:Sx:=.ifs (.cmp .NotEq V0 (.str "mul")) (.ret J0^K0) .skip^.ret (.call 0 (.blt .mn (V1::.bin .Add (.call 3 (.ix V2 J0::N0)) (.call 3 (.ix V3 J0::N0))::N0)::N0))^K0
def aA9:Sx:=.ifs (.cmp .Eq V0 (.str "sub")) (.ret (.tup (.bin .Sub (.call 24 (V2::N0)) (.call 25 (V3::V1::N0))::.bin .Sub (.call 25 (V2::V1::N0)) (.call 24 (V3::N0))::N0))^K0) .skip^.set 4 (.call 26 (V0::.call 24 (V2::N0)::.call 24 (V3::N0)::N0))^.set 5 (.call 26 (V0::.call 25 (V2::V1::N0)::.call 25 (V3::V1::N0)::N0))^.ret (.tup (V4::V5::N0))^K0
def aAw:Sx:=.setT (.many [4,5]) (.call 29 (V0::V1::V2::V3::N0))^.ifs (.or (.cmp .Lt V4 J0) (.cmp .Gt V5 (.call 0 (V1::N0)))) (.ret (.tup (J0::J0::N0))^K0) .skip^.ret (.call 6 (V4::V5::V1::N0))^K0
def aAt:Sx:=.ifs (.cmp .Eq V0 (.str "mul")) (.ret J1^K0) .skip^.ret (.blt .mx (J1::.bin .Sub (.blt .mn (.ix V1 J2::.ix V2 J2::N0)) J1::N0))^K0
def aHo:Sx:=.set 4 (.call 27 (V0::V2::V3::N0))^.set 5 (.call 30 (V0::V1::V2::V3::N0))^.set 6 (.bin .BitOr (.bin .BitOr (.ix V4 J0) (.ix V5 J0)) (.call 28 (V0::V1::V2::V3::N0)))^.ret (.tup (V6::.bin .BitOr (.ix V4 J1) (.ix V5 J1)::.call 31 (V0::V2::V3::N0)::N0))^K0
def aHu:Sx:=.ret (.tup (.bin .BitXor (.call 0 (V0::N0)) V1::V1::J1::N0))^K0
def aGB:Sx:=.ret (.bin .BitOr (.bin .BitAnd (.ix V0 J0) (.ix V1 J1)) (.bin .BitAnd (.ix V0 J1) (.ix V1 J0)))^K0
def aAk:Sx:=.set 3 (.blt .mn (.ix V1 J2::.ix V2 J2::N0))^.ifs (.cmp .Eq V0 (.str "and")) (.ret (.tup (.bin .BitOr (.ix V1 J0) (.ix V2 J0)::.bin .BitAnd (.ix V1 J1) (.ix V2 J1)::V3::N0))^K0) .skip^.ifs (.cmp .Eq V0 (.str "or")) (.ret (.tup (.bin .BitAnd (.ix V1 J0) (.ix V2 J0)::.bin .BitOr (.ix V1 J1) (.ix V2 J1)::V3::N0))^K0) .skip^.set 4 (.bin .BitOr (.bin .BitAnd (.ix V1 J0) (.ix V2 J0)) (.bin .BitAnd (.ix V1 J1) (.ix V2 J1)))^.ret (.tup (V4::.call 34 (V1::V2::N0)::V3::N0))^K0
def aG7:Sx:=.set 3 (.bin .BitOr (.bin .LShift (.ix V1 J0) V2) (.call 0 (V2::N0)))^.ret (.tup (.bin .BitAnd V3 (.call 0 (V0::N0))::.bin .BitAnd (.bin .LShift (.ix V1 J1) V2) (.call 0 (V0::N0))::.blt .mx (J1::.bin .Sub (.ix V1 J2) V2::N0)::N0))^K0
def aC0:Sx:=.set 3 (.bin .BitOr (.bin .RShift (.ix V1 J0) V2) (.call 21 (.blt .mn (V2::V0::N0)::V0::N0)))^.ret (.tup (V3::.bin .RShift (.ix V1 J1) V2::.ite (.cmp .Eq V2 J0) (.ix V1 J2) J1::N0))^K0
def aGK:Sx:=.set 3 (.bin .Add V0 V2)^.ret (.tup (.bin .RShift (.call 5 (.ix V1 J0::V0::V3::N0)) V2::.bin .RShift (.call 5 (.ix V1 J1::V0::V3::N0)) V2::.blt .mn (V0::.bin .Add (.ix V1 J2) V2::N0)::N0))^K0
def aOy:Sx:=.ifs (.cmp .Eq V0 (.str "left")) (.ret (.call 36 (V1::V2::V3::N0))^K0) .skip^.ifs (.cmp .Eq V0 (.str "right")) (.ret (.call 37 (V1::V2::V3::N0))^K0) .skip^.ret (.call 38 (V1::V2::V3::N0))^K0
def vJ:Sx:=.setT (.many [4,5,6]) V3^.ifs (.cmp .Eq V0 (.str "cut")) (.ret (.tup (.bin .BitAnd V4 (.call 0 (V2::N0))::.bin .BitAnd V5 (.call 0 (V2::N0))::.blt .mx (J1::.bin .Sub V6 (.bin .Sub V1 V2)::N0)::N0))^K0) .skip^.ifs (.cmp .Eq V0 (.str "wide")) (.ret (.tup (.bin .BitOr V4 (.call 21 (.bin .Sub V2 V1::V2::N0))::V5::.ite (.cmp .Eq V2 V1) V6 J1::N0))^K0) .skip^.ret (.tup (.call 5 (V4::V1::V2::N0)::.call 5 (V5::V1::V2::N0)::.bin .Add V6 (.bin .Sub V2 V1)::N0))^K0
def aAy:Sx:=.ifs (.cmp .NotEq (.call 34 (V1::V2::N0)) J0) (.ret (.con "NOUGHT" vT)^K0) .skip^.ifs (.cmp .Eq (.bin .BitAnd (.call 22 (V1::N0)) (.call 22 (V2::N0))) (.call 0 (V0::N0))) (.ret (.con "ONE" xV)^K0) .skip^.ret (.con "NOTHING" sI)^K0
def aAC:Sx:=.ifs (.cmp .Lt (.call 25 (V1::V0::N0)) (.call 24 (V2::N0))) (.ret (.con "ONE" xV)^K0) .skip^.ifs (.cmp .GtE (.call 24 (V1::N0)) (.call 25 (V2::V0::N0))) (.ret (.con "NOUGHT" vT)^K0) .skip^.ret (.con "NOTHING" sI)^K0
def aGV:Sx:=.setT (.many [3,4,5]) V0^.set 2 (.bin .BitAnd (.bin .BitXor V3 V4) (.call 21 (J1::V1::N0)))^.ret (.tup (.bin .BitXor V3 V2::.bin .BitXor V4 V2::V5::N0))^K0
def aN4:Sx:=.ifs (.cmp .Eq V0 (.str "same")) (.ret (.call 41 (V1::V2::V3::N0))^K0) .skip^.ifs (.cmp .Eq V0 (.str "less")) (.ret (.call 42 (V1::V2::V3::N0))^K0) .skip^.ret (.call 42 (V1::.call 43 (V2::V1::N0)::.call 43 (V3::V1::N0)::N0))^K0
def aAA:Sx:=.ifs (.cmp .Eq (.ix V0 J1) J1) (.ret V1^K0) .skip^.ifs (.cmp .Eq (.ix V0 J0) J1) (.ret V2^K0) .skip^.ret (.tup (.bin .BitAnd (.ix V1 J0) (.ix V2 J0)::.bin .BitAnd (.ix V1 J1) (.ix V2 J1)::.blt .mn (.ix V1 J2::.ix V2 J2::N0)::N0))^K0
def aOG:Sx:=.set 3 (.ix V0 J0)^.set 4 (.ix V0 J1)^.ifs (.cmp .Eq V3 (.str "in")) (.ret (.con "NOTHING" sI)^K0) .skip^.ifs (.cmp .Eq V3 (.str "num")) (.ret (.call 33 (V4::.ix V0 J2::N0))^K0) .skip^.ifs (.cmp .Eq V3 (.str "not")) (.ret (.tup (.ix (.ix V2 J0) J1::.ix (.ix V2 J0) J0::.ix (.ix V2 J0) J2::N0))^K0) .skip^.ifs (.cmp .In V3 (.con "SUMS" aEG)) (.ret (.call 32 (V3::V4::.ix V2 J0::.ix V2 J1::N0))^K0) .skip^.ifs (.cmp .In V3 (.con "SHIFTS" vN)) (.ret (.call 39 (V3::V4::.ix V2 J0::.ix V0 J3::N0))^K0) .skip^.ifs (.cmp .In V3 (.con "COMPARES" qC)) (.ret (.call 44 (V3::.ix V1 J0::.ix V2 J0::.ix V2 J1::N0))^K0) .skip^.ifs (.cmp .Eq V3 (.str "pick")) (.ret (.call 45 (.ix V2 J0::.ix V2 J1::.ix V2 J2::N0))^K0) .skip^.ifs (.cmp .In V3 (.tup (.str "and"::.str "or"::.str "xor"::N0))) (.ret (.call 35 (V3::.ix V2 J0::.ix V2 J1::N0))^K0) .skip^.ret (.call 40 (V3::.ix V1 J0::V4::.ix V2 J0::N0))^K0
def aMn:Sx:=.ret (.call 23 (.call 46 (V0::V1::V2::N0)::.ix V0 J1::N0))^K0
def aAo:E:=.it (.ix V0 J0)
def aAl:Sx:=.expr (.app V2 (.call 47 (V3::.call 9 (V3::V1::N0)::.call 9 (V3::V2::N0)::N0)))^K0
def aHk:Sx:=.set 1 (.call 11 (V0::N0))^.set 2 (.new (.lst .nil))^.loop (.one 3) aAo aAl^.ret (.blt .tup (V2::N0))^K0
def sO:Sx:=.setT (.many [5,6]) V0^.set 4 (.bin .RShift V2 V6)^.ifs (.cmp .Eq V4 J0) (.ret (.bl true)^K0) .skip^.ifs (.cmp .Eq V5 (.str "nought")) (.ret (.cmp .Eq (.bin .BitAnd V4 (.un .Invert (.bin .RShift (.ix V1 J0) V6))) J0)^K0) .skip^.ret (.and (.cmp .Eq V5 (.str "sign")) (.and (.cmp .Eq (.bin .BitAnd (.bin .RShift V2 (.bin .Sub V6 J1)) J1) J1) (.cmp .LtE (.bin .Add (.bin .Sub V3 V6) J1) (.ix V1 J2))))^K0
def aGj:E:=.comp V4 (.one 4) (.rng2 J1 (.bin .Add V3 J1)) (.call 49 (.tup (V0::V4::N0)::V1::V2::V3::N0))
def aGF:Sx:=.ret (.blt .mn (.fz aGj::N0))^K0
def uX:E:=.comp (.call 50 (V5::V0::V1::V2::N0)) (.one 5) (.it (.con "WORDS" wI)) .no
def sG:Sx:=.setC false 3 uX^.set 4 (.blt .mn (V3::N0))^.ret (.tup (.ix (.con "WORDS" wI) (.idx V3 V4)::V4::N0))^K0
def aAL:Sx:=.ifs (.cmp .Eq (.ix V0 J0) (.str "in")) (.ret (.tup (.str "cut"::.ix V0 J1::N0))^K0) .skip^.ifs (.cmp .Eq V2 J0) (.ret .non^K0) .skip^.ret (.call 51 (V1::V2::.ix V0 J1::N0))^K0
def aGi:E:=.comp (.call 52 (V3::V4::V5::N0)) (.many [3,4,5]) (.zip3 (.ix V0 J0) V1 V2) .no
def aGA:Sx:=.ret (.blt .tup (.fz aGi::N0))^K0
def aKy:Sx:=.ret (.call 53 (V0::V1::V2::N0))^K0
def aLt:Sx:=.expr (.app (.fld V0 "rows") V1)^.ret (.bin .Sub (.blt .len (.fld V0 "rows"::N0)) J1)^K0
def aC9:Sx:=.ifs (.din true V1 (.fld V0 "once")) (.dput (.fld V0 "once") V1 (.mth "make" 55 V0 (V1::N0))^K0) .skip^.ret (.dget (.fld V0 "once") V1)^K0
def tJ:Sx:=.set 3 (.ix (.fld V0 "stays") V1)^.ifs (.cmp .Is V3 .non) (.ret (.mth "make_once" 56 V0 (.tpl (.str "num"::V2::J0::N0)::N0))^K0) .skip^.setT (.many [4,5]) V3^.ifs (.cmp .Eq V5 V2) (.ret (.ix (.fld V0 "places") V1)^K0) .skip^.ifs (.cmp .Gt V5 V2) (.ret (.mth "make_once" 56 V0 (.tpl (.str "cut"::V2::.ix (.fld V0 "places") V1::N0)::N0))^K0) .skip^.ret (.mth "make_once" 56 V0 (.tpl (.ite (.cmp .Eq V4 (.str "sign")) (.str "sign") (.str "wide")::V2::.ix (.fld V0 "places") V1::N0)::N0))^K0
def aCW:Sx:=.set 3 (.blt .mn (.ix V1 J1::.bin .Add V2 (.ix V1 J3)::N0))^.set 4 (.mth "fetch" 57 V0 (.ix V1 J2::V3::N0))^.set 5 (.mth "make" 55 V0 (.tup (.ix V1 J0::V3::V4::.ix V1 J3::N0)::N0))^.ifs (.cmp .Gt V3 V2) (.ret (.mth "make_once" 56 V0 (.tpl (.str "cut"::V2::V5::N0)::N0))^K0) .skip^.ret V5^K0
def aCI:Sx:=.set 3 (.call 10 (.fld V0 "program"::.ix V1 J2::N0))^.ifs (.cmp .LtE V2 V3) (.ret (.mth "fetch" 57 V0 (.ix V1 J2::V2::N0))^K0) .skip^.ret (.mth "make_once" 56 V0 (.tpl (.ix V1 J0::V2::.mth "fetch" 57 V0 (.ix V1 J2::V3::N0)::N0)::N0))^K0
def vA:Sx:=.set 4 (.blt .mx (.ix V1 J1::.ix V2 J1::N0))^.set 5 (.cou false (.ix V1 J0::.ix V2 J0::N0) (.str "sign"))^.ifs (.cmp .Eq V5 J1) (.ret V3^K0) .skip^.ifs (.and (.cmp .Eq V5 J0) (.cmp .Eq V0 (.str "under"))) (.ret (.blt .mn (V3::.bin .Add V4 J1::N0))^K0) .skip^.ret V4^K0
def aGg:E:=.comp (.mth "fetch" 57 V0 (V7::V3::N0)) (.one 7) (.it (.tup (V5::V6::N0))) .no
def aGy:Sx:=.setT (.many [5,6]) (.call 7 (V1::N0))^.set 2 (.call 10 (.fld V0 "program"::V5::N0))^.set 3 (.call 60 (.ix V1 J0::.ix (.fld V0 "stays") V5::.ix (.fld V0 "stays") V6::V2::N0))^.set 4 (.blt .tup (.fz aGg::N0))^.ret (.mth "make" 55 V0 (.bin .Add (.tup (.ix V1 J0::J1::N0)) V4::N0))^K0
def aGz:E:=.comp (.mth "fetch" 57 V0 (V4::V2::N0)) (.one 4) (.it (.call 7 (V1::N0))) .no
def aHe:Sx:=.setC false 3 aGz^.ret (.mth "make" 55 V0 (.call 8 (.bin .Add (.tup (.ix V1 J0::V2::N0)) (.sl V1 (J2::N0) .no)::.blt .tup (V3::N0)::N0)::N0))^K0
def aGs:E:=.comp (.mth "fetch" 57 V0 (V5::V2::N0)) (.one 5) (.it (.sl V1 (J3::N0) .no)) .no
def aG8:Sx:=.set 3 (.mth "fetch" 57 V0 (.ix V1 J2::J1::N0))^.set 4 (.blt .tup (.fz aGs::N0))^.ret (.mth "make" 55 V0 (.bin .Add (.tup (.str "pick"::V2::V3::N0)) V4::N0))^K0
def mV:Sx:=.set 3 (.ix V1 J0)^.ifs (.cmp .Eq V3 (.str "in")) (.ret (.mth "make" 55 V0 (V1::N0))^K0) .skip^.ifs (.cmp .Eq V3 (.str "num")) (.ret (.mth "make" 55 V0 (.tup (.str "num"::V2::.bin .BitAnd (.ix V1 J2) (.call 0 (V2::N0))::N0)::N0))^K0) .skip^.ifs (.cmp .In V3 (.tup (.str "right"::.str "slide"::N0))) (.ret (.call 58 (V0::V1::V2::N0))^K0) .skip^.ifs (.cmp .Eq V3 (.str "cut")) (.ret (.mth "fetch" 57 V0 (.ix V1 J2::V2::N0))^K0) .skip^.ifs (.cmp .In V3 (.con "WIDENINGS" aCY)) (.ret (.call 59 (V0::V1::V2::N0))^K0) .skip^.ifs (.cmp .In V3 (.con "COMPARES" qC)) (.ret (.call 61 (V0::V1::N0))^K0) .skip^.ifs (.cmp .Eq V3 (.str "pick")) (.ret (.call 63 (V0::V1::V2::N0))^K0) .skip^.ret (.call 62 (V0::V1::V2::N0))^K0
def aGY:E:=.comp (.mth "fetch" 57 V4 (V9::.call 10 (V0::V9::N0)::N0)) (.one 9) (.it (.ix V0 J1)) .no
def aCQ:E:=.zip (.ix V0 J0) V3
def vE:Sx:=.set 8 (.ite (.cmp .Is V7 .non) .non (.call 64 (V4::V6::.ix V7 J1::N0)))^.expr (.app (.fld V4 "places") V8)^K0
def aIH:Sx:=.set 4 (.mk cl_ini 3 (V0::V3::N0))^.loop (.many [6,7]) aCQ vE^.set 5 (.blt .tup (.fz aGY::N0))^.ret (.tup (.blt .tup (.fld V4 "rows"::N0)::V5::N0))^K0
def aHW:Sx:=.set 1 (.call 48 (V0::N0))^.set 2 (.call 20 (V0::V1::N0))^.set 3 (.call 53 (V0::V1::V2::N0))^.ret (.tup (.call 65 (V0::V1::V2::V3::N0)::V3::N0))^K0
def jL:Sx:=.setT (.many [3,4]) (.sl V0 .no (J2::N0))^.put V0 J1 (.bin .Add V4 J1)^.ifs (.and (.cmp .Lt (.bin .Add (.bin .FloorDiv V4 (.int 12)) J1) (.blt .len (V3::N0))) (.cmp .Eq (.bin .Mod (.ix V3 J0) J2) J1)) (.ifs (.cmp .Eq (.bin .Mod V4 (.int 12)) J0) (.put V0 J2 (.ix V3 (.bin .Add (.bin .FloorDiv V4 (.int 12)) J1))^K0) .skip^.set 5 (.bin .Mod (.ix V0 J2) V1)^.put V0 J2 (.bin .FloorDiv (.ix V0 J2) V1)^.ret V5^K0) .skip^.ifs (.cmp .Lt V4 (.blt .len (V3::N0))) (.ret (.bin .Mod (.ix V3 V4) V1)^K0) .skip^.set 2 (.bin .Add (.bin .Mult V4 (.int 7919)) J5)^.ifs (.cmp .Gt (.blt .len (.ix V0 J0::N0)) J0) (.set 2 (.bin .Add V2 (.bin .Mult (.ix (.ix V0 J0) (.bin .Mod (.bin .Mult V4 J7) (.blt .len (.ix V0 J0::N0)))) (.bin .Add (.int 48271) V4)))^K0) .skip^.set 2 (.bin .Mod (.bin .Mult (.bin .Mod V2 (.int 2147483629)) (.bin .Add V4 J3)) (.int 2147483629))^.set 2 (.bin .Mod (.bin .Mult V2 V2) (.int 2147483587))^.ret (.bin .Mod (.bin .Mod (.bin .Mult V2 V2) (.int 1999999973)) V1)^K0
def aCM:Sx:=.ifs (.cmp .Lt V1 (.int 31)) (.ret (.call 67 (V0::.bin .LShift J1 V1::N0))^K0) .skip^.ret (.bin .Add (.call 67 (V0::.bin .LShift J1 (.int 30)::N0)) (.bin .LShift (.call 67 (V0::.bin .LShift J1 (.bin .Sub V1 (.int 30))::N0)) (.int 30)))^K0
def aGX:Sx:=.ret (.ix (.fz (.lst (J1::.int 64::.bin .Add J1 (.call 67 (V0::J8::N0))::.bin .Add J1 (.call 67 (V0::.int 64::N0))::N0))) (.call 67 (V0::J4::N0)))^K0
def aDg:Sx:=.set 2 (.call 67 (V0::J5::N0))^.set 3 (.fz (.lst (J0::.bin .Sub (.bin .LShift J1 V1) J1::.bin .LShift J1 (.call 67 (V0::V1::N0))::.bin .Sub (.bin .LShift J1 (.call 67 (V0::V1::N0))) J1::N0)))^.ifs (.cmp .Lt V2 J4) (.ret (.ix V3 V2)^K0) .skip^.ret (.call 68 (V0::V1::N0))^K0
def vK:Sx:=.ifs (.cmp .Eq (.ix (.ix V1 V2) J1) V3) (.ret V2^K0) .skip^.set 4 (.ix (.fz (.lst (.str "wide"::.str "sign"::N0))) (.call 67 (V0::J2::N0)))^.ifs (.cmp .Gt (.ix (.ix V1 V2) J1) V3) (.set 4 (.str "cut")^K0) .skip^.expr (.app V1 (.tup (V4::V3::V2::N0)))^.ret (.bin .Sub (.blt .len (V1::N0)) J1)^K0
def aNT:E:=.comp V4 (.one 4) (.rng1 (.blt .len (V1::N0))) (.cmp .Eq (.ix (.ix V1 V4) J1) V2)
def vB:Sx:=.setC false 3 aNT^.ifs (.and (.cmp .NotEq V3 (.fz (.lst .nil))) (.cmp .Gt (.call 67 (V0::J4::N0)) J0)) (.ret (.ix V3 (.bin .Sub (.bin .Sub (.blt .len (V3::N0)) J1) (.call 67 (V0::.blt .len (V3::N0)::N0))))^K0) .skip^.ret (.call 71 (V0::V1::.call 67 (V0::.blt .len (V1::N0)::N0)::V2::N0))^K0
def aCB:Sx:=.set 3 (.call 67 (V0::.blt .len (V1::N0)::N0))^.set 4 (.ix (.ix V1 V3) J1)^.ifs (.cmp .Eq V2 (.str "cut")) (.ret (.tup (.str "cut"::.bin .Add J1 (.call 67 (V0::V4::N0))::V3::N0))^K0) .skip^.ret (.tup (V2::.bin .Add V4 (.call 67 (V0::.bin .Sub (.int 65) V4::N0))::V3::N0))^K0
def aCZ:Sx:=.set 4 (.ix (.fz (.lst (.call 67 (V0::V3::N0)::.call 67 (V0::.int 64::N0)::N0))) (.bin .FloorDiv (.call 67 (V0::J4::N0)) J3))^.ret (.tup (V2::V3::.call 72 (V0::V1::V3::N0)::V4::N0))^K0
def aDc:Sx:=.set 4 (.call 72 (V0::V1::V3::N0))^.set 5 (.call 72 (V0::V1::V3::N0))^.ifs (.cmp .In V2 (.tup (.str "same"::.str "less"::.str "under"::N0))) (.set 3 J1^K0) .skip^.ret (.tup (V2::V3::V4::V5::N0))^K0
def kQ:Sx:=.set 2 (.fz (.lst (.str "in"::.str "num"::.str "num"::.str "not"::.str "and"::.str "or"::.str "xor"::.str "add"::.str "sub"::.str "mul"::.str "left"::.str "right"::.str "slide"::.str "cut"::N0)))^.set 2 (.bin .Add V2 (.fz (.lst (.str "wide"::.str "sign"::.str "same"::.str "less"::.str "under"::.str "pick"::N0))))^.set 3 (.ix V2 (.call 67 (V0::.int 20::N0)))^.set 4 (.ix (.ix V1 (.call 67 (V0::.blt .len (V1::N0)::N0))) J1)^.ifs (.cmp .Eq (.call 67 (V0::J4::N0)) J1) (.set 4 (.call 69 (V0::N0))^K0) .skip^.ifs (.cmp .Eq V3 (.str "in")) (.set 5 (.tup (.str "in"::V4::N0))^K0) (.ifs (.cmp .Eq V3 (.str "num")) (.set 5 (.tup (.str "num"::V4::.call 70 (V0::V4::N0)::N0))^K0) (.ifs (.cmp .Eq V3 (.str "not")) (.set 5 (.tup (.str "not"::V4::.call 72 (V0::V1::V4::N0)::N0))^K0) (.ifs (.cmp .In V3 (.tup (.str "left"::.str "right"::.str "slide"::N0))) (.set 5 (.call 74 (V0::V1::V3::V4::N0))^K0) (.ifs (.cmp .In V3 (.tup (.str "cut"::.str "wide"::.str "sign"::N0))) (.set 5 (.call 73 (V0::V1::V3::N0))^K0) (.ifs (.cmp .Eq V3 (.str "pick")) (.set 6 (.call 72 (V0::V1::J1::N0))^.set 5 (.bin .Add (.tup (.str "pick"::V4::V6::N0)) (.sl (.call 75 (V0::V1::V3::V4::N0)) (J2::N0) .no))^K0) (.set 5 (.call 75 (V0::V1::V3::V4::N0))^K0)^K0)^K0)^K0)^K0)^K0)^.expr (.app V1 V5)^K0
def aCE:E:=.rng1 (.ix (.fz (.lst (.call 67 (V0::J3::N0)::J7::N0))) (.blt .int (.cmp .Eq (.call 67 (V0::J8::N0)) J1::N0)))
def aCD:Sx:=.expr (.app V6 (.call 67 (V0::.blt .len (V3::N0)::N0)))^K0
def aAd:E:=.rng1 V1
def aAc:Sx:=.ifs (.cmp .Lt (.blt .len (V3::N0)) (.int 37)) (.expr (.call 76 (V0::V3::N0))^K0) .skip^K0
def iE:Sx:=.set 2 (.call 69 (V0::N0))^.set 3 (.new (.lst (.tup (.str "in"::V2::N0)::N0)))^.ifs (.cmp .Eq (.call 67 (V0::J8::N0)) J1) (.set 3 (.new (.lst (.tup (.str "num"::V2::.call 70 (V0::V2::N0)::N0)::N0)))^K0) .skip^.loop (.one 4) aAd aAc^.set 5 (.fz (.lst (.bin .Sub (.blt .len (V3::N0)) J1::.call 67 (V0::.blt .len (V3::N0)::N0)::N0)))^.set 6 (.new (.lst (.ix V5 (.blt .int (.cmp .Eq (.call 67 (V0::J4::N0)) J1::N0))::N0)))^.loop (.one 4) aCE aCD^.ret (.tup (.blt .tup (V3::N0)::.blt .tup (V6::N0)::N0))^K0
def aCL:Sx:=.ifs (.cmp .Gt (.call 67 (V0::J3::N0)) J0) (.ret V1^K0) .skip^.set 3 (.bin .BitOr (.call 68 (V0::V2::N0)) (.call 68 (V0::V2::N0)))^.ret (.tup (.bin .BitAnd (.ix V1 J0) V3::.bin .BitAnd (.ix V1 J1) V3::.bin .Add J1 (.call 67 (V0::.ix V1 J2::N0))::N0))^K0
def aGp:E:=.comp (.ix (.ix (.ix V1 J0) V6) J1) (.one 6) (.it (.call 7 (V3::N0))) .no
def aGl:E:=.comp (.ix V2 V6) (.one 6) (.it (.call 7 (V3::N0))) .no
def aAi:E:=.it (.ix V1 J0)
def aAe:Sx:=.setC false 4 aGl^.setC false 5 aGp^.expr (.app V2 (.call 78 (V0::.call 47 (V3::.blt .tup (V5::N0)::.blt .tup (V4::N0)::N0)::.ix V3 J1::N0)))^K0
def aC1:Sx:=.ifs (.cmp .Eq (.call 67 (V0::J2::N0)) J1) (.ret (.call 48 (V1::N0))^K0) .skip^.set 2 (.new (.lst .nil))^.loop (.one 3) aAi aAe^.ret (.blt .tup (V2::N0))^K0
def aCG:E:=.comp (.ix V2 (.var 11)) (.one 11) (.it V7) .no
def uZ:E:=.zip V7 (.call 18 (V6::V8::.blt .tup (.fz aCG::N0)::.ix V3 V4::N0))
def uY:Sx:=.put V3 V9 (.bin .BitOr (.ix V3 V9) (.var 10))^K0
def aCF:E:=.comp (.ix (.ix (.ix V1 J0) V9) J1) (.one 9) (.it V7) .no
def aAf:E:=.rng1 (.blt .len (V3::N0))
def gC:Sx:=.set 4 (.bin .Sub (.bin .Sub (.blt .len (V3::N0)) J1) V5)^.set 6 (.ix (.ix V1 J0) V4)^.ifs (.cmp .Eq (.call 67 (V0::J8::N0)) J1) (.put V3 V4 (.bin .BitOr (.ix V3 V4) (.bin .LShift J1 (.call 67 (V0::.ix V6 J1::N0))))^K0) .skip^.set 7 (.call 7 (V6::N0))^.set 8 (.blt .tup (.fz aCF::N0))^.loop (.many [9,10]) uZ uY^K0
def aAh:E:=.it (.ix V1 J1)
def aAg:Sx:=.put V3 V4 (.bin .Sub (.bin .LShift J1 (.ix (.ix (.ix V1 J0) V4) J1)) J1)^K0
def aGo:E:=.comp J0 (.one 6) (.it (.ix V1 J0)) .no
def aCS:Sx:=.ifs (.cmp .Eq (.call 67 (V0::J2::N0)) J1) (.ret (.call 20 (V1::V2::N0))^K0) .skip^.setC true 3 aGo^.loop (.one 4) aAh aAg^.loop (.one 5) aAf gC^.ret (.blt .tup (V3::N0))^K0
def dQ:Sx:=.ifs (.or (.cmp .Eq (.ix V1 J0) (.str "in")) (.or (.cmp .Is V4 .non) (.cmp .Eq (.call 67 (V0::J2::N0)) J1))) (.ret V4^K0) .skip^.set 5 (.ix (.fz (.lst (.str "cut"::.str "nought"::.str "sign"::N0))) (.call 67 (V0::J3::N0)))^.set 6 (.blt .mn (.ix V1 J1::.bin .Add (.ix V4 J1) (.call 67 (V0::J4::N0))::N0))^.ifs (.cmp .Eq (.call 67 (V0::J4::N0)) J1) (.set 6 (.bin .Add J1 (.call 67 (V0::.ix V1 J1::N0)))^K0) .skip^.ifs (.call 49 (.tup (V5::V6::N0)::V2::V3::.ix V1 J1::N0)) (.ret (.tup (V5::V6::N0))^K0) .skip^.ret V4^K0
def aCH:E:=.rng1 (.blt .len (V4::N0))
def aGm:Sx:=.expr (.app V5 (.call 81 (V0::.ix (.ix V1 J0) V6::.ix V2 V6::.ix V3 V6::.ix V4 V6::N0)))^K0
def aGP:Sx:=.set 4 (.call 54 (V1::V2::V3::N0))^.set 5 (.new (.lst .nil))^.loop (.one 6) aCH aGm^.ret (.blt .tup (V5::N0))^K0
def aG4:Sx:=.expr (.app (.tix V0 0) V1)^.ret (.bin .Sub (.blt .len (.tix V0 0::N0)) J1)^K0
def aC6:Sx:=.ifs (.din true V1 (.tix V0 1)) (.dput (.tix V0 1) V1 (.call 83 (V0::V1::N0))^K0) .skip^.ret (.dget (.tix V0 1) V1)^K0
def aAP:Sx:=.ifs (.cmp .Eq (.ix (.ix (.tix V0 0) V1) J1) V3) (.ret V1^K0) .skip^.ifs (.cmp .Gt (.ix (.ix (.tix V0 0) V1) J1) V3) (.set 2 (.str "cut")^K0) .skip^.ret (.call 84 (V0::.tpl (V2::V3::V1::N0)::N0))^K0
def aAj:Sx:=.set 3 (.ix (.tix V0 3) V1)^.ifs (.cmp .Is V3 .non) (.ret (.call 84 (V0::.tpl (.str "num"::V2::J0::N0)::N0))^K0) .skip^.ret (.call 85 (V0::.ix (.tix V0 2) V1::.ix (.fz (.lst (.str "wide"::.str "sign"::N0))) (.blt .int (.cmp .Eq (.ix V3 J0) (.str "sign")::N0))::V2::N0))^K0
def vC:Sx:=.set 4 (.cou true (.ix V2 J0::.ix V3 J0::N0) (.str "sign"))^.ifs (.cmp .Eq V4 J1) (.ret V1^K0) .skip^.set 5 (.blt .mx (.ix V2 J1::.ix V3 J1::N0))^.ifs (.and (.cmp .Eq V4 J0) (.cmp .Eq V0 (.str "under"))) (.ret (.blt .mn (V1::.bin .Add V5 J1::N0))^K0) .skip^.ret V5^K0
def aGq:E:=.comp (.call 86 (V0::V9::V8::N0)) (.many [9,8]) (.zip (.sl V2 (J2::N0) .no) V6) .no
def aGr:E:=.comp (.call 86 (V0::V9::V5::N0)) (.one 9) (.it (.sl V2 (J2::N0) .no)) .no
def aGx:E:=.comp (.bin .Mod (.var 10) (.bin .LShift J1 V3)) (.one 10) (.it (.sl V2 (J2::N0) .no)) .no
def lW:Sx:=.set 4 (.ix V2 J0)^.ifs (.cmp .In V4 (.tup (.str "in"::.str "num"::N0))) (.ret (.call 83 (V0::.bin .Add (.tup (V4::V3::N0)) (.blt .tup (.fz aGx::N0))::N0))^K0) .skip^.set 5 (.ix (.ix (.ix V1 J0) (.ix V2 J2)) J1)^.ifs (.cmp .In V4 (.tup (.str "right"::.str "slide"::N0))) (.set 8 (.blt .mn (.ix V2 J1::.bin .Add V3 (.ix V2 J3)::N0))^.set 9 (.call 86 (V0::.ix V2 J2::V8::N0))^.ret (.call 85 (V0::.call 83 (V0::.tup (V4::V8::V9::.ix V2 J3::N0)::N0)::.str "cut"::V3::N0))^K0) .skip^.ifs (.cmp .In V4 (.tup (.str "cut"::.str "wide"::.str "sign"::N0))) (.set 9 (.call 86 (V0::.ix V2 J2::.blt .mn (V3::V5::N0)::N0))^.ret (.call 85 (V0::V9::V4::V3::N0))^K0) .skip^.ifs (.cmp .In V4 (.tup (.str "same"::.str "less"::.str "under"::N0))) (.set 5 (.call 87 (V4::V5::.ix (.tix V0 3) (.ix V2 J2)::.ix (.tix V0 3) (.ix V2 J3)::N0))^.setC false 7 aGr^.ret (.call 83 (V0::.bin .Add (.tup (V4::J1::N0)) (.blt .tup (V7::N0))::N0))^K0) .skip^.ifs (.cmp .Eq V4 (.str "left")) (.ret (.call 83 (V0::.tup (.str "left"::V3::.call 86 (V0::.ix V2 J2::V3::N0)::.ix V2 J3::N0)::N0))^K0) .skip^.set 6 (.new (.lrep (.fz (.lst (V3::N0))) J3))^.ifs (.cmp .Eq V4 (.str "pick")) (.put V6 J0 J1^K0) .skip^.frs 6 (.setC false 7 aGq)^.ret (.call 83 (V0::.bin .Add (.tup (V4::V3::N0)) (.blt .tup (V7::N0))::N0))^K0
def aGf:E:=.comp (.call 86 (V2::V6::.ix (.ix (.ix V0 J0) V6) J1::N0)) (.one 6) (.it (.ix V0 J1)) .no
def aCC:E:=.zip (.ix V0 J0) V1
def uW:Sx:=.set 6 .non^.ifs (.cmp .IsNot V5 .non) (.set 6 (.call 88 (V2::V0::V4::.ix V5 J1::N0))^K0) .skip^.expr (.app (.tix V2 2) V6)^K0
def aCK:Sx:=.set 2 (.tpl (.new (.lst .nil)::.dnew::.new (.lst .nil)::V1::N0))^.loop (.many [4,5]) aCC uW^.set 3 (.blt .tup (.fz aGf::N0))^.ret (.tpl (.tup (.blt .tup (.tix V2 0::N0)::V3::N0)::.tix V2 2::N0))^K0
def lE:Sx:=.set 1 (.new (.lst (V0::J0::J0::N0)))^.set 2 (.call 77 (V1::.bin .Add J1 (.blt .mn (.blt .len (V0::N0)::.int 24::N0))::N0))^.set 3 (.call 79 (V1::V2::N0))^.set 4 (.call 80 (V1::V2::V3::N0))^.set 5 (.call 82 (V1::V2::V3::V4::N0))^.set 6 (.tix (.call 89 (V2::V5::N0)) 0)^.ifs (.cmp .NotEq (.call 65 (V2::V3::V4::V5::N0)) V6) (.ret (.bl false)^K0) .skip^.set 7 (.call 48 (V2::N0))^.set 8 (.call 54 (V2::V7::.call 20 (V2::V7::N0)::N0))^.set 9 (.call 66 (V2::N0))^.ifs (.or (.not (.isi V9 .tup)) (.cmp .NotEq V9 (.tup (.tix (.call 89 (V2::V8::N0)) 0::V8::N0)))) (.ret (.bl false)^K0) .skip^.ifs (.or (.not (.isi (.ix (.ix V9 J0) J0) .tup)) (.not (.isi (.ix (.ix V9 J0) J1) .tup))) (.ret (.bl false)^K0) .skip^.ret (.cmp .Eq (.call 65 (V2::V3::V4::V5::N0)) V6)^K0
end
abbrev Fq(a:Str)(b:Nat)(c:List Str)(d:Sx)(e:Stmt):Fn:=⟨a,b,c,d,e,false,a⟩
def fns:List Fn:=[
 Fq "full" 1 ["width"] aMd (top 1),
 Fq "reach" 1 ["number"] aLl (top 2),
 Fq "below" 1 ["number"] aK2 (top 3),
 Fq "low_run" 1 ["number"] aIE (top 4),
 Fq "top_run" 2 ["number","width"] aIh (top 5),
 Fq "stretched" 3 ["number","width","wider","top"] aC4 (top 6),
 Fq "shared_top" 3 ["least","greatest","width","known","ones"] aGL (top 7),
 Fq "operands" 1 ["row"] aPl (top 14),
 Fq "with_operands" 2 ["row","numbers"] aGk (top 15),
 Fq "of_operands" 2 ["row","values","k"] aGE (top 16),
 Fq "width_of" 2 ["program","k","rows"] aHE (top 17),
 Fq "widths_of" 1 ["program","row"] aHb (top 18),
 Fq "settled_need" 3 ["first","second","mask"] aGw (top 20),
 Fq "mul_need" 3 ["first","second","mask","h","u","g"] aHT (top 21),
 Fq "folded" 2 ["mask","width"] aDO (top 22),
 Fq "shift_need" 4 ["word","width","k","mask"] aAp (top 23),
 Fq "pick_need" 2 ["choice","mask"] aAv (top 24),
 Fq "asking_need" 4 ["row","widths","facts","mask","word"] aGC (top 25),
 Fq "need" 4 ["row","widths","facts","mask"] aEJ (top 26),
 Fq "row_needs" 4 ["program","facts","k","mask","row","widths","needs","operand"] aHd (top 28),
 Fq "asked" 2 ["program","facts","masks","out","k","rows","outs","operand","mask"] gT (top 29),
 Fq "top_mask" 2 ["count","width"] aHO (top 31),
 Fq "known_bits" 1 ["fact"] aGR (top 32),
 Fq "closed" 2 ["fact","width","top","noughts","ones","alike"] vX (top 33),
 Fq "least" 1 ["fact"] aKK (top 34),
 Fq "greatest" 2 ["fact","width"] aHx (top 35),
 Fq "outcome" 3 ["word","one","other"] aP9 (top 37),
 Fq "low_masks" 3 ["word","one","other","low","ones"] aG9 (top 38),
 Fq "low_noughts" 4 ["word","width","one","other"] aAm (top 39),
 Fq "bounds" 4 ["word","width","one","other","lowest","highest"] aA9 (top 40),
 Fq "top_masks" 4 ["word","width","one","other","lowest","highest"] aAw (top 41),
 Fq "sum_alike" 3 ["word","one","other"] aAt (top 42),
 Fq "sum_fact" 4 ["word","width","one","other","low","top","noughts"] aHo (top 43),
 Fq "num_fact" 2 ["width","number"] aHu (top 48),
 Fq "unlike_bits" 2 ["one","other"] aGB (top 49),
 Fq "bitwise_fact" 3 ["word","one","other","alike","noughts"] aAk (top 50),
 Fq "left_fact" 3 ["width","fact","k","noughts"] aG7 (top 51),
 Fq "right_fact" 3 ["width","fact","k","noughts"] aC0 (top 52),
 Fq "slide_fact" 3 ["width","fact","k","wider"] aGK (top 53),
 Fq "shift_fact" 4 ["word","width","fact","k"] aOy (top 54),
 Fq "fit_fact" 4 ["word","v","w","fact","noughts","ones","alike"] vJ (top 55),
 Fq "same_fact" 3 ["width","one","other"] aAy (top 56),
 Fq "less_fact" 3 ["width","one","other"] aAC (top 57),
 Fq "top_turned" 2 ["fact","width","turning","noughts","ones","alike"] aGV (top 58),
 Fq "compare_fact" 4 ["word","width","one","other"] aN4 (top 59),
 Fq "pick_fact" 3 ["choice","one","other"] aAA (top 60),
 Fq "open_fact" 3 ["row","widths","facts","word","width"] aOG (top 61),
 Fq "rule" 3 ["row","widths","facts"] aMn (top 62),
 Fq "facts_of" 1 ["program","widths","facts","row"] aHk (top 63),
 Fq "lets_by" 4 ["stay","fact","mask","width","above","word","kept"] sO (top 66),
 Fq "least_width" 4 ["word","fact","mask","width","kept"] aGF (top 67),
 Fq "least_stay" 3 ["fact","mask","width","widths","kept","word"] sG (top 68),
 Fq "row_stay" 3 ["row","fact","mask"] aAL (top 69),
 Fq "least_stays" 3 ["program","facts","masks","row","fact","mask"] aGA (top 70),
 Fq "stays" 3 ["program","facts","masks"] aKy (top 71),
 {name:="make",np:=2,N:=["self","row"],body:=aLt,st:=aBW (top 73) 1,me:=true,qual:="Maker.make" },
 {name:="make_once",np:=2,N:=["self","row"],body:=aC9,st:=aBW (top 73) 2,me:=true,qual:="Maker.make_once" },
 {name:="fetch",np:=3,N:=["self","k","width","stay","word","kept"],body:=tJ,st:=aBW (top 73) 3,me:=true,qual:="Maker.fetch" },
 Fq "make_shift" 3 ["maker","row","width","wider","fetched","made"] aCW (top 74),
 Fq "make_widening" 3 ["maker","row","width","old"] aCI (top 75),
 Fq "compare_width" 4 ["word","one","other","old","greater","signs"] vA (top 76),
 Fq "make_compare" 2 ["maker","row","old","width","fetched","one","other","k"] aGy (top 77),
 Fq "make_work" 3 ["maker","row","width","fetched","k"] aHe (top 78),
 Fq "make_pick" 3 ["maker","row","width","choice","sides","k"] aG8 (top 79),
 Fq "make_row" 3 ["maker","row","width","word"] mV (top 80),
 Fq "made_by" 4 ["program","facts","masks","stays","maker","outs","row","stay","place","out"] aIH (top 81),
 Fq "narrowed" 1 ["program","facts","masks","found"] aHW (top 82),
 Fq "_law_draw" 2 ["_law_state","_law_many","_law_cell","_law_script","_law_k","_law_digit"] jL (top 84),
 Fq "_law_number" 2 ["_law_state","_law_width_here"] aCM (top 85),
 Fq "_law_width" 1 ["_law_state"] aGX (top 86),
 Fq "_law_num" 2 ["_law_state","_law_width_here","_law_sort","_law_some"] aDg (top 87),
 Fq "_law_fit" 4 ["_law_state","_law_rows","_law_a","_law_width_here","_law_word"] vK (top 88),
 Fq "_law_operand" 3 ["_law_state","_law_rows","_law_width_here","_law_some","_law_k"] vB (top 89),
 Fq "_law_turned_width" 3 ["_law_state","_law_rows","_law_word","_law_a","_law_width_here"] aCB (top 90),
 Fq "_law_shift" 4 ["_law_state","_law_rows","_law_word","_law_width_here","_law_k"] aCZ (top 91),
 Fq "_law_pair" 4 ["_law_state","_law_rows","_law_word","_law_width_here","_law_a","_law_b"] aDc (top 92),
 Fq "_law_row" 2 ["_law_state","_law_rows","_law_some","_law_word","_law_width_here","_law_row_here","_law_c"] kQ (top 93),
 Fq "_law_program" 2 ["_law_state","_law_most","_law_width_here","_law_rows","_law_k","_law_last","_law_outs"] iE (top 94),
 Fq "_law_weaker" 3 ["_law_state","_law_fact","_law_width_here","_law_left"] aCL (top 95),
 Fq "_law_facts" 2 ["_law_state","_law_program_here","_law_facts_here","_law_row_here","_law_ahead","_law_widths","_law_k"] aC1 (top 96),
 Fq "_law_masks" 3 ["_law_state","_law_program_here","_law_facts_here","_law_masks_here","_law_k","_law_back","_law_row_here","_law_ahead","_law_widths","_law_one","_law_more","_law_j"] aCS (top 97),
 Fq "_law_some_stay" 5 ["_law_state","_law_row_here","_law_fact","_law_mask","_law_stay","_law_word","_law_kept_here"] dQ (top 98),
 Fq "_law_stays" 4 ["_law_state","_law_program_here","_law_facts_here","_law_masks_here","_law_found","_law_some","_law_k"] aGP (top 99),
 Fq "_law_made" 2 ["_law_maker","_law_row_here"] aG4 (top 100),
 Fq "_law_once" 2 ["_law_maker","_law_row_here"] aC6 (top 101),
 Fq "_law_at" 4 ["_law_maker","_law_k","_law_word","_law_width_here"] aAP (top 102),
 Fq "_law_fetched" 3 ["_law_maker","_law_old","_law_width_here","_law_stay"] aAj (top 103),
 Fq "_law_common" 4 ["_law_word","_law_width_here","_law_one","_law_other","_law_signs","_law_wider"] vC (top 104),
 Fq "_law_kept" 4 ["_law_maker","_law_program_here","_law_row_here","_law_kept_here","_law_word","_law_width_here","_law_widths","_law_some","_law_wanted","_law_k","_law_n"] lW (top 105),
 Fq "_law_by_hand" 2 ["_law_program_here","_law_some","_law_maker","_law_outs","_law_row_here","_law_stay","_law_k"] aCK (top 106),
 Fq "law" 1 ["_law_script","_law_state","_law_program_here","_law_facts_here","_law_masks_here","_law_some","_law_due","_law_own_facts","_law_own","_law_found"] lE (top 107)]
def aJ(ns:List Int)(k:Nat)(x:Int):List D:=[.list (ns.map yAn),.int k,.int x]
def aRJ{α:Type}{S:List α}{a v:α}(h:S[n]?=qz a):(S.set n v)[n]?=qz v:=yAr (gIm h).1
def aDj{α:Type}(S:List α)(n:Nat)(v:α):(S.set n v).take ↑S=S.set n v:=by rw[yCh];rw[yBa];exact yAb _
def aLo(a b c:D):aH (.list [a,b,c]) (.int 0)=qz a:=rfl
def aKw(a b c:D):aH (.list [a,b,c]) (.int 2)=qz c:=rfl
def aZn(a b c:D):dY [a,b,c] qx (qz 2)=[a,b]:=rfl
def sX{ns:List Int}(h:k<↑ns):aH (.list (ns.map yAn)) (.int k)=qz (.int ns[k]):=mI (by rw[yAd,yAa h];rfl)
def cs1(h:b<a):((a:Nat):Int)-1-(b:Int)=((a-1-b:Nat):Int):=()
def wD(i:Int){w:Nat}(hw:0<w):∃ r:Nat,i%(w:Int)=(r:Int)/\r<w:=by have h0:=Int.emod_nonneg i (show(w:Int)≠0 by omega);have h1:=yHb i (show(0:Int)<(w:Int) by omega);exact⟨(i%(w:Int)).toNat,by omega,by omega⟩
def aXc:jH 3 1=qz 1:=rfl
def aMz:jH 3 2=qz 2:=rfl
def qH(ns:List Int):↑(ns.map yAn)=↑ns:=yAc ..
def sL:Sx:=match jL with|.seq _ (.seq _ (.seq _ r))=>r|_=>.skip
def sK(i p:Int)(hp:0<p)(hp2:p<=2147483647) : -(2^64)<i%p/\i%p<2^64:=by have h0:=Int.emod_nonneg i (show p≠0 by omega);have h1:=yHb i hp;exact⟨by omega,by omega⟩
def aPD(C:Calls)(n k m:Nat)(ns:List Int)(x:Int)(S:aC)(e2 e5:Option W)(hS:S[n]?=qz (qz (aJ ns (k+1) x)))(hm:0<m)(hk:k<=100000) :
 ∃ r:Nat,r<m/\xs C sL [#[n],(m:),e2,qz (.d (.list (ns.map yAn))),(k:),e5] S=qz (.rt (.d (.int r)),S):=by
 unfold aJ at hS;have hm':(0:Int)<(m:Int):=();by_cases c1:k<↑ns
 ·have d1:decide ((k:Int)<((↑ns:Nat):Int))=true:=dqT ();let(r,er,hr):=wD ns[k] hm;refine⟨r,hr,?_⟩;erw[2,sL,jL,dR,dU,qH,fO,d1,sX c1,fS hm',er]
 ·have d1:decide ((k:Int)<((↑ns:Nat):Int))=false:=dqF ();have bZ:∀ c:Int,∃ r:Nat,r<m/\c%2147483629*((k:Int)+3)%2147483629*(c%2147483629*((k:Int)+3)%2147483629)%2147483587*(c%2147483629*((k:Int)+3)%2147483629*(c%2147483629*((k:Int)+3)%2147483629)%2147483587)%1999999973%(m:Int)=(r:Int):=λ c=>by
   let(r,er,hr):=wD (c%2147483629*((k:Int)+3)%2147483629*(c%2147483629*((k:Int)+3)%2147483629)%2147483587*(c%2147483629*((k:Int)+3)%2147483629*(c%2147483629*((k:Int)+3)%2147483629)%2147483587)%1999999973) hm;exact⟨r,hr,er⟩
  by_cases c2:0<↑ns
  ·have d2:decide ((0:Int)<((↑ns:Nat):Int))=true:=dqT ();let(q,eq,hq):=wD ((k:Int)*7) c2;let(r,hr,er):=bZ ((k:Int)*7919+5+ns[q]*(48271+(k:Int)));refine⟨r,hr,?_⟩;have s1:=sK ((k:Int)*7919+5+ns[q]*(48271+(k:Int))) 2147483629 (·) (·);have s2:=sK (((k:Int)*7919+5+ns[q]*(48271+(k:Int)))%2147483629*((k:Int)+3)) 2147483629 (·) (·);have s3:=sK (((k:Int)*7919+5+ns[q]*(48271+(k:Int)))%2147483629*((k:Int)+3)%2147483629*(((k:Int)*7919+5+ns[q]*(48271+(k:Int)))%2147483629*((k:Int)+3)%2147483629)) 2147483587 (·) (·)
   erw[20,sL,jL,dR,dU,qH,fO,d1,@aAW (k:Int) 7919 (·) (·),cV,hS,aLo,fU,d2,@aAW (k:Int) 7 (·) (·),@fS ((k:Int)*7) ((↑ns:Nat):Int) (),eq,sX hq,
    @aAW (ns[q]) (48271+(k:Int)) () (),@fS _ 2147483629 (·),qG s1.1 s1.2,qG s2.1 s2.2,@fS _ 2147483587 (·),qG s3.1 s3.2,@fS _ 1999999973 (·),fS hm',er]
  ·have d2:decide ((0:Int)<((↑ns:Nat):Int))=false:=dqF ();let(r,hr,er):=bZ ((k:Int)*7919+5);refine⟨r,hr,?_⟩;have s1:=sK ((k:Int)*7919+5) 2147483629 (·) (·);have s2:=sK (((k:Int)*7919+5)%2147483629*((k:Int)+3)) 2147483629 (·) (·);have s3:=sK (((k:Int)*7919+5)%2147483629*((k:Int)+3)%2147483629*(((k:Int)*7919+5)%2147483629*((k:Int)+3)%2147483629)) 2147483587 (·) (·);have hq1:=@aAW (k:Int) 7919 (·) (·);have hq2:=λ i=>@fS i 2147483629 (·)
   have hq3:=λ i=>@fS i 2147483587 (·)
   have hq4:=λ i=>@fS i 1999999973 (·)
   erw[2,sL,jL,dR,dU,qH,fO,d1,hq1,cV,hS,aLo,fU,d2,hq2,qG s1.1 s1.2,qG s2.1 s2.2,hq3,qG s3.1 s3.2,hq4,fS hm',er]
def qX:Sx:=match jL with|.seq _ (.seq _ (.seq i _))=>i|_=>.skip
def aDU:Sx:=match jL with|.seq _ (.seq p _)=>p|_=>.skip
def aBa:Sx:=match jL with|.seq p _=>p|_=>.skip
def aSL(d n k m:Nat)(ns:List Int)(x:Int)(S:aC)(hS:S[n]?=qz (qz (aJ ns k x)))(hm:0<m)(hm2:m<2^64)(hk:k<=100000) :
 ∃ (r:Nat) (x':Int),r<m/\cl fns (d+1) 67 [.loc n,.d (.int m)] S=qz (.d (.int r),S.set n (qz (aJ ns (k+1) x'))):=by
 have hm':(0:Int)<(m:Int):=();have hm2':(m:Int)<2^64:=by exact_mod_cast hm2
 have e1:(k:Int)/12+1=((k/12+1:Nat):Int):=();have e2:(k:Int)+1=((k+1:Nat):Int):=();have gs:=λ v=>aRJ (v:=v) hS
 have start:(eC (xs (aD fns d) aBa) (xs (aD fns d) aDU)) [#[n],(m:),qx,qx,qx,qx] S=qz (.nx [#[n],(m:),qx,qz (.d (.list (ns.map yAn))),(k:),qx],S.set n (qz (aJ ns (k+1) x))):=by
  unfold aJ at hS ⊢;erw[3,aBa,aDU,jL,oG,pC,zT,hS,aZn,jR,iZ,aXc,cV,e2]
 have fR:∀ (R:Option (Fl×aC)),eC (xs (aD fns d) qX) (xs (aD fns d) sL) [#[n],(m:),qx,qz (.d (.list (ns.map yAn))),(k:),qx] (S.set n (qz (aJ ns (k+1) x)))=R ->
  cl fns (d+1) 67 [.loc n,.d (.int m)] S=R.bind λ p=>match p.1 with
   |.rt w=>lH ↑S p.2 w|.nx _=>qz (.d .none,p.2.take ↑S)
   |_=>qx:=λ R hR=>by
  rw[aN rfl d _ S rfl,<- hR];simp only[eC] at start ⊢;cases q:xs (aD fns d) aBa [#[n],(m:),qx,qx,qx,qx] S with
  |none=>rw[q] at start;cases start
  |some z=>
    let(fl,S1):=z;rw[q] at start;simp only[oB] at start;cases fl with
    |nx e=>
      simp only at start;show((eC (xs (aD fns d) aBa) (eC (xs (aD fns d) aDU) (eC (xs (aD fns d) qX) (xs (aD fns d) sL)))) [#[n],(m:),qx,qx,qx,qx] S).bind _=_;simp only[eC,q,oB,start]
      all_goals rfl
    |rt w=>cases start|bk e=>cases start|ct e=>cases start
 have hS2:(S.set n (qz (aJ ns (k+1) x)))[n]?=qz (qz (aJ ns (k+1) x)):=gs _;have skip:xs (aD fns d) qX [#[n],(m:),qx,qz (.d (.list (ns.map yAn))),(k:),qx] (S.set n (qz (aJ ns (k+1) x)))=qz (.nx [#[n],(m:),qx,qz (.d (.list (ns.map yAn))),(k:),qx],S.set n (qz (aJ ns (k+1) x))) ->
  ∃ (r:Nat) (x':Int),r<m/\cl fns (d+1) 67 [.loc n,.d (.int m)] S=qz (.d (.int r),S.set n (qz (aJ ns (k+1) x'))):=λ h=>by
  let(r,hr,ht):=aPD (aD fns d) n k m ns x _ qx qx hS2 hm hk;refine⟨r,x,hr,?_⟩;rw[fR _ rfl];simp only[eC,h,oB,ht,lH,aDj]
 by_cases c1:k/12+1<↑ns
 ·have d1:decide (((k/12+1:Nat):Int)<((↑ns:Nat):Int))=true:=dqT ();have i0:aH (.list (ns.map yAn)) (.int 0)=qz (.int ns[0]):=sX (k:=0) ();rcases yDy (ns[0]%2==1) with c2|c2
  ·rcases yDy ((k:Int)%12==0) with c3|c3
   ·let(r,er,hr):=wD ns[k/12+1] hm;refine⟨r,ns[k/12+1]/(m:Int),hr,?_⟩;rw[fR _ rfl];unfold aJ at hS2 ⊢;have hq5:=@oR (k:Int) 12 (·) (·);have hq6:=@fS (ns[0]) 2 (·);have hq7:=@fS (k:Int) 12 (·);erw[2,qX,jL,jR,iZ,aMz,cV,hq5,e1,dR,dU,qH,fO,d1,i0,hq6,bP,c2,hq7,c3,hS2,gs,yHy,sX c1,aKw,fS hm',er,oR hm' hm2',aDj]
   ·let(r,er,hr):=wD x hm;refine⟨r,x/(m:Int),hr,?_⟩;rw[fR _ rfl];unfold aJ at hS2 ⊢;have hq8:=@oR (k:Int) 12 (·) (·);have hq9:=@fS (ns[0]) 2 (·);have hq10:=@fS (k:Int) 12 (·);erw[2,qX,jL,jR,iZ,aMz,cV,hq8,e1,dR,dU,qH,fO,d1,i0,hq9,bP,c2,hq10,c3,hS2,gs,yHy,aKw,fS hm',er,oR hm' hm2',aDj]
  ·apply skip;have hq11:=@oR (k:Int) 12 (·) (·);have hq12:=@fS (ns[0]) 2 (·);erw[2,qX,jL,cV,hq11,e1,dR,dU,qH,fO,d1,i0,hq12,bP,c2]
 ·have d1:decide (((k/12+1:Nat):Int)<((↑ns:Nat):Int))=false:=dqF ();apply skip;have hq13:=@oR (k:Int) 12 (·) (·);erw[2,qX,jL,cV,hq13,e1,dR,dU,qH,fO,d1]
inductive Wd where
 | «in» |num|not|and|or|xor|add|sub|mul|left|right|slide|cut|wide|sign|same|less|under|pick
 deriving DecidableEq
def Wd.s:Wd->Str
 |.in => "in" |.num => "num" |.not => "not" |.and => "and" |.or => "or" |.xor => "xor" |.add => "add" |.sub => "sub" |.mul => "mul" |.left => "left" |.right => "right" |.slide => "slide"
 |.cut => "cut" |.wide => "wide" |.sign => "sign" |.same => "same" |.less => "less" |.under => "under" |.pick => "pick"
structure Rw where
 wd:Wd
 w:Nat
 args:List Nat
def nD(n:Nat):D:=.int n
def Rw.d(r:Rw):D:=.tuple (.str r.wd.s::nD r.w::r.args.map nD)
def gW(ws:List Nat)(r:Rw):Prop:=1<=r.w/\r.w<=64/\match r.wd,r.args with
 |.in,[]=>True|.num,[n]=>n<2^r.w|.not,[a]=>ws[a]?=qz r.w
 |.and,[a,b]|.or,[a,b]|.xor,[a,b]|.add,[a,b]|.sub,[a,b]|.mul,[a,b]=>ws[a]?=qz r.w/\ws[b]?=qz r.w
 |.left,[a,k]|.right,[a,k]|.slide,[a,k]=>ws[a]?=qz r.w/\k<64
 |.cut,[a]=>∃ v,ws[a]?=qz v/\r.w<=v
 |.wide,[a]|.sign,[a]=>∃ v,ws[a]?=qz v/\v<=r.w
 |.same,[a,b]|.less,[a,b]|.under,[a,b]=>r.w=1/\∃ v,ws[a]?=qz v/\ws[b]?=qz v
 |.pick,[c,a,b]=>ws[c]?=qz 1/\ws[a]?=qz r.w/\ws[b]?=qz r.w|_,_=>False
def dP:List Nat->List Rw->Prop
 |_,[]=>True|ws,r::rs=>gW ws r/\dP (ws++[r.w]) rs
def aCX:∀ {rs:List Rw}{ws:List Nat}{r:Rw},dP ws rs->gW (ws++rs.map (·.w)) r->dP ws (rs++[r])
 |[],ws,r,_,h=>⟨by simpa using h,True.intro⟩|q::rs,ws,r,⟨h1,h2⟩,h=>⟨h1,aCX h2 (by simpa using h)⟩
def aQ(S:aC)(n p:Nat)(ns:List Int)(k:Nat)(x:Int)(rs:List Rw):aC:=(S.set n (qz (aJ ns k x))).set p (qz (rs.map Rw.d))
local macro_rules(kind:=«term_<*_»)|s=>return mqT "PyData.tuple" [mqT "List.cons" [mqT "PyData.tuple" [mqT "List.map" [mqI "Rw.d",s[0]]],mqT "List.cons" [s[2],mqI "List.nil"]]]
local macro_rules(kind:=«term~~~_»)|s=>let a:Lean.Term:=⟨s[1]⟩;`(List.map (·.w) $a)
local macro_rules(kind:=«term_*>_»)|s=>return mqT "PyData.tuple" [mqT "List.map" [s[2],s[0]]]
structure At0(S:aC)(n p:Nat):Prop where
 hn:n<↑S
 ne:n≠p
structure At(S:aC)(n p:Nat):Prop extends At0 S n p where
 hp:p<↑S
def At0.state{x:Int}{rs:List Rw}(h:At0 S n p):(aQ S n p ns k x rs)[n]?=qz (qz (aJ ns k x)):=by unfold aQ;rw[yAq h.ne.symm,yAr h.hn]
def At.rows{x:Int}{rs:List Rw}(h:At S n p):(aQ S n p ns k x rs)[p]?=qz (qz (rs.map Rw.d)):=by unfold aQ;rw[yAr (by rw[yBa];exact h.hp)]
def At.rowsT{x:Int}{rs:List Rw}(h:At S n p)(T:aC):(aQ S n p ns k x rs++T)[p]?=qz (qz (rs.map Rw.d)):=by rw[xAm (by simp[aQ];exact h.hp)];exact h.rows
def At0.len{x:Int}{rs:List Rw}(h:At0 S n p):↑(aQ S n p ns k x rs)=↑S:=by simp[aQ]
def At0.take{x:Int}{rs:List Rw}(h:At0 S n p)(k':Nat)(x':Int)(aO:List Rw):(aQ S n p ns k' x' aO).take ↑(aQ S n p ns k x rs)=aQ S n p ns k' x' aO:=by rw[h.len,yCh];rw[h.len];exact yAb _
def At0.put{x:Int}{rs:List Rw}(h:At0 S n p)(k':Nat)(x':Int):(aQ S n p ns k x rs).set n (qz (aJ ns k' x'))=aQ S n p ns k' x' rs:=by unfold aQ;rw[List.set_comm _ _ h.ne.symm,yHy]
def At.putR{x:Int}{rs:List Rw}(h:At S n p)(r:Rw):(aQ S n p ns k x rs).set p (qz (rs.map Rw.d++[r.d]))=aQ S n p ns k x (rs++[r]):=by unfold aQ;rw[yHy,yAv];rfl
def gE{x:Int}{rs:List Rw}(h:At0 S n p)(d m:Nat)(hm:0<m)(hm2:m<2^64)(hk:k<=100000):∃ (r:Nat) (x':Int),r<m/\cl fns (d+1) 67 [.loc n,.d (.int m)] (aQ S n p ns k x rs)=qz (.d (.int r),aQ S n p ns (k+1) x' rs):=by let(r,x',hr,e):=aSL d n k m ns x _ h.state hm hm2 hk;exact⟨r,x',hr,by rw[e,h.put]⟩
def iT{x:Int}{rs:List Rw}(h:At0 S n p)(d m:Nat){i:Int}(hi:i=(m:Nat))(hm:0<m)(hm2:m<2^64)(hk:k<=100000):∃ (r:Nat) (x':Int),r<m/\cl fns (d+1) 67 [.loc n,.d (.int i)] (aQ S n p ns k x rs)=qz (.d (.int r),aQ S n p ns (k+1) x' rs):=by subst hi;exact gE h d m hm hm2 hk
def aID(h:w<64):2^w<2^64:=yEs (·) h
def aHZ{x:Int}{rs:List Rw}(h:At0 S n p)(d w:Nat)(hw:w<=64)(hk:k<=99000):∃ (r k':Nat) (x':Int),r<2^w/\k'<=k+2/\cl fns (d+2) 68 [.loc n,.d (.int w)] (aQ S n p ns k x rs)=qz (.d (.int r),aQ S n p ns k' x' rs):=by
 by_cases c:w<31
 ·have d1:decide ((w:Int)<31)=true:=dqT ();let(r,x',hr,e):=@gE _ _ _ k ns x rs h d (2^w) (vW w) (aID ()) ();refine⟨r,k+1,x',hr,by omega,?_⟩;rw[aN rfl (d+1) _ _ rfl];have hq14:=gR (show w<=100000 by omega);erw[11,aCM,fO,d1,hq14,e,h.take]
 ·have d1:decide ((w:Int)<31)=false:=dqF ();have e1:(w:Int)-30=((w-30:Nat):Int):=();have s30:=@gR 30 (·);rw[show((30:Nat):Int)=30 from rfl] at s30;let(r,x',hr,e):=@gE _ _ _ k ns x rs h d (2^30) (·) (·) ();let(q,x2,hq,e'):=@gE _ _ _ (k+1) ns x' rs h d (2^(w-30)) (vW _) (aID ()) ();have hb:r+q*2^30<2^w:=by
   have e3:(2:Nat)^w=2^(w-30)*2^30:=by rw[<- Nat.pow_add,show w-30+30=w by omega]
   have h3:(q+1)*2^30<=2^(w-30)*2^30:=Nat.mul_le_mul_right _ hq;rw[Nat.add_mul] at h3;omega
  have sh:bV .LShift (.int q) (.int 30)=qz (.int ((q*2^30:Nat):Int)):=@wC q (w-30) 30 hq ();have ad:(r:Int)+((q*2^30:Nat):Int)=((r+q*2^30:Nat):Int):=(Int.natCast_add _ _).symm;refine⟨r+q*2^30,k+2,x2,hb,by omega,?_⟩;rw[aN rfl (d+1) _ _ rfl];have hq15:=gR (show w-30<=100000 by omega);erw[11,aCM,fO,d1,s30,e,cP,e1,hq15,e',sh,cV,ad,h.take]
def at4(a b c e:D){r:Nat}(h1:r<4):∃ x,(x=a\/x=b\/x=c\/x=e)/\aH (.list [a,b,c,e]) (.int r)=qz x:=by
 have:r=0\/r=1\/r=2\/r=3:=();rcases this with rfl|rfl|rfl|rfl
 ·exact⟨a,.inl rfl,rfl⟩
 ·exact⟨b,.inr (.inl rfl),rfl⟩
 ·exact⟨c,.inr (.inr (.inl rfl)),rfl⟩
 ·exact⟨e,.inr (.inr (.inr rfl)),rfl⟩
def aIo{x:Int}{rs:List Rw}(h:At0 S n p)(d:Nat)(hk:k<=99000):∃ (w:Nat) (x':Int),1<=w/\w<=64/\cl fns (d+2) 69 [.loc n] (aQ S n p ns k x rs)=qz (.d (.int w),aQ S n p ns (k+3) x' rs):=by
 let(r1,x1,h1,e1):=iT (ns:=ns) (k:=k) (x:=x) (rs:=rs) h d 8 (i:=8) rfl (·) (·) ();let(r2,x2,h2,e2):=iT (ns:=ns) (k:=k+1) (x:=x1) (rs:=rs) h d 64 (i:=64) rfl (·) (·) ();let(r3,x3,h3,e3):=iT (ns:=ns) (k:=k+2) (x:=x2) (rs:=rs) h d 4 (i:=4) rfl (·) (·) ();have a1:(1:Int)+(r1:Int)=((1+r1:Nat):Int):=();have a2:(1:Int)+(r2:Int)=((1+r2:Nat):Int):=();let(y,hy,e):=at4 (.int 1) (.int 64) (.int ((1+r1:Nat):Int)) (.int ((1+r2:Nat):Int)) h3;obtain⟨w,cB,cD,rfl⟩:∃ w:Nat,1<=w/\w<=64/\y=.int w:=by
  rcases hy with rfl|rfl|rfl|rfl
  ·exact⟨1,by decide,by decide,rfl⟩
  ·exact⟨64,by decide,by decide,rfl⟩
  ·exact⟨_,by omega,by omega,rfl⟩
  ·exact⟨_,by omega,by omega,rfl⟩
 refine⟨w,x3,cB,cD,?_⟩;rw[aN rfl (d+1) _ _ rfl];erw[11,aGX,e1,e2,e3,cV,a1,a2,e,h.take]
def aEZ(a b:D):aH (.list [a,b]) (.int ((0:Nat):Int))=qz a:=rfl
def aEO(a b:D):aH (.list [a,b]) (.int ((1:Nat):Int))=qz b:=rfl
def aI4{t:Tg}{fb:FS}(P:Nat->bB->aC->Prop):∀ (ds:List D) (i:Nat) (env:bB) (S:aC),P i env S->(∀ j d env S,i<=j->j<i+↑ds->P j env S->∃ e1 aS S',t.put d env=qz e1/\fb e1 S=qz (.nx aS,S')/\P (j+1) aS S') ->
 ∃ aS S',nW t fb ds env S=qz (.nx aS,S')/\P (i+↑ds) aS S'
 |[],i,env,S,h0,_=>⟨env,S,rfl,h0⟩
 |d::ds,i,env,S,h0,h=>by
   let(e1,aS,S',h1,h2,h3):=h i d env S (yAb _) (by simp) h0;let(env2,S2,h4,h5):=aI4 P ds (i+1) aS S' h3 λ j d' env S a b=>h j d' env S () (by simp at b ⊢;omega)
   refine⟨env2,S2,by simp only[nW,h1,oB,h2];exact h4,?_⟩;have:i+↑(d::ds)=i+1+↑ds:=by simp;omega
   rw[this];exact h5
def aKo{t:Tg}{fi:FL}{fb:FS}(P:Nat->bB->aC->Prop)(hi:fi env S=qz (ds,S1))(h0:P 0 env S1)(h:∀ j d env S,j<↑ds->P j env S->∃ e1 aS S',t.put d env=qz e1/\fb e1 S=qz (.nx aS,S')/\P (j+1) aS S') :
 ∃ aS S',iH t fi fb env S=qz (.nx aS,S')/\P ↑ds aS S':=by
 let(aS,S',h1,h2):=@aI4 t fb P ds 0 env S1 h0 λ j d env S _ b=>h j d env S ()
 exact⟨aS,S',by unfold iH;rw[hi,oB];exact h1,by simpa using h2⟩
def b2i(b:Bool):∃ q:Nat,q<2/\(if b then (1:Int) else 0)=(q:Int):=by
 cases b
 ·exact⟨0,by decide,rfl⟩
 ·exact⟨1,by decide,rfl⟩
def at2(a b:D){r:Nat}(h1:r<2):∃ x,(x=a\/x=b)/\aH (.list [a,b]) (.int r)=qz x:=by
 have:r=0\/r=1:=();rcases this with rfl|rfl
 ·exact⟨a,.inl rfl,rfl⟩
 ·exact⟨b,.inr rfl,rfl⟩
variable {C:Calls}
def dX(h:xs C a env S=qz (.nx e1,S1)):xs C (.seq a r) env S=xs C r e1 S1:=by simp only[oT,eC,h,oB]
def aNl(ns:List Int)(k:Nat)(x:Int):aQ [qx] 0 1 ns k x []=[qz (aJ ns k x)]:=rfl
def oJ:At0 [qx] 0 1:=⟨by decide,by decide⟩
noncomputable abbrev s0(ns:List Int)(k:Nat)(x:Int):aC:=[qz (aJ ns k x)]
def aIW(a:Nat):bV .BitAnd (.int a) (.int 1)=qz (.int ((a&&&1:Nat):Int)):=dJ a 1
def eO(n:Nat):(((n:Nat):Int)==0)=(n==0):=by rw[yDf,beq_iff_eq,beq_iff_eq];omega
def aJ8{x:Int}{rs:List Rw}(h:At0 S n p)(d w:Nat)(hw:1<=w)(cD:w<=64)(hk:k<=98000):∃ (r k':Nat) (x':Int),r<2^w/\k'<=k+5/\cl fns (d+3) 70 [.loc n,.d (.int w)] (aQ S n p ns k x rs)=qz (.d (.int r),aQ S n p ns k' x' rs):=by
 have hw3:w<2^64:=();have hp:=vW w;let(r1,x1,h1,e1):=iT (ns:=ns) (k:=k) (x:=x) (rs:=rs) h (d+1) 5 (i:=5) rfl (·) (·) ();let(r2,x2,h2,e2):=@gE _ _ _ (k+1) ns x1 rs h (d+1) w () hw3 ();let(r3,x3,h3,e3):=@gE _ _ _ (k+2) ns x2 rs h (d+1) w () hw3 ();by_cases c:r1<4
 ·have d1:decide ((r1:Int)<4)=true:=dqT ();let(y,hy,e):=at4 (.int 0) (.int ((2^w-1:Nat):Int)) (.int ((2^r2:Nat):Int)) (.int ((2^r3-1:Nat):Int)) c;obtain⟨q,hq,rfl⟩:∃ q:Nat,q<2^w/\y=.int q:=by
   have l2:2^r2<2^w:=yEs (·) h2;have l3:2^r3<2^w:=yEs (·) h3;rcases hy with rfl|rfl|rfl|rfl
   ·exact⟨0,hp,rfl⟩
   ·exact⟨_,by omega,rfl⟩
   ·exact⟨_,l2,rfl⟩
   ·exact⟨_,by omega,rfl⟩
  refine⟨q,k+3,x3,hq,by omega,?_⟩;rw[aN rfl (d+2) _ _ rfl];have hq16:=gR (show w<=100000 by omega);have hq17:=gR (show r2<=100000 by omega);have hq18:=gR (show r3<=100000 by omega);erw[11,aDg,e1,hq16,cP,aAI,e2,hq17,e3,hq18,fO,d1,e,h.take]
 ·have d1:decide ((r1:Int)<4)=false:=dqF ();let(r,k',x',hr,hk',e):=@aHZ _ _ _ (k+3) ns x3 rs h d w cD ();refine⟨r,k',x',hr,by omega,?_⟩;rw[aN rfl (d+2) _ _ rfl];have hq19:=gR (show w<=100000 by omega);have hq20:=gR (show r2<=100000 by omega);have hq21:=gR (show r3<=100000 by omega);erw[11,aDg,e1,hq19,cP,aAI,e2,hq20,e3,hq21,fO,d1,e,h.take]
def aKf:∀ L:List Nat,yEp (L.map nD)=true
 |[]=>rfl
 |a::r=>by
   have ih:=aKf r;simp only[yAh,yEp,ih,yCc];rfl
def aIX:∀ L:List Nat,yEn (L.map nD)=0
 |[]=>rfl
 |a::r=>by
   have ih:=aIX r;simp only[yAh,yEn,ih];rfl
def aVx(L:List Nat):aW .NotEq (.list (L.map nD)) (.list [])=qz (.bool (!L.isEmpty)):=by
 have h1:(yHm (L.map nD)).canLay0=true:=aKf L;have h2:(yHm (L.map nD)).depth<=60:=by
  show yEn (L.map nD)+1<=60;rw[aIX];decide
 unfold aW rM;simp only[];rw[if_pos ⟨h1,rfl,h2⟩];cases L<;>rfl
def dD(r:Rw):aH r.d (.int 1)=qz (.int r.w):=@cW (.str r.wd.s::nD r.w::r.args.map nD) 1 _ rfl
def wdE(a b:Wd):Bool:=match aW .Eq (.str a.s) (.str b.s) with|some (.bool c)=>c==decide (a=b)|_=>false
def aVr(a b:Wd):wdE a b=true:=by
 have h:∀ i:Fin 19,∀ j:Fin 19,wdE (Wd.ofNat i) (Wd.ofNat j)=true:=by decide +kernel
 have e:∀ a:Wd,∃ i:Fin 19,Wd.ofNat i=a:=λ a=>⟨⟨a.ctorIdx,by cases a<;>decide⟩,Wd.ofNat_ctorIdx a⟩
 let(i,rfl):=e a;let(j,rfl):=e b;exact h i j
def cG(a b:Wd):aW .Eq (.str a.s) (.str b.s)=qz (.bool (decide (a=b))):=by
 have h:=aVr a b;unfold wdE at h;split at h
 ·rename_i c e;rw[e,eq_of_beq h]
 ·cases h
def aDw(a:Wd):aW .In (.str a.s) (.tuple [.str "left",.str "right",.str "slide"])=qz (.bool (decide (a=.left\/a=.right\/a=.slide))):=by cases a<;>rfl
def aVQ(a:Wd):aW .In (.str a.s) (.tuple [.str "cut",.str "wide",.str "sign"])=qz (.bool (decide (a=.cut\/a=.wide\/a=.sign))):=by cases a<;>rfl
def aA2(a:Wd):aW .In (.str a.s) (.tuple [.str "same",.str "less",.str "under"])=qz (.bool (decide (a=.same\/a=.less\/a=.under))):=by cases a<;>rfl
def bQ{cC:Sx}(h:tv C c env S=qz (false,S1))(k:xs C cC env S1=r):xs C (.seq (.ifs c t .skip) cC) env S=r:=by rw[<- k];simp only[oT,sZ,aI1,eC,oI,tR,h,oB,yAt,if_false]
def dS{cC:Sx}(h:tv C c env S=qz (true,S1))(k:xs C t env S1=qz (.rt w,S2)):xs C (.seq (.ifs c t e) cC) env S=qz (.rt w,S2):=by simp only[oT,sZ,eC,oI,h,oB,if_true,k]
def cL{cC:Sx}(h:ev C e env S=qz (w,S1)):xs C (.seq (.ret e) cC) env S=qz (.rt w,S1):=by simp only[oT,aEH,eC,pJ,h,oB]
def cF{i:Nat}{e:E}{cC:Sx}{env aS:bB}{S S1:aC}{w:W}{r:Option (Fl×aC)}(h:ev C e env S=qz (w,S1))(he:env.set i (qz w)=aS)(k:xs C cC aS S1=r):xs C (.seq (.set i e) cC) env S=r:=by subst he;rw[<- k];simp only[oT,aBe,eC,jS,h,oB]
def fF(h:fs[f]?=qz F)(d:Nat){ws:List W}{S S1:aC}(hw:↑ws=F.np)(he:ws.map qz++yAe (↑F.N-↑ws) qx=env)(hS:S1.take ↑S=S1)(k:xs (aD fs d) F.body env S=qz (.rt (.d x),S1)):cl fs (d+1) f ws S=qz (.d x,S1):=by subst he;rw[aN h d ws S hw];simp only[fH,k,oB,lH,hS]
def dC{C:Calls}(h:env[i]?=qz (qz (.d a)))(hc:aW .Eq a (.str x)=qz (.bool b)):tv C (.cmp .Eq (.var i) (.str x)) env S=qz (b,S):=by erw[0,h,hc]
def iG(h:env[i]?=qz (qz (.d a)))(he:ev C e env S=qz (.d t,S))(hc:aW .In a t=qz (.bool b)):tv C (.cmp .In (.var i) e) env S=qz (b,S):=by erw[0,h,he,hc]
def aT:Sx->Sx
 |.seq _ b=>b|x=>x
def bR:Sx->Sx
 |.seq a _=>a|x=>x
def rA(h:tv C c env S=qz (true,S1))(k:xs C a env S1=r):xs C (.ifs c a b) env S=r:=by rw[<- k];simp only[sZ,oI,h,oB,if_true]
def aER(h:tv C c env S=qz (false,S1))(k:xs C b env S1=r):xs C (.ifs c a b) env S=r:=by rw[<- k];simp only[sZ,oI,h,oB,yAt,if_false]
def lA(h:xs C a env S=qz (.nx e1,S1))(k:xs C b e1 S1=r):xs C (.seq a b) env S=r:=by rw[dX h];exact k
def aLc(h:xs C a env S=qz (.nx e1,S1)):xs C (.seq a .skip) env S=qz (.nx e1,S1):=lA h rfl
def qR(h:ev C e env S=qz (w,S1)):xs C (.seq (.set i e) .skip) env S=qz (.nx (env.set i (qz w)),S1):=cF h rfl rfl
def zI{C:Calls}(hs:s=.ifs c a (.seq b .skip))(h:tv C c env S=qz (false,S))(k:xs C b env S=qz (.nx r,S1)):xs C s env S=qz (.nx r,S1):=by rw[hs];exact aER h (aLc k)
namespace GP
def aBs{rs:List Rw}{a:Nat}{r:Rw}(h:rs[a]?=qz r):aH (.list (rs.map Rw.d)) (.int a)=qz r.d:=mI (by rw[yAd,h];rfl)
def rows_len(rs:List Rw):↑(rs.map Rw.d)=↑rs:=yAc ..
def aAX{x:Int}{rs:List Rw}(h:At S n p)(hl:↑rs<=1000)(r:Rw):cX (aQ S n p ns k x rs) (.loc p) (.d r.d)=qz (.d .none,aQ S n p ns k x (rs++[r])):=by unfold cX;simp only[h.rows];rw[if_pos (by rw[rows_len,zq];omega),h.putR]
structure Opd(rs aO:List Rw)(a w:Nat):Prop where
 ext:∃ t,aO=rs++t/\↑t<=1
 ok:dP [] aO
 wd:(aO.map (·.w))[a]?=qz w
def pF{rs:List Rw}{a:Nat}{r:Rw}(h:rs[a]?=qz r):(~~~rs)[a]?=qz r.w:=by rw[yAd,h];rfl
def aKt{x:Int}{rs:List Rw}(h:At S n p)(d a w:Nat)(hr:dP [] rs)(ha:a<↑rs)(hl:↑rs<=100)(hw:1<=w)(cD:w<=64)(hk:k<=99000) :
 ∃ (a' k':Nat) (x':Int) (aO:List Rw),Opd rs aO a' w/\k'<=k+1/\cl fns (d+2) 71 [.loc n,.loc p,.d (.int a),.d (.int w)] (aQ S n p ns k x rs)=qz (.d (.int a'),aQ S n p ns k' x' aO):=by
 obtain⟨r,hra⟩:∃ r,rs[a]?=qz r:=⟨rs[a],yAa ha⟩;have ga:=aBs hra;by_cases c:r.w=w
 ·refine⟨a,k,x,rs,⟨⟨[],by simp,by simp⟩,hr,by rw[pF hra,c]⟩,by omega,?_⟩;rw[aN rfl (d+1) _ _ rfl];erw[11,vK,h.rows,ga,dD,bP,c,beq_self_eq_true,h.take]
 ·have c':((r.w:Int)==(w:Int))=false:=by
   rw[beq_eq_false_iff_ne];intro z;exact c (by exact_mod_cast z)
  let(q,x',hq,e):=iT (ns:=ns) (k:=k) (x:=x) (rs:=rs) h.toAt0 d 2 (i:=2) rfl (·) (·) ();have bZ:∀ wd:Wd,gW ([]++rs.map (·.w)) ⟨wd,w,[a]⟩->Opd rs (rs++[⟨wd,w,[a]⟩]) ↑rs w:=λ wd ok=>⟨⟨_,rfl,yAb _⟩,aCX hr ok,by simp⟩
  have aCe:∀ r:Rw,(↑(rs++[r]):Int)-1=((↑rs:Nat):Int):=λ r=>by simp
  have ap:∀ wd:Wd,cX (aQ S n p ns (k+1) x' rs) (.loc p) (.d (.tuple [.str wd.s,.int w,.int a]))=qz (.d .none,aQ S n p ns (k+1) x' (rs++[⟨wd,w,[a]⟩])):=λ wd=>aAX h () ⟨wd,w,[a]⟩
  by_cases c2:w<r.w
  ·have d2:decide ((w:Int)<(r.w:Int))=true:=dqT ();refine⟨↑rs,k+1,x',_,bZ .cut ⟨hw,cD,r.w,by simpa using pF hra,yDz c2⟩,by omega,?_⟩;have ap':=ap .cut;simp only[Wd.s] at ap';have:q=0\/q=1:=();rw[aN rfl (d+1) _ _ rfl];rcases this with rfl|rfl
   all_goals erw[20,fH,vK,h.rows,ga,dD,bP,c',e,aEZ,aEO,fU,d2,lK,ap',dR,dU,rows_len,cP,aCe,h.take]
  ·have d2:decide ((w:Int)<(r.w:Int))=false:=dqF ();have:q=0\/q=1:=();rcases this with rfl|rfl
   ·refine⟨↑rs,k+1,x',_,bZ .wide ⟨hw,cD,r.w,by simpa using pF hra,yEy c2⟩,by omega,?_⟩;have ap':=ap .wide;simp only[Wd.s] at ap';rw[aN rfl (d+1) _ _ rfl];erw[11,vK,h.rows,ga,dD,bP,c',e,aEZ,fU,d2,lK,ap',dR,dU,rows_len,cP,aCe,h.take]
   ·refine⟨↑rs,k+1,x',_,bZ .sign ⟨hw,cD,r.w,by simpa using pF hra,yEy c2⟩,by omega,?_⟩;have ap':=ap .sign;simp only[Wd.s] at ap';rw[aN rfl (d+1) _ _ rfl];erw[11,vK,h.rows,ga,dD,bP,c',e,aEO,fU,d2,lK,ap',dR,dU,rows_len,cP,aCe,h.take]
def aC3:∀ {rs:List Rw}{ws:List Nat}{a:Nat}{r:Rw},dP ws rs->rs[a]?=qz r->1<=r.w/\r.w<=64
 |q::rs,ws,0,r,⟨h1,_⟩,e=>by
   have e':q=r:=by simpa using e
   subst e';exact⟨h1.1,h1.2.1⟩
 |q::rs,ws,a+1,r,⟨_,h2⟩,e=>aC3 h2 (by simpa using e)|[],_,_,_,_,e=>by simp at e
def vR:Sx:=match vB with|.seq _ r=>r|_=>.skip
def vG{x:Int}{rs:List Rw}(h:At S n p)(d w:Nat)(hr:dP [] rs)(h0:0<↑rs)(hl:↑rs<=100)(hw:1<=w)(cD:w<=64)(hk:k<=98000) :
 ∃ (a k':Nat) (x':Int) (aO:List Rw),Opd rs aO a w/\k'<=k+3/\cl fns (d+3) 72 [.loc n,.loc p,.d (.int w)] (aQ S n p ns k x rs)=qz (.d (.int a),aQ S n p ns k' x' aO):=by
 have hc:gY (.one 4) (lv (d<$>2) (.rng1 (.blt .len (.cons (.var 1) .nil)))) (tv (d<$>2) (.cmp .Eq (.ix (.ix (.var 1) (.var 4)) (.int 1)) (.var 2))) (ev (d<$>2) (.var 4)) [#[n],#[p],(w:),qx,qx] (aQ S n p ns k x rs)
  = qz (((yBm ↑rs).filter λ j=>(~~~rs)[j]?==qz w).map nD,aQ S n p ns k x rs):=by
  refine aQT nD nD (λ j=>(~~~rs)[j]?==qz w) (yBm ↑rs) ?_ (by rw[yEr,zq];omega) (λ j hj=>?_)
  ·simp only[rB,qK,qJ,qQ,qW,qM];refine vD ?_ ();erw[0,h.rows,dR,dU,rows_len]
  ·have hj':j<↑rs:=by simpa using hj
   obtain⟨r,hrj⟩:∃ r,rs[j]?=qz r:=⟨rs[j],yAa hj'⟩;have hb:((~~~rs)[j]?==qz w)=(((r.w:Nat):Int)==(w:Int)):=by
    rw[pF hrj,yDf];simp;omega
   refine⟨_,rfl,λ aM=>?_,λ _ aM=>?_⟩
   ·rw[hb];erw[0,clr,yBb,yCm,nD,h.rowsT,aBs hrj,dD,bP]
   ·erw[0,clr,yBb,yCm,nD]
 generalize hL:(yBm ↑rs).filter (λ j=>(~~~rs)[j]?==qz w)=L at hc;have hmem:∀ a∈L,(~~~rs)[a]?=qz w:=λ a ha=>by
  rw[<- hL] at ha;simpa using (List.mem_filter.mp ha).2
 have cK:↑L<=↑rs:=by
  rw[<- hL];have:=List.length_filter_le (λ j=>(~~~rs)[j]?==qz w) (yBm ↑rs);simpa using this
 have set:xs (d<$>2) (.setC false 3 (.comp (.var 4) (.one 4) (.rng1 (.blt .len (.cons (.var 1) .nil))) (.cmp .Eq (.ix (.ix (.var 1) (.var 4)) (.int 1)) (.var 2)))) [#[n],#[p],(w:),qx,qx] (aQ S n p ns k x rs)=qz (.nx [#[n],#[p],(w:),qz (.d (.list (L.map nD))),qx],aQ S n p ns k x rs):=by
  simp only[aDT,jS,kM];show((gY _ _ _ _ _ _).bind _).bind _=_;rw[hc];erw[0,True]
 have fR:∀ R,xs (d<$>2) vR [#[n],#[p],(w:),qz (.d (.list (L.map nD))),qx] (aQ S n p ns k x rs)=R->cl fns (d+3) 72 [.loc n,.loc p,.d (.int w)] (aQ S n p ns k x rs)=R.bind λ q=>match q.1 with
  |.rt w=>lH ↑(aQ S n p ns k x rs) q.2 w|.nx _=>qz (.d .none,q.2.take ↑(aQ S n p ns k x rs))
  |_=>qx:=λ R hR=>by
  rw[aN rfl (d+2) _ _ rfl,<- hR];show((eC (xs (d<$>2) (.setC false 3 (.comp (.var 4) (.one 4) (.rng1 (.blt .len (.cons (.var 1) .nil))) (.cmp .Eq (.ix (.ix (.var 1) (.var 4)) (.int 1)) (.var 2))))) (xs (d<$>2) vR)) [#[n],#[p],(w:),qx,qx] (aQ S n p ns k x rs)).bind _=_;simp only[eC,set,oB]
  all_goals rfl
 rw[fR _ rfl];clear fR set hc;have hr64:↑rs<2^64:=();have nn:=aVx L;have ll:↑(L.map nD)=↑L:=yAc ..;rcases yDy L.isEmpty with hE|hE
 ·rw[hE] at nn;let(q,x1,hq,e1):=@gE _ _ _ k ns x rs h.toAt0 (d+1) ↑rs h0 hr64 ();let(a,k',x',aO,ho,hk',e2):=@aKt _ _ _ (k+1) ns x1 _ h d q w hr hq hl hw cD ();refine⟨a,k',x',aO,ho,by omega,?_⟩;erw[2,vR,vB,nn,h.rows,dR,dU,rows_len,e1,e2,h.take]
 ·rw[hE] at nn;have hL0:0<↑L:=by
   cases L with
   |nil=>cases hE|cons b r=>simp
  let(q4,x1,hq4,e1):=iT (ns:=ns) (k:=k) (x:=x) (rs:=rs) h.toAt0 (d+1) 4 (i:=4) rfl (·) (·) ();by_cases c:0<q4
  ·have d1:decide ((0:Int)<(q4:Int))=true:=dqT ();let(q,x2,hq,e2):=@gE _ _ _ (k+1) ns x1 rs h.toAt0 (d+1) ↑L hL0 () ();have e3:((↑L:Nat):Int)-1-(q:Int)=((↑L-1-q:Nat):Int):=cs1 hq;obtain⟨a,ha⟩:∃ a,L[↑L-1-q]?=qz a:=⟨L[↑L-1-q],yAa ()⟩;have ga:aH (.list (L.map nD)) (.int ((↑L-1-q:Nat):Int))=qz (.int a):=mI (by rw[yAd,ha];rfl);refine⟨a,k+2,x2,rs,⟨⟨[],by simp,by simp⟩,hr,hmem a (xAk ha)⟩,by omega,?_⟩;erw[2,vR,vB,nn,e1,fU,d1,dR,dU,ll,cP,e2,e3,ga,h.take]
  ·have d1:decide ((0:Int)<(q4:Int))=false:=dqF ();let(q,x2,hq,e2):=@gE _ _ _ (k+1) ns x1 rs h.toAt0 (d+1) ↑rs h0 hr64 ();let(a,k',x',aO,ho,hk',e3):=@aKt _ _ _ (k+2) ns x2 _ h d q w hr hq hl hw cD ();refine⟨a,k',x',aO,ho,by omega,?_⟩;erw[2,vR,vB,nn,e1,fU,d1,h.rows,dR,dU,rows_len,e2,e3,h.take]
def aAK{x:Int}{rs:List Rw}(h:At S n p)(d:Nat)(wd:Wd)(bC:wd=.cut\/wd=.wide\/wd=.sign)(hr:dP [] rs)(h0:0<↑rs)(hl:↑rs<=100)(hk:k<=98000) :
 ∃ (r:Rw) (x':Int),gW (~~~rs) r/\cl fns (d+2) 73 [.loc n,.loc p,.d (.str wd.s)] (aQ S n p ns k x rs)=qz (.d r.d,aQ S n p ns (k+2) x' rs):=by
 let(a,x1,ha,e1):=@gE _ _ _ k ns x rs h.toAt0 d ↑rs h0 () ();obtain⟨r,hra⟩:∃ r,rs[a]?=qz r:=⟨rs[a],yAa ha⟩;let(cB,cD):=aC3 hr hra;have ga:=aBs hra;have cw:=cG wd .cut;rw[show Wd.cut.s=("cut" : Str) from rfl] at cw;have e65:(65:Int)-(r.w:Int)=((65-r.w:Nat):Int):=();by_cases c:wd=.cut
 ·subst c;let(q,x2,hq,e2):=@gE _ _ _ (k+1) ns x1 rs h.toAt0 d r.w () () ();have a1:(1:Int)+(q:Int)=((1+q:Nat):Int):=();refine⟨⟨.cut,1+q,[a]⟩,x2,⟨by show 1<=1+q;omega,by show 1+q<=64;omega,r.w,pF hra,by show 1+q<=r.w;omega⟩,?_⟩;rw[aN rfl (d+1) _ _ rfl];erw[11,aCB,h.rows,dR,dU,rows_len,e1,ga,dD,cw,decide_true,e2,cV,a1,h.take]
 ·let(q,x2,hq,e2):=@gE _ _ _ (k+1) ns x1 rs h.toAt0 d (65-r.w) () () ();have a1:(r.w:Int)+(q:Int)=((r.w+q:Nat):Int):=();rw[dqF c] at cw;have ok:gW (~~~rs) ⟨wd,r.w+q,[a]⟩:=by
   refine⟨by show 1<=r.w+q;omega,by show r.w+q<=64;omega,?_⟩;erw[50,bC]
   ·exact absurd rfl c
   ·exact⟨r.w,pF hra,by show r.w<=r.w+q;omega⟩
   ·exact⟨r.w,pF hra,by show r.w<=r.w+q;omega⟩
  refine⟨⟨wd,r.w+q,[a]⟩,x2,ok,?_⟩;rw[aN rfl (d+1) _ _ rfl];erw[11,aCB,h.rows,dR,dU,rows_len,e1,ga,dD,cw,cP,e65,e2,cV,a1,h.take]
def Opd.len{rs:List Rw}(o:Opd rs aO a w):↑rs<=↑aO/\↑aO<=↑rs+1:=by let(t,rfl,h):=o.ext;simp;omega
def Opd.keep{rs aO:List Rw}{a w b v:Nat}(o:Opd rs aO a w)(h:(~~~rs)[b]?=qz v):(aO.map (·.w))[b]?=qz v:=by let(t,rfl,_):=o.ext;rw[yAv,xAm (gIm h).1];exact h
def aDr{x:Int}{rs:List Rw}(h:At S n p)(d w:Nat)(wd:Wd)(bC:wd=.left\/wd=.right\/wd=.slide)(hr:dP [] rs)(h0:0<↑rs)(hl:↑rs<=90)(hw:1<=w)(cD:w<=64)(hk:k<=97000) :
 ∃ (r:Rw) (k':Nat) (x':Int) (aO:List Rw),dP [] aO/\↑rs<=↑aO/\↑aO<=↑rs+1/\gW (aO.map (·.w)) r/\k'<=k+6/\cl fns (d+4) 74 [.loc n,.loc p,.d (.str wd.s),.d (.int w)] (aQ S n p ns k x rs)=qz (.d r.d,aQ S n p ns k' x' aO):=by
 let(q1,x1,h1,e1):=@gE _ _ _ k ns x rs h.toAt0 (d+2) w () () ();let(q2,x2,h2,e2):=iT (ns:=ns) (k:=k+1) (x:=x1) (rs:=rs) h.toAt0 (d+2) 64 (i:=64) rfl (·) (·) ();let(q3,x3,h3,e3):=iT (ns:=ns) (k:=k+2) (x:=x2) (rs:=rs) h.toAt0 (d+2) 4 (i:=4) rfl (·) (·) ();let(a,k',x',aO,ho,hk',e4):=@vG _ _ _ (k+3) ns x3 _ h d w hr h0 () hw cD ();have bZ:∀ kk:Nat,kk<64->gW (aO.map (·.w)) ⟨wd,w,[a,kk]⟩:=λ kk hkk=>by
  refine⟨hw,cD,?_⟩;erw[50,bC]<;>exact⟨ho.wd,hkk⟩
 have hq:(q3:Int)/3=((0:Nat):Int)\/(q3:Int)/3=((1:Nat):Int):=();rcases hq with hq|hq
 ·refine⟨⟨wd,w,[a,q1]⟩,k',x',aO,ho.ok,ho.len.1,ho.len.2,bZ q1 (),by omega,?_⟩;rw[aN rfl (d+3) _ _ rfl];have hq22:=@oR (q3:Int) 3 (·) (·);erw[11,aCZ,e1,e2,e3,hq22,hq,aEZ,e4,h.take]
 ·refine⟨⟨wd,w,[a,q2]⟩,k',x',aO,ho.ok,ho.len.1,ho.len.2,bZ q2 (),by omega,?_⟩;rw[aN rfl (d+3) _ _ rfl];have hq23:=@oR (q3:Int) 3 (·) (·);erw[11,aCZ,e1,e2,e3,hq23,hq,aEO,e4,h.take]
def xH(wd:Wd)(w:Nat):Nat:=if (wd=.same\/wd=.less\/wd=.under) then 1 else w
def aJF{x:Int}{rs:List Rw}(h:At S n p)(d w:Nat)(wd:Wd)(hr:dP [] rs)(h0:0<↑rs)(hl:↑rs<=90)(hw:1<=w)(cD:w<=64)(hk:k<=97000) :
 ∃ (a b k':Nat) (x':Int) (aO:List Rw),dP [] aO/\(∃ t,aO=rs++t/\↑t<=2)/\(aO.map (·.w))[a]?=qz w/\(aO.map (·.w))[b]?=qz w/\k'<=k+6 /\
  cl fns (d+4) 75 [.loc n,.loc p,.d (.str wd.s),.d (.int w)] (aQ S n p ns k x rs)=qz (.d (.tuple [.str wd.s,.int (xH wd w:Nat),.int a,.int b]),aQ S n p ns k' x' aO):=by
 let(a,k1,x1,rs1,o1,hk1,e1):=@vG _ _ _ k ns x _ h d w hr h0 () hw cD ();have l1:=o1.len;let(b,k2,x2,rs2,o2,hk2,e2):=@vG _ _ _ k1 ns x1 _ h d w o1.ok () () hw cD ();refine⟨a,b,k2,x2,rs2,o2.ok,?_,o2.keep o1.wd,o2.wd,by omega,?_⟩
 ·let(t1,rfl,ht1):=o1.ext;let(t2,rfl,ht2):=o2.ext;exact⟨t1++t2,by simp,by simp;omega⟩
 ·rw[aN rfl (d+3) _ _ rfl];by_cases c:wd=.same\/wd=.less\/wd=.under
  ·have is:=aA2 wd;rw[dqT c] at is;have pw:xH wd w=1:=if_pos c;erw[11,aDc,e1,e2,is,pw,h.take]
  ·have is:=aA2 wd;rw[dqF c] at is;have pw:xH wd w=w:=if_neg c;erw[11,aDc,e1,e2,is,pw,h.take]
def dZ(k:Nat):Sx:=match kQ with|.seq a1 (.seq a2 (.seq a3 (.seq a4 (.seq a5 (.seq a6 (.seq a7 _))))))=>[a1,a2,a3,a4,a5,a6,a7].getD k .skip|_=>.skip
def aPK:kQ=.seq (dZ 0) (.seq (dZ 1) (.seq (dZ 2) (.seq (dZ 3) (.seq (dZ 4) (.seq (dZ 5) (.seq (dZ 6) .skip)))))):=rfl
def aXX(a b c e f:D):bV .Add (.tuple [a,b,c]) (.tuple [e,f])=qz (.tuple [a,b,c,e,f]):=by show(if [a,b,c].isEmpty=false/\↑[a,b,c]+↑[e,f]<=qk then qz (yAk ([a,b,c]++[e,f])) else qx)=_;rw[if_pos ⟨rfl,by rw[zq];show 3+2<=16777216;decide⟩];rfl
def aYf(a b c e:D):dY [a,b,c,e] (qz 2) qx=[c,e]:=rfl
def aW2:(HT.sIx 4 0 (qz 2)=0/\HT.sIx 4 4 qx=4)=False:=by simp[HT.sIx]
def aST{x:Int}{rs:List Rw}(h:At S n p)(d w:Nat)(wd:Wd)(l2 e5 e6:Option W)(hr:dP [] rs)(h0:0<↑rs)(hl:↑rs<=80)(hw:1<=w)(cD:w<=64)(hk:k<=96000) :
 ∃ (r:Rw) (k':Nat) (x':Int) (aO:List Rw) (e6':Option W),dP [] aO/\↑rs<=↑aO/\↑aO<=↑rs+3/\gW (aO.map (·.w)) r/\k'<=k+12 /\
  xs (d<$>4) (dZ 5) [#[n],#[p],l2,qz (.d (.str wd.s)),(w:),e5,e6] (aQ S n p ns k x rs)=qz (.nx [#[n],#[p],l2,qz (.d (.str wd.s)),(w:),qz (.d r.d),e6'],aQ S n p ns k' x' aO):=by
 have c1:aW .Eq (.str wd.s) (.str "in")=qz (.bool (decide (wd=.in))):=cG wd .in;by_cases k1:wd=.in
 ·subst k1;refine⟨⟨.in,w,[]⟩,k,x,rs,e6,hr,by omega,by omega,⟨hw,cD,True.intro⟩,by omega,?_⟩;exact rA (dC rfl c1) (qR rfl)
 rw[dqF k1] at c1;have q1:=λ {r S1}=>@zI (dZ 5) _ [#[n],#[p],l2,qz (.d (.str wd.s)),(w:),e5,e6] (aQ S n p ns k x rs) _ S1 r _ (d<$>4) rfl (dC rfl c1)
 clear c1;have c2:aW .Eq (.str wd.s) (.str "num")=qz (.bool (decide (wd=.num))):=cG wd .num;by_cases k2:wd=.num
 ·subst k2;let(q,k',x',hq,hk',e):=@aJ8 _ _ _ k ns x rs h.toAt0 (d+1) w hw cD ();refine⟨⟨.num,w,[q]⟩,k',x',rs,e6,hr,by omega,by omega,⟨hw,cD,hq⟩,by omega,q1 (rA (dC rfl c2) (qR ?_))⟩;erw[0,e]
 rw[dqF k2] at c2;have q2:=λ {r S1} h=>q1 (zI (r:=r) (S1:=S1) rfl (dC rfl c2) h)
 clear c2;have c3:aW .Eq (.str wd.s) (.str "not")=qz (.bool (decide (wd=.not))):=cG wd .not;by_cases k3:wd=.not
 ·subst k3;let(a,k',x',aO,o,hk',e):=@vG _ _ _ k ns x _ h (d+1) w hr h0 () hw cD ();have l:=o.len;refine⟨⟨.not,w,[a]⟩,k',x',aO,e6,o.ok,by omega,by omega,⟨hw,cD,o.wd⟩,by omega,q2 (rA (dC rfl c3) (qR ?_))⟩;erw[0,e]
 rw[dqF k3] at c3;have q3:=λ {r S1} h=>q2 (zI (r:=r) (S1:=S1) rfl (dC rfl c3) h)
 clear c3;have c4:=aDw wd;by_cases k4:wd=.left\/wd=.right\/wd=.slide
 ·rw[dqT k4] at c4;let(r,k',x',aO,ok,l1,l2,okr,hk',e):=aDr (ns:=ns) (k:=k) (x:=x) h d w wd k4 hr h0 () hw cD ();refine⟨r,k',x',aO,e6,ok,by omega,by omega,okr,by omega,q3 (rA (iG rfl rfl c4) (qR ?_))⟩;erw[0,e]
 rw[dqF k4] at c4;have q4:=λ {r S1} h=>q3 (zI (r:=r) (S1:=S1) rfl (iG rfl rfl c4) h)
 clear c4;have c5:=aVQ wd;by_cases k5:wd=.cut\/wd=.wide\/wd=.sign
 ·rw[dqT k5] at c5;let(r,x',okr,e):=aAK (ns:=ns) (k:=k) (x:=x) h (d+2) wd k5 hr h0 () ();refine⟨r,k+2,x',rs,e6,hr,by omega,by omega,okr,by omega,q4 (rA (iG rfl rfl c5) (qR ?_))⟩;erw[0,e]
 rw[dqF k5] at c5;have q5:=λ {r S1} h=>q4 (zI (r:=r) (S1:=S1) rfl (iG rfl rfl c5) h)
 clear c5;have c6:aW .Eq (.str wd.s) (.str "pick")=qz (.bool (decide (wd=.pick))):=cG wd .pick;by_cases k6:wd=.pick
 ·subst k6;let(c,k1',x1,rs1,o1,hk1,e1):=@vG _ _ _ k ns x _ h (d+1) 1 hr h0 () (·) (·) ();have l1:=o1.len;let(a,b,k',x',aO,ok,(t,rfl,ht),wa,wb,hk',e2):=@aJF _ _ _ k1' ns x1 _ h d w .pick o1.ok () () hw cD ();have wc:((rs1++t).map (·.w))[c]?=qz 1:=by
   rw[yAv,xAm (gIm o1.wd).1];exact o1.wd
  rw[show((1:Nat):Int)=1 from rfl] at e1;refine⟨⟨.pick,w,[c,a,b]⟩,k',x',rs1++t,(c:),ok,by simp;omega,by simp;omega,⟨hw,cD,wc,wa,wb⟩,by omega,q5 (rA (dC rfl c6) (cF (S1:=aQ S n p ns k1' x1 rs1) (w:=.d (.int c)) ?_ rfl (qR ?_)))⟩
  ·erw[0,e1]
  ·erw[0,e2,oG,pC,zT,aW2,aYf,aXX]
 rw[dqF k6] at c6;let(a,b,k',x',aO,ok,(t,rfl,ht),wa,wb,hk',e2):=@aJF _ _ _ k ns x _ h d w wd hr h0 () hw cD ();have okr:gW ((rs++t).map (·.w)) ⟨wd,xH wd w,[a,b]⟩:=by
  clear q1 q2 q3 q4 q5 c6 e2;cases wd
  all_goals first|exact⟨hw,cD,wa,wb⟩|exact⟨yAb 1,oqT rfl,rfl,w,wa,wb⟩|exact absurd rfl k1|exact absurd rfl k2|exact absurd rfl k3|exact absurd rfl k6|exact absurd (.inl rfl) k4|exact absurd (.inr (.inl rfl)) k4|exact absurd (.inr (.inr rfl)) k4|exact absurd (.inl rfl) k5|exact absurd (.inr (.inl rfl)) k5|exact absurd (.inr (.inr rfl)) k5
 refine⟨⟨wd,xH wd w,[a,b]⟩,k',x',rs++t,e6,ok,by simp,by simp;omega,okr,by omega,q5 (aER (dC rfl c6) (qR ?_))⟩;erw[0,e2]
def wds:List Wd:=[.in,.num,.num,.not,.and,.or,.xor,.add,.sub,.mul,.left,.right,.slide,.cut,.wide,.sign,.same,.less,.under,.pick]
def lV:D:=.list (wds.map λ w=>yDc w.s)
def row_ok{x:Int}{rs:List Rw}(h:At S n p)(d:Nat)(hr:dP [] rs)(h0:0<↑rs)(hl:↑rs<=80)(hk:k<=95000) :
 ∃ (k':Nat) (x':Int) (aO:List Rw),dP [] aO/\↑rs<=↑aO/\↑aO<=↑rs+4/\k'<=k+20/\cl fns (d+5) 76 [.loc n,.loc p] (aQ S n p ns k x rs)=qz (.d .none,aQ S n p ns k' x' aO):=by
 have s01:xs (d<$>4) (.seq (dZ 0) (dZ 1)) [#[n],#[p],qx,qx,qx,qx,qx] (aQ S n p ns k x rs)=qz (.nx [#[n],#[p],qz (.d lV),qx,qx,qx,qx],aQ S n p ns k x rs):=by
  erw[20,dZ,kQ,yBs,yBi];rw[aSR (by simp)];erw[0,True]
 let(q1,x1,h1,e1):=iT (ns:=ns) (k:=k) (x:=x) (rs:=rs) h.toAt0 (d+3) 20 (i:=20) rfl (·) (·) ();obtain⟨wd,bC⟩:∃ wd,wds[q1]?=qz wd:=⟨wds[q1],yAa (by simpa [wds] using h1)⟩;have gw:aH lV (.int q1)=qz (.str wd.s):=mI (by rw[yAd,bC];rfl);have s2:xs (d<$>4) (dZ 2) [#[n],#[p],qz (.d lV),qx,qx,qx,qx] (aQ S n p ns k x rs)=qz (.nx [#[n],#[p],qz (.d lV),qz (.d (.str wd.s)),qx,qx,qx],aQ S n p ns (k+1) x1 rs):=by
  erw[2,dZ,kQ,yBs,yBi,e1,gw]
 let(a,x2,ha,e2):=@gE _ _ _ (k+1) ns x1 rs h.toAt0 (d+3) ↑rs h0 () ();obtain⟨r,hra⟩:∃ r,rs[a]?=qz r:=⟨rs[a],yAa ha⟩;let(cB,cD):=aC3 hr hra;have s3:xs (d<$>4) (dZ 3) [#[n],#[p],qz (.d lV),qz (.d (.str wd.s)),qx,qx,qx] (aQ S n p ns (k+1) x1 rs)=qz (.nx [#[n],#[p],qz (.d lV),qz (.d (.str wd.s)),(r.w:),qx,qx],aQ S n p ns (k+2) x2 rs):=by
  erw[2,dZ,kQ,yBs,yBi,h.rows,dR,dU,rows_len,e2,aBs hra,dD]
 let(q3,x3,h3,e3):=iT (ns:=ns) (k:=k+2) (x:=x2) (rs:=rs) h.toAt0 (d+3) 4 (i:=4) rfl (·) (·) ();obtain⟨w,k4,x4,hw3,hw4,hk4,s4⟩:∃ (w k4:Nat) (x4:Int),1<=w/\w<=64/\k4<=k+6/\xs (d<$>4) (dZ 4) [#[n],#[p],qz (.d lV),qz (.d (.str wd.s)),(r.w:),qx,qx] (aQ S n p ns (k+2) x2 rs)=qz (.nx [#[n],#[p],qz (.d lV),qz (.d (.str wd.s)),(w:),qx,qx],aQ S n p ns k4 x4 rs):=by
  rcases yDy ((q3:Int)==1) with c|c
  ·let(w,x4,g1,g2,e4):=@aIo _ _ _ (k+3) ns x3 rs h.toAt0 (d+2) ();refine⟨w,k+6,x4,g1,g2,by omega,?_⟩;erw[2,dZ,kQ,yBs,yBi,e3,bP,c,e4]
  ·refine⟨r.w,k+3,x3,cB,cD,by omega,?_⟩;erw[2,dZ,kQ,yBs,yBi,e3,bP,c]
 let(rr,k',x',aO,e6',ok,l1,l2,okr,hk',s5):=@aST _ _ _ k4 ns x4 _ h d w wd (qz (.d lV)) qx qx hr h0 hl hw3 hw4 ();refine⟨k',x',aO++[rr],aCX ok (by simpa using okr),by simp;omega,by simp;omega,by omega,?_⟩;rw[aN rfl (d+4) _ _ rfl];have full:xs (d<$>4) kQ [#[n],#[p],qx,qx,qx,qx,qx] (aQ S n p ns k x rs)=qz (.nx [#[n],#[p],qz (.d lV),qz (.d (.str wd.s)),(w:),qz (.d rr.d),e6'],aQ S n p ns k' x' (aO++[rr])):=by
  have s01':∀ r:Sx,xs (d<$>4) (.seq (dZ 0) (.seq (dZ 1) r)) [#[n],#[p],qx,qx,qx,qx,qx] (aQ S n p ns k x rs)=xs (d<$>4) r [#[n],#[p],qz (.d lV),qx,qx,qx,qx] (aQ S n p ns k x rs):=λ r=>by
   simp only[oT,eC] at s01 ⊢;cases q:xs (d<$>4) (dZ 0) [#[n],#[p],qx,qx,qx,qx,qx] (aQ S n p ns k x rs) with
   |none=>rw[q] at s01;cases s01
   |some z=>
     let(fl,S1):=z;rw[q] at s01;cases fl with
     |nx e=>
       simp only[oB] at s01 ⊢;rw[s01];simp only[oB]
     |rt w=>cases s01|bk e=>cases s01|ct e=>cases s01
  rw[aPK,s01',dX s2,dX s3,dX s4,dX s5];have hq24:=λ ns k x=>aAX (ns:=ns) (k:=k) (x:=x) h (show ↑aO<=1000 by omega)
  erw[2,dZ,kQ,yBs,yBi,lK,hq24]
 show((xs (d<$>4) kQ [#[n],#[p],qx,qx,qx,qx,qx] (aQ S n p ns k x rs)).bind _)=_;rw[full];simp only[oB,h.take]
end GP
def tr(n w:Nat):Nat:=w-bl (n^^^(2^w-1))
def aTZ(n w i:Nat):(n^^^(2^w-1))[i]! =(n[i]! ^^ decide (i<w)):=by rw[xAn,fB]
def aLx(n w:Nat):tr n w<=w:=yFw _ _
def aJd(hi:w-tr n w<=i)(hw:i<w):n[i]! =true:=by
 have h1:bl (n^^^(2^w-1))<=i:=by unfold tr at hi;omega
 have h2:=dO (tS (n^^^(2^w-1))) h1;rw[aTZ,dqT hw] at h2;cases q:n[i]! with
 |true=>rfl|false=>rw[q] at h2;cases h2
def dL(a w:Nat):Nat:=(2^w-1)^^^(2^(w-a)-1)
def oK:(dL a w)[i]! =(decide (w-a<=i)&&decide (i<w)):=by
 unfold dL;rw[xAn,fB,fB];by_cases h1:i<w<;>by_cases h2:i<w-a
 ·rw[dqT h1,dqT h2,dqF ()];rfl
 ·rw[dqT h1,dqF h2,dqT ()];rfl
 ·omega
 ·rw[dqF h1,dqF h2,yDs];rfl
def aEe:x&&&y≠0 ↔ ∃ i,x[i]! =true/\y[i]! =true:=by
 constructor
 ·intro h;by_cases c:∃ i,x[i]! =true/\y[i]! =true
  ·exact c
  ·refine absurd ((oO _).mpr λ i=>?_) h;rw[yAj];cases h1:x[i]!<;>cases h2:y[i]!<;>first|rfl|exact absurd ⟨i,h1,h2⟩ c
 ·rintro ⟨i,h1,h2⟩ z;rw[oO] at z;have:=z i;rw[yAj,h1,h2] at this;cases this
def dB(x a w:Nat):Nat:=if x&&&dL a w=0 then x else x|||dL a w
def aBA(h:x<2^w):dB x a w<2^w:=by
 unfold dB;split
 ·exact h
 ·exact yBf h (by
   apply yCl;intro i hi;rw[oK,dqF (show ¬ i<w by omega),yDs])
def aBv:(dB x a w)[i]! =true ↔ x[i]! =true\/((w-a<=i/\i<w)/\∃ j,(w-a<=j/\j<w)/\x[j]! =true):=by
 unfold dB;split
 ·rename_i h;constructor
  ·intro z;exact .inl z
  ·rintro (z|⟨_,j,h1,h2⟩)
   ·exact z
   ·refine absurd h (aEe.mpr ⟨j,h2,?_⟩);rw[oK,dqT h1.1,dqT h1.2];rfl
 ·rename_i h;let(j,h1,h2):=aEe.mp h;rw[oK,yAy,decide_eq_true_eq,decide_eq_true_eq] at h2;rw[xAo,yEm,oK,yAy,decide_eq_true_eq,decide_eq_true_eq];constructor
  ·rintro (z|z)
   ·exact .inl z
   ·exact .inr ⟨z,j,h2,h1⟩
  ·rintro (z|⟨z,_⟩)
   ·exact .inl z
   ·exact .inr z
def yO(i j k:Nat):Nat:=max (max i j) k
structure Ft where
 N:Nat
 O:Nat
 A:Nat
def iQ(f:Ft)(w:Nat):Ft:=⟨dB f.N f.A w,dB f.O f.A w,yO f.A (tr (dB f.N f.A w) w) (tr (dB f.O f.A w) w)⟩
def Hd(f:Ft)(n w:Nat):Prop:=(∀ i,f.N[i]! =true->n[i]! =false)/\(∀ i,f.O[i]! =true->n[i]! =true)/\((∀ i,w-f.A<=i->i<w->n[i]! =true)\/(∀ i,w-f.A<=i->i<w->n[i]! =false))
structure FtOk(f:Ft)(w:Nat):Prop where
 lN:f.N<2^w
 lO:f.O<2^w
 a1:1<=f.A
 aw:f.A<=w
def aLS(h:FtOk f w):FtOk (iQ f w) w:=by have h1:=aLx (dB f.N f.A w) w;have h2:=aLx (dB f.O f.A w) w;have h3:=h.a1;have h4:=h.aw;exact⟨aBA h.lN,aBA h.lO,xAh h3 (xAh (yDk _ _) (yDk _ _)),Nat.max_le.mpr ⟨Nat.max_le.mpr ⟨h4,h1⟩,h2⟩⟩
def aP7(h:FtOk f w):Hd (iQ f w) n w ↔ Hd f n w:=by
 have aA:f.A<=(iQ f w).A:=xAh (yDk _ _) (yDk _ _);constructor
 ·rintro ⟨h1,h2,h3⟩;refine⟨λ i hi=>h1 i (aBv.mpr (.inl hi)),λ i hi=>h2 i (aBv.mpr (.inl hi)),?_⟩;rcases h3 with h3|h3
  ·exact .inl λ i a b=>h3 i (xAh (yFe aA _) a) b
  ·exact .inr λ i a b=>h3 i (xAh (yFe aA _) a) b
 ·rintro ⟨h1,h2,h3⟩;have hN:∀ i,(iQ f w).N[i]! =true->n[i]! =false:=λ i hi=>by
   rcases aBv.mp hi with z|⟨⟨a,b⟩,j,⟨c,d⟩,e⟩
   ·exact h1 i z
   ·rcases h3 with h3|h3
    ·have x1:=h3 j c d;rw[h1 j e] at x1;cases x1
    ·exact h3 i a b
  have hO:∀ i,(iQ f w).O[i]! =true->n[i]! =true:=λ i hi=>by
   rcases aBv.mp hi with z|⟨⟨a,b⟩,j,⟨c,d⟩,e⟩
   ·exact h2 i z
   ·rcases h3 with h3|h3
    ·exact h3 i a b
    ·have x1:=h3 j c d;rw[h2 j e] at x1;cases x1
  refine⟨hN,hO,?_⟩;have cA:(iQ f w).A=f.A\/(iQ f w).A=tr (iQ f w).N w\/(iQ f w).A=tr (iQ f w).O w:=by
   show max (max _ _) _=_\/max (max _ _) _=tr (dB f.N f.A w) w\/max (max _ _) _=tr (dB f.O f.A w) w;omega
  rcases cA with c|c|c
  ·rw[c];exact h3
  ·rw[c];exact .inr λ i a b=>hN i (aJd a b)
  ·rw[c];exact .inl λ i a b=>hO i (aJd a b)
def aYU(h:Hd f n w):f.N&&&f.O=0:=by
 by_cases c:f.N&&&f.O=0
 ·exact c
 ·let(i,h1,h2):=aEe.mp c;have x:=h.1 i h1;rw[h.2.1 i h2] at x;cases x
def aBp(hn:n<2^w)(hi:i<w):(2^w-1-n)[i]! = !n[i]!:=by have:=sW hn i;unfold rV at this;rw[this,dqT hi,yBc]
def aQU(hn:n<2^w)(ha:a<=w):n/2^(w-a)=2^a-1 ↔ ∀ i,w-a<=i->i<w->n[i]! =true:=by
 constructor
 ·intro h i h1 h2;have:(n/2^(w-a))[(i-(w-a))]! =(2^a-1)[(i-(w-a))]!:=by rw[h]
  rw[mB,fB,show w-a+(i-(w-a))=i by omega,dqT ()] at this;exact this
 ·intro h;apply xAl;intro i;rw[mB,fB];by_cases c:i<a
  ·rw[h _ () (),dqT c]
  ·rw[dO hn (),dqF c]
def aQ4(hn:n<2^w)(ha:a<=w):n/2^(w-a)=0 ↔ ∀ i,w-a<=i->i<w->n[i]! =false:=by
 rw[aCN];constructor
 ·intro h i h1 _;exact h i h1
 ·intro h i h1;by_cases c:i<w
  ·exact h i h1 c
  ·exact dO hn ()
def aQA:(x&&&y=0) ↔ ∀ i,y[i]! =true->x[i]! =false:=by
 rw[oO];constructor
 ·intro h i hy;have:=h i;rw[yAj,hy,yCc] at this;exact this
 ·intro h i;rw[yAj];cases hy:y[i]! with|false=>exact yDs _|true=>rw[h i hy];rfl
def aHH{x y:Nat}:(x&&&y=y) ↔ ∀ i,y[i]! =true->x[i]! =true:=by
 constructor
 ·intro h i hy;have:=congrArg (λ z=>z[i]!) h;simp only[yAj,hy,yCc] at this;exact this
 ·intro h;apply xAl;intro i;rw[yAj];cases hy:y[i]! with|false=>exact yDs _|true=>rw[h i hy];rfl
def dF(d w:Nat)(h:w<=100000)(S:aC):cl fns (d+1) 0 [.d (.int w)] S=qz (.d (.int ((2^w-1:Nat):Int)),S):=by rw[aN rfl d _ S rfl];erw[11,aMd,gR h,cP,aAI]
def aRC(n:Nat):yAm (n:Int)=bl n:=aGW n
def aAR(d n:Nat)(S:aC):cl fns (d+1) 1 [.d (.int n)] S=qz (.d (.int ((bl n:Nat):Int)),S):=by rw[aN rfl d _ S rfl];erw[11,aLl,aEL,aLM,aRC]
def lr(n:Nat):Nat:=bl (n^^^(n+1))-1
def aSf(n:Nat):lr n=mL (pE n (bl n+1)):=aG6 (bl n+1) n (xAb (tS n) (yAz (·) ()))
def aIl(d n:Nat)(S:aC)(h:n<2^10000):cl fns (d+2) 2 [.d (.int n)] S=qz (.d (.int ((2^bl n-1:Nat):Int)),S):=by rw[aN rfl (d+1) _ S rfl];have hq25:=dF d (bl n) (xAh (tV h) (·));erw[11,aK2,aAR d n,hq25]
def aK9(h:n<2^w)(hw:w<=10000):n<2^10000:=xAb h (yAz (·) hw)
def aEx(d n:Nat)(S:aC):cl fns (d+2) 3 [.d (.int n)] S=qz (.d (.int ((lr n:Nat):Int)),S):=by
 have h1:=aHU (aGQ n);have e1:(n:Int)+1=((n+1:Nat):Int):=();have e2:((bl (n^^^(n+1)):Nat):Int)-1=((lr n:Nat):Int):=by unfold lr;omega
 rw[aN rfl (d+1) _ S rfl];erw[11,aIE,cV,e1,mZ,aAR d,cP,e2]
def Ft.d(f:Ft):D:=.tuple [.int f.N,.int f.O,.int f.A]
def iA(f:Ft):aH f.d (.int 0)=qz (.int f.N):=rfl
def iN(f:Ft):aH f.d (.int 1)=qz (.int f.O):=rfl
def jP(f:Ft):aH f.d (.int 2)=qz (.int f.A):=rfl
def aAN(a b:Nat):(((a:Nat):Int)==((b:Nat):Int))=(a==b):=by rw[yDf,beq_iff_eq,beq_iff_eq];omega
def aHJ(d n w:Nat)(S:aC)(hn:n<2^w)(hw:w<=64):cl fns (d+2) 4 [.d (.int n),.d (.int w)] S=qz (.d (.int ((tr n w:Nat):Int)),S):=by
 have h1:=tV (aOp hn);have e2:(w:Int)-((bl (n^^^(2^w-1)):Nat):Int)=((tr n w:Nat):Int):=by unfold tr;omega
 rw[aN rfl (d+1) _ S rfl];have hq26:=dF d w ();erw[11,aIh,hq26,mZ,aAR d,cP,e2]
def qD(d a w:Nat)(S:aC)(ha:a<=w)(hw:w<=64):cl fns (d+2) 21 [.d (.int a),.d (.int w)] S=qz (.d (.int ((dL a w:Nat):Int)),S):=by have e:(w:Int)-(a:Int)=((w-a:Nat):Int):=();rw[aN rfl (d+1) _ S rfl];have hq27:=dF d w ();have hq28:=dF d (w-a) ();erw[11,aHO,hq27,cP,e,hq28,mZ]
def mxI(i j:Nat):(if (j:Int)>(i:Int) then ((j:Nat):Int) else ((i:Nat):Int))=((max i j:Nat):Int):=by
 by_cases h:(j:Int)>(i:Int)
 ·rw[if_pos h];omega
 ·rw[if_neg h];omega
def aAM(i j k:Nat):nQ [.int i,.int j,.int k]=qz (.int ((yO i j k:Nat):Int)):=by
 show qz (yAn (if (j:Int)>(i:Int) then (if (k:Int)>(j:Int) then (k:Int) else (j:Int)) else (if (k:Int)>(i:Int) then (k:Int) else (i:Int))))=_;rw[mxI,mxI];unfold yO;by_cases h:(j:Int)>(i:Int)
 ·rw[if_pos h,show max (max i j) k=max j k by omega]
 ·rw[if_neg h,show max (max i j) k=max i k by omega]
def aPR(i j:Nat):nQ [.int i,.int j]=qz (.int ((max i j:Nat):Int)):=by show qz (yAn (if (j:Int)>(i:Int) then ((j:Nat):Int) else ((i:Nat):Int)))=_;rw[mxI]
def aEr(h:(x&&&dL a w==0)=true):dB x a w=x:=by unfold dB;rw[if_pos (eq_of_beq h)]
def aD4(h:(x&&&dL a w==0)=false):dB x a w=x|||dL a w:=by unfold dB;rw[if_neg (by simpa using h)]
def aPu(d:Nat)(f:Ft)(w:Nat)(k:FtOk f w)(hw:w<=64)(S:aC):cl fns (d+3) 23 [.d f.d,.d (.int w)] S=qz (.d (iQ f w).d,S):=by
 have t1:=aHJ d (dB f.N f.A w) w S (aBA k.lN) hw;have t2:=aHJ d (dB f.O f.A w) w S (aBA k.lO) hw;rw[aN rfl (d+2) _ S rfl];show _=qz (W.d (.tuple [.int ((dB f.N f.A w:Nat):Int),.int ((dB f.O f.A w:Nat):Int),.int ((yO f.A (tr (dB f.N f.A w) w) (tr (dB f.O f.A w) w):Nat):Int)]),S);cases c1:(f.N&&&dL f.A w==0) with
 |true=>
   rw[aEr c1] at t1 ⊢;cases c2:(f.O&&&dL f.A w==0) with
   |true=>
     rw[aEr c2] at t2 ⊢;erw[11,vX,Ft.d,qD (d:=d) (a:=f.A) (w:=w) (S:=S) k.aw hw,dJ,qU,eO,c1,c2,t1,t2,aAM]
   |false=>
     rw[aD4 c2] at t2 ⊢;erw[11,vX,Ft.d,qD (d:=d) (a:=f.A) (w:=w) (S:=S) k.aw hw,dJ,qU,eO,c1,c2,fG,t1,t2,aAM]
 |false=>
   rw[aD4 c1] at t1 ⊢;cases c2:(f.O&&&dL f.A w==0) with
   |true=>
     rw[aEr c2] at t2 ⊢;erw[11,vX,Ft.d,qD (d:=d) (a:=f.A) (w:=w) (S:=S) k.aw hw,dJ,qU,eO,c1,c2,fG,t1,t2,aAM]
   |false=>
     rw[aD4 c2] at t2 ⊢;erw[11,vX,Ft.d,qD (d:=d) (a:=f.A) (w:=w) (S:=S) k.aw hw,dJ,qU,eO,c1,c2,fG,t1,t2,aAM]
def vQ(d:Nat)(f:Ft)(S:aC):cl fns (d+1) 24 [.d f.d] S=qz (.d (.int f.O),S):=by rw[aN rfl d _ S rfl];erw[11,aKK,iN]
def aAq(d:Nat)(f:Ft)(w:Nat)(lN:f.N<2^w)(hw:w<=64)(S:aC):cl fns (d+2) 25 [.d f.d,.d (.int w)] S=qz (.d (.int ((2^w-1-f.N:Nat):Int)),S):=by
 have e:(2^w-1)^^^f.N=2^w-1-f.N:=by
  apply xAl;intro i;have:=sW lN i;unfold rV at this;rw[this,xAn,fB];by_cases c:i<w
  ·rw[dqT c];cases f.N[i]!<;>rfl
  ·rw[dqF c,dO lN ()];rfl
 rw[aN rfl (d+1) _ S rfl];have hq29:=dF d w ();erw[11,aHx,iA,hq29,mZ,e]
def aAn(d n w v:Nat)(S:aC)(hw:0<w)(hv:v<=1000)(cD:w<=64):cl fns (d+2) 5 [.d (.int n),.d (.int w),.d (.int v)] S=qz (.d (.int ((fL n w v:Nat):Int)),S):=by
 have e1:(w:Int)-1=((w-1:Nat):Int):=();rw[aN rfl (d+1) _ S rfl];unfold fL;by_cases c:n&&&2^(w-1)=0
 ·have d1:(n&&&2^(w-1)==0)=true:=by rw[beq_iff_eq];exact c
  rw[if_pos c];have hq30:=gR (show w-1<=100000 by omega);erw[11,aC4,cP,e1,hq30,dJ,bP,eO,d1]
 ·have d1:(n&&&2^(w-1)==0)=false:=by rw[beq_eq_false_iff_ne];exact c
  rw[if_neg c];have hq31:=gR (show w-1<=100000 by omega);have hq32:=dF d v ();have hq33:=dF d w ();erw[11,aC4,cP,e1,hq31,dJ,bP,eO,d1,hq32,hq33,mZ,fG]
def aDu(a k:Nat):nQ [.int 1,.int ((a:Nat)-(k:Nat):Int)]=qz (.int ((max 1 (a-k):Nat):Int)):=by unfold nQ;simp only[];congr 2;by_cases h1:(a:Int)-(k:Int)>1<;>simp only[h1,if_true,if_false]<;>omega
def lX(i j:Nat):gK [.int i,.int j]=qz (.int ((min i j:Nat):Int)):=by unfold gK;simp only[];congr 2;by_cases h1:(j:Int)<(i:Int)<;>simp only[h1,if_true,if_false]<;>omega
def wZ(w:Nat)(f:Ft)(k:Nat):Ft:=⟨(f.N*2^k|||(2^k-1))&&&(2^w-1),f.O*2^k&&&(2^w-1),max 1 (f.A-k)⟩
def aSW(d w:Nat)(f:Ft)(k:Nat)(hf:FtOk f w)(hw:w<=64)(hk:k<=1000)(S:aC):cl fns (d+2) 36 [.d (.int w),.d f.d,.d (.int k)] S=qz (.d (wZ w f k).d,S):=by rw[aN rfl (d+1) _ S rfl];have hq34:=wC hf.lN (show w+k<=100000 by omega);have hq35:=wC hf.lO (show w+k<=100000 by omega);have hq36:=dF d k ();have hq37:=dF d w ();erw[11,aG7,iA,iN,jP,hq34,hq35,hq36,hq37,fG,dJ,cP,aDu]
def nA(w:Nat)(f:Ft)(k:Nat):Ft:=⟨f.N/2^k|||dL (min k w) w,f.O/2^k,if k=0 then f.A else 1⟩
def aQz(d w:Nat)(f:Ft)(k:Nat)(hw:w<=64)(S:aC):cl fns (d+3) 37 [.d (.int w),.d f.d,.d (.int k)] S=qz (.d (nA w f k).d,S):=by
 have tm:=qD d (min k w) w S () hw;rw[aN rfl (d+2) _ S rfl];by_cases c:k=0
 ·have d1:(k==0)=true:=by rw[beq_iff_eq];exact c
  have e:(nA w f k).d=.tuple [.int ((f.N/2^k|||dL (min k w) w:Nat):Int),.int ((f.O/2^k:Nat):Int),.int f.A]:=by unfold nA;rw[if_pos c];rfl
  rw[e];erw[11,aC0,iA,iN,jP,kR,lX,tm,fG,bP,eO,d1]
 ·have d1:(k==0)=false:=by rw[beq_eq_false_iff_ne];exact c
  have e:(nA w f k).d=.tuple [.int ((f.N/2^k|||dL (min k w) w:Nat):Int),.int ((f.O/2^k:Nat):Int),.int 1]:=by unfold nA;rw[if_neg c];rfl
  rw[e];erw[11,aC0,iA,iN,jP,kR,lX,tm,fG,bP,eO,d1]
def wU(w:Nat)(f:Ft)(k:Nat):Ft:=⟨fL f.N w (w+k)/2^k,fL f.O w (w+k)/2^k,min w (f.A+k)⟩
def aRf(d w:Nat)(f:Ft)(k:Nat)(cB:1<=w)(hw:w<=64)(hk:k<=900)(S:aC):cl fns (d+3) 38 [.d (.int w),.d f.d,.d (.int k)] S=qz (.d (wU w f k).d,S):=by have e1:(w:Int)+(k:Int)=((w+k:Nat):Int):=();have e2:(f.A:Int)+(k:Int)=((f.A+k:Nat):Int):=();rw[aN rfl (d+2) _ S rfl];have hq38:=aAn d f.N w (w+k) S () () hw;have hq39:=aAn d f.O w (w+k) S () () hw;erw[11,aGK,iA,iN,jP,cV,e1,e2,hq38,hq39,kR,lX]
def xY(v w:Nat)(f:Ft):Ft:=⟨f.N&&&(2^w-1),f.O&&&(2^w-1),max 1 (f.A-(v-w))⟩
def nJ(v w:Nat)(f:Ft):Ft:=⟨f.N|||dL (w-v) w,f.O,if w=v then f.A else 1⟩
def xJ(v w:Nat)(f:Ft):Ft:=⟨fL f.N v w,fL f.O v w,f.A+(w-v)⟩
def aT8(d v w:Nat)(f:Ft)(hv:w<=v)(hw:w<=64)(S:aC):cl fns (d+2) 40 [.d (.str "cut"),.d (.int v),.d (.int w),.d f.d] S=qz (.d (xY v w f).d,S):=by have c1:aW .Eq (.str "cut") (.str "cut")=qz (.bool true):=cG .cut .cut;have e1:(v:Int)-(w:Int)=((v-w:Nat):Int):=();rw[aN rfl (d+1) _ S rfl];have hq40:=dF d w ();erw[11,vJ,Ft.d,c1,hq40,dJ,cP,e1,aDu]
def aSo(d v w:Nat)(f:Ft)(hv:v<=w)(hw:w<=64)(S:aC):cl fns (d+3) 40 [.d (.str "wide"),.d (.int v),.d (.int w),.d f.d] S=qz (.d (nJ v w f).d,S):=by
 have c1:aW .Eq (.str "wide") (.str "cut")=qz (.bool false):=cG .wide .cut;have c2:aW .Eq (.str "wide") (.str "wide")=qz (.bool true):=cG .wide .wide;have e1:(w:Int)-(v:Int)=((w-v:Nat):Int):=();have tm:=qD d (w-v) w S () hw;rw[aN rfl (d+2) _ S rfl];by_cases c:w=v
 ·have d1:(w==v)=true:=by rw[beq_iff_eq];exact c
  have e:(nJ v w f).d=.tuple [.int ((f.N|||dL (w-v) w:Nat):Int),.int f.O,.int f.A]:=by unfold nJ;rw[if_pos c];rfl
  rw[e];erw[11,vJ,Ft.d,c1,c2,cP,e1,tm,fG,bP,aAN,d1]
 ·have d1:(w==v)=false:=by rw[beq_eq_false_iff_ne];exact c
  have e:(nJ v w f).d=.tuple [.int ((f.N|||dL (w-v) w:Nat):Int),.int f.O,.int 1]:=by unfold nJ;rw[if_neg c];rfl
  rw[e];erw[11,vJ,Ft.d,c1,c2,cP,e1,tm,fG,bP,aAN,d1]
def aRZ(d v w:Nat)(f:Ft)(hv1:1<=v)(hv:v<=w)(hw:w<=64)(S:aC):cl fns (d+3) 40 [.d (.str "sign"),.d (.int v),.d (.int w),.d f.d] S=qz (.d (xJ v w f).d,S):=by have c1:aW .Eq (.str "sign") (.str "cut")=qz (.bool false):=cG .sign .cut;have c2:aW .Eq (.str "sign") (.str "wide")=qz (.bool false):=cG .sign .wide;have e1:(w:Int)-(v:Int)=((w-v:Nat):Int):=();have e2:(f.A:Int)+((w-v:Nat):Int)=((f.A+(w-v):Nat):Int):=();rw[aN rfl (d+2) _ S rfl];have hq41:=aAn d f.N v w S () () ();have hq42:=aAn d f.O v w S () () ();erw[11,vJ,Ft.d,c1,c2,cP,e1,hq41,hq42,cV,e2]
def bwN(wd:Wd)(f g:Ft):Ft:=match wd with|.and=>⟨f.N|||g.N,f.O&&&g.O,min f.A g.A⟩|.or=>⟨f.N&&&g.N,f.O|||g.O,min f.A g.A⟩|_=>⟨f.N&&&g.N|||f.O&&&g.O,f.N&&&g.O|||f.O&&&g.N,min f.A g.A⟩
def aAG(d:Nat)(f g:Ft)(S:aC):cl fns (d+1) 34 [.d f.d,.d g.d] S=qz (.d (.int ((f.N&&&g.O|||f.O&&&g.N:Nat):Int)),S):=by rw[aN rfl d _ S rfl];erw[11,aGB,iA,iN,fG,dJ]
def aOZ(d:Nat)(wd:Wd)(bC:wd=.and\/wd=.or\/wd=.xor)(f g:Ft)(S:aC):cl fns (d+2) 35 [.d (.str wd.s),.d f.d,.d g.d] S=qz (.d (bwN wd f g).d,S):=by
 have c1:aW .Eq (.str wd.s) (.str "and")=qz (.bool (decide (wd=.and))):=cG wd .and;have c2:aW .Eq (.str wd.s) (.str "or")=qz (.bool (decide (wd=.or))):=cG wd .or;rw[aN rfl (d+1) _ S rfl];erw[50,bC]
 ·simp only[decide_true] at c1;erw[11,aAk,iA,iN,jP,lX,c1,fG,dJ]
 ·simp only[reduceCtorEq,decide_false,decide_true] at c1 c2;erw[11,aAk,iA,iN,jP,lX,c1,c2,fG,dJ]
 ·simp only[reduceCtorEq,decide_false] at c1 c2;erw[11,aAk,iA,iN,jP,lX,c1,c2,fG,dJ,aAG d]
def dE(f:Ft)(k:Nat):Nat:=2-2*(f.N[k]!).toNat-(f.O[k]!).toNat
def gX{f:Ft}(hd:f.N&&&f.O=0)(k:Nat):(dE f k==0)=f.N[k]!:=by have:=(oO _).mp hd k;rw[yAj] at this;unfold dE;revert this;cases f.N[k]!<;>cases f.O[k]!<;>decide
def hB{f:Ft}(hd:f.N&&&f.O=0)(k:Nat):(dE f k==1)=f.O[k]!:=by have:=(oO _).mp hd k;rw[yAj] at this;unfold dE;revert this;cases f.N[k]!<;>cases f.O[k]!<;>decide
def wY(f:Ft)(k:Nat):dE f k<3:=by unfold dE;omega
def ntN(x:Nat):Nat:=[1,0,2].getD x 2
def aBM(f:Ft)(k i:Nat):Nat:=if i<k then 0 else dE f (i-k)
def aBm(f:Ft)(w k i:Nat):Nat:=if i+k<w then dE f (i+k) else 0
def aMV(f:Ft)(w i:Nat):Nat:=dE f (min i (w-1))
def aBU(f:Ft)(w i:Nat):Nat:=if i<w then dE f i else 0
structure Mk(t:Nat->Nat)(n:Nat)(g:Ft):Prop where
 lN:g.N<2^n
 lO:g.O<2^n
 b0:∀ i,i<n->g.N[i]! =(t i==0)
 b1:∀ i,i<n->g.O[i]! =(t i==1)
def aMO{f:Ft}(hd:f.N&&&f.O=0)(k:Nat):(ntN (dE f k)==0)=f.O[k]!:=by rw[<- hB hd k];have:=wY f k;revert this;generalize dE f k=x;intro h;have:x=0\/x=1\/x=2:=();erw[50,this]<;>rfl
def aMS{f:Ft}(hd:f.N&&&f.O=0)(k:Nat):(ntN (dE f k)==1)=f.N[k]!:=by rw[<- gX hd k];have:=wY f k;revert this;generalize dE f k=x;intro h;have:x=0\/x=1\/x=2:=();erw[50,this]<;>rfl
def aTG(hf:FtOk f w)(hd:f.N&&&f.O=0):Mk (λ i=>ntN (dE f i)) w ⟨f.O,f.N,f.A⟩:=
 ⟨hf.lO,hf.lN,λ i _=>(aMO hd i).symm,λ i _=>(aMS hd i).symm⟩
def wG(w:Nat):2^w-1<2^w:=by have:=xAe w;omega
def aAu(n k i:Nat):(n*2^k)[i]! =(decide (k<=i)&&n[(i-k)]!):=by
 have:=@aGO 0 k n (xAe k) i;rw[yEk] at this;rw[this];by_cases c:i<k
 ·rw[if_pos c,dqF (),yCf,yBu]
 ·rw[if_neg c,dqT (),yBc]
def aJs{f:Ft}(k:Nat)(hd:f.N&&&f.O=0):Mk (aBM f k) w (wZ w f k):=by
 refine⟨xAi yGf (wG w),xAi yGf (wG w),λ i hi=>?_,λ i hi=>?_⟩
 ·show((f.N*2^k|||(2^k-1))&&&(2^w-1))[i]! =_;rw[yAj,xAo,fB,fB,aAu,dqT hi,yCc];unfold aBM;by_cases c:i<k
  ·rw[if_pos c,dqT c,Bool.or_true];rfl
  ·rw[if_neg c,dqF c,yFj,dqT (),yBc,gX hd]
 ·show(f.O*2^k&&&(2^w-1))[i]! =_;rw[yAj,fB,aAu,dqT hi,yCc];unfold aBM;by_cases c:i<k
  ·rw[if_pos c,dqF (),yBu];rfl
  ·rw[if_neg c,dqT (),yBc,hB hd]
def aK1(a w:Nat):dL a w<2^w:=by apply yCl;intro i hi;rw[oK,dqF (show ¬ i<w by omega),yDs]
def aHY(h:n<2^w):n/2^k<2^w:=xAi (Nat.div_le_self _ _) h
def aH6(k:Nat)(hf:FtOk f w)(hd:f.N&&&f.O=0):Mk (aBm f w k) w (nA w f k):=by
 refine⟨yBf (aHY hf.lN) (aK1 _ _),aHY hf.lO,λ i hi=>?_,λ i hi=>?_⟩
 ·show(f.N/2^k|||dL (min k w) w)[i]! =_;rw[xAo,mB,oK,dqT hi,yCc];unfold aBm;by_cases c:i+k<w
  ·rw[if_pos c,dqF (),yFj,gX hd,yDo]
  ·rw[if_neg c,dqT (),Bool.or_true];rfl
 ·show(f.O/2^k)[i]! =_;rw[mB];unfold aBm;by_cases c:i+k<w
  ·rw[if_pos c,hB hd,yDo]
  ·rw[if_neg c,dO hf.lO ()];rfl
def sR(h:n<2^w)(hw:0<w)(hv:w<=v)(hi:i<v):(fL n w v)[i]! =n[(min i (w-1))]!:=by
 rw[aGH h hw hv];by_cases c:i<w
 ·rw[if_pos c,yDx ()]
 ·rw[if_neg c,dqT hi,yBc,yDl ()]
def aIe(k:Nat)(hw:1<=w)(hf:FtOk f w)(hd:f.N&&&f.O=0):Mk (λ i=>aMV f w (i+k)) w (wU w f k):=by
 have hl:∀ n,n<2^w->fL n w (w+k)/2^k<2^w:=λ n hn=>by
  rw[yGa (xAe k),<- Nat.pow_add];exact aCP hn hw ()
 refine⟨hl _ hf.lN,hl _ hf.lO,λ i hi=>?_,λ i hi=>?_⟩
 ·show(fL f.N w (w+k)/2^k)[i]! =(dE f (min (i+k) (w-1))==0);rw[mB,sR hf.lN hw () (),gX hd,yDo]
 ·show(fL f.O w (w+k)/2^k)[i]! =(dE f (min (i+k) (w-1))==1);rw[mB,sR hf.lO hw () (),hB hd,yDo]
def aKW{f:Ft}(v w:Nat)(hd:f.N&&&f.O=0):Mk (dE f) w (xY v w f):=by
 refine⟨xAi yGf (wG w),xAi yGf (wG w),λ i hi=>?_,λ i hi=>?_⟩
 ·show(f.N&&&(2^w-1))[i]! =_;rw[yAj,fB,dqT hi,yCc,gX hd]
 ·show(f.O&&&(2^w-1))[i]! =_;rw[yAj,fB,dqT hi,yCc,hB hd]
def aJ3(h:n<2^v)(hv:v<=w):n<2^w:=xAb h (yAz (·) hv)
def aJO(hv:v<=w)(hf:FtOk f v)(hd:f.N&&&f.O=0):Mk (aBU f v) w (nJ v w f):=by
 refine⟨yBf (aJ3 hf.lN hv) (aK1 _ _),aJ3 hf.lO hv,λ i hi=>?_,λ i hi=>?_⟩
 ·show(f.N|||dL (w-v) w)[i]! =_;rw[xAo,oK,dqT hi,yCc];unfold aBU;by_cases c:i<v
  ·rw[if_pos c,dqF (),yFj,gX hd]
  ·rw[if_neg c,dqT (),Bool.or_true];rfl
 ·show f.O[i]! =_;unfold aBU;by_cases c:i<v
  ·rw[if_pos c,hB hd]
  ·rw[if_neg c,dO hf.lO ()];rfl
def aJ6(h1:1<=v)(hv:v<=w)(hf:FtOk f v)(hd:f.N&&&f.O=0):Mk (aMV f v) w (xJ v w f):=by
 refine⟨aCP hf.lN h1 hv,aCP hf.lO h1 hv,λ i hi=>?_,λ i hi=>?_⟩
 ·show(fL f.N v w)[i]! =(dE f (min i (v-1))==0);rw[sR hf.lN h1 hv hi,gX hd]
 ·show(fL f.O v w)[i]! =(dE f (min i (v-1))==1);rw[sR hf.lO h1 hv hi,hB hd]
def btN(b:Nat)(x y:Nat):Nat:=match b with
 |0=>if x=0\/y=0 then 0 else if x<2/\y<2 then x*y else 2
 |1=>if x=1\/y=1 then 1 else if x<2/\y<2 then x+y else 2
 |_=>if x<2/\y<2 then (if x=y then 0 else 1) else 2
def kH(f:Ft)(k:Nat):dE f k=0\/dE f k=1\/dE f k=2:=by have:=wY f k;omega
def uS(b:Nat)(f g:Ft):Ft:=match b with|0=>⟨f.N|||g.N,f.O&&&g.O,min f.A g.A⟩|1=>⟨f.N&&&g.N,f.O|||g.O,min f.A g.A⟩|_=>⟨f.N&&&g.N|||f.O&&&g.O,f.N&&&g.O|||f.O&&&g.N,min f.A g.A⟩
def aLT(b:Nat)(hb:b=0\/b=1\/b=2)(hf:FtOk f w)(hd:f.N&&&f.O=0)(hg:FtOk g w)(he:g.N&&&g.O=0):Mk (λ i=>btN b (dE f i) (dE g i)) w (uS b f g):=by
 have an:∀ {x y:Nat},x<2^w->x&&&y<2^w:=λ h=>xAi yCb h
 erw[50,hb]
 ·refine⟨yBf hf.lN hg.lN,an hf.lO,λ i _=>?_,λ i _=>?_⟩
  ·show(f.N|||g.N)[i]! =_;rw[xAo,<- gX hd,<- gX he];rcases kH f i with h|h|h<;>rcases kH g i with h'|h'|h'<;>rw[h,h']<;>rfl
  ·show(f.O&&&g.O)[i]! =_;rw[yAj,<- hB hd,<- hB he];rcases kH f i with h|h|h<;>rcases kH g i with h'|h'|h'<;>rw[h,h']<;>rfl
 ·refine⟨an hf.lN,yBf hf.lO hg.lO,λ i _=>?_,λ i _=>?_⟩
  ·show(f.N&&&g.N)[i]! =_;rw[yAj,<- gX hd,<- gX he];rcases kH f i with h|h|h<;>rcases kH g i with h'|h'|h'<;>rw[h,h']<;>rfl
  ·show(f.O|||g.O)[i]! =_;rw[xAo,<- hB hd,<- hB he];rcases kH f i with h|h|h<;>rcases kH g i with h'|h'|h'<;>rw[h,h']<;>rfl
 ·refine⟨yBf (an hf.lN) (an hf.lO),yBf (an hf.lN) (an hf.lO),λ i _=>?_,λ i _=>?_⟩
  ·show(f.N&&&g.N|||f.O&&&g.O)[i]! =_;rw[xAo,yAj,yAj,<- gX hd,<- gX he,<- hB hd,<- hB he];rcases kH f i with h|h|h<;>rcases kH g i with h'|h'|h'<;>rw[h,h']<;>rfl
  ·show(f.N&&&g.O|||f.O&&&g.N)[i]! =_;rw[xAo,yAj,yAj,<- gX hd,<- gX he,<- hB hd,<- hB he];rcases kH f i with h|h|h<;>rcases kH g i with h'|h'|h'<;>rw[h,h']<;>rfl
def rs(x:Int)(w:Nat):Nat:=(x%((2^w:Nat):Int)).toNat
def oU(x:Int)(w:Nat):((rs x w:Nat):Int)=x%((2^w:Nat):Int):=by
 unfold rs;have:(0:Int)<((2^w:Nat):Int):=by have:=xAe w;omega
 have:=Int.emod_nonneg x (b:=((2^w:Nat):Int)) ();omega
def xF(x:Int)(w:Nat):rs x w<2^w:=by
 have h:=oU x w;have:(0:Int)<((2^w:Nat):Int):=by have:=xAe w;omega
 have:=yHb x this;omega
def aWW{x:Int}(h0:0<=x)(h1:x<((2^w:Nat):Int)):((rs x w:Nat):Int)=x:=by rw[oU,Int.emod_eq_of_lt h0 h1]
def aV8(x:Int)(h:L<=w):rs x w%2^L=rs x L:=by
 have e:((rs x w%2^L:Nat):Int)=((rs x L:Nat):Int):=by
  rw[yFa,oU,oU];exact Int.emod_emod_of_dvd x (by
   have:(2:Nat)^L ∣ 2^w:=Nat.pow_dvd_pow 2 h;exact Int.natCast_dvd_natCast.mpr this)
 omega
def aUo(x:Int)(h:L<=w)(hi:i<L):(rs x w)[i]! =(rs x L)[i]!:=by rw[<- aV8 x h,yBj,dqT hi,yBc]
def aBc(h:i<lr n):n[i]! =true:=by
 rw[aSf] at h;have h1:=aIg _ i h;have h2:(pE n (bl n+1)).getD i false=true:=by rw[xAg,h1];rfl
 rw[aPQ,yAy] at h2;exact h2.2
def aXE(h:n<2^w):lr n<=w:=by
 by_cases c:lr n<=w
 ·exact c
 ·have:=@aBc w n ();rw[dO h (yAb _)] at this;cases this
def aJ2{x y:Nat}(h:∀ i,x[i]! =true->y[i]! =true):x<=y:=by
 have:y&&&x=x:=by
  rw[aHH];exact h
 rw[<- this];exact yCb
def aTJ(hx:x<2^w)(hy:y<2^w)(h:∀ i,x[i]! =true->y[i]! =false):y<=2^w-1-x:=by
 refine aJ2 (y:=rV x w) λ i hi=>?_
 have hiw:i<w:=by
  by_cases c:i<w
  ·exact c
  ·rw[dO hy ()] at hi;cases hi
 rw[sW hx,dqT hiw,yBc];cases q:x[i]! with
 |false=>rfl|true=>rw[h i q] at hi;cases hi
def aMr(h:Hd f n w):f.O<=n:=aJ2 h.2.1
def aMu(k:FtOk f w)(hn:n<2^w)(h:Hd f n w):n<=2^w-1-f.N:=aTJ k.lN hn h.1
def aLh(h:Hd f n w)(hk:∀ i,i<L->(f.N|||f.O)[i]! =true):n%2^L=f.O%2^L:=by
 apply xAl;intro i;rw[yBj,yBj];by_cases c:i<L
 ·rw[dqT c,yBc,yBc];have q:=hk i c;rw[xAo] at q;cases o:f.O[i]! with
  |true=>exact h.2.1 i o
  |false=>
    rw[o,yFj] at q;exact h.1 i q
 ·rw[dqF c,yBu,yBu]
inductive Sw where|add|sub|mul
def Sw.oc:Sw->Int->Int->Int
 |.add,a,b=>a+b|.sub,a,b=>a-b|.mul,a,b=>a*b
def aHg(h:a%2^L=b%2^L):((a:Nat):Int)%((2^L:Nat):Int)=((b:Nat):Int)%((2^L:Nat):Int):=by rw[<- yFa,<- yFa,h]
def aVs(s:Sw){a b c e:Nat}{L:Nat}(h1:a%2^L=c%2^L)(h2:b%2^L=e%2^L):rs (s.oc a b) L=rs (s.oc c e) L:=by
 have g1:=aHg h1;have g2:=aHg h2;have:s.oc a b%((2^L:Nat):Int)=s.oc c e%((2^L:Nat):Int):=by
  cases s with
  |add=>show((a:Nat)+(b:Nat):Int)%_=((c:Nat)+(e:Nat):Int)%_;rw[Int.add_emod,g1,g2,<- Int.add_emod]|sub=>show((a:Nat)-(b:Nat):Int)%_=((c:Nat)-(e:Nat):Int)%_;rw[Int.sub_emod,g1,g2,<- Int.sub_emod]|mul=>show((a:Nat)*(b:Nat):Int)%_=((c:Nat)*(e:Nat):Int)%_;rw[Int.mul_emod,g1,g2,<- Int.mul_emod]
 unfold rs;rw[this]
def gJ(f g:Ft):Nat:=lr ((f.N|||f.O)&&&(g.N|||g.O))
def aDR(k:FtOk f w):gJ f g<=w:=aXE (xAi yCb (yBf k.lN k.lO))
def lG(s:Sw)(f g:Ft):Nat:=rs (s.oc (f.O:Nat) (g.O:Nat)) (gJ f g)
def uB(s:Sw)(f g:Ft):Nat:=(2^gJ f g-1)^^^lG s f g
def aH5(s:Sw)(k:FtOk f w)(h1:Hd f a w)(h2:Hd g b w)(hi:i<gJ f g):(rs (s.oc (a:Nat) (b:Nat)) w)[i]! =(lG s f g)[i]!:=by
 have hk:∀ i,i<gJ f g->(f.N|||f.O)[i]! =true/\(g.N|||g.O)[i]! =true:=λ i hi=>by
  have:=aBc hi;rw[yAj,yAy] at this;exact this
 rw[aUo _ (aDR k) hi,aVs s (aLh h1 λ i hi=>(hk i hi).1) (aLh h2 λ i hi=>(hk i hi).2)];rfl
def aQy(h:(lG s f g)[i]! =true):i<gJ f g:=by
 by_cases c:i<gJ f g
 ·exact c
 ·have hl:lG s f g<2^gJ f g:=xF _ _;rw[dO hl ()] at h;cases h
def aP4(h:(uB s f g)[i]! =true):i<gJ f g/\(lG s f g)[i]! =false:=by
 unfold uB at h;rw[xAn,fB] at h;have hl:lG s f g<2^gJ f g:=xF _ _;by_cases c:i<gJ f g
 ·rw[dqT c] at h;refine⟨c,?_⟩;cases q:(lG s f g)[i]! with|false=>rfl|true=>rw[q] at h;cases h
 ·rw[dqF c,dO hl ()] at h;cases h
def gO(s:Sw)(w:Nat)(f g:Ft):Int:=match s with|.sub=>(f.O:Nat)-((2^w-1-g.N:Nat):Int)|s=>s.oc (f.O:Nat) (g.O:Nat)
def gQ(s:Sw)(w:Nat)(f g:Ft):Int:=match s with|.sub=>((2^w-1-f.N:Nat):Int)-(g.O:Nat)|s=>s.oc ((2^w-1-f.N:Nat):Int) ((2^w-1-g.N:Nat):Int)
def aL2(s:Sw)(kf:FtOk f w)(kg:FtOk g w)(ha:a<2^w)(hb:b<2^w)(h1:Hd f a w)(h2:Hd g b w):gO s w f g<=s.oc (a:Nat) (b:Nat)/\s.oc (a:Nat) (b:Nat)<=gQ s w f g:=by
 have l1:=aMr h1;have l2:=aMr h2;have m1:=aMu kf ha h1;have m2:=aMu kg hb h2;cases s with
 |add=>
   show((f.O:Nat)+(g.O:Nat):Int)<=(a:Nat)+(b:Nat)/\((a:Nat)+(b:Nat):Int)<=((2^w-1-f.N:Nat):Int)+((2^w-1-g.N:Nat):Int);generalize 2^w-1-f.N=F at *;generalize 2^w-1-g.N=G at *;omega
 |sub=>
   show((f.O:Nat)-((2^w-1-g.N:Nat):Int))<=(a:Nat)-(b:Nat)/\((a:Nat)-(b:Nat):Int)<=((2^w-1-f.N:Nat):Int)-(g.O:Nat);generalize 2^w-1-f.N=F at *;generalize 2^w-1-g.N=G at *;omega
 |mul=>
   show((f.O:Nat)*(g.O:Nat):Int)<=(a:Nat)*(b:Nat)/\((a:Nat)*(b:Nat):Int)<=((2^w-1-f.N:Nat):Int)*((2^w-1-g.N:Nat):Int);rw[<- yFp,<- yFp,<- yFp];exact⟨Int.ofNat_le.mpr (Nat.mul_le_mul l1 l2),Int.ofNat_le.mpr (Nat.mul_le_mul m1 m2)⟩
def sC(s:Sw)(w:Nat)(f g:Ft):Nat:=if gO s w f g<0\/gQ s w f g>((2^w-1:Nat):Int) then 0 else vM (gO s w f g).toNat (gQ s w f g).toNat w
def sE(s:Sw)(w:Nat)(f g:Ft):Nat:=if gO s w f g<0\/gQ s w f g>((2^w-1:Nat):Int) then 0 else pA (gO s w f g).toNat (gQ s w f g).toNat w
def aQ3(hl:l<2^w)(hg:g<2^w):wN l g w<2^w:=by apply yCl;intro i hi;rw[aC8 hl hg,dqF (),yBu]
def aIs(s:Sw)(kf:FtOk f w)(kg:FtOk g w)(ha:a<2^w)(hb:b<2^w)(h1:Hd f a w)(h2:Hd g b w) :
 (∀ i,(sC s w f g)[i]! =true->(rs (s.oc (a:Nat) (b:Nat)) w)[i]! =false)/\(∀ i,(sE s w f g)[i]! =true->(rs (s.oc (a:Nat) (b:Nat)) w)[i]! =true)/\sC s w f g<2^w/\sE s w f g<2^w:=by
 have hb':=aL2 s kf kg ha hb h1 h2;have hp:=xAe w;unfold sC sE;by_cases c:gO s w f g<0\/gQ s w f g>((2^w-1:Nat):Int)
 ·rw[if_pos c,if_pos c];refine⟨λ i hi=>?_,λ i hi=>?_,hp,hp⟩
  ·rw[yCf] at hi;cases hi
  ·rw[yCf] at hi;cases hi
 ·rw[if_neg c,if_neg c];have e:=@aWW w (s.oc (a:Nat) (b:Nat)) () ();have q1:(gO s w f g).toNat<=rs (s.oc (a:Nat) (b:Nat)) w:=();have q2:rs (s.oc (a:Nat) (b:Nat)) w<=(gQ s w f g).toNat:=();have q3:(gO s w f g).toNat<2^w:=();have q4:(gQ s w f g).toNat<2^w:=();have n1:=aNX q3 q4 q1 q2;have n2:=aOe q3 q4 q1 q2;rw[aQA] at n1;rw[aHH] at n2;have kl:=aQ3 q3 q4;exact⟨n1,n2,yEh kl (xAi yCb kl),xAi yCb kl⟩
def sD(s:Sw)(w:Nat)(f g:Ft):Nat:=match s with|.mul=>2^min w (lr f.N+lr g.N)-1|_=>0
def aJR{n:Nat}(h:∀ i,i<L->n[i]! =false):2^L ∣ n:=by
 have:n%2^L=0:=by
  rw[oO];intro i;rw[yBj];by_cases c:i<L
  ·rw[h i c,yDs]
  ·rw[dqF c,yBu]
 exact Nat.dvd_of_mod_eq_zero this
def aS3(s:Sw)(h1:Hd f a w)(h2:Hd g b w):∀ i,(sD s w f g)[i]! =true->(rs (s.oc (a:Nat) (b:Nat)) w)[i]! =false:=by
 intro i hi;cases s with
 |add=>rw[show sD .add w f g=0 from rfl,yCf] at hi;cases hi
 |sub=>rw[show sD .sub w f g=0 from rfl,yCf] at hi;cases hi
 |mul=>
   have hi':(2^min w (lr f.N+lr g.N)-1)[i]! =true:=hi;rw[fB,decide_eq_true_eq] at hi';let(c,hc):=@aJR (lr f.N) a λ i hi=>h1.1 i (aBc hi)
   let(e,he):=@aJR (lr g.N) b λ i hi=>h2.1 i (aBc hi)
   have ex:rs (Sw.mul.oc (a:Nat) (b:Nat)) w=a*b%2^w:=by
    have:=oU (Sw.mul.oc (a:Nat) (b:Nat)) w;have e2:Sw.mul.oc (a:Nat) (b:Nat)=((a*b:Nat):Int):=(yFp a b).symm;rw[e2,<- yFa] at this;rw[e2];omega
   rw[ex,yBj,dqT (),yBc];have:a*b=c*e*2^(lr f.N+lr g.N):=by
    rw[hc,he,Nat.pow_add];simp only[yHv,Nat.mul_left_comm,Nat.mul_assoc]
   rw[this,aAu,dqF (),yBu]
def aEf(hn:n<2^w)(ha:a<=w):((∀ i,w-a<=i->i<w->n[i]! =true)\/(∀ i,w-a<=i->i<w->n[i]! =false)) ↔ 2^w-2^(w-a)<=n\/n<2^(w-a):=by
 have hp:=xAe (w-a);have e1:(2:Nat)^w=2^a*2^(w-a):=by rw[<- Nat.pow_add,show a+(w-a)=w by omega]
 have hpa:=xAe a;rw[<- aQU hn ha,<- aQ4 hn ha];have q0:n/2^(w-a)=0 ↔ n<2^(w-a):=by
  rw[Nat.div_eq_zero_iff];omega
 have q1:n/2^(w-a)=2^a-1 ↔ 2^w-2^(w-a)<=n:=by
  have es:(2^a-1)*2^(w-a)=2^w-2^(w-a):=by rw[Nat.sub_mul,Nat.one_mul,<- e1]
  constructor
  ·intro h;have:=Nat.div_mul_le_self n (2^(w-a));rw[h,es] at this;exact this
  ·intro h;have g1:2^a-1<=n/2^(w-a):=by
    rw[Nat.le_div_iff_mul_le hp,es];exact h
   have g2:n/2^(w-a)<2^a:=by
    rw[yGa hp,<- e1];exact hn
   omega
 rw[q0,q1]
def lT(s:Sw)(f g:Ft):Nat:=match s with|.mul=>1|_=>max 1 (min f.A g.A-1)
def sU{n:Nat}(ha:m<=a)(h:(∀ i,w-a<=i->i<w->n[i]! =true)\/(∀ i,w-a<=i->i<w->n[i]! =false)):(∀ i,w-m<=i->i<w->n[i]! =true)\/(∀ i,w-m<=i->i<w->n[i]! =false):=by
 rcases h with h|h
 ·exact .inl λ i a b=>h i (xAh (yFe ha _) a) b
 ·exact .inr λ i a b=>h i (xAh (yFe ha _) a) b
def mD(n w:Nat):(∀ i,w-1<=i->i<w->n[i]! =true)\/(∀ i,w-1<=i->i<w->n[i]! =false):=by
 cases c:n[(w-1)]! with
 |true=>exact .inl λ i h1 h2=>by rw[show i=w-1 by omega];exact c|false=>exact .inr λ i h1 h2=>by rw[show i=w-1 by omega];exact c
def aKS{W:Nat}(ha:a<W)(h:W-T<=a\/a<T)(hT:T<=W):∃ x k:Int,((a:Nat):Int)=x+k*((W:Nat):Int) /\ -((T:Nat):Int)<=x/\x<((T:Nat):Int):=by
 rcases h with h|h
 ·exact⟨(a:Int)-W,1,by omega,by omega,by omega⟩
 ·exact⟨(a:Int),0,by omega,by omega,by omega⟩
def aRQ{x W T r k:Int}(h:r=x+k*W)(h1 : -(2*T)<=x)(h2:x<2*T)(hT:2*T<=W)(r0:0<=r)(rW:r<W):W-2*T<=r\/r<2*T:=by
 rcases (show k <= -1\/k=0\/k=1\/2<=k by omega) with c|rfl|rfl|c
 ·have:k*W<=(-1)*W:=yGb c ();omega
 ·exact .inr ()
 ·exact .inl ()
 ·have:2*W<=k*W:=yGb c ();omega
def aWp{x y k l W z:Int}:(x+k*W+(y+l*W))-W*z=x+y+(k+l-z)*W:=by rw[Int.sub_mul,Int.add_mul,Int.mul_comm W z];omega
def aUz{x y k l W z:Int}:(x+k*W-(y+l*W))-W*z=x-y+(k-l-z)*W:=by rw[Int.sub_mul,Int.sub_mul,Int.mul_comm W z];omega
def aZt(c:lT s f g≠1):(lT s f g=min f.A g.A-1/\2<=min f.A g.A-1)/\s≠.mul:=by
 cases s with
 |mul=>exact absurd rfl c
 |add=>
   have e:lT .add f g=max 1 (min f.A g.A-1):=rfl;exact⟨by omega,λ h=>nomatch h⟩
 |sub=>
   have e:lT .sub f g=max 1 (min f.A g.A-1):=rfl;exact⟨by omega,λ h=>nomatch h⟩
def aTx(s:Sw)(kf:FtOk f w)(kg:FtOk g w)(ha:a<2^w)(hb:b<2^w)(h1:Hd f a w)(h2:Hd g b w) :
 (∀ i,w-lT s f g<=i->i<w->(rs (s.oc (a:Nat) (b:Nat)) w)[i]! =true)\/(∀ i,w-lT s f g<=i->i<w->(rs (s.oc (a:Nat) (b:Nat)) w)[i]! =false):=by
 by_cases c:lT s f g=1
 ·rw[c];exact mD _ _
 ·have hw:=kf.aw;let((hA,hm),hs):=aZt c;have g1:min f.A g.A<=f.A:=yDv ..;have g2:min f.A g.A<=g.A:=yEx ..;rw[hA];generalize min f.A g.A=m at *;have hmw:m<=w:=xAh g1 hw;rw[aEf (xF _ _) (xAh (yFw m 1) hmw)];have a1:=(aEf ha hmw).mp (sU g1 h1.2.2);have a2:=(aEf hb hmw).mp (sU g2 h2.2.2);have e:(2:Nat)^(w-(m-1))=2*2^(w-m):=by
   rw[show w-(m-1)=w-m+1 by omega,yFz,yHv]
  have hT:2*2^(w-m)<=2^w:=by
   rw[<- e];exact yAz (·) (yFw ..)
  rw[e];have hT1:2^(w-m)<=2^w:=yAz (·) (yFw ..);let(x,k,e1,x1,x2):=aKS ha a1 hT1;let(y,l,e2,y1,y2):=aKS hb a2 hT1;have hr:=oU (s.oc (a:Nat) (b:Nat)) w;have hl:=xF (s.oc (a:Nat) (b:Nat)) w;rw[Int.emod_def] at hr;generalize rs (s.oc (a:Nat) (b:Nat)) w=r at *;generalize s.oc (a:Nat) (b:Nat)/((2^w:Nat):Int)=z at *;generalize (2:Nat)^w=W at *;generalize (2:Nat)^(w-m)=T at *;clear a1 a2 h1 h2 e g1 g2 hmw hw hm hA c;have bZ:∀ {x k:Int},(r:Int)=x+k*(W:Int) -> -(2*(T:Int))<=x->x<2*(T:Int)->W-2*T<=r\/r<2*T:=λ q1 q2 q3=>by
   rcases aRQ q1 q2 q3 () () () with q|q
   ·exact .inl ()
   ·exact .inr ()
  cases s with
  |mul=>exact absurd rfl hs
  |add=>
    have hk:(r:Int)=(a:Int)+(b:Int)-(W:Int)*z:=hr;rw[e1,e2,aWp] at hk;exact bZ hk () ()
  |sub=>
    have hk:(r:Int)=(a:Int)-(b:Int)-(W:Int)*z:=hr;rw[e1,e2,aUz] at hk;exact bZ hk () ()
def yY(s:Sw)(w:Nat)(f g:Ft):Ft:=⟨uB s f g|||sC s w f g|||sD s w f g,lG s f g|||sE s w f g,lT s f g⟩
def aP6(s:Sw)(kf:FtOk f w)(kg:FtOk g w)(ha:a<2^w)(hb:b<2^w)(h1:Hd f a w)(h2:Hd g b w):Hd (yY s w f g) (rs (s.oc (a:Nat) (b:Nat)) w) w:=by
 let(t1,t2,_,_):=aIs s kf kg ha hb h1 h2;refine⟨λ i hi=>?_,λ i hi=>?_,aTx s kf kg ha hb h1 h2⟩
 ·have hi':(uB s f g|||sC s w f g|||sD s w f g)[i]! =true:=hi;rw[xAo,xAo,yEm,yEm] at hi';rcases hi' with (q|q)|q
  ·let(q1,q2):=aP4 q;rw[aH5 s kf h1 h2 q1,q2]
  ·exact t1 i q
  ·exact aS3 s h1 h2 i q
 ·have hi':(lG s f g|||sE s w f g)[i]! =true:=hi;rw[xAo,yEm] at hi';rcases hi' with q|q
  ·rw[aH5 s kf h1 h2 (aQy q),q]
  ·exact t2 i q
def aDf(h:n<2^v)(hv:v<=w):n<2^w:=xAb h (yAz (·) hv)
def aUD(s:Sw)(kf:FtOk f w)(kg:FtOk g w)(ha:a<2^w)(hb:b<2^w)(h1:Hd f a w)(h2:Hd g b w):FtOk (yY s w f g) w:=by
 let(_,_,t3,t4):=aIs s kf kg ha hb h1 h2;have hL:=aDR (g:=g) kf;have hO:lG s f g<2^gJ f g:=xF _ _;have hN:uB s f g<2^gJ f g:=yEh (by have:=xAe (gJ f g);omega) hO;have hl:sD s w f g<2^w:=by
  have:=xAe w;cases s with
  |add=>exact this|sub=>exact this|mul=>exact aDf (v:=min w (lr f.N+lr g.N)) (by show 2^min w (lr f.N+lr g.N)-1<_;have:=xAe (min w (lr f.N+lr g.N));omega) ()
 have q1:=kf.aw;have q2:=kf.a1;refine⟨yBf (yBf (aDf hN hL) t3) hl,yBf (aDf hO hL) t4,?_,?_⟩
 ·show 1<=lT s f g;cases s with|mul=>exact yAb 1|add=>exact yDk _ _|sub=>exact yDk _ _
 ·show lT s f g<=w;cases s with|mul=>show 1<=w;omega|add=>exact Nat.max_le.mpr ⟨xAh q2 q1,xAh (yFw _ _) (xAh (yDv _ _) q1)⟩|sub=>exact Nat.max_le.mpr ⟨xAh q2 q1,xAh (yFw _ _) (xAh (yDv _ _) q1)⟩
def F1:Ft:=⟨0,1,1⟩
def F0:Ft:=⟨1,0,1⟩
def kN:Ft:=⟨0,0,1⟩
def l3(a b c e:Int):Ft:=if b<c then F1 else if e<=a then F0 else kN
def aNu(a b c e:Int):l3 a b c e=F1\/l3 a b c e=F0\/l3 a b c e=kN:=by
 unfold l3;split
 ·exact .inl rfl
 ·split
  ·exact .inr (.inl rfl)
  ·exact .inr (.inr rfl)
def aDZ(h:r<2^k):r^^^2^k=r+2^k:=by
 apply xAl;intro i;have e:r+2^k=r+1*2^k:=();rw[e,aGO h,xAn,yFd];by_cases c:i<k
 ·rw[if_pos c,dqF (),Bool.xor_false]
 ·rw[if_neg c,dO h (),Bool.false_xor];by_cases c2:k=i
  ·subst c2;rw[dqT rfl,yAx];rfl
  ·rw[dqF c2];have:1<2^(i-k):=Nat.one_lt_two_pow ();rw[dO this (yAb _)]
def aH8(h1:2^k<=n)(h2:n<2^(k+1)):n^^^2^k=n-2^k:=by
 have hr:n-2^k<2^k:=by rw[yFz] at h2;omega
 have e:(n-2^k)^^^2^k=n:=by rw[aDZ hr];omega
 calc n^^^2^k=((n-2^k)^^^2^k)^^^2^k:=by rw[e]
  _=n-2^k:=by rw[Nat.xor_assoc,Nat.xor_self,Nat.xor_zero]
def aLG(h:n<2^w)(hw:0<w):n[(w-1)]! =decide (2^(w-1)<=n):=by
 have hb:=aRw h hw;have hp:=xAe (w-1);cases c:n[(w-1)]! with
 |true=>
   rw[c] at hb;have:2^(w-1)<=n:=by
    by_cases q:n<2^(w-1)
    ·rw[Nat.div_eq_of_lt q] at hb;exact absurd hb (·)
    ·omega
   rw[dqT this]
 |false=>
   rw[c] at hb;have:¬ 2^(w-1)<=n:=λ q=>by
    have h3:=Nat.div_pos q hp;rw[hb] at h3;exact absurd h3 (·)
   rw[dqF this]
def tt(f:Ft)(w:Nat):Ft:=⟨f.N^^^((f.N^^^f.O)&&&dL 1 w),f.O^^^((f.N^^^f.O)&&&dL 1 w),f.A⟩
def aQI(hw:1<=w):(dL 1 w)[i]! =decide (w-1=i):=by
 rw[oK];by_cases c:w-1=i
 ·rw[dqT c,dqT (),dqT ()];rfl
 ·rw[dqF c];by_cases c2:w-1<=i
  ·rw[dqF (show ¬ i<w by omega),yDs]
  ·rw[dqF c2,yBu]
def aQc(k:FtOk f w)(hd:f.N&&&f.O=0)(hw:1<=w) :
 (f.N<2^(w-1)/\f.O<2^(w-1)/\(tt f w).N=f.N/\(tt f w).O=f.O)\/(f.N<2^(w-1)/\2^(w-1)<=f.O/\(tt f w).N=f.N+2^(w-1)/\(tt f w).O=f.O-2^(w-1))\/(2^(w-1)<=f.N/\f.O<2^(w-1)/\(tt f w).N=f.N-2^(w-1)/\(tt f w).O=f.O+2^(w-1)):=by
 have hN:=aLG k.lN (show 0<w by omega);have hO:=aLG k.lO (show 0<w by omega);have lN:=k.lN;have lO:=k.lO;have e:w-1+1=w:=();have tb:∀ b:Bool,(f.N[(w-1)]! ^^ f.O[(w-1)]!)=b->(f.N^^^f.O)&&&dL 1 w=if b=true then 2^(w-1) else 0:=λ b hb=>by
  apply xAl;intro i;rw[yAj,aQI hw,xAn];by_cases c:w-1=i
  ·subst c;rw[hb,dqT rfl,yCc];cases b
   ·simp
   ·simp
  ·rw[dqF c,yDs];cases b
   ·simp
   ·rw[if_pos rfl,yFd,dqF c]
 by_cases c1:2^(w-1)<=f.N
 ·by_cases c2:2^(w-1)<=f.O
  ·exfalso;have:=(oO _).mp hd (w-1);rw[yAj,hN,hO,dqT c1,dqT c2] at this;cases this
  ·refine .inr (.inr ⟨c1,by omega,?_,?_⟩)
   ·show f.N^^^_=_;rw[tb true (by rw[hN,hO,dqT c1,dqF c2];rfl),if_pos rfl,aH8 c1 (by rw[e];exact lN)]
   ·show f.O^^^_=_;rw[tb true (by rw[hN,hO,dqT c1,dqF c2];rfl),if_pos rfl,aDZ ()]
 ·by_cases c2:2^(w-1)<=f.O
  ·refine .inr (.inl ⟨by omega,c2,?_,?_⟩)
   ·show f.N^^^_=_;rw[tb true (by rw[hN,hO,dqT c2,dqF c1];rfl),if_pos rfl,aDZ ()]
   ·show f.O^^^_=_;rw[tb true (by rw[hN,hO,dqT c2,dqF c1];rfl),if_pos rfl,aH8 c2 (by rw[e];exact lO)]
  ·refine .inl ⟨by omega,by omega,?_,?_⟩
   ·show f.N^^^_=_;rw[tb false (by rw[hN,hO,dqF c2,dqF c1];rfl),if_neg (·),Nat.xor_zero]
   ·show f.O^^^_=_;rw[tb false (by rw[hN,hO,dqF c2,dqF c1];rfl),if_neg (·),Nat.xor_zero]
def aLL(k:FtOk f w)(hd:f.N&&&f.O=0)(hw:1<=w):(tt f w).N<2^w:=by
 have h2:(2:Nat)^w=2^(w-1)+2^(w-1):=by
  have:(2:Nat)^(w-1+1)=2^(w-1)*2:=yFz ..;rw[show w-1+1=w by omega] at this;omega
 have lN:=k.lN;rcases aQc k hd hw with ⟨_,_,h,_⟩|⟨_,_,h,_⟩|⟨_,_,h,_⟩<;>rw[h]<;>omega
def sA(w:Nat)(f g:Ft):Ft:=if f.N&&&g.O|||f.O&&&g.N≠0 then F0 else if (f.N|||f.O)&&&(g.N|||g.O)=2^w-1 then F1 else kN
def aWH(w:Nat)(f g:Ft):sA w f g=F1\/sA w f g=F0\/sA w f g=kN:=by
 unfold sA;split
 ·exact .inr (.inl rfl)
 ·split
  ·exact .inl rfl
  ·exact .inr (.inr rfl)
def pW(t f g:Ft):Ft:=if t.O=1 then f else if t.N=1 then g else ⟨f.N&&&g.N,f.O&&&g.O,min f.A g.A⟩
def aWr(hf:FtOk f w)(hg:FtOk g w):FtOk (pW t f g) w:=by
 unfold pW;split
 ·exact hf
 ·split
  ·exact hg
  ·have h1:=hf.a1;have h2:=hg.a1;have h3:=hf.aw;exact⟨xAi yCb hf.lN,xAi yCb hf.lO,by show 1<=min f.A g.A;omega,by show min f.A g.A<=w;omega⟩
def Al(n w a:Nat):Prop:=(∀ i,w-a<=i->i<w->n[i]! =true)\/(∀ i,w-a<=i->i<w->n[i]! =false)
def oY{f:Ft}(hd:f.N&&&f.O=0)(h:Hd f a w)(j:Nat):(dE f j=0->a[j]! =false)/\(dE f j=1->a[j]! =true):=by
 refine⟨λ e=>h.1 j ?_,λ e=>h.2.1 j ?_⟩
 ·rw[<- gX hd j,beq_iff_eq];exact e
 ·rw[<- hB hd j,beq_iff_eq];exact e
def oP{t:Nat->Nat}{z:Nat}(m:Mk t n g)(hz:∀ i,i<n->(t i=0->z[i]! =false)/\(t i=1->z[i]! =true))(ha:Al z n g.A):Hd g z n:=by
 have hl:∀ {x:Nat},x<2^n->∀ i,x[i]! =true->i<n:=λ {x} hx i hi=>by
  by_cases c:i<n
  ·exact c
  ·rw[dO hx ()] at hi;cases hi
 refine⟨λ i hi=>?_,λ i hi=>?_,ha⟩
 ·have c:=hl m.lN i hi;rw[m.b0 i c,beq_iff_eq] at hi;exact(hz i c).1 hi
 ·have c:=hl m.lO i hi;rw[m.b1 i c,beq_iff_eq] at hi;exact(hz i c).2 hi
def aT2(n w:Nat):rs ((n:Nat):Int) w=n%2^w:=by have:=oU ((n:Nat):Int) w;rw[<- yFa] at this;omega
section
variable {f:Ft}{a w:Nat}(hf:FtOk f w)(hd:f.N&&&f.O=0)(ha:a<2 ^ w)(h:Hd f a w)
include hf hd ha h
theorem aP2:Hd ⟨f.O,f.N,f.A⟩ (2^w-1-a) w:=by
 refine oP (aTG hf hd) (λ i hi=>?_) ?_
 ·rw[aBp ha hi];refine⟨λ e=>?_,λ e=>?_⟩
  ·have:f.O[i]! =true:=by rw[<- aMO hd i,beq_iff_eq];exact e
   rw[h.2.1 i this];rfl
  ·have:f.N[i]! =true:=by rw[<- aMS hd i,beq_iff_eq];exact e
   rw[h.1 i this];rfl
 ·rcases h.2.2 with q|q
  ·exact .inr λ i h1 h2=>by rw[aBp ha h2,q i h1 h2];rfl
  ·exact .inl λ i h1 h2=>by rw[aBp ha h2,q i h1 h2];rfl
theorem aO9(k:Nat):Hd (wZ w f k) (a*2^k%2^w) w:=by
 have hb:∀ i,i<w->(a*2^k%2^w)[i]! =(decide (k<=i)&&a[(i-k)]!):=λ i hi=>by
  rw[yBj,dqT hi,yBc,aAu]
 refine oP (aJs k hd) (λ i hi=>?_) ?_
 ·rw[hb i hi];unfold aBM;by_cases c:i<k
  ·rw[if_pos c,dqF (),yBu];exact⟨λ _=>rfl,λ e=>nomatch e⟩
  ·rw[if_neg c,dqT (),yBc];exact oY hd h (i-k)
 ·show Al _ w (max 1 (f.A-k));by_cases c:f.A-k<=1
  ·rw[Nat.max_eq_left c];exact mD _ _
  ·rw[Nat.max_eq_right ()];have:=hf.aw;rcases h.2.2 with q|q
   ·exact .inl λ i h1 h2=>by rw[hb i h2,dqT (),yBc];exact q _ () ()
   ·exact .inr λ i h1 h2=>by rw[hb i h2,dqT (),yBc];exact q _ () ()
theorem aO0(k:Nat):Hd (nA w f k) (a/2^k) w:=by
 refine oP (aH6 k hf hd) (λ i hi=>?_) ?_
 ·rw[mB];unfold aBm;by_cases c:i+k<w
  ·rw[if_pos c,yDo k i];exact oY hd h (i+k)
  ·rw[if_neg c,dO ha ()];exact⟨λ _=>rfl,λ e=>nomatch e⟩
 ·show Al _ w (if k=0 then f.A else 1);by_cases c:k=0
  ·subst c;rw[if_pos rfl,Nat.pow_zero,Nat.div_one];exact h.2.2
  ·rw[if_neg c];exact mD _ _
theorem aOV(hw:1<=w)(k:Nat):Hd (wU w f k) (fL a w (w+k)/2^k) w:=by
 have hb:∀ i,i<w->(fL a w (w+k)/2^k)[i]! =a[(min (i+k) (w-1))]!:=λ i hi=>by
  rw[mB,sR ha hw () (),yDo]
 refine oP (aIe k hw hf hd) (λ i hi=>?_) ?_
 ·rw[hb i hi];exact oY hd h _
 ·have h1:=hf.a1;show Al _ w (min w (f.A+k));rcases h.2.2 with q|q
  ·exact .inl λ i h1 h2=>by rw[hb i h2];exact q _ () ()
  ·exact .inr λ i h1 h2=>by rw[hb i h2];exact q _ () ()
theorem aQl(hv:v<=w):Hd (xY w v f) (a%2^v) v:=by
 have hb:∀ i,i<v->(a%2^v)[i]! =a[i]!:=λ i hi=>by rw[yBj,dqT hi,yBc]
 refine oP (aKW w v hd) (λ i hi=>?_) ?_
 ·rw[hb i hi];exact oY hd h _
 ·have h1:=hf.aw;show Al _ v (max 1 (f.A-(w-v)));by_cases c:f.A-(w-v)<=1
  ·rw[Nat.max_eq_left c];exact mD _ _
  ·rw[Nat.max_eq_right ()];rcases h.2.2 with q|q
   ·exact .inl λ i h1 h2=>by rw[hb i h2];exact q _ () ()
   ·exact .inr λ i h1 h2=>by rw[hb i h2];exact q _ () ()
theorem aPW(hv:w<=v):Hd (nJ w v f) a v:=by
 refine oP (aJO hv hf hd) (λ i hi=>?_) ?_
 ·unfold aBU;by_cases c:i<w
  ·rw[if_pos c];exact oY hd h i
  ·rw[if_neg c,dO ha ()];exact⟨λ _=>rfl,λ e=>nomatch e⟩
 ·show Al _ v (if v=w then f.A else 1);by_cases c:v=w
  ·subst c;rw[if_pos rfl];exact h.2.2
  ·rw[if_neg c];exact mD _ _
theorem aPU(hw:1<=w)(hv:w<=v):Hd (xJ w v f) (fL a w v) v:=by
 have hb:∀ i,i<v->(fL a w v)[i]! =a[(min i (w-1))]!:=λ i hi=>sR ha hw hv hi
 refine oP (aJ6 hw hv hf hd) (λ i hi=>?_) ?_
 ·rw[hb i hi];exact oY hd h _
 ·have h1:=hf.a1;show Al _ v (f.A+(v-w));rcases h.2.2 with q|q
  ·exact .inl λ i h1 h2=>by rw[hb i h2];exact q _ () ()
  ·exact .inr λ i h1 h2=>by rw[hb i h2];exact q _ () ()
end
def bwv(b:Nat)(x y:Nat):Nat:=match b with|0=>x&&&y|1=>x|||y|_=>x^^^y
def bwB(b:Nat)(x y:Bool):Bool:=match b with|0=>x&&y|1=>x||y|_=>x ^^ y
def aDP(hb:b=0\/b=1\/b=2)(x y i:Nat):(bwv b x y)[i]! =bwB b (x[i]!) (y[i]!):=by
 erw[50,hb]
 ·exact yAj ..
 ·exact xAo ..
 ·exact xAn ..
def aTI:∀ (b p q:Fin 3) (x y:Bool),(p.1=0->x=false)/\(p.1=1->x=true)->(q.1=0->y=false)/\(q.1=1->y=true)->(btN b.1 p.1 q.1=0->bwB b.1 x y=false)/\(btN b.1 p.1 q.1=1->bwB b.1 x y=true):=by decide
def aTd(hb:b=0\/b=1\/b=2)(hf:FtOk f w)(hd:f.N&&&f.O=0)(h:Hd f x w)(hg:FtOk g w)(he:g.N&&&g.O=0)(h':Hd g y w):Hd (uS b f g) (bwv b x y) w:=by
 refine oP (aLT b hb hf hd hg he) (λ i hi=>?_) ?_
 ·rw[aDP hb];exact aTI ⟨b,by omega⟩ ⟨_,wY f i⟩ ⟨_,wY g i⟩ _ _ (oY hd h i) (oY he h' i)
 ·have hA:(uS b f g).A=min f.A g.A:=by erw[50,hb]<;>rfl
  rw[hA];have q1:Al x w (min f.A g.A):=sU () h.2.2;have q2:Al y w (min f.A g.A):=sU () h'.2.2;have go:∀ (p q:Bool),(∀ i,w-min f.A g.A<=i->i<w->x[i]! =p)->(∀ i,w-min f.A g.A<=i->i<w->y[i]! =q)->Al (bwv b x y) w (min f.A g.A):=λ p q hp hq=>by
   cases c:bwB b p q with
   |true=>exact .inl λ i h1 h2=>by rw[aDP hb,hp i h1 h2,hq i h1 h2,c]|false=>exact .inr λ i h1 h2=>by rw[aDP hb,hp i h1 h2,hq i h1 h2,c]
  rcases q1 with q1|q1<;>rcases q2 with q2|q2
  ·exact go _ _ q1 q2
  ·exact go _ _ q1 q2
  ·exact go _ _ q1 q2
  ·exact go _ _ q1 q2
def sQ{i:Nat}{p:Prop}(h:(0:Nat)[i]! =true):p:=by rw[yCf] at h;cases h
def aSG:Hd F1 1 1:=⟨λ i h=>sQ h,λ i h=>h,mD _ _⟩
def aS4:Hd F0 0 1:=⟨λ i h=>yCf i,λ i h=>sQ h,mD _ _⟩
def aSe(z:Nat):Hd kN z 1:=⟨λ i h=>sQ h,λ i h=>sQ h,mD _ _⟩
def aPn(ht:Hd t c 1)(hc:c<2)(h1:Hd f a w)(h2:Hd g b w):Hd (pW t f g) (if c=1 then a else b) w:=by
 unfold pW;by_cases c1:t.O=1
 ·have:c=1:=by
   have:=ht.2.1 0 (by rw[c1];rfl);rcases (show c=0\/c=1 by omega) with rfl|rfl
   ·cases this
   ·rfl
  rw[if_pos c1,if_pos this];exact h1
 ·rw[if_neg c1];by_cases c2:t.N=1
  ·have:c=0:=by
    have:=ht.1 0 (by rw[c2];rfl);rcases (show c=0\/c=1 by omega) with rfl|rfl
    ·rfl
    ·cases this
   rw[if_pos c2,if_neg ()];exact h2
  ·rw[if_neg c2];have go:∀ {z:Nat}{h:Ft},Hd h z w->(∀ i,(f.N&&&g.N)[i]! =true->h.N[i]! =true)->(∀ i,(f.O&&&g.O)[i]! =true->h.O[i]! =true)->min f.A g.A<=h.A->Hd ⟨f.N&&&g.N,f.O&&&g.O,min f.A g.A⟩ z w:=λ {z h} q q1 q2 q3=>
    ⟨λ i hi=>q.1 i (q1 i hi),λ i hi=>q.2.1 i (q2 i hi),sU q3 q.2.2⟩
   have an:∀ {x y:Nat} i,(x&&&y)[i]! =true->x[i]! =true/\y[i]! =true:=λ i hi=>by
    rw[yAj,yAy] at hi;exact hi
   split
   ·exact go h1 (λ i hi=>(an i hi).1) (λ i hi=>(an i hi).1) ()
   ·exact go h2 (λ i hi=>(an i hi).2) (λ i hi=>(an i hi).2) ()
def aWZ(a b:D):aH (.tuple [a,b]) (.int 0)=qz a:=rfl
def aX1(a b:D):aH (.tuple [a,b]) (.int 1)=qz b:=rfl
def aRt(a:Wd):aW .In (.str a.s) (.tuple [.str "add",.str "sub",.str "mul"])=qz (.bool (decide (a=.add\/a=.sub\/a=.mul))):=by cases a<;>rfl
def aYb(a:Wd):aW .In (.str a.s) (.tuple [.str "and",.str "or",.str "xor"])=qz (.bool (decide (a=.and\/a=.or\/a=.xor))):=by cases a<;>rfl
def fY{j:Int}(h:env[i]?=qz (qz (.d R)))(e:aH R (.int j)=qz x):ev C (.ix (.var i) (.int j)) env S=qz (.d x,S):=by erw[0,h,e]
noncomputable abbrev oe(R Wi Fs:D)(wd:Wd)(v:Int):bB:=[qz (.d R),qz (.d Wi),qz (.d Fs),qz (.d (.str wd.s)),(v:)]
section
variable (C:Calls)(R Wi Fs:D)(v:Int)(S:aC)(wd:Wd)
theorem nP:tv C (.cmp .Eq (.var 3) (.str "in")) (oe R Wi Fs wd v) S=qz (decide (wd=.in),S):=dC rfl (cG wd .in)
theorem oZ:tv C (.cmp .Eq (.var 3) (.str "num")) (oe R Wi Fs wd v) S=qz (decide (wd=.num),S):=dC rfl (cG wd .num)
theorem rF:tv C (.cmp .Eq (.var 3) (.str "not")) (oe R Wi Fs wd v) S=qz (decide (wd=.not),S):=dC rfl (cG wd .not)
theorem aEg:tv C (.cmp .Eq (.var 3) (.str "pick")) (oe R Wi Fs wd v) S=qz (decide (wd=.pick),S):=dC rfl (cG wd .pick)
theorem tG:tv C (.cmp .In (.var 3) (.con "SUMS" aEG)) (oe R Wi Fs wd v) S=qz (decide (wd=.add\/wd=.sub\/wd=.mul),S):=iG rfl rfl (aRt wd)
theorem vU:tv C (.cmp .In (.var 3) (.con "SHIFTS" vN)) (oe R Wi Fs wd v) S=qz (decide (wd=.left\/wd=.right\/wd=.slide),S):=iG rfl rfl (aDw wd)
theorem aBf:tv C (.cmp .In (.var 3) (.con "COMPARES" qC)) (oe R Wi Fs wd v) S=qz (decide (wd=.same\/wd=.less\/wd=.under),S):=iG rfl rfl (aA2 wd)
theorem aM3:tv C (.cmp .In (.var 3) (.tup (.cons (.str "and") (.cons (.str "or") (.cons (.str "xor") .nil))))) (oe R Wi Fs wd v) S=qz (decide (wd=.and\/wd=.or\/wd=.xor),S):=iG rfl rfl (aYb wd)
end
def aUu{wd:Wd}(h:wd=.cut\/wd=.wide\/wd=.sign):¬ wd=.in/\¬ wd=.num/\¬ wd=.not/\¬ (wd=.add\/wd=.sub\/wd=.mul)/\¬ (wd=.left\/wd=.right\/wd=.slide)/\¬ (wd=.same\/wd=.less\/wd=.under)/\¬ wd=.pick/\¬ (wd=.and\/wd=.or\/wd=.xor):=by erw[50,h]<;>decide
def aWP{wd:Wd}(h:wd=.and\/wd=.or\/wd=.xor):¬ wd=.in/\¬ wd=.num/\¬ wd=.not/\¬ (wd=.add\/wd=.sub\/wd=.mul)/\¬ (wd=.left\/wd=.right\/wd=.slide)/\¬ (wd=.same\/wd=.less\/wd=.under)/\¬ wd=.pick:=by erw[50,h]<;>decide
def aYu{wd:Wd}(h:wd=.left\/wd=.right\/wd=.slide):¬ wd=.in/\¬ wd=.num/\¬ wd=.not/\¬ (wd=.add\/wd=.sub\/wd=.mul):=by erw[50,h]<;>decide
section
variable (d:Nat)(R Wi Fs:D)(v:Int)(S:aC)
theorem aRd(f:Ft)(e0:aH R (.int 0)=qz (.str "not"))(e1:aH R (.int 1)=qz (.int v))(ef:aH Fs (.int 0)=qz f.d):cl fns (d+1) 46 [.d R,.d Wi,.d Fs] S=qz (.d (Ft.mk f.O f.N f.A).d,S):=by have t1:=nP (aD fns d) R Wi Fs v S .not;have t2:=oZ (aD fns d) R Wi Fs v S .not;have t3:=rF (aD fns d) R Wi Fs v S .not;refine fF (S1:=S) rfl d rfl rfl yAg (cF (S1:=S) (w:=.d (.str Wd.not.s)) (fY rfl e0) rfl (cF (S1:=S) (w:=.d (.int v)) (fY rfl e1) rfl (bQ t1 (bQ t2 (dS t3 (cL ?_))))));erw[0,ef,iA,iN,jP]
theorem aOJ(wd:Wd)(bC:wd=.left\/wd=.right\/wd=.slide)(f:Ft)(k:Nat)(g:D)(e0:aH R (.int 0)=qz (.str wd.s))(e1:aH R (.int 1)=qz (.int v))(e3:aH R (.int 3)=qz (.int k))(ef:aH Fs (.int 0)=qz f.d)(hk:cl fns d 39 [.d (.str wd.s),.d (.int v),.d f.d,.d (.int k)] S=qz (.d g,S)):cl fns (d+1) 46 [.d R,.d Wi,.d Fs] S=qz (.d g,S):=by have t1:=nP (aD fns d) R Wi Fs v S wd;have t2:=oZ (aD fns d) R Wi Fs v S wd;have t3:=rF (aD fns d) R Wi Fs v S wd;have t4:=tG (aD fns d) R Wi Fs v S wd;have t5:=vU (aD fns d) R Wi Fs v S wd;rw[dqT bC] at t5;let(n1,n2,n3,n4):=aYu bC;rw[dqF n1] at t1;rw[dqF n2] at t2;rw[dqF n3] at t3;rw[dqF n4] at t4;refine fF (S1:=S) rfl d rfl rfl yAg (cF (S1:=S) (w:=.d (.str wd.s)) (fY rfl e0) rfl (cF (S1:=S) (w:=.d (.int v)) (fY rfl e1) rfl (bQ t1 (bQ t2 (bQ t3 (bQ t4 (dS t5 (cL ?_))))))));erw[0,ef,e3,hk]
theorem aRX(wd:Wd)(bC:wd=.and\/wd=.or\/wd=.xor)(f g:Ft)(e0:aH R (.int 0)=qz (.str wd.s))(e1:aH R (.int 1)=qz (.int v))(ef:aH Fs (.int 0)=qz f.d)(eg:aH Fs (.int 1)=qz g.d):cl fns (d+3) 46 [.d R,.d Wi,.d Fs] S=qz (.d (bwN wd f g).d,S):=by have t1:=nP (d<$>2) R Wi Fs v S wd;have t2:=oZ (d<$>2) R Wi Fs v S wd;have t3:=rF (d<$>2) R Wi Fs v S wd;have t4:=tG (d<$>2) R Wi Fs v S wd;have t5:=vU (d<$>2) R Wi Fs v S wd;have t6:=aBf (d<$>2) R Wi Fs v S wd;have t7:=aEg (d<$>2) R Wi Fs v S wd;have t8:=aM3 (d<$>2) R Wi Fs v S wd;rw[dqT bC] at t8;let(n1,n2,n3,n4,n5,n6,n7):=aWP bC;rw[dqF n1] at t1;rw[dqF n2] at t2;rw[dqF n3] at t3;rw[dqF n4] at t4;rw[dqF n5] at t5;rw[dqF n6] at t6;rw[dqF n7] at t7;refine fF (S1:=S) rfl (d+2) rfl rfl yAg (cF (S1:=S) (w:=.d (.str wd.s)) (fY rfl e0) rfl (cF (S1:=S) (w:=.d (.int v)) (fY rfl e1) rfl (bQ t1 (bQ t2 (bQ t3 (bQ t4 (bQ t5 (bQ t6 (bQ t7 (dS t8 (cL ?_)))))))))));erw[0,ef,eg,aOZ d wd bC f g]
theorem aDD(wd:Wd)(bC:wd=.cut\/wd=.wide\/wd=.sign)(f:Ft)(w:Int)(g:D)(e0:aH R (.int 0)=qz (.str wd.s))(e1:aH R (.int 1)=qz (.int v))(ew:aH Wi (.int 0)=qz (.int w))(ef:aH Fs (.int 0)=qz f.d)(hk:cl fns d 40 [.d (.str wd.s),.d (.int w),.d (.int v),.d f.d] S=qz (.d g,S)):cl fns (d+1) 46 [.d R,.d Wi,.d Fs] S=qz (.d g,S):=by have t1:=nP (aD fns d) R Wi Fs v S wd;have t2:=oZ (aD fns d) R Wi Fs v S wd;have t3:=rF (aD fns d) R Wi Fs v S wd;have t4:=tG (aD fns d) R Wi Fs v S wd;have t5:=vU (aD fns d) R Wi Fs v S wd;have t6:=aBf (aD fns d) R Wi Fs v S wd;have t7:=aEg (aD fns d) R Wi Fs v S wd;have t8:=aM3 (aD fns d) R Wi Fs v S wd;let(n1,n2,n3,n4,n5,n6,n7,n8):=aUu bC;rw[dqF n1] at t1;rw[dqF n2] at t2;rw[dqF n3] at t3;rw[dqF n4] at t4;rw[dqF n5] at t5;rw[dqF n6] at t6;rw[dqF n7] at t7;rw[dqF n8] at t8;refine fF (S1:=S) rfl d rfl rfl yAg (cF (S1:=S) (w:=.d (.str wd.s)) (fY rfl e0) rfl (cF (S1:=S) (w:=.d (.int v)) (fY rfl e1) rfl (bQ t1 (bQ t2 (bQ t3 (bQ t4 (bQ t5 (bQ t6 (bQ t7 (bQ t8 (cL ?_)))))))))));erw[0,ew,ef,hk]
theorem aD3(n:Nat)(g:Ft)(e1:aH R (.int 1)=qz (.int n))(ho:cl fns (d+3) 46 [.d R,.d Wi,.d Fs] S=qz (.d g.d,S))(hg:FtOk g n)(hn:n<=64):cl fns (d+4) 47 [.d R,.d Wi,.d Fs] S=qz (.d (iQ g n).d,S):=by rw[aN rfl (d+3) _ S rfl];erw[11,aMn,ho,e1,aPu d g n hg hn]
end
def shN(wd:Wd)(w:Nat)(f:Ft)(k:Nat):Ft:=match wd with|.left=>wZ w f k|.right=>nA w f k|_=>wU w f k
def aDr(d:Nat)(wd:Wd)(bC:wd=.left\/wd=.right\/wd=.slide)(w:Nat)(f:Ft)(k:Nat)(hf:FtOk f w)(cB:1<=w)(hw:w<=64)(hk:k<=900)(S:aC):cl fns (d+4) 39 [.d (.str wd.s),.d (.int w),.d f.d,.d (.int k)] S=qz (.d (shN wd w f k).d,S):=by
 have t1:=@dC [qz (.d (.str wd.s)),(w:),qz (.d f.d),(k:)] 0 _ "left" _ S (d<$>3) rfl (cG wd .left);have t2:=@dC [qz (.d (.str wd.s)),(w:),qz (.d f.d),(k:)] 0 _ "right" _ S (d<$>3) rfl (cG wd .right);erw[50,bC]
 ·refine fF (S1:=S) rfl (d+3) rfl rfl yAg (dS t1 (cL ?_));have hq43:=aSW (d+1) w f k hf hw ();erw[0,hq43]
 ·refine fF (S1:=S) rfl (d+3) rfl rfl yAg (bQ t1 (dS t2 (cL ?_)));erw[0,aQz d w f k hw]
 ·refine fF (S1:=S) rfl (d+3) rfl rfl yAg (bQ t1 (bQ t2 (cL ?_)));erw[0,aRf d w f k cB hw hk]
def aDB(d:Nat)(f:Ft)(S:aC):cl fns (d+1) 22 [.d f.d] S=qz (.d (.int ((f.N|||f.O:Nat):Int)),S):=by rw[aN rfl d _ S rfl];erw[11,aGR,iA,iN,fG]
def qB(n:Nat):(((n:Nat):Int)==1)=(n==1):=by rw[yDf,beq_iff_eq,beq_iff_eq];omega
def aJ7(d w:Nat)(f g:Ft)(hf:f.N<2^w)(hg:g.N<2^w)(hw:w<=64)(S:aC):cl fns (d+3) 42 [.d (.int w),.d f.d,.d g.d] S=qz (.d (l3 (f.O:Nat) ((2^w-1-f.N:Nat):Int) (g.O:Nat) ((2^w-1-g.N:Nat):Int)).d,S):=by
 have g1:=aAq d f w hf hw S;have g2:=aAq d g w hg hw S;have l1:=vQ (d+1) f S;have l2:=vQ (d+1) g S;rw[aN rfl (d+2) _ S rfl];unfold l3;by_cases c1:((2^w-1-f.N:Nat):Int)<((g.O:Nat):Int)
 ·rw[if_pos c1];erw[11,aAC,g1,l2,fO,dqT c1,xV,Tv.d]
 ·rw[if_neg c1];by_cases c2:((2^w-1-g.N:Nat):Int)<=((f.O:Nat):Int)
  ·rw[if_pos c2];erw[11,aAC,g1,l2,fO,dqF c1,l1,g2,aKV,dqT c2,vT,Tv.d]
  ·rw[if_neg c2];erw[11,aAC,g1,l2,fO,dqF c1,l1,g2,aKV,dqF c2,sI,Tv.d]
def aAK(d w:Nat)(f:Ft)(cB:1<=w)(hw:w<=64)(S:aC):cl fns (d+3) 43 [.d f.d,.d (.int w)] S=qz (.d (tt f w).d,S):=by have t:cl fns (d+2) 21 [.d (.int 1),.d (.int w)] S=qz (.d (.int ((dL 1 w:Nat):Int)),S):=qD d 1 w S cB hw;rw[aN rfl (d+2) _ S rfl];erw[11,aGV,Ft.d,t,mZ,dJ]
def aTt(d w:Nat)(f g:Ft)(hw:w<=64)(S:aC):cl fns (d+3) 41 [.d (.int w),.d f.d,.d g.d] S=qz (.d (sA w f g).d,S):=by
 rw[aN rfl (d+2) _ S rfl];unfold sA;by_cases c1:f.N&&&g.O|||f.O&&&g.N=0
 ·have d1:(f.N&&&g.O|||f.O&&&g.N==0)=true:=by rw[beq_iff_eq];exact c1
  rw[if_neg (by simp[c1])];by_cases c2:(f.N|||f.O)&&&(g.N|||g.O)=2^w-1
  ·have d2:((f.N|||f.O)&&&(g.N|||g.O)==2^w-1)=true:=by rw[beq_iff_eq];exact c2
   rw[if_pos c2];have hq44:=dF (d+1) w ();erw[11,aAy,aAG (d+1),qU,eO,d1,aDB (d+1),dJ,hq44,bP,aAN,d2,xV,Tv.d]
  ·have d2:((f.N|||f.O)&&&(g.N|||g.O)==2^w-1)=false:=by rw[beq_eq_false_iff_ne];exact c2
   rw[if_neg c2];have hq45:=dF (d+1) w ();erw[11,aAy,aAG (d+1),qU,eO,d1,aDB (d+1),dJ,hq45,bP,aAN,d2,sI,Tv.d]
 ·have d1:(f.N&&&g.O|||f.O&&&g.N==0)=false:=by rw[beq_eq_false_iff_ne];exact c1
  rw[if_pos c1];erw[11,aAy,aAG (d+1),qU,eO,d1,vT,Tv.d]
def aRP(d:Nat)(t f g:Ft)(S:aC):cl fns (d+1) 45 [.d t.d,.d f.d,.d g.d] S=qz (.d (pW t f g).d,S):=by
 rw[aN rfl d _ S rfl];unfold pW;by_cases c1:t.O=1
 ·have d1:(t.O==1)=true:=by rw[beq_iff_eq];exact c1
  rw[if_pos c1];erw[11,aAA,iN,bP,qB,d1]
 ·have d1:(t.O==1)=false:=by rw[beq_eq_false_iff_ne];exact c1
  rw[if_neg c1];by_cases c2:t.N=1
  ·have d2:(t.N==1)=true:=by rw[beq_iff_eq];exact c2
   rw[if_pos c2];erw[11,aAA,iN,iA,bP,qB,d1,d2]
  ·have d2:(t.N==1)=false:=by rw[beq_eq_false_iff_ne];exact c2
   rw[if_neg c2];erw[11,aAA,iN,iA,jP,bP,qB,d1,d2,dJ,lX]
def oA(wd:Wd)(w:Nat)(f g:Ft):Ft:=match wd with|.same=>sA w f g|.less=>l3 (f.O:Nat) ((2^w-1-f.N:Nat):Int) (g.O:Nat) ((2^w-1-g.N:Nat):Int)|_=>l3 ((tt f w).O:Nat) ((2^w-1-(tt f w).N:Nat):Int) ((tt g w).O:Nat) ((2^w-1-(tt g w).N:Nat):Int)
def aLB(wd:Wd)(w:Nat)(f g:Ft):oA wd w f g=F1\/oA wd w f g=F0\/oA wd w f g=kN:=by
 unfold oA;split
 ·exact aWH ..
 ·exact aNu ..
 ·exact aNu ..
structure Ftd(f:Ft)(w:Nat):Prop where
 ok:FtOk f w
 dj:f.N&&&f.O=0
def aOC(d:Nat)(wd:Wd)(bC:wd=.same\/wd=.less\/wd=.under)(w:Nat)(f g:Ft)(hf:Ftd f w)(hg:Ftd g w)(cB:1<=w)(hw:w<=64)(S:aC):cl fns (d+4) 44 [.d (.str wd.s),.d (.int w),.d f.d,.d g.d] S=qz (.d (oA wd w f g).d,S):=by
 have t1:=@dC [qz (.d (.str wd.s)),(w:),qz (.d f.d),qz (.d g.d)] 0 _ "same" _ S (d<$>3) rfl (cG wd .same);have t2:=@dC [qz (.d (.str wd.s)),(w:),qz (.d f.d),qz (.d g.d)] 0 _ "less" _ S (d<$>3) rfl (cG wd .less);erw[50,bC]
 ·refine fF (S1:=S) rfl (d+3) rfl rfl yAg (dS t1 (cL ?_));erw[0,aTt d w f g hw]
 ·refine fF (S1:=S) rfl (d+3) rfl rfl yAg (bQ t1 (dS t2 (cL ?_)));erw[0,aJ7 d w f g hf.ok.lN hg.ok.lN hw]
 ·refine fF (S1:=S) rfl (d+3) rfl rfl yAg (bQ t1 (bQ t2 (cL ?_)));erw[0,aAK d w f cB hw,aAK d w g cB hw,aJ7 d w (tt f w) (tt g w) (aLL hf.ok hf.dj cB) (aLL hg.ok hg.dj cB) hw]
def Sw.wd:Sw->Wd
 |.add=>.add|.sub=>.sub|.mul=>.mul
def aOa(x:Int)(L:Nat):bV .BitAnd (.int x) (.int ((2^L-1:Nat):Int))=qz (.int ((rs x L:Nat):Int)):=by
 have hp:=xAe L;by_cases c:0<=x
 ·obtain⟨n,rfl⟩:∃ n:Nat,x=(n:Nat):=⟨x.toNat,by omega⟩;rw[dJ,aT2,yEa]
 ·have h1:decide ((0:Int)<=x)=false:=dqF c;have h2:decide ((0:Int)<=((2^L-1:Nat):Int))=true:=dqT ();obtain⟨b,hb⟩:∃ b:Nat,yBn x=(b:Nat):=⟨(yBn x).toNat,by unfold yBn;omega⟩;have hx:x = -((b:Nat):Int)-1:=by unfold yBn at hb;omega
  have e:(2^L-1)&&&b=b%2^L:=by rw[Nat.and_comm,yEa]
  have hm:=Nat.mod_lt b hp;have hr:=oU x L;have e2:x%((2^L:Nat):Int)=((2^L:Nat):Int)-1-((b%2^L:Nat):Int):=by
   have hd:(b:Int)=((2^L:Nat):Int)*((b/2^L:Nat):Int)+((b%2^L:Nat):Int):=by
    rw[<- yFp,<- Int.natCast_add,yGm]
   have hx2:x=(((2^L:Nat):Int)-1-((b%2^L:Nat):Int))+((2^L:Nat):Int)*(-((b/2^L:Nat):Int)-1):=by
    rw[hx,hd,Int.mul_sub,Int.mul_neg,Int.mul_one];omega
   rw[hx2,Int.add_mul_emod_self_left,Int.emod_eq_of_lt () ()]
  simp only[bV,mH];unfold yEg;rw[h1,h2];simp only[hb,yAs,e];congr 2;omega
def aDa(d:Nat)(s:Sw)(x y:Nat)(hx:x<2^64)(S:aC):cl fns (d+1) 26 [.d (.str s.wd.s),.d (.int x),.d (.int y)] S=qz (.d (.int (s.oc (x:Nat) (y:Nat))),S):=by
 have t1:=@dC [qz (.d (.str s.wd.s)),(x:),(y:)] 0 _ "add" _ S (aD fns d) rfl (cG s.wd .add);have t2:=@dC [qz (.d (.str s.wd.s)),(x:),(y:)] 0 _ "sub" _ S (aD fns d) rfl (cG s.wd .sub);cases s with
 |add=>
   refine fF (S1:=S) rfl d rfl rfl yAg (dS t1 (cL ?_));erw[0,cV]
 |sub=>
   refine fF (S1:=S) rfl d rfl rfl yAg (bQ t1 (dS t2 (cL ?_)));erw[0,cP]
 |mul=>
   refine fF (S1:=S) rfl d rfl rfl yAg (bQ t1 (bQ t2 (cL ?_)));have hq46:=@qG (x:Int) (y:Int) () ();erw[0,hq46]
def p64(h:n<2^w)(hw:w<=64):n<2^64:=xAb h (yAz (·) hw)
def aSU(d:Nat)(s:Sw)(w:Nat)(f g:Ft)(hf:FtOk f w)(hw:w<=64)(S:aC):cl fns (d+3) 27 [.d (.str s.wd.s),.d f.d,.d g.d] S=qz (.d (.tuple [.int ((uB s f g:Nat):Int),.int ((lG s f g:Nat):Int)]),S):=by have hL:=aDR (g:=g) hf;have e1:=aEx d ((f.N|||f.O)&&&(g.N|||g.O)) S;have e2:=dF (d+1) (gJ f g) (show gJ f g<=100000 by omega) S;rw[aN rfl (d+2) _ S rfl];erw[20,fH,aG9,aDB (d+1),dJ];rw[e1];erw[20,show lr ((f.N|||f.O)&&&(g.N|||g.O))=gJ f g from rfl];rw[e2];erw[0,vQ (d+1),aDa (d+1) s f.O g.O (p64 hf.lO hw),aOa,mZ]
def aPE(d:Nat)(s:Sw)(w:Nat)(f g:Ft)(hf:FtOk f w)(hg:FtOk g w)(hw:w<=64)(S:aC):cl fns (d+3) 29 [.d (.str s.wd.s),.d (.int w),.d f.d,.d g.d] S=qz (.d (.tuple [.int (gO s w f g),.int (gQ s w f g)]),S):=by
 have g1:=aAq d f w hf.lN hw S;have g2:=aAq d g w hg.lN hw S;have l1:=vQ (d+1) f S;have l2:=vQ (d+1) g S;have hp:=xAe w;have o1:=aDa (d+1) s f.O g.O (p64 hf.lO hw) S;have o2:=aDa (d+1) s (2^w-1-f.N) (2^w-1-g.N) (@p64 _ w () hw) S;have t1:aW .Eq (.str s.wd.s) (.str "sub")=qz (.bool (decide (s.wd=.sub))):=cG s.wd .sub;rw[aN rfl (d+2) _ S rfl];cases s with
 |sub=>
   have t:aW .Eq (.str Sw.sub.wd.s) (.str "sub")=qz (.bool true):=t1;erw[11,aA9,t,g1,g2,l1,l2,cP]
 |add=>
   have t:aW .Eq (.str Sw.add.wd.s) (.str "sub")=qz (.bool false):=t1;erw[11,aA9,t,g1,g2,l1,l2,o1,o2]
 |mul=>
   have t:aW .Eq (.str Sw.mul.wd.s) (.str "sub")=qz (.bool false):=t1;erw[11,aA9,t,g1,g2,l1,l2,o1,o2]
def aPb(d l g w:Nat)(S:aC)(hl:l<2^w)(hg:g<2^w)(hw:w<=64):cl fns (d+3) 6 [.d (.int l),.d (.int g),.d (.int w)] S=qz (.d (.tuple [.int (vM l g w:Nat),.int (pA l g w:Nat)]),S):=by have hx:l^^^g<2^10000:=aK9 (yEh hl hg) ();rw[aN rfl (d+2) _ S rfl];have hq47:=dF (d+1) w ();erw[11,aGL,hq47,mZ,aIl d (l^^^g) _ hx,dJ]
def aXp(s:Sw)(w:Nat)(f g:Ft)(hf:FtOk f w)(hg:FtOk g w)(ha:a<2^w)(hb:b<2^w)(h1:Hd f a w)(h2:Hd g b w):gO s w f g<=gQ s w f g:=by have:=aL2 s hf hg ha hb h1 h2;omega
def aRA(d:Nat)(s:Sw)(w:Nat)(f g:Ft)(hf:FtOk f w)(hg:FtOk g w)(hb:gO s w f g<=gQ s w f g)(hw:w<=64)(S:aC):cl fns (d+4) 30 [.d (.str s.wd.s),.d (.int w),.d f.d,.d g.d] S=qz (.d (.tuple [.int ((sC s w f g:Nat):Int),.int ((sE s w f g:Nat):Int)]),S):=by
 have b1:=aPE d s w f g hf hg hw S;have hp:=xAe w;rw[aN rfl (d+3) _ S rfl];unfold sC sE;by_cases c1:gO s w f g<0
 ·rw[if_pos (.inl c1),if_pos (.inl c1)];erw[11,aAw,b1,fO,dqT c1]
 ·by_cases c2:((2^w-1:Nat):Int)<gQ s w f g
  ·rw[if_pos (.inr c2),if_pos (.inr c2)];have hq48:=dF (d+2) w ();erw[11,aAw,b1,fO,dqF c1,hq48,fU,dqT c2]
  ·have c:¬ (gO s w f g<0\/gQ s w f g>((2^w-1:Nat):Int)):=λ h=>h.elim c1 c2
   rw[if_neg c,if_neg c];obtain⟨l,hl⟩:∃ l:Nat,gO s w f g=(l:Nat):=⟨(gO s w f g).toNat,by omega⟩;obtain⟨u,hu⟩:∃ u:Nat,gQ s w f g=(u:Nat):=⟨(gQ s w f g).toNat,by omega⟩;rw[hl] at c1;rw[hu] at c2;rw[hl,hu] at b1 hb;rw[hl,hu,yAs,yAs];have hq49:=dF (d+2) w ();have hq50:=aPb d l u w S () () hw;erw[11,aAw,b1,fO,dqF c1,hq49,fU,dqF c2,hq50]
def aRG(d:Nat)(s:Sw)(w:Nat)(f g:Ft)(hw:w<=64)(S:aC):cl fns (d+3) 28 [.d (.str s.wd.s),.d (.int w),.d f.d,.d g.d] S=qz (.d (.int ((sD s w f g:Nat):Int)),S):=by
 rw[aN rfl (d+2) _ S rfl];cases s with
 |add=>
   have t:aW .NotEq (.str Sw.add.wd.s) (.str "mul")=qz (.bool true):=by kernel_rfl
   erw[11,aAm,t]
 |sub=>
   have t:aW .NotEq (.str Sw.sub.wd.s) (.str "mul")=qz (.bool true):=by kernel_rfl
   erw[11,aAm,t]
 |mul=>
   have t:aW .NotEq (.str Sw.mul.wd.s) (.str "mul")=qz (.bool false):=by kernel_rfl
   have e:((lr f.N:Nat):Int)+((lr g.N:Nat):Int)=((lr f.N+lr g.N:Nat):Int):=();have hq51:=dF (d+1) (min w (lr f.N+lr g.N)) ();erw[11,aAm,t,iA,aEx d,cV,e,lX,hq51]
def aPA(d:Nat)(s:Sw)(f g:Ft)(S:aC):cl fns (d+1) 31 [.d (.str s.wd.s),.d f.d,.d g.d] S=qz (.d (.int ((lT s f g:Nat):Int)),S):=by
 have e:∀ m:Nat,nQ [.int 1,.int (((m:Nat):Int)-1)]=qz (.int ((max 1 (m-1):Nat):Int)):=λ m=>aDu m 1
 rw[aN rfl d _ S rfl];cases s with
 |add=>
   have t:aW .Eq (.str Sw.add.wd.s) (.str "mul")=qz (.bool false):=cG .add .mul;erw[11,aAt,t,jP,lX,cP,e]
 |sub=>
   have t:aW .Eq (.str Sw.sub.wd.s) (.str "mul")=qz (.bool false):=cG .sub .mul;erw[11,aAt,t,jP,lX,cP,e]
 |mul=>
   have t:aW .Eq (.str Sw.mul.wd.s) (.str "mul")=qz (.bool true):=cG .mul .mul;erw[11,aAt,t]
def aVe(d:Nat)(s:Sw)(w:Nat)(f g:Ft)(hf:FtOk f w)(hg:FtOk g w)(hb:gO s w f g<=gQ s w f g)(hw:w<=64)(S:aC):cl fns (d+5) 32 [.d (.str s.wd.s),.d (.int w),.d f.d,.d g.d] S=qz (.d (yY s w f g).d,S):=by rw[aN rfl (d+4) _ S rfl];erw[11,aHo,aSU (d+1) s w f g hf hw,aRA d s w f g hf hg hb hw,aWZ,aX1,fG,aRG (d+1) s w f g hw,aPA (d+3) s f g]
section
variable (d:Nat)(R Wi Fs:D)(v:Nat)(S:aC)
theorem aQB(s:Sw)(f g:Ft)(e0:aH R (.int 0)=qz (.str s.wd.s))(e1:aH R (.int 1)=qz (.int v))(ef:aH Fs (.int 0)=qz f.d)(eg:aH Fs (.int 1)=qz g.d)(hf:FtOk f v)(hg:FtOk g v)(hb:gO s v f g<=gQ s v f g)(hv:v<=64):cl fns (d+6) 46 [.d R,.d Wi,.d Fs] S=qz (.d (yY s v f g).d,S):=by
 have bC:s.wd=.add\/s.wd=.sub\/s.wd=.mul:=by
  cases s
  ·exact .inl rfl
  ·exact .inr (.inl rfl)
  ·exact .inr (.inr rfl)
 have t1:=nP (d<$>5) R Wi Fs (v:Nat) S s.wd;have t2:=oZ (d<$>5) R Wi Fs (v:Nat) S s.wd;have t3:=rF (d<$>5) R Wi Fs (v:Nat) S s.wd;have t4:=tG (d<$>5) R Wi Fs (v:Nat) S s.wd;rw[dqT bC] at t4;rw[dqF (by rcases bC with h|h|h<;>rw[h]<;>decide)] at t1 t2 t3;refine fF (S1:=S) rfl (d+5) rfl rfl yAg (cF (S1:=S) (w:=.d (.str s.wd.s)) (fY rfl e0) rfl (cF (S1:=S) (w:=.d (.int v)) (fY rfl e1) rfl (bQ t1 (bQ t2 (bQ t3 (dS t4 (cL ?_)))))));erw[0,ef,eg,aVe d s v f g hf hg hb hv]
end
section
variable {f:Ft}{w:Nat}(hf:FtOk f w)(hd:f.N&&&f.O=0)(cB:1 <= w)
include hf hd cB
theorem aRl(k:Nat):FtOk (wZ w f k) w:=by have m:=@aJs w _ k hd;have:=hf.aw;exact⟨m.lN,m.lO,yDk _ _,Nat.max_le.mpr ⟨cB,xAh (yFw _ _) this⟩⟩
theorem aQ0(k:Nat):FtOk (nA w f k) w:=by
 have m:=aH6 k hf hd;have h1:=hf.aw;have h2:=hf.a1;refine⟨m.lN,m.lO,?_,?_⟩
 ·show 1<=if k=0 then f.A else 1
  split<;>omega
 ·show(if k=0 then f.A else 1)<=w;split<;>omega
theorem aQk(k:Nat):FtOk (wU w f k) w:=by have m:=aIe k cB hf hd;have h1:=hf.a1;exact⟨m.lN,m.lO,by show 1<=min w (f.A+k);omega,by show min w (f.A+k)<=w;omega⟩
theorem aWg(hv1:1<=v)(hv:v<=w):FtOk (xY w v f) v:=by have m:=aKW w v hd;have h1:=hf.aw;exact⟨m.lN,m.lO,yDk _ _,by show max 1 (f.A-(w-v))<=v;omega⟩
theorem aR8(hv:w<=v):FtOk (nJ w v f) v:=by
 have m:=aJO hv hf hd;have h1:=hf.aw;have h2:=hf.a1;refine⟨m.lN,m.lO,?_,?_⟩
 ·show 1<=if v=w then f.A else 1
  split<;>omega
 ·show(if v=w then f.A else 1)<=v;split<;>omega
theorem aRo(hv:w<=v):FtOk (xJ w v f) v:=by have m:=aJ6 cB hv hf hd;have h1:=hf.aw;have h2:=hf.a1;exact⟨m.lN,m.lO,by show 1<=f.A+(v-w);omega,by show f.A+(v-w)<=v;omega⟩
end
def aYc(hb:b=0\/b=1\/b=2)(hf:FtOk f w)(hd:f.N&&&f.O=0)(hg:FtOk g w)(he:g.N&&&g.O=0):FtOk (uS b f g) w:=by have m:=aLT b hb hf hd hg he;have h1:=hf.a1;have h2:=hg.a1;have h3:=hf.aw;erw[50,hb]<;>exact⟨m.lN,m.lO,by show 1<=min f.A g.A;omega,by show min f.A g.A<=w;omega⟩
section
variable (d:Nat)(R Wi Fs:D)(v:Int)(S:aC)
theorem nc5{wd:Wd}(h:wd=.same\/wd=.less\/wd=.under):wd≠.in/\wd≠.num/\wd≠.not/\(¬ (wd=.add\/wd=.sub\/wd=.mul))/\¬ (wd=.left\/wd=.right\/wd=.slide):=by erw[50,h]<;>decide
theorem aPM(wd:Wd)(bC:wd=.same\/wd=.less\/wd=.under)(w:Nat)(f g:Ft)(e0:aH R (.int 0)=qz (.str wd.s))(e1:aH R (.int 1)=qz (.int v))(ew:aH Wi (.int 0)=qz (.int w))(ef:aH Fs (.int 0)=qz f.d)(eg:aH Fs (.int 1)=qz g.d)(hf:Ftd f w)(hg:Ftd g w)(cB:1<=w)(hw:w<=64):cl fns (d+5) 46 [.d R,.d Wi,.d Fs] S=qz (.d (oA wd w f g).d,S):=by have t1:=nP (d<$>4) R Wi Fs v S wd;have t2:=oZ (d<$>4) R Wi Fs v S wd;have t3:=rF (d<$>4) R Wi Fs v S wd;have t4:=tG (d<$>4) R Wi Fs v S wd;have t5:=vU (d<$>4) R Wi Fs v S wd;have t6:=aBf (d<$>4) R Wi Fs v S wd;let(n1,n2,n3,n4,n5):=nc5 bC;rw[dqT bC] at t6;rw[dqF n1] at t1;rw[dqF n2] at t2;rw[dqF n3] at t3;rw[dqF n4] at t4;rw[dqF n5] at t5;refine fF (S1:=S) rfl (d+4) rfl rfl yAg (cF (S1:=S) (w:=.d (.str wd.s)) (fY rfl e0) rfl (cF (S1:=S) (w:=.d (.int v)) (fY rfl e1) rfl (bQ t1 (bQ t2 (bQ t3 (bQ t4 (bQ t5 (dS t6 (cL ?_)))))))));erw[0,ew,ef,eg,aOC d wd bC w f g hf hg cB hw]
theorem aOP(t f g:Ft)(e0:aH R (.int 0)=qz (.str "pick"))(e1:aH R (.int 1)=qz (.int v))(et:aH Fs (.int 0)=qz t.d)(ef:aH Fs (.int 1)=qz f.d)(eg:aH Fs (.int 2)=qz g.d):cl fns (d+2) 46 [.d R,.d Wi,.d Fs] S=qz (.d (pW t f g).d,S):=by have t1:=nP (d<$>1) R Wi Fs v S .pick;have t2:=oZ (d<$>1) R Wi Fs v S .pick;have t3:=rF (d<$>1) R Wi Fs v S .pick;have t4:=tG (d<$>1) R Wi Fs v S .pick;have t5:=vU (d<$>1) R Wi Fs v S .pick;have t6:=aBf (d<$>1) R Wi Fs v S .pick;have t7:=aEg (d<$>1) R Wi Fs v S .pick;refine fF (S1:=S) rfl (d+1) rfl rfl yAg (cF (S1:=S) (w:=.d (.str Wd.pick.s)) (fY rfl e0) rfl (cF (S1:=S) (w:=.d (.int v)) (fY rfl e1) rfl (bQ t1 (bQ t2 (bQ t3 (bQ t4 (bQ t5 (bQ t6 (dS t7 (cL ?_))))))))));erw[0,et,ef,eg,aRP d t f g]
end
structure Op(f:Ft)(w:Nat):Prop where
 ok:FtOk f w
 ho:∃ a,a<2^w/\Hd f a w
 w1:1<=w
 w2:w<=64
def Op.dj(o:Op f w):f.N&&&f.O=0:=by let(a,_,h):=o.ho;exact aYU h
def bG:Wd->Nat
 |.in|.num=>0
 |.not|.left|.right|.slide|.cut|.wide|.sign=>1
 |.pick=>3|_=>2
def aSS(wd:Wd):aCi uV (.str wd.s)=qz (.int (bG wd:Nat)):=by cases wd<;>kernel_rfl
def aLX(r:Rw):aH r.d (.int 0)=qz (.str r.wd.s):=@cW (.str r.wd.s::nD r.w::r.args.map nD) 0 _ rfl
def aRu{fa:FE}{fl fh:FO}(r:Rw)(c:Nat)(h1:fa env S=qz (.d r.d,S))(h2:fl env S=qz (qz 2,S))(h3:fh env S=qz (qz ((2+c:Nat):Int),S)):oG fa fl fh env S=qz (.d (.tuple ((r.args.take c).map nD)),S):=by
 have i2:HT.sIx ↑(yDc r.wd.s::nD r.w::r.args.map nD) 0 (qz 2)=2:=by
  rw[show(2:Int)=((2:Nat):Int) from rfl,HT.sIx_nat];simp
 have e:dY (yDc r.wd.s::nD r.w::r.args.map nD) (qz 2) (qz ((2+c:Nat):Int))=(r.args.take c).map nD:=by
  unfold dY;rw[i2,HT.sIx_nat];simp only[List.drop_succ_cons,yFx,yAl,yAc];rw[List.map_take];rcases yHx c ↑r.args with z|z
  ·rw[yDx (),show 2+c-2=c by omega]
  ·rw[yDl (),yCh (by simp),yCh (by simpa using z)]
 unfold oG;rw[h1,oB];simp only[];rw[h2,oB];simp only[];rw[h3,oB];simp only[dr,oB,Rw.d];rw[e]
def mT(d:Nat)(r:Rw)(S:aC):cl fns (d+1) 7 [.d r.d] S=qz (.d (.tuple ((r.args.take (bG r.wd)).map nD)),S):=by
 have e2:(2:Int)+((bG r.wd:Nat):Int)=((2+bG r.wd:Nat):Int):=();have sl:ev (aD fns d) (.sl (.var 0) (.cons (.int 2) .nil) (.cons (.bin .Add (.int 2) (.tab "OPERAND_COUNTS" uV (.ix (.var 0) (.int 0)))) .nil)) [qz (.d r.d)] S=qz (.d (.tuple ((r.args.take (bG r.wd)).map nD)),S):=by
  simp only[aEU];refine aRu r (bG r.wd) (by erw[20,True]) (by erw[20,pC]) ?_;erw[0,pC,aLX,aSS,cV,e2]
 rw[aN rfl d _ S rfl];show((eC (pJ (ev (aD fns d) (.sl (.var 0) (.cons (.int 2) .nil) (.cons (.bin .Add (.int 2) (.tab "OPERAND_COUNTS" uV (.ix (.var 0) (.int 0)))) .nil)))) tR) [qz (.d r.d)] S).bind _=_;simp only[eC,pJ,sl,oB,lH,yAg]
inductive RwOk:Rw->List Nat->Prop
 |inp {w:Nat} (h1:1<=w) (h2:w<=64):RwOk ⟨.in,w,[]⟩ []
 |num {w n:Nat} (h1:1<=w) (h2:w<=64) (hn:n<2^w):RwOk ⟨.num,w,[n]⟩ []
 |nt {w a:Nat} (h1:1<=w) (h2:w<=64):RwOk ⟨.not,w,[a]⟩ [w]
 |sh {wd:Wd}{w a k:Nat} (h1:1<=w) (h2:w<=64) (bC:wd=.left\/wd=.right\/wd=.slide) (hk:k<64):RwOk ⟨wd,w,[a,k]⟩ [w]
 |cut {w v a:Nat} (h1:1<=w) (hv:w<=v) (h2:v<=64):RwOk ⟨.cut,w,[a]⟩ [v]
 |wide {w v a:Nat} (h1:1<=v) (hv:v<=w) (h2:w<=64):RwOk ⟨.wide,w,[a]⟩ [v]
 |sign {w v a:Nat} (h1:1<=v) (hv:v<=w) (h2:w<=64):RwOk ⟨.sign,w,[a]⟩ [v]
 |bw {wd:Wd}{w a b:Nat} (h1:1<=w) (h2:w<=64) (bC:wd=.and\/wd=.or\/wd=.xor):RwOk ⟨wd,w,[a,b]⟩ [w,w]
 |sm {s:Sw}{w a b:Nat} (h1:1<=w) (h2:w<=64):RwOk ⟨s.wd,w,[a,b]⟩ [w,w]
 |cmp {wd:Wd}{v a b:Nat} (h1:1<=v) (h2:v<=64) (bC:wd=.same\/wd=.less\/wd=.under):RwOk ⟨wd,1,[a,b]⟩ [v,v]
 |pick {w c a b:Nat} (h1:1<=w) (h2:w<=64):RwOk ⟨.pick,w,[c,a,b]⟩ [1,w,w]
def g0(l:List Nat)(i:Nat):Nat:=l.getD i 0
def aSt(hn:n<2^w):n^^^(2^w-1)=2^w-1-n:=by
 apply xAl;intro i;rw[xAn,fB];have:=sW hn i;unfold rV at this;rw[this];by_cases c:i<w
 ·rw[dqT c,yBc];cases n[i]!<;>rfl
 ·rw[dqF c,dO hn ()];rfl
def aKp(wd:Wd):bG wd<=3:=by cases wd<;>decide
def aDC(S0:aC)(l:List D)(x:D)(h:↑l<=1000):cX (S0++[qz l]) (.loc ↑S0) (.d x)=qz (.d .none,S0++[qz (l++[x])]):=by unfold cX;simp only[yAf (yAb ↑S0),yAx,yBt];rw[if_pos (by rw[zq];omega)];rw[List.set_append_right _ _ (yAb _),yAx];rfl
def sP(S0:aC)(l:List D):(S0++[qz l])[↑S0]?=qz (qz l):=by rw[yAf (yAb _),yAx];rfl
def bY(r:Rw)(l:List Nat):List Nat:=(r.args.take (bG r.wd)).map (g0 l)
def aHa{α:Type}{l:List α}{vs:List D}{f:α->D}(h1:↑vs=↑l)(h2:∀ (i:Nat) (a:α),l[i]?=qz a->∃ v,vs[i]?=qz v/\v=f a):vs=l.map f:=by
 apply List.ext_getElem?;intro i;rw[yAd];by_cases c:i<↑l
 ·let(v,h3,rfl):=h2 i l[i] (yAa c);rw[h3,yAa c];rfl
 ·rw[yCp (),yCp ()];rfl
def aDx(d:Nat)(r:Rw)(w:W)(x:D)(f:Nat->D)(S:aC)(hv:∀ aM,dr (S++[qz aM]) w=qz x)(hx:∀ a∈r.args.take (bG r.wd),aH x (nD a)=qz (f a)):cl fns (d+2) 9 [.d r.d,w] S=qz (.d (.tuple ((r.args.take (bG r.wd)).map f)),S):=by
 have cK:↑(r.args.take (bG r.wd))<=3:=by have:=aKp r.wd;rw[yBk];omega
 let(vs,S',e1,hS',hI,hvl,hq):=@aIu [qz (.d r.d),qz w,qx] S S _ (.one 2) (lv (d<$>1) (.it (.call 7 (.cons (.var 0) .nil)))) (ev (d<$>1) (.ix (.var 1) (.var 2))) nD (λ _ S'=>S'=S) (λ a v=>v=f a) (r.args.take (bG r.wd)) (by
  erw[20,mT d,eV]) (by rw[zq];omega) rfl (by
  intro a ha;refine⟨_,rfl,?_⟩;rintro j S' aM hj hS rfl;refine⟨f a,S',?_,rfl,rfl,rfl⟩;have hd:∀ {k:D->Option (W×aC)},(dr (S'++[qz aM]) w).bind k=k x:=λ {k}=>by rw[hv aM];rfl
  simp only[aEQ,aEj,pX,f2,kJ,jG,clr,Tg.slots,yBb,yCm,yDp,yCr,yCx,yBt,oB,hd];show((aH x (nD a)).bind λ z=>qz (W.d z,S'++[qz aM]))=_
  rw[hx a ha];rfl)
 subst hI;have e2:vs=(r.args.take (bG r.wd)).map f:=aHa hvl hq;subst e2;have e1':lv (d<$>1) aGh [qz (.d r.d),qz w,qx] S'=qz ((r.args.take (bG r.wd)).map f,S'):=e1;rw[aN rfl (d+1) _ S' rfl];erw[11,aGE,e1',kC,kB]
def aYi{l:List Nat}(h:a<↑l):(l.map nD)[a]?=qz (nD (g0 l a)):=by rw[yAd,yAa h];show qz (nD l[a])=qz (nD (l.getD a 0));rw[xAg,yAa h];rfl
def aR5(d:Nat)(r:Rw)(l:List Nat)(S:aC)(h:∀ a∈r.args.take (bG r.wd),a<↑l):cl fns (d+2) 9 [.d r.d,.d (l*>nD)] S=qz (.d (.tuple ((bY r l).map nD)),S):=by
 have:=aDx d r (.d (l*>nD)) (l*>nD) (λ a=>nD (g0 l a)) S (λ _=>rfl) λ a ha=>cW (aYi (h a ha))
 rw[this,bY,yBd];rfl
def aN8(d:Nat)(rs:List Rw)(o:D)(hl:↑rs<=1000)(S:aC):cl fns (d+1) 11 [.d (rs<*o)] S=qz (.d (.tuple ((~~~rs).map nD)),S):=by
 have i0:aH (rs<*o) (.int 0)=qz (rs*>Rw.d):=rfl;have hc:lv (aD fns d) aGv [qz (.d (rs<*o)),qx] S=qz ((~~~rs).map nD,S):=by
  rw[yBd];refine mY (fi:=lv (aD fns d) (.it (.ix (.var 0) (.int 0)))) (fe:=ev (aD fns d) (.ix (.var 1) (.int 1))) Rw.d (nD ∘ λ r=>r.w) rs ?_ (by rw[zq];omega) λ r hr=>?_
  ·erw[0,i0,eV]
  ·refine⟨_,rfl,λ S'=>?_⟩;erw[0,clr,yBb,yCm,dD]
 rw[aN rfl d _ S rfl];erw[11,aHb,hc,kC,kB]
def aZO(rs:List Rw):Prop:=∀ (j:Nat) (r:Rw),rs[j]?=qz r->RwOk r (bY r (~~~rs))/\∀ a∈r.args.take (bG r.wd),a<j
structure Prg(rs:List Rw):Prop where
 l:↑rs<=100
 fit:aZO rs
 ws:∀ (j:Nat) (r:Rw),rs[j]?=qz r->1<=r.w/\r.w<=64
def aQj(hn:n<2^w):(2^w-1)^^^n=2^w-1-n:=by rw[Nat.xor_comm];exact aSt hn
def zS(n w:Nat):Ft:=⟨2^w-1-n,n,1⟩
def aMf(hn:n<2^w)(hw:1<=w):FtOk (zS n w) w:=⟨by show 2^w-1-n<2^w;have:=xAe w;omega,hn,yAb 1,hw⟩
def aSj(hn:n<2^w):Hd (zS n w) n w:=by
 refine⟨λ i hi=>?_,λ i hi=>hi,mD _ _⟩;have hi':(2^w-1-n)[i]! =true:=hi;by_cases c:i<w
 ·rw[aBp hn c] at hi';simpa using hi'
 ·exact dO hn ()
def aSn(hw:1<=w):iQ kN w=kN:=by
 have u:dB 0 1 w=0:=by
  unfold dB;rw[Nat.zero_and,if_pos rfl]
 have t:tr 0 w=0:=by
  unfold tr;rw[Nat.zero_xor];have:bl (2^w-1)=w:=aHN (wG w) (.inr (by rw[fB,dqT ()]));omega
 show Ft.mk (dB 0 1 w) (dB 0 1 w) (yO 1 (tr (dB 0 1 w) w) (tr (dB 0 1 w) w))=⟨0,0,1⟩;rw[u,t];rfl
def aQf(d n w:Nat)(hn:n<2^w)(cB:1<=w)(hw:w<=64)(S:aC):cl fns (d+4) 47 [.d (.tuple [.str "num",.int w,.int n]),.d (.tuple []),.d (.tuple [])] S=qz (.d (iQ (zS n w) w).d,S):=by
 have nf:cl fns (d+2) 33 [.d (.int w),.d (.int n)] S=qz (.d (zS n w).d,S):=by
  rw[aN rfl (d+1) _ S rfl];have hq52:=dF d w ();erw[11,aHu,hq52,mZ,aQj hn]
 have i2:aH (.tuple [.str "num",.int w,.int n]) (.int 2)=qz (.int n):=rfl;refine aD3 d _ _ _ S w (zS n w) rfl ?_ (aMf hn cB) hw;have t1:=nP (d<$>2) (.tuple [.str "num",.int w,.int n]) (.tuple []) (.tuple []) (w:Nat) S .num;have t2:=oZ (d<$>2) (.tuple [.str "num",.int w,.int n]) (.tuple []) (.tuple []) (w:Nat) S .num;refine fF (S1:=S) rfl (d+2) rfl rfl yAg (cF (S1:=S) (w:=.d (.str Wd.num.s)) (fY rfl rfl) rfl (cF (S1:=S) (w:=.d (.int w)) (fY rfl rfl) rfl (bQ t1 (dS t2 (cL ?_)))));erw[0,i2,nf]
def aTv(d w:Nat)(cB:1<=w)(hw:w<=64)(S:aC):cl fns (d+4) 47 [.d (.tuple [.str "in",.int w]),.d (.tuple []),.d (.tuple [])] S=qz (.d kN.d,S):=by have t1:=nP (d<$>2) (.tuple [.str "in",.int w]) (.tuple []) (.tuple []) (w:Nat) S .in;have hk:FtOk kN w:=⟨xAe w,xAe w,yAb 1,cB⟩;have r:=aD3 d (.tuple [.str "in",.int w]) (.tuple []) (.tuple []) S w kN rfl (fF (S1:=S) rfl (d+2) rfl rfl yAg (cF (S1:=S) (w:=.d (.str Wd.in.s)) (fY rfl rfl) rfl (cF (S1:=S) (w:=.d (.int w)) (fY rfl rfl) rfl (dS t1 (cL rfl))))) hk hw;rw[aSn cB] at r;exact r
def tW:List Ft->List Nat->Prop
 |f::Fs,w::ws=>Op f w/\tW Fs ws|[],[]=>True|_,_=>False
def yT(h:tW Fs [w]):∃ f,Fs=[f]/\Op f w:=by
 rcases Fs with _|⟨a,_|⟨b,r⟩⟩
 ·exact h.elim
 ·exact⟨a,rfl,h.1⟩
 ·exact h.2.elim
def aFA(h:tW Fs [w,v]):∃ f g,Fs=[f,g]/\Op f w/\Op g v:=by
 rcases Fs with _|⟨a,_|⟨b,_|⟨c,r⟩⟩⟩
 ·exact h.elim
 ·exact h.2.elim
 ·exact⟨a,b,rfl,h.1,h.2.1⟩
 ·exact h.2.2.elim
def aYX(h:tW Fs [w,v,u]):∃ f g k,Fs=[f,g,k]/\Op f w/\Op g v/\Op k u:=by
 rcases Fs with _|⟨a,_|⟨b,_|⟨c,_|⟨e,r⟩⟩⟩⟩
 ·exact h.elim
 ·exact h.2.elim
 ·exact h.2.2.elim
 ·exact⟨a,b,c,rfl,h.1,h.2.1,h.2.2.1⟩
 ·exact h.2.2.2.elim
def aUQ(k:FtOk g w)(h:Hd g z w):Hd g (z%2^w) w:=by
 have m:∀ i,i<w->(z%2^w)[i]! =z[i]!:=λ i hi=>by rw[yBj,dqT hi,yBc]
 have lt:∀ {n i:Nat},n<2^w->n[i]! =true->i<w:=λ {n i} hn hi=>by
  by_cases c:i<w
  ·exact c
  ·rw[dO hn ()] at hi;cases hi
 refine⟨λ i hi=>by rw[m i (lt k.lN hi)];exact h.1 i hi,λ i hi=>by rw[m i (lt k.lO hi)];exact h.2.1 i hi,?_⟩;rcases h.2.2 with q|q
 ·exact .inl λ i a b=>by rw[m i b];exact q i a b
 ·exact .inr λ i a b=>by rw[m i b];exact q i a b
def RG(r:Rw)(ws:List Nat)(Fs:List Ft):Prop:=∃ g:Ft,Op g r.w/\∀ d S,cl fns (d+7) 47 [.d r.d,.d (ws*>nD),.d (Fs*>Ft.d)] S=qz (.d g.d,S)
def aL1(hg:FtOk g w)(h:Hd g z w)(h1:1<=w)(h2:w<=64):Op (iQ g w) w:=⟨aLS hg,⟨_,Nat.mod_lt _ (xAe w),aUQ (aLS hg) ((aP7 hg).mpr h)⟩,h1,h2⟩
def nK{r:Rw}(h1:1<=r.w)(h2:r.w<=64)(g:Ft)(hg:FtOk g r.w)(hh:Hd g z r.w)(ho:∀ d S,cl fns (d+6) 46 [.d r.d,.d (ws*>nD),.d (Fs*>Ft.d)] S=qz (.d g.d,S)):RG r ws Fs:=
 ⟨_,aL1 hg hh h1 h2,λ d S=>aD3 (d+3) _ _ _ S r.w g (dD r) (ho d S) hg h2⟩
def aV7(o:Op f w):RG ⟨.not,w,[a]⟩ [w] [f]:=by let(x,hx,hf):=o.ho;exact nK o.w1 o.w2 ⟨f.O,f.N,f.A⟩ ⟨o.ok.lO,o.ok.lN,o.ok.a1,o.ok.aw⟩ (aP2 o.ok o.dj hx hf) λ d S=>aRd (d+5) _ _ _ (w:Nat) S f rfl rfl rfl
def aW0(wd:Wd)(bC:wd=.left\/wd=.right\/wd=.slide)(hk:k<64)(o:Op f w):RG ⟨wd,w,[a,k]⟩ [w] [f]:=by
 let(x,hx,hf):=o.ho;obtain⟨z,ok,ho⟩:∃ z,FtOk (shN wd w f k) w/\Hd (shN wd w f k) z w:=by
  erw[50,bC]
  ·exact⟨_,aRl o.ok o.dj o.w1 k,aO9 o.ok o.dj hx hf k⟩
  ·exact⟨_,aQ0 o.ok o.dj o.w1 k,aO0 o.ok o.dj hx hf k⟩
  ·exact⟨_,aQk o.ok o.dj o.w1 k,aOV o.ok o.dj hx hf o.w1 k⟩
 exact nK o.w1 o.w2 (shN wd w f k) ok ho λ d S=>aOJ (d+5) _ _ _ (w:Nat) S wd bC f k _ rfl rfl rfl rfl (aDr (d+1) wd bC w f k o.ok o.w1 o.w2 () S)
def aV4(h1:1<=w)(hv:w<=v)(o:Op f v):RG ⟨.cut,w,[a]⟩ [v] [f]:=by let(x,hx,hf):=o.ho;exact nK h1 (xAh hv o.w2) (xY v w f) (aWg o.ok o.dj o.w1 h1 hv) (aQl o.ok o.dj hx hf hv) λ d S=>aDD (d+5) _ _ _ (w:Nat) S .cut (.inl rfl) f (v:Nat) _ rfl rfl rfl rfl (aT8 (d+3) v w f hv (xAh hv o.w2) S)
def aRL(hv:v<=w)(h2:w<=64)(o:Op f v):RG ⟨.wide,w,[a]⟩ [v] [f]:=by let(x,hx,hf):=o.ho;exact nK (xAh o.w1 hv) h2 (nJ v w f) (aR8 o.ok o.dj o.w1 hv) (aPW o.ok o.dj hx hf hv) λ d S=>aDD (d+5) _ _ _ (w:Nat) S .wide (.inr (.inl rfl)) f (v:Nat) _ rfl rfl rfl rfl (aSo (d+2) v w f hv h2 S)
def aSi(hv:v<=w)(h2:w<=64)(o:Op f v):RG ⟨.sign,w,[a]⟩ [v] [f]:=by let(x,hx,hf):=o.ho;exact nK (xAh o.w1 hv) h2 (xJ v w f) (aRo o.ok o.dj o.w1 hv) (aPU o.ok o.dj hx hf o.w1 hv) λ d S=>aDD (d+5) _ _ _ (w:Nat) S .sign (.inr (.inr rfl)) f (v:Nat) _ rfl rfl rfl rfl (aRZ (d+2) v w f o.w1 hv h2 S)
def aYK(wd:Wd)(bC:wd=.and\/wd=.or\/wd=.xor)(o:Op f w)(o':Op g w):RG ⟨wd,w,[a,b]⟩ [w,w] [f,g]:=by
 obtain⟨n,hb',eb⟩:∃ n,(n=0\/n=1\/n=2)/\bwN wd f g=uS n f g:=by
  erw[50,bC]
  ·exact⟨0,.inl rfl,rfl⟩
  ·exact⟨1,.inr (.inl rfl),rfl⟩
  ·exact⟨2,.inr (.inr rfl),rfl⟩
 let(x,hx,h1):=o.ho;let(y,hy,h2):=o'.ho;refine nK o.w1 o.w2 (uS n f g) (aYc hb' o.ok o.dj o'.ok o'.dj) (aTd hb' o.ok o.dj h1 o'.ok o'.dj h2) λ d S=>?_
 rw[<- eb];exact aRX (d+3) (Rw.mk wd w [a,b]).d (.tuple [nD w,nD w]) (.tuple [f.d,g.d]) (w:Nat) S wd bC f g rfl rfl rfl rfl
def aW9(s:Sw)(o:Op f w)(o':Op g w):RG ⟨s.wd,w,[a,b]⟩ [w,w] [f,g]:=by let(p,hp,h):=o.ho;let(q,hq,h'):=o'.ho;exact nK o.w1 o.w2 (yY s w f g) (aUD s o.ok o'.ok hp hq h h') (aP6 s o.ok o'.ok hp hq h h') λ d S=>aQB d _ _ _ w S s f g rfl rfl rfl rfl o.ok o'.ok (aXp s w f g o.ok o'.ok hp hq h h') o.w2
def aV5(wd:Wd)(bC:wd=.same\/wd=.less\/wd=.under)(o:Op f v)(o':Op g v):RG ⟨wd,1,[a,b]⟩ [v,v] [f,g]:=by
 have hk:FtOk (oA wd v f g) 1:=by rcases aLB wd v f g with h|h|h<;>rw[h]<;>exact⟨by decide,by decide,by decide,by decide⟩
 obtain⟨z,hz⟩:∃ z,Hd (oA wd v f g) z 1:=by
  rcases aLB wd v f g with h|h|h<;>rw[h]
  ·exact⟨1,aSG⟩
  ·exact⟨0,aS4⟩
  ·exact⟨0,aSe 0⟩
 exact nK (yAb 1) (show 1<=64 by omega) (oA wd v f g) hk hz λ d S=>aPM (d+1) _ _ _ ((1:Nat):Int) S wd bC v f g rfl rfl rfl rfl rfl ⟨o.ok,o.dj⟩ ⟨o'.ok,o'.dj⟩ o.w1 o.w2
def aTl(ot:Op t 1)(o:Op f w)(o':Op g w):RG ⟨.pick,w,[c,a,b]⟩ [1,w,w] [t,f,g]:=by let(z,hz,h0):=ot.ho;let(x,hx,h1):=o.ho;let(y,hy,h2):=o'.ho;exact nK o.w1 o.w2 (pW t f g) (aWr o.ok o'.ok) (aPn h0 hz h1 h2) λ d S=>aOP (d+4) _ _ _ (w:Nat) S t f g rfl rfl rfl rfl rfl
def aU5(h1:1<=w)(h2:w<=64)(hn:n<2^w):RG ⟨.num,w,[n]⟩ [] []:=
 ⟨_,aL1 (aMf hn h1) (aSj hn) h1 h2,λ d S=>aQf (d+3) n w hn h1 h2 S⟩
def aW3(h1:1<=w)(h2:w<=64):RG ⟨.in,w,[]⟩ [] []:=
 ⟨kN,⟨⟨xAe w,xAe w,yAb 1,h1⟩,⟨0,xAe w,λ i h=>sQ h,λ i h=>sQ h,mD _ _⟩,h1,h2⟩,λ d S=>aTv (d+3) w h1 h2 S⟩
def rg(h:RwOk r ws)(o:tW Fs ws):RG r ws Fs:=by
 cases h with
 |inp h1 h2=>
   rcases Fs with _|⟨f,Fs⟩
   ·exact aW3 h1 h2
   ·exact o.elim
 |num h1 h2 hn=>
   rcases Fs with _|⟨f,Fs⟩
   ·exact aU5 h1 h2 hn
   ·exact o.elim
 |nt h1 h2=>
   let(f,rfl,o1):=yT o;exact aV7 o1
 |sh h1 h2 bC hk=>
   let(f,rfl,o1):=yT o;exact aW0 _ bC hk o1
 |cut h1 hv h2=>
   let(f,rfl,o1):=yT o;exact aV4 h1 hv o1
 |wide h1 hv h2=>
   let(f,rfl,o1):=yT o;exact aRL hv h2 o1
 |sign h1 hv h2=>
   let(f,rfl,o1):=yT o;exact aSi hv h2 o1
 |bw h1 h2 bC=>
   let(f,g,rfl,o1,o2):=aFA o;exact aYK _ bC o1 o2
 |sm h1 h2=>
   let(f,g,rfl,o1,o2):=aFA o;exact aW9 _ o1 o2
 |cmp h1 h2 bC=>
   let(f,g,rfl,o1,o2):=aFA o;exact aV5 _ bC o1 o2
 |pick h1 h2=>
   let(t,f,g,rfl,ot,o1,o2):=aYX o;exact aTl ot o1 o2
def f0(F:List Ft)(a:Nat):Ft:=F.getD a ⟨0,0,1⟩
def eW(r:Rw)(F:List Ft):List Ft:=(r.args.take (bG r.wd)).map (f0 F)
def oV{F:List Ft}(h:a<↑F):F[a]?=qz (f0 F a):=by show F[a]?=qz (F.getD a ⟨0,0,1⟩);rw[xAg,yAa h];rfl
def pP(rs:List Rw)(F:List Ft):Prop:=∀ (i:Nat) (r:Rw),i<↑F->rs[i]?=qz r->Op (f0 F i) r.w
def aJ4{rs:List Rw}(s:pP rs F):∀ (l:List Nat),(∀ a∈l,a<↑F/\a<↑rs)->tW (l.map (f0 F)) (l.map (g0 (~~~rs)))
 |[],_=>True.intro
 |a::l,h=>by
   let(h1,h2):=h a xAc;have hr:rs[a]?=qz rs[a]:=yAa h2;refine⟨?_,aJ4 s l λ b hb=>h b (xAf _ hb)⟩;rw[show g0 (~~~rs) a=rs[a].w from by show(~~~rs).getD a 0=_;rw[xAg,yAd,hr];rfl];exact s a _ h1 hr
structure Nx(rs:List Rw)(F:List Ft)(r:Rw)(g:Ft):Prop where
 op:Op g r.w
 rule:∀ d S,cl fns (d+7) 47 [.d r.d,.d (.tuple ((bY r (~~~rs)).map nD)),.d (.tuple ((eW r F).map Ft.d))] S=qz (.d g.d,S)
def aHy{rs:List Rw}(p:Prg rs)(s:pP rs F)(hr:rs[j]?=qz r)(hF:j<=↑F):∃ g,Nx rs F r g:=by let(f1,f2):=p.fit j r hr;have hj:j<↑rs:=(gIm hr).1;let(g,o,rl):=rg f1 (aJ4 s _ λ a ha=>by have:=f2 a ha;omega);exact⟨g,o,rl⟩
def aTh(d:Nat)(r:Rw)(F:List Ft)(S0:aC)(h:∀ a∈r.args.take (bG r.wd),a<↑F):cl fns (d+2) 9 [.d r.d,.loc ↑S0] (S0++[qz (F.map Ft.d)])=qz (.d (.tuple ((eW r F).map Ft.d)),S0++[qz (F.map Ft.d)]):=by
 have:=aDx d r (.loc ↑S0) (.list (F.map Ft.d)) (λ a=>(f0 F a).d) (S0++[qz (F.map Ft.d)]) (λ aM=>by
  show(match (S0++[qz (F.map Ft.d)]++[qz aM])[↑S0]? with|some (qz ds)=>qz (yHm ds)|_=>qx)=_
  rw[yBp,yAf (yAb _),yAx];rfl) λ a ha=>mI (by rw[yAd,oV (h a ha)];rfl)
 rw[this,eW,yBd];rfl
def aQ9{r:Rw}{F:List Ft}(h:∀ a∈r.args.take (bG r.wd),a<↑F):eW r (F++[f])=eW r F:=by
 unfold eW;refine yDj λ a ha=>?_
 show(F++[f]).getD a ⟨0,0,1⟩=F.getD a ⟨0,0,1⟩;rw[xAg,xAg,xAm (h a ha)]
def aKh{F:List Ft}(h:a<↑F):f0 (F++[f]) a=f0 F a:=by show(F++[f]).getD a ⟨0,0,1⟩=F.getD a ⟨0,0,1⟩;rw[xAg,xAg,xAm h]
def aKA(F:List Ft)(f:Ft):f0 (F++[f]) ↑F=f:=by show(F++[f]).getD ↑F ⟨0,0,1⟩=f;rw[xAg,yAf (yAb _),yAx];rfl
def aJD(rs:List Rw):pP rs []:=λ i r h=>absurd h (yDg i)
def aIv{rs:List Rw}(s:pP rs F)(hr:rs[↑F]?=qz r)(o:Op f r.w):pP rs (F++[f]):=λ i q hi hq=>by
 by_cases c:i<↑F
 ·rw[aKh c];exact s i q c hq
 ·have ci:i=↑F:=by simp at hi;omega
  subst ci;rw[hr] at hq;cases hq;rw[aKA];exact o
def aJQ{rs:List Rw}(p:Prg rs){F:List Ft}(hi:i<=↑F)(hr:rs[i]?=qz r)(nx:Nx rs F r g):Nx rs (F++[f]) r g:=by refine⟨nx.op,?_⟩;rw[aQ9 λ a ha=>by have:=(p.fit i r hr).2 a ha;omega];exact nx.rule
def uR(rs:List Rw)(F:List Ft):Prop:=∀ (i:Nat) (r:Rw),i<↑F->rs[i]?=qz r->∃ g,g=f0 F i/\Nx rs F r g
def aQb{rs:List Rw}(p:Prg rs)(h:uR rs F)(hr:rs[↑F]?=qz r)(nx:Nx rs F r g):uR rs (F++[g]):=λ i q hi hq=>by
 by_cases c:i<↑F
 ·let(g',rfl,h1):=h i q c hq;exact⟨_,(aKh c).symm,aJQ p () hq h1⟩
 ·have ci:i=↑F:=by simp at hi;omega
  subst ci;rw[hr] at hq;cases hq;exact⟨g,(aKA F g).symm,aJQ p (yAb _) hr nx⟩
def aCU(d:Nat)(rs:List Rw)(o:D)(p:Prg rs)(S:aC):∃ F:List Ft,↑F=↑rs/\pP rs F/\uR rs F/\cl fns (d+9) 48 [.d (rs<*o)] S=qz (.d (F*>Ft.d),S):=by
 have i0:aH (rs<*o) (.int 0)=qz (rs*>Rw.d):=rfl;have pl:=p.l;let(aS,S',p1,F,c3,rfl,rfl,fl,fs,fo):=kY (t:=.one 3) (fi:=lv (d<$>8) aAo) (fb:=xs (d<$>8) aAl) (env:=[qz (.d (rs<*o)),qz (.d (.tuple ((~~~rs).map nD))),qz (.loc ↑S),qx]) (S:=S++[qz []]) (S1:=S++[qz []]) (ds:=rs.map Rw.d)
  (λ j env S'=>∃ (F:List Ft) (c3:Option W),env=[qz (.d (rs<*o)),qz (.d (.tuple ((~~~rs).map nD))),qz (.loc ↑S),c3]/\S'=S++[qz (F.map Ft.d)]/\↑F=j/\pP rs F/\uR rs F)
  (by
    erw[20,aAo,i0,eV]) ⟨[],qx,rfl,rfl,rfl,aJD rs,λ i r hi=>absurd hi (yDg i)⟩ (by
    rintro j dd env S' hd ⟨F,c3,rfl,rfl,fl,fs,fo⟩;rw[yAd] at hd;let(r,hr,rfl):=Option.map_eq_some_iff.mp hd;subst fl;let(f1,f2):=p.fit _ r hr;have hj:↑F<↑rs:=(gIm hr).1;have hWl:↑(~~~rs)=↑rs:=yAc ..;let(g,nx):=aHy p fs hr (yAb _);have o1:=aR5 (d+6) r (~~~rs) (S++[qz (F.map Ft.d)]) λ a ha=>by have:=f2 a ha;omega
    have o2:=aTh (d+6) r F S λ a ha=>f2 a ha
    have rl:=nx.rule (d+1) (S++[qz (F.map Ft.d)]);have ap:cX (S++[qz (F.map Ft.d)]) (.loc ↑S) (.d g.d)=qz (.d .none,S++[qz ((F++[g]).map Ft.d)]):=by
     rw[aDC S (F.map Ft.d) _ (by rw[yAc];omega),yAv];rfl
    refine⟨_,[qz (.d (rs<*o)),qz (.d (.tuple ((~~~rs).map nD))),qz (.loc ↑S),qz (.d r.d)],S++[qz ((F++[g]).map Ft.d)],rfl,?_,F++[g],_,rfl,rfl,by simp,aIv fs hr nx.op,aQb p fo hr nx⟩
    erw[20,aAl,o1,o2,rl,lK,ap])
 rw[yAc] at fl;refine⟨F,fl,fs,fo,?_⟩;have p1':iH (.one 3) (lv (d<$>8) aAo) (xs (d<$>8) aAl) [qz (.d (rs<*o)),qz (.d (.tuple ((~~~rs).map nD))),qz (.loc ↑S),qx] (S++[qz []])=qz (.nx [qz (.d (rs<*o)),qz (.d (.tuple ((~~~rs).map nD))),qz (.loc ↑S),c3],S++[qz (F.map Ft.d)]):=p1;have tk1:∀ x,yEf ↑S (S++[x])=S:=λ x=>List.take_left
 rw[aN rfl (d+8) _ S rfl];have hq53:=aN8 (d+7) rs o ();erw[11,aHk,hq53,hU,p1',sP,kC,kB,tk1]
def aDm:∀ (rs:List Rw) (ws:List Nat),dP ws rs->∀ (j:Nat) (r:Rw),rs[j]?=qz r->gW (ws++(rs.take j).map (·.w)) r
 |[],_,_,j,r,h=>by simp at h
 |q::rs,ws,⟨h1,h2⟩,0,r,h=>by
   cases h;simpa using h1
 |q::rs,ws,⟨h1,h2⟩,j+1,r,h=>by
   have:=aDm rs (ws++[q.w]) h2 j r (by simpa using h);simpa using this
def aNb{a n:Nat}(h:a<n):∀ x∈[a],x<n:=λ x hx=>by
 rw[List.mem_singleton.mp hx];exact h
def aNd{a b n:Nat}(h:a<n)(h':b<n):∀ x∈[a,b],x<n:=λ x hx=>by
 rcases List.mem_cons.mp hx with rfl|hx
 ·exact h
 ·exact aNb h' x hx
def aZe{a b c n:Nat}(h:a<n)(h':b<n)(h'':c<n):∀ x∈[a,b,c],x<n:=λ x hx=>by
 rcases List.mem_cons.mp hx with rfl|hx
 ·exact h
 ·exact aNd h' h'' x hx
def aMZ:∀ x∈([]:List Nat),x<n:=λ x hx=>by simp at hx
section
variable {ws W:List Nat}{n:Nat}(hw:∀ a v, ws[a]?=qz v->g0 W a=v /\ 1 <= v /\ v <= 64 /\ a<n)
include hw
theorem qY{wd:Wd}{args:List Nat}(e:(args.take (bG wd))=[a])(h:ws[a]?=qz v)(k:RwOk ⟨wd,w,args⟩ [v]):RwOk ⟨wd,w,args⟩ (bY ⟨wd,w,args⟩ W)/\∀ x∈args.take (bG wd),x<n:=by
 let(e1,_,_,e4):=hw a v h;have:bY ⟨wd,w,args⟩ W=[v]:=by
  show(args.take (bG wd)).map (g0 W)=[v];rw[e,yAh,yDn,e1]
 rw[this,e];exact⟨k,aNb e4⟩
theorem qV{wd:Wd}{args:List Nat}(e:(args.take (bG wd))=[a,b])(h:ws[a]?=qz v)(h':ws[b]?=qz u)(k:RwOk ⟨wd,w,args⟩ [v,u]):RwOk ⟨wd,w,args⟩ (bY ⟨wd,w,args⟩ W)/\∀ x∈args.take (bG wd),x<n:=by
 let(e1,_,_,e4):=hw a v h;let(d1,_,_,d4):=hw b u h';have:bY ⟨wd,w,args⟩ W=[v,u]:=by
  show(args.take (bG wd)).map (g0 W)=[v,u];rw[e,yAh,yAh,yDn,e1,d1]
 rw[this,e];exact⟨k,aNd e4 d4⟩
omit hw in
theorem aWG{wd:Wd}(h:gW ws ⟨wd,w,[]⟩):RwOk ⟨wd,w,[]⟩ (bY ⟨wd,w,[]⟩ W)/\∀ x∈yEf (bG wd) [],x<n:=by
 cases wd
 case «in» => exact⟨.inp h.1 h.2.1,aMZ⟩
 all_goals exact h.2.2.elim
theorem aW5{wd:Wd}(h:gW ws ⟨wd,w,[a]⟩):RwOk ⟨wd,w,[a]⟩ (bY ⟨wd,w,[a]⟩ W)/\∀ x∈yEf (bG wd) [a],x<n:=by
 cases wd
 case num=>exact⟨.num h.1 h.2.1 h.2.2,aMZ⟩
 case not=>exact qY hw rfl h.2.2 (.nt h.1 h.2.1)
 case cut=>
  let(v,q1,q2):=h.2.2;exact qY hw rfl q1 (.cut h.1 q2 (hw a v q1).2.2.1)
 case wide=>
  let(v,q1,q2):=h.2.2;exact qY hw rfl q1 (.wide (hw a v q1).2.1 q2 h.2.1)
 case sign=>
  let(v,q1,q2):=h.2.2;exact qY hw rfl q1 (.sign (hw a v q1).2.1 q2 h.2.1)
 all_goals exact h.2.2.elim
theorem aEB{wd:Wd}(bC:wd=.same\/wd=.less\/wd=.under)(q:w=1/\∃ v,ws[a]?=qz v/\ws[b]?=qz v)(e:bG wd=2):RwOk ⟨wd,w,[a,b]⟩ (bY ⟨wd,w,[a,b]⟩ W)/\∀ x∈yEf (bG wd) [a,b],x<n:=by let(rfl,v,q1,q2):=q;exact qV hw (by rw[e];rfl) q1 q2 (.cmp (hw a v q1).2.1 (hw a v q1).2.2.1 bC)
theorem aXS{wd:Wd}(h:gW ws ⟨wd,w,[a,b]⟩):RwOk ⟨wd,w,[a,b]⟩ (bY ⟨wd,w,[a,b]⟩ W)/\∀ x∈yEf (bG wd) [a,b],x<n:=by
 cases wd
 case left=>exact qY hw rfl h.2.2.1 (.sh h.1 h.2.1 (.inl rfl) h.2.2.2)
 case right=>exact qY hw rfl h.2.2.1 (.sh h.1 h.2.1 (.inr (.inl rfl)) h.2.2.2)
 case slide=>exact qY hw rfl h.2.2.1 (.sh h.1 h.2.1 (.inr (.inr rfl)) h.2.2.2)
 case and=>exact qV hw rfl h.2.2.1 h.2.2.2 (.bw h.1 h.2.1 (.inl rfl))
 case or=>exact qV hw rfl h.2.2.1 h.2.2.2 (.bw h.1 h.2.1 (.inr (.inl rfl)))
 case xor=>exact qV hw rfl h.2.2.1 h.2.2.2 (.bw h.1 h.2.1 (.inr (.inr rfl)))
 case add=>exact qV hw rfl h.2.2.1 h.2.2.2 (.sm (s:=.add) h.1 h.2.1)
 case sub=>exact qV hw rfl h.2.2.1 h.2.2.2 (.sm (s:=.sub) h.1 h.2.1)
 case mul=>exact qV hw rfl h.2.2.1 h.2.2.2 (.sm (s:=.mul) h.1 h.2.1)
 case same=>exact aEB hw (.inl rfl) h.2.2 rfl
 case less=>exact aEB hw (.inr (.inl rfl)) h.2.2 rfl
 case under=>exact aEB hw (.inr (.inr rfl)) h.2.2 rfl
 all_goals exact h.2.2.elim
theorem aWY{wd:Wd}(h:gW ws ⟨wd,w,[a,b,c]⟩):RwOk ⟨wd,w,[a,b,c]⟩ (bY ⟨wd,w,[a,b,c]⟩ W)/\∀ x∈yEf (bG wd) [a,b,c],x<n:=by
 cases wd
 case pick=>
  let(q1,q2,q3):=h.2.2;let(e1,_,_,e4):=hw a _ q1;let(d1,_,_,d4):=hw b _ q2;let(c1,_,_,c4):=hw c _ q3;have:bY ⟨.pick,w,[a,b,c]⟩ W=[1,w,w]:=by
   show [g0 W a,g0 W b,g0 W c]=[1,w,w];rw[e1,d1,c1]
  rw[this];exact⟨.pick h.1 h.2.1,aZe e4 d4 c4⟩
 all_goals exact h.2.2.elim
omit hw in
theorem aWQ{wd:Wd}(h:gW ws ⟨wd,w,a::b::c::e::t⟩):False:=by
 cases wd
 all_goals exact h.2.2
theorem aR9(h:gW ws r):RwOk r (bY r W)/\∀ x∈r.args.take (bG r.wd),x<n:=by
 let(wd,w,args):=r
 match args,h with
 |[],h=>exact aWG h|[a],h=>exact aW5 hw h|[a,b],h=>exact aXS hw h|[a,b,c],h=>exact aWY hw h|_::_::_::_::_,h=>exact(aWQ h).elim
end
def aTW{rs:List Rw}(h:dP [] rs)(hl:↑rs<=100):Prg rs:=by
 have ws:∀ (j:Nat) (r:Rw),rs[j]?=qz r->1<=r.w/\r.w<=64:=λ j r hr=>by
  have:=aDm rs [] h j r hr;exact⟨this.1,this.2.1⟩
 refine⟨hl,λ j r hr=>?_,ws⟩;have ok:=aDm rs [] h j r hr;rw[yFo] at ok;refine aR9 (n:=j) (λ a v ha=>?_) ok;have hj:j<↑rs:=(gIm hr).1;have haj:a<j:=by
  have:=(gIm ha).1;rw[yAc,yBk] at this;omega
 rw[yAd,yDt haj] at ha;let(q,hq,rfl):=Option.map_eq_some_iff.mp ha;let(w1,w2):=ws a q hq;refine⟨?_,w1,w2,haj⟩;show(~~~rs).getD a 0=q.w;rw[xAg,yAd,hq];rfl
noncomputable abbrev sT(T:aC)(ns:List Int)(k:Nat)(x:Int):aC:=qz (aJ ns k x)::T
def aBy(T:aC)(ns:List Int)(k:Nat)(x:Int)(h:↑T<=40):aQ (qx::T) 0 50 ns k x []=sT T ns k x:=by unfold aQ;rw[yCr,yDw];simp;omega
def aNq(T:aC)(h:↑T<=40):At0 (qx::T) 0 50:=⟨by simp,by decide⟩
def kZ{x:Int}(T:aC)(hT:↑T<=40)(d m:Nat)(hm:0<m)(hm2:m<2^64)(hk:k<=100000):∃ (r:Nat) (x':Int),r<m/\cl fns (d+1) 67 [.loc 0,.d (.int m)] (sT T ns k x)=qz (.d (.int r),sT T ns (k+1) x'):=by let(r,x',hr,e):=@gE _ _ _ k ns x [] (aNq T hT) d m hm hm2 hk;rw[aBy T _ _ _ hT,aBy T _ _ _ hT] at e;exact⟨r,x',hr,e⟩
def aIx{x:Int}(T:aC)(hT:↑T<=40)(d w:Nat)(cD:w<=64)(hk:k<=99000):∃ (r k':Nat) (x':Int),r<2^w/\k'<=k+2/\cl fns (d+2) 68 [.loc 0,.d (.int w)] (sT T ns k x)=qz (.d (.int r),sT T ns k' x'):=by let(r,k',x',hr,hk',e):=@aHZ _ _ _ k ns x [] (aNq T hT) d w cD hk;rw[aBy T _ _ _ hT,aBy T _ _ _ hT] at e;exact⟨r,k',x',hr,hk',e⟩
def aSd(i t:Nat):(2^i)[t]! =decide (i=t):=yFd
def mJ(x w:Nat):Nat:=if x/2^w=0 then x else (x&&&(2^w-1))|||2^(w-1)
def aQr(hw:1<=w):(mJ x w)[t]! =true ↔ (t<w/\x[t]! =true)\/(t=w-1/\∃ j,w<=j/\x[j]! =true):=by
 unfold mJ;split
 ·rename_i h;rw[aCN] at h;constructor
  ·intro z;refine .inl ⟨?_,z⟩;by_cases c:t<w
   ·exact c
   ·rw[h t ()] at z;cases z
  ·rintro (⟨_,z⟩|⟨_,j,h1,h2⟩)
   ·exact z
   ·rw[h j h1] at h2;cases h2
 ·rename_i h;rw[xAo,yAj,fB,aSd];have h':∃ j,w<=j/\x[j]! =true:=by
   rw[aCN] at h;by_cases c:∃ j,w<=j/\x[j]! =true
   ·exact c
   ·refine absurd (λ i hi=>?_) h;cases q:x[i]! with
    |false=>rfl|true=>exact absurd ⟨i,hi,q⟩ c
  constructor
  ·intro z;simp only[yEm,yAy,decide_eq_true_eq] at z;rcases z with ⟨z1,z2⟩|z
   ·exact .inl ⟨z2,z1⟩
   ·exact .inr ⟨z.symm,h'⟩
  ·rintro (⟨z1,z2⟩|⟨z,_⟩)
   ·simp[z1,z2]
   ·simp[z]
def aJZ(hw:1<=w):mJ x w<2^w:=by
 apply yCl;intro i hi;cases q:(mJ x w)[i]! with
 |false=>rfl
 |true=>
   rcases (aQr hw).mp q with ⟨h,_⟩|⟨h,_⟩<;>omega
structure Fc where
 N:Nat
 O:Nat
 A:Nat
noncomputable instance:Inhabited Fc:=⟨⟨0,0,0⟩⟩
def fV(wd:Wd)(w kk:Nat)(ws:List Nat)(fs:List Fc)(m:Nat):List Nat:=
 if m=0 then yAe (bG wd) 0 else
 match wd with
 |.in|.num=>[]
 |.not|.cut=>[m]
 |.xor=>[m,m]|.and=>[jO m (jO (fs.getD 1 default).N (fs.getD 0 default).N),jO m (fs.getD 0 default).N]|.or=>[jO m (jO (fs.getD 1 default).O (fs.getD 0 default).O),jO m (fs.getD 0 default).O]
 |.add|.sub=>[2^bl m-1,2^bl m-1]
 |.mul=>[2^(bl m-min (bl m) (lr (fs.getD 1 default).N))-1,2^(bl m-min (bl m-min (bl m) (lr (fs.getD 1 default).N)) (lr (fs.getD 0 default).N))-1]|.left=>[m/2^kk]|.right=>[(m*2^kk)&&&(2^w-1)]|.slide=>[mJ (m*2^kk) w]|.wide=>[m&&&(2^ws.getD 0 0-1)]|.sign=>[mJ m (ws.getD 0 0)]
 |.same|.less|.under=>[2^ws.getD 0 0-1,2^ws.getD 1 0-1]
 |.pick=>if (fs.getD 0 default).O=1 then [1,m,0] else if (fs.getD 0 default).N=1 then [1,0,m] else [1,m,m]
def aB5(wd:Wd)(w:Nat)(ws:List Nat):Prop:=1<=w/\w<=64/\match wd with
 |.in|.num=>ws=[]
 |.not|.left|.right|.slide=>ws=[w]
 |.and|.or|.xor|.add|.sub|.mul=>ws=[w,w]
 |.cut=>∃ v,ws=[v]/\w<=v/\v<=64
 |.wide|.sign=>∃ v,ws=[v]/\v<=w/\1<=v
 |.same|.less|.under=>w=1/\∃ v,ws=[v,v]/\1<=v/\v<=64
 |.pick=>ws=[1,w,w]
def iV(h:k<=v):2^k-1<2^v:=by have h1:=xAe k;have h2:(2:Nat)^k<=2^v:=yAz (·) h;omega
def aA5(h:m<2^v):jO m y<2^v:=xAi (yFw _ _) h
def aRF(wd:Wd)(w kk:Nat)(ws:List Nat)(fs:List Fc)(m c v:Nat)(hk:aB5 wd w ws)(hm:m<2^w)(hv:ws[c]?=qz v):(fV wd w kk ws fs m).getD c 0<2^v:=by
 by_cases h0:m=0
 ·subst h0;have e:(fV wd w kk ws fs 0).getD c 0=0:=by
   unfold fV;rw[if_pos rfl,xAg,yFh];split<;>rfl
  rw[e];exact xAe _
 have hb:bl m<=w:=tV hm;have e0:fV wd w kk ws fs m=_:=if_neg h0;rw[e0];have one:∀ {a u:Nat},ws=[u]->a<2^u->[a].getD c 0<2^v:=λ {a u} e h=>by
  subst e
  match c,hv with
  |0,hv=>cases hv;exact h|c+1,hv=>simp at hv
 have two:∀ {a b u x:Nat},ws=[u,x]->a<2^u->b<2^x->[a,b].getD c 0<2^v:=λ {a b u x} e h h2=>by
  subst e
  match c,hv with
  |0,hv=>cases hv;exact h|1,hv=>cases hv;exact h2|c+2,hv=>simp at hv
 have three:∀ {a b e u x y:Nat},ws=[u,x,y]->a<2^u->b<2^x->e<2^y->[a,b,e].getD c 0<2^v:=λ {a b e u x y} e' h h2 h3=>by
  subst e'
  match c,hv with
  |0,hv=>cases hv;exact h|1,hv=>cases hv;exact h2|2,hv=>cases hv;exact h3|c+3,hv=>simp at hv
 let(cB,cD,hk):=hk;cases wd with
 | «in» => rw[hk] at hv;simp at hv|num=>rw[hk] at hv;simp at hv|not=>exact one hk hm
 |cut=>
   let(u,e,h1,h2):=hk;exact one e (xAb hm (yAz (·) h1))
 |xor=>exact two hk hm hm|and=>exact two hk (aA5 hm) (aA5 hm)|or=>exact two hk (aA5 hm) (aA5 hm)|add=>exact two hk (iV hb) (iV hb)|sub=>exact two hk (iV hb) (iV hb)|mul=>exact two hk (iV ()) (iV ())|left=>exact one hk (xAi (Nat.div_le_self _ _) hm)|right=>exact one hk (Nat.and_lt_two_pow _ (iV (yAb _)))|slide=>exact one hk (aJZ cB)
 |wide=>
   let(u,e,h1,h2):=hk;subst e;exact one rfl (Nat.and_lt_two_pow _ (iV (yAb _)))
 |sign=>
   let(u,e,h1,h2):=hk;subst e;exact one rfl (aJZ h2)
 |same=>
   let(_,u,e,h1,h2):=hk;subst e;exact two rfl (iV (yAb _)) (iV (yAb _))
 |less=>
   let(_,u,e,h1,h2):=hk;subst e;exact two rfl (iV (yAb _)) (iV (yAb _))
 |under=>
   let(_,u,e,h1,h2):=hk;subst e;exact two rfl (iV (yAb _)) (iV (yAb _))
 |pick=>
   simp only;split
   ·exact three hk (·) hm (xAe _)
   ·split
    ·exact three hk (·) (xAe _) hm
    ·exact three hk (·) hm hm
def Fc.d(f:Fc):D:=.tuple [.int f.N,.int f.O,.int f.A]
def aBZ(f:Fc):aH f.d (.int 0)=qz (.int f.N):=rfl
def aB2(f:Fc):aH f.d (.int 1)=qz (.int f.O):=rfl
def aLF(a:D):aH (.tuple [a]) (.int 0)=qz a:=rfl
def aBG(a b:D):aH (.tuple [a,b]) (.int 0)=qz a:=rfl
def aBQ(a b:D):aH (.tuple [a,b]) (.int 1)=qz b:=rfl
def aXv(a b c:D):aH (.tuple [a,b,c]) (.int 0)=qz a:=rfl
def aG3(d a b m:Nat)(S:aC):cl fns (d+1) 12 [.d (.int a),.d (.int b),.d (.int m)] S=qz (.d (.tuple [.int ((jO m (jO b a):Nat):Int),.int ((jO m a:Nat):Int)]),S):=by rw[aN rfl d _ S rfl];erw[11,aGw,aJg,aIV]
def aRc(i j:Nat):(if ((j:Nat):Int)<((i:Nat):Int) then ((j:Nat):Int) else ((i:Nat):Int))=((min i j:Nat):Int):=by
 by_cases c:j<i
 ·rw[if_pos (),yDl ()]
 ·rw[if_neg (),yDx ()]
def aOn(d a b m:Nat)(hm:m<2^64)(S:aC):cl fns (d+3) 13 [.d (.int a),.d (.int b),.d (.int m)] S=qz (.d (.tuple [.int ((2^(bl m-min (bl m) (lr b))-1:Nat):Int),.int ((2^(bl m-min (bl m-min (bl m) (lr b)) (lr a))-1:Nat):Int)]),S):=by have hb:=tV hm;have e1:((bl m:Nat):Int)-((min (bl m) (lr b):Nat):Int)=((bl m-min (bl m) (lr b):Nat):Int):=();have e2:((bl m:Nat):Int)-((min (bl m-min (bl m) (lr b)) (lr a):Nat):Int)=((bl m-min (bl m-min (bl m) (lr b)) (lr a):Nat):Int):=();rw[aN rfl (d+2) _ S rfl];erw[20,fH,aHT,aAR (d+1),aEx d,gK,aRc,cP,e1,e2,dF (d+1) (bl m-min (bl m) (lr b)) (),dF (d+1) (bl m-min (bl m-min (bl m) (lr b)) (lr a)) ()]
def aHR(d y w:Nat)(hw:1<=w)(cD:w<=1000)(S:aC):cl fns (d+2) 14 [.d (.int y),.d (.int w)] S=qz (.d (.int ((mJ y w:Nat):Int)),S):=by
 have e1:(w:Int)-1=((w-1:Nat):Int):=();rw[aN rfl (d+1) _ S rfl];unfold mJ;by_cases c:y/2^w=0
 ·have d1:(y/2^w==0)=true:=by rw[beq_iff_eq];exact c
  rw[if_pos c];erw[11,aDO,kR,bP,eO,d1]
 ·have d1:(y/2^w==0)=false:=by rw[beq_eq_false_iff_ne];exact c
  rw[if_neg c];have hq54:=dF d w ();have hq55:=gR (show w-1<=100000 by omega);erw[11,aDO,kR,bP,eO,d1,hq54,dJ,cP,e1,hq55,fG]
def aSZ(d w kk m:Nat)(S:aC):cl fns (d+3) 15 [.d (.str "left"),.d (.int w),.d (.int kk),.d (.int m)] S=qz (.d (.int ((m/2^kk:Nat):Int)),S):=by have c1:aW .Eq (.str "left") (.str "left")=qz (.bool true):=cG .left .left;rw[aN rfl (d+2) _ S rfl];erw[11,aAp,c1,kR]
def aQF(d w kk m:Nat)(hw:w<=64)(hk:kk<=64)(hm:m<2^64)(S:aC):cl fns (d+3) 15 [.d (.str "right"),.d (.int w),.d (.int kk),.d (.int m)] S=qz (.d (.int (((m*2^kk)&&&(2^w-1):Nat):Int)),S):=by have c1:aW .Eq (.str "right") (.str "left")=qz (.bool false):=cG .right .left;have c2:aW .Eq (.str "right") (.str "right")=qz (.bool true):=cG .right .right;rw[aN rfl (d+2) _ S rfl];have hq56:=wC hm (show 64+kk<=100000 by omega);have hq57:=dF (d+1) w ();erw[11,aAp,c1,c2,hq56,hq57,dJ]
def aQW(d w kk m:Nat)(cB:1<=w)(hw:w<=64)(hk:kk<=64)(hm:m<2^64)(S:aC):cl fns (d+3) 15 [.d (.str "slide"),.d (.int w),.d (.int kk),.d (.int m)] S=qz (.d (.int ((mJ (m*2^kk) w:Nat):Int)),S):=by have c1:aW .Eq (.str "slide") (.str "left")=qz (.bool false):=cG .slide .left;have c2:aW .Eq (.str "slide") (.str "right")=qz (.bool false):=cG .slide .right;rw[aN rfl (d+2) _ S rfl];have hq58:=wC hm (show 64+kk<=100000 by omega);erw[11,aAp,c1,c2,hq58,aHR d _ w cB ()]
def aOb(d:Nat)(f:Fc)(m:Nat)(S:aC):cl fns (d+1) 16 [.d f.d,.d (.int m)] S=qz (.d (.tuple ((if f.O=1 then [1,m,0] else if f.N=1 then [1,0,m] else [1,m,m]).map nD)),S):=by
 rw[aN rfl d _ S rfl];by_cases c1:f.O=1
 ·have d1:(f.O==1)=true:=by rw[beq_iff_eq];exact c1
  rw[if_pos c1];erw[11,aAv,aB2,bP,qB,d1]
 ·have d1:(f.O==1)=false:=by rw[beq_eq_false_iff_ne];exact c1
  rw[if_neg c1];by_cases c2:f.N=1
  ·have d2:(f.N==1)=true:=by rw[beq_iff_eq];exact c2
   rw[if_pos c2];erw[11,aAv,aB2,aBZ,bP,qB,d1,d2]
  ·have d2:(f.N==1)=false:=by rw[beq_eq_false_iff_ne];exact c2
   rw[if_neg c2];erw[11,aAv,aB2,aBZ,bP,qB,d1,d2]
def wS(wd:Wd)(args:List Nat)(kk:Nat):Prop:=match wd with
 |.in=>args=[]|.num=>∃ n,args=[n]
 |.not|.cut|.wide|.sign=>∃ a,args=[a]
 |.left|.right|.slide=>∃ a,args=[a,kk]/\kk<64
 |.pick=>∃ a b c,args=[a,b,c]|_=>∃ a b,args=[a,b]
def aDp{wd:Wd}(h:wS wd args kk):↑(args.take (bG wd))=bG wd:=by
 cases wd<;>first
  |(obtain rfl:=h;rfl)
  |(let(a,b,c,rfl):=h;rfl)
  |(let(a,b,rfl):=h;rfl)
  |(let(a,rfl,_):=h;rfl)
  |(let(a,rfl):=h;rfl)
def aYq(a:Wd):aW .In (.str a.s) (.tuple [.str "add",.str "sub"])=qz (.bool (decide (a=.add\/a=.sub))):=by cases a<;>rfl
def aYr{wd:Wd}:aH (Rw.mk wd w [a,k]).d (.int 3)=qz (.int k):=rfl
def aCe{α:Type}{l:List α}(h:↑l=1):∃ a,l=[a]:=List.length_eq_one_iff.mp h
def aFk{α:Type}{l:List α}(h:↑l=2):∃ a b,l=[a,b]:=by
 match l,h with
 |[a,b],_=>exact⟨a,b,rfl⟩
def aZK{α:Type}{l:List α}(h:↑l=3):∃ a b c,l=[a,b,c]:=by
 match l,h with
 |[a,b,c],_=>exact⟨a,b,c,rfl⟩
noncomputable abbrev eA(R W G:D)(m:Nat)(x:Wd):bB:=[qz (.d R),qz (.d W),qz (.d G),(m:),qz (.d (.str x.s))]
def aK:Nat->Sx
 |0=>aT aGC|k+1=>aT (aK k)
section
variable (C:Calls)(R W G:D)(m:Nat)(S:aC)(x:Wd)
theorem aFc:tv C (.cmp .Eq (.var 4) (.str "and")) (eA R W G m x) S=qz (decide (x=.and),S):=dC rfl (cG x .and)
theorem aNj:tv C (.cmp .Eq (.var 4) (.str "or")) (eA R W G m x) S=qz (decide (x=.or),S):=dC rfl (cG x .or)
theorem aNz:tv C (.cmp .In (.var 4) (.tup (.cons (.str "add") (.cons (.str "sub") .nil)))) (eA R W G m x) S=qz (decide (x=.add\/x=.sub),S):=iG rfl rfl (aYq x)
theorem aMM:tv C (.cmp .Eq (.var 4) (.str "mul")) (eA R W G m x) S=qz (decide (x=.mul),S):=dC rfl (cG x .mul)
theorem aM1:tv C (.cmp .In (.var 4) (.con "SHIFTS" vN)) (eA R W G m x) S=qz (decide (x=.left\/x=.right\/x=.slide),S):=iG rfl rfl (aDw x)
theorem aFh:tv C (.cmp .Eq (.var 4) (.str "wide")) (eA R W G m x) S=qz (decide (x=.wide),S):=dC rfl (cG x .wide)
theorem aM2:tv C (.cmp .Eq (.var 4) (.str "sign")) (eA R W G m x) S=qz (decide (x=.sign),S):=dC rfl (cG x .sign)
theorem aFf:tv C (.cmp .In (.var 4) (.con "COMPARES" qC)) (eA R W G m x) S=qz (decide (x=.same\/x=.less\/x=.under),S):=iG rfl rfl (aA2 x)
theorem aMX:tv C (.cmp .Eq (.var 4) (.str "pick")) (eA R W G m x) S=qz (decide (x=.pick),S):=dC rfl (cG x .pick)
variable {C R W G m S}{r:Option (Fl×aC)}
theorem kI(e:aK k=.seq (.ifs c t .skip) (aK (k+1)))(h:tv C c (eA R W G m x) S=qz (b,S))(hb:b=false)(g:xs C (aK (k+1)) (eA R W G m x) S=r):xs C (aK k) (eA R W G m x) S=r:=by subst hb;rw[e];exact bQ h g
theorem aNv(h:(decide (x=.and)||decide (x=.or))=false)(g:xs C (aK 2) (eA R W G m x) S=r):xs C (aK 0) (eA R W G m x) S=r:=by let(h1,h2):=Bool.or_eq_false_iff.mp h;exact kI x rfl (aFc C R W G m S x) h1 (kI x rfl (aNj C R W G m S x) h2 g)
theorem aNf(h:(decide (x=.and)||decide (x=.or))=false)(h2:decide (x=.add\/x=.sub)=false)(g:xs C (aK 3) (eA R W G m x) S=r):xs C (aK 0) (eA R W G m x) S=r:=aNv x h (kI x rfl (aNz C R W G m S x) h2 g)
theorem aNg(h:(decide (x=.and)||decide (x=.or))=false)(h2:(decide (x=.add\/x=.sub)||decide (x=.mul))=false)(g:xs C (aK 4) (eA R W G m x) S=r):xs C (aK 0) (eA R W G m x) S=r:=by let(h3,h4):=Bool.or_eq_false_iff.mp h2;exact aNf x h h3 (kI x rfl (aMM C R W G m S x) h4 g)
theorem aFd(h:(decide (x=.and)||decide (x=.or))=false)(h2:(decide (x=.add\/x=.sub)||decide (x=.mul))=false)(h5:decide (x=.left\/x=.right\/x=.slide)=false)(g:xs C (aK 5) (eA R W G m x) S=r):xs C (aK 0) (eA R W G m x) S=r:=aNg x h h2 (kI x rfl (aM1 C R W G m S x) h5 g)
theorem aFe(h:(decide (x=.and)||decide (x=.or))=false)(h2:(decide (x=.add\/x=.sub)||decide (x=.mul))=false)(h5:decide (x=.left\/x=.right\/x=.slide)=false)(h6:(decide (x=.wide)||decide (x=.sign))=false)(g:xs C (aK 7) (eA R W G m x) S=r):xs C (aK 0) (eA R W G m x) S=r:=by let(h3,h4):=Bool.or_eq_false_iff.mp h6;exact aFd x h h2 h5 (kI x rfl (aFh C R W G m S x) h3 (kI x rfl (aM2 C R W G m S x) h4 g))
theorem aZs(h:(decide (x=.and)||decide (x=.or))=false)(h2:(decide (x=.add\/x=.sub)||decide (x=.mul))=false)(h5:decide (x=.left\/x=.right\/x=.slide)=false)(h6:(decide (x=.wide)||decide (x=.sign))=false)(h8:(decide (x=.same\/x=.less\/x=.under)||decide (x=.pick))=false)(g:xs C (aK 9) (eA R W G m x) S=r):xs C (aK 0) (eA R W G m x) S=r:=by let(h3,h4):=Bool.or_eq_false_iff.mp h8;exact aFe x h h2 h5 h6 (kI x rfl (aFf C R W G m S x) h3 (kI x rfl (aMX C R W G m S x) h4 g))
end
section
variable (d w kk m:Nat)(ws:List Nat)(R W:D)(S:aC)(h0:m≠0)
include h0
theorem aRH(f g:Fc):xs (d<$>3) (aK 0) (eA R W (.tuple ([f,g].map Fc.d)) m .and) S=qz (.rt (.d (.tuple ((fV .and w kk ws [f,g] m).map nD))),S):=by rw[show fV .and w kk ws [f,g] m=_ from if_neg h0];refine dS (aFc _ _ _ _ _ _ .and) (cL ?_);erw[0,aBG,aBQ,aBZ,aG3 (d+2),nD,yBi,yBs]
theorem aUO(f g:Fc):xs (d<$>3) (aK 0) (eA R W (.tuple ([f,g].map Fc.d)) m .or) S=qz (.rt (.d (.tuple ((fV .or w kk ws [f,g] m).map nD))),S):=by rw[show fV .or w kk ws [f,g] m=_ from if_neg h0];refine kI .or rfl (aFc _ _ _ _ _ _ .or) rfl (dS (aNj _ _ _ _ _ _ .or) (cL ?_));erw[0,aBG,aBQ,aB2,aG3 (d+2),nD,yBi,yBs]
theorem aJa(x:Wd)(hx:decide (x=.add\/x=.sub)=true)(h1:(decide (x=.and)||decide (x=.or))=false)(G:D)(bm:m<2^10000):xs (d<$>3) (aK 0) (eA R W G m x) S=qz (.rt (.d (.tuple ([2^bl m-1,2^bl m-1].map nD))),S):=by have t:=aNz (d<$>3) R W G m S x;rw[hx] at t;refine aNv x h1 (dS t (cL ?_));erw[0,aIl (d+1) m _ bm,nD]
theorem aRm(f g:Fc)(hm:m<2^64):xs (d<$>3) (aK 0) (eA R W (.tuple ([f,g].map Fc.d)) m .mul) S=qz (.rt (.d (.tuple ((fV .mul w kk ws [f,g] m).map nD))),S):=by rw[show fV .mul w kk ws [f,g] m=_ from if_neg h0];refine aNf .mul rfl rfl (dS (aMM _ _ _ _ _ _ .mul) (cL ?_));erw[20,aBG,aBQ,aBZ,aOn d f.N g.N m hm,nD,yBi,yBs]
theorem aD6(x:Wd)(hx:decide (x=.left\/x=.right\/x=.slide)=true)(h1:(decide (x=.and)||decide (x=.or))=false)(h2:(decide (x=.add\/x=.sub)||decide (x=.mul))=false)(a:Nat)(G:D){z:Nat}(sl:cl fns (d+3) 15 [.d (.str x.s),.d (.int w),.d (.int kk),.d (.int m)] S=qz (.d (.int z),S)):xs (d<$>3) (aK 0) (eA (Rw.mk x w [a,kk]).d W G m x) S=qz (.rt (.d (.tuple ([z].map nD))),S):=by have t:=aM1 (d<$>3) (Rw.mk x w [a,kk]).d W G m S x;rw[hx] at t;have r1:aH (Rw.mk x w [a,kk]).d (.int 1)=qz (.int w):=dD _;refine aNg x h1 h2 (dS t (cL ?_));erw[20,r1,aYr,sl,nD]
theorem aQd(v:Nat)(hv:v<=64)(G:D):xs (d<$>3) (aK 0) (eA R (.tuple ([v].map nD)) G m .wide) S=qz (.rt (.d (.tuple ([m&&&(2^v-1)].map nD))),S):=by refine aFd .wide rfl rfl rfl (dS (aFh _ _ _ _ _ _ .wide) (cL ?_));have hq59:=dF (d+2) v ();erw[0,nD,aLF,hq59,dJ]
theorem aQ7(v:Nat)(hv1:1<=v)(hv:v<=64)(G:D):xs (d<$>3) (aK 0) (eA R (.tuple ([v].map nD)) G m .sign) S=qz (.rt (.d (.tuple ([mJ m v].map nD))),S):=by refine aFd .sign rfl rfl rfl (kI .sign rfl (aFh _ _ _ _ _ _ .sign) rfl (dS (aM2 _ _ _ _ _ _ .sign) (cL ?_)));have hq60:=aHR (d+1) m v hv1 ();erw[0,nD,aLF,hq60]
theorem aDW(x:Wd)(hx:decide (x=.same\/x=.less\/x=.under)=true)(h1:(decide (x=.and)||decide (x=.or))=false)(h2:(decide (x=.add\/x=.sub)||decide (x=.mul))=false)(h5:decide (x=.left\/x=.right\/x=.slide)=false)(h6:(decide (x=.wide)||decide (x=.sign))=false)(v:Nat)(hv:v<=64)(G:D):xs (d<$>3) (aK 0) (eA R (.tuple ([v,v].map nD)) G m x) S=qz (.rt (.d (.tuple ([2^v-1,2^v-1].map nD))),S):=by have t:=aFf (d<$>3) R (.tuple ([v,v].map nD)) G m S x;rw[hx] at t;refine aFe x h1 h2 h5 h6 (dS t (cL ?_));have hq61:=dF (d+2) v ();erw[0,nD,aBG,aBQ,hq61]
theorem aQx(f g h:Fc):xs (d<$>3) (aK 0) (eA R W (.tuple ([f,g,h].map Fc.d)) m .pick) S=qz (.rt (.d (.tuple ((fV .pick w kk ws [f,g,h] m).map nD))),S):=by rw[show fV .pick w kk ws [f,g,h] m=_ from if_neg h0];refine aFe .pick rfl rfl rfl rfl (kI .pick rfl (aFf _ _ _ _ _ _ .pick) rfl (dS (aMX _ _ _ _ _ _ .pick) (cL ?_)));erw[0,aXv,aOb (d+2),yBi]
omit h0 in
theorem aWX(n:Nat)(h:n<=10):bV .Mult (.tuple [.int m]) (.int ((n:Nat):Int))=qz (.tuple ((yAe n m).map nD)):=by rw[@aIQ _ n (),yFq];rfl
theorem vV(x:Wd)(args:List Nat)(ha:wS x args kk)(h1:(decide (x=.and)||decide (x=.or))=false)(h2:(decide (x=.add\/x=.sub)||decide (x=.mul))=false)(h5:decide (x=.left\/x=.right\/x=.slide)=false)(h6:(decide (x=.wide)||decide (x=.sign))=false)(h8:(decide (x=.same\/x=.less\/x=.under)||decide (x=.pick))=false)(G:D):xs (d<$>3) (aK 0) (eA (Rw.mk x w args).d W G m x) S=qz (.rt (.d (.tuple ((yAe (bG x) m).map nD))),S):=by
 have op:cl fns (d+3) 7 [.d (Rw.mk x w args).d] S=qz (.d (.tuple ((args.take (bG x)).map nD)),S):=mT (d+2) ⟨x,w,args⟩ S;have lop:iL [.tuple ((args.take (bG x)).map nD)]=qz (.int ((bG x:Nat):Int)):=by
  simp only[dR,dU,yAc,aDp ha]
 have rp:=aWX m (bG x) (by cases x<;>decide);refine aZs x h1 h2 h5 h6 h8 (cL ?_);erw[0,op,lop,rp]
end
def aPN(d:Nat)(wd:Wd)(w:Nat)(args:List Nat)(kk:Nat)(ws:List Nat)(fs:List Fc)(m:Nat)(hk:aB5 wd w ws)(hf:↑fs=bG wd)(ha:wS wd args kk)(hm:m<2^w)(h0:m≠0)(S:aC) :
 cl fns (d+4) 17 [.d (Rw.mk wd w args).d,.d (ws*>nD),.d (fs*>Fc.d),.d (.int m)] S=qz (.d (.tuple ((fV wd w kk ws fs m).map nD)),S):=by
 have hm64:m<2^64:=xAb hm (yAz (·) hk.2.1);have r0:aH (Rw.mk wd w args).d (.int 0)=qz (.str wd.s):=aLX _;have bm:m<2^10000:=aK9 hm64 (·);refine fF rfl (d+3) rfl rfl (yAg) (cF (S1:=S) (w:=.d (.str wd.s)) (aS:=eA (Rw.mk wd w args).d (ws*>nD) (fs*>Fc.d) m wd) (by erw[20,r0]) rfl ?_);show xs (d<$>3) (aK 0) (eA (Rw.mk wd w args).d (ws*>nD) (fs*>Fc.d) m wd) S=_;clear r0;let(cB,cD,hk):=hk;have e0:fV wd w kk ws fs m=_:=if_neg h0;cases wd
 case and=>let(f,g,rfl):=aFk hf;exact aRH d w kk m ws _ _ S h0 f g
 case or=>let(f,g,rfl):=aFk hf;exact aUO d w kk m ws _ _ S h0 f g
 case add=>rw[e0];exact aJa d m _ _ S h0 .add rfl rfl _ bm
 case sub=>rw[e0];exact aJa d m _ _ S h0 .sub rfl rfl _ bm
 case mul=>let(f,g,rfl):=aFk hf;exact aRm d w kk m ws _ _ S h0 f g hm64
 case left=>
  let(a,rfl,hkk):=ha;rw[e0];exact aD6 d w kk m _ S h0 .left rfl rfl rfl a _ (aSZ d w kk m S)
 case right=>
  let(a,rfl,hkk):=ha;rw[e0];exact aD6 d w kk m _ S h0 .right rfl rfl rfl a _ (aQF d w kk m cD () hm64 S)
 case slide=>
  let(a,rfl,hkk):=ha;rw[e0];exact aD6 d w kk m _ S h0 .slide rfl rfl rfl a _ (aQW d w kk m cB cD () hm64 S)
 case wide=>
  let(v,rfl,hv1,hv2):=hk;rw[e0];exact aQd d m _ S h0 v () _
 case sign=>
  let(v,rfl,hv1,hv2):=hk;rw[e0];exact aQ7 d m _ S h0 v () () _
 case same=>
  let(_,v,rfl,hv1,hv2):=hk;rw[e0];exact aDW d m _ S h0 .same rfl rfl rfl rfl rfl v () _
 case less=>
  let(_,v,rfl,hv1,hv2):=hk;rw[e0];exact aDW d m _ S h0 .less rfl rfl rfl rfl rfl v () _
 case under=>
  let(_,v,rfl,hv1,hv2):=hk;rw[e0];exact aDW d m _ S h0 .under rfl rfl rfl rfl rfl v () _
 case pick=>let(f,g,h,rfl):=aZK hf;exact aQx d w kk m ws _ _ S h0 f g h
 case «in» => rw[e0];exact vV d w kk m _ S h0 .in args ha rfl rfl rfl rfl rfl _
 case num=>rw[e0];exact vV d w kk m _ S h0 .num args ha rfl rfl rfl rfl rfl _
 case not=>rw[e0];exact vV d w kk m _ S h0 .not args ha rfl rfl rfl rfl rfl _
 case cut=>rw[e0];exact vV d w kk m _ S h0 .cut args ha rfl rfl rfl rfl rfl _
 case xor=>rw[e0];exact vV d w kk m _ S h0 .xor args ha rfl rfl rfl rfl rfl _
def aQS(n:Nat)(h:n<=10):bV .Mult (.tuple [.int 0]) (.int ((n:Nat):Int))=qz (.tuple ((yAe n 0).map nD)):=by rw[@aIQ _ n (),yFq];rfl
def aJE(d:Nat)(wd:Wd)(w:Nat)(args:List Nat)(kk:Nat)(ws:List Nat)(fs:List Fc)(m:Nat)(hk:aB5 wd w ws)(hf:↑fs=bG wd)(ha:wS wd args kk)(hm:m<2^w)(S:aC) :
 cl fns (d+5) 18 [.d (Rw.mk wd w args).d,.d (ws*>nD),.d (fs*>Fc.d),.d (.int m)] S=qz (.d (.tuple ((fV wd w kk ws fs m).map nD)),S):=by
 rw[aN rfl (d+4) _ S rfl];by_cases h0:m=0
 ·have d0:(m==0)=true:=by rw[beq_iff_eq];exact h0
  have e0:fV wd w kk ws fs m=yAe (bG wd) 0:=if_pos h0;have lop:iL [.tuple ((args.take (bG wd)).map nD)]=qz (.int ((bG wd:Nat):Int)):=by
   simp only[dR,dU,yAc,aDp ha]
  have op:cl fns (d+4) 7 [.d (Rw.mk wd w args).d] S=qz (.d (.tuple ((args.take (bG wd)).map nD)),S):=mT (d+3) ⟨wd,w,args⟩ S;rw[e0];have hq62:=aQS (bG wd) (by cases wd<;>decide);erw[11,aEJ,bP,eO,d0,op,lop,hq62]
 ·have d0:(m==0)=false:=by rw[beq_eq_false_iff_ne];exact h0
  erw[11,aEJ,bP,eO,d0,aPN d wd w args kk ws fs m hk hf ha hm h0]
def pT:Sx:=aT (aT (aT iE))
def pR(k:Nat):Sx:=match k with|0=>bR iE|1=>bR (aT iE)|2=>bR (aT (aT iE))|4=>bR pT|5=>bR (aT pT)|6=>bR (aT (aT pT))|7=>bR (aT (aT (aT pT)))|_=>bR (aT (aT (aT (aT pT))))
def aQp:pT=.seq (pR 4) (.seq (pR 5) (.seq (pR 6) (.seq (pR 7) (.seq (pR 8) .skip)))):=rfl
def aRs:iE=.seq (pR 0) (.seq (pR 1) (.seq (pR 2) pT)):=rfl
def aQN(h:At S 0 p)(ns:List Int)(k:Nat)(x:Int)(rs:List Rw):∃ T,aQ S 0 p ns k x rs=qz (aJ ns k x)::T:=by
 have hs:=h.toAt0.state (ns:=ns) (k:=k) (x:=x) (rs:=rs);rcases e:aQ S 0 p ns k x rs with _|⟨a,T⟩
 ·rw[e] at hs;cases hs
 ·rw[e] at hs;cases hs;exact⟨T,rfl⟩
def aA3(h:At S 0 p)(ns:List Int)(k:Nat)(x:Int)(rs:List Rw)(T:aC):aQ (S++T) 0 p ns k x rs=aQ S 0 p ns k x rs++T:=by unfold aQ;rw[List.set_append_left _ _ h.hn,List.set_append_left _ _ (by rw[yBa];exact h.hp)]
def At.app(h:At S 0 p)(T:aC):At (S++T) 0 p:=⟨⟨by rw[yAo];have:=h.hn;omega,h.ne⟩,by rw[yAo];have:=h.hp;omega⟩
def aQK{l:List Nat}{q n:Nat}(h:∀ o∈l,o<n)(hq:q<n):∀ o∈l++[q],o<n:=λ o ho=>by
 rcases List.mem_append.mp ho with ho|ho
 ·exact h o ho
 ·rw[yGx] at ho;subst ho;exact hq
def aR4(h:a=m+1)(h2:m<=7):a<=8:=()
def aL3(h:At S 0 p){x:Int}{rs:List Rw}(d most q:Nat)(hm:most<=30)(ok:dP [] rs)(l0:0<↑rs)(l1:↑rs<=40)(hk:k<=50000) :
 ∃ (aO:List Rw) (aE:List Nat) (k':Nat) (x':Int) (T:aC),dP [] aO/\0<↑aO/\↑aO<=40/\k'<=k+700/\(∀ o∈aE,o<↑aO)/\↑aE<=8/\xs (d<$>5) pT [#[0],(most:),(q:),#[p],qx,qx,qx] (aQ S 0 p ns k x rs)=qz (.rt (.d (aO<*(aE*>nD))),qz (aJ ns k' x')::T):=by
 let(env1,S1,p1,a4,aO,k1,x1,ok1,l0',l1',hk1,rfl,rfl):=aKo (t:=.one 4) (fi:=lv (d<$>5) aAd) (fb:=xs (d<$>5) aAc) (env:=[#[0],(most:),(q:),#[p],qx,qx,qx]) (S:=aQ S 0 p ns k x rs)
  (λ j env S'=>∃ (a4:Option W) (rs:List Rw) (k':Nat) (x:Int),dP [] rs/\0<↑rs/\↑rs<=40/\k'<=k+20*j/\env=[#[0],(most:),(q:),#[p],a4,qx,qx]/\S'=aQ S 0 p ns k' x rs)
  (show lv (d<$>5) aAd _ _=qz ((yBm most).map (λ k=>yAn (k:Nat)),_) by
    simp only[aAd,rB,qK,qJ,qQ,qW,qM];exact vD rfl ())
  ⟨qx,rs,k,x,ok,l0,l1,by omega,rfl,rfl⟩ (by
   rintro j dd env S' hj ⟨a4,rs,k',x,ok,l0,l1,hk',rfl,rfl⟩;have hj':j<most:=by simpa using hj
   refine⟨[#[0],(most:),(q:),#[p],qz (.d dd),qx,qx],[#[0],(most:),(q:),#[p],qz (.d dd),qx,qx],?_⟩;by_cases c:↑rs<37
   ·have d1:decide (((↑rs:Nat):Int)<37)=true:=dqT ();let(k2,x',aO,ok',g1,g2,hk2,e):=GP.row_ok (ns:=ns) (k:=k') (x:=x) h d ok l0 () ();refine⟨_,rfl,?_,qz (.d dd),aO,k2,x',ok',by omega,by omega,by omega,rfl,rfl⟩;erw[1,aAc,h.rows,dR,dU,GP.rows_len,fO,d1,e]
   ·have d1:decide (((↑rs:Nat):Int)<37)=false:=dqF ();refine⟨_,rfl,?_,qz (.d dd),rs,k',x,ok,l0,l1,by omega,rfl,rfl⟩
    erw[20,aAc,h.rows,dR,dU,GP.rows_len,fO,d1])
 have hk2:k1<=k+600:=by simp at hk1;omega
 let(q2,x2,hq2,e2):=@gE _ _ _ k1 ns x1 aO h.toAt0 (d+4) ↑aO l0' () ();let(q3,x3,hq3,e3):=iT (ns:=ns) (k:=k1+1) (x:=x2) (rs:=aO) h.toAt0 (d+4) 4 (i:=4) rfl (·) (·) ();let(b3,hb3,eb3):=b2i ((q3:Int)==1);let(y,hy,ey):=at2 (.int (((↑aO:Nat):Int)-1)) (.int q2) hb3;obtain⟨y0,hy0,rfl⟩:∃ y0:Nat,y0<↑aO/\y=nD y0:=by
  rcases hy with rfl|rfl
  ·have e9:((↑aO:Nat):Int)-1=((↑aO-1:Nat):Int):=();exact⟨↑aO-1,by omega,by rw[e9];rfl⟩
  ·exact⟨q2,hq2,rfl⟩
 have p5:xs (d<$>5) (pR 5) [#[0],(most:),(q:),#[p],a4,qx,qx] (aQ S 0 p ns k1 x1 aO)=qz (.nx [#[0],(most:),(q:),#[p],a4,qz (.d (.list [.int (((↑aO:Nat):Int)-1),.int q2])),qx],aQ S 0 p ns (k1+1) x2 aO):=by
  erw[5,pR,pT,aT,bR,iE,h.rows,dR,dU,GP.rows_len,cP,e2]
 have p6:xs (d<$>5) (pR 6) [#[0],(most:),(q:),#[p],a4,qz (.d (.list [.int (((↑aO:Nat):Int)-1),.int q2])),qx] (aQ S 0 p ns (k1+1) x2 aO)=qz (.nx [#[0],(most:),(q:),#[p],a4,qz (.d (.list [.int (((↑aO:Nat):Int)-1),.int q2])),qz (.loc ↑S)],aQ (S++[qz [nD y0]]) 0 p ns (k1+2) x3 aO):=by
  have hl:↑(aQ S 0 p ns (k1+1+1) x3 aO)=↑S:=h.toAt0.len;rw[aA3 h];erw[5,pR,pT,aT,bR,iE,hU,e3,bP,aKq,aKc,eb3,ey,hl]
 let(q4,x4,hq4,e4):=iT (ns:=ns) (k:=k1+2) (x:=x3) (rs:=aO) (At.app h [qz [nD y0]]).toAt0 (d+4) 3 (i:=3) rfl (·) (·) ();let(q5,x5,hq5,e5):=iT (ns:=ns) (k:=k1+3) (x:=x4) (rs:=aO) (At.app h [qz [nD y0]]).toAt0 (d+4) 8 (i:=8) rfl (·) (·) ();let(b5,hb5,eb5):=b2i ((q5:Int)==1);let(z,hz,ez):=at2 (.int q4) (.int 7) hb5;obtain⟨m,hm7,rfl⟩:∃ m:Nat,m<=7/\z=.int m:=by
  rcases hz with rfl|rfl
  ·exact⟨_,by omega,rfl⟩
  ·exact⟨7,by decide,rfl⟩
 let(env2,S2,p4,a4',aE,k6,x6,ol,oa,hk6,rfl,rfl):=aKo (t:=.one 4) (fi:=lv (d<$>5) aCE) (fb:=xs (d<$>5) aCD) (env:=[#[0],(most:),(q:),#[p],a4,qz (.d (.list [.int (((↑aO:Nat):Int)-1),.int q2])),qz (.loc ↑S)]) (S:=aQ (S++[qz [nD y0]]) 0 p ns (k1+2) x3 aO) (S1:=aQ (S++[qz [nD y0]]) 0 p ns (k1+2+1+1) x5 aO) (ds:=(yBm m).map (λ k=>yAn (k:Nat)))
  (λ j env S'=>∃ (a4:Option W) (aE:List Nat) (k:Nat) (x:Int),↑aE=j+1/\(∀ o∈aE,o<↑aO)/\k<=k1+4+j/\env=[#[0],(most:),(q:),#[p],a4,qz (.d (.list [.int (((↑aO:Nat):Int)-1),.int q2])),qz (.loc ↑S)]/\S'=aQ (S++[qz (aE.map nD)]) 0 p ns k x aO)
  (by
    simp only[aCE,rB,qK,qJ,qQ,qW,qM];refine vD ?_ ()
    erw[20,e4,e5,bP,aKq,aKc,eb5,ez])
  ⟨a4,[y0],k1+4,x5,rfl,λ o ho=>by rw[yGx] at ho;subst ho;exact hy0,by omega,rfl,rfl⟩ (by
   rintro j dd env S' hj ⟨a4,aE,k,x,ol,oa,hk,rfl,rfl⟩;have hj':j<m:=by simpa using hj
   have hA:=At.app h [qz (aE.map nD)];let(q6,x6,hq6,e6):=@gE _ _ _ k ns x aO hA.toAt0 (d+4) ↑aO l0' () ();refine⟨[#[0],(most:),(q:),#[p],qz (.d dd),qz (.d (.list [.int (((↑aO:Nat):Int)-1),.int q2])),qz (.loc ↑S)],[#[0],(most:),(q:),#[p],qz (.d dd),qz (.d (.list [.int (((↑aO:Nat):Int)-1),.int q2])),qz (.loc ↑S)],aQ (S++[qz ((aE++[q6]).map nD)]) 0 p ns (k+1) x6 aO,rfl,?_,qz (.d dd),aE++[q6],k+1,x6,by simp[ol],aQK oa hq6,by omega,rfl,rfl⟩;have ap:cX (aQ (S++[qz (aE.map nD)]) 0 p ns (k+1) x6 aO) (.loc ↑S) (.d (.int q6))=qz (.d .none,aQ (S++[qz ((aE++[q6]).map nD)]) 0 p ns (k+1) x6 aO):=by
    rw[aA3 h,aA3 h,yAv];have hl:↑(aQ S 0 p ns (k+1) x6 aO)=↑S:=h.toAt0.len;have:=aDC (aQ S 0 p ns (k+1) x6 aO) (aE.map nD) (.int q6) (by rw[yAc];omega);rw[hl] at this;exact this
   erw[20,aCD,hA.rows,dR,dU,GP.rows_len,e6,lK,ap])
 have hk7:k6<=k1+4+m:=by simpa using hk6
 let(T,hT):=aQN (At.app h [qz (aE.map nD)]) ns k6 x6 aO;refine⟨aO,aE,k6,x6,T,ok1,l0',l1',by omega,oa,aR4 (by simpa using ol) hm7,?_⟩;have p4':xs (d<$>5) (pR 4) [#[0],(most:),(q:),#[p],qx,qx,qx] (aQ S 0 p ns k x rs)=qz (.nx [#[0],(most:),(q:),#[p],a4,qx,qx],aQ S 0 p ns k1 x1 aO):=p1;have p7':xs (d<$>5) (pR 7) [#[0],(most:),(q:),#[p],a4,qz (.d (.list [.int (((↑aO:Nat):Int)-1),.int q2])),qz (.loc ↑S)] (aQ (S++[qz [nD y0]]) 0 p ns (k1+2) x3 aO)=qz (.nx [#[0],(most:),(q:),#[p],a4',qz (.d (.list [.int (((↑aO:Nat):Int)-1),.int q2])),qz (.loc ↑S)],aQ (S++[qz (aE.map nD)]) 0 p ns k6 x6 aO):=p4;rw[aQp,dX p4',dX p5,dX p6,dX p7',<- hT];have g2:(aQ (S++[qz (aE.map nD)]) 0 p ns k6 x6 aO)[↑S]?=qz (qz (aE.map nD)):=by
  rw[aA3 h];have hl:↑(aQ S 0 p ns k6 x6 aO)=↑S:=h.toAt0.len;rw[<- hl];exact sP _ _
 erw[5,pR,pT,aT,bR,iE,(At.app h [qz (aE.map nD)]).rows,g2,kC,kB]
def A2:At [qx,qx] 0 1:=⟨⟨by decide,by decide⟩,by decide⟩
def A3(j:List D):At [qx,qz j,qx] 0 2:=⟨⟨by show 0<3;decide,by decide⟩,by show 2<3;decide⟩
def aTN(d most:Nat)(ns:List Int)(hm:most<=30)(kk:Nat)(xx:Int)(hkk:kk<=40000):∃ (rs:List Rw) (aE:List Nat) (k:Nat) (x:Int),dP [] rs/\0<↑rs/\↑rs<=40/\k<=kk+800/\(∀ o∈aE,o<↑rs)/\↑aE<=8/\cl fns (d+6) 77 [.loc 0,.d (.int most)] [qz (aJ ns kk xx)]=qz (.d (rs<*(aE*>nD)),[qz (aJ ns k x)]):=by
 let(w,x0,cB,cD,e0):=@aIo _ _ _ kk ns xx [] oJ (d+3) ();rw[aNl,aNl] at e0;have p0:xs (d<$>5) (pR 0) [#[0],(most:),qx,qx,qx,qx,qx] [qz (aJ ns kk xx)]=qz (.nx [#[0],(most:),(w:),qx,qx,qx,qx],[qz (aJ ns (kk+3) x0)]):=by
  erw[3,pR,bR,iE,e0]
 have p1:xs (d<$>5) (pR 1) [#[0],(most:),(w:),qx,qx,qx,qx] [qz (aJ ns (kk+3) x0)]=qz (.nx [#[0],(most:),(w:),#[1],qx,qx,qx],aQ [qx,qx] 0 1 ns (kk+3) x0 [⟨.in,w,[]⟩]):=by
  erw[4,pR,bR,aT,iE,hU]
 let(q,x1,hq,e1):=iT (ns:=ns) (k:=kk+3) (x:=x0) (rs:=[⟨.in,w,[]⟩]) A2.toAt0 (d+4) 8 (i:=8) rfl (·) (·) ();have ok0:dP [] [⟨.in,w,[]⟩]:=⟨⟨cB,cD,True.intro⟩,True.intro⟩
 suffices H:∃ (rs:List Rw) (aE:List Nat) (k:Nat) (x:Int) (T:aC),dP [] rs/\0<↑rs/\↑rs<=40/\k<=kk+800/\(∀ o∈aE,o<↑rs)/\↑aE<=8/\xs (d<$>5) (.seq (pR 2) pT) [#[0],(most:),(w:),#[1],qx,qx,qx] (aQ [qx,qx] 0 1 ns (kk+3) x0 [⟨.in,w,[]⟩])=qz (.rt (.d (rs<*(aE*>nD))),qz (aJ ns k x)::T) by
  let(rs,aE,k,x,T,h1,h2,h3,h4,h6,h7,h5):=H;refine⟨rs,aE,k,x,h1,h2,h3,h4,h6,h7,?_⟩;have full:xs (d<$>5) iE [#[0],(most:),qx,qx,qx,qx,qx] [qz (aJ ns kk xx)]=qz (.rt (.d (rs<*(aE*>nD))),qz (aJ ns k x)::T):=by
   rw[aRs,dX p0,dX p1];exact h5
  rw[aN rfl (d+5) _ _ rfl];show((xs (d<$>5) iE [#[0],(most:),qx,qx,qx,qx,qx] [qz (aJ ns kk xx)]).bind _)=_;rw[full];rfl
 by_cases c:q=1
 ·have dq:((q:Int)==1)=true:=by rw[beq_iff_eq];omega
  let(n,k2,x2,hn,hk2,e2):=@aJ8 _ _ _ (kk+3+1) ns x1 [⟨.in,w,[]⟩] A2.toAt0 (d+2) w cB cD ();have hl:↑(aQ [qx,qx] 0 1 ns k2 x2 [⟨.in,w,[]⟩])=2:=rfl;have p2:xs (d<$>5) (pR 2) [#[0],(most:),(w:),#[1],qx,qx,qx] (aQ [qx,qx] 0 1 ns (kk+3) x0 [⟨.in,w,[]⟩])=qz (.nx [#[0],(most:),(w:),#[2],qx,qx,qx],aQ [qx,qz ([(⟨.in,w,[]⟩:Rw)].map Rw.d),qx] 0 2 ns k2 x2 [⟨.num,w,[n]⟩]):=by
   erw[4,pR,bR,aT,iE,e1,bP,dq,e2,hU,hl]
  let(rs,aE,k,x,T,h1,h2,h3,h4,h6,h7,h5):=aL3 (A3 ([(⟨.in,w,[]⟩:Rw)].map Rw.d)) (ns:=ns) (k:=k2) (x:=x2) (rs:=[⟨.num,w,[n]⟩]) d most w hm ⟨⟨cB,cD,hn⟩,True.intro⟩ (by simp) (by simp) ();refine⟨rs,aE,k,x,T,h1,h2,h3,by omega,h6,h7,?_⟩;rw[dX p2];exact h5
 ·have dq:((q:Int)==1)=false:=by rw[beq_eq_false_iff_ne];omega
  have p2:xs (d<$>5) (pR 2) [#[0],(most:),(w:),#[1],qx,qx,qx] (aQ [qx,qx] 0 1 ns (kk+3) x0 [⟨.in,w,[]⟩])=qz (.nx [#[0],(most:),(w:),#[1],qx,qx,qx],aQ [qx,qx] 0 1 ns (kk+3+1) x1 [⟨.in,w,[]⟩]):=by
   erw[4,pR,bR,aT,iE,e1,bP,dq]
  let(rs,aE,k,x,T,h1,h2,h3,h4,h6,h7,h5):=aL3 A2 (ns:=ns) (k:=kk+3+1) (x:=x1) (rs:=[⟨.in,w,[]⟩]) d most w hm ok0 (by simp) (by simp) ();refine⟨rs,aE,k,x,T,h1,h2,h3,by omega,h6,h7,?_⟩;rw[dX p2];exact h5
def bL(r:Rw):List Nat:=r.args.take (bG r.wd)
def zB(r:Rw):Nat:=r.args.getD 1 0
def mQ(r:Rw)(F:List Ft):List Fc:=(eW r F).map λ f=>⟨f.N,f.O,f.A⟩
def pU(rs:List Rw)(F:List Ft)(r:Rw)(m:Nat):List Nat:=fV r.wd r.w (zB r) (bY r (~~~rs)) (mQ r F) m
def eE(rs:List Rw)(F:List Ft)(r:Rw)(m:Nat):List (Nat×Nat):=(bL r).zip (pU rs F r m)
def pD(p:Nat×Nat):D:=.tuple [nD p.1,nD p.2]
def xT(h:RwOk r ws):aB5 r.wd r.w ws/\wS r.wd r.args (zB r):=by
 cases h with
 |inp h1 h2=>exact⟨⟨h1,h2,rfl⟩,rfl⟩|num h1 h2 hn=>exact⟨⟨h1,h2,rfl⟩,_,rfl⟩|nt h1 h2=>exact⟨⟨h1,h2,rfl⟩,_,rfl⟩
 |sh h1 h2 bC hk=>erw[50,bC]<;>exact⟨⟨h1,h2,rfl⟩,_,rfl,hk⟩
 |cut h1 hv h2=>exact⟨⟨h1,xAh hv h2,_,rfl,hv,h2⟩,_,rfl⟩|wide h1 hv h2=>exact⟨⟨xAh h1 hv,h2,_,rfl,hv,h1⟩,_,rfl⟩|sign h1 hv h2=>exact⟨⟨xAh h1 hv,h2,_,rfl,hv,h1⟩,_,rfl⟩
 |bw h1 h2 bC=>erw[50,bC]<;>exact⟨⟨h1,h2,rfl⟩,_,_,rfl⟩
 |sm h1 h2=>
   rename_i s w a b;cases s<;>exact⟨⟨h1,h2,rfl⟩,_,_,rfl⟩
 |cmp h1 h2 bC=>erw[50,bC]<;>exact⟨⟨yAb 1,(show 1<=64 by decide),rfl,_,rfl,h1,h2⟩,_,_,rfl⟩
 |pick h1 h2=>exact⟨⟨h1,h2,rfl⟩,_,_,_,rfl⟩
def aBq:∀ as bs:List Nat,gI (as.map nD) (bs.map nD)=(as.zip bs).map pD
 |[],_=>by cases ‹List Nat› <;> rfl|_::_,[]=>rfl
 |a::as,b::bs=>by
   show yAk [nD a,nD b]::gI (as.map nD) (bs.map nD)=pD (a,b)::(as.zip bs).map pD;rw[aBq as bs];rfl
def aLI(r:Rw)(F:List Ft):(mQ r F).map Fc.d=(eW r F).map Ft.d:=by unfold mQ;rw[yBd];rfl
def wR(d a:Nat){rs:List Rw}(hr:rs[a]?=qz r)(o:D)(S:aC):cl fns (d+1) 10 [.d (rs<*o),.d (.int a)] S=qz (.d (.int r.w),S):=by have i0:aH (rs<*o) (.int 0)=qz (rs*>Rw.d):=rfl;have e1:aH (rs*>Rw.d) (.int a)=qz r.d:=cW (by rw[yAd,hr];rfl);rw[aN rfl d _ S rfl];erw[11,aHE,i0,e1,dD]
def hV{rs:List Rw}(hr:rs[a]?=qz r):g0 (~~~rs) a=r.w:=by show(~~~rs).getD a 0=_;rw[xAg,yAd,hr];rfl
def aS6{fa fb:FE}(h1:fa env S=qz (.d (as*>nD),S1))(h2:fb env S1=qz (.d (bs*>nD),S2))(hl:↑as<=1000):tT fa fb env S=qz ((as.zip bs).map pD,S2):=by
 have e:nR fa fb env S=qz ((as.zip bs).map pD,S2):=by
  unfold nR;rw[h1,oB,h2,oB,<- aBq];rfl
 unfold tT aNm;rw[e,oB,if_pos];show↑((as.zip bs).map pD)<=1000000;rw[yAc,yGo];omega
def aAZ(r:Rw):↑(bL r)<=3:=by have:=aKp r.wd;unfold bL;rw[yBk];omega
def aJe{rs:List Rw}{F:List Ft}{r:Rw}{k:Nat}(p:Prg rs)(hr:rs[k]?=qz r):↑(mQ r F)=bG r.wd:=by have h:=(xT (p.fit k r hr).1).2;unfold mQ eW;rw[yAc,yAc];exact aDp h
def aOj{rs:List Rw}{F:List Ft}{r:Rw}{k m:Nat}(d:Nat)(p:Prg rs)(hr:rs[k]?=qz r)(hF:↑F=↑rs)(hm:m<2^r.w)(o:D)(S:aC):cl fns (d+6) 19 [.d (rs<*o),.d (F*>Ft.d),.d (.int k),.d (.int m)] S=qz (.d (.list ((eE rs F r m).map pD)),S):=by
 have i0:aH (rs<*o) (.int 0)=qz (rs*>Rw.d):=rfl;have e1:aH (rs*>Rw.d) (.int k)=qz r.d:=cW (by rw[yAd,hr];rfl);let(f1,f2'):=p.fit k r hr;have hk:k<↑rs:=(gIm hr).1;have ol:=aAZ r;have hc:lv (d<$>5) aGu [qz (.d (rs<*o)),qz (.d (F*>Ft.d)),(k:),(m:),qz (.d r.d),qx,qx,qx] S=qz ((bY r (~~~rs)).map nD,S):=by
  unfold bY;rw[yBd];refine mY (fi:=lv (d<$>5) (.it (.call 7 (.cons (.var 4) .nil)))) (fe:=ev (d<$>5) (.call 10 (.cons (.var 0) (.cons (.var 7) .nil)))) nD (nD ∘ g0 (~~~rs)) (r.args.take (bG r.wd)) ?_ (by rw[zq];have:↑(r.args.take (bG r.wd))<=3:=ol;omega) λ a ha=>?_
  ·erw[0,mT (d+4),eV]
  ·refine⟨_,rfl,λ S'=>?_⟩;have haj:=f2' a ha;have hq:rs[a]?=qz rs[a]:=yAa ();have e2:=wR (d+4) a hq o S';have e2':cl fns (d+5) 10 [.d (rs<*o),.d (nD a)] S'=qz (.d (.int (rs[a].w:Nat)),S'):=e2;erw[20,clr,yBb,yCm,e2'];show _=qz (W.d (nD (g0 (~~~rs) a)),S');rw[hV hq];rfl
 have o2:=aDx (d+3) r (.d (F*>Ft.d)) (F*>Ft.d) (λ a=>(f0 F a).d) S (λ _=>rfl) λ a ha=>cW (by rw[yAd,oV (by have:=f2' a ha;omega)];rfl)
 have o2':cl fns (d+5) 9 [.d r.d,.d (F*>Ft.d)] S=qz (.d (.tuple ((mQ r F).map Fc.d)),S):=by
  rw[o2,aLI,eW,yBd];rfl
 let(w1,w2):=xT f1;have nk:=aJE d r.wd r.w r.args (zB r) (bY r (~~~rs)) (mQ r F) m w1 (aJe p hr) w2 hm S;have nk':cl fns (d+5) 18 [.d r.d,.d (.tuple ((bY r (~~~rs)).map nD)),.d (.tuple ((mQ r F).map Fc.d)),.d (.int m)] S=qz (.d (.tuple ((pU rs F r m).map nD)),S):=nk;have lz:∀ fa:FE,∀ env:bB,fa env S=qz (.d (.tuple ((bL r).map nD)),S)->env[6]?=qz (qz (.d (.tuple ((pU rs F r m).map nD))))->tT fa (kJ 6) env S=qz ((eE rs F r m).map pD,S):=λ fa env h h6=>aS6 h (aH4 h6) ()
 rw[aN rfl (d+5) _ S rfl];erw[20,fH,aHd,i0,e1,hc,kC,kB,o2',nk'];rw[lz _ _ (by erw[20,mT (d+4)];rfl) rfl];erw[0,True]
def cJ(M:List Nat)(q:Nat×Nat):List Nat:=M.set q.1 (M.getD q.1 0|||q.2)
def iJ(rs:List Rw)(F:List Ft)(M:List Nat)(k:Nat):List Nat:=match rs[k]? with|some r=>(eE rs F r (M.getD k 0)).foldl cJ M|none=>M
def uD(rs:List Rw)(F:List Ft):Nat->List Nat->List Nat
 |0,M=>M|k+1,M=>uD rs F k (iJ rs F M k)
def fD(rs:List Rw)(M:List Nat)(o:Nat):List Nat:=M.set o (2^g0 (~~~rs) o-1)
def pM(rs:List Rw)(aE:List Nat):List Nat:=aE.foldl (fD rs) (yAe ↑rs 0)
def fQ(rs:List Rw)(F:List Ft)(aE:List Nat):List Nat:=uD rs F ↑rs (pM rs aE)
structure Bd(rs:List Rw)(M:List Nat):Prop where
 l:↑M=↑rs
 lt:∀ (i:Nat) (r:Rw),rs[i]?=qz r->M.getD i 0<2^r.w
def aC5{α β:Type}{f:β->α->β}{l:List α}{q:α}(M:β)(h:l[j]?=qz q):(l.take (j+1)).foldl f M=f ((l.take j).foldl f M) q:=by rw[List.take_add_one,h];simp
def vF{M:List Nat}(h:a≠i):(M.set a v).getD i 0=M.getD i 0:=by rw[xAg,xAg,yAq h]
def aAr{M:List Nat}(h:a<↑M):(M.set a v).getD a 0=v:=by rw[xAg,yAr h];rfl
def aDH{M:List Nat}(h:i<↑M):M[i]?=qz (M.getD i 0):=by rw[xAg,yAa h];rfl
def aBo{rs:List Rw}(p:Prg rs)(hr:rs[k]?=qz r)(hm:m<2^r.w)(q:Nat×Nat)(hq:q∈eE rs F r m):q.1<k/\∀ r',rs[q.1]?=qz r'->q.2<2^r'.w:=by
 let(f1,f2):=p.fit k r hr;let(w1,w2):=xT f1;let(c,hc):=yGg hq;let(a,b):=q;unfold eE at hc;rw[List.getElem?_zip_eq_some] at hc;let(h1,h2):=hc;refine⟨f2 a (xAk h1),λ r' hr'=>?_⟩;have hv:(bY r (~~~rs))[c]?=qz r'.w:=by
  unfold bY;have h1':(r.args.take (bG r.wd))[c]?=qz a:=h1;rw[yAd,h1'];show qz (g0 (~~~rs) a)=_;rw[hV hr']
 have:=aRF r.wd r.w (zB r) (bY r (~~~rs)) (mQ r F) m c r'.w w1 hm hv;have e:(pU rs F r m).getD c 0=b:=by
  rw[xAg,h2];rfl
 rw[<- e];exact this
def aBC{rs:List Rw}(h:Bd rs M){q:Nat×Nat}(h1:q.1<↑rs)(h2:∀ r',rs[q.1]?=qz r'->q.2<2^r'.w):Bd rs (cJ M q):=by
 refine⟨by unfold cJ;rw[yBa];exact h.l,λ i r hr=>?_⟩;unfold cJ;by_cases c:q.1=i
 ·rw[c] at h1 h2 ⊢;rw[aAr (by rw[h.l];exact h1)];exact yBf (h.lt i r hr) (h2 r hr)
 ·rw[vF c];exact h.lt i r hr
section
variable {rs:List Rw}{F:List Ft}{r:Rw}{k m:Nat}
def aKr(p:Prg rs)(hr:rs[k]?=qz r)(hm:m<2^r.w):∀ (l:List (Nat×Nat)) (M:List Nat),(∀ q∈l,q∈eE rs F r m)->Bd rs M->Bd rs (l.foldl cJ M)
 |[],_,_,h=>h
 |q::l,M,hl,h=>by
   have hk:k<↑rs:=(gIm hr).1;let(a,b):=aBo p hr hm q (hl q xAc);exact aKr p hr hm l _ (λ x hx=>hl x (xAf _ hx)) (aBC h () b)
end
def aDJ{rs:List Rw}:Bd rs (yAe ↑rs 0):=by refine⟨yEi,λ i r hr=>?_⟩;have hi:i<↑rs:=(gIm hr).1;rw[xAg,yFh,if_pos hi];exact xAe _
def aHm{rs:List Rw}(hr:rs[o]?=qz r):fD rs M o=M.set o (2^r.w-1):=by unfold fD;rw[hV hr]
def aDV{rs:List Rw}(h:Bd rs M)(ho:o<↑rs):Bd rs (fD rs M o):=by
 refine⟨by unfold fD;rw[yBa];exact h.l,λ i r hr=>?_⟩;unfold fD;by_cases c:o=i
 ·subst c;rw[aAr (by rw[h.l];exact ho),hV hr];have:=xAe r.w;omega
 ·rw[vF c];exact h.lt i r hr
section
variable {rs:List Rw}
def aI3:∀ (l:List Nat) (M:List Nat),(∀ o∈l,o<↑rs)->Bd rs M->Bd rs (l.foldl (fD rs) M)
 |[],_,_,h=>h|o::l,M,hl,h=>aI3 l _ (λ x hx=>hl x (xAf _ hx)) (aDV h (hl o xAc))
end
def sV(S:aC)(M:List Nat)(a v:Nat)(ha:a<↑M):iZ (S++[qz (M.map nD)]) (.loc ↑S) (.d (.int a)) (.d (.int v))=qz (S++[qz ((M.set a v).map nD)]):=by unfold iZ;simp only[sP];unfold jH;rw[yAc,if_pos (),if_pos (),oB,yAs,List.set_append_right _ _ (yAb _),yAx,List.map_set];rfl
def wL{M:List Nat}(h:i<↑M):aH (.list (M.map nD)) (.int i)=qz (.int ((M.getD i 0:Nat):Int)):=mI (by rw[yAd,aDH h];rfl)
def aWB{fa fb:FE}{env:bB}{S:aC}{n:Nat}(h1:fa env S=qz (.d (.list [.int 0]),S))(h2:fb env S=qz (.d (.int n),S))(hn:n<=1000):rP fa fb env S=qz ((yAe n 0).map nD,S):=by
 have hz:↑(([.int 0]:List D))*((n:Int)).toNat<=qk:=by rw[yAs,zq];simp;omega
 have hd:dr S (.d (.list [.int 0]))=qz (.list [.int 0]):=rfl;unfold rP;rw[h1,oB,h2,oB];show((dr S (.d (.list [.int 0]))).bind _)=_;rw[hd,oB];show(if (n:Int)<2^63 /\ -(2^63)<=(n:Int)/\↑(([.int 0]:List D))*((n:Int)).toNat<=qk then qz (yZ ((n:Int)).toNat [yAn 0],S) else qx)=_;rw[if_pos ⟨by omega,by omega,hz⟩,yAs,aQu,yFq];rfl
def aPh{rs:List Rw}{F:List Ft}(d:Nat)(p:Prg rs)(hr:rs[k]?=qz r)(hF:↑F=↑rs)(o:D)(S:aC)(h:Bd rs M)(c3 c5 c6 c7 c8:Option W):∃ c7' c8':Option W,Bd rs (iJ rs F M k)/\iH (.many [7,8]) (lv (d<$>6) aAH) (xs (d<$>6) aAD) [qz (.d (rs<*o)),qz (.d (F*>Ft.d)),qz (.loc ↑S),c3,(k:),c5,c6,c7,c8] (S++[qz (M.map nD)])=qz (.nx [qz (.d (rs<*o)),qz (.d (F*>Ft.d)),qz (.loc ↑S),c3,(k:),c5,c6,c7',c8'],S++[qz ((iJ rs F M k).map nD)]):=by
 have hk:k<↑rs:=(gIm hr).1;have hm:=h.lt k r hr;have e0:=@wL k M (by rw[h.l];exact hk);have rn:=aOj d p hr hF hm o (S++[qz (M.map nD)]);have eR:iJ rs F M k=(eE rs F r (M.getD k 0)).foldl cJ M:=by unfold iJ;rw[hr]
 let(aS,S',p1,c7',c8',hb,rfl,rfl):=kY (t:=.many [7,8]) (fi:=lv (d<$>6) aAH) (fb:=xs (d<$>6) aAD) (env:=[qz (.d (rs<*o)),qz (.d (F*>Ft.d)),qz (.loc ↑S),c3,(k:),c5,c6,c7,c8]) (S:=S++[qz (M.map nD)]) (S1:=S++[qz (M.map nD)]) (ds:=(eE rs F r (M.getD k 0)).map pD)
  (λ j env S'=>∃ c7 c8:Option W,Bd rs (((eE rs F r (M.getD k 0)).take j).foldl cJ M)/\env=[qz (.d (rs<*o)),qz (.d (F*>Ft.d)),qz (.loc ↑S),c3,(k:),c5,c6,c7,c8]/\S'=S++[qz ((((eE rs F r (M.getD k 0)).take j).foldl cJ M).map nD)])
  (by erw[20,aAH,sP,e0,rn,eV]) ⟨c7,c8,h,rfl,rfl⟩ (by
    rintro j dd env S' hd ⟨c7,c8,hb,rfl,rfl⟩;rw[yAd] at hd;let(q,hq,rfl):=Option.map_eq_some_iff.mp hd;let(q1,q2):=aBo p hr hm q (xAk hq);have ql:q.1<↑(((eE rs F r (M.getD k 0)).take j).foldl cJ M):=by rw[hb.l];omega
    have ft:=aC5 (f:=cJ) M hq;have e1:=wL ql;have pe:iZ (S++[qz ((((eE rs F r (M.getD k 0)).take j).foldl cJ M).map nD)]) (.loc ↑S) (.d (.int (q.1:Nat))) (.d (.int (((((eE rs F r (M.getD k 0)).take j).foldl cJ M).getD q.1 0|||q.2:Nat):Int)))=qz (S++[qz ((cJ (((eE rs F r (M.getD k 0)).take j).foldl cJ M) q).map nD)]):=sV S _ q.1 _ ql;refine⟨[qz (.d (rs<*o)),qz (.d (F*>Ft.d)),qz (.loc ↑S),c3,(k:),c5,c6,((q.1:Nat):),((q.2:Nat):)],[qz (.d (rs<*o)),qz (.d (F*>Ft.d)),qz (.loc ↑S),c3,(k:),c5,c6,((q.1:Nat):),((q.2:Nat):)],S++[qz ((cJ (((eE rs F r (M.getD k 0)).take j).foldl cJ M) q).map nD)],rfl,?_,_,_,?_,rfl,by rw[ft]⟩
    ·erw[1,aAD,sP,e1,fG,jR,pe]
    ·rw[ft];exact aBC hb () q2)
 rw[yAc,yAg,<- eR] at hb p1;exact⟨c7',c8',hb,p1⟩
def aDE{rs:List Rw}{F:List Ft}(d:Nat)(p:Prg rs)(hF:↑F=↑rs)(aE:List Nat)(ho:∀ o∈aE,o<↑rs)(S:aC):Bd rs (fQ rs F aE)/\cl fns (d+7) 20 [.d (rs<*(aE*>nD)),.d (F*>Ft.d)] S=qz (.d (.tuple ((fQ rs F aE).map nD)),S):=by
 have pl:=p.l;have lR:iL [(rs*>Rw.d)]=qz (.int ↑rs):=by
  show qz (yAn ((↑(rs.map Rw.d):Nat):Int))=_;rw[yAc]
 let(env1,S1,p1,c3,hb0,rfl,rfl):=kY (t:=.one 3) (fi:=lv (d<$>6) aDi) (fb:=xs (d<$>6) aDk) (env:=[qz (.d (rs<*(aE*>nD))),qz (.d (F*>Ft.d)),qz (.loc ↑S),qx,qx,qz (.d (rs*>Rw.d)),qz (.d (aE*>nD)),qx,qx]) (S:=S++[qz ((yAe ↑rs 0).map nD)]) (S1:=S++[qz ((yAe ↑rs 0).map nD)]) (ds:=aE.map nD)
  (λ j env S'=>∃ c3:Option W,Bd rs ((aE.take j).foldl (fD rs) (yAe ↑rs 0))/\env=[qz (.d (rs<*(aE*>nD))),qz (.d (F*>Ft.d)),qz (.loc ↑S),c3,qx,qz (.d (rs*>Rw.d)),qz (.d (aE*>nD)),qx,qx]/\S'=S++[qz (((aE.take j).foldl (fD rs) (yAe ↑rs 0)).map nD)])
  (by erw[20,aDi,eV]) ⟨qx,aDJ,rfl,rfl⟩ (by
    rintro j dd env S' hd ⟨c3,hb,rfl,rfl⟩;rw[yAd] at hd;let(q,hq,rfl):=Option.map_eq_some_iff.mp hd;have hql:=ho q (xAk hq);have hr:rs[q]?=qz rs[q]:=yAa hql;have ft:=aC5 (f:=fD rs) (yAe ↑rs 0) hq;have wo:=wR (d+5) q hr (aE*>nD) (S++[qz (((aE.take j).foldl (fD rs) (yAe ↑rs 0)).map nD)]);have fu:=dF (d+5) rs[q].w (by have:=(p.ws q _ hr).2;omega) (S++[qz (((aE.take j).foldl (fD rs) (yAe ↑rs 0)).map nD)]);have pe:iZ (S++[qz (((aE.take j).foldl (fD rs) (yAe ↑rs 0)).map nD)]) (.loc ↑S) (.d (.int q)) (.d (.int ((2^rs[q].w-1:Nat):Int)))=qz (S++[qz ((fD rs ((aE.take j).foldl (fD rs) (yAe ↑rs 0)) q).map nD)]):=by
     rw[aHm hr];exact sV S _ q _ (by rw[hb.l];exact hql)
    refine⟨[qz (.d (rs<*(aE*>nD))),qz (.d (F*>Ft.d)),qz (.loc ↑S),(q:),qx,qz (.d (rs*>Rw.d)),qz (.d (aE*>nD)),qx,qx],[qz (.d (rs<*(aE*>nD))),qz (.d (F*>Ft.d)),qz (.loc ↑S),(q:),qx,qz (.d (rs*>Rw.d)),qz (.d (aE*>nD)),qx,qx],S++[qz ((fD rs ((aE.take j).foldl (fD rs) (yAe ↑rs 0)) q).map nD)],rfl,?_,_,?_,rfl,by rw[ft]⟩
    ·erw[1,aDk,wo,fu,jR,pe]
    ·rw[ft];exact aDV hb hql)
 rw[yAc,yAg] at hb0 p1;have un1:rZ .USub (.int 1)=qz (.int (-1)):=rfl;have i3:lv (d<$>6) aAE [qz (.d (rs<*(aE*>nD))),qz (.d (F*>Ft.d)),qz (.loc ↑S),c3,qx,qz (.d (rs*>Rw.d)),qz (.d (aE*>nD)),qx,qx] (S++[qz ((pM rs aE).map nD)])=qz (mG (((↑rs:Nat):Int)-1) ↑rs,S++[qz ((pM rs aE).map nD)]):=by
  have hc:(-(2^62)<=((↑rs:Nat):Int)-1/\((↑rs:Nat):Int)-1<2^62 /\ -(2^62)<=(-1:Int)/\(-1:Int)<2^62)/\(-1:Int) = -1:=⟨⟨by omega,by omega,by decide,by decide⟩,rfl⟩;have hn:(((↑rs:Nat):Int)-1-(-1)).toNat=↑rs:=();erw[20,aAE,aBK,lR,cP,un1];rw[if_pos ⟨hc.1,True.intro⟩,hn]
 let(env2,S2,p2,c4,c7,c8,M,hb,hM,rfl,rfl):=kY (t:=.one 4) (fi:=lv (d<$>6) aAE) (fb:=xs (d<$>6) aDl) (env:=[qz (.d (rs<*(aE*>nD))),qz (.d (F*>Ft.d)),qz (.loc ↑S),c3,qx,qz (.d (rs*>Rw.d)),qz (.d (aE*>nD)),qx,qx]) (S:=S++[qz ((pM rs aE).map nD)]) (S1:=S++[qz ((pM rs aE).map nD)]) (ds:=mG (((↑rs:Nat):Int)-1) ↑rs)
  (λ j env S'=>∃ (c4 c7 c8:Option W) (M:List Nat),Bd rs M/\uD rs F (↑rs-j) M=fQ rs F aE/\env=[qz (.d (rs<*(aE*>nD))),qz (.d (F*>Ft.d)),qz (.loc ↑S),c3,c4,qz (.d (rs*>Rw.d)),qz (.d (aE*>nD)),c7,c8]/\S'=S++[qz (M.map nD)])
  i3 ⟨qx,qx,qx,pM rs aE,hb0,rfl,rfl,rfl⟩ (by
   rintro j dd env S' hd ⟨c4,c7,c8,M,hb,hM,rfl,rfl⟩;have hj:j<↑rs:=by
    have:=(gIm hd).1;rw[sF] at this;exact this
   rw[aC7 _ _ j hj] at hd;have ek:((↑rs:Nat):Int)-1-(j:Int)=((↑rs-1-j:Nat):Int):=cs1 hj;rw[ek] at hd;cases hd;have hr:rs[↑rs-1-j]?=qz rs[↑rs-1-j]:=yAa ();let(c7',c8',hb',e):=aPh d p hr hF (aE*>nD) S hb c3 (qz (.d (rs*>Rw.d))) (qz (.d (aE*>nD))) c7 c8;refine⟨[qz (.d (rs<*(aE*>nD))),qz (.d (F*>Ft.d)),qz (.loc ↑S),c3,(((↑rs-1-j:Nat):Int):),qz (.d (rs*>Rw.d)),qz (.d (aE*>nD)),c7,c8],[qz (.d (rs<*(aE*>nD))),qz (.d (F*>Ft.d)),qz (.loc ↑S),c3,(((↑rs-1-j:Nat):Int):),qz (.d (rs*>Rw.d)),qz (.d (aE*>nD)),c7',c8'],S++[qz ((iJ rs F M (↑rs-1-j)).map nD)],rfl,?_,_,_,_,_,hb',?_,rfl,rfl⟩
   ·erw[1,aDl,e]
   ·rw[<- hM,show ↑rs-j=(↑rs-1-j)+1 by omega]
    show _=uD rs F (↑rs-1-j) (iJ rs F M (↑rs-1-j));rw[show ↑rs-(j+1)=↑rs-1-j by omega])
 rw[sF,yAx] at hM;have hM':M=fQ rs F aE:=hM;subst hM';refine⟨hb,?_⟩;have tk1:∀ x,yEf ↑S (S++[x])=S:=λ x=>List.take_left
 have q0:xs (d<$>6) (bR gT) [qz (.d (rs<*(aE*>nD))),qz (.d (F*>Ft.d)),qx,qx,qx,qx,qx,qx,qx] S=qz (.nx [qz (.d (rs<*(aE*>nD))),qz (.d (F*>Ft.d)),qx,qx,qx,qz (.d (rs*>Rw.d)),qz (.d (aE*>nD)),qx,qx],S):=by
  erw[2,bR,gT,True]
 have q1:xs (d<$>6) (bR (aT gT)) [qz (.d (rs<*(aE*>nD))),qz (.d (F*>Ft.d)),qx,qx,qx,qz (.d (rs*>Rw.d)),qz (.d (aE*>nD)),qx,qx] S=qz (.nx [qz (.d (rs<*(aE*>nD))),qz (.d (F*>Ft.d)),qz (.loc ↑S),qx,qx,qz (.d (rs*>Rw.d)),qz (.d (aE*>nD)),qx,qx],S++[qz ((yAe ↑rs 0).map nD)]):=by
  simp only[bR,aT,gT,aBe,aEF,aJN,jS,hU];rw[aWB (n:=↑rs) (by erw[20,True]) (by erw[20,lR]) ()];erw[0,True]
 have e:gT=.seq (bR gT) (.seq (bR (aT gT)) (.seq (bR (aT (aT gT))) (.seq (bR (aT (aT (aT gT)))) (aT (aT (aT (aT gT))))))):=rfl;have p1':xs (d<$>6) (bR (aT (aT gT))) [qz (.d (rs<*(aE*>nD))),qz (.d (F*>Ft.d)),qz (.loc ↑S),qx,qx,qz (.d (rs*>Rw.d)),qz (.d (aE*>nD)),qx,qx] (S++[qz ((yAe ↑rs 0).map nD)])=qz (.nx [qz (.d (rs<*(aE*>nD))),qz (.d (F*>Ft.d)),qz (.loc ↑S),c3,qx,qz (.d (rs*>Rw.d)),qz (.d (aE*>nD)),qx,qx],S++[qz ((pM rs aE).map nD)]):=p1;have p2':xs (d<$>6) (bR (aT (aT (aT gT)))) [qz (.d (rs<*(aE*>nD))),qz (.d (F*>Ft.d)),qz (.loc ↑S),c3,qx,qz (.d (rs*>Rw.d)),qz (.d (aE*>nD)),qx,qx] (S++[qz ((pM rs aE).map nD)])=qz (.nx [qz (.d (rs<*(aE*>nD))),qz (.d (F*>Ft.d)),qz (.loc ↑S),c3,c4,qz (.d (rs*>Rw.d)),qz (.d (aE*>nD)),c7,c8],S++[qz ((fQ rs F aE).map nD)]):=p2;have fl:xs (d<$>6) gT [qz (.d (rs<*(aE*>nD))),qz (.d (F*>Ft.d)),qx,qx,qx,qx,qx,qx,qx] S=qz (.rt (.d (.tuple ((fQ rs F aE).map nD))),S++[qz ((fQ rs F aE).map nD)]):=by
  rw[e,dX q0,dX q1,dX p1',dX p2'];erw[2,aT,gT,sP,kC,kB]
 rw[aN rfl (d+6) _ S rfl];show((xs (d<$>6) gT [qz (.d (rs<*(aE*>nD))),qz (.d (F*>Ft.d)),qx,qx,qx,qx,qx,qx,qx] S).bind _)=_;rw[fl];simp only[oB,lH,tk1]
def aIA{n j:Nat}{dd:D}(h:((yBm n).map λ k=>yAn ((k:Nat):Int))[j]?=qz dd):j<n/\dd=.int j:=by
 have hj:j<n:=by
  have:=(gIm h).1;simpa using this
 rw[yAd,List.getElem?_range hj] at h;cases h;exact⟨hj,rfl⟩
def Sb(a b:Nat):Prop:=∀ i,a[i]! =true->b[i]! =true
def Sb.refl(a:Nat):Sb a a:=λ _ h=>h
def aIR:∀ (l:List (Nat×Nat)) (M:List Nat) (i:Nat),(∀ q∈l,q.1≠i)->(l.foldl cJ M).getD i 0=M.getD i 0
 |[],_,_,_=>rfl
 |q::l,M,i,h=>by
   show(l.foldl cJ (cJ M q)).getD i 0=_;rw[aIR l (cJ M q) i λ x hx=>h x (xAf _ hx)];unfold cJ;exact vF (h q xAc)
def aAY{rs:List Rw}(hr:rs[k]?=qz r):iJ rs F M k=(eE rs F r (M.getD k 0)).foldl cJ M:=by unfold iJ;rw[hr]
def aRq{rs:List Rw}(p:Prg rs)(hk:k<↑rs)(h:Bd rs M):Bd rs (iJ rs F M k):=by have hr:rs[k]?=qz rs[k]:=yAa hk;rw[aAY hr];exact aKr p hr (h.lt k _ hr) _ M (λ q hq=>hq) h
def aQv{rs:List Rw}(p:Prg rs)(h:Bd rs M)(hi:k<=i)(hk:k<↑rs):(iJ rs F M k).getD i 0=M.getD i 0:=by
 have hr:rs[k]?=qz rs[k]:=yAa hk;rw[aAY hr];refine aIR _ M i λ q hq=>?_
 have:=(aBo p hr (h.lt k _ hr) q hq).1;omega
def aNt(n b:Nat):((((n/2^b)&&&1:Nat):Int)==1)=n[b]!:=by
 rw[qB,Nat.and_one_is_mod,yFr];cases h:decide (n/2^b%2=1) with
 |true=>rw[oqT h];rfl|false=>rw[beq_eq_false_iff_ne];exact of_decide_eq_false h
inductive Yw where
 |cut|nought|sign
 deriving DecidableEq
def Yw.s:Yw->Str
 |.cut => "cut" |.nought => "nought" |.sign => "sign"
def aEw(a b:Yw):aW .Eq (.str a.s) (.str b.s)=qz (.bool (decide (a=b))):=by cases a<;>cases b<;>kernel_rfl
def lb(wd:Yw)(kept:Nat)(f:Ft)(m w:Nat):Bool:=(m/2^kept==0)||(match wd with
 |.cut=>false|.nought=>jO (m/2^kept) (f.N/2^kept)==0
 | .sign=>m[(kept-1)]!&&decide (w<kept+f.A))
def yD:Option (Yw×Nat)->D
 |none=>.none|some (y,k)=>.tuple [.str y.s,.int k]
def aJy(d:Nat)(wd:Yw)(kept:Nat)(f:Ft)(m w:Nat)(hk:1<=kept)(hkw:kept<=w)(S:aC):cl fns (d+1) 49 [.d (.tuple [.str wd.s,.int kept]),.d f.d,.d (.int m),.d (.int w)] S=qz (.d (.bool (lb wd kept f m w)),S):=by
 have c1:aW .Eq (.str wd.s) (.str "nought")=qz (.bool (decide (wd=.nought))):=aEw wd .nought;have c2:aW .Eq (.str wd.s) (.str "sign")=qz (.bool (decide (wd=.sign))):=aEw wd .sign;have ek:(kept:Int)-1=((kept-1:Nat):Int):=();have el:decide ((w:Int)-(kept:Int)+1<=(f.A:Int))=decide (w<kept+f.A):=by
  rw[decide_eq_decide];omega
 rw[aN rfl d _ S rfl];unfold lb;cases q:(m/2^kept==0) with
 |true=>erw[20,fH,sO,kR,bP,eO,q,Bool.true_or]
 |false=>
   rw[Bool.false_or];cases wd with
   |cut=>
     rw[dqF (·)] at c1 c2;erw[11,sO,kR,bP,eO,q,c1,c2]
   |nought=>
     rw[dqT rfl] at c1;erw[11,sO,kR,bP,eO,q,c1,iA,aJg,aIV]
   |sign=>
     rw[dqF (·)] at c1;rw[dqT rfl] at c2;cases q2:m[(kept-1)]! with
     |true=>erw[20,fH,sO,kR,bP,eO,q,c1,c2,cP,ek,aIW,aNt,q2,cV,aEt,jP,el,yBc]|false=>erw[20,fH,sO,kR,bP,eO,q,c1,c2,cP,ek,aIW,aNt,q2,yBu]
def rS(p:Nat->Bool):Nat->Nat->Nat
 |0,i=>i
 |n+1,i=>if p i=true then i else rS p n (i+1)
def aJv(p:Nat->Bool):∀ n i,p (i+n)=true->i<=rS p n i/\rS p n i<=i+n/\p (rS p n i)=true/\∀ j,i<=j->j<rS p n i->p j=false
 |0,i,h=>⟨yAb _,yAb _,h,λ j h1 h2=>absurd h1 (yHq h2)⟩
 |n+1,i,h=>by
   unfold rS;by_cases c:p i=true
   ·rw[if_pos c];exact⟨yAb _,by omega,c,λ j h1 h2=>absurd h1 (yHq h2)⟩
   ·rw[if_neg c];let(h1,h2,h3,h4):=aJv p n (i+1) (by rw[show i+1+n=i+(n+1) by omega];exact h);refine⟨by omega,by omega,h3,λ j h5 h6=>?_⟩;by_cases e:i=j
    ·subst e;exact Bool.eq_false_iff.mpr c
    ·exact h4 j () h6
def lw(y:Yw)(f:Ft)(m w:Nat):Nat:=rS (λ k=>lb y k f m w) (w-1) 1
def aT4(h:m<2^w):lb y w f m w=true:=by unfold lb;rw[Nat.div_eq_of_lt h];rfl
def aL7(y:Yw)(f:Ft)(hw:1<=w)(h:m<2^w):1<=lw y f m w/\lw y f m w<=w/\lb y (lw y f m w) f m w=true/\∀ j,1<=j->j<lw y f m w->lb y j f m w=false:=by
 let(h1,h2,h3,h4):=aJv (λ k=>lb y k f m w) (w-1) 1 (by
  show lb y (1+(w-1)) f m w=true;rw[show 1+(w-1)=w by omega]
  exact aT4 h)
 exact⟨h1,by unfold lw;omega,h3,h4⟩
def aDe:∀ l:List Nat,kU (l.map nD)=qz (l.map λ n=>((n:Nat):Int))
 |[]=>rfl
 |a::r=>by
   have ih:=aDe r;simp only[yAh,nD,kU];rw[show kU (r.map nD)=_ from ih,oB]
def aIm:∀ (l:List Nat) (a m:Nat),(m=a\/m∈l)->m<=a->(∀ b∈l,m<=b)->(l.map λ n=>((n:Nat):Int)).foldl min ((a:Nat):Int)=((m:Nat):Int)
 |[],a,m,h,_,_=>by
   rcases h with rfl|h
   ·rfl
   ·cases h
 |b::l,a,m,h,h1,h2=>by
   rw[yAh,yBb,show min (a:Int) (b:Int)=((min a b:Nat):Int) by omega];have hb:=h2 b xAc;refine aIm l (min a b) m ?_ () λ c hc=>h2 c (xAf _ hc)
   rcases h with rfl|h
   ·exact .inl ()
   ·rcases List.mem_cons.mp h with rfl|h
    ·exact .inl ()
    ·exact .inr h
def aKL{l:List Nat}{m:Nat}(h:m∈l)(h2:∀ b∈l,m<=b):gK [.list (l.map nD)]=qz (.int m):=by
 have e:=aDe l;cases l with
 |nil=>cases h
 |cons a r=>
   have f:=aIm r a m (List.mem_cons.mp h) (h2 a xAc) λ b hb=>h2 b (xAf _ hb)
   show(match kU ((a::r).map nD) with
    |some (i::r)=>qz (yAn (r.foldl min i))
    | _=>qx)=_
   rw[e,yAh];simp only[];rw[f]
def aPG(d:Nat)(y:Yw)(f:Ft)(m w:Nat)(cB:1<=w)(hw:w<=64)(hm:m<2^w)(S:aC):cl fns (d+2) 50 [.d (.str y.s),.d f.d,.d (.int m),.d (.int w)] S=qz (.d (.int (lw y f m w:Nat)),S):=by
 have ea:(w:Int)+1=((w+1:Nat):Int):=rfl;have hc:lv (d<$>1) aGj [qz (.d (.str y.s)),qz (.d f.d),(m:),(w:),qx] S=qz ((((yBm w).filter λ k=>lb y (1+k) f m w).map λ k=>nD (1+k)),S):=by
  refine @aH7 _ _ _ _ _ (lv (d<$>1) (.rng2 (.int 1) (.bin .Add (.var 3) (.int 1)))) (tv (d<$>1) (.call 49 (.cons (.tup (.cons (.var 0) (.cons (.var 4) .nil))) (.cons (.var 1) (.cons (.var 2) (.cons (.var 3) .nil)))))) (ev (d<$>1) (.var 4)) (λ k=>yAn ((1+k:Nat):Int)) (λ k=>nD (1+k)) (λ k=>lb y (1+k) f m w) (yBm w) ?_ (by rw[zq,yEr];omega) λ k hk=>?_
  ·simp only[rB,qK,qJ,qQ,qW,qM];have:=@aOu (ev (d<$>1) (.int 1)) (ev (d<$>1) (.bin .Add (.var 3) (.int 1))) [qz (.d (.str y.s)),qz (.d f.d),(m:),(w:),qx] S S S 1 (w+1) rfl (by erw[20,cV,ea]) () ();rw[yHa] at this;exact this
  ·have hk:=List.mem_range.mp hk;have l1:=λ S'=>aJy d y (1+k) f m w () () S'
   refine⟨[qz (.d (.str y.s)),qz (.d f.d),(m:),(w:),(((1+k:Nat):Int):)],rfl,λ S'=>?_,λ _ S'=>?_⟩
   ·erw[0,l1]
   ·erw[0,True]
 let(h1,h2,h3,h4):=aL7 y f cB hm;have mn:gK [.list (((yBm w).filter λ k=>lb y (1+k) f m w).map λ k=>nD (1+k))]=qz (.int (lw y f m w:Nat)):=by
  rw[show(((yBm w).filter λ k=>lb y (1+k) f m w).map λ k=>nD (1+k))=(((yBm w).filter λ k=>lb y (1+k) f m w).map λ k=>1+k).map nD by rw[yBd];rfl];refine aKL (List.mem_map.mpr ⟨lw y f m w-1,List.mem_filter.mpr ⟨List.mem_range.mpr (),?_⟩,by omega⟩) λ b hb=>?_
  ·show lb y (1+(lw y f m w-1)) f m w=true;rw[show 1+(lw y f m w-1)=lw y f m w by omega];exact h3
  ·let(k,hk,rfl):=List.mem_map.mp hb;refine yEy λ c=>?_
   have:=(List.mem_filter.mp hk).2;rw[h4 (1+k) () c] at this;cases this
 rw[aN rfl (d+1) _ S rfl];erw[11,aGF,hc,mn]
def dN(f:Ft)(m w:Nat):Nat:=min (lw .cut f m w) (min (lw .nought f m w) (lw .sign f m w))
def oC(f:Ft)(m w:Nat):Yw:=if lw .cut f m w=dN f m w then .cut else if lw .nought f m w=dN f m w then .nought else .sign
def aJS:yAk (wI.map Tv.d)=.tuple [.str Yw.cut.s,.str Yw.nought.s,.str Yw.sign.s]:=rfl
def aZT(a b c m:Nat)(h:m=a\/m=b\/m=c):([a,b,c].map λ n=>((n:Nat):Int)).idxOf ((m:Nat):Int)=if a=m then 0 else if b=m then 1 else 2:=by
 have e:∀ x y:Nat,(((x:Nat):Int)==((y:Nat):Int))=decide (x=y):=λ x y=>by
  rw[yDf,beq_iff_eq,decide_eq_true_eq];omega
 simp only[yAh,yDn,List.idxOf_cons,e];by_cases h1:a=m
 ·rw[dqT h1,if_pos h1];rfl
 ·rw[dqF h1,if_neg h1];by_cases h2:b=m
  ·rw[dqT h2,if_pos h2];rfl
  ·rw[dqF h2,if_neg h2];by_cases h3:c=m
   ·rw[dqT h3];rfl
   ·omega
def aSX(S:aC)(xs:List D)(k:Int):yR S (.d (.list xs)) (.d (.int k))=(kU xs).bind λ ns=>if k∈ns then qz (.d (.int ((ns.idxOf k:Nat):Int)),S) else qx:=rfl
def aQG(d:Nat)(f:Ft)(m w:Nat)(cB:1<=w)(hw:w<=64)(hm:m<2^w)(S:aC):cl fns (d+3) 51 [.d f.d,.d (.int m),.d (.int w)] S=qz (.d (yD (qz (oC f m w,dN f m w))),S):=by
 have hc:lv (d<$>2) uX [qz (.d f.d),(m:),(w:),qx,qx,qx] S=qz ([Yw.cut,.nought,.sign].map λ y=>nD (lw y f m w),S):=by
  refine mY (fi:=lv (d<$>2) (.it (.con "WORDS" wI))) (fe:=ev (d<$>2) (.call 50 (.cons (.var 5) (.cons (.var 0) (.cons (.var 1) (.cons (.var 2) .nil)))))) (λ y:Yw=>yDc y.s) (λ y=>nD (lw y f m w)) [Yw.cut,.nought,.sign] ?_ (by rw[zq];show 3<=16777216;decide) λ y _=>?_
  ·erw[20,aJS,eV]
  ·have l1:=λ S'=>aPG d y f m w cB hw hm S'
   refine⟨[qz (.d f.d),(m:),(w:),qx,qx,qz (.d (.str y.s))],rfl,λ S'=>?_⟩;show _=qz (W.d (yAn ((lw y f m w:Nat):Int)),S');erw[20,l1]
 have hc':lv (d<$>2) uX [qz (.d f.d),(m:),(w:),qx,qx,qx] S=qz ([lw .cut f m w,lw .nought f m w,lw .sign f m w].map nD,S):=hc;have mi:dN f m w=lw .cut f m w\/dN f m w=lw .nought f m w\/dN f m w=lw .sign f m w:=by unfold dN;omega
 have mn:gK [.list ([lw .cut f m w,lw .nought f m w,lw .sign f m w].map nD)]=qz (.int (dN f m w:Nat)):=by
  refine aKL (by simp only[yCa,yCe,or_false];exact mi) λ b hb=>?_
  simp only[yCa,yCe,or_false] at hb;unfold dN;omega
 have ix:yR S (.d (.list ([lw .cut f m w,lw .nought f m w,lw .sign f m w].map nD))) (.d (.int (dN f m w:Nat)))=qz (.d (.int ((if lw .cut f m w=dN f m w then 0 else if lw .nought f m w=dN f m w then 1 else 2:Nat):Int)),S):=by
  rw[aSX,aDe,oB,if_pos ?_,aZT _ _ _ _ mi];simp only[yAh,yDn,yCa,yCe,or_false];omega
 have wd:aH (.tuple [.str Yw.cut.s,.str Yw.nought.s,.str Yw.sign.s]) (.int ((if lw .cut f m w=dN f m w then 0 else if lw .nought f m w=dN f m w then 1 else 2:Nat):Int))=qz (.str (oC f m w).s):=by
  unfold oC;split
  ·rfl
  ·split<;>rfl
 generalize hL:yHm ([lw .cut f m w,lw .nought f m w,lw .sign f m w].map nD)=L at mn ix;generalize (if lw .cut f m w=dN f m w then 0 else if lw .nought f m w=dN f m w then 1 else 2:Nat)=j at ix wd;have fz:xs (d<$>2) (.setC false 3 uX) [qz (.d f.d),(m:),(w:),qx,qx,qx] S=qz (.nx [qz (.d f.d),(m:),(w:),qz (.d L),qx,qx],S):=by
  rw[<- hL];erw[20,hc']
 have e:sG=.seq (.setC false 3 uX) (aT sG):=rfl;have tl:xs (d<$>2) (aT sG) [qz (.d f.d),(m:),(w:),qz (.d L),qx,qx] S=qz (.rt (.d (yD (qz (oC f m w,dN f m w)))),S):=by
  erw[20,aT,sG,mn,aJS,aB7,ix,wd];rfl
 refine fF (S1:=S) rfl (d+2) rfl rfl yAg ?_;show xs (d<$>2) sG [qz (.d f.d),(m:),(w:),qx,qx,qx] S=_;rw[e,dX fz,tl]
def iC(r:Rw)(f:Ft)(m:Nat):Option (Yw×Nat):=if r.wd=.in then qz (.cut,r.w) else if m=0 then qx else qz (oC f m r.w,dN f m r.w)
def tH(r:Rw):aH r.d (.int 0)=qz (.str r.wd.s):=@cW (.str r.wd.s::nD r.w::r.args.map nD) 0 _ rfl
def aQJ(d:Nat)(r:Rw)(f:Ft)(m:Nat)(cB:1<=r.w)(hw:r.w<=64)(hm:m<2^r.w)(S:aC):cl fns (d+4) 52 [.d r.d,.d f.d,.d (.int m)] S=qz (.d (yD (iC r f m)),S):=by
 have c1:aW .Eq (.str r.wd.s) (.str "in")=qz (.bool (decide (r.wd=.in))):=cG r.wd .in;have ls:=aQG d f m r.w cB hw hm S;have rw0:=tH r;have rw1:=dD r;unfold iC;rw[aN rfl (d+3) _ S rfl];by_cases c:r.wd=.in
 ·rw[dqT c] at c1;rw[if_pos c];erw[11,aAL,rw0,c1,rw1]
 ·rw[dqF c] at c1;rw[if_neg c];by_cases z:m=0
  ·have dz:(m==0)=true:=by rw[beq_iff_eq];exact z
   rw[if_pos z];erw[11,aAL,rw0,c1,bP,eO,dz]
  ·have dz:(m==0)=false:=by rw[beq_eq_false_iff_ne];exact z
   rw[if_neg z];erw[11,aAL,rw0,c1,bP,eO,dz,rw1,ls]
def z3:List Rw->List Ft->List Nat->List (Rw×Ft×Nat)
 |r::rs,f::F,m::M=>(r,f,m)::z3 rs F M|_,_,_=>[]
def aM9:∀ (rs:List Rw) (F:List Ft) (M:List Nat),gG (rs.map Rw.d) (F.map Ft.d) (M.map nD)=(z3 rs F M).map λ t=>yAk [t.1.d,t.2.1.d,nD t.2.2]
 |[],_,_=>rfl|_::_,[],_=>rfl|_::_,_::_,[]=>rfl
 |r::rs,f::F,m::M=>by
   have ih:=aM9 rs F M;simp only[yAh,gG,z3,ih]
def aEv:∀ (rs:List Rw) (F:List Ft) (M:List Nat) (k:Nat) (t:Rw×Ft×Nat),(z3 rs F M)[k]?=qz t ↔ rs[k]?=qz t.1/\F[k]?=qz t.2.1/\M[k]?=qz t.2.2
 |[],_,_,k,t=>by simp[z3]|_::_,[],_,k,t=>by simp[z3]|_::_,_::_,[],k,t=>by simp[z3]|r::rs,f::F,m::M,0,(a,b,c)=>by simp[z3]
 |r::rs,f::F,m::M,k+1,t=>by
   have ih:=aEv rs F M k t;simpa [z3] using ih
def aEo:∀ (rs:List Rw) (F:List Ft) (M:List Nat),↑F=↑rs->↑M=↑rs->↑(z3 rs F M)=↑rs
 |[],_,_,_,_=>rfl|_::_,[],_,h,_=>by cases h|_::_,_::_,[],_,h=>by cases h
 |r::rs,f::F,m::M,h1,h2=>by
   have ih:=aEo rs F M (Nat.succ.inj h1) (Nat.succ.inj h2);simp only[z3,yAl,ih]
def eU(rs:List Rw)(F:List Ft)(M:List Nat):List (Option (Yw×Nat)):=(z3 rs F M).map λ t=>iC t.1 t.2.1 t.2.2
def aHC{rs:List Rw}{F:List Ft}(d:Nat)(p:Prg rs)(hF:↑F=↑rs)(h:Bd rs M)(o:D)(S:aC):cl fns (d+5) 53 [.d (rs<*o),.d (F*>Ft.d),.d (M*>nD)] S=qz (.d (.tuple ((eU rs F M).map yD)),S):=by
 have pl:=p.l;have zl:=aEo rs F M hF h.l;have i0:aH (rs<*o) (.int 0)=qz (rs*>Rw.d):=rfl;have hz:=aM9 rs F M;have hc:lv (d<$>4) aGi [qz (.d (rs<*o)),qz (.d (F*>Ft.d)),qz (.d (M*>nD)),qx,qx,qx] S=qz ((eU rs F M).map yD,S):=by
  unfold eU;rw[yBd];refine mY (fi:=lv (d<$>4) (.zip3 (.ix (.var 0) (.int 0)) (.var 1) (.var 2))) (fe:=ev (d<$>4) (.call 52 (.cons (.var 3) (.cons (.var 4) (.cons (.var 5) .nil))))) (λ t:Rw×Ft×Nat=>yAk [t.1.d,t.2.1.d,nD t.2.2]) (yD ∘ λ t=>iC t.1 t.2.1 t.2.2) (z3 rs F M) ?_ (by rw[zq];omega) λ t ht=>?_
  ·erw[0,i0,hz]
  ·let(k,hk):=yGg ht;let(h1,h2,h3):=(aEv rs F M k t).mp hk;let(r,f,m):=t;have hw:=p.ws k r h1;have hm:m<2^r.w:=by
    have:=h.lt k r h1;rw[xAg,h3] at this;exact this
   have e1:=λ S'=>aQJ d r f m hw.1 hw.2 hm S'
   refine⟨[qz (.d (rs<*o)),qz (.d (F*>Ft.d)),qz (.d (M*>nD)),qz (.d r.d),qz (.d f.d),(m:)],rfl,λ S'=>?_⟩;show _=qz (W.d (yD (iC r f m)),S');erw[0,e1]
 rw[aN rfl (d+4) _ S rfl];erw[11,aGA,hc,kC,kB]
def aIS{rs:List Rw}{F:List Ft}(d:Nat)(p:Prg rs)(hF:↑F=↑rs)(h:Bd rs M)(o:D)(S:aC):cl fns (d+6) 54 [.d (rs<*o),.d (F*>Ft.d),.d (M*>nD)] S=qz (.d (.tuple ((eU rs F M).map yD)),S):=by have e:=aHC d p hF h o S;rw[aN rfl (d+5) _ S rfl];erw[11,aKy,e]
def aJk{rs:List Rw}{F:List Ft}{M:List Nat}(hF:↑F=↑rs)(hM:↑M=↑rs):↑(eU rs F M)=↑rs:=by unfold eU;rw[yAc,aEo rs F M hF hM]
def sS{rs:List Rw}{F:List Ft}{M:List Nat}(hr:rs[k]?=qz r)(hF:↑F=↑rs)(hM:↑M=↑rs):(eU rs F M)[k]?=qz (iC r (f0 F k) (M.getD k 0)):=by have hk:k<↑rs:=(gIm hr).1;unfold eU;rw[yAd,(aEv rs F M k (r,f0 F k,M.getD k 0)).mpr ⟨hr,oV (),aDH ()⟩];rfl
def yE(a b:Option (Yw×Nat)):Bool:=match a,b with|none,qx=>true|some (x,k),qz (y,l)=>decide (x=y)&&(k==l)|_,_=>false
def aWN(a b:Option (Yw×Nat)):yE a b=decide (a=b):=by
 rcases a with _|⟨x,k⟩<;>rcases b with _|⟨y,l⟩
 ·rfl
 ·rfl
 ·rfl
 ·show(decide (x=y)&&(k==l))=_;rw[yDf,yAy,decide_eq_true_eq,beq_iff_eq,decide_eq_true_eq,Option.some.injEq,Prod.mk.injEq]
def aYp(x y:Yw):(x.s==y.s)=decide (x=y):=by cases x<;>cases y<;>kernel_rfl
def aWO(a b:Option (Yw×Nat)):yDu (yD a) (yD b)=decide (a=b):=by
 rw[<- aWN];rcases a with _|⟨x,k⟩<;>rcases b with _|⟨y,l⟩
 ·rfl
 ·rfl
 ·rfl
 ·simp only[yD,yDu,PyData.eqvAll,yE,aYp,yCc];congr 1;rw[yDf,beq_iff_eq,beq_iff_eq];omega
def aYN(a:Option (Yw×Nat)):(yD a).canLay0=true:=by
 rcases a with _|⟨x,k⟩
 ·rfl
 ·cases x<;>kernel_rfl
def aX8(a:Option (Yw×Nat)):(yD a).depth<=1:=by
 rcases a with _|⟨x,k⟩
 ·exact yBv _
 ·simp[yD,PyData.depth,yEn]
def aCj(a:Option (Yw×Nat)):aW .Is (yD a) .none=qz (.bool a.isNone):=by rcases a with _|⟨x,k⟩<;>rfl
def aSc(a:Option (Yw×Nat)):aW .IsNot (yD a) .none=qz (.bool a.isSome):=by rcases a with _|⟨x,k⟩<;>rfl
def rt(r:Rw)(f:Ft)(m:Nat)(y:Option (Yw×Nat)):Bool:=if r.wd=.in then decide (y=qz (.cut,r.w)) else if m=0 then y.isNone else match y with|none=>false|some (a,k)=>lb a k f m r.w
def uT(w:Nat)(y:Option (Yw×Nat)):Prop:=∀ a k,y=qz (a,k)->1<=k/\k<=w
structure Yst(rs:List Rw)(Y:List (Option (Yw×Nat))):Prop where
 l:↑Y=↑rs
 ok:∀ (k:Nat) (r:Rw) (y:Option (Yw×Nat)),rs[k]?=qz r->Y[k]?=qz y->uT r.w y
def aUf(f:Ft)(m w:Nat):lw (oC f m w) f m w=dN f m w:=by
 unfold oC;by_cases h1:lw .cut f m w=dN f m w
 ·rw[if_pos h1];exact h1
 ·rw[if_neg h1];by_cases h2:lw .nought f m w=dN f m w
  ·rw[if_pos h2];exact h2
  ·rw[if_neg h2];unfold dN at h1 h2 ⊢;omega
def aWk(f:Ft)(hw:1<=w)(h:m<2^w):1<=dN f m w/\dN f m w<=w/\lb (oC f m w) (dN f m w) f m w=true:=by have:=aL7 (oC f m w) f hw h;rw[aUf] at this;exact⟨this.1,this.2.1,this.2.2.1⟩
def aIy(r:Rw)(f:Ft)(m:Nat)(hw:1<=r.w)(h:m<2^r.w):uT r.w (iC r f m):=by
 intro a k e;unfold iC at e;by_cases c:r.wd=.in
 ·rw[if_pos c] at e;cases e;exact⟨hw,yAb _⟩
 ·rw[if_neg c] at e;by_cases z:m=0
  ·rw[if_pos z] at e;cases e
  ·rw[if_neg z] at e;cases e;have:=aWk f hw h;exact⟨this.1,this.2.1⟩
def aRx{rs:List Rw}{F:List Ft}(p:Prg rs)(hF:↑F=↑rs)(h:Bd rs M):Yst rs (eU rs F M):=by refine⟨aJk hF h.l,λ k r y hr hy=>?_⟩;rw[sS hr hF h.l] at hy;cases hy;exact aIy r _ _ (p.ws k r hr).1 (h.lt k r hr)
def aQP{x:Int}(d w:Nat)(T:aC)(hT:↑T<=40)(f:Ft)(hf:FtOk f w)(hw:w<=64)(hk:k<=90000):∃ (g:Ft) (k':Nat) (x':Int),FtOk g w/\(∀ i,g.N[i]! =true->f.N[i]! =true)/\(∀ i,g.O[i]! =true->f.O[i]! =true)/\g.A<=f.A/\k'<=k+6/\cl fns (d+3) 78 [.loc 0,.d f.d,.d (.int w)] (sT T ns k x)=qz (.d g.d,sT T ns k' x'):=by
 let(q,x1,hq,e1):=@kZ k ns x T hT (d+1) 3 (·) (·) ();have e1':cl fns (d+2) 67 [.loc 0,.d (.int 3)] (sT T ns k x)=qz (.d (.int q),sT T ns (k+1) x1):=e1;have tk:∀ (k':Nat) (x':Int),yEf (yFb T+1) (sT T ns k' x')=sT T ns k' x':=λ k' x'=>by
  rw[show ↑T+1=↑(sT T ns k' x') from rfl,yAg]
 have fa:=hf.a1;have fw:=hf.aw;by_cases c:0<q
 ·have d1:decide ((0:Int)<(q:Int))=true:=dqT ();refine⟨f,k+1,x1,hf,λ _ h=>h,λ _ h=>h,yAb _,by omega,?_⟩;rw[aN rfl (d+2) _ _ rfl];erw[11,aCL,e1',fU,d1,tk]
 ·have d1:decide ((0:Int)<(q:Int))=false:=dqF ();let(n1,k2,x2,hn1,hk2,e2):=@aIx (k+1) ns x1 T hT d w hw ();let(n2,k3,x3,hn2,hk3,e3):=@aIx k2 ns x2 T hT d w hw ();let(u,x4,hu,e4):=@kZ k3 ns x3 T hT (d+1) f.A () () ();have ea:(1:Int)+(u:Int)=((1+u:Nat):Int):=();refine⟨⟨f.N&&&(n1|||n2),f.O&&&(n1|||n2),1+u⟩,k3+1,x4,⟨xAi yCb hf.lN,xAi yCb hf.lO,by show 1<=1+u;omega,by show 1+u<=w;omega⟩,λ i h=>?_,λ i h=>?_,by show 1+u<=f.A;omega,by omega,?_⟩
  ·have h':(f.N&&&(n1|||n2))[i]! =true:=h;rw[yAj,yAy] at h';exact h'.1
  ·have h':(f.O&&&(n1|||n2))[i]! =true:=h;rw[yAj,yAy] at h';exact h'.1
  ·rw[aN rfl (d+2) _ _ rfl];erw[11,aCL,e1',fU,d1,e2,e3,fG,iA,iN,jP,dJ,e4,cV,ea,tk]
def aSK(o:Op g w)(fk:FtOk f w)(hN:∀ i,f.N[i]! =true->g.N[i]! =true)(hO:∀ i,f.O[i]! =true->g.O[i]! =true)(hA:f.A<=g.A):Op f w:=by let(x,hx,q):=o.ho;exact⟨fk,⟨x,hx,λ i hi=>q.1 i (hN i hi),λ i hi=>q.2.1 i (hO i hi),sU hA q.2.2⟩,o.w1,o.w2⟩
def aQL(F:List Ft)(f:Ft):(F++[f]).map Ft.d=F.map Ft.d++[f.d]:=by rw[yAv];rfl
def aPm{x:Int}(d:Nat)(rs:List Rw)(o:D)(p:Prg rs)(hk:k<=50000):∃ (F:List Ft) (k':Nat) (x':Int),↑F=↑rs/\k'<=k+1+6*↑rs/\cl fns (d+10) 79 [.loc 0,.d (rs<*o)] [qz (aJ ns k x)]=qz (.d (F*>Ft.d),[qz (aJ ns k' x')]):=by
 have pl:=p.l;let(q,x1,hq,e1):=@kZ k ns x [] (·) (d+8) 2 (·) (·) ();have e1':cl fns (d+9) 67 [.loc 0,.d (.int 2)] [qz (aJ ns k x)]=qz (.d (.int q),[qz (aJ ns (k+1) x1)]):=e1;by_cases c:q=1
 ·have dq:((q:Int)==1)=true:=by rw[beq_iff_eq];omega
  let(F,fl,_,_,eF):=aCU d rs o p [qz (aJ ns (k+1) x1)];refine⟨F,k+1,x1,fl,by omega,?_⟩;rw[aN rfl (d+9) _ _ rfl];erw[11,aC1,e1',bP,dq,eF]
 ·have dq:((q:Int)==1)=false:=by rw[beq_eq_false_iff_ne];omega
  obtain⟨P,hP⟩:∃ P:D,P=(rs<*o):=⟨_,rfl⟩;have iP:aH P (.int 0)=qz (rs*>Rw.d):=by rw[hP];rfl
  let(aS,S',p1,F,k',x',c3,c4,c5,fl,fs,hk',rfl,rfl):=kY (t:=.one 3) (fi:=lv (d<$>9) aAi) (fb:=xs (d<$>9) aAe) (env:=[#[0],qz (.d P),#[1],qx,qx,qx,qx]) (S:=[qz (aJ ns (k+1) x1),qz []]) (S1:=[qz (aJ ns (k+1) x1),qz []]) (ds:=rs.map Rw.d)
   (λ j env S'=>∃ (F:List Ft) (k':Nat) (x':Int) (c3 c4 c5:Option W),↑F=j/\pP rs F/\k'<=k+1+6*j/\env=[#[0],qz (.d P),#[1],c3,c4,c5,qx]/\S'=[qz (aJ ns k' x'),qz (F.map Ft.d)])
   (by erw[20,aAi,iP,eV]) ⟨[],k+1,x1,qx,qx,qx,rfl,aJD rs,by omega,rfl,rfl⟩ (by
     rintro j dd env S' hd ⟨F,k',x',c3,c4,c5,fl,fs,hk',rfl,rfl⟩;rw[yAd] at hd;let(r,hr,rfl):=Option.map_eq_some_iff.mp hd;subst fl;have hj:↑F<↑rs:=(gIm hr).1;let(w1,w2):=p.ws _ r hr;let(f1,f2'):=p.fit _ r hr;have ol:=aAZ r;let(g,nx):=aHy p fs hr (yAb _);have op:=λ S'=>mT (d+8) r S'
     have op':∀ S',cl fns (d+9) 7 [.d r.d] S'=qz (.d (.tuple ((bL r).map nD)),S'):=op;let(vs,S2,ec,hS2,hI,hvl,hq):=@aIu [#[0],qz (.d P),#[1],qz (.d r.d),c4,c5,qx] [qz (aJ ns k' x'),qz (F.map Ft.d)] [qz (aJ ns k' x'),qz (F.map Ft.d)] _ (.one 6) (lv (d<$>9) (.it (.call 7 (.cons (.var 3) .nil)))) (ev (d<$>9) (.ix (.var 2) (.var 6))) nD (λ _ S'=>S'=[qz (aJ ns k' x'),qz (F.map Ft.d)]) (λ a v=>v=(f0 F a).d) (bL r) (by
      erw[20,op',eV]) (by rw[zq];omega) rfl (by
      intro a ha;refine⟨_,rfl,?_⟩;rintro i S3 aM hi hSl rfl;have hx:aH (.list (F.map Ft.d)) (nD a)=qz (f0 F a).d:=mI (by rw[yAd,oV (f2' a ha)];rfl)
      refine⟨(f0 F a).d,_,?_,rfl,rfl,rfl⟩;erw[20,clr,yBb,yCm,hx])
     subst hI;have ev1:vs=(eW r F).map Ft.d:=by
      rw[aHa hvl hq,eW,yBd];rfl
     subst ev1;have ec':lv (d<$>9) aGl [#[0],qz (.d P),#[1],qz (.d r.d),c4,c5,qx] [qz (aJ ns k' x'),qz (F.map Ft.d)]=qz ((eW r F).map Ft.d,[qz (aJ ns k' x'),qz (F.map Ft.d)]):=ec;have hc:lv (d<$>9) aGp [#[0],qz (.d P),#[1],qz (.d r.d),qz (.d (.list ((eW r F).map Ft.d))),c5,qx] [qz (aJ ns k' x'),qz (F.map Ft.d)]=qz ((bY r (~~~rs)).map nD,[qz (aJ ns k' x'),qz (F.map Ft.d)]):=by
      unfold bY;rw[yBd];refine mY (fi:=lv (d<$>9) (.it (.call 7 (.cons (.var 3) .nil)))) (fe:=ev (d<$>9) (.ix (.ix (.ix (.var 1) (.int 0)) (.var 6)) (.int 1))) nD (nD ∘ g0 (~~~rs)) (r.args.take (bG r.wd)) ?_ (by rw[zq];have:↑(r.args.take (bG r.wd))<=3:=ol;omega) λ a ha=>?_
      ·erw[0,op',eV]
      ·refine⟨_,rfl,λ S'=>?_⟩;have haj:=f2' a ha;have hq:rs[a]?=qz rs[a]:=yAa ();have e2:aH (rs*>Rw.d) (nD a)=qz rs[a].d:=cW (by rw[yAd,hq];rfl);erw[20,clr,yBb,yCm,iP,e2,dD];show _=qz (W.d (nD (g0 (~~~rs) a)),S');rw[hV hq];rfl
     have rl:=nx.rule (d+2) [qz (aJ ns k' x'),qz (F.map Ft.d)];let(f,k2,x2,fk,hN,hO,hA,hk2,ew):=@aQP k' ns x' (d+6) r.w [qz (F.map Ft.d)] (by show 1<=40;decide) g nx.op.ok w2 ();have ew':cl fns (d+9) 78 [.loc 0,.d g.d,.d (.int r.w)] [qz (aJ ns k' x'),qz (F.map Ft.d)]=qz (.d f.d,[qz (aJ ns k2 x2),qz (F.map Ft.d)]):=ew;have ap:cX [qz (aJ ns k2 x2),qz (F.map Ft.d)] (.loc 1) (.d f.d)=qz (.d .none,[qz (aJ ns k2 x2),qz ((F++[f]).map Ft.d)]):=by
      rw[aQL];exact aDC [qz (aJ ns k2 x2)] (F.map Ft.d) f.d (by rw[yAc];omega)
     refine⟨[#[0],qz (.d P),#[1],qz (.d r.d),c4,c5,qx],[#[0],qz (.d P),#[1],qz (.d r.d),qz (.d (.list ((eW r F).map Ft.d))),qz (.d (.list ((bY r (~~~rs)).map nD))),qx],[qz (aJ ns k2 x2),qz ((F++[f]).map Ft.d)],rfl,?_,F++[f],k2,x2,_,_,_,by simp,aIv fs hr (aSK nx.op fk hN hO hA),by omega,rfl,rfl⟩
     erw[20,aAe,ec',hc,kC,kB,rl,dD,ew',lK,ap])
  rw[yAc] at fl hk';refine⟨F,k',x',fl,hk',?_⟩;rw[<- hP];have p1':iH (.one 3) (lv (d<$>9) aAi) (xs (d<$>9) aAe) [#[0],qz (.d P),#[1],qx,qx,qx,qx] [qz (aJ ns (k+1) x1),qz []]=qz (.nx [#[0],qz (.d P),#[1],c3,c4,c5,qx],[qz (aJ ns k' x'),qz (F.map Ft.d)]):=p1;rw[aN rfl (d+9) _ _ rfl];erw[11,aC1,e1',bP,dq,hU,p1',kC,kB]
def fA(w:Wd):Bool:=w==.same||w==.less||w==.under
def aLy{M:List Nat}(h:M.getD i 0≠0):(cJ M q).getD i 0≠0:=by
 unfold cJ;by_cases c:q.1=i
 ·subst c;by_cases l:q.1<↑M
  ·rw[aAr l];intro z;exact h (Nat.or_eq_zero_iff.mp z).1
  ·rw[yDw ()];exact h
 ·rw[vF c];exact h
def aDY:∀ (l:List (Nat×Nat)) {M:List Nat},M.getD i 0≠0->(l.foldl cJ M).getD i 0≠0
 |[],_,h=>h|q::l,M,h=>aDY l (aLy h)
def aJ0{q:Nat×Nat}(h2:q.2≠0):∀ (l:List (Nat×Nat)) {M:List Nat},q∈l->q.1<↑M->(l.foldl cJ M).getD q.1 0≠0
 |[],_,h,_=>by cases h
 |p::l,M,h,hl=>by
   rcases List.mem_cons.mp h with rfl|h
   ·refine aDY l ?_;unfold cJ;rw[aAr hl];intro z;exact h2 (Nat.or_eq_zero_iff.mp z).2
   ·exact aJ0 h2 l h (by unfold cJ;rw[yBa];exact hl)
def Aq(rs:List Rw)(M:List Nat)(n:Nat):Prop:=∀ i r,n<=i->rs[i]?=qz r->fA r.wd=true->M.getD i 0≠0->∀ a∈bL r,M.getD a 0≠0
def aU2{rs:List Rw}{F:List Ft}(p:Prg rs){k m:Nat}{r:Rw}(hr:rs[k]?=qz r)(hc:fA r.wd=true)(hm:m≠0):∀ a∈bL r,∃ v,v≠0/\(a,v)∈eE rs F r m:=by
 let(f1,f2):=p.fit k r hr;let(w1,w2):=xT f1;have hw3:r.wd=.same\/r.wd=.less\/r.wd=.under:=by
  unfold fA at hc;cases hh:r.wd<;>rw[hh] at hc<;>first|exact .inl rfl|exact .inr (.inl rfl)|exact .inr (.inr rfl)|(exfalso;revert hc;decide)
 have two:∃ a b,bL r=[a,b]:=by
  have hl:↑(bY r (~~~rs))=2:=by
   have w3:=w1.2.2;rcases hw3 with h|h|h<;>rw[h] at w3<;>(let(_,v,hv,_):=w3;rw[hv];rfl)
  unfold bY at hl;rw[yAc] at hl;change ↑(bL r)=2 at hl
  match h:bL r,hl with
  |[a,b],_=>exact⟨a,b,rfl⟩
 let(a,b,e):=two;have hw:∀ x∈bL r,∃ u:Nat,1<=u/\g0 (~~~rs) x=u:=λ x hx=>by
  have hx2:=f2 x hx;have hk:k<↑rs:=(gIm hr).1;have hq:rs[x]?=qz rs[x]:=yAa ();exact⟨_,(p.ws x _ hq).1,hV hq⟩
 have eo:bY r (~~~rs)=[g0 (~~~rs) a,g0 (~~~rs) b]:=by
  unfold bY;rw[show r.args.take (bG r.wd)=[a,b] from e];rfl
 have nz:∀ u:Nat,1<=u->2^u-1≠0:=λ u hu=>by
  have:=yAz (show 1<=2 by decide) hu;omega
 let(u,u1,eu):=hw a (by rw[e];simp);let(v,v1,ev):=hw b (by rw[e];simp);have en:pU rs F r m=[2^u-1,2^v-1]:=by
  unfold pU fV;rw[if_neg hm,eo,eu,ev];rcases hw3 with h|h|h<;>rw[h]<;>rfl
 intro x hx;unfold eE;rw[en,e];rw[e] at hx;rcases List.mem_cons.mp hx with rfl|hx
 ·exact⟨_,nz u u1,by simp⟩
 ·obtain rfl:=List.mem_singleton.mp hx;exact⟨_,nz v v1,by simp⟩
def aJV{rs:List Rw}(p:Prg rs){M:List Nat}(ha:a<↑rs)(h1:Bd rs M1)(he:∀ i,i≠a->M1.getD i 0=M.getD i 0)(hm:∀ i,M.getD i 0≠0->M1.getD i 0≠0)(h:Aq rs M (a+1)):Aq rs (iJ rs F M1 a) a:=by
 intro i r hi hr hc hz x hx;rw[aQv p h1 hi ha] at hz;have hra:rs[a]?=qz rs[a]:=yAa ha;rw[aAY hra];by_cases c:i=a
 ·subst c;rw[hra] at hr;cases hr;let(v,hv,hq):=aU2 (F:=F) p hra hc hz x hx;have:=(p.fit i _ hra).2 x hx;exact aJ0 hv _ hq (by rw[h1.l];show x<_;omega)
 ·rw[he i c] at hz;exact aDY _ (hm x (h i r () hr hc hz x hx))
section
variable {rs:List Rw}{F:List Ft}
def aLn(p:Prg rs):∀ (k:Nat) (M:List Nat),Bd rs M->k<=↑rs->Aq rs M k->Aq rs (uD rs F k M) 0
 |0,M,_,_,h=>h
 |k+1,M,hb,hk,h=>by
   show Aq rs (uD rs F k (iJ rs F M k)) 0;exact aLn p k _ (aRq p () hb) () (aJV p () hb (λ _ _=>rfl) (λ _ z=>z) h)
end
def aD9{rs:List Rw}(p:Prg rs)(ho:∀ o∈aE,o<↑rs):Aq rs (fQ rs F aE) 0:=
 aLn p _ _ (aI3 aE _ ho aDJ) (yAb _) λ i r hi hr=>absurd (gIm hr).1 ()
noncomputable abbrev eM(P:D)(F:List Ft)(c4 c5 c6 c7 c8 c9 c10:Option W):bB:=[#[0],qz (.d P),qz (.d (F*>Ft.d)),#[1],c4,c5,c6,c7,c8,c9,c10,qx]
def aTn{rs:List Rw}{F:List Ft}(d:Nat)(p:Prg rs)(hr:rs[k]?=qz r)(hF:↑F=↑rs)(P:D)(st:Option (List D))(h:Bd rs M)(c5 c9 c10:Option W):∃ (M':List Nat) (c9' c10':Option W),Bd rs M'/\M'=iJ rs F M k/\iH (.many [9,10]) (lv (d<$>5) uZ) (xs (d<$>5) uY) (eM P F ((k:)) c5 (qz (.d r.d)) (qz (.d (.tuple ((bL r).map nD)))) (qz (.d (.tuple ((bY r (~~~rs)).map nD)))) c9 c10) [st,qz (M.map nD)]=qz (.nx (eM P F ((k:)) c5 (qz (.d r.d)) (qz (.d (.tuple ((bL r).map nD)))) (qz (.d (.tuple ((bY r (~~~rs)).map nD)))) c9' c10'),[st,qz (M'.map nD)]):=by
 have hk:k<↑rs:=(gIm hr).1;have hm:=h.lt k r hr;have e0:=@wL k M (by rw[h.l];exact hk);let(f1,f2'):=p.fit k r hr;have ol:=aAZ r;let(w1,w2):=xT f1;have nk:=λ S=>aJE d r.wd r.w r.args (zB r) (bY r (~~~rs)) (mQ r F) (M.getD k 0) w1 (aJe p hr) w2 hm S
 have nk':∀ S,cl fns (d+5) 18 [.d r.d,.d (.tuple ((bY r (~~~rs)).map nD)),.d (.tuple ((eW r F).map Ft.d)),.d (.int ((M.getD k 0:Nat):Int))] S=qz (.d (.tuple ((pU rs F r (M.getD k 0)).map nD)),S):=λ S=>by
  rw[<- aLI];exact nk S
 have hc:lv (d<$>5) aCG (eM P F ((k:)) c5 (qz (.d r.d)) (qz (.d (.tuple ((bL r).map nD)))) (qz (.d (.tuple ((bY r (~~~rs)).map nD)))) c9 c10) [st,qz (M.map nD)]=qz ((eW r F).map Ft.d,[st,qz (M.map nD)]):=by
  rw[eW,yBd];refine mY (fi:=lv (d<$>5) (.it (.var 7))) (fe:=ev (d<$>5) (.ix (.var 2) (.var 11))) nD (Ft.d ∘ f0 F) (r.args.take (bG r.wd)) ?_ (by rw[zq];have:↑(r.args.take (bG r.wd))<=3:=ol;omega) λ a ha=>?_
  ·erw[1,eM,eV]
  ·refine⟨_,rfl,λ S'=>?_⟩;have hx:aH (F*>Ft.d) (nD a)=qz (f0 F a).d:=cW (by rw[yAd,oV (by have:=f2' a ha;omega)];rfl);erw[0,clr,yBb,yCm,hx]
 have zp:gI ((bL r).map nD) ((pU rs F r (M.getD k 0)).map nD)=(eE rs F r (M.getD k 0)).map pD:=aBq _ _;have g1:([st,qz (M.map nD)]:aC)[1]?=qz (qz (M.map nD)):=rfl;have it:lv (d<$>5) uZ (eM P F ((k:)) c5 (qz (.d r.d)) (qz (.d (.tuple ((bL r).map nD)))) (qz (.d (.tuple ((bY r (~~~rs)).map nD)))) c9 c10) [st,qz (M.map nD)]=qz ((eE rs F r (M.getD k 0)).map pD,[st,qz (M.map nD)]):=by
  have hc':lv (d<$>5) aCG [#[0],qz (.d P),qz (.d (F*>Ft.d)),#[1],(k:),c5,qz (.d r.d),qz (.d (.tuple ((bL r).map nD))),qz (.d (.tuple ((bY r (~~~rs)).map nD))),c9,c10,qx] [st,qz (M.map nD)]=qz ((eW r F).map Ft.d,[st,qz (M.map nD)]):=hc;erw[2,uZ,eM,hc',kC,kB,e0,nk',zp]
 let(aS,S',p1,c9',c10',hb,rfl,rfl):=kY (t:=.many [9,10]) (fb:=xs (d<$>5) uY)
  (λ j env S'=>∃ c9 c10:Option W,Bd rs (((eE rs F r (M.getD k 0)).take j).foldl cJ M)/\env=eM P F ((k:)) c5 (qz (.d r.d)) (qz (.d (.tuple ((bL r).map nD)))) (qz (.d (.tuple ((bY r (~~~rs)).map nD)))) c9 c10/\S'=[st,qz ((((eE rs F r (M.getD k 0)).take j).foldl cJ M).map nD)])
  it ⟨c9,c10,h,rfl,rfl⟩ (by
   rintro j dd env S' hd ⟨c9,c10,hb,rfl,rfl⟩;rw[yAd] at hd;let(q,hq,rfl):=Option.map_eq_some_iff.mp hd;let(q1,q2):=aBo p hr hm q (xAk hq);have ft:=aC5 (f:=cJ) M hq;generalize hM1:((eE rs F r (M.getD k 0)).take j).foldl cJ M=M1 at hb ft ⊢;have ql:q.1<↑M1:=by rw[hb.l];omega
   have e1:=wL ql;have pe:iZ [st,qz (M1.map nD)] (.loc 1) (.d (.int (q.1:Nat))) (.d (.int ((M1.getD q.1 0|||q.2:Nat):Int)))=qz [st,qz ((cJ M1 q).map nD)]:=sV [st] M1 q.1 _ ql;refine⟨eM P F ((k:)) c5 (qz (.d r.d)) (qz (.d (.tuple ((bL r).map nD)))) (qz (.d (.tuple ((bY r (~~~rs)).map nD)))) (((q.1:Nat):)) (((q.2:Nat):)),eM P F ((k:)) c5 (qz (.d r.d)) (qz (.d (.tuple ((bL r).map nD)))) (qz (.d (.tuple ((bY r (~~~rs)).map nD)))) (((q.1:Nat):)) (((q.2:Nat):)),[st,qz ((cJ M1 q).map nD)],rfl,?_,((q.1:Nat):),((q.2:Nat):),?_,rfl,by rw[ft]⟩
   ·erw[2,uY,eM,e1,fG,jR,pe]
   ·rw[ft];exact aBC hb () q2)
 exact⟨_,c9',c10',hb,by rw[aAY hr];simp only[yAc,yAg],p1⟩
def aRK{rs:List Rw}{F:List Ft}{x:Int}(d:Nat)(p:Prg rs)(hF:↑F=↑rs)(o:D)(h:Bd rs M)(hj:j<↑rs)(hk:k<=90000)(c4 c6 c7 c8 c9 c10:Option W):∃ (M':List Nat) (k':Nat) (x':Int) (c4' c6' c7' c8' c9' c10':Option W),Bd rs M'/\(∃ M1,Bd rs M1/\(∀ i,i≠↑rs-1-j->M1.getD i 0=M.getD i 0)/\(∀ i,M.getD i 0≠0->M1.getD i 0≠0)/\M'=iJ rs F M1 (↑rs-1-j))/\k'<=k+2/\xs (d<$>5) gC (eM (rs<*o) F c4 ((j:)) c6 c7 c8 c9 c10) [qz (aJ ns k x),qz (M.map nD)]=qz (.nx (eM (rs<*o) F c4' ((j:)) c6' c7' c8' c9' c10'),[qz (aJ ns k' x'),qz (M'.map nD)]):=by
 have i0:aH (rs<*o) (.int 0)=qz (rs*>Rw.d):=rfl;obtain⟨P,hP⟩:∃ P:D,P=(rs<*o):=⟨_,rfl⟩;rw[<- hP] at i0 ⊢;have ek:((↑rs:Nat):Int)-1-(j:Int)=((↑rs-1-j:Nat):Int):=();obtain⟨a,ha⟩:∃ a,a=↑rs-1-j:=⟨_,rfl⟩;rw[<- ha] at ek;have hal:a<↑rs:=();have hr:rs[a]?=qz rs[a]:=yAa hal;obtain⟨r,er⟩:∃ r,r=rs[a]:=⟨_,rfl⟩;rw[<- er] at hr;have w1:=p.ws a r hr;have e1:aH (rs*>Rw.d) (.int a)=qz r.d:=cW (by rw[yAd,hr];rfl);have lM:∀ M':List Nat,Bd rs M'->iL [.list (M'.map nD)]=qz (.int ↑rs):=λ M' h'=>by
  show qz (yAn ((↑(M'.map nD):Nat):Int))=_;rw[yAc,h'.l]
 have lM1:=lM M h;have rw1:=dD r;let(q,x1,hq,d1):=@kZ k ns x [qz (M.map nD)] (by show 1<=40;decide) (d+4) 8 (·) (·) ();have d1':cl fns (d+5) 67 [.loc 0,.d (.int 8)] [qz (aJ ns k x),qz (M.map nD)]=qz (.d (.int q),[qz (aJ ns (k+1) x1),qz (M.map nD)]):=d1;obtain⟨M1,k1,x2,hb,hd1,hd2,hk1,e3⟩:∃ (M1:List Nat) (k1:Nat) (x2:Int),Bd rs M1/\(∀ i,i≠a->M1.getD i 0=M.getD i 0)/\(∀ i,M.getD i 0≠0->M1.getD i 0≠0)/\k1<=k+2/\xs (d<$>5) (bR (aT (aT gC))) (eM P F ((a:)) ((j:)) (qz (.d r.d)) c7 c8 c9 c10) [qz (aJ ns k x),qz (M.map nD)]=qz (.nx (eM P F ((a:)) ((j:)) (qz (.d r.d)) c7 c8 c9 c10),[qz (aJ ns k1 x2),qz (M1.map nD)]):=by
  by_cases c:q=1
  ·have dq:((q:Int)==1)=true:=by rw[beq_iff_eq];omega
   let(u,x2,hu,d2):=@kZ (k+1) ns x1 [qz (M.map nD)] (by show 1<=40;decide) (d+4) r.w () () ();have d2':cl fns (d+5) 67 [.loc 0,.d (.int r.w)] [qz (aJ ns (k+1) x1),qz (M.map nD)]=qz (.d (.int u),[qz (aJ ns (k+1+1) x2),qz (M.map nD)]):=d2;have sh:bV .LShift (.int 1) (.int u)=qz (.int ((2^u:Nat):Int)):=gR ();have al:a<↑M:=by rw[h.l];exact hal
   have e0:=@wL a M al;have pe:iZ [qz (aJ ns (k+1+1) x2),qz (M.map nD)] (.loc 1) (.d (.int a)) (.d (.int ((M.getD a 0|||2^u:Nat):Int)))=qz [qz (aJ ns (k+1+1) x2),qz ((cJ M (a,2^u)).map nD)]:=sV [qz (aJ ns (k+1+1) x2)] M a _ al;refine⟨cJ M (a,2^u),k+1+1,x2,aBC h hal (λ r' hr'=>?_),λ i hi=>vF λ z=>hi z.symm,λ i hi=>aLy hi,by omega,?_⟩
   ·rw[hr] at hr';cases hr';exact yEs (·) hu
   ·erw[4,bR,aT,gC,eM,d1',bP,dq,e0,rw1,d2',sh,fG,jR,pe]
  ·have dq:((q:Int)==1)=false:=by rw[beq_eq_false_iff_ne];omega
   refine⟨M,k+1,x1,h,λ _ _=>rfl,λ _ z=>z,by omega,?_⟩;erw[4,bR,aT,gC,eM,d1',bP,dq]
 have s1:xs (d<$>5) (bR gC) (eM P F c4 ((j:)) c6 c7 c8 c9 c10) [qz (aJ ns k x),qz (M.map nD)]=qz (.nx (eM P F ((a:)) ((j:)) c6 c7 c8 c9 c10),[qz (aJ ns k x),qz (M.map nD)]):=by
  erw[3,bR,gC,eM,lM1,cP,ek]
 have s2:xs (d<$>5) (bR (aT gC)) (eM P F ((a:)) ((j:)) c6 c7 c8 c9 c10) [qz (aJ ns k x),qz (M.map nD)]=qz (.nx (eM P F ((a:)) ((j:)) (qz (.d r.d)) c7 c8 c9 c10),[qz (aJ ns k x),qz (M.map nD)]):=by
  erw[4,bR,aT,gC,eM,i0,e1]
 let(f1,f2'):=p.fit a r hr;have ol:=aAZ r;have op:cl fns (d+5) 7 [.d r.d] [qz (aJ ns k1 x2),qz (M1.map nD)]=qz (.d (.tuple ((bL r).map nD)),[qz (aJ ns k1 x2),qz (M1.map nD)]):=mT (d+4) r _;have hc:lv (d<$>5) aCF (eM P F ((a:)) ((j:)) (qz (.d r.d)) (qz (.d (.tuple ((bL r).map nD)))) c8 c9 c10) [qz (aJ ns k1 x2),qz (M1.map nD)]=qz ((bY r (~~~rs)).map nD,[qz (aJ ns k1 x2),qz (M1.map nD)]):=by
  unfold bY;rw[yBd];refine mY (fi:=lv (d<$>5) (.it (.var 7))) (fe:=ev (d<$>5) (.ix (.ix (.ix (.var 1) (.int 0)) (.var 9)) (.int 1))) nD (nD ∘ g0 (~~~rs)) (r.args.take (bG r.wd)) ?_ (by rw[zq];have:↑(r.args.take (bG r.wd))<=3:=ol;omega) λ b hb=>?_
  ·erw[1,eM,eV]
  ·refine⟨_,rfl,λ S'=>?_⟩;have haj:=f2' b hb;have hq:rs[b]?=qz rs[b]:=yAa ();have e2:aH (rs*>Rw.d) (nD b)=qz rs[b].d:=cW (by rw[yAd,hq];rfl);erw[20,clr,yBb,yCm,i0,e2,dD];show _=qz (W.d (nD (g0 (~~~rs) b)),S');rw[hV hq];rfl
 have hc':lv (d<$>5) aCF [#[0],qz (.d P),qz (.d (F*>Ft.d)),#[1],(a:),(j:),qz (.d r.d),qz (.d (.tuple ((bL r).map nD))),c8,c9,c10,qx] [qz (aJ ns k1 x2),qz (M1.map nD)]=qz ((bY r (~~~rs)).map nD,[qz (aJ ns k1 x2),qz (M1.map nD)]):=hc;let(M',c9',c10',hb',eM1,lp):=aTn d p hr hF P (qz (aJ ns k1 x2)) hb ((j:)) c9 c10;refine⟨M',k1,x2,(a:),qz (.d r.d),qz (.d (.tuple ((bL r).map nD))),qz (.d (.tuple ((bY r (~~~rs)).map nD))),c9',c10',hb',⟨M1,hb,by rw[<- ha];exact hd1,hd2,by rw[<- ha];exact eM1⟩,hk1,?_⟩;have e:gC=.seq (bR gC) (.seq (bR (aT gC)) (.seq (bR (aT (aT gC))) (aT (aT (aT gC))))):=rfl;rw[e,dX s1,dX s2,dX e3];have lp':iH (.many [9,10]) (lv (d<$>5) uZ) (xs (d<$>5) uY) [#[0],qz (.d P),qz (.d (F*>Ft.d)),#[1],(a:),(j:),qz (.d r.d),qz (.d (.tuple ((bL r).map nD))),qz (.d (.tuple ((bY r (~~~rs)).map nD))),c9,c10,qx] [qz (aJ ns k1 x2),qz (M1.map nD)]=_:=lp;erw[3,aT,gC,eM,op,hc',kC,kB,lp']
def aPP{rs:List Rw}{F:List Ft}{x:Int}(d:Nat)(p:Prg rs)(hF:↑F=↑rs)(aE:List Nat)(ho:∀ o∈aE,o<↑rs)(hk:k<=50000):∃ (M:List Nat) (k':Nat) (x':Int),Bd rs M/\Aq rs M 0/\k'<=k+1+2*↑rs/\cl fns (d+8) 80 [.loc 0,.d (rs<*(aE*>nD)),.d (F*>Ft.d)] [qz (aJ ns k x)]=qz (.d (M*>nD),[qz (aJ ns k' x')]):=by
 have pl:=p.l;let(q,x1,hq,e1):=@kZ k ns x [] (·) (d+6) 2 (·) (·) ();have e1':cl fns (d+7) 67 [.loc 0,.d (.int 2)] [qz (aJ ns k x)]=qz (.d (.int q),[qz (aJ ns (k+1) x1)]):=e1;by_cases c:q=1
 ·have dq:((q:Int)==1)=true:=by rw[beq_iff_eq];omega
  let(bd,ak):=aDE d p hF aE ho [qz (aJ ns (k+1) x1)];refine⟨_,k+1,x1,bd,aD9 p ho,by omega,?_⟩;rw[aN rfl (d+7) _ _ rfl];erw[11,aCS,e1',bP,dq,ak]
 ·have dq:((q:Int)==1)=false:=by rw[beq_eq_false_iff_ne];omega
  have i0:aH (rs<*(aE*>nD)) (.int 0)=qz (rs*>Rw.d):=rfl;have i1:aH (rs<*(aE*>nD)) (.int 1)=qz (aE*>nD):=rfl;have turn:=λ(M:List Nat) (h:Bd rs M) (j:Nat) (hj:j<↑rs) (k:Nat) (x:Int) (hk:k<=90000)=>@aRK _ _ k ns _ _ x (d+2) p hF (aE*>nD) h hj hk
  obtain⟨P,hP⟩:∃ P:D,P=(rs<*(aE*>nD)):=⟨_,rfl⟩;simp only[<- hP] at i0 i1 turn ⊢;have c0:lv (d<$>7) aGo [#[0],qz (.d P),qz (.d (F*>Ft.d)),qx,qx,qx,qx,qx,qx,qx,qx,qx] [qz (aJ ns (k+1) x1)]=qz ((yAe ↑rs 0).map nD,[qz (aJ ns (k+1) x1)]):=by
   rw[show(yAe ↑rs 0).map nD=rs.map λ _=>nD 0 by rw[yFq,List.map_const']];refine mY (fi:=lv (d<$>7) (.it (.ix (.var 1) (.int 0)))) (fe:=ev (d<$>7) (.int 0)) Rw.d (λ _=>nD 0) rs ?_ (by rw[zq];omega) λ a _=>?_
   ·erw[0,i0,eV]
   ·exact⟨_,rfl,λ S'=>rfl⟩
  have it2:lv (d<$>7) aAh (eM P F qx qx qx qx qx qx qx) [qz (aJ ns (k+1) x1),qz ((yAe ↑rs 0).map nD)]=qz (aE.map nD,[qz (aJ ns (k+1) x1),qz ((yAe ↑rs 0).map nD)]):=by
   erw[2,aAh,eM,i1,eV]
  let(env1,S1,p1,c4,M1,hb1,rfl,rfl):=kY (t:=.one 4) (fb:=xs (d<$>7) aAg)
   (λ j env S'=>∃ (c4:Option W) (M:List Nat),Bd rs M/\env=eM P F c4 qx qx qx qx qx qx/\S'=[qz (aJ ns (k+1) x1),qz (M.map nD)])
   it2 ⟨qx,_,aDJ,rfl,rfl⟩ (by
    rintro j dd env S' hd ⟨c4,M,hb,rfl,rfl⟩;rw[yAd] at hd;let(u,hu,rfl):=Option.map_eq_some_iff.mp hd;have hul:=ho u (xAk hu);have hr:rs[u]?=qz rs[u]:=yAa hul;have er:aH (rs*>Rw.d) (.int u)=qz rs[u].d:=cW (by rw[yAd,hr];rfl);have rw1:=dD rs[u];have w1:=(p.ws u _ hr).2;have sh:bV .LShift (.int 1) (.int (rs[u].w:Nat))=qz (.int ((2^rs[u].w:Nat):Int)):=gR ();have fc:=aAI rs[u].w;have pe:iZ [qz (aJ ns (k+1) x1),qz (M.map nD)] (.loc 1) (.d (.int u)) (.d (.int ((2^rs[u].w-1:Nat):Int)))=qz [qz (aJ ns (k+1) x1),qz ((fD rs M u).map nD)]:=by
     rw[aHm hr];exact sV [qz (aJ ns (k+1) x1)] M u _ (by rw[hb.l];exact hul)
    refine⟨eM P F ((u:)) qx qx qx qx qx qx,eM P F ((u:)) qx qx qx qx qx qx,[qz (aJ ns (k+1) x1),qz ((fD rs M u).map nD)],rfl,?_,(u:),fD rs M u,aDV hb hul,rfl,rfl⟩;erw[20,aAg,eM,i0,er,rw1,sh,cP,fc,jR,pe])
  have lM1:iL [.list (M1.map nD)]=qz (.int ↑rs):=by
   show qz (yAn ((↑(M1.map nD):Nat):Int))=_;rw[yAc,hb1.l]
  have it0:lv (d<$>7) aAf (eM P F c4 qx qx qx qx qx qx) [qz (aJ ns (k+1) x1),qz (M1.map nD)]=qz ((yBm ↑rs).map (λ k=>yAn ((k:Nat):Int)),[qz (aJ ns (k+1) x1),qz (M1.map nD)]):=by
   simp only[aAf,rB,qK,qJ,qQ,qW,qM];exact vD (by erw[20,eM,lM1]) ()
  let(env2,S2,p2,M2,k2,x2,a4,a5,a6,a7,a8,a9,a10,hb2,hq2,hk2,rfl,rfl):=kY (t:=.one 5) (fb:=xs (d<$>7) gC)
   (λ j env S'=>∃ (M:List Nat) (k':Nat) (x':Int) (c4 c5 c6 c7 c8 c9 c10:Option W),Bd rs M/\Aq rs M (↑rs-j)/\k'<=k+1+2*j/\env=eM P F c4 c5 c6 c7 c8 c9 c10/\S'=[qz (aJ ns k' x'),qz (M.map nD)])
   it0 ⟨M1,k+1,x1,c4,qx,qx,qx,qx,qx,qx,hb1,(λ i r hi hr=>absurd (gIm hr).1 ()),by omega,rfl,rfl⟩ (by
    rintro j dd env S' hd ⟨M,k',x',c4,c5,c6,c7,c8,c9,c10,hb,hq,hk',rfl,rfl⟩;let(hj,rfl):=aIA hd;let(M',k2,x2,b4,b6,b7,b8,b9,b10,hb',(Mx,y1,y2,y3,y4),hk2,e):=turn M hb j hj k' x' () c4 c6 c7 c8 c9 c10
    exact⟨eM P F c4 ((j:)) c6 c7 c8 c9 c10,eM P F b4 ((j:)) b6 b7 b8 b9 b10,[qz (aJ ns k2 x2),qz (M'.map nD)],rfl,e,M',k2,x2,b4,_,b6,b7,b8,b9,b10,hb',(by rw[y4,show ↑rs-(j+1)=↑rs-1-j by omega];exact aJV p () y1 y2 y3 (by rw[show ↑rs-1-j+1=↑rs-j by omega];exact hq)),by omega,rfl,rfl⟩)
  rw[yAc,yEr] at hk2;rw[yAc,yEr,yAx] at hq2;refine⟨M2,k2,x2,hb2,hq2,hk2,?_⟩;have p1':iH (.one 4) (lv (d<$>7) aAh) (xs (d<$>7) aAg) [#[0],qz (.d P),qz (.d (F*>Ft.d)),#[1],qx,qx,qx,qx,qx,qx,qx,qx] [qz (aJ ns (k+1) x1),qz ((yAe ↑rs 0).map nD)]=qz (.nx (eM P F c4 qx qx qx qx qx qx),[qz (aJ ns (k+1) x1),qz (M1.map nD)]):=p1;have p2':iH (.one 5) (lv (d<$>7) aAf) (xs (d<$>7) gC) [#[0],qz (.d P),qz (.d (F*>Ft.d)),#[1],c4,qx,qx,qx,qx,qx,qx,qx] [qz (aJ ns (k+1) x1),qz (M1.map nD)]=qz (.nx (eM P F a4 a5 a6 a7 a8 a9 a10),[qz (aJ ns k2 x2),qz (M2.map nD)]):=p2;rw[aN rfl (d+7) _ _ rfl];erw[12,aCS,eM,e1',bP,dq,c0,hU,p1',p2',kC,kB]
def pI(a b:List D)(h:↑a+↑b<=1000):bV .Add (.tuple a) (.tuple b)=qz (.tuple (a++b)):=by
 cases a with
 |nil=>rfl
 |cons x r=>
   show(if (x::r).isEmpty=false/\↑(x::r)+↑b<=qk then qz (yAk ((x::r)++b)) else qx)=_;rw[if_pos ⟨rfl,by rw[zq];omega⟩]
def aAT(a:List D)(k:Nat):dY a (qz (k:Nat)) qx=a.drop k:=by
 unfold dY;rw[HT.sIx_none,HT.sIx_nat];rcases yHx k ↑a with h|h
 ·rw[yDx h,yCh (by rw[yHn];omega)]
 ·rw[yDl h,yGc,List.drop_of_length_le h,List.take_nil]
section
variable {rs:List Rw}{F:List Ft}{M:List Nat}{Y:List (Option (Yw×Nat))}{k:Nat}{y:Option (Yw×Nat)}
end
def iD(r:Rw):List bE:=.inr r.wd.s :: .inl ((r.w:Nat):Int)::r.args.map λ a=>.inl ((a:Nat):Int)
def zC(r:Rw):W:=.tpl (.d (.str r.wd.s) :: .d (nD r.w)::r.args.map λ a=>.d (nD a))
def dA(E:List (Rw×Nat)):List (List bE×Int):=E.map λ p=>(iD p.1,((p.2:Nat):Int))
def jI:Option Nat->D
 |none=>.none|some k=>.int k
noncomputable abbrev cE(P Y:D):W:=.ob [("program",.d P),("stays",.d Y),("rows",.loc 1),("places",.loc 2),("once",.dic 3)]
noncomputable abbrev sM(st:Option (List D))(R:List Rw)(Pl:List (Option Nat))(E:List (Rw×Nat))(T:aC):aC:=st::qz (R.map Rw.d)::qz (Pl.map jI)::qz ((dA E).map kK)::T
def aU3(l:List Nat):eX (l.map λ a=>W0.d (nD a))=qz (l.map nD):=by
 induction l with
 |nil=>rfl|cons a r ih=>rw[yAh,eX,ih];rfl
def aMt(r:Rw):eX (.d (.str r.wd.s) :: .d (nD r.w)::r.args.map λ a=>W0.d (nD a))=qz (.str r.wd.s::nD r.w::r.args.map nD):=by rw[eX,eX,aU3];rfl
def aWa(l:List Nat):hJ (l.map λ a=>W0.d (nD a))=qz (l.map λ a=>.inl ((a:Nat):Int)):=by
 induction l with
 |nil=>rfl|cons a r ih=>rw[yAh,nD,hJ,ih];rfl
def aLN(r:Rw):hJ (.d (.str r.wd.s) :: .d (nD r.w)::r.args.map λ a=>W0.d (nD a))=qz (iD r):=by rw[nD,hJ,hJ,aWa];rfl
def cI{a b c e a' b' c' e':Option (List D)}{T:aC}:(a::b::c::e::T).take ↑(a'::b'::c'::e'::T)=a::b::c::e::T:=by simp
def aB4(b:Bool)(r:Rw):W:=match b with|false=>.d r.d|true=>zC r
def aAX(b:Bool)(r:Rw)(st:Option (List D))(R:List Rw)(hR:↑R<=1000)(Pl:List (Option Nat))(E:List (Rw×Nat))(T:aC):cX (sM st R Pl E T) (.loc 1) (aB4 b r)=qz (.d .none,sM st (R++[r]) Pl E T):=by
 have h:mP (sM st R Pl E T) 1 r.d=qz (.d .none,sM st (R++[r]) Pl E T):=by
  unfold mP;have:(sM st R Pl E T)[1]?=qz (qz (R.map Rw.d)):=rfl;rw[this];dsimp only;rw[if_pos (by rw[yAc,zq];omega),show R.map Rw.d++[r.d]=(R++[r]).map Rw.d by rw[yAv];rfl];rfl
 cases b with
 |false=>exact h
 |true=>
   show(eX _).bind (λ l=>mP (sM st R Pl E T) 1 (.tuple l))=_;rw[aMt];exact h
def qP(d:Nat)(P Y:D)(b:Bool)(r:Rw)(st:Option (List D))(R:List Rw)(hR:↑R<=1000)(Pl:List (Option Nat))(E:List (Rw×Nat))(T:aC):cl fns (d+1) 55 [cE P Y,aB4 b r] (sM st R Pl E T)=qz (.d (.int ↑R),sM st (R++[r]) Pl E T):=by
 have ap:=aAX b r st R hR Pl E T;have ln:iL [.list ((R++[r]).map Rw.d)]=qz (.int ((↑R+1:Nat):Int)):=by
  show qz (yAn ((↑((R++[r]).map Rw.d):Nat):Int))=_;rw[yAc,yAo];rfl
 have sb:(((↑R+1:Nat):Int))-1=((↑R:Nat):Int):=();rw[aN rfl d _ _ rfl];erw[11,aLt,ap,ln,cP,sb,cI]
def eI(R:List Rw)(E:List (Rw×Nat))(r:Rw):Nat×List Rw×List (Rw×Nat):=match dH (dA E) (iD r) with|some i=>(i.toNat,R,E)|none=>(↑R,R++[r],E++[(r,↑R)])
def aAQ(E:List (Rw×Nat))(r:Rw)(n:Nat):dA (E++[(r,n)])=dA E++[(iD r,((n:Nat):Int))]:=by unfold dA;rw[yAv];rfl
def aHB{i:Int}(h:dH es k=qx):dH (es++[(k,i)]) k=qz i:=by
 unfold dH at h ⊢;rw[List.find?_append];cases q:es.find? λ p=>decide (p.1=k) with
 |none=>simp|some p=>rw[q] at h;cases h
def aIG{E:List (Rw×Nat)}{i:Int}(h:dH (dA E) k=qz i):((i.toNat:Nat):Int)=i:=by unfold dH dA at h;let(p,h1,h2):=Option.map_eq_some_iff.mp h;have:=List.mem_of_find?_eq_some h1;let(q,_,rfl):=List.mem_map.mp this;subst h2;rfl
def aFF(st:Option (List D))(R:List Rw)(Pl:List (Option Nat))(E:List (Rw×Nat))(T:aC):jZ (sM st R Pl E T) 3=qz (dA E):=by unfold jZ;show qz (((dA E).map kK).filterMap rJ)=_;rw[aB0]
def aDX(d:Nat)(P Y:D)(r:Rw)(st:Option (List D))(R:List Rw)(hR:↑R<=1000)(Pl:List (Option Nat))(E:List (Rw×Nat))(hE:↑E<=1000)(T:aC):cl fns (d+2) 56 [cE P Y,zC r] (sM st R Pl E T)=qz (.d (.int ((eI R E r).1:Nat)),sM st (eI R E r).2.1 Pl (eI R E r).2.2 T):=by
 have mk:=qP d P Y true r st R hR Pl E T;have mk':cl fns (d+1) 55 [cE P Y,.tpl (.d (.str r.wd.s) :: .d (nD r.w)::r.args.map λ a=>.d (nD a))] (sM st R Pl E T)=qz (.d (.int ↑R),sM st (R++[r]) Pl E T):=mk;have k1:=aLN r;have d1:=aFF st R Pl E T;have d2:=aFF st (R++[r]) Pl E T;have hl:↑(dA E)<qk:=by unfold dA;rw[yAc,zq];omega
 unfold eI zC;rw[aN rfl (d+1) _ _ rfl];cases hv:dH (dA E) (iD r) with
 |some i=>
   have hi:=aIG hv;have hv':dH (dA E) (iD r)=qz (i.toNat:Int):=by rw[hi];exact hv
   dsimp only;erw[11,aC9,k1,d1,hv',cI]
 |none=>
   have pt:nN (dA E) (iD r) ((↑R:Nat):Int)=dA (E++[(r,↑R)]):=by
    unfold nN;rw[hv,if_neg (·),aAQ]
   have d3:=aFF st (R++[r]) Pl (E++[(r,↑R)]) T;have hv2:dH (dA (E++[(r,↑R)])) (iD r)=qz ((↑R:Nat):Int):=by rw[aAQ];exact aHB hv
   dsimp only;erw[11,aC9,k1,d1,d2,hv,mk',hl,pt,d3,hv2,cI]
def aY(Y:List (Option (Yw×Nat)))(Pl:List (Option Nat))(R:List Rw)(E:List (Rw×Nat))(k w:Nat):Nat×List Rw×List (Rw×Nat):=match Y.getD k qx with
 |none=>eI R E ⟨.num,w,[0]⟩
 |some (y,kept)=>if kept=w then ((Pl.getD k qx).getD 0,R,E) else if w<kept then eI R E ⟨.cut,w,[(Pl.getD k qx).getD 0]⟩ else eI R E ⟨if y=.sign then .sign else .wide,w,[(Pl.getD k qx).getD 0]⟩
def aLv{Pl:List (Option Nat)}{k p:Nat}(h:Pl[k]?=qz (qz p)):aH (.list (Pl.map jI)) (.int k)=qz (.int p):=mI (by rw[yAd,h];rfl)
def aJW(y:Yw):aW .Eq (.str y.s) (.str "sign")=qz (.bool (decide (y=.sign))):=aEw y .sign
def aQa(d:Nat)(P:D){Y:List (Option (Yw×Nat))}{y:Option (Yw×Nat)}{Pl:List (Option Nat)}{k w:Nat}(hy:Y[k]?=qz y)(hp:∀ a b,y=qz (a,b)->∃ p,Pl[k]?=qz (qz p))(st:Option (List D))(R:List Rw)(hR:↑R<=1000)(E:List (Rw×Nat))(hE:↑E<=1000)(T:aC) :
 cl fns (d+3) 57 [cE P (Y*>yD),.d (.int k),.d (.int w)] (sM st R Pl E T)=qz (.d (.int ((aY Y Pl R E k w).1:Nat)),sM st (aY Y Pl R E k w).2.1 Pl (aY Y Pl R E k w).2.2 T):=by
 have on:=λ(r:Rw)=>aDX d P (Y*>yD) r st R hR Pl E hE T
 have i0:aH (Y*>yD) (.int k)=qz (yD y):=cW (by rw[yAd,hy];rfl);have isy:=aCj y;have eY:Y.getD k qx=y:=by rw[xAg,hy];rfl
 unfold aY;rw[eY,aN rfl (d+2) _ _ rfl];cases y with
 |none=>
   have o1:cl fns (d+2) 56 [cE P (Y*>yD),.tpl [.d (.str "num"),.d (.int w),.d (.int 0)]] (sM st R Pl E T)=_:=on ⟨.num,w,[0]⟩;have isy:aW .Is (yD qx) .none=qz (.bool true):=isy;dsimp only;erw[11,tJ,i0,isy,o1,cI]
 |some q=>
   let(a,kept):=q;let(p,hpl):=hp a kept rfl;have isy:aW .Is (yD (qz (a,kept))) .none=qz (.bool false):=isy;have pa:=aLv hpl;have ePl:(Pl.getD k qx).getD 0=p:=by rw[xAg,hpl];rfl
   have yd:yD (qz (a,kept))=.tuple [.str a.s,.int kept]:=rfl;rw[yd] at i0 isy;dsimp only;rw[ePl];by_cases c:kept=w
   ·rw[if_pos c];have ce:((kept:Int)==(w:Int))=true:=by rw[beq_iff_eq];omega
    erw[11,tJ,i0,isy,bP,ce,pa,cI]
   ·rw[if_neg c];have ce:((kept:Int)==(w:Int))=false:=by rw[beq_eq_false_iff_ne];omega
    by_cases g:w<kept
    ·rw[if_pos g];have cg:decide ((w:Int)<(kept:Int))=true:=dqT ();have o1:cl fns (d+2) 56 [cE P (Y*>yD),.tpl [.d (.str "cut"),.d (.int w),.d (.int p)]] (sM st R Pl E T)=_:=on ⟨.cut,w,[p]⟩;erw[11,tJ,i0,isy,bP,ce,fU,cg,pa,o1,cI]
    ·rw[if_neg g];have cg:decide ((w:Int)<(kept:Int))=false:=dqF ();have ys:=aJW a;by_cases z:a=.sign
     ·rw[if_pos z];rw[dqT z] at ys;have o1:cl fns (d+2) 56 [cE P (Y*>yD),.tpl [.d (.str "sign"),.d (.int w),.d (.int p)]] (sM st R Pl E T)=_:=on ⟨.sign,w,[p]⟩;erw[11,tJ,i0,isy,bP,ce,fU,cg,ys,pa,o1,cI]
     ·rw[if_neg z];rw[dqF z] at ys;have o1:cl fns (d+2) 56 [cE P (Y*>yD),.tpl [.d (.str "wide"),.d (.int w),.d (.int p)]] (sM st R Pl E T)=_:=on ⟨.wide,w,[p]⟩;erw[11,tJ,i0,isy,bP,ce,fU,cg,ys,pa,o1,cI]
inductive CRun (t:Tg) (fe:FE) (env:bB):List D->List D->aC->aC->Prop
 |nil {S:aC}:CRun t fe env [] [] S S
 |cons {x v:D}{e1:bB}{ds vs:List D}{S S1 S2:aC}:t.put x env=qz e1->(∀ aM,fe e1 (S++[qz aM])=qz (.d v,S1++[qz aM]))->↑S1=↑S->CRun t fe env ds vs S1 S2->CRun t fe env (x::ds) (v::vs) S S2
def aKx{fe:FE}:∀ {ds vs:List D}{S S2:aC},CRun t fe env ds vs S S2->∀ aM:List D,↑aM+↑ds<=qk->gH t lI fe ↑S env ds (S++[qz aM])=qz (S2++[qz (aM++vs)])/\↑S2=↑S
 |_,_,_,_,.nil,aM,_=>by simp[gH]
 |_,_,S,_,.cons (v:=v) (S1:=S1) h1 h2 h3 h4,aM,hz=>by
   rw[yAl] at hz;let(i1,i2):=aKx h4 (aM++[v]) (by rw[yAo,yBy];omega);rw[h3] at i1 i2;have ea:cX (S1++[qz aM]) (.loc ↑S) (.d v)=qz (.d .none,S1++[qz (aM++[v])]):=by
    unfold cX;rw[<- h3];simp only[yAf (yAb ↑S1),yAx,yBt];rw[if_pos (),wA]
   refine⟨?_,i2⟩;simp only[gH,h1,lI,oB,if_true,h2,ea];rw[i1,yBp];rfl
def qN{fi:FL}{fe:FE}(hi:fi env S=qz (ds,S1))(hz:↑ds<=1000)(h:CRun t fe (clr t.slots env) ds vs S1 S2):gY t fi lI fe env S=qz (vs,S2):=by let(i1,i2):=aKx h [] (by rw[zq,yBr];omega);unfold gY;rw[hi];simp only[oB];rw[i1];simp[<- i2]
def bN(Y:List (Option (Yw×Nat)))(Pl:List (Option Nat)):List Rw->List (Rw×Nat)->List Nat->Nat->List Nat×List Rw×List (Rw×Nat)
 |R,E,[],_=>([],R,E)|R,E,k::ks,w=>((aY Y Pl R E k w).1::(bN Y Pl (aY Y Pl R E k w).2.1 (aY Y Pl R E k w).2.2 ks w).1,(bN Y Pl (aY Y Pl R E k w).2.1 (aY Y Pl R E k w).2.2 ks w).2)
def aA8(R:List Rw)(E:List (Rw×Nat))(r:Rw):↑R<=(eI R E r).2.1.length/\(eI R E r).2.1.length<=↑R+1/\(eI R E r).2.2.length<=↑E+1:=by unfold eI;split<;>simp
def iU(Y:List (Option (Yw×Nat)))(Pl:List (Option Nat))(R:List Rw)(E:List (Rw×Nat))(k w:Nat):↑R<=(aY Y Pl R E k w).2.1.length/\(aY Y Pl R E k w).2.1.length<=↑R+1/\(aY Y Pl R E k w).2.2.length<=↑E+1:=by
 unfold aY;split
 ·exact aA8 _ _ _
 ·split
  ·simp
  ·split<;>exact aA8 _ _ _
def aA0(Y:List (Option (Yw×Nat)))(Pl:List (Option Nat)):∀ (ks:List Nat) (R:List Rw) (E:List (Rw×Nat)) (w:Nat),↑R<=(bN Y Pl R E ks w).2.1.length/\(bN Y Pl R E ks w).2.1.length<=↑R+↑ks/\(bN Y Pl R E ks w).2.2.length<=↑E+↑ks/\(bN Y Pl R E ks w).1.length=↑ks
 |[],R,E,w=>by simp[bN]
 |k::ks,R,E,w=>by
   let(h1,h2,h3):=iU Y Pl R E k w;let(i1,i2,i3,i4):=aA0 Y Pl ks (aY Y Pl R E k w).2.1 (aY Y Pl R E k w).2.2 w;unfold bN;simp only[yAl];omega
def eJ(Y:List (Option (Yw×Nat)))(Pl:List (Option Nat))(k:Nat):Prop:=∃ y,Y[k]?=qz y/\∀ a b,y=qz (a,b)->∃ p,Pl[k]?=qz (qz p)
def oN(d:Nat)(P:D)(w:Nat)(hk:eJ Y Pl k)(st:Option (List D))(R:List Rw)(hR:↑R<=1000)(E:List (Rw×Nat))(hE:↑E<=1000)(T:aC) :
 cl fns (d+3) 57 [cE P (Y*>yD),.d (nD k),.d (.int w)] (sM st R Pl E T)=qz (.d (nD (aY Y Pl R E k w).1),sM st (aY Y Pl R E k w).2.1 Pl (aY Y Pl R E k w).2.2 T):=by let(y,hy,hp):=hk;exact aQa d P hy hp st R hR E hE T
def aA4{t:Tg}{fe:FE}(e:Nat->bB)(hput:∀ k,t.put (nD k) env=qz (e k)):∀ (ks:List Nat) (R:List Rw) (E:List (Rw×Nat)),↑R+↑ks<=1000->↑E+↑ks<=1000 ->
 (∀ k∈ks,∀ (R:List Rw) (E:List (Rw×Nat)) (T:aC),↑R<=1000->↑E<=1000->fe (e k) (sM st R Pl E T)=qz (.d (nD (aY Y Pl R E k w).1),sM st (aY Y Pl R E k w).2.1 Pl (aY Y Pl R E k w).2.2 T)) ->
 CRun t fe env (ks.map nD) ((bN Y Pl R E ks w).1.map nD) (sM st R Pl E T) (sM st (bN Y Pl R E ks w).2.1 Pl (bN Y Pl R E ks w).2.2 T)
 |[],R,E,_,_,_=>.nil
 |k::ks,R,E,h1,h2,h=>by
   rw[yAl] at h1 h2;have l:=iU Y Pl R E k w;exact .cons (S1:=sM st (aY Y Pl R E k w).2.1 Pl (aY Y Pl R E k w).2.2 T) (hput k) (λ aM=>h k xAc R E (T++[qz aM]) () ()) (by simp) (aA4 e hput ks _ _ () () λ k hk=>h k (xAf _ hk))
def jB(Y:List (Option (Yw×Nat)))(Pl:List (Option Nat))(R:List Rw)(E:List (Rw×Nat))(r:Rw)(a s w:Nat):Nat×List Rw×List (Rw×Nat):=
 let v:=min r.w (w+s);let q:=aY Y Pl R E a v
 if w<v then eI (q.2.1++[⟨r.wd,v,[q.1,s]⟩]) q.2.2 ⟨.cut,w,[q.2.1.length]⟩ else (q.2.1.length,q.2.1++[⟨r.wd,v,[q.1,s]⟩],q.2.2)
def aPJ(d:Nat)(P:D)(wd:Wd)(rw_ a s w:Nat)(ha:eJ Y Pl a)(st:Option (List D))(R:List Rw)(hR:↑R<=900)(E:List (Rw×Nat))(hE:↑E<=900)(T:aC) :
 cl fns (d+4) 58 [cE P (Y*>yD),.d (Rw.d ⟨wd,rw_,[a,s]⟩),.d (.int w)] (sM st R Pl E T)=qz (.d (.int ((jB Y Pl R E ⟨wd,rw_,[a,s]⟩ a s w).1:Nat)),sM st (jB Y Pl R E ⟨wd,rw_,[a,s]⟩ a s w).2.1 Pl (jB Y Pl R E ⟨wd,rw_,[a,s]⟩ a s w).2.2 T):=by
 have rd:Rw.d ⟨wd,rw_,[a,s]⟩=.tuple [.str wd.s,.int rw_,.int a,.int s]:=rfl;have x0:aH (.tuple [.str wd.s,.int rw_,.int a,.int s]) (.int 0)=qz (.str wd.s):=rfl;have x1:aH (.tuple [.str wd.s,.int rw_,.int a,.int s]) (.int 1)=qz (.int rw_):=rfl;have x2:aH (.tuple [.str wd.s,.int rw_,.int a,.int s]) (.int 2)=qz (.int a):=rfl;have x3:aH (.tuple [.str wd.s,.int rw_,.int a,.int s]) (.int 3)=qz (.int s):=rfl;have ad:(w:Int)+(s:Int)=((w+s:Nat):Int):=();have mn:gK [.int (rw_:Int),.int ((w+s:Nat):Int)]=qz (.int ((min rw_ (w+s):Nat):Int)):=by
  show qz (yAn (if ((w+s:Nat):Int)<(rw_:Int) then ((w+s:Nat):Int) else (rw_:Int)))=_;congr 2;split<;>omega
 unfold jB;dsimp only;generalize hv:min rw_ (w+s)=v at mn ⊢;have l:=iU Y Pl R E a v;have f1:cl fns (d+3) 57 [cE P (Y*>yD),.d (.int a),.d (.int v)] (sM st R Pl E T)=_:=oN d P v ha st R () E () T;have m1:∀ (x:Rw),cl fns (d+3) 55 [cE P (Y*>yD),.d x.d] (sM st (aY Y Pl R E a v).2.1 Pl (aY Y Pl R E a v).2.2 T)=_:=λ x=>qP (d+2) P (Y*>yD) false x st (aY Y Pl R E a v).2.1 () Pl (aY Y Pl R E a v).2.2 T
 have m2:cl fns (d+3) 55 [cE P (Y*>yD),.d (.tuple [.str wd.s,.int v,nD (aY Y Pl R E a v).1,.int s])] (sM st (aY Y Pl R E a v).2.1 Pl (aY Y Pl R E a v).2.2 T)=_:=m1 ⟨wd,v,[(aY Y Pl R E a v).1,s]⟩;have o1:cl fns (d+3) 56 [cE P (Y*>yD),.tpl [.d (.str "cut"),.d (.int w),.d (.int ((aY Y Pl R E a v).2.1.length:Nat))]] (sM st ((aY Y Pl R E a v).2.1++[⟨wd,v,[(aY Y Pl R E a v).1,s]⟩]) Pl (aY Y Pl R E a v).2.2 T)=_:=aDX (d+1) P (Y*>yD) ⟨.cut,w,[(aY Y Pl R E a v).2.1.length]⟩ st _ (by rw[yAo,yBy];omega) Pl _ () T;rw[aN rfl (d+3) _ _ rfl,rd];by_cases c:w<v
 ·rw[if_pos c];have cg:decide ((w:Int)<(v:Int))=true:=dqT ();erw[11,aCW,x0,x1,x2,x3,cV,ad,mn,f1,m2,fU,cg,o1,cI]
 ·rw[if_neg c];have cg:decide ((w:Int)<(v:Int))=false:=dqF ();erw[11,aCW,x0,x1,x2,x3,cV,ad,mn,f1,m2,fU,cg,cI]
def gN(Y:List (Option (Yw×Nat)))(Pl:List (Option Nat))(R:List Rw)(E:List (Rw×Nat))(wd:Wd)(a old w:Nat):Nat×List Rw×List (Rw×Nat):=
 if w<=old then aY Y Pl R E a w else eI (aY Y Pl R E a old).2.1 (aY Y Pl R E a old).2.2 ⟨wd,w,[(aY Y Pl R E a old).1]⟩
def aRa(d:Nat){rs:List Rw}(o:D)(wd:Wd)(rw_ a w:Nat)(hra:rs[a]?=qz ra)(ha:eJ Y Pl a)(st:Option (List D))(R:List Rw)(hR:↑R<=900)(E:List (Rw×Nat))(hE:↑E<=900)(T:aC) :
 cl fns (d+4) 59 [cE (rs<*o) (Y*>yD),.d (Rw.d ⟨wd,rw_,[a]⟩),.d (.int w)] (sM st R Pl E T)=qz (.d (.int ((gN Y Pl R E wd a ra.w w).1:Nat)),sM st (gN Y Pl R E wd a ra.w w).2.1 Pl (gN Y Pl R E wd a ra.w w).2.2 T):=by
 have rd:Rw.d ⟨wd,rw_,[a]⟩=.tuple [.str wd.s,.int rw_,.int a]:=rfl;have x0:aH (.tuple [.str wd.s,.int rw_,.int a]) (.int 0)=qz (.str wd.s):=rfl;have x2:aH (.tuple [.str wd.s,.int rw_,.int a]) (.int 2)=qz (.int a):=rfl;have wo:=λ S=>wR (d+2) a hra o S
 generalize hP:(yAk [(rs*>Rw.d),o])=P at wo ⊢;have l:=iU Y Pl R E a ra.w;have f1:∀ v:Nat,cl fns (d+3) 57 [cE P (Y*>yD),.d (.int a),.d (.int v)] (sM st R Pl E T)=_:=λ v=>oN d P v ha st R () E () T
 have f2:=f1 w;have f3:=f1 ra.w;have o1:cl fns (d+3) 56 [cE P (Y*>yD),.tpl [.d (.str wd.s),.d (.int w),.d (nD (aY Y Pl R E a ra.w).1)]] (sM st (aY Y Pl R E a ra.w).2.1 Pl (aY Y Pl R E a ra.w).2.2 T)=_:=aDX (d+1) P (Y*>yD) ⟨wd,w,[(aY Y Pl R E a ra.w).1]⟩ st _ () Pl _ () T;unfold gN;rw[aN rfl (d+3) _ _ rfl,rd];by_cases c:w<=ra.w
 ·rw[if_pos c];have cg:decide ((w:Int)<=(ra.w:Int))=true:=dqT ();erw[11,aCI,x0,x2,wo,aEt,cg,f2,cI]
 ·rw[if_neg c];have cg:decide ((w:Int)<=(ra.w:Int))=false:=dqF ();erw[11,aCI,x0,x2,wo,aEt,cg,f3,o1,cI]
def zR(a b:Yw):Nat:=(if a=.sign then 1 else 0)+(if b=.sign then 1 else 0)
def iB(wd:Wd)(a b:Yw×Nat)(old:Nat):Nat:=if zR a.1 b.1=1 then old else if zR a.1 b.1=0/\wd=.under then min old (max a.2 b.2+1) else max a.2 b.2
def aKY(a b:Yw):zH [.str a.s,.str b.s] (.str "sign")=qz (.int (zR a b:Nat)):=by cases a<;>cases b<;>kernel_rfl
def aI0(wd:Wd)(h:fA wd=true):aW .Eq (.str wd.s) (.str "under")=qz (.bool (decide (wd=.under))):=by cases wd<;>first|kernel_rfl|(exfalso;revert h;decide)
def aPd(d:Nat)(wd:Wd)(hw:fA wd=true)(a b:Yw×Nat)(old:Nat)(S:aC):cl fns (d+1) 60 [.d (.str wd.s),.d (yD (qz a)),.d (yD (qz b)),.d (.int old)] S=qz (.d (.int (iB wd a b old:Nat)),S):=by
 let(a,ka):=a;let(b,kb):=b;have x0:∀ (y:Yw) (k:Nat),aH (.tuple [.str y.s,.int k]) (.int 0)=qz (.str y.s):=λ _ _=>rfl
 have x1:∀ (y:Yw) (k:Nat),aH (.tuple [.str y.s,.int k]) (.int 1)=qz (.int k):=λ _ _=>rfl
 have ya:yD (qz (a,ka))=.tuple [.str a.s,.int ka]:=rfl;have yb:yD (qz (b,kb))=.tuple [.str b.s,.int kb]:=rfl;have mx:nQ [.int (ka:Int),.int (kb:Int)]=qz (.int ((max ka kb:Nat):Int)):=by
  show qz (yAn (if (kb:Int)>(ka:Int) then (kb:Int) else (ka:Int)))=_;congr 2;split<;>omega
 have cn:=aKY a b;have cu:=aI0 wd hw;unfold iB;dsimp only;rw[aN rfl d _ _ rfl,ya,yb];generalize max ka kb=g at mx ⊢;generalize zR a b=n at cn ⊢;by_cases c:n=1
 ·rw[if_pos c];have ce:((n:Int)==1)=true:=by rw[beq_iff_eq];omega
  erw[11,vA,x0,x1,mx,cn,bP,ce,yAg]
 ·rw[if_neg c];have ce:((n:Int)==1)=false:=by rw[beq_eq_false_iff_ne];omega
  by_cases z:n=0
  ·have cz:((n:Int)==0)=true:=by rw[beq_iff_eq];omega
   by_cases u:wd=.under
   ·rw[if_pos ⟨z,u⟩];rw[dqT u] at cu;have ad:(g:Int)+1=((g+1:Nat):Int):=();have mn:gK [.int (old:Int),.int ((g+1:Nat):Int)]=qz (.int ((min old (g+1):Nat):Int)):=by
     show qz (yAn (if ((g+1:Nat):Int)<(old:Int) then ((g+1:Nat):Int) else (old:Int)))=_;congr 2;split<;>omega
    erw[11,vA,x0,x1,mx,cn,bP,ce,cz,cu,cV,ad,mn,yAg]
   ·rw[if_neg λ q=>u q.2];rw[dqF u] at cu;erw[11,vA,x0,x1,mx,cn,bP,ce,cz,cu,yAg]
  ·rw[if_neg λ q=>z q.1];have cz:((n:Int)==0)=false:=by rw[beq_eq_false_iff_ne];omega
   erw[11,vA,x0,x1,mx,cn,bP,ce,cz,yAg]
def kL(Y:List (Option (Yw×Nat)))(Pl:List (Option Nat))(R:List Rw)(E:List (Rw×Nat))(wd:Wd)(a b v:Nat):Nat×List Rw×List (Rw×Nat):=
 let q:=bN Y Pl R E [a,b] v
 (q.2.1.length,q.2.1++[⟨wd,1,q.1⟩],q.2.2)
def aOr(d:Nat){rs:List Rw}(o:D)(wd:Wd)(hw:fA wd=true)(hcn:bG wd=2)(rw_ a b:Nat)(hra:rs[a]?=qz ra)(ha:eJ Y Pl a)(hb:eJ Y Pl b)(hya:Y[a]?=qz (qz ya))(hyb:Y[b]?=qz (qz yb))(st:Option (List D))(R:List Rw)(hR:↑R<=900)(E:List (Rw×Nat))(hE:↑E<=900)(T:aC) :
 cl fns (d+4) 61 [cE (rs<*o) (Y*>yD),.d (Rw.d ⟨wd,rw_,[a,b]⟩)] (sM st R Pl E T)=qz (.d (.int ((kL Y Pl R E wd a b (iB wd ya yb ra.w)).1:Nat)),sM st (kL Y Pl R E wd a b (iB wd ya yb ra.w)).2.1 Pl (kL Y Pl R E wd a b (iB wd ya yb ra.w)).2.2 T):=by
 have x0:aH (.tuple [.str wd.s,.int rw_,.int a,.int b]) (.int 0)=qz (.str wd.s):=rfl;have rd:Rw.d ⟨wd,rw_,[a,b]⟩=.tuple [.str wd.s,.int rw_,.int a,.int b]:=rfl;have op:∀ S,cl fns (d+3) 7 [.d (.tuple [.str wd.s,.int rw_,.int a,.int b])] S=qz (.d (.tuple [.int a,.int b]),S):=λ S=>by
  have:=mT (d+2) ⟨wd,rw_,[a,b]⟩ S;rw[hcn] at this;exact this
 have wo:=λ S=>wR (d+2) a hra o S
 generalize hP:(yAk [(rs*>Rw.d),o])=P at wo ⊢;have ia:aH (Y*>yD) (.int a)=qz (yD (qz ya)):=cW (by rw[yAd,hya];rfl);have ib:aH (Y*>yD) (.int b)=qz (yD (qz yb)):=cW (by rw[yAd,hyb];rfl);have cw:=λ S=>aPd (d+2) wd hw ya yb ra.w S
 generalize iB wd ya yb ra.w=v at cw ⊢;have l:=aA0 Y Pl [a,b] R E v;have hc:lv (d<$>3) aGg [qz (cE P (Y*>yD)),qz (.d (.tuple [.str wd.s,.int rw_,.int a,.int b])),(ra.w:),(v:),qx,(a:),(b:),qx] (sM st R Pl E T)=qz ((bN Y Pl R E [a,b] v).1.map nD,sM st (bN Y Pl R E [a,b] v).2.1 Pl (bN Y Pl R E [a,b] v).2.2 T):=by
  refine @qN _ _ ([a,b].map nD) _ (.one 7) _ _ (lv (d<$>3) (.it (.tup (.cons (.var 5) (.cons (.var 6) .nil))))) (ev (d<$>3) (.mth "fetch" 57 (.var 0) (.cons (.var 7) (.cons (.var 3) .nil)))) rfl (by simp) (aA4 _ (λ k=>rfl) [a,b] R E (by simp;omega) (by simp;omega) λ k hk R E T h1 h2=>?_);have hk':eJ Y Pl k:=by
   rcases List.mem_cons.mp hk with rfl|hk
   ·exact ha
   ·rw[List.mem_singleton.mp hk];exact hb
  exact xI rfl rfl rfl (oN d P v hk' st R h1 E h2 T)
 have tp:gU [.list ((bN Y Pl R E [a,b] v).1.map nD)]=qz (.tuple ((bN Y Pl R E [a,b] v).1.map nD)):=rfl;have ct:bV .Add (.tuple [.str wd.s,.int 1]) (.tuple ((bN Y Pl R E [a,b] v).1.map nD))=qz (Rw.d ⟨wd,1,(bN Y Pl R E [a,b] v).1⟩):=pI _ _ (by rw[yAc,l.2.2.2];simp);have m1:=qP (d+2) P (Y*>yD) false ⟨wd,1,(bN Y Pl R E [a,b] v).1⟩ st (bN Y Pl R E [a,b] v).2.1 (by have:=l.2.1;simp at this;omega) Pl (bN Y Pl R E [a,b] v).2.2 T;have m2:cl fns (d+3) 55 [cE P (Y*>yD),.d (Rw.d ⟨wd,1,(bN Y Pl R E [a,b] v).1⟩)] _=_:=m1;unfold kL;dsimp only;rw[aN rfl (d+3) _ _ rfl,rd];erw[11,aGy,x0,op,wo,ia,ib,cw,hc,tp,ct,m2,cI]
def gM(Y:List (Option (Yw×Nat)))(Pl:List (Option Nat))(R:List Rw)(E:List (Rw×Nat))(r:Rw)(w:Nat):Nat×List Rw×List (Rw×Nat):=
 let q:=bN Y Pl R E (bL r) w
 (q.2.1.length,q.2.1++[⟨r.wd,w,q.1++r.args.drop (bG r.wd)⟩],q.2.2)
def lQ(Y:List (Option (Yw×Nat)))(Pl:List (Option Nat))(R:List Rw)(E:List (Rw×Nat))(c a b w:Nat):Nat×List Rw×List (Rw×Nat):=
 let q:=aY Y Pl R E c 1;let z:=bN Y Pl q.2.1 q.2.2 [a,b] w
 (z.2.1.length,z.2.1++[⟨.pick,w,q.1::z.1⟩],z.2.2)
def aQs(d:Nat)(P:D)(rw_ c a b w:Nat)(hc:eJ Y Pl c)(ha:eJ Y Pl a)(hb:eJ Y Pl b)(st:Option (List D))(R:List Rw)(hR:↑R<=900)(E:List (Rw×Nat))(hE:↑E<=900)(T:aC) :
 cl fns (d+4) 63 [cE P (Y*>yD),.d (Rw.d ⟨.pick,rw_,[c,a,b]⟩),.d (.int w)] (sM st R Pl E T)=qz (.d (.int ((lQ Y Pl R E c a b w).1:Nat)),sM st (lQ Y Pl R E c a b w).2.1 Pl (lQ Y Pl R E c a b w).2.2 T):=by
 have rd:Rw.d ⟨.pick,rw_,[c,a,b]⟩=.tuple [.str "pick",.int rw_,.int c,.int a,.int b]:=rfl;have x2:aH (.tuple [.str "pick",.int rw_,.int c,.int a,.int b]) (.int 2)=qz (.int c):=rfl;have f1:cl fns (d+3) 57 [cE P (Y*>yD),.d (.int c),.d (.int 1)] (sM st R Pl E T)=_:=oN d P 1 hc st R () E () T;have l1:=iU Y Pl R E c 1;unfold lQ;dsimp only;generalize aY Y Pl R E c 1=q at f1 l1 ⊢;let(q0,R1,E1):=q;dsimp only at f1 l1 ⊢;have l:=aA0 Y Pl [a,b] R1 E1 w;have hC:lv (d<$>3) aGs [qz (cE P (Y*>yD)),qz (.d (.tuple [.str "pick",.int rw_,.int c,.int a,.int b])),(w:),qz (.d (nD q0)),qx,qx] (sM st R1 Pl E1 T)=qz ((bN Y Pl R1 E1 [a,b] w).1.map nD,sM st (bN Y Pl R1 E1 [a,b] w).2.1 Pl (bN Y Pl R1 E1 [a,b] w).2.2 T):=by
  refine @qN _ _ ([a,b].map nD) _ (.one 5) _ _ (lv (d<$>3) (.it (.sl (.var 1) (.cons (.int 3) .nil) .no))) (ev (d<$>3) (.mth "fetch" 57 (.var 0) (.cons (.var 5) (.cons (.var 2) .nil)))) rfl (by simp) (aA4 _ (λ k=>rfl) [a,b] R1 E1 (by simp;omega) (by simp;omega) λ k hk R E T h1 h2=>?_);have hk':eJ Y Pl k:=by
   rcases List.mem_cons.mp hk with rfl|hk
   ·exact ha
   ·rw[List.mem_singleton.mp hk];exact hb
  exact xI rfl rfl rfl (oN d P w hk' st R h1 E h2 T)
 have tp:gU [.list ((bN Y Pl R1 E1 [a,b] w).1.map nD)]=qz (.tuple ((bN Y Pl R1 E1 [a,b] w).1.map nD)):=rfl;have ct:bV .Add (.tuple [.str "pick",.int w,nD q0]) (.tuple ((bN Y Pl R1 E1 [a,b] w).1.map nD))=qz (Rw.d ⟨.pick,w,q0::(bN Y Pl R1 E1 [a,b] w).1⟩):=pI _ _ (by rw[yAc,l.2.2.2];simp);have m2:cl fns (d+3) 55 [cE P (Y*>yD),.d (Rw.d ⟨.pick,w,q0::(bN Y Pl R1 E1 [a,b] w).1⟩)] _=_:=qP (d+2) P (Y*>yD) false ⟨.pick,w,q0::(bN Y Pl R1 E1 [a,b] w).1⟩ st (bN Y Pl R1 E1 [a,b] w).2.1 (by have:=l.2.1;simp at this;omega) Pl (bN Y Pl R1 E1 [a,b] w).2.2 T;rw[aN rfl (d+3) _ _ rfl,rd];erw[11,aG8,x2,f1,hC,tp,ct,m2,cI]
def aXh(a:List D)(k:Nat):dY a qx (qz (k:Nat))=a.take k:=by
 unfold dY;have h0:HT.sIx ↑a 0 qx=0:=rfl;rw[h0];have h1:HT.sIx ↑a ↑a (qz (k:Int))=min k ↑a:=by
  unfold HT.sIx;simp only[];split<;>omega
 rw[h1];simp[List.take_eq_take_iff]
def aRV(d:Nat)(r:Rw)(ns:List Nat)(h:↑ns<=3)(ha:↑r.args<=10)(S:aC):cl fns (d+1) 8 [.d r.d,.d (ns*>nD)] S=qz (.d (Rw.d ⟨r.wd,r.w,ns++r.args.drop ↑ns⟩),S):=by
 have lP:iL [(ns*>nD)]=qz (.int ↑ns):=by
  show qz (yAn ((↑(ns.map nD):Nat):Int))=_;rw[yAc]
 have ad:(2:Int)+((↑ns:Nat):Int)=((2+↑ns:Nat):Int):=();have rd:r.d=.tuple (.str r.wd.s::nD r.w::r.args.map nD):=rfl;have h1:dY (.str r.wd.s::nD r.w::r.args.map nD) qx (qz 2)=[.str r.wd.s,nD r.w]:=(aXh _ 2).trans rfl;have h2:dY (.str r.wd.s::nD r.w::r.args.map nD) (qz ((2+↑ns:Nat):Int)) qx=(r.args.drop ↑ns).map nD:=by
  rw[aAT,yDo 2,List.map_drop];rfl
 have h3:bV .Add (.tuple [.str r.wd.s,nD r.w]) (ns*>nD)=qz (.tuple ([.str r.wd.s,nD r.w]++ns.map nD)):=pI _ _ (by simp;omega);have h4:bV .Add (.tuple ([.str r.wd.s,nD r.w]++ns.map nD)) (.tuple ((r.args.drop ↑ns).map nD))=qz (Rw.d ⟨r.wd,r.w,ns++r.args.drop ↑ns⟩):=by
  rw[pI _ _ (by simp;omega)];show _=qz (yAk (.str r.wd.s::nD r.w::(ns++r.args.drop ↑ns).map nD));rw[yAv];rfl
 rw[aN rfl d _ S rfl];rw[rd];erw[11,aGk,oG,lP,cV,ad,h1,h2,h3,h4]
def aRb(d:Nat)(P:D)(r:Rw)(w:Nat)(hc:↑(bL r)=bG r.wd)(hc3:bG r.wd<=3)(hl:↑r.args<=10)(ho:∀ a∈bL r,eJ Y Pl a)(st:Option (List D))(R:List Rw)(hR:↑R<=900)(E:List (Rw×Nat))(hE:↑E<=900)(T:aC) :
 cl fns (d+4) 62 [cE P (Y*>yD),.d r.d,.d (.int w)] (sM st R Pl E T)=qz (.d (.int ((gM Y Pl R E r w).1:Nat)),sM st (gM Y Pl R E r w).2.1 Pl (gM Y Pl R E r w).2.2 T):=by
 have rd:r.d=.tuple (.str r.wd.s::nD r.w::r.args.map nD):=rfl;have x0:aH (.tuple (.str r.wd.s::nD r.w::r.args.map nD)) (.int 0)=qz (.str r.wd.s):=tH r;have op:∀ S,cl fns (d+3) 7 [.d (.tuple (.str r.wd.s::nD r.w::r.args.map nD))] S=qz (.d (.tuple ((bL r).map nD)),S):=λ S=>mT (d+2) r S
 have l:=aA0 Y Pl (bL r) R E w;have h2:dY (.str r.wd.s::nD r.w::r.args.map nD) (qz 2) qx=r.args.map nD:=(aAT _ 2).trans rfl;have h3:bV .Add (.tuple [.str r.wd.s,.int w]) (.tuple (r.args.map nD))=qz (Rw.d ⟨r.wd,w,r.args⟩):=pI _ _ (by simp;omega);have hC:lv (d<$>3) aGz [qz (cE P (Y*>yD)),qz (.d (.tuple (.str r.wd.s::nD r.w::r.args.map nD))),(w:),qx,qx] (sM st R Pl E T)=qz ((bN Y Pl R E (bL r) w).1.map nD,sM st (bN Y Pl R E (bL r) w).2.1 Pl (bN Y Pl R E (bL r) w).2.2 T):=by
  refine @qN _ _ ((bL r).map nD) _ (.one 4) _ _ (lv (d<$>3) (.it (.call 7 (.cons (.var 1) .nil)))) (ev (d<$>3) (.mth "fetch" 57 (.var 0) (.cons (.var 4) (.cons (.var 2) .nil)))) ?_ (by rw[yAc];omega) (aA4 _ (λ k=>rfl) (bL r) R E () () λ k hk R E T h1 h2=>?_)
  ·erw[0,op,eV]
  ·exact xI rfl rfl rfl (oN d P w (ho k hk) st R h1 E h2 T)
 have tp:gU [.list ((bN Y Pl R E (bL r) w).1.map nD)]=qz (.tuple ((bN Y Pl R E (bL r) w).1.map nD)):=rfl;have wp:=λ S=>aRV (d+2) ⟨r.wd,w,r.args⟩ (bN Y Pl R E (bL r) w).1 (by rw[l.2.2.2];omega) hl S
 have el:(bN Y Pl R E (bL r) w).1.length=bG r.wd:=by rw[l.2.2.2];exact hc
 simp only[el] at wp;have m2:cl fns (d+3) 55 [cE P (Y*>yD),.d (Rw.d ⟨r.wd,w,(bN Y Pl R E (bL r) w).1++r.args.drop (bG r.wd)⟩)] _=_:=qP (d+2) P (Y*>yD) false ⟨r.wd,w,(bN Y Pl R E (bL r) w).1++r.args.drop (bG r.wd)⟩ st (bN Y Pl R E (bL r) w).2.1 () Pl (bN Y Pl R E (bL r) w).2.2 T;unfold gM;dsimp only;rw[aN rfl (d+3) _ _ rfl,rd];erw[11,aHe,x0,hC,zJ,h2,h3,tp,wp,m2,cI]
def pO(h:aW op a b=qz (.bool x))(e:x=true):aW op a b=qz (.bool true):=by rw[h,e]
def cS(h:aW op a b=qz (.bool x))(e:x=false):aW op a b=qz (.bool false):=by rw[h,e]
def pQ(wd:Wd):aW .Eq (.str wd.s) (.str "in")=qz (.bool (wd==.in)):=by cases wd<;>kernel_rfl
def rT(wd:Wd):aW .Eq (.str wd.s) (.str "num")=qz (.bool (wd==.num)):=by cases wd<;>kernel_rfl
def lL(wd:Wd):aW .In (.str wd.s) (.tuple [.str "right",.str "slide"])=qz (.bool ((wd==.right||wd==.slide))):=by cases wd<;>kernel_rfl
def zV(wd:Wd):aW .Eq (.str wd.s) (.str "cut")=qz (.bool (wd==.cut)):=by cases wd<;>kernel_rfl
def cq5(wd:Wd):aW .In (.str wd.s) (aCY*>Tv.d)=qz (.bool ((wd==.wide||wd==.sign))):=by cases wd<;>kernel_rfl
def cq6(wd:Wd):aW .In (.str wd.s) (qC*>Tv.d)=qz (.bool (fA wd)):=by cases wd<;>kernel_rfl
def cq7(wd:Wd):aW .Eq (.str wd.s) (.str "pick")=qz (.bool (wd==.pick)):=by cases wd<;>kernel_rfl
def aXq(d:Nat)(P:D)(w0 w:Nat)(st:Option (List D))(R:List Rw)(hR:↑R<=900)(E:List (Rw×Nat))(hE:↑E<=900)(T:aC) :
 cl fns (d+5) 64 [cE P (Y*>yD),.d (Rw.d ⟨.in,w0,[]⟩),.d (.int w)] (sM st R Pl E T)=qz (.d (.int (((↑R,R++[⟨.in,w0,[]⟩],E)).1:Nat)),sM st ((↑R,R++[⟨.in,w0,[]⟩],E)).2.1 Pl ((↑R,R++[⟨.in,w0,[]⟩],E)).2.2 T):=by have x0:aH (Rw.d ⟨.in,w0,[]⟩) (.int 0)=qz (.str Wd.in.s):=rfl;have c1:=pO (pQ Wd.in) rfl;have m1:cl fns (d+4) 55 [cE P (Y*>yD),.d (Rw.d ⟨.in,w0,[]⟩)] (sM st R Pl E T)=_:=qP (d+3) P (Y*>yD) false ⟨.in,w0,[]⟩ st R () Pl E T;rw[aN rfl (d+4) _ _ rfl];erw[11,mV,x0,c1,m1,cI]
def aUx(d:Nat)(P:D)(w0 n w:Nat)(hw:w<=64)(st:Option (List D))(R:List Rw)(hR:↑R<=900)(E:List (Rw×Nat))(hE:↑E<=900)(T:aC) :
 cl fns (d+5) 64 [cE P (Y*>yD),.d (Rw.d ⟨.num,w0,[n]⟩),.d (.int w)] (sM st R Pl E T)=qz (.d (.int (((↑R,R++[⟨.num,w,[n%2^w]⟩],E)).1:Nat)),sM st ((↑R,R++[⟨.num,w,[n%2^w]⟩],E)).2.1 Pl ((↑R,R++[⟨.num,w,[n%2^w]⟩],E)).2.2 T):=by
 have x0:aH (Rw.d ⟨.num,w0,[n]⟩) (.int 0)=qz (.str Wd.num.s):=rfl;have c1:=cS (pQ Wd.num) rfl;have c2:=pO (rT Wd.num) rfl;have x2:aH (Rw.d ⟨.num,w0,[n]⟩) (.int 2)=qz (.int n):=rfl;have fo:=λ S=>dF (d+3) w () S
 have an:(n&&&(2^w-1):Nat)=n%2^w:=yEa n w;have m1:cl fns (d+4) 55 [cE P (Y*>yD),.d (.tuple [.str "num",.int w,.int ((n%2^w:Nat):Int)])] (sM st R Pl E T)=_:=qP (d+3) P (Y*>yD) false ⟨.num,w,[n%2^w]⟩ st R () Pl E T;rw[aN rfl (d+4) _ _ rfl];erw[11,mV,x0,c1,c2,x2,fo,dJ,an,m1,cI]
def aL4(d:Nat)(P:D)(wd:Wd)(bC:(wd==.right||wd==.slide)=true)(h1:(wd==.in)=false)(h2:(wd==.num)=false)(w0 a s w:Nat)(ha:eJ Y Pl a)(st:Option (List D))(R:List Rw)(hR:↑R<=900)(E:List (Rw×Nat))(hE:↑E<=900)(T:aC) :
 cl fns (d+5) 64 [cE P (Y*>yD),.d (Rw.d ⟨wd,w0,[a,s]⟩),.d (.int w)] (sM st R Pl E T)=qz (.d (.int ((jB Y Pl R E ⟨wd,w0,[a,s]⟩ a s w).1:Nat)),sM st (jB Y Pl R E ⟨wd,w0,[a,s]⟩ a s w).2.1 Pl (jB Y Pl R E ⟨wd,w0,[a,s]⟩ a s w).2.2 T):=by have x0:aH (Rw.d ⟨wd,w0,[a,s]⟩) (.int 0)=qz (.str wd.s):=rfl;have c1:=cS (pQ wd) h1;have c2:=cS (rT wd) h2;have c3:=pO (lL wd) bC;have m1:=aPJ d P wd w0 a s w ha st R hR E hE T;rw[aN rfl (d+4) _ _ rfl];erw[11,mV,x0,c1,c2,c3,m1,cI]
def aWl(d:Nat)(P:D)(w0 a w:Nat)(ha:eJ Y Pl a)(st:Option (List D))(R:List Rw)(hR:↑R<=900)(E:List (Rw×Nat))(hE:↑E<=900)(T:aC) :
 cl fns (d+5) 64 [cE P (Y*>yD),.d (Rw.d ⟨.cut,w0,[a]⟩),.d (.int w)] (sM st R Pl E T)=qz (.d (.int ((aY Y Pl R E a w).1:Nat)),sM st (aY Y Pl R E a w).2.1 Pl (aY Y Pl R E a w).2.2 T):=by have x0:aH (Rw.d ⟨.cut,w0,[a]⟩) (.int 0)=qz (.str Wd.cut.s):=rfl;have c1:=cS (pQ Wd.cut) rfl;have c2:=cS (rT Wd.cut) rfl;have c3:=cS (lL Wd.cut) rfl;have c4:=pO (zV Wd.cut) rfl;have x2:aH (Rw.d ⟨.cut,w0,[a]⟩) (.int 2)=qz (nD a):=rfl;have m1:cl fns (d+4) 57 [cE P (Y*>yD),.d (nD a),.d (.int w)] (sM st R Pl E T)=qz (.d (.int ((aY Y Pl R E a w).1:Nat)),sM st (aY Y Pl R E a w).2.1 Pl (aY Y Pl R E a w).2.2 T):=oN (d+1) P w ha st R () E () T;rw[aN rfl (d+4) _ _ rfl];erw[11,mV,x0,c1,c2,c3,c4,x2,m1,cI]
def aMv(d:Nat){rs:List Rw}(o:D)(wd:Wd)(bC:(wd==.wide||wd==.sign)=true)(h1:(wd==.in)=false)(h2:(wd==.num)=false)(h3:(wd==.right||wd==.slide)=false)(h4:(wd==.cut)=false)(w0 a w:Nat)(hra:rs[a]?=qz ra)(ha:eJ Y Pl a)(st:Option (List D))(R:List Rw)(hR:↑R<=900)(E:List (Rw×Nat))(hE:↑E<=900)(T:aC) :
 cl fns (d+5) 64 [cE (rs<*o) (Y*>yD),.d (Rw.d ⟨wd,w0,[a]⟩),.d (.int w)] (sM st R Pl E T)=qz (.d (.int ((gN Y Pl R E wd a ra.w w).1:Nat)),sM st (gN Y Pl R E wd a ra.w w).2.1 Pl (gN Y Pl R E wd a ra.w w).2.2 T):=by have x0:aH (Rw.d ⟨wd,w0,[a]⟩) (.int 0)=qz (.str wd.s):=rfl;have c1:=cS (pQ wd) h1;have c2:=cS (rT wd) h2;have c3:=cS (lL wd) h3;have c4:=cS (zV wd) h4;have c5:=pO (cq5 wd) bC;have m1:=aRa d o wd w0 a w hra ha st R hR E hE T;rw[aN rfl (d+4) _ _ rfl];erw[11,mV,x0,c1,c2,c3,c4,c5,m1,cI]
def aYL(d:Nat){rs:List Rw}(o:D)(wd:Wd)(bC:fA wd=true)(hcn:bG wd=2)(h1:(wd==.in)=false)(h2:(wd==.num)=false)(h3:(wd==.right||wd==.slide)=false)(h4:(wd==.cut)=false)(h5:(wd==.wide||wd==.sign)=false)(w0 a b w:Nat)(hra:rs[a]?=qz ra)(ha:eJ Y Pl a)(hb:eJ Y Pl b)(hya:Y[a]?=qz (qz ya))(hyb:Y[b]?=qz (qz yb))(st:Option (List D))(R:List Rw)(hR:↑R<=900)(E:List (Rw×Nat))(hE:↑E<=900)(T:aC) :
 cl fns (d+5) 64 [cE (rs<*o) (Y*>yD),.d (Rw.d ⟨wd,w0,[a,b]⟩),.d (.int w)] (sM st R Pl E T)=qz (.d (.int ((kL Y Pl R E wd a b (iB wd ya yb ra.w)).1:Nat)),sM st (kL Y Pl R E wd a b (iB wd ya yb ra.w)).2.1 Pl (kL Y Pl R E wd a b (iB wd ya yb ra.w)).2.2 T):=by have x0:aH (Rw.d ⟨wd,w0,[a,b]⟩) (.int 0)=qz (.str wd.s):=rfl;have c1:=cS (pQ wd) h1;have c2:=cS (rT wd) h2;have c3:=cS (lL wd) h3;have c4:=cS (zV wd) h4;have c5:=cS (cq5 wd) h5;have c6:=pO (cq6 wd) bC;have m1:=aOr d o wd bC hcn w0 a b hra ha hb hya hyb st R hR E hE T;rw[aN rfl (d+4) _ _ rfl];erw[11,mV,x0,c1,c2,c3,c4,c5,c6,m1,cI]
def aX5(d:Nat)(P:D)(w0 c a b w:Nat)(hc:eJ Y Pl c)(ha:eJ Y Pl a)(hb:eJ Y Pl b)(st:Option (List D))(R:List Rw)(hR:↑R<=900)(E:List (Rw×Nat))(hE:↑E<=900)(T:aC) :
 cl fns (d+5) 64 [cE P (Y*>yD),.d (Rw.d ⟨.pick,w0,[c,a,b]⟩),.d (.int w)] (sM st R Pl E T)=qz (.d (.int ((lQ Y Pl R E c a b w).1:Nat)),sM st (lQ Y Pl R E c a b w).2.1 Pl (lQ Y Pl R E c a b w).2.2 T):=by have x0:aH (Rw.d ⟨.pick,w0,[c,a,b]⟩) (.int 0)=qz (.str Wd.pick.s):=rfl;have c1:=cS (pQ Wd.pick) rfl;have c2:=cS (rT Wd.pick) rfl;have c3:=cS (lL Wd.pick) rfl;have c4:=cS (zV Wd.pick) rfl;have c5:=cS (cq5 Wd.pick) rfl;have c6:=cS (cq6 Wd.pick) rfl;have c7:=pO (cq7 Wd.pick) rfl;have m1:=aQs d P w0 c a b w hc ha hb st R hR E hE T;rw[aN rfl (d+4) _ _ rfl];erw[11,mV,x0,c1,c2,c3,c4,c5,c6,c7,m1,cI]
def aBJ(d:Nat)(P:D)(r:Rw)(h1:(r.wd==.in)=false)(h2:(r.wd==.num)=false)(h3:(r.wd==.right||r.wd==.slide)=false)(h4:(r.wd==.cut)=false)(h5:(r.wd==.wide||r.wd==.sign)=false)(h6:fA r.wd=false)(h7:(r.wd==.pick)=false)(w:Nat)(hc:↑(bL r)=bG r.wd)(hc3:bG r.wd<=3)(hl:↑r.args<=10)(ho:∀ a∈bL r,eJ Y Pl a)(st:Option (List D))(R:List Rw)(hR:↑R<=900)(E:List (Rw×Nat))(hE:↑E<=900)(T:aC) :
 cl fns (d+5) 64 [cE P (Y*>yD),.d (Rw.d r),.d (.int w)] (sM st R Pl E T)=qz (.d (.int ((gM Y Pl R E r w).1:Nat)),sM st (gM Y Pl R E r w).2.1 Pl (gM Y Pl R E r w).2.2 T):=by have x0:aH (Rw.d r) (.int 0)=qz (.str r.wd.s):=tH r;have c1:=cS (pQ r.wd) h1;have c2:=cS (rT r.wd) h2;have c3:=cS (lL r.wd) h3;have c4:=cS (zV r.wd) h4;have c5:=cS (cq5 r.wd) h5;have c6:=cS (cq6 r.wd) h6;have c7:=cS (cq7 r.wd) h7;have m1:=aRb d P r w hc hc3 hl ho st R hR E hE T;rw[aN rfl (d+4) _ _ rfl];erw[11,mV,x0,c1,c2,c3,c4,c5,c6,c7,m1,cI]
def a0(r:Rw)(i:Nat):Nat:=r.args.getD i 0
def yo(Y:List (Option (Yw×Nat)))(a:Nat):Yw×Nat:=(Y.getD a qx).getD (.cut,0)
def iI(W:List Nat)(Y:List (Option (Yw×Nat)))(Pl:List (Option Nat))(R:List Rw)(E:List (Rw×Nat))(r:Rw)(w:Nat):Nat×List Rw×List (Rw×Nat):=
 if (r.wd==.in)=true then (↑R,R++[r],E) else
 if (r.wd==.num)=true then (↑R,R++[⟨.num,w,[a0 r 0%2^w]⟩],E) else
 if (r.wd==.right||r.wd==.slide)=true then jB Y Pl R E r (a0 r 0) (a0 r 1) w else
 if (r.wd==.cut)=true then aY Y Pl R E (a0 r 0) w else
 if (r.wd==.wide||r.wd==.sign)=true then gN Y Pl R E r.wd (a0 r 0) (g0 W (a0 r 0)) w else
 if fA r.wd=true then kL Y Pl R E r.wd (a0 r 0) (a0 r 1) (iB r.wd (yo Y (a0 r 0)) (yo Y (a0 r 1)) (g0 W (a0 r 0))) else
 if (r.wd==.pick)=true then lQ Y Pl R E (a0 r 0) (a0 r 1) (a0 r 2) w else gM Y Pl R E r w
def Cok(Y:List (Option (Yw×Nat)))(r:Rw):Prop:=fA r.wd=true->∀ a∈bL r,∃ y,Y[a]?=qz (qz y)
def aRO(d:Nat){rs:List Rw}(f1:RwOk r ws)(o:D)(w:Nat)(hw:w<=64)(hr:∀ a∈bL r,∃ ra,rs[a]?=qz ra)(ho:∀ a∈bL r,eJ Y Pl a)(hc:Cok Y r)(st:Option (List D))(R:List Rw)(hR:↑R<=900)(E:List (Rw×Nat))(hE:↑E<=900)(T:aC) :
 cl fns (d+5) 64 [cE (rs<*o) (Y*>yD),.d (Rw.d r),.d (.int w)] (sM st R Pl E T)=qz (.d (.int ((iI (~~~rs) Y Pl R E r w).1:Nat)),sM st (iI (~~~rs) Y Pl R E r w).2.1 Pl (iI (~~~rs) Y Pl R E r w).2.2 T):=by
 generalize hP:(yAk [(rs*>Rw.d),o])=P;cases f1 with
 |inp h1 h2=>exact aXq d P _ w st R hR E hE T|num h1 h2 hn=>exact aUx d P _ _ w hw st R hR E hE T|nt h1 h2=>exact aBJ d P _ rfl rfl rfl rfl rfl rfl rfl w rfl (yAu rfl) (yAu rfl) ho st R hR E hE T
 |sh h1 h2 bC hk=>
   erw[50,bC]
   ·exact aBJ d P _ rfl rfl rfl rfl rfl rfl rfl w rfl (yAu rfl) (yAu rfl) ho st R hR E hE T
   ·exact aL4 d P _ rfl rfl rfl _ _ _ w (ho _ xAc) st R hR E hE T
   ·exact aL4 d P _ rfl rfl rfl _ _ _ w (ho _ xAc) st R hR E hE T
 |cut h1 hv h2=>exact aWl d P _ _ w (ho _ xAc) st R hR E hE T
 |wide h1 hv h2=>
   rename_i w0 v a;let(ra,hra):=hr a xAc;have:=aMv d o .wide rfl rfl rfl rfl rfl w0 a w hra (ho a xAc) st R hR E hE T;rw[<- hV hra,hP] at this;exact this
 |sign h1 hv h2=>
   rename_i w0 v a;let(ra,hra):=hr a xAc;have:=aMv d o .sign rfl rfl rfl rfl rfl w0 a w hra (ho a xAc) st R hR E hE T;rw[<- hV hra,hP] at this;exact this
 |bw h1 h2 bC=>erw[50,bC]<;>exact aBJ d P _ rfl rfl rfl rfl rfl rfl rfl w rfl (yAu rfl) (yAu rfl) ho st R hR E hE T
 |sm h1 h2=>
   rename_i s _ _ _;cases s<;>exact aBJ d P _ rfl rfl rfl rfl rfl rfl rfl w rfl (yAu rfl) (yAu rfl) ho st R hR E hE T
 |cmp h1 h2 bC=>
   rename_i wd v a b;have two:bL ⟨wd,1,[a,b]⟩=[a,b]:=by erw[50,bC]<;>rfl
   have ma:a∈bL ⟨wd,1,[a,b]⟩:=by rw[two];simp
   have mb:b∈bL ⟨wd,1,[a,b]⟩:=by rw[two];simp
   let(ra,hra):=hr a ma;have hcw:fA wd=true:=by erw[50,bC]<;>rfl
   let(ya,hya):=hc hcw a ma;let(yb,hyb):=hc hcw b mb;have ea:yo Y a=ya:=by unfold yo;rw[xAg,hya];rfl
   have eb:yo Y b=yb:=by unfold yo;rw[xAg,hyb];rfl
   have t:∀ wd:Wd,fA wd=true->(bG wd=2/\(wd==.in)=false/\(wd==.num)=false/\(wd==.right||wd==.slide)=false/\(wd==.cut)=false/\(wd==.wide||wd==.sign)=false):=λ wd=>by cases wd<;>decide
   let(t0,t1,t2,t3,t4,t5):=t wd hcw;have:=aYL d o wd hcw t0 t1 t2 t3 t4 t5 1 a b w hra (ho a ma) (ho b mb) hya hyb st R hR E hE T;rw[<- hV hra,<- ea,<- eb,hP] at this;erw[50,bC]<;>exact this
 |pick h1 h2=>exact aX5 d P _ _ _ _ w (ho _ (by simp[bL,bG])) (ho _ (by simp[bL,bG])) (ho _ (by simp[bL,bG])) st R hR E hE T
noncomputable abbrev cM(Y:D):W:=.tpl [.loc 1,.dic 2,.loc 3,.d Y]
noncomputable abbrev sH(st:Option (List D))(R:List Rw)(E:List (Rw×Nat))(Pl:List (Option Nat))(T:aC):aC:=st::qz (R.map Rw.d)::qz ((dA E).map kK)::qz (Pl.map jI)::T
def aP8(b:Bool)(r:Rw)(st:Option (List D))(R:List Rw)(hR:↑R<=1000)(Pl:List (Option Nat))(E:List (Rw×Nat))(T:aC):cX (sH st R E Pl T) (.loc 1) (aB4 b r)=qz (.d .none,sH st (R++[r]) E Pl T):=by
 have h:mP (sH st R E Pl T) 1 r.d=qz (.d .none,sH st (R++[r]) E Pl T):=by
  unfold mP;have:(sH st R E Pl T)[1]?=qz (qz (R.map Rw.d)):=rfl;rw[this];dsimp only;rw[if_pos (by rw[yAc,zq];omega),show R.map Rw.d++[r.d]=(R++[r]).map Rw.d by rw[yAv];rfl];rfl
 cases b with
 |false=>exact h
 |true=>
   show(eX _).bind (λ l=>mP (sH st R E Pl T) 1 (.tuple l))=_;rw[aMt];exact h
def sN(d:Nat)(Y:D)(b:Bool)(r:Rw)(st:Option (List D))(R:List Rw)(hR:↑R<=1000)(Pl:List (Option Nat))(E:List (Rw×Nat))(T:aC):cl fns (d+1) 83 [cM Y,aB4 b r] (sH st R E Pl T)=qz (.d (.int ↑R),sH st (R++[r]) E Pl T):=by
 have ap:=aP8 b r st R hR Pl E T;have ln:iL [.list ((R++[r]).map Rw.d)]=qz (.int ((↑R+1:Nat):Int)):=by
  show qz (yAn ((↑((R++[r]).map Rw.d):Nat):Int))=_;rw[yAc,yAo];rfl
 have sb:(((↑R+1:Nat):Int))-1=((↑R:Nat):Int):=();rw[aN rfl d _ _ rfl];erw[11,aG4,ap,ln,cP,sb,cI]
def aFp(st:Option (List D))(R:List Rw)(Pl:List (Option Nat))(E:List (Rw×Nat))(T:aC):jZ (sH st R E Pl T) 2=qz (dA E):=by unfold jZ;show qz (((dA E).map kK).filterMap rJ)=_;rw[aB0]
def aIr(d:Nat)(Y:D)(r:Rw)(st:Option (List D))(R:List Rw)(hR:↑R<=1000)(Pl:List (Option Nat))(E:List (Rw×Nat))(hE:↑E<=1000)(T:aC):cl fns (d+2) 84 [cM Y,zC r] (sH st R E Pl T)=qz (.d (.int ((eI R E r).1:Nat)),sH st (eI R E r).2.1 (eI R E r).2.2 Pl T):=by
 have mk':cl fns (d+1) 83 [cM Y,.tpl (.d (.str r.wd.s) :: .d (nD r.w)::r.args.map λ a=>.d (nD a))] (sH st R E Pl T)=qz (.d (.int ↑R),sH st (R++[r]) E Pl T):=sN d Y true r st R hR Pl E T;have k1:=aLN r;have d1:=aFp st R Pl E T;have d2:=aFp st (R++[r]) Pl E T;have hl:↑(dA E)<qk:=by unfold dA;rw[yAc,zq];omega
 unfold eI zC;rw[aN rfl (d+1) _ _ rfl];cases hv:dH (dA E) (iD r) with
 |some i=>
   have hi:=aIG hv;have hv':dH (dA E) (iD r)=qz (i.toNat:Int):=by rw[hi];exact hv
   dsimp only;erw[11,aC6,k1,d1,hv',cI]
 |none=>
   have pt:nN (dA E) (iD r) ((↑R:Nat):Int)=dA (E++[(r,↑R)]):=by
    unfold nN;rw[hv,if_neg (·),aAQ]
   have d3:=aFp st (R++[r]) Pl (E++[(r,↑R)]) T;have hv2:dH (dA (E++[(r,↑R)])) (iD r)=qz ((↑R:Nat):Int):=by rw[aAQ];exact aHB hv
   dsimp only;erw[11,aC6,k1,d1,d2,hv,mk',hl,pt,d3,hv2,cI]
def jV(R:List Rw)(E:List (Rw×Nat))(k v:Nat)(wd:Wd)(w:Nat):Nat×List Rw×List (Rw×Nat):=if v=w then (k,R,E) else eI R E ⟨if w<v then .cut else wd,w,[k]⟩
def aED(d:Nat)(Y:D)(wd:Wd){k w:Nat}{rk:Rw}{st:Option (List D)}{R:List Rw}(hk:R[k]?=qz rk)(hR:↑R<=1000)(Pl:List (Option Nat))(E:List (Rw×Nat))(hE:↑E<=1000)(T:aC):cl fns (d+3) 85 [cM Y,.d (.int k),.d (.str wd.s),.d (.int w)] (sH st R E Pl T)=qz (.d (.int ((jV R E k rk.w wd w).1:Nat)),sH st (jV R E k rk.w wd w).2.1 (jV R E k rk.w wd w).2.2 Pl T):=by
 have i0:aH (.list (R.map Rw.d)) (.int k)=qz rk.d:=mI (by rw[yAd,hk];rfl);have i1:=dD rk;have on:=λ(x:Rw)=>aIr d Y x st R hR Pl E hE T
 unfold jV;rw[aN rfl (d+2) _ _ rfl];by_cases c:rk.w=w
 ·rw[if_pos c];have ce:((rk.w:Int)==(w:Int))=true:=by rw[beq_iff_eq];omega
  erw[11,aAP,i0,i1,bP,ce,cI]
 ·rw[if_neg c];have ce:((rk.w:Int)==(w:Int))=false:=by rw[beq_eq_false_iff_ne];omega
  by_cases g:w<rk.w
  ·rw[if_pos g];have cg:decide ((w:Int)<(rk.w:Int))=true:=dqT ();have o1:cl fns (d+2) 84 [cM Y,.tpl [.d (.str "cut"),.d (.int w),.d (.int k)]] (sH st R E Pl T)=_:=on ⟨.cut,w,[k]⟩;erw[11,aAP,i0,i1,bP,ce,fU,cg,o1,cI]
  ·rw[if_neg g];have cg:decide ((w:Int)<(rk.w:Int))=false:=dqF ();have o1:cl fns (d+2) 84 [cM Y,.tpl [.d (.str wd.s),.d (.int w),.d (.int k)]] (sH st R E Pl T)=_:=on ⟨wd,w,[k]⟩;erw[11,aAP,i0,i1,bP,ce,fU,cg,o1,cI]
def bM(Y:List (Option (Yw×Nat)))(Pl:List (Option Nat))(R:List Rw)(k:Nat):Prop:=∃ y,Y[k]?=qz y/\∀ a b,y=qz (a,b)->∃ p rp,Pl[k]?=qz (qz p)/\R[p]?=qz rp/\rp.w=b
def sJ(d:Nat)(w:Nat)(st:Option (List D))(R:List Rw)(hk:bM Y Pl R k)(hR:↑R<=1000)(E:List (Rw×Nat))(hE:↑E<=1000)(T:aC) :
 cl fns (d+4) 86 [cM (Y*>yD),.d (.int k),.d (.int w)] (sH st R E Pl T)=qz (.d (.int ((aY Y Pl R E k w).1:Nat)),sH st (aY Y Pl R E k w).2.1 (aY Y Pl R E k w).2.2 Pl T):=by
 let(y,hy,hp):=hk;have i0:aH (Y*>yD) (.int k)=qz (yD y):=cW (by rw[yAd,hy];rfl);have isy:=aCj y;have eY:Y.getD k qx=y:=by rw[xAg,hy];rfl
 unfold aY;rw[eY,aN rfl (d+3) _ _ rfl];cases y with
 |none=>
   have o1:cl fns (d+3) 84 [cM (Y*>yD),.tpl [.d (.str "num"),.d (.int w),.d (.int 0)]] (sH st R E Pl T)=_:=aIr (d+1) (Y*>yD) ⟨.num,w,[0]⟩ st R hR Pl E hE T;have isy:aW .Is (yD qx) .none=qz (.bool true):=isy;dsimp only;erw[11,aAj,i0,isy,o1,cI]
 |some q=>
   let(a,kept):=q;let(p,rp,hpl,hrp,hw):=hp a kept rfl;have isy:aW .Is (yD (qz (a,kept))) .none=qz (.bool false):=isy;have pa:=aLv hpl;have ePl:(Pl.getD k qx).getD 0=p:=by rw[xAg,hpl];rfl
   have yd:yD (qz (a,kept))=.tuple [.str a.s,.int kept]:=rfl;have x0:aH (.tuple [.str a.s,.int kept]) (.int 0)=qz (.str a.s):=rfl;have ys:=aJW a;rw[yd] at i0 isy;dsimp only;rw[ePl];have oJ:∀ wd:Wd,cl fns (d+3) 85 [cM (Y*>yD),.d (.int p),.d (.str wd.s),.d (.int w)] (sH st R E Pl T)=qz (.d (.int ((jV R E p kept wd w).1:Nat)),sH st (jV R E p kept wd w).2.1 (jV R E p kept wd w).2.2 Pl T):=λ wd=>by
    rw[<- hw];exact aED d (Y*>yD) wd hrp hR Pl E hE T
   have e1:jV R E p kept (if a=.sign then .sign else .wide) w=if kept=w then (p,R,E) else if w<kept then eI R E ⟨.cut,w,[p]⟩ else eI R E ⟨if a=.sign then .sign else .wide,w,[p]⟩:=by
    unfold jV;split
    ·rfl
    ·split<;>rfl
   rw[<- e1];by_cases z:a=.sign
   ·rw[if_pos z];rw[dqT z] at ys;have ib:rR [.bool true]=qz (.int 1):=rfl;have il:aH (.list [.str "wide",.str "sign"]) (.int 1)=qz (.str Wd.sign.s):=rfl;have a1:=oJ .sign;erw[11,aAj,i0,isy,x0,ys,ib,il,pa,a1,cI]
   ·rw[if_neg z];rw[dqF z] at ys;have ib:rR [.bool false]=qz (.int 0):=rfl;have il:aH (.list [.str "wide",.str "sign"]) (.int 0)=qz (.str Wd.wide.s):=rfl;have a1:=oJ .wide;erw[11,aAj,i0,isy,x0,ys,ib,il,pa,a1,cI]
def MI(R:List Rw)(E:List (Rw×Nat)):Prop:=∀ p∈E,∃ rk,R[p.2]?=qz rk/\rk.w=p.1.w
structure AtM(R:List Rw)(E:List (Rw×Nat))(w:Nat)(x:Nat×List Rw×List (Rw×Nat)):Prop where
 w:∃ rk,x.2.1[x.1]?=qz rk/\rk.w=w
 mi:MI x.2.1 x.2.2
 pre:∃ X,x.2.1=R++X
def aJJ{R X:List Rw}{p:Nat}{r:Rw}(h:R[p]?=qz r):(R++X)[p]?=qz r:=by rw[xAm (gIm h).1];exact h
def MI.pre{E:List (Rw×Nat)}(h:MI R E):MI (R++X) E:=λ p hp=>by
 let(rk,h1,h2):=h p hp;exact⟨rk,aJJ h1,h2⟩
def aBw{E:List (Rw×Nat)}(h:MI R E)(r:Rw):AtM R E r.w (↑R,R++[r],E):=⟨⟨r,by rw[yAf (yAb _),yAx];rfl,rfl⟩,h.pre,⟨_,rfl⟩⟩
def wJ{E:List (Rw×Nat)}(h:MI R E)(r:Rw):AtM R E r.w (eI R E r):=by
 unfold eI;cases hv:dH (dA E) (iD r) with
 |none=>
   have a:=aBw h r;refine⟨a.w,λ p hp=>?_,a.pre⟩;rcases List.mem_append.mp hp with hp|hp
   ·exact h.pre p hp
   ·obtain rfl:=List.mem_singleton.mp hp;exact⟨r,by rw[yAf (yAb _),yAx];rfl,rfl⟩
 |some i=>
   unfold dH dA at hv;let(p,h1,h2):=Option.map_eq_some_iff.mp hv;have hm:=List.mem_of_find?_eq_some h1;have hk:=List.find?_some h1;let(q,hq,rfl):=List.mem_map.mp hm;let(rk,g1,g2):=h q hq;have hkw:iD q.1=iD r:=oqT hk;have e:q.1.w=r.w:=by
    unfold iD at hkw;have:=(List.cons.inj (List.cons.inj hkw).2).1;have:=Sum.inl.inj this;omega
   subst h2;exact⟨⟨rk,g1,g2.trans e⟩,h,⟨[],by simp⟩⟩
def bM.pre(h:bM Y Pl R k):bM Y Pl (R++X) k:=by let(y,hy,hp):=h;refine⟨y,hy,λ a b e=>?_⟩;let(p,rp,h1,h2,h3):=hp a b e;exact⟨p,rp,h1,aJJ h2,h3⟩
def bM.f(h:bM Y Pl R k):eJ Y Pl k:=by let(y,hy,hp):=h;exact⟨y,hy,λ a b e=>let ⟨p,_,h1,_⟩:=hp a b e;⟨p,h1⟩⟩
def tF{E:List (Rw×Nat)}(w:Nat)(h:MI R E)(hk:bM Y Pl R k):AtM R E w (aY Y Pl R E k w):=by
 let(y,hy,hp):=hk;have eY:Y.getD k qx=y:=by rw[xAg,hy];rfl
 unfold aY;rw[eY];cases y with
 |none=>exact wJ h ⟨.num,w,[0]⟩
 |some q=>
   let(a,kept):=q;let(p,rp,h1,h2,h3):=hp a kept rfl;have ePl:(Pl.getD k qx).getD 0=p:=by rw[xAg,h1];rfl
   dsimp only;rw[ePl];by_cases c:kept=w
   ·rw[if_pos c];exact⟨⟨rp,h2,h3.trans c⟩,h,⟨[],by simp⟩⟩
   ·rw[if_neg c];by_cases g:w<kept
    ·rw[if_pos g];exact wJ h ⟨.cut,w,[p]⟩
    ·rw[if_neg g];exact wJ h ⟨if a=.sign then .sign else .wide,w,[p]⟩
def bS(Y:List (Option (Yw×Nat)))(Pl:List (Option Nat)):List Rw->List (Rw×Nat)->List (Nat×Nat)->List Nat×List Rw×List (Rw×Nat)
 |R,E,[]=>([],R,E)|R,E,q::l=>((aY Y Pl R E q.1 q.2).1::(bS Y Pl (aY Y Pl R E q.1 q.2).2.1 (aY Y Pl R E q.1 q.2).2.2 l).1,(bS Y Pl (aY Y Pl R E q.1 q.2).2.1 (aY Y Pl R E q.1 q.2).2.2 l).2)
def xN(Y:List (Option (Yw×Nat)))(Pl:List (Option Nat))(w:Nat):∀ (ks:List Nat) (R:List Rw) (E:List (Rw×Nat)),bS Y Pl R E (ks.map λ k=>(k,w))=bN Y Pl R E ks w
 |[],R,E=>rfl
 |k::ks,R,E=>by
   rw[yAh,bS,bN,xN Y Pl w ks]
def aBr:∀ (l:List (Nat×Nat)) {R:List Rw}{E:List (Rw×Nat)},MI R E->(∀ q∈l,bM Y Pl R q.1)->MI (bS Y Pl R E l).2.1 (bS Y Pl R E l).2.2/\(∃ X,(bS Y Pl R E l).2.1=R++X)/\(bS Y Pl R E l).1.length=↑l/\(bS Y Pl R E l).2.1.length<=↑R+↑l/\(bS Y Pl R E l).2.2.length<=↑E+↑l
 |[],R,E,h,_=>⟨h,⟨[],by simp[bS]⟩,rfl,by simp[bS],by simp[bS]⟩
 |q::l,R,E,h,ho=>by
   have a:=tF q.2 h (ho q xAc);have ln:=iU Y Pl R E q.1 q.2;let(X,hX):=a.pre;let(i1,(Z,hZ),i3,i4,i5):=aBr l a.mi (λ z hz=>by rw[hX];exact(ho z (xAf _ hz)).pre);unfold bS;refine⟨i1,⟨X++Z,by dsimp only;rw[hZ,hX,yBp]⟩,?_,?_,?_⟩<;>simp only[yAl]<;>omega
def aBi{t:Tg}{fe:FE}(enc:Nat×Nat->D)(e:Nat×Nat->bB)(hput:∀ q,t.put (enc q) env=qz (e q)):∀ (l:List (Nat×Nat)) (R:List Rw) (E:List (Rw×Nat)),MI R E->(∀ q∈l,bM Y Pl R q.1)->↑R+↑l<=1000->↑E+↑l<=1000 ->
 (∀ q∈l,∀ (R:List Rw) (E:List (Rw×Nat)) (T:aC),bM Y Pl R q.1->↑R<=1000->↑E<=1000->fe (e q) (sH st R E Pl T)=qz (.d (nD (aY Y Pl R E q.1 q.2).1),sH st (aY Y Pl R E q.1 q.2).2.1 (aY Y Pl R E q.1 q.2).2.2 Pl T)) ->
 CRun t fe env (l.map enc) ((bS Y Pl R E l).1.map nD) (sH st R E Pl T) (sH st (bS Y Pl R E l).2.1 (bS Y Pl R E l).2.2 Pl T)
 |[],R,E,_,_,_,_,_=>.nil
 |q::l,R,E,hm,ho,h1,h2,h=>by
   rw[yAl] at h1 h2;have ln:=iU Y Pl R E q.1 q.2;have a:=tF q.2 hm (ho q xAc);let(X,hX):=a.pre;exact .cons (S1:=sH st (aY Y Pl R E q.1 q.2).2.1 (aY Y Pl R E q.1 q.2).2.2 Pl T) (hput q) (λ aM=>h q xAc R E (T++[qz aM]) (ho q xAc) () ()) (by simp)
    (aBi enc e hput l _ _ a.mi (λ z hz=>by rw[hX];exact(ho z (xAf _ hz)).pre) () () λ z hz=>h z (xAf _ hz))
def aOX(d:Nat)(wd:Wd)(hw:fA wd=true)(a b:Yw×Nat)(old:Nat)(S:aC):cl fns (d+1) 87 [.d (.str wd.s),.d (.int old),.d (yD (qz a)),.d (yD (qz b))] S=qz (.d (.int (iB wd a b old:Nat)),S):=by
 let(a,ka):=a;let(b,kb):=b;have x0:∀ (y:Yw) (k:Nat),aH (.tuple [.str y.s,.int k]) (.int 0)=qz (.str y.s):=λ _ _=>rfl
 have x1:∀ (y:Yw) (k:Nat),aH (.tuple [.str y.s,.int k]) (.int 1)=qz (.int k):=λ _ _=>rfl
 have ya:yD (qz (a,ka))=.tuple [.str a.s,.int ka]:=rfl;have yb:yD (qz (b,kb))=.tuple [.str b.s,.int kb]:=rfl;have mx:=aPR ka kb;have cn:=aKY a b;have cu:=aI0 wd hw;unfold iB;dsimp only;rw[aN rfl d _ _ rfl,ya,yb];generalize max ka kb=g at mx ⊢;generalize zR a b=n at cn ⊢;by_cases c:n=1
 ·rw[if_pos c];have ce:((n:Int)==1)=true:=by rw[beq_iff_eq];omega
  erw[11,vC,x0,x1,mx,cn,bP,ce,yAg]
 ·rw[if_neg c];have ce:((n:Int)==1)=false:=by rw[beq_eq_false_iff_ne];omega
  by_cases z:n=0
  ·have cz:((n:Int)==0)=true:=by rw[beq_iff_eq];omega
   by_cases u:wd=.under
   ·rw[if_pos ⟨z,u⟩];rw[dqT u] at cu;have ad:(g:Int)+1=((g+1:Nat):Int):=();have mn:gK [.int (old:Int),.int ((g+1:Nat):Int)]=qz (.int ((min old (g+1):Nat):Int)):=by
     show qz (yAn (if ((g+1:Nat):Int)<(old:Int) then ((g+1:Nat):Int) else (old:Int)))=_;congr 2;split<;>omega
    erw[11,vC,x0,x1,mx,cn,bP,ce,cz,cu,cV,ad,mn,yAg]
   ·rw[if_neg λ q=>u q.2];rw[dqF u] at cu;erw[11,vC,x0,x1,mx,cn,bP,ce,cz,cu,yAg]
  ·rw[if_neg λ q=>z q.1];have cz:((n:Int)==0)=false:=by rw[beq_eq_false_iff_ne];omega
   erw[11,vC,x0,x1,mx,cn,bP,ce,cz,yAg]
def uM(wd:Wd):aW .In (.str wd.s) (.tuple [.str "in",.str "num"])=qz (.bool (wd==.in||wd==.num)):=by cases wd<;>kernel_rfl
def ck3(wd:Wd):aW .In (.str wd.s) (.tuple [.str "cut",.str "wide",.str "sign"])=qz (.bool (wd==.cut||(wd==.wide||wd==.sign))):=by cases wd<;>kernel_rfl
def ck4(wd:Wd):aW .In (.str wd.s) (.tuple [.str "same",.str "less",.str "under"])=qz (.bool (fA wd)):=by cases wd<;>kernel_rfl
def ck5(wd:Wd):aW .Eq (.str wd.s) (.str "left")=qz (.bool (wd==.left)):=by cases wd<;>kernel_rfl
def aKC(d:Nat)(P:D)(wd:Wd)(bC:(wd==.in||wd==.num)=true)(w0:Nat)(ns:List Nat)(hn:↑ns<=10)(w:Nat)(hw:w<=64)(st:Option (List D))(R:List Rw)(hR:↑R<=900)(E:List (Rw×Nat))(T:aC) :
 cl fns (d+5) 88 [cM (Y*>yD),.d P,.d (Rw.d ⟨wd,w0,ns⟩),.d (.int w)] (sH st R E Pl T)=qz (.d (.int ↑R),sH st (R++[⟨wd,w,ns.map (· % 2^w)⟩]) E Pl T):=by
 have rd:Rw.d ⟨wd,w0,ns⟩=.tuple (.str wd.s::nD w0::ns.map nD):=rfl;have x0:aH (.tuple (.str wd.s::nD w0::ns.map nD)) (.int 0)=qz (.str wd.s):=tH ⟨wd,w0,ns⟩;have t1:=uM wd;rw[bC] at t1;have h2:dY (.str wd.s::nD w0::ns.map nD) (qz 2) qx=ns.map nD:=(aAT _ 2).trans rfl;have sh:bV .LShift (.int 1) (.int w)=qz (.int ((2^w:Nat):Int)):=gR ();have hC:lv (d<$>4) aGx [qz (cM (Y*>yD)),qz (.d P),qz (.d (.tuple (.str wd.s::nD w0::ns.map nD))),(w:),qz (.d (.str wd.s)),qx,qx,qx,qx,qx,qx] (sH st R E Pl T)=qz ((ns.map (· % 2^w)).map nD,sH st R E Pl T):=by
  rw[yBd];refine mY (fi:=lv (d<$>4) (.it (.sl (.var 2) (.cons (.int 2) .nil) .no))) (fe:=ev (d<$>4) (.bin .Mod (.var 10) (.bin .LShift (.int 1) (.var 3)))) nD (nD ∘ (· % 2^w)) ns ?_ (by rw[zq];omega) λ a ha=>?_
  ·show eV (ev (d<$>4) (.sl (.var 2) (.cons (.int 2) .nil) .no)) _ _=_;have hs:ev (d<$>4) (.sl (.var 2) (.cons (.int 2) .nil) .no) [qz (cM (Y*>yD)),qz (.d P),qz (.d (.tuple (.str wd.s::nD w0::ns.map nD))),(w:),qz (.d (.str wd.s)),qx,qx,qx,qx,qx,qx] (sH st R E Pl T)=qz (.d (ns*>nD),sH st R E Pl T):=by
    erw[0,zJ,h2]
   unfold eV;rw[hs];rfl
  ·refine⟨_,rfl,λ S'=>?_⟩;have md:bV .Mod (nD a) (.int ((2^w:Nat):Int))=qz (nD (a%2^w)):=by
    have h:=@fS (a:Int) ((2^w:Nat):Int) (by have:=xAe w;omega);rw[show(a:Int)%((2^w:Nat):Int)=((a%2^w:Nat):Int) by omega] at h;exact h
   erw[0,clr,yBb,yCm,sh,md]
 have tp:gU [.list ((ns.map (· % 2^w)).map nD)]=qz (.tuple ((ns.map (· % 2^w)).map nD)):=rfl;have ct:bV .Add (.tuple [.str wd.s,.int w]) (.tuple ((ns.map (· % 2^w)).map nD))=qz (Rw.d ⟨wd,w,ns.map (· % 2^w)⟩):=pI _ _ (by simp;omega);have m2:cl fns (d+4) 83 [cM (Y*>yD),.d (Rw.d ⟨wd,w,ns.map (· % 2^w)⟩)] _=_:=sN (d+3) (Y*>yD) false ⟨wd,w,ns.map (· % 2^w)⟩ st R () Pl E T;rw[aN rfl (d+4) _ _ rfl,rd];erw[11,lW,x0,t1,hC,tp,ct,m2,cI]
def aLW(d:Nat){rs:List Rw}(o:D)(wd:Wd)(bC:(wd==.right||wd==.slide)=true)(h1:(wd==.in||wd==.num)=false)(w0 a s w:Nat)(hww:w<=w0)(hra:rs[a]?=qz ra)(st:Option (List D))(R:List Rw)(hR:↑R<=900)(E:List (Rw×Nat))(hE:↑E<=900)(ha:bM Y Pl R a)(T:aC) :
 cl fns (d+5) 88 [cM (Y*>yD),.d (rs<*o),.d (Rw.d ⟨wd,w0,[a,s]⟩),.d (.int w)] (sH st R E Pl T)=qz (.d (.int ((jB Y Pl R E ⟨wd,w0,[a,s]⟩ a s w).1:Nat)),sH st (jB Y Pl R E ⟨wd,w0,[a,s]⟩ a s w).2.1 (jB Y Pl R E ⟨wd,w0,[a,s]⟩ a s w).2.2 Pl T):=by
 have rd:Rw.d ⟨wd,w0,[a,s]⟩=.tuple [.str wd.s,.int w0,.int a,.int s]:=rfl;have x0:aH (.tuple [.str wd.s,.int w0,.int a,.int s]) (.int 0)=qz (.str wd.s):=rfl;have x1:aH (.tuple [.str wd.s,.int w0,.int a,.int s]) (.int 1)=qz (.int w0):=rfl;have x2:aH (.tuple [.str wd.s,.int w0,.int a,.int s]) (.int 2)=qz (.int a):=rfl;have x3:aH (.tuple [.str wd.s,.int w0,.int a,.int s]) (.int 3)=qz (.int s):=rfl;have p0:aH (rs<*o) (.int 0)=qz (rs*>Rw.d):=rfl;have p1:aH (rs*>Rw.d) (.int a)=qz ra.d:=cW (by rw[yAd,hra];rfl);have p2:=dD ra;have t1:=uM wd;rw[h1] at t1;have t2:=pO (lL _) bC;have ad:(w:Int)+(s:Int)=((w+s:Nat):Int):=();have mn:gK [.int (w0:Int),.int ((w+s:Nat):Int)]=qz (.int ((min w0 (w+s):Nat):Int)):=by
  show qz (yAn (if ((w+s:Nat):Int)<(w0:Int) then ((w+s:Nat):Int) else (w0:Int)))=_;congr 2;split<;>omega
 unfold jB;dsimp only;have hvw:w<=min w0 (w+s):=();generalize hv:min w0 (w+s)=v at mn hvw ⊢;have l:=iU Y Pl R E a v;have f1:=sJ d v st R ha () E () T;generalize aY Y Pl R E a v=q at f1 l ⊢;let(q0,R1,E1):=q;dsimp only at f1 l ⊢;have m2:cl fns (d+4) 83 [cM (Y*>yD),.d (.tuple [.str wd.s,.int v,.int q0,.int s])] _=_:=sN (d+3) (Y*>yD) false ⟨wd,v,[q0,s]⟩ st R1 () Pl E1 T;have gk:(R1++[(⟨wd,v,[q0,s]⟩:Rw)])[↑R1]?=qz ⟨wd,v,[q0,s]⟩:=by rw[yAf (yAb _),yAx];rfl
 have a1:cl fns (d+4) 85 [cM (Y*>yD),.d (.int ↑R1),.d (.str "cut"),.d (.int w)] (sH st (R1++[⟨wd,v,[q0,s]⟩]) E1 Pl T)=_:=aED (d+1) (Y*>yD) .cut (w:=w) (st:=st) gk (by simp;omega) Pl E1 () T;have e1:jV (R1++[(⟨wd,v,[q0,s]⟩:Rw)]) E1 ↑R1 v .cut w=if w<v then eI (R1++[⟨wd,v,[q0,s]⟩]) E1 ⟨.cut,w,[↑R1]⟩ else (↑R1,R1++[⟨wd,v,[q0,s]⟩],E1):=by
  unfold jV;by_cases c:v=w
  ·rw[if_pos c,if_neg ()]
  ·rw[if_neg c,if_pos (),if_pos (show w<v by omega)]
 dsimp only at a1;rw[e1] at a1;rw[aN rfl (d+4) _ _ rfl,rd];generalize (yAk [(rs*>Rw.d),o])=P at p0 ⊢;erw[11,lW,x0,x1,x2,x3,p0,p1,p2,t1,t2,cV,ad,mn,f1,m2,a1,cI]
def aEK(d:Nat){rs:List Rw}(o:D)(wd:Wd)(bC:(wd==.cut||(wd==.wide||wd==.sign))=true)(h1:(wd==.in||wd==.num)=false)(h2:(wd==.right||wd==.slide)=false)(w0 a w:Nat)(hra:rs[a]?=qz ra)(st:Option (List D))(R:List Rw)(hR:↑R<=900)(E:List (Rw×Nat))(hE:↑E<=900)(hm:MI R E)(ha:bM Y Pl R a)(T:aC) :
 cl fns (d+5) 88 [cM (Y*>yD),.d (rs<*o),.d (Rw.d ⟨wd,w0,[a]⟩),.d (.int w)] (sH st R E Pl T)=qz (.d (.int ((gN Y Pl R E wd a ra.w w).1:Nat)),sH st (gN Y Pl R E wd a ra.w w).2.1 (gN Y Pl R E wd a ra.w w).2.2 Pl T):=by
 have rd:Rw.d ⟨wd,w0,[a]⟩=.tuple [.str wd.s,.int w0,.int a]:=rfl;have x0:aH (.tuple [.str wd.s,.int w0,.int a]) (.int 0)=qz (.str wd.s):=rfl;have x2:aH (.tuple [.str wd.s,.int w0,.int a]) (.int 2)=qz (.int a):=rfl;have p0:aH (rs<*o) (.int 0)=qz (rs*>Rw.d):=rfl;have p1:aH (rs*>Rw.d) (.int a)=qz ra.d:=cW (by rw[yAd,hra];rfl);have p2:=dD ra;have t1:=uM wd;rw[h1] at t1;have t2:=cS (lL _) h2;have t3:=ck3 wd;rw[bC] at t3;have mn:gK [.int (w:Int),.int (ra.w:Int)]=qz (.int ((min w ra.w:Nat):Int)):=by
  show qz (yAn (if (ra.w:Int)<(w:Int) then (ra.w:Int) else (w:Int)))=_;congr 2;split<;>omega
 have f1:=sJ d (min w ra.w) st R ha () E () T;have l:=iU Y Pl R E a (min w ra.w);let((rk,hrk,hrw),_,_):=tF (min w ra.w) hm ha;have a1:=aED (d+1) (Y*>yD) wd (w:=w) (st:=st) hrk () Pl (aY Y Pl R E a (min w ra.w)).2.2 () T;rw[hrw] at a1;have e1:jV (aY Y Pl R E a (min w ra.w)).2.1 (aY Y Pl R E a (min w ra.w)).2.2 (aY Y Pl R E a (min w ra.w)).1 (min w ra.w) wd w=gN Y Pl R E wd a ra.w w:=by
  unfold jV gN;by_cases c:w<=ra.w
  ·rw[if_pos (),if_pos c,yDx c]
  ·rw[if_neg (),if_neg c,if_neg (),yDl ()]
 rw[e1] at a1;rw[aN rfl (d+4) _ _ rfl,rd];generalize (yAk [(rs*>Rw.d),o])=P at p0 ⊢;erw[11,lW,x0,x2,p0,p1,p2,t1,t2,t3,mn,f1,a1,cI]
def aXF(d:Nat){rs:List Rw}(o:D)(wd:Wd)(bC:fA wd=true)(h1:(wd==.in||wd==.num)=false)(h2:(wd==.right||wd==.slide)=false)(h3:(wd==.cut||(wd==.wide||wd==.sign))=false)(w0 a b w:Nat)(hra:rs[a]?=qz ra)(hya:Y[a]?=qz (qz ya))(hyb:Y[b]?=qz (qz yb))(st:Option (List D))(R:List Rw)(hR:↑R<=900)(E:List (Rw×Nat))(hE:↑E<=900)(hm:MI R E)(ha:bM Y Pl R a)(hb:bM Y Pl R b)(T:aC) :
 cl fns (d+5) 88 [cM (Y*>yD),.d (rs<*o),.d (Rw.d ⟨wd,w0,[a,b]⟩),.d (.int w)] (sH st R E Pl T)=qz (.d (.int ((kL Y Pl R E wd a b (iB wd ya yb ra.w)).1:Nat)),sH st (kL Y Pl R E wd a b (iB wd ya yb ra.w)).2.1 (kL Y Pl R E wd a b (iB wd ya yb ra.w)).2.2 Pl T):=by
 have rd:Rw.d ⟨wd,w0,[a,b]⟩=.tuple [.str wd.s,.int w0,.int a,.int b]:=rfl;have x0:aH (.tuple [.str wd.s,.int w0,.int a,.int b]) (.int 0)=qz (.str wd.s):=rfl;have x2:aH (.tuple [.str wd.s,.int w0,.int a,.int b]) (.int 2)=qz (.int a):=rfl;have x3:aH (.tuple [.str wd.s,.int w0,.int a,.int b]) (.int 3)=qz (.int b):=rfl;have p0:aH (rs<*o) (.int 0)=qz (rs*>Rw.d):=rfl;have p1:aH (rs*>Rw.d) (.int a)=qz ra.d:=cW (by rw[yAd,hra];rfl);have p2:=dD ra;have t1:=uM wd;rw[h1] at t1;have t2:=cS (lL _) h2;have t3:=ck3 wd;rw[h3] at t3;have t4:=ck4 wd;rw[bC] at t4;have ia:aH (Y*>yD) (.int a)=qz (yD (qz ya)):=cW (by rw[yAd,hya];rfl);have ib:aH (Y*>yD) (.int b)=qz (yD (qz yb)):=cW (by rw[yAd,hyb];rfl);have cw:=λ S=>aOX (d+3) wd bC ya yb ra.w S
 generalize iB wd ya yb ra.w=v at cw ⊢;have hh:∀ q∈([a,b].map λ k=>(k,v)),bM Y Pl R q.1:=λ q hq=>by
  rcases List.mem_cons.mp hq with rfl|hq
  ·exact ha
  ·rw[List.mem_singleton.mp hq];exact hb
 have pe:=aBr (Y:=Y) (Pl:=Pl) ([a,b].map λ k=>(k,v)) hm hh;have hC:lv (d<$>4) aGr [qz (cM (Y*>yD)),qz (.d (rs<*o)),qz (.d (.tuple [.str wd.s,.int w0,.int a,.int b])),(w:),qz (.d (.str wd.s)),(v:),qx,qx,qx,qx,qx] (sH st R E Pl T)=qz ((bS Y Pl R E ([a,b].map λ k=>(k,v))).1.map nD,sH st (bS Y Pl R E ([a,b].map λ k=>(k,v))).2.1 (bS Y Pl R E ([a,b].map λ k=>(k,v))).2.2 Pl T):=by
  refine @qN _ _ (([a,b].map λ k=>(k,v)).map λ q=>nD q.1) _ (.one 9) _ _ (lv (d<$>4) (.it (.sl (.var 2) (.cons (.int 2) .nil) .no))) (ev (d<$>4) (.call 86 (.cons (.var 0) (.cons (.var 9) (.cons (.var 5) .nil))))) rfl (by simp) (aBi (λ q=>nD q.1) (λ q=>_) (λ q=>rfl) _ R E hm hh (by simp;omega) (by simp;omega) λ q hq R E T h0 h1 h2=>?_);have e2:q.2=v:=by
   let(k,_,rfl):=List.mem_map.mp hq;rfl
  have:=sJ d v st R h0 h1 E h2 T;rw[<- e2] at this ⊢;exact dW rfl this
 rw[xN] at hC pe;unfold kL;dsimp only;have tp:gU [.list ((bN Y Pl R E [a,b] v).1.map nD)]=qz (.tuple ((bN Y Pl R E [a,b] v).1.map nD)):=rfl;have ct:bV .Add (.tuple [.str wd.s,.int 1]) (.tuple ((bN Y Pl R E [a,b] v).1.map nD))=qz (Rw.d ⟨wd,1,(bN Y Pl R E [a,b] v).1⟩):=pI _ _ (by rw[yAc,pe.2.2.1];simp);have m2:cl fns (d+4) 83 [cM (Y*>yD),.d (Rw.d ⟨wd,1,(bN Y Pl R E [a,b] v).1⟩)] _=_:=sN (d+3) (Y*>yD) false ⟨wd,1,(bN Y Pl R E [a,b] v).1⟩ st (bN Y Pl R E [a,b] v).2.1 (by have:=pe.2.2.2.1;simp at this;omega) Pl (bN Y Pl R E [a,b] v).2.2 T;rw[aN rfl (d+4) _ _ rfl,rd];generalize (yAk [(rs*>Rw.d),o])=P at p0 hC ⊢;erw[11,lW,x0,x2,x3,p0,p1,p2,t1,t2,t3,t4,ia,ib,cw,hC,tp,ct,m2,cI]
def aZH{a b c e a' b' c' e' x:Option (List D)}{T:aC}:(a::b::c::e::(T++[x])).take ↑(a'::b'::c'::e'::T)=a::b::c::e::T:=by simp
def aRM(d:Nat){rs:List Rw}(o:D)(w0 a s w:Nat)(hra:rs[a]?=qz ra)(st:Option (List D))(R:List Rw)(hR:↑R<=900)(E:List (Rw×Nat))(hE:↑E<=900)(ha:bM Y Pl R a)(T:aC) :
 cl fns (d+5) 88 [cM (Y*>yD),.d (rs<*o),.d (Rw.d ⟨.left,w0,[a,s]⟩),.d (.int w)] (sH st R E Pl T)=qz (.d (.int ((gM Y Pl R E ⟨.left,w0,[a,s]⟩ w).1:Nat)),sH st (gM Y Pl R E ⟨.left,w0,[a,s]⟩ w).2.1 (gM Y Pl R E ⟨.left,w0,[a,s]⟩ w).2.2 Pl T):=by have rd:Rw.d ⟨.left,w0,[a,s]⟩=.tuple [.str Wd.left.s,.int w0,.int a,.int s]:=rfl;have x0:aH (.tuple [.str Wd.left.s,.int w0,.int a,.int s]) (.int 0)=qz (.str Wd.left.s):=rfl;have x2:aH (.tuple [.str Wd.left.s,.int w0,.int a,.int s]) (.int 2)=qz (.int a):=rfl;have x3:aH (.tuple [.str Wd.left.s,.int w0,.int a,.int s]) (.int 3)=qz (.int s):=rfl;have p0:aH (rs<*o) (.int 0)=qz (rs*>Rw.d):=rfl;have p1:aH (rs*>Rw.d) (.int a)=qz ra.d:=cW (by rw[yAd,hra];rfl);have p2:=dD ra;have t1:aW .In (.str Wd.left.s) (.tuple [.str "in",.str "num"])=qz (.bool false):=uM .left;have t2:aW .In (.str Wd.left.s) (.tuple [.str "right",.str "slide"])=qz (.bool false):=lL .left;have t3:aW .In (.str Wd.left.s) (.tuple [.str "cut",.str "wide",.str "sign"])=qz (.bool false):=ck3 .left;have t4:aW .In (.str Wd.left.s) (.tuple [.str "same",.str "less",.str "under"])=qz (.bool false):=ck4 .left;have t5:aW .Eq (.str Wd.left.s) (.str "left")=qz (.bool true):=ck5 .left;have l:=iU Y Pl R E a w;have f1:=sJ d w st R ha () E () T;have ew:gM Y Pl R E ⟨.left,w0,[a,s]⟩ w=((aY Y Pl R E a w).2.1.length,(aY Y Pl R E a w).2.1++[⟨.left,w,[(aY Y Pl R E a w).1,s]⟩],(aY Y Pl R E a w).2.2):=rfl;rw[ew];generalize aY Y Pl R E a w=q at f1 l ⊢;let(q0,R1,E1):=q;dsimp only at f1 l ⊢;have m2:cl fns (d+4) 83 [cM (Y*>yD),.d (.tuple [.str "left",.int w,.int q0,.int s])] _=_:=sN (d+3) (Y*>yD) false ⟨.left,w,[q0,s]⟩ st R1 () Pl E1 T;rw[aN rfl (d+4) _ _ rfl,rd];generalize (yAk [(rs*>Rw.d),o])=P at p0 ⊢;erw[11,lW,x0,x2,x3,p0,p1,p2,t1,t2,t3,t4,t5,f1,m2,cI]
def rY(Y:List (Option (Yw×Nat)))(Pl:List (Option Nat))(R:List Rw)(E:List (Rw×Nat))(r:Rw)(w:Nat):Nat×List Rw×List (Rw×Nat):=
 let q:=bS Y Pl R E (r.args.zip (if (r.wd==.pick)=true then [1,w,w] else [w,w,w]))
 (q.2.1.length,q.2.1++[⟨r.wd,w,q.1⟩],q.2.2)
def aY3:∀ (as bs:List Nat),gI (as.map nD) (bs.map nD)=(as.zip bs).map λ q=>yAk [nD q.1,nD q.2]:=λ as bs=>aBq as bs
def aE7(d:Nat){rs:List Rw}(o:D)(r:Rw)(h1:(r.wd==.in||r.wd==.num)=false)(h2:(r.wd==.right||r.wd==.slide)=false)(h3:(r.wd==.cut||(r.wd==.wide||r.wd==.sign))=false)(h4:fA r.wd=false)(h5:(r.wd==.left)=false)(hra0:r.args=a::as)(hl:↑r.args<=3)(w:Nat)(hra:rs[a]?=qz ra)(st:Option (List D))(R:List Rw)(hR:↑R<=900)(E:List (Rw×Nat))(hE:↑E<=900)(hm:MI R E)(ho:∀ x∈r.args,bM Y Pl R x)(T:aC) :
 cl fns (d+5) 88 [cM (Y*>yD),.d (rs<*o),.d r.d,.d (.int w)] (sH st R E Pl T)=qz (.d (.int ((rY Y Pl R E r w).1:Nat)),sH st (rY Y Pl R E r w).2.1 (rY Y Pl R E r w).2.2 Pl T):=by
 have rd:r.d=.tuple (.str r.wd.s::nD r.w::r.args.map nD):=rfl;have x0:aH (.tuple (.str r.wd.s::nD r.w::r.args.map nD)) (.int 0)=qz (.str r.wd.s):=tH r;have x2:aH (.tuple (.str r.wd.s::nD r.w::r.args.map nD)) (.int 2)=qz (.int a):=cW (k:=2) (by rw[hra0];rfl);have p0:aH (rs<*o) (.int 0)=qz (rs*>Rw.d):=rfl;have p1:aH (rs*>Rw.d) (.int a)=qz ra.d:=cW (by rw[yAd,hra];rfl);have p2:=dD ra;have t1:=uM r.wd;rw[h1] at t1;have t2:=cS (lL _) h2;have t3:=ck3 r.wd;rw[h3] at t3;have t4:=ck4 r.wd;rw[h4] at t4;have t5:=ck5 r.wd;rw[h5] at t5;have t6:=cq7 r.wd;have hcut:dY (.str r.wd.s::nD r.w::r.args.map nD) (qz 2) qx=r.args.map nD:=(aAT _ 2).trans rfl;generalize hP:(yAk [(rs*>Rw.d),o])=P at p0 ⊢;unfold rY;obtain⟨M,hM⟩:∃ M:List Nat,M=if (r.wd==.pick)=true then [1,w,w] else [w,w,w]:=⟨_,rfl⟩
 have lM:↑M=3:=by rw[hM];split<;>rfl
 rw[<- hM];have hh:∀ q∈r.args.zip M,bM Y Pl R q.1:=λ q hq=>ho q.1 (yGj hq).1
 have pe:=aBr (Y:=Y) (Pl:=Pl) (r.args.zip M) hm hh;have lz:↑(r.args.zip M)<=3:=by rw[yGo];omega
 have s6:∃ env6:bB,env6=[qz (cM (Y*>yD)),qz (.d P),qz (.d (.tuple (.str r.wd.s::nD r.w::r.args.map nD))),(w:),qz (.d (.str r.wd.s)),(ra.w:),qz (.loc ↑(sH st R E Pl T)),qx,qx,qx,qx]:=⟨_,rfl⟩;let(env6,he6):=s6;have hC:lv (d<$>4) aGq [qz (cM (Y*>yD)),qz (.d P),qz (.d (.tuple (.str r.wd.s::nD r.w::r.args.map nD))),(w:),qz (.d (.str r.wd.s)),(ra.w:),qz (.d (.list (M.map nD))),qx,qx,qx,qx] (sH st R E Pl (T++[qx]))=qz ((bS Y Pl R E (r.args.zip M)).1.map nD,sH st (bS Y Pl R E (r.args.zip M)).2.1 (bS Y Pl R E (r.args.zip M)).2.2 Pl (T++[qx])):=by
  refine @qN _ _ ((r.args.zip M).map λ q=>yAk [nD q.1,nD q.2]) _ (.many [9,8]) _ _ (lv (d<$>4) (.zip (.sl (.var 2) (.cons (.int 2) .nil) .no) (.var 6))) (ev (d<$>4) (.call 86 (.cons (.var 0) (.cons (.var 9) (.cons (.var 8) .nil))))) ?_ (by rw[yAc];omega) (aBi (λ q=>yAk [nD q.1,nD q.2]) (λ q=>_) (λ q=>rfl) _ R E hm hh () () λ q hq R E T h0 h1 h2=>?_)
  ·rw[<- aY3];have hs:ev (d<$>4) (.sl (.var 2) (.cons (.int 2) .nil) .no) [qz (cM (Y*>yD)),qz (.d P),qz (.d (.tuple (.str r.wd.s::nD r.w::r.args.map nD))),(w:),qz (.d (.str r.wd.s)),(ra.w:),qz (.d (.list (M.map nD))),qx,qx,qx,qx] (sH st R E Pl (T++[qx]))=qz (.d (.tuple (r.args.map nD)),sH st R E Pl (T++[qx])):=by
    erw[0,zJ,hcut]
   show nR (ev (d<$>4) (.sl (.var 2) (.cons (.int 2) .nil) .no)) (ev (d<$>4) (.var 6)) _ _=_;unfold nR;rw[hs];rfl
  ·exact dW rfl (sJ d q.2 st R h0 h1 E h2 T)
 have tp:gU [.list ((bS Y Pl R E (r.args.zip M)).1.map nD)]=qz (.tuple ((bS Y Pl R E (r.args.zip M)).1.map nD)):=rfl;have ct:bV .Add (.tuple [.str r.wd.s,.int w]) (.tuple ((bS Y Pl R E (r.args.zip M)).1.map nD))=qz (Rw.d ⟨r.wd,w,(bS Y Pl R E (r.args.zip M)).1⟩):=pI _ _ (by rw[yAc,pe.2.2.1];simp only[yAl,yBr];omega);have m2:cl fns (d+4) 83 [cM (Y*>yD),.d (Rw.d ⟨r.wd,w,(bS Y Pl R E (r.args.zip M)).1⟩)] _=_:=sN (d+3) (Y*>yD) false ⟨r.wd,w,(bS Y Pl R E (r.args.zip M)).1⟩ st (bS Y Pl R E (r.args.zip M)).2.1 () Pl (bS Y Pl R E (r.args.zip M)).2.2 (T++[qx]);have rp:∀ env,env[3]?=qz (qz (W.d (.int w)))->lv (d<$>4) (.lrep (.fz (.lst (.cons (.var 3) .nil))) (.int 3)) env (sH st R E Pl T)=qz ([w,w,w].map nD,sH st R E Pl T):=λ env he=>by
  have e1:ev (d<$>4) (.fz (.lst (.cons (.var 3) .nil))) env (sH st R E Pl T)=qz (.d (.list [.int w]),sH st R E Pl T):=by
   erw[0,he]
  show rP (ev (d<$>4) (.fz (.lst (.cons (.var 3) .nil)))) (ev (d<$>4) (.int 3)) env _=_;unfold rP;rw[e1];rfl
 have ge:∀ l:List D,(sH st R E Pl T++[qz l])[↑(sH st R E Pl T)]?=qz (qz l):=λ l=>by rw[yAf (yAb _),yAx];rfl
 have se:∀ l:List D,(sH st R E Pl T++[qz l]).set ↑(sH st R E Pl T) qx=sH st R E Pl (T++[qx]):=λ l=>wA _ _ _
 have tail:xs (d<$>4) (aT (aT (aT (aT (aT (aT (aT lW))))))) [qz (cM (Y*>yD)),qz (.d P),qz (.d (.tuple (.str r.wd.s::nD r.w::r.args.map nD))),(w:),qz (.d (.str r.wd.s)),(ra.w:),qx,qx,qx,qx,qx] (sH st R E Pl T)=qz (.rt (.d (.int ((bS Y Pl R E (r.args.zip M)).2.1.length:Nat))),sH st ((bS Y Pl R E (r.args.zip M)).2.1++[⟨r.wd,w,(bS Y Pl R E (r.args.zip M)).1⟩]) (bS Y Pl R E (r.args.zip M)).2.2 Pl (T++[qx])):=by
  dsimp only[aT,lW];refine cF (w:=.loc ↑(sH st R E Pl T)) (S1:=sH st R E Pl T++[qz ([w,w,w].map nD)]) (xK (rp _ rfl)) rfl ?_;have pk:xs (d<$>4) (.ifs (.cmp .Eq (.var 4) (.str "pick")) (.seq (.put (.var 6) (.int 0) (.int 1)) .skip) .skip) env6 (sH st R E Pl T++[qz ([w,w,w].map nD)])=qz (.nx env6,sH st R E Pl T++[qz (M.map nD)]):=by
   rw[he6];cases hb:(r.wd==.pick) with
   |true=>
     rw[hb] at t6;have eM:M=[1,w,w]:=by rw[hM,hb];rfl
     rw[eM];refine rA (dC rfl t6) (aLc ?_);exact aMw rfl rfl rfl (sV (sH st R E Pl T) [w,w,w] 0 1 (by simp))
   |false=>
     rw[hb] at t6;have eM:M=[w,w,w]:=by rw[hM,hb];rfl
     rw[eM];exact aER (dC rfl t6) rfl
  rw[he6] at pk;refine lA pk (lA (aWv rfl (ge _) rfl (se _) (aKg hC rfl)) (cL ?_));exact dW (bI rfl (bI (aMh (tK rfl rfl (by simp)) (rC (bI (bK rfl) rfl) rfl tp) ct) rfl)) m2
 have hd:xs (d<$>4) lW [qz (cM (Y*>yD)),qz (.d P),qz (.d (.tuple (.str r.wd.s::nD r.w::r.args.map nD))),(w:),qx,qx,qx,qx,qx,qx,qx] (sH st R E Pl T)=qz (.rt (.d (.int ((bS Y Pl R E (r.args.zip M)).2.1.length:Nat))),sH st ((bS Y Pl R E (r.args.zip M)).2.1++[⟨r.wd,w,(bS Y Pl R E (r.args.zip M)).1⟩]) (bS Y Pl R E (r.args.zip M)).2.2 Pl (T++[qx])):=by
  dsimp only[aT,lW] at tail ⊢;have w5:ev (d<$>4) (.ix (.ix (.ix (.var 1) (.int 0)) (.ix (.var 2) (.int 2))) (.int 1)) [qz (cM (Y*>yD)),qz (.d P),qz (.d (.tuple (.str r.wd.s::nD r.w::r.args.map nD))),(w:),qz (.d (.str r.wd.s)),qx,qx,qx,qx,qx,qx] (sH st R E Pl T)=qz (.d (.int ra.w),sH st R E Pl T):=by
   erw[0,x2,p0,p1,p2]
  refine cF (jE (bK rfl) nM rfl x0) rfl (bQ (iG rfl rfl t1) (cF w5 rfl (bQ (iG rfl rfl t2) (bQ (iG rfl rfl t3) (bQ (iG rfl rfl t4) (bQ (dC rfl t5) tail))))))
 rw[rd];exact tU rfl rfl rfl hd aZH
def aXk(w:Nat):∀ l:List Nat,↑l<=3->l.zip [w,w,w]=l.map λ k=>(k,w)
 |[],_=>rfl|[_],_=>rfl|[_,_],_=>rfl|[_,_,_],_=>rfl|_::_::_::_::_,h=>by simp at h
def aLU(Y:List (Option (Yw×Nat)))(Pl:List (Option Nat))(R:List Rw)(E:List (Rw×Nat))(r:Rw)(w:Nat)(hp:(r.wd==.pick)=false)(hc:bG r.wd=↑r.args)(hl:↑r.args<=3):rY Y Pl R E r w=gM Y Pl R E r w:=by unfold rY gM bL;rw[hp,if_neg (·),aXk w _ hl,xN,hc,yAg,yGc];simp only[yBz]
def aMi(Y:List (Option (Yw×Nat)))(Pl:List (Option Nat))(R:List Rw)(E:List (Rw×Nat))(w0 c a b w:Nat):rY Y Pl R E ⟨.pick,w0,[c,a,b]⟩ w=lQ Y Pl R E c a b w:=by have e:=xN Y Pl w [a,b] (aY Y Pl R E c 1).2.1 (aY Y Pl R E c 1).2.2;unfold lQ;dsimp only;rw[<- e];rfl
def tE(d:Nat){rs:List Rw}(o:D)(wd:Wd)(h1:(wd==.in||wd==.num)=false)(h2:(wd==.right||wd==.slide)=false)(h3:(wd==.cut||(wd==.wide||wd==.sign))=false)(h4:fA wd=false)(h5:(wd==.left)=false)(h6:(wd==.pick)=false)(hc:bG wd=2)(w0 a b w:Nat)(hr:∃ ra,rs[a]?=qz ra)(st:Option (List D))(R:List Rw)(hR:↑R<=900)(E:List (Rw×Nat))(hE:↑E<=900)(hm:MI R E)(ho:∀ x∈[a,b],bM Y Pl R x)(T:aC) :
 cl fns (d+5) 88 [cM (Y*>yD),.d (rs<*o),.d (Rw.d ⟨wd,w0,[a,b]⟩),.d (.int w)] (sH st R E Pl T)=qz (.d (.int ((gM Y Pl R E ⟨wd,w0,[a,b]⟩ w).1:Nat)),sH st (gM Y Pl R E ⟨wd,w0,[a,b]⟩ w).2.1 (gM Y Pl R E ⟨wd,w0,[a,b]⟩ w).2.2 Pl T):=by let(ra,hra):=hr;have:=aE7 d o ⟨wd,w0,[a,b]⟩ h1 h2 h3 h4 h5 rfl (by simp) w hra st R hR E hE hm ho T;rw[aLU Y Pl R E ⟨wd,w0,[a,b]⟩ w h6 hc (by simp)] at this;exact this
def aS7(d:Nat){rs:List Rw}(f1:RwOk r ws)(hws:ws=bY r (~~~rs))(o:D)(w:Nat)(hw:w<=64)(hwr:w<=r.w)(hin:(r.wd==.in)=true->w=r.w)(hr:∀ a∈bL r,∃ ra,rs[a]?=qz ra)(hc:Cok Y r)(st:Option (List D))(R:List Rw)(hR:↑R<=900)(E:List (Rw×Nat))(hE:↑E<=900)(hm:MI R E)(ho:∀ a∈bL r,bM Y Pl R a)(T:aC) :
 cl fns (d+5) 88 [cM (Y*>yD),.d (rs<*o),.d (Rw.d r),.d (.int w)] (sH st R E Pl T)=qz (.d (.int ((iI (~~~rs) Y Pl R E r w).1:Nat)),sH st (iI (~~~rs) Y Pl R E r w).2.1 (iI (~~~rs) Y Pl R E r w).2.2 Pl T):=by
 cases f1 with
 |inp h1 h2=>
   rename_i w0;have e:w=w0:=hin rfl;subst e;exact aKC d _ .in rfl w [] (·) w hw st R hR E T
 |num h1 h2 hn=>exact aKC d _ .num rfl _ [_] (by simp) w hw st R hR E T
 |nt h1 h2=>
   rename_i w0 a;let(ra,hra):=hr a xAc;have:=aE7 d o ⟨.not,w0,[a]⟩ rfl rfl rfl rfl rfl rfl (by simp) w hra st R hR E hE hm ho T;rw[aLU Y Pl R E ⟨.not,w0,[a]⟩ w rfl rfl (by simp)] at this;exact this
 |sh h1 h2 bC hk=>
   rename_i wd w0 a s;erw[50,bC]
   ·let(ra,hra):=hr a xAc;exact aRM d o w0 a s w hra st R hR E hE (ho a xAc) T
   ·let(ra,hra):=hr a xAc;exact aLW d o .right rfl rfl w0 a s w hwr hra st R hR E hE (ho a xAc) T
   ·let(ra,hra):=hr a xAc;exact aLW d o .slide rfl rfl w0 a s w hwr hra st R hR E hE (ho a xAc) T
 |cut h1 hv h2=>
   rename_i w0 v a;let(ra,hra):=hr a xAc;have hvv:v=ra.w:=by
    have:[v]=[g0 (~~~rs) a]:=hws;rw[hV hra] at this;exact(List.cons.inj this).1
   have hwr:w<=w0:=hwr;have:=aEK d o .cut rfl rfl rfl w0 a w hra st R hR E hE hm (ho a xAc) T;have e:gN Y Pl R E .cut a ra.w w=aY Y Pl R E a w:=by unfold gN;rw[if_pos ()]
   rw[e] at this;exact this
 |wide h1 hv h2=>
   rename_i w0 v a;let(ra,hra):=hr a xAc;have:=aEK d o .wide rfl rfl rfl w0 a w hra st R hR E hE hm (ho a xAc) T;rw[<- hV hra] at this;exact this
 |sign h1 hv h2=>
   rename_i w0 v a;let(ra,hra):=hr a xAc;have:=aEK d o .sign rfl rfl rfl w0 a w hra st R hR E hE hm (ho a xAc) T;rw[<- hV hra] at this;exact this
 |bw h1 h2 bC=>
   rename_i wd w0 a b;erw[50,bC]
   ·exact tE d o .and rfl rfl rfl rfl rfl rfl rfl w0 a b w (hr a xAc) st R hR E hE hm ho T
   ·exact tE d o .or rfl rfl rfl rfl rfl rfl rfl w0 a b w (hr a xAc) st R hR E hE hm ho T
   ·exact tE d o .xor rfl rfl rfl rfl rfl rfl rfl w0 a b w (hr a xAc) st R hR E hE hm ho T
 |sm h1 h2=>
   rename_i s w0 a b;cases s
   ·exact tE d o .add rfl rfl rfl rfl rfl rfl rfl w0 a b w (hr a xAc) st R hR E hE hm ho T
   ·exact tE d o .sub rfl rfl rfl rfl rfl rfl rfl w0 a b w (hr a xAc) st R hR E hE hm ho T
   ·exact tE d o .mul rfl rfl rfl rfl rfl rfl rfl w0 a b w (hr a xAc) st R hR E hE hm ho T
 |cmp h1 h2 bC=>
   rename_i wd v a b;have two:bL ⟨wd,1,[a,b]⟩=[a,b]:=by erw[50,bC]<;>rfl
   have ma:a∈bL ⟨wd,1,[a,b]⟩:=by rw[two];simp
   have mb:b∈bL ⟨wd,1,[a,b]⟩:=by rw[two];simp
   let(ra,hra):=hr a ma;have hcw:fA wd=true:=by erw[50,bC]<;>rfl
   let(ya,hya):=hc hcw a ma;let(yb,hyb):=hc hcw b mb;have ea:yo Y a=ya:=by unfold yo;rw[xAg,hya];rfl
   have eb:yo Y b=yb:=by unfold yo;rw[xAg,hyb];rfl
   have t:∀ wd:Wd,fA wd=true->((wd==.in||wd==.num)=false/\(wd==.right||wd==.slide)=false/\(wd==.cut||(wd==.wide||wd==.sign))=false):=λ wd=>by cases wd<;>decide
   let(t1,t2,t3):=t wd hcw;have:=aXF d o wd hcw t1 t2 t3 1 a b w hra hya hyb st R hR E hE hm (ho a ma) (ho b mb) T;rw[<- hV hra,<- ea,<- eb] at this;erw[50,bC]<;>exact this
 |pick h1 h2=>
   rename_i w0 c a b;let(rc,hrc):=hr c (by simp[bL,bG]);have:=aE7 d o ⟨.pick,w0,[c,a,b]⟩ rfl rfl rfl rfl rfl rfl (by simp) w hrc st R hR E hE hm ho T;rw[aMi] at this;exact this
structure Lm(R:List Rw)(E:List (Rw×Nat))(w:Nat)(x:Nat×List Rw×List (Rw×Nat)):Prop where
 a:AtM R E w x
 r:x.2.1.length<=↑R+4
 e:x.2.2.length<=↑E+4
def AtM.go{R R1:List Rw}{E E1:List (Rw×Nat)}{w:Nat}{x:Nat×List Rw×List (Rw×Nat)}(p:∃ X,R1=R++X)(h:AtM R1 E1 w x):AtM R E w x:=by let(X,rfl):=p;let(Z,hZ):=h.pre;exact⟨h.w,h.mi,⟨X++Z,by rw[hZ,yBp]⟩⟩
def aMc{E:List (Rw×Nat)}(wd:Wd)(w0 a s w:Nat)(hww:w<=w0)(hm:MI R E)(ha:bM Y Pl R a):Lm R E w (jB Y Pl R E ⟨wd,w0,[a,s]⟩ a s w):=by
 unfold jB;dsimp only;have hvw:w<=min w0 (w+s):=();generalize min w0 (w+s)=v at hvw ⊢;have l:=iU Y Pl R E a v;have f:=tF v hm ha;generalize aY Y Pl R E a v=q at l f ⊢;let(q0,R1,E1):=q;dsimp only at l f ⊢;have n:=aBw f.mi ⟨wd,v,[q0,s]⟩;have fp:∃ X,R1=R++X:=f.pre;have np:∃ X,R1++[(⟨wd,v,[q0,s]⟩:Rw)]=R++X:=by
  let(X,rfl):=fp;exact⟨X++[_],by rw[yBp]⟩
 by_cases c:w<v
 ·rw[if_pos c];have o:=wJ n.mi ⟨.cut,w,[↑R1]⟩;have ol:=aA8 (R1++[(⟨wd,v,[q0,s]⟩:Rw)]) E1 ⟨.cut,w,[↑R1]⟩;rw[yAo,yBy] at ol;exact⟨AtM.go np o,by omega,by omega⟩
 ·rw[if_neg c];have e:v=w:=();subst e;refine⟨AtM.go fp n,?_,?_⟩
  ·simp only[yAo,yBy];omega
  ·dsimp only;omega
def aLQ{E:List (Rw×Nat)}(a w:Nat)(hm:MI R E)(ha:bM Y Pl R a):Lm R E w (aY Y Pl R E a w):=by have l:=iU Y Pl R E a w;exact⟨tF w hm ha,by omega,by omega⟩
def aLE{E:List (Rw×Nat)}(wd:Wd)(a old w:Nat)(hm:MI R E)(ha:bM Y Pl R a):Lm R E w (gN Y Pl R E wd a old w):=by
 unfold gN;by_cases c:w<=old
 ·rw[if_pos c];exact aLQ a w hm ha
 ·rw[if_neg c];have l:=iU Y Pl R E a old;have f:=tF old hm ha;have ol:=aA8 (aY Y Pl R E a old).2.1 (aY Y Pl R E a old).2.2 ⟨wd,w,[(aY Y Pl R E a old).1]⟩;exact⟨AtM.go f.pre (wJ f.mi ⟨wd,w,[(aY Y Pl R E a old).1]⟩),by omega,by omega⟩
def aNE{E:List (Rw×Nat)}(l:List (Nat×Nat))(hl:↑l<=3)(hm:MI R E)(ho:∀ q∈l,bM Y Pl R q.1)(f:List Nat->Rw)(w:Nat)(hf:∀ x,(f x).w=w):Lm R E w ((bS Y Pl R E l).2.1.length,(bS Y Pl R E l).2.1++[f (bS Y Pl R E l).1],(bS Y Pl R E l).2.2):=by
 let(i1,i2,i3,i4,i5):=aBr (Y:=Y) (Pl:=Pl) l hm ho;have n:=aBw i1 (f (bS Y Pl R E l).1);rw[hf] at n;refine⟨AtM.go i2 n,?_,?_⟩
 ·simp only[yAo,yBy];omega
 ·dsimp only;omega
def lF{E:List (Rw×Nat)}(ks:List Nat)(v:Nat)(hl:↑ks<=3)(hm:MI R E)(ho:∀ k∈ks,bM Y Pl R k)(f:List Nat->Rw)(w:Nat)(hf:∀ x,(f x).w=w):Lm R E w ((bN Y Pl R E ks v).2.1.length,(bN Y Pl R E ks v).2.1++[f (bN Y Pl R E ks v).1],(bN Y Pl R E ks v).2.2):=by have:=@aNE _ Y Pl _ (ks.map λ k=>(k,v)) (by rw[yAc];exact hl) hm (λ q hq=>by let(k,hk,rfl):=List.mem_map.mp hq;exact ho k hk) f w hf;rw[xN] at this;exact this
def aTB{W:List Nat}(f1:RwOk r ws)(w:Nat)(h1w:1<=w)(hwr:w<=r.w)(hin:(r.wd==.in)=true->w=r.w){E:List (Rw×Nat)}(hm:MI R E)(ho:∀ a∈bL r,bM Y Pl R a):Lm R E w (iI W Y Pl R E r w):=by
 have nw:∀ x:Rw,x.w=w->Lm R E w (↑R,R++[x],E):=λ x hx=>by
  have n:=aBw hm x;rw[hx] at n;exact⟨n,by simp,by simp⟩
 cases f1 with
 |inp h1 h2=>exact nw _ (hin rfl).symm|num h1 h2 hn=>exact nw ⟨.num,w,[_]⟩ rfl|nt h1 h2=>exact lF [_] w (by simp) hm ho (λ x=>⟨.not,w,x++[]⟩) w λ _=>rfl
 |sh h1 h2 bC hk=>
   erw[50,bC]
   ·exact lF [_] w (by simp) hm ho (λ x=>⟨.left,w,x++[_]⟩) w λ _=>rfl
   ·exact aMc .right _ _ _ w hwr hm (ho _ xAc)
   ·exact aMc .slide _ _ _ w hwr hm (ho _ xAc)
 |cut h1 hv h2=>exact aLQ _ w hm (ho _ xAc)|wide h1 hv h2=>exact aLE .wide _ _ w hm (ho _ xAc)|sign h1 hv h2=>exact aLE .sign _ _ w hm (ho _ xAc)
 |bw h1 h2 bC => 
   erw[50,bC]
   ·exact lF [_,_] w (by simp) hm ho (λ x=>⟨.and,w,x++[]⟩) w λ _=>rfl
   ·exact lF [_,_] w (by simp) hm ho (λ x=>⟨.or,w,x++[]⟩) w λ _=>rfl
   ·exact lF [_,_] w (by simp) hm ho (λ x=>⟨.xor,w,x++[]⟩) w λ _=>rfl
 |sm h1 h2=>
   rename_i s _ _ _;cases s
   ·exact lF [_,_] w (by simp) hm ho (λ x=>⟨.add,w,x++[]⟩) w λ _=>rfl
   ·exact lF [_,_] w (by simp) hm ho (λ x=>⟨.sub,w,x++[]⟩) w λ _=>rfl
   ·exact lF [_,_] w (by simp) hm ho (λ x=>⟨.mul,w,x++[]⟩) w λ _=>rfl
 |cmp h1 h2 bC=>
   rename_i wd v a b;have e:w=1:=by have:w<=1:=hwr;omega
   subst e;erw[50,bC]
   ·exact lF [a,b] _ (by simp) hm ho (λ x=>⟨.same,1,x⟩) 1 λ _=>rfl
   ·exact lF [a,b] _ (by simp) hm ho (λ x=>⟨.less,1,x⟩) 1 λ _=>rfl
   ·exact lF [a,b] _ (by simp) hm ho (λ x=>⟨.under,1,x⟩) 1 λ _=>rfl
 |pick h1 h2=>
   rename_i w0 c a b;have:=@aNE _ Y Pl _ [(c,1),(a,w),(b,w)] (by simp) hm (λ q hq=>by
    rcases List.mem_cons.mp hq with rfl|hq
    ·exact ho c (by simp[bL,bG])
    ·rcases List.mem_cons.mp hq with rfl|hq
     ·exact ho a (by simp[bL,bG])
     ·rw[List.mem_singleton.mp hq];exact ho b (by simp[bL,bG])) (λ x=>⟨.pick,w,x⟩) w λ _=>rfl
   have e:=aMi Y Pl R E w0 c a b w;show Lm R E w (lQ Y Pl R E c a b w);rw[<- e];exact this
structure Yg(rs:List Rw)(Y:List (Option (Yw×Nat))):Prop where
 st:Yst rs Y
 inn:∀ (k:Nat) (r:Rw),rs[k]?=qz r->(r.wd==.in)=true->Y[k]?=qz (qz (.cut,r.w))
 cok:∀ (k:Nat) (r:Rw) (q:Yw×Nat),rs[k]?=qz r->Y[k]?=qz (qz q)->Cok Y r
def aV(rs:List Rw)(Y:List (Option (Yw×Nat))):Nat->List (Option Nat)×List Rw×List (Rw×Nat)
 |0=>([],[],[])
 |j+1=>match rs[j]?,Y[j]? with
   |some r,qz (qz q)=>((aV rs Y j).1++[qz (iI (~~~rs) Y (aV rs Y j).1 (aV rs Y j).2.1 (aV rs Y j).2.2 r q.2).1],(iI (~~~rs) Y (aV rs Y j).1 (aV rs Y j).2.1 (aV rs Y j).2.2 r q.2).2)|_,_=>((aV rs Y j).1++[qx],(aV rs Y j).2)
structure Mv(Y:List (Option (Yw×Nat)))(j:Nat)(z:List (Option Nat)×List Rw×List (Rw×Nat)):Prop where
 l:z.1.length=j
 r:z.2.1.length<=4*j
 e:z.2.2.length<=4*j
 mi:MI z.2.1 z.2.2
 pl:∀ a,a<j->bM Y z.1 z.2.1 a
def bM.pl(x:Option Nat)(h:bM Y Pl R k):bM Y (Pl++[x]) R k:=by let(y,hy,hp):=h;refine⟨y,hy,λ a b e=>?_⟩;let(p,rp,h1,h2,h3):=hp a b e;exact⟨p,rp,by rw[xAm (gIm h1).1];exact h1,h2,h3⟩
def aEl{rs:List Rw}{Y:List (Option (Yw×Nat))}(g:Yg rs Y){k:Nat}{r:Rw}{q:Yw×Nat}(hr:rs[k]?=qz r)(hq:Y[k]?=qz (qz q)):1<=q.2/\q.2<=r.w/\((r.wd==.in)=true->q.2=r.w):=by let(h1,h2):=g.st.ok k r (qz q) hr hq q.1 q.2 rfl;refine⟨h1,h2,λ h=>?_⟩;have:=g.inn k r hr h;rw[hq] at this;cases this;rfl
def wW{rs:List Rw}(p:Prg rs)(g:Yg rs Y):∀ j,j<=↑rs->Mv Y j (aV rs Y j)
 |0,_=>⟨rfl,by simp[aV],by simp[aV],λ p hp=>(by simp[aV] at hp),λ a ha=>by omega⟩
 |j+1,hj=>by
   have ih:=wW p g j ();have hr:rs[j]?=qz rs[j]:=yAa ();have hyl:j<↑Y:=by rw[g.st.l];omega
   have hy:Y[j]?=qz Y[j]:=yAa hyl;generalize rs[j]=r at hr;generalize Y[j]=y at hy;have last:∀ x:Option Nat,((aV rs Y j).1++[x])[j]?=qz x:=λ x=>by rw[yAf (by rw[ih.l];exact yAb _),ih.l,yAx];rfl
   unfold aV;rw[hr,hy];cases y with
   |none=>
     refine⟨by simp[ih.l],xAh ih.r (),xAh ih.e (),ih.mi,λ a ha=>?_⟩;by_cases c:a<j
     ·exact(ih.pl a c).pl qx
     ·obtain rfl:a=j:=();exact⟨qx,hy,λ _ _ e=>by cases e⟩
   |some q=>
     let(f1,f2):=p.fit j r hr;let(k1,k2,k3):=aEl g hr hy;have m:=aTB (W:=rs.map (·.w)) f1 q.2 k1 k2 k3 ih.mi (λ a ha=>ih.pl a (f2 a ha));let(X,hX):=m.a.pre;let(rk,w1,w2):=m.a.w;have ir:=ih.r;have ie:=ih.e;have mr:=m.r;have me:=m.e;refine⟨by simp[ih.l],by dsimp only;omega,by dsimp only;omega,m.a.mi,λ a ha=>?_⟩;by_cases c:a<j
     ·dsimp only;rw[hX];exact((ih.pl a c).pl _).pre
     ·obtain rfl:a=j:=();refine⟨qz q,hy,λ u v e=>?_⟩;cases e;exact⟨_,rk,last _,w1,w2⟩
def aLk(x:Option Nat)(st:Option (List D))(R:List Rw)(Pl:List (Option Nat))(hP:↑Pl<=1000)(E:List (Rw×Nat))(T:aC):cX (sM st R Pl E T) (.loc 2) (.d (jI x))=qz (.d .none,sM st R (Pl++[x]) E T):=by show(if ↑(Pl.map jI)<qk then _ else qx)=_;rw[if_pos (by rw[yAc,zq];omega),show Pl.map jI++[jI x]=(Pl++[x]).map jI by rw[yAv];rfl];rfl
def aJT(x:Option Nat)(st:Option (List D))(R:List Rw)(Pl:List (Option Nat))(hP:↑Pl<=1000)(E:List (Rw×Nat))(T:aC):cX (sH st R E Pl T) (.loc 3) (.d (jI x))=qz (.d .none,sH st R E (Pl++[x]) T):=by show(if ↑(Pl.map jI)<qk then _ else qx)=_;rw[if_pos (by rw[yAc,zq];omega),show Pl.map jI++[jI x]=(Pl++[x]).map jI by rw[yAv];rfl];rfl
def aE1:∀ (rs:List Rw) (Y:List (Option (Yw×Nat))),gI (rs.map Rw.d) (Y.map yD)=(rs.zip Y).map λ q=>yAk [q.1.d,yD q.2]
 |[],Y=>by cases Y<;>rfl|r::rs,[]=>rfl
 |r::rs,y::Y=>by
   have:=aE1 rs Y;simp only[yAh,yGy,gI,this]
def aLg{rs:List Rw}{Y:List (Option (Yw×Nat))}{j:Nat}{dd:D}(h:((rs.zip Y).map λ q=>yAk [q.1.d,yD q.2])[j]?=qz dd):∃ r y,rs[j]?=qz r/\Y[j]?=qz y/\dd=.tuple [r.d,yD y]:=by rw[yAd] at h;let(q,hq,rfl):=Option.map_eq_some_iff.mp h;let(h1,h2):=List.getElem?_zip_eq_some.mp hq;exact⟨q.1,q.2,h1,h2,rfl⟩
def aKj{t:Tg}{fe:FE}(enc:Nat×Nat->D)(e:Nat×Nat->bB)(hput:∀ q,t.put (enc q) env=qz (e q)):∀ (l:List (Nat×Nat)) (R:List Rw) (E:List (Rw×Nat)),↑R+↑l<=1000->↑E+↑l<=1000 ->
 (∀ q∈l,∀ (R:List Rw) (E:List (Rw×Nat)) (T:aC),↑R<=1000->↑E<=1000->fe (e q) (sM st R Pl E T)=qz (.d (nD (aY Y Pl R E q.1 q.2).1),sM st (aY Y Pl R E q.1 q.2).2.1 Pl (aY Y Pl R E q.1 q.2).2.2 T)) ->
 CRun t fe env (l.map enc) ((bS Y Pl R E l).1.map nD) (sM st R Pl E T) (sM st (bS Y Pl R E l).2.1 Pl (bS Y Pl R E l).2.2 T)
 |[],R,E,_,_,_=>.nil
 |q::l,R,E,h1,h2,h=>by
   rw[yAl] at h1 h2;have ln:=iU Y Pl R E q.1 q.2;exact .cons (S1:=sM st (aY Y Pl R E q.1 q.2).2.1 Pl (aY Y Pl R E q.1 q.2).2.2 T) (hput q) (λ aM=>h q xAc R E (T++[qz aM]) () ()) (by simp)
    (aKj enc e hput l _ _ () () λ z hz=>h z (xAf _ hz))
def jW(rs:List Rw)(aE:List Nat):List (Nat×Nat):=aE.map λ o=>(o,g0 (~~~rs) o)
def fK(rs:List Rw)(Y:List (Option (Yw×Nat)))(aE:List Nat):List Nat×List Rw×List (Rw×Nat):=bS Y (aV rs Y ↑rs).1 (aV rs Y ↑rs).2.1 (aV rs Y ↑rs).2.2 (jW rs aE)
def oE(rs:List Rw)(Y:List (Option (Yw×Nat)))(aE:List Nat):D:=.tuple [.tuple ((fK rs Y aE).2.1.map Rw.d),.tuple ((fK rs Y aE).1.map nD)]
section
variable {rs:List Rw}{Y:List (Option (Yw×Nat))}
noncomputable abbrev eB(P f m YY:D)(c5 c6 c7 c8:Option W):bB:=[qz (.d P),qz (.d f),qz (.d m),qz (.d YY),qz (cE P YY),c5,c6,c7,c8,qx]
def aH9(hr:rs[j]?=qz r)(hy:Y[j]?=qz qx):aV rs Y (j+1)=((aV rs Y j).1++[qx],(aV rs Y j).2):=by rw[aV,hr,hy]
def aIL(hr:rs[j]?=qz r)(hy:Y[j]?=qz (qz q)):aV rs Y (j+1)=((aV rs Y j).1++[qz (iI (~~~rs) Y (aV rs Y j).1 (aV rs Y j).2.1 (aV rs Y j).2.2 r q.2).1],(iI (~~~rs) Y (aV rs Y j).1 (aV rs Y j).2.1 (aV rs Y j).2.2 r q.2).2):=by rw[aV,hr,hy]
def aS9(d:Nat)(p:Prg rs)(hl:↑rs<=60)(g:Yg rs Y)(o f m:D)(st:Option (List D))(hr:rs[j]?=qz r)(hy:Y[j]?=qz y)(c8:Option W):∃ c8':Option W,xs (d<$>5) vE (eB (rs<*o) f m (Y*>yD) qx (qz (.d r.d)) (qz (.d (yD y))) c8) (sM st (aV rs Y j).2.1 (aV rs Y j).1 (aV rs Y j).2.2 [])=qz (.nx (eB (rs<*o) f m (Y*>yD) qx (qz (.d r.d)) (qz (.d (yD y))) c8'),sM st (aV rs Y (j+1)).2.1 (aV rs Y (j+1)).1 (aV rs Y (j+1)).2.2 []):=by
 have hj:j<↑rs:=(gIm hr).1;have mv:=wW p g j ();have isy:=aCj y;have m1:=mv.l;have m2:=mv.r;have m3:=mv.e;cases y with
 |none=>
   have isy:aW .Is (yD qx) .none=qz (.bool true):=isy;have ap:cX (sM st (aV rs Y j).2.1 (aV rs Y j).1 (aV rs Y j).2.2 []) (.loc 2) (.d .none)=_:=aLk qx st (aV rs Y j).2.1 (aV rs Y j).1 () (aV rs Y j).2.2 [];refine⟨qz (.d .none),?_⟩;rw[aH9 hr hy];generalize (yAk [(rs*>Rw.d),o])=P;erw[2,vE,eB,isy,ap]
 |some q=>
   have isy:aW .Is (yD (qz q)) .none=qz (.bool false):=isy;let(f1,f2):=p.fit j r hr;let(k1,k2,k3):=aEl g hr hy;have w64:=(p.ws j r hr).2;have mr:=aRO (rs:=rs) d f1 o (Y:=Y) (Pl:=(aV rs Y j).1) q.2 () (λ a ha=>⟨_,yAa (yFy (f2 a ha) hj)⟩) (λ a ha=>(mv.pl a (f2 a ha)).f) (g.cok j r q hr hy) st (aV rs Y j).2.1 () (aV rs Y j).2.2 () [];have x1:aH (yD (qz q)) (.int 1)=qz (.int (q.2:Nat)):=rfl;refine⟨(((iI (~~~rs) Y (aV rs Y j).1 (aV rs Y j).2.1 (aV rs Y j).2.2 r q.2).1:Nat):),?_⟩;rw[aIL hr hy];generalize iI (~~~rs) Y (aV rs Y j).1 (aV rs Y j).2.1 (aV rs Y j).2.2 r q.2=x at mr ⊢;let(x0,R1,E1):=x;dsimp only at mr ⊢;have ap:cX (sM st R1 (aV rs Y j).1 E1 []) (.loc 2) (.d (.int x0))=_:=aLk (qz x0) st R1 (aV rs Y j).1 () E1 [];generalize (yAk [(rs*>Rw.d),o])=P at mr ⊢;erw[2,vE,eB,isy,x1,mr,ap]
def aJY(d:Nat)(p:Prg rs)(hl:↑rs<=60)(g:Yg rs Y)(aE:List Nat)(ho:∀ o∈aE,o<↑rs)(hol:↑aE<=20)(f m:D)(st:Option (List D)) :
 cl fns (d+6) 65 [.d (rs<*(aE*>nD)),.d f,.d m,.d (Y*>yD)] [st]=qz (.d (oE rs Y aE),[st]):=by
 have trn:=λ(j:Nat) (r:Rw) (y:Option (Yw×Nat)) (hr:rs[j]?=qz r) (hy:Y[j]?=qz y) (c8:Option W)=>aS9 d p hl g (aE*>nD) f m st hr hy c8
 have mv:=wW p g ↑rs (yAb _);have i0:aH (rs<*(aE*>nD)) (.int 0)=qz (rs*>Rw.d):=rfl;have i1:aH (rs<*(aE*>nD)) (.int 1)=qz (aE*>nD):=rfl;have wo:=λ(a:Nat) (ha:a<↑rs) (S:aC)=>wR (d+4) a (yAa ha) (aE*>nD) S
 obtain⟨P,hP⟩:∃ P:D,P=(rs<*(aE*>nD)):=⟨_,rfl⟩;simp only[<- hP] at trn i0 i1 wo ⊢;obtain⟨YY,hYY⟩:∃ YY:D,YY=(Y*>yD):=⟨_,rfl⟩;have it:lv (d<$>5) aCQ (eB P f m YY qx qx qx qx) (sM st [] [] [] [])=qz ((rs.zip Y).map (λ q=>yAk [q.1.d,yD q.2]),sM st [] [] [] []):=by
  rw[<- aE1,hYY];erw[2,aCQ,eB,i0]
 rw[<- hYY] at trn ⊢;let(env1,S1,p1,c6,c7,c8,rfl,rfl):=kY (t:=.many [6,7]) (fb:=xs (d<$>5) vE)
  (λ j env S'=>∃ c6 c7 c8:Option W,env=eB P f m YY qx c6 c7 c8/\S'=sM st (aV rs Y j).2.1 (aV rs Y j).1 (aV rs Y j).2.2 [])
  it ⟨qx,qx,qx,rfl,rfl⟩ (by
   rintro j dd env S' hd ⟨c6,c7,c8,rfl,rfl⟩;let(r,y,hr,hy,rfl):=aLg hd;let(c8',e):=trn j r y hr hy c8;exact⟨_,_,_,rfl,e,qz (.d r.d),qz (.d (yD y)),c8',rfl,rfl⟩)
 rw[yAc,yGo,g.st.l,Nat.min_self] at p1;have m2:=mv.r;have m3:=mv.e;have lo:↑(jW rs aE)<=20:=by unfold jW;rw[yAc];exact hol
 have hh:∀ q∈jW rs aE,eJ Y (aV rs Y ↑rs).1 q.1/\q.1<↑rs/\q.2=g0 (~~~rs) q.1:=λ q hq=>by
  let(k,hk,rfl):=List.mem_map.mp hq;exact⟨(mv.pl k (ho k hk)).f,ho k hk,rfl⟩
 have hC:lv (d<$>5) aGY (eB P f m YY qx c6 c7 c8) (sM st (aV rs Y ↑rs).2.1 (aV rs Y ↑rs).1 (aV rs Y ↑rs).2.2 [])=qz ((fK rs Y aE).1.map nD,sM st (fK rs Y aE).2.1 (aV rs Y ↑rs).1 (fK rs Y aE).2.2 []):=by
  refine @qN _ _ ((jW rs aE).map λ q=>nD q.1) _ (.one 9) _ _ (lv (d<$>5) (.it (.ix (.var 0) (.int 1)))) (ev (d<$>5) (.mth "fetch" 57 (.var 4) (.cons (.var 9) (.cons (.call 10 (.cons (.var 0) (.cons (.var 9) .nil))) .nil)))) ?_ (by rw[yAc];omega) (aKj (λ q=>nD q.1) (λ q=>_) (λ q=>rfl) _ _ _ () () λ q hq R E T h1 h2=>?_)
  ·have:(jW rs aE).map (λ q=>nD q.1)=aE.map nD:=by unfold jW;rw[yBd];rfl
   rw[this];erw[1,eB,i1,eV]
  ·let(h3,h4,h5):=hh q hq;have w1:=λ S=>wo q.1 h4 S
   have ew:rs[q.1].w=q.2:=by rw[h5,hV (yAa h4)]
   rw[ew] at w1;have ft:=oN (d+2) P q.2 h3 st R h1 E h2 T;rw[<- hYY] at ft;exact xI rfl rfl (bI rfl (bI (dW rfl (w1 _)) rfl)) ft
 have tp1:gU [.list ((fK rs Y aE).1.map nD)]=qz (.tuple ((fK rs Y aE).1.map nD)):=rfl;have tp2:gU [.list ((fK rs Y aE).2.1.map Rw.d)]=qz (.tuple ((fK rs Y aE).2.1.map Rw.d)):=rfl;have mk1:ev (d<$>5) (.mk cl_ini 3 (.cons (.var 0) (.cons (.var 3) .nil))) [qz (.d P),qz (.d f),qz (.d m),qz (.d YY),qx,qx,qx,qx,qx,qx] [st]=qz (cE P YY,sM st [] [] [] []):=aMY rfl rfl rfl rfl;have body:xs (d<$>5) aIH [qz (.d P),qz (.d f),qz (.d m),qz (.d YY),qx,qx,qx,qx,qx,qx] [st]=qz (.rt (.d (oE rs Y aE)),sM st (fK rs Y aE).2.1 (aV rs Y ↑rs).1 (fK rs Y aE).2.2 []):=by
  refine cF mk1 rfl (lA p1 (cF (rC (bI (aFz hC) rfl) rfl tp1) rfl (cL ?_)));exact tK (bI (rC (bI (aKH rfl rfl) rfl) rfl tp2) rfl) rfl (by simp)
 exact tU rfl rfl rfl body rfl
noncomputable abbrev eH(P YY:D)(c4 c5 c6:Option W):bB:=[qz (.d P),qz (.d YY),qz (cM YY),qx,c4,c5,c6]
def aSB(d:Nat)(p:Prg rs)(hl:↑rs<=60)(g:Yg rs Y)(o:D)(st:Option (List D))(hr:rs[j]?=qz r)(hy:Y[j]?=qz y)(c6:Option W):∃ c6':Option W,xs (d<$>5) uW (eH (rs<*o) (Y*>yD) (qz (.d r.d)) (qz (.d (yD y))) c6) (sH st (aV rs Y j).2.1 (aV rs Y j).2.2 (aV rs Y j).1 [])=qz (.nx (eH (rs<*o) (Y*>yD) (qz (.d r.d)) (qz (.d (yD y))) c6'),sH st (aV rs Y (j+1)).2.1 (aV rs Y (j+1)).2.2 (aV rs Y (j+1)).1 []):=by
 have hj:j<↑rs:=(gIm hr).1;have mv:=wW p g j ();have isy:=aSc y;have m1:=mv.l;have m2:=mv.r;have m3:=mv.e;cases y with
 |none=>
   have isy:aW .IsNot (yD qx) .none=qz (.bool false):=isy;have ap:cX (sH st (aV rs Y j).2.1 (aV rs Y j).2.2 (aV rs Y j).1 []) (.loc 3) (.d .none)=_:=aJT qx st (aV rs Y j).2.1 (aV rs Y j).1 () (aV rs Y j).2.2 [];refine⟨qz (.d .none),?_⟩;rw[aH9 hr hy];generalize (yAk [(rs*>Rw.d),o])=P;generalize (yAk (Y.map yD))=YY;erw[2,uW,eH,isy,ap]
 |some q=>
   have isy:aW .IsNot (yD (qz q)) .none=qz (.bool true):=isy;let(f1,f2):=p.fit j r hr;let(k1,k2,k3):=aEl g hr hy;have w64:=(p.ws j r hr).2;have mr:=aS7 (rs:=rs) d f1 rfl o (Y:=Y) (Pl:=(aV rs Y j).1) q.2 () k2 k3 (λ a ha=>⟨_,yAa (yFy (f2 a ha) hj)⟩) (g.cok j r q hr hy) st (aV rs Y j).2.1 () (aV rs Y j).2.2 () mv.mi (λ a ha=>mv.pl a (f2 a ha)) [];have x1:aH (yD (qz q)) (.int 1)=qz (.int (q.2:Nat)):=rfl;refine⟨(((iI (~~~rs) Y (aV rs Y j).1 (aV rs Y j).2.1 (aV rs Y j).2.2 r q.2).1:Nat):),?_⟩;rw[aIL hr hy];generalize iI (~~~rs) Y (aV rs Y j).1 (aV rs Y j).2.1 (aV rs Y j).2.2 r q.2=x at mr ⊢;let(x0,R1,E1):=x;dsimp only at mr ⊢;have ap:cX (sH st R1 E1 (aV rs Y j).1 []) (.loc 3) (.d (.int x0))=_:=aJT (qz x0) st R1 (aV rs Y j).1 () E1 [];generalize (yAk [(rs*>Rw.d),o])=P at mr ⊢;generalize (yAk (Y.map yD))=YY at mr ⊢;erw[2,uW,eH,isy,x1,mr,ap]
def aHD(d:Nat)(p:Prg rs)(hl:↑rs<=60)(g:Yg rs Y)(aE:List Nat)(ho:∀ o∈aE,o<↑rs)(hol:↑aE<=20)(st:Option (List D)) :
 cl fns (d+6) 89 [.d (rs<*(aE*>nD)),.d (Y*>yD)] [st]=qz (.tpl [.d (oE rs Y aE),.d (.list ((aV rs Y ↑rs).1.map jI))],[st]):=by
 have trn:=λ(j:Nat) (r:Rw) (y:Option (Yw×Nat)) (hr:rs[j]?=qz r) (hy:Y[j]?=qz y) (c6:Option W)=>aSB d p hl g (aE*>nD) st hr hy c6
 have mv:=wW p g ↑rs (yAb _);have i0:aH (rs<*(aE*>nD)) (.int 0)=qz (rs*>Rw.d):=rfl;have i1:aH (rs<*(aE*>nD)) (.int 1)=qz (aE*>nD):=rfl;obtain⟨P,hP⟩:∃ P:D,P=(rs<*(aE*>nD)):=⟨_,rfl⟩;simp only[<- hP] at trn i0 i1 ⊢;obtain⟨YY,hYY⟩:∃ YY:D,YY=(Y*>yD):=⟨_,rfl⟩;have it:lv (d<$>5) aCC (eH P YY qx qx qx) (sH st [] [] [] [])=qz ((rs.zip Y).map (λ q=>yAk [q.1.d,yD q.2]),sH st [] [] [] []):=by
  rw[<- aE1,hYY];erw[2,aCC,eH,i0]
 rw[<- hYY] at trn ⊢;let(env1,S1,p1,c4,c5,c6,rfl,rfl):=kY (t:=.many [4,5]) (fb:=xs (d<$>5) uW)
  (λ j env S'=>∃ c4 c5 c6:Option W,env=eH P YY c4 c5 c6/\S'=sH st (aV rs Y j).2.1 (aV rs Y j).2.2 (aV rs Y j).1 [])
  it ⟨qx,qx,qx,rfl,rfl⟩ (by
   rintro j dd env S' hd ⟨c4,c5,c6,rfl,rfl⟩;let(r,y,hr,hy,rfl):=aLg hd;let(c6',e):=trn j r y hr hy c6;exact⟨_,_,_,rfl,e,qz (.d r.d),qz (.d (yD y)),c6',rfl,rfl⟩)
 rw[yAc,yGo,g.st.l,Nat.min_self] at p1;have m2:=mv.r;have m3:=mv.e;have lo:↑(jW rs aE)<=20:=by unfold jW;rw[yAc];exact hol
 have hh:∀ q∈jW rs aE,bM Y (aV rs Y ↑rs).1 (aV rs Y ↑rs).2.1 q.1/\q.1<↑rs/\q.2=g0 (~~~rs) q.1:=λ q hq=>by
  let(k,hk,rfl):=List.mem_map.mp hq;exact⟨mv.pl k (ho k hk),ho k hk,rfl⟩
 have hC:lv (d<$>5) aGf (eH P YY c4 c5 c6) (sH st (aV rs Y ↑rs).2.1 (aV rs Y ↑rs).2.2 (aV rs Y ↑rs).1 [])=qz ((fK rs Y aE).1.map nD,sH st (fK rs Y aE).2.1 (fK rs Y aE).2.2 (aV rs Y ↑rs).1 []):=by
  refine @qN _ _ ((jW rs aE).map λ q=>nD q.1) _ (.one 6) _ _ (lv (d<$>5) (.it (.ix (.var 0) (.int 1)))) (ev (d<$>5) (.call 86 (.cons (.var 2) (.cons (.var 6) (.cons (.ix (.ix (.ix (.var 0) (.int 0)) (.var 6)) (.int 1)) .nil))))) ?_ (by rw[yAc];omega) (aBi (λ q=>nD q.1) (λ q=>_) (λ q=>rfl) _ _ _ mv.mi (λ q hq=>(hh q hq).1) () () λ q hq R E T hf h1 h2=>?_)
  ·have:(jW rs aE).map (λ q=>nD q.1)=aE.map nD:=by unfold jW;rw[yBd];rfl
   rw[this];erw[1,eH,i1,eV]
  ·let(h3,h4,h5):=hh q hq;have r1:aH (rs*>Rw.d) (nD q.1)=qz rs[q.1].d:=cW (by rw[yAd,yAa h4];rfl);have r2:aH rs[q.1].d (.int 1)=qz (.int (q.2:Nat)):=by rw[h5,hV (yAa h4)];exact dD _
   have ft:=sJ (d+1) q.2 st R hf h1 E h2 T;rw[<- hYY] at ft;exact dW (bI (bK rfl) (bI (bK rfl) (bI (jE (jE (jE (bK rfl) nM rfl i0) (bK rfl) rfl r1) nM rfl r2) rfl))) ft
 have tp1:gU [.list ((fK rs Y aE).1.map nD)]=qz (.tuple ((fK rs Y aE).1.map nD)):=rfl;have tp2:gU [.list ((fK rs Y aE).2.1.map Rw.d)]=qz (.tuple ((fK rs Y aE).2.1.map Rw.d)):=rfl;have mk1:ev (d<$>5) (.tpl (.cons (.new (.lst .nil)) (.cons .dnew (.cons (.new (.lst .nil)) (.cons (.var 1) .nil))))) [qz (.d P),qz (.d YY),qx,qx,qx,qx,qx] [st]=qz (cM YY,sH st [] [] [] []):=aEV (bI (xK (aBT aBP rfl (yBv _))) (bI aKQ (bI (xK (aBT aBP rfl (yBv _))) (bI (bK rfl) rfl)))) rfl (eq_true (yAu rfl));have body:xs (d<$>5) aCK [qz (.d P),qz (.d YY),qx,qx,qx,qx,qx] [st]=qz (.rt (.tpl [.d (oE rs Y aE),.loc 3]),sH st (fK rs Y aE).2.1 (fK rs Y aE).2.2 (aV rs Y ↑rs).1 []):=by
  refine cF mk1 rfl (lA p1 (cF (rC (bI (aFz hC) rfl) rfl tp1) rfl (cL ?_)));refine aEV (bI (tK (bI (rC (bI (aD5 rfl rfl) rfl) rfl tp2) rfl) rfl (yAu rfl)) (bI (aD5 rfl rfl) rfl)) rfl (eq_true (yAu rfl))
 rw[aN rfl (d+5) _ _ rfl];show(xs (d<$>5) aCK [qz (.d P),qz (.d YY),qx,qx,qx,qx,qx] [st]).bind _=_;rw[body];rfl
end
def aP5(r:Rw)(f:Ft)(h:m≠0):∃ q,iC r f m=qz q:=by
 unfold iC;by_cases c:r.wd=.in
 ·rw[if_pos c];exact⟨_,rfl⟩
 ·rw[if_neg c,if_neg h];exact⟨_,rfl⟩
def aVc{r:Rw}(hc:fA r.wd=true)(h:iC r f m=qz q):m≠0:=by
 intro z;have c:r.wd≠.in:=λ e=>by rw[e] at hc;cases hc
 unfold iC at h;rw[if_neg c,if_pos z] at h;cases h
def aDL{rs:List Rw}{F:List Ft}(p:Prg rs)(hF:↑F=↑rs)(h:Bd rs M)(ha:Aq rs M 0):Yg rs (eU rs F M):=by
 refine⟨aRx p hF h,λ k r hr hi=>?_,λ k r q hr hq hc a hA=>?_⟩
 ·rw[sS hr hF h.l];unfold iC;rw[if_pos (eq_of_beq hi)]
 ·rw[sS hr hF h.l] at hq;have m0:=aVc hc (Option.some.inj hq);have ma:=ha k r (yBv _) hr hc m0 a hA;have hk:k<↑rs:=(gIm hr).1;have hka:a<↑rs:=yFy ((p.fit k r hr).2 a hA) hk;let(y,hy):=aP5 rs[a] (f0 F a) ma;exact⟨y,by rw[sS (yAa hka) hF h.l,hy]⟩
def aS8{rs:List Rw}{Y':List (Option (Yw×Nat))}(g:Yg rs Y)(hl:↑Y'=↑rs)(h:∀ (k:Nat) (r:Rw) (y y':Option (Yw×Nat)),rs[k]?=qz r->Y[k]?=qz y->Y'[k]?=qz y'->y'.isSome=y.isSome/\uT r.w y'/\((r.wd==.in)=true->y'=y))(p:Prg rs):Yg rs Y':=by
 have gl:=g.st.l;have oJ:∀ k,k<↑rs->∃ r y y',rs[k]?=qz r/\Y[k]?=qz y/\Y'[k]?=qz y':=λ k hk=>⟨_,_,_,yAa hk,yAa (),yAa ()⟩
 refine⟨⟨hl,λ k r y' hr hy'=>?_⟩,λ k r hr hi=>?_,λ k r q hr hq hc a hA=>?_⟩
 ·let(r0,y,y1,h1,h2,h3):=oJ k (gIm hr).1;exact(h k r y y' hr h2 hy').2.1
 ·let(r0,y,y1,h1,h2,h3):=oJ k (gIm hr).1;have e:=(h k r y y1 hr h2 h3).2.2 hi;rw[h3,e,<- h2];exact g.inn k r hr hi
 ·have hk:k<↑rs:=(gIm hr).1;let(r0,y,y1,h1,h2,h3):=oJ k hk;have e:=(h k r y (qz q) hr h2 hq).1;let(q0,hq0):=Option.isSome_iff_exists.mp e.symm;rw[hq0] at h2;let(ya,hya):=g.cok k r q0 hr h2 hc a hA;let(ra,y2,y3,g1,g2,g3):=oJ a (yFy ((p.fit k r hr).2 a hA) hk);rw[hya] at g2;cases g2;let(q3,hq3):=Option.isSome_iff_exists.mp (h a ra _ y3 g1 hya g3).1;exact⟨q3,by rw[g3,hq3]⟩
def aUE(w v:Nat)(hw:1<=w)(hv:1<=v):∃ z:Nat,1<=z/\z<=w/\gK [.int ((w:Nat):Int),.int ((v:Nat):Int)]=qz (.int z):=by
 have e:gK [.int (w:Int),.int (v:Int)]=qz (.int (if (v:Int)<(w:Int) then (v:Int) else (w:Int))):=rfl;by_cases c:v<w
 ·rw[if_pos (Int.ofNat_lt.mpr c)] at e;exact⟨v,hv,yDz c,e⟩
 ·rw[if_neg (λ h=>c (Int.ofNat_lt.mp h))] at e;exact⟨w,hw,yAb w,e⟩
def aFr(r:Rw)(y y':Option (Yw×Nat)):Prop:=y'.isSome=y.isSome/\uT r.w y'/\((r.wd==.in)=true->y'=y)
noncomputable abbrev eZ(r:Rw)(f:Ft)(m:Nat)(y:D)(c5 c6:Option W):bB:=[#[0],qz (.d r.d),qz (.d f.d),(m:),qz (.d y),c5,c6]
def aRN(d:Nat)(r:Rw)(f:Ft)(m:Nat)(b a:Yw)(kk kept:Nat)(hy:uT r.w (qz (b,kk)))(hi:(r.wd==.in)=false)(h1:1<=kept)(h2:kept<=r.w)(S:aC):∃ y',aFr r (qz (b,kk)) y'/\xs (d<$>1) (aT (aT (aT (aT dQ)))) (eZ r f m (yD (qz (b,kk))) (qz (.d (.str a.s))) ((kept:))) S=qz (.rt (.d (yD y')),S):=by
 have le:=aJy d a kept f m r.w h1 h2 S;have rw1:=dD r;generalize lb a kept f m r.w=t at le;cases t with
 |true=>
   refine⟨qz (a,kept),⟨rfl,λ a' k' e=>by cases e;exact⟨h1,h2⟩,λ h=>by rw[hi] at h;cases h⟩,?_⟩;erw[3,aT,dQ,eZ,rw1,le]
 |false=>
   refine⟨qz (b,kk),⟨rfl,hy,λ _=>rfl⟩,?_⟩;erw[3,aT,dQ,eZ,rw1,le]
def aOq{x:Int}(d:Nat)(r:Rw)(f:Ft)(m:Nat)(y:Option (Yw×Nat))(cB:1<=r.w)(hw:r.w<=64)(hy:uT r.w y)(T:aC)(hT:↑T<=40)(hk:k<=90000):∃ (y':Option (Yw×Nat)) (k':Nat) (x':Int),aFr r y y'/\k'<=k+5/\cl fns (d+2) 81 [.loc 0,.d r.d,.d f.d,.d (.int m),.d (yD y)] (sT T ns k x)=qz (.d (yD y'),sT T ns k' x'):=by
 have tk:∀ (k':Nat) (x':Int),yEf (yFb T+1) (sT T ns k' x')=sT T ns k' x':=λ k' x'=>by
  rw[show ↑T+1=↑(sT T ns k' x') from rfl,yAg]
 have c1:aW .Eq (.str r.wd.s) (.str "in")=qz (.bool (decide (r.wd=.in))):=cG r.wd .in;have rw0:=tH r;have rw1:=dD r;have isy:=aCj y;by_cases c:r.wd=.in
 ·rw[dqT c] at c1;refine⟨y,k,x,⟨rfl,hy,λ _=>rfl⟩,by omega,?_⟩;rw[aN rfl (d+1) _ _ rfl];erw[11,dQ,rw0,c1,tk]
 ·have hi:(r.wd==.in)=false:=beq_eq_false_iff_ne.mpr c;rw[dqF c] at c1;rcases y with _|⟨b,kk⟩
  ·rw[yGz] at isy;refine⟨qx,k,x,⟨rfl,hy,λ _=>rfl⟩,by omega,?_⟩;rw[aN rfl (d+1) _ _ rfl];erw[11,dQ,rw0,c1,isy,tk]
  ·rw[Option.isNone_some] at isy;let(q,x1,hq,e1):=@kZ k ns x T hT d 2 (·) (·) ();have e1':cl fns (d+1) 67 [.loc 0,.d (.int 2)] (sT T ns k x)=qz (.d (.int q),sT T ns (k+1) x1):=e1;have l1:aW .Eq (.int q) (.int 1)=qz (.bool ((q:Int)==1)):=rfl;by_cases cq:q=1
   ·have dq:((q:Int)==1)=true:=by rw[beq_iff_eq];omega
    rw[dq] at l1;refine⟨qz (b,kk),k+1,x1,⟨rfl,hy,λ _=>rfl⟩,by omega,?_⟩;generalize yD (qz (b,kk))=Yd at isy ⊢;rw[aN rfl (d+1) _ _ rfl];erw[11,dQ,rw0,c1,isy,e1',l1,tk]
   ·have dq:((q:Int)==1)=false:=by rw[beq_eq_false_iff_ne];omega
    rw[dq] at l1;let(v,x2,hv,e2):=@kZ (k+1) ns x1 T hT d 3 (·) (·) ();let(u,x3,hu,e3):=@kZ (k+1+1) ns x2 T hT d 4 (·) (·) ();let(t,x4,ht,e4):=@kZ (k+1+1+1) ns x3 T hT d 4 (·) (·) ();have e2':cl fns (d+1) 67 [.loc 0,.d (.int 3)] (sT T ns (k+1) x1)=qz (.d (.int v),sT T ns (k+1+1) x2):=e2;have e3':cl fns (d+1) 67 [.loc 0,.d (.int 4)] (sT T ns (k+1+1) x2)=qz (.d (.int u),sT T ns (k+1+1+1) x3):=e3;have e4':cl fns (d+1) 67 [.loc 0,.d (.int 4)] (sT T ns (k+1+1+1) x3)=qz (.d (.int t),sT T ns (k+1+1+1+1) x4):=e4;obtain⟨a,ha⟩:∃ a:Yw,aH (.list [.str "cut",.str "nought",.str "sign"]) (.int v)=qz (.str a.s):=by
     rcases (show v=0\/v=1\/v=2 by omega) with rfl|rfl|rfl
     ·exact⟨.cut,rfl⟩
     ·exact⟨.nought,rfl⟩
     ·exact⟨.sign,rfl⟩
    let(k1,k2):=hy b kk rfl;have y1:aH (yD (qz (b,kk))) (.int 1)=qz (.int kk):=rfl;have eu:(kk:Int)+(u:Int)=((kk+u:Nat):Int):=();let(z,z1,z2,mn):=aUE r.w (kk+u) cB ();have l4:aW .Eq (.int t) (.int 1)=qz (.bool ((t:Int)==1)):=rfl;have tl:=λ kept h1 h2 S=>aRN d r f m b a kk kept hy hi h1 h2 S
    have e:dQ=.seq (bR dQ) (.seq (bR (aT dQ)) (.seq (bR (aT (aT dQ))) (.seq (bR (aT (aT (aT dQ)))) (aT (aT (aT (aT dQ))))))):=rfl;generalize yD (qz (b,kk))=Yd at isy y1 tl ⊢;have s0:xs (d<$>1) (bR dQ) (eZ r f m Yd qx qx) (sT T ns k x)=qz (.nx (eZ r f m Yd qx qx),sT T ns (k+1) x1):=by
     erw[3,bR,dQ,eZ,rw0,c1,isy,e1',l1]
    have s1:xs (d<$>1) (bR (aT dQ)) (eZ r f m Yd qx qx) (sT T ns (k+1) x1)=qz (.nx (eZ r f m Yd (qz (.d (.str a.s))) qx),sT T ns (k+1+1) x2):=by
     erw[4,bR,aT,dQ,eZ,e2',ha]
    have s2:xs (d<$>1) (bR (aT (aT dQ))) (eZ r f m Yd (qz (.d (.str a.s))) qx) (sT T ns (k+1+1) x2)=qz (.nx (eZ r f m Yd (qz (.d (.str a.s))) ((z:))),sT T ns (k+1+1+1) x3):=by
     erw[4,bR,aT,dQ,eZ,rw1,y1,e3',cV,eu,mn]
    have bZ:∃ (kept k':Nat) (x':Int),1<=kept/\kept<=r.w/\k'<=k+5/\xs (d<$>1) (bR (aT (aT (aT dQ)))) (eZ r f m Yd (qz (.d (.str a.s))) ((z:))) (sT T ns (k+1+1+1) x3)=qz (.nx (eZ r f m Yd (qz (.d (.str a.s))) ((kept:))),sT T ns k' x'):=by
     by_cases ct:t=1
     ·have dt:((t:Int)==1)=true:=by rw[beq_iff_eq];omega
      rw[dt] at l4;let(w,x5,hw5,e5):=@kZ (k+1+1+1+1) ns x4 T hT d r.w () () ();have ea:(1:Int)+(w:Int)=((1+w:Nat):Int):=();refine⟨1+w,k+1+1+1+1+1,x5,by omega,by omega,by omega,?_⟩;erw[4,bR,aT,dQ,eZ,e4',l4,rw1,e5,cV,ea]
     ·have dt:((t:Int)==1)=false:=by rw[beq_eq_false_iff_ne];omega
      rw[dt] at l4;refine⟨z,k+1+1+1+1,x4,z1,z2,by omega,?_⟩;erw[4,bR,aT,dQ,eZ,e4',l4]
    let(kept,k',x',h1,h2,hk',s3):=bZ;let(y',ok,s4):=tl kept h1 h2 (sT T ns k' x');refine⟨y',k',x',ok,hk',?_⟩;have body:xs (d<$>1) dQ (eZ r f m Yd qx qx) (sT T ns k x)=qz (.rt (.d (yD y')),sT T ns k' x'):=by
     rw[e];exact lA s0 (lA s1 (lA s2 (lA s3 s4)))
    exact tU rfl rfl rfl body (tk k' x')
noncomputable abbrev eT(P FF MM YY:D)(c6:Option W):bB:=[#[0],qz (.d P),qz (.d FF),qz (.d MM),qz (.d YY),#[1],c6]
noncomputable abbrev sY(ns:List Int)(k:Nat)(x:Int)(Y:List (Option (Yw×Nat))):aC:=[qz (aJ ns k x),qz (Y.map yD)]
def aXZ{x:Int}(Y:List (Option (Yw×Nat)))(hY:↑Y<=1000)(y:Option (Yw×Nat)):cX (sY ns k x Y) (.loc 1) (.d (yD y))=qz (.d .none,sY ns k x (Y++[y])):=by show(if ↑(Y.map yD)<qk then _ else qx)=_;rw[if_pos (by rw[yAc,zq];omega),show Y.map yD++[yD y]=(Y++[y]).map yD by rw[yAv];rfl];rfl
def aQC{rs:List Rw}{F:List Ft}{x:Int}(d:Nat)(p:Prg rs)(hF:↑F=↑rs)(h:Bd rs M)(ha:Aq rs M 0)(o:D)(hk:k<=50000):∃ (Y:List (Option (Yw×Nat))) (k':Nat) (x':Int),Yg rs Y/\k'<=k+5*↑rs/\cl fns (d+7) 82 [.loc 0,.d (rs<*o),.d (F*>Ft.d),.d (M*>nD)] [qz (aJ ns k x)]=qz (.d (Y*>yD),[qz (aJ ns k' x')]):=by
 have pl:=p.l;have hM:=h.l;have g0:=aDL p hF h ha;have st:=λ S=>aIS d p hF h o S
 have lY:iL [.tuple ((eU rs F M).map yD)]=qz (.int ↑rs):=by
  show qz (yAn ((↑((eU rs F M).map yD):Nat):Int))=_;rw[yAc,aJk hF h.l]
 have i0:aH (rs<*o) (.int 0)=qz (rs*>Rw.d):=rfl;have ir:∀ (j:Nat) (r:Rw),rs[j]?=qz r->aH (rs*>Rw.d) (.int j)=qz r.d:=λ j r hr=>cW (by rw[yAd,hr];rfl)
 have iF:∀ j:Nat,j<↑rs->aH (F*>Ft.d) (.int j)=qz (f0 F j).d:=λ j hj=>cW (by rw[yAd,oV ()];rfl)
 have iM:∀ j:Nat,j<↑rs->aH (M*>nD) (.int j)=qz (.int ((M.getD j 0:Nat):Int)):=λ j hj=>cW (by rw[yAd,aDH ()];rfl)
 have iY:∀ (j:Nat) (r:Rw),rs[j]?=qz r->aH (.tuple ((eU rs F M).map yD)) (.int j)=qz (yD (iC r (f0 F j) (M.getD j 0))):=λ j r hr=>cW (by rw[yAd,sS hr hF h.l];rfl)
 obtain⟨P,hP⟩:∃ P:D,P=(rs<*o):=⟨_,rfl⟩;obtain⟨R,hR⟩:∃ R:D,R=(rs*>Rw.d):=⟨_,rfl⟩;obtain⟨FF,hFF⟩:∃ FF:D,FF=(F*>Ft.d):=⟨_,rfl⟩;obtain⟨MM,hMM⟩:∃ MM:D,MM=(M*>nD):=⟨_,rfl⟩;obtain⟨YY,hYY⟩:∃ YY:D,YY=.tuple ((eU rs F M).map yD):=⟨_,rfl⟩;rw[<- hP,<- hFF,<- hMM];simp only[<- hP] at st i0;simp only[<- hFF,<- hMM,<- hYY,<- hR] at st lY i0 ir iF iM iY;have it:lv (d<$>6) aCH (eT P FF MM YY qx) (sY ns k x [])=qz ((yBm ↑rs).map (λ k=>yAn ((k:Nat):Int)),sY ns k x []):=by
  simp only[aCH,rB,qK,qJ,qQ,qW,qM];exact vD (by erw[20,eT,lY]) ()
 let(env1,S1,p1,Y,k',x',c6,yl,ys,hk',rfl,rfl):=kY (t:=.one 6) (fb:=xs (d<$>6) aGm)
  (λ j env S'=>∃ (Y:List (Option (Yw×Nat))) (k':Nat) (x':Int) (c6:Option W),↑Y=j/\(∀ (i:Nat) (r:Rw) (y':Option (Yw×Nat)),rs[i]?=qz r->Y[i]?=qz y'->aFr r (iC r (f0 F i) (M.getD i 0)) y')/\k'<=k+5*j/\env=eT P FF MM YY c6/\S'=sY ns k' x' Y)
  it ⟨[],k,x,qx,rfl,(λ i r y' _ hy=>by cases hy),by omega,rfl,rfl⟩ (by
   rintro j dd env S' hd ⟨Y,k',x',c6,yl,ys,hk',rfl,rfl⟩;let(hj,rfl):=aIA hd;have hr:rs[j]?=qz rs[j]:=yAa hj;generalize rs[j]=r at hr;let(w1,w2):=p.ws j r hr;let(y',k2,x2,ok,hk2,e):=@aOq k' ns x' (d+4) r (f0 F j) (M.getD j 0) (iC r (f0 F j) (M.getD j 0)) w1 w2 (aIy r _ _ w1 (h.lt j r hr)) [qz (Y.map yD)] (yAu rfl) ();have ap:=@aXZ ns k2 x2 Y () y';have r1:=ir j r hr;have f1:=iF j hj;have m1:=iM j hj;have y1:=iY j r hr;refine⟨eT P FF MM YY ((j:)),eT P FF MM YY ((j:)),sY ns k2 x2 (Y++[y']),rfl,?_,Y++[y'],k2,x2,_,by rw[yAo,yl];rfl,λ i r2 y2 hr2 hy2=>?_,by omega,rfl,rfl⟩
   ·have ev1:ev (d<$>6) (.call 81 (.cons (.var 0) (.cons (.ix (.ix (.var 1) (.int 0)) (.var 6)) (.cons (.ix (.var 2) (.var 6)) (.cons (.ix (.var 3) (.var 6)) (.cons (.ix (.var 4) (.var 6)) .nil)))))) (eT P FF MM YY ((j:))) (sY ns k' x' Y)=qz (.d (yD y'),sY ns k2 x2 Y):=by
     exact dW (bI (bK rfl) (bI (jE (jE (bK rfl) nM rfl i0) (bK rfl) rfl r1) (bI (jE (bK rfl) (bK rfl) rfl f1) (bI (jE (bK rfl) (bK rfl) rfl m1) (bI (jE (bK rfl) (bK rfl) rfl y1) rfl))))) e
    exact lA (aKT (aMH (bK rfl) ev1 ap)) rfl
   ·rcases Nat.lt_trichotomy i j with hi|hi|hi
    ·rw[xAm ()] at hy2;exact ys i r2 y2 hr2 hy2
    ·subst hi;rw[yAf (),yl,yAx] at hy2;cases hy2;rw[hr] at hr2;cases hr2;exact ok
    ·rw[yCp (by rw[yAo,yl];exact hi)] at hy2
     cases hy2)
 rw[yAc,yEr] at yl hk';refine⟨Y,k',x',aS8 g0 yl (λ i r y y' hr hy hy'=>?_) p,hk',?_⟩
 ·rw[sS hr hF h.l] at hy;cases hy;exact ys i r y' hr hy'
 ·have nw:ev (d<$>6) (.new (.lst .nil)) [#[0],qz (.d P),qz (.d FF),qz (.d MM),qz (.d YY),qx,qx] [qz (aJ ns k x)]=qz (.loc 1,sY ns k x []):=xK (aBT aBP rfl (yBv _));have tp:gU [.list (Y.map yD)]=qz (Y*>yD):=rfl;have s0:ev (d<$>6) (.call 54 (.cons (.var 1) (.cons (.var 2) (.cons (.var 3) .nil)))) [#[0],qz (.d P),qz (.d FF),qz (.d MM),qx,qx,qx] [qz (aJ ns k x)]=qz (.d YY,[qz (aJ ns k x)]):=dW (bI (bK rfl) (bI (bK rfl) (bI (bK rfl) rfl))) (st _);have body:xs (d<$>6) aGP [#[0],qz (.d P),qz (.d FF),qz (.d MM),qx,qx,qx] [qz (aJ ns k x)]=qz (.rt (.d (Y*>yD)),sY ns k' x' Y):=
   cF s0 rfl (cF nw rfl (lA p1 (cL (rC (bI (bK rfl) rfl) rfl tp))))
  exact tU rfl rfl rfl body rfl
structure Sm(n:Nat)(x:D):Prop where
 e:yDu x x=true
 l:x.canLay0=true
 d:x.depth<=n
def Sm.up(h:Sm m x)(hn:m<=n):Sm n x:=⟨h.e,h.l,xAh h.d hn⟩
def aKv:∀ {xs:List D},(∀ x∈xs,Sm n x)->PyData.eqvAll xs xs=true/\yEp xs=true/\yEn xs<=n
 |[],_=>⟨rfl,rfl,yBv _⟩
 |x::xs,h=>by
   let(h1,h2,h3):=aKv (λ y hy=>h y (xAf _ hy));have hx:=h x xAc;simp only[PyData.eqvAll,yEp,yEn,h1,h2,hx.e,hx.l,yCc,true_and];exact Nat.max_le.mpr ⟨hx.d,h3⟩
def wT{xs:List D}(h:∀ x∈xs,Sm n x):Sm (n+1) (.tuple xs):=by let(h1,h2,h3):=aKv h;exact⟨by simp only[yDu,h1],h2,Nat.succ_le_succ h3⟩
def aE8(a:Nat):Sm 0 (nD a):=⟨by simp[nD,yDu],rfl,yAb _⟩
def aXg(w:Wd):Sm 0 (.str w.s):=⟨by simp[yDu],by cases w<;>kernel_rfl,yAb _⟩
def aZD(y:Option (Yw×Nat)):Sm 1 (yD y):=⟨by rw[aWO];exact dqT rfl,aYN y,aX8 y⟩
def aUJ(r:Rw):Sm 1 r.d:=wT λ x hx=>by
 rcases List.mem_cons.mp hx with rfl|hx
 ·exact aXg _
 ·rcases List.mem_cons.mp hx with rfl|hx
  ·exact aE8 _
  ·let(a,_,rfl):=List.mem_map.mp hx;exact aE8 a
def aLm(h:Sm n x)(k:Sm n y):Sm (n+1) (.tuple [x,y]):=wT λ z hz=>by
 rcases List.mem_cons.mp hz with rfl|hz
 ·exact h
 ·rw[List.mem_singleton.mp hz];exact k
def aL0(rs:List Rw)(Y:List (Option (Yw×Nat)))(aE:List Nat):Sm 3 (oE rs Y aE):=by
 refine aLm (n:=2) (wT λ x hx=>?_) ((@wT 0 _ λ x hx=>?_).up (·))
 ·let(r,_,rfl):=List.mem_map.mp hx;exact aUJ r
 ·let(r,_,rfl):=List.mem_map.mp hx;exact aE8 r
def aXe(Y:List (Option (Yw×Nat))):Sm 2 (Y*>yD):=wT λ x hx=>by
 let(r,_,rfl):=List.mem_map.mp hx;exact aZD r
def aXt(h:Sm n x)(hn:n<=60):aW .Eq x x=qz (.bool true):=by unfold aW rM;simp only[];rw[if_pos ⟨h.l,h.l,xAh h.d hn⟩,h.e];rfl
def aMp(h:Sm n x)(hn:n<=60):aW .NotEq x x=qz (.bool false):=by unfold aW rM;simp only[];rw[if_pos ⟨h.l,h.l,xAh h.d hn⟩,h.e];rfl
def aVJ{f g:Ft}(h:f.d=g.d):f=g:=by
 cases f;cases g;injection h with h
 injection h with h1 h
 injection h with h2 h
 injection h with h3 h
 injection h1 with h1
 injection h2 with h2
 injection h3 with h3
 cases Int.ofNat.inj h1;cases Int.ofNat.inj h2;cases Int.ofNat.inj h3;rfl
def aQR{rs:List Rw}{F F':List Ft}(p:Prg rs)(h:↑F=↑rs)(h':↑F'=↑rs)(o:uR rs F)(o':uR rs F'):F=F':=by
 have key:∀ i,i<↑rs->f0 F i=f0 F' i:=λ i=>by
  induction i using Nat.strongRecOn with
  |ind i ih=>
    intro hi;have hr:rs[i]?=qz rs[i]:=yAa hi;let(g,hg,n1):=o i _ () hr;let(g',hg',n2):=o' i _ () hr;have e:eW rs[i] F=eW rs[i] F':=by
     unfold eW;refine yDj λ a ha=>?_
     have:=(p.fit i _ hr).2 a ha;exact ih a this ()
    have r1:=n1.rule 0 [];rw[e,n2.rule 0 []] at r1;rw[<- hg,<- hg'];injection r1 with r1
    injection r1 with r1
    injection r1 with r1
    exact(aVJ r1).symm
 refine List.ext_getElem () λ i h1 h2=>?_
 have:=key i ();have a1:=oV h1;have a2:=oV h2;rw[yAa h1] at a1;rw[yAa h2] at a2;rw[Option.some.inj a1,Option.some.inj a2,this]
def aPi(rs:List Rw)(o:D)(p:Prg rs):∃ F:List Ft,↑F=↑rs/\∀ (d:Nat) (S:aC),cl fns (d+9) 48 [.d (rs<*o)] S=qz (.d (F*>Ft.d),S):=by let(F,h1,h2,h3,_):=aCU 0 rs o p [];refine⟨F,h1,λ d S=>?_⟩;let(F',g1,g2,g3,g4):=aCU d rs o p S;rw[aQR p h1 g1 h3 g3];exact g4
def aOo{rs:List Rw}{F:List Ft}(d:Nat)(p:Prg rs)(hl:↑rs<=60)(hF:↑F=↑rs)(aE:List Nat)(ho:∀ o∈aE,o<↑rs)(hol:↑aE<=20)(st:Option (List D))(eF:cl fns (d+9) 48 [.d (rs<*(aE*>nD))] [st]=qz (.d (F*>Ft.d),[st])) :
 cl fns (d+10) 66 [.d (rs<*(aE*>nD))] [st]=qz (.d (.tuple [oE rs (eU rs F (fQ rs F aE)) aE,.tuple ((eU rs F (fQ rs F aE)).map yD)]),[st]):=by
 let(hb,eA):=aDE (d+2) p hF aE ho [st];have g:=aDL p hF hb (aD9 p ho);have eS:=aHC (d+4) p hF hb (aE*>nD) [st];have eM:=aJY (d+3) p hl g aE ho hol (F*>Ft.d) (.tuple ((fQ rs F aE).map nD)) st;generalize oE rs (eU rs F (fQ rs F aE)) aE=Z at eM ⊢;generalize yAk ((eU rs F (fQ rs F aE)).map yD)=YY at eM eS ⊢;generalize yAk ((fQ rs F aE).map nD)=MM at eM eS eA;generalize yAk [(rs*>Rw.d),(aE*>nD)]=P at eF eA eM eS ⊢;generalize yAk (F.map Ft.d)=FF at eF eA eM eS;have body:xs (d<$>9) aHW [qz (.d P),qx,qx,qx] [st]=qz (.rt (.d (.tuple [Z,YY])),[st]):=
  cF (dW (bI (bK rfl) rfl) eF) rfl (cF (dW (bI (bK rfl) (bI (bK rfl) rfl)) eA) rfl (cF (dW (bI (bK rfl) (bI (bK rfl) (bI (bK rfl) rfl))) eS) rfl (cL (tK (bI (dW (bI (bK rfl) (bI (bK rfl) (bI (bK rfl) (bI (bK rfl) rfl)))) eM) (bI (bK rfl) rfl)) rfl (yAu rfl)))))
 exact tU rfl rfl rfl body rfl
def aVp(d:Nat)(ns:List Int)(h1:↑ns<=63):∃ S',cl fns (d+11) 90 [.d (.list (ns.map yAn))] []=qz (.d (.bool true),S'):=by
 obtain⟨most,hm,et⟩:∃ t:Nat,t<=30/\(1:Int)+(if (24:Int)<((↑ns:Nat):Int) then 24 else ((↑ns:Nat):Int))=((t:Nat):Int):=by
  refine⟨1+min ↑ns 24,by omega,?_⟩;split<;>omega
 let(rs,aE,k0,x0,ok,l0,l1,hk0,ho,hol,e0):=aTN (d+4) most ns hm 0 0 ();have mn:gK [.int ((↑ns:Nat):Int),.int 24]=qz (.int (if (24:Int)<((↑ns:Nat):Int) then 24 else ((↑ns:Nat):Int))):=rfl;have lN:iL [.list (ns.map yAn)]=qz (.int ↑ns):=by
  show qz (yAn ((↑(ns.map yAn):Nat):Int))=_;rw[yAc]
 have p:=aTW ok ();let(F,k1,x1,hF,hk1,eF):=@aPm k0 ns x0 d rs (aE*>nD) p ();let(M,k2,x2,hb,ha,hk2,eM):=@aPP k1 ns _ _ x1 (d+2) p hF aE ho ();let(Y,k3,x3,g,hk3,eY):=@aQC _ k2 ns _ _ x2 (d+3) p hF hb ha (aE*>nD) ();have eB:=aHD (d+4) p () g aE ho () (qz (aJ ns k3 x3));have eK:=aJY (d+4) p () g aE ho () (F*>Ft.d) (M*>nD) (qz (aJ ns k3 x3));let(G,hG,oF):=aPi rs (aE*>nD) p;have eG:=oF (d+1) [qz (aJ ns k3 x3)];let(hb2,eA):=aDE (d+3) p hG aE ho [qz (aJ ns k3 x3)];have eS:=aIS (d+4) p hG hb2 (aE*>nD) [qz (aJ ns k3 x3)];have eN:=aOo d p () hG aE ho () (qz (aJ ns k3 x3)) (oF d _);have g2:=aDL p hG hb2 (aD9 p ho);have eB2:=aHD (d+4) p () g2 aE ho () (qz (aJ ns k3 x3));have sm1:=aL0 rs Y aE;have sm2:=aLm (aL0 rs (eU rs G (fQ rs G aE)) aE) ((aXe (eU rs G (fQ rs G aE))).up (n:=3) (·));have ne1:=aMp sm1 (·);have eq1:=aXt sm1 (·);have ne2:=aMp sm2 (·);obtain⟨A,B,hZ⟩:∃ A B:List D,oE rs (eU rs G (fQ rs G aE)) aE=.tuple [.tuple A,.tuple B]:=⟨_,_,rfl⟩;rw[hZ] at eN eB2 ne2;generalize oE rs Y aE=Z1 at eB eK ne1 eq1;generalize yAk ((eU rs G (fQ rs G aE)).map yD)=Y2 at eS eN eB2 ne2;generalize yAk ((fQ rs G aE).map nD)=M2 at eA eS;generalize yAk [(rs*>Rw.d),(aE*>nD)]=P at e0 eF eM eY eB eK eG eA eS eN eB2;generalize yAk (G.map Ft.d)=GG at eG eA eS;generalize yAk (F.map Ft.d)=FF at eF eM eY eK;generalize yAk (M.map nD)=MM at eM eY eK;generalize yAk (Y.map yD)=YY at eY eK eB;have e:lE=.seq (bR lE) (.seq (bR (aT lE)) (aT (aT lE))):=rfl;have s0:xs (d<$>10) (bR lE) [qz (.d (.list (ns.map yAn))),qx,qx,qx,qx,qx,qx,qx,qx,qx] []=qz (.nx [qz (.d (.list (ns.map yAn))),#[0],qx,qx,qx,qx,qx,qx,qx,qx],[qz (aJ ns 0 0)]):=by
  erw[2,bR,lE,hU]
 have s1:xs (d<$>10) (bR (aT lE)) [qz (.d (.list (ns.map yAn))),#[0],qx,qx,qx,qx,qx,qx,qx,qx] [qz (aJ ns 0 0)]=qz (.nx [qz (.d (.list (ns.map yAn))),#[0],qz (.d P),qx,qx,qx,qx,qx,qx,qx],[qz (aJ ns k0 x0)]):=by
  erw[3,bR,aT,lE,lN,mn,cV,et,e0]
 have s2:∀ sc:Option W,xs (d<$>10) (aT (aT lE)) [sc,#[0],qz (.d P),qx,qx,qx,qx,qx,qx,qx] [qz (aJ ns k0 x0)]=qz (.rt (.d (.bool true)),[qz (aJ ns k3 x3)]):=λ sc=>by
  refine cF (dW (bI (bK rfl) (bI (bK rfl) rfl)) eF) rfl ?_;refine cF (dW (bI (bK rfl) (bI (bK rfl) (bI (bK rfl) rfl))) eM) rfl ?_;refine cF (dW (bI (bK rfl) (bI (bK rfl) (bI (bK rfl) (bI (bK rfl) rfl)))) eY) rfl ?_;refine cF (aEC (dW (bI (bK rfl) (bI (bK rfl) rfl)) eB) rfl) rfl ?_;refine bQ (aD7 (dW (bI (bK rfl) (bI (bK rfl) (bI (bK rfl) (bI (bK rfl) rfl)))) eK) (bK rfl) ne1) ?_;refine cF (dW (bI (bK rfl) rfl) eG) rfl ?_;refine cF (dW (bI (bK rfl) (bI (bK rfl) (bI (dW (bI (bK rfl) (bI (bK rfl) rfl)) eA) rfl))) eS) rfl ?_;refine cF (dW (bI (bK rfl) rfl) eN) rfl ?_;refine bQ (aE4 (p:=false) (aBh (p:=true) (aBF rfl (aBD (bK rfl) rfl aBz) rfl)) (aD7 (bK rfl) (tK (bI (aEC (dW (bI (bK rfl) (bI (bK rfl) rfl)) eB2) rfl) (bI (bK rfl) rfl)) rfl (yAu rfl)) ne2)) ?_;refine bQ (aE4 (p:=false) (aBh (p:=true) (aBF rfl (aBD (jE (jE (bK rfl) nM rfl rfl) nM rfl rfl) rfl aBz) rfl)) (aBh (p:=true) (aBF rfl (aBD (jE (jE (bK rfl) nM rfl rfl) nM rfl rfl) rfl aBz) rfl))) ?_;exact cL (aEP (dW (bI (bK rfl) (bI (bK rfl) (bI (bK rfl) (bI (bK rfl) rfl)))) eK) (bK rfl) eq1)
 have full:xs (d<$>10) lE [qz (.d (.list (ns.map yAn))),qx,qx,qx,qx,qx,qx,qx,qx,qx] []=qz (.rt (.d (.bool true)),[qz (aJ ns k3 x3)]):=by
  rw[e,dX s0,dX s1,s2]
 exact⟨[],tU rfl rfl rfl full rfl⟩
def main(ns:List Int)(h1:↑ns<=63)(h2:∀ i∈ns,yAm i<=1048576):∃ call S',aD fns 12 90=qz (1,call)/\call [.d (.list (ns.map yAn))] []=qz (.d (.bool true),S'):=by let(S',e):=aVp 1 ns h1;exact aSz (d:=11) rfl rfl e
def oks:∀ F∈fns,aB8 fns tbs F=true:=by decide +kernel
def bok:∀ F∈fns,aEY F=true:=by decide +kernel
def binds:∀ F∈fns,wE F:=λ F hF=>aIn (bok F hF)
def cok:∀ c,tbs.cl=qz c->zF c=true/\wE c.fn:=λ c h=>by cases h;exact⟨by decide +kernel,aIn (by decide +kernel)⟩
end K73
namespace PySem.W.Fast
def tw7485628642292796662:=0
def tw12490224413206504707:=0
def tw15299854266167091281:=0
def tw11403988326566905832:=0
def tw9627068638525351550:=0
def tw2879970804363102722:=0
def tw10074199674689935727:=0
def tw12755248277166428238:=0
def tw4962435201824022705:=0
def tw5725594245598397675:=0
def tw17401690639416750180:=0
def tw8958177922269323564:=0
def tw9038795007712570467:=0
def tw9811414526850725414:=0
def tw17433421778933875970:=0
def tw11633038004508451654:=0
def tw11040044374295706997:=0
def tw18095307775368255340:=0
def tw7925257099098010163:=0
def tw4014771005053913877:=0
def tw5681600685862894017:=0
def tw4503337125500058208:=0
def tw9476190629632462675:=0
def tw4266733960730203996:=0
def tw7611375547284760716:=0
def tw12527672650451097586:=0
def tw17528395900238567621:=0
def tw7739952621352533712:=0
def tw7009769513492853151:=0
def tw1137112982206152548:=0
def tw17517807563447224283:=0
def tw17367255062406430734:=0
def tw6041352843669033380:=0
def tw8214075063056579290:=0
def tw14294636383718926590:=0
def tw3284697553550392730:=0
def tw10336572778100419697:=0
def tw15359470873369443279:=0
def tw16882129520451581658:=0
def tw13123073658904261538:=0
def tw7864909005348495949:=0
def tw17716276502157292086:=0
def tw3175730006638759611:=0
def tw16811431879875119052:=0
def tw17228607665053334464:=0
def tw634323684486485264:=0
def tw16336482728560537114:=0
def tw6137029835983832412:=0
def tw17391865509964610511:=0
def tw13742479184985172410:=0
def tw3762510461486190453:=0
def tw2234624019184022711:=0
def tw6535970003965197511:=0
def tw14752394013146934002:=0
def tw14477202449650180626:=0
def tw14530460853921835480:=0
def tw12010445579092244816:=0
def tw5431783593001632223:=0
def tw5378088635612017730:=0
def tw11459205956668130597:=0
def tw12800949997009892707:=0
def tw6987647431694338781:=0
def tw3572927806016683657:=0
def tw7055894374964721608:=0
def tw14169899291843350236:=0
def tw18041113053762872292:=0
def tw7278085632296051170:=0
def tw7991221433242291100:=0
def tw6943000314939384723:=0
def tw12433085937585429135:=0
def tw2137417589535398202:=0
def tw14497276673165622028:=0
def tw11106020565650117390:=0
def tw776254997151684873:=0
def tw13844681337595597874:=0
def tw1583418908691802898:=0
def tw7064158961781435506:=0
def tw6473012708000420793:=0
def tw15722741553900601273:=0
def tw3873365326452699886:=0
def tw13822467269702704273:=0
def tw4297810842023791213:=0
def tw213293019139017213:=0
def tw11522275449086547491:=0
def tw16445801211088762240:=0
def tw12409615991035523118:=0
def tw11035900358623742298:=0
def tw10222322284932364018:=0
def tw17344303014374061343:=0
def tw3045474396880047560:=0
def tw13116513316741004130:=0
def tw1566985334538723542:=0
def tw5078495089385186286:=0
def tw14054144624900766457:=0
def tw9375493388110368222:=0
def tw10605549880846549565:=0
def tw4288729483805651308:=0
def tw11645883911753341997:=0
def tw3626706792195138568:=0
def tw16799804749172106507:=0
def tw10374302625337521190:=0
def tw11298166624404477382:=0
def tw7252092396847166802:=0
def tw2689625855809037953:=0
def tw15340813515162442191:=0
def tw499066309827058973:=0
def tw135394869444604418:=0
def tw17914108165441132087:=0
def tw18325047892635239479:=0
def tw3574308589418310270:=0
def tw9577984339703797065:=0
def tw16649194857899545094:=0
def tw17670752738999722807:=0
def tw17356330787854671794:=0
def tw13130001171124166879:=0
def tw12052242696072414941:=0
def tw10663789728357841525:=0
def tw4030971017912639261:=0
def tw18439147394863360705:=0
def tw7525020389399447803:=0
def tw3822649416158022186:=0
def tw3617600219627042665:=0
def tw8688733104287027357:=0
def tw16131513734970730615:=0
def tw1869790263600442084:=0
def tw7783314151213674108:=0
def tw9457995657641713136:=0
def tw16610870876120875962:=0
def tw5125853174202141841:=0
def tw1886353598522424906:=0
def tw14752603841603530764:=0
def tw15152040697959897495:=0
def tw586183523742488167:=0
def tw60821347590130510:=0
def tw5243981574548704224:=0
def tw16540691889096456667:=0
def tw14756274137137362606:=0
def tw14197933102994553754:=0
def tw3165455282552640438:=0
def tw14324283969407114187:=0
def tw17241386752920713669:=0
def tw11992467182620845341:=0
def tw5952254188840056413:=0
def tw5075542163876584562:=0
def tw6185754023552669573:=0
def tw12624607651489226642:=0
def tw1441348093365013331:=0
def tw12460326213034904975:=0
def tw4858062629584759969:=0
def tw11456382660762065746:=0
def tw18260924045457670695:=0
def tw343469991484617921:=0
def tw9231570643164442064:=0
def tw12624226316065692814:=0
def tw16874421085379282321:=0
def tw17696190466623542175:=0
def tw197128976297187336:=0
def tw8755441791876608933:=0
def tw3020769625771014662:=0
def tw9545554024786340703:=0
def tw419679194640855585:=0
def tw2521479896455787547:=0
def tw5389644962680330622:=0
def tw17455196478581492305:=0
def tw12365922832495627879:=0
def tw7794817221725678065:=0
def tw4659547110501361591:=0
def tw1380223829874710020:=0
def tw10189608730993374170:=0
def tw2230060155211511767:=0
def tw11818535472507427476:=0
def tw13814946375365598761:=0
def tw10311121621436046507:=0
def tw7664111536135864865:=0
def tw18176058175938726471:=0
def tw7931919153486528903:=0
def tw657322249164965109:=0
def tw12524320262762558459:=0
def tw4274113594889247966:=0
def tw10055179536362066047:=0
def tw16520848653049304522:=0
def tw3817274757167346852:=0
def tw1936268428122186893:=0
def tw11466051308191846803:=0
def tw1994973713183624475:=0
def tw14008914118799213883:=0
def tw9131808576289755999:=0
def tw6062454774989091638:=0
def tw5182595909252911957:=0
def tw1691690691954757081:=0
def tw9919134042018424212:=0
def tw7456843922888611570:=0
def tw8798356988249203909:=0
def tw6412208666747483159:=0
def tw12283816840830461997:=0
def tw15627665934381428625:=0
def tw17933369101663305814:=0
def tw2773114637243394645:=0
def tw11366296803286105279:=0
def tw18213135413186862961:=0
def tw1335365367183823760:=0
def tw2535832916784905326:=0
def tw10606998025659881019:=0
def tw4341933980821862887:=0
def tw5209156872932570499:=0
def tw11563523512626373318:=0
def tw505820124023419711:=0
def tw12875001979567671488:=0
def tw18146783510327975606:=0
def tw11437561641172074003:=0
def tw17423727207528471022:=0
def tw17060219020682550130:=0
def tw13899439742531982176:=0
def tw5042423973357037309:=0
def tw10274208826079409504:=0
def tw7663783165322886767:=0
def tw3244441481838064347:=0
def tw5075742484713103704:=0
def tw9047240219092849949:=0
def tw16656902619336765296:=0
def tw14510665128277826132:=0
def tw18336651084280852127:=0
def tw4592920978140952090:=0
def tw10337877287677371082:=0
def tw9621194577384884470:=0
def tw13477353761341844702:=0
def tw15673519269492411829:=0
def tw8979070377298175622:=0
def tw17810479999684823782:=0
def tw1224828998479202228:=0
def tw11159455591125364790:=0
def tw3079700590282057523:=0
def tw233479231440967414:=0
def tw15871251300728009955:=0
def tw12892855640312348617:=0
def tw12252292416407109631:=0
def tw2811462657504354075:=0
def tw2004848251839600089:=0
def tw967370816184897825:=0
def tw5146488888330224867:=0
def tw1123674380582545724:=0
def tw5218248454728782644:=0
def tw3174071971820951712:=0
def tw5940515229990947198:=0
def tw10484749347074602771:=0
def tw13672309055224351825:=0
def tw13206088677675788706:=0
def tw16244563666049999968:=0
def tw12077553772926520184:=0
def tw5695599620045173880:=0
def tw2572403425569456176:=0
def tw12197243438680799549:=0
def tw14606315560677187593:=0
def tw13034117888543776957:=0
def tw3651410072156840258:=0
def tw111490749390441926:=0
def tw13508700717197946497:=0
def tw17929594526923039861:=0
def tw6381296991702404248:=0
def tw14555487584995885866:=0
def tw10843473658962736837:=0
def tw4680055048115259420:=0
def tw14933725354885232917:=0
def tw9123151044134258750:=0
def tw16845167882243703690:=0
def tw16760777592840466576:=0
def tw3767083589101684711:=0
def tw12570602936186824935:=0
def tw6045088143068561031:=0
def tw18296405074462427987:=0
def tw13619516420844577605:=0
def tw4646957257376804922:=0
def tw8534151228266543183:=0
def tw56047051183250446:=0
def tw14442667071257178313:=0
def tw2646423101871167663:=0
def tw15140118803683516686:=0
def tw16040745142427616712:=0
def tw2714816764722633684:=0
def tw13481644430027899914:=0
def tw17852341739967926843:=0
def tw16623878878963244207:=0
def tw8709326272307452055:=0
def tw5437757448212076988:=0
def tw10396103733635411874:=0
def tw11531324172926977054:=0
def tw10678618848150988807:=0
def tw4376924161164843942:=0
def tw6790053804103866219:=0
def tw17676771558028511836:=0
end PySem.W.Fast
structure PySem.W.Fast:Prop where (tw16177623686116208321 tw17546721913641592139 tw18197740506011817301 tw12740084561599586138 tw17918420106910162870 tw15040544349482453534 tw13732141457558203942 tw11151915098142184948 tw5141498375920774716 tw6884152228681272931 tw3836345580270373744 tw12779038789018661795 tw18105931559904953491 tw11481124812254713764 tw3823936788224818601 tw3924970865514801431 tw5430684022825364805 tw12930739091053057550 tw10487333295453156674 tw17638416547450403093 tw16390937620556420689 tw4560614927668884408 tw10387827722927370728 tw16596285480969514603 tw2030638746974596537 tw14351412644856522276 tw7184698060001097385 tw4265803136351280462 tw171815544631374589 tw11820787322758717601 tw9786114717837878176 tw7312854697986214214 tw6929481564404899052 tw3644190864347345287 tw16860900224234765904 tw4312151060637056287 tw13784828547948402337 tw17635074283279739509 tw18409029819484623151 tw18445949598747546858 tw7857121749078760584 tw14233477623553858121 tw13485014273039438471 tw9387192919895601925 tw9513590423527116868 tw5428108295479129061 tw4570368113542057764 tw12741667053654069983 tw10991573271663887157 tw12741702821926747054 tw16817062576842259802 tw18102726290045717039 tw9102249446832778734 tw1694625387573105015 tw1376867676654678908 tw8456637300734146065 tw4725953866515721161 tw7404267675228195235 tw5321137727086944727 tw13594782358016577603 tw7594581240664348016 tw14848314355671966699 tw3044708766908979327 tw4106089136633979372 tw9019003738773370748 tw12965267616651058051 tw11028885072279395706 tw6706431731943555450 tw4391415473799694142 tw13079114785514958441 tw4152119080963527461 tw5095395200908248014 tw11722306072057421715 tw16488513648176918177 tw619178056774936125 tw13883005539831161248 tw18188711917621438865 tw8062763123509204246 tw16238696140116394632 tw9621136168907667251 tw5525853333403150380 tw6007091785134275630 tw16886364910733203245 tw10897572223402181227 tw13117262888827712620 tw8604869518718397655 tw9651172273630876192 tw12945676846276843419 tw6118605944143510344 tw3011206326718761401:True)
set_option maxRecDepth 100000 in
set_option maxHeartbeats 0 in
theorem PySem.Challenge.cw_fewbits_k73_made_row_by_row_holds : PySem.Challenge.rw_fewbits_k73_made_row_by_row.Holds := by
 w_on;o_law;k_head;(case hw=>w_witness2)
 k_fill
 refine EV.law_of (l:=PySem.Challenge.rw_fewbits_k73_made_row_by_row) K73.fns K73.tbs 90 12 _ "_law_script" rfl rfl ⟨rfl,by decide,by decide⟩ (λ w h Y=>PySem.W.kIn_of Y) K73.oks K73.binds rfl rfl rfl rfl ?top K73.cok ?clt ?tbl ?cnl ?stl ?tbn K73.main
 case top=>
  intro w h KX F hF;simp only[K73.fns,yCa,yCe,or_false] at hF;rcases hF with rfl|rfl|rfl|rfl|rfl|rfl|rfl|rfl|rfl|rfl|rfl|rfl|rfl|rfl|rfl|rfl|rfl|rfl|rfl|rfl|rfl|rfl|rfl|rfl|rfl|rfl|rfl|rfl|rfl|rfl|rfl|rfl|rfl|rfl|rfl|rfl|rfl|rfl|rfl|rfl|rfl|rfl|rfl|rfl|rfl|rfl|rfl|rfl|rfl|rfl|rfl|rfl|rfl|rfl|rfl|rfl|rfl|rfl|rfl|rfl|rfl|rfl|rfl|rfl|rfl|rfl|rfl|rfl|rfl|rfl|rfl|rfl|rfl|rfl|rfl|rfl|rfl|rfl|rfl|rfl|rfl|rfl|rfl|rfl|rfl|rfl|rfl|rfl|rfl|rfl|rfl
  all_goals
   first
   | (refine' .inl (EV.top_mk ?a1 ?l1 ?c1 ?k1 rfl)
      (case a1=>k_is)
      (case l1=>k_is)
      (case c1=>k_is)
      (case k1=>k_is))
   | (refine' .inr (EV.topm_mk ?a1 ?b1 ?b2 ?b3 ?b4 ?m1 ?m2 ?l1 ?c1 ?k1 rfl)
      (case a1=>k_is)
      (case m1=>k_is)
      (case l1=>k_is)
      (case b1=>k_is)
      (case b2=>k_is)
      (case b3=>k_is)
      (case b4=>k_is)
      (case m2=>k_is)
      (case c1=>k_is)
      (case k1=>k_is))
 case clt=>
  intro w h KX c hc;cases hc
  refine' EV.topc_mk ?a1 ?b1 ?b2 ?b3 ?b4 ?n1 ?m1 ?m2 ?m3 ?m4 ?l1 ?c1 ?k1
  (case a1=>k_is)
  (case m2=>k_is)
  (case l1=>k_is)
  (case b1=>k_is)
  (case b2=>k_is)
  (case b3=>k_is)
  (case b4=>k_is)
  (case m1=>k_is)
  (case m3=>k_is)
  (case m4=>k_is)
  (case c1=>k_is)
  (case k1=>k_is)
  (case n1=>
    intro p hp;simp only[K73.cl_ini,yCa,yCe,or_false] at hp;rcases hp with rfl|rfl|rfl|rfl|rfl
    all_goals
     unfold L2.NoAttr
     k_is)
 case tbl=>
  intro w h KX t ht;simp only[K73.tbs,yCa,yCe,or_false] at ht;rcases ht with rfl
  all_goals
   refine' EV.tab_mk ?a1 ?l1 ?c1 ?s1
   (case a1=>k_is)
   (case l1=>k_is)
   (case c1=>(repeat' (first|exact True.intro|apply And.intro))<;>first|rfl|exact⟨_,rfl⟩)
   (case s1=>decide)
 case cnl=>
  intro w h KX t ht;simp only[K73.tbs,yCa,yCe,or_false] at ht;rcases ht with rfl|rfl|rfl|rfl|rfl|rfl|rfl|rfl
  all_goals
   refine' EV.con_mk ?a1 ?l1 ?z1 ?c1
   (case a1=>k_is)
   (case l1=>k_is)
   (case z1=>decide)
   (case c1=>(repeat' (first|exact True.intro|apply And.intro))<;>first|rfl|exact⟨_,rfl⟩)
 case stl=>
  intro w h KX t ht;cases ht
 case tbn=>
  intro w h KX x hx;simp only[EV.bltNames,yCa,yCe,or_false] at hx;rcases hx with rfl|rfl|rfl|rfl|rfl|rfl|rfl|rfl|rfl|rfl|rfl|rfl|rfl|rfl|rfl|rfl|rfl|rfl
  all_goals k_is
