import PyProof.Rows.All
import Wide.All
import OpenK.AllK
import Wide.FinOn
import Lean
import PyProof.EqAt
import PyProof.EqKinds
import PyProof.TupleCall
import PyProof.ListMulRoad
import PyProof.FactsAll.tuple
import PyProof.MaxThree
import PyProof.SeqI3
import PyProof.Draws
import PyProof.NeKinds
import PyProof.Rows.SortShell
import PyProof.ListRange
import PyProof.DictTable
import PyProof.Rows.Range3
import PyProof.ZipIter
import PyProof.FactsAll.range_2
import PyProof.Rows.SeqMore2
import PyProof.StrWalks
import PyProof.EnumMake
import PyProof.Rows.StrJoin2
import PyProof.Rows.StrNews
import PyProof.CallStr
import PyProof.DictRoads
import KE.KIntText
import PyProof.ToksMono
import PyProof.StrBlockG
import PyProof.StrBlock2
import PyProof.MeetsStr3
import PySem.Challenge.RW_fewbits_k74_whole_narrowed_tells_the_sam
set_option compiler.extract_closed false
set_option genInjectivity false
set_option genSizeOf false
open Lean renaming mkAtom->mqA,Syntax->mq,mkNode->mqM
open Lean.Macro renaming throwUnsupported->mqF
private def mqO(l:List mq:=[]):mq:=Lean.mkNullNode l.toArray
private def mqJ(c:String)(l:List mq):mq:=Lean.mkNullNode (Lean.mkSepArray l.toArray (mqA c))
private def mqN(k:String)(l:List mq):mq:=mqM ("Lean.Parser."++k).toName l.toArray
private def mqI(f:String):mq:=Lean.mkIdent f.toName
private def mqE(f:mq)(l:List mq):=mqN "Term.app" [f,mqO l]
private def mqT(f:String):=mqE (mqI f)
private def mqD(f:String):=mqE (mqN "Term.dotIdent" [mqA ".",mqI f])
private def mqC:=mqN "Tactic.optConfig" [mqO]
private def mqV(n:String)(l:=[mqC]):=mqN ("Tactic."++n) (mqA n::l)
private def mqQ(t:List mq):=mqN "Tactic.tacticSeq" [mqN "Tactic.tacticSeq1Indented" [mqJ ";" t]]
private def mqB(t:mq):=mqN "Term.byTactic" [mqA "by",mqQ [t]]
private def mqG(p:List mq)(e:mq):=mqV "obtain" [mqO [mqN "Tactic.rcasesPatMed" [mqO p]],mqO,mqO [mqA ":=",mqO [e]]]
private def mqP:Nat->mq->mq
 |0,s=>s
 |n+1,s=>if s.isIdent then mqN "Tactic.rcasesPat.one" [s] else if s.getNumArgs<2 then mqN "Tactic.rcasesPat.ignore" [s[0]] else mqN "Tactic.rcasesPat.tuple" [mqA "⟨",mqJ "," ((if s[0].getNumArgs>0 then s[1][0]::s[1][2].getSepArgs.toList else s[1].getSepArgs.toList).map λ x=>mqN "Tactic.rcasesPatLo" [mqN "Tactic.rcasesPatMed" [mqO [mqP n x]],mqO]),mqA "⟩"]
local macro_rules(kind:=Lean.Parser.Term.tuple)|s=>if s[1].getNumArgs>0&&s[1][2].getNumArgs%2=0 then return mqN "Term.anonymousCtor" [mqA "⟨",mqJ "," (s[1][0]::s[1][2].getSepArgs.toList),mqA "⟩"] else mqF
local macro_rules(kind:=coeNotation)|s=>return mqT "List.length" [s[1]]
local macro_rules(kind:=Lean.Parser.Term.paren)|s=>if s[1].getKind==`Lean.Parser.Term.cdot then return mqB (mqV "decide") else if s[1][1].getKind==`Lean.Parser.Term.hole then return mqB (mqV "omega") else mqF
local macro_rules(kind:=Lean.Parser.Term.typeAscription)|s=>if s[3].getNumArgs=0 then return mqB (mqV "simpa" [mqO,mqO,mqN "Tactic.simpaArgsRest" [mqC,mqO,mqO,mqO,mqO [mqA "using",s[1]]]]) else mqF
local macro_rules(kind:=«term__[_]_!»)|s=>return mqT "Nat.testBit" [s[0],s[3]]
local macro_rules(kind:=Lean.Parser.Tactic.tacticLet__)|s=>return mqG [mqP 9 s[2][0][0]] s[2][0][4]
local macro_rules(kind:=Lean.Parser.Command.declaration)|s=>if s[1].getKind==`Lean.Parser.Command.definition&&s[0].getArgs.all (·.getNumArgs==0) then return s.setArg 0 (s[0].setArg 4 (mqO [mqN "Command.noncomputable" [mqA "noncomputable"]])) else mqF
open List renaming getElem?_eq_getElem->yAb,length_map->yAd,getElem?_map->yAe,take_length->yAf,replicate->yAg,getElem?_append_right->yAh,size_toArray->yAj,map_cons->yAk,length_cons->yAn,getElem?_set_self->yAw,map_append->yAy,getElem?_set_ne->yAz,append_nil->yBa,length_set->yBb,append_assoc->yBc,replicate_succ->yBg,range->yBh,map_map->yBi,length_take->yBj,map_congr_left->yBs,foldl_cons->yBw,length_nil->yBx,lookup_cons->yBy,filter_cons->yBz,getElem?_eq_none->yCc,take_of_length_le->yCi,filterMap_cons->yCj,range'->yCl,length_replicate->yCp,find?_cons->yCr,getElem?_take_of_lt->yCv,set_cons_zero->yCx,getElem?_cons_succ->yDe,mem_cons->yDf,getElem?_cons_zero->yDh,not_mem_nil->yDu,length_singleton->yDy,set_cons_succ->yEa,drop_eq_getElem_cons->yEd,set_eq_of_length_le->yEf,nil_append->yEg,length_range->yEi,map_nil->yEj,getElem?_replicate->yEm,filter_append->yEr,flatten_cons->yFb,getElem?_of_mem->yFe,foldl_nil->yFi,getD_cons_zero->yFo,any_cons->yFv,take->yFx,map_replicate->yGc,drop_zero->yGi,drop_length->yGl,cons_append->yGm,length->yGs,getElem_of_mem->yGv,getD_cons_succ->yGx,mem_singleton->yHg,zip_cons_cons->yHh,getElem?_drop->yHj,take_left->yHp,mem_range'_1->yHs,length_drop->yHy,ext_getElem->yIa
open Nat renaming le_of_ble_eq_true->yAa,le_refl->yAc,testBit_and->yAi,testBit_mod_two_pow->yAl,pow_le_pow_right->yAm,testBit_xor->yAr,mod_two_eq_zero_or_one->yAt,zero_testBit->yBd,or_lt_two_pow->yBe,sub_self->yBf,mod_eq_of_lt->yBk,le_max_left->yBt,xor_lt_two_pow->yBv,zero_le->yCd,lt_irrefl->yCm,lt_pow_two_of_testBit->yCn,min_le_left->yCs,and_le_left->yCt,and_two_pow_sub_one_eq_mod->yCu,le_add_right->yCz,testBit_succ->yDb,le_of_not_lt->yDc,testBit_div_two_pow->yDg,add_comm->yDk,not_lt_zero->yDn,add_le_add_left->yDp,min_eq_left->yDq,min_le_right->yDs,min_eq_right->yDv,testBit_zero->yDw,le_of_lt->yDx,div_lt_iff_lt_mul->yDz,toNat_testBit->yEh,lt_trans->yEk,pow_add->yEn,add_sub_cancel'->yEo,zero_add->yEt,pow_succ->yEx,div_add_mod->yEy,sub_le->yFd,pow_lt_pow_right->yFf,lt_succ_self->yFj,reduceLeDiff->yFk,and_le_right->yFl,testBit_two_pow->yFm,sub_le_sub_left->yFn,le_of_eq->yFp,add_sub_cancel->yGa,reduceAdd->yGb,testBit_eq_decide_div_mod_eq->yGd,mod_lt->yGh,not_le_of_lt->yGn,le_max_right->yGo,le_succ->yGr,div_le_self->yGw,ne_of_gt->yHc,one_pos->yHw,succ_ne_zero->yIb,mul_comm->yIf,le_total->yIh,xor_zero->yIj,add_zero->yIk
open Int renaming toNat_natCast->yAu,natCast_emod->yBu,natCast_mul->yCf,mul_le_mul_of_nonneg_right->yGk,natCast_nonneg->yHd,emod_lt_of_pos->yHi,le_trans->yIg
open Bool renaming true_and->yAp,false_eq_true->yAv,false_and->yAx,and_eq_true->yBn,false_ne_true->yBr,eq_iff_iff->yCe,and_true->yCo,or_eq_true->yEv,eq_false_or_eq_true->yFs,or_false->yFu,and_false->yGj,false_or->yHv,or_true->yIi
open Option renaming bind->yCy,bind_some->yDa,map_some->yEw,isSome_map->yHr,getD_none->yHz
open PySem.Builtin.Range renaming rangeSize->yEl,small->yIl
open PySem.Builtin.SmallTypes renaming nextOf->yBq,ownedTupleIsFree->yDo,ownedTupleHandOut->yFh,iterAll->yHb
open PySem.Builtin.Int renaming intBits->yAo
open PyProof.Rows renaming callWith_type1->yBl,slot_tuple_getitem->yCk
open PySem.Heap renaming get?_update_other->yCh,get?_update_self->yCq,SameBut->yDi,size_push->yHm
open PySem.PyData renaming int->Iz,tuple->Tz,str->Sz,eqv->yDt,bool->Bz,depthAll->yEz,canLayAll0->yFc,list->Lz
open PySem.W renaming findIn->yBm,keepIn->yBp,emptyDict->yCa,fnOf->yCb,nsIn->yCg,codeIn->yDj,instObj->yDm,plainGet->yEp,kia_one->yEu,hasDictIn->yFa,plainOver->yGg,mg_of->yGp,plainGet_of->yGq,isFn->yHe,callWith_K->yHf,lookIn->yHl,methodObj->yHq,takerIn->yId,makesIn->yIe
open PySem.F renaming plain_extend_loop->yEe,slot_int_rmul->yEs,args_tuple_add_2->yFq,args_tuple_mul_2->yFr,entry_tuple_add->yFt,entry_tuple_mul->yFw,slot_list_index->yFy,plainAttrs_list->yFz,slot_tuple_add->yGe,slot_tuple_mul->yGf,slot_int_bit_length->yGu,entry_extend_loop->yHn,args_list_index_2->yHo
open PySem.Builtin renaming bitNot->yBo,divisionGoesByPylong->yDd,bitAnd->yEq,bitXor->yHk,bitOr->yHu
open PySem.Builtin.Slice renaming slicePlaces->yEb,sliceAdjust->yFg,sliceApplied->yGy
open PySem.Builtin.Tuple renaming tupleExact->yCw,tupleItemsOf->yGz,tupleTooMany->yHa
open PySem.Builtin.List renaming listExtendWith->yDr,listSameRef->yHt,listItems->yIc
open Array renaming length_toList->yGt
open PySem renaming Value->qx,Shared->qv,Addr->qw,Expr->qy,sizeLine->qk,wpAny->qu,starEach->qo,Program->zq,sizeLine_eq->zx,World->zj,Around->zv,Scope->zw,mainGlobals->zy,binaryOp->zk,wpAny_holding->zu,assignEach->zo,wpAny_field->xq,behindInMarks->xz,wpAny_newObj_type->xj,compareOp->xw,wpAny_Call_Name_kw->xy,Stmt->xk,wpAny_truthy_bool->xu,bootBuiltins->xo,foldedSetIterable->jq,call_meets->jz,CmpOp->jx,wpAny_setField_rec->jj,wpAny_pyIter_list->jv,Operator->jw,NameKind->jy,wpAny_seqItems->jk,codeAny->ju,wpAny_call_entry->jo,FuncData->vq,wpAny_passesOwn->vz,wpAny_updateSeq->vx,sliceBounds->vj,wpAny_pyNext_list_item->vv,wpAny_pyNext_list_end->vw,letOwnedTupleGo->vy,shortFactorBits->vk,wpAny_specialOf->vo,UnaryOp->wq,typeIs_int->wz,wpAny_rule->wj,wpAny_binaryOp_repeat_ref->ww,swappedStores->wu,wpAny_standAt->yq,wpAny_pyIter_zip->yz,rawInt->yx,pyNext->yj,wpAny_pyIter_rangeiter->yv,IsRangeIter->yw
open Option renaming some->qz,none->qj
abbrev wB:=@PySem.wpAny_bind
abbrev wP:=@PySem.wpAny_pure
abbrev hpS:=@PySem.Heap.get?_push_of_some
def gIm {α:Type _}{l:List α}{i:Nat}{a:α}:l[i]?=qz a->∃ h,l[i]=a:=List.getElem?_eq_some_iff.mp
abbrev dqF:=@decide_eq_false
abbrev dqT:=@decide_eq_true
abbrev oqT:=@of_decide_eq_true
abbrev FrG:=PySem.W.Frag
abbrev xAa:=@PySem.Heap.lt_size
abbrev xAb:=@Nat.lt_of_lt_of_le
abbrev xAc:=@List.mem_cons_self
abbrev xAd:=@PySem.Heap.get?_push_size
abbrev xAe:=@Nat.two_pow_pos
abbrev xAf:=@List.mem_cons_of_mem
abbrev xAg:=@List.getD_eq_getElem?_getD
abbrev xAh:=@Nat.le_trans
abbrev xAi:=@Nat.lt_of_le_of_lt
abbrev xAj:=@Nat.ne_of_lt
abbrev xAk:=@List.mem_of_getElem?
abbrev xAl:=@Nat.eq_of_testBit_eq
abbrev xAm:=@List.getElem?_append_left
abbrev xAn:=@List.length_append
abbrev xAo:=@Nat.testBit_or
abbrev xAp:=@List.mem_append_right
local macro_rules(kind:=Lean.Parser.Tactic.omega)|_s=>return mqV "lia"
set_option Elab.async false
set_option linter.all false
set_option maxRecDepth 100000
open Bool renaming true->Tt,false->Ff
abbrev Li(a:Type _):=List a
abbrev Oz(a:Type _):=Option a
namespace L2
open PySem PySem.Spec PyProof.Rows
abbrev bN:=Sum Int Str
def oE:bN->qx->Bool
 |.inl k,v=>Value.isInt k v|.inr x,v=>Value.isStrOf x v
def bA8(w:zj):bN->Int
 |.inl k=>hashInt k|.inr x=>hashStr w x
def nG:∀ {k:bN}{v:qx},oE k v=Tt->(∃ i t,k=Sum.inl i/\v=Value.int i t)\/(∃ x t,k=Sum.inr x/\v=Value.str x t)
 |.inl i,v,h=>by
   let(t,e):=Value.isInt_shape (k:=i) (v:=v) h;exact .inl (i,t,rfl,e,)
 |.inr x,v,h=>by
   let(t,e):=Value.isStrOf_shape (x:=x) (v:=v) h;exact .inr (x,t,rfl,e,)
def aQ1(i:Int)(t:Tok):oE (.inl i) (.int i t)=Tt:=by simp[oE,Value.isInt]
def aDf(x:Str)(t:Tok):oE (.inr x) (.str x t)=Tt:=by simp[oE,Value.isStrOf]
def aXZ(a b:Int):decide ((Sum.inl a:bN)=Sum.inl b)=(a==b):=by grind
def aWE(a b:Str):decide ((Sum.inr a:bN)=Sum.inr b)=decide (a=b):=by simp_all
def aW7(a:Int)(b:Str):decide ((Sum.inl a:bN)=Sum.inr b)=Ff:=dqF (λ q=>nomatch q)
def aW9(a:Str)(b:Int):decide ((Sum.inr a:bN)=Sum.inl b)=Ff:=dqF (λ q=>nomatch q)
def gD(prog:zq)(w:zj):PySem.KeyKind prog w bN where
 is:=oE
 hash:=bA8 w
 inj:=λ v a b ha hb=>by
  rcases nG ha with ⟨i,t,rfl,rfl⟩|⟨x,t,rfl,rfl⟩
  .rcases nG hb with ⟨j,u,rfl,e⟩|⟨y,u,rfl,e⟩
   .injection e with e1 _;rw[e1]
   .exact nomatch e
  .rcases nG hb with ⟨j,u,rfl,e⟩|⟨y,u,rfl,e⟩
   .exact nomatch e
   .injection e with e1 _;rw[e1]
 byValue:=λ k v h=>by
  rcases nG h with ⟨i,t,rfl,rfl⟩|⟨x,t,rfl,rfl⟩<;>rfl
 pyHash:=λ hv h=>by
  rcases nG hv with ⟨i,t,rfl,rfl⟩|⟨x,t,rfl,rfl⟩
  .exact wpAny_pyHash_int h
  .exact wpAny_pyHash_str h
 eqBool:=λ hu hv h=>by
  rcases nG hu with ⟨i,t,rfl,rfl⟩|⟨x,t,rfl,rfl⟩
  .rcases nG hv with ⟨j,u,rfl,rfl⟩|⟨y,u,rfl,rfl⟩
   .rw[aXZ] at h;exact wpAny_eqBool_int h
   .rw[aW7] at h;exact SeqAt.EqAt.int_str i t y u _ _ _ _ h
  .rcases nG hv with ⟨j,u,rfl,rfl⟩|⟨y,u,rfl,rfl⟩
   .rw[aW9] at h;exact SeqAt.EqAt.str_int x t j u _ _ _ _ h
   .rw[aWE] at h;exact wpAny_eqBool_str h
 «strs»:=λ k x t v h=>by
  rcases nG h with ⟨i,u,rfl,e⟩|⟨y,u,rfl,e⟩
  .exact nomatch e
  .injection e with e1 _
   subst e1;cases v<;>rfl
def aPr(prog:zq)(w:zj)(i:Int)(t:Tok):(gD prog w).is (.inl i) (.int i t)=Tt:=aQ1 i t
def aPk(prog:zq)(w:zj)(x:Str)(t:Tok):(gD prog w).is (.inr x) (.str x t)=Tt:=aDf x t
end L2
namespace L2
open PySem PySem.Spec PyProof.Rows
inductive V where
 |non|bl (b:Bool)|int (i:Int)|str (x:Str)|byt (b:Array UInt8)|flt (b:UInt64)|ref (a:qw)|ty (n:String)
 deriving DecidableEq
def bB:V->qx->Prop
 |.non,u=>u=Value.none|.bl b,u=>u=Value.bool b|.int i,u=>∃ t,u=Value.int i t|.str x,u=>∃ t,u=Value.str x t|.byt b,u=>∃ t,u=Value.bytes b t|.flt b,u=>∃ t,u=Value.float b t|.ref a,u=>u=Value.ref a|.ty n,u=>u=Value.type n
noncomputable abbrev bF:List V->List qx->Prop:=Paired bB
def bF.length{xs:Li V}(r:bF xs us):↑xs=↑us:=Paired.length r
def bF.get:∀ {xs:Li V}{us:List qx}{i:Nat}{x:V},bF xs us->xs[i]?=qz x->∃ u,us[i]?=qz u/\bB x u
 |_,_,_,_,.nil,e=>by simp at e|_,_,0,_,.cons r _,e=>by simp at e;subst e;exact(_,rfl,r,)
 |_,_,i+1,x,.cons _ t,e=>by
   let(u,h1,h2):=bF.get (i:=i) (x:=x) t (e:);simp_all
def bF.set(r:bB x u):∀ {xs:Li V}{us:List qx} (i:Nat),bF xs us->bF (xs.set i x) (us.set i u)
 |_,_,_,.nil=>.nil|_,_,0,.cons _ t=>.cons r t|_,_,i+1,.cons q t=>.cons q (bF.set r i t)
def bF.append:∀ {xs ys:Li V}{us ws:List qx},bF xs us->bF ys ws->bF (xs++ys) (us++ws)
 |_,_,_,_,.nil,s=>s|_,_,_,_,.cons r t,s=>.cons r (bF.append t s)
def bF.take:∀ {xs:Li V}{us:List qx} (n:Nat),bF xs us->bF (xs.take n) (us.take n)
 |_,_,0,_=>.nil|_,_,_+1,.nil=>.nil|_,_,n+1,.cons r t=>.cons r (bF.take n t)
def bF.drop:∀ {xs:Li V}{us:List qx} (n:Nat),bF xs us->bF (xs.drop n) (us.drop n)
 |_,_,0,r=>r|_,_,_+1,.nil=>.nil|_,_,n+1,.cons _ t=>bF.drop n t
def iF:Oz V->Option qx->Prop
 |some v,qz u=>bB v u|none,qj=>True|_,_=>False
def KV{κ:Type}:Li (κ×V)->Li (κ×qx)->Prop:=Paired λ(p:κ×V) (q:κ×qx)=>p.1=q.1/\bB p.2 q.2
def kV:bN->V
 |.inl i=>.int i|.inr x=>.str x
inductive HO where
 |lst (xs:List V)
 |tup (xs:List V)
 |dK (aM:List (bN×V))|dT (aM:List (List bN×V))
 |set (S:Int->Bool) (n:Nat)
 |ins (C dx:qw) (fs:List (Str×V))
 |own (x:qw)
 |xd (fs:List (Str×V))
 |met (f x:qw)
 |rng (lo hi:Int)
 |frz (o:Obj) (u:HO)
 |tbl (ps:Array qx)
 |ext (φ:Heap->Prop)
abbrev Hp:=qw->Option HO
def bL(H:Hp)(a:qw)(o:HO):Hp:=λ b=>if b=a then qz o else H b
def dH:bL H a o a=qz o:=by unfold bL;rw[if_pos rfl]
def bW(h:b≠a):bL H a o b=H b:=by unfold bL;rw[if_neg h]
def aYM{H:Hp}{a b:qw}{o u:HO}(h:H a=qz o)(h':H b=qz u)(d:o≠u):a≠b:=by grind
def fJ{H:Hp}{a b:qw}{o:HO}(h:H a=qz o)(h':H b=qj):a≠b:=by grind
section
variable (P:zq)(w:zj)
def fM(H:Hp)(h:Heap)(a:qw):HO->Prop
 |.lst xs=>↑xs<=qk/\∃ (aI:List qx) (n:Nat),bF xs aI/\h.get? a=qz {cls:=.type "list",data:=.seq aI.toArray n }|.tup xs=>↑xs<=qk/\∃ aI:List qx,bF xs aI/\IsTup h a aI.toArray|.dK aM=>aM.length<=qk/\(a==sysModules)=Ff/\∃ vs,KV aM vs/\h.DictOf (gD P w) a vs
 |.dT aM=>aM.length<=qk/\(a==sysModules)=Ff/\∃ xs:Li (List bN×qw×qx),
    Paired (λ(p:List bN×V) (q:List bN×qw×qx)=>p.1=q.1/\H q.2.1=qz (.tup (p.1.map kV))/\bB p.2 q.2.2) aM xs /\
    ∃ o es ep,h.get? a=qz o/\o.ExactDict/\o.data=.dict es ep/\es.toList=xs.map (entryOfKey (tupleKind (gD P w)))/\(xs.map (·.1)).Nodup
 |.set S n=>h.SetOf (intKind P w) a S n
 |.ins C dx fs=>H dx=qz (.own a)/\↑fs<=1000/\dx≠a/\h.get? a=qz (yDm C dx) /\
    ∃ mA,h.Ns1 dx mA/\(∀ f,iF (fs.lookup f) (mA f))/\PySem.Within mA (fs.map (·.1))
 |.own _=>∃ o,h.get? a=qz o|.xd fs=>∃ mA,h.Ns1 a mA/\∀ f,iF (fs.lookup f) (mA f)|.rng lo hi=>∃ t u v,h.get? a=qz {cls:=.type "range",data:=.fields #[.int lo t,.int hi u,.int 1 v] }|.frz o u=>h.get? a=qz o/\fM H h a u|.tbl ps=>h.get? a=qz {cls:=.none,data:=.fields ps }|.met f x=>h.get? a=qz (yHq (.ref f) (.ref x))|.ext φ=>φ h/\(∃ o,h.get? a=qz o)/\∀ h1 h2:Heap,φ h1->(∀ o,h1.get? a=qz o->h2.get? a=qz o)->φ h2
def dL(H:Hp)(h:Heap):Prop:=∀ a o,H a=qz o->fM P w H h a o
end
def fM.lt(x:fM P w H h a o):a<h.objs.size:=by
 cases o with
 |lst xs=>let(_,_,_,_,e):=x;exact xAa e
 |tup xs=>let(_,_,_,p):=x;exact p.lt
 |dK aM=>let(_,_,_,_,o,_,_,e,_):=x;exact xAa e
 |dT aM=>let(_,_,_,_,o,_,_,e,_):=x;exact xAa e
 |set S n=>let(o,_,_,_,e,_):=x;exact xAa e
 |ins C dx fs=>let(_,_,_,e,_):=x;exact xAa e
 |own y=>let(_,e):=x;exact xAa e
 |xd fs=>let(_,(_,_,_,e,_),_):=x;exact xAa e
 |rng lo hi=>let(_,_,_,e):=x;exact xAa e
 |frz ob u=>let(e,_):=x;exact xAa e
 |tbl ps=>exact xAa (show h.get? a=qz _ from x)
 |met f y=>exact xAa (show h.get? a=qz _ from x)
 |ext φ=>let(_,(_,e),_):=x;exact xAa e
def Paired.mapP{α β:Type}{F G:α->β->Prop}:∀ {l₁:List α}{l₂:List β},Paired F l₁ l₂->(∀ a b,F a b->G a b)->Paired G l₁ l₂
 |_,_,.nil,_=>.nil|_,_,.cons r t,f=>.cons (f _ _ r) (Paired.mapP t f)
def fM.stay{h':Heap}(x:fM P w H h a o)(k:∀ b u,(b=a\/H b=qz (.own a))->h.get? b=qz u->h'.get? b=qz u)(ho:∀ b,H b=qz (.own a)->H' b=qz (.own a))(ht:∀ b xs,H b=qz (.tup xs)->H' b=qz (.tup xs)):fM P w H' h' a o:=by
 induction o with
 |lst xs=>let(z,aI,n,r,e):=x;exact(z,aI,n,r,k _ _ (.inl rfl) e,)
 |tup xs=>let(z,aI,r,ob,e,c):=x;exact(z,aI,r,ob,k _ _ (.inl rfl) e,c,)
 |dK aM=>let(z,y,vs,r,ob,es,ep,e,c):=x;exact(z,y,vs,r,ob,es,ep,k _ _ (.inl rfl) e,c,)
 |dT aM=>
   let(z,y,xs,r,ob,es,ep,e,c):=x;exact(z,y,xs,Paired.mapP r λ p q z=>(z.1,ht _ _ z.2.1,z.2.2,),ob,es,ep,k _ _ (.inl rfl) e,c,)
 |set S n=>let(ob,es,ep,t,e,c):=x;exact(ob,es,ep,t,k _ _ (.inl rfl) e,c,)
 |ins C dx fs=>
   let(d,z,ne,e,mA,(od,es,ep,e2,c),r):=x;exact(ho _ d,z,ne,k _ _ (.inl rfl) e,mA,(od,es,ep,k _ _ (.inr d) e2,c,),r,)
 |own y=>let(ob,e):=x;exact(ob,k _ _ (.inl rfl) e,)
 |xd fs=>let(mA,(od,es,ep,e,c),r):=x;exact(mA,(od,es,ep,k _ _ (.inl rfl) e,c,),r,)
 |rng lo hi=>let(t,u,v,e):=x;exact(t,u,v,k _ _ (.inl rfl) e,)
 |frz ob u ih=>let(e,q):=x;exact(k _ _ (.inl rfl) e,ih q,)
 |tbl ps=>
   have e:h.get? a=qz {cls:=.none,data:=.fields ps }:=x;show h'.get? a=qz {cls:=.none,data:=.fields ps };exact k a _ (.inl rfl) e
 |met f y=>
   have e:h.get? a=qz (yHq (.ref f) (.ref y)):=x;show h'.get? a=qz (yHq (.ref f) (.ref y));exact k a _ (.inl rfl) e
 |ext φ=>let(p,(o,e),st):=x;exact(st _ _ p λ o q=>k _ _ (.inl rfl) q,(o,k _ _ (.inl rfl) e,),st,)
def dL.lt(x:dL P w H h)(e:H a=qz o):a<h.objs.size:=(x a o e).lt
def dL.fresh(x:dL P w H h)(e:h.objs.size<=a):H a=qj:=by
 cases q:H a with
 |none=>rfl|some u=>exact absurd (xAb (x.lt q) e) (yCm _)
def dL.kept{h':Heap}(x:dL P w H h)(k:∀ b u,h.get? b=qz u->h'.get? b=qz u):dL P w H h':=λ a o e=>
 (x a o e).stay (λ b u _ q=>k b u q) (λ _ q=>q) λ _ _ q=>q
def dL.laid{h':Heap}(x:dL P w H h)(k:∀ b u,h.get? b=qz u->h'.get? b=qz u)(hp:h.objs.size<=a)(new:fM P w (bL H a o) h' a o):dL P w (bL H a o) h':=λ b u e=>by
 have hn:=x.fresh hp;by_cases hb:b=a
 .subst hb;rw[dH] at e;simp_all
 .rw[bW hb] at e;exact(x b u e).stay (λ c v _ q=>k c v q) (λ c q=>by rw[bW (fJ q hn)];exact q) λ c xs q=>by rw[bW (fJ q hn)];exact q
def Rd(H:Hp)(a:qw)(u:HO):Prop:=H a=qz u\/∃ o,H a=qz (.frz o u)
def Rd.ok(r:Rd H a u)(x:dL P w H h):fM P w H h a u:=by
 rcases r with r|⟨o,r⟩
 .exact x a u r
 .let(_,q):=x a _ r;exact q
def Mut:Oz HO->Prop
 |some (.lst _)=>True|some (.dK _)=>True|some (.dT _)=>True|some (.set _ _)=>True|some (.ins _ _ _)=>True|some (.ext _)=>True|_=>False
def dL.write{h':Heap}(ok:dL P w H h)(mu:Mut (H x))(he:e=x\/H e=qz (.own x))(k:∀ b u,b≠e->h.get? b=qz u->h'.get? b=qz u)(heo:∃ u,h'.get? e=qz u)(new:fM P w (bL H x o') h' x o'):dL P w (bL H x o') h':=λ b u q=>by
 have nown:∀ c y,H c=qz (.own y)->c≠x:=λ c y r z=>by subst z;rw[r] at mu;exact mu
 have ntup:∀ c xs,H c=qz (.tup xs)->c≠x:=λ c xs r z=>by subst z;rw[r] at mu;exact mu
 by_cases hb:b=x
 .subst hb;rw[dH] at q;simp_all
 .rw[bW hb] at q;by_cases hbe:b=e
  .have q':H b=qz (.own x):=by
    rcases he with z|z
    .exact absurd (hbe.trans z) hb
    .rw[hbe];exact z
   rw[q] at q';cases q';let(v,hv):=heo;exact(v,by rw[hbe];exact hv,)
  .refine(ok b u q).stay (λ c v hc r=>k c v ?_ r) (λ c r=>by rw[bW (nown c b r)];exact r) λ c xs r=>by rw[bW (ntup c xs r)];exact r
   rcases hc with rfl|hc
   .exact hbe
   .rintro rfl;rcases he with z|z
    .exact nown c b hc z
    .rw[hc] at z;cases z;exact hb rfl
structure Un(fs ex:List qw)(H H':Hp)(h h':Heap):Prop where
 keep:∀ b o,h.get? b=qz o->H b=qj->b ∉ fs->b ∉ ex->h'.get? b=qz o
 slot:∀ b o,h.get? b=qz o->H b=qj->b∈fs->b ∉ ex->∃ sl,h'.get? b=qz {o with slots:=sl }
 free:∀ b o,h.get? b=qz o->H b=qj->b ∉ ex->H' b=qj
 there:∀ b o,h.get? b=qz o->b ∉ ex->∃ o',h'.get? b=qz o'
 tups:∀ b xs,H b=qz (.tup xs)->H' b=qz (.tup xs)
 frzs:∀ b o u,H b=qz (.frz o u)->H' b=qz (.frz o u)
 tbls:∀ b ps,H b=qz (.tbl ps)->∃ more,H' b=qz (.tbl (ps++more))
def Un.any(u:Un fs ex H H1 h h1)(q:h.get? b=qz ob)(n:H b=qj)(hx:b ∉ ex):∃ sl,h1.get? b=qz {ob with slots:=sl }:=by
 by_cases hb:b∈fs
 .exact u.slot b ob q n hb hx
 .exact(ob.slots,u.keep b ob q n hb hx,)
def Un.kept{h h':Heap}(k:∀ b u,h.get? b=qz u->h'.get? b=qz u):Un fs ex H H h h':=
 (λ b ob q _ _ _=>k b ob q,λ b ob q _ _ _=>(ob.slots,k b ob q,),λ _ _ _ n _=>n,λ b ob q _=>(ob,k b ob q,),λ _ _ q=>q,λ _ _ _ q=>q,λ _ ps q=>(#[],by rw[q];simp,),)
def Un.refl:Un fs ex H H h h:=Un.kept λ _ _ q=>q
def Un.laid{h h':Heap}(k:∀ b u,h.get? b=qz u->h'.get? b=qz u)(hp:h.objs.size<=a)(hn:H a=qj):Un fs ex H (bL H a o) h h' where
 keep:=λ b u q _ _ _=>k b u q
 slot:=λ b u q _ _ _=>(u.slots,k b u q,)
 free:=λ b u q n _=>by rw[bW (xAj (xAb (xAa q) hp))];exact n
 there:=λ b u q _=>(u,k b u q,)
 tups:=λ b xs q=>by rw[bW (fJ q hn)];exact q
 frzs:=λ b u xs q=>by rw[bW (fJ q hn)];exact q
 tbls:=λ b ps q=>(#[],by rw[bW (fJ q hn),q];simp,)
def Un.write{h h':Heap}(mu:Mut (H x))(he:e=x\/H e=qz (.own x))(k:∀ b u,b≠e->h.get? b=qz u->h'.get? b=qz u)(heo:∃ u,h'.get? e=qz u):Un fs ex H (bL H x o) h h':=by
 have hx:∀ b,H b=qj->b≠x:=λ b n z=>by subst z;rw[n] at mu;exact mu
 have hb:∀ b,H b=qj->b≠e:=λ b n z=>by
  simp_all
 have hm:∀ b u,H b=qz u->¬ Mut (qz u)->b≠x:=λ b u q nm z=>by simp_all
 refine⟨λ b u q n _ _=>k b u (hb b n) q,λ b u q n _ _=>(u.slots,k b u (hb b n) q,),λ b u q n _=>by rw[bW (hx b n)];exact n,λ b u q _=>?_,
  λ b xs q=>by rw[bW (hm b _ q λ z=>z)];exact q,λ b u xs q=>by rw[bW (hm b _ q λ z=>z)];exact q,λ b ps q=>(#[],by rw[bW (hm b _ q λ z=>z),q];simp,)⟩
 grind
def trk(h:Heap)(H:Hp):List qw:=(yBh h.objs.size).filter λ a=>(H a).isSome
def oI(h:Heap)(H:Hp):Heap:=PySem.W.hideAll h (trk h H)
def aQL(h:Heap)(H:Hp):(oI h H).objs.size=h.objs.size:=PySem.W.hideAll_size _ _
def aRr{h:Heap}(e:h.get? b=qz o)(n:H b=qj):(oI h H).get? b=qz o:=
 PySem.W.hideAll_get _ e λ hm=>by
  have q:(H b).isSome=Tt:=(List.mem_filter.mp hm).2;rw[n] at q;simp at q
def aUX(e:(oI h H).get? b=qz o):h.get? b=qz o/\H b=qj:=by
 have e':h.get? b=qz o:=PySem.W.of_hideAll (trk h H) e;refine(e',?_,);cases q:H b with
 |none=>rfl
 |some x=>
   have hm:b∈trk h H:=List.mem_filter.mpr (List.mem_range.mpr (xAa e'),by simp[q],);have z:(oI h H).get? b=qj:=PySem.W.hideAll_none (trk h H) hm;rw[z] at e;cases e
def aSR(g h:Heap)(L:qw):Li (qw×Obj):=(yBh h.objs.size).filterMap λ a=>if a=L\/(g.get? a).isSome=Tt then qj else (h.get? a).map λ o=>(a,o)
def cM(g h:Heap)(L d:qw):Li (qw×Obj):=(aSR g h L).filter λ p=>decide (p.1≠d)
end L2
namespace L2
open PySem PySem.Spec PyProof.Rows
structure Mod(K:FrG)(mg:Str->Option qx)(base:Heap):Prop where
 kin:K.In base
 glob:base.Ns zy mg
 blt:∃ mb,base.Ns builtinsNs mb/\∀ x:Str,x ≠ "__name__" -> mb x=xo x
 nolimit:base.NoLimit
structure Cx where
 prog:zq
 w:zj
 K:FrG
 mg:Str->Option qx
 base:Heap
 A:zv
 N:List Str
 s₀:qv
 H₀:Hp
 env:Env
 outer:List Env
 stack:List Env
 ex:List qw
 fn:Str->Bool
 calm:Bool
 pn:List (qw×Obj)
 xe:qx->qv->Prop
def jM(l:Li Env):List qw:=l.filterMap (·.frame)
noncomputable abbrev Cx.fs(X:Cx):List qw:=jM X.outer
def Vis(sc:zw)(x:Str):Prop:=sc.names.lookup x=qz .local\/sc.names.lookup x=qz .cell\/sc.names.lookup x=qz .free
def Loc(sc:zw)(x:Str):Prop:=sc.names.lookup x=qz .local\/sc.names.lookup x=qz .cell
def bA4(env:Env)(h:Heap)(m:Str->Option qx)(x:Str)(u:qx):Prop:=
 (env.kindOf x=qz .local/\m x=qz u)\/((env.kindOf x=qz .cell\/env.kindOf x=qz .free)/\∃ c,env.cells.lookup x=qz c/\h.IsCell c (qz u))
structure Cx.Ok(X:Cx):Prop where
 mod:Mod X.K X.mg X.base
 kind:X.env.scope.kind=.function
 glob:X.env.globals=zy
 blt:X.env.builtins=builtinsNs
 above:X.s₀.heap.objs.size<=X.env.locals
 inj:∀ x y c,X.env.cells.lookup x=qz c->X.env.cells.lookup y=qz c->x=y
 has:∀ x,(X.env.kindOf x=qz .cell\/X.env.kindOf x=qz .free)->∃ c,X.env.cells.lookup x=qz c
 cab:∀ x c,X.fn x=Tt->X.env.cells.lookup x=qz c->X.s₀.heap.objs.size<=c
 hd:X.calm=Tt->X.A.handled=qj
 frames:X.A.frames=qz X.stack
 stk:X.stack=X.outer\/(X.stack=X.env::X.outer/\X.env.frame=qz X.env.locals)
 exf:∀ b∈X.ex,b≠X.env.locals/\∀ x c,X.env.cells.lookup x=qz c->c≠b
 bs:∀ b o,X.base.get? b=qz o->X.s₀.heap.get? b=qz o/\X.H₀ b=qj
 bsz:X.base.objs.size<=X.s₀.heap.objs.size
 noex:∀ b o,X.base.get? b=qz o->b ∉ X.ex
 exfs:∀ b∈X.ex,b ∉ X.fs
 funs:X.s₀.heap.FunFrames X.base X.outer
 frf:∀ b∈X.fs,X.H₀ b=qj
structure Inv(X:Cx)(aB:List (qw×Obj))(σ:List (Option V))(H:Hp)(s:qv):Prop where
 ok:X.Ok
 os:s.os=X.s₀.os
 bare:AllBare s.gens
 base:Un X.fs X.ex X.H₀ H X.s₀.heap s.heap
 loc:∃ m,s.heap.Ns X.env.locals m/\∀ (i:Nat) (x:Str) (v:V),X.N[i]?=qz x->σ[i]?=qz (qz v)->Vis X.env.scope x->∃ u,bB v u/\bA4 X.env s.heap m x u
 cell:∀ x c,X.env.cells.lookup x=qz c->∃ v,s.heap.IsCell c v
 free:H X.env.locals=qj
 freeC:∀ x c,X.env.cells.lookup x=qz c->H c=qj
 pin:∀ p∈X.pn++aB,s.heap.get? p.1=qz p.2/\H p.1=qj/\p.1≠X.env.locals/\p.1 ∉ X.fs/\∀ v,p.2.data≠.cell v
 hok:dL X.prog X.w H s.heap
 len:σ.length=X.N.length
section
variable {X:Cx}{aB:List (qw×Obj)}{σ:List (Option V)}{H H':Hp}{s:qv}{h':Heap}
def Cx.Ok.nofr(ok:X.Ok)(e:X.base.get? b=qz o):b ∉ X.fs:=λ hb=>by
 have:=(ok.funs.mem hb).1;rw[e] at this;cases this
def Inv.bs(I:Inv X aB σ H s):∀ b o,X.base.get? b=qz o->s.heap.get? b=qz o/\H b=qj:=λ b o e=>
 (I.base.keep b o (I.ok.bs b o e).1 (I.ok.bs b o e).2 (I.ok.nofr e) (I.ok.noex b o e),I.base.free b o (I.ok.bs b o e).1 (I.ok.bs b o e).2 (I.ok.noex b o e),)
def Inv.bk(I:Inv X aB σ H s):∀ b o,X.base.get? b=qz o->s.heap.get? b=qz o:=λ b o e=>(I.bs b o e).1
def Inv.mod(I:Inv X aB σ H s):Mod X.K X.mg X.base:=I.ok.mod
def Inv.kIn(I:Inv X aB σ H s):X.K.In s.heap:=I.ok.mod.kin.keeps I.bk
def Inv.lt(I:Inv X aB σ H s):X.env.locals<s.heap.objs.size:=let ⟨_,hn,_⟩:=I.loc;hn.lt
def Inv.sz(I:Inv X aB σ H s):X.s₀.heap.objs.size<=s.heap.objs.size:=xAh I.ok.above (yDx I.lt)
def Inv.nofs(I:Inv X aB σ H s)(h:s.heap.objs.size<=a):a ∉ X.fs:=λ hb=>by
 let(_,o,ho,_):=I.ok.funs.mem hb;exact absurd (xAb (xAa ho) (xAh I.sz h)) (yCm _)
def Inv.cne(I:Inv X aB σ H s):∀ x c,X.env.cells.lookup x=qz c->c≠X.env.locals:=λ x c e z=>by
 let(v,o,ho,hd):=I.cell x c e;let(m,(o',es,ep,ho',hd',_),_):=I.loc;rw[z,ho'] at ho;simp_all
def Inv.funs(I:Inv X aB σ H s):s.heap.FunFrames X.base X.outer:=by
 have all:∀ (l:Li Env),(∀ b∈jM l,b∈X.fs)->X.s₀.heap.FunFrames X.base l->s.heap.FunFrames X.base l:=by
  intro l
  induction l with
  |nil=>intro _ _;trivial
  |cons env r ih=>
    intro hs hl;let(hk,(L,o,hf,hn,ho,hd),hr):=hl;have hL:L∈X.fs:=hs L (by unfold jM;rw[yCj,hf];exact xAc);let(sl,e):=I.base.slot L o ho (I.ok.frf L hL) hL λ z=>I.ok.exfs L z hL
    exact(hk,(L,_,hf,hn,e,hd,),ih (λ b hb=>hs b (by unfold jM;rw[yCj,hf];exact xAf _ hb)) hr,)
 exact all X.outer (λ _ hb=>hb) I.ok.funs
def Inv.stack(I:Inv X aB σ H s):s.heap.FunFrames X.base X.stack:=by
 rcases I.ok.stk with e|⟨e,hf⟩
 .rw[e];exact I.funs
 .rw[e];let(m,hn,_):=I.loc;refine .cons (by rw[I.ok.kind];decide) hf hn ?_ I.funs;exact Heap.get?_none_of_le (xAh I.ok.bsz I.ok.above)
def Inv.stkSub(I:Inv X aB σ H s):∀ b∈jM X.stack,b∈X.env.locals::X.fs:=λ b hb=>by
 rcases I.ok.stk with e|⟨e,hf⟩
 .rw[e] at hb;simp_all
 .rw[e] at hb;unfold jM at hb;rw[yCj,hf] at hb;exact hb
def Inv.stkFree(I:Inv X aB σ H s):∀ b∈jM X.stack,H b=qj:=λ b hb=>by
 rcases List.mem_cons.mp (I.stkSub b hb) with e|hb
 .rw[e];exact I.free
 .let(_,o,ho,_):=I.ok.funs.mem hb;exact I.base.free b o ho (I.ok.frf b hb) λ z=>I.ok.exfs b z hb
def Inv.step{g':Array GenState}{t':Nat}{d':Drawn}{ch:List qw}(I:Inv X aB σ H s)
 (hch:∀ b∈ch,(b∈X.ex\/X.s₀.heap.objs.size<=b)/\b≠X.env.locals/\(∀ x c,X.env.cells.lookup x=qz c->c≠b)/\∀ p∈X.pn++aB,p.1≠b)
 (keep:∀ b o,b≠X.env.locals->b ∉ X.fs->b ∉ ch->s.heap.get? b=qz o->H b=qj->h'.get? b=qz o)
 (slot:∀ b o,b≠X.env.locals->b∈X.fs->b ∉ ch->s.heap.get? b=qz o->H b=qj->∃ sl,h'.get? b=qz {o with slots:=sl }) (free:∀ b o,b ∉ ch->s.heap.get? b=qz o->H b=qj->H' b=qj)
 (there:∀ b o,b ∉ ch->s.heap.get? b=qz o->∃ o',h'.get? b=qz o')
 (tups:∀ b xs,H b=qz (.tup xs)->H' b=qz (.tup xs)) (frzs:∀ b o u,H b=qz (.frz o u)->H' b=qz (.frz o u)) (tbls:∀ b ps,H b=qz (.tbl ps)->∃ more,H' b=qz (.tbl (ps++more)))
 (ns:∀ m,s.heap.Ns X.env.locals m->h'.Ns X.env.locals m) (hok:dL X.prog X.w H' h') (hg:AllBare g') :
 Inv X aB σ H' {s with heap:=h',gens:=g',drawn:=d',toks:=t' }:=by
 have neL:∀ b o,X.s₀.heap.get? b=qz o->b≠X.env.locals:=λ b o e=>xAj (xAb (xAa e) I.ok.above)
 have neC:∀ b o,X.s₀.heap.get? b=qz o->b ∉ X.ex->b ∉ ch:=λ b o e hx hb=>by
  rcases (hch b hb).1 with z|z
  .exact hx z
  .exact absurd (xAb (xAa e) z) (yCm _)
 have cellK:∀ x c,X.env.cells.lookup x=qz c->∀ v,s.heap.IsCell c v->h'.IsCell c v:=λ x c e v bC=>by
  let(o,ho,hd):=bC;have nch:c ∉ ch:=λ z=>(hch c z).2.2.1 x c e rfl
  by_cases hc:c∈X.fs
  .let(sl,q):=slot c o (I.cne x c e) hc nch ho (I.freeC x c e);exact(_,q,hd,)
  .exact(o,keep c o (I.cne x c e) hc nch ho (I.freeC x c e),hd,)
 refine(I.ok,I.os,hg,(λ b o e n hb hx=>?_,λ b o e n hb hx=>?_,λ b o e n hx=>?_,λ b o e hx=>?_,λ b xs e=>tups b xs (I.base.tups b xs e),λ b o xs e=>frzs b o xs (I.base.frzs b o xs e),λ b ps e=>?_,),?_,λ x c e=>?_,?_,λ x c e=>?_,λ p hp=>?_,hok,I.len,)
 .exact keep b o (neL b o e) hb (neC b o e hx) (I.base.keep b o e n hb hx) (I.base.free b o e n hx)
 .let(sl,e1):=I.base.slot b o e n hb hx;let(sl',e2):=slot b _ (neL b o e) hb (neC b o e hx) e1 (I.base.free b o e n hx);exact(sl',e2,)
 .let(o',e1):=I.base.there b o e hx;exact free b o' (neC b o e hx) e1 (I.base.free b o e n hx)
 .let(o',e1):=I.base.there b o e hx;exact there b o' (neC b o e hx) e1
 .let(m1,e1):=I.base.tbls b ps e
  grind
 .let(m,hn,hl):=I.loc;refine(m,ns m hn,λ i x v e1 e2 e3=>?_,);let(u,r,l):=hl i x v e1 e2 e3;refine(u,r,?_,);rcases l with l|⟨k,c,e,z⟩
  .exact .inl l
  .exact .inr (k,c,e,cellK x c e _ z,)
 .let(v,z):=I.cell x c e;exact(v,cellK x c e v z,)
 .let(m,(o,_,_,ho,_),_):=I.loc;exact free _ o (λ z=>(hch _ z).2.1 rfl) ho I.free
 .let(v,o,ho,hd):=I.cell x c e;exact free c o (λ z=>(hch c z).2.2.1 x c e rfl) ho (I.freeC x c e)
 .let(e,n,ne,nf,d):=I.pin p hp;have nch:p.1 ∉ ch:=λ z=>(hch p.1 z).2.2.2 p hp rfl
  exact(keep p.1 p.2 ne nf nch e n,free p.1 p.2 nch e n,ne,nf,d,)
def Inv.un(I:Inv X aB σ H s)(u:Un X.fs [] H H' s.heap h')(hok:dL X.prog X.w H' h'):Inv X aB σ H' {s with heap:=h',toks:=t' }:=by
 let(m,(o,es,ep,ho,r),_):=id I.loc;let(sl,hL):=u.any ho I.free (by simp)
 exact I.step (g':=s.gens) (d':=s.drawn) (ch:=[]) (λ _ z=>nomatch z) (λ b o _ hb _ e n=>u.keep b o e n hb (by simp)) (λ b o _ hb _ e n=>u.slot b o e n hb (by simp)) (λ b o _ e n=>u.free b o e n (by simp)) (λ b o _ e=>u.there b o e (by simp)) u.tups u.frzs u.tbls (λ m' hm=>by
  let(o',es',ep',ho',r'):=hm;rw[ho] at ho';cases ho';exact(_,es',ep',hL,r',)) hok I.bare
def Inv.call(I:Inv X aB σ H s)(u:Un (jM X.stack) ch H H' s.heap h')(hok:dL X.prog X.w H' h')(hg:AllBare g')(hch:∀ b∈ch,(b∈X.ex\/X.s₀.heap.objs.size<=b)/\b≠X.env.locals/\(∀ x c,X.env.cells.lookup x=qz c->c≠b)/\∀ p∈X.pn++aB,p.1≠b) :
 Inv X aB σ H' {s with heap:=h',gens:=g',drawn:=d',toks:=t' }:=by
 let(m,(o,es,ep,ho,r),_):=id I.loc;let(sl,hL):=u.any ho I.free λ z=>(hch _ z).2.1 rfl
 exact I.step (ch:=ch) hch (λ b o hL hb hc e n=>u.keep b o e n (λ z=>(List.mem_cons.mp (I.stkSub b z)).elim hL hb) hc) (λ b o _ _ hc e n=>u.any e n hc) (λ b o hc e n=>u.free b o e n hc) (λ b o hc e=>u.there b o e hc) u.tups u.frzs u.tbls (λ m' hm=>by
  let(o',es',ep',ho',r'):=hm;rw[ho] at ho';cases ho';exact(_,es',ep',hL,r',)) hok hg
def Inv.turned(I:Inv X aB σ H s)(k:∀ b o,b≠it->s.heap.get? b=qz o->h'.get? b=qz o)(hn:H it=qj)(hL:it≠X.env.locals)(h1:it∈X.ex\/X.s₀.heap.objs.size<=it)(h2:∀ x c,X.env.cells.lookup x=qz c->c≠it)(h3:∀ p∈X.pn++aB,p.1≠it):Inv X aB σ H {s with heap:=h',toks:=t' }:=by
 have nit:∀ b u,H b=qz u->b≠it:=λ b u e z=>by rw[z,hn] at e;cases e
 refine I.step (g':=s.gens) (d':=s.drawn) (ch:=[it]) (λ b hb=>?_) (λ b o _ _ hc e _=>k b o (λ z=>hc (by simp[z])) e) (λ b o _ _ hc e _=>(o.slots,k b o (λ z=>hc (by simp[z])) e,)) (λ _ _ _ _ n=>n)
  (λ b o hc e=>(o,k b o (λ z=>hc (by simp[z])) e,)) (λ _ _ e=>e) (λ _ _ _ e=>e) (λ b ps e=>(#[],by rw[e];simp,)) (λ m hm=>?_) (λ b u e=>?_) I.bare
 .have e:b=it:=(hb:)
  subst e;exact(h1,hL,h2,h3,)
 .let(o,es,ep,ho,r):=hm;exact(o,es,ep,k _ o (Ne.symm hL) ho,r,)
 .refine(I.hok b u e).stay (λ c v hc q=>k c v ?_ q) (λ _ q=>q) λ _ _ q=>q
  rcases hc with z|z
  .rw[z];exact nit b u e
  .exact nit c _ z
def Inv.tok(I:Inv X aB σ H s)(t:Nat):Inv X aB σ H {s with toks:=t }:=I.un (h':=s.heap) (t':=t) Un.refl I.hok
def Inv.kept(I:Inv X aB σ H s)(k:∀ b u,s.heap.get? b=qz u->h'.get? b=qz u):Inv X aB σ H {s with heap:=h',toks:=t' }:=I.un (Un.kept k) (I.hok.kept k)
def Inv.laid(I:Inv X aB σ H s)(k:∀ b u,s.heap.get? b=qz u->h'.get? b=qz u)(hp:s.heap.objs.size<=a)(new:fM X.prog X.w (bL H a o) h' a o) :
 Inv X aB σ (bL H a o) {s with heap:=h',toks:=t' }:=I.un (Un.laid k hp (I.hok.fresh hp)) (I.hok.laid k hp new)
def Inv.write(I:Inv X aB σ H s)(mu:Mut (H x))(he:e=x\/H e=qz (.own x))(k:∀ b u,b≠e->s.heap.get? b=qz u->h'.get? b=qz u)(heo:∃ u,h'.get? e=qz u)(new:fM X.prog X.w (bL H x o) h' x o):Inv X aB σ (bL H x o) {s with heap:=h',toks:=t' }:=I.un (Un.write mu he k heo) (I.hok.write mu he k heo new)
def Inv.pins_of(I:Inv X aB σ H s)(h:∀ p∈pins',s.heap.get? p.1=qz p.2/\H p.1=qj/\p.1≠X.env.locals/\p.1 ∉ X.fs/\∀ v,p.2.data≠.cell v):Inv X pins' σ H s:=
 (I.ok,I.os,I.bare,I.base,I.loc,I.cell,I.free,I.freeC,λ p hp=>(List.mem_append.mp hp).elim (λ z=>I.pin p (List.mem_append_left _ z)) (h p),I.hok,I.len,)
def aIJ{N:Li Str}(hN:N.Nodup){i j:Nat}{x:Str}(a:N[i]?=qz x)(b:N[j]?=qz x):i=j:=by let(h1,e1):=gIm a;let(h2,e2):=gIm b;exact(List.getElem_inj hN).mp (e1.trans e2.symm)
def aQ6{E:qx->qv->Prop}{Q:Unit->qv->Prop}(I:Inv X aB σ H s)(hN:X.N.Nodup)(hi:X.N[i]?=qz x)(hx:Loc X.env.scope x)(r:bB v u)(h:∀ s',Inv X aB (σ.set i (qz v)) H s'->(∃ a,yDi a s.heap s'.heap/\(a=X.env.locals\/X.env.cells.lookup x=qz a))->Q () s')(hf:X.fn x=Tt\/X.env.scope.names.lookup x=qz .local:=by first|exact .inl rfl|exact .inr rfl|assumption):qu M A (storeName X.env x u) Q E s:=by
 let(m,hn,hl):=id I.loc;have hcls:(X.env.scope.kind==.class||(X.env.scope.kind==.module&&X.env.locals != X.env.globals))=Ff:=by rw[I.ok.kind];rfl
 have hiσ:i<σ.length:=by rw[I.len];exact(gIm hi).1
 have cne:=I.cne;have tracked:∀ {a:qw}{h':Heap},(∃ o,s.heap.get? a=qz o/\H a=qj)->yDi a s.heap h'->dL X.prog X.w H h':=λ {a h'} ha hs b ob e=>by
  let(_,_,hfree):=ha;refine(I.hok b ob e).stay (λ c w' hc q=>(hs.2 c ?_).trans q) (λ _ q=>q) λ _ _ q=>q
  grind
 rcases hx with hk|hk
 .refine wpAny_storeName_local hk hn (λ h' hn' hs=>?_) hcls;let(oL,_,_,hoL,_):=id hn;refine h _ (I.ok,I.os,I.bare,(λ b o e n hb hx=>?_,λ b o e n hb hx=>?_,I.base.free,λ b o e hx=>?_,I.base.tups,I.base.frzs,I.base.tbls,),(_,hn',λ j y v' e1 e2 e3=>?_,),λ y c e=>?_,I.free,I.freeC,λ p hp=>?_,tracked (oL,hoL,I.free,) hs,by simpa using I.len,) (_,hs,.inl rfl,)
  .exact(hs.2 b (xAj (xAb (xAa e) I.ok.above))).trans (I.base.keep b o e n hb hx)
  .let(sl,e1):=I.base.slot b o e n hb hx;exact(sl,(hs.2 b (xAj (xAb (xAa e) I.ok.above))).trans e1,)
  .let(o',e1):=I.base.there b o e hx;exact(o',(hs.2 b (xAj (xAb (xAa e) I.ok.above))).trans e1,)
  .by_cases hj:j=i
   .subst hj;rw[hi] at e1;cases e1;rw[yAw hiσ] at e2;cases e2;exact(u,r,.inl (hk,by simp,),)
   .rw[yAz (Ne.symm hj)] at e2;let(u',r',q):=hl j y v' e1 e2 e3;refine(u',r',?_,);rcases q with ⟨k,e⟩|⟨k,c,e,z⟩
    .refine .inl (k,?_,);have:y≠x:=λ e=>hj (aIJ hN e1 (e▸hi))
     simp[this,e]
    .exact .inr (k,c,e,z.sameBut hs (cne y c e),)
  .let(w',z):=I.cell y c e;exact(w',z.sameBut hs (cne y c e),)
  .let(e,n,ne,nf,d):=I.pin p hp;exact((hs.2 p.1 ne).trans e,n,ne,nf,d,)
 .have hfn:X.fn x=Tt:=by
   simp_all
  let(c,hc):=I.ok.has x (.inl hk);let(w',z):=I.cell x c hc;refine wpAny_storeName_cell I.ok.kind hk hc z (λ h' hc' hs=>?_);let(oc,hoc,hocd):=id z;refine h {s with heap:=h' } (I.ok,I.os,I.bare,(λ b o e n hb hx=>?_,λ b o e n hb hx=>?_,I.base.free,λ b o e hx=>?_,I.base.tups,I.base.frzs,I.base.tbls,),(m,hn.sameBut hs (Ne.symm (cne x c hc)),λ j y v' e1 e2 e3=>?_,),λ y c' e=>?_,I.free,I.freeC,λ p hp=>?_,tracked (oc,hoc,I.freeC x c hc,) hs,by simpa using I.len,) (c,hs,.inr hc,)
  .exact(hs.2 b (xAj (xAb (xAa e) (I.ok.cab x c hfn hc)))).trans (I.base.keep b o e n hb hx)
  .let(sl,e1):=I.base.slot b o e n hb hx;exact(sl,(hs.2 b (xAj (xAb (xAa e) (I.ok.cab x c hfn hc)))).trans e1,)
  .let(o',e1):=I.base.there b o e hx;exact(o',(hs.2 b (xAj (xAb (xAa e) (I.ok.cab x c hfn hc)))).trans e1,)
  .by_cases hj:j=i
   .subst hj;rw[hi] at e1;cases e1;rw[yAw hiσ] at e2;cases e2;exact(u,r,.inr (.inl hk,c,hc,hc',),)
   .rw[yAz (Ne.symm hj)] at e2;let(u',r',q):=hl j y v' e1 e2 e3;refine(u',r',?_,);rcases q with q|⟨k,c',e,z'⟩
    .exact .inl q
    .refine .inr (k,c',e,z'.sameBut hs ?_,);rintro rfl;exact hj (aIJ hN e1 (I.ok.inj _ _ _ e hc▸hi))
  .by_cases hcc:c'=c
   .grind
   .let(w2,z2):=I.cell y c' e;exact(w2,z2.sameBut hs hcc,)
  .let(e,n,ne,nf,d):=I.pin p hp;refine((hs.2 p.1 ?_).trans e,n,ne,nf,d,)
   grind
def aJi{E:qx->qv->Prop}{Q:Unit->qv->Prop}(I:Inv X aB σ H s)(hN:X.N.Nodup)(hi:X.N[i]?=qz x)(hx:Loc X.env.scope x)(r:bB v u)(h:∀ s',Inv X aB (σ.set i (qz v)) H s'->Q () s')(hf:X.fn x=Tt\/X.env.scope.names.lookup x=qz .local:=by first|exact .inl rfl|exact .inr rfl|assumption):qu M A (storeName X.env x u) Q E s:=
 aQ6 I hN hi hx r (λ s' I' _=>h s' I') hf
def Inv.call'{s':qv}(I:Inv X aB σ H s)(ho:s'.os=s.os)(u:Un (jM X.stack) ch H H' s.heap s'.heap)(hok:dL X.prog X.w H' s'.heap)(hg:AllBare s'.gens)(hch:∀ b∈ch,(b∈X.ex\/X.s₀.heap.objs.size<=b)/\b≠X.env.locals/\(∀ x c,X.env.cells.lookup x=qz c->c≠b)/\∀ p∈X.pn++aB,p.1≠b):Inv X aB σ H' s':=by let(h',g',d',t',o'):=s';have e:o'=s.os:=ho;subst e;exact I.call (g':=g') (t':=t') (d':=d') u hok hg hch
end
abbrev XK:=qx->Option qw->Hp->Prop
abbrev St:=List (Option V)
abbrev VK:=V->Hp->Prop
abbrev TE:=St->Hp->VK->Prop
abbrev TT:=St->Hp->(Bool->Hp->Prop)->Prop
abbrev TA:=St->Hp->(List V->Hp->Prop)->Prop
structure Ends where
 nx:St->Hp->Prop
 rt:VK
 bk:St->Hp->Prop:=λ _ _=>False
 ct:St->Hp->Prop:=λ _ _=>False
abbrev TS:=Ends->St->Hp->Prop
def EP(X:Cx)(aB:Li (qw×Obj))(σ:St)(Q:VK)(u:qx)(s':qv):Prop:=∃ v H',Inv X aB σ H' s'/\bB v u/\Q v H'
def TP(X:Cx)(aB:Li (qw×Obj))(σ:St)(Q:Bool->Hp->Prop)(b:Bool)(s':qv):Prop:=∃ H',Inv X aB σ H' s'/\Q b H'
def AP(X:Cx)(aB:Li (qw×Obj))(σ:St)(Q:Li V->Hp->Prop)(us:List qx)(s':qv):Prop:=∃ vs H',Inv X aB σ H' s'/\bF vs us/\Q vs H'
def SP(X:Cx)(aB:Li (qw×Obj))(D:Ends)(f:Flow)(s':qv):Prop:=
 match f with
 |.next=>∃ σ' H',Inv X aB σ' H' s'/\D.nx σ' H'|.brk=>∃ σ' H',Inv X aB σ' H' s'/\D.bk σ' H'|.cont=>∃ σ' H',Inv X aB σ' H' s'/\D.ct σ' H'|.ret u=>∃ v σ' H',Inv X aB σ' H' s'/\bB v u/\D.rt v H'
def PE(X:Cx)(e:qy)(t:TE):Prop:=
 ∀ (aB:Li (qw×Obj)) (s:qv) (σ:St) (H:Hp) (Q:VK),Inv X aB σ H s->t σ H Q->qu (model X.prog X.w) X.A (eval e X.env) (EP X aB σ Q) X.xe s
def PT(X:Cx)(e:qy)(t:TT):Prop:=
 ∀ (aB:Li (qw×Obj)) (s:qv) (σ:St) (H:Hp) (Q:Bool->Hp->Prop),Inv X aB σ H s->t σ H Q->qu (model X.prog X.w) X.A (isTrue e X.env (eval e X.env)) (TP X aB σ Q) X.xe s
def PW(X:Cx)(e:qy)(t:TT):Prop:=
 ∀ (kS:Sem qx) (aB:Li (qw×Obj)) (s:qv) (σ:St) (H:Hp) (Q:Bool->Hp->Prop),Inv X aB σ H s->t σ H Q->qu (model X.prog X.w) X.A (isTrue e X.env kS) (TP X aB σ Q) X.xe s
def PW.pt{t:TT}(h:PW X e t):PT X e t:=h _
def PA(X:Cx)(es:List qy)(t:TA):Prop:=
 ∀ (pos:Pos) (aB:Li (qw×Obj)) (s:qv) (σ:St) (H:Hp) (Q:Li V->Hp->Prop),Inv X aB σ H s->t σ H Q->qu (model X.prog X.w) X.A (spliced (backTo pos (qo es X.env))) (AP X aB σ Q) X.xe s
def PS(X:Cx)(st:xk)(t:TS):Prop:=
 ∀ (aB:Li (qw×Obj)) (s:qv) (σ:St) (H:Hp) (D:Ends),Inv X aB σ H s->t D σ H->qu (model X.prog X.w) X.A (exec st X.env) (SP X aB D) X.xe s
def eQ(X:Cx)(st:List xk)(t:TS):Prop:=
 ∀ (aB:Li (qw×Obj)) (s:qv) (σ:St) (H:Hp) (D:Ends),Inv X aB σ H s->t D σ H->qu (model X.prog X.w) X.A (execs st X.env) (SP X aB D) X.xe s
def bJ{α:Type}{t:Sem α}{Q Q':α->qv->Prop}{E:qx->qv->Prop}(h:qu M A t Q E s)(hQ:∀ a s,Q a s->Q' a s):qu M A t Q' E s:=wpAny_mono h hQ λ _ _ x=>x
end L2
namespace L2
open PySem PySem.Spec PyProof.Rows
def bin{ta tb:TE}(ha:PE X a ta)(hb:PE X b tb){R:V->V->Hp->Prop}(I:Inv X aB σ H s)(h:ta σ H λ x H1=>tb σ H1 λ y H2=>R x y H2){α:Type}{Q:α->qv->Prop}{f:qx->qx->Sem α}(hf:∀ v u s2 x y H2,Inv X aB σ H2 s2->bB x v->bB y u->R x y H2->qu (model X.prog X.w) X.A (f v u) Q X.xe s2) :
 qu (model X.prog X.w) X.A (eval a X.env) (λ v s₁=>qu (model X.prog X.w) X.A (eval b X.env) (λ u s₂=>qu (model X.prog X.w) X.A (f v u) Q X.xe s₂) X.xe s₁) X.xe s:=by
 refine bJ (ha aB s σ H _ I h) λ v s1 hPq0=>?_
 let(x,H1,I1,r1,q1):=hPq0;refine bJ (hb aB s1 σ H1 _ I1 q1) λ u s2 hPq1=>?_
 let(y,H2,I2,r2,q2):=hPq1;exact hf v u s2 x y H2 I2 r1 r2 q2
def zO(i:Nat):TE:=λ σ H Q=>∃ v,σ[i]?=qz (qz v)/\Q v H
def tC(v:V):TE:=λ _ H Q=>Q v H
variable {X:Cx}
def aKW{i:Nat}{x:Str}{pos:Pos}(hN:X.N[i]?=qz x)(hv:Vis X.env.scope x)(hd:(x==("__debug__" : Str))=Ff:=by decide)(hcd:(x==("__classdict__" : Str))=Ff:=by decide):PE X (.Name x pos) (zO i):=by
 intro aB s σ H Q I h;let(v,e,h):=h;let(m,hn,hl):=I.loc;let(u,r,l):=hl i x v hN e hv;have cS:EP X aB σ Q u s:=(v,H,I,r,h,);rcases l with ⟨hk,hm⟩|⟨hk,c,hc,hcell⟩
 .exact wpAny_Name (wpAny_loadName_local I.ok.kind hk hn hm cS) hd
 .rcases hk with hk|hk
  .exact wpAny_Name (wpAny_loadName_cell I.ok.kind hk hc hcell cS) hd
  .exact wpAny_Name (wpAny_loadName_free I.ok.kind hk hc hcell cS hcd) hd
def aWU{i j pos}:PE X (.Constant (.int i) j pos) (tC (.int i)):=λ _ _ _ H _ I h=>wpAny_Constant_int (.int i,H,I.tok _,(_,rfl,),h,)
def bAo{b j pos}:PE X (.Constant (.bool b) j pos) (tC (.bl b)):=λ _ _ _ H _ I h=>Constant_bool (.bl b,H,I,rfl,h,)
def aYa{j pos}:PE X (.Constant .none j pos) (tC .non):=λ _ _ _ H _ I h=>Constant_none (.non,H,I,rfl,h,)
def aXe{x j pos}:PE X (.Constant (.str x) j pos) (tC (.str x)):=λ _ _ _ H _ I h=>Calls.Constant_str (.str x,H,I.tok _,(_,rfl,),h,)
def Gl(X:Cx)(x:Str):Prop:=X.env.kindOf x=qz .globalImplicit
def aBg{E:qx->qv->Prop}{Q:qx->qv->Prop}(I:Inv X aB σ H s)(hg:Gl X x)(hm:X.mg x=qz u)(h:Q u s)(hd:(x==("__debug__" : Str))=Ff:=by decide):qu (model X.prog X.w) X.A (eval (.Name x pos) X.env) Q E s:=
 Calls.Name_function_global I.ok.kind hg (Calls.loadGlobal_global (by rw[I.ok.glob];exact I.mod.glob.keeps I.bk) hm h) hd
def nT{E:qx->qv->Prop}{aB:Li (qw×Obj)}{s:qv}{σ:St}{H:Hp}{x:Str}{u:qx}{pos:Pos}{Q:qx->qv->Prop}(I:Inv X aB σ H s)(hg:Gl X x)(hm:X.mg x=qj)(hv:xo x=qz u)(h:Q u s)
 (hn:x ≠ "__name__":=by decide) (hd:(x==("__debug__" : Str))=Ff:=by decide):qu (model X.prog X.w) X.A (eval (.Name x pos) X.env) Q E s:=by let(mb,h1,h2):=I.mod.blt;exact Calls.Name_function_global I.ok.kind hg (Calls.loadGlobal_builtin (by rw[I.ok.glob];exact I.mod.glob.keeps I.bk) hm (by rw[I.ok.blt];exact h1.keeps I.bk) ((h2 x hn).trans hv) h) hd
def aJY(hg:Gl X x)(hm:X.mg x=qz u)(r:bB v u)(hd:(x==("__debug__" : Str))=Ff:=by decide):PE X (.Name x pos) (tC v):=
 λ _ _ _ H _ I h=>aBg I hg hm (v,H,I,r,h,) hd
def aTq{x:Str}{v:V}{u:qx}{pos:Pos}(hg:Gl X x)(hm:X.mg x=qj)(hv:xo x=qz u)(r:bB v u)(hn:x ≠ "__name__":=by decide)(hd:(x==("__debug__" : Str))=Ff:=by decide):PE X (.Name x pos) (tC v):=
 λ _ _ _ H _ I h=>nT I hg hm hv (v,H,I,r,h,) hn hd
def PC(X:Cx)(op:jx)(a b:qy)(t:TE):Prop:=
 ∀ (aB:Li (qw×Obj)) (s:qv) (σ:St) (H:Hp) (Q:VK),Inv X aB σ H s->t σ H Q ->
  qu (model X.prog X.w) X.A (eval a X.env) (λ v s₁=>qu (model X.prog X.w) X.A (eval b X.env) (λ u s₂=>qu (model X.prog X.w) X.A (xw op v u) (EP X aB σ Q) X.xe s₂) X.xe s₁) X.xe s
def aI3(b:qy)(h:op≠.In)(h2:op≠.NotIn):xz op b=Ff:=by
 have e1:(op==CmpOp.In)=Ff:=by cases op<;>first|rfl|exact absurd rfl h
 have e2:(op==CmpOp.NotIn)=Ff:=by cases op<;>first|rfl|simp_all
 cases b<;>simp[xz,e1,e2]
def tB(t:TE):TT:=λ σ H Q=>t σ H λ x H1=>∃ c,x=.bl c/\Q c H1
def aWN{t:TE}(h:PC X op a b t)(h1:xz op b=Ff:=by first|exact aI3 _ (·) (·)|rfl):PE X (.Compare a [op] [b] pos) t:=λ aB s σ H Q I hw=>wpAny_Compare1 (h aB s σ H Q I hw) h1
def aVn{t:TE}(h:PC X op a b t)(h1:xz op b=Ff:=by first|exact aI3 _ (·) (·)|rfl):PT X (.Compare a [op] [b] pos) (tB t):=by intro aB s σ H Q I hw;refine wpAny_isTrue_Compare1 (bJ (h aB s σ H _ I hw) λ v s1 h1=>bJ h1 λ u s2 h2=>bJ h2 λ c s3 hPq2=>?_) h1;let(x,H1,I1,r1,q1):=hPq2;let(d,rfl,q):=q1;cases r1;exact xu (H1,I1,q,)
def aNT(t u:TT):TT:=λ σ H Q=>t σ H λ c H1=>if c=Tt then u σ H1 Q else Q Ff H1
def tOr(t u:TT):TT:=λ σ H Q=>t σ H λ c H1=>if c=Tt then Q Tt H1 else u σ H1 Q
def bBl(t:TT):TT:=λ σ H Q=>t σ H λ c H1=>Q (!c) H1
def aTt{tA:TT}(ha:PT X a tA):PW X (.BoolOp .And [a] pos) tA:=by
 intro wh aB s σ H Q I h;refine isTrue_and (bJ (ha aB s σ H Q I h) λ c s1 e=>?_);cases c with
 |true=>exact isTrue_and_nil e|false=>exact e
def aXi{tA:TT}(ha:PT X a tA):PW X (.BoolOp .Or [a] pos) tA:=by
 intro wh aB s σ H Q I h;refine isTrue_or (bJ (ha aB s σ H Q I h) λ c s1 e=>?_);cases c with
 |false=>exact isTrue_or_nil e|true=>exact e
def aMe{tA tB':TT}{cM:List qy}(ha:PT X a tA)(hb:PW X (.BoolOp .And (b::cM) pos) tB'):PW X (.BoolOp .And (a::b::cM) pos) (aNT tA tB'):=by
 intro wh aB s σ H Q I h;refine isTrue_and (bJ (ha aB s σ H _ I h) λ c s1 hPq3=>?_);let(H1,I1,q1):=hPq3;cases c with
 |true=>exact hb wh aB s1 σ H1 Q I1 q1|false=>exact(H1,I1,q1,)
def aMz{tA tB':TT}{cM:List qy}(ha:PT X a tA)(hb:PW X (.BoolOp .Or (b::cM) pos) tB'):PW X (.BoolOp .Or (a::b::cM) pos) (tOr tA tB'):=by
 intro wh aB s σ H Q I h;refine isTrue_or (bJ (ha aB s σ H _ I h) λ c s1 hPq4=>?_);let(H1,I1,q1):=hPq4;cases c with
 |true=>exact(H1,I1,q1,)|false=>exact hb wh aB s1 σ H1 Q I1 q1
def aXP{tA:TT}(ha:PT X a tA):PT X (.UnaryOp .Not a pos) (bBl tA):=by intro aB s σ H Q I h;exact isTrue_not (ha aB s σ H (λ c H1=>Q (!c) H1) I h)
def aMq(ta tb:TE):TE:=λ σ H Q=>ta σ H λ x H1=>∃ c,x=.bl c/\if c=Tt then tb σ H1 Q else Q (.bl Ff) H1
def aNY(ta tb:TE):TE:=λ σ H Q=>ta σ H λ x H1=>∃ c,x=.bl c/\if c=Tt then Q (.bl Tt) H1 else tb σ H1 Q
def aY7(ta:TE):TE:=λ σ H Q=>ta σ H λ x H1=>∃ c,x=.bl c/\Q (.bl (!c)) H1
def aLe{op}{t:TE}(h:PE X a t):PE X (.BoolOp op [a] pos) t:=λ aB s σ H Q I hw=>BoolOp_one (h aB s σ H Q I hw)
def aLO{ta tb:TE}{cM:List qy}(ha:PE X a ta)(hb:PE X (.BoolOp .And (b::cM) pos) tb):PE X (.BoolOp .And (a::b::cM) pos) (aMq ta tb):=by
 intro aB s σ H Q I h;refine BoolOp_and (bJ (ha aB s σ H _ I h) λ v s1 hPq5=>?_);let(x,H1,I1,r1,q1):=hPq5;let(c,rfl,q1):=q1;cases r1;refine xu ?_;cases c with
 |true=>exact hb aB s1 σ H1 Q I1 q1|false=>exact(.bl Ff,H1,I1,rfl,q1,)
def aNd{ta tb:TE}{cM:List qy}(ha:PE X a ta)(hb:PE X (.BoolOp .Or (b::cM) pos) tb):PE X (.BoolOp .Or (a::b::cM) pos) (aNY ta tb):=by
 intro aB s σ H Q I h;refine BoolOp_or (bJ (ha aB s σ H _ I h) λ v s1 hPq6=>?_);let(x,H1,I1,r1,q1):=hPq6;let(c,rfl,q1):=q1;cases r1;refine xu ?_;cases c with
 |false=>exact hb aB s1 σ H1 Q I1 q1|true=>exact(.bl Tt,H1,I1,rfl,q1,)
def aYj{ta:TE}(ha:PE X a ta):PE X (.UnaryOp .Not a pos) (aY7 ta):=by intro aB s σ H Q I h;refine UnaryOp_ (bJ (ha aB s σ H _ I h) λ v s1 hPq7=>?_);let(x,H1,I1,r1,q1):=hPq7;let(c,rfl,q1):=q1;cases r1;exact not_of (xu (.bl (!c),H1,I1,rfl,q1,))
def tIf(t:TT)(ta tb:TE):TE:=λ σ H Q=>t σ H λ c H1=>if c=Tt then ta σ H1 Q else tb σ H1 Q
def aR5{ta tb:TE}{tA:TT}(hc:PT X c tA)(ha:PE X a ta)(hb:PE X b tb):PE X (.IfExp c a b pos) (tIf tA ta tb):=by
 intro aB s σ H Q I h;refine wpAny_IfExp (bJ (hc aB s σ H _ I h) λ d s1 hPq8=>?_);let(H1,I1,q1):=hPq8;cases d with
 |true=>exact ha aB s1 σ H1 Q I1 q1|false=>exact hb aB s1 σ H1 Q I1 q1
end L2
namespace L2
open PySem PySem.Spec PyProof.Rows
def cI(K:FrG)(H:Hp)(a:qw)(xs:Li V):Prop:=
 Rd H a (.lst xs) \/
  ∃ (o:Obj) (aI:Array qx) (n:Nat),K.lookup a=qz o/\o.cls=.type "list" /\ o.dict=qj/\o.data=.seq aI n/\aI.size<=qk/\bF xs aI.toList
def cZ(K:FrG)(H:Hp)(a:qw)(xs:Li V):Prop:=
 Rd H a (.tup xs) \/
  ∃ (o:Obj) (aI:Array qx) (n:Nat),K.lookup a=qz o/\o.cls=.type "tuple" /\ o.data=.seq aI n/\aI.size<=qk/\bF xs aI.toList
def bBP:qx->Oz V
 |.none=>qz .non|.bool b=>qz (.bl b)|.int i _=>qz (.int i)|.str x _=>qz (.str x)|.bytes b _=>qz (.byt b)|.float b _=>qz (.flt b)|.ref a=>qz (.ref a)|.type n=>qz (.ty n)|_=>qj
def bB.abs(r:bB x u):bBP u=qz x:=by
 cases x with
 |non=>cases r;rfl|bl _=>cases r;rfl
 |int _=>let(t,rfl):=r;rfl
 |str _=>let(t,rfl):=r;rfl
 |byt _=>let(t,rfl):=r;rfl
 |flt _=>let(t,rfl):=r;rfl
 |ref _=>cases r;rfl|ty _=>cases r;rfl
def bB.inj(r:bB x u)(q:bB y u):x=y:=Option.some.inj (r.abs.symm.trans q.abs)
def bF.inj:∀ {xs ys:Li V}{us:List qx},bF xs us->bF ys us->xs=ys
 |_,_,_,.nil,.nil=>rfl|_,_,_,.cons r t,.cons r' t'=>by rw[r.inj r',bF.inj t t']
variable {K:FrG}
section
variable {X:Cx}{aB:List (qw×Obj)}{σ:St}{H:Hp}{s:qv}{a:qw}{xs ys:List V}
def cI.of(h:H a=qz (.lst xs)):cI K H a xs:=.inl (.inl h)
def cZ.of(h:H a=qz (.tup xs)):cZ K H a xs:=.inl (.inl h)
def Inv.list(I:Inv X aB σ H s)(h:cI X.K H a xs):∃ aI:List qx,bF xs aI/\PlainL s.heap a aI.toArray/\↑xs<=qk:=by
 rcases h with h|⟨o,aI,n,hk,hc,hd,hs,hz,r⟩
 .let(z,aI,n,r,e):=h.ok I.hok;exact(aI,r,(_,n,e,rfl,rfl,rfl,),z,)
 .refine(aI.toList,r,(o,n,I.kIn a o hk,hc,hd,by simpa using hs,),?_,);have e:=r.length;simp_all
def Inv.tuple(I:Inv X aB σ H s)(h:cZ X.K H a xs):∃ aI:List qx,bF xs aI/\IsTup s.heap a aI.toArray/\↑xs<=qk:=by
 rcases h with h|⟨o,aI,n,hk,hc,hs,hz,r⟩
 .let(z,aI,r,p):=h.ok I.hok;exact(aI,r,p,z,)
 .refine(aI.toList,r,(o,I.kIn a o hk,hc,n,by simpa using hs,),?_,);have e:=r.length;simp_all
def Inv.list_inj(I:Inv X aB σ H s)(h:cI X.K H a xs)(h':cI X.K H a ys):xs=ys:=by
 let(aI,r,(o,n,e,_,_,d),_):=I.list h;let(its',r',(o',n',e',_,_,d'),_):=I.list h';rw[e] at e';cases e';rw[d] at d';injection d' with d1 _
 have:aI=its':=by simp_all
 subst this;exact r.inj r'
def Inv.tuple_inj(I:Inv X aB σ H s)(h:cZ X.K H a xs)(h':cZ X.K H a ys):xs=ys:=by
 let(aI,r,(o,e,_,n,d),_):=I.tuple h;let(its',r',(o',e',_,n',d'),_):=I.tuple h';rw[e] at e';cases e';rw[d] at d';injection d' with d1 _
 have:aI=its':=by simp_all
 subst this;exact r.inj r'
end
noncomputable abbrev Cx.wish(X:Cx)(E:qx->qv->Prop):Cx:={X with xe:=E }
noncomputable abbrev Cx.nox(X:Cx):Cx:=X.wish λ _ _=>False
variable {X:Cx}
def Cx.Ok.wish(ok:X.Ok)(E:qx->qv->Prop):(X.wish E).Ok:=
 (ok.mod,ok.kind,ok.glob,ok.blt,ok.above,ok.inj,ok.has,ok.cab,ok.hd,ok.frames,ok.stk,ok.exf,ok.bs,ok.bsz,ok.noex,ok.exfs,ok.funs,ok.frf,)
def Cx.Ok.unwish{E:qx->qv->Prop}(ok:(X.wish E).Ok):X.Ok:=
 (ok.mod,ok.kind,ok.glob,ok.blt,ok.above,ok.inj,ok.has,ok.cab,ok.hd,ok.frames,ok.stk,ok.exf,ok.bs,ok.bsz,ok.noex,ok.exfs,ok.funs,ok.frf,)
section
variable {X:Cx}{aB:List (qw×Obj)}{σ:St}{H:Hp}{s:qv}{E:qx->qv->Prop}
def Inv.wish(I:Inv X aB σ H s)(E:qx->qv->Prop):Inv (X.wish E) aB σ H s:=(I.ok.wish E,I.os,I.bare,I.base,I.loc,I.cell,I.free,I.freeC,I.pin,I.hok,I.len,)
def Inv.unwish(I:Inv (X.wish E) aB σ H s):Inv X aB σ H s:=(I.ok.unwish,I.os,I.bare,I.base,I.loc,I.cell,I.free,I.freeC,I.pin,I.hok,I.len,)
def SP.unwish{D:Ends}(h:SP (X.wish E) aB D f s'):SP X aB D f s':=by
 cases f with
 |next=>let(σ',H',I,q):=h;exact(σ',H',I.unwish,q,)
 |brk=>let(σ',H',I,q):=h;exact(σ',H',I.unwish,q,)
 |cont=>let(σ',H',I,q):=h;exact(σ',H',I.unwish,q,)
 |ret u=>let(v,σ',H',I,r,q):=h;exact(v,σ',H',I.unwish,r,q,)
def eQ.nox{st:List xk}{t:TS}(h:eQ X.nox st t):eQ X st t:=λ aB s σ H D I hw=>
 wpAny_mono (h aB s σ H D (I.wish _) hw) (λ _ _ q=>q.unwish) λ _ _ z=>False.elim z
end
def aNi:TS:=λ D σ H=>D.nx σ H
def aNv(t u:TS):TS:=λ D σ H=>t {D with nx:=u D } σ H
def aKm:eQ X [] aNi:=λ _ _ σ H _ I h=>wpAny_execs_nil (σ,H,I,h,)
def aIQ{st:xk}{cM:List xk}{t u:TS}(h1:PS X st t)(h2:eQ X cM u):eQ X (st::cM) (aNv t u):=by
 intro aB s σ H D I h;refine wpAny_execs_cons (bJ (h1 aB s σ H {D with nx:=u D } I h) λ f s1 q=>?_);cases f with
 |next=>
   let(σ',H',I',q):=q;exact h2 aB s1 σ' H' D I' q
 |ret v=>exact q|brk=>exact q|cont=>exact q
def Inv.quiet(I:Inv X aB σ H s):interactive X.env=Ff:=by simp[interactive,I.ok.kind]
def bAd(te:TE):TS:=λ D σ H=>te σ H λ _ H1=>D.nx σ H1
def aTE{te:TE}{pos:Pos}(he:PE X e te)(hs:swapsWith e qj pos.line X.env=pure Ff:=by rfl):PS X (.Expr e pos) (bAd te):=by intro aB s σ H D I h;exact wpAny_Expr_any (bJ (he aB s σ H _ I h) λ v s1 ⟨x,H1,I1,r1,q1⟩=>(σ,H1,I1,q1,)) I.quiet hs
def bBL(te:TE):TS:=λ D σ H=>te σ H D.rt
def aXW{te:TE}(he:PE X e te):PS X (.Return (qz e) pos) (bBL te):=by intro aB s σ H D I h;exact wpAny_Return_some (bJ (he aB s σ H _ I h) λ v s1 ⟨x,H1,I1,r1,q1⟩=>(x,σ,H1,I1,r1,q1,))
def bBi(c:TT)(t u:TS):TS:=λ D σ H=>c σ H λ b H1=>if b=Tt then t D σ H1 else u D σ H1
def bAH{tc:TT}(hc:PT X c tc)(ha:eQ X a t)(hb:eQ X b u):PS X (.If c a b pos) (bBi tc t u):=by
 intro aB s σ H D I h;refine wpAny_If (bJ (hc aB s σ H _ I h) λ d s1 hPq9=>?_);let(H1,I1,q1):=hPq9;cases d with
 |true=>exact ha aB s1 σ H1 D I1 q1|false=>exact hb aB s1 σ H1 D I1 q1
abbrev TG:=V->St->Hp->(St->Hp->Prop)->Prop
abbrev kB:=List V->St->Hp->(St->Hp->Prop)->Prop
def PG(X:Cx)(target:qy)(t:TG):Prop:=
 ∀ (aB:Li (qw×Obj)) (s:qv) (σ:St) (H:Hp) (v:V) (u:qx) (Q:St->Hp->Prop),Inv X aB σ H s->bB v u->t v σ H Q ->
  qu (model X.prog X.w) X.A (assign target X.env u) (λ _ s'=>∃ σ' H',Inv X aB σ' H' s'/\Q σ' H') X.xe s
def sJ(X:Cx)(ts:List qy)(t:kB):Prop:=
 ∀ (aB:Li (qw×Obj)) (s:qv) (σ:St) (H:Hp) (vs:Li V) (us:List qx) (Q:St->Hp->Prop),Inv X aB σ H s->bF vs us->t vs σ H Q ->
  qu (model X.prog X.w) X.A (assignInOrder ((zo ts X.env).map (·.2)) us) (λ _ s'=>∃ σ' H',Inv X aB σ' H' s'/\Q σ' H') X.xe s
abbrev aFP:=V->V->V->Hp->(Hp->Prop)->Prop
def aNW(X:Cx)(t:aFP):Prop:=
 ∀ (aB:Li (qw×Obj)) (s:qv) (σ:St) (H:Hp) (o i v:V) (ov iv u:qx) (Q:Hp->Prop),Inv X aB σ H s->bB o ov->bB i iv->bB v u->t o i v H Q ->
  qu (model X.prog X.w) X.A (setItem ov iv u) (λ _ s'=>∃ H',Inv X aB σ H' s'/\Q H') X.xe s
def pY(i:Nat):TG:=λ v σ H Q=>Q (σ.set i (qz v)) H
def aDM(hN:X.N.Nodup)(hi:X.N[i]?=qz x)(hx:Loc X.env.scope x)(hf:X.fn x=Tt\/X.env.scope.names.lookup x=qz .local:=by first|exact .inl rfl|exact .inr rfl|assumption):PG X (.Name x pos) (pY i):=by intro aB s σ H v u Q I r h;exact wpAny_assign_Name (aJi I hN hi hx r (λ s' I'=>(_,H,I',h,)) hf)
def aFF:kB:=λ vs σ H Q=>vs=[]/\Q σ H
def aFn(t:TG)(u:kB):kB:=λ vs σ H Q=>∃ v r,vs=v::r/\t v σ H λ σ' H'=>u r σ' H' Q
def aTL:sJ X [] aFF:=by intro aB s σ H vs us Q I r h;let(e,h):=h;subst e;cases r;exact assignInOrder_nil (σ,H,I,h,)
def aSG(h1:PG X e t)(h2:sJ X es u)(hs:(zo (e::es) X.env).map (·.2)=assign e X.env::(zo es X.env).map (·.2):=by rfl):sJ X (e::es) (aFn t u):=by
 intro aB s σ H vs us Q I r h;let(v,vr,e1,h):=h;subst e1;cases r with
 |cons r rr=>
   rw[hs];refine assignInOrder_cons (bJ (h1 aB s σ H _ _ _ I r h) λ _ s1 hPq10=>?_);let(σ1,H1,I1,q1):=hPq10;exact h2 aB s1 σ1 H1 _ _ Q I1 rr q1
def bBd(K:FrG)(n:Nat)(t:kB):TG:=λ v σ H Q=>∃ a xs,v=.ref a/\cZ K H a xs/\↑xs=n/\t xs σ H Q
def aWe{pos:Pos}{es:List qy}{k:Nat}{t:kB}{n:Nat}(hc:X.calm=Tt)(h:sJ X es t)
 (hn:(zo es X.env).length=n:=by rfl) (hst:(zo es X.env).findIdx? (·.1)=qj:=by rfl):PG X (.Tuple es k pos) (bBd X.K n t):=by
 intro aB s σ H v u Q I r hw;let(a,xs,e1,hq,hl,hw):=hw;subst e1;cases r;let(aI,rv,ht,hz):=I.tuple hq;refine assign_Tuple_tuple (I.ok.hd hc) ht (by simp[hn,<- hl,rv.length]) hst λ h' hx=>?_
 have I1:Inv X aB σ H {s with heap:=h' }:=I.kept (t':=s.toks) λ b o e=>hx b o (xAj (xAa e)) e
 exact h aB _ σ H xs _ Q I1 (rv:) hw
def aOc(to ti:TE)(t:aFP):TG:=λ v σ H Q=>to σ H λ o H1=>ti σ H1 λ i H2=>t o i v H2 λ H3=>Q σ H3
def aWX{to ti:TE}(ho:PE X o to)(hi:PE X i ti)(hs:aNW X t)(ha:∀ v,assign (.Subscript o i pos) X.env v=(do
   let ov <- holding [v] (eval o X.env);let iv <- holding [v,ov] (eval i X.env)
   standAt pos
   holding [v,ov,iv] (setItem ov iv v)
   release [v,ov,iv] []):=by intro _;rfl):PG X (.Subscript o i pos) (aOc to ti t):=by intro aB s σ H v u Q I r h;rw[ha];refine wB (zu (bJ (ho aB s σ H _ I h) λ ov s1 hPq11=>?_));let(x,H1,I1,r1,q1):=hPq11;refine wB (zu (bJ (hi aB s1 σ H1 _ I1 q1) λ iv s2 hPq12=>?_));let(y,H2,I2,r2,q2):=hPq12;refine wB (yq (wB (zu (bJ (hs aB s2 σ H2 x y v ov iv u _ I2 r1 r2 r q2) λ _ s3 hPq13=>?_))));let(H3,I3,q3):=hPq13;exact wpAny_release (σ,H3,I3,q3,)
def aAc(te:TE)(g:TG):TS:=λ D σ H=>te σ H λ x H1=>g x σ H1 D.nx
def aLH{pos:Pos}{te:TE}(he:PE X e te)(hg:PG X tg g)(hs:swapsWithSole [tg] e pos.line X.env=pure Ff:=by rfl)(hw:wu [tg] e X.env=pure qj:=by rfl)(h1:(zo [tg] X.env).map (·.2)=[assign tg X.env]:=by rfl):PS X (.Assign [tg] e pos) (aAc te g):=by intro aB s σ H D I h;refine wpAny_Assign_stores (bJ (he aB s σ H _ I h) λ v s1 hPq14=>?_) hs hw;let(x,H1,I1,r1,q1):=hPq14;rw[h1];exact bJ (hg aB s1 σ H1 x v _ I1 r1 q1) λ _ s2 q=>q
def aVt{pos:Pos}{te:TE}(hN:X.N.Nodup)(hi:X.N[i]?=qz x)(hx:Loc X.env.scope x)(he:PE X e te)(hs:swapsWith e (qz (.Name x pos')) pos.line X.env=pure Ff:=by rfl)(hf:X.fn x=Tt\/X.env.scope.names.lookup x=qz .local:=by first|exact .inl rfl|exact .inr rfl|assumption) :
 PS X (.Assign [.Name x pos'] e pos) (aAc te (pY i)):=by intro aB s σ H D I h;refine wpAny_Assign_Name (bJ (he aB s σ H _ I h) λ v s1 hPq15=>?_) hs;let(y,H1,I1,r1,q1):=hPq15;exact aJi I1 hN hi hx r1 (λ s2 I2=>(_,H1,I2,q1,)) hf
structure It where
 go:Nat->Hp->Prop
 yld:Nat->Hp->V->Hp->Prop
 stop:Nat->Hp->Prop
def gW(X:Cx)(aB:Li (qw×Obj))(H:Hp)(b:qw):Prop:=
 H b=qj/\b≠X.env.locals/\b ∉ X.fs/\(b∈X.ex\/X.s₀.heap.objs.size<=b)/\(∀ x c,X.env.cells.lookup x=qz c->c≠b)/\∀ p∈X.pn++aB,p.1≠b
def Inv.fpOk(I:Inv X aB σ H s)(hb:s.heap.objs.size<=b)(hn:H' b=qj):gW X aB H' b:=by
 refine(hn,yHc (xAb I.lt hb),I.nofs hb,.inr (xAh I.sz hb),λ x c e z=>?_,λ p hp z=>?_,)
 .let(v,q):=I.cell x c e;exact absurd (xAb q.lt (by rw[z];exact hb)) (yCm _)
 .exact absurd (xAb (xAa (I.pin p hp).1) (by rw[z];exact hb)) (yCm _)
structure Turn(P:zq)(w:zj)(K:FrG)(tg:qy)(J:It)(fp:List qw)(it:qw)(tn:Nat->Heap->Prop):Prop where
 mem:it∈fp
 obj:∀ i h,tn i h->∀ b∈fp,∃ o,h.get? b=qz o/\∀ v,o.data≠.cell v
 keep:∀ i h h',tn i h->(∀ b∈fp,∀ o,h.get? b=qz o->h'.get? b=qz o)->tn i h'
 item:∀ (X:Cx),X.prog=P->X.w=w->X.K=K->X.calm=Tt->∀ (i:Nat) (aB:List (qw×Obj)) (s:qv) (σ:St) (H:Hp) (E:qx->qv->Prop),Inv X aB σ H s->(∀ b∈fp,gW X aB H b)->tn i s.heap->J.go i H ->
  qu (model P w) X.A (yj (.ref it)) (λ r s1=>∃ u,r=qz u /\
   qu (model P w) X.A (vy tg (.ref it) u) (λ _ s2=>∃ x H',Inv X aB σ H' s2/\bB x u/\J.yld i H x H'/\tn (i+1) s2.heap/\∀ b∈fp,H' b=qj) E s1) E s
 done:∀ (X:Cx),X.prog=P->X.w=w->X.K=K->X.calm=Tt->∀ (i:Nat) (aB:List (qw×Obj)) (s:qv) (σ:St) (H:Hp) (E:qx->qv->Prop),Inv X aB σ H s->(∀ b∈fp,gW X aB H b)->tn i s.heap->J.stop i H ->
  qu (model P w) X.A (yj (.ref it)) (λ r s1=>r=qj/\Inv X aB σ H s1) E s
 self:∀ (A:zv) (i:Nat) (s:qv) (Q:qx->qv->Prop) (E:qx->qv->Prop),tn i s.heap->Q (.ref it) s->qu (model P w) A (pyIter (.ref it)) Q E s
abbrev TI:=St->Hp->(It->Hp->Prop)->Prop
def PIE(X:Cx)(aB:Li (qw×Obj))(σ:St)(tg:qy)(R:It->Hp->Prop)(itv:qx)(s2:qv):Prop:=
 ∃ (it:qw) (fp:List qw) (tn:Nat->Heap->Prop) (J:It) (H':Hp),itv=.ref it/\Inv X aB σ H' s2/\Turn X.prog X.w X.K tg J fp it tn/\tn 0 s2.heap/\(∀ b∈fp,gW X aB H' b)/\R J H'
def PI(X:Cx)(tg iter:qy)(wi:TI):Prop:=
 ∀ (aB:Li (qw×Obj)) (s:qv) (σ:St) (H:Hp) (R:It->Hp->Prop),Inv X aB σ H s->wi σ H R ->
  qu (model X.prog X.w) X.A (eval iter X.env) (λ v s1=>qu (model X.prog X.w) X.A (pyIter v) (PIE X aB σ tg R) X.xe s1) X.xe s
def aB5{E:qx->qv->Prop}{s:qv}{Q:Unit->qv->Prop}(ho:s.heap.get? it=qz o)(hc:o.cls=.type n)(hd:o.data=.fields vs)(hn:["enumerate","zip","dict_itemiterator","dict_reverseitemiterator","odict_iterator","itertools.zip_longest","itertools.pairwise"].contains n=Ff)(hQ:Q () s):qu M A (vy tg (.ref it) u) Q E s:=by
 unfold vy;cases tg<;>first
  |exact wP hQ
  | (cases u<;>first
      |exact wP hQ
      | (refine wB (wpAny_load ho ?_)
         rw[hc,hd];show qu M A (if (["enumerate","zip","dict_itemiterator","dict_reverseitemiterator","odict_iterator","itertools.zip_longest","itertools.pairwise"].contains n&&vs[0]?==qz (yx _))=Tt then _ else _) Q E s;rw[if_neg (by intro h;rw[hn,yAx] at h;cases h)]
         exact wP hQ))
def Itl(K:FrG)(a:qw):It:=
 (λ i H=>∃ xs x,cI K H a xs/\xs[i]?=qz x,λ i H x H'=>H'=H/\∀ xs,cI K H a xs->xs[i]?=qz x,λ i H=>∃ xs,cI K H a xs/\↑xs<=i,)
def Itt(K:FrG)(a:qw):It:=
 (λ i H=>∃ xs x,cZ K H a xs/\xs[i]?=qz x,λ i H x H'=>H'=H/\∀ xs,cZ K H a xs->xs[i]?=qz x,λ i H=>∃ xs,cZ K H a xs/\↑xs<=i,)
def Itr(lo:Int)(n:Nat):It:=(λ i _=>i<n,λ i H x H'=>H'=H/\x=.int (lo+i),λ i _=>n<=i,)
def aQp(a it:qw):Turn P w K tg (Itl K a) [it] it (λ i h=>h.IsListIter it a i) where
 mem:=by simp
 obj:=λ i h st b hb=>by
  have e:b=it:=(hb:)
  subst e;let(o,e,c,d):=st;simp_all
 keep:=λ i h h' st k=>st.at λ o e=>k it (by simp) o e
 item:=by
  intro X hP hw hK hc i aB s σ H E I hf st hg;subst hP hw hK;let(xs,x,hq,hx):=hg;let(aI,rv,p,hz):=I.list hq;let(u,hu,ru):=rv.get hx;let(f0,f1,f2,f3,f4,f5):=hf it (by simp);refine vv st p.isList (x:=u) (hu:) λ h' st' sb=>?_
  have I1:Inv X aB σ H {s with heap:=h' }:=I.turned (t':=s.toks) (λ b o hb e=>(sb.2 b hb).trans e) f0 f1 f3 f4 f5;let(o,e,c,d):=id st';exact(u,rfl,aB5 (s:={s with heap:=h' }) e c d (·) (x,H,I1,ru,(rfl,λ ys hy=>by rw[I.list_inj hy hq];exact hx,),st',λ b hb=>(hf b hb).1,),)
 done:=by
  intro X hP hw hK hc i aB s σ H E I hf st hg;subst hP hw hK;let(xs,hq,hx):=hg;let(aI,rv,p,hz):=I.list hq;let(f0,f1,f2,f3,f4,f5):=hf it (by simp);have hl:=rv.length;exact vw (I.ok.hd hc) st p.isList (by simp;omega) λ h' eb=>(rfl,I.turned (t':=s.toks) (λ b o hb e=>eb b o hb e) f0 f1 f3 f4 f5,)
 self:=λ _ _ _ _ _ st h=>wpAny_pyIter_listiter st h
def aPR(a it:qw):Turn P w K tg (Itt K a) [it] it (λ i h=>h.IsTupleIter it a i) where
 mem:=by simp
 obj:=λ i h st b hb=>by
  have e:b=it:=(hb:)
  subst e;let(o,e,c,d):=st;simp_all
 keep:=λ i h h' st k=>st.at λ o e=>k it (by simp) o e
 item:=by
  intro X hP hw hK hc i aB s σ H E I hf st hg;subst hP hw hK;let(xs,x,hq,hx):=hg;let(aI,rv,p,hz):=I.tuple hq;let(u,hu,ru):=rv.get hx;let(f0,f1,f2,f3,f4,f5):=hf it (by simp);refine wpAny_pyNext_tuple_item st (show s.heap.IsTuple a aI.toArray from p) (x:=u) (hu:) λ h' st' sb=>?_
  have I1:Inv X aB σ H {s with heap:=h' }:=I.turned (t':=s.toks) (λ b o hb e=>(sb.2 b hb).trans e) f0 f1 f3 f4 f5;let(o,e,c,d):=id st';exact(u,rfl,aB5 (s:={s with heap:=h' }) e c d (·) (x,H,I1,ru,(rfl,λ ys hy=>by rw[I.tuple_inj hy hq];exact hx,),st',λ b hb=>(hf b hb).1,),)
 done:=by
  intro X hP hw hK hc i aB s σ H E I hf st hg;subst hP hw hK;let(xs,hq,hx):=hg;let(aI,rv,p,hz):=I.tuple hq;let(f0,f1,f2,f3,f4,f5):=hf it (by simp);have hl:=rv.length;exact wpAny_pyNext_tuple_end (I.ok.hd hc) st (show s.heap.IsTuple a aI.toArray from p) (by simp;omega) λ h' eb=>(rfl,I.turned (t':=s.toks) (λ b o hb e=>eb b o hb e) f0 f1 f3 f4 f5,)
 self:=λ _ _ _ _ _ st h=>wpAny_pyIter_tupleiter st h
def aPU(it:qw)(lo:Int)(n:Nat):Turn P w K tg (Itr lo n) [it] it (λ i h=>yw h it (lo+(i:Nat)*1) ((n:Int)-(i:Nat)) 1) where
 mem:=by simp
 obj:=λ i h st b hb=>by
  simp_all
 keep:=λ i h h' st k=>k it (by simp) _ st
 item:=by
  intro X hP hw hK hc i aB s σ H E I hf st hg;subst hP hw hK;let(f0,f1,f2,f3,f4,f5):=hf it (by simp);have W:=Walks.range (prog:=X.prog) (w:=X.w) (I.ok.hd hc) it lo 1 n;refine W.item i s _ _ hg st λ v h' tk hv st' kk=>?_
  let(t,rfl):=hv;have I1:Inv X aB σ H {s with heap:=h',toks:=tk }:=I.turned (λ b o hb e=>kk b o (hb:) e) f0 f1 f3 f4 f5;refine(_,rfl,aB5 (s:={s with heap:=h',toks:=tk }) (n:="range_iterator") st' rfl rfl (·) (.int (lo+i),H,I1,(t,?_,),(rfl,rfl,),st',λ b hb=>(hf b hb).1,),);rw[Int.mul_one]
 done:=by
  intro X hP hw hK hc i aB s σ H E I hf st hg;subst hP hw hK;let(f0,f1,f2,f3,f4,f5):=hf it (by simp);exact wpAny_pyNext_range_end (I.ok.hd hc) st (by have:n<=i:=hg;omega) λ h' eb=>(rfl,I.turned (t':=s.toks) (λ b o hb e=>eb b o hb e) f0 f1 f3 f4 f5,)
 self:=λ _ _ _ _ _ st h=>yv st h
end L2
namespace L2
open PySem PySem.Spec PyProof.Rows
def bAS(K:FrG)(tl:TE):TI:=λ σ H R=>tl σ H λ x H1=>∃ a,x=.ref a/\(∃ xs,cI K H1 a xs)/\R (Itl K a) H1
def bBJ(K:FrG)(tl:TE):TI:=λ σ H R=>tl σ H λ x H1=>∃ a,x=.ref a/\(∃ xs,cZ K H1 a xs)/\R (Itt K a) H1
def aUf{tl:TE}(hl:PE X l tl):PI X tg l (bAS X.K tl):=by
 intro aB s σ H R I h;refine bJ (hl aB s σ H _ I h) λ v s1 hPq16=>?_
 let(x,H1,I1,r1,q1):=hPq16;let(a,e,(xs,hq),q):=q1;subst e;cases r1;let(aI,rv,p,hz):=I1.list hq;refine jv p.isList ?_;refine(s1.heap.objs.size,[s1.heap.objs.size],_,_,H1,rfl,I1.kept (t':=s1.toks) λ b o e=>hpS _ e,aQp a _,(_,xAd _ rfl,rfl,rfl,),λ b hb=>?_,q,);have e:b=s1.heap.objs.size:=(hb:)
 subst e;exact I1.fpOk (yAc _) (I1.hok.fresh (yAc _))
def aVH{tl:TE}(hl:PE X l tl):PI X tg l (bBJ X.K tl):=by
 intro aB s σ H R I h;refine bJ (hl aB s σ H _ I h) λ v s1 hPq17=>?_
 let(x,H1,I1,r1,q1):=hPq17;let(a,e,(xs,hq),q):=q1;subst e;cases r1;let(aI,rv,p,hz):=I1.tuple hq;refine wpAny_pyIter_tuple (show s1.heap.IsTuple a aI.toArray from p) ?_;refine(s1.heap.objs.size,[s1.heap.objs.size],_,_,H1,rfl,I1.kept (t':=s1.toks) λ b o e=>hpS _ e,aPR a _,(_,xAd _ rfl,rfl,rfl,),λ b hb=>?_,q,);have e:b=s1.heap.objs.size:=(hb:)
 subst e;exact I1.fpOk (yAc _) (I1.hok.fresh (yAc _))
def aIY{R:It->Hp->Prop}{E:qx->qv->Prop}{lo hi:Int}(I:Inv X aB σ H s)(h1 : -(2^62)<=lo)(h2:lo<2^62)(h3 : -(2^62)<=hi)(h4:hi<2^62)(q:R (Itr lo (hi-lo).toNat) H):qu (model X.prog X.w) X.A (pyIter (.ref s.heap.objs.size)) (PIE X aB σ tg R) E {s with heap:=s.heap.push {cls:=.type "range",data:=.fields #[.int lo t,.int hi u,.int 1 v] },toks:=tk }:=by
 refine wpAny_pyIter_range (IsRange.new ..) (small_one h1 h2 h3 h4) ?_;have I1:Inv X aB σ H {s with heap:=s.heap.push {cls:=.type "range",data:=.fields #[.int lo t,.int hi u,.int 1 v] },toks:=tk }:=I.kept λ b o e=>hpS _ e
 refine⟨(s.heap.push {cls:=.type "range",data:=.fields #[.int lo t,.int hi u,.int 1 v] }).objs.size,[(s.heap.push {cls:=.type "range",data:=.fields #[.int lo t,.int hi u,.int 1 v] }).objs.size],_,_,H,rfl,
  I1.kept (t':=tk) λ b o e=>hpS _ e,aPU _ lo (hi-lo).toNat,?_,λ b hb=>?_,q⟩
 .have e1:lo+((0:Nat):Int)*1=lo:=by simp
  have e2:(((hi-lo).toNat:Nat):Int)-((0:Nat):Int)=yEl lo hi 1:=by rw[rangeSize_one];split<;>omega
  show yw _ _ (lo+((0:Nat):Int)*1) ((((hi-lo).toNat:Nat):Int)-((0:Nat):Int)) 1;rw[e1,e2];exact xAd _ rfl
 .have e:b=(s.heap.push {cls:=.type "range",data:=.fields #[.int lo t,.int hi u,.int 1 v] }).objs.size:=(hb:)
  subst e;exact I1.fpOk (yAc _) (I1.hok.fresh (yAc _))
def aMx(ta:TA):TI:=λ σ H R=>ta σ H λ vs H1=>∃ j:Int,vs=[.int j] /\ -(2^62)<=j/\j<2^62/\R (Itr 0 j.toNat) H1
def aMN(ta:TA):TI:=λ σ H R=>ta σ H λ vs H1=>∃ i j:Int,vs=[.int i,.int j]/\(-(2^62)<=i/\i<2^62 /\ -(2^62)<=j/\j<2^62)/\R (Itr i (j-i).toNat) H1
def aQd{ta:TA}(hg:Gl X "range")(hm:X.mg "range" = qj)(ha:PA X [a] ta)(hs:qo [a] X.env=[(Ff,eval a X.env)]:=by rfl):PI X tg (.Call (.Name "range" p) [a] [] pos) (aMx ta):=by
 intro aB s σ H R I h;refine Call_ (nT I hg hm boot_range (yBl (bJ (ha pos aB s σ H _ I h) λ us s1 hPq18=>?_) hs rfl));let(vs,H1,I1,r1,q1):=hPq18;let(j,e,q1,q2,q):=q1;subst e;cases r1 with
 |cons r rr=>
   cases rr;let(t,rfl):=r;exact call_range_1 (aIY I1 (!_) (!_) q1 q2 (q:))
def aQS{X:Cx}{tg:qy}{a b:qy}{ta:TA}{p pos:Pos}(hg:Gl X "range")(hm:X.mg "range" = qj)(ha:PA X [a,b] ta)(hs:qo [a,b] X.env=[(Ff,eval a X.env),(Ff,eval b X.env)]:=by rfl)(hs2:qo [b] X.env=[(Ff,eval b X.env)]:=by rfl) :
 PI X tg (.Call (.Name "range" p) [a,b] [] pos) (aMN ta):=by
 intro aB s σ H R I h;refine Call_ (nT I hg hm boot_range (yBl (bJ (ha pos aB s σ H _ I h) λ us s1 hPq19=>?_) (by rw[hs,hs2]) (by rw[hs2];rfl)));let(vs,H1,I1,r1,q1):=hPq19;let(i,j,e,(q1,q2,q3,q4),q):=q1;subst e;cases r1 with
 |cons r rr=>
   cases rr with
   |cons r' rr=>
     cases rr;let(t,rfl):=r;let(t',rfl):=r';exact call_range_2 (aIY I1 q1 q2 q3 q4 q)
def bBT(wi:TI)(g:TG)(tb:TS):TS:=λ D σ H=>wi σ H λ J H1=>∃ W:Nat->Nat->St->Hp->Prop,(∃ m,W 0 m σ H1)/\∀ i m σ H,W i m σ H ->
 (J.stop i H/\D.nx σ H)\/(J.go i H/\∃ N:St->Hp->Prop,(∀ σ' H',N σ' H'->∃ m',m'<m/\W (i+1) m' σ' H')/\∀ x H',J.yld i H x H'->g x σ H' λ σ2 H2=>tb {D with nx:=N,ct:=N,bk:=D.nx } σ2 H2)
def xM(fp:List qw)(h:Heap):Li (qw×Obj):=fp.filterMap λ b=>(h.get? b).map λ o=>(b,o)
def vQ{h:Heap}(hb:b∈fp)(e:h.get? b=qz o):(b,o)∈xM fp h:=List.mem_filterMap.mpr (b,hb,by rw[e];rfl,)
def aQe(hp:p∈xM fp h):p.1∈fp/\h.get? p.1=qz p.2:=by
 let(b,hb,e):=List.mem_filterMap.mp hp;cases q:h.get? b with
 |none=>rw[q] at e;cases e
 |some o=>
   rw[q] at e;have e':(b,o)=p:=Option.some.inj e;subst e';exact(hb,q,)
def Inv.pinned(I:Inv X aB σ H s)(hf:∀ b∈fp,gW X aB H b)(ho:∀ b∈fp,∃ o,s.heap.get? b=qz o/\∀ v,o.data≠.cell v):Inv X (aB++xM fp s.heap) σ H s:=
 I.pins_of λ p hp=>(List.mem_append.mp hp).elim (λ z=>I.pin p (xAp _ z)) λ z=>by
  let(hb,e):=aQe z;let(f0,f1,f2,_):=hf p.1 hb;let(o,e',d):=ho p.1 hb;rw[e] at e';cases e';exact(e,f0,f1,f2,d,)
def Inv.unpinned(I:Inv X (aB++pl) σ H s):Inv X aB σ H s:=I.pins_of λ p hp=>I.pin p (xAp _ (List.mem_append_left _ hp))
def aXs{X:Cx}{wi:TI}(hp:PassesOwn (model X.prog X.w) X.A X.env X.xe)(hc:X.calm=Tt)(hi:PI X tg iter wi)(hg:PG X tg g)(hb:eQ X body tb)(hs:∀ x,jq iter X.env x=pure x:=by intro _;rfl):PS X (.For tg iter body [] pos) (bBT wi g tb):=by
 intro aB s σ H D I h;refine wpAny_For (bJ (hi aB s σ H _ I h) λ v s1 h1=>bJ h1 λ itv s2 h2=>?_) hs;let(it,fp,tn,J,H2,e,I2,T,st2,f2,W,(m0,w0),turn):=h2;subst e;have stat:∀ {H':Hp},(∀ b∈fp,H' b=qj)->∀ b∈fp,gW X aB H' b:=λ hn b hb=>(hn b hb,(f2 b hb).2,)
 refine codeAny_forLoop_any (λ n s'=>∃ i σ' H',Inv X aB σ' H' s'/\tn i s'.heap/\(∀ b∈fp,H' b=qj)/\W i n σ' H') ?_ m0 ⟨0,σ,H2,I2,st2,λ b hb=>(f2 b hb).1,w0⟩;rintro n s3 ⟨i,σ3,H3,I3,st3,fr3,w3⟩;rcases turn i n σ3 H3 w3 with ⟨stop,qn⟩|⟨go,N,hN,step⟩
 .refine vz hp (bJ (T.done X rfl rfl rfl hc i aB s3 σ3 H3 X.xe I3 (stat fr3) st3 stop) λ r s4 hPq20=>?_);let(hr,I4):=hPq20;subst hr;exact wpAny_execs_nil (σ3,H3,I4,qn,)
 .refine vz hp (bJ (T.item X rfl rfl rfl hc i aB s3 σ3 H3 X.xe I3 (stat fr3) st3 go) λ r s4 hPq21=>?_);let(u,hr,h4):=hPq21;subst hr;refine vz hp (bJ h4 λ _ s5 hPq22=>?_);let(x,H5,I5,r5,y5,st5,fr5):=hPq22;have I5':=I5.pinned (stat fr5) (T.obj _ _ st5);refine vz hp (bJ (hg _ s5 σ3 H5 x u _ I5' r5 (step x H5 y5)) λ _ s6 hPq23=>?_);let(σ6,H6,I6,q6):=hPq23;refine vz hp (bJ (hb _ s6 σ6 H6 _ I6 q6) λ f s7 q7=>?_);have again:∀ {σ7:St}{H7:Hp},Inv X (aB++xM fp s5.heap) σ7 H7 s7->N σ7 H7->∃ m,m<n/\∃ i σ' H',Inv X aB σ' H' s7/\tn i s7.heap/\(∀ b∈fp,H' b=qj)/\W i m σ' H':=λ {σ7 H7} I7 n7=>by
   let(m',hm,w7):=hN σ7 H7 n7;refine(m',hm,i+1,σ7,H7,I7.unpinned,T.keep _ _ _ st5 λ b hb o e=>(I7.pin (b,o) (xAp _ (xAp _ (vQ hb e)))).1,λ b hb=>?_,w7,);let(o,e,d):=T.obj _ _ st5 b hb;exact(I7.pin (b,o) (xAp _ (xAp _ (vQ hb e)))).2.1
  cases f with
  |next=>let(σ7,H7,I7,n7):=q7;exact again I7 n7
  |cont=>let(σ7,H7,I7,n7):=q7;exact again I7 n7
  |brk=>let(σ7,H7,I7,q7):=q7;exact(σ7,H7,I7.unpinned,q7,)
  |ret v=>let(x7,σ7,H7,I7,r7,q7):=q7;exact(x7,σ7,H7,I7.unpinned,r7,q7,)
end L2
namespace L2
open PySem PySem.Spec PyProof.Rows
abbrev R2:=V->V->Hp->VK->Prop
def dY(X:Cx)(f:qx->qx->Sem qx)(r:R2):Prop:=
 ∀ (aB:Li (qw×Obj)) (s:qv) (σ:St) (H:Hp) (x y:V) (v u:qx) (Q:VK),Inv X aB σ H s->bB x v->bB y u->r x y H Q ->
  qu (model X.prog X.w) X.A (f v u) (EP X aB σ Q) X.xe s
def UnR(X:Cx)(f:qx->Sem qx)(r:V->Hp->VK->Prop):Prop:=
 ∀ (aB:Li (qw×Obj)) (s:qv) (σ:St) (H:Hp) (x:V) (v:qx) (Q:VK),Inv X aB σ H s->bB x v->r x H Q ->
  qu (model X.prog X.w) X.A (f v) (EP X aB σ Q) X.xe s
def gE(X:Cx)(f:qx)(r:Li V->Hp->VK->Prop):Prop:=
 ∀ (aB:Li (qw×Obj)) (s:qv) (σ:St) (H:Hp) (xs:Li V) (us:List qx) (Q:VK),Inv X aB σ H s->bF xs us->r xs H Q ->
  qu (model X.prog X.w) X.A (call f us) (EP X aB σ Q) X.xe s
def bAU(X:Cx)(r:V->Hp->(Bool->Hp->Prop)->Prop):Prop:=
 ∀ (aB:Li (qw×Obj)) (s:qv) (σ:St) (H:Hp) (x:V) (v:qx) (Q:Bool->Hp->Prop),Inv X aB σ H s->bB x v->r x H Q ->
  qu (model X.prog X.w) X.A (truthy v) (TP X aB σ Q) X.xe s
def tOp(r:R2)(ta tb:TE):TE:=λ σ H Q=>ta σ H λ x H1=>tb σ H1 λ y H2=>r x y H2 Q
def tUn(r:V->Hp->VK->Prop)(ta:TE):TE:=λ σ H Q=>ta σ H λ x H1=>r x H1 Q
def rI(C:Int->Int->Prop)(g:Int->Int->V):R2:=λ x y H Q=>∃ i j,x=.int i/\y=.int j/\C i j/\Q (g i j) H
def kR(g:Int->Int->V):R2:=λ x y H Q=>∃ i j,x=.int i/\y=.int j/\Q (g i j) H
def rU(g:Int->V):V->Hp->VK->Prop:=λ x H Q=>∃ i,x=.int i/\Q (g i) H
def aFW{ta tb:TE}(ha:PE X a ta)(hb:PE X b tb){R:V->V->Hp->Prop}(I:Inv X aB σ H s)(h:ta σ H λ x H1=>tb σ H1 λ y H2=>R x y H2){Q:qx->qv->Prop}{f:qx->qx->Sem qx}(hf:∀ v u s2 x y H2,Inv X aB σ H2 s2->bB x v->bB y u->R x y H2->qu (model X.prog X.w) X.A (f v u) Q X.xe s2) :
 qu (model X.prog X.w) X.A (eval a X.env) (λ v s₁=>qu (model X.prog X.w) X.A (eval b X.env) (λ u s₂=>qu (model X.prog X.w) X.A (f v u) Q X.xe s₂) X.xe s₁) X.xe s:=by
 refine bJ (ha aB s σ H _ I h) λ v s1 hPq24=>?_
 let(x,H1,I1,r1,q1):=hPq24;refine bJ (hb aB s1 σ H1 _ I1 q1) λ u s2 hPq25=>?_
 let(y,H2,I2,r2,q2):=hPq25;exact hf v u s2 x y H2 I2 r1 r2 q2
def aMt{ta tb:TE}{r:R2}(ho:dY X (zk op) r)(ha:PE X a ta)(hb:PE X b tb):PE X (.BinOp a op b pos) (tOp r ta tb):=by intro aB s σ H Q I h;exact wpAny_BinOp (aFW ha hb I h λ v u s2 x y H2 I2 rx ry q=>ho aB s2 σ H2 x y v u Q I2 rx ry q)
def aY2{ta:TE}{r:V->Hp->VK->Prop}(ho:UnR X (unaryOp op) r)(ha:PE X a ta):PE X (.UnaryOp op a pos) (tUn r ta):=by intro aB s σ H Q I h;exact UnaryOp_ (bJ (ha aB s σ H _ I h) λ v s1 ⟨x,H1,I1,r1,q1⟩=>ho aB s1 σ H1 x v Q I1 r1 q1)
variable {X:Cx}
def opI{f:qx->qx->Sem qx}{C:Int->Int->Prop}{g:Int->Int->Int}(rule:∀ (i j:Int) (t u:Tok) (s:qv) (Q:qx->qv->Prop) (E:qx->qv->Prop),C i j->Q (.int (g i j) s.toks) {s with toks:=s.toks+1 }->qu (model X.prog X.w) X.A (f (.int i t) (.int j u)) Q E s) :
 dY X f (rI C λ i j=>.int (g i j)):=by intro aB s σ H x y v u Q I rx ry h;let(i,j,rfl,rfl,hc,q):=h;let(t,rfl):=rx;let(t',rfl):=ry;exact rule i j t t' s _ _ hc (.int (g i j),H,I.tok _,(_,rfl,),q,)
def yY{f:qx->qx->Sem qx}{g:Int->Int->Int}(rule:∀ (i j:Int) (t u:Tok) (s:qv) (Q:qx->qv->Prop) (E:qx->qv->Prop),Q (.int (g i j) s.toks) {s with toks:=s.toks+1 }->qu (model X.prog X.w) X.A (f (.int i t) (.int j u)) Q E s) :
 dY X f (kR λ i j=>.int (g i j)):=by intro aB s σ H x y v u Q I rx ry h;let(i,j,rfl,rfl,q):=h;let(t,rfl):=rx;let(t',rfl):=ry;exact rule i j t t' s _ _ (.int (g i j),H,I.tok _,(_,rfl,),q,)
def aCC{f:qx->qx->Sem qx}{g:Int->Int->Bool}(rule:∀ (i j:Int) (t u:Tok) (s:qv) (Q:qx->qv->Prop) (E:qx->qv->Prop),Q (.bool (g i j)) s->qu (model X.prog X.w) X.A (f (.int i t) (.int j u)) Q E s) :
 dY X f (kR λ i j=>.bl (g i j)):=by intro aB s σ H x y v u Q I rx ry h;let(i,j,rfl,rfl,q):=h;let(t,rfl):=rx;let(t',rfl):=ry;exact rule i j t t' s _ _ (.bl (g i j),H,I,rfl,q,)
def bA2(i j:Int):Prop:=0<=j/\j<=1000000/\i.natAbs<2^64
def aPH(k:Nat):(0:Int)<=2^k:=by rw[two_pow_cast];exact yHd _
def aVF:dY X (zk .Add) (kR λ i j=>.int (i+j)):=yY λ _ _ _ _ _ _ _ q=>add_int q
def aVq:dY X (zk .Sub) (kR λ i j=>.int (i-j)):=yY λ _ _ _ _ _ _ _ q=>sub_int q
def aVc:dY X (zk .Mod) (rI (λ _ j=>j≠0) λ i j=>.int (i.fmod j)):=opI λ _ _ _ _ _ _ _ hc q=>mod_int' hc q
def aXg:dY X (zk .Pow) (rI bA2 λ i j=>.int (i^j.toNat)):=opI λ _ _ _ _ _ _ _ hc q=>pow_int_small hc.1 hc.2.1 hc.2.2 q
def aWk:dY X (zk .RShift) (rI (λ _ j=>0<=j) λ i j=>.int (i/2^j.toNat)):=opI λ i j _ _ _ _ _ hc q=>
 rshift_int hc (by rw[Int.fdiv_eq_ediv_of_nonneg i (aPH _)];exact q)
def aXY:dY X (zk .BitAnd) (kR λ i j=>.int (yEq i j)):=yY λ _ _ _ _ _ _ _ q=>and_int q
def aZH:dY X (zk .BitOr) (kR λ i j=>.int (yHu i j)):=yY λ _ _ _ _ _ _ _ q=>or_int q
def aV1:dY X (zk .BitXor) (kR λ i j=>.int (yHk i j)):=yY λ _ _ _ _ _ _ _ q=>xor_int q
def unI{f:qx->Sem qx}{g:Int->Int}(rule:∀ (i:Int) (t:Tok) (s:qv) (Q:qx->qv->Prop) (E:qx->qv->Prop),Q (.int (g i) s.toks) {s with toks:=s.toks+1 }->qu (model X.prog X.w) X.A (f (.int i t)) Q E s) :
 UnR X f (rU λ i=>.int (g i)):=by intro aB s σ H x v Q I rx h;let(i,rfl,q):=h;let(t,rfl):=rx;exact rule i t s _ _ (.int (g i),H,I.tok _,(_,rfl,),q,)
def aWu:UnR X (unaryOp .USub) (rU λ i=>.int (-i)):=unI λ _ _ _ _ _ q=>neg_int q
def aVK:UnR X (unaryOp .Invert) (rU λ i=>.int (yBo i)):=unI λ _ _ _ _ _ q=>invert_int q
def aBz{Q:VK}(I:Inv X aB σ H s)(q:Q (.bl k) H)(e:k=k'):EP X aB σ Q (.bool k') s:=by subst e;exact(.bl k,H,I,rfl,q,)
def bAG:dY X (xw .Lt) (kR λ i j=>.bl (decide (i<j))):=aCC λ _ _ _ _ _ _ _ q=>lt_int q
def aZD:dY X (xw .LtE) (kR λ i j=>.bl (decide (i<=j))):=aCC λ _ _ _ _ _ _ _ q=>le_int q
def bAP:dY X (xw .Gt) (kR λ i j=>.bl (decide (j<i))):=aCC λ _ _ _ _ _ _ _ q=>gt_int q
def aZV:dY X (xw .GtE) (kR λ i j=>.bl (decide (j<=i))):=aCC λ _ _ _ _ _ _ _ q=>ge_int q
def aX5:dY X (xw .Is) (λ x y H Q=>y=.non/\Q (.bl (decide (x=.non))) H):=by
 intro aB s σ H x y v u Q I rx ry h;let(rfl,q):=h;cases ry;refine is_none_gen (aBz I q ?_);cases x<;>first
  |(cases rx;rfl)
  |(let(t,rfl):=rx;rfl)
def aTr:dY X (xw .IsNot) (λ x y H Q=>y=.non/\Q (.bl (!decide (x=.non))) H):=by
 intro aB s σ H x y v u Q I rx ry h;let(rfl,q):=h;cases ry;refine isnot_none_gen (aBz I q ?_);cases x<;>first
  |(cases rx;rfl)
  |(let(t,rfl):=rx;rfl)
def bCg(b:qy)(h:op≠.In:=by decide)(h2:op≠.NotIn:=by decide):xz op b=Ff:=by
 have e1:(op==CmpOp.In)=Ff:=by cases op<;>first|rfl|exact absurd rfl h
 have e2:(op==CmpOp.NotIn)=Ff:=by cases op<;>first|rfl|simp_all
 cases b<;>simp[xz,e1,e2]
def aTo{ta tb:TE}{r:R2}(ho:dY X (xw op) r)(ha:PE X a ta)(hb:PE X b tb)(hm:xz op b=Ff):PE X (.Compare a [op] [b] pos) (tOp r ta tb):=by intro aB s σ H Q I h;exact wpAny_Compare1 (aFW ha hb I h λ v u s2 x y H2 I2 rx ry q=>ho aB s2 σ H2 x y v u Q I2 rx ry q) hm
def bAq(t:TE):TT:=λ σ H Q=>t σ H λ x H'=>∃ k,x=.bl k/\Q k H'
def aUQ{ta tb:TE}{r:R2}(ho:dY X (xw op) r)(ha:PE X a ta)(hb:PE X b tb)(hm:xz op b=Ff):PT X (.Compare a [op] [b] pos) (bAq (tOp r ta tb)):=by
 intro aB s σ H Q I h;refine wpAny_isTrue_Compare1 (bJ (ha aB s σ H _ I h) λ v s1 ⟨x,H1,I1,r1,q1⟩=>bJ (hb aB s1 σ H1 _ I1 q1) λ u s2 ⟨y,H2,I2,r2,q2⟩=>
  bJ (ho aB s2 σ H2 x y v u _ I2 r1 r2 q2) λ c s3 ⟨z,H3,I3,r3,k,e,q3⟩=>?_) hm
 subst e;cases r3;exact xu (H3,I3,q3,)
def aFV(K:FrG)(x:V)(H:Hp)(k:Bool):Prop:=
 match x with
 |.non=>k=Ff|.bl b=>k=b|.int i=>k=(i != 0)|.str y=>y.length<=qk/\k=((y.length:Int) != 0)|.byt y=>y.size<=qk/\k=((y.size:Int) != 0)|.ref p=>(∃ xs,cI K H p xs/\k = !xs.isEmpty)\/(∃ xs,cZ K H p xs/\k = !xs.isEmpty)\/∃ aM,H p=qz (.dK aM)/\k = !aM.isEmpty|_=>False
def aPD{κ:Type}{aM:Li (κ×V)}{vs:Li (κ×qx)}(r:KV aM vs):(!vs.isEmpty) = !aM.isEmpty:=by cases r<;>rfl
def aHM{xs:Li V}(r:bF xs aI):(!aI.toArray.isEmpty) = !xs.isEmpty:=by cases r<;>simp
def nM:(qk:Nat)<2^63:=by rw[zx];decide
def aVA:bAU X (λ x H Q=>∃ k,aFV X.K x H k/\Q k H):=by
 intro aB s σ H x v Q I rx h;let(k,e,q):=h;have hl:=nM;have hs:qk=16777216:=zx;cases x with
 |non=>
   cases rx;have e':k=Ff:=e;subst e';exact truthy_none (H,I,q,)
 |bl b=>
   cases rx;have e':k=b:=e;subst e';exact xu (H,I,q,)
 |int i=>
   let(t,rfl):=rx;have e':k=(i != 0):=e;subst e';exact PySem.P.truthy_int (H,I,q,)
 |str y=>
   let(t,rfl):=rx;obtain⟨hy,e'⟩:y.length<=qk/\k=((y.length:Int) != 0):=e;subst e';exact PySem.P.truthy_str (!_) (H,I.tok _,q,)
 |byt y=>
   let(t,rfl):=rx;obtain⟨hy,e'⟩:y.size<=qk/\k=((y.size:Int) != 0):=e;subst e';exact PySem.W.truthy_bytes (!_) (H,I.tok _,q,)
 |ref p=>
   cases rx;have e':(∃ xs,cI X.K H p xs/\k = !xs.isEmpty)\/(∃ xs,cZ X.K H p xs/\k = !xs.isEmpty)\/∃ aM,H p=qz (.dK aM)/\k = !aM.isEmpty:=e;rcases e' with ⟨xs,hx,e'⟩|⟨xs,hx,e'⟩|⟨aM,hx,e'⟩
   .subst e';let(aI,r,pl,hz):=I.list hx;have dE:=r.length;exact wpAny_truthy_list pl.isList (by simp only[yAj];omega) (H,I.tok _,by rw[aHM r];exact q,)
   .subst e';let(aI,r,pl,hz):=I.tuple hx;have dE:=r.length;exact truthy_tuple pl (by simp only[yAj];omega) (H,I.tok _,by rw[aHM r];exact q,)
   .subst e';obtain⟨hz,hS,vs,r,m⟩:aM.length<=qk/\(p==sysModules)=Ff/\∃ vs,KV aM vs/\s.heap.DictOf (gD X.prog X.w) p vs:=I.hok p _ hx;have dE:aM.length=↑vs:=Paired.length r;exact wpAny_truthy_dict hS m (!_) (H,I.tok _,by rw[aPD r];exact q,)
 |_=>exact(show False from e).elim
def aSh{ta:TE}(ha:PE X a ta)(he:∀ kS,isTrue a X.env kS=(do let v <- kS;standAt a.pos;holding [v] (truthy v))) :
 PT X a (λ σ H Q=>ta σ H λ x H'=>∃ k,aFV X.K x H' k/\Q k H'):=by intro aB s σ H Q I h;exact isTrue_plain (bJ (ha aB s σ H _ I h) λ v s1 ⟨x,H1,I1,r1,q1⟩=>aVA aB s1 σ H1 x v Q I1 r1 q1) (he _)
def aP6:dY X (zk .Add) (λ x y H Q=>∃ i j,x=.str i/\y=.str j/\i.length+j.length<=qk/\Q (.str (i++j)) H):=by intro aB s σ H x y v u Q I rx ry h;let(i,j,rfl,rfl,hz,q):=h;let(t,rfl):=rx;let(t',rfl):=ry;exact add_str (λ t' tk=>(.str (i++j),H,I.tok _,(_,rfl,),q,)) hz
def oG(r:bF [x] us):∃ u,us=[u]/\bB x u:=by
 cases r with
 |cons r1 r2=>cases r2;exact(_,rfl,r1,)
def aFk(r:bF [x,y] us):∃ u w',us=[u,w']/\bB x u/\bB y w':=by
 cases r with
 |cons r1 r2=>
   cases r2 with
   |cons r3 r4=>cases r4;exact(_,_,rfl,r1,r3,)
def aQ8(hc:X.calm=Tt):gE X (.builtin "max") (λ xs H Q=>∃ i j,xs=[.int i,.int j]/\Q (.int (if j>i then j else i)) H):=by
 intro aB s σ H xs us Q I r h;let(i,j,rfl,q):=h;let(u,w',rfl,(t,rfl),(t',rfl)):=aFk r;refine max_two_ints (I.ok.hd hc) λ h' tk k=>(_,H,I.kept k,?_,q,)
 by_cases hj:j>i
 .rw[if_pos hj,if_pos hj];exact(_,rfl,)
 .rw[if_neg hj,if_neg hj];exact(_,rfl,)
def aQF(hc:X.calm=Tt):gE X (.builtin "min") (λ xs H Q=>∃ i j,xs=[.int i,.int j]/\Q (.int (if j<i then j else i)) H):=by
 intro aB s σ H xs us Q I r h;let(i,j,rfl,q):=h;let(u,w',rfl,(t,rfl),(t',rfl)):=aFk r;refine min_two_ints (I.ok.hd hc) λ h' tk k=>(_,H,I.kept k,?_,q,)
 by_cases hj:j<i
 .rw[if_pos hj,if_pos hj];exact(_,rfl,)
 .rw[if_neg hj,if_neg hj];exact(_,rfl,)
def aIa:gE X (.type "int") (λ xs H Q=>(∃ i,xs=[.int i]/\Q (.int i) H)\/∃ k,xs=[.bl k]/\Q (.int (if k then 1 else 0)) H):=by
 intro aB s σ H xs us Q I r h;rcases h with ⟨i,rfl,q⟩|⟨k,rfl,q⟩
 .let(u,rfl,t,rfl):=oG r;exact call_int_int (.int i,H,I,(_,rfl,),q,)
 .let(u,rfl,r1):=oG r;cases r1;exact call_int_bool (.int (if k then 1 else 0),H,I.tok _,(_,rfl,),q,)
end L2
namespace L2
open PySem PySem.Spec PyProof.Rows
structure ObjM(h:Heap)(x dx C:qw)(mA:Str->Option qx):Prop where
 obj:h.get? x=qz (yDm C dx)
 ns:h.Ns1 dx mA
 ne:dx≠x
def aQY{h:Heap}{mA:Str->Option qx}(n:h.Ns1 dx mA):∃ od,h.get? dx=qz od/\∀ name,yHl name od=qz (mA name):=by
 let(o,es,ep,ho,hd,hk,_,hm):=n;refine(o,ho,λ name=>?_,);have e:=hm name;unfold nsFind findBy at e;rw[<- Array.find?_toList] at e;unfold yHl;rw[hd];dsimp only;split
 .simp_all
 .rename_i q;rw[q] at e;have a:es.toList.any (·.refKey)=Ff:=by
   rw[List.any_eq_false];intro y hy;let(z,t,hkey):=hk y (Array.mem_toList_iff.mp hy);simp[DictEntry.refKey,hkey]
  grind
def ObjM.look{mA:Str->Option qx}(I:ObjM h x dx C mA):∃ od,PySem.W.InstAt h x (yDm C dx) C (qz od)/\∀ name,yHl name od=qz (mA name):=
 let ⟨od,ho,hl⟩:=aQY I.ns
 (od,(I.obj,rfl,rfl,ho,),hl,)
variable {K:FrG}
def aT8{E:qx -> qv -> Prop}{s:qv}{mA:Str -> Option qx}{Q:qx->qv->Prop}(X:K.In s.heap)(I:ObjM s.heap x dx C mA)(hg:yEp K C name=Tt)(hh:yFa K C=Tt)(ha:yBm K (.ref C) name=qz qj)(hv:mA name=qz v)(hv':PySem.W.handedIn v=Tt)(h:Q v {s with toks:=s.toks+1 }) :
 qu (model prog w) A (getAttr (.ref x) name expr) Q E s:=by let(od,J,hl):=I.look;exact PySem.W.get_value X J (yGq hg).1 (PySem.W.findObj_own hh ha rfl (by rw[hl,hv])) hv' h
def aRg{E:qx -> qv -> Prop}{s:qv}{mA:Str -> Option qx}{Q:qx×List qx->qv->Prop}(X:K.In s.heap)(I:ObjM s.heap x dx C mA)(hg:yEp K C name=Tt)(hf:yBm K (.ref C) name=qz (qz (.ref f)))(ht:yHe K (.ref f)=Tt)(hv:mA name=qj)(h:Q (.ref f,[.ref x]) s) :
 qu (model prog w) A (getMethod (.ref x) name pl) Q E s:=by let(od,J,hl):=I.look;exact PySem.W.method_fn X J (yGq hg).1 (yGq hg).2 hf (beq_iff_eq.mp ht) (by show(yHl name od).map (·.isSome)=qz Ff;rw[hl,hv];rfl) h
def aUD{E:qx -> qv -> Prop}{s:qv}{mA:Str -> Option qx}{Q:Unit->qv->Prop}(X:K.In s.heap)(I:ObjM s.heap x dx C mA)(hs:yBm K (.ref C) "__setattr__" = qz (qz (.builtin "object.__setattr__")))(hp:yGg K C=Tt)(ht:yId K C name=qz qj)(hh:yFa K C=Tt)(hw:PySem.Within mA ns)(hsz:↑ns<=qk)(h:∀ h',ObjM h' x dx C (λ y=>if y=name then qz v else mA y)->yDi dx s.heap h'->Q () {s with heap:=h',toks:=s.toks+2 }) :
 qu (model prog w) A (setAttr (.ref x) name v) Q E s:=by
 let(od,J,hl):=I.look;refine PySem.W.set_plain X J hs (PySem.W.osa_open (s:={s with toks:=s.toks+1 }) (r:=qj) X J hp ht λ b=>?_);let(cd,hc,hd'):=PySem.W.any_some hh;have hx:s.heap.get? x=qz (.ref C,qz dx,.plain,#[],):=I.obj;refine wB (wP (wB (wB (wpAny_loadPart hx (wB (PySem.W.Looks.here (s:={s with toks:=s.toks+1 }) (PySem.W.looks_clsIn X hc) ?_))))));rw[hd'];refine wP (a:=qz dx) (wB (wP (wB ?_)));refine wpAny_nsSet1 (s:={s with toks:=s.toks+1 }) I.ns λ h' hn2 hs2=>?_
 let(oD,esD,epD,hoD,hdD,hcD):=hn2.count (PySem.Within.cons name v hw);refine wB (wpAny_lookBehind hoD (by rw[hdD];exact pastItsLine_dict (xAh hcD (by rw[yAn];omega))) ?_);exact wP (h _ ((hs2.2 _ (Ne.symm I.ne)).trans I.obj,hn2,I.ne,) hs2)
def aRp{A:zv}{s:qv}{R:Result->qv->Prop}(X:K.In s.heap)(hm:yIe K C=Tt)(hi:yBm K (.ref C) "__init__" = qz (qz (.ref f)))(hf:PySem.W.typeIn K (.ref f)=qz (.type "function"))(h:ju (model prog w) (A.under (.builtin "type.__call__" (.ref C::vs,kw,))) (.call (.ref f) (.ref (s.heap.objs.size+1)::vs,kw,)) (PySem.W.InitBack (s.heap.objs.size+1) R)
   {s with heap:=(s.heap.push yCa).push (yDm C s.heap.objs.size) }) :
 ju (model prog w) A (.call (.ref C) (vs,kw,)) R s:=by let(hh,g,d,t,os):=s;exact PySem.W.make_core (PySem.W.makes_of X hm) (PySem.W.looks_findIn X hi) (λ self=>PySem.W.bind_fn X self hf) (.inl rfl) h
def gG(f:Str)(v:V):Li (Str×V)->Li (Str×V)
 |[]=>[(f,v)]
 |(g,x)::r=>if g=f then (g,v)::r else (g,x)::gG f v r
def aHy(f g:Str)(v:V):∀ fs:Li (Str×V),(gG f v fs).lookup g=if g=f then qz v else fs.lookup g
 |[]=>by
   show List.lookup g [(f,v)]=_
   grind
 |(k,x)::r=>by
   have ih:=aHy f g v r;rw[show gG f v ((k,x)::r)=(if k=f then (k,v)::r else (k,x)::gG f v r) from rfl]
   grind
def aDl(f:Str)(v:V):∀ fs:Li (Str×V),f∈(gG f v fs).map (·.1)/\∀ g,g∈fs.map (·.1)->g∈(gG f v fs).map (·.1)
 |[]=>(by simp[gG],λ g h=>by simp at h,)
 |(k,x)::r=>by
   let(i1,i2):=aDl f v r;rw[show gG f v ((k,x)::r)=(if k=f then (k,v)::r else (k,x)::gG f v r) from rfl]
   grind
def aHf(f:Str)(v:V):∀ fs:Li (Str×V),(gG f v fs).length<=↑fs+1
 |[]=>by simp[gG]
 |(k,x)::r=>by
   have ih:=aHf f v r;rw[show gG f v ((k,x)::r)=(if k=f then (k,v)::r else (k,x)::gG f v r) from rfl];by_cases hk:k=f
   .rw[if_pos hk,yAn,yAn];omega
   .rw[if_neg hk,yAn,yAn];omega
def iF.some_of(r:iF (qz v) o):∃ u,o=qz u/\bB v u:=by
 cases o with
 |none=>exact(show False from r).elim
 |some u=>exact(u,rfl,r,)
def iF.none_of(r:iF qj o):o=qj:=by
 cases o with
 |none=>rfl
 |some u=>exact(show False from r).elim
def aQg(r:bB v u):PySem.W.handedIn u=Tt:=by
 cases v with
 |non=>cases (show u=Value.none from r);rfl
 |bl b=>cases (show u=Value.bool b from r);rfl
 |int i=>let(t,e):=(show ∃ t,u=Value.int i t from r);cases e;rfl
 |str x=>let(t,e):=(show ∃ t,u=Value.str x t from r);cases e;rfl
 |byt b=>let(t,e):=(show ∃ t,u=Value.bytes b t from r);cases e;rfl
 |flt b=>let(t,e):=(show ∃ t,u=Value.float b t from r);cases e;rfl
 |ref a=>cases (show u=Value.ref a from r);rfl
 |ty n=>cases (show u=Value.type n from r);rfl
section
variable {P:zq}{w:zj}{H H':Hp}{h h':Heap}{a C dx:qw}{fs fs':List (Str×V)}
def aDI(hok:dL P w H h)(e:H a=qz (.ins C dx fs)):∃ mA,ObjM h a dx C mA/\(∀ f,iF (fs.lookup f) (mA f))/\PySem.Within mA (fs.map (·.1))/\↑fs<=1000/\H dx=qz (.own a):=by let(d,z,ne,ob,mA,n,r,q):=(show fM P w H h a (.ins C dx fs) from hok a _ e);exact(mA,(ob,n,ne,),r,q,z,d,)
end
structure Cls(K:FrG)(C:qw):Prop where
 pg:yEp K C Str.empty=Tt
 hd:yFa K C=Tt
 po:yGg K C=Tt
 sa:yBm K (.ref C) "__setattr__" = qz (qz (.builtin "object.__setattr__"))
def Cls.get(c:Cls K C)(f:Str):yEp K C f=Tt:=c.pg
def NoAttr(K:FrG)(C:qw)(f:Str):Prop:=yBm K (.ref C) f=qz qj
def NoAttr.taker(n:NoAttr K C f):yId K C f=qz qj:=by unfold yId;rw[show yBm K (.ref C) f=qz qj from n];rfl
structure Con(K:FrG)(C:qw)(f:Str)(v:V)(u:qx):Prop where
 at_:yBm K (.ref C) f=qz (qz u)
 rel:bB v u
 get:PySem.W.specialIn K u "__get__" = qz qj
 cp:PySem.W.copiedNames.contains f=Ff
structure Meth(K:FrG)(C:qw)(m:Str)(f:qw):Prop where
 at_:yBm K (.ref C) m=qz (qz (.ref f))
 fn:yHe K (.ref f)=Tt
 kp:yBp K (.ref f)=Tt
section
variable {X:Cx}{aB:List (qw×Obj)}{σ:St}{H:Hp}{s:qv}{a C dx:qw}{fs:List (Str×V)}{f:Str}{v:V}{A:zv}{E:qx->qv->Prop}
def aPw{Q:qx->qv->Prop}(I:Inv X aB σ H s)(e:H a=qz (.ins C dx fs))(c:Cls X.K C)(n:NoAttr X.K C f)(l:fs.lookup f=qz v)(h:∀ u s',Inv X aB σ H s'->bB v u->Q u s'):qu (model X.prog X.w) A (getAttr (.ref a) f b) Q E s:=by let(mA,O,r,_,_,_):=aDI I.hok e;let(u,hu,ru):=iF.some_of (v:=v) (o:=mA f) (by rw[<- l];exact r f);exact aT8 I.kIn O (c.get f) c.hd n hu (aQg ru) (h u _ (I.tok _) ru)
def aPY{Q:qx×List qx->qv->Prop}(I:Inv X aB σ H s)(e:H a=qz (.ins C dx fs))(c:Cls X.K C)(k:Meth X.K C m g)(l:fs.lookup m=qj)(h:Q (.ref g,[.ref a]) s):qu (model X.prog X.w) A (getMethod (.ref a) m pl) Q E s:=by let(mA,O,r,_,_,_):=aDI I.hok e;have hn:mA m=qj:=iF.none_of (by rw[<- l];exact r m);exact aRg I.kIn O (c.get m) k.at_ k.fn hn h
def aPK{Q:Unit->qv->Prop}(I:Inv X aB σ H s)(e:H a=qz (.ins C dx fs))(c:Cls X.K C)(n:NoAttr X.K C f)(hl:↑fs<1000)(ry:bB y u)(h:∀ s',Inv X aB σ (bL H a (.ins C dx (gG f y fs))) s'->Q () s'):qu (model X.prog X.w) A (setAttr (.ref a) f u) Q E s:=by
 let(mA,O,r,wi,_,ho):=aDI I.hok e;have hz:(fs.map (·.1)).length<=qk:=by rw[yAd,zx];omega
 refine aUD I.kIn O c.sa c.po n.taker c.hd wi hz λ h' O' sb=>h _ ?_
 have hd:∃ o,h'.get? dx=qz o:=let ⟨o,_,_,e',_⟩:=O'.ns;(o,e',);refine I.write (x:=a) (e:=dx) (by rw[e];exact True.intro) (.inr ho) (λ b q hb z=>(sb.2 b hb).trans z) hd ?_;refine(by rw[bW O.ne];exact ho,?_,O.ne,O'.obj,_,O'.ns,λ g=>?_,λ g hg=>?_,)
 .have:=aHf f y fs;omega
 .show iF ((gG f y fs).lookup g) (if g=f then qz u else mA g);rw[aHy];by_cases q:g=f
  .rw[if_pos q,if_pos q];exact ry
  simp_all
 .by_cases q:g=f
  .rw[q];exact(aDl f y fs).1
  .refine(aDl f y fs).2 g (wi g λ z=>hg ?_);simp_all
def Inv.made(I:Inv X aB σ H s):Inv X aB σ (bL (bL H s.heap.objs.size (.own (s.heap.objs.size+1))) (s.heap.objs.size+1) (.ins C s.heap.objs.size []))
 {s with heap:=(s.heap.push yCa).push (yDm C s.heap.objs.size) }:=by
 have e1:(s.heap.push yCa).get? s.heap.objs.size=qz yCa:=xAd s.heap rfl;have e2:((s.heap.push yCa).push (yDm C s.heap.objs.size)).get? (s.heap.objs.size+1)=qz (yDm C s.heap.objs.size):=by
  have:=xAd (s.heap.push yCa) (o:=yDm C s.heap.objs.size) rfl;rwa [yHm] at this
 have e3:(s.heap.push yCa).Ns s.heap.objs.size (λ _=>qj):=(yCa,#[],_,e1,rfl,(λ e he=>absurd he (by simp)),λ _=>rfl,);have I1:=I.laid (a:=s.heap.objs.size) (o:=.own (s.heap.objs.size+1)) (h':=s.heap.push yCa) (t':=s.toks) (λ b u q=>hpS _ q) (yAc _) (_,e1,);refine I1.laid (a:=s.heap.objs.size+1) (o:=.ins C s.heap.objs.size []) (t':=s.toks) (λ b u q=>hpS _ q) (yFp (yHm _ _)) ?_;have ne:s.heap.objs.size≠s.heap.objs.size+1:=xAj (yFj _);refine(by rw[bW ne,dH],yCd _,ne,e2,λ _=>qj,(Heap.Ns1.of_empty e3).at λ o q=>hpS _ q,λ _=>True.intro,λ y hy=>absurd rfl hy,)
def aUS{Q:qx->qv->Prop}(hb:attributeBase e f env (eval e env)=eval e env)(h:qu (model prog w) A (eval e env) (λ o s₁=>qu (model prog w) A (getAttr o f Tt) Q E s₁) E s):qu (model prog w) A (eval (.Attribute e f pos) env) Q E s:=
 Attribute_any_ h (by rw[arm_eval_Attribute,hb])
end
def bAW(K:FrG)(ta:TE)(f:Str):TE:=λ σ H Q=>ta σ H λ x H1=>∃ a C dx fs v,x=.ref a/\H1 a=qz (.ins C dx fs)/\Cls K C/\NoAttr K C f/\fs.lookup f=qz v/\Q v H1
def aOf(K:FrG)(ta tv:TE)(f:Str):TS:=λ D σ H=>tv σ H λ y H1=>ta σ H1 λ x H2=>∃ a C dx fs,x=.ref a/\H2 a=qz (.ins C dx fs)/\Cls K C/\NoAttr K C f/\↑fs<1000 /\
 D.nx σ (bL H2 a (.ins C dx (gG f y fs)))
def aWl{ta:TE}(he:PE X e ta)(hb:attributeBase e f X.env (eval e X.env)=eval e X.env):PE X (.Attribute e f pos) (bAW X.K ta f):=by intro aB s σ H Q I h;refine aUS hb (bJ (he aB s σ H _ I h) λ u s1 hPq26=>?_);let(x,H1,I1,rx,a,C,dx,fs,v,ex,ea,c,n,l,q):=hPq26;subst ex;obtain rfl:u=Value.ref a:=rx;exact aPw I1 ea c n l λ u' s2 I2 ru=>(v,H1,I2,ru,q,)
def aWq{pos:Pos}{ta tv:TE}(ha:PE X o ta)(hv:PE X value tv)(hs:swapsWith value (qz (.Attribute o f pos')) pos.line X.env=pure Ff):PS X (.Assign [.Attribute o f pos'] value pos) (aOf X.K ta tv f):=by intro aB s σ H D I h;refine plainObj_wpAny_Assign_Attribute (bJ (hv aB s σ H _ I h) λ u s1 ⟨y,H1,I1,ry,q⟩=>bJ (ha aB s1 σ H1 _ I1 q) λ ov s2 hPq27=>?_) hs;let(x,H2,I2,rx,a,C,dx,fs,ex,ea,c,n,l,q2):=hPq27;subst ex;obtain rfl:ov=Value.ref a:=rx;exact aPK I2 ea c n l ry λ s3 I3=>(σ,_,I3,q2,)
section
variable {X:Cx}{aB:List (qw×Obj)}{σ:St}{H:Hp}{s:qv}{A:zv}{E:qx->qv->Prop}{Q:qx->qv->Prop}{c:qx}{b:Bool}
inductive TyOf (K:FrG) (H:Hp):V->qx->Prop where
 |non:TyOf K H .non (.type "NoneType")
 |bl (x:Bool):TyOf K H (.bl x) (.type "bool")
 |int (i:Int):TyOf K H (.int i) (.type "int")
 |str (x:Str):TyOf K H (.str x) (.type "str")
 |flt (x:UInt64):TyOf K H (.flt x) (.type "float")
 |lst {a:qw}{xs:List V} (e:H a=qz (.lst xs)):TyOf K H (.ref a) (.type "list")
 |frz {a:qw}{o:Obj}{xs:List V} (e:H a=qz (.frz o (.lst xs))):TyOf K H (.ref a) (.type "list")
 |tup {a:qw}{xs:List V} (e:H a=qz (.tup xs)):TyOf K H (.ref a) (.type "tuple")
 |dK {a:qw}{aM:List (bN×V)} (e:H a=qz (.dK aM)):TyOf K H (.ref a) (.type "dict")
 |dT {a:qw}{aM:List (List bN×V)} (e:H a=qz (.dT aM)):TyOf K H (.ref a) (.type "dict")
 |ins {a C dx:qw}{fs:List (Str×V)} (e:H a=qz (.ins C dx fs)) (cl:Cls K C) (ha:yBm K (.ref C) "__class__" = qz (qz (.builtin "object.__class__")))
    (hn:PySem.W.specialIn K (.builtin "object.__class__") "__get__" = qz (qz (.builtin "getset_descriptor.__get__"))) (htk:PySem.W.takesIn K (.builtin "object.__class__")=qz Tt)
    (hm:PySem.W.mroIn K C (.type "object")=qz Tt):TyOf K H (.ref a) (.ref C)
end
end L2
namespace L2
open PySem PySem.Spec PyProof.Rows
structure Room(k:Nat)(A:zv):Prop where
 hd:A.handled=qj
 dp:A.depth+3*k+5<recursionLimit
 un:A.units+16*k+200<cLine
def Room.mono(r:Room k A)(h:j<=k):Room j A:=(r.hd,by have:=r.dp;omega,by have:=r.un;omega,)
def Room.deeper(r:Room (k+1) A)(env:Env):Room k (A.deeper env):=
 (r.hd,by have:=r.dp;show A.depth+1+3*k+5<_;omega,by have:=r.un;show A.units+3+16*k+200<_;omega,)
def aP7{A:zv}:(A.under (.builtin "type.__call__" (.ref C::us,kw,))).depth=A.depth+1:=by first|rfl|simp[Around.under,Code.weight,Code.isCreation,Code.isGuard,Code.isCaller,Code.frames,Code.isFrame,guardIds]
def aPM{A:zv}:(A.under (.builtin "type.__call__" (.ref C::us,kw,))).units=A.units+1:=by first|rfl|simp[Around.under,Code.cUnits,Code.frames,Code.isFrame]
def Room.make(r:Room (k+1) A)(C:qw)(us:List qx)(kw:Li (Str×qx)):Room k (A.under (.builtin "type.__call__" (.ref C::us,kw,))):=
 (r.hd,by have:=r.dp;rw[aP7];omega,by have:=r.un;rw[aPM];omega,)
def Room.depth(r:Room k A):A.depth<recursionLimit:=by have:=r.dp;omega
def Room.units(r:Room k A):A.units+64<cLine:=by have:=r.un;omega
def aFQ:TA:=λ _ H Q=>Q [] H
def aYL(ta:TE)(tr:TA):TA:=λ σ H Q=>ta σ H λ x H1=>tr σ H1 λ xs H2=>Q (x::xs) H2
def aEJ:PA X [] aFQ:=λ _ _ _ _ H Q I h=>Calls.spliced_nil ([],H,I,.nil,h,)
def aD5{te:TE}{t:TA}(ha:PE X e te)(hr:PA X es t)(hs:qo (e::es) X.env=(Ff,eval e X.env)::qo es X.env:=by rfl):PA X (e::es) (aYL te t):=by intro pos aB s σ H Q I h;rw[hs];show qu _ _ (spliced ((Ff,eval e X.env)::backTo pos (qo es X.env))) _ _ s;refine Calls.spliced_cons (bJ (ha aB s σ H _ I h) λ u s1 hPq28=>?_);let(x,H1,I1,r1,q1):=hPq28;exact bJ (hr pos aB s1 σ H1 _ I1 q1) λ us s2 ⟨xs,H2,I2,r2,q2⟩=>(x::xs,H2,I2,.cons r1 r2,q2,)
def bBU(t:TA):TE:=λ σ H Q=>t σ H λ xs H1=>↑xs<=qk/\∀ p,H1 p=qj->Q (.ref p) (bL H1 p (.tup xs))
def aFX(t:TA):TE:=λ σ H Q=>t σ H λ xs H1=>↑xs<=qk/\∀ p,H1 p=qj->Q (.ref p) (bL H1 p (.lst xs))
def aLE{t:TA}{x1}(h:PA X es t):PE X (.Tuple es x1 pos) (bBU t):=by intro aB s σ H Q I hq;refine wpAny_Tuple_spliced (bJ (h pos aB s σ H _ I hq) λ us s1 ⟨xs,H1,I1,r,z,q⟩=>(by rw[<- r.length];exact z,?_,));have hf:H1 s1.heap.objs.size=qj:=I1.hok.fresh (yAc _);refine(.ref s1.heap.objs.size,bL H1 s1.heap.objs.size (.tup xs),I1.laid (t':=s1.toks) (λ b u e=>hpS _ e) (yAc _) ?_,rfl,q _ hf,);exact(z,us,r,(_,xAd _ rfl,rfl,_,rfl,),)
def aEG{t:TA}(h:PA X es t):PE X (.List es pos) (aFX t):=by intro aB s σ H Q I hq;refine wpAny_List_spliced (bJ (h pos aB s σ H _ I hq) λ us s1 ⟨xs,H1,I1,r,z,q⟩=>(by rw[<- r.length];exact z,?_,));have hf:H1 s1.heap.objs.size=qj:=I1.hok.fresh (yAc _);refine(.ref s1.heap.objs.size,bL H1 s1.heap.objs.size (.lst xs),I1.laid (t':=s1.toks) (λ b u e=>hpS _ e) (yAc _) ?_,rfl,q _ hf,);exact(z,us,0,r,xAd _ rfl,)
abbrev Sp:=List V->Hp->VK->XK->Prop
abbrev mZ:=List Env->Hp->qv->XK->qx->qv->Prop
structure Env0(P:zq)(w:zj)(K:FrG)(mg:Str->Option qx)(base:Heap)(A:zv)(outer:List Env)(s:qv)(H:Hp):Prop where
 frames:A.frames=qz outer
 mod:Mod K mg base
 bs:∀ b o,base.get? b=qz o->s.heap.get? b=qz o/\H b=qj
 bsz:base.objs.size<=s.heap.objs.size
 funs:s.heap.FunFrames base outer
 frf:∀ b∈jM outer,H b=qj
 hok:dL P w H s.heap
 bare:AllBare s.gens
def CE(outer:Li Env)(P:zq)(w:zj)(H:Hp)(s:qv)(Q:VK)(u:qx)(s':qv):Prop:=
 ∃ v H',s'.os=s.os/\AllBare s'.gens/\Un (jM outer) [] H H' s.heap s'.heap/\dL P w H' s'.heap/\bB v u/\Q v H'
def CR(CX:mZ)(outer:Li Env)(P:zq)(w:zj)(H:Hp)(s:qv)(Q:VK)(E:XK)(r:Result)(s':qv):Prop:=
 match r with
 |.ok (.ret u)=>CE outer P w H s Q u s'|.ok _=>False|.error e=>CX outer H s E e s'
structure FnOk(P:zq)(w:zj)(K:FrG)(mg:Str->Option qx)(base:Heap)(CX:mZ)(k:Nat)(f:qw)(fd:vq)(ps:List Str)(sp:Sp):Prop where
 len:∀ vs H Q E,sp vs H Q E->↑vs=↑ps
 run:∀ (A:zv) (outer:List Env) (s:qv) (H:Hp) (args:Args) (us:List qx) (vs:List V) (Q:VK) (E:XK),Room k A->Env0 P w K mg base A outer s H->BindsTo s fd args (ps.zip us)->bF vs us->sp vs H Q E ->
  ju (model P w) A (.call (.ref f) args) (CR CX outer P w H s Q E) s
variable {K:FrG}
def Env0.make{mg:Str->Option qx}(e:Env0 P w K mg base A outer s H)(C:qw)(us:List qx)(kw:Li (Str×qx)) :
 Env0 P w K mg base (A.under (.builtin "type.__call__" (.ref C::us,kw,))) outer s H:=(by first|exact e.frames|(simpa [Around.under,Code.envs,Code.isFrame,pushEnvs] using e.frames),e.mod,e.bs,e.bsz,e.funs,e.frf,e.hok,e.bare,)
section
variable {X:Cx}{aB:List (qw×Obj)}{σ:St}{H:Hp}{s s':qv}
def Inv.env0(I:Inv X aB σ H s):Env0 X.prog X.w X.K X.mg X.base X.A X.stack s H:=
 (I.ok.frames,I.ok.mod,I.bs,xAh I.ok.bsz I.sz,I.stack,I.stkFree,I.hok,I.bare,)
def Inv.after{Q:VK}(I:Inv X aB σ H s)(h:CE X.stack X.prog X.w H s Q u s'):EP X aB σ Q u s':=by let(v,H',os,bare,un,hok,r,q):=h;let(hh,g,d,t,os'):=s';obtain rfl:os'=s.os:=os;exact(v,H',I.call (h':=hh) (g':=g) (d':=d) (t':=t) (ch:=[]) un hok bare (λ b z=>absurd z (by simp)),r,q,)
end
def aBV(sp:Sp)(dvs:Li V)(E:XK)(t:TA):TE:=λ σ H Q=>t σ H λ vs H1=>sp (vs++dvs) H1 Q E
def aNa(C:qw)(m:Str)(sp:Sp)(dvs:Li V)(E:XK)(ta:TE)(t:TA):TE:=λ σ H Q=>ta σ H λ x H1=>∃ a dx fs,x=.ref a/\H1 a=qz (.ins C dx fs)/\fs.lookup m=qj /\
 t σ H1 λ vs H2=>sp (x::(vs++dvs)) H2 Q E
def aMR(C:qw)(sp:Sp)(dvs:Li V)(E:XK)(t:TA):TE:=λ σ H Q=>t σ H λ vs H1=>∀ x dx,H1 x=qj->H1 dx=qj->dx≠x ->
 sp (.ref x::(vs++dvs)) (bL (bL H1 dx (.own x)) x (.ins C dx [])) (λ v H2=>v=.non/\Q (.ref x) H2) E
def iE(K:FrG)(fd:vq)(ps:Li Str)(ds:List qx):Prop:=
 ∀ (s:qv) (us:List qx),K.In s.heap->(us++ds).length=↑ps->BindsTo s fd ⟨us,[]⟩ (ps.zip (us++ds))
def iE.all{ps:Li Str}(h:∀ us:List qx,↑us=↑ps->bindArgs fd ⟨us,[]⟩=pure (ps.zip us)):iE K fd ps []:=λ s us _ hl=>by
 rw[yBa] at hl ⊢;exact .of_eq (h us hl)
def rD(CX:mZ)(X:Cx)(E:XK):Prop:=∀ (aB:Li (qw×Obj)) (σ:St) (H:Hp) (s:qv) (e:qx) (s':qv),Inv X aB σ H s->CX X.stack H s E e s'->X.xe e s'
variable {X:Cx}
def aEu{E:XK}{Q:VK}(F:FnOk X.prog X.w X.K X.mg X.base CX k f fd ps sp)(hr:Room k X.A)(hb:iE X.K fd ps ds)(hd:bF dvs ds)(hx:rD CX X E)(I:Inv X aB σ H s)(r:bF vs us)(h:sp (vs++dvs) H Q E):qu (model X.prog X.w) X.A (call (.ref f) us) (EP X aB σ Q) X.xe s:=by
 have r2:bF (vs++dvs) (us++ds):=r.append hd;have hl:(us++ds).length=↑ps:=by rw[<- r2.length];exact F.len _ _ _ _ h
 refine wpAny_call (codeAny_mono (F.run X.A X.stack s H (us,[],) (us++ds) (vs++dvs) Q E hr I.env0 (hb s us I.kIn hl) r2 h) λ r s' hq=>?_);cases r with
 |error e=>exact hx aB σ H s e s' I hq
 |ok fl=>
   cases fl with
   |ret u=>exact I.after hq|next=>exact False.elim hq|brk=>exact False.elim hq|cont=>exact False.elim hq
def aU8{CX:mZ}{k:Nat}{f:qw}{fd:vq}{ps:Li Str}{sp:Sp}{dvs:Li V}{ds:List qx}{E:XK}{x:Str}{p pos:Pos}{e:qy}{es:List qy}{t:TA}(F:FnOk X.prog X.w X.K X.mg X.base CX k f fd ps sp)(hr:Room k X.A)(hg:Gl X x)(hm:X.mg x=qz (.ref f))(hk:yBp X.K (.ref f)=Tt)(hb:iE X.K fd ps ds)(hd:bF dvs ds)(hx:rD CX X E)
 (ha:PA X (e::es) t) (hdb:(x==("__debug__" : Str))=Ff:=by decide) (he:qo (e::es) X.env=(Ff,eval e X.env)::qo es X.env:=by rfl) (hpl:(backTo pos (qo es X.env)).any (·.1)=Ff:=by rfl) :
 PE X (.Call (.Name x p) (e::es) [] pos) (aBV sp dvs E t):=by intro aB s σ H Q I h;refine xy (aBg I hg hm ?_ hdb);refine yHf (h₀:=X.base) I.ok.mod.kin hk (bJ (ha pos aB s σ H _ I h) λ us s1 ⟨vs,H1,I1,r,q⟩=>(I1.kIn,?_,)) he hpl;exact aEu F hr hb hd hx I1 r q
def aRh{E:XK}(F:FnOk X.prog X.w X.K X.mg X.base CX k f fd ps sp)(hr:Room k X.A)(hg:Gl X x)(hm:X.mg x=qz (.ref f))(hk:yBp X.K (.ref f)=Tt)(hb:iE X.K fd ps ds)(hd:bF dvs ds)(hx:rD CX X E)(hdb:(x==("__debug__" : Str))=Ff:=by decide):PE X (.Call (.Name x p) [] [] pos) (aBV sp dvs E aFQ):=by intro aB s σ H Q I h;refine xy (aBg I hg hm ?_ hdb);exact PySem.W.callWith_K0 I.kIn hk (aEu (us:=[]) F hr hb hd hx I .nil h)
def aTz{CX:mZ}{k:Nat}{f C:qw}{fd:vq}{ps:Li Str}{sp:Sp}{dvs:Li V}{ds:List qx}{E:XK}{m:Str}{pos apos:Pos}{e o:qy}{es:List qy}{ta:TE}{t:TA}{pl:Sem Bool}(he:PE X o ta)(c:Cls X.K C)(hm:Meth X.K C m f)(F:FnOk X.prog X.w X.K X.mg X.base CX k f fd ps sp)(hr:Room k X.A)(hb:iE X.K fd ps ds)(hd:bF dvs ds)(hx:rD CX X E)(ha:PA X (e::es) t)
 (hst:qo (e::es) X.env=(Ff,eval e X.env)::qo es X.env:=by rfl) (hpl:(backTo pos (qo es X.env)).any (·.1)=Ff:=by rfl)
 (ht:eval (.Call (.Attribute o m apos) (e::es) [] pos) X.env=(do
   let ov <- eval o X.env
   standAt apos.atName
   let (f,first) <- holding [ov] (getMethod ov m pl)
   callWith pos f first (backTo pos (qo (e::es) X.env)) (backToKw pos (keywordEach [] X.env))):=by rfl) :
 PE X (.Call (.Attribute o m apos) (e::es) [] pos) (aNa C m sp dvs E ta t):=by intro aB s σ H Q I h;refine PySem.W.methodCall_KW (pl:=pl) (bJ (he aB s σ H _ I h) λ u s1 hPq29=>?_) ht;let(x,H1,I1,rx,a,dx,fs,ex,ea,l,q):=hPq29;subst ex;obtain rfl:u=Value.ref a:=rx;refine aPY I1 ea c hm l ?_;refine yHf (first:=[.ref a]) (h₀:=X.base) I.ok.mod.kin hm.kp (bJ (ha pos aB s1 σ H1 _ I1 q) λ us s2 ⟨vs,H2,I2,r,q2⟩=>(I2.kIn,?_,)) hst hpl;exact aEu (us:=.ref a::us) (vs:=.ref a::vs) F hr hb hd hx I2 (.cons rfl r) q2
structure Mk(K:FrG)(C f:qw):Prop where
 makes:yIe K C=Tt
 init:yBm K (.ref C) "__init__" = qz (qz (.ref f))
 fn:yHe K (.ref f)=Tt
 kp:yBp K (.ref C)=Tt
def aRo{E:XK}{Q:VK}(M:Mk X.K C f)(F:FnOk X.prog X.w X.K X.mg X.base CX k f fd ps sp)(hr:Room (k+1) X.A)(hb:iE X.K fd ps ds)(hd:bF dvs ds)(hx:rD CX X E)(I:Inv X aB σ H s)(r:bF vs us)(h:∀ x dx,H x=qj->H dx=qj->dx≠x->sp (.ref x::(vs++dvs)) (bL (bL H dx (.own x)) x (.ins C dx [])) (λ v H2=>v=.non/\Q (.ref x) H2) E) :
 qu (model X.prog X.w) X.A (call (.ref C) us) (EP X aB σ Q) X.xe s:=by
 have hq:=h (s.heap.objs.size+1) s.heap.objs.size (I.hok.fresh (yGr _)) (I.hok.fresh (yAc _)) (xAj (yFj _));have I2:=Inv.made (C:=C) I;have r2:bF (V.ref (s.heap.objs.size+1)::(vs++dvs)) (Value.ref (s.heap.objs.size+1)::(us++ds)):=.cons rfl (r.append hd);have hl:(Value.ref (s.heap.objs.size+1)::us++ds).length=↑ps:=by
  have e:=r2.length;rw[F.len _ _ _ _ hq] at e;exact e.symm
 refine wpAny_call (aRp (f:=f) I.kIn M.makes M.init (beq_iff_eq.mp M.fn) (codeAny_mono (F.run _ X.stack _ _ (Value.ref (s.heap.objs.size+1)::us,[],) (Value.ref (s.heap.objs.size+1)::(us++ds)) _ _ E (hr.make C us [])
  (I2.env0.make C us []) (hb _ (Value.ref (s.heap.objs.size+1)::us) I2.kIn hl) r2 hq) λ r s' hq'=>?_))
 cases r with
 |error e=>exact hx aB σ _ _ e s' I2 hq'
 |ok fl=>
   cases fl with
   |ret u=>
     let(v,H',I3,rv,ev,q3):=I2.after hq';subst ev;exact(rv,(V.ref (s.heap.objs.size+1),H',I3,rfl,q3,),)
   |next=>exact False.elim hq'|brk=>exact False.elim hq'|cont=>exact False.elim hq'
def aUx{CX:mZ}{k:Nat}{f C:qw}{fd:vq}{ps:Li Str}{sp:Sp}{dvs:Li V}{ds:List qx}{E:XK}{x:Str}{p pos:Pos}{e:qy}{es:List qy}{t:TA}(M:Mk X.K C f)(F:FnOk X.prog X.w X.K X.mg X.base CX k f fd ps sp)(hr:Room (k+1) X.A)(hg:Gl X x)(hm:X.mg x=qz (.ref C))(hb:iE X.K fd ps ds)(hd:bF dvs ds)(hx:rD CX X E)
 (ha:PA X (e::es) t) (hdb:(x==("__debug__" : Str))=Ff:=by decide) (he:qo (e::es) X.env=(Ff,eval e X.env)::qo es X.env:=by rfl) (hpl:(backTo pos (qo es X.env)).any (·.1)=Ff:=by rfl) :
 PE X (.Call (.Name x p) (e::es) [] pos) (aMR C sp dvs E t):=by intro aB s σ H Q I h;refine xy (aBg I hg hm ?_ hdb);refine yHf (h₀:=X.base) I.ok.mod.kin M.kp (bJ (ha pos aB s σ H _ I h) λ us s1 ⟨vs,H1,I1,r,q⟩=>(I1.kIn,?_,)) he hpl;exact aRo M F hr hb hd hx I1 r q
structure KBinds(K:FrG)(fd:vq)(ps ks:List Str)(g:List qx->List qx->List qx)(gV:List V->List V->List V):Prop where
 to:∀ (s:qv) (us ws:List qx),K.In s.heap->(g us ws).length=↑ps->BindsTo s fd ⟨us,ks.zip ws⟩ (ps.zip (g us ws))
 rel:∀ {vs:List V}{us:List qx}{zs:List V}{ws:List qx},bF vs us->bF zs ws->bF (gV vs zs) (g us ws)
structure FnScope(N P:List Str)(sc:zw):Prop where
 kind:sc.kind=.function
 co:sc.isCoroutine=Ff
 gen:sc.isGenerator=Ff
 nd:N.Nodup
 pre:N.take P.length=P
 par:∀ x∈P,sc.names.lookup x=qz .local\/sc.names.lookup x=qz .cell
 nofree:∀ y∈sc.names,y.2≠.free
def aHW{kindOf:Str->Option jy}:∀ {binds:Li (Str×qx)}{m:Str->Option qx},(∀ v,(x,v) ∉ binds)->bindL kindOf binds m x=m x
 |[],_,_=>rfl
 |(n,v)::r,m,h=>by
   unfold bindL;rw[aHW λ w hw=>h w (xAf _ hw)];split
   .have:x≠n:=by rintro rfl;exact h v xAc
    simp[this]
   .rfl
def aH6{kindOf:Str->Option jy}:∀ {binds:Li (Str×qx)}{m:Str->Option qx},(∀ v,(x,v) ∉ binds)->bindC kindOf binds m x=m x
 |[],_,_=>rfl
 |(n,v)::r,m,h=>by
   unfold bindC;rw[aH6 λ w hw=>h w (xAf _ hw)];split
   .rfl
   grind
def aHT{kindOf:Str->Option jy}:∀ {P:Li Str}{vs:List qx}{i:Nat}{m:Str->Option qx},P.Nodup->P[i]?=qz x->vs[i]?=qz v->kindOf x=qz .local ->
 bindL kindOf (P.zip vs) m x=qz v
 |[],_,_,_,_,h,_,_=>by simp at h|_::_,[],_,_,_,_,h,_=>by simp at h
 |p::P,w::vs,0,m,nd,h1,h2,hk=>by
   simp at h1 h2;subst h1;subst h2;show bindL kindOf ((p,w)::P.zip vs) m p=_;unfold bindL;rw[aHW λ v hv=>(List.nodup_cons.mp nd).1 (List.of_mem_zip hv).1,if_pos hk];simp
 |p::P,w::vs,i+1,m,nd,h1,h2,hk=>by
   show bindL kindOf ((p,w)::P.zip vs) m x=_;unfold bindL;exact aHT (i:=i) (List.nodup_cons.mp nd).2 (h1:) (h2:) hk
def aHU{kindOf:Str->Option jy}:∀ {P:Li Str}{vs:List qx}{i:Nat}{m:Str->Option qx},P.Nodup->P[i]?=qz x->vs[i]?=qz v->kindOf x≠qz .local ->
 bindC kindOf (P.zip vs) m x=qz v
 |[],_,_,_,_,h,_,_=>by simp at h|_::_,[],_,_,_,_,h,_=>by simp at h
 |p::P,w::vs,0,m,nd,h1,h2,hk=>by
   simp at h1 h2;subst h1;subst h2;show bindC kindOf ((p,w)::P.zip vs) m p=_;unfold bindC;rw[aH6 λ v hv=>(List.nodup_cons.mp nd).1 (List.of_mem_zip hv).1,if_neg hk];simp
 |p::P,w::vs,i+1,m,nd,h1,h2,hk=>by
   show bindC kindOf ((p,w)::P.zip vs) m x=_;unfold bindC;exact aHU (i:=i) (List.nodup_cons.mp nd).2 (h1:) (h2:) hk
def start(N:Li Str)(vs:Li V):St:=vs.map qz++yAg (N.length-↑vs) qj
def uP(CX:mZ)(P:zq)(w:zj)(K:FrG)(mg:Str->Option qx)(base:Heap)(N:Li Str)(qual:Str)(scope:zw)(f:qw)(cd:qx)(A:zv)(outer:Li Env)(s:qv)(H:Hp)(E:XK):Cx where
 prog:=P
 w:=w
 K:=K
 mg:=mg
 base:=base
 A:=A.deeper (envOfC qual scope s.heap.objs.size f cd)
 N:=N
 s₀:=s
 H₀:=H
 env:=envOfC qual scope s.heap.objs.size f cd
 outer:=outer
 stack:=envOfC qual scope s.heap.objs.size f cd::outer
 ex:=[]
 calm:=Tt
 fn:=λ _=>Tt
 pn:=[]
 xe:=λ e s'=>qu (model P w) (A.deeper (envOfC qual scope s.heap.objs.size f cd)) (leaving (envOfC qual scope s.heap.objs.size f cd) e) (λ _ s''=>CX outer H s E e s'') (λ e' s''=>CX outer H s E e' s'') s'
def aIW{sc:zw}(h:sc.names.lookup x=qz .cell):∃ c,(cellsFrom n sc.names []).lookup x=qz c:=by have q:=PySem.W.cellsFrom_some sc.names n [] (.inl h);exact Option.isSome_iff_exists.mp q
def aQl{mg:Str->Option qx}{A:zv}{E:XK}{vs:Li V}(S:FnScope N ps scope)(hd:A.handled=qj)(e0:Env0 P w K mg base A outer s H)(hl:↑vs=↑ps)(r:bF vs us)(x:InCallC s s.heap.objs.size (bindL (envOfC qual scope s.heap.objs.size f cd).kindOf (ps.zip us) λ _=>qj) (cellsFrom (s.heap.objs.size+1) scope.names []) (bindC (envOfC qual scope s.heap.objs.size f cd).kindOf (ps.zip us) λ _=>qj) s1) :
 Inv (uP CX P w K mg base N qual scope f cd A outer s H E) [] (start N vs) H s1:=by
 have hpl:↑ps<=N.length:=by have:=congrArg yGs S.pre;rw[yBj] at this;omega
 let(h1,tk,rfl,hk):=x.done;have noA:∀ b:qw,b ∉ (uP CX P w K mg base N qual scope f cd A outer s H E).ex:=λ b z=>absurd (show b∈([]:List qw) from z) (by simp)
 refine⟨(e0.mod,S.kind,rfl,rfl,yAc _,λ y z c h1 h2=>?_,λ y hy=>?_,λ y c _ h=>?_,λ _=>hd,Around.frames_deeper e0.frames,.inr (rfl,rfl,),λ b z=>absurd z (noA b),e0.bs,e0.bsz,λ b _ _=>noA b,λ b z=>absurd z (noA b),e0.funs,e0.frf,),
  rfl,e0.bare,Un.kept hk,(_,x.toInCall.ns,λ i y v h1 h2 h3=>?_,),λ y c h=>(_,x.cell y c h,),e0.hok.fresh (yAc _),λ y c h=>?_,λ p hp=>absurd (show p∈([]:Li (qw×Obj)) from hp) (by simp),e0.hok.kept hk,?_⟩
 .exact name_of_addr x.apart (PySem.mem_of_lookup h1) (PySem.mem_of_lookup h2)
 .have hy:scope.names.lookup y=qz .cell\/scope.names.lookup y=qz .free:=hy;rcases hy with hy|hy
  .exact aIW hy
  .exact absurd rfl (S.nofree _ (PySem.mem_of_lookup hy))
 .exact yDx (x.above y c (PySem.mem_of_lookup h))
 .have hi:i<↑vs:=by
   unfold start at h2;by_cases hi:i<↑vs
   .exact hi
   .rw[yAh (hi:)] at h2;rw[yEm] at h2;split at h2<;>cases h2
  have ha:vs[i]?=qz v:=by
   unfold start at h2;rw[xAm (hi:),yAe] at h2;simp_all
  let(u,hu,rv):=r.get ha;have hp:ps[i]?=qz y:=by
   rw[<- S.pre,yCv (!_)];exact h1
  have ndP:ps.Nodup:=by rw[<- S.pre];exact S.nd.sublist (List.take_sublist _ _)
  refine(u,rv,?_,);rcases S.par y (xAk hp) with k|k
  .exact .inl (k,aHT ndP hp hu k,)
  .let(c,e):=aIW (n:=s.heap.objs.size+1) k;refine .inr (.inl k,c,e,?_,);have q:=x.cell y c e;rw[aHU ndP hp hu (by show scope.names.lookup y≠_;rw[k];decide)] at q;exact q
 .exact e0.hok.fresh (yDx (x.above y c (PySem.mem_of_lookup h)))
 .unfold start;show _=N.length;rw[xAn,yAd,yCp];omega
def aYD{mg:Str->Option qx}{dV kV:qx}(lk:K.lookup f=qz (oc,od,.func (yCb name qual params body scope dV kV doc pm an cdv ct),osl,))(hcd:yDj K cdv qual=Tt)(S:FnScope N ps scope)(len:∀ vs H Q E,sp vs H Q E->↑vs=↑ps)(hbody:∀ (A:zv) (outer:Li Env) (s:qv) (H:Hp) (vs:Li V) (Q:VK) (E:XK),Room k (A.deeper (envOfC qual scope s.heap.objs.size f cdv))->sp vs H Q E ->
   ∃ t,eQ (uP CX P w K mg base N qual scope f cdv A outer s H E) body t/\t {nx:=λ _ H'=>Q .non H',rt:=Q } (start N vs) H) :
 FnOk P w K mg base CX (k+1) f (yCb name qual params body scope dV kV doc pm an cdv ct) ps sp:=by
 refine(len,λ A outer s H args us vs Q E hr e0 hb r hsp=>?_,);have hl:=len _ _ _ _ hsp;have KX:K.In s.heap:=e0.mod.kin.keeps λ b o e=>(e0.bs b o e).1
 have lim:s.heap.NoLimit:=e0.mod.nolimit.keeps λ b o e=>(e0.bs b o e).1
 have hkind:∀ y∈ps.zip us,scope.names.lookup y.1=qz .local\/(scope.names.lookup y.1=qz .cell/\((cellsFrom (s.heap.objs.size+1) scope.names []).lookup y.1).isSome=Tt):=λ bC hy=>by
  let(n,v):=bC;rcases S.par n (List.of_mem_zip hy).1 with q|q
  .exact .inl q
  .exact .inr (q,PySem.W.cellsFrom_some _ _ _ (.inl q),)
 refine codeAny_call_function hr.depth (KX _ _ lk) rfl S.co S.gen rfl (PySem.W.codeRec_of KX hcd) (hb _ _ _ _ ?_);refine wpAny_newFunctionEnv_cells S.kind hkind λ env he s1 x=>?_
 subst he;refine(lim.keeps x.toInCall.keep,codeAny_func ?_,);let(t,ht,hq):=hbody A outer s H vs Q E (hr.deeper _) hsp;have I:Inv (uP CX P w K mg base N qual scope f cdv A outer s H E) [] (start N vs) H s1:=aQl S hr.hd e0 hl r x;refine wpAny_mono (ht [] s1 (start N vs) H _ I hq) (λ fl s' hs=>?_) λ e s' hs=>hs
 have cS:∀ {σ':St}{H':Hp}{v:V}{u:qx},Inv (uP CX P w K mg base N qual scope f cdv A outer s H E) [] σ' H' s'->bB v u->Q v H'->CE outer P w H s Q u s':=
  λ {σ' H' v u} J rv q=>(v,H',J.os,J.bare,J.base,J.hok,rv,q,)
 cases fl with
 |ret u=>
   let(v,σ',H',J,rv,q):=hs;exact cS J rv q
 |next=>
   let(σ',H',J,q):=hs;exact cS (v:=V.non) (u:=Value.none) J rfl q
 |brk=>
   let(_,_,_,q):=hs;exact False.elim q
 |cont=>
   let(_,_,_,q):=hs;exact False.elim q
end L2
namespace L2
open PySem PySem.Spec PyProof.Rows
def tCB(r:Li V->Hp->VK->Prop)(t:TA):TE:=λ σ H Q=>t σ H λ vs H1=>r vs H1 Q
def tE{X:Cx}{x:Str}{p pos:Pos}{e:qy}{es:List qy}{t:TA}{id:String}{r:Li V -> Hp -> VK -> Prop}(hc:gE X (.builtin id) r)(hg:Gl X x)(hm:X.mg x=qj)(hv:xo x=qz (.builtin id))(ha:PA X (e::es) t)(hn:x ≠ "__name__":=by decide)(hdb:(x==("__debug__" : Str))=Ff:=by decide)
 (he:qo (e::es) X.env=(Ff,eval e X.env)::qo es X.env:=by rfl) (hpl:(backTo pos (qo es X.env)).any (·.1)=Ff:=by rfl):PE X (.Call (.Name x p) (e::es) [] pos) (tCB r t):=by intro aB s σ H Q I h;refine xy (nT I hg hm hv ?_ hn hdb);exact PyProof.Rows.callWith_builtin1 (bJ (ha pos aB s σ H _ I h) λ us s1 ⟨vs,H1,I1,r1,q1⟩=>hc aB s1 σ H1 vs us Q I1 r1 q1) he hpl
def aIm{X:Cx}{x:Str}{p pos:Pos}{e:qy}{es:List qy}{t:TA}{T:String}{r:Li V -> Hp -> VK -> Prop}(hc:gE X (.type T) r)(hg:Gl X x)(hm:X.mg x=qj)(hv:xo x=qz (.type T))(ha:PA X (e::es) t)(hn:x ≠ "__name__":=by decide)(hdb:(x==("__debug__" : Str))=Ff:=by decide)
 (he:qo (e::es) X.env=(Ff,eval e X.env)::qo es X.env:=by rfl) (hpl:(backTo pos (qo es X.env)).any (·.1)=Ff:=by rfl):PE X (.Call (.Name x p) (e::es) [] pos) (tCB r t):=by intro aB s σ H Q I h;refine xy (nT I hg hm hv ?_ hn hdb);exact yBl (bJ (ha pos aB s σ H _ I h) λ us s1 ⟨vs,H1,I1,r1,q1⟩=>hc aB s1 σ H1 vs us Q I1 r1 q1) he hpl
end L2
namespace HT
open PySem PyProof.Rows
section
open PySem.SeqAt
open PySem.AutoSeq1 (wpAny_loadPart')
open PySem.MeetsSeq PySem.MeetsSeq2 PySem.MeetsSeq3
end
def cat_tup{E:qx -> qv -> Prop}{s:qv}{vs ws:List qx}{Q:qx->qv->Prop}(ht:IsTup s.heap t vs.toArray)(hb:IsTup s.heap b ws.toArray)(hv:vs≠[])(h1:ws=[]->Q (.ref t) s)(h2:ws≠[]->Q (.ref s.heap.objs.size) {s with heap:=s.heap.push {cls:=.type "tuple",data:=.seq (vs++ws).toArray } })(hsz:↑vs+↑ws<=qk):qu (model prog w) A (zk .Add (.ref t) (.ref b)) Q E s:=by
 let((cls,dd,data,sl),ho,hc,n,hd):=id ht;let((cls2,dd2,data2,sl2),ho2,hc2,n2,hd2):=id hb;simp only at hc hd hc2 hd2;subst hc hd hc2 hd2;have e:vs.toArray++ws.toArray=(vs++ws).toArray:=by simp
 by_cases hw:ws=[]
 .exact concat_meets (_,ho,rfl,) (_,ho2,rfl,) noFill_tuple_add seq_tuple_add yGe yFt (yFq _ _)
   (tuple_addW1 t b vs.toArray ws.toArray n n2 dd dd2 sl sl2 (hv:) (by simp[hw])) (ho,ho2,h1 hw,)
 .refine concat_meets (_,ho,rfl,) (_,ho2,rfl,) noFill_tuple_add seq_tuple_add yGe yFt (yFq _ _)
   (tuple_addW2 t b vs.toArray ws.toArray n n2 dd dd2 sl sl2 (hv:) (hw:) (by rw[yAj,yAj];exact hsz)) (ho,ho2,?_,)
  rw[e];exact h2 hw
def sIx(n d:Nat):Oz Int->Nat
 |none=>d
 |some v=>if v<0 then (v+(n:Int)).toNat else min v.toNat n
def sIx_none(n d:Nat):sIx n d qj=d:=rfl
def sIx_nat(n d k:Nat):sIx n d (qz (k:Int))=min k n:=by show(if (k:Int)<0 then ((k:Int)+(n:Int)).toNat else min (k:Int).toNat n)=min k n;rw[if_neg (!_),yAu]
def aWn(n d:Nat)(hd:d<=n)(o:Oz Int):sIx n d o<=n:=by
 cases o with
 |none=>exact hd
 |some v=>
   show(if v<0 then (v+(n:Int)).toNat else min v.toNat n)<=n;by_cases hv:v<0
   .rw[if_pos hv];omega
   .rw[if_neg hv];exact yDs _ _
def aKa(v:Int)(n d:Nat):(if v<0 then max (v+(n:Int)) 0 else min v (n:Int))=((sIx n d (qz v):Nat):Int):=by
 show(if v<0 then max (v+(n:Int)) 0 else min v (n:Int))=(((if v<0 then (v+(n:Int)).toNat else min v.toNat n):Nat):Int);by_cases hv:v<0
 .simp only[if_pos hv];omega
 .simp only[if_neg hv];omega
def aP9(lo hi:Oz Int)(n:Nat):yFg lo hi 1 (n:Int)=(((sIx n 0 lo:Nat):Int),((sIx n n hi:Nat):Int)):=by
 have h1:¬ ((1:Int)<0):=by omega
 unfold yFg;simp only[h1,if_false];refine Prod.ext ?_ ?_
 .cases lo with|none=>rfl|some v=>exact aKa v n 0
 .cases hi with|none=>rfl|some v=>exact aKa v n n
def aPE(i j:Nat):yEb (i:Int) (j:Int) 1=j-i:=by
 unfold yEb;have h1:(1:Int)>0:=by omega
 simp only[h1,if_true,Int.ediv_one];split<;>omega
def aHN{E:qx -> qv -> Prop}{Q:Oz Int->qv->Prop}(p:IsPart v o)(h:Q o s):qu (model prog w) A (Builtin.Slice.slicePartIndex v) Q E s:=by
 cases p with
 |none=>exact slicePart_none h|int i t=>exact slicePart_int h
def sliceApplied_gen{E:qx -> qv -> Prop}{s:qv}{lo hi:Oz Int}{Q:Int×Int×Nat->qv->Prop}(hs:s.heap.IsSliceOf sl vl vu .none)(pl:IsPart vl lo)(pu:IsPart vu hi)(h:Q (((sIx n 0 lo:Nat):Int),1,sIx n n hi-sIx n 0 lo) s):qu (model prog w) A (yGy (.ref sl) (pure (n:Int))) Q E s:=by let(os,hos,hcs,hds):=id hs;unfold yGy Builtin.Slice.sliceFields;refine wB (wB (xq hos hds (x:=vl) rfl (wB (xq hos hds (x:=vu) rfl (wB (xq hos hds (x:=.none) rfl (wP ?_)))))));refine wB (slicePart_none ?_);show qu _ _ (if ((1:Int)==0)=Tt then _ else _) _ _ s;rw[if_neg (·)];refine wB (aHN pl (wB (aHN pu (wB (wP ?_)))));show qu _ _ (match yFg lo hi 1 (n:Int) with|(lo,hi)=>pure (lo,(1:Int),yEb lo hi 1)) _ _ s;rw[aP9 lo hi n];show qu _ _ (pure (((sIx n 0 lo:Nat):Int),(1:Int),yEb ((sIx n 0 lo:Nat):Int) ((sIx n n hi:Nat):Int) 1)) _ _ s;rw[aPE];exact wP h
def aRk(xs:Array qx)(i k:Nat):((yBh k).filterMap λ(m:Nat)=>xs[((i:Int)+(m:Int)*1).toNat]?).toArray=((xs.toList.drop i).take k).toArray:=by
 have e:(λ(m:Nat)=>xs[((i:Int)+(m:Int)*1).toNat]?)=λ m=>xs[i+m]?:=by
  funext m;have:((i:Int)+(m:Int)*1).toNat=i+m:=by omega
  rw[this]
 rw[e];have:=pick_run xs i k;rw[List.filterMap_map] at this;have e2:((λ x=>xs[x]?) ∘ λ x=>i+x)=λ m=>xs[i+m]?:=rfl
 rw[e2] at this;rw[this]
def getItem_tuple_cut{E:qx -> qv -> Prop}{s:qv}{lo hi:Oz Int}{Q:qx->qv->Prop}(ht:IsTup s.heap t bD)(hs:s.heap.IsSliceOf sl vl vu .none)(pl:IsPart vl lo)(pu:IsPart vu hi)(hw:¬ (sIx bD.size 0 lo=0/\sIx bD.size bD.size hi=bD.size))(h:Q (.ref s.heap.objs.size) {s with heap:=s.heap.push {cls:=.type "tuple",data:=.seq ((bD.toList.drop (sIx bD.size 0 lo)).take (sIx bD.size bD.size hi-sIx bD.size 0 lo)).toArray } })(hsz:bD.size<=qk):qu (model prog w) A (getItem (.ref t) (.ref sl)) Q E s:=by
 have htake:sizeOk (.seq ((bD.toList.drop (sIx bD.size 0 lo)).take (sIx bD.size bD.size hi-sIx bD.size 0 lo)).toArray):=by
  show((bD.toList.drop (sIx bD.size 0 lo)).take (sIx bD.size bD.size hi-sIx bD.size 0 lo)).toArray.size<=qk;rw[yAj,yBj,yHy,yGt];omega
 have hj:sIx bD.size bD.size hi<=bD.size:=aWn _ _ (yAc _) hi;let(os,hos,hcs,hds):=id hs;have hTs:s.TypeIs (.ref sl) "slice":=(os,hos,hcs,);unfold getItem
 try with_reducible refine zu ?_
 first|refine wB (wP ?_)|skip
 refine wB (wpAny_sequenceKey ht.typeIs (·) ?_)
 refine wB (wpAny_callSpecial?_slot (name:=Str.ofString "__getitem__") ht.typeIs yCk
  (jo yCk ht.typeIs entry_tuple_getitem ?_ (args_tuple_getitem _ _)))
 show qu _ _ (yGz (.ref t) >>= _) _ _ s;refine wB (tupleItemsOf_ ht ?_);refine wB (wpAny_typeOf hTs ?_);rw[if_pos (·)];refine wB (sliceApplied_gen hs pl pu ?_);have hno:¬ ((((sIx bD.size 0 lo:Nat):Int)==0&&(1:Int)==1&&(sIx bD.size bD.size hi-sIx bD.size 0 lo)==bD.size)=Tt):=by
  simp_all
 show qu _ _ (if (((sIx bD.size 0 lo:Nat):Int)==0&&(1:Int)==1&&(sIx bD.size bD.size hi-sIx bD.size 0 lo)==bD.size)=Tt then _ else _) _ _ s;rw[if_neg hno,aRk]
 first
  |exact wB (m:=yCw _) (xj (wP (_,rfl,wP h,)) htake)
  |exact wB (m:=yCw _) (xj (wB (wP (wP (_,rfl,wP h,)))) htake)
  |exact wB (wB (m:=yCw _) (xj (wP (wP (_,rfl,wP h,))) htake))
  |exact wB (wB (m:=yCw _) (xj (wP (_,rfl,wP h,)) htake))
end HT
namespace L2
open PySem PySem.Spec PyProof.Rows
abbrev TO:=St->Hp->(Option Int->Hp->Prop)->Prop
def PO(X:Cx)(e:Option qy)(t:TO):Prop:=
 ∀ (aB:Li (qw×Obj)) (s:qv) (σ:St) (H:Hp) (Q:Oz Int->Hp->Prop),Inv X aB σ H s->t σ H Q ->
  qu (model X.prog X.w) X.A (evalPart e X.env) (λ u s'=>∃ o H',Inv X aB σ H' s'/\IsPart u o/\Q o H') X.xe s
def aVd:TO:=λ _ H Q=>Q qj H
def bAJ(t:TE):TO:=λ σ H Q=>t σ H λ x H1=>∃ i,x=.int i/\Q (qz i) H1
def aPO{ns:Li Int}:∀ {us:List qx},bF (ns.map V.int) us->IntsAre us ns:=by
 induction ns with
 |nil=>intro us r;rw[yEj] at r;cases r;exact .nil
 |cons n ns ih=>
   intro us r;rw[yAk] at r;cases r with
   |cons r1 r2=>
     let(t,e):=r1;subst e;exact .cons n t (ih r2)
def aTT:PO X qj aVd:=by intro aB s σ H Q I h;rw[evalPart_none];exact wP (qj,H,I,.none,h,)
def aUc{te:TE}(h:PE X e te):PO X (qz e) (bAJ te):=by
 intro aB s σ H Q I hw;rw[evalPart_some];refine bJ (h aB s σ H _ I hw) λ u s1 hPq30=>?_
 let(x,H1,I1,r1,q1):=hPq30;let(i,rfl,q):=q1;let(t,rfl):=r1;exact(qz i,H1,I1,.int i t,q,)
def SlR(X:Cx)(r:V->Oz Int->Oz Int->Hp->VK->Prop):Prop:=
 ∀ (aB:Li (qw×Obj)) (s:qv) (σ:St) (H:Hp) (x:V) (v vl vu:qx) (lo hi:Oz Int) (sl:qw) (Q:VK),Inv X aB σ H s->bB x v->s.heap.IsSliceOf sl vl vu .none->IsPart vl lo->IsPart vu hi->r x lo hi H Q ->
  ∃ T id,typeLookup (.type T) "__getitem__" = pure (qz (.builtin id))/\s.TypeIs v T/\qu (model X.prog X.w) X.A (getItem v (.ref sl)) (EP X aB σ Q) X.xe s
def tSl(r:V->Oz Int->Oz Int->Hp->VK->Prop)(te:TE)(tl th:TO):TE:=λ σ H Q=>te σ H λ x H1=>tl σ H1 λ l H2=>th σ H2 λ u H3=>r x l u H3 Q
def aJr{te:TE}{lo hi:Option qy}{r:V->Oz Int->Oz Int->Hp->VK->Prop}(hr:SlR X r)(he:PE X e te)(hl:PO X lo tl)(hu:PO X hi th):PE X (.Subscript e (.Slice lo hi qj p2) pos) (tSl r te tl th):=by
 intro aB s σ H Q I h;refine Subscript_ (bJ (he aB s σ H _ I h) λ v s1 hPq31=>?_);let(x,H1,I1,r1,q1):=hPq31;refine wpAny_Slice (bJ (hl aB s1 σ H1 _ I1 q1) λ vl s2 ⟨l,H2,I2,pl,q2⟩=>bJ (hu aB s2 σ H2 _ I2 q2) λ vu s3 hPq32=>?_);let(u,H3,I3,pu,q3):=hPq32;rw[evalPart_none];refine wP ?_;have I4:Inv X aB σ H3 {s3 with heap:=s3.heap.push {cls:=.type "slice",data:=.fields #[vl,vu,.none] } }:=I3.kept (t':=s3.toks) λ b ob q=>hpS _ q
 let(T,id,hT,ht,hg):=hr aB {s3 with heap:=s3.heap.push {cls:=.type "slice",data:=.fields #[vl,vu,.none] } } σ H3 x v vl vu l u s3.heap.objs.size Q I4 r1 (Heap.IsSliceOf.new ..) pl pu q3;show qu (model X.prog X.w) X.A (subscriptTail e (.Slice lo hi qj p2) v (.ref s3.heap.objs.size)) (EP X aB σ Q) X.xe {s3 with heap:=s3.heap.push {cls:=.type "slice",data:=.fields #[vl,vu,.none] } };exact tail_any (ops:=[.ref s3.heap.objs.size,v]) ht hT hg (by with_unfolding_all rfl)
def oK(xs:Li V)(lo hi:Oz Int):Li V:=(xs.drop (HT.sIx ↑xs 0 lo)).take (HT.sIx ↑xs ↑xs hi-HT.sIx ↑xs 0 lo)
def aHr(xs:Li V)(lo hi:Oz Int):(oK xs lo hi).length<=↑xs:=by unfold oK;rw[yBj,yHy];omega
def bBI(K:FrG):V->Oz Int->Oz Int->Hp->VK->Prop:=λ x lo hi H Q=>∃ a xs,x=.ref a/\cZ K H a xs /\
 ¬ (HT.sIx ↑xs 0 lo=0/\HT.sIx ↑xs ↑xs hi=↑xs)/\∀ p,H p=qj->Q (.ref p) (bL H p (.tup (oK xs lo hi)))
def aWD:SlR X (bBI X.K):=by
 intro aB s σ H x v vl vu lo hi sl Q I rx hs pl pu h;let(a,xs,rfl,hx,hw,q):=h;cases rx;let(aI,r,ht,hz):=I.tuple hx;have dE:aI.toArray.size=↑xs:=by rw[yAj];exact r.length.symm
 refine("tuple",_,PyProof.Rows.slot_tuple_getitem.lookup,ht.typeIs,?_,);refine HT.getItem_tuple_cut ht hs pl pu (by rw[dE];exact hw) ?_ (by rw[dE];exact hz);rw[dE];refine(.ref s.heap.objs.size,_,I.laid (t':=s.toks) (o:=.tup (oK xs lo hi)) (λ b ob q=>hpS _ q) (yAc _) ?_,rfl,q _ (I.hok.fresh (yAc _)),);exact(xAh (aHr xs lo hi) hz,_,(r.drop (HT.sIx ↑xs 0 lo)).take (HT.sIx ↑xs ↑xs hi-HT.sIx ↑xs 0 lo),IsTup.new _ _,)
def aZL(K:FrG):R2:=λ x y H Q=>∃ a b xs ys,x=.ref a/\y=.ref b/\cZ K H a xs/\cZ K H b ys/\xs≠[]/\↑xs+↑ys<=qk /\
 (ys=[]->Q (.ref a) H)/\(ys≠[]->∀ p,H p=qj->Q (.ref p) (bL H p (.tup (xs++ys))))
def bF.nil_iff{xs:Li V}(r:bF xs us):us=[] ↔ xs=[]:=by
 cases r with
 |nil=>simp|cons _ _=>simp
def aU1:dY X (zk .Add) (aZL X.K):=by intro aB s σ H x y v u Q I rx ry h;let(a,b,xs,ys,rfl,rfl,ha,hb,hx,hz,q1,q2):=h;cases rx;cases ry;let(aI,r1,p1,_):=I.tuple ha;let(vK,r2,p2,_):=I.tuple hb;refine HT.cat_tup p1 p2 (λ z=>hx (r1.nil_iff.mp z)) (λ z=>(.ref a,H,I,rfl,q1 (r2.nil_iff.mp z),)) (λ z=>?_) (by rw[<- r1.length,<- r2.length];exact hz);refine(.ref s.heap.objs.size,_,I.laid (t':=s.toks) (o:=.tup (xs++ys)) (λ b ob q=>hpS _ q) (yAc _) ?_,rfl,q2 (λ w=>z (r2.nil_iff.mpr w)) _ (I.hok.fresh (yAc _)),);exact(by rw[xAn];exact hz,_,r1.append r2,IsTup.new _ _,)
end L2
namespace L2
open PySem PySem.Spec PyProof.Rows
def mC(n:Nat)(i:Int):Oz Nat:=if 0<=i then (if i<n then qz i.toNat else qj) else if -(n:Int)<=i then qz (i+n).toNat else qj
def lY{α:Type}(xs:List α)(i:Int):Option α:=(mC ↑xs i).bind λ j=>xs[j]?
def aKx{i:Int}(h:mC n i=qz j):seqIndex? i n=qz j/\j<n /\ -(n:Int)<=i/\i<n:=by
 unfold mC at h;by_cases h0:0<=i
 .rw[if_pos h0] at h;by_cases h1:i<n
  .rw[if_pos h1] at h;have e:i.toNat=j:=Option.some.inj h;exact(by rw[seqIndex_of h0 h1,e],by omega,by omega,h1,)
  .rw[if_neg h1] at h;cases h
 .rw[if_neg h0] at h;by_cases h1 : -(n:Int)<=i
  .rw[if_pos h1] at h;have e:(i+n).toNat=j:=Option.some.inj h;exact(by rw[seqIndex_neg (!_) h1,e],by omega,h1,by omega,)
  .rw[if_neg h1] at h;cases h
def aD7{α:Type}{xs:List α}{i:Int}{v:α}(h:lY xs i=qz v):∃ j,seqIndex? i ↑xs=qz j/\xs[j]?=qz v/\j<↑xs /\ -(↑xs:Int)<=i/\i<↑xs:=by
 unfold lY at h;cases e:mC ↑xs i with
 |none=>rw[e] at h;cases h
 |some j=>
   rw[e] at h;let(h1,h2,h3,h4):=aKx e;exact(j,h1,h,h2,h3,h4,)
def wX(b:qy):Prop:=∀ o i,subscripted b Ff o i=operate [o,i] (getItem o i)
def vG(X:Cx)(r:R2):Prop:=
 ∀ (value iX:qy) (aB:Li (qw×Obj)) (s:qv) (σ:St) (H:Hp) (x y:V) (v u:qx) (Q:VK),Inv X aB σ H s->bB x v->bB y u->r x y H Q ->
  subscripted iX Ff v u=operate [v,u] (getItem v u)->qu (model X.prog X.w) X.A (subscriptTail value iX v u) (EP X aB σ Q) X.xe s
def MtR(X:Cx)(id:String)(r:V->Li V->Hp->VK->Prop):Prop:=
 ∀ (aB:Li (qw×Obj)) (s:qv) (σ:St) (H:Hp) (x:V) (xs:Li V) (v:qx) (us:List qx) (Q:VK),Inv X aB σ H s->bB x v->bF xs us->r x xs H Q ->
  qu (model X.prog X.w) X.A (call (.builtin id) (v::us)) (EP X aB σ Q) X.xe s
def aNc{ta tb:TE}{r:R2}(hr:vG X r)(ha:PE X a ta)(hb:PE X b tb)(hs:wX b):PE X (.Subscript a b pos) (tOp r ta tb):=by intro aB s σ H Q I h;exact Subscript_ (aFW ha hb I h λ v u s2 x y H2 I2 rx ry q=>hr a b aB s2 σ H2 x y v u Q I2 rx ry q (hs _ _))
def bA7(K:FrG):R2:=λ x y H Q=>∃ p xs i v,x=.ref p/\y=.int i/\cI K H p xs/\lY xs i=qz v/\Q v H
def bBN(K:FrG):R2:=λ x y H Q=>∃ p xs i v,x=.ref p/\y=.int i/\cZ K H p xs/\lY xs i=qz v/\Q v H
def bBK:R2:=λ x y H Q=>∃ z i c,x=.str z/\y=.int i/\z.length<=qk/\lY z.cps.toList i=qz c/\Q (.str ⟨#[c]⟩) H
def aUL:vG X (bA7 X.K):=by
 intro value iX aB s σ H x y v u Q I rx ry h hs;let(p,xs,i,z,rfl,rfl,hq,he,q):=h;cases rx;let(t,rfl):=ry;let(aI,r,pl,hz):=I.list hq;let(j,h1,h2,h3,h4,h5):=aD7 he;let(w,ew,rw'):=r.get h2;have hl:=r.length;have hn:=nM;have cS:EP X aB σ Q w s:=(z,H,I,rw',q,);by_cases h0:0<=i
 .have hj:i.toNat=j:=by
   rw[seqIndex_of h0 h5] at h1;exact Option.some.inj h1
  exact item_listR pl.isList h0 (!_) (by rw[hj];simpa using ew) cS hs
 .have hj:(i+(aI.toArray.size:Int)).toNat=j:=by
   rw[seqIndex_neg (!_) h4] at h1;rw[yAj,<- hl];exact Option.some.inj h1
  exact subscriptTail_builtinR (x:=w) pl.isList.typeIs slot_list_getitem.lookup
   (wpAny_getItem_list_neg (Q:=λ r s'=>r=w/\EP X aB σ Q r s') pl.isList (!_) (by rw[yAj]<;>omega) (!_) (by rw[hj];simpa using ew) (rfl,cS,)) hs
def aWs:vG X (bBN X.K):=by
 intro value iX aB s σ H x y v u Q I rx ry h hs;let(p,xs,i,z,rfl,rfl,hq,he,q):=h;cases rx;let(t,rfl):=ry;let(aI,r,pl,hz):=I.tuple hq;let(j,h1,h2,h3,h4,h5):=aD7 he;let(w,ew,rw'):=r.get h2;have hl:=r.length;have hn:=nM;have cS:EP X aB σ Q w s:=(z,H,I,rw',q,);exact subscriptTail_builtinR (x:=w) pl.typeIs slot_tuple_getitem.lookup
  (getItem_tuple (j:=j) (Q:=λ r s'=>r=w/\EP X aB σ Q r s') pl (!_) (!_) (by rw[yAj,<- hl];exact h1) (ew:) (rfl,cS,)) hs
def aWK:vG X bBK:=by
 intro value iX aB s σ H x y v u Q I rx ry h hs;let(z,i,c,rfl,rfl,hz,he,q):=h;let(t,rfl):=rx;let(t',rfl):=ry;let(j,h1,h2,h3,h4,h5):=aD7 he;have hl:z.cps.toList.length=z.length:=by simp[Str.length]
 rw[hl] at h1 h4 h5;have hn:=nM;exact tail_any (typeIs_str s z t) slot_str_getitem.lookup (getItem_str (c:=c) (by
  have e1:decide (i < -(2^63:Int))=Ff:=dqF (!_);have e2:decide (i ≥ 2^63)=Ff:=dqF (!_)
  rw[e1,e2,yFu]) (by rw[h1];simpa using h2) (.str ⟨#[c]⟩,H,I.tok _,(_,rfl,),q,)) hs
def aP3(aI:List qx)(n j:Nat)(u:qx):Obj.mapSeq (·.setIfInBounds j u) {cls:=.type "list",data:=.seq aI.toArray n }={cls:=.type "list",data:=.seq (aI.set j u).toArray n }:=by simp[Obj.mapSeq]
def Inv.lst{xs:Li V}(I:Inv X aB σ H s)(h:H p=qz (.lst xs)) :
 ∃ (aI:List qx) (n:Nat),bF xs aI/\s.heap.get? p=qz {cls:=.type "list",data:=.seq aI.toArray n }/\↑xs<=qk:=by let(z,aI,n,r,e):=I.hok p _ h;exact(aI,n,r,e,z,)
def Inv.lstUpd{X:Cx}{aB:Li (qw×Obj)}{σ:St}{H:Hp}{s:qv}{p:qw}{xs ys:Li V}{aI its':List qx}{n n':Nat}{f:Obj->Obj}(I:Inv X aB σ H s)(h:H p=qz (.lst xs))
 (ho:s.heap.get? p=qz {cls:=.type "list",data:=.seq aI.toArray n }) (hf:f {cls:=.type "list",data:=.seq aI.toArray n }={cls:=.type "list",data:=.seq its'.toArray n' }) (r:bF ys its') (hz:↑ys<=qk) (t:Nat) :
 Inv X aB σ (bL H p (.lst ys)) {s with heap:=s.heap.update p f,toks:=t }:=by
 have e:(s.heap.update p f).get? p=qz {cls:=.type "list",data:=.seq its'.toArray n' }:=by
  rw[yCq f ho (by rw[hf]<;>rfl),hf]
 refine I.write (x:=p) (e:=p) (by rw[h];trivial) (.inl rfl) (λ b u hb q=>(yCh _ _ (Ne.symm hb)).trans q) (_,e,) ?_;exact(hz,its',n',r,e,)
def aMQ:V->V->V->Hp->(Hp->Prop)->Prop:=λ o i v H Q=>∃ p xs k j,o=.ref p/\i=.int k/\H p=qz (.lst xs)/\mC ↑xs k=qz j/\Q (bL H p (.lst (xs.set j v)))
def aR1:aNW X aMQ:=by
 intro aB s σ H o i v ov iv u Q I ro ri rv h;let(p,xs,k,j,rfl,rfl,hp,hj,q):=h;cases ro;let(t,rfl):=ri;let(aI,n,r,ho,hz):=I.lst hp;let(h1,h2,h3,h4):=aKx hj;have hl:=r.length;have hn:=nM;have I':Inv X aB σ (bL H p (.lst (xs.set j v))) {s with heap:=s.heap.update p (Obj.mapSeq (·.setIfInBounds j u)) }:=
  I.lstUpd hp ho (aP3 aI n j u) (r.set rv j) (by rw[yBb];exact hz) s.toks
 by_cases h0:0<=k
 .have hk:k.toNat=j:=by
   rw[seqIndex_of h0 h4] at h1;exact Option.some.inj h1
  exact PySem.W.ki_setAt ho h0 (!_) (by rw[yAj,<- hl];exact h4) (by rw[hk];exact(_,I',q,))
 .have hk:(k+(aI.toArray.size:Int)).toNat=j:=by
   rw[seqIndex_neg (!_) h3] at h1;rw[yAj,<- hl];exact Option.some.inj h1
  exact PySem.W.ki_setBack ho (!_) (by rw[yAj,<- hl];exact h3) (!_) (by rw[hk];exact(_,I',q,))
def aPb(lo hi:Oz Int)(n:Nat):(vj lo hi qj n).1=((HT.sIx n 0 lo:Nat):Int)/\(vj lo hi qj n).2.1=((HT.sIx n n hi:Nat):Int)/\(vj lo hi qj n).2.2=1:=by
 refine(?_,?_,rfl,)
 .cases lo with
  |none=>simp[vj,HT.sIx]
  |some i=>
    simp only[vj,HT.sIx,yHz,show(1:Int)>0 by decide,if_true];by_cases h:i<0
    .simp only[h,if_true]<;>omega
    .simp only[h,if_false]<;>omega
 .cases hi with
  |none=>simp[vj,HT.sIx]
  |some i=>
    simp only[vj,HT.sIx,yHz,show(1:Int)>0 by decide,if_true];by_cases h:i<0
    .simp only[h,if_true]<;>omega
    .simp only[h,if_false]<;>omega
def aOT(aI:List qx)(lo hi:Oz Int):slicePick aI.toArray lo hi qj=((aI.drop (HT.sIx aI.length 0 lo)).take (HT.sIx aI.length aI.length hi-HT.sIx aI.length 0 lo)).toArray:=by let(h1,h2,h3):=aPb lo hi aI.toArray.size;unfold slicePick;rw[h1,h2,h3];simp only[sliceRange_one,pick_run,yAj]<;>rfl
def bBn(K:FrG):V->Oz Int->Oz Int->Hp->VK->Prop:=λ x lo hi H Q=>∃ a xs,x=.ref a/\cI K H a xs/\∀ p,H p=qj->Q (.ref p) (bL H p (.lst (oK xs lo hi)))
def aUk:SlR X (bBn X.K):=by intro aB s σ H x v vl vu lo hi sl Q I rx hs pl pu h;let(a,xs,rfl,hx,q):=h;cases rx;let(aI,r,ht,hz):=I.list hx;have dE:=r.length;refine("list",_,slot_list_getitem.lookup,ht.isList.typeIs,?_,);refine wpAny_getItem_list_slice ht.isList hs pl pu .none (by simp) ?_ (by rw[yAj]<;>omega);rw[aOT,<- dE];refine(.ref s.heap.objs.size,_,I.laid (t':=s.toks) (o:=.lst (oK xs lo hi)) (λ b ob q=>hpS _ q) (yAc _) ?_,rfl,q _ (I.hok.fresh (yAc _)),);exact(xAh (aHr xs lo hi) hz,_,0,(r.drop (HT.sIx ↑xs 0 lo)).take (HT.sIx ↑xs ↑xs hi-HT.sIx ↑xs 0 lo),xAd _ rfl,)
def mS:V->Bool
 |.non=>Tt|.bl _=>Tt|.int _=>Tt|.str _=>Tt|_=>Ff
def pA:V->V->Bool
 |.non,.non=>Tt|.bl a,.bl b=>a==b
 |.bl a,.int b=>(if a then 1 else 0)==b
 |.int a,.bl b=>a==(if b then 1 else 0)
 |.int a,.int b=>a==b|.str a,.str b=>a==b|_,_=>Ff
def aWR(ry:bB y u)(rx:bB x v)(fy:mS y=Tt)(fx:mS x=Tt):SeqAt.EqAt A s u v (pA y x):=by
 cases y with
 |non=>
   cases ry;cases x with
   |non=>cases rx;exact SeqAt.EqAt.same _|bl b=>cases rx;exact SeqAt.EqAt.none_bool b
   |int b=>let(t,rfl):=rx;exact SeqAt.EqAt.none_int b t
   |str b=>let(t,rfl):=rx;exact SeqAt.EqAt.none_str b t
   |_=>exact absurd (show Ff=Tt from fx) yBr
 |bl a=>
   cases ry;cases x with
   |non=>cases rx;exact SeqAt.EqAt.bool_none a|bl b=>cases rx;exact SeqAt.EqAt.bool_bool a b
   |int b=>let(t,rfl):=rx;exact SeqAt.EqAt.bool_int a b t
   |str b=>let(t,rfl):=rx;exact SeqAt.EqAt.bool_str a b t
   |_=>exact absurd (show Ff=Tt from fx) yBr
 |int a=>
   let(t',rfl):=ry;cases x with
   |non=>cases rx;exact SeqAt.EqAt.int_none a t'|bl b=>cases rx;exact SeqAt.EqAt.int_bool a t' b
   |int b=>let(t,rfl):=rx;exact SeqAt.EqAt.int_int a t' b t
   |str b=>let(t,rfl):=rx;exact SeqAt.EqAt.int_str a t' b t
   |_=>exact absurd (show Ff=Tt from fx) yBr
 |str a=>
   let(t',rfl):=ry;cases x with
   |non=>cases rx;exact SeqAt.EqAt.str_none a t'|bl b=>cases rx;exact SeqAt.EqAt.str_bool a t' b
   |int b=>let(t,rfl):=rx;exact SeqAt.EqAt.str_int a t' b t
   |str b=>let(t,rfl):=rx;exact SeqAt.EqAt.str_str a t' b t
   |_=>exact absurd (show Ff=Tt from fx) yBr
 |_=>exact absurd (show Ff=Tt from fy) yBr
def iW(x:V)(u:qx):Bool:=match u with|.none=>pA .non x|.bool b=>pA (.bl b) x|.int i _=>pA (.int i) x|.str z _=>pA (.str z) x|_=>Ff
def aLy(r:bB y u)(f:mS y=Tt):iW x u=pA y x:=by
 cases y with
 |non=>cases r;rfl|bl b=>cases r;rfl
 |int i=>let(t,rfl):=r;rfl
 |str z=>let(t,rfl):=r;rfl
 |_=>exact absurd (show Ff=Tt from f) yBr
def wL:∀ {xs:Li V}{us:List qx},bF xs us->xs.all mS=Tt->us.any (iW x)=xs.any λ y=>pA y x
 |_,_,.nil,_=>rfl
 |y::xs,u::us,.cons r t,f=>by
   rw[List.all_cons,yBn] at f;rw[yFv,yFv,aLy r f.1,wL t f.2]
def wG(rx:bB x v)(fx:mS x=Tt):∀ {xs:Li V}{us:List qx},bF xs us->xs.all mS=Tt->∀ u∈us,SeqAt.EqAt A s u v (iW x u)
 |_,_,.nil,_=>λ u hu=>by cases hu
 |y::xs,u::us,.cons r t,f=>λ u' hu=>by
   rw[List.all_cons,yBn] at f;rcases List.mem_cons.mp hu with rfl|hu
   .rw[aLy r f.1];exact aWR r rx f.1 fx
   .exact wG rx fx t f.2 u' hu
def vH(x:V)(xs:Li V):Bool:=xs.any λ y=>pA y x
def rIn(K:FrG)(neg:Bool):R2:=λ x y H Q=>∃ p xs,y=.ref p/\(cI K H p xs\/cZ K H p xs)/\mS x=Tt/\xs.all mS=Tt/\Q (.bl (if neg then !vH x xs else vH x xs)) H
def aQR:dY X (xw .In) (rIn X.K Ff):=by
 intro aB s σ H x y v u Q I rx ry h;let(p,xs,rfl,hq,fx,fs,q):=h;cases ry;rcases hq with hq|hq
 .let(aI,r,pl,hz):=I.list hq;refine SeqAt.in_listAt (iW x) pl.isList (λ w hw=>wG rx fx r fs w (hw:)) (.bl _,H,I,rfl,?_,);rw[show aI.toArray.any (iW x)=aI.any (iW x) by simp,wL r fs];exact q
 .let(aI,r,pl,hz):=I.tuple hq;refine SeqAt.in_tupleAt (iW x) pl (λ w hw=>wG rx fx r fs w (hw:)) (.bl _,H,I,rfl,?_,);rw[show aI.toArray.any (iW x)=aI.any (iW x) by simp,wL r fs];exact q
def aO6:dY X (xw .NotIn) (rIn X.K Tt):=by
 intro aB s σ H x y v u Q I rx ry h;let(p,xs,rfl,hq,fx,fs,q):=h;cases ry;rcases hq with hq|hq
 .let(aI,r,pl,hz):=I.list hq;refine SeqAt.notIn_listAt (iW x) pl.isList (λ w hw=>wG rx fx r fs w (hw:)) (.bl _,H,I,rfl,?_,);rw[show aI.toArray.any (iW x)=aI.any (iW x) by simp,wL r fs];exact q
 .let(aI,r,pl,hz):=I.tuple hq;refine SeqAt.notIn_tupleAt (iW x) pl (λ w hw=>wG rx fx r fs w (hw:)) (.bl _,H,I,rfl,?_,);rw[show aI.toArray.any (iW x)=aI.any (iW x) by simp,wL r fs];exact q
def aHa:gE X (.builtin "len") (λ xs H Q=>∃ p ys,xs=[.ref p]/\(cI X.K H p ys\/cZ X.K H p ys)/\Q (.int ↑ys) H):=by
 intro aB s σ H xs us Q I r h;let(p,ys,rfl,hq,q):=h;let(u,rfl,rx):=oG r;cases rx;have hn:=nM;rcases hq with hq|hq
 .let(aI,r',pl,hz):=I.list hq;have dE:=r'.length;exact Calls.call_len_list pl.isList (by simp only[yAj]<;>omega) (.int ↑ys,H,I.tok _,(s.toks+1,by rw[yAj,dE],),q,)
 .let(aI,r',pl,hz):=I.tuple hq;have dE:=r'.length;exact len_tuple pl (by simp only[yAj]<;>omega) (.int ↑ys,H,I.tok _,(s.toks+1,by rw[yAj,dE],),q,)
def aO2:gE X (.builtin "len") (λ xs H Q=>∃ z,xs=[.str z]/\z.length<=qk/\Q (.int z.length) H):=by intro aB s σ H xs us Q I r h;let(z,rfl,hz,q):=h;let(u,rfl,t,rfl):=oG r;have hn:=nM;exact len_str (!_) (.int z.length,H,I.tok _,(_,rfl,),q,)
def aGY:gE X (.type "tuple") (λ xs H Q=>∃ p ys,xs=[.ref p]/\((cI X.K H p ys/\∀ l,H l=qj->Q (.ref l) (bL H l (.tup ys)))\/(cZ X.K H p ys/\Q (.ref p) H))):=by
 intro aB s σ H xs us Q I r h;let(p,ys,rfl,h):=h;let(u,rfl,rx):=oG r;cases rx;rcases h with ⟨hq,q⟩|⟨hq,q⟩
 .let(aI,r',pl,hz):=I.list hq;have dE:=r'.length;refine call_tuple_list pl.isList (λ h' kp=>?_) (by simp only[yAj]<;>omega);have I1:Inv X aB σ H {s with heap:=h' }:=I.kept (t':=s.toks) kp;have I2:Inv X aB σ (bL H h'.objs.size (.tup ys)) {s with heap:=h'.push {cls:=.type "tuple",data:=.seq aI.toArray } }:=
   I1.laid (t':=s.toks) (λ b o e=>hpS _ e) (yAc _) (show fM X.prog X.w _ _ _ (.tup ys) from (hz,aI,r',IsTup.new _ _,))
  exact(.ref h'.objs.size,_,I2,rfl,q _ (I1.hok.fresh (yAc _)),)
 .let(aI,r',pl,hz):=I.tuple hq;exact call_tuple_same pl (.ref p,H,I,rfl,q,)
def tyV(K:FrG)(T:String)(x:V)(H:Hp):Prop:=match x with
 |.str _=>T = "str"|.int _=>T = "int"
 |.ref p=>(T = "list" /\ ∃ xs,cI K H p xs)\/(T = "tuple" /\ ∃ o,K.lookup p=qz o/\o.cls=.type "tuple" /\ o.dict=qj) \/
    (T = "dict" /\ ((∃ aM,H p=qz (.dK aM))\/∃ aM,H p=qz (.dT aM)))\/(T = "set" /\ ∃ S n,H p=qz (.set S n))
 |_=>False
def aLZ(I:Inv X aB σ H s)(r:bB x v)(ty:tyV X.K T x H) :
 s.TypeIs v T/\∀ a,v=.ref a->∃ ob,s.heap.get? a=qz ob/\ob.dict=qj:=by
 cases x with
 |str z=>
   let(t,rfl):=r;cases (show T = "str" from ty);exact⟨typeIs_str s z t,λ _ e=>nomatch e⟩
 |int i=>
   let(t,rfl):=r;cases (show T = "int" from ty);exact⟨wz s i t,λ _ e=>nomatch e⟩
 |ref p=>
   cases r;rcases ty with ⟨rfl,xs,hq⟩|⟨rfl,o,hk,hc,hd⟩|⟨rfl,hk⟩|⟨rfl,S,n,hk⟩
   .let(aI,_,pl,_):=I.list hq;refine(pl.isList.typeIs,λ a e=>?_,);cases e;let(o,n,e,c,hd,_):=pl;exact(o,e,hd,)
   .refine((o,I.kIn p o hk,hc,),λ a e=>?_,);cases e;exact(o,I.kIn _ o hk,hd,)
   .have z:∃ o,s.heap.get? p=qz o/\o.ExactDict:=by
     rcases hk with ⟨aM,hk⟩|⟨aM,hk⟩
     .let(_,_,_,_,o,_,_,e,ex,_):=I.hok p _ hk;exact(o,e,ex,)
     .let(_,_,_,_,o,_,_,e,ex,_):=I.hok p _ hk;exact(o,e,ex,)
    let(o,e,ex):=z;refine((o,e,ex.1,),λ a e2=>?_,);cases e2;exact(o,e,ex.2.1,)
   .let(o,_,_,_,e,ex,_):=I.hok p _ hk;refine((o,e,ex.1,),λ a e2=>?_,);cases e2;exact(o,e,ex.2.1,)
 |_=>exact False.elim ty
def bBo(K:FrG)(T:String)(r:V->Li V->Hp->VK->Prop)(to:TE):TE:=λ σ H Q=>to σ H λ x H1=>tyV K T x H1/\r x [] H1 Q
def tBM(K:FrG)(T:String)(r:V->Li V->Hp->VK->Prop)(to:TE)(t:TA):TE:=λ σ H Q=>to σ H λ x H1=>tyV K T x H1/\t σ H1 λ xs H2=>r x xs H2 Q
def aWm{to:TE}{apos cpos:Pos}{id:String}{r:V -> Li V -> Hp -> VK -> Prop}(pa:PlainAttrs T)(slot:Slot T name id)(hty:typeOf (.builtin id)=pure (.type "method_descriptor"))(hm:MtR X id r)(ho:PE X o to)(hbase:attributeBase o name X.env (eval o X.env)=eval o X.env:=by rfl)(hline:(apos.endLine==cpos.line)=Tt:=by rfl):PE X (.Call (.Attribute o name apos) [] [] cpos) (bBo X.K T r to):=by intro aB s σ H Q I h;refine wpAny_Call_method0_late hbase hline (bJ (ho aB s σ H _ I h) λ v s1 hPq33=>?_);let(x,H1,I1,r1,ty,q1):=hPq33;let(h1,h2):=aLZ I1 r1 ty;exact(T,id,pa,slot,hty,h1,h2,Calls.callWith_builtin rfl (PySem.evalArgs_none (hm aB s1 σ H1 x [] v [] Q I1 r1 .nil q1)),)
def aFs{X:Cx}{o e:qy}{es:List qy}{to:TE}{t:TA}{name:Str}{apos cpos:Pos}{T id:String}{r:V -> Li V -> Hp -> VK -> Prop}(pa:PlainAttrs T)(slot:Slot T name id)(hty:typeOf (.builtin id)=pure (.type "method_descriptor"))(hm:MtR X id r)(ho:PE X o to)(ha:PA X (e::es) t)
 (hbase:attributeBase o name X.env (eval o X.env)=eval o X.env:=by rfl)
 (hfew:((backTo cpos (qo (e::es) X.env)).all (λ x=>!x.1)&&(backToKw cpos (keywordEach [] X.env)).all (λ x=>x.1.isSome)
   && decide ((e::es).length+([]:Li Keyword).length+(if ([]:Li Keyword).isEmpty then 0 else 1)<30))=Tt:=by rfl)
 (hline:(apos.endLine==cpos.line)=Tt:=by rfl) (hs:qo (e::es) X.env=(Ff,eval e X.env)::qo es X.env:=by rfl) (hplain:(backTo cpos (qo es X.env)).any (·.1)=Ff:=by rfl) :
 PE X (.Call (.Attribute o name apos) (e::es) [] cpos) (tBM X.K T r to t):=by intro aB s σ H Q I h;refine wpAny_Call_method_late hbase hfew hline rfl (bJ (ho aB s σ H _ I h) λ v s1 hPq34=>?_);let(x,H1,I1,r1,ty,q1):=hPq34;let(h1,h2):=aLZ I1 r1 ty;refine(T,id,pa,slot,hty,h1,h2,?_,);have hA:=ha cpos aB s1 σ H1 _ I1 q1;rw[hs] at hA ⊢;refine Calls.callWith_builtin (by show(Ff||(backTo cpos (qo es X.env)).any (·.1))=false;rw[hplain]<;>rfl) (Calls.evalArgs_plain ?_);exact bJ hA λ us s2 ⟨vs,H2,I2,r2,q2⟩=>hm aB s2 σ H2 x vs v us Q I2 r1 r2 q2
end L2
namespace L2
open PySem PySem.Spec PyProof.Rows
def MtM(X:Cx)(id:String)(r:V->Li V->Hp->VK->Prop):Prop:=
 ∀ (aB:Li (qw×Obj)) (s:qv) (σ:St) (H:Hp) (x:V) (xs:Li V) (v:qx) (us:List qx) (Q:VK),Inv X aB σ H s->bB x v->bF xs us->r x xs H Q ->
  qu (model X.prog X.w) X.A (call (.builtin id) (v::us)) (EP X aB σ Q) X.xe s
def bF.one:∀ {x:V}{us:List qx},bF [x] us->∃ u,us=[u]/\bB x u
 |_,_,.cons r .nil=>(_,rfl,r,)
def bF.rep{xs:Li V}(h:bF xs us):∀ k:Nat,bF (yAg k xs).flatten (yAg k us).flatten
 |0=>.nil
 |k+1=>by
   rw[yBg,yBg,yFb,yFb];exact bF.append h (bF.rep h k)
def aAZ(aI:List qx):∀ (k:Nat) (aH:List qx),
 List.foldl (λ x1 x2=>x1++x2) aH.toArray (yAg k aI.toArray)=(aH++(yAg k aI).flatten).toArray
 |0,aH=>by simp
 |k+1,aH=>by
   have e:aH.toArray++aI.toArray=(aH++aI).toArray:=by simp
   have e2:(aH++aI)++(yAg k aI).flatten=aH++(yAg (k+1) aI).flatten:=by
    rw[yBg,yFb,yBc]
   rw[<- e2,<- aAZ aI k (aH++aI),<- e,yBg,yBw]
section
variable {X:Cx}{aB:List (qw×Obj)}{σ:St}{H:Hp}{s:qv}{l b:qw}{xs ys zs:List V}
def Inv.lset{aI its':List qx}{f:Array qx->Array qx}(I:Inv X aB σ H s)(hH:H l=qz (.lst xs))(e:s.heap.get? l=qz {cls:=.type "list",data:=.seq aI.toArray n })(hf:f aI.toArray=its'.toArray)(hv:bF ys its')(hz:↑ys<=qk) :
 Inv X aB σ (bL H l (.lst ys)) {s with heap:=s.heap.update l (Obj.mapSeq f),toks:=t' }:=by have q:=PySem.IsL.update e f;rw[hf] at q;refine I.write (x:=l) (e:=l) (by rw[hH];exact trivial) (.inl rfl) (λ b' u hb hu=>(yCh s.heap (Obj.mapSeq f) (Ne.symm hb)).trans hu) (_,q,) ?_;exact(hz,its',_,hv,q,)
def Inv.lnew(I:Inv X aB σ H s)(hv:bF ys aI)(hz:↑ys<=qk) :
 Inv X aB σ (bL H s.heap.objs.size (.lst ys)) {s with heap:=s.heap.push {cls:=.type "list",data:=.seq aI.toArray },toks:=t' }:=
 I.laid (λ _ _ q=>hpS _ q) (yAc _) (hz,aI,0,hv,xAd _ rfl,)
def Inv.fresh(I:Inv X aB σ H s):H s.heap.objs.size=qj:=I.hok.fresh (yAc _)
def Inv.lstM(I:Inv X aB σ H s)(hH:H l=qz (.lst xs)):↑xs<=qk/\∃ (aI:List qx) (n:Nat),bF xs aI/\↑xs=aI.length/\s.heap.get? l=qz {cls:=.type "list",data:=.seq aI.toArray n }:=by let(z,aI,n,r,e):=I.hok l _ hH;exact(z,aI,n,r,r.length,e,)
end
def aKr:V->Li V->Hp->VK->Prop:=λ x vs H Q=>∃ l xs y,x=.ref l/\vs=[y]/\H l=qz (.lst xs)/\↑xs<qk/\Q .non (bL H l (.lst (xs++[y])))
def aIb:MtM X "list.append" aKr:=by intro aB s σ H x vs v us Q I rx rv h;let(l,xs,y,rfl,rfl,hH,hz,q):=h;cases rx;let(u,rfl,ru):=rv.one;let(z,aI,n,r,hl,e):=I.lstM hH;refine jz F.slot_list_append (_,e,rfl,) F.entry_list_append (F.args_list_append_2 _ _) (PySem.list_append l aI.toArray n u (by rw[yAj];omega)) (e,?_,);refine(.non,_,I.lset (its':=aI++[u]) hH e (by simp) (r.append (.cons ru .nil)) ?_,rfl,q,);rw[xAn,yDy];omega
def aTs{α:Type}(xs:List α)(k:Nat):(yAg k xs).flatten.length=k*↑xs:=by simp_all
end L2
namespace Att
open PySem PySem.W PySem.Calls PyProof.Rows
def aOJ:∀ (ns:Li Int) (vs:List qx),WellAll P h vs (ns.map WData.int)->IntsAre vs ns:=by
 intro ns
 induction ns with
 |nil=>
   intro vs w;rw[yEj] at w;cases w;exact .nil
 |cons n ns ih=>
   intro vs w;rw[yAk] at w;cases w with
   |cons a b=>
     cases a;exact .cons _ _ (ih _ b)
def script_of{l:OpenLaw}(hn:l.most=qz n)(hpre:l.row.toRowW.claim.pre args=Tt)(hwl:WellAll P h vals args) :
 ∃ a vs ns,vals=[Value.ref a]/\args=[WData.list (ns.map WData.int)]/\h.get? a=qz {cls:=.type "list",data:=.seq vs.toArray }/\IntsAre vs ns/\↑ns<=n:=by
 have hsh:WShape.hasAll [] args [.list .int]=Tt:=(pre_splitW hpre).1;have hc:l.pre.holds [] {args:=args }=Tt:=(pre_splitW hpre).2;let(d,r,rfl,h1,h2):=hasAllW_cons hsh;obtain rfl:=hasAllW_nil h2;let(xs,rfl,h3):=hasW_list h1;let(ns,rfl):=items_int h3;have dE:↑ns<=n:=by
  unfold OpenLaw.pre at hc;have h4:(WTm.not (.lt (.lit (.int (n:Int))) (.len (.arg 0)))).holds [] {args:=[.list (ns.map .int)] }=Tt:=by
   have h4:=(holds_andW hc).1;rw[hn] at h4;exact h4
  have h5:=condW_of h4 (w_not (w_lt w_lit (w_len_list (w_arg rfl))));rw[yAd] at h5;simp_all
 cases hwl with
 |cons w1 w2=>
   cases w2;cases w1 with
   |list ho hall=>exact(_,_,ns,rfl,rfl,ho,aOJ ns _ hall,dE,)
def post_true(l:OpenLaw)(args:Li WData):l.row.toRowW.claim.post args (.bool Tt) args=Tt:=
 postW_of (r:=l.row.toRowW) (X:=(Tt==Tt))
  (show WShape.has [] (.bool Tt) .bool=Tt by first|rfl|decide|simp[WShape.has,WShape.arms,WShape.armsAll])
  (show(WTm.eq .res (.lit (.bool Tt))).value [] {args:=args,res:=qz (.bool Tt),after:=args }=qz (.bool (Tt==Tt)) from w_eq_bool (w_res rfl) w_lit) rfl
def bCf(h:Heap)(L d:qw):Li (qw×Obj):=(yBh h.objs.size).filterMap λ a=>if a=L\/a=d then qj else (h.get? a).map λ o=>(a,o)
end Att
namespace L2
open PySem PySem.Spec PyProof.Rows
def aIA:∀ {vs:List qx}{ns:Li Int},IntsAre vs ns->bF (ns.map V.int) vs
 |_,_,.nil=>.nil|_,_,.cons n t h=>.cons (t,rfl,) (aIA h)
def aND(H:Hp):Prop:=∀ b,H b=qj\/∃ o xs,H b=qz (.frz o (.lst xs))
def law_call{K:FrG}{mg mb:Str->Option qx}{s₁:qv}(KX:K.In s₁.heap)(hns:s₁.heap.Ns zy mg)(hb:s₁.heap.Ns builtinsNs mb)(hbb:∀ x:Str,x ≠ "__name__" -> mb x=xo x)(hlim:s₁.heap.NoLimit)(hg:s₁.gens = #[])(ha:s₁.heap.get? a=qz {cls:=.type "list",data:=.seq vs.toArray })(hi:IntsAre vs ns)(hl:↑ns<=qk)(hr:Room k callerA)(F:∀ base:Heap,K.In base->base.Ns zy mg->FnOk P w K mg base CX k fa fd [x] sp)(hbind:∀ (s:qv) (u:qx),BindsTo s fd ⟨[u],[]⟩ [(x,u)])(hsp:∀ H:Hp,aND H->cI K H a (ns.map V.int)->sp [.ref a] H (λ v _=>v=.bl Tt) λ _ _ _=>False)(hCX:∀ H e s',CX [] H s₁ (λ _ _ _=>False) e s'->False) :
 ju (model P w) callerA (.call (.ref fa) ([.ref a],[],)) (λ r s'=>r=.ok (.ret (.bool Tt))/\OldK s₁.heap s'.heap/\s'.os=s₁.os/\AllBare s'.gens) s₁:=by
 have rv:=aIA hi;have lenV:=hi.length;have core:∀ H:Hp,aND H->cI K H a (ns.map V.int)->dL P w H s₁.heap->(∀ b,H b≠qj->b=a)->(H a≠qj->K.lookup a=qj) ->
  ju (model P w) callerA (.call (.ref fa) ([.ref a],[],)) (λ r s'=>r=.ok (.ret (.bool Tt))/\OldK s₁.heap s'.heap/\s'.os=s₁.os/\AllBare s'.gens) s₁:=by
  intro H hO hS hok hA hK;have pI:∀ {b:qw}{o:Obj},s₁.heap.get? b=qz o->H b=qj->(oI s₁.heap H).get? b=qz o:=λ e n=>aRr e n
  have noA:∀ {b:qw}{o:Obj}{es:Array DictEntry}{ep:Nat},s₁.heap.get? b=qz o->o.data=.dict es ep->H b=qj:=λ {b o es ep} e d=>by
   grind
  have nsK:∀ {b:qw}{m:Str->Option qx},s₁.heap.Ns b m->(oI s₁.heap H).Ns b m:=λ {b m} ⟨o,es,ep,e,d,r⟩=>(o,es,ep,pI e (noA e d),d,r,)
  have hKb:K.In (oI s₁.heap H):=λ b o e=>pI (KX b o e) (by
   grind)
  have hM:Mod K mg (oI s₁.heap H):=(hKb,nsK hns,(mb,nsK hb,hbb,),let ⟨mc,h1,h2⟩:=hlim;(mc,nsK h1,h2,),);have e0:Env0 P w K mg (oI s₁.heap H) callerA [] s₁ H:=(rfl,hM,λ b o e=>aUX e,yFp (aQL _ _),trivial,λ b hb=>absurd (show b∈([]:List qw) from hb) (by simp),hok,.of_eq hg,);refine codeAny_mono ((F _ hKb (nsK hns)).run callerA [] s₁ H ([.ref a],[],) [.ref a] [.ref a] _ _ hr e0 (hbind s₁ (.ref a)) (.cons rfl .nil) (hsp H hO hS)) λ r s' h=>?_
  cases r with
  |error e=>exact(hCX H e s' h).elim
  |ok fl=>
    cases fl with
    |next=>exact False.elim h|brk=>exact False.elim h|cont=>exact False.elim h
    |ret u=>
      let(v,H',os,bare,un,hok',r',q):=h;have q':v=.bl Tt:=q;subst q';obtain rfl:u=Value.bool Tt:=r';refine(rfl,OldK.of_keep λ b o e=>?_,os,bare,);cases q:H b with
      |none=>exact un.keep b o e q (by intro z;exact absurd (show b∈([]:List qw) from z) (by simp)) (by simp)
      |some u=>
        rcases hO b with z|⟨ob,xs,z⟩
        .rw[q] at z;cases z
        .have z2:=un.frzs b ob _ z;let(e1,_):=hok b _ z;let(e2,_):=hok' b _ z2;rw[e] at e1;simp_all
 cases hk:K.lookup a with
 |some o=>
   have e:=KX a o hk;rw[ha] at e;cases e;refine core (λ _=>qj) (λ _=>.inl rfl) (.inr (_,vs.toArray,_,hk,rfl,rfl,rfl,by rw[yAj,lenV];exact hl,by simpa using rv,)) (λ b u z=>by simp_all) (λ b z=>absurd rfl z) λ z=>absurd rfl z
 |none=>
   refine core (λ b=>if b=a then qz (.frz {cls:=.type "list",data:=.seq vs.toArray } (.lst (ns.map V.int))) else qj) (λ b=>?_) (.inl (.inr ({cls:=.type "list",data:=.seq vs.toArray },if_pos rfl,))) (λ b u z=>?_) (λ b z=>?_) λ _=>hk
   .by_cases hb:b=a
    .exact .inr (_,_,if_pos hb,)
    .exact .inl (if_neg hb)
   .by_cases hb:b=a
    .have z':=(if_pos hb).symm.trans z;cases z';subst hb;exact(ha,by rw[yAd];exact hl,vs,_,rv,ha,)
    simp_all
   simp_all
end L2
namespace L2
open PySem PySem.Spec PyProof.Rows
noncomputable abbrev KOf{K:FrG}{h:Heap}(_:K.In h):FrG:=K
end L2
namespace L2
open PySem PySem.Spec PyProof.Rows
def kF(s:xk):Arguments:=match s with|.FunctionDef _ a _ _ _ _ _ _ _ _=>a|_=>{posonlyargs:=[],args:=[],vararg:=qj,kwonlyargs:=[],kw_defaults:=[],kwarg:=qj,defaults:=[] }
def hU(s:xk):List xk:=match s with|.FunctionDef _ _ b _ _ _ _ _ _ _=>b|_=>[]
def dQ(s:xk):zw:=match s with|.FunctionDef _ _ _ _ _ _ sc _ _ _=>sc|_=>{kind:=.function,names:=[],isGenerator:=Ff,isCoroutine:=Ff }
noncomputable abbrev oZ:mZ:=λ _ _ _ _ _ _=>False
noncomputable abbrev E0:XK:=λ _ _ _=>False
def aBL:rD oZ X E0:=λ _ _ _ _ _ _ _ h=>h.elim
structure Fun(K:FrG)(x qual:Str)(st:xk)(f:qw)(fd:vq):Prop where
 ex:∃ (oc:qx) (od:Option qw) (kV doc pm:qx) (an:Option qw) (cdv ct:qx) (osl:Array (Option qx)),
  fd=yCb x qual (kF st) (hU st) (dQ st) .none kV doc pm an cdv ct/\K.lookup f=qz (oc,od,.func fd,osl,)/\yDj K cdv qual=Tt
 kp:yBp K (.ref f)=Tt
variable {K:FrG}
def Fun.ok{P:zq}{w:zj}{mg:Str -> Option qx}{base:Heap}{x qual:Str}{st:xk}{f:qw}{fd:vq}{N ps:Li Str}{k:Nat}{sp:Sp}(F:Fun K x qual st f fd)(S:FnScope N ps (dQ st))(len:∀ vs H Q E,sp vs H Q E->↑vs=↑ps)
 (hbody:∀ (cdv:qx) (A:zv) (outer:Li Env) (s:qv) (H:Hp) (vs:Li V) (Q:VK) (E:XK),Room k (A.deeper (envOfC qual (dQ st) s.heap.objs.size f cdv))->sp vs H Q E ->
   ∃ t,eQ (uP oZ P w K mg base N qual (dQ st) f cdv A outer s H E).nox (hU st) t/\t {nx:=λ _ H'=>Q .non H',rt:=Q } (start N vs) H):FnOk P w K mg base oZ (k+1) f fd ps sp:=by
 let(oc,od,kV,doc,pm,an,cdv,ct,osl,rfl,lk,hcd):=F.ex;refine aYD lk hcd S len λ A outer s H vs Q E hr hsp=>?_
 let(t,h,q):=hbody cdv A outer s H vs Q E hr hsp;exact(t,h.nox,q,)
def Fun.binds{x qual:Str}{st:xk}{f:qw}{fd:vq}{ps:Li Str}(F:Fun K x qual st f fd)
 (h:∀ (kV doc pm:qx) (an:Option qw) (cdv ct:qx) (us:List qx),↑us=↑ps->bindArgs (yCb x qual (kF st) (hU st) (dQ st) .none kV doc pm an cdv ct) ⟨us,[]⟩=pure (ps.zip us)):iE K fd ps []:=by let(oc,od,kV,doc,pm,an,cdv,ct,osl,rfl,lk,hcd):=F.ex;exact .all (h kV doc pm an cdv ct)
def aET{x qual:Str}{st:xk}{f:qw}{oc:qx}{od an:Option qw}{osl:Array (Option qx)}{kV doc pm cdv ct:qx}(l:K.lookup f=qz (oc,od,.func (yCb x qual (kF st) (hU st) (dQ st) .none kV doc pm an cdv ct),osl,))
 (c:yDj K cdv qual=Tt) (k:yBp K (.ref f)=Tt):Fun K x qual st f (yCb x qual (kF st) (hU st) (dQ st) .none kV doc pm an cdv ct):=((oc,od,kV,doc,pm,an,cdv,ct,osl,rfl,l,c,),k,)
def zB{B:Prop}(h:B):if Ff=Tt then A else B:=by rw[if_neg yBr];exact h
def zA{B:Prop}(h:A):if Tt=Tt then A else B:=by rw[if_pos rfl];exact h
def cE(H H':Hp):Prop:=∀ b o,H b=qz o->H' b=qz o
def cE.refl(H:Hp):cE H H:=λ _ _ h=>h
def cE.trans(a:cE H H1)(b:cE H1 H2):cE H H2:=λ c o h=>b c o (a c o h)
def cE.free(e:cE H H')(h:H' l=Option.none):H l=Option.none:=by
 cases q:H l with
 |none=>rfl
 |some o=>
   rw[e l o q] at h;cases h
def cE.seq{xs:Li V}(e:cE H H')(h:cI K H a xs):cI K H' a xs:=by
 rcases h with (h|⟨o,h⟩)|h
 .exact .inl (.inl (e _ _ h))
 .exact .inl (.inr (o,e _ _ h,))
 .exact .inr h
end L2
set_option maxHeartbeats 4000000
namespace L2
open PySem PySem.Spec PyProof.Rows
section
variable {κ:Type}[DecidableEq κ]
def jU(aM:Li (κ×V))(k:κ):Oz V:=(aM.find? λ kv=>decide (kv.1=k)).map (·.2)
def jT(aM:Li (κ×V))(k:κ)(v:V):Li (κ×V):=
 if (aM.any λ kv=>decide (kv.1=k))=Tt then aM.map (λ kv=>if kv.1=k then (kv.1,v) else kv) else aM++[(k,v)]
def aDn{p:κ×V}{r:Li (κ×V)}{k:κ}(e:p.1=k):jU (p::r) k=qz p.2:=by simp[jU,yCr,e]
def aDs{p:κ×V}{r:Li (κ×V)}{k:κ}(e:¬ p.1=k):jU (p::r) k=jU r k:=by simp[jU,yCr,e]
def aDo(k:κ):∀ aM:Li (κ×V),(aM.any λ kv=>decide (kv.1=k))=(jU aM k).isSome
 |[]=>rfl
 |p::r=>by
   rw[yFv];by_cases e:p.1=k
   .simp only[aDn e,dqT e,Bool.true_or,Option.isSome_some]
   .rw[aDs e,dqF e,yHv];exact aDo k r
def aHx(aM:Li (κ×V))(k:κ)(v:V):(jT aM k v).length<=aM.length+1:=by
 unfold jT;split
 .rw[yAd];omega
 .rw[xAn,yAn,yBx];omega
def iF.isSome_eq(r:iF o u):o.isSome=u.isSome:=by
 cases o with
 |none=>cases u with
   |none=>rfl
   |some _=>exact(show False from r).elim
 |some _=>cases u with
   |none=>exact(show False from r).elim
   |some _=>rfl
def KV.val{aM:Li (κ×V)}{vs:Li (κ×qx)}(r:KV aM vs)(k:κ):iF (jU aM k) (valueAt vs k):=by
 unfold KV at r
 induction r with
 |nil=>exact True.intro
 |@cons p q ps qs h t ih=>
   let(h1,h2):=h;by_cases e:p.1=k
   .have e':q.1=k:=h1.symm.trans e;have b:valueAt (q::qs) k=qz q.2:=by simp[valueAt,yCr,e']
    rw[aDn e,b];exact h2
   .have e':¬ q.1=k:=λ z=>e (h1.trans z)
    have b:valueAt (q::qs) k=valueAt qs k:=by simp[valueAt,yCr,e']
    rw[aDs e,b];exact ih
def KV.any{aM:Li (κ×V)}{vs:Li (κ×qx)}(r:KV aM vs)(k:κ):(aM.any λ kv=>decide (kv.1=k))=vs.any λ kv=>decide (kv.1=k):=by
 unfold KV at r
 induction r with
 |nil=>rfl|cons h t ih=>rw[yFv,yFv,ih,h.1]
def KV.repl{aM:Li (κ×V)}{vs:Li (κ×qx)}(r:KV aM vs)(k:κ){y:V}{u:qx}(ry:bB y u) :
 KV (aM.map λ kv=>if kv.1=k then (kv.1,y) else kv) (vs.map λ kv=>if kv.1=k then (kv.1,u) else kv):=by
 unfold KV at r ⊢
 induction r with
 |nil=>exact .nil
 |@cons p q ps qs h t ih=>
   rw[yAk,yAk];refine .cons ?_ ih
   grind
def KV.put{aM:Li (κ×V)}{vs:Li (κ×qx)}(r:KV aM vs)(k:κ){y:V}{u:qx}(ry:bB y u):KV (jT aM k y) (stored vs k u):=by
 unfold jT stored;rw[r.any k];by_cases e:(vs.any λ kv=>decide (kv.1=k))=Tt
 .rw[if_pos e,if_pos e];exact r.repl k ry
 .rw[if_neg e,if_neg e];exact Paired.snoc r (rfl,ry,)
def KV.length{aM:Li (κ×V)}{vs:Li (κ×qx)}(r:KV aM vs):aM.length=↑vs:=Paired.length r
end
def yB(r:bB (kV k) u):(gD P w).is k u=Tt:=by
 cases k with
 |inl i=>let(t,e):=(show ∃ t,u=Value.int i t from r);subst e;exact aPr P w i t
 |inr x=>let(t,e):=(show ∃ t,u=Value.str x t from r);subst e;exact aPk P w x t
def aIc:∀ {ks:List bN}{us:List qx},bF (ks.map kV) us->ItemsAre (gD P w) ks us
 |[],_,r=>by rw[yEj] at r;cases r;exact .nil
 |k::ks,_,r=>by
   rw[yAk] at r;cases r with
   |cons h t=>exact .cons (yB h) (aIc t)
noncomputable abbrev KT(H:Hp):List (List bN×V)->List (List bN×qw×qx)->Prop:=Paired λ p q=>p.1=q.1/\H q.2.1=qz (.tup (p.1.map kV))/\bB p.2 q.2.2
def KT.val{xs:Li (List bN×qw×qx)}(r:KT H aM xs)(k:List bN):iF (jU aM k) ((atKey xs k).map (·.2)):=by
 induction r with
 |nil=>exact True.intro
 |@cons p q ps qs h t ih=>
   let(h1,_,h2):=h;by_cases e:p.1=k
   .have e':q.1=k:=h1.symm.trans e;have b:atKey (q::qs) k=qz q.2:=by simp[atKey,yCr,e']
    rw[aDn e,b];exact h2
   .have e':¬ q.1=k:=λ z=>e (h1.trans z)
    have b:atKey (q::qs) k=atKey qs k:=by simp[atKey,yCr,e']
    rw[aDs e,b];exact ih
def KT.repl{xs:Li (List bN×qw×qx)}(r:KT H aM xs)(k:List bN)(ry:bB y u) :
 KT H (aM.map λ kv=>if kv.1=k then (kv.1,y) else kv) (xs.map (putAt k u)):=by
 induction r with
 |nil=>exact .nil
 |@cons p q ps qs h t ih=>
   rw[yAk,yAk];refine .cons ?_ ih;let(h1,h2,h3):=h;unfold putAt;by_cases e:p.1=k
   .rw[if_pos e,if_pos (h1.symm.trans e)];exact(h1,h2,ry,)
   .rw[if_neg e,if_neg (λ z=>e (h1.trans z))];exact(h1,h2,h3,)
def KT.put{xs:Li (List bN×qw×qx)}(r:KT H aM xs)(k:List bN)(hb:H b=qz (.tup (k.map kV)))(ry:bB y u) :
 KT H (jT aM k y) (storedH xs k b u):=by
 have e:(aM.any λ kv=>decide (kv.1=k))=(atKey xs k).isSome:=by
  rw[aDo,(r.val k).isSome_eq,yHr]
 unfold jT storedH;rw[e];by_cases q:(atKey xs k).isSome=Tt
 .rw[if_pos q,if_pos q];exact r.repl k ry
 .rw[if_neg q,if_neg q];exact Paired.snoc r (rfl,hb,ry,)
def KT.keeps{xs:Li (List bN×qw×qx)}(r:KT H aM xs)(ht:∀ b ys,H b=qz (.tup ys)->H' b=qz (.tup ys)):KT H' aM xs:=
 Paired.mapP r λ _ _ z=>(z.1,ht _ _ z.2.1,z.2.2,)
def aMY(ok:dL P w H h)(e:Rd H a u):fM P w H h a u:=e.ok ok
def yG(ok:dL P w H h)(e:Rd H a (.dK aM)):aM.length<=qk/\(a==sysModules)=Ff/\∃ vs,KV aM vs/\h.DictOf (gD P w) a vs:=
 show fM P w H h a (.dK aM) from aMY ok e
def aYI(ok:dL P w H h)(e:H a=qz (.dK aM)):aM.length<=qk/\(a==sysModules)=Ff/\∃ vs,KV aM vs/\h.DictOf (gD P w) a vs:=yG ok (.inl e)
def xK{ks:List bN}(ok:dL P w H h)(e:H a=qz (.tup (ks.map kV))):(tupleKind (gD P w)).is h ks a:=by let(_,aI,r,o,h1,h2,n,h3):=(show fM P w H h a (.tup (ks.map kV)) from ok a _ e);exact(o,aI.toArray,n,h1,h2,h3,by simpa using aIc r,)
def yQ(ok:dL P w H h)(e:Rd H a (.dT aM)):aM.length<=qk/\(a==sysModules)=Ff /\
 ∃ xs,KT H aM xs/\h.DictOfH (tupleKind (gD P w)) a xs:=by
 let(z,y,xs,r,o,es,ep,h1,h2,h3,h4,h5):=(show fM P w H h a (.dT aM) from aMY ok e);refine(z,y,xs,r,o,es,ep,h1,h2,h3,h4,λ x hx=>?_,h5,);have all:∀ {l:Li (List bN×V)}{m:Li (List bN×qw×qx)},KT H l m->∀ x∈m,(tupleKind (gD P w)).is h x.1 x.2.1:=by
  intro l m q
  induction q with
  |nil=>simp_all
  |@cons p q ps qs hq t ih=>
    intro x hx;rcases List.mem_cons.mp hx with e|hx
    .subst e;exact xK ok (by rw[<- hq.1];exact hq.2.1)
    .exact ih x hx
 exact all r x hx
def aZb(ok:dL P w H h)(e:H a=qz (.dT aM)):aM.length<=qk/\(a==sysModules)=Ff /\
 ∃ xs,KT H aM xs/\h.DictOfH (tupleKind (gD P w)) a xs:=yQ ok (.inl e)
def kL(H:Hp)(a:qw)(y:V)(r:Oz V):Prop:=
 (∃ aM k,Rd H a (.dK aM)/\y=kV k/\r=jU aM k)\/∃ aM k b,Rd H a (.dT aM)/\y=.ref b/\H b=qz (.tup (k.map kV))/\r=jU aM k
def aAd(H:Hp)(a:qw)(y v:V)(H':Hp):Prop:=
 (∃ aM k,H a=qz (.dK aM)/\y=kV k/\aM.length<qk/\H'=bL H a (.dK (jT aM k v))) \/
 ∃ aM k b,H a=qz (.dT aM)/\y=.ref b/\H b=qz (.tup (k.map kV))/\aM.length<qk/\H'=bL H a (.dT (jT aM k v))
def kL.t{k:List bN}(e:H a=qz (.dT aM))(eb:H b=qz (.tup (k.map kV))):kL H a (.ref b) (jU aM k):=.inr (aM,k,b,.inl e,rfl,eb,rfl,)
def aAd.t{k:List bN}(e:H a=qz (.dT aM))(eb:H b=qz (.tup (k.map kV)))(hl:aM.length<qk) :
 aAd H a (.ref b) v (bL H a (.dT (jT aM k v))):=.inr (aM,k,b,e,rfl,eb,hl,rfl,)
section
variable {X:Cx}{aB:List (qw×Obj)}{σ:St}{H:Hp}{s:qv}{a:qw}{y v:V}{u r:qx}{o:Option V}{A:zv}{E:qx->qv->Prop}
def Inv.big(I:Inv X aB σ H s):sysModules<s.heap.objs.size:=by have h:zy<s.heap.objs.size:=(I.mod.glob.keeps I.bk).lt;exact yEk (·) h
def aQD{Q:qx->qv->Prop}(hu:A.units+1<cLine)(I:Inv X aB σ H s)(g:kL H a y (qz v))(ry:bB y u)(h:∀ w' s',Inv X aB σ H s'->bB v w'->Q w' s') :
 qu (model X.prog X.w) A (getItem (.ref a) u) Q E s:=by
 rcases g with ⟨aM,k,e,ey,l⟩|⟨aM,k,b,e,ey,eb,l⟩
 .subst ey;let(z,hd,vs,rel,dd):=yG I.hok e;let(w',hw,rw'):=iF.some_of (v:=v) (o:=valueAt vs k) (by rw[l];exact rel.val k);exact wpAny_getItem_of (yB ry) dd.mapOf hw (h w' _ (I.tok _) rw')
 .subst ey;cases (show u=Value.ref b from ry);let(z,hd,xs,rel,dd):=yQ I.hok e;let(w',hw,rw'):=iF.some_of (v:=v) (o:=(atKey xs k).map (·.2)) (by rw[l];exact rel.val k);let(p,hp,hp2):=Option.map_eq_some_iff.mp hw;refine wpAny_getItem_heap (tupleKind_room_in1 hu) (xK I.hok eb) dd hp ?_;rw[hp2];exact h w' _ (I.tok _) rw'
def bBm{Q:qx->qv->Prop}(hu:A.units+1<cLine)(I:Inv X aB σ H s)(g:kL H a y o)(ry:bB y u)(h:∀ s',Inv X aB σ H s'->Q (.bool o.isSome) s') :
 qu (model X.prog X.w) A (xw .In u (.ref a)) Q E s:=by
 rcases g with ⟨aM,k,e,ey,l⟩|⟨aM,k,b,e,ey,eb,l⟩
 .subst ey;let(z,hd,vs,rel,dd):=yG I.hok e;refine wpAny_in_of (yB ry) hd dd.mapOf ?_;rw[<- (rel.val k).isSome_eq,<- l];exact h _ (I.tok _)
 .subst ey;cases (show u=Value.ref b from ry);let(z,hd,xs,rel,dd):=yQ I.hok e;refine wpAny_in_heap (tupleKind_room_in1 hu) (xK I.hok eb) hd dd ?_;have q:=(rel.val k).isSome_eq;rw[yHr] at q;rw[<- q,<- l];exact h _ (I.tok _)
def aTm{Q:qx->qv->Prop}(hu:A.units+1<cLine)(I:Inv X aB σ H s)(g:kL H a y o)(ry:bB y u)(h:∀ s',Inv X aB σ H s'->Q (.bool (!o.isSome)) s') :
 qu (model X.prog X.w) A (xw .NotIn u (.ref a)) Q E s:=by
 rcases g with ⟨aM,k,e,ey,l⟩|⟨aM,k,b,e,ey,eb,l⟩
 .subst ey;let(z,hd,vs,rel,dd):=yG I.hok e;refine wpAny_notIn_of (yB ry) hd dd.mapOf ?_;rw[<- (rel.val k).isSome_eq,<- l];exact h _ (I.tok _)
 .subst ey;cases (show u=Value.ref b from ry);let(z,hd,xs,rel,dd):=yQ I.hok e;refine wpAny_notIn_heap (tupleKind_room_in1 hu) (xK I.hok eb) hd dd ?_;have q:=(rel.val k).isSome_eq;rw[yHr] at q;rw[<- q,<- l];exact h _ (I.tok _)
def aKF(I:Inv X aB σ H s)(mu:Mut (H a))(hs:yDi a s.heap h')(he:∃ q,h'.get? a=qz q)(new:fM X.prog X.w (bL H a ob) h' a ob) :
 Inv X aB σ (bL H a ob) {s with heap:=h',toks:=t' }:=
 I.write (x:=a) (e:=a) mu (.inl rfl) (λ b q hb z=>(hs.2 b hb).trans z) he new
def aWY{h':Heap}{aM:Li (bN×V)}(z:aM.length<=qk)(hd:(a==sysModules)=Ff)(rel:KV aM vs)(dd:h'.DictOf (gD P w) a vs) :
 fM P w H' h' a (.dK aM):=(z,hd,vs,rel,dd,)
def aQm{Q:Unit->qv->Prop}(hu:A.units+1<cLine)(I:Inv X aB σ H s)(g:aAd H a y v H')(ry:bB y u)(rv:bB v r)(h:∀ s',Inv X aB σ H' s'->Q () s') :
 qu (model X.prog X.w) A (setItem (.ref a) u r) Q E s:=by
 rcases g with ⟨aM,k,e,ey,l,eH⟩|⟨aM,k,b,e,ey,eb,l,eH⟩
 .subst ey eH;let(z,hd,vs,rel,dd):=aYI I.hok e;have hz:↑vs<=qk:=by rw[<- rel.length];exact z
  have hl:(jT aM k v).length<=qk:=by have:=aHx aM k v;omega
  refine wpAny_setItem_pairs (hsz:=hz) (yB ry) dd λ h' dd' hs=>h _ ?_
  have he:∃ q,h'.get? a=qz q:=let ⟨q,_,_,hq,_⟩:=dd';(q,hq,);exact aKF I (by rw[e];exact True.intro) hs he (aWY hl hd (rel.put k rv) dd')
 .subst ey eH;cases (show u=Value.ref b from ry);let(z,hd,xs,rel,dd):=aZb I.hok e;have hz:↑xs<=qk:=by rw[<- Paired.length rel];exact z
  have hl:(jT aM k v).length<=qk:=by have:=aHx aM k v;omega
  refine wpAny_setItem_heap (hsz:=hz) (tupleKind_room_in1 hu) (xK I.hok eb) dd λ h' dd' hs=>h _ ?_
  let(q,es,ep,hq,h2,h3,h4,_,h5):=dd';refine aKF I (by rw[e];exact True.intro) hs ⟨q,hq⟩ ⟨hl,hd,_,(rel.put k eb rv).keeps λ c ys ec=>?_,q,es,ep,hq,h2,h3,h4,h5⟩;rw[bW (aYM ec e (λ z=>nomatch z))];exact ec
end
section
variable {X:Cx}{aB:List (qw×Obj)}{σ:St}{H:Hp}{s:qv}{a:qw}{aM:List (bN×V)}{k:bN}{u:qx}{A:zv}{E:qx->qv->Prop}
end
def aNk(i:qy):Prop:=∀ ov iv,subscripted i Ff ov iv=operate [ov,iv] (getItem ov iv)
def aU0{E:qx->qv->Prop}{id:String}{Q:qx->qv->Prop}(hl:typeLookup (.type T) "__getitem__" = pure (qz (.builtin id)))(hs:aNk iX)(h:qu (model prog w) A (eval value env) (λ o s₁=>qu (model prog w) A (eval iX env) (λ i s₂=>s₂.TypeIs o T/\qu (model prog w) A (getItem o i) Q E s₂) E s₁) E s) :
 qu (model prog w) A (eval (.Subscript value iX pos) env) Q E s:=by
 refine Subscript_ (wpAny_mono h (λ o s₁ h₁=>wpAny_mono h₁ (λ i s₂ h₂=>?_) λ _ _ x=>x) λ _ _ x=>x);let(hT,h₂):=h₂;unfold subscriptTail;refine wB ?_;rw[getitemInPython_of_ne hT.not_modules];refine wB (vo hT hl ?_);have cS:qu (model prog w) A (subscripted iX Ff o i) (λ r s₃=>qu (model prog w) A (letTemporaryGo value o r >>= λ _=>pure r) Q E s₃) E s₂:=by
  rw[hs o i];exact wpAny_operating (wpAny_mono h₂ (λ r s₃ h₃=>wB (wpAny_letTemporaryGo (wP h₃))) λ _ _ x=>x)
 first
  |exact wP (wB cS)
  |exact wB (wP (wB cS))
  |exact wB cS
def aPj(I:Inv X aB σ H s)(g:kL H a y o):s.TypeIs (.ref a) "dict":=by
 rcases g with ⟨aM,k,e,_,_⟩|⟨aM,k,b,e,_,_,_⟩
 .let(_,_,vs,_,dd):=yG I.hok e;exact dd.typeIs
 .let(_,_,xs,_,dd):=yQ I.hok e;exact dd.typeIs
def bAs(td ty:TE):TE:=λ σ H Q=>td σ H λ x H1=>ty σ H1 λ y H2=>∃ a v,x=.ref a/\kL H2 a y (qz v)/\Q v H2
def bA0(ty td:TE):TE:=λ σ H Q=>ty σ H λ y H1=>td σ H1 λ x H2=>∃ a o,x=.ref a/\kL H2 a y o/\Q (.bl o.isSome) H2
def aTn(ty td:TE):TE:=λ σ H Q=>ty σ H λ y H1=>td σ H1 λ x H2=>∃ a o,x=.ref a/\kL H2 a y o/\Q (.bl (!o.isSome)) H2
def aYY(td ty tv:TE):TS:=λ D σ H=>tv σ H λ v H1=>td σ H1 λ x H2=>ty σ H2 λ y H3=>∃ a H4,x=.ref a/\aAd H3 a y v H4/\D.nx σ H4
variable {X:Cx}
def aU6{td ty:TE}(hu:X.A.units+1<cLine)(ho:PE X o td)(hi:PE X i ty)(hs:aNk i):PE X (.Subscript o i pos) (bAs td ty):=by intro aB s σ H Q I h;refine aU0 PySem.F.slot_dict_getitem.lookup hs (bJ (ho aB s σ H _ I h) λ u s1 ⟨x,H1,I1,rx,q1⟩=>bJ (hi aB s1 σ H1 _ I1 q1) λ iv s2 hPq35=>?_);let(y,H2,I2,ry,a,v,ex,g,q2):=hPq35;subst ex;obtain rfl:u=Value.ref a:=rx;exact(aPj I2 g,aQD hu I2 g ry λ w' s3 I3 rw'=>(v,H2,I3,rw',q2,),)
def aWt{td ty:TE}(hu:X.A.units+1<cLine)(hi:PE X i ty)(ho:PE X o td):PC X .In i o (bA0 ty td):=by
 intro aB s σ H Q I h;refine bJ (hi aB s σ H _ I h) λ iv s1 ⟨y,H1,I1,ry,q1⟩=>bJ (ho aB s1 σ H1 _ I1 q1) λ u s2 hPq36=>?_
 let(x,H2,I2,rx,a,ov,ex,g,q2):=hPq36;subst ex;obtain rfl:u=Value.ref a:=rx;exact bBm hu I2 g ry λ s3 I3=>(.bl ov.isSome,H2,I3,rfl,q2,)
def aQ4{td ty:TE}(hu:X.A.units+1<cLine)(hi:PE X i ty)(ho:PE X o td):PC X .NotIn i o (aTn ty td):=by
 intro aB s σ H Q I h;refine bJ (hi aB s σ H _ I h) λ iv s1 ⟨y,H1,I1,ry,q1⟩=>bJ (ho aB s1 σ H1 _ I1 q1) λ u s2 hPq37=>?_
 let(x,H2,I2,rx,a,ov,ex,g,q2):=hPq37;subst ex;obtain rfl:u=Value.ref a:=rx;exact aTm hu I2 g ry λ s3 I3=>(.bl (!ov.isSome),H2,I3,rfl,q2,)
def aTe{pos:Pos}{td ty tv:TE}(hu:X.A.units+1<cLine)(ho:PE X o td)(hi:PE X i ty)(hv:PE X value tv)(hs:swapsWith value (qz (.Subscript o i pos')) pos.line X.env=pure Ff) :
 PS X (.Assign [.Subscript o i pos'] value pos) (aYY td ty tv):=by intro aB s σ H D I h;refine wpAny_Assign_Subscript (bJ (hv aB s σ H _ I h) λ r s1 ⟨v,H1,I1,rv,q1⟩=>bJ (ho aB s1 σ H1 _ I1 q1) λ u s2 ⟨x,H2,I2,rx,q2⟩=>bJ (hi aB s2 σ H2 _ I2 q2) λ iv s3 hPq38=>?_) hs;let(y,H3,I3,ry,a,H4,ex,g,q3):=hPq38;subst ex;obtain rfl:u=Value.ref a:=rx;exact aQm hu I3 g ry rv λ s4 I4=>(σ,H4,I4,q3,)
def aR9(h:Heap)(hb:sysModules<h.objs.size):fM P w H (h.push {cls:=.type "dict",data:=.dict #[] }) h.objs.size (.dT []):=
 (yCd _,beq_eq_false_iff_ne.mpr (Ne.symm (xAj hb)),[],.nil,_,#[],0,xAd _ rfl,(rfl,rfl,rfl,),rfl,rfl,List.nodup_nil,)
def aLP:TE:=λ _ H Q=>∀ p,H p=qj->Q (.ref p) (bL H p (.dT []))
def aRP:PE X (.Dict [] [] pos) aLP:=λ aB s σ H Q I h=>
 wpAny_Dict_empty (.ref s.heap.objs.size,_,I.laid (a:=s.heap.objs.size) (o:=.dT []) (t':=s.toks) (λ _ _ q=>hpS _ q) (yAc _) (aR9 s.heap I.big),rfl,h _ (I.hok.fresh (yAc _)),)
end L2
namespace EV
open PySem L2 PySem.Spec PyProof.Rows
abbrev D:=PyData
inductive W0 where
 |d (x:D)|loc (n:Nat)|dic (n:Nat)
inductive W where
 |d (x:D)|loc (n:Nat)|exc (c:Str) (r:D)|dic (n:Nat)|ob (fs:List (Str×W0))|tpl (ws:List W0)
abbrev Lx:=List (qw×Bool)
noncomputable abbrev ad(L:Lx):List qw:=L.map Prod.fst
abbrev aE:=List (Option (List D))
abbrev bG:=List (Option W)
abbrev St:=L2.St
def aCq(F:Hp)(d:Option qw):D->Prop
 |.none=>d=qj|.int i=>∃ dx,d=qz dx/\F dx=qz (.xd [("row",.int i)])|_=>False
def zE(K:FrG)(F:Hp)(a:qw)(c:Str)(r:D):Prop:=∃ C oe,F a=qz (.ext λ h=>h.get? a=qz oe)/\oe.cls=.ref C/\PySem.W.notCls oe=Tt/\yCg K zy c=qz (qz (.ref C))/\aCq F oe.dict r
def aCq.mono(e:cE F F')(h:aCq F d r):aCq F' d r:=by
 cases r with
 |none=>exact h
 |int i=>let(dx,h1,h2):=h;exact(dx,h1,e _ _ h2,)
 |_=>exact h
variable {K:FrG}
def zE.mono(e:cE F F')(h:zE K F a c r):zE K F' a c r:=by let(C,oe,h1,h2,h3,h4,h5):=h;exact(C,oe,e _ _ h1,h2,h3,h4,h5.mono e,)
section
variable (K:FrG)(F:Hp)
mutual
inductive Den:D->V->Prop
 |non:Den .none .non
 |bl (b:Bool):Den (.bool b) (.bl b)
 |int (i:Int):Den (.int i) (.int i)
 |str (x:Str):Den (.str x) (.str x)
 |lst {a:qw}{xs:List V}{ds:List D}:cI K F a xs->DenL ds xs->Den (.list ds) (.ref a)
 |tup {a:qw}{xs:List V}{ds:List D}:cZ K F a xs->DenL ds xs->Den (.tuple ds) (.ref a)
 |exc {a:qw}{c:Str}{r:D}:zE K F a c r->Den (.dict [(.str c,r)]) (.ref a)
inductive DenL:List D->List V->Prop
 |nil:DenL [] []
 |cons {d:D}{ds:List D}{x:V}{xs:List V}:Den d x->DenL ds xs->DenL (d::ds) (x::xs)
end
end
def oA{xs:Li V}(e:cE H H')(h:cZ K H a xs):cZ K H' a xs:=by
 rcases h with (h|⟨o,h⟩)|h
 .exact .inl (.inl (e _ _ h))
 .exact .inl (.inr (o,e _ _ h,))
 .exact .inr h
mutual
theorem Den.mono{K:FrG}{F F':Hp}(e:cE F F'):∀ {d:D}{v:V},Den K F d v->Den K F' d v
 |_,_,.non=>.non|_,_,.bl b=>.bl b|_,_,.int i=>.int i|_,_,.str x=>.str x|_,_,.lst h r=>.lst (e.seq h) (DenL.mono e r)|_,_,.tup h r=>.tup (oA e h) (DenL.mono e r)|_,_,.exc h=>.exc (h.mono e)
theorem DenL.mono{K:FrG}{F F':Hp}(e:cE F F'):∀ {ds:List D}{xs:List V},DenL K F ds xs->DenL K F' ds xs
 |_,_,.nil=>.nil|_,_,.cons h r=>.cons (Den.mono e h) (DenL.mono e r)
end
section
variable {K:FrG}{F:Hp}
def DenL.length:∀ {ds:Li D}{xs:Li V},DenL K F ds xs->↑ds=↑xs
 |_,_,.nil=>rfl|_,_,.cons _ r=>congrArg (· + 1) (DenL.length r)
def DenL.get:∀ {ds:Li D}{xs:Li V}{i:Nat}{d:D},DenL K F ds xs->ds[i]?=qz d->∃ x,xs[i]?=qz x/\Den K F d x
 |_,_,_,_,.nil,e=>by simp at e|_,_,0,_,.cons h _,e=>by simp at e;subst e;exact(_,rfl,h,)
 |_,_,i+1,d,.cons _ r,e=>by
   let(x,h1,h2):=DenL.get (i:=i) (d:=d) r (e:);simp_all
def DenL.append:∀ {ds es:Li D}{xs ys:Li V},DenL K F ds xs->DenL K F es ys->DenL K F (ds++es) (xs++ys)
 |_,_,_,_,.nil,s=>s|_,_,_,_,.cons h r,s=>.cons h (DenL.append r s)
def DenL.take:∀ {ds:Li D}{xs:Li V} (n:Nat),DenL K F ds xs->DenL K F (ds.take n) (xs.take n)
 |_,_,0,_=>.nil|_,_,_+1,.nil=>.nil|_,_,n+1,.cons h r=>.cons h (DenL.take n r)
def DenL.drop:∀ {ds:Li D}{xs:Li V} (n:Nat),DenL K F ds xs->DenL K F (ds.drop n) (xs.drop n)
 |_,_,0,r=>r|_,_,_+1,.nil=>.nil|_,_,n+1,.cons _ r=>DenL.drop n r
def DenL.set:∀ {ds:Li D}{xs:Li V} (i:Nat) {d:D}{x:V},DenL K F ds xs->Den K F d x->DenL K F (ds.set i d) (xs.set i x)
 |_,_,_,_,_,.nil,_=>.nil|_,_,0,_,_,.cons _ r,h=>.cons h r|_,_,i+1,_,_,.cons q r,h=>.cons q (DenL.set i r h)
def DenL.rep{ds:Li D}{xs:Li V}(h:DenL K F ds xs):∀ n:Nat,DenL K F (yAg n ds).flatten (yAg n xs).flatten
 |0=>.nil
 |n+1=>by
   rw[yBg,yBg,yFb,yFb];exact h.append (DenL.rep h n)
def DenL.of_ints:∀ (ns:Li Int),DenL K F (ns.map Iz) (ns.map V.int)
 |[]=>.nil|n::r=>.cons (.int n) (DenL.of_ints r)
end
def kD:bN->D
 |.inl i=>.int i|.inr x=>.str x
def mT(p:List bN×Int):D:=.tuple [.tuple (p.1.map kD),.int p.2]
structure Rel(K:FrG)(F:Hp)(L:Lx)(S:aE)(H:Hp):Prop where
 sub:cE F H
 nd:(ad L).Nodup
 len:↑L=↑S
 loc:∀ (n:Nat) (a:qw) (ds:List D),L[n]?=qz (a,Ff)->S[n]?=qz (qz ds)->F a=qj/\∃ xs,H a=qz (.lst xs)/\DenL K F ds xs
 dic:∀ (n:Nat) (a:qw) (ds:List D),L[n]?=qz (a,Tt)->S[n]?=qz (qz ds)->F a=qj/\∃ es:List (List bN×Int),ds=es.map mT/\H a=qz (.dT (es.map λ p=>(p.1,V.int p.2)))
 tr:∀ (n:Nat) (a:qw) (b:Bool),L[n]?=qz (a,b)->∃ o,H a=qz o/\(b=Ff->∃ xs,o=.lst xs)
def lF(K:FrG)(F:Hp)(L:Lx):W0->V->Prop
 |.d x,v=>Den K F x v|.loc n,v=>∃ a,L[n]?=qz (a,Ff)/\v=.ref a|.dic n,v=>∃ a,L[n]?=qz (a,Tt)/\v=.ref a
noncomputable abbrev sA(K:FrG)(F:Hp)(L:Lx):List W0->List V->Prop:=Paired (lF K F L)
noncomputable abbrev nX(K:FrG)(F:Hp)(L:Lx):List (Str×W0)->List (Str×V)->Prop:=Paired λ p q=>p.1=q.1/\lF K F L p.2 q.2
def eX(K:FrG)(F:Hp)(L:Lx):W->V->Prop
 |.d x,v=>Den K F x v|.loc n,v=>∃ a,L[n]?=qz (a,Ff)/\v=.ref a|.exc c r,v=>∃ a,v=.ref a/\zE K F a c r|.dic n,v=>∃ a,L[n]?=qz (a,Tt)/\v=.ref a|.ob fs,v=>∃ a C dx vs,v=.ref a/\F a=qz (.ins C dx vs)/\yCg K zy "Maker" = qz (qz (.ref C))/\nX K F L fs vs|.tpl ws,v=>∃ a vs,v=.ref a/\F a=qz (.tup vs)/\sA K F L ws vs
structure EnvR(K:FrG)(F:Hp)(L:Lx)(env:bG)(σ:St):Prop where
 len:env.length=σ.length
 get:∀ (i:Nat) (w:W),env[i]?=qz (qz w)->∃ v,σ[i]?=qz (qz v)/\eX K F L w v
structure Gr(F:Hp)(L:Lx)(F':Hp)(L':Lx):Prop where
 f:cE F F'
 l:∃ M,L'=L++M
def Gr.refl:Gr F L F L:=(cE.refl _,[],by simp,)
def Gr.trans(a:Gr F L F' L')(b:Gr F' L' F'' L''):Gr F L F'' L'':=by let(f1,M,rfl):=a;let(f2,N,rfl):=b;exact(f1.trans f2,M++N,by rw[yBc],)
def Gr.get{F F':Hp}{L L':Lx}(g:Gr F L F' L'){n:Nat}{a:qw×Bool}(h:L[n]?=qz a):L'[n]?=qz a:=by let(_,M,rfl):=g;rw[xAm (gIm h).1];exact h
def lF.mono(g:Gr F L F' L')(h:lF K F L w v):lF K F' L' w v:=by
 cases w with
 |d x=>exact Den.mono g.f h
 |loc n=>let(a,e,r):=h;exact(a,g.get e,r,)
 |dic n=>let(a,e,r):=h;exact(a,g.get e,r,)
def eX.mono(g:Gr F L F' L')(h:eX K F L w v):eX K F' L' w v:=by
 cases w with
 |d x=>exact Den.mono g.f h
 |loc n=>let(a,e,r):=h;exact(a,g.get e,r,)
 |exc c r=>let(a,e,h):=h;exact(a,e,h.mono g.f,)
 |dic n=>let(a,e,r):=h;exact(a,g.get e,r,)
 |ob fs=>let(a,C,dx,vs,e,h1,h2,h3):=h;exact(a,C,dx,vs,e,g.f _ _ h1,h2,L2.Paired.mapP h3 λ _ _ q=>(q.1,q.2.mono g,),)
 |tpl ws=>let(a,vs,e,h1,h3):=h;exact(a,vs,e,g.f _ _ h1,L2.Paired.mapP h3 λ _ _ q=>q.mono g,)
def EnvR.mono(g:Gr F L F' L')(h:EnvR K F L env σ):EnvR K F' L' env σ:=
 (h.len,λ i w e=>let ⟨v,e1,r⟩:=h.get i w e;(v,e1,r.mono g,),)
def EnvR.set(h:EnvR K F L env σ)(i:Nat)(r:eX K F L w v):EnvR K F L (env.set i (qz w)) (σ.set i (qz v)):=by
 refine(by rw[yBb,yBb];exact h.len,λ j u e=>?_,);by_cases hj:i=j
 .subst hj;have hl:i<env.length:=by
   rcases Nat.lt_or_ge i env.length with q|q
   .exact q
   .rw[yCc (by rw[yBb];exact q)] at e;cases e
  rw[yAw hl] at e;cases e;exact(v,yAw (by rw[<- h.len];exact hl),r,)
 .rw[yAz hj] at e;let(x,e1,r1):=h.get j u e;simp_all
def gO(h:H p=qj):cE H (bL H p o):=λ b u q=>by rw[bW (fJ q h)];exact q
def aEi{L:Lx}{n:Nat}{a:qw}{b:Bool}(h:L[n]?=qz (a,b)):a∈ad L:=List.mem_map.mpr (_,xAk h,rfl,)
def Rel.inj{F H:Hp}{L:Lx}{S:aE}(r:Rel K F L S H){n m:Nat}{a:qw}{b c:Bool}(e:L[n]?=qz (a,b))(e1:L[m]?=qz (a,c)):n=m:=by
 have h1:(ad L)[n]?=qz a:=by rw[yAe,e];rfl
 have h2:(ad L)[m]?=qz a:=by rw[yAe,e1];rfl
 let(l1,g1):=gIm h1;let(l2,g2):=gIm h2;exact(List.getElem_inj r.nd).mp (g1.trans g2.symm)
def Rel.trl{F H:Hp}{L:Lx}{S:aE}(r:Rel K F L S H){n:Nat}{a:qw}(e:L[n]?=qz (a,Ff)):∃ xs,H a=qz (.lst xs):=by let(o,ho,h):=r.tr n a Ff e;simp_all
def Rel.notin(r:Rel K F L S H)(h:H p=qj):p ∉ ad L:=λ hp=>by
 let(n,hn):=yFe hp;rw[yAe] at hn;cases e:L[n]? with
 |none=>rw[e] at hn;cases hn
 |some q=>
   rw[e] at hn;cases hn;let(o,ho,_):=r.tr n q.1 q.2 e;rw[h] at ho;cases ho
def Rel.new(r:Rel K F L S H)(h:H p=qj):Rel K (bL F p o) L S (bL H p o):=by
 have hF:F p=qj:=r.sub.free h;refine(λ b u q=>?_,r.nd,r.len,λ n a ds e1 e2=>?_,λ n a ds e1 e2=>?_,λ n a b e=>?_,)
 .by_cases hb:b=p
  .subst hb;rw[dH] at q ⊢;exact q
  .rw[bW hb] at q ⊢;exact r.sub _ _ q
 .let(f,xs,e3,dl):=r.loc n a ds e1 e2;have ne:a≠p:=fJ e3 h;exact(by rw[bW ne];exact f,xs,by rw[bW ne];exact e3,DenL.mono (gO hF) dl,)
 .let(f,es,e3,e4):=r.dic n a ds e1 e2;have ne:a≠p:=fJ e4 h;exact(by rw[bW ne];exact f,es,e3,by rw[bW ne];exact e4,)
 .let(o,hx,hy):=r.tr n a b e;exact(o,by rw[bW (fJ hx h)];exact hx,hy,)
def Gr.new(h:F p=qj):Gr F L (bL F p o) L:=(gO h,[],by simp,)
def Rel.lay(r:Rel K F L S H)(h:H p=qj):Rel K F L S (bL H p o):=by
 refine(λ b u q=>by rw[bW (fJ q (r.sub.free h))];exact r.sub _ _ q,r.nd,r.len,λ n a ds e1 e2=>?_,λ n a ds e1 e2=>?_,λ n a b e=>?_,)
 .let(f,xs,e3,dl):=r.loc n a ds e1 e2;exact(f,xs,by rw[bW (fJ e3 h)];exact e3,dl,)
 .let(f,es,e3,e4):=r.dic n a ds e1 e2;exact(f,es,e3,by rw[bW (fJ e4 h)];exact e4,)
 .let(o,hx,hy):=r.tr n a b e;exact(o,by rw[bW (fJ hx h)];exact hx,hy,)
def Rel.adoptO(r:Rel K F L S H)(hF:F p=qj)(hL:p ∉ ad L)(hH:H p=qz o):Rel K (bL F p o) L S H:=by
 refine(λ b u q=>?_,r.nd,r.len,λ n a ds e1 e2=>?_,λ n a ds e1 e2=>?_,r.tr,)
 .by_cases hb:b=p
  .subst hb;rw[dH] at q;rw[hH];exact q
  .rw[bW hb] at q;exact r.sub _ _ q
 .let(f,ys,e3,dl):=r.loc n a ds e1 e2;have ne:a≠p:=λ z=>hL (by rw[<- z];exact aEi e1)
  exact(by rw[bW ne];exact f,ys,e3,dl.mono (gO hF),)
 .let(f,es,e3,e4):=r.dic n a ds e1 e2;have ne:a≠p:=λ z=>hL (by rw[<- z];exact aEi e1)
  exact(by rw[bW ne];exact f,es,e3,e4,)
def Rel.adopt(r:Rel K F L S H){xs:Li V}(hF:F p=qj)(hL:p ∉ ad L)(hH:H p=qz (.lst xs)):Rel K (bL F p (.lst xs)) L S H:=r.adoptO hF hL hH
def Rel.adoptC(r:Rel K F L S H)(hL:p ∉ ad L)(hp:∃ o,H p=qz o/\(b=Ff->∃ xs,o=.lst xs))(h0:b=Ff->F p=qj/\∃ xs,H p=qz (.lst xs)/\DenL K F ds xs)(h1:b=Tt->F p=qj/\∃ es:Li (List bN×Int),ds=es.map mT/\H p=qz (.dT (es.map λ p=>(p.1,V.int p.2)))):Rel K F (L++[(p,b)]) (S++[qz ds]) H:=by
 have last:∀ {n:Nat}{a:qw}{c:Bool}{es:Li D},(L++[(p,b)])[n]?=qz (a,c)->(S++[qz ds])[n]?=qz (qz es)->(L[n]?=qz (a,c)/\S[n]?=qz (qz es))\/(a=p/\c=b/\es=ds):=λ {n a c es} e1 e2=>by
  by_cases hn:n<↑L
  .rw[xAm hn] at e1;rw[xAm (by rw[<- r.len];exact hn)] at e2;exact .inl (e1,e2,)
  .rw[yAh (!_)] at e1;rw[yAh (by rw[<- r.len];omega)] at e2;have z:n-↑L=0:=by
    have:=(gIm e1).1;simp at this;omega
   rw[<- r.len] at e2;rw[z] at e1 e2;cases e1;cases e2;exact .inr (rfl,rfl,rfl,)
 refine(r.sub,?_,by rw[xAn,xAn,r.len]<;>rfl,λ n a es e1 e2=>?_,λ n a es e1 e2=>?_,λ n a c e=>?_,)
 .simp only[ad,yAy];rw[List.nodup_append];refine(r.nd,by simp,λ a ha b hb=>?_,)
  grind
 .rcases last e1 e2 with ⟨q1,q2⟩|⟨rfl,q2,rfl⟩
  .exact r.loc n a es q1 q2
  .exact h0 q2.symm
 .rcases last e1 e2 with ⟨q1,q2⟩|⟨rfl,q2,rfl⟩
  .exact r.dic n a es q1 q2
  .exact h1 q2.symm
 .by_cases hn:n<↑L
  .rw[xAm hn] at e;exact r.tr n a c e
  .rw[yAh (!_)] at e;have h1:=xAk e;rw[yHg] at h1;cases h1;exact hp
def Rel.adoptLoc(r:Rel K F L S H){xs:Li V}(hF:F p=qj)(hL:p ∉ ad L)(hH:H p=qz (.lst xs))(dl:DenL K F ds xs):Rel K F (L++[(p,Ff)]) (S++[qz ds]) H:=
 r.adoptC hL (_,hH,λ _=>(xs,rfl,),) (λ _=>(hF,xs,hH,dl,)) λ z=>(nomatch z)
def Rel.newLoc(r:Rel K F L S H){xs:Li V}(h:H p=qj)(dl:DenL K F ds xs):Rel K F (L++[(p,Ff)]) (S++[qz ds]) (bL H p (.lst xs)):=
 (r.lay h).adoptLoc (r.sub.free h) (r.notin h) dH dl
def Rel.newDic(r:Rel K F L S H)(h:H p=qj):Rel K F (L++[(p,Tt)]) (S++[qz []]) (bL H p (.dT [])):=
 (r.lay h).adoptC (r.notin h) (_,dH,λ z=>(nomatch z),) (λ z=>(nomatch z)) λ _=>(r.sub.free h,[],rfl,dH,)
def Gr.newLoc:Gr F L F (L++[p]):=(cE.refl _,[p],rfl,)
def Rel.putC(r:Rel K F L S H)(e:L[n]?=qz (a,c))(hF:F a=qj)(h0:c=Ff->∃ ys,o=.lst ys/\DenL K F es ys)(h1:c=Tt->∃ ks:Li (List bN×Int),es=ks.map mT/\o=.dT (ks.map λ p=>(p.1,V.int p.2))):Rel K F L (S.set n (qz es)) (bL H a o):=by
 have hl:n<↑S:=by rw[<- r.len];exact(gIm e).1
 refine(λ b u q=>by rw[bW (fJ q hF)];exact r.sub _ _ q,r.nd,by rw[yBb];exact r.len,λ m b fs e1 e2=>?_,λ m b fs e1 e2=>?_,λ m b d e1=>?_,)
 .by_cases hm:n=m
  .subst hm;rw[e] at e1;cases e1;rw[yAw hl] at e2;cases e2;let(ys,rfl,dl):=h0 rfl;exact(hF,ys,dH,dl,)
  .rw[yAz hm] at e2;have ne:b≠a:=λ z=>hm (r.inj e (z▸e1))
   let(f,xs,e3,d3):=r.loc m b fs e1 e2;exact(f,xs,by rw[bW ne];exact e3,d3,)
 .by_cases hm:n=m
  .subst hm;rw[e] at e1;cases e1;rw[yAw hl] at e2;cases e2;let(ks,h2,rfl):=h1 rfl;exact(hF,ks,h2,dH,)
  .rw[yAz hm] at e2;have ne:b≠a:=λ z=>hm (r.inj e (z▸e1))
   let(f,xs,e3,d3):=r.dic m b fs e1 e2;exact(f,xs,e3,by rw[bW ne];exact d3,)
 .by_cases hb:b=a
  .subst hb;obtain rfl:n=m:=r.inj e e1;rw[e] at e1;cases e1;exact(o,dH,λ z=>(h0 z).imp λ _ q=>q.1,)
  .let(zs,hz,hy):=r.tr m b d e1;exact(zs,by rw[bW hb];exact hz,hy,)
def Rel.put(r:Rel K F L S H)(e:L[n]?=qz (a,Ff))(hF:F a=qj)(dl:DenL K F es ys):Rel K F L (S.set n (qz es)) (bL H a (.lst ys)):=
 r.putC e hF (λ _=>(ys,rfl,dl,)) λ z=>(nomatch z)
def Rel.freeze{F H:Hp}{L:Lx}{S:aE}(r:Rel K F L S H){n:Nat}{a:qw}{ds:Li D}(e:L[n]?=qz (a,Ff))(es:S[n]?=qz (qz ds)) :
 ∃ F',Gr F L F' L/\Rel K F' L (S.set n qj) H/\Den K F' (.list ds) (.ref a):=by
 let(hF,xs,e3,dl):=r.loc n a ds e es;have hl:n<↑S:=(gIm es).1;refine(bL F a (.lst xs),Gr.new hF,(λ b u q=>?_,r.nd,by rw[yBb];exact r.len,λ m b fs e1 e2=>?_,λ m b fs e1 e2=>?_,r.tr,),.lst (cI.of dH) (dl.mono (gO hF)),)
 .by_cases hb:b=a
  .subst hb;rw[dH] at q;rw[e3];exact q
  .rw[bW hb] at q;exact r.sub _ _ q
 .by_cases hm:n=m
  .subst hm;rw[yAw hl] at e2;cases e2
  .rw[yAz hm] at e2;have ne:b≠a:=λ z=>hm (r.inj e (z▸e1))
   let(f,ys,e4,d4):=r.loc m b fs e1 e2;exact(by rw[bW ne];exact f,ys,e4,d4.mono (gO hF),)
 .by_cases hm:n=m
  .subst hm;rw[yAw hl] at e2;cases e2
  .rw[yAz hm] at e2;have ne:b≠a:=λ z=>hm (r.inj e (z▸e1))
   let(f,ys,e4,d4):=r.dic m b fs e1 e2;exact(by rw[bW ne];exact f,ys,e4,d4,)
def Rel.cut(r:Rel K F (L++M) S H):Rel K F L (S.take ↑L) H:=by
 have hl:↑L<=↑S:=by have:=r.len;rw[xAn] at this;omega
 have nd:=r.nd;simp only[ad,yAy] at nd;have lt:∀ {n:Nat}{q:qw×Bool},L[n]?=qz q->n<↑L:=λ e=>(gIm e).1
 refine(r.sub,(List.nodup_append.mp nd).1,by rw[yBj];omega,λ n a ds e1 e2=>?_,λ n a ds e1 e2=>?_,λ n a b e1=>?_,)
 .rw[yCv (lt e1)] at e2;exact r.loc n a ds (by rw[xAm (lt e1)];exact e1) e2
 .rw[yCv (lt e1)] at e2;exact r.dic n a ds (by rw[xAm (lt e1)];exact e1) e2
 .exact r.tr n a b (by rw[xAm (lt e1)];exact e1)
def cF(K:FrG)(F H:Hp)(x:D)(v:V):Prop:=Den K F x v\/∃ ds a xs,x=.list ds/\v=.ref a/\H a=qz (.lst xs)/\DenL K F ds xs
def fY:Li W0->Oz (Li D)
 |[]=>qz []|.d x::r=>(fY r).map (x :: ·)|_=>qj
def dr(S:aE):W->Oz D
 |.d x=>qz x
 |.loc n=>match S[n]? with
   |some (qz ds)=>qz (.list ds)|_=>qj
 |.tpl ws=>(fY ws).map Tz|_=>qj
def aBi(h:sA K F L ws vs)(e:fY ws=qz ds):DenL K F ds vs:=by
 induction h generalizing ds with
 |nil=>cases e;exact .nil
 |cons h r ih=>
   rename_i w _ ws _;cases w with
   |d x=>
     cases q:fY ws with
     |none=>rw[fY,q] at e;cases e|some es=>rw[fY,q] at e;cases e;exact .cons h (ih q)
   |_=>cases e
def wd:W->Oz D
 |.d x=>qz x|.tpl ws=>(fY ws).map Tz|_=>qj
def aBu(h:eX K F L w v)(e:wd w=qz x):Den K F x v:=by
 cases w with
 |d y=>cases e;exact h
 |tpl ws=>
   let(a,vs,rfl,h1,h2):=h;cases q:fY ws with
   |none=>rw[wd,q] at e;cases e|some ds=>rw[wd,q] at e;cases e;exact .tup (.inl (.inl h1)) (aBi h2 q)
 |exc c r=>cases e|dic n=>cases e|ob fs=>cases e|loc n=>cases e
def lA(r:Rel K F L S H)(h:eX K F L w v)(e:dr S w=qz x):cF K F H x v:=by
 cases w with
 |d y=>cases e;exact .inl h|exc c r=>cases e|dic n=>cases e|ob fs=>cases e
 |tpl ws=>
   let(a,vs,rfl,h1,h2):=h;cases q:fY ws with
   |none=>rw[dr,q] at e;cases e|some ds=>rw[dr,q] at e;cases e;exact .inl (.tup (.inl (.inl h1)) (aBi h2 q))
 |loc n=>
   let(a,e1,rfl):=h;cases e2:S[n]? with
   |none=>simp[dr,e2] at e
   |some o=>
     cases o with
     |none=>simp[dr,e2] at e
     |some ds=>
       simp[dr,e2] at e;subst e;let(f,xs,e3,dl):=r.loc n a ds e1 e2;exact .inr (ds,a,xs,rfl,rfl,e3,dl,)
def cF.non(h:cF K F H .none v):v=.non:=by
 rcases h with h|⟨_,_,_,e,_⟩
 .cases h;rfl
 .cases e
def cF.bl(h:cF K F H (.bool b) v):v=.bl b:=by
 rcases h with h|⟨_,_,_,e,_⟩
 .cases h;rfl
 .cases e
def cF.int{i:Int}(h:cF K F H (.int i) v):v=.int i:=by
 rcases h with h|⟨_,_,_,e,_⟩
 .cases h;rfl
 .cases e
def cF.str(h:cF K F H (.str x) v):v=.str x:=by
 rcases h with h|⟨_,_,_,e,_⟩
 .cases h;rfl
 .cases e
def cF.lst{F H:Hp}{v:V}{ds:Li D}(s:cE F H)(h:cF K F H (.list ds) v):∃ a xs,v=.ref a/\cI K H a xs/\DenL K F ds xs:=by
 rcases h with h|⟨_,a,xs,e,e2,e3,dl⟩
 .cases h with|lst q r=>exact(_,_,rfl,s.seq q,r,)
 .cases e;exact(a,xs,e2,cI.of e3,dl,)
def cF.tup{F H:Hp}{v:V}{ds:Li D}(s:cE F H)(h:cF K F H (.tuple ds) v):∃ a xs,v=.ref a/\cZ K H a xs/\DenL K F ds xs:=by
 rcases h with h|⟨_,_,_,e,_⟩
 .cases h with|tup q r=>exact(_,_,rfl,oA s q,r,)
 .cases e
def aOG:fillsNumberSlot (.type "tuple") "mul" = pure Ff:=
 PySem.fillsNumberSlot_seq (id:="tuple.__mul__") (r:=qz (.builtin "tuple.__rmul__")) PySem.F.slot_tuple_mul.lookup (by decide +kernel) PySem.F.slot_tuple_rmul.lookup (by decide +kernel)
def aPa:seqRepeat? (.type "tuple")=pure (qz (.builtin "tuple.__mul__")):=by unfold seqRepeat?;rw[PySem.seqSlot_of (T:="tuple") (name:="__mul__") (id:="tuple.__mul__") PySem.F.slot_tuple_mul.lookup (by decide +kernel),PySem.seqSlot_of (T:="tuple") (name:="__rmul__") (id:="tuple.__rmul__") PySem.F.slot_tuple_rmul.lookup (by decide +kernel)];rfl
def aOO(a:Int)(t:Tok)(l:qw)(bD:Array qx)(n:Nat)(d:Option qw)(sl:Array (Option qx)) :
 Meets (Builtin.«int.__rmul__» ([.int a t,.ref l],[],)) (λ _ R s=>s.heap.get? l=qz {cls:=.type "tuple",dict:=d,data:=.seq bD n,slots:=sl }/\R (.ok (.ret Value.notImplemented)) s):=
 .of_wp λ prog w A R s h=>by let(hp,g,d,tk,os):=s;let(hl,h):=h;wp_walk;exact(_,rfl,h,)
def aOR(l:qw)(bD:Array qx)(n:Nat)(d:Option qw)(sl:Array (Option qx))(t:Tok) :
 Meets (Builtin.«tuple.__mul__» ([.ref l,.int 1 t],[],)) (λ _ R s=>s.heap.get? l=qz {cls:=.type "tuple",dict:=d,data:=.seq bD n,slots:=sl }/\R (.ok (.ret (.ref l))) s):=
 .of_wp λ prog w A R s h=>by
  let(hp,g,d,tk,os):=s;let(hl,h):=h
  wp_walk
  exact(_,rfl,h,)
def aON(l:qw)(x:qx)(n:Nat)(d:Option qw)(sl:Array (Option qx))(t:Tok) :
 Meets (Builtin.«tuple.__mul__» ([.ref l,.int 0 t],[],)) (λ _ R s=>s.heap.get? l=qz {cls:=.type "tuple",dict:=d,data:=.seq #[x] n,slots:=sl }/\R (.ok (.ret (.ref s.heap.objs.size))) {s with heap:=s.heap.push {cls:=.type "tuple",data:=.seq #[] } }):=
 .of_wp λ prog w A R s h=>by
  let(hp,g,d,tk,os):=s;let(hl,h):=h
  wp_walk
  exact(_,rfl,h,)
def aAZ(x:qx):∀ (k:Nat) (aH:Array qx),(yAg k #[x]).foldl (· ++ ·) aH=aH++(yAg k x).toArray
 |0,aH=>by simp
 |k+1,aH=>by
   rw[yBg,yBw,aAZ x k];apply Array.ext';simp[yBg]
def aOU(l:qw)(x:qx)(n:Nat)(d:Option qw)(sl:Array (Option qx))(k:Nat)(hk:2<=k)(hk2:k<=1000)(t:Tok) :
 Meets (Builtin.«tuple.__mul__» ([.ref l,.int k t],[],)) (λ _ R s=>s.heap.get? l=qz {cls:=.type "tuple",dict:=d,data:=.seq #[x] n,slots:=sl }/\R (.ok (.ret (.ref s.heap.objs.size))) {s with heap:=s.heap.push {cls:=.type "tuple",data:=.seq (yAg k x).toArray } }):=
 .of_wp λ prog w A R s h=>by
  let(hp,g,d,tk,os):=s;let(hl,h):=h;have c1:(decide (((k:Nat):Int) < -(2^63))||decide (((k:Nat):Int) ≥ 2^63))=Ff:=by simp;omega
  have c2:(((k:Nat):Int)==1)=Ff:=by rw[beq_eq_false_iff_ne];omega
  have c3:decide (((k:Nat):Int)<=0)=Ff:=dqF (!_);have c4:((#[x]:Array qx).isEmpty||(((k:Nat):Int)==1))=Ff:=by rw[c2];rfl
  have c5:(decide (((k:Nat):Int)<=0)||(#[x]:Array qx).isEmpty)=Ff:=by rw[c3];rfl
  have c6:¬ (((#[x]:Array qx).size:Int)*((k:Nat):Int)>(2^63-1)/8):=by
   show ¬ (((1:Nat):Int)*((k:Nat):Int)>(2^63-1)/8);omega
  have hsz:qk=16777216:=by decide
  have c7:yHa (((#[x]:Array qx).size:Int)*((k:Nat):Int))=Ff:=by
   unfold yHa;refine dqF ?_;show ¬ (((1:Nat):Int)*((k:Nat):Int)>((qk:Nat):Int));omega
  wp_walk
  rw[if_neg (by rw[c1];simp_all)];refine wB (wpAny_tupleItemsOf hl rfl ?_);simp only[c4,c5,c6,c7,yAv,if_false];rw[yAu,aAZ,show(#[]:Array qx)++(yAg k x).toArray=(yAg k x).toArray by simp];refine wB (m:=yCw _) (xj (wP (_,rfl,h,)) ?_);show(yAg k x).toArray.size<=qk;rw[yAj,yCp,hsz];omega
section
variable {X:Cx}{aB:List (qw×Obj)}{σ:L2.St}{H:Hp}{s:qv}{Q:VK}
def aJg(r:bB x u):∀ k:Nat,bF (yAg k x) (yAg k u)
 |0=>.nil|k+1=>.cons r (aJg r k)
def bBq(I:Inv X aB σ H s)(ha:cZ X.K H a [x])(hk:k<=1000)(q1:k=1->Q (.ref a) H)(q:∀ p,H p=qj->Q (.ref p) (bL H p (.tup (yAg k x)))):qu (model X.prog X.w) X.A (zk .Mult (.ref a) (.int k t)) (EP X aB σ Q) X.xe s:=by
 let(aI,r1,p1,_):=I.tuple ha;obtain⟨u,rfl,ru⟩:∃ u,aI=[u]/\bB x u:=by
  cases r1 with
  |cons r r'=>cases r';exact(_,rfl,r,)
 let((cls,d,data,sl),ho,hcl,n,hd):=p1;simp only at hcl hd;subst hcl hd;have hsz:qk=16777216:=by decide
 have cS:∀ (aI:List qx),aI=yAg k u->EP X aB σ Q (.ref s.heap.objs.size) {s with heap:=s.heap.push {cls:=.type "tuple",data:=.seq aI.toArray } }:=λ aI e=>by
  subst e;exact(.ref _,_,I.laid (t':=s.toks) (o:=.tup (yAg k x)) (λ b ob q=>hpS _ q) (yAc _) (by rw[yCp,hsz];omega,_,aJg ru k,(_,xAd _ rfl,rfl,0,rfl,),),rfl,q _ (I.hok.fresh (yAc _)),)
 refine ww (T:="tuple") (U:="int") (·) (_,ho,rfl,) (λ s'=>wz s' k t) aOG PySem.F.fills_int_mul yEs aPa PySem.F.slot_int_index.lookup
  (jz yEs (wz s k t) PySem.F.entry_int_rmul (PySem.F.args_int_rmul_2 _ _) (aOO k t a _ n d sl)
    (ho,rfl,(_,ho,rfl,),?_,))
 by_cases h1:k=1
 .subst h1;exact jz yGf (_,ho,rfl,) yFw (yFr _ _) (aOR a _ n d sl t) (ho,.ref a,H,I,rfl,q1 rfl,)
 .by_cases h0:k=0
  .subst h0;exact jz yGf (_,ho,rfl,) yFw (yFr _ _) (aON a u n d sl t) (ho,cS [] rfl,)
  .exact jz yGf (_,ho,rfl,) yFw (yFr _ _) (aOU a u n d sl k (!_) hk t) (ho,cS _ rfl,)
end
def pV(i j:Int):Bool:=!(decide (yAo i>vk)&&decide (yAo j>vk)&&Builtin.Int.intTooBig (yAo i+yAo j))
def yZ{α:Type}(n:Nat)(xs:List α):List α:=(yAg n xs).flatten
def aF3:D->D->Oz D
 |.int i,.int j=>qz (.int (i+j))
 |.str x,.str y=>if x.length+y.length<=qk then qz (.str (x++y)) else qj
 |.tuple [],.tuple ys=>qz (.tuple ys)
 |.tuple xs,.tuple ys=>if xs.isEmpty=Ff/\↑xs+↑ys<=qk then qz (.tuple (xs++ys)) else qj
 |.list xs,.list ys=>if ↑xs+↑ys<=qk then qz (.list (xs++ys)) else qj
 |_,_=>qj
def aFA:D->D->Oz D
 |.int i,.int j=>if pV i j=Tt then qz (.int (i*j)) else qj
 |.list xs,.int k=>if k<2^63 /\ -(2^63)<=k/\↑xs*k.toNat<=qk then qz (.list (yZ k.toNat xs)) else qj
 |.tuple [x],.int k=>if 0<=k/\k<=1000 then qz (.tuple (yAg k.toNat x)) else qj
 |_,_=>qj
def i2{α:Type}(f:Int->Int->Option α):D->D->Option α
 |.int i,.int j=>f i j|_,_=>qj
def mO{α:Type}{f:Int->Int->Option α}{i j:Int}:i2 f (.int i) (.int j)=f i j:=rfl
def jO{α:Type}{f:Int->Int->Option α}{z:α}(h:i2 f x y=qz z):∃ i j,x=.int i/\y=.int j/\f i j=qz z:=by
 cases x<;>first|(cases h;done)|skip
 cases y<;>first|(cases h;done)|exact(_,_,rfl,rfl,h,)
def kG:D->Bool
 |.none=>Tt|_=>Ff
def aJo(h:kG x=Tt):x=.none:=by cases x<;>first|rfl|cases h
def cD(op:jw)(x y:D):Oz D:=match op with
 |.Add=>aF3 x y|.Sub=>i2 (λ i j=>qz (.int (i-j))) x y|.Mult=>aFA x y|.MatMult=>qj|.Div=>qj
 |.Mod=>i2 (λ i j=>if j≠0 then qz (.int (i.fmod j)) else qj) x y
 |.Pow=>i2 (λ i j=>if 0<=j/\j<=1000000/\i.natAbs<2^64 then qz (.int (i^j.toNat)) else qj) x y
 |.LShift=>i2 (λ i j=>if 0<=j/\(yAo i:Int)+j<=2^27 then qz (.int (i*2^j.toNat)) else qj) x y
 |.RShift=>i2 (λ i j=>if 0<=j then qz (.int (i/2^j.toNat)) else qj) x y
 |.BitOr=>i2 (λ i j=>qz (.int (yHu i j))) x y|.BitXor=>i2 (λ i j=>qz (.int (yHk i j))) x y|.BitAnd=>i2 (λ i j=>qz (.int (yEq i j))) x y
 |.FloorDiv=>i2 (λ i j=>if j≠0/\yDd i j=Ff then qz (.int (i.fdiv j)) else qj) x y
def vC:wq->D->Oz D
 |.USub,.int i=>qz (.int (-i))|.Invert,.int i=>qz (.int (yBo i))|_,_=>qj
def kJ:D->Bool
 |.none|.bool _|.int _|.str _=>Tt
 |_=>Ff
def qY:Li D->Bool
 |[]=>Tt|d::r=>kJ d&&qY r
def inD(x:D):Li D->Bool
 |[]=>Ff|y::r=>yDt y x||inD x r
def aFy:D->Oz (Li D)
 |.list xs=>qz xs|.tuple xs=>qz xs|_=>qj
def uJ:D->D->Oz Bool
 |.bool a,.bool b=>qz (a==b)|_,_=>qj
def aIj(h:uJ x y=qz b):∃ p q,x=.bool p/\y=.bool q/\b=(p==q):=by
 unfold uJ at h;split at h
 .rename_i p q;exact(p,q,rfl,rfl,(Option.some.inj h).symm,)
 .cases h
def rX(op:jx)(x y:D):Oz Bool:=match op with
 |.Eq=>if x.canLay0=Tt/\y.canLay0=Tt/\x.depth<=60 then qz (yDt x y) else qj
 |.NotEq=>if x.canLay0=Tt/\y.canLay0=Tt/\x.depth<=60 then qz (!yDt x y) else qj
 |.Lt=>i2 (λ i j=>qz (decide (i<j))) x y|.LtE=>i2 (λ i j=>qz (decide (i<=j))) x y|.Gt=>i2 (λ i j=>qz (decide (j<i))) x y|.GtE=>i2 (λ i j=>qz (decide (j<=i))) x y
 |.Is=>if kG y=Tt then qz (kG x) else uJ x y
 |.IsNot=>if kG y=Tt then qz (!kG x) else (uJ x y).bind λ b=>qz (!b)
 |.In=>(aFy y).bind λ ys=>if kJ x=Tt/\qY ys=Tt then qz (inD x ys) else qj
 |.NotIn=>(aFy y).bind λ ys=>if kJ x=Tt/\qY ys=Tt then qz (!inD x ys) else qj
def sD:D->Oz Bool
 |.none=>qz Ff|.bool b=>qz b|.int i=>qz (i != 0)
 |.str x=>if x.length<=qk then qz ((x.length:Int) != 0) else qj
 |.list xs=>qz (!xs.isEmpty)|.tuple xs=>qz (!xs.isEmpty)|.dict _=>qj
section
variable {X:Cx}{aB:List (qw×Obj)}{s:qv}{σ:L2.St}{H:Hp}{x y:V}{v u:qx}{Q:VK}{F:Hp}{L:Lx}{S:aE}{dx dy z:D}
abbrev gM(X:Cx)(F:Hp)(L:Lx)(S:aE)(z:D)(Q:VK):Prop:=∀ F' H' r,cE F F'->Rel X.K F' L S H'->Den X.K F' z r->Q r H'
abbrev aCn(X:Cx)(F:Hp)(H:Hp)(zs:List D)(Q:VK):Prop:=∀ p xs,H p=qj->DenL X.K F zs xs->Q (.ref p) (bL H p (.lst xs))
def gM.here(R:Rel X.K F L S H)(q:gM X F L S z Q)(h:Den X.K F z r):Q r H:=q F H r (cE.refl _) R h
def aCn.out{zs:Li D}(R:Rel X.K F L S H)(q:gM X F L S (.list zs) Q):aCn X F H zs Q:=λ p xs hp dl=>
 q _ _ _ (gO (R.sub.free hp)) (R.new hp) (.lst (cI.of dH) (dl.mono (gO (R.sub.free hp))))
def gM.tup{zs:Li D}(R:Rel X.K F L S H)(q:gM X F L S (.tuple zs) Q){p:qw}{xs:Li V}(hp:H p=qj)(dl:DenL X.K F zs xs):Q (.ref p) (bL H p (.tup xs)):=
 q _ _ _ (gO (R.sub.free hp)) (R.new hp) (.tup (cZ.of dH) (dl.mono (gO (R.sub.free hp))))
def bBj{xs:Li V}(I:Inv X aB σ H s)(ha:cI X.K H a xs)(hb:cI X.K H b ys)(hz:↑xs+↑ys<=qk)(q:∀ p,H p=qj->Q (.ref p) (bL H p (.lst (xs++ys)))):qu (model X.prog X.w) X.A (zk .Add (.ref a) (.ref b)) (EP X aB σ Q) X.xe s:=by
 let(aI,r1,p1,_):=I.list ha;let(vK,r2,p2,_):=I.list hb;let((cls,dd,data,sl),ho,hc,n,hd):=p1.isList;let((cls2,dd2,data2,sl2),ho2,hc2,n2,hd2):=p2.isList;simp only at hc hd hc2 hd2;subst hc hd hc2 hd2;have e:aI.toArray++vK.toArray=(aI++vK).toArray:=by simp
 refine concat_meets (_,ho,rfl,) (_,ho2,rfl,) noFill_list_add seq_list_add PySem.F.slot_list_add PySem.F.entry_list_add (PySem.F.args_list_add_2 _ _) (list_addW a b aI.toArray vK.toArray n n2 dd dd2 sl sl2 (by rw[yAj,yAj,<- r1.length,<- r2.length];exact hz)) (ho,ho2,?_,);rw[e];exact(.ref _,_,I.lnew (t':=s.toks) (r1.append r2) (by rw[xAn];omega),rfl,q _ I.fresh,)
def aNS{xs:Li V}{k:Int}(I:Inv X aB σ H s)(ha:cI X.K H a xs)(h1 : -(2^63)<=k)(h2:k<2^63)(hz:↑xs*k.toNat<=qk)(q:∀ p,H p=qj->Q (.ref p) (bL H p (.lst (yAg k.toNat xs).flatten))):qu (model X.prog X.w) X.A (zk .Mult (.ref a) (.int k t)) (EP X aB σ Q) X.xe s:=by
 let(aI,r1,p1,_):=I.list ha;let((cls,d,data,sl),ho,hcl,n,hd):=p1.isList;simp only at hcl hd;subst hcl hd;have hsz:aI.toArray.size*k.toNat<=2^24:=by
  rw[yAj,<- r1.length];have:qk=2^24:=rfl;rw[<- this];exact hz
 refine ww (T:="list") (U:="int") (·) (_,ho,rfl,) (λ s'=>wz s' k t) noFill_list_mul PySem.F.fills_int_mul yEs repeat_list PySem.F.slot_int_index.lookup
  (jz yEs (wz s k t) PySem.F.entry_int_rmul (PySem.F.args_int_rmul_2 _ _) (lm_int_rmul_list_any k t a aI.toArray n d sl)
    ⟨ho,rfl,(_,ho,rfl,),jz PySem.F.slot_list_mul (_,ho,rfl,) PySem.F.entry_list_mul (PySem.F.args_list_mul_2 _ _)
     (lm_list_mul_any a aI.toArray n d sl k t (by simp[Builtin.List.listFitsIndex];omega) (!_) (by simp[Builtin.List.listTooLong,qk];simpa using hsz))
     (ho,?_,)⟩)
 rw[listMul_foldl_if];exact(.ref _,_,I.lnew (t':=s.toks) (r1.rep k.toNat) (by rw[aTs,yIf];exact hz),rfl,q _ I.fresh,)
def aZj(I:Inv X aB σ H s)(ha:cZ X.K H a [])(hb:cZ X.K H b ys)(q:Q (.ref b) H):qu (model X.prog X.w) X.A (zk .Add (.ref a) (.ref b)) (EP X aB σ Q) X.xe s:=by let(aI,r1,p1,_):=I.tuple ha;let(vK,r2,p2,_):=I.tuple hb;cases r1;let((cls,dd,data,sl),ho,hc,n,hd):=p1;let((cls2,dd2,data2,sl2),ho2,hc2,n2,hd2):=p2;simp only at hc hd hc2 hd2;subst hc hd hc2 hd2;exact concat_meets (_,ho,rfl,) (_,ho2,rfl,) noFill_tuple_add seq_tuple_add yGe yFt (yFq _ _) (tuple_addW0 a b _ vK.toArray n n2 dd dd2 sl sl2 rfl) (ho,ho2,(.ref b,H,I,rfl,q,),)
def aWj(I:Inv X aB σ H s)(rx:bB x v)(ry:bB y u)(R:Rel X.K F L S H)(nx:cF X.K F H dx x)(ny:cF X.K F H dy y)(e:aF3 dx dy=qz z)(q:gM X F L S z Q) :
 qu (model X.prog X.w) X.A (zk .Add v u) (EP X aB σ Q) X.xe s:=by
 unfold aF3 at e;split at e
 .rename_i i j;cases e;exact aVF aB s σ H x y v u Q I rx ry (i,j,nx.int,ny.int,q.here R (.int _),)
 .rename_i a b;split at e
  .rename_i c;cases e;exact aP6 aB s σ H x y v u Q I rx ry (a,b,nx.str,ny.str,c,q.here R (.str _),)
  .cases e
 .rename_i ys;cases e;let(a,vs,rfl,h1,d1):=nx.tup R.sub;let(b,ws,rfl,h2,d2):=ny.tup R.sub;cases d1;cases rx;cases ry;refine aZj I h1 h2 (q F H _ (cE.refl _) R ?_);rcases ny with ny|⟨_,_,_,e,_⟩
  .exact ny
  .cases e
 .rename_i xs ys _;split at e
  .rename_i c;cases e;let(a,vs,rfl,h1,d1):=nx.tup R.sub;let(b,ws,rfl,h2,d2):=ny.tup R.sub;have hne:vs≠[]:=λ z=>by
    have:=d1.length;rw[z] at this;simp_all
   refine aU1 aB s σ H _ _ v u Q I rx ry (a,b,vs,ws,rfl,rfl,h1,h2,hne,by rw[<- d1.length,<- d2.length];exact c.2,λ z=>?_,λ z p hp=>?_,)
   .have:ys=[]:=by
     have h:=d2.length;rw[z] at h;simp_all
    subst this;refine q F H _ (cE.refl _) R ?_;rw[yBa];rcases nx with nx|⟨_,_,_,e,_⟩
    .exact nx
    .cases e
   .exact q.tup R hp (d1.append d2)
  .cases e
 .rename_i xs ys;split at e
  .rename_i c;cases e;let(a,vs,rfl,h1,d1):=nx.lst R.sub;let(b,ws,rfl,h2,d2):=ny.lst R.sub;cases rx;cases ry;exact bBj I h1 h2 (by rw[<- d1.length,<- d2.length];exact c) λ p hp=>aCn.out R q p _ hp (d1.append d2)
  .cases e
 .cases e
def aKy{F:Hp}{x:D}{v:V}(h:Den K F x v):∀ k:Nat,DenL K F (yAg k x) (yAg k v)
 |0=>.nil|k+1=>.cons h (aKy h k)
def aXp(I:Inv X aB σ H s)(rx:bB x v)(ry:bB y u)(R:Rel X.K F L S H)(nx:cF X.K F H dx x)(ny:cF X.K F H dy y)(e:aFA dx dy=qz z)(q:gM X F L S z Q) :
 qu (model X.prog X.w) X.A (zk .Mult v u) (EP X aB σ Q) X.xe s:=by
 unfold aFA at e;split at e
 .rename_i i j;split at e
  .rename_i c;cases e;obtain rfl:=nx.int;obtain rfl:=ny.int;let(t,rfl):=rx;let(t',rfl):=ry;refine PyProof.Rows.mul_int (.int (i*j),H,I.tok _,(_,rfl,),q.here R (.int _),) ?_;unfold IntMulOk;unfold pV at c;intro z;rw[z] at c;cases c
  .cases e
 .rename_i xs k;split at e
  .rename_i c;cases e;let(a,vs,rfl,h1,d1):=nx.lst R.sub;obtain rfl:=ny.int;cases rx;let(t',rfl):=ry;exact aNS I h1 c.2.1 c.1 (by rw[<- d1.length];exact c.2.2) λ p hp=>aCn.out R q p _ hp (d1.rep _)
  .cases e
 .rename_i xd k;split at e
  .rename_i c;cases e;let(a,vs,rfl,h1,d1):=nx.tup R.sub;obtain rfl:=ny.int;cases rx;let(t',rfl):=ry;obtain⟨kk,rfl⟩:∃ kk:Nat,k=(kk:Nat):=(k.toNat,by omega,);rw[yAu] at q;cases d1 with
   |cons dx dn=>
     cases dn;refine bBq I h1 (!_) (λ hk=>?_) λ p hp=>gM.tup R q hp (aKy dx kk)
     subst hk;refine q F H _ (cE.refl _) R ?_;rcases nx with nx|⟨_,_,_,z,_⟩
     .exact nx
     .cases z
  .cases e
 .cases e
def xD{C:Int->Int->Prop}{g:Int->Int->Int}(rule:dY X (zk op) (rI C λ i j=>.int (g i j))){i j:Int}(c:C i j)(I:Inv X aB σ H s)(rx:bB x v)(ry:bB y u)(R:Rel X.K F L S H)(nx:cF X.K F H (.int i) x)(ny:cF X.K F H (.int j) y)(q:gM X F L S (.int (g i j)) Q) :
 qu (model X.prog X.w) X.A (zk op v u) (EP X aB σ Q) X.xe s:=
 rule aB s σ H x y v u Q I rx ry (i,j,nx.int,ny.int,c,q.here R (.int _),)
def aBc{g:Int->Int->Int}(rule:dY X (zk op) (kR λ i j=>.int (g i j))){i j:Int}(I:Inv X aB σ H s)(rx:bB x v)(ry:bB y u)(R:Rel X.K F L S H)(nx:cF X.K F H (.int i) x)(ny:cF X.K F H (.int j) y)(q:gM X F L S (.int (g i j)) Q) :
 qu (model X.prog X.w) X.A (zk op v u) (EP X aB σ Q) X.xe s:=
 rule aB s σ H x y v u Q I rx ry (i,j,nx.int,ny.int,q.here R (.int _),)
def aSI:dY X (zk .FloorDiv) (rI (λ i j=>j≠0/\yDd i j=Ff) λ i j=>.int (i.fdiv j)):=opI λ _ _ _ _ _ _ _ hc q=>floordiv_int hc.1 q (.inl hc.2)
def bAm:dY X (zk .LShift) (rI (λ i j=>0<=j/\(yAo i:Int)+j<=2^27) λ i j=>.int (i*2^j.toNat)):=opI λ _ _ _ _ _ _ _ hc q=>lshift_int hc.1 hc.2 q
def aQ{α β:Type}{o:Option α}{f:α->Option β}{b:β}(h:o.bind f=qz b):∃ a,o=qz a/\f a=qz b:=by
 cases o with
 |none=>cases h|some a=>exact(a,rfl,h,)
def oH{α:Type}{p:Prop} [Decidable p]{a z:α}(h:(if p then qz a else qj)=qz z):p/\a=z:=by simp_all
def aXh(I:Inv X aB σ H s)(rx:bB x v)(ry:bB y u)(R:Rel X.K F L S H)(nx:cF X.K F H dx x)(ny:cF X.K F H dy y)(e:cD op dx dy=qz z)(q:gM X F L S z Q) :
 qu (model X.prog X.w) X.A (zk op v u) (EP X aB σ Q) X.xe s:=by
 cases op with
 |Add=>exact aWj I rx ry R nx ny e q|Mult=>exact aXp I rx ry R nx ny e q|MatMult=>cases e|Div=>cases e
 |Sub=>let(i,j,rfl,rfl,e):=jO e;cases e;exact aBc aVq I rx ry R nx ny q
 |BitAnd=>let(i,j,rfl,rfl,e):=jO e;cases e;exact aBc aXY I rx ry R nx ny q
 |BitOr=>let(i,j,rfl,rfl,e):=jO e;cases e;exact aBc aZH I rx ry R nx ny q
 |BitXor=>let(i,j,rfl,rfl,e):=jO e;cases e;exact aBc aV1 I rx ry R nx ny q
 |FloorDiv=>let(i,j,rfl,rfl,e):=jO e;let(c,rfl):=oH e;exact xD aSI c I rx ry R nx ny q
 |Mod=>let(i,j,rfl,rfl,e):=jO e;let(c,rfl):=oH e;exact xD aVc c I rx ry R nx ny q
 |Pow=>let(i,j,rfl,rfl,e):=jO e;let(c,rfl):=oH e;exact xD aXg c I rx ry R nx ny q
 |LShift=>let(i,j,rfl,rfl,e):=jO e;let(c,rfl):=oH e;exact xD bAm c I rx ry R nx ny q
 |RShift=>let(i,j,rfl,rfl,e):=jO e;let(c,rfl):=oH e;exact xD aWk c I rx ry R nx ny q
def aZy(I:Inv X aB σ H s)(rx:bB x v)(R:Rel X.K F L S H)(nx:cF X.K F H dx x)(e:vC op dx=qz z)(q:gM X F L S z Q) :
 qu (model X.prog X.w) X.A (unaryOp op v) (EP X aB σ Q) X.xe s:=by
 unfold vC at e;split at e
 .cases e;exact aWu aB s σ H x v Q I rx (_,nx.int,q.here R (.int _),)
 .cases e;exact aVK aB s σ H x v Q I rx (_,nx.int,q.here R (.int _),)
 .cases e
mutual
theorem aHV(I:Inv X aB σ H s)(sb:cE F H):∀ {d:D}{x:V}{v:qx},Den X.K F d x->bB x v->d.canLay0=Tt->∃ as,Reads s.heap v d as
 |_,_,v,.non,r,_=>by cases (show v=Value.none from r);exact(_,.none,)
 |_,_,v,.bl b,r,_=>by cases (show v=Value.bool b from r);exact(_,.bool b,)
 |_,_,v,.int i,r,_=>by let(t,rfl):=(show ∃ t,v=Value.int i t from r);exact(_,.int i t,)
 |_,_,v,.str y,r,_=>by let(t,rfl):=(show ∃ t,v=Value.str y t from r);exact(_,.str y t,)
 |_,_,v,.lst (a:=a) h dl,r,c=>by
   cases (show v=Value.ref a from r);let(aI,rv,p1,_):=I.list (sb.seq h);let(o,ho,hc,n,hd):=p1.isList;let(as,ra):=aAN I sb dl rv c;exact(_,.list ho hc hd (ra:),)
 |_,_,v,.exc _,_,c=>by cases c
 |_,_,v,.tup (a:=a) h dl,r,c=>by
   cases (show v=Value.ref a from r);let(aI,rv,p1,_):=I.tuple (oA sb h);let(o,ho,hc,n,hd):=p1;let(as,ra):=aAN I sb dl rv c;exact(_,.tuple ho hc hd (ra:),)
theorem aAN(I:Inv X aB σ H s)(sb:cE F H):∀ {ds:List D}{xs:List V}{us:List qx},DenL X.K F ds xs->bF xs us->yFc ds=Tt->∃ as,ReadsAll s.heap us ds as
 |_,_,_,.nil,r,_=>by cases r;exact(_,.nil,)
 |_,_,_,.cons h dl,.cons r rs,c=>by
   let(c1,c2):=Bool.and_eq_true_iff.mp c;let(as,ra):=aHV I sb h r c1;let(bs,rb):=aAN I sb dl rs c2;exact(_,.cons ra rb,)
end
def aAY(I:Inv X aB σ H s)(R:Rel X.K F L S H)(rx:bB x v)(nx:cF X.K F H dx x)(c:dx.canLay0=Tt):∃ as,Reads s.heap v dx as:=by
 rcases nx with nx|⟨ds,a,xs,rfl,rfl,e,dl⟩
 .exact aHV I R.sub nx rx c
 .cases rx;let(aI,rv,p1,_):=I.list (cI.of e);let(o,ho,hc,n,hd):=p1.isList;let(as,ra):=aAN I R.sub dl rv c;exact(_,.list ho hc hd (ra:),)
def aZE(hu:X.A.units+64<cLine)(I:Inv X aB σ H s)(rx:bB x v)(ry:bB y u)(R:Rel X.K F L S H)(nx:cF X.K F H dx x)(ny:cF X.K F H dy y)(c1:dx.canLay0=Tt)(c2:dy.canLay0=Tt)(c3:dx.depth<=60)(q:Q (.bl (yDt dx dy)) H):qu (model X.prog X.w) X.A (xw .Eq v u) (EP X aB σ Q) X.xe s:=by let(as,ra):=aAY I R rx nx c1;let(bs,rb):=aAY I R ry ny c2;refine SeqAt.compareEq_reads ra rb c1 c2 ?_ (.bl _,H,I,rfl,q,);have:min dx.depth dy.depth<=dx.depth:=yCs _ _;omega
def bAj(hu:X.A.units+64<cLine)(I:Inv X aB σ H s)(rx:bB x v)(ry:bB y u)(R:Rel X.K F L S H)(nx:cF X.K F H dx x)(ny:cF X.K F H dy y)(c1:dx.canLay0=Tt)(c2:dy.canLay0=Tt)(c3:dx.depth<=60)(q:Q (.bl (!yDt dx dy)) H):qu (model X.prog X.w) X.A (xw .NotEq v u) (EP X aB σ Q) X.xe s:=by let(as,ra):=aAY I R rx nx c1;let(bs,rb):=aAY I R ry ny c2;refine SeqAt.compareNe_reads ra rb c1 c2 ?_ (.bl _,H,I,rfl,q,);have:min dx.depth dy.depth<=dx.depth:=yCs _ _;omega
end
def aR4(h1:Den K F d x)(h2:Den K F e y)(f1:kJ d=Tt)(f2:kJ e=Tt):pA x y=yDt d e:=by
 cases h1<;>first|(simp[kJ] at f1;done)|skip
 all_goals cases h2<;>first|(simp[kJ] at f2;done)|rfl|skip
def aDq(h1:Den K F d x)(f1:kJ d=Tt):mS x=Tt:=by cases h1<;>first|rfl|(simp[kJ] at f1;done)
def aDw:∀ {ds:Li D}{xs:Li V},DenL K F ds xs->qY ds=Tt->xs.all mS=Tt
 |_,_,.nil,_=>rfl
 |_,_,.cons h r,f=>by
   simp only[qY,yBn] at f;rw[List.all_cons,aDq h f.1,aDw r f.2];rfl
def aEf(h2:Den K F e y)(f2:kJ e=Tt):∀ {ds:Li D}{xs:Li V},DenL K F ds xs->qY ds=Tt->vH y xs=inD e ds
 |_,_,.nil,_=>rfl
 |_,_,.cons h r,f=>by
   simp only[qY,yBn] at f;have ih:=aEf h2 f2 r f.2;unfold vH at ih ⊢;rw[yFv,ih,aR4 h h2 f.1 f2];rfl
section
variable {X:Cx}{aB:List (qw×Obj)}{s:qv}{σ:L2.St}{H:Hp}{x y:V}{v u:qx}{Q:VK}{F:Hp}{L:Lx}{S:aE}{dx dy:D}{b:Bool}
def cF.flat(h:cF X.K F H d z)(f:kJ d=Tt):Den X.K F d z:=by
 rcases h with h|⟨ds,_,_,rfl,_⟩
 .exact h
 .simp[kJ] at f
def aJN(sb:cE F H)(h:cF X.K F H d z)(e:aFy d=qz ys):∃ p xs,z=.ref p/\(cI X.K H p xs\/cZ X.K H p xs)/\DenL X.K F ys xs:=by
 cases d with
 |list l=>cases e;let(a,xs,e1,q,dl):=h.lst sb;exact(a,xs,e1,.inl q,dl,)
 |tuple l=>cases e;let(a,xs,e1,q,dl):=h.tup sb;exact(a,xs,e1,.inr q,dl,)
 |_=>cases e
def aJC(R:Rel X.K F L S H)(nx:cF X.K F H dx x):decide (x=.non)=kG dx:=by
 cases dx with
 |none=>rw[nx.non];rfl|bool c=>rw[nx.bl];rfl|int c=>rw[nx.int];rfl|str c=>rw[nx.str];rfl
 |list c=>let(a,xs,rfl,_):=nx.lst R.sub;rfl
 |tuple c=>let(a,xs,rfl,_):=nx.tup R.sub;rfl
 |dict c=>
   rcases nx with h|⟨_,_,_,e,_⟩
   .cases h;rfl
   .cases e
def aWF(hu:X.A.units+64<cLine)(I:Inv X aB σ H s)(rx:bB x v)(ry:bB y u)(R:Rel X.K F L S H)(nx:cF X.K F H dx x)(ny:cF X.K F H dy y)(e:rX op dx dy=qz b)(q:Q (.bl b) H) :
 qu (model X.prog X.w) X.A (xw op v u) (EP X aB σ Q) X.xe s:=by
 cases op with
 |Lt=>let(i,j,rfl,rfl,e):=jO e;cases e;exact bAG aB s σ H x y v u Q I rx ry (_,_,nx.int,ny.int,q,)
 |LtE=>let(i,j,rfl,rfl,e):=jO e;cases e;exact aZD aB s σ H x y v u Q I rx ry (_,_,nx.int,ny.int,q,)
 |Gt=>let(i,j,rfl,rfl,e):=jO e;cases e;exact bAP aB s σ H x y v u Q I rx ry (_,_,nx.int,ny.int,q,)
 |GtE=>let(i,j,rfl,rfl,e):=jO e;cases e;exact aZV aB s σ H x y v u Q I rx ry (_,_,nx.int,ny.int,q,)
 |Eq=>let(c,rfl):=oH e;exact aZE hu I rx ry R nx ny c.1 c.2.1 c.2.2 q
 |NotEq=>let(c,rfl):=oH e;exact bAj hu I rx ry R nx ny c.1 c.2.1 c.2.2 q
 |Is=>
   have e':(if kG dy=Tt then qz (kG dx) else uJ dx dy)=qz b:=e;by_cases c:kG dy=Tt
   .rw[if_pos c] at e';cases e';cases aJo c;exact aX5 aB s σ H x y v u Q I rx ry (ny.non,by rw[aJC R nx];exact q,)
   .rw[if_neg c] at e';let(p1,p2,rfl,rfl,rfl):=aIj e';obtain rfl:=nx.bl;obtain rfl:=ny.bl;cases rx;cases ry;exact wpAny_is_plain rfl (aBz I q (by cases p1<;>cases p2<;>rfl))
 |IsNot=>
   have e':(if kG dy=Tt then qz (!kG dx) else (uJ dx dy).bind λ b=>qz (!b))=qz b:=e;by_cases c:kG dy=Tt
   .rw[if_pos c] at e';cases e';cases aJo c;exact aTr aB s σ H x y v u Q I rx ry (ny.non,by rw[aJC R nx];exact q,)
   .rw[if_neg c] at e';let(b0,e1,e2):=aQ e';cases e2;let(p1,p2,rfl,rfl,rfl):=aIj e1;obtain rfl:=nx.bl;obtain rfl:=ny.bl;cases rx;cases ry;exact wpAny_isNot_plain rfl (aBz I q (by cases p1<;>cases p2<;>rfl))
 |In=>
   let(ys,hs,e):=aQ e;let(c,rfl):=oH e;let(p,xs,e1,sq,dl):=aJN R.sub ny hs;refine aQR aB s σ H x y v u Q I rx ry (p,xs,e1,sq,aDq (nx.flat c.1) c.1,aDw dl c.2,?_,);show Q (.bl (vH x xs)) H;rw[aEf (nx.flat c.1) c.1 dl c.2];exact q
 |NotIn=>
   let(ys,hs,e):=aQ e;let(c,rfl):=oH e;let(p,xs,e1,sq,dl):=aJN R.sub ny hs;refine aO6 aB s σ H x y v u Q I rx ry (p,xs,e1,sq,aDq (nx.flat c.1) c.1,aDw dl c.2,?_,);show Q (.bl (!vH x xs)) H;rw[aEf (nx.flat c.1) c.1 dl c.2];exact q
def aHt{xs:Li V}(h:DenL K F ds xs):xs.isEmpty=ds.isEmpty:=by cases h<;>rfl
def aUm(R:Rel X.K F L S H)(nx:cF X.K F H dx x)(e:sD dx=qz b):aFV X.K x H b:=by
 cases dx with
 |none=>cases e;rw[nx.non];exact rfl|bool c=>cases e;rw[nx.bl];exact rfl|int c=>cases e;rw[nx.int];exact rfl
 |str c=>
   rw[nx.str];have e':(if c.length<=qk then qz ((c.length:Int) != 0) else qj)=qz b:=e;split at e'
   .rename_i h;cases e';exact(h,rfl,)
   .cases e'
 |list c=>cases e;let(a,xs,rfl,sq,dl):=nx.lst R.sub;exact .inl (xs,sq,by rw[aHt dl],)
 |tuple c=>cases e;let(a,xs,rfl,sq,dl):=nx.tup R.sub;exact .inr (.inl (xs,sq,by rw[aHt dl],))
 |dict c=>cases e
end
abbrev FE:=bG->aE->Option (W×aE)
abbrev FT:=bG->aE->Option (Bool×aE)
abbrev FA:=bG->aE->Option (List W×aE)
abbrev FL:=bG->aE->Option (List D×aE)
inductive Fl where
 |nx (env:bG)|rt (w:W)|bk (env:bG)|ct (env:bG)
abbrev FS:=bG->aE->Option (Fl×aE)
inductive WDenL (K:FrG) (F:Hp) (L:Lx):List W->List V->Prop
 |nil:WDenL K F L [] []
 |cons {w:W}{ws:List W}{x:V}{xs:List V}:eX K F L w x->WDenL K F L ws xs->WDenL K F L (w::ws) (x::xs)
def WDenL.length:∀ {ws:Li W}{xs:Li V},WDenL K F L ws xs->↑ws=↑xs
 |_,_,.nil=>rfl|_,_,.cons _ r=>congrArg (· + 1) r.length
section
variable (K:FrG)
def aX(f:FE):TE:=λ σ H Q=>∃ F L S env w S',Rel K F L S H/\EnvR K F L env σ/\f env S=qz (w,S')/\∀ F' L' H' v,Gr F L F' L'->Rel K F' L' S' H'->eX K F' L' w v->Q v H'
def gN(f:FT):TT:=λ σ H Q=>∃ F L S env b S',Rel K F L S H/\EnvR K F L env σ/\f env S=qz (b,S')/\∀ F' L' H',Gr F L F' L'->Rel K F' L' S' H'->Q b H'
def fG(f:FA):TA:=λ σ H Q=>∃ F L S env ws S',Rel K F L S H/\EnvR K F L env σ/\f env S=qz (ws,S')/\∀ F' L' H' vs,Gr F L F' L'->Rel K F' L' S' H'->WDenL K F' L' ws vs->Q vs H'
def kA(f:FL):TE:=λ σ H Q=>∃ F L S env ds S',Rel K F L S H/\EnvR K F L env σ/\f env S=qz (ds,S')/\∀ F' L' H' p xs,Gr F L F' L'->Rel K F' L' S' H'->F' p=qj->p ∉ ad L'->H' p=qz (.lst xs)->DenL K F' ds xs->Q (.ref p) H'
def eU(f:FS):TS:=λ D σ H=>∃ F L S env fl S',Rel K F L S H/\EnvR K F L env σ/\f env S=qz (fl,S')/\∀ F' L' H',Gr F L F' L'->Rel K F' L' S' H'->match fl with|.nx aY=>∀ σ',EnvR K F' L' aY σ'->D.nx σ' H'|.rt w=>∀ v,eX K F' L' w v->D.rt v H'|.bk aY=>∀ σ',EnvR K F' L' aY σ'->D.bk σ' H'|.ct aY=>∀ σ',EnvR K F' L' aY σ'->D.ct σ' H'
end
def PE.weak{t t':TE}(h:PE X e t)(w:∀ σ H Q,t' σ H Q->t σ H Q):PE X e t':=λ aB s σ H Q I q=>h aB s σ H Q I (w σ H Q q)
def PT.weak{t t':TT}(h:PT X e t)(w:∀ σ H Q,t' σ H Q->t σ H Q):PT X e t':=λ aB s σ H Q I q=>h aB s σ H Q I (w σ H Q q)
def PW.weak{t t':TT}(h:PW X e t)(w:∀ σ H Q,t' σ H Q->t σ H Q):PW X e t':=λ wh aB s σ H Q I q=>h wh aB s σ H Q I (w σ H Q q)
def PA.weak{t t':TA}(h:PA X e t)(w:∀ σ H Q,t' σ H Q->t σ H Q):PA X e t':=λ pos aB s σ H Q I q=>h pos aB s σ H Q I (w σ H Q q)
def PS.weak(h:PS X e t)(w:∀ D σ H,t' D σ H->t D σ H):PS X e t':=λ aB s σ H D I q=>h aB s σ H D I (w D σ H q)
def eQ.weak(h:eQ X e t)(w:∀ D σ H,t' D σ H->t D σ H):eQ X e t':=λ aB s σ H D I q=>h aB s σ H D I (w D σ H q)
abbrev uU(K:FrG)(F:Hp)(L:Lx)(S':aE)(w:W)(Q:VK):Prop:=∀ F' L' H' v,Gr F L F' L'->Rel K F' L' S' H'->eX K F' L' w v->Q v H'
def f2(fa fb:FE)(g:aE->W->W->Oz (W×aE)):FE:=λ env S=>(fa env S).bind λ p=>(fb env p.2).bind λ q=>g q.2 p.1 q.1
def f1(fa:FE)(g:aE->W->Oz (W×aE)):FE:=λ env S=>(fa env S).bind λ p=>g p.2 p.1
def aCp{K:FrG}{fa fb:FE}{g:aE->W->W->Oz (W×aE)}{r:R2}(hr:∀ F L S H x y wx wy w S' Q,Rel K F L S H->eX K F L wx x->eX K F L wy y->g S wx wy=qz (w,S')->uU K F L S' w Q->r x y H Q)(σ:St)(H:Hp)(Q:VK)(h:aX K (f2 fa fb g) σ H Q):tOp r (aX K fa) (aX K fb) σ H Q:=by
 let(F,L,S,env,w,S',R,E,e,q):=h;unfold f2 at e;cases ea:fa env S with
 |none=>rw[ea] at e;cases e
 |some p=>
   let(wx,S1):=p;rw[ea] at e;dsimp only[yCy] at e;cases eb:fb env S1 with
   |none=>rw[eb] at e;cases e
   |some p2=>
     let(wy,S2):=p2;rw[eb] at e;dsimp only at e;refine(F,L,S,env,wx,S1,R,E,ea,λ F1 L1 H1 x g1 R1 d1=>(F1,L1,S1,env,wy,S2,R1,E.mono g1,eb,λ F2 L2 H2 y g2 R2 d2=>?_,),);exact hr F2 L2 S2 H2 x y wx wy w S' Q R2 (d1.mono g2) d2 e λ F3 L3 H3 v g3 R3 d3=>q F3 L3 H3 v ((g1.trans g2).trans g3) R3 d3
def bBg{fa:FE}{g:aE->W->Oz (W×aE)}{r:V->Hp->VK->Prop}(hr:∀ F L S H x wx w S' Q,Rel K F L S H->eX K F L wx x->g S wx=qz (w,S')->uU K F L S' w Q->r x H Q)(σ:St)(H:Hp)(Q:VK)(h:aX K (f1 fa g) σ H Q):tUn r (aX K fa) σ H Q:=by
 let(F,L,S,env,w,S',R,E,e,q):=h;unfold f1 at e;cases ea:fa env S with
 |none=>rw[ea] at e;cases e
 |some p=>
   let(wx,S1):=p;rw[ea] at e;dsimp only[yCy] at e;refine(F,L,S,env,wx,S1,R,E,ea,λ F1 L1 H1 x g1 R1 d1=>?_,);exact hr F1 L1 S1 H1 x wx w S' Q R1 d1 e λ F3 L3 H3 v g3 R3 d3=>q F3 L3 H3 v (g1.trans g3) R3 d3
def lU(i:Nat):FE:=λ env S=>match env[i]? with|some (qz w)=>qz (w,S)|_=>qj
def aQU(h:lU i env S=qz (w,S')):env[i]?=qz (qz w)/\S'=S:=by
 unfold lU at h;split at h
 .rename_i w' e;cases h;exact(e,rfl,)
 .cases h
variable {X:Cx}
def aYq(hN:X.N[i]?=qz x)(hv:Vis X.env.scope x)(hd:(x==("__debug__" : Str))=Ff)(hcd:(x==("__classdict__" : Str))=Ff):PE X (.Name x pos) (aX X.K (lU i)):=
 PE.weak (aKW hN hv hd hcd) λ σ H Q bC=>by
  let(F,L,S,env,w,S',R,E,e,q):=bC;let(e1,rfl):=aQU e;let(v,e2,d):=E.get i w e1;exact(v,e2,q F L H v Gr.refl R d,)
def fC(d:D):FE:=λ _ S=>qz (.d d,S)
def aZ3{i j pos}:PE X (.Constant (.int i) j pos) (aX X.K (fC (.int i))):=
 PE.weak aWU λ σ H Q bC=>by let(F,L,S,env,w,S',R,E,e,q):=bC;cases e;exact q F L H _ Gr.refl R (.int i)
def bAV{b j pos}:PE X (.Constant (.bool b) j pos) (aX X.K (fC (.bool b))):=
 PE.weak bAo λ σ H Q bC=>by let(F,L,S,env,w,S',R,E,e,q):=bC;cases e;exact q F L H _ Gr.refl R (.bl b)
def aZQ{j pos}:PE X (.Constant .none j pos) (aX X.K (fC .none)):=
 PE.weak aYa λ σ H Q bC=>by let(F,L,S,env,w,S',R,E,e,q):=bC;cases e;exact q F L H _ Gr.refl R .non
def aZa{x j pos}:PE X (.Constant (.str x) j pos) (aX X.K (fC (.str x))):=
 PE.weak aXe λ σ H Q bC=>by let(F,L,S,env,w,S',R,E,e,q):=bC;cases e;exact q F L H _ Gr.refl R (.str x)
def jH(g:D->D->Oz D)(S:aE)(x y:W):Oz (W×aE):=(dr S x).bind λ a=>(dr S y).bind λ b=>(g a b).bind λ z=>qz (.d z,S)
def hB(g:D->Oz D)(S:aE)(x:W):Oz (W×aE):=(dr S x).bind λ a=>(g a).bind λ z=>qz (.d z,S)
def aIR{g:D->D->Oz D}(h:jH g S x y=qz (w,S')):∃ a b z,dr S x=qz a/\dr S y=qz b/\g a b=qz z/\w=.d z/\S'=S:=by
 unfold jH at h;cases e1:dr S x with
 |none=>rw[e1] at h;cases h
 |some a=>
   cases e2:dr S y with
   |none=>rw[e1,e2] at h;cases h
   |some b=>
     rw[e1,e2] at h;dsimp only[yCy] at h;cases e3:g a b with
     |none=>rw[e3] at h;cases h|some z=>rw[e3] at h;cases h;exact(a,b,z,rfl,rfl,e3,rfl,rfl,)
def wC{g:D->Oz D}(h:hB g S x=qz (w,S')):∃ a z,dr S x=qz a/\g a=qz z/\w=.d z/\S'=S:=by
 unfold hB at h;cases e1:dr S x with
 |none=>rw[e1] at h;cases h
 |some a=>
   rw[e1] at h;dsimp only[yCy] at h;cases e3:g a with
   |none=>rw[e3] at h;cases h|some z=>rw[e3] at h;cases h;exact(a,z,rfl,e3,rfl,rfl,)
def aBj{Q:VK}(X:Cx)(hK:X.K=K)(q:uU K F L S (.d z) Q):gM X F L S z Q:=λ F' H' r sf R d=>by
 subst hK;exact q F' L H' r (sf,[],by simp,) R d
def rD2(X:Cx)(g:D->D->Oz D):R2:=λ x y H Q=>∃ F L S dx dy z,Rel X.K F L S H/\cF X.K F H dx x/\cF X.K F H dy y/\g dx dy=qz z/\gM X F L S z Q
def aBD{g:D->D->Oz D}(F:Hp)(L:Lx)(S:aE)(H:Hp)(x y:V)(wx wy w:W)(S':aE)(Q:VK)(R:Rel X.K F L S H)(h1:eX X.K F L wx x)(h2:eX X.K F L wy y)(e:jH g S wx wy=qz (w,S'))(q:uU X.K F L S' w Q):rD2 X g x y H Q:=by let(a,b,z,e1,e2,e3,rfl,rfl):=aIR e;exact(F,L,S',a,b,z,R,lA R h1 e1,lA R h2 e2,e3,aBj X rfl q,)
def sB(op:jw)(fa fb:FE):FE:=f2 fa fb (jH (cD op))
def bAx{fa fb:FE}(ha:PE X a (aX X.K fa))(hb:PE X b (aX X.K fb)):PE X (.BinOp a op b pos) (aX X.K (sB op fa fb)):=
 PE.weak (aMt (r:=rD2 X (cD op)) (λ aB s σ H x y v u Q I rx ry hPr0=>by let(F,L,S,dx,dy,z,R,nx,ny,e,q):=hPr0;exact aXh I rx ry R nx ny e q) ha hb) (aCp aBD)
def fUn(op:wq)(fa:FE):FE:=f1 fa (hB (vC op))
def bBa{fa:FE}(ha:PE X a (aX X.K fa)):PE X (.UnaryOp op a pos) (aX X.K (fUn op fa)):=
 PE.weak (aY2 (r:=λ x H Q=>∃ F L S dx z,Rel X.K F L S H/\cF X.K F H dx x/\vC op dx=qz z/\gM X F L S z Q) (λ aB s σ H x v Q I rx hPr1=>by let(F,L,S,dx,z,R,nx,e,q):=hPr1;exact aZy I rx R nx e q) ha)
  (bBg λ F L S H x wx w S' Q R d e q=>by
    let(a,z,e1,e3,rfl,rfl):=wC e;exact(F,L,S',a,z,R,lA R d e1,e3,aBj X rfl q,))
def bE(op:jx)(x y:D):Oz D:=(rX op x y).map Bz
def aIM(hu:X.A.units+64<cLine):dY X (xw op) (rD2 X (bE op)):=λ aB s σ H x y v u Q I rx ry bC=>by
 let(F,L,S,dx,dy,z,R,nx,ny,e,q):=bC;unfold bE at e;cases ec:rX op dx dy with
 |none=>rw[ec] at e;cases e|some b=>rw[ec] at e;cases e;exact aWF hu I rx ry R nx ny ec (q.here R (.bl b))
def oO(op:jx)(fa fb:FE):FE:=f2 fa fb (jH (bE op))
def aZi{fa fb:FE}(hu:X.A.units+64<cLine)(ha:PE X a (aX X.K fa))(hb:PE X b (aX X.K fb))(hm:xz op b=Ff):PE X (.Compare a [op] [b] pos) (aX X.K (oO op fa fb)):=
 PE.weak (aTo (aIM hu) ha hb hm) (aCp aBD)
def dW(fa:FE):FT:=λ env S=>(fa env S).bind λ p=>(dr p.2 p.1).bind λ d=>(sD d).bind λ b=>qz (b,p.2)
def aDi{fa:FE}(h:dW fa env S=qz (b,S')):∃ w d,fa env S=qz (w,S')/\dr S' w=qz d/\sD d=qz b:=by
 unfold dW at h;cases ea:fa env S with
 |none=>rw[ea] at h;cases h
 |some p=>
   let(w,S1):=p;rw[ea] at h;dsimp only[yCy] at h
   grind
def bAI{fa:FE}(ha:PE X a (aX X.K fa))(he:∀ kS,isTrue a X.env kS=(do let v <- kS;standAt a.pos;holding [v] (truthy v))):PT X a (gN X.K (dW fa)):=
 PT.weak (aSh ha he) λ σ H Q bC=>by
  let(F,L,S,env,b,S',R,E,e,q):=bC;let(w,d,e1,e2,e3):=aDi e;exact(F,L,S,env,w,S',R,E,e1,λ F1 L1 H1 v g1 R1 d1=>(b,aUm R1 (lA R1 d1 e2) e3,q F1 L1 H1 g1 R1,),)
def aV3{fa fb:FE}(hu:X.A.units+64<cLine)(ha:PE X a (aX X.K fa))(hb:PE X b (aX X.K fb))(hm:xz op b=Ff):PT X (.Compare a [op] [b] pos) (gN X.K (dW (oO op fa fb))):=
 PT.weak (aUQ (aIM hu) ha hb hm) λ σ H Q bC=>by
  let(F,L,S,env,b,S',R,E,e,q):=bC;let(w,d,e1,e2,e3):=aDi e;refine @aCp _ fa fb (jH (bE op)) _ aBD σ H _ (F,L,S,env,w,S',R,E,e1,λ F1 L1 H1 v g1 R1 d1=>?_,);have hc:∃ c,w=.d (Bz c):=by
   unfold oO f2 at e1;cases ea:fa env S with
   |none=>rw[ea] at e1;cases e1
   |some p=>
     rw[ea] at e1;dsimp only[yCy] at e1;cases eb:fb env p.2 with
     |none=>rw[eb] at e1;cases e1
     |some p2=>
       rw[eb] at e1;dsimp only at e1;let(_,_,z,_,_,e6,rfl,_):=aIR e1;unfold bE at e6;cases e7:rX op _ _ with
       |none=>rw[e7] at e6;cases e6|some c=>rw[e7] at e6;grind
  let(c,rfl):=hc;cases e2;cases e3;have hv:v=.bl b:=by cases (show Den X.K F1 (.bool b) v from d1);rfl
  exact(b,hv,q F1 L1 H1 g1 R1,)
def zW(fa fb:FT):FT:=λ env S=>(fa env S).bind λ p=>if p.1=Tt then fb env p.2 else qz (Ff,p.2)
def fOr(fa fb:FT):FT:=λ env S=>(fa env S).bind λ p=>if p.1=Tt then qz (Tt,p.2) else fb env p.2
def aAe(fa:FT):FT:=λ env S=>(fa env S).bind λ p=>qz (!p.1,p.2)
def aM9{fa fb:FT}(σ:St)(H:Hp)(Q:Bool->Hp->Prop)(h:gN K (zW fa fb) σ H Q):aNT (gN K fa) (gN K fb) σ H Q:=by
 let(F,L,S,env,b,S',R,E,e,q):=h;let((c,S1),e1,e2):=aQ e;refine(F,L,S,env,c,S1,R,E,e1,λ F1 L1 H1 g1 R1=>?_,);dsimp only at e2;cases c with
 |true=>exact zA (F1,L1,S1,env,b,S',R1,E.mono g1,by simpa using e2,λ F2 L2 H2 g2 R2=>q F2 L2 H2 (g1.trans g2) R2,)
 |false=>
   grind
def aNq{fa fb:FT}(σ:St)(H:Hp)(Q:Bool->Hp->Prop)(h:gN K (fOr fa fb) σ H Q):tOr (gN K fa) (gN K fb) σ H Q:=by
 let(F,L,S,env,b,S',R,E,e,q):=h;let((c,S1),e1,e2):=aQ e;refine(F,L,S,env,c,S1,R,E,e1,λ F1 L1 H1 g1 R1=>?_,);dsimp only at e2;cases c with
 |false=>exact zB (F1,L1,S1,env,b,S',R1,E.mono g1,by simpa using e2,λ F2 L2 H2 g2 R2=>q F2 L2 H2 (g1.trans g2) R2,)
 |true=>
   grind
def aZz{fa:FT}(ha:PT X a (gN X.K fa)):PT X (.UnaryOp .Not a pos) (gN X.K (aAe fa)):=
 PT.weak (aXP ha) λ σ H Q bC=>by
  let(F,L,S,env,b,S',R,E,e,q):=bC;let((c,S1),e1,e2):=aQ e;cases e2;exact(F,L,S,env,c,S1,R,E,e1,q,)
def xV(fa fb:FE):FE:=λ env S=>(fa env S).bind λ p=>match p.1 with|.d (Bz true)=>fb env p.2|.d (Bz false)=>qz (.d (Bz Ff),p.2)|_=>qj
def aAb(fa fb:FE):FE:=λ env S=>(fa env S).bind λ p=>match p.1 with|.d (Bz false)=>fb env p.2|.d (Bz true)=>qz (.d (Bz Tt),p.2)|_=>qj
def yT(fa:FE):FE:=λ env S=>(fa env S).bind λ p=>match p.1 with|.d (Bz b)=>qz (.d (Bz (!b)),p.2)|_=>qj
def yO(h:eX K F L (.d (Bz b)) v):v=.bl b:=by cases (show Den K F (.bool b) v from h);rfl
def aMa{fa fb:FE}(σ:St)(H:Hp)(Q:VK)(h:aX K (xV fa fb) σ H Q):aMq (aX K fa) (aX K fb) σ H Q:=by
 let(F,L,S,env,w,S',R,E,e,q):=h;let((c,S1),e1,e2):=aQ e;dsimp only at e2;split at e2
 .exact(F,L,S,env,_,S1,R,E,e1,λ F1 L1 H1 v g1 R1 d1=>(Tt,yO d1,zA (F1,L1,S1,env,w,S',R1,E.mono g1,e2,λ F2 L2 H2 v2 g2 R2 d2=>q F2 L2 H2 v2 (g1.trans g2) R2 d2,),),)
 .cases e2;exact(F,L,S,env,_,_,R,E,e1,λ F1 L1 H1 v g1 R1 d1=>(Ff,yO d1,zB (q F1 L1 H1 _ g1 R1 (Den.bl Ff)),),)
 .cases e2
def aMO{fa fb:FE}(σ:St)(H:Hp)(Q:VK)(h:aX K (aAb fa fb) σ H Q):aNY (aX K fa) (aX K fb) σ H Q:=by
 let(F,L,S,env,w,S',R,E,e,q):=h;let((c,S1),e1,e2):=aQ e;dsimp only at e2;split at e2
 .exact(F,L,S,env,_,S1,R,E,e1,λ F1 L1 H1 v g1 R1 d1=>(Ff,yO d1,zB (F1,L1,S1,env,w,S',R1,E.mono g1,e2,λ F2 L2 H2 v2 g2 R2 d2=>q F2 L2 H2 v2 (g1.trans g2) R2 d2,),),)
 .cases e2;exact(F,L,S,env,_,_,R,E,e1,λ F1 L1 H1 v g1 R1 d1=>(Tt,yO d1,zA (q F1 L1 H1 _ g1 R1 (Den.bl Tt)),),)
 .cases e2
def aWM{fa:FE}(ha:PE X a (aX X.K fa)):PE X (.UnaryOp .Not a pos) (aX X.K (yT fa)):=
 PE.weak (aYj ha) λ σ H Q bC=>by
  let(F,L,S,env,w,S',R,E,e,q):=bC;let((c,S1),e1,e2):=aQ e;dsimp only at e2;split at e2
  .cases e2;exact(F,L,S,env,_,_,R,E,e1,λ F1 L1 H1 v g1 R1 d1=>(_,yO d1,q F1 L1 H1 _ g1 R1 (Den.bl _),),)
  .cases e2
def zD(fc:FT)(fa fb:FE):FE:=λ env S=>(fc env S).bind λ p=>if p.1=Tt then fa env p.2 else fb env p.2
def aYQ{fc:FT}{fa fb:FE}(hc:PT X c (gN X.K fc))(ha:PE X a (aX X.K fa))(hb:PE X b (aX X.K fb)):PE X (.IfExp c a b pos) (aX X.K (zD fc fa fb)):=
 PE.weak (aR5 hc ha hb) λ σ H Q bC=>by
  let(F,L,S,env,w,S',R,E,e,q):=bC;let((c,S1),e1,e2):=aQ e;refine(F,L,S,env,c,S1,R,E,e1,λ F1 L1 H1 g1 R1=>?_,);dsimp only at e2;cases c with
  |true=>exact zA (F1,L1,S1,env,w,S',R1,E.mono g1,by simpa using e2,λ F2 L2 H2 v g2 R2 d2=>q F2 L2 H2 v (g1.trans g2) R2 d2,)|false=>exact zB (F1,L1,S1,env,w,S',R1,E.mono g1,by simpa using e2,λ F2 L2 H2 v g2 R2 d2=>q F2 L2 H2 v (g1.trans g2) R2 d2,)
def iS:FA:=λ _ S=>qz ([],S)
def dU(fa:FE)(fr:FA):FA:=λ env S=>(fa env S).bind λ p=>(fr env p.2).bind λ q=>qz (p.1::q.1,q.2)
def aFo:PA X [] (fG X.K iS):=PA.weak aEJ λ σ H Q bC=>by let(F,L,S,env,ws,S',R,E,e,q):=bC;cases e;exact q F L H [] Gr.refl R .nil
def mN{fa:FE}{fr:FA}(ha:PE X e (aX X.K fa))(hr:PA X es (fG X.K fr))(hs:qo (e::es) X.env=(Ff,eval e X.env)::qo es X.env):PA X (e::es) (fG X.K (dU fa fr)):=
 PA.weak (aD5 ha hr hs) λ σ H Q bC=>by
  let(F,L,S,env,ws,S',R,E,e,q):=bC;let((w,S1),e1,e2):=aQ e;let((wr,S2),e3,e4):=aQ e2;cases e4;exact(F,L,S,env,w,S1,R,E,e1,λ F1 L1 H1 v g1 R1 d1=>(F1,L1,S1,env,wr,S2,R1,E.mono g1,e3,λ F2 L2 H2 vs g2 R2 d2=>q F2 L2 H2 _ (g1.trans g2) R2 (.cons (d1.mono g2) d2),),)
def jV:Li W->Oz (Li D)
 |[]=>qz []|.d x::r=>(jV r).bind λ l=>qz (x::l)|.tpl ws::r=>(fY ws).bind λ x=>(jV r).bind λ l=>qz (.tuple x::l)|_::_=>qj
def qW:∀ {ws:Li W}{xs:Li V}{ds:Li D},WDenL K F L ws xs->jV ws=qz ds->DenL K F ds xs
 |_,_,_,.nil,e=>by cases e;exact .nil
 |.d x::r,_,_,.cons h t,e=>by
   let(l,e1,e2):=aQ e;cases e2;exact .cons h (qW t e1)
 |.tpl ws::r,_,_,.cons h t,e=>by
   let(x,e0,e):=aQ e;let(l,e1,e2):=aQ e;cases e2;let(a,vs,rfl,h1,h2):=h;exact .cons (.tup (.inl (.inl h1)) (aBi h2 e0)) (qW t e1)
 |.loc _::_,_,_,.cons _ _,e=>by cases e|.exc _ _::_,_,_,.cons _ _,e=>by cases e|.dic _::_,_,_,.cons _ _,e=>by cases e|.ob _::_,_,_,.cons _ _,e=>by cases e
def zK(fs:FA):FE:=λ env S=>(fs env S).bind λ p=>(jV p.1).bind λ ds=>if ↑ds<=qk then qz (.d (Tz ds),p.2) else qj
def aYZ{fs:FA}(h:PA X es (fG X.K fs)):PE X (.Tuple es k pos) (aX X.K (zK fs)):=
 PE.weak (aLE h) λ σ H Q bC=>by
  let(F,L,S,env,w,S',R,E,e,q):=bC;let((ws,S1),e1,e2):=aQ e;let(ds,e3,e4):=aQ e2;split at e4
  .rename_i hz;cases e4;refine(F,L,S,env,ws,_,R,E,e1,λ F1 L1 H1 vs g1 R1 d1=>?_,);have dl:=qW d1 e3;refine(by rw[<- dl.length];exact hz,λ p hp=>?_,);exact q _ L1 _ _ (g1.trans (Gr.new (R1.sub.free hp))) (R1.new hp) (Den.tup (cZ.of dH) (dl.mono (gO (R1.sub.free hp))))
  .cases e4
def aAh(fs:FA):FL:=λ env S=>(fs env S).bind λ p=>(jV p.1).bind λ ds=>if ↑ds<=qk then qz (ds,p.2) else qj
def aZJ{fs:FA}(h:PA X es (fG X.K fs)):PE X (.List es pos) (kA X.K (aAh fs)):=
 PE.weak (aEG h) λ σ H Q bC=>by
  let(F,L,S,env,ds,S',R,E,e,q):=bC;let((ws,S1),e1,e2):=aQ e;let(ds',e3,e4):=aQ e2;split at e4
  .rename_i hz;cases e4;refine(F,L,S,env,ws,_,R,E,e1,λ F1 L1 H1 vs g1 R1 d1=>?_,);have dl:=qW d1 e3;exact(by rw[<- dl.length];exact hz,λ p hp=>q F1 L1 _ p vs g1 (R1.lay hp) (R1.sub.free hp) (R1.notin hp) dH dl,)
  .cases e4
def mD(f:FL):FE:=λ env S=>(f env S).bind λ p=>qz (.d (Lz p.1),p.2)
def aN1{f:FL}(h:PE X e (kA X.K f)):PE X e (aX X.K (mD f)):=
 PE.weak h λ σ H Q bC=>by
  let(F,L,S,env,w,S',R,E,e,q):=bC;let((ds,S1),e1,e2):=aQ e;cases e2;exact(F,L,S,env,ds,_,R,E,e1,λ F1 L1 H1 p xs g1 R1 hF hL hH dl=>q _ L1 _ _ (g1.trans (Gr.new hF)) (R1.adopt hF hL hH) (Den.lst (cI.of dH) (dl.mono (gO hF))),)
def oP(f:FL):FE:=λ env S=>(f env S).bind λ p=>qz (.loc p.2.length,p.2++[qz p.1])
def aZF{f:FL}(h:PE X e (kA X.K f)):PE X e (aX X.K (oP f)):=
 PE.weak h λ σ H Q bC=>by
  let(F,L,S,env,w,S',R,E,e,q):=bC;let((ds,S1),e1,e2):=aQ e;cases e2;refine(F,L,S,env,ds,_,R,E,e1,λ F1 L1 H1 p xs g1 R1 hF hL hH dl=>q _ _ _ _ (g1.trans Gr.newLoc) (R1.adoptLoc hF hL hH dl) (p,?_,rfl,),);dsimp only;rw[<- R1.len,yAh (yAc _)];simp
def aU:D->D->Oz D
 |.list xs,.int i=>lY xs i|.tuple xs,.int i=>lY xs i
 |.str z,.int i=>if z.length<=qk then (lY z.cps.toList i).bind λ c=>qz (.str ⟨#[c]⟩) else qj
 |_,_=>qj
def aKc{xs:Li V}{i:Int}(h:DenL K F ds xs)(e:lY ds i=qz d):∃ x,lY xs i=qz x/\Den K F d x:=by unfold lY at e ⊢;rw[<- h.length];let(j,e1,e2):=aQ e;let(x,e3,dx):=h.get e2;simp_all
def aUp:vG X (rD2 X aU):=λ value iX aB s σ H x y v u Q I rx ry bC hs=>by
 let(F,L,S,dx,dy,z,R,nx,ny,e,q):=bC;unfold aU at e;split at e
 .let(a,xs,rfl,sq,dl):=nx.lst R.sub;let(r,e1,d1):=aKc dl e;exact aUL value iX aB s σ H _ y v u Q I rx ry (a,xs,_,r,rfl,ny.int,sq,e1,q.here R d1,) hs
 .let(a,xs,rfl,sq,dl):=nx.tup R.sub;let(r,e1,d1):=aKc dl e;exact aWs value iX aB s σ H _ y v u Q I rx ry (a,xs,_,r,rfl,ny.int,sq,e1,q.here R d1,) hs
 .split at e
  .rename_i hz;let(c,e1,e2):=aQ e;cases e2;exact aWK value iX aB s σ H x y v u Q I rx ry (_,_,c,nx.str,ny.int,hz,e1,q.here R (.str _),) hs
  .cases e
 .cases e
def qL(fa fb:FE):FE:=f2 fa fb (jH aU)
def bBM{fa fb:FE}(ha:PE X a (aX X.K fa))(hb:PE X b (aX X.K fb))(hs:wX b):PE X (.Subscript a b pos) (aX X.K (qL fa fb)):=
 PE.weak (aNc aUp ha hb hs) (aCp aBD)
abbrev FO:=bG->aE->Option (Option Int×aE)
def fNo:FO:=λ _ S=>qz (qj,S)
def tW(fa:FE):FO:=λ env S=>(fa env S).bind λ p=>match p.1 with|.d (Iz i)=>qz (qz i,p.2)|_=>qj
def mX(K:FrG)(f:FO):TO:=λ σ H Q=>∃ F L S env o S',Rel K F L S H/\EnvR K F L env σ/\f env S=qz (o,S')/\∀ F' L' H',Gr F L F' L'->Rel K F' L' S' H'->Q o H'
def bBk:PO X qj (mX X.K fNo):=λ aB s σ H Q I bC=>by
 let(F,L,S,env,o,S',R,E,e,q):=bC;cases e;exact aTT aB s σ H Q I (q F L H Gr.refl R)
def aWd{fa:FE}(ha:PE X a (aX X.K fa)):PO X (qz a) (mX X.K (tW fa)):=λ aB s σ H Q I bC=>by
 let(F,L,S,env,o,S',R,E,e,q):=bC;let((w,S1),e1,e2):=aQ e;dsimp only at e2;split at e2
 .cases e2;refine aUc ha aB s σ H Q I (F,L,S,env,_,_,R,E,e1,λ F1 L1 H1 v g1 R1 d1=>?_,);cases (show Den X.K F1 (.int _) v from d1);exact(_,rfl,q F1 L1 H1 g1 R1,)
 .cases e2
def gK(xs:Li D)(lo hi:Oz Int):Li D:=(xs.drop (HT.sIx ↑xs 0 lo)).take (HT.sIx ↑xs ↑xs hi-HT.sIx ↑xs 0 lo)
def aKo{xs:Li V}(h:DenL K F ds xs)(lo hi:Oz Int):DenL K F (gK ds lo hi) (oK xs lo hi):=by unfold gK oK;rw[h.length];exact(h.drop _).take _
def slL:D->Oz Int->Oz Int->Oz (Li D)
 |.list xs,lo,hi=>qz (gK xs lo hi)|_,_,_=>qj
def aNC(fa:FE)(fl fh:FO):FL:=λ env S=>(fa env S).bind λ p=>(fl env p.2).bind λ q=>(fh env q.2).bind λ r=>(dr r.2 p.1).bind λ d=>(slL d q.1 r.1).bind λ z=>qz (z,r.2)
def bAy{lo hi:Option qy}{fa:FE}{fl fh:FO}(ha:PE X a (aX X.K fa))(hl:PO X lo (mX X.K fl))(hh:PO X hi (mX X.K fh)):PE X (.Subscript a (.Slice lo hi qj p2) pos) (kA X.K (aNC fa fl fh)):=
 PE.weak (aJr aUk ha hl hh) λ σ H Q bC=>by
  let(F,L,S,env,ds,S',R,E,e,q):=bC;let((w,S1),e1,e):=aQ e;let((l,S2),e2,e):=aQ e;let((h,S3),e3,e):=aQ e;let(d,e4,e):=aQ e;let(z,e5,e):=aQ e;cases e;refine(F,L,S,env,w,S1,R,E,e1,λ F1 L1 H1 v g1 R1 d1=>(F1,L1,S1,env,l,S2,R1,E.mono g1,e2,λ F2 L2 H2 g2 R2=>(F2,L2,S2,env,h,S3,R2,E.mono (g1.trans g2),e3,λ F3 L3 H3 g3 R3=>?_,),),);have n:=lA R3 (d1.mono (g2.trans g3)) e4;cases d with
  |list xs=>
    cases e5;let(a,vs,rfl,sq,dl):=n.lst R3.sub;exact(a,vs,rfl,sq,λ p hp=>q F3 L3 _ p _ ((g1.trans g2).trans g3) (R3.lay hp) (R3.sub.free hp) (R3.notin hp) dH (aKo dl l h),)
  |_=>cases e5
def qP(K:FrG)(np:Nat)(call:Li W->aE->Oz (W×aE)):Sp:=λ vs H Q _=>∃ F L S ws w S',↑ws=np/\Rel K F L S H/\WDenL K F L ws vs/\call ws S=qz (w,S')/\uU K F L S' w Q
def aB8(fs:FA)(np:Nat)(call:Li W->aE->Oz (W×aE)):FE:=λ env S=>(fs env S).bind λ p=>if p.1.length=np then call p.1 p.2 else qj
def aWJ{fs:FA}{call:Li W->aE->Oz (W×aE)}(σ:St)(H:Hp)(Q:VK)(h:aX K (aB8 fs np call) σ H Q):aBV (qP K np call) [] E0 (fG K fs) σ H Q:=by
 let(F,L,S,env,w,S',R,E,e,q):=h;let((ws,S1),e1,e):=aQ e;split at e
 .rename_i hn;refine(F,L,S,env,ws,S1,R,E,e1,λ F1 L1 H1 vs g1 R1 d1=>(F1,L1,S1,ws,w,S',hn,R1,by rw[yBa];exact d1,e,λ F2 L2 H2 v g2 R2 d2=>q F2 L2 H2 v (g1.trans g2) R2 d2,),)
 .cases e
inductive NowL (K:FrG) (F H:Hp):List D->List V->Prop
 |nil:NowL K F H [] []
 |cons {d:D}{ds:List D}{x:V}{xs:List V}:cF K F H d x->NowL K F H ds xs->NowL K F H (d::ds) (x::xs)
def pB(S:aE):Li W->Oz (Li D)
 |[]=>qz []|w::r=>(dr S w).bind λ d=>(pB S r).bind λ l=>qz (d::l)
def aKL(R:Rel K F L S H):∀ {ws:Li W}{xs:Li V}{ds:Li D},WDenL K F L ws xs->pB S ws=qz ds->NowL K F H ds xs
 |_,_,_,.nil,e=>by cases e;exact .nil
 |_,_,_,.cons h t,e=>by
   let(d,e1,e):=aQ e;let(l,e2,e):=aQ e;cases e;exact .cons (lA R h e1) (aKL R t e2)
def qH(X:Cx)(g:Li D->Oz D):Li V->Hp->VK->Prop:=λ xs H Q=>∃ F L S ds z,Rel X.K F L S H/\NowL X.K F H ds xs/\g ds=qz z/\gM X F L S z Q
def rS(fs:FA)(g:Li D->Oz D):FE:=λ env S=>(fs env S).bind λ p=>(pB p.2 p.1).bind λ ds=>(g ds).bind λ z=>qz (.d z,p.2)
def rO{fs:FA}{g:Li D->Oz D}(σ:St)(H:Hp)(Q:VK)(h:aX X.K (rS fs g) σ H Q):tCB (qH X g) (fG X.K fs) σ H Q:=by let(F,L,S,env,w,S',R,E,e,q):=h;let((ws,S1),e1,e):=aQ e;let(ds,e2,e):=aQ e;let(z,e3,e):=aQ e;cases e;refine(F,L,S,env,ws,_,R,E,e1,λ F1 L1 H1 vs g1 R1 d1=>(F1,L1,S1,ds,z,R1,aKL R1 d1 e2,e3,aBj X rfl λ F2 L2 H2 v g2 R2 d2=>q F2 L2 H2 v (g1.trans g2) R2 d2,),)
section
variable {prog:zq}{w:zj}{A:zv}{E:qx->qv->Prop}
def aId{it t:qw}{bD:Array qx}(hne:t≠it):∀ (n i:Nat) (s:qv) (Q:List qx->qv->Prop),s.heap.IsListIter it t i->s.heap.IsList t bD->i+n<=bD.size ->
 (∀ h',h'.IsListIter it t (i+n)->yDi it s.heap h'->Q ((bD.toList.drop i).take n) {s with heap:=h' })->qu (model prog w) A (draw (.ref it) n) Q E s
 |0,i,s,Q,hit,_,_,hQ=>wP (hQ s.heap hit (Heap.SameBut.refl _ _):)
 |n+1,i,s,Q,hit,hl,hle,hQ=>by
   have hlt:i<bD.size:=by omega
   show qu _ _ (yj (.ref it) >>= _) Q E s;refine wB (vv hit hl (x:=bD[i]) (by simp[hlt]) λ h1 hit1 hs1=>?_);refine wB (zu (aId hne n (i+1) _ _ hit1 (hl.extBut hs1.extBut hne) (!_) λ h2 hit2 hs2=>wP ?_));have q:=hQ h2 (by rw[show i+(n+1)=i+1+n by omega];exact hit2) (hs1.trans hs2);rw[yEd (hlt:),List.take_succ_cons] at q;exact q
end
def aPn{A:zv}{E:qx -> qv -> Prop}{s:qv}{x1}{Q:Unit->qv->Prop}(hh:A.handled=qj)(hl:s.heap.IsList t bD)(hn:(zo elts env).length=bD.size)(hstar:(zo elts env).findIdx? (·.1)=qj)(h:∀ h',Heap.ExtBut s.heap.objs.size s.heap h'->qu (model prog w) A (assignInOrder ((zo elts env).map (·.2)) bD.toList) Q E {s with heap:=h' }) :
 qu (model prog w) A (assign (.Tuple elts x1 pos) env (.ref t)) Q E s:=by
 have hlt:t≠s.heap.objs.size:=by let(o,ho,_):=hl;exact xAj (xAa ho)
 have hl1:∀ o,(s.heap.push o).IsList t bD:=λ o=>let ⟨u,hu,r⟩:=hl;(u,hpS _ hu,r,)
 rw[arm_assign_Tuple];refine wB (yq ?_);unfold unpack;rw[hn,hstar];refine wB (zu ?_);unfold unpackItems;refine wB ?_;unfold notIterableAtAll;refine wB (vo hl.typeIs slot_list_iter.lookup (wP ?_));simp only[yAv,if_false];refine wB (zu (jv hl ?_));refine wB (zu (aId hlt bD.size 0 _ _ (_,xAd _ rfl,rfl,rfl,) (hl1 _) (!_) λ h1 hit1 hs1=>?_));rw[show yFx bD.size (List.drop 0 bD.toList)=bD.toList by rw[yGi];exact yCi (by simp)];rw[if_neg (by simp)];have hl2:h1.IsList t bD:=(hl1 _).extBut hs1.extBut hlt;refine wB (zu (vw hh hit1 hl2 (by simp) λ h2 he2=>?_));simp only[Option.isSome_none,yAv,if_false];exact wP (h h2 λ b o hb e=>he2 b o hb (hs1.extBut b o hb (hpS _ e)))
def aF4(K:FrG)(n:Nat)(t:kB):TG:=λ v σ H Q=>∃ a xs,v=.ref a/\(cZ K H a xs\/cI K H a xs)/\↑xs=n/\t xs σ H Q
def aXu(hc:X.calm=Tt)(h:sJ X es t)(hn:(zo es X.env).length=n)(hst:(zo es X.env).findIdx? (·.1)=qj):PG X (.Tuple es k pos) (aF4 X.K n t):=by
 intro aB s σ H v u Q I r hw;let(a,xs,e1,hq,hl,hw):=hw;rcases hq with hq|hq
 .exact aWe hc h hn hst aB s σ H v u Q I r (a,xs,e1,hq,hl,hw,)
 .subst e1;cases r;let(aI,rv,pl,hz):=I.list hq;refine aPn (I.ok.hd hc) pl.isList (by simp[hn,<- hl,rv.length]) hst λ h' hx=>?_
  have I1:Inv X aB σ H {s with heap:=h' }:=I.kept (t':=s.toks) λ b o e=>hx b o (xAj (xAa e)) e
  exact h aB _ σ H xs _ Q I1 (rv:) hw
def aOh(K:FrG)(D:Ends)(F':Hp)(L':Lx)(H':Hp):Fl->Prop
 |.nx aY=>∀ σ',EnvR K F' L' aY σ'->D.nx σ' H'|.rt w=>∀ v,eX K F' L' w v->D.rt v H'|.bk aY=>∀ σ',EnvR K F' L' aY σ'->D.bk σ' H'|.ct aY=>∀ σ',EnvR K F' L' aY σ'->D.ct σ' H'
def nR{f:FS}{D:Ends}(R:Rel K F L S H)(E:EnvR K F L env σ)(e:f env S=qz (fl,S'))(q:∀ F' L' H',Gr F L F' L'->Rel K F' L' S' H'->aOh K D F' L' H' fl):eU K f D σ H:=⟨F,L,S,env,fl,S',R,E,e,λ F' L' H' g R'=>by
 have:=q F' L' H' g R';cases fl<;>exact this⟩
def kX{f:FS}{D:Ends}{σ:St}{H:Hp}(h:eU K f D σ H):∃ F L S env fl S',Rel K F L S H/\EnvR K F L env σ/\f env S=qz (fl,S')/\∀ F' L' H',Gr F L F' L'->Rel K F' L' S' H'->aOh K D F' L' H' fl:=by
 let(F,L,S,env,fl,S',R,E,e,q):=h;exact⟨F,L,S,env,fl,S',R,E,e,λ F' L' H' g R'=>by
  have:=q F' L' H' g R';cases fl<;>exact this⟩
def uG:FS:=λ env S=>qz (.nx env,S)
def aW4:eQ X [] (eU X.K uG):=eQ.weak aKm λ D σ H h=>by
 let(F,L,S,env,fl,S',R,E,e,q):=kX h;cases e;exact q F L H Gr.refl R σ E
def kM(fa fb:FS):FS:=λ env S=>(fa env S).bind λ p=>match p.1 with|.nx e=>fb e p.2|fl=>qz (fl,p.2)
def bAg{fa fb:FS}(ha:PS X a (eU X.K fa))(hb:eQ X b (eU X.K fb)):eQ X (a::b) (eU X.K (kM fa fb)):=eQ.weak (aIQ ha hb) λ D σ H h=>by
 let(F,L,S,env,fl,S',R,E,e,q):=kX h;let((f1,S1),e1,e2):=aQ e;cases f1 with
 |nx e'=>exact nR R E e1 λ F1 L1 H1 g1 R1 σ1 E1=>nR R1 E1 e2 λ F2 L2 H2 g2 R2=>q F2 L2 H2 (g1.trans g2) R2|rt w=>cases e2;exact nR R E e1 λ F1 L1 H1 g1 R1=>q F1 L1 H1 g1 R1|bk e'=>cases e2;exact nR R E e1 λ F1 L1 H1 g1 R1=>q F1 L1 H1 g1 R1|ct e'=>cases e2;exact nR R E e1 λ F1 L1 H1 g1 R1=>q F1 L1 H1 g1 R1
def yF(fa:FE):FS:=λ env S=>(fa env S).bind λ p=>qz (.nx env,p.2)
def aVo{pos:Pos}{fa:FE}(h:PE X e (aX X.K fa))(hs:swapsWith e qj pos.line X.env=pure Ff):PS X (.Expr e pos) (eU X.K (yF fa)):=PS.weak (aTE h hs) λ D σ H h=>by
 let(F,L,S,env,fl,S',R,E,e,q):=kX h;let((w,S1),e1,e2):=aQ e;cases e2;exact(F,L,S,env,w,_,R,E,e1,λ F1 L1 H1 v g1 R1 d1=>q F1 L1 H1 g1 R1 σ (E.mono g1),)
def qC(fa:FE):FS:=λ env S=>(fa env S).bind λ p=>qz (.rt p.1,p.2)
def bAz{fa:FE}(h:PE X e (aX X.K fa)):PS X (.Return (qz e) pos) (eU X.K (qC fa)):=PS.weak (aXW h) λ D σ H h=>by
 let(F,L,S,env,fl,S',R,E,e,q):=kX h;let((w,S1),e1,e2):=aQ e;cases e2;exact(F,L,S,env,w,_,R,E,e1,λ F1 L1 H1 v g1 R1 d1=>q F1 L1 H1 g1 R1 v d1,)
def aYG:FS:=λ env S=>qz (.rt (.d .none),S)
def oR(fc:FT)(fa fb:FS):FS:=λ env S=>(fc env S).bind λ p=>if p.1=Tt then fa env p.2 else fb env p.2
def bBz{fc:FT}{fa fb:FS}(hc:PT X c (gN X.K fc))(ha:eQ X a (eU X.K fa))(hb:eQ X b (eU X.K fb)):PS X (.If c a b pos) (eU X.K (oR fc fa fb)):=PS.weak (bAH hc ha hb) λ D σ H h=>by
 let(F,L,S,env,fl,S',R,E,e,q):=kX h;let((c,S1),e1,e2):=aQ e;refine(F,L,S,env,c,S1,R,E,e1,λ F1 L1 H1 g1 R1=>?_,);cases c with
 |true=>exact zA (nR R1 (E.mono g1) (e2:) λ F2 L2 H2 g2 R2=>q F2 L2 H2 (g1.trans g2) R2)|false=>exact zB (nR R1 (E.mono g1) (e2:) λ F2 L2 H2 g2 R2=>q F2 L2 H2 (g1.trans g2) R2)
def lM(i:Nat)(fa:FE):FS:=λ env S=>(fa env S).bind λ p=>qz (.nx (env.set i (qz p.1)),p.2)
def aMp{fa:FE}(D:Ends)(σ:St)(H:Hp)(h:eU K (lM i fa) D σ H):aAc (aX K fa) (pY i) D σ H:=by let(F,L,S,env,fl,S',R,E,e,q):=kX h;let((w,S1),e1,e2):=aQ e;cases e2;exact(F,L,S,env,w,_,R,E,e1,λ F1 L1 H1 v g1 R1 d1=>q F1 L1 H1 g1 R1 _ ((E.mono g1).set i d1),)
def aM3{pos:Pos}{fa:FE}(hN:X.N.Nodup)(hi:X.N[i]?=qz x)(hx:Loc X.env.scope x)(he:PE X e (aX X.K fa))(hs:swapsWith e (qz (.Name x pos')) pos.line X.env=pure Ff)(hf:X.fn x=Tt\/X.env.scope.names.lookup x=qz .local) :
 PS X (.Assign [.Name x pos'] e pos) (eU X.K (lM i fa)):=PS.weak (aVt hN hi hx he hs hf) aMp
def nU:Li Nat->Li D->bG->Option bG
 |[],[],env=>qz env|i::is,d::ds,env=>nU is ds (env.set i (qz (.d d)))|_,_,_=>qj
inductive Tg where
 |one (i:Nat)|many (is:List Nat)
def Tg.put:Tg->D->bG->Option bG
 |.one i,d,env=>qz (env.set i (qz (.d d)))|.many is,.tuple ds,env=>nU is ds env|.many is,.list ds,env=>nU is ds env|.many _,_,_=>qj
def GA(K:FrG)(t:Tg)(g:TG):Prop:=∀ (d:D) (x:V) (σ:St) (H F:Hp) (L:Lx) (S:aE) (env aY:bG) (Q:St->Hp->Prop),
 Rel K F L S H->EnvR K F L env σ->Den K F d x->t.put d env=qz aY->(∀ σ',EnvR K F L aY σ'->Q σ' H)->g x σ H Q
def aYf(i:Nat):GA K (.one i) (pY i):=λ d x σ H F L S env aY Q R E dn e q=>by
 cases e;exact q _ (E.set i (w:=.d d) dn)
def GAs(K:FrG)(is:Li Nat)(g:kB):Prop:=∀ (ds:Li D) (xs:Li V) (σ:St) (H F:Hp) (L:Lx) (S:aE) (env aY:bG) (Q:St->Hp->Prop),
 Rel K F L S H->EnvR K F L env σ->DenL K F ds xs->nU is ds env=qz aY->(∀ σ',EnvR K F L aY σ'->Q σ' H)->g xs σ H Q
def aTg:GAs K [] aFF:=λ ds xs σ H F L S env aY Q R E dn e q=>by
 cases dn with
 |nil=>cases e;exact(rfl,q σ E,)|cons _ _=>cases e
def aRE(h:GAs K is g):GAs K (i::is) (aFn (pY i) g):=λ ds xs σ H F L S env aY Q R E dn e q=>by
 cases dn with
 |nil=>cases e|cons d1 dr=>exact(_,_,rfl,h _ _ _ H F L S _ aY Q R (E.set i (w:=.d _) d1) dr e q,)
def aC4:∀ {is:Li Nat}{ds:Li D}{env aY:bG},nU is ds env=qz aY->↑is=↑ds
 |[],[],_,_,_=>rfl|_::is,_::ds,_,_,e=>congrArg (· + 1) (@aC4 is ds _ _ e)|[],_::_,_,_,e=>by cases e|_::_,[],_,_,e=>by cases e
def aTR(h:GAs K is g):GA K (.many is) (aF4 K ↑is g):=λ d x σ H F L S env aY Q R E dn e q=>by
 cases d with
 |tuple ds=>
   cases dn with
   |tup sq dl=>exact(_,_,rfl,.inl (oA R.sub sq),by rw[<- dl.length];exact(aC4 e).symm,h _ _ σ H F L S env aY Q R E dl e q,)
 |list ds=>
   cases dn with
   |lst sq dl=>exact(_,_,rfl,.inr (R.sub.seq sq),by rw[<- dl.length];exact(aC4 e).symm,h _ _ σ H F L S env aY Q R E dl e q,)
 |_=>cases e
def yM(t:Tg)(fa:FE):FS:=λ env S=>(fa env S).bind λ p=>match p.1 with|.d d=>(t.put d env).bind λ e=>qz (.nx e,p.2)|_=>qj
def aWx{fa:FE}(hg:GA K t g)(D:Ends)(σ:St)(H:Hp)(h:eU K (yM t fa) D σ H):aAc (aX K fa) g D σ H:=by
 let(F,L,S,env,fl,S',R,E,e,q):=kX h;let((w,S1),e1,e2):=aQ e;dsimp only at e2;split at e2
 .let(e',e3,e4):=aQ e2;cases e4;exact(F,L,S,env,_,_,R,E,e1,λ F1 L1 H1 v g1 R1 d1=>hg _ v σ H1 F1 L1 _ env e' _ R1 (E.mono g1) d1 e3 λ σ' E'=>q F1 L1 H1 g1 R1 σ' E',)
 .cases e2
def nY(S:aE):W->W->W->Option aE
 |.loc n,.d (Iz k),.d x=>match S[n]? with
   |some (qz ds)=>(mC ↑ds k).bind λ j=>qz (S.set n (qz (ds.set j x)))|_=>qj
 |_,_,_=>qj
def zN(fo fi fe:FE):FS:=λ env S=>(fe env S).bind λ p=>(fo env p.2).bind λ q=>(fi env q.2).bind λ r=>(nY r.2 q.1 r.1 p.1).bind λ S'=>qz (.nx env,S')
def aP8(h:nY S o i x=qz S'):∃ n k d ds j,o=.loc n/\i=.d (Iz k)/\x=.d d/\S[n]?=qz (qz ds)/\mC ↑ds k=qz j/\S'=S.set n (qz (ds.set j d)):=by
 unfold nY at h;split at h
 .split at h
  .rename_i ds e;let(j,e1,e2):=aQ h;cases e2;exact(_,_,_,ds,j,rfl,rfl,rfl,e,e1,rfl,)
  .cases h
 .cases h
def aZ5{fo fi fe:FE}(D:Ends)(σ:St)(H:Hp)(h:eU K (zN fo fi fe) D σ H):aAc (aX K fe) (aOc (aX K fo) (aX K fi) aMQ) D σ H:=by
 let(F,L,S,env,fl,S',R,E,e,q):=kX h;let((we,S1),e1,e):=aQ e;let((wo,S2),e2,e):=aQ e;let((wi,S3),e3,e):=aQ e;let(S4,e4,e):=aQ e;cases e;let(n,k,d,ds,j,rfl,rfl,rfl,e5,e6,rfl):=aP8 e4;refine(F,L,S,env,_,S1,R,E,e1,λ F1 L1 H1 v g1 R1 d1=>(F1,L1,S1,env,_,S2,R1,E.mono g1,e2,λ F2 L2 H2 o g2 R2 d2=>(F2,L2,S2,env,_,S3,R2,E.mono (g1.trans g2),e3,λ F3 L3 H3 i g3 R3 d3=>?_,),),);let(a,ea,rfl):=d2.mono g3;let(fa,xs,ha,dl):=R3.loc n a ds ea e5;have hi:i=.int k:=by cases (show Den K F3 (.int k) i from d3);rfl
 refine(a,xs,k,j,rfl,hi,ha,by rw[<- dl.length];exact e6,?_,);exact q F3 L3 _ ((g1.trans g2).trans g3) (R3.put ea fa (dl.set j (show Den K F3 d v from d1.mono (g2.trans g3)))) σ (E.mono ((g1.trans g2).trans g3))
def aYt{pos:Pos}{fo fi fe:FE}(ho:PE X o (aX X.K fo))(hi:PE X i (aX X.K fi))(he:PE X e (aX X.K fe))(ha:∀ v,assign (.Subscript o i pos') X.env v=(do
 let ov <- holding [v] (eval o X.env);let iv <- holding [v,ov] (eval i X.env)
 standAt pos'
 holding [v,ov,iv] (setItem ov iv v)
 release [v,ov,iv] []))(hs:swapsWithSole [.Subscript o i pos'] e pos.line X.env=pure Ff)(hw:wu [.Subscript o i pos'] e X.env=pure qj):PS X (.Assign [.Subscript o i pos'] e pos) (eU X.K (zN fo fi fe)):=
 PS.weak (aLH he (aWX ho hi aR1 ha) hs hw) aZ5
def uT(S:aE)(n:Nat)(x:D):Oz (W×aE):=match S[n]? with
 |some (qz ds)=>if ↑ds<qk then qz (.d .none,S.set n (qz (ds++[x]))) else qj
 |_=>qj
def eZ(S:aE):W->W->Oz (W×aE)
 |.loc n,.d x=>match S[n]? with
   |some (qz ds)=>if ↑ds<qk then qz (.d .none,S.set n (qz (ds++[x]))) else qj
   |_=>qj
 |.loc n,.tpl ws=>(fY ws).bind λ l=>uT S n (.tuple l)|_,_=>qj
def aHY(h:uT S n d=qz (w,S')):∃ ds,S[n]?=qz (qz ds)/\↑ds<qk/\w=.d .none/\S'=S.set n (qz (ds++[d])):=by
 unfold uT at h;split at h
 .rename_i ds e;split at h
  .rename_i hz;cases h;exact(ds,e,hz,rfl,rfl,)
  .cases h
 .cases h
def aIy(h:eZ S o x=qz (w,S')):∃ n d ds,o=.loc n/\wd x=qz d/\S[n]?=qz (qz ds)/\↑ds<qk/\w=.d .none/\S'=S.set n (qz (ds++[d])):=by
 cases o with
 |loc n=>
   cases x with
   |d x=>
     let(ds,h1,h2,h3,h4):=@aHY _ n x _ _ h;exact(n,x,ds,rfl,rfl,h1,h2,h3,h4,)
   |tpl ws=>
     let(l,e,h):=aQ (show(fY ws).bind (λ l=>uT S n (.tuple l))=qz (w,S') from h);let(ds,h1,h2,h3,h4):=aHY h;exact(n,_,ds,rfl,by rw[wd,e];rfl,h1,h2,h3,h4,)
   |_=>cases h
 |_=>cases x<;>cases h
def aCo(fo fe:FE):FE:=f2 fo fe eZ
def yN{fo fe:FE}(σ:St)(H:Hp)(Q:VK)(h:aX K (aCo fo fe) σ H Q):tBM K "list" aKr (aX K fo) (fG K (dU fe iS)) σ H Q:=by
 let(F,L,S,env,w,S',R,E,e,q):=h;let((wo,S1),e1,e):=aQ e;let((we,S2),e2,e):=aQ e;let(n,d,ds,rfl,ed,e5,hz,rfl,rfl):=aIy e;refine(F,L,S,env,_,S1,R,E,e1,λ F1 L1 H1 o g1 R1 d1=>?_,);let(a,ea,rfl):=d1;refine(.inl (rfl,?_,),F1,L1,S1,env,[we],S2,R1,E.mono g1,?_,λ F2 L2 H2 vs g2 R2 d2=>?_,)
 .let(xs,hx):=R1.trl ea;exact(xs,cI.of hx,)
 .unfold dU;rw[e2];rfl
 .cases d2 with
  |cons dd dr=>
    cases dr;have ea2:=g2.get ea;let(fa,xs,ha,dl):=R2.loc n a ds ea2 e5;exact(a,xs,_,rfl,rfl,ha,by rw[<- dl.length];exact hz,q F2 L2 _ _ (g1.trans g2) (R2.put ea2 fa (dl.append (.cons (aBu dd ed) .nil))) Den.non,)
structure Wk(K:FrG)(F:Hp)(L:Lx)(J:It)(ds:List D):Prop where
 go:∀ (i:Nat) (H:Hp),cE F H->i<↑ds->J.go i H
 stop:∀ (H:Hp),cE F H->J.stop ↑ds H
 yld:∀ (i:Nat) (H F1:Hp) (L1:Lx) (S:aE) (x:V) (H':Hp) (d:D),Gr F L F1 L1->Rel K F1 L1 S H->ds[i]?=qz d->J.yld i H x H'->∃ F2,cE F1 F2/\Rel K F2 L1 S H'/\Den K F2 d x
def kC(K:FrG)(f:FL):TI:=λ σ H R=>∃ F L S env ds S',Rel K F L S H/\EnvR K F L env σ/\f env S=qz (ds,S')/\∀ F' L' H' J,Gr F L F' L'->Rel K F' L' S' H'->Wk K F' L' J ds->R J H'
def PI.weak{t t':TI}(h:PI X tg iter t)(w:∀ σ H R,t' σ H R->t σ H R):PI X tg iter t':=λ aB s σ H R I q=>h aB s σ H R I (w σ H R q)
def aUi{xs:Li V}(sq:cI K F a xs)(dl:DenL K F ds xs):Wk K F L (Itl K a) ds where
 go:=λ i H s hi=>(xs,xs[i]'(by rw[<- dl.length];exact hi),s.seq sq,by simp_all,)
 stop:=λ H s=>(xs,s.seq sq,yFp dl.length.symm,)
 yld:=λ i H F1 L1 S x H' d g R e y=>by
  let(e1,y):=y;subst e1;have h:=y xs ((g.f.trans R.sub).seq sq);let(x',e2,dx):=dl.get e;rw[h] at e2;cases e2;exact(F1,cE.refl _,R,dx.mono g.f,)
def aVQ{xs:Li V}(sq:cZ K F a xs)(dl:DenL K F ds xs):Wk K F L (Itt K a) ds where
 go:=λ i H s hi=>(xs,xs[i]'(by rw[<- dl.length];exact hi),oA s sq,by simp_all,)
 stop:=λ H s=>(xs,oA s sq,yFp dl.length.symm,)
 yld:=λ i H F1 L1 S x H' d g R e y=>by
  let(e1,y):=y;subst e1;have h:=y xs (oA (g.f.trans R.sub) sq);let(x',e2,dx):=dl.get e;rw[h] at e2;cases e2;exact(F1,cE.refl _,R,dx.mono g.f,)
def lW(lo:Int):Nat->Li D
 |0=>[]|n+1=>.int lo::lW (lo+1) n
def aC1(n:Nat):∀ lo:Int,(lW lo n).length=n:=by
 induction n with
 |zero=>intro lo;rfl|succ n ih=>intro lo;simp[lW,ih]
def aJu:∀ (n:Nat) (lo:Int) (i:Nat),i<n->(lW lo n)[i]?=qz (.int (lo+i))
 |0,_,_,h=>by omega|n+1,lo,0,_=>by simp[lW]
 |n+1,lo,i+1,h=>by
   rw[lW,yDe,aJu n (lo+1) i (!_)];congr 2
   push_cast
   omega
def aJt(lo:Int)(n:Nat):Wk K F L (Itr lo n) (lW lo n) where
 go:=λ i H s hi=>by rw[aC1] at hi;exact hi
 stop:=λ H s=>by rw[aC1];exact yAc _
 yld:=λ i H F1 L1 S x H' d g R e y=>by
  let(rfl,rfl):=y;have hi:i<n:=by
   have:=(gIm e).1;rw[aC1] at this;exact this
  rw[aJu n lo i hi] at e;cases e;exact(F1,cE.refl _,R,.int _,)
def aNN(fa:FE):FL:=λ env S=>(fa env S).bind λ p=>match p.1 with|.d (Lz ds)=>qz (ds,p.2)|_=>qj
def aNG(fa:FE):FL:=λ env S=>(fa env S).bind λ p=>match p.1 with|.d (Tz ds)=>qz (ds,p.2)|_=>qj
def aZU{fa:FE}(ha:PE X a (aX X.K fa)):PI X tg a (kC X.K (aNN fa)):=PI.weak (aUf ha) λ σ H Rr bC=>by
 let(F,L,S,env,ds,S',R,E,e,q):=bC;let((w,S1),e1,e2):=aQ e;dsimp only at e2;split at e2
 .cases e2;refine(F,L,S,env,_,_,R,E,e1,λ F1 L1 H1 v g1 R1 d1=>?_,);cases (show Den X.K F1 (.list ds) v from d1) with
  |lst sq dl=>exact(_,rfl,(_,R1.sub.seq sq,),q F1 L1 H1 _ g1 R1 (aUi sq dl),)
 .cases e2
def aZw{fa:FE}(ha:PE X a (aX X.K fa)):PI X tg a (kC X.K (aNG fa)):=PI.weak (aVH ha) λ σ H Rr bC=>by
 let(F,L,S,env,ds,S',R,E,e,q):=bC;let((w,S1),e1,e2):=aQ e;dsimp only at e2;split at e2
 .cases e2;refine(F,L,S,env,_,_,R,E,e1,λ F1 L1 H1 v g1 R1 d1=>?_,);cases (show Den X.K F1 (.tuple ds) v from d1) with
  |tup sq dl=>exact(_,rfl,(_,oA R1.sub sq,),q F1 L1 H1 _ g1 R1 (aVQ sq dl),)
 .cases e2
def xT(fa:FE):FL:=λ env S=>(fa env S).bind λ p=>match p.1 with
 |.d (Iz j)=>if -(2^62)<=j/\j<2^62 then qz (lW 0 j.toNat,p.2) else qj
 |_=>qj
def yJ(fa fb:FE):FL:=λ env S=>(fa env S).bind λ p=>(fb env p.2).bind λ q=>match p.1,q.1 with
 |.d (Iz i),.d (Iz j)=>if (-(2^62)<=i/\i<2^62 /\ -(2^62)<=j/\j<2^62) then qz (lW i (j-i).toNat,q.2) else qj
 |_,_=>qj
def aVO{fa:FE}(σ:St)(H:Hp)(Rr:It->Hp->Prop)(h:kC K (xT fa) σ H Rr):aMx (fG K (dU fa iS)) σ H Rr:=by
 let(F,L,S,env,ds,S',R,E,e,q):=h;let((w,S1),e1,e2):=aQ e;dsimp only at e2;split at e2
 .split at e2
  .rename_i j c;cases e2;refine(F,L,S,env,[.d (Iz j)],_,R,E,by unfold dU;rw[e1];rfl,λ F1 L1 H1 vs g1 R1 d1=>?_,);cases d1 with
   |cons dd dr=>
     cases dr;cases (show Den K F1 (.int j) _ from dd);exact(j,rfl,c.1,c.2,q F1 L1 H1 _ g1 R1 (aJt 0 j.toNat),)
  .cases e2
 .cases e2
def aXK{fa fb:FE}(σ:St)(H:Hp)(Rr:It->Hp->Prop)(h:kC K (yJ fa fb) σ H Rr):aMN (fG K (dU fa (dU fb iS))) σ H Rr:=by
 let(F,L,S,env,ds,S',R,E,e,q):=h;let((w,S1),e1,e2):=aQ e;let((w2,S2),e3,e4):=aQ e2;dsimp only at e4;split at e4
 .split at e4
  .rename_i i j _ _ c;cases e4;refine(F,L,S,env,[.d (Iz _),.d (Iz _)],_,R,E,by unfold dU;rw[e1];dsimp only[yCy];rw[e3];rfl,λ F1 L1 H1 vs g1 R1 d1=>?_,);cases d1 with
   |cons dd dr=>
     cases dr with
     |cons dd2 dr=>
       cases dr;cases (show Den K F1 (.int _) _ from dd);cases (show Den K F1 (.int _) _ from dd2);exact(_,_,rfl,c,q F1 L1 H1 _ g1 R1 (aJt _ _),)
  .cases e4
 .cases e4
def oJ(t:Tg)(fb:FS):Li D->FS
 |[]=>λ env S=>qz (.nx env,S)
 | d::ds=>λ env S=>(t.put d env).bind λ e1=>(fb e1 S).bind λ q=>(match q.1 with
    |.nx e=>oJ t fb ds e q.2|.ct e=>oJ t fb ds e q.2|.bk e=>qz (.nx e,q.2)
    | .rt w=>qz (.rt w,q.2))
def pZ(t:Tg)(fi:FL)(fb:FS):FS:=λ env S=>(fi env S).bind λ p=>oJ t fb p.1 env p.2
def aYC{fi:FL}{fb:FS}(hp:PassesOwn (model X.prog X.w) X.A X.env X.xe)(hc:X.calm=Tt)(hi:PI X tg iter (kC X.K fi))(hg:PG X tg g)(ga:GA X.K t g)(hb:eQ X b (eU X.K fb))(hs:∀ x,jq iter X.env x=pure x):PS X (.For tg iter b [] pos) (eU X.K (pZ t fi fb)):=PS.weak (aXs hp hc hi hg hb hs) λ D σ H h=>by
 let(F,L,S,env,fl,S',R,E,e,q):=kX h;let((ds,S1),e1,e2):=aQ e;refine(F,L,S,env,ds,S1,R,E,e1,λ F0 L0 H0 J g0 R0 wk=>?_,)
 dsimp only at e2;refine⟨λ i m σ1 H1=>i+m=↑ds/\∃ F1 L1 S1 env1,Gr F0 L0 F1 L1/\Rel X.K F1 L1 S1 H1/\EnvR X.K F1 L1 env1 σ1/\oJ t fb (ds.drop i) env1 S1=qz (fl,S'),
  (↑ds,yEt _,F0,L0,S1,env,Gr.refl,R0,E.mono g0,by rw[yGi];exact e2,),?_⟩
 rintro i m σ1 H1 ⟨him,F1,L1,S1',env1,g1,R1,E1,e3⟩;cases m with
 |zero=>
   have hi:i=↑ds:=by omega
   subst hi;rw[yGl] at e3;cases e3;exact .inl (wk.stop H1 (g1.f.trans R1.sub),q F1 L1 H1 (g0.trans g1) R1 σ1 E1,)
 |succ m=>
   have hi:i<↑ds:=by omega
   refine .inr ⟨wk.go i H1 (g1.f.trans R1.sub) hi,λ σ3 H3=>∃ F3 L3 S3 env3,Gr F0 L0 F3 L3/\Rel X.K F3 L3 S3 H3/\EnvR X.K F3 L3 env3 σ3/\oJ t fb (ds.drop (i+1)) env3 S3=qz (fl,S'),
    λ σ3 H3 h3=>(m,yFj m,by omega,h3,),λ x H2 y=>?_⟩
   rw[yEd hi] at e3;let(env2,e4,e5):=aQ e3;let((f6,S6),e6,e7):=aQ e5;let(F2,s2,R2,d2):=wk.yld i H1 F1 L1 S1' x H2 ds[i] g1 R1 (yAb hi) y;have g2:Gr F1 L1 F2 L1:=(s2,[],by simp,);refine ga ds[i] x σ1 H2 F2 L1 S1' env1 env2 _ R2 (E1.mono g2) d2 e4 λ σ2 E2=>?_
   refine nR R2 E2 e6 λ F3 L3 H3 g3 R3=>?_
   have g03:=(g1.trans g2).trans g3;cases f6 with
   |nx e'=>exact λ σ3 E3=>(F3,L3,S6,e',g03,R3,E3,e7,)|ct e'=>exact λ σ3 E3=>(F3,L3,S6,e',g03,R3,E3,e7,)|bk e'=>cases e7;exact λ σ3 E3=>q F3 L3 H3 (g0.trans g03) R3 σ3 E3|rt w=>cases e7;exact λ v d=>q F3 L3 H3 (g0.trans g03) R3 v d
def rZ(k:Nat):aE->Li W0->Oz (Li W0×aE)
 |S,[]=>qz ([],S)|S,.d x::r=>(rZ k S r).map λ p=>(.d x::p.1,p.2)
 |S,.loc m::r=>if m<k then (rZ k S r).map λ p=>(.loc m::p.1,p.2) else match S[m]? with
   |some (qz ds)=>(rZ k (S.set m qj) r).map λ p=>(.d (Lz ds)::p.1,p.2)|_=>qj
 |_,.dic _::_=>qj
def rT(k:Nat)(S:aE):W->Oz (W×aE)
 |.d x=>qz (.d x,S.take k)
 |.loc m=>if m<k then qz (.loc m,S.take k) else match S[m]? with
   |some (qz ds)=>qz (.d (Lz ds),S.take k)|_=>qj
 |.exc c r=>qz (.exc c r,S.take k)|.tpl ws=>(rZ k S ws).map λ p=>(.tpl p.1,p.2.take k)|_=>qj
def map_some{α β:Type}{o:Option α}{f:α->β}{b:β}(h:o.map f=qz b):∃ a,o=qz a/\f a=b:=by simp_all
def aA9:∀ {ws:Li W0}{vs:Li V}{F:Hp}{S:aE}{ws':Li W0}{S':aE},Rel K F (L++M) S H->sA K F (L++M) ws vs->rZ ↑L S ws=qz (ws',S')->∃ F',cE F F'/\Rel K F' (L++M) S' H/\sA K F' L ws' vs/\S'.take ↑L=S.take ↑L
 |[],_,F,S,ws',S',R,.nil,e=>by cases e;exact(F,cE.refl _,R,.nil,rfl,)
 |.d x::r,_,F,S,ws',S',R,.cons h t,e=>by
   let((u,S1),e1,e2):=map_some e;cases e2;let(F',sf,R',d,z):=aA9 R t e1;exact(F',sf,R',.cons (Den.mono sf h) d,z,)
 |.loc m::r,_,F,S,ws',S',R,.cons h t,e=>by
   unfold rZ at e;let(a,ea,rfl):=h;split at e
   .rename_i hm;let((u,S1),e1,e2):=map_some e;cases e2;let(F',sf,R',d,z):=aA9 R t e1;rw[xAm hm] at ea;exact(F',sf,R',.cons (a,ea,rfl,) d,z,)
   .rename_i hm;split at e
    .rename_i ds es;let((u,S1),e1,e2):=map_some e;cases e2;let(F2,g2,R2,d2):=R.freeze ea es;let(F',sf,R',d,z):=aA9 R2 (L2.Paired.mapP t λ _ _ q=>q.mono g2) e1;refine(F',g2.f.trans sf,R',.cons (Den.mono sf d2) d,z.trans ?_,);rw[List.take_set,yEf (by rw[yBj];omega)]
    .cases e
 |.dic m::r,_,F,S,ws',S',R,.cons h t,e=>by cases e
def gH(fb:FS)(n:Nat)(ws:Li W)(S:aE):Oz (W×aE):=(fb (ws.map qz++yAg (n-↑ws) qj) S).bind λ p=>match p.1 with|.rt w=>rT ↑S p.2 w|.nx _=>qz (.d .none,p.2.take ↑S)|_=>qj
def aPx{N:Li Str}:∀ {ws:Li W}{vs:Li V},WDenL K F L ws vs->EnvR K F L (ws.map qz++yAg (N.length-↑ws) qj) (L2.start N vs):=by
 intro ws vs h;unfold L2.start;rw[h.length];generalize N.length-↑vs=k;refine(by simp[h.length],?_,)
 induction h with
 |nil=>
   intro i w e;have:=xAk e;simp at this
 |cons hd tl ih=>
   intro i w e;cases i with
   |zero=>simp at e;subst e;exact(_,rfl,hd,)
   |succ i=>
     let(v,e1,d):=ih i w (e:);exact(v,by simpa using e1,d,)
def aLC{F1:Hp}{L:Lx}{S:aE}{Q:VK}(R:↑L=↑S)(g:Gr F L F1 L1)(R1:Rel K F1 L1 S1 H1)(d:eX K F1 L1 w v)(e:rT ↑S S1 w=qz (w',S'))(q:uU K F L S' w' Q):Q v H1:=by
 let(sf,M,rfl):=g;cases w with
 |d x=>
   cases e;have R2:=R1.cut;rw[R] at R2;exact q F1 L H1 v (sf,[],by simp,) R2 d
 |exc c r=>
   cases e;have R2:=R1.cut;rw[R] at R2;exact q F1 L H1 v (sf,[],by simp,) R2 d
 |dic n=>cases e|ob fs=>cases e
 |tpl ws=>
   let((u,S2),e1,e2):=map_some (show(rZ ↑S S1 ws).map (λ p=>(W.tpl p.1,p.2.take ↑S))=qz (w',S') from e);cases e2;let(a,vs,rfl,h1,h2):=d;rw[<- R] at e1;let(F2,s2,R2,d2,z):=aA9 R1 h2 e1;have R3:=R2.cut;rw[R] at R3;exact q F2 L H1 _ (sf.trans s2,[],by simp,) R3 (a,vs,rfl,s2 _ _ h1,d2,)
 |loc m=>
   have e':(if m<↑S then qz (W.loc m,S1.take ↑S) else match S1[m]? with|some (qz ds)=>qz (W.d (Lz ds),S1.take ↑S)|_=>qj)=qz (w',S'):=e;split at e'
   .rename_i hm;cases e';have R2:=R1.cut;rw[R] at R2;let(a,ea,rfl):=d;rw[xAm (by rw[R];exact hm)] at ea;exact q F1 L H1 _ (sf,[],by simp,) R2 (a,ea,rfl,)
   .rename_i hm;split at e'
    .rename_i ds es;cases e';let(a,ea,rfl):=d;let(F2,g2,R2,d2):=R1.freeze ea es;have R3:=R2.cut;rw[R,List.take_set,yEf (by rw[yBj];omega)] at R3;exact q F2 L H1 _ (sf.trans g2.f,[],by simp,) R3 d2
    .cases e'
def aXw{fb:FS}{N:Li Str}{Q:VK}{E:XK}(h:qP K np (gH fb N.length) vs H Q E):eU K fb {nx:=λ _ H'=>Q .non H',rt:=Q } (L2.start N vs) H:=by
 let(F,L,S,ws,w,S',hn,R,dl,e,q):=h;let((fl,S1),e1,e2):=aQ e;refine nR R (aPx dl) e1 λ F1 L1 H1 g1 R1=>?_
 cases fl with
 |nx aY=>
   cases e2;exact λ σ' E'=>aLC (w:=.d .none) R.len g1 R1 Den.non rfl q
 |rt w'=>exact λ v d=>aLC R.len g1 R1 d e2 q|bk aY=>cases e2|ct aY=>cases e2
def aG3{α β:Type}{f:α->β->Sem (ForInStep β)}{g:α->β->β}:∀ (l:List α) (c:β),(∀ x∈l,∀ c,f x c=pure (ForInStep.yield (g x c)))->forIn l c f=pure (l.foldl (λ c x=>g x c) c)
 |[],c,_=>rfl
 |x::l,c,h=>by
   rw[List.forIn_cons,h x xAc c,pure_bind];exact aG3 l (g x c) λ y hy=>h y (xAf _ hy)
def lC(env:Env)(x:Str×jy)(cs:Li (Str×qw)):Li (Str×qw):=if (x.2==NameKind.free)=Tt then (x.1,(env.cells.lookup x.1).getD 0)::cs else cs
def aAf(scope:zw)(env:Env):Li (Str×qw):=scope.names.foldl (λ c x=>lC env x c) []
def aPC{scope:zw}{env:Env}(h:∀ x∈scope.names,x.2=.free->∃ c,env.cells.lookup x.1=qz c):closureFor scope env=pure (aAf scope env):=by
 unfold closureFor aAf;dsimp only;rw[aG3 (g:=lC env) scope.names [] (λ x hx c=>?_)]
 .rfl
 .let(n,k):=x;unfold lC;dsimp only;by_cases hk:k=.free
  .let(a,ha):=h (n,k) hx hk;rw[if_pos (by simp[hk]),if_pos (by simp[hk])];have:cellOf env n=pure a:=by unfold cellOf;rw[ha]
   rw[this,pure_bind,ha];rfl
  simp_all
def aJa{env:Env}:∀ (l:Li (Str×jy)) (aH:Li (Str×qw)),(∀ x∈l,x.2=.free->∃ c,env.cells.lookup x.1=qz c)->(∀ x c,aH.lookup x=qz c->env.cells.lookup x=qz c) ->
 ∀ x c,(l.foldl (λ c x=>lC env x c) aH).lookup x=qz c->env.cells.lookup x=qz c
 |[],aH,_,ha,x,c,e=>ha x c e
 |y::l,aH,h,ha,x,c,e=>by
   refine aJa l (lC env y aH) (λ z hz=>h z (xAf _ hz)) (λ z d ez=>?_) x c e;unfold lC at ez
   grind
def aEC:∀ (l:Li (Str×jy)) (aH:Li (Str×qw)) (x:Str),((∃ k,(x,k)∈l/\k=.free)\/∃ c,aH.lookup x=qz c)->∃ c,(l.foldl (λ c x=>lC env x c) aH).lookup x=qz c
 |[],aH,x,h=>by
   simp_all
 |y::l,aH,x,h=>by
   refine aEC l (lC env y aH) x ?_;have step:(∃ c,aH.lookup x=qz c)->∃ c,(lC env y aH).lookup x=qz c:=λ bC=>by
    let(c,e):=bC;unfold lC;split
    .rw[yBy];split
     .exact(_,rfl,)
     .exact(c,e,)
    .exact(c,e,)
   rcases h with ⟨k,hk,e⟩|h
   .rcases List.mem_cons.mp hk with z|z
    .right;subst z e;unfold lC;rw[if_pos (by simp)];simp_all
    .exact .inl (k,z,e,)
   .exact .inr (step h)
def aHj(h:Str->jy->jy):∀ l:Li (Str×jy),(l.map λ p=>(p.1,h p.1 p.2)).lookup x=(l.lookup x).map (h x)
 |[]=>rfl
 |(n,k)::r=>by
   have ih:=@aHj x h r;rw[yAk,yBy,yBy];cases hx:x==n with
   |true=>
     have e:x=n:=(hx:)
     subst e;rfl
   |false=>exact ih
def aOK{env:Env}(names:Li (Str×jy)) :
 (names.map λ(n,k)=>if (k==NameKind.free&&env.scope.kind==.function&&env.kindOf n==qz .cell) then (n,NameKind.cell) else (n,k)).lookup x =
   (names.lookup x).map λ k=>if (k==NameKind.free&&env.scope.kind==.function&&env.kindOf x==qz .cell) then NameKind.cell else k:=by
 have e:(λ(p:Str×jy)=>match p with|(n,k)=>if (k==NameKind.free&&env.scope.kind==.function&&env.kindOf n==qz .cell)=Tt then (n,NameKind.cell) else (n,k)) =
  λ p=>(p.1,if (p.2==NameKind.free&&env.scope.kind==.function&&env.kindOf p.1==qz .cell)=Tt then NameKind.cell else p.2):=funext λ bC=>by
  let(n,k):=bC;dsimp only;split<;>rfl
 rw[e];exact aHj (λ n k=>if (k==NameKind.free&&env.scope.kind==.function&&env.kindOf n==qz .cell)=Tt then NameKind.cell else k) names
def aO7{R:Result -> qv -> Prop}(I:Nat->qv->Prop)(turn:∀ n s,I n s->qu (model prog w) A (yj it) (λ r s₁=>match r with
   |none=>R (.ok .next) s₁
   | some v=>qu (model prog w) A (vy target it v) (λ _ s₀=>qu (model prog w) A (assign target env v) (λ _ s₂=>
      qu (model prog w) A (forIn ifs Tt λ c r=>if r=Tt then do let ok <- isTrue c env (eval c env);pure (ForInStep.yield ok) else pure (ForInStep.yield r)) (λ ok s₃=>
       if ok=Tt then qu (model prog w) A (eval elt env) (λ x s₄=>
        qu (model prog w) A (call (.builtin "list.append") [aH,x]) (λ _ s₅=>∃ m,m<n/\I m s₅) (λ _ _=>False) s₄) (λ _ _=>False) s₃
       else ∃ m,m<n/\I m s₃) (λ _ _=>False) s₂) (λ _ _=>False) s₀) (λ _ _=>False) s₁) (λ _ _=>False) s)(n:Nat)(h:I n s):ju (model prog w) A (.compLoop (.ListComp elt [(target,iter,ifs,0,)] scope pos) 0 it aH env) R s:=by
 have up:∀ {α:Type}{t:Sem α}{Q Q':α->qv->Prop}{E:qx->qv->Prop}{s:qv},qu (model prog w) A t Q (λ _ _=>False) s->(∀ a s,Q a s->Q' a s)->qu (model prog w) A t Q' E s:=
  λ h hq=>wpAny_mono h hq λ _ _ f=>f.elim
 refine codeAny_loop rfl I (λ n s hI=>?_) n h;show qu _ A ((compTurn (.ListComp elt [(target,iter,ifs,0,)] scope pos) 0 it aH env).onRaise (λ x=>do noteFrame x env;theTreesLotGoes x)) _ _ s;refine wpAny_noted ?_;rw[compTurn_list];refine wB (yq (wB (up (turn n s hI) λ r s₁ h₁=>?_)));cases r with
 |none=>exact wP h₁
 |some v=>
   refine wB (up h₁ λ _ s₀ h₀=>?_);refine wB (up h₀ λ _ s₂ h₂=>wB (up h₂ λ ok s₃ h₃=>?_));cases ok with
   |false=>exact wP (rfl,h₃,)
   |true=>
     exact wB (wB (up h₃ λ x s₄ h₄=>wB (up h₄ λ _ s₅ h₅=>wP (wP (rfl,h₅,)))))
def mF(X:Cx)(aB:Li (qw×Obj))(fp:List qw)(scope:zw)(C:qw)(s₀:qv)(H₀:Hp):Cx:=
 {X with s₀:=s₀,H₀:=H₀,env:=compEnvC scope (aAf scope X.env) C X.env,outer:=X.stack,stack:=X.stack,ex:=fp,fn:=λ _=>Ff,pn:=X.pn++aB,xe:=λ _ _=>False }
def kZ(X:Cx)(scope:zw)(Y:Cx):Prop:=∃ aB fp C s₀ H₀,Y=mF X aB fp scope C s₀ H₀
structure ScOk(scope osc:zw):Prop where
 kind:scope.kind=.function
 nocell:∀ x∈scope.names,x.2≠.cell
 free:∀ x∈scope.names,x.2=.free->osc.names.lookup x.1=qz .cell\/osc.names.lookup x.1=qz .free
 loc:∀ x∈scope.names,x.2=.local->scope.names.lookup x.1=qz .local
def mem_of_lookup{α:Type}{k:α}:∀ {l:Li (Str×α)},l.lookup x=qz k->(x,k)∈l
 |[],h=>by simp at h
 |(n,j)::r,h=>by
   rw[yBy] at h;split at h
   .simp_all
   .exact xAf _ (mem_of_lookup h)
section
variable {X:Cx}{aB:List (qw×Obj)}{σ:L2.St}{H:Hp}{s:qv}{scope:zw}{fp:List qw}
def aIx:(mF X aB fp scope C s₀ H₀).env.kindOf x=(scope.names.lookup x).map λ k=>if (k==NameKind.free&&X.env.scope.kind==.function&&X.env.kindOf x==qz .cell) then NameKind.cell else k:=
 aOK scope.names
def aH3(ok:ScOk scope X.env.scope)(h:(mF X aB fp scope C s₀ H₀).env.kindOf x=qz .cell\/(mF X aB fp scope C s₀ H₀).env.kindOf x=qz .free):scope.names.lookup x=qz .free:=by
 rw[aIx] at h;cases e:scope.names.lookup x with
 |none=>rw[e] at h;simp at h
 |some k=>
   rw[e] at h;have nc:=ok.nocell (x,k) (mem_of_lookup e)
   grind
def aJI(I:Inv X aB σ H s)(hfp:∀ b∈fp,gW X aB H b):∀ b∈fp,b ∉ jM X.stack:=λ b hb z=>by
 rcases List.mem_cons.mp (I.stkSub b z) with q|q
 .exact(hfp b hb).2.1 q
 .exact(hfp b hb).2.2.1 q
def aIt(I:Inv X aB σ H s)(ok:ScOk scope X.env.scope):∀ x∈scope.names,x.2=.free->∃ c,X.env.cells.lookup x.1=qz c:=λ x hx e=>by
 rcases ok.free x hx e with q|q
 .exact I.ok.has x.1 (.inl q)
 .exact I.ok.has x.1 (.inr q)
def qZ(I:Inv X aB σ H s)(ok:ScOk scope X.env.scope)(h:(aAf scope X.env).lookup x=qz c):X.env.cells.lookup x=qz c:=
 aJa scope.names [] (aIt I ok) (λ x c e=>by simp at e) x c h
def aTa(I:Inv X aB σ H s)(ok:ScOk scope X.env.scope)(hfp:∀ b∈fp,gW X aB H b)(hth:∀ b∈fp,b<s.heap.objs.size)(hC:s.heap.objs.size<=C):(mF X aB fp scope C s H).Ok where
 mod:=I.ok.mod
 kind:=ok.kind
 glob:=I.ok.glob
 blt:=I.ok.blt
 above:=hC
 inj:=λ x y c h1 h2=>I.ok.inj x y c (qZ I ok h1) (qZ I ok h2)
 has:=λ x h=>aEC scope.names [] x (.inl (.free,mem_of_lookup (aH3 ok h),rfl,))
 cab:=λ x c h _=>nomatch h
 hd:=I.ok.hd
 frames:=I.ok.frames
 stk:=.inl rfl
 exf:=λ b hb=>(λ z=>absurd (xAb (hth b hb) hC) (by have z':b=C:=z;rw[z'];exact yCm _),λ x c h=>(hfp b hb).2.2.2.2.1 x c (qZ I ok h),)
 bs:=I.bs
 bsz:=xAh I.ok.bsz I.sz
 noex:=λ b o e hb=>by
  rcases (hfp b hb).2.2.2.1 with z|z
  .exact I.ok.noex b o e z
  .exact absurd (xAb (xAa e) (xAh I.ok.bsz z)) (yCm _)
 exfs:=λ b hb=>aJI I hfp b hb
 funs:=I.stack
 frf:=I.stkFree
end
def clr{α:Type}(is:Li Nat)(l:Li (Option α)):Li (Option α):=is.foldl (λ e i=>e.set i qj) l
def aAK{α:Type}:∀ (is:Li Nat) (l:Li (Option α)),(clr is l).length=↑l
 |[],_=>rfl
 |i::is,l=>by
   show(clr is (l.set i qj)).length=_;rw[aAK is,yBb]
def aBh{α:Type}:∀ (is:Li Nat) (l:Li (Option α)) (j:Nat) (v:α),(clr is l)[j]?=qz (qz v)->l[j]?=qz (qz v)/\j ∉ is
 |[],_,_,_,h=>(h,by simp,)
 |i::is,l,j,v,h=>by
   let(h1,h2):=aBh is (l.set i qj) j v h;by_cases hj:i=j
   .subst hj;rcases Nat.lt_or_ge i ↑l with q|q
    .rw[yAw q] at h1;cases h1
    .rw[yCc (by rw[yBb];exact q)] at h1;cases h1
   .rw[yAz hj] at h1;exact(h1,λ z=>(List.mem_cons.mp z).elim (λ e=>hj e.symm) h2,)
def aJn{α:Type}:∀ (is:Li Nat) (l:Li (Option α)) (j:Nat),j ∉ is->(clr is l)[j]?=l[j]?
 |[],_,_,_=>rfl
 |i::is,l,j,h=>by
   show(clr is (l.set i qj))[j]?=_;rw[aJn is _ j (λ z=>h (xAf _ z)),yAz (λ z=>h (by rw[z];exact xAc))]
def Tg.slots:Tg->Li Nat
 |.one i=>[i]|.many is=>is
def EnvR.clr(h:EnvR K F L env σ)(is:Li Nat):EnvR K F L (EV.clr is env) (EV.clr is σ):=
 ⟨by rw[aAK,aAK];exact h.len,λ j w e=>by
  let(e1,hj):=aBh is env j w e;let(v,e2,d):=h.get j w e1;exact(v,by rw[aJn is σ j hj];exact e2,d,)⟩
def aC3:∀ {is:Li Nat}{ds:Li D}{env aY:bG}{j:Nat},nU is ds env=qz aY->j ∉ is->aY[j]?=env[j]?
 |[],[],_,_,_,e,_=>by cases e;rfl
 |i::is,d::ds,env,aY,j,e,h=>by
   rw[@aC3 is ds _ _ _ e (λ z=>h (xAf _ z)),yAz (λ z=>h (by rw[z];exact xAc))]
 |[],_::_,_,_,_,e,_=>by cases e|_::_,[],_,_,_,e,_=>by cases e
def Tg.put_keep{t:Tg}(e:t.put d env=qz aY)(h:j ∉ t.slots):aY[j]?=env[j]?:=by
 cases t with
 |one i=>cases e;exact yAz (λ z=>h (by rw[z];exact xAc))
 |many is=>
   cases d with
   |tuple ds=>exact aC3 e h|list ds=>exact aC3 e h|_=>cases e
def aCW:∀ {is:Li Nat}{ds:Li D}{env aY:bG},nU is ds env=qz aY->aY.length=env.length
 |[],[],_,_,e=>by cases e;rfl|i::is,d::ds,env,aY,e=>by rw[@aCW is ds _ _ e,yBb]|[],_::_,_,_,e=>by cases e|_::_,[],_,_,e=>by cases e
def Tg.put_length{t:Tg}(e:t.put d env=qz aY):aY.length=env.length:=by
 cases t with
 |one i=>cases e;exact yBb
 |many is=>
   cases d with
   |tuple ds=>exact aCW e|list ds=>exact aCW e|_=>cases e
def EnvR.back{F:Hp}{L:Lx}{env aY:bG}{σ:St}{t:Tg}{d:D}(e:t.put d (EV.clr t.slots env)=qz aY)(h:EnvR K F L aY σ):EnvR K F L (EV.clr t.slots env) σ:=
 ⟨by rw[<- h.len,Tg.put_length e],λ j w q=>by
  let(_,hj):=aBh t.slots env j w q;exact h.get j w (by rw[Tg.put_keep e hj];exact q)⟩
def gT(t:Tg)(fc:FT)(fe:FE)(n:Nat)(env:bG):Li D->aE->Option aE
 |[],S=>qz S
 |d::ds,S=>(t.put d env).bind λ e1=>(fc e1 S).bind λ c=>if c.1=Tt then (fe e1 c.2).bind λ p=>(eZ p.2 (.loc n) p.1).bind λ r=>gT t fc fe n env ds r.2 else gT t fc fe n env ds c.2
def jC(t:Tg)(fi:FL)(fc:FT)(fe:FE):FL:=λ env S=>(fi env S).bind λ p=>(gT t fc fe p.2.length (clr t.slots env) p.1 (p.2++[qz []])).bind λ S'=>match S'[p.2.length]? with|some (qz zs)=>qz (zs,S'.take p.2.length)|_=>qj
def nJ(Y:Cx)(ifs:List qy)(fc:FT):Prop:=∀ (aB:Li (qw×Obj)) (s:qv) (σ:St) (H:Hp) (Q:Bool->Hp->Prop),Inv Y aB σ H s->gN Y.K fc σ H Q ->
 qu (model Y.prog Y.w) Y.A (forIn ifs Tt λ c r=>if r=Tt then do let ok <- isTrue c Y.env (eval c Y.env);pure (ForInStep.yield ok) else pure (ForInStep.yield r)) (TP Y aB σ Q) Y.xe s
def lI:FT:=λ _ S=>qz (Tt,S)
def aIh:nJ Y [] lI:=λ aB s σ H Q I bC=>by
 let(F,L,S,env,b,S',R,E,e,q):=bC;cases e;exact wpAny_tests_nil (H,I,q F L H Gr.refl R,)
def aIo{fc:FT}(h:PT Y c (gN Y.K fc)):nJ Y [c] fc:=λ aB s σ H Q I q=>wpAny_tests_one (h aB s σ H Q I q)
def aFc(N:Li Str)(scope:zw)(is:Li Nat):Prop:=∀ (i:Nat) (x:Str),N[i]?=qz x->scope.names.lookup x=qz .local->i∈is
def aIg{scope:zw}{tg iter elt:qy}{ifs:List qy}{pos:Pos}{t:Tg}{g:TG}{fi:FL}{fc:FT}{fe:FE}(use:Oz (qx->Sem Unit))(hc:X.calm=Tt)(ok:ScOk scope X.env.scope)(own:aFc X.N scope t.slots)(hi:PI X tg iter (kC X.K fi))(hg:∀ Y,kZ X scope Y->PG Y tg g)(ga:GA X.K t g)
 (ht:∀ Y,kZ X scope Y->nJ Y ifs fc) (he:∀ Y,kZ X scope Y->PE Y elt (aX X.K fe)) (hs:∀ x,jq iter X.env x=pure x)
 {aB:Li (qw×Obj)}{s:qv}{σ:St}{H:Hp}{Q:VK}{QQ:qx->qv->Prop}{pp:Pos} (I:Inv X aB σ H s) (h:kA X.K (jC t fi fc fe) σ H Q)
 (hend:∀ (p C:qw) (s1:qv) (H':Hp),gW X aB H' C->(∃ m,s1.heap.Ns C m)->(∀ h',yDi C s1.heap h'->Inv X aB σ H' {s1 with heap:=h' })->Q (.ref p) H' ->
   compPost (model X.prog X.w) X.A X.xe use QQ (.ref p) C (.ok .next) s1) :
 qu (model X.prog X.w) X.A (comprehension (.ListComp elt [(tg,iter,ifs,0,)] scope pos) scope X.env pp (newList []) Ff (eval iter X.env) use) QQ X.xe s:=by
 let(F,L,S,env,zs,S',R,E,e,q):=h;let((ds,S1),e1,e):=aQ e;let(S2,e2,e):=aQ e;dsimp only at e e2;have hz:S2[↑S1]?=qz (qz zs)/\S'=S2.take ↑S1:=by
  split at e
  .rename_i z ez;cases e;exact(ez,rfl,)
  .cases e
 let(hz,rfl):=hz;refine wpAny_comprehension_free (use:=use) rfl hs (aPC (aIt I ok)) ok.kind ok.loc ?_;refine bJ (hi aB s σ H (λ J H'=>∃ F' L',Gr F L F' L'/\Rel X.K F' L' S1 H'/\Wk X.K F' L' J ds) I ⟨F,L,S,env,ds,S1,R,E,e1,λ F' L' H' J g R' wk=>(F',L',g,R',wk,)⟩) λ v s1 h1=>bJ h1 λ itv s2 h2=>?_
 let(it,fp,tn,J,H2,rfl,I2,T,st2,f2,F1,L1,g1,R1,wk):=h2;refine xj (wpAny_newFunctionEnv ok.nocell (by simp_all) (λ h₁ hns₁ hsb₁=>?_) ok.kind);dsimp only at hns₁ hsb₁ ⊢;have I3:Inv X aB σ (bL H2 s2.heap.objs.size (.lst [])) {s2 with heap:=s2.heap.push {cls:=.type "list",dict:=qj,data:=.seq ([]:List qx).toArray } }:=I2.lnew (aI:=[]) (t':=s2.toks) .nil (yCd _);generalize hs3:({s2 with heap:=s2.heap.push {cls:=.type "list",dict:=qj,data:=.seq ([]:List qx).toArray } }:qv)=s3 at I3;have hh3:s2.heap.push {cls:=.type "list",dict:=qj,data:=.seq ([]:List qx).toArray }=s3.heap:=by rw[<- hs3]
 generalize hD:s2.heap.objs.size=Dd at I3;generalize hH3:bL H2 Dd (.lst [])=H3 at I3;have hfr2:H2 Dd=qj:=by rw[<- hD];exact I2.fresh
 rw[hh3] at hns₁ hsb₁;rw[hh3];have hst:({heap:=h₁,gens:=s2.gens,drawn:=s2.drawn,toks:=s2.toks+([]:Li (Str×qx)).length,os:=s2.os }:qv)={s3 with heap:=h₁,toks:=s3.toks+([]:Li (Str×qx)).length }:=by rw[<- hs3]
 rw[hst];clear hst;generalize hC:s3.heap.objs.size=C at hns₁ hsb₁;have old:∀ b u,s3.heap.get? b=qz u->h₁.get? b=qz u:=λ b u q=>by
  have hb:b≠C:=by rw[<- hC];exact xAj (xAa q)
  exact hsb₁.extBut b u hb (hpS _ q)
 have lt2:∀ b∈fp,b<s2.heap.objs.size:=λ b hb=>by
  let(o,eo,_):=T.obj 0 _ st2 b hb;exact xAa eo
 have up23:∀ b u,s2.heap.get? b=qz u->s3.heap.get? b=qz u:=λ b u q=>by rw[<- hh3];exact hpS _ q
 have lt3:∀ b∈fp,b<s3.heap.objs.size:=λ b hb=>by
  let(o,eo,_):=T.obj 0 _ st2 b hb;exact xAa (up23 b o eo)
 have f3:∀ b∈fp,gW X aB H3 b:=λ b hb=>by
  refine(?_,(f2 b hb).2,);have ne:b≠Dd:=by rw[<- hD];exact xAj (lt2 b hb)
  rw[<- hH3,bW ne];exact(f2 b hb).1
 have okY:(mF X aB fp scope C s3 H3).Ok:=aTa I3 ok f3 lt3 (by rw[hC];exact yAc _);have hIC:kZ X scope (mF X aB fp scope C s3 H3):=(aB,fp,C,s3,H3,rfl,);generalize hY:mF X aB fp scope C s3 H3=Y at okY hIC;have yE:Y.env=compEnvC scope (aAf scope X.env) C X.env:=by rw[<- hY];rfl
 have I4:Inv Y [] (clr t.slots σ) H3 {s3 with heap:=h₁,toks:=s3.toks+([]:Li (Str×qx)).length }:=by
  rw[<- hY] at okY ⊢;refine(okY,rfl,I3.bare,Un.kept old,(_,hns₁,λ i x v a1 a2 a3=>?_,),λ x c a=>?_,?_,λ x c a=>I3.freeC x c (qZ I3 ok a),λ p hp=>?_,I3.hok.kept old,by rw[aAK];exact I3.len,)
  .let(a4,a5):=aBh t.slots σ i v a2;have nl:scope.names.lookup x≠qz .local:=λ z=>a5 (own i x a1 z)
   have qJ:(mF X aB fp scope C s3 H3).env.kindOf x=qz .cell\/(mF X aB fp scope C s3 H3).env.kindOf x=qz .free:=by
    rcases a3 with z|z|z
    .exfalso;have z':(mF X aB fp scope C s3 H3).env.kindOf x=qz .local:=z;rw[aIx] at z';cases ek:scope.names.lookup x with
     |none=>rw[ek] at z';cases z'
     |some k=>
       rw[ek] at z'
       grind
    .exact .inl z
    .exact .inr z
   have fr:=aH3 ok qJ;have ov:=ok.free (x,.free) (mem_of_lookup fr) rfl;let(m,hm,hl):=I3.loc;let(u,ru,lk):=hl i x v a1 a4 (ov.elim (λ z=>.inr (.inl z)) λ z=>.inr (.inr z));refine(u,ru,.inr (qJ,?_,),);let(c,hcl):=@aEC X.env scope.names [] x (.inl (.free,mem_of_lookup fr,rfl,));have hc2:=qZ I3 ok hcl;rcases lk with ⟨z,_⟩|⟨_,c',e',o',ho',hd'⟩
   .exfalso;have z':X.env.scope.names.lookup x=qz .local:=z;simp_all
   .rw[hc2] at e';cases e';exact(c,hcl,o',old _ _ ho',hd',)
  .let(v,o,ho,hd):=I3.cell x c (qZ I3 ok a);exact(v,o,old _ _ ho,hd,)
  .show H3 C=qj;rw[<- hC];exact I3.fresh
  .have hp':p∈X.pn++aB:=by
    have:p∈(X.pn++aB)++[]:=hp;rwa [yBa] at this
   let(b1,b2,b3,b4,b5):=I3.pin p hp';refine(old _ _ b1,b2,?_,λ z=>?_,b5,)
   .show p.1≠C;rw[<- hC];exact xAj (xAa b1)
   .rcases List.mem_cons.mp (I3.stkSub p.1 z) with w|w
    .exact b3 w
    .exact b4 w
 have fpY:∀ {H':Hp},(∀ b∈fp,H' b=qj)->∀ b∈fp,gW Y [] H' b:=λ hn b hb=>by
  rw[<- hY];refine(hn b hb,?_,aJI I3 f3 b hb,.inl hb,λ x c a=>(f3 b hb).2.2.2.2.1 x c (qZ I3 ok a),λ p hp=>?_,)
  .show b≠C;rw[<- hC];exact xAj (lt3 b hb)
  .have hp':p∈X.pn++aB:=by
    have:p∈(X.pn++aB)++[]:=hp;rwa [yBa] at this
   exact(f3 b hb).2.2.2.2.2 p hp'
 have yA:Y.A=X.A:=by rw[<- hY];rfl
 have yP:Y.prog=X.prog:=by rw[<- hY];rfl
 have yW:Y.w=X.w:=by rw[<- hY];rfl
 have yK:Y.K=X.K:=by rw[<- hY];rfl
 have yC:Y.calm=Tt:=by rw[<- hY];exact hc
 have yX:Y.xe=λ _ _=>False:=by rw[<- hY];rfl
 have R3:Rel X.K F1 (L1++[(Dd,Ff)]) (S1++[qz []]) H3:=by rw[<- hH3];exact R1.newLoc hfr2 .nil
 obtain⟨PP,hPP⟩:∃ PP:Result->qv->Prop,PP=compPost (model X.prog X.w) X.A X.xe use QQ (.ref Dd) C:=(_,rfl,);have cS:∀ (s1:qv) (σ':L2.St) (H' F':Hp) (L':Lx),Inv Y [] σ' H' s1->Gr F1 (L1++[(Dd,Ff)]) F' L'->Rel X.K F' L' S2 H'->PP (.ok .next) s1:=by
  intro s1 σ' H' F' L' J' gg RR;rw[hPP];rw[<- hY] at J';let(m,hmC,_):=J'.loc;have hCn:H' C=qj:=J'.free;have hfC:gW X aB H' C:=I3.fpOk (by rw[hC];exact yAc _) hCn;let(sf,M,rfl):=gg;have dE:↑L1=↑S1:=R1.len;have eL:((L1++[(Dd,Ff)])++M)[↑S1]?=qz (Dd,Ff):=by
   rw[yBc,yAh (by rw[dE];exact yAc _),dE,yBf];rfl
  let(hF,xs,hx,dl):=RR.loc ↑S1 Dd zs eL hz;have RR2:Rel X.K F' (L1++([(Dd,Ff)]++M)) S2 H':=by rw[<- yBc];exact RR
  have Rc:=RR2.cut;rw[dE] at Rc;have hnd:Dd ∉ ad L1:=λ z=>by
   have nd:=RR2.nd
   grind
  refine hend Dd C s1 H' hfC (m,hmC,) (λ h' sb=>?_) (q F' L1 H' Dd xs (g1.trans (sf,[],by simp,)) Rc hF hnd hx dl);have neC:∀ b u,s3.heap.get? b=qz u->b≠C:=λ b u z=>by rw[<- hC];exact xAj (xAa z)
  have kp:∀ b u,b≠C->s1.heap.get? b=qz u->h'.get? b=qz u:=λ b u z w=>sb.extBut b u z w
  have bU:Un (jM X.stack) fp H3 H' s3.heap s1.heap:=J'.base;have u:Un (jM X.stack) fp H3 H' s3.heap h':=
   ⟨λ b o z n hb hx=>kp b o (neC b o z) (bU.keep b o z n hb hx),λ b o z n hb hx=>by let(sl,w):=bU.slot b o z n hb hx;exact(sl,kp b _ (neC b o z) w,),bU.free,
    λ b o z hx=>by let(o',w):=bU.there b o z hx;exact(o',kp b _ (neC b o z) w,),bU.tups,bU.frzs,bU.tbls⟩
  have hokY:dL X.prog X.w H' s1.heap:=J'.hok;have hok':dL X.prog X.w H' h':=λ b o z=>(hokY b o z).stay (λ c v hc2 w=>kp c v (λ zz=>by
   grind) w) (λ _ w=>w) λ _ _ w=>w
  have os1:s1.os=s3.os:=J'.os;exact I3.call' (s':={s1 with heap:=h' }) os1 u hok' J'.bare λ b hb=>((f3 b hb).2.2.2.1,(f3 b hb).2.1,(f3 b hb).2.2.2.2.1,(f3 b hb).2.2.2.2.2,)
 have loop:∀ s5:qv,Inv Y [] (clr t.slots σ) H3 s5->tn 0 s5.heap ->
  ju (model X.prog X.w) X.A (.compLoop (.ListComp elt [(tg,iter,ifs,0,)] scope pos) 0 (.ref it) (.ref Dd) Y.env) PP s5:=by
  intro s5 I5 st5;have E0:EnvR X.K F1 (L1++[(Dd,Ff)]) (clr t.slots env) (clr t.slots σ):=(E.mono (g1.trans Gr.newLoc)).clr t.slots;obtain⟨Iv,hIv⟩:∃ Iv:Nat->qv->Prop,∀ n s',Iv n s' ↔ (∃ i σ' H' F' L' S',Inv Y [] σ' H' s'/\tn i s'.heap/\(∀ b∈fp,H' b=qj)/\Gr F1 (L1++[(Dd,Ff)]) F' L'/\Rel X.K F' L' S' H'/\EnvR X.K F' L' (clr t.slots env) σ'/\i+n=↑ds /\
   gT t fc fe ↑S1 (clr t.slots env) (ds.drop i) S'=qz S2):=(_,λ _ _=>Iff.rfl,)
  refine aO7 Iv ?_ ↑ds ((hIv _ _).mpr (0,clr t.slots σ,H3,F1,L1++[(Dd,Ff)],S1++[qz []],I5,st5,λ b hb=>(f3 b hb).1,Gr.refl,R3,E0,yEt _,by rw[yGi];exact e2,));intro n s6 h6;let(i,σ6,H6,F6,L6,S6,I6,st6,fr6,g6,R6,E6,hin,ec):=(hIv _ _).mp h6;clear h6;have g16:Gr F1 L1 F6 L6:=Gr.newLoc.trans g6;have toA:∀ {α:Type}{tt:Sem α}{QQ:α->qv->Prop}{EE:qx->qv->Prop}{ss:qv},qu (model X.prog X.w) Y.A tt QQ EE ss->qu (model X.prog X.w) X.A tt QQ EE ss:=λ hh=>by rw[yA] at hh;exact hh
  cases n with
  |zero=>
    have hi':i=↑ds:=by omega
    subst hi';rw[yGl] at ec;cases ec;refine bJ (toA (T.done Y yP yW yK yC ↑ds [] s6 σ6 H6 _ I6 (fpY fr6) st6 (wk.stop H6 (g16.f.trans R6.sub)))) λ r s7 hPq39=>?_
    let(hr,I7):=hPq39;subst hr;exact cS s7 σ6 H6 F6 L6 I7 g6 R6
  |succ n=>
    have hi':i<↑ds:=by omega
    refine bJ (toA (T.item Y yP yW yK yC i [] s6 σ6 H6 _ I6 (fpY fr6) st6 (wk.go i H6 (g16.f.trans R6.sub) hi'))) λ r s7 hPq40=>?_
    let(u,hr,h7):=hPq40;subst hr;refine bJ (toA h7) λ _ s8 hPq41=>?_
    let(x,H8,I8,r8,y8,st8,fr8):=hPq41;let(F8,sf8,R8,d8):=wk.yld i H6 F6 L6 S6 x H8 ds[i] g16 R6 (yAb hi') y8;have g8:Gr F6 L6 F8 L6:=(sf8,[],by simp,);rw[yEd hi'] at ec;let(env9,ep,ec):=aQ ec;let((cb,S9),et,ec):=aQ ec;have I8':=I8.pinned (fpY fr8) (T.obj _ _ st8);have toF:∀ {α:Type}{tt:Sem α}{QQ:α->qv->Prop}{ss:qv},qu (model Y.prog Y.w) Y.A tt QQ Y.xe ss->qu (model X.prog X.w) X.A tt QQ (λ _ _=>False) ss:=λ hh=>by rw[yX,yP,yW,yA] at hh;exact hh
    refine toF (bJ (hg Y hIC _ s8 σ6 H8 x u (λ σ' H'=>H'=H8/\EnvR X.K F8 L6 env9 σ') I8' r8 (ga ds[i] x σ6 H8 F8 L6 S6 (clr t.slots env) env9 _ R8 (E6.mono g8) d8 ep λ σ' E'=>(rfl,E',))) λ _ s9 hPq42=>?_);let(σ9,H9,I9,hH9,E9):=hPq42;subst hH9;refine toF (bJ (ht Y hIC _ s9 σ9 H9 (λ b H'=>∃ F' L',Gr F8 L6 F' L'/\Rel X.K F' L' S9 H'/\b=cb) I9 (by rw[yK];exact(F8,L6,S6,env9,cb,S9,R8,E9,et,λ F' L' H' g' R'=>(F',L',g',R',rfl,),))) λ ok2 s10 hPq43=>?_);let(H10,I10,F10,L10,g10,R10,hb10):=hPq43;subst hb10;dsimp only at ec;have again:∀ {σ7:L2.St}{H7 F7:Hp}{L7:Lx}{S7:aE}{s7':qv},Inv Y ([]++xM fp s8.heap) σ7 H7 s7'->Gr F8 L6 F7 L7->Rel X.K F7 L7 S7 H7->EnvR X.K F7 L7 env9 σ7->gT t fc fe ↑S1 (clr t.slots env) (ds.drop (i+1)) S7=qz S2 ->
     ∃ m,m<n+1/\Iv m s7':=by
     intro σ7 H7 F7 L7 S7 s7' I7 g7 R7 E7 ec7;refine(n,yFj n,(hIv _ _).mpr (i+1,σ7,H7,F7,L7,S7,I7.unpinned,T.keep _ _ _ st8 λ b hb o eo=>(I7.pin (b,o) (xAp _ (xAp _ (vQ hb eo)))).1,λ b hb=>?_,(g6.trans g8).trans g7,R7,EnvR.back ep E7,by omega,ec7,),);let(o,eo,_):=T.obj _ _ st8 b hb;exact(I7.pin (b,o) (xAp _ (xAp _ (vQ hb eo)))).2.1
    cases ok2 with
    |false=>
      rw[if_neg (by simp)] at ec;rw[if_neg (by simp)];exact again I10 g10 R10 (E9.mono g10) ec
    |true=>
      rw[if_pos rfl] at ec;rw[if_pos rfl];let((wv,S11),ee,ec):=aQ ec;let((wn,S12),ea,ec):=aQ ec;let(n',dv,zs',hn',hw',es',hlt,hwn,rfl):=aIy ea;cases hn';dsimp only at hw';refine toF (bJ (he Y hIC _ s10 σ9 H10 (λ v H'=>∃ F' L',Gr F10 L10 F' L'/\Rel X.K F' L' S11 H'/\Den X.K F' dv v) I10 ⟨F10,L10,S9,env9,_,S11,R10,E9.mono g10,ee,λ F' L' H' v g' R' d'=>(F',L',g',R',aBu d' hw',)⟩) λ xv s11 hPq44=>?_);let(v11,H11,I11,r11,F11,L11,g11,R11,d11):=hPq44;have gA:Gr F1 (L1++[(Dd,Ff)]) F11 L11:=((g6.trans g8).trans g10).trans g11;have eL:L11[↑S1]?=qz (Dd,Ff):=gA.get (by rw[yAh (by rw[R1.len];exact yAc _),R1.len,yBf];rfl);let(hF,xs,hx,dl):=R11.loc ↑S1 Dd zs' eL es';refine toF (bJ (@aIb Y _ s11 σ9 H11 (.ref Dd) [v11] (.ref Dd) [xv] (λ _ H'=>Rel X.K F11 L11 (S11.set ↑S1 (qz (zs'++[dv]))) H') I11 rfl (.cons r11 .nil) (Dd,xs,v11,rfl,rfl,hx,by rw[<- dl.length];exact hlt,R11.put eL hF (dl.append (.cons d11 .nil)),)) λ _ s12 hPq45=>?_);let(_,H12,I12,_,R12):=hPq45;exact again I12 (g10.trans g11) R12 (E9.mono (g10.trans g11)) ec
 rw[yE,hPP] at loop;have st4:tn 0 h₁:=T.keep 0 _ _ st2 λ b _ o eo=>old b o (up23 b o eo)
 exact codeAny_compStart_list (loop _ I4 st4) (T.self X.A 0 _ _ _ st4 (loop _ I4 st4))
def aK6{t:Tg}{fi:FL}{fc:FT}{fe:FE}(hc:X.calm=Tt)(ok:ScOk scope X.env.scope)(own:aFc X.N scope t.slots)(hi:PI X tg iter (kC X.K fi))(hg:∀ Y,kZ X scope Y->PG Y tg g)(ga:GA X.K t g)(ht:∀ Y,kZ X scope Y->nJ Y ifs fc)(he:∀ Y,kZ X scope Y->PE Y elt (aX X.K fe))(hs:∀ x,jq iter X.env x=pure x) :
 PE X (.ListComp elt [(tg,iter,ifs,0,)] scope pos) (kA X.K (jC t fi fc fe)):=λ aB s σ H Q I h=>by
 rw[eval_ListComp];exact aIg qj hc ok own hi hg ga ht he hs I h λ p C s1 H' _ hm hI q=>hm.elim λ m hm=>(m,hm,λ h' sb=>(.ref p,H',hI h' sb,rfl,q,),)
def aQx{t:Tg}{fi:FL}{fc:FT}{fe:FE}{fa:FE}(hN:X.N.Nodup)(hx1:X.N[i]?=qz x)(hx2:L2.Loc X.env.scope x)(hf:X.fn x=Tt\/X.env.scope.names.lookup x=qz .local)(hc:X.calm=Tt)(ok:ScOk scope X.env.scope)(own:aFc X.N scope t.slots)(hi:PI X tg iter (kC X.K fi))(hg:∀ Y,kZ X scope Y->PG Y tg g)(ga:GA X.K t g)(ht:∀ Y,kZ X scope Y->nJ Y ifs fc)(he:∀ Y,kZ X scope Y->PE Y elt (aX X.K fe))(hs:∀ x,jq iter X.env x=pure x)(hw:∀ σ H Q,aX X.K fa σ H Q->kA X.K (jC t fi fc fe) σ H Q) :
 PS X (.Assign [.Name x pos'] (.ListComp elt [(tg,iter,ifs,0,)] scope pos) spos) (eU X.K (lM i fa)):=by
 have hb:∃ b,swapsWith (.ListComp elt [⟨tg,iter,ifs,0⟩] scope pos) (qz (.Name x pos')) spos.line X.env=pure b:=(_,rfl,);let(b,hb):=hb;cases b with
 |false=>exact aM3 hN hx1 hx2 (PE.weak (aK6 hc ok own hi hg ga ht he hs) hw) hb hf
 |true=>
   intro aB s σ H DD I h;have h2:=aMp DD σ H h;rw[exec_Assign_Name_used _ _ _ _ hb];refine wB (yq (wB ?_));show qu _ X.A (do let _ <- comprehension (.ListComp elt [⟨tg,iter,ifs,0⟩] scope pos) scope X.env _ (newList []) Ff (eval iter X.env) (qz (assign (.Name x pos') X.env))) _ _ s;refine wB (bJ (aIg (QQ:=λ _ s'=>SP X aB DD .next s') (qz (assign (.Name x pos') X.env)) hc ok own hi hg ga ht he hs I (hw _ _ _ h2) λ p C s1 H' hC hm hI q=>?_) λ _ s' hq=>wP (wP hq));let(m,hm):=hm;have I1:Inv X aB σ H' s1:=hI s1.heap (Heap.SameBut.refl _ _);let(o,es,ep,ho,hd,r):=hm;have I2:=I1.pinned (fp:=[C]) (λ b hb=>by rw[List.mem_singleton.mp hb];exact hC) λ b hb=>by rw[List.mem_singleton.mp hb];simp_all
   refine bJ (aDM (pos:=pos') hN hx1 hx2 hf _ s1 σ H' (.ref p) (.ref p) _ I2 rfl q) λ _ s2 hPq46=>?_
   let(σ2,H2,I3,q3):=hPq46;let(b1,b2,_):=I3.pin (C,o) (xAp _ (xAp _ (vQ (by simp) ho)));refine(m,(o,es,ep,b1,hd,r,),λ h' sb=>(σ2,H2,?_,q3,),);exact I3.unpinned.turned (t':=s2.toks) (λ b o hb e=>sb.extBut b o hb e) b2 hC.2.1 hC.2.2.2.1 hC.2.2.2.2.1 hC.2.2.2.2.2
def kY:Li D->Oz (Li Int)
 |[]=>qz []|.int i::r=>(kY r).bind λ l=>qz (i::l)|_::_=>qj
def mK:Li D->Oz (Li Bool)
 |[]=>qz []|.bool i::r=>(mK r).bind λ l=>qz (i::l)|_::_=>qj
def lT:Li D->Oz D
 |[.list xs]=>qz (.int ↑xs)|[.tuple xs]=>qz (.int ↑xs)
 |[.str z]=>if z.length<=qk then qz (.int z.length) else qj
 |_=>qj
def qA:Li D->Oz D
 |[.int i,.int j]=>qz (.int (if j>i then j else i))
 |[.int i,.int j,.int k]=>qz (.int (if j>i then (if k>j then k else j) else (if k>i then k else i)))
 |[.list xs]=>match kY xs with
   |some (i::r)=>qz (.int (r.foldl max i))|_=>qj
 |_=>qj
def lL:Li D->Oz D
 |[.int i,.int j]=>qz (.int (if j<i then j else i))
 |[.list xs]=>match kY xs with
   |some (i::r)=>qz (.int (r.foldl min i))|_=>qj
 |_=>qj
def aFH:Li D->Oz D
 |[.int i]=>qz (.int i)
 |[.bool k]=>qz (.int (if k then 1 else 0))
 |_=>qj
def rG:Li D->Oz D
 |[.list xs]=>qz (.tuple xs)|[.tuple xs]=>qz (.tuple xs)|_=>qj
def aCA:Li D->Oz D
 |[.list xs]=>(mK xs).bind λ l=>qz (.bool (l.all id))|_=>qj
def aCu:Li D->Oz D
 |[.list xs]=>(mK xs).bind λ l=>qz (.bool (l.any id))|_=>qj
def lH{xs:Li V}(h:NowL X.K F H [d] xs):∃ x,xs=[x]/\cF X.K F H d x:=by
 cases h with
 |cons a b=>cases b;exact(_,rfl,a,)
def aNo{xs:Li V}(h:NowL X.K F H [d,e] xs):∃ x y,xs=[x,y]/\cF X.K F H d x/\cF X.K F H e y:=by
 cases h with
 |cons a b=>
   cases b with
   |cons c d=>cases d;exact(_,_,rfl,a,c,)
def bA3{xs:Li V}(h:NowL X.K F H [d,e,f] xs):∃ x y z,xs=[x,y,z]/\cF X.K F H d x/\cF X.K F H e y/\cF X.K F H f z:=by
 cases h with
 |cons a b=>cases b with
   |cons c d=>cases d with
     |cons e f=>cases f;exact(_,_,_,rfl,a,c,e,)
def aZg(r:bF [x,y,z] us):∃ u v w',us=[u,v,w']/\bB x u/\bB y v/\bB z w':=by
 cases r with
 |cons r1 r2=>cases r2 with
   |cons r3 r4=>cases r4 with
     |cons r5 r6=>cases r6;exact(_,_,_,rfl,r1,r3,r5,)
def aRc(hc:X.calm=Tt):gE X (.builtin "max") (λ xs H Q=>∃ i j k,xs=[.int i,.int j,.int k]/\Q (.int (if j>i then (if k>j then k else j) else (if k>i then k else i))) H):=by
 intro aB s σ H xs us Q I r h;let(i,j,k,rfl,q):=h;let(u,v,w',rfl,(t,rfl),(t',rfl),(t2,rfl)):=aZg r;refine max_three_ints (I.ok.hd hc) λ h' tk kk=>(_,H,I.kept kk,?_,q,)
 by_cases h1:j>i<;>by_cases h2:k>j<;>by_cases h3:k>i<;>simp only[h1,h2,h3,if_true,if_false]<;>exact(_,rfl,)
def aC8{xs:Li V}(h:DenL K F ds xs)(e:kY ds=qz ns):xs=ns.map V.int:=by
 induction ds generalizing xs ns with
 |nil=>cases h;cases e;rfl
 |cons d r ih=>
   cases h with
   |cons h t=>
     cases d with
     |int i=>
       let(l,e1,e2):=aQ e;cases e2;cases h;rw[yAk,ih t e1]
     |_=>cases e
def aKJ:∀ (l:Li Int) (i:Int),(l.foldl max i∈i::l)/\∀ a∈i::l,a<=l.foldl max i
 |[],i=>(List.mem_singleton.mpr rfl,λ a h=>by rw[List.mem_singleton.mp h];simp_all,)
 |b::l,i=>by
   let(h1,h2):=aKJ l (max i b);rw[yBw];refine(?_,λ a ha=>?_,)
   .grind
   .have h3:=h2 (max i b) xAc;simp only[yDf] at ha;rcases ha with rfl|rfl|ha
    .exact yIg (Int.le_max_left _ _) h3
    .exact yIg (Int.le_max_right _ _) h3
    .exact h2 a (xAf _ ha)
def aKi:∀ (l:Li Int) (i:Int),(l.foldl min i∈i::l)/\∀ a∈i::l,l.foldl min i<=a
 |[],i=>(List.mem_singleton.mpr rfl,λ a h=>by rw[List.mem_singleton.mp h];simp_all,)
 |b::l,i=>by
   let(h1,h2):=aKi l (min i b);rw[yBw];refine(?_,λ a ha=>?_,)
   .grind
   .have h3:=h2 (min i b) xAc;simp only[yDf] at ha;rcases ha with rfl|rfl|ha
    .exact yIg h3 (Int.min_le_left _ _)
    .exact yIg h3 (Int.min_le_right _ _)
    .exact h2 a (xAf _ ha)
def aC9:∀ {l:Li Int}{us:List qx},bF (l.map V.int) us->∃ ps:Li (Int×Tok),us=ps.map (λ p=>Value.int p.1 p.2)/\ps.map (·.1)=l
 |[],us,r=>by cases r;exact([],rfl,rfl,)
 |i::l,us,r=>by
   cases r with
   |cons h t=>
     let(tk,rfl):=h;let(ps,rfl,rfl):=aC9 t;exact((i,tk)::ps,rfl,rfl,)
def aQz(hc:X.calm=Tt):gE X (.builtin "max") (λ xs H Q=>∃ (a:qw) (l:Li Int),xs=[.ref a]/\cI X.K H a (l.map V.int)/\0<↑l/\∀ M,M∈l->(∀ i∈l,i<=M)->Q (.int M) H):=by
 intro aB s σ H xs us Q I r h;let(a,l,rfl,sq,hl,q):=h;let(u,rfl,ru):=oG r;cases ru;let(aI,rv,pl,hz):=I.list sq;let(ps,rfl,rfl):=aC9 rv;have hIL:s.heap.IsList a (intItems ps.toArray):=by
  have e:intItems ps.toArray=(ps.map (λ p=>Value.int p.1 p.2)).toArray:=by simp[intItems]
  rw[e];exact pl.isList
 refine max_intList (xs:=ps.toArray) (I.ok.hd hc) hIL (hl:) λ v h' tk hv hk=>?_
 let(t,rfl):=intItems_at hv;let(h1,h2):=argBest_gt (numAt ps.toArray) (ps.toArray.size-1);refine(.int _,H,I.kept hk,(_,rfl,),q _ ?_ λ i hi=>?_,)
 .rw[numAt_eq];have hz':0<ps.toArray.size:=(hl:)
  exact getD_mem (by rw[yAd,yGt];exact xAi h1 (Nat.sub_lt hz' yHw))
 .let(j,hj,rfl):=mem_getD hi;rw[yAd] at hj;have:=h2 j (by rw[yAj];omega);rw[numAt_eq (j:=j)] at this;exact this
def aRd(hc:X.calm=Tt):gE X (.builtin "min") (λ xs H Q=>∃ (a:qw) (l:Li Int),xs=[.ref a]/\cI X.K H a (l.map V.int)/\0<↑l/\∀ M,M∈l->(∀ i∈l,M<=i)->Q (.int M) H):=by
 intro aB s σ H xs us Q I r h;let(a,l,rfl,sq,hl,q):=h;let(u,rfl,ru):=oG r;cases ru;let(aI,rv,pl,hz):=I.list sq;let(ps,rfl,rfl):=aC9 rv;have hIL:s.heap.IsList a (intItems ps.toArray):=by
  have e:intItems ps.toArray=(ps.map (λ p=>Value.int p.1 p.2)).toArray:=by simp[intItems]
  rw[e];exact pl.isList
 refine min_intList (xs:=ps.toArray) (I.ok.hd hc) hIL (hl:) λ v h' tk hv hk=>?_
 let(t,rfl):=intItems_at hv;let(h1,h2):=argBest_lt (numAt ps.toArray) (ps.toArray.size-1);refine(.int _,H,I.kept hk,(_,rfl,),q _ ?_ λ i hi=>?_,)
 .rw[numAt_eq];have hz':0<ps.toArray.size:=(hl:)
  exact getD_mem (by rw[yAd,yGt];exact xAi h1 (Nat.sub_lt hz' yHw))
 .let(j,hj,rfl):=mem_getD hi;rw[yAd] at hj;have:=h2 j (by rw[yAj];omega);rw[numAt_eq (j:=j)] at this;exact this
def bAw:gE X (.builtin "len") (qH X lT):=λ aB s σ H xs us Q I r bC=>by
 let(F,L,S,ds,z,R,n,e,q):=bC;unfold lT at e;split at e
 .cases e;let(x,rfl,nx):=lH n;let(a,ys,rfl,sq,dl):=nx.lst R.sub;exact aHa aB s σ H _ us Q I r (a,ys,rfl,.inl sq,by rw[<- dl.length];exact q.here R (.int _),)
 .cases e;let(x,rfl,nx):=lH n;let(a,ys,rfl,sq,dl):=nx.tup R.sub;exact aHa aB s σ H _ us Q I r (a,ys,rfl,.inr sq,by rw[<- dl.length];exact q.here R (.int _),)
 .split at e
  .rename_i hz;cases e;let(x,rfl,nx):=lH n;exact aO2 aB s σ H _ us Q I r (_,by rw[nx.str],hz,q.here R (.int _),)
  .cases e
 .cases e
def aZX(hc:X.calm=Tt):gE X (.builtin "max") (qH X qA):=λ aB s σ H xs us Q I r bC=>by
 let(F,L,S,ds,z,R,n,e,q):=bC;unfold qA at e;split at e
 .cases e;let(x,y,rfl,nx,ny):=aNo n;exact aQ8 hc aB s σ H _ us Q I r (_,_,by rw[nx.int,ny.int],q.here R (.int _),)
 .cases e;let(x,y,u,rfl,nx,ny,nu):=bA3 n;exact aRc hc aB s σ H _ us Q I r (_,_,_,by rw[nx.int,ny.int,nu.int],q.here R (.int _),)
 .split at e
  .rename_i xs' i r' hi;cases e;let(x,rfl,nx):=lH n;let(a,ys,rfl,sq,dl):=nx.lst R.sub;obtain rfl:=aC8 dl hi;refine aQz hc aB s σ H _ us Q I r (a,i::r',rfl,sq,by simp,λ M h1 h2=>?_,);have f:=aKJ r' i;have:M=r'.foldl max i:=Int.le_antisymm (f.2 _ h1) (h2 _ f.1);rw[this];exact q.here R (.int _)
  .cases e
 .cases e
def aZA(hc:X.calm=Tt):gE X (.builtin "min") (qH X lL):=λ aB s σ H xs us Q I r bC=>by
 let(F,L,S,ds,z,R,n,e,q):=bC;unfold lL at e;split at e
 .cases e;let(x,y,rfl,nx,ny):=aNo n;exact aQF hc aB s σ H _ us Q I r (_,_,by rw[nx.int,ny.int],q.here R (.int _),)
 .split at e
  .rename_i xs' i r' hi;cases e;let(x,rfl,nx):=lH n;let(a,ys,rfl,sq,dl):=nx.lst R.sub;obtain rfl:=aC8 dl hi;refine aRd hc aB s σ H _ us Q I r (a,i::r',rfl,sq,by simp,λ M h1 h2=>?_,);have f:=aKi r' i;have:M=r'.foldl min i:=Int.le_antisymm (h2 _ f.1) (f.2 _ h1);rw[this];exact q.here R (.int _)
  .cases e
 .cases e
def bAt:gE X (.type "int") (qH X aFH):=λ aB s σ H xs us Q I r bC=>by
 let(F,L,S,ds,z,R,n,e,q):=bC;unfold aFH at e;split at e
 .cases e;let(x,rfl,nx):=lH n;exact aIa aB s σ H _ us Q I r (.inl (_,by rw[nx.int],q.here R (.int _),))
 .cases e;let(x,rfl,nx):=lH n;exact aIa aB s σ H _ us Q I r (.inr (_,by rw[nx.bl],q.here R (.int _),))
 .cases e
def aTx:gE X (.type "tuple") (qH X rG):=λ aB s σ H xs us Q I r bC=>by
 let(F,L,S,ds,z,R,n,e,q):=bC;unfold rG at e;split at e
 .cases e;let(x,rfl,nx):=lH n;let(a,ys,rfl,sq,dl):=nx.lst R.sub;exact aGY aB s σ H _ us Q I r (a,ys,rfl,.inl (sq,λ l hl=>q.tup R hl dl,),)
 .cases e;let(x,rfl,nx):=lH n;have nx':=nx;let(a,ys,rfl,sq,dl):=nx.tup R.sub;refine aGY aB s σ H _ us Q I r (a,ys,rfl,.inr (sq,q.here R ?_,),);rcases nx' with nx|⟨_,_,_,e,_⟩
  .exact nx
  .cases e
 .cases e
def aHm{A:zv}(hh:A.handled=qj)(I ax:qw)(hne:ax≠I)(bD:Array qx) :
 WalksS prog w A I [I,ax] [I] (λ a b=>b=a) bD.size (λ i v=>bD[i]?=qz v) (λ i s=>s.heap.IsListIter I ax i/\s.heap.IsList ax bD) where
 sub:=λ b hb=>by simp_all
 grefl:=λ _=>rfl
 gtrans:=λ _ _ _ h1 h2=>h2.trans h1
 frame:=λ _ _ _ _ st _ hk=>(st.1.at λ o e=>hk I (by simp) o e,st.2.at λ o e=>hk ax (by simp) o e,)
 item:=λ i s Q E hi st hQ=>by
  refine vv st.1 st.2 (x:=bD[i]) (by simp[hi]) λ h' hit' hs'=>?_
  exact hQ _ _ (by simp[hi]) (hit',st.2.extBut hs'.extBut hne,) (λ b o hb e=>hs'.extBut b o (λ h=>hb (by simp[h])) e,rfl,rfl,rfl,yAc _,)
 done:=λ s Q E st hQ=>vw hh st.1 st.2 (by simp) λ h' he'=>hQ _ (λ b o hb e=>he' b o (λ h=>hb (by simp[h])) e,rfl,rfl,rfl,yAc _,)
 self:=λ _ _ _ _ st hQ=>wpAny_pyIter_listiter st.1 hQ
def aC0{xs:Li V}(h:DenL K F ds xs)(e:mK ds=qz ns):xs=ns.map V.bl:=by
 induction ds generalizing xs ns with
 |nil=>cases h;cases e;rfl
 |cons d r ih=>
   cases h with
   |cons h t=>
     cases d with
     |bool i=>
       let(l,e1,e2):=aQ e;cases e2;cases h;rw[yAk,ih t e1]
     |_=>cases e
def aG2{ns:Li Bool}{us:List qx}(r:bF (ns.map V.bl) us){i:Nat}{v:qx}(e:us[i]?=qz v):v=.bool (ns.getD i Ff):=by
 have hl:=r.length;rw[yAd] at hl;have hi:i<↑ns:=by rw[hl];exact(gIm e).1
 let(u,e1,ru):=bF.get r (i:=i) (x:=.bl ns[i]) (by rw[yAe,yAb hi];rfl);rw[e] at e1;cases e1;obtain rfl:=ru;simp[List.getD,yAb hi]
def aHC{Q:Bool->qv->Prop}{E:qx->qv->Prop}(h:Q b s):qu (model prog w) A (truthy (.bool b)) Q E s:=by
 first
  |exact xu h
  |exact PySem.wpAny_truthy_bool h
  |exact truthy_bool h
def aQQ(bs:Li Bool):(yBh ↑bs).all (λ i=>bs.getD i Ff)=bs.all id:=by
 have h:(yBh ↑bs).map (λ i=>bs.getD i Ff)=bs:=by
  apply yIa
  .simp
  .intro i h1 h2;simp[List.getD,yAb h2]
 have h2:bs.all id=((yBh ↑bs).map (λ i=>bs.getD i Ff)).all id:=by rw[h]
 rw[h2,List.all_map];rfl
def aQc(bs:Li Bool):(yBh ↑bs).any (λ i=>bs.getD i Ff)=bs.any id:=by
 have h:(yBh ↑bs).map (λ i=>bs.getD i Ff)=bs:=by
  apply yIa
  .simp
  .intro i h1 h2;simp[List.getD,yAb h2]
 have h2:bs.any id=((yBh ↑bs).map (λ i=>bs.getD i Ff)).any id:=by rw[h]
 rw[h2,List.any_map];rfl
def aZ1(hc:X.calm=Tt):gE X (.builtin "all") (qH X aCA):=λ aB s σ H xs us Q I r bC=>by
 let(F,L,S,ds,z,R,n,e,q):=bC;unfold aCA at e;split at e
 .let(bs,e1,e2):=aQ e;cases e2;let(x,rfl,nx):=lH n;let(a,ys,rfl,sq,dl):=nx.lst R.sub;obtain rfl:=aC0 dl e1;let(u,rfl,ru):=oG r;cases ru;let(aI,rv,pl,hz):=I.list sq;have hh:X.A.in1.handled=qj:=I.ok.hd hc;refine call_all_walkS (jv pl.isList ?_);have hne:a≠s.heap.objs.size:=by
   let(o,ho,_):=pl.isList;exact xAj (xAa ho)
  have hl:=rv.length;rw[yAd] at hl;refine(_,_,_,_,_,_,_,λ i=>bs.getD i Ff,rfl,aHm hh s.heap.objs.size a hne aI.toArray,((_,xAd _ rfl,rfl,rfl,),?_,),λ i v s' Q' E' e hq=>?_,λ s' mv=>?_,)
  .let(o,ho,r'):=pl.isList;exact(o,hpS _ ho,r',)
  .obtain rfl:=aG2 rv (i:=i) (e:);exact aHC hq
  .let(h',g',d',t2,o'):=s';let(mh,mg,md,mo,mt):=mv;dsimp only at mh mg md mo;subst mg md mo;have I':Inv X aB σ H {s with heap:=h',toks:=t2 }:=I.kept λ b o e=>mh b o (λ z=>by
    have:b=s.heap.objs.size:=(z:)
    exact yCm _ (this▸xAa e)) (hpS _ e)
   rw[yAj,<- hl,aQQ];exact(.bl (bs.all id),H,I',rfl,q.here R (.bl _),)
 .cases e
def aZr(hc:X.calm=Tt):gE X (.builtin "any") (qH X aCu):=λ aB s σ H xs us Q I r bC=>by
 let(F,L,S,ds,z,R,n,e,q):=bC;unfold aCu at e;split at e
 .let(bs,e1,e2):=aQ e;cases e2;let(x,rfl,nx):=lH n;let(a,ys,rfl,sq,dl):=nx.lst R.sub;obtain rfl:=aC0 dl e1;let(u,rfl,ru):=oG r;cases ru;let(aI,rv,pl,hz):=I.list sq;have hh:X.A.in1.handled=qj:=I.ok.hd hc;refine call_any_walkS (jv pl.isList ?_);have hne:a≠s.heap.objs.size:=by
   let(o,ho,_):=pl.isList;exact xAj (xAa ho)
  have hl:=rv.length;rw[yAd] at hl;refine(_,_,_,_,_,_,_,λ i=>bs.getD i Ff,rfl,aHm hh s.heap.objs.size a hne aI.toArray,((_,xAd _ rfl,rfl,rfl,),?_,),λ i v s' Q' E' e hq=>?_,λ s' mv=>?_,)
  .let(o,ho,r'):=pl.isList;exact(o,hpS _ ho,r',)
  .obtain rfl:=aG2 rv (i:=i) (e:);exact aHC hq
  .let(h',g',d',t2,o'):=s';let(mh,mg,md,mo,mt):=mv;dsimp only at mh mg md mo;subst mg md mo;have I':Inv X aB σ H {s with heap:=h',toks:=t2 }:=I.kept λ b o e=>mh b o (λ z=>by
    have:b=s.heap.objs.size:=(z:)
    exact yCm _ (this▸xAa e)) (hpS _ e)
   rw[yAj,<- hl,aQc];exact(.bl (bs.any id),H,I',rfl,q.here R (.bl _),)
 .cases e
def tyD:D->Oz String
 |.none=>qz "NoneType"|.bool _=>qz "bool"|.int _=>qz "int"|.str _=>qz "str"|.list _=>qz "list"|.tuple _=>qz "tuple"|.dict _=>qj
def zV(K:FrG)(n:String)(d:D):Oz D:=(tyD d).bind λ t=>(PySem.W.kitOne K (.type t) (.type n)).map Bz
def aV8{Q:VK}(I:Inv X aB σ H s)(R:Rel X.K F L S H)(rx:bB x v)(nx:cF X.K F H d x)(e:zV X.K n d=qz z)(q:gM X F L S z Q) :
 qu (model X.prog X.w) X.A (call (.builtin "isinstance") [v,.type n]) (EP X aB σ Q) X.xe s:=by
 let(t,e1,e2):=aQ e;cases ek:PySem.W.kitOne X.K (.type t) (.type n) with
 |none=>rw[ek] at e2;cases e2
 |some b=>
   rw[ek] at e2;cases e2;have cS:∀ tk,EP X aB σ Q (.bool b) {s with toks:=tk }:=λ tk=>(.bl b,H,I.tok _,rfl,q.here R (.bl b),)
   cases d with
   |none=>cases e1;obtain rfl:=nx.non;cases (show v=Value.none from rx);exact yEu PySem.W.kitx_none I.kIn True.intro ek (λ z=>nomatch z) cS
   |bool y=>cases e1;obtain rfl:=nx.bl;cases (show v=Value.bool y from rx);exact yEu PySem.W.kitx_bool I.kIn True.intro ek (λ z=>nomatch z) cS
   |int i=>cases e1;obtain rfl:=nx.int;let(t,q):=(show ∃ t,v=Value.int i t from rx);cases q;exact yEu PySem.W.kitx_int I.kIn True.intro ek (λ z=>nomatch z) cS
   |str y=>cases e1;obtain rfl:=nx.str;let(t,q):=(show ∃ t,v=Value.str y t from rx);cases q;exact yEu PySem.W.kitx_str I.kIn True.intro ek (λ z=>nomatch z) cS
   |list l=>
     cases e1;let(a,xs,rfl,sq,dl):=nx.lst R.sub;cases (show v=Value.ref a from rx);let(aI,rv,pl,_):=I.list sq;let(o,ho,hc,_):=pl.isList;exact yEu PySem.W.kitx_list I.kIn (o,ho,hc,) ek (λ z=>nomatch z) cS
   |tuple l=>
     cases e1;let(a,xs,rfl,sq,dl):=nx.tup R.sub;cases (show v=Value.ref a from rx);let(aI,rv,pl,_):=I.tuple sq;let(o,ho,hc,_):=pl;exact yEu PySem.W.kitx_tuple I.kIn (o,ho,hc,) ek (λ z=>nomatch z) cS
   |dict l=>cases e1
def aNU(K:FrG)(n:String)(fa:FE):FE:=f1 fa (hB (zV K n))
def aYE{fa:FE}(ha:PE X a (aX X.K fa))(hg:Gl X "isinstance")(hm:X.mg "isinstance" = qj)(hv:xo "isinstance" = qz (.builtin "isinstance"))(hg':Gl X x)(hm':X.mg x=qj)(hv':xo x=qz (.type n))(hn:x ≠ "__name__")(hd:(x==("__debug__" : Str))=Ff)(h1:qo [a,.Name x p'] X.env=(Ff,eval a X.env)::qo [.Name x p'] X.env):PE X (.Call (.Name "isinstance" p) [a,.Name x p'] [] pos) (aX X.K (aNU X.K n fa)):=by
 have pt:PE X (.Name x p') (tC (.ty n)):=aTq hg' hm' hv' rfl hn hd;have rule:gE X (.builtin "isinstance") (λ xs H Q=>∃ F L S y d z,xs=[y,.ty n]/\Rel X.K F L S H/\cF X.K F H d y/\zV X.K n d=qz z/\gM X F L S z Q):=λ aB s σ H xs us Q I r bC=>by
  let(F,L,S,y,d,z,e,R,ny,e2,q):=bC;subst e;let(u,u2,rfl,r1,r2):=aFk r;cases (show u2=Value.type n from r2);exact aV8 I R r1 ny e2 q
 refine PE.weak (tE rule hg hm hv (aD5 ha (aD5 pt aEJ) h1) (·) (·) h1 rfl) λ σ H Q hPq47=>?_
 let(F,L,S,env,w,S',R,E,e,q):=hPq47;let((w1,S1),e1,e2):=aQ e;let(d,z,e3,e4,rfl,rfl):=wC e2;exact(F,L,S,env,w1,_,R,E,e1,λ F1 L1 H1 v g1 R1 d1=>(F1,L1,_,v,d,z,rfl,R1,lA R1 d1 e3,e4,aBj X rfl λ F2 L2 H2 v2 g2 R2 d2=>q F2 L2 H2 v2 (g1.trans g2) R2 d2,),)
def aMT:D->Oz D
 |.int i=>qz (.int ((yAo i:Nat):Int))|_=>qj
def aFh(fa:FE):FE:=f1 fa (hB aMT)
def aSQ:MtR X "int.bit_length" (λ x xs H Q=>∃ i,x=.int i/\xs=[]/\Q (.int ((yAo i:Nat):Int)) H):=λ aB s σ H x xs v us Q I rx rs bC=>by
 let(i,e1,e2,q):=bC;subst e1 e2;let(t,rfl):=rx;cases rs;exact call_gives yGu (wz s i t) PySem.F.entry_int_bit_length (PySem.F.args_int_bit_length_1 _) (PySem.AutoIntG2.int_bit_length_int_0 i t) (show EP X aB σ Q _ _ from (.int _,H,I.tok _,(_,rfl,),q,))
section
variable {X:Cx}{aB:List (qw×Obj)}{σ:L2.St}{H:Hp}{s:qv}{h':Heap}
def aHD{ch:List qw}{p:qw}{o:HO}{t':Nat}(I:Inv X aB σ H s)(hch:∀ b∈ch,gW X aB H b)(k:∀ b u,b ∉ ch->s.heap.get? b=qz u->h'.get? b=qz u)(hp:s.heap.objs.size<=p)
 (new:fM X.prog X.w (bL H p o) h' p o):Inv X aB σ (bL H p o) {s with heap:=h',toks:=t' }:=by
 have hn:=I.hok.fresh hp;have nch:∀ b u,H b=qz u->b ∉ ch:=λ b u e z=>by rw[(hch b z).1] at e;cases e
 have nep:∀ b u,s.heap.get? b=qz u->b≠p:=λ b u e z=>absurd (xAb (xAa e) hp) (by rw[z];simp_all)
 refine I.step (g':=s.gens) (d':=s.drawn) (ch:=ch) (λ b hb=>((hch b hb).2.2.2.1,(hch b hb).2.1,(hch b hb).2.2.2.2.1,(hch b hb).2.2.2.2.2,)) (λ b o _ _ hc e _=>k b o hc e) (λ b o _ _ hc e _=>(o.slots,k b o hc e,)) (λ b o _ e n=>by rw[bW (nep b o e)];exact n)
  (λ b o hc e=>(o,k b o hc e,)) (λ b xs e=>by rw[bW (fJ e hn)];exact e) (λ b u v e=>by rw[bW (fJ e hn)];exact e) (λ b ps e=>(#[],by rw[bW (fJ e hn),e];simp,)) (λ m hm=>?_) (λ b u e=>?_) I.bare
 .let(o,es,ep,ho,r):=hm;exact(o,es,ep,k _ o (λ z=>(hch _ z).2.1 rfl) ho,r,)
 .by_cases hb:b=p
  .subst hb;rw[dH] at e;simp_all
  .rw[bW hb] at e;refine(I.hok b u e).stay (λ c v hc q=>k c v ?_ q) (λ c q=>by rw[bW (fJ q hn)];exact q) λ c xs q=>by rw[bW (fJ q hn)];exact q
   rcases hc with z|z
   .rw[z];exact nch b u e
   .exact nch c _ z
end
def aYX(k:Int):Li D->Li D
 |[]=>[]|d::r=>.tuple [.int k,d]::aYX (k+1) r
def aOH{E:qx -> qv -> Prop}{s:qv}{Q:qx->qv->Prop}(hit:s.heap.IsTupleIter it t i)(ht:s.heap.IsTuple t bD)(hx:bD[i]?=qz x)(hQ:∀ h',h'.IsTupleIter it t (i+1)->yDi it s.heap h'->Q x {s with heap:=h' }):qu (model prog w) A (yBq (.ref it)) Q E s:=by let(o,ho,hc,hd):=id hit;let(ol,hol,_,nl,hdl):=ht;unfold yBq;refine wB (wpAny_callSpecial?_slot (name:=Str.ofString "__next__") hit.typeIs F.slot_tuple_iterator_next (jo F.slot_tuple_iterator_next hit.typeIs F.entry_tuple_iterator_next ?_ (F.args_tuple_iterator_next_1 _)));show qu _ _ (field (.ref it) 0 >>= _) _ _ s;refine wB (xq ho hd (x:=.ref t) rfl ?_);show qu _ _ (if (Value.ref t==Value.none)=Tt then _ else _) _ _ s;rw[if_neg (show ¬ ((Value.ref t==Value.none)=Tt) from yBr)];show qu _ _ (field (.ref it) 1 >>= _) _ _ s;refine wB (xq ho hd (x:=.int i 0) rfl ?_);show qu _ _ (seqItems? (.ref t) >>= _) _ _ s;refine wB (jk hol hdl ?_);simp only[yAu,hx];refine wB (wpAny_setField ho hd (by simp) (wP (x,rfl,wP (hQ _ (_,yCq _ ho (Obj.isFreed_of_fields (Obj.data_mapFields hd _)),(Obj.cls_mapFields ..).trans hc,?_,) (Heap.SameBut.update ..)),)));rw[Obj.data_mapFields hd];simp[yx]
def aOL{A:zv}{E:qx -> qv -> Prop}{s:qv}{Q:qx->qv->Prop}(hh:A.handled=qj)(hit:s.heap.IsTupleIter it t i)(ht:s.heap.IsTuple t bD)(hx:bD[i]?=qj)(hE:∀ h' e,Heap.ExtBut it s.heap h'->(∃ o,h'.get? e=qz o/\o.cls=.type "StopIteration")->E (.ref e) {s with heap:=h' }):qu (model prog w) A (yBq (.ref it)) Q E s:=by
 let(o,ho,hc,hd):=id hit;let(ol,hol,_,nl,hdl):=ht;unfold yBq;refine wB (wpAny_callSpecial?_slot (name:=Str.ofString "__next__") hit.typeIs F.slot_tuple_iterator_next (jo F.slot_tuple_iterator_next hit.typeIs F.entry_tuple_iterator_next ?_ (F.args_tuple_iterator_next_1 _)));show qu _ _ (field (.ref it) 0 >>= _) _ _ s;refine wB (xq ho hd (x:=.ref t) rfl ?_);show qu _ _ (if (Value.ref t==Value.none)=Tt then _ else _) _ _ s;rw[if_neg (show ¬ ((Value.ref t==Value.none)=Tt) from yBr)];show qu _ _ (field (.ref it) 1 >>= _) _ _ s;refine wB (xq ho hd (x:=.int i 0) rfl ?_);show qu _ _ (seqItems? (.ref t) >>= _) _ _ s;refine wB (jk hol hdl ?_);simp only[yAu,hx];refine wB (wj (wB (wpAny_setField ho hd (by simp) ?_)));show qu _ _ (newExc (.type "StopIteration") [] >>= _) _ _ _;refine wB ?_;simp only[newExc,newTuple];refine wB (xj (wB (m:=firstArgMember _ _) (wpAny_of_eq (a:=Value.none) (by first|rfl|(simp only[firstArgMember];rfl)) (xj ?_ (by size_fits)))) (by size_fits));simp only[raiseNew];refine wB (wpAny_handled ?_)
 first|rw[show A.in1.handled=qj from hh]|rw[hh]
 exact wB (wP (wpAny_throw (hE _ _ (((Heap.SameBut.update ..).extBut.push _).push _) (_,xAd _ rfl,rfl,))))
def aQ7{A:zv}(hh:A.handled=qj)(it t:qw)(hne:t≠it)(bD:Array qx):Draws prog w A it [it,t] bD.size (λ i v=>bD[i]?=qz v) (λ i h=>h.IsTupleIter it t i/\h.IsTuple t bD) where
 live:=λ _ _ st=>let ⟨o,ho,_⟩:=st.1;(o,ho,)
 frame:=λ _ _ _ st hk=>(st.1.at λ o e=>hk it (by simp) o e,let ⟨u,hu,r⟩:=st.2;(u,hk t (by simp) u hu,r,),)
 item:=λ i s Q E hi st hQ=>aOH st.1 st.2 (x:=bD[i]) (by simp[hi]) λ h' hit' hs'=>hQ _ h' s.toks (by simp[hi]) (hit',let ⟨u,hu,r⟩:=st.2;(u,hs'.extBut t u hne hu,r,),) hs'
 done:=λ s Q E st hE=>aOL hh st.1 st.2 (by simp) hE
inductive Tv where
 |int (i:Int)|str (x:Str)|bool (b:Bool)
 deriving DecidableEq
def Tv.d:Tv->D
 |.int i=>.int i|.str x=>.str x|.bool b=>.bool b
def Tv.v:Tv->V
 |.int i=>.int i|.str x=>.str x|.bool b=>.bl b
def Tv.den(t:Tv):Den K F t.d t.v:=by
 cases t
 .exact .int _
 .exact .str _
 .exact .bl _
def tX(w:zj):Li DictEntry->Li (Str×Tv)->Prop
 |[],[]=>True|e::r,(x,v)::aM=>e.hash=hashStr w x/\(∃ t,e.key=.str x t)/\bB v.v e.val/\tX w r aM|_,_=>False
def yS(K:FrG)(w:zj)(a:qw)(aM:Li (Str×Tv)):Prop:=(a==sysModules)=Ff/\∃ es ep,K.lookup a=qz {cls:=.type "dict",data:=.dict es ep }/\tX w es.toList aM
def aCi(aM:Li (Str×Tv)):D->Oz D
 |.str x=>(aM.lookup x).map Tv.d|_=>qj
def aJc:∀ {l:Li DictEntry}{aM:Li (Str×Tv)},tX w l aM->∀ e∈l,∃ k,(gD P w).is k e.key=Tt/\e.hash=(gD P w).hash k
 |[],[],_,e,h=>by cases h
 |e::r,(x,v)::aM,ok,e',h=>by
   let(h1,(t,h2),_,h4):=ok;rcases List.mem_cons.mp h with rfl|h
   .exact(.inr x,by rw[h2];exact aDf x t,h1,)
   .exact aJc h4 e' h
 |[],_::_,ok,_,_=>ok.elim|_::_,[],ok,_,_=>ok.elim
def aRV(x y:Str)(t:Tok):oE (.inr x) (.str y t)=(x==y):=by
 have h:(y==x)=(x==y):=by
  rw[yCe];constructor<;>intro z<;>simp at z ⊢ <;> exact z.symm
 simp[oE,Value.isStrOf,h]
def aIC:∀ {l:Li DictEntry}{aM:Li (Str×Tv)},tX w l aM->aM.lookup k=qz v->∃ u,(l.find? λ e=>oE (.inr k) e.key).map (·.val)=qz u/\bB v.v u
 |[],[],_,h=>by cases h
 |e::r,(x,v')::aM,ok,h=>by
   let(h1,(t,h2),h3,h4):=ok;rw[yBy] at h;rw[yCr,h2,aRV];cases q:k==x with
   |true=>
     rw[q] at h;simp_all
   |false=>
     rw[q] at h;exact aIC h4 h
 |[],_::_,ok,_=>ok.elim|_::_,[],ok,_=>ok.elim
def aXq:vG X (λ x y H Q=>∃ a k v,x=.ref a/\yS X.K X.w a aM/\y=.str k/\aM.lookup k=qz v/\Q v.v H):=by
 intro value iX aB s σ H x y v u Q I rx ry h hs;let(a,k,tv,rfl,(_,es,ep,hl,ok),rfl,hv,q):=h;cases rx;let(t,rfl):=ry;let(z,e1,e2):=aIC ok hv;have hm:s.heap.MapOf (gD X.prog X.w) a (λ k=>findBy (gD X.prog X.w).is es k):=(_,es,ep,I.kIn a _ hl,(rfl,rfl,rfl,),rfl,λ e he=>aJc ok e (he:),λ _=>rfl,);have hz:findBy (gD X.prog X.w).is es (.inr k)=qz z:=by
  unfold findBy;rw[<- Array.find?_toList];exact e1
 exact tail_any hm.typeIs PySem.F.slot_dict_getitem.lookup (wpAny_getItem_of (aDf k t) hm hz (_,H,I.tok _,e2,q,)) hs
def aZk{fk:FE}(hg:Gl X x)(hd:(x==("__debug__" : Str))=Ff)(ht:∃ a,X.mg x=qz (.ref a)/\yS X.K X.w a aM)(hk:PE X k (aX X.K fk))(hs:wX k) :
 PE X (.Subscript (.Name x p) k pos) (aX X.K (f1 fk (hB (aCi aM)))):=by
 let(a,hm,ta):=ht;refine PE.weak (aNc (aXq (aM:=aM)) (aJY (v:=.ref a) hg hm rfl hd) hk hs) λ σ H Q hPq48=>?_
 let(F,L,S,env,w,S',R,E,e,q):=hPq48;let((w1,S1),e1,e2):=aQ e;let(d,z,e3,e4,rfl,rfl):=wC e2;cases d with
 |str y=>
   let(v,hv,rfl):=Option.map_eq_some_iff.mp (show(aM.lookup y).map Tv.d=qz z from e4);refine(F,L,S,env,w1,_,R,E,e1,λ F1 L1 H1 u g1 R1 d1=>(a,y,v,rfl,ta,(lA R1 d1 e3).str,hv,?_,),);exact q F1 L1 H1 v.v g1 R1 (show Den X.K F1 v.d v.v from v.den)
 |_=>cases e4
def aBP:List qx->Li Tv->Prop
 |[],[]=>True|u::us,t::ts=>bB t.v u/\aBP us ts|_,_=>False
def aJf:∀ {us:List qx}{ts:Li Tv},aBP us ts->bF (ts.map Tv.v) us
 |[],[],_=>.nil|_::_,_::_,⟨h1,h2⟩=>.cons h1 (aJf h2)|[],_::_,h=>h.elim|_::_,[],h=>h.elim
def aKg:∀ ts:Li Tv,DenL K F (ts.map Tv.d) (ts.map Tv.v)
 |[]=>.nil|t::ts=>.cons t.den (aKg ts)
def uF(K:FrG)(a:qw)(ts:Li Tv):Prop:=∃ (o:Obj) (aI:Array qx) (n:Nat),K.lookup a=qz o/\o.cls=.type "tuple" /\ o.data=.seq aI n/\aI.size<=qk/\aBP aI.toList ts
def aTS(h:uF K a ts):Den K F (.tuple (ts.map Tv.d)) (.ref a):=by let(o,aI,n,h1,h2,h3,h4,h5):=h;exact .tup (.inr (o,aI,n,h1,h2,h3,h4,aJf h5,)) (aKg ts)
def aY1(hg:Gl X x)(hd:(x==("__debug__" : Str))=Ff)(ht:∃ a,X.mg x=qz (.ref a)/\uF X.K a ts):PE X (.Name x p) (aX X.K (fC (.tuple (ts.map Tv.d)))):=by
 let(a,hm,ca):=ht;refine PE.weak (aJY (v:=.ref a) hg hm rfl hd) λ σ H Q hPq49=>?_
 let(F,L,S,env,w,S',R,E,e,q):=hPq49;cases e;exact q F L H _ Gr.refl R (aTS ca)
def aVg(op op':jx)(fa fb fc:FE):FE:=λ env S=>(fa env S).bind λ p=>(fb env p.2).bind λ q=>(jH (bE op) q.2 p.1 q.1).bind λ r=>match r.1 with|.d (Bz true)=>(fc env r.2).bind λ t=>jH (bE op') t.2 q.1 t.1|.d (Bz false)=>qz (.d (Bz Ff),r.2)|_=>qj
def aOD{E:qx->qv->Prop}{s:qv}{lo hi:Oz Int}{Q:qx->qv->Prop}(ht:IsTup s.heap t bD)(hs:s.heap.IsSliceOf sl vl vu .none)(pl:IsPart vl lo)(pu:IsPart vu hi)(hw:HT.sIx bD.size 0 lo=0/\HT.sIx bD.size bD.size hi=bD.size)(h:Q (.ref t) s):qu (model prog w) A (getItem (.ref t) (.ref sl)) Q E s:=by
 let(os,hos,hcs,hds):=id hs;have hTs:s.TypeIs (.ref sl) "slice":=(os,hos,hcs,);unfold getItem
 try with_reducible refine zu ?_
 first|refine wB (wP ?_)|skip
 refine wB (wpAny_sequenceKey ht.typeIs (·) ?_)
 refine wB (wpAny_callSpecial?_slot (name:=Str.ofString "__getitem__") ht.typeIs yCk
  (jo yCk ht.typeIs entry_tuple_getitem ?_ (args_tuple_getitem _ _)))
 show qu _ _ (yGz (.ref t) >>= _) _ _ s;refine wB (tupleItemsOf_ ht ?_);refine wB (wpAny_typeOf hTs ?_);rw[if_pos (·)];refine wB (HT.sliceApplied_gen hs pl pu ?_);have hyes:(((HT.sIx bD.size 0 lo:Nat):Int)==0&&(1:Int)==1&&(HT.sIx bD.size bD.size hi-HT.sIx bD.size 0 lo)==bD.size)=Tt:=by
  rw[hw.1,hw.2];simp
 show qu _ _ (if (((HT.sIx bD.size 0 lo:Nat):Int)==0&&(1:Int)==1&&(HT.sIx bD.size bD.size hi-HT.sIx bD.size 0 lo)==bD.size)=Tt then _ else _) _ _ s;rw[if_pos hyes];unfold Builtin.Tuple.tupleIsExact;refine wB (wB (wpAny_typeOf ht.typeIs (wP ?_)));rw[if_pos (·)]
 first
  |exact wB (wj (wP (_,rfl,wP h,)))
  |exact wB (wj (wB (wP (wP (_,rfl,wP h,)))))
  |exact wB (wj (wP (_,rfl,h,)))
def aZW(K:FrG):V->Oz Int->Oz Int->Hp->VK->Prop:=λ x lo hi H Q=>∃ a xs,x=.ref a/\cZ K H a xs /\
 (((HT.sIx ↑xs 0 lo=0/\HT.sIx ↑xs ↑xs hi=↑xs)/\Q (.ref a) H)\/(¬ (HT.sIx ↑xs 0 lo=0/\HT.sIx ↑xs ↑xs hi=↑xs)/\∀ p,H p=qj->Q (.ref p) (bL H p (.tup (oK xs lo hi)))))
def aTK:SlR X (aZW X.K):=by
 intro aB s σ H x v vl vu lo hi sl Q I rx hs pl pu h;obtain⟨a,xs,rfl,hx,⟨hw,q⟩|⟨hw,q⟩⟩:=h
 .cases rx;let(aI,r,ht,hz):=I.tuple hx;have dE:aI.toArray.size=↑xs:=by rw[yAj];exact r.length.symm
  refine("tuple",_,PyProof.Rows.slot_tuple_getitem.lookup,ht.typeIs,?_,);exact aOD ht hs pl pu (by rw[dE];exact hw) (.ref a,H,I,rfl,q,)
 .exact aWD aB s σ H _ v vl vu lo hi sl Q I rx hs pl pu (a,xs,rfl,hx,hw,q,)
def aN8:D->Oz Int->Oz Int->Oz D
 |.tuple xs,lo,hi=>qz (.tuple (gK xs lo hi))|_,_,_=>qj
def aMm(fa:FE)(fl fh:FO):FE:=λ env S=>(fa env S).bind λ p=>(fl env p.2).bind λ q=>(fh env q.2).bind λ r=>(dr r.2 p.1).bind λ d=>(aN8 d q.1 r.1).bind λ z=>qz (.d z,r.2)
def aXN{lo hi:Option qy}{fa:FE}{fl fh:FO}(ha:PE X a (aX X.K fa))(hl:PO X lo (mX X.K fl))(hh:PO X hi (mX X.K fh)):PE X (.Subscript a (.Slice lo hi qj p2) pos) (aX X.K (aMm fa fl fh)):=
 PE.weak (aJr aTK ha hl hh) λ σ H Q bC=>by
  let(F,L,S,env,ds,S',R,E,e,q):=bC;let((w,S1),e1,e):=aQ e;let((l,S2),e2,e):=aQ e;let((h,S3),e3,e):=aQ e;let(d,e4,e):=aQ e;let(z,e5,e):=aQ e;cases e;refine(F,L,S,env,w,S1,R,E,e1,λ F1 L1 H1 v g1 R1 d1=>(F1,L1,S1,env,l,S2,R1,E.mono g1,e2,λ F2 L2 H2 g2 R2=>(F2,L2,S2,env,h,S3,R2,E.mono (g1.trans g2),e3,λ F3 L3 H3 g3 R3=>?_,),),);have n:=lA R3 (d1.mono (g2.trans g3)) e4;cases d with
  |tuple xs=>
    cases e5;let(a,vs,rfl,sq,dl):=n.tup R3.sub;refine(a,vs,rfl,sq,?_,);by_cases hw:HT.sIx ↑vs 0 l=0/\HT.sIx ↑vs ↑vs h=↑vs
    .refine .inl (hw,q F3 L3 H3 _ ((g1.trans g2).trans g3) R3 ?_,);have ec:gK xs l h=xs:=by
      unfold gK;rw[dl.length,hw.1,hw.2,yGi,Nat.sub_zero,<- dl.length,yAf]
     rw[ec];rcases n with n|⟨_,_,_,z,_⟩
     .exact n
     .cases z
    .exact .inr (hw,λ p hp=>q _ L3 _ _ (((g1.trans g2).trans g3).trans (Gr.new (R3.sub.free hp))) (R3.new hp) (Den.tup (cZ.of dH) ((aKo dl l h).mono (gO (R3.sub.free hp)))),)
  |_=>cases e5
def aYx(X:Cx):R2:=λ x y H Q=>∃ a k xs,x=.ref a/\y=.int k/\cI X.K H a xs /\ -(2^63)<=k/\k<2^63/\↑xs*k.toNat<=qk/\∀ p,H p=qj->Q (.ref p) (bL H p (.lst (yAg k.toNat xs).flatten))
def zP(fa fb:FE):FL:=λ env S=>(fa env S).bind λ p=>(fb env p.2).bind λ q=>(dr q.2 p.1).bind λ d=>match d,q.1 with
 |.list xs,.d (Iz k)=>if k<2^63 /\ -(2^63)<=k/\↑xs*k.toNat<=qk then qz (yZ k.toNat xs,q.2) else qj
 |_,_=>qj
def aZN{fa fb:FE}(ha:PE X a (aX X.K fa))(hb:PE X b (aX X.K fb)):PE X (.BinOp a .Mult b pos) (kA X.K (zP fa fb)):=by
 refine PE.weak (aMt (r:=aYx X) (λ aB s σ H x y v u Q I rx ry ⟨a,k,xs,hx,hy,sq,h1,h2,hz,q⟩=>?_) ha hb) λ σ H Q ⟨F,L,S,env,ds,S',R,E,e,q⟩=>?_
 .subst hx hy;cases rx;let(t,rfl):=ry;exact aNS I sq h1 h2 hz q
 .let((w1,S1),e1,e):=aQ e;let((w2,S2),e2,e):=aQ e;let(d,e3,e):=aQ e;dsimp only at e e2 e3;refine(F,L,S,env,w1,S1,R,E,e1,λ F1 L1 H1 x g1 R1 d1=>(F1,L1,S1,env,w2,S2,R1,E.mono g1,e2,λ F2 L2 H2 y g2 R2 d2=>?_,),);cases d with
  |list xs=>
    cases w2 with
    |loc n=>cases e|exc c r=>cases e|dic n=>cases e|ob fs=>cases e|tpl ws=>cases e
    |d v=>
      cases v with
      |int kk=>
        dsimp only at e;split at e
        .rename_i c;cases e;let(a,vs,rfl,sq,dl):=(lA R2 (d1.mono g2) e3).lst R2.sub;cases (show Den X.K F2 (.int kk) y from d2);exact(a,kk,vs,rfl,rfl,sq,c.2.1,c.1,by rw[<- dl.length];exact c.2.2,λ p hp=>q F2 L2 _ p _ (g1.trans g2) (R2.lay hp) (R2.sub.free hp) (R2.notin hp) dH (dl.rep kk.toNat),)
        .cases e
      |_=>cases e
  |_=>cases e
section
open PySem.SeqAt
open PySem.AutoSeq1 (wpAny_loadPart')
open PySem.MeetsSeq PySem.MeetsSeq2 PySem.MeetsSeq3
def tM:∀ {vs:List qx}{ns:Li Int}{i:Nat},IntsAre vs ns->i<↑vs->∃ a t,vs[i]?=qz (.int a t)/\ns.drop i=a::ns.drop (i+1)
 |_,_,i,.nil,h=>absurd h (yDn i)|_,_,0,.cons a t _,_=>(a,t,rfl,rfl,)
 |_,_,i+1,.cons a t r,h=>by
   let(b,u,h1,h2):=tM (i:=i) r (h:);exact(b,u,by simpa using h1,by simpa using h2,)
end
def aNu(f:FL):FL:=λ env S=>(f env S).bind λ p=>if p.1.length<=1000000 then qz p else qj
def vR:1000000<=qk:=by rw[zx];decide
def Itd(hi:Int)(n:Nat):It:=(λ i _=>i<n,λ i H x H'=>H'=H/\x=.int (hi-i),λ i _=>n<=i,)
def aQO(it:qw)(hi:Int)(n:Nat):Turn P w K tg (Itd hi n) [it] it (λ i h=>yw h it (hi+(i:Nat)*(-1)) ((n:Int)-(i:Nat)) (-1)) where
 mem:=by simp
 obj:=λ i h st b hb=>by
  simp_all
 keep:=λ i h h' st k=>k it (by simp) _ st
 item:=by
  intro X hP hw hK hc i aB s σ H E I hf st hg;subst hP hw hK;let(f0,f1,f2,f3,f4,f5):=hf it (by simp);have W:=Walks.range (prog:=X.prog) (w:=X.w) (I.ok.hd hc) it hi (-1) n;refine W.item i s _ _ hg st λ v h' tk hv st' kk=>?_
  let(t,rfl):=hv;have I1:Inv X aB σ H {s with heap:=h',toks:=tk }:=I.turned (λ b o hb e=>kk b o (hb:) e) f0 f1 f3 f4 f5;refine(_,rfl,aB5 (s:={s with heap:=h',toks:=tk }) (n:="range_iterator") st' rfl rfl (·) (.int (hi-i),H,I1,(t,?_,),(rfl,rfl,),st',λ b hb=>(hf b hb).1,),);congr 1;omega
 done:=by
  intro X hP hw hK hc i aB s σ H E I hf st hg;subst hP hw hK;let(f0,f1,f2,f3,f4,f5):=hf it (by simp);exact wpAny_pyNext_range_end (I.ok.hd hc) st (by have:n<=i:=hg;omega) λ h' eb=>(rfl,I.turned (t':=s.toks) (λ b o hb e=>eb b o hb e) f0 f1 f3 f4 f5,)
 self:=λ _ _ _ _ _ st h=>yv st h
def aGQ(a b:Int):yEl a b (-1)=if b<a then a-b else 0:=by unfold yEl;simp_all
def aP1{a b:Int}(ha : -(2^62)<=a)(ha':a<2^62)(hb : -(2^62)<=b)(hb':b<2^62):yIl a b (-1)=Tt:=by unfold yIl;rw[aGQ];simp only[Builtin.Range.rangeFitsLong,yBn,yEv,decide_eq_true_eq,beq_iff_eq,show ¬ ((-1:Int)>0) by decide,if_false];split<;>omega
def aUd{R:It->Hp->Prop}{E:qx->qv->Prop}{hi lo:Int}(I:Inv X aB σ H s)(h1 : -(2^62)<=hi)(h2:hi<2^62)(h3 : -(2^62)<=lo)(h4:lo<2^62)(q:R (Itd hi (hi-lo).toNat) H):qu (model X.prog X.w) X.A (pyIter (.ref s.heap.objs.size)) (PIE X aB σ tg R) E {s with heap:=s.heap.push {cls:=.type "range",data:=.fields #[.int hi t,.int lo u,.int (-1) v] },toks:=tk }:=by
 refine wpAny_pyIter_range (IsRange.new ..) (aP1 h1 h2 h3 h4) ?_;have I1:Inv X aB σ H {s with heap:=s.heap.push {cls:=.type "range",data:=.fields #[.int hi t,.int lo u,.int (-1) v] },toks:=tk }:=I.kept λ b o e=>hpS _ e
 refine⟨(s.heap.push {cls:=.type "range",data:=.fields #[.int hi t,.int lo u,.int (-1) v] }).objs.size,[(s.heap.push {cls:=.type "range",data:=.fields #[.int hi t,.int lo u,.int (-1) v] }).objs.size],_,_,H,rfl,
  I1.kept (t':=tk) λ b o e=>hpS _ e,aQO _ hi (hi-lo).toNat,?_,λ b hb=>?_,q⟩
 .have e1:hi+((0:Nat):Int)*(-1)=hi:=by simp
  have e2:(((hi-lo).toNat:Nat):Int)-((0:Nat):Int)=yEl hi lo (-1):=by rw[aGQ];split<;>omega
  show yw _ _ (hi+((0:Nat):Int)*(-1)) ((((hi-lo).toNat:Nat):Int)-((0:Nat):Int)) (-1);rw[e1,e2];exact xAd _ rfl
 .have e:b=(s.heap.push {cls:=.type "range",data:=.fields #[.int hi t,.int lo u,.int (-1) v] }).objs.size:=(hb:)
  subst e;exact I1.fpOk (yAc _) (I1.hok.fresh (yAc _))
def aMh(ta:TA):TI:=λ σ H R=>ta σ H λ vs H1=>∃ i j:Int,vs=[.int i,.int j,.int (-1)]/\(-(2^62)<=i/\i<2^62 /\ -(2^62)<=j/\j<2^62)/\R (Itd i (i-j).toNat) H1
def aQs{ta:TA}(hg:Gl X "range")(hm:X.mg "range" = qj)(ha:PA X [a,b,c] ta)(hs:qo [a,b,c] X.env=(Ff,eval a X.env)::qo [b,c] X.env)(hs2:qo [b,c] X.env=[(Ff,eval b X.env),(Ff,eval c X.env)]) :
 PI X tg (.Call (.Name "range" p) [a,b,c] [] pos) (aMh ta):=by
 intro aB s σ H R I h;refine Call_ (nT I hg hm boot_range (yBl (bJ (ha pos aB s σ H _ I h) λ us s1 hPq50=>?_) hs (by rw[hs2];rfl)));let(vs,H1,I1,r1,q1):=hPq50;let(i,j,e,(q1,q2,q3,q4),q):=q1;subst e;cases r1 with
 |cons r rr=>
   cases rr with
   |cons r' rr=>
     cases rr with
     |cons r'' rr=>
       cases rr;let(t,rfl):=r;let(t',rfl):=r';let(t'',rfl):=r'';exact call_range_3 (·) (aUd I1 q1 q2 q3 q4 q)
def mR(hi:Int):Nat->Li D
 |0=>[]|n+1=>.int hi::mR (hi-1) n
def sS:∀ (n:Nat) (hi:Int),(mR hi n).length=n
 |0,_=>rfl|n+1,hi=>by rw[mR,yAn,sS n]
def aC6:∀ (n:Nat) (hi:Int) (i:Nat),i<n->(mR hi n)[i]?=qz (.int (hi-i))
 |0,_,_,h=>by omega|n+1,hi,0,_=>by simp[mR]
 |n+1,hi,i+1,h=>by
   rw[mR,yDe,aC6 n (hi-1) i (!_)];congr 2
   push_cast
   omega
def aU2(hi:Int)(n:Nat):Wk K F L (Itd hi n) (mR hi n) where
 go:=λ i H s hi=>by rw[sS] at hi;exact hi
 stop:=λ H s=>by rw[sS];exact yAc _
 yld:=λ i H F1 L1 S x H' d g R e y=>by
  let(rfl,rfl):=y;have hi:i<n:=by
   have:=(gIm e).1;rw[sS] at this;exact this
  rw[aC6 n _ i hi] at e;cases e;exact(F1,cE.refl _,R,.int _,)
def xY(fa fb fc:FE):FL:=λ env S=>(fa env S).bind λ p=>(fb env p.2).bind λ q=>(fc env q.2).bind λ r=>match p.1,q.1,r.1 with
 |.d (Iz i),.d (Iz j),.d (Iz k)=>if (-(2^62)<=i/\i<2^62 /\ -(2^62)<=j/\j<2^62)/\k = -1 then qz (mR i (i-j).toNat,r.2) else qj
 |_,_,_=>qj
def aXX{fa fb fc:FE}(σ:L2.St)(H:Hp)(Rr:It->Hp->Prop)(h:kC K (xY fa fb fc) σ H Rr):aMh (fG K (dU fa (dU fb (dU fc iS)))) σ H Rr:=by
 let(F,L,S,env,ds,S',R,E,e,q):=h;let((w,S1),e1,e2):=aQ e;let((w2,S2),e3,e4):=aQ e2;let((w3,S3),e5,e6):=aQ e4;dsimp only at e6 e3 e5;split at e6
 .split at e6
  .rename_i c;let(c,rfl):=c;cases e6;refine(F,L,S,env,[.d (Iz _),.d (Iz _),.d (Iz _)],_,R,E,by unfold dU;rw[e1];dsimp only[yCy];rw[e3];dsimp only[yCy];rw[e5];rfl,λ F1 L1 H1 vs g1 R1 d1=>?_,);cases d1 with
   |cons dd dr=>
     cases dr with
     |cons dd2 dr=>
       cases dr with
       |cons dd3 dr=>
         cases dr;cases (show Den K F1 (.int _) _ from dd);cases (show Den K F1 (.int _) _ from dd2);cases (show Den K F1 (.int _) _ from dd3);exact(_,_,rfl,c,q F1 L1 H1 _ g1 R1 (aU2 _ _),)
  .cases e6
 .cases e6
def aVk(t:Bool):String:=if t then "tuple_iterator" else "list_iterator"
def gL(t:Bool)(h:Heap)(a:qw)(aI:Array qx):Prop:=match t with|true=>h.IsTuple a aI|false=>h.IsList a aI
def nI(t:Bool)(h:Heap)(it a:qw)(i:Nat):Prop:=match t with|true=>h.IsTupleIter it a i|false=>h.IsListIter it a i
def Sq(t:Bool)(K:FrG)(H:Hp)(a:qw)(xs:Li V):Prop:=match t with|true=>cZ K H a xs|false=>cI K H a xs
def nI.at{h':Heap}(x:nI t h it a i)(q:∀ o,h.get? it=qz o->h'.get? it=qz o):nI t h' it a i:=by
 cases t with
 |true=>exact Heap.IsTupleIter.at (h:=h) x q|false=>exact Heap.IsListIter.at (h:=h) x q
def nI.obj(x:nI t h it a i):∃ o,h.get? it=qz o/\∀ v,o.data≠.cell v:=by
 cases t with
 |true=>let(o,ho,hc,hd):=x;exact⟨o,ho,λ v z=>by rw[hd] at z;cases z⟩
 |false=>let(o,ho,hc,hd):=x;exact⟨o,ho,λ v z=>by rw[hd] at z;cases z⟩
def gL.lt(x:gL t h a aI):a<h.objs.size:=by
 cases t with
 |true=>let(o,ho,_):=x;exact xAa ho
 |false=>let(o,ho,_):=x;exact xAa ho
def aSi{A:zv}(hh:A.handled=qj)(t:Bool)(it l:qw)(hne:l≠it)(bD:Array qx):Draws prog w A it [it,l] bD.size (λ i v=>bD[i]?=qz v) (λ i h=>nI t h it l i/\gL t h l bD):=by
 cases t with
 |true=>exact aQ7 hh it l hne bD|false=>exact Draws.list hh it l hne bD
def aMP{xs:Li V}(I:Inv X aB σ H s)(h:Sq t X.K H a xs):∃ aI:List qx,bF xs aI/\gL t s.heap a aI.toArray:=by
 cases t with
 |true=>let(aI,rv,pl,hz):=I.tuple h;exact(aI,rv,pl,)
 |false=>let(aI,rv,pl,hz):=I.list h;exact(aI,rv,pl.isList,)
def aMd{xs:Li V}(I:Inv X aB σ H s)(h:Sq t X.K H a xs)(h':Sq t X.K H a ys):xs=ys:=by
 cases t with
 |true=>exact I.tuple_inj h h'|false=>exact I.list_inj h h'
def aEg{xs:Li V}(e:cE H H')(h:Sq t K H a xs):Sq t K H' a xs:=by
 cases t with
 |true=>exact oA e h|false=>exact e.seq h
def aPS{aB:Li (qw×Obj)}{σ:L2.St}{H:Hp}{s:qv}{h':Heap}{ch:List qw}{t':Nat}(I:Inv X aB σ H s)(hch:∀ b∈ch,gW X aB H b)(k:∀ b u,b ∉ ch->s.heap.get? b=qz u->h'.get? b=qz u) :
 Inv X aB σ H {s with heap:=h',toks:=t' }:=by
 have nch:∀ b u,H b=qz u->b ∉ ch:=λ b u e z=>by rw[(hch b z).1] at e;cases e
 refine I.step (g':=s.gens) (d':=s.drawn) (ch:=ch) (λ b hb=>((hch b hb).2.2.2.1,(hch b hb).2.1,(hch b hb).2.2.2.2.1,(hch b hb).2.2.2.2.2,)) (λ b o _ _ hc e _=>k b o hc e) (λ b o _ _ hc e _=>(o.slots,k b o hc e,)) (λ _ _ _ _ n=>n)
  (λ b o hc e=>(o,k b o hc e,)) (λ _ _ e=>e) (λ _ _ _ e=>e) (λ b ps e=>(#[],by rw[e];simp,)) (λ m hm=>?_) (λ b u e=>?_) I.bare
 .let(o,es,ep,ho,r):=hm;exact(o,es,ep,k _ o (λ z=>(hch _ z).2.1 rfl) ho,r,)
 .refine(I.hok b u e).stay (λ c v hc q=>k c v ?_ q) (λ _ q=>q) λ _ _ q=>q
  rcases hc with z|z
  .rw[z];exact nch b u e
  .exact nch c _ z
def aQk{E:qx -> qv -> Prop}{s:qv}{Q:qx->qv->Prop}(hl:gL t s.heap l bD)(h:Q (.ref s.heap.objs.size) {s with heap:=s.heap.push {cls:=.type (aVk t),data:=.fields #[.ref l,.int 0 0] } }):qu (model prog w) A (pyIter (.ref l)) Q E s:=by
 cases t with
 |true=>exact wpAny_pyIter_tuple hl h|false=>exact jv hl h
abbrev aLp(h:Heap)(z TI TO a:qw)(f:Bool):Prop:=
 h.get? z=qz {cls:=.type "zip",dict:=qj,data:=.fields #[yx a,.bool f,.bool Ff,.ref TI,.ref TO],slots:=#[] }
def aQj{E:qx -> qv -> Prop}{s:qv}{Q:Oz Obj->qv->Prop}(h:Q (s.heap.get? a) s):qu (model prog w) A (loadIfAlive a) Q E s:=λ _ _ _=>h
def aPT{E:qx -> qv -> Prop}{s:qv}{TI TO:qw}{Q:Bool->qv->Prop}(hz:aLp s.heap z TI TO a f)(ha:∃ o,s.heap.get? a=qz o)(hQ:∀ h',aLp h' z TI TO a Tt->yDi z s.heap h'->Q Ff {s with heap:=h' }):qu (model prog w) A (yDo (.ref z)) Q E s:=by
 unfold yDo;refine wB (xq hz rfl (x:=yx a) rfl ?_);let(o,ho):=ha;have hn:((s.heap.get? ((a:Int)).toNat).isNone)=Ff:=by
  rw[yAu,ho];rfl
 show qu _ _ (loadIfAlive ((a:Int)).toNat >>= _) _ _ _;refine wB (aQj ?_);rw[hn];simp only[yAv,if_false];cases f with
 |true=>
   refine wB (xq hz rfl (x:=.bool Tt) rfl ?_);rw[if_neg (·)];exact wP (hQ s.heap hz (Heap.SameBut.refl _ _))
 |false=>
   refine wB (xq hz rfl (x:=.bool Ff) rfl ?_);rw[if_pos (·)];exact wB (jj hz (by simp) λ h₁ hz₁ hs₁=>wP (hQ h₁ hz₁ hs₁))
abbrev Tp(h:Heap)(a:qw)(xs:List qx):Prop:=h.get? a=qz {cls:=.type "tuple",data:=.seq xs.toArray }
abbrev Zo(h:Heap)(e:qw)(f:qx)(g:Bool):Prop:=h.get? (e+2)=qz {cls:=.type "zip",data:=.fields #[f,.bool g,.bool Ff,.ref e,.ref (e+1)] }
abbrev Zq:=List (Bool×qw)
structure ZT(n:Nat)(qs:Zq)(k j:Nat)(h:Heap):Prop where
 it:∀ (i:Nat) q,qs[i]?=qz q->nI q.1 h (n+i) q.2 (if i<j then k+1 else k)
 ti:Tp h (n+↑qs) ((yCl n ↑qs).map .ref)
def nn(h:a≠b):(n+a:Nat)≠n+b:=λ e=>h (Nat.add_left_cancel e)
def na{a b:Nat}(h:a≠b):a≠b:=h
def nB{α:Type}{l:List α}{q:α}(h:l[i]?=qz q):i<↑l:=(gIm h).1
def ZT.keep{h':Heap}(T:ZT n qs k j h)(r:∀ c o,n<=c->c<=n+↑qs->h.get? c=qz o->h'.get? c=qz o):ZT n qs k j h':=
 (λ i q e=>(T.it i q e).at λ o x=>r _ o (yCz ..) (yDp (yDx (nB e)) _) x,r _ _ (yCz ..) (yAc _) T.ti,)
def ZT.all(T:ZT n qs k j h)(hj:↑qs<=j):ZT n qs (k+1) 0 h:=(λ i q e=>by have x:=T.it i q e;rw[if_pos (xAb (nB e) hj)] at x;rw[if_neg (yDn _)];exact x,T.ti,)
def aFM{os:List qx}(T:ZT n qs k j h)(hO:Tp h (n+↑qs+1) os)(hz:Zo h (n+↑qs) f g)(c:Nat)(h1:n<=c)(h2:c<=n+↑qs+2):∃ o,h.get? c=qz o/\∀ v,o.data≠.cell v:=by
 by_cases h3:c<n+↑qs
 .have e:=yAb (l:=qs) (show c-n<↑qs by omega);have:=(T.it _ _ e).obj;rwa [show n+(c-n)=c by omega] at this
 have:c=n+↑qs\/c=n+↑qs+1\/c=n+↑qs+2:=by omega
 rcases this with rfl|rfl|rfl
 .exact⟨_,T.ti,λ v z=>by cases z⟩
 .exact⟨_,hO,λ v z=>by cases z⟩
 .exact⟨_,hz,λ v z=>by cases z⟩
def Ys(qs:Zq)(vs:Nat->List qx)(k j:Nat)(ys:List qx):Prop:=∀ i:Nat,i<↑qs->i<j->(vs i)[k]?=ys[i]?
def bBW(h:Heap)(e:qw):Prop:=∃ o,h.get? e=qz o/\o.cls=.type "StopIteration"
structure ZL(n:Nat)(qs:Zq)(k:Nat)(h0:Heap)(j:Nat)(h:Heap):Prop where
 t:ZT n qs k j h
 sz:h.objs.size=h0.objs.size
 fr:∀ c o,c<n\/n+↑qs+2<c->h0.get? c=qz o->h.get? c=qz o
def gL.at{h':Heap}(x:gL t h a aI)(f:∀ o,h.get? a=qz o->h'.get? a=qz o):gL t h' a aI:=by
 cases t with
 |true=>let(o,ho,r):=x;exact(o,f _ ho,r,)
 |false=>let(o,ho,r):=x;exact(o,f _ ho,r,)
def ZL.same(L:ZL n qs k h0 j h)(x:c=n+↑qs+1\/c=n+↑qs+2)(hs:yDi c h h'):ZL n qs k h0 j h':=
 (L.t.keep λ b o _ hb e=>hs.extBut _ _ (λ(z:b=c)=>by subst z;rcases x with rfl|rfl<;>omega) e,hs.1.trans L.sz,λ b o hb e=>hs.extBut _ _ (λ(z:b=c)=>by subst z;rcases x with rfl|rfl<;>omega) (L.fr b o hb e),)
def aMo{A:zv}{E:qx -> qv -> Prop}{s:qv}{Q:qx->qv->Prop}{us:List qx}(hh:A.handled=qj)(hq:qs[j]?=qz q)(L:ZL n qs k h0 j s.heap)(sq:gL q.1 h0 q.2 us.toArray/\q.2<n/\k<=↑us)(hQ:∀ x h' tk,us[k]?=qz x->ZL n qs k h0 (j+1) h'->yDi (n+j) s.heap h'->Q x {s with heap:=h',toks:=tk })(hE:∀ h' e,k=↑us->Heap.ExtBut (n+j) s.heap h'->bBW h' e->E (.ref e) {s with heap:=h' }):qu (model prog w) A (yBq (.ref (n+j))) Q E s:=by
 let(sq,lt,hk):=sq;replace sq:gL q.1 s.heap q.2 us.toArray:=gL.at sq λ o e=>L.fr _ o (.inl lt) e
 have D:=@aSi prog w _ hh q.1 (n+j) q.2 (xAj (xAb lt (yCz ..))) us.toArray;have t:=L.t.it j q hq;rw[if_neg (yCm _)] at t;have jl:=nB hq;have ze:us.toArray.size=↑us:=yAj ..;by_cases e:k<↑us
 .refine D.item k _ _ _ (ze▸e) (t,sq,) λ x h' tk px st hs=>hQ x h' tk (List.getElem?_toArray▸px) ((λ i q' hi=>?_,hs.extBut _ _ (nn (yHc jl)) L.t.ti,),hs.1.trans L.sz,λ c o hc e=>hs.extBut _ _ (λ(z:c=n+j)=>by subst z;omega) (L.fr c o hc e),) hs
  by_cases c:i=j
  .subst c;rw[hq] at hi;cases hi;rw[if_pos (yFj _)];exact st.1
  .have x:=(L.t.it i q' hi).at λ o x=>hs.extBut _ _ (nn c) x
   rwa [ite_cond_congr (propext ((λ z=>by omega,λ z=>by omega,):i<j ↔ i<j+1))] at x
 .have:us.toArray.size=k:=by omega
  exact D.done _ _ _ (this▸(t,sq,)) λ h' e hs he=>hE h' e (!_) hs he
structure ZH(n:Nat)(qs:Zq)(k:Nat)(h:Heap):Prop where
 t:ZT n qs k 0 h
 to:∃ os,↑os=↑qs/\Tp h (n+↑qs+1) os
 z:∃ f g,Zo h (n+↑qs) f g/\(f=.none/\g=Ff\/∃ a:Nat,f=yx a/\∃ o,h.get? a=qz o)
def aFl{α:Type}{l cM:List α}{x:α}(h:x::cM=l.drop j):l[j]?=qz x/\cM=l.drop (j+1):=by
 have e:l[j]?=qz x:=by rw[<- List.head?_drop,<- h];rfl
 refine(e,?_,);rw[<- List.tail_drop,<- h];rfl
def aMK{A:zv}{E:qx -> qv -> Prop}{s:qv}{qs:Zq}{vs:Nat -> List qx}{Q:Option qx->qv->Prop}(hh:A.in1.handled=qj)(h0:0<↑qs)(h3:↑qs<=3)(Z:ZH n qs k s.heap)(sq:∀ i q,qs[i]?=qz q->gL q.1 s.heap q.2 (vs i).toArray/\q.2<n/\k<=(vs i).length)(hQ:∀ h' tk ys,↑ys=↑qs->Ys qs vs k ↑qs ys->ZH n qs (k+1) h'->Tp h' s.heap.objs.size ys->(∀ c o,c<n\/n+↑qs+2<c->s.heap.get? c=qz o->h'.get? c=qz o) ->
   (Zo s.heap (n+↑qs) .none Ff->Zo h' (n+↑qs) (yx s.heap.objs.size) Ff)->Q (qz (.ref s.heap.objs.size)) {s with heap:=h',toks:=tk })(hE:∀ h' tk i,i<↑qs->k=(vs i).length->(∀ c o,c<n\/n+↑qs+2<c->s.heap.get? c=qz o->h'.get? c=qz o)->Q qj {s with heap:=h',toks:=tk }) :
 qu (model prog w) A (yj (.ref (n+↑qs+2))) Q E s:=by
 let(f,g,hz,hf):=Z.z;let(os,ol,kT):=Z.to;have hT:s.TypeIs (.ref (n+↑qs+2)) "zip":=(_,hz,rfl,);have hk3:∀ l:List qx,↑l=↑qs->↑l<=qk:=λ l e=>xAh (show ↑l<=1000000 by omega) vR
 have gr:∀ j,j<↑qs->((yCl n ↑qs).map Value.ref)[j]?=qz (.ref (n+j)):=λ j h=>by simp[h]
 unfold yj;refine wB (wpAny_attempt (wpAny_callSpecial?_slot (name:=Str.ofString "__next__") hT F.slot_zip_next (jo F.slot_zip_next hT F.entry_zip_next ?_ (F.args_zip_next_1 _))));show qu _ _ (field (.ref (n+↑qs+2)) 2 >>= _) _ _ _;refine wB (xq hz rfl (x:=.bool Ff) rfl ?_);show qu _ _ (field (.ref (n+↑qs+2)) 3 >>= _) _ _ _;refine wB (xq hz rfl (x:=.ref (n+↑qs)) rfl ?_);refine wB (jk Z.t.ti rfl ?_);have hi:(((yCl n ↑qs).map Value.ref).toArray.isEmpty)=Ff:=by
  cases e:↑qs with
  |zero=>omega|succ m=>rfl
 dsimp only;rw[hi];simp only[yAv,if_false];rcases hf with ⟨rfl,rfl⟩|⟨a,rfl,o,ho⟩
 .refine wB ?_;unfold yDo;refine wB (xq hz rfl (x:=.none) rfl (wP ?_));simp only[if_true];refine wB (wj ?_);refine wB (xq hz rfl (x:=.ref (n+↑qs+1)) rfl ?_);refine wB (jj hz (by simp) λ h₁ hz₁ hs₁=>?_);refine wB (wpAny_forIn_list _ (λ cM b s'=>∃ j os h tk,cM=((yCl n ↑qs).map Value.ref).zipIdx.drop j/\b=(qj,())/\s'={s with heap:=h,toks:=tk }/\ZL n qs k s.heap j h/\↑os=↑qs/\Tp h (n+↑qs+1) os/\Ys qs vs k j os/\Zo h (n+↑qs) .ellipsis Ff) _ ?_ ?_ _ _ ?_)
  .rintro x cM b s' ⟨j,os,h,tk,e1,e2,e3,L,e4,kT,hy,hz⟩;subst e2 e3;let(e5,e6):=aFl e1;have jl:j<↑qs:=by have:=nB e5;simpa using this
   have:x=(.ref (n+j),j):=by
    rw[List.getElem?_zipIdx,gr j jl] at e5;simpa using e5.symm
   subst this;refine wB (wpAny_onRaise ?_);show qu _ _ (yBq (.ref (n+j)) >>= _) _ _ _;refine wB (aMo hh (yAb jl) L (sq j _ (yAb jl)) (λ x h2 tk2 hx L2 hs2=>wP ?_) λ h2 e ek hs2 he=>?_)
   .have hTO2:Tp h2 (n+↑qs+1) os:=hs2.extBut _ _ (na (!_)) kT;refine wB (jk hTO2 rfl (wB (vx hTO2 rfl (wB (wpAny_letGo (wP ?_))))));have hs3:=Heap.SameBut.update h2 (n+↑qs+1) (Obj.mapSeq (·.setIfInBounds j x));refine(j+1,os.set j x,_,tk2,e6,rfl,rfl,L2.same (.inl rfl) hs3,by simp[e4],?_,λ i hi hj=>?_,hs3.extBut _ _ (na (!_)) (hs2.extBut _ _ (na (!_)) hz),)
    .show Heap.get? _ _=_;rw[yCq _ hTO2 rfl];simp[Obj.mapSeq]
    .by_cases c:i=j
     .subst c;rw[hx];simp[e4,jl]
     .rw[hy i hi (!_),yAz (Ne.symm c)]
   .have hz2:Zo h2 (n+↑qs) .ellipsis Ff:=hs2 _ _ (na (!_)) hz;let(oe,ho,hc):=he;have hez:e≠n+↑qs+2:=λ x=>by subst x;rw[hz2] at ho;cases ho;simp at hc
    refine jj hz2 (by simp) λ h3 _ hs3=>?_
    exact wB (wpAny_isInstance (T:="StopIteration") (b:=Tt) (oe,hs3.extBut _ _ hez ho,hc,) isSubtype_stop (wP (hE _ _ j jl ek λ c o hc e=>hs3.extBut _ _ (λ z:c=_=>by subst z;omega) (hs2 _ _ (λ z:c=_=>by subst z;omega) (L.fr c o hc e)))))
  .rintro b s' ⟨j,os,h,tk,e1,e2,e3,L,e4,kT,hy,hz⟩;subst e2 e3;have jl:↑qs<=j:=by have:=congrArg yGs e1;simp at this;omega
   refine wB (jk kT rfl (wB (wpAny_newTuple ?_ (hk3 _ e4))));have hz6:Zo (h.push {cls:=.type "tuple",data:=.seq os.toArray }) (n+↑qs) .ellipsis Ff:=hpS _ hz;have zl:n+↑qs+2<h.objs.size:=xAa hz;show qu _ _ (yFh (.ref (n+↑qs+2)) (.ref h.objs.size) >>= _) _ _ _;unfold yFh;refine wB (wB (jj hz6 (by simp) λ h7 hz7 hs7=>jj hz7 (by simp) λ h8 hz8 hs8=>?_));have up:∀ c o,c≠n+↑qs+2->(h.push {cls:=.type "tuple",data:=.seq os.toArray }).get? c=qz o->h8.get? c=qz o:=λ c o c1 e=>hs8.extBut _ _ c1 (hs7.extBut _ _ c1 e)
   have hz9:Zo h8 (n+↑qs) (yx h.objs.size) Ff:=hz8;have hT8:Tp h8 h.objs.size os:=up _ _ (yHc zl) (xAd _ rfl);refine wP (_,rfl,?_,);show qu _ _ (pure (qz (Value.ref h.objs.size))) _ _ _;rw[L.sz] at hz9 hT8 ⊢;exact wP (hQ h8 _ os e4 (λ i hi _=>hy i hi (!_)) ((L.t.all jl).keep λ c o _ hc e=>up c o (na (!_)) (hpS _ e),(os,e4,up _ _ (na (!_)) (hpS _ kT),),_,_,hz9,.inr (_,rfl,_,hT8,),) hT8 (λ c o hc e=>up c o (na (!_)) (hpS _ (L.fr c o hc e))) λ _=>hz9)
  .exact(0,os,h₁,_,rfl,rfl,rfl,(ZL.mk Z.t rfl λ _ _ _ e=>e).same (.inr rfl) hs₁,ol,hs₁.extBut _ _ (na (!_)) kT,λ i _ z=>absurd z (yDn _),hz₁,)
 .have hz0:=hz;refine wB (aPT (z:=n+↑qs+2) hz (o,ho,) λ h₁ hz₁ hs₁=>?_);simp only[yAv,if_false];rw[<- Array.forIn_toList];refine wB (wpAny_forIn_list _ (λ cM b s'=>∃ j ys h tk,cM=((yCl n ↑qs).map Value.ref).drop j/\b=(qj,ys.toArray)/\s'={s with heap:=h,toks:=tk }/\ZL n qs k s.heap j h/\↑ys=min j ↑qs/\Ys qs vs k j ys/\Zo h (n+↑qs) (yx a) Tt/\Tp h (n+↑qs+1) os) _ ?_ ?_ _ _ ?_)
  .rintro x cM b s' ⟨j,ys,h,tk,e1,e2,e3,L,e4,hy,hz,kT⟩;subst e2 e3;let(e5,e6):=aFl e1;have jl:j<↑qs:=by have:=nB e5;simpa using this
   rw[gr j jl] at e5;cases e5;refine wB (zu ?_);show qu _ _ (yBq (.ref (n+j)) >>= _) _ _ _;refine wB (aMo hh (yAb jl) L (sq j _ (yAb jl)) (λ x h2 tk2 hx L2 hs2=>wP (wP ?_)) λ h2 e ek hs2 he=>?_)
   .refine(j+1,ys++[x],h2,tk2,e6,by simp,rfl,L2,by simp;omega,λ i hi hj=>?_,hs2.extBut _ _ (na (!_)) hz,hs2.extBut _ _ (na (!_)) kT,);by_cases c:i=j
    .subst c;rw[hx,yAh (!_),show i-↑ys=0 by omega];rfl
    .rw[hy i hi (!_),xAm (!_)]
   .let(oe,ho,hc):=he;exact wB (wpAny_isInstance (T:="StopIteration") (b:=Tt) (oe,ho,hc,) isSubtype_stop (wP (hE _ _ j jl ek λ c o hc e=>hs2 _ _ (λ z:c=_=>by subst z;omega) (L.fr c o hc e))))
  .rintro b s' ⟨j,ys,h,tk,e1,e2,e3,L,e4,hy,hz,kT⟩;subst e2 e3;have jl:↑qs<=j:=by have:=congrArg yGs e1;simp at this;omega
   have e4:↑ys=↑qs:=by omega
   refine wB (wpAny_newTuple ?_ (hk3 _ e4));refine wP (_,rfl,?_,);show qu _ _ (pure (qz (Value.ref h.objs.size))) _ _ _;have hT:Tp (h.push {cls:=.type "tuple",data:=.seq ys.toArray }) h.objs.size ys:=xAd _ rfl;rw[L.sz] at hT ⊢;refine wP (hQ _ _ ys e4 (λ i hi _=>hy i hi (!_)) ((L.t.all jl).keep λ c o _ hc e=>hpS _ e,(os,ol,hpS _ kT,),_,_,hpS _ hz,.inr (_,rfl,?_,),) hT (λ c o hc e=>hpS _ (L.fr c o hc e)) λ z=>?_)
   .by_cases c:n<=a/\a<=n+↑qs+2
    .let(o,e,_):=aFM L.t kT hz a c.1 c.2;exact(o,hpS _ e,)
    .exact(o,hpS _ (L.fr a o (!_) ho),)
   .have:=hz0.symm.trans z;simp[yx] at this
  .exact(0,[],h₁,_,rfl,rfl,rfl,(ZL.mk Z.t rfl λ _ _ _ e=>e).same (.inr rfl) hs₁,by simp,λ i _ z=>absurd z (yDn _),hz₁,hs₁.extBut _ _ (na (!_)) kT,)
def aFG{n:Nat}{qs:Zq}{k:Nat}{aB:Li (qw×Obj)}{σ:L2.St}{H:Hp}{s:qv}(I:Inv X aB σ H s)(hl:∀ q∈qs,q.2<n)(h:∀ q∈qs,∃ xs,Sq q.1 X.K H q.2 xs/\k<=↑xs) :
 ∃ vs:Nat->List qx,(∀ i q,qs[i]?=qz q->gL q.1 s.heap q.2 (vs i).toArray/\q.2<n/\k<=(vs i).length)/\∀ (i:Nat) q xs,qs[i]?=qz q->Sq q.1 X.K H q.2 xs->bF xs (vs i):=by
 have:∀ i:Nat,∃ us:List qx,∀ q,qs[i]?=qz q->(gL q.1 s.heap q.2 us.toArray/\q.2<n/\k<=↑us)/\∀ xs,Sq q.1 X.K H q.2 xs->bF xs us:=λ i=>by
  cases e:qs[i]? with
  |none=>exact⟨[],λ q z=>nomatch z⟩
  |some q=>
    have m:=xAk e;let(xs,sq,hk):=h q m;let(us,rv,pl):=aMP I sq;refine(us,λ q' z=>?_,);cases z;exact((pl,hl q m,rv.length▸hk,),λ zs hz=>aMd I sq hz▸rv,)
 let(vs,hv):=Classical.axiomOfChoice this;exact(vs,λ i q e=>(hv i q e).1,λ i q xs e=>(hv i q e).2 xs,)
def aKE:∀ {us:List qx}{P:Nat->V->Prop},(∀ (j:Nat) u,us[j]?=qz u->∃ x,P j x/\bB x u)->∃ xs:Li V,bF xs us/\∀ (j:Nat) x,xs[j]?=qz x->P j x
 |[],_,_=>([],.nil,λ _ _ z=>by simp at z,)
 |u::us,P,h=>by
   let(x,p,r):=h 0 u rfl;let(xs,v,q):=aKE (P:=λ j=>P (j+1)) λ j u e=>h (j+1) u e
   refine(x::xs,.cons r v,λ j y e=>?_,);cases j with
   |zero=>cases e;exact p|succ j=>exact q j y e
def zL(K:FrG)(qs:Zq):It:=
 ⟨λ i H=>∀ q∈qs,∃ xs,Sq q.1 K H q.2 xs/\i<↑xs,
  λ i H v H'=>∃ p ys,H p=qj/\H'=bL H p (.tup ys)/\v=.ref p/\↑ys=↑qs/\∀ (j:Nat) q xs,qs[j]?=qz q->Sq q.1 K H q.2 xs->xs[i]?=ys[j]?,
  λ i H=>(∀ q∈qs,∃ xs,Sq q.1 K H q.2 xs/\i<=↑xs)/\∃ q∈qs,∃ xs,Sq q.1 K H q.2 xs/\i=↑xs⟩
section
variable {n:Nat}{qs:Zq}{k:Nat}{X:Cx}{aB:List (qw×Obj)}{σ:L2.St}{H:Hp}{s:qv}{A:zv}{E:qx->qv->Prop}
def aMI{Q:Option qx->qv->Prop}(hh:A.in1.handled=qj)(h0:0<↑qs)(h3:↑qs<=3)(hl:∀ q∈qs,q.2<n)(I:Inv X aB σ H s)(Z:ZH n qs k s.heap)(h:∀ q∈qs,∃ xs,Sq q.1 X.K H q.2 xs/\k<↑xs)(hQ:∀ h' tk us ys,bF ys us->↑ys=↑qs->(∀ (j:Nat) q xs,qs[j]?=qz q->Sq q.1 X.K H q.2 xs->xs[k]?=ys[j]?)->ZH n qs (k+1) h'->Tp h' s.heap.objs.size us->(∀ c o,c<n\/n+↑qs+2<c->s.heap.get? c=qz o->h'.get? c=qz o) ->
   (Zo s.heap (n+↑qs) .none Ff->Zo h' (n+↑qs) (yx s.heap.objs.size) Ff)->Q (qz (.ref s.heap.objs.size)) {s with heap:=h',toks:=tk }) :
 qu (model X.prog X.w) A (yj (.ref (n+↑qs+2))) Q E s:=by
 let(vs,v1,v2):=aFG I hl λ q m=>(h q m).imp λ xs a=>(a.1,yDx a.2,)
 refine aMK hh h0 h3 Z v1 (λ h' tk us ul hy Z' hT fr hz=>?_) λ h' tk i il ek _=>?_
 .let(ys,rv,hys):=@aKE us (λ j x=>∀ q xs,qs[j]?=qz q->Sq q.1 X.K H q.2 xs->xs[k]?=qz x) λ j u e=>by
   have jl:j<↑qs:=ul▸nB e;have eq:=yAb jl;let(xs,sq,kl):=h _ (xAk eq);let(u',e1,r):=(v2 j _ xs eq sq).get (yAb kl);rw[hy j jl jl,e] at e1;cases e1;refine(_,λ q zs eq' sz=>?_,r,);rw[eq] at eq';cases eq';rw[aMd I sz sq,yAb kl]
  refine hQ h' tk us ys rv (rv.length.trans ul) (λ j q xs e sq=>?_) Z' hT fr hz;have jl:j<↑ys:=by rw[rv.length,ul];exact nB e
  rw[yAb jl,hys j _ (yAb jl) q xs e sq]
 .have eq:=yAb il;let(xs,sq,kl):=h _ (xAk eq);have:=(v2 i _ xs eq sq).length;omega
def aMJ{Q:Option qx->qv->Prop}(hh:A.in1.handled=qj)(h0:0<↑qs)(h3:↑qs<=3)(hl:∀ q∈qs,q.2<n)(I:Inv X aB σ H s)(Z:ZH n qs k s.heap)(hf:∀ b∈yCl n (↑qs+3),gW X aB H b)(h:(zL X.K qs).stop k H)(hQ:∀ h' tk,Inv X aB σ H {s with heap:=h',toks:=tk }->Q qj {s with heap:=h',toks:=tk }):qu (model X.prog X.w) A (yj (.ref (n+↑qs+2))) Q E s:=by
 let(h1,q,m,xs,sq,e):=h;let(vs,v1,v2):=aFG I hl h1;refine aMK hh h0 h3 Z v1 (λ h' tk us ul hy _ _ _ _=>?_) λ h' tk i il ek fr=>hQ _ _ (aPS I hf λ c o hb e'=>fr c o ?_ e')
 .let(j,jl,eq):=yGv m;have e1:=hy j jl jl;rw[yCc (by rw[<- (v2 j q xs (List.getElem?_eq_some_iff.mpr (jl,eq,)) sq).length,e];exact yAc _),yAb (ul▸jl)] at e1;cases e1
 .rw[yHs] at hb;omega
end
def aSD(n:Nat)(qs:Zq)(h0:0<↑qs)(h3:↑qs<=3)(hl:∀ q∈qs,q.2<n) :
 Turn P w K (.Tuple elts k pos) (zL K qs) (yCl n (↑qs+3)) (n+↑qs+2) (λ i h=>ZH n qs i h/\Zo h (n+↑qs) .none Ff) where
 mem:=List.mem_range'_1.mpr (!_)
 obj:=λ i h bC b hb=>by
  let(Z,hz):=bC;let(os,_,hO):=Z.to;have:=List.mem_range'_1.mp hb;exact aFM Z.t hO hz b this.1 (!_)
 keep:=λ i h h' bC q=>by
  let(Z,hz):=bC;have q':∀ c o,n<=c->c<=n+↑qs+2->h.get? c=qz o->h'.get? c=qz o:=λ c o a b e=>q c (List.mem_range'_1.mpr (!_)) o e
  let(os,ol,hO):=Z.to;have hz':Zo h' (n+↑qs) .none Ff:=q' _ _ (!_) (!_) hz;exact((Z.t.keep λ c o a b=>q' c o a (!_),(os,ol,q' _ _ (!_) (!_) hO,),_,_,hz',.inl (rfl,rfl,),),hz',)
 item:=λ X hP hW hK hc i aB s σ H E I hf bC hg=>by
  let(Z,hz):=bC;subst hP hW hK;refine aMI (I.ok.hd hc) h0 h3 hl I Z hg λ h' tk us ys rv yl hy Z' hT fr hzo=>(_,rfl,wpAny_letOwnedTupleGo_zip (hzo hz) λ h₂ hz₂ hs₂=>?_,)
  replace hs₂:yDi (n+↑qs+2) h' h₂:=hs₂;have zl:n+↑qs+2<s.heap.objs.size:=xAa hz;let(os,ol,hO):=Z'.to;refine(.ref s.heap.objs.size,_,@aHD _ _ _ _ s h₂ _ s.heap.objs.size (.tup ys) tk I hf (λ c o hb e'=>?_) (yAc _) (xAh (show ↑ys<=1000000 by omega) vR,us,rv,(_,hs₂.extBut _ _ (yHc zl) hT,rfl,0,rfl,),),rfl,(s.heap.objs.size,ys,I.fresh,rfl,rfl,yl,hy,),((Z'.t.keep λ c o _ b=>hs₂.extBut c o (na (!_)),(os,ol,hs₂.extBut _ _ (na (!_)) hO,),_,_,hz₂,.inl (rfl,rfl,),),hz₂,),λ c hb=>?_,)
  .rw[yHs] at hb;exact hs₂.extBut c o (na (!_)) (fr c o (!_) e')
  .have:=List.mem_range'_1.mp hb;rw[bW (na (!_))];exact(hf c hb).1
 done:=λ X hP hW hK hc i aB s σ H E I hf bC hs=>by
  let(Z,hz):=bC;subst hP hW hK;exact aMJ (I.ok.hd hc) h0 h3 hl I Z hf hs λ h' tk I'=>(rfl,I',)
 self:=λ A i s Q E h hq=>yz h.2 hq
noncomputable abbrev Zr(qs:Zq):List qx:=qs.map λ q=>.ref q.2
def aPI{E:qx -> qv -> Prop}{s:qv}{vs:Nat -> List qx}{Q:List qx->qv->Prop}(sq:∀ i q,qs[i]?=qz q->gL q.1 s.heap q.2 (vs i).toArray)(h:∀ h',h'.objs.size=s.heap.objs.size+↑qs->(∀ (i:Nat) q,qs[i]?=qz q->nI q.1 h' (s.heap.objs.size+i) q.2 0)->(∀ c o,s.heap.get? c=qz o->h'.get? c=qz o)->Q ((yCl s.heap.objs.size ↑qs).map .ref) {s with heap:=h' }) :
 qu (model prog w) A (yHb (Zr qs)) Q E s:=by
 unfold yHb;refine wB (wpAny_forIn_list _ (λ cM b s'=>∃ j h,j<=↑qs/\cM=(Zr qs).drop j/\b=((yCl s.heap.objs.size j).map Value.ref).toArray/\s'={s with heap:=h }/\h.objs.size=s.heap.objs.size+j/\(∀ (i:Nat) q,qs[i]?=qz q->i<j->nI q.1 h (s.heap.objs.size+i) q.2 0)/\∀ c o,s.heap.get? c=qz o->h.get? c=qz o) _ ?_ ?_ _ _ ?_)
 .rintro x cM b s' ⟨j,h,jl,e1,e2,e3,e4,hi,k⟩;subst e2 e3;let(e5,e6):=aFl e1;rw[yAe] at e5;cases eq:qs[j]? with
  |none=>rw[eq] at e5;cases e5
  |some q=>
    rw[eq] at e5;cases e5;refine wB (zu (aQk (gL.at (sq j q eq) (k _)) (wP (j+1,_,nB eq,e6,?_,rfl,?_,λ i q' eq' il=>?_,λ c o e=>hpS _ (k c o e),))))
    .show Array.push _ (Value.ref h.objs.size)=_;rw[e4,List.range'_1_concat];simp
    .rw[yHm];show h.objs.size+1=_;omega
    .by_cases c:i=j
     .subst c;rw[eq] at eq';cases eq';rw[<- e4];cases q.1<;>exact(_,xAd _ rfl,rfl,rfl,)
     .exact(hi i q' eq' (!_)).at λ o e=>hpS _ e
 .rintro b s' ⟨j,h',jl,e1,e2,e3,e4,hi,k⟩;subst e2 e3;have:j=↑qs:=by have:=congrArg yGs e1;simp at this;omega
  subst this;exact wP (h h' e4 (λ i q e=>hi i q e (nB e)) k)
 .exact(0,s.heap,yCd _,rfl,rfl,rfl,rfl,λ _ _ _ z=>absurd z (yDn _),λ _ _ e=>e,)
def aDy(h:Heap)(o:Obj)(hr:o.isFreed=Ff):∃ h',h.push o=h'/\h'.get? h.objs.size=qz o/\h'.objs.size=h.objs.size+1/\∀ c u,h.get? c=qz u->h'.get? c=qz u:=(_,rfl,xAd _ hr,yHm ..,λ _ _ e=>hpS _ e,)
def aS8{qs:Zq}{vs:Nat -> List qx}(h3:↑qs<=3):Meets (Builtin.«zip.__new__» (.type "zip" :: Zr qs,[],)) (λ _ R s=>(∀ i q,qs[i]?=qz q->gL q.1 s.heap q.2 (vs i).toArray)/\∀ h',ZH s.heap.objs.size qs 0 h'->Zo h' (s.heap.objs.size+↑qs) .none Ff->h'.objs.size=s.heap.objs.size+↑qs+3 ->
 (∀ c o,s.heap.get? c=qz o->h'.get? c=qz o)->R (.ok (.ret (.ref (s.heap.objs.size+↑qs+2)))) {s with heap:=h' }):=
 .of_wp λ prog w A R s h=>by
  let(hp,g,d,tk,os):=s;let(sq,h):=h;have hsub:=sub_zip
  wp_walk using aPI sq
  intro h' sz it k;dsimp only at sz it k sq h;let(h1,e1,g1,z1,k1):=aDy h' {cls:=.type "tuple",data:=.seq ((yCl hp.objs.size ↑qs).map Value.ref).toArray } rfl;let(h2,e2,g2,z2,k2):=aDy h1 {cls:=.type "tuple",data:=.seq (((yCl hp.objs.size ↑qs).map Value.ref).map λ _=>Value.none).toArray } rfl;have l3:∀ l:List qx,↑l=↑qs->↑l<=qk:=λ l e=>xAh (show ↑l<=1000000 by omega) vR
  refine wB (wpAny_newTuple ?_ (l3 _ (by simp)));dsimp only;rw[e1];refine wB (wpAny_newTuple ?_ (l3 _ (by simp)));dsimp only;rw[e2]
  wp_walk
  let(h4,e4,g4,z4,k4):=aDy h2 {cls:=.type "zip",data:=.fields (Builtin.SmallTypes.ownedTupleFields++[Value.bool Ff,Value.ref h'.objs.size,Value.ref h1.objs.size]).toArray } rfl;refine(_,rfl,?_,);rw[e4];rw[z2,z1,sz] at g4 z4 ⊢;rw[z1,sz] at g2;rw[sz] at g1;have hz:Zo h4 (hp.objs.size+↑qs) .none Ff:=g4;exact h h4 ((λ i q e=>(it i q e).at λ o e=>k4 _ _ (k2 _ _ (k1 _ _ e)),k4 _ _ (k2 _ _ g1),),(_,by simp,k4 _ _ g2,),_,_,hz,.inl (rfl,rfl,),) hz z4 λ c o e=>k4 _ _ (k2 _ _ (k1 _ _ (k c o e)))
def zok:∀ qs:Zq,2<=↑qs->↑qs<=3->checkTypeCall "zip" ⟨Zr qs,[]⟩=pure ()/\checkBuiltinCall "zip.__new__" ⟨.type "zip" :: Zr qs,[]⟩=pure ()/\∀ obj,argsOk "object.__init__" ⟨obj::Zr qs,[]⟩
 |[_,_],_,_=>(F.typeCall_zip_2 _ _,F.newCall_zip_2 _ _,λ obj=>F.args_object_init_3 obj _ _,)
 | [_,_,_],_,_=>⟨by kernel_rfl,by kernel_rfl,λ _=>by
   unfold argsOk;rw[signature?_of (id:="object.__init__") (n:=['_','_','t','i','n','i','_','_']) (o:=['t','c','e','j','b','o']) (by kernel_rfl) F.owner_object];kernel_rfl⟩
def aR0{E:qx -> qv -> Prop}{s:qv}{qs:Zq}{vs:Nat -> List qx}{Q:qx->qv->Prop}(h2:2<=↑qs)(h3:↑qs<=3)(sq:∀ i q,qs[i]?=qz q->gL q.1 s.heap q.2 (vs i).toArray)(h:∀ h',ZH s.heap.objs.size qs 0 h'->Zo h' (s.heap.objs.size+↑qs) .none Ff->h'.objs.size=s.heap.objs.size+↑qs+3->(∀ c o,s.heap.get? c=qz o->h'.get? c=qz o)->Q (.ref (s.heap.objs.size+↑qs+2)) {s with heap:=h' }) :
 qu (model prog w) A (call (.type "zip") (Zr qs)) Q E s:=by let(o1,o2,o3):=zok qs h2 h3;exact callType_new F.called_zip (·) o1 o2 o3 F.entry_zip_new (@aS8 _ vs h3) (sq,λ h' Z hz sz k=>((_,hz,rfl,),h h' Z hz sz k,),)
def zS(K:FrG)(ta:TA):TI:=λ σ H R=>ta σ H λ vs H1=>∃ qs:Zq,vs=qs.map (λ q=>.ref q.2)/\2<=↑qs/\↑qs<=3/\(∀ q∈qs,∃ xs,Sq q.1 K H1 q.2 xs)/\R (zL K qs) H1
def aME{Q:qx->qv->Prop}{E:qx->qv->Prop}{qs:Zq}(I:Inv X aB σ H s)(r:bF (qs.map λ q=>.ref q.2) us)(h2:2<=↑qs)(h3:↑qs<=3)(sq:∀ q∈qs,∃ xs,Sq q.1 X.K H q.2 xs)(h:∀ h',Inv X aB σ H {s with heap:=h' }->(∀ q∈qs,q.2<s.heap.objs.size)->ZH s.heap.objs.size qs 0 h'->Zo h' (s.heap.objs.size+↑qs) .none Ff->h'.objs.size=s.heap.objs.size+↑qs+3->(∀ b∈yCl s.heap.objs.size (↑qs+3),gW X aB H b)->Q (.ref (s.heap.objs.size+↑qs+2)) {s with heap:=h' }) :
 qu (model X.prog X.w) A (call (.type "zip") us) Q E s:=by
 have e:∀ {qs:Zq}{us:List qx},bF (qs.map λ q=>.ref q.2) us->us=Zr qs:=λ {qs}=>by
  induction qs with
  |nil=>intro us r;cases r;rfl
  |cons q qs ih=>intro us r;cases r with|cons a b=>cases a;rw[ih b];rfl
 rw[e r];have hl:∀ q∈qs,q.2<s.heap.objs.size:=λ q m=>by
  let(xs,sx):=sq q m;let(us,_,pl):=aMP I sx;exact pl.lt
 let(vs,v1,_):=aFG (k:=0) I hl λ q m=>(sq q m).imp λ xs a=>(a,yCd _,)
 refine aR0 h2 h3 (λ i q e=>(v1 i q e).1) λ h' Z hz sz k=>h h' (I.kept (t':=s.toks) k) hl Z hz sz λ b hb=>?_
 have:=(List.mem_range'_1.mp hb).1;exact I.fpOk this (I.hok.fresh this)
def aKs{ta:TA}(hg:Gl X "zip")(hm:X.mg "zip" = qj)(ha:PA X (a::es) ta)(hs:qo (a::es) X.env=(Ff,eval a X.env)::qo es X.env)(hs2:((backTo pos (qo es X.env)).any λ x=>x.fst)=Ff):PI X (.Tuple elts k pp) (.Call (.Name "zip" p) (a::es) [] pos) (zS X.K ta):=by intro aB s σ H R I h;refine Call_ (nT I hg hm boot_zip (yBl (bJ (ha pos aB s σ H _ I h) λ us s1 hq=>?_) hs hs2));let(vs,H1,I1,r1,q1):=hq;let(qs,rfl,h2,h3,sq,q):=q1;exact aME I1 r1 h2 h3 sq λ h' I2 hl Z hz _ fp=>yz hz (_,_,_,_,H1,rfl,I2,aSD _ qs (!_) h3 hl,(Z,hz,),fp,q,)
def aJA{K:FrG}:∀ {ds:Li D}{ys:Li V},↑ds=↑ys->(∀ (j:Nat) d y,ds[j]?=qz d->ys[j]?=qz y->Den K F d y)->DenL K F ds ys
 |[],[],_,_=>.nil|d::ds,y::ys,h,k=>.cons (k 0 d y rfl rfl) (aJA (Nat.succ.inj h) λ j=>k (j+1))
structure Zd(K:FrG)(F:Hp)(qs:Zq)(dss:List (List D))(zs:List D):Prop where
 len:↑dss=↑qs
 sq:∀ (j:Nat) q ds,qs[j]?=qz q->dss[j]?=qz ds->∃ xs,Sq q.1 K F q.2 xs/\DenL K F ds xs
 le:∀ ds∈dss,↑zs<=↑ds
 eq:∃ ds∈dss,↑zs=↑ds
 get:∀ (i:Nat) d,zs[i]?=qz d->∃ es,d=.tuple es/\dss.map (·[i]?)=es.map qz
section
variable {K:FrG}{F F1 H:Hp}{qs:Zq}{dss:List (List D)}{zs:List D}
def Zd.go(Z:Zd K F qs dss zs)(s:cE F H)(h:k<=↑zs):∀ q∈qs,∃ xs,Sq q.1 K H q.2 xs/\k<=↑xs:=λ q m=>by
 let(j,jl,e):=yGv m;have e2:=yAb (l:=dss) (Z.len▸jl);let(xs,sq,dl):=Z.sq j q _ (List.getElem?_eq_some_iff.mpr (jl,e,)) e2;exact(xs,aEg s sq,xAh h (dl.length▸Z.le _ (xAk e2)),)
def Zd.stop(Z:Zd K F qs dss zs)(s:cE F H):(zL K qs).stop ↑zs H:=by refine(Z.go s (yAc _),?_,);let(ds,m,el):=Z.eq;let(j,jl,e):=yGv m;have e2:=yAb (l:=qs) (Z.len▸jl);let(xs,sq,dl):=Z.sq j _ ds e2 (List.getElem?_eq_some_iff.mpr (jl,e,));exact(_,xAk e2,xs,aEg s sq,el.trans dl.length,)
def Zd.den(Z:Zd K F qs dss zs)(s1:cE F F1)(s2:cE F1 H){i:Nat}{d:D}{p:qw}{ys:Li V}(e:zs[i]?=qz d)(hp:H p=qj)(yl:↑ys=↑qs)(hy:∀ (j:Nat) q xs,qs[j]?=qz q->Sq q.1 K H q.2 xs->xs[i]?=ys[j]?):Den K (bL F1 p (.tup ys)) d (.ref p):=by
 let(es,rfl,ee):=Z.get i d e;have el:↑es=↑dss:=by have:=congrArg yGs ee;simpa using this.symm
 refine .tup (cZ.of dH) (aJA (by rw[el,yl,Z.len]) λ j d y hd hy'=>?_);have jl:j<↑dss:=el▸nB hd;have e2:=yAb (l:=qs) (Z.len▸jl);let(xs,sq,dl):=Z.sq j _ _ e2 (yAb jl);have e3:=congrArg (·[j]?) ee;simp only[yAe,yAb jl,hd,yEw,Option.some.injEq] at e3;let(x,e4,dx):=dl.get e3;rw[hy j _ xs e2 (aEg (s1.trans s2) sq),hy'] at e4;cases e4;exact dx.mono (s1.trans (gO (s2.free hp)))
def aKX(Z:Zd K F qs dss zs):Wk K F L (zL K qs) zs where
 go:=λ i H s hi=>Z.go s hi
 stop:=λ H s=>Z.stop s
 yld:=λ i H F1 L1 S x H' d g R e y=>by
  let(p,ys,hp,rfl,rfl,yl,hy):=y;exact(_,gO (R.sub.free hp),R.new hp,Z.den g.f R.sub e hp yl hy,)
def qB:W->Oz (Li D)
 |.d (Lz ds)=>qz ds|.d (Tz ds)=>qz ds|_=>qj
def qS(h:qB w=qz ds)(d:eX K F L w v):∃ q:Bool×qw,v=.ref q.2/\∃ xs,Sq q.1 K F q.2 xs/\DenL K F ds xs:=by
 unfold qB at h;split at h
 .cases h;cases (show Den K F (.list ds) v from d) with|lst sq dl=>exact((Ff,_),rfl,_,sq,dl,)
 .cases h;cases (show Den K F (.tuple ds) v from d) with|tup sq dl=>exact((Tt,_),rfl,_,sq,dl,)
 .cases h
end
def gU:Li D->Li D->Li D
 |a::as,b::bs=>.tuple [a,b]::gU as bs|_,_=>[]
def aAG:∀ as bs:Li D,(gU as bs).length=min ↑as ↑bs
 |[],_=>by simp[gU]|_::_,[]=>by simp[gU]|_::as,_::bs=>by simp[gU,aAG as bs]
def aDp:∀ (as bs:Li D) (i:Nat) (d:D),(gU as bs)[i]?=qz d->∃ a b,as[i]?=qz a/\bs[i]?=qz b/\d=.tuple [a,b]
 |[],_,i,d,h=>by simp[gU] at h|_::_,[],i,d,h=>by simp[gU] at h|a::as,b::bs,0,d,h=>by simp[gU] at h;exact(a,b,rfl,rfl,h.symm,)|a::as,b::bs,i+1,d,h=>aDp as bs i d h
def gR:Li D->Li D->Li D->Li D
 |a::as,b::bs,c::cs=>.tuple [a,b,c]::gR as bs cs|_,_,_=>[]
def aCX:∀ as bs cs:Li D,(gR as bs cs).length=min ↑as (min ↑bs ↑cs)
 |[],_,_=>by simp[gR]|_::_,[],_=>by simp[gR]|_::_,_::_,[]=>by simp[gR]|_::as,_::bs,_::cs=>by simp[gR,aCX as bs cs]
def aHS:∀ (as bs cs:Li D) (i:Nat) (d:D),(gR as bs cs)[i]?=qz d->∃ a b c,as[i]?=qz a/\bs[i]?=qz b/\cs[i]?=qz c/\d=.tuple [a,b,c]
 |[],_,_,i,d,h=>by simp[gR] at h|_::_,[],_,i,d,h=>by simp[gR] at h|_::_,_::_,[],i,d,h=>by simp[gR] at h|a::as,b::bs,c::cs,0,d,h=>by simp[gR] at h;exact(a,b,c,rfl,rfl,rfl,h.symm,)|a::as,b::bs,c::cs,i+1,d,h=>aHS as bs cs i d h
def aRA(x y z:Li D)(ds:Li D)(h:ds∈[x,y,z]):(gR x y z).length<=↑ds:=by
 rw[aCX];simp only[yDf,yDu,or_false] at h;rcases h with rfl|rfl|rfl
 .exact yCs _ _
 .exact xAh (yDs _ _) (yCs _ _)
 .exact xAh (yDs _ _) (yDs _ _)
def aRX(x y z:Li D):∃ ds∈[x,y,z],(gR x y z).length=↑ds:=by
 rw[aCX];rcases yIh x.length (min y.length z.length) with q|q
 .exact(x,by simp,yDq q,)
 rw[yDv q];rcases yIh y.length z.length with q|q
 .exact(y,by simp,yDq q,)
 .exact(z,by simp,yDv q,)
def aLk{F:Hp}(j:Nat)(q:Bool×qw)(ds:Li D)(h:([]:Zq)[j]?=qz q)(_:([]:Li (Li D))[j]?=qz ds):∃ xs,Sq q.1 K F q.2 xs/\DenL K F ds xs:=by simp at h
def wU{F:Hp}{q0:Bool×qw}{ds0:Li D}{qs:Zq}{dss:Li (Li D)}(h:∃ xs,Sq q0.1 K F q0.2 xs/\DenL K F ds0 xs)(t:∀ (j:Nat) q ds,qs[j]?=qz q->dss[j]?=qz ds->∃ xs,Sq q.1 K F q.2 xs/\DenL K F ds xs) :
 ∀ (j:Nat) q ds,(q0::qs)[j]?=qz q->(ds0::dss)[j]?=qz ds->∃ xs,Sq q.1 K F q.2 xs/\DenL K F ds xs
 |0,_,_,e1,e2=>by cases e1;cases e2;exact h|j+1,q,ds,e1,e2=>t j q ds e1 e2
def aFb(Z:Zd K F qs dss zs)(s:cE F H):∀ q∈qs,∃ xs,Sq q.1 K H q.2 xs:=λ q m=>(Z.go s (yCd _) q m).imp λ xs a=>a.1
def zd2{q1 q2:Bool×qw}(h1:∃ xs,Sq q1.1 K F q1.2 xs/\DenL K F as xs)(h2:∃ xs,Sq q2.1 K F q2.2 xs/\DenL K F bs xs):Zd K F [q1,q2] [as,bs] (gU as bs):=
 (rfl,wU h1 (wU h2 aLk),by simp[aAG];omega,by simp[aAG];omega,λ i d e=>by let(a,b,e1,e2,rfl):=aDp as bs i d e;exact(_,rfl,by simp[e1,e2],),)
section
variable {K:FrG}{fa fb fc:FE}(σ:L2.St)(H:Hp)(Rr:It->Hp->Prop)
def sF(fa fb:FE):FL:=λ env S=>(fa env S).bind λ p=>(fb env p.2).bind λ q=>(qB p.1).bind λ ds=>(qB q.1).bind λ es=>qz (gU ds es,q.2)
theorem aZx(h:kC K (sF fa fb) σ H Rr):zS K (fG K (dU fa (dU fb iS))) σ H Rr:=by
 let(F,L,S,env,ds,S',R,E,e,q):=h;let((w1,S1),e1,e):=aQ e;let((w2,S2),e2,e):=aQ e;let(ds1,e3,e):=aQ e;let(ds2,e4,e):=aQ e;dsimp only at e e2 e3 e4;cases e;refine(F,L,S,env,[w1,w2],S',R,E,by unfold dU;simp only[e1,e2,iS,yDa],λ F1 L1 H1 vs g1 R1 d1=>?_,);obtain - | ⟨da,- | ⟨db,- | -⟩⟩:=d1
 let(q1,rfl,h1):=qS e3 da;let(q2,rfl,h2):=qS e4 db;have Z:=zd2 h1 h2;exact([q1,q2],rfl,by simp,by simp,aFb Z R1.sub,q F1 L1 H1 _ g1 R1 (aKX Z),)
def aBW(fa fb fc:FE):FL:=λ env S=>(fa env S).bind λ p=>(fb env p.2).bind λ q=>(fc env q.2).bind λ r=>(qB p.1).bind λ ds=>(qB q.1).bind λ es=>(qB r.1).bind λ gs=>qz (gR ds es gs,r.2)
theorem aVV(h:kC K (aBW fa fb fc) σ H Rr):zS K (fG K (dU fa (dU fb (dU fc iS)))) σ H Rr:=by
 let(F,L,S,env,ds,S',R,E,e,q):=h;let((w1,S1),e1,e):=aQ e;let((w2,S2),e2,e):=aQ e;let((w3,S3),e0,e):=aQ e;let(ds1,e3,e):=aQ e;let(ds2,e4,e):=aQ e;let(ds3,e5,e):=aQ e;dsimp only at e e2 e3 e4 e0 e5;cases e;refine(F,L,S,env,[w1,w2,w3],S',R,E,by unfold dU;simp only[e1,e2,e0,iS,yDa],λ F1 L1 H1 vs g1 R1 d1=>?_,);obtain - | ⟨da,- | ⟨db,- | ⟨dc,- | -⟩⟩⟩:=d1
 let(q1,rfl,h1):=qS e3 da;let(q2,rfl,h2):=qS e4 db;let(q3,rfl,h3):=qS e5 dc;have Z:Zd K F1 [q1,q2,q3] [ds1,ds2,ds3] (gR ds1 ds2 ds3):=(rfl,wU h1 (wU h2 (wU h3 aLk)),aRA _ _ _,aRX _ _ _,λ i d e=>by let(a,b,c,e1,e2,e3,rfl):=aHS _ _ _ i d e;exact(_,rfl,by simp[e1,e2,e3],),);exact([q1,q2,q3],rfl,by simp,by simp,aFb Z R1.sub,q F1 L1 H1 _ g1 R1 (aKX Z),)
end
section
variable {X:Cx}{elts:List qy}{k:Nat}{pp:Pos}{a b c:qy}{ta:TA}{p pos:Pos}(hg:Gl X "zip")(hm:X.mg "zip"=qj)
include hg hm
theorem aX4(ha:PA X [a,b] ta)(hs:qo [a,b] X.env=(Ff,eval a X.env)::qo [b] X.env)(hs2:qo [b] X.env=[(Ff,eval b X.env)]):PI X (.Tuple elts k pp) (.Call (.Name "zip" p) [a,b] [] pos) (zS X.K ta):=aKs hg hm ha hs (by rw[hs2];rfl)
theorem aUR(ha:PA X [a,b,c] ta)(hs:qo [a,b,c] X.env=(Ff,eval a X.env)::qo [b,c] X.env)(hs2:qo [b,c] X.env=(Ff,eval b X.env)::qo [c] X.env)(hs3:qo [c] X.env=[(Ff,eval c X.env)]):PI X (.Tuple elts k pp) (.Call (.Name "zip" p) [a,b,c] [] pos) (zS X.K ta):=aKs hg hm ha hs (by rw[hs2,hs3];rfl)
end
def Rel.relay(r:Rel K F L S H)(hF:F p=qj)(hL:p ∉ ad L):Rel K F L S (bL H p o):=by
 have ne:∀ {n:Nat}{a:qw}{b:Bool},L[n]?=qz (a,b)->a≠p:=λ e z=>hL (by rw[<- z];exact aEi e)
 refine(λ b u q=>by rw[bW (fJ q hF)];exact r.sub _ _ q,r.nd,r.len,λ n a ds e1 e2=>?_,λ n a ds e1 e2=>?_,λ n a b e=>?_,)
 .let(f,xs,e3,dl):=r.loc n a ds e1 e2;exact(f,xs,by rw[bW (ne e1)];exact e3,dl,)
 .let(f,xs,e3,dl):=r.dic n a ds e1 e2;exact(f,xs,e3,by rw[bW (ne e1)];exact dl,)
 .let(o,hx,hy):=r.tr n a b e;exact(o,by rw[bW (ne e)];exact hx,hy,)
def aIf(k:Den K F d v):∀ {ds:Li D}{xs:Li V},DenL K F ds xs->DenL K F (ds++[d]) (xs++[v])
 |_,_,.nil=>.cons k .nil|_,_,.cons a b=>.cons a (aIf k b)
structure ZW(X:Cx)(aB:List (qw×Obj))(σ:L2.St)(F1:Hp)(L1:Lx)(S1:aE)(SA:qw)(n:Nat)(qs:Zq)(ds:List D)(H F:Hp)(vs:List V)(s:qv):Prop where
 inv:Inv X aB σ H s
 same:cE F1 F
 rel:Rel X.K F L1 S1 H
 free:F SA=qj
 lst:H SA=qz (.lst vs)
 den:DenL X.K F ds vs
 fp:∀ c∈yCl n (↑qs+3),gW X aB H c
def aRK{X:Cx}{F1:Hp}{SA:qw}{qs:Zq}{A:zv}{R:Result->qv->Prop}(hh:A.in1.in1.handled=qj)(h0:0<↑qs)(h3:↑qs<=3)(hq:∀ q∈qs,q.2<n)(Z:Zd X.K F1 qs dss zs)(hL:SA ∉ ad L1)(dE:↑zs<=1000000)(hR:∀ s' H' F' vs',ZW X aB σ F1 L1 S1 SA n qs zs H' F' vs' s'->R (.ok (.ret res)) s') :
 ∀ (k i:Nat) (s:qv) (H F:Hp) (vs:Li V),↑zs-i=k->i<=↑zs->ZW X aB σ F1 L1 S1 SA n qs (zs.take i) H F vs s->ZH n qs i s.heap ->
 ju (model X.prog X.w) A (.builtin "list.extend.loop" ([.ref SA,.ref (n+↑qs+2),res],[],)) R s:=by
 intro k
 induction k with
 |zero=>
   intro i s H F vs hk hi hw hz;have hin:i=↑zs:=by omega
   refine codeAny_builtin yHn ?_;rw[Around.under_plainId yEe _];show qu _ A.in1 (yj (.ref (n+↑qs+2)) >>= _) _ _ s;subst hin;rw[yAf] at hw;exact wB (aMJ hh h0 h3 hq hw.inv hz hw.fp (Z.stop (hw.same.trans hw.rel.sub)) λ h' tk I'=>wP (hR _ H F vs (I',hw.same,hw.rel,hw.free,hw.lst,hw.den,hw.fp,)))
 |succ k ih=>
   intro i s H F vs hk hi hw hz;have hlt:i<↑zs:=by omega
   refine codeAny_builtin yHn ?_;rw[Around.under_plainId yEe _];show qu _ A.in1 (yj (.ref (n+↑qs+2)) >>= _) _ _ s;refine wB (aMI hh h0 h3 hq hw.inv hz (Z.go (hw.same.trans hw.rel.sub) hlt) λ h' tk us ys rv yl hy Z' hT fr _=>?_);have hp:H s.heap.objs.size=qj:=hw.inv.fresh;have hF:F s.heap.objs.size=qj:=hw.rel.sub.free hp;have neS:SA≠s.heap.objs.size:=λ q=>by rw[<- q,hw.lst] at hp;cases hp
   let(os,ol,hO):=Z'.to;let(f,g,hzo,_):=Z'.z;have I2:Inv X aB σ (bL H s.heap.objs.size (.tup ys)) {s with heap:=h',toks:=tk }:=aHD (s:=s) hw.inv hw.fp (λ c o hb e'=>fr c o (by rw[yHs] at hb;omega) e') (yAc _) (xAh (show ↑ys<=1000000 by omega) vR,us,rv,(_,hT,rfl,0,rfl,),);have hS:bL H s.heap.objs.size (.tup ys) SA=qz (.lst vs):=by rw[bW neS];exact hw.lst
   let(hv,aI,m,rl,hl,e):=I2.lstM hS;have vl:↑vs=i:=by
    have:=hw.den.length;rw[yBj] at this;omega
   have hs:1000000<=qk:=vR;show qu _ A.in1 (updateSeq SA (·.push (.ref s.heap.objs.size)) >>= _) _ _ _;have ne:∀ c∈yCl n (↑qs+3),c≠SA:=λ c hc q=>by
    have:=(hw.fp c hc).1;rw[q,hw.lst] at this;cases this
   have kp:∀ c o,c≠SA->h'.get? c=qz o->(h'.update SA (Obj.mapSeq (·.push (.ref s.heap.objs.size)))).get? c=qz o:=λ c o hc q=>(yCh _ _ (Ne.symm hc)).trans q
   have kr:∀ c o,n<=c->c<=n+↑qs+2->h'.get? c=qz o->(h'.update SA (Obj.mapSeq (·.push (.ref s.heap.objs.size)))).get? c=qz o:=λ c o a b=>kp c o (ne c (List.mem_range'_1.mpr (!_)))
   refine wB (vx e rfl (wP (plainId_quiet yEe _,ih (i+1) _ (bL (bL H s.heap.objs.size (.tup ys)) SA (.lst (vs++[.ref s.heap.objs.size]))) (bL F s.heap.objs.size (.tup ys)) _ (!_) hlt (?_,hw.same.trans (gO hF),Rel.relay (hw.rel.new hp) (by rw[bW neS];exact hw.free) hL,by rw[bW neS];exact hw.free,dH,?_,λ c hc=>(?_,(hw.fp c hc).2,),) (Z'.t.keep λ c o a b=>kr c o a (!_),(os,ol,kr _ _ (!_) (!_) hO,),?_,),)) (by simp;omega) (by simp;omega))
   .exact I2.lset (its':=aI++[.ref s.heap.objs.size]) hS e (by simp) (bF.append rl (.cons (show bB (.ref s.heap.objs.size) (Value.ref s.heap.objs.size) from rfl) .nil)) (by rw[xAn];show ↑vs+1<=_;omega)
   .rw[List.take_succ_eq_append_getElem hlt];exact aIf (Z.den hw.same hw.rel.sub (yAb hlt) hp yl hy) (hw.den.mono (gO hF))
   .have c1:c<s.heap.objs.size:=by
     let(os,_,hO):=hz.to;let(_,_,hzo,_):=hz.z;have:=List.mem_range'_1.mp hc;let(o,e,_):=aFM hz.t hO hzo c this.1 (!_);exact xAa e
    rw[bW (ne c hc),bW (xAj c1)];exact(hw.fp c hc).1
   .let(f,g,hzo,hf):=Z'.z;refine(f,g,kr _ _ (!_) (!_) hzo,hf.imp_right λ hfa=>?_,);let(a,ea,o,eo):=hfa;refine(a,ea,?_,);by_cases c1:a=SA
    .subst c1;exact(_,PySem.IsL.update e _,)
    .exact(o,kp a o c1 eo,)
def aP4:typeLookup (.type "zip") "__len__" = pure qj:=by rw[typeLookup_type,builtinLookup_eq_fast];kernel_rfl
def aPo:typeLookup (.type "zip") "__length_hint__" = pure qj:=by rw[typeLookup_type,builtinLookup_eq_fast];kernel_rfl
def aP5{s:qv}{R:Result -> qv -> Prop}{TI TO:qw}{f0:qx}(S:qw)(res:qx)(c₀:Nat)(hz:IsZip s.heap z TI TO f0)(hSz:S≠z)(hS:s.heap.get? S=qz {cls:=.type "list",data:=.seq #[] c₀ })(hR:∀ h' c,(∀ b o,b≠S->s.heap.get? b=qz o->h'.get? b=qz o)->h'.get? S=qz {cls:=.type "list",data:=.seq #[] c }->ju (model prog w) A (.builtin "list.extend.loop" ([.ref S,.ref z,res],[],)) R {s with heap:=h' }) :
 qu (model prog w) A.in1 (yDr (.ref S) (.ref z) res)
  (λ cS s'=>match cS with|.done f=>R (.ok f) s'|.again c'=>c'.quiet=Tt/\ju (model prog w) A c' R s') (λ e s'=>R (.error e) s') s:=by
 have hT:s.TypeIs (.ref z) "zip":=(_,hz,rfl,);unfold yDr;refine wB (wpAny_typeOf hT ?_);have h1:yHt (.ref S) (.ref z)=Ff:=by simp[yHt,hSz]
 have h2:(Value.type "zip" == Value.type "list")=Ff:=by decide
 have h3:(Value.type "zip" == Value.type "tuple")=Ff:=by decide
 simp only[h1,h2,h3,yFu,yAv,if_false];refine wB (yz hz ?_);refine wB (zu ?_);unfold Builtin.List.listLengthHint;refine wB (vo hT aP4 ?_);show qu _ A.in1 (specialOf (Value.ref z) (Str.ofString "__length_hint__") >>= _) _ _ _;refine wB (vo hT aPo ?_);refine wP ?_;show qu _ A.in1 (rule "list.extend.makes-room" >>= λ _=>Builtin.List.listTouch (.ref S) >>= λ _=>
  again (.builtin "list.extend.loop" ([.ref S,.ref z,res],[],))) _ _ _
 refine wB (wj ?_);refine wB ?_;show qu _ A.in1 (updateSeq S (·.push .none) >>= λ _=>updateSeq S (·.pop)) _ _ _;refine wB (vx hS rfl ?_);have hS₂:=yCq (Obj.mapSeq (·.push Value.none)) hS rfl;refine vx (hz:=by seq_fits) hS₂ rfl ?_;have hS₃:=yCq (Obj.mapSeq (·.pop)) hS₂ rfl;have oth:∀ b o,b≠S->s.heap.get? b=qz o->((s.heap.update S (Obj.mapSeq (·.push Value.none))).update S (Obj.mapSeq (·.pop))).get? b=qz o:=
  λ b o hb e=>(yCh _ _ (Ne.symm hb)).trans ((yCh _ _ (Ne.symm hb)).trans e)
 exact wP (plainId_quiet yEe _,hR _ _ oth hS₃,)
def aSq{s:qv}{R:Result -> qv -> Prop}{TI TO:qw}{f0:qx}(S:qw)(hz:IsZip s.heap z TI TO f0)(hSz:S≠z)(hS:s.heap.get? S=qz {cls:=.type "list",data:=.seq #[] })(hR:∀ h' c,(∀ b o,b≠S->s.heap.get? b=qz o->h'.get? b=qz o)->h'.get? S=qz {cls:=.type "list",data:=.seq #[] c }->ju (model prog w) A (.builtin "list.extend.loop" ([.ref S,.ref z,.none],[],)) R {s with heap:=h' }) :
 qu (model prog w) A.in1 (Builtin.«list.__init__» ([.ref S,.ref z],[],))
  (λ cS s'=>match cS with|.done f=>R (.ok f) s'|.again c'=>c'.quiet=Tt/\ju (model prog w) A c' R s') (λ e s'=>R (.error e) s') s:=by
 show qu _ A.in1 (yIc (.ref S) >>= λ old=>Builtin.List.listUpdate (.ref S) (λ _=>#[]) >>= λ _=>letGo old.toList.reverse >>= λ _=>yDr (.ref S) (.ref z) .none) _ _ s;refine wB ?_;unfold yIc;refine wB (jk hS rfl (wP ?_));show qu _ A.in1 (updateSeq S (λ _=>#[]) >>= λ _=>letGo (#[]:Array qx).toList.reverse >>= λ _=>yDr (.ref S) (.ref z) .none) _ _ s;have hS2:=yCq (Obj.mapSeq (λ _=>(#[]:Array qx))) hS rfl;have oth:∀ b o,b≠S->s.heap.get? b=qz o->(s.heap.update S (Obj.mapSeq (λ _=>(#[]:Array qx)))).get? b=qz o:=λ b o hb e=>(yCh _ _ (Ne.symm hb)).trans e
 refine wB (vx hS rfl (wB (wpAny_letGo ?_)));exact aP5 S .none _ (oth _ _ (Ne.symm hSz) hz) hSz hS2 λ h' c hk hS'=>hR h' c (λ b o hb e=>hk b o hb (oth b o hb e)) hS'
def aOW{A:zv}{E:qx -> qv -> Prop}{s:qv}{TI TO:qw}{f0:qx}{Q:qx->qv->Prop}(hz:IsZip s.heap z TI TO f0)(hQ:∀ h' c (R:Result->qv->Prop),(∀ b o,s.heap.get? b=qz o->h'.get? b=qz o)->h'.get? s.heap.objs.size=qz {cls:=.type "list",data:=.seq #[] c }->(∀ s',Q (.ref s.heap.objs.size) s'->R (.ok (.ret .none)) s')->ju (model prog w) A.in1 (.builtin "list.extend.loop" ⟨[.ref s.heap.objs.size,.ref z,.none],[]⟩) R {s with heap:=h' }) :
 qu (model prog w) A (call (.type "list") [.ref z]) Q E s:=by
 have hSz:s.heap.objs.size≠z:=yHc (xAa hz);have hS:(s.heap.push {cls:=.type "list",data:=.seq #[] }).get? s.heap.objs.size=qz {cls:=.type "list",data:=.seq #[] }:=xAd _ rfl;refine callType_codes (Q₁:=λ ob s1=>ob=.ref s.heap.objs.size/\s1={s with heap:=s.heap.push {cls:=.type "list",data:=.seq #[] } }) PySem.F.called_list (PySem.F.typeCall_list_1 _) PySem.F.entry_list_init (code_list_new _ (rfl,rfl,)) λ ob s1 h1=>?_
 let(rfl,rfl):=h1;refine((_,hS,rfl,),PySem.F.args_list_init_2 _ _,aSq _ (hpS _ hz) hSz hS λ h' c hk hS'=>?_,);exact hQ h' c _ (λ b o e=>hk b o (xAj (xAa e)) (hpS _ e)) hS' λ s' q=>(rfl,q,)
def xX(fa fb:FE):FL:=aNu (sF fa fb)
def aVN{fa fb:FE}(ha:PE X a (aX X.K fa))(hb:PE X b (aX X.K fb))(hc:X.calm=Tt)(hg:Gl X "list")(hm:X.mg "list" = qj)(hg2:Gl X "zip")(hm2:X.mg "zip" = qj)(hs:qo [a,b] X.env=(Ff,eval a X.env)::qo [b] X.env)(hs2:qo [b] X.env=[(Ff,eval b X.env)]):PE X (.Call (.Name "list" p) [.Call (.Name "zip" p2) [a,b] [] pos2] [] pos) (kA X.K (xX fa fb)):=by
 rintro aB s σ H Q I ⟨F,L,S,env,ds,S',R,E,e,q⟩;let((ds',S1'),e0,e):=aQ e;let((w1,S1),e1,e2):=aQ e0;let((w2,S2),e3,e4):=aQ e2;let(ds1,e5,e6):=aQ e4;let(ds2,e7,e8):=aQ e6;dsimp only at e e3 e5 e7;cases e8;split at e
 .rename_i dE;cases e;refine xy (nT I hg hm (show xo "list" = qz (.type "list") by decide +kernel) ?_);refine yBl ?_ rfl rfl;show qu _ _ (spliced ((Ff,eval (.Call (.Name "zip" p2) [a,b] [] pos2) X.env)::[])) _ _ s;refine Calls.spliced_cons ?_;refine xy (nT I hg2 hm2 boot_zip ?_);refine yBl ?_ hs (by rw[hs2];rfl)
  refine bJ (mN ha (mN hb aFo hs2) hs pos2 aB s σ H (λ vs H1=>∃ v v2 F1 L1,vs=[v,v2]/\Gr F L F1 L1/\Rel X.K F1 L1 S2 H1/\eX X.K F1 L1 w1 v/\eX X.K F1 L1 w2 v2) I ⟨F,L,S,env,[w1,w2],_,R,E,by unfold dU;rw[e1];dsimp only[yCy];rw[e3];rfl,λ F1 L1 H1 vs g1 R1 d1=>by
   obtain - | ⟨da,- | ⟨db,- | -⟩⟩:=d1
   exact(_,_,F1,L1,rfl,g1,R1,da,db,)⟩) λ us s1 hq=>?_
  let(vs,H1,I1,r1,v,v2,F1,L1,ev,g1,R1,d1,d2):=hq;subst ev;let(q1,rfl,h1):=qS e5 d1;let(q2,rfl,h2):=qS e7 d2;have Z:=zd2 h1 h2;refine aME (qs:=[q1,q2]) I1 r1 (by simp) (by simp) (aFb Z R1.sub) λ h' I2 hl ZH0 hz sz fp=>?_
  refine Calls.spliced_nil (aOW hz λ h2 c R2 hk2 hS hR2=>?_);dsimp only at hk2 hS hR2 ⊢;have fr:H1 h'.objs.size=qj:=I2.hok.fresh (yAc _);have I3:Inv X aB σ (bL H1 h'.objs.size (.lst [])) {s1 with heap:=h2 }:=I2.laid (t':=s1.toks) hk2 (yAc _) (yCd _,[],c,.nil,hS,);have nS:h'.objs.size ∉ ad L1:=R1.notin fr;let(os,ol,hO):=ZH0.to;refine @aRK _ _ _ L1 aB σ S2 _ X F1 _ _ X.A.in1 _ (show X.A.in1.in1.in1.handled=qj from I.ok.hd hc) (by simp) (by simp) hl Z nS dE (λ s' H' F' vs' hw=>hR2 s' ?_) _ 0 _ (bL H1 h'.objs.size (.lst [])) F1 [] rfl (yCd _)
   (I3,cE.refl _,R1.lay fr,R1.sub.free fr,dH,.nil,λ b hb=>(by rw[bW (na (by have:=List.mem_range'_1.mp hb;rw[sz];exact xAj this.2))];exact(fp b hb).1,(fp b hb).2,),) (ZH0.t.keep λ c o _ _ e=>hk2 _ _ e,(os,ol,hk2 _ _ hO,),_,_,hk2 _ _ hz,.inl (rfl,rfl,),)
  exact(.ref h'.objs.size,H',hw.inv,rfl,q F' L1 H' _ vs' (g1.trans (hw.same,[],by simp,)) hw.rel hw.free nS hw.lst hw.den,)
 .cases e
def aN7(K:FrG):V->Li V->Hp->VK->Prop:=λ x vs H Q=>(∃ (a:qw) (ns:Li Int) (k:Int),x=.ref a/\vs=[.int k]/\cI K H a (ns.map V.int)/\k∈ns/\Q (.int (ns.idxOf k:Nat)) H)\/(∃ (a:qw) (bs:Li Bool) (k:Bool),x=.ref a/\vs=[.bl k]/\cI K H a (bs.map V.bl)/\k∈bs/\Q (.int (bs.idxOf k:Nat)) H)
def aFS(k:Bool):qx->Bool
 |.bool b=>b==k|_=>Ff
def aZR{bs:Li Bool}:∀ {us:List qx},bF (bs.map V.bl) us->us=bs.map Value.bool:=by
 induction bs with
 |nil=>intro us r;rw[yEj] at r;cases r;rfl
 |cons b bs ih=>
   intro us r;rw[yAk] at r;cases r with
   |cons r1 r2=>
     cases r1;rw[ih r2];rfl
def bA1(aB:Li (qw×Obj))(s:qv)(σ:L2.St)(H:Hp)(v:qx)(us:List qx)(Q:VK)(I:Inv X aB σ H s)(a:qw)(bs:Li Bool)(k:Bool)(rx:bB (.ref a) v)(rv:bF [.bl k] us)(sq:cI X.K H a (bs.map V.bl))(hk:k∈bs)(q:Q (.int (bs.idxOf k:Nat)) H):qu (model X.prog X.w) X.A (call (.builtin "list.index") (v::us)) (EP X aB σ Q) X.xe s:=by
 cases rx;let(u,rfl,ru):=rv.one;cases ru;let(aI,r,pl,hz):=I.list sq;obtain rfl:=aZR r;let((cls,dd,data,sl),ho,hc,n,hd):=pl.isList;simp only at hc hd;subst hc hd;have hn:=nM;have hj:bs.idxOf k<↑bs:=List.idxOf_lt_length_iff.mpr hk;rw[yAd] at hz;refine jz yFy (_,ho,rfl,) PySem.F.entry_list_index (yHo _ _)
  (SeqAt.list_indexAt a (bs.map Value.bool).toArray n dd sl (.bool k) (aFS k) (bs.idxOf k) (hj:) (!_) ?_ ?_) (ho,λ y hy=>?_,(.int (bs.idxOf k:Nat),H,I.tok _,(_,rfl,),q,),)
 .simp[aFS]
 .intro j hjs hlt;have:=List.not_of_lt_findIdx (p:=(· == k)) (xs:=bs) hlt;simp only[List.getElem_toArray,List.getElem_map,aFS];simp_all
 .have hy':y∈bs.map Value.bool:=by grind
  let(b,_,rfl):=List.mem_map.mp hy';exact SeqAt.EqAt.bool_bool b k
def aRw:MtM X "list.index" (aN7 X.K):=by
 intro aB s σ H x vs v us Q I rx rv h;rcases h with h|⟨a,bs,k,rfl,rfl,sq,hk,q⟩
 case inr=>exact bA1 aB s σ H v us Q I a bs k rx rv sq hk q
 let(a,ns,k,rfl,rfl,sq,hk,q):=h;cases rx;let(u,rfl,ru):=rv.one;let(t,rfl):=ru;let(aI,r,pl,hz):=I.list sq;have hi:=aPO r;let((cls,dd,data,sl),ho,hc,n,hd):=pl.isList;simp only at hc hd;subst hc hd;have dE:=hi.length;have hn:=nM;have hj:ns.idxOf k<↑ns:=List.idxOf_lt_length_iff.mpr hk;rw[yAd] at hz;refine jz yFy (_,ho,rfl,) PySem.F.entry_list_index (yHo _ _)
  (SeqAt.list_indexAt a aI.toArray n dd sl (.int k t) (isInt k) (ns.idxOf k) (by simp_all) (!_) ?_ ?_) (ho,λ y hy=>(eq_isInt k t hi y (hy:)).at _ _,(.int (ns.idxOf k:Nat),H,I.tok _,(_,rfl,),q,),)
 .show isInt k aI[ns.idxOf k]=Tt;rw[isInt_at k hi _ (!_) hj];simp_all
 .intro j hjs hlt;show isInt k aI[j]=Ff;rw[isInt_at k hi j (hjs:) (!_)];exact ne_of_lt_idxOf hlt _
def yV(S:aE):W->W->Oz (W×aE)
 |.d (Lz xs),.d (Iz k)=>(kY xs).bind λ ns=>if k∈ns then qz (.d (Iz ((ns.idxOf k:Nat):Int)),S) else qj
 |.d (Lz xs),.d (Bz k)=>(mK xs).bind λ ns=>if k∈ns then qz (.d (Iz ((ns.idxOf k:Nat):Int)),S) else qj
 |_,_=>qj
def aQw(h:yV S o x=qz (w,S')):(∃ xs k ns,o=.d (Lz xs)/\x=.d (Iz k)/\kY xs=qz ns/\k∈ns/\w=.d (Iz ((ns.idxOf k:Nat):Int))/\S'=S)\/(∃ xs k ns,o=.d (Lz xs)/\x=.d (Bz k)/\mK xs=qz ns/\k∈ns/\w=.d (Iz ((ns.idxOf k:Nat):Int))/\S'=S):=by
 unfold yV at h;split at h
 case h_2=>
  rename_i xs k;let(ns,e1,e):=aQ h;by_cases c:k∈ns
  .rw[if_pos c] at e;cases e;exact .inr (xs,k,ns,rfl,rfl,e1,c,rfl,rfl,)
  .rw[if_neg c] at e;cases e
 .rename_i xs k;let(ns,e1,e):=aQ h;by_cases c:k∈ns
  .rw[if_pos c] at e;cases e;exact .inl (xs,k,ns,rfl,rfl,e1,c,rfl,rfl,)
  .rw[if_neg c] at e;cases e
 .cases h
def aCr(fo fe:FE):FE:=f2 fo fe yV
def aZB{fo fe:FE}(σ:L2.St)(H:Hp)(Q:VK)(h:aX K (aCr fo fe) σ H Q):tBM K "list" (aN7 K) (aX K fo) (fG K (dU fe iS)) σ H Q:=by
 let(F,L,S,env,w,S',R,E,e,q):=h;let((wo,S1),e1,e):=aQ e;let((we,S2),e2,e):=aQ e;rcases aQw e with ⟨xs,k,ns,rfl,rfl,e5,hk,rfl,rfl⟩|⟨xs,k,ns,rfl,rfl,e5,hk,rfl,rfl⟩
 case inr=>
  refine(F,L,S,env,_,S1,R,E,e1,λ F1 L1 H1 o g1 R1 d1=>?_,);cases (show Den K F1 (.list xs) o from d1) with
  |lst sq dl=>
    obtain rfl:=aC0 dl e5;refine(.inl (rfl,_,R1.sub.seq sq,),F1,L1,S1,env,[.d (Bz k)],S',R1,E.mono g1,?_,λ F2 L2 H2 vs g2 R2 d2=>?_,)
    .unfold dU;rw[e2];rfl
    .cases d2 with
     |cons dd dr=>
       cases dr;cases (show Den K F2 (.bool k) _ from dd);exact .inr (_,ns,k,rfl,rfl,R2.sub.seq (g2.f.seq sq),hk,q F2 L2 H2 _ (g1.trans g2) R2 (.int _),)
 refine(F,L,S,env,_,S1,R,E,e1,λ F1 L1 H1 o g1 R1 d1=>?_,);cases (show Den K F1 (.list xs) o from d1) with
 |lst sq dl=>
   obtain rfl:=aC8 dl e5;refine(.inl (rfl,_,R1.sub.seq sq,),F1,L1,S1,env,[.d (Iz k)],S',R1,E.mono g1,?_,λ F2 L2 H2 vs g2 R2 d2=>?_,)
   .unfold dU;rw[e2];rfl
   .cases d2 with
    |cons dd dr=>
      cases dr;cases (show Den K F2 (.int k) _ from dd);exact .inl (_,ns,k,rfl,rfl,R2.sub.seq (g2.f.seq sq),hk,q F2 L2 H2 _ (g1.trans g2) R2 (.int _),)
def aFw:Bool->jx
 |true=>.NotIn|false=>.In
def xP:Li D->Oz (Li Str)
 |[]=>qz []|.str i::r=>(xP r).bind λ l=>qz (i::l)|_::_=>qj
open PySem.Builtin PySem.Builtin.Str
def PEp(X:Cx)(e:qy)(t:TE):Prop:=∀ (aB:Li (qw×Obj)) (s:qv) (σ:L2.St) (H:Hp) (Q:VK),Inv X aB σ H s->0<s.toks->t σ H Q->qu (model X.prog X.w) X.A (eval e X.env) (EP X aB σ Q) X.xe s
def PAp(X:Cx)(es:List qy)(t:TA):Prop:=∀ (pos:Pos) (aB:Li (qw×Obj)) (s:qv) (σ:L2.St) (H:Hp) (Q:Li V->Hp->Prop),Inv X aB σ H s->0<s.toks->t σ H Q->qu (model X.prog X.w) X.A (spliced (backTo pos (qo es X.env))) (λ us s2=>∃ vs H2,Inv X aB σ H2 s2/\bF vs us/\Q vs H2) X.xe s
def PEp.of{t:TE}(h:PE X e t):PEp X e t:=λ aB s σ H Q I _ q=>h aB s σ H Q I q
def PAp.of{t:TA}(h:PA X es t):PAp X es t:=λ pos aB s σ H Q I _ q=>h pos aB s σ H Q I q
def W0.w:W0->W
 |.d x=>.d x|.loc n=>.loc n|.dic n=>.dic n
def w0:W->Oz W0
 |.d x=>qz (.d x)|.loc n=>qz (.loc n)|.dic n=>qz (.dic n)|.tpl ws=>(fY ws).map λ l=>.d (Tz l)|_=>qj
def w0s:Li W->Oz (Li W0)
 |[]=>qz []|w::r=>(w0 w).bind λ x=>(w0s r).map (x :: ·)
def aCy(fa:FE)(f:Str):FE:=λ env S=>(fa env S).bind λ p=>match p.1 with|.ob fs=>(fs.lookup f).map λ w=>(w.w,p.2)|_=>qj
def aCh(m:Str)(fo:FE)(fs:FA)(np:Nat)(call:Li W->aE->Oz (W×aE)):FE:=λ env S=>(fo env S).bind λ p=>match p.1 with
 |.ob fl=>if (fl.lookup m).isNone=Tt then (fs env p.2).bind λ q=>if q.1.length+1=np then call (.ob fl::q.1) q.2 else qj else qj
 |_=>qj
inductive Ini where
 |arg (i:Nat)|lst|dct
 deriving DecidableEq
def lQ(ds:Li D):Li (Str×Ini)->aE->Oz (Li (Str×W0)×aE)
 |[],S=>qz ([],S)|(f,.arg i)::r,S=>(ds[i]?).bind λ d=>(lQ ds r S).map λ p=>((f,.d d)::p.1,p.2)|(f,.lst)::r,S=>(lQ ds r (S++[qz []])).map λ p=>((f,.loc ↑S)::p.1,p.2)|(f,.dct)::r,S=>(lQ ds r (S++[qz []])).map λ p=>((f,.dic ↑S)::p.1,p.2)
def aBU(ini:Li (Str×Ini))(np:Nat)(fs:FA):FE:=λ env S=>(fs env S).bind λ p=>if p.1.length+1=np then (jV p.1).bind λ ds=>(lQ ds ini p.2).map λ q=>(.ob q.1,q.2) else qj
def aCm(fs:FA):FE:=λ env S=>(fs env S).bind λ p=>(w0s p.1).bind λ ws=>if ↑ws<=qk then qz (.tpl ws,p.2) else qj
def iD:Li W0->Oz (List bN)
 |[]=>qz []|.d (Iz i)::r=>(iD r).map (.inl i :: ·)|.d (Sz x)::r=>(iD r).map (.inr x :: ·)|_=>qj
def tV:Li D->Oz (List bN)
 |[]=>qz []|.int i::r=>(tV r).map (.inl i :: ·)|.str x::r=>(tV r).map (.inr x :: ·)|_=>qj
def uM:D->Oz (List bN×Int)
 |.tuple [.tuple ks,.int i]=>(tV ks).map λ l=>(l,i)|_=>qj
def aEz:∀ l:List bN,tV (l.map kD)=qz l
 |[]=>rfl|.inl i::r=>by rw[yAk,kD,tV,aEz r];rfl|.inr i::r=>by rw[yAk,kD,tV,aEz r];rfl
def aTO(p:List bN×Int):uM (mT p)=qz p:=by rw[mT,uM,aEz];rfl
def aF0:∀ es:Li (List bN×Int),(es.map mT).filterMap uM=es
 |[]=>rfl|p::r=>by rw[yAk,yCj,aTO,aF0 r]
def mE(S:aE)(n:Nat):Oz (Li (List bN×Int)):=match S[n]? with|some (qz ds)=>qz (ds.filterMap uM)|_=>qj
def fO(es:Li (List bN×Int))(k:List bN):Oz Int:=(es.find? λ p=>decide (p.1=k)).map (·.2)
def rV(es:Li (List bN×Int))(k:List bN)(i:Int):Li (List bN×Int):=if (fO es k).isSome=Tt then es.map λ p=>if p.1=k then (p.1,i) else p else es++[(k,i)]
noncomputable abbrev dV(es:List (List bN×Int)):List (List bN×V):=es.map λ p=>(p.1,V.int p.2)
def aBq(k:List bN):∀ es:Li (List bN×Int),jU (dV es) k=(fO es k).map V.int
 |[]=>rfl
 |p::r=>by
   unfold jU fO;rw[dV,yAk,yCr,yCr];by_cases h:p.1=k
   .simp_all
   .simp only[h,decide_false];exact aBq k r
def aVw(es:Li (List bN×Int))(k:List bN)(i:Int):jT (dV es) k (.int i)=dV (rV es k i):=by
 unfold jT rV;have h:((dV es).any λ kv=>decide (kv.1=k))=(fO es k).isSome:=by
  rw[aDo,aBq];cases fO es k<;>rfl
 rw[h];split
 .rw[dV,dV,yBi,yBi];refine yBs λ p _=>?_
  dsimp only[Function.comp];split<;>rfl
 simp_all
def uV(n:Bool)(fk fd:FE):FE:=λ env S=>(fk env S).bind λ p=>(fd env p.2).bind λ q=>match p.1,q.1 with|.tpl ws,.dic m=>(iD ws).bind λ k=>(mE q.2 m).map λ es=>(.d (Bz (n != (fO es k).isSome)),q.2)|_,_=>qj
def aB7(fd fk:FE):FE:=λ env S=>(fd env S).bind λ p=>(fk env p.2).bind λ q=>match p.1,q.1 with|.dic m,.tpl ws=>(iD ws).bind λ k=>(mE q.2 m).bind λ es=>(fO es k).map λ i=>(.d (Iz i),q.2)|_,_=>qj
def aBX(fd fk fv:FE):FS:=λ env S=>(fv env S).bind λ p=>(fd env p.2).bind λ q=>(fk env q.2).bind λ r=>match p.1,q.1,r.1 with
 |.d (Iz i),.dic m,.tpl ws=>(iD ws).bind λ k=>(mE r.2 m).bind λ es=>if ↑es<qk then qz (.nx env,r.2.set m (qz ((rV es k i).map mT))) else qj
 |_,_,_=>qj
def lF.w{F:Hp}{L:Lx}{w:W0}{v:V}(h:lF K F L w v):eX K F L w.w v:=by cases w<;>exact h
def aYi(h:eX K F L w v)(e:w0 w=qz x):lF K F L x v:=by
 cases w with
 |d y=>cases e;exact h|loc n=>cases e;exact h|dic n=>cases e;exact h
 |tpl ws=>
   let(l,e1,e2):=map_some (show(fY ws).map _=qz x from e);cases e2;let(a,vs,rfl,h1,h2):=h;exact .tup (.inl (.inl h1)) (aBi h2 e1)
 |exc c r=>cases e|ob fs=>cases e
section
variable {K:FrG}{F:Hp}{L:Lx}
def aJU:∀ {ws:Li W}{xs:Li V}{zs:Li W0},WDenL K F L ws xs->w0s ws=qz zs->sA K F L zs xs
 |_,_,_,.nil,e=>by cases e;exact .nil
 |w::r,_,_,.cons h t,e=>by
   let(x,e1,e):=aQ e;let(l,e2,e3):=map_some e;cases e3;exact .cons (aYi h e1) (aJU t e2)
end
def aQh(h:nX K F L fs vs)(e:fs.lookup f=qz w):∃ v,vs.lookup f=qz v/\lF K F L w v:=by
 induction h with
 |nil=>cases e
 |cons h t ih=>
   rename_i p q _ _;let(g,x):=p;let(g',y):=q;let(h1,h2):=h;dsimp only at h1 h2;subst h1;rw[yBy] at e ⊢;split at e
   .simp_all
   .exact ih e
def aTc(h:nX K F L fs vs)(e:fs.lookup f=qj):vs.lookup f=qj:=by
 induction h with
 |nil=>rfl
 |cons h t ih=>
   rename_i p q _ _;let(g,x):=p;let(g',y):=q;let(h1,h2):=h;dsimp only at h1 h2;subst h1;rw[yBy] at e ⊢;split at e
   .cases e
   .exact ih e
section
variable {K:FrG}{F:Hp}{L:Lx}
def aK1:∀ {ws:Li W0}{vs:Li V},sA K F L ws vs->↑ws=↑vs
 |_,_,.nil=>rfl|_,_,.cons _ r=>congrArg (· + 1) (aK1 r)
end
def aDP(h:sA K F L ws vs)(e:iD ws=qz k):vs=k.map kV:=by
 induction h generalizing k with
 |nil=>cases e;rfl
 |cons h t ih=>
   rename_i w _ r _;cases w with
   |d x=>
     cases x with
     |int i=>
       let(l,e1,e2):=map_some (show(iD r).map _=_ from e);cases e2;cases (show Den K F (.int i) _ from h);rw[ih e1];rfl
     |str i=>
       let(l,e1,e2):=map_some (show(iD r).map _=_ from e);cases e2;cases (show Den K F (.str i) _ from h);rw[ih e1];rfl
     |_=>cases e
   |_=>cases e
def aRB(h:mE S n=qz es):∃ ds,S[n]?=qz (qz ds)/\es=ds.filterMap uM:=by
 unfold mE at h;split at h
 .rename_i ds e;cases h;exact(ds,e,rfl,)
 .cases h
def aEr(R:Rel K F L S H)(h:mE S n=qz es)(e:L[n]?=qz (a,Tt)):F a=qj/\H a=qz (.dT (dV es)):=by let(ds,h1,rfl):=aRB h;let(hF,es,rfl,h2):=R.dic n a ds e h1;rw[aF0];exact(hF,h2,)
abbrev lK(K:FrG)(C:qw):Prop:=yCg K zy "Maker" = qz (qz (.ref C))
def aNb(a:lK K C)(b:lK K C'):C'=C:=by grind
def aZC{fa:FE}(ha:PE X a (aX X.K fa))(hb:attributeBase a f X.env (eval a X.env)=eval a X.env)(hm:lK X.K C)(hc:Cls X.K C)(hn:NoAttr X.K C f):PE X (.Attribute a f pos) (aX X.K (aCy fa f)):=
 PE.weak (aWl ha hb) λ σ H Q bC=>by
  let(F,L,S,env,w,S',R,E,e,q):=bC;let((w1,S1),e1,e):=aQ e;dsimp only at e;split at e
  .rename_i fs;let(w0,e2,e3):=map_some e;cases e3;refine(F,L,S,env,_,_,R,E,e1,λ F1 L1 H1 v g1 R1 d1=>?_,);let(p,C',dx,vs,rfl,h1,h2,h3):=d1;obtain rfl:=aNb hm h2;let(u,h4,h5):=aQh h3 e2;exact(p,_,dx,vs,u,rfl,R1.sub _ _ h1,hc,hn,h4,q F1 L1 H1 u g1 R1 h5.w,)
  .cases e
def aV0{fo:FE}{fs:FA}{call:Li W->aE->Oz (W×aE)}(hm:lK K C)(σ:St)(H:Hp)(Q:VK)(h:aX K (aCh m fo fs np call) σ H Q):aNa C m (qP K np call) [] E0 (aX K fo) (fG K fs) σ H Q:=by
 let(F,L,S,env,w,S',R,E,e,q):=h;let((w1,S1),e1,e):=aQ e;dsimp only at e;split at e
 .rename_i fl;split at e
  .rename_i hn;let((ws,S2),e2,e):=aQ e;dsimp only at e;split at e
   .rename_i hl;refine(F,L,S,env,_,_,R,E,e1,λ F1 L1 H1 v g1 R1 d1=>?_,);have d1':=d1;let(p,C',dx,vs,rfl,h1,h2,h3):=d1;obtain rfl:=aNb hm h2;refine(p,dx,vs,rfl,R1.sub _ _ h1,aTc h3 (Option.isNone_iff_eq_none.mp hn),F1,L1,S1,env,ws,S2,R1,E.mono g1,e2,λ F2 L2 H2 us g2 R2 d2=>?_,);exact(F2,L2,S2,.ob fl::ws,w,S',by rw[yAn];exact hl,R2,.cons (d1'.mono g2) (by rw[yBa];exact d2),e,λ F3 L3 H3 v g3 R3 d3=>q F3 L3 H3 v ((g1.trans g2).trans g3) R3 d3,)
   .cases e
  .cases e
 .cases e
def aY4{fs:FA}(h:PA X es (fG X.K fs)):PE X (.Tuple es k pos) (aX X.K (aCm fs)):=
 PE.weak (aLE h) λ σ H Q bC=>by
  let(F,L,S,env,w,S',R,E,e,q):=bC;let((ws,S1),e1,e2):=aQ e;let(zs,e3,e4):=aQ e2;split at e4
  .rename_i hz;cases e4;refine(F,L,S,env,ws,_,R,E,e1,λ F1 L1 H1 vs g1 R1 d1=>?_,);have dl:=aJU d1 e3;refine(by rw[<- aK1 dl];exact hz,λ p hp=>?_,);have g2:Gr F1 L1 (bL F1 p (.tup vs)) L1:=Gr.new (R1.sub.free hp);exact q _ L1 _ _ (g1.trans g2) (R1.new hp) (p,vs,rfl,dH,L2.Paired.mapP dl λ _ _ z=>z.mono g2,)
  .cases e4
def aMV{fa fb:FE}(hu:X.A.units+1<cLine)(ha:PE X a (aX X.K fa))(hb:PE X b (aX X.K fb)):PC X (aFw n) a b (aX X.K (uV n fa fb)):=by
 have key:∀ (σ:St) (H:Hp) (Q:VK),aX X.K (uV n fa fb) σ H Q->aX X.K fa σ H λ y H1=>aX X.K fb σ H1 λ x H2=>∃ a o,x=.ref a/\kL H2 a y o/\Q (.bl (n != o.isSome)) H2:=λ σ H Q bC=>by
  let(F,L,S,env,w,S',R,E,e,q):=bC;let((w1,S1),e1,e):=aQ e;let((w2,S2),e2,e):=aQ e;dsimp only at e e2;split at e
  .rename_i ws m;let(k,e3,e):=aQ e;let(es,e4,e5):=map_some e;cases e5;refine(F,L,S,env,_,_,R,E,e1,λ F1 L1 H1 v g1 R1 d1=>(F1,L1,_,env,_,_,R1,E.mono g1,e2,λ F2 L2 H2 u g2 R2 d2=>?_,),);let(p,vs,rfl,h1,h2):=d1.mono g2;let(a,ea,rfl):=d2;obtain rfl:=aDP h2 e3;let(_,hd):=aEr R2 e4 ea;refine(a,_,rfl,kL.t hd (R2.sub _ _ h1),?_,);rw[aBq];have:((fO es k).map V.int).isSome=(fO es k).isSome:=by cases fO es k<;>rfl
   rw[this];exact q F2 L2 H2 _ (g1.trans g2) R2 (.bl _)
  .cases e
 cases n with
 |false=>
   intro aB s σ H Q I h;refine aWt hu ha hb aB s σ H Q I ?_;let(F,L,S,env,w,S',R,E,e,q):=key σ H Q h;refine(F,L,S,env,w,S',R,E,e,λ F1 L1 H1 v g1 R1 d1=>?_,);let(F,L,S,env,w,S',R,E,e,q2):=q F1 L1 H1 v g1 R1 d1;refine(F,L,S,env,w,S',R,E,e,λ F1 L1 H1 v g1 R1 d1=>?_,);let(a,o,h1,h2,h3):=q2 F1 L1 H1 v g1 R1 d1;exact(a,o,h1,h2,by simpa using h3,)
 |true=>
   intro aB s σ H Q I h;refine aQ4 hu ha hb aB s σ H Q I ?_;let(F,L,S,env,w,S',R,E,e,q):=key σ H Q h;refine(F,L,S,env,w,S',R,E,e,λ F1 L1 H1 v g1 R1 d1=>?_,);let(F,L,S,env,w,S',R,E,e,q2):=q F1 L1 H1 v g1 R1 d1;refine(F,L,S,env,w,S',R,E,e,λ F1 L1 H1 v g1 R1 d1=>?_,);let(a,o,h1,h2,h3):=q2 F1 L1 H1 v g1 R1 d1;exact(a,o,h1,h2,by simpa using h3,)
def aVB{fa fb:FE}(hu:X.A.units+1<cLine)(ha:PE X a (aX X.K fa))(hb:PE X b (aX X.K fb))(hs:wX b):PE X (.Subscript a b pos) (aX X.K (aB7 fa fb)):=
 PE.weak (aU6 hu ha hb hs) λ σ H Q bC=>by
  let(F,L,S,env,w,S',R,E,e,q):=bC;let((w1,S1),e1,e):=aQ e;let((w2,S2),e2,e):=aQ e;dsimp only at e e2;split at e
  .rename_i m ws;let(k,e3,e):=aQ e;let(es,e4,e):=aQ e;let(i,e5,e6):=map_some e;cases e6;refine(F,L,S,env,_,_,R,E,e1,λ F1 L1 H1 v g1 R1 d1=>(F1,L1,_,env,_,_,R1,E.mono g1,e2,λ F2 L2 H2 u g2 R2 d2=>?_,),);let(a,ea,rfl):=d1.mono g2;let(p,vs,rfl,h1,h2):=d2;obtain rfl:=aDP h2 e3;let(_,hd):=aEr R2 e4 ea;refine(a,.int i,rfl,?_,q F2 L2 H2 _ (g1.trans g2) R2 (.int _),);have:=kL.t hd (R2.sub _ _ h1);rw[aBq,e5] at this;exact this
  .cases e
def aWA{pos:Pos}{fo fi fe:FE}(hu:X.A.units+1<cLine)(ho:PE X o (aX X.K fo))(hi:PE X i (aX X.K fi))(he:PE X e (aX X.K fe))(hs:swapsWith e (qz (.Subscript o i pos')) pos.line X.env=pure Ff) :
 PS X (.Assign [.Subscript o i pos'] e pos) (eU X.K (aBX fo fi fe)):=
 PS.weak (aTe hu ho hi he hs) λ D σ H h=>by
  let(F,L,S,env,fl,S',R,E,e,q):=kX h;let((w1,S1),e1,e):=aQ e;let((w2,S2),e2,e):=aQ e;let((w3,S3),e3,e):=aQ e;dsimp only at e e2 e3;split at e
  .let(k,e4,e):=aQ e;let(es,e5,e):=aQ e;split at e
   .rename_i hl;cases e;refine(F,L,S,env,_,_,R,E,e1,λ F1 L1 H1 v g1 R1 d1=>(F1,L1,_,env,_,_,R1,E.mono g1,e2,λ F2 L2 H2 u g2 R2 d2=>(F2,L2,_,env,_,_,R2,E.mono (g1.trans g2),e3,λ F3 L3 H3 y g3 R3 d3=>?_,),),);cases (show Den X.K F1 (.int _) v from d1);let(a,ea,rfl):=d2.mono g3;let(p,vs,rfl,h1,h2):=d3;obtain rfl:=aDP h2 e4;let(hF,hd):=aEr R3 e5 ea;refine(a,_,rfl,aAd.t hd (R3.sub _ _ h1) (by rw[yAd];exact hl),?_,);rw[aVw];exact q F3 L3 _ ((g1.trans g2).trans g3) (R3.putC ea hF (λ z=>(nomatch z)) λ _=>(rV es k _,rfl,rfl,)) σ (E.mono ((g1.trans g2).trans g3))
   .cases e
  .cases e
def aNL:Ini->TE
 |.arg i=>zO (i+1)|.lst=>aFX aFQ|.dct=>aLP
def zX(K:FrG):Li (Str×Ini)->TS
 |[]=>aNi|p::r=>aNv (aOf K (zO 0) (aNL p.2) p.1) (zX K r)
def aI9:∀ {vs:Li (Str×V)},f ∉ vs.map (·.1)->gG f v vs=vs++[(f,v)]
 |[],_=>rfl
 |(g,x)::r,h=>by
   rw[yAk,yDf,not_or] at h;rw[gG,if_neg λ z=>h.1 z.symm,aI9 h.2];rfl
section
variable {K:FrG}{F:Hp}{L:Lx}
def aDT:∀ {fs:Li (Str×W0)}{vs:Li (Str×V)},nX K F L fs vs->vs.map (·.1)=fs.map (·.1)
 |_,_,.nil=>rfl|_,_,.cons h t=>by rw[yAk,yAk,aDT t,h.1]
end
def aT7(p:nX K F L fs vs)(h:lF K F L w v):nX K F L (fs++[(f,w)]) (vs++[(f,v)]):=by
 induction p with
 |nil=>exact .cons (rfl,h,) .nil|cons a _ ih=>exact .cons a ih
def aKB{L:Lx}{S:aE}(h:↑L=↑S):(L++[q])[↑S]?=qz q:=by rw[<- h,yAh (yAc _),yBf];rfl
def aKk{C x dx:qw}{ds:Li D}{D:Ends}{σ:St}(hc:Cls K C)(hσ:σ[0]?=qz (qz (.ref x))):∀ (ini:Li (Str×Ini)) {S S':aE}{fs fs0:Li (Str×W0)}{F H:Hp}{L:Lx}{vs0:Li (Str×V)},
 (∀ p∈ini,NoAttr K C p.1)->(fs0.map (·.1)++ini.map (·.1)).Nodup->fs0.length+ini.length<=1000->Rel K F L S H->F x=qj->x ∉ ad L->H x=qz (.ins C dx vs0)->nX K F L fs0 vs0 ->
 (∀ (i:Nat) (d:EV.D),ds[i]?=qz d->∃ v,σ[i+1]?=qz (qz v)/\Den K F d v)->lQ ds ini S=qz (fs,S') ->
 (∀ F' L' H' vs',Gr F L F' L'->Rel K F' L' S' H'->F' x=qj->x ∉ ad L'->H' x=qz (.ins C dx vs')->nX K F' L' (fs0++fs) vs'->D.nx σ H')->zX K ini D σ H
 |[],S,S',fs,fs0,F,H,L,vs0,hn,nd,hl,R,hF,hL,hx,hf,ha,e,q=>by
   cases e;exact q F L H vs0 Gr.refl R hF hL hx (by rw[yBa];exact hf)
 |(f,i)::r,S,S',fs,fs0,F,H,L,vs0,hn,nd,hl,R,hF,hL,hx,hf,ha,e,q=>by
   have nf:f ∉ vs0.map (·.1):=by
    rw[aDT hf]
    grind
   have lf:vs0.length<1000:=by
    have h1:=congrArg yGs (aDT hf);rw[yAd,yAd] at h1;rw[yAn] at hl;omega
   have nd':∀ w:W0,((fs0++[(f,w)]).map (·.1)++r.map (·.1)).Nodup:=λ w=>by
    rw[yAy,yBc];exact nd
   have hl':∀ w:W0,(fs0++[(f,w)]).length+r.length<=1000:=λ w=>by
    rw[xAn,yDy];rw[yAn] at hl;omega
   have hn':∀ p∈r,NoAttr K C p.1:=λ p hp=>hn p (xAf _ hp)
   have step:∀ {y:V}{w:W0}{F1 H1:Hp}{L1:Lx}{S1:aE}{fs1:Li (Str×W0)},Gr F L F1 L1->Rel K F1 L1 S1 H1->F1 x=qj->x ∉ ad L1->H1 x=qz (.ins C dx vs0)->lF K F1 L1 w y->lQ ds r S1=qz (fs1,S')->fs=(f,w)::fs1 ->
    zO 0 σ H1 λ x' H2=>∃ a C' dx' fs',x'=.ref a/\H2 a=qz (.ins C' dx' fs')/\Cls K C'/\NoAttr K C' f/\fs'.length<1000/\zX K r D σ (bL H2 a (.ins C' dx' (gG f y fs'))):=λ {y w F1 H1 L1 S1 fs1} g R1 hF1 hL1 hx1 dw e1 efs=>by
    refine(.ref x,hσ,x,C,dx,vs0,rfl,hx1,hc,hn _ xAc,lf,?_,);rw[aI9 nf];refine aKk hc hσ r hn' (nd' w) (hl' w) (R1.relay hF1 hL1) hF1 hL1 dH (aT7 (L2.Paired.mapP hf λ _ _ z=>(z.1,z.2.mono g,)) dw) (λ i d z=>?_) e1 λ F' L' H' vs' g' R' h1 h2 h3 h4=>q F' L' H' vs' (g.trans g') R' h1 h2 h3 ?_
    .let(v,h1,h2):=ha i d z;exact(v,h1,Den.mono g.f h2,)
    simp_all
   cases i with
   |arg i=>
     let(d,e1,e):=aQ (show(ds[i]?).bind (λ d=>(lQ ds r S).map λ p=>((f,W0.d d)::p.1,p.2))=qz (fs,S') from e);let((fs1,S1),e2,e3):=map_some e;cases e3;let(v,h1,h2):=ha i d e1;exact(v,h1,step (w:=.d d) Gr.refl R hF hL hx h2 e2 rfl,)
   |lst=>
     let((fs1,S1),e2,e3):=map_some (show(lQ ds r (S++[qz []])).map (λ p=>((f,W0.loc ↑S)::p.1,p.2))=qz (fs,S') from e);cases e3;refine(yCd _,λ p hp=>?_,);have ne:x≠p:=fJ hx hp;refine step (w:=.loc ↑S) Gr.newLoc (R.newLoc hp .nil) hF ?_ (by rw[bW ne];exact hx) (p,aKB R.len,rfl,) e2 rfl;rw[ad,yAy,List.mem_append,not_or];exact(hL,by simpa using ne,)
   |dct=>
     let((fs1,S1),e2,e3):=map_some (show(lQ ds r (S++[qz []])).map (λ p=>((f,W0.dic ↑S)::p.1,p.2))=qz (fs,S') from e);cases e3;intro p hp;have ne:x≠p:=fJ hx hp;refine step (w:=.dic ↑S) Gr.newLoc (R.newDic hp) hF ?_ (by rw[bW ne];exact hx) (p,aKB R.len,rfl,) e2 rfl;rw[ad,yAy,List.mem_append,not_or];exact(hL,by simpa using ne,)
def spM(K:FrG)(C:qw)(ini:Li (Str×Ini))(np:Nat):Sp:=λ vs H Q _=>∃ F L S x dx ds us fs S',vs=.ref x::us/\↑us+1=np/\Rel K F L S H/\F x=qj/\x ∉ ad L/\H x=qz (.ins C dx [])/\DenL K F ds us/\lQ ds ini S=qz (fs,S') /\
 ∀ F' L' H' vs',Gr F L F' L'->Rel K F' L' S' H'->F' x=qj->x ∉ ad L'->H' x=qz (.ins C dx vs')->nX K F' L' fs vs'->Q .non H'
def aWh{Q:VK}{E:XK}(hc:Cls K C)(hn:∀ p∈ini,NoAttr K C p.1)(nd:(ini.map (·.1)).Nodup)(hl:ini.length<=1000)(h:spM K C ini np vs H Q E) :
 zX K ini {nx:=λ _ H'=>Q .non H',rt:=Q } (L2.start N vs) H:=by
 let(F,L,S,x,dx,ds,us,fs,S',rfl,hu,R,hF,hL,hx,dl,e,q):=h;refine aKk (ds:=ds) hc (x:=x) (dx:=dx) ?_ ini (fs0:=[]) (vs0:=[]) hn nd (by rw[yBx,yEt];exact hl) R hF hL hx .nil (λ i d z=>?_) e λ F' L' H' vs' g R' h1 h2 h3 h4=>q F' L' H' vs' g R' h1 h2 h3 h4
 .rfl
 .let(v,h1,h2):=dl.get z;refine(v,?_,h2,);unfold L2.start;rw[yAk,yGm,yDe,xAm (by rw[yAd];exact(gIm h1).1),yAe,h1];rfl
def aV9{fs:FA}(hm:lK K C)(σ:St)(H:Hp)(Q:VK)(h:aX K (aBU ini np fs) σ H Q):aMR C (spM K C ini np) [] E0 (fG K fs) σ H Q:=by
 let(F,L,S,env,w,S',R,E,e,q):=h;let((ws,S1),e1,e):=aQ e;dsimp only at e;split at e
 .rename_i hl;let(ds,e2,e):=aQ e;let((fl,S2),e3,e4):=map_some e;cases e4;refine(F,L,S,env,ws,S1,R,E,e1,λ F1 L1 H1 vs g1 R1 d1 x dx hx hd ne=>?_,);have R2:=R1.lay (o:=.own x) hd;have hx2:bL H1 dx (.own x) x=qj:=by rw[bW λ z=>ne z.symm];exact hx
  have R3:=R2.lay (o:=.ins C dx []) hx2;rw[yBa];refine(F1,L1,S1,x,dx,ds,vs,fl,S2,rfl,by rw[<- d1.length];exact hl,R3,R1.sub.free hx,R1.notin hx,dH,qW d1 e2,e3,λ F' L' H' vs' g' R' h1 h2 h3 h4=>(rfl,?_,),);have g2:Gr F' L' (bL F' x (.ins C dx vs')) L':=Gr.new h1;exact q _ L' H' _ ((g1.trans g').trans g2) (R'.adoptO h1 h2 h3) (x,C,dx,vs',rfl,dH,hm,L2.Paired.mapP h4 λ _ _ z=>(z.1,z.2.mono g2,),)
 .cases e
def zF(xs:Li D)(k:D):Oz D:=match xP xs,k with|some _,.str k=>qz (.int (Spec.countIn (.str k) xs))|_,_=>qj
def aQZ{xs:Li D}(h:zF xs k=qz z):∃ ys s,xP xs=qz ys/\k=.str s/\z=.int (Spec.countIn (.str s) xs):=by
 unfold zF at h;split at h
 .rename_i ys s e;cases h;exact(ys,s,e,rfl,rfl,)
 .cases h
def aHH:∀ {xs:Li D}{ys:Li Str},xP xs=qz ys->xs=ys.map Sz
 |[],_,e=>by cases e;rfl
 |.str x::r,_,e=>by
   let(l,e1,e2):=aQ (show(xP r).bind (λ l=>qz (x::l))=_ from e);cases e2;rw[aHH e1];rfl
 |.none::_,_,e=>by cases e|.bool _::_,_,e=>by cases e|.int _::_,_,e=>by cases e|.list _::_,_,e=>by cases e|.tuple _::_,_,e=>by cases e|.dict _::_,_,e=>by cases e
def aE7:∀ {ys:Li Str}{us:List qx},bF (ys.map V.str) us->StrsAre us ys
 |[],_,.nil=>.nil|y::r,_,.cons ⟨t,h⟩ q=>by subst h;exact .cons y t (aE7 q)
def aS0{Q:VK}{ys:Li Str}(I:Inv X aB σ H s)(sq:cZ X.K H a (ys.map V.str))(q:Q (.int (Spec.countIn (.str k) (ys.map Sz))) H) :
 qu (model X.prog X.w) X.A (call (.builtin "tuple.count") [.ref a,.str k t]) (EP X aB σ Q) X.xe s:=by let(aI,r,((cls,dd,data,sl),ho,hc,n,hd),hz):=I.tuple sq;simp only at hc hd;subst hc hd;have hs:=aE7 r;refine jz PySem.F.slot_tuple_count (_,ho,rfl,) PySem.F.entry_tuple_count (PySem.F.args_tuple_count_2 _ _) (SeqAt.tuple_countAt a aI.toArray n dd sl (.str k t) (isStrOf k)) (ho,λ y hy=>(eq_isStrOf k t hs y (hy:)).at _ _,?_,);refine(.int (Spec.countIn (.str k) (ys.map Sz)),H,I.tok _,(s.toks,?_,),q,);rw[<- countP_isStrOf_map k hs]
def aTC{Q:VK}{ys:Li Str}(I:Inv X aB σ H s)(sq:cI X.K H a (ys.map V.str))(q:Q (.int (Spec.countIn (.str k) (ys.map Sz))) H) :
 qu (model X.prog X.w) X.A (call (.builtin "list.count") [.ref a,.str k t]) (EP X aB σ Q) X.xe s:=by let(aI,r,pl,hz):=I.list sq;let((cls,dd,data,sl),ho,hc,n,hd):=pl.isList;simp only at hc hd;subst hc hd;have hs:=aE7 r;refine jz PySem.F.slot_list_count (_,ho,rfl,) PySem.F.entry_list_count (PySem.F.args_list_count_2 _ _) (SeqAt.list_countAt a aI.toArray n dd sl (.str k t) (isStrOf k)) (ho,λ y hy=>(eq_isStrOf k t hs y (hy:)).at _ _,?_,);refine(.int (Spec.countIn (.str k) (ys.map Sz)),H,I.tok _,(s.toks,?_,),q,);rw[<- countP_isStrOf_map k hs]
def aNK(K:FrG):V->Li V->Hp->VK->Prop:=λ x vs H Q=>∃ (a:qw) (ys:Li Str) (k:Str),x=.ref a/\vs=[.str k]/\cI K H a (ys.map V.str)/\Q (.int (Spec.countIn (.str k) (ys.map Sz))) H
def aSx:MtM X "list.count" (aNK X.K):=by intro aB s σ H x vs v us Q I rx rv h;let(a,ys,k,rfl,rfl,sq,q):=h;cases rx;let(u,rfl,ru):=rv.one;let(t,rfl):=ru;exact aTC I sq q
def uW(fs:FA)(fa:FE):FE:=λ env S=>(fs env S).bind λ p=>(jV p.1).bind λ xs=>if ↑xs<=qk then (fa env p.2).bind λ q=>(wd q.1).bind λ k=>(zF xs k).map λ z=>(.d z,q.2) else qj
def aH2{fs:FA}{fa:FE}(h:uW fs fa env S=qz (w,S')):∃ (ws:Li W) (S1:aE) (ys:Li Str) (wk:W) (k:Str),fs env S=qz (ws,S1)/\jV ws=qz (ys.map Sz)/\(ys.map Sz).length<=qk/\fa env S1=qz (wk,S')/\wd wk=qz (.str k)/\w=.d (Iz (Spec.countIn (.str k) (ys.map Sz))):=by
 let((ws,S1),e1,h):=aQ h;let(xs,e2,h):=aQ h;split at h
 .rename_i hz;let((wk,S2),e3,h):=aQ h;let(k,e4,h):=aQ h;let(z,e5,e6):=map_some h;let(ys,s,e7,rfl,rfl):=aQZ e5;obtain rfl:=aHH e7;cases e6;exact(ws,S1,ys,wk,s,e1,e2,hz,e3,e4,rfl,)
 .cases h
def aDK:∀ {ys:Li Str}{xs:Li V},DenL K F (ys.map Sz) xs->xs=ys.map V.str
 |[],_,.nil=>rfl|y::r,_,.cons h t=>by cases h;rw[aDK t];rfl
def aWQ{apos cpos:Pos}{fs:FA}{fa:FE}(hs:PA X es (fG X.K fs))(ha:PE X e (aX X.K fa))(hline:(apos.endLine==cpos.line)=Tt)(st:qo [e] X.env=(Ff,eval e X.env)::qo [] X.env) :
 PE X (.Call (.Attribute (.Tuple es k tpos) "count" apos) [e] [] cpos) (aX X.K (uW fs fa)):=by
 rintro aB s σ H Q I ⟨F,L,S,env,w,S',R,E,eq,q⟩;let(ws,S1,ys,wk,kk,e1,e2,hz,e3,e4,rfl):=aH2 eq;refine wpAny_Call_method_late (by rfl) (by rw[st];rfl) hline rfl (wpAny_Tuple_spliced (bJ (hs tpos aB s σ H (λ vs H1=>∃ F1 L1,Gr F L F1 L1/\Rel X.K F1 L1 S1 H1/\WDenL X.K F1 L1 ws vs) I ⟨F,L,S,env,ws,S1,R,E,e1,λ F1 L1 H1 vs g1 R1 d1=>(F1,L1,g1,R1,d1,)⟩) λ us s1 hPq51=>?_));let(vs,H1,I1,r,F1,L1,g1,R1,d1):=hPq51;have dl:=qW d1 e2;obtain rfl:=aDK dl;have dE:↑us<=qk:=by rw[<- r.length,<- dl.length];exact hz
 refine(dE,?_,);have hf:H1 s1.heap.objs.size=qj:=I1.hok.fresh (yAc _);have ob:=xAd (o:={cls:=.type "tuple",data:=.seq us.toArray 0 }) s1.heap rfl;have I2:Inv X aB σ (bL H1 s1.heap.objs.size (.tup (ys.map V.str))) {s1 with heap:=s1.heap.push {cls:=.type "tuple",data:=.seq us.toArray 0 } }:=
  I1.laid (t':=s1.toks) (λ b u e=>hpS _ e) (yAc _) (by rw[r.length];exact dE,us,r,(_,ob,rfl,_,rfl,),)
 refine("tuple","tuple.count",PySem.F.plainAttrs_tuple,PySem.F.slot_tuple_count,PySem.F.type_tuple_count,(_,ob,rfl,),λ a e=>by cases e;exact(_,ob,rfl,),?_,);have g2:Gr F1 L1 (bL F1 s1.heap.objs.size (.tup (ys.map V.str))) L1:=Gr.new (R1.sub.free hf);have hA:=ha aB _ σ _ (λ v H2=>∃ F2 L2,Gr (bL F1 s1.heap.objs.size (.tup (ys.map V.str))) L1 F2 L2/\Rel X.K F2 L2 S' H2/\eX X.K F2 L2 wk v) I2 ⟨_,L1,S1,env,wk,S',R1.new hf,(E.mono g1).mono g2,e3,λ F2 L2 H2 v g R d=>(F2,L2,g,R,d,)⟩;rw[st];refine Calls.callWith_builtin rfl (Calls.evalArgs_plain (Calls.spliced_cons (bJ hA λ u s2 ⟨v,H2,I3,rv,F2,L2,g3,R3,d3⟩=>Calls.spliced_nil ?_)));have dk:=aBu d3 e4;cases dk;let(t,rfl):=rv;exact aS0 I3 (cZ.of (R3.sub _ _ (g3.f _ _ dH))) (q F2 L2 H2 _ ((g1.trans g2).trans g3) R3 (.int _))
def aXJ{fs:FA}{fa:FE}(σ:L2.St)(H:Hp)(Q:VK)(h:aX X.K (uW fs fa) σ H Q):tBM X.K "list" (aNK X.K) (aFX (fG X.K fs)) (fG X.K (dU fa iS)) σ H Q:=by
 let(F,L,S,env,w,S',R,E,eq,q):=h;let(ws,S1,ys,wk,kk,e1,e2,hz,e3,e4,rfl):=aH2 eq;refine(F,L,S,env,ws,S1,R,E,e1,λ F1 L1 H1 vs g1 R1 d1=>?_,);have dl:=qW d1 e2;obtain rfl:=aDK dl;refine(by rw[<- dl.length];exact hz,λ p hp=>(.inl (rfl,_,cI.of dH,),?_,),);have g2:Gr F1 L1 (bL F1 p (.lst (ys.map V.str))) L1:=Gr.new (R1.sub.free hp);refine(_,L1,S1,env,[wk],S',R1.new hp,(E.mono g1).mono g2,?_,λ F2 L2 H2 us g3 R3 d3=>?_,)
 .unfold dU;rw[e3];rfl
 .cases d3 with
  |cons dd dr=>
    cases dr;cases aBu dd e4;exact(p,ys,kk,rfl,rfl,cI.of (R3.sub _ _ (g3.f _ _ dH)),q F2 L2 H2 _ ((g1.trans g2).trans g3) R3 (.int _),)
def sI(fa:FE)(fl fh:FO):FE:=λ env S=>(fa env S).bind λ p=>(fl env p.2).bind λ q=>(fh env q.2).bind λ r=>(dr r.2 p.1).bind λ d=>match d with|.list xs=>qz (.d (Lz (gK xs q.1 r.1)),r.2)|.tuple xs=>qz (.d (Tz (gK xs q.1 r.1)),r.2)|_=>qj
def gY(fa:FE):FL:=λ env S=>(fa env S).bind λ p=>match p.1 with|.d (Lz ds)=>qz (ds,p.2)|.d (Tz ds)=>qz (ds,p.2)|_=>qj
def bBG{lo hi:Option qy}{fa:FE}{fl fh:FO}(ha:PE X a (aX X.K fa))(hl:PO X lo (mX X.K fl))(hh:PO X hi (mX X.K fh)):PE X (.Subscript a (.Slice lo hi qj p2) pos) (aX X.K (sI fa fl fh)):=by
 rintro aB s σ H Q I ⟨F,L,S,env,w,S',R,E,e,q⟩;let((w1,S1),e1,e):=aQ e;let((l,S2),e2,e):=aQ e;let((h,S3),e3,e):=aQ e;let(d,e4,e):=aQ e;dsimp only at e e2 e3 e4;cases d with
 |list xs=>
   cases e;refine aN1 (bAy ha hl hh) aB s σ H Q I (F,L,S,env,_,_,R,E,?_,q,);unfold mD aNC;rw[e1];dsimp only[yCy];rw[e2];dsimp only;rw[e3];dsimp only;rw[e4];rfl
 |tuple xs=>
   cases e;refine aXN ha hl hh aB s σ H Q I (F,L,S,env,_,_,R,E,?_,q,);unfold aMm;rw[e1];dsimp only[yCy];rw[e2];dsimp only;rw[e3];dsimp only;rw[e4];dsimp only[aN8]
 |_=>cases e
def bBA{fa:FE}(ha:PE X a (aX X.K fa)):PI X tg a (kC X.K (gY fa)):=by
 rintro aB s σ H Rr I ⟨F,L,S,env,ds,S',R,E,e,q⟩;let((w1,S1),e1,e):=aQ e;dsimp only at e;split at e
 .rename_i ds';cases e;refine aZU ha aB s σ H Rr I (F,L,S,env,_,_,R,E,?_,q,);unfold aNN;rw[e1];rfl
 .cases e;refine aZw ha aB s σ H Rr I (F,L,S,env,_,_,R,E,?_,q,);unfold aNG;rw[e1];rfl
 .cases e
inductive Ty where
 |int|bool|str|lst|tup
 deriving DecidableEq
def Ty.s:Ty->String
 |.int => "int" |.bool => "bool" |.str => "str" |.lst => "list" |.tup => "tuple"
def Ty.n:Ty->Str
 |.int => "int" |.bool => "bool" |.str => "str" |.lst => "list" |.tup => "tuple"
def lG:Ty->D->Oz D
 |_,.dict _=>qj|.int,.int _=>qz (.bool Tt)|.int,.bool _=>qz (.bool Tt)|.bool,.bool _=>qz (.bool Tt)|.str,.str _=>qz (.bool Tt)|.lst,.list _=>qz (.bool Tt)|.tup,.tuple _=>qz (.bool Tt)|_,_=>qz (.bool Ff)
def aYz{i:Int}:lG .int (.int i)=qz (.bool Tt):=rfl
def bAR{i:Int}:lG .bool (.int i)=qz (.bool Ff):=rfl
def aMy{xs:Li D}:lG .tup (.tuple xs)=qz (.bool Tt):=rfl
def bAB:lG .bool (.bool b)=qz (.bool Tt):=rfl
def aZ7:lG .int (.bool b)=qz (.bool Tt):=rfl
def aWT(K:FrG)(h:lG ty d=qz z):zV K ty.s d=qz z:=by cases ty<;>cases d<;>first|(cases h;done)|(cases h;rfl)
inductive B where
 |len|mx|mn|int|tup|all|any
 deriving DecidableEq
def B.g:B->Li D->Oz D
 |.len=>lT|.mx=>qA|.mn=>lL|.int=>aFH|.tup=>rG|.all=>aCA|.any=>aCu
def B.n:B->Str
 |.len => "len" |.mx => "max" |.mn => "min" |.int => "int" |.tup => "tuple" |.all => "all" |.any => "any"
inductive E where
 |var (i:Nat)|int (i:Int)|bl (b:Bool)|non|str (x:Str)
 |bin (op:jw) (a b:E)|un (op:wq) (a:E)|cmp (op:jx) (a b:E)
 |and (a b:E)|or (a b:E)|not (a:E)|ite (c a b:E)
 |tup (es:E)|lst (es:E)|nil|cons (a r:E)
 |con (x:Str) (ts:List Tv)
 |ix (a b:E)|tab (x:Str) (aM:List (Str×Tv)) (k:E)|sl (a lo hi:E)|no
 |call (f:Nat) (es:E)|blt (b:B) (es:E)|isi (a:E) (n:Ty)|bits (a:E)|app (o a:E)|idx (o a:E)
 |lzip (a b:E)|lrep (a b:E)|comp (elt:E) (t:Tg) (it:E) (cond:E)
 |it (a:E)|rng1 (a:E)|rng2 (a b:E)|rng3 (a b c:E)|zip (a b:E)|zip3 (a b c:E)
 |fz (a:E)|new (a:E)
 |fld (a:E) (f:Str)|mth (m:Str) (f:Nat) (o es:E)|mk (ini:List (Str×Ini)) (np:Nat) (es:E)|tpl (es:E)|din (n:Bool) (k d:E)|dget (d k:E)|cou (b:Bool) (es a:E)
abbrev Calls:=Nat->Option (Nat×(List W->aE->Option (W×aE)))
def mP(C:Calls)(f:Nat)(fs:FA):FE:=λ env S=>match C f with|some (np,call)=>aB8 fs np call env S|none=>qj
def rM(C:Calls)(m:Str)(f:Nat)(fo:FE)(fs:FA):FE:=λ env S=>match C f with|some (np,call)=>aCh m fo fs np call env S|none=>qj
section
variable (C:Calls)
mutual
noncomputable def ev:E->FE
 |.var i=>lU i|.int i=>fC (.int i)|.bl b=>fC (.bool b)|.non=>fC .none|.str x=>fC (.str x)|.bin op a b=>sB op (ev a) (ev b)|.un op a=>fUn op (ev a)|.cmp op a b=>oO op (ev a) (ev b)|.and a b=>xV (ev a) (ev b)|.or a b=>aAb (ev a) (ev b)|.not a=>yT (ev a)|.ite c a b=>zD (tv c) (ev a) (ev b)|.tup es=>zK (av es)|.ix a b=>qL (ev a) (ev b)|.tab _ aM k=>f1 (ev k) (hB (aCi aM))|.con _ ts=>fC (.tuple (ts.map Tv.d))|.sl a lo hi=>sI (ev a) (ov lo) (ov hi)|.call f es=>mP C f (av es)|.blt b es=>rS (av es) b.g|.isi a n=>f1 (ev a) (hB (lG n))|.bits a=>aFh (ev a)|.app o a=>aCo (ev o) (ev a)|.idx o a=>aCr (ev o) (ev a)|.fz a=>mD (lv a)|.new a=>oP (lv a)|.fld a f=>aCy (ev a) f|.mth m f o es=>rM C m f (ev o) (av es)|.mk ini np es=>aBU ini np (av es)|.tpl es=>aCm (av es)|.din n k d=>uV n (ev k) (ev d)|.dget d k=>aB7 (ev d) (ev k)|.cou _ es a=>uW (av es) (ev a)|_=>λ _ _=>qj
noncomputable def tv:E->FT
 |.and a b=>zW (tv a) (tv b)|.or a b=>fOr (tv a) (tv b)|.not a=>aAe (tv a)|.var i=>dW (lU i)|.cmp op a b=>dW (oO op (ev a) (ev b))|.ix a b=>dW (qL (ev a) (ev b))|.call f es=>dW (mP C f (av es))|.blt b es=>dW (rS (av es) b.g)|.isi a n=>dW (f1 (ev a) (hB (lG n)))|.bin op a b=>dW (sB op (ev a) (ev b))|.bl b=>dW (fC (.bool b))|.no=>lI|.din n k d=>dW (uV n (ev k) (ev d))|_=>λ _ _=>qj
noncomputable def av:E->FA
 |.nil=>iS|.cons a r=>dU (ev a) (av r)|_=>λ _ _=>qj
noncomputable def ov:E->FO
 |.no=>fNo|.cons a .nil=>tW (ev a)|_=>λ _ _=>qj
noncomputable def lv:E->FL
 |.lst es=>aAh (av es)|.lzip a b=>xX (ev a) (ev b)|.lrep a b=>zP (ev a) (ev b)|.comp elt t it cond=>jC t (lv it) (tv cond) (ev elt)|.it a=>gY (ev a)|.rng1 a=>xT (ev a)|.rng2 a b=>yJ (ev a) (ev b)|.rng3 a b c=>xY (ev a) (ev b) (ev c)|.zip a b=>sF (ev a) (ev b)|.zip3 a b c=>aBW (ev a) (ev b) (ev c)|_=>λ _ _=>qj
end
inductive Sx where
 |skip|seq (a b:Sx)|expr (e:E)|ret (e:E)|nev
 |ifs (c:E) (a b:Sx)|set (i:Nat) (e:E)|setC (nw:Bool) (i:Nat) (e:E)|setT (t:Tg) (e:E)|put (o i e:E)|dput (o i e:E)
 |loop (t:Tg) (it:E) (b:Sx)
def xs:Sx->FS
 |.skip=>uG|.nev=>λ _ _=>qj|.seq a b=>kM (xs a) (xs b)|.expr e=>yF (ev C e)|.ret e=>qC (ev C e)|.ifs c a b=>oR (tv C c) (xs a) (xs b)|.set i e=>lM i (ev C e)
 |.setC nw i e=>lM i (match nw with|true=>oP (lv C e)|false=>mD (lv C e))
 |.setT t e=>yM t (ev C e)|.put o i e=>zN (ev C o) (ev C i) (ev C e)|.dput o i e=>aBX (ev C o) (ev C i) (ev C e)|.loop t it b=>pZ t (lv C it) (xs b)
theorem aE4{i}:ev C (.var i)=lU i:=rfl
theorem aWb{i}:ev C (.int i)=fC (.int i):=rfl
theorem aYV{b}:ev C (.bl b)=fC (.bool b):=rfl
theorem aWP:ev C .non=fC .none:=rfl
theorem aVX{x}:ev C (.str x)=fC (.str x):=rfl
theorem aLl{op a b}:ev C (.bin op a b)=sB op (ev C a) (ev C b):=rfl
theorem aMS{op a}:ev C (.un op a)=fUn op (ev C a):=rfl
theorem aES{op a b}:ev C (.cmp op a b)=oO op (ev C a) (ev C b):=rfl
theorem aLV{a b}:ev C (.and a b)=xV (ev C a) (ev C b):=rfl
theorem aMl{a b}:ev C (.or a b)=aAb (ev C a) (ev C b):=rfl
theorem aL2{a}:ev C (.not a)=yT (ev C a):=rfl
theorem aLG{c a b}:ev C (.ite c a b)=zD (tv C c) (ev C a) (ev C b):=rfl
theorem aLr{es}:ev C (.tup es)=zK (av C es):=rfl
theorem aFm{a b}:ev C (.ix a b)=qL (ev C a) (ev C b):=rfl
theorem aWz{n0 aM k}:ev C (.tab n0 aM k)=f1 (ev C k) (hB (aCi aM)):=rfl
theorem aW8{n0 ts}:ev C (.con n0 ts)=fC (.tuple (ts.map Tv.d)):=rfl
theorem aFu{a lo hi}:ev C (.sl a lo hi)=sI (ev C a) (ov C lo) (ov C hi):=rfl
theorem aJK{f es}:ev C (.call f es)=mP C f (av C es):=rfl
theorem aKZ{b es}:ev C (.blt b es)=rS (av C es) b.g:=rfl
theorem aK2{a n}:ev C (.isi a n)=f1 (ev C a) (hB (lG n)):=rfl
theorem aTb{a}:ev C (.bits a)=aFh (ev C a):=rfl
theorem aLX{o a}:ev C (.app o a)=aCo (ev C o) (ev C a):=rfl
theorem aX0{o a}:ev C (.idx o a)=aCr (ev C o) (ev C a):=rfl
theorem aMv{a}:ev C (.fz a)=mD (lv C a):=rfl
theorem aK0{a}:ev C (.new a)=oP (lv C a):=rfl
theorem aXM{a f}:ev C (.fld a f)=aCy (ev C a) f:=rfl
theorem aXH{m f o es}:ev C (.mth m f o es)=rM C m f (ev C o) (av C es):=rfl
theorem aZf{ini np es}:ev C (.mk ini np es)=aBU ini np (av C es):=rfl
theorem aXD{es}:ev C (.tpl es)=aCm (av C es):=rfl
theorem aTp{d k}:ev C (.dget d k)=aB7 (ev C d) (ev C k):=rfl
theorem aVi{b es a}:ev C (.cou b es a)=uW (av C es) (ev C a):=rfl
theorem aYd{n k d}:tv C (.din n k d)=dW (uV n (ev C k) (ev C d)):=rfl
theorem aLJ{a b}:tv C (.and a b)=zW (tv C a) (tv C b):=rfl
theorem aNh{a b}:tv C (.or a b)=fOr (tv C a) (tv C b):=rfl
theorem aL6{a}:tv C (.not a)=aAe (tv C a):=rfl
theorem aVC{i}:tv C (.var i)=dW (lU i):=rfl
theorem aLA{op a b}:tv C (.cmp op a b)=dW (oO op (ev C a) (ev C b)):=rfl
theorem bAK{a b}:tv C (.ix a b)=dW (qL (ev C a) (ev C b)):=rfl
theorem aUO{f es}:tv C (.call f es)=dW (mP C f (av C es)):=rfl
theorem aV2{b es}:tv C (.blt b es)=dW (rS (av C es) b.g):=rfl
theorem aWw{a n}:tv C (.isi a n)=dW (f1 (ev C a) (hB (lG n))):=rfl
theorem aXd{op a b}:tv C (.bin op a b)=dW (sB op (ev C a) (ev C b)):=rfl
theorem aYr{b}:tv C (.bl b)=dW (fC (.bool b)):=rfl
theorem bAh:tv C .no=lI:=rfl
theorem aXC:av C .nil=iS:=rfl
theorem aKw{a r}:av C (.cons a r)=dU (ev C a) (av C r):=rfl
theorem aYv:ov C .no=fNo:=rfl
theorem aKP{a}:ov C (.cons a .nil)=tW (ev C a):=rfl
theorem aLY{es}:lv C (.lst es)=aAh (av C es):=rfl
theorem aS4{a b}:lv C (.lzip a b)=xX (ev C a) (ev C b):=rfl
theorem aD3{a b c}:lv C (.rng3 a b c)=xY (ev C a) (ev C b) (ev C c):=rfl
theorem aS6{a b}:lv C (.lrep a b)=zP (ev C a) (ev C b):=rfl
theorem aST{elt t it cond}:lv C (.comp elt t it cond)=jC t (lv C it) (tv C cond) (ev C elt):=rfl
theorem aFd{a}:lv C (.it a)=gY (ev C a):=rfl
theorem aBe{a}:lv C (.rng1 a)=xT (ev C a):=rfl
theorem aDR{a b}:lv C (.rng2 a b)=yJ (ev C a) (ev C b):=rfl
theorem aEA{a b}:lv C (.zip a b)=sF (ev C a) (ev C b):=rfl
theorem aD1{a b c}:lv C (.zip3 a b c)=aBW (ev C a) (ev C b) (ev C c):=rfl
theorem aJM:xs C .skip=uG:=rfl
theorem rE{a b}:xs C (.seq a b)=kM (xs C a) (xs C b):=rfl
theorem aJR{e}:xs C (.expr e)=yF (ev C e):=rfl
theorem aEm{e}:xs C (.ret e)=qC (ev C e):=rfl
theorem tO{c a b}:xs C (.ifs c a b)=oR (tv C c) (xs C a) (xs C b):=rfl
theorem aEO{i e}:xs C (.set i e)=lM i (ev C e):=rfl
theorem aKT{nw i e}:xs C (.setC nw i e)=lM i (match nw with|true=>oP (lv C e)|false=>mD (lv C e)):=rfl
theorem aKQ{t e}:xs C (.setT t e)=yM t (ev C e):=rfl
theorem aLh{o i e}:xs C (.put o i e)=zN (ev C o) (ev C i) (ev C e):=rfl
theorem aTu{o i e}:xs C (.dput o i e)=aBX (ev C o) (ev C i) (ev C e):=rfl
theorem aTW{t it b}:xs C (.loop t it b)=pZ t (lv C it) (xs C b):=rfl
end
def no{P:Prop}(h:Ff=Tt):P:=by cases h
def eJ(h:(a&&b)=Tt):a=Tt/\b=Tt:=by
 cases a with
 |false=>exact no h|true=>exact(rfl,h,)
def aL(h:(a&&b)=Tt):a=Tt:=(eJ h).1
def aR(h:(a&&b)=Tt):b=Tt:=(eJ h).2
def fZ{f:c->Bool}(h:(@dite _ c d f λ _=>Ff)=Tt):c:=by
 cases d with
 |isTrue k=>exact k|isFalse _=>exact no h
def jI(k:Str->Pos->Bool)(x:qy):Bool:=if h:x.ctorIdx=23 then @Expr.Name.elim (λ _=>Bool) x h k else Ff
def mU{P:qy->Prop}{k:Str->Pos->Bool}(h:jI k x=Tt)(g:∀ a b,k a b=Tt->P (.Name a b)):P x:=@Expr.Name.elim (λ e=>jI k e=Tt->P e) x (fZ h) g h
def kCo(k:Const->Nat->Pos->Bool)(x:qy):Bool:=if h:x.ctorIdx=19 then @Expr.Constant.elim (λ _=>Bool) x h k else Ff
def bBt{P:qy->Prop}{k:Const->Nat->Pos->Bool}(h:kCo k x=Tt)(g:∀ a b c,k a b c=Tt->P (.Constant a b c)):P x:=@Expr.Constant.elim (λ e=>kCo k e=Tt->P e) x (fZ h) g h
def kBi(k:qy->jw->qy->Pos->Bool)(x:qy):Bool:=if h:x.ctorIdx=2 then @Expr.BinOp.elim (λ _=>Bool) x h k else Ff
def aNs{P:qy->Prop}{k:qy->jw->qy->Pos->Bool}(h:kBi k x=Tt)(g:∀ a b c d,k a b c d=Tt->P (.BinOp a b c d)):P x:=@Expr.BinOp.elim (λ e=>kBi k e=Tt->P e) x (fZ h) g h
def kUn(k:wq->qy->Pos->Bool)(x:qy):Bool:=if h:x.ctorIdx=3 then @Expr.UnaryOp.elim (λ _=>Bool) x h k else Ff
def aF5{P:qy->Prop}{k:wq->qy->Pos->Bool}(h:kUn k x=Tt)(g:∀ a b c,k a b c=Tt->P (.UnaryOp a b c)):P x:=@Expr.UnaryOp.elim (λ e=>kUn k e=Tt->P e) x (fZ h) g h
def kCm(k:qy->List jx->List qy->Pos->Bool)(x:qy):Bool:=if h:x.ctorIdx=15 then @Expr.Compare.elim (λ _=>Bool) x h k else Ff
def bAY{P:qy->Prop}{k:qy->List jx->List qy->Pos->Bool}(h:kCm k x=Tt)(g:∀ a b c d,k a b c d=Tt->P (.Compare a b c d)):P x:=@Expr.Compare.elim (λ e=>kCm k e=Tt->P e) x (fZ h) g h
def kBo(k:BoolOp->List qy->Pos->Bool)(x:qy):Bool:=if h:x.ctorIdx=0 then @Expr.BoolOp.elim (λ _=>Bool) x h k else Ff
def bBS{P:qy->Prop}{k:BoolOp->List qy->Pos->Bool}(h:kBo k x=Tt)(g:∀ a b c,k a b c=Tt->P (.BoolOp a b c)):P x:=@Expr.BoolOp.elim (λ e=>kBo k e=Tt->P e) x (fZ h) g h
def kIe(k:qy->qy->qy->Pos->Bool)(x:qy):Bool:=if h:x.ctorIdx=5 then @Expr.IfExp.elim (λ _=>Bool) x h k else Ff
def bBV{P:qy->Prop}{k:qy->qy->qy->Pos->Bool}(h:kIe k x=Tt)(g:∀ a b c d,k a b c d=Tt->P (.IfExp a b c d)):P x:=@Expr.IfExp.elim (λ e=>kIe k e=Tt->P e) x (fZ h) g h
def sP(k:List qy->Nat->Pos->Bool)(x:qy):Bool:=if h:x.ctorIdx=25 then @Expr.Tuple.elim (λ _=>Bool) x h k else Ff
def sE{P:qy->Prop}{k:List qy->Nat->Pos->Bool}(h:sP k x=Tt)(g:∀ a b c,k a b c=Tt->P (.Tuple a b c)):P x:=@Expr.Tuple.elim (λ e=>sP k e=Tt->P e) x (fZ h) g h
def kLi(k:List qy->Pos->Bool)(x:qy):Bool:=if h:x.ctorIdx=24 then @Expr.List.elim (λ _=>Bool) x h k else Ff
def aF2{P:qy->Prop}{k:List qy->Pos->Bool}(h:kLi k x=Tt)(g:∀ a b,k a b=Tt->P (.List a b)):P x:=@Expr.List.elim (λ e=>kLi k e=Tt->P e) x (fZ h) g h
def kSu(k:qy->qy->Pos->Bool)(x:qy):Bool:=if h:x.ctorIdx=21 then @Expr.Subscript.elim (λ _=>Bool) x h k else Ff
def aNI{P:qy->Prop}{k:qy->qy->Pos->Bool}(h:kSu k x=Tt)(g:∀ a b c,k a b c=Tt->P (.Subscript a b c)):P x:=@Expr.Subscript.elim (λ e=>kSu k e=Tt->P e) x (fZ h) g h
def kSl(k:Option qy->Option qy->Option qy->Pos->Bool)(x:qy):Bool:=if h:x.ctorIdx=26 then @Expr.Slice.elim (λ _=>Bool) x h k else Ff
def bBy{P:qy->Prop}{k:Option qy->Option qy->Option qy->Pos->Bool}(h:kSl k x=Tt)(g:∀ a b c d,k a b c d=Tt->P (.Slice a b c d)):P x:=@Expr.Slice.elim (λ e=>kSl k e=Tt->P e) x (fZ h) g h
def kDi(k:Li (Option qy)->List qy->Pos->Bool)(x:qy):Bool:=if h:x.ctorIdx=6 then @Expr.Dict.elim (λ _=>Bool) x h k else Ff
def bAZ{P:qy->Prop}{k:Li (Option qy)->List qy->Pos->Bool}(h:kDi k x=Tt)(g:∀ a b c,k a b c=Tt->P (.Dict a b c)):P x:=@Expr.Dict.elim (λ e=>kDi k e=Tt->P e) x (fZ h) g h
def kCa(k:qy->List qy->Li Keyword->Pos->Bool)(x:qy):Bool:=if h:x.ctorIdx=16 then @Expr.Call.elim (λ _=>Bool) x h k else Ff
def aN2{P:qy->Prop}{k:qy->List qy->Li Keyword->Pos->Bool}(h:kCa k x=Tt)(g:∀ a b c d,k a b c d=Tt->P (.Call a b c d)):P x:=@Expr.Call.elim (λ e=>kCa k e=Tt->P e) x (fZ h) g h
def kAt(k:qy->Str->Pos->Bool)(x:qy):Bool:=if h:x.ctorIdx=20 then @Expr.Attribute.elim (λ _=>Bool) x h k else Ff
def aFZ{P:qy->Prop}{k:qy->Str->Pos->Bool}(h:kAt k x=Tt)(g:∀ a b c,k a b c=Tt->P (.Attribute a b c)):P x:=@Expr.Attribute.elim (λ e=>kAt k e=Tt->P e) x (fZ h) g h
def kLc(k:qy->Li Comprehension->zw->Pos->Bool)(x:qy):Bool:=if h:x.ctorIdx=8 then @Expr.ListComp.elim (λ _=>Bool) x h k else Ff
def bBu{P:qy->Prop}{k:qy->Li Comprehension->zw->Pos->Bool}(h:kLc k x=Tt)(g:∀ a b c d,k a b c d=Tt->P (.ListComp a b c d)):P x:=@Expr.ListComp.elim (λ e=>kLc k e=Tt->P e) x (fZ h) g h
def kEx(k:qy->Pos->Bool)(x:xk):Bool:=if h:x.ctorIdx=24 then @Stmt.Expr.elim (λ _=>Bool) x h k else Ff
def bBQ{P:xk->Prop}{k:qy->Pos->Bool}(h:kEx k x=Tt)(g:∀ a b,k a b=Tt->P (.Expr a b)):P x:=@Stmt.Expr.elim (λ e=>kEx k e=Tt->P e) x (fZ h) g h
def kRe(k:Option qy->Pos->Bool)(x:xk):Bool:=if h:x.ctorIdx=3 then @Stmt.Return.elim (λ _=>Bool) x h k else Ff
def bBs{P:xk->Prop}{k:Option qy->Pos->Bool}(h:kRe k x=Tt)(g:∀ a b,k a b=Tt->P (.Return a b)):P x:=@Stmt.Return.elim (λ e=>kRe k e=Tt->P e) x (fZ h) g h
def kSf(k:qy->List xk->List xk->Pos->Bool)(x:xk):Bool:=if h:x.ctorIdx=12 then @Stmt.If.elim (λ _=>Bool) x h k else Ff
def bBE{P:xk->Prop}{k:qy->List xk->List xk->Pos->Bool}(h:kSf k x=Tt)(g:∀ a b c d,k a b c d=Tt->P (.If a b c d)):P x:=@Stmt.If.elim (λ e=>kSf k e=Tt->P e) x (fZ h) g h
def qN(k:List qy->qy->Pos->Bool)(x:xk):Bool:=if h:x.ctorIdx=5 then @Stmt.Assign.elim (λ _=>Bool) x h k else Ff
def uL{P:xk->Prop}{k:List qy->qy->Pos->Bool}(h:qN k x=Tt)(g:∀ a b c,k a b c=Tt->P (.Assign a b c)):P x:=@Stmt.Assign.elim (λ e=>qN k e=Tt->P e) x (fZ h) g h
def kFo(k:qy->qy->List xk->List xk->Pos->Bool)(x:xk):Bool:=if h:x.ctorIdx=9 then @Stmt.For.elim (λ _=>Bool) x h k else Ff
def bBv{P:xk->Prop}{k:qy->qy->List xk->List xk->Pos->Bool}(h:kFo k x=Tt)(g:∀ a b c d e,k a b c d e=Tt->P (.For a b c d e)):P x:=@Stmt.For.elim (λ e=>kFo k e=Tt->P e) x (fZ h) g h
def jF{α:Type}(k:α->Bool)(l:List α):Bool:=match l with|[a]=>k a|_=>Ff
def jP{α:Type}{P:List α->Prop}{k:α->Bool}:∀ {l:List α},jF k l=Tt->(∀ a,k a=Tt->P [a])->P l
 |[],h,_=>no h|[a],h,g=>g a h|_::_::_,h,_=>no h
def aFE{α:Type}(k:α->α->Bool)(l:List α):Bool:=match l with|a::r=>jF (k a) r|[]=>Ff
def aMC{α:Type}{P:List α->Prop}{k:α->α->Bool}:∀ {l:List α},aFE k l=Tt->(∀ a b,k a b=Tt->P [a,b])->P l
 |[],h,_=>no h|a::_,h,g=>jP (P:=λ r=>P (a::r)) h (g a)
def aNz{α:Type}(k:α->α->α->Bool)(l:List α):Bool:=match l with|a::r=>aFE (k a) r|[]=>Ff
def bAa{α:Type}{P:List α->Prop}{k:α->α->α->Bool}:∀ {l:List α},aNz k l=Tt->(∀ a b c,k a b c=Tt->P [a,b,c])->P l
 |[],h,_=>no h|a::_,h,g=>aMC (P:=λ r=>P (a::r)) h (g a)
def kH{α:Type}{P:List α->Prop}:∀ {l:List α},l.isEmpty=Tt->P []->P l
 |[],_,g=>g|_::_,h,_=>no h
def aFJ{α:Type}(o:Option α):Bool:=match o with|none=>Tt|some _=>Ff
def aMn{α:Type}{P:Option α->Prop}:∀ {o:Option α},aFJ o=Tt->P qj->P o
 |none,_,g=>g|some _,h,_=>no h
def aMs{α:Type}{P:Option α->Prop}{k:α->Bool}:∀ {o:Option α},o.any k=Tt->(∀ a,k a=Tt->P (qz a))->P o
 |none,h,_=>no h|some a,h,g=>g a h
def dT{p:Prop}{d:Decidable p}(h:decide p=Tt):p:=oqT h
def qJ(sc:zw)(x:Str):Bool:=match sc.names.lookup x with
 |some .local=>Tt|some .cell=>Tt|some .free=>Tt|_=>Ff
def loc(sc:zw)(x:Str):Bool:=match sc.names.lookup x with
 |some .local=>Tt|some .cell=>Tt|_=>Ff
def aMW(e:E):Bool:=decide (e.ctorIdx=E.nil.ctorIdx)
def bBO{P:E->Prop}(h:aMW e=Tt)(g:P .nil):P e:=@E.nil.elim P e (dT h) g
def any_some{α:Type}{o:Option α}{p:α->Bool}(h:o.any p=Tt):∃ a,o=qz a/\p a=Tt:=by
 cases o with
 |none=>cases h|some a=>exact(a,rfl,h,)
def lo(sc:zw)(x:Str):Bool:=decide (sc.names.lookup x=qz .local)
def gl(sc:zw)(x:Str):Bool:=decide (sc.names.lookup x=qz .globalImplicit)
def dM(e:qy):Bool:=![7,22,26].contains e.ctorIdx
def mW(e:qy):Bool:=![0,3,5,15].contains e.ctorIdx
def tN(e:qy):Bool:=![16].contains e.ctorIdx
def pP(e:qy):Bool:=![8,9,10].contains e.ctorIdx
def yL(e:qy):Bool:=sP (λ _ _ _=>Tt) e
def mJ:List qy->Bool
 |[]=>Tt|e::r=>dM e&&mJ r
def rY(scope osc:zw):zw:={scope with names:=scope.names.map λ(n,k)=>if (k==.free&&osc.kind==.function&&osc.names.lookup n==qz .cell) then (n,.cell) else (n,k) }
def aFi(scope osc:zw):Bool:=decide (scope.kind=.function)&&scope.names.all λ x=>(!decide (x.2=.cell))&&(!decide (x.2=.free)||decide (osc.names.lookup x.1=qz .cell)||decide (osc.names.lookup x.1=qz .free))&&(!decide (x.2=.local)||decide (scope.names.lookup x.1=qz .local))
def aCz(N:Li Str)(scope:zw)(is:Li Nat):Nat->Bool
 |0=>Tt
 | n+1=>aCz N scope is n&&(match N[n]? with
   |some x=>!decide (scope.names.lookup x=qz .local)||is.contains n
   | none=>Tt)
def aEE(b:Bool)(N:Li Str)(sc:zw)(i:Nat)(x:Str):Bool:=decide (N[i]?=qz x)&&(match b with
 |true=>decide (sc.names.lookup x=qz .local)
 | false=>loc sc x)
def aDW(b:Bool)(N:Li Str)(sc:zw):Li Nat->List qy->Bool
 |[],es=>es.isEmpty
 | i::is,es=>(match es with
   |e::r=>jI (λ x _=>aEE b N sc i x&&aDW b N sc is r) e
   | []=>Ff)
def aAa(b:Bool)(N:Li Str)(sc:zw)(t:Tg)(e:qy):Bool:=match t with|.one i=>jI (λ x _=>aEE b N sc i x) e|.many is=>sP (λ es _ _=>aDW b N sc is es) e
def aKl(e:E):Bool:=decide (e.ctorIdx=(E.comp .no (.one 0) .no .no).ctorIdx)
def bAT{P:E->Prop}(h:aKl e=Tt)(g:∀ a t b c,P (.comp a t b c)):P e:=@E.comp.elim P e (dT h) g
def aFY(e:E):Bool:=decide (e.ctorIdx=E.no.ctorIdx)
def aNA{P:E->Prop}(h:aFY e=Tt)(g:P .no):P e:=@E.no.elim P e (dT h) g
def uK(c:Const)(e:qy):Bool:=kCo (λ d _ _=>decide (d=c)) e
def aBY{P:qy->Prop}(h:uK c x=Tt)(g:∀ k p,P (.Constant c k p)):P x:=
 bBt h λ _ k p z=>(dT z)▸g k p
def zR(k:qy->jx->qy->Bool)(e:qy):Bool:=kCm (λ x os ys _=>jF (λ o=>jF (λ y=>k x o y&&dM y) ys) os) e
def aBH{P:qy->Prop}{k:qy->jx->qy->Bool}(h:zR k x=Tt)(g:∀ a o b p,k a o b=Tt->dM b=Tt->P (.Compare a [o] [b] p)):P x:=
 bAY h λ a os _ p z=>jP (P:=λ os=>P (.Compare a os _ p)) z λ o z=>jP (P:=λ ys=>P (.Compare a [o] ys p)) z λ b z=>g a o b p (aL z) (aR z)
def xU(op:BoolOp)(k:qy->qy->Bool)(e:qy):Bool:=kBo (λ o es p=>decide (o=op)&&(match es with
 |[x,y]=>k x y|x::y::z::r=>k x (.BoolOp op (y::z::r) p)
 | _=>Ff)) e
def aBG{P:qy->Prop}{k:qy->qy->Bool}(h:xU op k x=Tt)(g:∀ a b p,k a b=Tt->P (.BoolOp op [a,b] p))(f:∀ a b c r p,k a (.BoolOp op (b::c::r) p)=Tt->P (.BoolOp op (a::b::c::r) p)):P x:=
 bBS h λ o es p z=>by
  obtain rfl:=dT (aL z)
  match es,aR z with
  |[a,b],z=>exact g a b p z|a::b::c::r,z=>exact f a b c r p z|[],z=>exact no z|[_],z=>exact no z
def sQ(k:qy->qy->Bool)(e:qy):Bool:=kSu (λ x y _=>k x y&&dM y) e
def yU{P:qy->Prop}{k:qy->qy->Bool}(h:sQ k x=Tt)(g:∀ a b p,k a b=Tt->dM b=Tt->P (.Subscript a b p)):P x:=aNI h λ a b p z=>g a b p (aL z) (aR z)
def aNB(k:qy->Option qy->Option qy->Bool)(e:qy):Bool:=kSu (λ x s _=>kSl (λ l h t _=>aFJ t&&k x l h) s) e
def bAe{P:qy->Prop}{k:qy->Option qy->Option qy->Bool}(h:aNB k x=Tt)(g:∀ a l u p q,k a l u=Tt->P (.Subscript a (.Slice l u qj p) q)):P x:=
 aNI h λ a _ q z=>bBy (P:=λ s=>P (.Subscript a s q)) z λ l u _ p z=>aMn (P:=λ t=>P (.Subscript a (.Slice l u t p) q)) (aL z) (g a l u p q (aR z))
def oF(k:Str->List qy->Bool)(e:qy):Bool:=kCa (λ f xs ks _=>jI (λ n _=>ks.isEmpty&&k n xs) f) e
def tU{P:qy->Prop}{k:Str->List qy->Bool}(h:oF k x=Tt)(g:∀ n p xs q,k n xs=Tt->P (.Call (.Name n p) xs [] q)):P x:=
 aN2 h λ _ xs ks q z=>mU (P:=λ f=>P (.Call f xs ks q)) z λ n p z=>kH (P:=λ ks=>P (.Call (.Name n p) xs ks q)) (aL z) (g n p xs q (aR z))
def kB1(nm:Str)(sc:zw)(k:qy->Bool)(e:qy):Bool:=oF (λ n xs=>decide (n=nm)&&gl sc n&&jF (λ y=>k y&&dM y) xs) e
def aN9{P:qy->Prop}{k:qy->Bool}(h:kB1 nm sc k x=Tt)(g:∀ p y q,gl sc nm=Tt->k y=Tt->dM y=Tt->P (.Call (.Name nm p) [y] [] q)):P x:=
 tU h λ n p xs q z=>by
  obtain rfl:=dT (aL (aL z));exact jP (P:=λ xs=>P (.Call (.Name n p) xs [] q)) (aR z) λ y u=>g p y q (aR (aL z)) (aL u) (aR u)
def vF(nm:Str)(sc:zw)(k l:qy->Bool)(e:qy):Bool:=oF (λ n xs=>decide (n=nm)&&gl sc n&&aFE (λ y z=>(k y&&dM y)&&(l z&&dM z)) xs) e
def aCd{P:qy->Prop}{k l:qy->Bool}(h:vF nm sc k l x=Tt)(g:∀ p y z q,gl sc nm=Tt->k y=Tt->dM y=Tt->l z=Tt->dM z=Tt->P (.Call (.Name nm p) [y,z] [] q)):P x:=
 tU h λ n p xs q z=>by
  obtain rfl:=dT (aL (aL z));exact aMC (P:=λ xs=>P (.Call (.Name n p) xs [] q)) (aR z) λ y w u=>g p y w q (aR (aL z)) (aL (aL u)) (aR (aL u)) (aL (aR u)) (aR (aR u))
def kB3(nm:Str)(sc:zw)(k l m:qy->Bool)(e:qy):Bool:=oF (λ n xs=>decide (n=nm)&&gl sc n&&aNz (λ y z w=>(k y&&dM y)&&((l z&&dM z)&&(m w&&dM w))) xs) e
def aN4{P:qy->Prop}{k l m:qy->Bool}(h:kB3 nm sc k l m x=Tt)(g:∀ p y z w q,gl sc nm=Tt->k y=Tt->dM y=Tt->l z=Tt->dM z=Tt->m w=Tt->dM w=Tt->P (.Call (.Name nm p) [y,z,w] [] q)):P x:=
 tU h λ n p xs q z=>by
  obtain rfl:=dT (aL (aL z));exact bAa (P:=λ xs=>P (.Call (.Name n p) xs [] q)) (aR z) λ y w v u=>g p y w v q (aR (aL z)) (aL (aL u)) (aR (aL u)) (aL (aL (aR u))) (aR (aL (aR u))) (aL (aR (aR u))) (aR (aR (aR u)))
def kMe(nm:Str)(k:qy->List qy->Bool)(e:qy):Bool:=kCa (λ f xs ks cp=>kAt (λ o m ap=>ks.isEmpty&&(ap.endLine==cp.line)&&decide (m=nm)&&tN o&&k o xs) f) e
def aCg{P:qy->Prop}{k:qy->List qy->Bool}(h:kMe nm k x=Tt)(g:∀ o ap xs cp,(ap.endLine==cp.line)=Tt->tN o=Tt->k o xs=Tt->P (.Call (.Attribute o nm ap) xs [] cp)):P x:=
 aN2 h λ _ xs ks cp z=>aFZ (P:=λ f=>P (.Call f xs ks cp)) z λ o m ap z=>by
  obtain rfl:=dT (aR (aL (aL z)));exact kH (P:=λ ks=>P (.Call (.Attribute o m ap) xs ks cp)) (aL (aL (aL (aL z)))) (g o ap xs cp (aR (aL (aL (aL z)))) (aR (aL z)) (aR z))
def aFO(nm:Str)(k l:qy->Bool)(e:qy):Bool:=kMe nm (λ o xs=>k o&&jF (λ y=>l y&&dM y) xs) e
def aMk{P:qy->Prop}{k l:qy->Bool}(h:aFO nm k l x=Tt)(g:∀ o ap y cp,(ap.endLine==cp.line)=Tt->tN o=Tt->k o=Tt->l y=Tt->dM y=Tt->P (.Call (.Attribute o nm ap) [y] [] cp)):P x:=
 aCg h λ o ap xs cp h1 h2 z=>jP (P:=λ xs=>P (.Call (.Attribute o nm ap) xs [] cp)) (aR z) λ y u=>g o ap y cp h1 h2 (aL z) (aL u) (aR u)
def aMu(k:qy->qy->qy->List qy->zw->Bool)(e:qy):Bool:=kLc (λ el gs sc _=>jF (λ g=>decide (g.is_async=0)&&k el g.target g.iter g.ifs sc) gs) e
def aXG{P:qy->Prop}{k:qy->qy->qy->List qy->zw->Bool}(h:aMu k x=Tt)(g:∀ e tg it ifs sc p,k e tg it ifs sc=Tt->P (.ListComp e [⟨tg,it,ifs,0⟩] sc p)):P x:=
 bBu h λ e _ sc p z=>jP (P:=λ gs=>P (.ListComp e gs sc p)) z λ bC z=>by
  let(tg,it,ifs,as):=bC;obtain rfl:as=0:=dT (aL z);exact g e tg it ifs sc p (aR z)
def aNx(N:Li Str)(t:Tg)(cond:E)(sc:zw)(fI:qy->qy->Bool)(fT fE:zw->qy->Bool)(x:qy):Bool:=aMu (λ e tg iter ifs scope=>aFi scope sc&&aCz N scope t.slots N.length&&aAa Tt N (rY scope sc) t tg&&fI tg iter&&dM iter &&
 (match ifs with | []=>aFY cond | y::r=>r.isEmpty&&fT (rY scope sc) y)&&fE (rY scope sc) e) x
def aNl{P:qy->Prop}{cond:E}{fI:qy->qy->Bool}{fT fE:zw->qy->Bool}(h:aNx N t cond sc fI fT fE x=Tt)(g:∀ e tg iter ifs scope p,aFi scope sc=Tt->aCz N scope t.slots N.length=Tt->aAa Tt N (rY scope sc) t tg=Tt->fI tg iter=Tt->dM iter=Tt->(match ifs with|[]=>aFY cond|y::r=>r.isEmpty&&fT (rY scope sc) y)=Tt->fE (rY scope sc) e=Tt->P (.ListComp e [(tg,iter,ifs,0,)] scope p)):P x:=
 aXG h λ e tg iter ifs scope p h=>g e tg iter ifs scope p (aL (aL (aL (aL (aL (aL h)))))) (aR (aL (aL (aL (aL (aL h)))))) (aR (aL (aL (aL (aL h))))) (aR (aL (aL (aL h)))) (aR (aL (aL h))) (aR (aL h)) (aR h)
structure Tx where
 fn:List (Str×Nat)
 tb:List (Str×List (Str×Tv))
 cn:List (Str×List Tv)
 st:List (Str×Str)
 mt:List (Str×Nat)
 mo:Option (List (Str×Ini)×Nat)
def aEx(T:Tx)(f:Nat)(x:Str):Bool:=decide ((T.fn[f]?).map (·.1)=qz x) && !(T.mt.any λ p=>decide (p.2=f))
def aZn(T:Tx)(f:Str):Bool:=T.mo.any λ m=>m.1.any λ p=>decide (p.1=f)
section
variable (T:Tx)(N:List Str)
mutual
noncomputable def bR:E->zw->qy->Bool
 |.var i,sc,x=>jI (λ x _=>decide (N[i]?=qz x)&&qJ sc x && !(x==("__debug__" : Str)) && !(x==("__classdict__" : Str))) x|.int i,_,x=>uK (.int i) x|.bl i,_,x=>uK (.bool i) x|.non,_,x=>uK .none x|.str i,_,x=>uK (.str i) x|.bin op a b,sc,x=>kBi (λ x op' y _=>decide (op'=op)&&bR a sc x&&bR b sc y) x|.un op a,sc,x=>kUn (λ op' x _=>decide (op'=op) && !decide (op=.Not)&&bR a sc x) x|.cmp op a b,sc,x=>zR (λ x op' y=>decide (op'=op)&&bR a sc x&&bR b sc y) x|.and a b,sc,x=>xU .And (λ x y=>bR a sc x&&bR b sc y) x|.or a b,sc,x=>xU .Or (λ x y=>bR a sc x&&bR b sc y) x|.not a,sc,x=>kUn (λ o x _=>decide (o=.Not)&&bR a sc x) x|.ite c a b,sc,x=>kIe (λ x y z _=>nC c sc x&&bR a sc y&&bR b sc z) x|.tup es,sc,x=>sP (λ xs _ _=>jK es sc xs) x|.ix a b,sc,x=>sQ (λ x y=>bR a sc x&&bR b sc y) x|.con n ts,sc,x=>jI (λ x _=>decide (x=n)&&T.cn.contains (n,ts)&&gl sc x && !(x==("__debug__" : Str))) x|.tab n aM k,sc,x=>sQ (λ x y=>bR k sc y&&jI (λ x _=>decide (x=n)&&T.tb.contains (n,aM)&&gl sc x && !(x==("__debug__" : Str))) x) x|.sl a lo hi,sc,x=>aNB (λ x l h=>bR a sc x&&okO lo sc l&&okO hi sc h) x|.call f es,sc,x=>oF (λ x xs=>aEx T f x&&gl sc x && !(x==("__debug__" : Str))&&jK es sc xs&&mJ xs) x|.blt b es,sc,x=>oF (λ x ys=>!ys.isEmpty&&decide (x=b.n)&&gl sc x&&jK es sc ys&&mJ ys) x|.isi a n,sc,x=>vF "isinstance" sc (λ y=>bR a sc y) (λ z=>jI (λ z _=>decide (z=n.n)&&gl sc z) z) x|.bits a,sc,x=>kMe "bit_length" (λ x ys=>bR a sc x&&ys.isEmpty) x|.app o a,sc,x=>aFO "append" (λ x=>bR o sc x) (λ y=>bR a sc y) x|.idx o a,sc,x=>aFO "index" (λ x=>bR o sc x) (λ y=>bR a sc y) x|.fz a,sc,e=>okL a sc e|.new a,sc,e=>okL a sc e|.fld a f,sc,x=>kAt (λ o g _=>decide (g=f)&&tN o&&aZn T f&&bR a sc o) x|.mth m f o es,sc,x=>kMe m (λ y ys=>decide ((m,f)∈T.mt)&&bR o sc y&&jK es sc ys&&mJ ys && !ys.isEmpty&&decide (↑ys<30)) x|.mk ini np es,sc,x=>oF (λ x xs=>decide (T.mo=qz (ini,np))&&decide (x = "Maker")&&gl sc x&&jK es sc xs&&mJ xs && !xs.isEmpty) x|.tpl es,sc,x=>sP (λ xs _ _=>jK es sc xs) x|.din n k d,sc,x=>zR (λ x op' y=>decide (op'=aFw n)&&bR k sc x&&bR d sc y) x|.dget d k,sc,x=>sQ (λ x y=>bR d sc x&&bR k sc y) x
 |.cou b es a,sc,x=>kMe "count" (λ o ys=>(match b with|false=>sP (λ xs _ _=>jK es sc xs) o|true=>kLi (λ xs _=>jK es sc xs) o)&&jF (λ y=>bR a sc y&&dM y) ys) x
 |_,_,_=>Ff
noncomputable def nC:E->zw->qy->Bool
 |.and a b,sc,x=>xU .And (λ x y=>nC a sc x&&nC b sc y) x|.or a b,sc,x=>xU .Or (λ x y=>nC a sc x&&nC b sc y) x|.not a,sc,x=>kUn (λ o x _=>decide (o=.Not)&&nC a sc x) x|.cmp op a b,sc,x=>zR (λ x op' y=>decide (op'=op)&&bR a sc x&&bR b sc y) x|.var i,sc,x=>jI (λ x _=>decide (N[i]?=qz x)&&qJ sc x && !(x==("__debug__" : Str)) && !(x==("__classdict__" : Str))) x&&mW x|.bl i,_,x=>uK (.bool i) x&&mW x|.bin op a b,sc,x=>kBi (λ x op' y _=>decide (op'=op)&&bR a sc x&&bR b sc y) x&&mW x|.ix a b,sc,x=>sQ (λ x y=>bR a sc x&&bR b sc y) x&&mW x|.call f es,sc,x=>oF (λ x xs=>aEx T f x&&gl sc x && !(x==("__debug__" : Str))&&jK es sc xs&&mJ xs) x&&mW x|.blt b es,sc,x=>oF (λ x ys=>!ys.isEmpty&&decide (x=b.n)&&gl sc x&&jK es sc ys&&mJ ys) x&&mW x|.isi a n,sc,x=>vF "isinstance" sc (λ y=>bR a sc y) (λ z=>jI (λ z _=>decide (z=n.n)&&gl sc z) z) x&&mW x|.din n k d,sc,x=>zR (λ x op' y=>decide (op'=aFw n)&&bR k sc x&&bR d sc y) x|_,_,_=>Ff
noncomputable def jK:E->zw->List qy->Bool
 |.nil,_,xs=>xs.isEmpty
 | .cons a r,sc,xs=>(match xs with
   |x::xs=>bR a sc x&&dM x&&jK r sc xs
   | []=>Ff)
 |_,_,_=>Ff
noncomputable def okO:E->zw->Option qy->Bool
 |.no,_,x=>aFJ x|.cons a r,sc,x=>aMW r&&x.any λ x=>bR a sc x|_,_,_=>Ff
noncomputable def okL:E->zw->qy->Bool
 |.lst es,sc,x=>kLi (λ xs _=>jK es sc xs) x|.lzip a b,sc,x=>kB1 "list" sc (λ y=>vF "zip" sc (λ z=>bR a sc z) (λ w=>bR b sc w) y) x|.lrep a b,sc,x=>kBi (λ x o y _=>decide (o=.Mult)&&bR a sc x&&bR b sc y) x|.comp elt t it cond,sc,x=>aNx N t cond sc (λ g y=>okI it sc g y) (λ s y=>nC cond s y) (λ s y=>bR elt s y) x|_,_,_=>Ff
noncomputable def okI:E->zw->qy->qy->Bool
 |.it a,sc,_,x=>bR a sc x|.rng1 a,sc,_,x=>kB1 "range" sc (λ y=>bR a sc y) x|.rng2 a b,sc,_,x=>vF "range" sc (λ y=>bR a sc y) (λ z=>bR b sc z) x|.rng3 a b c,sc,_,x=>kB3 "range" sc (λ y=>bR a sc y) (λ z=>bR b sc z) (λ w=>bR c sc w) x|.zip a b,sc,tg,x=>yL tg&&vF "zip" sc (λ y=>bR a sc y) (λ z=>bR b sc z) x|.zip3 a b c,sc,tg,x=>yL tg&&kB3 "zip" sc (λ y=>bR a sc y) (λ z=>bR b sc z) (λ w=>bR c sc w) x|_,_,_,_=>Ff
end
mutual
noncomputable def okS:Sx->zw->xk->Bool
 |.nev,_,_=>Tt|.expr e,sc,st=>kEx (λ x _=>bR T N e sc x&&pP x) st|.ret e,sc,st=>kRe (λ v _=>v.any λ x=>bR T N e sc x) st|.ifs c a b,sc,st=>kSf (λ x y z _=>nC T N c sc x&&qD a sc y&&qD b sc z) st|.set i e,sc,st=>qN (λ ts y _=>bR T N e sc y&&pP y&&jF (λ t=>jI (λ x _=>decide (N[i]?=qz x)&&loc sc x) t) ts) st|.setC _ i e,sc,st=>qN (λ ts y _=>aKl e&&okL T N e sc y&&jF (λ t=>jI (λ x _=>decide (N[i]?=qz x)&&loc sc x) t) ts) st|.setT t e,sc,st=>qN (λ ts y _=>bR T N e sc y&&pP y && !yL y&&jF (λ tg=>yL tg&&aAa Ff N sc t tg) ts) st|.put o i e,sc,st=>qN (λ ts z _=>bR T N e sc z&&pP z&&jF (λ t=>sQ (λ x y=>bR T N o sc x&&bR T N i sc y) t) ts) st|.dput o i e,sc,st=>qN (λ ts z _=>bR T N e sc z&&pP z&&jF (λ t=>sQ (λ x y=>bR T N o sc x&&bR T N i sc y) t) ts) st|.loop t it b,sc,st=>kFo (λ tg x y z _=>z.isEmpty&&aAa Ff N sc t tg&&okI T N it sc tg x&&dM x&&qD b sc y) st|_,_,_=>Ff
noncomputable def qD:Sx->zw->List xk->Bool
 |.skip,_,l=>l.isEmpty
 | .seq a b,sc,l=>(match l with
   |st::r=>okS a sc st&&qD b sc r
   | []=>Ff)
 |_,_,_=>Ff
end
end
def bltNames:Li Str:=["len","max","min","int","abs","tuple","sum","all","any","isinstance","list","range","enumerate","bool","str","reversed","zip","sorted","set"]
structure Ctx(T:Tx)(C:Calls)(X:Cx):Prop where
 nd:X.N.Nodup
 calm:X.calm=Tt
 xe:X.xe=λ _ _=>False
 kind:X.env.scope.kind=.function
 room:∃ k,2<=k/\Room k X.A/\(∀ f np call x,C f=qz (np,call)->aEx T f x=Tt->∃ fa fd ps,X.mg x=qz (.ref fa)/\yBp X.K (.ref fa)=Tt/\iE X.K fd ps []/\FnOk X.prog X.w X.K X.mg X.base oZ k fa fd ps (qP X.K np call)) /\
  ∀ m f np call,C f=qz (np,call)->(m,f)∈T.mt->∃ Cc fa fd ps,lK X.K Cc/\Cls X.K Cc/\Meth X.K Cc m fa/\iE X.K fd ps []/\FnOk X.prog X.w X.K X.mg X.base oZ k fa fd ps (qP X.K np call)
 mo:∀ ini np,T.mo=qz (ini,np)->∃ Cc fi fd ps,lK X.K Cc/\Cls X.K Cc/\X.mg "Maker" = qz (.ref Cc)/\(∀ p∈ini,NoAttr X.K Cc p.1)/\Mk X.K Cc fi/\iE X.K fd ps []/\FnOk X.prog X.w X.K X.mg X.base oZ 1 fi fd ps (spM X.K Cc ini np)
 blt:∀ x∈bltNames,X.mg x=qj
 tbs:∀ x aM,(x,aM)∈T.tb->∃ a,X.mg x=qz (.ref a)/\yS X.K X.w a aM
 cns:∀ x ts,(x,ts)∈T.cn->∃ a,X.mg x=qz (.ref a)/\uF X.K a ts
 sts:∀ x y,(x,y)∈T.st->∃ t,X.mg x=qz (.str y t)
variable {C:Calls}
def Ctx.units(h:Ctx T C X):X.A.units+64<cLine:=let ⟨_,_,r,_⟩:=h.room;r.units
def Ctx.own(h:Ctx T C X):PassesOwn (model X.prog X.w) X.A X.env X.xe:=by rw[h.xe];exact PassesOwn.never
def Ctx.comp{scope:zw}(h:Ctx T C X)(hk:scope.kind=.function)(hy:kZ X scope Y):Ctx T C Y/\Y.env.scope=rY scope X.env.scope/\Y.N=X.N/\Y.K=X.K:=by let(aB,fp,Ca,s₀,H₀,rfl):=hy;exact((h.nd,h.calm,rfl,hk,h.room,h.mo,h.blt,h.tbs,h.cns,h.sts,),rfl,rfl,rfl,)
def gC(h:dM e=Tt)(es:List qy)(env:Env):qo (e::es) env=(Ff,eval e env)::qo es env:=by cases e<;>first|rfl|exact no h
def wJ:∀ {es:List qy} (h:mJ es=Tt) (env:Env) (pos:Pos),(backTo pos (qo es env)).any (·.1)=Ff
 |[],_,_,_=>rfl
 |e::es,h,env,pos=>by
   let(h1,h2):=eJ h;rw[gC h1];show(Ff||(backTo pos (qo es env)).any (·.1))=Ff;rw[wJ h2 env pos];rfl
def aFa(h:dM e=Tt):wX e:=by intro o i;cases e<;>first|rfl|exact no h
def aA7(h:dM e=Tt)(op:jx):xz op e=Ff:=by cases e<;>first|rfl|exact no h
def aDh(h:dM e=Tt)(env:Env)(x:qx):jq e env x=pure x:=by cases e<;>first|rfl|exact no h
def pI(h:tN e=Tt)(m:Str)(env:Env):attributeBase e m env (eval e env)=eval e env:=by cases e<;>first|rfl|exact no h
def vV(h:pP e=Tt)(t:Option qy)(line:Nat)(env:Env):swapsWith e t line env=pure Ff:=by cases e<;>first|rfl|exact no h
def aXS(h:mW e=Tt)(env:Env)(kS:Sem qx):isTrue e env kS=(do let v <- kS;standAt e.pos;holding [v] (truthy v)):=by cases e<;>first|rfl|exact no h
def aQ3(h:dM i=Tt)(v:qx):assign (.Subscript o i pos) env v=(do
 let ov <- holding [v] (eval o env);let iv <- holding [v,ov] (eval i env)
 standAt pos
 holding [v,ov,iv] (setItem ov iv v)
 release [v,ov,iv] []):=by cases i<;>first|rfl|exact no h
def aLK(h:qJ X.env.scope x=Tt):Vis X.env.scope x:=by unfold qJ at h;unfold Vis;split at h<;>first|exact .inl (by assumption)|exact .inr (.inl (by assumption))|exact .inr (.inr (by assumption))|exact no h
def aEy(h:loc X.env.scope x=Tt):L2.Loc X.env.scope x:=by unfold loc at h;unfold L2.Loc;split at h<;>first|exact .inl (by assumption)|exact .inr (by assumption)|exact no h
def jD(h:gl X.env.scope x=Tt):Gl X x:=(oqT h:X.env.scope.names.lookup x=qz .globalImplicit)
def qT{x y:Str}(h:(!(x==y))=Tt):(x==y)=Ff:=by simp_all
def aE5(b:Bool)(X:Cx):Prop:=b=Tt\/∀ x,X.fn x=Tt
def aJZ(st:aE5 b X)(h:aEE b X.N X.env.scope i x=Tt):X.N[i]?=qz x/\L2.Loc X.env.scope x/\(X.fn x=Tt\/X.env.scope.names.lookup x=qz .local):=by
 let(h1,h2):=eJ h;cases b with
 |true=>
   have h3:=oqT h2;exact(oqT h1,.inl h3,.inr h3,)
 |false=>
   refine(oqT h1,aEy h2,?_,);rcases st with z|z
   .cases z
   .exact .inl (z x)
def zQ:Li Nat->kB
 |[]=>aFF|i::is=>aFn (pY i) (zQ is)
def vJ(K:FrG):Tg->TG
 |.one i=>pY i|.many is=>aF4 K ↑is (zQ is)
def aMc(K:FrG):∀ is:Li Nat,GAs K is (zQ is)
 |[]=>aTg|_::is=>aRE (aMc K is)
def aB6(K:FrG)(t:Tg):GA K t (vJ K t):=by
 cases t with
 |one i=>exact aYf i|many is=>exact aTR (aMc K is)
section
variable {X:Cx}
def aIU{b:Bool}(st:aE5 b X)(nd:X.N.Nodup):∀ {is:Li Nat}{es:List qy},aDW b X.N X.env.scope is es=Tt->sJ X es (zQ is)/\(zo es X.env).length=↑is/\(zo es X.env).findIdx? (·.1)=qj
 |[],[],_=>(aTL,rfl,rfl,)|[],_::_,h=>no h|_::_,[],h=>no h
 |i::is,e::r,h=>mU (P:=λ e=>sJ X (e::r) (zQ (i::is))/\(zo (e::r) X.env).length=(i::is).length/\(zo (e::r) X.env).findIdx? (·.1)=qj) h λ x p h=>by
   let(a1,a2,a3):=aJZ st (aL h);let(pg,hl2,hf):=aIU st nd (aR h);refine(aSG (aDM nd a1 a2 a3) pg rfl,?_,?_,)
   .show((Ff,assign (.Name x p) X.env)::zo r X.env).length=_;rw[yAn,yAn,hl2]
   .show((Ff,assign (.Name x p) X.env)::zo r X.env).findIdx? (·.1)=qj;rw[List.findIdx?_cons,hf];rfl
end
def aB2(st:aE5 b X)(nd:X.N.Nodup)(hc:X.calm=Tt)(h:aAa b X.N X.env.scope t tg=Tt):PG X tg (vJ X.K t):=by
 cases t with
 |one i=>exact mU (P:=λ e=>PG X e (pY i)) h λ x p h=>let ⟨a1,a2,a3⟩:=aJZ st h;aDM nd a1 a2 a3|many is=>exact sE (P:=λ e=>PG X e (vJ X.K (.many is))) h λ es k p h=>let ⟨pg,hl2,hf⟩:=aIU st nd h;aXu hc pg hl2 hf
section
variable (T:Tx)(C:Calls)
def SE(c:E):Prop:=∀ X,Ctx T C X->∀ x,bR T X.N c X.env.scope x=Tt->PE X x (aX X.K (ev C c))
def ST(c:E):Prop:=∀ X,Ctx T C X->∀ x,nC T X.N c X.env.scope x=Tt->PT X x (gN X.K (tv C c))/\∀ op es p,x=.BoolOp op es p->PW X x (gN X.K (tv C c))
def SA(c:E):Prop:=∀ X,Ctx T C X->∀ x,jK T X.N c X.env.scope x=Tt->PA X x (fG X.K (av C c))
def SO(c:E):Prop:=∀ X,Ctx T C X->∀ x,okO T X.N c X.env.scope x=Tt->PO X x (mX X.K (ov C c))
def SL(c:E):Prop:=∀ X,Ctx T C X->∀ x,okL T X.N c X.env.scope x=Tt->PE X x (kA X.K (lv C c))
def SI(c:E):Prop:=∀ X,Ctx T C X->∀ tg x,okI T X.N c X.env.scope tg x=Tt->PI X tg x (kC X.K (lv C c))
end
def aJG{f:FE}(h:∀ env S,f env S=qj):PE X x (aX X.K f):=λ aB s σ H Q I bC=>by
 let(F,L,S,env,w,S',R,E,e,q):=bC;rw[h] at e;cases e
def bAL{f:FE}(h:PE X x (aX X.K f))(ht:mW x=Tt):PT X x (gN X.K (dW f))/\∀ op es p,x=.BoolOp op es p->PW X x (gN X.K (dW f)):=
 (bAI h λ kS=>aXS ht X.env kS,λ op es p e=>by subst e;exact no ht,)
def aK7(i:Nat):SE T C (.var i):=λ X hX x hx=>mU (P:=λ x=>PE X x _) hx λ y p h=>aYq (dT (aL (aL (aL h)))) (aLK (aR (aL (aL h)))) (qT (aR (aL h))) (qT (aR h))
def aVj(i:Int):SE T C (.int i):=λ X hX x h=>aBY (P:=λ x=>PE X x _) h λ k p=>aZ3
def aMB(i:Bool):SE T C (.bl i):=λ X hX x h=>aBY (P:=λ x=>PE X x _) h λ k p=>bAV
def aXj:SE T C .non:=λ X hX x h=>aBY (P:=λ x=>PE X x _) h λ k p=>aZQ
def aXc(i:Str):SE T C (.str i):=λ X hX x h=>aBY (P:=λ x=>PE X x _) h λ k p=>aZa
def aL5(ha:SE T C a)(hb:SE T C b):SE T C (.bin op a b):=λ X hX x hx=>aNs (P:=λ x=>PE X x _) hx λ l o r p h=>by
 obtain rfl:=dT (aL (aL h));exact bAx (ha X hX _ (aR (aL h))) (hb X hX _ (aR h))
def aYP(ha:SE T C a):SE T C (.un op a):=λ X hX x hx=>aF5 (P:=λ x=>PE X x _) hx λ o r p h=>by
 obtain rfl:=dT (aL (aL h));exact bBa (ha X hX _ (aR h))
def aW2(ha:SE T C a)(hb:SE T C b):SE T C (.cmp op a b):=λ X hX x hx=>aBH (P:=λ x=>PE X x _) hx λ l o r p h h4=>by
 obtain rfl:=dT (aL (aL h));exact aZi hX.units (ha X hX _ (aR (aL h))) (hb X hX _ (aR h)) (aA7 h4 o)
def aFj{t:TT}(h:PT X x t)(n:x.ctorIdx≠0):PT X x t/\∀ op es p,x=.BoolOp op es p->PW X x t:=
 (h,λ op es p e=>absurd (congrArg Expr.ctorIdx e) n,)
def aYn(ha:SE T C a)(hb:SE T C b):ST T C (.cmp op a b):=λ X hX x hx=>aBH (P:=λ x=>PT X x _/\∀ op es p,x=.BoolOp op es p->PW X x _) hx λ l o r p h h4=>by
 obtain rfl:=dT (aL (aL h));exact aFj (aV3 hX.units (ha X hX _ (aR (aL h))) (hb X hX _ (aR h)) (aA7 h4 o)) (yIb 14)
def aXQ:SE T C (.con n ts):=λ X hX x hx=>mU (P:=λ x=>PE X x _) hx λ y p h=>by
 obtain rfl:=dT (aL (aL (aL h)));exact aY1 (jD (aR (aL h))) (qT (aR h)) (hX.cns _ _ (List.contains_iff_mem.mp (aR (aL (aL h)))))
def aVY(ha:SE T C a)(hb:SE T C b):SE T C (.and a b):=λ X hX x hx=>aBG (P:=λ x=>PE X x _) hx
 (λ l r p h=>PE.weak (aLO (ha X hX _ (aL h)) (aLe (hb X hX _ (aR h)))) aMa) λ l b c r p h=>PE.weak (aLO (ha X hX _ (aL h)) (hb X hX _ (aR h))) aMa
def aYS(ha:SE T C a)(hb:SE T C b):SE T C (.or a b):=λ X hX x hx=>aBG (P:=λ x=>PE X x _) hx
 (λ l r p h=>PE.weak (aNd (ha X hX _ (aL h)) (aLe (hb X hX _ (aR h)))) aMO) λ l b c r p h=>PE.weak (aNd (ha X hX _ (aL h)) (hb X hX _ (aR h))) aMO
def aLz{t:TT}(k:PW X x t):PT X x t/\∀ op es p,x=.BoolOp op es p->PW X x t:=(k.pt,λ _ _ _ _=>k,)
def aVG(ha:ST T C a)(hb:ST T C b):ST T C (.and a b):=λ X hX x hx=>aLz (aBG (P:=λ x=>PW X x _) hx
 (λ l r p h=>PW.weak (aMe (ha X hX _ (aL h)).1 (aTt (hb X hX _ (aR h)).1)) aM9) λ l b c r p h=>PW.weak (aMe (ha X hX _ (aL h)).1 ((hb X hX _ (aR h)).2 _ _ _ rfl)) aM9)
def aZY(ha:ST T C a)(hb:ST T C b):ST T C (.or a b):=λ X hX x hx=>aLz (aBG (P:=λ x=>PW X x _) hx
 (λ l r p h=>PW.weak (aMz (ha X hX _ (aL h)).1 (aXi (hb X hX _ (aR h)).1)) aNq) λ l b c r p h=>PW.weak (aMz (ha X hX _ (aL h)).1 ((hb X hX _ (aR h)).2 _ _ _ rfl)) aNq)
def aWZ(ha:SE T C a):SE T C (.not a):=λ X hX x hx=>aF5 (P:=λ x=>PE X x _) hx λ o y p h=>by
 obtain rfl:=dT (aL h);exact aWM (ha X hX _ (aR h))
def aVl(ha:ST T C a):ST T C (.not a):=λ X hX x hx=>aF5 (P:=λ x=>PT X x _/\∀ op es p,x=.BoolOp op es p->PW X x _) hx λ o y p h=>by
 obtain rfl:=dT (aL h);exact aFj (aZz (ha X hX _ (aR h)).1) (yIb 2)
def aX2(hc:ST T C c)(ha:SE T C a)(hb:SE T C b):SE T C (.ite c a b):=λ X hX x hx=>bBV (P:=λ x=>PE X x _) hx λ x y z p h=>aYQ (hc X hX _ (aL (aL h))).1 (ha X hX _ (aR (aL h))) (hb X hX _ (aR h))
def aXV(ha:SA T C a):SE T C (.tup a):=λ X hX x hx=>sE (P:=λ x=>PE X x _) hx λ xs k p h=>aYZ (ha X hX _ h)
def aXF(ha:SA T C a):SL T C (.lst a):=λ X hX x hx=>aF2 (P:=λ x=>PE X x _) hx λ xs p h=>aZJ (ha X hX _ h)
def aVu:SA T C .nil:=λ X hX x h=>kH (P:=λ x=>PA X x _) h aFo
def aU9(ha:SE T C a)(hr:SA T C r):SA T C (.cons a r):=λ X hX x h=>by
 cases x with
 |nil=>exact no h|cons y ys=>exact mN (ha X hX _ (aL (aL h))) (hr X hX _ (aR h)) (gC (aR (aL h)) _ _)
def aYo:SO T C .no:=λ X hX x h=>aMn (P:=λ x=>PO X x _) h bBk
def aTd(ha:SE T C a):SO T C (.cons a r):=λ X hX x h=>bBO (P:=λ r=>PO X x (mX X.K (ov C (.cons a r)))) (aL h) (aMs (P:=λ x=>PO X x _) (aR h) λ y h=>aWd (ha X hX _ h))
def aMF(ha:SE T C a)(hb:SE T C b):SE T C (.ix a b):=λ X hX x hx=>yU (P:=λ x=>PE X x _) hx λ l r p h h3=>bBM (ha X hX _ (aL h)) (hb X hX _ (aR h)) (aFa h3)
def aW0(hk:SE T C k):SE T C (.tab n aM k):=λ X hX x hx=>yU (P:=λ x=>PE X x _) hx λ y z p g h6=>mU (P:=λ y=>PE X (.Subscript y z p) _) (aR g) λ u q h=>by
 obtain rfl:=dT (aL (aL (aL h)));exact aZk (jD (aR (aL h))) (qT (aR h)) (hX.tbs _ _ (List.contains_iff_mem.mp (aR (aL (aL h))))) (hk X hX _ (aL g)) (aFa h6)
def aYW{lo hi:E}(ha:SE T C a)(hl:SO T C lo)(hh:SO T C hi):SE T C (.sl a lo hi):=λ X hX x hx=>bAe (P:=λ x=>PE X x _) hx λ y l u p q h=>bBG (ha X hX _ (aL (aL h))) (hl X hX _ (aR (aL h))) (hh X hX _ (aR h))
def aSM(h:jK T N a sc []=Tt):a=.nil:=by cases a<;>first|rfl|exact no h
def aQV{call:Li W->aE->Oz (W×aE)}{fs:FA}(h:C f=qz (np,call)):mP C f fs=aB8 fs np call:=by funext env S;unfold mP;rw[h]
def aKq(ha:SA T C a):SE T C (.call f a):=λ X hX x hx=>tU (P:=λ x=>PE X x _) hx λ y p zs q h=>by
 cases hC:C f with
 |none=>exact aJG λ env S=>by show mP C f (av C a) env S=qj;unfold mP;rw[hC]
 |some nc=>
   let(k,_,rm,fs,_):=hX.room;let(fa,fd,ps,m1,m2,m3,m4):=fs f nc.1 nc.2 y hC (aL (aL (aL (aL h))));have hw:∀ σ H Q,aX X.K (ev C (.call f a)) σ H Q->aBV (qP X.K nc.1 nc.2) [] E0 (fG X.K (av C a)) σ H Q:=λ σ H Q hq=>aWJ σ H Q (aQV (fs:=av C a) hC▸hq)
   have h2:=jD (aR (aL (aL (aL h))));have h3:=qT (aR (aL (aL h)));cases zs with
   |nil=>
     refine PE.weak (aRh m4 rm h2 m1 m2 m3 .nil aBL h3) λ σ H Q hq=>?_
     let(F,L,S,env,ws,S',R,E,e,q2):=hw σ H Q hq;cases aSM (aR (aL h));cases e;exact q2 F L H [] Gr.refl R .nil
   |cons z zr=>exact PE.weak (aU8 m4 rm h2 m1 m2 m3 .nil aBL (ha X hX _ (aR (aL h))) h3 (gC (aL (aR h)) _ _) (wJ (aR (aR h)) _ _)) hw
def aL9(ha:SA T C a):SE T C (.blt b a):=λ X hX x hx=>tU (P:=λ x=>PE X x _) hx λ y p zs q h=>by
 obtain rfl:=dT (aR (aL (aL (aL h))));cases zs with
 |nil=>exact no (aL (aL (aL (aL h))))
 |cons z zr=>
 have A:=ha X hX _ (aR (aL h));have G:=jD (aR (aL (aL h)));have s1:=gC (aL (aR h)) zr X.env;have s2:=wJ (aR (aR h)) X.env q;cases b with
 |len=>exact PE.weak (tE bAw G (hX.blt _ (·)) (by decide +kernel) A (·) (·) s1 s2) rO|mx=>exact PE.weak (tE (aZX hX.calm) G (hX.blt _ (·)) (by decide +kernel) A (·) (·) s1 s2) rO|mn=>exact PE.weak (tE (aZA hX.calm) G (hX.blt _ (·)) (by decide +kernel) A (·) (·) s1 s2) rO|all=>exact PE.weak (tE (aZ1 hX.calm) G (hX.blt _ (·)) (by decide +kernel) A (·) (·) s1 s2) rO|any=>exact PE.weak (tE (aZr hX.calm) G (hX.blt _ (·)) (by decide +kernel) A (·) (·) s1 s2) rO|int=>exact PE.weak (aIm bAt G (hX.blt _ (·)) (by decide +kernel) A (·) (·) s1 s2) rO|tup=>exact PE.weak (aIm aTx G (hX.blt _ (·)) (by decide +kernel) A (·) (·) s1 s2) rO
def aID(n:Ty):xo n.n=qz (.type n.s)/\n.n∈bltNames:=by cases n<;>exact(by decide +kernel,by decide,)
def aLW(ha:SE T C a):SE T C (.isi a n):=λ X hX x hx=>aCd (P:=λ x=>PE X x _) hx λ p y w q h3 h5 h6 h7 _=>mU (P:=λ w=>PE X (.Call (.Name "isinstance" p) [y,w] [] q) _) h7 λ z pz h=>by
 obtain rfl:=dT (aL h);have k:=@aYE X _ n.n n.s pz p q _ (ha X hX _ h5) (jD h3) (hX.blt _ (·)) (by decide +kernel) (jD (aR h)) (hX.blt _ (aID n).2) (aID n).1 (by cases n<;>decide) (by cases n<;>decide) (gC h6 _ _);refine PE.weak k λ σ H Q ⟨F,L,S,env,w,S',R,E,e,q2⟩=>(F,L,S,env,w,S',R,E,?_,q2,)
 let((w1,S1),e1,e2):=aQ e;let(d,z,e3,e4,rfl,rfl):=wC e2;unfold aNU f1;rw[e1];show hB (zV X.K n.s) _ w1=_;unfold hB;rw[e3];dsimp only[yCy];rw[aWT X.K e4]
def aUM(ha:SE T C a):SE T C (.bits a):=λ X hX x hx=>aCg (P:=λ x=>PE X x _) hx λ o ap xs cp h4 h3 h=>kH (P:=λ xs=>PE X (.Call (.Attribute o "bit_length" ap) xs [] cp) _) (aR h) (by
 refine PE.weak (aWm PySem.F.plainAttrs_int yGu PySem.F.type_int_bit_length aSQ (ha X hX _ (aL h)) (pI h3 _ _) h4) λ σ H Q hPq52=>?_
 let(F,L,S,env,w,S',R,E,e,q):=hPq52;let((w1,S1),e1,e2):=aQ e;let(d,z,e3,e4,rfl,rfl):=wC e2;refine(F,L,S,env,w1,_,R,E,e1,λ F1 L1 H1 v g1 R1 d1=>?_,);have nw:=lA R1 d1 e3;cases d<;>first|(cases e4;done)|skip
 cases e4;obtain rfl:=nw.int;exact(rfl,_,rfl,rfl,q F1 L1 H1 _ g1 R1 (Den.int _),))
def iU(h:dM z=Tt):qo [z] X.env=(Ff,eval z X.env)::qo [] X.env:=gC h [] X.env
def qI(ha:SE T C a)(hX:Ctx T C X)(h:bR T X.N a X.env.scope z=Tt)(hp:dM z=Tt):PA X [z] (fG X.K (dU (ev C a) iS)):=mN (ha X hX _ h) aFo (iU hp)
def aV7(ho:SE T C o)(ha:SE T C a):SE T C (.app o a):=λ X hX x hx=>aMk (P:=λ x=>PE X x _) hx λ y ap z cp h4 h3 h2 h5 h6=>
 PE.weak (aFs yFz PySem.F.slot_list_append PySem.F.type_list_append aIb (ho X hX _ h2) (qI ha hX h5 h6) (pI h3 _ _) (by rw[iU h6];rfl) h4 (iU h6) rfl) yN
def aWL(ho:SE T C o)(ha:SE T C a):SE T C (.idx o a):=λ X hX x hx=>aMk (P:=λ x=>PE X x _) hx λ y ap z cp h4 h3 h2 h5 h6=>
 PE.weak (aFs yFz yFy PySem.F.type_list_index aRw (ho X hX _ h2) (qI ha hX h5 h6) (pI h3 _ _) (by rw[iU h6];rfl) h4 (iU h6) rfl) aZB
def aTY(ha:SE T C a)(hb:SE T C b):SL T C (.lzip a b):=λ X hX x hx=>aN9 (P:=λ x=>PE X x _) hx λ p y q h2 h3 _=>aCd (P:=λ y=>PE X (.Call (.Name "list" p) [y] [] q) _) h3 λ p' z w q' h4 h5 h6 h7 h8=>
 aVN (ha X hX _ h5) (hb X hX _ h7) hX.calm (jD h2) (hX.blt _ (·)) (jD h4) (hX.blt _ (·)) (gC h6 [w] X.env) (iU h8)
def aUt(ha:SE T C a)(hb:SE T C b):SL T C (.lrep a b):=λ X hX x hx=>aNs (P:=λ x=>PE X x _) hx λ l o r p h=>by
 obtain rfl:=dT (aL (aL h));exact aZN (ha X hX _ (aR (aL h))) (hb X hX _ (aR h))
def aY0(ha:SE T C a):SI T C (.it a):=λ X hX tg x h=>bBA (ha X hX _ h)
def aT6(ha:SE T C a):SI T C (.rng1 a):=λ X hX tg x hx=>aN9 (P:=λ x=>PI X tg x _) hx λ p z q h2 h3 h4=>
 PI.weak (aQd (jD h2) (hX.blt _ (·)) (qI ha hX h3 h4) (iU h4)) aVO
def aTA(ha:SE T C a)(hb:SE T C b)(hc:SE T C c):SI T C (.rng3 a b c):=λ X hX tg x hx=>aN4 (P:=λ x=>PI X tg x _) hx λ p z w v q h2 h3 h4 h5 h6 h7 h8=>by
 have st:=gC h4 [w,v] X.env;have st2:=gC h6 [v] X.env;exact PI.weak (aQs (jD h2) (hX.blt _ (·)) (mN (ha X hX _ h3) (mN (hb X hX _ h5) (qI hc hX h7 h8) st2) st) st (by rw[st2,iU h8];rfl)) aXX
def aVb(ha:SE T C a)(hb:SE T C b):SI T C (.rng2 a b):=λ X hX tg x hx=>aCd (P:=λ x=>PI X tg x _) hx λ p z z2 q h2 h3 h4 h5 h6=>by
 have st:=gC h4 [z2] X.env;exact PI.weak (aQS (jD h2) (hX.blt _ (·)) (mN (ha X hX _ h3) (qI hb hX h5 h6) st) (by rw[st,iU h6];rfl) (iU h6)) aXK
def aXU(ha:SE T C a)(hb:SE T C b):SI T C (.zip a b):=λ X hX tg x hx=>sE (P:=λ tg=>PI X tg x _) (aL hx) λ ts k tp _=>aCd (P:=λ x=>PI X _ x _) (aR hx) λ p z z2 q h2 h3 h4 h5 h6=>
 PI.weak (aX4 (jD h2) (hX.blt _ (·)) (mN (ha X hX _ h3) (qI hb hX h5 h6) (gC h4 [z2] X.env)) (gC h4 [z2] X.env) (iU h6)) aZx
def aUe(ha:SE T C a)(hb:SE T C b)(hc:SE T C c):SI T C (.zip3 a b c):=λ X hX tg x hx=>sE (P:=λ tg=>PI X tg x _) (aL hx) λ ts k tp _=>aN4 (P:=λ x=>PI X _ x _) (aR hx) λ p z z2 z3 q h2 h3 h4 h5 h6 h7 h8=>
 PI.weak (aUR (jD h2) (hX.blt _ (·)) (mN (ha X hX _ h3) (mN (hb X hX _ h5) (qI hc hX h7 h8) (gC h6 [z3] X.env)) (gC h4 [z2,z3] X.env)) (gC h4 [z2,z3] X.env) (gC h6 [z3] X.env) (iU h8)) aVV
def or2(h:(a||b)=Tt)(n:a=Ff):b=Tt:=by rw[n] at h;exact h
def aKI(h:aFi scope osc=Tt):ScOk scope osc:=by
 have h2:=List.all_eq_true.mp (aR h);refine(dT (aL h),λ x hx e=>?_,λ x hx e=>?_,λ x hx e=>?_,)
 .have:=h2 x hx;simp[e] at this
 .have:=h2 x hx;simp[e] at this;exact this
 .have:=h2 x hx;simp[e] at this;exact this
def aEN:∀ {n:Nat},aCz N scope is n=Tt->∀ i,i<n->∀ x,N[i]?=qz x->scope.names.lookup x=qz .local->i∈is
 |0,_,i,hi,_,_,_=>absurd hi (yDn i)
 |n+1,h,i,hi,x,e,el=>by
   rcases Nat.lt_succ_iff_lt_or_eq.mp hi with z|z
   .exact aEN (aL h) i z x e el
   .subst z;have h2:=aR h;rw[e] at h2;exact List.contains_iff_mem.mp (or2 h2 (by rw[el];rfl))
def aUT{cond:E}(he:SE T C elt)(hi:SI T C it)(hc:ST T C cond):SL T C (.comp elt t it cond):=λ X hX x hx=>aNl (P:=λ x=>PE X x _) hx λ e tg iter ifs scope p h1 h2 h3 h4 h5 h6 h7=>by
 have sok:=aKI h1;refine aK6 (g:=vJ X.K t) hX.calm sok (λ i x a1 a2=>aEN h2 i (gIm a1).1 x a1 a2) (hi X hX tg iter h4) (λ Y hY=>?_) (aB6 X.K t) (λ Y hY=>?_) (λ Y hY=>?_) (aDh h5 X.env)
 .let(c1,c2,c3,c4):=hX.comp sok.kind hY;rw[<- c4];exact aB2 (.inl rfl) c1.nd c1.calm (by rw[c2,c3];exact h3)
 .let(c1,c2,c3,c4):=hX.comp sok.kind hY;cases ifs with|nil=>exact aNA (P:=λ cond=>nJ Y [] (tv C cond)) h6 aIh|cons y r=>exact kH (P:=λ r=>nJ Y (y::r) _) (aL h6) (aIo (hc Y c1 y (by rw[c2,c3];exact aR h6)).1)
 .let(c1,c2,c3,c4):=hX.comp sok.kind hY;rw[<- c4];exact he Y c1 e (by rw[c2,c3];exact h7)
def aYJ(ha:SL T C a):SE T C (.fz a):=λ X hX x h=>aN1 (ha X hX x h)
def aVs(ha:SL T C a):SE T C (.new a):=λ X hX x h=>aZF (ha X hX x h)
def Ctx.hu(hX:Ctx T C X):X.A.units+1<cLine:=xAi (yDp (by decide:1<=64) _) hX.units
def aJj:∀ {es:List qy} (_:mJ es=Tt) (env:Env) (pos:Pos),(backTo pos (qo es env)).all (λ x=>!x.1)=Tt
 |[],_,_,_=>rfl
 |e::es,h,env,pos=>by
   let(h1,h2):=eJ h;rw[gC h1];show(Tt&&(backTo pos (qo es env)).all (λ x=>!x.1))=Tt;rw[aJj h2 env pos];rfl
def aY3{o:qy}{args:List qy}(h:tN o=Tt)(ha:mJ args=Tt)(hl:args.length<30)(m:Str)(apos pos:Pos)(hp:(apos.endLine==pos.line)=Tt)(env:Env):∃ pl:Sem Bool,eval (.Call (.Attribute o m apos) args [] pos) env=(do
 let ov <- eval o env
 standAt apos.atName
 let (f,first) <- holding [ov] (getMethod ov m pl)
 callWith pos f first (backTo pos (qo args env)) (backToKw pos (keywordEach [] env))):=by
 have hf:methodCallForm (args.length+([]:Li Keyword).length) (backTo pos (qo args env)) (backToKw pos (keywordEach [] env))=Tt:=by
  unfold methodCallForm;rw[aJj ha env pos];show(Tt&&Tt&&decide (args.length+0+0<30))=Tt;rw[dqT (show args.length+0+0<30 from hl)];rfl
 refine(?_,?_,)
 rotate_left
 .rw[arm_eval_Call,pI h];unfold methodCall methodCallPos;rw[hf];simp only[Bool.not_true,yHv,hp,if_true,pure_bind];rfl
def aYh(ha:SE T C a):SE T C (.fld a f):=λ X hX x hx=>aFZ (P:=λ x=>PE X x _) hx λ o g p h=>by
 obtain rfl:=dT (aL (aL (aL h)));let(m,e1,e2):=any_some (aR (aL h));let(p1,hp,e3):=List.any_eq_true.mp e2;let(Cc,fi,fd,ps,h1,h2,h3,h4,h5,h6,h7):=hX.mo m.1 m.2 e1;exact aZC (ha X hX _ (aR h)) (pI (aR (aL (aL h))) _ _) h1 h2 (dT e3▸h4 p1 hp)
def aRU{call:Li W->aE->Oz (W×aE)}{fo:FE}{fs:FA}(h:C f=qz (np,call)):rM C m f fo fs=aCh m fo fs np call:=by funext env S;unfold rM;rw[h]
def aWV(ho:SE T C o)(ha:SA T C es):SE T C (.mth m f o es):=λ X hX x hx=>aCg (P:=λ x=>PE X x _) hx λ y ap zs cp h1 h2 h=>by
 cases hC:C f with
 |none=>exact aJG λ env S=>by show rM C m f (ev C o) (av C es) env S=qj;unfold rM;rw[hC]
 |some nc=>
   let(k,_,rm,_,fs):=hX.room;let(Cc,fa,fd,ps,m1,m2,m3,m4,m5):=fs m f nc.1 nc.2 hC (dT (aL (aL (aL (aL (aL h))))));have h3:=aR (aL (aL h));cases zs with
   |nil=>exact no (aR (aL h))
   |cons z zr=>
     let(pl,ht):=aY3 h2 h3 (dT (aR h)) m ap cp h1 X.env;exact PE.weak (aTz (pl:=pl) (ho X hX _ (aR (aL (aL (aL (aL h)))))) m2 m3 m5 rm m4 .nil aBL (ha X hX _ (aR (aL (aL (aL h))))) (gC (aL h3) _ _) (wJ (aR h3) _ _) ht) λ σ H Q hq=>aV0 m1 σ H Q (aRU (fo:=ev C o) (fs:=av C es) hC▸hq)
def bAi(ha:SA T C es):SE T C (.mk ini np es):=λ X hX x hx=>tU (P:=λ x=>PE X x _) hx λ y p zs q h=>by
 let(Cc,fi,fd,ps,h1,h2,h3,h4,h5,h6,h7):=hX.mo ini np (dT (aL (aL (aL (aL (aL h))))));let(k,hk,rm,_,_):=hX.room;obtain rfl:=dT (aR (aL (aL (aL (aL h)))));have h8:=aR (aL h);cases zs with
 |nil=>exact no (aR h)|cons z zr=>exact PE.weak (aUx h5 h7 (rm.mono hk) (jD (aR (aL (aL (aL h))))) h3 h6 .nil aBL (ha X hX _ (aR (aL (aL h)))) (·) (gC (aL h8) _ _) (wJ (aR h8) _ _)) λ σ H Q hq=>aV9 h1 σ H Q hq
def aWC(ha:SA T C es):SE T C (.tpl es):=λ X hX x hx=>sE (P:=λ x=>PE X x _) hx λ xs k p h=>aY4 (ha X hX _ h)
def aWH(ha:SE T C a)(hb:SE T C b):SE T C (.din n a b):=λ X hX x hx=>aBH (P:=λ x=>PE X x _) hx λ l o r p h h4=>by
 obtain rfl:=dT (aL (aL h));exact aWN (aMV hX.hu (ha X hX _ (aR (aL h))) (hb X hX _ (aR h))) (aA7 h4 _)
def aXL(ha:SE T C a)(hb:SE T C b):ST T C (.din n a b):=λ X hX x hx=>aBH (P:=λ x=>PT X x _/\∀ op es p,x=.BoolOp op es p->PW X x _) hx λ l o r p h h4=>by
 obtain rfl:=dT (aL (aL h));refine aFj (PT.weak (aVn (aMV hX.hu (ha X hX _ (aR (aL h))) (hb X hX _ (aR h))) (aA7 h4 _)) λ σ H Q hPq53=>?_) (yIb 14);let(F,L,S,env,b1,S',R,E,e,q):=hPq53;let(w,d,e1,e2,e3):=aDi e;refine(F,L,S,env,w,S',R,E,e1,λ F1 L1 H1 v g1 R1 d1=>?_,);have hc:∃ c,w=.d (Bz c):=by
  let(p,ea,e1):=aQ e1;let(p2,eb,e1):=aQ e1;split at e1
  .let(k,e4,e1):=aQ e1;let(es,e5,e6):=map_some e1;cases e6;exact(_,rfl,)
  .cases e1
 let(c,rfl):=hc;cases e2;cases e3;cases (show Den X.K F1 (.bool b1) v from d1);exact(_,rfl,q F1 L1 H1 g1 R1,)
def aTQ(ha:SE T C a)(hb:SE T C b):SE T C (.dget a b):=λ X hX x hx=>yU (P:=λ x=>PE X x _) hx λ l r p h h3=>aVB hX.hu (ha X hX _ (aL h)) (hb X hX _ (aR h)) (aFa h3)
def aYg(hs:SA T C es)(ha:SE T C a):SE T C (.cou b es a):=λ X hX x hx=>aCg (P:=λ x=>PE X x _) hx λ o ap xs cp h1 h2 z=>jP (P:=λ xs=>PE X (.Call (.Attribute o "count" ap) xs [] cp) _) (aR z) λ y u=>by
 cases b with
 |false=>exact sE (P:=λ o=>PE X (.Call (.Attribute o "count" ap) [y] [] cp) _) (aL z) λ xs k tp h=>aWQ (hs X hX _ h) (ha X hX _ (aL u)) h1 (iU (aR u))|true=>exact aF2 (P:=λ o=>PE X (.Call (.Attribute o "count" ap) [y] [] cp) _) (aL z) λ xs tp h=>PE.weak (aFs yFz PySem.F.slot_list_count PySem.F.type_list_count aSx (aEG (hs X hX _ h)) (qI ha hX (aL u) (aR u)) rfl (by rw[iU (aR u)];rfl) h1 (iU (aR u)) rfl) aXJ
def rN(h:SE T C c)(ht:tv C c=dW (ev C c))(hk:∀ N sc x,nC T N c sc x=(bR T N c sc x&&mW x)):ST T C c:=λ X hX x q=>by
 rw[hk] at q;rw[ht];exact bAL (h X hX x (aL q)) (aR q)
structure Sn(T:Tx)(C:Calls)(c:E):Prop where
 e:SE T C c:=by exact λ _ _ _ h=>no h
 t:ST T C c:=by exact λ _ _ _ h=>no h
 a:SA T C c:=by exact λ _ _ _ h=>no h
 o:SO T C c:=by exact λ _ _ _ h=>no h
 l:SL T C c:=by exact λ _ _ _ h=>no h
 i:SI T C c:=by exact λ _ _ _ _ h=>no h
def sn(c:E):Sn T C c:=by
 induction c with
 |var i=>exact {e:=aK7 i,t:=rN (aK7 i) rfl λ _ _ _=>rfl }|int i=>exact {e:=aVj i }|bl b=>exact {e:=aMB b,t:=rN (aMB b) rfl λ _ _ _=>rfl }|non=>exact {e:=aXj }|str x=>exact {e:=aXc x }|bin op a b bQ dG=>exact {e:=aL5 bQ.e dG.e,t:=rN (aL5 bQ.e dG.e) rfl λ _ _ _=>rfl }|un op a bQ=>exact {e:=aYP bQ.e }|cmp op a b bQ dG=>exact {e:=aW2 bQ.e dG.e,t:=aYn bQ.e dG.e }|and a b bQ dG=>exact {e:=aVY bQ.e dG.e,t:=aVG bQ.t dG.t }|or a b bQ dG=>exact {e:=aYS bQ.e dG.e,t:=aZY bQ.t dG.t }|not a bQ=>exact {e:=aWZ bQ.e,t:=aVl bQ.t }|ite c a b ihc bQ dG=>exact {e:=aX2 ihc.t bQ.e dG.e }|tup a bQ=>exact {e:=aXV bQ.a }|lst a bQ=>exact {l:=aXF bQ.a }|nil=>exact {a:=aVu }|cons a r bQ ihr=>exact {a:=aU9 bQ.e ihr.a,o:=aTd bQ.e }|con x ts=>exact {e:=aXQ }|ix a b bQ dG=>exact {e:=aMF bQ.e dG.e,t:=rN (aMF bQ.e dG.e) rfl λ _ _ _=>rfl }|tab x aM k ihk=>exact {e:=aW0 ihk.e }|sl a lo hi bQ ihlo ihhi=>exact {e:=aYW bQ.e ihlo.o ihhi.o }|no=>exact {o:=aYo }|call f a bQ=>exact {e:=aKq bQ.a,t:=rN (aKq bQ.a) rfl λ _ _ _=>rfl }|blt b a bQ=>exact {e:=aL9 bQ.a,t:=rN (aL9 bQ.a) rfl λ _ _ _=>rfl }|isi a n bQ=>exact {e:=aLW bQ.e,t:=rN (aLW bQ.e) rfl λ _ _ _=>rfl }|bits a bQ=>exact {e:=aUM bQ.e }|app o a iho bQ=>exact {e:=aV7 iho.e bQ.e }|idx o a iho bQ=>exact {e:=aWL iho.e bQ.e }|lzip a b bQ dG=>exact {l:=aTY bQ.e dG.e }|lrep a b bQ dG=>exact {l:=aUt bQ.e dG.e }|comp elt t it cond ihelt ihit ihcond=>exact {l:=aUT ihelt.e ihit.i ihcond.t }|it a bQ=>exact {i:=aY0 bQ.e }|rng1 a bQ=>exact {i:=aT6 bQ.e }|rng2 a b bQ dG=>exact {i:=aVb bQ.e dG.e }|rng3 a b c bQ dG ihc=>exact {i:=aTA bQ.e dG.e ihc.e }|zip a b bQ dG=>exact {i:=aXU bQ.e dG.e }|zip3 a b c bQ dG ihc=>exact {i:=aUe bQ.e dG.e ihc.e }|fz a bQ=>exact {e:=aYJ bQ.l }|new a bQ=>exact {e:=aVs bQ.l }|fld a f bQ=>exact {e:=aYh bQ.e }|mth m f o es iho ihes=>exact {e:=aWV iho.e ihes.a }|mk ini np es ihes=>exact {e:=bAi ihes.a }|tpl es ihes=>exact {e:=aWC ihes.a }|din n k d ihk ihd=>exact {e:=aWH ihk.e ihd.e,t:=aXL ihk.e ihd.e }|dget d k ihd ihk=>exact {e:=aTQ ihd.e ihk.e }|cou b es a ihes bQ=>exact {e:=aYg ihes.a bQ.e }
section
variable (T:Tx)(C:Calls)
def SS(c:Sx):Prop:=∀ X,Ctx T C X->(∀ x,X.fn x=Tt)->∀ st,okS T X.N c X.env.scope st=Tt->PS X st (eU X.K (xs C c))
def qM(c:Sx):Prop:=∀ X,Ctx T C X->(∀ x,X.fn x=Tt)->∀ st,qD T X.N c X.env.scope st=Tt->eQ X st (eU X.K (xs C c))
end
def aKG(h:pP e=Tt)(line:Nat)(env:Env):swapsWithSole [t] e line env=pure Ff:=vV h _ _ _
def aP0(h:yL e=Ff):wu [.Tuple ts k p] e env=pure qj:=by cases e<;>first|rfl|exact no h.symm
def aPv:wu [.Subscript o i p] e env=pure qj:=by cases e<;>rfl
def aYl(ha:SS T C a)(hb:qM T C b):qM T C (.seq a b):=λ X hX hf st h=>by
 cases st with
 |nil=>exact no h
 |cons s r=>
   let(h1,h2):=eJ h;exact bAg (ha X hX hf _ h1) (hb X hX hf _ h2)
def aUG:qM T C .skip:=λ X hX hf st h=>kH (P:=λ st=>eQ X st _) h aW4
def aVx:SS T C .nev:=λ X hX hf st h aB s σ H D I t=>by
 let(F,L,S,env,fl,S',R,E,e,q):=kX t;cases e
def aT5:SS T C (.expr e):=λ X hX hf st h=>bBQ (P:=λ st=>PS X st _) h λ x p h=>aVo ((sn e).e X hX _ (aL h)) (vV (aR h) _ _ _)
def aVy:SS T C (.ret e):=λ X hX hf st h=>bBs (P:=λ st=>PS X st _) h λ _ p h=>aMs (P:=λ v=>PS X (.Return v p) _) h λ x h=>bAz ((sn e).e X hX _ h)
def aWW(ha:qM T C a)(hb:qM T C b):SS T C (.ifs c a b):=λ X hX hf st h=>bBE (P:=λ st=>PS X st _) h λ x y z p h=>bBz ((sn c).t X hX _ (aL (aL h))).1 (ha X hX hf _ (aR (aL h))) (hb X hX hf _ (aR h))
def aXy:SS T C (.set i e):=λ X hX hf st h=>uL (P:=λ st=>PS X st _) h λ _ y p h=>jP (P:=λ ts=>PS X (.Assign ts y p) _) (aR h) λ _ g=>mU (P:=λ t=>PS X (.Assign [t] y p) _) g λ x q g=>
 aM3 hX.nd (dT (aL g)) (aEy (aR g)) ((sn e).e X hX _ (aL (aL h))) (vV (aR (aL h)) _ _ _) (.inl (hf _))
def bBr{f:FL}(σ:St)(H:Hp)(Q:VK)(h:aX K (mD f) σ H Q):kA K f σ H Q:=by let(F,L,S,env,w,S',R,E,e,q):=h;let((ds,S1),e1,e2):=aQ e;cases e2;exact(F,L,S,env,ds,_,R,E,e1,λ F1 L1 H1 p xs g1 R1 hF hL hH dl=>q _ L1 _ _ (g1.trans (Gr.new hF)) (R1.adopt hF hL hH) (Den.lst (cI.of dH) (dl.mono (gO hF))),)
def aFx{f:FL}(σ:St)(H:Hp)(Q:VK)(h:aX K (oP f) σ H Q):kA K f σ H Q:=by let(F,L,S,env,w,S',R,E,e,q):=h;let((ds,S1),e1,e2):=aQ e;cases e2;refine(F,L,S,env,ds,_,R,E,e1,λ F1 L1 H1 p xs g1 R1 hF hL hH dl=>q _ _ _ _ (g1.trans Gr.newLoc) (R1.adoptLoc hF hL hH dl) (p,?_,rfl,),);dsimp only;rw[<- R1.len,yAh (yAc _)];simp
def bBZ{f:FL}(nw:Bool):∀ (σ:St) (H:Hp) (Q:VK),aX K (match nw with|true=>oP f|false=>mD f) σ H Q->kA K f σ H Q:=by
 cases nw
 .exact bBr
 .exact aFx
def aUW:SS T C (.setC nw i e):=λ X hX hf st h=>uL (P:=λ st=>PS X st _) h λ _ y p h=>jP (P:=λ ts=>PS X (.Assign ts y p) _) (aR h) λ _ g=>mU (P:=λ t=>PS X (.Assign [t] y p) _) g λ x q g=>by
 refine bAT (P:=λ e=>okL T X.N e X.env.scope y=Tt->PS X (.Assign [.Name x q] y p) (eU X.K (xs C (.setC nw i e)))) (aL (aL h)) (λ elt t it cond hL=>aNl (P:=λ y=>PS X (.Assign [.Name x q] y p) (eU X.K (xs C (.setC nw i (.comp elt t it cond))))) hL λ e tg iter ifs scope r h1 h2 h3 h4 h5 h6 h7=>?_) (aR (aL h));have sok:=aKI h1;refine aQx (g:=vJ X.K t) hX.nd (dT (aL g)) (aEy (aR g)) (.inl (hf _)) hX.calm sok (λ i x a1 a2=>aEN h2 i (gIm a1).1 x a1 a2) ((sn it).i X hX tg iter h4) (λ Y hY=>?_) (aB6 X.K t) (λ Y hY=>?_) (λ Y hY=>?_) (aDh h5 X.env) (bBZ nw)
 .let(c1,c2,c3,c4):=hX.comp sok.kind hY;rw[<- c4];exact aB2 (.inl rfl) c1.nd c1.calm (by rw[c2,c3];exact h3)
 .let(c1,c2,c3,c4):=hX.comp sok.kind hY;cases ifs with|nil=>exact aNA (P:=λ cond=>nJ Y [] (tv C cond)) h6 aIh|cons y r=>exact kH (P:=λ r=>nJ Y (y::r) _) (aL h6) (aIo ((sn cond).t Y c1 y (by rw[c2,c3];exact aR h6)).1)
 .let(c1,c2,c3,c4):=hX.comp sok.kind hY;rw[<- c4];exact(sn elt).e Y c1 e (by rw[c2,c3];exact h7)
def aFL(h:(!b)=Tt):b=Ff:=by grind
def aTw:SS T C (.setT t e):=λ X hX hf st h=>uL (P:=λ st=>PS X st _) h λ _ v p h=>jP (P:=λ ts=>PS X (.Assign ts v p) _) (aR h) λ tg g=>by
 have h1:=aB2 (.inr hf) hX.nd hX.calm (aR g);revert h1;exact sE (P:=λ tg=>PG X tg (vJ X.K t)->PS X (.Assign [tg] v p) (eU X.K (xs C (.setT t e)))) (aL g) λ ts k q _ h1=>PS.weak (aLH ((sn e).e X hX _ (aL (aL (aL h)))) h1 (aKG (aR (aL (aL h))) _ _) (aP0 (aFL (aR (aL h)))) rfl) (aWx (aB6 X.K t))
def aVL:SS T C (.put o i e):=λ X hX hf st h=>uL (P:=λ st=>PS X st _) h λ _ z p h=>jP (P:=λ ts=>PS X (.Assign ts z p) _) (aR h) λ _ g=>yU (P:=λ t=>PS X (.Assign [t] z p) _) g λ x y q g h3=>
 aYt ((sn o).e X hX _ (aL g)) ((sn i).e X hX _ (aR g)) ((sn e).e X hX _ (aL (aL h))) (aQ3 h3) (aKG (aR (aL h)) _ _) aPv
def aT2:SS T C (.dput o i e):=λ X hX hf st h=>uL (P:=λ st=>PS X st _) h λ _ z p h=>jP (P:=λ ts=>PS X (.Assign ts z p) _) (aR h) λ _ g=>yU (P:=λ t=>PS X (.Assign [t] z p) _) g λ x y q g h3=>
 aWA hX.hu ((sn o).e X hX _ (aL g)) ((sn i).e X hX _ (aR g)) ((sn e).e X hX _ (aL (aL h))) (vV (aR (aL h)) _ _ _)
def aS2(hb:qM T C b):SS T C (.loop t it b):=λ X hX hf st h=>bBv (P:=λ st=>PS X st _) h λ tg x y z p h=>kH (P:=λ z=>PS X (.For tg x y z p) _) (aL (aL (aL (aL h))))
 (aYC hX.own hX.calm ((sn it).i X hX _ _ (aR (aL (aL h)))) (aB2 (.inr hf) hX.nd hX.calm (aR (aL (aL (aL h))))) (aB6 X.K t) (hb X hX hf _ (aR h)) (aDh (aR (aL h)) X.env))
def ss{C:Calls}(c:Sx):SS T C c/\qM T C c:=by
 have N2:∀ {c:Sx},SS T C c->(∀ N sc st,qD T N c sc st=Ff)->SS T C c/\qM T C c:=λ q hh=>(q,λ X hX hf st h=>by rw[hh] at h;exact no h,)
 induction c with
 |skip=>exact(λ X hX hf st h=>no h,aUG,)|seq a b bQ dG=>exact(λ X hX hf st h=>no h,aYl bQ.1 dG.2,)|expr e=>exact N2 aT5 λ _ _ _=>rfl|ret e=>exact N2 aVy λ _ _ _=>rfl|nev=>exact N2 aVx λ _ _ _=>rfl|ifs c a b bQ dG=>exact N2 (aWW bQ.2 dG.2) λ _ _ _=>rfl|set i e=>exact N2 aXy λ _ _ _=>rfl|setC nw i e=>exact N2 aUW λ _ _ _=>rfl|setT t e=>exact N2 aTw λ _ _ _=>rfl|put o i e=>exact N2 aVL λ _ _ _=>rfl|dput o i e=>exact N2 aT2 λ _ _ _=>rfl|loop t it b dG=>exact N2 (aS2 dG.2) λ _ _ _=>rfl
structure Fn where
 name:Str
 np:Nat
 N:List Str
 body:Sx
 st:xk
 me:Bool:=Ff
 qual:Str:=name
structure Cl where
 ini:List (Str×Ini)
 np:Nat
 N:List Str
 st:xk
def aF(fs:Li Fn):Nat->Calls
 |0=>λ _=>qj|d+1=>λ f=>(fs[f]?).map λ F=>(F.np,gH (xs (aF fs d) F.body) F.N.length)
structure Tbs where
 tb:List (Str×List (Str×Tv))
 cn:List (Str×List Tv)
 st:List (Str×Str)
 cl:Option Cl
def oQ:Nat->Li Fn->Li (Str×Nat)
 |_,[]=>[]
 |i,F::r=>if F.me=Tt then (F.name,i)::oQ (i+1) r else oQ (i+1) r
def tab(fs:Li Fn)(tb:Tbs):Tx:=(fs.map λ F=>(F.name,F.np),tb.tb,tb.cn,tb.st,oQ 0 fs,tb.cl.map λ c=>(c.ini,c.np),)
def aMA:∀ {fs:Li Fn}{i f:Nat}{F:Fn},fs[f]?=qz F->F.me=Tt->(F.name,i+f)∈oQ i fs
 |[],i,f,F,e,_=>by simp at e
 |G::r,i,0,F,e,h=>by
   simp at e;subst e;rw[oQ,if_pos h];exact xAc
 |G::r,i,f+1,F,e,h=>by
   have q:=@aMA r (i+1) f F (e:) h;rw[show i+1+f=i+(f+1) by omega] at q;rw[oQ];split
   .exact xAf _ q
   .exact q
def aM4:∀ {fs:Li Fn}{i f:Nat}{m:Str},(m,f)∈oQ i fs->∃ F,i<=f/\fs[f-i]?=qz F/\F.me=Tt/\F.name=m
 |[],i,f,m,h=>by cases h
 |G::r,i,f,m,h=>by
   have cM:(m,f)∈oQ (i+1) r->∃ F,i<=f/\(G::r)[f-i]?=qz F/\F.me=Tt/\F.name=m:=λ q=>by
    let(F,h1,h2,h3,h4):=aM4 q;refine(F,by omega,?_,h3,h4,);rw[show f-i=(f-(i+1))+1 by omega];simpa using h2
   rw[oQ] at h;split at h
   .rename_i hm;rcases List.mem_cons.mp h with z|z
    .cases z;exact(G,yAc _,by rw[yBf];rfl,hm,rfl,)
    .exact cM z
   .exact cM h
def aEU(N:Li Str)(sc:zw)(i:Nat)(e:qy):Bool:=jI (λ x _=>decide (N[i]?=qz x)&&qJ sc x && !(x==("__debug__" : Str)) && !(x==("__classdict__" : Str))) e
def aKV(N:Li Str)(sc:zw)(i:Ini)(y:qy):Bool:=match i with|.arg j=>aEU N sc (j+1) y|.lst=>kLi (λ xs _=>xs.isEmpty) y|.dct=>kDi (λ ks vs _=>ks.isEmpty&&vs.isEmpty) y
def aBx(N:Li Str)(sc:zw):Li (Str×Ini)->List xk->Bool
 |[],l=>l.isEmpty
 | p::r,l=>(match l with
   |st::l=>qN (λ ts y _=>aKV N sc p.2 y&&pP y&&jF (λ t=>kAt (λ o g _=>decide (g=p.1)&&aEU N sc 0 o) t) ts) st&&aBx N sc r l
   | []=>Ff)
def aKt(h:aEU X.N X.env.scope i e=Tt):PE X e (zO i):=mU (P:=λ e=>PE X e _) h λ y p h=>aKW (dT (aL (aL (aL h)))) (aLK (aR (aL (aL h)))) (qT (aR (aL h))) (qT (aR h))
def aSS(h:aKV X.N X.env.scope i y=Tt):PE X y (aNL i):=by
 cases i with
 |arg j=>exact aKt h|lst=>exact aF2 (P:=λ y=>PE X y _) h λ xs p h=>kH (P:=λ xs=>PE X (.List xs p) _) h (aEG aEJ)|dct=>exact bAZ (P:=λ y=>PE X y _) h λ ks vs p h=>kH (P:=λ ks=>PE X (.Dict ks vs p) _) (aL h) (kH (P:=λ vs=>PE X (.Dict [] vs p) _) (aR h) aRP)
def aKe{X:Cx}:∀ {ini:Li (Str×Ini)}{sts:List xk},aBx X.N X.env.scope ini sts=Tt->eQ X sts (zX X.K ini)
 |[],sts,h=>kH (P:=λ sts=>eQ X sts _) h aKm|p::r,[],h=>no h
 |p::r,st::sts,h=>by
   refine aIQ ?_ (aKe (aR h));exact uL (P:=λ st=>PS X st _) (aL h) λ _ y q h=>jP (P:=λ ts=>PS X (.Assign ts y q) _) (aR h) λ _ g=>aFZ (P:=λ t=>PS X (.Assign [t] y q) _) g λ o g p' h'=>by
    obtain rfl:=dT (aL h');exact aWq (aKt (aR h')) (aSS (aL (aL h))) (vV (aR (aL h)) _ _ _)
def xI:Li Str->Bool
 |[]=>Tt|x::r=>!r.contains x&&xI r
def aA3:∀ {l:Li Str},xI l=Tt->l.Nodup
 |[],_=>List.nodup_nil
 |x::r,h=>by
   let(h1,h2):=eJ h;refine List.nodup_cons.mpr (λ z=>?_,aA3 h2,);simp_all
def aCe(fs:Li Fn)(tb:Tbs)(F:Fn):Bool:=
 decide ((dQ F.st).kind=.function) && !(dQ F.st).isCoroutine && !(dQ F.st).isGenerator&&xI F.N&&decide (F.np<=F.N.length)&&(F.N.take F.np).all (loc (dQ F.st))&&(dQ F.st).names.all (λ y=>!decide (y.2=.free)) &&
  qD (tab fs tb) F.N F.body (dQ F.st) (hU F.st)
def aLo(h:loc sc x=Tt):sc.names.lookup x=qz .local\/sc.names.lookup x=qz .cell:=by unfold loc at h;split at h<;>first|exact .inl (by assumption)|exact .inr (by assumption)|exact no h
def aSg(h:aCe fs tb F=Tt):FnScope F.N (F.N.take F.np) (dQ F.st)/\qD (tab fs tb) F.N F.body (dQ F.st) (hU F.st)=Tt/\(F.N.take F.np).length=F.np:=by
 let(h,h8):=eJ h;let(h,h7):=eJ h;let(h,h6):=eJ h;let(h,h5):=eJ h;let(h,h4):=eJ h;let(h,h3):=eJ h;let(h1,h2):=eJ h;have hl:(F.N.take F.np).length=F.np:=by
  rw[yBj];simp_all
 refine((oqT h1,?_,?_,aA3 h4,by rw[hl],λ x hx=>aLo (List.all_eq_true.mp h6 x hx),λ y hy=>?_,),h8,hl,)
 .simp_all
 .simp_all
 .have:=List.all_eq_true.mp h7 y hy;intro z;rw[dqT z] at this;exact no this
def zY(c:Cl):Bool:=
 decide ((dQ c.st).kind=.function) && !(dQ c.st).isCoroutine && !(dQ c.st).isGenerator&&xI c.N&&decide (c.np<=c.N.length)&&(c.N.take c.np).all (loc (dQ c.st))&&(dQ c.st).names.all (λ y=>!decide (y.2=.free)) &&
  aBx c.N (dQ c.st) c.ini (hU c.st)&&xI (c.ini.map (·.1))&&decide (c.ini.length<=1000)
def aRm(h:zY c=Tt):FnScope c.N (c.N.take c.np) (dQ c.st)/\aBx c.N (dQ c.st) c.ini (hU c.st)=Tt/\(c.N.take c.np).length=c.np/\(c.ini.map (·.1)).Nodup/\c.ini.length<=1000:=by
 let(h,h10):=eJ h;let(h,h9):=eJ h;let(h,h8):=eJ h;let(h,h7):=eJ h;let(h,h6):=eJ h;let(h,h5):=eJ h;let(h,h4):=eJ h;let(h,h3):=eJ h;let(h1,h2):=eJ h;have hl:(c.N.take c.np).length=c.np:=by
  rw[yBj];simp_all
 refine((oqT h1,aFL h2,aFL h3,aA3 h4,by rw[hl],λ x hx=>aLo (List.all_eq_true.mp h6 x hx),λ y hy=>?_,),h8,hl,aA3 h9,oqT h10,);have:=List.all_eq_true.mp h7 y hy;intro z;rw[dqT z] at this;exact no this
def aNM(K:FrG)(F:Fn):Prop:=∃ Cc fa fd,lK K Cc/\Cls K Cc/\Meth K Cc F.name fa/\Fun K F.name F.qual F.st fa fd/\iE K fd (F.N.take F.np) []
def aOg(K:FrG)(mg:Str->Option qx)(c:Cl):Prop:=∃ Cc fi fd,lK K Cc/\Cls K Cc/\mg "Maker" = qz (.ref Cc)/\(∀ p∈c.ini,NoAttr K Cc p.1)/\Mk K Cc fi/\Fun K "__init__" "Maker.__init__" c.st fi fd/\iE K fd (c.N.take c.np) []
def aUZ{mg:Str -> Option qx}(hk:zY c=Tt)(hc:Cls K Cc)(hn:∀ p∈c.ini,NoAttr K Cc p.1)(Fu:Fun K "__init__" "Maker.__init__" c.st fi fd):FnOk P w K mg base oZ 1 fi fd (c.N.take c.np) (spM K Cc c.ini c.np):=by
 let(sc,hok,hl,nd,le):=aRm hk;refine Fu.ok sc (λ vs H Q E h=>?_) λ cdv A outer s H vs Q E hr h=>(_,aKe hok,aWh hc hn nd le h,)
 let(F,L,S,x,dx,ds,us,fs,S',rfl,hu,_):=h;rw[hl,<- hu];rfl
section
variable {P:zq}{w:zj}{K:FrG}{mg:Str->Option qx}{base:Heap}
def aJ2(fs:Li Fn)(tb:Tbs)(hk:∀ F∈fs,aCe fs tb F=Tt)(top:∀ F∈fs,F.me=Ff->∃ fa fd,Fun K F.name F.name F.st fa fd/\mg F.name=qz (.ref fa)/\iE K fd (F.N.take F.np) [])(topM:∀ F∈fs,F.me=Tt->aNM K F)(hck:∀ c,tb.cl=qz c->zY c=Tt)(hcl:∀ c,tb.cl=qz c->aOg K mg c)
 (hb:∀ x∈bltNames,mg x=qj) (ht:∀ x aM,(x,aM)∈tb.tb->∃ a,mg x=qz (.ref a)/\yS K w a aM) (hcn:∀ x ts,(x,ts)∈tb.cn->∃ a,mg x=qz (.ref a)/\uF K a ts) (hst:∀ x y,(x,y)∈tb.st->∃ t,mg x=qz (.str y t)) :
 ∀ d f F np call q fa fd,fs[f]?=qz F->aF fs d f=qz (np,call)->Fun K F.name q F.st fa fd->FnOk P w K mg base oZ (d+2) fa fd (F.N.take F.np) (qP K np call)
 |0,f,F,np,call,q,fa,fd,eF,e,Fu=>by cases e
 |d+1,f,F,np,call,q,fa,fd,eF,e,Fu=>by
   have ih:=aJ2 fs tb hk top topM hck hcl hb ht hcn hst d;have e2:(F.np,gH (xs (aF fs d) F.body) F.N.length)=(np,call):=by
    have e':(fs[f]?).map (λ F=>(F.np,gH (xs (aF fs d) F.body) F.N.length))=qz (np,call):=e;rw[eF] at e';exact Option.some.inj e'
   cases e2;have hm:F∈fs:=xAk eF;let(sc,hok,hl):=aSg (hk F hm);refine Fu.ok sc (λ vs H Q E h=>?_) λ cdv A outer s H vs Q E hr h=>?_
   .let(F1,L,S,ws,w1,S',hn,R,dl,_):=h;rw[hl,<- hn];exact dl.length.symm
   .refine(_,(@ss (tab fs tb) (aF fs d) F.body).2 _ (sc.nd,rfl,rfl,sc.kind,(d+2,by omega,hr,λ f' np' call' x' e1 e2=>?_,λ m f' np' call' e1 e2=>?_,),λ ini np e=>?_,hb,λ x aM hx=>ht x aM hx,λ x ts hx=>hcn x ts hx,λ x y hx=>hst x y hx,) (λ _=>rfl) _ hok,aXw h,)
    .let(e2,e3):=eJ e2;have e2:((fs.map λ F=>(F.name,F.np))[f']?).map (·.1)=qz x':=dT e2;rw[yAe] at e2;cases q:fs[f']? with
     |none=>rw[q] at e2;cases e2
     |some F'=>
       rw[q] at e2;have hx:F'.name=x':=Option.some.inj e2;subst hx;have hme:F'.me=Ff:=by
        cases z:F'.me with
        |false=>rfl
        |true=>
          have z1:=aMA (i:=0) q z;rw[yEt] at z1;have z2:((tab fs tb).mt.any λ p=>decide (p.2=f'))=Tt:=List.any_eq_true.mpr (_,z1,by simp,);rw[z2] at e3;exact no e3
       let(fa',fd',Fu',hmg',hbi'):=top F' (xAk q) hme;exact(fa',fd',_,hmg',Fu'.kp,hbi',ih f' F' np' call' _ fa' fd' q e1 Fu',)
    .let(F',_,h2,h3,rfl):=aM4 e2;rw[Nat.sub_zero] at h2;let(Cc,fa',fd',m1,m2,m3,m4,m5):=topM F' (xAk h2) h3;exact(Cc,fa',fd',_,m1,m2,m3,m5,ih f' F' np' call' _ fa' fd' h2 e1 m4,)
    .let(c,e1,e2):=map_some (show tb.cl.map (λ c=>(c.ini,c.np))=qz (ini,np) from e);cases e2;let(Cc,fi,fd',m1,m2,m3,m4,m5,m6,m7):=hcl c e1;exact(Cc,fi,fd',_,m1,m2,m3,m4,m5,m7,aUZ (hck c e1) m2 m4 m6,)
end
structure TopFn(K:FrG)(F:Fn):Prop where
 me:F.me=Ff
 ex:∃ (f:qw) (oc:qx) (od an:Option qw) (sl:Array (Option qx)) (kV dc pm cd ct:qx),yCg K zy F.name=qz (qz (.ref f)) /\
  K.lookup f=qz (oc,od,.func (yCb F.name F.name (kF F.st) (hU F.st) (dQ F.st) .none kV dc pm an cd ct),sl,)/\yDj K cd F.name=Tt/\yBp K (.ref f)=Tt
def top_mk{F:Fn}{kV:qx}(a:yCg K zy F.name=qz (qz (.ref f)))(l:K.lookup f=qz (oc,od,.func (yCb F.name F.name (kF F.st) (hU F.st) (dQ F.st) .none kV dc pm an cd ct),sl,))(c:yDj K cd F.name=Tt)(k:yBp K (.ref f)=Tt)(m:F.me=Ff:=by rfl):TopFn K F:=
 (m,f,oc,od,an,sl,kV,dc,pm,cd,ct,a,l,c,k,)
structure TopMe(K:FrG)(F:Fn):Prop where
 me:F.me=Tt
 ex:∃ (Cc f:qw) (oc:qx) (od an:Option qw) (sl:Array (Option qx)) (kV dc pm cd ct:qx),lK K Cc/\Cls K Cc/\Meth K Cc F.name f /\
  K.lookup f=qz (oc,od,.func (yCb F.name F.qual (kF F.st) (hU F.st) (dQ F.st) .none kV dc pm an cd ct),sl,)/\yDj K cd F.qual=Tt/\yBp K (.ref f)=Tt
def topm_mk{F:Fn}{kV:qx}(a:yCg K zy "Maker" = qz (qz (.ref Cc)))(c1:yEp K Cc Str.empty=Tt)(c2:yFa K Cc=Tt)(c3:yGg K Cc=Tt)(c4:yBm K (.ref Cc) "__setattr__" = qz (qz (.builtin "object.__setattr__")))(m1:yBm K (.ref Cc) F.name=qz (qz (.ref f)))(m2:yHe K (.ref f)=Tt)(l:K.lookup f=qz (oc,od,.func (yCb F.name F.qual (kF F.st) (hU F.st) (dQ F.st) .none kV dc pm an cd ct),sl,))(c:yDj K cd F.qual=Tt)(k:yBp K (.ref f)=Tt)(m:F.me=Tt:=by rfl):TopMe K F:=
 (m,Cc,f,oc,od,an,sl,kV,dc,pm,cd,ct,a,(c1,c2,c3,c4,),(m1,m2,k,),l,c,k,)
structure TopCl(K:FrG)(c:Cl):Prop where
 ex:∃ (Cc f:qw) (oc:qx) (od an:Option qw) (sl:Array (Option qx)) (kV dc pm cd ct:qx),lK K Cc/\Cls K Cc/\(∀ p∈c.ini,NoAttr K Cc p.1)/\Mk K Cc f /\
  K.lookup f=qz (oc,od,.func (yCb "__init__" "Maker.__init__" (kF c.st) (hU c.st) (dQ c.st) .none kV dc pm an cd ct),sl,)/\yDj K cd "Maker.__init__" = Tt/\yBp K (.ref f)=Tt
def topc_mk{c:Cl}{kV:qx}(a:yCg K zy "Maker" = qz (qz (.ref Cc)))(c1:yEp K Cc Str.empty=Tt)(c2:yFa K Cc=Tt)(c3:yGg K Cc=Tt)(c4:yBm K (.ref Cc) "__setattr__" = qz (qz (.builtin "object.__setattr__")))(n:∀ p∈c.ini,NoAttr K Cc p.1)(m1:yIe K Cc=Tt)(m2:yBm K (.ref Cc) "__init__" = qz (qz (.ref f)))(m3:yHe K (.ref f)=Tt)(m4:yBp K (.ref Cc)=Tt)(l:K.lookup f=qz ⟨oc,od,.func (yCb "__init__" "Maker.__init__" (kF c.st) (hU c.st) (dQ c.st) .none kV dc pm an cd ct),sl⟩)(cc:yDj K cd "Maker.__init__" = Tt)(k:yBp K (.ref f)=Tt):TopCl K c:=
 (Cc,f,oc,od,an,sl,kV,dc,pm,cd,ct,a,(c1,c2,c3,c4,),n,(m1,m2,m3,m4,),l,cc,k,)
def Cl.fn(c:Cl):Fn:={name:="__init__",np:=c.np,N:=c.N,body:=.skip,st:=c.st,qual:="Maker.__init__" }
structure TabTop(K:FrG)(w:zj)(t:Str×List (Str×Tv)):Prop where
 ex:∃ (a:qw) (es:Array DictEntry) (ep:Nat),yCg K zy t.1=qz (qz (.ref a))/\(a==sysModules)=Ff/\K.lookup a=qz {cls:=.type "dict",data:=.dict es ep }/\tX w es.toList t.2
def tab_mk{t:Str×Li (Str×Tv)}{es:Array DictEntry}(a1:yCg K zy t.1=qz (qz (.ref a)))(l1:K.lookup a=qz {cls:=.type "dict",data:=.dict es ep })(c1:tX w es.toList t.2)(s1:(a==sysModules)=Ff):TabTop K w t:=(a,es,ep,a1,s1,l1,c1,)
structure ConTop(K:FrG)(t:Str×List Tv):Prop where
 ex:∃ a:qw,yCg K zy t.1=qz (qz (.ref a))/\uF K a t.2
def con_mk{t:Str×Li Tv}{aI:Array qx}(a1:yCg K zy t.1=qz (qz (.ref a)))(l1:K.lookup a=qz {cls:=.type "tuple",dict:=od,data:=.seq aI n,slots:=sl })(z1:aI.size<=100)(c1:aBP aI.toList t.2):ConTop K t:=
 (a,a1,_,aI,n,l1,rfl,rfl,xAh z1 (·),c1,)
structure StTop(K:FrG)(t:Str×Str):Prop where
 ex:∃ k:Tok,yCg K zy t.1=qz (qz (.str t.2 k))
def wO(F:Fn):Prop:=∀ (qq:Str) (kV doc pm:qx) (an:Option qw) (cdv ct:qx) (us:List qx),↑us=(F.N.take F.np).length->bindArgs (yCb F.name qq (kF F.st) (hU F.st) (dQ F.st) .none kV doc pm an cdv ct) ⟨us,[]⟩=pure ((F.N.take F.np).zip us)
def aFr(F:Fn):Bool:=match kF F.st with|⟨[],as,qj,[],_,qj,_⟩=>decide (F.N.take F.np=as.map (·.arg))&&decide (F.N.take F.np).Nodup|_=>Ff
def aIX:∀ {ns:Li Str}{us:List qx},ns.Nodup->↑us=↑ns->(∀ n∈ns,((ns.zip us).lookup n).isNone=Ff)/\ns.filterMap (λ n=>((ns.zip us).lookup n).map (n,·))=ns.zip us
 |[],us,_,_=>(λ n h=>(nomatch h),by cases us<;>rfl,)|x::ns,[],_,h=>by cases h
 |x::ns,u::us,hn,hl=>by
   let(h1,h2):=List.nodup_cons.mp hn;let(i1,i2):=aIX h2 (Nat.succ.inj hl);have e:∀ n∈ns,((x,u)::ns.zip us).lookup n=(ns.zip us).lookup n:=λ n m=>by
    rw[yBy];have:(n==x)=Ff:=by
     rw[beq_eq_false_iff_ne];rintro rfl;exact h1 m
    rw[this]
   refine(λ n m=>?_,?_,)
   .rw[yHh];rcases List.mem_cons.mp m with rfl|m
    .rw[yBy,beq_self_eq_true];rfl
    .rw[e n m];exact i1 n m
   .rw[yHh,yCj,yBy,beq_self_eq_true];show(x,u)::_=_;congr 1;rw[<- i2];rw[i2];have g:∀ l:Li Str,(∀ n∈l,n∈ns)->l.filterMap (λ n=>(((x,u)::ns.zip us).lookup n).map (n,·))=l.filterMap (λ n=>((ns.zip us).lookup n).map (n,·)):=λ l=>by
     induction l with
     |nil=>intro _;rfl|cons y l ih=>intro hl;rw[yCj,yCj,e y (hl y xAc),ih λ n m=>hl n (xAf _ m)]
    rw[g ns λ n m=>m,i2]
def aIN(h:aFr F=Tt):wO F:=by
 intro qq kV doc pm an cdv ct us hu;unfold aFr at h;split at h
 .rename_i as kd df e;let(h1,h2):=eJ h;have h1:=oqT h1;rw[e];rw[h1] at hu h2 ⊢;let(i1,i2):=aIX (oqT h2) hu;have m:((as.map (·.arg)).take (as.map (·.arg)).length).filter (λ n=>(((as.map (·.arg)).zip us).lookup n).isNone)=[]:=by
   rw[yAf,List.filter_eq_nil_iff];intro n hn;rw[i1 n hn];decide
  unfold bindArgs;have q:seqItems? Value.none=(pure qj:Sem (Oz (Array qx))):=rfl;simp only[yCb,q,pure_bind,yEj,yEg,yBa,List.forIn_nil,yHz,yBx,List.drop_nil,List.zip_nil_right,Nat.sub_zero,hu,gt_iff_lt,yCm,decide_false,yAx,yAv,if_false,m,List.isEmpty_nil,Bool.not_true,i2,Option.isNone_none]
 .exact no h
def aHv:∀ {ns:Li Int}{i:Int},i∈ns->yAo i<=PySem.W.WData.weightAll (ns.map PySem.W.WData.int)
 |[],i,h=>by cases h
 |n::r,i,h=>by
   have e:PySem.W.WData.weightAll ((n::r).map PySem.W.WData.int)=yAo n+1+PySem.W.WData.weightAll (r.map PySem.W.WData.int):=rfl;rw[e];rcases List.mem_cons.mp h with z|z
   .subst z;omega
   .have:=aHv z;omega
def aSF{ns:Li Int}(h:PySem.W.WData.layableAll [PySem.W.WData.list (ns.map PySem.W.WData.int)]=Tt):∀ i∈ns,yAo i<=1048576:=λ i hi=>by
 have h1:PySem.W.WData.layable (PySem.W.WData.list (ns.map PySem.W.WData.int))=Tt:=by
  have:=List.all_eq_true.mp h _ xAc;exact this
 have h2:PySem.W.WData.weight (PySem.W.WData.list (ns.map PySem.W.WData.int))<=2^20:=oqT (eJ h1).2;exact xAh (aHv hi) h2
def aUK{l:PySem.W.OpenLaw}{XP:(Str->Option qx)->Heap->Prop}{YP:zj->Heap->Prop}{d:DefRec}(hn:l.most=qz n)(hdf:d.params.defaults=[])(go:∀ (w:zj) (s₀ s₁:qv) (mg mb:Str->Option qx) (fa:qw) (a:qw) (vs:List qx) (ns:Li Int),
   PySem.W.Ground q loose [] XP w s₀ mg mb s₁.heap->YP w s₁.heap->mg d.name=qz (.ref fa) ->
   s₁.heap.get? a=qz {cls:=.type "list",data:=.seq vs.toArray }->IntsAre vs ns->↑ns<=n->(∀ i∈ns,yAo i<=1048576)->s₁.gens = #[] ->
   ju (model l.prog w) callerA (.call (.ref fa) ([.ref a],[],)) (λ r s'=>r=.ok (.ret (.bool Tt))/\OldK s₁.heap s'.heap/\s'.os=s₁.os/\AllBare s'.gens) s₁) :
 PySem.W.WalkO q loose XP YP l.row.toRowW d [] (λ f vs=>PySem.call f vs):=by intro w s₀ s₁ mg mb G Y fa o pm cd doc dV kV ho hd hcd hD hmg hg args vals as hpre hlay hrd hwl hlo;obtain rfl:dV=.none:=PySem.W.Dflts.none hD hdf;obtain rfl:kV=.none:=PySem.W.Dflts.noKw hD;let(a,vs,ns,rfl,rfl,hobj,hints,dE):=Att.script_of hn hpre hwl;refine PySem.W.enter_call (codeAny_mono (go w s₀ s₁ mg mb fa a vs ns G Y hmg hobj hints dE (aSF hlay) hg) λ r s' hq=>?_);let(rfl,h2,h3,h4):=hq;exact(.inl (.bool Tt,.bool Tt,[],rfl,λ _=>rfl,.bool Tt,Att.post_true l _,λ _=>(List.Pairwise.nil,λ _ hm=>(nomatch hm),),),h2,h3,h4,)
def law_of{l:PySem.W.OpenLaw}{XP:(Str->Option qx)->Heap->Prop}{YP:zj->Heap->Prop}{d:DefRec}{K:Params->FrG}(fs:Li Fn)(tb:Tbs)(f D:Nat)(L:Fn)(x:Str)(hn:l.most=qz 63)(hdf:d.params.defaults=[])(hr:Room (D+2) callerA)(hY:∀ (w:zj) (h:Heap),YP w h->(K w.params).In h)(hk:∀ F∈fs,aCe fs tb F=Tt)(hb:∀ F∈fs,wO F)(hL:fs[f]?=qz L)(hname:L.name=d.name)(hps:L.N.take L.np=[x])(hme:L.me=Ff)(top:∀ w:zj,∀ h:Heap,(K w.params).In h->∀ F∈fs,TopFn (K w.params) F\/TopMe (K w.params) F)(ck:∀ c,tb.cl=qz c->zY c=Tt/\wO c.fn)(clt:∀ w:zj,∀ h:Heap,(K w.params).In h->∀ c,tb.cl=qz c->TopCl (K w.params) c)(tbl:∀ w:zj,∀ h:Heap,(K w.params).In h->∀ t∈tb.tb,TabTop (K w.params) w t)(cnl:∀ w:zj,∀ h:Heap,(K w.params).In h->∀ t∈tb.cn,ConTop (K w.params) t)(stl:∀ w:zj,∀ h:Heap,(K w.params).In h->∀ t∈tb.st,StTop (K w.params) t)(tbn:∀ w:zj,∀ h:Heap,(K w.params).In h->∀ x∈bltNames,yCg (K w.params) zy x=qz qj)(main:∀ ns:Li Int,↑ns<=63->(∀ i∈ns,yAo i<=1048576)->∃ call S',aF fs D f=qz (1,call)/\call [.d (Lz (ns.map Iz))] []=qz (.d (Bz Tt),S')) :
 PySem.W.WalkO q loose XP YP l.row.toRowW d [] (λ f vs=>PySem.call f vs):=by
 let(call,S0,hcall,_):=main [] (by simp) (by simp);refine aUK hn hdf λ w s₀ s₁ mg mb fa a vs ns G Y hmg hobj hints dE hsm hg=>?_
 have KX:=hY w _ Y;have tops:∀ F∈fs,F.me=Ff->∃ fa fd,Fun (K w.params) F.name F.name F.st fa fd/\mg F.name=qz (.ref fa)/\iE (K w.params) fd (F.N.take F.np) []:=λ F hF hme=>by
  rcases top w _ KX F hF with t|t
  .let(f,oc,od,an,sl,kV,dc,pm,cd,ct,a,l,c,k):=t.ex;have Fu:=aET (st:=F.st) l c k;exact(f,_,Fu,yGp KX G.T.g a,Fu.binds (hb F hF _),)
  .rw[t.me] at hme;cases hme
 have topM:∀ F∈fs,F.me=Tt->aNM (K w.params) F:=λ F hF hme=>by
  rcases top w _ KX F hF with t|t
  .rw[t.me] at hme;cases hme
  .let(Cc,f,oc,od,an,sl,kV,dc,pm,cd,ct,a1,a2,a3,l,c,k):=t.ex;have Fu:=aET (st:=F.st) l c k;exact(Cc,f,_,a1,a2,a3,Fu,Fu.binds (hb F hF _),)
 have hcl:∀ c,tb.cl=qz c->aOg (K w.params) mg c:=λ c hc=>by
  let(Cc,f,oc,od,an,sl,kV,dc,pm,cd,ct,a1,a2,a3,a4,l,cc,k):=(clt w _ KX c hc).ex;have Fu:=aET (st:=c.st) l cc k;exact(Cc,f,_,a1,a2,yGp KX G.T.g a1,a3,a4,Fu,Fu.binds ((ck c hc).2 _),)
 have hblt:∀ x∈bltNames,mg x=qj:=λ y hy=>PySem.W.mg_none_of KX G.T.g (tbn w _ KX y hy)
 have htab:∀ x aM,(x,aM)∈tb.tb->∃ a,mg x=qz (.ref a)/\yS (K w.params) w a aM:=λ x aM hx=>by
  let(a,es,ep,a1,s1,l1,c1):=(tbl w _ KX (x,aM) hx).ex;exact(a,yGp KX G.T.g a1,s1,es,ep,l1,c1,)
 have hcon:∀ x ts,(x,ts)∈tb.cn->∃ a,mg x=qz (.ref a)/\uF (K w.params) a ts:=λ x ts hx=>by
  let(a,a1,c1):=(cnl w _ KX (x,ts) hx).ex;exact(a,yGp KX G.T.g a1,c1,)
 have hst:∀ x y,(x,y)∈tb.st->∃ t,mg x=qz (.str y t):=λ x y hx=>by
  let(k,a1):=(stl w _ KX (x,y) hx).ex;exact(k,yGp KX G.T.g a1,)
 let(fa1,fd,Fu,hmg1,hbi):=tops L (xAk hL) hme;rw[<- hname,hmg1] at hmg;cases hmg;refine L2.law_call (fd:=fd) (sp:=qP (K w.params) 1 call) (CX:=oZ) (x:=x) KX G.T.g G.T.b G.T.builtins G.T.nolimit hg hobj hints (xAh dE (·)) hr (λ base kb nb=>?_) (λ s u=>?_) (λ H hO hS=>?_) λ _ _ _ z=>z
 .have P1:=@aJ2 l.prog w _ _ base fs tb hk tops topM (λ c hc=>(ck c hc).1) hcl hblt htab hcon hst D f L 1 call _ _ _ hL hcall Fu;rw[hps] at P1;exact P1
 .let(oc,od,kV,doc,pm,an,cdv,ct,osl,rfl,lk,hcd):=Fu.ex;have:=hb L (xAk hL) L.name kV doc pm an cdv ct [u] (by rw[hps];rfl);rw[hps] at this;exact .of_eq this
 .let(call',S',hcall',hrun):=main ns dE hsm;rw[hcall] at hcall';cases hcall';refine(H,[],[],[.d (Lz (ns.map Iz))],.d (Bz Tt),S',rfl,(cE.refl _,List.nodup_nil,rfl,λ n a ds e=>by simp at e,λ n a ds e=>by simp at e,λ n a b e=>by simp at e,),.cons (Den.lst hS (DenL.of_ints ns)) .nil,hrun,λ F' L' H' v g R d=>?_,);cases (show Den (K w.params) F' (.bool Tt) v from d);rfl
end EV
namespace EV
open PySem L2
def aSW{α:Type}(S:List α)(a b:α):(S++[a]).set ↑S b=S++[b]:=by simp
def aDt{α:Type}{t:Tg}{fc:FT}{fe:FE}{S:aE}(enc g:α->D)(p:α->Bool):∀ (l:List α) (aH:Li D),aH.length+↑l<=qk ->
 (∀ a∈l,∃ e1,t.put (enc a) env=qz e1/\(∀ S',fc e1 S'=qz (p a,S'))/\(p a=Tt->∀ S',fe e1 S'=qz (.d (g a),S'))) ->
 gT t fc fe ↑S env (l.map enc) (S++[qz aH])=qz (S++[qz (aH++(l.filter p).map g)])
 |[],aH,_,_=>by simp[gT]
 |a::l,aH,hz,h=>by
   let(e1,h1,h2,h3):=h a xAc;have hlt:aH.length<qk:=by simp at hz;omega
   have cM:=λ x (hx:x∈l)=>h x (xAf _ hx)
   simp only[yAk,gT,h1,yDa,h2];cases hp:p a with
   |false=>
     simp only[yAv,if_false];rw[aDt enc g p l aH (by simp at hz;omega) cM];simp[yBz,hp]
   |true=>
     have ea:eZ (S++[qz aH]) (.loc ↑S) (.d (g a))=qz (.d .none,S++[qz (aH++[g a])]):=by
      unfold eZ;simp_all
     simp only[if_true,h3 hp,yDa,ea];rw[aDt enc g p l (aH++[g a]) (by simp at hz ⊢;omega) cM];simp[yBz,hp]
def aIV{α:Type}{t:Tg}{fi:FL}{fc:FT}{fe:FE}(enc g:α->D)(p:α->Bool)(l:List α)(hi:fi env S=qz (l.map enc,S1))(hz:↑l<=qk)(h:∀ a∈l,∃ e1,t.put (enc a) (clr t.slots env)=qz e1/\(∀ S',fc e1 S'=qz (p a,S'))/\(p a=Tt->∀ S',fe e1 S'=qz (.d (g a),S'))):jC t fi fc fe env S=qz ((l.filter p).map g,S1):=by unfold jC;rw[hi];simp only[yDa];rw[aDt enc g p l [] (hz:) h];simp
def aDr{α:Type}{t:Tg}{fc:FT}{fe:FE}{env:bG}{S:aE}(enc g:α->D)(p:α->Bool):∀ (l:List α) (aH:Li D),aH.length+↑l<=qk ->
 (∀ a∈l,∃ e1,t.put (enc a) env=qz e1/\(∀ aH,fc e1 (S++[qz aH])=qz (p a,S++[qz aH]))/\(p a=Tt->∀ aH,fe e1 (S++[qz aH])=qz (.d (g a),S++[qz aH]))) ->
 gT t fc fe ↑S env (l.map enc) (S++[qz aH])=qz (S++[qz (aH++(l.filter p).map g)])
 |[],aH,_,_=>by simp[gT]
 |a::l,aH,hz,h=>by
   let(e1,h1,h2,h3):=h a xAc;have hlt:aH.length<qk:=by simp at hz;omega
   have cM:=λ x (hx:x∈l)=>h x (xAf _ hx)
   simp only[yAk,gT,h1,yDa,h2];cases hp:p a with
   |false=>
     simp only[yAv,if_false];rw[aDr enc g p l aH (by simp at hz;omega) cM];simp[yBz,hp]
   |true=>
     have ea:eZ (S++[qz aH]) (.loc ↑S) (.d (g a))=qz (.d .none,S++[qz (aH++[g a])]):=by
      unfold eZ;simp_all
     simp only[if_true,h3 hp,yDa,ea];rw[aDr enc g p l (aH++[g a]) (by simp at hz ⊢;omega) cM];simp[yBz,hp]
def aDB{α:Type}{t:Tg}{fi:FL}{fc:FT}{fe:FE}(enc g:α->D)(p:α->Bool)(l:List α)(hi:fi env S=qz (l.map enc,S1))(hz:↑l<=qk)(h:∀ a∈l,∃ e1,t.put (enc a) (clr t.slots env)=qz e1/\(∀ aH,fc e1 (S1++[qz aH])=qz (p a,S1++[qz aH]))/\(p a=Tt->∀ aH,fe e1 (S1++[qz aH])=qz (.d (g a),S1++[qz aH]))):jC t fi fc fe env S=qz ((l.filter p).map g,S1):=by unfold jC;rw[hi];simp only[yDa];rw[aDr enc g p l [] (hz:) h];simp
def mM{α:Type}{t:Tg}{fi:FL}{fe:FE}(enc g:α->D)(l:List α)(hi:fi env S=qz (l.map enc,S1))(hz:↑l<=qk)(h:∀ a∈l,∃ e1,t.put (enc a) (clr t.slots env)=qz e1/\∀ S',fe e1 S'=qz (.d (g a),S')):jC t fi lI fe env S=qz (l.map g,S1):=by rw[aIV (fc:=lI) enc g (λ _=>Tt) l hi hz λ a ha=>let ⟨e1,h1,h2⟩:=h a ha;(e1,h1,λ _=>rfl,λ _=>h2,)];rw[List.filter_eq_self.mpr (λ _ _=>rfl)]
def aIT(n:Nat):∀ lo:Int,lW lo n=(yBh n).map λ k=>Iz (lo+(k:Nat)):=by
 induction n with
 |zero=>intro lo;rfl
 |succ n ih=>
   intro lo;rw[lW,ih,List.range_succ_eq_map,yAk,yBi];congr 1
   .simp
   .apply yBs;intro k _;simp only[Function.comp];congr 1
    push_cast
    omega
end EV
namespace BM
def wK(n:Nat):0<2^n:=xAe n
def pW(n w:Nat):Li Bool:=(yBh w).map n.testBit
def aQC(n w i:Nat):(pW n w).getD i Ff=(decide (i<w)&&n[i]!):=by
 unfold pW;by_cases h:i<w
 .simp[List.getD,h]
 .simp[List.getD,h]
def cX(h:n<2^w)(hi:w<=i):n[i]! =Ff:=Nat.testBit_lt_two_pow (xAb h (yAm (·) hi))
def bl(n:Nat):Nat:=if n=0 then 0 else n.log2+1
def xN(h:n≠0):bl n=n.log2+1:=if_neg h
def rL(n:Nat):n<2^bl n:=by
 by_cases h:n=0
 .subst h;decide
 .rw[xN h];exact Nat.lt_log2_self
def aLT(h:n≠0):n[(bl n-1)]! =Tt:=by
 rw[xN h,yGa];have h1:2^n.log2<=n:=Nat.log2_self_le h;have h2:n<2^(n.log2+1):=Nat.lt_log2_self;rw[yGd];have:n/2^n.log2=1:=by
  apply Nat.div_eq_of_lt_le
  .omega
  .rw[yEx] at h2;omega
 simp[this]
def tY(h:n<2^w):bl n<=w:=by
 by_cases h0:n=0
 .subst h0;simp[bl]
 .rw[xN h0];exact(Nat.log2_lt h0).mpr h
def aH1(h1:n<2^k)(h2:k=0\/n[(k-1)]! =Tt):bl n=k:=by
 rcases h2 with h2|h2
 .subst h2;have:n=0:=(h1:)
  subst this;rfl
 .have h3:=tY h1;rcases Nat.lt_or_ge (bl n) k with h4|h4
  .exfalso;have:=cX (rL n) (show bl n<=k-1 by omega);rw[this] at h2;cases h2
  .omega
def dP(w i:Nat):(2^w-1)[i]! =decide (i<w):=Nat.testBit_two_pow_sub_one w i
def mV(l:Li Bool):Nat:=(l.takeWhile id).length
def aIl(r:Li Bool):mV (Tt::r)=mV r+1:=by simp[mV]
def aHF(r:Li Bool):mV (Ff::r)=0:=by simp[mV]
def aIS:∀ (l:Li Bool) (i:Nat),i<mV l->l[i]?=qz Tt
 |[],i,h=>by simp[mV] at h|false::r,i,h=>by simp[aHF] at h|true::r,0,h=>rfl|true::r,i+1,h=>by rw[aIl] at h;simpa using aIS r i (!_)
def aO3(m:Nat):(2*m+1)^^^(2*m+1+1)=2*(m^^^(m+1))+1:=by
 apply xAl;intro i;cases i with
 |zero=>rw[yAr];simp[yDw];omega
 |succ i=>
   rw[yAr,yDb,yDb,yDb];rw[show(2*m+1)/2=m by omega,show(2*m+1+1)/2=m+1 by omega,show(2*(m^^^(m+1))+1)/2=(m^^^(m+1)) by omega,yAr]
def aOS(m:Nat):(2*m)^^^(2*m+1)=1:=by
 apply xAl;intro i;cases i with
 |zero=>rw[yAr];simp[yDw]
 |succ i=>
   rw[yAr,yDb,yDb,yDb];rw[show(2*m)/2=m by omega,show(2*m+1)/2=m by omega];simp
def aQu(x:Nat):bl (2*x+1)=bl x+1:=by
 apply aH1
 .have:=rL x;rw[yEx];omega
 .right;rw[yGa];by_cases h:x=0
  .subst h;rfl
  .have h2:=aLT h;have h3:bl x=(bl x-1)+1:=by rw[xN h];omega
   rw[h3,yDb,show(2*x+1)/2=x by omega];exact h2
def aHe(n:Nat):n^^^(n+1)≠0:=by
 intro h;have:n=n+1:=by
  have:=congrArg (λ z=>z^^^(n+1)) h;simpa [Nat.xor_assoc] using this
 omega
def aIi(h:n≠0):1<=bl n:=by rw[xN h];omega
def aPV(n w:Nat):pW n (w+1)=n[0]!::pW (n/2) w:=by unfold pW;rw[List.range_succ_eq_map,yAk,yBi];congr 1;apply yBs;intro i _;simp only[Function.comp];exact yDb n i
def aHQ:∀ (w n:Nat),n<2^w->bl (n^^^(n+1))-1=mV (pW n w)
 |0,n,h=>by
   have:n=0:=(h:)
   subst this;rfl
 |w+1,n,h=>by
   rw[aPV];have hd:n/2<2^w:=by rw[yEx] at h;omega
   have ih:=aHQ w (n/2) hd;rcases yAt n with p|p
   .have e:n=2*(n/2):=by omega
    have e2:n^^^(n+1)=1:=by rw[e];exact aOS _
    rw[e2,yDw,p];rw[show bl 1=1 from by decide];simp[aHF]
   .have e:n=2*(n/2)+1:=by omega
    have e2:n^^^(n+1)=2*((n/2)^^^(n/2+1))+1:=by
     have:=aO3 (n/2);rw[<- e] at this;exact this
    rw[e2,aQu,yDw,p];simp only[decide_true,aIl];have:=aIi (aHe (n/2));omega
def hi(l:Li Bool):Nat:=↑l-mV (l.reverse.map (!·))
def aPl(h:n<2^w):n^^^(2^w-1)<2^w:=yBv h (by have:=wK w;omega)
def cG(n w v:Nat):Nat:=if n&&&2^(w-1)=0 then n else n|||((2^v-1)^^^(2^w-1))
def aG7(n k:Nat):(n&&&2^k=0) ↔ n[k]! =Ff:=by
 constructor
 .intro h;have:=congrArg (λ z=>z[k]!) h;simpa [yAi,Nat.testBit_two_pow_self] using this
 .intro h;apply xAl;intro i;rw[yAi,yFm,yBd];by_cases e:k=i
  .subst e;simp[h]
  .simp[e]
def gB(h:n<2^w)(hw:0<w)(hv:w<=v)(i:Nat):(cG n w v)[i]! =if i<w then n[i]! else (decide (i<v)&&n[(w-1)]!):=by
 unfold cG;cases e:n[(w-1)]! with
 |false=>
   rw[if_pos ((aG7 _ _).mpr e)];split
   .rfl
   .rw[cX h (!_)];simp
 |true=>
   rw[if_neg (λ z=>by rw[(aG7 _ _).mp z] at e;cases e)];rw[xAo,yAr,dP,dP];split
   .rename_i hi;have:i<v:=by omega
    simp[hi,this]
   .rename_i hi;rw[cX h (!_)];simp[hi]
def mG(h:n<2^w)(hw:0<w)(hv:w<=v):cG n w v<2^v:=by
 apply yCn;intro i hi;rw[gB h hw hv,if_neg (!_)];have:¬ i<v:=by omega
 simp[this]
def aGU(h:n<2^w)(hw:0<w)(hv:w<=v)(hu:v<=u):cG (cG n w v) v u=cG n w u:=by
 apply xAl;intro i;rw[gB (mG h hw hv) (!_) hu,gB h hw (show w<=u by omega),gB h hw hv,gB h hw hv];by_cases h1:i<w
 .simp[h1,show i<v by omega]
 .simp only[h1,if_false];by_cases h2:i<v
  .simp[h2,show i<u by omega]
  .simp only[h2,if_false];by_cases h3:v-1<w
   .simp[show v-1=w-1 by omega,show w-1<w by omega]
   .simp[h3,show v-1<v by omega]
def aBC(x d:Nat):Nat:=x/2^d*2^d
def aAM(x d i:Nat):(aBC x d)[i]! =(decide (d<=i)&&x[i]!):=by
 unfold aBC;rw[Nat.testBit_mul_two_pow];by_cases h:d<=i
 .simp[h,yDg,show i-d+d=i by omega]
 .simp[h]
def oY(x w:Nat):Nat:=2^w-1-x
def mL(h:x<2^w)(i:Nat):(oY x w)[i]! =(decide (i<w) && !x[i]!):=by unfold oY;rw[show 2^w-1-x=2^w-(x+1) by omega];exact Nat.testBit_two_pow_sub_succ h i
def xL(l g w:Nat):Nat:=(2^w-1)^^^(2^bl (l^^^g)-1)
def aC5(hl:l<2^w)(hg:g<2^w)(i:Nat):(xL l g w)[i]! =(decide (i<w)&&decide (bl (l^^^g)<=i)):=by
 unfold xL;rw[yAr,dP,dP];have hd:bl (l^^^g)<=w:=tY (yBv hl hg);by_cases h1:i<w<;>by_cases h2:i<bl (l^^^g)
 .simp[h1,h2,show ¬ bl (l^^^g)<=i by omega]
 .simp[h1,h2,show bl (l^^^g)<=i by omega]
 .omega
 .simp[h1,h2]
def pS(l g w:Nat):Nat:=xL l g w&&&l
def vU(l g w:Nat):Nat:=xL l g w^^^pS l g w
def aRt(hl:l<2^w)(hg:g<2^w):pS l g w=aBC l (bl (l^^^g)):=by
 apply xAl;intro i;rw[pS,yAi,aC5 hl hg,aAM];by_cases h1:i<w
 .simp[h1]
 .rw[cX hl (!_)];simp
def aPc(hl:l<2^w)(hg:g<2^w):vU l g w=aBC (oY l w) (bl (l^^^g)):=by apply xAl;intro i;rw[vU,yAr,pS,yAi,aC5 hl hg,aAM,mL hl];by_cases h1:i<w<;>by_cases h2:bl (l^^^g)<=i<;>cases l[i]!<;>simp[h1,h2]
def bCh(h:bl (l^^^g)<=i):l[i]! =g[i]!:=by have:=cX (rL (l^^^g)) h;rw[yAr] at this;cases a:l[i]!<;>cases b:g[i]!<;>simp[a,b] at this ⊢
def aQ2(h:l^^^g<2^d):l/2^d=g/2^d:=by apply xAl;intro i;rw[yDg,yDg];have:=cX h (show d<=i+d by omega);rw[yAr] at this;cases a:l[(i+d)]!<;>cases b:g[(i+d)]!<;>simp[a,b] at this ⊢
def aPs(h1:l<=m)(h2:m<=g):m/2^bl (l^^^g)=l/2^bl (l^^^g):=by have e:=aQ2 (rL (l^^^g));have a:=Nat.div_le_div_right (c:=2^bl (l^^^g)) h1;have b:=Nat.div_le_div_right (c:=2^bl (l^^^g)) h2;omega
def aHw(h1:l<=m)(h2:m<=g)(hi:bl (l^^^g)<=i):m[i]! =l[i]!:=by have:=congrArg (λ z=>z[(i-bl (l^^^g))]!) (aPs h1 h2);simp only[yDg] at this;rwa [show i-bl (l^^^g)+bl (l^^^g)=i by omega] at this
def aOI(hl:l<2^w)(hg:g<2^w)(h1:l<=m)(h2:m<=g):m&&&vU l g w=0:=by
 apply xAl;intro i;rw[yAi,aPc hl hg,aAM,mL hl,yBd];by_cases h:bl (l^^^g)<=i
 .rw[aHw h1 h2 h];cases l[i]!<;>simp
 .simp[h]
def aO9(hl:l<2^w)(hg:g<2^w)(h1:l<=m)(h2:m<=g):m&&&pS l g w=pS l g w:=by
 apply xAl;intro i;rw[yAi,aRt hl hg,aAM];by_cases h:bl (l^^^g)<=i
 .rw[aHw h1 h2 h];cases l[i]!<;>simp
 .simp[h]
end BM
namespace BM
def fS(n k i:Nat):(n/2^k)[i]! =n[(k+i)]!:=by rw[yDg,yDk]
def mI(n:Nat):n=0 ↔ ∀ i,n[i]! =Ff:=by
 constructor
 .rintro rfl i;simp
 .intro h;apply xAl;simp_all
def aCY(m k:Nat):m/2^k=0 ↔ ∀ i,k<=i->m[i]! =Ff:=by
 rw[mI];constructor
 .intro h i hi;have:=h (i-k);rw[fS,show k+(i-k)=i by omega] at this;exact this
 .intro h i;rw[fS];exact h _ (!_)
def fN(a b:Nat):Nat:=a-(a&&&b)
def aTD(a b:Nat):fN a b=a^^^(a&&&b):=by
 have h:(a^^^(a&&&b))+(a&&&b)=a:=by
  have key:∀ (n x y:Nat),x<=n->(x^^^(x&&&y))+(x&&&y)=x:=by
   intro n
   induction n with
   |zero=>
     simp_all
   |succ n ih=>
     intro x y hx;by_cases h0:x=0
     .subst h0;simp
     .have ih':=ih (x/2) (y/2) (!_);have e1:(x^^^(x&&&y))/2=(x/2)^^^((x/2)&&&(y/2)):=by
       apply xAl;intro i;simp[Nat.testBit_div_two]
      have e2:(x&&&y)/2=(x/2)&&&(y/2):=by
       apply xAl;intro i;simp[Nat.testBit_div_two]
      have m1:(x^^^(x&&&y))%2=(x%2+(x&&&y)%2)%2:=by
       have a1:=yEh (x^^^(x&&&y)) 0;have a2:=yEh x 0;have a3:=yEh (x&&&y) 0;simp only[Nat.pow_zero,Nat.div_one] at a1 a2 a3;rw[<- a1,<- a2,<- a3,yAr,yAi];cases x[0]!<;>cases y[0]!<;>rfl
      have m2:(x&&&y)%2<=x%2:=by
       have a2:=yEh x 0;have a3:=yEh (x&&&y) 0;simp only[Nat.pow_zero,Nat.div_one] at a2 a3;rw[<- a2,<- a3,yAi];cases x[0]!<;>cases y[0]!<;>decide
      rw[<- e1,<- e2] at ih';omega
  exact key a a b (yAc _)
 unfold fN;omega
def qU(a b i:Nat):(fN a b)[i]! =(a[i]! && !b[i]!):=by rw[aTD,yAr,yAi];cases a[i]!<;>cases b[i]!<;>rfl
def aHA(h:x<2^k)(i:Nat):(x+q*2^k)[i]! =if i<k then x[i]! else q[(i-k)]!:=by rw[yDk,yIf,Nat.testBit_two_pow_mul_add _ h]
def aKK(h:n<2^w)(hw:0<w):n/2^(w-1)=(n[(w-1)]!).toNat:=by
 rw[yEh];have:n/2^(w-1)<2:=by
  rw[yDz (xAe _),<- Nat.pow_succ'];rw[show(w-1).succ=w by omega];exact h
 exact(yBk this).symm
end BM
namespace BM
open PySem
def aN3(a b:Nat):yEq a b=((a&&&b:Nat):Int):=by unfold yEq;rw[dqT (yHd a),dqT (yHd b)];simp
def bOr(a b:Nat):yHu a b=((a|||b:Nat):Int):=by
 unfold yHu yEq yBo;rw[dqF (show ¬ (0:Int) <= -(a:Int)-1 by omega),dqF (show ¬ (0:Int) <= -(b:Int)-1 by omega)];have e1:(-(-(a:Int)-1)-1).toNat=a:=by omega
 have e2:(-(-(b:Int)-1)-1).toNat=b:=by omega
 simp only[e1,e2];omega
def aHn:∀ (n a b:Nat),a<=n->(a^^^b)+(a&&&b)=(a|||b)
 |0,a,b,h=>by
   simp_all
 |n+1,a,b,h=>by
   by_cases ha:a=0
   .subst ha;simp
   have ih:=aHn n (a/2) (b/2) (!_);have x2:=Nat.xor_div_two (a:=a) (b:=b);have a2:=Nat.and_div_two (a:=a) (b:=b);have o2:=Nat.or_div_two (a:=a) (b:=b);have xm:(a^^^b)%2=(a%2+b%2)%2:=by
    have:=yAr a b 0;simp only[yDw] at this;rcases yAt a with p|p<;>rcases yAt b with q|q<;>rcases yAt (a^^^b) with r|r<;>simp[p,q,r] at this ⊢
   have am:(a&&&b)%2=(a%2)*(b%2):=by
    have:=yAi a b 0;simp only[yDw] at this;rcases yAt a with p|p<;>rcases yAt b with q|q<;>rcases yAt (a&&&b) with r|r<;>simp[p,q,r] at this ⊢
   have om:(a|||b)%2=(a%2+b%2)-(a%2)*(b%2):=by
    have:=xAo a b 0;simp only[yDw] at this;rcases yAt a with p|p<;>rcases yAt b with q|q<;>rcases yAt (a|||b) with r|r<;>simp[p,q,r] at this ⊢
   have h1:=yEy (a^^^b) 2;have h2:=yEy (a&&&b) 2;have h3:=yEy (a|||b) 2;rcases yAt a with p|p<;>rcases yAt b with q|q<;>rw[p,q] at xm am om<;>omega
def bBw(a b:Nat):yHk a b=((a^^^b:Nat):Int):=by unfold yHk;rw[aN3,bOr];have:=aHn a a b (yAc _);omega
def aHs(a:Nat):yAo a=if a=0 then 0 else a.log2+1:=by unfold yAo;simp_all
def aPy{a n:Nat}(h:a<2^n):yAo a<=n:=by
 rw[aHs];split
 .simp_all
 .rename_i h0;exact(Nat.log2_lt h0).mpr h
def aDD(n:Nat):((2^n:Nat):Int)=(2:Int)^n:=by simp
def bBp{x y:Int}(h:y.natAbs.log2<9000):yDd x y=Ff:=by
 unfold yDd;dsimp only;have:¬ ((if (y==0)=Tt then 0 else y.natAbs.log2/30+1)>300):=by
  split
  .omega
  .omega
 rw[dqF this];rfl
end BM
namespace EV
open PySem L2 BM
def iL(i j:Int):cD .Add (.int i) (.int j)=qz (.int (i+j)):=rfl
def dR(i j:Int):cD .Sub (.int i) (.int j)=qz (.int (i-j)):=rfl
def eE(a b:Nat):cD .BitAnd (.int a) (.int b)=qz (.int ((a&&&b:Nat):Int)):=by simp only[cD,mO,aN3]
def gI(a b:Nat):cD .BitOr (.int a) (.int b)=qz (.int ((a|||b:Nat):Int)):=by simp only[cD,mO,bOr]
def iY(a b:Nat):cD .BitXor (.int a) (.int b)=qz (.int ((a^^^b:Nat):Int)):=by simp only[cD,mO,bBw]
def kU{w:Nat}(h1:w<=100000):cD .LShift (.int 1) (.int w)=qz (.int ((2^w:Nat):Int)):=by have c:(0:Int)<=w/\(yAo 1:Int)+w<=2^27:=(by omega,by(have:(yAo 1:Int)=1:=(·);omega),);simp only[cD,mO];rw[if_pos c,Int.one_mul,yAu,aDD]
def tJ{n a k:Nat}(h:n<2^a)(h2:a+k<=100000):cD .LShift (.int n) (.int k)=qz (.int ((n*2^k:Nat):Int)):=by
 have c:(0:Int)<=(k:Nat)/\((yAo (n:Int):Nat):Int)+(k:Nat)<=2^27:=by
  have:=aPy h;exact(by omega,by omega,)
 simp only[cD,mO];rw[if_pos c,yAu,<- aDD];congr 2
def wW{i j:Int}(h:0<j):cD .Mod (.int i) (.int j)=qz (.int (i%j)):=by simp only[cD,mO];rw[if_pos (!_),Int.fmod_eq_emod_of_nonneg _ (!_)]
def aD2{i j:Int}(h:0<j)(h2:j<2^64):cD .FloorDiv (.int i) (.int j)=qz (.int (i/j)):=by simp only[cD,mO];have h3:j.natAbs.log2<9000:=yEk ((Nat.log2_lt (!_)).mpr (show j.natAbs<2^64 by omega)) (·);rw[if_pos (by omega,bBp h3,),Int.fdiv_eq_ediv_of_nonneg _ (!_)]
def aPq{i j:Int}(h1 : -(2^64)<j)(h2:j<2^64):pV i j=Tt:=by unfold pV;have:=intBits_le_64 h1 h2;have h:¬ (yAo j>vk):=Nat.not_lt.mpr this;rw[dqF h];simp
def aO4{i j:Int}(h1 : -(2^64)<i)(h2:i<2^64):pV i j=Tt:=by unfold pV;have:=intBits_le_64 h1 h2;have h:¬ (yAo i>vk):=Nat.not_lt.mpr this;rw[dqF h];simp
def aDV{i j:Int}(h1 : -(2^64)<j)(h2:j<2^64):cD .Mult (.int i) (.int j)=qz (.int (i*j)):=by show(if pV i j=Tt then qz (Iz (i*j)) else qj)=_;rw[if_pos (aPq h1 h2)]
def vY{i j:Int}(h1 : -(2^64)<i)(h2:i<2^64):cD .Mult (.int i) (.int j)=qz (.int (i*j)):=by show(if pV i j=Tt then qz (Iz (i*j)) else qj)=_;rw[if_pos (aO4 h1 h2)]
def aSA{α:Type}(k:Nat)(x:α):yZ k [x]=yAg k x:=by unfold yZ;simp_all
def cT(i j:Int):bE .Eq (.int i) (.int j)=qz (.bool (i==j)):=rfl
def rJ(i j:Int):bE .NotEq (.int i) (.int j)=qz (.bool (!(i==j))):=rfl
def lD(i j:Int):bE .Lt (.int i) (.int j)=qz (.bool (decide (i<j))):=rfl
def tR(i j:Int):bE .LtE (.int i) (.int j)=qz (.bool (decide (i<=j))):=rfl
def nN(i j:Int):bE .Gt (.int i) (.int j)=qz (.bool (decide (j<i))):=rfl
def xR(i j:Int):bE .GtE (.int i) (.int j)=qz (.bool (decide (j<=i))):=rfl
end EV
namespace EV
open PySem L2 BM
def oB{α β:Type}(a:α)(f:α->Option β):(qz a).bind f=f a:=of_eq_true (eq_self (f a))
def oM{α β:Type}(a:α)(f:α->β):(qz a).map f=qz (f a):=of_eq_true (eq_self (qz (f a)))
def cl(fs:Li Fn)(d f:Nat)(ws:Li W)(S:aE):Oz (W×aE):=match aF fs d f with
 |some (np,call)=>if ↑ws=np then call ws S else qj
 |none=>qj
def aHX(fs:Li Fn)(d f:Nat)(fa:FA)(env:bG)(S:aE):mP (aF fs d) f fa env S=(fa env S).bind λ p=>cl fs d f p.1 p.2:=by
 unfold mP cl aB8;cases aF fs d f with
 |none=>cases fa env S<;>rfl|some q=>rfl
def bX(h:fs[f]?=qz F)(d:Nat)(ws:Li W)(S:aE)(hw:↑ws=F.np):cl fs (d+1) f ws S=gH (xs (aF fs d) F.body) F.N.length ws S:=by
 have e:aF fs (d+1) f=qz (F.np,gH (xs (aF fs d) F.body) F.N.length):=by
  show(fs[f]?).map _=_;rw[h];rfl
 unfold cl;rw[e];exact if_pos hw
def aUA(h:fs[f]?=qz F)(hn:F.np=1)(e:cl fs (d+1) f [w] []=qz (r,S)):∃ call S',aF fs (d+1) f=qz (1,call)/\call [w] []=qz (r,S'):=by
 refine(gH (xs (aF fs d) F.body) F.N.length,S,?_,?_,)
 .show(fs[f]?).map _=_;rw[h,<- hn];rfl
 .rw[<- bX h d [w] [] (by rw[hn];rfl)];exact e
def szT(h:n<=1000):(n<=qk)=True:=by rw[zx];exact eq_true (!_)
end EV
namespace EV
open PySem L2 BM
def aDg(w:Nat):((2^w:Nat):Int)-1=((2^w-1:Nat):Int):=by have:=wK w;omega
def sW{fa:FE}{env:bG}{S S1:aE}{w:Nat}(h:fa env S=qz (.d (Iz w),S1))(hw:w<=1000000):xT fa env S=qz ((yBh w).map (λ k=>Iz (k:Nat)),S1):=by have c : -(2^62)<=((w:Nat):Int)/\((w:Nat):Int)<2^62:=(by omega,by omega,);unfold xT;rw[h,oB];simp only[];rw[if_pos c,aIT,yAu];simp_all
def aJk(h:env[i]?=qz (qz w)):lU i env S=qz (w,S):=by unfold lU;rw[h]
def nO{xs:Li D}{k:Nat}{x:D}(h:xs[k]?=qz x):aU (.list xs) (.int k)=qz x:=by have hl:k<↑xs:=(gIm h).1;show(mC ↑xs ((k:Nat):Int)).bind (λ j=>xs[j]?)=qz x;unfold mC;rw[if_pos (!_),if_pos (!_),oB,yAu];exact h
def iK{xs:Li D}{k:Nat}{x:D}(h:xs[k]?=qz x):aU (.tuple xs) (.int k)=qz x:=@nO xs _ _ h
def aJ9{t:Tg}{fb:FS}(P:Nat->bG->aE->Prop):∀ (ds:Li D) (i:Nat) (env:bG) (S:aE),P i env S->(∀ j d env S,ds[j]?=qz d->P (i+j) env S->∃ e1 aY S',t.put d env=qz e1/\fb e1 S=qz (.nx aY,S')/\P (i+j+1) aY S') ->
 ∃ aY S',oJ t fb ds env S=qz (.nx aY,S')/\P (i+↑ds) aY S'
 |[],i,env,S,h0,_=>(env,S,rfl,h0,)
 |d::ds,i,env,S,h0,h=>by
   let(e1,aY,S',h1,h2,h3):=h 0 d env S rfl h0;let(env2,S2,h4,h5):=aJ9 P ds (i+1) aY S' h3 λ j d' env S a b=>by
    have:=h (j+1) d' env S (a:) (by rw[show i+(j+1)=i+1+j by omega];exact b);rw[show i+(j+1)=i+1+j by omega] at this;exact this
   refine(env2,S2,by simp only[oJ,h1,oB,h2];exact h4,?_,);have:i+(d::ds).length=i+1+↑ds:=by simp;omega
   rw[this];exact h5
def pL{t:Tg}{fi:FL}{fb:FS}(P:Nat->bG->aE->Prop)(hi:fi env S=qz (ds,S1))(h0:P 0 env S1)(h:∀ j d env S,ds[j]?=qz d->P j env S->∃ e1 aY S',t.put d env=qz e1/\fb e1 S=qz (.nx aY,S')/\P (j+1) aY S') :
 ∃ aY S',pZ t fi fb env S=qz (.nx aY,S')/\P ↑ds aY S':=by
 let(aY,S',h1,h2):=@aJ9 t fb P ds 0 env S1 h0 λ j d env S a b=>by
  have:=h j d env S a (b:);simpa using this
 exact(aY,S',by unfold pZ;rw[hi,oB];exact h1,by simpa using h2,)
def aPi{fa fb:FE}{env:bG}{S S1 S2:aE}{v w:Nat}(h:fa env S=qz (.d (Iz v),S1))(h2:fb env S1=qz (.d (Iz w),S2))(hv:v<=1000000)(hw:w<=1000000):yJ fa fb env S=qz ((yBh (w-v)).map (λ k=>Iz ((v+k:Nat):Int)),S2):=by
 have c : -(2^62)<=((v:Nat):Int)/\((v:Nat):Int)<2^62 /\ -(2^62)<=((w:Nat):Int)/\((w:Nat):Int)<2^62:=(by omega,by omega,by omega,by omega,);have e:(((w:Nat):Int)-((v:Nat):Int)).toNat=w-v:=by omega
 unfold yJ;rw[h,oB];simp only[];rw[h2,oB];simp only[];rw[if_pos c,aIT,e];congr 2
def aLD{xs:Li D}:lT [.list xs]=qz (.int ↑xs):=rfl
def aED{xs:Li D}:lT [.tuple xs]=qz (.int ↑xs):=rfl
def pO{xs:Li D}:rG [.list xs]=qz (.tuple xs):=rfl
def aBt{xs:Li D}:rG [.tuple xs]=qz (.tuple xs):=rfl
def jN(n k:Nat):cD .RShift (.int n) (.int k)=qz (.int ((n/2^k:Nat):Int)):=by
 have c:(0:Int)<=(k:Nat):=by omega
 simp only[cD,mO];rw[if_pos c,yAu,<- aDD];congr 2
def aIG(a b:Nat):cD .BitAnd (.int a) (.int (yBo (b:Nat)))=qz (.int ((fN a b:Nat):Int)):=by
 have h1:decide ((0:Int)<=(a:Nat))=Tt:=dqT (!_);have h2:decide ((0:Int)<=yBo (b:Nat))=Ff:=dqF (by unfold yBo;omega);have h3:(yBo (yBo (b:Nat))).toNat=b:=by unfold yBo;omega
 have h4:a&&&b<=a:=yCt;simp only[cD,mO];unfold yEq;rw[h1,h2];simp only[h3,yAu];congr 2;unfold fN;omega
def aJQ(i:Int):vC .Invert (.int i)=qz (.int (yBo i)):=rfl
def aDF{x:D}{k:Nat}(h:k<=1000):cD .Mult (.tuple [x]) (.int k)=qz (.tuple (yAg k x)):=by show(if 0<=((k:Nat):Int)/\((k:Nat):Int)<=1000 then qz (Tz (yAg ((k:Nat):Int).toNat x)) else qj)=_;rw[if_pos (by omega,by omega,),yAu]
def aJm{α:Type}{t:Tg}{fe:FE}(enc:α->D)(I:Nat->aE->Prop)(Q:α->D->Prop):∀ (l:List α) (aH:Li D) (j:Nat) (S:aE),aH.length+↑l<=qk->j+↑l<=N->↑S=n->I j S ->
 (∀ a∈l,∃ e1,t.put (enc a) env=qz e1/\∀ j S aH,j<N->↑S=n->I j S->∃ v S',fe e1 (S++[qz aH])=qz (.d v,S'++[qz aH])/\↑S'=n/\I (j+1) S'/\Q a v) ->
 ∃ vs S',gT t lI fe n env (l.map enc) (S++[qz aH])=qz (S'++[qz (aH++vs)])/\↑S'=n/\I (j+↑l) S'/\↑vs=↑l/\∀ (i:Nat) (a:α),l[i]?=qz a->∃ v,vs[i]?=qz v/\Q a v
 |[],aH,j,S,_,_,hn,hI,_=>([],S,by simp[gT],hn,hI,rfl,by simp,)
 |a::l,aH,j,S,hz,hN,hn,hI,h=>by
   let(e1,h1,h2):=h a xAc;let(v,S1,h3,h4,h5,h6):=h2 j S aH (by simp at hN;omega) hn hI;have hlt:aH.length<qk:=by simp at hz;omega
   have ea:eZ (S1++[qz aH]) (.loc n) (.d v)=qz (.d .none,S1++[qz (aH++[v])]):=by
    unfold eZ;simp_all
   let(vs,S2,h7,h8,h9,h10,h11):=aJm enc I Q l (aH++[v]) (j+1) S1 (by simp at hz ⊢;omega) (by simp at hN;omega) h4 h5 λ x hx=>h x (xAf _ hx)
   refine(v::vs,S2,?_,h8,by rw[yAn,show j+(↑l+1)=j+1+↑l by omega];exact h9,by simp[h10],λ i b hb=>?_,)
   .simp only[yAk,gT,h1,lI,oB,if_true,h3,ea];rw[h7];simp
   .cases i with|zero=>simp at hb;subst hb;exact(v,rfl,h6,)|succ i=>simpa using h11 i b (hb:)
def aSu{α:Type}{t:Tg}{fi:FL}{fe:FE}(enc:α->D)(I:Nat->aE->Prop)(Q:α->D->Prop)(l:List α)(hi:fi env S=qz (l.map enc,S1))(hz:↑l<=qk)(h0:I 0 S1)(h:∀ a∈l,∃ e1,t.put (enc a) (clr t.slots env)=qz e1/\∀ j S aH,j<↑l->↑S=↑S1->I j S->∃ v S',fe e1 (S++[qz aH])=qz (.d v,S'++[qz aH])/\↑S'=↑S1/\I (j+1) S'/\Q a v) :
 ∃ vs S',jC t fi lI fe env S=qz (vs,S')/\↑S'=↑S1/\I ↑l S'/\↑vs=↑l/\∀ (i:Nat) (a:α),l[i]?=qz a->∃ v,vs[i]?=qz v/\Q a v:=by let(vs,S',h1,h2,h3,h4,h5):=@aJm ↑l ↑S1 _ _ _ fe enc I Q l [] 0 S1 (hz:) (by simp) rfl h0 h;refine(vs,S',?_,h2,by simpa using h3,h4,h5,);unfold jC;rw[hi];simp_all
def aLq{α:Type}(a:α):yFx 1 [a]=[a]:=rfl
def aLd{α:Type}(a b:α):yFx 1 [a,b]=[a]:=rfl
def aLw{α:Type}(a b:α):yFx 2 [a,b]=[a,b]:=rfl
end EV
namespace EV
open PySem L2 BM
section
variable {C:Calls}{env:bG}{S S1 S2 S3 S4:aE}{a b c e es r:E}
def aC(h:env[i]?=qz (qz w)):ev C (.var i) env S=qz (w,S):=by rw[aE4];exact aJk h
def aJ{i:Int}:ev C (.int i) env S=qz (.d (Iz i),S):=rfl
def aCv:ev C (.bl i) env S=qz (.d (Bz i),S):=rfl
def aFt:ev C .non env S=qz (.d .none,S):=rfl
def bZ:ev C (.str i) env S=qz (.d (Sz i),S):=rfl
def bP(ha:ev C a env S=qz (.d x,S1))(hb:ev C b env S1=qz (.d y,S2))(hz:cD op x y=qz z):ev C (.bin op a b) env S=qz (.d z,S2):=by simp only[aLl,sB,f2,ha,oB,hb,jH,dr,hz]
def bA9(ha:ev C a env S=qz (.d x,S1))(hz:vC op x=qz z):ev C (.un op a) env S=qz (.d z,S1):=by simp only[aMS,fUn,f1,ha,oB,hB,dr,hz]
def iA(ha:ev C a env S=qz (.d x,S1))(hb:ev C b env S1=qz (.d y,S2))(hz:bE op x y=qz z):ev C (.cmp op a b) env S=qz (.d z,S2):=by simp only[aES,oO,f2,ha,oB,hb,jH,dr,hz]
def bM(ha:ev C a env S=qz (wa,S1))(hb:ev C b env S1=qz (.d y,S2))(hx:dr S2 wa=qz x)(hz:aU x y=qz z):ev C (.ix a b) env S=qz (.d z,S2):=by have h2:dr S2 (.d y)=qz y:=rfl;simp only[aFm,qL,f2,ha,oB,hb,jH,hx,h2,hz]
def dJ:dr S (.d x)=qz x:=rfl
def fD{n:Nat}{l:Li D}(h:S[n]?=qz (qz l)):dr S (.loc n)=qz (.list l):=by simp only[dr,h]
def cU:pB S []=qz []:=rfl
def cN(h:dr S w=qz x)(k:pB S ws=qz ds):pB S (w::ws)=qz (x::ds):=by simp only[pB,h,k,oB]
def slD(d:D)(l h:Oz Int):Oz D:=match d with|.list xs=>qz (.list (gK xs l h))|.tuple xs=>qz (.tuple (gK xs l h))|_=>qj
def aCb{lo hi:E}(ha:ev C a env S=qz (wa,S1))(hl:ov C lo env S1=qz (l,S2))(hh:ov C hi env S2=qz (h,S3))(hx:dr S3 wa=qz x)(hz:slD x l h=qz z):ev C (.sl a lo hi) env S=qz (.d z,S3):=by simp only[aFu,sI,ha,oB,hl,hh,hx];cases x<;>first|(cases hz;done)|(cases hz;rfl)
def aCc:ov C .no env S=qz (qj,S):=rfl
def aBF{i:Int}(h:ev C a env S=qz (.d (Iz i),S1)):ov C (.cons a .nil) env S=qz (qz i,S1):=by simp only[aKP,tW,h,oB]
def iN(ho:ev C o env S=qz (wo,S1))(ha:ev C a env S1=qz (wa,S2))(h:eZ S2 wo wa=qz (w,S3)):ev C (.app o a) env S=qz (w,S3):=by simp only[aLX,aCo,f2,ho,oB,ha,h]
def aFe(ht:tv C c env S=qz (p,S1))(k:cond p (ev C a env S1) (ev C b env S1)=R):ev C (.ite c a b) env S=R:=by rw[<- k];cases p<;>simp only[aLG,zD,ht,oB,yAv,if_false,if_true,cond_true,cond_false]
def aM7(ha:ev C a env S=qz (.d (Bz p),S1))(k:cond p (ev C b env S1) (qz (.d (Bz Ff),S1))=R):ev C (.and a b) env S=R:=by rw[<- k];cases p<;>simp only[aLV,xV,ha,oB,cond_true,cond_false]
def bBH(ha:ev C a env S=qz (.d (Bz p),S1))(k:cond p (qz (.d (Bz Tt),S1)) (ev C b env S1)=R):ev C (.or a b) env S=R:=by rw[<- k];cases p<;>simp only[aMl,aAb,ha,oB,cond_true,cond_false]
def bAp(ha:ev C a env S=qz (.d (Bz p),S1)):ev C (.not a) env S=qz (.d (Bz (!p)),S1):=by simp only[aL2,yT,ha,oB]
def aMi(ha:ev C a env S=qz (wa,S1))(hx:dr S1 wa=qz x)(hz:lG ty x=qz z):ev C (.isi a ty) env S=qz (.d z,S1):=by simp only[aK2,f1,ha,oB,hB,hx,hz]
def aV(ha:av (aF fs d) es env S=qz (ws,S1))(hc:cl fs d f ws S1=qz (w,S2)):ev (aF fs d) (.call f es) env S=qz (w,S2):=by rw[aJK,aHX,ha,oB];exact hc
def cQ{t:B}(ha:av C es env S=qz (ws,S1))(hd:pB S1 ws=qz ds)(hz:t.g ds=qz z):ev C (.blt t es) env S=qz (.d z,S1):=by simp only[aKZ,rS,ha,oB,hd,hz]
def dO(ha:av C es env S=qz (ws,S1))(hd:jV ws=qz ds)(hl:↑ds<=1000):ev C (.tup es) env S=qz (.d (Tz ds),S1):=by simp only[aLr,zK,ha,oB,hd,szT hl,if_true]
def fA(h:lv C a env S=qz (ds,S1)):ev C (.fz a) env S=qz (.d (Lz ds),S1):=by simp only[aMv,mD,h,oB]
def fU(ha:av C es env S=qz (ws,S1))(hd:jV ws=qz ds)(hl:↑ds<=1000):lv C (.lst es) env S=qz (ds,S1):=by simp only[aLY,aAh,ha,oB,hd,szT hl,if_true]
def nZ(h:lv C a env S=qz (ds,S1)):ev C (.new a) env S=qz (.loc ↑S1,S1++[qz ds]):=by simp only[aK0,oP,h,oB]
def aO:av C .nil env S=qz ([],S):=rfl
def aD(ha:ev C a env S=qz (w,S1))(hr:av C r env S1=qz (ws,S2)):av C (.cons a r) env S=qz (w::ws,S2):=by simp only[aKw,dU,ha,oB,hr]
def aZ(ha:ev C a env S=qz (.d x,S1))(hb:ev C b env S1=qz (.d y,S2))(hz:bE op x y=qz (.bool p)):tv C (.cmp op a b) env S=qz (p,S2):=by have:=iA ha hb hz;rw[aES] at this;simp only[aLA,dW,this,oB,dr,sD]
def pX(ht:tv C e=dW (ev C e))(ha:ev C e env S=qz (.d x,S1))(hz:sD x=qz p):tv C e env S=qz (p,S1):=by rw[ht];simp only[dW,ha,oB,dr,hz]
def nK(ha:tv C a env S=qz (p,S1))(hb:cond p (tv C b env S1) (qz (Ff,S1))=R):tv C (.and a b) env S=R:=by rw[<- hb];cases p<;>simp only[aLJ,zW,ha,oB,yAv,if_false,if_true,cond_true,cond_false]
def yR(ha:tv C a env S=qz (p,S1))(hb:cond p (qz (Tt,S1)) (tv C b env S1)=R):tv C (.or a b) env S=R:=by rw[<- hb];cases p<;>simp only[aNh,fOr,ha,oB,yAv,if_false,if_true,cond_true,cond_false]
def xF(ha:tv C a env S=qz (p,S1)):tv C (.not a) env S=qz (!p,S1):=by simp only[aL6,aAe,ha,oB]
def uI{α:Type}{x y z:α}(h:x=z):cond Tt x y=z:=h
def uO{α:Type}{x y z:α}(h:y=z):cond Ff x y=z:=h
variable {s t u:Sx}{aY:bG}{R:Option (Fl×aE)}{w:W}
def yH(h:xs C s env S=qz (fl,S1))(k:qz (fl,S1)=R):xs C s env S=R:=h.trans k
def aBM{w:W}{R:Oz (W×aE)}(h:ev C e env S=qz (w,S1))(k:qz (w,S1)=R):ev C e env S=R:=h.trans k
def aBN{p:Bool}{R:Oz (Bool×aE)}(h:tv C e env S=qz (p,S1))(k:qz (p,S1)=R):tv C e env S=R:=h.trans k
def aBK{l:Li D}{R:Oz (Li D×aE)}(h:lv C e env S=qz (l,S1))(k:qz (l,S1)=R):lv C e env S=R:=h.trans k
def aVI:xs C .skip env S=qz (.nx env,S):=rfl
def uH(C:Calls)(t:Sx)(fl:Fl)(S:aE):Oz (Fl×aE):=match fl with|.nx e=>xs C t e S|fl=>qz (fl,S)
def aZO(h:xs C s env S=qz (fl,S1))(k:uH C t fl S1=R):xs C (.seq s t) env S=R:=by rw[<- k];cases fl<;>simp only[rE,kM,h,oB,uH]
def bBx(k:xs C t aY S=R):uH C t (.nx aY) S=R:=k
def bA5(k:qz (.rt w,S)=R):uH C t (.rt w) S=R:=k
def bBe(k:qz (.bk aY,S)=R):uH C t (.bk aY) S=R:=k
def bB0(k:qz (.ct aY,S)=R):uH C t (.ct aY) S=R:=k
def tZ(he:ev C e env S=qz (we,S1))(ho:ev C o env S1=qz (wo,S2))(hi:ev C i env S2=qz (wi,S3))(h:nY S3 wo wi we=qz S4):xs C (.put o i e) env S=qz (.nx env,S4):=by simp only[aLh,zN,he,oB,ho,hi,h]
def aNj(h:ev C e env S=qz (w,S1))(he:env.set i (qz w)=aY):xs C (.set i e) env S=qz (.nx aY,S1):=by rw[<- he];simp only[aEO,lM,h,oB]
def aZ8(h:ev C e env S=qz (w,S1)):xs C (.ret e) env S=qz (.rt w,S1):=by simp only[aEm,qC,h,oB]
def gP(h:ev C e env S=qz (w,S1)):xs C (.expr e) env S=qz (.nx env,S1):=by simp only[aJR,yF,h,oB]
def aY9(ht:tv C a env S=qz (p,S1))(k:cond p (xs C s env S1) (xs C t env S1)=R):xs C (.ifs a s t) env S=R:=by rw[<- k];cases p<;>simp only[tO,oR,ht,oB,yAv,if_false,if_true,cond_true,cond_false]
def nL(h:pZ tg (lv C a) (xs C s) env S=R):xs C (.loop tg a s) env S=R:=h
def aVh{ws:Li W}(he:ws.map qz++yAg (n-↑ws) qj=env)(k:xs C body env S=qz (.rt (.d x),S1))(hS:S1.take ↑S=S2):gH (xs C body) n ws S=qz (.d x,S2):=by subst he;simp only[gH,k,oB,rT,hS]
def aLs{ws:Li W}(he:ws.map qz++yAg (n-↑ws) qj=env)(k:xs C body env S=qz (.nx aY,S1))(hS:S1.take ↑S=S2):gH (xs C body) n ws S=qz (.d .none,S2):=by subst he;simp only[gH,k,oB,hS]
def cH{ws:Li W}(h:fs[f]?=qz F)(hw:↑ws=F.np)(he:ws.map qz++yAg (F.N.length-↑ws) qj=env)(k:xs (aF fs d) F.body env S=qz (.rt (.d x),S1))(hS:S1.take ↑S=S2):cl fs (d+1) f ws S=qz (.d x,S2):=by subst he;rw[bX h d ws S hw];simp only[gH,k,oB,rT,hS]
end
section
variable {C:Calls}{env:bG}{S S1 S2 S3 S4:aE}{a b c e es r:E}{w:W}{fl:List (Str×W0)}{ws:List W0}{k:List bN}{el:List (List bN×Int)}{m:Nat}
def aFv(h:ev C a env S=qz (.ob fl,S1))(hf:fl.lookup f=qz x):ev C (.fld a f) env S=qz (x.w,S1):=by simp only[aXM,aCy,h,oB,hf,yEw]
def xA(h:ev C a env S=qz (.ob fl,S1))(hf:fl.lookup f=qz (.loc n)):ev C (.fld a f) env S=qz (.loc n,S1):=aFv h hf
def rC(h:ev C a env S=qz (.ob fl,S1))(hf:fl.lookup f=qz (.d x)):ev C (.fld a f) env S=qz (.d x,S1):=aFv h hf
def tP(h:ev C a env S=qz (.ob fl,S1))(hf:fl.lookup f=qz (.dic n)):ev C (.fld a f) env S=qz (.dic n,S1):=aFv h hf
def fL(ho:ev (aF fs d) a env S=qz (.ob fl,S1))(hn:fl.lookup mn=qj)(ha:av (aF fs d) es env S1=qz (zs,S2))(hc:cl fs d f (.ob fl::zs) S2=qz (w,S3)):ev (aF fs d) (.mth mn f a es) env S=qz (w,S3):=by
 rw[aXH];unfold rM;unfold cl at hc;cases h:aF fs d f with
 |none=>rw[h] at hc;cases hc
 |some p=>
   rw[h] at hc;let(np,call):=p;dsimp only at hc ⊢;split at hc
   .rename_i hl;have hl:↑zs+1=np:=hl;simp only[aCh,ho,oB,hn,Option.isNone_none,if_true,ha,hl,hc]
   .cases hc
def uB(h:av C es env S=qz (zs,S1))(h0:w0s zs=qz ws)(hl:(↑ws<=1000)=True):ev C (.tpl es) env S=qz (.tpl ws,S1):=by have hl:↑ws<=qk:=xAh (of_eq_true hl) (·);simp only[aXD,aCm,h,oB,h0,if_pos hl]
def aEM(ha:ev C a env S=qz (.tpl ws,S1))(hb:ev C b env S1=qz (.dic m,S2))(hk:iD ws=qz k)(hd:mE S2 m=qz el)(hp:(n != (fO el k).isSome)=p):tv C (.din n a b) env S=qz (p,S2):=by subst hp;simp only[aYd,dW,uV,ha,oB,hb,hk,hd,yEw,dr,sD]
def aEq{i:Int}(ha:ev C a env S=qz (.dic m,S1))(hb:ev C b env S1=qz (.tpl ws,S2))(hk:iD ws=qz k)(hd:mE S2 m=qz el)(hv:fO el k=qz i):ev C (.dget a b) env S=qz (.d (Iz i),S2):=by simp only[aTp,aB7,ha,oB,hb,hk,hd,hv,yEw]
def aLa{i:Int}(hv:ev C e env S=qz (.d (Iz i),S1))(ha:ev C a env S1=qz (.dic m,S2))(hb:ev C b env S2=qz (.tpl ws,S3))(hk:iD ws=qz k)(hd:mE S3 m=qz el)(hl:el.length<qk)(hS:S3.set m (qz ((rV el k i).map mT))=S4):xs C (.dput a b e) env S=qz (.nx env,S4):=by rw[<- hS];simp only[aTu,aBX,hv,oB,ha,hb,hk,hd,if_pos hl]
def aMj(h:av C es env S=qz (zs,S1))(hd:jV zs=qz ds)(hl:(↑ds<=1000)=True)(ha:ev C a env S1=qz (u,S2))(hx:wd u=qz x)(hz:zF ds x=qz z):ev C (.cou t es a) env S=qz (.d z,S2):=by have hl:↑ds<=qk:=xAh (of_eq_true hl) (·);simp only[aVi,uW,h,oB,hd,if_pos hl,ha,hx,hz,yEw]
def rF{t:Tg}(h:ev C e env S=qz (.d x,S1))(he:t.put x env=qz aY):xs C (.setT t e) env S=qz (.nx aY,S1):=by simp only[aKQ,yM,h,oB,he]
def aE1{i:Nat}{ds:Li D}{aY:bG}(h:lv C e env S=qz (ds,S1))(he:env.set i (qz (.d (Lz ds)))=aY):xs C (.setC Ff i e) env S=qz (.nx aY,S1):=by rw[<- he];simp only[aKT,lM,mD,h,oB]
def aNr(h:av C es env S=qz (zs,S1))(hn:↑zs+1=np)(hd:jV zs=qz ds)(hm:lQ ds ini S1=qz (fs,S2)):ev C (.mk ini np es) env S=qz (.ob fs,S2):=by simp only[aZf,aBU,h,oB,if_pos hn,hd,hm,yEw]
end
end EV
namespace K74
open PySem L2 EV BM
private def mqS(p:String)(l:List mq)(b:="simp"):mq:=mqV b [mqC,mqO,mqO [mqA "only"],mqO [mqA "[",mqJ "," ((((p.splitOn " ").filter (·!="")).map mqI++l).map λ t=>mqN "Tactic.simpLemma" [mqO,mqO,t]),mqA "]"],mqO]
private def mqH(n:String)(l:List mq):=mqV "tacticErw___" [mqC,mqN "Tactic.rwRuleSeq" [mqA "[",mqJ "," ((mqI n::l).map λ t=>mqN "Tactic.rwRule" [mqO,t]),mqA "]"],mqO]
private def mqX(a:mq):=
 let a:=a[2][1].getSepArgs.toList.map (·[1])
 (a.headD .missing,a.tail)
private def mqR:=mqN "Tactic.tacticRfl" [mqA "rfl"]
private def mqW(t:mq):=mqN "Tactic.withReducible" [mqA "with_reducible",mqQ [t]]
private def mqK(t:mq):=mqV "focus" [mqQ [t]]
private def mqZ(t:mq)(u:=mqR):=mqK (mqM `Lean.Parser.Tactic.«tactic_<;>_» #[t,mqA "<;>",u])
private def mqY(l:List mq)(e:=[mqV "fail" [mqO]]):=mqV "first" [mqO ((l++e).map λ t=>mqM `group #[mqA "|",mqQ [t]])]
private def mqU(t:mq):=mqV "apply" [t]
private def mqEv:="aE4 aWb aYV aWP aVX aLl aMS aES aLV aMl aL2 aLG aLr aFm aWz aW8 aFu aJK aKZ aK2 aTb aLX aX0 aMv aK0 aLJ aNh aL6 aVC aLA bAK aUO aV2 aWw aXd aYr bAh aXC aKw aYv aKP aLY aS6 aST aFd aBe aDR aD3 aS4 aEA aD1 aJM EV.rE aJR aEm EV.tO aEO aKT aKQ aLh aTW EV.kM EV.lM EV.yM EV.oR EV.qC aYG EV.yF EV.uG EV.sB fUn EV.oO EV.dW EV.f2 EV.f1 EV.jH EV.hB EV.dr EV.pB EV.fC EV.lU EV.rT aHX EV.dU EV.iS EV.zK aAh EV.mD EV.rS EV.qL EV.zW fOr aAe EV.xV aAb EV.yT EV.zD EV.jV EV.B.g aYz bAR aMy bAB aZ7 EV.sD EV.Tg.put EV.nU EV.Tg.slots yAk yEj yAn yBx yGb Nat.reduceSub yEt yBg List.replicate_zero yGm yEg yDh yDe yCx yEa EV.oB EV.oM yAf Bool.not_false Bool.not_true yAv if_true if_false reduceIte yFk Nat.reduceEqDiff szT List.take_nil List.take_zero aVg EV.sF aBW EV.qB aLq aLd aLw"
private def mqU2(n:String):=if n="" then [] else [mqW (mqU (mqI n))]
private def mqC2(l:List mq)(x:Char):mq:=
 if x='r' then mqR else
 if x='g' then mqH "go.10.67" l else
 if x='c' then mqY [mqW (mqV "assumption" []),mqZ (mqS "" l) (mqW mqR)] else
 if x='v' then mqZ (mqS mqEv l) (mqW mqR) else
 if x='b' then mqZ (mqS "yCx yEa" [] "dsimp") else
 if x='a' then mqH "go.0.4" l else
 if x='d' then mqH "go.4.6" l else
 if x='e' then mqH "go.6.8" l else
 if x='f' then mqH "go.8.10" l else
 mqY [mqZ (mqS (if x='h' then "EV.B.g" else if x='i' then "yAn yBx yGb yFk" else if x='j' then "slD" else if x='k' then "Option.isSome_some Option.isSome_none bne_self_eq_false Bool.bne_false Bool.false_bne" else if x='m' then "yCx yEa" else if x='n' then "EV.Tg.put EV.nU yCx yEa" else "") l),mqK mqR]
local macro_rules(kind:=Lean.Parser.Tactic.tacticErw___)|s=>do
 let (n,l):=mqX s
 match n.getId with
 |.num (.num _ a) b=>if b<a+4 then mqF else return mqH s!"go.{(a+b)/2}.{b}" l
 |.anonymous=>if n.toNat>19 then mqF else return mqZ (mqS (if n.toNat<9 then mqEv else mqEv++" EV.gH") l)
 |_=>mqF
local macro_rules(kind:=Lean.Parser.Tactic.omega)|_s=>return mqW (mqY (mqV "assumption" []::(("yAc/1 _ yCz/2 _ _ xAh/2 a d xAb/2 a d xAi/2 a d yDx/1 a xAh/2 yDx/1 a d xAh/2 Nat.add_le_add_right/2 a _ d yDp/2 d _ yDc/1 a Nat.lt_of_not_le/1 a Nat.not_lt_of_le/1 a yGn/1 a xAb/2 a a xAh/2 a a xAh/2 a yDp/2 d _ xAh/2 a xAh/2 Nat.add_le_add_right/2 a _ d".splitOn " ").foldr (λ t l=>match t.splitOn "/" with|[f,n]=>let n:=n.toNat!;mqT f (l.take n)::l.drop n|_=>(if t="_" then mqN "Term.hole" [mqA "_"] else mqB (if t="a" then mqV "assumption" [] else mqV "decide"))::l) []).map λ t=>mqV "exact" [t]))
local macro_rules(kind:=Lean.Parser.Tactic.tacticErw___)|s=>do
 let (n,l):=mqX s
 match n.getId with
 |.num (.num _ a) b=>
  if a+3<b then return mqH s!"go.{a}.{(a+b)/2}" l
  return mqY (((("bBx:g bA5:r bBe:r bB0:r EV.uI:g EV.uO:g EV.uI:g EV.uO:r EV.uI:r EV.uO:g EV.aC:r EV.aJ EV.aD:gg EV.aO EV.aV:gc EV.bP:ggl EV.bM:gggl aNj:gb aZO:ga EV.aZ:ggl aY9:gd aZ8:g aVI EV.cQ:ggh EV.nK:ge EV.xF:g EV.bZ EV.yR:gf aCv aFt aCc EV.dJ EV.cU EV.gP:g EV.fD:l EV.cN:gg EV.dO:gri EV.fA:g EV.fU:gri EV.nZ:g aCb:ggggj aBF:g bA9:gl EV.iA:ggl EV.iN:ggl EV.tZ:gggl aFe:gd aM7:ge bBH:gf bAp:g aMi:ggr EV.xA:gr EV.rC:gr EV.tP:gr EV.fL:grgc EV.uB:gri aEM:ggllk aEq:gglll aLa:ggglllm aMj:grigrl EV.rF:gn aE1:gb aNr:grrr EV.nL:c EV.pX:rgr :c :v".splitOn " ").take b).drop a).map λ t=>mqO ((match t.splitOn ":" with|[n,r]=>mqU2 n++r.toList.map (mqC2 l)|_=>mqU2 t)))
 |.anonymous=>
  let k:=n.toNat
  if k=20 then return mqS mqEv l
  let i:=mqN "Tactic.rcasesPat.one" [mqI "rfl"]
  if k=50 then return mqG [i,mqA "|",i,mqA "|",i] (l.headD .missing)
  let d:=l.take (k%10);let l:=l.drop (k%10);let g:=[mqH "go.10.67" l,mqY [mqK mqR,mqZ (mqS "" l)]]
  if k<10 then return mqY [mqO ((if k=0 then [] else [mqS "" d "dsimp"])++mqY (["yH","aBM","aBN","aBK"].map λ x=>mqU (mqI x))::g)]
  return mqY [mqO [mqU (mqT "aVh" [mqI "rfl"]),mqV "focus" [mqQ (mqS "List.map yAn yBx yGb Nat.reduceSub yEt yBg List.replicate_zero yGm yEg" d "dsimp"::mqU (mqI "yH")::g)],mqY [mqV "exact" [mqI "yAf"],mqZ (mqS "aLq aLd aLw" l),mqK mqR]]]
 |_=>mqF
local macro_rules(kind:=Lean.Parser.Term.tuple)|s=>if s[1].getNumArgs=0 then return mqB (mqV "omega") else if s[1][2].getNumArgs%2=0 then return mqN "Term.anonymousCtor" [mqA "⟨",mqJ "," (s[1][0]::s[1][2].getSepArgs.toList),mqA "⟩"] else mqF
local macro_rules(kind:=«term_<$>_»)|s=>return mqT "aF" [mqI "fns",mqM `«term_+_» #[s[0],mqA "+",s[2]]]
local macro_rules(kind:=«term#[_,]»)|s=>return mqT "qz" [mqD "loc" [s[1][0]]]
local macro_rules(kind:=Lean.Parser.Term.typeAscription)|s=>if s[3].getNumArgs=0 then return mqT "qz" [mqD "d" [mqD "int" [s[1]]]] else mqF
local macro_rules(kind:=Lean.Parser.Term.typeAscription)|s=>if s[3].getNumArgs>0&&s[3][0].getKind==`Lean.Parser.Term.hole then return (s.setArg 1 (s.setArg 3 (mqO [mqI "Nat"]))).setArg 3 (mqO [mqI "Int"]) else mqF
def top(i:Nat):xk:=PySem.Challenge.pw_fewbits_k74_whole_narrowed_tells_the_sam.main.body.getD i (.Pass (0,0,0,0,))
def vL:Li (Str×Tv):=[("in",.int 0),("num",.int 0),("not",.int 1),("and",.int 2),("or",.int 2),("xor",.int 2),("add",.int 2),("sub",.int 2),("mul",.int 2),("left",.int 1),("right",.int 1),("slide",.int 1),("cut",.int 1),("wide",.int 1),("sign",.int 1),("same",.int 2),("less",.int 2),("under",.int 2),("pick",.int 3)]
def pG:Li Tv:=[.str "left",.str "right",.str "slide"]
def aEQ:Li Tv:=[.str "add",.str "sub",.str "mul"]
def nH:Li Tv:=[.str "same",.str "less",.str "under"]
def aAI:Li Tv:=[.str "wide",.str "sign"]
def sZ:Li Tv:=[.int 0,.int 0,.int 1]
def wD:Li Tv:=[.int 1,.int 0,.int 1]
def yI:Li Tv:=[.int 0,.int 1,.int 1]
def wV:Li Tv:=[.str "cut",.str "nought",.str "sign"]
def cl_ini:Li (Str×Ini):=[("program",.arg 0),("stays",.arg 1),("rows",.lst),("places",.lst),("once",.dct)]
def aBO(s:xk)(j:Nat):xk:=match s with|.ClassDef _ _ _ b _ _ _ _ _ _ _=>b.getD j (.Pass (0,0,0,0,))|_=>.Pass (0,0,0,0,)
def tbs:Tbs:=([("OPERAND_COUNTS",vL)],[("SHIFTS",pG),("SUMS",aEQ),("COMPARES",nH),("WIDENINGS",aAI),("NOTHING",sZ),("NOUGHT",wD),("ONE",yI),("WORDS",wV)],[],qz (cl_ini,3,["self","program","stays"],aBO (top 72) 0,),)
abbrev J0:E:=.int 0
abbrev J1:E:=.int 1
abbrev J2:E:=.int 2
abbrev J3:E:=.int 3
abbrev J4:E:=.int 4
abbrev J5:E:=.int 5
abbrev J6:E:=.int 6
abbrev J7:E:=.int 7
abbrev J8:E:=.int 8
abbrev V0:E:=.var 0
abbrev V1:E:=.var 1
abbrev V2:E:=.var 2
abbrev V3:E:=.var 3
abbrev V4:E:=.var 4
abbrev V5:E:=.var 5
abbrev V6:E:=.var 6
abbrev V7:E:=.var 7
abbrev V8:E:=.var 8
abbrev V9:E:=.var 9
abbrev N0:E:=.nil
abbrev K0:Sx:=.skip
section
local macro_rules(kind:=«term_::_»)|s=>return mqD "cons" [s[0],s[2]]
local macro_rules(kind:=«term_^_»)|s=>return mqD "seq" [s[0],s[2]]
def aMU:Sx:=.ret (.bin .Sub (.bin .LShift J1 V0) J1)^K0
def aL7:Sx:=.ret (.bits V0)^K0
def aLR:Sx:=.ret (.call 0 (.call 1 (V0::N0)::N0))^K0
def aIB:Sx:=.ret (.bin .Sub (.call 1 (.bin .BitXor V0 (.bin .Add V0 J1)::N0)) J1)^K0
def aIP:Sx:=.ret (.bin .Sub V1 (.call 1 (.bin .BitXor V0 (.call 0 (V1::N0))::N0)))^K0
def aDa:Sx:=.set 3 (.bin .LShift J1 (.bin .Sub V1 J1))^.ifs (.cmp .Eq (.bin .BitAnd V0 V3) J0) (.ret V0^K0) .skip^.ret (.bin .BitOr V0 (.bin .BitXor (.call 0 (V2::N0)) (.call 0 (V1::N0))))^K0
def aHl:Sx:=.set 3 (.bin .BitXor (.call 0 (V2::N0)) (.call 2 (.bin .BitXor V0 V1::N0)))^.set 4 (.bin .BitAnd V3 V0)^.ret (.tup (.bin .BitXor V3 V4::V4::N0))^K0
def aQi:Sx:=.ret (.sl V0 (J2::N0) (.bin .Add J2 (.tab "OPERAND_COUNTS" vL (.ix V0 J0))::N0))^K0
def aGR:Sx:=.ret (.bin .Add (.bin .Add (.sl V0 .no (J2::N0)) V1) (.sl V0 (.bin .Add J2 (.blt .len (V1::N0))::N0) .no))^K0
def aGK:E:=.comp (.ix V1 V2) (.one 2) (.it (.call 7 (V0::N0))) .no
def aG6:Sx:=.ret (.blt .tup (.fz aGK::N0))^K0
def aIe:Sx:=.set 2 (.ix V0 J0)^.ret (.ix (.ix V2 V1) J1)^K0
def aGW:E:=.comp (.ix V1 J1) (.one 1) (.it (.ix V0 J0)) .no
def aHI:Sx:=.ret (.blt .tup (.fz aGW::N0))^K0
def aG1:Sx:=.ret (.tup (.bin .BitAnd V2 (.un .Invert (.bin .BitAnd V1 (.un .Invert V0)))::.bin .BitAnd V2 (.un .Invert V0)::N0))^K0
def aIn:Sx:=.set 3 (.call 1 (V2::N0))^.set 4 (.blt .mn (V3::.call 3 (V1::N0)::N0))^.set 5 (.blt .mn (.bin .Sub V3 V4::.call 3 (V0::N0)::N0))^.ret (.tup (.call 0 (.bin .Sub V3 V4::N0)::.call 0 (.bin .Sub V3 V5::N0)::N0))^K0
def aDY:Sx:=.ifs (.cmp .Eq (.bin .RShift V0 V1) J0) (.ret V0^K0) .skip^.ret (.bin .BitOr (.bin .BitAnd V0 (.call 0 (V1::N0))) (.bin .LShift J1 (.bin .Sub V1 J1)))^K0
def aAH:Sx:=.ifs (.cmp .Eq V0 (.str "left")) (.ret (.bin .RShift V3 V2)^K0) .skip^.ifs (.cmp .Eq V0 (.str "right")) (.ret (.bin .BitAnd (.bin .LShift V3 V2) (.call 0 (V1::N0)))^K0) .skip^.ret (.call 14 (.bin .LShift V3 V2::V1::N0))^K0
def aAL:Sx:=.ifs (.cmp .Eq (.ix V0 J1) J1) (.ret (.tup (J1::V1::J0::N0))^K0) .skip^.ifs (.cmp .Eq (.ix V0 J0) J1) (.ret (.tup (J1::J0::V1::N0))^K0) .skip^.ret (.tup (J1::V1::V1::N0))^K0
def aHb:Sx:=.set 4 (.ix V0 J0)^.ifs (.cmp .Eq V4 (.str "and")) (.ret (.call 12 (.ix (.ix V2 J0) J0::.ix (.ix V2 J1) J0::V3::N0))^K0) .skip^.ifs (.cmp .Eq V4 (.str "or")) (.ret (.call 12 (.ix (.ix V2 J0) J1::.ix (.ix V2 J1) J1::V3::N0))^K0) .skip^.ifs (.cmp .In V4 (.tup (.str "add"::.str "sub"::N0))) (.ret (.tup (.call 2 (V3::N0)::.call 2 (V3::N0)::N0))^K0) .skip^.ifs (.cmp .Eq V4 (.str "mul")) (.ret (.call 13 (.ix (.ix V2 J0) J0::.ix (.ix V2 J1) J0::V3::N0))^K0) .skip^.ifs (.cmp .In V4 (.con "SHIFTS" pG)) (.ret (.tup (.call 15 (V4::.ix V0 J1::.ix V0 J3::V3::N0)::N0))^K0) .skip^.ifs (.cmp .Eq V4 (.str "wide")) (.ret (.tup (.bin .BitAnd V3 (.call 0 (.ix V1 J0::N0))::N0))^K0) .skip^.ifs (.cmp .Eq V4 (.str "sign")) (.ret (.tup (.call 14 (V3::.ix V1 J0::N0)::N0))^K0) .skip^.ifs (.cmp .In V4 (.con "COMPARES" nH)) (.ret (.tup (.call 0 (.ix V1 J0::N0)::.call 0 (.ix V1 J1::N0)::N0))^K0) .skip^.ifs (.cmp .Eq V4 (.str "pick")) (.ret (.call 16 (.ix V2 J0::V3::N0))^K0) .skip^.ret (.bin .Mult (.tup (V3::N0)) (.blt .len (.call 7 (V0::N0)::N0)))^K0
def aFf:Sx:=.ifs (.cmp .Eq V3 J0) (.ret (.bin .Mult (.tup (J0::N0)) (.blt .len (.call 7 (V0::N0)::N0)))^K0) .skip^.ret (.call 17 (V0::V1::V2::V3::N0))^K0
def aG0:E:=.comp (.call 10 (V0::V7::N0)) (.one 7) (.it (.call 7 (V4::N0))) .no
def aPA:Sx:=.set 4 (.ix (.ix V0 J0) V2)^.set 5 (.blt .tup (.fz aG0::N0))^.set 6 (.call 18 (V4::V5::.call 9 (V4::V1::N0)::V3::N0))^.ret (.fz (.lzip (.call 7 (V4::N0)) V6))^K0
def aDj:E:=.it (.call 19 (V0::V1::V4::.ix V2 V4::N0))
def aDd:Sx:=.put V2 V7 (.bin .BitOr (.ix V2 V7) V8)^K0
def aIs:E:=.rng3 (.bin .Sub (.blt .len (V5::N0)) J1) (.un .USub J1) (.un .USub J1)
def aIr:Sx:=.loop (.many [7,8]) aDj aDd^K0
def aIk:E:=.it V6
def aIv:Sx:=.put V2 V3 (.call 0 (.call 10 (V0::V3::N0)::N0))^K0
def aVe:Sx:=.setT (.many [5,6]) V0^.set 2 (.new (.lrep (.fz (.lst (J0::N0))) (.blt .len (V5::N0))))^.loop (.one 3) aIk aIv^.loop (.one 4) aIs aIr^.ret (.blt .tup (V2::N0))^K0
def aIz:Sx:=.ret (.bin .BitXor (.call 0 (V1::N0)) (.call 0 (.bin .Sub V1 V0::N0)))^K0
def aHz:Sx:=.ret (.bin .BitOr (.ix V0 J0) (.ix V0 J1))^K0
def wR:Sx:=.setT (.many [3,4,5]) V0^.set 2 (.call 21 (V5::V1::N0))^.ifs (.cmp .NotEq (.bin .BitAnd V3 V2) J0) (.set 3 (.bin .BitOr V3 V2)^K0) .skip^.ifs (.cmp .NotEq (.bin .BitAnd V4 V2) J0) (.set 4 (.bin .BitOr V4 V2)^K0) .skip^.ret (.tup (V3::V4::.blt .mx (V5::.call 4 (V3::V1::N0)::.call 4 (V4::V1::N0)::N0)::N0))^K0
def aK3:Sx:=.ret (.ix V0 J1)^K0
def aH9:Sx:=.ret (.bin .BitXor (.call 0 (V1::N0)) (.ix V0 J0))^K0
def aSf:Sx:=.ifs (.cmp .Eq V0 (.str "add")) (.ret (.bin .Add V1 V2)^K0) .skip^.ifs (.cmp .Eq V0 (.str "sub")) (.ret (.bin .Sub V1 V2)^K0) .skip^.ret (.bin .Mult V1 V2)^K0
def aHO:Sx:=.set 3 (.call 0 (.call 3 (.bin .BitAnd (.call 22 (V1::N0)) (.call 22 (V2::N0))::N0)::N0))^.set 4 (.bin .BitAnd (.call 26 (V0::.call 24 (V1::N0)::.call 24 (V2::N0)::N0)) V3)^.ret (.tup (.bin .BitXor V3 V4::V4::N0))^K0
def aAC:Sx:=.ifs (.cmp .NotEq V0 (.str "mul")) (.ret J0^K0) .skip^.ret (.call 0 (.blt .mn (V1::.bin .Add (.call 3 (.ix V2 J0::N0)) (.call 3 (.ix V3 J0::N0))::N0)::N0))^K0
def aBa:Sx:=.ifs (.cmp .Eq V0 (.str "sub")) (.ret (.tup (.bin .Sub (.call 24 (V2::N0)) (.call 25 (V3::V1::N0))::.bin .Sub (.call 25 (V2::V1::N0)) (.call 24 (V3::N0))::N0))^K0) .skip^.set 4 (.call 26 (V0::.call 24 (V2::N0)::.call 24 (V3::N0)::N0))^.set 5 (.call 26 (V0::.call 25 (V2::V1::N0)::.call 25 (V3::V1::N0)::N0))^.ret (.tup (V4::V5::N0))^K0
def aAJ:Sx:=.setT (.many [4,5]) (.call 29 (V0::V1::V2::V3::N0))^.ifs (.or (.cmp .Lt V4 J0) (.cmp .Gt V5 (.call 0 (V1::N0)))) (.ret (.tup (J0::J0::N0))^K0) .skip^.ret (.call 6 (V4::V5::V1::N0))^K0
def aAP:Sx:=.ifs (.cmp .Eq V0 (.str "mul")) (.ret J1^K0) .skip^.ret (.blt .mx (J1::.bin .Sub (.blt .mn (.ix V1 J2::.ix V2 J2::N0)) J1::N0))^K0
def aIq:Sx:=.set 4 (.call 27 (V0::V2::V3::N0))^.set 5 (.call 30 (V0::V1::V2::V3::N0))^.set 6 (.bin .BitOr (.bin .BitOr (.ix V4 J0) (.ix V5 J0)) (.call 28 (V0::V1::V2::V3::N0)))^.ret (.tup (V6::.bin .BitOr (.ix V4 J1) (.ix V5 J1)::.call 31 (V0::V2::V3::N0)::N0))^K0
def aH7:Sx:=.ret (.tup (.bin .BitXor (.call 0 (V0::N0)) V1::V1::J1::N0))^K0
def aHd:Sx:=.ret (.bin .BitOr (.bin .BitAnd (.ix V0 J0) (.ix V1 J1)) (.bin .BitAnd (.ix V0 J1) (.ix V1 J0)))^K0
def aAB:Sx:=.set 3 (.blt .mn (.ix V1 J2::.ix V2 J2::N0))^.ifs (.cmp .Eq V0 (.str "and")) (.ret (.tup (.bin .BitOr (.ix V1 J0) (.ix V2 J0)::.bin .BitAnd (.ix V1 J1) (.ix V2 J1)::V3::N0))^K0) .skip^.ifs (.cmp .Eq V0 (.str "or")) (.ret (.tup (.bin .BitAnd (.ix V1 J0) (.ix V2 J0)::.bin .BitOr (.ix V1 J1) (.ix V2 J1)::V3::N0))^K0) .skip^.set 4 (.bin .BitOr (.bin .BitAnd (.ix V1 J0) (.ix V2 J0)) (.bin .BitAnd (.ix V1 J1) (.ix V2 J1)))^.ret (.tup (V4::.call 34 (V1::V2::N0)::V3::N0))^K0
def aHB:Sx:=.set 3 (.bin .BitOr (.bin .LShift (.ix V1 J0) V2) (.call 0 (V2::N0)))^.ret (.tup (.bin .BitAnd V3 (.call 0 (V0::N0))::.bin .BitAnd (.bin .LShift (.ix V1 J1) V2) (.call 0 (V0::N0))::.blt .mx (J1::.bin .Sub (.ix V1 J2) V2::N0)::N0))^K0
def aCZ:Sx:=.set 3 (.bin .BitOr (.bin .RShift (.ix V1 J0) V2) (.call 21 (.blt .mn (V2::V0::N0)::V0::N0)))^.ret (.tup (V3::.bin .RShift (.ix V1 J1) V2::.ite (.cmp .Eq V2 J0) (.ix V1 J2) J1::N0))^K0
def aHg:Sx:=.set 3 (.bin .Add V0 V2)^.ret (.tup (.bin .RShift (.call 5 (.ix V1 J0::V0::V3::N0)) V2::.bin .RShift (.call 5 (.ix V1 J1::V0::V3::N0)) V2::.blt .mn (V0::.bin .Add (.ix V1 J2) V2::N0)::N0))^K0
def aPg:Sx:=.ifs (.cmp .Eq V0 (.str "left")) (.ret (.call 36 (V1::V2::V3::N0))^K0) .skip^.ifs (.cmp .Eq V0 (.str "right")) (.ret (.call 37 (V1::V2::V3::N0))^K0) .skip^.ret (.call 38 (V1::V2::V3::N0))^K0
def vT:Sx:=.setT (.many [4,5,6]) V3^.ifs (.cmp .Eq V0 (.str "cut")) (.ret (.tup (.bin .BitAnd V4 (.call 0 (V2::N0))::.bin .BitAnd V5 (.call 0 (V2::N0))::.blt .mx (J1::.bin .Sub V6 (.bin .Sub V1 V2)::N0)::N0))^K0) .skip^.ifs (.cmp .Eq V0 (.str "wide")) (.ret (.tup (.bin .BitOr V4 (.call 21 (.bin .Sub V2 V1::V2::N0))::V5::.ite (.cmp .Eq V2 V1) V6 J1::N0))^K0) .skip^.ret (.tup (.call 5 (V4::V1::V2::N0)::.call 5 (V5::V1::V2::N0)::.bin .Add V6 (.bin .Sub V2 V1)::N0))^K0
def aAR:Sx:=.ifs (.cmp .NotEq (.call 34 (V1::V2::N0)) J0) (.ret (.con "NOUGHT" wD)^K0) .skip^.ifs (.cmp .Eq (.bin .BitAnd (.call 22 (V1::N0)) (.call 22 (V2::N0))) (.call 0 (V0::N0))) (.ret (.con "ONE" yI)^K0) .skip^.ret (.con "NOTHING" sZ)^K0
def aAO:Sx:=.ifs (.cmp .Lt (.call 25 (V1::V0::N0)) (.call 24 (V2::N0))) (.ret (.con "ONE" yI)^K0) .skip^.ifs (.cmp .GtE (.call 24 (V1::N0)) (.call 25 (V2::V0::N0))) (.ret (.con "NOUGHT" wD)^K0) .skip^.ret (.con "NOTHING" sZ)^K0
def aHp:Sx:=.setT (.many [3,4,5]) V0^.set 2 (.bin .BitAnd (.bin .BitXor V3 V4) (.call 21 (J1::V1::N0)))^.ret (.tup (.bin .BitXor V3 V2::.bin .BitXor V4 V2::V5::N0))^K0
def aOV:Sx:=.ifs (.cmp .Eq V0 (.str "same")) (.ret (.call 41 (V1::V2::V3::N0))^K0) .skip^.ifs (.cmp .Eq V0 (.str "less")) (.ret (.call 42 (V1::V2::V3::N0))^K0) .skip^.ret (.call 42 (V1::.call 43 (V2::V1::N0)::.call 43 (V3::V1::N0)::N0))^K0
def aAQ:Sx:=.ifs (.cmp .Eq (.ix V0 J1) J1) (.ret V1^K0) .skip^.ifs (.cmp .Eq (.ix V0 J0) J1) (.ret V2^K0) .skip^.ret (.tup (.bin .BitAnd (.ix V1 J0) (.ix V2 J0)::.bin .BitAnd (.ix V1 J1) (.ix V2 J1)::.blt .mn (.ix V1 J2::.ix V2 J2::N0)::N0))^K0
def aPN:Sx:=.set 3 (.ix V0 J0)^.set 4 (.ix V0 J1)^.ifs (.cmp .Eq V3 (.str "in")) (.ret (.con "NOTHING" sZ)^K0) .skip^.ifs (.cmp .Eq V3 (.str "num")) (.ret (.call 33 (V4::.ix V0 J2::N0))^K0) .skip^.ifs (.cmp .Eq V3 (.str "not")) (.ret (.tup (.ix (.ix V2 J0) J1::.ix (.ix V2 J0) J0::.ix (.ix V2 J0) J2::N0))^K0) .skip^.ifs (.cmp .In V3 (.con "SUMS" aEQ)) (.ret (.call 32 (V3::V4::.ix V2 J0::.ix V2 J1::N0))^K0) .skip^.ifs (.cmp .In V3 (.con "SHIFTS" pG)) (.ret (.call 39 (V3::V4::.ix V2 J0::.ix V0 J3::N0))^K0) .skip^.ifs (.cmp .In V3 (.con "COMPARES" nH)) (.ret (.call 44 (V3::.ix V1 J0::.ix V2 J0::.ix V2 J1::N0))^K0) .skip^.ifs (.cmp .Eq V3 (.str "pick")) (.ret (.call 45 (.ix V2 J0::.ix V2 J1::.ix V2 J2::N0))^K0) .skip^.ifs (.cmp .In V3 (.tup (.str "and"::.str "or"::.str "xor"::N0))) (.ret (.call 35 (V3::.ix V2 J0::.ix V2 J1::N0))^K0) .skip^.ret (.call 40 (V3::.ix V1 J0::V4::.ix V2 J0::N0))^K0
def aM0:Sx:=.ret (.call 23 (.call 46 (V0::V1::V2::N0)::.ix V0 J1::N0))^K0
def aHc:E:=.it (.ix V0 J0)
def aG9:Sx:=.expr (.app V2 (.call 47 (V3::.call 9 (V3::V1::N0)::.call 9 (V3::V2::N0)::N0)))^K0
def aQT:Sx:=.set 1 (.call 11 (V0::N0))^.set 2 (.new (.lst .nil))^.loop (.one 3) aHc aG9^.ret (.blt .tup (V2::N0))^K0
def tF:Sx:=.setT (.many [5,6]) V0^.set 4 (.bin .RShift V2 V6)^.ifs (.cmp .Eq V4 J0) (.ret (.bl Tt)^K0) .skip^.ifs (.cmp .Eq V5 (.str "nought")) (.ret (.cmp .Eq (.bin .BitAnd V4 (.un .Invert (.bin .RShift (.ix V1 J0) V6))) J0)^K0) .skip^.ret (.and (.cmp .Eq V5 (.str "sign")) (.and (.cmp .Eq (.bin .BitAnd (.bin .RShift V2 (.bin .Sub V6 J1)) J1) J1) (.cmp .LtE (.bin .Add (.bin .Sub V3 V6) J1) (.ix V1 J2))))^K0
def aGO:E:=.comp V4 (.one 4) (.rng2 J1 (.bin .Add V3 J1)) (.call 49 (.tup (V0::V4::N0)::V1::V2::V3::N0))
def aOX:Sx:=.ret (.blt .mn (.fz aGO::N0))^K0
def vM:E:=.comp (.call 50 (V5::V0::V1::V2::N0)) (.one 5) (.it (.con "WORDS" wV)) .no
def sV:Sx:=.setC Ff 3 vM^.set 4 (.blt .mn (V3::N0))^.ret (.tup (.ix (.con "WORDS" wV) (.idx V3 V4)::V4::N0))^K0
def aA1:Sx:=.ifs (.cmp .Eq (.ix V0 J0) (.str "in")) (.ret (.tup (.str "cut"::.ix V0 J1::N0))^K0) .skip^.ifs (.cmp .Eq V2 J0) (.ret .non^K0) .skip^.ret (.call 51 (V1::V2::.ix V0 J1::N0))^K0
def aGN:E:=.comp (.call 52 (V3::V4::V5::N0)) (.many [3,4,5]) (.zip3 (.ix V0 J0) V1 V2) .no
def aG8:Sx:=.ret (.blt .tup (.fz aGN::N0))^K0
def aZ0:Sx:=.expr (.app (.fld V0 "rows") V1)^.ret (.bin .Sub (.blt .len (.fld V0 "rows"::N0)) J1)^K0
def aPQ:Sx:=.ifs (.din Tt V1 (.fld V0 "once")) (.dput (.fld V0 "once") V1 (.mth "make" 54 V0 (V1::N0))^K0) .skip^.ret (.dget (.fld V0 "once") V1)^K0
def aLQ:Sx:=.set 3 (.ix (.fld V0 "stays") V1)^.ifs (.cmp .Is V3 .non) (.ret (.mth "make_once" 55 V0 (.tpl (.str "num"::V2::J0::N0)::N0))^K0) .skip^.setT (.many [4,5]) V3^.ifs (.cmp .Eq V5 V2) (.ret (.ix (.fld V0 "places") V1)^K0) .skip^.ifs (.cmp .Gt V5 V2) (.ret (.mth "make_once" 55 V0 (.tpl (.str "cut"::V2::.ix (.fld V0 "places") V1::N0)::N0))^K0) .skip^.ret (.mth "make_once" 55 V0 (.tpl (.ite (.cmp .Eq V4 (.str "sign")) (.str "sign") (.str "wide")::V2::.ix (.fld V0 "places") V1::N0)::N0))^K0
def aHu:Sx:=.set 3 (.blt .mn (.ix V1 J1::.bin .Add V2 (.ix V1 J3)::N0))^.set 4 (.mth "fetch" 56 V0 (.ix V1 J2::V3::N0))^.set 5 (.mth "make" 54 V0 (.tup (.ix V1 J0::V3::V4::.ix V1 J3::N0)::N0))^.ifs (.cmp .Gt V3 V2) (.ret (.mth "make_once" 55 V0 (.tpl (.str "cut"::V2::V5::N0)::N0))^K0) .skip^.ret V5^K0
def aOP:Sx:=.set 3 (.call 10 (.fld V0 "program"::.ix V1 J2::N0))^.ifs (.cmp .LtE V2 V3) (.ret (.mth "fetch" 56 V0 (.ix V1 J2::V2::N0))^K0) .skip^.ret (.mth "make_once" 55 V0 (.tpl (.ix V1 J0::V2::.mth "fetch" 56 V0 (.ix V1 J2::V3::N0)::N0)::N0))^K0
def aGS:Sx:=.set 4 (.blt .mx (.ix V1 J1::.ix V2 J1::N0))^.set 5 (.cou Ff (.ix V1 J0::.ix V2 J0::N0) (.str "sign"))^.ifs (.cmp .Eq V5 J1) (.ret V3^K0) .skip^.ifs (.and (.cmp .Eq V5 J0) (.cmp .Eq V0 (.str "under"))) (.ret (.blt .mn (V3::.bin .Add V4 J1::N0))^K0) .skip^.ret V4^K0
def aGC:E:=.comp (.mth "fetch" 56 V0 (V7::V3::N0)) (.one 7) (.it (.tup (V5::V6::N0))) .no
def aOQ:Sx:=.setT (.many [5,6]) (.call 7 (V1::N0))^.set 2 (.call 10 (.fld V0 "program"::V5::N0))^.set 3 (.call 59 (.ix V1 J0::.ix (.fld V0 "stays") V5::.ix (.fld V0 "stays") V6::V2::N0))^.set 4 (.blt .tup (.fz aGC::N0))^.ret (.mth "make" 54 V0 (.bin .Add (.tup (.ix V1 J0::J1::N0)) V4::N0))^K0
def aGX:E:=.comp (.mth "fetch" 56 V0 (V4::V2::N0)) (.one 4) (.it (.call 7 (V1::N0))) .no
def aQa:Sx:=.setC Ff 3 aGX^.ret (.mth "make" 54 V0 (.call 8 (.bin .Add (.tup (.ix V1 J0::V2::N0)) (.sl V1 (J2::N0) .no)::.blt .tup (V3::N0)::N0)::N0))^K0
def aGZ:E:=.comp (.mth "fetch" 56 V0 (V5::V2::N0)) (.one 5) (.it (.sl V1 (J3::N0) .no)) .no
def aPJ:Sx:=.set 3 (.mth "fetch" 56 V0 (.ix V1 J2::J1::N0))^.set 4 (.blt .tup (.fz aGZ::N0))^.ret (.mth "make" 54 V0 (.bin .Add (.tup (.str "pick"::V2::V3::N0)) V4::N0))^K0
def pE:Sx:=.set 3 (.ix V1 J0)^.ifs (.cmp .Eq V3 (.str "in")) (.ret (.mth "make" 54 V0 (V1::N0))^K0) .skip^.ifs (.cmp .Eq V3 (.str "num")) (.ret (.mth "make" 54 V0 (.tup (.str "num"::V2::.bin .BitAnd (.ix V1 J2) (.call 0 (V2::N0))::N0)::N0))^K0) .skip^.ifs (.cmp .In V3 (.tup (.str "right"::.str "slide"::N0))) (.ret (.call 57 (V0::V1::V2::N0))^K0) .skip^.ifs (.cmp .Eq V3 (.str "cut")) (.ret (.mth "fetch" 56 V0 (.ix V1 J2::V2::N0))^K0) .skip^.ifs (.cmp .In V3 (.con "WIDENINGS" aAI)) (.ret (.call 58 (V0::V1::V2::N0))^K0) .skip^.ifs (.cmp .In V3 (.con "COMPARES" nH)) (.ret (.call 60 (V0::V1::N0))^K0) .skip^.ifs (.cmp .Eq V3 (.str "pick")) (.ret (.call 62 (V0::V1::V2::N0))^K0) .skip^.ret (.call 61 (V0::V1::V2::N0))^K0
def aHi:E:=.comp (.mth "fetch" 56 V4 (V9::.call 10 (V0::V9::N0)::N0)) (.one 9) (.it (.ix V0 J1)) .no
def aC2:E:=.zip (.ix V0 J0) V3
def vN:Sx:=.set 8 (.ite (.cmp .Is V7 .non) .non (.call 63 (V4::V6::.ix V7 J1::N0)))^.expr (.app (.fld V4 "places") V8)^K0
def aI1:Sx:=.set 4 (.mk cl_ini 3 (V0::V3::N0))^.loop (.many [6,7]) aC2 vN^.set 5 (.blt .tup (.fz aHi::N0))^.ret (.tup (.blt .tup (.fld V4 "rows"::N0)::V5::N0))^K0
def aIw:Sx:=.set 1 (.call 48 (V0::N0))^.set 2 (.call 20 (V0::V1::N0))^.set 3 (.call 53 (V0::V1::V2::N0))^.ret (.tup (.call 64 (V0::V1::V2::V3::N0)::V3::N0))^K0
def aGT:E:=.comp (.cmp .Eq V4 V3) (.one 4) (.it V1) .no
def aHk:Sx:=.set 2 (.ix V0 J0)^.set 3 (.ix V0 J1)^.ifs (.cmp .In V2 (.con "COMPARES" nH)) (.ret (.and (.cmp .Eq V3 J1) (.cmp .Eq (.ix V1 J0) (.ix V1 J1)))^K0) .skip^.ifs (.cmp .Eq V2 (.str "pick")) (.ret (.cmp .Eq V1 (.tup (J1::V3::V3::N0)))^K0) .skip^.ifs (.cmp .Eq V2 (.str "cut")) (.ret (.cmp .GtE (.ix V1 J0) V3)^K0) .skip^.ifs (.cmp .In V2 (.con "WIDENINGS" aAI)) (.ret (.cmp .LtE (.ix V1 J0) V3)^K0) .skip^.ret (.blt .all (.fz aGT::N0))^K0
def aO1:Sx:=.ifs (.cmp .Eq (.ix V0 J0) (.str "num")) (.ret (.cmp .LtE (.ix V0 J2) (.call 0 (.ix V0 J1::N0)))^K0) .skip^.ifs (.cmp .In (.ix V0 J0) (.con "SHIFTS" pG)) (.ret (.cmp .LtE (.ix V0 J3) (.int 63))^K0) .skip^.ret (.bl Tt)^K0
def aGI:E:=.comp (.ix V5 J1) (.one 5) (.it (.call 9 (V2::V0::N0))) .no
def aGP:E:=.comp (.cmp .GtE V4 V1) (.one 4) (.it (.call 7 (V2::N0))) .no
def aO0:Sx:=.set 2 (.ix V0 V1)^.ifs (.or (.cmp .Lt (.ix V2 J1) J1) (.cmp .Gt (.ix V2 J1) (.int 64))) (.nev^K0) .skip^.ifs (.blt .any (.fz aGP::N0)) (.nev^K0) .skip^.set 3 (.blt .tup (.fz aGI::N0))^.ifs (.not (.call 66 (V2::V3::N0))) (.nev^K0) .skip^.ifs (.not (.call 67 (V2::N0))) (.nev^K0) .skip^K0
def aI2:E:=.comp (.cmp .GtE V4 (.blt .len (V2::N0))) (.one 4) (.it V3) .no
def aDv:E:=.rng1 (.blt .len (V2::N0))
def aJh:Sx:=.expr (.call 68 (V2::V1::N0))^K0
def aYO:Sx:=.setT (.many [2,3]) V0^.loop (.one 1) aDv aJh^.ifs (.blt .any (.fz aI2::N0)) (.nev^K0) .skip^.ret (.bl Tt)^K0
def aJH:Sx:=.ret (.bin .BitXor V0 (.bin .LShift J1 (.bin .Sub V1 J1)))^K0
def aQH:Sx:=.ifs (.cmp .Eq V0 (.str "same")) (.set 4 (.cmp .Eq V2 V3)^K0) (.ifs (.cmp .Eq V0 (.str "less")) (.set 4 (.cmp .Lt V2 V3)^K0) (.set 4 (.cmp .Lt (.call 70 (V2::V1::N0)) (.call 70 (V3::V1::N0)))^K0)^K0)^.ret (.ite V4 J1 J0)^K0
def aRG:Sx:=.ifs (.cmp .Eq V0 (.str "left")) (.ret (.bin .BitAnd (.bin .LShift V2 V3) (.call 0 (V1::N0)))^K0) .skip^.ifs (.cmp .Eq V0 (.str "right")) (.ret (.bin .RShift V2 V3)^K0) .skip^.ret (.bin .RShift (.call 5 (V2::V1::.bin .Add V1 V3::N0)) V3)^K0
def aQN:Sx:=.ifs (.cmp .Eq V0 (.str "and")) (.ret (.bin .BitAnd V2 V3)^K0) .skip^.ifs (.cmp .Eq V0 (.str "or")) (.ret (.bin .BitOr V2 V3)^K0) .skip^.ifs (.cmp .Eq V0 (.str "xor")) (.ret (.bin .BitXor V2 V3)^K0) .skip^.ifs (.cmp .Eq V0 (.str "add")) (.ret (.bin .BitAnd (.bin .Add V2 V3) (.call 0 (V1::N0)))^K0) .skip^.ifs (.cmp .Eq V0 (.str "sub")) (.ret (.bin .BitAnd (.bin .Sub V2 V3) (.call 0 (V1::N0)))^K0) .skip^.ret (.bin .BitAnd (.bin .Mult V2 V3) (.call 0 (V1::N0)))^K0
def aFq:Sx:=.set 3 (.ix V0 J0)^.set 4 (.ix V0 J1)^.ifs (.cmp .Eq V3 (.str "num")) (.ret (.ix V0 J2)^K0) .skip^.ifs (.cmp .Eq V3 (.str "not")) (.ret (.bin .BitXor (.ix V2 J0) (.call 0 (V4::N0)))^K0) .skip^.ifs (.cmp .In V3 (.con "SHIFTS" pG)) (.ret (.call 72 (V3::V4::.ix V2 J0::.ix V0 J3::N0))^K0) .skip^.ifs (.cmp .Eq V3 (.str "cut")) (.ret (.bin .BitAnd (.ix V2 J0) (.call 0 (V4::N0)))^K0) .skip^.ifs (.cmp .Eq V3 (.str "wide")) (.ret (.ix V2 J0)^K0) .skip^.ifs (.cmp .Eq V3 (.str "sign")) (.ret (.call 5 (.ix V2 J0::.ix V1 J0::V4::N0))^K0) .skip^.ifs (.cmp .In V3 (.con "COMPARES" nH)) (.ret (.call 71 (V3::.ix V1 J0::.ix V2 J0::.ix V2 J1::N0))^K0) .skip^.ifs (.cmp .Eq V3 (.str "pick")) (.ret (.ite (.cmp .Eq (.ix V2 J0) J1) (.ix V2 J1) (.ix V2 J2))^K0) .skip^.ret (.call 73 (V3::V4::.ix V2 J0::.ix V2 J1::N0))^K0
def aHR:E:=.zip (.ix V0 J0) V2
def aHP:Sx:=.ifs (.cmp .Eq (.ix V6 J0) (.str "in")) (.set 8 (.ix V1 V5)^.set 5 (.bin .Add V5 J1)^K0) (.set 8 (.call 74 (V6::.call 9 (V6::V3::N0)::.call 9 (V6::V4::N0)::N0))^K0)^.expr (.app V4 (.bin .BitXor V8 V7))^K0
def aS7:Sx:=.set 3 (.call 11 (V0::N0))^.set 4 (.new (.lst .nil))^.set 5 J0^.loop (.many [6,7]) aHR aHP^.ret (.blt .tup (V4::N0))^K0
def bBb:Sx:=.ret (.call 75 (V0::V1::.bin .Mult (.tup (J0::N0)) (.blt .len (.ix V0 J0::N0))::N0))^K0
def aHh:E:=.comp (.ix V1 V2) (.one 2) (.it (.ix V0 J1)) .no
def aIF:Sx:=.ret (.blt .tup (.fz aHh::N0))^K0
def bAN:Sx:=.ret (.call 77 (V0::.call 76 (V0::V1::N0)::N0))^K0
def sY:Sx:=.setT (.many [3,4]) (.sl V0 .no (J2::N0))^.put V0 J1 (.bin .Add V4 J1)^.ifs (.and (.cmp .Lt (.bin .Add (.bin .FloorDiv V4 (.int 12)) J1) (.blt .len (V3::N0))) (.cmp .Eq (.bin .Mod (.ix V3 J0) J2) J1)) (.ifs (.cmp .Eq (.bin .Mod V4 (.int 12)) J0) (.put V0 J2 (.ix V3 (.bin .Add (.bin .FloorDiv V4 (.int 12)) J1))^K0) .skip^.set 5 (.bin .Mod (.ix V0 J2) V1)^.put V0 J2 (.bin .FloorDiv (.ix V0 J2) V1)^.ret V5^K0) .skip^.ifs (.cmp .Lt V4 (.blt .len (V3::N0))) (.ret (.bin .Mod (.ix V3 V4) V1)^K0) .skip^.set 2 (.bin .Add (.bin .Mult V4 (.int 7919)) J5)^.ifs (.cmp .Gt (.blt .len (.ix V0 J0::N0)) J0) (.set 2 (.bin .Add V2 (.bin .Mult (.ix (.ix V0 J0) (.bin .Mod (.bin .Mult V4 J7) (.blt .len (.ix V0 J0::N0)))) (.bin .Add (.int 48271) V4)))^K0) .skip^.set 2 (.bin .Mod (.bin .Mult (.bin .Mod V2 (.int 2147483629)) (.bin .Add V4 J3)) (.int 2147483629))^.set 2 (.bin .Mod (.bin .Mult V2 V2) (.int 2147483587))^.ret (.bin .Mod (.bin .Mod (.bin .Mult V2 V2) (.int 1999999973)) V1)^K0
def aO5:Sx:=.ifs (.cmp .Lt V1 (.int 31)) (.ret (.call 79 (V0::.bin .LShift J1 V1::N0))^K0) .skip^.ret (.bin .Add (.call 79 (V0::.bin .LShift J1 (.int 30)::N0)) (.bin .LShift (.call 79 (V0::.bin .LShift J1 (.bin .Sub V1 (.int 30))::N0)) (.int 30)))^K0
def aPp:Sx:=.ret (.ix (.fz (.lst (J1::.int 64::.bin .Add J1 (.call 79 (V0::J8::N0))::.bin .Add J1 (.call 79 (V0::.int 64::N0))::N0))) (.call 79 (V0::J4::N0)))^K0
def aDm:Sx:=.set 2 (.call 79 (V0::J5::N0))^.set 3 (.fz (.lst (J0::.bin .Sub (.bin .LShift J1 V1) J1::.bin .LShift J1 (.call 79 (V0::V1::N0))::.bin .Sub (.bin .LShift J1 (.call 79 (V0::V1::N0))) J1::N0)))^.ifs (.cmp .Lt V2 J4) (.ret (.ix V3 V2)^K0) .skip^.ret (.call 80 (V0::V1::N0))^K0
def aH5:Sx:=.ifs (.cmp .Eq (.ix (.ix V1 V2) J1) V3) (.ret V2^K0) .skip^.set 4 (.ix (.fz (.lst (.str "wide"::.str "sign"::N0))) (.call 79 (V0::J2::N0)))^.ifs (.cmp .Gt (.ix (.ix V1 V2) J1) V3) (.set 4 (.str "cut")^K0) .skip^.expr (.app V1 (.tup (V4::V3::V2::N0)))^.ret (.bin .Sub (.blt .len (V1::N0)) J1)^K0
def aGD:E:=.comp V4 (.one 4) (.rng1 (.blt .len (V1::N0))) (.cmp .Eq (.ix (.ix V1 V4) J1) V2)
def aCU:Sx:=.setC Ff 3 aGD^.ifs (.and (.cmp .NotEq V3 (.fz (.lst .nil))) (.cmp .Gt (.call 79 (V0::J4::N0)) J0)) (.ret (.ix V3 (.bin .Sub (.bin .Sub (.blt .len (V3::N0)) J1) (.call 79 (V0::.blt .len (V3::N0)::N0))))^K0) .skip^.ret (.call 83 (V0::V1::.call 79 (V0::.blt .len (V1::N0)::N0)::V2::N0))^K0
def aOE:Sx:=.set 3 (.call 79 (V0::.blt .len (V1::N0)::N0))^.set 4 (.ix (.ix V1 V3) J1)^.ifs (.cmp .Eq V2 (.str "cut")) (.ret (.tup (.str "cut"::.bin .Add J1 (.call 79 (V0::V4::N0))::V3::N0))^K0) .skip^.ret (.tup (V2::.bin .Add V4 (.call 79 (V0::.bin .Sub (.int 65) V4::N0))::V3::N0))^K0
def aPf:Sx:=.set 4 (.ix (.fz (.lst (.call 79 (V0::V3::N0)::.call 79 (V0::.int 64::N0)::N0))) (.bin .FloorDiv (.call 79 (V0::J4::N0)) J3))^.ret (.tup (V2::V3::.call 84 (V0::V1::V3::N0)::V4::N0))^K0
def aHG:Sx:=.set 4 (.call 84 (V0::V1::V3::N0))^.set 5 (.call 84 (V0::V1::V3::N0))^.ifs (.cmp .In V2 (.tup (.str "same"::.str "less"::.str "under"::N0))) (.set 3 J1^K0) .skip^.ret (.tup (V2::V3::V4::V5::N0))^K0
def tD:Sx:=.set 2 (.fz (.lst (.str "in"::.str "num"::.str "num"::.str "not"::.str "and"::.str "or"::.str "xor"::.str "add"::.str "sub"::.str "mul"::.str "left"::.str "right"::.str "slide"::.str "cut"::N0)))^.set 2 (.bin .Add V2 (.fz (.lst (.str "wide"::.str "sign"::.str "same"::.str "less"::.str "under"::.str "pick"::N0))))^.set 3 (.ix V2 (.call 79 (V0::.int 20::N0)))^.set 4 (.ix (.ix V1 (.call 79 (V0::.blt .len (V1::N0)::N0))) J1)^.ifs (.cmp .Eq (.call 79 (V0::J4::N0)) J1) (.set 4 (.call 81 (V0::N0))^K0) .skip^.ifs (.cmp .Eq V3 (.str "in")) (.set 5 (.tup (.str "in"::V4::N0))^K0) (.ifs (.cmp .Eq V3 (.str "num")) (.set 5 (.tup (.str "num"::V4::.call 82 (V0::V4::N0)::N0))^K0) (.ifs (.cmp .Eq V3 (.str "not")) (.set 5 (.tup (.str "not"::V4::.call 84 (V0::V1::V4::N0)::N0))^K0) (.ifs (.cmp .In V3 (.tup (.str "left"::.str "right"::.str "slide"::N0))) (.set 5 (.call 86 (V0::V1::V3::V4::N0))^K0) (.ifs (.cmp .In V3 (.tup (.str "cut"::.str "wide"::.str "sign"::N0))) (.set 5 (.call 85 (V0::V1::V3::N0))^K0) (.ifs (.cmp .Eq V3 (.str "pick")) (.set 6 (.call 84 (V0::V1::J1::N0))^.set 5 (.bin .Add (.tup (.str "pick"::V4::V6::N0)) (.sl (.call 87 (V0::V1::V3::V4::N0)) (J2::N0) .no))^K0) (.set 5 (.call 87 (V0::V1::V3::V4::N0))^K0)^K0)^K0)^K0)^K0)^K0)^.expr (.app V1 V5)^K0
def aGG:E:=.rng1 (.ix (.fz (.lst (.call 79 (V0::J3::N0)::J7::N0))) (.blt .int (.cmp .Eq (.call 79 (V0::J8::N0)) J1::N0)))
def aGE:Sx:=.expr (.app V6 (.call 79 (V0::.blt .len (V3::N0)::N0)))^K0
def aGF:E:=.rng1 V1
def aGH:Sx:=.ifs (.cmp .Lt (.blt .len (V3::N0)) (.int 37)) (.expr (.call 88 (V0::V3::N0))^K0) .skip^K0
def aCV:Sx:=.set 2 (.call 81 (V0::N0))^.set 3 (.new (.lst (.tup (.str "in"::V2::N0)::N0)))^.ifs (.cmp .Eq (.call 79 (V0::J8::N0)) J1) (.set 3 (.new (.lst (.tup (.str "num"::V2::.call 82 (V0::V2::N0)::N0)::N0)))^K0) .skip^.loop (.one 4) aGF aGH^.set 5 (.fz (.lst (.bin .Sub (.blt .len (V3::N0)) J1::.call 79 (V0::.blt .len (V3::N0)::N0)::N0)))^.set 6 (.new (.lst (.ix V5 (.blt .int (.cmp .Eq (.call 79 (V0::J4::N0)) J1::N0))::N0)))^.loop (.one 4) aGG aGE^.ret (.tup (.blt .tup (V3::N0)::.blt .tup (V6::N0)::N0))^K0
def aGB:E:=.rng1 J2
def aAA:Sx:=.expr (.app V2 (.tup (.str "in"::.bin .Add J1 (.call 79 (V0::V1::N0))::N0)))^.expr (.app V2 (.tup (.ix (.fz (.lst (.str "wide"::.str "sign"::N0))) (.call 79 (V0::J2::N0))::V1::.bin .Sub (.blt .len (V2::N0)) J1::N0)))^.ifs (.cmp .Eq (.call 79 (V0::J3::N0)) J1) (.expr (.app V2 (.tup (.str "slide"::V1::.bin .Sub (.blt .len (V2::N0)) J1::.call 79 (V0::V1::N0)::N0)))^K0) .skip^.expr (.app V3 (.bin .Sub (.blt .len (V2::N0)) J1))^K0
def aOM:Sx:=.set 1 (.bin .Add J2 (.call 79 (V0::.int 63::N0)))^.set 2 (.new (.lst .nil))^.set 3 (.new (.lst .nil))^.loop (.one 4) aGB aAA^.set 5 (.ix (.fz (.lst (.str "same"::.str "less"::.str "under"::N0))) (.call 79 (V0::J3::N0)))^.expr (.app V2 (.tup (V5::J1::.ix V3 J0::.ix V3 J1::N0)))^.expr (.app V2 (.tup (.str "pick"::V1::.bin .Sub (.blt .len (V2::N0)) J1::.ix V3 J1::.ix V3 J0::N0)))^.ret (.tup (.blt .tup (V2::N0)::.tup (.bin .Sub (.bin .Sub (.blt .len (V2::N0)) J1) (.call 79 (V0::J2::N0))::.bin .Sub (.blt .len (V2::N0)) J2::N0)::N0))^K0
def aOF:Sx:=.ifs (.cmp .Eq (.call 79 (V0::J6::N0)) J1) (.ret (.call 90 (V0::N0))^K0) .skip^.ret (.call 89 (V0::.bin .Add J1 (.blt .mn (.blt .len (.ix V0 J0::N0)::.int 24::N0))::N0))^K0
def aGM:E:=.it (.ix V1 J0)
def aGJ:Sx:=.ifs (.cmp .Eq (.ix V3 J0) (.str "in")) (.expr (.app V2 (.call 82 (V0::.ix V3 J1::N0)))^K0) .skip^K0
def aO8:Sx:=.set 2 (.new (.lst .nil))^.loop (.one 3) aGM aGJ^.ret (.blt .tup (V2::N0))^K0
def aG5:E:=.comp V1 (.one 1) (.it (.ix V0 J0)) (.cmp .Eq (.ix V1 J0) (.str "in"))
def aQn:Sx:=.ret (.fz aG5)^K0
def aGL:E:=.comp (.ix (.ix (.ix V0 J0) V1) J1) (.one 1) (.it (.ix V0 J1)) .no
def aOY:Sx:=.ret (.fz aGL)^K0
def aGV:E:=.comp V2 (.one 2) (.it V0) (.or (.not (.isi V2 .int)) (.isi V2 .bool))
def aPd:Sx:=.ifs (.or (.not (.isi V0 .tup)) (.cmp .NotEq V0 V1)) (.ret (.bl Ff)^K0) .skip^.ret (.cmp .Eq (.fz aGV) (.fz (.lst .nil)))^K0
def aDO:E:=.rng1 J6
def aKu:Sx:=.set 6 (.call 92 (V1::V2::N0))^.ifs (.not (.call 95 (.call 78 (V4::V6::N0)::.call 78 (V2::V6::N0)::N0))) (.ret (.bl Ff)^K0) .skip^K0
def aCB:Sx:=.set 1 (.new (.lst (V0::J0::J0::N0)))^.set 2 (.call 91 (V1::N0))^.setT (.many [4,5]) (.call 65 (V2::N0))^.ifs (.or (.cmp .IsNot (.call 69 (V4::N0)) (.bl Tt)) (.or (.cmp .NotEq (.call 93 (V4::N0)) (.call 93 (V2::N0))) (.cmp .NotEq (.call 94 (V4::N0)) (.call 94 (V2::N0))))) (.ret (.bl Ff)^K0) .skip^.loop (.one 3) aDO aKu^.ret (.cmp .Eq (.call 65 (V2::N0)) (.tup (V4::V5::N0)))^K0
end
abbrev Fw(a:Str)(b:Nat)(c:List Str)(d:Sx)(e:Stmt):Fn:=(a,b,c,d,e,Ff,a,)
def fns:Li Fn:=[
 Fw "full" 1 ["width"] aMU (top 1),
 Fw "reach" 1 ["number"] aL7 (top 2),
 Fw "below" 1 ["number"] aLR (top 3),
 Fw "low_run" 1 ["number"] aIB (top 4),
 Fw "top_run" 2 ["number","width"] aIP (top 5),
 Fw "stretched" 3 ["number","width","wider","top"] aDa (top 6),
 Fw "shared_top" 3 ["least","greatest","width","known","ones"] aHl (top 7),
 Fw "operands" 1 ["row"] aQi (top 14),
 Fw "with_operands" 2 ["row","numbers"] aGR (top 15),
 Fw "of_operands" 2 ["row","values","k"] aG6 (top 16),
 Fw "width_of" 2 ["program","k","rows"] aIe (top 17),
 Fw "widths_of" 1 ["program","row"] aHI (top 18),
 Fw "settled_need" 3 ["first","second","mask"] aG1 (top 20),
 Fw "mul_need" 3 ["first","second","mask","h","u","g"] aIn (top 21),
 Fw "folded" 2 ["mask","width"] aDY (top 22),
 Fw "shift_need" 4 ["word","width","k","mask"] aAH (top 23),
 Fw "pick_need" 2 ["choice","mask"] aAL (top 24),
 Fw "asking_need" 4 ["row","widths","facts","mask","word"] aHb (top 25),
 Fw "need" 4 ["row","widths","facts","mask"] aFf (top 26),
 Fw "row_needs" 4 ["program","facts","k","mask","row","widths","needs","operand"] aPA (top 28),
 Fw "asked" 2 ["program","facts","masks","out","k","rows","outs","operand","mask"] aVe (top 29),
 Fw "top_mask" 2 ["count","width"] aIz (top 31),
 Fw "known_bits" 1 ["fact"] aHz (top 32),
 Fw "closed" 2 ["fact","width","top","noughts","ones","alike"] wR (top 33),
 Fw "least" 1 ["fact"] aK3 (top 34),
 Fw "greatest" 2 ["fact","width"] aH9 (top 35),
 Fw "outcome" 3 ["word","one","other"] aSf (top 37),
 Fw "low_masks" 3 ["word","one","other","low","ones"] aHO (top 38),
 Fw "low_noughts" 4 ["word","width","one","other"] aAC (top 39),
 Fw "bounds" 4 ["word","width","one","other","lowest","highest"] aBa (top 40),
 Fw "top_masks" 4 ["word","width","one","other","lowest","highest"] aAJ (top 41),
 Fw "sum_alike" 3 ["word","one","other"] aAP (top 42),
 Fw "sum_fact" 4 ["word","width","one","other","low","top","noughts"] aIq (top 43),
 Fw "num_fact" 2 ["width","number"] aH7 (top 48),
 Fw "unlike_bits" 2 ["one","other"] aHd (top 49),
 Fw "bitwise_fact" 3 ["word","one","other","alike","noughts"] aAB (top 50),
 Fw "left_fact" 3 ["width","fact","k","noughts"] aHB (top 51),
 Fw "right_fact" 3 ["width","fact","k","noughts"] aCZ (top 52),
 Fw "slide_fact" 3 ["width","fact","k","wider"] aHg (top 53),
 Fw "shift_fact" 4 ["word","width","fact","k"] aPg (top 54),
 Fw "fit_fact" 4 ["word","v","w","fact","noughts","ones","alike"] vT (top 55),
 Fw "same_fact" 3 ["width","one","other"] aAR (top 56),
 Fw "less_fact" 3 ["width","one","other"] aAO (top 57),
 Fw "top_turned" 2 ["fact","width","turning","noughts","ones","alike"] aHp (top 58),
 Fw "compare_fact" 4 ["word","width","one","other"] aOV (top 59),
 Fw "pick_fact" 3 ["choice","one","other"] aAQ (top 60),
 Fw "open_fact" 3 ["row","widths","facts","word","width"] aPN (top 61),
 Fw "rule" 3 ["row","widths","facts"] aM0 (top 62),
 Fw "facts_of" 1 ["program","widths","facts","row"] aQT (top 63),
 Fw "lets_by" 4 ["stay","fact","mask","width","above","word","kept"] tF (top 66),
 Fw "least_width" 4 ["word","fact","mask","width","kept"] aOX (top 67),
 Fw "least_stay" 3 ["fact","mask","width","widths","kept","word"] sV (top 68),
 Fw "row_stay" 3 ["row","fact","mask"] aA1 (top 69),
 Fw "least_stays" 3 ["program","facts","masks","row","fact","mask"] aG8 (top 70),
 {name:="make",np:=2,N:=["self","row"],body:=aZ0,st:=aBO (top 72) 1,me:=Tt,qual:="Maker.make" },
 {name:="make_once",np:=2,N:=["self","row"],body:=aPQ,st:=aBO (top 72) 2,me:=Tt,qual:="Maker.make_once" },
 {name:="fetch",np:=3,N:=["self","k","width","stay","word","kept"],body:=aLQ,st:=aBO (top 72) 3,me:=Tt,qual:="Maker.fetch" },
 Fw "make_shift" 3 ["maker","row","width","wider","fetched","made"] aHu (top 73),
 Fw "make_widening" 3 ["maker","row","width","old"] aOP (top 74),
 Fw "compare_width" 4 ["word","one","other","old","greater","signs"] aGS (top 75),
 Fw "make_compare" 2 ["maker","row","old","width","fetched","one","other","k"] aOQ (top 76),
 Fw "make_work" 3 ["maker","row","width","fetched","k"] aQa (top 77),
 Fw "make_pick" 3 ["maker","row","width","choice","sides","k"] aPJ (top 78),
 Fw "make_row" 3 ["maker","row","width","word"] pE (top 79),
 Fw "made_by" 4 ["program","facts","masks","stays","maker","outs","row","stay","place","out"] aI1 (top 80),
 Fw "narrowed" 1 ["program","facts","masks","found"] aIw (top 81),
 Fw "widths_fit" 2 ["row","widths","word","width","each"] aHk (top 89),
 Fw "number_fits" 1 ["row"] aO1 (top 90),
 Fw "look_at_row" 2 ["rows","k","row","widths","operand","ahead"] aO0 (top 91),
 Fw "look" 1 ["program","k","rows","outs","out"] aYO (top 92),
 Fw "lifted" 2 ["number","width"] aJH (top 94),
 Fw "compared" 4 ["word","width","one","other","found"] aQH (top 95),
 Fw "shifted" 4 ["word","width","number","k"] aRG (top 96),
 Fw "combined" 4 ["word","width","one","other"] aQN (top 97),
 Fw "work" 3 ["row","widths","numbers","word","width"] aFq (top 98),
 Fw "turned" 3 ["program","inputs","masks","widths","numbers","taken","row","mask","number"] aS7 (top 100),
 Fw "run" 2 ["program","inputs"] bBb (top 101),
 Fw "of_outs" 2 ["program","numbers","out"] aIF (top 102),
 Fw "told" 2 ["program","inputs"] bAN (top 103),
 Fw "_law_draw" 2 ["_law_state","_law_many","_law_cell","_law_script","_law_k","_law_digit"] sY (top 105),
 Fw "_law_number" 2 ["_law_state","_law_width_here"] aO5 (top 106),
 Fw "_law_width" 1 ["_law_state"] aPp (top 107),
 Fw "_law_num" 2 ["_law_state","_law_width_here","_law_sort","_law_some"] aDm (top 108),
 Fw "_law_fit" 4 ["_law_state","_law_rows","_law_a","_law_width_here","_law_word"] aH5 (top 109),
 Fw "_law_operand" 3 ["_law_state","_law_rows","_law_width_here","_law_some","_law_k"] aCU (top 110),
 Fw "_law_turned_width" 3 ["_law_state","_law_rows","_law_word","_law_a","_law_width_here"] aOE (top 111),
 Fw "_law_shift" 4 ["_law_state","_law_rows","_law_word","_law_width_here","_law_k"] aPf (top 112),
 Fw "_law_pair" 4 ["_law_state","_law_rows","_law_word","_law_width_here","_law_a","_law_b"] aHG (top 113),
 Fw "_law_row" 2 ["_law_state","_law_rows","_law_some","_law_word","_law_width_here","_law_row_here","_law_c"] tD (top 114),
 Fw "_law_program" 2 ["_law_state","_law_most","_law_width_here","_law_rows","_law_k","_law_last","_law_outs"] aCV (top 115),
 Fw "_law_compared" 1 ["_law_state","_law_width_here","_law_rows","_law_some","_law_turn","_law_word"] aOM (top 116),
 Fw "_law_some_program" 1 ["_law_state"] aOF (top 117),
 Fw "_law_inputs" 2 ["_law_state","_law_program_here","_law_found","_law_row_here"] aO8 (top 118),
 Fw "_law_ins" 1 ["_law_program_here","_law_row_here"] aQn (top 119),
 Fw "_law_widths" 1 ["_law_program_here","_law_k"] aOY (top 120),
 Fw "_law_alike" 2 ["_law_found","_law_due","_law_one"] aPd (top 121),
 Fw "law" 1 ["_law_script","_law_state","_law_program_here","_law_turn","_law_made","_law_some","_law_inputs_here"] aCB (top 122)]
variable {C:Calls}
def aP{cM:Sx}(h:tv C c env S=qz (Ff,S1))(k:xs C cM env S1=r):xs C (.seq (.ifs c t .skip) cM) env S=r:=by rw[<- k];simp only[rE,tO,aJM,kM,oR,uG,h,oB,yAv,if_false]
def bS{cM:Sx}(h:tv C c env S=qz (Tt,S1))(k:xs C t env S1=qz (.rt w,S2)):xs C (.seq (.ifs c t e) cM) env S=qz (.rt w,S2):=by simp only[rE,tO,kM,oR,h,oB,if_true,k]
def aT{cM:Sx}(h:ev C e env S=qz (w,S1)):xs C (.seq (.ret e) cM) env S=qz (.rt w,S1):=by simp only[rE,aEm,kM,qC,h,oB]
def bK{i:Nat}{e:E}{cM:Sx}{env aY:bG}{S S1:aE}{w:W}{r:Oz (Fl×aE)}(h:ev C e env S=qz (w,S1))(he:env.set i (qz w)=aY)(k:xs C cM aY S1=r):xs C (.seq (.set i e) cM) env S=r:=by subst he;rw[<- k];simp only[rE,aEO,kM,lM,h,oB]
def dB(h:fs[f]?=qz F)(d:Nat){ws:Li W}{S S1:aE}(hw:↑ws=F.np)(he:ws.map qz++yAg (↑F.N-↑ws) qj=env)(hS:S1.take ↑S=S1)(k:xs (aF fs d) F.body env S=qz (.rt (.d x),S1)):cl fs (d+1) f ws S=qz (.d x,S1):=by subst he;rw[bX h d ws S hw];simp only[gH,k,oB,rT,hS]
def dS{C:Calls}(h:env[i]?=qz (qz (.d a)))(hc:bE .Eq a (.str x)=qz (.bool b)):tv C (.cmp .Eq (.var i) (.str x)) env S=qz (b,S):=by erw[0,h,hc]
def lE(h:env[i]?=qz (qz (.d a)))(he:ev C e env S=qz (.d t,S))(hc:bE .In a t=qz (.bool b)):tv C (.cmp .In (.var i) e) env S=qz (b,S):=by erw[0,h,he,hc]
def aL3(h:xs C a env S=qz (.nx e1,S1)):xs C (.seq a r) env S=xs C r e1 S1:=by simp only[rE,kM,h,oB]
def aAg{i j:Int}(h:i<j):bE .Lt (.int i) (.int j)=qz (.bool Tt):=by rw[lD,dqT h]
def zM{i j:Int}(h:¬ i<j):bE .Lt (.int i) (.int j)=qz (.bool Ff):=by rw[lD,dqF h]
def aFN{i j:Int}(h:j<i):bE .Gt (.int i) (.int j)=qz (.bool Tt):=by rw[nN,dqT h]
def aFR{i j:Int}(h:¬ j<i):bE .Gt (.int i) (.int j)=qz (.bool Ff):=by rw[nN,dqF h]
def aCk{i j:Int}(h:i=j):bE .Eq (.int i) (.int j)=qz (.bool Tt):=by rw[cT,beq_iff_eq.mpr h]
def aCt{i j:Int}(h:i≠j):bE .Eq (.int i) (.int j)=qz (.bool Ff):=by rw[cT,beq_eq_false_iff_ne.mpr h]
def i01(b:Bool):∃ q:Nat,q<2/\B.int.g [.bool b]=qz (.int q):=by
 cases b
 .exact(0,by decide,rfl,)
 .exact(1,by decide,rfl,)
def qF(a b:Nat):cD .Add (.int a) (.int b)=qz (.int (a+b:_)):=by rw[iL,Int.natCast_add]
def aCl{a b:Nat}(h:b<=a):cD .Sub (.int a) (.int b)=qz (.int (a-b:_)):=by rw[dR,Int.natCast_sub h]
def cB(h:env[i]?=qz (#[j]))(k:ev C e env S=qz (.d x,S1)):av C (.cons (.var i) (.cons e .nil)) env S=qz ([.loc j,.d x],S1):=aD (aC h) (aD k aO)
def aZv{env:bG}{S S1:aE}{e:E}{ds:Li D}(h:ev C e env S=qz (.d (Lz ds),S1)):lv C (.it e) env S=qz (ds,S1):=by show gY (ev C e) env S=_;unfold gY;rw[h];rfl
def aZd{env:bG}{S S1:aE}{e:E}{ds:Li D}(h:ev C e env S=qz (.d (Tz ds),S1)):lv C (.it e) env S=qz (ds,S1):=by show gY (ev C e) env S=_;unfold gY;rw[h];rfl
def bH:Sx->Sx
 |.seq _ b=>b|x=>x
def mB:Sx->Sx
 |.seq a _=>a|x=>x
def reS:Sx->E
 |.ret e=>e|_=>.no
def jB(h:tv C c env S=qz (Tt,S1))(k:xs C a env S1=r):xs C (.ifs c a b) env S=r:=by rw[<- k];simp only[tO,oR,h,oB,if_true]
def jA(h:tv C c env S=qz (Ff,S1))(k:xs C b env S1=r):xs C (.ifs c a b) env S=r:=by rw[<- k];simp only[tO,oR,h,oB,yAv,if_false]
def cK(h:xs C a env S=qz (.nx e1,S1))(k:xs C b e1 S1=r):xs C (.seq a b) env S=r:=by rw[aL3 h];exact k
def fK(h:xs C a env S=qz (.nx e1,S1)):xs C (.seq a .skip) env S=qz (.nx e1,S1):=cK h rfl
def hV(h:ev C e env S=qz (w,S1)):xs C (.seq (.set i e) .skip) env S=qz (.nx (env.set i (qz w)),S1):=bK h rfl rfl
def bV(ns:Li Int)(k:Nat)(x:Int):Li D:=[.list (ns.map Iz),.int k,.int x]
def aUV{α:Type}{S:List α}{a v:α}(h:S[n]?=qz a):(S.set n v)[n]?=qz v:=yAw (gIm h).1
def aQI{α:Type}(S:List α)(n:Nat)(v:α):(S.set n v).take ↑S=S.set n v:=by rw[yCi];rw[yBb];simp_all
def tM{ns:Li Int}(h:k<↑ns):aU (.list (ns.map Iz)) (.int k)=qz (.int ns[k]):=nO (by rw[yAe,yAb h];rfl)
def cs1(h:b<a):(a:_)-1-(b:Int)=(a-1-b:_):=()
def aTh(i:Int){w:Nat}(hw:0<w):∃ r:Nat,i%(w:Int)=(r:Int)/\r<w:=by have h0:=Int.emod_nonneg i (show(w:Int)≠0 by omega);have h1:=yHi i (show(0:Int)<(w:Int) by omega);exact((i%(w:Int)).toNat,(),(),)
def aRW(ns:Li Int):↑(ns.map Iz)=↑ns:=yAd ..
def aAX(i:Int){p:Int}(hp:0<p)(hp2:p<=2147483647):∃ y:Int,(-(2^64)<y/\y<2^64)/\cD .Mod (.int i) (.int p)=qz (.int y):=by have h0:=Int.emod_nonneg i (show p≠0 by omega);have h1:=yHi i hp;exact(i%p,((),(),),wW hp,)
def aBI(i:Int)(hm:0<m):∃ r:Nat,r<m/\cD .Mod (.int i) (.int m)=qz (.int r):=by let(r,er,hr):=aTh i hm;exact(r,hr,by rw[wW (),er],)
def xO(ns:Li Int):B.len.g [.list (ns.map Iz)]=qz (.int ↑ns):=by show qz (Iz (↑(ns.map Iz):Nat))=_;rw[aRW]
def aLF{S:aE}{n:Nat}{l:Li D}{i j:Nat}{x:D}(h:S[n]?=qz (qz l))(hj:mC ↑l i=qz j):nY S (.loc n) (.d (Iz i)) (.d x)=qz (S.set n (qz (l.set j x))):=by simp only[nY,h,hj,oB]
noncomputable abbrev eW(n m k:Nat)(ns:List Int)(a b:Option W):bG:=[#[n],(m:),a,qz (.d (Lz (ns.map Iz))),(k:),b]
def aJp{C:Calls}(c:Int)(hm:0<m)(hk:k<=100000):∃ r:Nat,r<m/\xs C (bH (bH (bH (bH (bH (bH sY)))))) (eW n m k ns ((c:)) qj) S=qz (.rt (.d (Iz r)),S):=by let(y1,b1,e1):=aAX c (p:=2147483629) (·) (·);let(y2,b2,e2):=aAX (y1*((k:Int)+3)) (p:=2147483629) (·) (·);let(y3,b3,e3):=aAX (y2*y2) (p:=2147483587) (·) (·);let(y4,_,e4):=aAX (y3*y3) (p:=1999999973) (·) (·);let(r,hr,e5):=aBI y4 hm;exact(r,hr,bK (bP (bP (bP (aC rfl) aJ e1) (bP (aC rfl) aJ rfl) (vY b1.1 b1.2)) aJ e2) rfl (bK (bP (bP (aC rfl) (aC rfl) (vY b2.1 b2.2)) aJ e3) rfl (aT (bP (bP (bP (aC rfl) (aC rfl) (vY b3.1 b3.2)) aJ e4) (aC rfl) e5))),)
def aQ0{x:Int}(hS:S[n]?=qz (qz (bV ns (k+1) x)))(hm:0<m)(hk:k<=100000):∃ r:Nat,r<m/\xs C (bH (bH (bH sY))) (eW n m k ns qj qj) S=qz (.rt (.d (Iz r)),S):=by
 by_cases c1:k<↑ns
 .let(r,hr,er):=aBI ns[k] hm;exact(r,hr,bS (aZ (aC rfl) (cQ (aD (aC rfl) aO) (cN dJ cU) (xO ns)) (aAg ())) (aT (bP (bM (aC rfl) (aC rfl) rfl (tM c1)) (aC rfl) er)),)
 have p1:=λ {R} (e:xs C (bH (bH (bH (bH (bH sY))))) (eW n m k ns ((((k:Int)*7919+5):)) qj) S=R)=>(aP (aZ (aC rfl) (cQ (aD (aC rfl) aO) (cN dJ cU) (xO ns)) (zM ())) (bK (bP (bP (aC rfl) aJ (aDV (·) (·))) aJ rfl) rfl e):xs C (bH (bH (bH sY))) (eW n m k ns qj qj) S=R)
 have l0:ev C (.blt .len (.cons (.ix (.var 0) (.int 0)) .nil)) (eW n m k ns ((((k:Int)*7919+5):)) qj) S=qz (.d (Iz ↑ns),S):=cQ (aD (bM (aC rfl) aJ (fD hS) rfl) aO) (cN dJ cU) (xO ns);by_cases c2:0<↑ns
 .let(q,hq,eq):=aBI ((k:Int)*7) c2;let(r,hr,er):=@aJp _ _ n ns S C ((k:Int)*7919+5+ns[q]*(48271+(k:Int))) hm hk;exact(r,hr,p1 (cK (jB (aZ l0 aJ (aFN ())) (hV (bP (aC rfl) (bP (bM (bM (aC rfl) aJ (fD hS) rfl) (bP (bP (aC rfl) aJ (aDV (·) (·))) l0 eq) rfl (tM hq)) (bP aJ (aC rfl) rfl) (aDV () ())) rfl))) er),)
 .let(r,hr,er):=@aJp _ _ n ns S C ((k:Int)*7919+5) hm hk;exact(r,hr,p1 (cK (jA (aZ l0 aJ (aFR ())) rfl) er),)
noncomputable abbrev aMG:E:=.and (.cmp .Lt (.bin .Add (.bin .FloorDiv (.var 4) (.int 12)) (.int 1)) (.blt .len (.cons (.var 3) .nil))) (.cmp .Eq (.bin .Mod (.ix (.var 3) (.int 0)) (.int 2)) (.int 1))
def aKH(d n k m:Nat)(ns:Li Int)(x:Int)(S:aE)(hS:S[n]?=qz (qz (bV ns k x)))(hm:0<m)(hm2:m<2^64)(hk:k<=100000) :
 ∃ (r:Nat) (x':Int),r<m/\cl fns (d+1) 79 [.loc n,.d (Iz m)] S=qz (.d (Iz r),S.set n (qz (bV ns (k+1) x'))):=by
 have gs:=λ v=>aUV (v:=v) hS
 have pz:∀ y z:Int,nY (S.set n (qz (bV ns (k+1) y))) (.loc n) (.d (Iz 2)) (.d (Iz z))=qz (S.set n (qz (bV ns (k+1) z))):=λ y z=>by
  have:=@aLF _ _ _ 2 2 (.int z) (gs (qz (bV ns (k+1) y))) rfl;rw[List.set_set] at this;exact this
 have dv:cD .FloorDiv (.int k) (.int 12)=qz (.int (k/12:_)):=aD2 (·) (·);have cS:∀ {r:Nat}{x':Int},r<m->xs (aF fns d) (bH (bH sY)) (eW n m k ns qj qj) (S.set n (qz (bV ns (k+1) x)))=qz (.rt (.d (Iz r)),S.set n (qz (bV ns (k+1) x')))->∃ (r:Nat) (x':Int),r<m/\cl fns (d+1) 79 [.loc n,.d (Iz m)] S=qz (.d (Iz r),S.set n (qz (bV ns (k+1) x'))):=λ {r x'} hr e=>(r,x',hr,cH rfl rfl rfl (cK (rF (aCb (aC rfl) aCc (aBF aJ) (fD hS) rfl) rfl) (cK (tZ (bP (aC rfl) aJ rfl) (aC rfl) aJ (aLF (i:=1) hS rfl)) e)) (aQI S n _),)
 have tail:tv (aF fns d) aMG (eW n m k ns qj qj) (S.set n (qz (bV ns (k+1) x)))=qz (Ff,S.set n (qz (bV ns (k+1) x)))->∃ (r:Nat) (x':Int),r<m/\cl fns (d+1) 79 [.loc n,.d (Iz m)] S=qz (.d (Iz r),S.set n (qz (bV ns (k+1) x'))):=λ h=>by
  let(r,hr,e):=aQ0 (C:=aF fns d) (gs (qz (bV ns (k+1) x))) hm hk;exact cS hr (aP h e)
 by_cases c1:k/12+1<↑ns
 .have t2:tv (aF fns d) aMG (eW n m k ns qj qj) (S.set n (qz (bV ns (k+1) x)))=qz (ns[0]%2==1,S.set n (qz (bV ns (k+1) x))):=nK (p:=Tt) (aZ (bP (bP (aC rfl) aJ dv) aJ rfl) (cQ (aD (aC rfl) aO) (cN dJ cU) (xO ns)) (aAg ())) (aZ (bP (bM (aC rfl) aJ rfl (tM (k:=0) ())) aJ (wW (·))) aJ rfl);rcases yFs (ns[0]%2==1) with c2|c2
  .rw[c2] at t2;obtain⟨z,e3⟩:∃ z:Int,xs (aF fns d) (.ifs (.cmp .Eq (.bin .Mod (.var 4) (.int 12)) (.int 0)) (.seq (.put (.var 0) (.int 2) (.ix (.var 3) (.bin .Add (.bin .FloorDiv (.var 4) (.int 12)) (.int 1)))) .skip) .skip) (eW n m k ns qj qj) (S.set n (qz (bV ns (k+1) x)))=qz (.nx (eW n m k ns qj qj),S.set n (qz (bV ns (k+1) z))):=by
    rcases yFs ((k:Int)%12==0) with c3|c3
    .exact(ns[k/12+1],jB (aZ (bP (aC rfl) aJ (wW (·))) aJ (by rw[cT,c3])) (fK (tZ (bM (aC rfl) (bP (bP (aC rfl) aJ dv) aJ rfl) rfl (tM c1)) (aC rfl) aJ (pz _ _))),)
    .exact(x,jA (aZ (bP (aC rfl) aJ (wW (·))) aJ (by rw[cT,c3])) rfl,)
   let(r,hr,er):=aBI z hm;exact cS (x':=z/(m:Int)) hr (bS t2 (cK e3 (bK (bP (bM (aC rfl) aJ (fD (gs _)) rfl) (aC rfl) er) rfl (cK (tZ (bP (bM (aC rfl) aJ (fD (gs _)) rfl) (aC rfl) (aD2 () ())) (aC rfl) aJ (pz _ _)) (aT (aC rfl))))))
  .rw[c2] at t2;exact tail t2
 .exact tail (nK (p:=Ff) (aZ (bP (bP (aC rfl) aJ dv) aJ rfl) (cQ (aD (aC rfl) aO) (cN dJ cU) (xO ns)) (zM ())) rfl)
inductive Wd where
 | «in» |num|not|and|or|xor|add|sub|mul|left|right|slide|cut|wide|sign|same|less|under|pick
 deriving DecidableEq
def Wd.s:Wd->Str
 |.in => "in" |.num => "num" |.not => "not" |.and => "and" |.or => "or" |.xor => "xor" |.add => "add" |.sub => "sub" |.mul => "mul" |.left => "left" |.right => "right" |.slide => "slide"
 |.cut => "cut" |.wide => "wide" |.sign => "sign" |.same => "same" |.less => "less" |.under => "under" |.pick => "pick"
structure Rw where
 wd:Wd
 w:Nat
 args:List Nat
def nD(n:Nat):D:=.int n
def Rw.d(r:Rw):D:=.tuple (.str r.wd.s::nD r.w::r.args.map nD)
def fV(ws:Li Nat)(r:Rw):Prop:=1<=r.w/\r.w<=64/\match r.wd,r.args with
 |.in,[]=>True|.num,[n]=>n<2^r.w|.not,[a]=>ws[a]?=qz r.w
 |.and,[a,b]|.or,[a,b]|.xor,[a,b]|.add,[a,b]|.sub,[a,b]|.mul,[a,b]=>ws[a]?=qz r.w/\ws[b]?=qz r.w
 |.left,[a,k]|.right,[a,k]|.slide,[a,k]=>ws[a]?=qz r.w/\k<64
 |.cut,[a]=>∃ v,ws[a]?=qz v/\r.w<=v
 |.wide,[a]|.sign,[a]=>∃ v,ws[a]?=qz v/\v<=r.w
 |.same,[a,b]|.less,[a,b]|.under,[a,b]=>r.w=1/\∃ v,ws[a]?=qz v/\ws[b]?=qz v
 |.pick,[c,a,b]=>ws[c]?=qz 1/\ws[a]?=qz r.w/\ws[b]?=qz r.w|_,_=>False
def dN:Li Nat->Li Rw->Prop
 |_,[]=>True|ws,r::rs=>fV ws r/\dN (ws++[r.w]) rs
def sX:∀ {rs:Li Rw}{ws:Li Nat}{r:Rw},dN ws rs->fV (ws++rs.map (·.w)) r->dN ws (rs++[r])
 |[],ws,r,_,h=>(by simpa using h,True.intro,)|q::rs,ws,r,⟨h1,h2⟩,h=>(h1,sX h2 (by simpa using h),)
def cL(S:aE)(n p:Nat)(ns:Li Int)(k:Nat)(x:Int)(rs:Li Rw):aE:=(S.set n (qz (bV ns k x))).set p (qz (rs.map Rw.d))
local macro_rules(kind:=«term_<*_»)|s=>return mqT "PyData.tuple" [mqT "List.cons" [mqT "PyData.tuple" [mqT "List.map" [mqI "Rw.d",s[0]]],mqT "List.cons" [s[2],mqI "List.nil"]]]
local macro_rules(kind:=«term~~~_»)|s=>let a:Lean.Term:=⟨s[1]⟩;`(List.map (·.w) $a)
local macro_rules(kind:=«term_*>_»)|s=>return mqT "PyData.tuple" [mqT "List.map" [s[2],s[0]]]
structure At0(S:aE)(n p:Nat):Prop where
 hn:n<↑S
 ne:n≠p
structure At(S:aE)(n p:Nat):Prop extends At0 S n p where
 hp:p<↑S
def At0.state{x:Int}(h:At0 S n p):(cL S n p ns k x rs)[n]?=qz (qz (bV ns k x)):=by unfold cL;rw[yAz h.ne.symm,yAw h.hn]
def At.rows{x:Int}(h:At S n p):(cL S n p ns k x rs)[p]?=qz (qz (rs.map Rw.d)):=by unfold cL;rw[yAw (by rw[yBb];exact h.hp)]
def At.rowsT{x:Int}(h:At S n p)(T:aE):(cL S n p ns k x rs++T)[p]?=qz (qz (rs.map Rw.d)):=by rw[xAm (by simp[cL];exact h.hp)];exact h.rows
def At0.len{x:Int}(h:At0 S n p):↑(cL S n p ns k x rs)=↑S:=by simp[cL]
def At0.take{x:Int}(h:At0 S n p)(k':Nat)(x':Int)(bA:Li Rw):(cL S n p ns k' x' bA).take ↑(cL S n p ns k x rs)=cL S n p ns k' x' bA:=by rw[h.len,yCi];rw[h.len];simp_all
def At0.put{x:Int}(h:At0 S n p)(k':Nat)(x':Int):(cL S n p ns k x rs).set n (qz (bV ns k' x'))=cL S n p ns k' x' rs:=by unfold cL;rw[List.set_comm _ _ h.ne.symm,List.set_set]
def At.putR{x:Int}(h:At S n p)(r:Rw):(cL S n p ns k x rs).set p (qz (rs.map Rw.d++[r.d]))=cL S n p ns k x (rs++[r]):=by unfold cL;rw[List.set_set,yAy];rfl
def kW{x:Int}(h:At0 S n p)(d m:Nat)(hm:0<m)(hm2:m<2^64)(hk:k<=100000):∃ (r:Nat) (x':Int),r<m/\cl fns (d+1) 79 [.loc n,.d (Iz m)] (cL S n p ns k x rs)=qz (.d (Iz r),cL S n p ns (k+1) x' rs):=by let(r,x',hr,e):=aKH d n k m ns x _ h.state hm hm2 hk;exact(r,x',hr,by rw[e,h.put],)
def aA6{x:Int}(h:At0 S n p)(d m:Nat){i:Int}(hi:i=(m:Nat))(hm:0<m)(hm2:m<2^64)(hk:k<=100000):∃ (r:Nat) (x':Int),r<m/\cl fns (d+1) 79 [.loc n,.d (Iz i)] (cL S n p ns k x rs)=qz (.d (Iz r),cL S n p ns (k+1) x' rs):=by subst hi;exact kW h d m hm hm2 hk
def aIE(h:w<64):2^w<2^64:=yFf (·) h
def aQv{x:Int}(h:At0 S n p)(d w:Nat)(hw:w<=64)(hk:k<=99000):∃ (r k':Nat) (x':Int),r<2^w/\k'<=k+2/\cl fns (d+2) 80 [.loc n,.d (Iz w)] (cL S n p ns k x rs)=qz (.d (Iz r),cL S n p ns k' x' rs):=by
 by_cases c:w<31
 .let(r,x',hr,e):=@kW _ _ _ k ns rs x h d (2^w) (wK w) (aIE ()) ();exact(r,k+1,x',hr,(),cH rfl rfl rfl (bS (aZ (aC rfl) aJ (aAg ())) (aT (aV (cB rfl (bP aJ (aC rfl) (kU ()))) e))) (h.take _ _ _),)
 .let(r,x',hr,e):=@kW _ _ _ k ns rs x h d (2^30) (·) (·) ();let(q,x2,hq,e'):=@kW _ _ _ (k+1) ns rs x' h d (2^(w-30)) (wK _) (aIE ()) ();have hb:r+q*2^30<2^w:=by
   have e3:(2:Nat)^w=2^(w-30)*2^30:=by rw[<- yEn,show w-30+30=w by omega]
   grind
  exact(r+q*2^30,k+2,x2,hb,yAc _,cH rfl rfl rfl (aP (aZ (aC rfl) aJ (zM ())) (aT (bP (aV (cB rfl (bP aJ aJ (@kU 30 (·)))) e) (bP (aV (cB rfl (bP aJ (bP (aC rfl) aJ (@aCl _ 30 ())) (kU ()))) e') aJ (@tJ _ (w-30) 30 hq ())) (qF _ _)))) (h.take _ _ _),)
def at4(a b c e:D){r:Nat}(h1:r<4):∃ x,(x=a\/x=b\/x=c\/x=e)/\aU (.list [a,b,c,e]) (.int r)=qz x:=by
 have:r=0\/r=1\/r=2\/r=3:=();rcases this with rfl|rfl|rfl|rfl
 .exact(a,.inl rfl,rfl,)
 .exact(b,.inr (.inl rfl),rfl,)
 .exact(c,.inr (.inr (.inl rfl)),rfl,)
 .exact(e,.inr (.inr (.inr rfl)),rfl,)
def aJs{x:Int}(h:At0 S n p)(d:Nat)(hk:k<=99000):∃ (w:Nat) (x':Int),1<=w/\w<=64/\cl fns (d+2) 81 [.loc n] (cL S n p ns k x rs)=qz (.d (Iz w),cL S n p ns (k+3) x' rs):=by
 let(r1,x1,h1,e1):=aA6 (ns:=ns) (k:=k) (x:=x) (rs:=rs) h d 8 (i:=8) rfl (·) (·) ();let(r2,x2,h2,e2):=aA6 (ns:=ns) (k:=k+1) (x:=x1) (rs:=rs) h d 64 (i:=64) rfl (·) (·) ();let(r3,x3,h3,e3):=aA6 (ns:=ns) (k:=k+2) (x:=x2) (rs:=rs) h d 4 (i:=4) rfl (·) (·) ();let(y,hy,e):=at4 (.int 1) (.int 64) (.int (1+r1:_)) (.int (1+r2:_)) h3;obtain⟨w,cC,cR,rfl⟩:∃ w:Nat,1<=w/\w<=64/\y=.int w:=by
  rcases hy with rfl|rfl|rfl|rfl
  .exact(1,by decide,by decide,rfl,)
  .exact(64,by decide,by decide,rfl,)
  .exact(_,(),(),rfl,)
  .exact(_,(),(),rfl,)
 exact(w,x3,cC,cR,cH rfl rfl rfl (aT (bM (fA (fU (aD aJ (aD aJ (aD (bP aJ (aV (cB rfl aJ) e1) (qF 1 r1)) (aD (bP aJ (aV (cB rfl aJ) e2) (qF 1 r2)) aO)))) rfl (yAa rfl))) (aV (cB rfl aJ) e3) rfl e)) (h.take _ _ _),)
def aKM{t:Tg}{fb:FS}(P:Nat->bG->aE->Prop):∀ (ds:Li D) (i:Nat) (env:bG) (S:aE),P i env S->(∀ j d env S,i<=j->j<i+↑ds->P j env S->∃ e1 aY S',t.put d env=qz e1/\fb e1 S=qz (.nx aY,S')/\P (j+1) aY S') ->
 ∃ aY S',oJ t fb ds env S=qz (.nx aY,S')/\P (i+↑ds) aY S'
 |[],i,env,S,h0,_=>(env,S,rfl,h0,)
 |d::ds,i,env,S,h0,h=>by
   let(e1,aY,S',h1,h2,h3):=h i d env S (yAc _) (by simp) h0;let(env2,S2,h4,h5):=aKM P ds (i+1) aY S' h3 λ j d' env S a b=>h j d' env S () (by simp at b ⊢;omega)
   refine(env2,S2,by simp only[oJ,h1,oB,h2];exact h4,?_,);have:i+↑(d::ds)=i+1+↑ds:=by simp;omega
   rw[this];exact h5
def aBw{t:Tg}{fi:FL}{fb:FS}(P:Nat->bG->aE->Prop)(hi:fi env S=qz (ds,S1))(h0:P 0 env S1)(h:∀ j d env S,j<↑ds->P j env S->∃ e1 aY S',t.put d env=qz e1/\fb e1 S=qz (.nx aY,S')/\P (j+1) aY S') :
 ∃ aY S',pZ t fi fb env S=qz (.nx aY,S')/\P ↑ds aY S':=by
 let(aY,S',h1,h2):=@aKM t fb P ds 0 env S1 h0 λ j d env S _ b=>h j d env S ()
 exact(aY,S',by unfold pZ;rw[hi,oB];exact h1,by simpa using h2,)
def at2(a b:D){r:Nat}(h1:r<2):∃ x,(x=a\/x=b)/\aU (.list [a,b]) (.int r)=qz x:=by
 have:r=0\/r=1:=();rcases this with rfl|rfl
 .exact(a,.inl rfl,rfl,)
 .exact(b,.inr rfl,rfl,)
def at1:At0 [qj] 0 1:=(by decide,by decide,)
noncomputable abbrev s0(ns:List Int)(k:Nat)(x:Int):aE:=[qz (bV ns k x)]
def aI8(a:Nat):cD .BitAnd (.int a) (.int 1)=qz (.int (a&&&1:_)):=eE a 1
def fH(n:Nat):((n:_)==0)=(n==0):=by rw[yCe,beq_iff_eq,beq_iff_eq];omega
def aEZ{x:Int}(h:At0 S n p)(d w:Nat)(hw:1<=w)(cR:w<=64)(hk:k<=98000):∃ (r k':Nat) (x':Int),r<2^w/\k'<=k+5/\cl fns (d+3) 82 [.loc n,.d (Iz w)] (cL S n p ns k x rs)=qz (.d (Iz r),cL S n p ns k' x' rs):=by
 have hw3:w<2^64:=();have hp:=wK w;let(r1,x1,h1,e1):=aA6 (ns:=ns) (k:=k) (x:=x) (rs:=rs) h (d+1) 5 (i:=5) rfl (·) (·) ();let(r2,x2,h2,e2):=@kW _ _ _ (k+1) ns rs x1 h (d+1) w () hw3 ();let(r3,x3,h3,e3):=@kW _ _ _ (k+2) ns rs x2 h (d+1) w () hw3 ();have st:=λ {R} (z:xs (d<$>2) (bH (bH aDm)) [#[n],(w:),(r1:),qz (.d (Lz [Iz 0,Iz (2^w-1:_),Iz (2^r2:_),Iz (2^r3-1:_)]))] (cL S n p ns (k+3) x3 rs)=R)=>(bK (aV (cB rfl aJ) e1) rfl (bK (fA (fU (aD aJ (aD (bP (bP aJ (aC rfl) (kU ())) aJ (by rw[dR,aDg])) (aD (bP aJ (aV (cB rfl (aC rfl)) e2) (kU ())) (aD (bP (bP aJ (aV (cB rfl (aC rfl)) e3) (kU ())) aJ (by rw[dR,aDg])) aO)))) rfl (yAa rfl))) rfl z):xs (d<$>2) aDm [#[n],(w:),qj,qj] (cL S n p ns k x rs)=R)
 by_cases c:r1<4
 .let(y,hy,e):=at4 (.int 0) (.int (2^w-1:_)) (.int (2^r2:_)) (.int (2^r3-1:_)) c;obtain⟨q,hq,rfl⟩:∃ q:Nat,q<2^w/\y=.int q:=by
   have l2:2^r2<2^w:=yFf (·) h2;have l3:2^r3<2^w:=yFf (·) h3;rcases hy with rfl|rfl|rfl|rfl
   .exact(0,hp,rfl,)
   .exact(_,(),rfl,)
   .exact(_,l2,rfl,)
   .exact(_,(),rfl,)
  exact(q,k+3,x3,hq,(),cH rfl rfl rfl (st (bS (aZ (aC rfl) aJ (aAg ())) (aT (bM (aC rfl) (aC rfl) rfl e)))) (h.take _ _ _),)
 .let(r,k',x',hr,hk',e):=@aQv _ _ _ (k+3) ns rs x3 h d w cR ();exact(r,k',x',hr,(),cH rfl rfl rfl (st (aP (aZ (aC rfl) aJ (zM ())) (aT (aV (cB rfl (aC rfl)) e)))) (h.take _ _ _),)
def aLb:∀ L:Li Nat,yFc (L.map nD)=Tt
 |[]=>rfl
 |a::r=>by
   have ih:=aLb r;simp only[yAk,yFc,ih,yCo];rfl
def aJv:∀ L:Li Nat,yEz (L.map nD)=0
 |[]=>rfl
 |a::r=>by
   have ih:=aJv r;simp only[yAk,yEz,ih];rfl
def aX7(L:Li Nat):bE .NotEq (.list (L.map nD)) (.list [])=qz (.bool (!L.isEmpty)):=by
 have h1:(Lz (L.map nD)).canLay0=Tt:=aLb L;have h2:(Lz (L.map nD)).depth<=60:=by
  show yEz (L.map nD)+1<=60;rw[aJv];decide
 unfold bE rX;simp only[];rw[if_pos (h1,rfl,h2,)];cases L<;>rfl
def jR(r:Rw):aU r.d (Iz 1)=qz (.int r.w):=@iK (.str r.wd.s::nD r.w::r.args.map nD) 1 _ rfl
def wdE(a b:Wd):Bool:=match bE .Eq (.str a.s) (.str b.s) with|some (.bool c)=>c==decide (a=b)|_=>Ff
def aXr(a b:Wd):wdE a b=Tt:=by
 have h:∀ i:Fin 19,∀ j:Fin 19,wdE (Wd.ofNat i) (Wd.ofNat j)=Tt:=by decide +kernel
 have e:∀ a:Wd,∃ i:Fin 19,Wd.ofNat i=a:=λ a=>((a.ctorIdx,by cases a<;>decide,),Wd.ofNat_ctorIdx a,)
 let(i,rfl):=e a;let(j,rfl):=e b;exact h i j
def bY(a b:Wd):bE .Eq (.str a.s) (.str b.s)=qz (.bool (decide (a=b))):=by
 have h:=aXr a b;unfold wdE at h;split at h
 .rename_i c e;rw[e,eq_of_beq h]
 .cases h
def aA2(a:Wd):bE .In (.str a.s) (.tuple [.str "left",.str "right",.str "slide"])=qz (.bool (decide (a=.left\/a=.right\/a=.slide))):=by cases a<;>rfl
def aVp(a:Wd):bE .In (.str a.s) (.tuple [.str "cut",.str "wide",.str "sign"])=qz (.bool (decide (a=.cut\/a=.wide\/a=.sign))):=by cases a<;>rfl
def aEe(a:Wd):bE .In (.str a.s) (.tuple [.str "same",.str "less",.str "under"])=qz (.bool (decide (a=.same\/a=.less\/a=.under))):=by cases a<;>rfl
def sb1(rs:Li Rw)(r:Rw):cD .Sub (.int (↑(rs++[r]):Nat)) (.int 1)=qz (.int ↑rs):=by rw[dR,xAn,Int.natCast_add];simp_all
def aRC(rs:Li Rw):↑(rs.map Rw.d)=↑rs:=yAd ..
def aWG{rs:Li Rw}{a:Nat}{r:Rw}(h:rs[a]?=qz r):aU (.list (rs.map Rw.d)) (.int a)=qz r.d:=nO (by rw[yAe,h];rfl)
def zH{rs:Li Rw}{a:Nat}{r:Rw}(h:rs[a]?=qz r):(~~~rs)[a]?=qz r.w:=by rw[yAe,h];rfl
def bBc{rs t:Li Rw}{a w:Nat}(h:(~~~rs)[a]?=qz w):((rs++t).map (·.w))[a]?=qz w:=by rw[yAy,xAm (gIm h).1];exact h
def aMg{q:Nat}(hq:q<2):∃ wd:Wd,(wd=.wide\/wd=.sign)/\aU (.list [.str "wide",.str "sign"]) (.int q)=qz (.str wd.s):=by
 rcases (show q=0\/q=1 by omega) with rfl|rfl
 .exact(.wide,.inl rfl,rfl,)
 .exact(.sign,.inr rfl,rfl,)
def gQ{rs:Li Rw}(hi:env[i]?=qz (#[p]))(h:S[p]?=qz (qz (rs.map Rw.d))):ev C (.blt .len (.cons (.var i) .nil)) env S=qz (.d (Iz ↑rs),S):=cQ (aD (aC hi) aO) (cN (fD h) cU) (by
 show qz (Iz (↑(rs.map Rw.d):Nat))=_;rw[yAd])
def qE{env:bG}{S S1:aE}{i p a:Nat}{rs:Li Rw}{r:Rw}{e:E}(hi:env[i]?=qz (#[p]))(hj:ev C e env S=qz (.d (Iz a),S1))(h:S1[p]?=qz (qz (rs.map Rw.d)))(hr:rs[a]?=qz r):ev C (.ix (.ix (.var i) e) (.int 1)) env S=qz (.d (Iz r.w),S1):=bM (bM (aC hi) hj (fD h) (aWG hr)) aJ rfl (jR r)
def aLv(h:lv C a env S=qz (ds,S1))(hl:↑S1=n):ev C (.new a) env S=qz (.loc n,S1++[qz ds]):=by subst hl;exact nZ h
namespace GP
structure Opd(n:Nat)(rs bA:List Rw):Prop where
 ext:∃ t,bA=rs++t/\↑t<=n
 ok:dN [] bA
def Opd.len(o:Opd n rs bA):↑rs<=↑bA/\↑bA<=↑rs+n:=by let(t,rfl,h):=o.ext;rw[xAn];omega
def Opd.keep{n:Nat}{rs bA:Li Rw}{b v:Nat}(o:Opd n rs bA)(h:(~~~rs)[b]?=qz v):(bA.map (·.w))[b]?=qz v:=by let(t,rfl,_):=o.ext;exact bBc h
def Opd.same(h:dN [] rs):Opd n rs rs:=(([],(yBa _).symm,yCd _,),h,)
def Opd.on(a:Opd n rs rs1)(b:Opd m rs1 rs2):Opd (n+m) rs rs2:=by let(t1,rfl,h1):=a.ext;let(t2,rfl,h2):=b.ext;exact((t1++t2,yBc ..,by rw[xAn];omega,),b.ok,)
def Opd.up(a:Opd n rs rs1)(h:n<=m):Opd m rs rs1:=by let(t,e,l):=a.ext;exact((t,e,xAh l h,),a.ok,)
def aHJ{rs:Li Rw}{ws:Li Nat}{a:Nat}{r:Rw}(h:dN ws rs)(e:rs[a]?=qz r):1<=r.w/\r.w<=64:=by
 induction rs generalizing ws a with
 |nil=>cases e
 |cons q rs ih=>
   let(h1,h2):=h;cases a with
   |zero=>cases e;exact(h1.1,h1.2.1,)|succ a=>exact ih h2 e
structure Cf where
 S:aE
 p:Nat
 ns:List Int
noncomputable abbrev zs(c:Cf)(k:Nat)(x:Int)(rs:List Rw):aE:=cL c.S 0 c.p c.ns k x rs
def Rn(c:Cf)(d f:Nat)(ws:Li W)(k:Nat)(x:Int)(rs:Li Rw)(b:Nat)(P:D->Li Rw->Prop):Prop:=∃ v k' x' bA,P v bA/\k'<=k+b/\cl fns d f ws (zs c k x rs)=qz (.d v,zs c k' x' bA)
section
variable {c:Cf}(h:At c.S 0 c.p)(k:Nat)(x:Int)(rs:List Rw)
include h
theorem dw(d m:Nat)(hm:0<m)(hm2:m<2^64)(hk:k<=100000):∃ (r:Nat) (x':Int),r<m/\cl fns (d+1) 79 [.loc 0,.d (Iz m)] (zs c k x rs)=qz (.d (Iz r),zs c (k+1) x' rs):=kW h.toAt0 d m hm hm2 hk
theorem aBd(hl:↑rs<=1000)(r:Rw):eZ (zs c k x rs) (.loc c.p) (.d r.d)=qz (.d .none,zs c k x (rs++[r])):=by unfold eZ;simp only[h.rows];rw[if_pos (by rw[aRC,zx];omega),h.putR]
variable (hr:dN [] rs)(h0:0<↑rs)
include hr
theorem aXR(d a w:Nat)(ha:a<↑rs)(hl:↑rs<=100)(hw:1<=w)(cR:w<=64)(hk:k<=99000):Rn c (d+2) 83 [.loc 0,.loc c.p,.d (Iz a),.d (Iz w)] k x rs 1 λ v bA=>∃ a':Nat,v=.int a'/\Opd 1 rs bA/\(bA.map (·.w))[a']?=qz w:=by
 obtain⟨r,hra⟩:∃ r,rs[a]?=qz r:=(_,yAb ha,);by_cases c1:r.w=w
 .exact(_,k,x,rs,(a,rfl,.same hr,by rw[zH hra,c1],),yCz _ _,cH rfl rfl rfl (bS (aZ (qE rfl (aC rfl) h.rows hra) (aC rfl) (aCk (by rw[c1]))) (aT (aC rfl))) (h.toAt0.take _ _ _),)
 let(q,x',hq,e):=dw h k x rs d 2 (·) (·) ();let(wd,aN,ew):=aMg hq;obtain⟨wd',ok,s⟩:∃ wd',fV ([]++rs.map (·.w)) ⟨wd',w,[a]⟩/\xs (d<$>1) (mB (bH (bH aH5))) [#[0],#[c.p],(a:),(w:),qz (.d (Sz wd.s))] (zs c (k+1) x' rs)=qz (.nx [#[0],#[c.p],(a:),(w:),qz (.d (Sz wd'.s))],zs c (k+1) x' rs):=by
  by_cases c2:w<r.w
  .exact(.cut,(hw,cR,r.w,zH hra,yDx c2,),jB (aZ (qE rfl (aC rfl) h.rows hra) (aC rfl) (aFN ())) (hV rfl),)
  .refine(wd,(hw,cR,?_,),jA (aZ (qE rfl (aC rfl) h.rows hra) (aC rfl) (aFR ())) rfl,);rcases aN with rfl|rfl<;>exact(r.w,zH hra,yDc c2,)
 exact(_,k+1,x',rs++[(wd',w,[a],)],(↑rs,rfl,((_,rfl,yAc _,),sX hr ok,),by simp,),yAc _,cH rfl rfl rfl (aP (aZ (qE rfl (aC rfl) h.rows hra) (aC rfl) (aCt ())) (bK (bM (fA (fU (aD bZ (aD bZ aO)) rfl (yAa rfl))) (aV (cB rfl aJ) e) rfl ew) rfl (cK s (cK (gP (iN (aC rfl) (dO (aD (aC rfl) (aD (aC rfl) (aD (aC rfl) aO))) rfl (yAa rfl)) (aBd h _ _ _ () (wd',w,[a],)))) (aT (bP (gQ rfl h.rows) aJ (sb1 _ _))))))) (h.toAt0.take _ _ _),)
include h0
theorem vS(d w:Nat)(hl:↑rs<=100)(hw:1<=w)(cR:w<=64)(hk:k<=98000):Rn c (d+3) 84 [.loc 0,.loc c.p,.d (Iz w)] k x rs 3 λ v bA=>∃ a:Nat,v=.int a/\Opd 1 rs bA/\(bA.map (·.w))[a]?=qz w:=by
 obtain⟨L,hmem,dE,hc⟩:∃ L:Li Nat,(∀ a∈L,(~~~rs)[a]?=qz w)/\↑L<=↑rs/\lv (d<$>2) aGD [#[0],#[c.p],(w:),qj,qj] (zs c k x rs)=qz (L.map nD,zs c k x rs):=by
  refine((yBh ↑rs).filter λ j=>(~~~rs)[j]?==qz w,λ a ha=>by grind,?_,?_,)
  .have:=List.length_filter_le (λ j=>(~~~rs)[j]?==qz w) (yBh ↑rs);rw[yEi] at this;exact this
  .refine @aDB _ _ _ _ _ (lv (d<$>2) (.rng1 (.blt .len (.cons (.var 1) .nil)))) (tv (d<$>2) (.cmp .Eq (.ix (.ix (.var 1) (.var 4)) (.int 1)) (.var 2))) (ev (d<$>2) (.var 4)) nD nD (λ j=>(~~~rs)[j]?==qz w) (yBh ↑rs) (sW (gQ rfl h.rows) ()) (by rw[yEi,zx];omega) λ j hj=>?_
   have hj:=List.mem_range.mp hj;have hrj:rs[j]?=qz rs[j]:=yAb hj;refine(_,rfl,λ aH=>aZ (qE rfl (aC rfl) (h.rowsT _) hrj) (aC rfl) ?_,λ _ aH=>aC rfl,);rw[cT,zH hrj];congr 2;rw[yCe];simp;omega
 have ft:∀ k1 x1,k1<=k+1->∃ (a k':Nat) (x':Int) (bA:Li Rw),(Opd 1 rs bA/\(bA.map (·.w))[a]?=qz w)/\k'<=k+3/\xs (d<$>2) (bH (bH aCU)) [#[0],#[c.p],(w:),qz (.d (Lz (L.map nD))),qj] (zs c k1 x1 rs)=qz (.rt (.d (Iz a)),zs c k' x' bA):=λ k1 x1 hk1=>by
  let(q,x2,hq,e1):=dw h k1 x1 rs (d+1) ↑rs h0 () ();let(_,k',x',bA,(a,rfl,o),hk',e2):=aXR h (k1+1) x2 rs hr d q w hq hl hw cR ();exact(a,k',x',bA,o,(),aT (aV (aD (aC rfl) (aD (aC rfl) (aD (aV (cB rfl (gQ rfl h.rows)) e1) (aD (aC rfl) aO)))) e2),)
 have nn:=aX7 L;have go:∀ {a k' x' bA},Opd 1 rs bA/\(bA.map (·.w))[a]?=qz w->k'<=k+3->xs (d<$>2) (bH aCU) [#[0],#[c.p],(w:),qz (.d (Lz (L.map nD))),qj] (zs c k x rs)=qz (.rt (.d (Iz (a:_))),zs c k' x' bA)->Rn c (d+3) 84 [.loc 0,.loc c.p,.d (Iz w)] k x rs 3 λ v bA=>∃ a:Nat,v=.int a/\Opd 1 rs bA/\(bA.map (·.w))[a]?=qz w:=λ {a k' x' bA} o l e=>(_,k',x',bA,(a,rfl,o,),l,cH rfl rfl rfl (cK (aE1 hc rfl) e) (h.toAt0.take _ _ _),)
 rcases yFs L.isEmpty with hE|hE
 .rw[hE] at nn;let(a,k',x',bA,o,l,e):=ft k x (yCz _ _);exact go o l (aP (nK (p:=Ff) (aZ (aC rfl) (fA (fU aO rfl (yAa rfl))) nn) rfl) e)
 rw[hE] at nn;have hL0:0<↑L:=by
  grind
 let(q4,x1,hq4,e1):=dw h k x rs (d+1) 4 (·) (·) ();by_cases c4:0<q4
 .let(q,x2,hq,e2):=dw h (k+1) x1 rs (d+1) ↑L hL0 () ();have ha:L[↑L-1-q]?=qz L[↑L-1-q]:=yAb ();have ln:B.len.g [.list (L.map nD)]=qz (.int ↑L):=by
   show qz (Iz (↑(L.map nD):Nat))=_;rw[yAd]
  exact go (.same hr,hmem _ (xAk ha),) () (bS (nK (p:=Tt) (aZ (aC rfl) (fA (fU aO rfl (yAa rfl))) nn) (aZ (aV (cB rfl aJ) e1) aJ (aFN ()))) (aT (bM (aC rfl) (bP (bP (cQ (aD (aC rfl) aO) (cN dJ cU) ln) aJ (dR _ _)) (aV (cB rfl (cQ (aD (aC rfl) aO) (cN dJ cU) ln)) e2) (by rw[dR,cs1 hq])) rfl (nO (by rw[yAe,ha];rfl)))))
 .let(a,k',x',bA,o,l,e):=ft (k+1) x1 (yAc _);exact go o l (aP (nK (p:=Tt) (aZ (aC rfl) (fA (fU aO rfl (yAa rfl))) nn) (aZ (aV (cB rfl aJ) e1) aJ (aFR ()))) e)
theorem aAT(d:Nat)(wd:Wd)(aN:wd=.cut\/wd=.wide\/wd=.sign)(hl:↑rs<=100)(hk:k<=98000):Rn c (d+2) 85 [.loc 0,.loc c.p,.d (Sz wd.s)] k x rs 2 λ v bA=>bA=rs/\∃ r:Rw,v=r.d/\fV (~~~rs) r:=by
 let(a,x1,ha,e1):=dw h k x rs d ↑rs h0 () ();have hra:rs[a]?=qz rs[a]:=yAb ha;let(cC,cR):=aHJ hr hra;have wr:=zH hra;generalize rs[a]=r at *;have cw:bE .Eq (.str wd.s) (.str "cut")=qz (.bool (decide (wd=.cut))):=bY wd .cut;by_cases c1:wd=.cut
 .let(q,x2,hq,e2):=dw h (k+1) x1 rs d r.w () () ();rw[dqT c1] at cw;exact(_,k+2,x2,rs,(rfl,(.cut,1+q,[a],),rfl,by simp_all,by show 1+q<=64;omega,r.w,wr,by show 1+q<=r.w;omega,),yAc _,cH rfl rfl rfl (bK (aV (cB rfl (gQ rfl h.rows)) e1) rfl (bK (qE rfl (aC rfl) h.rows hra) rfl (bS (dS rfl cw) (aT (dO (aD bZ (aD (bP aJ (aV (cB rfl (aC rfl)) e2) (qF 1 q)) (aD (aC rfl) aO))) rfl (yAa rfl)))))) (h.toAt0.take _ _ _),)
 .let(q,x2,hq,e2):=dw h (k+1) x1 rs d (65-r.w) () () ();rw[dqF c1] at cw;refine(_,k+2,x2,rs,(rfl,(wd,r.w+q,[a],),rfl,by show 1<=r.w+q;omega,by show r.w+q<=64;omega,?_,),yAc _,cH rfl rfl rfl (bK (aV (cB rfl (gQ rfl h.rows)) e1) rfl (bK (qE rfl (aC rfl) h.rows hra) rfl (aP (dS rfl cw) (aT (dO (aD (aC rfl) (aD (bP (aC rfl) (aV (cB rfl (bP aJ (aC rfl) (@aCl 65 _ ()))) e2) (qF _ q)) (aD (aC rfl) aO))) rfl (yAa rfl)))))) (h.toAt0.take _ _ _),);erw[50,aN]
  .exact absurd rfl c1
  all_goals exact(r.w,wr,yCz _ _,)
theorem aDG(d w:Nat)(wd:Wd)(aN:wd=.left\/wd=.right\/wd=.slide)(hl:↑rs<=90)(hw:1<=w)(cR:w<=64)(hk:k<=97000):Rn c (d+4) 86 [.loc 0,.loc c.p,.d (Sz wd.s),.d (Iz w)] k x rs 6 λ v bA=>Opd 1 rs bA/\∃ r:Rw,v=r.d/\fV (bA.map (·.w)) r:=by
 let(q1,x1,h1,e1):=dw h k x rs (d+2) w () () ();let(q2,x2,h2,e2):=dw h (k+1) x1 rs (d+2) 64 (·) (·) ();let(q3,x3,h3,e3):=dw h (k+2) x2 rs (d+2) 4 (·) (·) ();let(_,k',x',bA,(a,rfl,o,wa),hk',e4):=vS h (k+3) x3 rs hr h0 d w () hw cR ();obtain⟨b,hb,eb⟩:∃ b:Nat,b<2/\cD .FloorDiv (.int q3) (.int 3)=qz (.int b):=(q3/3,(),@aD2 _ 3 (·) (·),);let(y,hy,ey):=at2 (.int q1) (.int q2) hb;obtain⟨kk,hkk,rfl⟩:∃ kk:Nat,kk<64/\y=.int kk:=by
  rcases hy with rfl|rfl
  .exact(q1,(),rfl,)
  .exact(q2,h2,rfl,)
 refine(_,k',x',bA,(o,(wd,w,[a,kk],),rfl,hw,cR,?_,),(),cH rfl rfl rfl (bK (bM (fA (fU (aD (aV (cB rfl (aC rfl)) e1) (aD (aV (cB rfl aJ) e2) aO)) rfl (yAa rfl))) (bP (aV (cB rfl aJ) e3) aJ eb) rfl ey) rfl (aT (dO (aD (aC rfl) (aD (aC rfl) (aD (aV (aD (aC rfl) (cB rfl (aC rfl))) e4) (aD (aC rfl) aO)))) rfl (yAa rfl)))) (h.toAt0.take _ _ _),);erw[50,aN]<;>exact(wa,hkk,)
omit hr h0 in
theorem aTj(wd:Wd)(w:Nat)(S:aE)(C:Calls)(a b c e f:Oz W):xs C (mB (bH (bH aHG))) [a,b,qz (.d (Sz wd.s)),(w:),e,f] S=qz (.nx [a,b,qz (.d (Sz wd.s)),(((if wd=.same\/wd=.less\/wd=.under then 1 else w:Nat):Int):),e,f],S):=by
 have is:=aEe wd;by_cases c:wd=.same\/wd=.less\/wd=.under
 .rw[dqT c] at is;rw[if_pos c];exact jB (lE rfl rfl is) (hV rfl)
 .rw[dqF c] at is;rw[if_neg c];exact jA (lE rfl rfl is) rfl
theorem aJP(d w:Nat)(wd:Wd)(hl:↑rs<=90)(hw:1<=w)(cR:w<=64)(hk:k<=97000):Rn c (d+4) 87 [.loc 0,.loc c.p,.d (Sz wd.s),.d (Iz w)] k x rs 6 λ v bA=>Opd 2 rs bA/\∃ a b:Nat,v=.tuple [.str wd.s,.int ((if wd=.same\/wd=.less\/wd=.under then 1 else w:Nat):Int),.int a,.int b]/\(bA.map (·.w))[a]?=qz w/\(bA.map (·.w))[b]?=qz w:=by let(_,k1,x1,rs1,(a,rfl,o1,w1),hk1,e1):=vS h k x rs hr h0 d w () hw cR ();have l1:=o1.len;let(_,k2,x2,rs2,(b,rfl,o2,w2),hk2,e2):=vS h k1 x1 rs1 o1.ok () d w () hw cR ();exact(_,k2,x2,rs2,(o1.on o2,a,b,rfl,o2.keep w1,w2,),(),cH rfl rfl rfl (bK (aV (aD (aC rfl) (cB rfl (aC rfl))) e1) rfl (bK (aV (aD (aC rfl) (cB rfl (aC rfl))) e2) rfl (cK (aTj h wd w _ _ _ _ qj _ _) (aT (dO (aD (aC rfl) (aD (aC rfl) (aD (aC rfl) (aD (aC rfl) aO)))) rfl (yAa rfl)))))) (h.toAt0.take _ _ _),)
end
def aYA(a b c e f:D):cD .Add (.tuple [a,b,c]) (.tuple [e,f])=qz (.tuple [a,b,c,e,f]):=by show(if [a,b,c].isEmpty=Ff/\↑[a,b,c]+↑[e,f]<=qk then qz (Tz ([a,b,c]++[e,f])) else qj)=_;rw[if_pos (rfl,by rw[zx];show 3+2<=16777216;decide,)];rfl
noncomputable abbrev eR(c:Cf)(l:Option W)(wd:Wd)(w:Nat)(a b:Option W):bG:=[#[0],#[c.p],l,qz (.d (Sz wd.s)),(w:),a,b]
def Ds(c:Cf)(k:Nat)(x:Int)(rs:Li Rw)(d w:Nat)(wd:Wd)(l:Oz W)(s:Sx):Prop:=∃ (r:Rw) (k':Nat) (x':Int) (bA:Li Rw) (e:Oz W),Opd 3 rs bA/\fV (bA.map (·.w)) r/\k'<=k+12/\xs (d<$>4) s (eR c l wd w qj qj) (zs c k x rs)=qz (.nx (eR c l wd w (qz (.d r.d)) e),zs c k' x' bA)
def uE{c:Cf}{k:Nat}{x:Int}{rs:Li Rw}{d w:Nat}{wd:Wd}{l:Oz W}{p:Prop} [Decidable p]{t:E}{a b:Sx}(ht:tv (d<$>4) t (eR c l wd w qj qj) (zs c k x rs)=qz (decide p,zs c k x rs))(h1:p->Ds c k x rs d w wd l a)(h2:¬ p->Ds c k x rs d w wd l b):Ds c k x rs d w wd l (.ifs t a (.seq b .skip)):=by
 by_cases q:p
 .rw[dqT q] at ht;let(r,k',x',bA,e,o,ok,hk,s):=h1 q;exact(r,k',x',bA,e,o,ok,hk,jB ht s,)
 .rw[dqF q] at ht;let(r,k',x',bA,e,o,ok,hk,s):=h2 q;exact(r,k',x',bA,e,o,ok,hk,jA ht (fK s),)
def aS3{c:Cf}{x:Int}{wd:Wd}(h:At c.S 0 c.p)(hr:dN [] rs)(h0:0<↑rs)(hl:↑rs<=80)(hw:1<=w)(cR:w<=64)(hk:k<=96000):Ds c k x rs d w wd l (mB (bH (bH (bH (bH (bH tD)))))):=by
 refine uE (dS rfl (bY wd .in)) (λ e=>?_) λ n1=>uE (dS rfl (bY wd .num)) (λ e=>?_) λ n2=>uE (dS rfl (bY wd .not)) (λ e=>?_) λ n3=>uE (lE rfl rfl (aA2 wd)) (λ e=>?_) λ n4=>uE (lE rfl rfl (aVp wd)) (λ e=>?_) λ n5=>uE (dS rfl (bY wd .pick)) (λ e=>?_) λ n6=>?_
 .exact((.in,w,[],),k,x,rs,_,.same hr,(hw,cR,True.intro,),yCz _ _,hV (dO (aD bZ (aD (aC rfl) aO)) rfl (yAa rfl)),)
 .let(q,k',x',hq,hk',e):=@aEZ _ _ _ k c.ns rs x h.toAt0 (d+1) w hw cR ();exact((.num,w,[q],),k',x',rs,_,.same hr,(hw,cR,hq,),(),hV (dO (aD bZ (aD (aC rfl) (aD (aV (cB rfl (aC rfl)) e) aO))) rfl (yAa rfl)),)
 .let(_,k',x',bA,(a,rfl,o,wa),hk',e):=vS h k x rs hr h0 (d+1) w () hw cR ();exact((.not,w,[a],),k',x',bA,_,o.up (·),(hw,cR,wa,),(),hV (dO (aD bZ (aD (aC rfl) (aD (aV (aD (aC rfl) (cB rfl (aC rfl))) e) aO))) rfl (yAa rfl)),)
 .let(_,k',x',bA,(o,r,rfl,okr),hk',e):=aDG h k x rs hr h0 d w wd e () hw cR ();exact(r,k',x',bA,_,o.up (·),okr,(),hV (aV (aD (aC rfl) (aD (aC rfl) (aD (aC rfl) (aD (aC rfl) aO)))) e),)
 .let(_,k',x',bA,(rfl,r,rfl,okr),hk',e):=aAT h k x rs hr h0 (d+2) wd e () ();exact(r,k',x',_,_,.same hr,okr,(),hV (aV (aD (aC rfl) (cB rfl (aC rfl))) e),)
 .let(_,k1,x1,rs1,(b,rfl,o1,w1),hk1,e1):=vS h k x rs hr h0 (d+1) 1 () (·) (·) ();have l1:=o1.len;let(_,k',x',bA,(o2,a,a',rfl,wa,wb),hk',e2):=aJP h k1 x1 rs1 o1.ok () d w wd () hw cR ();exact((.pick,w,[b,a,a'],),k',x',bA,_,o1.on o2,(hw,cR,o2.keep w1,wa,wb,),(),bK (aV (aD (aC rfl) (cB rfl aJ)) e1) rfl (hV (bP (dO (aD bZ (aD (aC rfl) (aD (aC rfl) aO))) rfl (yAa rfl)) (aCb (aV (aD (aC rfl) (aD (aC rfl) (aD (aC rfl) (aD (aC rfl) aO)))) e2) (aBF aJ) aCc rfl rfl) (aYA _ _ _ _ _))),)
 .let(_,k',x',bA,(o,a,b,rfl,wa,wb),hk',e):=aJP h k x rs hr h0 d w wd () hw cR ();refine((wd,if wd=.same\/wd=.less\/wd=.under then 1 else w,[a,b],),k',x',bA,_,o.up (·),?_,(),aNj (aV (aD (aC rfl) (aD (aC rfl) (aD (aC rfl) (aD (aC rfl) aO)))) e) rfl,);clear e;cases wd
  all_goals first|exact(hw,cR,wa,wb,)|exact(yAc 1,oqT rfl,rfl,w,wa,wb,)|exact absurd rfl n1|exact absurd rfl n2|exact absurd rfl n3|exact absurd rfl n6|exact absurd (.inl rfl) n4|exact absurd (.inr (.inl rfl)) n4|exact absurd (.inr (.inr rfl)) n4|exact absurd (.inl rfl) n5|exact absurd (.inr (.inl rfl)) n5|exact absurd (.inr (.inr rfl)) n5
def wds:Li Wd:=[.in,.num,.num,.not,.and,.or,.xor,.add,.sub,.mul,.left,.right,.slide,.cut,.wide,.sign,.same,.less,.under,.pick]
def wdL:D:=.list (wds.map λ w=>Sz w.s)
def aZm(C:Calls)(a b:Oz W)(S:aE)(r:Sx):xs C (.seq (mB tD) (.seq (mB (bH tD)) r)) [a,b,qj,qj,qj,qj,qj] S=xs C r [a,b,qz (.d wdL),qj,qj,qj,qj] S:=by kernel_rfl
def row_ok{c:Cf}(h:At c.S 0 c.p)(k:Nat)(x:Int)(rs:Li Rw)(d:Nat)(hr:dN [] rs)(h0:0<↑rs)(hl:↑rs<=80)(hk:k<=95000):Rn c (d+5) 88 [.loc 0,.loc c.p] k x rs 20 λ v bA=>v=.none/\dN [] bA/\↑rs<=↑bA/\↑bA<=↑rs+4:=by
 let(q1,x1,h1,e1):=dw h k x rs (d+3) 20 (·) (·) ();obtain⟨wd,aN⟩:∃ wd,wds[q1]?=qz wd:=(_,yAb h1,);have gw:aU wdL (.int q1)=qz (.str wd.s):=nO (by rw[yAe,aN];rfl);let(a,x2,ha,e2):=dw h (k+1) x1 rs (d+3) ↑rs h0 () ();have hra:rs[a]?=qz rs[a]:=yAb ha;let(cC,cR):=aHJ hr hra;generalize rs[a]=r at *;let(q3,x3,h3,e3):=dw h (k+2) x2 rs (d+3) 4 (·) (·) ();obtain⟨w,k4,x4,hw3,hw4,hk4,s4⟩:∃ (w k4:Nat) (x4:Int),1<=w/\w<=64/\k4<=k+6/\xs (d<$>4) (mB (bH (bH (bH (bH tD))))) (eR c (qz (.d wdL)) wd r.w qj qj) (zs c (k+2) x2 rs)=qz (.nx (eR c (qz (.d wdL)) wd w qj qj),zs c k4 x4 rs):=by
  by_cases q:q3=1
  .let(w,x4,g1,g2,e4):=@aJs _ _ _ (k+3) c.ns rs x3 h.toAt0 (d+2) ();exact(w,k+6,x4,g1,g2,yAc _,jB (aZ (aV (cB rfl aJ) e3) aJ (aCk ())) (hV (aV (aD (aC rfl) aO) e4)),)
  .exact(r.w,k+3,x3,cC,cR,(),jA (aZ (aV (cB rfl aJ) e3) aJ (aCt ())) rfl,)
 let(rr,k',x',bA,e6,o,okr,hk',s5):=@aS3 _ _ k4 d (qz (.d wdL)) _ x4 wd h hr h0 hl hw3 hw4 ();have l:=o.len;refine(_,k',x',bA++[rr],(rfl,sX o.ok okr,by rw[xAn];omega,by rw[xAn];show ↑bA+1<=_;omega,),(),?_,);rw[bX rfl (d+4) _ _ rfl];exact aLs rfl ((aZm _ _ _ _ (bH (bH tD))).trans (bK (bM (aC rfl) (aV (cB rfl aJ) e1) rfl gw) rfl (bK (qE rfl (aV (cB rfl (gQ rfl h.rows)) e2) h.rows hra) rfl (cK s4 (cK s5 (fK (gP (iN (aC rfl) (aC rfl) (aBd h _ _ _ () rr))))))))) (h.toAt0.take _ _ _)
end GP
def tr(n w:Nat):Nat:=w-bl (n^^^(2^w-1))
def aXA(n w i:Nat):(n^^^(2^w-1))[i]! =(n[i]! ^^ decide (i<w)):=by rw[yAr,dP]
def aMr(n w:Nat):tr n w<=w:=yFd _ _
def aJz(hi:w-tr n w<=i)(hw:i<w):n[i]! =Tt:=by
 have h1:bl (n^^^(2^w-1))<=i:=by unfold tr at hi;omega
 have h2:=cX (rL (n^^^(2^w-1))) h1;rw[aXA,dqT hw] at h2;simp_all
def eG(a w:Nat):Nat:=(2^w-1)^^^(2^(w-a)-1)
def pH:(eG a w)[i]! =(decide (w-a<=i)&&decide (i<w)):=by
 unfold eG;rw[yAr,dP,dP];by_cases h1:i<w<;>by_cases h2:i<w-a
 .rw[dqT h1,dqT h2,dqF ()];rfl
 .rw[dqT h1,dqF h2,dqT ()];rfl
 .omega
 .rw[dqF h1,dqF h2,yGj];rfl
def aEV:x&&&y≠0 ↔ ∃ i,x[i]! =Tt/\y[i]! =Tt:=by
 constructor
 .intro h;by_cases c:∃ i,x[i]! =Tt/\y[i]! =Tt
  .exact c
  .refine absurd ((mI _).mpr λ i=>?_) h;rw[yAi];cases h1:x[i]!<;>cases h2:y[i]!<;>first|rfl|exact absurd (i,h1,h2,) c
 .rintro ⟨i,h1,h2⟩ z;rw[mI] at z;simp_all
def eD(x a w:Nat):Nat:=if x&&&eG a w=0 then x else x|||eG a w
def aB0(h:x<2^w):eD x a w<2^w:=by
 unfold eD;split
 .exact h
 .exact yBe h (by
   apply yCn;intro i hi;rw[pH,dqF (show ¬ i<w by omega),yGj])
def aBB:(eD x a w)[i]! =Tt ↔ x[i]! =Tt\/((w-a<=i/\i<w)/\∃ j,(w-a<=j/\j<w)/\x[j]! =Tt):=by
 unfold eD;split
 .rename_i h;constructor
  .intro z;exact .inl z
  .rintro (z|⟨_,j,h1,h2⟩)
   .exact z
   .refine absurd h (aEV.mpr (j,h2,?_,));rw[pH,dqT h1.1,dqT h1.2];rfl
 .rename_i h;let(j,h1,h2):=aEV.mp h;rw[pH,yBn,decide_eq_true_eq,decide_eq_true_eq] at h2;rw[xAo,yEv,pH,yBn,decide_eq_true_eq,decide_eq_true_eq];constructor
  .rintro (z|z)
   .exact .inl z
   .exact .inr (z,j,h2,h1,)
  .rintro (z|⟨z,_⟩)
   .exact .inl z
   .exact .inr z
def zJ(i j k:Nat):Nat:=max (max i j) k
structure Ft where
 N:Nat
 O:Nat
 A:Nat
def iJ(f:Ft)(w:Nat):Ft:=(eD f.N f.A w,eD f.O f.A w,zJ f.A (tr (eD f.N f.A w) w) (tr (eD f.O f.A w) w),)
def Hd(f:Ft)(n w:Nat):Prop:=(∀ i,f.N[i]! =Tt->n[i]! =Ff)/\(∀ i,f.O[i]! =Tt->n[i]! =Tt)/\((∀ i,w-f.A<=i->i<w->n[i]! =Tt)\/(∀ i,w-f.A<=i->i<w->n[i]! =Ff))
structure FtOk(f:Ft)(w:Nat):Prop where
 lN:f.N<2^w
 lO:f.O<2^w
 a1:1<=f.A
 aw:f.A<=w
def aZh(h:FtOk f w):FtOk (iJ f w) w:=by have h1:=aMr (eD f.N f.A w) w;have h2:=aMr (eD f.O f.A w) w;have h3:=h.a1;have h4:=h.aw;exact(aB0 h.lN,aB0 h.lO,xAh h3 (xAh (yBt _ _) (yBt _ _)),Nat.max_le.mpr (Nat.max_le.mpr (h4,h1,),h2,),)
def aRM(h:FtOk f w):Hd (iJ f w) n w ↔ Hd f n w:=by
 have aA:f.A<=(iJ f w).A:=xAh (yBt _ _) (yBt _ _);constructor
 .rintro ⟨h1,h2,h3⟩;refine(λ i hi=>h1 i (aBB.mpr (.inl hi)),λ i hi=>h2 i (aBB.mpr (.inl hi)),?_,);rcases h3 with h3|h3
  .exact .inl λ i a b=>h3 i (xAh (yFn aA _) a) b
  .exact .inr λ i a b=>h3 i (xAh (yFn aA _) a) b
 .rintro ⟨h1,h2,h3⟩;have hN:∀ i,(iJ f w).N[i]! =Tt->n[i]! =Ff:=λ i hi=>by
   rcases aBB.mp hi with z|⟨⟨a,b⟩,j,⟨c,d⟩,e⟩
   .exact h1 i z
   .rcases h3 with h3|h3
    .have x1:=h3 j c d;rw[h1 j e] at x1;cases x1
    .exact h3 i a b
  have hO:∀ i,(iJ f w).O[i]! =Tt->n[i]! =Tt:=λ i hi=>by
   rcases aBB.mp hi with z|⟨⟨a,b⟩,j,⟨c,d⟩,e⟩
   .exact h2 i z
   .rcases h3 with h3|h3
    .exact h3 i a b
    .have x1:=h3 j c d;rw[h2 j e] at x1;cases x1
  refine(hN,hO,?_,);have cA:(iJ f w).A=f.A\/(iJ f w).A=tr (iJ f w).N w\/(iJ f w).A=tr (iJ f w).O w:=by
   show max (max _ _) _=_\/max (max _ _) _=tr (eD f.N f.A w) w\/max (max _ _) _=tr (eD f.O f.A w) w;omega
  rcases cA with c|c|c
  .rw[c];exact h3
  .rw[c];exact .inr λ i a b=>hN i (aJz a b)
  .rw[c];exact .inl λ i a b=>hO i (aJz a b)
def bA6(h:Hd f n w):f.N&&&f.O=0:=by
 by_cases c:f.N&&&f.O=0
 .exact c
 .let(i,h1,h2):=aEV.mp c;have x:=h.1 i h1;rw[h.2.1 i h2] at x;cases x
def aBo(hn:n<2^w)(hi:i<w):(2^w-1-n)[i]! = !n[i]!:=by have:=mL hn i;unfold oY at this;rw[this,dqT hi,yAp]
def aSw(hn:n<2^w)(ha:a<=w):n/2^(w-a)=2^a-1 ↔ ∀ i,w-a<=i->i<w->n[i]! =Tt:=by
 constructor
 .intro h i h1 h2;have:(n/2^(w-a))[(i-(w-a))]! =(2^a-1)[(i-(w-a))]!:=by rw[h]
  rw[fS,dP,show w-a+(i-(w-a))=i by omega,dqT ()] at this;exact this
 .intro h;apply xAl;intro i;rw[fS,dP];by_cases c:i<a
  .rw[h _ () (),dqT c]
  .rw[cX hn (),dqF c]
def aR2(hn:n<2^w)(ha:a<=w):n/2^(w-a)=0 ↔ ∀ i,w-a<=i->i<w->n[i]! =Ff:=by
 rw[aCY];constructor
 .intro h i h1 _;exact h i h1
 .intro h i h1;by_cases c:i<w
  .exact h i h1 c
  .exact cX hn ()
def aSk:(x&&&y=0) ↔ ∀ i,y[i]! =Tt->x[i]! =Ff:=by
 rw[mI];constructor
 .intro h i hy;have:=h i;rw[yAi,hy,yCo] at this;exact this
 grind
def aH4{x y:Nat}:(x&&&y=y) ↔ ∀ i,y[i]! =Tt->x[i]! =Tt:=by
 constructor
 .grind
 .intro h;apply xAl;simp_all
def dI(d w:Nat)(h:w<=100000)(S:aE):cl fns (d+1) 0 [.d (Iz w)] S=qz (.d (Iz (2^w-1:_)),S):=by rw[bX rfl d _ S rfl];erw[11,aMU,kU h,dR,aDg]
def aUq(n:Nat):yAo (n:Int)=bl n:=aHs n
def aA8(d n:Nat)(S:aE):cl fns (d+1) 1 [.d (Iz n)] S=qz (.d (Iz ((bl n:Nat):Int)),S):=by rw[bX rfl d _ S rfl];erw[11,aL7,aFh,aMT,aUq]
def lr(n:Nat):Nat:=bl (n^^^(n+1))-1
def aTV(n:Nat):lr n=mV (pW n (bl n+1)):=aHQ (bl n+1) n (xAb (rL n) (yAm (·) ()))
def aJd(d n:Nat)(S:aE)(h:n<2^10000):cl fns (d+2) 2 [.d (Iz n)] S=qz (.d (Iz ((2^bl n-1:Nat):Int)),S):=by rw[bX rfl (d+1) _ S rfl];have hq1:=dI d (bl n) (xAh (tY h) (·));erw[11,aLR,aA8 d n,hq1]
def aLf(h:n<2^w)(hw:w<=10000):n<2^10000:=xAb h (yAm (·) hw)
def aEP(d n:Nat)(S:aE):cl fns (d+2) 3 [.d (Iz n)] S=qz (.d (Iz ((lr n:Nat):Int)),S):=by
 have h1:=aIi (aHe n);have e1:(n:Int)+1=(n+1:_):=();have e2:((bl (n^^^(n+1)):Nat):Int)-1=((lr n:Nat):Int):=by unfold lr;omega
 rw[bX rfl (d+1) _ S rfl];erw[11,aIB,iL,e1,iY,aA8 d,dR,e2]
def Ft.d(f:Ft):D:=.tuple [.int f.N,.int f.O,.int f.A]
def iP(f:Ft):aU f.d (Iz 0)=qz (.int f.N):=rfl
def jE(f:Ft):aU f.d (Iz 1)=qz (.int f.O):=rfl
def kN(f:Ft):aU f.d (Iz 2)=qz (.int f.A):=rfl
def wI(a b:Nat):((a:_)==(b:_))=(a==b):=by rw[yCe,beq_iff_eq,beq_iff_eq];omega
def aHZ(d n w:Nat)(S:aE)(hn:n<2^w)(hw:w<=64):cl fns (d+2) 4 [.d (Iz n),.d (Iz w)] S=qz (.d (Iz ((tr n w:Nat):Int)),S):=by
 have h1:=tY (aPl hn);have e2:(w:Int)-((bl (n^^^(2^w-1)):Nat):Int)=((tr n w:Nat):Int):=by unfold tr;omega
 rw[bX rfl (d+1) _ S rfl];have hq2:=dI d w ();erw[11,aIP,hq2,iY,aA8 d,dR,e2]
def qR(d a w:Nat)(S:aE)(ha:a<=w)(hw:w<=64):cl fns (d+2) 21 [.d (Iz a),.d (Iz w)] S=qz (.d (Iz ((eG a w:Nat):Int)),S):=by have e:(w:Int)-(a:Int)=(w-a:_):=();rw[bX rfl (d+1) _ S rfl];have hq3:=dI d w ();have hq4:=dI d (w-a) ();erw[11,aIz,hq3,dR,e,hq4,iY]
def mxI(i j:Nat):(if (j:Int)>(i:Int) then (j:_) else (i:_))=((max i j:Nat):Int):=by
 by_cases h:(j:Int)>(i:Int)
 .rw[if_pos h];omega
 .rw[if_neg h];omega
def aAU(i j k:Nat):qA [.int i,.int j,.int k]=qz (.int ((zJ i j k:Nat):Int)):=by
 show qz (Iz (if (j:Int)>(i:Int) then (if (k:Int)>(j:Int) then (k:Int) else (j:Int)) else (if (k:Int)>(i:Int) then (k:Int) else (i:Int))))=_;rw[mxI,mxI];unfold zJ;by_cases h:(j:Int)>(i:Int)
 .rw[if_pos h,show max (max i j) k=max j k by omega]
 .rw[if_neg h,show max (max i j) k=max i k by omega]
def aEY(h:(x&&&eG a w==0)=Tt):eD x a w=x:=by unfold eD;rw[if_pos (eq_of_beq h)]
def aEK(h:(x&&&eG a w==0)=Ff):eD x a w=x|||eG a w:=by unfold eD;rw[if_neg (by simpa using h)]
def aQJ(d:Nat)(f:Ft)(w:Nat)(k:FtOk f w)(hw:w<=64)(S:aE):cl fns (d+3) 23 [.d f.d,.d (Iz w)] S=qz (.d (iJ f w).d,S):=by
 have t1:=aHZ d (eD f.N f.A w) w S (aB0 k.lN) hw;have t2:=aHZ d (eD f.O f.A w) w S (aB0 k.lO) hw;rw[bX rfl (d+2) _ S rfl];show _=qz (W.d (Tz [Iz ((eD f.N f.A w:Nat):Int),Iz ((eD f.O f.A w:Nat):Int),Iz ((zJ f.A (tr (eD f.N f.A w) w) (tr (eD f.O f.A w) w):Nat):Int)]),S);cases c1:(f.N&&&eG f.A w==0) with
 |true=>
   rw[aEY c1] at t1 ⊢;cases c2:(f.O&&&eG f.A w==0) with
   |true=>
     rw[aEY c2] at t2 ⊢;erw[11,wR,Ft.d,qR (d:=d) (a:=f.A) (w:=w) (S:=S) k.aw hw,eE,rJ,fH,c1,c2,t1,t2,aAU]
   |false=>
     rw[aEK c2] at t2 ⊢;erw[11,wR,Ft.d,qR (d:=d) (a:=f.A) (w:=w) (S:=S) k.aw hw,eE,rJ,fH,c1,c2,gI,t1,t2,aAU]
 |false=>
   rw[aEK c1] at t1 ⊢;cases c2:(f.O&&&eG f.A w==0) with
   |true=>
     rw[aEY c2] at t2 ⊢;erw[11,wR,Ft.d,qR (d:=d) (a:=f.A) (w:=w) (S:=S) k.aw hw,eE,rJ,fH,c1,c2,gI,t1,t2,aAU]
   |false=>
     rw[aEK c2] at t2 ⊢;erw[11,wR,Ft.d,qR (d:=d) (a:=f.A) (w:=w) (S:=S) k.aw hw,eE,rJ,fH,c1,c2,gI,t1,t2,aAU]
def wE(d:Nat)(f:Ft)(S:aE):cl fns (d+1) 24 [.d f.d] S=qz (.d (Iz f.O),S):=by rw[bX rfl d _ S rfl];erw[11,aK3,jE]
def aAE(d:Nat)(f:Ft)(w:Nat)(lN:f.N<2^w)(hw:w<=64)(S:aE):cl fns (d+2) 25 [.d f.d,.d (Iz w)] S=qz (.d (Iz (2^w-1-f.N:_)),S):=by
 have e:(2^w-1)^^^f.N=2^w-1-f.N:=by
  apply xAl;intro i;have:=mL lN i;unfold oY at this;rw[this,yAr,dP];by_cases c:i<w
  .rw[dqT c];cases f.N[i]!<;>rfl
  .rw[dqF c,cX lN ()];rfl
 rw[bX rfl (d+1) _ S rfl];have hq5:=dI d w ();erw[11,aH9,iP,hq5,iY,e]
def sU(d n w v:Nat)(S:aE)(hw:0<w)(hv:v<=1000)(cR:w<=64):cl fns (d+2) 5 [.d (Iz n),.d (Iz w),.d (Iz v)] S=qz (.d (Iz ((cG n w v:Nat):Int)),S):=by
 have e1:(w:Int)-1=(w-1:_):=();rw[bX rfl (d+1) _ S rfl];unfold cG;by_cases c:n&&&2^(w-1)=0
 .have d1:(n&&&2^(w-1)==0)=Tt:=by rw[beq_iff_eq];exact c
  rw[if_pos c];have hq6:=kU (show w-1<=100000 by omega);erw[11,aDa,dR,e1,hq6,eE,cT,fH,d1]
 .have d1:(n&&&2^(w-1)==0)=Ff:=by rw[beq_eq_false_iff_ne];exact c
  rw[if_neg c];have hq7:=kU (show w-1<=100000 by omega);have hq8:=dI d v ();have hq9:=dI d w ();erw[11,aDa,dR,e1,hq7,eE,cT,fH,d1,hq8,hq9,iY,gI]
def aDC(a k:Nat):qA [.int 1,.int ((a:Nat)-(k:Nat):Int)]=qz (.int ((max 1 (a-k):Nat):Int)):=by unfold qA;simp only[];congr 2;by_cases h1:(a:Int)-(k:Int)>1<;>simp only[h1,if_true,if_false]<;>omega
def mH(i j:Nat):lL [.int i,.int j]=qz (.int ((min i j:Nat):Int)):=by unfold lL;simp only[];congr 2;by_cases h1:(j:Int)<(i:Int)<;>simp only[h1,if_true,if_false]<;>omega
def xZ(w:Nat)(f:Ft)(k:Nat):Ft:=((f.N*2^k|||(2^k-1))&&&(2^w-1),f.O*2^k&&&(2^w-1),max 1 (f.A-k),)
def aUb(d w:Nat)(f:Ft)(k:Nat)(hf:FtOk f w)(hw:w<=64)(hk:k<=1000)(S:aE):cl fns (d+2) 36 [.d (Iz w),.d f.d,.d (Iz k)] S=qz (.d (xZ w f k).d,S):=by rw[bX rfl (d+1) _ S rfl];have hq10:=tJ hf.lN (show w+k<=100000 by omega);have hq11:=tJ hf.lO (show w+k<=100000 by omega);have hq12:=dI d k ();have hq13:=dI d w ();erw[11,aHB,iP,jE,kN,hq10,hq11,hq12,hq13,gI,eE,dR,aDC]
def nP(w:Nat)(f:Ft)(k:Nat):Ft:=(f.N/2^k|||eG (min k w) w,f.O/2^k,if k=0 then f.A else 1,)
def aRi(d w:Nat)(f:Ft)(k:Nat)(hw:w<=64)(S:aE):cl fns (d+3) 37 [.d (Iz w),.d f.d,.d (Iz k)] S=qz (.d (nP w f k).d,S):=by
 have tm:=qR d (min k w) w S () hw;rw[bX rfl (d+2) _ S rfl];by_cases c:k=0
 .have d1:(k==0)=Tt:=by rw[beq_iff_eq];exact c
  have e:(nP w f k).d=.tuple [.int ((f.N/2^k|||eG (min k w) w:Nat):Int),.int (f.O/2^k:_),.int f.A]:=by unfold nP;rw[if_pos c];rfl
  rw[e];erw[11,aCZ,iP,jE,kN,jN,mH,tm,gI,cT,fH,d1]
 .have d1:(k==0)=Ff:=by rw[beq_eq_false_iff_ne];exact c
  have e:(nP w f k).d=.tuple [.int ((f.N/2^k|||eG (min k w) w:Nat):Int),.int (f.O/2^k:_),.int 1]:=by unfold nP;rw[if_neg c];rfl
  rw[e];erw[11,aCZ,iP,jE,kN,jN,mH,tm,gI,cT,fH,d1]
def xG(w:Nat)(f:Ft)(k:Nat):Ft:=(cG f.N w (w+k)/2^k,cG f.O w (w+k)/2^k,min w (f.A+k),)
def aRJ(d w:Nat)(f:Ft)(k:Nat)(cC:1<=w)(hw:w<=64)(hk:k<=900)(S:aE):cl fns (d+3) 38 [.d (Iz w),.d f.d,.d (Iz k)] S=qz (.d (xG w f k).d,S):=by have e1:(w:Int)+(k:Int)=(w+k:_):=();have e2:(f.A:Int)+(k:Int)=(f.A+k:_):=();rw[bX rfl (d+2) _ S rfl];have hq14:=sU d f.N w (w+k) S () () hw;have hq15:=sU d f.O w (w+k) S () () hw;erw[11,aHg,iP,jE,kN,iL,e1,e2,hq14,hq15,jN,mH]
def zT(v w:Nat)(f:Ft):Ft:=(f.N&&&(2^w-1),f.O&&&(2^w-1),max 1 (f.A-(v-w)),)
def oC(v w:Nat)(f:Ft):Ft:=(f.N|||eG (w-v) w,f.O,if w=v then f.A else 1,)
def xW(v w:Nat)(f:Ft):Ft:=(cG f.N v w,cG f.O v w,f.A+(w-v),)
def aVD(d v w:Nat)(f:Ft)(hv:w<=v)(hw:w<=64)(S:aE):cl fns (d+2) 40 [.d (Sz "cut"),.d (Iz v),.d (Iz w),.d f.d] S=qz (.d (zT v w f).d,S):=by have c1:bE .Eq (.str "cut") (.str "cut")=qz (.bool Tt):=bY .cut .cut;have e1:(v:Int)-(w:Int)=(v-w:_):=();rw[bX rfl (d+1) _ S rfl];have hq16:=dI d w ();erw[11,vT,Ft.d,c1,hq16,eE,dR,e1,aDC]
def aUP(d v w:Nat)(f:Ft)(hv:v<=w)(hw:w<=64)(S:aE):cl fns (d+3) 40 [.d (Sz "wide"),.d (Iz v),.d (Iz w),.d f.d] S=qz (.d (oC v w f).d,S):=by
 have c1:bE .Eq (.str "wide") (.str "cut")=qz (.bool Ff):=bY .wide .cut;have c2:bE .Eq (.str "wide") (.str "wide")=qz (.bool Tt):=bY .wide .wide;have e1:(w:Int)-(v:Int)=(w-v:_):=();have tm:=qR d (w-v) w S () hw;rw[bX rfl (d+2) _ S rfl];by_cases c:w=v
 .have d1:(w==v)=Tt:=by rw[beq_iff_eq];exact c
  have e:(oC v w f).d=.tuple [.int ((f.N|||eG (w-v) w:Nat):Int),.int f.O,.int f.A]:=by unfold oC;rw[if_pos c];rfl
  rw[e];erw[11,vT,Ft.d,c1,c2,dR,e1,tm,gI,cT,wI,d1]
 .have d1:(w==v)=Ff:=by rw[beq_eq_false_iff_ne];exact c
  have e:(oC v w f).d=.tuple [.int ((f.N|||eG (w-v) w:Nat):Int),.int f.O,.int 1]:=by unfold oC;rw[if_neg c];rfl
  rw[e];erw[11,vT,Ft.d,c1,c2,dR,e1,tm,gI,cT,wI,d1]
def aUh(d v w:Nat)(f:Ft)(hv1:1<=v)(hv:v<=w)(hw:w<=64)(S:aE):cl fns (d+3) 40 [.d (Sz "sign"),.d (Iz v),.d (Iz w),.d f.d] S=qz (.d (xW v w f).d,S):=by have c1:bE .Eq (.str "sign") (.str "cut")=qz (.bool Ff):=bY .sign .cut;have c2:bE .Eq (.str "sign") (.str "wide")=qz (.bool Ff):=bY .sign .wide;have e1:(w:Int)-(v:Int)=(w-v:_):=();have e2:(f.A:Int)+(w-v:_)=(f.A+(w-v):_):=();rw[bX rfl (d+2) _ S rfl];have hq17:=sU d f.N v w S () () ();have hq18:=sU d f.O v w S () () ();erw[11,vT,Ft.d,c1,c2,dR,e1,hq17,hq18,iL,e2]
def bwN(wd:Wd)(f g:Ft):Ft:=match wd with|.and=>(f.N|||g.N,f.O&&&g.O,min f.A g.A,)|.or=>(f.N&&&g.N,f.O|||g.O,min f.A g.A,)|_=>(f.N&&&g.N|||f.O&&&g.O,f.N&&&g.O|||f.O&&&g.N,min f.A g.A,)
def aAW(d:Nat)(f g:Ft)(S:aE):cl fns (d+1) 34 [.d f.d,.d g.d] S=qz (.d (Iz (f.N&&&g.O|||f.O&&&g.N:_)),S):=by rw[bX rfl d _ S rfl];erw[11,aHd,iP,jE,gI,eE]
def aPP(d:Nat)(wd:Wd)(aN:wd=.and\/wd=.or\/wd=.xor)(f g:Ft)(S:aE):cl fns (d+2) 35 [.d (Sz wd.s),.d f.d,.d g.d] S=qz (.d (bwN wd f g).d,S):=by
 have c1:bE .Eq (.str wd.s) (.str "and")=qz (.bool (decide (wd=.and))):=bY wd .and;have c2:bE .Eq (.str wd.s) (.str "or")=qz (.bool (decide (wd=.or))):=bY wd .or;rw[bX rfl (d+1) _ S rfl];erw[50,aN]
 .simp only[decide_true] at c1;erw[11,aAB,iP,jE,kN,mH,c1,gI,eE]
 .simp only[reduceCtorEq,decide_false,decide_true] at c1 c2;erw[11,aAB,iP,jE,kN,mH,c1,c2,gI,eE]
 .simp only[reduceCtorEq,decide_false] at c1 c2;erw[11,aAB,iP,jE,kN,mH,c1,c2,gI,eE,aAW d]
def eI(f:Ft)(k:Nat):Nat:=2-2*(f.N[k]!).toNat-(f.O[k]!).toNat
def iC{f:Ft}(hd:f.N&&&f.O=0)(k:Nat):(eI f k==0)=f.N[k]!:=by have:=(mI _).mp hd k;rw[yAi] at this;unfold eI;revert this;cases f.N[k]!<;>cases f.O[k]!<;>decide
def iB{f:Ft}(hd:f.N&&&f.O=0)(k:Nat):(eI f k==1)=f.O[k]!:=by have:=(mI _).mp hd k;rw[yAi] at this;unfold eI;revert this;cases f.N[k]!<;>cases f.O[k]!<;>decide
def wZ(f:Ft)(k:Nat):eI f k<3:=by unfold eI;omega
def ntN(x:Nat):Nat:=[1,0,2].getD x 2
def aBZ(f:Ft)(k i:Nat):Nat:=if i<k then 0 else eI f (i-k)
def aBv(f:Ft)(w k i:Nat):Nat:=if i+k<w then eI f (i+k) else 0
def aNZ(f:Ft)(w i:Nat):Nat:=eI f (min i (w-1))
def aBT(f:Ft)(w i:Nat):Nat:=if i<w then eI f i else 0
structure Mk(t:Nat->Nat)(n:Nat)(g:Ft):Prop where
 lN:g.N<2^n
 lO:g.O<2^n
 b0:∀ i,i<n->g.N[i]! =(t i==0)
 b1:∀ i,i<n->g.O[i]! =(t i==1)
def aNP{f:Ft}(hd:f.N&&&f.O=0)(k:Nat):(ntN (eI f k)==0)=f.O[k]!:=by rw[<- iB hd k];have:=wZ f k;revert this;generalize eI f k=x;intro h;have:x=0\/x=1\/x=2:=();erw[50,this]<;>rfl
def aNH{f:Ft}(hd:f.N&&&f.O=0)(k:Nat):(ntN (eI f k)==1)=f.N[k]!:=by rw[<- iC hd k];have:=wZ f k;revert this;generalize eI f k=x;intro h;have:x=0\/x=1\/x=2:=();erw[50,this]<;>rfl
def aVT(hf:FtOk f w)(hd:f.N&&&f.O=0):Mk (λ i=>ntN (eI f i)) w (f.O,f.N,f.A,):=
 (hf.lO,hf.lN,λ i _=>(aNP hd i).symm,λ i _=>(aNH hd i).symm,)
def wY(w:Nat):2^w-1<2^w:=by have:=xAe w;omega
def aAS(n k i:Nat):(n*2^k)[i]! =(decide (k<=i)&&n[(i-k)]!):=by
 have:=@aHA 0 k n (xAe k) i;rw[yEt] at this;rw[this];by_cases c:i<k
 .rw[if_pos c,dqF (),yBd,yAx]
 .rw[if_neg c,dqT (),yAp]
def aJ6{f:Ft}(k:Nat)(hd:f.N&&&f.O=0):Mk (aBZ f k) w (xZ w f k):=by
 refine(xAi yFl (wY w),xAi yFl (wY w),λ i hi=>?_,λ i hi=>?_,)
 .show((f.N*2^k|||(2^k-1))&&&(2^w-1))[i]! =_;rw[yAi,xAo,dP,dP,aAS,dqT hi,yCo];unfold aBZ;by_cases c:i<k
  .rw[if_pos c,dqT c,yIi];rfl
  .rw[if_neg c,dqF c,yFu,dqT (),yAp,iC hd]
 .show(f.O*2^k&&&(2^w-1))[i]! =_;rw[yAi,dP,aAS,dqT hi,yCo];unfold aBZ;by_cases c:i<k
  .rw[if_pos c,dqF (),yAx];rfl
  .rw[if_neg c,dqT (),yAp,iB hd]
def aEL(a w:Nat):eG a w<2^w:=by apply yCn;intro i hi;rw[pH,dqF (show ¬ i<w by omega),yGj]
def aH0(h:n<2^w):n/2^k<2^w:=xAi (yGw _ _) h
def aJl(k:Nat)(hf:FtOk f w)(hd:f.N&&&f.O=0):Mk (aBv f w k) w (nP w f k):=by
 refine(yBe (aH0 hf.lN) (aEL _ _),aH0 hf.lO,λ i hi=>?_,λ i hi=>?_,)
 .show(f.N/2^k|||eG (min k w) w)[i]! =_;rw[xAo,fS,pH,dqT hi,yCo];unfold aBv;by_cases c:i+k<w
  .rw[if_pos c,dqF (),yFu,iC hd,yDk]
  .rw[if_neg c,dqT (),yIi];rfl
 .show(f.O/2^k)[i]! =_;rw[fS];unfold aBv;by_cases c:i+k<w
  .rw[if_pos c,iB hd,yDk]
  .rw[if_neg c,cX hf.lO ()];rfl
def tI(h:n<2^w)(hw:0<w)(hv:w<=v)(hi:i<v):(cG n w v)[i]! =n[(min i (w-1))]!:=by
 rw[gB h hw hv];by_cases c:i<w
 .rw[if_pos c,yDq ()]
 .rw[if_neg c,dqT hi,yAp,yDv ()]
def aI6(k:Nat)(hw:1<=w)(hf:FtOk f w)(hd:f.N&&&f.O=0):Mk (λ i=>aNZ f w (i+k)) w (xG w f k):=by
 have hl:∀ n,n<2^w->cG n w (w+k)/2^k<2^w:=λ n hn=>by
  rw[yDz (xAe k),<- yEn];exact mG hn hw ()
 refine(hl _ hf.lN,hl _ hf.lO,λ i hi=>?_,λ i hi=>?_,)
 .show(cG f.N w (w+k)/2^k)[i]! =(eI f (min (i+k) (w-1))==0);rw[fS,tI hf.lN hw () (),iC hd,yDk]
 .show(cG f.O w (w+k)/2^k)[i]! =(eI f (min (i+k) (w-1))==1);rw[fS,tI hf.lO hw () (),iB hd,yDk]
def aLS{f:Ft}(v w:Nat)(hd:f.N&&&f.O=0):Mk (eI f) w (zT v w f):=by
 refine(xAi yFl (wY w),xAi yFl (wY w),λ i hi=>?_,λ i hi=>?_,)
 .show(f.N&&&(2^w-1))[i]! =_;rw[yAi,dP,dqT hi,yCo,iC hd]
 .show(f.O&&&(2^w-1))[i]! =_;rw[yAi,dP,dqT hi,yCo,iB hd]
def aJE(h:n<2^v)(hv:v<=w):n<2^w:=xAb h (yAm (·) hv)
def aKp(hv:v<=w)(hf:FtOk f v)(hd:f.N&&&f.O=0):Mk (aBT f v) w (oC v w f):=by
 refine(yBe (aJE hf.lN hv) (aEL _ _),aJE hf.lO hv,λ i hi=>?_,λ i hi=>?_,)
 .show(f.N|||eG (w-v) w)[i]! =_;rw[xAo,pH,dqT hi,yCo];unfold aBT;by_cases c:i<v
  .rw[if_pos c,dqF (),yFu,iC hd]
  .rw[if_neg c,dqT (),yIi];rfl
 .show f.O[i]! =_;unfold aBT;by_cases c:i<v
  .rw[if_pos c,iB hd]
  .rw[if_neg c,cX hf.lO ()];rfl
def aKh(h1:1<=v)(hv:v<=w)(hf:FtOk f v)(hd:f.N&&&f.O=0):Mk (aNZ f v) w (xW v w f):=by
 refine(mG hf.lN h1 hv,mG hf.lO h1 hv,λ i hi=>?_,λ i hi=>?_,)
 .show(cG f.N v w)[i]! =(eI f (min i (v-1))==0);rw[tI hf.lN h1 hv hi,iC hd]
 .show(cG f.O v w)[i]! =(eI f (min i (v-1))==1);rw[tI hf.lO h1 hv hi,iB hd]
def btN(b:Nat)(x y:Nat):Nat:=match b with
 |0=>if x=0\/y=0 then 0 else if x<2/\y<2 then x*y else 2
 |1=>if x=1\/y=1 then 1 else if x<2/\y<2 then x+y else 2
 |_=>if x<2/\y<2 then (if x=y then 0 else 1) else 2
def kI(f:Ft)(k:Nat):eI f k=0\/eI f k=1\/eI f k=2:=by have:=wZ f k;omega
def uX(b:Nat)(f g:Ft):Ft:=match b with|0=>(f.N|||g.N,f.O&&&g.O,min f.A g.A,)|1=>(f.N&&&g.N,f.O|||g.O,min f.A g.A,)|_=>(f.N&&&g.N|||f.O&&&g.O,f.N&&&g.O|||f.O&&&g.N,min f.A g.A,)
def aMH(b:Nat)(hb:b=0\/b=1\/b=2)(hf:FtOk f w)(hd:f.N&&&f.O=0)(hg:FtOk g w)(he:g.N&&&g.O=0):Mk (λ i=>btN b (eI f i) (eI g i)) w (uX b f g):=by
 have an:∀ {x y:Nat},x<2^w->x&&&y<2^w:=λ h=>xAi yCt h
 erw[50,hb]
 .refine(yBe hf.lN hg.lN,an hf.lO,λ i _=>?_,λ i _=>?_,)
  .show(f.N|||g.N)[i]! =_;rw[xAo,<- iC hd,<- iC he];rcases kI f i with h|h|h<;>rcases kI g i with h'|h'|h'<;>rw[h,h']<;>rfl
  .show(f.O&&&g.O)[i]! =_;rw[yAi,<- iB hd,<- iB he];rcases kI f i with h|h|h<;>rcases kI g i with h'|h'|h'<;>rw[h,h']<;>rfl
 .refine(an hf.lN,yBe hf.lO hg.lO,λ i _=>?_,λ i _=>?_,)
  .show(f.N&&&g.N)[i]! =_;rw[yAi,<- iC hd,<- iC he];rcases kI f i with h|h|h<;>rcases kI g i with h'|h'|h'<;>rw[h,h']<;>rfl
  .show(f.O|||g.O)[i]! =_;rw[xAo,<- iB hd,<- iB he];rcases kI f i with h|h|h<;>rcases kI g i with h'|h'|h'<;>rw[h,h']<;>rfl
 .refine(yBe (an hf.lN) (an hf.lO),yBe (an hf.lN) (an hf.lO),λ i _=>?_,λ i _=>?_,)
  .show(f.N&&&g.N|||f.O&&&g.O)[i]! =_;rw[xAo,yAi,yAi,<- iC hd,<- iC he,<- iB hd,<- iB he];rcases kI f i with h|h|h<;>rcases kI g i with h'|h'|h'<;>rw[h,h']<;>rfl
  .show(f.N&&&g.O|||f.O&&&g.N)[i]! =_;rw[xAo,yAi,yAi,<- iC hd,<- iC he,<- iB hd,<- iB he];rcases kI f i with h|h|h<;>rcases kI g i with h'|h'|h'<;>rw[h,h']<;>rfl
def cJ(x:Int)(w:Nat):Nat:=(x%(2^w:_)).toNat
def pM(x:Int)(w:Nat):((cJ x w:Nat):Int)=x%(2^w:_):=by
 unfold cJ;have:(0:Int)<(2^w:_):=by have:=xAe w;omega
 have:=Int.emod_nonneg x (b:=(2^w:_)) ();omega
def pQ(x:Int)(w:Nat):cJ x w<2^w:=by
 have h:=pM x w;have:(0:Int)<(2^w:_):=by have:=xAe w;omega
 have:=yHi x this;omega
def aZG{x:Int}(h0:0<=x)(h1:x<(2^w:_)):((cJ x w:Nat):Int)=x:=by rw[pM,Int.emod_eq_of_lt h0 h1]
def aEh(x:Int)(h:L<=w):cJ x w%2^L=cJ x L:=by
 have e:((cJ x w%2^L:Nat):Int)=((cJ x L:Nat):Int):=by
  rw[yBu,pM,pM];exact Int.emod_emod_of_dvd x (by
   have:(2:Nat)^L ∣ 2^w:=Nat.pow_dvd_pow 2 h;exact Int.natCast_dvd_natCast.mpr this)
 omega
def aWg(x:Int)(h:L<=w)(hi:i<L):(cJ x w)[i]! =(cJ x L)[i]!:=by rw[<- aEh x h,yAl,dqT hi,yAp]
def tK(h:i<lr n):n[i]! =Tt:=by
 rw[aTV] at h;have h1:=aIS _ i h;have h2:(pW n (bl n+1)).getD i Ff=Tt:=by rw[xAg,h1];rfl
 rw[aQC,yBn] at h2;exact h2.2
def bAr(h:n<2^w):lr n<=w:=by
 by_cases c:lr n<=w
 .exact c
 .have:=@tK w n ();rw[cX h (yAc _)] at this;cases this
def aEd{x y:Nat}(h:∀ i,x[i]! =Tt->y[i]! =Tt):x<=y:=by
 have:y&&&x=x:=by
  rw[aH4];exact h
 rw[<- this];exact yCt
def aLc(hx:x<2^w)(hy:y<2^w)(h:∀ i,x[i]! =Tt->y[i]! =Ff):y<=2^w-1-x:=by
 refine aEd (y:=oY x w) λ i hi=>?_
 have hiw:i<w:=by
  by_cases c:i<w
  .exact c
  .rw[cX hy ()] at hi;cases hi
 rw[mL hx,dqT hiw,yAp]
 grind
def aBQ(h:Hd f n w):f.O<=n:=aEd h.2.1
def aB1(k:FtOk f w)(hn:n<2^w)(h:Hd f n w):n<=2^w-1-f.N:=aLc k.lN hn h.1
def aL8(h:Hd f n w)(hk:∀ i,i<L->(f.N|||f.O)[i]! =Tt):n%2^L=f.O%2^L:=by
 apply xAl;intro i;rw[yAl,yAl];by_cases c:i<L
 .rw[dqT c,yAp,yAp];have q:=hk i c;rw[xAo] at q;cases o:f.O[i]! with
  |true=>exact h.2.1 i o
  |false=>
    rw[o,yFu] at q;exact h.1 i q
 .rw[dqF c,yAx,yAx]
inductive Sw where|add|sub|mul
def Sw.oc:Sw->Int->Int->Int
 |.add,a,b=>a+b|.sub,a,b=>a-b|.mul,a,b=>a*b
def aHE(h:a%2^L=b%2^L):(a:_)%(2^L:_)=(b:_)%(2^L:_):=by rw[<- yBu,<- yBu,h]
def aXn(s:Sw){a b c e:Nat}{L:Nat}(h1:a%2^L=c%2^L)(h2:b%2^L=e%2^L):cJ (s.oc a b) L=cJ (s.oc c e) L:=by
 have g1:=aHE h1;have g2:=aHE h2;have:s.oc a b%(2^L:_)=s.oc c e%(2^L:_):=by
  cases s with
  |add=>show((a:Nat)+(b:Nat):Int)%_=((c:Nat)+(e:Nat):Int)%_;rw[Int.add_emod,g1,g2,<- Int.add_emod]|sub=>show((a:Nat)-(b:Nat):Int)%_=((c:Nat)-(e:Nat):Int)%_;rw[Int.sub_emod,g1,g2,<- Int.sub_emod]|mul=>show((a:Nat)*(b:Nat):Int)%_=((c:Nat)*(e:Nat):Int)%_;rw[Int.mul_emod,g1,g2,<- Int.mul_emod]
 unfold cJ;rw[this]
def gX(f g:Ft):Nat:=lr ((f.N|||f.O)&&&(g.N|||g.O))
def aDX(k:FtOk f w):gX f g<=w:=bAr (xAi yCt (yBe k.lN k.lO))
def mY(s:Sw)(f g:Ft):Nat:=cJ (s.oc (f.O:Nat) (g.O:Nat)) (gX f g)
def uR(s:Sw)(f g:Ft):Nat:=(2^gX f g-1)^^^mY s f g
def aJb(s:Sw)(k:FtOk f w)(h1:Hd f a w)(h2:Hd g b w)(hi:i<gX f g):(cJ (s.oc (a:Nat) (b:Nat)) w)[i]! =(mY s f g)[i]!:=by
 have hk:∀ i,i<gX f g->(f.N|||f.O)[i]! =Tt/\(g.N|||g.O)[i]! =true:=λ i hi=>by
  have:=tK hi;rw[yAi,yBn] at this;exact this
 rw[aWg _ (aDX k) hi,aXn s (aL8 h1 λ i hi=>(hk i hi).1) (aL8 h2 λ i hi=>(hk i hi).2)];rfl
def aRx(h:(mY s f g)[i]! =Tt):i<gX f g:=by
 by_cases c:i<gX f g
 .exact c
 .have hl:mY s f g<2^gX f g:=pQ _ _;rw[cX hl ()] at h;cases h
def aSb(h:(uR s f g)[i]! =Tt):i<gX f g/\(mY s f g)[i]! =Ff:=by
 unfold uR at h;rw[yAr,dP] at h;have hl:mY s f g<2^gX f g:=pQ _ _;by_cases c:i<gX f g
 .rw[dqT c] at h;simp_all
 .rw[dqF c,cX hl ()] at h;cases h
def hJ(s:Sw)(w:Nat)(f g:Ft):Int:=match s with|.sub=>(f.O:Nat)-(2^w-1-g.N:_)|s=>s.oc (f.O:Nat) (g.O:Nat)
def gZ(s:Sw)(w:Nat)(f g:Ft):Int:=match s with|.sub=>(2^w-1-f.N:_)-(g.O:Nat)|s=>s.oc (2^w-1-f.N:_) (2^w-1-g.N:_)
def aNe(s:Sw)(kf:FtOk f w)(kg:FtOk g w)(ha:a<2^w)(hb:b<2^w)(h1:Hd f a w)(h2:Hd g b w):hJ s w f g<=s.oc (a:Nat) (b:Nat)/\s.oc (a:Nat) (b:Nat)<=gZ s w f g:=by
 have l1:=aBQ h1;have l2:=aBQ h2;have m1:=aB1 kf ha h1;have m2:=aB1 kg hb h2;cases s with
 |add=>
   show((f.O:Nat)+(g.O:Nat):Int)<=(a:Nat)+(b:Nat)/\((a:Nat)+(b:Nat):Int)<=(2^w-1-f.N:_)+(2^w-1-g.N:_);generalize 2^w-1-f.N=F at *;generalize 2^w-1-g.N=G at *;omega
 |sub=>
   show((f.O:Nat)-(2^w-1-g.N:_))<=(a:Nat)-(b:Nat)/\((a:Nat)-(b:Nat):Int)<=(2^w-1-f.N:_)-(g.O:Nat);generalize 2^w-1-f.N=F at *;generalize 2^w-1-g.N=G at *;omega
 |mul=>
   show((f.O:Nat)*(g.O:Nat):Int)<=(a:Nat)*(b:Nat)/\((a:Nat)*(b:Nat):Int)<=(2^w-1-f.N:_)*(2^w-1-g.N:_);rw[<- yCf,<- yCf,<- yCf];exact(Int.ofNat_le.mpr (Nat.mul_le_mul l1 l2),Int.ofNat_le.mpr (Nat.mul_le_mul m1 m2),)
def sN(s:Sw)(w:Nat)(f g:Ft):Nat:=if hJ s w f g<0\/gZ s w f g>(2^w-1:_) then 0 else vU (hJ s w f g).toNat (gZ s w f g).toNat w
def sO(s:Sw)(w:Nat)(f g:Ft):Nat:=if hJ s w f g<0\/gZ s w f g>(2^w-1:_) then 0 else pS (hJ s w f g).toNat (gZ s w f g).toNat w
def aSp(hl:l<2^w)(hg:g<2^w):xL l g w<2^w:=by apply yCn;intro i hi;rw[aC5 hl hg,dqF (),yAx]
def aII(s:Sw)(kf:FtOk f w)(kg:FtOk g w)(ha:a<2^w)(hb:b<2^w)(h1:Hd f a w)(h2:Hd g b w) :
 (∀ i,(sN s w f g)[i]! =Tt->(cJ (s.oc (a:Nat) (b:Nat)) w)[i]! =Ff)/\(∀ i,(sO s w f g)[i]! =Tt->(cJ (s.oc (a:Nat) (b:Nat)) w)[i]! =Tt)/\sN s w f g<2^w/\sO s w f g<2^w:=by
 have hb':=aNe s kf kg ha hb h1 h2;have hp:=xAe w;unfold sN sO;by_cases c:hJ s w f g<0\/gZ s w f g>(2^w-1:_)
 .rw[if_pos c,if_pos c];simp_all
 .rw[if_neg c,if_neg c];have e:=@aZG w (s.oc (a:Nat) (b:Nat)) () ();have q1:(hJ s w f g).toNat<=cJ (s.oc (a:Nat) (b:Nat)) w:=();have q2:cJ (s.oc (a:Nat) (b:Nat)) w<=(gZ s w f g).toNat:=();have q3:(hJ s w f g).toNat<2^w:=();have q4:(gZ s w f g).toNat<2^w:=();have n1:=aOI q3 q4 q1 q2;have n2:=aO9 q3 q4 q1 q2;rw[aSk] at n1;rw[aH4] at n2;have kl:=aSp q3 q4;exact(n1,n2,yBv kl (xAi yCt kl),xAi yCt kl,)
def sK(s:Sw)(w:Nat)(f g:Ft):Nat:=match s with|.mul=>2^min w (lr f.N+lr g.N)-1|_=>0
def aJX{n:Nat}(h:∀ i,i<L->n[i]! =Ff):2^L ∣ n:=by
 have:n%2^L=0:=by
  rw[mI];simp_all
 exact Nat.dvd_of_mod_eq_zero this
def aTy(s:Sw)(h1:Hd f a w)(h2:Hd g b w):∀ i,(sK s w f g)[i]! =Tt->(cJ (s.oc (a:Nat) (b:Nat)) w)[i]! =Ff:=by
 intro i hi;cases s with
 |add=>rw[show sK .add w f g=0 from rfl,yBd] at hi;cases hi
 |sub=>rw[show sK .sub w f g=0 from rfl,yBd] at hi;cases hi
 |mul=>
   have hi':(2^min w (lr f.N+lr g.N)-1)[i]! =Tt:=hi;rw[dP,decide_eq_true_eq] at hi';let(c,hc):=@aJX (lr f.N) a λ i hi=>h1.1 i (tK hi)
   let(e,he):=@aJX (lr g.N) b λ i hi=>h2.1 i (tK hi)
   have ex:cJ (Sw.mul.oc (a:Nat) (b:Nat)) w=a*b%2^w:=by
    have:=pM (Sw.mul.oc (a:Nat) (b:Nat)) w;have e2:Sw.mul.oc (a:Nat) (b:Nat)=(a*b:_):=(yCf a b).symm;rw[e2,<- yBu] at this;rw[e2];omega
   rw[ex,yAl,dqT (),yAp];have:a*b=c*e*2^(lr f.N+lr g.N):=by
    rw[hc,he,yEn]
    grind
   rw[this,aAS,dqF (),yAx]
def aEp(hn:n<2^w)(ha:a<=w):((∀ i,w-a<=i->i<w->n[i]! =Tt)\/(∀ i,w-a<=i->i<w->n[i]! =Ff)) ↔ 2^w-2^(w-a)<=n\/n<2^(w-a):=by
 have hp:=xAe (w-a);have e1:(2:Nat)^w=2^a*2^(w-a):=by rw[<- yEn,show a+(w-a)=w by omega]
 have hpa:=xAe a;rw[<- aSw hn ha,<- aR2 hn ha];have q0:n/2^(w-a)=0 ↔ n<2^(w-a):=by
  rw[Nat.div_eq_zero_iff];omega
 have q1:n/2^(w-a)=2^a-1 ↔ 2^w-2^(w-a)<=n:=by
  have es:(2^a-1)*2^(w-a)=2^w-2^(w-a):=by rw[Nat.sub_mul,Nat.one_mul,<- e1]
  constructor
  .intro h;have:=Nat.div_mul_le_self n (2^(w-a));rw[h,es] at this;exact this
  .intro h;have g1:2^a-1<=n/2^(w-a):=by
    rw[Nat.le_div_iff_mul_le hp,es];exact h
   have g2:n/2^(w-a)<2^a:=by
    rw[yDz hp,<- e1];exact hn
   omega
 rw[q0,q1]
def lZ(s:Sw)(f g:Ft):Nat:=match s with|.mul=>1|_=>max 1 (min f.A g.A-1)
def tG{n:Nat}(ha:m<=a)(h:(∀ i,w-a<=i->i<w->n[i]! =Tt)\/(∀ i,w-a<=i->i<w->n[i]! =Ff)):(∀ i,w-m<=i->i<w->n[i]! =Tt)\/(∀ i,w-m<=i->i<w->n[i]! =Ff):=by
 rcases h with h|h
 .exact .inl λ i a b=>h i (xAh (yFn ha _) a) b
 .exact .inr λ i a b=>h i (xAh (yFn ha _) a) b
def mQ(n w:Nat):(∀ i,w-1<=i->i<w->n[i]! =Tt)\/(∀ i,w-1<=i->i<w->n[i]! =Ff):=by
 cases c:n[(w-1)]! with
 |true=>exact .inl λ i h1 h2=>by rw[show i=w-1 by omega];exact c|false=>exact .inr λ i h1 h2=>by rw[show i=w-1 by omega];exact c
def aLm{W:Nat}(ha:a<W)(h:W-T<=a\/a<T)(hT:T<=W):∃ x k:Int,(a:_)=x+k*(W:_) /\ -(T:_)<=x/\x<(T:_):=by
 rcases h with h|h
 .exact((a:Int)-W,1,(),(),(),)
 .exact((a:Int),0,(),(),(),)
def aTl{x W T r k:Int}(h:r=x+k*W)(h1 : -(2*T)<=x)(h2:x<2*T)(hT:2*T<=W)(r0:0<=r)(rW:r<W):W-2*T<=r\/r<2*T:=by
 rcases (show k <= -1\/k=0\/k=1\/2<=k by omega) with c|rfl|rfl|c
 .have:k*W<=(-1)*W:=yGk c ();omega
 .exact .inr ()
 .exact .inl ()
 .have:2*W<=k*W:=yGk c ();omega
def aVz{x y k l W z:Int}:(x+k*W+(y+l*W))-W*z=x+y+(k+l-z)*W:=by rw[Int.sub_mul,Int.add_mul,Int.mul_comm W z];omega
def aW3{x y k l W z:Int}:(x+k*W-(y+l*W))-W*z=x-y+(k-l-z)*W:=by rw[Int.sub_mul,Int.sub_mul,Int.mul_comm W z];omega
def bBX(c:lZ s f g≠1):(lZ s f g=min f.A g.A-1/\2<=min f.A g.A-1)/\s≠.mul:=by
 cases s with
 |mul=>exact absurd rfl c
 |add=>
   have e:lZ .add f g=max 1 (min f.A g.A-1):=rfl;exact⟨(),λ h=>nomatch h⟩
 |sub=>
   have e:lZ .sub f g=max 1 (min f.A g.A-1):=rfl;exact⟨(),λ h=>nomatch h⟩
def aTU(s:Sw)(kf:FtOk f w)(kg:FtOk g w)(ha:a<2^w)(hb:b<2^w)(h1:Hd f a w)(h2:Hd g b w) :
 (∀ i,w-lZ s f g<=i->i<w->(cJ (s.oc (a:Nat) (b:Nat)) w)[i]! =Tt)\/(∀ i,w-lZ s f g<=i->i<w->(cJ (s.oc (a:Nat) (b:Nat)) w)[i]! =Ff):=by
 by_cases c:lZ s f g=1
 .rw[c];exact mQ _ _
 .have hw:=kf.aw;let((hA,hm),hs):=bBX c;have g1:min f.A g.A<=f.A:=yCs ..;have g2:min f.A g.A<=g.A:=yDs ..;rw[hA];generalize min f.A g.A=m at *;have hmw:m<=w:=xAh g1 hw;rw[aEp (pQ _ _) (xAh (yFd m 1) hmw)];have a1:=(aEp ha hmw).mp (tG g1 h1.2.2);have a2:=(aEp hb hmw).mp (tG g2 h2.2.2);have e:(2:Nat)^(w-(m-1))=2*2^(w-m):=by
   rw[show w-(m-1)=w-m+1 by omega,yEx,yIf]
  have hT:2*2^(w-m)<=2^w:=by
   rw[<- e];exact yAm (·) (yFd ..)
  rw[e];have hT1:2^(w-m)<=2^w:=yAm (·) (yFd ..);let(x,k,e1,x1,x2):=aLm ha a1 hT1;let(y,l,e2,y1,y2):=aLm hb a2 hT1;have hr:=pM (s.oc (a:Nat) (b:Nat)) w;have hl:=pQ (s.oc (a:Nat) (b:Nat)) w;rw[Int.emod_def] at hr;generalize cJ (s.oc (a:Nat) (b:Nat)) w=r at *;generalize s.oc (a:Nat) (b:Nat)/(2^w:_)=z at *;generalize (2:Nat)^w=W at *;generalize (2:Nat)^(w-m)=T at *;clear a1 a2 h1 h2 e g1 g2 hmw hw hm hA c;have cS:∀ {x k:Int},(r:Int)=x+k*(W:Int) -> -(2*(T:Int))<=x->x<2*(T:Int)->W-2*T<=r\/r<2*T:=λ q1 q2 q3=>by
   rcases aTl q1 q2 q3 () () () with q|q
   .exact .inl ()
   .exact .inr ()
  cases s with
  |mul=>simp_all
  |add=>
    have hk:(r:Int)=(a:Int)+(b:Int)-(W:Int)*z:=hr;rw[e1,e2,aVz] at hk;exact cS hk () ()
  |sub=>
    have hk:(r:Int)=(a:Int)-(b:Int)-(W:Int)*z:=hr;rw[e1,e2,aW3] at hk;exact cS hk () ()
def zC(s:Sw)(w:Nat)(f g:Ft):Ft:=(uR s f g|||sN s w f g|||sK s w f g,mY s f g|||sO s w f g,lZ s f g,)
def aRy(s:Sw)(kf:FtOk f w)(kg:FtOk g w)(ha:a<2^w)(hb:b<2^w)(h1:Hd f a w)(h2:Hd g b w):Hd (zC s w f g) (cJ (s.oc (a:Nat) (b:Nat)) w) w:=by
 let(t1,t2,_,_):=aII s kf kg ha hb h1 h2;refine(λ i hi=>?_,λ i hi=>?_,aTU s kf kg ha hb h1 h2,)
 .have hi':(uR s f g|||sN s w f g|||sK s w f g)[i]! =Tt:=hi;rw[xAo,xAo,yEv,yEv] at hi';rcases hi' with (q|q)|q
  .let(q1,q2):=aSb q;rw[aJb s kf h1 h2 q1,q2]
  .exact t1 i q
  .exact aTy s h1 h2 i q
 .have hi':(mY s f g|||sO s w f g)[i]! =Tt:=hi;rw[xAo,yEv] at hi';rcases hi' with q|q
  .rw[aJb s kf h1 h2 (aRx q),q]
  .exact t2 i q
def aDe(h:n<2^v)(hv:v<=w):n<2^w:=xAb h (yAm (·) hv)
def aVE(s:Sw)(kf:FtOk f w)(kg:FtOk g w)(ha:a<2^w)(hb:b<2^w)(h1:Hd f a w)(h2:Hd g b w):FtOk (zC s w f g) w:=by
 let(_,_,t3,t4):=aII s kf kg ha hb h1 h2;have hL:=aDX (g:=g) kf;have hO:mY s f g<2^gX f g:=pQ _ _;have hN:uR s f g<2^gX f g:=yBv (by have:=xAe (gX f g);omega) hO;have hl:sK s w f g<2^w:=by
  have:=xAe w;cases s with
  |add=>exact this|sub=>exact this|mul=>exact aDe (v:=min w (lr f.N+lr g.N)) (by show 2^min w (lr f.N+lr g.N)-1<_;have:=xAe (min w (lr f.N+lr g.N));omega) ()
 have q1:=kf.aw;have q2:=kf.a1;refine(yBe (yBe (aDe hN hL) t3) hl,yBe (aDe hO hL) t4,?_,?_,)
 .show 1<=lZ s f g;cases s with|mul=>exact yAc 1|add=>exact yBt _ _|sub=>exact yBt _ _
 .show lZ s f g<=w;cases s with|mul=>show 1<=w;omega|add=>exact Nat.max_le.mpr (xAh q2 q1,xAh (yFd _ _) (xAh (yCs _ _) q1),)|sub=>exact Nat.max_le.mpr (xAh q2 q1,xAh (yFd _ _) (xAh (yCs _ _) q1),)
def F1:Ft:=(0,1,1,)
def F0:Ft:=(1,0,1,)
def kQ:Ft:=(0,0,1,)
def l3(a b c e:Int):Ft:=if b<c then F1 else if e<=a then F0 else kQ
def aNV(a b c e:Int):l3 a b c e=F1\/l3 a b c e=F0\/l3 a b c e=kQ:=by
 unfold l3;split
 .exact .inl rfl
 .split
  .exact .inr (.inl rfl)
  .exact .inr (.inr rfl)
def aBb(h:r<2^k):r^^^2^k=r+2^k:=by
 apply xAl;intro i;have e:r+2^k=r+1*2^k:=();rw[e,aHA h,yAr,yFm];by_cases c:i<k
 .rw[if_pos c,dqF (),Bool.xor_false]
 .rw[if_neg c,cX h (),Bool.false_xor];by_cases c2:k=i
  .simp_all
  .rw[dqF c2];have:1<2^(i-k):=Nat.one_lt_two_pow ();rw[cX this (yAc _)]
def aDu(h1:2^k<=n)(h2:n<2^(k+1)):n^^^2^k=n-2^k:=by
 have hr:n-2^k<2^k:=by rw[yEx] at h2;omega
 have e:(n-2^k)^^^2^k=n:=by rw[aBb hr];omega
 grind
def aM2(h:n<2^w)(hw:0<w):n[(w-1)]! =decide (2^(w-1)<=n):=by
 have hb:=aKK h hw;have hp:=xAe (w-1);cases c:n[(w-1)]! with
 |true=>
   rw[c] at hb;have:2^(w-1)<=n:=by
    by_cases q:n<2^(w-1)
    .rw[Nat.div_eq_of_lt q] at hb;simp_all
    .omega
   rw[dqT this]
 |false=>
   rw[c] at hb;simp_all
def tt(f:Ft)(w:Nat):Ft:=(f.N^^^((f.N^^^f.O)&&&eG 1 w),f.O^^^((f.N^^^f.O)&&&eG 1 w),f.A,)
def aJq(hw:1<=w):(eG 1 w)[i]! =decide (w-1=i):=by
 rw[pH];by_cases c:w-1=i
 .rw[dqT c,dqT (),dqT ()];rfl
 .rw[dqF c];by_cases c2:w-1<=i
  .rw[dqF (show ¬ i<w by omega),yGj]
  .rw[dqF c2,yAx]
def aSa(k:FtOk f w)(hd:f.N&&&f.O=0)(hw:1<=w) :
 (f.N<2^(w-1)/\f.O<2^(w-1)/\(tt f w).N=f.N/\(tt f w).O=f.O)\/(f.N<2^(w-1)/\2^(w-1)<=f.O/\(tt f w).N=f.N+2^(w-1)/\(tt f w).O=f.O-2^(w-1))\/(2^(w-1)<=f.N/\f.O<2^(w-1)/\(tt f w).N=f.N-2^(w-1)/\(tt f w).O=f.O+2^(w-1)):=by
 have hN:=aM2 k.lN (show 0<w by omega);have hO:=aM2 k.lO (show 0<w by omega);have lN:=k.lN;have lO:=k.lO;have e:w-1+1=w:=();have tb:∀ b:Bool,(f.N[(w-1)]! ^^ f.O[(w-1)]!)=b->(f.N^^^f.O)&&&eG 1 w=if b=Tt then 2^(w-1) else 0:=λ b hb=>by
  apply xAl;intro i;rw[yAi,aJq hw,yAr]
  grind
 by_cases c1:2^(w-1)<=f.N
 .by_cases c2:2^(w-1)<=f.O
  .exfalso;have:=(mI _).mp hd (w-1);rw[yAi,hN,hO,dqT c1,dqT c2] at this;cases this
  .refine .inr (.inr (c1,(),?_,?_,))
   .show f.N^^^_=_;rw[tb Tt (by rw[hN,hO,dqT c1,dqF c2];rfl),if_pos rfl,aDu c1 (by rw[e];exact lN)]
   .show f.O^^^_=_;rw[tb Tt (by rw[hN,hO,dqT c1,dqF c2];rfl),if_pos rfl,aBb ()]
 .by_cases c2:2^(w-1)<=f.O
  .refine .inr (.inl ((),c2,?_,?_,))
   .show f.N^^^_=_;rw[tb Tt (by rw[hN,hO,dqT c2,dqF c1];rfl),if_pos rfl,aBb ()]
   .show f.O^^^_=_;rw[tb Tt (by rw[hN,hO,dqT c2,dqF c1];rfl),if_pos rfl,aDu c2 (by rw[e];exact lO)]
  .refine .inl ((),(),?_,?_,)
   .show f.N^^^_=_;rw[tb Ff (by rw[hN,hO,dqF c2,dqF c1];rfl),if_neg (·),yIj]
   .show f.O^^^_=_;rw[tb Ff (by rw[hN,hO,dqF c2,dqF c1];rfl),if_neg (·),yIj]
def aMX(k:FtOk f w)(hd:f.N&&&f.O=0)(hw:1<=w):(tt f w).N<2^w:=by
 have h2:(2:Nat)^w=2^(w-1)+2^(w-1):=by
  have:(2:Nat)^(w-1+1)=2^(w-1)*2:=yEx ..;rw[show w-1+1=w by omega] at this;omega
 have lN:=k.lN;rcases aSa k hd hw with ⟨_,_,h,_⟩|⟨_,_,h,_⟩|⟨_,_,h,_⟩<;>rw[h]<;>omega
def oS(w:Nat)(f g:Ft):Ft:=if f.N&&&g.O|||f.O&&&g.N≠0 then F0 else if (f.N|||f.O)&&&(g.N|||g.O)=2^w-1 then F1 else kQ
def aYH(w:Nat)(f g:Ft):oS w f g=F1\/oS w f g=F0\/oS w f g=kQ:=by
 unfold oS
 grind
def qQ(t f g:Ft):Ft:=if t.O=1 then f else if t.N=1 then g else (f.N&&&g.N,f.O&&&g.O,min f.A g.A,)
def bAc(hf:FtOk f w)(hg:FtOk g w):FtOk (qQ t f g) w:=by
 unfold qQ;split
 .exact hf
 .split
  .exact hg
  .have h1:=hf.a1;have h2:=hg.a1;have h3:=hf.aw;exact(xAi yCt hf.lN,xAi yCt hf.lO,by show 1<=min f.A g.A;omega,by show min f.A g.A<=w;omega,)
def Al(n w a:Nat):Prop:=(∀ i,w-a<=i->i<w->n[i]! =Tt)\/(∀ i,w-a<=i->i<w->n[i]! =Ff)
def pU{f:Ft}(hd:f.N&&&f.O=0)(h:Hd f a w)(j:Nat):(eI f j=0->a[j]! =Ff)/\(eI f j=1->a[j]! =Tt):=by
 refine(λ e=>h.1 j ?_,λ e=>h.2.1 j ?_,)
 .rw[<- iC hd j,beq_iff_eq];exact e
 .rw[<- iB hd j,beq_iff_eq];exact e
def pJ{t:Nat->Nat}{z:Nat}(m:Mk t n g)(hz:∀ i,i<n->(t i=0->z[i]! =Ff)/\(t i=1->z[i]! =Tt))(ha:Al z n g.A):Hd g z n:=by
 have hl:∀ {x:Nat},x<2^n->∀ i,x[i]! =Tt->i<n:=λ {x} hx i hi=>by
  by_cases c:i<n
  .exact c
  .rw[cX hx ()] at hi;cases hi
 refine(λ i hi=>?_,λ i hi=>?_,ha,)
 .have c:=hl m.lN i hi;rw[m.b0 i c,beq_iff_eq] at hi;exact(hz i c).1 hi
 .have c:=hl m.lO i hi;rw[m.b1 i c,beq_iff_eq] at hi;exact(hz i c).2 hi
def aVr(n w:Nat):cJ (n:_) w=n%2^w:=by have:=pM (n:_) w;rw[<- yBu] at this;omega
section
variable {f:Ft}{a w:Nat}(hf:FtOk f w)(hd:f.N&&&f.O=0)(ha:a<2 ^ w)(h:Hd f a w)
include hf hd ha h
theorem aSy:Hd (f.O,f.N,f.A,) (2^w-1-a) w:=by
 refine pJ (aVT hf hd) (λ i hi=>?_) ?_
 .rw[aBo ha hi];refine(λ e=>?_,λ e=>?_,)
  .have:f.O[i]! =Tt:=by rw[<- aNP hd i,beq_iff_eq];exact e
   rw[h.2.1 i this];rfl
  .have:f.N[i]! =Tt:=by rw[<- aNH hd i,beq_iff_eq];exact e
   rw[h.1 i this];rfl
 .rcases h.2.2 with q|q
  .exact .inr λ i h1 h2=>by rw[aBo ha h2,q i h1 h2];rfl
  .exact .inl λ i h1 h2=>by rw[aBo ha h2,q i h1 h2];rfl
theorem aQt(k:Nat):Hd (xZ w f k) (a*2^k%2^w) w:=by
 have hb:∀ i,i<w->(a*2^k%2^w)[i]! =(decide (k<=i)&&a[(i-k)]!):=λ i hi=>by
  rw[yAl,dqT hi,yAp,aAS]
 refine pJ (aJ6 k hd) (λ i hi=>?_) ?_
 .rw[hb i hi];unfold aBZ;by_cases c:i<k
  .rw[if_pos c,dqF (),yAx];simp_all
  .rw[if_neg c,dqT (),yAp];exact pU hd h (i-k)
 .show Al _ w (max 1 (f.A-k));by_cases c:f.A-k<=1
  .rw[Nat.max_eq_left c];exact mQ _ _
  .rw[Nat.max_eq_right ()];have:=hf.aw;rcases h.2.2 with q|q
   .exact .inl λ i h1 h2=>by rw[hb i h2,dqT (),yAp];exact q _ () ()
   .exact .inr λ i h1 h2=>by rw[hb i h2,dqT (),yAp];exact q _ () ()
theorem aP2(k:Nat):Hd (nP w f k) (a/2^k) w:=by
 refine pJ (aJl k hf hd) (λ i hi=>?_) ?_
 .rw[fS];unfold aBv;by_cases c:i+k<w
  .rw[if_pos c,yDk k i];exact pU hd h (i+k)
  .rw[if_neg c,cX ha ()];simp_all
 .show Al _ w (if k=0 then f.A else 1);by_cases c:k=0
  .subst c;rw[if_pos rfl,Nat.pow_zero,Nat.div_one];exact h.2.2
  .rw[if_neg c];exact mQ _ _
theorem aPF(hw:1<=w)(k:Nat):Hd (xG w f k) (cG a w (w+k)/2^k) w:=by
 have hb:∀ i,i<w->(cG a w (w+k)/2^k)[i]! =a[(min (i+k) (w-1))]!:=λ i hi=>by
  rw[fS,tI ha hw () (),yDk]
 refine pJ (aI6 k hw hf hd) (λ i hi=>?_) ?_
 .rw[hb i hi];exact pU hd h _
 .have h1:=hf.a1;show Al _ w (min w (f.A+k));rcases h.2.2 with q|q
  .exact .inl λ i h1 h2=>by rw[hb i h2];exact q _ () ()
  .exact .inr λ i h1 h2=>by rw[hb i h2];exact q _ () ()
theorem aRj(hv:v<=w):Hd (zT w v f) (a%2^v) v:=by
 have hb:∀ i,i<v->(a%2^v)[i]! =a[i]!:=λ i hi=>by rw[yAl,dqT hi,yAp]
 refine pJ (aLS w v hd) (λ i hi=>?_) ?_
 .rw[hb i hi];exact pU hd h _
 .have h1:=hf.aw;show Al _ v (max 1 (f.A-(w-v)));by_cases c:f.A-(w-v)<=1
  .rw[Nat.max_eq_left c];exact mQ _ _
  .rw[Nat.max_eq_right ()];rcases h.2.2 with q|q
   .exact .inl λ i h1 h2=>by rw[hb i h2];exact q _ () ()
   .exact .inr λ i h1 h2=>by rw[hb i h2];exact q _ () ()
theorem aRe(hv:w<=v):Hd (oC w v f) a v:=by
 refine pJ (aKp hv hf hd) (λ i hi=>?_) ?_
 .unfold aBT;by_cases c:i<w
  .rw[if_pos c];exact pU hd h i
  .rw[if_neg c,cX ha ()];simp_all
 .show Al _ v (if v=w then f.A else 1);by_cases c:v=w
  .subst c;rw[if_pos rfl];exact h.2.2
  .rw[if_neg c];exact mQ _ _
theorem aQM(hw:1<=w)(hv:w<=v):Hd (xW w v f) (cG a w v) v:=by
 have hb:∀ i,i<v->(cG a w v)[i]! =a[(min i (w-1))]!:=λ i hi=>tI ha hw hv hi
 refine pJ (aKh hw hv hf hd) (λ i hi=>?_) ?_
 .rw[hb i hi];exact pU hd h _
 .have h1:=hf.a1;show Al _ v (f.A+(v-w));rcases h.2.2 with q|q
  .exact .inl λ i h1 h2=>by rw[hb i h2];exact q _ () ()
  .exact .inr λ i h1 h2=>by rw[hb i h2];exact q _ () ()
end
def bwv(b:Nat)(x y:Nat):Nat:=match b with|0=>x&&&y|1=>x|||y|_=>x^^^y
def bwB(b:Nat)(x y:Bool):Bool:=match b with|0=>x&&y|1=>x||y|_=>x ^^ y
def aD9(hb:b=0\/b=1\/b=2)(x y i:Nat):(bwv b x y)[i]! =bwB b (x[i]!) (y[i]!):=by
 erw[50,hb]
 .exact yAi ..
 .exact xAo ..
 .exact yAr ..
def aWf:∀ (b p q:Fin 3) (x y:Bool),(p.1=0->x=Ff)/\(p.1=1->x=Tt)->(q.1=0->y=Ff)/\(q.1=1->y=Tt)->(btN b.1 p.1 q.1=0->bwB b.1 x y=Ff)/\(btN b.1 p.1 q.1=1->bwB b.1 x y=Tt):=by decide
def aS1(hb:b=0\/b=1\/b=2)(hf:FtOk f w)(hd:f.N&&&f.O=0)(h:Hd f x w)(hg:FtOk g w)(he:g.N&&&g.O=0)(h':Hd g y w):Hd (uX b f g) (bwv b x y) w:=by
 refine pJ (aMH b hb hf hd hg he) (λ i hi=>?_) ?_
 .rw[aD9 hb];exact aWf (b,(),) (_,wZ f i,) (_,wZ g i,) _ _ (pU hd h i) (pU he h' i)
 .have hA:(uX b f g).A=min f.A g.A:=by erw[50,hb]<;>rfl
  rw[hA];have q1:Al x w (min f.A g.A):=tG () h.2.2;have q2:Al y w (min f.A g.A):=tG () h'.2.2;have go:∀ (p q:Bool),(∀ i,w-min f.A g.A<=i->i<w->x[i]! =p)->(∀ i,w-min f.A g.A<=i->i<w->y[i]! =q)->Al (bwv b x y) w (min f.A g.A):=λ p q hp hq=>by
   cases c:bwB b p q with
   |true=>exact .inl λ i h1 h2=>by rw[aD9 hb,hp i h1 h2,hq i h1 h2,c]|false=>exact .inr λ i h1 h2=>by rw[aD9 hb,hp i h1 h2,hq i h1 h2,c]
  rcases q1 with q1|q1<;>rcases q2 with q2|q2
  .exact go _ _ q1 q2
  .exact go _ _ q1 q2
  .exact go _ _ q1 q2
  .exact go _ _ q1 q2
def fW(a w:Nat):Int:=if 2^(w-1)<=a then (a:Nat)-(2^w:_) else (a:Nat)
def aWI(x:Int)(w:Nat)(q:Int):cJ (x+(2^w:_)*q) w=cJ x w:=by unfold cJ;rw[Int.add_mul_emod_self_left]
def tH{i:Nat}{p:Prop}(h:(0:Nat)[i]! =Tt):p:=by rw[yBd] at h;cases h
def aKC:Hd F1 1 1:=(λ i h=>tH h,λ i h=>h,mQ _ _,)
def aJ8:Hd F0 0 1:=(λ i h=>yBd i,λ i h=>tH h,mQ _ _,)
def aJ0(z:Nat):Hd kQ z 1:=(λ i h=>tH h,λ i h=>tH h,mQ _ _,)
def aJT{a b c e x y:Int}(h1:a<=x)(h2:x<=b)(h3:c<=y)(h4:y<=e):Hd (l3 a b c e) (decide (x<y)).toNat 1:=by
 unfold l3;by_cases c1:b<c
 .rw[if_pos c1,dqT ()];exact aKC
 .rw[if_neg c1];by_cases c2:e<=a
  .rw[if_pos c2,dqF ()];exact aJ8
  .rw[if_neg c2];exact aJ0 _
def aQE(kf:FtOk f w)(kg:FtOk g w)(ha:a<2^w)(hb:b<2^w)(h1:Hd f a w)(h2:Hd g b w):Hd (l3 (f.O:Nat) (2^w-1-f.N:_) (g.O:Nat) (2^w-1-g.N:_)) (decide ((a:Int)<(b:Int))).toNat 1:=
 aJT (Int.ofNat_le.mpr (aBQ h1)) (Int.ofNat_le.mpr (aB1 kf ha h1)) (Int.ofNat_le.mpr (aBQ h2)) (Int.ofNat_le.mpr (aB1 kg hb h2))
def aQq(kf:FtOk f w)(ha:a<2^w)(hb:b<2^w)(h1:Hd f a w)(h2:Hd g b w):Hd (oS w f g) (decide (a=b)).toNat 1:=by
 unfold oS;by_cases c1:f.N&&&g.O|||f.O&&&g.N=0
 .rw[if_neg (by simp[c1])];by_cases c2:(f.N|||f.O)&&&(g.N|||g.O)=2^w-1
  .rw[if_pos c2];have:a=b:=by
    apply xAl;intro i;by_cases c:i<w
    .have q:((f.N|||f.O)&&&(g.N|||g.O))[i]! =Tt:=by rw[c2,dP,dqT c]
     have z:=(mI _).mp c1 i;rw[yAi,xAo,xAo] at q;rw[xAo,yAi,yAi] at z;have p1:=h1.1 i;have p2:=h1.2.1 i;have p3:=h2.1 i;have p4:=h2.2.1 i
     grind
    .rw[cX ha (),cX hb ()]
   rw[dqT this];exact aKC
  .rw[if_neg c2];exact aJ0 _
 .rw[if_pos c1];have:a≠b:=by
   rintro rfl;apply c1;rw[mI];intro i;rw[xAo,yAi,yAi];have p1:=h1.1 i;have p2:=h1.2.1 i;have p3:=h2.1 i;have p4:=h2.2.1 i
   grind
  rw[dqF this];exact aJ8
def tw(a w:Nat):Int:=fW a w+(2^(w-1):_)
def bAE(hw:1<=w):(2:Nat)^w=2^(w-1)+2^(w-1):=by have:(2:Nat)^(w-1+1)=2^(w-1)*2:=yEx ..;rw[show w-1+1=w by omega] at this;omega
def aEn(ha:a<2^w)(hw:1<=w):(a^^^2^(w-1):_)=tw a w:=by
 have h2:=bAE hw;unfold tw fW;by_cases c:2^(w-1)<=a
 .rw[if_pos c,aDu c (by rw[show w-1+1=w by omega];exact ha)];omega
 .rw[if_neg c,aBb ()];omega
def aJy(hw:1<=w)(h:Hd f a w)(i:Nat):((tt f w).N[i]! =Tt->(a^^^2^(w-1))[i]! =Ff)/\((tt f w).O[i]! =Tt->(a^^^2^(w-1))[i]! =Tt):=by
 have h1:=h.1 i;have h2:=h.2.1 i;show((f.N^^^((f.N^^^f.O)&&&eG 1 w))[i]! =Tt->_)/\((f.O^^^((f.N^^^f.O)&&&eG 1 w))[i]! =Tt->_);simp only[yAr,yAi,aJq hw,yFm];have key:∀ b n o x:Bool,(n=Tt->x=Ff)->(o=Tt->x=Tt)->((n ^^ ((n ^^ o)&&b))=Tt->(x ^^ b)=Ff)/\((o ^^ ((n ^^ o)&&b))=Tt->(x ^^ b)=Tt):=by decide
 exact key _ _ _ _ h1 h2
def aM6(kf:FtOk f w)(hd:f.N&&&f.O=0)(hw:1<=w)(ha:a<2^w)(h:Hd f a w):(((tt f w).O:Nat):Int)<=tw a w/\tw a w<=((2^w-1-(tt f w).N:Nat):Int):=by have hp:2^(w-1)<2^w:=yFf (·) ();have lN:(tt f w).N<2^w:=yBv kf.lN (xAi yFl (aEL 1 w));rw[<- aEn ha hw];exact(Int.ofNat_le.mpr (aEd λ i=>(aJy hw h i).2),Int.ofNat_le.mpr (aLc lN (yBv ha hp) λ i=>(aJy hw h i).1),)
def aPX(kf:FtOk f w)(kg:FtOk g w)(fd:f.N&&&f.O=0)(gd:g.N&&&g.O=0)(hw:1<=w)(ha:a<2^w)(hb:b<2^w)(h1:Hd f a w)(h2:Hd g b w):Hd (l3 ((tt f w).O:Nat) ((2^w-1-(tt f w).N:Nat):Int) ((tt g w).O:Nat) ((2^w-1-(tt g w).N:Nat):Int)) (decide (fW a w<fW b w)).toNat 1:=by
 have i1:=aM6 kf fd hw ha h1;have i2:=aM6 kg gd hw hb h2;have e:decide (fW a w<fW b w)=decide (tw a w<tw b w):=by
  rw[decide_eq_decide];unfold tw;omega
 rw[e];exact aJT i1.1 i1.2 i2.1 i2.2
def aQK(ht:Hd t c 1)(hc:c<2)(h1:Hd f a w)(h2:Hd g b w):Hd (qQ t f g) (if c=1 then a else b) w:=by
 unfold qQ;by_cases c1:t.O=1
 .have:c=1:=by
   have:=ht.2.1 0 (by rw[c1];rfl);rcases (show c=0\/c=1 by omega) with rfl|rfl
   .cases this
   .rfl
  rw[if_pos c1,if_pos this];exact h1
 .rw[if_neg c1];by_cases c2:t.N=1
  .have:c=0:=by
    have:=ht.1 0 (by rw[c2];rfl);rcases (show c=0\/c=1 by omega) with rfl|rfl
    .rfl
    .cases this
   rw[if_pos c2,if_neg ()];exact h2
  .rw[if_neg c2];have go:∀ {z:Nat}{h:Ft},Hd h z w->(∀ i,(f.N&&&g.N)[i]! =Tt->h.N[i]! =Tt)->(∀ i,(f.O&&&g.O)[i]! =Tt->h.O[i]! =Tt)->min f.A g.A<=h.A->Hd ⟨f.N&&&g.N,f.O&&&g.O,min f.A g.A⟩ z w:=λ {z h} q q1 q2 q3=>
    (λ i hi=>q.1 i (q1 i hi),λ i hi=>q.2.1 i (q2 i hi),tG q3 q.2.2,)
   have an:∀ {x y:Nat} i,(x&&&y)[i]! =Tt->x[i]! =Tt/\y[i]! =Tt:=λ i hi=>by
    rw[yAi,yBn] at hi;exact hi
   split
   .exact go h1 (λ i hi=>(an i hi).1) (λ i hi=>(an i hi).1) ()
   .exact go h2 (λ i hi=>(an i hi).2) (λ i hi=>(an i hi).2) ()
def aZS(a b:D):aU (.tuple [a,b]) (.int 0)=qz a:=rfl
def aY5(a b:D):aU (.tuple [a,b]) (.int 1)=qz b:=rfl
def aUa(a:Wd):bE .In (.str a.s) (.tuple [.str "add",.str "sub",.str "mul"])=qz (.bool (decide (a=.add\/a=.sub\/a=.mul))):=by cases a<;>rfl
def bAC(a:Wd):bE .In (.str a.s) (.tuple [.str "and",.str "or",.str "xor"])=qz (.bool (decide (a=.and\/a=.or\/a=.xor))):=by cases a<;>rfl
def fR{j:Int}(h:env[i]?=qz (qz (.d R)))(e:aU R (.int j)=qz x):ev C (.ix (.var i) (.int j)) env S=qz (.d x,S):=by erw[0,h,e]
noncomputable abbrev oe(R Wi Fs:D)(wd:Wd)(v:Int):bG:=[qz (.d R),qz (.d Wi),qz (.d Fs),qz (.d (Sz wd.s)),(v:)]
section
variable (C:Calls)(R Wi Fs:D)(v:Int)(S:aE)(wd:Wd)
theorem oN:tv C (.cmp .Eq (.var 3) (.str "in")) (oe R Wi Fs wd v) S=qz (decide (wd=.in),S):=dS rfl (bY wd .in)
theorem gS:tv C (.cmp .Eq (.var 3) (.str "num")) (oe R Wi Fs wd v) S=qz (decide (wd=.num),S):=dS rfl (bY wd .num)
theorem iM:tv C (.cmp .Eq (.var 3) (.str "not")) (oe R Wi Fs wd v) S=qz (decide (wd=.not),S):=dS rfl (bY wd .not)
theorem xJ:tv C (.cmp .Eq (.var 3) (.str "pick")) (oe R Wi Fs wd v) S=qz (decide (wd=.pick),S):=dS rfl (bY wd .pick)
theorem tS:tv C (.cmp .In (.var 3) (.con "SUMS" aEQ)) (oe R Wi Fs wd v) S=qz (decide (wd=.add\/wd=.sub\/wd=.mul),S):=lE rfl rfl (aUa wd)
theorem kE:tv C (.cmp .In (.var 3) (.con "SHIFTS" pG)) (oe R Wi Fs wd v) S=qz (decide (wd=.left\/wd=.right\/wd=.slide),S):=lE rfl rfl (aA2 wd)
theorem rH:tv C (.cmp .In (.var 3) (.con "COMPARES" nH)) (oe R Wi Fs wd v) S=qz (decide (wd=.same\/wd=.less\/wd=.under),S):=lE rfl rfl (aEe wd)
theorem aN0:tv C (.cmp .In (.var 3) (.tup (.cons (.str "and") (.cons (.str "or") (.cons (.str "xor") .nil))))) (oe R Wi Fs wd v) S=qz (decide (wd=.and\/wd=.or\/wd=.xor),S):=lE rfl rfl (bAC wd)
end
def aXf{wd:Wd}(h:wd=.cut\/wd=.wide\/wd=.sign):¬ wd=.in/\¬ wd=.num/\¬ wd=.not/\¬ (wd=.add\/wd=.sub\/wd=.mul)/\¬ (wd=.left\/wd=.right\/wd=.slide)/\¬ (wd=.same\/wd=.less\/wd=.under)/\¬ wd=.pick/\¬ (wd=.and\/wd=.or\/wd=.xor):=by erw[50,h]<;>decide
def aYB{wd:Wd}(h:wd=.and\/wd=.or\/wd=.xor):¬ wd=.in/\¬ wd=.num/\¬ wd=.not/\¬ (wd=.add\/wd=.sub\/wd=.mul)/\¬ (wd=.left\/wd=.right\/wd=.slide)/\¬ (wd=.same\/wd=.less\/wd=.under)/\¬ wd=.pick:=by erw[50,h]<;>decide
def aZe{wd:Wd}(h:wd=.left\/wd=.right\/wd=.slide):¬ wd=.in/\¬ wd=.num/\¬ wd=.not/\¬ (wd=.add\/wd=.sub\/wd=.mul):=by erw[50,h]<;>decide
section
variable (d:Nat)(R Wi Fs:D)(v:Int)(S:aE)
theorem aRT(f:Ft)(e0:aU R (.int 0)=qz (.str "not"))(e1:aU R (.int 1)=qz (.int v))(ef:aU Fs (.int 0)=qz f.d):cl fns (d+1) 46 [.d R,.d Wi,.d Fs] S=qz (.d (Ft.mk f.O f.N f.A).d,S):=by have t1:=oN (aF fns d) R Wi Fs v S .not;have t2:=gS (aF fns d) R Wi Fs v S .not;have t3:=iM (aF fns d) R Wi Fs v S .not;refine dB (S1:=S) rfl d rfl rfl yAf (bK (S1:=S) (w:=.d (Sz Wd.not.s)) (fR rfl e0) rfl (bK (S1:=S) (w:=.d (Iz v)) (fR rfl e1) rfl (aP t1 (aP t2 (bS t3 (aT ?_))))));erw[0,ef,iP,jE,kN]
theorem aPG(wd:Wd)(aN:wd=.left\/wd=.right\/wd=.slide)(f:Ft)(k:Nat)(g:D)(e0:aU R (.int 0)=qz (.str wd.s))(e1:aU R (.int 1)=qz (.int v))(e3:aU R (.int 3)=qz (.int k))(ef:aU Fs (.int 0)=qz f.d)(hk:cl fns d 39 [.d (Sz wd.s),.d (Iz v),.d f.d,.d (Iz k)] S=qz (.d g,S)):cl fns (d+1) 46 [.d R,.d Wi,.d Fs] S=qz (.d g,S):=by have t1:=oN (aF fns d) R Wi Fs v S wd;have t2:=gS (aF fns d) R Wi Fs v S wd;have t3:=iM (aF fns d) R Wi Fs v S wd;have t4:=tS (aF fns d) R Wi Fs v S wd;have t5:=kE (aF fns d) R Wi Fs v S wd;rw[dqT aN] at t5;let(n1,n2,n3,n4):=aZe aN;rw[dqF n1] at t1;rw[dqF n2] at t2;rw[dqF n3] at t3;rw[dqF n4] at t4;refine dB (S1:=S) rfl d rfl rfl yAf (bK (S1:=S) (w:=.d (Sz wd.s)) (fR rfl e0) rfl (bK (S1:=S) (w:=.d (Iz v)) (fR rfl e1) rfl (aP t1 (aP t2 (aP t3 (aP t4 (bS t5 (aT ?_))))))));erw[0,ef,e3,hk]
theorem aTG(wd:Wd)(aN:wd=.and\/wd=.or\/wd=.xor)(f g:Ft)(e0:aU R (.int 0)=qz (.str wd.s))(e1:aU R (.int 1)=qz (.int v))(ef:aU Fs (.int 0)=qz f.d)(eg:aU Fs (.int 1)=qz g.d):cl fns (d+3) 46 [.d R,.d Wi,.d Fs] S=qz (.d (bwN wd f g).d,S):=by have t1:=oN (d<$>2) R Wi Fs v S wd;have t2:=gS (d<$>2) R Wi Fs v S wd;have t3:=iM (d<$>2) R Wi Fs v S wd;have t4:=tS (d<$>2) R Wi Fs v S wd;have t5:=kE (d<$>2) R Wi Fs v S wd;have t6:=rH (d<$>2) R Wi Fs v S wd;have t7:=xJ (d<$>2) R Wi Fs v S wd;have t8:=aN0 (d<$>2) R Wi Fs v S wd;rw[dqT aN] at t8;let(n1,n2,n3,n4,n5,n6,n7):=aYB aN;rw[dqF n1] at t1;rw[dqF n2] at t2;rw[dqF n3] at t3;rw[dqF n4] at t4;rw[dqF n5] at t5;rw[dqF n6] at t6;rw[dqF n7] at t7;refine dB (S1:=S) rfl (d+2) rfl rfl yAf (bK (S1:=S) (w:=.d (Sz wd.s)) (fR rfl e0) rfl (bK (S1:=S) (w:=.d (Iz v)) (fR rfl e1) rfl (aP t1 (aP t2 (aP t3 (aP t4 (aP t5 (aP t6 (aP t7 (bS t8 (aT ?_)))))))))));erw[0,ef,eg,aPP d wd aN f g]
theorem aDE(wd:Wd)(aN:wd=.cut\/wd=.wide\/wd=.sign)(f:Ft)(w:Int)(g:D)(e0:aU R (.int 0)=qz (.str wd.s))(e1:aU R (.int 1)=qz (.int v))(ew:aU Wi (.int 0)=qz (.int w))(ef:aU Fs (.int 0)=qz f.d)(hk:cl fns d 40 [.d (Sz wd.s),.d (Iz w),.d (Iz v),.d f.d] S=qz (.d g,S)):cl fns (d+1) 46 [.d R,.d Wi,.d Fs] S=qz (.d g,S):=by have t1:=oN (aF fns d) R Wi Fs v S wd;have t2:=gS (aF fns d) R Wi Fs v S wd;have t3:=iM (aF fns d) R Wi Fs v S wd;have t4:=tS (aF fns d) R Wi Fs v S wd;have t5:=kE (aF fns d) R Wi Fs v S wd;have t6:=rH (aF fns d) R Wi Fs v S wd;have t7:=xJ (aF fns d) R Wi Fs v S wd;have t8:=aN0 (aF fns d) R Wi Fs v S wd;let(n1,n2,n3,n4,n5,n6,n7,n8):=aXf aN;rw[dqF n1] at t1;rw[dqF n2] at t2;rw[dqF n3] at t3;rw[dqF n4] at t4;rw[dqF n5] at t5;rw[dqF n6] at t6;rw[dqF n7] at t7;rw[dqF n8] at t8;refine dB (S1:=S) rfl d rfl rfl yAf (bK (S1:=S) (w:=.d (Sz wd.s)) (fR rfl e0) rfl (bK (S1:=S) (w:=.d (Iz v)) (fR rfl e1) rfl (aP t1 (aP t2 (aP t3 (aP t4 (aP t5 (aP t6 (aP t7 (aP t8 (aT ?_)))))))))));erw[0,ew,ef,hk]
theorem aD0(n:Nat)(g:Ft)(e1:aU R (.int 1)=qz (.int n))(ho:cl fns (d+3) 46 [.d R,.d Wi,.d Fs] S=qz (.d g.d,S))(hg:FtOk g n)(hn:n<=64):cl fns (d+4) 47 [.d R,.d Wi,.d Fs] S=qz (.d (iJ g n).d,S):=by rw[bX rfl (d+3) _ S rfl];erw[11,aM0,ho,e1,aQJ d g n hg hn]
end
def shN(wd:Wd)(w:Nat)(f:Ft)(k:Nat):Ft:=match wd with|.left=>xZ w f k|.right=>nP w f k|_=>xG w f k
def aDG(d:Nat)(wd:Wd)(aN:wd=.left\/wd=.right\/wd=.slide)(w:Nat)(f:Ft)(k:Nat)(hf:FtOk f w)(cC:1<=w)(hw:w<=64)(hk:k<=900)(S:aE):cl fns (d+4) 39 [.d (Sz wd.s),.d (Iz w),.d f.d,.d (Iz k)] S=qz (.d (shN wd w f k).d,S):=by
 have t1:=@dS [qz (.d (Sz wd.s)),(w:),qz (.d f.d),(k:)] 0 _ "left" _ S (d<$>3) rfl (bY wd .left);have t2:=@dS [qz (.d (Sz wd.s)),(w:),qz (.d f.d),(k:)] 0 _ "right" _ S (d<$>3) rfl (bY wd .right);erw[50,aN]
 .refine dB (S1:=S) rfl (d+3) rfl rfl yAf (bS t1 (aT ?_));have hq19:=aUb (d+1) w f k hf hw ();erw[0,hq19]
 .refine dB (S1:=S) rfl (d+3) rfl rfl yAf (aP t1 (bS t2 (aT ?_)));erw[0,aRi d w f k hw]
 .refine dB (S1:=S) rfl (d+3) rfl rfl yAf (aP t1 (aP t2 (aT ?_)));erw[0,aRJ d w f k cC hw hk]
def aDz(d:Nat)(f:Ft)(S:aE):cl fns (d+1) 22 [.d f.d] S=qz (.d (Iz (f.N|||f.O:_)),S):=by rw[bX rfl d _ S rfl];erw[11,aHz,iP,jE,gI]
def nF(n:Nat):((n:_)==1)=(n==1):=by rw[yCe,beq_iff_eq,beq_iff_eq];omega
def aJJ(d w:Nat)(f g:Ft)(hf:f.N<2^w)(hg:g.N<2^w)(hw:w<=64)(S:aE):cl fns (d+3) 42 [.d (Iz w),.d f.d,.d g.d] S=qz (.d (l3 (f.O:Nat) (2^w-1-f.N:_) (g.O:Nat) (2^w-1-g.N:_)).d,S):=by
 have g1:=aAE d f w hf hw S;have g2:=aAE d g w hg hw S;have l1:=wE (d+1) f S;have l2:=wE (d+1) g S;rw[bX rfl (d+2) _ S rfl];unfold l3;by_cases c1:(2^w-1-f.N:_)<(g.O:_)
 .rw[if_pos c1];erw[11,aAO,g1,l2,lD,dqT c1,yI,Tv.d]
 .rw[if_neg c1];by_cases c2:(2^w-1-g.N:_)<=(f.O:_)
  .rw[if_pos c2];erw[11,aAO,g1,l2,lD,dqF c1,l1,g2,xR,dqT c2,wD,Tv.d]
  .rw[if_neg c2];erw[11,aAO,g1,l2,lD,dqF c1,l1,g2,xR,dqF c2,sZ,Tv.d]
def aAT(d w:Nat)(f:Ft)(cC:1<=w)(hw:w<=64)(S:aE):cl fns (d+3) 43 [.d f.d,.d (Iz w)] S=qz (.d (tt f w).d,S):=by have t:cl fns (d+2) 21 [.d (Iz 1),.d (Iz w)] S=qz (.d (Iz ((eG 1 w:Nat):Int)),S):=qR d 1 w S cC hw;rw[bX rfl (d+2) _ S rfl];erw[11,aHp,Ft.d,t,iY,eE]
def aS5(d w:Nat)(f g:Ft)(hw:w<=64)(S:aE):cl fns (d+3) 41 [.d (Iz w),.d f.d,.d g.d] S=qz (.d (oS w f g).d,S):=by
 rw[bX rfl (d+2) _ S rfl];unfold oS;by_cases c1:f.N&&&g.O|||f.O&&&g.N=0
 .have d1:(f.N&&&g.O|||f.O&&&g.N==0)=Tt:=by rw[beq_iff_eq];exact c1
  rw[if_neg (by simp[c1])];by_cases c2:(f.N|||f.O)&&&(g.N|||g.O)=2^w-1
  .have d2:((f.N|||f.O)&&&(g.N|||g.O)==2^w-1)=Tt:=by rw[beq_iff_eq];exact c2
   rw[if_pos c2];have hq20:=dI (d+1) w ();erw[11,aAR,aAW (d+1),rJ,fH,d1,aDz (d+1),eE,hq20,cT,wI,d2,yI,Tv.d]
  .have d2:((f.N|||f.O)&&&(g.N|||g.O)==2^w-1)=Ff:=by rw[beq_eq_false_iff_ne];exact c2
   rw[if_neg c2];have hq21:=dI (d+1) w ();erw[11,aAR,aAW (d+1),rJ,fH,d1,aDz (d+1),eE,hq21,cT,wI,d2,sZ,Tv.d]
 .have d1:(f.N&&&g.O|||f.O&&&g.N==0)=Ff:=by rw[beq_eq_false_iff_ne];exact c1
  rw[if_pos c1];erw[11,aAR,aAW (d+1),rJ,fH,d1,wD,Tv.d]
def aUv(d:Nat)(t f g:Ft)(S:aE):cl fns (d+1) 45 [.d t.d,.d f.d,.d g.d] S=qz (.d (qQ t f g).d,S):=by
 rw[bX rfl d _ S rfl];unfold qQ;by_cases c1:t.O=1
 .have d1:(t.O==1)=Tt:=by rw[beq_iff_eq];exact c1
  rw[if_pos c1];erw[11,aAQ,jE,cT,nF,d1]
 .have d1:(t.O==1)=Ff:=by rw[beq_eq_false_iff_ne];exact c1
  rw[if_neg c1];by_cases c2:t.N=1
  .have d2:(t.N==1)=Tt:=by rw[beq_iff_eq];exact c2
   rw[if_pos c2];erw[11,aAQ,jE,iP,cT,nF,d1,d2]
  .have d2:(t.N==1)=Ff:=by rw[beq_eq_false_iff_ne];exact c2
   rw[if_neg c2];erw[11,aAQ,jE,iP,kN,cT,nF,d1,d2,eE,mH]
def qO(wd:Wd)(w:Nat)(f g:Ft):Ft:=match wd with|.same=>oS w f g|.less=>l3 (f.O:Nat) (2^w-1-f.N:_) (g.O:Nat) (2^w-1-g.N:_)|_=>l3 ((tt f w).O:Nat) ((2^w-1-(tt f w).N:Nat):Int) ((tt g w).O:Nat) ((2^w-1-(tt g w).N:Nat):Int)
def aZu(wd:Wd)(w:Nat)(f g:Ft):qO wd w f g=F1\/qO wd w f g=F0\/qO wd w f g=kQ:=by
 unfold qO;split
 .exact aYH ..
 .exact aNV ..
 .exact aNV ..
structure Ftd(f:Ft)(w:Nat):Prop where
 ok:FtOk f w
 dj:f.N&&&f.O=0
def aQb(d:Nat)(wd:Wd)(aN:wd=.same\/wd=.less\/wd=.under)(w:Nat)(f g:Ft)(hf:Ftd f w)(hg:Ftd g w)(cC:1<=w)(hw:w<=64)(S:aE):cl fns (d+4) 44 [.d (Sz wd.s),.d (Iz w),.d f.d,.d g.d] S=qz (.d (qO wd w f g).d,S):=by
 have t1:=@dS [qz (.d (Sz wd.s)),(w:),qz (.d f.d),qz (.d g.d)] 0 _ "same" _ S (d<$>3) rfl (bY wd .same);have t2:=@dS [qz (.d (Sz wd.s)),(w:),qz (.d f.d),qz (.d g.d)] 0 _ "less" _ S (d<$>3) rfl (bY wd .less);erw[50,aN]
 .refine dB (S1:=S) rfl (d+3) rfl rfl yAf (bS t1 (aT ?_));erw[0,aS5 d w f g hw]
 .refine dB (S1:=S) rfl (d+3) rfl rfl yAf (aP t1 (bS t2 (aT ?_)));erw[0,aJJ d w f g hf.ok.lN hg.ok.lN hw]
 .refine dB (S1:=S) rfl (d+3) rfl rfl yAf (aP t1 (aP t2 (aT ?_)));erw[0,aAT d w f cC hw,aAT d w g cC hw,aJJ d w (tt f w) (tt g w) (aMX hf.ok hf.dj cC) (aMX hg.ok hg.dj cC) hw]
def Sw.wd:Sw->Wd
 |.add=>.add|.sub=>.sub|.mul=>.mul
def aAD(x:Int)(L:Nat):cD .BitAnd (.int x) (.int (2^L-1:_))=qz (.int ((cJ x L:Nat):Int)):=by
 have hp:=xAe L;by_cases c:0<=x
 .obtain⟨n,rfl⟩:∃ n:Nat,x=(n:Nat):=(x.toNat,(),);rw[eE,aVr,yCu]
 .have h1:decide ((0:Int)<=x)=Ff:=dqF c;have h2:decide ((0:Int)<=(2^L-1:_))=Tt:=dqT ();obtain⟨b,hb⟩:∃ b:Nat,yBo x=(b:Nat):=((yBo x).toNat,by unfold yBo;omega,);have hx:x = -(b:_)-1:=by unfold yBo at hb;omega
  have e:(2^L-1)&&&b=b%2^L:=by rw[Nat.and_comm,yCu]
  have hm:=yGh b hp;have hr:=pM x L;have e2:x%(2^L:_)=(2^L:_)-1-(b%2^L:_):=by
   have hd:(b:Int)=(2^L:_)*(b/2^L:_)+(b%2^L:_):=by
    rw[<- yCf,<- Int.natCast_add,yEy]
   have hx2:x=((2^L:_)-1-(b%2^L:_))+(2^L:_)*(-(b/2^L:_)-1):=by
    rw[hx,hd,Int.mul_sub,Int.mul_neg,Int.mul_one];omega
   rw[hx2,Int.add_mul_emod_self_left,Int.emod_eq_of_lt () ()]
  simp only[cD,mO];unfold yEq;rw[h1,h2];simp only[hb,yAu,e];congr 2;omega
def aC7(d:Nat)(s:Sw)(x y:Nat)(hx:x<2^64)(S:aE):cl fns (d+1) 26 [.d (Sz s.wd.s),.d (Iz x),.d (Iz y)] S=qz (.d (Iz (s.oc (x:Nat) (y:Nat))),S):=by
 have t1:=@dS [qz (.d (Sz s.wd.s)),(x:),(y:)] 0 _ "add" _ S (aF fns d) rfl (bY s.wd .add);have t2:=@dS [qz (.d (Sz s.wd.s)),(x:),(y:)] 0 _ "sub" _ S (aF fns d) rfl (bY s.wd .sub);cases s with
 |add=>
   refine dB (S1:=S) rfl d rfl rfl yAf (bS t1 (aT ?_));erw[0,iL]
 |sub=>
   refine dB (S1:=S) rfl d rfl rfl yAf (aP t1 (bS t2 (aT ?_)));erw[0,dR]
 |mul=>
   refine dB (S1:=S) rfl d rfl rfl yAf (aP t1 (aP t2 (aT ?_)));have hq22:=@vY (x:Int) (y:Int) () ();erw[0,hq22]
def p64(h:n<2^w)(hw:w<=64):n<2^64:=xAb h (yAm (·) hw)
def aTi(d:Nat)(s:Sw)(w:Nat)(f g:Ft)(hf:FtOk f w)(hw:w<=64)(S:aE):cl fns (d+3) 27 [.d (Sz s.wd.s),.d f.d,.d g.d] S=qz (.d (Tz [Iz ((uR s f g:Nat):Int),Iz ((mY s f g:Nat):Int)]),S):=by have hL:=aDX (g:=g) hf;have e1:=aEP d ((f.N|||f.O)&&&(g.N|||g.O)) S;have e2:=dI (d+1) (gX f g) (show gX f g<=100000 by omega) S;rw[bX rfl (d+2) _ S rfl];erw[20,gH,aHO,aDz (d+1),eE];rw[e1];erw[20,show lr ((f.N|||f.O)&&&(g.N|||g.O))=gX f g from rfl];rw[e2];erw[0,wE (d+1),aC7 (d+1) s f.O g.O (p64 hf.lO hw),aAD,iY]
def aQX(d:Nat)(s:Sw)(w:Nat)(f g:Ft)(hf:FtOk f w)(hg:FtOk g w)(hw:w<=64)(S:aE):cl fns (d+3) 29 [.d (Sz s.wd.s),.d (Iz w),.d f.d,.d g.d] S=qz (.d (Tz [Iz (hJ s w f g),Iz (gZ s w f g)]),S):=by
 have g1:=aAE d f w hf.lN hw S;have g2:=aAE d g w hg.lN hw S;have l1:=wE (d+1) f S;have l2:=wE (d+1) g S;have hp:=xAe w;have o1:=aC7 (d+1) s f.O g.O (p64 hf.lO hw) S;have o2:=aC7 (d+1) s (2^w-1-f.N) (2^w-1-g.N) (@p64 _ w () hw) S;have t1:bE .Eq (.str s.wd.s) (.str "sub")=qz (.bool (decide (s.wd=.sub))):=bY s.wd .sub;rw[bX rfl (d+2) _ S rfl];cases s with
 |sub=>
   have t:bE .Eq (.str Sw.sub.wd.s) (.str "sub")=qz (.bool Tt):=t1;erw[11,aBa,t,g1,g2,l1,l2,dR]
 |add=>
   have t:bE .Eq (.str Sw.add.wd.s) (.str "sub")=qz (.bool Ff):=t1;erw[11,aBa,t,g1,g2,l1,l2,o1,o2]
 |mul=>
   have t:bE .Eq (.str Sw.mul.wd.s) (.str "sub")=qz (.bool Ff):=t1;erw[11,aBa,t,g1,g2,l1,l2,o1,o2]
def aQy(d l g w:Nat)(S:aE)(hl:l<2^w)(hg:g<2^w)(hw:w<=64):cl fns (d+3) 6 [.d (Iz l),.d (Iz g),.d (Iz w)] S=qz (.d (Tz [Iz (vU l g w:Nat),Iz (pS l g w:Nat)]),S):=by have hx:l^^^g<2^10000:=aLf (yBv hl hg) ();rw[bX rfl (d+2) _ S rfl];have hq23:=dI (d+1) w ();erw[11,aHl,hq23,iY,aJd d (l^^^g) _ hx,eE]
def aZp(s:Sw)(w:Nat)(f g:Ft)(hf:FtOk f w)(hg:FtOk g w)(ha:a<2^w)(hb:b<2^w)(h1:Hd f a w)(h2:Hd g b w):hJ s w f g<=gZ s w f g:=by have:=aNe s hf hg ha hb h1 h2;omega
def aSZ(d:Nat)(s:Sw)(w:Nat)(f g:Ft)(hf:FtOk f w)(hg:FtOk g w)(hb:hJ s w f g<=gZ s w f g)(hw:w<=64)(S:aE):cl fns (d+4) 30 [.d (Sz s.wd.s),.d (Iz w),.d f.d,.d g.d] S=qz (.d (Tz [Iz ((sN s w f g:Nat):Int),Iz ((sO s w f g:Nat):Int)]),S):=by
 have b1:=aQX d s w f g hf hg hw S;have hp:=xAe w;rw[bX rfl (d+3) _ S rfl];unfold sN sO;by_cases c1:hJ s w f g<0
 .rw[if_pos (.inl c1),if_pos (.inl c1)];erw[11,aAJ,b1,lD,dqT c1]
 .by_cases c2:(2^w-1:_)<gZ s w f g
  .rw[if_pos (.inr c2),if_pos (.inr c2)];have hq24:=dI (d+2) w ();erw[11,aAJ,b1,lD,dqF c1,hq24,nN,dqT c2]
  .have c:¬ (hJ s w f g<0\/gZ s w f g>(2^w-1:_)):=λ h=>h.elim c1 c2
   rw[if_neg c,if_neg c];obtain⟨l,hl⟩:∃ l:Nat,hJ s w f g=(l:Nat):=((hJ s w f g).toNat,(),);obtain⟨u,hu⟩:∃ u:Nat,gZ s w f g=(u:Nat):=((gZ s w f g).toNat,(),);rw[hl] at c1;rw[hu] at c2;rw[hl,hu] at b1 hb;rw[hl,hu,yAu,yAu];have hq25:=dI (d+2) w ();have hq26:=aQy d l u w S () () hw;erw[11,aAJ,b1,lD,dqF c1,hq25,nN,dqF c2,hq26]
def aUu(d:Nat)(s:Sw)(w:Nat)(f g:Ft)(hw:w<=64)(S:aE):cl fns (d+3) 28 [.d (Sz s.wd.s),.d (Iz w),.d f.d,.d g.d] S=qz (.d (Iz ((sK s w f g:Nat):Int)),S):=by
 rw[bX rfl (d+2) _ S rfl];cases s with
 |add=>
   have t:bE .NotEq (.str Sw.add.wd.s) (.str "mul")=qz (.bool Tt):=by kernel_rfl
   erw[11,aAC,t]
 |sub=>
   have t:bE .NotEq (.str Sw.sub.wd.s) (.str "mul")=qz (.bool Tt):=by kernel_rfl
   erw[11,aAC,t]
 |mul=>
   have t:bE .NotEq (.str Sw.mul.wd.s) (.str "mul")=qz (.bool Ff):=by kernel_rfl
   have e:((lr f.N:Nat):Int)+((lr g.N:Nat):Int)=((lr f.N+lr g.N:Nat):Int):=();have hq27:=dI (d+1) (min w (lr f.N+lr g.N)) ();erw[11,aAC,t,iP,aEP d,iL,e,mH,hq27]
def aQ5(d:Nat)(s:Sw)(f g:Ft)(S:aE):cl fns (d+1) 31 [.d (Sz s.wd.s),.d f.d,.d g.d] S=qz (.d (Iz ((lZ s f g:Nat):Int)),S):=by
 have e:∀ m:Nat,qA [.int 1,.int ((m:_)-1)]=qz (.int ((max 1 (m-1):Nat):Int)):=λ m=>aDC m 1
 rw[bX rfl d _ S rfl];cases s with
 |add=>
   have t:bE .Eq (.str Sw.add.wd.s) (.str "mul")=qz (.bool Ff):=bY .add .mul;erw[11,aAP,t,kN,mH,dR,e]
 |sub=>
   have t:bE .Eq (.str Sw.sub.wd.s) (.str "mul")=qz (.bool Ff):=bY .sub .mul;erw[11,aAP,t,kN,mH,dR,e]
 |mul=>
   have t:bE .Eq (.str Sw.mul.wd.s) (.str "mul")=qz (.bool Tt):=bY .mul .mul;erw[11,aAP,t]
def aX8(d:Nat)(s:Sw)(w:Nat)(f g:Ft)(hf:FtOk f w)(hg:FtOk g w)(hb:hJ s w f g<=gZ s w f g)(hw:w<=64)(S:aE):cl fns (d+5) 32 [.d (Sz s.wd.s),.d (Iz w),.d f.d,.d g.d] S=qz (.d (zC s w f g).d,S):=by rw[bX rfl (d+4) _ S rfl];erw[11,aIq,aTi (d+1) s w f g hf hw,aSZ d s w f g hf hg hb hw,aZS,aY5,gI,aUu (d+1) s w f g hw,aQ5 (d+3) s f g]
section
variable (d:Nat)(R Wi Fs:D)(v:Nat)(S:aE)
theorem aRz(s:Sw)(f g:Ft)(e0:aU R (.int 0)=qz (.str s.wd.s))(e1:aU R (.int 1)=qz (.int v))(ef:aU Fs (.int 0)=qz f.d)(eg:aU Fs (.int 1)=qz g.d)(hf:FtOk f v)(hg:FtOk g v)(hb:hJ s v f g<=gZ s v f g)(hv:v<=64):cl fns (d+6) 46 [.d R,.d Wi,.d Fs] S=qz (.d (zC s v f g).d,S):=by
 have aN:s.wd=.add\/s.wd=.sub\/s.wd=.mul:=by
  cases s
  .exact .inl rfl
  .exact .inr (.inl rfl)
  .exact .inr (.inr rfl)
 have t1:=oN (d<$>5) R Wi Fs (v:Nat) S s.wd;have t2:=gS (d<$>5) R Wi Fs (v:Nat) S s.wd;have t3:=iM (d<$>5) R Wi Fs (v:Nat) S s.wd;have t4:=tS (d<$>5) R Wi Fs (v:Nat) S s.wd;rw[dqT aN] at t4;rw[dqF (by rcases aN with h|h|h<;>rw[h]<;>decide)] at t1 t2 t3;refine dB (S1:=S) rfl (d+5) rfl rfl yAf (bK (S1:=S) (w:=.d (Sz s.wd.s)) (fR rfl e0) rfl (bK (S1:=S) (w:=.d (Iz v)) (fR rfl e1) rfl (aP t1 (aP t2 (aP t3 (bS t4 (aT ?_)))))));erw[0,ef,eg,aX8 d s v f g hf hg hb hv]
end
section
variable {f:Ft}{w:Nat}(hf:FtOk f w)(hd:f.N&&&f.O=0)(cC:1 <= w)
include hf hd cC
theorem aUs(k:Nat):FtOk (xZ w f k) w:=by have m:=@aJ6 w _ k hd;have:=hf.aw;exact(m.lN,m.lO,yBt _ _,Nat.max_le.mpr (cC,xAh (yFd _ _) this,),)
theorem aRL(k:Nat):FtOk (nP w f k) w:=by
 have m:=aJl k hf hd;have h1:=hf.aw;have h2:=hf.a1;refine(m.lN,m.lO,?_,?_,)
 .show 1<=if k=0 then f.A else 1
  split<;>omega
 .show(if k=0 then f.A else 1)<=w;split<;>omega
theorem aSm(k:Nat):FtOk (xG w f k) w:=by have m:=aI6 k cC hf hd;have h1:=hf.a1;exact(m.lN,m.lO,by show 1<=min w (f.A+k);omega,by show min w (f.A+k)<=w;omega,)
theorem aWv(hv1:1<=v)(hv:v<=w):FtOk (zT w v f) v:=by have m:=aLS w v hd;have h1:=hf.aw;exact(m.lN,m.lO,yBt _ _,by show max 1 (f.A-(w-v))<=v;omega,)
theorem aTH(hv:w<=v):FtOk (oC w v f) v:=by
 have m:=aKp hv hf hd;have h1:=hf.aw;have h2:=hf.a1;refine(m.lN,m.lO,?_,?_,)
 .show 1<=if v=w then f.A else 1
  split<;>omega
 .show(if v=w then f.A else 1)<=v;split<;>omega
theorem aUn(hv:w<=v):FtOk (xW w v f) v:=by have m:=aKh cC hv hf hd;have h1:=hf.aw;have h2:=hf.a1;exact(m.lN,m.lO,by show 1<=f.A+(v-w);omega,by show f.A+(v-w)<=v;omega,)
end
def bAD(hb:b=0\/b=1\/b=2)(hf:FtOk f w)(hd:f.N&&&f.O=0)(hg:FtOk g w)(he:g.N&&&g.O=0):FtOk (uX b f g) w:=by have m:=aMH b hb hf hd hg he;have h1:=hf.a1;have h2:=hg.a1;have h3:=hf.aw;erw[50,hb]<;>exact(m.lN,m.lO,by show 1<=min f.A g.A;omega,by show min f.A g.A<=w;omega,)
section
variable (d:Nat)(R Wi Fs:D)(v:Int)(S:aE)
theorem nc5{wd:Wd}(h:wd=.same\/wd=.less\/wd=.under):wd≠.in/\wd≠.num/\wd≠.not/\(¬ (wd=.add\/wd=.sub\/wd=.mul))/\¬ (wd=.left\/wd=.right\/wd=.slide):=by erw[50,h]<;>decide
theorem aQo(wd:Wd)(aN:wd=.same\/wd=.less\/wd=.under)(w:Nat)(f g:Ft)(e0:aU R (.int 0)=qz (.str wd.s))(e1:aU R (.int 1)=qz (.int v))(ew:aU Wi (.int 0)=qz (.int w))(ef:aU Fs (.int 0)=qz f.d)(eg:aU Fs (.int 1)=qz g.d)(hf:Ftd f w)(hg:Ftd g w)(cC:1<=w)(hw:w<=64):cl fns (d+5) 46 [.d R,.d Wi,.d Fs] S=qz (.d (qO wd w f g).d,S):=by have t1:=oN (d<$>4) R Wi Fs v S wd;have t2:=gS (d<$>4) R Wi Fs v S wd;have t3:=iM (d<$>4) R Wi Fs v S wd;have t4:=tS (d<$>4) R Wi Fs v S wd;have t5:=kE (d<$>4) R Wi Fs v S wd;have t6:=rH (d<$>4) R Wi Fs v S wd;let(n1,n2,n3,n4,n5):=nc5 aN;rw[dqT aN] at t6;rw[dqF n1] at t1;rw[dqF n2] at t2;rw[dqF n3] at t3;rw[dqF n4] at t4;rw[dqF n5] at t5;refine dB (S1:=S) rfl (d+4) rfl rfl yAf (bK (S1:=S) (w:=.d (Sz wd.s)) (fR rfl e0) rfl (bK (S1:=S) (w:=.d (Iz v)) (fR rfl e1) rfl (aP t1 (aP t2 (aP t3 (aP t4 (aP t5 (bS t6 (aT ?_)))))))));erw[0,ew,ef,eg,aQb d wd aN w f g hf hg cC hw]
theorem aPz(t f g:Ft)(e0:aU R (.int 0)=qz (.str "pick"))(e1:aU R (.int 1)=qz (.int v))(et:aU Fs (.int 0)=qz t.d)(ef:aU Fs (.int 1)=qz f.d)(eg:aU Fs (.int 2)=qz g.d):cl fns (d+2) 46 [.d R,.d Wi,.d Fs] S=qz (.d (qQ t f g).d,S):=by have t1:=oN (d<$>1) R Wi Fs v S .pick;have t2:=gS (d<$>1) R Wi Fs v S .pick;have t3:=iM (d<$>1) R Wi Fs v S .pick;have t4:=tS (d<$>1) R Wi Fs v S .pick;have t5:=kE (d<$>1) R Wi Fs v S .pick;have t6:=rH (d<$>1) R Wi Fs v S .pick;have t7:=xJ (d<$>1) R Wi Fs v S .pick;refine dB (S1:=S) rfl (d+1) rfl rfl yAf (bK (S1:=S) (w:=.d (Sz Wd.pick.s)) (fR rfl e0) rfl (bK (S1:=S) (w:=.d (Iz v)) (fR rfl e1) rfl (aP t1 (aP t2 (aP t3 (aP t4 (aP t5 (aP t6 (bS t7 (aT ?_))))))))));erw[0,et,ef,eg,aUv d t f g]
end
structure Op(f:Ft)(w:Nat):Prop where
 ok:FtOk f w
 ho:∃ a,a<2^w/\Hd f a w
 w1:1<=w
 w2:w<=64
def Op.dj(o:Op f w):f.N&&&f.O=0:=by let(a,_,h):=o.ho;exact bA6 h
def aW:Wd->Nat
 |.in|.num=>0
 |.not|.left|.right|.slide|.cut|.wide|.sign=>1
 |.pick=>3|_=>2
def aSV(wd:Wd):aCi vL (.str wd.s)=qz (.int (aW wd:Nat)):=by cases wd<;>kernel_rfl
def iO(r:Rw):aU r.d (Iz 0)=qz (.str r.wd.s):=@iK (.str r.wd.s::nD r.w::r.args.map nD) 0 _ rfl
def aTf{fa:FE}{fl fh:FO}(r:Rw)(c:Nat)(h1:fa env S=qz (.d r.d,S))(h2:fl env S=qz (qz 2,S))(h3:fh env S=qz (qz (2+c:_),S)):sI fa fl fh env S=qz (.d (Tz ((r.args.take c).map nD)),S):=by
 have i2:HT.sIx ↑(Sz r.wd.s::nD r.w::r.args.map nD) 0 (qz 2)=2:=by
  rw[show(2:Int)=(2:_) from rfl,HT.sIx_nat];simp
 have e:gK (Sz r.wd.s::nD r.w::r.args.map nD) (qz 2) (qz (2+c:_))=(r.args.take c).map nD:=by
  unfold gK;rw[i2,HT.sIx_nat];simp only[List.drop_succ_cons,yGi,yAn,yAd];rw[List.map_take];rcases yIh c ↑r.args with z|z
  .rw[yDq (),show 2+c-2=c by omega]
  .rw[yDv (),yCi (by simp),yCi (by simpa using z)]
 unfold sI;rw[h1,oB];simp only[];rw[h2,oB];simp only[];rw[h3,oB];simp only[dr,oB,Rw.d];rw[e]
def pC(d:Nat)(r:Rw)(S:aE):cl fns (d+1) 7 [.d r.d] S=qz (.d (Tz ((r.args.take (aW r.wd)).map nD)),S):=by
 have e2:(2:Int)+((aW r.wd:Nat):Int)=((2+aW r.wd:Nat):Int):=();have sl:ev (aF fns d) (.sl (.var 0) (.cons (.int 2) .nil) (.cons (.bin .Add (.int 2) (.tab "OPERAND_COUNTS" vL (.ix (.var 0) (.int 0)))) .nil)) [qz (.d r.d)] S=qz (.d (Tz ((r.args.take (aW r.wd)).map nD)),S):=by
  simp only[aFu];refine aTf r (aW r.wd) (by erw[20,True]) (by erw[20,tW]) ?_;erw[0,tW,iO,aSV,iL,e2]
 rw[bX rfl d _ S rfl];show((kM (qC (ev (aF fns d) (.sl (.var 0) (.cons (.int 2) .nil) (.cons (.bin .Add (.int 2) (.tab "OPERAND_COUNTS" vL (.ix (.var 0) (.int 0)))) .nil)))) uG) [qz (.d r.d)] S).bind _=_;simp only[kM,qC,sl,oB,rT,yAf]
inductive RwOk:Rw->List Nat->Prop
 |inp {w:Nat} (h1:1<=w) (h2:w<=64):RwOk ⟨.in,w,[]⟩ []
 |num {w n:Nat} (h1:1<=w) (h2:w<=64) (hn:n<2^w):RwOk ⟨.num,w,[n]⟩ []
 |nt {w a:Nat} (h1:1<=w) (h2:w<=64):RwOk ⟨.not,w,[a]⟩ [w]
 |sh {wd:Wd}{w a k:Nat} (h1:1<=w) (h2:w<=64) (aN:wd=.left\/wd=.right\/wd=.slide) (hk:k<64):RwOk ⟨wd,w,[a,k]⟩ [w]
 |cut {w v a:Nat} (h1:1<=w) (hv:w<=v) (h2:v<=64):RwOk ⟨.cut,w,[a]⟩ [v]
 |wide {w v a:Nat} (h1:1<=v) (hv:v<=w) (h2:w<=64):RwOk ⟨.wide,w,[a]⟩ [v]
 |sign {w v a:Nat} (h1:1<=v) (hv:v<=w) (h2:w<=64):RwOk ⟨.sign,w,[a]⟩ [v]
 |bw {wd:Wd}{w a b:Nat} (h1:1<=w) (h2:w<=64) (aN:wd=.and\/wd=.or\/wd=.xor):RwOk ⟨wd,w,[a,b]⟩ [w,w]
 |sm {s:Sw}{w a b:Nat} (h1:1<=w) (h2:w<=64):RwOk ⟨s.wd,w,[a,b]⟩ [w,w]
 |cmp {wd:Wd}{v a b:Nat} (h1:1<=v) (h2:v<=64) (aN:wd=.same\/wd=.less\/wd=.under):RwOk ⟨wd,1,[a,b]⟩ [v,v]
 |pick {w c a b:Nat} (h1:1<=w) (h2:w<=64):RwOk ⟨.pick,w,[c,a,b]⟩ [1,w,w]
def kO:Li Nat->Li Nat->Prop
 |w::ws,n::ns=>n<2^w/\kO ws ns|[],[]=>True|_,_=>False
def gF(h:kO [w] ns):∃ a,ns=[a]/\a<2^w:=by
 rcases ns with _|⟨a,_|⟨b,r⟩⟩
 .exact h.elim
 .exact(a,rfl,h.1,)
 .exact h.2.elim
def lS(h:kO [w,v] ns):∃ a b,ns=[a,b]/\a<2^w/\b<2^v:=by
 rcases ns with _|⟨a,_|⟨b,_|⟨c,r⟩⟩⟩
 .exact h.elim
 .exact h.2.elim
 .exact(a,b,rfl,h.1,h.2.1,)
 .exact h.2.2.elim
def aCf(h:kO [w,v,u] ns):∃ a b c,ns=[a,b,c]/\a<2^w/\b<2^v/\c<2^u:=by
 rcases ns with _|⟨a,_|⟨b,_|⟨c,_|⟨e,r⟩⟩⟩⟩
 .exact h.elim
 .exact h.2.elim
 .exact h.2.2.elim
 .exact(a,b,c,rfl,h.1,h.2.1,h.2.2.1,)
 .exact h.2.2.2.elim
def oW(wd:Wd)(w a k:Nat):Nat:=match wd with|.left=>a*2^k%2^w|.right=>a/2^k|_=>cG a w (w+k)/2^k
def jW(wd:Wd)(w a b:Nat):Bool:=match wd with|.same=>decide (a=b)|.less=>decide ((a:Int)<(b:Int))|_=>decide (fW a w<fW b w)
def oU(wd:Wd)(w a b:Nat):Nat:=match wd with|.and=>a&&&b|.or=>a|||b|.xor=>a^^^b|.add=>cJ ((a:Nat)+(b:Nat):Int) w|.sub=>cJ ((a:Nat)-(b:Nat):Int) w|_=>cJ ((a:Nat)*(b:Nat):Int) w
def g0(l:Li Nat)(i:Nat):Nat:=l.getD i 0
def cY(r:Rw)(ws ns:Li Nat):Nat:=match r.wd with
 |.in=>0|.num=>g0 r.args 0|.not=>2^r.w-1-g0 ns 0
 |.left|.right|.slide=>oW r.wd r.w (g0 ns 0) (g0 r.args 1)
 |.cut=>g0 ns 0%2^r.w|.wide=>g0 ns 0|.sign=>cG (g0 ns 0) (g0 ws 0) r.w
 |.same|.less|.under=>(jW r.wd (g0 ws 0) (g0 ns 0) (g0 ns 1)).toNat
 |.pick=>if g0 ns 0=1 then g0 ns 1 else g0 ns 2
 |wd=>oU wd r.w (g0 ns 0) (g0 ns 1)
def aKj(hn:n<2^w):n^^^(2^w-1)=2^w-1-n:=by
 apply xAl;intro i;rw[yAr,dP];have:=mL hn i;unfold oY at this;rw[this];by_cases c:i<w
 .rw[dqT c,yAp];cases n[i]!<;>rfl
 .rw[dqF c,cX hn ()];rfl
def aIu(d a w:Nat)(cC:1<=w)(hw:w<=64)(S:aE):cl fns (d+1) 70 [.d (Iz a),.d (Iz w)] S=qz (.d (Iz (a^^^2^(w-1):_)),S):=by have e1:(w:Int)-1=(w-1:_):=();rw[bX rfl d _ S rfl];have hq28:=kU (show w-1<=100000 by omega);erw[11,aJH,dR,e1,hq28,iY]
def aDA(h:env[i]?=qz (qz (.d (Bz b)))):ev C (.ite (.var i) (.int 1) (.int 0)) env S=qz (.d (Iz (b.toNat:_)),S):=by
 cases b
 .erw[0,h]
 .erw[0,h]
def aPh(d:Nat)(wd:Wd)(aN:wd=.same\/wd=.less\/wd=.under)(w a b:Nat)(cC:1<=w)(hw:w<=64)(ha:a<2^w)(hb:b<2^w)(S:aE):cl fns (d+2) 71 [.d (Sz wd.s),.d (Iz w),.d (Iz a),.d (Iz b)] S=qz (.d (Iz (((jW wd w a b).toNat:Nat):Int)),S):=by
 have t1:=@dS [qz (.d (Sz wd.s)),(w:),(a:),(b:),qj] 0 _ "same" _ S (d<$>1) rfl (bY wd .same);have t2:=@dS [qz (.d (Sz wd.s)),(w:),(a:),(b:),qj] 0 _ "less" _ S (d<$>1) rfl (bY wd .less);have e:(a==b)=decide (a=b):=by rw[yCe,beq_iff_eq,decide_eq_true_eq]
 erw[50,aN]
 .refine dB (S1:=S) rfl (d+1) rfl rfl yAf (cK (jB t1 (hV (w:=.d (Bz (decide (a=b)))) ?_)) (aT (aDA rfl)));erw[0,cT,wI,e]
 .refine dB (S1:=S) rfl (d+1) rfl rfl yAf (cK (jA t1 (fK (jB t2 (hV (w:=.d (Bz (decide ((a:Int)<(b:Int))))) ?_)))) (aT (aDA rfl)));erw[0,lD]
 .refine dB (S1:=S) rfl (d+1) rfl rfl yAf (cK (jA t1 (fK (jA t2 (hV (w:=.d (Bz (decide (fW a w<fW b w)))) ?_)))) (aT (aDA rfl)));have e2:decide (tw a w<tw b w)=decide (fW a w<fW b w):=by
   rw[decide_eq_decide];unfold tw;omega
  erw[0,aIu d a w cC hw,aIu d b w cC hw,lD,aEn ha cC,aEn hb cC,e2]
def aIp(n w:Nat):n&&&(2^w-1)=n%2^w:=yCu n w
def aPL(d:Nat)(wd:Wd)(aN:wd=.left\/wd=.right\/wd=.slide)(w a k:Nat)(cC:1<=w)(hw:w<=64)(ha:a<2^w)(hk:k<=900)(S:aE):cl fns (d+3) 72 [.d (Sz wd.s),.d (Iz w),.d (Iz a),.d (Iz k)] S=qz (.d (Iz ((oW wd w a k:Nat):Int)),S):=by
 have t1:=@dS [qz (.d (Sz wd.s)),(w:),(a:),(k:)] 0 _ "left" _ S (d<$>2) rfl (bY wd .left);have t2:=@dS [qz (.d (Sz wd.s)),(w:),(a:),(k:)] 0 _ "right" _ S (d<$>2) rfl (bY wd .right);have e1:(w:Int)+(k:Int)=(w+k:_):=();erw[50,aN]
 .refine dB (S1:=S) rfl (d+2) rfl rfl yAf (bS t1 (aT ?_));have hq29:=tJ ha (show w+k<=100000 by omega);have hq30:=dI (d+1) w ();erw[0,hq29,hq30,eE,aIp]
 .refine dB (S1:=S) rfl (d+2) rfl rfl yAf (aP t1 (bS t2 (aT ?_)));erw[0,jN]
 .refine dB (S1:=S) rfl (d+2) rfl rfl yAf (aP t1 (aP t2 (aT ?_)));have hq31:=sU d a w (w+k) S () () hw;erw[0,iL,e1,hq31,jN]
def aPm(d:Nat)(wd:Wd)(aN:(wd=.and\/wd=.or\/wd=.xor)\/wd=.add\/wd=.sub\/wd=.mul)(w a b:Nat)(hw:w<=64)(ha:a<2^w)(S:aE):cl fns (d+2) 73 [.d (Sz wd.s),.d (Iz w),.d (Iz a),.d (Iz b)] S=qz (.d (Iz ((oU wd w a b:Nat):Int)),S):=by
 have t:∀ (x:Str) (v:Wd),x=v.s->tv (d<$>1) (.cmp .Eq (.var 0) (.str x)) [qz (.d (Sz wd.s)),(w:),(a:),(b:)] S=qz (decide (wd=v),S):=λ x v hx=>by
  subst hx;exact dS rfl (bY wd v)
 have t1:=t "and" .and rfl;have t2:=t "or" .or rfl;have t3:=t "xor" .xor rfl;have t4:=t "add" .add rfl;have t5:=t "sub" .sub rfl;have h64:=p64 ha hw;rcases aN with (rfl|rfl|rfl)|rfl|rfl|rfl
 .refine dB (S1:=S) rfl (d+1) rfl rfl yAf (bS t1 (aT ?_));erw[0,eE]
 .refine dB (S1:=S) rfl (d+1) rfl rfl yAf (aP t1 (bS t2 (aT ?_)));erw[0,gI]
 .refine dB (S1:=S) rfl (d+1) rfl rfl yAf (aP t1 (aP t2 (bS t3 (aT ?_))));erw[0,iY]
 .refine dB (S1:=S) rfl (d+1) rfl rfl yAf (aP t1 (aP t2 (aP t3 (bS t4 (aT ?_)))));have hq32:=dI d w ();erw[0,iL,hq32,aAD]
 .refine dB (S1:=S) rfl (d+1) rfl rfl yAf (aP t1 (aP t2 (aP t3 (aP t4 (bS t5 (aT ?_))))));have hq33:=dI d w ();erw[0,dR,hq33,aAD]
 .refine dB (S1:=S) rfl (d+1) rfl rfl yAf (aP t1 (aP t2 (aP t3 (aP t4 (aP t5 (aT ?_))))));have hq34:=@vY (a:Int) (b:Int) () ();have hq35:=dI d w ();erw[0,hq34,hq35,aAD]
section
variable (C:Calls)(R Wi Fs:D)(v:Int)(S:aE)(wd:Wd)
theorem uD:tv C (.cmp .Eq (.var 3) (.str "cut")) (oe R Wi Fs wd v) S=qz (decide (wd=.cut),S):=dS rfl (bY wd .cut)
theorem xB:tv C (.cmp .Eq (.var 3) (.str "wide")) (oe R Wi Fs wd v) S=qz (decide (wd=.wide),S):=dS rfl (bY wd .wide)
theorem aBA:tv C (.cmp .Eq (.var 3) (.str "sign")) (oe R Wi Fs wd v) S=qz (decide (wd=.sign),S):=dS rfl (bY wd .sign)
end
def aBR:Sx:=bH (bH aFq)
def aNf:E:=reS (mB (bH (bH (bH (bH (bH (bH (bH (bH aBR)))))))))
def aTF{wd:Wd}(aN:(wd=.and\/wd=.or\/wd=.xor)\/wd=.add\/wd=.sub\/wd=.mul):¬ wd=.num/\¬ wd=.not/\¬ (wd=.left\/wd=.right\/wd=.slide)/\¬ wd=.cut/\¬ wd=.wide/\¬ wd=.sign/\¬ (wd=.same\/wd=.less\/wd=.under)/\¬ wd=.pick:=by rcases aN with (rfl|rfl|rfl)|rfl|rfl|rfl<;>decide
def aQr{v:Int}(wd:Wd)(aN:(wd=.and\/wd=.or\/wd=.xor)\/wd=.add\/wd=.sub\/wd=.mul)(h:ev C aNf (oe R Wi Ns wd v) S=qz (.d x,S)):xs C aBR (oe R Wi Ns wd v) S=qz (.rt (.d x),S):=by have t1:=gS C R Wi Ns v S wd;have t2:=iM C R Wi Ns v S wd;have t3:=kE C R Wi Ns v S wd;have t4:=uD C R Wi Ns v S wd;have t5:=xB C R Wi Ns v S wd;have t6:=aBA C R Wi Ns v S wd;have t7:=rH C R Wi Ns v S wd;have t8:=xJ C R Wi Ns v S wd;let(n1,n2,n3,n4,n5,n6,n7,n8):=aTF aN;rw[dqF n1] at t1;rw[dqF n2] at t2;rw[dqF n3] at t3;rw[dqF n4] at t4;rw[dqF n5] at t5;rw[dqF n6] at t6;rw[dqF n7] at t7;rw[dqF n8] at t8;exact aP t1 (aP t2 (aP t3 (aP t4 (aP t5 (aP t6 (aP t7 (aP t8 (aT h))))))))
def aYm{wd:Wd}(aN:wd=.same\/wd=.less\/wd=.under):¬ wd=.num/\¬ wd=.not/\¬ (wd=.left\/wd=.right\/wd=.slide)/\¬ wd=.cut/\¬ wd=.wide/\¬ wd=.sign:=by erw[50,aN]<;>decide
def nV(d:Nat){x R Wi Ns:D}{wd:Wd}{v:Nat}(S:aE)(e0:aU R (.int 0)=qz (.str wd.s))(e1:aU R (.int 1)=qz (.int v))(k:xs (d<$>3) aBR (oe R Wi Ns wd (v:Nat)) S=qz (.rt (.d x),S)):cl fns (d+4) 74 [.d R,.d Wi,.d Ns] S=qz (.d x,S):=
 dB (S1:=S) rfl (d+3) rfl rfl yAf (bK (S1:=S) (fR rfl e0) rfl (bK (S1:=S) (fR rfl e1) rfl k))
section
variable (d:Nat)(S:aE)(R Wi Ns:D)(w:Nat)(e1:aU R (.int 1)=qz (.int (w:Nat)))
include e1
theorem aVR(n:Nat)(e0:aU R (.int 0)=qz (.str "num"))(e2:aU R (.int 2)=qz (.int n)):cl fns (d+4) 74 [.d R,.d Wi,.d Ns] S=qz (.d (Iz n),S):=
 nV d (wd:=.num) S e0 e1 (bS (gS (d<$>3) R Wi Ns (w:Nat) S .num) (aT (fR rfl e2)))
theorem aWB(x:Nat)(hw:w<=64)(hx:x<2^w)(e0:aU R (.int 0)=qz (.str "not"))(i0:aU Ns (.int 0)=qz (.int x)):cl fns (d+4) 74 [.d R,.d Wi,.d Ns] S=qz (.d (Iz (2^w-1-x:_)),S):=by refine nV d (wd:=.not) S e0 e1 (aP (gS (d<$>3) R Wi Ns (w:Nat) S .not) (bS (iM (d<$>3) R Wi Ns (w:Nat) S .not) (aT ?_)));have hq36:=dI (d+2) w ();erw[0,i0,hq36,iY,aKj hx]
theorem aZZ(wd:Wd)(aN:wd=.left\/wd=.right\/wd=.slide)(x k:Nat)(cC:1<=w)(hw:w<=64)(hx:x<2^w)(hk:k<64)(e0:aU R (.int 0)=qz (.str wd.s))(e3:aU R (.int 3)=qz (.int k))(i0:aU Ns (.int 0)=qz (.int x)):cl fns (d+4) 74 [.d R,.d Wi,.d Ns] S=qz (.d (Iz ((oW wd w x k:Nat):Int)),S):=by have t1:=gS (d<$>3) R Wi Ns (w:Nat) S wd;have t2:=iM (d<$>3) R Wi Ns (w:Nat) S wd;have t3:=kE (d<$>3) R Wi Ns (w:Nat) S wd;rw[dqT aN] at t3;rw[dqF (by erw[50,aN]<;>decide)] at t1 t2;refine nV d (wd:=wd) S e0 e1 (aP t1 (aP t2 (bS t3 (aT ?_))));have hq37:=aPL d wd aN w x k cC hw hx ();erw[0,i0,e3,hq37]
theorem aXk(x:Nat)(hw:w<=64)(e0:aU R (.int 0)=qz (.str "cut"))(i0:aU Ns (.int 0)=qz (.int x)):cl fns (d+4) 74 [.d R,.d Wi,.d Ns] S=qz (.d (Iz (x%2^w:_)),S):=by refine nV d (wd:=.cut) S e0 e1 (aP (gS (d<$>3) R Wi Ns (w:Nat) S .cut) (aP (iM (d<$>3) R Wi Ns (w:Nat) S .cut) (aP (kE (d<$>3) R Wi Ns (w:Nat) S .cut) (bS (uD (d<$>3) R Wi Ns (w:Nat) S .cut) (aT ?_)))));have hq38:=dI (d+2) w ();erw[0,i0,hq38,eE,aIp]
theorem aU3(x:Nat)(e0:aU R (.int 0)=qz (.str "wide"))(i0:aU Ns (.int 0)=qz (.int x)):cl fns (d+4) 74 [.d R,.d Wi,.d Ns] S=qz (.d (Iz x),S):=
 nV d (wd:=.wide) S e0 e1 (aP (gS (d<$>3) R Wi Ns (w:Nat) S .wide) (aP (iM (d<$>3) R Wi Ns (w:Nat) S .wide) (aP (kE (d<$>3) R Wi Ns (w:Nat) S .wide) (aP (uD (d<$>3) R Wi Ns (w:Nat) S .wide) (bS (xB (d<$>3) R Wi Ns (w:Nat) S .wide) (aT (fR rfl i0)))))))
theorem aUH(x v:Nat)(hv:1<=v)(hvw:v<=w)(hw:w<=64)(e0:aU R (.int 0)=qz (.str "sign"))(i0:aU Ns (.int 0)=qz (.int x))(j0:aU Wi (.int 0)=qz (.int v)):cl fns (d+4) 74 [.d R,.d Wi,.d Ns] S=qz (.d (Iz ((cG x v w:Nat):Int)),S):=by refine nV d (wd:=.sign) S e0 e1 (aP (gS (d<$>3) R Wi Ns (w:Nat) S .sign) (aP (iM (d<$>3) R Wi Ns (w:Nat) S .sign) (aP (kE (d<$>3) R Wi Ns (w:Nat) S .sign) (aP (uD (d<$>3) R Wi Ns (w:Nat) S .sign) (aP (xB (d<$>3) R Wi Ns (w:Nat) S .sign) (bS (aBA (d<$>3) R Wi Ns (w:Nat) S .sign) (aT ?_)))))));have hq39:=sU (d+1) x v w S () () ();erw[0,i0,j0,hq39]
theorem aKR(wd:Wd)(aN:(wd=.and\/wd=.or\/wd=.xor)\/wd=.add\/wd=.sub\/wd=.mul)(x y:Nat)(hw:w<=64)(hx:x<2^w)(e0:aU R (.int 0)=qz (.str wd.s))(i0:aU Ns (.int 0)=qz (.int x))(i1:aU Ns (.int 1)=qz (.int y)):cl fns (d+4) 74 [.d R,.d Wi,.d Ns] S=qz (.d (Iz ((oU wd w x y:Nat):Int)),S):=by refine nV d (wd:=wd) S e0 e1 (aQr wd aN ?_);erw[6,aNf,aBR,bH,mB,reS,aFq,i0,i1,aPm (d+1) wd aN w x y hw hx]
theorem aWO(wd:Wd)(aN:wd=.same\/wd=.less\/wd=.under)(x y v:Nat)(hv1:1<=v)(hv:v<=64)(hx:x<2^v)(hy:y<2^v)(e0:aU R (.int 0)=qz (.str wd.s))(i0:aU Ns (.int 0)=qz (.int x))(i1:aU Ns (.int 1)=qz (.int y))(j0:aU Wi (.int 0)=qz (.int v)):cl fns (d+4) 74 [.d R,.d Wi,.d Ns] S=qz (.d (Iz (((jW wd v x y).toNat:Nat):Int)),S):=by have t1:=gS (d<$>3) R Wi Ns (w:Nat) S wd;have t2:=iM (d<$>3) R Wi Ns (w:Nat) S wd;have t3:=kE (d<$>3) R Wi Ns (w:Nat) S wd;have t4:=uD (d<$>3) R Wi Ns (w:Nat) S wd;have t5:=xB (d<$>3) R Wi Ns (w:Nat) S wd;have t6:=aBA (d<$>3) R Wi Ns (w:Nat) S wd;have t7:=rH (d<$>3) R Wi Ns (w:Nat) S wd;let(n1,n2,n3,n4,n5,n6):=aYm aN;rw[dqT aN] at t7;rw[dqF n1] at t1;rw[dqF n2] at t2;rw[dqF n3] at t3;rw[dqF n4] at t4;rw[dqF n5] at t5;rw[dqF n6] at t6;refine nV d (wd:=wd) S e0 e1 (aP t1 (aP t2 (aP t3 (aP t4 (aP t5 (aP t6 (bS t7 (aT ?_))))))));erw[0,i0,i1,j0,aPh (d+1) wd aN v x y hv1 hv hx hy]
theorem aUE(z x y:Nat)(e0:aU R (.int 0)=qz (.str "pick"))(i0:aU Ns (.int 0)=qz (.int z))(i1:aU Ns (.int 1)=qz (.int x))(i2:aU Ns (.int 2)=qz (.int y)):cl fns (d+4) 74 [.d R,.d Wi,.d Ns] S=qz (.d (Iz (((if z=1 then x else y):Nat):Int)),S):=by
 refine nV d (wd:=.pick) S e0 e1 (aP (gS (d<$>3) R Wi Ns (w:Nat) S .pick) (aP (iM (d<$>3) R Wi Ns (w:Nat) S .pick) (aP (kE (d<$>3) R Wi Ns (w:Nat) S .pick) (aP (uD (d<$>3) R Wi Ns (w:Nat) S .pick) (aP (xB (d<$>3) R Wi Ns (w:Nat) S .pick) (aP (aBA (d<$>3) R Wi Ns (w:Nat) S .pick) (aP (rH (d<$>3) R Wi Ns (w:Nat) S .pick) (bS (xJ (d<$>3) R Wi Ns (w:Nat) S .pick) (aT ?_)))))))));by_cases q:z=1
 .have d1:(z==1)=Tt:=by rw[beq_iff_eq];exact q
  rw[if_pos q];erw[0,i0,i1,cT,nF,d1]
 .have d1:(z==1)=Ff:=by rw[beq_eq_false_iff_ne];exact q
  rw[if_neg q];erw[0,i0,i2,cT,nF,d1]
end
def aUU(h:RwOk r ws)(hi:r.wd≠.in)(hl:kO ws ns)(d:Nat)(S:aE):cl fns (d+4) 74 [.d r.d,.d (ws*>nD),.d (ns*>nD)] S=qz (.d (Iz ((cY r ws ns:Nat):Int)),S):=by
 cases h with
 |inp=>simp_all|num h1 h2 hn=>exact aVR d S _ _ _ _ rfl _ rfl rfl
 |nt h1 h2=>
   let(x,rfl,hx):=gF hl;exact aWB d S _ _ _ _ rfl x h2 hx rfl rfl
 |sh h1 h2 aN hk=>
   rename_i wd w a k;let(x,rfl,hx):=gF hl;have ev':cY (wd,w,[a,k],) [w] [x]=oW wd w x k:=by erw[50,aN]<;>rfl
   rw[ev'];exact aZZ d S _ _ _ w rfl wd aN x k h1 h2 hx hk rfl rfl rfl
 |cut h1 hv h2=>
   let(x,rfl,hx):=gF hl;exact aXk d S _ _ _ _ rfl x (xAh hv h2) rfl rfl
 |wide h1 hv h2=>
   let(x,rfl,hx):=gF hl;exact aU3 d S _ _ _ _ rfl x rfl rfl
 |sign h1 hv h2=>
   let(x,rfl,hx):=gF hl;exact aUH d S _ _ _ _ rfl x _ h1 hv h2 rfl rfl rfl
 |bw h1 h2 aN=>
   rename_i wd w a b;let(x,y,rfl,hx,hy):=lS hl;have ev':cY (wd,w,[a,b],) [w,w] [x,y]=oU wd w x y:=by erw[50,aN]<;>rfl
   rw[ev'];exact aKR d S _ _ _ w rfl wd (.inl aN) x y h2 hx rfl rfl rfl
 |sm h1 h2=>
   rename_i s w a b;let(x,y,rfl,hx,hy):=lS hl;have aN:s.wd=.add\/s.wd=.sub\/s.wd=.mul:=by
    cases s
    .exact .inl rfl
    .exact .inr (.inl rfl)
    .exact .inr (.inr rfl)
   have ev':cY (s.wd,w,[a,b],) [w,w] [x,y]=oU s.wd w x y:=by cases s<;>rfl
   rw[ev'];exact aKR d S _ _ _ w rfl s.wd (.inr aN) x y h2 hx rfl rfl rfl
 |cmp h1 h2 aN=>
   rename_i wd v a b;let(x,y,rfl,hx,hy):=lS hl;have ev':cY (wd,1,[a,b],) [v,v] [x,y]=(jW wd v x y).toNat:=by erw[50,aN]<;>rfl
   rw[ev'];exact aWO d S _ _ _ 1 rfl wd aN x y v h1 h2 hx hy rfl rfl rfl rfl
 |pick h1 h2=>
   let(z,x,y,rfl,hz,hx,hy):=aCf hl;exact aUE d S _ _ _ _ rfl z x y rfl rfl rfl rfl
def aLx(wd:Wd):aW wd<=3:=by cases wd<;>decide
def aA4(S0:aE)(l:Li D)(x:D)(h:↑l<=1000):eZ (S0++[qz l]) (.loc ↑S0) (.d x)=qz (.d .none,S0++[qz (l++[x])]):=by unfold eZ;simp only[yAh (yAc ↑S0),yBf,yDh];rw[if_pos (by rw[zx];omega)];rw[List.set_append_right _ _ (yAc _),yBf];rfl
def qV(S0:aE)(l:Li D):(S0++[qz l])[↑S0]?=qz (qz l):=by rw[yAh (yAc _),yBf];rfl
def bI(r:Rw)(l:Li Nat):Li Nat:=(r.args.take (aW r.wd)).map (g0 l)
def aPZ{α:Type}{l:List α}{vs:Li D}{f:α->D}(h1:↑vs=↑l)(h2:∀ (i:Nat) (a:α),l[i]?=qz a->∃ v,vs[i]?=qz v/\v=f a):vs=l.map f:=by
 apply List.ext_getElem?;intro i;rw[yAe];by_cases c:i<↑l
 .let(v,h3,rfl):=h2 i l[i] (yAb c);rw[h3,yAb c];rfl
 .rw[yCc (),yCc ()];rfl
def wA(d:Nat)(r:Rw)(w:W)(x:D)(f:Nat->D)(S:aE)(hv:∀ aH,dr (S++[qz aH]) w=qz x)(hx:∀ a∈r.args.take (aW r.wd),aU x (nD a)=qz (f a)):cl fns (d+2) 9 [.d r.d,w] S=qz (.d (Tz ((r.args.take (aW r.wd)).map f)),S):=by
 have dE:↑(r.args.take (aW r.wd))<=3:=by have:=aLx r.wd;rw[yBj];omega
 let(vs,S',e1,hS',hI,hvl,hq):=@aSu [qz (.d r.d),qz w,qj] S S _ (.one 2) (lv (d<$>1) (.it (.call 7 (.cons (.var 0) .nil)))) (ev (d<$>1) (.ix (.var 1) (.var 2))) nD (λ _ S'=>S'=S) (λ a v=>v=f a) (r.args.take (aW r.wd)) (by
  erw[20,pC d,gY]) (by rw[zx];omega) rfl (by
  intro a ha;refine(_,rfl,?_,);rintro j S' aH hj hS rfl;refine(f a,S',?_,rfl,rfl,rfl,);have hd:∀ {k:D->Oz (W×aE)},(dr (S'++[qz aH]) w).bind k=k x:=λ {k}=>by rw[hv aH];rfl
  simp only[aFm,aE4,qL,f2,lU,jH,clr,Tg.slots,yBw,yFi,yEa,yCx,yDe,yDh,oB,hd];show((aU x (nD a)).bind λ z=>qz (W.d z,S'++[qz aH]))=_
  rw[hx a ha];rfl)
 subst hI;have e2:vs=(r.args.take (aW r.wd)).map f:=aPZ hvl hq;subst e2;have e1':lv (d<$>1) aGK [qz (.d r.d),qz w,qj] S'=qz ((r.args.take (aW r.wd)).map f,S'):=e1;rw[bX rfl (d+1) _ S' rfl];erw[11,aG6,e1',pO,aBt]
def aE8{l:Li Nat}(h:a<↑l):(l.map nD)[a]?=qz (nD (g0 l a)):=by rw[yAe,yAb h];show qz (nD l[a])=qz (nD (l.getD a 0));rw[xAg,yAb h];rfl
def aKN(d:Nat)(r:Rw)(l:Li Nat)(S:aE)(h:∀ a∈r.args.take (aW r.wd),a<↑l):cl fns (d+2) 9 [.d r.d,.d (l*>nD)] S=qz (.d (Tz ((bI r l).map nD)),S):=by
 have:=wA d r (.d (l*>nD)) (l*>nD) (λ a=>nD (g0 l a)) S (λ _=>rfl) λ a ha=>iK (aE8 (h a ha))
 rw[this,bI,yBi];rfl
def aT0(d:Nat)(r:Rw)(l:Li Nat)(S0:aE)(h:∀ a∈r.args.take (aW r.wd),a<↑l):cl fns (d+2) 9 [.d r.d,.loc ↑S0] (S0++[qz (l.map nD)])=qz (.d (Tz ((bI r l).map nD)),S0++[qz (l.map nD)]):=by
 have:=wA d r (.loc ↑S0) (.list (l.map nD)) (λ a=>nD (g0 l a)) (S0++[qz (l.map nD)]) (λ aH=>by
  show(match (S0++[qz (l.map nD)]++[qz aH])[↑S0]? with|some (qz ds)=>qz (Lz ds)|_=>qj)=_
  rw[yBc,yAh (yAc _),yBf];rfl) λ a ha=>nO (aE8 (h a ha))
 rw[this,bI,yBi];rfl
def aG4(d:Nat)(rs:Li Rw)(o:D)(hl:↑rs<=1000)(S:aE):cl fns (d+1) 11 [.d (rs<*o)] S=qz (.d (Tz ((~~~rs).map nD)),S):=by
 have i0:aU (rs<*o) (.int 0)=qz (rs*>Rw.d):=rfl;have hc:lv (aF fns d) aGW [qz (.d (rs<*o)),qj] S=qz ((~~~rs).map nD,S):=by
  rw[yBi];refine mM (fi:=lv (aF fns d) (.it (.ix (.var 0) (.int 0)))) (fe:=ev (aF fns d) (.ix (.var 1) (.int 1))) Rw.d (nD ∘ λ r=>r.w) rs ?_ (by rw[zx];omega) λ r hr=>?_
  .erw[0,i0,gY]
  .refine(_,rfl,λ S'=>?_,);erw[0,clr,yBw,yFi,jR]
 rw[bX rfl d _ S rfl];erw[11,aHI,hc,pO,aBt]
def cO:Li Rw->Li Nat->Prop
 |[],is=>is=[]
 |r::rs,is=>if r.wd=.in then ∃ n is',is=n::is'/\n<2^r.w/\cO rs is' else cO rs is
def lJ(rs:Li Rw):Prop:=∀ (j:Nat) (r:Rw),rs[j]?=qz r->RwOk r (bI r (~~~rs))/\∀ a∈r.args.take (aW r.wd),a<j
def wM{W:Li Nat}(h:∀ (i a w:Nat),aH[i]?=qz a->W[i]?=qz w->a<2^w):∀ (l:Li Nat),(∀ a∈l,a<↑aH/\a<↑W)->kO (l.map (g0 W)) (l.map (g0 aH))
 |[],_=>True.intro
 |a::l,hl=>by
   let(h1,h2):=hl a xAc;refine(h a _ _ ?_ ?_,wM h l λ b hb=>hl b (xAf _ hb),)
   .show aH[a]?=qz (aH.getD a 0);rw[xAg,yAb h1];rfl
   .show W[a]?=qz (W.getD a 0);rw[xAg,yAb h2];rfl
def aEj(h:RwOk r ws)(hl:kO ws ns):cY r ws ns<2^r.w:=by
 have hp:=xAe r.w;cases h with
 |inp=>exact hp|num h1 h2 hn=>exact hn
 |nt=>
   let(x,rfl,hx):=gF hl;exact xAi (yFd _ _) ()
 |sh h1 h2 aN hk=>
   let(x,rfl,hx):=gF hl;erw[50,aN]
   .exact yGh _ hp
   .exact xAi (yGw _ _) hx
   .rename_i w a k;show cG x w (w+k)/2^k<2^w;rw[yDz (xAe k),<- yEn];exact mG hx h1 ()
 |cut=>exact yGh _ hp
 |wide h1 hv h2=>
   let(x,rfl,hx):=gF hl;exact xAb hx (yAm (·) hv)
 |sign h1 hv h2=>
   let(x,rfl,hx):=gF hl;exact mG hx h1 hv
 |bw h1 h2 aN=>
   let(x,y,rfl,hx,hy):=lS hl;erw[50,aN]
   .exact xAi yCt hx
   .exact yBe hx hy
   .exact yBv hx hy
 |sm h1 h2=>
   let(x,y,rfl,hx,hy):=lS hl;rename_i s w a b;cases s
   .exact pQ ((x:Int)+(y:Int)) w
   .exact pQ ((x:Int)-(y:Int)) w
   .exact pQ ((x:Int)*(y:Int)) w
 |cmp h1 h2 aN=>
   have q:∀ b:Bool,b.toNat<2^1:=λ b=>by cases b<;>decide
   erw[50,aN]<;>exact q _
 |pick h1 h2=>
   let(z,x,y,rfl,hz,hx,hy):=aCf hl;show(if z=1 then x else y)<_;split
   .exact hx
   .exact hy
def aA0{α:Type}{l:List α}{a:α}(h:l[j]?=qz a):l.drop j=a::l.drop (j+1):=by let(hl,rfl):=gIm h;simp_all
def cP:Li Rw->Li Nat->Li Nat->Li Nat->Li Nat
 |[],_,_,aH=>aH
 |r::rs,W,is,aH=>if r.wd=.in then cP rs W is.tail (aH++[g0 is 0]) else cP rs W is (aH++[cY r (bI r W) (bI r aH)])
structure Prg(rs:List Rw):Prop where
 l:↑rs<=250
 fit:lJ rs
 ins:∃ is,cO rs is
 ws:∀ (j:Nat) (r:Rw),rs[j]?=qz r->1<=r.w/\r.w<=64
def pK{l:Li Nat}(h:a<↑l):l[a]?=qz (g0 l a):=by show l[a]?=qz (l.getD a 0);rw[xAg,yAb h];rfl
def vW:∀ (rs:Li Rw) (W is aH:Li Nat),∃ t,cP rs W is aH=aH++t
 |[],W,is,aH=>([],by simp[cP],)
 |r::rs,W,is,aH=>by
   unfold cP;split
   .let(t,h):=vW rs W is.tail (aH++[g0 is 0]);simp_all
   .let(t,h):=vW rs W is (aH++[cY r (bI r W) (bI r aH)]);simp_all
def aEa:∀ (rs:Li Rw) (W is aH:Li Nat) (j:Nat) (r:Rw),rs[j]?=qz r->r.wd≠.in->(cP rs W is aH)[↑aH+j]?=qz (cY r (bI r W) (bI r ((cP rs W is aH).take (↑aH+j))))
 |[],W,is,aH,j,r,h,_=>by simp at h
 |q::rs,W,is,aH,0,r,h,hw=>by
   cases h;unfold cP;rw[if_neg hw];let(t,ht):=vW rs W is (aH++[cY q (bI q W) (bI q aH)]);rw[ht,yIk,yBc,yHp,yAh (yAc _),yBf];rfl
 |q::rs,W,is,aH,j+1,r,h,hw=>by
   have h':rs[j]?=qz r:=by simpa using h
   unfold cP;split
   .have:=aEa rs W is.tail (aH++[g0 is 0]) j r h' hw;rw[xAn,show ↑aH+↑[g0 is 0]+j=↑aH+(j+1) by simp;omega] at this;exact this
   .have:=aEa rs W is (aH++[cY q (bI q W) (bI q aH)]) j r h' hw;rw[xAn,show ↑aH+↑[cY q (bI q W) (bI q aH)]+j=↑aH+(j+1) by simp;omega] at this;exact this
def aRq{r:Rw}{l:Li Nat}(h:∀ a∈r.args.take (aW r.wd),a<m):bI r (l.take m)=bI r l:=by
 unfold bI;refine yBs λ a ha=>?_
 show(l.take m).getD a 0=l.getD a 0;rw[xAg,xAg,yCv (h a ha)]
def aEX{rs:Li Rw}(hf:lJ rs)(is:Li Nat){j:Nat}{r:Rw}(hr:rs[j]?=qz r)(hw:r.wd≠.in):(cP rs (~~~rs) is [])[j]?=qz (cY r (bI r (~~~rs)) (bI r (cP rs (~~~rs) is []))):=by have:=aEa rs (~~~rs) is [] j r hr hw;rw[yBx,yEt,aRq (hf j r hr).2] at this;exact this
def wF:∀ (rs:Li Rw) (W is aH:Li Nat),↑(cP rs W is aH)=↑aH+↑rs
 |[],_,_,_=>rfl
 |r::rs,W,is,aH=>by
   unfold cP;split
   .rw[wF rs,xAn];simp;omega
   .rw[wF rs,xAn];simp;omega
def aKf{W:Li Nat}(h:∀ (i a w:Nat),aH[i]?=qz a->W[i]?=qz w->a<2^w)(hw:W[↑aH]?=qz w)(hz:z<2^w):∀ (i a w:Nat),(aH++[z])[i]?=qz a->W[i]?=qz w->a<2^w:=λ i a v h1 h2=>by
 by_cases c:i<↑aH
 .rw[xAm c] at h1;exact h i a v h1 h2
 .have ci:i=↑aH:=by
   have:=(gIm h1).1;simp at this;omega
  subst ci;rw[yAh (yAc _),yBf] at h1;cases h1;rw[hw] at h2;cases h2;exact hz
def aDZ(hf:lJ rs0):∀ (rs:Li Rw) (is aH:Li Nat),rs=rs0.drop ↑aH->cO rs is->(∀ (i a w:Nat),aH[i]?=qz a->(rs0.map (·.w))[i]?=qz w->a<2^w)->∀ (i a w:Nat),(cP rs (rs0.map (·.w)) is aH)[i]?=qz a->(rs0.map (·.w))[i]?=qz w->a<2^w
 |[],is,aH,_,_,hb=>hb
 |r::rs,is,aH,hd,hi,hb=>by
   have hr:rs0[↑aH]?=qz r:=by
    have:=congrArg (λ l=>l[0]?) hd;simp only[yDh,yHj,yIk] at this;exact this.symm
   have hd':∀ z:Nat,rs=rs0.drop ↑(aH++[z]):=λ z=>by
    rw[xAn,yDy];have:=congrArg List.tail hd;rw[List.tail_drop] at this;exact this
   have hw:(rs0.map (·.w))[↑aH]?=qz r.w:=by rw[yAe,hr];rfl
   have hj:↑aH<↑rs0:=(gIm hr).1;unfold cP;split
   .rename_i c;rw[cO,if_pos c] at hi;let(n,is',rfl,hn,hi'):=hi;exact aDZ hf rs is' (aH++[n]) (hd' n) hi' (aKf hb hw hn)
   .rename_i c;rw[cO,if_neg c] at hi;let(f1,f2):=hf _ r hr;have lt:=wM hb (r.args.take (aW r.wd)) λ a ha=>(f2 a ha,by have:=f2 a ha;rw[yAd];omega,)
    exact aDZ hf rs is _ (hd' _) hi (aKf hb hw (aEj f1 lt))
def aDU(p:Prg rs)(hi:cO rs is):↑(cP rs (~~~rs) is [])=↑rs:=by rw[wF];simp
def aBr{rs:Li Rw}(p:Prg rs){is:Li Nat}(hi:cO rs is){i a w:Nat}(h1:(cP rs (~~~rs) is [])[i]?=qz a)(h2:(~~~rs)[i]?=qz w):a<2^w:=aDZ p.fit rs is [] rfl hi (λ i a w h=>by simp at h) i a w h1 h2
def iR:Li Rw->Li Nat->Li Nat->Li Nat->Li Nat->Li Nat
 |r::rs,W,is,m::ms,aH=>if r.wd=.in then iR rs W is.tail ms (aH++[g0 is 0^^^m]) else iR rs W is ms (aH++[cY r (bI r W) (bI r aH)^^^m])
 |_,_,_,_,aH=>aH
structure MsOk(rs:List Rw)(ms:List Nat):Prop where
 l:↑ms=↑rs
 lt:∀ (j:Nat) (r:Rw) (m:Nat),rs[j]?=qz r->ms[j]?=qz m->m<2^r.w
noncomputable abbrev eT(P:D)(is ms ws:List Nat)(n:Nat)(c5 c6 c7 c8:Option W):bG:=[qz (.d P),qz (.d (is*>nD)),qz (.d (ms*>nD)),qz (.d (ws*>nD)),#[n],c5,c6,c7,c8]
def aPB(d:Nat)(rs:Li Rw)(o:D)(is ms:Li Nat)(hl:↑rs<=250)(hf:lJ rs)(hi:cO rs is)(hm:MsOk rs ms)(S:aE):cl fns (d+6) 75 [.d (rs<*o),.d (is*>nD),.d (ms*>nD)] S=qz (.d (Tz ((iR rs (~~~rs) is ms []).map nD)),S)/\↑(iR rs (~~~rs) is ms [])=↑rs/\∀ (i a w:Nat),(iR rs (~~~rs) is ms [])[i]?=qz a->(~~~rs)[i]?=qz w->a<2^w:=by
 let(aY,S',p1,aH,tk,c6,c7,c8,rfl,rfl,al,ar,ai,ab):=pL (t:=.many [6,7]) (fi:=lv (d<$>5) aHR) (fb:=xs (d<$>5) aHP) (env:=eT (rs<*o) is ms (~~~rs) ↑S ((0:)) qj qj qj) (S:=S++[qz []]) (ds:=gU (rs.map Rw.d) (ms.map nD))
  (λ j env S'=>∃ (aH:Li Nat) (tk:Nat) (c6 c7 c8:Oz W),env=eT (rs<*o) is ms (~~~rs) ↑S ((tk:)) c6 c7 c8/\S'=S++[qz (aH.map nD)]/\↑aH=j/\iR (rs.drop j) (~~~rs) (is.drop tk) (ms.drop j) aH=iR rs (~~~rs) is ms []/\cO (rs.drop j) (is.drop tk)/\∀ (i a w:Nat),aH[i]?=qz a->(~~~rs)[i]?=qz w->a<2^w)
  rfl ([],0,qj,qj,qj,rfl,rfl,rfl,rfl,hi,by simp,) (by
   rintro j dd env S' hd ⟨aH,tk,c6,c7,c8,rfl,rfl,al,ar,ai,ab⟩;let(a0,b0,ha,hb,rfl):=aDp _ _ j dd hd;rw[yAe] at ha hb;let(r,hr,rfl):=Option.map_eq_some_iff.mp ha;let(m,hmj,rfl):=Option.map_eq_some_iff.mp hb;have hmlt:=hm.lt j r m hr hmj;let(f1,f2):=hf j r hr;have hj:j<↑rs:=(gIm hr).1;have hw:(~~~rs)[j]?=qz r.w:=by rw[yAe,hr];rfl
   have hWl:↑(~~~rs)=↑rs:=yAd ..;rw[aA0 hr] at ar ai;rw[aA0 hmj] at ar;have more:∀ z:Nat,z<2^r.w->∀ (i a w:Nat),(aH++[z^^^m])[i]?=qz a->(~~~rs)[i]?=qz w->a<2^w:=λ z hz i a w h1 h2=>by
    by_cases c:i<↑aH
    .rw[xAm c] at h1;exact ab i a w h1 h2
    .have ci:i=j:=by
      have:=(gIm h1).1;simp at this;omega
     subst ci;rw[yAh (),show i-↑aH=0 by omega] at h1;cases h1;rw[hw] at h2;cases h2;exact yBv hz hmlt
   have ap:∀ z:Nat,eZ (S++[qz (aH.map nD)]) (.loc ↑S) (.d (Iz z))=qz (.d .none,S++[qz ((aH++[z]).map nD)]):=λ z=>by
    rw[aA4 S (aH.map nD) _ (by rw[yAd];omega),yAy];rfl
   by_cases c:r.wd=.in
   .have t:bE .Eq (.str r.wd.s) (.str "in")=qz (.bool Tt):=by rw[c];exact bY .in .in
    rw[cO,if_pos c] at ai;let(n,is',e1,hn,hi'):=ai;rw[iR,if_pos c,e1] at ar;have e2:is'=is.drop (tk+1):=by rw[<- List.tail_drop,e1];rfl
    have e3:aU (is*>nD) (.int tk)=qz (.int n):=iK (by
     have:(is.drop tk)[0]?=qz n:=by rw[e1];rfl
     rw[yHj,yIk] at this;rw[yAe,this];rfl)
    refine(_,_,_,rfl,cK (jB (aZ (bM (aC rfl) aJ rfl (iO r)) bZ t) (bK (bM (aC rfl) (aC rfl) rfl e3) rfl (hV (bP (aC rfl) aJ (qF tk 1))))) (fK (gP (iN (aC rfl) (bP (aC rfl) (aC rfl) (iY n m)) (ap _)))),aH++[n^^^m],tk+1,_,_,_,rfl,rfl,by simp[al],?_,?_,more n hn,)
    .rw[<- e2,<- ar];rfl
    simp_all
   .have t:bE .Eq (.str r.wd.s) (.str "in")=qz (.bool Ff):=by
     have:=bY r.wd .in;rw[dqF c] at this;exact this
    rw[cO,if_neg c] at ai;rw[iR,if_neg c] at ar;have lt:=wM ab (r.args.take (aW r.wd)) λ a ha=>(by have:=f2 a ha;omega,by have:=f2 a ha;omega,)
    have o1:=aKN (d+3) r (~~~rs) (S++[qz (aH.map nD)]) λ a ha=>by have:=f2 a ha;omega
    have o2:=aT0 (d+3) r aH S λ a ha=>by have:=f2 a ha;omega
    have wk:=aUU f1 c lt (d+1) (S++[qz (aH.map nD)]);have wl:=aEj f1 lt;exact(_,_,_,rfl,cK (jA (aZ (bM (aC rfl) aJ rfl (iO r)) bZ t) (hV (aV (aD (aC rfl) (aD (aV (aD (aC rfl) (aD (aC rfl) aO)) o1) (aD (aV (aD (aC rfl) (aD (aC rfl) aO)) o2) aO))) wk))) (fK (gP (iN (aC rfl) (bP (aC rfl) (aC rfl) (iY _ m)) (ap _)))),_,tk,_,_,_,rfl,rfl,by simp[al],ar,ai,more _ wl,))
 have zl:↑(gU (rs.map Rw.d) (ms.map nD))=↑rs:=by
  rw[aAG,yAd,yAd,hm.l,Nat.min_self]
 rw[zl] at al ar;rw[yGl] at ar;have ar':aH=iR rs (~~~rs) is ms []:=by
  have e:iR [] (~~~rs) (is.drop tk) (ms.drop ↑rs) aH=aH:=by unfold iR;rfl
  rw[<- e];exact ar
 subst ar';exact(cH rfl rfl rfl (bK (aV (aD (aC rfl) aO) (aG4 (d+4) rs o () S)) rfl (bK (nZ (fU aO rfl (yAa rfl))) rfl (bK aJ rfl (cK (nL p1) (aT (cQ (aD (aC rfl) aO) (cN (fD (qV _ _)) cU) rfl)))))) yHp,al,ab,)
def aSN(rs:Li Rw):MsOk rs (yAg ↑rs 0):=⟨yCp,λ j r m h1 h2=>by
 rw[yEm] at h2;split at h2
 .cases h2;exact xAe _
 .cases h2⟩
def aSX(d:Nat)(rs:Li Rw)(o:D)(is:Li Nat)(hl:↑rs<=250)(hf:lJ rs)(hi:cO rs is)(S:aE):cl fns (d+7) 76 [.d (rs<*o),.d (is*>nD)] S=qz (.d (Tz ((iR rs (~~~rs) is (yAg ↑rs 0) []).map nD)),S):=by
 have ln:B.len.g [(rs*>Rw.d)]=qz (.int ↑rs):=by
  show qz (Iz ((↑(rs.map Rw.d):Nat):Int))=_;rw[yAd]
 have e:=(aPB d rs o is _ hl hf hi (aSN rs) S).1;rw[yGc] at e;exact cH rfl rfl rfl (aT (aV (aD (aC rfl) (aD (aC rfl) (aD (bP (dO (aD aJ aO) rfl (yAa rfl)) (cQ (aD (bM (aC rfl) aJ rfl rfl) aO) (cN dJ cU) ln) (aDF ())) aO))) e)) yAf
def aSE(hn:n<2^w):(2^w-1)^^^n=2^w-1-n:=by rw[Nat.xor_comm];exact aKj hn
def uZ(n w:Nat):Ft:=(2^w-1-n,n,1,)
def aMZ(hn:n<2^w)(hw:1<=w):FtOk (uZ n w) w:=(by show 2^w-1-n<2^w;have:=xAe w;omega,hn,yAc 1,hw,)
def aT9(hn:n<2^w):Hd (uZ n w) n w:=by
 refine(λ i hi=>?_,λ i hi=>hi,mQ _ _,);have hi':(2^w-1-n)[i]! =Tt:=hi;by_cases c:i<w
 .rw[aBo hn c] at hi';simpa using hi'
 .exact cX hn ()
def aKD(hw:1<=w):iJ kQ w=kQ:=by
 have u:eD 0 1 w=0:=by
  unfold eD;rw[Nat.zero_and,if_pos rfl]
 have t:tr 0 w=0:=by
  unfold tr;rw[Nat.zero_xor];have:bl (2^w-1)=w:=aH1 (wY w) (.inr (by rw[dP,dqT ()]));omega
 show Ft.mk (eD 0 1 w) (eD 0 1 w) (zJ 1 (tr (eD 0 1 w) w) (tr (eD 0 1 w) w))=(0,0,1,);rw[u,t];rfl
def aRQ(d n w:Nat)(hn:n<2^w)(cC:1<=w)(hw:w<=64)(S:aE):cl fns (d+4) 47 [.d (Tz [.str "num",.int w,.int n]),.d (Tz []),.d (Tz [])] S=qz (.d (iJ (uZ n w) w).d,S):=by
 have nf:cl fns (d+2) 33 [.d (Iz w),.d (Iz n)] S=qz (.d (uZ n w).d,S):=by
  rw[bX rfl (d+1) _ S rfl];have hq40:=dI d w ();erw[11,aH7,hq40,iY,aSE hn]
 have i2:aU (.tuple [.str "num",.int w,.int n]) (.int 2)=qz (.int n):=rfl;refine aD0 d _ _ _ S w (uZ n w) rfl ?_ (aMZ hn cC) hw;have t1:=oN (d<$>2) (.tuple [.str "num",.int w,.int n]) (.tuple []) (.tuple []) (w:Nat) S .num;have t2:=gS (d<$>2) (.tuple [.str "num",.int w,.int n]) (.tuple []) (.tuple []) (w:Nat) S .num;refine dB (S1:=S) rfl (d+2) rfl rfl yAf (bK (S1:=S) (w:=.d (Sz Wd.num.s)) (fR rfl rfl) rfl (bK (S1:=S) (w:=.d (Iz w)) (fR rfl rfl) rfl (aP t1 (bS t2 (aT ?_)))));erw[0,i2,nf]
def aUy(d w:Nat)(cC:1<=w)(hw:w<=64)(S:aE):cl fns (d+4) 47 [.d (Tz [.str "in",.int w]),.d (Tz []),.d (Tz [])] S=qz (.d kQ.d,S):=by have t1:=oN (d<$>2) (.tuple [.str "in",.int w]) (.tuple []) (.tuple []) (w:Nat) S .in;have hk:FtOk kQ w:=(xAe w,xAe w,yAc 1,cC,);have r:=aD0 d (.tuple [.str "in",.int w]) (.tuple []) (.tuple []) S w kQ rfl (dB (S1:=S) rfl (d+2) rfl rfl yAf (bK (S1:=S) (w:=.d (Sz Wd.in.s)) (fR rfl rfl) rfl (bK (S1:=S) (w:=.d (Iz w)) (fR rfl rfl) rfl (bS t1 (aT rfl))))) hk hw;rw[aKD cC] at r;exact r
def sR:Li Ft->Li Nat->Li Nat->Prop
 |f::Fs,w::ws,n::ns=>(n<2^w/\Hd f n w)/\sR Fs ws ns|[],[],[]=>True|_,_,_=>False
def uS:Li Ft->Li Nat->Prop
 |f::Fs,w::ws=>Op f w/\uS Fs ws|[],[]=>True|_,_=>False
structure RG(r:Rw)(ws:List Nat)(Fs:List Ft):Prop where
 g:∃ g:Ft,FtOk g r.w/\(∀ d S,cl fns (d+7) 47 [.d r.d,.d (ws*>nD),.d (Fs*>Ft.d)] S=qz (.d (iJ g r.w).d,S))/\(∀ ns,sR Fs ws ns->r.wd≠.in->Hd g (cY r ws ns) r.w)/\(r.wd=.in->∀ z,Hd g z r.w)
def zI(h:uS Fs [w]):∃ f,Fs=[f]/\Op f w:=by
 rcases Fs with _|⟨a,_|⟨b,r⟩⟩
 .exact h.elim
 .exact(a,rfl,h.1,)
 .exact h.2.elim
def aFB(h:uS Fs [w,v]):∃ f g,Fs=[f,g]/\Op f w/\Op g v:=by
 rcases Fs with _|⟨a,_|⟨b,_|⟨c,r⟩⟩⟩
 .exact h.elim
 .exact h.2.elim
 .exact(a,b,rfl,h.1,h.2.1,)
 .exact h.2.2.elim
def bBR(h:uS Fs [w,v,u]):∃ f g k,Fs=[f,g,k]/\Op f w/\Op g v/\Op k u:=by
 rcases Fs with _|⟨a,_|⟨b,_|⟨c,_|⟨e,r⟩⟩⟩⟩
 .exact h.elim
 .exact h.2.elim
 .exact h.2.2.elim
 .exact(a,b,c,rfl,h.1,h.2.1,h.2.2.1,)
 .exact h.2.2.2.elim
def zZ(h:sR [f] [w] ns):∃ a,ns=[a]/\a<2^w/\Hd f a w:=by
 rcases ns with _|⟨a,_|⟨b,r⟩⟩
 .exact h.elim
 .exact(a,rfl,h.1,)
 .exact h.2.elim
def aFC(h:sR [f,g] [w,v] ns):∃ a b,ns=[a,b]/\(a<2^w/\Hd f a w)/\b<2^v/\Hd g b v:=by
 rcases ns with _|⟨a,_|⟨b,_|⟨c,r⟩⟩⟩
 .exact h.elim
 .exact h.2.elim
 .exact(a,b,rfl,h.1,h.2.1,)
 .exact h.2.2.elim
def bBF(h:sR [f,g,k] [w,v,u] ns):∃ a b c,ns=[a,b,c]/\(a<2^w/\Hd f a w)/\(b<2^v/\Hd g b v)/\c<2^u/\Hd k c u:=by
 rcases ns with _|⟨a,_|⟨b,_|⟨c,_|⟨e,r⟩⟩⟩⟩
 .exact h.elim
 .exact h.2.elim
 .exact h.2.2.elim
 .exact(a,b,c,rfl,h.1,h.2.1,h.2.2.1,)
 .exact h.2.2.2.elim
def nW{r:Rw}(hi:r.wd≠.in)(h2:r.w<=64)(g:Ft)(hg:FtOk g r.w)(ho:∀ d S,cl fns (d+6) 46 [.d r.d,.d (ws*>nD),.d (Fs*>Ft.d)] S=qz (.d g.d,S))(hh:∀ ns,sR Fs ws ns->Hd g (cY r ws ns) r.w):RG r ws Fs:=
 (g,hg,λ d S=>aD0 (d+3) _ _ _ S r.w g (jR r) (ho d S) hg h2,λ ns h _=>hh ns h,λ h=>absurd h hi,)
def aW1(o:Op f w):RG (.not,w,[a],) [w] [f]:=
 nW (λ h=>nomatch h) o.w2 (f.O,f.N,f.A,) (o.ok.lO,o.ok.lN,o.ok.a1,o.ok.aw,) (λ d S=>aRT (d+5) _ _ _ (w:Nat) S f rfl rfl rfl) λ ns h=>by
  let(x,rfl,hx,hf):=zZ h;exact aSy o.ok o.dj hx hf
def bAl{wd:Wd}(h:wd=.left\/wd=.right\/wd=.slide):wd≠.in:=by erw[50,h]<;>decide
def aZs{wd:Wd}(h:wd=.and\/wd=.or\/wd=.xor):wd≠.in:=by erw[50,h]<;>decide
def bAb{wd:Wd}(h:wd=.same\/wd=.less\/wd=.under):wd≠.in:=by erw[50,h]<;>decide
def aZ6(s:Sw):s.wd≠.in:=by cases s<;>decide
def aYy(wd:Wd)(aN:wd=.left\/wd=.right\/wd=.slide)(hk:k<64)(o:Op f w):RG (wd,w,[a,k],) [w] [f]:=by
 refine nW (bAl aN) o.w2 (shN wd w f k) ?_ (λ d S=>aPG (d+5) _ _ _ (w:Nat) S wd aN f k _ rfl rfl rfl rfl (aDG (d+1) wd aN w f k o.ok o.w1 o.w2 () S)) λ ns h=>?_
 .erw[50,aN]
  .exact aUs o.ok o.dj o.w1 k
  .exact aRL o.ok o.dj o.w1 k
  .exact aSm o.ok o.dj o.w1 k
 .let(x,rfl,hx,hf):=zZ h;erw[50,aN]
  .exact aQt o.ok o.dj hx hf k
  .exact aP2 o.ok o.dj hx hf k
  .exact aPF o.ok o.dj hx hf o.w1 k
def aVW(h1:1<=w)(hv:w<=v)(o:Op f v):RG (.cut,w,[a],) [v] [f]:=
 nW (λ h=>nomatch h) (xAh hv o.w2) (zT v w f) (aWv o.ok o.dj o.w1 h1 hv) (λ d S=>aDE (d+5) _ _ _ (w:Nat) S .cut (.inl rfl) f (v:Nat) _ rfl rfl rfl rfl (aVD (d+3) v w f hv (xAh hv o.w2) S)) λ ns h=>by
  let(x,rfl,hx,hf):=zZ h;exact aRj o.ok o.dj hx hf hv
def aSU(hv:v<=w)(h2:w<=64)(o:Op f v):RG (.wide,w,[a],) [v] [f]:=
 nW (λ h=>nomatch h) h2 (oC v w f) (aTH o.ok o.dj o.w1 hv) (λ d S=>aDE (d+5) _ _ _ (w:Nat) S .wide (.inr (.inl rfl)) f (v:Nat) _ rfl rfl rfl rfl (aUP (d+2) v w f hv h2 S)) λ ns h=>by
  let(x,rfl,hx,hf):=zZ h;exact aRe o.ok o.dj hx hf hv
def aT3(hv:v<=w)(h2:w<=64)(o:Op f v):RG (.sign,w,[a],) [v] [f]:=
 nW (λ h=>nomatch h) h2 (xW v w f) (aUn o.ok o.dj o.w1 hv) (λ d S=>aDE (d+5) _ _ _ (w:Nat) S .sign (.inr (.inr rfl)) f (v:Nat) _ rfl rfl rfl rfl (aUh (d+2) v w f o.w1 hv h2 S)) λ ns h=>by
  let(x,rfl,hx,hf):=zZ h;exact aQM o.ok o.dj hx hf o.w1 hv
def aYu(wd:Wd)(aN:wd=.and\/wd=.or\/wd=.xor)(o:Op f w)(o':Op g w):RG (wd,w,[a,b],) [w,w] [f,g]:=by
 obtain⟨n,hb',eb,ej⟩:∃ n,(n=0\/n=1\/n=2)/\bwN wd f g=uX n f g/\∀ x y:Nat,cY ⟨wd,w,[a,b]⟩ [w,w] [x,y]=bwv n x y:=by
  erw[50,aN]
  .exact(0,.inl rfl,rfl,λ x y=>rfl,)
  .exact(1,.inr (.inl rfl),rfl,λ x y=>rfl,)
  .exact(2,.inr (.inr rfl),rfl,λ x y=>rfl,)
 refine nW (aZs aN) o.w2 (uX n f g) (bAD hb' o.ok o.dj o'.ok o'.dj) (λ d S=>?_) λ ns h=>?_
 .have q:=aTG (d+3) (Rw.mk wd w [a,b]).d (Tz [nD w,nD w]) (.tuple [f.d,g.d]) (w:Nat) S wd aN f g rfl rfl rfl rfl;rw[eb] at q;exact q
 .let(x,y,rfl,(hx,h1),hy,h2):=aFC h;rw[ej];exact aS1 hb' o.ok o.dj h1 o'.ok o'.dj h2
def bAM(s:Sw)(o:Op f w)(o':Op g w):RG (s.wd,w,[a,b],) [w,w] [f,g]:=by
 let(p,hp,h):=o.ho;let(q,hq,h'):=o'.ho;refine nW (aZ6 s) o.w2 (zC s w f g) (aVE s o.ok o'.ok hp hq h h') (λ d S=>aRz d _ _ _ w S s f g rfl rfl rfl rfl o.ok o'.ok (aZp s w f g o.ok o'.ok hp hq h h') o.w2) λ ns hn=>?_
 let(x,y,rfl,(hx,h1),hy,h2):=aFC hn;have e:cY (s.wd,w,[a,b],) [w,w] [x,y]=cJ (s.oc (x:Nat) (y:Nat)) w:=by cases s<;>rfl
 rw[e];exact aRy s o.ok o'.ok hx hy h1 h2
def aVv(wd:Wd)(aN:wd=.same\/wd=.less\/wd=.under)(o:Op f v)(o':Op g v):RG (wd,1,[a,b],) [v,v] [f,g]:=by
 have hk:FtOk (qO wd v f g) 1:=by rcases aZu wd v f g with h|h|h<;>rw[h]<;>exact(by decide,by decide,by decide,by decide,)
 refine nW (bAb aN) (show 1<=64 by omega) (qO wd v f g) hk (λ d S=>aQo (d+1) _ _ _ (1:_) S wd aN v f g rfl rfl rfl rfl rfl (o.ok,o.dj,) (o'.ok,o'.dj,) o.w1 o.w2) λ ns hn=>?_
 let(x,y,rfl,(hx,h1),hy,h2):=aFC hn;erw[50,aN]
 .exact aQq o.ok hx hy h1 h2
 .exact aQE o.ok o'.ok hx hy h1 h2
 .exact aPX o.ok o'.ok o.dj o'.dj o.w1 hx hy h1 h2
def aSY(ot:Op t 1)(o:Op f w)(o':Op g w):RG (.pick,w,[c,a,b],) [1,w,w] [t,f,g]:=
 nW (λ h=>nomatch h) o.w2 (qQ t f g) (bAc o.ok o'.ok) (λ d S=>aPz (d+4) _ _ _ (w:Nat) S t f g rfl rfl rfl rfl rfl) λ ns hn=>by
  let(z,x,y,rfl,(hz,h0),(hx,h1),hy,h2):=bBF hn;exact aQK h0 hz h1 h2
def aXI(h1:1<=w)(h2:w<=64)(hn:n<2^w):RG (.num,w,[n],) [] []:=
 ⟨uZ n w,aMZ hn h1,λ d S=>aRQ (d+3) n w hn h1 h2 S,λ ns _ _=>aT9 hn,λ h=>nomatch h⟩
def bAO(h1:1<=w)(h2:w<=64):RG (.in,w,[],) [] []:=by refine(kQ,(xAe w,xAe w,yAc 1,h1,),λ d S=>?_,λ ns _ h=>absurd rfl h,λ _ z=>(λ i h=>tH h,λ i h=>tH h,mQ _ _,),);have:=aUy (d+3) w h1 h2 S;rw[aKD h1];exact this
def rg(h:RwOk r ws)(o:uS Fs ws):RG r ws Fs:=by
 cases h with
 |inp h1 h2=>
   rcases Fs with _|⟨f,Fs⟩
   .exact bAO h1 h2
   .exact o.elim
 |num h1 h2 hn=>
   rcases Fs with _|⟨f,Fs⟩
   .exact aXI h1 h2 hn
   .exact o.elim
 |nt h1 h2=>
   let(f,rfl,o1):=zI o;exact aW1 o1
 |sh h1 h2 aN hk=>
   let(f,rfl,o1):=zI o;exact aYy _ aN hk o1
 |cut h1 hv h2=>
   let(f,rfl,o1):=zI o;exact aVW h1 hv o1
 |wide h1 hv h2=>
   let(f,rfl,o1):=zI o;exact aSU hv h2 o1
 |sign h1 hv h2=>
   let(f,rfl,o1):=zI o;exact aT3 hv h2 o1
 |bw h1 h2 aN=>
   let(f,g,rfl,o1,o2):=aFB o;exact aYu _ aN o1 o2
 |sm h1 h2=>
   let(f,g,rfl,o1,o2):=aFB o;exact bAM _ o1 o2
 |cmp h1 h2 aN=>
   let(f,g,rfl,o1,o2):=aFB o;exact aVv _ aN o1 o2
 |pick h1 h2=>
   let(t,f,g,rfl,ot,o1,o2):=bBR o;exact aSY ot o1 o2
def f0(F:Li Ft)(a:Nat):Ft:=F.getD a (0,0,1,)
def jL(r:Rw)(F:Li Ft):Li Ft:=(r.args.take (aW r.wd)).map (f0 F)
structure Snd(rs:List Rw)(F:List Ft):Prop where
 ok:∀ (i:Nat) (f:Ft) (w:Nat),F[i]?=qz f->(~~~rs)[i]?=qz w->FtOk f w
 hold:∀ is,cO rs is->∀ (i:Nat) (f:Ft) (w n:Nat),F[i]?=qz f->(~~~rs)[i]?=qz w->(cP rs (~~~rs) is [])[i]?=qz n->Hd f n w
def nQ{F:Li Ft}(h:a<↑F):F[a]?=qz (f0 F a):=by show F[a]?=qz (F.getD a (0,0,1,));rw[xAg,yAb h];rfl
def aUN{rs:Li Rw}(p:Prg rs){a w:Nat}(h:(~~~rs)[a]?=qz w):1<=w/\w<=64:=by rw[yAe] at h;let(r,hr,rfl):=Option.map_eq_some_iff.mp h;exact p.ws a r hr
def aKn(p:Prg rs)(s:Snd rs F):∀ (l:Li Nat),(∀ a∈l,a<↑F/\a<↑rs)->uS (l.map (f0 F)) (l.map (g0 (~~~rs)))
 |[],_=>True.intro
 |a::l,h=>by
   let(h1,h2):=h a xAc;have hw:=@pK a (rs.map (·.w)) (by rw[yAd];exact h2);have hf:=nQ h1;let(is,hi):=p.ins;have hn:=@pK a (cP rs (~~~rs) is []) (by rw[aDU p hi];exact h2);let(w1,w2):=aUN p hw;exact((s.ok a _ _ hf hw,(_,aBr p hi hn hw,s.hold is hi a _ _ _ hf hw hn,),w1,w2,),aKn p s l λ b hb=>h b (xAf _ hb),)
def aLB(p:Prg rs)(s:Snd rs F)(hi:cO rs is):∀ (l:Li Nat),(∀ a∈l,a<↑F/\a<↑rs)->sR (l.map (f0 F)) (l.map (g0 (~~~rs))) (l.map (g0 (cP rs (~~~rs) is [])))
 |[],_=>True.intro
 |a::l,h=>by
   let(h1,h2):=h a xAc;have hw:=@pK a (rs.map (·.w)) (by rw[yAd];exact h2);have hf:=nQ h1;have hn:=@pK a (cP rs (~~~rs) is []) (by rw[aDU p hi];exact h2);exact((aBr p hi hn hw,s.hold is hi a _ _ _ hf hw hn,),aLB p s hi l λ b hb=>h b (xAf _ hb),)
structure Nx(rs:List Rw)(F:List Ft)(j:Nat)(r:Rw)(g:Ft):Prop where
 ok:FtOk g r.w
 rule:∀ d S,cl fns (d+7) 47 [.d r.d,.d (Tz ((bI r (~~~rs)).map nD)),.d (Tz ((jL r F).map Ft.d))] S=qz (.d g.d,S)
 hold:∀ is,cO rs is->∀ n,(cP rs (~~~rs) is [])[j]?=qz n->Hd g n r.w
def aQW(p:Prg rs)(s:Snd rs F)(hr:rs[j]?=qz r)(hF:j<=↑F):∃ g,Nx rs F j r g:=by
 let(f1,f2):=p.fit j r hr;have hj:j<↑rs:=(gIm hr).1;have hb:∀ a∈r.args.take (aW r.wd),a<↑F/\a<↑rs:=λ a ha=>by have:=f2 a ha;omega
 let(g,gk,rl,h1,h2):=(rg f1 (aKn p s _ hb)).g;refine(iJ g r.w,aZh gk,rl,λ is hi n hn=>(aRM gk).mpr ?_,);by_cases c:r.wd=.in
 .exact h2 c n
 .have e:=aEX p.fit is hr c;rw[hn] at e;cases e;exact h1 _ (aLB p s hi _ hb) c
def aRI(s:Snd rs F)(hr:rs[↑F]?=qz r)(nx:Nx rs F ↑F r g)(fk:FtOk f r.w)(hN:∀ i,f.N[i]! =Tt->g.N[i]! =Tt)(hO:∀ i,f.O[i]! =Tt->g.O[i]! =Tt)(hA:f.A<=g.A):Snd rs (F++[f]):=by
 have last:∀ {i:Nat}{x:Ft},(F++[f])[i]?=qz x->F[i]?=qz x\/(i=↑F/\x=f):=λ {i x} h=>by
  by_cases c:i<↑F
  .rw[xAm c] at h;exact .inl h
  .have hl:=(gIm h).1;simp at hl;have:i=↑F:=();subst this;rw[yAh (yAc _),yBf] at h;cases h;exact .inr (rfl,rfl,)
 have hw:(~~~rs)[↑F]?=qz r.w:=by rw[yAe,hr];rfl
 refine(λ i x w h1 h2=>?_,λ is hi i x w n h1 h2 h3=>?_,)
 .rcases last h1 with h|⟨rfl,rfl⟩
  .exact s.ok i x w h h2
  simp_all
 .rcases last h1 with h|⟨rfl,rfl⟩
  .exact s.hold is hi i x w n h h2 h3
  .rw[hw] at h2;cases h2;have q:=nx.hold is hi n h3;exact(λ i hi=>q.1 i (hN i hi),λ i hi=>q.2.1 i (hO i hi),tG hA q.2.2,)
def aUI(rs:Li Rw):Snd rs []:=(λ i f w h=>by simp at h,λ is hi i f w n h=>by simp at h,)
def aVa(d:Nat)(r:Rw)(F:Li Ft)(S0:aE)(h:∀ a∈r.args.take (aW r.wd),a<↑F):cl fns (d+2) 9 [.d r.d,.loc ↑S0] (S0++[qz (F.map Ft.d)])=qz (.d (Tz ((jL r F).map Ft.d)),S0++[qz (F.map Ft.d)]):=by
 have:=wA d r (.loc ↑S0) (.list (F.map Ft.d)) (λ a=>(f0 F a).d) (S0++[qz (F.map Ft.d)]) (λ aH=>by
  show(match (S0++[qz (F.map Ft.d)]++[qz aH])[↑S0]? with|some (qz ds)=>qz (Lz ds)|_=>qj)=_
  rw[yBc,yAh (yAc _),yBf];rfl) λ a ha=>nO (by rw[yAe,nQ (h a ha)];rfl)
 rw[this,jL,yBi];rfl
def aSH{r:Rw}{F:Li Ft}(h:∀ a∈r.args.take (aW r.wd),a<↑F):jL r (F++[f])=jL r F:=by
 unfold jL;refine yBs λ a ha=>?_
 show(F++[f]).getD a (0,0,1,)=F.getD a (0,0,1,);rw[xAg,xAg,xAm (h a ha)]
def aW5{F:Li Ft}(h:a<↑F):f0 (F++[f]) a=f0 F a:=by show(F++[f]).getD a (0,0,1,)=F.getD a (0,0,1,);rw[xAg,xAg,xAm h]
def aV4(F:Li Ft)(f:Ft):f0 (F++[f]) ↑F=f:=by show(F++[f]).getD ↑F (0,0,1,)=f;rw[xAg,yAh (yAc _),yBf];rfl
def vE(rs:Li Rw)(F:Li Ft):Prop:=∀ (i:Nat) (r:Rw),i<↑F->rs[i]?=qz r->∃ g,g=f0 F i/\Nx rs F i r g
def aJx(p:Prg rs){F:Li Ft}(hi:i<=↑F)(hr:rs[i]?=qz r)(nx:Nx rs F i r g):Nx rs (F++[f]) i r g:=by refine(nx.ok,?_,nx.hold,);rw[aSH λ a ha=>by have:=(p.fit i r hr).2 a ha;omega];exact nx.rule
def aR7(p:Prg rs)(h:vE rs F)(hr:rs[↑F]?=qz r)(nx:Nx rs F ↑F r g):vE rs (F++[g]):=λ i q hi hq=>by
 by_cases c:i<↑F
 .let(g',rfl,h1):=h i q c hq;exact(_,(aW5 c).symm,aJx p () hq h1,)
 .have ci:i=↑F:=by simp at hi;omega
  subst ci;rw[hr] at hq;cases hq;exact(g,(aV4 F g).symm,aJx p (yAc _) hr nx,)
def aHo(d:Nat)(rs:Li Rw)(o:D)(p:Prg rs)(S:aE):∃ F:Li Ft,↑F=↑rs/\Snd rs F/\vE rs F/\cl fns (d+9) 48 [.d (rs<*o)] S=qz (.d (F*>Ft.d),S):=by
 have pl:=p.l;let(aY,S',p1,F,c3,rfl,rfl,fl,fs,fo):=pL (t:=.one 3) (fi:=lv (d<$>8) aHc) (fb:=xs (d<$>8) aG9) (env:=[qz (.d (rs<*o)),qz (.d (Tz ((~~~rs).map nD))),qz (.loc ↑S),qj]) (S:=S++[qz []]) (ds:=rs.map Rw.d)
  (λ j env S'=>∃ (F:Li Ft) (c3:Oz W),env=[qz (.d (rs<*o)),qz (.d (Tz ((~~~rs).map nD))),qz (.loc ↑S),c3]/\S'=S++[qz (F.map Ft.d)]/\↑F=j/\Snd rs F/\vE rs F)
  rfl ([],qj,rfl,rfl,rfl,aUI rs,λ i r hi=>absurd hi (yDn i),) (by
   rintro j dd env S' hd ⟨F,c3,rfl,rfl,fl,fs,fo⟩;rw[yAe] at hd;let(r,hr,rfl):=Option.map_eq_some_iff.mp hd;subst fl;let(f1,f2):=p.fit _ r hr;have hj:↑F<↑rs:=(gIm hr).1;have hWl:↑(~~~rs)=↑rs:=yAd ..;let(g,nx):=aQW p fs hr (yAc _);have o1:=aKN (d+6) r (~~~rs) (S++[qz (F.map Ft.d)]) λ a ha=>by have:=f2 a ha;omega
   have o2:=aVa (d+6) r F S λ a ha=>f2 a ha
   have rl:=nx.rule (d+1) (S++[qz (F.map Ft.d)]);have ap:eZ (S++[qz (F.map Ft.d)]) (.loc ↑S) (.d g.d)=qz (.d .none,S++[qz ((F++[g]).map Ft.d)]):=by
    rw[aA4 S (F.map Ft.d) _ (by rw[yAd];omega),yAy];rfl
   exact(_,_,_,rfl,fK (gP (iN (aC rfl) (aV (aD (aC rfl) (aD (aV (aD (aC rfl) (aD (aC rfl) aO)) o1) (aD (aV (aD (aC rfl) (aD (aC rfl) aO)) o2) aO))) rl) ap)),F++[g],_,rfl,rfl,by simp,aRI fs hr nx nx.ok (λ i h=>h) (λ i h=>h) (yAc _),aR7 p fo hr nx,))
 rw[yAd] at fl;exact(F,fl,fs,fo,cH rfl rfl rfl (bK (aV (aD (aC rfl) aO) (aG4 (d+7) rs o () S)) rfl (bK (nZ (fU aO rfl (yAa rfl))) rfl (cK (nL p1) (aT (cQ (aD (aC rfl) aO) (cN (fD (qV _ _)) cU) rfl))))) yHp,)
def aDb:∀ (rs:Li Rw) (ws:Li Nat),dN ws rs->∀ (j:Nat) (r:Rw),rs[j]?=qz r->fV (ws++(rs.take j).map (·.w)) r
 |[],_,_,j,r,h=>by simp at h
 |q::rs,ws,⟨h1,h2⟩,0,r,h=>by
   simp_all
 |q::rs,ws,⟨h1,h2⟩,j+1,r,h=>by
   have:=aDb rs (ws++[q.w]) h2 j r (by simpa using h);simp_all
def aN6{a n:Nat}(h:a<n):∀ x∈[a],x<n:=λ x hx=>by
 rw[List.mem_singleton.mp hx];exact h
def aOa{a b n:Nat}(h:a<n)(h':b<n):∀ x∈[a,b],x<n:=λ x hx=>by
 rcases List.mem_cons.mp hx with rfl|hx
 .exact h
 .exact aN6 h' x hx
def bBD{a b c n:Nat}(h:a<n)(h':b<n)(h'':c<n):∀ x∈[a,b,c],x<n:=λ x hx=>by
 rcases List.mem_cons.mp hx with rfl|hx
 .exact h
 .exact aOa h' h'' x hx
def aNQ:∀ x∈([]:Li Nat),x<n:=λ x hx=>by simp at hx
section
variable {ws W:List Nat}{n:Nat}(hw:∀ a v, ws[a]?=qz v->g0 W a=v /\ 1 <= v /\ v <= 64 /\ a<n)
include hw
theorem rA{wd:Wd}{args:Li Nat}(e:(args.take (aW wd))=[a])(h:ws[a]?=qz v)(k:RwOk (wd,w,args,) [v]):RwOk (wd,w,args,) (bI (wd,w,args,) W)/\∀ x∈args.take (aW wd),x<n:=by
 let(e1,_,_,e4):=hw a v h;have:bI (wd,w,args,) W=[v]:=by
  show(args.take (aW wd)).map (g0 W)=[v];rw[e,yAk,yEj,e1]
 rw[this,e];exact(k,aN6 e4,)
theorem rB{wd:Wd}{args:Li Nat}(e:(args.take (aW wd))=[a,b])(h:ws[a]?=qz v)(h':ws[b]?=qz u)(k:RwOk (wd,w,args,) [v,u]):RwOk (wd,w,args,) (bI (wd,w,args,) W)/\∀ x∈args.take (aW wd),x<n:=by
 let(e1,_,_,e4):=hw a v h;let(d1,_,_,d4):=hw b u h';have:bI (wd,w,args,) W=[v,u]:=by
  show(args.take (aW wd)).map (g0 W)=[v,u];rw[e,yAk,yAk,yEj,e1,d1]
 rw[this,e];exact(k,aOa e4 d4,)
omit hw in
theorem aZ9{wd:Wd}(h:fV ws (wd,w,[],)):RwOk (wd,w,[],) (bI (wd,w,[],) W)/\∀ x∈yFx (aW wd) [],x<n:=by
 cases wd
 case «in» => exact(.inp h.1 h.2.1,aNQ,)
 all_goals exact h.2.2.elim
theorem aYw{wd:Wd}(h:fV ws (wd,w,[a],)):RwOk (wd,w,[a],) (bI (wd,w,[a],) W)/\∀ x∈yFx (aW wd) [a],x<n:=by
 cases wd
 case num=>exact(.num h.1 h.2.1 h.2.2,aNQ,)
 case not=>exact rA hw rfl h.2.2 (.nt h.1 h.2.1)
 case cut=>
  let(v,q1,q2):=h.2.2;exact rA hw rfl q1 (.cut h.1 q2 (hw a v q1).2.2.1)
 case wide=>
  let(v,q1,q2):=h.2.2;exact rA hw rfl q1 (.wide (hw a v q1).2.1 q2 h.2.1)
 case sign=>
  let(v,q1,q2):=h.2.2;exact rA hw rfl q1 (.sign (hw a v q1).2.1 q2 h.2.1)
 all_goals exact h.2.2.elim
theorem aE0{wd:Wd}(aN:wd=.same\/wd=.less\/wd=.under)(q:w=1/\∃ v,ws[a]?=qz v/\ws[b]?=qz v)(e:aW wd=2):RwOk ⟨wd,w,[a,b]⟩ (bI ⟨wd,w,[a,b]⟩ W)/\∀ x∈yFx (aW wd) [a,b],x<n:=by let(rfl,v,q1,q2):=q;exact rB hw (by rw[e];rfl) q1 q2 (.cmp (hw a v q1).2.1 (hw a v q1).2.2.1 aN)
theorem aZo{wd:Wd}(h:fV ws (wd,w,[a,b],)):RwOk (wd,w,[a,b],) (bI (wd,w,[a,b],) W)/\∀ x∈yFx (aW wd) [a,b],x<n:=by
 cases wd
 case left=>exact rA hw rfl h.2.2.1 (.sh h.1 h.2.1 (.inl rfl) h.2.2.2)
 case right=>exact rA hw rfl h.2.2.1 (.sh h.1 h.2.1 (.inr (.inl rfl)) h.2.2.2)
 case slide=>exact rA hw rfl h.2.2.1 (.sh h.1 h.2.1 (.inr (.inr rfl)) h.2.2.2)
 case and=>exact rB hw rfl h.2.2.1 h.2.2.2 (.bw h.1 h.2.1 (.inl rfl))
 case or=>exact rB hw rfl h.2.2.1 h.2.2.2 (.bw h.1 h.2.1 (.inr (.inl rfl)))
 case xor=>exact rB hw rfl h.2.2.1 h.2.2.2 (.bw h.1 h.2.1 (.inr (.inr rfl)))
 case add=>exact rB hw rfl h.2.2.1 h.2.2.2 (.sm (s:=.add) h.1 h.2.1)
 case sub=>exact rB hw rfl h.2.2.1 h.2.2.2 (.sm (s:=.sub) h.1 h.2.1)
 case mul=>exact rB hw rfl h.2.2.1 h.2.2.2 (.sm (s:=.mul) h.1 h.2.1)
 case same=>exact aE0 hw (.inl rfl) h.2.2 rfl
 case less=>exact aE0 hw (.inr (.inl rfl)) h.2.2 rfl
 case under=>exact aE0 hw (.inr (.inr rfl)) h.2.2 rfl
 all_goals exact h.2.2.elim
theorem aYs{wd:Wd}(h:fV ws (wd,w,[a,b,c],)):RwOk (wd,w,[a,b,c],) (bI (wd,w,[a,b,c],) W)/\∀ x∈yFx (aW wd) [a,b,c],x<n:=by
 cases wd
 case pick=>
  let(q1,q2,q3):=h.2.2;let(e1,_,_,e4):=hw a _ q1;let(d1,_,_,d4):=hw b _ q2;let(c1,_,_,c4):=hw c _ q3;have:bI (.pick,w,[a,b,c],) W=[1,w,w]:=by
   show [g0 W a,g0 W b,g0 W c]=[1,w,w];rw[e1,d1,c1]
  rw[this];exact(.pick h.1 h.2.1,bBD e4 d4 c4,)
 all_goals exact h.2.2.elim
omit hw in
theorem bAA{wd:Wd}(h:fV ws (wd,w,a::b::c::e::t,)):False:=by
 cases wd
 all_goals exact h.2.2
theorem aJL(h:fV ws r):RwOk r (bI r W)/\∀ x∈r.args.take (aW r.wd),x<n:=by
 let(wd,w,args):=r
 match args,h with
 |[],h=>exact aZ9 h|[a],h=>exact aYw hw h|[a,b],h=>exact aZo hw h|[a,b,c],h=>exact aYs hw h|_::_::_::_::_,h=>exact(bAA h).elim
end
def aI7:∀ rs:Li Rw,∃ is,cO rs is
 |[]=>([],rfl,)
 |r::rs=>by
   let(is,h):=aI7 rs;by_cases c:r.wd=.in
   .refine(0::is,?_,);rw[cO,if_pos c];exact(0,is,rfl,xAe _,h,)
   .refine(is,?_,);rw[cO,if_neg c];exact h
def lB(h:dN [] rs):lJ rs/\∀ (j:Nat) (r:Rw),rs[j]?=qz r->1<=r.w/\r.w<=64:=by
 have ws:∀ (j:Nat) (r:Rw),rs[j]?=qz r->1<=r.w/\r.w<=64:=λ j r hr=>by
  have:=aDb rs [] h j r hr;exact(this.1,this.2.1,)
 refine(λ j r hr=>?_,ws,);have ok:=aDb rs [] h j r hr;rw[yEg] at ok;refine aJL (n:=j) (λ a v ha=>?_) ok;have hj:j<↑rs:=(gIm hr).1;have haj:a<j:=by
  have:=(gIm ha).1;rw[yAd,yBj] at this;omega
 rw[yAe,yCv haj] at ha;let(q,hq,rfl):=Option.map_eq_some_iff.mp ha;let(w1,w2):=ws a q hq;refine(?_,w1,w2,haj,);show(~~~rs).getD a 0=q.w;rw[xAg,yAe,hq];rfl
def aEW(h:dN [] rs)(hl:↑rs<=250):Prg rs:=(hl,(lB h).1,aI7 rs,(lB h).2,)
noncomputable abbrev sT(T:aE)(ns:List Int)(k:Nat)(x:Int):aE:=qz (bV ns k x)::T
def aBJ(T:aE)(ns:Li Int)(k:Nat)(x:Int)(h:↑T<=40):cL (qj::T) 0 50 ns k x []=sT T ns k x:=by unfold cL;rw[yCx,yEf];simp;omega
def aNO(T:aE)(h:↑T<=40):At0 (qj::T) 0 50:=(by simp,by decide,)
def aY8{x:Int}(T:aE)(hT:↑T<=40)(d w:Nat)(hw:1<=w)(cR:w<=64)(hk:k<=98000):∃ (r k':Nat) (x':Int),r<2^w/\k'<=k+5/\cl fns (d+3) 82 [.loc 0,.d (Iz w)] (sT T ns k x)=qz (.d (Iz r),sT T ns k' x'):=by let(r,k',x',hr,hk',e):=@aEZ _ _ _ k ns [] x (aNO T hT) d w hw cR hk;rw[aBJ T _ _ _ hT,aBJ T _ _ _ hT] at e;exact(r,k',x',hr,hk',e,)
def aEt{x:Int}(T:aE)(hT:↑T<=40)(d m:Nat)(hm:0<m)(hm2:m<2^64)(hk:k<=100000):∃ (r:Nat) (x':Int),r<m/\cl fns (d+1) 79 [.loc 0,.d (Iz m)] (sT T ns k x)=qz (.d (Iz r),sT T ns (k+1) x'):=by let(r,x',hr,e):=@kW _ _ _ k ns [] x (aNO T hT) d m hm hm2 hk;rw[aBJ T _ _ _ hT,aBJ T _ _ _ hT] at e;exact(r,x',hr,e,)
def aQB{x:Int}(d:Nat)(rs:Li Rw)(o:D)(p:Prg rs)(hk:k<=50000):∃ (is:Li Nat) (k':Nat) (x':Int),cO rs is/\k'<=k+5*↑rs/\cl fns (d+4) 92 [.loc 0,.d (rs<*o)] [qz (bV ns k x)]=qz (.d (is*>nD),[qz (bV ns k' x')]):=by
 have pl:=p.l;let(aY,S',p1,is,k',x',c3,hk',al,hi,rfl,rfl):=pL (t:=.one 3) (fi:=lv (d<$>3) aGM) (fb:=xs (d<$>3) aGJ) (env:=[#[0],qz (.d (rs<*o)),#[1],qj]) (S:=[qz (bV ns k x),qz []]) (ds:=rs.map Rw.d)
  (λ j env S'=>∃ (is:Li Nat) (k':Nat) (x':Int) (c3:Oz W),k'<=k+5*j/\↑is<=j/\(∀ is',cO (rs.drop j) is'->cO rs (is++is'))/\env=[#[0],qz (.d (rs<*o)),#[1],c3]/\S'=[qz (bV ns k' x'),qz (is.map nD)])
  rfl ([],k,x,qj,(),yAc _,λ is' h=>h,rfl,rfl,) (by
   rintro j dd env S' hd ⟨is,k',x',c3,hk',al,hi,rfl,rfl⟩;rw[yAe] at hd;let(r,hr,rfl):=Option.map_eq_some_iff.mp hd;have hj:j<↑rs:=(gIm hr).1;let(w1,w2):=p.ws j r hr;by_cases c:r.wd=.in
   .have t:bE .Eq (.str r.wd.s) (.str "in")=qz (.bool Tt):=by rw[c];exact bY .in .in
    let(n,k2,x2,hn,hk2,e2):=@aY8 k' ns x' [qz (is.map nD)] (by simp) d r.w w1 w2 ();have ap:eZ [qz (bV ns k2 x2),qz (is.map nD)] (.loc 1) (.d (Iz n))=qz (.d .none,[qz (bV ns k2 x2),qz ((is++[n]).map nD)]):=by
     have:=aA4 [qz (bV ns k2 x2)] (is.map nD) (.int n) (by rw[yAd];omega);rw[yAy];exact this
    refine(_,_,_,rfl,fK (jB (aZ (bM (aC rfl) aJ rfl (iO r)) bZ t) (fK (gP (iN (aC rfl) (aV (cB rfl (bM (aC rfl) aJ rfl (jR r))) e2) ap)))),is++[n],k2,x2,_,(),by simp;omega,λ is' h=>?_,rfl,rfl,)
    have:=hi (n::is') (by
     rw[aA0 hr,cO,if_pos c];exact(n,is',rfl,hn,h,))
    rw[yBc];exact this
   .have t:bE .Eq (.str r.wd.s) (.str "in")=qz (.bool Ff):=by
     have:=bY r.wd .in;rw[dqF c] at this;exact this
    exact(_,_,_,rfl,fK (jA (aZ (bM (aC rfl) aJ rfl (iO r)) bZ t) rfl),is,k',x',_,(),(),λ is' h=>hi is' (by rw[aA0 hr,cO,if_neg c];exact h),rfl,rfl,))
 rw[yAd] at hk' hi;have hin:=hi [] (by rw[yGl];rfl);rw[yBa] at hin;exact(is,k',x',hin,hk',cH rfl rfl rfl (bK (nZ (fU aO rfl (yAa rfl))) rfl (cK (nL p1) (aT (cQ (aD (aC rfl) aO) (cN (fD rfl) cU) rfl)))) rfl,)
def aFg{m:Nat}(h:m[i]! =Tt):i<bl m:=by
 by_cases c:i<bl m
 .exact c
 .rw[cX (rL m) ()] at h;cases h
def aTk(i t:Nat):(2^i)[t]! =decide (i=t):=yFm
def jQ(x w:Nat):Nat:=if x/2^w=0 then x else (x&&&(2^w-1))|||2^(w-1)
def aDx(hw:1<=w):(jQ x w)[t]! =Tt ↔ (t<w/\x[t]! =Tt)\/(t=w-1/\∃ j,w<=j/\x[j]! =Tt):=by
 unfold jQ;split
 .rename_i h;rw[aCY] at h;constructor
  .intro z;refine .inl (?_,z,);by_cases c:t<w
   .exact c
   .rw[h t ()] at z;cases z
  .rintro (⟨_,z⟩|⟨_,j,h1,h2⟩)
   .exact z
   .rw[h j h1] at h2;cases h2
 .rename_i h;rw[xAo,yAi,dP,aTk];have h':∃ j,w<=j/\x[j]! =Tt:=by
   rw[aCY] at h;simp_all
  constructor
  .intro z;simp only[yEv,yBn,decide_eq_true_eq] at z;rcases z with ⟨z1,z2⟩|z
   .exact .inl (z2,z1,)
   .exact .inr (z.symm,h',)
  .rintro (⟨z1,z2⟩|⟨z,_⟩)
   .simp[z1,z2]
   .simp[z]
def aKA(hw:1<=w):jQ x w<2^w:=by
 apply yCn;intro i hi;cases q:(jQ x w)[i]! with
 |false=>rfl
 |true=>
   rcases (aDx hw).mp q with ⟨h,_⟩|⟨h,_⟩<;>omega
structure Fc where
 N:Nat
 O:Nat
 A:Nat
noncomputable instance:Inhabited Fc:=⟨(0,0,0,)⟩
def bO(wd:Wd)(w kk:Nat)(ws:Li Nat)(fs:Li Fc)(m:Nat):Li Nat:=
 if m=0 then yAg (aW wd) 0 else
 match wd with
 |.in|.num=>[]
 |.not|.cut=>[m]
 |.xor=>[m,m]|.and=>[fN m (fN (fs.getD 1 default).N (fs.getD 0 default).N),fN m (fs.getD 0 default).N]|.or=>[fN m (fN (fs.getD 1 default).O (fs.getD 0 default).O),fN m (fs.getD 0 default).O]
 |.add|.sub=>[2^bl m-1,2^bl m-1]
 |.mul=>[2^(bl m-min (bl m) (lr (fs.getD 1 default).N))-1,2^(bl m-min (bl m-min (bl m) (lr (fs.getD 1 default).N)) (lr (fs.getD 0 default).N))-1]|.left=>[m/2^kk]|.right=>[(m*2^kk)&&&(2^w-1)]|.slide=>[jQ (m*2^kk) w]|.wide=>[m&&&(2^ws.getD 0 0-1)]|.sign=>[jQ m (ws.getD 0 0)]
 |.same|.less|.under=>[2^ws.getD 0 0-1,2^ws.getD 1 0-1]
 |.pick=>if (fs.getD 0 default).O=1 then [1,m,0] else if (fs.getD 0 default).N=1 then [1,0,m] else [1,m,m]
def aCD(wd:Wd)(w:Nat)(ws:Li Nat):Prop:=1<=w/\w<=64/\match wd with
 |.in|.num=>ws=[]
 |.not|.left|.right|.slide=>ws=[w]
 |.and|.or|.xor|.add|.sub|.mul=>ws=[w,w]
 |.cut=>∃ v,ws=[v]/\w<=v/\v<=64
 |.wide|.sign=>∃ v,ws=[v]/\v<=w/\1<=v
 |.same|.less|.under=>w=1/\∃ v,ws=[v,v]/\1<=v/\v<=64
 |.pick=>ws=[1,w,w]
def aIH{wd:Wd}:↑(bO wd w kk ws fs m)=aW wd:=by
 unfold bO;split
 .simp
 .cases wd<;>first|rfl|(simp only;split<;>first|rfl|(split<;>rfl))
def aAF(x k t:Nat):(x*2^k)[t]! =(decide (k<=t)&&x[(t-k)]!):=by rw[Nat.testBit_mul_two_pow]
def iZ(h:k<=v):2^k-1<2^v:=by have h1:=xAe k;have h2:(2:Nat)^k<=2^v:=yAm (·) h;omega
def aBm(h:m<2^v):fN m y<2^v:=xAi (yFd _ _) h
def aTJ(wd:Wd)(w kk:Nat)(ws:Li Nat)(fs:Li Fc)(m c v:Nat)(hk:aCD wd w ws)(hm:m<2^w)(hv:ws[c]?=qz v):(bO wd w kk ws fs m).getD c 0<2^v:=by
 by_cases h0:m=0
 .subst h0;have e:(bO wd w kk ws fs 0).getD c 0=0:=by
   unfold bO;rw[if_pos rfl,xAg,yEm];split<;>rfl
  rw[e];exact xAe _
 have hb:bl m<=w:=tY hm;have e0:bO wd w kk ws fs m=_:=if_neg h0;rw[e0];have one:∀ {a u:Nat},ws=[u]->a<2^u->[a].getD c 0<2^v:=λ {a u} e h=>by
  subst e
  match c,hv with
  |0,hv=>cases hv;exact h|c+1,hv=>simp at hv
 have two:∀ {a b u x:Nat},ws=[u,x]->a<2^u->b<2^x->[a,b].getD c 0<2^v:=λ {a b u x} e h h2=>by
  subst e
  match c,hv with
  |0,hv=>cases hv;exact h|1,hv=>cases hv;exact h2|c+2,hv=>simp at hv
 have three:∀ {a b e u x y:Nat},ws=[u,x,y]->a<2^u->b<2^x->e<2^y->[a,b,e].getD c 0<2^v:=λ {a b e u x y} e' h h2 h3=>by
  subst e'
  match c,hv with
  |0,hv=>cases hv;exact h|1,hv=>cases hv;exact h2|2,hv=>simp_all|c+3,hv=>simp at hv
 let(cC,cR,hk):=hk;cases wd with
 | «in» => rw[hk] at hv;simp at hv|num=>rw[hk] at hv;simp at hv|not=>exact one hk hm
 |cut=>
   let(u,e,h1,h2):=hk;exact one e (xAb hm (yAm (·) h1))
 |xor=>exact two hk hm hm|and=>exact two hk (aBm hm) (aBm hm)|or=>exact two hk (aBm hm) (aBm hm)|add=>exact two hk (iZ hb) (iZ hb)|sub=>exact two hk (iZ hb) (iZ hb)|mul=>exact two hk (iZ ()) (iZ ())|left=>exact one hk (xAi (yGw _ _) hm)|right=>exact one hk (Nat.and_lt_two_pow _ (iZ (yAc _)))|slide=>exact one hk (aKA cC)
 |wide=>
   let(u,e,h1,h2):=hk;subst e;exact one rfl (Nat.and_lt_two_pow _ (iZ (yAc _)))
 |sign=>
   let(u,e,h1,h2):=hk;subst e;exact one rfl (aKA h2)
 |same=>
   let(_,u,e,h1,h2):=hk;subst e;exact two rfl (iZ (yAc _)) (iZ (yAc _))
 |less=>
   let(_,u,e,h1,h2):=hk;subst e;exact two rfl (iZ (yAc _)) (iZ (yAc _))
 |under=>
   let(_,u,e,h1,h2):=hk;subst e;exact two rfl (iZ (yAc _)) (iZ (yAc _))
 |pick=>
   simp only;split
   .exact three hk (·) hm (xAe _)
   .split
    .exact three hk (·) (xAe _) hm
    .exact three hk (·) hm hm
def Fc.d(f:Fc):D:=.tuple [.int f.N,.int f.O,.int f.A]
def aB9(f:Fc):aU f.d (Iz 0)=qz (.int f.N):=rfl
def aCj(f:Fc):aU f.d (Iz 1)=qz (.int f.O):=rfl
def aM5(a:D):aU (.tuple [a]) (.int 0)=qz a:=rfl
def aB4(a b:D):aU (.tuple [a,b]) (.int 0)=qz a:=rfl
def aB3(a b:D):aU (.tuple [a,b]) (.int 1)=qz b:=rfl
def aYT(a b c:D):aU (.tuple [a,b,c]) (.int 0)=qz a:=rfl
def aHK(d a b m:Nat)(S:aE):cl fns (d+1) 12 [.d (Iz a),.d (Iz b),.d (Iz m)] S=qz (.d (Tz [Iz ((fN m (fN b a):Nat):Int),Iz ((fN m a:Nat):Int)]),S):=by rw[bX rfl d _ S rfl];erw[11,aG1,aJQ,aIG]
def aSl(i j:Nat):(if (j:_)<(i:_) then (j:_) else (i:_))=((min i j:Nat):Int):=by
 by_cases c:j<i
 .rw[if_pos (),yDv ()]
 .rw[if_neg (),yDq ()]
def aPu(d a b m:Nat)(hm:m<2^64)(S:aE):cl fns (d+3) 13 [.d (Iz a),.d (Iz b),.d (Iz m)] S=qz (.d (Tz [Iz ((2^(bl m-min (bl m) (lr b))-1:Nat):Int),Iz ((2^(bl m-min (bl m-min (bl m) (lr b)) (lr a))-1:Nat):Int)]),S):=by have hb:=tY hm;have e1:((bl m:Nat):Int)-((min (bl m) (lr b):Nat):Int)=((bl m-min (bl m) (lr b):Nat):Int):=();have e2:((bl m:Nat):Int)-((min (bl m-min (bl m) (lr b)) (lr a):Nat):Int)=((bl m-min (bl m-min (bl m) (lr b)) (lr a):Nat):Int):=();rw[bX rfl (d+2) _ S rfl];erw[20,gH,aIn,aA8 (d+1),aEP d,lL,aSl,dR,e1,e2,dI (d+1) (bl m-min (bl m) (lr b)) (),dI (d+1) (bl m-min (bl m-min (bl m) (lr b)) (lr a)) ()]
def aH8(d y w:Nat)(hw:1<=w)(cR:w<=1000)(S:aE):cl fns (d+2) 14 [.d (Iz y),.d (Iz w)] S=qz (.d (Iz ((jQ y w:Nat):Int)),S):=by
 have e1:(w:Int)-1=(w-1:_):=();rw[bX rfl (d+1) _ S rfl];unfold jQ;by_cases c:y/2^w=0
 .have d1:(y/2^w==0)=Tt:=by rw[beq_iff_eq];exact c
  rw[if_pos c];erw[11,aDY,jN,cT,fH,d1]
 .have d1:(y/2^w==0)=Ff:=by rw[beq_eq_false_iff_ne];exact c
  rw[if_neg c];have hq41:=dI d w ();have hq42:=kU (show w-1<=100000 by omega);erw[11,aDY,jN,cT,fH,d1,hq41,eE,dR,e1,hq42,gI]
def aTI(d w kk m:Nat)(S:aE):cl fns (d+3) 15 [.d (Sz "left"),.d (Iz w),.d (Iz kk),.d (Iz m)] S=qz (.d (Iz (m/2^kk:_)),S):=by have c1:bE .Eq (.str "left") (.str "left")=qz (.bool Tt):=bY .left .left;rw[bX rfl (d+2) _ S rfl];erw[11,aAH,c1,jN]
def aSe(d w kk m:Nat)(hw:w<=64)(hk:kk<=64)(hm:m<2^64)(S:aE):cl fns (d+3) 15 [.d (Sz "right"),.d (Iz w),.d (Iz kk),.d (Iz m)] S=qz (.d (Iz (((m*2^kk)&&&(2^w-1):Nat):Int)),S):=by have c1:bE .Eq (.str "right") (.str "left")=qz (.bool Ff):=bY .right .left;have c2:bE .Eq (.str "right") (.str "right")=qz (.bool Tt):=bY .right .right;rw[bX rfl (d+2) _ S rfl];have hq43:=tJ hm (show 64+kk<=100000 by omega);have hq44:=dI (d+1) w ();erw[11,aAH,c1,c2,hq43,hq44,eE]
def aSv(d w kk m:Nat)(cC:1<=w)(hw:w<=64)(hk:kk<=64)(hm:m<2^64)(S:aE):cl fns (d+3) 15 [.d (Sz "slide"),.d (Iz w),.d (Iz kk),.d (Iz m)] S=qz (.d (Iz ((jQ (m*2^kk) w:Nat):Int)),S):=by have c1:bE .Eq (.str "slide") (.str "left")=qz (.bool Ff):=bY .slide .left;have c2:bE .Eq (.str "slide") (.str "right")=qz (.bool Ff):=bY .slide .right;rw[bX rfl (d+2) _ S rfl];have hq45:=tJ hm (show 64+kk<=100000 by omega);erw[11,aAH,c1,c2,hq45,aH8 d _ w cC ()]
def aOZ(d:Nat)(f:Fc)(m:Nat)(S:aE):cl fns (d+1) 16 [.d f.d,.d (Iz m)] S=qz (.d (Tz ((if f.O=1 then [1,m,0] else if f.N=1 then [1,0,m] else [1,m,m]).map nD)),S):=by
 rw[bX rfl d _ S rfl];by_cases c1:f.O=1
 .have d1:(f.O==1)=Tt:=by rw[beq_iff_eq];exact c1
  rw[if_pos c1];erw[11,aAL,aCj,cT,nF,d1]
 .have d1:(f.O==1)=Ff:=by rw[beq_eq_false_iff_ne];exact c1
  rw[if_neg c1];by_cases c2:f.N=1
  .have d2:(f.N==1)=Tt:=by rw[beq_iff_eq];exact c2
   rw[if_pos c2];erw[11,aAL,aCj,aB9,cT,nF,d1,d2]
  .have d2:(f.N==1)=Ff:=by rw[beq_eq_false_iff_ne];exact c2
   rw[if_neg c2];erw[11,aAL,aCj,aB9,cT,nF,d1,d2]
def tQ(wd:Wd)(args:Li Nat)(kk:Nat):Prop:=match wd with
 |.in=>args=[]|.num=>∃ n,args=[n]
 |.not|.cut|.wide|.sign=>∃ a,args=[a]
 |.left|.right|.slide=>∃ a,args=[a,kk]/\kk<64
 |.pick=>∃ a b c,args=[a,b,c]|_=>∃ a b,args=[a,b]
def aA5{wd:Wd}(h:tQ wd args kk):↑(args.take (aW wd))=aW wd:=by
 cases wd<;>first
  |(obtain rfl:=h;rfl)
  |(let(a,b,c,rfl):=h;rfl)
  |(let(a,b,rfl):=h;rfl)
  |(let(a,rfl,_):=h;rfl)
  |(let(a,rfl):=h;rfl)
def aZK(a:Wd):bE .In (.str a.s) (.tuple [.str "add",.str "sub"])=qz (.bool (decide (a=.add\/a=.sub))):=by cases a<;>rfl
def bAf{wd:Wd}:aU (Rw.mk wd w [a,k]).d (Iz 3)=qz (.int k):=rfl
def aFz{α:Type}{l:List α}(h:↑l=2):∃ a b,l=[a,b]:=by
 match l,h with
 |[a,b],_=>exact(a,b,rfl,)
def bBh{α:Type}{l:List α}(h:↑l=3):∃ a b c,l=[a,b,c]:=by
 match l,h with
 |[a,b,c],_=>exact(a,b,c,rfl,)
noncomputable abbrev eA(R W G:D)(m:Nat)(x:Wd):bG:=[qz (.d R),qz (.d W),qz (.d G),(m:),qz (.d (Sz x.s))]
def aK:Nat->Sx
 |0=>bH aHb|k+1=>bH (aK k)
section
variable (C:Calls)(R W G:D)(m:Nat)(S:aE)(x:Wd)
theorem aFI:tv C (.cmp .Eq (.var 4) (.str "and")) (eA R W G m x) S=qz (decide (x=.and),S):=dS rfl (bY x .and)
theorem aNJ:tv C (.cmp .Eq (.var 4) (.str "or")) (eA R W G m x) S=qz (decide (x=.or),S):=dS rfl (bY x .or)
theorem aOb:tv C (.cmp .In (.var 4) (.tup (.cons (.str "add") (.cons (.str "sub") .nil)))) (eA R W G m x) S=qz (decide (x=.add\/x=.sub),S):=lE rfl rfl (aZK x)
theorem aNE:tv C (.cmp .Eq (.var 4) (.str "mul")) (eA R W G m x) S=qz (decide (x=.mul),S):=dS rfl (bY x .mul)
theorem aN5:tv C (.cmp .In (.var 4) (.con "SHIFTS" pG)) (eA R W G m x) S=qz (decide (x=.left\/x=.right\/x=.slide),S):=lE rfl rfl (aA2 x)
theorem aFD:tv C (.cmp .Eq (.var 4) (.str "wide")) (eA R W G m x) S=qz (decide (x=.wide),S):=dS rfl (bY x .wide)
theorem aNX:tv C (.cmp .Eq (.var 4) (.str "sign")) (eA R W G m x) S=qz (decide (x=.sign),S):=dS rfl (bY x .sign)
theorem aFK:tv C (.cmp .In (.var 4) (.con "COMPARES" nH)) (eA R W G m x) S=qz (decide (x=.same\/x=.less\/x=.under),S):=lE rfl rfl (aEe x)
theorem aNp:tv C (.cmp .Eq (.var 4) (.str "pick")) (eA R W G m x) S=qz (decide (x=.pick),S):=dS rfl (bY x .pick)
variable {C R W G m S}{r:Option (Fl×aE)}
theorem kK(e:aK k=.seq (.ifs c t .skip) (aK (k+1)))(h:tv C c (eA R W G m x) S=qz (b,S))(hb:b=Ff)(g:xs C (aK (k+1)) (eA R W G m x) S=r):xs C (aK k) (eA R W G m x) S=r:=by subst hb;rw[e];exact aP h g
theorem aNt(h:(decide (x=.and)||decide (x=.or))=Ff)(g:xs C (aK 2) (eA R W G m x) S=r):xs C (aK 0) (eA R W G m x) S=r:=by let(h1,h2):=Bool.or_eq_false_iff.mp h;exact kK x rfl (aFI C R W G m S x) h1 (kK x rfl (aNJ C R W G m S x) h2 g)
theorem aNw(h:(decide (x=.and)||decide (x=.or))=Ff)(h2:decide (x=.add\/x=.sub)=Ff)(g:xs C (aK 3) (eA R W G m x) S=r):xs C (aK 0) (eA R W G m x) S=r:=aNt x h (kK x rfl (aOb C R W G m S x) h2 g)
theorem aNR(h:(decide (x=.and)||decide (x=.or))=Ff)(h2:(decide (x=.add\/x=.sub)||decide (x=.mul))=Ff)(g:xs C (aK 4) (eA R W G m x) S=r):xs C (aK 0) (eA R W G m x) S=r:=by let(h3,h4):=Bool.or_eq_false_iff.mp h2;exact aNw x h h3 (kK x rfl (aNE C R W G m S x) h4 g)
theorem aF1(h:(decide (x=.and)||decide (x=.or))=Ff)(h2:(decide (x=.add\/x=.sub)||decide (x=.mul))=Ff)(h5:decide (x=.left\/x=.right\/x=.slide)=Ff)(g:xs C (aK 5) (eA R W G m x) S=r):xs C (aK 0) (eA R W G m x) S=r:=aNR x h h2 (kK x rfl (aN5 C R W G m S x) h5 g)
theorem aFU(h:(decide (x=.and)||decide (x=.or))=Ff)(h2:(decide (x=.add\/x=.sub)||decide (x=.mul))=Ff)(h5:decide (x=.left\/x=.right\/x=.slide)=Ff)(h6:(decide (x=.wide)||decide (x=.sign))=Ff)(g:xs C (aK 7) (eA R W G m x) S=r):xs C (aK 0) (eA R W G m x) S=r:=by let(h3,h4):=Bool.or_eq_false_iff.mp h6;exact aF1 x h h2 h5 (kK x rfl (aFD C R W G m S x) h3 (kK x rfl (aNX C R W G m S x) h4 g))
theorem bAX(h:(decide (x=.and)||decide (x=.or))=Ff)(h2:(decide (x=.add\/x=.sub)||decide (x=.mul))=Ff)(h5:decide (x=.left\/x=.right\/x=.slide)=Ff)(h6:(decide (x=.wide)||decide (x=.sign))=Ff)(h8:(decide (x=.same\/x=.less\/x=.under)||decide (x=.pick))=Ff)(g:xs C (aK 9) (eA R W G m x) S=r):xs C (aK 0) (eA R W G m x) S=r:=by let(h3,h4):=Bool.or_eq_false_iff.mp h8;exact aFU x h h2 h5 h6 (kK x rfl (aFK C R W G m S x) h3 (kK x rfl (aNp C R W G m S x) h4 g))
end
section
variable (d w kk m:Nat)(ws:List Nat)(R W:D)(S:aE)(h0:m≠0)
include h0
theorem aSP(f g:Fc):xs (d<$>3) (aK 0) (eA R W (.tuple ([f,g].map Fc.d)) m .and) S=qz (.rt (.d (Tz ((bO .and w kk ws [f,g] m).map nD))),S):=by rw[show bO .and w kk ws [f,g] m=_ from if_neg h0];refine bS (aFI _ _ _ _ _ _ .and) (aT ?_);erw[0,aB4,aB3,aB9,aHK (d+2),nD,yFo,yGx]
theorem aVP(f g:Fc):xs (d<$>3) (aK 0) (eA R W (.tuple ([f,g].map Fc.d)) m .or) S=qz (.rt (.d (Tz ((bO .or w kk ws [f,g] m).map nD))),S):=by rw[show bO .or w kk ws [f,g] m=_ from if_neg h0];refine kK .or rfl (aFI _ _ _ _ _ _ .or) rfl (bS (aNJ _ _ _ _ _ _ .or) (aT ?_));erw[0,aB4,aB3,aCj,aHK (d+2),nD,yFo,yGx]
theorem aKU(x:Wd)(hx:decide (x=.add\/x=.sub)=Tt)(h1:(decide (x=.and)||decide (x=.or))=Ff)(G:D)(bm:m<2^10000):xs (d<$>3) (aK 0) (eA R W G m x) S=qz (.rt (.d (Tz ([2^bl m-1,2^bl m-1].map nD))),S):=by have t:=aOb (d<$>3) R W G m S x;rw[hx] at t;refine aNt x h1 (bS t (aT ?_));erw[0,aJd (d+1) m _ bm,nD]
theorem aTB(f g:Fc)(hm:m<2^64):xs (d<$>3) (aK 0) (eA R W (.tuple ([f,g].map Fc.d)) m .mul) S=qz (.rt (.d (Tz ((bO .mul w kk ws [f,g] m).map nD))),S):=by rw[show bO .mul w kk ws [f,g] m=_ from if_neg h0];refine aNw .mul rfl rfl (bS (aNE _ _ _ _ _ _ .mul) (aT ?_));erw[20,aB4,aB3,aB9,aPu d f.N g.N m hm,nD,yFo,yGx]
theorem aEl(x:Wd)(hx:decide (x=.left\/x=.right\/x=.slide)=Tt)(h1:(decide (x=.and)||decide (x=.or))=Ff)(h2:(decide (x=.add\/x=.sub)||decide (x=.mul))=Ff)(a:Nat)(G:D){z:Nat}(sl:cl fns (d+3) 15 [.d (Sz x.s),.d (Iz w),.d (Iz kk),.d (Iz m)] S=qz (.d (Iz z),S)):xs (d<$>3) (aK 0) (eA (Rw.mk x w [a,kk]).d W G m x) S=qz (.rt (.d (Tz ([z].map nD))),S):=by have t:=aN5 (d<$>3) (Rw.mk x w [a,kk]).d W G m S x;rw[hx] at t;have r1:aU (Rw.mk x w [a,kk]).d (Iz 1)=qz (.int w):=jR _;refine aNR x h1 h2 (bS t (aT ?_));erw[20,r1,bAf,sl,nD]
theorem aRs(v:Nat)(hv:v<=64)(G:D):xs (d<$>3) (aK 0) (eA R (.tuple ([v].map nD)) G m .wide) S=qz (.rt (.d (Tz ([m&&&(2^v-1)].map nD))),S):=by refine aF1 .wide rfl rfl rfl (bS (aFD _ _ _ _ _ _ .wide) (aT ?_));have hq46:=dI (d+2) v ();erw[0,nD,aM5,hq46,eE]
theorem aSC(v:Nat)(hv1:1<=v)(hv:v<=64)(G:D):xs (d<$>3) (aK 0) (eA R (.tuple ([v].map nD)) G m .sign) S=qz (.rt (.d (Tz ([jQ m v].map nD))),S):=by refine aF1 .sign rfl rfl rfl (kK .sign rfl (aFD _ _ _ _ _ _ .sign) rfl (bS (aNX _ _ _ _ _ _ .sign) (aT ?_)));have hq47:=aH8 (d+1) m v hv1 ();erw[0,nD,aM5,hq47]
theorem aDH(x:Wd)(hx:decide (x=.same\/x=.less\/x=.under)=Tt)(h1:(decide (x=.and)||decide (x=.or))=Ff)(h2:(decide (x=.add\/x=.sub)||decide (x=.mul))=Ff)(h5:decide (x=.left\/x=.right\/x=.slide)=Ff)(h6:(decide (x=.wide)||decide (x=.sign))=Ff)(v:Nat)(hv:v<=64)(G:D):xs (d<$>3) (aK 0) (eA R (.tuple ([v,v].map nD)) G m x) S=qz (.rt (.d (Tz ([2^v-1,2^v-1].map nD))),S):=by have t:=aFK (d<$>3) R (.tuple ([v,v].map nD)) G m S x;rw[hx] at t;refine aFU x h1 h2 h5 h6 (bS t (aT ?_));have hq48:=dI (d+2) v ();erw[0,nD,aB4,aB3,hq48]
theorem aSB(f g h:Fc):xs (d<$>3) (aK 0) (eA R W (.tuple ([f,g,h].map Fc.d)) m .pick) S=qz (.rt (.d (Tz ((bO .pick w kk ws [f,g,h] m).map nD))),S):=by rw[show bO .pick w kk ws [f,g,h] m=_ from if_neg h0];refine aFU .pick rfl rfl rfl rfl (kK .pick rfl (aFK _ _ _ _ _ _ .pick) rfl (bS (aNp _ _ _ _ _ _ .pick) (aT ?_)));erw[0,aYT,aOZ (d+2),yFo]
omit h0 in
theorem bAQ(n:Nat)(h:n<=10):cD .Mult (.tuple [.int m]) (.int (n:_))=qz (.tuple ((yAg n m).map nD)):=by rw[@aDF _ n (),yGc];rfl
theorem wH(x:Wd)(args:Li Nat)(ha:tQ x args kk)(h1:(decide (x=.and)||decide (x=.or))=Ff)(h2:(decide (x=.add\/x=.sub)||decide (x=.mul))=Ff)(h5:decide (x=.left\/x=.right\/x=.slide)=Ff)(h6:(decide (x=.wide)||decide (x=.sign))=Ff)(h8:(decide (x=.same\/x=.less\/x=.under)||decide (x=.pick))=Ff)(G:D):xs (d<$>3) (aK 0) (eA (Rw.mk x w args).d W G m x) S=qz (.rt (.d (Tz ((yAg (aW x) m).map nD))),S):=by
 have op:cl fns (d+3) 7 [.d (Rw.mk x w args).d] S=qz (.d (Tz ((args.take (aW x)).map nD)),S):=pC (d+2) (x,w,args,) S;have lop:lT [.tuple ((args.take (aW x)).map nD)]=qz (.int ((aW x:Nat):Int)):=by
  simp only[aLD,aED,yAd,aA5 ha]
 have rp:=bAQ m (aW x) (by cases x<;>decide);refine bAX x h1 h2 h5 h6 h8 (aT ?_);erw[0,op,lop,rp]
end
def aQA(d:Nat)(wd:Wd)(w:Nat)(args:Li Nat)(kk:Nat)(ws:Li Nat)(fs:Li Fc)(m:Nat)(hk:aCD wd w ws)(hf:↑fs=aW wd)(ha:tQ wd args kk)(hm:m<2^w)(h0:m≠0)(S:aE) :
 cl fns (d+4) 17 [.d (Rw.mk wd w args).d,.d (ws*>nD),.d (fs*>Fc.d),.d (Iz m)] S=qz (.d (Tz ((bO wd w kk ws fs m).map nD)),S):=by
 have hm64:m<2^64:=xAb hm (yAm (·) hk.2.1);have r0:aU (Rw.mk wd w args).d (Iz 0)=qz (.str wd.s):=iO _;have bm:m<2^10000:=aLf hm64 (·);refine dB rfl (d+3) rfl rfl (yAf) (bK (S1:=S) (w:=.d (Sz wd.s)) (aY:=eA (Rw.mk wd w args).d (ws*>nD) (fs*>Fc.d) m wd) (by erw[20,r0]) rfl ?_);show xs (d<$>3) (aK 0) (eA (Rw.mk wd w args).d (ws*>nD) (fs*>Fc.d) m wd) S=_;clear r0;let(cC,cR,hk):=hk;have e0:bO wd w kk ws fs m=_:=if_neg h0;cases wd
 case and=>let(f,g,rfl):=aFz hf;exact aSP d w kk m ws _ _ S h0 f g
 case or=>let(f,g,rfl):=aFz hf;exact aVP d w kk m ws _ _ S h0 f g
 case add=>rw[e0];exact aKU d m _ _ S h0 .add rfl rfl _ bm
 case sub=>rw[e0];exact aKU d m _ _ S h0 .sub rfl rfl _ bm
 case mul=>let(f,g,rfl):=aFz hf;exact aTB d w kk m ws _ _ S h0 f g hm64
 case left=>
  let(a,rfl,hkk):=ha;rw[e0];exact aEl d w kk m _ S h0 .left rfl rfl rfl a _ (aTI d w kk m S)
 case right=>
  let(a,rfl,hkk):=ha;rw[e0];exact aEl d w kk m _ S h0 .right rfl rfl rfl a _ (aSe d w kk m cR () hm64 S)
 case slide=>
  let(a,rfl,hkk):=ha;rw[e0];exact aEl d w kk m _ S h0 .slide rfl rfl rfl a _ (aSv d w kk m cC cR () hm64 S)
 case wide=>
  let(v,rfl,hv1,hv2):=hk;rw[e0];exact aRs d m _ S h0 v () _
 case sign=>
  let(v,rfl,hv1,hv2):=hk;rw[e0];exact aSC d m _ S h0 v () () _
 case same=>
  let(_,v,rfl,hv1,hv2):=hk;rw[e0];exact aDH d m _ S h0 .same rfl rfl rfl rfl rfl v () _
 case less=>
  let(_,v,rfl,hv1,hv2):=hk;rw[e0];exact aDH d m _ S h0 .less rfl rfl rfl rfl rfl v () _
 case under=>
  let(_,v,rfl,hv1,hv2):=hk;rw[e0];exact aDH d m _ S h0 .under rfl rfl rfl rfl rfl v () _
 case pick=>let(f,g,h,rfl):=bBh hf;exact aSB d w kk m ws _ _ S h0 f g h
 case «in» => rw[e0];exact wH d w kk m _ S h0 .in args ha rfl rfl rfl rfl rfl _
 case num=>rw[e0];exact wH d w kk m _ S h0 .num args ha rfl rfl rfl rfl rfl _
 case not=>rw[e0];exact wH d w kk m _ S h0 .not args ha rfl rfl rfl rfl rfl _
 case cut=>rw[e0];exact wH d w kk m _ S h0 .cut args ha rfl rfl rfl rfl rfl _
 case xor=>rw[e0];exact wH d w kk m _ S h0 .xor args ha rfl rfl rfl rfl rfl _
def aRl(n:Nat)(h:n<=10):cD .Mult (.tuple [.int 0]) (.int (n:_))=qz (.tuple ((yAg n 0).map nD)):=by rw[@aDF _ n (),yGc];rfl
def aUC(d:Nat)(wd:Wd)(w:Nat)(args:Li Nat)(kk:Nat)(ws:Li Nat)(fs:Li Fc)(m:Nat)(hk:aCD wd w ws)(hf:↑fs=aW wd)(ha:tQ wd args kk)(hm:m<2^w)(S:aE) :
 cl fns (d+5) 18 [.d (Rw.mk wd w args).d,.d (ws*>nD),.d (fs*>Fc.d),.d (Iz m)] S=qz (.d (Tz ((bO wd w kk ws fs m).map nD)),S):=by
 rw[bX rfl (d+4) _ S rfl];by_cases h0:m=0
 .have d0:(m==0)=Tt:=by rw[beq_iff_eq];exact h0
  have e0:bO wd w kk ws fs m=yAg (aW wd) 0:=if_pos h0;have lop:lT [.tuple ((args.take (aW wd)).map nD)]=qz (.int ((aW wd:Nat):Int)):=by
   simp only[aLD,aED,yAd,aA5 ha]
  have op:cl fns (d+4) 7 [.d (Rw.mk wd w args).d] S=qz (.d (Tz ((args.take (aW wd)).map nD)),S):=pC (d+3) (wd,w,args,) S;rw[e0];have hq49:=aRl (aW wd) (by cases wd<;>decide);erw[11,aFf,cT,fH,d0,op,lop,hq49]
 .have d0:(m==0)=Ff:=by rw[beq_eq_false_iff_ne];exact h0
  erw[11,aFf,cT,fH,d0,aQA d wd w args kk ws fs m hk hf ha hm h0]
def aRY{l:Li Nat}{q n:Nat}(h:∀ o∈l,o<n)(hq:q<n):∀ o∈l++[q],o<n:=λ o ho=>by
 rcases List.mem_append.mp ho with ho|ho
 .exact h o ho
 .rw[yHg] at ho;subst ho;exact hq
def aEk(h:At S 0 p)(ns:Li Int)(k:Nat)(x:Int)(rs:Li Rw)(T:aE)(d m:Nat)(hm:0<m)(hm2:m<2^64)(hk:k<=100000):∃ (r:Nat) (x':Int),r<m/\cl fns (d+1) 79 [.loc 0,.d (Iz m)] (cL S 0 p ns k x rs++T)=qz (.d (Iz r),cL S 0 p ns (k+1) x' rs++T):=by
 have l:0<↑(cL S 0 p ns k x rs):=by rw[h.toAt0.len];exact h.hn
 let(r,x',hr,e):=aKH d 0 k m ns x (cL S 0 p ns k x rs++T) (by rw[xAm l];exact h.toAt0.state) hm hm2 hk;exact(r,x',hr,by rw[e,List.set_append_left _ _ l,h.toAt0.put],)
def aSz(h:At S 0 p)(ns:Li Int)(k:Nat)(x:Int)(rs:Li Rw)(T0:aE):∃ T,cL S 0 p ns k x rs++T0=qz (bV ns k x)::T:=by
 have hs:=h.toAt0.state (ns:=ns) (k:=k) (x:=x) (rs:=rs);rcases e:cL S 0 p ns k x rs with _|⟨a,T⟩
 .rw[e] at hs;cases hs
 simp_all
noncomputable abbrev eP(most w p:Nat)(a b c:Option W):bG:=[#[0],(most:),(w:),#[p],a,b,c]
def PrO(ns:Li Int)(b:Nat)(R:Li Rw->Li Nat->Nat->Int->Prop):Prop:=∃ rs aG k x,dN [] rs/\0<↑rs/\↑rs<=40/\k<=b/\(∀ o∈aG,o<↑rs)/\↑aG<=8/\R rs aG k x
def aNg(h:At S 0 p)(ns:Li Int)(k:Nat)(x:Int)(rs:Li Rw)(d most w:Nat)(hm:most<=30)(ok:dN [] rs)(l0:0<↑rs)(l1:↑rs<=40)(hk:k<=50000) :
 PrO ns (k+700) λ bA aG k' x'=>∃ T,xs (d<$>5) (bH (bH (bH aCV))) (eP most w p qj qj qj) (cL S 0 p ns k x rs)=qz (.rt (.d (bA<*(aG*>nD))),qz (bV ns k' x')::T):=by
 let(env1,S1,p1,a4,bA,k1,x1,ok1,l0',l1',hk1,rfl,rfl):=aBw (t:=.one 4) (fi:=lv (d<$>5) aGF) (fb:=xs (d<$>5) aGH) (env:=eP most w p qj qj qj)
  (λ j env S'=>∃ (a4:Oz W) (rs:Li Rw) (k':Nat) (x:Int),dN [] rs/\0<↑rs/\↑rs<=40/\k'<=k+20*j/\env=eP most w p a4 qj qj/\S'=cL S 0 p ns k' x rs)
  (sW (w:=most) rfl ()) (qj,rs,k,x,ok,l0,l1,yAc _,rfl,rfl,) (by
    rintro j dd env S' hj ⟨a4,rs,k',x,ok,l0,l1,hk',rfl,rfl⟩;have hj':j<most:=by simpa using hj
    by_cases c:↑rs<37
    .let(_,k2,x',bA,(rfl,ok',g1,g2),hk2,e):=GP.row_ok (c:=(S,p,ns,)) h k' x rs d ok l0 () ();exact(_,_,_,rfl,fK (jB (aZ (gQ rfl h.rows) aJ (aAg ())) (fK (gP (aV (aD (aC rfl) (aD (aC rfl) aO)) e)))),_,bA,k2,x',ok',(),(),(),rfl,rfl,)
    .exact(_,_,_,rfl,fK (jA (aZ (gQ rfl h.rows) aJ (zM ())) rfl),_,rs,k',x,ok,l0,l1,(),rfl,rfl,))
 have hk2:k1<=k+600:=by
  rw[yAd,yEi] at hk1;omega
 let(q2,x2,hq2,e2):=@kW _ _ _ k1 ns bA x1 h.toAt0 (d+4) ↑bA l0' () ();let(q3,x3,hq3,e3):=@kW _ _ _ (k1+1) ns bA x2 h.toAt0 (d+4) 4 (·) (·) ();let(b3,hb3,eb3):=i01 ((q3:Int)==1);let(y,hy,ey):=at2 (.int ((↑bA:_)-1)) (.int q2) hb3;obtain⟨y0,hy0,rfl⟩:∃ y0:Nat,y0<↑bA/\y=nD y0:=by
  rcases hy with rfl|rfl
  .exact(↑bA-1,Nat.sub_lt l0' yHw,by rw[nD,Int.natCast_sub l0'];rfl,)
  .exact(q2,hq2,rfl,)
 let(q4,x4,hq4,e4):=aEk h ns (k1+2) x3 bA [qz [nD y0]] (d+4) 3 (·) (·) ();let(q5,x5,hq5,e5):=aEk h ns (k1+3) x4 bA [qz [nD y0]] (d+4) 8 (·) (·) ();let(b5,hb5,eb5):=i01 ((q5:Int)==1);let(z,hz,ez):=at2 (.int q4) (.int 7) hb5;obtain⟨m,hm7,rfl⟩:∃ m:Nat,m<=7/\z=.int m:=by
  rcases hz with rfl|rfl
  .exact(_,(),rfl,)
  .exact(7,by decide,rfl,)
 let(env2,S2,p4,a4',aG,k6,x6,ol,oa,hk6,rfl,rfl):=aBw (t:=.one 4) (fi:=lv (d<$>5) aGG) (fb:=xs (d<$>5) aGE) (env:=eP most w p a4 (qz (.d (Lz [Iz ((↑bA:_)-1),Iz q2]))) (qz (.loc ↑S)))
  (λ j env S'=>∃ (a4:Oz W) (aG:Li Nat) (k:Nat) (x:Int),↑aG=j+1/\(∀ o∈aG,o<↑bA)/\k<=k1+4+j/\env=eP most w p a4 (qz (.d (Lz [Iz ((↑bA:_)-1),Iz q2]))) (qz (.loc ↑S))/\S'=cL S 0 p ns k x bA++[qz (aG.map nD)])
  (sW (w:=m) (bM (fA (fU (aD (aV (cB rfl aJ) e4) (aD aJ aO)) rfl (yAa rfl))) (cQ (aD (iA (aV (cB rfl aJ) e5) aJ rfl) aO) (cN dJ cU) eb5) rfl ez) ())
  (a4,[y0],k1+4,x5,rfl,λ o ho=>by rw[yHg] at ho;simp_all,yAc _,rfl,rfl,) (by
   rintro j dd env S' hj ⟨a4,aG,k,x,ol,oa,hk,rfl,rfl⟩;have hj':j<m:=by simpa using hj
   let(q6,x6,hq6,e6):=aEk h ns k x bA [qz (aG.map nD)] (d+4) ↑bA l0' () ();have ap:=aA4 (cL S 0 p ns (k+1) x6 bA) (aG.map nD) (.int q6) (by rw[yAd];omega)
   rw[h.toAt0.len] at ap;exact(_,_,_,rfl,fK (gP (iN (aC rfl) (aV (cB rfl (gQ rfl (h.rowsT _))) e6) ap)),_,aG++[q6],k+1,x6,by rw[xAn,ol];rfl,aRY oa hq6,(),rfl,by rw[yAy];rfl,))
 rw[yAd,yEi] at ol hk6;let(T,hT):=aSz h ns k6 x6 bA [qz (aG.map nD)];have g2:=qV (cL S 0 p ns k6 x6 bA) (aG.map nD);rw[h.toAt0.len] at g2;refine(bA,aG,k6,x6,ok1,l0',l1',(),oa,(),T,?_,);rw[<- hT];exact cK (nL p1) (bK (fA (fU (aD (bP (gQ rfl h.rows) aJ (dR _ _)) (aD (aV (cB rfl (gQ rfl h.rows)) e2) aO)) rfl (yAa rfl))) rfl (bK (aLv (fU (aD (bM (aC rfl) (cQ (aD (iA (aV (cB rfl aJ) e3) aJ rfl) aO) (cN dJ cU) eb3) rfl ey) aO) rfl (yAa rfl)) h.toAt0.len) rfl (cK (nL p4) (aT (dO (aD (cQ (aD (aC rfl) aO) (cN (fD (h.rowsT _)) cU) rfl) (aD (cQ (aD (aC rfl) aO) (cN (fD g2) cU) rfl) aO)) rfl (yAa rfl))))))
def aWp(d most:Nat)(ns:Li Int)(hm:most<=30)(kk:Nat)(xx:Int)(hkk:kk<=40000):∃ (rs:Li Rw) (aG:Li Nat) (k:Nat) (x:Int),dN [] rs/\0<↑rs/\↑rs<=40/\k<=kk+800/\(∀ o∈aG,o<↑rs)/\↑aG<=8/\cl fns (d+6) 89 [.loc 0,.d (Iz most)] [qz (bV ns kk xx)]=qz (.d (rs<*(aG*>nD)),[qz (bV ns k x)]):=by
 let(w,x0,cC,cR,e0):=@aJs _ _ _ kk ns [] xx at1 (d+3) ();have A2:At [qj,qj] 0 1:=((by decide,by decide,),by decide,);let(q,x1,hq,e1):=@kW _ _ _ (kk+3) ns [(.in,w,[],)] x0 A2.toAt0 (d+4) 8 (·) (·) ()
 suffices H:PrO ns (kk+800) λ rs aG k x=>∃ T,xs (d<$>5) (bH (bH aCV)) (eP most w 1 qj qj qj) (cL [qj,qj] 0 1 ns (kk+3) x0 [⟨.in,w,[]⟩])=qz (.rt (.d (rs<*(aG*>nD))),qz (bV ns k x)::T) by
  let(rs,aG,k,x,h1,h2,h3,h4,h6,h7,T,h5):=H;exact(rs,aG,k,x,h1,h2,h3,h4,h6,h7,cH rfl rfl rfl (bK (aV (aD (aC rfl) aO) e0) rfl (bK (nZ (fU (aD (dO (aD bZ (aD (aC rfl) aO)) rfl (yAa rfl)) aO) rfl (yAa rfl))) rfl h5)) rfl,)
 by_cases c:q=1
 .subst c;let(n,k2,x2,hn,hk2,e2):=@aEZ _ _ _ (kk+3+1) ns [(.in,w,[],)] x1 A2.toAt0 (d+2) w cC cR ();let(rs,aG,k,x,h1,h2,h3,h4,h6,h7,T,h5):=@aNg [qj,qz ([((.in,w,[],):Rw)].map Rw.d),qj] 2 ((yAa rfl,by decide,),yAa rfl,) ns k2 x2 [(.num,w,[n],)] d most w hm ((cC,cR,hn,),True.intro,) yHw (yAa rfl) ();exact(rs,aG,k,x,h1,h2,h3,(),h6,h7,T,cK (jB (aZ (aV (cB rfl aJ) e1) aJ rfl) (hV (aLv (fU (aD (dO (aD bZ (aD (aC rfl) (aD (aV (cB rfl (aC rfl)) e2) aO))) rfl (yAa rfl)) aO) rfl (yAa rfl)) rfl))) h5,)
 .let(rs,aG,k,x,h1,h2,h3,h4,h6,h7,T,h5):=aNg A2 ns (kk+3+1) x1 [(.in,w,[],)] d most w hm ((cC,cR,True.intro,),True.intro,) yHw (yAa rfl) ()
  exact⟨rs,aG,k,x,h1,h2,h3,(),h6,h7,T,cK (jA (aZ (aV (cB rfl aJ) e1) aJ (by
   rw[cT,show((q:Int)==1)=Ff by rw[beq_eq_false_iff_ne];omega])) rfl) h5⟩
def aPW(d:Nat)(rs:D)(aG N:Li Nat)(ho:∀ o∈aG,o<↑N)(hl:↑aG<=8)(S:aE):cl fns (d+1) 77 [.d (Tz [rs,(aG*>nD)]),.d (N*>nD)] S=qz (.d (Tz ((aG.map (g0 N)).map nD)),S):=by
 have i1:aU (.tuple [rs,(aG*>nD)]) (.int 1)=qz (aG*>nD):=rfl;have hc:lv (aF fns d) aHh [qz (.d (Tz [rs,(aG*>nD)])),qz (.d (N*>nD)),qj] S=qz ((aG.map (g0 N)).map nD,S):=by
  rw[yBi];refine mM (fi:=lv (aF fns d) (.it (.ix (.var 0) (.int 1)))) (fe:=ev (aF fns d) (.ix (.var 1) (.var 2))) nD (nD ∘ g0 N) aG ?_ (by rw[zx];omega) λ o h=>?_
  .erw[0,i1,gY]
  .refine(_,rfl,λ S'=>?_,);have e:aU (N*>nD) (nD o)=qz (nD (g0 N o)):=iK (aE8 (ho o h));erw[0,clr,yBw,yFi,e]
 rw[bX rfl d _ S rfl];erw[11,aIF,hc,pO,aBt]
def bT(r:Rw):Li Nat:=r.args.take (aW r.wd)
def aCa(r:Rw):Nat:=r.args.getD 1 0
def nA(r:Rw)(F:Li Ft):Li Fc:=(jL r F).map λ f=>(f.N,f.O,f.A,)
def oT(rs:Li Rw)(F:Li Ft)(r:Rw)(m:Nat):Li Nat:=bO r.wd r.w (aCa r) (bI r (~~~rs)) (nA r F) m
def hG(rs:Li Rw)(F:Li Ft)(r:Rw)(m:Nat):Li (Nat×Nat):=(bT r).zip (oT rs F r m)
def pD(p:Nat×Nat):D:=.tuple [nD p.1,nD p.2]
def uA(h:RwOk r ws):aCD r.wd r.w ws/\tQ r.wd r.args (aCa r):=by
 cases h with
 |inp h1 h2=>exact((h1,h2,rfl,),rfl,)|num h1 h2 hn=>exact((h1,h2,rfl,),_,rfl,)|nt h1 h2=>exact((h1,h2,rfl,),_,rfl,)
 |sh h1 h2 aN hk=>erw[50,aN]<;>exact((h1,h2,rfl,),_,rfl,hk,)
 |cut h1 hv h2=>exact((h1,xAh hv h2,_,rfl,hv,h2,),_,rfl,)|wide h1 hv h2=>exact((xAh h1 hv,h2,_,rfl,hv,h1,),_,rfl,)|sign h1 hv h2=>exact((xAh h1 hv,h2,_,rfl,hv,h1,),_,rfl,)
 |bw h1 h2 aN=>erw[50,aN]<;>exact((h1,h2,rfl,),_,_,rfl,)
 |sm h1 h2=>
   rename_i s w a b;cases s<;>exact((h1,h2,rfl,),_,_,rfl,)
 |cmp h1 h2 aN=>erw[50,aN]<;>exact((yAc 1,(show 1<=64 by decide),rfl,_,rfl,h1,h2,),_,_,rfl,)
 |pick h1 h2=>exact((h1,h2,rfl,),_,_,_,rfl,)
def aKY:∀ as bs:Li Nat,gU (as.map nD) (bs.map nD)=(as.zip bs).map pD
 |[],_=>by cases ‹Li Nat› <;> rfl|_::_,[]=>rfl
 |a::as,b::bs=>by
   show Tz [nD a,nD b]::gU (as.map nD) (bs.map nD)=pD (a,b)::(as.zip bs).map pD;rw[aKY as bs];rfl
def aYR(r:Rw)(F:Li Ft):(nA r F).map Fc.d=(jL r F).map Ft.d:=by unfold nA;rw[yBi];rfl
def xH(d a:Nat)(hr:rs[a]?=qz r)(o:D)(S:aE):cl fns (d+1) 10 [.d (rs<*o),.d (Iz a)] S=qz (.d (Iz r.w),S):=by have i0:aU (rs<*o) (.int 0)=qz (rs*>Rw.d):=rfl;have e1:aU (rs*>Rw.d) (.int a)=qz r.d:=iK (by rw[yAe,hr];rfl);rw[bX rfl d _ S rfl];erw[11,aIe,i0,e1,jR]
def jG{rs:Li Rw}{a:Nat}{r:Rw}(hr:rs[a]?=qz r):g0 (~~~rs) a=r.w:=by show(~~~rs).getD a 0=_;rw[xAg,yAe,hr];rfl
def aSL{fa fb:FE}(h1:fa env S=qz (.d (as*>nD),S1))(h2:fb env S1=qz (.d (bs*>nD),S2))(hl:↑as<=1000):xX fa fb env S=qz ((as.zip bs).map pD,S2):=by
 have e:sF fa fb env S=qz ((as.zip bs).map pD,S2):=by
  unfold sF;rw[h1,oB,h2,oB,<- aKY];rfl
 unfold xX aNu;rw[e,oB,if_pos];show↑((as.zip bs).map pD)<=1000000;rw[yAd,List.length_zip];omega
def aJB(r:Rw):↑(bT r)<=3:=by have:=aLx r.wd;unfold bT;rw[yBj];omega
def aUJ{rs:Li Rw}{F:Li Ft}{r:Rw}{k:Nat}(p:Prg rs)(hr:rs[k]?=qz r):↑(nA r F)=aW r.wd:=by have h:=(uA (p.fit k r hr).1).2;unfold nA jL;rw[yAd,yAd];exact aA5 h
def aPe{rs:Li Rw}{F:Li Ft}{r:Rw}{k m:Nat}(d:Nat)(p:Prg rs)(hr:rs[k]?=qz r)(hF:↑F=↑rs)(hm:m<2^r.w)(o:D)(S:aE):cl fns (d+6) 19 [.d (rs<*o),.d (F*>Ft.d),.d (Iz k),.d (Iz m)] S=qz (.d (Lz ((hG rs F r m).map pD)),S):=by
 have e1:aU (rs*>Rw.d) (.int k)=qz r.d:=iK (by rw[yAe,hr];rfl);let(f1,f2'):=p.fit k r hr;have hk:k<↑rs:=(gIm hr).1;have ol:=aJB r;have hc:lv (d<$>5) aG0 [qz (.d (rs<*o)),qz (.d (F*>Ft.d)),(k:),(m:),qz (.d r.d),qj,qj,qj] S=qz ((bI r (~~~rs)).map nD,S):=by
  unfold bI;rw[yBi];refine mM (fi:=lv (d<$>5) (.it (.call 7 (.cons (.var 4) .nil)))) (fe:=ev (d<$>5) (.call 10 (.cons (.var 0) (.cons (.var 7) .nil)))) nD (nD ∘ g0 (~~~rs)) (r.args.take (aW r.wd)) (aZd (aV (aD (aC rfl) aO) (pC (d+4) r S))) (by rw[zx];have:↑(r.args.take (aW r.wd))<=3:=ol;omega) λ a ha=>(_,rfl,λ S'=>?_,)
  have haj:=f2' a ha;have hq:rs[a]?=qz rs[a]:=yAb ();show _=qz (W.d (nD (g0 (~~~rs) a)),S');rw[jG hq];exact aV (aD (aC rfl) (aD (aC rfl) aO)) (xH (d+4) a hq o S')
 have o2:=wA (d+3) r (.d (F*>Ft.d)) (F*>Ft.d) (λ a=>(f0 F a).d) S (λ _=>rfl) λ a ha=>iK (by rw[yAe,nQ (by have:=f2' a ha;omega)];rfl)
 have o2':cl fns (d+5) 9 [.d r.d,.d (F*>Ft.d)] S=qz (.d (Tz ((nA r F).map Fc.d)),S):=by
  rw[o2,aYR,jL,yBi];rfl
 let(w1,w2):=uA f1;have nk:=aUC d r.wd r.w r.args (aCa r) (bI r (~~~rs)) (nA r F) m w1 (aUJ p hr) w2 hm S;exact cH rfl rfl rfl (bK (bM (bM (aC rfl) aJ rfl rfl) (aC rfl) rfl e1) rfl (bK (cQ (aD (fA hc) aO) (cN dJ cU) rfl) rfl (bK (aV (aD (aC rfl) (aD (aC rfl) (aD (aV (aD (aC rfl) (aD (aC rfl) aO)) o2') (aD (aC rfl) aO)))) nk) rfl (aT (fA (aSL (aV (aD (aC rfl) aO) (pC (d+4) r S)) (aJk rfl) ())))))) yAf
def eO(M:Li Nat)(q:Nat×Nat):Li Nat:=M.set q.1 (M.getD q.1 0|||q.2)
def iQ(rs:Li Rw)(F:Li Ft)(M:Li Nat)(k:Nat):Li Nat:=match rs[k]? with|some r=>(hG rs F r (M.getD k 0)).foldl eO M|none=>M
def lV(rs:Li Rw)(F:Li Ft):Nat->Li Nat->Li Nat
 |0,M=>M|k+1,M=>lV rs F k (iQ rs F M k)
def fX(rs:Li Rw)(M:Li Nat)(o:Nat):Li Nat:=M.set o (2^g0 (~~~rs) o-1)
def aCx(rs:Li Rw)(aG:Li Nat):Li Nat:=aG.foldl (fX rs) (yAg ↑rs 0)
def dZ(rs:Li Rw)(F:Li Ft)(aG:Li Nat):Li Nat:=lV rs F ↑rs (aCx rs aG)
structure Bd(rs:List Rw)(M:List Nat):Prop where
 l:↑M=↑rs
 lt:∀ (i:Nat) (r:Rw),rs[i]?=qz r->M.getD i 0<2^r.w
def aHL{α β:Type}{f:β->α->β}{l:List α}{q:α}(M:β)(h:l[j]?=qz q):(l.take (j+1)).foldl f M=f ((l.take j).foldl f M) q:=by rw[List.take_add_one,h];simp
def vO{M:Li Nat}(h:a≠i):(M.set a v).getD i 0=M.getD i 0:=by rw[xAg,xAg,yAz h]
def vP{M:Li Nat}(h:a<↑M):(M.set a v).getD a 0=v:=by rw[xAg,yAw h];rfl
def aD8{M:Li Nat}(h:i<↑M):M[i]?=qz (M.getD i 0):=by rw[xAg,yAb h];rfl
def aBs(p:Prg rs)(hr:rs[k]?=qz r)(hm:m<2^r.w)(q:Nat×Nat)(hq:q∈hG rs F r m):q.1<k/\∀ r',rs[q.1]?=qz r'->q.2<2^r'.w:=by
 let(f1,f2):=p.fit k r hr;let(w1,w2):=uA f1;let(c,hc):=yFe hq;let(a,b):=q;unfold hG at hc;rw[List.getElem?_zip_eq_some] at hc;let(h1,h2):=hc;refine(f2 a (xAk h1),λ r' hr'=>?_,);have hv:(bI r (~~~rs))[c]?=qz r'.w:=by
  unfold bI;have h1':(r.args.take (aW r.wd))[c]?=qz a:=h1;rw[yAe,h1'];show qz (g0 (~~~rs) a)=_;rw[jG hr']
 have:=aTJ r.wd r.w (aCa r) (bI r (~~~rs)) (nA r F) m c r'.w w1 hm hv;have e:(oT rs F r m).getD c 0=b:=by
  rw[xAg,h2];rfl
 rw[<- e];exact this
def aMw(h:Bd rs M){q:Nat×Nat}(h1:q.1<↑rs)(h2:∀ r',rs[q.1]?=qz r'->q.2<2^r'.w):Bd rs (eO M q):=by
 refine(by unfold eO;rw[yBb];exact h.l,λ i r hr=>?_,);unfold eO;by_cases c:q.1=i
 .rw[c] at h1 h2 ⊢;rw[vP (by rw[h.l];exact h1)];exact yBe (h.lt i r hr) (h2 r hr)
 .rw[vO c];exact h.lt i r hr
section
variable {rs:List Rw}{F:List Ft}{r:Rw}{k m:Nat}
def aLI(p:Prg rs)(hr:rs[k]?=qz r)(hm:m<2^r.w):∀ (l:Li (Nat×Nat)) (M:Li Nat),(∀ q∈l,q∈hG rs F r m)->Bd rs M->Bd rs (l.foldl eO M)
 |[],_,_,h=>h
 |q::l,M,hl,h=>by
   have hk:k<↑rs:=(gIm hr).1;let(a,b):=aBs p hr hm q (hl q xAc);exact aLI p hr hm l _ (λ x hx=>hl x (xAf _ hx)) (aMw h () b)
end
def aDS:Bd rs (yAg ↑rs 0):=by refine(yCp,λ i r hr=>?_,);have hi:i<↑rs:=(gIm hr).1;rw[xAg,yEm,if_pos hi];exact xAe _
def aQG(hr:rs[o]?=qz r):fX rs M o=M.set o (2^r.w-1):=by unfold fX;rw[jG hr]
def aJw(h:Bd rs M)(ho:o<↑rs):Bd rs (fX rs M o):=by
 refine(by unfold fX;rw[yBb];exact h.l,λ i r hr=>?_,);unfold fX;by_cases c:o=i
 .subst c;rw[vP (by rw[h.l];exact ho),jG hr];have:=xAe r.w;omega
 .rw[vO c];exact h.lt i r hr
section
variable {rs:List Rw}
def aEb:∀ (l:Li Nat) (M:Li Nat),(∀ o∈l,o<↑rs)->Bd rs M->Bd rs (l.foldl (fX rs) M)
 |[],_,_,h=>h|o::l,M,hl,h=>aEb l _ (λ x hx=>hl x (xAf _ hx)) (aJw h (hl o xAc))
end
def aKz(S:aE)(M:Li Nat)(a v:Nat)(ha:a<↑M):nY (S++[qz (M.map nD)]) (.loc ↑S) (.d (Iz a)) (.d (Iz v))=qz (S++[qz ((M.set a v).map nD)]):=by unfold nY;simp only[qV];unfold mC;rw[yAd,if_pos (),if_pos (),oB,yAu,List.set_append_right _ _ (yAc _),yBf,List.map_set];rfl
def aLN{M:Li Nat}(h:i<↑M):aU (.list (M.map nD)) (.int i)=qz (.int ((M.getD i 0:Nat):Int)):=nO (by rw[yAe,aD8 h];rfl)
def aYK{fa fb:FE}{env:bG}{S:aE}{n:Nat}(h1:fa env S=qz (.d (Lz [Iz 0]),S))(h2:fb env S=qz (.d (Iz n),S))(hn:n<=1000):zP fa fb env S=qz ((yAg n 0).map nD,S):=by
 have hz:↑(([.int 0]:Li D))*((n:Int)).toNat<=qk:=by rw[yAu,zx];simp;omega
 have hd:dr S (.d (Lz [Iz 0]))=qz (.list [.int 0]):=rfl;unfold zP;rw[h1,oB,h2,oB];show((dr S (.d (Lz [Iz 0]))).bind _)=_;rw[hd,oB];show(if (n:Int)<2^63 /\ -(2^63)<=(n:Int)/\↑(([.int 0]:Li D))*((n:Int)).toNat<=qk then qz (yZ ((n:Int)).toNat [Iz 0],S) else qj)=_;rw[if_pos ((),(),hz,),yAu,aSA,yGc];rfl
def bBC{env:bG}{S:aE}{e:E}{n:Nat}(h:ev C e env S=qz (.d (Iz n),S))(hn:n<=1000):lv C (.rng3 (.bin .Sub e (.int 1)) (.un .USub (.int 1)) (.un .USub (.int 1))) env S=qz (mR ((n:Int)-1) n,S):=by have h2:ev C (.un .USub (.int 1)) env S=qz (.d (Iz (-1)),S):=rfl;show xY (ev C (.bin .Sub e (.int 1))) (ev C (.un .USub (.int 1))) (ev C (.un .USub (.int 1))) env S=_;unfold xY;rw[bP h aJ (dR (n:Int) 1),oB];dsimp only;rw[h2,oB];dsimp only;rw[h2,oB];dsimp only;rw[if_pos (((),(),by decide,by decide,),rfl,),show((n:Int)-1 - -1).toNat=n by omega]
noncomputable abbrev eK(P F:D)(n:Nat)(c3 c4 c5 c6 c7 c8:Option W):bG:=[qz (.d P),qz (.d F),#[n],c3,c4,c5,c6,c7,c8]
def aRf{F:Li Ft}(d:Nat)(p:Prg rs)(hr:rs[k]?=qz r)(hF:↑F=↑rs)(o:D)(S:aE)(h:Bd rs M)(c3 c5 c6 c7 c8:Oz W):∃ c7' c8':Oz W,Bd rs (iQ rs F M k)/\xs (d<$>6) (.loop (.many [7,8]) aDj aDd) (eK (rs<*o) (F*>Ft.d) ↑S c3 ((k:)) c5 c6 c7 c8) (S++[qz (M.map nD)])=qz (.nx (eK (rs<*o) (F*>Ft.d) ↑S c3 ((k:)) c5 c6 c7' c8'),S++[qz ((iQ rs F M k).map nD)]):=by
 have hk:k<↑rs:=(gIm hr).1;have hm:=h.lt k r hr;have rn:=aPe d p hr hF hm o (S++[qz (M.map nD)]);have eR:iQ rs F M k=(hG rs F r (M.getD k 0)).foldl eO M:=by unfold iQ;rw[hr]
 let(aY,S',p1,c7',c8',hb,rfl,rfl):=pL (t:=.many [7,8]) (fi:=lv (d<$>6) aDj) (fb:=xs (d<$>6) aDd) (env:=eK (rs<*o) (F*>Ft.d) ↑S c3 ((k:)) c5 c6 c7 c8) (ds:=(hG rs F r (M.getD k 0)).map pD)
  (λ j env S'=>∃ c7 c8:Oz W,Bd rs (((hG rs F r (M.getD k 0)).take j).foldl eO M)/\env=eK (rs<*o) (F*>Ft.d) ↑S c3 ((k:)) c5 c6 c7 c8/\S'=S++[qz ((((hG rs F r (M.getD k 0)).take j).foldl eO M).map nD)])
  (aZv (aV (aD (aC rfl) (aD (aC rfl) (aD (aC rfl) (aD (bM (aC rfl) (aC rfl) (fD (qV _ _)) (aLN (by rw[h.l];exact hk))) aO)))) rn)) (c7,c8,h,rfl,rfl,) (by
    rintro j dd env S' hd ⟨c7,c8,hb,rfl,rfl⟩;rw[yAe] at hd;let(q,hq,rfl):=Option.map_eq_some_iff.mp hd;let(q1,q2):=aBs p hr hm q (xAk hq);rw[aHL (f:=eO) M hq];generalize ((hG rs F r (M.getD k 0)).take j).foldl eO M=N at *;have ql:q.1<↑N:=by rw[hb.l];omega
    exact(_,_,_,rfl,fK (tZ (bP (bM (aC rfl) (aC rfl) (fD (qV _ _)) (aLN ql)) (aC rfl) (gI _ _)) (aC rfl) (aC rfl) (aKz S _ q.1 _ ql)),_,_,aMw hb () q2,rfl,rfl,))
 rw[yAd,yAf,<- eR] at hb p1;exact(c7',c8',hb,p1,)
def aSr{F:Li Ft}(d:Nat)(p:Prg rs)(hF:↑F=↑rs)(aG:Li Nat)(ho:∀ o∈aG,o<↑rs)(S:aE):Bd rs (dZ rs F aG)/\cl fns (d+7) 20 [.d (rs<*(aG*>nD)),.d (F*>Ft.d)] S=qz (.d (Tz ((dZ rs F aG).map nD)),S):=by
 have pl:=p.l;have lR:B.len.g [(rs*>Rw.d)]=qz (.int ↑rs):=by
  show qz (Iz ((↑(rs.map Rw.d):Nat):Int))=_;rw[yAd]
 let(env1,S1,p1,c3,hb0,rfl,rfl):=pL (t:=.one 3) (fi:=lv (d<$>6) aIk) (fb:=xs (d<$>6) aIv) (env:=eK (rs<*(aG*>nD)) (F*>Ft.d) ↑S qj qj (qz (.d (rs*>Rw.d))) (qz (.d (aG*>nD))) qj qj) (S:=S++[qz ((yAg ↑rs 0).map nD)]) (ds:=aG.map nD)
  (λ j env S'=>∃ c3:Oz W,Bd rs ((aG.take j).foldl (fX rs) (yAg ↑rs 0))/\env=eK (rs<*(aG*>nD)) (F*>Ft.d) ↑S c3 qj (qz (.d (rs*>Rw.d))) (qz (.d (aG*>nD))) qj qj/\S'=S++[qz (((aG.take j).foldl (fX rs) (yAg ↑rs 0)).map nD)])
  rfl (qj,aDS,rfl,rfl,) (by
   rintro j dd env S' hd ⟨c3,hb,rfl,rfl⟩;rw[yAe] at hd;let(q,hq,rfl):=Option.map_eq_some_iff.mp hd;have hql:=ho q (xAk hq);have hr:rs[q]?=qz rs[q]:=yAb hql;rw[aHL (f:=fX rs) (yAg ↑rs 0) hq];generalize (aG.take j).foldl (fX rs) (yAg ↑rs 0)=N at *;exact(_,_,_,rfl,fK (tZ (aV (aD (aV (aD (aC rfl) (aD (aC rfl) aO)) (xH (d+5) q hr _ _)) aO) (dI (d+5) _ (by have:=(p.ws q _ hr).2;omega) _)) (aC rfl) (aC rfl) (aKz S _ q _ (by rw[hb.l];exact hql))),_,aJw hb hql,rfl,by rw[aQG hr],))
 rw[yAd,yAf] at hb0 p1;let(env2,S2,p2,c4,c7,c8,M,hb,hM,rfl,rfl):=pL (t:=.one 4) (fi:=lv (d<$>6) aIs) (fb:=xs (d<$>6) aIr) (env:=eK (rs<*(aG*>nD)) (F*>Ft.d) ↑S c3 qj (qz (.d (rs*>Rw.d))) (qz (.d (aG*>nD))) qj qj) (S:=S++[qz ((aCx rs aG).map nD)]) (S1:=S++[qz ((aCx rs aG).map nD)]) (ds:=mR ((↑rs:_)-1) ↑rs)
  (λ j env S'=>∃ (c4 c7 c8:Oz W) (M:Li Nat),Bd rs M/\lV rs F (↑rs-j) M=dZ rs F aG/\env=eK (rs<*(aG*>nD)) (F*>Ft.d) ↑S c3 c4 (qz (.d (rs*>Rw.d))) (qz (.d (aG*>nD))) c7 c8/\S'=S++[qz (M.map nD)])
  (bBC (cQ (aD (aC rfl) aO) (cN dJ cU) lR) ())
  (qj,qj,qj,aCx rs aG,hb0,rfl,rfl,rfl,) (by
   rintro j dd env S' hd ⟨c4,c7,c8,M,hb,hM,rfl,rfl⟩;have hj:j<↑rs:=by
    have:=(gIm hd).1;rw[sS] at this;exact this
   rw[aC6 _ _ j hj,cs1 hj] at hd;cases hd;let(c7',c8',hb',e):=aRf d p (yAb (show ↑rs-1-j<↑rs by omega)) hF (aG*>nD) S hb c3 (qz (.d (rs*>Rw.d))) (qz (.d (aG*>nD))) c7 c8;refine(_,_,_,rfl,fK e,_,_,_,_,hb',?_,rfl,rfl,);rw[<- hM,show ↑rs-j=(↑rs-1-j)+1 by omega,show ↑rs-(j+1)=↑rs-1-j by omega]
   rfl)
 rw[sS,yBf] at hM;have hM:M=dZ rs F aG:=hM;rw[hM] at hb p2;exact(hb,cH rfl rfl rfl (cK (rF (aC rfl) rfl) (bK (nZ (aYK rfl (cQ (aD (aC rfl) aO) (cN dJ cU) lR) ())) rfl (cK (nL p1) (cK (nL p2) (aT (cQ (aD (aC rfl) aO) (cN (fD (qV _ _)) cU) rfl)))))) yHp,)
def aRv{n j:Nat}{dd:D}(h:((yBh n).map λ k=>Iz (k:_))[j]?=qz dd):j<n/\dd=.int j:=by
 have hj:j<n:=by
  have:=(gIm h).1;simpa using this
 rw[yAe,List.getElem?_range hj] at h;cases h;exact(hj,rfl,)
def Sb(a b:Nat):Prop:=∀ i,a[i]! =Tt->b[i]! =Tt
def Sb.refl(a:Nat):Sb a a:=λ _ h=>h
def aIK:∀ (l:Li (Nat×Nat)) (M:Li Nat) (i:Nat),(∀ q∈l,q.1≠i)->(l.foldl eO M).getD i 0=M.getD i 0
 |[],_,_,_=>rfl
 |q::l,M,i,h=>by
   show(l.foldl eO (eO M q)).getD i 0=_;rw[aIK l (eO M q) i λ x hx=>h x (xAf _ hx)];unfold eO;exact vO (h q xAc)
def aDN(hr:rs[k]?=qz r):iQ rs F M k=(hG rs F r (M.getD k 0)).foldl eO M:=by unfold iQ;rw[hr]
def aD6(p:Prg rs)(hk:k<↑rs)(h:Bd rs M):Bd rs (iQ rs F M k):=by have hr:rs[k]?=qz rs[k]:=yAb hk;rw[aDN hr];exact aLI p hr (h.lt k _ hr) _ M (λ q hq=>hq) h
def aRS(p:Prg rs)(h:Bd rs M)(hi:k<=i)(hk:k<↑rs):(iQ rs F M k).getD i 0=M.getD i 0:=by
 have hr:rs[k]?=qz rs[k]:=yAb hk;rw[aDN hr];refine aIK _ M i λ q hq=>?_
 have:=(aBs p hr (h.lt k _ hr) q hq).1;omega
section
variable {rs:List Rw}{F:List Ft}
def aJe(p:Prg rs):∀ (k:Nat) (M:Li Nat) (i:Nat),Bd rs M->k<=↑rs->k<=i+1->(lV rs F k M).getD i 0=M.getD i 0
 |0,_,_,_,_,_=>rfl
 |k+1,M,i,h,hk,hi=>by
   show(lV rs F k (iQ rs F M k)).getD i 0=_;rw[aJe p k _ i (aD6 p () h) () (),aRS p h () ()]
def aJ7(p:Prg rs):∀ (k:Nat) (M:Li Nat),Bd rs M->k<=↑rs->Bd rs (lV rs F k M)
 |0,_,h,_=>h|k+1,M,h,hk=>aJ7 p k _ (aD6 p () h) ()
end
def aWo(p:Prg rs)(ho:∀ o∈aG,o<↑rs):Bd rs (dZ rs F aG):=aJ7 p _ _ (aEb aG _ ho aDS) (yAc _)
def aOe(n b:Nat):((((n/2^b)&&&1:Nat):Int)==1)=n[b]!:=by
 rw[nF,Nat.and_one_is_mod,yGd]
 grind
def xQ{a b:Nat}(h:∀ i,i<L->a[i]! =b[i]!):∃ q:Int,(a:_)=(b:Nat)+(2^L:_)*q:=by
 have e:a%2^L=b%2^L:=by
  apply xAl;intro i;rw[yAl,yAl];by_cases c:i<L
  .rw[h i c]
  .rw[dqF c,yAx,yAx]
 have h1:=yEy a (2^L);have h2:=yEy b (2^L);refine((a/2^L:_)-(b/2^L:_),?_,);rw[Int.mul_sub,<- yCf,<- yCf];generalize 2^L*(a/2^L)=x at *;generalize 2^L*(b/2^L)=y at *;omega
def aBy(ha:a<2^v)(hb:b<2^v)(h:∀ i,i<v->a[i]! =b[i]!):a=b:=by
 apply xAl;intro i;by_cases c:i<v
 .exact h i c
 .rw[cX ha (),cX hb ()]
def aM8(x:Int)(ht:t<w):(cJ x w)[t]! =(cJ x (t+1))[t]!:=by rw[<- aEh x (show t+1<=w by omega),yAl,dqT (show t<t+1 by omega),yAp]
def aD4{x y q:Int}(ht:t<w)(hh:t<h)(e:x=y+(2^h:_)*q):(cJ x w)[t]! =(cJ y w)[t]!:=by
 rw[aM8 x ht,aM8 y ht];have e2:x=y+(2^(t+1):_)*(((2^(h-(t+1)):Nat):Int)*q):=by
  rw[e,<- Int.mul_assoc,<- yCf,<- yEn,yEo (show t+1<=h by omega)]
 rw[e2,aWI]
def aI4{a:Nat}(h:∀ i,i<u->a[i]! =Ff):∃ y:Int,(a:_)=(2^u:_)*y:=by
 let(q,e):=@xQ u a 0 λ i hi=>by rw[h i hi,yBd]
 exact(q,by rw[e];omega,)
def uQ(fs:Li Fc)(ns:Li Nat):Prop:=∀ c i,((fs.getD c default).N[i]! =Tt->(g0 ns c)[i]! =Ff)/\((fs.getD c default).O[i]! =Tt->(g0 ns c)[i]! =Tt)
def Ag(want os ns:Li Nat):Prop:=∀ c i,(want.getD c 0)[i]! =Tt->(g0 os c)[i]! =(g0 ns c)[i]!
def an6:∀ n p a b c e:Bool,((!(p && !n))=Tt->c=a)->((!n)=Tt->e=b)->(n=Tt->a=Ff)->(p=Tt->b=Ff)->(c&&e)=(a&&b):=by decide
def or6:∀ n p a b c e:Bool,((!(p && !n))=Tt->c=a)->((!n)=Tt->e=b)->(n=Tt->a=Tt)->(p=Tt->b=Tt)->(c||e)=(a||b):=by decide
section
variable {w kk m t:Nat}{fs:List Fc}(hm:m<2 ^ w)(ht:m[t]! =Tt)
include hm ht
theorem rR:t<w:=by
 by_cases c:t<w
 .exact c
 .rw[cX hm ()] at ht;cases ht
theorem iT:m≠0:=λ h=>by rw[h,yBd] at ht;cases ht
theorem aVU(ha:a<2^w)(hb:b<2^w)(ag:Ag (bO .not w kk [w] fs m) [b] [a]):(2^w-1-b)[t]! =(2^w-1-a)[t]!:=by
 have h0:=iT hm ht;have e:(bO .not w kk [w] fs m).getD 0 0=m:=by unfold bO;rw[if_neg h0];rfl
 have q:b[t]! =a[t]!:=ag 0 t (by rw[e];exact ht);have tl:=rR hm ht;have c1:=mL hb t;have c2:=mL ha t;unfold oY at c1 c2;rw[c1,c2,q]
theorem aUz(ag:Ag (bO .left w kk [w] fs m) [b] [a]):(b*2^kk%2^w)[t]! =(a*2^kk%2^w)[t]!:=by
 have h0:=iT hm ht;have e:(bO .left w kk [w] fs m).getD 0 0=m/2^kk:=by unfold bO;rw[if_neg h0];rfl
 rw[yAl,yAl,aAF,aAF];by_cases c:kk<=t
 .have q:b[(t-kk)]! =a[(t-kk)]!:=ag 0 (t-kk) (by rw[e,fS,show kk+(t-kk)=t by omega];exact ht);rw[q]
 .rw[dqF c,yAx,yAx]
theorem aSs(ha:a<2^w)(hb:b<2^w)(ag:Ag (bO .right w kk [w] fs m) [b] [a]):(b/2^kk)[t]! =(a/2^kk)[t]!:=by
 have h0:=iT hm ht;have e:(bO .right w kk [w] fs m).getD 0 0=(m*2^kk)&&&(2^w-1):=by unfold bO;rw[if_neg h0];rfl
 rw[fS,fS];by_cases c:kk+t<w
 .exact ag 0 (kk+t) (by rw[e,yAi,dP,aAF,dqT c,dqT (show kk<=kk+t by omega),show kk+t-kk=t by omega,ht];rfl)
 .rw[cX ha (),cX hb ()]
theorem aKb{f a b:Nat}(hv:1<=v)(hj:f[j]! =Tt)(ag:∀ i,(jQ f v)[i]! =Tt->b[i]! =a[i]!):(if j<v then b[j]! else b[(v-1)]!)=(if j<v then a[j]! else a[(v-1)]!):=by
 by_cases c:j<v
 .rw[if_pos c,if_pos c];exact ag j ((aDx hv).mpr (.inl (c,hj,)))
 .rw[if_neg c,if_neg c];exact ag (v-1) ((aDx hv).mpr (.inr (rfl,j,(),hj,)))
theorem aR6(hw:1<=w)(ha:a<2^w)(hb:b<2^w)(ag:Ag (bO .slide w kk [w] fs m) [b] [a]):(cG b w (w+kk)/2^kk)[t]! =(cG a w (w+kk)/2^kk)[t]!:=by
 have h0:=iT hm ht;have tl:=rR hm ht;have e:(bO .slide w kk [w] fs m).getD 0 0=jQ (m*2^kk) w:=by unfold bO;rw[if_neg h0];rfl
 have hj:(m*2^kk)[(kk+t)]! =Tt:=by rw[aAF,dqT (show kk<=kk+t by omega),show kk+t-kk=t by omega,ht];rfl
 have q:=aKb hm ht (v:=w) (a:=a) (b:=b) hw hj λ i hi=>ag 0 i (by rw[e];exact hi)
 rw[fS,fS,gB hb hw (),gB ha hw (),dqT (show kk+t<w+kk by omega),yAp,yAp];exact q
theorem aU4(hv:1<=v)(hvw:v<=w)(ha:a<2^v)(hb:b<2^v)(ag:Ag (bO .sign w kk [v] fs m) [b] [a]):(cG b v w)[t]! =(cG a v w)[t]!:=by
 have h0:=iT hm ht;have tl:=rR hm ht;have e:(bO .sign w kk [v] fs m).getD 0 0=jQ m v:=by unfold bO;rw[if_neg h0];rfl
 have q:=aKb hm ht (v:=v) (a:=a) (b:=b) hv ht λ i hi=>ag 0 i (by rw[e];exact hi)
 rw[gB hb hv hvw,gB ha hv hvw,dqT tl,yAp,yAp];exact q
theorem aXa(ag:Ag (bO .cut w kk [v] fs m) [b] [a]):(b%2^w)[t]! =(a%2^w)[t]!:=by
 have h0:=iT hm ht;have e:(bO .cut w kk [v] fs m).getD 0 0=m:=by unfold bO;rw[if_neg h0];rfl
 have q:b[t]! =a[t]!:=ag 0 t (by rw[e];exact ht);rw[yAl,yAl,q]
theorem aT1(ha:a<2^v)(hb:b<2^v)(ag:Ag (bO .wide w kk [v] fs m) [b] [a]):b[t]! =a[t]!:=by
 have h0:=iT hm ht;have e:(bO .wide w kk [v] fs m).getD 0 0=m&&&(2^v-1):=by unfold bO;rw[if_neg h0];rfl
 by_cases c:t<v
 .exact ag 0 t (by rw[e,yAi,dP,ht,dqT c];rfl)
 .rw[cX ha (),cX hb ()]
theorem aYb(ag:Ag (bO .xor w kk ws fs m) [c,e] [a,b]):(c^^^e)[t]! =(a^^^b)[t]!:=by
 have h0:=iT hm ht;have e0:(bO .xor w kk ws fs m).getD 0 0=m:=by unfold bO;rw[if_neg h0];rfl
 have e1:(bO .xor w kk ws fs m).getD 1 0=m:=by unfold bO;rw[if_neg h0];rfl
 have q:c[t]! =a[t]!:=ag 0 t (by rw[e0];exact ht);have r:e[t]! =b[t]!:=ag 1 t (by rw[e1];exact ht);rw[yAr,yAr,q,r]
theorem aXb(F:uQ fs [a,b])(ag:Ag (bO .and w kk ws fs m) [c,e] [a,b]):(c&&&e)[t]! =(a&&&b)[t]!:=by
 have h0:=iT hm ht;have e0:(bO .and w kk ws fs m).getD 0 0=fN m (fN (fs.getD 1 default).N (fs.getD 0 default).N):=by unfold bO;rw[if_neg h0];rfl
 have e1:(bO .and w kk ws fs m).getD 1 0=fN m (fs.getD 0 default).N:=by unfold bO;rw[if_neg h0];rfl
 have g0':=ag 0 t;have g1':=ag 1 t;have f0:=(F 0 t).1;have f1:=(F 1 t).1;rw[e0,qU,qU,ht,yAp] at g0';rw[e1,qU,ht,yAp] at g1';change _->c[t]! =a[t]! at g0';change _->e[t]! =b[t]! at g1';change _->a[t]! =Ff at f0;change _->b[t]! =Ff at f1;rw[yAi,yAi];exact an6 _ _ _ _ _ _ g0' g1' f0 f1
theorem aY6(F:uQ fs [a,b])(ag:Ag (bO .or w kk ws fs m) [c,e] [a,b]):(c|||e)[t]! =(a|||b)[t]!:=by
 have h0:=iT hm ht;have e0:(bO .or w kk ws fs m).getD 0 0=fN m (fN (fs.getD 1 default).O (fs.getD 0 default).O):=by unfold bO;rw[if_neg h0];rfl
 have e1:(bO .or w kk ws fs m).getD 1 0=fN m (fs.getD 0 default).O:=by unfold bO;rw[if_neg h0];rfl
 have g0':=ag 0 t;have g1':=ag 1 t;have f0:=(F 0 t).2;have f1:=(F 1 t).2;rw[e0,qU,qU,ht,yAp] at g0';rw[e1,qU,ht,yAp] at g1';change _->c[t]! =a[t]! at g0';change _->e[t]! =b[t]! at g1';change _->a[t]! =Tt at f0;change _->b[t]! =Tt at f1;rw[xAo,xAo];exact or6 _ _ _ _ _ _ g0' g1' f0 f1
theorem aLj{wd:Wd}(aN:wd=.add\/wd=.sub)(ag:Ag (bO wd w kk ws fs m) [c,e] [a,b]):(∃ q:Int,(c:_)=(a:Nat)+((2^bl m:Nat):Int)*q)/\∃ q:Int,(e:_)=(b:Nat)+((2^bl m:Nat):Int)*q:=by
 have h0:=iT hm ht;have e0:(bO wd w kk ws fs m).getD 0 0=2^bl m-1:=by unfold bO;rw[if_neg h0];rcases aN with rfl|rfl<;>rfl
 have e1:(bO wd w kk ws fs m).getD 1 0=2^bl m-1:=by unfold bO;rw[if_neg h0];rcases aN with rfl|rfl<;>rfl
 exact(xQ λ i hi=>ag 0 i (by rw[e0,dP,dqT hi]),xQ λ i hi=>ag 1 i (by rw[e1,dP,dqT hi]),)
theorem aXT(ag:Ag (bO .add w kk ws fs m) [c,e] [a,b]):(cJ ((c:Nat)+(e:Nat):Int) w)[t]! =(cJ ((a:Nat)+(b:Nat):Int) w)[t]!:=by let((q,e1),r,e2):=aLj hm ht (.inl rfl) ag;refine aD4 (q:=q+r) (rR hm ht) (aFg ht) ?_;rw[e1,e2,Int.mul_add];omega
theorem aVf(ag:Ag (bO .sub w kk ws fs m) [c,e] [a,b]):(cJ ((c:Nat)-(e:Nat):Int) w)[t]! =(cJ ((a:Nat)-(b:Nat):Int) w)[t]!:=by let((q,e1),r,e2):=aLj hm ht (.inr rfl) ag;refine aD4 (q:=q-r) (rR hm ht) (aFg ht) ?_;rw[e1,e2,Int.mul_sub];omega
theorem aWy(F:uQ fs [a,b])(ag:Ag (bO .mul w kk ws fs m) [c,e] [a,b]):(cJ ((c:Nat)*(e:Nat):Int) w)[t]! =(cJ ((a:Nat)*(b:Nat):Int) w)[t]!:=by
 have h0:=iT hm ht;have e0:(bO .mul w kk ws fs m).getD 0 0=2^(bl m-min (bl m) (lr (fs.getD 1 default).N))-1:=by unfold bO;rw[if_neg h0];rfl
 have e1:(bO .mul w kk ws fs m).getD 1 0=2^(bl m-min (bl m-min (bl m) (lr (fs.getD 1 default).N)) (lr (fs.getD 0 default).N))-1:=by unfold bO;rw[if_neg h0];rfl
 obtain⟨u,hu⟩:∃ u,u=min (bl m) (lr (fs.getD 1 default).N):=(_,rfl,);obtain⟨g,hg⟩:∃ g,g=min (bl m-u) (lr (fs.getD 0 default).N):=(_,rfl,);rw[<- hu] at e0 e1;rw[<- hg] at e1;have a0:∀ i,i<bl m-u->c[i]! =a[i]!:=λ i hi=>ag 0 i (by rw[e0,dP,dqT hi])
 have a1:∀ i,i<bl m-g->e[i]! =b[i]!:=λ i hi=>ag 1 i (by rw[e1,dP,dqT hi])
 have zb:∀ i,i<u->b[i]! =Ff:=λ i hi=>(F 1 i).1 (tK (xAb hi (hu▸yDs _ _)))
 have za:∀ i,i<g->a[i]! =Ff:=λ i hi=>(F 0 i).1 (tK (xAb hi (hg▸yDs _ _)))
 have gu:g<=bl m-u:=hg▸yCs _ _;have ub:u<=bl m:=hu▸yCs _ _;let(q,eq):=xQ a0;let(r,er):=xQ a1;let(y,ey):=@aI4 u e λ i hi=>by rw[a1 i (xAb hi (Nat.le_sub_of_add_le (yDk g u▸Nat.add_le_of_le_sub ub gu)))];exact zb i hi
 let(z,ez):=aI4 za;have p1:((2^(bl m-u):Nat):Int)*(2^u:_)=((2^bl m:Nat):Int):=by rw[<- yCf,<- yEn,Nat.sub_add_cancel ub]
 have p2:(2^g:_)*((2^(bl m-g):Nat):Int)=((2^bl m:Nat):Int):=by rw[<- yCf,<- yEn,yEo (xAh gu (yFd _ _))]
 refine aD4 (q:=q*y+z*r) (rR hm ht) (aFg ht) ?_;generalize ((2^(bl m-u):Nat):Int)=P1 at *;generalize ((2^(bl m-g):Nat):Int)=P2 at *;generalize ((2^bl m:Nat):Int)=P at *;generalize (2^u:_)=Q1 at *;generalize (2^g:_)=Q2 at *;generalize (a:Int)=A at *;generalize (b:Int)=B at *;generalize (c:Int)=C at *;generalize (e:Int)=E' at *;calc C*E'=A*E'+P1*q*E':=by rw[eq,Int.add_mul]
  _=A*(B+P2*r)+P1*q*(Q1*y):=by rw[<- er,<- ey]
  _=A*B+Q2*z*(P2*r)+P1*q*(Q1*y):=by rw[Int.mul_add,<- ez]
  _=A*B+P*(q*y+z*r):=by
   have h1:Q2*z*(P2*r)=P*(z*r):=by rw[<- p2];simp only[Int.mul_assoc,Int.mul_left_comm]
   have h2:P1*q*(Q1*y)=P*(q*y):=by rw[<- p1];simp only[Int.mul_assoc,Int.mul_left_comm]
   rw[h1,h2,Int.mul_add];omega
theorem aX6{wd:Wd}(aN:wd=.same\/wd=.less\/wd=.under)(ha:a<2^v)(hb:b<2^v)(hc:c<2^v)(he:e<2^v)(ag:Ag (bO wd w kk [v,v] fs m) [c,e] [a,b]):c=a/\e=b:=by
 have h0:=iT hm ht;have e0:(bO wd w kk [v,v] fs m).getD 0 0=2^v-1:=by unfold bO;rw[if_neg h0];erw[50,aN]<;>rfl
 have e1:(bO wd w kk [v,v] fs m).getD 1 0=2^v-1:=by unfold bO;rw[if_neg h0];erw[50,aN]<;>rfl
 exact(aBy hc ha λ i hi=>ag 0 i (by rw[e0,dP,dqT hi]),aBy he hb λ i hi=>ag 1 i (by rw[e1,dP,dqT hi]),)
theorem aUF(hz:z<2^1)(hz':z'<2^1)(F:uQ fs [z,a,b])(ag:Ag (bO .pick w kk ws fs m) [z',c,e] [z,a,b]):(if z'=1 then c else e)[t]! =(if z=1 then a else b)[t]!:=by
 have h0:=iT hm ht;have en:bO .pick w kk ws fs m=if (fs.getD 0 default).O=1 then [1,m,0] else if (fs.getD 0 default).N=1 then [1,0,m] else [1,m,m]:=by unfold bO;rw[if_neg h0]
 have e0:(bO .pick w kk ws fs m).getD 0 0=1:=by rw[en];split;rfl;split<;>rfl
 have ez:z'=z:=aBy hz' hz λ i hi=>ag 0 i (by rw[e0,show i=0 by omega];rfl)
 subst ez;have o1:(fs.getD 0 default).O=1->z'=1:=λ h=>by
  have:=(F 0 0).2 (by rw[h];rfl);have q:z'[0]! =Tt:=this;rcases (show z'=0\/z'=1 by omega) with rfl|rfl
  .cases q
  .rfl
 have n1:(fs.getD 0 default).N=1->z'≠1:=λ h=>by
  have:=(F 0 0).1 (by rw[h];rfl);have q:z'[0]! =Ff:=this;rintro rfl;cases q
 by_cases c1:z'=1
 .rw[if_pos c1,if_pos c1];refine ag 1 t ?_;rw[en];split
  .exact ht
  .rw[if_neg λ h=>n1 h c1];exact ht
 .rw[if_neg c1,if_neg c1];refine ag 2 t ?_;rw[en,if_neg λ h=>c1 (o1 h)];split
  .exact ht
  .exact ht
end
def aWa{wd:Wd}{os:Li Nat}(h:RwOk (wd,w,args,) ws)(hk:tQ wd args kk)(hm:m<2^w)(ht:m[t]! =Tt)(ln:kO ws ns)(lo:kO ws os)(F:uQ fs ns)(ag:Ag (bO wd w kk ws fs m) os ns):(cY (wd,w,args,) ws os)[t]! =(cY (wd,w,args,) ws ns)[t]!:=by
 cases h with
 |inp=>rfl|num=>rfl
 |nt h1 h2=>
   let(a,rfl,ha):=gF ln;let(b,rfl,hb):=gF lo;exact aVU hm ht ha hb ag
 |sh h1 h2 aN hk'=>
   rename_i a0 k;let(a,rfl,ha):=gF ln;let(b,rfl,hb):=gF lo;have ek:k=kk:=by
    erw[50,aN]
    all_goals
     let(a1,e,_):=hk;injection e with _ e
     injection e
   subst ek;erw[50,aN]
   .exact aUz hm ht ag
   .exact aSs hm ht ha hb ag
   .exact aR6 hm ht h1 ha hb ag
 |cut h1 hv h2=>
   let(a,rfl,ha):=gF ln;let(b,rfl,hb):=gF lo;exact aXa hm ht ag
 |wide h1 hv h2=>
   let(a,rfl,ha):=gF ln;let(b,rfl,hb):=gF lo;exact aT1 hm ht ha hb ag
 |sign h1 hv h2=>
   let(a,rfl,ha):=gF ln;let(b,rfl,hb):=gF lo;exact aU4 hm ht h1 hv ha hb ag
 |bw h1 h2 aN=>
   let(a,b,rfl,ha,hb):=lS ln;let(c,e,rfl,hc,he):=lS lo;erw[50,aN]
   .exact aXb hm ht F ag
   .exact aY6 hm ht F ag
   .exact aYb hm ht ag
 |sm h1 h2=>
   rename_i s _ _;let(a,b,rfl,ha,hb):=lS ln;let(c,e,rfl,hc,he):=lS lo;cases s with
   |add=>exact aXT hm ht ag|sub=>exact aVf hm ht ag|mul=>exact aWy hm ht F ag
 |cmp h1 h2 aN=>
   let(a,b,rfl,ha,hb):=lS ln;let(c,e,rfl,hc,he):=lS lo;let(rfl,rfl):=aX6 hm ht aN ha hb hc he ag;rfl
 |pick h1 h2=>
   let(z,a,b,rfl,hz,ha,hb):=aCf ln;let(z',c,e,rfl,hz',hc,he):=aCf lo;exact aUF hm ht hz hz' F ag
def aRF{rs:Li Rw}{F:Li Ft}{is:Li Nat}(p:Prg rs)(s:Snd rs F)(hF:↑F=↑rs)(hi:cO rs is){k:Nat}{r:Rw}(hr:rs[k]?=qz r):uQ (nA r F) (bI r (cP rs (~~~rs) is [])):=λ c i=>by
 let(f1,f2):=p.fit k r hr;have hk:k<↑rs:=(gIm hr).1;unfold nA jL bI g0;rw[yBi,xAg,xAg,yAe,yAe];cases e:(r.args.take (aW r.wd))[c]? with
 |none=>exact(λ z=>absurd z (by rw[show((Option.map _ qj:Oz Fc).getD default).N=0 from rfl,yBd];decide),λ z=>absurd z (by rw[show((Option.map _ qj:Oz Fc).getD default).O=0 from rfl,yBd];decide),)
 |some a=>
   have ha:=f2 a (xAk e);have hw:=@pK a (rs.map (·.w)) (by rw[yAd];omega);have hn:=@pK a (cP rs (~~~rs) is []) (by rw[aDU p hi];omega);let(h1,h2,_):=s.hold is hi a _ _ _ (nQ ()) hw hn;exact(h1 i,h2 i,)
inductive Yw where
 |cut|nought|sign
 deriving DecidableEq
def Yw.s:Yw->Str
 |.cut => "cut" |.nought => "nought" |.sign => "sign"
def aEH(a b:Yw):bE .Eq (.str a.s) (.str b.s)=qz (.bool (decide (a=b))):=by cases a<;>cases b<;>kernel_rfl
def lb(wd:Yw)(kept:Nat)(f:Ft)(m w:Nat):Bool:=(m/2^kept==0)||(match wd with
 |.cut=>Ff|.nought=>fN (m/2^kept) (f.N/2^kept)==0
 | .sign=>m[(kept-1)]!&&decide (w<kept+f.A))
def yD:Oz (Yw×Nat)->D
 |none=>.none|some (y,k)=>.tuple [.str y.s,.int k]
def aUr(d:Nat)(wd:Yw)(kept:Nat)(f:Ft)(m w:Nat)(hk:1<=kept)(hkw:kept<=w)(S:aE):cl fns (d+1) 49 [.d (Tz [Sz wd.s,Iz kept]),.d f.d,.d (Iz m),.d (Iz w)] S=qz (.d (Bz (lb wd kept f m w)),S):=by
 have c1:bE .Eq (.str wd.s) (.str "nought")=qz (.bool (decide (wd=.nought))):=aEH wd .nought;have c2:bE .Eq (.str wd.s) (.str "sign")=qz (.bool (decide (wd=.sign))):=aEH wd .sign;have ek:(kept:Int)-1=(kept-1:_):=();have el:decide ((w:Int)-(kept:Int)+1<=(f.A:Int))=decide (w<kept+f.A):=by
  rw[decide_eq_decide];omega
 rw[bX rfl d _ S rfl];unfold lb;cases q:(m/2^kept==0) with
 |true=>erw[20,gH,tF,jN,cT,fH,q,Bool.true_or]
 |false=>
   rw[yHv];cases wd with
   |cut=>
     rw[dqF (·)] at c1 c2;erw[11,tF,jN,cT,fH,q,c1,c2]
   |nought=>
     rw[dqT rfl] at c1;erw[11,tF,jN,cT,fH,q,c1,iP,aJQ,aIG]
   |sign=>
     rw[dqF (·)] at c1;rw[dqT rfl] at c2;cases q2:m[(kept-1)]! with
     |true=>erw[20,gH,tF,jN,cT,fH,q,c1,c2,dR,ek,aI8,aOe,q2,iL,tR,kN,el,yAp]|false=>erw[20,gH,tF,jN,cT,fH,q,c1,c2,dR,ek,aI8,aOe,q2,yAx]
def rQ(p:Nat->Bool):Nat->Nat->Nat
 |0,i=>i
 |n+1,i=>if p i=Tt then i else rQ p n (i+1)
def aJ4(p:Nat->Bool):∀ n i,p (i+n)=Tt->i<=rQ p n i/\rQ p n i<=i+n/\p (rQ p n i)=Tt/\∀ j,i<=j->j<rQ p n i->p j=Ff
 |0,i,h=>(yAc _,yAc _,h,λ j h1 h2=>absurd h1 (yGn h2),)
 |n+1,i,h=>by
   unfold rQ;by_cases c:p i=Tt
   .rw[if_pos c];exact(yAc _,(),c,λ j h1 h2=>absurd h1 (yGn h2),)
   .rw[if_neg c];let(h1,h2,h3,h4):=aJ4 p n (i+1) (by rw[show i+1+n=i+(n+1) by omega];exact h);refine((),(),h3,λ j h5 h6=>?_,);by_cases e:i=j
    .subst e;exact Bool.eq_false_iff.mpr c
    .exact h4 j () h6
def lw(y:Yw)(f:Ft)(m w:Nat):Nat:=rQ (λ k=>lb y k f m w) (w-1) 1
def aXE(h:m<2^w):lb y w f m w=Tt:=by unfold lb;rw[Nat.div_eq_of_lt h];rfl
def aM1(y:Yw)(f:Ft)(hw:1<=w)(h:m<2^w):1<=lw y f m w/\lw y f m w<=w/\lb y (lw y f m w) f m w=Tt/\∀ j,1<=j->j<lw y f m w->lb y j f m w=Ff:=by
 let(h1,h2,h3,h4):=aJ4 (λ k=>lb y k f m w) (w-1) 1 (by
  show lb y (1+(w-1)) f m w=Tt;rw[show 1+(w-1)=w by omega]
  exact aXE h)
 exact(h1,by unfold lw;omega,h3,h4,)
def aDk:∀ l:Li Nat,kY (l.map nD)=qz (l.map λ n=>(n:_))
 |[]=>rfl
 |a::r=>by
   have ih:=aDk r;simp only[yAk,nD,kY];rw[show kY (r.map nD)=_ from ih,oB]
def aIO:∀ (l:Li Nat) (a m:Nat),(m=a\/m∈l)->m<=a->(∀ b∈l,m<=b)->(l.map λ n=>(n:_)).foldl min (a:_)=(m:_)
 |[],a,m,h,_,_=>by
   simp_all
 |b::l,a,m,h,h1,h2=>by
   rw[yAk,yBw,show min (a:Int) (b:Int)=((min a b:Nat):Int) by omega];have hb:=h2 b xAc;refine aIO l (min a b) m ?_ () λ c hc=>h2 c (xAf _ hc)
   rcases h with rfl|h
   .exact .inl ()
   .rcases List.mem_cons.mp h with rfl|h
    .exact .inl ()
    .exact .inr h
def aL1{l:Li Nat}{m:Nat}(h:m∈l)(h2:∀ b∈l,m<=b):lL [.list (l.map nD)]=qz (.int m):=by
 have e:=aDk l;cases l with
 |nil=>cases h
 |cons a r=>
   have f:=aIO r a m (List.mem_cons.mp h) (h2 a xAc) λ b hb=>h2 b (xAf _ hb)
   show(match kY ((a::r).map nD) with
    |some (i::r)=>qz (Iz (r.foldl min i))
    | _=>qj)=_
   rw[e,yAk];simp_all
def aQP(d:Nat)(y:Yw)(f:Ft)(m w:Nat)(cC:1<=w)(hw:w<=64)(hm:m<2^w)(S:aE):cl fns (d+2) 50 [.d (Sz y.s),.d f.d,.d (Iz m),.d (Iz w)] S=qz (.d (Iz (lw y f m w:Nat)),S):=by
 have ea:(w:Int)+1=(w+1:_):=rfl;have hc:lv (d<$>1) aGO [qz (.d (Sz y.s)),qz (.d f.d),(m:),(w:),qj] S=qz ((((yBh w).filter λ k=>lb y (1+k) f m w).map λ k=>nD (1+k)),S):=by
  refine @aIV _ _ _ _ _ (lv (d<$>1) (.rng2 (.int 1) (.bin .Add (.var 3) (.int 1)))) (tv (d<$>1) (.call 49 (.cons (.tup (.cons (.var 0) (.cons (.var 4) .nil))) (.cons (.var 1) (.cons (.var 2) (.cons (.var 3) .nil)))))) (ev (d<$>1) (.var 4)) (λ k=>Iz (1+k:_)) (λ k=>nD (1+k)) (λ k=>lb y (1+k) f m w) (yBh w) ?_ (by rw[zx,yEi];omega) λ k hk=>?_
  .simp only[aFd,aBe,aDR,aD3,aEA,aD1];have:=@aPi (ev (d<$>1) (.int 1)) (ev (d<$>1) (.bin .Add (.var 3) (.int 1))) [qz (.d (Sz y.s)),qz (.d f.d),(m:),(w:),qj] S S S 1 (w+1) rfl (by erw[20,iL,ea]) () ();rw[yGa] at this;exact this
  .have hk:=List.mem_range.mp hk;have l1:=λ S'=>aUr d y (1+k) f m w () () S'
   exact(_,rfl,λ S'=>pX rfl (aV (aD (dO (aD (aC rfl) (aD (aC rfl) aO)) rfl (yAa rfl)) (aD (aC rfl) (aD (aC rfl) (aD (aC rfl) aO)))) (l1 S')) rfl,λ _ S'=>rfl,)
 let(h1,h2,h3,h4):=aM1 y f cC hm;have mn:lL [.list (((yBh w).filter λ k=>lb y (1+k) f m w).map λ k=>nD (1+k))]=qz (.int (lw y f m w:Nat)):=by
  rw[show(((yBh w).filter λ k=>lb y (1+k) f m w).map λ k=>nD (1+k))=(((yBh w).filter λ k=>lb y (1+k) f m w).map λ k=>1+k).map nD by rw[yBi];rfl];refine aL1 (List.mem_map.mpr (lw y f m w-1,List.mem_filter.mpr (List.mem_range.mpr (),?_,),(),)) λ b hb=>?_
  .simp_all
  .let(k,hk,rfl):=List.mem_map.mp hb;refine yDc λ c=>?_
   have:=(List.mem_filter.mp hk).2;rw[h4 (1+k) () c] at this;cases this
 exact cH rfl rfl rfl (aT (cQ (aD (fA hc) aO) (cN dJ cU) mn)) yAf
def fB(f:Ft)(m w:Nat):Nat:=min (lw .cut f m w) (min (lw .nought f m w) (lw .sign f m w))
def oV(f:Ft)(m w:Nat):Yw:=if lw .cut f m w=fB f m w then .cut else if lw .nought f m w=fB f m w then .nought else .sign
def aJO:Tz (wV.map Tv.d)=.tuple [.str Yw.cut.s,.str Yw.nought.s,.str Yw.sign.s]:=rfl
def bBf(a b c m:Nat)(h:m=a\/m=b\/m=c):([a,b,c].map λ n=>(n:_)).idxOf (m:_)=if a=m then 0 else if b=m then 1 else 2:=by
 have e:∀ x y:Nat,((x:_)==(y:_))=decide (x=y):=λ x y=>by
  rw[yCe,beq_iff_eq,decide_eq_true_eq];omega
 simp only[yAk,yEj,List.idxOf_cons,e];by_cases h1:a=m
 .rw[dqT h1,if_pos h1];rfl
 .rw[dqF h1,if_neg h1];by_cases h2:b=m
  .rw[dqT h2,if_pos h2];rfl
  .rw[dqF h2,if_neg h2];by_cases h3:c=m
   .rw[dqT h3];rfl
   .omega
def aUo(S:aE)(xs:Li D)(k:Int):yV S (.d (Lz xs)) (.d (Iz k))=(kY xs).bind λ ns=>if k∈ns then qz (.d (Iz ((ns.idxOf k:Nat):Int)),S) else qj:=rfl
def aRN(d:Nat)(f:Ft)(m w:Nat)(cC:1<=w)(hw:w<=64)(hm:m<2^w)(S:aE):cl fns (d+3) 51 [.d f.d,.d (Iz m),.d (Iz w)] S=qz (.d (yD (qz (oV f m w,fB f m w))),S):=by
 have hc:lv (d<$>2) vM [qz (.d f.d),(m:),(w:),qj,qj,qj] S=qz ([Yw.cut,.nought,.sign].map λ y=>nD (lw y f m w),S):=by
  refine mM (fi:=lv (d<$>2) (.it (.con "WORDS" wV))) (fe:=ev (d<$>2) (.call 50 (.cons (.var 5) (.cons (.var 0) (.cons (.var 1) (.cons (.var 2) .nil)))))) (λ y:Yw=>Sz y.s) (λ y=>nD (lw y f m w)) [Yw.cut,.nought,.sign] ?_ (by rw[zx];show 3<=16777216;decide) λ y _=>?_
  .erw[20,aJO,gY]
  .have l1:=λ S'=>aQP d y f m w cC hw hm S'
   refine([qz (.d f.d),(m:),(w:),qj,qj,qz (.d (Sz y.s))],rfl,λ S'=>?_,);show _=qz (W.d (Iz ((lw y f m w:Nat):Int)),S');erw[20,l1]
 have hc':lv (d<$>2) vM [qz (.d f.d),(m:),(w:),qj,qj,qj] S=qz ([lw .cut f m w,lw .nought f m w,lw .sign f m w].map nD,S):=hc;have mi:fB f m w=lw .cut f m w\/fB f m w=lw .nought f m w\/fB f m w=lw .sign f m w:=by unfold fB;omega
 have mn:lL [.list ([lw .cut f m w,lw .nought f m w,lw .sign f m w].map nD)]=qz (.int (fB f m w:Nat)):=by
  refine aL1 (by simp_all) λ b hb=>?_
  simp only[yDf,yDu,or_false] at hb;unfold fB;omega
 have ix:yV S (.d (Lz ([lw .cut f m w,lw .nought f m w,lw .sign f m w].map nD))) (.d (Iz (fB f m w:Nat)))=qz (.d (Iz ((if lw .cut f m w=fB f m w then 0 else if lw .nought f m w=fB f m w then 1 else 2:Nat):Int)),S):=by
  rw[aUo,aDk,oB,if_pos ?_,bBf _ _ _ _ mi]
  grind
 have wd:aU (.tuple [.str Yw.cut.s,.str Yw.nought.s,.str Yw.sign.s]) (.int ((if lw .cut f m w=fB f m w then 0 else if lw .nought f m w=fB f m w then 1 else 2:Nat):Int))=qz (.str (oV f m w).s):=by
  unfold oV;split
  .rfl
  .split<;>rfl
 generalize hL:Lz ([lw .cut f m w,lw .nought f m w,lw .sign f m w].map nD)=L at mn ix;generalize (if lw .cut f m w=fB f m w then 0 else if lw .nought f m w=fB f m w then 1 else 2:Nat)=j at ix wd;have fz:xs (d<$>2) (.setC Ff 3 vM) [qz (.d f.d),(m:),(w:),qj,qj,qj] S=qz (.nx [qz (.d f.d),(m:),(w:),qz (.d L),qj,qj],S):=by
  rw[<- hL];erw[20,hc']
 have e:sV=.seq (.setC Ff 3 vM) (bH sV):=rfl;have tl:xs (d<$>2) (bH sV) [qz (.d f.d),(m:),(w:),qz (.d L),qj,qj] S=qz (.rt (.d (yD (qz (oV f m w,fB f m w)))),S):=by
  erw[20,bH,sV,mn,aJO,aCr,ix,wd];rfl
 refine dB (S1:=S) rfl (d+2) rfl rfl yAf ?_;show xs (d<$>2) sV [qz (.d f.d),(m:),(w:),qj,qj,qj] S=_;rw[e,aL3 fz,tl]
def iV(r:Rw)(f:Ft)(m:Nat):Oz (Yw×Nat):=if r.wd=.in then qz (.cut,r.w) else if m=0 then qj else qz (oV f m r.w,fB f m r.w)
def aXl(r:Rw):aU r.d (Iz 0)=qz (.str r.wd.s):=@iK (.str r.wd.s::nD r.w::r.args.map nD) 0 _ rfl
def aRR(d:Nat)(r:Rw)(f:Ft)(m:Nat)(cC:1<=r.w)(hw:r.w<=64)(hm:m<2^r.w)(S:aE):cl fns (d+4) 52 [.d r.d,.d f.d,.d (Iz m)] S=qz (.d (yD (iV r f m)),S):=by
 have c1:bE .Eq (.str r.wd.s) (.str "in")=qz (.bool (decide (r.wd=.in))):=bY r.wd .in;have ls:=aRN d f m r.w cC hw hm S;have rw0:=aXl r;have rw1:=jR r;unfold iV;rw[bX rfl (d+3) _ S rfl];by_cases c:r.wd=.in
 .rw[dqT c] at c1;rw[if_pos c];erw[11,aA1,rw0,c1,rw1]
 .rw[dqF c] at c1;rw[if_neg c];by_cases z:m=0
  .have dz:(m==0)=Tt:=by rw[beq_iff_eq];exact z
   rw[if_pos z];erw[11,aA1,rw0,c1,cT,fH,dz]
  .have dz:(m==0)=Ff:=by rw[beq_eq_false_iff_ne];exact z
   rw[if_neg z];erw[11,aA1,rw0,c1,cT,fH,dz,rw1,ls]
def z3:Li Rw->Li Ft->Li Nat->Li (Rw×Ft×Nat)
 |r::rs,f::F,m::M=>(r,f,m)::z3 rs F M|_,_,_=>[]
def aOd:∀ (rs:Li Rw) (F:Li Ft) (M:Li Nat),gR (rs.map Rw.d) (F.map Ft.d) (M.map nD)=(z3 rs F M).map λ t=>Tz [t.1.d,t.2.1.d,nD t.2.2]
 |[],_,_=>rfl|_::_,[],_=>rfl|_::_,_::_,[]=>rfl
 |r::rs,f::F,m::M=>by
   have ih:=aOd rs F M;simp only[yAk,gR,z3,ih]
def aEI:∀ (rs:Li Rw) (F:Li Ft) (M:Li Nat) (k:Nat) (t:Rw×Ft×Nat),(z3 rs F M)[k]?=qz t ↔ rs[k]?=qz t.1/\F[k]?=qz t.2.1/\M[k]?=qz t.2.2
 |[],_,_,k,t=>by simp[z3]|_::_,[],_,k,t=>by simp[z3]|_::_,_::_,[],k,t=>by simp[z3]|r::rs,f::F,m::M,0,(a,b,c)=>by simp[z3]
 |r::rs,f::F,m::M,k+1,t=>by
   have ih:=aEI rs F M k t;simpa [z3] using ih
def aEF:∀ (rs:Li Rw) (F:Li Ft) (M:Li Nat),↑F=↑rs->↑M=↑rs->↑(z3 rs F M)=↑rs
 |[],_,_,_,_=>rfl|_::_,[],_,h,_=>by cases h|_::_,_::_,[],_,h=>by cases h
 |r::rs,f::F,m::M,h1,h2=>by
   have ih:=aEF rs F M (Nat.succ.inj h1) (Nat.succ.inj h2);simp only[z3,yAn,ih]
def dD(rs:Li Rw)(F:Li Ft)(M:Li Nat):Li (Oz (Yw×Nat)):=(z3 rs F M).map λ t=>iV t.1 t.2.1 t.2.2
def aRa{F:Li Ft}(d:Nat)(p:Prg rs)(hF:↑F=↑rs)(h:Bd rs M)(o:D)(S:aE):cl fns (d+5) 53 [.d (rs<*o),.d (F*>Ft.d),.d (M*>nD)] S=qz (.d (Tz ((dD rs F M).map yD)),S):=by
 have pl:=p.l;have zl:=aEF rs F M hF h.l;have i0:aU (rs<*o) (.int 0)=qz (rs*>Rw.d):=rfl;have hz:=aOd rs F M;have hc:lv (d<$>4) aGN [qz (.d (rs<*o)),qz (.d (F*>Ft.d)),qz (.d (M*>nD)),qj,qj,qj] S=qz ((dD rs F M).map yD,S):=by
  unfold dD;rw[yBi];refine mM (fi:=lv (d<$>4) (.zip3 (.ix (.var 0) (.int 0)) (.var 1) (.var 2))) (fe:=ev (d<$>4) (.call 52 (.cons (.var 3) (.cons (.var 4) (.cons (.var 5) .nil))))) (λ t:Rw×Ft×Nat=>Tz [t.1.d,t.2.1.d,nD t.2.2]) (yD ∘ λ t=>iV t.1 t.2.1 t.2.2) (z3 rs F M) ?_ (by rw[zx];omega) λ t ht=>?_
  .erw[0,i0,hz]
  .let(k,hk):=yFe ht;let(h1,h2,h3):=(aEI rs F M k t).mp hk;let(r,f,m):=t;have hw:=p.ws k r h1;have hm:m<2^r.w:=by
    have:=h.lt k r h1;rw[xAg,h3] at this;exact this
   have e1:=λ S'=>aRR d r f m hw.1 hw.2 hm S'
   refine([qz (.d (rs<*o)),qz (.d (F*>Ft.d)),qz (.d (M*>nD)),qz (.d r.d),qz (.d f.d),(m:)],rfl,λ S'=>?_,);show _=qz (W.d (yD (iV r f m)),S');erw[0,e1]
 rw[bX rfl (d+4) _ S rfl];erw[11,aG8,hc,pO,aBt]
def aT4{rs:Li Rw}{F:Li Ft}{M:Li Nat}(hF:↑F=↑rs)(hM:↑M=↑rs):↑(dD rs F M)=↑rs:=by unfold dD;rw[yAd,aEF rs F M hF hM]
def wS{F:Li Ft}{M:Li Nat}(hr:rs[k]?=qz r)(hF:↑F=↑rs)(hM:↑M=↑rs):(dD rs F M)[k]?=qz (iV r (f0 F k) (M.getD k 0)):=by have hk:k<↑rs:=(gIm hr).1;unfold dD;rw[yAe,(aEI rs F M k (r,f0 F k,M.getD k 0)).mpr (hr,nQ (),aD8 (),)];rfl
def yE(a b:Oz (Yw×Nat)):Bool:=match a,b with|none,qj=>Tt|some (x,k),qz (y,l)=>decide (x=y)&&(k==l)|_,_=>Ff
def aYp(a b:Oz (Yw×Nat)):yE a b=decide (a=b):=by
 rcases a with _|⟨x,k⟩<;>rcases b with _|⟨y,l⟩
 .rfl
 .rfl
 .rfl
 .show(decide (x=y)&&(k==l))=_;rw[yCe,yBn,decide_eq_true_eq,beq_iff_eq,decide_eq_true_eq,Option.some.injEq,Prod.mk.injEq]
def bAn(x y:Yw):(x.s==y.s)=decide (x=y):=by cases x<;>cases y<;>kernel_rfl
def aZt(a b:Oz (Yw×Nat)):yDt (yD a) (yD b)=decide (a=b):=by
 rw[<- aYp];rcases a with _|⟨x,k⟩<;>rcases b with _|⟨y,l⟩
 .rfl
 .rfl
 .rfl
 .simp only[yD,yDt,PyData.eqvAll,yE,bAn,yCo];congr 1;rw[yCe,beq_iff_eq,beq_iff_eq];omega
def aZc(a:Oz (Yw×Nat)):(yD a).canLay0=Tt:=by
 rcases a with _|⟨x,k⟩
 .rfl
 .cases x<;>kernel_rfl
def bAF(a:Oz (Yw×Nat)):(yD a).depth<=1:=by
 rcases a with _|⟨x,k⟩
 .exact yCd _
 .simp[yD,PyData.depth,yEz]
def aFT(a:Oz (Yw×Nat)):bE .Is (yD a) .none=qz (.bool a.isNone):=by rcases a with _|⟨x,k⟩<;>rfl
def rt(r:Rw)(f:Ft)(m:Nat)(y:Oz (Yw×Nat)):Bool:=if r.wd=.in then decide (y=qz (.cut,r.w)) else if m=0 then y.isNone else match y with|none=>Ff|some (a,k)=>lb a k f m r.w
def Yok(w:Nat)(y:Oz (Yw×Nat)):Prop:=∀ a k,y=qz (a,k)->1<=k/\k<=w
structure Yst(rs:List Rw)(Y:List (Option (Yw×Nat))):Prop where
 l:↑Y=↑rs
 ok:∀ (k:Nat) (r:Rw) (y:Option (Yw×Nat)),rs[k]?=qz r->Y[k]?=qz y->Yok r.w y
def aXx(f:Ft)(m w:Nat):lw (oV f m w) f m w=fB f m w:=by
 unfold oV;by_cases h1:lw .cut f m w=fB f m w
 .rw[if_pos h1];exact h1
 .rw[if_neg h1];by_cases h2:lw .nought f m w=fB f m w
  .rw[if_pos h2];exact h2
  .rw[if_neg h2];unfold fB at h1 h2 ⊢;omega
def aLL(f:Ft)(hw:1<=w)(h:m<2^w):1<=fB f m w/\fB f m w<=w/\lb (oV f m w) (fB f m w) f m w=Tt:=by have:=aM1 (oV f m w) f hw h;rw[aXx] at this;simp_all
def aSt(r:Rw)(f:Ft)(m:Nat)(hw:1<=r.w)(h:m<2^r.w):Yok r.w (iV r f m):=by
 intro a k e;unfold iV at e;by_cases c:r.wd=.in
 .rw[if_pos c] at e;simp_all
 .rw[if_neg c] at e;by_cases z:m=0
  .rw[if_pos z] at e;cases e
  .rw[if_neg z] at e;cases e;have:=aLL f hw h;simp_all
def aUw{F:Li Ft}(p:Prg rs)(hF:↑F=↑rs)(h:Bd rs M):Yst rs (dD rs F M):=by refine(aT4 hF h.l,λ k r y hr hy=>?_,);rw[wS hr hF h.l] at hy;cases hy;exact aSt r _ _ (p.ws k r hr).1 (h.lt k r hr)
def gJ(w:Wd):Bool:=w==.same||w==.less||w==.under
def Aq(rs:Li Rw)(M:Li Nat)(n:Nat):Prop:=∀ i r,n<=i->rs[i]?=qz r->gJ r.wd=Tt->M.getD i 0≠0->∀ a∈bT r,M.getD a 0≠0
def aXO{rs:Li Rw}{F:Li Ft}(p:Prg rs){k m:Nat}{r:Rw}(hr:rs[k]?=qz r)(hc:gJ r.wd=Tt)(hm:m≠0):∀ a∈bT r,∃ v,v≠0/\(a,v)∈hG rs F r m:=by
 let(f1,f2):=p.fit k r hr;let(w1,w2):=uA f1;have hw3:r.wd=.same\/r.wd=.less\/r.wd=.under:=by
  unfold gJ at hc;cases hh:r.wd<;>rw[hh] at hc<;>first|exact .inl rfl|exact .inr (.inl rfl)|exact .inr (.inr rfl)|(exfalso;revert hc;decide)
 have two:∃ a b,bT r=[a,b]:=by
  have hl:↑(bI r (~~~rs))=2:=by
   have w3:=w1.2.2;rcases hw3 with h|h|h<;>rw[h] at w3<;>(let(_,v,hv,_):=w3;rw[hv];rfl)
  unfold bI at hl;rw[yAd] at hl;change ↑(bT r)=2 at hl
  match h:bT r,hl with
  |[a,b],_=>exact(a,b,rfl,)
 let(a,b,e):=two;have hw:∀ x∈bT r,∃ u:Nat,1<=u/\g0 (~~~rs) x=u:=λ x hx=>by
  have hx2:=f2 x hx;have hk:k<↑rs:=(gIm hr).1;have hq:rs[x]?=qz rs[x]:=yAb ();exact(_,(p.ws x _ hq).1,jG hq,)
 have eo:bI r (~~~rs)=[g0 (~~~rs) a,g0 (~~~rs) b]:=by
  unfold bI;rw[show r.args.take (aW r.wd)=[a,b] from e];rfl
 have nz:∀ u:Nat,1<=u->2^u-1≠0:=λ u hu=>by
  have:=yAm (show 1<=2 by decide) hu;omega
 let(u,u1,eu):=hw a (by rw[e];simp);let(v,v1,ev):=hw b (by rw[e];simp);have en:oT rs F r m=[2^u-1,2^v-1]:=by
  unfold oT bO;rw[if_neg hm,eo,eu,ev];rcases hw3 with h|h|h<;>rw[h]<;>rfl
 intro x hx;unfold hG;rw[en,e];rw[e] at hx;rcases List.mem_cons.mp hx with rfl|hx
 .exact(_,nz u u1,by simp,)
 .obtain rfl:=List.mem_singleton.mp hx;exact(_,nz v v1,by simp,)
def zU(a b:Li D)(h:↑a+↑b<=1000):cD .Add (.tuple a) (.tuple b)=qz (.tuple (a++b)):=by
 cases a with
 |nil=>rfl
 |cons x r=>
   show(if (x::r).isEmpty=Ff/\↑(x::r)+↑b<=qk then qz (Tz ((x::r)++b)) else qj)=_;rw[if_pos (rfl,by rw[zx];omega,)]
def aI0(a:Li D)(k:Nat):gK a (qz (k:Nat)) qj=a.drop k:=by
 unfold gK;rw[HT.sIx_none,HT.sIx_nat];rcases yIh k ↑a with h|h
 .rw[yDq h,yCi (by rw[yHy];omega)]
 simp_all
section
variable {rs:List Rw}{F:List Ft}{M:List Nat}{Y:List (Option (Yw×Nat))}{k:Nat}{y:Option (Yw×Nat)}
end
abbrev Ys:=List (Option (Yw×Nat))
abbrev Es:=List (Rw×Nat)
abbrev Ps:=List (Option Nat)
noncomputable abbrev M3:=Nat×List Rw×Es
def jZ(r:Rw):List bN:=.inr r.wd.s :: .inl (r.w:_)::r.args.map λ a=>.inl (a:_)
def aNy(r:Rw):W:=.tpl (.d (Sz r.wd.s) :: .d (nD r.w)::r.args.map λ a=>.d (nD a))
def iG(E:Es):Li (List bN×Int):=E.map λ p=>(jZ p.1,(p.2:_))
def sL:Oz Nat->D
 |none=>.none|some k=>.int k
noncomputable abbrev dF(P Y:D):W:=.ob [("program",.d P),("stays",.d Y),("rows",.loc 1),("places",.loc 2),("once",.dic 3)]
noncomputable abbrev sM(st:Option (List D))(R:List Rw)(Pl:Ps)(E:Es)(T:aE):aE:=st::qz (R.map Rw.d)::qz (Pl.map sL)::qz ((iG E).map mT)::T
noncomputable abbrev oX(st:Option (List D))(Pl:Ps)(T:aE)(x:M3):Option (W×aE):=qz (.d (Iz (x.1:Nat)),sM st x.2.1 Pl x.2.2 T)
def aXo(l:Li Nat):fY (l.map λ a=>W0.d (nD a))=qz (l.map nD):=by
 induction l with
 |nil=>rfl|cons a r ih=>rw[yAk,fY,ih];rfl
def aZI(r:Rw):fY (.d (Sz r.wd.s) :: .d (nD r.w)::r.args.map λ a=>W0.d (nD a))=qz (.str r.wd.s::nD r.w::r.args.map nD):=by rw[fY,fY,aXo];rfl
def aWr(l:Li Nat):iD (l.map λ a=>W0.d (nD a))=qz (l.map λ a=>.inl (a:_)):=by
 induction l with
 |nil=>rfl|cons a r ih=>rw[yAk,nD,iD,ih];rfl
def xS(r:Rw):iD (.d (Sz r.wd.s) :: .d (nD r.w)::r.args.map λ a=>W0.d (nD a))=qz (jZ r):=by rw[nD,iD,iD,aWr];rfl
def kP{a b c e a' b' c' e':Oz (Li D)}{T:aE}:(a::b::c::e::T).take ↑(a'::b'::c'::e'::T)=a::b::c::e::T:=by simp
def aNm(b:Bool)(r:Rw):W:=match b with|false=>.d r.d|true=>aNy r
def jX(R:Li Rw)(E:Es)(r:Rw):M3:=match fO (iG E) (jZ r) with|some i=>(i.toNat,R,E)|none=>(↑R,R++[r],E++[(r,↑R)])
def aIZ(E:Es)(r:Rw)(n:Nat):iG (E++[(r,n)])=iG E++[(jZ r,(n:_))]:=by unfold iG;rw[yAy];rfl
def aRb{i:Int}(h:fO es k=qj):fO (es++[(k,i)]) k=qz i:=by
 unfold fO at h ⊢;rw[List.find?_append];cases q:es.find? λ p=>decide (p.1=k) with
 |none=>simp|some p=>rw[q] at h;cases h
def aSj{E:Es}{i:Int}(h:fO (iG E) k=qz i):(i.toNat:_)=i:=by unfold fO iG at h;let(p,h1,h2):=Option.map_eq_some_iff.mp h;have:=List.mem_of_find?_eq_some h1;let(q,_,rfl):=List.mem_map.mp this;subst h2;rfl
def zG(st:Oz (Li D))(R:Li Rw)(Pl:Ps)(E:Es)(T:aE):mE (sM st R Pl E T) 3=qz (iG E):=by unfold mE;show qz (((iG E).map mT).filterMap uM)=_;rw[aF0]
def cV(Y:Ys)(Pl:Ps)(R:Li Rw)(E:Es)(k w:Nat):M3:=match Y.getD k qj with
 |none=>jX R E (.num,w,[0],)
 |some (y,kept)=>if kept=w then ((Pl.getD k qj).getD 0,R,E) else if w<kept then jX R E (.cut,w,[(Pl.getD k qj).getD 0],) else jX R E (if y=.sign then .sign else .wide,w,[(Pl.getD k qj).getD 0],)
section
variable {st:Option (List D)}{R:List Rw}{Pl:Ps}{E:Es}{T:aE}{Y:Ys}{P YY:D}
def aBd(b:Bool)(r:Rw)(hz:↑R+↑E<=1900):eZ (sM st R Pl E T) (.loc 1) (aNm b r)=qz (.d .none,sM st (R++[r]) Pl E T):=by
 have h:uT (sM st R Pl E T) 1 r.d=qz (.d .none,sM st (R++[r]) Pl E T):=by
  show(if ↑(R.map Rw.d)<qk then _ else qj)=_;rw[if_pos (by rw[yAd,zx];omega),show R.map Rw.d++[r.d]=(R++[r]).map Rw.d by rw[yAy];rfl];rfl
 cases b with
 |false=>exact h
 |true=>
   show(fY _).bind (λ l=>uT (sM st R Pl E T) 1 (.tuple l))=_;rw[aZI];exact h
def qX(d:Nat)(b:Bool)(r:Rw)(hz:↑R+↑E<=1900):cl fns (d+1) 54 [dF P YY,aNm b r] (sM st R Pl E T)=oX st Pl T (↑R,R++[r],E):=by
 have ln:lT [.list ((R++[r]).map Rw.d)]=qz (.int (↑R+1:_)):=by
  show qz (Iz ((↑((R++[r]).map Rw.d):Nat):Int))=_;rw[yAd,xAn];rfl
 exact cH rfl rfl rfl (cK (gP (iN (xA (aC rfl) rfl) (aC rfl) (aBd b r hz))) (aT (bP (cQ (aD (xA (aC rfl) rfl) aO) (cN (fD rfl) cU) ln) aJ (by rw[dR,show(↑R+1:_)-1=(↑R:_) by omega])))) kP
def aDQ(d:Nat)(r:Rw)(hz:↑R+↑E<=1900):cl fns (d+2) 55 [dF P YY,aNy r] (sM st R Pl E T)=oX st Pl T (jX R E r):=by
 have mk:=@qX st _ Pl _ T P YY d Tt r hz;unfold jX;cases hv:fO (iG E) (jZ r) with
 |some i=>
   have hv':fO (iG E) (jZ r)=qz (i.toNat:Int):=by rw[aSj hv];exact hv
   exact cH rfl rfl rfl (aP (aEM (aC rfl) (tP (aC rfl) rfl) (xS r) (zG st R Pl E T) (by rw[hv];rfl)) (aT (aEq (tP (aC rfl) rfl) (aC rfl) (xS r) (zG st R Pl E T) hv'))) kP
 |none=>
   have pt:rV (iG E) (jZ r) (↑R:_)=iG (E++[(r,↑R)]):=by
    unfold rV;rw[hv,if_neg (·),aIZ]
   exact cH rfl rfl rfl (cK (jB (aEM (aC rfl) (tP (aC rfl) rfl) (xS r) (zG st R Pl E T) (by rw[hv];rfl)) (fK (aLa (fL (aC rfl) rfl (aD (aC rfl) aO) mk) (tP (aC rfl) rfl) (aC rfl) (xS r) (zG st (R++[r]) Pl E T) (by unfold iG;rw[yAd,zx];omega) (by rw[pt];rfl)))) (aT (aEq (tP (aC rfl) rfl) (aC rfl) (xS r) (zG st (R++[r]) Pl (E++[(r,↑R)]) T) (by rw[aIZ];exact aRb hv)))) kP
def fQ(Y:Ys)(Pl:Ps)(k:Nat):Prop:=∃ y,Y[k]?=qz y/\∀ a b,y=qz (a,b)->∃ p,Pl[k]?=qz (qz p)
def pF(d:Nat)(w:Nat)(hk:fQ Y Pl k)(hz:↑R+↑E<=1900):cl fns (d+3) 56 [dF P (Y*>yD),.d (Iz k),.d (Iz w)] (sM st R Pl E T)=oX st Pl T (cV Y Pl R E k w):=by
 let(y,hy,hp):=hk;have on:=λ(r:Rw)=>@aDQ st _ Pl _ T P (Y*>yD) d r hz
 have i0:aU (Y*>yD) (.int k)=qz (yD y):=iK (by rw[yAe,hy];rfl);unfold cV;rw[show Y.getD k qj=y by rw[xAg,hy];rfl];cases y with
 |none=>exact cH rfl rfl rfl (bK (bM (rC (aC rfl) rfl) (aC rfl) rfl i0) rfl (bS (aZ (aC rfl) aFt (aFT qj)) (aT (fL (aC rfl) rfl (aD (uB (aD bZ (aD (aC rfl) (aD aJ aO))) rfl (eq_true (yAa rfl))) aO) (on (.num,w,[0],)))))) kP
 |some q=>
   let(a,kept):=q;let(p,hpl):=hp a kept rfl;have pa:aU (.list (Pl.map sL)) (.int k)=qz (.int p):=nO (by rw[yAe,hpl];rfl);have gp:∀ {C:Calls}{c3 c4 c5:Oz W},ev C (.ix (.fld (.var 0) "places") (.var 1)) [qz (dF P (Y*>yD)),(k:),(w:),c3,c4,c5] (sM st R Pl E T)=qz (.d (Iz p),sM st R Pl E T):=λ {C c3 c4 c5}=>bM (xA (aC rfl) rfl) (aC rfl) (fD rfl) pa
   dsimp only;rw[show(Pl.getD k qj).getD 0=p by rw[xAg,hpl];rfl];have go:∀ {x:M3},xs (d<$>2) (bH (bH (bH aLQ))) [qz (dF P (Y*>yD)),(k:),(w:),qz (.d (yD (qz (a,kept)))),qz (.d (Sz a.s)),(kept:)] (sM st R Pl E T)=qz (.rt (.d (Iz (x.1:Nat))),sM st x.2.1 Pl x.2.2 T)->cl fns (d+3) 56 [dF P (Y*>yD),.d (Iz k),.d (Iz w)] (sM st R Pl E T)=oX st Pl T x:=λ {x} h=>cH rfl rfl rfl (bK (bM (rC (aC rfl) rfl) (aC rfl) rfl i0) rfl (aP (aZ (aC rfl) aFt (aFT (qz (a,kept)))) (cK (rF (aC rfl) rfl) h))) kP
   by_cases c:kept=w
   .rw[if_pos c];exact go (x:=(p,R,E)) (bS (aZ (aC rfl) (aC rfl) (by rw[cT,c,beq_self_eq_true])) (aT gp))
   .rw[if_neg c];have ce:bE .Eq (.int kept) (.int w)=qz (.bool Ff):=by rw[cT,beq_eq_false_iff_ne.mpr ()]
    by_cases g:w<kept
    .rw[if_pos g];exact go (aP (aZ (aC rfl) (aC rfl) ce) (bS (aZ (aC rfl) (aC rfl) (by rw[nN,dqT ()])) (aT (fL (aC rfl) rfl (aD (uB (aD bZ (aD (aC rfl) (aD gp aO))) rfl (eq_true (yAa rfl))) aO) (on (.cut,w,[p],))))))
    .rw[if_neg g];have cg:bE .Gt (.int kept) (.int w)=qz (.bool Ff):=by rw[nN,dqF ()]
     have ys:bE .Eq (.str a.s) (.str "sign")=qz (.bool (decide (a=.sign))):=aEH a .sign;have cS:∀ z:Wd,ev (d<$>2) (.ite (.cmp .Eq (.var 4) (.str "sign")) (.str "sign") (.str "wide")) [qz (dF P (Y*>yD)),(k:),(w:),qz (.d (yD (qz (a,kept)))),qz (.d (Sz a.s)),(kept:)] (sM st R Pl E T)=qz (.d (Sz z.s),sM st R Pl E T)->cl fns (d+3) 56 [dF P (Y*>yD),.d (Iz k),.d (Iz w)] (sM st R Pl E T)=oX st Pl T (jX R E ⟨z,w,[p]⟩):=λ z h=>go (aP (aZ (aC rfl) (aC rfl) ce) (aP (aZ (aC rfl) (aC rfl) cg) (aT (fL (aC rfl) rfl (aD (uB (aD h (aD (aC rfl) (aD gp aO))) rfl (eq_true (yAa rfl))) aO) (on (z,w,[p],))))))
     by_cases z:a=.sign
     .rw[if_pos z];exact cS .sign (aFe (aZ (aC rfl) bZ (by rw[ys,dqT z])) rfl)
     .rw[if_neg z];exact cS .wide (aFe (aZ (aC rfl) bZ (by rw[ys,dqF z])) rfl)
end
inductive CRun (t:Tg) (fe:FE) (env:bG):List D->List D->aE->aE->Prop
 |nil {S:aE}:CRun t fe env [] [] S S
 |cons {x v:D}{e1:bG}{ds vs:List D}{S S1 S2:aE}:t.put x env=qz e1->(∀ aH,fe e1 (S++[qz aH])=qz (.d v,S1++[qz aH]))->↑S1=↑S->CRun t fe env ds vs S1 S2->CRun t fe env (x::ds) (v::vs) S S2
def aWi{fe:FE}(h:CRun t fe env ds vs S S2)(aH:Li D)(hz:↑aH+↑ds<=qk):gT t lI fe ↑S env ds (S++[qz aH])=qz (S2++[qz (aH++vs)])/\↑S2=↑S:=by
 induction h generalizing aH with
 |nil=>simp[gT]
 |cons h1 h2 h3 h4 ih=>
   rename_i _ v _ _ _ S S1 _;rw[yAn] at hz;let(i1,i2):=ih (aH++[v]) (by rw[xAn,yDy];omega);rw[h3] at i1 i2;have ea:eZ (S1++[qz aH]) (.loc ↑S) (.d v)=qz (.d .none,S1++[qz (aH++[v])]):=by
    unfold eZ;rw[<- h3];simp only[yAh (yAc ↑S1),yBf,yDh];rw[if_pos (),aSW]
   refine(?_,i2,);simp only[gT,h1,lI,oB,if_true,h2,ea];rw[i1,yBc];rfl
def aBk{fi:FL}{fe:FE}(hi:fi env S=qz (ds,S1))(hz:↑ds<=1000)(h:CRun t fe (clr t.slots env) ds vs S1 S2):jC t fi lI fe env S=qz (vs,S2):=by let(i1,i2):=aWi h [] (by rw[zx,yBx];omega);unfold jC;rw[hi];simp_all
def cW(Y:Ys)(Pl:Ps):Li Rw->Es->Li (Nat×Nat)->Li Nat×Li Rw×Es
 |R,E,[]=>([],R,E)|R,E,q::l=>((cV Y Pl R E q.1 q.2).1::(cW Y Pl (cV Y Pl R E q.1 q.2).2.1 (cV Y Pl R E q.1 q.2).2.2 l).1,(cW Y Pl (cV Y Pl R E q.1 q.2).2.1 (cV Y Pl R E q.1 q.2).2.2 l).2)
def aJW(R:Li Rw)(E:Es)(r:Rw):(jX R E r).2.1.length+(jX R E r).2.2.length<=↑R+↑E+2:=by
 unfold jX;split<;>simp
 omega
def wN(Y:Ys)(Pl:Ps)(R:Li Rw)(E:Es)(k w:Nat):(cV Y Pl R E k w).2.1.length+(cV Y Pl R E k w).2.2.length<=↑R+↑E+2:=by
 unfold cV;split
 .exact aJW _ _ _
 .split
  .simp
  .split<;>exact aJW _ _ _
def aBn(Y:Ys)(Pl:Ps):∀ (l:Li (Nat×Nat)) (R:Li Rw) (E:Es),(cW Y Pl R E l).2.1.length+(cW Y Pl R E l).2.2.length<=↑R+↑E+2*↑l/\(cW Y Pl R E l).1.length=↑l
 |[],R,E=>(yAc _,rfl,)
 |q::l,R,E=>by
   have h:=wN Y Pl R E q.1 q.2;let(i1,i2):=aBn Y Pl l (cV Y Pl R E q.1 q.2).2.1 (cV Y Pl R E q.1 q.2).2.2;unfold cW;simp only[yAn];omega
section
variable {st:Option (List D)}{R:List Rw}{Pl:Ps}{E:Es}{T:aE}{Y:Ys}{P YY:D}
def xE{t:Tg}{fe:FE}(enc:Nat×Nat->D)(e:Nat×Nat->bG)(hput:∀ q,t.put (enc q) env=qz (e q)):∀ (l:Li (Nat×Nat)) (R:Li Rw) (E:Es),↑R+↑E+2*↑l<=1900->(∀ q∈l,∀ (R:Li Rw) (E:Es) (T:aE),↑R+↑E<=1900->fe (e q) (sM st R Pl E T)=oX st Pl T (cV Y Pl R E q.1 q.2))->CRun t fe env (l.map enc) ((cW Y Pl R E l).1.map nD) (sM st R Pl E T) (sM st (cW Y Pl R E l).2.1 Pl (cW Y Pl R E l).2.2 T)
 |[],R,E,_,_=>.nil
 |q::l,R,E,h1,h=>by
   rw[yAn] at h1;have ln:=wN Y Pl R E q.1 q.2;exact .cons (S1:=sM st (cV Y Pl R E q.1 q.2).2.1 Pl (cV Y Pl R E q.1 q.2).2.2 T) (hput q) (λ aH=>h q xAc R E (T++[qz aH]) ()) (by simp) (xE enc e hput l _ _ () λ z hz=>h z (xAf _ hz))
def qK(Y:Ys)(Pl:Ps)(R:Li Rw)(E:Es)(l:Li (Nat×Nat))(f:Li Nat->Rw):M3:=((cW Y Pl R E l).2.1.length,(cW Y Pl R E l).2.1++[f (cW Y Pl R E l).1],(cW Y Pl R E l).2.2)
def uN(Y:Ys)(Pl:Ps)(R:Li Rw)(E:Es)(r:Rw)(a s w:Nat):M3:=
 let v:=min r.w (w+s);let q:=cV Y Pl R E a v
 if w<v then jX (q.2.1++[(r.wd,v,[q.1,s],)]) q.2.2 (.cut,w,[q.2.1.length],) else (q.2.1.length,q.2.1++[(r.wd,v,[q.1,s],)],q.2.2)
def aNF(a b:Nat):lL [.int (a:_),.int (b:_)]=qz (.int ((min a b:Nat):Int)):=by show qz (Iz (if (b:_)<(a:_) then (b:_) else (a:_)))=_;congr 2;split<;>omega
def aQ9(d:Nat)(wd:Wd)(w0:Nat)(s w:Nat)(ha:fQ Y Pl a)(hz:↑R+↑E<=1800):cl fns (d+4) 57 [dF P (Y*>yD),.d (Rw.d (wd,w0,[a,s],)),.d (Iz w)] (sM st R Pl E T)=oX st Pl T (uN Y Pl R E (wd,w0,[a,s],) a s w):=by
 have mn:=aNF w0 (w+s);unfold uN;dsimp only;generalize min w0 (w+s)=v at mn ⊢;have l:=wN Y Pl R E a v;have f1:=@pF st _ _ _ T _ P _ d v ha (show ↑R+↑E<=1900 by omega);generalize cV Y Pl R E a v=q at l f1 ⊢;let(n,R1,E1):=q;dsimp only at l f1 ⊢;have m1:=@qX st _ Pl _ T P (Y*>yD) (d+2) Ff (wd,v,[n,s],) (show ↑R1+↑E1<=1900 by omega);have o1:=@aDQ st (R1++[((wd,v,[n,s],):Rw)]) Pl E1 T P (Y*>yD) (d+1) (.cut,w,[↑R1],) (by rw[xAn,yDy];omega);have ad:cD .Add (.int w) (.int s)=qz (.int (w+s:_)):=by rw[iL];rfl
 have go:∀ {x:M3},xs (d<$>3) (bH (bH (bH aHu))) [qz (dF P (Y*>yD)),qz (.d (Rw.d ⟨wd,w0,[a,s]⟩)),(w:),(v:),(n:),(↑R1:)] (sM st (R1++[⟨wd,v,[n,s]⟩]) Pl E1 T)=qz (.rt (.d (Iz (x.1:Nat))),sM st x.2.1 Pl x.2.2 T)->cl fns (d+4) 57 [dF P (Y*>yD),.d (Rw.d ⟨wd,w0,[a,s]⟩),.d (Iz w)] (sM st R Pl E T)=oX st Pl T x:=λ {x} h=>cH rfl rfl rfl (bK (cQ (aD (bM (aC rfl) aJ rfl rfl) (aD (bP (aC rfl) (bM (aC rfl) aJ rfl rfl) ad) aO)) (cN dJ (cN dJ cU)) mn) rfl (bK (fL (aC rfl) rfl (aD (bM (aC rfl) aJ rfl rfl) (aD (aC rfl) aO)) f1) rfl (bK (fL (aC rfl) rfl (aD (dO (aD (bM (aC rfl) aJ rfl rfl) (aD (aC rfl) (aD (aC rfl) (aD (bM (aC rfl) aJ rfl rfl) aO)))) rfl (yAa rfl)) aO) m1) rfl h))) kP
 by_cases c:w<v
 .rw[if_pos c];exact go (bS (aZ (aC rfl) (aC rfl) (by rw[nN,dqT ()])) (aT (fL (aC rfl) rfl (aD (uB (aD bZ (aD (aC rfl) (aD (aC rfl) aO))) rfl (eq_true (yAa rfl))) aO) o1)))
 .rw[if_neg c];exact go (x:=(↑R1,R1++[(wd,v,[n,s],)],E1)) (aP (aZ (aC rfl) (aC rfl) (by rw[nN,dqF ()])) (aT (aC rfl)))
def vB(Y:Ys)(Pl:Ps)(R:Li Rw)(E:Es)(wd:Wd)(a old w:Nat):M3:=
 if w<=old then cV Y Pl R E a w else jX (cV Y Pl R E a old).2.1 (cV Y Pl R E a old).2.2 (wd,w,[(cV Y Pl R E a old).1],)
def aRH(d:Nat)(o:D)(wd:Wd)(w0:Nat)(w:Nat)(hra:rs[a]?=qz ra)(ha:fQ Y Pl a)(hz:↑R+↑E<=1800):cl fns (d+4) 58 [dF (rs<*o) (Y*>yD),.d (Rw.d (wd,w0,[a],)),.d (Iz w)] (sM st R Pl E T)=oX st Pl T (vB Y Pl R E wd a ra.w w):=by
 have wo:=λ S=>xH (d+2) a hra o S
 generalize (Tz [(rs*>Rw.d),o])=P at wo ⊢;have l:=wN Y Pl R E a ra.w;have f1:=λ v=>@pF st _ _ _ T _ P _ d v ha (show ↑R+↑E<=1900 by omega)
 unfold vB;have ow:ev (d<$>3) (.call 10 (.cons (.fld (.var 0) "program") (.cons (.ix (.var 1) (.int 2)) .nil))) [qz (dF P (Y*>yD)),qz (.d (Rw.d (wd,w0,[a],))),(w:),qj] (sM st R Pl E T)=qz (.d (Iz ra.w),sM st R Pl E T):=aV (aD (rC (aC rfl) rfl) (aD (bM (aC rfl) aJ rfl rfl) aO)) (wo _);by_cases c:w<=ra.w
 .rw[if_pos c];exact cH rfl rfl rfl (bK ow rfl (bS (aZ (aC rfl) (aC rfl) (by rw[tR,dqT ()])) (aT (fL (aC rfl) rfl (aD (bM (aC rfl) aJ rfl rfl) (aD (aC rfl) aO)) (f1 w))))) kP
 .rw[if_neg c];have f2:=f1 ra.w;generalize cV Y Pl R E a ra.w=q at l f2 ⊢;let(n,R1,E1):=q;dsimp only at l f2 ⊢;exact cH rfl rfl rfl (bK ow rfl (aP (aZ (aC rfl) (aC rfl) (by rw[tR,dqF ()])) (aT (fL (aC rfl) rfl (aD (uB (aD (bM (aC rfl) aJ rfl rfl) (aD (aC rfl) (aD (fL (aC rfl) rfl (aD (bM (aC rfl) aJ rfl rfl) (aD (aC rfl) aO)) f2) aO))) rfl (eq_true (yAa rfl))) aO) (aDQ (d+1) (wd,w,[n],) ()))))) kP
end
def lX(a b:Yw):Nat:=(if a=.sign then 1 else 0)+(if b=.sign then 1 else 0)
def iI(wd:Wd)(a b:Yw×Nat)(old:Nat):Nat:=if lX a.1 b.1=1 then old else if lX a.1 b.1=0/\wd=.under then min old (max a.2 b.2+1) else max a.2 b.2
def aYk(a b:Yw):zF [.str a.s,.str b.s] (.str "sign")=qz (.int (lX a b:Nat)):=by cases a<;>cases b<;>kernel_rfl
def aS9(wd:Wd)(h:gJ wd=Tt):bE .Eq (.str wd.s) (.str "under")=qz (.bool (decide (wd=.under))):=by cases wd<;>first|kernel_rfl|(exfalso;revert h;decide)
def bBB(a b:Nat):qA [.int (a:_),.int (b:_)]=qz (.int ((max a b:Nat):Int)):=by show qz (Iz (if (b:_)>(a:_) then (b:_) else (a:_)))=_;congr 2;split<;>omega
def aQf(d:Nat)(wd:Wd)(hw:gJ wd=Tt)(a b:Yw×Nat)(old:Nat)(S:aE):cl fns (d+1) 59 [.d (Sz wd.s),.d (yD (qz a)),.d (yD (qz b)),.d (Iz old)] S=qz (.d (Iz (iI wd a b old:Nat)),S):=by
 let(a,ka):=a;let(b,kb):=b;have mx:=bBB ka kb;have cn:=aYk a b;have cu:=aS9 wd hw;unfold iI;dsimp only;generalize max ka kb=g at mx ⊢;generalize lX a b=n at cn ⊢;have go:∀ {v:Nat},xs (aF fns d) (bH (bH aGS)) [qz (.d (Sz wd.s)),qz (.d (yD (qz (a,ka)))),qz (.d (yD (qz (b,kb)))),(old:),(g:),(n:)] S=qz (.rt (.d (Iz v)),S)->cl fns (d+1) 59 [.d (Sz wd.s),.d (yD (qz (a,ka))),.d (yD (qz (b,kb))),.d (Iz old)] S=qz (.d (Iz v),S):=λ {v} h=>cH rfl rfl rfl (bK (cQ (aD (bM (aC rfl) aJ rfl rfl) (aD (bM (aC rfl) aJ rfl rfl) aO)) (cN dJ (cN dJ cU)) mx) rfl (bK (aMj (aD (bM (aC rfl) aJ rfl rfl) (aD (bM (aC rfl) aJ rfl rfl) aO)) rfl (eq_true (yAa rfl)) bZ rfl cn) rfl h)) yAf
 have ce:∀ i:Nat,bE .Eq (.int n) (.int i)=qz (.bool (decide (n=i))):=λ i=>by
  rw[cT];congr 2;rw[yCe,beq_iff_eq,decide_eq_true_eq];omega
 have c1:=ce 1;have c0:=ce 0;by_cases c:n=1
 .rw[if_pos c];rw[dqT c] at c1;exact go (bS (aZ (aC rfl) aJ c1) (aT (aC rfl)))
 .rw[if_neg c];rw[dqF c] at c1;by_cases q:n=0/\wd=.under
  .rw[if_pos q];rw[dqT q.1] at c0;rw[dqT q.2] at cu;exact go (aP (aZ (aC rfl) aJ c1) (bS (nK (aZ (aC rfl) aJ c0) (aZ (aC rfl) bZ cu)) (aT (cQ (aD (aC rfl) (aD (bP (aC rfl) aJ (show cD .Add (.int g) (.int 1)=qz (.int (g+1:_)) by rw[iL];rfl)) aO)) (cN dJ (cN dJ cU)) (aNF old (g+1))))))
  .rw[if_neg q];refine go (aP (aZ (aC rfl) aJ c1) (aP (S1:=S) ?_ (aT (aC rfl))));by_cases z:n=0
   .rw[dqT z] at c0;rw[dqF λ u=>q (z,u,)] at cu;exact nK (aZ (aC rfl) aJ c0) (aZ (aC rfl) bZ cu)
   .rw[dqF z] at c0;exact nK (aZ (aC rfl) aJ c0) rfl
section
variable {st:Option (List D)}{R:List Rw}{Pl:Ps}{E:Es}{T:aE}{Y:Ys}{P YY:D}
def aCs(Y:Ys)(Pl:Ps)(R:Li Rw)(E:Es)(wd:Wd)(a b v:Nat):M3:=qK Y Pl R E [(a,v),(b,v)] λ x=>(wd,1,x,)
def aPt(d:Nat)(o:D)(wd:Wd)(hw:gJ wd=Tt)(hcn:aW wd=2)(w0:Nat)(hra:rs[a]?=qz ra)(ha:fQ Y Pl a)(hb:fQ Y Pl b)(hya:Y[a]?=qz (qz ya))(hyb:Y[b]?=qz (qz yb))(hz:↑R+↑E<=1800):cl fns (d+4) 60 [dF (rs<*o) (Y*>yD),.d (Rw.d (wd,w0,[a,b],))] (sM st R Pl E T)=oX st Pl T (aCs Y Pl R E wd a b (iI wd ya yb ra.w)):=by
 have op:∀ S,cl fns (d+3) 7 [.d (Rw.d ⟨wd,w0,[a,b]⟩)] S=qz (.d (Tz [Iz a,Iz b]),S):=λ S=>by
  have:=pC (d+2) (wd,w0,[a,b],) S;rw[hcn] at this;exact this
 have wo:=λ S=>xH (d+2) a hra o S
 generalize (Tz [(rs*>Rw.d),o])=P at wo ⊢;have ia:aU (Y*>yD) (.int a)=qz (yD (qz ya)):=iK (by rw[yAe,hya];rfl);have ib:aU (Y*>yD) (.int b)=qz (yD (qz yb)):=iK (by rw[yAe,hyb];rfl);have cw:=λ S=>aQf (d+2) wd hw ya yb ra.w S
 generalize iI wd ya yb ra.w=v at cw ⊢;have l:=aBn Y Pl [(a,v),(b,v)] R E;have hc:lv (d<$>3) aGC [qz (dF P (Y*>yD)),qz (.d (Rw.d (wd,w0,[a,b],))),(ra.w:),(v:),qj,(a:),(b:),qj] (sM st R Pl E T)=qz ((cW Y Pl R E [(a,v),(b,v)]).1.map nD,sM st (cW Y Pl R E [(a,v),(b,v)]).2.1 Pl (cW Y Pl R E [(a,v),(b,v)]).2.2 T):=by
  refine @aBk _ _ ([(a,v),(b,v)].map λ q=>nD q.1) _ (.one 7) _ _ (lv (d<$>3) (.it (.tup (.cons (.var 5) (.cons (.var 6) .nil))))) (ev (d<$>3) (.mth "fetch" 56 (.var 0) (.cons (.var 7) (.cons (.var 3) .nil)))) rfl (yAa rfl) (xE (λ q=>nD q.1) _ (λ q=>rfl) _ R E (by simp;omega) λ q hq R E T h1=>?_);have hk:fQ Y Pl q.1/\q.2=v:=by
   grind
  let(k,u):=q;let(hk,rfl):=hk;exact fL rfl rfl rfl (pF d u hk h1)
 have ct:cD .Add (.tuple [.str wd.s,.int 1]) (.tuple ((cW Y Pl R E [(a,v),(b,v)]).1.map nD))=qz (Rw.d (wd,1,(cW Y Pl R E [(a,v),(b,v)]).1,)):=zU _ _ (by rw[yAd,l.2];exact yAa rfl);exact cH rfl rfl rfl (cK (rF (aV (aD (aC rfl) aO) (op _)) rfl) (bK (aV (aD (rC (aC rfl) rfl) (aD (aC rfl) aO)) (wo _)) rfl (bK (aV (aD (bM (aC rfl) aJ rfl rfl) (aD (bM (rC (aC rfl) rfl) (aC rfl) rfl ia) (aD (bM (rC (aC rfl) rfl) (aC rfl) rfl ib) (aD (aC rfl) aO)))) (cw _)) rfl (bK (cQ (aD (fA hc) aO) (cN dJ cU) pO) rfl (aT (fL (aC rfl) rfl (aD (bP (dO (aD (bM (aC rfl) aJ rfl rfl) (aD aJ aO)) rfl (yAa rfl)) (aC rfl) ct) aO) (qX (d+2) Ff (wd,1,(cW Y Pl R E [(a,v),(b,v)]).1,) (by have:=l.1;simp at this;omega)))))))) kP
def wkM(Y:Ys)(Pl:Ps)(R:Li Rw)(E:Es)(r:Rw)(w:Nat):M3:=qK Y Pl R E ((bT r).map λ k=>(k,w)) λ x=>(r.wd,w,x++r.args.drop (aW r.wd),)
def pkM(Y:Ys)(Pl:Ps)(R:Li Rw)(E:Es)(c a b w:Nat):M3:=qK Y Pl R E [(c,1),(a,w),(b,w)] λ x=>(.pick,w,x,)
def aR3(d:Nat)(w0:Nat)(w:Nat)(hc:fQ Y Pl c)(ha:fQ Y Pl a)(hb:fQ Y Pl b)(hz:↑R+↑E<=1800):cl fns (d+4) 62 [dF P (Y*>yD),.d (Rw.d (.pick,w0,[c,a,b],)),.d (Iz w)] (sM st R Pl E T)=oX st Pl T (pkM Y Pl R E c a b w):=by
 have f1:=@pF st _ _ _ T _ P _ d 1 hc (show ↑R+↑E<=1900 by omega);have l1:=wN Y Pl R E c 1;have e:pkM Y Pl R E c a b w=((cW Y Pl (cV Y Pl R E c 1).2.1 (cV Y Pl R E c 1).2.2 [(a,w),(b,w)]).2.1.length,(cW Y Pl (cV Y Pl R E c 1).2.1 (cV Y Pl R E c 1).2.2 [(a,w),(b,w)]).2.1++[(.pick,w,(cV Y Pl R E c 1).1::(cW Y Pl (cV Y Pl R E c 1).2.1 (cV Y Pl R E c 1).2.2 [(a,w),(b,w)]).1,)],(cW Y Pl (cV Y Pl R E c 1).2.1 (cV Y Pl R E c 1).2.2 [(a,w),(b,w)]).2.2):=rfl;rw[e];generalize cV Y Pl R E c 1=q at f1 l1 ⊢;let(n,R1,E1):=q;dsimp only at f1 l1 ⊢;have l:=aBn Y Pl [(a,w),(b,w)] R1 E1;have hC:lv (d<$>3) aGZ [qz (dF P (Y*>yD)),qz (.d (Rw.d (.pick,w0,[c,a,b],))),(w:),(n:),qj,qj] (sM st R1 Pl E1 T)=qz ((cW Y Pl R1 E1 [(a,w),(b,w)]).1.map nD,sM st (cW Y Pl R1 E1 [(a,w),(b,w)]).2.1 Pl (cW Y Pl R1 E1 [(a,w),(b,w)]).2.2 T):=by
  refine @aBk _ _ ([(a,w),(b,w)].map λ q=>nD q.1) _ (.one 5) _ _ (lv (d<$>3) (.it (.sl (.var 1) (.cons (.int 3) .nil) .no))) (ev (d<$>3) (.mth "fetch" 56 (.var 0) (.cons (.var 5) (.cons (.var 2) .nil)))) rfl (yAa rfl) (xE (λ q=>nD q.1) _ (λ q=>rfl) _ R1 E1 (by simp;omega) λ q hq R E T h1=>?_);have hk:fQ Y Pl q.1/\q.2=w:=by
   grind
  let(k,u):=q;let(hk,rfl):=hk;exact fL rfl rfl rfl (pF d u hk h1)
 have ct:cD .Add (.tuple [.str "pick",.int w,.int n]) (.tuple ((cW Y Pl R1 E1 [(a,w),(b,w)]).1.map nD))=qz (Rw.d (.pick,w,n::(cW Y Pl R1 E1 [(a,w),(b,w)]).1,)):=zU _ _ (by rw[yAd,l.2];exact yAa rfl);exact cH rfl rfl rfl (bK (fL (aC rfl) rfl (aD (bM (aC rfl) aJ rfl rfl) (aD aJ aO)) f1) rfl (bK (cQ (aD (fA hC) aO) (cN dJ cU) pO) rfl (aT (fL (aC rfl) rfl (aD (bP (dO (aD bZ (aD (aC rfl) (aD (aC rfl) aO))) rfl (yAa rfl)) (aC rfl) ct) aO) (qX (d+2) Ff (.pick,w,n::(cW Y Pl R1 E1 [(a,w),(b,w)]).1,) (by have:=l.1;simp at this;omega)))))) kP
end
def aYU(a:Li D)(k:Nat):gK a qj (qz (k:Nat))=a.take k:=by
 unfold gK;have h0:HT.sIx ↑a 0 qj=0:=rfl;rw[h0];have h1:HT.sIx ↑a ↑a (qz (k:Int))=min k ↑a:=by
  unfold HT.sIx;simp only[];split<;>omega
 rw[h1];simp_all
def aUj(d:Nat)(r:Rw)(ns:Li Nat)(h:↑ns<=3)(ha:↑r.args<=10)(S:aE):cl fns (d+1) 8 [.d r.d,.d (ns*>nD)] S=qz (.d (Rw.d (r.wd,r.w,ns++r.args.drop ↑ns,)),S):=by
 have lP:lT [(ns*>nD)]=qz (.int ↑ns):=by
  show qz (Iz ((↑(ns.map nD):Nat):Int))=_;rw[yAd]
 have ad:(2:Int)+(↑ns:_)=(2+↑ns:_):=();have rd:r.d=.tuple (.str r.wd.s::nD r.w::r.args.map nD):=rfl;have h1:gK (.str r.wd.s::nD r.w::r.args.map nD) qj (qz 2)=[.str r.wd.s,nD r.w]:=(aYU _ 2).trans rfl;have h2:gK (.str r.wd.s::nD r.w::r.args.map nD) (qz (2+↑ns:_)) qj=(r.args.drop ↑ns).map nD:=by
  rw[aI0,yDk 2,List.map_drop];rfl
 have h3:cD .Add (.tuple [.str r.wd.s,nD r.w]) (ns*>nD)=qz (.tuple ([.str r.wd.s,nD r.w]++ns.map nD)):=zU _ _ (by simp;omega);have h4:cD .Add (.tuple ([.str r.wd.s,nD r.w]++ns.map nD)) (.tuple ((r.args.drop ↑ns).map nD))=qz (Rw.d (r.wd,r.w,ns++r.args.drop ↑ns,)):=by
  rw[zU _ _ (by simp;omega)];show _=qz (Tz (.str r.wd.s::nD r.w::(ns++r.args.drop ↑ns).map nD));rw[yAy];rfl
 rw[bX rfl d _ S rfl];rw[rd];erw[11,aGR,sI,lP,iL,ad,h1,h2,h3,h4]
section
variable {st:Option (List D)}{R:List Rw}{Pl:Ps}{E:Es}{T:aE}{Y:Ys}{P YY:D}
def aSo(d:Nat)(r:Rw)(w:Nat)(hc:↑(bT r)=aW r.wd)(hc3:aW r.wd<=3)(hl:↑r.args<=10)(ho:∀ a∈bT r,fQ Y Pl a)(hz:↑R+↑E<=1800):cl fns (d+4) 61 [dF P (Y*>yD),.d r.d,.d (Iz w)] (sM st R Pl E T)=oX st Pl T (wkM Y Pl R E r w):=by
 have op:∀ S,cl fns (d+3) 7 [.d r.d] S=qz (.d (Tz ((bT r).map nD)),S):=λ S=>pC (d+2) r S
 unfold wkM qK;have lm:↑((bT r).map λ k=>(k,w))=aW r.wd:=by rw[yAd];exact hc
 have l:=aBn Y Pl ((bT r).map λ k=>(k,w)) R E;have h3:cD .Add (.tuple [.str r.wd.s,.int w]) (.tuple (r.args.map nD))=qz (Rw.d (r.wd,w,r.args,)):=zU _ _ (by rw[yAd];show 2+_<=_;omega);have hC:lv (d<$>3) aGX [qz (dF P (Y*>yD)),qz (.d r.d),(w:),qj,qj] (sM st R Pl E T)=qz ((cW Y Pl R E ((bT r).map λ k=>(k,w))).1.map nD,sM st (cW Y Pl R E ((bT r).map λ k=>(k,w))).2.1 Pl (cW Y Pl R E ((bT r).map λ k=>(k,w))).2.2 T):=by
  refine @aBk _ _ (((bT r).map λ k=>(k,w)).map λ q=>nD q.1) _ (.one 4) _ _ (lv (d<$>3) (.it (.call 7 (.cons (.var 1) .nil)))) (ev (d<$>3) (.mth "fetch" 56 (.var 0) (.cons (.var 4) (.cons (.var 2) .nil)))) ?_ (by rw[yAd];omega) (xE (λ q=>nD q.1) _ (λ q=>rfl) _ R E () λ q hq R E T h1=>?_)
  .rw[yBi];erw[0,op,gY]
  .let(k,hk,rfl):=List.mem_map.mp hq;exact fL rfl rfl rfl (pF d w (ho k hk) h1)
 generalize cW Y Pl R E ((bT r).map λ k=>(k,w))=q at l hC ⊢;let(ns,R1,E1):=q;dsimp only at l hC ⊢;have wp:=aUj (d+2) (r.wd,w,r.args,) ns () hl (sM st R1 Pl E1 T);rw[show ↑ns=aW r.wd by omega] at wp;exact cH rfl rfl rfl (cK (aE1 hC rfl) (aT (fL (aC rfl) rfl (aD (aV (aD (bP (dO (aD (bM (aC rfl) aJ rfl (iO r)) (aD (aC rfl) aO)) rfl (yAa rfl)) (aCb (aC rfl) (aBF aJ) aCc rfl (congrArg (qz ∘ Tz) ((aI0 _ 2).trans rfl))) h3) (aD (cQ (aD (aC rfl) aO) (cN dJ cU) pO) aO)) wp) aO) (qX (d+2) Ff (r.wd,w,ns++r.args.drop (aW r.wd),) ())))) kP
end
def jJ(h:bE op a b=qz (.bool x))(e:x=Tt):bE op a b=qz (.bool Tt):=by rw[h,e]
def fF(h:bE op a b=qz (.bool x))(e:x=Ff):bE op a b=qz (.bool Ff):=by rw[h,e]
def cq1(wd:Wd):bE .Eq (.str wd.s) (.str "in")=qz (.bool (wd==.in)):=by cases wd<;>kernel_rfl
def vI(wd:Wd):bE .Eq (.str wd.s) (.str "num")=qz (.bool (wd==.num)):=by cases wd<;>kernel_rfl
def cq3(wd:Wd):bE .In (.str wd.s) (.tuple [.str "right",.str "slide"])=qz (.bool ((wd==.right||wd==.slide))):=by cases wd<;>kernel_rfl
def sG(wd:Wd):bE .Eq (.str wd.s) (.str "cut")=qz (.bool (wd==.cut)):=by cases wd<;>kernel_rfl
def cq5(wd:Wd):bE .In (.str wd.s) (aAI*>Tv.d)=qz (.bool ((wd==.wide||wd==.sign))):=by cases wd<;>kernel_rfl
def qG(wd:Wd):bE .In (.str wd.s) (nH*>Tv.d)=qz (.bool (gJ wd)):=by cases wd<;>kernel_rfl
def vA(wd:Wd):bE .Eq (.str wd.s) (.str "pick")=qz (.bool (wd==.pick)):=by cases wd<;>kernel_rfl
def a0(r:Rw)(i:Nat):Nat:=r.args.getD i 0
def yo(Y:Ys)(a:Nat):Yw×Nat:=(Y.getD a qj).getD (.cut,0)
def fP(W:Li Nat)(Y:Ys)(Pl:Ps)(R:Li Rw)(E:Es)(r:Rw)(w:Nat):M3:=
 if (r.wd==.in)=Tt then (↑R,R++[r],E) else
 if (r.wd==.num)=Tt then (↑R,R++[(.num,w,[a0 r 0%2^w],)],E) else
 if (r.wd==.right||r.wd==.slide)=Tt then uN Y Pl R E r (a0 r 0) (a0 r 1) w else
 if (r.wd==.cut)=Tt then cV Y Pl R E (a0 r 0) w else
 if (r.wd==.wide||r.wd==.sign)=Tt then vB Y Pl R E r.wd (a0 r 0) (g0 W (a0 r 0)) w else
 if gJ r.wd=Tt then aCs Y Pl R E r.wd (a0 r 0) (a0 r 1) (iI r.wd (yo Y (a0 r 0)) (yo Y (a0 r 1)) (g0 W (a0 r 0))) else
 if (r.wd==.pick)=Tt then pkM Y Pl R E (a0 r 0) (a0 r 1) (a0 r 2) w else wkM Y Pl R E r w
def Cok(Y:Ys)(r:Rw):Prop:=gJ r.wd=Tt->∀ a∈bT r,∃ y,Y[a]?=qz (qz y)
section
variable {st:Option (List D)}{R:List Rw}{Pl:Ps}{E:Es}{T:aE}{Y:Ys}
def aTv(d:Nat)(f1:RwOk r ws)(o:D)(w:Nat)(hw:w<=64)(hr:∀ a∈bT r,∃ ra,rs[a]?=qz ra)(ho:∀ a∈bT r,fQ Y Pl a)(hc:Cok Y r)(hz:↑R+↑E<=1800):cl fns (d+5) 63 [dF (rs<*o) (Y*>yD),.d (Rw.d r),.d (Iz w)] (sM st R Pl E T)=oX st Pl T (fP (~~~rs) Y Pl R E r w):=by
 have wo:∀ {a:Nat}{ra:Rw},rs[a]?=qz ra->fQ Y Pl a->∀ (wd:Wd) (w0:Nat),cl fns (d+4) 58 [dF (rs<*o) (Y*>yD),.d (Rw.d ⟨wd,w0,[a]⟩),.d (Iz w)] (sM st R Pl E T)=oX st Pl T (vB Y Pl R E wd a (g0 (~~~rs) a) w):=λ hra ha wd w0=>by
  rw[jG hra];exact aRH d o wd w0 w hra ha hz
 have co:∀ {a b:Nat}{ra:Rw}{ya yb:Yw×Nat},rs[a]?=qz ra->fQ Y Pl a->fQ Y Pl b->Y[a]?=qz (qz ya)->Y[b]?=qz (qz yb)->∀ (wd:Wd) (w0:Nat),gJ wd=Tt->aW wd=2->cl fns (d+4) 60 [dF (rs<*o) (Y*>yD),.d (Rw.d ⟨wd,w0,[a,b]⟩)] (sM st R Pl E T)=oX st Pl T (aCs Y Pl R E wd a b (iI wd (yo Y a) (yo Y b) (g0 (~~~rs) a))):=λ {a b ra ya yb} hra ha hb hya hyb wd w0 hcw hcn=>by
  rw[jG hra,show yo Y a=ya by unfold yo;rw[xAg,hya];rfl,show yo Y b=yb by unfold yo;rw[xAg,hyb];rfl];exact aPt d o wd hcw hcn w0 hra ha hb hya hyb hz
 generalize (Tz [(rs*>Rw.d),o])=P at wo co ⊢;have go:∀ {r:Rw}{x:M3},xs (d<$>4) (bH pE) [qz (dF P (Y*>yD)),qz (.d r.d),(w:),qz (.d (Sz r.wd.s))] (sM st R Pl E T)=qz (.rt (.d (Iz (x.1:Nat))),sM st x.2.1 Pl x.2.2 T)->cl fns (d+5) 63 [dF P (Y*>yD),.d r.d,.d (Iz w)] (sM st R Pl E T)=oX st Pl T x:=λ {r x} h=>cH rfl rfl rfl (bK (bM (aC rfl) aJ rfl (iO r)) rfl h) kP
 have n2:∀ {r:Rw}{z:Oz (Fl×aE)},(r.wd==.in)=Ff->xs (d<$>4) (bH (bH pE)) [qz (dF P (Y*>yD)),qz (.d r.d),(w:),qz (.d (Sz r.wd.s))] (sM st R Pl E T)=z->xs (d<$>4) (bH pE) [qz (dF P (Y*>yD)),qz (.d r.d),(w:),qz (.d (Sz r.wd.s))] (sM st R Pl E T)=z:=λ h k=>aP (aZ (aC rfl) bZ (fF (cq1 _) h)) k
 have n4:∀ {r:Rw}{z:Oz (Fl×aE)},(r.wd==.in)=Ff->(r.wd==.num)=Ff->(r.wd==.right||r.wd==.slide)=false->xs (d<$>4) (bH (bH (bH (bH pE)))) [qz (dF P (Y*>yD)),qz (.d r.d),(w:),qz (.d (Sz r.wd.s))] (sM st R Pl E T)=z->xs (d<$>4) (bH pE) [qz (dF P (Y*>yD)),qz (.d r.d),(w:),qz (.d (Sz r.wd.s))] (sM st R Pl E T)=z:=λ h h2 h3 k=>n2 h (aP (aZ (aC rfl) bZ (fF (vI _) h2)) (aP (aZ (aC rfl) rfl (fF (cq3 _) h3)) k))
 have n6:∀ {r:Rw}{z:Oz (Fl×aE)},(r.wd==.in)=Ff->(r.wd==.num)=Ff->(r.wd==.right||r.wd==.slide)=Ff->(r.wd==.cut)=Ff->(r.wd==.wide||r.wd==.sign)=false->xs (d<$>4) (bH (bH (bH (bH (bH (bH pE)))))) [qz (dF P (Y*>yD)),qz (.d r.d),(w:),qz (.d (Sz r.wd.s))] (sM st R Pl E T)=z->xs (d<$>4) (bH pE) [qz (dF P (Y*>yD)),qz (.d r.d),(w:),qz (.d (Sz r.wd.s))] (sM st R Pl E T)=z:=λ h h2 h3 h4 h5 k=>n4 h h2 h3 (aP (aZ (aC rfl) bZ (fF (sG _) h4)) (aP (aZ (aC rfl) rfl (fF (cq5 _) h5)) k))
 have wk:∀ r:Rw,(r.wd==.in)=Ff->(r.wd==.num)=Ff->(r.wd==.right||r.wd==.slide)=Ff->(r.wd==.cut)=Ff->(r.wd==.wide||r.wd==.sign)=false->gJ r.wd=false->(r.wd==.pick)=false->↑(bT r)=aW r.wd->aW r.wd<=3->↑r.args<=10->(∀ a∈bT r,fQ Y Pl a)->cl fns (d+5) 63 [dF P (Y*>yD),.d r.d,.d (Iz w)] (sM st R Pl E T)=oX st Pl T (wkM Y Pl R E r w):=λ r h1 h2 h3 h4 h5 h6 h7 i1 i2 i3 ho=>go (n6 h1 h2 h3 h4 h5 (aP (aZ (aC rfl) rfl (fF (qG _) h6)) (aP (aZ (aC rfl) bZ (fF (vA _) h7)) (aT (aV (aD (aC rfl) (aD (aC rfl) (aD (aC rfl) aO))) (aSo d r w i1 i2 i3 ho hz))))))
 have two:∀ wd w0 a b,(∀ x∈bT ⟨wd,w0,[a,b]⟩,fQ Y Pl x)->bT ⟨wd,w0,[a,b]⟩=[a,b]->fQ Y Pl a/\fQ Y Pl b:=λ wd w0 a b h e=>by
  rw[e] at h;exact(h a xAc,h b (by simp),)
 cases f1 with
 |inp h1 h2=>exact go (bS (aZ (aC rfl) bZ (jJ (cq1 _) rfl)) (aT (fL (aC rfl) rfl (aD (aC rfl) aO) (qX (d+3) Ff (.in,_,[],) ()))))
 |num h1 h2 hn=>
   rename_i w0 n;exact go (n2 rfl (bS (aZ (aC rfl) bZ (jJ (vI _) rfl)) (aT (fL (aC rfl) rfl (aD (dO (aD bZ (aD (aC rfl) (aD (bP (bM (aC rfl) aJ rfl rfl) (aV (aD (aC rfl) aO) (dI (d+3) w () _)) (by rw[nD,eE,yCu];rfl)) aO))) rfl (yAa rfl)) aO) (qX (d+3) Ff (.num,w,[n%2^w],) ())))))
 |nt h1 h2=>exact wk _ rfl rfl rfl rfl rfl rfl rfl rfl (yAa rfl) (yAa rfl) ho
 |sh h1 h2 aN hk=>
   have sh:∀ {wd:Wd}{w0 a s:Nat},(wd==.right||wd==.slide)=true->(wd==.in)=false->(wd==.num)=false->fQ Y Pl a->cl fns (d+5) 63 [dF P (Y*>yD),.d (Rw.d ⟨wd,w0,[a,s]⟩),.d (Iz w)] (sM st R Pl E T)=oX st Pl T (uN Y Pl R E ⟨wd,w0,[a,s]⟩ a s w):=λ h h1 h2 ha=>go (n2 h1 (aP (aZ (aC rfl) bZ (fF (vI _) h2)) (bS (aZ (aC rfl) rfl (jJ (cq3 _) h)) (aT (aV (aD (aC rfl) (aD (aC rfl) (aD (aC rfl) aO))) (aQ9 d _ _ _ w ha hz))))))
   erw[50,aN]
   .exact wk _ rfl rfl rfl rfl rfl rfl rfl rfl (yAa rfl) (yAa rfl) ho
   .exact sh rfl rfl rfl (ho _ xAc)
   .exact sh rfl rfl rfl (ho _ xAc)
 |cut h1 hv h2=>exact go (n4 rfl rfl rfl (bS (aZ (aC rfl) bZ (jJ (sG _) rfl)) (aT (fL (aC rfl) rfl (aD (bM (aC rfl) aJ rfl rfl) (aD (aC rfl) aO)) (pF (d+1) w (ho _ xAc) ())))))
 |wide h1 hv h2=>
   let(ra,hra):=hr _ xAc;exact go (n4 rfl rfl rfl (aP (aZ (aC rfl) bZ (fF (sG _) rfl)) (bS (aZ (aC rfl) rfl (jJ (cq5 _) rfl)) (aT (aV (aD (aC rfl) (aD (aC rfl) (aD (aC rfl) aO))) (wo hra (ho _ xAc) _ _))))))
 |sign h1 hv h2=>
   let(ra,hra):=hr _ xAc;exact go (n4 rfl rfl rfl (aP (aZ (aC rfl) bZ (fF (sG _) rfl)) (bS (aZ (aC rfl) rfl (jJ (cq5 _) rfl)) (aT (aV (aD (aC rfl) (aD (aC rfl) (aD (aC rfl) aO))) (wo hra (ho _ xAc) _ _))))))
 |bw h1 h2 aN=>erw[50,aN]<;>exact wk _ rfl rfl rfl rfl rfl rfl rfl rfl (yAa rfl) (yAa rfl) ho
 |sm h1 h2=>
   rename_i s _ _ _;cases s<;>exact wk _ rfl rfl rfl rfl rfl rfl rfl rfl (yAa rfl) (yAa rfl) ho
 |cmp h1 h2 aN=>
   rename_i wd v a b;have t:∀ wd:Wd,(wd=.same\/wd=.less\/wd=.under)->aW wd=2/\gJ wd=Tt/\(wd==.in)=Ff/\(wd==.num)=Ff/\(wd==.right||wd==.slide)=Ff/\(wd==.cut)=Ff/\(wd==.wide||wd==.sign)=false:=λ wd=>by rintro (rfl|rfl|rfl)<;>decide
   let(t1,t2,t3,t4,t5,t6,t7):=t wd aN;have e:bT (wd,1,[a,b],)=[a,b]:=by show yFx (aW wd) [a,b]=_;rw[t1];rfl
   have ma:a∈bT (wd,1,[a,b],):=by rw[e];simp
   have mb:b∈bT (wd,1,[a,b],):=by rw[e];simp
   let(ra,hra):=hr a ma;let(ya,hya):=hc t2 a ma;let(yb,hyb):=hc t2 b mb;have k:=go (r:=(wd,1,[a,b],)) (n6 (r:=(wd,1,[a,b],)) t3 t4 t5 t6 t7 (bS (aZ (aC rfl) rfl (jJ (qG _) t2)) (aT (aV (aD (aC rfl) (aD (aC rfl) aO)) (co hra (ho a ma) (ho b mb) hya hyb wd 1 t2 t1)))));erw[50,aN]<;>exact k
 |pick h1 h2=>
   rename_i w0 c a b;exact go (n6 rfl rfl rfl rfl rfl (aP (aZ (aC rfl) rfl (fF (qG _) rfl)) (bS (aZ (aC rfl) bZ (jJ (vA _) rfl)) (aT (aV (aD (aC rfl) (aD (aC rfl) (aD (aC rfl) aO))) (aR3 d w0 w (ho c (by simp[bT,aW])) (ho a (by simp[bT,aW])) (ho b (by simp[bT,aW])) hz))))))
end
def jY:Li Rw->Nat
 |[]=>0
 |r::rs=>if r.wd=.in then jY rs+1 else jY rs
def aAV(r:Rw)(rs:Li Rw)(W is aH:Li Nat):cP (r::rs) W is aH=if r.wd=.in then cP rs W is.tail (aH++[g0 is 0]) else cP rs W is (aH++[cY r (bI r W) (bI r aH)]):=rfl
def aIL(r:Rw)(rs:Li Rw):jY (r::rs)=if r.wd=.in then jY rs+1 else jY rs:=rfl
def vZ(W:Li Nat):∀ (a b:Li Rw) (is aH:Li Nat),cP (a++b) W is aH=cP b W (is.drop (jY a)) (cP a W is aH)
 |[],b,is,aH=>rfl
 |r::a,b,is,aH=>by
   rw[yGm,aAV,aAV,aIL];by_cases c:r.wd=.in
   .rw[if_pos c,if_pos c,if_pos c,vZ W a b,List.drop_tail]
   .rw[if_neg c,if_neg c,if_neg c,vZ W a b]
def aKO{r:Rw}{W:Li Nat}(h:∀ a∈r.args.take (aW r.wd),a<↑W):bI r (W++X)=bI r W:=by
 unfold bI;refine yBs λ a ha=>?_
 show(W++X).getD a 0=W.getD a 0;rw[xAg,xAg,xAm (h a ha)]
def aE3{W:Li Nat}:∀ (rs:Li Rw) (is aH:Li Nat),(∀ r∈rs,∀ a∈r.args.take (aW r.wd),a<↑W)->cP rs (W++X) is aH=cP rs W is aH
 |[],is,aH,_=>rfl
 |r::rs,is,aH,h=>by
   have ih:=λ is aH=>@aE3 X _ rs is aH λ q m=>h q (xAf _ m)
   unfold cP;split
   .exact ih _ _
   .rw[aKO (h r xAc)];exact ih _ _
noncomputable abbrev rn(rs:List Rw)(is:List Nat):List Nat:=cP rs (~~~rs) is []
def vD(Q:Li Rw)(is:Li Nat)(r:Rw):Nat:=if r.wd=.in then g0 is (jY Q) else cY r (bI r (Q.map (·.w))) (bI r (rn Q is))
def aLi(hf:lJ rs):∀ r∈rs,∀ a∈r.args.take (aW r.wd),a<↑rs:=λ r m a ha=>by
 let(j,hj):=yFe m;have:=(hf j r hj).2 a ha;have:=(gIm hj).1;omega
def pN(Q:Li Rw)(is:Li Nat):↑(rn Q is)=↑Q:=by unfold rn;rw[wF];simp
def aJ1(l:Li Nat)(n:Nat):g0 (l.drop n) 0=g0 l n:=by show(l.drop n).getD 0 0=l.getD n 0;rw[xAg,xAg,yHj,yIk]
def aKd{r:Rw}(hf:lJ Q)(hr:∀ a∈r.args.take (aW r.wd),a<↑Q)(is:Li Nat):rn (Q++[r]) is=rn Q is++[vD Q is r]:=by
 have e:(Q++[r]).map (·.w)=Q.map (·.w)++[r.w]:=by rw[yAy];rfl
 unfold rn;rw[vZ,e,aE3 Q is [] λ q m a ha=>by rw[yAd];exact aLi hf q m a ha];rw[aAV];unfold vD;by_cases c:r.wd=.in
 .rw[if_pos c,if_pos c,aJ1];rfl
 .rw[if_neg c,if_neg c,aKO λ a ha=>by rw[yAd];exact hr a ha];rfl
def aL0(l:Li Nat)(x:Nat):g0 (l++[x]) ↑l=x:=by show(l++[x]).getD ↑l 0=x;rw[xAg,yAh (yAc _),yBf];rfl
def aWc(hr:rs[j]?=qz r)(hi:r.wd=.in)(is:Li Nat):g0 (rn rs is) j=g0 is (jY (rs.take j)):=by
 have hj:=(gIm hr).1;have e:rs=rs.take j++r::rs.drop (j+1):=by
  have h:=(gIm hr).2;rw[<- h,<- yEd hj,List.take_append_drop]
 have l:↑(cP (rs.take j) (~~~rs) is [])=j:=by
  rw[wF,yBj];simp;omega
 unfold rn
 conv=>lhs;rw[show cP rs (~~~rs) is []=cP (rs.take j++r::rs.drop (j+1)) (~~~rs) is [] by rw[<- e]]
 rw[vZ,aAV,if_pos hi];let(t,ht):=vW (rs.drop (j+1)) (~~~rs) (is.drop (jY (rs.take j))).tail (cP (rs.take j) (~~~rs) is []++[g0 (is.drop (jY (rs.take j))) 0]);rw[ht,aJ1];show((_++[_])++t).getD j 0=_;rw[xAg,xAm (by simp;omega),yAh (),l,yBf];rfl
def dA(r:Rw):Bool:=decide (r.wd=.in)
def aEw:∀ l:Li Rw,jY l=↑(l.filter dA)
 |[]=>rfl
 |r::l=>by
   rw[aIL,aEw l,yBz];unfold dA
   grind
noncomputable abbrev wQ(l:List Rw):List Nat:=l.map (·.w)
def bAk{rs:Li Rw}{j:Nat}{r:Rw}(hr:rs[j]?=qz r):rs.take (j+1)=rs.take j++[r]:=by rw[List.take_succ,hr];rfl
def aLM(p:Prg rs)(hi:cO rs is)(hr:rs[j]?=qz r):g0 (rn rs is) j<2^r.w:=by have hj:=(gIm hr).1;exact aBr p hi (pK (by rw[pN];exact hj)) (by rw[yAe,hr];rfl)
def pT(h:l[a]?=qz v):g0 l a=v:=by show l.getD a 0=v;rw[xAg,h];rfl
def aU5(p:Prg rs)(hr:rs[j]?=qz r)(ni:r.wd≠.in)(is:Li Nat):g0 (rn rs is) j=cY r (bI r (wQ rs)) (bI r (rn rs is)):=pT (aEX p.fit is hr ni)
def xC:∀ (rs:Li Rw) (is:Li Nat),cO rs is ↔ cO (rs.filter dA) is
 |[],is=>Iff.rfl
 |r::rs,is=>by
   by_cases c:r.wd=.in
   .have e:(r::rs).filter dA=r::rs.filter dA:=by rw[yBz,show dA r=Tt from dqT c,if_pos rfl]
    rw[e];unfold cO;rw[if_pos c,if_pos c];constructor
    .rintro ⟨n,is',e1,e2,e3⟩;exact(n,is',e1,e2,(xC rs is').mp e3,)
    .rintro ⟨n,is',e1,e2,e3⟩;exact(n,is',e1,e2,(xC rs is').mpr e3,)
   .have e:(r::rs).filter dA=rs.filter dA:=by rw[yBz,show dA r=Ff from dqF c,if_neg (·)]
    rw[e];show(if r.wd=.in then _ else cO rs is) ↔ _;rw[if_neg c];exact xC rs is
def dX(y:Yw)(kept w u:Nat):Nat:=if y=.sign then cG u kept w else u
def eV(Y:Ys)(W:Li Nat)(Pl:Ps)(U:Li Nat)(a:Nat):Nat:=match Y.getD a qj with|none=>0|some (y,kept)=>dX y kept (g0 W a) (g0 U ((Pl.getD a qj).getD 0))
def aXm{l:Li Nat}(h:a<↑l):g0 (l++t) a=g0 l a:=by show(l++t).getD a 0=l.getD a 0;rw[xAg,xAg,xAm h]
def tT(hf:lJ R)(is:Li Nat)(h:a<↑R):g0 (rn (R++X) is) a=g0 (rn R is) a:=by have e:(R++X).map (·.w)=R.map (·.w)++X.map (·.w):=yAy;unfold rn;rw[vZ,e,aE3 R is [] λ q m a ha=>by rw[yAd];exact aLi hf q m a ha];let(t,ht):=vW X (R.map (·.w)++X.map (·.w)) (is.drop (jY R)) (cP R (R.map (·.w)) is []);rw[ht,aXm (by rw[show↑(cP R (R.map (·.w)) is [])=↑R from pN R is];exact h)]
def yN{R X:Li Rw}{q v:Nat}(h:(wQ R)[q]?=qz v):(wQ (R++X))[q]?=qz v:=by unfold wQ at *;rw[yAy,xAm (gIm h).1];exact h
def pR(h:(wQ R)[q]?=qz v):q<↑R:=by have:=(gIm h).1;rw[yAd] at this;exact this
def aJV{R X:Li Rw}{p:Nat}{r:Rw}(h:R[p]?=qz r):(R++X)[p]?=qz r:=by rw[xAm (gIm h).1];exact h
def aBl(R:Li Rw)(r:Rw):(R++[r])[↑R]?=qz r:=by rw[yAh (yAc _),yBf];rfl
def jS{r:Rw}(h:(r.wd==.in)=Ff):r.wd≠.in:=λ z=>by rw[z] at h;cases h
structure Pg(I:List Nat->Prop)(R:List Rw)(E:Es):Prop where
 ok:dN [] R
 bd:∀ is,I is->∀ q v,(wQ R)[q]?=qz v->g0 (rn R is) q<2^v
 mi:∀ p∈E,R[p.2]?=qz p.1
structure Gq(I:List Nat->Prop)(R:List Rw)(E:Es)(c w:Nat)(f:List Nat->Nat)(x:M3):Prop where
 g:Pg I x.2.1 x.2.2
 pre:∃ X,x.2.1=R++X
 ni:x.2.1.filter dA=R.filter dA
 r:x.2.1.length<=↑R+c
 e:x.2.2.length<=↑E+c
 w:(wQ x.2.1)[x.1]?=qz w
 v:∀ is,I is->g0 (rn x.2.1 is) x.1=f is
def Gq.on{I:Li Nat -> Prop}{R:Li Rw}{E:Es}{R1:Li Rw}{E1:Es}{a b c w:Nat}{f:Li Nat->Nat}{x:M3}(h:Gq I R1 E1 b w f x)(p:∃ X,R1=R++X)(n:R1.filter dA=R.filter dA)(r:↑R1<=↑R+a)(e:↑E1<=↑E+a)(c1:a+b<=c):Gq I R E c w f x:=by let(X,rfl):=p;let(Z,hZ):=h.pre;have:=h.r;have:=h.e;exact(h.g,(X++Z,by rw[hZ,yBc],),h.ni.trans n,(),(),h.w,h.v,)
def Gq.f{I:Li Nat -> Prop}{R:Li Rw}{E:Es}{c w:Nat}{f f':Li Nat->Nat}{x:M3}(h:Gq I R E c w f x)(e:∀ is,I is->f is=f' is):Gq I R E c w f' x:=(h.g,h.pre,h.ni,h.r,h.e,h.w,λ is hi=>(h.v is hi).trans (e is hi),)
def Gq.c{I:Li Nat -> Prop}{R:Li Rw}{E:Es}{c c' w:Nat}{f:Li Nat->Nat}{x:M3}(h:Gq I R E c w f x)(e:c<=c'):Gq I R E c' w f x:=(h.g,h.pre,h.ni,xAh h.r (yDp e _),xAh h.e (yDp e _),h.w,h.v,)
def aSJ(h:dN [] R)(hr:fV (wQ R) r):RwOk r (bI r (wQ R))/\∀ a∈r.args.take (aW r.wd),a<↑R:=by
 have:=aJL (n:=↑R) (W:=wQ R) (λ a v e=>?_) hr
 .exact this
 .have hl:=pR e;have e':=e;rw[yAe,yAb hl] at e';cases e';have:=(lB h).2 a _ (yAb hl);exact(pT e,this.1,this.2,hl,)
def aBE{I:Li Nat -> Prop}{E:Es}(h:Pg I R E)(hr:fV (wQ R) r)(ni:r.wd≠.in):Gq I R E 1 r.w (λ is=>cY r (bI r (wQ R)) (bI r (rn R is))) (↑R,R++[r],E):=by
 let(f1,f2):=aSJ h.ok hr;have fo:=(lB h.ok).1;have sn:=λ is=>aKd fo f2 is
 have vl:∀ is,vD R is r=cY r (bI r (wQ R)) (bI r (rn R is)):=λ is=>if_neg ni
 have new:∀ is,g0 (rn (R++[r]) is) ↑R=cY r (bI r (wQ R)) (bI r (rn R is)):=λ is=>by
  rw[sn,vl,<- pN R is,aL0]
 have we:(wQ (R++[r]))[↑R]?=qz r.w:=by
  unfold wQ;rw[yAe,aBl];rfl
 refine((sX h.ok (by rw[yEg];exact hr),λ is hi q v hv=>?_,λ p hp=>aJV (h.mi p hp),),(_,rfl,),?_,by simp,yGr _,we,λ is _=>new is,)
 .by_cases c:q<↑R
  .rw[tT fo is c];refine h.bd is hi q v ?_
   grind
  .have:q=↑R:=by have:=pR hv;simp at this;omega
   subst this;rw[we] at hv;cases hv;dsimp only;rw[new is];exact aEj f1 (wM (λ i a w h1 h2=>by rw[<- pT h1];exact h.bd is hi i w h2) _ λ a ha=>(by rw[pN];exact f2 a ha,by rw[yAd];exact f2 a ha,))
 .rw[yEr,show [r].filter dA=[] by rw[yBz,show dA r=Ff from dqF ni];rfl,yBa]
def aSO(a b:Wd)(h:a.s=b.s):a=b:=by have e:=bY a b;rw[<- h,bY a a,dqT rfl] at e;simp_all
def aTP(h:jZ q=jZ r):q=r:=by
 let(a,b,c):=q;let(a',b',c'):=r;unfold jZ at h;let(h1,h):=List.cons.inj h;let(h2,h3):=List.cons.inj h;have e1:a=a':=aSO _ _ (Sum.inr.inj h1);have e2:b=b':=by have:=Sum.inl.inj h2;omega
 have e3:c=c':=(List.map_inj_right (λ x y hxy=>by have:=Sum.inl.inj hxy;omega)).mp h3;rw[e1,e2,e3]
def tL{I:Li Nat -> Prop}{E:Es}(h:Pg I R E)(hr:fV (wQ R) r)(ni:r.wd≠.in):Gq I R E 1 r.w (λ is=>cY r (bI r (wQ R)) (bI r (rn R is))) (jX R E r):=by
 unfold jX;cases hv:fO (iG E) (jZ r) with
 |none=>
   have a:=aBE h hr ni;refine((a.g.ok,a.g.bd,λ p hp=>?_,),a.pre,a.ni,a.r,by simp,a.w,a.v,);rcases List.mem_append.mp hp with hp|hp
   .exact a.g.mi p hp
   .obtain rfl:=List.mem_singleton.mp hp;exact aBl R r
 |some i=>
   unfold fO iG at hv;let(p,h1,h2):=Option.map_eq_some_iff.mp hv;have hm:=List.mem_of_find?_eq_some h1;have hk:=List.find?_some h1;let(q,hq,rfl):=List.mem_map.mp hm;have g1:=h.mi q hq;rw[aTP (oqT hk:jZ q.1=jZ r)] at g1;subst h2;exact(h,([],by simp,),rfl,yGr _,yGr _,(by simp_all),λ is _=>pT (aEX (lB h.ok).1 is g1 ni),)
def HQ(Y:Ys)(W:Li Nat)(Pl:Ps)(R:Li Rw)(k:Nat):Prop:=∃ y,Y[k]?=qz y/\∀ a b,y=qz (a,b)->(1<=b/\b<=g0 W k)/\∃ p,Pl[k]?=qz (qz p)/\(wQ R)[p]?=qz b
def HQ.pre{W:Li Nat}(h:HQ Y W Pl R k):HQ Y W Pl (R++X) k:=by let(y,hy,hp):=h;refine(y,hy,λ a b e=>?_,);let(h0,p,h1,h2):=hp a b e;exact(h0,p,h1,yN h2,)
def HQ.pl{W:Li Nat}(x:Oz Nat)(h:HQ Y W Pl R k):HQ Y W (Pl++[x]) R k:=by let(y,hy,hp):=h;refine(y,hy,λ a b e=>?_,);let(h0,p,h1,h2):=hp a b e;exact(h0,p,by rw[xAm (gIm h1).1];exact h1,h2,)
def HQ.f{W:Li Nat}(h:HQ Y W Pl R k):fQ Y Pl k:=by let(y,hy,hp):=h;exact(y,hy,λ a b e=>let ⟨_,p,h1,_⟩:=hp a b e;(p,h1,),)
def HQ.is{W:Li Nat}(h:HQ Y W Pl R k):(Y.getD k qj=qj/\∀ U,eV Y W Pl U k=0)\/∃ y b p,Y.getD k qj=qz (y,b)/\1<=b/\b<=g0 W k/\Pl.getD k qj=qz p/\(wQ R)[p]?=qz b/\∀ U,eV Y W Pl U k=dX y b (g0 W k) (g0 U p):=by
 let(y,hy,hp):=h;have eY:Y.getD k qj=y:=by rw[xAg,hy];rfl
 unfold eV;rw[eY];cases y with
 |none=>exact .inl (rfl,λ _=>rfl,)
 |some q=>
   let(a,b):=q;let((h0,h0'),p,h1,h2):=hp a b rfl;have eP:Pl.getD k qj=qz p:=by rw[xAg,h1];rfl
   refine .inr (a,b,p,rfl,h0,h0',eP,h2,λ U=>?_,);rw[eP];rfl
def aEo(hu:u<2^b)(h1:1<=b)(hb:b<=w):dX y b w u<2^w:=by
 unfold dX;split
 .exact mG hu h1 hb
 .exact xAb hu (yAm (·) hb)
def rP{I:Li Nat -> Prop}{E:Es}{W:Li Nat}(h:Pg I R E)(hi:I is)(hk:HQ Y W Pl R k):eV Y W Pl (rn R is) k<2^g0 W k:=by
 rcases hk.is with ⟨_,e⟩|⟨y,b,p,_,h1,h2,_,h3,e⟩
 .rw[e];exact xAe _
 .rw[e];exact aEo (h.bd is hi p b h3) h1 h2
def aER{W:Li Nat}(hf:lJ R)(is:Li Nat)(hk:HQ Y W Pl R k):eV Y W Pl (rn (R++X) is) k=eV Y W Pl (rn R is) k:=by
 rcases hk.is with ⟨_,e⟩|⟨y,b,p,_,h1,h2,_,h3,e⟩
 .rw[e,e]
 .rw[e,e,tT hf is (pR h3)]
def wT(hu:u<2^b)(h1:1<=b)(hb:b<=v)(hv:v<=w):cG u b w%2^v=cG u b v:=by
 apply xAl;intro i;rw[yAl,gB hu h1 (xAh hb hv),gB hu h1 hb];by_cases c:i<v
 .rw[dqT c,dqT (xAb c hv),yAp]
 .rw[dqF c,yAx,if_neg (),yAx]
def aEs(h:a<=b):e%2^b%2^a=e%2^a:=Nat.mod_mod_of_dvd _ (Nat.pow_dvd_pow 2 h)
def aJS(hu:u<2^b)(h1:1<=b)(hv:v<=b)(hw:b<=w):cG u b w%2^v=u%2^v:=by
 have:cG u b b=u:=by
  apply xAl;intro i;rw[gB hu h1 (yAc _)];by_cases c:i<b
  .rw[if_pos c]
  .rw[if_neg c,dqF c,yAx,cX hu (yDc c)]
 rw[<- aEs hv,wT hu h1 (yAc _) hw,this]
def aWS(hu:u<2^b)(h1:1<=b)(hw:b<=w):(v<=b->dX y b w u%2^v=u%2^v)/\(b<=v->v<=w->dX y b w u%2^v=dX y b v u):=by
 unfold dX;split
 .exact(λ h=>aJS hu h1 h hw,λ h h'=>wT hu h1 h h',)
 .exact(λ _=>rfl,λ h _=>yBk (xAb hu (yAm (·) h)),)
def vX{I:Li Nat -> Prop}{E:Es}{W:Li Nat}(h:Pg I R E)(hk:HQ Y W Pl R k)(h1:1<=w)(hw:w<=g0 W k)(h64:w<=64):Gq I R E 1 w (λ is=>eV Y W Pl (rn R is) k%2^w) (cV Y Pl R E k w):=by
 unfold cV;rcases hk.is with ⟨e0,e⟩|⟨y,b,p,e0,b1,b2,eP,h3,e⟩
 .rw[e0];dsimp only;refine(tL (r:=(.num,w,[0],)) h (h1,h64,xAe w,) (jS rfl)).f λ is _=>?_
  rw[e];exact(Nat.zero_mod _).symm
 .rw[e0];dsimp only;rw[eP];have bd:=λ is (hi:I is)=>h.bd is hi p b h3
  have xm:=λ is (hi:I is)=>@aWS _ _ _ w y (bd is hi) b1 b2
  by_cases c:b=w
  .rw[if_pos c];subst c;refine(h,([],by simp,),rfl,yGr _,yGr _,h3,λ is hi=>?_,);rw[e,(xm is hi).1 (yAc _),yBk (bd is hi)];rfl
  .rw[if_neg c];by_cases g:w<b
   .rw[if_pos g];refine(tL (r:=(.cut,w,[p],)) h (h1,h64,b,h3,yDx g,) (jS rfl)).f λ is hi=>?_
    rw[e,(xm is hi).1 (yDx g)];rfl
   .rw[if_neg g];by_cases s:y=.sign
    .rw[if_pos s];refine(tL (r:=(.sign,w,[p],)) h (h1,h64,b,h3,by show b<=w;omega,) (jS rfl)).f λ is hi=>?_
     rw[e,(xm is hi).2 () hw];unfold dX;rw[if_pos s];show cG (g0 (rn R is) p) (g0 (wQ R) p) w=_;rw[pT h3]
    .rw[if_neg s];refine(tL (r:=(.wide,w,[p],)) h (h1,h64,b,h3,by show b<=w;omega,) (jS rfl)).f λ is hi=>?_
     rw[e,(xm is hi).2 () hw];unfold dX;rw[if_neg s];rfl
abbrev Fq(Y:Ys)(W:List Nat)(Pl:Ps)(R:List Rw)(l:List (Nat×Nat)):Prop:=∀ q∈l,HQ Y W Pl R q.1/\1<=q.2/\q.2<=g0 W q.1/\q.2<=64
structure Gl(I:List Nat->Prop)(Y:Ys)(W:List Nat)(Pl:Ps)(R:List Rw)(E:Es)(l:List (Nat×Nat))(x:List Nat×List Rw×Es):Prop where
 g:Pg I x.2.1 x.2.2
 pre:∃ X,x.2.1=R++X
 ni:x.2.1.filter dA=R.filter dA
 r:x.2.1.length<=↑R+↑l
 e:x.2.2.length<=↑E+↑l
 at_:Paired (λ(q:Nat×Nat) n=>(wQ x.2.1)[n]?=qz q.2/\∀ is,I is->g0 (rn x.2.1 is) n=eV Y W Pl (rn x.2.1 is) q.1%2^q.2) l x.1
section
variable {I:List Nat->Prop}{Y:Ys}{W:List Nat}{Pl:Ps}
def aEv:∀ (l:Li (Nat×Nat)) {R:Li Rw}{E:Es},Pg I R E->Fq Y W Pl R l->Gl I Y W Pl R E l (cW Y Pl R E l)
 |[],R,E,h,_=>(h,([],(yBa _).symm,),rfl,yAc _,yAc _,.nil,)
 |q::l,R,E,h,ho=>by
   let(k1,k2,k3,k4):=ho q xAc;have a:=vX h k1 k2 k3 k4;unfold cW;generalize cV Y Pl R E q.1 q.2=x at a ⊢;let(x0,R1,E1):=x;let(g,(X,hX),ni,r,e,w,v):=a;dsimp only at *;have b:=aEv (R:=R1) (E:=E1) l g (λ z hz=>by
    let(j1,j2):=ho z (xAf _ hz);rw[hX];exact(j1.pre,j2,))
   let(g',(Z,hZ),ni',r',e',at'):=b;refine(g',(X++Z,by simp_all,),ni'.trans ni,by dsimp only;rw[yAn];omega,by dsimp only;rw[yAn];omega,.cons ?_ at',);dsimp only;rw[hZ];refine(yN w,λ is hi=>(tT (lB g.ok).1 is (pR w)).trans ((v is hi).trans ?_),);rw[hX,yBc,aER (lB h.ok).1 is k1]
end
def aLg{I:Li Nat -> Prop}{E:Es}{W:Li Nat}(h:Pg I R E)(l:Li (Nat×Nat))(hl:Fq Y W Pl R l)(hc:↑l<=3)(f:Li Nat->Rw)(w:Nat)(v:Li Nat->Nat)(hf:∀ (W':Li Nat) (ns:Li Nat),Paired (λ(q:Nat×Nat) n=>W'[n]?=qz q.2) l ns->fV W' (f ns)/\(f ns).w=w/\(f ns).wd≠.in)(hv:∀ (W' U ns is:Li Nat),I is->Paired (λ(q:Nat×Nat) n=>W'[n]?=qz q.2/\g0 U n=eV Y W Pl (rn R is) q.1%2^q.2) l ns->cY (f ns) (bI (f ns) W') (bI (f ns) U)=v is) :
 Gq I R E 4 w v (qK Y Pl R E l f):=by
 have a:=aEv l h hl;unfold qK;generalize cW Y Pl R E l=x at a ⊢;let(ns,R1,E1):=x;let(g,(X,hX),ni,r,e,at'):=a;dsimp only at *;let(f1,f2,f3):=hf (wQ R1) ns (L2.Paired.mapP at' λ _ _ z=>z.1);have n:=aBE g f1 f3;rw[f2] at n;refine(n.f λ is hi=>hv _ _ _ is hi ?_).on (X,hX,) ni r e (show ↑l+1<=4 by omega);have key:∀ (l:Li (Nat×Nat)) (ns:Li Nat),Fq Y W Pl R l->Paired (λ(q:Nat×Nat) n=>(wQ R1)[n]?=qz q.2/\∀ is,I is->g0 (rn R1 is) n=eV Y W Pl (rn R1 is) q.1%2^q.2) l ns->Paired (λ(q:Nat×Nat) n=>(wQ R1)[n]?=qz q.2/\g0 (rn R1 is) n=eV Y W Pl (rn R is) q.1%2^q.2) l ns:=λ l=>by
  induction l with
  |nil=>intro ns _ p;cases p;exact .nil
  |cons q l ih=>
    intro ns hq p;cases p with
    |cons p1 p2=>
      refine .cons (p1.1,?_,) (ih _ (λ z hz=>hq z (xAf _ hz)) p2);rw[p1.2 is hi]
      conv=>lhs;rw[hX]
      rw[aER (lB h.ok).1 is (hq q xAc).1]
 exact key l ns hl at'
def aUB(hq:q<=w)(he:e<2^w):2^q-1-e%2^q=(2^w-1-e)%2^q:=by
 apply xAl;intro i;have c1:=mL (yGh e (xAe q)) i;have c2:=mL he i;unfold oY at c1 c2;rw[yAl,c1,c2,yAl];by_cases c:i<q
 .rw[dqT c,dqT (xAb c hq)];cases e[i]!<;>rfl
 .rw[dqF c,yAx,yAx]
def aVm{wd:Wd}(hq:q<=w):oU wd q (a%2^q) (b%2^q)=oU wd w a b%2^q:=by
 have m:∀ {x y:Int},x%(2^q:_)=y%(2^q:_)->cJ x q=cJ y w%2^q:=λ {x y} e=>by
  rw[aEh y hq];unfold cJ;rw[e]
 unfold oU;split
 .exact(Nat.and_mod_two_pow ..).symm
 .exact(Nat.or_mod_two_pow ..).symm
 .exact(Nat.xor_mod_two_pow ..).symm
 .exact m (by rw[yBu,yBu,<- Int.add_emod])
 .exact m (by rw[yBu,yBu,<- Int.sub_emod])
 .exact m (by rw[yBu,yBu,<- Int.mul_emod])
def aSd(hq:q<=w):a%2^q*2^k%2^q=a*2^k%2^w%2^q:=by rw[aEs hq,Nat.mod_mul_mod]
def aVS{wd:Wd}(aN:wd=.right\/wd=.slide)(h1:1<=q)(hq:q<=w)(he:e<2^w):oW wd (min w (q+s)) (e%2^min w (q+s)) s%2^q=oW wd w e s%2^q:=by
 by_cases c:w<=q+s
 .rw[yDq c,yBk he]
 .have c':q+s<=w:=();rw[yDv c'];have hm:=yGh e (xAe (q+s));apply xAl;intro i;rw[yAl,yAl];by_cases d:i<q
  .have b:(e%2^(q+s))[(s+i)]! =e[(s+i)]!:=by rw[yAl,dqT (show s+i<q+s by omega),yAp]
   rcases aN with rfl|rfl
   .show(_&&(_/2^s)[i]!)=(_&&(e/2^s)[i]!);rw[fS,fS,b]
   .show(_&&(cG _ (q+s) (q+s+s)/2^s)[i]!)=(_&&(cG e w (w+s)/2^s)[i]!);rw[fS,fS,gB hm () (),gB he () (),if_pos (show s+i<q+s by omega),if_pos (show s+i<w by omega),b]
  .rw[dqF d,yAx,yAx]
def aYF{wd:Wd}(aN:wd=.right\/wd=.slide)(h1:1<=v)(he:e<2^v):oW wd v e s<2^v:=by
 rcases aN with rfl|rfl
 .exact xAi (yGw _ _) he
 .show cG e v (v+s)/2^s<2^v;rw[yDz (xAe s),<- yEn];exact mG he h1 ()
def aDL(hx:x<2^g)(h1:1<=g)(hg:g<=w):cG x g w=if x<2^(g-1) then x else x+(2^w-2^g):=by
 have hp:2^g<=2^w:=yAm (·) hg;split
 .rename_i c;apply xAl;intro i;rw[gB hx h1 hg];by_cases d:i<g
  .rw[if_pos d]
  .rw[if_neg d,cX c (yAc _),yGj,cX hx (yDc d)]
 .rename_i c;have t:x[(g-1)]! =Tt:=by
   have tb:=aKK hx h1;cases e:x[(g-1)]! with
   |true=>rfl
   |false=>
     rw[e] at tb;have z:x/2^(g-1)=0:=tb;exact absurd (Nat.lt_of_div_eq_zero (xAe _) z) c
  have e1:x+(2^w-2^g)=x+2^g*(2^(w-g)-1):=by rw[Nat.mul_sub,<- yEn,yEo hg,Nat.mul_one]
  apply xAl;intro i;rw[gB hx h1 hg,e1,yDk,Nat.testBit_two_pow_mul_add _ hx];by_cases d:i<g
  .rw[if_pos d,if_pos d]
  .rw[if_neg d,if_neg d,Nat.testBit_two_pow_sub_one,t,yCo,decide_eq_decide];omega
def aNn(h:1<=g):2^g=2*2^(g-1):=by conv=>lhs;rw[show g=g-1+1 by omega,yEx,yIf]
def aV6{wd:Wd}(hx:x<2^g)(hy:y<2^g)(h1:1<=g)(hg:g<=w):jW wd g x y=jW wd w (cG x g w) (cG y g w):=by
 have hp:2^g<=2^w:=yAm (·) hg;have hq:2^(g-1)<=2^(w-1):=yAm (·) ();have d1:2^g=2*2^(g-1):=aNn h1;have d2:2^w=2*2^(w-1):=aNn (xAh h1 hg);have sg:∀ {z:Nat},z<2^g->fW (cG z g w) w=fW z g:=λ {z} hz=>by
  rw[aDL hz h1 hg];unfold fW;by_cases c:z<2^(g-1)
  .rw[if_pos c,if_neg (),if_neg ()]
  .rw[if_neg c,if_pos (),if_pos ()];omega
 have nx:=aDL hx h1 hg;have ny:=aDL hy h1 hg;unfold jW;split
 .rw[nx,ny,decide_eq_decide];split<;>split<;>omega
 .rw[nx,ny,decide_eq_decide];split<;>split<;>omega
 .rw[sg hx,sg hy]
def aBf(he:e<2^g)(h:g<w):fW e w=e:=by unfold fW;rw[if_neg (yGn (xAb he (yAm (·) ())))]
def aKS{wd:Wd}(hc:gJ wd=Tt)(hu:u<2^a)(hv:v<2^b)(a1:1<=a)(b1:1<=b)(aw:a<=w)(bw:b<=w):(1<=iI wd (y,a) (z,b) w/\iI wd (y,a) (z,b) w<=w)/\jW wd (iI wd (y,a) (z,b) w) (dX y a w u%2^iI wd (y,a) (z,b) w) (dX z b w v%2^iI wd (y,a) (z,b) w)=jW wd w (dX y a w u) (dX z b w v):=by
 have e1:=aEo (y:=y) hu a1 aw;have e2:=aEo (y:=z) hv b1 bw;have hg:max a b<=w:=();have ha:2^a<=2^max a b:=yAm (·) (yBt _ _);have hb:2^b<=2^max a b:=yAm (·) (yGo _ _);have full:(1<=w/\w<=w)/\jW wd w (dX y a w u%2^w) (dX z b w v%2^w)=jW wd w (dX y a w u) (dX z b w v):=(((),yAc _,),by rw[yBk e1,yBk e2],);unfold iI;dsimp only;by_cases c1:lX y z=1
 .rw[if_pos c1];exact full
 .rw[if_neg c1];by_cases s:y=.sign
  .have s2:z=.sign:=Decidable.byContradiction λ n=>c1 (by unfold lX;rw[if_pos s,if_neg n])
   have c0:¬ (lX y z=0/\wd=.under):=λ n=>by have:=n.1;unfold lX at this;rw[if_pos s] at this;omega
   rw[if_neg c0];refine(((),hg,),?_,);have x1:dX y a w u=cG u a w:=by unfold dX;rw[if_pos s]
   have x2:dX z b w v=cG v b w:=by unfold dX;rw[if_pos s2]
   rw[x1,x2,wT hu a1 (yBt _ _) hg,wT hv b1 (yGo _ _) hg,aV6 (w:=w) (mG hu a1 (yBt _ _)) (mG hv b1 (yGo _ _)) () hg,aGU hu a1 (yBt _ _) hg,aGU hv b1 (yGo _ _) hg]
  .have s2:z≠.sign:=λ n=>c1 (by unfold lX;rw[if_neg s,if_pos n])
   have x1:dX y a w u=u:=by unfold dX;rw[if_neg s]
   have x2:dX z b w v=v:=by unfold dX;rw[if_neg s2]
   have c0:lX y z=0:=by unfold lX;rw[if_neg s,if_neg s2]
   rw[x1,x2] at full ⊢;have low:∀ g,max a b<=g->u%2^g=u/\v%2^g=v:=λ g h=>by
    have:=yAm (show 0<2 by decide) h;exact(yBk (),yBk (),)
   by_cases un:wd=.under
   .rw[if_pos (c0,un,)];by_cases c:w<=max a b+1
    .rw[yDq c];exact full
    .rw[yDv ()];refine(((),(),),?_,);let(l1,l2):=low (max a b+1) ();rw[l1,l2];subst un;show decide (fW u (max a b+1)<fW v (max a b+1))=decide (fW u w<fW v w);rw[aBf (g:=max a b) () (),aBf (g:=max a b) () (),aBf (g:=max a b) () (show max a b<w by omega),aBf (g:=max a b) () (show max a b<w by omega)]
   .rw[if_neg λ n=>un n.2];let(l1,l2):=low (max a b) (yAc _);rw[l1,l2];refine(((),hg,),?_,);cases wd<;>first|rfl|exact absurd rfl un|(exfalso;revert hc;decide)
def p1l{α β:Type}{P:α->β->Prop}{x:α}{ns:List β}(p:Paired P [x] ns):∃ n,ns=[n]/\P x n:=by
 cases p with
 |cons p1 p2=>cases p2;exact(_,rfl,p1,)
def p2l{α β:Type}{P:α->β->Prop}{x y:α}{ns:List β}(p:Paired P [x,y] ns):∃ n m,ns=[n,m]/\P x n/\P y m:=by
 cases p with
 |cons p1 p2=>
   let(m,rfl,h):=p1l p2;exact(_,m,rfl,p1,h,)
def aCw{I:Li Nat -> Prop}{E:Es}{W:Li Nat}(h:Pg I R E)(ks:Li Nat)(u:Nat)(hl:∀ k∈ks,HQ Y W Pl R k/\u<=g0 W k)(h1:1<=u)(h64:u<=64)(hc:↑ks<=3)(f:Li Nat->Rw)(w:Nat)(v:Li Nat->Nat)(hf:∀ (W':Li Nat) (ns:Li Nat),Paired (λ(q:Nat×Nat) n=>W'[n]?=qz q.2) (ks.map λ k=>(k,u)) ns->fV W' (f ns)/\(f ns).w=w/\(f ns).wd≠.in)(hv:∀ (W' U ns is:Li Nat),I is->Paired (λ(q:Nat×Nat) n=>W'[n]?=qz q.2/\g0 U n=eV Y W Pl (rn R is) q.1%2^q.2) (ks.map λ k=>(k,u)) ns->cY (f ns) (bI (f ns) W') (bI (f ns) U)=v is) :
 Gq I R E 4 w v (qK Y Pl R E (ks.map λ k=>(k,u)) f):=
 aLg h (ks.map λ k=>(k,u)) (λ q hq=>by
  let(k,hk,rfl):=List.mem_map.mp hq;exact((hl k hk).1,h1,(hl k hk).2,h64,)) (by rw[yAd];exact hc) f w v hf hv
def aML{I:Li Nat -> Prop}{E:Es}{W:Li Nat}{wd:Wd}(aN:wd=.right\/wd=.slide)(h1:1<=q)(hq:q<=w)(h64:w<=64)(hs:s<64)(h:Pg I R E)(ha:HQ Y W Pl R a)(hw:g0 W a=w):Gq I R E 4 q (λ is=>oW wd w (eV Y W Pl (rn R is) a) s%2^q) (uN Y Pl R E (wd,w,[a,s],) a s q):=by
 have lt:∀ is,I is->eV Y W Pl (rn R is) a<2^w:=λ is hi=>hw▸rP h hi ha
 have L:=λ is (hi:I is)=>aVS (s:=s) aN h1 hq (lt is hi)
 have hv1:1<=min w (q+s):=();have hvq:q<=min w (q+s):=();have hvw:min w (q+s)<=w:=();unfold uN;dsimp only;generalize min w (q+s)=v at L hv1 hvq hvw ⊢;have f:=vX h ha hv1 (by rw[hw];exact hvw) ();generalize cV Y Pl R E a v=x at f ⊢;let(n,R1,E1):=x;let(fg,fp,fn,fr,fe,fw,fv):=f;dsimp only at *;have n1:=aBE (r:=(wd,v,[n,s],)) fg (by rcases aN with rfl|rfl<;>exact(hv1,by show v<=64;omega,fw,hs,)) (jS (by rcases aN with rfl|rfl<;>rfl));have n2:∀ is,I is->cY ⟨wd,v,[n,s]⟩ (bI ⟨wd,v,[n,s]⟩ (wQ R1)) (bI ⟨wd,v,[n,s]⟩ (rn R1 is))=oW wd v (eV Y W Pl (rn R is) a%2^v) s:=λ is hi=>by
  rw[<- fv is hi];rcases aN with rfl|rfl<;>rfl
 have n3:=n1.f n2;by_cases c:q<v
 .rw[if_pos c];have o:=tL (r:=(.cut,q,[↑R1],)) n3.g (h1,by show q<=64;omega,v,n3.w,hvq,) (jS rfl);refine(o.f λ is hi=>?_).on (n3.on (c:=2) fp fn fr fe (yAc _)).pre (n3.ni.trans fn) (n3.on (c:=2) fp fn fr fe (yAc _)).r (n3.on (c:=2) fp fn fr fe (yAc _)).e (·);rw[<- L is hi,<- n3.v is hi];rfl
 .rw[if_neg c];have e:v=q:=();subst e;refine((n3.f λ is hi=>?_).on fp fn fr fe (yAc _)).c (·);rw[<- L is hi,yBk (aYF aN hv1 (yGh _ (xAe _)))]
def aMM{I:Li Nat -> Prop}{E:Es}{W:Li Nat}{wd:Wd}(aN:wd=.wide\/wd=.sign)(h1:1<=q)(hq:q<=w)(h64:w<=64)(v1:1<=v)(hv:v<=w)(h:Pg I R E)(ha:HQ Y W Pl R a)(hw:g0 W a=v):Gq I R E 4 q (λ is=>cY (wd,w,[a],) [v] [eV Y W Pl (rn R is) a]%2^q) (vB Y Pl R E wd a (g0 W a) q):=by
 rw[hw];have lt:∀ is,I is->eV Y W Pl (rn R is) a<2^v:=λ is hi=>hw▸rP h hi ha
 unfold vB;by_cases c:q<=v
 .rw[if_pos c];refine((vX h ha h1 (by rw[hw];exact c) ()).f λ is hi=>?_).c (·);rcases aN with rfl|rfl
  .rfl
  .exact(aJS (lt is hi) v1 c hv).symm
 .rw[if_neg c];have f:=vX h ha v1 (by rw[hw];simp_all) ();generalize cV Y Pl R E a v=x at f ⊢;let(n,R1,E1):=x;let(fg,fp,fn,fr,fe,fw,fv):=f;dsimp only at *;have o:=tL (r:=(wd,q,[n],)) fg (by rcases aN with rfl|rfl<;>exact(h1,by show q<=64;omega,v,fw,by show v<=q;omega,)) (jS (by rcases aN with rfl|rfl<;>rfl));refine((o.f λ is hi=>?_).on fp fn fr fe (yAc _)).c (·);have e:=fv is hi;rw[yBk (lt is hi)] at e;rcases aN with rfl|rfl
  .show g0 (rn R1 is) n=eV Y W Pl (rn R is) a%2^q;rw[e,yBk (xAb (lt is hi) (yAm (·) ()))]
  .show cG (g0 (rn R1 is) n) (g0 (wQ R1) n) q=cG (eV Y W Pl (rn R is) a) v w%2^q;rw[e,pT fw,wT (lt is hi) v1 () hq]
def aV5{I:Li Nat -> Prop}{E:Es}{W:Li Nat}{wd:Wd}(aN:wd=.same\/wd=.less\/wd=.under)(h2:v<=64)(h:Pg I R E)(ha:HQ Y W Pl R a)(hb:HQ Y W Pl R b)(wa:g0 W a=v)(wb:g0 W b=v)(ya:∃ y,Y[a]?=qz (qz y))(yb:∃ y,Y[b]?=qz (qz y)):Gq I R E 4 1 (λ is=>cY (wd,1,[a,b],) [v,v] [eV Y W Pl (rn R is) a,eV Y W Pl (rn R is) b]%2^1) (aCs Y Pl R E wd a b (iI wd (yo Y a) (yo Y b) (g0 W a))):=by
 rw[wa];have hc:gJ wd=Tt:=by erw[50,aN]<;>rfl
 have some_:∀ {k:Nat},HQ Y W Pl R k->(∃ y,Y[k]?=qz (qz y))->∃ y b p,yo Y k=(y,b)/\1<=b/\b<=g0 W k/\(wQ R)[p]?=qz b/\∀ U,eV Y W Pl U k=dX y b (g0 W k) (g0 U p):=λ {k} hk ⟨z,hz⟩=>by
  rcases hk.is with ⟨e0,_⟩|⟨y,b,p,e0,b1,b2,_,h3,e⟩
  .rw[xAg,hz] at e0;cases e0
  .exact(y,b,p,by unfold yo;rw[e0];rfl,b1,b2,h3,e,)
 let(y,c,p,ey,c1,c2,c3,c4):=some_ ha ya;let(z,d,p',ez,d1,d2,d3,d4):=some_ hb yb;rw[ey,ez];rw[wa] at c2 c4;rw[wb] at d2 d4;have key:=λ is (hi:I is)=>@aKS _ _ _ _ v y z _ hc (h.bd is hi p c c3) (h.bd is hi p' d d3) c1 d1 c2 d2
 have rng:1<=iI wd (y,c) (z,d) v/\iI wd (y,c) (z,d) v<=v:=(aKS (y:=y) (z:=z) hc (xAe c) (xAe d) c1 d1 c2 d2).1;generalize iI wd (y,c) (z,d) v=u at key rng ⊢;refine aCw (W:=W) h [a,b] u (λ k hk=>?_) rng.1 (xAh rng.2 h2) (yAa rfl) (λ x=>(wd,1,x,)) 1 _ (λ W' ns p=>?_) λ W' U ns is hi p=>?_
 .rcases List.mem_cons.mp hk with rfl|hk
  .exact(ha,by rw[wa];exact rng.2,)
  .rw[List.mem_singleton.mp hk];exact(hb,by rw[wb];exact rng.2,)
 .let(n,m,rfl,e1,e2):=p2l p;erw[50,aN]<;>exact((yAc 1,(show(1:Nat)<=64 by decide),rfl,u,e1,e2,),rfl,jS rfl,)
 .let(n,m,rfl,(w1,e1),w2,e2):=p2l p;have k:=(key is hi).2;rw[<- c4,<- d4] at k;have t:∀ x:Bool,x.toNat%2^1=x.toNat:=λ x=>by cases x<;>rfl
  have g:(jW wd (g0 W' n) (g0 U n) (g0 U m)).toNat=(jW wd v (eV Y W Pl (rn R is) a) (eV Y W Pl (rn R is) b)).toNat%2^1:=by
   rw[t,<- k,pT w1];dsimp only at e1 e2;rw[e1,e2]
  erw[50,aN]<;>exact g
def uC{I:Li Nat -> Prop}{E:Es}{W:Li Nat}{wd:Wd}(aN:(wd=.and\/wd=.or\/wd=.xor)\/wd=.add\/wd=.sub\/wd=.mul)(h1:1<=q)(hq:q<=w)(i2:w<=64)(h:Pg I R E)(ha:HQ Y W Pl R a)(hb:HQ Y W Pl R b)(hw:g0 W a=w/\g0 W b=w):Gq I R E 4 q (λ is=>oU wd w (eV Y W Pl (rn R is) a) (eV Y W Pl (rn R is) b)%2^q) (qK Y Pl R E [(a,q),(b,q)] λ x=>(wd,q,x++[],)):=by
 refine aCw (W:=W) h [a,b] q (λ k hk=>?_) h1 (xAh hq i2) (yAa rfl) (λ x=>(wd,q,x++[],)) q _ (λ W' ns p=>?_) λ W' U ns is hi p=>?_
 .rcases List.mem_cons.mp hk with rfl|hk
  .exact(ha,by rw[hw.1];exact hq,)
  .rw[List.mem_singleton.mp hk];exact(hb,by rw[hw.2];exact hq,)
 .let(n,m,rfl,e1,e2):=p2l p;rcases aN with (rfl|rfl|rfl)|rfl|rfl|rfl<;>exact((h1,xAh hq i2,e1,e2,),rfl,jS rfl,)
 .let(n,m,rfl,(_,e1),_,e2):=p2l p;dsimp only at e1 e2;rw[<- aVm hq,<- e1,<- e2];rcases aN with (rfl|rfl|rfl)|rfl|rfl|rfl<;>rfl
def aZT{I:Li Nat -> Prop}{E:Es}{W:Li Nat}(h1:1<=q)(hq:q<=w)(i2:w<=64)(h:Pg I R E)(hc:HQ Y W Pl R c)(ha:HQ Y W Pl R a)(hb:HQ Y W Pl R b)(hw:g0 W c=1/\g0 W a=w/\g0 W b=w):Gq I R E 4 q (λ is=>(if eV Y W Pl (rn R is) c=1 then eV Y W Pl (rn R is) a else eV Y W Pl (rn R is) b)%2^q) (pkM Y Pl R E c a b q):=by
 have p3:∀ {P:Nat×Nat->Nat->Prop}{ns:Li Nat},Paired P [(c,1),(a,q),(b,q)] ns->∃ k n m,ns=[k,n,m]/\P (c,1) k/\P (a,q) n/\P (b,q) m:=λ p=>by
  cases p with
  |cons p1 p2=>
    let(n,m,rfl,h):=p2l p2;exact(_,n,m,rfl,p1,h,)
 refine aLg (W:=W) h [(c,1),(a,q),(b,q)] (λ z hz=>?_) (yAa rfl) (λ x=>(.pick,q,x,)) q _ (λ W' ns p=>?_) λ W' U ns is hi p=>?_
 .rcases List.mem_cons.mp hz with rfl|hz
  .exact(hc,yAc 1,yFp hw.1.symm,yAa rfl,)
  .rcases List.mem_cons.mp hz with rfl|hz
   .exact(ha,h1,xAh hq (yFp hw.2.1.symm),xAh hq i2,)
   .rw[List.mem_singleton.mp hz];exact(hb,h1,xAh hq (yFp hw.2.2.symm),xAh hq i2,)
 .let(k,n,m,rfl,e1,e2,e3):=p3 p;exact((h1,xAh hq i2,e1,e2,e3,),rfl,jS rfl,)
 .let(k,n,m,rfl,(_,e1),(_,e2),_,e3):=p3 p;show(if g0 U k=1 then g0 U n else g0 U m)=_;have lt:eV Y W Pl (rn R is) c<2^1:=hw.1▸rP h hi hc;dsimp only at e1 e2 e3;rw[yBk lt] at e1;rw[e1,e2,e3];split<;>rfl
def aTM{I:Li Nat -> Prop}{E:Es}{W:Li Nat}(f1:RwOk r (bI r W))(h1:1<=q)(hq:q<=r.w)(ni:r.wd≠.in)(h:Pg I R E)(ho:∀ a∈bT r,HQ Y W Pl R a)(hc:Cok Y r):Gq I R E 4 q (λ is=>cY r (bI r W) ((bT r).map (eV Y W Pl (rn R is)))%2^q) (fP W Y Pl R E r q):=by
 generalize hws:bI r W=ws at f1;have one:∀ {a v:Nat},[g0 W a]=[v]->g0 W a=v:=λ e=>(List.cons.inj e).1
 have two:∀ {a b v u:Nat},[g0 W a,g0 W b]=[v,u]->g0 W a=v/\g0 W b=u:=λ e=>((List.cons.inj e).1,(List.cons.inj (List.cons.inj e).2).1,)
 have lt:∀ {a v:Nat},HQ Y W Pl R a->g0 W a=v->∀ is,I is->eV Y W Pl (rn R is) a<2^v:=λ ha e is hi=>e▸rP h hi ha
 cases f1 with
 |inp=>simp_all
 |num i1 i2 hn=>
   rename_i w n;exact((aBE (r:=(.num,q,[n%2^q],)) h (h1,xAh hq i2,yGh _ (xAe _),) (jS rfl)).f λ is _=>rfl).c (·)
 |nt i1 i2=>
   rename_i w a;have ha:=ho a xAc;have hw:=one hws;refine aCw (W:=W) h [a] q (λ k hk=>?_) h1 (xAh hq i2) (yAa rfl) (λ x=>(.not,q,x++[],)) q _ (λ W' ns p=>?_) λ W' U ns is hi p=>?_
   .rw[List.mem_singleton.mp hk];exact(ha,by rw[hw];exact hq,)
   .let(n,rfl,e):=p1l p;exact((h1,xAh hq i2,e,),rfl,jS rfl,)
   .let(n,rfl,_,e):=p1l p;show 2^q-1-g0 U n=_;rw[e];exact aUB hq (lt ha hw is hi)
 |sh i1 i2 aN hk=>
   rename_i wd w a s;have left:wd=.left->Gq I R E 4 q (λ is=>cY (.left,w,[a,s],) [w] ((bT (.left,w,[a,s],)).map (eV Y W Pl (rn R is)))%2^q) (fP W Y Pl R E (.left,w,[a,s],) q):=λ z=>by
    subst z;have ha:=ho a xAc;have hw:=one hws;refine aCw (W:=W) h [a] q (λ k hk=>?_) h1 (xAh hq i2) (yAa rfl) (λ x=>(.left,q,x++[s],)) q _ (λ W' ns p=>?_) λ W' U ns is hi p=>?_
    .rw[List.mem_singleton.mp hk];exact(ha,by rw[hw];exact hq,)
    .let(n,rfl,e):=p1l p;exact((h1,xAh hq i2,e,hk,),rfl,jS rfl,)
    .let(n,rfl,_,e):=p1l p;show g0 U n*2^s%2^q=_;rw[e];exact aSd hq
   erw[50,aN]
   .exact left rfl
   .exact aML (.inl rfl) h1 hq i2 hk h (ho a xAc) (one hws)
   .exact aML (.inr rfl) h1 hq i2 hk h (ho a xAc) (one hws)
 |cut i1 hv i2=>
   rename_i w v a;refine((vX h (ho a xAc) h1 (by rw[one hws];exact xAh hq hv) (xAh hq (xAh hv i2))).f λ is _=>?_).c (·);exact(aEs hq).symm
 |wide i1 hv i2=>exact aMM (.inl rfl) h1 hq i2 i1 hv h (ho _ xAc) (one hws)|sign i1 hv i2=>exact aMM (.inr rfl) h1 hq i2 i1 hv h (ho _ xAc) (one hws)
 |bw i1 i2 aN=>
   rename_i wd w a b;erw[50,aN]
   .exact uC (.inl (.inl rfl)) h1 hq i2 h (ho a (by simp[bT,aW])) (ho b (by simp[bT,aW])) (two hws)
   .exact uC (.inl (.inr (.inl rfl))) h1 hq i2 h (ho a (by simp[bT,aW])) (ho b (by simp[bT,aW])) (two hws)
   .exact uC (.inl (.inr (.inr rfl))) h1 hq i2 h (ho a (by simp[bT,aW])) (ho b (by simp[bT,aW])) (two hws)
 |sm i1 i2=>
   rename_i s w a b;cases s
   .exact uC (wd:=.add) (.inr (.inl rfl)) h1 hq i2 h (ho a (by simp[bT,aW,Sw.wd])) (ho b (by simp[bT,aW,Sw.wd])) (two hws)
   .exact uC (wd:=.sub) (.inr (.inr (.inl rfl))) h1 hq i2 h (ho a (by simp[bT,aW,Sw.wd])) (ho b (by simp[bT,aW,Sw.wd])) (two hws)
   .exact uC (wd:=.mul) (.inr (.inr (.inr rfl))) h1 hq i2 h (ho a (by simp[bT,aW,Sw.wd])) (ho b (by simp[bT,aW,Sw.wd])) (two hws)
 |cmp i1 i2 aN=>
   rename_i wd v a b;have e:q=1:=by have:q<=1:=hq;omega
   subst e;have tw:bT (wd,1,[a,b],)=[a,b]:=by erw[50,aN]<;>rfl
   have hcw:gJ wd=Tt:=by erw[50,aN]<;>rfl
   have ma:a∈bT (wd,1,[a,b],):=by rw[tw];simp
   have mb:b∈bT (wd,1,[a,b],):=by rw[tw];simp
   have hw:g0 W a=v/\g0 W b=v:=two (by unfold bI at hws;rw[show((wd,1,[a,b],):Rw).args.take (aW wd)=[a,b] from tw] at hws;exact hws);have k:=aV5 aN i2 h (ho a ma) (ho b mb) hw.1 hw.2 (hc hcw a ma) (hc hcw b mb);erw[50,aN]<;>exact k
 |pick i1 i2=>
   rename_i w c a b;have hw:g0 W c=1/\g0 W a=w/\g0 W b=w:=((List.cons.inj hws).1,two (List.cons.inj hws).2,);exact aZT h1 hq i2 h (ho c (by simp[bT,aW])) (ho a (by simp[bT,aW])) (ho b (by simp[bT,aW])) hw
def Sb.trans(h:Sb a b)(k:Sb b c):Sb a c:=λ i x=>k i (h i x)
def aYc(a b:Nat):Sb a (a|||b):=λ i h=>by rw[xAo,h,Bool.true_or]
def aX1(a b:Nat):Sb b (a|||b):=λ i h=>by rw[xAo,h,yIi]
def aSK(M:Li Nat)(q:Nat×Nat)(i:Nat):Sb (M.getD i 0) ((eO M q).getD i 0):=by
 unfold eO;by_cases c:q.1=i
 .subst c;by_cases l:q.1<↑M
  .rw[vP l];exact aYc _ _
  .rw[yEf ()];exact Sb.refl _
 .rw[vO c];exact Sb.refl _
def aEc:∀ (l:Li (Nat×Nat)) (M:Li Nat) (i:Nat),Sb (M.getD i 0) ((l.foldl eO M).getD i 0)
 |[],_,_=>Sb.refl _|q::l,M,i=>(aSK M q i).trans (aEc l (eO M q) i)
def aRu(M:Li Nat)(q:Nat×Nat):↑(eO M q)=↑M:=by unfold eO;rw[yBb]
def aJF:∀ (l:Li (Nat×Nat)) (M:Li Nat) (q:Nat×Nat),q∈l->q.1<↑M->Sb q.2 ((l.foldl eO M).getD q.1 0)
 |[],_,_,h,_=>by cases h
 |x::l,M,q,h,hl=>by
   rcases List.mem_cons.mp h with rfl|h
   .refine Sb.trans ?_ (aEc l (eO M q) q.1);unfold eO;rw[vP hl];exact aX1 _ _
   .exact aJF l (eO M x) q h (by rw[aRu];exact hl)
section
variable {rs:List Rw}{F:List Ft}
def aDJ:∀ (k:Nat) (M:Li Nat) (i:Nat),Sb (M.getD i 0) ((lV rs F k M).getD i 0)
 |0,_,_=>Sb.refl _
 |k+1,M,i=>by
   refine Sb.trans ?_ (aDJ k (iQ rs F M k) i);unfold iQ;cases rs[k]? with
   |none=>exact Sb.refl _|some r=>exact aEc _ M i
def aI5(p:Prg rs):∀ (k:Nat) (M:Li Nat),Bd rs M->k<=↑rs->∀ (j:Nat) (r:Rw),j<k->rs[j]?=qz r->∀ q∈hG rs F r ((lV rs F k M).getD j 0),Sb q.2 ((lV rs F k M).getD q.1 0)
 |0,_,_,_,j,_,hj,_,_,_=>absurd hj (yDn j)
 |k+1,M,h,hk,j,r,hj,hr,q,hq=>by
   have hb:=aD6 (F:=F) p (show k<↑rs by omega) h;by_cases c:j=k
   .subst c;have e:(lV rs F (j+1) M).getD j 0=M.getD j 0:=aJe p (j+1) M j h hk (yAc _);rw[e] at hq;have a:=(aBs p hr (h.lt j r hr) q hq).1;show Sb q.2 ((lV rs F j (iQ rs F M j)).getD q.1 0);refine Sb.trans ?_ (aDJ j (iQ rs F M j) q.1);rw[aDN hr];exact aJF _ M q hq (by rw[h.l];omega)
   .exact aI5 p k (iQ rs F M k) hb () j r () hr q hq
end
section
variable {rs:List Rw}
def aJ5:∀ (l:Li Nat) (M:Li Nat) (o:Nat),o<↑M->(o∈l\/M.getD o 0=2^g0 (~~~rs) o-1)->(l.foldl (fX rs) M).getD o 0=2^g0 (~~~rs) o-1
 |[],_,_,_,h=>by
   rcases h with h|h
   .cases h
   .exact h
 |x::l,M,o,hl,h=>by
   show(l.foldl (fX rs) (fX rs M x)).getD o 0=_;refine aJ5 l (fX rs M x) o (by unfold fX;rw[yBb];exact hl) ?_;by_cases c:x=o
   .subst c;right;unfold fX;exact vP hl
   .rcases h with h|h
    .grind
    .right;unfold fX;rw[vO c];exact h
end
structure Yg(rs:List Rw)(Y:Ys):Prop where
 st:Yst rs Y
 inn:∀ (k:Nat) (r:Rw),rs[k]?=qz r->(r.wd==.in)=Tt->Y[k]?=qz (qz (.cut,r.w))
 cok:∀ (k:Nat) (r:Rw) (q:Yw×Nat),rs[k]?=qz r->Y[k]?=qz (qz q)->Cok Y r
def aS(rs:Li Rw)(Y:Ys):Nat->Ps×Li Rw×Es
 |0=>([],[],[])
 |j+1=>match rs[j]?,Y[j]? with
   |some r,qz (qz q)=>((aS rs Y j).1++[qz (fP (~~~rs) Y (aS rs Y j).1 (aS rs Y j).2.1 (aS rs Y j).2.2 r q.2).1],(fP (~~~rs) Y (aS rs Y j).1 (aS rs Y j).2.1 (aS rs Y j).2.2 r q.2).2)|_,_=>((aS rs Y j).1++[qj],(aS rs Y j).2)
def aK9{rs:Li Rw}{Y:Ys}(g:Yg rs Y){k:Nat}{r:Rw}{q:Yw×Nat}(hr:rs[k]?=qz r)(hq:Y[k]?=qz (qz q)):1<=q.2/\q.2<=r.w/\((r.wd==.in)=Tt->q.2=r.w):=by let(h1,h2):=g.st.ok k r (qz q) hr hq q.1 q.2 rfl;refine(h1,h2,λ h=>?_,);have:=g.inn k r hr h;rw[hq] at this;simp_all
def aK5{n:Nat}(h:n[t]! =Tt):n≠0:=λ z=>by rw[z,yBd] at h;cases h
def aX9(c:t<h):(2^h-1)[t]! =Tt:=by rw[dP,dqT c]
def aZM{rs:Li Rw}(p:Prg rs){k:Nat}{r:Rw}(hr:rs[k]?=qz r):↑(r.args.take (aW r.wd))=aW r.wd:=aA5 (uA (p.fit k r hr).1).2
abbrev Met(rs:List Rw)(F:List Ft)(M:List Nat):Prop:=∀ (j:Nat) (r:Rw),rs[j]?=qz r->∀ q∈hG rs F r (M.getD j 0),Sb q.2 (M.getD q.1 0)
def bAv{r:Rw}(l:Li Nat)(h:(r.args.take (aW r.wd))[c]?=qz a):g0 (bI r l) c=g0 l a:=by show((r.args.take (aW r.wd)).map (g0 l)).getD c 0=_;rw[xAg,yAe,h];rfl
def aZ4{M:Li Nat}(h:(oT rs F r (M.getD j 0)).getD c 0≠0)(la:↑(r.args.take (aW r.wd))=aW r.wd):∃ a,(r.args.take (aW r.wd))[c]?=qz a/\(a,(oT rs F r (M.getD j 0)).getD c 0)∈hG rs F r (M.getD j 0):=by
 have hcl:c<aW r.wd:=by
  apply Decidable.byContradiction;intro z;apply h;rw[xAg,yCc (by unfold oT;rw[aIH];omega)];rfl
 have ha:(r.args.take (aW r.wd))[c]?=qz (r.args.take (aW r.wd))[c]:=yAb ();refine(_,ha,xAk (i:=c) ?_,);unfold hG bT;rw[List.getElem?_zip_eq_some];exact(ha,aD8 (by unfold oT;rw[aIH];omega),)
def aXt(p:Prg rs)(met:Met rs F M):Aq rs M 0:=λ i r _ hr hc hz a ha=>by
 let(v,hv,hq):=aXO (F:=F) p hr hc hz a ha;exact aK5 (met i r hr _ hq _ (aLT hv))
structure Mv(rs:List Rw)(Y:Ys)(j:Nat)(z:Ps×List Rw×Es):Prop where
 l:z.1.length=j
 r:z.2.1.length<=4*j
 e:z.2.2.length<=4*j
 g:Pg (cO rs) z.2.1 z.2.2
 ins:z.2.1.filter dA=(rs.take j).filter dA
 pl:∀ a,a<j->HQ Y (wQ rs) z.1 z.2.1 a
 v:∀ (a:Nat) (r:Rw) (q:Yw×Nat),a<j->rs[a]?=qz r->Y[a]?=qz (qz q)->∀ is,cO rs is->g0 (rn z.2.1 is) ((z.1.getD a qj).getD 0)=if r.wd=.in then g0 (rn rs is) a else cY r (bI r (wQ rs)) ((bT r).map (eV Y (wQ rs) z.1 (rn z.2.1 is)))%2^q.2
def aE9{W:Li Nat}(hf:lJ R)(is:Li Nat)(x:Oz Nat)(hk:HQ Y W Pl R k):eV Y W (Pl++[x]) (rn (R++X) is) k=eV Y W Pl (rn R is) k/\(∀ q,Y.getD k qj=qz q->((Pl++[x]).getD k qj).getD 0=(Pl.getD k qj).getD 0/\(Pl.getD k qj).getD 0<↑R):=by
 rcases hk.is with ⟨e0,e⟩|⟨y,b,p,e0,h1,h2,hp,h3,e⟩
 .refine⟨?_,λ q hq=>by rw[e0] at hq;cases hq⟩;unfold eV;rw[e0]
 .have hl:k<↑Pl:=Decidable.byContradiction λ c=>by
   rw[xAg,yCc ()] at hp;cases hp
  have ep:(Pl++[x]).getD k qj=qz p:=by
   rw[xAg,xAm hl,<- xAg];exact hp
  refine(?_,λ q hq=>?_,)
  .unfold eV;rw[e0,ep,hp];dsimp only;rw[show(qz p).getD 0=p from rfl,tT hf is (pR h3)]
  .rw[ep,hp];exact(rfl,pR h3,)
def aZq(s:Sw):s.wd≠.in:=by cases s<;>decide
def aX3(p:Prg rs){E:Es}(h:Pg (cO rs) R E)(ins:R.filter dA=(rs.take j).filter dA)(hr:rs[j]?=qz r)(hi:r.wd=.in):Pg (cO rs) (R++[r]) E/\(wQ (R++[r]))[↑R]?=qz r.w/\∀ is,g0 (rn (R++[r]) is) ↑R=g0 (rn rs is) j:=by
 have ok:=(p.fit j r hr).1;have w12:=p.ws j r hr;have ar:r.args=[]:=by
  generalize bI r (~~~rs)=ws at ok;cases ok with
  |inp=>rfl
  |sh _ _ aN=>erw[50,aN]<;>cases hi
  |bw _ _ aN=>erw[50,aN]<;>cases hi
  |sm=>exact absurd hi (aZq _)
  |cmp _ _ aN=>erw[50,aN]<;>cases hi
  |_=>cases hi
 have la:∀ a∈r.args.take (aW r.wd),a<↑R:=λ a ha=>by rw[ar] at ha;simp at ha
 have okr:fV (wQ R) r:=(w12.1,w12.2,by rw[ar,hi];trivial,);have fo:=(lB h.ok).1;have new:∀ is,g0 (rn (R++[r]) is) ↑R=g0 (rn rs is) j:=λ is=>by
  rw[aKd fo la is,show g0 (rn R is++[vD R is r]) ↑R=vD R is r by conv=>lhs;rw[<- pN R is,aL0],show vD R is r=g0 is (jY R) from if_pos hi,aWc hr hi,aEw,ins,<- aEw]
 have we:(wQ (R++[r]))[↑R]?=qz r.w:=by
  unfold wQ;rw[yAe,aBl];rfl
 refine((sX h.ok (by rw[yEg];exact okr),λ is hs q v hv=>?_,λ z hz=>aJV (h.mi z hz),),we,new,);by_cases c:q<↑R
 .rw[tT fo is c];refine h.bd is hs q v ?_
  grind
 .have:q=↑R:=by have:=pR hv;simp at this;omega
  subst this;rw[we] at hv;cases hv;rw[new is];exact aLM p hs hr
section
variable {rs:List Rw}{Y:Ys}
def aBp(p:Prg rs)(g:Yg rs Y):∀ j,j<=↑rs->Mv rs Y j (aS rs Y j)
 |0,_=>(rfl,yAc _,yAc _,(trivial,λ _ _ q v h=>by simp[aS] at h,λ q hq=>by simp[aS] at hq,),rfl,λ a ha=>by omega,λ a _ _ ha=>by omega,)
 |j+1,hj=>by
   have ih:=aBp p g j ();have hjr:j<↑rs:=hj;have hjy:j<↑Y:=by rw[g.st.l];exact hj
   have hr:rs[j]?=qz rs[j]:=yAb hjr;have hy:Y[j]?=qz Y[j]:=yAb hjy;generalize rs[j]=r at hr;generalize Y[j]=y at hy;have fo:=(lB ih.g.ok).1;have tk:=bAk hr;have gw:g0 (wQ rs) j=r.w:=jG hr;let(f1,f2):=p.fit j r hr;have last:∀ x:Oz Nat,((aS rs Y j).1++[x])[j]?=qz x:=λ x=>by rw[yAh (by rw[ih.l];simp_all),ih.l,yBf];rfl
   have ir:=ih.r;have ie:=ih.e;unfold aS;rw[hr,hy];have old:∀ (x:Oz Nat) (X:Li Rw) (a:Nat) (ra:Rw) (q:Yw×Nat),a<j->rs[a]?=qz ra->Y[a]?=qz (qz q)->∀ is,cO rs is->g0 (rn ((aS rs Y j).2.1++X) is) ((((aS rs Y j).1++[x]).getD a qj).getD 0)=if ra.wd=.in then g0 (rn rs is) a else cY ra (bI ra (wQ rs)) ((bT ra).map (eV Y (wQ rs) ((aS rs Y j).1++[x]) (rn ((aS rs Y j).2.1++X) is)))%2^q.2:=λ x X a ra q ha hra hya is hi=>by
    have eo:=(aE9 (X:=X) fo is x (ih.pl a ha)).2 q (by rw[xAg,hya];rfl);have em:(bT ra).map (eV Y (wQ rs) ((aS rs Y j).1++[x]) (rn ((aS rs Y j).2.1++X) is))=(bT ra).map (eV Y (wQ rs) (aS rs Y j).1 (rn (aS rs Y j).2.1 is)):=yBs λ b hb=>(aE9 (X:=X) fo is x (ih.pl b (yEk ((p.fit a ra hra).2 b hb) ha))).1
    rw[eo.1,tT fo is eo.2,em];exact ih.v a ra q ha hra hya is hi
   cases y with
   |none=>
     refine(by simp[ih.l],xAh ir (),xAh ie (),ih.g,?_,λ a ha=>?_,λ a ra q ha hra hya is hi=>?_,)
     .rw[tk,yEr,show [r].filter dA=[] by
       rw[yBz,show dA r=Ff from dqF λ c=>by rw[g.inn j r hr (beq_iff_eq.mpr c)] at hy;cases hy];rfl,yBa]
      exact ih.ins
     .by_cases c:a<j
      .exact(ih.pl a c).pl qj
      .obtain rfl:a=j:=();exact⟨qj,hy,λ _ _ e=>by cases e⟩
     .by_cases c:a<j
      .have:=old qj [] a ra q c hra hya is hi;rw[yBa] at this;exact this
      .obtain rfl:a=j:=();rw[hy] at hya;cases hya
   |some q=>
     dsimp only;let(k1,k2,k3):=aK9 g hr hy;have key:Pg (cO rs) (fP (~~~rs) Y (aS rs Y j).1 (aS rs Y j).2.1 (aS rs Y j).2.2 r q.2).2.1 (fP (~~~rs) Y (aS rs Y j).1 (aS rs Y j).2.1 (aS rs Y j).2.2 r q.2).2.2/\(∃ X,(fP (~~~rs) Y (aS rs Y j).1 (aS rs Y j).2.1 (aS rs Y j).2.2 r q.2).2.1=(aS rs Y j).2.1++X)/\(fP (~~~rs) Y (aS rs Y j).1 (aS rs Y j).2.1 (aS rs Y j).2.2 r q.2).2.1.filter dA=(rs.take (j+1)).filter dA/\(fP (~~~rs) Y (aS rs Y j).1 (aS rs Y j).2.1 (aS rs Y j).2.2 r q.2).2.1.length<=(aS rs Y j).2.1.length+4/\(fP (~~~rs) Y (aS rs Y j).1 (aS rs Y j).2.1 (aS rs Y j).2.2 r q.2).2.2.length<=(aS rs Y j).2.2.length+4/\(wQ (fP (~~~rs) Y (aS rs Y j).1 (aS rs Y j).2.1 (aS rs Y j).2.2 r q.2).2.1)[(fP (~~~rs) Y (aS rs Y j).1 (aS rs Y j).2.1 (aS rs Y j).2.2 r q.2).1]?=qz q.2/\∀ is,cO rs is->g0 (rn (fP (~~~rs) Y (aS rs Y j).1 (aS rs Y j).2.1 (aS rs Y j).2.2 r q.2).2.1 is) (fP (~~~rs) Y (aS rs Y j).1 (aS rs Y j).2.1 (aS rs Y j).2.2 r q.2).1=if r.wd=.in then g0 (rn rs is) j else cY r (bI r (wQ rs)) ((bT r).map (eV Y (wQ rs) (aS rs Y j).1 (rn (aS rs Y j).2.1 is)))%2^q.2:=by
      by_cases c:r.wd=.in
      .have e:fP (~~~rs) Y (aS rs Y j).1 (aS rs Y j).2.1 (aS rs Y j).2.2 r q.2=((aS rs Y j).2.1.length,(aS rs Y j).2.1++[r],(aS rs Y j).2.2):=by
        unfold fP;rw[if_pos (beq_iff_eq.mpr c)]
       rw[e,k3 (beq_iff_eq.mpr c)];let(i1,i2,i3):=aX3 p ih.g ih.ins hr c;exact(i1,(_,rfl,),by dsimp only;rw[tk,yEr,yEr,ih.ins],by simp,by simp,i2,λ is _=>by rw[if_pos c];exact i3 is,)
      .have m:=aTM (W:=wQ rs) f1 k1 k2 c ih.g (λ a ha=>ih.pl a (f2 a ha)) (g.cok j r q hr hy);refine(m.g,m.pre,?_,m.r,m.e,m.w,λ is hi=>by rw[if_neg c];exact m.v is hi,);rw[m.ni,tk,yEr,show [r].filter dA=[] by rw[yBz,show dA r=Ff from dqF c];rfl,yBa];exact ih.ins
     generalize fP (~~~rs) Y (aS rs Y j).1 (aS rs Y j).2.1 (aS rs Y j).2.2 r q.2=x at key ⊢;let(x0,R1,E1):=x;dsimp only at key ⊢;let(g1,(X,rfl),i1,r1,e1,w1,v1):=key;refine(by simp[ih.l],by dsimp only;omega,by dsimp only;omega,g1,i1,λ a ha=>?_,λ a ra q' ha hra hya is hi=>?_,)
     .by_cases c:a<j
      .exact((ih.pl a c).pl _).pre
      .obtain rfl:a=j:=();refine(qz q,hy,λ u v e=>?_,);simp_all
     .by_cases c:a<j
      .exact old (qz x0) X a ra q' c hra hya is hi
      .obtain rfl:a=j:=();rw[hy] at hya;cases hya;rw[hr] at hra;cases hra;have em:(bT r).map (eV Y (wQ rs) ((aS rs Y a).1++[qz x0]) (rn ((aS rs Y a).2.1++X) is))=(bT r).map (eV Y (wQ rs) (aS rs Y a).1 (rn (aS rs Y a).2.1 is)):=yBs λ b hb=>(aE9 (X:=X) fo is (qz x0) (ih.pl b (f2 b hb))).1
       dsimp only;rw[show((aS rs Y a).1++[qz x0]).getD a qj=qz x0 by rw[xAg,last];rfl,em];exact v1 is hi
end
def aW6{rs:Li Rw}{j:Nat}{r:Rw}(p:Prg rs){is:Li Nat}(hi:cO rs is)(hr:rs[j]?=qz r):kO (bI r (wQ rs)) (bI r (rn rs is)):=by
 have hj:=(gIm hr).1;exact wM (λ i a w h1 h2=>aBr p hi h1 h2) _ λ a ha=>by
  have:=(p.fit j r hr).2 a ha;exact(by rw[pN];omega,by rw[yAd];omega,)
def aRD(r:Rw)(f:Ft)(h:m≠0):∃ q,iV r f m=qz q:=by
 unfold iV;by_cases c:r.wd=.in
 .rw[if_pos c];exact(_,rfl,)
 simp_all
def aVM{r:Rw}(hc:gJ r.wd=Tt)(h:iV r f m=qz q):m≠0:=by
 intro z;have c:r.wd≠.in:=λ e=>by rw[e] at hc;cases hc
 unfold iV at h;rw[if_neg c,if_pos z] at h;cases h
def aTX{F:Li Ft}(p:Prg rs)(hF:↑F=↑rs)(h:Bd rs M)(ha:Aq rs M 0):Yg rs (dD rs F M):=by
 refine(aUw p hF h,λ k r hr hi=>?_,λ k r q hr hq hc a hA=>?_,)
 .rw[wS hr hF h.l];unfold iV;rw[if_pos (eq_of_beq hi)]
 .rw[wS hr hF h.l] at hq;have m0:=aVM hc (Option.some.inj hq);have ma:=ha k r (yCd _) hr hc m0 a hA;have hk:k<↑rs:=(gIm hr).1;have hka:a<↑rs:=yEk ((p.fit k r hr).2 a hA) hk;let(y,hy):=aRD rs[a] (f0 F a) ma;exact(y,by rw[wS (yAb hka) hF h.l,hy],)
def aUg{Z V:Nat}(hl:lb y kept f m w=Tt)(k1:1<=kept)(kw:kept<=w)(hm:m<2^w)(hd:Hd f V w)(ag:∀ t,m[t]! =Tt->Z[t]! =V[t]!)(ht:m[t]! =Tt):(dX y kept w (Z%2^kept))[t]! =V[t]!:=by
 have tw:=rR hm ht;have hZ:=yGh Z (xAe kept);have low:∀ {i},i<kept->(Z%2^kept)[i]! =Z[i]!:=λ {i} c=>by rw[yAl,dqT c,yAp]
 unfold dX;by_cases c:t<kept
 .split
  .rw[gB hZ k1 kw,if_pos c,low c,ag t ht]
  .rw[low c,ag t ht]
 .have b:(m/2^kept)[(t-kept)]! =Tt:=by rw[fS,yEo (yDc c)];exact ht
  have z:(m/2^kept==0)=Ff:=beq_eq_false_iff_ne.mpr λ e=>by rw[e,yBd] at b;cases b
  unfold lb at hl;rw[z,yHv] at hl;cases y with
  |cut=>cases hl
  |nought=>
    have e:=qU (m/2^kept) (f.N/2^kept) (t-kept);rw[beq_iff_eq.mp hl,yBd,b,fS,yEo (yDc c),yAp] at e;rw[if_neg (·),cX hZ (yDc c),hd.1 t (by grind)]
  |sign=>
    let(h1,h2):=Bool.and_eq_true_iff.mp hl;have h2:=oqT h2;rw[if_pos rfl,gB hZ k1 kw,if_neg c,dqT tw,yAp,low (),ag _ h1];rcases hd.2.2 with h|h
    .rw[h (kept-1) () (),h t () tw]
    .rw[h (kept-1) () (),h t () tw]
def aJ3{W:Li Nat}{e:Nat->Nat}:∀ l:Li Nat,(∀ a∈l,e a<2^g0 W a)->kO (l.map (g0 W)) (l.map e)
 |[],_=>True.intro|a::l,h=>(h a xAc,aJ3 l λ b hb=>h b (xAf _ hb),)
def aZ2(p:Prg rs)(sd:Snd rs F)(hF:↑F=↑rs)(hb:Bd rs M)(met:Met rs F M)(mv:Mv rs (dD rs F M) n z)(hn:n<=↑rs)(hi:cO rs is):∀ a,a<n->∀ t,(M.getD a 0)[t]! =Tt->(eV (dD rs F M) (wQ rs) z.1 (rn z.2.1 is) a)[t]! =(g0 (rn rs is) a)[t]!:=λ a=>by
 induction a using Nat.strongRecOn with
 |ind a ih=>
   intro ha t ht;have hal:a<↑rs:=xAb ha hn;have hr:rs[a]?=qz rs[a]:=yAb hal;generalize rs[a]=r at hr;have hy:=wS hr hF hb.l;have hm:=hb.lt a r hr;have gw:g0 (wQ rs) a=r.w:=jG hr;have val:=λ q hq=>mv.v a r q ha hr (hy.trans (congrArg qz hq)) is hi
   have eY:(dD rs F M).getD a qj=iV r (f0 F a) (M.getD a 0):=by rw[xAg,hy];rfl
   unfold eV;rw[eY];unfold iV at val ⊢;by_cases c:r.wd=.in
   .rw[if_pos c] at val ⊢;have:=val _ rfl;rw[if_pos c] at this;dsimp only;unfold dX;rw[if_neg (·),this]
   .rw[if_neg c] at val ⊢;have m0:=iT hm ht;rw[if_neg m0] at val ⊢;have v:=val _ rfl;rw[if_neg c] at v;dsimp only at v ⊢;rw[v,gw];let(f1,f2):=p.fit a r hr;let(l1,l2,l3):=aLL (f0 F a) (p.ws a r hr).1 hm;have hd:Hd (f0 F a) (g0 (rn rs is) a) r.w:=sd.hold is hi a _ _ _ (nQ ()) (by rw[yAe,hr];rfl) (pK (by rw[pN];exact hal));refine aUg l3 l1 l2 hm hd (λ t ht=>?_) ht;rw[aU5 p hr c];have ln:=aW6 p hi hr;have fs:=aRF p sd hF hi hr;have lo:kO (bI r (wQ rs)) ((bT r).map (eV (dD rs F M) (wQ rs) z.1 (rn z.2.1 is))):=aJ3 _ λ b hbm=>rP mv.g hi (mv.pl b (yEk (f2 b hbm) ha))
    have ag:Ag (oT rs F r (M.getD a 0)) ((bT r).map (eV (dD rs F M) (wQ rs) z.1 (rn z.2.1 is))) (bI r (rn rs is)):=λ k i hki=>by
     let(b,hbk,hq):=@aZ4 _ _ _ a k M (aK5 hki) (aZM p hr);have hba:=f2 b (xAk hbk);rw[bAv _ hbk,show g0 ((bT r).map (eV (dD rs F M) (wQ rs) z.1 (rn z.2.1 is))) k=eV (dD rs F M) (wQ rs) z.1 (rn z.2.1 is) b by
      show((r.args.take (aW r.wd)).map _).getD k 0=_;rw[xAg,yAe,hbk];rfl]
     exact ih b hba (yEk hba ha) i (met a r hr _ hq i hki)
    exact aWa (args:=r.args) f1 (uA f1).2 hm ht ln lo fs ag
def aL4(x:Oz Nat)(st:Oz (Li D))(R:Li Rw)(Pl:Ps)(hP:↑Pl<=1000)(E:Es)(T:aE):eZ (sM st R Pl E T) (.loc 2) (.d (sL x))=qz (.d .none,sM st R (Pl++[x]) E T):=by show(if ↑(Pl.map sL)<qk then _ else qj)=_;rw[if_pos (by rw[yAd,zx];omega),show Pl.map sL++[sL x]=(Pl++[x]).map sL by rw[yAy];rfl];rfl
def aMf:∀ (rs:Li Rw) (Y:Ys),gU (rs.map Rw.d) (Y.map yD)=(rs.zip Y).map λ q=>Tz [q.1.d,yD q.2]
 |[],Y=>by cases Y<;>rfl|r::rs,[]=>rfl
 |r::rs,y::Y=>by
   have:=aMf rs Y;simp only[yAk,yHh,gU,this]
def aYe{rs:Li Rw}{Y:Ys}{j:Nat}{dd:D}(h:((rs.zip Y).map λ q=>Tz [q.1.d,yD q.2])[j]?=qz dd):∃ r y,rs[j]?=qz r/\Y[j]?=qz y/\dd=.tuple [r.d,yD y]:=by rw[yAe] at h;let(q,hq,rfl):=Option.map_eq_some_iff.mp h;let(h1,h2):=List.getElem?_zip_eq_some.mp hq;exact(q.1,q.2,h1,h2,rfl,)
def nE(rs:Li Rw)(aG:Li Nat):Li (Nat×Nat):=aG.map λ o=>(o,g0 (~~~rs) o)
def iH(rs:Li Rw)(Y:Ys)(aG:Li Nat):Li Nat×Li Rw×Es:=cW Y (aS rs Y ↑rs).1 (aS rs Y ↑rs).2.1 (aS rs Y ↑rs).2.2 (nE rs aG)
def sH(rs:Li Rw)(Y:Ys)(aG:Li Nat):D:=.tuple [.tuple ((iH rs Y aG).2.1.map Rw.d),.tuple ((iH rs Y aG).1.map nD)]
noncomputable abbrev eB(P f m YY:D)(c5 c6 c7 c8:Option W):bG:=[qz (.d P),qz (.d f),qz (.d m),qz (.d YY),qz (dF P YY),c5,c6,c7,c8,qj]
def aSc(hr:rs[j]?=qz r)(hy:Y[j]?=qz qj):aS rs Y (j+1)=((aS rs Y j).1++[qj],(aS rs Y j).2):=by rw[aS,hr,hy]
def aRO(hr:rs[j]?=qz r)(hy:Y[j]?=qz (qz q)):aS rs Y (j+1)=((aS rs Y j).1++[qz (fP (~~~rs) Y (aS rs Y j).1 (aS rs Y j).2.1 (aS rs Y j).2.2 r q.2).1],(fP (~~~rs) Y (aS rs Y j).1 (aS rs Y j).2.1 (aS rs Y j).2.2 r q.2).2):=by rw[aS,hr,hy]
def aTN(d:Nat)(p:Prg rs)(hl:↑rs<=60)(g:Yg rs Y)(o f m:D)(st:Oz (Li D))(hr:rs[j]?=qz r)(hy:Y[j]?=qz y)(c8:Oz W):∃ c8':Oz W,xs (d<$>5) vN (eB (rs<*o) f m (Y*>yD) qj (qz (.d r.d)) (qz (.d (yD y))) c8) (sM st (aS rs Y j).2.1 (aS rs Y j).1 (aS rs Y j).2.2 [])=qz (.nx (eB (rs<*o) f m (Y*>yD) qj (qz (.d r.d)) (qz (.d (yD y))) c8'),sM st (aS rs Y (j+1)).2.1 (aS rs Y (j+1)).1 (aS rs Y (j+1)).2.2 []):=by
 have hj:j<↑rs:=(gIm hr).1;have mv:=aBp p g j ();have isy:=aFT y;have m1:=mv.l;have m2:=mv.r;have m3:=mv.e;cases y with
 |none=>
   have isy:bE .Is (yD qj) .none=qz (.bool Tt):=isy;have ap:eZ (sM st (aS rs Y j).2.1 (aS rs Y j).1 (aS rs Y j).2.2 []) (.loc 2) (.d .none)=_:=aL4 qj st (aS rs Y j).2.1 (aS rs Y j).1 () (aS rs Y j).2.2 [];refine(qz (.d .none),?_,);rw[aSc hr hy];generalize (Tz [(rs*>Rw.d),o])=P;erw[2,vN,eB,isy,ap]
 |some q=>
   have isy:bE .Is (yD (qz q)) .none=qz (.bool Ff):=isy;let(f1,f2):=p.fit j r hr;let(k1,k2,k3):=aK9 g hr hy;have w64:=(p.ws j r hr).2;have mr:=@aTv st ((aS rs Y j).2.1) ((aS rs Y j).1) ((aS rs Y j).2.2) [] Y _ _ rs d f1 o q.2 () (λ a ha=>(_,yAb (yEk (f2 a ha) hj),)) (λ a ha=>(mv.pl a (f2 a ha)).f) (g.cok j r q hr hy) ();have x1:aU (yD (qz q)) (.int 1)=qz (.int (q.2:Nat)):=rfl;refine((((fP (~~~rs) Y (aS rs Y j).1 (aS rs Y j).2.1 (aS rs Y j).2.2 r q.2).1:Nat):),?_,);rw[aRO hr hy];generalize fP (~~~rs) Y (aS rs Y j).1 (aS rs Y j).2.1 (aS rs Y j).2.2 r q.2=x at mr ⊢;let(x0,R1,E1):=x;dsimp only at mr ⊢;have ap:eZ (sM st R1 (aS rs Y j).1 E1 []) (.loc 2) (.d (Iz x0))=_:=aL4 (qz x0) st R1 (aS rs Y j).1 () E1 [];generalize (Tz [(rs*>Rw.d),o])=P at mr ⊢;erw[2,vN,eB,isy,x1,mr,ap]
def aU7(d:Nat)(p:Prg rs)(hl:↑rs<=60)(g:Yg rs Y)(aG:Li Nat)(ho:∀ o∈aG,o<↑rs)(hol:↑aG<=20)(f m:D)(st:Oz (Li D)) :
 cl fns (d+6) 64 [.d (rs<*(aG*>nD)),.d f,.d m,.d (Y*>yD)] [st]=qz (.d (sH rs Y aG),[st]):=by
 have trn:=λ(j:Nat) (r:Rw) (y:Oz (Yw×Nat)) (hr:rs[j]?=qz r) (hy:Y[j]?=qz y) (c8:Oz W)=>aTN d p hl g (aG*>nD) f m st hr hy c8
 have mv:=aBp p g ↑rs (yAc _);have i0:aU (rs<*(aG*>nD)) (.int 0)=qz (rs*>Rw.d):=rfl;have i1:aU (rs<*(aG*>nD)) (.int 1)=qz (aG*>nD):=rfl;have wo:=λ(a:Nat) (ha:a<↑rs) (S:aE)=>xH (d+4) a (yAb ha) (aG*>nD) S
 obtain⟨P,hP⟩:∃ P:D,P=(rs<*(aG*>nD)):=(_,rfl,);simp only[<- hP] at trn i0 i1 wo ⊢;obtain⟨YY,hYY⟩:∃ YY:D,YY=(Y*>yD):=(_,rfl,);have it:lv (d<$>5) aC2 (eB P f m YY qj qj qj qj) (sM st [] [] [] [])=qz ((rs.zip Y).map (λ q=>Tz [q.1.d,yD q.2]),sM st [] [] [] []):=by
  rw[<- aMf,hYY];erw[2,aC2,eB,i0]
 rw[<- hYY] at trn ⊢;let(env1,S1,p1,c6,c7,c8,rfl,rfl):=pL (t:=.many [6,7]) (fb:=xs (d<$>5) vN)
  (λ j env S'=>∃ c6 c7 c8:Oz W,env=eB P f m YY qj c6 c7 c8/\S'=sM st (aS rs Y j).2.1 (aS rs Y j).1 (aS rs Y j).2.2 [])
  it (qj,qj,qj,rfl,rfl,) (by
   rintro j dd env S' hd ⟨c6,c7,c8,rfl,rfl⟩;let(r,y,hr,hy,rfl):=aYe hd;let(c8',e):=trn j r y hr hy c8;exact(_,_,_,rfl,e,qz (.d r.d),qz (.d (yD y)),c8',rfl,rfl,))
 rw[yAd,List.length_zip,g.st.l,Nat.min_self] at p1;have m2:=mv.r;have m3:=mv.e;have lo:↑(nE rs aG)<=20:=by unfold nE;rw[yAd];exact hol
 have hh:∀ q∈nE rs aG,fQ Y (aS rs Y ↑rs).1 q.1/\q.1<↑rs/\q.2=g0 (~~~rs) q.1:=λ q hq=>by
  let(k,hk,rfl):=List.mem_map.mp hq;exact((mv.pl k (ho k hk)).f,ho k hk,rfl,)
 have hC:lv (d<$>5) aHi (eB P f m YY qj c6 c7 c8) (sM st (aS rs Y ↑rs).2.1 (aS rs Y ↑rs).1 (aS rs Y ↑rs).2.2 [])=qz ((iH rs Y aG).1.map nD,sM st (iH rs Y aG).2.1 (aS rs Y ↑rs).1 (iH rs Y aG).2.2 []):=by
  refine @aBk _ _ ((nE rs aG).map λ q=>nD q.1) _ (.one 9) _ _ (lv (d<$>5) (.it (.ix (.var 0) (.int 1)))) (ev (d<$>5) (.mth "fetch" 56 (.var 4) (.cons (.var 9) (.cons (.call 10 (.cons (.var 0) (.cons (.var 9) .nil))) .nil)))) ?_ (by rw[yAd];omega) (xE (λ q=>nD q.1) (λ q=>_) (λ q=>rfl) _ _ _ () λ q hq R E T h1=>?_)
  .have:(nE rs aG).map (λ q=>nD q.1)=aG.map nD:=by unfold nE;rw[yBi];rfl
   rw[this];erw[1,eB,i1,gY]
  .let(h3,h4,h5):=hh q hq;have w1:=λ S=>wo q.1 h4 S
   have ew:rs[q.1].w=q.2:=by rw[h5,jG (yAb h4)]
   rw[ew] at w1;have ft:=@pF st _ _ _ T _ P _ (d+2) q.2 h3 h1;rw[<- hYY] at ft;exact fL rfl rfl (aD rfl (aD (aV rfl (w1 _)) rfl)) ft
 have tp1:rG [.list ((iH rs Y aG).1.map nD)]=qz (.tuple ((iH rs Y aG).1.map nD)):=rfl;have tp2:rG [.list ((iH rs Y aG).2.1.map Rw.d)]=qz (.tuple ((iH rs Y aG).2.1.map Rw.d)):=rfl;have mk1:ev (d<$>5) (.mk cl_ini 3 (.cons (.var 0) (.cons (.var 3) .nil))) [qz (.d P),qz (.d f),qz (.d m),qz (.d YY),qj,qj,qj,qj,qj,qj] [st]=qz (dF P YY,sM st [] [] [] []):=aNr rfl rfl rfl rfl;have body:xs (d<$>5) aI1 [qz (.d P),qz (.d f),qz (.d m),qz (.d YY),qj,qj,qj,qj,qj,qj] [st]=qz (.rt (.d (sH rs Y aG)),sM st (iH rs Y aG).2.1 (aS rs Y ↑rs).1 (iH rs Y aG).2.2 []):=by
  refine bK mk1 rfl (cK p1 (bK (cQ (aD (fA hC) rfl) rfl tp1) rfl (aT ?_)));exact dO (aD (cQ (aD (xA rfl rfl) rfl) rfl tp2) rfl) rfl (by simp)
 exact cH rfl rfl rfl body rfl
structure Trd(rs:List Rw)(aG:List Nat)(Q:List Rw)(os:List Nat):Prop where
 ok:dN [] Q
 le:↑Q<=250
 lt:∀ o∈os,o<↑Q
 ln:↑os=↑aG
 ins:Q.filter dA=rs.filter dA
 ws:os.map (g0 (wQ Q))=aG.map (g0 (wQ rs))
 told:∀ is,cO rs is->cO Q is/\os.map (g0 (rn Q is))=aG.map (g0 (rn rs is))
def aEB{P:Nat×Nat->Nat->Prop}{f:Nat->Nat×Nat}{h k:Nat->Nat}:∀ {l ns:Li Nat},Paired P (l.map f) ns->(∀ o∈l,∀ n,P (f o) n->h n=k o)->ns.map h=l.map k
 |[],_,p,_=>by cases p;rfl
 |o::l,_,p,g=>by
   cases p with
   |cons p1 p2=>rw[yAk,yAk,g o xAc _ p1,aEB p2 λ x hx=>g x (xAf _ hx)]
def aMb{P:Nat×Nat->Nat->Prop}:∀ {l:Li (Nat×Nat)}{ns:Li Nat},Paired P l ns->↑ns=↑l/\∀ n∈ns,∃ q,P q n
 |[],_,p=>by cases p;simp_all
 |q::l,_,p=>by
   cases p with
   |cons p1 p2=>
     let(h1,h2):=aMb p2;refine(by rw[yAn,yAn,h1],λ n hn=>?_,);rcases List.mem_cons.mp hn with rfl|hn
     .exact(_,p1,)
     .exact h2 n hn
def aVJ(p:Prg rs)(sd:Snd rs F)(hF:↑F=↑rs)(ho:∀ o∈aG,o<↑rs)(hl:↑rs<=40)(hol:↑aG<=8):Yg rs (dD rs F (dZ rs F aG))/\Trd rs aG (iH rs (dD rs F (dZ rs F aG)) aG).2.1 (iH rs (dD rs F (dZ rs F aG)) aG).1:=by
 have hb:=aWo (F:=F) p ho;have b0:Bd rs (aG.foldl (fX rs) (yAg ↑rs 0)):=aEb aG _ ho aDS;have met:Met rs F (dZ rs F aG):=λ j r hr q hq=>aI5 p _ _ b0 (yAc _) j r (gIm hr).1 hr q hq
 have g:=aTX p hF hb (aXt p met);refine(g,?_,);have mv:=aBp p g ↑rs (yAc _);have fl:∀ o∈aG,∀ i,i<g0 (wQ rs) o->((dZ rs F aG).getD o 0)[i]! =Tt:=λ o mo i hi=>by
  refine aDJ ↑rs _ o i ?_;show((aG.foldl (fX rs) (yAg ↑rs 0)).getD o 0)[i]! =Tt;rw[aJ5 aG _ o (by rw[yCp];exact ho o mo) (.inl mo)];exact aX9 hi
 have gw:∀ o∈aG,1<=g0 (wQ rs) o/\g0 (wQ rs) o<=64:=λ o mo=>by
  have ol:=ho o mo;have hr:rs[o]?=qz rs[o]:=yAb ol;rw[show g0 (wQ rs) o=rs[o].w from jG hr];exact p.ws o _ hr
 have a:=aEv (nE rs aG) mv.g (λ q hq=>by
  let(o,mo,rfl):=List.mem_map.mp hq;exact(mv.pl o (ho o mo),(gw o mo).1,yAc _,(gw o mo).2,))
 have lo:↑(nE rs aG)=↑aG:=yAd ..;have fo:=(lB mv.g.ok).1;have mr:=mv.r;unfold iH;let(X,hX):=a.pre;let(pl1,pl2):=aMb a.at_;have ar:=a.r;have ins:(cW (dD rs F (dZ rs F aG)) (aS rs (dD rs F (dZ rs F aG)) ↑rs).1 (aS rs (dD rs F (dZ rs F aG)) ↑rs).2.1 (aS rs (dD rs F (dZ rs F aG)) ↑rs).2.2 (nE rs aG)).2.1.filter dA=rs.filter dA:=by
  rw[a.ni,mv.ins,yAf]
 refine(a.g.ok,(),λ n hn=>?_,pl1.trans lo,ins,?_,λ is hi=>((xC _ is).mpr (by rw[ins];exact(xC rs is).mp hi),?_,),)
 .let(q,hq):=pl2 n hn;exact pR hq.1
 .exact aEB a.at_ λ o _ n h=>pT h.1
 .refine aEB a.at_ λ o mo n h=>?_
  rw[h.2 is hi];dsimp only;have hq:=mv.pl o (ho o mo);rw[hX,aER fo is hq,yBk (rP mv.g hi hq)];have ol:=ho o mo;have hr:rs[o]?=qz rs[o]:=yAb ol;refine aBy (rP mv.g hi hq) (by rw[show g0 (wQ rs) o=rs[o].w from jG hr];exact aLM p hi hr) λ i hi'=>aZ2 p sd hF hb met mv (yAc _) hi o (ho o mo) i (fl o mo i hi')
def aXv{f g:Ft}(h:f.d=g.d):f=g:=by
 cases f;cases g;injection h with h
 grind
def aR8{F F':Li Ft}(p:Prg rs)(h:↑F=↑rs)(h':↑F'=↑rs)(o:vE rs F)(o':vE rs F'):F=F':=by
 have key:∀ i,i<↑rs->f0 F i=f0 F' i:=λ i=>by
  induction i using Nat.strongRecOn with
  |ind i ih=>
    intro hi;have hr:rs[i]?=qz rs[i]:=yAb hi;let(g,hg,n1):=o i _ () hr;let(g',hg',n2):=o' i _ () hr;have e:jL rs[i] F=jL rs[i] F':=by
     unfold jL;refine yBs λ a ha=>?_
     have:=(p.fit i _ hr).2 a ha;exact ih a this ()
    have r1:=n1.rule 0 [];rw[e,n2.rule 0 []] at r1;rw[<- hg,<- hg'];injection r1 with r1
    injection r1 with r1
    injection r1 with r1
    exact(aXv r1).symm
 refine yIa () λ i h1 h2=>?_
 have:=key i ();have a1:=nQ h1;have a2:=nQ h2;rw[yAb h1] at a1;rw[yAb h2] at a2;rw[Option.some.inj a1,Option.some.inj a2,this]
noncomputable abbrev sC(ns:List Int)(k:Nat)(x:Int)(rs:List Rw)(sm:List Nat):aE:=[qz (bV ns k x),qz (rs.map Rw.d),qz (sm.map nD)]
noncomputable abbrev eC(w:Nat)(c4 c5:Option W):bG:=[#[0],(w:),#[1],#[2],c4,c5]
def dC(ns:Li Int)(k:Nat)(x:Int)(rs:Li Rw)(sm:Li Nat)(d m:Nat)(hm:0<m)(hm2:m<2^64)(hk:k<=90000):∃ (r:Nat) (x':Int),r<m/\cl fns (d+1) 79 [.loc 0,.d (Iz m)] (sC ns k x rs sm)=qz (.d (Iz r),sC ns (k+1) x' rs sm):=aEt [qz (rs.map Rw.d),qz (sm.map nD)] (by simp) d m hm hm2 ()
def apS{x:Int}{sm:Li Nat}(a:Nat)(hl:↑sm<=900):eZ (sC ns k x rs sm) (.loc 2) (.d (Iz a))=qz (.d .none,sC ns k x rs (sm++[a])):=by show(if ↑(sm.map nD)<qk then _ else qj)=_;rw[if_pos (by rw[yAd,zx];omega),show sm.map nD++[Iz (a:Nat)]=(sm++[a]).map nD by rw[yAy];rfl];rfl
def aFx(rs:Li Rw)(r:Rw):(wQ (rs++[r]))[↑rs]?=qz r.w:=by unfold wQ;rw[yAe,aBl];rfl
def aVZ(h:dN [] rs)(hr:fV (wQ rs) r):dN [] (rs++[r]):=sX h (by rw[yEg];exact hr)
def push(ok:dN [] rs)(hr:fV (wQ rs) r)(hl:↑rs<=900):∃ R,dN [] R/\↑R=↑rs+1/\(wQ R)[↑rs]?=qz r.w/\(∀ s v:Nat,(wQ rs)[s]?=qz v->(wQ R)[s]?=qz v)/\∀ ns k x sm,eZ (sC ns k x rs sm) (.loc 1) (.d r.d)=qz (.d .none,sC ns k x R sm):=by refine(rs++[r],aVZ ok hr,xAn,aFx rs r,λ s v h=>yN h,λ ns k x sm=>?_,);show(if ↑(rs.map Rw.d)<qk then _ else qj)=_;rw[if_pos (by rw[yAd,zx];omega),show rs.map Rw.d++[r.d]=(rs++[r]).map Rw.d by rw[yAy];rfl];rfl
def uY(c:Nat)(h:a=b+c):cD .Sub (.int a) (.int c)=qz (.int b):=by rw[aCl (),h,yGa]
def bAu{sm:Li Nat}(x:Int)(d:Nat)(w2:2<=w)(w64:w<=64)(hk:k<=80000)(ok:dN [] rs)(lr:↑rs<=20)(ls:↑sm<=20)(hs:∀ s∈sm,(wQ rs)[s]?=qz w)(c4 c5:Oz W):∃ (bA:Li Rw) (sm':Li Nat) (k':Nat) (x':Int),dN [] bA/\↑bA<=↑rs+3/\↑sm'=↑sm+1/\(∀ s∈sm',(wQ bA)[s]?=qz w)/\k'<=k+4/\xs (d<$>1) aAA (eC w c4 c5) (sC ns k x rs sm)=qz (.nx (eC w c4 c5),sC ns k' x' bA sm'):=by
 let(q1,x1,h1,e1):=dC ns k x rs sm d w () () ();let(R1,o1,l1,n1,k1,p1):=@push _ (.in,1+q1,[],) ok (by simp_all,by show 1+q1<=64;omega,trivial,) ();let(q2,x2,h2,e2):=dC ns (k+1) x1 R1 sm d 2 (·) (·) ();let(wd,aN,iw):=aMg h2;let(R2,o2,l2,n2,k2,p2):=@push _ (wd,w,[↑rs],) o1 (by rcases aN with rfl|rfl<;>exact(by show 1<=w;omega,w64,1+q1,n1,by show 1+q1<=w;omega,)) ();let(q3,x3,h3,e3):=dC ns (k+2) x2 R2 sm d 3 (·) (·) ();obtain⟨R3,k3,x4,m,o3,l3,l4,hk3,at3,kp3,s3⟩:∃ (R3:Li Rw) (k3:Nat) (x4:Int) (m:Nat),dN [] R3/\↑R3=m+1/\↑R3<=↑rs+3/\k3<=k+4/\(wQ R3)[m]?=qz w/\(∀ s v:Nat,(wQ R2)[s]?=qz v->(wQ R3)[s]?=qz v)/\xs (d<$>1) (mB (bH (bH aAA))) (eC w c4 c5) (sC ns (k+2) x2 R2 sm)=qz (.nx (eC w c4 c5),sC ns k3 x4 R3 sm):=by
  by_cases c:q3=1
  .let(q4,x4,h4,e4):=dC ns (k+3) x3 R2 sm d w () () ();let(R3,o3,l3,n3,k3,p3):=@push _ (.slide,w,[↑R1,q4],) o2 (by show 1<=w;omega,w64,n2,(),) ();exact(R3,k+4,x4,↑R2,o3,l3,(),yAc _,n3,k3,jB (aZ (aV (cB rfl aJ) e3) aJ (aCk ())) (fK (gP (iN (aC rfl) (dO (aD bZ (aD (aC rfl) (aD (bP (gQ rfl rfl) aJ (uY 1 l2)) (aD (aV (cB rfl (aC rfl)) e4) aO)))) rfl (yAa rfl)) (p3 _ _ _ _)))),)
  .exact(R2,k+3,x3,↑R1,o2,l2,(),(),n2,λ s v h=>h,jA (aZ (aV (cB rfl aJ) e3) aJ (aCt ())) rfl,)
 refine(R3,sm++[m],k3,x4,o3,l4,xAn,λ s h=>?_,hk3,cK (gP (iN (aC rfl) (dO (aD bZ (aD (bP aJ (aV (cB rfl (aC rfl)) e1) (qF 1 q1)) aO)) rfl (yAa rfl)) (p1 _ _ _ _))) (cK (gP (iN (aC rfl) (dO (aD (bM (fA (fU (aD bZ (aD bZ aO)) rfl (yAa rfl))) (aV (cB rfl aJ) e2) rfl iw) (aD (aC rfl) (aD (bP (gQ rfl rfl) aJ (uY 1 l1)) aO))) rfl (yAa rfl)) (p2 _ _ _ _))) (cK s3 (fK (gP (iN (aC rfl) (bP (gQ rfl rfl) aJ (uY 1 l3)) (apS m ())))))),);rcases List.mem_append.mp h with h|h
 .exact kp3 s w (k2 s w (k1 s w (hs s h)))
 .rw[List.mem_singleton.mp h];exact at3
def aRn{x:Int}(d:Nat)(hk:k<=70000):∃ (rs:Li Rw) (aG:Li Nat) (k':Nat) (x':Int),dN [] rs/\↑rs<=40/\(∀ o∈aG,o<↑rs)/\↑aG<=8/\k'<=k+20/\cl fns (d+2) 90 [.loc 0] [qz (bV ns k x)]=qz (.d (rs<*(aG*>nD)),[qz (bV ns k' x')]):=by
 let(q,x1,hq,e1):=@aEt k ns x [] (·) d 63 (·) (·) ();obtain⟨w,hw⟩:∃ w,w=2+q:=(_,rfl,);let(aY,S',p1,a4,rs,sm,k1,x2,ok,lr,ls,hs,hk1,rfl,rfl):=aBw (t:=.one 4) (fi:=lv (d<$>1) aGB) (fb:=xs (d<$>1) aAA) (env:=eC w qj qj) (S:=sC ns (k+1) x1 [] [])
  (λ j env S'=>∃ (a4:Oz W) (rs:Li Rw) (sm:Li Nat) (k':Nat) (x':Int),dN [] rs/\↑rs<=3*j/\↑sm=j/\(∀ s∈sm,(wQ rs)[s]?=qz w)/\k'<=k+1+4*j/\env=eC w a4 qj/\S'=sC ns k' x' rs sm)
  (sW (w:=2) rfl ()) (qj,[],[],k+1,x1,trivial,yAc _,rfl,(λ s h=>by cases h),yAc _,rfl,rfl,) (by
    rintro j dd env S' hj ⟨a4,rs,sm,k',x',ok,lr,ls,hs,hk',rfl,rfl⟩;have hj':j<2:=by simpa using hj
    let(bA,sm',k2,x2,ok',lr',ls',hs',hk2,e):=@bAu _ k' _ ns _ x' d (show 2<=w by omega) (show w<=64 by omega) () ok () () hs (qz (.d dd)) qj
    exact(_,_,_,rfl,e,_,bA,sm',k2,x2,ok',(),(),hs',(),rfl,rfl,))
 rw[yAd,yEi] at lr ls hk1;obtain⟨s0,s1,rfl⟩:∃ a b,sm=[a,b]:=by
  match sm,ls with
  |[a,b],_=>exact(a,b,rfl,)
 have h0:=hs s0 xAc;have h1:=hs s1 (xAf _ xAc);let(q3,x3,hq3,e3):=dC ns k1 x2 rs [s0,s1] d 3 (·) (·) ();obtain⟨wd,aN,iw⟩:∃ wd:Wd,(wd=.same\/wd=.less\/wd=.under)/\aU (.list [.str "same",.str "less",.str "under"]) (.int q3)=qz (.str wd.s):=by
  rcases (show q3=0\/q3=1\/q3=2 by omega) with rfl|rfl|rfl
  .exact(.same,.inl rfl,rfl,)
  .exact(.less,.inr (.inl rfl),rfl,)
  .exact(.under,.inr (.inr rfl),rfl,)
 let(R1,o1,l1,n1,g1,p2):=@push _ (wd,1,[s0,s1],) ok (by erw[50,aN]<;>exact(yAc 1,(show(1:Nat)<=64 by decide),rfl,w,h0,h1,)) ();let(R2,o2,l2,_,_,p3):=@push _ (.pick,w,[↑rs,s1,s0],) o1 (by show 1<=w;omega,by show w<=64;omega,n1,g1 _ _ h1,g1 _ _ h0,) ();let(q4,x4,hq4,e4):=dC ns (k1+1) x3 R2 [s0,s1] d 2 (·) (·) ();refine(R2,[↑R1-q4,↑rs],k1+2,x4,o2,(),λ o h=>?_,by show 2<=8;decide,(),cH rfl rfl rfl (bK (bP aJ (aV (cB rfl aJ) e1) (qF 2 q)) rfl (bK (nZ (fU aO rfl (yAa rfl))) rfl (bK (nZ (fU aO rfl (yAa rfl))) (by rw[<- hw];rfl) (cK (nL p1) (bK (bM (fA (fU (aD bZ (aD bZ (aD bZ aO))) rfl (yAa rfl))) (aV (cB rfl aJ) e3) rfl iw) rfl (cK (gP (iN (aC rfl) (dO (aD (aC rfl) (aD aJ (aD (bM (aC rfl) aJ (fD rfl) rfl) (aD (bM (aC rfl) aJ (fD rfl) rfl) aO)))) rfl (yAa rfl)) (p2 _ _ _ _))) (cK (gP (iN (aC rfl) (dO (aD bZ (aD (aC rfl) (aD (bP (gQ rfl rfl) aJ (uY 1 l1)) (aD (bM (aC rfl) aJ (fD rfl) rfl) (aD (bM (aC rfl) aJ (fD rfl) rfl) aO))))) rfl (yAa rfl)) (p3 _ _ _ _))) (aT (dO (aD (cQ (aD (aC rfl) aO) (cN (fD rfl) cU) rfl) (aD (dO (aD (bP (bP (gQ rfl rfl) aJ (uY 1 l2)) (aV (cB rfl aJ) e4) (aCl ())) (aD (bP (gQ rfl rfl) aJ (uY 2 ())) aO)) rfl (yAa rfl)) aO)) rfl (yAa rfl)))))))))) rfl,);rcases List.mem_cons.mp h with rfl|h
 .omega
 .rw[List.mem_singleton.mp h];omega
def aSn{ns:Li Int}(d:Nat)(h1:↑ns<=63):∃ (rs:Li Rw) (aG:Li Nat) (k:Nat) (x:Int),dN [] rs/\↑rs<=40/\(∀ o∈aG,o<↑rs)/\↑aG<=8/\k<=900/\cl fns (d+7) 91 [.loc 0] [qz (bV ns 0 0)]=qz (.d (rs<*(aG*>nD)),[qz (bV ns k x)]):=by
 obtain⟨most,hm,et⟩:∃ t:Nat,t<=30/\(1:Int)+(if (24:Int)<(↑ns:_) then 24 else (↑ns:_))=(t:_):=by
  refine(1+min ↑ns 24,(),?_,);split<;>omega
 let(q,x1,hq,d1):=@aEt 0 ns 0 [] (·) (d+5) 6 (·) (·) ();have mn:lL [.int (↑ns:_),.int 24]=qz (.int (if (24:Int)<(↑ns:_) then 24 else (↑ns:_))):=rfl;have lN:lT [.list (ns.map Iz)]=qz (.int ↑ns):=by
  show qz (Iz ((↑(ns.map Iz):Nat):Int))=_;rw[yAd]
 have s0:aU (.list (bV ns 1 x1)) (.int 0)=qz (.list (ns.map Iz)):=rfl;by_cases c:q=1
 .let(rs,aG,k,x,ok,l1,ho,hol,hk,e):=@aRn 1 ns x1 (d+4) ();exact(rs,aG,k,x,ok,l1,ho,hol,(),cH rfl rfl rfl (bS (aZ (aV (cB rfl aJ) d1) aJ (aCk ())) (aT (aV (aD (aC rfl) aO) e))) rfl,)
 .let(rs,aG,k,x,ok,l0,l1,hk,ho,hol,e):=aWp d most ns hm 1 x1 ();exact(rs,aG,k,x,ok,l1,ho,hol,(),cH rfl rfl rfl (aP (aZ (aV (cB rfl aJ) d1) aJ (aCt ())) (aT (aV (aD (aC rfl) (aD (bP aJ (cQ (aD (cQ (aD (bM (aC rfl) aJ (fD rfl) s0) aO) (cN dJ cU) lN) (aD aJ aO)) (cN dJ (cN dJ cU)) mn) (by rw[iL,et])) aO)) e))) rfl,)
structure Sm(n:Nat)(x:D):Prop where
 e:yDt x x=Tt
 l:x.canLay0=Tt
 d:x.depth<=n
def Sm.up(h:Sm m x)(hn:m<=n):Sm n x:=(h.e,h.l,xAh h.d hn,)
def aE2:∀ {xs:Li D},(∀ x∈xs,Sm n x)->PyData.eqvAll xs xs=Tt/\yFc xs=Tt/\yEz xs<=n
 |[],_=>(rfl,rfl,yCd _,)
 |x::xs,h=>by
   let(h1,h2,h3):=aE2 (λ y hy=>h y (xAf _ hy));have hx:=h x xAc;simp only[PyData.eqvAll,yFc,yEz,h1,h2,hx.e,hx.l,yCo,true_and];exact Nat.max_le.mpr (hx.d,h3,)
def rK{xs:Li D}(h:∀ x∈xs,Sm n x):Sm (n+1) (.tuple xs):=by let(h1,h2,h3):=aE2 h;exact(by simp only[yDt,h1],h2,Nat.succ_le_succ h3,)
def aK8{xs:Li D}(h:∀ x∈xs,Sm n x):Sm (n+1) (.list xs):=by let(h1,h2,h3):=aE2 h;exact(by simp only[yDt,h1],h2,Nat.succ_le_succ h3,)
def aBS(a:Nat):Sm 0 (nD a):=(by simp[nD,yDt],rfl,yAc _,)
def aZP(w:Wd):Sm 0 (.str w.s):=(by simp[yDt],by cases w<;>kernel_rfl,yAc _,)
def bBY(y:Oz (Yw×Nat)):Sm 1 (yD y):=(by rw[aZt];simp_all,aZc y,bAF y,)
def aLt(r:Rw):Sm 1 r.d:=rK λ x hx=>by
 rcases List.mem_cons.mp hx with rfl|hx
 .exact aZP _
 .rcases List.mem_cons.mp hx with rfl|hx
  .exact aBS _
  .let(a,_,rfl):=List.mem_map.mp hx;exact aBS a
def aLu(h:Sm n x)(k:Sm n y):Sm (n+1) (.tuple [x,y]):=rK λ z hz=>by
 grind
def aZl(rs:Li Rw)(Y:Li (Oz (Yw×Nat)))(aG:Li Nat):Sm 3 (sH rs Y aG):=by
 refine aLu (n:=2) (rK λ x hx=>?_) ((@rK 0 _ λ x hx=>?_).up (·))
 .let(r,_,rfl):=List.mem_map.mp hx;exact aLt r
 .let(r,_,rfl):=List.mem_map.mp hx;exact aBS r
def aYN(Y:Li (Oz (Yw×Nat))):Sm 2 (Y*>yD):=rK λ x hx=>by
 let(r,_,rfl):=List.mem_map.mp hx;exact bBY r
def aMD(h:Sm n x)(hn:n<=60):bE .Eq x x=qz (.bool Tt):=by unfold bE rX;simp only[];rw[if_pos (h.l,h.l,xAh h.d hn,),h.e];rfl
def aE6(h:Sm n x)(hn:n<=60):bE .NotEq x x=qz (.bool Ff):=by unfold bE rX;simp only[];rw[if_pos (h.l,h.l,xAh h.d hn,),h.e];rfl
def aFp(l:Li Nat):∀ y∈l.map nD,Sm 0 y:=λ y hy=>by
 let(r,_,rfl):=List.mem_map.mp hy;exact aBS r
def aKv(b:Bool)(l:Li Nat):mK (l.map λ _=>Bz b)=qz (l.map λ _=>b):=by
 induction l with
 |nil=>rfl|cons a l ih=>simp only[yAk,mK,ih,oB]
def aXz(l:Li Nat):aCA [.list (l.map λ _=>Bz Tt)]=qz (.bool Tt):=by show(mK _).bind _=_;rw[aKv,oB];simp
def aLU(l:Li Nat):aCu [.list (l.map λ _=>Bz Ff)]=qz (.bool Ff):=by show(mK _).bind _=_;rw[aKv,oB];simp
def aUl(d:Nat)(h:RwOk r ws)(S:aE):cl fns (d+1) 66 [.d r.d,.d (ws*>nD)] S=qz (.d (Bz Tt),S):=by
 have run:∀ {r:Rw}{ws:Li Nat},xs (aF fns d) (bH (bH aHk)) [qz (.d r.d),qz (.d (ws*>nD)),qz (.d (Sz r.wd.s)),(r.w:),qj] S=qz (.rt (.d (Bz Tt)),S)->cl fns (d+1) 66 [.d r.d,.d (ws*>nD)] S=qz (.d (Bz Tt),S):=λ {r ws} k=>cH rfl rfl rfl (bK (bM (aC rfl) aJ rfl (iO r)) rfl (bK (bM (aC rfl) aJ rfl (jR r)) rfl k)) yAf
 have els:∀ (wd:Wd) (w:Nat) (as ws:Li Nat),gJ wd=Ff->(wd==.pick)=Ff->(wd==.cut)=Ff->(wd==.wide||wd==.sign)=false->↑ws<=3->(∀ v∈ws,v=w)->cl fns (d+1) 66 [.d (Rw.d ⟨wd,w,as⟩),.d (ws*>nD)] S=qz (.d (Bz true),S):=λ wd w as ws h6 h7 h4 h5 hl he=>run (by
  have hc:lv (aF fns d) aGT [qz (.d (Rw.d (wd,w,as,))),qz (.d (ws*>nD)),qz (.d (Sz wd.s)),(w:),qj] S=qz (ws.map (λ _=>Bz Tt),S):=
   mM (fi:=lv (aF fns d) (.it (.var 1))) (fe:=ev (aF fns d) (.cmp .Eq (.var 4) (.var 3))) nD (λ _=>Bz Tt) ws rfl (by rw[zx];omega) λ v hv=>(_,rfl,λ S'=>iA (aC rfl) (aC rfl) (by rw[he v hv,nD,cT,beq_self_eq_true]),)
  exact aP (aZ (aC rfl) rfl (fF (qG wd) h6)) (aP (aZ (aC rfl) bZ (fF (vA wd) h7)) (aP (aZ (aC rfl) bZ (fF (sG wd) h4)) (aP (aZ (aC rfl) rfl (fF (cq5 wd) h5)) (aT (cQ (aD (fA hc) aO) (cN dJ cU) (aXz ws)))))))
 have i1:∀ {w v:Nat},v∈[w]->v=w:=λ h=>List.mem_singleton.mp h
 have i2:∀ {w v:Nat},v∈[w,w]->v=w:=λ h=>by simpa using h
 have wi:∀ (wd:Wd) (w v a:Nat),v<=w->gJ wd=Ff->(wd==.pick)=Ff->(wd==.cut)=Ff->(wd==.wide||wd==.sign)=true->cl fns (d+1) 66 [.d (Rw.d ⟨wd,w,[a]⟩),.d (Tz ([v].map nD))] S=qz (.d (Bz true),S):=λ wd w v a hv h6 h7 h4 h5=>run (aP (aZ (aC rfl) rfl (fF (qG wd) h6)) (aP (aZ (aC rfl) bZ (fF (vA wd) h7)) (aP (aZ (aC rfl) bZ (fF (sG wd) h4)) (bS (aZ (aC rfl) rfl (jJ (cq5 wd) h5)) (aT (iA (bM (aC rfl) aJ rfl rfl) (aC rfl) (by rw[nD,tR,dqT (by dsimp only;omega)])))))))
 cases h with
 |inp=>exact els .in _ _ [] rfl rfl rfl rfl (yCd _) λ v h=>by cases h|num=>exact els .num _ _ [] rfl rfl rfl rfl (yCd _) λ v h=>by cases h|nt=>exact els .not _ _ [_] rfl rfl rfl rfl (yAa rfl) λ v=>i1
 |sh _ _ aN=>erw[50,aN]<;>exact els _ _ _ [_] rfl rfl rfl rfl (yAa rfl) λ v=>i1
 |cut _ hv=>exact run (aP (aZ (aC rfl) rfl (fF (qG _) rfl)) (aP (aZ (aC rfl) bZ (fF (vA _) rfl)) (bS (aZ (aC rfl) bZ (jJ (sG _) rfl)) (aT (iA (bM (aC rfl) aJ rfl rfl) (aC rfl) (by rw[nD,xR,dqT (by dsimp only;omega)]))))))|wide _ hv=>exact wi .wide _ _ _ hv rfl rfl rfl rfl|sign _ hv=>exact wi .sign _ _ _ hv rfl rfl rfl rfl
 |bw _ _ aN=>erw[50,aN]<;>exact els _ _ _ [_,_] rfl rfl rfl rfl (yAa rfl) λ v=>i2
 |sm h1 h2=>
   rename_i s w a b;cases s
   .exact els .add _ _ [_,_] rfl rfl rfl rfl (yAa rfl) λ v=>i2
   .exact els .sub _ _ [_,_] rfl rfl rfl rfl (yAa rfl) λ v=>i2
   .exact els .mul _ _ [_,_] rfl rfl rfl rfl (yAa rfl) λ v=>i2
 |cmp h1 h2 aN=>
   rename_i wd v a b;refine run (bS (aZ (aC rfl) rfl (jJ (qG wd) (by erw[50,aN]<;>rfl))) (aT (aM7 (p:=Tt) (iA (aC rfl) aJ rfl) (iA (bM (aC rfl) aJ rfl rfl) (bM (aC rfl) aJ rfl rfl) ?_))));rw[nD,cT,beq_self_eq_true]
 |pick h1 h2=>
   rename_i w c a b;refine run (aP (aZ (aC rfl) rfl (fF (qG _) rfl)) (bS (aZ (aC rfl) bZ (jJ (vA _) rfl)) (aT (iA (aC rfl) (dO (aD aJ (aD (aC rfl) (aD (aC rfl) aO))) rfl (yAa rfl)) ?_))));exact aMD (rK (aFp [1,w,w])) (·)
def aUY(d:Nat)(h:RwOk r ws)(S:aE):cl fns (d+2) 67 [.d r.d] S=qz (.d (Bz Tt),S):=by
 have sh:∀ wd:Wd,bE .In (.str wd.s) (pG*>Tv.d)=qz (.bool (decide (wd=.left\/wd=.right\/wd=.slide))):=aA2;have els:∀ (wd:Wd) (w:Nat) (as:Li Nat),(wd==.num)=Ff->decide (wd=.left\/wd=.right\/wd=.slide)=Ff->cl fns (d+2) 67 [.d (Rw.d ⟨wd,w,as⟩)] S=qz (.d (Bz Tt),S):=λ wd w as h1 h2=>cH rfl rfl rfl (aP (aZ (bM (aC rfl) aJ rfl (iO _)) bZ (fF (vI wd) h1)) (aP (aZ (bM (aC rfl) aJ rfl (iO _)) rfl (fF (sh wd) h2)) (aT aCv))) yAf
 cases h with
 |num h1 h2 hn=>
   rename_i w n;exact cH rfl rfl rfl (bS (aZ (bM (aC rfl) aJ rfl (iO _)) bZ (jJ (vI .num) rfl)) (aT (iA (bM (aC rfl) aJ rfl rfl) (aV (aD (bM (aC rfl) aJ rfl (jR _)) aO) (dI d w () S)) (by rw[nD,tR,dqT ()])))) yAf
 |sh h1 h2 aN hk=>
   rename_i wd w a k;refine cH rfl rfl rfl (aP (aZ (bM (aC rfl) aJ rfl (iO _)) bZ (fF (vI wd) ?_)) (bS (aZ (bM (aC rfl) aJ rfl (iO _)) rfl (jJ (sh wd) (dqT aN))) (aT (iA (bM (aC rfl) aJ rfl rfl) aJ (by rw[nD,tR,dqT ()]))))) yAf;erw[50,aN]<;>rfl
 |bw _ _ aN=>erw[50,aN]<;>exact els _ _ _ rfl rfl
 |sm h1 h2=>rename_i s _ _ _;cases s<;>exact els _ _ _ rfl rfl
 |cmp _ _ aN=>erw[50,aN]<;>exact els _ _ _ rfl rfl
 |_=>exact els _ _ _ rfl rfl
def lar(d:Nat){rs:Li Rw}{k:Nat}{r:Rw}(hr:rs[k]?=qz r)(p:Prg rs)(S:aE):cl fns (d+3) 68 [.d (rs*>Rw.d),.d (Iz k)] S=qz (.d .none,S):=by
 have rk:aU (rs*>Rw.d) (.int k)=qz r.d:=iK (by rw[yAe,hr];rfl)
 have hk:k<↑rs:=(gIm hr).1;let(f1,f2):=p.fit k r hr;let(w1,w2):=p.ws k r hr;have op:=pC (d+1) r S;have ol:↑(r.args.take (aW r.wd))<=3:=aJB r;have of':cl fns (d+2) 9 [.d r.d,.d (rs*>Rw.d)] S=qz (.d (Tz ((r.args.take (aW r.wd)).map λ a=>(rs.getD a r).d)),S):=wA d r (.d (rs*>Rw.d)) (rs*>Rw.d) (λ a=>(rs.getD a r).d) S (λ _=>rfl) λ a ha=>iK (by
  have hal:a<↑rs:=yEk (f2 a ha) hk;rw[yAe,xAg,yAb hal];rfl)
 have ha:lv (d<$>2) aGP [qz (.d (rs*>Rw.d)),(k:),qz (.d r.d),qj,qj,qj] S=qz ((r.args.take (aW r.wd)).map (λ _=>Bz Ff),S):=
  mM (fi:=lv (d<$>2) (.it (.call 7 (.cons (.var 2) .nil)))) (fe:=ev (d<$>2) (.cmp .GtE (.var 4) (.var 1))) nD (λ _=>Bz Ff) (r.args.take (aW r.wd)) (by erw[20,op,gY]) (by rw[zx];omega) λ a hm=>(_,rfl,λ S'=>iA (aC rfl) (aC rfl) (by have:=f2 a hm;rw[nD,xR,dqF ()]),)
 have hb:lv (d<$>2) aGI [qz (.d (rs*>Rw.d)),(k:),qz (.d r.d),qj,qj,qj] S=qz ((bI r (~~~rs)).map nD,S):=by
  unfold bI;rw[yBi];refine mM (fi:=lv (d<$>2) (.it (.call 9 (.cons (.var 2) (.cons (.var 0) .nil))))) (fe:=ev (d<$>2) (.ix (.var 5) (.int 1))) (λ a=>(rs.getD a r).d) (nD ∘ g0 (~~~rs)) (r.args.take (aW r.wd)) ?_ (by rw[zx];omega) λ a hm=>?_
  .erw[0,of',gY]
  refine(_,rfl,λ S'=>?_,);have hal:a<↑rs:=yEk (f2 a hm) hk;have e:rs[a]?=qz (rs.getD a r):=by rw[xAg,yAb hal];rfl
  show _=qz (W.d (nD (g0 (~~~rs) a)),S');rw[jG e];exact bM (aC rfl) aJ rfl (jR _)
 have d1:decide ((r.w:Int)<1)=Ff:=dqF ();have d2:decide ((64:Int)<(r.w:Int))=Ff:=dqF ();have c1:bE .Lt (.int r.w) (.int 1)=qz (.bool Ff):=by rw[lD,d1]
 have c2:bE .Gt (.int r.w) (.int 64)=qz (.bool Ff):=by rw[nN,d2]
 rw[bX rfl (d+2) _ S rfl];exact aLs rfl (bK (bM (aC rfl) (aC rfl) rfl rk) rfl (aP (yR (p:=Ff) (aZ (bM (aC rfl) aJ rfl (jR r)) aJ c1) (aZ (bM (aC rfl) aJ rfl (jR r)) aJ c2)) (aP (pX rfl (cQ (aD (fA ha) aO) (cN dJ cU) (aLU _)) rfl) (bK (cQ (aD (fA hb) aO) (cN dJ cU) pO) rfl (aP (xF (p:=Tt) (pX rfl (aV (aD (aC rfl) (aD (aC rfl) aO)) (aUl (d+1) f1 S)) rfl)) (aP (xF (p:=Tt) (pX rfl (aV (aD (aC rfl) aO) (aUY d f1 S)) rfl)) rfl)))))) yAf
def aTZ(d:Nat)(rs:Li Rw)(aG:Li Nat)(ok:dN [] rs)(ho:∀ o∈aG,o<↑rs)(hl:↑rs<=250)(hol:↑aG<=1000)(S:aE):cl fns (d+4) 69 [.d (rs<*(aG*>nD))] S=qz (.d (Bz Tt),S):=by
 have p:=aEW ok hl;have ll:lT [(rs*>Rw.d)]=qz (.int ↑rs):=by rw[aED,yAd]
 have it:lv (d<$>3) aDv [qz (.d (rs<*(aG*>nD))),qj,qz (.d (rs*>Rw.d)),qz (.d (aG*>nD)),qj] S=qz ((yBh ↑rs).map λ k=>Iz (k:_),S):=by
  simp only[aDv,aFd,aBe,aDR,aD3,aEA,aD1];exact sW (cQ (aD (aC rfl) aO) (cN dJ cU) ll) ()
 let(aY,S',p1,a1,rfl,hS):=pL (t:=.one 1) (fb:=xs (d<$>3) aJh)
  (λ j env S'=>∃ a1:Oz W,env=[qz (.d (rs<*(aG*>nD))),a1,qz (.d (rs*>Rw.d)),qz (.d (aG*>nD)),qj]/\S'=S)
  it (qj,rfl,rfl,) (by
   rintro j dd env S' hd ⟨a1,rfl,rfl⟩;let(hj,rfl):=aRv hd;exact(_,_,_,rfl,fK (gP (aV (aD (aC rfl) (aD (aC rfl) aO)) (lar d (yAb hj) p S'))),(j:),rfl,rfl,))
 rw[hS] at p1;have hc:lv (d<$>3) aI2 [qz (.d (rs<*(aG*>nD))),a1,qz (.d (rs*>Rw.d)),qz (.d (aG*>nD)),qj] S=qz (aG.map (λ _=>Bz Ff),S):=
  mM (fi:=lv (d<$>3) (.it (.var 3))) (fe:=ev (d<$>3) (.cmp .GtE (.var 4) (.blt .len (.cons (.var 2) .nil)))) nD (λ _=>Bz Ff) aG rfl (by rw[zx];omega) λ a hm=>(_,rfl,λ S'=>iA (aC rfl) (cQ (aD (aC rfl) aO) (cN dJ cU) ll) (by have:=ho a hm;rw[nD,xR,dqF ()]),)
 exact cH rfl rfl rfl (cK (rF (aC rfl) rfl) (cK p1 (aP (pX rfl (cQ (aD (fA hc) aO) (cN dJ cU) (aLU _)) rfl) (aT aCv)))) yAf
def aDc:∀ (rs:Li Rw) (W is aH:Li Nat),iR rs W is (yAg ↑rs 0) aH=cP rs W is aH
 |[],_,_,_=>rfl
 |r::rs,W,is,aH=>by
   rw[yAn,yBg,iR,cP,yIj,yIj,aDc rs,aDc rs]
def aK4{rs:Li Rw}(d:Nat)(o:D)(hl:↑rs<=1000)(S:aE):cl fns (d+1) 93 [.d (rs<*o)] S=qz (.d (Lz ((rs.filter dA).map Rw.d)),S):=by
 have i0:aU (rs<*o) (.int 0)=qz (rs*>Rw.d):=rfl;have hc:lv (aF fns d) aG5 [qz (.d (rs<*o)),qj] S=qz ((rs.filter dA).map Rw.d,S):=by
  refine @aDB _ _ _ _ _ (lv (aF fns d) (.it (.ix (.var 0) (.int 0)))) (tv (aF fns d) (.cmp .Eq (.ix (.var 1) (.int 0)) (.str "in"))) (ev (aF fns d) (.var 1)) Rw.d Rw.d dA rs ?_ (by rw[zx];omega) λ r _=>?_
  .erw[0,i0,gY]
  .have e0:=iO r;have en:=bY r.wd .in;have en:bE .Eq (.str r.wd.s) (.str "in")=qz (.bool (dA r)):=en;generalize r.d=R at *;refine(_,rfl,λ aH=>?_,λ _ aH=>?_,)
   .erw[0,clr,yBw,yFi,e0,en]
   .erw[0,clr,yBw,yFi]
 refine dB rfl d rfl rfl yAf (aT ?_);generalize Tz [(rs*>Rw.d),o]=P at *;erw[0,hc]
def aJD(d:Nat)(p:Prg rs)(hi:cO rs is)(ho:∀ o∈aG,o<↑rs)(hol:↑aG<=8)(S:aE):cl fns (d+8) 78 [.d (rs<*(aG*>nD)),.d (is*>nD)] S=qz (.d (Tz ((aG.map (g0 (rn rs is))).map nD)),S):=by have rg:=aSX d rs (aG*>nD) is p.l p.fit hi S;rw[aDc] at rg;have oo:=aPW (d+6) (rs*>Rw.d) aG (rn rs is) (by rw[pN];exact ho) hol S;refine dB rfl (d+7) rfl rfl yAf (aT ?_);generalize Tz [(rs*>Rw.d),(aG*>nD)]=P at *;generalize Tz (is.map nD)=I at *;generalize Tz ((aG.map (g0 (rn rs is))).map nD)=O at *;have rg:cl fns (d+7) 76 [.d P,.d I] S=qz (.d (Tz ((rn rs is).map nD)),S):=rg;generalize Tz ((rn rs is).map nD)=N at *;erw[0,rg,oo]
def aLn{rs:Li Rw}(d:Nat)(ho:∀ o∈aG,o<↑rs)(hol:↑aG<=8)(S:aE):cl fns (d+1) 94 [.d (rs<*(aG*>nD))] S=qz (.d (Lz ((aG.map (g0 (wQ rs))).map nD)),S):=by
 have i0:aU (rs<*(aG*>nD)) (.int 0)=qz (rs*>Rw.d):=rfl;have i1:aU (rs<*(aG*>nD)) (.int 1)=qz (aG*>nD):=rfl;generalize Tz [(rs*>Rw.d),(aG*>nD)]=P at *;have hc:lv (aF fns d) aGL [qz (.d P),qj] S=qz ((aG.map (g0 (wQ rs))).map nD,S):=by
  rw[yBi];refine mM (fi:=lv (aF fns d) (.it (.ix (.var 0) (.int 1)))) (fe:=ev (aF fns d) (.ix (.ix (.ix (.var 0) (.int 0)) (.var 1)) (.int 1))) nD (nD ∘ g0 (wQ rs)) aG ?_ (by rw[zx];omega) λ o m=>?_
  .erw[0,i1,gY]
  .have ol:=ho o m;have hr:rs[o]?=qz rs[o]:=yAb ol;have g:aU (rs*>Rw.d) (.int o)=qz rs[o].d:=iK (by rw[yAe,hr];rfl);have rw:=jR rs[o];have gw:g0 (wQ rs) o=rs[o].w:=jG hr;refine(_,rfl,λ S'=>?_,);show _=qz (W.d (nD (g0 (wQ rs) o)),S');rw[gw];generalize rs[o].d=RD at *;generalize Tz (rs.map Rw.d)=RT at *;erw[0,clr,yBw,yFi,i0,nD,g,rw]
 exact cH rfl rfl rfl (aT (fA hc)) yAf
def aRZ(d:Nat)(l:Li Nat)(hl:↑l<=1000)(S:aE):cl fns (d+1) 95 [.d (l*>nD),.d (l*>nD)] S=qz (.d (Bz Tt),S):=by
 have ne:=aE6 (rK (aFp l)) (·);have e0:bE .Eq (.list []) (.list [])=qz (.bool Tt):=by kernel_rfl
 have hc:lv (aF fns d) aGV [qz (.d (l*>nD)),qz (.d (l*>nD)),qj] S=qz ([],S):=by
  have:=@aDB [qz (.d (l*>nD)),qz (.d (l*>nD)),qj] S S _ (.one 2) (lv (aF fns d) (.it (.var 0))) (tv (aF fns d) (.or (.not (.isi (.var 2) .int)) (.isi (.var 2) .bool))) (ev (aF fns d) (.var 2)) nD nD (λ _=>Ff) l rfl (by rw[zx];omega) λ a _=>⟨_,rfl,λ aH=>rfl,λ h=>by cases h⟩
  rw[List.filter_eq_nil_iff.mpr λ a _=>yBr] at this;exact this
 exact cH rfl rfl rfl (aP (yR (p:=Ff) (xF (p:=Tt) (pX rfl (aMi (aC rfl) rfl aMy) rfl)) (aZ (aC rfl) (aC rfl) ne)) (aT (iA (fA hc) (fA (fU aO rfl (yAa rfl))) e0))) yAf
def aHq{F:Li Ft}(d:Nat)(p:Prg rs)(hl:↑rs<=60)(hF:↑F=↑rs)(aG:Li Nat)(ho:∀ o∈aG,o<↑rs)(hol:↑aG<=20)(g:Yg rs (dD rs F (dZ rs F aG)))(st:Oz (Li D))(eF:cl fns (d+9) 48 [.d (rs<*(aG*>nD))] [st]=qz (.d (F*>Ft.d),[st])) :
 cl fns (d+10) 65 [.d (rs<*(aG*>nD))] [st]=qz (.d (Tz [sH rs (dD rs F (dZ rs F aG)) aG,Tz ((dD rs F (dZ rs F aG)).map yD)]),[st]):=by
 let(hb,eA):=aSr (d+2) p hF aG ho [st];have eS:=aRa (d+4) p hF hb (aG*>nD) [st];have eM:=aU7 (d+3) p hl g aG ho hol (F*>Ft.d) (.tuple ((dZ rs F aG).map nD)) st;generalize sH rs (dD rs F (dZ rs F aG)) aG=Z at eM ⊢;generalize Tz ((dD rs F (dZ rs F aG)).map yD)=YY at eM eS ⊢;generalize Tz ((dZ rs F aG).map nD)=MM at eM eS eA;generalize Tz [(rs*>Rw.d),(aG*>nD)]=P at eF eA eM eS ⊢;generalize Tz (F.map Ft.d)=FF at eF eA eM eS;have body:xs (d<$>9) aIw [qz (.d P),qj,qj,qj] [st]=qz (.rt (.d (Tz [Z,YY])),[st]):=
  bK (aV (aD (aC rfl) rfl) eF) rfl (bK (aV (aD (aC rfl) (aD (aC rfl) rfl)) eA) rfl (bK (aV (aD (aC rfl) (aD (aC rfl) (aD (aC rfl) rfl))) eS) rfl (aT (dO (aD (aV (aD (aC rfl) (aD (aC rfl) (aD (aC rfl) (aD (aC rfl) rfl)))) eM) (aD (aC rfl) rfl)) rfl (yAa rfl)))))
 exact cH rfl rfl rfl body rfl
def aXB(d:Nat)(ns:Li Int)(h1:↑ns<=63):∃ S',cl fns (d+11) 96 [.d (Lz (ns.map Iz))] []=qz (.d (Bz Tt),S'):=by
 let(rs,aG,k0,x0,ok,l0,ho,hol,hk0,e0):=@aSn ns (d+3) h1;have p:=aEW ok ();let(F,hF,sd,ow,eF):=aHo d rs (aG*>nD) p [qz (bV ns k0 x0)];let(g,t):=aVJ p sd hF ho l0 hol;have eN:=aHq d p () hF aG ho () g (qz (bV ns k0 x0)) eF;have sm2:=aLu (aZl rs (dD rs F (dZ rs F aG)) aG) ((aYN (dD rs F (dZ rs F aG))).up (n:=3) (·));have eq2:=aMD sm2 (·);have ag:∀ k x,cl fns (d+10) 65 [.d (rs<*(aG*>nD))] [qz (bV ns k x)]=qz (.d (Tz [sH rs (dD rs F (dZ rs F aG)) aG,Tz ((dD rs F (dZ rs F aG)).map yD)]),[qz (bV ns k x)]):=λ k x=>by
  let(F',hF',_,ow',eF'):=aHo d rs (aG*>nD) p [qz (bV ns k x)];rw[<- aR8 p hF hF' ow ow'] at eF';exact aHq d p () hF aG ho () g (qz (bV ns k x)) eF'
 generalize Tz ((dD rs F (dZ rs F aG)).map yD)=YY at *;unfold sH at eN eq2 ag;generalize (iH rs (dD rs F (dZ rs F aG)) aG).2.1=Q at *;generalize (iH rs (dD rs F (dZ rs F aG)) aG).1=os at *;have le:=t.le;have pq:=aEW t.ok le;have lk:cl fns (d+10) 69 [.d (Q<*(os*>nD))] [qz (bV ns k0 x0)]=qz (.d (Bz Tt),[qz (bV ns k0 x0)]):=aTZ (d+6) Q os t.ok t.lt le (by rw[t.ln];omega) _;have in1:=@aK4 Q (d+9) (os*>nD) () [qz (bV ns k0 x0)];have in2:=@aK4 rs (d+9) (aG*>nD) () [qz (bV ns k0 x0)];rw[t.ins] at in1;have w1:=@aLn os Q (d+9) t.lt (by rw[t.ln];exact hol) [qz (bV ns k0 x0)];have w2:=@aLn aG rs (d+9) ho hol [qz (bV ns k0 x0)];rw[t.ws] at w1;have nl:=aE6 (@aK8 1 ((rs.filter dA).map Rw.d) λ y m=>by let(r,_,rfl):=List.mem_map.mp m;exact aLt r) (·);have nw:=aE6 (aK8 (aFp (aG.map (g0 (wQ rs))))) (·);have nt:bE .IsNot (.bool Tt) (.bool Tt)=qz (.bool Ff):=by kernel_rfl
 obtain⟨P,hP⟩:∃ P:D,P=(rs<*(aG*>nD)):=(_,rfl,);obtain⟨M2,hM⟩:∃ P:D,P=(Q<*(os*>nD)):=(_,rfl,);rw[<- hM] at eN lk in1 w1 eq2;rw[<- hP] at e0 eN in2 w2;let(aY,S',p1,a3,a6,k',x',hk',rfl,rfl):=aBw (t:=.one 3) (fi:=lv (d<$>10) aDO) (fb:=xs (d<$>10) aKu) (env:=[qz (.d (Lz (ns.map Iz))),#[0],qz (.d P),qj,qz (.d M2),qz (.d YY),qj]) (S:=[qz (bV ns k0 x0)]) (S1:=[qz (bV ns k0 x0)]) (ds:=(yBh 6).map (λ k=>Iz (k:Nat)))
  (λ j env S'=>∃ (a3 a6:Oz W) (k':Nat) (x':Int),k'<=k0+200*j/\env=[qz (.d (Lz (ns.map Iz))),#[0],qz (.d P),a3,qz (.d M2),qz (.d YY),a6]/\S'=[qz (bV ns k' x')])
  (by
    simp only[aDO,aBe];exact sW (w:=6) rfl ())
  (qj,qj,k0,x0,(),rfl,rfl,) (by
   rintro j dd env S' hj ⟨a3,a6,k',x',hk',rfl,rfl⟩;have hj':j<6:=by simpa using hj
   let(is,k2,x2,hi,hk2,ei):=@aQB k' ns x' (d+6) rs (aG*>nD) p ();let(hq,et):=t.told is hi;have t1:=@aJD Q _ os (d+2) pq hq t.lt (by rw[t.ln];exact hol) [qz (bV ns k2 x2)];have t2:=@aJD rs _ aG (d+2) p hi ho hol [qz (bV ns k2 x2)];rw[et] at t1;have al:=aRZ (d+9) (aG.map (g0 (rn rs is))) (by rw[yAd];omega) [qz (bV ns k2 x2)];rw[<- hP] at ei t2;rw[<- hM] at t1;refine(_,[qz (.d (Lz (ns.map Iz))),#[0],qz (.d P),qz (.d dd),qz (.d M2),qz (.d YY),qz (.d (is*>nD))],[qz (bV ns k2 x2)],rfl,?_,qz (.d dd),qz (.d (is*>nD)),k2,x2,(),rfl,rfl,)
   exact bK (aV (aD (aC rfl) (aD (aC rfl) aO)) ei) rfl (aP (xF (p:=Tt) (pX rfl (aV (aD (aV (aD (aC rfl) (aD (aC rfl) aO)) t1) (aD (aV (aD (aC rfl) (aD (aC rfl) aO)) t2) aO)) al) rfl)) rfl))
 have eA:=ag k' x';rw[<- hM,<- hP] at eA;have s0:xs (d<$>10) (mB aCB) [qz (.d (Lz (ns.map Iz))),qj,qj,qj,qj,qj,qj] []=qz (.nx [qz (.d (Lz (ns.map Iz))),#[0],qj,qj,qj,qj,qj],[qz (bV ns 0 0)]):=by
  erw[2,mB,aCB,oP]
 have full:xs (d<$>10) aCB [qz (.d (Lz (ns.map Iz))),qj,qj,qj,qj,qj,qj] []=qz (.rt (.d (Bz Tt)),[qz (bV ns k' x')]):=by
  refine cK s0 (bK (aV (aD (aC rfl) aO) e0) rfl (cK (rF (aV (aD (aC rfl) aO) eN) rfl) (aP ?_ (cK p1 (aT (iA (aV (aD (aC rfl) aO) eA) (dO (aD (aC rfl) (aD (aC rfl) aO)) rfl (yAa rfl)) eq2))))));exact yR (p:=Ff) (aZ (aV (aD (aC rfl) aO) lk) aCv nt) (yR (p:=Ff) (aZ (aV (aD (aC rfl) aO) in1) (aV (aD (aC rfl) aO) in2) nl) (aZ (aV (aD (aC rfl) aO) w1) (aV (aD (aC rfl) aO) w2) nw))
 exact([],cH rfl rfl rfl full rfl,)
def main(ns:Li Int)(h1:↑ns<=63)(h2:∀ i∈ns,yAo i<=1048576):∃ call S',aF fns 12 96=qz (1,call)/\call [.d (Lz (ns.map Iz))] []=qz (.d (Bz Tt),S'):=by let(S',e):=aXB 1 ns h1;exact aUA (d:=11) rfl rfl e
def oks:∀ F∈fns,aCe fns tbs F=Tt:=by decide +kernel
def bok:∀ F∈fns,aFr F=Tt:=by decide +kernel
def binds:∀ F∈fns,wO F:=λ F hF=>aIN (bok F hF)
def cok:∀ c,tbs.cl=qz c->zY c=Tt/\wO c.fn:=λ c h=>by cases h;exact(by decide +kernel,aIN (by decide +kernel),)
end K74
namespace PySem.W.Fast
def tw10231546990898307131:=0
def tw5993570777347144633:=0
def tw9419536067290133264:=0
def tw7711646339594961722:=0
def tw11748113057319457068:=0
def tw14394776545880148254:=0
def tw9352798493408811883:=0
def tw10435783910919918338:=0
def tw4729002671785500276:=0
def tw9415961464437065710:=0
def tw4878331967537496529:=0
def tw17145955269187079186:=0
def tw12943033742756163247:=0
def tw9006990513622357828:=0
def tw7700221761854525627:=0
def tw16830419951988404129:=0
def tw14007937053132280238:=0
def tw6310327289483241568:=0
def tw16997286680984710971:=0
def tw12903682367335465087:=0
def tw3578267143135330997:=0
def tw1502174075054770454:=0
def tw3903050619368205951:=0
def tw10134951144502960286:=0
def tw9148884369340728882:=0
def tw11443868266399039886:=0
def tw8257880064121499164:=0
def tw4458784451833521255:=0
def tw5472934072443190249:=0
def tw4914049733149351211:=0
def tw15234570544659251062:=0
def tw7448839472893460575:=0
def tw15551878189561432779:=0
def tw5965241440790060650:=0
def tw14598543189319750473:=0
def tw15033234056505141094:=0
def tw16638535864256574166:=0
def tw14341015488669495145:=0
def tw5441831727971420334:=0
def tw15103923411467751243:=0
def tw6836303115093030649:=0
def tw9135890659687950737:=0
def tw17839156339046839120:=0
def tw9148314043060413819:=0
def tw10244865526884639429:=0
def tw15253883066266667512:=0
def tw10409634415991837840:=0
def tw6314248160287311711:=0
def tw9256183652191508120:=0
def tw291884900656106334:=0
def tw8705205991046033303:=0
def tw3299439223158537672:=0
def tw17442916202048915208:=0
def tw16241663087057533101:=0
def tw18214693628862763722:=0
def tw603675700663596757:=0
def tw8799306146926501130:=0
def tw8141869468641793528:=0
def tw12458602380802993360:=0
def tw2770348278467200378:=0
def tw12886518904179790647:=0
def tw8872225465397744883:=0
def tw10946753212954817024:=0
def tw6284735632993714727:=0
def tw5207103756386878016:=0
def tw7386323231039681149:=0
def tw15982329908026944680:=0
def tw5157787285232196597:=0
def tw6011330413543520154:=0
def tw17417038801386863598:=0
def tw8268645356870393749:=0
def tw2073065938603950959:=0
def tw3140356863332235440:=0
def tw8055276671049336153:=0
def tw3341793202125784669:=0
def tw1878298883645705204:=0
def tw10705954897895317478:=0
def tw11912854612424592942:=0
def tw11110510097220614129:=0
def tw16778331152271086203:=0
def tw8185059307566397960:=0
def tw2437646339236503716:=0
def tw985799354627464240:=0
def tw6457233722819043916:=0
def tw15987946772094132178:=0
def tw2579041641084998931:=0
def tw116280918527024616:=0
def tw13647180618135696710:=0
def tw8681507886005758604:=0
def tw13355696427607796520:=0
def tw8533820226031910478:=0
def tw17897179167020055266:=0
def tw3240258021608732111:=0
def tw960992170638974028:=0
def tw1361874784816573255:=0
def tw2539076246381299575:=0
def tw12705737984131237145:=0
def tw9177746937113301476:=0
def tw5343401595568643088:=0
def tw1199939519700910027:=0
def tw14752254410657651316:=0
def tw3837291713575406524:=0
def tw5570920537952684498:=0
def tw4440826665477362520:=0
def tw15616779288098977799:=0
def tw8010720383968647481:=0
def tw11904930451978475940:=0
def tw14735163466977441435:=0
def tw15257762865396995988:=0
def tw2472338554945928075:=0
def tw754566099653384831:=0
def tw3087959536072123273:=0
def tw6310172306813867265:=0
def tw3341649110346182684:=0
def tw2261099075655452796:=0
def tw2944469379791087247:=0
def tw4041430172943555656:=0
def tw16485864168602956997:=0
def tw8599295662362176814:=0
def tw18393089087890300088:=0
def tw12962613943489474861:=0
def tw14445123283828364077:=0
def tw13043025299190864603:=0
def tw5412183594348467573:=0
def tw4619944139813117116:=0
def tw2846253042005477933:=0
def tw16653822749454631752:=0
def tw17769362961356565141:=0
def tw11089873367881262055:=0
def tw13177489417067219839:=0
def tw5787420861585772583:=0
def tw4683652314395526091:=0
def tw15755451474170733882:=0
def tw8168617130833380486:=0
def tw7107299264359130562:=0
def tw4941508946364413806:=0
def tw4244214936030175411:=0
def tw17816293235670694150:=0
def tw8663892570505994900:=0
def tw4711301557141131117:=0
def tw6029075673711163527:=0
def tw1946100225729017434:=0
def tw1410097258311262970:=0
def tw15807579846378244016:=0
def tw6765889479097101019:=0
def tw4423766621576622422:=0
def tw9491217066228561997:=0
def tw3342309505943588445:=0
def tw4654329965020394052:=0
def tw10928458146944449770:=0
def tw11099806630799271488:=0
def tw8443900942163635431:=0
def tw891968163397407561:=0
def tw13517947602244854734:=0
def tw14786643931128952748:=0
def tw17738257638932808385:=0
def tw3188708469260256651:=0
def tw16730954640778952399:=0
def tw11553932689118783846:=0
def tw3383700598459702887:=0
def tw715646912624549818:=0
def tw13395116856029248296:=0
def tw6484483590277954703:=0
def tw1073700032170379081:=0
def tw8690548600931872901:=0
def tw7017417302854124011:=0
def tw7059774767153395272:=0
def tw8701078721789304093:=0
def tw15974816979167885771:=0
def tw5116737782745989914:=0
def tw14747187386513419140:=0
def tw7443271640214707163:=0
def tw596024456212394581:=0
def tw2193606545109109231:=0
def tw12174040379714737391:=0
def tw16960868847623663501:=0
def tw6496797897344386236:=0
def tw12291709534808654884:=0
def tw7689408044439044653:=0
def tw14717157907482213483:=0
def tw11710097271613890001:=0
def tw16949774257543836020:=0
def tw17689386194423330715:=0
def tw3088277708765671172:=0
def tw17132597328188584462:=0
def tw14225122852089369083:=0
def tw10709788555533911967:=0
def tw14370387065869527124:=0
def tw15643863108333253650:=0
def tw13272877517829730704:=0
def tw1122476493217265037:=0
def tw11909854230669708220:=0
def tw13572271378542558884:=0
def tw3785108761444754473:=0
def tw14002851575157770081:=0
def tw13737908365599134973:=0
def tw4316349102376740392:=0
def tw7912897567230026830:=0
def tw2421623727713575035:=0
def tw12569481457157210367:=0
def tw9290035468844098263:=0
def tw11016035601257156404:=0
def tw15057821855017829511:=0
def tw15939689816879582069:=0
def tw7158122503265314944:=0
def tw15546868759916879789:=0
def tw10684212339866537097:=0
def tw12332636913162240226:=0
def tw18138048110984780558:=0
def tw15594256904401661649:=0
def tw4480883166352927793:=0
def tw5981132219773742636:=0
def tw4938622563509118395:=0
def tw14728252675511316446:=0
def tw1545057807081652392:=0
def tw10653135866515024335:=0
def tw17941859326734687693:=0
def tw14573499346365594913:=0
def tw2885631246194323931:=0
def tw1865031611132939020:=0
def tw17595129860068633503:=0
def tw3180222556395508917:=0
def tw2410401520120243886:=0
def tw14607867784707428826:=0
def tw12511803922131614500:=0
def tw2362193950850904369:=0
def tw17185649885058986369:=0
def tw11149218280567965855:=0
def tw517265997443654010:=0
def tw8977914885719193109:=0
def tw8445284331457824548:=0
def tw9266973770843155257:=0
def tw11216083724221949971:=0
def tw7203359935035848174:=0
def tw18091742147753868627:=0
def tw12059424115629943707:=0
def tw12010730064293370220:=0
def tw6503720644184277372:=0
def tw12711866806834412203:=0
def tw7378446079042235957:=0
def tw14207730450203634186:=0
def tw1859671009332986540:=0
def tw16046633682568134121:=0
def tw2689395571052255753:=0
def tw3161357631621030820:=0
def tw9891766340956956063:=0
def tw12682441642758155720:=0
def tw17905154095460924610:=0
def tw8042636159936133813:=0
def tw15068115603748882983:=0
def tw11716312880884058175:=0
def tw116151073256173635:=0
def tw229554733875882827:=0
def tw18076443879503182447:=0
def tw13702569391060172278:=0
def tw8221605082743111018:=0
def tw3198714338940837521:=0
def tw3788429148476707985:=0
def tw15284351149974510946:=0
def tw2442058402500450855:=0
def tw12039612383295138682:=0
def tw5286026915546001566:=0
def tw6011739998024084821:=0
def tw6956982922615993552:=0
def tw13965455098441515090:=0
def tw12558885308364576128:=0
def tw14414795501169749476:=0
def tw13987297941163647685:=0
def tw5812346407629441640:=0
def tw10888389396745210841:=0
def tw9015329412834875242:=0
def tw3292719406290901109:=0
def tw17913700405841565996:=0
def tw205004509298886716:=0
def tw8750916990062420434:=0
def tw10026883770942766982:=0
def tw5409226791155144708:=0
def tw517710724312073552:=0
def tw8962434901294668892:=0
def tw3824707372509653381:=0
def tw14924518438248549852:=0
def tw2959926187309496254:=0
def tw532467309621831525:=0
def tw17943430062071084523:=0
def tw8718216025172105826:=0
def tw4293460995052383020:=0
def tw3439313598566937540:=0
def tw13509613004116744073:=0
def tw14230176458558224595:=0
def tw13561250663673322457:=0
def tw15996620332247851417:=0
def tw6508606194222947537:=0
def tw13155315339099550571:=0
def tw12565366339230903714:=0
def tw6871134271910684645:=0
def tw13150874313168424179:=0
def tw2229480824742062617:=0
def tw10114641206700903883:=0
def tw2813778100119172522:=0
def tw3256545246305496126:=0
def tw7311899498734867906:=0
def tw4631871055641765454:=0
def tw16894086722303175303:=0
def tw3178104943355398565:=0
def tw4526215579900568661:=0
def tw6116888297643701659:=0
def tw4046697128114340506:=0
def tw6828535710445465523:=0
def tw17068995300543362154:=0
def tw4240461487616141373:=0
def tw4930459426283340148:=0
def tw8277630039883395224:=0
def tw1829710580523965319:=0
def tw1195361320038883289:=0
def tw1083006277203383161:=0
def tw12743504948078624892:=0
def tw2915270767495900477:=0
def tw6935086287493317215:=0
def tw7634790585794461090:=0
def tw443385314647291669:=0
def tw16934415562538035151:=0
def tw10996806788129772941:=0
def tw2093015567027321632:=0
def tw7190398533858995238:=0
def tw12917312930468794189:=0
def tw7916472489393813300:=0
def tw3822971925691556573:=0
def tw7223327775653930447:=0
def tw9131528292695096381:=0
def tw17771468190999514579:=0
def tw14911597589995531229:=0
def tw11531362484991028047:=0
def tw1576796547471862788:=0
def tw3743630223957512261:=0
def tw13355803690447025125:=0
def tw9324889482836001700:=0
def tw7932662735144898820:=0
def tw6169868849468435301:=0
def tw9665661763755814592:=0
def tw798431068162890427:=0
def tw16813007920089721118:=0
def tw601079514085745021:=0
def tw13993815257172198796:=0
def tw6060153111110044454:=0
def tw108656232179715846:=0
def tw432888067882390205:=0
def tw13591212399667412907:=0
def tw1420751398584587935:=0
def tw6251947091387673889:=0
def tw3516291969814890856:=0
end PySem.W.Fast
structure PySem.W.Fast:Prop where (tw6767052446793977446 tw3874250776833417914 tw3791022874029921808 tw2685416984903992860 tw12567771243425610963 tw16201723286784487166 tw9699370642920151770 tw4645758023558582873 tw14826549815521237730 tw7595238622713814408 tw17305994514304484037 tw15922992979831885958 tw4526510441304930201 tw10203613122314400079 tw3468059143037661700 tw3395549737666489075 tw18077161167946219213 tw6636216749878853533 tw8284793267628338867 tw7587206502225325380 tw12880711151478665198 tw14846007181700263986 tw18254523620047681872 tw2259058976824830963 tw16970658724858307331 tw205549709249725898 tw1202282697225875489 tw14005068517100634719 tw2071956540680654315 tw8199848504247443524 tw3608369337307135047 tw9139152530161996970 tw2447813922164814653 tw17781407626717424380 tw4919377130829298166 tw5825727431237999770 tw15766752926471084628 tw17073958507405287125 tw15902396908165145822 tw5522251115991806693 tw17518718404219522245 tw6425329601089127392 tw5606084107566489171 tw12471164146355682063 tw3347368755136891789 tw16818070474806954543 tw6188511865198532718 tw5553074375285944193 tw5364439411820047694 tw2045481535160066556 tw9621204841676674772 tw17034351458186897557 tw15708548488609261584 tw6963824062407575140 tw8967106810168339064 tw6975146612124093139 tw16552970282417111149 tw17977491706373164964 tw18339404925978168112 tw4661419315443958567 tw15924055720613740742 tw8256278239680244571 tw16641633150758919937 tw16620517619164111959 tw6378610758411710697 tw4219686393393617657 tw14157146864270326433 tw6076024671676239003 tw11992735090102091392 tw14021332790294195307 tw17452098318571478774 tw8800979113874277020 tw14081351427114642630 tw10121526814837271458 tw12991379580429043001 tw5642283341764021616 tw4637122784634058033 tw17305343992476047728 tw11413917672510098996 tw16037747436205381912 tw18158433272815473525 tw235212703971103336 tw16803283989256926575 tw13181236372448197100 tw14637674270807477897 tw4139707145070080660 tw7724016639162975914 tw6646193659872495579 tw14899523790183738316 tw16401484744653158710:True)
set_option maxRecDepth 100000 in
set_option maxHeartbeats 0 in
theorem PySem.Challenge.cw_fewbits_k74_whole_narrowed_tells_the_sam_holds : PySem.Challenge.rw_fewbits_k74_whole_narrowed_tells_the_sam.Holds := by
 w_on;o_law;k_head;(case hw=>w_witness2)
 k_fill
 refine EV.law_of (l:=PySem.Challenge.rw_fewbits_k74_whole_narrowed_tells_the_sam) K74.fns K74.tbs 96 12 _ "_law_script" rfl rfl (rfl,by decide,by decide,) (λ w h Y=>PySem.W.kIn_of Y) K74.oks K74.binds rfl rfl rfl rfl ?top K74.cok ?clt ?tbl ?cnl ?stl ?tbn K74.main
 case top=>
  intro w h KX F hF;simp only[K74.fns,yDf,yDu,or_false] at hF;rcases hF with rfl|rfl|rfl|rfl|rfl|rfl|rfl|rfl|rfl|rfl|rfl|rfl|rfl|rfl|rfl|rfl|rfl|rfl|rfl|rfl|rfl|rfl|rfl|rfl|rfl|rfl|rfl|rfl|rfl|rfl|rfl|rfl|rfl|rfl|rfl|rfl|rfl|rfl|rfl|rfl|rfl|rfl|rfl|rfl|rfl|rfl|rfl|rfl|rfl|rfl|rfl|rfl|rfl|rfl|rfl|rfl|rfl|rfl|rfl|rfl|rfl|rfl|rfl|rfl|rfl|rfl|rfl|rfl|rfl|rfl|rfl|rfl|rfl|rfl|rfl|rfl|rfl|rfl|rfl|rfl|rfl|rfl|rfl|rfl|rfl|rfl|rfl|rfl|rfl|rfl|rfl|rfl|rfl|rfl|rfl|rfl|rfl
  all_goals
   first
   | (refine' .inl (EV.top_mk ?a1 ?l1 ?c1 ?k1 rfl)
      (case a1=>k_is)
      (case l1=>k_is)
      (case c1=>k_is)
      (case k1=>k_is))
   | (refine' .inr (EV.topm_mk ?a1 ?b1 ?b2 ?b3 ?b4 ?m1 ?m2 ?l1 ?c1 ?k1 rfl)
      (case a1=>k_is)
      (case m1=>k_is)
      (case l1=>k_is)
      (case b1=>k_is)
      (case b2=>k_is)
      (case b3=>k_is)
      (case b4=>k_is)
      (case m2=>k_is)
      (case c1=>k_is)
      (case k1=>k_is))
 case clt=>
  intro w h KX c hc;cases hc
  refine' EV.topc_mk ?a1 ?b1 ?b2 ?b3 ?b4 ?n1 ?m1 ?m2 ?m3 ?m4 ?l1 ?c1 ?k1
  (case a1=>k_is)
  (case m2=>k_is)
  (case l1=>k_is)
  (case b1=>k_is)
  (case b2=>k_is)
  (case b3=>k_is)
  (case b4=>k_is)
  (case m1=>k_is)
  (case m3=>k_is)
  (case m4=>k_is)
  (case c1=>k_is)
  (case k1=>k_is)
  (case n1=>
    intro p hp;simp only[K74.cl_ini,yDf,yDu,or_false] at hp;rcases hp with rfl|rfl|rfl|rfl|rfl
    all_goals
     unfold L2.NoAttr
     k_is)
 case tbl=>
  intro w h KX t ht;simp only[K74.tbs,yDf,yDu,or_false] at ht;rcases ht with rfl
  all_goals
   refine' EV.tab_mk ?a1 ?l1 ?c1 ?s1
   (case a1=>k_is)
   (case l1=>k_is)
   (case c1=>(repeat' (first|exact True.intro|apply And.intro))<;>first|rfl|exact(_,rfl,))
   (case s1=>decide)
 case cnl=>
  intro w h KX t ht;simp only[K74.tbs,yDf,yDu,or_false] at ht;rcases ht with rfl|rfl|rfl|rfl|rfl|rfl|rfl|rfl
  all_goals
   refine' EV.con_mk ?a1 ?l1 ?z1 ?c1
   (case a1=>k_is)
   (case l1=>k_is)
   (case z1=>decide)
   (case c1=>(repeat' (first|exact True.intro|apply And.intro))<;>first|rfl|exact(_,rfl,))
 case stl=>
  intro w h KX t ht;cases ht
 case tbn=>
  intro w h KX x hx;simp only[EV.bltNames,yDf,yDu,or_false] at hx;rcases hx with rfl|rfl|rfl|rfl|rfl|rfl|rfl|rfl|rfl|rfl|rfl|rfl|rfl|rfl|rfl|rfl|rfl|rfl|rfl
  all_goals k_is
