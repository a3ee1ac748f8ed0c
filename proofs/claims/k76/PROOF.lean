import PyProof.Rows.All
import Wide.All
import OpenK.AllK
import Wide.FinOn
import Lean
import PyProof.EqAt
import PyProof.EqKinds
import PyProof.TupleCall
import PyProof.ListMulRoad
import PyProof.FactsAll.tuple
import PyProof.MaxThree
import PyProof.SeqI3
import PyProof.Draws
import PyProof.NeKinds
import PyProof.Rows.SortShell
import PyProof.ListRange
import PyProof.DictTable
import PyProof.Rows.Range3
import PyProof.ZipIter
import PyProof.FactsAll.range_2
import PyProof.Rows.SeqMore2
import PyProof.StrWalks
import PyProof.EnumMake
import PyProof.Rows.StrJoin2
import PyProof.Rows.StrNews
import PyProof.CallStr
import PyProof.DictRoads
import KE.KIntText
import PyProof.ToksMono
import PyProof.StrBlockG
import PyProof.StrBlock2
import PyProof.MeetsStr3
import PyProof.TupleKey
import PyProof.SetKind
import PyProof.Rows.SetFrom
import PySem.Challenge.RW_fewbits_k76_no_dearer_and_no_wider
set_option compiler.extract_closed false
set_option genInjectivity false
set_option genSizeOf false
open Lean renaming mkAtom->mqA,Syntax->mq,mkNode->mqM
open Lean.Macro renaming throwUnsupported->mqF
private def mqO(l:List mq:=[]):mq:=Lean.mkNullNode l.toArray
private def mqJ(c:String)(l:List mq):mq:=Lean.mkNullNode (Lean.mkSepArray l.toArray (mqA c))
private def mqN(k:String)(l:List mq):mq:=mqM ("Lean.Parser."++k).toName l.toArray
private def mqI(f:String):mq:=Lean.mkIdent f.toName
private def mqE(f:mq)(l:List mq):=mqN "Term.app" [f,mqO l]
private def mqT(f:String):=mqE (mqI f)
private def mqD(f:String):=mqE (mqN "Term.dotIdent" [mqA ".",mqI f])
private def mqC:=mqN "Tactic.optConfig" [mqO]
private def mqV(n:String)(l:=[mqC]):=mqN ("Tactic."++n) (mqA n::l)
private def mqQ(t:List mq):=mqN "Tactic.tacticSeq" [mqN "Tactic.tacticSeq1Indented" [mqJ ";" t]]
private def mqB(t:mq):=mqN "Term.byTactic" [mqA "by",mqQ [t]]
private def mqG(p:List mq)(e:mq):=mqV "obtain" [mqO [mqN "Tactic.rcasesPatMed" [mqO p]],mqO,mqO [mqA ":=",mqO [e]]]
private def mqP:Nat->mq->mq
 |0,s=>s
 |n+1,s=>if s.isIdent then mqN "Tactic.rcasesPat.one" [s] else if s.getNumArgs<2 then mqN "Tactic.rcasesPat.ignore" [s[0]] else mqN "Tactic.rcasesPat.tuple" [mqA "⟨",mqJ "," ((if s[0].getNumArgs>0 then s[1][0]::s[1][2].getSepArgs.toList else s[1].getSepArgs.toList).map λ x=>mqN "Tactic.rcasesPatLo" [mqN "Tactic.rcasesPatMed" [mqO [mqP n x]],mqO]),mqA "⟩"]
local macro_rules(kind:=Lean.Parser.Term.tuple)|s=>if s[1].getNumArgs>0&&s[1][2].getNumArgs%2=0 then return mqN "Term.anonymousCtor" [mqA "⟨",mqJ "," (s[1][0]::s[1][2].getSepArgs.toList),mqA "⟩"] else mqF
local macro_rules(kind:=coeNotation)|s=>return mqT "List.length" [s[1]]
local macro_rules(kind:=Lean.Parser.Term.paren)|s=>if s[1].getKind==`Lean.Parser.Term.cdot then return mqB (mqV "decide") else if s[1][1].getKind==`Lean.Parser.Term.hole then return mqB (mqV "omega") else mqF
local macro_rules(kind:=Lean.Parser.Term.typeAscription)|s=>if s[3].getNumArgs=0 then return mqB (mqV "simpa" [mqO,mqO,mqN "Tactic.simpaArgsRest" [mqC,mqO,mqO,mqO,mqO [mqA "using",s[1]]]]) else mqF
local macro_rules(kind:=«term__[_]_!»)|s=>return mqT "Nat.testBit" [s[0],s[3]]
local macro_rules(kind:=Lean.Parser.Tactic.tacticLet__)|s=>return mqG [mqP 9 s[2][0][0]] s[2][0][4]
local macro_rules(kind:=Lean.Parser.Command.declaration)|s=>if s[1].getKind==`Lean.Parser.Command.definition&&s[0].getArgs.all (·.getNumArgs==0) then return s.setArg 0 (s[0].setArg 4 (mqO [mqN "Command.noncomputable" [mqA "noncomputable"]])) else mqF
open List renaming getElem?_eq_getElem->yAa,length_map->yAd,replicate->yAe,map_cons->yAf,getElem?_map->yAg,size_toArray->yAh,getElem?_append_right->yAi,take_length->yAj,length_cons->yAl,getElem?_set_self->yAq,getElem?_set_ne->yAt,map_append->yAx,replicate_succ->yAy,append_assoc->yAz,not_mem_nil->yBb,length_set->yBf,mem_cons->yBg,filter_append->yBh,append_nil->yBi,length_take->yBo,lookup_cons->yBp,filter_cons->yBr,map_map->yBv,range->yBw,getElem?_cons_zero->yCc,take_of_length_le->yCd,filterMap_cons->yCh,foldl_cons->yCl,length_nil->yCm,range'->yCt,find?_cons->yCw,length_filter_le->yCy,getElem?_replicate->yDc,getElem?_cons_succ->yDe,flatten_cons->yDh,map_congr_left->yDl,map_nil->yDp,length_singleton->yDq,getElem?_eq_none->yDs,zip_cons_cons->yDt,set_cons_zero->yDu,set_cons_succ->yDv,getElem?_of_mem->yDy,getElem?_take_of_lt->yEa,set_eq_of_length_le->yEb,length_replicate->yEt,take->yEv,length_zip->yEx,any_cons->yEz,sum_cons->yFc,length_range->yFd,drop_eq_getElem_cons->yFg,getD_cons_zero->yFl,mem_singleton->yFv,nil_append->yGa,take_succ_eq_append_getElem->yGd,lookup->yGk,take_add_one->yGm,drop_zero->yGn,mem_append_left->yGu,of_mem_zip->yGz,length->yHa,getElem_of_mem->yHc,getD_cons_succ->yHh,map_replicate->yHt,foldl_nil->yHy,mem_range'_1->yIb,find?_append->yIe,length_drop->yIh,drop_length->yIj,cons_append->yIk,set_set->yIq
open Nat renaming le_refl->yAb,le_of_ble_eq_true->yAc,testBit_and->yAk,mod_two_eq_zero_or_one->yAp,pow_le_pow_right->yAw,lt_succ_self->yBa,sub_self->yBe,or_lt_two_pow->yBj,lt_irrefl->yBl,testBit_mod_two_pow->yBn,not_lt_zero->yBq,le_add_right->yBz,zero_testBit->yCa,min_le_left->yCn,min_eq_left->yCo,min_eq_right->yCq,lt_pow_two_of_testBit->yCv,zero_add->yCx,zero_le->yDa,testBit_succ->yDb,testBit_div_two_pow->yDf,and_le_left->yDm,le_max_left->yDn,testBit_zero->yDo,add_comm->yDr,pow_lt_pow_right->yDz,lt_succ_of_lt->yEd,toNat_testBit->yEg,lt_trans->yEh,and_two_pow_sub_one_eq_mod->yEi,add_le_add_left->yEk,sub_le_sub_left->yEm,min_le_right->yEo,le_of_not_lt->yEp,xor_lt_two_pow->yEr,le_of_lt->yEs,reduceLeDiff->yFi,testBit_two_pow->yFk,ne_of_gt->yFm,le_total->yFq,pow_succ->yFr,reduceAdd->yGb,testBit_eq_decide_div_mod_eq->yGe,testBit_lt_two_pow->yGi,sub_le->yGl,div_lt_iff_lt_mul->yGq,div_eq_of_lt->yGs,and_le_right->yGt,sub_le_sub_right->yGv,div_add_mod->yHe,le_of_eq->yHo,mul_comm->yHq,add_sub_cancel->yHs,le_of_lt_succ->yId,one_pos->yIg,not_le_of_lt->yIl,sub_zero->yIp
open Int renaming toNat_natCast->yAr,natCast_emod->yFj,emod_lt_of_pos->yFy,natCast_mul->yGc,mul_le_mul_of_nonneg_right->yGr,emod_nonneg->yHd,natCast_add->yHf,natCast_nonneg->yHm,le_trans->yIo
open Bool renaming false_eq_true->yAm,and_eq_true->yAs,false_ne_true->yAu,true_and->yBd,false_and->yCe,and_true->yCg,and_false->yCu,eq_iff_iff->yEe,or_eq_true->yEf,eq_false_or_eq_true->yFs,or_false->yFu,not_true->yFz,or_true->yGp
open Option renaming bind_some->yCf,bind->yDj,map_some->yEc,isSome_map->yIa,getD_none->yIi
open PySem.Builtin.Range renaming rangeSize->yEj,small->yIr
open PySem.Builtin.SmallTypes renaming nextOf->yBu,ownedTupleIsFree->yDk,ownedTupleHandOut->yFh,iterAll->yHl
open PySem.Builtin.Int renaming intBits->yAn
open PyProof.Rows renaming callWith_type1->yBc,slot_tuple_getitem->yCs,callWith_builtin1->yGo
open PySem.Heap renaming get?_update_self->yBx,SameBut->yCi,get?_update_other->yCr,size_push->yFe
open PySem.PyData renaming int->yAo,tuple->yAv,str->yCb,depthAll->yEw,eqv->yFa,canLayAll0->yFb,list->yHg
open PySem.W renaming findIn->yBk,keepIn->yBt,emptyDict->yCj,fnOf->yCk,nsIn->yCp,codeIn->yDg,instObj->yDi,plainGet->yEn,hasDictIn->yEy,plainOver->yGj,mg_of->yGw,plainGet_of->yGy,isFn->yHn,callWith_K->yHp,lookIn->yHv,methodObj->yHz,takerIn->yIm,makesIn->yIn
open PySem.F renaming plain_extend_loop->yDx,plainAttrs_list->yEl,slot_int_rmul->yEu,args_tuple_add_2->yFn,args_tuple_mul_2->yFp,entry_tuple_add->yFt,entry_tuple_mul->yFw,slot_list_index->yFx,slot_tuple_add->yGf,slot_tuple_mul->yGg,slot_int_bit_length->yHb,entry_extend_loop->yHw,args_list_index_2->yHx
open PySem.Builtin renaming bitNot->yBs,divisionGoesByPylong->yDd,bitAnd->yEq,bitXor->yHu,bitOr->yIf
open PySem.Builtin.Slice renaming slicePlaces->yDw,sliceAdjust->yFf,sliceApplied->yHi
open PySem.Builtin.Tuple renaming tupleExact->yCz,tupleItemsOf->yHj,tupleTooMany->yHk
open PySem.Builtin.List renaming listExtendWith->yBy,listTooLong->yFo,listItems->yGh,listSameRef->yIc
open Array renaming length_toList->yBm,getD->yGx,forIn_toList->yHr
open PySem renaming Value->qj,Shared->qv,Addr->qw,Expr->qy,sizeLine->qk,wpAny->qu,starEach->qo,Program->zq,sizeLine_eq->zx,World->zj,Around->zv,wpAny_holding->zw,Scope->zy,mainGlobals->zk,binaryOp->zu,wpAny_Call_Name_kw->zo,assignEach->xq,wpAny_field->xz,behindInMarks->xj,wpAny_newObj_type->xw,wpAny_seqItems->xy,compareOp->xk,Stmt->xu,call_meets->xo,foldedSetIterable->jq,CmpOp->jz,bootBuiltins->jx,codeAny->jj,wpAny_setField_rec->jv,wpAny_updateSeq->jw,wpAny_truthy_bool->jy,wpAny_pyIter_list->jk,Operator->ju,NameKind->jo,wpAny_call_entry->vq,FuncData->vz,wpAny_passesOwn->vx,wpAny_specialOf->vj,sliceBounds->vv,wpAny_pyNext_list_item->vw,wpAny_pyNext_list_end->vy,letOwnedTupleGo->vk,shortFactorBits->vo,UnaryOp->wq,typeIs_int->wj,pyNext->ww,wpAny_rule->wu,wpAny_binaryOp_repeat_ref->yq,swappedStores->yz,wpAny_standAt->yx,wpAny_pyIter_zip->yj,rawInt->yv,wpAny_pyIter_rangeiter->yw,IsRangeIter->yy
open Option renaming some->qz,none->qx
abbrev wB:=@PySem.wpAny_bind
abbrev wP:=@PySem.wpAny_pure
abbrev hpS:=@PySem.Heap.get?_push_of_some
def gIm {α:Type _}{l:List α}{i:Nat}{a:α}:l[i]?=qz a->∃ h,l[i]=a:=List.getElem?_eq_some_iff.mp
abbrev dqF:=@decide_eq_false
abbrev dqT:=@decide_eq_true
abbrev oqT:=@of_decide_eq_true
abbrev FrG:=PySem.W.Frag
abbrev xAa:=@PySem.Heap.lt_size
abbrev xAb:=@Nat.lt_of_lt_of_le
abbrev xAc:=@List.mem_cons_self
abbrev xAd:=@PySem.Heap.get?_push_size
abbrev xAe:=@Nat.two_pow_pos
abbrev xAf:=@List.mem_cons_of_mem
abbrev xAg:=@List.getD_eq_getElem?_getD
abbrev xAh:=@Nat.le_trans
abbrev xAi:=@Nat.lt_of_le_of_lt
abbrev xAj:=@Nat.ne_of_lt
abbrev xAk:=@List.mem_of_getElem?
abbrev xAl:=@Nat.eq_of_testBit_eq
abbrev xAm:=@List.getElem?_append_left
abbrev xAn:=@List.length_append
abbrev xAo:=@Nat.testBit_xor
abbrev xAp:=@Nat.testBit_or
abbrev xAq:=@List.mem_append_right
local macro_rules(kind:=Lean.Parser.Tactic.omega)|_s=>return mqV "lia"
set_option Elab.async false
set_option linter.all false
set_option maxRecDepth 100000
namespace L2
open PySem PySem.Spec PyProof.Rows
abbrev aZ:=Sum Int Str
def nC:aZ->qj->Bool
 |.inl k,v=>Value.isInt k v|.inr x,v=>Value.isStrOf x v
def aZq(w:zj):aZ->Int
 |.inl k=>hashInt k|.inr x=>hashStr w x
def mM:∀ {k:aZ}{v:qj},nC k v=true->(∃ i t,k=Sum.inl i/\v=Value.int i t)\/(∃ x t,k=Sum.inr x/\v=Value.str x t)
 |.inl i,v,h=>by
   let(t,e):=Value.isInt_shape (k:=i) (v:=v) h;exact .inl (i,t,rfl,e,)
 |.inr x,v,h=>by
   let(t,e):=Value.isStrOf_shape (x:=x) (v:=v) h;exact .inr (x,t,rfl,e,)
def aPz(i:Int)(t:Tok):nC (.inl i) (.int i t)=true:=by simp[nC,Value.isInt]
def aCH(x:Str)(t:Tok):nC (.inr x) (.str x t)=true:=by simp[nC,Value.isStrOf]
def aUA(a b:Int):decide ((Sum.inl a:aZ)=Sum.inl b)=(a==b):=by
 by_cases e:a=b
 .subst e;simp
 .have h:¬ (Sum.inl a:aZ)=Sum.inl b:=λ q=>e (Sum.inl.inj q)
  rw[dqF h];exact(beq_eq_false_iff_ne.mpr e).symm
def aUG(a b:Str):decide ((Sum.inr a:aZ)=Sum.inr b)=decide (a=b):=by
 by_cases e:a=b
 .subst e;simp
 .have h:¬ (Sum.inr a:aZ)=Sum.inr b:=λ q=>e (Sum.inr.inj q)
  rw[dqF h,dqF e]
def aUk(a:Int)(b:Str):decide ((Sum.inl a:aZ)=Sum.inr b)=false:=dqF (λ q=>nomatch q)
def aUd(a:Str)(b:Int):decide ((Sum.inr a:aZ)=Sum.inl b)=false:=dqF (λ q=>nomatch q)
def eU(prog:zq)(w:zj):PySem.KeyKind prog w aZ where
 is:=nC
 hash:=aZq w
 inj:=λ v a b ha hb=>by
  rcases mM ha with ⟨i,t,rfl,rfl⟩|⟨x,t,rfl,rfl⟩
  .rcases mM hb with ⟨j,u,rfl,e⟩|⟨y,u,rfl,e⟩
   .injection e with e1 _;rw[e1]
   .exact nomatch e
  .rcases mM hb with ⟨j,u,rfl,e⟩|⟨y,u,rfl,e⟩
   .exact nomatch e
   .injection e with e1 _;rw[e1]
 byValue:=λ k v h=>by
  rcases mM h with ⟨i,t,rfl,rfl⟩|⟨x,t,rfl,rfl⟩<;>rfl
 pyHash:=λ hv h=>by
  rcases mM hv with ⟨i,t,rfl,rfl⟩|⟨x,t,rfl,rfl⟩
  .exact wpAny_pyHash_int h
  .exact wpAny_pyHash_str h
 eqBool:=λ hu hv h=>by
  rcases mM hu with ⟨i,t,rfl,rfl⟩|⟨x,t,rfl,rfl⟩
  .rcases mM hv with ⟨j,u,rfl,rfl⟩|⟨y,u,rfl,rfl⟩
   .rw[aUA] at h;exact wpAny_eqBool_int h
   .rw[aUk] at h;exact SeqAt.EqAt.int_str i t y u _ _ _ _ h
  .rcases mM hv with ⟨j,u,rfl,rfl⟩|⟨y,u,rfl,rfl⟩
   .rw[aUd] at h;exact SeqAt.EqAt.str_int x t j u _ _ _ _ h
   .rw[aUG] at h;exact wpAny_eqBool_str h
 «strs»:=λ k x t v h=>by
  rcases mM h with ⟨i,u,rfl,e⟩|⟨y,u,rfl,e⟩
  .exact nomatch e
  .injection e with e1 _
   subst e1;cases v<;>rfl
def aOm(prog:zq)(w:zj)(i:Int)(t:Tok):(eU prog w).is (.inl i) (.int i t)=true:=aPz i t
def aOc(prog:zq)(w:zj)(x:Str)(t:Tok):(eU prog w).is (.inr x) (.str x t)=true:=aCH x t
end L2
namespace L2
open PySem PySem.Spec PyProof.Rows
inductive V where
 |non|bl (b:Bool)|int (i:Int)|str (x:Str)|byt (b:Array UInt8)|flt (b:UInt64)|ref (a:qw)|ty (n:String)
 deriving DecidableEq
def aU:V->qj->Prop
 |.non,u=>u=Value.none|.bl b,u=>u=Value.bool b|.int i,u=>∃ t,u=Value.int i t|.str x,u=>∃ t,u=Value.str x t|.byt b,u=>∃ t,u=Value.bytes b t|.flt b,u=>∃ t,u=Value.float b t|.ref a,u=>u=Value.ref a|.ty n,u=>u=Value.type n
noncomputable abbrev aT:List V->List qj->Prop:=Paired aU
def aT.length{xs:List V}(r:aT xs us):↑xs=↑us:=Paired.length r
def aT.get:∀ {xs:List V}{us:List qj}{i:Nat}{x:V},aT xs us->xs[i]?=qz x->∃ u,us[i]?=qz u/\aU x u
 |_,_,_,_,.nil,e=>by simp at e|_,_,0,_,.cons r _,e=>by simp at e;subst e;exact(_,rfl,r,)
 |_,_,i+1,x,.cons _ t,e=>by
   let(u,h1,h2):=aT.get (i:=i) (x:=x) t (e:);exact(u,by simpa using h1,h2,)
def aT.set(r:aU x u):∀ {xs:List V}{us:List qj} (i:Nat),aT xs us->aT (xs.set i x) (us.set i u)
 |_,_,_,.nil=>.nil|_,_,0,.cons _ t=>.cons r t|_,_,i+1,.cons q t=>.cons q (aT.set r i t)
def aT.append:∀ {xs ys:List V}{us ws:List qj},aT xs us->aT ys ws->aT (xs++ys) (us++ws)
 |_,_,_,_,.nil,s=>s|_,_,_,_,.cons r t,s=>.cons r (aT.append t s)
def aT.take:∀ {xs:List V}{us:List qj} (n:Nat),aT xs us->aT (xs.take n) (us.take n)
 |_,_,0,_=>.nil|_,_,_+1,.nil=>.nil|_,_,n+1,.cons r t=>.cons r (aT.take n t)
def aT.drop:∀ {xs:List V}{us:List qj} (n:Nat),aT xs us->aT (xs.drop n) (us.drop n)
 |_,_,0,r=>r|_,_,_+1,.nil=>.nil|_,_,n+1,.cons _ t=>aT.drop n t
def gX:Option V->Option qj->Prop
 |some v,qz u=>aU v u|none,qx=>True|_,_=>False
def KV{κ:Type}:List (κ×V)->List (κ×qj)->Prop:=Paired λ(p:κ×V) (q:κ×qj)=>p.1=q.1/\aU p.2 q.2
def kV:aZ->V
 |.inl i=>.int i|.inr x=>.str x
inductive HO where
 |lst (xs:List V)
 |tup (xs:List V)
 |dK (aI:List (aZ×V))|dT (aI:List (List aZ×V))
 |set (S:Int->Bool) (n:Nat)
 |ins (C dx:qw) (fs:List (Str×V))
 |own (x:qw)
 |xd (fs:List (Str×V))
 |met (f x:qw)
 |rng (lo hi:Int)
 |frz (o:Obj) (u:HO)
 |tbl (ps:Array qj)
 |ext (φ:Heap->Prop)
abbrev Hp:=qw->Option HO
def bB(H:Hp)(a:qw)(o:HO):Hp:=λ b=>if b=a then qz o else H b
def cO:bB H a o a=qz o:=by unfold bB;rw[if_pos rfl]
def bR(h:b≠a):bB H a o b=H b:=by unfold bB;rw[if_neg h]
def aW7{H:Hp}{a b:qw}{o u:HO}(h:H a=qz o)(h':H b=qz u)(d:o≠u):a≠b:=by intro e;subst e;rw[h] at h';exact d (Option.some.inj h')
def dZ{H:Hp}{a b:qw}{o:HO}(h:H a=qz o)(h':H b=qx):a≠b:=by intro e;subst e;rw[h] at h';cases h'
section
variable (P:zq)(w:zj)
def dX(H:Hp)(h:Heap)(a:qw):HO->Prop
 |.lst xs=>↑xs<=qk/\∃ (aG:List qj) (n:Nat),aT xs aG/\h.get? a=qz {cls:=.type "list",data:=.seq aG.toArray n }|.tup xs=>↑xs<=qk/\∃ aG:List qj,aT xs aG/\IsTup h a aG.toArray|.dK aI=>aI.length<=qk/\(a==sysModules)=false/\∃ vs,KV aI vs/\h.DictOf (eU P w) a vs
 |.dT aI=>aI.length<=qk/\(a==sysModules)=false/\∃ xs:List (List aZ×qw×qj),
    Paired (λ(p:List aZ×V) (q:List aZ×qw×qj)=>p.1=q.1/\H q.2.1=qz (.tup (p.1.map kV))/\aU p.2 q.2.2) aI xs /\
    ∃ o es ep,h.get? a=qz o/\o.ExactDict/\o.data=.dict es ep/\es.toList=xs.map (entryOfKey (tupleKind (eU P w)))/\(xs.map (·.1)).Nodup
 |.set S n=>h.SetOf (intKind P w) a S n
 |.ins C dx fs=>H dx=qz (.own a)/\↑fs<=1000/\dx≠a/\h.get? a=qz (yDi C dx) /\
    ∃ mA,h.Ns1 dx mA/\(∀ f,gX (fs.lookup f) (mA f))/\PySem.Within mA (fs.map (·.1))
 |.own _=>∃ o,h.get? a=qz o|.xd fs=>∃ mA,h.Ns1 a mA/\∀ f,gX (fs.lookup f) (mA f)|.rng lo hi=>∃ t u v,h.get? a=qz {cls:=.type "range",data:=.fields #[.int lo t,.int hi u,.int 1 v] }|.frz o u=>h.get? a=qz o/\dX H h a u|.tbl ps=>h.get? a=qz {cls:=.none,data:=.fields ps }|.met f x=>h.get? a=qz (yHz (.ref f) (.ref x))|.ext φ=>φ h/\(∃ o,h.get? a=qz o)/\∀ h1 h2:Heap,φ h1->(∀ o,h1.get? a=qz o->h2.get? a=qz o)->φ h2
def cS(H:Hp)(h:Heap):Prop:=∀ a o,H a=qz o->dX P w H h a o
end
def dX.lt(x:dX P w H h a o):a<h.objs.size:=by
 cases o with
 |lst xs=>let(_,_,_,_,e):=x;exact xAa e
 |tup xs=>let(_,_,_,p):=x;exact p.lt
 |dK aI=>let(_,_,_,_,o,_,_,e,_):=x;exact xAa e
 |dT aI=>let(_,_,_,_,o,_,_,e,_):=x;exact xAa e
 |set S n=>let(o,_,_,_,e,_):=x;exact xAa e
 |ins C dx fs=>let(_,_,_,e,_):=x;exact xAa e
 |own y=>let(_,e):=x;exact xAa e
 |xd fs=>let(_,(_,_,_,e,_),_):=x;exact xAa e
 |rng lo hi=>let(_,_,_,e):=x;exact xAa e
 |frz ob u=>let(e,_):=x;exact xAa e
 |tbl ps=>exact xAa (show h.get? a=qz _ from x)
 |met f y=>exact xAa (show h.get? a=qz _ from x)
 |ext φ=>let(_,(_,e),_):=x;exact xAa e
def Paired.mapP{α β:Type}{F G:α->β->Prop}:∀ {l₁:List α}{l₂:List β},Paired F l₁ l₂->(∀ a b,F a b->G a b)->Paired G l₁ l₂
 |_,_,.nil,_=>.nil|_,_,.cons r t,f=>.cons (f _ _ r) (Paired.mapP t f)
def dX.stay{h':Heap}(x:dX P w H h a o)(k:∀ b u,(b=a\/H b=qz (.own a))->h.get? b=qz u->h'.get? b=qz u)(ho:∀ b,H b=qz (.own a)->H' b=qz (.own a))(ht:∀ b xs,H b=qz (.tup xs)->H' b=qz (.tup xs)):dX P w H' h' a o:=by
 induction o with
 |lst xs=>let(z,aG,n,r,e):=x;exact(z,aG,n,r,k _ _ (.inl rfl) e,)
 |tup xs=>let(z,aG,r,ob,e,c):=x;exact(z,aG,r,ob,k _ _ (.inl rfl) e,c,)
 |dK aI=>let(z,y,vs,r,ob,es,ep,e,c):=x;exact(z,y,vs,r,ob,es,ep,k _ _ (.inl rfl) e,c,)
 |dT aI=>
   let(z,y,xs,r,ob,es,ep,e,c):=x;exact(z,y,xs,Paired.mapP r λ p q z=>(z.1,ht _ _ z.2.1,z.2.2,),ob,es,ep,k _ _ (.inl rfl) e,c,)
 |set S n=>let(ob,es,ep,t,e,c):=x;exact(ob,es,ep,t,k _ _ (.inl rfl) e,c,)
 |ins C dx fs=>
   let(d,z,ne,e,mA,(od,es,ep,e2,c),r):=x;exact(ho _ d,z,ne,k _ _ (.inl rfl) e,mA,(od,es,ep,k _ _ (.inr d) e2,c,),r,)
 |own y=>let(ob,e):=x;exact(ob,k _ _ (.inl rfl) e,)
 |xd fs=>let(mA,(od,es,ep,e,c),r):=x;exact(mA,(od,es,ep,k _ _ (.inl rfl) e,c,),r,)
 |rng lo hi=>let(t,u,v,e):=x;exact(t,u,v,k _ _ (.inl rfl) e,)
 |frz ob u ih=>let(e,q):=x;exact(k _ _ (.inl rfl) e,ih q,)
 |tbl ps=>
   have e:h.get? a=qz {cls:=.none,data:=.fields ps }:=x;show h'.get? a=qz {cls:=.none,data:=.fields ps };exact k a _ (.inl rfl) e
 |met f y=>
   have e:h.get? a=qz (yHz (.ref f) (.ref y)):=x;show h'.get? a=qz (yHz (.ref f) (.ref y));exact k a _ (.inl rfl) e
 |ext φ=>let(p,(o,e),st):=x;exact(st _ _ p λ o q=>k _ _ (.inl rfl) q,(o,k _ _ (.inl rfl) e,),st,)
def cS.lt(x:cS P w H h)(e:H a=qz o):a<h.objs.size:=(x a o e).lt
def cS.fresh(x:cS P w H h)(e:h.objs.size<=a):H a=qx:=by
 cases q:H a with
 |none=>rfl|some u=>exact absurd (xAb (x.lt q) e) (yBl _)
def cS.kept{h':Heap}(x:cS P w H h)(k:∀ b u,h.get? b=qz u->h'.get? b=qz u):cS P w H h':=λ a o e=>
 (x a o e).stay (λ b u _ q=>k b u q) (λ _ q=>q) λ _ _ q=>q
def cS.laid{h':Heap}(x:cS P w H h)(k:∀ b u,h.get? b=qz u->h'.get? b=qz u)(hp:h.objs.size<=a)(new:dX P w (bB H a o) h' a o):cS P w (bB H a o) h':=λ b u e=>by
 have hn:=x.fresh hp;by_cases hb:b=a
 .subst hb;rw[cO] at e;cases e;exact new
 .rw[bR hb] at e;exact(x b u e).stay (λ c v _ q=>k c v q) (λ c q=>by rw[bR (dZ q hn)];exact q) λ c xs q=>by rw[bR (dZ q hn)];exact q
def Rd(H:Hp)(a:qw)(u:HO):Prop:=H a=qz u\/∃ o,H a=qz (.frz o u)
def Rd.ok(r:Rd H a u)(x:cS P w H h):dX P w H h a u:=by
 rcases r with r|⟨o,r⟩
 .exact x a u r
 .let(_,q):=x a _ r;exact q
def yT:Option HO->Prop
 |some (.lst _)=>True|some (.dK _)=>True|some (.dT _)=>True|some (.set _ _)=>True|some (.ins _ _ _)=>True|some (.ext _)=>True|_=>False
def cS.write{h':Heap}(ok:cS P w H h)(mu:yT (H x))(he:e=x\/H e=qz (.own x))(k:∀ b u,b≠e->h.get? b=qz u->h'.get? b=qz u)(heo:∃ u,h'.get? e=qz u)(new:dX P w (bB H x o') h' x o'):cS P w (bB H x o') h':=λ b u q=>by
 have nown:∀ c y,H c=qz (.own y)->c≠x:=λ c y r z=>by subst z;rw[r] at mu;exact mu
 have ntup:∀ c xs,H c=qz (.tup xs)->c≠x:=λ c xs r z=>by subst z;rw[r] at mu;exact mu
 by_cases hb:b=x
 .subst hb;rw[cO] at q;cases q;exact new
 .rw[bR hb] at q;by_cases hbe:b=e
  .have q':H b=qz (.own x):=by
    rcases he with z|z
    .exact absurd (hbe.trans z) hb
    .rw[hbe];exact z
   rw[q] at q';cases q';let(v,hv):=heo;exact(v,by rw[hbe];exact hv,)
  .refine(ok b u q).stay (λ c v hc r=>k c v ?_ r) (λ c r=>by rw[bR (nown c b r)];exact r) λ c xs r=>by rw[bR (ntup c xs r)];exact r
   rcases hc with rfl|hc
   .exact hbe
   .rintro rfl;rcases he with z|z
    .exact nown c b hc z
    .rw[hc] at z;cases z;exact hb rfl
structure Un(fs ex:List qw)(H H':Hp)(h h':Heap):Prop where
 keep:∀ b o,h.get? b=qz o->H b=qx->b ∉ fs->b ∉ ex->h'.get? b=qz o
 slot:∀ b o,h.get? b=qz o->H b=qx->b∈fs->b ∉ ex->∃ sl,h'.get? b=qz {o with slots:=sl }
 free:∀ b o,h.get? b=qz o->H b=qx->b ∉ ex->H' b=qx
 there:∀ b o,h.get? b=qz o->b ∉ ex->∃ o',h'.get? b=qz o'
 tups:∀ b xs,H b=qz (.tup xs)->H' b=qz (.tup xs)
 frzs:∀ b o u,H b=qz (.frz o u)->H' b=qz (.frz o u)
 tbls:∀ b ps,H b=qz (.tbl ps)->∃ more,H' b=qz (.tbl (ps++more))
def Un.any(u:Un fs ex H H1 h h1)(q:h.get? b=qz ob)(n:H b=qx)(hx:b ∉ ex):∃ sl,h1.get? b=qz {ob with slots:=sl }:=by
 by_cases hb:b∈fs
 .exact u.slot b ob q n hb hx
 .exact(ob.slots,u.keep b ob q n hb hx,)
def Un.kept{h h':Heap}(k:∀ b u,h.get? b=qz u->h'.get? b=qz u):Un fs ex H H h h':=
 (λ b ob q _ _ _=>k b ob q,λ b ob q _ _ _=>(ob.slots,k b ob q,),λ _ _ _ n _=>n,λ b ob q _=>(ob,k b ob q,),λ _ _ q=>q,λ _ _ _ q=>q,λ _ ps q=>(#[],by rw[q];simp,),)
def Un.refl:Un fs ex H H h h:=Un.kept λ _ _ q=>q
def Un.laid{h h':Heap}(k:∀ b u,h.get? b=qz u->h'.get? b=qz u)(hp:h.objs.size<=a)(hn:H a=qx):Un fs ex H (bB H a o) h h' where
 keep:=λ b u q _ _ _=>k b u q
 slot:=λ b u q _ _ _=>(u.slots,k b u q,)
 free:=λ b u q n _=>by rw[bR (xAj (xAb (xAa q) hp))];exact n
 there:=λ b u q _=>(u,k b u q,)
 tups:=λ b xs q=>by rw[bR (dZ q hn)];exact q
 frzs:=λ b u xs q=>by rw[bR (dZ q hn)];exact q
 tbls:=λ b ps q=>(#[],by rw[bR (dZ q hn),q];simp,)
def Un.write{h h':Heap}(mu:yT (H x))(he:e=x\/H e=qz (.own x))(k:∀ b u,b≠e->h.get? b=qz u->h'.get? b=qz u)(heo:∃ u,h'.get? e=qz u):Un fs ex H (bB H x o) h h':=by
 have hx:∀ b,H b=qx->b≠x:=λ b n z=>by subst z;rw[n] at mu;exact mu
 have hb:∀ b,H b=qx->b≠e:=λ b n z=>by
  subst z;rcases he with r|r
  .exact hx b n r
  .rw[n] at r;cases r
 have hm:∀ b u,H b=qz u->¬ yT (qz u)->b≠x:=λ b u q nm z=>by subst z;rw[q] at mu;exact nm mu
 refine⟨λ b u q n _ _=>k b u (hb b n) q,λ b u q n _ _=>(u.slots,k b u (hb b n) q,),λ b u q n _=>by rw[bR (hx b n)];exact n,λ b u q _=>?_,
  λ b xs q=>by rw[bR (hm b _ q λ z=>z)];exact q,λ b u xs q=>by rw[bR (hm b _ q λ z=>z)];exact q,λ b ps q=>(#[],by rw[bR (hm b _ q λ z=>z),q];simp,)⟩
 by_cases hbe:b=e
 .subst hbe;exact heo
 .exact(u,k b u hbe q,)
def trk(h:Heap)(H:Hp):List qw:=(yBw h.objs.size).filter λ a=>(H a).isSome
def nJ(h:Heap)(H:Hp):Heap:=PySem.W.hideAll h (trk h H)
def aPy(h:Heap)(H:Hp):(nJ h H).objs.size=h.objs.size:=PySem.W.hideAll_size _ _
def aP9{h:Heap}(e:h.get? b=qz o)(n:H b=qx):(nJ h H).get? b=qz o:=
 PySem.W.hideAll_get _ e λ hm=>by
  have q:(H b).isSome=true:=(List.mem_filter.mp hm).2;rw[n] at q;simp at q
def aRD(e:(nJ h H).get? b=qz o):h.get? b=qz o/\H b=qx:=by
 have e':h.get? b=qz o:=PySem.W.of_hideAll (trk h H) e;refine(e',?_,);cases q:H b with
 |none=>rfl
 |some x=>
   have hm:b∈trk h H:=List.mem_filter.mpr (List.mem_range.mpr (xAa e'),by simp[q],);have z:(nJ h H).get? b=qx:=PySem.W.hideAll_none (trk h H) hm;rw[z] at e;cases e
def aSr(g h:Heap)(L:qw):List (qw×Obj):=(yBw h.objs.size).filterMap λ a=>if a=L\/(g.get? a).isSome=true then qx else (h.get? a).map λ o=>(a,o)
def bS(g h:Heap)(L d:qw):List (qw×Obj):=(aSr g h L).filter λ p=>decide (p.1≠d)
end L2
namespace L2
open PySem PySem.Spec PyProof.Rows
structure Mod(K:FrG)(mg:Str->Option qj)(base:Heap):Prop where
 kin:K.In base
 glob:base.Ns zk mg
 blt:∃ mb,base.Ns builtinsNs mb/\∀ x:Str,x ≠ "__name__" -> mb x=jx x
 nolimit:base.NoLimit
structure Cx where
 prog:zq
 w:zj
 K:FrG
 mg:Str->Option qj
 base:Heap
 A:zv
 N:List Str
 s₀:qv
 H₀:Hp
 env:Env
 outer:List Env
 stack:List Env
 ex:List qw
 fn:Str->Bool
 calm:Bool
 pn:List (qw×Obj)
 xe:qj->qv->Prop
def iQ(l:List Env):List qw:=l.filterMap (·.frame)
noncomputable abbrev Cx.fs(X:Cx):List qw:=iQ X.outer
def zH(sc:zy)(x:Str):Prop:=sc.names.lookup x=qz .local\/sc.names.lookup x=qz .cell\/sc.names.lookup x=qz .free
def Loc(sc:zy)(x:Str):Prop:=sc.names.lookup x=qz .local\/sc.names.lookup x=qz .cell
def aZ8(env:Env)(h:Heap)(m:Str->Option qj)(x:Str)(u:qj):Prop:=
 (env.kindOf x=qz .local/\m x=qz u)\/((env.kindOf x=qz .cell\/env.kindOf x=qz .free)/\∃ c,env.cells.lookup x=qz c/\h.IsCell c (qz u))
structure Cx.Ok(X:Cx):Prop where
 mod:Mod X.K X.mg X.base
 kind:X.env.scope.kind=.function
 glob:X.env.globals=zk
 blt:X.env.builtins=builtinsNs
 above:X.s₀.heap.objs.size<=X.env.locals
 inj:∀ x y c,X.env.cells.lookup x=qz c->X.env.cells.lookup y=qz c->x=y
 has:∀ x,(X.env.kindOf x=qz .cell\/X.env.kindOf x=qz .free)->∃ c,X.env.cells.lookup x=qz c
 cab:∀ x c,X.fn x=true->X.env.cells.lookup x=qz c->X.s₀.heap.objs.size<=c
 hd:X.calm=true->X.A.handled=qx
 frames:X.A.frames=qz X.stack
 stk:X.stack=X.outer\/(X.stack=X.env::X.outer/\X.env.frame=qz X.env.locals)
 exf:∀ b∈X.ex,b≠X.env.locals/\∀ x c,X.env.cells.lookup x=qz c->c≠b
 bs:∀ b o,X.base.get? b=qz o->X.s₀.heap.get? b=qz o/\X.H₀ b=qx
 bsz:X.base.objs.size<=X.s₀.heap.objs.size
 noex:∀ b o,X.base.get? b=qz o->b ∉ X.ex
 exfs:∀ b∈X.ex,b ∉ X.fs
 funs:X.s₀.heap.FunFrames X.base X.outer
 frf:∀ b∈X.fs,X.H₀ b=qx
structure Inv(X:Cx)(aB:List (qw×Obj))(σ:List (Option V))(H:Hp)(s:qv):Prop where
 ok:X.Ok
 os:s.os=X.s₀.os
 bare:AllBare s.gens
 base:Un X.fs X.ex X.H₀ H X.s₀.heap s.heap
 loc:∃ m,s.heap.Ns X.env.locals m/\∀ (i:Nat) (x:Str) (v:V),X.N[i]?=qz x->σ[i]?=qz (qz v)->zH X.env.scope x->∃ u,aU v u/\aZ8 X.env s.heap m x u
 cell:∀ x c,X.env.cells.lookup x=qz c->∃ v,s.heap.IsCell c v
 free:H X.env.locals=qx
 freeC:∀ x c,X.env.cells.lookup x=qz c->H c=qx
 pin:∀ p∈X.pn++aB,s.heap.get? p.1=qz p.2/\H p.1=qx/\p.1≠X.env.locals/\p.1 ∉ X.fs/\∀ v,p.2.data≠.cell v
 hok:cS X.prog X.w H s.heap
 len:σ.length=X.N.length
section
variable {X:Cx}{aB:List (qw×Obj)}{σ:List (Option V)}{H H':Hp}{s:qv}{h':Heap}
def Cx.Ok.nofr(ok:X.Ok)(e:X.base.get? b=qz o):b ∉ X.fs:=λ hb=>by
 have:=(ok.funs.mem hb).1;rw[e] at this;cases this
def Inv.bs(I:Inv X aB σ H s):∀ b o,X.base.get? b=qz o->s.heap.get? b=qz o/\H b=qx:=λ b o e=>
 (I.base.keep b o (I.ok.bs b o e).1 (I.ok.bs b o e).2 (I.ok.nofr e) (I.ok.noex b o e),I.base.free b o (I.ok.bs b o e).1 (I.ok.bs b o e).2 (I.ok.noex b o e),)
def Inv.bk(I:Inv X aB σ H s):∀ b o,X.base.get? b=qz o->s.heap.get? b=qz o:=λ b o e=>(I.bs b o e).1
def Inv.mod(I:Inv X aB σ H s):Mod X.K X.mg X.base:=I.ok.mod
def Inv.kIn(I:Inv X aB σ H s):X.K.In s.heap:=I.ok.mod.kin.keeps I.bk
def Inv.lt(I:Inv X aB σ H s):X.env.locals<s.heap.objs.size:=let ⟨_,hn,_⟩:=I.loc;hn.lt
def Inv.sz(I:Inv X aB σ H s):X.s₀.heap.objs.size<=s.heap.objs.size:=xAh I.ok.above (yEs I.lt)
def Inv.nofs(I:Inv X aB σ H s)(h:s.heap.objs.size<=a):a ∉ X.fs:=λ hb=>by
 let(_,o,ho,_):=I.ok.funs.mem hb;exact absurd (xAb (xAa ho) (xAh I.sz h)) (yBl _)
def Inv.cne(I:Inv X aB σ H s):∀ x c,X.env.cells.lookup x=qz c->c≠X.env.locals:=λ x c e z=>by
 let(v,o,ho,hd):=I.cell x c e;let(m,(o',es,ep,ho',hd',_),_):=I.loc;rw[z,ho'] at ho;cases ho;rw[hd'] at hd;cases hd
def Inv.funs(I:Inv X aB σ H s):s.heap.FunFrames X.base X.outer:=by
 have all:∀ (l:List Env),(∀ b∈iQ l,b∈X.fs)->X.s₀.heap.FunFrames X.base l->s.heap.FunFrames X.base l:=by
  intro l
  induction l with
  |nil=>intro _ _;trivial
  |cons env r ih=>
    intro hs hl;let(hk,(L,o,hf,hn,ho,hd),hr):=hl;have hL:L∈X.fs:=hs L (by unfold iQ;rw[yCh,hf];exact xAc);let(sl,e):=I.base.slot L o ho (I.ok.frf L hL) hL λ z=>I.ok.exfs L z hL
    exact(hk,(L,_,hf,hn,e,hd,),ih (λ b hb=>hs b (by unfold iQ;rw[yCh,hf];exact xAf _ hb)) hr,)
 exact all X.outer (λ _ hb=>hb) I.ok.funs
def Inv.stack(I:Inv X aB σ H s):s.heap.FunFrames X.base X.stack:=by
 rcases I.ok.stk with e|⟨e,hf⟩
 .rw[e];exact I.funs
 .rw[e];let(m,hn,_):=I.loc;refine .cons (by rw[I.ok.kind];decide) hf hn ?_ I.funs;exact Heap.get?_none_of_le (xAh I.ok.bsz I.ok.above)
def Inv.stkSub(I:Inv X aB σ H s):∀ b∈iQ X.stack,b∈X.env.locals::X.fs:=λ b hb=>by
 rcases I.ok.stk with e|⟨e,hf⟩
 .rw[e] at hb;exact xAf _ hb
 .rw[e] at hb;unfold iQ at hb;rw[yCh,hf] at hb;exact hb
def Inv.stkFree(I:Inv X aB σ H s):∀ b∈iQ X.stack,H b=qx:=λ b hb=>by
 rcases List.mem_cons.mp (I.stkSub b hb) with e|hb
 .rw[e];exact I.free
 .let(_,o,ho,_):=I.ok.funs.mem hb;exact I.base.free b o ho (I.ok.frf b hb) λ z=>I.ok.exfs b z hb
def Inv.step{g':Array GenState}{t':Nat}{d':Drawn}{ch:List qw}(I:Inv X aB σ H s)
 (hch:∀ b∈ch,(b∈X.ex\/X.s₀.heap.objs.size<=b)/\b≠X.env.locals/\(∀ x c,X.env.cells.lookup x=qz c->c≠b)/\∀ p∈X.pn++aB,p.1≠b)
 (keep:∀ b o,b≠X.env.locals->b ∉ X.fs->b ∉ ch->s.heap.get? b=qz o->H b=qx->h'.get? b=qz o)
 (slot:∀ b o,b≠X.env.locals->b∈X.fs->b ∉ ch->s.heap.get? b=qz o->H b=qx->∃ sl,h'.get? b=qz {o with slots:=sl }) (free:∀ b o,b ∉ ch->s.heap.get? b=qz o->H b=qx->H' b=qx)
 (there:∀ b o,b ∉ ch->s.heap.get? b=qz o->∃ o',h'.get? b=qz o')
 (tups:∀ b xs,H b=qz (.tup xs)->H' b=qz (.tup xs)) (frzs:∀ b o u,H b=qz (.frz o u)->H' b=qz (.frz o u)) (tbls:∀ b ps,H b=qz (.tbl ps)->∃ more,H' b=qz (.tbl (ps++more)))
 (ns:∀ m,s.heap.Ns X.env.locals m->h'.Ns X.env.locals m) (hok:cS X.prog X.w H' h') (hg:AllBare g') :
 Inv X aB σ H' {s with heap:=h',gens:=g',drawn:=d',toks:=t' }:=by
 have neL:∀ b o,X.s₀.heap.get? b=qz o->b≠X.env.locals:=λ b o e=>xAj (xAb (xAa e) I.ok.above)
 have neC:∀ b o,X.s₀.heap.get? b=qz o->b ∉ X.ex->b ∉ ch:=λ b o e hx hb=>by
  rcases (hch b hb).1 with z|z
  .exact hx z
  .exact absurd (xAb (xAa e) z) (yBl _)
 have cellK:∀ x c,X.env.cells.lookup x=qz c->∀ v,s.heap.IsCell c v->h'.IsCell c v:=λ x c e v aW=>by
  let(o,ho,hd):=aW;have nch:c ∉ ch:=λ z=>(hch c z).2.2.1 x c e rfl
  by_cases hc:c∈X.fs
  .let(sl,q):=slot c o (I.cne x c e) hc nch ho (I.freeC x c e);exact(_,q,hd,)
  .exact(o,keep c o (I.cne x c e) hc nch ho (I.freeC x c e),hd,)
 refine(I.ok,I.os,hg,(λ b o e n hb hx=>?_,λ b o e n hb hx=>?_,λ b o e n hx=>?_,λ b o e hx=>?_,λ b xs e=>tups b xs (I.base.tups b xs e),λ b o xs e=>frzs b o xs (I.base.frzs b o xs e),λ b ps e=>?_,),?_,λ x c e=>?_,?_,λ x c e=>?_,λ p hp=>?_,hok,I.len,)
 .exact keep b o (neL b o e) hb (neC b o e hx) (I.base.keep b o e n hb hx) (I.base.free b o e n hx)
 .let(sl,e1):=I.base.slot b o e n hb hx;let(sl',e2):=slot b _ (neL b o e) hb (neC b o e hx) e1 (I.base.free b o e n hx);exact(sl',e2,)
 .let(o',e1):=I.base.there b o e hx;exact free b o' (neC b o e hx) e1 (I.base.free b o e n hx)
 .let(o',e1):=I.base.there b o e hx;exact there b o' (neC b o e hx) e1
 .let(m1,e1):=I.base.tbls b ps e;let(m2,e2):=tbls b _ e1;exact(m1++m2,by rw[e2,Array.append_assoc],)
 .let(m,hn,hl):=I.loc;refine(m,ns m hn,λ i x v e1 e2 e3=>?_,);let(u,r,l):=hl i x v e1 e2 e3;refine(u,r,?_,);rcases l with l|⟨k,c,e,z⟩
  .exact .inl l
  .exact .inr (k,c,e,cellK x c e _ z,)
 .let(v,z):=I.cell x c e;exact(v,cellK x c e v z,)
 .let(m,(o,_,_,ho,_),_):=I.loc;exact free _ o (λ z=>(hch _ z).2.1 rfl) ho I.free
 .let(v,o,ho,hd):=I.cell x c e;exact free c o (λ z=>(hch c z).2.2.1 x c e rfl) ho (I.freeC x c e)
 .let(e,n,ne,nf,d):=I.pin p hp;have nch:p.1 ∉ ch:=λ z=>(hch p.1 z).2.2.2 p hp rfl
  exact(keep p.1 p.2 ne nf nch e n,free p.1 p.2 nch e n,ne,nf,d,)
def Inv.un(I:Inv X aB σ H s)(u:Un X.fs [] H H' s.heap h')(hok:cS X.prog X.w H' h'):Inv X aB σ H' {s with heap:=h',toks:=t' }:=by
 let(m,(o,es,ep,ho,r),_):=id I.loc;let(sl,hL):=u.any ho I.free (by simp)
 exact I.step (g':=s.gens) (d':=s.drawn) (ch:=[]) (λ _ z=>nomatch z) (λ b o _ hb _ e n=>u.keep b o e n hb (by simp)) (λ b o _ hb _ e n=>u.slot b o e n hb (by simp)) (λ b o _ e n=>u.free b o e n (by simp)) (λ b o _ e=>u.there b o e (by simp)) u.tups u.frzs u.tbls (λ m' hm=>by
  let(o',es',ep',ho',r'):=hm;rw[ho] at ho';cases ho';exact(_,es',ep',hL,r',)) hok I.bare
def Inv.call(I:Inv X aB σ H s)(u:Un (iQ X.stack) ch H H' s.heap h')(hok:cS X.prog X.w H' h')(hg:AllBare g')(hch:∀ b∈ch,(b∈X.ex\/X.s₀.heap.objs.size<=b)/\b≠X.env.locals/\(∀ x c,X.env.cells.lookup x=qz c->c≠b)/\∀ p∈X.pn++aB,p.1≠b) :
 Inv X aB σ H' {s with heap:=h',gens:=g',drawn:=d',toks:=t' }:=by
 let(m,(o,es,ep,ho,r),_):=id I.loc;let(sl,hL):=u.any ho I.free λ z=>(hch _ z).2.1 rfl
 exact I.step (ch:=ch) hch (λ b o hL hb hc e n=>u.keep b o e n (λ z=>(List.mem_cons.mp (I.stkSub b z)).elim hL hb) hc) (λ b o _ _ hc e n=>u.any e n hc) (λ b o hc e n=>u.free b o e n hc) (λ b o hc e=>u.there b o e hc) u.tups u.frzs u.tbls (λ m' hm=>by
  let(o',es',ep',ho',r'):=hm;rw[ho] at ho';cases ho';exact(_,es',ep',hL,r',)) hok hg
def Inv.turned(I:Inv X aB σ H s)(k:∀ b o,b≠it->s.heap.get? b=qz o->h'.get? b=qz o)(hn:H it=qx)(hL:it≠X.env.locals)(h1:it∈X.ex\/X.s₀.heap.objs.size<=it)(h2:∀ x c,X.env.cells.lookup x=qz c->c≠it)(h3:∀ p∈X.pn++aB,p.1≠it):Inv X aB σ H {s with heap:=h',toks:=t' }:=by
 have nit:∀ b u,H b=qz u->b≠it:=λ b u e z=>by rw[z,hn] at e;cases e
 refine I.step (g':=s.gens) (d':=s.drawn) (ch:=[it]) (λ b hb=>?_) (λ b o _ _ hc e _=>k b o (λ z=>hc (by simp[z])) e) (λ b o _ _ hc e _=>(o.slots,k b o (λ z=>hc (by simp[z])) e,)) (λ _ _ _ _ n=>n)
  (λ b o hc e=>(o,k b o (λ z=>hc (by simp[z])) e,)) (λ _ _ e=>e) (λ _ _ _ e=>e) (λ b ps e=>(#[],by rw[e];simp,)) (λ m hm=>?_) (λ b u e=>?_) I.bare
 .have e:b=it:=(hb:)
  subst e;exact(h1,hL,h2,h3,)
 .let(o,es,ep,ho,r):=hm;exact(o,es,ep,k _ o (Ne.symm hL) ho,r,)
 .refine(I.hok b u e).stay (λ c v hc q=>k c v ?_ q) (λ _ q=>q) λ _ _ q=>q
  rcases hc with z|z
  .rw[z];exact nit b u e
  .exact nit c _ z
def Inv.tok(I:Inv X aB σ H s)(t:Nat):Inv X aB σ H {s with toks:=t }:=I.un (h':=s.heap) (t':=t) Un.refl I.hok
def Inv.kept(I:Inv X aB σ H s)(k:∀ b u,s.heap.get? b=qz u->h'.get? b=qz u):Inv X aB σ H {s with heap:=h',toks:=t' }:=I.un (Un.kept k) (I.hok.kept k)
def Inv.laid(I:Inv X aB σ H s)(k:∀ b u,s.heap.get? b=qz u->h'.get? b=qz u)(hp:s.heap.objs.size<=a)(new:dX X.prog X.w (bB H a o) h' a o) :
 Inv X aB σ (bB H a o) {s with heap:=h',toks:=t' }:=I.un (Un.laid k hp (I.hok.fresh hp)) (I.hok.laid k hp new)
def Inv.write(I:Inv X aB σ H s)(mu:yT (H x))(he:e=x\/H e=qz (.own x))(k:∀ b u,b≠e->s.heap.get? b=qz u->h'.get? b=qz u)(heo:∃ u,h'.get? e=qz u)(new:dX X.prog X.w (bB H x o) h' x o):Inv X aB σ (bB H x o) {s with heap:=h',toks:=t' }:=I.un (Un.write mu he k heo) (I.hok.write mu he k heo new)
def Inv.pins_of(I:Inv X aB σ H s)(h:∀ p∈pins',s.heap.get? p.1=qz p.2/\H p.1=qx/\p.1≠X.env.locals/\p.1 ∉ X.fs/\∀ v,p.2.data≠.cell v):Inv X pins' σ H s:=
 (I.ok,I.os,I.bare,I.base,I.loc,I.cell,I.free,I.freeC,λ p hp=>(List.mem_append.mp hp).elim (λ z=>I.pin p (yGu _ z)) (h p),I.hok,I.len,)
def aHX{N:List Str}(hN:N.Nodup){i j:Nat}{x:Str}(a:N[i]?=qz x)(b:N[j]?=qz x):i=j:=by let(h1,e1):=gIm a;let(h2,e2):=gIm b;exact(List.getElem_inj hN).mp (e1.trans e2.symm)
def aPn{E:qj->qv->Prop}{Q:Unit->qv->Prop}(I:Inv X aB σ H s)(hN:X.N.Nodup)(hi:X.N[i]?=qz x)(hx:Loc X.env.scope x)(r:aU v u)(h:∀ s',Inv X aB (σ.set i (qz v)) H s'->(∃ a,yCi a s.heap s'.heap/\(a=X.env.locals\/X.env.cells.lookup x=qz a))->Q () s')(hf:X.fn x=true\/X.env.scope.names.lookup x=qz .local:=by first|exact .inl rfl|exact .inr rfl|assumption):qu M A (storeName X.env x u) Q E s:=by
 let(m,hn,hl):=id I.loc;have hcls:(X.env.scope.kind==.class||(X.env.scope.kind==.module&&X.env.locals != X.env.globals))=false:=by rw[I.ok.kind];rfl
 have hiσ:i<σ.length:=by rw[I.len];exact(gIm hi).1
 have cne:=I.cne;have tracked:∀ {a:qw}{h':Heap},(∃ o,s.heap.get? a=qz o/\H a=qx)->yCi a s.heap h'->cS X.prog X.w H h':=λ {a h'} ha hs b ob e=>by
  let(_,_,hfree):=ha;refine(I.hok b ob e).stay (λ c w' hc q=>(hs.2 c ?_).trans q) (λ _ q=>q) λ _ _ q=>q
  rintro rfl;rcases hc with rfl|hc
  .rw[hfree] at e;cases e
  .rw[hfree] at hc;cases hc
 rcases hx with hk|hk
 .refine wpAny_storeName_local hk hn (λ h' hn' hs=>?_) hcls;let(oL,_,_,hoL,_):=id hn;refine h _ (I.ok,I.os,I.bare,(λ b o e n hb hx=>?_,λ b o e n hb hx=>?_,I.base.free,λ b o e hx=>?_,I.base.tups,I.base.frzs,I.base.tbls,),(_,hn',λ j y v' e1 e2 e3=>?_,),λ y c e=>?_,I.free,I.freeC,λ p hp=>?_,tracked (oL,hoL,I.free,) hs,by simpa using I.len,) (_,hs,.inl rfl,)
  .exact(hs.2 b (xAj (xAb (xAa e) I.ok.above))).trans (I.base.keep b o e n hb hx)
  .let(sl,e1):=I.base.slot b o e n hb hx;exact(sl,(hs.2 b (xAj (xAb (xAa e) I.ok.above))).trans e1,)
  .let(o',e1):=I.base.there b o e hx;exact(o',(hs.2 b (xAj (xAb (xAa e) I.ok.above))).trans e1,)
  .by_cases hj:j=i
   .subst hj;rw[hi] at e1;cases e1;rw[yAq hiσ] at e2;cases e2;exact(u,r,.inl (hk,by simp,),)
   .rw[yAt (Ne.symm hj)] at e2;let(u',r',q):=hl j y v' e1 e2 e3;refine(u',r',?_,);rcases q with ⟨k,e⟩|⟨k,c,e,z⟩
    .refine .inl (k,?_,);have:y≠x:=λ e=>hj (aHX hN e1 (e▸hi))
     simp[this,e]
    .exact .inr (k,c,e,z.sameBut hs (cne y c e),)
  .let(w',z):=I.cell y c e;exact(w',z.sameBut hs (cne y c e),)
  .let(e,n,ne,nf,d):=I.pin p hp;exact((hs.2 p.1 ne).trans e,n,ne,nf,d,)
 .have hfn:X.fn x=true:=by
   rcases hf with z|z
   .exact z
   .rw[z] at hk;cases hk
  let(c,hc):=I.ok.has x (.inl hk);let(w',z):=I.cell x c hc;refine wpAny_storeName_cell I.ok.kind hk hc z (λ h' hc' hs=>?_);let(oc,hoc,hocd):=id z;refine h {s with heap:=h' } (I.ok,I.os,I.bare,(λ b o e n hb hx=>?_,λ b o e n hb hx=>?_,I.base.free,λ b o e hx=>?_,I.base.tups,I.base.frzs,I.base.tbls,),(m,hn.sameBut hs (Ne.symm (cne x c hc)),λ j y v' e1 e2 e3=>?_,),λ y c' e=>?_,I.free,I.freeC,λ p hp=>?_,tracked (oc,hoc,I.freeC x c hc,) hs,by simpa using I.len,) (c,hs,.inr hc,)
  .exact(hs.2 b (xAj (xAb (xAa e) (I.ok.cab x c hfn hc)))).trans (I.base.keep b o e n hb hx)
  .let(sl,e1):=I.base.slot b o e n hb hx;exact(sl,(hs.2 b (xAj (xAb (xAa e) (I.ok.cab x c hfn hc)))).trans e1,)
  .let(o',e1):=I.base.there b o e hx;exact(o',(hs.2 b (xAj (xAb (xAa e) (I.ok.cab x c hfn hc)))).trans e1,)
  .by_cases hj:j=i
   .subst hj;rw[hi] at e1;cases e1;rw[yAq hiσ] at e2;cases e2;exact(u,r,.inr (.inl hk,c,hc,hc',),)
   .rw[yAt (Ne.symm hj)] at e2;let(u',r',q):=hl j y v' e1 e2 e3;refine(u',r',?_,);rcases q with q|⟨k,c',e,z'⟩
    .exact .inl q
    .refine .inr (k,c',e,z'.sameBut hs ?_,);rintro rfl;exact hj (aHX hN e1 (I.ok.inj _ _ _ e hc▸hi))
  .by_cases hcc:c'=c
   .subst hcc;exact(_,hc',)
   .let(w2,z2):=I.cell y c' e;exact(w2,z2.sameBut hs hcc,)
  .let(e,n,ne,nf,d):=I.pin p hp;refine((hs.2 p.1 ?_).trans e,n,ne,nf,d,);intro q;rw[q,hoc] at e;have q':oc=p.2:=Option.some.inj e;exact d w' (by rw[<- q'];exact hocd)
def aHN{E:qj->qv->Prop}{Q:Unit->qv->Prop}(I:Inv X aB σ H s)(hN:X.N.Nodup)(hi:X.N[i]?=qz x)(hx:Loc X.env.scope x)(r:aU v u)(h:∀ s',Inv X aB (σ.set i (qz v)) H s'->Q () s')(hf:X.fn x=true\/X.env.scope.names.lookup x=qz .local:=by first|exact .inl rfl|exact .inr rfl|assumption):qu M A (storeName X.env x u) Q E s:=
 aPn I hN hi hx r (λ s' I' _=>h s' I') hf
def Inv.call'{s':qv}(I:Inv X aB σ H s)(ho:s'.os=s.os)(u:Un (iQ X.stack) ch H H' s.heap s'.heap)(hok:cS X.prog X.w H' s'.heap)(hg:AllBare s'.gens)(hch:∀ b∈ch,(b∈X.ex\/X.s₀.heap.objs.size<=b)/\b≠X.env.locals/\(∀ x c,X.env.cells.lookup x=qz c->c≠b)/\∀ p∈X.pn++aB,p.1≠b):Inv X aB σ H' s':=by let(h',g',d',t',o'):=s';have e:o'=s.os:=ho;subst e;exact I.call (g':=g') (t':=t') (d':=d') u hok hg hch
end
abbrev XK:=qj->Option qw->Hp->Prop
abbrev St:=List (Option V)
abbrev VK:=V->Hp->Prop
abbrev TE:=St->Hp->VK->Prop
abbrev TT:=St->Hp->(Bool->Hp->Prop)->Prop
abbrev TA:=St->Hp->(List V->Hp->Prop)->Prop
structure Ends where
 nx:St->Hp->Prop
 rt:VK
 bk:St->Hp->Prop:=λ _ _=>False
 ct:St->Hp->Prop:=λ _ _=>False
abbrev TS:=Ends->St->Hp->Prop
def EP(X:Cx)(aB:List (qw×Obj))(σ:St)(Q:VK)(u:qj)(s':qv):Prop:=∃ v H',Inv X aB σ H' s'/\aU v u/\Q v H'
def TP(X:Cx)(aB:List (qw×Obj))(σ:St)(Q:Bool->Hp->Prop)(b:Bool)(s':qv):Prop:=∃ H',Inv X aB σ H' s'/\Q b H'
def AP(X:Cx)(aB:List (qw×Obj))(σ:St)(Q:List V->Hp->Prop)(us:List qj)(s':qv):Prop:=∃ vs H',Inv X aB σ H' s'/\aT vs us/\Q vs H'
def SP(X:Cx)(aB:List (qw×Obj))(D:Ends)(f:Flow)(s':qv):Prop:=
 match f with
 |.next=>∃ σ' H',Inv X aB σ' H' s'/\D.nx σ' H'|.brk=>∃ σ' H',Inv X aB σ' H' s'/\D.bk σ' H'|.cont=>∃ σ' H',Inv X aB σ' H' s'/\D.ct σ' H'|.ret u=>∃ v σ' H',Inv X aB σ' H' s'/\aU v u/\D.rt v H'
def PE(X:Cx)(e:qy)(t:TE):Prop:=
 ∀ (aB:List (qw×Obj)) (s:qv) (σ:St) (H:Hp) (Q:VK),Inv X aB σ H s->t σ H Q->qu (model X.prog X.w) X.A (eval e X.env) (EP X aB σ Q) X.xe s
def PT(X:Cx)(e:qy)(t:TT):Prop:=
 ∀ (aB:List (qw×Obj)) (s:qv) (σ:St) (H:Hp) (Q:Bool->Hp->Prop),Inv X aB σ H s->t σ H Q->qu (model X.prog X.w) X.A (isTrue e X.env (eval e X.env)) (TP X aB σ Q) X.xe s
def PW(X:Cx)(e:qy)(t:TT):Prop:=
 ∀ (hJ:Sem qj) (aB:List (qw×Obj)) (s:qv) (σ:St) (H:Hp) (Q:Bool->Hp->Prop),Inv X aB σ H s->t σ H Q->qu (model X.prog X.w) X.A (isTrue e X.env hJ) (TP X aB σ Q) X.xe s
def PW.pt{t:TT}(h:PW X e t):PT X e t:=h _
def PA(X:Cx)(es:List qy)(t:TA):Prop:=
 ∀ (pos:Pos) (aB:List (qw×Obj)) (s:qv) (σ:St) (H:Hp) (Q:List V->Hp->Prop),Inv X aB σ H s->t σ H Q->qu (model X.prog X.w) X.A (spliced (backTo pos (qo es X.env))) (AP X aB σ Q) X.xe s
def PS(X:Cx)(st:xu)(t:TS):Prop:=
 ∀ (aB:List (qw×Obj)) (s:qv) (σ:St) (H:Hp) (D:Ends),Inv X aB σ H s->t D σ H->qu (model X.prog X.w) X.A (exec st X.env) (SP X aB D) X.xe s
def dJ(X:Cx)(st:List xu)(t:TS):Prop:=
 ∀ (aB:List (qw×Obj)) (s:qv) (σ:St) (H:Hp) (D:Ends),Inv X aB σ H s->t D σ H->qu (model X.prog X.w) X.A (execs st X.env) (SP X aB D) X.xe s
def bA{α:Type}{t:Sem α}{Q Q':α->qv->Prop}{E:qj->qv->Prop}(h:qu M A t Q E s)(hQ:∀ a s,Q a s->Q' a s):qu M A t Q' E s:=wpAny_mono h hQ λ _ _ x=>x
end L2
namespace L2
open PySem PySem.Spec PyProof.Rows
def bin{ta tb:TE}(ha:PE X a ta)(hb:PE X b tb){R:V->V->Hp->Prop}(I:Inv X aB σ H s)(h:ta σ H λ x H1=>tb σ H1 λ y H2=>R x y H2){α:Type}{Q:α->qv->Prop}{f:qj->qj->Sem α}(hf:∀ v u s2 x y H2,Inv X aB σ H2 s2->aU x v->aU y u->R x y H2->qu (model X.prog X.w) X.A (f v u) Q X.xe s2) :
 qu (model X.prog X.w) X.A (eval a X.env) (λ v s₁=>qu (model X.prog X.w) X.A (eval b X.env) (λ u s₂=>qu (model X.prog X.w) X.A (f v u) Q X.xe s₂) X.xe s₁) X.xe s:=by
 refine bA (ha aB s σ H _ I h) λ v s1 hPq0=>?_
 let(x,H1,I1,r1,q1):=hPq0;refine bA (hb aB s1 σ H1 _ I1 q1) λ u s2 hPq1=>?_
 let(y,H2,I2,r2,q2):=hPq1;exact hf v u s2 x y H2 I2 r1 r2 q2
def xW(i:Nat):TE:=λ σ H Q=>∃ v,σ[i]?=qz (qz v)/\Q v H
def tC(v:V):TE:=λ _ H Q=>Q v H
def aJ1{X:Cx}{i:Nat}{x:Str}{pos:Pos}(hN:X.N[i]?=qz x)(hv:zH X.env.scope x)(hd:(x==("__debug__" : Str))=false:=by decide)(hcd:(x==("__classdict__" : Str))=false:=by decide):PE X (.Name x pos) (xW i):=by
 intro aB s σ H Q I h;let(v,e,h):=h;let(m,hn,hl):=I.loc;let(u,r,l):=hl i x v hN e hv;have cG:EP X aB σ Q u s:=(v,H,I,r,h,);rcases l with ⟨hk,hm⟩|⟨hk,c,hc,hcell⟩
 .exact wpAny_Name (wpAny_loadName_local I.ok.kind hk hn hm cG) hd
 .rcases hk with hk|hk
  .exact wpAny_Name (wpAny_loadName_cell I.ok.kind hk hc hcell cG) hd
  .exact wpAny_Name (wpAny_loadName_free I.ok.kind hk hc hcell cG hcd) hd
def aVV{i j pos}:PE X (.Constant (.int i) j pos) (tC (.int i)):=λ _ _ _ H _ I h=>wpAny_Constant_int (.int i,H,I.tok _,(_,rfl,),h,)
def aXB{b j pos}:PE X (.Constant (.bool b) j pos) (tC (.bl b)):=λ _ _ _ H _ I h=>Constant_bool (.bl b,H,I,rfl,h,)
def aWG{j pos}:PE X (.Constant .none j pos) (tC .non):=λ _ _ _ H _ I h=>Constant_none (.non,H,I,rfl,h,)
def aUs{x j pos}:PE X (.Constant (.str x) j pos) (tC (.str x)):=λ _ _ _ H _ I h=>Calls.Constant_str (.str x,H,I.tok _,(_,rfl,),h,)
def Gl(X:Cx)(x:Str):Prop:=X.env.kindOf x=qz .globalImplicit
def aAt{E:qj->qv->Prop}{Q:qj->qv->Prop}(I:Inv X aB σ H s)(hg:Gl X x)(hm:X.mg x=qz u)(h:Q u s)(hd:(x==("__debug__" : Str))=false:=by decide):qu (model X.prog X.w) X.A (eval (.Name x pos) X.env) Q E s:=
 Calls.Name_function_global I.ok.kind hg (Calls.loadGlobal_global (by rw[I.ok.glob];exact I.mod.glob.keeps I.bk) hm h) hd
def lL{X:Cx}{E:qj->qv->Prop}{aB:List (qw×Obj)}{s:qv}{σ:St}{H:Hp}{x:Str}{u:qj}{pos:Pos}{Q:qj->qv->Prop}(I:Inv X aB σ H s)(hg:Gl X x)(hm:X.mg x=qx)(hv:jx x=qz u)(h:Q u s)
 (hn:x ≠ "__name__":=by decide) (hd:(x==("__debug__" : Str))=false:=by decide):qu (model X.prog X.w) X.A (eval (.Name x pos) X.env) Q E s:=by let(mb,h1,h2):=I.mod.blt;exact Calls.Name_function_global I.ok.kind hg (Calls.loadGlobal_builtin (by rw[I.ok.glob];exact I.mod.glob.keeps I.bk) hm (by rw[I.ok.blt];exact h1.keeps I.bk) ((h2 x hn).trans hv) h) hd
def aIC(hg:Gl X x)(hm:X.mg x=qz u)(r:aU v u)(hd:(x==("__debug__" : Str))=false:=by decide):PE X (.Name x pos) (tC v):=
 λ _ _ _ H _ I h=>aAt I hg hm (v,H,I,r,h,) hd
def PC(X:Cx)(op:jz)(a b:qy)(t:TE):Prop:=
 ∀ (aB:List (qw×Obj)) (s:qv) (σ:St) (H:Hp) (Q:VK),Inv X aB σ H s->t σ H Q ->
  qu (model X.prog X.w) X.A (eval a X.env) (λ v s₁=>qu (model X.prog X.w) X.A (eval b X.env) (λ u s₂=>qu (model X.prog X.w) X.A (xk op v u) (EP X aB σ Q) X.xe s₂) X.xe s₁) X.xe s
def aIb(b:qy)(h:op≠.In)(h2:op≠.NotIn):xj op b=false:=by
 have e1:(op==CmpOp.In)=false:=by cases op<;>first|rfl|exact absurd rfl h
 have e2:(op==CmpOp.NotIn)=false:=by cases op<;>first|rfl|exact absurd rfl h2
 cases b<;>simp[xj,e1,e2]
def tB(t:TE):TT:=λ σ H Q=>t σ H λ x H1=>∃ c,x=.bl c/\Q c H1
def aVY{t:TE}(h:PC X op a b t)(h1:xj op b=false:=by first|exact aIb _ (·) (·)|rfl):PE X (.Compare a [op] [b] pos) t:=λ aB s σ H Q I hw=>wpAny_Compare1 (h aB s σ H Q I hw) h1
def aU7{t:TE}(h:PC X op a b t)(h1:xj op b=false:=by first|exact aIb _ (·) (·)|rfl):PT X (.Compare a [op] [b] pos) (tB t):=by intro aB s σ H Q I hw;refine wpAny_isTrue_Compare1 (bA (h aB s σ H _ I hw) λ v s1 h1=>bA h1 λ u s2 h2=>bA h2 λ c s3 hPq2=>?_) h1;let(x,H1,I1,r1,q1):=hPq2;let(d,rfl,q):=q1;cases r1;exact jy (H1,I1,q,)
def aMC(t u:TT):TT:=λ σ H Q=>t σ H λ c H1=>if c=true then u σ H1 Q else Q false H1
def tOr(t u:TT):TT:=λ σ H Q=>t σ H λ c H1=>if c=true then Q true H1 else u σ H1 Q
def aRW{tA:TT}(ha:PT X a tA):PW X (.BoolOp .And [a] pos) tA:=by
 intro wh aB s σ H Q I h;refine isTrue_and (bA (ha aB s σ H Q I h) λ c s1 e=>?_);cases c with
 |true=>exact isTrue_and_nil e|false=>exact e
def aWD{tA:TT}(ha:PT X a tA):PW X (.BoolOp .Or [a] pos) tA:=by
 intro wh aB s σ H Q I h;refine isTrue_or (bA (ha aB s σ H Q I h) λ c s1 e=>?_);cases c with
 |false=>exact isTrue_or_nil e|true=>exact e
def aKX{tA tB':TT}{bS:List qy}(ha:PT X a tA)(hb:PW X (.BoolOp .And (b::bS) pos) tB'):PW X (.BoolOp .And (a::b::bS) pos) (aMC tA tB'):=by
 intro wh aB s σ H Q I h;refine isTrue_and (bA (ha aB s σ H _ I h) λ c s1 hPq3=>?_);let(H1,I1,q1):=hPq3;cases c with
 |true=>exact hb wh aB s1 σ H1 Q I1 q1|false=>exact(H1,I1,q1,)
def aLs{tA tB':TT}{bS:List qy}(ha:PT X a tA)(hb:PW X (.BoolOp .Or (b::bS) pos) tB'):PW X (.BoolOp .Or (a::b::bS) pos) (tOr tA tB'):=by
 intro wh aB s σ H Q I h;refine isTrue_or (bA (ha aB s σ H _ I h) λ c s1 hPq4=>?_);let(H1,I1,q1):=hPq4;cases c with
 |true=>exact(H1,I1,q1,)|false=>exact hb wh aB s1 σ H1 Q I1 q1
def aLv(ta tb:TE):TE:=λ σ H Q=>ta σ H λ x H1=>∃ c,x=.bl c/\if c=true then tb σ H1 Q else Q (.bl false) H1
def aNb(ta tb:TE):TE:=λ σ H Q=>ta σ H λ x H1=>∃ c,x=.bl c/\if c=true then Q (.bl true) H1 else tb σ H1 Q
def aK0{op}{t:TE}(h:PE X a t):PE X (.BoolOp op [a] pos) t:=λ aB s σ H Q I hw=>BoolOp_one (h aB s σ H Q I hw)
def aKO{ta tb:TE}{bS:List qy}(ha:PE X a ta)(hb:PE X (.BoolOp .And (b::bS) pos) tb):PE X (.BoolOp .And (a::b::bS) pos) (aLv ta tb):=by
 intro aB s σ H Q I h;refine BoolOp_and (bA (ha aB s σ H _ I h) λ v s1 hPq5=>?_);let(x,H1,I1,r1,q1):=hPq5;let(c,rfl,q1):=q1;cases r1;refine jy ?_;cases c with
 |true=>exact hb aB s1 σ H1 Q I1 q1|false=>exact(.bl false,H1,I1,rfl,q1,)
def aLL{ta tb:TE}{bS:List qy}(ha:PE X a ta)(hb:PE X (.BoolOp .Or (b::bS) pos) tb):PE X (.BoolOp .Or (a::b::bS) pos) (aNb ta tb):=by
 intro aB s σ H Q I h;refine BoolOp_or (bA (ha aB s σ H _ I h) λ v s1 hPq6=>?_);let(x,H1,I1,r1,q1):=hPq6;let(c,rfl,q1):=q1;cases r1;refine jy ?_;cases c with
 |false=>exact hb aB s1 σ H1 Q I1 q1|true=>exact(.bl true,H1,I1,rfl,q1,)
def tIf(t:TT)(ta tb:TE):TE:=λ σ H Q=>t σ H λ c H1=>if c=true then ta σ H1 Q else tb σ H1 Q
def aQV{ta tb:TE}{tA:TT}(hc:PT X c tA)(ha:PE X a ta)(hb:PE X b tb):PE X (.IfExp c a b pos) (tIf tA ta tb):=by
 intro aB s σ H Q I h;refine wpAny_IfExp (bA (hc aB s σ H _ I h) λ d s1 hPq7=>?_);let(H1,I1,q1):=hPq7;cases d with
 |true=>exact ha aB s1 σ H1 Q I1 q1|false=>exact hb aB s1 σ H1 Q I1 q1
end L2
namespace L2
open PySem PySem.Spec PyProof.Rows
def bT(K:FrG)(H:Hp)(a:qw)(xs:List V):Prop:=
 Rd H a (.lst xs) \/
  ∃ (o:Obj) (aG:Array qj) (n:Nat),K.lookup a=qz o/\o.cls=.type "list" /\ o.dict=qx/\o.data=.seq aG n/\aG.size<=qk/\aT xs aG.toList
def cE(K:FrG)(H:Hp)(a:qw)(xs:List V):Prop:=
 Rd H a (.tup xs) \/
  ∃ (o:Obj) (aG:Array qj) (n:Nat),K.lookup a=qz o/\o.cls=.type "tuple" /\ o.data=.seq aG n/\aG.size<=qk/\aT xs aG.toList
def aZT:qj->Option V
 |.none=>qz .non|.bool b=>qz (.bl b)|.int i _=>qz (.int i)|.str x _=>qz (.str x)|.bytes b _=>qz (.byt b)|.float b _=>qz (.flt b)|.ref a=>qz (.ref a)|.type n=>qz (.ty n)|_=>qx
def aU.abs(r:aU x u):aZT u=qz x:=by
 cases x with
 |non=>cases r;rfl|bl _=>cases r;rfl
 |int _=>let(t,rfl):=r;rfl
 |str _=>let(t,rfl):=r;rfl
 |byt _=>let(t,rfl):=r;rfl
 |flt _=>let(t,rfl):=r;rfl
 |ref _=>cases r;rfl|ty _=>cases r;rfl
def aU.inj(r:aU x u)(q:aU y u):x=y:=Option.some.inj (r.abs.symm.trans q.abs)
def aT.inj:∀ {xs ys:List V}{us:List qj},aT xs us->aT ys us->xs=ys
 |_,_,_,.nil,.nil=>rfl|_,_,_,.cons r t,.cons r' t'=>by rw[r.inj r',aT.inj t t']
variable {K:FrG}
section
variable {X:Cx}{aB:List (qw×Obj)}{σ:St}{H:Hp}{s:qv}{a:qw}{xs ys:List V}
def bT.of(h:H a=qz (.lst xs)):bT K H a xs:=.inl (.inl h)
def cE.of(h:H a=qz (.tup xs)):cE K H a xs:=.inl (.inl h)
def Inv.list(I:Inv X aB σ H s)(h:bT X.K H a xs):∃ aG:List qj,aT xs aG/\PlainL s.heap a aG.toArray/\↑xs<=qk:=by
 rcases h with h|⟨o,aG,n,hk,hc,hd,hs,hz,r⟩
 .let(z,aG,n,r,e):=h.ok I.hok;exact(aG,r,(_,n,e,rfl,rfl,rfl,),z,)
 .refine(aG.toList,r,(o,n,I.kIn a o hk,hc,hd,by simpa using hs,),?_,);have e:=r.length;simp only[yBm] at e;omega
def Inv.tuple(I:Inv X aB σ H s)(h:cE X.K H a xs):∃ aG:List qj,aT xs aG/\IsTup s.heap a aG.toArray/\↑xs<=qk:=by
 rcases h with h|⟨o,aG,n,hk,hc,hs,hz,r⟩
 .let(z,aG,r,p):=h.ok I.hok;exact(aG,r,p,z,)
 .refine(aG.toList,r,(o,I.kIn a o hk,hc,n,by simpa using hs,),?_,);have e:=r.length;simp only[yBm] at e;omega
def Inv.list_inj(I:Inv X aB σ H s)(h:bT X.K H a xs)(h':bT X.K H a ys):xs=ys:=by
 let(aG,r,(o,n,e,_,_,d),_):=I.list h;let(its',r',(o',n',e',_,_,d'),_):=I.list h';rw[e] at e';cases e';rw[d] at d';injection d' with d1 _
 have:aG=its':=(congrArg Array.toList d1:)
 subst this;exact r.inj r'
def Inv.tuple_inj(I:Inv X aB σ H s)(h:cE X.K H a xs)(h':cE X.K H a ys):xs=ys:=by
 let(aG,r,(o,e,_,n,d),_):=I.tuple h;let(its',r',(o',e',_,n',d'),_):=I.tuple h';rw[e] at e';cases e';rw[d] at d';injection d' with d1 _
 have:aG=its':=(congrArg Array.toList d1:)
 subst this;exact r.inj r'
end
noncomputable abbrev Cx.wish(X:Cx)(E:qj->qv->Prop):Cx:={X with xe:=E }
noncomputable abbrev Cx.nox(X:Cx):Cx:=X.wish λ _ _=>False
variable {X:Cx}
def Cx.Ok.wish(ok:X.Ok)(E:qj->qv->Prop):(X.wish E).Ok:=
 (ok.mod,ok.kind,ok.glob,ok.blt,ok.above,ok.inj,ok.has,ok.cab,ok.hd,ok.frames,ok.stk,ok.exf,ok.bs,ok.bsz,ok.noex,ok.exfs,ok.funs,ok.frf,)
def Cx.Ok.unwish{E:qj->qv->Prop}(ok:(X.wish E).Ok):X.Ok:=
 (ok.mod,ok.kind,ok.glob,ok.blt,ok.above,ok.inj,ok.has,ok.cab,ok.hd,ok.frames,ok.stk,ok.exf,ok.bs,ok.bsz,ok.noex,ok.exfs,ok.funs,ok.frf,)
section
variable {X:Cx}{aB:List (qw×Obj)}{σ:St}{H:Hp}{s:qv}{E:qj->qv->Prop}
def Inv.wish(I:Inv X aB σ H s)(E:qj->qv->Prop):Inv (X.wish E) aB σ H s:=(I.ok.wish E,I.os,I.bare,I.base,I.loc,I.cell,I.free,I.freeC,I.pin,I.hok,I.len,)
def Inv.unwish(I:Inv (X.wish E) aB σ H s):Inv X aB σ H s:=(I.ok.unwish,I.os,I.bare,I.base,I.loc,I.cell,I.free,I.freeC,I.pin,I.hok,I.len,)
def SP.unwish{D:Ends}(h:SP (X.wish E) aB D f s'):SP X aB D f s':=by
 cases f with
 |next=>let(σ',H',I,q):=h;exact(σ',H',I.unwish,q,)
 |brk=>let(σ',H',I,q):=h;exact(σ',H',I.unwish,q,)
 |cont=>let(σ',H',I,q):=h;exact(σ',H',I.unwish,q,)
 |ret u=>let(v,σ',H',I,r,q):=h;exact(v,σ',H',I.unwish,r,q,)
def dJ.nox{st:List xu}{t:TS}(h:dJ X.nox st t):dJ X st t:=λ aB s σ H D I hw=>
 wpAny_mono (h aB s σ H D (I.wish _) hw) (λ _ _ q=>q.unwish) λ _ _ z=>False.elim z
end
def aLz:TS:=λ D σ H=>D.nx σ H
def aMZ(t u:TS):TS:=λ D σ H=>t {D with nx:=u D } σ H
def aIG:dJ X [] aLz:=λ _ _ σ H _ I h=>wpAny_execs_nil (σ,H,I,h,)
def aHJ{st:xu}{bS:List xu}{t u:TS}(h1:PS X st t)(h2:dJ X bS u):dJ X (st::bS) (aMZ t u):=by
 intro aB s σ H D I h;refine wpAny_execs_cons (bA (h1 aB s σ H {D with nx:=u D } I h) λ f s1 q=>?_);cases f with
 |next=>
   let(σ',H',I',q):=q;exact h2 aB s1 σ' H' D I' q
 |ret v=>exact q|brk=>exact q|cont=>exact q
def Inv.quiet(I:Inv X aB σ H s):interactive X.env=false:=by simp[interactive,I.ok.kind]
def aYw(te:TE):TS:=λ D σ H=>te σ H λ _ H1=>D.nx σ H1
def aR2{te:TE}{pos:Pos}(he:PE X e te)(hs:swapsWith e qx pos.line X.env=pure false:=by rfl):PS X (.Expr e pos) (aYw te):=by intro aB s σ H D I h;exact wpAny_Expr_any (bA (he aB s σ H _ I h) λ v s1 ⟨x,H1,I1,r1,q1⟩=>(σ,H1,I1,q1,)) I.quiet hs
def aZx(te:TE):TS:=λ D σ H=>te σ H D.rt
def aVZ{te:TE}(he:PE X e te):PS X (.Return (qz e) pos) (aZx te):=by intro aB s σ H D I h;exact wpAny_Return_some (bA (he aB s σ H _ I h) λ v s1 ⟨x,H1,I1,r1,q1⟩=>(x,σ,H1,I1,r1,q1,))
def aZ7(c:TT)(t u:TS):TS:=λ D σ H=>c σ H λ b H1=>if b=true then t D σ H1 else u D σ H1
def aYq{tc:TT}(hc:PT X c tc)(ha:dJ X a t)(hb:dJ X b u):PS X (.If c a b pos) (aZ7 tc t u):=by
 intro aB s σ H D I h;refine wpAny_If (bA (hc aB s σ H _ I h) λ d s1 hPq8=>?_);let(H1,I1,q1):=hPq8;cases d with
 |true=>exact ha aB s1 σ H1 D I1 q1|false=>exact hb aB s1 σ H1 D I1 q1
abbrev TG:=V->St->Hp->(St->Hp->Prop)->Prop
abbrev jH:=List V->St->Hp->(St->Hp->Prop)->Prop
def PG(X:Cx)(target:qy)(t:TG):Prop:=
 ∀ (aB:List (qw×Obj)) (s:qv) (σ:St) (H:Hp) (v:V) (u:qj) (Q:St->Hp->Prop),Inv X aB σ H s->aU v u->t v σ H Q ->
  qu (model X.prog X.w) X.A (assign target X.env u) (λ _ s'=>∃ σ' H',Inv X aB σ' H' s'/\Q σ' H') X.xe s
def rO(X:Cx)(ts:List qy)(t:jH):Prop:=
 ∀ (aB:List (qw×Obj)) (s:qv) (σ:St) (H:Hp) (vs:List V) (us:List qj) (Q:St->Hp->Prop),Inv X aB σ H s->aT vs us->t vs σ H Q ->
  qu (model X.prog X.w) X.A (assignInOrder ((xq ts X.env).map (·.2)) us) (λ _ s'=>∃ σ' H',Inv X aB σ' H' s'/\Q σ' H') X.xe s
abbrev aEO:=V->V->V->Hp->(Hp->Prop)->Prop
def aNk(X:Cx)(t:aEO):Prop:=
 ∀ (aB:List (qw×Obj)) (s:qv) (σ:St) (H:Hp) (o i v:V) (ov iv u:qj) (Q:Hp->Prop),Inv X aB σ H s->aU o ov->aU i iv->aU v u->t o i v H Q ->
  qu (model X.prog X.w) X.A (setItem ov iv u) (λ _ s'=>∃ H',Inv X aB σ H' s'/\Q H') X.xe s
def oV(i:Nat):TG:=λ v σ H Q=>Q (σ.set i (qz v)) H
def aDr(hN:X.N.Nodup)(hi:X.N[i]?=qz x)(hx:Loc X.env.scope x)(hf:X.fn x=true\/X.env.scope.names.lookup x=qz .local:=by first|exact .inl rfl|exact .inr rfl|assumption):PG X (.Name x pos) (oV i):=by intro aB s σ H v u Q I r h;exact wpAny_assign_Name (aHN I hN hi hx r (λ s' I'=>(_,H,I',h,)) hf)
def aEQ:jH:=λ vs σ H Q=>vs=[]/\Q σ H
def aEn(t:TG)(u:jH):jH:=λ vs σ H Q=>∃ v r,vs=v::r/\t v σ H λ σ' H'=>u r σ' H' Q
def aTX:rO X [] aEQ:=by intro aB s σ H vs us Q I r h;let(e,h):=h;subst e;cases r;exact assignInOrder_nil (σ,H,I,h,)
def aQc(h1:PG X e t)(h2:rO X es u)(hs:(xq (e::es) X.env).map (·.2)=assign e X.env::(xq es X.env).map (·.2):=by rfl):rO X (e::es) (aEn t u):=by
 intro aB s σ H vs us Q I r h;let(v,vr,e1,h):=h;subst e1;cases r with
 |cons r rr=>
   rw[hs];refine assignInOrder_cons (bA (h1 aB s σ H _ _ _ I r h) λ _ s1 hPq9=>?_);let(σ1,H1,I1,q1):=hPq9;exact h2 aB s1 σ1 H1 _ _ Q I1 rr q1
def bAA(K:FrG)(n:Nat)(t:jH):TG:=λ v σ H Q=>∃ a xs,v=.ref a/\cE K H a xs/\↑xs=n/\t xs σ H Q
def aWZ{pos:Pos}{es:List qy}{k:Nat}{t:jH}{n:Nat}(hc:X.calm=true)(h:rO X es t)
 (hn:(xq es X.env).length=n:=by rfl) (hst:(xq es X.env).findIdx? (·.1)=qx:=by rfl):PG X (.Tuple es k pos) (bAA X.K n t):=by
 intro aB s σ H v u Q I r hw;let(a,xs,e1,hq,hl,hw):=hw;subst e1;cases r;let(aG,rv,ht,hz):=I.tuple hq;refine assign_Tuple_tuple (I.ok.hd hc) ht (by simp[hn,<- hl,rv.length]) hst λ h' hx=>?_
 have I1:Inv X aB σ H {s with heap:=h' }:=I.kept (t':=s.toks) λ b o e=>hx b o (xAj (xAa e)) e
 exact h aB _ σ H xs _ Q I1 (rv:) hw
def aMy(to ti:TE)(t:aEO):TG:=λ v σ H Q=>to σ H λ o H1=>ti σ H1 λ i H2=>t o i v H2 λ H3=>Q σ H3
def aWq{to ti:TE}(ho:PE X o to)(hi:PE X i ti)(hs:aNk X t)(ha:∀ v,assign (.Subscript o i pos) X.env v=(do
   let ov <- holding [v] (eval o X.env);let iv <- holding [v,ov] (eval i X.env)
   standAt pos
   holding [v,ov,iv] (setItem ov iv v)
   release [v,ov,iv] []):=by intro _;rfl):PG X (.Subscript o i pos) (aMy to ti t):=by intro aB s σ H v u Q I r h;rw[ha];refine wB (zw (bA (ho aB s σ H _ I h) λ ov s1 hPq10=>?_));let(x,H1,I1,r1,q1):=hPq10;refine wB (zw (bA (hi aB s1 σ H1 _ I1 q1) λ iv s2 hPq11=>?_));let(y,H2,I2,r2,q2):=hPq11;refine wB (yx (wB (zw (bA (hs aB s2 σ H2 x y v ov iv u _ I2 r1 r2 r q2) λ _ s3 hPq12=>?_))));let(H3,I3,q3):=hPq12;exact wpAny_release (σ,H3,I3,q3,)
def xM(te:TE)(g:TG):TS:=λ D σ H=>te σ H λ x H1=>g x σ H1 D.nx
def aKC{pos:Pos}{te:TE}(he:PE X e te)(hg:PG X tg g)(hs:swapsWithSole [tg] e pos.line X.env=pure false:=by rfl)(hw:yz [tg] e X.env=pure qx:=by rfl)(h1:(xq [tg] X.env).map (·.2)=[assign tg X.env]:=by rfl):PS X (.Assign [tg] e pos) (xM te g):=by intro aB s σ H D I h;refine wpAny_Assign_stores (bA (he aB s σ H _ I h) λ v s1 hPq13=>?_) hs hw;let(x,H1,I1,r1,q1):=hPq13;rw[h1];exact bA (hg aB s1 σ H1 x v _ I1 r1 q1) λ _ s2 q=>q
def aWg{pos:Pos}{te:TE}(hN:X.N.Nodup)(hi:X.N[i]?=qz x)(hx:Loc X.env.scope x)(he:PE X e te)(hs:swapsWith e (qz (.Name x pos')) pos.line X.env=pure false:=by rfl)(hf:X.fn x=true\/X.env.scope.names.lookup x=qz .local:=by first|exact .inl rfl|exact .inr rfl|assumption) :
 PS X (.Assign [.Name x pos'] e pos) (xM te (oV i)):=by intro aB s σ H D I h;refine wpAny_Assign_Name (bA (he aB s σ H _ I h) λ v s1 hPq14=>?_) hs;let(y,H1,I1,r1,q1):=hPq14;exact aHN I1 hN hi hx r1 (λ s2 I2=>(_,H1,I2,q1,)) hf
structure It where
 go:Nat->Hp->Prop
 yld:Nat->Hp->V->Hp->Prop
 stop:Nat->Hp->Prop
def gH(X:Cx)(aB:List (qw×Obj))(H:Hp)(b:qw):Prop:=
 H b=qx/\b≠X.env.locals/\b ∉ X.fs/\(b∈X.ex\/X.s₀.heap.objs.size<=b)/\(∀ x c,X.env.cells.lookup x=qz c->c≠b)/\∀ p∈X.pn++aB,p.1≠b
def Inv.fpOk(I:Inv X aB σ H s)(hb:s.heap.objs.size<=b)(hn:H' b=qx):gH X aB H' b:=by
 refine(hn,yFm (xAb I.lt hb),I.nofs hb,.inr (xAh I.sz hb),λ x c e z=>?_,λ p hp z=>?_,)
 .let(v,q):=I.cell x c e;exact absurd (xAb q.lt (by rw[z];exact hb)) (yBl _)
 .exact absurd (xAb (xAa (I.pin p hp).1) (by rw[z];exact hb)) (yBl _)
structure Turn(P:zq)(w:zj)(K:FrG)(tg:qy)(J:It)(fp:List qw)(it:qw)(tn:Nat->Heap->Prop):Prop where
 mem:it∈fp
 obj:∀ i h,tn i h->∀ b∈fp,∃ o,h.get? b=qz o/\∀ v,o.data≠.cell v
 keep:∀ i h h',tn i h->(∀ b∈fp,∀ o,h.get? b=qz o->h'.get? b=qz o)->tn i h'
 item:∀ (X:Cx),X.prog=P->X.w=w->X.K=K->X.calm=true->∀ (i:Nat) (aB:List (qw×Obj)) (s:qv) (σ:St) (H:Hp) (E:qj->qv->Prop),Inv X aB σ H s->(∀ b∈fp,gH X aB H b)->tn i s.heap->J.go i H ->
  qu (model P w) X.A (ww (.ref it)) (λ r s1=>∃ u,r=qz u /\
   qu (model P w) X.A (vk tg (.ref it) u) (λ _ s2=>∃ x H',Inv X aB σ H' s2/\aU x u/\J.yld i H x H'/\tn (i+1) s2.heap/\∀ b∈fp,H' b=qx) E s1) E s
 done:∀ (X:Cx),X.prog=P->X.w=w->X.K=K->X.calm=true->∀ (i:Nat) (aB:List (qw×Obj)) (s:qv) (σ:St) (H:Hp) (E:qj->qv->Prop),Inv X aB σ H s->(∀ b∈fp,gH X aB H b)->tn i s.heap->J.stop i H ->
  qu (model P w) X.A (ww (.ref it)) (λ r s1=>r=qx/\Inv X aB σ H s1) E s
 self:∀ (A:zv) (i:Nat) (s:qv) (Q:qj->qv->Prop) (E:qj->qv->Prop),tn i s.heap->Q (.ref it) s->qu (model P w) A (pyIter (.ref it)) Q E s
abbrev TI:=St->Hp->(It->Hp->Prop)->Prop
def PIE(X:Cx)(aB:List (qw×Obj))(σ:St)(tg:qy)(R:It->Hp->Prop)(itv:qj)(s2:qv):Prop:=
 ∃ (it:qw) (fp:List qw) (tn:Nat->Heap->Prop) (J:It) (H':Hp),itv=.ref it/\Inv X aB σ H' s2/\Turn X.prog X.w X.K tg J fp it tn/\tn 0 s2.heap/\(∀ b∈fp,gH X aB H' b)/\R J H'
def PI(X:Cx)(tg iter:qy)(wi:TI):Prop:=
 ∀ (aB:List (qw×Obj)) (s:qv) (σ:St) (H:Hp) (R:It->Hp->Prop),Inv X aB σ H s->wi σ H R ->
  qu (model X.prog X.w) X.A (eval iter X.env) (λ v s1=>qu (model X.prog X.w) X.A (pyIter v) (PIE X aB σ tg R) X.xe s1) X.xe s
def aA6{E:qj->qv->Prop}{s:qv}{Q:Unit->qv->Prop}(ho:s.heap.get? it=qz o)(hc:o.cls=.type n)(hd:o.data=.fields vs)(hn:["enumerate","zip","dict_itemiterator","dict_reverseitemiterator","odict_iterator","itertools.zip_longest","itertools.pairwise"].contains n=false)(hQ:Q () s):qu M A (vk tg (.ref it) u) Q E s:=by
 unfold vk;cases tg<;>first
  |exact wP hQ
  | (cases u<;>first
      |exact wP hQ
      | (refine wB (wpAny_load ho ?_)
         rw[hc,hd];show qu M A (if (["enumerate","zip","dict_itemiterator","dict_reverseitemiterator","odict_iterator","itertools.zip_longest","itertools.pairwise"].contains n&&vs[0]?==qz (yv _))=true then _ else _) Q E s;rw[if_neg (by intro h;rw[hn,yCe] at h;cases h)]
         exact wP hQ))
def Itl(K:FrG)(a:qw):It:=
 (λ i H=>∃ xs x,bT K H a xs/\xs[i]?=qz x,λ i H x H'=>H'=H/\∀ xs,bT K H a xs->xs[i]?=qz x,λ i H=>∃ xs,bT K H a xs/\↑xs<=i,)
def Itt(K:FrG)(a:qw):It:=
 (λ i H=>∃ xs x,cE K H a xs/\xs[i]?=qz x,λ i H x H'=>H'=H/\∀ xs,cE K H a xs->xs[i]?=qz x,λ i H=>∃ xs,cE K H a xs/\↑xs<=i,)
def yQ(lo:Int)(n:Nat):It:=(λ i _=>i<n,λ i H x H'=>H'=H/\x=.int (lo+i),λ i _=>n<=i,)
def aPd(a it:qw):Turn P w K tg (Itl K a) [it] it (λ i h=>h.IsListIter it a i) where
 mem:=by simp
 obj:=λ i h st b hb=>by
  have e:b=it:=(hb:)
  subst e;let(o,e,c,d):=st;exact⟨o,e,λ v z=>by rw[d] at z;cases z⟩
 keep:=λ i h h' st k=>st.at λ o e=>k it (by simp) o e
 item:=by
  intro X hP hw hK hc i aB s σ H E I hf st hg;subst hP hw hK;let(xs,x,hq,hx):=hg;let(aG,rv,p,hz):=I.list hq;let(u,hu,ru):=rv.get hx;let(f0,f1,f2,f3,f4,f5):=hf it (by simp);refine vw st p.isList (x:=u) (hu:) λ h' st' sb=>?_
  have I1:Inv X aB σ H {s with heap:=h' }:=I.turned (t':=s.toks) (λ b o hb e=>(sb.2 b hb).trans e) f0 f1 f3 f4 f5;let(o,e,c,d):=id st';exact(u,rfl,aA6 (s:={s with heap:=h' }) e c d (·) (x,H,I1,ru,(rfl,λ ys hy=>by rw[I.list_inj hy hq];exact hx,),st',λ b hb=>(hf b hb).1,),)
 done:=by
  intro X hP hw hK hc i aB s σ H E I hf st hg;subst hP hw hK;let(xs,hq,hx):=hg;let(aG,rv,p,hz):=I.list hq;let(f0,f1,f2,f3,f4,f5):=hf it (by simp);have hl:=rv.length;exact vy (I.ok.hd hc) st p.isList (by simp;omega) λ h' eb=>(rfl,I.turned (t':=s.toks) (λ b o hb e=>eb b o hb e) f0 f1 f3 f4 f5,)
 self:=λ _ _ _ _ _ st h=>wpAny_pyIter_listiter st h
def aO0(a it:qw):Turn P w K tg (Itt K a) [it] it (λ i h=>h.IsTupleIter it a i) where
 mem:=by simp
 obj:=λ i h st b hb=>by
  have e:b=it:=(hb:)
  subst e;let(o,e,c,d):=st;exact⟨o,e,λ v z=>by rw[d] at z;cases z⟩
 keep:=λ i h h' st k=>st.at λ o e=>k it (by simp) o e
 item:=by
  intro X hP hw hK hc i aB s σ H E I hf st hg;subst hP hw hK;let(xs,x,hq,hx):=hg;let(aG,rv,p,hz):=I.tuple hq;let(u,hu,ru):=rv.get hx;let(f0,f1,f2,f3,f4,f5):=hf it (by simp);refine wpAny_pyNext_tuple_item st (show s.heap.IsTuple a aG.toArray from p) (x:=u) (hu:) λ h' st' sb=>?_
  have I1:Inv X aB σ H {s with heap:=h' }:=I.turned (t':=s.toks) (λ b o hb e=>(sb.2 b hb).trans e) f0 f1 f3 f4 f5;let(o,e,c,d):=id st';exact(u,rfl,aA6 (s:={s with heap:=h' }) e c d (·) (x,H,I1,ru,(rfl,λ ys hy=>by rw[I.tuple_inj hy hq];exact hx,),st',λ b hb=>(hf b hb).1,),)
 done:=by
  intro X hP hw hK hc i aB s σ H E I hf st hg;subst hP hw hK;let(xs,hq,hx):=hg;let(aG,rv,p,hz):=I.tuple hq;let(f0,f1,f2,f3,f4,f5):=hf it (by simp);have hl:=rv.length;exact wpAny_pyNext_tuple_end (I.ok.hd hc) st (show s.heap.IsTuple a aG.toArray from p) (by simp;omega) λ h' eb=>(rfl,I.turned (t':=s.toks) (λ b o hb e=>eb b o hb e) f0 f1 f3 f4 f5,)
 self:=λ _ _ _ _ _ st h=>wpAny_pyIter_tupleiter st h
def aOT(it:qw)(lo:Int)(n:Nat):Turn P w K tg (yQ lo n) [it] it (λ i h=>yy h it (lo+(i:Nat)*1) ((n:Int)-(i:Nat)) 1) where
 mem:=by simp
 obj:=λ i h st b hb=>by
  have e:b=it:=(hb:)
  subst e;exact⟨_,st,λ v z=>by
   have z':Data.fields _=Data.cell v:=z;cases z'⟩
 keep:=λ i h h' st k=>k it (by simp) _ st
 item:=by
  intro X hP hw hK hc i aB s σ H E I hf st hg;subst hP hw hK;let(f0,f1,f2,f3,f4,f5):=hf it (by simp);have W:=Walks.range (prog:=X.prog) (w:=X.w) (I.ok.hd hc) it lo 1 n;refine W.item i s _ _ hg st λ v h' tk hv st' kk=>?_
  let(t,rfl):=hv;have I1:Inv X aB σ H {s with heap:=h',toks:=tk }:=I.turned (λ b o hb e=>kk b o (hb:) e) f0 f1 f3 f4 f5;refine(_,rfl,aA6 (s:={s with heap:=h',toks:=tk }) (n:="range_iterator") st' rfl rfl (·) (.int (lo+i),H,I1,(t,?_,),(rfl,rfl,),st',λ b hb=>(hf b hb).1,),);rw[Int.mul_one]
 done:=by
  intro X hP hw hK hc i aB s σ H E I hf st hg;subst hP hw hK;let(f0,f1,f2,f3,f4,f5):=hf it (by simp);exact wpAny_pyNext_range_end (I.ok.hd hc) st (by have:n<=i:=hg;omega) λ h' eb=>(rfl,I.turned (t':=s.toks) (λ b o hb e=>eb b o hb e) f0 f1 f3 f4 f5,)
 self:=λ _ _ _ _ _ st h=>yw st h
end L2
namespace L2
open PySem PySem.Spec PyProof.Rows
def aXm(K:FrG)(tl:TE):TI:=λ σ H R=>tl σ H λ x H1=>∃ a,x=.ref a/\(∃ xs,bT K H1 a xs)/\R (Itl K a) H1
def aZX(K:FrG)(tl:TE):TI:=λ σ H R=>tl σ H λ x H1=>∃ a,x=.ref a/\(∃ xs,cE K H1 a xs)/\R (Itt K a) H1
def aSC{tl:TE}(hl:PE X l tl):PI X tg l (aXm X.K tl):=by
 intro aB s σ H R I h;refine bA (hl aB s σ H _ I h) λ v s1 hPq15=>?_
 let(x,H1,I1,r1,q1):=hPq15;let(a,e,(xs,hq),q):=q1;subst e;cases r1;let(aG,rv,p,hz):=I1.list hq;refine jk p.isList ?_;refine(s1.heap.objs.size,[s1.heap.objs.size],_,_,H1,rfl,I1.kept (t':=s1.toks) λ b o e=>hpS _ e,aPd a _,(_,xAd _ rfl,rfl,rfl,),λ b hb=>?_,q,);have e:b=s1.heap.objs.size:=(hb:)
 subst e;exact I1.fpOk (yAb _) (I1.hok.fresh (yAb _))
def aWm{tl:TE}(hl:PE X l tl):PI X tg l (aZX X.K tl):=by
 intro aB s σ H R I h;refine bA (hl aB s σ H _ I h) λ v s1 hPq16=>?_
 let(x,H1,I1,r1,q1):=hPq16;let(a,e,(xs,hq),q):=q1;subst e;cases r1;let(aG,rv,p,hz):=I1.tuple hq;refine wpAny_pyIter_tuple (show s1.heap.IsTuple a aG.toArray from p) ?_;refine(s1.heap.objs.size,[s1.heap.objs.size],_,_,H1,rfl,I1.kept (t':=s1.toks) λ b o e=>hpS _ e,aO0 a _,(_,xAd _ rfl,rfl,rfl,),λ b hb=>?_,q,);have e:b=s1.heap.objs.size:=(hb:)
 subst e;exact I1.fpOk (yAb _) (I1.hok.fresh (yAb _))
def aIg{R:It->Hp->Prop}{E:qj->qv->Prop}{lo hi:Int}(I:Inv X aB σ H s)(h1 : -(2^62)<=lo)(h2:lo<2^62)(h3 : -(2^62)<=hi)(h4:hi<2^62)(q:R (yQ lo (hi-lo).toNat) H):qu (model X.prog X.w) X.A (pyIter (.ref s.heap.objs.size)) (PIE X aB σ tg R) E {s with heap:=s.heap.push {cls:=.type "range",data:=.fields #[.int lo t,.int hi u,.int 1 v] },toks:=tk }:=by
 refine wpAny_pyIter_range (IsRange.new ..) (small_one h1 h2 h3 h4) ?_;have I1:Inv X aB σ H {s with heap:=s.heap.push {cls:=.type "range",data:=.fields #[.int lo t,.int hi u,.int 1 v] },toks:=tk }:=I.kept λ b o e=>hpS _ e
 refine⟨(s.heap.push {cls:=.type "range",data:=.fields #[.int lo t,.int hi u,.int 1 v] }).objs.size,[(s.heap.push {cls:=.type "range",data:=.fields #[.int lo t,.int hi u,.int 1 v] }).objs.size],_,_,H,rfl,
  I1.kept (t':=tk) λ b o e=>hpS _ e,aOT _ lo (hi-lo).toNat,?_,λ b hb=>?_,q⟩
 .have e1:lo+((0:Nat):Int)*1=lo:=by simp
  have e2:(((hi-lo).toNat:Nat):Int)-((0:Nat):Int)=yEj lo hi 1:=by rw[rangeSize_one];split<;>omega
  show yy _ _ (lo+((0:Nat):Int)*1) ((((hi-lo).toNat:Nat):Int)-((0:Nat):Int)) 1;rw[e1,e2];exact xAd _ rfl
 .have e:b=(s.heap.push {cls:=.type "range",data:=.fields #[.int lo t,.int hi u,.int 1 v] }).objs.size:=(hb:)
  subst e;exact I1.fpOk (yAb _) (I1.hok.fresh (yAb _))
def aK7(ta:TA):TI:=λ σ H R=>ta σ H λ vs H1=>∃ j:Int,vs=[.int j] /\ -(2^62)<=j/\j<2^62/\R (yQ 0 j.toNat) H1
def aLl(ta:TA):TI:=λ σ H R=>ta σ H λ vs H1=>∃ i j:Int,vs=[.int i,.int j]/\(-(2^62)<=i/\i<2^62 /\ -(2^62)<=j/\j<2^62)/\R (yQ i (j-i).toNat) H1
def aO9{ta:TA}(hg:Gl X "range")(hm:X.mg "range" = qx)(ha:PA X [a] ta)(hs:qo [a] X.env=[(false,eval a X.env)]:=by rfl):PI X tg (.Call (.Name "range" p) [a] [] pos) (aK7 ta):=by
 intro aB s σ H R I h;refine Call_ (lL I hg hm boot_range (yBc (bA (ha pos aB s σ H _ I h) λ us s1 hPq17=>?_) hs rfl));let(vs,H1,I1,r1,q1):=hPq17;let(j,e,q1,q2,q):=q1;subst e;cases r1 with
 |cons r rr=>
   cases rr;let(t,rfl):=r;exact call_range_1 (aIg I1 (!_) (!_) q1 q2 (q:))
def aPF{X:Cx}{tg:qy}{a b:qy}{ta:TA}{p pos:Pos}(hg:Gl X "range")(hm:X.mg "range" = qx)(ha:PA X [a,b] ta)(hs:qo [a,b] X.env=[(false,eval a X.env),(false,eval b X.env)]:=by rfl)(hs2:qo [b] X.env=[(false,eval b X.env)]:=by rfl) :
 PI X tg (.Call (.Name "range" p) [a,b] [] pos) (aLl ta):=by
 intro aB s σ H R I h;refine Call_ (lL I hg hm boot_range (yBc (bA (ha pos aB s σ H _ I h) λ us s1 hPq18=>?_) (by rw[hs,hs2]) (by rw[hs2];rfl)));let(vs,H1,I1,r1,q1):=hPq18;let(i,j,e,(q1,q2,q3,q4),q):=q1;subst e;cases r1 with
 |cons r rr=>
   cases rr with
   |cons r' rr=>
     cases rr;let(t,rfl):=r;let(t',rfl):=r';exact call_range_2 (aIg I1 q1 q2 q3 q4 q)
def aZJ(wi:TI)(g:TG)(tb:TS):TS:=λ D σ H=>wi σ H λ J H1=>∃ W:Nat->Nat->St->Hp->Prop,(∃ m,W 0 m σ H1)/\∀ i m σ H,W i m σ H ->
 (J.stop i H/\D.nx σ H)\/(J.go i H/\∃ N:St->Hp->Prop,(∀ σ' H',N σ' H'->∃ m',m'<m/\W (i+1) m' σ' H')/\∀ x H',J.yld i H x H'->g x σ H' λ σ2 H2=>tb {D with nx:=N,ct:=N,bk:=D.nx } σ2 H2)
def wD(fp:List qw)(h:Heap):List (qw×Obj):=fp.filterMap λ b=>(h.get? b).map λ o=>(b,o)
def uM{h:Heap}(hb:b∈fp)(e:h.get? b=qz o):(b,o)∈wD fp h:=List.mem_filterMap.mpr (b,hb,by rw[e];rfl,)
def aPg(hp:p∈wD fp h):p.1∈fp/\h.get? p.1=qz p.2:=by
 let(b,hb,e):=List.mem_filterMap.mp hp;cases q:h.get? b with
 |none=>rw[q] at e;cases e
 |some o=>
   rw[q] at e;have e':(b,o)=p:=Option.some.inj e;subst e';exact(hb,q,)
def Inv.pinned(I:Inv X aB σ H s)(hf:∀ b∈fp,gH X aB H b)(ho:∀ b∈fp,∃ o,s.heap.get? b=qz o/\∀ v,o.data≠.cell v):Inv X (aB++wD fp s.heap) σ H s:=
 I.pins_of λ p hp=>(List.mem_append.mp hp).elim (λ z=>I.pin p (xAq _ z)) λ z=>by
  let(hb,e):=aPg z;let(f0,f1,f2,_):=hf p.1 hb;let(o,e',d):=ho p.1 hb;rw[e] at e';cases e';exact(e,f0,f1,f2,d,)
def Inv.unpinned(I:Inv X (aB++pl) σ H s):Inv X aB σ H s:=I.pins_of λ p hp=>I.pin p (xAq _ (yGu _ hp))
def aUH{X:Cx}{wi:TI}(hp:PassesOwn (model X.prog X.w) X.A X.env X.xe)(hc:X.calm=true)(hi:PI X tg iter wi)(hg:PG X tg g)(hb:dJ X body tb)(hs:∀ x,jq iter X.env x=pure x:=by intro _;rfl):PS X (.For tg iter body [] pos) (aZJ wi g tb):=by
 intro aB s σ H D I h;refine wpAny_For (bA (hi aB s σ H _ I h) λ v s1 h1=>bA h1 λ itv s2 h2=>?_) hs;let(it,fp,tn,J,H2,e,I2,T,st2,f2,W,(m0,w0),turn):=h2;subst e;have stat:∀ {H':Hp},(∀ b∈fp,H' b=qx)->∀ b∈fp,gH X aB H' b:=λ hn b hb=>(hn b hb,(f2 b hb).2,)
 refine codeAny_forLoop_any (λ n s'=>∃ i σ' H',Inv X aB σ' H' s'/\tn i s'.heap/\(∀ b∈fp,H' b=qx)/\W i n σ' H') ?_ m0 ⟨0,σ,H2,I2,st2,λ b hb=>(f2 b hb).1,w0⟩;rintro n s3 ⟨i,σ3,H3,I3,st3,fr3,w3⟩;rcases turn i n σ3 H3 w3 with ⟨stop,qn⟩|⟨go,N,hN,step⟩
 .refine vx hp (bA (T.done X rfl rfl rfl hc i aB s3 σ3 H3 X.xe I3 (stat fr3) st3 stop) λ r s4 hPq19=>?_);let(hr,I4):=hPq19;subst hr;exact wpAny_execs_nil (σ3,H3,I4,qn,)
 .refine vx hp (bA (T.item X rfl rfl rfl hc i aB s3 σ3 H3 X.xe I3 (stat fr3) st3 go) λ r s4 hPq20=>?_);let(u,hr,h4):=hPq20;subst hr;refine vx hp (bA h4 λ _ s5 hPq21=>?_);let(x,H5,I5,r5,y5,lC,fr5):=hPq21;have I5':=I5.pinned (stat fr5) (T.obj _ _ lC);refine vx hp (bA (hg _ s5 σ3 H5 x u _ I5' r5 (step x H5 y5)) λ _ s6 hPq22=>?_);let(σ6,H6,I6,q6):=hPq22;refine vx hp (bA (hb _ s6 σ6 H6 _ I6 q6) λ f s7 q7=>?_);have again:∀ {σ7:St}{H7:Hp},Inv X (aB++wD fp s5.heap) σ7 H7 s7->N σ7 H7->∃ m,m<n/\∃ i σ' H',Inv X aB σ' H' s7/\tn i s7.heap/\(∀ b∈fp,H' b=qx)/\W i m σ' H':=λ {σ7 H7} I7 n7=>by
   let(m',hm,w7):=hN σ7 H7 n7;refine(m',hm,i+1,σ7,H7,I7.unpinned,T.keep _ _ _ lC λ b hb o e=>(I7.pin (b,o) (xAq _ (xAq _ (uM hb e)))).1,λ b hb=>?_,w7,);let(o,e,d):=T.obj _ _ lC b hb;exact(I7.pin (b,o) (xAq _ (xAq _ (uM hb e)))).2.1
  cases f with
  |next=>let(σ7,H7,I7,n7):=q7;exact again I7 n7
  |cont=>let(σ7,H7,I7,n7):=q7;exact again I7 n7
  |brk=>let(σ7,H7,I7,q7):=q7;exact(σ7,H7,I7.unpinned,q7,)
  |ret v=>let(x7,σ7,H7,I7,r7,q7):=q7;exact(x7,σ7,H7,I7.unpinned,r7,q7,)
end L2
namespace L2
open PySem PySem.Spec PyProof.Rows
abbrev R2:=V->V->Hp->VK->Prop
def dA(X:Cx)(f:qj->qj->Sem qj)(r:R2):Prop:=
 ∀ (aB:List (qw×Obj)) (s:qv) (σ:St) (H:Hp) (x y:V) (v u:qj) (Q:VK),Inv X aB σ H s->aU x v->aU y u->r x y H Q ->
  qu (model X.prog X.w) X.A (f v u) (EP X aB σ Q) X.xe s
def UnR(X:Cx)(f:qj->Sem qj)(r:V->Hp->VK->Prop):Prop:=
 ∀ (aB:List (qw×Obj)) (s:qv) (σ:St) (H:Hp) (x:V) (v:qj) (Q:VK),Inv X aB σ H s->aU x v->r x H Q ->
  qu (model X.prog X.w) X.A (f v) (EP X aB σ Q) X.xe s
def fQ(X:Cx)(f:qj)(r:List V->Hp->VK->Prop):Prop:=
 ∀ (aB:List (qw×Obj)) (s:qv) (σ:St) (H:Hp) (xs:List V) (us:List qj) (Q:VK),Inv X aB σ H s->aT xs us->r xs H Q ->
  qu (model X.prog X.w) X.A (call f us) (EP X aB σ Q) X.xe s
def bAy(X:Cx)(r:V->Hp->(Bool->Hp->Prop)->Prop):Prop:=
 ∀ (aB:List (qw×Obj)) (s:qv) (σ:St) (H:Hp) (x:V) (v:qj) (Q:Bool->Hp->Prop),Inv X aB σ H s->aU x v->r x H Q ->
  qu (model X.prog X.w) X.A (truthy v) (TP X aB σ Q) X.xe s
def zF(r:R2)(ta tb:TE):TE:=λ σ H Q=>ta σ H λ x H1=>tb σ H1 λ y H2=>r x y H2 Q
def tUn(r:V->Hp->VK->Prop)(ta:TE):TE:=λ σ H Q=>ta σ H λ x H1=>r x H1 Q
def rI(C:Int->Int->Prop)(g:Int->Int->V):R2:=λ x y H Q=>∃ i j,x=.int i/\y=.int j/\C i j/\Q (g i j) H
def jW(g:Int->Int->V):R2:=λ x y H Q=>∃ i j,x=.int i/\y=.int j/\Q (g i j) H
def rU(g:Int->V):V->Hp->VK->Prop:=λ x H Q=>∃ i,x=.int i/\Q (g i) H
def aER{ta tb:TE}(ha:PE X a ta)(hb:PE X b tb){R:V->V->Hp->Prop}(I:Inv X aB σ H s)(h:ta σ H λ x H1=>tb σ H1 λ y H2=>R x y H2){Q:qj->qv->Prop}{f:qj->qj->Sem qj}(hf:∀ v u s2 x y H2,Inv X aB σ H2 s2->aU x v->aU y u->R x y H2->qu (model X.prog X.w) X.A (f v u) Q X.xe s2) :
 qu (model X.prog X.w) X.A (eval a X.env) (λ v s₁=>qu (model X.prog X.w) X.A (eval b X.env) (λ u s₂=>qu (model X.prog X.w) X.A (f v u) Q X.xe s₂) X.xe s₁) X.xe s:=by
 refine bA (ha aB s σ H _ I h) λ v s1 hPq23=>?_
 let(x,H1,I1,r1,q1):=hPq23;refine bA (hb aB s1 σ H1 _ I1 q1) λ u s2 hPq24=>?_
 let(y,H2,I2,r2,q2):=hPq24;exact hf v u s2 x y H2 I2 r1 r2 q2
def aMb{ta tb:TE}{r:R2}(ho:dA X (zu op) r)(ha:PE X a ta)(hb:PE X b tb):PE X (.BinOp a op b pos) (zF r ta tb):=by intro aB s σ H Q I h;exact wpAny_BinOp (aER ha hb I h λ v u s2 x y H2 I2 rx ry q=>ho aB s2 σ H2 x y v u Q I2 rx ry q)
def aYl{ta:TE}{r:V->Hp->VK->Prop}(ho:UnR X (unaryOp op) r)(ha:PE X a ta):PE X (.UnaryOp op a pos) (tUn r ta):=by intro aB s σ H Q I h;exact UnaryOp_ (bA (ha aB s σ H _ I h) λ v s1 ⟨x,H1,I1,r1,q1⟩=>ho aB s1 σ H1 x v Q I1 r1 q1)
variable {X:Cx}
def zD{f:qj->qj->Sem qj}{C:Int->Int->Prop}{g:Int->Int->Int}(rule:∀ (i j:Int) (t u:Tok) (s:qv) (Q:qj->qv->Prop) (E:qj->qv->Prop),C i j->Q (.int (g i j) s.toks) {s with toks:=s.toks+1 }->qu (model X.prog X.w) X.A (f (.int i t) (.int j u)) Q E s) :
 dA X f (rI C λ i j=>.int (g i j)):=by intro aB s σ H x y v u Q I rx ry h;let(i,j,rfl,rfl,hc,q):=h;let(t,rfl):=rx;let(t',rfl):=ry;exact rule i j t t' s _ _ hc (.int (g i j),H,I.tok _,(_,rfl,),q,)
def xF{f:qj->qj->Sem qj}{g:Int->Int->Int}(rule:∀ (i j:Int) (t u:Tok) (s:qv) (Q:qj->qv->Prop) (E:qj->qv->Prop),Q (.int (g i j) s.toks) {s with toks:=s.toks+1 }->qu (model X.prog X.w) X.A (f (.int i t) (.int j u)) Q E s) :
 dA X f (jW λ i j=>.int (g i j)):=by intro aB s σ H x y v u Q I rx ry h;let(i,j,rfl,rfl,q):=h;let(t,rfl):=rx;let(t',rfl):=ry;exact rule i j t t' s _ _ (.int (g i j),H,I.tok _,(_,rfl,),q,)
def aBO{f:qj->qj->Sem qj}{g:Int->Int->Bool}(rule:∀ (i j:Int) (t u:Tok) (s:qv) (Q:qj->qv->Prop) (E:qj->qv->Prop),Q (.bool (g i j)) s->qu (model X.prog X.w) X.A (f (.int i t) (.int j u)) Q E s) :
 dA X f (jW λ i j=>.bl (g i j)):=by intro aB s σ H x y v u Q I rx ry h;let(i,j,rfl,rfl,q):=h;let(t,rfl):=rx;let(t',rfl):=ry;exact rule i j t t' s _ _ (.bl (g i j),H,I,rfl,q,)
def bAo(i j:Int):Prop:=0<=j/\j<=1000000/\i.natAbs<2^64
def aOJ(k:Nat):(0:Int)<=2^k:=by rw[two_pow_cast];exact yHm _
def aU2:dA X (zu .Add) (jW λ i j=>.int (i+j)):=xF λ _ _ _ _ _ _ _ q=>add_int q
def aWo:dA X (zu .Sub) (jW λ i j=>.int (i-j)):=xF λ _ _ _ _ _ _ _ q=>sub_int q
def aR4:dA X (zu .Mod) (rI (λ _ j=>j≠0) λ i j=>.int (i.fmod j)):=zD λ _ _ _ _ _ _ _ hc q=>mod_int' hc q
def aUg:dA X (zu .Pow) (rI bAo λ i j=>.int (i^j.toNat)):=zD λ _ _ _ _ _ _ _ hc q=>pow_int_small hc.1 hc.2.1 hc.2.2 q
def aWb:dA X (zu .RShift) (rI (λ _ j=>0<=j) λ i j=>.int (i/2^j.toNat)):=zD λ i j _ _ _ _ _ hc q=>
 rshift_int hc (by rw[Int.fdiv_eq_ediv_of_nonneg i (aOJ _)];exact q)
def aUJ:dA X (zu .BitAnd) (jW λ i j=>.int (yEq i j)):=xF λ _ _ _ _ _ _ _ q=>and_int q
def aYu:dA X (zu .BitOr) (jW λ i j=>.int (yIf i j)):=xF λ _ _ _ _ _ _ _ q=>or_int q
def aWc:dA X (zu .BitXor) (jW λ i j=>.int (yHu i j)):=xF λ _ _ _ _ _ _ _ q=>xor_int q
def unI{f:qj->Sem qj}{g:Int->Int}(rule:∀ (i:Int) (t:Tok) (s:qv) (Q:qj->qv->Prop) (E:qj->qv->Prop),Q (.int (g i) s.toks) {s with toks:=s.toks+1 }->qu (model X.prog X.w) X.A (f (.int i t)) Q E s) :
 UnR X f (rU λ i=>.int (g i)):=by intro aB s σ H x v Q I rx h;let(i,rfl,q):=h;let(t,rfl):=rx;exact rule i t s _ _ (.int (g i),H,I.tok _,(_,rfl,),q,)
def aWI:UnR X (unaryOp .USub) (rU λ i=>.int (-i)):=unI λ _ _ _ _ _ q=>neg_int q
def aUL:UnR X (unaryOp .Invert) (rU λ i=>.int (yBs i)):=unI λ _ _ _ _ _ q=>invert_int q
def aAR{Q:VK}(I:Inv X aB σ H s)(q:Q (.bl k) H)(e:k=k'):EP X aB σ Q (.bool k') s:=by subst e;exact(.bl k,H,I,rfl,q,)
def aYr:dA X (xk .Lt) (jW λ i j=>.bl (decide (i<j))):=aBO λ _ _ _ _ _ _ _ q=>lt_int q
def aXa:dA X (xk .LtE) (jW λ i j=>.bl (decide (i<=j))):=aBO λ _ _ _ _ _ _ _ q=>le_int q
def aX9:dA X (xk .Gt) (jW λ i j=>.bl (decide (j<i))):=aBO λ _ _ _ _ _ _ _ q=>gt_int q
def aYA:dA X (xk .GtE) (jW λ i j=>.bl (decide (j<=i))):=aBO λ _ _ _ _ _ _ _ q=>ge_int q
def aUh:dA X (xk .Is) (λ x y H Q=>y=.non/\Q (.bl (decide (x=.non))) H):=by
 intro aB s σ H x y v u Q I rx ry h;let(rfl,q):=h;cases ry;refine is_none_gen (aAR I q ?_);cases x<;>first
  |(cases rx;rfl)
  |(let(t,rfl):=rx;rfl)
def aSG:dA X (xk .IsNot) (λ x y H Q=>y=.non/\Q (.bl (!decide (x=.non))) H):=by
 intro aB s σ H x y v u Q I rx ry h;let(rfl,q):=h;cases ry;refine isnot_none_gen (aAR I q ?_);cases x<;>first
  |(cases rx;rfl)
  |(let(t,rfl):=rx;rfl)
def bAM(b:qy)(h:op≠.In:=by decide)(h2:op≠.NotIn:=by decide):xj op b=false:=by
 have e1:(op==CmpOp.In)=false:=by cases op<;>first|rfl|exact absurd rfl h
 have e2:(op==CmpOp.NotIn)=false:=by cases op<;>first|rfl|exact absurd rfl h2
 cases b<;>simp[xj,e1,e2]
def aR9{ta tb:TE}{r:R2}(ho:dA X (xk op) r)(ha:PE X a ta)(hb:PE X b tb)(hm:xj op b=false):PE X (.Compare a [op] [b] pos) (zF r ta tb):=by intro aB s σ H Q I h;exact wpAny_Compare1 (aER ha hb I h λ v u s2 x y H2 I2 rx ry q=>ho aB s2 σ H2 x y v u Q I2 rx ry q) hm
def aZc(t:TE):TT:=λ σ H Q=>t σ H λ x H'=>∃ k,x=.bl k/\Q k H'
def aS6{ta tb:TE}{r:R2}(ho:dA X (xk op) r)(ha:PE X a ta)(hb:PE X b tb)(hm:xj op b=false):PT X (.Compare a [op] [b] pos) (aZc (zF r ta tb)):=by
 intro aB s σ H Q I h;refine wpAny_isTrue_Compare1 (bA (ha aB s σ H _ I h) λ v s1 ⟨x,H1,I1,r1,q1⟩=>bA (hb aB s1 σ H1 _ I1 q1) λ u s2 ⟨y,H2,I2,r2,q2⟩=>
  bA (ho aB s2 σ H2 x y v u _ I2 r1 r2 q2) λ c s3 ⟨z,H3,I3,r3,k,e,q3⟩=>?_) hm
 subst e;cases r3;exact jy (H3,I3,q3,)
def aET(K:FrG)(x:V)(H:Hp)(k:Bool):Prop:=
 match x with
 |.non=>k=false|.bl b=>k=b|.int i=>k=(i != 0)|.str y=>y.length<=qk/\k=((y.length:Int) != 0)|.byt y=>y.size<=qk/\k=((y.size:Int) != 0)|.ref p=>(∃ xs,bT K H p xs/\k = !xs.isEmpty)\/(∃ xs,cE K H p xs/\k = !xs.isEmpty)\/∃ aI,H p=qz (.dK aI)/\k = !aI.isEmpty|_=>False
def aO8{κ:Type}{aI:List (κ×V)}{vs:List (κ×qj)}(r:KV aI vs):(!vs.isEmpty) = !aI.isEmpty:=by cases r<;>rfl
def aGv{xs:List V}(r:aT xs aG):(!aG.toArray.isEmpty) = !xs.isEmpty:=by cases r<;>simp
def mZ:(qk:Nat)<2^63:=by rw[zx];decide
def aUy:bAy X (λ x H Q=>∃ k,aET X.K x H k/\Q k H):=by
 intro aB s σ H x v Q I rx h;let(k,e,q):=h;have hl:=mZ;have hs:qk=16777216:=zx;cases x with
 |non=>
   cases rx;have e':k=false:=e;subst e';exact truthy_none (H,I,q,)
 |bl b=>
   cases rx;have e':k=b:=e;subst e';exact jy (H,I,q,)
 |int i=>
   let(t,rfl):=rx;have e':k=(i != 0):=e;subst e';exact PySem.P.truthy_int (H,I,q,)
 |str y=>
   let(t,rfl):=rx;obtain⟨hy,e'⟩:y.length<=qk/\k=((y.length:Int) != 0):=e;subst e';exact PySem.P.truthy_str (!_) (H,I.tok _,q,)
 |byt y=>
   let(t,rfl):=rx;obtain⟨hy,e'⟩:y.size<=qk/\k=((y.size:Int) != 0):=e;subst e';exact PySem.W.truthy_bytes (!_) (H,I.tok _,q,)
 |ref p=>
   cases rx;have e':(∃ xs,bT X.K H p xs/\k = !xs.isEmpty)\/(∃ xs,cE X.K H p xs/\k = !xs.isEmpty)\/∃ aI,H p=qz (.dK aI)/\k = !aI.isEmpty:=e;rcases e' with ⟨xs,hx,e'⟩|⟨xs,hx,e'⟩|⟨aI,hx,e'⟩
   .subst e';let(aG,r,pl,hz):=I.list hx;have cJ:=r.length;exact wpAny_truthy_list pl.isList (by simp only[yAh];omega) (H,I.tok _,by rw[aGv r];exact q,)
   .subst e';let(aG,r,pl,hz):=I.tuple hx;have cJ:=r.length;exact truthy_tuple pl (by simp only[yAh];omega) (H,I.tok _,by rw[aGv r];exact q,)
   .subst e';obtain⟨hz,hS,vs,r,m⟩:aI.length<=qk/\(p==sysModules)=false/\∃ vs,KV aI vs/\s.heap.DictOf (eU X.prog X.w) p vs:=I.hok p _ hx;have cJ:aI.length=↑vs:=Paired.length r;exact wpAny_truthy_dict hS m (!_) (H,I.tok _,by rw[aO8 r];exact q,)
 |_=>exact(show False from e).elim
def aQx{ta:TE}(ha:PE X a ta)(he:∀ hJ,isTrue a X.env hJ=(do let v <- hJ;standAt a.pos;holding [v] (truthy v))) :
 PT X a (λ σ H Q=>ta σ H λ x H'=>∃ k,aET X.K x H' k/\Q k H'):=by intro aB s σ H Q I h;exact isTrue_plain (bA (ha aB s σ H _ I h) λ v s1 ⟨x,H1,I1,r1,q1⟩=>aUy aB s1 σ H1 x v Q I1 r1 q1) (he _)
def aOP:dA X (zu .Add) (λ x y H Q=>∃ i j,x=.str i/\y=.str j/\i.length+j.length<=qk/\Q (.str (i++j)) H):=by intro aB s σ H x y v u Q I rx ry h;let(i,j,rfl,rfl,hz,q):=h;let(t,rfl):=rx;let(t',rfl):=ry;exact add_str (λ t' tk=>(.str (i++j),H,I.tok _,(_,rfl,),q,)) hz
def lX(r:aT [x] us):∃ u,us=[u]/\aU x u:=by
 cases r with
 |cons r1 r2=>cases r2;exact(_,rfl,r1,)
def aLA(r:aT [x,y] us):∃ u w',us=[u,w']/\aU x u/\aU y w':=by
 cases r with
 |cons r1 r2=>
   cases r2 with
   |cons r3 r4=>cases r4;exact(_,_,rfl,r1,r3,)
def aPA(hc:X.calm=true):fQ X (.builtin "max") (λ xs H Q=>∃ i j,xs=[.int i,.int j]/\Q (.int (if j>i then j else i)) H):=by
 intro aB s σ H xs us Q I r h;let(i,j,rfl,q):=h;let(u,w',rfl,(t,rfl),(t',rfl)):=aLA r;refine max_two_ints (I.ok.hd hc) λ h' tk k=>(_,H,I.kept k,?_,q,)
 by_cases hj:j>i
 .rw[if_pos hj,if_pos hj];exact(_,rfl,)
 .rw[if_neg hj,if_neg hj];exact(_,rfl,)
def aPY(hc:X.calm=true):fQ X (.builtin "min") (λ xs H Q=>∃ i j,xs=[.int i,.int j]/\Q (.int (if j<i then j else i)) H):=by
 intro aB s σ H xs us Q I r h;let(i,j,rfl,q):=h;let(u,w',rfl,(t,rfl),(t',rfl)):=aLA r;refine min_two_ints (I.ok.hd hc) λ h' tk k=>(_,H,I.kept k,?_,q,)
 by_cases hj:j<i
 .rw[if_pos hj,if_pos hj];exact(_,rfl,)
 .rw[if_neg hj,if_neg hj];exact(_,rfl,)
def aHp:fQ X (.type "int") (λ xs H Q=>(∃ i,xs=[.int i]/\Q (.int i) H)\/∃ k,xs=[.bl k]/\Q (.int (if k then 1 else 0)) H):=by
 intro aB s σ H xs us Q I r h;rcases h with ⟨i,rfl,q⟩|⟨k,rfl,q⟩
 .let(u,rfl,t,rfl):=lX r;exact call_int_int (.int i,H,I,(_,rfl,),q,)
 .let(u,rfl,r1):=lX r;cases r1;exact call_int_bool (.int (if k then 1 else 0),H,I.tok _,(_,rfl,),q,)
end L2
namespace L2
open PySem PySem.Spec PyProof.Rows
structure ObjM(h:Heap)(x dx C:qw)(mA:Str->Option qj):Prop where
 obj:h.get? x=qz (yDi C dx)
 ns:h.Ns1 dx mA
 ne:dx≠x
def aPR{h:Heap}{mA:Str->Option qj}(n:h.Ns1 dx mA):∃ od,h.get? dx=qz od/\∀ name,yHv name od=qz (mA name):=by
 let(o,es,ep,ho,hd,hk,_,hm):=n;refine(o,ho,λ name=>?_,);have e:=hm name;unfold nsFind findBy at e;rw[<- Array.find?_toList] at e;unfold yHv;rw[hd];dsimp only;split
 .rename_i y q;rw[q] at e;exact congrArg qz e
 .rename_i q;rw[q] at e;have a:es.toList.any (·.refKey)=false:=by
   rw[List.any_eq_false];intro y hy;let(z,t,hkey):=hk y (Array.mem_toList_iff.mp hy);simp[DictEntry.refKey,hkey]
  have a':¬ es.toList.any (·.refKey)=true:=by rw[a];exact yAu
  rw[if_neg a'];exact congrArg qz e
def ObjM.look{mA:Str->Option qj}(I:ObjM h x dx C mA):∃ od,PySem.W.InstAt h x (yDi C dx) C (qz od)/\∀ name,yHv name od=qz (mA name):=
 let ⟨od,ho,hl⟩:=aPR I.ns
 (od,(I.obj,rfl,rfl,ho,),hl,)
variable {K:FrG}
def aTv{E:qj -> qv -> Prop}{s:qv}{mA:Str -> Option qj}{Q:qj->qv->Prop}(X:K.In s.heap)(I:ObjM s.heap x dx C mA)(hg:yEn K C name=true)(hh:yEy K C=true)(ha:yBk K (.ref C) name=qz qx)(hv:mA name=qz v)(hv':PySem.W.handedIn v=true)(h:Q v {s with toks:=s.toks+1 }) :
 qu (model prog w) A (getAttr (.ref x) name expr) Q E s:=by let(od,J,hl):=I.look;exact PySem.W.get_value X J (yGy hg).1 (PySem.W.findObj_own hh ha rfl (by rw[hl,hv])) hv' h
def aRm{E:qj -> qv -> Prop}{s:qv}{mA:Str -> Option qj}{Q:qj×List qj->qv->Prop}(X:K.In s.heap)(I:ObjM s.heap x dx C mA)(hg:yEn K C name=true)(hf:yBk K (.ref C) name=qz (qz (.ref f)))(ht:yHn K (.ref f)=true)(hv:mA name=qx)(h:Q (.ref f,[.ref x]) s) :
 qu (model prog w) A (getMethod (.ref x) name pl) Q E s:=by let(od,J,hl):=I.look;exact PySem.W.method_fn X J (yGy hg).1 (yGy hg).2 hf (beq_iff_eq.mp ht) (by show(yHv name od).map (·.isSome)=qz false;rw[hl,hv];rfl) h
def aSf{E:qj -> qv -> Prop}{s:qv}{mA:Str -> Option qj}{Q:Unit->qv->Prop}(X:K.In s.heap)(I:ObjM s.heap x dx C mA)(hs:yBk K (.ref C) "__setattr__" = qz (qz (.builtin "object.__setattr__")))(hp:yGj K C=true)(ht:yIm K C name=qz qx)(hh:yEy K C=true)(hw:PySem.Within mA ns)(hsz:↑ns<=qk)(h:∀ h',ObjM h' x dx C (λ y=>if y=name then qz v else mA y)->yCi dx s.heap h'->Q () {s with heap:=h',toks:=s.toks+2 }) :
 qu (model prog w) A (setAttr (.ref x) name v) Q E s:=by
 let(od,J,hl):=I.look;refine PySem.W.set_plain X J hs (PySem.W.osa_open (s:={s with toks:=s.toks+1 }) (r:=qx) X J hp ht λ b=>?_);let(cd,hc,hd'):=PySem.W.any_some hh;have hx:s.heap.get? x=qz (.ref C,qz dx,.plain,#[],):=I.obj;refine wB (wP (wB (wB (wpAny_loadPart hx (wB (PySem.W.Looks.here (s:={s with toks:=s.toks+1 }) (PySem.W.looks_clsIn X hc) ?_))))));rw[hd'];refine wP (a:=qz dx) (wB (wP (wB ?_)));refine wpAny_nsSet1 (s:={s with toks:=s.toks+1 }) I.ns λ h' hn2 hs2=>?_
 let(oD,esD,epD,hoD,hdD,hcD):=hn2.count (PySem.Within.cons name v hw);refine wB (wpAny_lookBehind hoD (by rw[hdD];exact pastItsLine_dict (xAh hcD (by rw[yAl];omega))) ?_);exact wP (h _ ((hs2.2 _ (Ne.symm I.ne)).trans I.obj,hn2,I.ne,) hs2)
def aRx{A:zv}{s:qv}{R:Result->qv->Prop}(X:K.In s.heap)(hm:yIn K C=true)(hi:yBk K (.ref C) "__init__" = qz (qz (.ref f)))(hf:PySem.W.typeIn K (.ref f)=qz (.type "function"))(h:jj (model prog w) (A.under (.builtin "type.__call__" (.ref C::vs,kw,))) (.call (.ref f) (.ref (s.heap.objs.size+1)::vs,kw,)) (PySem.W.InitBack (s.heap.objs.size+1) R)
   {s with heap:=(s.heap.push yCj).push (yDi C s.heap.objs.size) }) :
 jj (model prog w) A (.call (.ref C) (vs,kw,)) R s:=by let(hh,g,d,t,os):=s;exact PySem.W.make_core (PySem.W.makes_of X hm) (PySem.W.looks_findIn X hi) (λ self=>PySem.W.bind_fn X self hf) (.inl rfl) h
def fM(f:Str)(v:V):List (Str×V)->List (Str×V)
 |[]=>[(f,v)]
 |(g,x)::r=>if g=f then (g,v)::r else (g,x)::fM f v r
def aGm(f g:Str)(v:V):∀ fs:List (Str×V),(fM f v fs).lookup g=if g=f then qz v else fs.lookup g
 |[]=>by
   show yGk g [(f,v)]=_;by_cases h:g=f
   .have hb:(g==f)=true:=beq_iff_eq.mpr h;simp only[yGk,hb,if_pos h]
   .have hb:(g==f)=false:=beq_eq_false_iff_ne.mpr h;simp only[yGk,hb,if_neg h]
 |(k,x)::r=>by
   have ih:=aGm f g v r;rw[show fM f v ((k,x)::r)=(if k=f then (k,v)::r else (k,x)::fM f v r) from rfl];by_cases hk:k=f
   .rw[if_pos hk];by_cases h:g=k
    .have hb:(g==k)=true:=beq_iff_eq.mpr h;simp only[yGk,hb,if_pos (h.trans hk)]
    .have hb:(g==k)=false:=beq_eq_false_iff_ne.mpr h;simp only[yGk,hb,if_neg (λ e:g=f=>h (e.trans hk.symm))]
   .rw[if_neg hk];by_cases h:g=k
    .have hb:(g==k)=true:=beq_iff_eq.mpr h;simp only[yGk,hb,if_neg (λ e:g=f=>hk (h.symm.trans e))]
    .have hb:(g==k)=false:=beq_eq_false_iff_ne.mpr h;simp only[yGk,hb];exact ih
def aCJ(f:Str)(v:V):∀ fs:List (Str×V),f∈(fM f v fs).map (·.1)/\∀ g,g∈fs.map (·.1)->g∈(fM f v fs).map (·.1)
 |[]=>(by simp[fM],λ g h=>by simp at h,)
 |(k,x)::r=>by
   let(i1,i2):=aCJ f v r;rw[show fM f v ((k,x)::r)=(if k=f then (k,v)::r else (k,x)::fM f v r) from rfl];by_cases hk:k=f
   .rw[if_pos hk];subst hk;exact(by simp,λ g h=>by simpa using h,)
   .rw[if_neg hk];refine(?_,λ g h=>?_,)
    .rw[yAf];exact xAf _ i1
    .rw[yAf] at h ⊢;rcases List.mem_cons.mp h with e|e
     .exact List.mem_cons.mpr (.inl e)
     .exact xAf _ (i2 g e)
def aGk(f:Str)(v:V):∀ fs:List (Str×V),(fM f v fs).length<=↑fs+1
 |[]=>by simp[fM]
 |(k,x)::r=>by
   have ih:=aGk f v r;rw[show fM f v ((k,x)::r)=(if k=f then (k,v)::r else (k,x)::fM f v r) from rfl];by_cases hk:k=f
   .rw[if_pos hk,yAl,yAl];omega
   .rw[if_neg hk,yAl,yAl];omega
def gX.some_of(r:gX (qz v) o):∃ u,o=qz u/\aU v u:=by
 cases o with
 |none=>exact(show False from r).elim
 |some u=>exact(u,rfl,r,)
def gX.none_of(r:gX qx o):o=qx:=by
 cases o with
 |none=>rfl
 |some u=>exact(show False from r).elim
def aPB(r:aU v u):PySem.W.handedIn u=true:=by
 cases v with
 |non=>cases (show u=Value.none from r);rfl
 |bl b=>cases (show u=Value.bool b from r);rfl
 |int i=>let(t,e):=(show ∃ t,u=Value.int i t from r);cases e;rfl
 |str x=>let(t,e):=(show ∃ t,u=Value.str x t from r);cases e;rfl
 |byt b=>let(t,e):=(show ∃ t,u=Value.bytes b t from r);cases e;rfl
 |flt b=>let(t,e):=(show ∃ t,u=Value.float b t from r);cases e;rfl
 |ref a=>cases (show u=Value.ref a from r);rfl
 |ty n=>cases (show u=Value.type n from r);rfl
section
variable {P:zq}{w:zj}{H H':Hp}{h h':Heap}{a C dx:qw}{fs fs':List (Str×V)}
def aDk(hok:cS P w H h)(e:H a=qz (.ins C dx fs)):∃ mA,ObjM h a dx C mA/\(∀ f,gX (fs.lookup f) (mA f))/\PySem.Within mA (fs.map (·.1))/\↑fs<=1000/\H dx=qz (.own a):=by let(d,z,ne,ob,mA,n,r,q):=(show dX P w H h a (.ins C dx fs) from hok a _ e);exact(mA,(ob,n,ne,),r,q,z,d,)
end
structure Cls(K:FrG)(C:qw):Prop where
 pg:yEn K C Str.empty=true
 hd:yEy K C=true
 po:yGj K C=true
 sa:yBk K (.ref C) "__setattr__" = qz (qz (.builtin "object.__setattr__"))
def Cls.get(c:Cls K C)(f:Str):yEn K C f=true:=c.pg
def NoAttr(K:FrG)(C:qw)(f:Str):Prop:=yBk K (.ref C) f=qz qx
def NoAttr.taker(n:NoAttr K C f):yIm K C f=qz qx:=by unfold yIm;rw[show yBk K (.ref C) f=qz qx from n];rfl
structure Con(K:FrG)(C:qw)(f:Str)(v:V)(u:qj):Prop where
 at_:yBk K (.ref C) f=qz (qz u)
 rel:aU v u
 get:PySem.W.specialIn K u "__get__" = qz qx
 cp:PySem.W.copiedNames.contains f=false
structure Meth(K:FrG)(C:qw)(m:Str)(f:qw):Prop where
 at_:yBk K (.ref C) m=qz (qz (.ref f))
 fn:yHn K (.ref f)=true
 kp:yBt K (.ref f)=true
section
variable {X:Cx}{aB:List (qw×Obj)}{σ:St}{H:Hp}{s:qv}{a C dx:qw}{fs:List (Str×V)}{f:Str}{v:V}{A:zv}{E:qj->qv->Prop}
def aOV{Q:qj->qv->Prop}(I:Inv X aB σ H s)(e:H a=qz (.ins C dx fs))(c:Cls X.K C)(n:NoAttr X.K C f)(l:fs.lookup f=qz v)(h:∀ u s',Inv X aB σ H s'->aU v u->Q u s'):qu (model X.prog X.w) A (getAttr (.ref a) f b) Q E s:=by let(mA,O,r,_,_,_):=aDk I.hok e;let(u,hu,ru):=gX.some_of (v:=v) (o:=mA f) (by rw[<- l];exact r f);exact aTv I.kIn O (c.get f) c.hd n hu (aPB ru) (h u _ (I.tok _) ru)
def aOH{Q:qj×List qj->qv->Prop}(I:Inv X aB σ H s)(e:H a=qz (.ins C dx fs))(c:Cls X.K C)(k:Meth X.K C m g)(l:fs.lookup m=qx)(h:Q (.ref g,[.ref a]) s):qu (model X.prog X.w) A (getMethod (.ref a) m pl) Q E s:=by let(mA,O,r,_,_,_):=aDk I.hok e;have hn:mA m=qx:=gX.none_of (by rw[<- l];exact r m);exact aRm I.kIn O (c.get m) k.at_ k.fn hn h
def aOZ{Q:Unit->qv->Prop}(I:Inv X aB σ H s)(e:H a=qz (.ins C dx fs))(c:Cls X.K C)(n:NoAttr X.K C f)(hl:↑fs<1000)(ry:aU y u)(h:∀ s',Inv X aB σ (bB H a (.ins C dx (fM f y fs))) s'->Q () s'):qu (model X.prog X.w) A (setAttr (.ref a) f u) Q E s:=by
 let(mA,O,r,wi,_,ho):=aDk I.hok e;have hz:(fs.map (·.1)).length<=qk:=by rw[yAd,zx];omega
 refine aSf I.kIn O c.sa c.po n.taker c.hd wi hz λ h' O' sb=>h _ ?_
 have hd:∃ o,h'.get? dx=qz o:=let ⟨o,_,_,e',_⟩:=O'.ns;(o,e',);refine I.write (x:=a) (e:=dx) (by rw[e];exact True.intro) (.inr ho) (λ b q hb z=>(sb.2 b hb).trans z) hd ?_;refine(by rw[bR O.ne];exact ho,?_,O.ne,O'.obj,_,O'.ns,λ g=>?_,λ g hg=>?_,)
 .have:=aGk f y fs;omega
 .show gX ((fM f y fs).lookup g) (if g=f then qz u else mA g);rw[aGm];by_cases q:g=f
  .rw[if_pos q,if_pos q];exact ry
  .rw[if_neg q,if_neg q];exact r g
 .by_cases q:g=f
  .rw[q];exact(aCJ f y fs).1
  .refine(aCJ f y fs).2 g (wi g λ z=>hg ?_);show(if g=f then qz u else mA g)=qx;rw[if_neg q];exact z
def Inv.made(I:Inv X aB σ H s):Inv X aB σ (bB (bB H s.heap.objs.size (.own (s.heap.objs.size+1))) (s.heap.objs.size+1) (.ins C s.heap.objs.size []))
 {s with heap:=(s.heap.push yCj).push (yDi C s.heap.objs.size) }:=by
 have e1:(s.heap.push yCj).get? s.heap.objs.size=qz yCj:=xAd s.heap rfl;have e2:((s.heap.push yCj).push (yDi C s.heap.objs.size)).get? (s.heap.objs.size+1)=qz (yDi C s.heap.objs.size):=by
  have:=xAd (s.heap.push yCj) (o:=yDi C s.heap.objs.size) rfl;rwa [yFe] at this
 have e3:(s.heap.push yCj).Ns s.heap.objs.size (λ _=>qx):=(yCj,#[],_,e1,rfl,(λ e he=>absurd he (by simp)),λ _=>rfl,);have I1:=I.laid (a:=s.heap.objs.size) (o:=.own (s.heap.objs.size+1)) (h':=s.heap.push yCj) (t':=s.toks) (λ b u q=>hpS _ q) (yAb _) (_,e1,);refine I1.laid (a:=s.heap.objs.size+1) (o:=.ins C s.heap.objs.size []) (t':=s.toks) (λ b u q=>hpS _ q) (yHo (yFe _ _)) ?_;have ne:s.heap.objs.size≠s.heap.objs.size+1:=xAj (yBa _);refine(by rw[bR ne,cO],yDa _,ne,e2,λ _=>qx,(Heap.Ns1.of_empty e3).at λ o q=>hpS _ q,λ _=>True.intro,λ y hy=>absurd rfl hy,)
def aTS{Q:qj->qv->Prop}(hb:attributeBase e f env (eval e env)=eval e env)(h:qu (model prog w) A (eval e env) (λ o s₁=>qu (model prog w) A (getAttr o f true) Q E s₁) E s):qu (model prog w) A (eval (.Attribute e f pos) env) Q E s:=
 Attribute_any_ h (by rw[arm_eval_Attribute,hb])
end
def bAg(K:FrG)(ta:TE)(f:Str):TE:=λ σ H Q=>ta σ H λ x H1=>∃ a C dx fs v,x=.ref a/\H1 a=qz (.ins C dx fs)/\Cls K C/\NoAttr K C f/\fs.lookup f=qz v/\Q v H1
def aMY(K:FrG)(ta tv:TE)(f:Str):TS:=λ D σ H=>tv σ H λ y H1=>ta σ H1 λ x H2=>∃ a C dx fs,x=.ref a/\H2 a=qz (.ins C dx fs)/\Cls K C/\NoAttr K C f/\↑fs<1000 /\
 D.nx σ (bB H2 a (.ins C dx (fM f y fs)))
def aWE{ta:TE}(he:PE X e ta)(hb:attributeBase e f X.env (eval e X.env)=eval e X.env):PE X (.Attribute e f pos) (bAg X.K ta f):=by intro aB s σ H Q I h;refine aTS hb (bA (he aB s σ H _ I h) λ u s1 hPq25=>?_);let(x,H1,I1,rx,a,C,dx,fs,v,ex,ea,c,n,l,q):=hPq25;subst ex;obtain rfl:u=Value.ref a:=rx;exact aOV I1 ea c n l λ u' s2 I2 ru=>(v,H1,I2,ru,q,)
def aWT{pos:Pos}{ta tv:TE}(ha:PE X o ta)(hv:PE X value tv)(hs:swapsWith value (qz (.Attribute o f pos')) pos.line X.env=pure false):PS X (.Assign [.Attribute o f pos'] value pos) (aMY X.K ta tv f):=by intro aB s σ H D I h;refine plainObj_wpAny_Assign_Attribute (bA (hv aB s σ H _ I h) λ u s1 ⟨y,H1,I1,ry,q⟩=>bA (ha aB s1 σ H1 _ I1 q) λ ov s2 hPq26=>?_) hs;let(x,H2,I2,rx,a,C,dx,fs,ex,ea,c,n,l,q2):=hPq26;subst ex;obtain rfl:ov=Value.ref a:=rx;exact aOZ I2 ea c n l ry λ s3 I3=>(σ,_,I3,q2,)
section
variable {X:Cx}{aB:List (qw×Obj)}{σ:St}{H:Hp}{s:qv}{A:zv}{E:qj->qv->Prop}{Q:qj->qv->Prop}{c:qj}{b:Bool}
inductive TyOf (K:FrG) (H:Hp):V->qj->Prop where
 |non:TyOf K H .non (.type "NoneType")
 |bl (x:Bool):TyOf K H (.bl x) (.type "bool")
 |int (i:Int):TyOf K H (.int i) (.type "int")
 |str (x:Str):TyOf K H (.str x) (.type "str")
 |flt (x:UInt64):TyOf K H (.flt x) (.type "float")
 |lst {a:qw}{xs:List V} (e:H a=qz (.lst xs)):TyOf K H (.ref a) (.type "list")
 |frz {a:qw}{o:Obj}{xs:List V} (e:H a=qz (.frz o (.lst xs))):TyOf K H (.ref a) (.type "list")
 |tup {a:qw}{xs:List V} (e:H a=qz (.tup xs)):TyOf K H (.ref a) (.type "tuple")
 |dK {a:qw}{aI:List (aZ×V)} (e:H a=qz (.dK aI)):TyOf K H (.ref a) (.type "dict")
 |dT {a:qw}{aI:List (List aZ×V)} (e:H a=qz (.dT aI)):TyOf K H (.ref a) (.type "dict")
 |ins {a C dx:qw}{fs:List (Str×V)} (e:H a=qz (.ins C dx fs)) (cl:Cls K C) (ha:yBk K (.ref C) "__class__" = qz (qz (.builtin "object.__class__")))
    (hn:PySem.W.specialIn K (.builtin "object.__class__") "__get__" = qz (qz (.builtin "getset_descriptor.__get__"))) (htk:PySem.W.takesIn K (.builtin "object.__class__")=qz true)
    (hm:PySem.W.mroIn K C (.type "object")=qz true):TyOf K H (.ref a) (.ref C)
end
end L2
namespace L2
open PySem PySem.Spec PyProof.Rows
structure Room(k:Nat)(A:zv):Prop where
 hd:A.handled=qx
 dp:A.depth+3*k+5<recursionLimit
 un:A.units+16*k+200<cLine
def Room.mono(r:Room k A)(h:j<=k):Room j A:=(r.hd,by have:=r.dp;omega,by have:=r.un;omega,)
def Room.deeper(r:Room (k+1) A)(env:Env):Room k (A.deeper env):=
 (r.hd,by have:=r.dp;show A.depth+1+3*k+5<_;omega,by have:=r.un;show A.units+3+16*k+200<_;omega,)
def aOx{A:zv}:(A.under (.builtin "type.__call__" (.ref C::us,kw,))).depth=A.depth+1:=by first|rfl|simp[Around.under,Code.weight,Code.isCreation,Code.isGuard,Code.isCaller,Code.frames,Code.isFrame,guardIds]
def aOw{A:zv}:(A.under (.builtin "type.__call__" (.ref C::us,kw,))).units=A.units+1:=by first|rfl|simp[Around.under,Code.cUnits,Code.frames,Code.isFrame]
def Room.make(r:Room (k+1) A)(C:qw)(us:List qj)(kw:List (Str×qj)):Room k (A.under (.builtin "type.__call__" (.ref C::us,kw,))):=
 (r.hd,by have:=r.dp;rw[aOx];omega,by have:=r.un;rw[aOw];omega,)
def Room.depth(r:Room k A):A.depth<recursionLimit:=by have:=r.dp;omega
def Room.units(r:Room k A):A.units+64<cLine:=by have:=r.un;omega
def aEE:TA:=λ _ H Q=>Q [] H
def aYt(ta:TE)(tr:TA):TA:=λ σ H Q=>ta σ H λ x H1=>tr σ H1 λ xs H2=>Q (x::xs) H2
def aJS:PA X [] aEE:=λ _ _ _ _ H Q I h=>Calls.spliced_nil ([],H,I,.nil,h,)
def aSo{te:TE}{t:TA}(ha:PE X e te)(hr:PA X es t)(hs:qo (e::es) X.env=(false,eval e X.env)::qo es X.env:=by rfl):PA X (e::es) (aYt te t):=by intro pos aB s σ H Q I h;rw[hs];show qu _ _ (spliced ((false,eval e X.env)::backTo pos (qo es X.env))) _ _ s;refine Calls.spliced_cons (bA (ha aB s σ H _ I h) λ u s1 hPq27=>?_);let(x,H1,I1,r1,q1):=hPq27;exact bA (hr pos aB s1 σ H1 _ I1 q1) λ us s2 ⟨xs,H2,I2,r2,q2⟩=>(x::xs,H2,I2,.cons r1 r2,q2,)
def aZ4(t:TA):TE:=λ σ H Q=>t σ H λ xs H1=>↑xs<=qk/\∀ p,H1 p=qx->Q (.ref p) (bB H1 p (.tup xs))
def aEI(t:TA):TE:=λ σ H Q=>t σ H λ xs H1=>↑xs<=qk/\∀ p,H1 p=qx->Q (.ref p) (bB H1 p (.lst xs))
def aKH{t:TA}{x1}(h:PA X es t):PE X (.Tuple es x1 pos) (aZ4 t):=by intro aB s σ H Q I hq;refine wpAny_Tuple_spliced (bA (h pos aB s σ H _ I hq) λ us s1 ⟨xs,H1,I1,r,z,q⟩=>(by rw[<- r.length];exact z,?_,));have hf:H1 s1.heap.objs.size=qx:=I1.hok.fresh (yAb _);refine(.ref s1.heap.objs.size,bB H1 s1.heap.objs.size (.tup xs),I1.laid (t':=s1.toks) (λ b u e=>hpS _ e) (yAb _) ?_,rfl,q _ hf,);exact(z,us,r,(_,xAd _ rfl,rfl,_,rfl,),)
def aDL{t:TA}(h:PA X es t):PE X (.List es pos) (aEI t):=by intro aB s σ H Q I hq;refine wpAny_List_spliced (bA (h pos aB s σ H _ I hq) λ us s1 ⟨xs,H1,I1,r,z,q⟩=>(by rw[<- r.length];exact z,?_,));have hf:H1 s1.heap.objs.size=qx:=I1.hok.fresh (yAb _);refine(.ref s1.heap.objs.size,bB H1 s1.heap.objs.size (.lst xs),I1.laid (t':=s1.toks) (λ b u e=>hpS _ e) (yAb _) ?_,rfl,q _ hf,);exact(z,us,0,r,xAd _ rfl,)
abbrev Sp:=List V->Hp->VK->XK->Prop
abbrev mK:=List Env->Hp->qv->XK->qj->qv->Prop
structure Env0(P:zq)(w:zj)(K:FrG)(mg:Str->Option qj)(base:Heap)(A:zv)(outer:List Env)(s:qv)(H:Hp):Prop where
 frames:A.frames=qz outer
 mod:Mod K mg base
 bs:∀ b o,base.get? b=qz o->s.heap.get? b=qz o/\H b=qx
 bsz:base.objs.size<=s.heap.objs.size
 funs:s.heap.FunFrames base outer
 frf:∀ b∈iQ outer,H b=qx
 hok:cS P w H s.heap
 bare:AllBare s.gens
def CE(outer:List Env)(P:zq)(w:zj)(H:Hp)(s:qv)(Q:VK)(u:qj)(s':qv):Prop:=
 ∃ v H',s'.os=s.os/\AllBare s'.gens/\Un (iQ outer) [] H H' s.heap s'.heap/\cS P w H' s'.heap/\aU v u/\Q v H'
def CR(CX:mK)(outer:List Env)(P:zq)(w:zj)(H:Hp)(s:qv)(Q:VK)(E:XK)(r:Result)(s':qv):Prop:=
 match r with
 |.ok (.ret u)=>CE outer P w H s Q u s'|.ok _=>False|.error e=>CX outer H s E e s'
structure FnOk(P:zq)(w:zj)(K:FrG)(mg:Str->Option qj)(base:Heap)(CX:mK)(k:Nat)(f:qw)(fd:vz)(ps:List Str)(sp:Sp):Prop where
 len:∀ vs H Q E,sp vs H Q E->↑vs=↑ps
 run:∀ (A:zv) (outer:List Env) (s:qv) (H:Hp) (args:Args) (us:List qj) (vs:List V) (Q:VK) (E:XK),Room k A->Env0 P w K mg base A outer s H->BindsTo s fd args (ps.zip us)->aT vs us->sp vs H Q E ->
  jj (model P w) A (.call (.ref f) args) (CR CX outer P w H s Q E) s
variable {K:FrG}
def Env0.make{mg:Str->Option qj}(e:Env0 P w K mg base A outer s H)(C:qw)(us:List qj)(kw:List (Str×qj)) :
 Env0 P w K mg base (A.under (.builtin "type.__call__" (.ref C::us,kw,))) outer s H:=(by first|exact e.frames|(simpa [Around.under,Code.envs,Code.isFrame,pushEnvs] using e.frames),e.mod,e.bs,e.bsz,e.funs,e.frf,e.hok,e.bare,)
section
variable {X:Cx}{aB:List (qw×Obj)}{σ:St}{H:Hp}{s s':qv}
def Inv.env0(I:Inv X aB σ H s):Env0 X.prog X.w X.K X.mg X.base X.A X.stack s H:=
 (I.ok.frames,I.ok.mod,I.bs,xAh I.ok.bsz I.sz,I.stack,I.stkFree,I.hok,I.bare,)
def Inv.after{Q:VK}(I:Inv X aB σ H s)(h:CE X.stack X.prog X.w H s Q u s'):EP X aB σ Q u s':=by let(v,H',os,bare,un,hok,r,q):=h;let(hh,g,d,t,os'):=s';obtain rfl:os'=s.os:=os;exact(v,H',I.call (h':=hh) (g':=g) (d':=d) (t':=t) (ch:=[]) un hok bare (λ b z=>absurd z (by simp)),r,q,)
end
def aBg(sp:Sp)(dvs:List V)(E:XK)(t:TA):TE:=λ σ H Q=>t σ H λ vs H1=>sp (vs++dvs) H1 Q E
def aLy(C:qw)(m:Str)(sp:Sp)(dvs:List V)(E:XK)(ta:TE)(t:TA):TE:=λ σ H Q=>ta σ H λ x H1=>∃ a dx fs,x=.ref a/\H1 a=qz (.ins C dx fs)/\fs.lookup m=qx /\
 t σ H1 λ vs H2=>sp (x::(vs++dvs)) H2 Q E
def aLk(C:qw)(sp:Sp)(dvs:List V)(E:XK)(t:TA):TE:=λ σ H Q=>t σ H λ vs H1=>∀ x dx,H1 x=qx->H1 dx=qx->dx≠x ->
 sp (.ref x::(vs++dvs)) (bB (bB H1 dx (.own x)) x (.ins C dx [])) (λ v H2=>v=.non/\Q (.ref x) H2) E
def gW(K:FrG)(fd:vz)(ps:List Str)(ds:List qj):Prop:=
 ∀ (s:qv) (us:List qj),K.In s.heap->(us++ds).length=↑ps->BindsTo s fd ⟨us,[]⟩ (ps.zip (us++ds))
def gW.all{ps:List Str}(h:∀ us:List qj,↑us=↑ps->bindArgs fd ⟨us,[]⟩=pure (ps.zip us)):gW K fd ps []:=λ s us _ hl=>by
 rw[yBi] at hl ⊢;exact .of_eq (h us hl)
def qM(CX:mK)(X:Cx)(E:XK):Prop:=∀ (aB:List (qw×Obj)) (σ:St) (H:Hp) (s:qv) (e:qj) (s':qv),Inv X aB σ H s->CX X.stack H s E e s'->X.xe e s'
variable {X:Cx}
def aDU{E:XK}{Q:VK}(F:FnOk X.prog X.w X.K X.mg X.base CX k f fd ps sp)(hr:Room k X.A)(hb:gW X.K fd ps ds)(hd:aT dvs ds)(hx:qM CX X E)(I:Inv X aB σ H s)(r:aT vs us)(h:sp (vs++dvs) H Q E):qu (model X.prog X.w) X.A (call (.ref f) us) (EP X aB σ Q) X.xe s:=by
 have r2:aT (vs++dvs) (us++ds):=r.append hd;have hl:(us++ds).length=↑ps:=by rw[<- r2.length];exact F.len _ _ _ _ h
 refine wpAny_call (codeAny_mono (F.run X.A X.stack s H (us,[],) (us++ds) (vs++dvs) Q E hr I.env0 (hb s us I.kIn hl) r2 h) λ r s' hq=>?_);cases r with
 |error e=>exact hx aB σ H s e s' I hq
 |ok fl=>
   cases fl with
   |ret u=>exact I.after hq|next=>exact False.elim hq|brk=>exact False.elim hq|cont=>exact False.elim hq
def aT4{CX:mK}{k:Nat}{f:qw}{fd:vz}{ps:List Str}{sp:Sp}{dvs:List V}{ds:List qj}{E:XK}{x:Str}{p pos:Pos}{e:qy}{es:List qy}{t:TA}(F:FnOk X.prog X.w X.K X.mg X.base CX k f fd ps sp)(hr:Room k X.A)(hg:Gl X x)(hm:X.mg x=qz (.ref f))(hk:yBt X.K (.ref f)=true)(hb:gW X.K fd ps ds)(hd:aT dvs ds)(hx:qM CX X E)
 (ha:PA X (e::es) t) (hdb:(x==("__debug__" : Str))=false:=by decide) (he:qo (e::es) X.env=(false,eval e X.env)::qo es X.env:=by rfl) (hpl:(backTo pos (qo es X.env)).any (·.1)=false:=by rfl) :
 PE X (.Call (.Name x p) (e::es) [] pos) (aBg sp dvs E t):=by intro aB s σ H Q I h;refine zo (aAt I hg hm ?_ hdb);refine yHp (h₀:=X.base) I.ok.mod.kin hk (bA (ha pos aB s σ H _ I h) λ us s1 ⟨vs,H1,I1,r,q⟩=>(I1.kIn,?_,)) he hpl;exact aDU F hr hb hd hx I1 r q
def aQ8{E:XK}(F:FnOk X.prog X.w X.K X.mg X.base CX k f fd ps sp)(hr:Room k X.A)(hg:Gl X x)(hm:X.mg x=qz (.ref f))(hk:yBt X.K (.ref f)=true)(hb:gW X.K fd ps ds)(hd:aT dvs ds)(hx:qM CX X E)(hdb:(x==("__debug__" : Str))=false:=by decide):PE X (.Call (.Name x p) [] [] pos) (aBg sp dvs E aEE):=by intro aB s σ H Q I h;refine zo (aAt I hg hm ?_ hdb);exact PySem.W.callWith_K0 I.kIn hk (aDU (us:=[]) F hr hb hd hx I .nil h)
def aSc{CX:mK}{k:Nat}{f C:qw}{fd:vz}{ps:List Str}{sp:Sp}{dvs:List V}{ds:List qj}{E:XK}{m:Str}{pos apos:Pos}{e o:qy}{es:List qy}{ta:TE}{t:TA}{pl:Sem Bool}(he:PE X o ta)(c:Cls X.K C)(hm:Meth X.K C m f)(F:FnOk X.prog X.w X.K X.mg X.base CX k f fd ps sp)(hr:Room k X.A)(hb:gW X.K fd ps ds)(hd:aT dvs ds)(hx:qM CX X E)(ha:PA X (e::es) t)
 (hst:qo (e::es) X.env=(false,eval e X.env)::qo es X.env:=by rfl) (hpl:(backTo pos (qo es X.env)).any (·.1)=false:=by rfl)
 (ht:eval (.Call (.Attribute o m apos) (e::es) [] pos) X.env=(do
   let ov <- eval o X.env
   standAt apos.atName
   let (f,first) <- holding [ov] (getMethod ov m pl)
   callWith pos f first (backTo pos (qo (e::es) X.env)) (backToKw pos (keywordEach [] X.env))):=by rfl) :
 PE X (.Call (.Attribute o m apos) (e::es) [] pos) (aLy C m sp dvs E ta t):=by intro aB s σ H Q I h;refine PySem.W.methodCall_KW (pl:=pl) (bA (he aB s σ H _ I h) λ u s1 hPq28=>?_) ht;let(x,H1,I1,rx,a,dx,fs,ex,ea,l,q):=hPq28;subst ex;obtain rfl:u=Value.ref a:=rx;refine aOH I1 ea c hm l ?_;refine yHp (first:=[.ref a]) (h₀:=X.base) I.ok.mod.kin hm.kp (bA (ha pos aB s1 σ H1 _ I1 q) λ us s2 ⟨vs,H2,I2,r,q2⟩=>(I2.kIn,?_,)) hst hpl;exact aDU (us:=.ref a::us) (vs:=.ref a::vs) F hr hb hd hx I2 (.cons rfl r) q2
structure Mk(K:FrG)(C f:qw):Prop where
 makes:yIn K C=true
 init:yBk K (.ref C) "__init__" = qz (qz (.ref f))
 fn:yHn K (.ref f)=true
 kp:yBt K (.ref C)=true
def aRj{E:XK}{Q:VK}(M:Mk X.K C f)(F:FnOk X.prog X.w X.K X.mg X.base CX k f fd ps sp)(hr:Room (k+1) X.A)(hb:gW X.K fd ps ds)(hd:aT dvs ds)(hx:qM CX X E)(I:Inv X aB σ H s)(r:aT vs us)(h:∀ x dx,H x=qx->H dx=qx->dx≠x->sp (.ref x::(vs++dvs)) (bB (bB H dx (.own x)) x (.ins C dx [])) (λ v H2=>v=.non/\Q (.ref x) H2) E) :
 qu (model X.prog X.w) X.A (call (.ref C) us) (EP X aB σ Q) X.xe s:=by
 have hq:=h (s.heap.objs.size+1) s.heap.objs.size (I.hok.fresh (Nat.le_succ _)) (I.hok.fresh (yAb _)) (xAj (yBa _));have I2:=Inv.made (C:=C) I;have r2:aT (V.ref (s.heap.objs.size+1)::(vs++dvs)) (Value.ref (s.heap.objs.size+1)::(us++ds)):=.cons rfl (r.append hd);have hl:(Value.ref (s.heap.objs.size+1)::us++ds).length=↑ps:=by
  have e:=r2.length;rw[F.len _ _ _ _ hq] at e;exact e.symm
 refine wpAny_call (aRx (f:=f) I.kIn M.makes M.init (beq_iff_eq.mp M.fn) (codeAny_mono (F.run _ X.stack _ _ (Value.ref (s.heap.objs.size+1)::us,[],) (Value.ref (s.heap.objs.size+1)::(us++ds)) _ _ E (hr.make C us [])
  (I2.env0.make C us []) (hb _ (Value.ref (s.heap.objs.size+1)::us) I2.kIn hl) r2 hq) λ r s' hq'=>?_))
 cases r with
 |error e=>exact hx aB σ _ _ e s' I2 hq'
 |ok fl=>
   cases fl with
   |ret u=>
     let(v,H',I3,rv,ev,q3):=I2.after hq';subst ev;exact(rv,(V.ref (s.heap.objs.size+1),H',I3,rfl,q3,),)
   |next=>exact False.elim hq'|brk=>exact False.elim hq'|cont=>exact False.elim hq'
def aSx{CX:mK}{k:Nat}{f C:qw}{fd:vz}{ps:List Str}{sp:Sp}{dvs:List V}{ds:List qj}{E:XK}{x:Str}{p pos:Pos}{e:qy}{es:List qy}{t:TA}(M:Mk X.K C f)(F:FnOk X.prog X.w X.K X.mg X.base CX k f fd ps sp)(hr:Room (k+1) X.A)(hg:Gl X x)(hm:X.mg x=qz (.ref C))(hb:gW X.K fd ps ds)(hd:aT dvs ds)(hx:qM CX X E)
 (ha:PA X (e::es) t) (hdb:(x==("__debug__" : Str))=false:=by decide) (he:qo (e::es) X.env=(false,eval e X.env)::qo es X.env:=by rfl) (hpl:(backTo pos (qo es X.env)).any (·.1)=false:=by rfl) :
 PE X (.Call (.Name x p) (e::es) [] pos) (aLk C sp dvs E t):=by intro aB s σ H Q I h;refine zo (aAt I hg hm ?_ hdb);refine yHp (h₀:=X.base) I.ok.mod.kin M.kp (bA (ha pos aB s σ H _ I h) λ us s1 ⟨vs,H1,I1,r,q⟩=>(I1.kIn,?_,)) he hpl;exact aRj M F hr hb hd hx I1 r q
structure KBinds(K:FrG)(fd:vz)(ps ks:List Str)(g:List qj->List qj->List qj)(gV:List V->List V->List V):Prop where
 to:∀ (s:qv) (us ws:List qj),K.In s.heap->(g us ws).length=↑ps->BindsTo s fd ⟨us,ks.zip ws⟩ (ps.zip (g us ws))
 rel:∀ {vs:List V}{us:List qj}{zs:List V}{ws:List qj},aT vs us->aT zs ws->aT (gV vs zs) (g us ws)
structure FnScope(N P:List Str)(sc:zy):Prop where
 kind:sc.kind=.function
 co:sc.isCoroutine=false
 gen:sc.isGenerator=false
 nd:N.Nodup
 pre:N.take P.length=P
 par:∀ x∈P,sc.names.lookup x=qz .local\/sc.names.lookup x=qz .cell
 nofree:∀ y∈sc.names,y.2≠.free
def aG6{kindOf:Str->Option jo}:∀ {binds:List (Str×qj)}{m:Str->Option qj},(∀ v,(x,v) ∉ binds)->bindL kindOf binds m x=m x
 |[],_,_=>rfl
 |(n,v)::r,m,h=>by
   unfold bindL;rw[aG6 λ w hw=>h w (xAf _ hw)];split
   .have:x≠n:=by rintro rfl;exact h v xAc
    simp[this]
   .rfl
def aHn{kindOf:Str->Option jo}:∀ {binds:List (Str×qj)}{m:Str->Option qj},(∀ v,(x,v) ∉ binds)->bindC kindOf binds m x=m x
 |[],_,_=>rfl
 |(n,v)::r,m,h=>by
   unfold bindC;rw[aHn λ w hw=>h w (xAf _ hw)];split
   .rfl
   .have:x≠n:=by rintro rfl;exact h v xAc
    simp[this]
def aG2{kindOf:Str->Option jo}:∀ {P:List Str}{vs:List qj}{i:Nat}{m:Str->Option qj},P.Nodup->P[i]?=qz x->vs[i]?=qz v->kindOf x=qz .local ->
 bindL kindOf (P.zip vs) m x=qz v
 |[],_,_,_,_,h,_,_=>by simp at h|_::_,[],_,_,_,_,h,_=>by simp at h
 |p::P,w::vs,0,m,nd,h1,h2,hk=>by
   simp at h1 h2;subst h1;subst h2;show bindL kindOf ((p,w)::P.zip vs) m p=_;unfold bindL;rw[aG6 λ v hv=>(List.nodup_cons.mp nd).1 (yGz hv).1,if_pos hk];simp
 |p::P,w::vs,i+1,m,nd,h1,h2,hk=>by
   show bindL kindOf ((p,w)::P.zip vs) m x=_;unfold bindL;exact aG2 (i:=i) (List.nodup_cons.mp nd).2 (h1:) (h2:) hk
def aGS{kindOf:Str->Option jo}:∀ {P:List Str}{vs:List qj}{i:Nat}{m:Str->Option qj},P.Nodup->P[i]?=qz x->vs[i]?=qz v->kindOf x≠qz .local ->
 bindC kindOf (P.zip vs) m x=qz v
 |[],_,_,_,_,h,_,_=>by simp at h|_::_,[],_,_,_,_,h,_=>by simp at h
 |p::P,w::vs,0,m,nd,h1,h2,hk=>by
   simp at h1 h2;subst h1;subst h2;show bindC kindOf ((p,w)::P.zip vs) m p=_;unfold bindC;rw[aHn λ v hv=>(List.nodup_cons.mp nd).1 (yGz hv).1,if_neg hk];simp
 |p::P,w::vs,i+1,m,nd,h1,h2,hk=>by
   show bindC kindOf ((p,w)::P.zip vs) m x=_;unfold bindC;exact aGS (i:=i) (List.nodup_cons.mp nd).2 (h1:) (h2:) hk
def start(N:List Str)(vs:List V):St:=vs.map qz++yAe (N.length-↑vs) qx
def tK(CX:mK)(P:zq)(w:zj)(K:FrG)(mg:Str->Option qj)(base:Heap)(N:List Str)(qual:Str)(scope:zy)(f:qw)(cd:qj)(A:zv)(outer:List Env)(s:qv)(H:Hp)(E:XK):Cx where
 prog:=P
 w:=w
 K:=K
 mg:=mg
 base:=base
 A:=A.deeper (envOfC qual scope s.heap.objs.size f cd)
 N:=N
 s₀:=s
 H₀:=H
 env:=envOfC qual scope s.heap.objs.size f cd
 outer:=outer
 stack:=envOfC qual scope s.heap.objs.size f cd::outer
 ex:=[]
 calm:=true
 fn:=λ _=>true
 pn:=[]
 xe:=λ e s'=>qu (model P w) (A.deeper (envOfC qual scope s.heap.objs.size f cd)) (leaving (envOfC qual scope s.heap.objs.size f cd) e) (λ _ s''=>CX outer H s E e s'') (λ e' s''=>CX outer H s E e' s'') s'
def aHK{sc:zy}(h:sc.names.lookup x=qz .cell):∃ c,(cellsFrom n sc.names []).lookup x=qz c:=by have q:=PySem.W.cellsFrom_some sc.names n [] (.inl h);exact Option.isSome_iff_exists.mp q
def aPj{mg:Str->Option qj}{A:zv}{E:XK}{vs:List V}(S:FnScope N ps scope)(hd:A.handled=qx)(e0:Env0 P w K mg base A outer s H)(hl:↑vs=↑ps)(r:aT vs us)(x:InCallC s s.heap.objs.size (bindL (envOfC qual scope s.heap.objs.size f cd).kindOf (ps.zip us) λ _=>qx) (cellsFrom (s.heap.objs.size+1) scope.names []) (bindC (envOfC qual scope s.heap.objs.size f cd).kindOf (ps.zip us) λ _=>qx) s1) :
 Inv (tK CX P w K mg base N qual scope f cd A outer s H E) [] (start N vs) H s1:=by
 have hpl:↑ps<=N.length:=by have:=congrArg yHa S.pre;rw[yBo] at this;omega
 let(h1,tk,rfl,hk):=x.done;have noA:∀ b:qw,b ∉ (tK CX P w K mg base N qual scope f cd A outer s H E).ex:=λ b z=>absurd (show b∈([]:List qw) from z) (by simp)
 refine⟨(e0.mod,S.kind,rfl,rfl,yAb _,λ y z c h1 h2=>?_,λ y hy=>?_,λ y c _ h=>?_,λ _=>hd,Around.frames_deeper e0.frames,.inr (rfl,rfl,),λ b z=>absurd z (noA b),e0.bs,e0.bsz,λ b _ _=>noA b,λ b z=>absurd z (noA b),e0.funs,e0.frf,),
  rfl,e0.bare,Un.kept hk,(_,x.toInCall.ns,λ i y v h1 h2 h3=>?_,),λ y c h=>(_,x.cell y c h,),e0.hok.fresh (yAb _),λ y c h=>?_,λ p hp=>absurd (show p∈([]:List (qw×Obj)) from hp) (by simp),e0.hok.kept hk,?_⟩
 .exact name_of_addr x.apart (PySem.mem_of_lookup h1) (PySem.mem_of_lookup h2)
 .have hy:scope.names.lookup y=qz .cell\/scope.names.lookup y=qz .free:=hy;rcases hy with hy|hy
  .exact aHK hy
  .exact absurd rfl (S.nofree _ (PySem.mem_of_lookup hy))
 .exact yEs (x.above y c (PySem.mem_of_lookup h))
 .have hi:i<↑vs:=by
   unfold start at h2;by_cases hi:i<↑vs
   .exact hi
   .rw[yAi (hi:)] at h2;rw[yDc] at h2;split at h2<;>cases h2
  have ha:vs[i]?=qz v:=by
   unfold start at h2;rw[xAm (hi:),yAg] at h2;cases e:vs[i]? with
   |none=>rw[e] at h2;cases h2|some a=>rw[e] at h2;cases h2;rfl
  let(u,hu,rv):=r.get ha;have hp:ps[i]?=qz y:=by
   rw[<- S.pre,yEa (!_)];exact h1
  have ndP:ps.Nodup:=by rw[<- S.pre];exact S.nd.sublist (List.take_sublist _ _)
  refine(u,rv,?_,);rcases S.par y (xAk hp) with k|k
  .exact .inl (k,aG2 ndP hp hu k,)
  .let(c,e):=aHK (n:=s.heap.objs.size+1) k;refine .inr (.inl k,c,e,?_,);have q:=x.cell y c e;rw[aGS ndP hp hu (by show scope.names.lookup y≠_;rw[k];decide)] at q;exact q
 .exact e0.hok.fresh (yEs (x.above y c (PySem.mem_of_lookup h)))
 .unfold start;show _=N.length;rw[xAn,yAd,yEt];omega
def aY4{mg:Str->Option qj}{dV kV:qj}(lk:K.lookup f=qz (oc,od,.func (yCk name qual params body scope dV kV doc pm an cdv ct),osl,))(hcd:yDg K cdv qual=true)(S:FnScope N ps scope)(len:∀ vs H Q E,sp vs H Q E->↑vs=↑ps)(hbody:∀ (A:zv) (outer:List Env) (s:qv) (H:Hp) (vs:List V) (Q:VK) (E:XK),Room k (A.deeper (envOfC qual scope s.heap.objs.size f cdv))->sp vs H Q E ->
   ∃ t,dJ (tK CX P w K mg base N qual scope f cdv A outer s H E) body t/\t {nx:=λ _ H'=>Q .non H',rt:=Q } (start N vs) H) :
 FnOk P w K mg base CX (k+1) f (yCk name qual params body scope dV kV doc pm an cdv ct) ps sp:=by
 refine(len,λ A outer s H args us vs Q E hr e0 hb r hsp=>?_,);have hl:=len _ _ _ _ hsp;have KX:K.In s.heap:=e0.mod.kin.keeps λ b o e=>(e0.bs b o e).1
 have lim:s.heap.NoLimit:=e0.mod.nolimit.keeps λ b o e=>(e0.bs b o e).1
 have hkind:∀ y∈ps.zip us,scope.names.lookup y.1=qz .local\/(scope.names.lookup y.1=qz .cell/\((cellsFrom (s.heap.objs.size+1) scope.names []).lookup y.1).isSome=true):=λ aW hy=>by
  let(n,v):=aW;rcases S.par n (yGz hy).1 with q|q
  .exact .inl q
  .exact .inr (q,PySem.W.cellsFrom_some _ _ _ (.inl q),)
 refine codeAny_call_function hr.depth (KX _ _ lk) rfl S.co S.gen rfl (PySem.W.codeRec_of KX hcd) (hb _ _ _ _ ?_);refine wpAny_newFunctionEnv_cells S.kind hkind λ env he s1 x=>?_
 subst he;refine(lim.keeps x.toInCall.keep,codeAny_func ?_,);let(t,ht,hq):=hbody A outer s H vs Q E (hr.deeper _) hsp;have I:Inv (tK CX P w K mg base N qual scope f cdv A outer s H E) [] (start N vs) H s1:=aPj S hr.hd e0 hl r x;refine wpAny_mono (ht [] s1 (start N vs) H _ I hq) (λ fl s' hs=>?_) λ e s' hs=>hs
 have cG:∀ {σ':St}{H':Hp}{v:V}{u:qj},Inv (tK CX P w K mg base N qual scope f cdv A outer s H E) [] σ' H' s'->aU v u->Q v H'->CE outer P w H s Q u s':=
  λ {σ' H' v u} J rv q=>(v,H',J.os,J.bare,J.base,J.hok,rv,q,)
 cases fl with
 |ret u=>
   let(v,σ',H',J,rv,q):=hs;exact cG J rv q
 |next=>
   let(σ',H',J,q):=hs;exact cG (v:=V.non) (u:=Value.none) J rfl q
 |brk=>
   let(_,_,_,q):=hs;exact False.elim q
 |cont=>
   let(_,_,_,q):=hs;exact False.elim q
end L2
namespace L2
open PySem PySem.Spec PyProof.Rows
def tCB(r:List V->Hp->VK->Prop)(t:TA):TE:=λ σ H Q=>t σ H λ vs H1=>r vs H1 Q
def aAn{X:Cx}{x:Str}{p pos:Pos}{e:qy}{es:List qy}{t:TA}{id:String}{r:List V -> Hp -> VK -> Prop}(hc:fQ X (.builtin id) r)(hg:Gl X x)(hm:X.mg x=qx)(hv:jx x=qz (.builtin id))(ha:PA X (e::es) t)(hn:x ≠ "__name__":=by decide)(hdb:(x==("__debug__" : Str))=false:=by decide)
 (he:qo (e::es) X.env=(false,eval e X.env)::qo es X.env:=by rfl) (hpl:(backTo pos (qo es X.env)).any (·.1)=false:=by rfl):PE X (.Call (.Name x p) (e::es) [] pos) (tCB r t):=by intro aB s σ H Q I h;refine zo (lL I hg hm hv ?_ hn hdb);exact yGo (bA (ha pos aB s σ H _ I h) λ us s1 ⟨vs,H1,I1,r1,q1⟩=>hc aB s1 σ H1 vs us Q I1 r1 q1) he hpl
def aCA{X:Cx}{x:Str}{p pos:Pos}{e:qy}{es:List qy}{t:TA}{T:String}{r:List V -> Hp -> VK -> Prop}(hc:fQ X (.type T) r)(hg:Gl X x)(hm:X.mg x=qx)(hv:jx x=qz (.type T))(ha:PA X (e::es) t)(hn:x ≠ "__name__":=by decide)(hdb:(x==("__debug__" : Str))=false:=by decide)
 (he:qo (e::es) X.env=(false,eval e X.env)::qo es X.env:=by rfl) (hpl:(backTo pos (qo es X.env)).any (·.1)=false:=by rfl):PE X (.Call (.Name x p) (e::es) [] pos) (tCB r t):=by intro aB s σ H Q I h;refine zo (lL I hg hm hv ?_ hn hdb);exact yBc (bA (ha pos aB s σ H _ I h) λ us s1 ⟨vs,H1,I1,r1,q1⟩=>hc aB s1 σ H1 vs us Q I1 r1 q1) he hpl
end L2
namespace HT
open PySem PyProof.Rows
section
open PySem.SeqAt
open PySem.AutoSeq1 (wpAny_loadPart')
open PySem.MeetsSeq PySem.MeetsSeq2 PySem.MeetsSeq3
end
def cat_tup{E:qj -> qv -> Prop}{s:qv}{vs ws:List qj}{Q:qj->qv->Prop}(ht:IsTup s.heap t vs.toArray)(hb:IsTup s.heap b ws.toArray)(hv:vs≠[])(h1:ws=[]->Q (.ref t) s)(h2:ws≠[]->Q (.ref s.heap.objs.size) {s with heap:=s.heap.push {cls:=.type "tuple",data:=.seq (vs++ws).toArray } })(hsz:↑vs+↑ws<=qk):qu (model prog w) A (zu .Add (.ref t) (.ref b)) Q E s:=by
 let((cls,dd,data,sl),ho,hc,n,hd):=id ht;let((cls2,dd2,data2,sl2),ho2,hc2,n2,hd2):=id hb;simp only at hc hd hc2 hd2;subst hc hd hc2 hd2;have e:vs.toArray++ws.toArray=(vs++ws).toArray:=by simp
 by_cases hw:ws=[]
 .exact concat_meets (_,ho,rfl,) (_,ho2,rfl,) noFill_tuple_add seq_tuple_add yGf yFt (yFn _ _)
   (tuple_addW1 t b vs.toArray ws.toArray n n2 dd dd2 sl sl2 (hv:) (by simp[hw])) (ho,ho2,h1 hw,)
 .refine concat_meets (_,ho,rfl,) (_,ho2,rfl,) noFill_tuple_add seq_tuple_add yGf yFt (yFn _ _)
   (tuple_addW2 t b vs.toArray ws.toArray n n2 dd dd2 sl sl2 (hv:) (hw:) (by rw[yAh,yAh];exact hsz)) (ho,ho2,?_,)
  rw[e];exact h2 hw
def sIx(n d:Nat):Option Int->Nat
 |none=>d
 |some v=>if v<0 then (v+(n:Int)).toNat else min v.toNat n
def sIx_none(n d:Nat):sIx n d qx=d:=rfl
def sIx_nat(n d k:Nat):sIx n d (qz (k:Int))=min k n:=by show(if (k:Int)<0 then ((k:Int)+(n:Int)).toNat else min (k:Int).toNat n)=min k n;rw[if_neg (!_),yAr]
def aWV(n d:Nat)(hd:d<=n)(o:Option Int):sIx n d o<=n:=by
 cases o with
 |none=>exact hd
 |some v=>
   show(if v<0 then (v+(n:Int)).toNat else min v.toNat n)<=n;by_cases hv:v<0
   .rw[if_pos hv];omega
   .rw[if_neg hv];exact yEo _ _
def aI7(v:Int)(n d:Nat):(if v<0 then max (v+(n:Int)) 0 else min v (n:Int))=((sIx n d (qz v):Nat):Int):=by
 show(if v<0 then max (v+(n:Int)) 0 else min v (n:Int))=(((if v<0 then (v+(n:Int)).toNat else min v.toNat n):Nat):Int);by_cases hv:v<0
 .simp only[if_pos hv];omega
 .simp only[if_neg hv];omega
def aOS(lo hi:Option Int)(n:Nat):yFf lo hi 1 (n:Int)=(((sIx n 0 lo:Nat):Int),((sIx n n hi:Nat):Int)):=by
 have h1:¬ ((1:Int)<0):=by omega
 unfold yFf;simp only[h1,if_false];refine Prod.ext ?_ ?_
 .cases lo with|none=>rfl|some v=>exact aI7 v n 0
 .cases hi with|none=>rfl|some v=>exact aI7 v n n
def aO7(i j:Nat):yDw (i:Int) (j:Int) 1=j-i:=by
 unfold yDw;have h1:(1:Int)>0:=by omega
 simp only[h1,if_true,Int.ediv_one];split<;>omega
def aGC{E:qj -> qv -> Prop}{Q:Option Int->qv->Prop}(p:IsPart v o)(h:Q o s):qu (model prog w) A (Builtin.Slice.slicePartIndex v) Q E s:=by
 cases p with
 |none=>exact slicePart_none h|int i t=>exact slicePart_int h
def sliceApplied_gen{E:qj -> qv -> Prop}{s:qv}{lo hi:Option Int}{Q:Int×Int×Nat->qv->Prop}(hs:s.heap.IsSliceOf sl vl vu .none)(pl:IsPart vl lo)(pu:IsPart vu hi)(h:Q (((sIx n 0 lo:Nat):Int),1,sIx n n hi-sIx n 0 lo) s):qu (model prog w) A (yHi (.ref sl) (pure (n:Int))) Q E s:=by let(os,hos,hcs,hds):=id hs;unfold yHi Builtin.Slice.sliceFields;refine wB (wB (xz hos hds (x:=vl) rfl (wB (xz hos hds (x:=vu) rfl (wB (xz hos hds (x:=.none) rfl (wP ?_)))))));refine wB (slicePart_none ?_);show qu _ _ (if ((1:Int)==0)=true then _ else _) _ _ s;rw[if_neg (·)];refine wB (aGC pl (wB (aGC pu (wB (wP ?_)))));show qu _ _ (match yFf lo hi 1 (n:Int) with|(lo,hi)=>pure (lo,(1:Int),yDw lo hi 1)) _ _ s;rw[aOS lo hi n];show qu _ _ (pure (((sIx n 0 lo:Nat):Int),(1:Int),yDw ((sIx n 0 lo:Nat):Int) ((sIx n n hi:Nat):Int) 1)) _ _ s;rw[aO7];exact wP h
def aQW(xs:Array qj)(i k:Nat):((yBw k).filterMap λ(m:Nat)=>xs[((i:Int)+(m:Int)*1).toNat]?).toArray=((xs.toList.drop i).take k).toArray:=by
 have e:(λ(m:Nat)=>xs[((i:Int)+(m:Int)*1).toNat]?)=λ m=>xs[i+m]?:=by
  funext m;have:((i:Int)+(m:Int)*1).toNat=i+m:=by omega
  rw[this]
 rw[e];have:=pick_run xs i k;rw[List.filterMap_map] at this;have e2:((λ x=>xs[x]?) ∘ λ x=>i+x)=λ m=>xs[i+m]?:=rfl
 rw[e2] at this;rw[this]
def getItem_tuple_cut{E:qj -> qv -> Prop}{s:qv}{lo hi:Option Int}{Q:qj->qv->Prop}(ht:IsTup s.heap t aN)(hs:s.heap.IsSliceOf sl vl vu .none)(pl:IsPart vl lo)(pu:IsPart vu hi)(hw:¬ (sIx aN.size 0 lo=0/\sIx aN.size aN.size hi=aN.size))(h:Q (.ref s.heap.objs.size) {s with heap:=s.heap.push {cls:=.type "tuple",data:=.seq ((aN.toList.drop (sIx aN.size 0 lo)).take (sIx aN.size aN.size hi-sIx aN.size 0 lo)).toArray } })(hsz:aN.size<=qk):qu (model prog w) A (getItem (.ref t) (.ref sl)) Q E s:=by
 have htake:sizeOk (.seq ((aN.toList.drop (sIx aN.size 0 lo)).take (sIx aN.size aN.size hi-sIx aN.size 0 lo)).toArray):=by
  show((aN.toList.drop (sIx aN.size 0 lo)).take (sIx aN.size aN.size hi-sIx aN.size 0 lo)).toArray.size<=qk;rw[yAh,yBo,yIh,yBm];omega
 have hj:sIx aN.size aN.size hi<=aN.size:=aWV _ _ (yAb _) hi;let(os,hos,hcs,hds):=id hs;have hTs:s.TypeIs (.ref sl) "slice":=(os,hos,hcs,);unfold getItem
 try with_reducible refine zw ?_
 first|refine wB (wP ?_)|skip
 refine wB (wpAny_sequenceKey ht.typeIs (·) ?_)
 refine wB (wpAny_callSpecial?_slot (name:=Str.ofString "__getitem__") ht.typeIs yCs
  (vq yCs ht.typeIs entry_tuple_getitem ?_ (args_tuple_getitem _ _)))
 show qu _ _ (yHj (.ref t) >>= _) _ _ s;refine wB (tupleItemsOf_ ht ?_);refine wB (wpAny_typeOf hTs ?_);rw[if_pos (·)];refine wB (sliceApplied_gen hs pl pu ?_);have hno:¬ ((((sIx aN.size 0 lo:Nat):Int)==0&&(1:Int)==1&&(sIx aN.size aN.size hi-sIx aN.size 0 lo)==aN.size)=true):=by
  intro q;rw[yAs,yAs] at q;have q1:((sIx aN.size 0 lo:Nat):Int)=0:=eq_of_beq q.1.1;have q2:sIx aN.size aN.size hi-sIx aN.size 0 lo=aN.size:=eq_of_beq q.2;exact hw (by omega,by omega,)
 show qu _ _ (if (((sIx aN.size 0 lo:Nat):Int)==0&&(1:Int)==1&&(sIx aN.size aN.size hi-sIx aN.size 0 lo)==aN.size)=true then _ else _) _ _ s;rw[if_neg hno,aQW]
 first
  |exact wB (m:=yCz _) (xw (wP (_,rfl,wP h,)) htake)
  |exact wB (m:=yCz _) (xw (wB (wP (wP (_,rfl,wP h,)))) htake)
  |exact wB (wB (m:=yCz _) (xw (wP (wP (_,rfl,wP h,))) htake))
  |exact wB (wB (m:=yCz _) (xw (wP (_,rfl,wP h,)) htake))
end HT
namespace L2
open PySem PySem.Spec PyProof.Rows
abbrev TO:=St->Hp->(Option Int->Hp->Prop)->Prop
def PO(X:Cx)(e:Option qy)(t:TO):Prop:=
 ∀ (aB:List (qw×Obj)) (s:qv) (σ:St) (H:Hp) (Q:Option Int->Hp->Prop),Inv X aB σ H s->t σ H Q ->
  qu (model X.prog X.w) X.A (evalPart e X.env) (λ u s'=>∃ o H',Inv X aB σ H' s'/\IsPart u o/\Q o H') X.xe s
def aRG:TO:=λ _ H Q=>Q qx H
def aYW(t:TE):TO:=λ σ H Q=>t σ H λ x H1=>∃ i,x=.int i/\Q (qz i) H1
def aOY{ns:List Int}:∀ {us:List qj},aT (ns.map V.int) us->IntsAre us ns:=by
 induction ns with
 |nil=>intro us r;rw[yDp] at r;cases r;exact .nil
 |cons n ns ih=>
   intro us r;rw[yAf] at r;cases r with
   |cons r1 r2=>
     let(t,e):=r1;subst e;exact .cons n t (ih r2)
def aSZ:PO X qx aRG:=by intro aB s σ H Q I h;rw[evalPart_none];exact wP (qx,H,I,.none,h,)
def aRJ{te:TE}(h:PE X e te):PO X (qz e) (aYW te):=by
 intro aB s σ H Q I hw;rw[evalPart_some];refine bA (h aB s σ H _ I hw) λ u s1 hPq29=>?_
 let(x,H1,I1,r1,q1):=hPq29;let(i,rfl,q):=q1;let(t,rfl):=r1;exact(qz i,H1,I1,.int i t,q,)
def SlR(X:Cx)(r:V->Option Int->Option Int->Hp->VK->Prop):Prop:=
 ∀ (aB:List (qw×Obj)) (s:qv) (σ:St) (H:Hp) (x:V) (v vl vu:qj) (lo hi:Option Int) (sl:qw) (Q:VK),Inv X aB σ H s->aU x v->s.heap.IsSliceOf sl vl vu .none->IsPart vl lo->IsPart vu hi->r x lo hi H Q ->
  ∃ T id,typeLookup (.type T) "__getitem__" = pure (qz (.builtin id))/\s.TypeIs v T/\qu (model X.prog X.w) X.A (getItem v (.ref sl)) (EP X aB σ Q) X.xe s
def tSl(r:V->Option Int->Option Int->Hp->VK->Prop)(te:TE)(tl th:TO):TE:=λ σ H Q=>te σ H λ x H1=>tl σ H1 λ l H2=>th σ H2 λ u H3=>r x l u H3 Q
def aHC{te:TE}{lo hi:Option qy}{r:V->Option Int->Option Int->Hp->VK->Prop}(hr:SlR X r)(he:PE X e te)(hl:PO X lo tl)(hu:PO X hi th):PE X (.Subscript e (.Slice lo hi qx p2) pos) (tSl r te tl th):=by
 intro aB s σ H Q I h;refine Subscript_ (bA (he aB s σ H _ I h) λ v s1 hPq30=>?_);let(x,H1,I1,r1,q1):=hPq30;refine wpAny_Slice (bA (hl aB s1 σ H1 _ I1 q1) λ vl s2 ⟨l,H2,I2,pl,q2⟩=>bA (hu aB s2 σ H2 _ I2 q2) λ vu s3 hPq31=>?_);let(u,H3,I3,pu,q3):=hPq31;rw[evalPart_none];refine wP ?_;have I4:Inv X aB σ H3 {s3 with heap:=s3.heap.push {cls:=.type "slice",data:=.fields #[vl,vu,.none] } }:=I3.kept (t':=s3.toks) λ b ob q=>hpS _ q
 let(T,id,hT,ht,hg):=hr aB {s3 with heap:=s3.heap.push {cls:=.type "slice",data:=.fields #[vl,vu,.none] } } σ H3 x v vl vu l u s3.heap.objs.size Q I4 r1 (Heap.IsSliceOf.new ..) pl pu q3;show qu (model X.prog X.w) X.A (subscriptTail e (.Slice lo hi qx p2) v (.ref s3.heap.objs.size)) (EP X aB σ Q) X.xe {s3 with heap:=s3.heap.push {cls:=.type "slice",data:=.fields #[vl,vu,.none] } };exact tail_any (ops:=[.ref s3.heap.objs.size,v]) ht hT hg (by with_unfolding_all rfl)
def nQ(xs:List V)(lo hi:Option Int):List V:=(xs.drop (HT.sIx ↑xs 0 lo)).take (HT.sIx ↑xs ↑xs hi-HT.sIx ↑xs 0 lo)
def aGh(xs:List V)(lo hi:Option Int):(nQ xs lo hi).length<=↑xs:=by unfold nQ;rw[yBo,yIh];omega
def aZz(K:FrG):V->Option Int->Option Int->Hp->VK->Prop:=λ x lo hi H Q=>∃ a xs,x=.ref a/\cE K H a xs /\
 ¬ (HT.sIx ↑xs 0 lo=0/\HT.sIx ↑xs ↑xs hi=↑xs)/\∀ p,H p=qx->Q (.ref p) (bB H p (.tup (nQ xs lo hi)))
def aWt:SlR X (aZz X.K):=by
 intro aB s σ H x v vl vu lo hi sl Q I rx hs pl pu h;let(a,xs,rfl,hx,hw,q):=h;cases rx;let(aG,r,ht,hz):=I.tuple hx;have cJ:aG.toArray.size=↑xs:=by rw[yAh];exact r.length.symm
 refine("tuple",_,PyProof.Rows.slot_tuple_getitem.lookup,ht.typeIs,?_,);refine HT.getItem_tuple_cut ht hs pl pu (by rw[cJ];exact hw) ?_ (by rw[cJ];exact hz);rw[cJ];refine(.ref s.heap.objs.size,_,I.laid (t':=s.toks) (o:=.tup (nQ xs lo hi)) (λ b ob q=>hpS _ q) (yAb _) ?_,rfl,q _ (I.hok.fresh (yAb _)),);exact(xAh (aGh xs lo hi) hz,_,(r.drop (HT.sIx ↑xs 0 lo)).take (HT.sIx ↑xs ↑xs hi-HT.sIx ↑xs 0 lo),IsTup.new _ _,)
def aYn(K:FrG):R2:=λ x y H Q=>∃ a b xs ys,x=.ref a/\y=.ref b/\cE K H a xs/\cE K H b ys/\xs≠[]/\↑xs+↑ys<=qk /\
 (ys=[]->Q (.ref a) H)/\(ys≠[]->∀ p,H p=qx->Q (.ref p) (bB H p (.tup (xs++ys))))
def aT.nil_iff{xs:List V}(r:aT xs us):us=[] ↔ xs=[]:=by
 cases r with
 |nil=>simp|cons _ _=>simp
def aTM:dA X (zu .Add) (aYn X.K):=by intro aB s σ H x y v u Q I rx ry h;let(a,b,xs,ys,rfl,rfl,ha,hb,hx,hz,q1,q2):=h;cases rx;cases ry;let(aG,r1,p1,_):=I.tuple ha;let(iS,r2,p2,_):=I.tuple hb;refine HT.cat_tup p1 p2 (λ z=>hx (r1.nil_iff.mp z)) (λ z=>(.ref a,H,I,rfl,q1 (r2.nil_iff.mp z),)) (λ z=>?_) (by rw[<- r1.length,<- r2.length];exact hz);refine(.ref s.heap.objs.size,_,I.laid (t':=s.toks) (o:=.tup (xs++ys)) (λ b ob q=>hpS _ q) (yAb _) ?_,rfl,q2 (λ w=>z (r2.nil_iff.mpr w)) _ (I.hok.fresh (yAb _)),);exact(by rw[xAn];exact hz,_,r1.append r2,IsTup.new _ _,)
end L2
namespace L2
open PySem PySem.Spec PyProof.Rows
def jU(n:Nat)(i:Int):Option Nat:=if 0<=i then (if i<n then qz i.toNat else qx) else if -(n:Int)<=i then qz (i+n).toNat else qx
def kT{α:Type}(xs:List α)(i:Int):Option α:=(jU ↑xs i).bind λ j=>xs[j]?
def aI9{i:Int}(h:jU n i=qz j):seqIndex? i n=qz j/\j<n /\ -(n:Int)<=i/\i<n:=by
 unfold jU at h;by_cases h0:0<=i
 .rw[if_pos h0] at h;by_cases h1:i<n
  .rw[if_pos h1] at h;have e:i.toNat=j:=Option.some.inj h;exact(by rw[seqIndex_of h0 h1,e],by omega,by omega,h1,)
  .rw[if_neg h1] at h;cases h
 .rw[if_neg h0] at h;by_cases h1 : -(n:Int)<=i
  .rw[if_pos h1] at h;have e:(i+n).toNat=j:=Option.some.inj h;exact(by rw[seqIndex_neg (!_) h1,e],by omega,h1,by omega,)
  .rw[if_neg h1] at h;cases h
def aDi{α:Type}{xs:List α}{i:Int}{v:α}(h:kT xs i=qz v):∃ j,seqIndex? i ↑xs=qz j/\xs[j]?=qz v/\j<↑xs /\ -(↑xs:Int)<=i/\i<↑xs:=by
 unfold kT at h;cases e:jU ↑xs i with
 |none=>rw[e] at h;cases h
 |some j=>
   rw[e] at h;let(h1,h2,h3,h4):=aI9 e;exact(j,h1,h,h2,h3,h4,)
def vM(b:qy):Prop:=∀ o i,subscripted b false o i=operate [o,i] (getItem o i)
def tZ(X:Cx)(r:R2):Prop:=
 ∀ (value iF:qy) (aB:List (qw×Obj)) (s:qv) (σ:St) (H:Hp) (x y:V) (v u:qj) (Q:VK),Inv X aB σ H s->aU x v->aU y u->r x y H Q ->
  subscripted iF false v u=operate [v,u] (getItem v u)->qu (model X.prog X.w) X.A (subscriptTail value iF v u) (EP X aB σ Q) X.xe s
def MtR(X:Cx)(id:String)(r:V->List V->Hp->VK->Prop):Prop:=
 ∀ (aB:List (qw×Obj)) (s:qv) (σ:St) (H:Hp) (x:V) (xs:List V) (v:qj) (us:List qj) (Q:VK),Inv X aB σ H s->aU x v->aT xs us->r x xs H Q ->
  qu (model X.prog X.w) X.A (call (.builtin id) (v::us)) (EP X aB σ Q) X.xe s
def aK2{ta tb:TE}{r:R2}(hr:tZ X r)(ha:PE X a ta)(hb:PE X b tb)(hs:vM b):PE X (.Subscript a b pos) (zF r ta tb):=by intro aB s σ H Q I h;exact Subscript_ (aER ha hb I h λ v u s2 x y H2 I2 rx ry q=>hr a b aB s2 σ H2 x y v u Q I2 rx ry q (hs _ _))
def aZA(K:FrG):R2:=λ x y H Q=>∃ p xs i v,x=.ref p/\y=.int i/\bT K H p xs/\kT xs i=qz v/\Q v H
def aZI(K:FrG):R2:=λ x y H Q=>∃ p xs i v,x=.ref p/\y=.int i/\cE K H p xs/\kT xs i=qz v/\Q v H
def bAc:R2:=λ x y H Q=>∃ z i c,x=.str z/\y=.int i/\z.length<=qk/\kT z.cps.toList i=qz c/\Q (.str ⟨#[c]⟩) H
def aTL:tZ X (aZA X.K):=by
 intro value iF aB s σ H x y v u Q I rx ry h hs;let(p,xs,i,z,rfl,rfl,hq,he,q):=h;cases rx;let(t,rfl):=ry;let(aG,r,pl,hz):=I.list hq;let(j,h1,h2,h3,h4,h5):=aDi he;let(w,ew,rw'):=r.get h2;have hl:=r.length;have hn:=mZ;have cG:EP X aB σ Q w s:=(z,H,I,rw',q,);by_cases h0:0<=i
 .have hj:i.toNat=j:=by
   rw[seqIndex_of h0 h5] at h1;exact Option.some.inj h1
  exact item_listR pl.isList h0 (!_) (by rw[hj];simpa using ew) cG hs
 .have hj:(i+(aG.toArray.size:Int)).toNat=j:=by
   rw[seqIndex_neg (!_) h4] at h1;rw[yAh,<- hl];exact Option.some.inj h1
  exact subscriptTail_builtinR (x:=w) pl.isList.typeIs slot_list_getitem.lookup
   (wpAny_getItem_list_neg (Q:=λ r s'=>r=w/\EP X aB σ Q r s') pl.isList (!_) (by rw[yAh]<;>omega) (!_) (by rw[hj];simpa using ew) (rfl,cG,)) hs
def aUi:tZ X (aZI X.K):=by
 intro value iF aB s σ H x y v u Q I rx ry h hs;let(p,xs,i,z,rfl,rfl,hq,he,q):=h;cases rx;let(t,rfl):=ry;let(aG,r,pl,hz):=I.tuple hq;let(j,h1,h2,h3,h4,h5):=aDi he;let(w,ew,rw'):=r.get h2;have hl:=r.length;have hn:=mZ;have cG:EP X aB σ Q w s:=(z,H,I,rw',q,);exact subscriptTail_builtinR (x:=w) pl.typeIs slot_tuple_getitem.lookup
  (getItem_tuple (j:=j) (Q:=λ r s'=>r=w/\EP X aB σ Q r s') pl (!_) (!_) (by rw[yAh,<- hl];exact h1) (ew:) (rfl,cG,)) hs
def aV0:tZ X bAc:=by
 intro value iF aB s σ H x y v u Q I rx ry h hs;let(z,i,c,rfl,rfl,hz,he,q):=h;let(t,rfl):=rx;let(t',rfl):=ry;let(j,h1,h2,h3,h4,h5):=aDi he;have hl:z.cps.toList.length=z.length:=by simp[Str.length]
 rw[hl] at h1 h4 h5;have hn:=mZ;exact tail_any (typeIs_str s z t) slot_str_getitem.lookup (getItem_str (c:=c) (by
  have e1:decide (i < -(2^63:Int))=false:=dqF (!_);have e2:decide (i ≥ 2^63)=false:=dqF (!_)
  rw[e1,e2,yFu]) (by rw[h1];simpa using h2) (.str ⟨#[c]⟩,H,I.tok _,(_,rfl,),q,)) hs
def aOU(aG:List qj)(n j:Nat)(u:qj):Obj.mapSeq (·.setIfInBounds j u) {cls:=.type "list",data:=.seq aG.toArray n }={cls:=.type "list",data:=.seq (aG.set j u).toArray n }:=by simp[Obj.mapSeq]
def Inv.lst{xs:List V}(I:Inv X aB σ H s)(h:H p=qz (.lst xs)) :
 ∃ (aG:List qj) (n:Nat),aT xs aG/\s.heap.get? p=qz {cls:=.type "list",data:=.seq aG.toArray n }/\↑xs<=qk:=by let(z,aG,n,r,e):=I.hok p _ h;exact(aG,n,r,e,z,)
def Inv.lstUpd{X:Cx}{aB:List (qw×Obj)}{σ:St}{H:Hp}{s:qv}{p:qw}{xs ys:List V}{aG its':List qj}{n n':Nat}{f:Obj->Obj}(I:Inv X aB σ H s)(h:H p=qz (.lst xs))
 (ho:s.heap.get? p=qz {cls:=.type "list",data:=.seq aG.toArray n }) (hf:f {cls:=.type "list",data:=.seq aG.toArray n }={cls:=.type "list",data:=.seq its'.toArray n' }) (r:aT ys its') (hz:↑ys<=qk) (t:Nat) :
 Inv X aB σ (bB H p (.lst ys)) {s with heap:=s.heap.update p f,toks:=t }:=by
 have e:(s.heap.update p f).get? p=qz {cls:=.type "list",data:=.seq its'.toArray n' }:=by
  rw[yBx f ho (by rw[hf]<;>rfl),hf]
 refine I.write (x:=p) (e:=p) (by rw[h];trivial) (.inl rfl) (λ b u hb q=>(yCr _ _ (Ne.symm hb)).trans q) (_,e,) ?_;exact(hz,its',n',r,e,)
def aLO:V->V->V->Hp->(Hp->Prop)->Prop:=λ o i v H Q=>∃ p xs k j,o=.ref p/\i=.int k/\H p=qz (.lst xs)/\jU ↑xs k=qz j/\Q (bB H p (.lst (xs.set j v)))
def aQy:aNk X aLO:=by
 intro aB s σ H o i v ov iv u Q I ro ri rv h;let(p,xs,k,j,rfl,rfl,hp,hj,q):=h;cases ro;let(t,rfl):=ri;let(aG,n,r,ho,hz):=I.lst hp;let(h1,h2,h3,h4):=aI9 hj;have hl:=r.length;have hn:=mZ;have I':Inv X aB σ (bB H p (.lst (xs.set j v))) {s with heap:=s.heap.update p (Obj.mapSeq (·.setIfInBounds j u)) }:=
  I.lstUpd hp ho (aOU aG n j u) (r.set rv j) (by rw[yBf];exact hz) s.toks
 by_cases h0:0<=k
 .have hk:k.toNat=j:=by
   rw[seqIndex_of h0 h4] at h1;exact Option.some.inj h1
  exact PySem.W.ki_setAt ho h0 (!_) (by rw[yAh,<- hl];exact h4) (by rw[hk];exact(_,I',q,))
 .have hk:(k+(aG.toArray.size:Int)).toNat=j:=by
   rw[seqIndex_neg (!_) h3] at h1;rw[yAh,<- hl];exact Option.some.inj h1
  exact PySem.W.ki_setBack ho (!_) (by rw[yAh,<- hl];exact h3) (!_) (by rw[hk];exact(_,I',q,))
def aN2(lo hi:Option Int)(n:Nat):(vv lo hi qx n).1=((HT.sIx n 0 lo:Nat):Int)/\(vv lo hi qx n).2.1=((HT.sIx n n hi:Nat):Int)/\(vv lo hi qx n).2.2=1:=by
 refine(?_,?_,rfl,)
 .cases lo with
  |none=>simp[vv,HT.sIx]
  |some i=>
    simp only[vv,HT.sIx,yIi,show(1:Int)>0 by decide,if_true];by_cases h:i<0
    .simp only[h,if_true]<;>omega
    .simp only[h,if_false]<;>omega
 .cases hi with
  |none=>simp[vv,HT.sIx]
  |some i=>
    simp only[vv,HT.sIx,yIi,show(1:Int)>0 by decide,if_true];by_cases h:i<0
    .simp only[h,if_true]<;>omega
    .simp only[h,if_false]<;>omega
def aNY(aG:List qj)(lo hi:Option Int):slicePick aG.toArray lo hi qx=((aG.drop (HT.sIx aG.length 0 lo)).take (HT.sIx aG.length aG.length hi-HT.sIx aG.length 0 lo)).toArray:=by let(h1,h2,h3):=aN2 lo hi aG.toArray.size;unfold slicePick;rw[h1,h2,h3];simp only[sliceRange_one,pick_run,yAh]<;>rfl
def aZQ(K:FrG):V->Option Int->Option Int->Hp->VK->Prop:=λ x lo hi H Q=>∃ a xs,x=.ref a/\bT K H a xs/\∀ p,H p=qx->Q (.ref p) (bB H p (.lst (nQ xs lo hi)))
def aSH:SlR X (aZQ X.K):=by intro aB s σ H x v vl vu lo hi sl Q I rx hs pl pu h;let(a,xs,rfl,hx,q):=h;cases rx;let(aG,r,ht,hz):=I.list hx;have cJ:=r.length;refine("list",_,slot_list_getitem.lookup,ht.isList.typeIs,?_,);refine wpAny_getItem_list_slice ht.isList hs pl pu .none (by simp) ?_ (by rw[yAh]<;>omega);rw[aNY,<- cJ];refine(.ref s.heap.objs.size,_,I.laid (t':=s.toks) (o:=.lst (nQ xs lo hi)) (λ b ob q=>hpS _ q) (yAb _) ?_,rfl,q _ (I.hok.fresh (yAb _)),);exact(xAh (aGh xs lo hi) hz,_,0,(r.drop (HT.sIx ↑xs 0 lo)).take (HT.sIx ↑xs ↑xs hi-HT.sIx ↑xs 0 lo),xAd _ rfl,)
def lW:V->Bool
 |.non=>true|.bl _=>true|.int _=>true|.str _=>true|_=>false
def nU:V->V->Bool
 |.non,.non=>true|.bl a,.bl b=>a==b
 |.bl a,.int b=>(if a then 1 else 0)==b
 |.int a,.bl b=>a==(if b then 1 else 0)
 |.int a,.int b=>a==b|.str a,.str b=>a==b|_,_=>false
def aWh(ry:aU y u)(rx:aU x v)(fy:lW y=true)(fx:lW x=true):SeqAt.EqAt A s u v (nU y x):=by
 cases y with
 |non=>
   cases ry;cases x with
   |non=>cases rx;exact SeqAt.EqAt.same _|bl b=>cases rx;exact SeqAt.EqAt.none_bool b
   |int b=>let(t,rfl):=rx;exact SeqAt.EqAt.none_int b t
   |str b=>let(t,rfl):=rx;exact SeqAt.EqAt.none_str b t
   |_=>exact absurd (show false=true from fx) yAu
 |bl a=>
   cases ry;cases x with
   |non=>cases rx;exact SeqAt.EqAt.bool_none a|bl b=>cases rx;exact SeqAt.EqAt.bool_bool a b
   |int b=>let(t,rfl):=rx;exact SeqAt.EqAt.bool_int a b t
   |str b=>let(t,rfl):=rx;exact SeqAt.EqAt.bool_str a b t
   |_=>exact absurd (show false=true from fx) yAu
 |int a=>
   let(t',rfl):=ry;cases x with
   |non=>cases rx;exact SeqAt.EqAt.int_none a t'|bl b=>cases rx;exact SeqAt.EqAt.int_bool a t' b
   |int b=>let(t,rfl):=rx;exact SeqAt.EqAt.int_int a t' b t
   |str b=>let(t,rfl):=rx;exact SeqAt.EqAt.int_str a t' b t
   |_=>exact absurd (show false=true from fx) yAu
 |str a=>
   let(t',rfl):=ry;cases x with
   |non=>cases rx;exact SeqAt.EqAt.str_none a t'|bl b=>cases rx;exact SeqAt.EqAt.str_bool a t' b
   |int b=>let(t,rfl):=rx;exact SeqAt.EqAt.str_int a t' b t
   |str b=>let(t,rfl):=rx;exact SeqAt.EqAt.str_str a t' b t
   |_=>exact absurd (show false=true from fx) yAu
 |_=>exact absurd (show false=true from fy) yAu
def iB(x:V)(u:qj):Bool:=match u with|.none=>nU .non x|.bool b=>nU (.bl b) x|.int i _=>nU (.int i) x|.str z _=>nU (.str z) x|_=>false
def aKT(r:aU y u)(f:lW y=true):iB x u=nU y x:=by
 cases y with
 |non=>cases r;rfl|bl b=>cases r;rfl
 |int i=>let(t,rfl):=r;rfl
 |str z=>let(t,rfl):=r;rfl
 |_=>exact absurd (show false=true from f) yAu
def vH:∀ {xs:List V}{us:List qj},aT xs us->xs.all lW=true->us.any (iB x)=xs.any λ y=>nU y x
 |_,_,.nil,_=>rfl
 |y::xs,u::us,.cons r t,f=>by
   rw[List.all_cons,yAs] at f;rw[yEz,yEz,aKT r f.1,vH t f.2]
def uU(rx:aU x v)(fx:lW x=true):∀ {xs:List V}{us:List qj},aT xs us->xs.all lW=true->∀ u∈us,SeqAt.EqAt A s u v (iB x u)
 |_,_,.nil,_=>λ u hu=>by cases hu
 |y::xs,u::us,.cons r t,f=>λ u' hu=>by
   rw[List.all_cons,yAs] at f;rcases List.mem_cons.mp hu with rfl|hu
   .rw[aKT r f.1];exact aWh r rx f.1 fx
   .exact uU rx fx t f.2 u' hu
def uB(x:V)(xs:List V):Bool:=xs.any λ y=>nU y x
def rIn(K:FrG)(neg:Bool):R2:=λ x y H Q=>∃ p xs,y=.ref p/\(bT K H p xs\/cE K H p xs)/\lW x=true/\xs.all lW=true/\Q (.bl (if neg then !uB x xs else uB x xs)) H
def aPt:dA X (xk .In) (rIn X.K false):=by
 intro aB s σ H x y v u Q I rx ry h;let(p,xs,rfl,hq,fx,fs,q):=h;cases ry;rcases hq with hq|hq
 .let(aG,r,pl,hz):=I.list hq;refine SeqAt.in_listAt (iB x) pl.isList (λ w hw=>uU rx fx r fs w (hw:)) (.bl _,H,I,rfl,?_,);rw[show aG.toArray.any (iB x)=aG.any (iB x) by simp,vH r fs];exact q
 .let(aG,r,pl,hz):=I.tuple hq;refine SeqAt.in_tupleAt (iB x) pl (λ w hw=>uU rx fx r fs w (hw:)) (.bl _,H,I,rfl,?_,);rw[show aG.toArray.any (iB x)=aG.any (iB x) by simp,vH r fs];exact q
def aN0:dA X (xk .NotIn) (rIn X.K true):=by
 intro aB s σ H x y v u Q I rx ry h;let(p,xs,rfl,hq,fx,fs,q):=h;cases ry;rcases hq with hq|hq
 .let(aG,r,pl,hz):=I.list hq;refine SeqAt.notIn_listAt (iB x) pl.isList (λ w hw=>uU rx fx r fs w (hw:)) (.bl _,H,I,rfl,?_,);rw[show aG.toArray.any (iB x)=aG.any (iB x) by simp,vH r fs];exact q
 .let(aG,r,pl,hz):=I.tuple hq;refine SeqAt.notIn_tupleAt (iB x) pl (λ w hw=>uU rx fx r fs w (hw:)) (.bl _,H,I,rfl,?_,);rw[show aG.toArray.any (iB x)=aG.any (iB x) by simp,vH r fs];exact q
def aF0:fQ X (.builtin "len") (λ xs H Q=>∃ p ys,xs=[.ref p]/\(bT X.K H p ys\/cE X.K H p ys)/\Q (.int ↑ys) H):=by
 intro aB s σ H xs us Q I r h;let(p,ys,rfl,hq,q):=h;let(u,rfl,rx):=lX r;cases rx;have hn:=mZ;rcases hq with hq|hq
 .let(aG,r',pl,hz):=I.list hq;have cJ:=r'.length;exact Calls.call_len_list pl.isList (by simp only[yAh]<;>omega) (.int ↑ys,H,I.tok _,(s.toks+1,by rw[yAh,cJ],),q,)
 .let(aG,r',pl,hz):=I.tuple hq;have cJ:=r'.length;exact len_tuple pl (by simp only[yAh]<;>omega) (.int ↑ys,H,I.tok _,(s.toks+1,by rw[yAh,cJ],),q,)
def aN9:fQ X (.builtin "len") (λ xs H Q=>∃ z,xs=[.str z]/\z.length<=qk/\Q (.int z.length) H):=by intro aB s σ H xs us Q I r h;let(z,rfl,hz,q):=h;let(u,rfl,t,rfl):=lX r;have hn:=mZ;exact len_str (!_) (.int z.length,H,I.tok _,(_,rfl,),q,)
def aNZ:fQ X (.type "list") (λ xs H Q=>∃ p ys,xs=[.ref p]/\(bT X.K H p ys\/cE X.K H p ys)/\∀ l,H l=qx->Q (.ref l) (bB H l (.lst ys))):=by
 intro aB s σ H xs us Q I r h;let(p,ys,rfl,hq,q):=h;let(u,rfl,rx):=lX r;cases rx;have cG:∀ (aG:List qj),aT ys aG->↑ys<=qk->∀ (h':Heap) (c':Nat),(∀ b o',s.heap.get? b=qz o'->h'.get? b=qz o') ->
  h'.get? s.heap.objs.size=qz {cls:=.type "list",dict:=qx,data:=.seq aG.toArray c',slots:=#[] }->EP X aB σ Q (.ref s.heap.objs.size) {s with heap:=h' }:=λ aG r' hz h' c' kp e=>
  (.ref s.heap.objs.size,_,I.laid (t':=s.toks) kp (yAb _) (show dX X.prog X.w _ h' _ (.lst ys) from (hz,aG,c',r',e,)),rfl,q _ (I.hok.fresh (yAb _)),)
 rcases hq with hq|hq
 .let(aG,r',pl,hz):=I.list hq;have cJ:=r'.length;let(o,ho,hc,n,hd):=pl.isList;exact call_list_seq p (.inl rfl) ho hc hd (λ h' c' kp e=>cG aG r' hz h' c' kp e) (by simp only[yAh]<;>omega)
 .let(aG,r',pl,hz):=I.tuple hq;have cJ:=r'.length;let(o,ho,hc,n,hd):=pl;exact call_list_seq p (.inr rfl) ho hc hd (λ h' c' kp e=>cG aG r' hz h' c' kp e) (by simp only[yAh]<;>omega)
def aFS:fQ X (.type "tuple") (λ xs H Q=>∃ p ys,xs=[.ref p]/\((bT X.K H p ys/\∀ l,H l=qx->Q (.ref l) (bB H l (.tup ys)))\/(cE X.K H p ys/\Q (.ref p) H))):=by
 intro aB s σ H xs us Q I r h;let(p,ys,rfl,h):=h;let(u,rfl,rx):=lX r;cases rx;rcases h with ⟨hq,q⟩|⟨hq,q⟩
 .let(aG,r',pl,hz):=I.list hq;have cJ:=r'.length;refine call_tuple_list pl.isList (λ h' kp=>?_) (by simp only[yAh]<;>omega);have I1:Inv X aB σ H {s with heap:=h' }:=I.kept (t':=s.toks) kp;have I2:Inv X aB σ (bB H h'.objs.size (.tup ys)) {s with heap:=h'.push {cls:=.type "tuple",data:=.seq aG.toArray } }:=
   I1.laid (t':=s.toks) (λ b o e=>hpS _ e) (yAb _) (show dX X.prog X.w _ _ _ (.tup ys) from (hz,aG,r',IsTup.new _ _,))
  exact(.ref h'.objs.size,_,I2,rfl,q _ (I1.hok.fresh (yAb _)),)
 .let(aG,r',pl,hz):=I.tuple hq;exact call_tuple_same pl (.ref p,H,I,rfl,q,)
def tyV(K:FrG)(T:String)(x:V)(H:Hp):Prop:=match x with
 |.str _=>T = "str"|.int _=>T = "int"
 |.ref p=>(T = "list" /\ ∃ xs,bT K H p xs)\/(T = "tuple" /\ ∃ o,K.lookup p=qz o/\o.cls=.type "tuple" /\ o.dict=qx) \/
    (T = "dict" /\ ((∃ aI,H p=qz (.dK aI))\/∃ aI,H p=qz (.dT aI)))\/(T = "set" /\ ∃ S n,H p=qz (.set S n))
 |_=>False
def aJ7(I:Inv X aB σ H s)(r:aU x v)(ty:tyV X.K T x H) :
 s.TypeIs v T/\∀ a,v=.ref a->∃ ob,s.heap.get? a=qz ob/\ob.dict=qx:=by
 cases x with
 |str z=>
   let(t,rfl):=r;cases (show T = "str" from ty);exact⟨typeIs_str s z t,λ _ e=>nomatch e⟩
 |int i=>
   let(t,rfl):=r;cases (show T = "int" from ty);exact⟨wj s i t,λ _ e=>nomatch e⟩
 |ref p=>
   cases r;rcases ty with ⟨rfl,xs,hq⟩|⟨rfl,o,hk,hc,hd⟩|⟨rfl,hk⟩|⟨rfl,S,n,hk⟩
   .let(aG,_,pl,_):=I.list hq;refine(pl.isList.typeIs,λ a e=>?_,);cases e;let(o,n,e,c,hd,_):=pl;exact(o,e,hd,)
   .refine((o,I.kIn p o hk,hc,),λ a e=>?_,);cases e;exact(o,I.kIn _ o hk,hd,)
   .have z:∃ o,s.heap.get? p=qz o/\o.ExactDict:=by
     rcases hk with ⟨aI,hk⟩|⟨aI,hk⟩
     .let(_,_,_,_,o,_,_,e,ex,_):=I.hok p _ hk;exact(o,e,ex,)
     .let(_,_,_,_,o,_,_,e,ex,_):=I.hok p _ hk;exact(o,e,ex,)
    let(o,e,ex):=z;refine((o,e,ex.1,),λ a e2=>?_,);cases e2;exact(o,e,ex.2.1,)
   .let(o,_,_,_,e,ex,_):=I.hok p _ hk;refine((o,e,ex.1,),λ a e2=>?_,);cases e2;exact(o,e,ex.2.1,)
 |_=>exact False.elim ty
def bAw(K:FrG)(T:String)(r:V->List V->Hp->VK->Prop)(to:TE):TE:=λ σ H Q=>to σ H λ x H1=>tyV K T x H1/\r x [] H1 Q
def yV(K:FrG)(T:String)(r:V->List V->Hp->VK->Prop)(to:TE)(t:TA):TE:=λ σ H Q=>to σ H λ x H1=>tyV K T x H1/\t σ H1 λ xs H2=>r x xs H2 Q
def aVg{to:TE}{apos cpos:Pos}{id:String}{r:V -> List V -> Hp -> VK -> Prop}(pa:PlainAttrs T)(slot:Slot T name id)(hty:typeOf (.builtin id)=pure (.type "method_descriptor"))(hm:MtR X id r)(ho:PE X o to)(hbase:attributeBase o name X.env (eval o X.env)=eval o X.env:=by rfl)(hline:(apos.endLine==cpos.line)=true:=by rfl):PE X (.Call (.Attribute o name apos) [] [] cpos) (bAw X.K T r to):=by intro aB s σ H Q I h;refine wpAny_Call_method0_late hbase hline (bA (ho aB s σ H _ I h) λ v s1 hPq32=>?_);let(x,H1,I1,r1,ty,q1):=hPq32;let(h1,h2):=aJ7 I1 r1 ty;exact(T,id,pa,slot,hty,h1,h2,Calls.callWith_builtin rfl (PySem.evalArgs_none (hm aB s1 σ H1 x [] v [] Q I1 r1 .nil q1)),)
def aBx{X:Cx}{o e:qy}{es:List qy}{to:TE}{t:TA}{name:Str}{apos cpos:Pos}{T id:String}{r:V -> List V -> Hp -> VK -> Prop}(pa:PlainAttrs T)(slot:Slot T name id)(hty:typeOf (.builtin id)=pure (.type "method_descriptor"))(hm:MtR X id r)(ho:PE X o to)(ha:PA X (e::es) t)
 (hbase:attributeBase o name X.env (eval o X.env)=eval o X.env:=by rfl)
 (hfew:((backTo cpos (qo (e::es) X.env)).all (λ x=>!x.1)&&(backToKw cpos (keywordEach [] X.env)).all (λ x=>x.1.isSome)
   && decide ((e::es).length+([]:List Keyword).length+(if ([]:List Keyword).isEmpty then 0 else 1)<30))=true:=by rfl)
 (hline:(apos.endLine==cpos.line)=true:=by rfl) (hs:qo (e::es) X.env=(false,eval e X.env)::qo es X.env:=by rfl) (hplain:(backTo cpos (qo es X.env)).any (·.1)=false:=by rfl) :
 PE X (.Call (.Attribute o name apos) (e::es) [] cpos) (yV X.K T r to t):=by intro aB s σ H Q I h;refine wpAny_Call_method_late hbase hfew hline rfl (bA (ho aB s σ H _ I h) λ v s1 hPq33=>?_);let(x,H1,I1,r1,ty,q1):=hPq33;let(h1,h2):=aJ7 I1 r1 ty;refine(T,id,pa,slot,hty,h1,h2,?_,);have hA:=ha cpos aB s1 σ H1 _ I1 q1;rw[hs] at hA ⊢;refine Calls.callWith_builtin (by show(false||(backTo cpos (qo es X.env)).any (·.1))=false;rw[hplain]<;>rfl) (Calls.evalArgs_plain ?_);exact bA hA λ us s2 ⟨vs,H2,I2,r2,q2⟩=>hm aB s2 σ H2 x vs v us Q I2 r1 r2 q2
end L2
namespace L2
open PySem PySem.Spec PyProof.Rows
def MtM(X:Cx)(id:String)(r:V->List V->Hp->VK->Prop):Prop:=
 ∀ (aB:List (qw×Obj)) (s:qv) (σ:St) (H:Hp) (x:V) (xs:List V) (v:qj) (us:List qj) (Q:VK),Inv X aB σ H s->aU x v->aT xs us->r x xs H Q ->
  qu (model X.prog X.w) X.A (call (.builtin id) (v::us)) (EP X aB σ Q) X.xe s
def aT.one:∀ {x:V}{us:List qj},aT [x] us->∃ u,us=[u]/\aU x u
 |_,_,.cons r .nil=>(_,rfl,r,)
def aT.rep{xs:List V}(h:aT xs us):∀ k:Nat,aT (yAe k xs).flatten (yAe k us).flatten
 |0=>.nil
 |k+1=>by
   rw[yAy,yAy,yDh,yDh];exact aT.append h (aT.rep h k)
def aAd(aG:List qj):∀ (k:Nat) (aO:List qj),
 List.foldl (λ x1 x2=>x1++x2) aO.toArray (yAe k aG.toArray)=(aO++(yAe k aG).flatten).toArray
 |0,aO=>by simp
 |k+1,aO=>by
   have e:aO.toArray++aG.toArray=(aO++aG).toArray:=by simp
   have e2:(aO++aG)++(yAe k aG).flatten=aO++(yAe (k+1) aG).flatten:=by
    rw[yAy,yDh,yAz]
   rw[<- e2,<- aAd aG k (aO++aG),<- e,yAy,yCl]
section
variable {X:Cx}{aB:List (qw×Obj)}{σ:St}{H:Hp}{s:qv}{l b:qw}{xs ys zs:List V}
def Inv.lset{aG its':List qj}{f:Array qj->Array qj}(I:Inv X aB σ H s)(hH:H l=qz (.lst xs))(e:s.heap.get? l=qz {cls:=.type "list",data:=.seq aG.toArray n })(hf:f aG.toArray=its'.toArray)(hv:aT ys its')(hz:↑ys<=qk) :
 Inv X aB σ (bB H l (.lst ys)) {s with heap:=s.heap.update l (Obj.mapSeq f),toks:=t' }:=by have q:=PySem.IsL.update e f;rw[hf] at q;refine I.write (x:=l) (e:=l) (by rw[hH];exact trivial) (.inl rfl) (λ b' u hb hu=>(yCr s.heap (Obj.mapSeq f) (Ne.symm hb)).trans hu) (_,q,) ?_;exact(hz,its',_,hv,q,)
def Inv.lnew(I:Inv X aB σ H s)(hv:aT ys aG)(hz:↑ys<=qk) :
 Inv X aB σ (bB H s.heap.objs.size (.lst ys)) {s with heap:=s.heap.push {cls:=.type "list",data:=.seq aG.toArray },toks:=t' }:=
 I.laid (λ _ _ q=>hpS _ q) (yAb _) (hz,aG,0,hv,xAd _ rfl,)
def Inv.fresh(I:Inv X aB σ H s):H s.heap.objs.size=qx:=I.hok.fresh (yAb _)
def Inv.lstM(I:Inv X aB σ H s)(hH:H l=qz (.lst xs)):↑xs<=qk/\∃ (aG:List qj) (n:Nat),aT xs aG/\↑xs=aG.length/\s.heap.get? l=qz {cls:=.type "list",data:=.seq aG.toArray n }:=by let(z,aG,n,r,e):=I.hok l _ hH;exact(z,aG,n,r,r.length,e,)
def aQl(h:n<=qk):yFo n=false:=by unfold yFo;exact dqF (!_)
end
def aIU:V->List V->Hp->VK->Prop:=λ x vs H Q=>∃ l xs y,x=.ref l/\vs=[y]/\H l=qz (.lst xs)/\↑xs<qk/\Q .non (bB H l (.lst (xs++[y])))
def aHg:MtM X "list.append" aIU:=by intro aB s σ H x vs v us Q I rx rv h;let(l,xs,y,rfl,rfl,hH,hz,q):=h;cases rx;let(u,rfl,ru):=rv.one;let(z,aG,n,r,hl,e):=I.lstM hH;refine xo F.slot_list_append (_,e,rfl,) F.entry_list_append (F.args_list_append_2 _ _) (PySem.list_append l aG.toArray n u (by rw[yAh];omega)) (e,?_,);refine(.non,_,I.lset (its':=aG++[u]) hH e (by simp) (r.append (.cons ru .nil)) ?_,rfl,q,);rw[xAn,yDq];omega
def aS7{α:Type}(xs:List α)(k:Nat):(yAe k xs).flatten.length=k*↑xs:=by
 induction k with
 |zero=>simp|succ k ih=>rw[yAy,yDh,xAn,ih,Nat.succ_mul,yDr]
end L2
namespace Att
open PySem PySem.W PySem.Calls PyProof.Rows
def aNM:∀ (ns:List Int) (vs:List qj),WellAll P h vs (ns.map WData.int)->IntsAre vs ns:=by
 intro ns
 induction ns with
 |nil=>
   intro vs w;rw[yDp] at w;cases w;exact .nil
 |cons n ns ih=>
   intro vs w;rw[yAf] at w;cases w with
   |cons a b=>
     cases a;exact .cons _ _ (ih _ b)
def script_of{l:OpenLaw}(hn:l.most=qz n)(hpre:l.row.toRowW.claim.pre args=true)(hwl:WellAll P h vals args) :
 ∃ a vs ns,vals=[Value.ref a]/\args=[WData.list (ns.map WData.int)]/\h.get? a=qz {cls:=.type "list",data:=.seq vs.toArray }/\IntsAre vs ns/\↑ns<=n:=by
 have hsh:WShape.hasAll [] args [.list .int]=true:=(pre_splitW hpre).1;have hc:l.pre.holds [] {args:=args }=true:=(pre_splitW hpre).2;let(d,r,rfl,h1,h2):=hasAllW_cons hsh;obtain rfl:=hasAllW_nil h2;let(xs,rfl,h3):=hasW_list h1;let(ns,rfl):=items_int h3;have cJ:↑ns<=n:=by
  unfold OpenLaw.pre at hc;have h4:(WTm.not (.lt (.lit (.int (n:Int))) (.len (.arg 0)))).holds [] {args:=[.list (ns.map .int)] }=true:=by
   have h4:=(holds_andW hc).1;rw[hn] at h4;exact h4
  have h5:=condW_of h4 (w_not (w_lt w_lit (w_len_list (w_arg rfl))));rw[yAd] at h5;refine yEp λ q=>?_
  have q':(n:Int)<((↑ns:Nat):Int):=by omega
  first
   |(rw[dqT q'] at h5;exact absurd h5 (·))
   |(simp at h5;omega)
 cases hwl with
 |cons w1 w2=>
   cases w2;cases w1 with
   |list ho hall=>exact(_,_,ns,rfl,rfl,ho,aNM ns _ hall,cJ,)
def post_true(l:OpenLaw)(args:List WData):l.row.toRowW.claim.post args (.bool true) args=true:=
 postW_of (r:=l.row.toRowW) (X:=(true==true))
  (show WShape.has [] (.bool true) .bool=true by first|rfl|decide|simp[WShape.has,WShape.arms,WShape.armsAll])
  (show(WTm.eq .res (.lit (.bool true))).value [] {args:=args,res:=qz (.bool true),after:=args }=qz (.bool (true==true)) from w_eq_bool (w_res rfl) w_lit) rfl
def bAL(h:Heap)(L d:qw):List (qw×Obj):=(yBw h.objs.size).filterMap λ a=>if a=L\/a=d then qx else (h.get? a).map λ o=>(a,o)
end Att
namespace L2
open PySem PySem.Spec PyProof.Rows
def aGN:∀ {vs:List qj}{ns:List Int},IntsAre vs ns->aT (ns.map V.int) vs
 |_,_,.nil=>.nil|_,_,.cons n t h=>.cons (t,rfl,) (aGN h)
def aMS(H:Hp):Prop:=∀ b,H b=qx\/∃ o xs,H b=qz (.frz o (.lst xs))
def law_call{K:FrG}{mg mb:Str->Option qj}{s₁:qv}(KX:K.In s₁.heap)(hns:s₁.heap.Ns zk mg)(hb:s₁.heap.Ns builtinsNs mb)(hbb:∀ x:Str,x ≠ "__name__" -> mb x=jx x)(hlim:s₁.heap.NoLimit)(hg:s₁.gens = #[])(ha:s₁.heap.get? a=qz {cls:=.type "list",data:=.seq vs.toArray })(hi:IntsAre vs ns)(hl:↑ns<=qk)(hr:Room k callerA)(F:∀ base:Heap,K.In base->base.Ns zk mg->FnOk P w K mg base CX k fa fd [x] sp)(hbind:∀ (s:qv) (u:qj),BindsTo s fd ⟨[u],[]⟩ [(x,u)])(hsp:∀ H:Hp,aMS H->bT K H a (ns.map V.int)->sp [.ref a] H (λ v _=>v=.bl true) λ _ _ _=>False)(hCX:∀ H e s',CX [] H s₁ (λ _ _ _=>False) e s'->False) :
 jj (model P w) callerA (.call (.ref fa) ([.ref a],[],)) (λ r s'=>r=.ok (.ret (.bool true))/\OldK s₁.heap s'.heap/\s'.os=s₁.os/\AllBare s'.gens) s₁:=by
 have rv:=aGN hi;have lenV:=hi.length;have core:∀ H:Hp,aMS H->bT K H a (ns.map V.int)->cS P w H s₁.heap->(∀ b,H b≠qx->b=a)->(H a≠qx->K.lookup a=qx) ->
  jj (model P w) callerA (.call (.ref fa) ([.ref a],[],)) (λ r s'=>r=.ok (.ret (.bool true))/\OldK s₁.heap s'.heap/\s'.os=s₁.os/\AllBare s'.gens) s₁:=by
  intro H hO hS hok hA hK;have mT:∀ {b:qw}{o:Obj},s₁.heap.get? b=qz o->H b=qx->(nJ s₁.heap H).get? b=qz o:=λ e n=>aP9 e n
  have noA:∀ {b:qw}{o:Obj}{es:Array DictEntry}{ep:Nat},s₁.heap.get? b=qz o->o.data=.dict es ep->H b=qx:=λ {b o es ep} e d=>by
   cases q:H b with
   |none=>rfl
   |some u=>
     have e':b=a:=hA b (by rw[q];simp);subst e';rw[ha] at e;cases e;have d':Data.seq vs.toArray _=Data.dict es ep:=d;cases d'
  have nsK:∀ {b:qw}{m:Str->Option qj},s₁.heap.Ns b m->(nJ s₁.heap H).Ns b m:=λ {b m} ⟨o,es,ep,e,d,r⟩=>(o,es,ep,mT e (noA e d),d,r,)
  have hKb:K.In (nJ s₁.heap H):=λ b o e=>mT (KX b o e) (by
   cases q:H b with
   |none=>rfl
   |some u=>
     have e':b=a:=hA b (by rw[q];simp)
     subst e';rw[hK (by rw[q];simp)] at e;cases e)
  have hM:Mod K mg (nJ s₁.heap H):=(hKb,nsK hns,(mb,nsK hb,hbb,),let ⟨mc,h1,h2⟩:=hlim;(mc,nsK h1,h2,),);have e0:Env0 P w K mg (nJ s₁.heap H) callerA [] s₁ H:=(rfl,hM,λ b o e=>aRD e,yHo (aPy _ _),trivial,λ b hb=>absurd (show b∈([]:List qw) from hb) (by simp),hok,.of_eq hg,);refine codeAny_mono ((F _ hKb (nsK hns)).run callerA [] s₁ H ([.ref a],[],) [.ref a] [.ref a] _ _ hr e0 (hbind s₁ (.ref a)) (.cons rfl .nil) (hsp H hO hS)) λ r s' h=>?_
  cases r with
  |error e=>exact(hCX H e s' h).elim
  |ok fl=>
    cases fl with
    |next=>exact False.elim h|brk=>exact False.elim h|cont=>exact False.elim h
    |ret u=>
      let(v,H',os,bare,un,hok',r',q):=h;have q':v=.bl true:=q;subst q';obtain rfl:u=Value.bool true:=r';refine(rfl,OldK.of_keep λ b o e=>?_,os,bare,);cases q:H b with
      |none=>exact un.keep b o e q (by intro z;exact absurd (show b∈([]:List qw) from z) (by simp)) (by simp)
      |some u=>
        rcases hO b with z|⟨ob,xs,z⟩
        .rw[q] at z;cases z
        .have z2:=un.frzs b ob _ z;let(e1,_):=hok b _ z;let(e2,_):=hok' b _ z2;rw[e] at e1;cases e1;exact e2
 cases hk:K.lookup a with
 |some o=>
   have e:=KX a o hk;rw[ha] at e;cases e;refine core (λ _=>qx) (λ _=>.inl rfl) (.inr (_,vs.toArray,_,hk,rfl,rfl,rfl,by rw[yAh,lenV];exact hl,by simpa using rv,)) (λ b u z=>by have z':(qx:Option HO)=qz u:=z;cases z') (λ b z=>absurd rfl z) λ z=>absurd rfl z
 |none=>
   refine core (λ b=>if b=a then qz (.frz {cls:=.type "list",data:=.seq vs.toArray } (.lst (ns.map V.int))) else qx) (λ b=>?_) (.inl (.inr ({cls:=.type "list",data:=.seq vs.toArray },if_pos rfl,))) (λ b u z=>?_) (λ b z=>?_) λ _=>hk
   .by_cases hb:b=a
    .exact .inr (_,_,if_pos hb,)
    .exact .inl (if_neg hb)
   .by_cases hb:b=a
    .have z':=(if_pos hb).symm.trans z;cases z';subst hb;exact(ha,by rw[yAd];exact hl,vs,_,rv,ha,)
    .have z':=(if_neg hb).symm.trans z;cases z'
   .by_cases hb:b=a
    .exact hb
    .exact absurd (if_neg hb) z
end L2
namespace L2
open PySem PySem.Spec PyProof.Rows
noncomputable abbrev KOf{K:FrG}{h:Heap}(_:K.In h):FrG:=K
end L2
namespace L2
open PySem PySem.Spec PyProof.Rows
def jI(s:xu):Arguments:=match s with|.FunctionDef _ a _ _ _ _ _ _ _ _=>a|_=>{posonlyargs:=[],args:=[],vararg:=qx,kwonlyargs:=[],kw_defaults:=[],kwarg:=qx,defaults:=[] }
def gO(s:xu):List xu:=match s with|.FunctionDef _ _ b _ _ _ _ _ _ _=>b|_=>[]
def cR(s:xu):zy:=match s with|.FunctionDef _ _ _ _ _ _ sc _ _ _=>sc|_=>{kind:=.function,names:=[],isGenerator:=false,isCoroutine:=false }
noncomputable abbrev nW:mK:=λ _ _ _ _ _ _=>False
noncomputable abbrev E0:XK:=λ _ _ _=>False
def aBr:qM nW X E0:=λ _ _ _ _ _ _ _ h=>h.elim
structure Fun(K:FrG)(x qual:Str)(st:xu)(f:qw)(fd:vz):Prop where
 ex:∃ (oc:qj) (od:Option qw) (kV doc pm:qj) (an:Option qw) (cdv ct:qj) (osl:Array (Option qj)),
  fd=yCk x qual (jI st) (gO st) (cR st) .none kV doc pm an cdv ct/\K.lookup f=qz (oc,od,.func fd,osl,)/\yDg K cdv qual=true
 kp:yBt K (.ref f)=true
variable {K:FrG}
def Fun.ok{P:zq}{w:zj}{mg:Str -> Option qj}{base:Heap}{x qual:Str}{st:xu}{f:qw}{fd:vz}{N ps:List Str}{k:Nat}{sp:Sp}(F:Fun K x qual st f fd)(S:FnScope N ps (cR st))(len:∀ vs H Q E,sp vs H Q E->↑vs=↑ps)
 (hbody:∀ (cdv:qj) (A:zv) (outer:List Env) (s:qv) (H:Hp) (vs:List V) (Q:VK) (E:XK),Room k (A.deeper (envOfC qual (cR st) s.heap.objs.size f cdv))->sp vs H Q E ->
   ∃ t,dJ (tK nW P w K mg base N qual (cR st) f cdv A outer s H E).nox (gO st) t/\t {nx:=λ _ H'=>Q .non H',rt:=Q } (start N vs) H):FnOk P w K mg base nW (k+1) f fd ps sp:=by
 let(oc,od,kV,doc,pm,an,cdv,ct,osl,rfl,lk,hcd):=F.ex;refine aY4 lk hcd S len λ A outer s H vs Q E hr hsp=>?_
 let(t,h,q):=hbody cdv A outer s H vs Q E hr hsp;exact(t,h.nox,q,)
def Fun.binds{x qual:Str}{st:xu}{f:qw}{fd:vz}{ps:List Str}(F:Fun K x qual st f fd)
 (h:∀ (kV doc pm:qj) (an:Option qw) (cdv ct:qj) (us:List qj),↑us=↑ps->bindArgs (yCk x qual (jI st) (gO st) (cR st) .none kV doc pm an cdv ct) ⟨us,[]⟩=pure (ps.zip us)):gW K fd ps []:=by let(oc,od,kV,doc,pm,an,cdv,ct,osl,rfl,lk,hcd):=F.ex;exact .all (h kV doc pm an cdv ct)
def aDO{x qual:Str}{st:xu}{f:qw}{oc:qj}{od an:Option qw}{osl:Array (Option qj)}{kV doc pm cdv ct:qj}(l:K.lookup f=qz (oc,od,.func (yCk x qual (jI st) (gO st) (cR st) .none kV doc pm an cdv ct),osl,))
 (c:yDg K cdv qual=true) (k:yBt K (.ref f)=true):Fun K x qual st f (yCk x qual (jI st) (gO st) (cR st) .none kV doc pm an cdv ct):=((oc,od,kV,doc,pm,an,cdv,ct,osl,rfl,l,c,),k,)
def tH{B:Prop}(h:B):if false=true then A else B:=by rw[if_neg yAu];exact h
def tL{B:Prop}(h:A):if true=true then A else B:=by rw[if_pos rfl];exact h
def bV(H H':Hp):Prop:=∀ b o,H b=qz o->H' b=qz o
def bV.refl(H:Hp):bV H H:=λ _ _ h=>h
def bV.trans(a:bV H H1)(b:bV H1 H2):bV H H2:=λ c o h=>b c o (a c o h)
def bV.free(e:bV H H')(h:H' l=Option.none):H l=Option.none:=by
 cases q:H l with
 |none=>rfl
 |some o=>
   rw[e l o q] at h;cases h
def bV.seq{xs:List V}(e:bV H H')(h:bT K H a xs):bT K H' a xs:=by
 rcases h with (h|⟨o,h⟩)|h
 .exact .inl (.inl (e _ _ h))
 .exact .inl (.inr (o,e _ _ h,))
 .exact .inr h
end L2
set_option maxHeartbeats 4000000
namespace L2
open PySem PySem.Spec PyProof.Rows
section
variable {κ:Type}[DecidableEq κ]
def jC(aI:List (κ×V))(k:κ):Option V:=(aI.find? λ kv=>decide (kv.1=k)).map (·.2)
def jD(aI:List (κ×V))(k:κ)(v:V):List (κ×V):=
 if (aI.any λ kv=>decide (kv.1=k))=true then aI.map (λ kv=>if kv.1=k then (kv.1,v) else kv) else aI++[(k,v)]
def aCZ{p:κ×V}{r:List (κ×V)}{k:κ}(e:p.1=k):jC (p::r) k=qz p.2:=by simp[jC,yCw,e]
def aC4{p:κ×V}{r:List (κ×V)}{k:κ}(e:¬ p.1=k):jC (p::r) k=jC r k:=by simp[jC,yCw,e]
def aCR(k:κ):∀ aI:List (κ×V),(aI.any λ kv=>decide (kv.1=k))=(jC aI k).isSome
 |[]=>rfl
 |p::r=>by
   rw[yEz];by_cases e:p.1=k
   .simp only[aCZ e,dqT e,Bool.true_or,Option.isSome_some]
   .rw[aC4 e,dqF e,Bool.false_or];exact aCR k r
def aGe(aI:List (κ×V))(k:κ)(v:V):(jD aI k v).length<=aI.length+1:=by
 unfold jD;split
 .rw[yAd];omega
 .rw[xAn,yAl,yCm];omega
def gX.isSome_eq(r:gX o u):o.isSome=u.isSome:=by
 cases o with
 |none=>cases u with
   |none=>rfl
   |some _=>exact(show False from r).elim
 |some _=>cases u with
   |none=>exact(show False from r).elim
   |some _=>rfl
def KV.val{aI:List (κ×V)}{vs:List (κ×qj)}(r:KV aI vs)(k:κ):gX (jC aI k) (valueAt vs k):=by
 unfold KV at r
 induction r with
 |nil=>exact True.intro
 |@cons p q ps qs h t ih=>
   let(h1,h2):=h;by_cases e:p.1=k
   .have e':q.1=k:=h1.symm.trans e;have b:valueAt (q::qs) k=qz q.2:=by simp[valueAt,yCw,e']
    rw[aCZ e,b];exact h2
   .have e':¬ q.1=k:=λ z=>e (h1.trans z)
    have b:valueAt (q::qs) k=valueAt qs k:=by simp[valueAt,yCw,e']
    rw[aC4 e,b];exact ih
def KV.any{aI:List (κ×V)}{vs:List (κ×qj)}(r:KV aI vs)(k:κ):(aI.any λ kv=>decide (kv.1=k))=vs.any λ kv=>decide (kv.1=k):=by
 unfold KV at r
 induction r with
 |nil=>rfl|cons h t ih=>rw[yEz,yEz,ih,h.1]
def KV.repl{aI:List (κ×V)}{vs:List (κ×qj)}(r:KV aI vs)(k:κ){y:V}{u:qj}(ry:aU y u) :
 KV (aI.map λ kv=>if kv.1=k then (kv.1,y) else kv) (vs.map λ kv=>if kv.1=k then (kv.1,u) else kv):=by
 unfold KV at r ⊢
 induction r with
 |nil=>exact .nil
 |@cons p q ps qs h t ih=>
   rw[yAf,yAf];refine .cons ?_ ih;let(h1,h2):=h;by_cases e:p.1=k
   .rw[if_pos e,if_pos (h1.symm.trans e)];exact(h1,ry,)
   .rw[if_neg e,if_neg (λ z=>e (h1.trans z))];exact(h1,h2,)
def KV.put{aI:List (κ×V)}{vs:List (κ×qj)}(r:KV aI vs)(k:κ){y:V}{u:qj}(ry:aU y u):KV (jD aI k y) (stored vs k u):=by
 unfold jD stored;rw[r.any k];by_cases e:(vs.any λ kv=>decide (kv.1=k))=true
 .rw[if_pos e,if_pos e];exact r.repl k ry
 .rw[if_neg e,if_neg e];exact Paired.snoc r (rfl,ry,)
def KV.length{aI:List (κ×V)}{vs:List (κ×qj)}(r:KV aI vs):aI.length=↑vs:=Paired.length r
end
def wZ(r:aU (kV k) u):(eU P w).is k u=true:=by
 cases k with
 |inl i=>let(t,e):=(show ∃ t,u=Value.int i t from r);subst e;exact aOm P w i t
 |inr x=>let(t,e):=(show ∃ t,u=Value.str x t from r);subst e;exact aOc P w x t
def aCN:∀ {ks:List aZ}{us:List qj},aT (ks.map kV) us->ItemsAre (eU P w) ks us
 |[],_,r=>by rw[yDp] at r;cases r;exact .nil
 |k::ks,_,r=>by
   rw[yAf] at r;cases r with
   |cons h t=>exact .cons (wZ h) (aCN t)
noncomputable abbrev KT(H:Hp):List (List aZ×V)->List (List aZ×qw×qj)->Prop:=Paired λ p q=>p.1=q.1/\H q.2.1=qz (.tup (p.1.map kV))/\aU p.2 q.2.2
def KT.val{xs:List (List aZ×qw×qj)}(r:KT H aI xs)(k:List aZ):gX (jC aI k) ((atKey xs k).map (·.2)):=by
 induction r with
 |nil=>exact True.intro
 |@cons p q ps qs h t ih=>
   let(h1,_,h2):=h;by_cases e:p.1=k
   .have e':q.1=k:=h1.symm.trans e;have b:atKey (q::qs) k=qz q.2:=by simp[atKey,yCw,e']
    rw[aCZ e,b];exact h2
   .have e':¬ q.1=k:=λ z=>e (h1.trans z)
    have b:atKey (q::qs) k=atKey qs k:=by simp[atKey,yCw,e']
    rw[aC4 e,b];exact ih
def KT.repl{xs:List (List aZ×qw×qj)}(r:KT H aI xs)(k:List aZ)(ry:aU y u) :
 KT H (aI.map λ kv=>if kv.1=k then (kv.1,y) else kv) (xs.map (putAt k u)):=by
 induction r with
 |nil=>exact .nil
 |@cons p q ps qs h t ih=>
   rw[yAf,yAf];refine .cons ?_ ih;let(h1,h2,h3):=h;unfold putAt;by_cases e:p.1=k
   .rw[if_pos e,if_pos (h1.symm.trans e)];exact(h1,h2,ry,)
   .rw[if_neg e,if_neg (λ z=>e (h1.trans z))];exact(h1,h2,h3,)
def KT.put{xs:List (List aZ×qw×qj)}(r:KT H aI xs)(k:List aZ)(hb:H b=qz (.tup (k.map kV)))(ry:aU y u) :
 KT H (jD aI k y) (storedH xs k b u):=by
 have e:(aI.any λ kv=>decide (kv.1=k))=(atKey xs k).isSome:=by
  rw[aCR,(r.val k).isSome_eq,yIa]
 unfold jD storedH;rw[e];by_cases q:(atKey xs k).isSome=true
 .rw[if_pos q,if_pos q];exact r.repl k ry
 .rw[if_neg q,if_neg q];exact Paired.snoc r (rfl,hb,ry,)
def KT.keeps{xs:List (List aZ×qw×qj)}(r:KT H aI xs)(ht:∀ b ys,H b=qz (.tup ys)->H' b=qz (.tup ys)):KT H' aI xs:=
 Paired.mapP r λ _ _ z=>(z.1,ht _ _ z.2.1,z.2.2,)
def aK6(ok:cS P w H h)(e:Rd H a u):dX P w H h a u:=e.ok ok
def wO(ok:cS P w H h)(e:Rd H a (.dK aI)):aI.length<=qk/\(a==sysModules)=false/\∃ vs,KV aI vs/\h.DictOf (eU P w) a vs:=
 show dX P w H h a (.dK aI) from aK6 ok e
def aW6(ok:cS P w H h)(e:H a=qz (.dK aI)):aI.length<=qk/\(a==sysModules)=false/\∃ vs,KV aI vs/\h.DictOf (eU P w) a vs:=wO ok (.inl e)
def vS{ks:List aZ}(ok:cS P w H h)(e:H a=qz (.tup (ks.map kV))):(tupleKind (eU P w)).is h ks a:=by let(_,aG,r,o,h1,h2,n,h3):=(show dX P w H h a (.tup (ks.map kV)) from ok a _ e);exact(o,aG.toArray,n,h1,h2,h3,by simpa using aCN r,)
def wW(ok:cS P w H h)(e:Rd H a (.dT aI)):aI.length<=qk/\(a==sysModules)=false /\
 ∃ xs,KT H aI xs/\h.DictOfH (tupleKind (eU P w)) a xs:=by
 let(z,y,xs,r,o,es,ep,h1,h2,h3,h4,h5):=(show dX P w H h a (.dT aI) from aK6 ok e);refine(z,y,xs,r,o,es,ep,h1,h2,h3,h4,λ x hx=>?_,h5,);have all:∀ {l:List (List aZ×V)}{m:List (List aZ×qw×qj)},KT H l m->∀ x∈m,(tupleKind (eU P w)).is h x.1 x.2.1:=by
  intro l m q
  induction q with
  |nil=>intro x hx;exact nomatch hx
  |@cons p q ps qs hq t ih=>
    intro x hx;rcases List.mem_cons.mp hx with e|hx
    .subst e;exact vS ok (by rw[<- hq.1];exact hq.2.1)
    .exact ih x hx
 exact all r x hx
def aZg(ok:cS P w H h)(e:H a=qz (.dT aI)):aI.length<=qk/\(a==sysModules)=false /\
 ∃ xs,KT H aI xs/\h.DictOfH (tupleKind (eU P w)) a xs:=wW ok (.inl e)
def jT(H:Hp)(a:qw)(y:V)(r:Option V):Prop:=
 (∃ aI k,Rd H a (.dK aI)/\y=kV k/\r=jC aI k)\/∃ aI k b,Rd H a (.dT aI)/\y=.ref b/\H b=qz (.tup (k.map kV))/\r=jC aI k
def xQ(H:Hp)(a:qw)(y v:V)(H':Hp):Prop:=
 (∃ aI k,H a=qz (.dK aI)/\y=kV k/\aI.length<qk/\H'=bB H a (.dK (jD aI k v))) \/
 ∃ aI k b,H a=qz (.dT aI)/\y=.ref b/\H b=qz (.tup (k.map kV))/\aI.length<qk/\H'=bB H a (.dT (jD aI k v))
def jT.t{k:List aZ}(e:H a=qz (.dT aI))(eb:H b=qz (.tup (k.map kV))):jT H a (.ref b) (jC aI k):=.inr (aI,k,b,.inl e,rfl,eb,rfl,)
def xQ.t{k:List aZ}(e:H a=qz (.dT aI))(eb:H b=qz (.tup (k.map kV)))(hl:aI.length<qk) :
 xQ H a (.ref b) v (bB H a (.dT (jD aI k v))):=.inr (aI,k,b,e,rfl,eb,hl,rfl,)
section
variable {X:Cx}{aB:List (qw×Obj)}{σ:St}{H:Hp}{s:qv}{a:qw}{y v:V}{u r:qj}{o:Option V}{A:zv}{E:qj->qv->Prop}
def Inv.big(I:Inv X aB σ H s):sysModules<s.heap.objs.size:=by have h:zk<s.heap.objs.size:=(I.mod.glob.keeps I.bk).lt;exact yEh (·) h
def aPX{Q:qj->qv->Prop}(hu:A.units+1<cLine)(I:Inv X aB σ H s)(g:jT H a y (qz v))(ry:aU y u)(h:∀ w' s',Inv X aB σ H s'->aU v w'->Q w' s') :
 qu (model X.prog X.w) A (getItem (.ref a) u) Q E s:=by
 rcases g with ⟨aI,k,e,ey,l⟩|⟨aI,k,b,e,ey,eb,l⟩
 .subst ey;let(z,hd,vs,rel,dd):=wO I.hok e;let(w',hw,rw'):=gX.some_of (v:=v) (o:=valueAt vs k) (by rw[l];exact rel.val k);exact wpAny_getItem_of (wZ ry) dd.mapOf hw (h w' _ (I.tok _) rw')
 .subst ey;cases (show u=Value.ref b from ry);let(z,hd,xs,rel,dd):=wW I.hok e;let(w',hw,rw'):=gX.some_of (v:=v) (o:=(atKey xs k).map (·.2)) (by rw[l];exact rel.val k);let(p,hp,hp2):=Option.map_eq_some_iff.mp hw;refine wpAny_getItem_heap (tupleKind_room_in1 hu) (vS I.hok eb) dd hp ?_;rw[hp2];exact h w' _ (I.tok _) rw'
def bAv{Q:qj->qv->Prop}(hu:A.units+1<cLine)(I:Inv X aB σ H s)(g:jT H a y o)(ry:aU y u)(h:∀ s',Inv X aB σ H s'->Q (.bool o.isSome) s') :
 qu (model X.prog X.w) A (xk .In u (.ref a)) Q E s:=by
 rcases g with ⟨aI,k,e,ey,l⟩|⟨aI,k,b,e,ey,eb,l⟩
 .subst ey;let(z,hd,vs,rel,dd):=wO I.hok e;refine wpAny_in_of (wZ ry) hd dd.mapOf ?_;rw[<- (rel.val k).isSome_eq,<- l];exact h _ (I.tok _)
 .subst ey;cases (show u=Value.ref b from ry);let(z,hd,xs,rel,dd):=wW I.hok e;refine wpAny_in_heap (tupleKind_room_in1 hu) (vS I.hok eb) hd dd ?_;have q:=(rel.val k).isSome_eq;rw[yIa] at q;rw[<- q,<- l];exact h _ (I.tok _)
def aTr{Q:qj->qv->Prop}(hu:A.units+1<cLine)(I:Inv X aB σ H s)(g:jT H a y o)(ry:aU y u)(h:∀ s',Inv X aB σ H s'->Q (.bool (!o.isSome)) s') :
 qu (model X.prog X.w) A (xk .NotIn u (.ref a)) Q E s:=by
 rcases g with ⟨aI,k,e,ey,l⟩|⟨aI,k,b,e,ey,eb,l⟩
 .subst ey;let(z,hd,vs,rel,dd):=wO I.hok e;refine wpAny_notIn_of (wZ ry) hd dd.mapOf ?_;rw[<- (rel.val k).isSome_eq,<- l];exact h _ (I.tok _)
 .subst ey;cases (show u=Value.ref b from ry);let(z,hd,xs,rel,dd):=wW I.hok e;refine wpAny_notIn_heap (tupleKind_room_in1 hu) (vS I.hok eb) hd dd ?_;have q:=(rel.val k).isSome_eq;rw[yIa] at q;rw[<- q,<- l];exact h _ (I.tok _)
def aIo(I:Inv X aB σ H s)(mu:yT (H a))(hs:yCi a s.heap h')(he:∃ q,h'.get? a=qz q)(new:dX X.prog X.w (bB H a ob) h' a ob) :
 Inv X aB σ (bB H a ob) {s with heap:=h',toks:=t' }:=
 I.write (x:=a) (e:=a) mu (.inl rfl) (λ b q hb z=>(hs.2 b hb).trans z) he new
def aVh{h':Heap}{aI:List (aZ×V)}(z:aI.length<=qk)(hd:(a==sysModules)=false)(rel:KV aI vs)(dd:h'.DictOf (eU P w) a vs) :
 dX P w H' h' a (.dK aI):=(z,hd,vs,rel,dd,)
def aPQ{Q:Unit->qv->Prop}(hu:A.units+1<cLine)(I:Inv X aB σ H s)(g:xQ H a y v H')(ry:aU y u)(rv:aU v r)(h:∀ s',Inv X aB σ H' s'->Q () s') :
 qu (model X.prog X.w) A (setItem (.ref a) u r) Q E s:=by
 rcases g with ⟨aI,k,e,ey,l,eH⟩|⟨aI,k,b,e,ey,eb,l,eH⟩
 .subst ey eH;let(z,hd,vs,rel,dd):=aW6 I.hok e;have hz:↑vs<=qk:=by rw[<- rel.length];exact z
  have hl:(jD aI k v).length<=qk:=by have:=aGe aI k v;omega
  refine wpAny_setItem_pairs (hsz:=hz) (wZ ry) dd λ h' dd' hs=>h _ ?_
  have he:∃ q,h'.get? a=qz q:=let ⟨q,_,_,hq,_⟩:=dd';(q,hq,);exact aIo I (by rw[e];exact True.intro) hs he (aVh hl hd (rel.put k rv) dd')
 .subst ey eH;cases (show u=Value.ref b from ry);let(z,hd,xs,rel,dd):=aZg I.hok e;have hz:↑xs<=qk:=by rw[<- Paired.length rel];exact z
  have hl:(jD aI k v).length<=qk:=by have:=aGe aI k v;omega
  refine wpAny_setItem_heap (hsz:=hz) (tupleKind_room_in1 hu) (vS I.hok eb) dd λ h' dd' hs=>h _ ?_
  let(q,es,ep,hq,h2,h3,h4,_,h5):=dd';refine aIo I (by rw[e];exact True.intro) hs ⟨q,hq⟩ ⟨hl,hd,_,(rel.put k eb rv).keeps λ c ys ec=>?_,q,es,ep,hq,h2,h3,h4,h5⟩;rw[bR (aW7 ec e (λ z=>nomatch z))];exact ec
end
section
variable {X:Cx}{aB:List (qw×Obj)}{σ:St}{H:Hp}{s:qv}{a:qw}{aI:List (aZ×V)}{k:aZ}{u:qj}{A:zv}{E:qj->qv->Prop}
end
def aM9(i:qy):Prop:=∀ ov iv,subscripted i false ov iv=operate [ov,iv] (getItem ov iv)
def aSv{E:qj->qv->Prop}{id:String}{Q:qj->qv->Prop}(hl:typeLookup (.type T) "__getitem__" = pure (qz (.builtin id)))(hs:aM9 iF)(h:qu (model prog w) A (eval value env) (λ o s₁=>qu (model prog w) A (eval iF env) (λ i s₂=>s₂.TypeIs o T/\qu (model prog w) A (getItem o i) Q E s₂) E s₁) E s) :
 qu (model prog w) A (eval (.Subscript value iF pos) env) Q E s:=by
 refine Subscript_ (wpAny_mono h (λ o s₁ h₁=>wpAny_mono h₁ (λ i s₂ h₂=>?_) λ _ _ x=>x) λ _ _ x=>x);let(hT,h₂):=h₂;unfold subscriptTail;refine wB ?_;rw[getitemInPython_of_ne hT.not_modules];refine wB (vj hT hl ?_);have cG:qu (model prog w) A (subscripted iF false o i) (λ r s₃=>qu (model prog w) A (letTemporaryGo value o r >>= λ _=>pure r) Q E s₃) E s₂:=by
  rw[hs o i];exact wpAny_operating (wpAny_mono h₂ (λ r s₃ h₃=>wB (wpAny_letTemporaryGo (wP h₃))) λ _ _ x=>x)
 first
  |exact wP (wB cG)
  |exact wB (wP (wB cG))
  |exact wB cG
def aOn(I:Inv X aB σ H s)(g:jT H a y o):s.TypeIs (.ref a) "dict":=by
 rcases g with ⟨aI,k,e,_,_⟩|⟨aI,k,b,e,_,_,_⟩
 .let(_,_,vs,_,dd):=wO I.hok e;exact dd.typeIs
 .let(_,_,xs,_,dd):=wW I.hok e;exact dd.typeIs
def aYa(td ty:TE):TE:=λ σ H Q=>td σ H λ x H1=>ty σ H1 λ y H2=>∃ a v,x=.ref a/\jT H2 a y (qz v)/\Q v H2
def aZR(ty td:TE):TE:=λ σ H Q=>ty σ H λ y H1=>td σ H1 λ x H2=>∃ a o,x=.ref a/\jT H2 a y o/\Q (.bl o.isSome) H2
def aSn(ty td:TE):TE:=λ σ H Q=>ty σ H λ y H1=>td σ H1 λ x H2=>∃ a o,x=.ref a/\jT H2 a y o/\Q (.bl (!o.isSome)) H2
def aYd(td ty tv:TE):TS:=λ D σ H=>tv σ H λ v H1=>td σ H1 λ x H2=>ty σ H2 λ y H3=>∃ a H4,x=.ref a/\xQ H3 a y v H4/\D.nx σ H4
variable {X:Cx}
def aRS{td ty:TE}(hu:X.A.units+1<cLine)(ho:PE X o td)(hi:PE X i ty)(hs:aM9 i):PE X (.Subscript o i pos) (aYa td ty):=by intro aB s σ H Q I h;refine aSv PySem.F.slot_dict_getitem.lookup hs (bA (ho aB s σ H _ I h) λ u s1 ⟨x,H1,I1,rx,q1⟩=>bA (hi aB s1 σ H1 _ I1 q1) λ iv s2 hPq34=>?_);let(y,H2,I2,ry,a,v,ex,g,q2):=hPq34;subst ex;obtain rfl:u=Value.ref a:=rx;exact(aOn I2 g,aPX hu I2 g ry λ w' s3 I3 rw'=>(v,H2,I3,rw',q2,),)
def aVe{td ty:TE}(hu:X.A.units+1<cLine)(hi:PE X i ty)(ho:PE X o td):PC X .In i o (aZR ty td):=by
 intro aB s σ H Q I h;refine bA (hi aB s σ H _ I h) λ iv s1 ⟨y,H1,I1,ry,q1⟩=>bA (ho aB s1 σ H1 _ I1 q1) λ u s2 hPq35=>?_
 let(x,H2,I2,rx,a,ov,ex,g,q2):=hPq35;subst ex;obtain rfl:u=Value.ref a:=rx;exact bAv hu I2 g ry λ s3 I3=>(.bl ov.isSome,H2,I3,rfl,q2,)
def aPJ{td ty:TE}(hu:X.A.units+1<cLine)(hi:PE X i ty)(ho:PE X o td):PC X .NotIn i o (aSn ty td):=by
 intro aB s σ H Q I h;refine bA (hi aB s σ H _ I h) λ iv s1 ⟨y,H1,I1,ry,q1⟩=>bA (ho aB s1 σ H1 _ I1 q1) λ u s2 hPq36=>?_
 let(x,H2,I2,rx,a,ov,ex,g,q2):=hPq36;subst ex;obtain rfl:u=Value.ref a:=rx;exact aTr hu I2 g ry λ s3 I3=>(.bl (!ov.isSome),H2,I3,rfl,q2,)
def aSP{pos:Pos}{td ty tv:TE}(hu:X.A.units+1<cLine)(ho:PE X o td)(hi:PE X i ty)(hv:PE X value tv)(hs:swapsWith value (qz (.Subscript o i pos')) pos.line X.env=pure false) :
 PS X (.Assign [.Subscript o i pos'] value pos) (aYd td ty tv):=by intro aB s σ H D I h;refine wpAny_Assign_Subscript (bA (hv aB s σ H _ I h) λ r s1 ⟨v,H1,I1,rv,q1⟩=>bA (ho aB s1 σ H1 _ I1 q1) λ u s2 ⟨x,H2,I2,rx,q2⟩=>bA (hi aB s2 σ H2 _ I2 q2) λ iv s3 hPq37=>?_) hs;let(y,H3,I3,ry,a,H4,ex,g,q3):=hPq37;subst ex;obtain rfl:u=Value.ref a:=rx;exact aPQ hu I3 g ry rv λ s4 I4=>(σ,H4,I4,q3,)
def aRq(h:Heap)(hb:sysModules<h.objs.size):dX P w H (h.push {cls:=.type "dict",data:=.dict #[] }) h.objs.size (.dT []):=
 (yDa _,beq_eq_false_iff_ne.mpr (Ne.symm (xAj hb)),[],.nil,_,#[],0,xAd _ rfl,(rfl,rfl,rfl,),rfl,rfl,List.nodup_nil,)
def aKD:TE:=λ _ H Q=>∀ p,H p=qx->Q (.ref p) (bB H p (.dT []))
def aQX:PE X (.Dict [] [] pos) aKD:=λ aB s σ H Q I h=>
 wpAny_Dict_empty (.ref s.heap.objs.size,_,I.laid (a:=s.heap.objs.size) (o:=.dT []) (t':=s.toks) (λ _ _ q=>hpS _ q) (yAb _) (aRq s.heap I.big),rfl,h _ (I.hok.fresh (yAb _)),)
end L2
namespace EV
open PySem L2 PySem.Spec PyProof.Rows
abbrev D:=PyData
inductive W0 where
 |d (x:D)|loc (n:Nat)|dic (n:Nat)
inductive W where
 |d (x:D)|loc (n:Nat)|exc (c:Str) (r:D)|dic (n:Nat)|ob (fs:List (Str×W0))|tpl (ws:List W0)
abbrev Lx:=List (qw×Bool)
noncomputable abbrev ad(L:Lx):List qw:=L.map Prod.fst
abbrev aC:=List (Option (List D))
abbrev aX:=List (Option W)
abbrev St:=L2.St
def aBI(F:Hp)(d:Option qw):D->Prop
 |.none=>d=qx|.int i=>∃ dx,d=qz dx/\F dx=qz (.xd [("row",.int i)])|_=>False
def xY(K:FrG)(F:Hp)(a:qw)(c:Str)(r:D):Prop:=∃ C oe,F a=qz (.ext λ h=>h.get? a=qz oe)/\oe.cls=.ref C/\PySem.W.notCls oe=true/\yCp K zk c=qz (qz (.ref C))/\aBI F oe.dict r
def aBI.mono(e:bV F F')(h:aBI F d r):aBI F' d r:=by
 cases r with
 |none=>exact h
 |int i=>let(dx,h1,h2):=h;exact(dx,h1,e _ _ h2,)
 |_=>exact h
variable {K:FrG}
def xY.mono(e:bV F F')(h:xY K F a c r):xY K F' a c r:=by let(C,oe,h1,h2,h3,h4,h5):=h;exact(C,oe,e _ _ h1,h2,h3,h4,h5.mono e,)
section
variable (K:FrG)(F:Hp)
mutual
inductive Den:D->V->Prop
 |non:Den .none .non
 |bl (b:Bool):Den (.bool b) (.bl b)
 |int (i:Int):Den (.int i) (.int i)
 |str (x:Str):Den (.str x) (.str x)
 |lst {a:qw}{xs:List V}{ds:List D}:bT K F a xs->DenL ds xs->Den (.list ds) (.ref a)
 |tup {a:qw}{xs:List V}{ds:List D}:cE K F a xs->DenL ds xs->Den (.tuple ds) (.ref a)
 |exc {a:qw}{c:Str}{r:D}:xY K F a c r->Den (.dict [(.str c,r)]) (.ref a)
inductive DenL:List D->List V->Prop
 |nil:DenL [] []
 |cons {d:D}{ds:List D}{x:V}{xs:List V}:Den d x->DenL ds xs->DenL (d::ds) (x::xs)
end
end
def kI{xs:List V}(e:bV H H')(h:cE K H a xs):cE K H' a xs:=by
 rcases h with (h|⟨o,h⟩)|h
 .exact .inl (.inl (e _ _ h))
 .exact .inl (.inr (o,e _ _ h,))
 .exact .inr h
mutual
theorem Den.mono{K:FrG}{F F':Hp}(e:bV F F'):∀ {d:D}{v:V},Den K F d v->Den K F' d v
 |_,_,.non=>.non|_,_,.bl b=>.bl b|_,_,.int i=>.int i|_,_,.str x=>.str x|_,_,.lst h r=>.lst (e.seq h) (DenL.mono e r)|_,_,.tup h r=>.tup (kI e h) (DenL.mono e r)|_,_,.exc h=>.exc (h.mono e)
theorem DenL.mono{K:FrG}{F F':Hp}(e:bV F F'):∀ {ds:List D}{xs:List V},DenL K F ds xs->DenL K F' ds xs
 |_,_,.nil=>.nil|_,_,.cons h r=>.cons (Den.mono e h) (DenL.mono e r)
end
section
variable {K:FrG}{F:Hp}
def DenL.length:∀ {ds:List D}{xs:List V},DenL K F ds xs->↑ds=↑xs
 |_,_,.nil=>rfl|_,_,.cons _ r=>congrArg (· + 1) (DenL.length r)
def DenL.get:∀ {ds:List D}{xs:List V}{i:Nat}{d:D},DenL K F ds xs->ds[i]?=qz d->∃ x,xs[i]?=qz x/\Den K F d x
 |_,_,_,_,.nil,e=>by simp at e|_,_,0,_,.cons h _,e=>by simp at e;subst e;exact(_,rfl,h,)
 |_,_,i+1,d,.cons _ r,e=>by
   let(x,h1,h2):=DenL.get (i:=i) (d:=d) r (e:);exact(x,by simpa using h1,h2,)
def DenL.append:∀ {ds es:List D}{xs ys:List V},DenL K F ds xs->DenL K F es ys->DenL K F (ds++es) (xs++ys)
 |_,_,_,_,.nil,s=>s|_,_,_,_,.cons h r,s=>.cons h (DenL.append r s)
def DenL.take:∀ {ds:List D}{xs:List V} (n:Nat),DenL K F ds xs->DenL K F (ds.take n) (xs.take n)
 |_,_,0,_=>.nil|_,_,_+1,.nil=>.nil|_,_,n+1,.cons h r=>.cons h (DenL.take n r)
def DenL.drop:∀ {ds:List D}{xs:List V} (n:Nat),DenL K F ds xs->DenL K F (ds.drop n) (xs.drop n)
 |_,_,0,r=>r|_,_,_+1,.nil=>.nil|_,_,n+1,.cons _ r=>DenL.drop n r
def DenL.set:∀ {ds:List D}{xs:List V} (i:Nat) {d:D}{x:V},DenL K F ds xs->Den K F d x->DenL K F (ds.set i d) (xs.set i x)
 |_,_,_,_,_,.nil,_=>.nil|_,_,0,_,_,.cons _ r,h=>.cons h r|_,_,i+1,_,_,.cons q r,h=>.cons q (DenL.set i r h)
def DenL.reverse:∀ {ds:List D}{xs:List V},DenL K F ds xs->DenL K F ds.reverse xs.reverse
 |_,_,.nil=>.nil
 |_,_,.cons h r=>by
   rw[List.reverse_cons,List.reverse_cons];exact DenL.append (DenL.reverse r) (.cons h .nil)
def DenL.rep{ds:List D}{xs:List V}(h:DenL K F ds xs):∀ n:Nat,DenL K F (yAe n ds).flatten (yAe n xs).flatten
 |0=>.nil
 |n+1=>by
   rw[yAy,yAy,yDh,yDh];exact h.append (DenL.rep h n)
def DenL.of_ints:∀ (ns:List Int),DenL K F (ns.map yAo) (ns.map V.int)
 |[]=>.nil|n::r=>.cons (.int n) (DenL.of_ints r)
end
def kD:aZ->D
 |.inl i=>.int i|.inr x=>.str x
def lZ(p:List aZ×Int):D:=.tuple [.tuple (p.1.map kD),.int p.2]
structure Rel(K:FrG)(F:Hp)(L:Lx)(S:aC)(H:Hp):Prop where
 sub:bV F H
 nd:(ad L).Nodup
 len:↑L=↑S
 loc:∀ (n:Nat) (a:qw) (ds:List D),L[n]?=qz (a,false)->S[n]?=qz (qz ds)->F a=qx/\∃ xs,H a=qz (.lst xs)/\DenL K F ds xs
 dic:∀ (n:Nat) (a:qw) (ds:List D),L[n]?=qz (a,true)->S[n]?=qz (qz ds)->F a=qx/\∃ es:List (List aZ×Int),ds=es.map lZ/\H a=qz (.dT (es.map λ p=>(p.1,V.int p.2)))
 tr:∀ (n:Nat) (a:qw) (b:Bool),L[n]?=qz (a,b)->∃ o,H a=qz o/\(b=false->∃ xs,o=.lst xs)
def kJ(K:FrG)(F:Hp)(L:Lx):W0->V->Prop
 |.d x,v=>Den K F x v|.loc n,v=>∃ a,L[n]?=qz (a,false)/\v=.ref a|.dic n,v=>∃ a,L[n]?=qz (a,true)/\v=.ref a
noncomputable abbrev qZ(K:FrG)(F:Hp)(L:Lx):List W0->List V->Prop:=Paired (kJ K F L)
noncomputable abbrev nE(K:FrG)(F:Hp)(L:Lx):List (Str×W0)->List (Str×V)->Prop:=Paired λ p q=>p.1=q.1/\kJ K F L p.2 q.2
def dH(K:FrG)(F:Hp)(L:Lx):W->V->Prop
 |.d x,v=>Den K F x v|.loc n,v=>∃ a,L[n]?=qz (a,false)/\v=.ref a|.exc c r,v=>∃ a,v=.ref a/\xY K F a c r|.dic n,v=>∃ a,L[n]?=qz (a,true)/\v=.ref a|.ob fs,v=>∃ a C dx vs,v=.ref a/\F a=qz (.ins C dx vs)/\yCp K zk "Maker" = qz (qz (.ref C))/\nE K F L fs vs|.tpl ws,v=>∃ a vs,v=.ref a/\F a=qz (.tup vs)/\qZ K F L ws vs
structure EnvR(K:FrG)(F:Hp)(L:Lx)(env:aX)(σ:St):Prop where
 len:env.length=σ.length
 get:∀ (i:Nat) (w:W),env[i]?=qz (qz w)->∃ v,σ[i]?=qz (qz v)/\dH K F L w v
structure Gr(F:Hp)(L:Lx)(F':Hp)(L':Lx):Prop where
 f:bV F F'
 l:∃ M,L'=L++M
def Gr.refl:Gr F L F L:=(bV.refl _,[],by simp,)
def Gr.trans(a:Gr F L F' L')(b:Gr F' L' F'' L''):Gr F L F'' L'':=by let(f1,M,rfl):=a;let(f2,N,rfl):=b;exact(f1.trans f2,M++N,by rw[yAz],)
def Gr.get{F F':Hp}{L L':Lx}(g:Gr F L F' L'){n:Nat}{a:qw×Bool}(h:L[n]?=qz a):L'[n]?=qz a:=by let(_,M,rfl):=g;rw[xAm (gIm h).1];exact h
def kJ.mono(g:Gr F L F' L')(h:kJ K F L w v):kJ K F' L' w v:=by
 cases w with
 |d x=>exact Den.mono g.f h
 |loc n=>let(a,e,r):=h;exact(a,g.get e,r,)
 |dic n=>let(a,e,r):=h;exact(a,g.get e,r,)
def dH.mono(g:Gr F L F' L')(h:dH K F L w v):dH K F' L' w v:=by
 cases w with
 |d x=>exact Den.mono g.f h
 |loc n=>let(a,e,r):=h;exact(a,g.get e,r,)
 |exc c r=>let(a,e,h):=h;exact(a,e,h.mono g.f,)
 |dic n=>let(a,e,r):=h;exact(a,g.get e,r,)
 |ob fs=>let(a,C,dx,vs,e,h1,h2,h3):=h;exact(a,C,dx,vs,e,g.f _ _ h1,h2,L2.Paired.mapP h3 λ _ _ q=>(q.1,q.2.mono g,),)
 |tpl ws=>let(a,vs,e,h1,h3):=h;exact(a,vs,e,g.f _ _ h1,L2.Paired.mapP h3 λ _ _ q=>q.mono g,)
def EnvR.mono(g:Gr F L F' L')(h:EnvR K F L env σ):EnvR K F' L' env σ:=
 (h.len,λ i w e=>let ⟨v,e1,r⟩:=h.get i w e;(v,e1,r.mono g,),)
def EnvR.set(h:EnvR K F L env σ)(i:Nat)(r:dH K F L w v):EnvR K F L (env.set i (qz w)) (σ.set i (qz v)):=by
 refine(by rw[yBf,yBf];exact h.len,λ j u e=>?_,);by_cases hj:i=j
 .subst hj;have hl:i<env.length:=by
   rcases Nat.lt_or_ge i env.length with q|q
   .exact q
   .rw[yDs (by rw[yBf];exact q)] at e;cases e
  rw[yAq hl] at e;cases e;exact(v,yAq (by rw[<- h.len];exact hl),r,)
 .rw[yAt hj] at e;let(x,e1,r1):=h.get j u e;exact(x,by rw[yAt hj];exact e1,r1,)
def fY(h:H p=qx):bV H (bB H p o):=λ b u q=>by rw[bR (dZ q h)];exact q
def aDJ{L:Lx}{n:Nat}{a:qw}{b:Bool}(h:L[n]?=qz (a,b)):a∈ad L:=List.mem_map.mpr (_,xAk h,rfl,)
def Rel.inj{F H:Hp}{L:Lx}{S:aC}(r:Rel K F L S H){n m:Nat}{a:qw}{b c:Bool}(e:L[n]?=qz (a,b))(e1:L[m]?=qz (a,c)):n=m:=by
 have h1:(ad L)[n]?=qz a:=by rw[yAg,e];rfl
 have h2:(ad L)[m]?=qz a:=by rw[yAg,e1];rfl
 let(l1,g1):=gIm h1;let(l2,g2):=gIm h2;exact(List.getElem_inj r.nd).mp (g1.trans g2.symm)
def Rel.trl{F H:Hp}{L:Lx}{S:aC}(r:Rel K F L S H){n:Nat}{a:qw}(e:L[n]?=qz (a,false)):∃ xs,H a=qz (.lst xs):=by let(o,ho,h):=r.tr n a false e;let(xs,rfl):=h rfl;exact(xs,ho,)
def Rel.notin(r:Rel K F L S H)(h:H p=qx):p ∉ ad L:=λ hp=>by
 let(n,hn):=yDy hp;rw[yAg] at hn;cases e:L[n]? with
 |none=>rw[e] at hn;cases hn
 |some q=>
   rw[e] at hn;cases hn;let(o,ho,_):=r.tr n q.1 q.2 e;rw[h] at ho;cases ho
def Rel.new(r:Rel K F L S H)(h:H p=qx):Rel K (bB F p o) L S (bB H p o):=by
 have hF:F p=qx:=r.sub.free h;refine(λ b u q=>?_,r.nd,r.len,λ n a ds e1 e2=>?_,λ n a ds e1 e2=>?_,λ n a b e=>?_,)
 .by_cases hb:b=p
  .subst hb;rw[cO] at q ⊢;exact q
  .rw[bR hb] at q ⊢;exact r.sub _ _ q
 .let(f,xs,e3,dl):=r.loc n a ds e1 e2;have ne:a≠p:=dZ e3 h;exact(by rw[bR ne];exact f,xs,by rw[bR ne];exact e3,DenL.mono (fY hF) dl,)
 .let(f,es,e3,e4):=r.dic n a ds e1 e2;have ne:a≠p:=dZ e4 h;exact(by rw[bR ne];exact f,es,e3,by rw[bR ne];exact e4,)
 .let(o,hx,hy):=r.tr n a b e;exact(o,by rw[bR (dZ hx h)];exact hx,hy,)
def Gr.new(h:F p=qx):Gr F L (bB F p o) L:=(fY h,[],by simp,)
def Rel.lay(r:Rel K F L S H)(h:H p=qx):Rel K F L S (bB H p o):=by
 refine(λ b u q=>by rw[bR (dZ q (r.sub.free h))];exact r.sub _ _ q,r.nd,r.len,λ n a ds e1 e2=>?_,λ n a ds e1 e2=>?_,λ n a b e=>?_,)
 .let(f,xs,e3,dl):=r.loc n a ds e1 e2;exact(f,xs,by rw[bR (dZ e3 h)];exact e3,dl,)
 .let(f,es,e3,e4):=r.dic n a ds e1 e2;exact(f,es,e3,by rw[bR (dZ e4 h)];exact e4,)
 .let(o,hx,hy):=r.tr n a b e;exact(o,by rw[bR (dZ hx h)];exact hx,hy,)
def Rel.adoptO(r:Rel K F L S H)(hF:F p=qx)(hL:p ∉ ad L)(hH:H p=qz o):Rel K (bB F p o) L S H:=by
 refine(λ b u q=>?_,r.nd,r.len,λ n a ds e1 e2=>?_,λ n a ds e1 e2=>?_,r.tr,)
 .by_cases hb:b=p
  .subst hb;rw[cO] at q;rw[hH];exact q
  .rw[bR hb] at q;exact r.sub _ _ q
 .let(f,ys,e3,dl):=r.loc n a ds e1 e2;have ne:a≠p:=λ z=>hL (by rw[<- z];exact aDJ e1)
  exact(by rw[bR ne];exact f,ys,e3,dl.mono (fY hF),)
 .let(f,es,e3,e4):=r.dic n a ds e1 e2;have ne:a≠p:=λ z=>hL (by rw[<- z];exact aDJ e1)
  exact(by rw[bR ne];exact f,es,e3,e4,)
def Rel.adopt(r:Rel K F L S H){xs:List V}(hF:F p=qx)(hL:p ∉ ad L)(hH:H p=qz (.lst xs)):Rel K (bB F p (.lst xs)) L S H:=r.adoptO hF hL hH
def Rel.adoptC(r:Rel K F L S H)(hL:p ∉ ad L)(hp:∃ o,H p=qz o/\(b=false->∃ xs,o=.lst xs))(h0:b=false->F p=qx/\∃ xs,H p=qz (.lst xs)/\DenL K F ds xs)(h1:b=true->F p=qx/\∃ es:List (List aZ×Int),ds=es.map lZ/\H p=qz (.dT (es.map λ p=>(p.1,V.int p.2)))):Rel K F (L++[(p,b)]) (S++[qz ds]) H:=by
 have last:∀ {n:Nat}{a:qw}{c:Bool}{es:List D},(L++[(p,b)])[n]?=qz (a,c)->(S++[qz ds])[n]?=qz (qz es)->(L[n]?=qz (a,c)/\S[n]?=qz (qz es))\/(a=p/\c=b/\es=ds):=λ {n a c es} e1 e2=>by
  by_cases hn:n<↑L
  .rw[xAm hn] at e1;rw[xAm (by rw[<- r.len];exact hn)] at e2;exact .inl (e1,e2,)
  .rw[yAi (!_)] at e1;rw[yAi (by rw[<- r.len];omega)] at e2;have z:n-↑L=0:=by
    have:=(gIm e1).1;simp at this;omega
   rw[<- r.len] at e2;rw[z] at e1 e2;cases e1;cases e2;exact .inr (rfl,rfl,rfl,)
 refine(r.sub,?_,by rw[xAn,xAn,r.len]<;>rfl,λ n a es e1 e2=>?_,λ n a es e1 e2=>?_,λ n a c e=>?_,)
 .simp only[ad,yAx];rw[List.nodup_append];refine(r.nd,by simp,λ a ha b hb=>?_,);have hb:b=p:=(hb:)
  subst hb;exact λ z=>hL (z▸ha)
 .rcases last e1 e2 with ⟨q1,q2⟩|⟨rfl,q2,rfl⟩
  .exact r.loc n a es q1 q2
  .exact h0 q2.symm
 .rcases last e1 e2 with ⟨q1,q2⟩|⟨rfl,q2,rfl⟩
  .exact r.dic n a es q1 q2
  .exact h1 q2.symm
 .by_cases hn:n<↑L
  .rw[xAm hn] at e;exact r.tr n a c e
  .rw[yAi (!_)] at e;have h1:=xAk e;rw[yFv] at h1;cases h1;exact hp
def Rel.adoptLoc(r:Rel K F L S H){xs:List V}(hF:F p=qx)(hL:p ∉ ad L)(hH:H p=qz (.lst xs))(dl:DenL K F ds xs):Rel K F (L++[(p,false)]) (S++[qz ds]) H:=
 r.adoptC hL (_,hH,λ _=>(xs,rfl,),) (λ _=>(hF,xs,hH,dl,)) λ z=>(nomatch z)
def Rel.newLoc(r:Rel K F L S H){xs:List V}(h:H p=qx)(dl:DenL K F ds xs):Rel K F (L++[(p,false)]) (S++[qz ds]) (bB H p (.lst xs)):=
 (r.lay h).adoptLoc (r.sub.free h) (r.notin h) cO dl
def Rel.newDic(r:Rel K F L S H)(h:H p=qx):Rel K F (L++[(p,true)]) (S++[qz []]) (bB H p (.dT [])):=
 (r.lay h).adoptC (r.notin h) (_,cO,λ z=>(nomatch z),) (λ z=>(nomatch z)) λ _=>(r.sub.free h,[],rfl,cO,)
def Gr.newLoc:Gr F L F (L++[p]):=(bV.refl _,[p],rfl,)
def Rel.putC(r:Rel K F L S H)(e:L[n]?=qz (a,c))(hF:F a=qx)(h0:c=false->∃ ys,o=.lst ys/\DenL K F es ys)(h1:c=true->∃ ks:List (List aZ×Int),es=ks.map lZ/\o=.dT (ks.map λ p=>(p.1,V.int p.2))):Rel K F L (S.set n (qz es)) (bB H a o):=by
 have hl:n<↑S:=by rw[<- r.len];exact(gIm e).1
 refine(λ b u q=>by rw[bR (dZ q hF)];exact r.sub _ _ q,r.nd,by rw[yBf];exact r.len,λ m b fs e1 e2=>?_,λ m b fs e1 e2=>?_,λ m b d e1=>?_,)
 .by_cases hm:n=m
  .subst hm;rw[e] at e1;cases e1;rw[yAq hl] at e2;cases e2;let(ys,rfl,dl):=h0 rfl;exact(hF,ys,cO,dl,)
  .rw[yAt hm] at e2;have ne:b≠a:=λ z=>hm (r.inj e (z▸e1))
   let(f,xs,e3,d3):=r.loc m b fs e1 e2;exact(f,xs,by rw[bR ne];exact e3,d3,)
 .by_cases hm:n=m
  .subst hm;rw[e] at e1;cases e1;rw[yAq hl] at e2;cases e2;let(ks,h2,rfl):=h1 rfl;exact(hF,ks,h2,cO,)
  .rw[yAt hm] at e2;have ne:b≠a:=λ z=>hm (r.inj e (z▸e1))
   let(f,xs,e3,d3):=r.dic m b fs e1 e2;exact(f,xs,e3,by rw[bR ne];exact d3,)
 .by_cases hb:b=a
  .subst hb;obtain rfl:n=m:=r.inj e e1;rw[e] at e1;cases e1;exact(o,cO,λ z=>(h0 z).imp λ _ q=>q.1,)
  .let(zs,hz,hy):=r.tr m b d e1;exact(zs,by rw[bR hb];exact hz,hy,)
def Rel.put(r:Rel K F L S H)(e:L[n]?=qz (a,false))(hF:F a=qx)(dl:DenL K F es ys):Rel K F L (S.set n (qz es)) (bB H a (.lst ys)):=
 r.putC e hF (λ _=>(ys,rfl,dl,)) λ z=>(nomatch z)
def Rel.freeze{F H:Hp}{L:Lx}{S:aC}(r:Rel K F L S H){n:Nat}{a:qw}{ds:List D}(e:L[n]?=qz (a,false))(es:S[n]?=qz (qz ds)) :
 ∃ F',Gr F L F' L/\Rel K F' L (S.set n qx) H/\Den K F' (.list ds) (.ref a):=by
 let(hF,xs,e3,dl):=r.loc n a ds e es;have hl:n<↑S:=(gIm es).1;refine(bB F a (.lst xs),Gr.new hF,(λ b u q=>?_,r.nd,by rw[yBf];exact r.len,λ m b fs e1 e2=>?_,λ m b fs e1 e2=>?_,r.tr,),.lst (bT.of cO) (dl.mono (fY hF)),)
 .by_cases hb:b=a
  .subst hb;rw[cO] at q;rw[e3];exact q
  .rw[bR hb] at q;exact r.sub _ _ q
 .by_cases hm:n=m
  .subst hm;rw[yAq hl] at e2;cases e2
  .rw[yAt hm] at e2;have ne:b≠a:=λ z=>hm (r.inj e (z▸e1))
   let(f,ys,e4,d4):=r.loc m b fs e1 e2;exact(by rw[bR ne];exact f,ys,e4,d4.mono (fY hF),)
 .by_cases hm:n=m
  .subst hm;rw[yAq hl] at e2;cases e2
  .rw[yAt hm] at e2;have ne:b≠a:=λ z=>hm (r.inj e (z▸e1))
   let(f,ys,e4,d4):=r.dic m b fs e1 e2;exact(by rw[bR ne];exact f,ys,e4,d4,)
def Rel.cut(r:Rel K F (L++M) S H):Rel K F L (S.take ↑L) H:=by
 have hl:↑L<=↑S:=by have:=r.len;rw[xAn] at this;omega
 have nd:=r.nd;simp only[ad,yAx] at nd;have lt:∀ {n:Nat}{q:qw×Bool},L[n]?=qz q->n<↑L:=λ e=>(gIm e).1
 refine(r.sub,(List.nodup_append.mp nd).1,by rw[yBo];omega,λ n a ds e1 e2=>?_,λ n a ds e1 e2=>?_,λ n a b e1=>?_,)
 .rw[yEa (lt e1)] at e2;exact r.loc n a ds (by rw[xAm (lt e1)];exact e1) e2
 .rw[yEa (lt e1)] at e2;exact r.dic n a ds (by rw[xAm (lt e1)];exact e1) e2
 .exact r.tr n a b (by rw[xAm (lt e1)];exact e1)
def bX(K:FrG)(F H:Hp)(x:D)(v:V):Prop:=Den K F x v\/∃ ds a xs,x=.list ds/\v=.ref a/\H a=qz (.lst xs)/\DenL K F ds xs
def fA:List W0->Option (List D)
 |[]=>qz []|.d x::r=>(fA r).map (x :: ·)|_=>qx
def dr(S:aC):W->Option D
 |.d x=>qz x
 |.loc n=>match S[n]? with
   |some (qz ds)=>qz (.list ds)|_=>qx
 |.tpl ws=>(fA ws).map yAv|_=>qx
def vK:∀ {ws:List W0}{vs:List V}{ds:List D},qZ K F L ws vs->fA ws=qz ds->DenL K F ds vs
 |[],_,_,.nil,e=>by cases e;exact .nil
 |.d x::ws,_,ds,.cons h r,e=>by
   cases q:fA ws with
   |none=>rw[fA,q] at e;cases e|some es=>rw[fA,q] at e;cases e;exact .cons h (vK r q)
 |.loc n::ws,_,ds,.cons h r,e=>by cases e|.dic n::ws,_,ds,.cons h r,e=>by cases e
def wd:W->Option D
 |.d x=>qz x|.tpl ws=>(fA ws).map yAv|_=>qx
def aAU(h:dH K F L w v)(e:wd w=qz x):Den K F x v:=by
 cases w with
 |d y=>cases e;exact h
 |tpl ws=>
   let(a,vs,rfl,h1,h2):=h;cases q:fA ws with
   |none=>rw[wd,q] at e;cases e|some ds=>rw[wd,q] at e;cases e;exact .tup (.inl (.inl h1)) (vK h2 q)
 |exc c r=>cases e|dic n=>cases e|ob fs=>cases e|loc n=>cases e
def jJ(r:Rel K F L S H)(h:dH K F L w v)(e:dr S w=qz x):bX K F H x v:=by
 cases w with
 |d y=>cases e;exact .inl h|exc c r=>cases e|dic n=>cases e|ob fs=>cases e
 |tpl ws=>
   let(a,vs,rfl,h1,h2):=h;cases q:fA ws with
   |none=>rw[dr,q] at e;cases e|some ds=>rw[dr,q] at e;cases e;exact .inl (.tup (.inl (.inl h1)) (vK h2 q))
 |loc n=>
   let(a,e1,rfl):=h;cases e2:S[n]? with
   |none=>simp[dr,e2] at e
   |some o=>
     cases o with
     |none=>simp[dr,e2] at e
     |some ds=>
       simp[dr,e2] at e;subst e;let(f,xs,e3,dl):=r.loc n a ds e1 e2;exact .inr (ds,a,xs,rfl,rfl,e3,dl,)
def bX.non(h:bX K F H .none v):v=.non:=by
 rcases h with h|⟨_,_,_,e,_⟩
 .cases h;rfl
 .cases e
def bX.bl(h:bX K F H (.bool b) v):v=.bl b:=by
 rcases h with h|⟨_,_,_,e,_⟩
 .cases h;rfl
 .cases e
def bX.int{i:Int}(h:bX K F H (.int i) v):v=.int i:=by
 rcases h with h|⟨_,_,_,e,_⟩
 .cases h;rfl
 .cases e
def bX.str(h:bX K F H (.str x) v):v=.str x:=by
 rcases h with h|⟨_,_,_,e,_⟩
 .cases h;rfl
 .cases e
def bX.lst{F H:Hp}{v:V}{ds:List D}(s:bV F H)(h:bX K F H (.list ds) v):∃ a xs,v=.ref a/\bT K H a xs/\DenL K F ds xs:=by
 rcases h with h|⟨_,a,xs,e,e2,e3,dl⟩
 .cases h with|lst q r=>exact(_,_,rfl,s.seq q,r,)
 .cases e;exact(a,xs,e2,bT.of e3,dl,)
def bX.tup{F H:Hp}{v:V}{ds:List D}(s:bV F H)(h:bX K F H (.tuple ds) v):∃ a xs,v=.ref a/\cE K H a xs/\DenL K F ds xs:=by
 rcases h with h|⟨_,_,_,e,_⟩
 .cases h with|tup q r=>exact(_,_,rfl,kI s q,r,)
 .cases e
def aNJ:fillsNumberSlot (.type "tuple") "mul" = pure false:=
 PySem.fillsNumberSlot_seq (id:="tuple.__mul__") (r:=qz (.builtin "tuple.__rmul__")) PySem.F.slot_tuple_mul.lookup (by decide +kernel) PySem.F.slot_tuple_rmul.lookup (by decide +kernel)
def aN5:seqRepeat? (.type "tuple")=pure (qz (.builtin "tuple.__mul__")):=by unfold seqRepeat?;rw[PySem.seqSlot_of (T:="tuple") (name:="__mul__") (id:="tuple.__mul__") PySem.F.slot_tuple_mul.lookup (by decide +kernel),PySem.seqSlot_of (T:="tuple") (name:="__rmul__") (id:="tuple.__rmul__") PySem.F.slot_tuple_rmul.lookup (by decide +kernel)];rfl
def aNR(a:Int)(t:Tok)(l:qw)(aN:Array qj)(n:Nat)(d:Option qw)(sl:Array (Option qj)) :
 Meets (Builtin.«int.__rmul__» ([.int a t,.ref l],[],)) (λ _ R s=>s.heap.get? l=qz {cls:=.type "tuple",dict:=d,data:=.seq aN n,slots:=sl }/\R (.ok (.ret Value.notImplemented)) s):=
 .of_wp λ prog w A R s h=>by let(hp,g,d,tk,os):=s;let(hl,h):=h;wp_walk;exact(_,rfl,h,)
def aNS(l:qw)(aN:Array qj)(n:Nat)(d:Option qw)(sl:Array (Option qj))(t:Tok) :
 Meets (Builtin.«tuple.__mul__» ([.ref l,.int 1 t],[],)) (λ _ R s=>s.heap.get? l=qz {cls:=.type "tuple",dict:=d,data:=.seq aN n,slots:=sl }/\R (.ok (.ret (.ref l))) s):=
 .of_wp λ prog w A R s h=>by
  let(hp,g,d,tk,os):=s;let(hl,h):=h
  wp_walk
  exact(_,rfl,h,)
def aNO(l:qw)(x:qj)(n:Nat)(d:Option qw)(sl:Array (Option qj))(t:Tok) :
 Meets (Builtin.«tuple.__mul__» ([.ref l,.int 0 t],[],)) (λ _ R s=>s.heap.get? l=qz {cls:=.type "tuple",dict:=d,data:=.seq #[x] n,slots:=sl }/\R (.ok (.ret (.ref s.heap.objs.size))) {s with heap:=s.heap.push {cls:=.type "tuple",data:=.seq #[] } }):=
 .of_wp λ prog w A R s h=>by
  let(hp,g,d,tk,os):=s;let(hl,h):=h
  wp_walk
  exact(_,rfl,h,)
def aAd(x:qj):∀ (k:Nat) (aO:Array qj),(yAe k #[x]).foldl (· ++ ·) aO=aO++(yAe k x).toArray
 |0,aO=>by simp
 |k+1,aO=>by
   rw[yAy,yCl,aAd x k];apply Array.ext';simp[yAy]
def aNT(l:qw)(x:qj)(n:Nat)(d:Option qw)(sl:Array (Option qj))(k:Nat)(hk:2<=k)(hk2:k<=1000)(t:Tok) :
 Meets (Builtin.«tuple.__mul__» ([.ref l,.int k t],[],)) (λ _ R s=>s.heap.get? l=qz {cls:=.type "tuple",dict:=d,data:=.seq #[x] n,slots:=sl }/\R (.ok (.ret (.ref s.heap.objs.size))) {s with heap:=s.heap.push {cls:=.type "tuple",data:=.seq (yAe k x).toArray } }):=
 .of_wp λ prog w A R s h=>by
  let(hp,g,d,tk,os):=s;let(hl,h):=h;have c1:(decide (((k:Nat):Int) < -(2^63))||decide (((k:Nat):Int) ≥ 2^63))=false:=by simp;omega
  have c2:(((k:Nat):Int)==1)=false:=by rw[beq_eq_false_iff_ne];omega
  have c3:decide (((k:Nat):Int)<=0)=false:=dqF (!_);have c4:((#[x]:Array qj).isEmpty||(((k:Nat):Int)==1))=false:=by rw[c2];rfl
  have c5:(decide (((k:Nat):Int)<=0)||(#[x]:Array qj).isEmpty)=false:=by rw[c3];rfl
  have c6:¬ (((#[x]:Array qj).size:Int)*((k:Nat):Int)>(2^63-1)/8):=by
   show ¬ (((1:Nat):Int)*((k:Nat):Int)>(2^63-1)/8);omega
  have hsz:qk=16777216:=by decide
  have c7:yHk (((#[x]:Array qj).size:Int)*((k:Nat):Int))=false:=by
   unfold yHk;refine dqF ?_;show ¬ (((1:Nat):Int)*((k:Nat):Int)>((qk:Nat):Int));omega
  wp_walk
  rw[if_neg (by rw[c1];exact yAu)];refine wB (wpAny_tupleItemsOf hl rfl ?_);simp only[c4,c5,c6,c7,yAm,if_false];rw[yAr,aAd,show(#[]:Array qj)++(yAe k x).toArray=(yAe k x).toArray by simp];refine wB (m:=yCz _) (xw (wP (_,rfl,h,)) ?_);show(yAe k x).toArray.size<=qk;rw[yAh,yEt,hsz];omega
section
variable {X:Cx}{aB:List (qw×Obj)}{σ:L2.St}{H:Hp}{s:qv}{Q:VK}
def aIf(r:aU x u):∀ k:Nat,aT (yAe k x) (yAe k u)
 |0=>.nil|k+1=>.cons r (aIf r k)
def aZK(I:Inv X aB σ H s)(ha:cE X.K H a [x])(hk:k<=1000)(q1:k=1->Q (.ref a) H)(q:∀ p,H p=qx->Q (.ref p) (bB H p (.tup (yAe k x)))):qu (model X.prog X.w) X.A (zu .Mult (.ref a) (.int k t)) (EP X aB σ Q) X.xe s:=by
 let(aG,r1,p1,_):=I.tuple ha;obtain⟨u,rfl,ru⟩:∃ u,aG=[u]/\aU x u:=by
  cases r1 with
  |cons r r'=>cases r';exact(_,rfl,r,)
 let((cls,d,data,sl),ho,hcl,n,hd):=p1;simp only at hcl hd;subst hcl hd;have hsz:qk=16777216:=by decide
 have cG:∀ (aG:List qj),aG=yAe k u->EP X aB σ Q (.ref s.heap.objs.size) {s with heap:=s.heap.push {cls:=.type "tuple",data:=.seq aG.toArray } }:=λ aG e=>by
  subst e;exact(.ref _,_,I.laid (t':=s.toks) (o:=.tup (yAe k x)) (λ b ob q=>hpS _ q) (yAb _) (by rw[yEt,hsz];omega,_,aIf ru k,(_,xAd _ rfl,rfl,0,rfl,),),rfl,q _ (I.hok.fresh (yAb _)),)
 refine yq (T:="tuple") (U:="int") (·) (_,ho,rfl,) (λ s'=>wj s' k t) aNJ PySem.F.fills_int_mul yEu aN5 PySem.F.slot_int_index.lookup
  (xo yEu (wj s k t) PySem.F.entry_int_rmul (PySem.F.args_int_rmul_2 _ _) (aNR k t a _ n d sl)
    (ho,rfl,(_,ho,rfl,),?_,))
 by_cases h1:k=1
 .subst h1;exact xo yGg (_,ho,rfl,) yFw (yFp _ _) (aNS a _ n d sl t) (ho,.ref a,H,I,rfl,q1 rfl,)
 .by_cases h0:k=0
  .subst h0;exact xo yGg (_,ho,rfl,) yFw (yFp _ _) (aNO a u n d sl t) (ho,cG [] rfl,)
  .exact xo yGg (_,ho,rfl,) yFw (yFp _ _) (aNT a u n d sl k (!_) hk t) (ho,cG _ rfl,)
end
def oW(i j:Int):Bool:=!(decide (yAn i>vo)&&decide (yAn j>vo)&&Builtin.Int.intTooBig (yAn i+yAn j))
def xL{α:Type}(n:Nat)(xs:List α):List α:=(yAe n xs).flatten
def aED:D->D->Option D
 |.int i,.int j=>qz (.int (i+j))
 |.str x,.str y=>if x.length+y.length<=qk then qz (.str (x++y)) else qx
 |.tuple [],.tuple ys=>qz (.tuple ys)
 |.tuple xs,.tuple ys=>if xs.isEmpty=false/\↑xs+↑ys<=qk then qz (.tuple (xs++ys)) else qx
 |.list xs,.list ys=>if ↑xs+↑ys<=qk then qz (.list (xs++ys)) else qx
 |_,_=>qx
def aEJ:D->D->Option D
 |.int i,.int j=>if oW i j=true then qz (.int (i*j)) else qx
 |.list xs,.int k=>if k<2^63 /\ -(2^63)<=k/\↑xs*k.toNat<=qk then qz (.list (xL k.toNat xs)) else qx
 |.tuple [x],.int k=>if 0<=k/\k<=1000 then qz (.tuple (yAe k.toNat x)) else qx
 |_,_=>qx
def i2{α:Type}(f:Int->Int->Option α):D->D->Option α
 |.int i,.int j=>f i j|_,_=>qx
def lK{α:Type}{f:Int->Int->Option α}{i j:Int}:i2 f (.int i) (.int j)=f i j:=rfl
def iV{α:Type}{f:Int->Int->Option α}{z:α}(h:i2 f x y=qz z):∃ i j,x=.int i/\y=.int j/\f i j=qz z:=by
 cases x<;>first|(cases h;done)|skip
 cases y<;>first|(cases h;done)|exact(_,_,rfl,rfl,h,)
def jM:D->Bool
 |.none=>true|_=>false
def aHD(h:jM x=true):x=.none:=by cases x<;>first|rfl|cases h
def bW(op:ju)(x y:D):Option D:=match op with
 |.Add=>aED x y|.Sub=>i2 (λ i j=>qz (.int (i-j))) x y|.Mult=>aEJ x y|.MatMult=>qx|.Div=>qx
 |.Mod=>i2 (λ i j=>if j≠0 then qz (.int (i.fmod j)) else qx) x y
 |.Pow=>i2 (λ i j=>if 0<=j/\j<=1000000/\i.natAbs<2^64 then qz (.int (i^j.toNat)) else qx) x y
 |.LShift=>i2 (λ i j=>if 0<=j/\(yAn i:Int)+j<=2^27 then qz (.int (i*2^j.toNat)) else qx) x y
 |.RShift=>i2 (λ i j=>if 0<=j then qz (.int (i/2^j.toNat)) else qx) x y
 |.BitOr=>i2 (λ i j=>qz (.int (yIf i j))) x y|.BitXor=>i2 (λ i j=>qz (.int (yHu i j))) x y|.BitAnd=>i2 (λ i j=>qz (.int (yEq i j))) x y
 |.FloorDiv=>i2 (λ i j=>if j≠0/\yDd i j=false then qz (.int (i.fdiv j)) else qx) x y
def rH:wq->D->Option D
 |.USub,.int i=>qz (.int (-i))|.Invert,.int i=>qz (.int (yBs i))|_,_=>qx
def jA:D->Bool
 |.none|.bool _|.int _|.str _=>true
 |_=>false
def lH:List D->Bool
 |[]=>true|d::r=>jA d&&lH r
def pP(x:D):List D->Bool
 |[]=>false|y::r=>yFa y x||pP x r
def aBm:D->Option (List D)
 |.list xs=>qz xs|.tuple xs=>qz xs|_=>qx
def tW:D->D->Option Bool
 |.bool a,.bool b=>qz (a==b)|_,_=>qx
def aHf(h:tW x y=qz b):∃ p q,x=.bool p/\y=.bool q/\b=(p==q):=by
 unfold tW at h;split at h
 .rename_i p q;exact(p,q,rfl,rfl,(Option.some.inj h).symm,)
 .cases h
def tJ(op:jz)(x y:D):Option Bool:=match op with
 |.Eq=>if x.canLay0=true/\y.canLay0=true/\x.depth<=60 then qz (yFa x y) else qx
 |.NotEq=>if x.canLay0=true/\y.canLay0=true/\x.depth<=60 then qz (!yFa x y) else qx
 |.Lt=>i2 (λ i j=>qz (decide (i<j))) x y|.LtE=>i2 (λ i j=>qz (decide (i<=j))) x y|.Gt=>i2 (λ i j=>qz (decide (j<i))) x y|.GtE=>i2 (λ i j=>qz (decide (j<=i))) x y
 |.Is=>if jM y=true then qz (jM x) else tW x y
 |.IsNot=>if jM y=true then qz (!jM x) else (tW x y).bind λ b=>qz (!b)
 |.In=>(aBm y).bind λ ys=>if jA x=true/\lH ys=true then qz (pP x ys) else qx
 |.NotIn=>(aBm y).bind λ ys=>if jA x=true/\lH ys=true then qz (!pP x ys) else qx
def pE:D->Option Bool
 |.none=>qz false|.bool b=>qz b|.int i=>qz (i != 0)
 |.str x=>if x.length<=qk then qz ((x.length:Int) != 0) else qx
 |.list xs=>qz (!xs.isEmpty)|.tuple xs=>qz (!xs.isEmpty)|.dict _=>qx
section
variable {X:Cx}{aB:List (qw×Obj)}{s:qv}{σ:L2.St}{H:Hp}{x y:V}{v u:qj}{Q:VK}{F:Hp}{L:Lx}{S:aC}{dx dy z:D}
abbrev gY(X:Cx)(F:Hp)(L:Lx)(S:aC)(z:D)(Q:VK):Prop:=∀ F' H' r,bV F F'->Rel X.K F' L S H'->Den X.K F' z r->Q r H'
abbrev aBQ(X:Cx)(F:Hp)(H:Hp)(zs:List D)(Q:VK):Prop:=∀ p xs,H p=qx->DenL X.K F zs xs->Q (.ref p) (bB H p (.lst xs))
def gY.here(R:Rel X.K F L S H)(q:gY X F L S z Q)(h:Den X.K F z r):Q r H:=q F H r (bV.refl _) R h
def aBQ.out{zs:List D}(R:Rel X.K F L S H)(q:gY X F L S (.list zs) Q):aBQ X F H zs Q:=λ p xs hp dl=>
 q _ _ _ (fY (R.sub.free hp)) (R.new hp) (.lst (bT.of cO) (dl.mono (fY (R.sub.free hp))))
def gY.tup{zs:List D}(R:Rel X.K F L S H)(q:gY X F L S (.tuple zs) Q){p:qw}{xs:List V}(hp:H p=qx)(dl:DenL X.K F zs xs):Q (.ref p) (bB H p (.tup xs)):=
 q _ _ _ (fY (R.sub.free hp)) (R.new hp) (.tup (cE.of cO) (dl.mono (fY (R.sub.free hp))))
def aZG{xs:List V}(I:Inv X aB σ H s)(ha:bT X.K H a xs)(hb:bT X.K H b ys)(hz:↑xs+↑ys<=qk)(q:∀ p,H p=qx->Q (.ref p) (bB H p (.lst (xs++ys)))):qu (model X.prog X.w) X.A (zu .Add (.ref a) (.ref b)) (EP X aB σ Q) X.xe s:=by
 let(aG,r1,p1,_):=I.list ha;let(iS,r2,p2,_):=I.list hb;let((cls,dd,data,sl),ho,hc,n,hd):=p1.isList;let((cls2,dd2,data2,sl2),ho2,hc2,n2,hd2):=p2.isList;simp only at hc hd hc2 hd2;subst hc hd hc2 hd2;have e:aG.toArray++iS.toArray=(aG++iS).toArray:=by simp
 refine concat_meets (_,ho,rfl,) (_,ho2,rfl,) noFill_list_add seq_list_add PySem.F.slot_list_add PySem.F.entry_list_add (PySem.F.args_list_add_2 _ _) (list_addW a b aG.toArray iS.toArray n n2 dd dd2 sl sl2 (by rw[yAh,yAh,<- r1.length,<- r2.length];exact hz)) (ho,ho2,?_,);rw[e];exact(.ref _,_,I.lnew (t':=s.toks) (r1.append r2) (by rw[xAn];omega),rfl,q _ I.fresh,)
def aM4{xs:List V}{k:Int}(I:Inv X aB σ H s)(ha:bT X.K H a xs)(h1 : -(2^63)<=k)(h2:k<2^63)(hz:↑xs*k.toNat<=qk)(q:∀ p,H p=qx->Q (.ref p) (bB H p (.lst (yAe k.toNat xs).flatten))):qu (model X.prog X.w) X.A (zu .Mult (.ref a) (.int k t)) (EP X aB σ Q) X.xe s:=by
 let(aG,r1,p1,_):=I.list ha;let((cls,d,data,sl),ho,hcl,n,hd):=p1.isList;simp only at hcl hd;subst hcl hd;have hsz:aG.toArray.size*k.toNat<=2^24:=by
  rw[yAh,<- r1.length];have:qk=2^24:=rfl;rw[<- this];exact hz
 refine yq (T:="list") (U:="int") (·) (_,ho,rfl,) (λ s'=>wj s' k t) noFill_list_mul PySem.F.fills_int_mul yEu repeat_list PySem.F.slot_int_index.lookup
  (xo yEu (wj s k t) PySem.F.entry_int_rmul (PySem.F.args_int_rmul_2 _ _) (lm_int_rmul_list_any k t a aG.toArray n d sl)
    ⟨ho,rfl,(_,ho,rfl,),xo PySem.F.slot_list_mul (_,ho,rfl,) PySem.F.entry_list_mul (PySem.F.args_list_mul_2 _ _)
     (lm_list_mul_any a aG.toArray n d sl k t (by simp[Builtin.List.listFitsIndex];omega) (!_) (by simp[yFo,qk];simpa using hsz))
     (ho,?_,)⟩)
 rw[listMul_foldl_if];exact(.ref _,_,I.lnew (t':=s.toks) (r1.rep k.toNat) (by rw[aS7,yHq];exact hz),rfl,q _ I.fresh,)
def aXe(I:Inv X aB σ H s)(ha:cE X.K H a [])(hb:cE X.K H b ys)(q:Q (.ref b) H):qu (model X.prog X.w) X.A (zu .Add (.ref a) (.ref b)) (EP X aB σ Q) X.xe s:=by let(aG,r1,p1,_):=I.tuple ha;let(iS,r2,p2,_):=I.tuple hb;cases r1;let((cls,dd,data,sl),ho,hc,n,hd):=p1;let((cls2,dd2,data2,sl2),ho2,hc2,n2,hd2):=p2;simp only at hc hd hc2 hd2;subst hc hd hc2 hd2;exact concat_meets (_,ho,rfl,) (_,ho2,rfl,) noFill_tuple_add seq_tuple_add yGf yFt (yFn _ _) (tuple_addW0 a b _ iS.toArray n n2 dd dd2 sl sl2 rfl) (ho,ho2,(.ref b,H,I,rfl,q,),)
def aU9(I:Inv X aB σ H s)(rx:aU x v)(ry:aU y u)(R:Rel X.K F L S H)(nx:bX X.K F H dx x)(ny:bX X.K F H dy y)(e:aED dx dy=qz z)(q:gY X F L S z Q) :
 qu (model X.prog X.w) X.A (zu .Add v u) (EP X aB σ Q) X.xe s:=by
 unfold aED at e;split at e
 .rename_i i j;cases e;exact aU2 aB s σ H x y v u Q I rx ry (i,j,nx.int,ny.int,q.here R (.int _),)
 .rename_i a b;split at e
  .rename_i c;cases e;exact aOP aB s σ H x y v u Q I rx ry (a,b,nx.str,ny.str,c,q.here R (.str _),)
  .cases e
 .rename_i ys;cases e;let(a,vs,rfl,h1,d1):=nx.tup R.sub;let(b,ws,rfl,h2,d2):=ny.tup R.sub;cases d1;cases rx;cases ry;refine aXe I h1 h2 (q F H _ (bV.refl _) R ?_);rcases ny with ny|⟨_,_,_,e,_⟩
  .exact ny
  .cases e
 .rename_i xs ys _;split at e
  .rename_i c;cases e;let(a,vs,rfl,h1,d1):=nx.tup R.sub;let(b,ws,rfl,h2,d2):=ny.tup R.sub;have hne:vs≠[]:=λ z=>by
    have:=d1.length;rw[z] at this;cases xs with
    |nil=>simp at c|cons _ _=>simp at this
   refine aTM aB s σ H _ _ v u Q I rx ry (a,b,vs,ws,rfl,rfl,h1,h2,hne,by rw[<- d1.length,<- d2.length];exact c.2,λ z=>?_,λ z p hp=>?_,)
   .have:ys=[]:=by
     have h:=d2.length;rw[z] at h;exact List.eq_nil_of_length_eq_zero h
    subst this;refine q F H _ (bV.refl _) R ?_;rw[yBi];rcases nx with nx|⟨_,_,_,e,_⟩
    .exact nx
    .cases e
   .exact q.tup R hp (d1.append d2)
  .cases e
 .rename_i xs ys;split at e
  .rename_i c;cases e;let(a,vs,rfl,h1,d1):=nx.lst R.sub;let(b,ws,rfl,h2,d2):=ny.lst R.sub;cases rx;cases ry;exact aZG I h1 h2 (by rw[<- d1.length,<- d2.length];exact c) λ p hp=>aBQ.out R q p _ hp (d1.append d2)
  .cases e
 .cases e
def aI1{F:Hp}{x:D}{v:V}(h:Den K F x v):∀ k:Nat,DenL K F (yAe k x) (yAe k v)
 |0=>.nil|k+1=>.cons h (aI1 h k)
def aVv(I:Inv X aB σ H s)(rx:aU x v)(ry:aU y u)(R:Rel X.K F L S H)(nx:bX X.K F H dx x)(ny:bX X.K F H dy y)(e:aEJ dx dy=qz z)(q:gY X F L S z Q) :
 qu (model X.prog X.w) X.A (zu .Mult v u) (EP X aB σ Q) X.xe s:=by
 unfold aEJ at e;split at e
 .rename_i i j;split at e
  .rename_i c;cases e;obtain rfl:=nx.int;obtain rfl:=ny.int;let(t,rfl):=rx;let(t',rfl):=ry;refine PyProof.Rows.mul_int (.int (i*j),H,I.tok _,(_,rfl,),q.here R (.int _),) ?_;unfold IntMulOk;unfold oW at c;intro z;rw[z] at c;cases c
  .cases e
 .rename_i xs k;split at e
  .rename_i c;cases e;let(a,vs,rfl,h1,d1):=nx.lst R.sub;obtain rfl:=ny.int;cases rx;let(t',rfl):=ry;exact aM4 I h1 c.2.1 c.1 (by rw[<- d1.length];exact c.2.2) λ p hp=>aBQ.out R q p _ hp (d1.rep _)
  .cases e
 .rename_i xd k;split at e
  .rename_i c;cases e;let(a,vs,rfl,h1,d1):=nx.tup R.sub;obtain rfl:=ny.int;cases rx;let(t',rfl):=ry;obtain⟨kk,rfl⟩:∃ kk:Nat,k=(kk:Nat):=(k.toNat,by omega,);rw[yAr] at q;cases d1 with
   |cons dx dn=>
     cases dn;refine aZK I h1 (!_) (λ hk=>?_) λ p hp=>gY.tup R q hp (aI1 dx kk)
     subst hk;refine q F H _ (bV.refl _) R ?_;rcases nx with nx|⟨_,_,_,z,_⟩
     .exact nx
     .cases z
  .cases e
 .cases e
def vW{C:Int->Int->Prop}{g:Int->Int->Int}(rule:dA X (zu op) (rI C λ i j=>.int (g i j))){i j:Int}(c:C i j)(I:Inv X aB σ H s)(rx:aU x v)(ry:aU y u)(R:Rel X.K F L S H)(nx:bX X.K F H (.int i) x)(ny:bX X.K F H (.int j) y)(q:gY X F L S (.int (g i j)) Q) :
 qu (model X.prog X.w) X.A (zu op v u) (EP X aB σ Q) X.xe s:=
 rule aB s σ H x y v u Q I rx ry (i,j,nx.int,ny.int,c,q.here R (.int _),)
def aAu{g:Int->Int->Int}(rule:dA X (zu op) (jW λ i j=>.int (g i j))){i j:Int}(I:Inv X aB σ H s)(rx:aU x v)(ry:aU y u)(R:Rel X.K F L S H)(nx:bX X.K F H (.int i) x)(ny:bX X.K F H (.int j) y)(q:gY X F L S (.int (g i j)) Q) :
 qu (model X.prog X.w) X.A (zu op v u) (EP X aB σ Q) X.xe s:=
 rule aB s σ H x y v u Q I rx ry (i,j,nx.int,ny.int,q.here R (.int _),)
def aRQ:dA X (zu .FloorDiv) (rI (λ i j=>j≠0/\yDd i j=false) λ i j=>.int (i.fdiv j)):=zD λ _ _ _ _ _ _ _ hc q=>floordiv_int hc.1 q (.inl hc.2)
def aYV:dA X (zu .LShift) (rI (λ i j=>0<=j/\(yAn i:Int)+j<=2^27) λ i j=>.int (i*2^j.toNat)):=zD λ _ _ _ _ _ _ _ hc q=>lshift_int hc.1 hc.2 q
def aJ{α β:Type}{o:Option α}{f:α->Option β}{b:β}(h:o.bind f=qz b):∃ a,o=qz a/\f a=qz b:=by
 cases o with
 |none=>cases h|some a=>exact(a,rfl,h,)
def nF{α:Type}{p:Prop} [Decidable p]{a z:α}(h:(if p then qz a else qx)=qz z):p/\a=z:=by
 split at h
 .rename_i c;cases h;exact(c,rfl,)
 .cases h
def aUa(I:Inv X aB σ H s)(rx:aU x v)(ry:aU y u)(R:Rel X.K F L S H)(nx:bX X.K F H dx x)(ny:bX X.K F H dy y)(e:bW op dx dy=qz z)(q:gY X F L S z Q) :
 qu (model X.prog X.w) X.A (zu op v u) (EP X aB σ Q) X.xe s:=by
 cases op with
 |Add=>exact aU9 I rx ry R nx ny e q|Mult=>exact aVv I rx ry R nx ny e q|MatMult=>cases e|Div=>cases e
 |Sub=>let(i,j,rfl,rfl,e):=iV e;cases e;exact aAu aWo I rx ry R nx ny q
 |BitAnd=>let(i,j,rfl,rfl,e):=iV e;cases e;exact aAu aUJ I rx ry R nx ny q
 |BitOr=>let(i,j,rfl,rfl,e):=iV e;cases e;exact aAu aYu I rx ry R nx ny q
 |BitXor=>let(i,j,rfl,rfl,e):=iV e;cases e;exact aAu aWc I rx ry R nx ny q
 |FloorDiv=>let(i,j,rfl,rfl,e):=iV e;let(c,rfl):=nF e;exact vW aRQ c I rx ry R nx ny q
 |Mod=>let(i,j,rfl,rfl,e):=iV e;let(c,rfl):=nF e;exact vW aR4 c I rx ry R nx ny q
 |Pow=>let(i,j,rfl,rfl,e):=iV e;let(c,rfl):=nF e;exact vW aUg c I rx ry R nx ny q
 |LShift=>let(i,j,rfl,rfl,e):=iV e;let(c,rfl):=nF e;exact vW aYV c I rx ry R nx ny q
 |RShift=>let(i,j,rfl,rfl,e):=iV e;let(c,rfl):=nF e;exact vW aWb c I rx ry R nx ny q
def aY5(I:Inv X aB σ H s)(rx:aU x v)(R:Rel X.K F L S H)(nx:bX X.K F H dx x)(e:rH op dx=qz z)(q:gY X F L S z Q) :
 qu (model X.prog X.w) X.A (unaryOp op v) (EP X aB σ Q) X.xe s:=by
 unfold rH at e;split at e
 .cases e;exact aWI aB s σ H x v Q I rx (_,nx.int,q.here R (.int _),)
 .cases e;exact aUL aB s σ H x v Q I rx (_,nx.int,q.here R (.int _),)
 .cases e
mutual
theorem aGJ(I:Inv X aB σ H s)(sb:bV F H):∀ {d:D}{x:V}{v:qj},Den X.K F d x->aU x v->d.canLay0=true->∃ as,Reads s.heap v d as
 |_,_,v,.non,r,_=>by cases (show v=Value.none from r);exact(_,.none,)
 |_,_,v,.bl b,r,_=>by cases (show v=Value.bool b from r);exact(_,.bool b,)
 |_,_,v,.int i,r,_=>by let(t,rfl):=(show ∃ t,v=Value.int i t from r);exact(_,.int i t,)
 |_,_,v,.str y,r,_=>by let(t,rfl):=(show ∃ t,v=Value.str y t from r);exact(_,.str y t,)
 |_,_,v,.lst (a:=a) h dl,r,c=>by
   cases (show v=Value.ref a from r);let(aG,rv,p1,_):=I.list (sb.seq h);let(o,ho,hc,n,hd):=p1.isList;let(as,ra):=zW I sb dl rv c;exact(_,.list ho hc hd (ra:),)
 |_,_,v,.exc _,_,c=>by cases c
 |_,_,v,.tup (a:=a) h dl,r,c=>by
   cases (show v=Value.ref a from r);let(aG,rv,p1,_):=I.tuple (kI sb h);let(o,ho,hc,n,hd):=p1;let(as,ra):=zW I sb dl rv c;exact(_,.tuple ho hc hd (ra:),)
theorem zW(I:Inv X aB σ H s)(sb:bV F H):∀ {ds:List D}{xs:List V}{us:List qj},DenL X.K F ds xs->aT xs us->yFb ds=true->∃ as,ReadsAll s.heap us ds as
 |_,_,_,.nil,r,_=>by cases r;exact(_,.nil,)
 |_,_,_,.cons h dl,.cons r rs,c=>by
   let(c1,c2):=Bool.and_eq_true_iff.mp c;let(as,ra):=aGJ I sb h r c1;let(bs,rb):=zW I sb dl rs c2;exact(_,.cons ra rb,)
end
def aAf(I:Inv X aB σ H s)(R:Rel X.K F L S H)(rx:aU x v)(nx:bX X.K F H dx x)(c:dx.canLay0=true):∃ as,Reads s.heap v dx as:=by
 rcases nx with nx|⟨ds,a,xs,rfl,rfl,e,dl⟩
 .exact aGJ I R.sub nx rx c
 .cases rx;let(aG,rv,p1,_):=I.list (bT.of e);let(o,ho,hc,n,hd):=p1.isList;let(as,ra):=zW I R.sub dl rv c;exact(_,.list ho hc hd (ra:),)
def aXx(hu:X.A.units+64<cLine)(I:Inv X aB σ H s)(rx:aU x v)(ry:aU y u)(R:Rel X.K F L S H)(nx:bX X.K F H dx x)(ny:bX X.K F H dy y)(c1:dx.canLay0=true)(c2:dy.canLay0=true)(c3:dx.depth<=60)(q:Q (.bl (yFa dx dy)) H):qu (model X.prog X.w) X.A (xk .Eq v u) (EP X aB σ Q) X.xe s:=by let(as,ra):=aAf I R rx nx c1;let(bs,rb):=aAf I R ry ny c2;refine SeqAt.compareEq_reads ra rb c1 c2 ?_ (.bl _,H,I,rfl,q,);have:min dx.depth dy.depth<=dx.depth:=yCn _ _;omega
def aZd(hu:X.A.units+64<cLine)(I:Inv X aB σ H s)(rx:aU x v)(ry:aU y u)(R:Rel X.K F L S H)(nx:bX X.K F H dx x)(ny:bX X.K F H dy y)(c1:dx.canLay0=true)(c2:dy.canLay0=true)(c3:dx.depth<=60)(q:Q (.bl (!yFa dx dy)) H):qu (model X.prog X.w) X.A (xk .NotEq v u) (EP X aB σ Q) X.xe s:=by let(as,ra):=aAf I R rx nx c1;let(bs,rb):=aAf I R ry ny c2;refine SeqAt.compareNe_reads ra rb c1 c2 ?_ (.bl _,H,I,rfl,q,);have:min dx.depth dy.depth<=dx.depth:=yCn _ _;omega
end
def aQN(h1:Den K F d x)(h2:Den K F e y)(f1:jA d=true)(f2:jA e=true):nU x y=yFa d e:=by
 cases h1<;>first|(simp[jA] at f1;done)|skip
 all_goals cases h2<;>first|(simp[jA] at f2;done)|rfl|skip
def aCW(h1:Den K F d x)(f1:jA d=true):lW x=true:=by cases h1<;>first|rfl|(simp[jA] at f1;done)
def aCV:∀ {ds:List D}{xs:List V},DenL K F ds xs->lH ds=true->xs.all lW=true
 |_,_,.nil,_=>rfl
 |_,_,.cons h r,f=>by
   simp only[lH,yAs] at f;rw[List.all_cons,aCW h f.1,aCV r f.2];rfl
def aDh(h2:Den K F e y)(f2:jA e=true):∀ {ds:List D}{xs:List V},DenL K F ds xs->lH ds=true->uB y xs=pP e ds
 |_,_,.nil,_=>rfl
 |_,_,.cons h r,f=>by
   simp only[lH,yAs] at f;have ih:=aDh h2 f2 r f.2;unfold uB at ih ⊢;rw[yEz,ih,aQN h h2 f.1 f2];rfl
section
variable {X:Cx}{aB:List (qw×Obj)}{s:qv}{σ:L2.St}{H:Hp}{x y:V}{v u:qj}{Q:VK}{F:Hp}{L:Lx}{S:aC}{dx dy:D}{b:Bool}
def bX.flat(h:bX X.K F H d z)(f:jA d=true):Den X.K F d z:=by
 rcases h with h|⟨ds,_,_,rfl,_⟩
 .exact h
 .simp[jA] at f
def aDs(sb:bV F H)(h:bX X.K F H d z)(e:aBm d=qz ys):∃ p xs,z=.ref p/\(bT X.K H p xs\/cE X.K H p xs)/\DenL X.K F ys xs:=by
 cases d with
 |list l=>cases e;let(a,xs,e1,q,dl):=h.lst sb;exact(a,xs,e1,.inl q,dl,)
 |tuple l=>cases e;let(a,xs,e1,q,dl):=h.tup sb;exact(a,xs,e1,.inr q,dl,)
 |_=>cases e
def aJF(R:Rel X.K F L S H)(nx:bX X.K F H dx x):decide (x=.non)=jM dx:=by
 cases dx with
 |none=>rw[nx.non];rfl|bool c=>rw[nx.bl];rfl|int c=>rw[nx.int];rfl|str c=>rw[nx.str];rfl
 |list c=>let(a,xs,rfl,_):=nx.lst R.sub;rfl
 |tuple c=>let(a,xs,rfl,_):=nx.tup R.sub;rfl
 |dict c=>
   rcases nx with h|⟨_,_,_,e,_⟩
   .cases h;rfl
   .cases e
def aUf(hu:X.A.units+64<cLine)(I:Inv X aB σ H s)(rx:aU x v)(ry:aU y u)(R:Rel X.K F L S H)(nx:bX X.K F H dx x)(ny:bX X.K F H dy y)(e:tJ op dx dy=qz b)(q:Q (.bl b) H) :
 qu (model X.prog X.w) X.A (xk op v u) (EP X aB σ Q) X.xe s:=by
 cases op with
 |Lt=>let(i,j,rfl,rfl,e):=iV e;cases e;exact aYr aB s σ H x y v u Q I rx ry (_,_,nx.int,ny.int,q,)
 |LtE=>let(i,j,rfl,rfl,e):=iV e;cases e;exact aXa aB s σ H x y v u Q I rx ry (_,_,nx.int,ny.int,q,)
 |Gt=>let(i,j,rfl,rfl,e):=iV e;cases e;exact aX9 aB s σ H x y v u Q I rx ry (_,_,nx.int,ny.int,q,)
 |GtE=>let(i,j,rfl,rfl,e):=iV e;cases e;exact aYA aB s σ H x y v u Q I rx ry (_,_,nx.int,ny.int,q,)
 |Eq=>let(c,rfl):=nF e;exact aXx hu I rx ry R nx ny c.1 c.2.1 c.2.2 q
 |NotEq=>let(c,rfl):=nF e;exact aZd hu I rx ry R nx ny c.1 c.2.1 c.2.2 q
 |Is=>
   have e':(if jM dy=true then qz (jM dx) else tW dx dy)=qz b:=e;by_cases c:jM dy=true
   .rw[if_pos c] at e';cases e';cases aHD c;exact aUh aB s σ H x y v u Q I rx ry (ny.non,by rw[aJF R nx];exact q,)
   .rw[if_neg c] at e';let(p1,p2,rfl,rfl,rfl):=aHf e';obtain rfl:=nx.bl;obtain rfl:=ny.bl;cases rx;cases ry;exact wpAny_is_plain rfl (aAR I q (by cases p1<;>cases p2<;>rfl))
 |IsNot=>
   have e':(if jM dy=true then qz (!jM dx) else (tW dx dy).bind λ b=>qz (!b))=qz b:=e;by_cases c:jM dy=true
   .rw[if_pos c] at e';cases e';cases aHD c;exact aSG aB s σ H x y v u Q I rx ry (ny.non,by rw[aJF R nx];exact q,)
   .rw[if_neg c] at e';let(b0,e1,e2):=aJ e';cases e2;let(p1,p2,rfl,rfl,rfl):=aHf e1;obtain rfl:=nx.bl;obtain rfl:=ny.bl;cases rx;cases ry;exact wpAny_isNot_plain rfl (aAR I q (by cases p1<;>cases p2<;>rfl))
 |In=>
   let(ys,hs,e):=aJ e;let(c,rfl):=nF e;let(p,xs,e1,sq,dl):=aDs R.sub ny hs;refine aPt aB s σ H x y v u Q I rx ry (p,xs,e1,sq,aCW (nx.flat c.1) c.1,aCV dl c.2,?_,);show Q (.bl (uB x xs)) H;rw[aDh (nx.flat c.1) c.1 dl c.2];exact q
 |NotIn=>
   let(ys,hs,e):=aJ e;let(c,rfl):=nF e;let(p,xs,e1,sq,dl):=aDs R.sub ny hs;refine aN0 aB s σ H x y v u Q I rx ry (p,xs,e1,sq,aCW (nx.flat c.1) c.1,aCV dl c.2,?_,);show Q (.bl (!uB x xs)) H;rw[aDh (nx.flat c.1) c.1 dl c.2];exact q
def aGp{xs:List V}(h:DenL K F ds xs):xs.isEmpty=ds.isEmpty:=by cases h<;>rfl
def aTy(R:Rel X.K F L S H)(nx:bX X.K F H dx x)(e:pE dx=qz b):aET X.K x H b:=by
 cases dx with
 |none=>cases e;rw[nx.non];exact rfl|bool c=>cases e;rw[nx.bl];exact rfl|int c=>cases e;rw[nx.int];exact rfl
 |str c=>
   rw[nx.str];have e':(if c.length<=qk then qz ((c.length:Int) != 0) else qx)=qz b:=e;split at e'
   .rename_i h;cases e';exact(h,rfl,)
   .cases e'
 |list c=>cases e;let(a,xs,rfl,sq,dl):=nx.lst R.sub;exact .inl (xs,sq,by rw[aGp dl],)
 |tuple c=>cases e;let(a,xs,rfl,sq,dl):=nx.tup R.sub;exact .inr (.inl (xs,sq,by rw[aGp dl],))
 |dict c=>cases e
end
abbrev FE:=aX->aC->Option (W×aC)
abbrev FT:=aX->aC->Option (Bool×aC)
abbrev FA:=aX->aC->Option (List W×aC)
abbrev FL:=aX->aC->Option (List D×aC)
inductive Fl where
 |nx (env:aX)|rt (w:W)|bk (env:aX)|ct (env:aX)
abbrev FS:=aX->aC->Option (Fl×aC)
inductive WDenL (K:FrG) (F:Hp) (L:Lx):List W->List V->Prop
 |nil:WDenL K F L [] []
 |cons {w:W}{ws:List W}{x:V}{xs:List V}:dH K F L w x->WDenL K F L ws xs->WDenL K F L (w::ws) (x::xs)
def WDenL.length:∀ {ws:List W}{xs:List V},WDenL K F L ws xs->↑ws=↑xs
 |_,_,.nil=>rfl|_,_,.cons _ r=>congrArg (· + 1) r.length
section
variable (K:FrG)
def aP(f:FE):TE:=λ σ H Q=>∃ F L S env w S',Rel K F L S H/\EnvR K F L env σ/\f env S=qz (w,S')/\∀ F' L' H' v,Gr F L F' L'->Rel K F' L' S' H'->dH K F' L' w v->Q v H'
def gZ(f:FT):TT:=λ σ H Q=>∃ F L S env b S',Rel K F L S H/\EnvR K F L env σ/\f env S=qz (b,S')/\∀ F' L' H',Gr F L F' L'->Rel K F' L' S' H'->Q b H'
def dQ(f:FA):TA:=λ σ H Q=>∃ F L S env ws S',Rel K F L S H/\EnvR K F L env σ/\f env S=qz (ws,S')/\∀ F' L' H' vs,Gr F L F' L'->Rel K F' L' S' H'->WDenL K F' L' ws vs->Q vs H'
def iO(f:FL):TE:=λ σ H Q=>∃ F L S env ds S',Rel K F L S H/\EnvR K F L env σ/\f env S=qz (ds,S')/\∀ F' L' H' p xs,Gr F L F' L'->Rel K F' L' S' H'->F' p=qx->p ∉ ad L'->H' p=qz (.lst xs)->DenL K F' ds xs->Q (.ref p) H'
def dL(f:FS):TS:=λ D σ H=>∃ F L S env fl S',Rel K F L S H/\EnvR K F L env σ/\f env S=qz (fl,S')/\∀ F' L' H',Gr F L F' L'->Rel K F' L' S' H'->match fl with|.nx aM=>∀ σ',EnvR K F' L' aM σ'->D.nx σ' H'|.rt w=>∀ v,dH K F' L' w v->D.rt v H'|.bk aM=>∀ σ',EnvR K F' L' aM σ'->D.bk σ' H'|.ct aM=>∀ σ',EnvR K F' L' aM σ'->D.ct σ' H'
end
def PE.weak{t t':TE}(h:PE X e t)(w:∀ σ H Q,t' σ H Q->t σ H Q):PE X e t':=λ aB s σ H Q I q=>h aB s σ H Q I (w σ H Q q)
def PT.weak{t t':TT}(h:PT X e t)(w:∀ σ H Q,t' σ H Q->t σ H Q):PT X e t':=λ aB s σ H Q I q=>h aB s σ H Q I (w σ H Q q)
def PW.weak{t t':TT}(h:PW X e t)(w:∀ σ H Q,t' σ H Q->t σ H Q):PW X e t':=λ wh aB s σ H Q I q=>h wh aB s σ H Q I (w σ H Q q)
def PA.weak{t t':TA}(h:PA X e t)(w:∀ σ H Q,t' σ H Q->t σ H Q):PA X e t':=λ pos aB s σ H Q I q=>h pos aB s σ H Q I (w σ H Q q)
def PS.weak(h:PS X e t)(w:∀ D σ H,t' D σ H->t D σ H):PS X e t':=λ aB s σ H D I q=>h aB s σ H D I (w D σ H q)
def dJ.weak(h:dJ X e t)(w:∀ D σ H,t' D σ H->t D σ H):dJ X e t':=λ aB s σ H D I q=>h aB s σ H D I (w D σ H q)
abbrev tR(K:FrG)(F:Hp)(L:Lx)(S':aC)(w:W)(Q:VK):Prop:=∀ F' L' H' v,Gr F L F' L'->Rel K F' L' S' H'->dH K F' L' w v->Q v H'
def f2(fa fb:FE)(g:aC->W->W->Option (W×aC)):FE:=λ env S=>(fa env S).bind λ p=>(fb env p.2).bind λ q=>g q.2 p.1 q.1
def f1(fa:FE)(g:aC->W->Option (W×aC)):FE:=λ env S=>(fa env S).bind λ p=>g p.2 p.1
def aBP{K:FrG}{fa fb:FE}{g:aC->W->W->Option (W×aC)}{r:R2}(hr:∀ F L S H x y wx wy w S' Q,Rel K F L S H->dH K F L wx x->dH K F L wy y->g S wx wy=qz (w,S')->tR K F L S' w Q->r x y H Q)(σ:St)(H:Hp)(Q:VK)(h:aP K (f2 fa fb g) σ H Q):zF r (aP K fa) (aP K fb) σ H Q:=by
 let(F,L,S,env,w,S',R,E,e,q):=h;unfold f2 at e;cases ea:fa env S with
 |none=>rw[ea] at e;cases e
 |some p=>
   let(wx,S1):=p;rw[ea] at e;dsimp only[yDj] at e;cases eb:fb env S1 with
   |none=>rw[eb] at e;cases e
   |some p2=>
     let(wy,S2):=p2;rw[eb] at e;dsimp only at e;refine(F,L,S,env,wx,S1,R,E,ea,λ F1 L1 H1 x g1 R1 d1=>(F1,L1,S1,env,wy,S2,R1,E.mono g1,eb,λ F2 L2 H2 y g2 R2 d2=>?_,),);exact hr F2 L2 S2 H2 x y wx wy w S' Q R2 (d1.mono g2) d2 e λ F3 L3 H3 v g3 R3 d3=>q F3 L3 H3 v ((g1.trans g2).trans g3) R3 d3
def aZE{fa:FE}{g:aC->W->Option (W×aC)}{r:V->Hp->VK->Prop}(hr:∀ F L S H x wx w S' Q,Rel K F L S H->dH K F L wx x->g S wx=qz (w,S')->tR K F L S' w Q->r x H Q)(σ:St)(H:Hp)(Q:VK)(h:aP K (f1 fa g) σ H Q):tUn r (aP K fa) σ H Q:=by
 let(F,L,S,env,w,S',R,E,e,q):=h;unfold f1 at e;cases ea:fa env S with
 |none=>rw[ea] at e;cases e
 |some p=>
   let(wx,S1):=p;rw[ea] at e;dsimp only[yDj] at e;refine(F,L,S,env,wx,S1,R,E,ea,λ F1 L1 H1 x g1 R1 d1=>?_,);exact hr F1 L1 S1 H1 x wx w S' Q R1 d1 e λ F3 L3 H3 v g3 R3 d3=>q F3 L3 H3 v (g1.trans g3) R3 d3
def jS(i:Nat):FE:=λ env S=>match env[i]? with|some (qz w)=>qz (w,S)|_=>qx
def aP0(h:jS i env S=qz (w,S')):env[i]?=qz (qz w)/\S'=S:=by
 unfold jS at h;split at h
 .rename_i w' e;cases h;exact(e,rfl,)
 .cases h
variable {X:Cx}
def aYc(hN:X.N[i]?=qz x)(hv:zH X.env.scope x)(hd:(x==("__debug__" : Str))=false)(hcd:(x==("__classdict__" : Str))=false):PE X (.Name x pos) (aP X.K (jS i)):=
 PE.weak (aJ1 hN hv hd hcd) λ σ H Q aW=>by
  let(F,L,S,env,w,S',R,E,e,q):=aW;let(e1,rfl):=aP0 e;let(v,e2,d):=E.get i w e1;exact(v,e2,q F L H v Gr.refl R d,)
def fC(d:D):FE:=λ _ S=>qz (.d d,S)
def aXI{i j pos}:PE X (.Constant (.int i) j pos) (aP X.K (fC (.int i))):=
 PE.weak aVV λ σ H Q aW=>by let(F,L,S,env,w,S',R,E,e,q):=aW;cases e;exact q F L H _ Gr.refl R (.int i)
def bAl{b j pos}:PE X (.Constant (.bool b) j pos) (aP X.K (fC (.bool b))):=
 PE.weak aXB λ σ H Q aW=>by let(F,L,S,env,w,S',R,E,e,q):=aW;cases e;exact q F L H _ Gr.refl R (.bl b)
def aY2{j pos}:PE X (.Constant .none j pos) (aP X.K (fC .none)):=
 PE.weak aWG λ σ H Q aW=>by let(F,L,S,env,w,S',R,E,e,q):=aW;cases e;exact q F L H _ Gr.refl R .non
def aW8{x j pos}:PE X (.Constant (.str x) j pos) (aP X.K (fC (.str x))):=
 PE.weak aUs λ σ H Q aW=>by let(F,L,S,env,w,S',R,E,e,q):=aW;cases e;exact q F L H _ Gr.refl R (.str x)
def iN(g:D->D->Option D)(S:aC)(x y:W):Option (W×aC):=(dr S x).bind λ a=>(dr S y).bind λ b=>(g a b).bind λ z=>qz (.d z,S)
def oC(g:D->Option D)(S:aC)(x:W):Option (W×aC):=(dr S x).bind λ a=>(g a).bind λ z=>qz (.d z,S)
def aHP{g:D->D->Option D}(h:iN g S x y=qz (w,S')):∃ a b z,dr S x=qz a/\dr S y=qz b/\g a b=qz z/\w=.d z/\S'=S:=by
 unfold iN at h;cases e1:dr S x with
 |none=>rw[e1] at h;cases h
 |some a=>
   cases e2:dr S y with
   |none=>rw[e1,e2] at h;cases h
   |some b=>
     rw[e1,e2] at h;dsimp only[yDj] at h;cases e3:g a b with
     |none=>rw[e3] at h;cases h|some z=>rw[e3] at h;cases h;exact(a,b,z,rfl,rfl,e3,rfl,rfl,)
def aCT{g:D->Option D}(h:oC g S x=qz (w,S')):∃ a z,dr S x=qz a/\g a=qz z/\w=.d z/\S'=S:=by
 unfold oC at h;cases e1:dr S x with
 |none=>rw[e1] at h;cases h
 |some a=>
   rw[e1] at h;dsimp only[yDj] at h;cases e3:g a with
   |none=>rw[e3] at h;cases h|some z=>rw[e3] at h;cases h;exact(a,z,rfl,e3,rfl,rfl,)
def aDo{Q:VK}(X:Cx)(hK:X.K=K)(q:tR K F L S (.d z) Q):gY X F L S z Q:=λ F' H' r sf R d=>by
 subst hK;exact q F' L H' r (sf,[],by simp,) R d
def rD2(X:Cx)(g:D->D->Option D):R2:=λ x y H Q=>∃ F L S dx dy z,Rel X.K F L S H/\bX X.K F H dx x/\bX X.K F H dy y/\g dx dy=qz z/\gY X F L S z Q
def aAO{g:D->D->Option D}(F:Hp)(L:Lx)(S:aC)(H:Hp)(x y:V)(wx wy w:W)(S':aC)(Q:VK)(R:Rel X.K F L S H)(h1:dH X.K F L wx x)(h2:dH X.K F L wy y)(e:iN g S wx wy=qz (w,S'))(q:tR X.K F L S' w Q):rD2 X g x y H Q:=by let(a,b,z,e1,e2,e3,rfl,rfl):=aHP e;exact(F,L,S',a,b,z,R,jJ R h1 e1,jJ R h2 e2,e3,aDo X rfl q,)
def rB(op:ju)(fa fb:FE):FE:=f2 fa fb (iN (bW op))
def aXd{fa fb:FE}(ha:PE X a (aP X.K fa))(hb:PE X b (aP X.K fb)):PE X (.BinOp a op b pos) (aP X.K (rB op fa fb)):=
 PE.weak (aMb (r:=rD2 X (bW op)) (λ aB s σ H x y v u Q I rx ry hPr0=>by let(F,L,S,dx,dy,z,R,nx,ny,e,q):=hPr0;exact aUa I rx ry R nx ny e q) ha hb) (aBP aAO)
def yS(op:wq)(fa:FE):FE:=f1 fa (oC (rH op))
def bAb{fa:FE}(ha:PE X a (aP X.K fa)):PE X (.UnaryOp op a pos) (aP X.K (yS op fa)):=
 PE.weak (aYl (r:=λ x H Q=>∃ F L S dx z,Rel X.K F L S H/\bX X.K F H dx x/\rH op dx=qz z/\gY X F L S z Q) (λ aB s σ H x v Q I rx hPr1=>by let(F,L,S,dx,z,R,nx,e,q):=hPr1;exact aY5 I rx R nx e q) ha)
  (aZE λ F L S H x wx w S' Q R d e q=>by
    let(a,z,e1,e3,rfl,rfl):=aCT e;exact(F,L,S',a,z,R,jJ R d e1,e3,aDo X rfl q,))
def aV(op:jz)(x y:D):Option D:=(tJ op x y).map PyData.bool
def aHs(hu:X.A.units+64<cLine):dA X (xk op) (rD2 X (aV op)):=λ aB s σ H x y v u Q I rx ry aW=>by
 let(F,L,S,dx,dy,z,R,nx,ny,e,q):=aW;unfold aV at e;cases ec:tJ op dx dy with
 |none=>rw[ec] at e;cases e|some b=>rw[ec] at e;cases e;exact aUf hu I rx ry R nx ny ec (q.here R (.bl b))
def nO(op:jz)(fa fb:FE):FE:=f2 fa fb (iN (aV op))
def aXs{fa fb:FE}(hu:X.A.units+64<cLine)(ha:PE X a (aP X.K fa))(hb:PE X b (aP X.K fb))(hm:xj op b=false):PE X (.Compare a [op] [b] pos) (aP X.K (nO op fa fb)):=
 PE.weak (aR9 (aHs hu) ha hb hm) (aBP aAO)
def dB(fa:FE):FT:=λ env S=>(fa env S).bind λ p=>(dr p.2 p.1).bind λ d=>(pE d).bind λ b=>qz (b,p.2)
def aCI{fa:FE}(h:dB fa env S=qz (b,S')):∃ w d,fa env S=qz (w,S')/\dr S' w=qz d/\pE d=qz b:=by
 unfold dB at h;cases ea:fa env S with
 |none=>rw[ea] at h;cases h
 |some p=>
   let(w,S1):=p;rw[ea] at h;dsimp only[yDj] at h;cases e1:dr S1 w with
   |none=>rw[e1] at h;cases h
   |some d=>
     rw[e1] at h;dsimp only at h;cases e2:pE d with
     |none=>rw[e2] at h;cases h|some c=>rw[e2] at h;cases h;exact(w,d,rfl,e1,e2,)
def aYg{fa:FE}(ha:PE X a (aP X.K fa))(he:∀ hJ,isTrue a X.env hJ=(do let v <- hJ;standAt a.pos;holding [v] (truthy v))):PT X a (gZ X.K (dB fa)):=
 PT.weak (aQx ha he) λ σ H Q aW=>by
  let(F,L,S,env,b,S',R,E,e,q):=aW;let(w,d,e1,e2,e3):=aCI e;exact(F,L,S,env,w,S',R,E,e1,λ F1 L1 H1 v g1 R1 d1=>(b,aTy R1 (jJ R1 d1 e2) e3,q F1 L1 H1 g1 R1,),)
def aT8{fa fb:FE}(hu:X.A.units+64<cLine)(ha:PE X a (aP X.K fa))(hb:PE X b (aP X.K fb))(hm:xj op b=false):PT X (.Compare a [op] [b] pos) (gZ X.K (dB (nO op fa fb))):=
 PT.weak (aS6 (aHs hu) ha hb hm) λ σ H Q aW=>by
  let(F,L,S,env,b,S',R,E,e,q):=aW;let(w,d,e1,e2,e3):=aCI e;refine @aBP _ fa fb (iN (aV op)) _ aAO σ H _ (F,L,S,env,w,S',R,E,e1,λ F1 L1 H1 v g1 R1 d1=>?_,);have hc:∃ c,w=.d (.bool c):=by
   unfold nO f2 at e1;cases ea:fa env S with
   |none=>rw[ea] at e1;cases e1
   |some p=>
     rw[ea] at e1;dsimp only[yDj] at e1;cases eb:fb env p.2 with
     |none=>rw[eb] at e1;cases e1
     |some p2=>
       rw[eb] at e1;dsimp only at e1;let(_,_,z,_,_,e6,rfl,_):=aHP e1;unfold aV at e6;cases e7:tJ op _ _ with
       |none=>rw[e7] at e6;cases e6|some c=>rw[e7] at e6;cases e6;exact(c,rfl,)
  let(c,rfl):=hc;cases e2;cases e3;have hv:v=.bl b:=by cases (show Den X.K F1 (.bool b) v from d1);rfl
  exact(b,hv,q F1 L1 H1 g1 R1,)
def xN(fa fb:FT):FT:=λ env S=>(fa env S).bind λ p=>if p.1=true then fb env p.2 else qz (false,p.2)
def yY(fa fb:FT):FT:=λ env S=>(fa env S).bind λ p=>if p.1=true then qz (true,p.2) else fb env p.2
def aZw(fa:FT):FT:=λ env S=>(fa env S).bind λ p=>qz (!p.1,p.2)
def aLB{fa fb:FT}(σ:St)(H:Hp)(Q:Bool->Hp->Prop)(h:gZ K (xN fa fb) σ H Q):aMC (gZ K fa) (gZ K fb) σ H Q:=by
 let(F,L,S,env,b,S',R,E,e,q):=h;let((c,S1),e1,e2):=aJ e;refine(F,L,S,env,c,S1,R,E,e1,λ F1 L1 H1 g1 R1=>?_,);dsimp only at e2;cases c with
 |true=>exact tL (F1,L1,S1,env,b,S',R1,E.mono g1,by simpa using e2,λ F2 L2 H2 g2 R2=>q F2 L2 H2 (g1.trans g2) R2,)
 |false=>
   have e3:qz (false,S1)=qz (b,S'):=(e2:)
   cases e3;exact tH (q F1 L1 H1 g1 R1)
def aMw{fa fb:FT}(σ:St)(H:Hp)(Q:Bool->Hp->Prop)(h:gZ K (yY fa fb) σ H Q):tOr (gZ K fa) (gZ K fb) σ H Q:=by
 let(F,L,S,env,b,S',R,E,e,q):=h;let((c,S1),e1,e2):=aJ e;refine(F,L,S,env,c,S1,R,E,e1,λ F1 L1 H1 g1 R1=>?_,);dsimp only at e2;cases c with
 |false=>exact tH (F1,L1,S1,env,b,S',R1,E.mono g1,by simpa using e2,λ F2 L2 H2 g2 R2=>q F2 L2 H2 (g1.trans g2) R2,)
 |true=>
   have e3:qz (true,S1)=qz (b,S'):=(e2:)
   cases e3;exact tL (q F1 L1 H1 g1 R1)
def wV(fa fb:FE):FE:=λ env S=>(fa env S).bind λ p=>match p.1 with|.d (.bool true)=>fb env p.2|.d (.bool false)=>qz (.d (.bool false),p.2)|_=>qx
def yF(fa fb:FE):FE:=λ env S=>(fa env S).bind λ p=>match p.1 with|.d (.bool false)=>fb env p.2|.d (.bool true)=>qz (.d (.bool true),p.2)|_=>qx
def aXz(fa:FE):FE:=λ env S=>(fa env S).bind λ p=>match p.1 with|.d (.bool b)=>qz (.d (.bool (!b)),p.2)|_=>qx
def aA7(h:dH K F L (.d (.bool b)) v):v=.bl b:=by cases (show Den K F (.bool b) v from h);rfl
def aKZ{fa fb:FE}(σ:St)(H:Hp)(Q:VK)(h:aP K (wV fa fb) σ H Q):aLv (aP K fa) (aP K fb) σ H Q:=by
 let(F,L,S,env,w,S',R,E,e,q):=h;let((c,S1),e1,e2):=aJ e;dsimp only at e2;split at e2
 .exact(F,L,S,env,_,S1,R,E,e1,λ F1 L1 H1 v g1 R1 d1=>(true,aA7 d1,tL (F1,L1,S1,env,w,S',R1,E.mono g1,e2,λ F2 L2 H2 v2 g2 R2 d2=>q F2 L2 H2 v2 (g1.trans g2) R2 d2,),),)
 .cases e2;exact(F,L,S,env,_,_,R,E,e1,λ F1 L1 H1 v g1 R1 d1=>(false,aA7 d1,tH (q F1 L1 H1 _ g1 R1 (Den.bl false)),),)
 .cases e2
def aLa{fa fb:FE}(σ:St)(H:Hp)(Q:VK)(h:aP K (yF fa fb) σ H Q):aNb (aP K fa) (aP K fb) σ H Q:=by
 let(F,L,S,env,w,S',R,E,e,q):=h;let((c,S1),e1,e2):=aJ e;dsimp only at e2;split at e2
 .exact(F,L,S,env,_,S1,R,E,e1,λ F1 L1 H1 v g1 R1 d1=>(false,aA7 d1,tH (F1,L1,S1,env,w,S',R1,E.mono g1,e2,λ F2 L2 H2 v2 g2 R2 d2=>q F2 L2 H2 v2 (g1.trans g2) R2 d2,),),)
 .cases e2;exact(F,L,S,env,_,_,R,E,e1,λ F1 L1 H1 v g1 R1 d1=>(true,aA7 d1,tL (q F1 L1 H1 _ g1 R1 (Den.bl true)),),)
 .cases e2
def xC(fc:FT)(fa fb:FE):FE:=λ env S=>(fc env S).bind λ p=>if p.1=true then fa env p.2 else fb env p.2
def aZa{fc:FT}{fa fb:FE}(hc:PT X c (gZ X.K fc))(ha:PE X a (aP X.K fa))(hb:PE X b (aP X.K fb)):PE X (.IfExp c a b pos) (aP X.K (xC fc fa fb)):=
 PE.weak (aQV hc ha hb) λ σ H Q aW=>by
  let(F,L,S,env,w,S',R,E,e,q):=aW;let((c,S1),e1,e2):=aJ e;refine(F,L,S,env,c,S1,R,E,e1,λ F1 L1 H1 g1 R1=>?_,);dsimp only at e2;cases c with
  |true=>exact tL (F1,L1,S1,env,w,S',R1,E.mono g1,by simpa using e2,λ F2 L2 H2 v g2 R2 d2=>q F2 L2 H2 v (g1.trans g2) R2 d2,)|false=>exact tH (F1,L1,S1,env,w,S',R1,E.mono g1,by simpa using e2,λ F2 L2 H2 v g2 R2 d2=>q F2 L2 H2 v (g1.trans g2) R2 d2,)
def gG:FA:=λ _ S=>qz ([],S)
def cL(fa:FE)(fr:FA):FA:=λ env S=>(fa env S).bind λ p=>(fr env p.2).bind λ q=>qz (p.1::q.1,q.2)
def aBb:PA X [] (dQ X.K gG):=PA.weak aJS λ σ H Q aW=>by let(F,L,S,env,ws,S',R,E,e,q):=aW;cases e;exact q F L H [] Gr.refl R .nil
def kF{fa:FE}{fr:FA}(ha:PE X e (aP X.K fa))(hr:PA X es (dQ X.K fr))(hs:qo (e::es) X.env=(false,eval e X.env)::qo es X.env):PA X (e::es) (dQ X.K (cL fa fr)):=
 PA.weak (aSo ha hr hs) λ σ H Q aW=>by
  let(F,L,S,env,ws,S',R,E,e,q):=aW;let((w,S1),e1,e2):=aJ e;let((wr,S2),e3,e4):=aJ e2;cases e4;exact(F,L,S,env,w,S1,R,E,e1,λ F1 L1 H1 v g1 R1 d1=>(F1,L1,S1,env,wr,S2,R1,E.mono g1,e3,λ F2 L2 H2 vs g2 R2 d2=>q F2 L2 H2 _ (g1.trans g2) R2 (.cons (d1.mono g2) d2),),)
def jE:List W->Option (List D)
 |[]=>qz []|.d x::r=>(jE r).bind λ l=>qz (x::l)|.tpl ws::r=>(fA ws).bind λ x=>(jE r).bind λ l=>qz (.tuple x::l)|_::_=>qx
def pX:∀ {ws:List W}{xs:List V}{ds:List D},WDenL K F L ws xs->jE ws=qz ds->DenL K F ds xs
 |_,_,_,.nil,e=>by cases e;exact .nil
 |.d x::r,_,_,.cons h t,e=>by
   let(l,e1,e2):=aJ e;cases e2;exact .cons h (pX t e1)
 |.tpl ws::r,_,_,.cons h t,e=>by
   let(x,e0,e):=aJ e;let(l,e1,e2):=aJ e;cases e2;let(a,vs,rfl,h1,h2):=h;exact .cons (.tup (.inl (.inl h1)) (vK h2 e0)) (pX t e1)
 |.loc _::_,_,_,.cons _ _,e=>by cases e|.exc _ _::_,_,_,.cons _ _,e=>by cases e|.dic _::_,_,_,.cons _ _,e=>by cases e|.ob _::_,_,_,.cons _ _,e=>by cases e
def xG(fs:FA):FE:=λ env S=>(fs env S).bind λ p=>(jE p.1).bind λ ds=>if ↑ds<=qk then qz (.d (.tuple ds),p.2) else qx
def aZf{fs:FA}(h:PA X es (dQ X.K fs)):PE X (.Tuple es k pos) (aP X.K (xG fs)):=
 PE.weak (aKH h) λ σ H Q aW=>by
  let(F,L,S,env,w,S',R,E,e,q):=aW;let((ws,S1),e1,e2):=aJ e;let(ds,e3,e4):=aJ e2;split at e4
  .rename_i hz;cases e4;refine(F,L,S,env,ws,_,R,E,e1,λ F1 L1 H1 vs g1 R1 d1=>?_,);have dl:=pX d1 e3;refine(by rw[<- dl.length];exact hz,λ p hp=>?_,);exact q _ L1 _ _ (g1.trans (Gr.new (R1.sub.free hp))) (R1.new hp) (Den.tup (cE.of cO) (dl.mono (fY (R1.sub.free hp))))
  .cases e4
def xR(fs:FA):FL:=λ env S=>(fs env S).bind λ p=>(jE p.1).bind λ ds=>if ↑ds<=qk then qz (ds,p.2) else qx
def aY0{fs:FA}(h:PA X es (dQ X.K fs)):PE X (.List es pos) (iO X.K (xR fs)):=
 PE.weak (aDL h) λ σ H Q aW=>by
  let(F,L,S,env,ds,S',R,E,e,q):=aW;let((ws,S1),e1,e2):=aJ e;let(ds',e3,e4):=aJ e2;split at e4
  .rename_i hz;cases e4;refine(F,L,S,env,ws,_,R,E,e1,λ F1 L1 H1 vs g1 R1 d1=>?_,);have dl:=pX d1 e3;exact(by rw[<- dl.length];exact hz,λ p hp=>q F1 L1 _ p vs g1 (R1.lay hp) (R1.sub.free hp) (R1.notin hp) cO dl,)
  .cases e4
def kW(f:FL):FE:=λ env S=>(f env S).bind λ p=>qz (.d (.list p.1),p.2)
def aM8{f:FL}(h:PE X e (iO X.K f)):PE X e (aP X.K (kW f)):=
 PE.weak h λ σ H Q aW=>by
  let(F,L,S,env,w,S',R,E,e,q):=aW;let((ds,S1),e1,e2):=aJ e;cases e2;exact(F,L,S,env,ds,_,R,E,e1,λ F1 L1 H1 p xs g1 R1 hF hL hH dl=>q _ L1 _ _ (g1.trans (Gr.new hF)) (R1.adopt hF hL hH) (Den.lst (bT.of cO) (dl.mono (fY hF))),)
def kM(f:FL):FE:=λ env S=>(f env S).bind λ p=>qz (.loc p.2.length,p.2++[qz p.1])
def aW5{f:FL}(h:PE X e (iO X.K f)):PE X e (aP X.K (kM f)):=
 PE.weak h λ σ H Q aW=>by
  let(F,L,S,env,w,S',R,E,e,q):=aW;let((ds,S1),e1,e2):=aJ e;cases e2;refine(F,L,S,env,ds,_,R,E,e1,λ F1 L1 H1 p xs g1 R1 hF hL hH dl=>q _ _ _ _ (g1.trans Gr.newLoc) (R1.adoptLoc hF hL hH dl) (p,?_,rfl,),);dsimp only;rw[<- R1.len,yAi (yAb _)];simp
def bD:D->D->Option D
 |.list xs,.int i=>kT xs i|.tuple xs,.int i=>kT xs i
 |.str z,.int i=>if z.length<=qk then (kT z.cps.toList i).bind λ c=>qz (.str ⟨#[c]⟩) else qx
 |_,_=>qx
def aIu{xs:List V}{i:Int}(h:DenL K F ds xs)(e:kT ds i=qz d):∃ x,kT xs i=qz x/\Den K F d x:=by unfold kT at e ⊢;rw[<- h.length];let(j,e1,e2):=aJ e;let(x,e3,dx):=h.get e2;exact(x,by rw[e1];exact e3,dx,)
def aTD:tZ X (rD2 X bD):=λ value iF aB s σ H x y v u Q I rx ry aW hs=>by
 let(F,L,S,dx,dy,z,R,nx,ny,e,q):=aW;unfold bD at e;split at e
 .let(a,xs,rfl,sq,dl):=nx.lst R.sub;let(r,e1,d1):=aIu dl e;exact aTL value iF aB s σ H _ y v u Q I rx ry (a,xs,_,r,rfl,ny.int,sq,e1,q.here R d1,) hs
 .let(a,xs,rfl,sq,dl):=nx.tup R.sub;let(r,e1,d1):=aIu dl e;exact aUi value iF aB s σ H _ y v u Q I rx ry (a,xs,_,r,rfl,ny.int,sq,e1,q.here R d1,) hs
 .split at e
  .rename_i hz;let(c,e1,e2):=aJ e;cases e2;exact aV0 value iF aB s σ H x y v u Q I rx ry (_,_,c,nx.str,ny.int,hz,e1,q.here R (.str _),) hs
  .cases e
 .cases e
def pQ(fa fb:FE):FE:=f2 fa fb (iN bD)
def aZ1{fa fb:FE}(ha:PE X a (aP X.K fa))(hb:PE X b (aP X.K fb))(hs:vM b):PE X (.Subscript a b pos) (aP X.K (pQ fa fb)):=
 PE.weak (aK2 aTD ha hb hs) (aBP aAO)
abbrev FO:=aX->aC->Option (Option Int×aC)
def fNo:FO:=λ _ S=>qz (qx,S)
def qT(fa:FE):FO:=λ env S=>(fa env S).bind λ p=>match p.1 with|.d (.int i)=>qz (qz i,p.2)|_=>qx
def mE(K:FrG)(f:FO):TO:=λ σ H Q=>∃ F L S env o S',Rel K F L S H/\EnvR K F L env σ/\f env S=qz (o,S')/\∀ F' L' H',Gr F L F' L'->Rel K F' L' S' H'->Q o H'
def aZF:PO X qx (mE X.K fNo):=λ aB s σ H Q I aW=>by
 let(F,L,S,env,o,S',R,E,e,q):=aW;cases e;exact aSZ aB s σ H Q I (q F L H Gr.refl R)
def aWi{fa:FE}(ha:PE X a (aP X.K fa)):PO X (qz a) (mE X.K (qT fa)):=λ aB s σ H Q I aW=>by
 let(F,L,S,env,o,S',R,E,e,q):=aW;let((w,S1),e1,e2):=aJ e;dsimp only at e2;split at e2
 .cases e2;refine aRJ ha aB s σ H Q I (F,L,S,env,_,_,R,E,e1,λ F1 L1 H1 v g1 R1 d1=>?_,);cases (show Den X.K F1 (.int _) v from d1);exact(_,rfl,q F1 L1 H1 g1 R1,)
 .cases e2
def fJ(xs:List D)(lo hi:Option Int):List D:=(xs.drop (HT.sIx ↑xs 0 lo)).take (HT.sIx ↑xs ↑xs hi-HT.sIx ↑xs 0 lo)
def aIZ{xs:List V}(h:DenL K F ds xs)(lo hi:Option Int):DenL K F (fJ ds lo hi) (nQ xs lo hi):=by unfold fJ nQ;rw[h.length];exact(h.drop _).take _
def slL:D->Option Int->Option Int->Option (List D)
 |.list xs,lo,hi=>qz (fJ xs lo hi)|_,_,_=>qx
def aMI(fa:FE)(fl fh:FO):FL:=λ env S=>(fa env S).bind λ p=>(fl env p.2).bind λ q=>(fh env q.2).bind λ r=>(dr r.2 p.1).bind λ d=>(slL d q.1 r.1).bind λ z=>qz (z,r.2)
def aYy{lo hi:Option qy}{fa:FE}{fl fh:FO}(ha:PE X a (aP X.K fa))(hl:PO X lo (mE X.K fl))(hh:PO X hi (mE X.K fh)):PE X (.Subscript a (.Slice lo hi qx p2) pos) (iO X.K (aMI fa fl fh)):=
 PE.weak (aHC aSH ha hl hh) λ σ H Q aW=>by
  let(F,L,S,env,ds,S',R,E,e,q):=aW;let((w,S1),e1,e):=aJ e;let((l,S2),e2,e):=aJ e;let((h,S3),e3,e):=aJ e;let(d,e4,e):=aJ e;let(z,e5,e):=aJ e;cases e;refine(F,L,S,env,w,S1,R,E,e1,λ F1 L1 H1 v g1 R1 d1=>(F1,L1,S1,env,l,S2,R1,E.mono g1,e2,λ F2 L2 H2 g2 R2=>(F2,L2,S2,env,h,S3,R2,E.mono (g1.trans g2),e3,λ F3 L3 H3 g3 R3=>?_,),),);have n:=jJ R3 (d1.mono (g2.trans g3)) e4;cases d with
  |list xs=>
    cases e5;let(a,vs,rfl,sq,dl):=n.lst R3.sub;exact(a,vs,rfl,sq,λ p hp=>q F3 L3 _ p _ ((g1.trans g2).trans g3) (R3.lay hp) (R3.sub.free hp) (R3.notin hp) cO (aIZ dl l h),)
  |_=>cases e5
def pN(K:FrG)(np:Nat)(call:List W->aC->Option (W×aC)):Sp:=λ vs H Q _=>∃ F L S ws w S',↑ws=np/\Rel K F L S H/\WDenL K F L ws vs/\call ws S=qz (w,S')/\tR K F L S' w Q
def aBp(fs:FA)(np:Nat)(call:List W->aC->Option (W×aC)):FE:=λ env S=>(fs env S).bind λ p=>if p.1.length=np then call p.1 p.2 else qx
def aVG{fs:FA}{call:List W->aC->Option (W×aC)}(σ:St)(H:Hp)(Q:VK)(h:aP K (aBp fs np call) σ H Q):aBg (pN K np call) [] E0 (dQ K fs) σ H Q:=by
 let(F,L,S,env,w,S',R,E,e,q):=h;let((ws,S1),e1,e):=aJ e;split at e
 .rename_i hn;refine(F,L,S,env,ws,S1,R,E,e1,λ F1 L1 H1 vs g1 R1 d1=>(F1,L1,S1,ws,w,S',hn,R1,by rw[yBi];exact d1,e,λ F2 L2 H2 v g2 R2 d2=>q F2 L2 H2 v (g1.trans g2) R2 d2,),)
 .cases e
inductive NowL (K:FrG) (F H:Hp):List D->List V->Prop
 |nil:NowL K F H [] []
 |cons {d:D}{ds:List D}{x:V}{xs:List V}:bX K F H d x->NowL K F H ds xs->NowL K F H (d::ds) (x::xs)
def nV(S:aC):List W->Option (List D)
 |[]=>qz []|w::r=>(dr S w).bind λ d=>(nV S r).bind λ l=>qz (d::l)
def aI0(R:Rel K F L S H):∀ {ws:List W}{xs:List V}{ds:List D},WDenL K F L ws xs->nV S ws=qz ds->NowL K F H ds xs
 |_,_,_,.nil,e=>by cases e;exact .nil
 |_,_,_,.cons h t,e=>by
   let(d,e1,e):=aJ e;let(l,e2,e):=aJ e;cases e;exact .cons (jJ R h e1) (aI0 R t e2)
def rN(X:Cx)(g:List D->Option D):List V->Hp->VK->Prop:=λ xs H Q=>∃ F L S ds z,Rel X.K F L S H/\NowL X.K F H ds xs/\g ds=qz z/\gY X F L S z Q
def rA(fs:FA)(g:List D->Option D):FE:=λ env S=>(fs env S).bind λ p=>(nV p.2 p.1).bind λ ds=>(g ds).bind λ z=>qz (.d z,p.2)
def tG{fs:FA}{g:List D->Option D}(σ:St)(H:Hp)(Q:VK)(h:aP X.K (rA fs g) σ H Q):tCB (rN X g) (dQ X.K fs) σ H Q:=by let(F,L,S,env,w,S',R,E,e,q):=h;let((ws,S1),e1,e):=aJ e;let(ds,e2,e):=aJ e;let(z,e3,e):=aJ e;cases e;refine(F,L,S,env,ws,_,R,E,e1,λ F1 L1 H1 vs g1 R1 d1=>(F1,L1,S1,ds,z,R1,aI0 R1 d1 e2,e3,aDo X rfl λ F2 L2 H2 v g2 R2 d2=>q F2 L2 H2 v (g1.trans g2) R2 d2,),)
section
variable {prog:zq}{w:zj}{A:zv}{E:qj->qv->Prop}
def aGP{it t:qw}{aN:Array qj}(hne:t≠it):∀ (n i:Nat) (s:qv) (Q:List qj->qv->Prop),s.heap.IsListIter it t i->s.heap.IsList t aN->i+n<=aN.size ->
 (∀ h',h'.IsListIter it t (i+n)->yCi it s.heap h'->Q ((aN.toList.drop i).take n) {s with heap:=h' })->qu (model prog w) A (draw (.ref it) n) Q E s
 |0,i,s,Q,hit,_,_,hQ=>wP (hQ s.heap hit (Heap.SameBut.refl _ _):)
 |n+1,i,s,Q,hit,hl,hle,hQ=>by
   have hlt:i<aN.size:=by omega
   show qu _ _ (ww (.ref it) >>= _) Q E s;refine wB (vw hit hl (x:=aN[i]) (by simp[hlt]) λ h1 hit1 hs1=>?_);refine wB (zw (aGP hne n (i+1) _ _ hit1 (hl.extBut hs1.extBut hne) (!_) λ h2 hit2 hs2=>wP ?_));have q:=hQ h2 (by rw[show i+(n+1)=i+1+n by omega];exact hit2) (hs1.trans hs2);rw[yFg (hlt:),List.take_succ_cons] at q;exact q
end
def aOi{A:zv}{E:qj -> qv -> Prop}{s:qv}{x1}{Q:Unit->qv->Prop}(hh:A.handled=qx)(hl:s.heap.IsList t aN)(hn:(xq elts env).length=aN.size)(hstar:(xq elts env).findIdx? (·.1)=qx)(h:∀ h',Heap.ExtBut s.heap.objs.size s.heap h'->qu (model prog w) A (assignInOrder ((xq elts env).map (·.2)) aN.toList) Q E {s with heap:=h' }) :
 qu (model prog w) A (assign (.Tuple elts x1 pos) env (.ref t)) Q E s:=by
 have hlt:t≠s.heap.objs.size:=by let(o,ho,_):=hl;exact xAj (xAa ho)
 have hl1:∀ o,(s.heap.push o).IsList t aN:=λ o=>let ⟨u,hu,r⟩:=hl;(u,hpS _ hu,r,)
 rw[arm_assign_Tuple];refine wB (yx ?_);unfold unpack;rw[hn,hstar];refine wB (zw ?_);unfold unpackItems;refine wB ?_;unfold notIterableAtAll;refine wB (vj hl.typeIs slot_list_iter.lookup (wP ?_));simp only[yAm,if_false];refine wB (zw (jk hl ?_));refine wB (zw (aGP hlt aN.size 0 _ _ (_,xAd _ rfl,rfl,rfl,) (hl1 _) (!_) λ h1 hit1 hs1=>?_));rw[show yEv aN.size (List.drop 0 aN.toList)=aN.toList by rw[yGn];exact yCd (by simp)];rw[if_neg (by simp)];have hl2:h1.IsList t aN:=(hl1 _).extBut hs1.extBut hlt;refine wB (zw (vy hh hit1 hl2 (by simp) λ h2 he2=>?_));simp only[Option.isSome_none,yAm,if_false];exact wP (h h2 λ b o hb e=>he2 b o hb (hs1.extBut b o hb (hpS _ e)))
def aEC(K:FrG)(n:Nat)(t:jH):TG:=λ v σ H Q=>∃ a xs,v=.ref a/\(cE K H a xs\/bT K H a xs)/\↑xs=n/\t xs σ H Q
def aUZ(hc:X.calm=true)(h:rO X es t)(hn:(xq es X.env).length=n)(hst:(xq es X.env).findIdx? (·.1)=qx):PG X (.Tuple es k pos) (aEC X.K n t):=by
 intro aB s σ H v u Q I r hw;let(a,xs,e1,hq,hl,hw):=hw;rcases hq with hq|hq
 .exact aWZ hc h hn hst aB s σ H v u Q I r (a,xs,e1,hq,hl,hw,)
 .subst e1;cases r;let(aG,rv,pl,hz):=I.list hq;refine aOi (I.ok.hd hc) pl.isList (by simp[hn,<- hl,rv.length]) hst λ h' hx=>?_
  have I1:Inv X aB σ H {s with heap:=h' }:=I.kept (t':=s.toks) λ b o e=>hx b o (xAj (xAa e)) e
  exact h aB _ σ H xs _ Q I1 (rv:) hw
def aMl(K:FrG)(D:Ends)(F':Hp)(L':Lx)(H':Hp):Fl->Prop
 |.nx aM=>∀ σ',EnvR K F' L' aM σ'->D.nx σ' H'|.rt w=>∀ v,dH K F' L' w v->D.rt v H'|.bk aM=>∀ σ',EnvR K F' L' aM σ'->D.bk σ' H'|.ct aM=>∀ σ',EnvR K F' L' aM σ'->D.ct σ' H'
def mY{f:FS}{D:Ends}(R:Rel K F L S H)(E:EnvR K F L env σ)(e:f env S=qz (fl,S'))(q:∀ F' L' H',Gr F L F' L'->Rel K F' L' S' H'->aMl K D F' L' H' fl):dL K f D σ H:=⟨F,L,S,env,fl,S',R,E,e,λ F' L' H' g R'=>by
 have:=q F' L' H' g R';cases fl<;>exact this⟩
def lI{f:FS}{D:Ends}{σ:St}{H:Hp}(h:dL K f D σ H):∃ F L S env fl S',Rel K F L S H/\EnvR K F L env σ/\f env S=qz (fl,S')/\∀ F' L' H',Gr F L F' L'->Rel K F' L' S' H'->aMl K D F' L' H' fl:=by
 let(F,L,S,env,fl,S',R,E,e,q):=h;exact⟨F,L,S,env,fl,S',R,E,e,λ F' L' H' g R'=>by
  have:=q F' L' H' g R';cases fl<;>exact this⟩
def sY:FS:=λ env S=>qz (.nx env,S)
def aVD:dJ X [] (dL X.K sY):=dJ.weak aIG λ D σ H h=>by
 let(F,L,S,env,fl,S',R,E,e,q):=lI h;cases e;exact q F L H Gr.refl R σ E
def eZ(fa fb:FS):FS:=λ env S=>(fa env S).bind λ p=>match p.1 with|.nx e=>fb e p.2|fl=>qz (fl,p.2)
def aXw{fa fb:FS}(ha:PS X a (dL X.K fa))(hb:dJ X b (dL X.K fb)):dJ X (a::b) (dL X.K (eZ fa fb)):=dJ.weak (aHJ ha hb) λ D σ H h=>by
 let(F,L,S,env,fl,S',R,E,e,q):=lI h;let((f1,S1),e1,e2):=aJ e;cases f1 with
 |nx e'=>exact mY R E e1 λ F1 L1 H1 g1 R1 σ1 E1=>mY R1 E1 e2 λ F2 L2 H2 g2 R2=>q F2 L2 H2 (g1.trans g2) R2|rt w=>cases e2;exact mY R E e1 λ F1 L1 H1 g1 R1=>q F1 L1 H1 g1 R1|bk e'=>cases e2;exact mY R E e1 λ F1 L1 H1 g1 R1=>q F1 L1 H1 g1 R1|ct e'=>cases e2;exact mY R E e1 λ F1 L1 H1 g1 R1=>q F1 L1 H1 g1 R1
def wI(fa:FE):FS:=λ env S=>(fa env S).bind λ p=>qz (.nx env,p.2)
def aUN{pos:Pos}{fa:FE}(h:PE X e (aP X.K fa))(hs:swapsWith e qx pos.line X.env=pure false):PS X (.Expr e pos) (dL X.K (wI fa)):=PS.weak (aR2 h hs) λ D σ H h=>by
 let(F,L,S,env,fl,S',R,E,e,q):=lI h;let((w,S1),e1,e2):=aJ e;cases e2;exact(F,L,S,env,w,_,R,E,e1,λ F1 L1 H1 v g1 R1 d1=>q F1 L1 H1 g1 R1 σ (E.mono g1),)
def pA(fa:FE):FS:=λ env S=>(fa env S).bind λ p=>qz (.rt p.1,p.2)
def aXf{fa:FE}(h:PE X e (aP X.K fa)):PS X (.Return (qz e) pos) (dL X.K (pA fa)):=PS.weak (aVZ h) λ D σ H h=>by
 let(F,L,S,env,fl,S',R,E,e,q):=lI h;let((w,S1),e1,e2):=aJ e;cases e2;exact(F,L,S,env,w,_,R,E,e1,λ F1 L1 H1 v g1 R1 d1=>q F1 L1 H1 g1 R1 v d1,)
def aYm:FS:=λ env S=>qz (.rt (.d .none),S)
def nX(fc:FT)(fa fb:FS):FS:=λ env S=>(fc env S).bind λ p=>if p.1=true then fa env p.2 else fb env p.2
def aZZ{fc:FT}{fa fb:FS}(hc:PT X c (gZ X.K fc))(ha:dJ X a (dL X.K fa))(hb:dJ X b (dL X.K fb)):PS X (.If c a b pos) (dL X.K (nX fc fa fb)):=PS.weak (aYq hc ha hb) λ D σ H h=>by
 let(F,L,S,env,fl,S',R,E,e,q):=lI h;let((c,S1),e1,e2):=aJ e;refine(F,L,S,env,c,S1,R,E,e1,λ F1 L1 H1 g1 R1=>?_,);cases c with
 |true=>exact tL (mY R1 (E.mono g1) (e2:) λ F2 L2 H2 g2 R2=>q F2 L2 H2 (g1.trans g2) R2)|false=>exact tH (mY R1 (E.mono g1) (e2:) λ F2 L2 H2 g2 R2=>q F2 L2 H2 (g1.trans g2) R2)
def jR(i:Nat)(fa:FE):FS:=λ env S=>(fa env S).bind λ p=>qz (.nx (env.set i (qz p.1)),p.2)
def aL7{fa:FE}(D:Ends)(σ:St)(H:Hp)(h:dL K (jR i fa) D σ H):xM (aP K fa) (oV i) D σ H:=by let(F,L,S,env,fl,S',R,E,e,q):=lI h;let((w,S1),e1,e2):=aJ e;cases e2;exact(F,L,S,env,w,_,R,E,e1,λ F1 L1 H1 v g1 R1 d1=>q F1 L1 H1 g1 R1 _ ((E.mono g1).set i d1),)
def aK3{pos:Pos}{fa:FE}(hN:X.N.Nodup)(hi:X.N[i]?=qz x)(hx:Loc X.env.scope x)(he:PE X e (aP X.K fa))(hs:swapsWith e (qz (.Name x pos')) pos.line X.env=pure false)(hf:X.fn x=true\/X.env.scope.names.lookup x=qz .local) :
 PS X (.Assign [.Name x pos'] e pos) (dL X.K (jR i fa)):=PS.weak (aWg hN hi hx he hs hf) aL7
def mU:List Nat->List D->aX->Option aX
 |[],[],env=>qz env|i::is,d::ds,env=>mU is ds (env.set i (qz (.d d)))|_,_,_=>qx
inductive Tg where
 |one (i:Nat)|many (is:List Nat)
def Tg.put:Tg->D->aX->Option aX
 |.one i,d,env=>qz (env.set i (qz (.d d)))|.many is,.tuple ds,env=>mU is ds env|.many is,.list ds,env=>mU is ds env|.many _,_,_=>qx
def GA(K:FrG)(t:Tg)(g:TG):Prop:=∀ (d:D) (x:V) (σ:St) (H F:Hp) (L:Lx) (S:aC) (env aM:aX) (Q:St->Hp->Prop),
 Rel K F L S H->EnvR K F L env σ->Den K F d x->t.put d env=qz aM->(∀ σ',EnvR K F L aM σ'->Q σ' H)->g x σ H Q
def aVs(i:Nat):GA K (.one i) (oV i):=λ d x σ H F L S env aM Q R E dn e q=>by
 cases e;exact q _ (E.set i (w:=.d d) dn)
def zC(K:FrG)(is:List Nat)(g:jH):Prop:=∀ (ds:List D) (xs:List V) (σ:St) (H F:Hp) (L:Lx) (S:aC) (env aM:aX) (Q:St->Hp->Prop),
 Rel K F L S H->EnvR K F L env σ->DenL K F ds xs->mU is ds env=qz aM->(∀ σ',EnvR K F L aM σ'->Q σ' H)->g xs σ H Q
def aTV:zC K [] aEQ:=λ ds xs σ H F L S env aM Q R E dn e q=>by
 cases dn with
 |nil=>cases e;exact(rfl,q σ E,)|cons _ _=>cases e
def aQj(h:zC K is g):zC K (i::is) (aEn (oV i) g):=λ ds xs σ H F L S env aM Q R E dn e q=>by
 cases dn with
 |nil=>cases e|cons d1 dr=>exact(_,_,rfl,h _ _ _ H F L S _ aM Q R (E.set i (w:=.d _) d1) dr e q,)
def aCt:∀ {is:List Nat}{ds:List D}{env aM:aX},mU is ds env=qz aM->↑is=↑ds
 |[],[],_,_,_=>rfl|_::is,_::ds,_,_,e=>congrArg (· + 1) (@aCt is ds _ _ e)|[],_::_,_,_,e=>by cases e|_::_,[],_,_,e=>by cases e
def aSM(h:zC K is g):GA K (.many is) (aEC K ↑is g):=λ d x σ H F L S env aM Q R E dn e q=>by
 cases d with
 |tuple ds=>
   cases dn with
   |tup sq dl=>exact(_,_,rfl,.inl (kI R.sub sq),by rw[<- dl.length];exact(aCt e).symm,h _ _ σ H F L S env aM Q R E dl e q,)
 |list ds=>
   cases dn with
   |lst sq dl=>exact(_,_,rfl,.inr (R.sub.seq sq),by rw[<- dl.length];exact(aCt e).symm,h _ _ σ H F L S env aM Q R E dl e q,)
 |_=>cases e
def wL(t:Tg)(fa:FE):FS:=λ env S=>(fa env S).bind λ p=>match p.1 with|.d d=>(t.put d env).bind λ e=>qz (.nx e,p.2)|_=>qx
def aUe{fa:FE}(hg:GA K t g)(D:Ends)(σ:St)(H:Hp)(h:dL K (wL t fa) D σ H):xM (aP K fa) g D σ H:=by
 let(F,L,S,env,fl,S',R,E,e,q):=lI h;let((w,S1),e1,e2):=aJ e;dsimp only at e2;split at e2
 .let(e',e3,e4):=aJ e2;cases e4;exact(F,L,S,env,_,_,R,E,e1,λ F1 L1 H1 v g1 R1 d1=>hg _ v σ H1 F1 L1 _ env e' _ R1 (E.mono g1) d1 e3 λ σ' E'=>q F1 L1 H1 g1 R1 σ' E',)
 .cases e2
def kG(S:aC):W->W->W->Option aC
 |.loc n,.d (.int k),.d x=>match S[n]? with
   |some (qz ds)=>(jU ↑ds k).bind λ j=>qz (S.set n (qz (ds.set j x)))|_=>qx
 |_,_,_=>qx
def mF(fo fi fe:FE):FS:=λ env S=>(fe env S).bind λ p=>(fo env p.2).bind λ q=>(fi env q.2).bind λ r=>(kG r.2 q.1 r.1 p.1).bind λ S'=>qz (.nx env,S')
def aOM(h:kG S o i x=qz S'):∃ n k d ds j,o=.loc n/\i=.d (.int k)/\x=.d d/\S[n]?=qz (qz ds)/\jU ↑ds k=qz j/\S'=S.set n (qz (ds.set j d)):=by
 unfold kG at h;split at h
 .split at h
  .rename_i ds e;let(j,e1,e2):=aJ h;cases e2;exact(_,_,_,ds,j,rfl,rfl,rfl,e,e1,rfl,)
  .cases h
 .cases h
def aYi{fo fi fe:FE}(D:Ends)(σ:St)(H:Hp)(h:dL K (mF fo fi fe) D σ H):xM (aP K fe) (aMy (aP K fo) (aP K fi) aLO) D σ H:=by
 let(F,L,S,env,fl,S',R,E,e,q):=lI h;let((we,S1),e1,e):=aJ e;let((wo,S2),e2,e):=aJ e;let((wi,S3),e3,e):=aJ e;let(S4,e4,e):=aJ e;cases e;let(n,k,d,ds,j,rfl,rfl,rfl,e5,e6,rfl):=aOM e4;refine(F,L,S,env,_,S1,R,E,e1,λ F1 L1 H1 v g1 R1 d1=>(F1,L1,S1,env,_,S2,R1,E.mono g1,e2,λ F2 L2 H2 o g2 R2 d2=>(F2,L2,S2,env,_,S3,R2,E.mono (g1.trans g2),e3,λ F3 L3 H3 i g3 R3 d3=>?_,),),);let(a,ea,rfl):=d2.mono g3;let(fa,xs,ha,dl):=R3.loc n a ds ea e5;have hi:i=.int k:=by cases (show Den K F3 (.int k) i from d3);rfl
 refine(a,xs,k,j,rfl,hi,ha,by rw[<- dl.length];exact e6,?_,);exact q F3 L3 _ ((g1.trans g2).trans g3) (R3.put ea fa (dl.set j (show Den K F3 d v from d1.mono (g2.trans g3)))) σ (E.mono ((g1.trans g2).trans g3))
def aXO{pos:Pos}{fo fi fe:FE}(ho:PE X o (aP X.K fo))(hi:PE X i (aP X.K fi))(he:PE X e (aP X.K fe))(ha:∀ v,assign (.Subscript o i pos') X.env v=(do
 let ov <- holding [v] (eval o X.env);let iv <- holding [v,ov] (eval i X.env)
 standAt pos'
 holding [v,ov,iv] (setItem ov iv v)
 release [v,ov,iv] []))(hs:swapsWithSole [.Subscript o i pos'] e pos.line X.env=pure false)(hw:yz [.Subscript o i pos'] e X.env=pure qx):PS X (.Assign [.Subscript o i pos'] e pos) (dL X.K (mF fo fi fe)):=
 PS.weak (aKC he (aWq ho hi aQy ha) hs hw) aYi
def tM(S:aC)(n:Nat)(x:D):Option (W×aC):=match S[n]? with
 |some (qz ds)=>if ↑ds<qk then qz (.d .none,S.set n (qz (ds++[x]))) else qx
 |_=>qx
def eO(S:aC):W->W->Option (W×aC)
 |.loc n,.d x=>match S[n]? with
   |some (qz ds)=>if ↑ds<qk then qz (.d .none,S.set n (qz (ds++[x]))) else qx
   |_=>qx
 |.loc n,.tpl ws=>(fA ws).bind λ l=>tM S n (.tuple l)|_,_=>qx
def aG4(h:tM S n d=qz (w,S')):∃ ds,S[n]?=qz (qz ds)/\↑ds<qk/\w=.d .none/\S'=S.set n (qz (ds++[d])):=by
 unfold tM at h;split at h
 .rename_i ds e;split at h
  .rename_i hz;cases h;exact(ds,e,hz,rfl,rfl,)
  .cases h
 .cases h
def aHl(h:eO S o x=qz (w,S')):∃ n d ds,o=.loc n/\wd x=qz d/\S[n]?=qz (qz ds)/\↑ds<qk/\w=.d .none/\S'=S.set n (qz (ds++[d])):=by
 cases o with
 |loc n=>
   cases x with
   |d x=>
     let(ds,h1,h2,h3,h4):=@aG4 _ n x _ _ h;exact(n,x,ds,rfl,rfl,h1,h2,h3,h4,)
   |tpl ws=>
     let(l,e,h):=aJ (show(fA ws).bind (λ l=>tM S n (.tuple l))=qz (w,S') from h);let(ds,h1,h2,h3,h4):=aG4 h;exact(n,_,ds,rfl,by rw[wd,e];rfl,h1,h2,h3,h4,)
   |_=>cases h
 |_=>cases x<;>cases h
def xT(fo fe:FE):FE:=f2 fo fe eO
def aYE{fo fe:FE}(σ:St)(H:Hp)(Q:VK)(h:aP K (xT fo fe) σ H Q):yV K "list" aIU (aP K fo) (dQ K (cL fe gG)) σ H Q:=by
 let(F,L,S,env,w,S',R,E,e,q):=h;let((wo,S1),e1,e):=aJ e;let((we,S2),e2,e):=aJ e;let(n,d,ds,rfl,ed,e5,hz,rfl,rfl):=aHl e;refine(F,L,S,env,_,S1,R,E,e1,λ F1 L1 H1 o g1 R1 d1=>?_,);let(a,ea,rfl):=d1;refine(.inl (rfl,?_,),F1,L1,S1,env,[we],S2,R1,E.mono g1,?_,λ F2 L2 H2 vs g2 R2 d2=>?_,)
 .let(xs,hx):=R1.trl ea;exact(xs,bT.of hx,)
 .unfold cL;rw[e2];rfl
 .cases d2 with
  |cons dd dr=>
    cases dr;have ea2:=g2.get ea;let(fa,xs,ha,dl):=R2.loc n a ds ea2 e5;exact(a,xs,_,rfl,rfl,ha,by rw[<- dl.length];exact hz,q F2 L2 _ _ (g1.trans g2) (R2.put ea2 fa (dl.append (.cons (aAU dd ed) .nil))) Den.non,)
structure Wk(K:FrG)(F:Hp)(L:Lx)(J:It)(ds:List D):Prop where
 go:∀ (i:Nat) (H:Hp),bV F H->i<↑ds->J.go i H
 stop:∀ (H:Hp),bV F H->J.stop ↑ds H
 yld:∀ (i:Nat) (H F1:Hp) (L1:Lx) (S:aC) (x:V) (H':Hp) (d:D),Gr F L F1 L1->Rel K F1 L1 S H->ds[i]?=qz d->J.yld i H x H'->∃ F2,bV F1 F2/\Rel K F2 L1 S H'/\Den K F2 d x
def jG(K:FrG)(f:FL):TI:=λ σ H R=>∃ F L S env ds S',Rel K F L S H/\EnvR K F L env σ/\f env S=qz (ds,S')/\∀ F' L' H' J,Gr F L F' L'->Rel K F' L' S' H'->Wk K F' L' J ds->R J H'
def PI.weak{t t':TI}(h:PI X tg iter t)(w:∀ σ H R,t' σ H R->t σ H R):PI X tg iter t':=λ aB s σ H R I q=>h aB s σ H R I (w σ H R q)
def aRM{xs:List V}(sq:bT K F a xs)(dl:DenL K F ds xs):Wk K F L (Itl K a) ds where
 go:=λ i H s hi=>(xs,xs[i]'(by rw[<- dl.length];exact hi),s.seq sq,by simp[dl.length▸hi],)
 stop:=λ H s=>(xs,s.seq sq,yHo dl.length.symm,)
 yld:=λ i H F1 L1 S x H' d g R e y=>by
  let(e1,y):=y;subst e1;have h:=y xs ((g.f.trans R.sub).seq sq);let(x',e2,dx):=dl.get e;rw[h] at e2;cases e2;exact(F1,bV.refl _,R,dx.mono g.f,)
def aUQ{xs:List V}(sq:cE K F a xs)(dl:DenL K F ds xs):Wk K F L (Itt K a) ds where
 go:=λ i H s hi=>(xs,xs[i]'(by rw[<- dl.length];exact hi),kI s sq,by simp[dl.length▸hi],)
 stop:=λ H s=>(xs,kI s sq,yHo dl.length.symm,)
 yld:=λ i H F1 L1 S x H' d g R e y=>by
  let(e1,y):=y;subst e1;have h:=y xs (kI (g.f.trans R.sub) sq);let(x',e2,dx):=dl.get e;rw[h] at e2;cases e2;exact(F1,bV.refl _,R,dx.mono g.f,)
def kS(lo:Int):Nat->List D
 |0=>[]|n+1=>.int lo::kS (lo+1) n
def aCf(n:Nat):∀ lo:Int,(kS lo n).length=n:=by
 induction n with
 |zero=>intro lo;rfl|succ n ih=>intro lo;simp[kS,ih]
def aH7:∀ (n:Nat) (lo:Int) (i:Nat),i<n->(kS lo n)[i]?=qz (.int (lo+i))
 |0,_,_,h=>by omega|n+1,lo,0,_=>by simp[kS]
 |n+1,lo,i+1,h=>by
   rw[kS,yDe,aH7 n (lo+1) i (!_)];congr 2
   push_cast
   omega
def aIh(lo:Int)(n:Nat):Wk K F L (yQ lo n) (kS lo n) where
 go:=λ i H s hi=>by rw[aCf] at hi;exact hi
 stop:=λ H s=>by rw[aCf];exact yAb _
 yld:=λ i H F1 L1 S x H' d g R e y=>by
  let(rfl,rfl):=y;have hi:i<n:=by
   have:=(gIm e).1;rw[aCf] at this;exact this
  rw[aH7 n lo i hi] at e;cases e;exact(F1,bV.refl _,R,.int _,)
def aMn(fa:FE):FL:=λ env S=>(fa env S).bind λ p=>match p.1 with|.d (.list ds)=>qz (ds,p.2)|_=>qx
def aM6(fa:FE):FL:=λ env S=>(fa env S).bind λ p=>match p.1 with|.d (.tuple ds)=>qz (ds,p.2)|_=>qx
def aYv{fa:FE}(ha:PE X a (aP X.K fa)):PI X tg a (jG X.K (aMn fa)):=PI.weak (aSC ha) λ σ H Rr aW=>by
 let(F,L,S,env,ds,S',R,E,e,q):=aW;let((w,S1),e1,e2):=aJ e;dsimp only at e2;split at e2
 .cases e2;refine(F,L,S,env,_,_,R,E,e1,λ F1 L1 H1 v g1 R1 d1=>?_,);cases (show Den X.K F1 (.list ds) v from d1) with
  |lst sq dl=>exact(_,rfl,(_,R1.sub.seq sq,),q F1 L1 H1 _ g1 R1 (aRM sq dl),)
 .cases e2
def aXl{fa:FE}(ha:PE X a (aP X.K fa)):PI X tg a (jG X.K (aM6 fa)):=PI.weak (aWm ha) λ σ H Rr aW=>by
 let(F,L,S,env,ds,S',R,E,e,q):=aW;let((w,S1),e1,e2):=aJ e;dsimp only at e2;split at e2
 .cases e2;refine(F,L,S,env,_,_,R,E,e1,λ F1 L1 H1 v g1 R1 d1=>?_,);cases (show Den X.K F1 (.tuple ds) v from d1) with
  |tup sq dl=>exact(_,rfl,(_,kI R1.sub sq,),q F1 L1 H1 _ g1 R1 (aUQ sq dl),)
 .cases e2
def wE(fa:FE):FL:=λ env S=>(fa env S).bind λ p=>match p.1 with
 |.d (.int j)=>if -(2^62)<=j/\j<2^62 then qz (kS 0 j.toNat,p.2) else qx
 |_=>qx
def wJ(fa fb:FE):FL:=λ env S=>(fa env S).bind λ p=>(fb env p.2).bind λ q=>match p.1,q.1 with
 |.d (.int i),.d (.int j)=>if (-(2^62)<=i/\i<2^62 /\ -(2^62)<=j/\j<2^62) then qz (kS i (j-i).toNat,q.2) else qx
 |_,_=>qx
def aUI{fa:FE}(σ:St)(H:Hp)(Rr:It->Hp->Prop)(h:jG K (wE fa) σ H Rr):aK7 (dQ K (cL fa gG)) σ H Rr:=by
 let(F,L,S,env,ds,S',R,E,e,q):=h;let((w,S1),e1,e2):=aJ e;dsimp only at e2;split at e2
 .split at e2
  .rename_i j c;cases e2;refine(F,L,S,env,[.d (.int j)],_,R,E,by unfold cL;rw[e1];rfl,λ F1 L1 H1 vs g1 R1 d1=>?_,);cases d1 with
   |cons dd dr=>
     cases dr;cases (show Den K F1 (.int j) _ from dd);exact(j,rfl,c.1,c.2,q F1 L1 H1 _ g1 R1 (aIh 0 j.toNat),)
  .cases e2
 .cases e2
def aUE{fa fb:FE}(σ:St)(H:Hp)(Rr:It->Hp->Prop)(h:jG K (wJ fa fb) σ H Rr):aLl (dQ K (cL fa (cL fb gG))) σ H Rr:=by
 let(F,L,S,env,ds,S',R,E,e,q):=h;let((w,S1),e1,e2):=aJ e;let((w2,S2),e3,e4):=aJ e2;dsimp only at e4;split at e4
 .split at e4
  .rename_i i j _ _ c;cases e4;refine(F,L,S,env,[.d (.int _),.d (.int _)],_,R,E,by unfold cL;rw[e1];dsimp only[yDj];rw[e3];rfl,λ F1 L1 H1 vs g1 R1 d1=>?_,);cases d1 with
   |cons dd dr=>
     cases dr with
     |cons dd2 dr=>
       cases dr;cases (show Den K F1 (.int _) _ from dd);cases (show Den K F1 (.int _) _ from dd2);exact(_,_,rfl,c,q F1 L1 H1 _ g1 R1 (aIh _ _),)
  .cases e4
 .cases e4
def kQ(t:Tg)(fb:FS):List D->FS
 |[]=>λ env S=>qz (.nx env,S)
 | d::ds=>λ env S=>(t.put d env).bind λ e1=>(fb e1 S).bind λ q=>(match q.1 with
    |.nx e=>kQ t fb ds e q.2|.ct e=>kQ t fb ds e q.2|.bk e=>qz (.nx e,q.2)
    | .rt w=>qz (.rt w,q.2))
def jP(t:Tg)(fi:FL)(fb:FS):FS:=λ env S=>(fi env S).bind λ p=>kQ t fb p.1 env p.2
def aZh{fi:FL}{fb:FS}(hp:PassesOwn (model X.prog X.w) X.A X.env X.xe)(hc:X.calm=true)(hi:PI X tg iter (jG X.K fi))(hg:PG X tg g)(ga:GA X.K t g)(hb:dJ X b (dL X.K fb))(hs:∀ x,jq iter X.env x=pure x):PS X (.For tg iter b [] pos) (dL X.K (jP t fi fb)):=PS.weak (aUH hp hc hi hg hb hs) λ D σ H h=>by
 let(F,L,S,env,fl,S',R,E,e,q):=lI h;let((ds,S1),e1,e2):=aJ e;refine(F,L,S,env,ds,S1,R,E,e1,λ F0 L0 H0 J g0 R0 wk=>?_,)
 dsimp only at e2;refine⟨λ i m σ1 H1=>i+m=↑ds/\∃ F1 L1 S1 env1,Gr F0 L0 F1 L1/\Rel X.K F1 L1 S1 H1/\EnvR X.K F1 L1 env1 σ1/\kQ t fb (ds.drop i) env1 S1=qz (fl,S'),
  (↑ds,yCx _,F0,L0,S1,env,Gr.refl,R0,E.mono g0,by rw[yGn];exact e2,),?_⟩
 rintro i m σ1 H1 ⟨him,F1,L1,S1',env1,g1,R1,E1,e3⟩;cases m with
 |zero=>
   have hi:i=↑ds:=by omega
   subst hi;rw[yIj] at e3;cases e3;exact .inl (wk.stop H1 (g1.f.trans R1.sub),q F1 L1 H1 (g0.trans g1) R1 σ1 E1,)
 |succ m=>
   have hi:i<↑ds:=by omega
   refine .inr ⟨wk.go i H1 (g1.f.trans R1.sub) hi,λ σ3 H3=>∃ F3 L3 S3 env3,Gr F0 L0 F3 L3/\Rel X.K F3 L3 S3 H3/\EnvR X.K F3 L3 env3 σ3/\kQ t fb (ds.drop (i+1)) env3 S3=qz (fl,S'),
    λ σ3 H3 h3=>(m,yBa m,by omega,h3,),λ x H2 y=>?_⟩
   rw[yFg hi] at e3;let(env2,e4,e5):=aJ e3;let((f6,S6),e6,e7):=aJ e5;let(F2,s2,R2,d2):=wk.yld i H1 F1 L1 S1' x H2 ds[i] g1 R1 (yAa hi) y;have g2:Gr F1 L1 F2 L1:=(s2,[],by simp,);refine ga ds[i] x σ1 H2 F2 L1 S1' env1 env2 _ R2 (E1.mono g2) d2 e4 λ σ2 E2=>?_
   refine mY R2 E2 e6 λ F3 L3 H3 g3 R3=>?_
   have g03:=(g1.trans g2).trans g3;cases f6 with
   |nx e'=>exact λ σ3 E3=>(F3,L3,S6,e',g03,R3,E3,e7,)|ct e'=>exact λ σ3 E3=>(F3,L3,S6,e',g03,R3,E3,e7,)|bk e'=>cases e7;exact λ σ3 E3=>q F3 L3 H3 (g0.trans g03) R3 σ3 E3|rt w=>cases e7;exact λ v d=>q F3 L3 H3 (g0.trans g03) R3 v d
def qX(k:Nat):aC->List W0->Option (List W0×aC)
 |S,[]=>qz ([],S)|S,.d x::r=>(qX k S r).map λ p=>(.d x::p.1,p.2)
 |S,.loc m::r=>if m<k then (qX k S r).map λ p=>(.loc m::p.1,p.2) else match S[m]? with
   |some (qz ds)=>(qX k (S.set m qx) r).map λ p=>(.d (.list ds)::p.1,p.2)|_=>qx
 |_,.dic _::_=>qx
def mD(k:Nat)(S:aC):W->Option (W×aC)
 |.d x=>qz (.d x,S.take k)
 |.loc m=>if m<k then qz (.loc m,S.take k) else match S[m]? with
   |some (qz ds)=>qz (.d (.list ds),S.take k)|_=>qx
 |.exc c r=>qz (.exc c r,S.take k)|.tpl ws=>(qX k S ws).map λ p=>(.tpl p.1,p.2.take k)|_=>qx
def map_some{α β:Type}{o:Option α}{f:α->β}{b:β}(h:o.map f=qz b):∃ a,o=qz a/\f a=b:=by
 cases o with
 |none=>cases h|some a=>cases h;exact(a,rfl,rfl,)
def aAz:∀ {ws:List W0}{vs:List V}{F:Hp}{S:aC}{ws':List W0}{S':aC},Rel K F (L++M) S H->qZ K F (L++M) ws vs->qX ↑L S ws=qz (ws',S')->∃ F',bV F F'/\Rel K F' (L++M) S' H/\qZ K F' L ws' vs/\S'.take ↑L=S.take ↑L
 |[],_,F,S,ws',S',R,.nil,e=>by cases e;exact(F,bV.refl _,R,.nil,rfl,)
 |.d x::r,_,F,S,ws',S',R,.cons h t,e=>by
   let((u,S1),e1,e2):=map_some e;cases e2;let(F',sf,R',d,z):=aAz R t e1;exact(F',sf,R',.cons (Den.mono sf h) d,z,)
 |.loc m::r,_,F,S,ws',S',R,.cons h t,e=>by
   unfold qX at e;let(a,ea,rfl):=h;split at e
   .rename_i hm;let((u,S1),e1,e2):=map_some e;cases e2;let(F',sf,R',d,z):=aAz R t e1;rw[xAm hm] at ea;exact(F',sf,R',.cons (a,ea,rfl,) d,z,)
   .rename_i hm;split at e
    .rename_i ds es;let((u,S1),e1,e2):=map_some e;cases e2;let(F2,g2,R2,d2):=R.freeze ea es;let(F',sf,R',d,z):=aAz R2 (L2.Paired.mapP t λ _ _ q=>q.mono g2) e1;refine(F',g2.f.trans sf,R',.cons (Den.mono sf d2) d,z.trans ?_,);rw[List.take_set,yEb (by rw[yBo];omega)]
    .cases e
 |.dic m::r,_,F,S,ws',S',R,.cons h t,e=>by cases e
def eY(fb:FS)(n:Nat)(ws:List W)(S:aC):Option (W×aC):=(fb (ws.map qz++yAe (n-↑ws) qx) S).bind λ p=>match p.1 with|.rt w=>mD ↑S p.2 w|.nx _=>qz (.d .none,p.2.take ↑S)|_=>qx
def aOF{N:List Str}:∀ {ws:List W}{vs:List V},WDenL K F L ws vs->EnvR K F L (ws.map qz++yAe (N.length-↑ws) qx) (L2.start N vs):=by
 intro ws vs h;unfold L2.start;rw[h.length];generalize N.length-↑vs=k;refine(by simp[h.length],?_,)
 induction h with
 |nil=>
   intro i w e;have:=xAk e;simp at this
 |cons hd tl ih=>
   intro i w e;cases i with
   |zero=>simp at e;subst e;exact(_,rfl,hd,)
   |succ i=>
     let(v,e1,d):=ih i w (e:);exact(v,by simpa using e1,d,)
def aKB{F1:Hp}{L:Lx}{S:aC}{Q:VK}(R:↑L=↑S)(g:Gr F L F1 L1)(R1:Rel K F1 L1 S1 H1)(d:dH K F1 L1 w v)(e:mD ↑S S1 w=qz (w',S'))(q:tR K F L S' w' Q):Q v H1:=by
 let(sf,M,rfl):=g;cases w with
 |d x=>
   cases e;have R2:=R1.cut;rw[R] at R2;exact q F1 L H1 v (sf,[],by simp,) R2 d
 |exc c r=>
   cases e;have R2:=R1.cut;rw[R] at R2;exact q F1 L H1 v (sf,[],by simp,) R2 d
 |dic n=>cases e|ob fs=>cases e
 |tpl ws=>
   let((u,S2),e1,e2):=map_some (show(qX ↑S S1 ws).map (λ p=>(W.tpl p.1,p.2.take ↑S))=qz (w',S') from e);cases e2;let(a,vs,rfl,h1,h2):=d;rw[<- R] at e1;let(F2,s2,R2,d2,z):=aAz R1 h2 e1;have R3:=R2.cut;rw[R] at R3;exact q F2 L H1 _ (sf.trans s2,[],by simp,) R3 (a,vs,rfl,s2 _ _ h1,d2,)
 |loc m=>
   have e':(if m<↑S then qz (W.loc m,S1.take ↑S) else match S1[m]? with|some (qz ds)=>qz (W.d (.list ds),S1.take ↑S)|_=>qx)=qz (w',S'):=e;split at e'
   .rename_i hm;cases e';have R2:=R1.cut;rw[R] at R2;let(a,ea,rfl):=d;rw[xAm (by rw[R];exact hm)] at ea;exact q F1 L H1 _ (sf,[],by simp,) R2 (a,ea,rfl,)
   .rename_i hm;split at e'
    .rename_i ds es;cases e';let(a,ea,rfl):=d;let(F2,g2,R2,d2):=R1.freeze ea es;have R3:=R2.cut;rw[R,List.take_set,yEb (by rw[yBo];omega)] at R3;exact q F2 L H1 _ (sf.trans g2.f,[],by simp,) R3 d2
    .cases e'
def aWS{fb:FS}{N:List Str}{Q:VK}{E:XK}(h:pN K np (eY fb N.length) vs H Q E):dL K fb {nx:=λ _ H'=>Q .non H',rt:=Q } (L2.start N vs) H:=by
 let(F,L,S,ws,w,S',hn,R,dl,e,q):=h;let((fl,S1),e1,e2):=aJ e;refine mY R (aOF dl) e1 λ F1 L1 H1 g1 R1=>?_
 cases fl with
 |nx aM=>
   cases e2;exact λ σ' E'=>aKB (w:=.d .none) R.len g1 R1 Den.non rfl q
 |rt w'=>exact λ v d=>aKB R.len g1 R1 d e2 q|bk aM=>cases e2|ct aM=>cases e2
def aFZ{α β:Type}{f:α->β->Sem (ForInStep β)}{g:α->β->β}:∀ (l:List α) (c:β),(∀ x∈l,∀ c,f x c=pure (ForInStep.yield (g x c)))->forIn l c f=pure (l.foldl (λ c x=>g x c) c)
 |[],c,_=>rfl
 |x::l,c,h=>by
   rw[List.forIn_cons,h x xAc c,pure_bind];exact aFZ l (g x c) λ y hy=>h y (xAf _ hy)
def kC(env:Env)(x:Str×jo)(cs:List (Str×qw)):List (Str×qw):=if (x.2==NameKind.free)=true then (x.1,(env.cells.lookup x.1).getD 0)::cs else cs
def xH(scope:zy)(env:Env):List (Str×qw):=scope.names.foldl (λ c x=>kC env x c) []
def aO6{scope:zy}{env:Env}(h:∀ x∈scope.names,x.2=.free->∃ c,env.cells.lookup x.1=qz c):closureFor scope env=pure (xH scope env):=by
 unfold closureFor xH;dsimp only;rw[aFZ (g:=kC env) scope.names [] (λ x hx c=>?_)]
 .rfl
 .let(n,k):=x;unfold kC;dsimp only;by_cases hk:k=.free
  .let(a,ha):=h (n,k) hx hk;rw[if_pos (by simp[hk]),if_pos (by simp[hk])];have:cellOf env n=pure a:=by unfold cellOf;rw[ha]
   rw[this,pure_bind,ha];rfl
  .rw[if_neg (by simp[hk]),if_neg (by simp[hk])]
def aH8{env:Env}:∀ (l:List (Str×jo)) (aO:List (Str×qw)),(∀ x∈l,x.2=.free->∃ c,env.cells.lookup x.1=qz c)->(∀ x c,aO.lookup x=qz c->env.cells.lookup x=qz c) ->
 ∀ x c,(l.foldl (λ c x=>kC env x c) aO).lookup x=qz c->env.cells.lookup x=qz c
 |[],aO,_,ha,x,c,e=>ha x c e
 |y::l,aO,h,ha,x,c,e=>by
   refine aH8 l (kC env y aO) (λ z hz=>h z (xAf _ hz)) (λ z d ez=>?_) x c e;unfold kC at ez;split at ez
   .rename_i hk;let(a,hy):=h y xAc (hk:);rw[yBp] at ez;split at ez
    .rename_i hz;cases ez;have:z=y.1:=(hz:)
     rw[this,hy];rfl
    .exact ha z d ez
   .exact ha z d ez
def aDX:∀ (l:List (Str×jo)) (aO:List (Str×qw)) (x:Str),((∃ k,(x,k)∈l/\k=.free)\/∃ c,aO.lookup x=qz c)->∃ c,(l.foldl (λ c x=>kC env x c) aO).lookup x=qz c
 |[],aO,x,h=>by
   rcases h with ⟨k,hk,_⟩|h
   .simp at hk
   .exact h
 |y::l,aO,x,h=>by
   refine aDX l (kC env y aO) x ?_;have step:(∃ c,aO.lookup x=qz c)->∃ c,(kC env y aO).lookup x=qz c:=λ aW=>by
    let(c,e):=aW;unfold kC;split
    .rw[yBp];split
     .exact(_,rfl,)
     .exact(c,e,)
    .exact(c,e,)
   rcases h with ⟨k,hk,e⟩|h
   .rcases List.mem_cons.mp hk with z|z
    .right;subst z e;unfold kC;rw[if_pos (by simp)];exact((env.cells.lookup x).getD 0,by rw[yBp];simp,)
    .exact .inl (k,z,e,)
   .exact .inr (step h)
def aGa(h:Str->jo->jo):∀ l:List (Str×jo),(l.map λ p=>(p.1,h p.1 p.2)).lookup x=(l.lookup x).map (h x)
 |[]=>rfl
 |(n,k)::r=>by
   have ih:=@aGa x h r;rw[yAf,yBp,yBp];cases hx:x==n with
   |true=>
     have e:x=n:=(hx:)
     subst e;rfl
   |false=>exact ih
def aNP{env:Env}(names:List (Str×jo)) :
 (names.map λ(n,k)=>if (k==NameKind.free&&env.scope.kind==.function&&env.kindOf n==qz .cell) then (n,NameKind.cell) else (n,k)).lookup x =
   (names.lookup x).map λ k=>if (k==NameKind.free&&env.scope.kind==.function&&env.kindOf x==qz .cell) then NameKind.cell else k:=by
 have e:(λ(p:Str×jo)=>match p with|(n,k)=>if (k==NameKind.free&&env.scope.kind==.function&&env.kindOf n==qz .cell)=true then (n,NameKind.cell) else (n,k)) =
  λ p=>(p.1,if (p.2==NameKind.free&&env.scope.kind==.function&&env.kindOf p.1==qz .cell)=true then NameKind.cell else p.2):=funext λ aW=>by
  let(n,k):=aW;dsimp only;split<;>rfl
 rw[e];exact aGa (λ n k=>if (k==NameKind.free&&env.scope.kind==.function&&env.kindOf n==qz .cell)=true then NameKind.cell else k) names
def aN7{R:Result -> qv -> Prop}(I:Nat->qv->Prop)(turn:∀ n s,I n s->qu (model prog w) A (ww it) (λ r s₁=>match r with
   |none=>R (.ok .next) s₁
   | some v=>qu (model prog w) A (vk target it v) (λ _ s₀=>qu (model prog w) A (assign target env v) (λ _ s₂=>
      qu (model prog w) A (forIn ifs true λ c r=>if r=true then do let ok <- isTrue c env (eval c env);pure (ForInStep.yield ok) else pure (ForInStep.yield r)) (λ ok s₃=>
       if ok=true then qu (model prog w) A (eval elt env) (λ x s₄=>
        qu (model prog w) A (call (.builtin "list.append") [aO,x]) (λ _ s₅=>∃ m,m<n/\I m s₅) (λ _ _=>False) s₄) (λ _ _=>False) s₃
       else ∃ m,m<n/\I m s₃) (λ _ _=>False) s₂) (λ _ _=>False) s₀) (λ _ _=>False) s₁) (λ _ _=>False) s)(n:Nat)(h:I n s):jj (model prog w) A (.compLoop (.ListComp elt [(target,iter,ifs,0,)] scope pos) 0 it aO env) R s:=by
 have up:∀ {α:Type}{t:Sem α}{Q Q':α->qv->Prop}{E:qj->qv->Prop}{s:qv},qu (model prog w) A t Q (λ _ _=>False) s->(∀ a s,Q a s->Q' a s)->qu (model prog w) A t Q' E s:=
  λ h hq=>wpAny_mono h hq λ _ _ f=>f.elim
 refine codeAny_loop rfl I (λ n s hI=>?_) n h;show qu _ A ((compTurn (.ListComp elt [(target,iter,ifs,0,)] scope pos) 0 it aO env).onRaise (λ x=>do noteFrame x env;theTreesLotGoes x)) _ _ s;refine wpAny_noted ?_;rw[compTurn_list];refine wB (yx (wB (up (turn n s hI) λ r s₁ h₁=>?_)));cases r with
 |none=>exact wP h₁
 |some v=>
   refine wB (up h₁ λ _ s₀ h₀=>?_);refine wB (up h₀ λ _ s₂ h₂=>wB (up h₂ λ ok s₃ h₃=>?_));cases ok with
   |false=>exact wP (rfl,h₃,)
   |true=>
     exact wB (wB (up h₃ λ x s₄ h₄=>wB (up h₄ λ _ s₅ h₅=>wP (wP (rfl,h₅,)))))
def kY(X:Cx)(aB:List (qw×Obj))(fp:List qw)(scope:zy)(C:qw)(s₀:qv)(H₀:Hp):Cx:=
 {X with s₀:=s₀,H₀:=H₀,env:=compEnvC scope (xH scope X.env) C X.env,outer:=X.stack,stack:=X.stack,ex:=fp,fn:=λ _=>false,pn:=X.pn++aB,xe:=λ _ _=>False }
def kB(X:Cx)(scope:zy)(Y:Cx):Prop:=∃ aB fp C s₀ H₀,Y=kY X aB fp scope C s₀ H₀
structure ScOk(scope osc:zy):Prop where
 kind:scope.kind=.function
 nocell:∀ x∈scope.names,x.2≠.cell
 free:∀ x∈scope.names,x.2=.free->osc.names.lookup x.1=qz .cell\/osc.names.lookup x.1=qz .free
 loc:∀ x∈scope.names,x.2=.local->scope.names.lookup x.1=qz .local
def mem_of_lookup{α:Type}{k:α}:∀ {l:List (Str×α)},l.lookup x=qz k->(x,k)∈l
 |[],h=>by simp at h
 |(n,j)::r,h=>by
   rw[yBp] at h;split at h
   .rename_i hx;cases h;have:x=n:=(hx:)
    subst this;exact xAc
   .exact xAf _ (mem_of_lookup h)
section
variable {X:Cx}{aB:List (qw×Obj)}{σ:L2.St}{H:Hp}{s:qv}{scope:zy}{fp:List qw}
def aGI:(kY X aB fp scope C s₀ H₀).env.kindOf x=(scope.names.lookup x).map λ k=>if (k==NameKind.free&&X.env.scope.kind==.function&&X.env.kindOf x==qz .cell) then NameKind.cell else k:=
 aNP scope.names
def aGZ(ok:ScOk scope X.env.scope)(h:(kY X aB fp scope C s₀ H₀).env.kindOf x=qz .cell\/(kY X aB fp scope C s₀ H₀).env.kindOf x=qz .free):scope.names.lookup x=qz .free:=by
 rw[aGI] at h;cases e:scope.names.lookup x with
 |none=>rw[e] at h;simp at h
 |some k=>
   rw[e] at h;have nc:=ok.nocell (x,k) (mem_of_lookup e);cases k with
   |free=>rfl|cell=>exact absurd rfl nc| «local» => simp at h|globalExplicit=>simp at h|globalImplicit=>simp at h
def aIB(I:Inv X aB σ H s)(hfp:∀ b∈fp,gH X aB H b):∀ b∈fp,b ∉ iQ X.stack:=λ b hb z=>by
 rcases List.mem_cons.mp (I.stkSub b z) with q|q
 .exact(hfp b hb).2.1 q
 .exact(hfp b hb).2.2.1 q
def aHd(I:Inv X aB σ H s)(ok:ScOk scope X.env.scope):∀ x∈scope.names,x.2=.free->∃ c,X.env.cells.lookup x.1=qz c:=λ x hx e=>by
 rcases ok.free x hx e with q|q
 .exact I.ok.has x.1 (.inl q)
 .exact I.ok.has x.1 (.inr q)
def qO(I:Inv X aB σ H s)(ok:ScOk scope X.env.scope)(h:(xH scope X.env).lookup x=qz c):X.env.cells.lookup x=qz c:=
 aH8 scope.names [] (aHd I ok) (λ x c e=>by simp at e) x c h
def aSk(I:Inv X aB σ H s)(ok:ScOk scope X.env.scope)(hfp:∀ b∈fp,gH X aB H b)(hth:∀ b∈fp,b<s.heap.objs.size)(hC:s.heap.objs.size<=C):(kY X aB fp scope C s H).Ok where
 mod:=I.ok.mod
 kind:=ok.kind
 glob:=I.ok.glob
 blt:=I.ok.blt
 above:=hC
 inj:=λ x y c h1 h2=>I.ok.inj x y c (qO I ok h1) (qO I ok h2)
 has:=λ x h=>aDX scope.names [] x (.inl (.free,mem_of_lookup (aGZ ok h),rfl,))
 cab:=λ x c h _=>nomatch h
 hd:=I.ok.hd
 frames:=I.ok.frames
 stk:=.inl rfl
 exf:=λ b hb=>(λ z=>absurd (xAb (hth b hb) hC) (by have z':b=C:=z;rw[z'];exact yBl _),λ x c h=>(hfp b hb).2.2.2.2.1 x c (qO I ok h),)
 bs:=I.bs
 bsz:=xAh I.ok.bsz I.sz
 noex:=λ b o e hb=>by
  rcases (hfp b hb).2.2.2.1 with z|z
  .exact I.ok.noex b o e z
  .exact absurd (xAb (xAa e) (xAh I.ok.bsz z)) (yBl _)
 exfs:=λ b hb=>aIB I hfp b hb
 funs:=I.stack
 frf:=I.stkFree
end
def clr{α:Type}(is:List Nat)(l:List (Option α)):List (Option α):=is.foldl (λ e i=>e.set i qx) l
def zY{α:Type}:∀ (is:List Nat) (l:List (Option α)),(clr is l).length=↑l
 |[],_=>rfl
 |i::is,l=>by
   show(clr is (l.set i qx)).length=_;rw[zY is,yBf]
def aAs{α:Type}:∀ (is:List Nat) (l:List (Option α)) (j:Nat) (v:α),(clr is l)[j]?=qz (qz v)->l[j]?=qz (qz v)/\j ∉ is
 |[],_,_,_,h=>(h,by simp,)
 |i::is,l,j,v,h=>by
   let(h1,h2):=aAs is (l.set i qx) j v h;by_cases hj:i=j
   .subst hj;rcases Nat.lt_or_ge i ↑l with q|q
    .rw[yAq q] at h1;cases h1
    .rw[yDs (by rw[yBf];exact q)] at h1;cases h1
   .rw[yAt hj] at h1;exact(h1,λ z=>(List.mem_cons.mp z).elim (λ e=>hj e.symm) h2,)
def aHZ{α:Type}:∀ (is:List Nat) (l:List (Option α)) (j:Nat),j ∉ is->(clr is l)[j]?=l[j]?
 |[],_,_,_=>rfl
 |i::is,l,j,h=>by
   show(clr is (l.set i qx))[j]?=_;rw[aHZ is _ j (λ z=>h (xAf _ z)),yAt (λ z=>h (by rw[z];exact xAc))]
def Tg.slots:Tg->List Nat
 |.one i=>[i]|.many is=>is
def EnvR.clr(h:EnvR K F L env σ)(is:List Nat):EnvR K F L (EV.clr is env) (EV.clr is σ):=
 ⟨by rw[zY,zY];exact h.len,λ j w e=>by
  let(e1,hj):=aAs is env j w e;let(v,e2,d):=h.get j w e1;exact(v,by rw[aHZ is σ j hj];exact e2,d,)⟩
def aCg:∀ {is:List Nat}{ds:List D}{env aM:aX}{j:Nat},mU is ds env=qz aM->j ∉ is->aM[j]?=env[j]?
 |[],[],_,_,_,e,_=>by cases e;rfl
 |i::is,d::ds,env,aM,j,e,h=>by
   rw[@aCg is ds _ _ _ e (λ z=>h (xAf _ z)),yAt (λ z=>h (by rw[z];exact xAc))]
 |[],_::_,_,_,_,e,_=>by cases e|_::_,[],_,_,_,e,_=>by cases e
def Tg.put_keep{t:Tg}(e:t.put d env=qz aM)(h:j ∉ t.slots):aM[j]?=env[j]?:=by
 cases t with
 |one i=>cases e;exact yAt (λ z=>h (by rw[z];exact xAc))
 |many is=>
   cases d with
   |tuple ds=>exact aCg e h|list ds=>exact aCg e h|_=>cases e
def aCa:∀ {is:List Nat}{ds:List D}{env aM:aX},mU is ds env=qz aM->aM.length=env.length
 |[],[],_,_,e=>by cases e;rfl|i::is,d::ds,env,aM,e=>by rw[@aCa is ds _ _ e,yBf]|[],_::_,_,_,e=>by cases e|_::_,[],_,_,e=>by cases e
def Tg.put_length{t:Tg}(e:t.put d env=qz aM):aM.length=env.length:=by
 cases t with
 |one i=>cases e;exact yBf
 |many is=>
   cases d with
   |tuple ds=>exact aCa e|list ds=>exact aCa e|_=>cases e
def EnvR.back{F:Hp}{L:Lx}{env aM:aX}{σ:St}{t:Tg}{d:D}(e:t.put d (EV.clr t.slots env)=qz aM)(h:EnvR K F L aM σ):EnvR K F L (EV.clr t.slots env) σ:=
 ⟨by rw[<- h.len,Tg.put_length e],λ j w q=>by
  let(_,hj):=aAs t.slots env j w q;exact h.get j w (by rw[Tg.put_keep e hj];exact q)⟩
def gE(t:Tg)(fc:FT)(fe:FE)(n:Nat)(env:aX):List D->aC->Option aC
 |[],S=>qz S
 |d::ds,S=>(t.put d env).bind λ e1=>(fc e1 S).bind λ c=>if c.1=true then (fe e1 c.2).bind λ p=>(eO p.2 (.loc n) p.1).bind λ r=>gE t fc fe n env ds r.2 else gE t fc fe n env ds c.2
def iI(t:Tg)(fi:FL)(fc:FT)(fe:FE):FL:=λ env S=>(fi env S).bind λ p=>(gE t fc fe p.2.length (clr t.slots env) p.1 (p.2++[qz []])).bind λ S'=>match S'[p.2.length]? with|some (qz zs)=>qz (zs,S'.take p.2.length)|_=>qx
def mP(Y:Cx)(ifs:List qy)(fc:FT):Prop:=∀ (aB:List (qw×Obj)) (s:qv) (σ:St) (H:Hp) (Q:Bool->Hp->Prop),Inv Y aB σ H s->gZ Y.K fc σ H Q ->
 qu (model Y.prog Y.w) Y.A (forIn ifs true λ c r=>if r=true then do let ok <- isTrue c Y.env (eval c Y.env);pure (ForInStep.yield ok) else pure (ForInStep.yield r)) (TP Y aB σ Q) Y.xe s
def kO:FT:=λ _ S=>qz (true,S)
def aGK:mP Y [] kO:=λ aB s σ H Q I aW=>by
 let(F,L,S,env,b,S',R,E,e,q):=aW;cases e;exact wpAny_tests_nil (H,I,q F L H Gr.refl R,)
def aHo{fc:FT}(h:PT Y c (gZ Y.K fc)):mP Y [c] fc:=λ aB s σ H Q I q=>wpAny_tests_one (h aB s σ H Q I q)
def aEf(N:List Str)(scope:zy)(is:List Nat):Prop:=∀ (i:Nat) (x:Str),N[i]?=qz x->scope.names.lookup x=qz .local->i∈is
def aGW{scope:zy}{tg iter elt:qy}{ifs:List qy}{pos:Pos}{t:Tg}{g:TG}{fi:FL}{fc:FT}{fe:FE}(use:Option (qj->Sem Unit))(hc:X.calm=true)(ok:ScOk scope X.env.scope)(own:aEf X.N scope t.slots)(hi:PI X tg iter (jG X.K fi))(hg:∀ Y,kB X scope Y->PG Y tg g)(ga:GA X.K t g)
 (ht:∀ Y,kB X scope Y->mP Y ifs fc) (he:∀ Y,kB X scope Y->PE Y elt (aP X.K fe)) (hs:∀ x,jq iter X.env x=pure x)
 {aB:List (qw×Obj)}{s:qv}{σ:St}{H:Hp}{Q:VK}{QQ:qj->qv->Prop}{pp:Pos} (I:Inv X aB σ H s) (h:iO X.K (iI t fi fc fe) σ H Q)
 (hend:∀ (p C:qw) (s1:qv) (H':Hp),gH X aB H' C->(∃ m,s1.heap.Ns C m)->(∀ h',yCi C s1.heap h'->Inv X aB σ H' {s1 with heap:=h' })->Q (.ref p) H' ->
   compPost (model X.prog X.w) X.A X.xe use QQ (.ref p) C (.ok .next) s1) :
 qu (model X.prog X.w) X.A (comprehension (.ListComp elt [(tg,iter,ifs,0,)] scope pos) scope X.env pp (newList []) false (eval iter X.env) use) QQ X.xe s:=by
 let(F,L,S,env,zs,S',R,E,e,q):=h;let((ds,S1),e1,e):=aJ e;let(S2,e2,e):=aJ e;dsimp only at e e2;have hz:S2[↑S1]?=qz (qz zs)/\S'=S2.take ↑S1:=by
  split at e
  .rename_i z ez;cases e;exact(ez,rfl,)
  .cases e
 let(hz,rfl):=hz;refine wpAny_comprehension_free (use:=use) rfl hs (aO6 (aHd I ok)) ok.kind ok.loc ?_;refine bA (hi aB s σ H (λ J H'=>∃ F' L',Gr F L F' L'/\Rel X.K F' L' S1 H'/\Wk X.K F' L' J ds) I ⟨F,L,S,env,ds,S1,R,E,e1,λ F' L' H' J g R' wk=>(F',L',g,R',wk,)⟩) λ v s1 h1=>bA h1 λ itv s2 h2=>?_
 let(it,fp,tn,J,H2,rfl,I2,T,st2,f2,F1,L1,g1,R1,wk):=h2;refine xw (wpAny_newFunctionEnv ok.nocell (by intro y hy;simp at hy) (λ h₁ hns₁ hsb₁=>?_) ok.kind);dsimp only at hns₁ hsb₁ ⊢;have I3:Inv X aB σ (bB H2 s2.heap.objs.size (.lst [])) {s2 with heap:=s2.heap.push {cls:=.type "list",dict:=qx,data:=.seq ([]:List qj).toArray } }:=I2.lnew (aG:=[]) (t':=s2.toks) .nil (yDa _);generalize hs3:({s2 with heap:=s2.heap.push {cls:=.type "list",dict:=qx,data:=.seq ([]:List qj).toArray } }:qv)=s3 at I3;have hh3:s2.heap.push {cls:=.type "list",dict:=qx,data:=.seq ([]:List qj).toArray }=s3.heap:=by rw[<- hs3]
 generalize hD:s2.heap.objs.size=Dd at I3;generalize hH3:bB H2 Dd (.lst [])=H3 at I3;have hfr2:H2 Dd=qx:=by rw[<- hD];exact I2.fresh
 rw[hh3] at hns₁ hsb₁;rw[hh3];have hst:({heap:=h₁,gens:=s2.gens,drawn:=s2.drawn,toks:=s2.toks+([]:List (Str×qj)).length,os:=s2.os }:qv)={s3 with heap:=h₁,toks:=s3.toks+([]:List (Str×qj)).length }:=by rw[<- hs3]
 rw[hst];clear hst;generalize hC:s3.heap.objs.size=C at hns₁ hsb₁;have old:∀ b u,s3.heap.get? b=qz u->h₁.get? b=qz u:=λ b u q=>by
  have hb:b≠C:=by rw[<- hC];exact xAj (xAa q)
  exact hsb₁.extBut b u hb (hpS _ q)
 have lt2:∀ b∈fp,b<s2.heap.objs.size:=λ b hb=>by
  let(o,eo,_):=T.obj 0 _ st2 b hb;exact xAa eo
 have up23:∀ b u,s2.heap.get? b=qz u->s3.heap.get? b=qz u:=λ b u q=>by rw[<- hh3];exact hpS _ q
 have lt3:∀ b∈fp,b<s3.heap.objs.size:=λ b hb=>by
  let(o,eo,_):=T.obj 0 _ st2 b hb;exact xAa (up23 b o eo)
 have f3:∀ b∈fp,gH X aB H3 b:=λ b hb=>by
  refine(?_,(f2 b hb).2,);have ne:b≠Dd:=by rw[<- hD];exact xAj (lt2 b hb)
  rw[<- hH3,bR ne];exact(f2 b hb).1
 have okY:(kY X aB fp scope C s3 H3).Ok:=aSk I3 ok f3 lt3 (by rw[hC];exact yAb _);have hIC:kB X scope (kY X aB fp scope C s3 H3):=(aB,fp,C,s3,H3,rfl,);generalize hY:kY X aB fp scope C s3 H3=Y at okY hIC;have yE:Y.env=compEnvC scope (xH scope X.env) C X.env:=by rw[<- hY];rfl
 have I4:Inv Y [] (clr t.slots σ) H3 {s3 with heap:=h₁,toks:=s3.toks+([]:List (Str×qj)).length }:=by
  rw[<- hY] at okY ⊢;refine(okY,rfl,I3.bare,Un.kept old,(_,hns₁,λ i x v a1 a2 a3=>?_,),λ x c a=>?_,?_,λ x c a=>I3.freeC x c (qO I3 ok a),λ p hp=>?_,I3.hok.kept old,by rw[zY];exact I3.len,)
  .let(a4,a5):=aAs t.slots σ i v a2;have nl:scope.names.lookup x≠qz .local:=λ z=>a5 (own i x a1 z)
   have pR:(kY X aB fp scope C s3 H3).env.kindOf x=qz .cell\/(kY X aB fp scope C s3 H3).env.kindOf x=qz .free:=by
    rcases a3 with z|z|z
    .exfalso;have z':(kY X aB fp scope C s3 H3).env.kindOf x=qz .local:=z;rw[aGI] at z';cases ek:scope.names.lookup x with
     |none=>rw[ek] at z';cases z'
     |some k=>
       rw[ek] at z';cases k with
       | «local» => exact nl ek
       |free=>
         simp only[yEc,Option.some.injEq] at z';split at z'<;>cases z'
       |cell=>exact ok.nocell (x,.cell) (mem_of_lookup ek) rfl|globalExplicit=>simp at z'|globalImplicit=>simp at z'
    .exact .inl z
    .exact .inr z
   have fr:=aGZ ok pR;have ov:=ok.free (x,.free) (mem_of_lookup fr) rfl;let(m,hm,hl):=I3.loc;let(u,ru,lk):=hl i x v a1 a4 (ov.elim (λ z=>.inr (.inl z)) λ z=>.inr (.inr z));refine(u,ru,.inr (pR,?_,),);let(c,hcl):=@aDX X.env scope.names [] x (.inl (.free,mem_of_lookup fr,rfl,));have hc2:=qO I3 ok hcl;rcases lk with ⟨z,_⟩|⟨_,c',e',o',ho',hd'⟩
   .exfalso;have z':X.env.scope.names.lookup x=qz .local:=z;rcases ov with w|w
    .rw[w] at z';cases z'
    .rw[w] at z';cases z'
   .rw[hc2] at e';cases e';exact(c,hcl,o',old _ _ ho',hd',)
  .let(v,o,ho,hd):=I3.cell x c (qO I3 ok a);exact(v,o,old _ _ ho,hd,)
  .show H3 C=qx;rw[<- hC];exact I3.fresh
  .have hp':p∈X.pn++aB:=by
    have:p∈(X.pn++aB)++[]:=hp;rwa [yBi] at this
   let(b1,b2,b3,b4,b5):=I3.pin p hp';refine(old _ _ b1,b2,?_,λ z=>?_,b5,)
   .show p.1≠C;rw[<- hC];exact xAj (xAa b1)
   .rcases List.mem_cons.mp (I3.stkSub p.1 z) with w|w
    .exact b3 w
    .exact b4 w
 have fpY:∀ {H':Hp},(∀ b∈fp,H' b=qx)->∀ b∈fp,gH Y [] H' b:=λ hn b hb=>by
  rw[<- hY];refine(hn b hb,?_,aIB I3 f3 b hb,.inl hb,λ x c a=>(f3 b hb).2.2.2.2.1 x c (qO I3 ok a),λ p hp=>?_,)
  .show b≠C;rw[<- hC];exact xAj (lt3 b hb)
  .have hp':p∈X.pn++aB:=by
    have:p∈(X.pn++aB)++[]:=hp;rwa [yBi] at this
   exact(f3 b hb).2.2.2.2.2 p hp'
 have yA:Y.A=X.A:=by rw[<- hY];rfl
 have yP:Y.prog=X.prog:=by rw[<- hY];rfl
 have yW:Y.w=X.w:=by rw[<- hY];rfl
 have yK:Y.K=X.K:=by rw[<- hY];rfl
 have yC:Y.calm=true:=by rw[<- hY];exact hc
 have yX:Y.xe=λ _ _=>False:=by rw[<- hY];rfl
 have R3:Rel X.K F1 (L1++[(Dd,false)]) (S1++[qz []]) H3:=by rw[<- hH3];exact R1.newLoc hfr2 .nil
 obtain⟨PP,hPP⟩:∃ PP:Result->qv->Prop,PP=compPost (model X.prog X.w) X.A X.xe use QQ (.ref Dd) C:=(_,rfl,);have cG:∀ (s1:qv) (σ':L2.St) (H' F':Hp) (L':Lx),Inv Y [] σ' H' s1->Gr F1 (L1++[(Dd,false)]) F' L'->Rel X.K F' L' S2 H'->PP (.ok .next) s1:=by
  intro s1 σ' H' F' L' J' gg RR;rw[hPP];rw[<- hY] at J';let(m,hmC,_):=J'.loc;have hCn:H' C=qx:=J'.free;have hfC:gH X aB H' C:=I3.fpOk (by rw[hC];exact yAb _) hCn;let(sf,M,rfl):=gg;have cJ:↑L1=↑S1:=R1.len;have eL:((L1++[(Dd,false)])++M)[↑S1]?=qz (Dd,false):=by
   rw[yAz,yAi (by rw[cJ];exact yAb _),cJ,yBe];rfl
  let(hF,xs,hx,dl):=RR.loc ↑S1 Dd zs eL hz;have RR2:Rel X.K F' (L1++([(Dd,false)]++M)) S2 H':=by rw[<- yAz];exact RR
  have Rc:=RR2.cut;rw[cJ] at Rc;have hnd:Dd ∉ ad L1:=λ z=>by
   have nd:=RR2.nd;simp only[ad,yAx] at nd;rw[List.nodup_append] at nd;exact nd.2.2 Dd z Dd (by simp) rfl
  refine hend Dd C s1 H' hfC (m,hmC,) (λ h' sb=>?_) (q F' L1 H' Dd xs (g1.trans (sf,[],by simp,)) Rc hF hnd hx dl);have neC:∀ b u,s3.heap.get? b=qz u->b≠C:=λ b u z=>by rw[<- hC];exact xAj (xAa z)
  have kp:∀ b u,b≠C->s1.heap.get? b=qz u->h'.get? b=qz u:=λ b u z w=>sb.extBut b u z w
  have bU:Un (iQ X.stack) fp H3 H' s3.heap s1.heap:=J'.base;have u:Un (iQ X.stack) fp H3 H' s3.heap h':=
   ⟨λ b o z n hb hx=>kp b o (neC b o z) (bU.keep b o z n hb hx),λ b o z n hb hx=>by let(sl,w):=bU.slot b o z n hb hx;exact(sl,kp b _ (neC b o z) w,),bU.free,
    λ b o z hx=>by let(o',w):=bU.there b o z hx;exact(o',kp b _ (neC b o z) w,),bU.tups,bU.frzs,bU.tbls⟩
  have hokY:cS X.prog X.w H' s1.heap:=J'.hok;have hok':cS X.prog X.w H' h':=λ b o z=>(hokY b o z).stay (λ c v hc2 w=>kp c v (λ zz=>by
   rcases hc2 with w2|w2
   .rw[w2] at zz;rw[zz,hCn] at z;cases z
   .rw[zz,hCn] at w2;cases w2) w) (λ _ w=>w) λ _ _ w=>w
  have os1:s1.os=s3.os:=J'.os;exact I3.call' (s':={s1 with heap:=h' }) os1 u hok' J'.bare λ b hb=>((f3 b hb).2.2.2.1,(f3 b hb).2.1,(f3 b hb).2.2.2.2.1,(f3 b hb).2.2.2.2.2,)
 have loop:∀ s5:qv,Inv Y [] (clr t.slots σ) H3 s5->tn 0 s5.heap ->
  jj (model X.prog X.w) X.A (.compLoop (.ListComp elt [(tg,iter,ifs,0,)] scope pos) 0 (.ref it) (.ref Dd) Y.env) PP s5:=by
  intro s5 I5 lC;have E0:EnvR X.K F1 (L1++[(Dd,false)]) (clr t.slots env) (clr t.slots σ):=(E.mono (g1.trans Gr.newLoc)).clr t.slots;obtain⟨Iv,hIv⟩:∃ Iv:Nat->qv->Prop,∀ n s',Iv n s' ↔ (∃ i σ' H' F' L' S',Inv Y [] σ' H' s'/\tn i s'.heap/\(∀ b∈fp,H' b=qx)/\Gr F1 (L1++[(Dd,false)]) F' L'/\Rel X.K F' L' S' H'/\EnvR X.K F' L' (clr t.slots env) σ'/\i+n=↑ds /\
   gE t fc fe ↑S1 (clr t.slots env) (ds.drop i) S'=qz S2):=(_,λ _ _=>Iff.rfl,)
  refine aN7 Iv ?_ ↑ds ((hIv _ _).mpr (0,clr t.slots σ,H3,F1,L1++[(Dd,false)],S1++[qz []],I5,lC,λ b hb=>(f3 b hb).1,Gr.refl,R3,E0,yCx _,by rw[yGn];exact e2,));intro n s6 h6;let(i,σ6,H6,F6,L6,S6,I6,st6,fr6,g6,R6,E6,hin,ec):=(hIv _ _).mp h6;clear h6;have g16:Gr F1 L1 F6 L6:=Gr.newLoc.trans g6;have toA:∀ {α:Type}{tt:Sem α}{QQ:α->qv->Prop}{EE:qj->qv->Prop}{ss:qv},qu (model X.prog X.w) Y.A tt QQ EE ss->qu (model X.prog X.w) X.A tt QQ EE ss:=λ hh=>by rw[yA] at hh;exact hh
  cases n with
  |zero=>
    have hi':i=↑ds:=by omega
    subst hi';rw[yIj] at ec;cases ec;refine bA (toA (T.done Y yP yW yK yC ↑ds [] s6 σ6 H6 _ I6 (fpY fr6) st6 (wk.stop H6 (g16.f.trans R6.sub)))) λ r s7 hPq38=>?_
    let(hr,I7):=hPq38;subst hr;exact cG s7 σ6 H6 F6 L6 I7 g6 R6
  |succ n=>
    have hi':i<↑ds:=by omega
    refine bA (toA (T.item Y yP yW yK yC i [] s6 σ6 H6 _ I6 (fpY fr6) st6 (wk.go i H6 (g16.f.trans R6.sub) hi'))) λ r s7 hPq39=>?_
    let(u,hr,h7):=hPq39;subst hr;refine bA (toA h7) λ _ s8 hPq40=>?_
    let(x,H8,I8,r8,y8,st8,fr8):=hPq40;let(F8,sf8,R8,d8):=wk.yld i H6 F6 L6 S6 x H8 ds[i] g16 R6 (yAa hi') y8;have g8:Gr F6 L6 F8 L6:=(sf8,[],by simp,);rw[yFg hi'] at ec;let(env9,ep,ec):=aJ ec;let((cb,S9),et,ec):=aJ ec;have I8':=I8.pinned (fpY fr8) (T.obj _ _ st8);have toF:∀ {α:Type}{tt:Sem α}{QQ:α->qv->Prop}{ss:qv},qu (model Y.prog Y.w) Y.A tt QQ Y.xe ss->qu (model X.prog X.w) X.A tt QQ (λ _ _=>False) ss:=λ hh=>by rw[yX,yP,yW,yA] at hh;exact hh
    refine toF (bA (hg Y hIC _ s8 σ6 H8 x u (λ σ' H'=>H'=H8/\EnvR X.K F8 L6 env9 σ') I8' r8 (ga ds[i] x σ6 H8 F8 L6 S6 (clr t.slots env) env9 _ R8 (E6.mono g8) d8 ep λ σ' E'=>(rfl,E',))) λ _ s9 hPq41=>?_);let(σ9,H9,I9,hH9,E9):=hPq41;subst hH9;refine toF (bA (ht Y hIC _ s9 σ9 H9 (λ b H'=>∃ F' L',Gr F8 L6 F' L'/\Rel X.K F' L' S9 H'/\b=cb) I9 (by rw[yK];exact(F8,L6,S6,env9,cb,S9,R8,E9,et,λ F' L' H' g' R'=>(F',L',g',R',rfl,),))) λ ok2 s10 hPq42=>?_);let(H10,I10,F10,L10,g10,R10,hb10):=hPq42;subst hb10;dsimp only at ec;have again:∀ {σ7:L2.St}{H7 F7:Hp}{L7:Lx}{S7:aC}{s7':qv},Inv Y ([]++wD fp s8.heap) σ7 H7 s7'->Gr F8 L6 F7 L7->Rel X.K F7 L7 S7 H7->EnvR X.K F7 L7 env9 σ7->gE t fc fe ↑S1 (clr t.slots env) (ds.drop (i+1)) S7=qz S2 ->
     ∃ m,m<n+1/\Iv m s7':=by
     intro σ7 H7 F7 L7 S7 s7' I7 g7 R7 E7 ec7;refine(n,yBa n,(hIv _ _).mpr (i+1,σ7,H7,F7,L7,S7,I7.unpinned,T.keep _ _ _ st8 λ b hb o eo=>(I7.pin (b,o) (xAq _ (xAq _ (uM hb eo)))).1,λ b hb=>?_,(g6.trans g8).trans g7,R7,EnvR.back ep E7,by omega,ec7,),);let(o,eo,_):=T.obj _ _ st8 b hb;exact(I7.pin (b,o) (xAq _ (xAq _ (uM hb eo)))).2.1
    cases ok2 with
    |false=>
      rw[if_neg (by simp)] at ec;rw[if_neg (by simp)];exact again I10 g10 R10 (E9.mono g10) ec
    |true=>
      rw[if_pos rfl] at ec;rw[if_pos rfl];let((wv,S11),ee,ec):=aJ ec;let((wn,S12),ea,ec):=aJ ec;let(n',dv,zs',hn',hw',es',hlt,hwn,rfl):=aHl ea;cases hn';dsimp only at hw';refine toF (bA (he Y hIC _ s10 σ9 H10 (λ v H'=>∃ F' L',Gr F10 L10 F' L'/\Rel X.K F' L' S11 H'/\Den X.K F' dv v) I10 ⟨F10,L10,S9,env9,_,S11,R10,E9.mono g10,ee,λ F' L' H' v g' R' d'=>(F',L',g',R',aAU d' hw',)⟩) λ xv s11 hPq43=>?_);let(v11,H11,I11,r11,F11,L11,g11,R11,d11):=hPq43;have gA:Gr F1 (L1++[(Dd,false)]) F11 L11:=((g6.trans g8).trans g10).trans g11;have eL:L11[↑S1]?=qz (Dd,false):=gA.get (by rw[yAi (by rw[R1.len];exact yAb _),R1.len,yBe];rfl);let(hF,xs,hx,dl):=R11.loc ↑S1 Dd zs' eL es';refine toF (bA (@aHg Y _ s11 σ9 H11 (.ref Dd) [v11] (.ref Dd) [xv] (λ _ H'=>Rel X.K F11 L11 (S11.set ↑S1 (qz (zs'++[dv]))) H') I11 rfl (.cons r11 .nil) (Dd,xs,v11,rfl,rfl,hx,by rw[<- dl.length];exact hlt,R11.put eL hF (dl.append (.cons d11 .nil)),)) λ _ s12 hPq44=>?_);let(_,H12,I12,_,R12):=hPq44;exact again I12 (g10.trans g11) R12 (E9.mono (g10.trans g11)) ec
 rw[yE,hPP] at loop;have st4:tn 0 h₁:=T.keep 0 _ _ st2 λ b _ o eo=>old b o (up23 b o eo)
 exact codeAny_compStart_list (loop _ I4 st4) (T.self X.A 0 _ _ _ st4 (loop _ I4 st4))
def aJ2{t:Tg}{fi:FL}{fc:FT}{fe:FE}(hc:X.calm=true)(ok:ScOk scope X.env.scope)(own:aEf X.N scope t.slots)(hi:PI X tg iter (jG X.K fi))(hg:∀ Y,kB X scope Y->PG Y tg g)(ga:GA X.K t g)(ht:∀ Y,kB X scope Y->mP Y ifs fc)(he:∀ Y,kB X scope Y->PE Y elt (aP X.K fe))(hs:∀ x,jq iter X.env x=pure x) :
 PE X (.ListComp elt [(tg,iter,ifs,0,)] scope pos) (iO X.K (iI t fi fc fe)):=λ aB s σ H Q I h=>by
 rw[eval_ListComp];exact aGW qx hc ok own hi hg ga ht he hs I h λ p C s1 H' _ hm hI q=>hm.elim λ m hm=>(m,hm,λ h' sb=>(.ref p,H',hI h' sb,rfl,q,),)
def aPl{t:Tg}{fi:FL}{fc:FT}{fe:FE}{fa:FE}(hN:X.N.Nodup)(hx1:X.N[i]?=qz x)(hx2:L2.Loc X.env.scope x)(hf:X.fn x=true\/X.env.scope.names.lookup x=qz .local)(hc:X.calm=true)(ok:ScOk scope X.env.scope)(own:aEf X.N scope t.slots)(hi:PI X tg iter (jG X.K fi))(hg:∀ Y,kB X scope Y->PG Y tg g)(ga:GA X.K t g)(ht:∀ Y,kB X scope Y->mP Y ifs fc)(he:∀ Y,kB X scope Y->PE Y elt (aP X.K fe))(hs:∀ x,jq iter X.env x=pure x)(hw:∀ σ H Q,aP X.K fa σ H Q->iO X.K (iI t fi fc fe) σ H Q) :
 PS X (.Assign [.Name x pos'] (.ListComp elt [(tg,iter,ifs,0,)] scope pos) spos) (dL X.K (jR i fa)):=by
 have hb:∃ b,swapsWith (.ListComp elt [⟨tg,iter,ifs,0⟩] scope pos) (qz (.Name x pos')) spos.line X.env=pure b:=(_,rfl,);let(b,hb):=hb;cases b with
 |false=>exact aK3 hN hx1 hx2 (PE.weak (aJ2 hc ok own hi hg ga ht he hs) hw) hb hf
 |true=>
   intro aB s σ H DD I h;have h2:=aL7 DD σ H h;rw[exec_Assign_Name_used _ _ _ _ hb];refine wB (yx (wB ?_));show qu _ X.A (do let _ <- comprehension (.ListComp elt [⟨tg,iter,ifs,0⟩] scope pos) scope X.env _ (newList []) false (eval iter X.env) (qz (assign (.Name x pos') X.env))) _ _ s;refine wB (bA (aGW (QQ:=λ _ s'=>SP X aB DD .next s') (qz (assign (.Name x pos') X.env)) hc ok own hi hg ga ht he hs I (hw _ _ _ h2) λ p C s1 H' hC hm hI q=>?_) λ _ s' hq=>wP (wP hq));let(m,hm):=hm;have I1:Inv X aB σ H' s1:=hI s1.heap (Heap.SameBut.refl _ _);let(o,es,ep,ho,hd,r):=hm;have I2:=I1.pinned (fp:=[C]) (λ b hb=>by rw[List.mem_singleton.mp hb];exact hC) λ b hb=>by rw[List.mem_singleton.mp hb];exact⟨o,ho,λ v z=>by rw[hd] at z;cases z⟩
   refine bA (aDr (pos:=pos') hN hx1 hx2 hf _ s1 σ H' (.ref p) (.ref p) _ I2 rfl q) λ _ s2 hPq45=>?_
   let(σ2,H2,I3,q3):=hPq45;let(b1,b2,_):=I3.pin (C,o) (xAq _ (xAq _ (uM (by simp) ho)));refine(m,(o,es,ep,b1,hd,r,),λ h' sb=>(σ2,H2,?_,q3,),);exact I3.unpinned.turned (t':=s2.toks) (λ b o hb e=>sb.extBut b o hb e) b2 hC.2.1 hC.2.2.2.1 hC.2.2.2.2.1 hC.2.2.2.2.2
def iG:List D->Option (List Int)
 |[]=>qz []|.int i::r=>(iG r).bind λ l=>qz (i::l)|_::_=>qx
def aAw:List D->Option (List Bool)
 |[]=>qz []|.bool i::r=>(aAw r).bind λ l=>qz (i::l)|_::_=>qx
def mC:List D->Option D
 |[.list xs]=>qz (.int ↑xs)|[.tuple xs]=>qz (.int ↑xs)
 |[.str z]=>if z.length<=qk then qz (.int z.length) else qx
 |_=>qx
def pI:List D->Option D
 |[.int i,.int j]=>qz (.int (if j>i then j else i))
 |[.int i,.int j,.int k]=>qz (.int (if j>i then (if k>j then k else j) else (if k>i then k else i)))
 |[.list xs]=>match iG xs with
   |some (i::r)=>qz (.int (r.foldl max i))|_=>qx
 |_=>qx
def kL:List D->Option D
 |[.int i,.int j]=>qz (.int (if j<i then j else i))
 |[.list xs]=>match iG xs with
   |some (i::r)=>qz (.int (r.foldl min i))|_=>qx
 |_=>qx
def aEV:List D->Option D
 |[.int i]=>qz (.int i)
 |[.bool k]=>qz (.int (if k then 1 else 0))
 |_=>qx
def qN:List D->Option D
 |[.list xs]=>qz (.tuple xs)|[.tuple xs]=>qz (.tuple xs)|_=>qx
def aBK:List D->Option D
 |[.list xs]=>(iG xs).bind λ l=>qz (.int l.sum)|_=>qx
def lY{xs:List V}(h:NowL X.K F H [d] xs):∃ x,xs=[x]/\bX X.K F H d x:=by
 cases h with
 |cons a b=>cases b;exact(_,rfl,a,)
def aNg{xs:List V}(h:NowL X.K F H [d,e] xs):∃ x y,xs=[x,y]/\bX X.K F H d x/\bX X.K F H e y:=by
 cases h with
 |cons a b=>
   cases b with
   |cons c d=>cases d;exact(_,_,rfl,a,c,)
def aZO{xs:List V}(h:NowL X.K F H [d,e,f] xs):∃ x y z,xs=[x,y,z]/\bX X.K F H d x/\bX X.K F H e y/\bX X.K F H f z:=by
 cases h with
 |cons a b=>cases b with
   |cons c d=>cases d with
     |cons e f=>cases f;exact(_,_,_,rfl,a,c,e,)
def aXo(r:aT [x,y,z] us):∃ u v w',us=[u,v,w']/\aU x u/\aU y v/\aU z w':=by
 cases r with
 |cons r1 r2=>cases r2 with
   |cons r3 r4=>cases r4 with
     |cons r5 r6=>cases r6;exact(_,_,_,rfl,r1,r3,r5,)
def aPL(hc:X.calm=true):fQ X (.builtin "max") (λ xs H Q=>∃ i j k,xs=[.int i,.int j,.int k]/\Q (.int (if j>i then (if k>j then k else j) else (if k>i then k else i))) H):=by
 intro aB s σ H xs us Q I r h;let(i,j,k,rfl,q):=h;let(u,v,w',rfl,(t,rfl),(t',rfl),(t2,rfl)):=aXo r;refine max_three_ints (I.ok.hd hc) λ h' tk kk=>(_,H,I.kept kk,?_,q,)
 by_cases h1:j>i<;>by_cases h2:k>j<;>by_cases h3:k>i<;>simp only[h1,h2,h3,if_true,if_false]<;>exact(_,rfl,)
def uK:∀ {ds:List D}{xs:List V}{ns:List Int},DenL K F ds xs->iG ds=qz ns->xs=ns.map V.int
 |_,_,_,.nil,e=>by cases e;rfl
 |.int i::r,_,_,.cons h t,e=>by
   let(l,e1,e2):=aJ e;cases e2;cases h;rw[yAf,uK t e1]
 |.none::_,_,_,.cons _ _,e=>by cases e|.bool _::_,_,_,.cons _ _,e=>by cases e|.str _::_,_,_,.cons _ _,e=>by cases e|.list _::_,_,_,.cons _ _,e=>by cases e|.tuple _::_,_,_,.cons _ _,e=>by cases e|.dict _::_,_,_,.cons _ _,e=>by cases e
def aIR:∀ (l:List Int) (i:Int),(l.foldl max i∈i::l)/\∀ a∈i::l,a<=l.foldl max i
 |[],i=>(List.mem_singleton.mpr rfl,λ a h=>by rw[List.mem_singleton.mp h];exact Int.le_refl _,)
 |b::l,i=>by
   let(h1,h2):=aIR l (max i b);rw[yCl];refine(?_,λ a ha=>?_,)
   .rcases List.mem_cons.mp h1 with h|h
    .rw[h];rcases Int.le_total i b with q|q
     .rw[Int.max_eq_right q];simp
     .rw[Int.max_eq_left q];simp
    .simp[h]
   .have h3:=h2 (max i b) xAc;simp only[yBg] at ha;rcases ha with rfl|rfl|ha
    .exact yIo (Int.le_max_left _ _) h3
    .exact yIo (Int.le_max_right _ _) h3
    .exact h2 a (xAf _ ha)
def aIL:∀ (l:List Int) (i:Int),(l.foldl min i∈i::l)/\∀ a∈i::l,l.foldl min i<=a
 |[],i=>(List.mem_singleton.mpr rfl,λ a h=>by rw[List.mem_singleton.mp h];exact Int.le_refl _,)
 |b::l,i=>by
   let(h1,h2):=aIL l (min i b);rw[yCl];refine(?_,λ a ha=>?_,)
   .rcases List.mem_cons.mp h1 with h|h
    .rw[h];rcases Int.le_total i b with q|q
     .rw[Int.min_eq_left q];simp
     .rw[Int.min_eq_right q];simp
    .simp[h]
   .have h3:=h2 (min i b) xAc;simp only[yBg] at ha;rcases ha with rfl|rfl|ha
    .exact yIo h3 (Int.min_le_left _ _)
    .exact yIo h3 (Int.min_le_right _ _)
    .exact h2 a (xAf _ ha)
def aCv:∀ {l:List Int}{us:List qj},aT (l.map V.int) us->∃ ps:List (Int×Tok),us=ps.map (λ p=>Value.int p.1 p.2)/\ps.map (·.1)=l
 |[],us,r=>by cases r;exact([],rfl,rfl,)
 |i::l,us,r=>by
   cases r with
   |cons h t=>
     let(tk,rfl):=h;let(ps,rfl,rfl):=aCv t;exact((i,tk)::ps,rfl,rfl,)
def aPS(hc:X.calm=true):fQ X (.builtin "max") (λ xs H Q=>∃ (a:qw) (l:List Int),xs=[.ref a]/\bT X.K H a (l.map V.int)/\0<↑l/\∀ M,M∈l->(∀ i∈l,i<=M)->Q (.int M) H):=by
 intro aB s σ H xs us Q I r h;let(a,l,rfl,sq,hl,q):=h;let(u,rfl,ru):=lX r;cases ru;let(aG,rv,pl,hz):=I.list sq;let(ps,rfl,rfl):=aCv rv;have hIL:s.heap.IsList a (intItems ps.toArray):=by
  have e:intItems ps.toArray=(ps.map (λ p=>Value.int p.1 p.2)).toArray:=by simp[intItems]
  rw[e];exact pl.isList
 refine max_intList (xs:=ps.toArray) (I.ok.hd hc) hIL (hl:) λ v h' tk hv hk=>?_
 let(t,rfl):=intItems_at hv;let(h1,h2):=argBest_gt (numAt ps.toArray) (ps.toArray.size-1);refine(.int _,H,I.kept hk,(_,rfl,),q _ ?_ λ i hi=>?_,)
 .rw[numAt_eq];have hz':0<ps.toArray.size:=(hl:)
  exact getD_mem (by rw[yAd,yBm];exact xAi h1 (Nat.sub_lt hz' yIg))
 .let(j,hj,rfl):=mem_getD hi;rw[yAd] at hj;have:=h2 j (by rw[yAh];omega);rw[numAt_eq (j:=j)] at this;exact this
def aPE(hc:X.calm=true):fQ X (.builtin "min") (λ xs H Q=>∃ (a:qw) (l:List Int),xs=[.ref a]/\bT X.K H a (l.map V.int)/\0<↑l/\∀ M,M∈l->(∀ i∈l,M<=i)->Q (.int M) H):=by
 intro aB s σ H xs us Q I r h;let(a,l,rfl,sq,hl,q):=h;let(u,rfl,ru):=lX r;cases ru;let(aG,rv,pl,hz):=I.list sq;let(ps,rfl,rfl):=aCv rv;have hIL:s.heap.IsList a (intItems ps.toArray):=by
  have e:intItems ps.toArray=(ps.map (λ p=>Value.int p.1 p.2)).toArray:=by simp[intItems]
  rw[e];exact pl.isList
 refine min_intList (xs:=ps.toArray) (I.ok.hd hc) hIL (hl:) λ v h' tk hv hk=>?_
 let(t,rfl):=intItems_at hv;let(h1,h2):=argBest_lt (numAt ps.toArray) (ps.toArray.size-1);refine(.int _,H,I.kept hk,(_,rfl,),q _ ?_ λ i hi=>?_,)
 .rw[numAt_eq];have hz':0<ps.toArray.size:=(hl:)
  exact getD_mem (by rw[yAd,yBm];exact xAi h1 (Nat.sub_lt hz' yIg))
 .let(j,hj,rfl):=mem_getD hi;rw[yAd] at hj;have:=h2 j (by rw[yAh];omega);rw[numAt_eq (j:=j)] at this;exact this
def aYe:fQ X (.builtin "len") (rN X mC):=λ aB s σ H xs us Q I r aW=>by
 let(F,L,S,ds,z,R,n,e,q):=aW;unfold mC at e;split at e
 .cases e;let(x,rfl,nx):=lY n;let(a,ys,rfl,sq,dl):=nx.lst R.sub;exact aF0 aB s σ H _ us Q I r (a,ys,rfl,.inl sq,by rw[<- dl.length];exact q.here R (.int _),)
 .cases e;let(x,rfl,nx):=lY n;let(a,ys,rfl,sq,dl):=nx.tup R.sub;exact aF0 aB s σ H _ us Q I r (a,ys,rfl,.inr sq,by rw[<- dl.length];exact q.here R (.int _),)
 .split at e
  .rename_i hz;cases e;let(x,rfl,nx):=lY n;exact aN9 aB s σ H _ us Q I r (_,by rw[nx.str],hz,q.here R (.int _),)
  .cases e
 .cases e
def aY9(hc:X.calm=true):fQ X (.builtin "max") (rN X pI):=λ aB s σ H xs us Q I r aW=>by
 let(F,L,S,ds,z,R,n,e,q):=aW;unfold pI at e;split at e
 .cases e;let(x,y,rfl,nx,ny):=aNg n;exact aPA hc aB s σ H _ us Q I r (_,_,by rw[nx.int,ny.int],q.here R (.int _),)
 .cases e;let(x,y,u,rfl,nx,ny,nu):=aZO n;exact aPL hc aB s σ H _ us Q I r (_,_,_,by rw[nx.int,ny.int,nu.int],q.here R (.int _),)
 .split at e
  .rename_i xs' i r' hi;cases e;let(x,rfl,nx):=lY n;let(a,ys,rfl,sq,dl):=nx.lst R.sub;obtain rfl:=uK dl hi;refine aPS hc aB s σ H _ us Q I r (a,i::r',rfl,sq,by simp,λ M h1 h2=>?_,);have f:=aIR r' i;have:M=r'.foldl max i:=Int.le_antisymm (f.2 _ h1) (h2 _ f.1);rw[this];exact q.here R (.int _)
  .cases e
 .cases e
def aXi(hc:X.calm=true):fQ X (.builtin "min") (rN X kL):=λ aB s σ H xs us Q I r aW=>by
 let(F,L,S,ds,z,R,n,e,q):=aW;unfold kL at e;split at e
 .cases e;let(x,y,rfl,nx,ny):=aNg n;exact aPY hc aB s σ H _ us Q I r (_,_,by rw[nx.int,ny.int],q.here R (.int _),)
 .split at e
  .rename_i xs' i r' hi;cases e;let(x,rfl,nx):=lY n;let(a,ys,rfl,sq,dl):=nx.lst R.sub;obtain rfl:=uK dl hi;refine aPE hc aB s σ H _ us Q I r (a,i::r',rfl,sq,by simp,λ M h1 h2=>?_,);have f:=aIL r' i;have:M=r'.foldl min i:=Int.le_antisymm (h2 _ f.1) (f.2 _ h1);rw[this];exact q.here R (.int _)
  .cases e
 .cases e
def aXy:fQ X (.type "int") (rN X aEV):=λ aB s σ H xs us Q I r aW=>by
 let(F,L,S,ds,z,R,n,e,q):=aW;unfold aEV at e;split at e
 .cases e;let(x,rfl,nx):=lY n;exact aHp aB s σ H _ us Q I r (.inl (_,by rw[nx.int],q.here R (.int _),))
 .cases e;let(x,rfl,nx):=lY n;exact aHp aB s σ H _ us Q I r (.inr (_,by rw[nx.bl],q.here R (.int _),))
 .cases e
def aSp:fQ X (.type "tuple") (rN X qN):=λ aB s σ H xs us Q I r aW=>by
 let(F,L,S,ds,z,R,n,e,q):=aW;unfold qN at e;split at e
 .cases e;let(x,rfl,nx):=lY n;let(a,ys,rfl,sq,dl):=nx.lst R.sub;exact aFS aB s σ H _ us Q I r (a,ys,rfl,.inl (sq,λ l hl=>q.tup R hl dl,),)
 .cases e;let(x,rfl,nx):=lY n;have nx':=nx;let(a,ys,rfl,sq,dl):=nx.tup R.sub;refine aFS aB s σ H _ us Q I r (a,ys,rfl,.inr (sq,q.here R ?_,),);rcases nx' with nx|⟨_,_,_,e,_⟩
  .exact nx
  .cases e
 .cases e
def aOf{A:zv}(hh:A.handled=qx)(I ax:qw)(hne:ax≠I)(aN:Array qj) :
 WalksS prog w A I [I,ax] [I] (λ a b=>b=a) aN.size (λ i v=>aN[i]?=qz v) (λ i s=>s.heap.IsListIter I ax i/\s.heap.IsList ax aN) where
 sub:=λ b hb=>by simp at hb;simp[hb]
 grefl:=λ _=>rfl
 gtrans:=λ _ _ _ h1 h2=>h2.trans h1
 frame:=λ _ _ _ _ st _ hk=>(st.1.at λ o e=>hk I (by simp) o e,st.2.at λ o e=>hk ax (by simp) o e,)
 item:=λ i s Q E hi st hQ=>by
  refine vw st.1 st.2 (x:=aN[i]) (by simp[hi]) λ h' hit' hs'=>?_
  exact hQ _ _ (by simp[hi]) (hit',st.2.extBut hs'.extBut hne,) (λ b o hb e=>hs'.extBut b o (λ h=>hb (by simp[h])) e,rfl,rfl,rfl,yAb _,)
 done:=λ s Q E st hQ=>vy hh st.1 st.2 (by simp) λ h' he'=>hQ _ (λ b o hb e=>he' b o (λ h=>hb (by simp[h])) e,rfl,rfl,rfl,yAb _,)
 self:=λ _ _ _ _ st hQ=>wpAny_pyIter_listiter st.1 hQ
def aGf:∀ (ns:List Int) (k:Nat),k<=↑ns->preSum (λ i=>ns.getD i 0) k=(ns.take k).sum
 |_,0,_=>by simp[preSum]
 |ns,k+1,h=>by
   rw[preSum,aGf ns k (!_),yGd (!_),List.sum_append];have:ns.getD k 0=ns[k]:=by simp[List.getD,yAa (show k<↑ns by omega)]
   rw[this];simp
def aGl:∀ {ds:List D}{xs:List V}{ns:List Bool},DenL K F ds xs->aAw ds=qz ns->xs=ns.map V.bl
 |_,_,_,.nil,e=>by cases e;rfl
 |.bool i::r,_,_,.cons h t,e=>by
   let(l,e1,e2):=aJ e;cases e2;cases h;rw[yAf,aGl t e1]
 |.none::_,_,_,.cons _ _,e=>by cases e|.int _::_,_,_,.cons _ _,e=>by cases e|.str _::_,_,_,.cons _ _,e=>by cases e|.list _::_,_,_,.cons _ _,e=>by cases e|.tuple _::_,_,_,.cons _ _,e=>by cases e|.dict _::_,_,_,.cons _ _,e=>by cases e
def aOq{ns:List Int}{us:List qj}(r:aT (ns.map V.int) us){i:Nat}{v:qj}(e:us[i]?=qz v):∃ t,v=.int (ns.getD i 0) t:=by
 have hl:=r.length;rw[yAd] at hl;have hi:i<↑ns:=by rw[hl];exact(gIm e).1
 let(u,e1,ru):=aT.get r (i:=i) (x:=.int ns[i]) (by rw[yAg,yAa hi];rfl);rw[e] at e1;cases e1;let(t,rfl):=ru;exact(t,by simp[List.getD,yAa hi],)
def aXj(hc:X.calm=true):fQ X (.builtin "sum") (rN X aBK):=λ aB s σ H xs us Q I r aW=>by
 let(F,L,S,ds,z,R,n,e,q):=aW;unfold aBK at e;split at e
 .let(ns,e1,e2):=aJ e;cases e2;let(x,rfl,nx):=lY n;let(a,ys,rfl,sq,dl):=nx.lst R.sub;obtain rfl:=uK dl e1;let(u,rfl,ru):=lX r;cases ru;let(aG,rv,pl,hz):=I.list sq;have hh:X.A.in1.handled=qx:=I.ok.hd hc;refine call_sum_walkAnyS (jk pl.isList ?_);have hne:a≠s.heap.objs.size:=by
   let(o,ho,_):=pl.isList;exact xAj (xAa ho)
  have hl:=rv.length;rw[yAd] at hl;refine(_,_,_,_,_,_,_,λ i=>ns.getD i 0,rfl,aOf hh s.heap.objs.size a hne aG.toArray,((_,xAd _ rfl,rfl,rfl,),?_,),λ b hb=>?_,λ i v e=>aOq rv (e:),λ s' t' mv=>?_,)
  .let(o,ho,r'):=pl.isList;exact(o,hpS _ ho,r',)
  .let(o,ho,_):=pl.isList;have h1:=xAa ho;simp only[yBg,yBb,or_false] at hb;rw[yFe];rcases hb with rfl|rfl
   .exact yBa _
   .exact yEd h1
  .let(h',g',d',t2,o'):=s';let(mh,mg,md,mo,mt):=mv;dsimp only at mh mg md mo;subst mg md mo;have I':Inv X aB σ H {s with heap:=h',toks:=t2 }:=I.kept λ b o e=>mh b o (λ z=>by
    have:b=s.heap.objs.size:=(z:)
    exact yBl _ (this▸xAa e)) (hpS _ e)
   have e3:preSum (λ i=>ns.getD i 0) aG.toArray.size=ns.sum:=by
    rw[yAh,<- hl,aGf ns ↑ns (yAb _),yAj]
   rw[e3];exact(.int ns.sum,H,I',(_,rfl,),q.here R (.int _),)
 .cases e
def aEH(fa:FE):FL:=λ env S=>(fa env S).bind λ p=>(dr p.2 p.1).bind λ d=>(aBm d).bind λ l=>qz (l,p.2)
def aZj{fa:FE}(σ:St)(H:Hp)(Q:VK)(h:iO X.K (aEH fa) σ H Q):tCB (λ xs H Q=>∃ p ys,xs=[.ref p]/\(bT X.K H p ys\/cE X.K H p ys)/\∀ l,H l=qx->Q (.ref l) (bB H l (.lst ys))) (dQ X.K (cL fa gG)) σ H Q:=by
 let(F,L,S,env,ds,S',R,E,e,q):=h;let((w,S1),e1,e):=aJ e;let(d,e2,e):=aJ e;let(l,e3,e):=aJ e;cases e;refine(F,L,S,env,[w],_,R,E,by unfold cL;rw[e1];rfl,λ F1 L1 H1 vs g1 R1 d1=>?_,);cases d1 with
 |cons dd dr=>
   cases dr;let(p,xs,rfl,sq,dl):=aDs R1.sub (jJ R1 dd e2) e3;exact(p,xs,rfl,sq,λ l hl=>q F1 L1 _ l xs g1 (R1.lay hl) (R1.sub.free hl) (R1.notin hl) cO dl,)
def aK5:D->Option D
 |.int i=>qz (.int ((yAn i:Nat):Int))|_=>qx
def aEi(fa:FE):FE:=f1 fa (oC aK5)
def aSB:MtR X "int.bit_length" (λ x xs H Q=>∃ i,x=.int i/\xs=[]/\Q (.int ((yAn i:Nat):Int)) H):=λ aB s σ H x xs v us Q I rx rs aW=>by
 let(i,e1,e2,q):=aW;subst e1 e2;let(t,rfl):=rx;cases rs;exact call_gives yHb (wj s i t) PySem.F.entry_int_bit_length (PySem.F.args_int_bit_length_1 _) (PySem.AutoIntG2.int_bit_length_int_0 i t) (show EP X aB σ Q _ _ from (.int _,H,I.tok _,(_,rfl,),q,))
section
variable {X:Cx}{aB:List (qw×Obj)}{σ:L2.St}{H:Hp}{s:qv}{h':Heap}
def aGx{ch:List qw}{p:qw}{o:HO}{t':Nat}(I:Inv X aB σ H s)(hch:∀ b∈ch,gH X aB H b)(k:∀ b u,b ∉ ch->s.heap.get? b=qz u->h'.get? b=qz u)(hp:s.heap.objs.size<=p)
 (new:dX X.prog X.w (bB H p o) h' p o):Inv X aB σ (bB H p o) {s with heap:=h',toks:=t' }:=by
 have hn:=I.hok.fresh hp;have nch:∀ b u,H b=qz u->b ∉ ch:=λ b u e z=>by rw[(hch b z).1] at e;cases e
 have nep:∀ b u,s.heap.get? b=qz u->b≠p:=λ b u e z=>absurd (xAb (xAa e) hp) (by rw[z];exact yBl _)
 refine I.step (g':=s.gens) (d':=s.drawn) (ch:=ch) (λ b hb=>((hch b hb).2.2.2.1,(hch b hb).2.1,(hch b hb).2.2.2.2.1,(hch b hb).2.2.2.2.2,)) (λ b o _ _ hc e _=>k b o hc e) (λ b o _ _ hc e _=>(o.slots,k b o hc e,)) (λ b o _ e n=>by rw[bR (nep b o e)];exact n)
  (λ b o hc e=>(o,k b o hc e,)) (λ b xs e=>by rw[bR (dZ e hn)];exact e) (λ b u v e=>by rw[bR (dZ e hn)];exact e) (λ b ps e=>(#[],by rw[bR (dZ e hn),e];simp,)) (λ m hm=>?_) (λ b u e=>?_) I.bare
 .let(o,es,ep,ho,r):=hm;exact(o,es,ep,k _ o (λ z=>(hch _ z).2.1 rfl) ho,r,)
 .by_cases hb:b=p
  .subst hb;rw[cO] at e;cases e;exact new
  .rw[bR hb] at e;refine(I.hok b u e).stay (λ c v hc q=>k c v ?_ q) (λ c q=>by rw[bR (dZ q hn)];exact q) λ c xs q=>by rw[bR (dZ q hn)];exact q
   rcases hc with z|z
   .rw[z];exact nch b u e
   .exact nch c _ z
end
def aXr(k:Int):List D->List D
 |[]=>[]|d::r=>.tuple [.int k,d]::aXr (k+1) r
def aNL{E:qj -> qv -> Prop}{s:qv}{Q:qj->qv->Prop}(hit:s.heap.IsTupleIter it t i)(ht:s.heap.IsTuple t aN)(hx:aN[i]?=qz x)(hQ:∀ h',h'.IsTupleIter it t (i+1)->yCi it s.heap h'->Q x {s with heap:=h' }):qu (model prog w) A (yBu (.ref it)) Q E s:=by let(o,ho,hc,hd):=id hit;let(ol,hol,_,nl,hdl):=ht;unfold yBu;refine wB (wpAny_callSpecial?_slot (name:=Str.ofString "__next__") hit.typeIs F.slot_tuple_iterator_next (vq F.slot_tuple_iterator_next hit.typeIs F.entry_tuple_iterator_next ?_ (F.args_tuple_iterator_next_1 _)));show qu _ _ (field (.ref it) 0 >>= _) _ _ s;refine wB (xz ho hd (x:=.ref t) rfl ?_);show qu _ _ (if (Value.ref t==Value.none)=true then _ else _) _ _ s;rw[if_neg (show ¬ ((Value.ref t==Value.none)=true) from yAu)];show qu _ _ (field (.ref it) 1 >>= _) _ _ s;refine wB (xz ho hd (x:=.int i 0) rfl ?_);show qu _ _ (seqItems? (.ref t) >>= _) _ _ s;refine wB (xy hol hdl ?_);simp only[yAr,hx];refine wB (wpAny_setField ho hd (by simp) (wP (x,rfl,wP (hQ _ (_,yBx _ ho (Obj.isFreed_of_fields (Obj.data_mapFields hd _)),(Obj.cls_mapFields ..).trans hc,?_,) (Heap.SameBut.update ..)),)));rw[Obj.data_mapFields hd];simp[yv]
def aNN{A:zv}{E:qj -> qv -> Prop}{s:qv}{Q:qj->qv->Prop}(hh:A.handled=qx)(hit:s.heap.IsTupleIter it t i)(ht:s.heap.IsTuple t aN)(hx:aN[i]?=qx)(hE:∀ h' e,Heap.ExtBut it s.heap h'->(∃ o,h'.get? e=qz o/\o.cls=.type "StopIteration")->E (.ref e) {s with heap:=h' }):qu (model prog w) A (yBu (.ref it)) Q E s:=by
 let(o,ho,hc,hd):=id hit;let(ol,hol,_,nl,hdl):=ht;unfold yBu;refine wB (wpAny_callSpecial?_slot (name:=Str.ofString "__next__") hit.typeIs F.slot_tuple_iterator_next (vq F.slot_tuple_iterator_next hit.typeIs F.entry_tuple_iterator_next ?_ (F.args_tuple_iterator_next_1 _)));show qu _ _ (field (.ref it) 0 >>= _) _ _ s;refine wB (xz ho hd (x:=.ref t) rfl ?_);show qu _ _ (if (Value.ref t==Value.none)=true then _ else _) _ _ s;rw[if_neg (show ¬ ((Value.ref t==Value.none)=true) from yAu)];show qu _ _ (field (.ref it) 1 >>= _) _ _ s;refine wB (xz ho hd (x:=.int i 0) rfl ?_);show qu _ _ (seqItems? (.ref t) >>= _) _ _ s;refine wB (xy hol hdl ?_);simp only[yAr,hx];refine wB (wu (wB (wpAny_setField ho hd (by simp) ?_)));show qu _ _ (newExc (.type "StopIteration") [] >>= _) _ _ _;refine wB ?_;simp only[newExc,newTuple];refine wB (xw (wB (m:=firstArgMember _ _) (wpAny_of_eq (a:=Value.none) (by first|rfl|(simp only[firstArgMember];rfl)) (xw ?_ (by size_fits)))) (by size_fits));simp only[raiseNew];refine wB (wpAny_handled ?_)
 first|rw[show A.in1.handled=qx from hh]|rw[hh]
 exact wB (wP (wpAny_throw (hE _ _ (((Heap.SameBut.update ..).extBut.push _).push _) (_,xAd _ rfl,rfl,))))
def aPs{A:zv}(hh:A.handled=qx)(it t:qw)(hne:t≠it)(aN:Array qj):Draws prog w A it [it,t] aN.size (λ i v=>aN[i]?=qz v) (λ i h=>h.IsTupleIter it t i/\h.IsTuple t aN) where
 live:=λ _ _ st=>let ⟨o,ho,_⟩:=st.1;(o,ho,)
 frame:=λ _ _ _ st hk=>(st.1.at λ o e=>hk it (by simp) o e,let ⟨u,hu,r⟩:=st.2;(u,hk t (by simp) u hu,r,),)
 item:=λ i s Q E hi st hQ=>aNL st.1 st.2 (x:=aN[i]) (by simp[hi]) λ h' hit' hs'=>hQ _ h' s.toks (by simp[hi]) (hit',let ⟨u,hu,r⟩:=st.2;(u,hs'.extBut t u hne hu,r,),) hs'
 done:=λ s Q E st hE=>aNN hh st.1 st.2 (by simp) hE
inductive Tv where
 |int (i:Int)|str (x:Str)|bool (b:Bool)
 deriving DecidableEq
def Tv.d:Tv->D
 |.int i=>.int i|.str x=>.str x|.bool b=>.bool b
def Tv.v:Tv->V
 |.int i=>.int i|.str x=>.str x|.bool b=>.bl b
def Tv.den(t:Tv):Den K F t.d t.v:=by
 cases t
 .exact .int _
 .exact .str _
 .exact .bl _
def tF(w:zj):List DictEntry->List (Str×Tv)->Prop
 |[],[]=>True|e::r,(x,v)::aI=>e.hash=hashStr w x/\(∃ t,e.key=.str x t)/\aU v.v e.val/\tF w r aI|_,_=>False
def wM(K:FrG)(w:zj)(a:qw)(aI:List (Str×Tv)):Prop:=(a==sysModules)=false/\∃ es ep,K.lookup a=qz {cls:=.type "dict",data:=.dict es ep }/\tF w es.toList aI
def aBE(aI:List (Str×Tv)):D->Option D
 |.str x=>(aI.lookup x).map Tv.d|_=>qx
def aHL:∀ {l:List DictEntry}{aI:List (Str×Tv)},tF w l aI->∀ e∈l,∃ k,(eU P w).is k e.key=true/\e.hash=(eU P w).hash k
 |[],[],_,e,h=>by cases h
 |e::r,(x,v)::aI,ok,e',h=>by
   let(h1,(t,h2),_,h4):=ok;rcases List.mem_cons.mp h with rfl|h
   .exact(.inr x,by rw[h2];exact aCH x t,h1,)
   .exact aHL h4 e' h
 |[],_::_,ok,_,_=>ok.elim|_::_,[],ok,_,_=>ok.elim
def aQ4(x y:Str)(t:Tok):nC (.inr x) (.str y t)=(x==y):=by
 have h:(y==x)=(x==y):=by
  rw[yEe];constructor<;>intro z<;>simp at z ⊢ <;> exact z.symm
 simp[nC,Value.isStrOf,h]
def aHY:∀ {l:List DictEntry}{aI:List (Str×Tv)},tF w l aI->aI.lookup k=qz v->∃ u,(l.find? λ e=>nC (.inr k) e.key).map (·.val)=qz u/\aU v.v u
 |[],[],_,h=>by cases h
 |e::r,(x,v')::aI,ok,h=>by
   let(h1,(t,h2),h3,h4):=ok;rw[yBp] at h;rw[yCw,h2,aQ4];cases q:k==x with
   |true=>
     rw[q] at h;cases h;exact(e.val,rfl,h3,)
   |false=>
     rw[q] at h;exact aHY h4 h
 |[],_::_,ok,_=>ok.elim|_::_,[],ok,_=>ok.elim
def aWA:tZ X (λ x y H Q=>∃ a k v,x=.ref a/\wM X.K X.w a aI/\y=.str k/\aI.lookup k=qz v/\Q v.v H):=by
 intro value iF aB s σ H x y v u Q I rx ry h hs;let(a,k,tv,rfl,(_,es,ep,hl,ok),rfl,hv,q):=h;cases rx;let(t,rfl):=ry;let(z,e1,e2):=aHY ok hv;have hm:s.heap.MapOf (eU X.prog X.w) a (λ k=>findBy (eU X.prog X.w).is es k):=(_,es,ep,I.kIn a _ hl,(rfl,rfl,rfl,),rfl,λ e he=>aHL ok e (he:),λ _=>rfl,);have hz:findBy (eU X.prog X.w).is es (.inr k)=qz z:=by
  unfold findBy;rw[<- Array.find?_toList];exact e1
 exact tail_any hm.typeIs PySem.F.slot_dict_getitem.lookup (wpAny_getItem_of (aCH k t) hm hz (_,H,I.tok _,e2,q,)) hs
def aYQ{fk:FE}(hg:Gl X x)(hd:(x==("__debug__" : Str))=false)(ht:∃ a,X.mg x=qz (.ref a)/\wM X.K X.w a aI)(hk:PE X k (aP X.K fk))(hs:vM k) :
 PE X (.Subscript (.Name x p) k pos) (aP X.K (f1 fk (oC (aBE aI)))):=by
 let(a,hm,ta):=ht;refine PE.weak (aK2 (aWA (aI:=aI)) (aIC (v:=.ref a) hg hm rfl hd) hk hs) λ σ H Q hPq46=>?_
 let(F,L,S,env,w,S',R,E,e,q):=hPq46;let((w1,S1),e1,e2):=aJ e;let(d,z,e3,e4,rfl,rfl):=aCT e2;cases d with
 |str y=>
   let(v,hv,rfl):=Option.map_eq_some_iff.mp (show(aI.lookup y).map Tv.d=qz z from e4);refine(F,L,S,env,w1,_,R,E,e1,λ F1 L1 H1 u g1 R1 d1=>(a,y,v,rfl,ta,(jJ R1 d1 e3).str,hv,?_,),);exact q F1 L1 H1 v.v g1 R1 (show Den X.K F1 v.d v.v from v.den)
 |_=>cases e4
abbrev bAk(prog:zq)(w:zj)(A:zv)(R:Result->qv->Prop)(cG:Fin)(s':qv):Prop:=match cG with|.done f=>R (.ok f) s'|.again c'=>c'.quiet=true/\jj (model prog w) A c' R s'
def aBl:List qj->List Tv->Prop
 |[],[]=>True|u::us,t::ts=>aU t.v u/\aBl us ts|_,_=>False
def aHq:∀ {us:List qj}{ts:List Tv},aBl us ts->aT (ts.map Tv.v) us
 |[],[],_=>.nil|_::_,_::_,⟨h1,h2⟩=>.cons h1 (aHq h2)|[],_::_,h=>h.elim|_::_,[],h=>h.elim
def aJe:∀ ts:List Tv,DenL K F (ts.map Tv.d) (ts.map Tv.v)
 |[]=>.nil|t::ts=>.cons t.den (aJe ts)
def sV(K:FrG)(a:qw)(ts:List Tv):Prop:=∃ (o:Obj) (aG:Array qj) (n:Nat),K.lookup a=qz o/\o.cls=.type "tuple" /\ o.data=.seq aG n/\aG.size<=qk/\aBl aG.toList ts
def aTb(h:sV K a ts):Den K F (.tuple (ts.map Tv.d)) (.ref a):=by let(o,aG,n,h1,h2,h3,h4,h5):=h;exact .tup (.inr (o,aG,n,h1,h2,h3,h4,aHq h5,)) (aJe ts)
def aYk(hg:Gl X x)(hd:(x==("__debug__" : Str))=false)(ht:∃ a,X.mg x=qz (.ref a)/\sV X.K a ts):PE X (.Name x p) (aP X.K (fC (.tuple (ts.map Tv.d)))):=by
 let(a,hm,ca):=ht;refine PE.weak (aIC (v:=.ref a) hg hm rfl hd) λ σ H Q hPq47=>?_
 let(F,L,S,env,w,S',R,E,e,q):=hPq47;cases e;exact q F L H _ Gr.refl R (aTb ca)
def aUR(op op':jz)(fa fb fc:FE):FE:=λ env S=>(fa env S).bind λ p=>(fb env p.2).bind λ q=>(iN (aV op) q.2 p.1 q.1).bind λ r=>match r.1 with|.d (.bool true)=>(fc env r.2).bind λ t=>iN (aV op') t.2 q.1 t.1|.d (.bool false)=>qz (.d (.bool false),r.2)|_=>qx
def aNH{E:qj->qv->Prop}{s:qv}{lo hi:Option Int}{Q:qj->qv->Prop}(ht:IsTup s.heap t aN)(hs:s.heap.IsSliceOf sl vl vu .none)(pl:IsPart vl lo)(pu:IsPart vu hi)(hw:HT.sIx aN.size 0 lo=0/\HT.sIx aN.size aN.size hi=aN.size)(h:Q (.ref t) s):qu (model prog w) A (getItem (.ref t) (.ref sl)) Q E s:=by
 let(os,hos,hcs,hds):=id hs;have hTs:s.TypeIs (.ref sl) "slice":=(os,hos,hcs,);unfold getItem
 try with_reducible refine zw ?_
 first|refine wB (wP ?_)|skip
 refine wB (wpAny_sequenceKey ht.typeIs (·) ?_)
 refine wB (wpAny_callSpecial?_slot (name:=Str.ofString "__getitem__") ht.typeIs yCs
  (vq yCs ht.typeIs entry_tuple_getitem ?_ (args_tuple_getitem _ _)))
 show qu _ _ (yHj (.ref t) >>= _) _ _ s;refine wB (tupleItemsOf_ ht ?_);refine wB (wpAny_typeOf hTs ?_);rw[if_pos (·)];refine wB (HT.sliceApplied_gen hs pl pu ?_);have hyes:(((HT.sIx aN.size 0 lo:Nat):Int)==0&&(1:Int)==1&&(HT.sIx aN.size aN.size hi-HT.sIx aN.size 0 lo)==aN.size)=true:=by
  rw[hw.1,hw.2];simp
 show qu _ _ (if (((HT.sIx aN.size 0 lo:Nat):Int)==0&&(1:Int)==1&&(HT.sIx aN.size aN.size hi-HT.sIx aN.size 0 lo)==aN.size)=true then _ else _) _ _ s;rw[if_pos hyes];unfold Builtin.Tuple.tupleIsExact;refine wB (wB (wpAny_typeOf ht.typeIs (wP ?_)));rw[if_pos (·)]
 first
  |exact wB (wu (wP (_,rfl,wP h,)))
  |exact wB (wu (wB (wP (wP (_,rfl,wP h,)))))
  |exact wB (wu (wP (_,rfl,h,)))
def aYJ(K:FrG):V->Option Int->Option Int->Hp->VK->Prop:=λ x lo hi H Q=>∃ a xs,x=.ref a/\cE K H a xs /\
 (((HT.sIx ↑xs 0 lo=0/\HT.sIx ↑xs ↑xs hi=↑xs)/\Q (.ref a) H)\/(¬ (HT.sIx ↑xs 0 lo=0/\HT.sIx ↑xs ↑xs hi=↑xs)/\∀ p,H p=qx->Q (.ref p) (bB H p (.tup (nQ xs lo hi)))))
def aRV:SlR X (aYJ X.K):=by
 intro aB s σ H x v vl vu lo hi sl Q I rx hs pl pu h;obtain⟨a,xs,rfl,hx,⟨hw,q⟩|⟨hw,q⟩⟩:=h
 .cases rx;let(aG,r,ht,hz):=I.tuple hx;have cJ:aG.toArray.size=↑xs:=by rw[yAh];exact r.length.symm
  refine("tuple",_,PyProof.Rows.slot_tuple_getitem.lookup,ht.typeIs,?_,);exact aNH ht hs pl pu (by rw[cJ];exact hw) (.ref a,H,I,rfl,q,)
 .exact aWt aB s σ H _ v vl vu lo hi sl Q I rx hs pl pu (a,xs,rfl,hx,hw,q,)
def aMN:D->Option Int->Option Int->Option D
 |.tuple xs,lo,hi=>qz (.tuple (fJ xs lo hi))|_,_,_=>qx
def aLE(fa:FE)(fl fh:FO):FE:=λ env S=>(fa env S).bind λ p=>(fl env p.2).bind λ q=>(fh env q.2).bind λ r=>(dr r.2 p.1).bind λ d=>(aMN d q.1 r.1).bind λ z=>qz (.d z,r.2)
def aT6{lo hi:Option qy}{fa:FE}{fl fh:FO}(ha:PE X a (aP X.K fa))(hl:PO X lo (mE X.K fl))(hh:PO X hi (mE X.K fh)):PE X (.Subscript a (.Slice lo hi qx p2) pos) (aP X.K (aLE fa fl fh)):=
 PE.weak (aHC aRV ha hl hh) λ σ H Q aW=>by
  let(F,L,S,env,ds,S',R,E,e,q):=aW;let((w,S1),e1,e):=aJ e;let((l,S2),e2,e):=aJ e;let((h,S3),e3,e):=aJ e;let(d,e4,e):=aJ e;let(z,e5,e):=aJ e;cases e;refine(F,L,S,env,w,S1,R,E,e1,λ F1 L1 H1 v g1 R1 d1=>(F1,L1,S1,env,l,S2,R1,E.mono g1,e2,λ F2 L2 H2 g2 R2=>(F2,L2,S2,env,h,S3,R2,E.mono (g1.trans g2),e3,λ F3 L3 H3 g3 R3=>?_,),),);have n:=jJ R3 (d1.mono (g2.trans g3)) e4;cases d with
  |tuple xs=>
    cases e5;let(a,vs,rfl,sq,dl):=n.tup R3.sub;refine(a,vs,rfl,sq,?_,);by_cases hw:HT.sIx ↑vs 0 l=0/\HT.sIx ↑vs ↑vs h=↑vs
    .refine .inl (hw,q F3 L3 H3 _ ((g1.trans g2).trans g3) R3 ?_,);have ec:fJ xs l h=xs:=by
      unfold fJ;rw[dl.length,hw.1,hw.2,yGn,yIp,<- dl.length,yAj]
     rw[ec];rcases n with n|⟨_,_,_,z,_⟩
     .exact n
     .cases z
    .exact .inr (hw,λ p hp=>q _ L3 _ _ (((g1.trans g2).trans g3).trans (Gr.new (R3.sub.free hp))) (R3.new hp) (Den.tup (cE.of cO) ((aIZ dl l h).mono (fY (R3.sub.free hp)))),)
  |_=>cases e5
def aX8(X:Cx):R2:=λ x y H Q=>∃ a k xs,x=.ref a/\y=.int k/\bT X.K H a xs /\ -(2^63)<=k/\k<2^63/\↑xs*k.toNat<=qk/\∀ p,H p=qx->Q (.ref p) (bB H p (.lst (yAe k.toNat xs).flatten))
def yH(fa fb:FE):FL:=λ env S=>(fa env S).bind λ p=>(fb env p.2).bind λ q=>(dr q.2 p.1).bind λ d=>match d,q.1 with
 |.list xs,.d (.int k)=>if k<2^63 /\ -(2^63)<=k/\↑xs*k.toNat<=qk then qz (xL k.toNat xs,q.2) else qx
 |_,_=>qx
def aXP{fa fb:FE}(ha:PE X a (aP X.K fa))(hb:PE X b (aP X.K fb)):PE X (.BinOp a .Mult b pos) (iO X.K (yH fa fb)):=by
 refine PE.weak (aMb (r:=aX8 X) (λ aB s σ H x y v u Q I rx ry ⟨a,k,xs,hx,hy,sq,h1,h2,hz,q⟩=>?_) ha hb) λ σ H Q ⟨F,L,S,env,ds,S',R,E,e,q⟩=>?_
 .subst hx hy;cases rx;let(t,rfl):=ry;exact aM4 I sq h1 h2 hz q
 .let((w1,S1),e1,e):=aJ e;let((w2,S2),e2,e):=aJ e;let(d,e3,e):=aJ e;dsimp only at e e2 e3;refine(F,L,S,env,w1,S1,R,E,e1,λ F1 L1 H1 x g1 R1 d1=>(F1,L1,S1,env,w2,S2,R1,E.mono g1,e2,λ F2 L2 H2 y g2 R2 d2=>?_,),);cases d with
  |list xs=>
    cases w2 with
    |loc n=>cases e|exc c r=>cases e|dic n=>cases e|ob fs=>cases e|tpl ws=>cases e
    |d v=>
      cases v with
      |int kk=>
        dsimp only at e;split at e
        .rename_i c;cases e;let(a,vs,rfl,sq,dl):=(jJ R2 (d1.mono g2) e3).lst R2.sub;cases (show Den X.K F2 (.int kk) y from d2);exact(a,kk,vs,rfl,rfl,sq,c.2.1,c.1,by rw[<- dl.length];exact c.2.2,λ p hp=>q F2 L2 _ p _ (g1.trans g2) (R2.lay hp) (R2.sub.free hp) (R2.notin hp) cO (dl.rep kk.toNat),)
        .cases e
      |_=>cases e
  |_=>cases e
section
open PySem.SeqAt
open PySem.AutoSeq1 (wpAny_loadPart')
open PySem.MeetsSeq PySem.MeetsSeq2 PySem.MeetsSeq3
def sH:∀ {vs:List qj}{ns:List Int}{i:Nat},IntsAre vs ns->i<↑vs->∃ a t,vs[i]?=qz (.int a t)/\ns.drop i=a::ns.drop (i+1)
 |_,_,i,.nil,h=>absurd h (yBq i)|_,_,0,.cons a t _,_=>(a,t,rfl,rfl,)
 |_,_,i+1,.cons a t r,h=>by
   let(b,u,h1,h2):=sH (i:=i) r (h:);exact(b,u,by simpa using h1,by simpa using h2,)
end
def aMJ(f:FL):FL:=λ env S=>(f env S).bind λ p=>if p.1.length<=1000000 then qz p else qx
def uL:1000000<=qk:=by rw[zx];decide
def Itd(hi:Int)(n:Nat):It:=(λ i _=>i<n,λ i H x H'=>H'=H/\x=.int (hi-i),λ i _=>n<=i,)
def aPo(it:qw)(hi:Int)(n:Nat):Turn P w K tg (Itd hi n) [it] it (λ i h=>yy h it (hi+(i:Nat)*(-1)) ((n:Int)-(i:Nat)) (-1)) where
 mem:=by simp
 obj:=λ i h st b hb=>by
  have e:b=it:=(hb:)
  subst e;exact⟨_,st,λ v z=>by
   have z':Data.fields _=Data.cell v:=z;cases z'⟩
 keep:=λ i h h' st k=>k it (by simp) _ st
 item:=by
  intro X hP hw hK hc i aB s σ H E I hf st hg;subst hP hw hK;let(f0,f1,f2,f3,f4,f5):=hf it (by simp);have W:=Walks.range (prog:=X.prog) (w:=X.w) (I.ok.hd hc) it hi (-1) n;refine W.item i s _ _ hg st λ v h' tk hv st' kk=>?_
  let(t,rfl):=hv;have I1:Inv X aB σ H {s with heap:=h',toks:=tk }:=I.turned (λ b o hb e=>kk b o (hb:) e) f0 f1 f3 f4 f5;refine(_,rfl,aA6 (s:={s with heap:=h',toks:=tk }) (n:="range_iterator") st' rfl rfl (·) (.int (hi-i),H,I1,(t,?_,),(rfl,rfl,),st',λ b hb=>(hf b hb).1,),);congr 1;omega
 done:=by
  intro X hP hw hK hc i aB s σ H E I hf st hg;subst hP hw hK;let(f0,f1,f2,f3,f4,f5):=hf it (by simp);exact wpAny_pyNext_range_end (I.ok.hd hc) st (by have:n<=i:=hg;omega) λ h' eb=>(rfl,I.turned (t':=s.toks) (λ b o hb e=>eb b o hb e) f0 f1 f3 f4 f5,)
 self:=λ _ _ _ _ _ st h=>yw st h
def aFM(a b:Int):yEj a b (-1)=if b<a then a-b else 0:=by unfold yEj;simp only[show ¬ ((-1:Int)>0) by decide,if_false,Int.neg_neg,Int.ediv_one,gt_iff_lt];split<;>omega
def aOQ{a b:Int}(ha : -(2^62)<=a)(ha':a<2^62)(hb : -(2^62)<=b)(hb':b<2^62):yIr a b (-1)=true:=by unfold yIr;rw[aFM];simp only[Builtin.Range.rangeFitsLong,yAs,yEf,decide_eq_true_eq,beq_iff_eq,show ¬ ((-1:Int)>0) by decide,if_false];split<;>omega
def aSR{R:It->Hp->Prop}{E:qj->qv->Prop}{hi lo:Int}(I:Inv X aB σ H s)(h1 : -(2^62)<=hi)(h2:hi<2^62)(h3 : -(2^62)<=lo)(h4:lo<2^62)(q:R (Itd hi (hi-lo).toNat) H):qu (model X.prog X.w) X.A (pyIter (.ref s.heap.objs.size)) (PIE X aB σ tg R) E {s with heap:=s.heap.push {cls:=.type "range",data:=.fields #[.int hi t,.int lo u,.int (-1) v] },toks:=tk }:=by
 refine wpAny_pyIter_range (IsRange.new ..) (aOQ h1 h2 h3 h4) ?_;have I1:Inv X aB σ H {s with heap:=s.heap.push {cls:=.type "range",data:=.fields #[.int hi t,.int lo u,.int (-1) v] },toks:=tk }:=I.kept λ b o e=>hpS _ e
 refine⟨(s.heap.push {cls:=.type "range",data:=.fields #[.int hi t,.int lo u,.int (-1) v] }).objs.size,[(s.heap.push {cls:=.type "range",data:=.fields #[.int hi t,.int lo u,.int (-1) v] }).objs.size],_,_,H,rfl,
  I1.kept (t':=tk) λ b o e=>hpS _ e,aPo _ hi (hi-lo).toNat,?_,λ b hb=>?_,q⟩
 .have e1:hi+((0:Nat):Int)*(-1)=hi:=by simp
  have e2:(((hi-lo).toNat:Nat):Int)-((0:Nat):Int)=yEj hi lo (-1):=by rw[aFM];split<;>omega
  show yy _ _ (hi+((0:Nat):Int)*(-1)) ((((hi-lo).toNat:Nat):Int)-((0:Nat):Int)) (-1);rw[e1,e2];exact xAd _ rfl
 .have e:b=(s.heap.push {cls:=.type "range",data:=.fields #[.int hi t,.int lo u,.int (-1) v] }).objs.size:=(hb:)
  subst e;exact I1.fpOk (yAb _) (I1.hok.fresh (yAb _))
def aMg(ta:TA):TI:=λ σ H R=>ta σ H λ vs H1=>∃ i j:Int,vs=[.int i,.int j,.int (-1)]/\(-(2^62)<=i/\i<2^62 /\ -(2^62)<=j/\j<2^62)/\R (Itd i (i-j).toNat) H1
def aPi{ta:TA}(hg:Gl X "range")(hm:X.mg "range" = qx)(ha:PA X [a,b,c] ta)(hs:qo [a,b,c] X.env=(false,eval a X.env)::qo [b,c] X.env)(hs2:qo [b,c] X.env=[(false,eval b X.env),(false,eval c X.env)]) :
 PI X tg (.Call (.Name "range" p) [a,b,c] [] pos) (aMg ta):=by
 intro aB s σ H R I h;refine Call_ (lL I hg hm boot_range (yBc (bA (ha pos aB s σ H _ I h) λ us s1 hPq48=>?_) hs (by rw[hs2];rfl)));let(vs,H1,I1,r1,q1):=hPq48;let(i,j,e,(q1,q2,q3,q4),q):=q1;subst e;cases r1 with
 |cons r rr=>
   cases rr with
   |cons r' rr=>
     cases rr with
     |cons r'' rr=>
       cases rr;let(t,rfl):=r;let(t',rfl):=r';let(t'',rfl):=r'';exact call_range_3 (·) (aSR I1 q1 q2 q3 q4 q)
def lV(hi:Int):Nat->List D
 |0=>[]|n+1=>.int hi::lV (hi-1) n
def rS:∀ (n:Nat) (hi:Int),(lV hi n).length=n
 |0,_=>rfl|n+1,hi=>by rw[lV,yAl,rS n]
def aCu:∀ (n:Nat) (hi:Int) (i:Nat),i<n->(lV hi n)[i]?=qz (.int (hi-i))
 |0,_,_,h=>by omega|n+1,hi,0,_=>by simp[lV]
 |n+1,hi,i+1,h=>by
   rw[lV,yDe,aCu n (hi-1) i (!_)];congr 2
   push_cast
   omega
def aS8(hi:Int)(n:Nat):Wk K F L (Itd hi n) (lV hi n) where
 go:=λ i H s hi=>by rw[rS] at hi;exact hi
 stop:=λ H s=>by rw[rS];exact yAb _
 yld:=λ i H F1 L1 S x H' d g R e y=>by
  let(rfl,rfl):=y;have hi:i<n:=by
   have:=(gIm e).1;rw[rS] at this;exact this
  rw[aCu n _ i hi] at e;cases e;exact(F1,bV.refl _,R,.int _,)
def aBe(fa fb fc:FE):FL:=λ env S=>(fa env S).bind λ p=>(fb env p.2).bind λ q=>(fc env q.2).bind λ r=>match p.1,q.1,r.1 with
 |.d (.int i),.d (.int j),.d (.int k)=>if (-(2^62)<=i/\i<2^62 /\ -(2^62)<=j/\j<2^62)/\k = -1 then qz (lV i (i-j).toNat,r.2) else qx
 |_,_,_=>qx
def aWj{fa fb fc:FE}(σ:L2.St)(H:Hp)(Rr:It->Hp->Prop)(h:jG K (aBe fa fb fc) σ H Rr):aMg (dQ K (cL fa (cL fb (cL fc gG)))) σ H Rr:=by
 let(F,L,S,env,ds,S',R,E,e,q):=h;let((w,S1),e1,e2):=aJ e;let((w2,S2),e3,e4):=aJ e2;let((w3,S3),e5,e6):=aJ e4;dsimp only at e6 e3 e5;split at e6
 .split at e6
  .rename_i c;let(c,rfl):=c;cases e6;refine(F,L,S,env,[.d (.int _),.d (.int _),.d (.int _)],_,R,E,by unfold cL;rw[e1];dsimp only[yDj];rw[e3];dsimp only[yDj];rw[e5];rfl,λ F1 L1 H1 vs g1 R1 d1=>?_,);cases d1 with
   |cons dd dr=>
     cases dr with
     |cons dd2 dr=>
       cases dr with
       |cons dd3 dr=>
         cases dr;cases (show Den K F1 (.int _) _ from dd);cases (show Den K F1 (.int _) _ from dd2);cases (show Den K F1 (.int _) _ from dd3);exact(_,_,rfl,c,q F1 L1 H1 _ g1 R1 (aS8 _ _),)
  .cases e6
 .cases e6
def aVd(t:Bool):String:=if t then "tuple_iterator" else "list_iterator"
def fS(t:Bool)(h:Heap)(a:qw)(aG:Array qj):Prop:=match t with|true=>h.IsTuple a aG|false=>h.IsList a aG
def mO(t:Bool)(h:Heap)(it a:qw)(i:Nat):Prop:=match t with|true=>h.IsTupleIter it a i|false=>h.IsListIter it a i
def Sq(t:Bool)(K:FrG)(H:Hp)(a:qw)(xs:List V):Prop:=match t with|true=>cE K H a xs|false=>bT K H a xs
def mO.at{h':Heap}(x:mO t h it a i)(q:∀ o,h.get? it=qz o->h'.get? it=qz o):mO t h' it a i:=by
 cases t with
 |true=>exact Heap.IsTupleIter.at (h:=h) x q|false=>exact Heap.IsListIter.at (h:=h) x q
def mO.obj(x:mO t h it a i):∃ o,h.get? it=qz o/\∀ v,o.data≠.cell v:=by
 cases t with
 |true=>let(o,ho,hc,hd):=x;exact⟨o,ho,λ v z=>by rw[hd] at z;cases z⟩
 |false=>let(o,ho,hc,hd):=x;exact⟨o,ho,λ v z=>by rw[hd] at z;cases z⟩
def fS.lt(x:fS t h a aG):a<h.objs.size:=by
 cases t with
 |true=>let(o,ho,_):=x;exact xAa ho
 |false=>let(o,ho,_):=x;exact xAa ho
def aQB{A:zv}(hh:A.handled=qx)(t:Bool)(it l:qw)(hne:l≠it)(aN:Array qj):Draws prog w A it [it,l] aN.size (λ i v=>aN[i]?=qz v) (λ i h=>mO t h it l i/\fS t h l aN):=by
 cases t with
 |true=>exact aPs hh it l hne aN|false=>exact Draws.list hh it l hne aN
def aMd{xs:List V}(I:Inv X aB σ H s)(h:Sq t X.K H a xs):∃ aG:List qj,aT xs aG/\fS t s.heap a aG.toArray:=by
 cases t with
 |true=>let(aG,rv,pl,hz):=I.tuple h;exact(aG,rv,pl,)
 |false=>let(aG,rv,pl,hz):=I.list h;exact(aG,rv,pl.isList,)
def aJL{xs:List V}(I:Inv X aB σ H s)(h:Sq t X.K H a xs)(h':Sq t X.K H a ys):xs=ys:=by
 cases t with
 |true=>exact I.tuple_inj h h'|false=>exact I.list_inj h h'
def aDf{xs:List V}(e:bV H H')(h:Sq t K H a xs):Sq t K H' a xs:=by
 cases t with
 |true=>exact kI e h|false=>exact e.seq h
def aOz{aB:List (qw×Obj)}{σ:L2.St}{H:Hp}{s:qv}{h':Heap}{ch:List qw}{t':Nat}(I:Inv X aB σ H s)(hch:∀ b∈ch,gH X aB H b)(k:∀ b u,b ∉ ch->s.heap.get? b=qz u->h'.get? b=qz u) :
 Inv X aB σ H {s with heap:=h',toks:=t' }:=by
 have nch:∀ b u,H b=qz u->b ∉ ch:=λ b u e z=>by rw[(hch b z).1] at e;cases e
 refine I.step (g':=s.gens) (d':=s.drawn) (ch:=ch) (λ b hb=>((hch b hb).2.2.2.1,(hch b hb).2.1,(hch b hb).2.2.2.2.1,(hch b hb).2.2.2.2.2,)) (λ b o _ _ hc e _=>k b o hc e) (λ b o _ _ hc e _=>(o.slots,k b o hc e,)) (λ _ _ _ _ n=>n)
  (λ b o hc e=>(o,k b o hc e,)) (λ _ _ e=>e) (λ _ _ _ e=>e) (λ b ps e=>(#[],by rw[e];simp,)) (λ m hm=>?_) (λ b u e=>?_) I.bare
 .let(o,es,ep,ho,r):=hm;exact(o,es,ep,k _ o (λ z=>(hch _ z).2.1 rfl) ho,r,)
 .refine(I.hok b u e).stay (λ c v hc q=>k c v ?_ q) (λ _ q=>q) λ _ _ q=>q
  rcases hc with z|z
  .rw[z];exact nch b u e
  .exact nch c _ z
def aPc{E:qj -> qv -> Prop}{s:qv}{Q:qj->qv->Prop}(hl:fS t s.heap l aN)(h:Q (.ref s.heap.objs.size) {s with heap:=s.heap.push {cls:=.type (aVd t),data:=.fields #[.ref l,.int 0 0] } }):qu (model prog w) A (pyIter (.ref l)) Q E s:=by
 cases t with
 |true=>exact wpAny_pyIter_tuple hl h|false=>exact jk hl h
abbrev aJZ(h:Heap)(z TI TO a:qw)(f:Bool):Prop:=
 h.get? z=qz {cls:=.type "zip",dict:=qx,data:=.fields #[yv a,.bool f,.bool false,.ref TI,.ref TO],slots:=#[] }
def aPI{E:qj -> qv -> Prop}{s:qv}{Q:Option Obj->qv->Prop}(h:Q (s.heap.get? a) s):qu (model prog w) A (loadIfAlive a) Q E s:=λ _ _ _=>h
def aOv{E:qj -> qv -> Prop}{s:qv}{TI TO:qw}{Q:Bool->qv->Prop}(hz:aJZ s.heap z TI TO a f)(ha:∃ o,s.heap.get? a=qz o)(hQ:∀ h',aJZ h' z TI TO a true->yCi z s.heap h'->Q false {s with heap:=h' }):qu (model prog w) A (yDk (.ref z)) Q E s:=by
 unfold yDk;refine wB (xz hz rfl (x:=yv a) rfl ?_);let(o,ho):=ha;have hn:((s.heap.get? ((a:Int)).toNat).isNone)=false:=by
  rw[yAr,ho];rfl
 show qu _ _ (loadIfAlive ((a:Int)).toNat >>= _) _ _ _;refine wB (aPI ?_);rw[hn];simp only[yAm,if_false];cases f with
 |true=>
   refine wB (xz hz rfl (x:=.bool true) rfl ?_);rw[if_neg (·)];exact wP (hQ s.heap hz (Heap.SameBut.refl _ _))
 |false=>
   refine wB (xz hz rfl (x:=.bool false) rfl ?_);rw[if_pos (·)];exact wB (jv hz (by simp) λ h₁ hz₁ hs₁=>wP (hQ h₁ hz₁ hs₁))
abbrev Tp(h:Heap)(a:qw)(xs:List qj):Prop:=h.get? a=qz {cls:=.type "tuple",data:=.seq xs.toArray }
abbrev Zo(h:Heap)(e:qw)(f:qj)(g:Bool):Prop:=h.get? (e+2)=qz {cls:=.type "zip",data:=.fields #[f,.bool g,.bool false,.ref e,.ref (e+1)] }
abbrev Zq:=List (Bool×qw)
structure ZT(n:Nat)(qs:Zq)(k j:Nat)(h:Heap):Prop where
 it:∀ (i:Nat) q,qs[i]?=qz q->mO q.1 h (n+i) q.2 (if i<j then k+1 else k)
 ti:Tp h (n+↑qs) ((yCt n ↑qs).map .ref)
def nn(h:a≠b):(n+a:Nat)≠n+b:=λ e=>h (Nat.add_left_cancel e)
def na{a b:Nat}(h:a≠b):a≠b:=h
def mH{α:Type}{l:List α}{q:α}(h:l[i]?=qz q):i<↑l:=(gIm h).1
def ZT.keep{h':Heap}(T:ZT n qs k j h)(r:∀ c o,n<=c->c<=n+↑qs->h.get? c=qz o->h'.get? c=qz o):ZT n qs k j h':=
 (λ i q e=>(T.it i q e).at λ o x=>r _ o (yBz ..) (yEk (yEs (mH e)) _) x,r _ _ (yBz ..) (yAb _) T.ti,)
def ZT.all(T:ZT n qs k j h)(hj:↑qs<=j):ZT n qs (k+1) 0 h:=(λ i q e=>by have x:=T.it i q e;rw[if_pos (xAb (mH e) hj)] at x;rw[if_neg (yBq _)];exact x,T.ti,)
def aEP{os:List qj}(T:ZT n qs k j h)(hO:Tp h (n+↑qs+1) os)(hz:Zo h (n+↑qs) f g)(c:Nat)(h1:n<=c)(h2:c<=n+↑qs+2):∃ o,h.get? c=qz o/\∀ v,o.data≠.cell v:=by
 by_cases h3:c<n+↑qs
 .have e:=yAa (l:=qs) (show c-n<↑qs by omega);have:=(T.it _ _ e).obj;rwa [show n+(c-n)=c by omega] at this
 have:c=n+↑qs\/c=n+↑qs+1\/c=n+↑qs+2:=by omega
 rcases this with rfl|rfl|rfl
 .exact⟨_,T.ti,λ v z=>by cases z⟩
 .exact⟨_,hO,λ v z=>by cases z⟩
 .exact⟨_,hz,λ v z=>by cases z⟩
def Ys(qs:Zq)(vs:Nat->List qj)(k j:Nat)(ys:List qj):Prop:=∀ i:Nat,i<↑qs->i<j->(vs i)[k]?=ys[i]?
def bAa(h:Heap)(e:qw):Prop:=∃ o,h.get? e=qz o/\o.cls=.type "StopIteration"
structure ZL(n:Nat)(qs:Zq)(k:Nat)(h0:Heap)(j:Nat)(h:Heap):Prop where
 t:ZT n qs k j h
 sz:h.objs.size=h0.objs.size
 fr:∀ c o,c<n\/n+↑qs+2<c->h0.get? c=qz o->h.get? c=qz o
def fS.at{h':Heap}(x:fS t h a aG)(f:∀ o,h.get? a=qz o->h'.get? a=qz o):fS t h' a aG:=by
 cases t with
 |true=>let(o,ho,r):=x;exact(o,f _ ho,r,)
 |false=>let(o,ho,r):=x;exact(o,f _ ho,r,)
def ZL.same(L:ZL n qs k h0 j h)(x:c=n+↑qs+1\/c=n+↑qs+2)(hs:yCi c h h'):ZL n qs k h0 j h':=
 (L.t.keep λ b o _ hb e=>hs.extBut _ _ (λ(z:b=c)=>by subst z;rcases x with rfl|rfl<;>omega) e,hs.1.trans L.sz,λ b o hb e=>hs.extBut _ _ (λ(z:b=c)=>by subst z;rcases x with rfl|rfl<;>omega) (L.fr b o hb e),)
def aLj{A:zv}{E:qj -> qv -> Prop}{s:qv}{Q:qj->qv->Prop}{us:List qj}(hh:A.handled=qx)(hq:qs[j]?=qz q)(L:ZL n qs k h0 j s.heap)(sq:fS q.1 h0 q.2 us.toArray/\q.2<n/\k<=↑us)(hQ:∀ x h' tk,us[k]?=qz x->ZL n qs k h0 (j+1) h'->yCi (n+j) s.heap h'->Q x {s with heap:=h',toks:=tk })(hE:∀ h' e,k=↑us->Heap.ExtBut (n+j) s.heap h'->bAa h' e->E (.ref e) {s with heap:=h' }):qu (model prog w) A (yBu (.ref (n+j))) Q E s:=by
 let(sq,lt,hk):=sq;replace sq:fS q.1 s.heap q.2 us.toArray:=fS.at sq λ o e=>L.fr _ o (.inl lt) e
 have D:=@aQB prog w _ hh q.1 (n+j) q.2 (xAj (xAb lt (yBz ..))) us.toArray;have t:=L.t.it j q hq;rw[if_neg (yBl _)] at t;have jl:=mH hq;have ze:us.toArray.size=↑us:=yAh ..;by_cases e:k<↑us
 .refine D.item k _ _ _ (ze▸e) (t,sq,) λ x h' tk px st hs=>hQ x h' tk (List.getElem?_toArray▸px) ((λ i q' hi=>?_,hs.extBut _ _ (nn (yFm jl)) L.t.ti,),hs.1.trans L.sz,λ c o hc e=>hs.extBut _ _ (λ(z:c=n+j)=>by subst z;omega) (L.fr c o hc e),) hs
  by_cases c:i=j
  .subst c;rw[hq] at hi;cases hi;rw[if_pos (yBa _)];exact st.1
  .have x:=(L.t.it i q' hi).at λ o x=>hs.extBut _ _ (nn c) x
   rwa [ite_cond_congr (propext ((λ z=>by omega,λ z=>by omega,):i<j ↔ i<j+1))] at x
 .have:us.toArray.size=k:=by omega
  exact D.done _ _ _ (this▸(t,sq,)) λ h' e hs he=>hE h' e (!_) hs he
structure ZH(n:Nat)(qs:Zq)(k:Nat)(h:Heap):Prop where
 t:ZT n qs k 0 h
 to:∃ os,↑os=↑qs/\Tp h (n+↑qs+1) os
 z:∃ f g,Zo h (n+↑qs) f g/\(f=.none/\g=false\/∃ a:Nat,f=yv a/\∃ o,h.get? a=qz o)
def aEz{α:Type}{l bS:List α}{x:α}(h:x::bS=l.drop j):l[j]?=qz x/\bS=l.drop (j+1):=by
 have e:l[j]?=qz x:=by rw[<- List.head?_drop,<- h];rfl
 refine(e,?_,);rw[<- List.tail_drop,<- h];rfl
def aL8{A:zv}{E:qj -> qv -> Prop}{s:qv}{qs:Zq}{vs:Nat -> List qj}{Q:Option qj->qv->Prop}(hh:A.in1.handled=qx)(h0:0<↑qs)(h3:↑qs<=3)(Z:ZH n qs k s.heap)(sq:∀ i q,qs[i]?=qz q->fS q.1 s.heap q.2 (vs i).toArray/\q.2<n/\k<=(vs i).length)(hQ:∀ h' tk ys,↑ys=↑qs->Ys qs vs k ↑qs ys->ZH n qs (k+1) h'->Tp h' s.heap.objs.size ys->(∀ c o,c<n\/n+↑qs+2<c->s.heap.get? c=qz o->h'.get? c=qz o) ->
   (Zo s.heap (n+↑qs) .none false->Zo h' (n+↑qs) (yv s.heap.objs.size) false)->Q (qz (.ref s.heap.objs.size)) {s with heap:=h',toks:=tk })(hE:∀ h' tk i,i<↑qs->k=(vs i).length->(∀ c o,c<n\/n+↑qs+2<c->s.heap.get? c=qz o->h'.get? c=qz o)->Q qx {s with heap:=h',toks:=tk }) :
 qu (model prog w) A (ww (.ref (n+↑qs+2))) Q E s:=by
 let(f,g,hz,hf):=Z.z;let(os,ol,jZ):=Z.to;have hT:s.TypeIs (.ref (n+↑qs+2)) "zip":=(_,hz,rfl,);have hk3:∀ l:List qj,↑l=↑qs->↑l<=qk:=λ l e=>xAh (show ↑l<=1000000 by omega) uL
 have gr:∀ j,j<↑qs->((yCt n ↑qs).map Value.ref)[j]?=qz (.ref (n+j)):=λ j h=>by simp[h]
 unfold ww;refine wB (wpAny_attempt (wpAny_callSpecial?_slot (name:=Str.ofString "__next__") hT F.slot_zip_next (vq F.slot_zip_next hT F.entry_zip_next ?_ (F.args_zip_next_1 _))));show qu _ _ (field (.ref (n+↑qs+2)) 2 >>= _) _ _ _;refine wB (xz hz rfl (x:=.bool false) rfl ?_);show qu _ _ (field (.ref (n+↑qs+2)) 3 >>= _) _ _ _;refine wB (xz hz rfl (x:=.ref (n+↑qs)) rfl ?_);refine wB (xy Z.t.ti rfl ?_);have hi:(((yCt n ↑qs).map Value.ref).toArray.isEmpty)=false:=by
  cases e:↑qs with
  |zero=>omega|succ m=>rfl
 dsimp only;rw[hi];simp only[yAm,if_false];rcases hf with ⟨rfl,rfl⟩|⟨a,rfl,o,ho⟩
 .refine wB ?_;unfold yDk;refine wB (xz hz rfl (x:=.none) rfl (wP ?_));simp only[if_true];refine wB (wu ?_);refine wB (xz hz rfl (x:=.ref (n+↑qs+1)) rfl ?_);refine wB (jv hz (by simp) λ h₁ hz₁ hs₁=>?_);refine wB (wpAny_forIn_list _ (λ bS b s'=>∃ j os h tk,bS=((yCt n ↑qs).map Value.ref).zipIdx.drop j/\b=(qx,())/\s'={s with heap:=h,toks:=tk }/\ZL n qs k s.heap j h/\↑os=↑qs/\Tp h (n+↑qs+1) os/\Ys qs vs k j os/\Zo h (n+↑qs) .ellipsis false) _ ?_ ?_ _ _ ?_)
  .rintro x bS b s' ⟨j,os,h,tk,e1,e2,e3,L,e4,jZ,hy,hz⟩;subst e2 e3;let(e5,e6):=aEz e1;have jl:j<↑qs:=by have:=mH e5;simpa using this
   have:x=(.ref (n+j),j):=by
    rw[List.getElem?_zipIdx,gr j jl] at e5;simpa using e5.symm
   subst this;refine wB (wpAny_onRaise ?_);show qu _ _ (yBu (.ref (n+j)) >>= _) _ _ _;refine wB (aLj hh (yAa jl) L (sq j _ (yAa jl)) (λ x h2 tk2 hx L2 hs2=>wP ?_) λ h2 e ek hs2 he=>?_)
   .have hTO2:Tp h2 (n+↑qs+1) os:=hs2.extBut _ _ (na (!_)) jZ;refine wB (xy hTO2 rfl (wB (jw hTO2 rfl (wB (wpAny_letGo (wP ?_))))));have hs3:=Heap.SameBut.update h2 (n+↑qs+1) (Obj.mapSeq (·.setIfInBounds j x));refine(j+1,os.set j x,_,tk2,e6,rfl,rfl,L2.same (.inl rfl) hs3,by simp[e4],?_,λ i hi hj=>?_,hs3.extBut _ _ (na (!_)) (hs2.extBut _ _ (na (!_)) hz),)
    .show Heap.get? _ _=_;rw[yBx _ hTO2 rfl];simp[Obj.mapSeq]
    .by_cases c:i=j
     .subst c;rw[hx];simp[e4,jl]
     .rw[hy i hi (!_),yAt (Ne.symm c)]
   .have hz2:Zo h2 (n+↑qs) .ellipsis false:=hs2 _ _ (na (!_)) hz;let(oe,ho,hc):=he;have hez:e≠n+↑qs+2:=λ x=>by subst x;rw[hz2] at ho;cases ho;simp at hc
    refine jv hz2 (by simp) λ h3 _ hs3=>?_
    exact wB (wpAny_isInstance (T:="StopIteration") (b:=true) (oe,hs3.extBut _ _ hez ho,hc,) isSubtype_stop (wP (hE _ _ j jl ek λ c o hc e=>hs3.extBut _ _ (λ z:c=_=>by subst z;omega) (hs2 _ _ (λ z:c=_=>by subst z;omega) (L.fr c o hc e)))))
  .rintro b s' ⟨j,os,h,tk,e1,e2,e3,L,e4,jZ,hy,hz⟩;subst e2 e3;have jl:↑qs<=j:=by have:=congrArg yHa e1;simp at this;omega
   refine wB (xy jZ rfl (wB (wpAny_newTuple ?_ (hk3 _ e4))));have hz6:Zo (h.push {cls:=.type "tuple",data:=.seq os.toArray }) (n+↑qs) .ellipsis false:=hpS _ hz;have zl:n+↑qs+2<h.objs.size:=xAa hz;show qu _ _ (yFh (.ref (n+↑qs+2)) (.ref h.objs.size) >>= _) _ _ _;unfold yFh;refine wB (wB (jv hz6 (by simp) λ h7 hz7 hs7=>jv hz7 (by simp) λ h8 hz8 hs8=>?_));have up:∀ c o,c≠n+↑qs+2->(h.push {cls:=.type "tuple",data:=.seq os.toArray }).get? c=qz o->h8.get? c=qz o:=λ c o c1 e=>hs8.extBut _ _ c1 (hs7.extBut _ _ c1 e)
   have hz9:Zo h8 (n+↑qs) (yv h.objs.size) false:=hz8;have hT8:Tp h8 h.objs.size os:=up _ _ (yFm zl) (xAd _ rfl);refine wP (_,rfl,?_,);show qu _ _ (pure (qz (Value.ref h.objs.size))) _ _ _;rw[L.sz] at hz9 hT8 ⊢;exact wP (hQ h8 _ os e4 (λ i hi _=>hy i hi (!_)) ((L.t.all jl).keep λ c o _ hc e=>up c o (na (!_)) (hpS _ e),(os,e4,up _ _ (na (!_)) (hpS _ jZ),),_,_,hz9,.inr (_,rfl,_,hT8,),) hT8 (λ c o hc e=>up c o (na (!_)) (hpS _ (L.fr c o hc e))) λ _=>hz9)
  .exact(0,os,h₁,_,rfl,rfl,rfl,(ZL.mk Z.t rfl λ _ _ _ e=>e).same (.inr rfl) hs₁,ol,hs₁.extBut _ _ (na (!_)) jZ,λ i _ z=>absurd z (yBq _),hz₁,)
 .have hz0:=hz;refine wB (aOv (z:=n+↑qs+2) hz (o,ho,) λ h₁ hz₁ hs₁=>?_);simp only[yAm,if_false];rw[<- yHr];refine wB (wpAny_forIn_list _ (λ bS b s'=>∃ j ys h tk,bS=((yCt n ↑qs).map Value.ref).drop j/\b=(qx,ys.toArray)/\s'={s with heap:=h,toks:=tk }/\ZL n qs k s.heap j h/\↑ys=min j ↑qs/\Ys qs vs k j ys/\Zo h (n+↑qs) (yv a) true/\Tp h (n+↑qs+1) os) _ ?_ ?_ _ _ ?_)
  .rintro x bS b s' ⟨j,ys,h,tk,e1,e2,e3,L,e4,hy,hz,jZ⟩;subst e2 e3;let(e5,e6):=aEz e1;have jl:j<↑qs:=by have:=mH e5;simpa using this
   rw[gr j jl] at e5;cases e5;refine wB (zw ?_);show qu _ _ (yBu (.ref (n+j)) >>= _) _ _ _;refine wB (aLj hh (yAa jl) L (sq j _ (yAa jl)) (λ x h2 tk2 hx L2 hs2=>wP (wP ?_)) λ h2 e ek hs2 he=>?_)
   .refine(j+1,ys++[x],h2,tk2,e6,by simp,rfl,L2,by simp;omega,λ i hi hj=>?_,hs2.extBut _ _ (na (!_)) hz,hs2.extBut _ _ (na (!_)) jZ,);by_cases c:i=j
    .subst c;rw[hx,yAi (!_),show i-↑ys=0 by omega];rfl
    .rw[hy i hi (!_),xAm (!_)]
   .let(oe,ho,hc):=he;exact wB (wpAny_isInstance (T:="StopIteration") (b:=true) (oe,ho,hc,) isSubtype_stop (wP (hE _ _ j jl ek λ c o hc e=>hs2 _ _ (λ z:c=_=>by subst z;omega) (L.fr c o hc e))))
  .rintro b s' ⟨j,ys,h,tk,e1,e2,e3,L,e4,hy,hz,jZ⟩;subst e2 e3;have jl:↑qs<=j:=by have:=congrArg yHa e1;simp at this;omega
   have e4:↑ys=↑qs:=by omega
   refine wB (wpAny_newTuple ?_ (hk3 _ e4));refine wP (_,rfl,?_,);show qu _ _ (pure (qz (Value.ref h.objs.size))) _ _ _;have hT:Tp (h.push {cls:=.type "tuple",data:=.seq ys.toArray }) h.objs.size ys:=xAd _ rfl;rw[L.sz] at hT ⊢;refine wP (hQ _ _ ys e4 (λ i hi _=>hy i hi (!_)) ((L.t.all jl).keep λ c o _ hc e=>hpS _ e,(os,ol,hpS _ jZ,),_,_,hpS _ hz,.inr (_,rfl,?_,),) hT (λ c o hc e=>hpS _ (L.fr c o hc e)) λ z=>?_)
   .by_cases c:n<=a/\a<=n+↑qs+2
    .let(o,e,_):=aEP L.t jZ hz a c.1 c.2;exact(o,hpS _ e,)
    .exact(o,hpS _ (L.fr a o (!_) ho),)
   .have:=hz0.symm.trans z;simp[yv] at this
  .exact(0,[],h₁,_,rfl,rfl,rfl,(ZL.mk Z.t rfl λ _ _ _ e=>e).same (.inr rfl) hs₁,by simp,λ i _ z=>absurd z (yBq _),hz₁,hs₁.extBut _ _ (na (!_)) jZ,)
def aEL{n:Nat}{qs:Zq}{k:Nat}{aB:List (qw×Obj)}{σ:L2.St}{H:Hp}{s:qv}(I:Inv X aB σ H s)(hl:∀ q∈qs,q.2<n)(h:∀ q∈qs,∃ xs,Sq q.1 X.K H q.2 xs/\k<=↑xs) :
 ∃ vs:Nat->List qj,(∀ i q,qs[i]?=qz q->fS q.1 s.heap q.2 (vs i).toArray/\q.2<n/\k<=(vs i).length)/\∀ (i:Nat) q xs,qs[i]?=qz q->Sq q.1 X.K H q.2 xs->aT xs (vs i):=by
 have:∀ i:Nat,∃ us:List qj,∀ q,qs[i]?=qz q->(fS q.1 s.heap q.2 us.toArray/\q.2<n/\k<=↑us)/\∀ xs,Sq q.1 X.K H q.2 xs->aT xs us:=λ i=>by
  cases e:qs[i]? with
  |none=>exact⟨[],λ q z=>nomatch z⟩
  |some q=>
    have m:=xAk e;let(xs,sq,hk):=h q m;let(us,rv,pl):=aMd I sq;refine(us,λ q' z=>?_,);cases z;exact((pl,hl q m,rv.length▸hk,),λ zs hz=>aJL I sq hz▸rv,)
 let(vs,hv):=Classical.axiomOfChoice this;exact(vs,λ i q e=>(hv i q e).1,λ i q xs e=>(hv i q e).2 xs,)
def aI4:∀ {us:List qj}{P:Nat->V->Prop},(∀ (j:Nat) u,us[j]?=qz u->∃ x,P j x/\aU x u)->∃ xs:List V,aT xs us/\∀ (j:Nat) x,xs[j]?=qz x->P j x
 |[],_,_=>([],.nil,λ _ _ z=>by simp at z,)
 |u::us,P,h=>by
   let(x,p,r):=h 0 u rfl;let(xs,v,q):=aI4 (P:=λ j=>P (j+1)) λ j u e=>h (j+1) u e
   refine(x::xs,.cons r v,λ j y e=>?_,);cases j with
   |zero=>cases e;exact p|succ j=>exact q j y e
def xD(K:FrG)(qs:Zq):It:=
 ⟨λ i H=>∀ q∈qs,∃ xs,Sq q.1 K H q.2 xs/\i<↑xs,
  λ i H v H'=>∃ p ys,H p=qx/\H'=bB H p (.tup ys)/\v=.ref p/\↑ys=↑qs/\∀ (j:Nat) q xs,qs[j]?=qz q->Sq q.1 K H q.2 xs->xs[i]?=ys[j]?,
  λ i H=>(∀ q∈qs,∃ xs,Sq q.1 K H q.2 xs/\i<=↑xs)/\∃ q∈qs,∃ xs,Sq q.1 K H q.2 xs/\i=↑xs⟩
section
variable {n:Nat}{qs:Zq}{k:Nat}{X:Cx}{aB:List (qw×Obj)}{σ:L2.St}{H:Hp}{s:qv}{A:zv}{E:qj->qv->Prop}
def aL9{Q:Option qj->qv->Prop}(hh:A.in1.handled=qx)(h0:0<↑qs)(h3:↑qs<=3)(hl:∀ q∈qs,q.2<n)(I:Inv X aB σ H s)(Z:ZH n qs k s.heap)(h:∀ q∈qs,∃ xs,Sq q.1 X.K H q.2 xs/\k<↑xs)(hQ:∀ h' tk us ys,aT ys us->↑ys=↑qs->(∀ (j:Nat) q xs,qs[j]?=qz q->Sq q.1 X.K H q.2 xs->xs[k]?=ys[j]?)->ZH n qs (k+1) h'->Tp h' s.heap.objs.size us->(∀ c o,c<n\/n+↑qs+2<c->s.heap.get? c=qz o->h'.get? c=qz o) ->
   (Zo s.heap (n+↑qs) .none false->Zo h' (n+↑qs) (yv s.heap.objs.size) false)->Q (qz (.ref s.heap.objs.size)) {s with heap:=h',toks:=tk }) :
 qu (model X.prog X.w) A (ww (.ref (n+↑qs+2))) Q E s:=by
 let(vs,v1,v2):=aEL I hl λ q m=>(h q m).imp λ xs a=>(a.1,yEs a.2,)
 refine aL8 hh h0 h3 Z v1 (λ h' tk us ul hy Z' hT fr hz=>?_) λ h' tk i il ek _=>?_
 .let(ys,rv,hys):=@aI4 us (λ j x=>∀ q xs,qs[j]?=qz q->Sq q.1 X.K H q.2 xs->xs[k]?=qz x) λ j u e=>by
   have jl:j<↑qs:=ul▸mH e;have eq:=yAa jl;let(xs,sq,kl):=h _ (xAk eq);let(u',e1,r):=(v2 j _ xs eq sq).get (yAa kl);rw[hy j jl jl,e] at e1;cases e1;refine(_,λ q zs eq' sz=>?_,r,);rw[eq] at eq';cases eq';rw[aJL I sz sq,yAa kl]
  refine hQ h' tk us ys rv (rv.length.trans ul) (λ j q xs e sq=>?_) Z' hT fr hz;have jl:j<↑ys:=by rw[rv.length,ul];exact mH e
  rw[yAa jl,hys j _ (yAa jl) q xs e sq]
 .have eq:=yAa il;let(xs,sq,kl):=h _ (xAk eq);have:=(v2 i _ xs eq sq).length;omega
def aLh{Q:Option qj->qv->Prop}(hh:A.in1.handled=qx)(h0:0<↑qs)(h3:↑qs<=3)(hl:∀ q∈qs,q.2<n)(I:Inv X aB σ H s)(Z:ZH n qs k s.heap)(hf:∀ b∈yCt n (↑qs+3),gH X aB H b)(h:(xD X.K qs).stop k H)(hQ:∀ h' tk,Inv X aB σ H {s with heap:=h',toks:=tk }->Q qx {s with heap:=h',toks:=tk }):qu (model X.prog X.w) A (ww (.ref (n+↑qs+2))) Q E s:=by
 let(h1,q,m,xs,sq,e):=h;let(vs,v1,v2):=aEL I hl h1;refine aL8 hh h0 h3 Z v1 (λ h' tk us ul hy _ _ _ _=>?_) λ h' tk i il ek fr=>hQ _ _ (aOz I hf λ c o hb e'=>fr c o ?_ e')
 .let(j,jl,eq):=yHc m;have e1:=hy j jl jl;rw[yDs (by rw[<- (v2 j q xs (List.getElem?_eq_some_iff.mpr (jl,eq,)) sq).length,e];exact yAb _),yAa (ul▸jl)] at e1;cases e1
 .rw[yIb] at hb;omega
end
def aRt(n:Nat)(qs:Zq)(h0:0<↑qs)(h3:↑qs<=3)(hl:∀ q∈qs,q.2<n) :
 Turn P w K (.Tuple elts k pos) (xD K qs) (yCt n (↑qs+3)) (n+↑qs+2) (λ i h=>ZH n qs i h/\Zo h (n+↑qs) .none false) where
 mem:=List.mem_range'_1.mpr (!_)
 obj:=λ i h aW b hb=>by
  let(Z,hz):=aW;let(os,_,hO):=Z.to;have:=List.mem_range'_1.mp hb;exact aEP Z.t hO hz b this.1 (!_)
 keep:=λ i h h' aW q=>by
  let(Z,hz):=aW;have q':∀ c o,n<=c->c<=n+↑qs+2->h.get? c=qz o->h'.get? c=qz o:=λ c o a b e=>q c (List.mem_range'_1.mpr (!_)) o e
  let(os,ol,hO):=Z.to;have hz':Zo h' (n+↑qs) .none false:=q' _ _ (!_) (!_) hz;exact((Z.t.keep λ c o a b=>q' c o a (!_),(os,ol,q' _ _ (!_) (!_) hO,),_,_,hz',.inl (rfl,rfl,),),hz',)
 item:=λ X hP hW hK hc i aB s σ H E I hf aW hg=>by
  let(Z,hz):=aW;subst hP hW hK;refine aL9 (I.ok.hd hc) h0 h3 hl I Z hg λ h' tk us ys rv yl hy Z' hT fr hzo=>(_,rfl,wpAny_letOwnedTupleGo_zip (hzo hz) λ h₂ hz₂ hs₂=>?_,)
  replace hs₂:yCi (n+↑qs+2) h' h₂:=hs₂;have zl:n+↑qs+2<s.heap.objs.size:=xAa hz;let(os,ol,hO):=Z'.to;refine(.ref s.heap.objs.size,_,@aGx _ _ _ _ s h₂ _ s.heap.objs.size (.tup ys) tk I hf (λ c o hb e'=>?_) (yAb _) (xAh (show ↑ys<=1000000 by omega) uL,us,rv,(_,hs₂.extBut _ _ (yFm zl) hT,rfl,0,rfl,),),rfl,(s.heap.objs.size,ys,I.fresh,rfl,rfl,yl,hy,),((Z'.t.keep λ c o _ b=>hs₂.extBut c o (na (!_)),(os,ol,hs₂.extBut _ _ (na (!_)) hO,),_,_,hz₂,.inl (rfl,rfl,),),hz₂,),λ c hb=>?_,)
  .rw[yIb] at hb;exact hs₂.extBut c o (na (!_)) (fr c o (!_) e')
  .have:=List.mem_range'_1.mp hb;rw[bR (na (!_))];exact(hf c hb).1
 done:=λ X hP hW hK hc i aB s σ H E I hf aW hs=>by
  let(Z,hz):=aW;subst hP hW hK;exact aLh (I.ok.hd hc) h0 h3 hl I Z hf hs λ h' tk I'=>(rfl,I',)
 self:=λ A i s Q E h hq=>yj h.2 hq
noncomputable abbrev Zr(qs:Zq):List qj:=qs.map λ q=>.ref q.2
def aOL{E:qj -> qv -> Prop}{s:qv}{vs:Nat -> List qj}{Q:List qj->qv->Prop}(sq:∀ i q,qs[i]?=qz q->fS q.1 s.heap q.2 (vs i).toArray)(h:∀ h',h'.objs.size=s.heap.objs.size+↑qs->(∀ (i:Nat) q,qs[i]?=qz q->mO q.1 h' (s.heap.objs.size+i) q.2 0)->(∀ c o,s.heap.get? c=qz o->h'.get? c=qz o)->Q ((yCt s.heap.objs.size ↑qs).map .ref) {s with heap:=h' }) :
 qu (model prog w) A (yHl (Zr qs)) Q E s:=by
 unfold yHl;refine wB (wpAny_forIn_list _ (λ bS b s'=>∃ j h,j<=↑qs/\bS=(Zr qs).drop j/\b=((yCt s.heap.objs.size j).map Value.ref).toArray/\s'={s with heap:=h }/\h.objs.size=s.heap.objs.size+j/\(∀ (i:Nat) q,qs[i]?=qz q->i<j->mO q.1 h (s.heap.objs.size+i) q.2 0)/\∀ c o,s.heap.get? c=qz o->h.get? c=qz o) _ ?_ ?_ _ _ ?_)
 .rintro x bS b s' ⟨j,h,jl,e1,e2,e3,e4,hi,k⟩;subst e2 e3;let(e5,e6):=aEz e1;rw[yAg] at e5;cases eq:qs[j]? with
  |none=>rw[eq] at e5;cases e5
  |some q=>
    rw[eq] at e5;cases e5;refine wB (zw (aPc (fS.at (sq j q eq) (k _)) (wP (j+1,_,mH eq,e6,?_,rfl,?_,λ i q' eq' il=>?_,λ c o e=>hpS _ (k c o e),))))
    .show Array.push _ (Value.ref h.objs.size)=_;rw[e4,List.range'_1_concat];simp
    .rw[yFe];show h.objs.size+1=_;omega
    .by_cases c:i=j
     .subst c;rw[eq] at eq';cases eq';rw[<- e4];cases q.1<;>exact(_,xAd _ rfl,rfl,rfl,)
     .exact(hi i q' eq' (!_)).at λ o e=>hpS _ e
 .rintro b s' ⟨j,h',jl,e1,e2,e3,e4,hi,k⟩;subst e2 e3;have:j=↑qs:=by have:=congrArg yHa e1;simp at this;omega
  subst this;exact wP (h h' e4 (λ i q e=>hi i q e (mH e)) k)
 .exact(0,s.heap,yDa _,rfl,rfl,rfl,rfl,λ _ _ _ z=>absurd z (yBq _),λ _ _ e=>e,)
def aC3(h:Heap)(o:Obj)(hr:o.isFreed=false):∃ h',h.push o=h'/\h'.get? h.objs.size=qz o/\h'.objs.size=h.objs.size+1/\∀ c u,h.get? c=qz u->h'.get? c=qz u:=(_,rfl,xAd _ hr,yFe ..,λ _ _ e=>hpS _ e,)
def aTF{qs:Zq}{vs:Nat -> List qj}(h3:↑qs<=3):Meets (Builtin.«zip.__new__» (.type "zip" :: Zr qs,[],)) (λ _ R s=>(∀ i q,qs[i]?=qz q->fS q.1 s.heap q.2 (vs i).toArray)/\∀ h',ZH s.heap.objs.size qs 0 h'->Zo h' (s.heap.objs.size+↑qs) .none false->h'.objs.size=s.heap.objs.size+↑qs+3 ->
 (∀ c o,s.heap.get? c=qz o->h'.get? c=qz o)->R (.ok (.ret (.ref (s.heap.objs.size+↑qs+2)))) {s with heap:=h' }):=
 .of_wp λ prog w A R s h=>by
  let(hp,g,d,tk,os):=s;let(sq,h):=h;have hsub:=sub_zip
  wp_walk using aOL sq
  intro h' sz it k;dsimp only at sz it k sq h;let(h1,e1,g1,z1,k1):=aC3 h' {cls:=.type "tuple",data:=.seq ((yCt hp.objs.size ↑qs).map Value.ref).toArray } rfl;let(h2,e2,g2,z2,k2):=aC3 h1 {cls:=.type "tuple",data:=.seq (((yCt hp.objs.size ↑qs).map Value.ref).map λ _=>Value.none).toArray } rfl;have l3:∀ l:List qj,↑l=↑qs->↑l<=qk:=λ l e=>xAh (show ↑l<=1000000 by omega) uL
  refine wB (wpAny_newTuple ?_ (l3 _ (by simp)));dsimp only;rw[e1];refine wB (wpAny_newTuple ?_ (l3 _ (by simp)));dsimp only;rw[e2]
  wp_walk
  let(h4,e4,g4,z4,k4):=aC3 h2 {cls:=.type "zip",data:=.fields (Builtin.SmallTypes.ownedTupleFields++[Value.bool false,Value.ref h'.objs.size,Value.ref h1.objs.size]).toArray } rfl;refine(_,rfl,?_,);rw[e4];rw[z2,z1,sz] at g4 z4 ⊢;rw[z1,sz] at g2;rw[sz] at g1;have hz:Zo h4 (hp.objs.size+↑qs) .none false:=g4;exact h h4 ((λ i q e=>(it i q e).at λ o e=>k4 _ _ (k2 _ _ (k1 _ _ e)),k4 _ _ (k2 _ _ g1),),(_,by simp,k4 _ _ g2,),_,_,hz,.inl (rfl,rfl,),) hz z4 λ c o e=>k4 _ _ (k2 _ _ (k1 _ _ (k c o e)))
def zok:∀ qs:Zq,2<=↑qs->↑qs<=3->checkTypeCall "zip" ⟨Zr qs,[]⟩=pure ()/\checkBuiltinCall "zip.__new__" ⟨.type "zip" :: Zr qs,[]⟩=pure ()/\∀ obj,argsOk "object.__init__" ⟨obj::Zr qs,[]⟩
 |[_,_],_,_=>(F.typeCall_zip_2 _ _,F.newCall_zip_2 _ _,λ obj=>F.args_object_init_3 obj _ _,)
 | [_,_,_],_,_=>⟨by kernel_rfl,by kernel_rfl,λ _=>by
   unfold argsOk;rw[signature?_of (id:="object.__init__") (n:=['_','_','t','i','n','i','_','_']) (o:=['t','c','e','j','b','o']) (by kernel_rfl) F.owner_object];kernel_rfl⟩
def aRn{E:qj -> qv -> Prop}{s:qv}{qs:Zq}{vs:Nat -> List qj}{Q:qj->qv->Prop}(h2:2<=↑qs)(h3:↑qs<=3)(sq:∀ i q,qs[i]?=qz q->fS q.1 s.heap q.2 (vs i).toArray)(h:∀ h',ZH s.heap.objs.size qs 0 h'->Zo h' (s.heap.objs.size+↑qs) .none false->h'.objs.size=s.heap.objs.size+↑qs+3->(∀ c o,s.heap.get? c=qz o->h'.get? c=qz o)->Q (.ref (s.heap.objs.size+↑qs+2)) {s with heap:=h' }) :
 qu (model prog w) A (call (.type "zip") (Zr qs)) Q E s:=by let(o1,o2,o3):=zok qs h2 h3;exact callType_new F.called_zip (·) o1 o2 o3 F.entry_zip_new (@aTF _ vs h3) (sq,λ h' Z hz sz k=>((_,hz,rfl,),h h' Z hz sz k,),)
def xX(K:FrG)(ta:TA):TI:=λ σ H R=>ta σ H λ vs H1=>∃ qs:Zq,vs=qs.map (λ q=>.ref q.2)/\2<=↑qs/\↑qs<=3/\(∀ q∈qs,∃ xs,Sq q.1 K H1 q.2 xs)/\R (xD K qs) H1
def aMi{Q:qj->qv->Prop}{E:qj->qv->Prop}{qs:Zq}(I:Inv X aB σ H s)(r:aT (qs.map λ q=>.ref q.2) us)(h2:2<=↑qs)(h3:↑qs<=3)(sq:∀ q∈qs,∃ xs,Sq q.1 X.K H q.2 xs)(h:∀ h',Inv X aB σ H {s with heap:=h' }->(∀ q∈qs,q.2<s.heap.objs.size)->ZH s.heap.objs.size qs 0 h'->Zo h' (s.heap.objs.size+↑qs) .none false->h'.objs.size=s.heap.objs.size+↑qs+3->(∀ b∈yCt s.heap.objs.size (↑qs+3),gH X aB H b)->Q (.ref (s.heap.objs.size+↑qs+2)) {s with heap:=h' }) :
 qu (model X.prog X.w) A (call (.type "zip") us) Q E s:=by
 have e:∀ {qs:Zq}{us:List qj},aT (qs.map λ q=>.ref q.2) us->us=Zr qs:=λ {qs}=>by
  induction qs with
  |nil=>intro us r;cases r;rfl
  |cons q qs ih=>intro us r;cases r with|cons a b=>cases a;rw[ih b];rfl
 rw[e r];have hl:∀ q∈qs,q.2<s.heap.objs.size:=λ q m=>by
  let(xs,sx):=sq q m;let(us,_,pl):=aMd I sx;exact pl.lt
 let(vs,v1,_):=aEL (k:=0) I hl λ q m=>(sq q m).imp λ xs a=>(a,yDa _,)
 refine aRn h2 h3 (λ i q e=>(v1 i q e).1) λ h' Z hz sz k=>h h' (I.kept (t':=s.toks) k) hl Z hz sz λ b hb=>?_
 have:=(List.mem_range'_1.mp hb).1;exact I.fpOk this (I.hok.fresh this)
def aJa{ta:TA}(hg:Gl X "zip")(hm:X.mg "zip" = qx)(ha:PA X (a::es) ta)(hs:qo (a::es) X.env=(false,eval a X.env)::qo es X.env)(hs2:((backTo pos (qo es X.env)).any λ x=>x.fst)=false):PI X (.Tuple elts k pp) (.Call (.Name "zip" p) (a::es) [] pos) (xX X.K ta):=by intro aB s σ H R I h;refine Call_ (lL I hg hm boot_zip (yBc (bA (ha pos aB s σ H _ I h) λ us s1 hq=>?_) hs hs2));let(vs,H1,I1,r1,q1):=hq;let(qs,rfl,h2,h3,sq,q):=q1;exact aMi I1 r1 h2 h3 sq λ h' I2 hl Z hz _ fp=>yj hz (_,_,_,_,H1,rfl,I2,aRt _ qs (!_) h3 hl,(Z,hz,),fp,q,)
def aIF{K:FrG}:∀ {ds:List D}{ys:List V},↑ds=↑ys->(∀ (j:Nat) d y,ds[j]?=qz d->ys[j]?=qz y->Den K F d y)->DenL K F ds ys
 |[],[],_,_=>.nil|d::ds,y::ys,h,k=>.cons (k 0 d y rfl rfl) (aIF (Nat.succ.inj h) λ j=>k (j+1))
structure Zd(K:FrG)(F:Hp)(qs:Zq)(dss:List (List D))(zs:List D):Prop where
 len:↑dss=↑qs
 sq:∀ (j:Nat) q ds,qs[j]?=qz q->dss[j]?=qz ds->∃ xs,Sq q.1 K F q.2 xs/\DenL K F ds xs
 le:∀ ds∈dss,↑zs<=↑ds
 eq:∃ ds∈dss,↑zs=↑ds
 get:∀ (i:Nat) d,zs[i]?=qz d->∃ es,d=.tuple es/\dss.map (·[i]?)=es.map qz
section
variable {K:FrG}{F F1 H:Hp}{qs:Zq}{dss:List (List D)}{zs:List D}
def Zd.go(Z:Zd K F qs dss zs)(s:bV F H)(h:k<=↑zs):∀ q∈qs,∃ xs,Sq q.1 K H q.2 xs/\k<=↑xs:=λ q m=>by
 let(j,jl,e):=yHc m;have e2:=yAa (l:=dss) (Z.len▸jl);let(xs,sq,dl):=Z.sq j q _ (List.getElem?_eq_some_iff.mpr (jl,e,)) e2;exact(xs,aDf s sq,xAh h (dl.length▸Z.le _ (xAk e2)),)
def Zd.stop(Z:Zd K F qs dss zs)(s:bV F H):(xD K qs).stop ↑zs H:=by refine(Z.go s (yAb _),?_,);let(ds,m,el):=Z.eq;let(j,jl,e):=yHc m;have e2:=yAa (l:=qs) (Z.len▸jl);let(xs,sq,dl):=Z.sq j _ ds e2 (List.getElem?_eq_some_iff.mpr (jl,e,));exact(_,xAk e2,xs,aDf s sq,el.trans dl.length,)
def Zd.den(Z:Zd K F qs dss zs)(s1:bV F F1)(s2:bV F1 H){i:Nat}{d:D}{p:qw}{ys:List V}(e:zs[i]?=qz d)(hp:H p=qx)(yl:↑ys=↑qs)(hy:∀ (j:Nat) q xs,qs[j]?=qz q->Sq q.1 K H q.2 xs->xs[i]?=ys[j]?):Den K (bB F1 p (.tup ys)) d (.ref p):=by
 let(es,rfl,ee):=Z.get i d e;have el:↑es=↑dss:=by have:=congrArg yHa ee;simpa using this.symm
 refine .tup (cE.of cO) (aIF (by rw[el,yl,Z.len]) λ j d y hd hy'=>?_);have jl:j<↑dss:=el▸mH hd;have e2:=yAa (l:=qs) (Z.len▸jl);let(xs,sq,dl):=Z.sq j _ _ e2 (yAa jl);have e3:=congrArg (·[j]?) ee;simp only[yAg,yAa jl,hd,yEc,Option.some.injEq] at e3;let(x,e4,dx):=dl.get e3;rw[hy j _ xs e2 (aDf (s1.trans s2) sq),hy'] at e4;cases e4;exact dx.mono (s1.trans (fY (s2.free hp)))
def aKi(Z:Zd K F qs dss zs):Wk K F L (xD K qs) zs where
 go:=λ i H s hi=>Z.go s hi
 stop:=λ H s=>Z.stop s
 yld:=λ i H F1 L1 S x H' d g R e y=>by
  let(p,ys,hp,rfl,rfl,yl,hy):=y;exact(_,fY (R.sub.free hp),R.new hp,Z.den g.f R.sub e hp yl hy,)
def pF:W->Option (List D)
 |.d (.list ds)=>qz ds|.d (.tuple ds)=>qz ds|_=>qx
def pW(h:pF w=qz ds)(d:dH K F L w v):∃ q:Bool×qw,v=.ref q.2/\∃ xs,Sq q.1 K F q.2 xs/\DenL K F ds xs:=by
 unfold pF at h;split at h
 .cases h;cases (show Den K F (.list ds) v from d) with|lst sq dl=>exact((false,_),rfl,_,sq,dl,)
 .cases h;cases (show Den K F (.tuple ds) v from d) with|tup sq dl=>exact((true,_),rfl,_,sq,dl,)
 .cases h
end
def fL:List D->List D->List D
 |a::as,b::bs=>.tuple [a,b]::fL as bs|_,_=>[]
def aCj:∀ as bs:List D,(fL as bs).length=min ↑as ↑bs
 |[],_=>by simp[fL]|_::_,[]=>by simp[fL]|_::as,_::bs=>by simp[fL,aCj as bs]
def aH3:∀ (as bs:List D) (i:Nat) (d:D),(fL as bs)[i]?=qz d->∃ a b,as[i]?=qz a/\bs[i]?=qz b/\d=.tuple [a,b]
 |[],_,i,d,h=>by simp[fL] at h|_::_,[],i,d,h=>by simp[fL] at h|a::as,b::bs,0,d,h=>by simp[fL] at h;exact(a,b,rfl,rfl,h.symm,)|a::as,b::bs,i+1,d,h=>aH3 as bs i d h
def gD:List D->List D->List D->List D
 |a::as,b::bs,c::cs=>.tuple [a,b,c]::gD as bs cs|_,_,_=>[]
def aCc:∀ as bs cs:List D,(gD as bs cs).length=min ↑as (min ↑bs ↑cs)
 |[],_,_=>by simp[gD]|_::_,[],_=>by simp[gD]|_::_,_::_,[]=>by simp[gD]|_::as,_::bs,_::cs=>by simp[gD,aCc as bs cs]
def aGR:∀ (as bs cs:List D) (i:Nat) (d:D),(gD as bs cs)[i]?=qz d->∃ a b c,as[i]?=qz a/\bs[i]?=qz b/\cs[i]?=qz c/\d=.tuple [a,b,c]
 |[],_,_,i,d,h=>by simp[gD] at h|_::_,[],_,i,d,h=>by simp[gD] at h|_::_,_::_,[],i,d,h=>by simp[gD] at h|a::as,b::bs,c::cs,0,d,h=>by simp[gD] at h;exact(a,b,c,rfl,rfl,rfl,h.symm,)|a::as,b::bs,c::cs,i+1,d,h=>aGR as bs cs i d h
def aQd(x y z:List D)(ds:List D)(h:ds∈[x,y,z]):(gD x y z).length<=↑ds:=by
 rw[aCc];simp only[yBg,yBb,or_false] at h;rcases h with rfl|rfl|rfl
 .exact yCn _ _
 .exact xAh (yEo _ _) (yCn _ _)
 .exact xAh (yEo _ _) (yEo _ _)
def aRl(x y z:List D):∃ ds∈[x,y,z],(gD x y z).length=↑ds:=by
 rw[aCc];rcases yFq x.length (min y.length z.length) with q|q
 .exact(x,by simp,yCo q,)
 rw[yCq q];rcases yFq y.length z.length with q|q
 .exact(y,by simp,yCo q,)
 .exact(z,by simp,yCq q,)
def aKJ{F:Hp}(j:Nat)(q:Bool×qw)(ds:List D)(h:([]:Zq)[j]?=qz q)(_:([]:List (List D))[j]?=qz ds):∃ xs,Sq q.1 K F q.2 xs/\DenL K F ds xs:=by simp at h
def vD{F:Hp}{q0:Bool×qw}{ds0:List D}{qs:Zq}{dss:List (List D)}(h:∃ xs,Sq q0.1 K F q0.2 xs/\DenL K F ds0 xs)(t:∀ (j:Nat) q ds,qs[j]?=qz q->dss[j]?=qz ds->∃ xs,Sq q.1 K F q.2 xs/\DenL K F ds xs) :
 ∀ (j:Nat) q ds,(q0::qs)[j]?=qz q->(ds0::dss)[j]?=qz ds->∃ xs,Sq q.1 K F q.2 xs/\DenL K F ds xs
 |0,_,_,e1,e2=>by cases e1;cases e2;exact h|j+1,q,ds,e1,e2=>t j q ds e1 e2
def aEd(Z:Zd K F qs dss zs)(s:bV F H):∀ q∈qs,∃ xs,Sq q.1 K H q.2 xs:=λ q m=>(Z.go s (yDa _) q m).imp λ xs a=>a.1
def zd2{q1 q2:Bool×qw}(h1:∃ xs,Sq q1.1 K F q1.2 xs/\DenL K F as xs)(h2:∃ xs,Sq q2.1 K F q2.2 xs/\DenL K F bs xs):Zd K F [q1,q2] [as,bs] (fL as bs):=
 (rfl,vD h1 (vD h2 aKJ),by simp[aCj];omega,by simp[aCj];omega,λ i d e=>by let(a,b,e1,e2,rfl):=aH3 as bs i d e;exact(_,rfl,by simp[e1,e2],),)
section
variable {K:FrG}{fa fb fc:FE}(σ:L2.St)(H:Hp)(Rr:It->Hp->Prop)
def qV(fa fb:FE):FL:=λ env S=>(fa env S).bind λ p=>(fb env p.2).bind λ q=>(pF p.1).bind λ ds=>(pF q.1).bind λ es=>qz (fL ds es,q.2)
theorem aX5(h:jG K (qV fa fb) σ H Rr):xX K (dQ K (cL fa (cL fb gG))) σ H Rr:=by
 let(F,L,S,env,ds,S',R,E,e,q):=h;let((w1,S1),e1,e):=aJ e;let((w2,S2),e2,e):=aJ e;let(ds1,e3,e):=aJ e;let(ds2,e4,e):=aJ e;dsimp only at e e2 e3 e4;cases e;refine(F,L,S,env,[w1,w2],S',R,E,by unfold cL;simp only[e1,e2,gG,yCf],λ F1 L1 H1 vs g1 R1 d1=>?_,);obtain - | ⟨da,- | ⟨db,- | -⟩⟩:=d1
 let(q1,rfl,h1):=pW e3 da;let(q2,rfl,h2):=pW e4 db;have Z:=zd2 h1 h2;exact([q1,q2],rfl,by simp,by simp,aEd Z R1.sub,q F1 L1 H1 _ g1 R1 (aKi Z),)
def aBi(fa fb fc:FE):FL:=λ env S=>(fa env S).bind λ p=>(fb env p.2).bind λ q=>(fc env q.2).bind λ r=>(pF p.1).bind λ ds=>(pF q.1).bind λ es=>(pF r.1).bind λ gs=>qz (gD ds es gs,r.2)
theorem aUW(h:jG K (aBi fa fb fc) σ H Rr):xX K (dQ K (cL fa (cL fb (cL fc gG)))) σ H Rr:=by
 let(F,L,S,env,ds,S',R,E,e,q):=h;let((w1,S1),e1,e):=aJ e;let((w2,S2),e2,e):=aJ e;let((w3,S3),e0,e):=aJ e;let(ds1,e3,e):=aJ e;let(ds2,e4,e):=aJ e;let(ds3,e5,e):=aJ e;dsimp only at e e2 e3 e4 e0 e5;cases e;refine(F,L,S,env,[w1,w2,w3],S',R,E,by unfold cL;simp only[e1,e2,e0,gG,yCf],λ F1 L1 H1 vs g1 R1 d1=>?_,);obtain - | ⟨da,- | ⟨db,- | ⟨dc,- | -⟩⟩⟩:=d1
 let(q1,rfl,h1):=pW e3 da;let(q2,rfl,h2):=pW e4 db;let(q3,rfl,h3):=pW e5 dc;have Z:Zd K F1 [q1,q2,q3] [ds1,ds2,ds3] (gD ds1 ds2 ds3):=(rfl,vD h1 (vD h2 (vD h3 aKJ)),aQd _ _ _,aRl _ _ _,λ i d e=>by let(a,b,c,e1,e2,e3,rfl):=aGR _ _ _ i d e;exact(_,rfl,by simp[e1,e2,e3],),);exact([q1,q2,q3],rfl,by simp,by simp,aEd Z R1.sub,q F1 L1 H1 _ g1 R1 (aKi Z),)
end
section
variable {X:Cx}{elts:List qy}{k:Nat}{pp:Pos}{a b c:qy}{ta:TA}{p pos:Pos}(hg:Gl X "zip")(hm:X.mg "zip"=qx)
include hg hm
theorem aWR(ha:PA X [a,b] ta)(hs:qo [a,b] X.env=(false,eval a X.env)::qo [b] X.env)(hs2:qo [b] X.env=[(false,eval b X.env)]):PI X (.Tuple elts k pp) (.Call (.Name "zip" p) [a,b] [] pos) (xX X.K ta):=aJa hg hm ha hs (by rw[hs2];rfl)
theorem aTZ(ha:PA X [a,b,c] ta)(hs:qo [a,b,c] X.env=(false,eval a X.env)::qo [b,c] X.env)(hs2:qo [b,c] X.env=(false,eval b X.env)::qo [c] X.env)(hs3:qo [c] X.env=[(false,eval c X.env)]):PI X (.Tuple elts k pp) (.Call (.Name "zip" p) [a,b,c] [] pos) (xX X.K ta):=aJa hg hm ha hs (by rw[hs2,hs3];rfl)
end
def Rel.relay(r:Rel K F L S H)(hF:F p=qx)(hL:p ∉ ad L):Rel K F L S (bB H p o):=by
 have ne:∀ {n:Nat}{a:qw}{b:Bool},L[n]?=qz (a,b)->a≠p:=λ e z=>hL (by rw[<- z];exact aDJ e)
 refine(λ b u q=>by rw[bR (dZ q hF)];exact r.sub _ _ q,r.nd,r.len,λ n a ds e1 e2=>?_,λ n a ds e1 e2=>?_,λ n a b e=>?_,)
 .let(f,xs,e3,dl):=r.loc n a ds e1 e2;exact(f,xs,by rw[bR (ne e1)];exact e3,dl,)
 .let(f,xs,e3,dl):=r.dic n a ds e1 e2;exact(f,xs,e3,by rw[bR (ne e1)];exact dl,)
 .let(o,hx,hy):=r.tr n a b e;exact(o,by rw[bR (ne e)];exact hx,hy,)
def aGM(k:Den K F d v):∀ {ds:List D}{xs:List V},DenL K F ds xs->DenL K F (ds++[d]) (xs++[v])
 |_,_,.nil=>.cons k .nil|_,_,.cons a b=>.cons a (aGM k b)
structure ZW(X:Cx)(aB:List (qw×Obj))(σ:L2.St)(F1:Hp)(L1:Lx)(S1:aC)(SA:qw)(n:Nat)(qs:Zq)(ds:List D)(H F:Hp)(vs:List V)(s:qv):Prop where
 inv:Inv X aB σ H s
 same:bV F1 F
 rel:Rel X.K F L1 S1 H
 free:F SA=qx
 lst:H SA=qz (.lst vs)
 den:DenL X.K F ds vs
 fp:∀ c∈yCt n (↑qs+3),gH X aB H c
def aQE{X:Cx}{F1:Hp}{SA:qw}{qs:Zq}{A:zv}{R:Result->qv->Prop}(hh:A.in1.in1.handled=qx)(h0:0<↑qs)(h3:↑qs<=3)(hq:∀ q∈qs,q.2<n)(Z:Zd X.K F1 qs dss zs)(hL:SA ∉ ad L1)(cJ:↑zs<=1000000)(hR:∀ s' H' F' vs',ZW X aB σ F1 L1 S1 SA n qs zs H' F' vs' s'->R (.ok (.ret res)) s') :
 ∀ (k i:Nat) (s:qv) (H F:Hp) (vs:List V),↑zs-i=k->i<=↑zs->ZW X aB σ F1 L1 S1 SA n qs (zs.take i) H F vs s->ZH n qs i s.heap ->
 jj (model X.prog X.w) A (.builtin "list.extend.loop" ([.ref SA,.ref (n+↑qs+2),res],[],)) R s:=by
 intro k
 induction k with
 |zero=>
   intro i s H F vs hk hi hw hz;have hin:i=↑zs:=by omega
   refine codeAny_builtin yHw ?_;rw[Around.under_plainId yDx _];show qu _ A.in1 (ww (.ref (n+↑qs+2)) >>= _) _ _ s;subst hin;rw[yAj] at hw;exact wB (aLh hh h0 h3 hq hw.inv hz hw.fp (Z.stop (hw.same.trans hw.rel.sub)) λ h' tk I'=>wP (hR _ H F vs (I',hw.same,hw.rel,hw.free,hw.lst,hw.den,hw.fp,)))
 |succ k ih=>
   intro i s H F vs hk hi hw hz;have hlt:i<↑zs:=by omega
   refine codeAny_builtin yHw ?_;rw[Around.under_plainId yDx _];show qu _ A.in1 (ww (.ref (n+↑qs+2)) >>= _) _ _ s;refine wB (aL9 hh h0 h3 hq hw.inv hz (Z.go (hw.same.trans hw.rel.sub) hlt) λ h' tk us ys rv yl hy Z' hT fr _=>?_);have hp:H s.heap.objs.size=qx:=hw.inv.fresh;have hF:F s.heap.objs.size=qx:=hw.rel.sub.free hp;have neS:SA≠s.heap.objs.size:=λ q=>by rw[<- q,hw.lst] at hp;cases hp
   let(os,ol,hO):=Z'.to;let(f,g,hzo,_):=Z'.z;have I2:Inv X aB σ (bB H s.heap.objs.size (.tup ys)) {s with heap:=h',toks:=tk }:=aGx (s:=s) hw.inv hw.fp (λ c o hb e'=>fr c o (by rw[yIb] at hb;omega) e') (yAb _) (xAh (show ↑ys<=1000000 by omega) uL,us,rv,(_,hT,rfl,0,rfl,),);have hS:bB H s.heap.objs.size (.tup ys) SA=qz (.lst vs):=by rw[bR neS];exact hw.lst
   let(hv,aG,m,rl,hl,e):=I2.lstM hS;have vl:↑vs=i:=by
    have:=hw.den.length;rw[yBo] at this;omega
   have hs:1000000<=qk:=uL;show qu _ A.in1 (updateSeq SA (·.push (.ref s.heap.objs.size)) >>= _) _ _ _;have ne:∀ c∈yCt n (↑qs+3),c≠SA:=λ c hc q=>by
    have:=(hw.fp c hc).1;rw[q,hw.lst] at this;cases this
   have kp:∀ c o,c≠SA->h'.get? c=qz o->(h'.update SA (Obj.mapSeq (·.push (.ref s.heap.objs.size)))).get? c=qz o:=λ c o hc q=>(yCr _ _ (Ne.symm hc)).trans q
   have kr:∀ c o,n<=c->c<=n+↑qs+2->h'.get? c=qz o->(h'.update SA (Obj.mapSeq (·.push (.ref s.heap.objs.size)))).get? c=qz o:=λ c o a b=>kp c o (ne c (List.mem_range'_1.mpr (!_)))
   refine wB (jw e rfl (wP (plainId_quiet yDx _,ih (i+1) _ (bB (bB H s.heap.objs.size (.tup ys)) SA (.lst (vs++[.ref s.heap.objs.size]))) (bB F s.heap.objs.size (.tup ys)) _ (!_) hlt (?_,hw.same.trans (fY hF),Rel.relay (hw.rel.new hp) (by rw[bR neS];exact hw.free) hL,by rw[bR neS];exact hw.free,cO,?_,λ c hc=>(?_,(hw.fp c hc).2,),) (Z'.t.keep λ c o a b=>kr c o a (!_),(os,ol,kr _ _ (!_) (!_) hO,),?_,),)) (by simp;omega) (by simp;omega))
   .exact I2.lset (its':=aG++[.ref s.heap.objs.size]) hS e (by simp) (aT.append rl (.cons (show aU (.ref s.heap.objs.size) (Value.ref s.heap.objs.size) from rfl) .nil)) (by rw[xAn];show ↑vs+1<=_;omega)
   .rw[yGd hlt];exact aGM (Z.den hw.same hw.rel.sub (yAa hlt) hp yl hy) (hw.den.mono (fY hF))
   .have c1:c<s.heap.objs.size:=by
     let(os,_,hO):=hz.to;let(_,_,hzo,_):=hz.z;have:=List.mem_range'_1.mp hc;let(o,e,_):=aEP hz.t hO hzo c this.1 (!_);exact xAa e
    rw[bR (ne c hc),bR (xAj c1)];exact(hw.fp c hc).1
   .let(f,g,hzo,hf):=Z'.z;refine(f,g,kr _ _ (!_) (!_) hzo,hf.imp_right λ hfa=>?_,);let(a,ea,o,eo):=hfa;refine(a,ea,?_,);by_cases c1:a=SA
    .subst c1;exact(_,PySem.IsL.update e _,)
    .exact(o,kp a o c1 eo,)
def aOC:typeLookup (.type "zip") "__len__" = pure qx:=by rw[typeLookup_type,builtinLookup_eq_fast];kernel_rfl
def aOd:typeLookup (.type "zip") "__length_hint__" = pure qx:=by rw[typeLookup_type,builtinLookup_eq_fast];kernel_rfl
def aO1{s:qv}{R:Result -> qv -> Prop}{TI TO:qw}{f0:qj}(S:qw)(res:qj)(c₀:Nat)(hz:IsZip s.heap z TI TO f0)(hSz:S≠z)(hS:s.heap.get? S=qz {cls:=.type "list",data:=.seq #[] c₀ })(hR:∀ h' c,(∀ b o,b≠S->s.heap.get? b=qz o->h'.get? b=qz o)->h'.get? S=qz {cls:=.type "list",data:=.seq #[] c }->jj (model prog w) A (.builtin "list.extend.loop" ([.ref S,.ref z,res],[],)) R {s with heap:=h' }) :
 qu (model prog w) A.in1 (yBy (.ref S) (.ref z) res)
  (λ cG s'=>match cG with|.done f=>R (.ok f) s'|.again c'=>c'.quiet=true/\jj (model prog w) A c' R s') (λ e s'=>R (.error e) s') s:=by
 have hT:s.TypeIs (.ref z) "zip":=(_,hz,rfl,);unfold yBy;refine wB (wpAny_typeOf hT ?_);have h1:yIc (.ref S) (.ref z)=false:=by simp[yIc,hSz]
 have h2:(Value.type "zip" == Value.type "list")=false:=by decide
 have h3:(Value.type "zip" == Value.type "tuple")=false:=by decide
 simp only[h1,h2,h3,yFu,yAm,if_false];refine wB (yj hz ?_);refine wB (zw ?_);unfold Builtin.List.listLengthHint;refine wB (vj hT aOC ?_);show qu _ A.in1 (specialOf (Value.ref z) (Str.ofString "__length_hint__") >>= _) _ _ _;refine wB (vj hT aOd ?_);refine wP ?_;show qu _ A.in1 (rule "list.extend.makes-room" >>= λ _=>Builtin.List.listTouch (.ref S) >>= λ _=>
  again (.builtin "list.extend.loop" ([.ref S,.ref z,res],[],))) _ _ _
 refine wB (wu ?_);refine wB ?_;show qu _ A.in1 (updateSeq S (·.push .none) >>= λ _=>updateSeq S (·.pop)) _ _ _;refine wB (jw hS rfl ?_);have hS₂:=yBx (Obj.mapSeq (·.push Value.none)) hS rfl;refine jw (hz:=by seq_fits) hS₂ rfl ?_;have hS₃:=yBx (Obj.mapSeq (·.pop)) hS₂ rfl;have oth:∀ b o,b≠S->s.heap.get? b=qz o->((s.heap.update S (Obj.mapSeq (·.push Value.none))).update S (Obj.mapSeq (·.pop))).get? b=qz o:=
  λ b o hb e=>(yCr _ _ (Ne.symm hb)).trans ((yCr _ _ (Ne.symm hb)).trans e)
 exact wP (plainId_quiet yDx _,hR _ _ oth hS₃,)
def aQ5{s:qv}{R:Result -> qv -> Prop}{TI TO:qw}{f0:qj}(S:qw)(hz:IsZip s.heap z TI TO f0)(hSz:S≠z)(hS:s.heap.get? S=qz {cls:=.type "list",data:=.seq #[] })(hR:∀ h' c,(∀ b o,b≠S->s.heap.get? b=qz o->h'.get? b=qz o)->h'.get? S=qz {cls:=.type "list",data:=.seq #[] c }->jj (model prog w) A (.builtin "list.extend.loop" ([.ref S,.ref z,.none],[],)) R {s with heap:=h' }) :
 qu (model prog w) A.in1 (Builtin.«list.__init__» ([.ref S,.ref z],[],))
  (λ cG s'=>match cG with|.done f=>R (.ok f) s'|.again c'=>c'.quiet=true/\jj (model prog w) A c' R s') (λ e s'=>R (.error e) s') s:=by
 show qu _ A.in1 (yGh (.ref S) >>= λ old=>Builtin.List.listUpdate (.ref S) (λ _=>#[]) >>= λ _=>letGo old.toList.reverse >>= λ _=>yBy (.ref S) (.ref z) .none) _ _ s;refine wB ?_;unfold yGh;refine wB (xy hS rfl (wP ?_));show qu _ A.in1 (updateSeq S (λ _=>#[]) >>= λ _=>letGo (#[]:Array qj).toList.reverse >>= λ _=>yBy (.ref S) (.ref z) .none) _ _ s;have hS2:=yBx (Obj.mapSeq (λ _=>(#[]:Array qj))) hS rfl;have oth:∀ b o,b≠S->s.heap.get? b=qz o->(s.heap.update S (Obj.mapSeq (λ _=>(#[]:Array qj)))).get? b=qz o:=λ b o hb e=>(yCr _ _ (Ne.symm hb)).trans e
 refine wB (jw hS rfl (wB (wpAny_letGo ?_)));exact aO1 S .none _ (oth _ _ (Ne.symm hSz) hz) hSz hS2 λ h' c hk hS'=>hR h' c (λ b o hb e=>hk b o hb (oth b o hb e)) hS'
def aNX{A:zv}{E:qj -> qv -> Prop}{s:qv}{TI TO:qw}{f0:qj}{Q:qj->qv->Prop}(hz:IsZip s.heap z TI TO f0)(hQ:∀ h' c (R:Result->qv->Prop),(∀ b o,s.heap.get? b=qz o->h'.get? b=qz o)->h'.get? s.heap.objs.size=qz {cls:=.type "list",data:=.seq #[] c }->(∀ s',Q (.ref s.heap.objs.size) s'->R (.ok (.ret .none)) s')->jj (model prog w) A.in1 (.builtin "list.extend.loop" ⟨[.ref s.heap.objs.size,.ref z,.none],[]⟩) R {s with heap:=h' }) :
 qu (model prog w) A (call (.type "list") [.ref z]) Q E s:=by
 have hSz:s.heap.objs.size≠z:=yFm (xAa hz);have hS:(s.heap.push {cls:=.type "list",data:=.seq #[] }).get? s.heap.objs.size=qz {cls:=.type "list",data:=.seq #[] }:=xAd _ rfl;refine callType_codes (Q₁:=λ ob s1=>ob=.ref s.heap.objs.size/\s1={s with heap:=s.heap.push {cls:=.type "list",data:=.seq #[] } }) PySem.F.called_list (PySem.F.typeCall_list_1 _) PySem.F.entry_list_init (code_list_new _ (rfl,rfl,)) λ ob s1 h1=>?_
 let(rfl,rfl):=h1;refine((_,hS,rfl,),PySem.F.args_list_init_2 _ _,aQ5 _ (hpS _ hz) hSz hS λ h' c hk hS'=>?_,);exact hQ h' c _ (λ b o e=>hk b o (xAj (xAa e)) (hpS _ e)) hS' λ s' q=>(rfl,q,)
def sU(fa fb:FE):FL:=aMJ (qV fa fb)
def aU0{fa fb:FE}(ha:PE X a (aP X.K fa))(hb:PE X b (aP X.K fb))(hc:X.calm=true)(hg:Gl X "list")(hm:X.mg "list" = qx)(hg2:Gl X "zip")(hm2:X.mg "zip" = qx)(hs:qo [a,b] X.env=(false,eval a X.env)::qo [b] X.env)(hs2:qo [b] X.env=[(false,eval b X.env)]):PE X (.Call (.Name "list" p) [.Call (.Name "zip" p2) [a,b] [] pos2] [] pos) (iO X.K (sU fa fb)):=by
 rintro aB s σ H Q I ⟨F,L,S,env,ds,S',R,E,e,q⟩;let((ds',S1'),e0,e):=aJ e;let((w1,S1),e1,e2):=aJ e0;let((w2,S2),e3,e4):=aJ e2;let(ds1,e5,e6):=aJ e4;let(ds2,e7,e8):=aJ e6;dsimp only at e e3 e5 e7;cases e8;split at e
 .rename_i cJ;cases e;refine zo (lL I hg hm (show jx "list" = qz (.type "list") by decide +kernel) ?_);refine yBc ?_ rfl rfl;show qu _ _ (spliced ((false,eval (.Call (.Name "zip" p2) [a,b] [] pos2) X.env)::[])) _ _ s;refine Calls.spliced_cons ?_;refine zo (lL I hg2 hm2 boot_zip ?_);refine yBc ?_ hs (by rw[hs2];rfl)
  refine bA (kF ha (kF hb aBb hs2) hs pos2 aB s σ H (λ vs H1=>∃ v v2 F1 L1,vs=[v,v2]/\Gr F L F1 L1/\Rel X.K F1 L1 S2 H1/\dH X.K F1 L1 w1 v/\dH X.K F1 L1 w2 v2) I ⟨F,L,S,env,[w1,w2],_,R,E,by unfold cL;rw[e1];dsimp only[yDj];rw[e3];rfl,λ F1 L1 H1 vs g1 R1 d1=>by
   obtain - | ⟨da,- | ⟨db,- | -⟩⟩:=d1
   exact(_,_,F1,L1,rfl,g1,R1,da,db,)⟩) λ us s1 hq=>?_
  let(vs,H1,I1,r1,v,v2,F1,L1,ev,g1,R1,d1,d2):=hq;subst ev;let(q1,rfl,h1):=pW e5 d1;let(q2,rfl,h2):=pW e7 d2;have Z:=zd2 h1 h2;refine aMi (qs:=[q1,q2]) I1 r1 (by simp) (by simp) (aEd Z R1.sub) λ h' I2 hl ZH0 hz sz fp=>?_
  refine Calls.spliced_nil (aNX hz λ h2 c R2 hk2 hS hR2=>?_);dsimp only at hk2 hS hR2 ⊢;have fr:H1 h'.objs.size=qx:=I2.hok.fresh (yAb _);have I3:Inv X aB σ (bB H1 h'.objs.size (.lst [])) {s1 with heap:=h2 }:=I2.laid (t':=s1.toks) hk2 (yAb _) (yDa _,[],c,.nil,hS,);have nS:h'.objs.size ∉ ad L1:=R1.notin fr;let(os,ol,hO):=ZH0.to;refine @aQE _ _ _ L1 aB σ S2 _ X F1 _ _ X.A.in1 _ (show X.A.in1.in1.in1.handled=qx from I.ok.hd hc) (by simp) (by simp) hl Z nS cJ (λ s' H' F' vs' hw=>hR2 s' ?_) _ 0 _ (bB H1 h'.objs.size (.lst [])) F1 [] rfl (yDa _)
   (I3,bV.refl _,R1.lay fr,R1.sub.free fr,cO,.nil,λ b hb=>(by rw[bR (na (by have:=List.mem_range'_1.mp hb;rw[sz];exact xAj this.2))];exact(fp b hb).1,(fp b hb).2,),) (ZH0.t.keep λ c o _ _ e=>hk2 _ _ e,(os,ol,hk2 _ _ hO,),_,_,hk2 _ _ hz,.inl (rfl,rfl,),)
  exact(.ref h'.objs.size,H',hw.inv,rfl,q F' L1 H' _ vs' (g1.trans (hw.same,[],by simp,)) hw.rel hw.free nS hw.lst hw.den,)
 .cases e
def aMK(K:FrG):V->List V->Hp->VK->Prop:=λ x vs H Q=>(∃ (a:qw) (ns:List Int) (k:Int),x=.ref a/\vs=[.int k]/\bT K H a (ns.map V.int)/\k∈ns/\Q (.int (ns.idxOf k:Nat)) H)\/(∃ (a:qw) (bs:List Bool) (k:Bool),x=.ref a/\vs=[.bl k]/\bT K H a (bs.map V.bl)/\k∈bs/\Q (.int (bs.idxOf k:Nat)) H)
def aEW(k:Bool):qj->Bool
 |.bool b=>b==k|_=>false
def aXR{bs:List Bool}:∀ {us:List qj},aT (bs.map V.bl) us->us=bs.map Value.bool:=by
 induction bs with
 |nil=>intro us r;rw[yDp] at r;cases r;rfl
 |cons b bs ih=>
   intro us r;rw[yAf] at r;cases r with
   |cons r1 r2=>
     cases r1;rw[ih r2];rfl
def aZu(aB:List (qw×Obj))(s:qv)(σ:L2.St)(H:Hp)(v:qj)(us:List qj)(Q:VK)(I:Inv X aB σ H s)(a:qw)(bs:List Bool)(k:Bool)(rx:aU (.ref a) v)(rv:aT [.bl k] us)(sq:bT X.K H a (bs.map V.bl))(hk:k∈bs)(q:Q (.int (bs.idxOf k:Nat)) H):qu (model X.prog X.w) X.A (call (.builtin "list.index") (v::us)) (EP X aB σ Q) X.xe s:=by
 cases rx;let(u,rfl,ru):=rv.one;cases ru;let(aG,r,pl,hz):=I.list sq;obtain rfl:=aXR r;let((cls,dd,data,sl),ho,hc,n,hd):=pl.isList;simp only at hc hd;subst hc hd;have hn:=mZ;have hj:bs.idxOf k<↑bs:=List.idxOf_lt_length_iff.mpr hk;rw[yAd] at hz;refine xo yFx (_,ho,rfl,) PySem.F.entry_list_index (yHx _ _)
  (SeqAt.list_indexAt a (bs.map Value.bool).toArray n dd sl (.bool k) (aEW k) (bs.idxOf k) (hj:) (!_) ?_ ?_) (ho,λ y hy=>?_,(.int (bs.idxOf k:Nat),H,I.tok _,(_,rfl,),q,),)
 .simp[aEW]
 .intro j hjs hlt;have:=List.not_of_lt_findIdx (p:=(· == k)) (xs:=bs) hlt;simp only[List.getElem_toArray,List.getElem_map,aEW];simpa using this
 .have hy':y∈bs.map Value.bool:=(hy:)
  let(b,_,rfl):=List.mem_map.mp hy';exact SeqAt.EqAt.bool_bool b k
def aQq:MtM X "list.index" (aMK X.K):=by
 intro aB s σ H x vs v us Q I rx rv h;rcases h with h|⟨a,bs,k,rfl,rfl,sq,hk,q⟩
 case inr=>exact aZu aB s σ H v us Q I a bs k rx rv sq hk q
 let(a,ns,k,rfl,rfl,sq,hk,q):=h;cases rx;let(u,rfl,ru):=rv.one;let(t,rfl):=ru;let(aG,r,pl,hz):=I.list sq;have hi:=aOY r;let((cls,dd,data,sl),ho,hc,n,hd):=pl.isList;simp only at hc hd;subst hc hd;have cJ:=hi.length;have hn:=mZ;have hj:ns.idxOf k<↑ns:=List.idxOf_lt_length_iff.mpr hk;rw[yAd] at hz;refine xo yFx (_,ho,rfl,) PySem.F.entry_list_index (yHx _ _)
  (SeqAt.list_indexAt a aG.toArray n dd sl (.int k t) (isInt k) (ns.idxOf k) (by simpa [cJ] using hj) (!_) ?_ ?_) (ho,λ y hy=>(eq_isInt k t hi y (hy:)).at _ _,(.int (ns.idxOf k:Nat),H,I.tok _,(_,rfl,),q,),)
 .show isInt k aG[ns.idxOf k]=true;rw[isInt_at k hi _ (!_) hj];simpa using List.getElem_idxOf hj
 .intro j hjs hlt;show isInt k aG[j]=false;rw[isInt_at k hi j (hjs:) (!_)];exact ne_of_lt_idxOf hlt _
def xE(S:aC):W->W->Option (W×aC)
 |.d (.list xs),.d (.int k)=>(iG xs).bind λ ns=>if k∈ns then qz (.d (.int ((ns.idxOf k:Nat):Int)),S) else qx
 |.d (.list xs),.d (.bool k)=>(aAw xs).bind λ ns=>if k∈ns then qz (.d (.int ((ns.idxOf k:Nat):Int)),S) else qx
 |_,_=>qx
def aPH(h:xE S o x=qz (w,S')):(∃ xs k ns,o=.d (.list xs)/\x=.d (.int k)/\iG xs=qz ns/\k∈ns/\w=.d (.int ((ns.idxOf k:Nat):Int))/\S'=S)\/(∃ xs k ns,o=.d (.list xs)/\x=.d (.bool k)/\aAw xs=qz ns/\k∈ns/\w=.d (.int ((ns.idxOf k:Nat):Int))/\S'=S):=by
 unfold xE at h;split at h
 case h_2=>
  rename_i xs k;let(ns,e1,e):=aJ h;by_cases c:k∈ns
  .rw[if_pos c] at e;cases e;exact .inr (xs,k,ns,rfl,rfl,e1,c,rfl,rfl,)
  .rw[if_neg c] at e;cases e
 .rename_i xs k;let(ns,e1,e):=aJ h;by_cases c:k∈ns
  .rw[if_pos c] at e;cases e;exact .inl (xs,k,ns,rfl,rfl,e1,c,rfl,rfl,)
  .rw[if_neg c] at e;cases e
 .cases h
def aBC(fo fe:FE):FE:=f2 fo fe xE
def aXQ{fo fe:FE}(σ:L2.St)(H:Hp)(Q:VK)(h:aP K (aBC fo fe) σ H Q):yV K "list" (aMK K) (aP K fo) (dQ K (cL fe gG)) σ H Q:=by
 let(F,L,S,env,w,S',R,E,e,q):=h;let((wo,S1),e1,e):=aJ e;let((we,S2),e2,e):=aJ e;rcases aPH e with ⟨xs,k,ns,rfl,rfl,e5,hk,rfl,rfl⟩|⟨xs,k,ns,rfl,rfl,e5,hk,rfl,rfl⟩
 case inr=>
  refine(F,L,S,env,_,S1,R,E,e1,λ F1 L1 H1 o g1 R1 d1=>?_,);cases (show Den K F1 (.list xs) o from d1) with
  |lst sq dl=>
    obtain rfl:=aGl dl e5;refine(.inl (rfl,_,R1.sub.seq sq,),F1,L1,S1,env,[.d (.bool k)],S',R1,E.mono g1,?_,λ F2 L2 H2 vs g2 R2 d2=>?_,)
    .unfold cL;rw[e2];rfl
    .cases d2 with
     |cons dd dr=>
       cases dr;cases (show Den K F2 (.bool k) _ from dd);exact .inr (_,ns,k,rfl,rfl,R2.sub.seq (g2.f.seq sq),hk,q F2 L2 H2 _ (g1.trans g2) R2 (.int _),)
 refine(F,L,S,env,_,S1,R,E,e1,λ F1 L1 H1 o g1 R1 d1=>?_,);cases (show Den K F1 (.list xs) o from d1) with
 |lst sq dl=>
   obtain rfl:=uK dl e5;refine(.inl (rfl,_,R1.sub.seq sq,),F1,L1,S1,env,[.d (.int k)],S',R1,E.mono g1,?_,λ F2 L2 H2 vs g2 R2 d2=>?_,)
   .unfold cL;rw[e2];rfl
   .cases d2 with
    |cons dd dr=>
      cases dr;cases (show Den K F2 (.int k) _ from dd);exact .inl (_,ns,k,rfl,rfl,R2.sub.seq (g2.f.seq sq),hk,q F2 L2 H2 _ (g1.trans g2) R2 (.int _),)
def aEe:Bool->jz
 |true=>.NotIn|false=>.In
def vV:List D->Option (List Str)
 |[]=>qz []|.str i::r=>(vV r).bind λ l=>qz (i::l)|_::_=>qx
open PySem.Builtin PySem.Builtin.Str
def PEp(X:Cx)(e:qy)(t:TE):Prop:=∀ (aB:List (qw×Obj)) (s:qv) (σ:L2.St) (H:Hp) (Q:VK),Inv X aB σ H s->0<s.toks->t σ H Q->qu (model X.prog X.w) X.A (eval e X.env) (EP X aB σ Q) X.xe s
def PAp(X:Cx)(es:List qy)(t:TA):Prop:=∀ (pos:Pos) (aB:List (qw×Obj)) (s:qv) (σ:L2.St) (H:Hp) (Q:List V->Hp->Prop),Inv X aB σ H s->0<s.toks->t σ H Q->qu (model X.prog X.w) X.A (spliced (backTo pos (qo es X.env))) (λ us s2=>∃ vs H2,Inv X aB σ H2 s2/\aT vs us/\Q vs H2) X.xe s
def PEp.of{t:TE}(h:PE X e t):PEp X e t:=λ aB s σ H Q I _ q=>h aB s σ H Q I q
def PAp.of{t:TA}(h:PA X es t):PAp X es t:=λ pos aB s σ H Q I _ q=>h pos aB s σ H Q I q
def W0.w:W0->W
 |.d x=>.d x|.loc n=>.loc n|.dic n=>.dic n
def w0:W->Option W0
 |.d x=>qz (.d x)|.loc n=>qz (.loc n)|.dic n=>qz (.dic n)|.tpl ws=>(fA ws).map λ l=>.d (.tuple l)|_=>qx
def w0s:List W->Option (List W0)
 |[]=>qz []|w::r=>(w0 w).bind λ x=>(w0s r).map (x :: ·)
def aBA(fa:FE)(f:Str):FE:=λ env S=>(fa env S).bind λ p=>match p.1 with|.ob fs=>(fs.lookup f).map λ w=>(w.w,p.2)|_=>qx
def aBG(m:Str)(fo:FE)(fs:FA)(np:Nat)(call:List W->aC->Option (W×aC)):FE:=λ env S=>(fo env S).bind λ p=>match p.1 with
 |.ob fl=>if (fl.lookup m).isNone=true then (fs env p.2).bind λ q=>if q.1.length+1=np then call (.ob fl::q.1) q.2 else qx else qx
 |_=>qx
inductive Ini where
 |arg (i:Nat)|lst|dct
 deriving DecidableEq
def kN(ds:List D):List (Str×Ini)->aC->Option (List (Str×W0)×aC)
 |[],S=>qz ([],S)|(f,.arg i)::r,S=>(ds[i]?).bind λ d=>(kN ds r S).map λ p=>((f,.d d)::p.1,p.2)|(f,.lst)::r,S=>(kN ds r (S++[qz []])).map λ p=>((f,.loc ↑S)::p.1,p.2)|(f,.dct)::r,S=>(kN ds r (S++[qz []])).map λ p=>((f,.dic ↑S)::p.1,p.2)
def aA9(ini:List (Str×Ini))(np:Nat)(fs:FA):FE:=λ env S=>(fs env S).bind λ p=>if p.1.length+1=np then (jE p.1).bind λ ds=>(kN ds ini p.2).map λ q=>(.ob q.1,q.2) else qx
def aBD(fs:FA):FE:=λ env S=>(fs env S).bind λ p=>(w0s p.1).bind λ ws=>if ↑ws<=qk then qz (.tpl ws,p.2) else qx
def gS:List W0->Option (List aZ)
 |[]=>qz []|.d (.int i)::r=>(gS r).map (.inl i :: ·)|.d (.str x)::r=>(gS r).map (.inr x :: ·)|_=>qx
def gU:List D->Option (List aZ)
 |[]=>qz []|.int i::r=>(gU r).map (.inl i :: ·)|.str x::r=>(gU r).map (.inr x :: ·)|_=>qx
def tY:D->Option (List aZ×Int)
 |.tuple [.tuple ks,.int i]=>(gU ks).map λ l=>(l,i)|_=>qx
def aDG:∀ l:List aZ,gU (l.map kD)=qz l
 |[]=>rfl|.inl i::r=>by rw[yAf,kD,gU,aDG r];rfl|.inr i::r=>by rw[yAf,kD,gU,aDG r];rfl
def aRI(p:List aZ×Int):tY (lZ p)=qz p:=by rw[lZ,tY,aDG];rfl
def aEA:∀ es:List (List aZ×Int),(es.map lZ).filterMap tY=es
 |[]=>rfl|p::r=>by rw[yAf,yCh,aRI,aEA r]
def kZ(S:aC)(n:Nat):Option (List (List aZ×Int)):=match S[n]? with|some (qz ds)=>qz (ds.filterMap tY)|_=>qx
def cY(es:List (List aZ×Int))(k:List aZ):Option Int:=(es.find? λ p=>decide (p.1=k)).map (·.2)
def qW(es:List (List aZ×Int))(k:List aZ)(i:Int):List (List aZ×Int):=if (cY es k).isSome=true then es.map λ p=>if p.1=k then (p.1,i) else p else es++[(k,i)]
noncomputable abbrev dV(es:List (List aZ×Int)):List (List aZ×V):=es.map λ p=>(p.1,V.int p.2)
def aAL(k:List aZ):∀ es:List (List aZ×Int),jC (dV es) k=(cY es k).map V.int
 |[]=>rfl
 |p::r=>by
   unfold jC cY;rw[dV,yAf,yCw,yCw];by_cases h:p.1=k
   .simp only[h,decide_true];rfl
   .simp only[h,decide_false];exact aAL k r
def aUC(es:List (List aZ×Int))(k:List aZ)(i:Int):jD (dV es) k (.int i)=dV (qW es k i):=by
 unfold jD qW;have h:((dV es).any λ kv=>decide (kv.1=k))=(cY es k).isSome:=by
  rw[aCR,aAL];cases cY es k<;>rfl
 rw[h];split
 .rw[dV,dV,yBv,yBv];refine yDl λ p _=>?_
  dsimp only[Function.comp];split<;>rfl
 .rw[dV,dV,yAx];rfl
def tO(n:Bool)(fk fd:FE):FE:=λ env S=>(fk env S).bind λ p=>(fd env p.2).bind λ q=>match p.1,q.1 with|.tpl ws,.dic m=>(gS ws).bind λ k=>(kZ q.2 m).map λ es=>(.d (.bool (n != (cY es k).isSome)),q.2)|_,_=>qx
def aBa(fd fk:FE):FE:=λ env S=>(fd env S).bind λ p=>(fk env p.2).bind λ q=>match p.1,q.1 with|.dic m,.tpl ws=>(gS ws).bind λ k=>(kZ q.2 m).bind λ es=>(cY es k).map λ i=>(.d (.int i),q.2)|_,_=>qx
def aBq(fd fk fv:FE):FS:=λ env S=>(fv env S).bind λ p=>(fd env p.2).bind λ q=>(fk env q.2).bind λ r=>match p.1,q.1,r.1 with
 |.d (.int i),.dic m,.tpl ws=>(gS ws).bind λ k=>(kZ r.2 m).bind λ es=>if ↑es<qk then qz (.nx env,r.2.set m (qz ((qW es k i).map lZ))) else qx
 |_,_,_=>qx
def kJ.w{F:Hp}{L:Lx}{w:W0}{v:V}(h:kJ K F L w v):dH K F L w.w v:=by cases w<;>exact h
def aWp(h:dH K F L w v)(e:w0 w=qz x):kJ K F L x v:=by
 cases w with
 |d y=>cases e;exact h|loc n=>cases e;exact h|dic n=>cases e;exact h
 |tpl ws=>
   let(l,e1,e2):=map_some (show(fA ws).map _=qz x from e);cases e2;let(a,vs,rfl,h1,h2):=h;exact .tup (.inl (.inl h1)) (vK h2 e1)
 |exc c r=>cases e|ob fs=>cases e
section
variable {K:FrG}{F:Hp}{L:Lx}
def aIt:∀ {ws:List W}{xs:List V}{zs:List W0},WDenL K F L ws xs->w0s ws=qz zs->qZ K F L zs xs
 |_,_,_,.nil,e=>by cases e;exact .nil
 |w::r,_,_,.cons h t,e=>by
   let(x,e1,e):=aJ e;let(l,e2,e3):=map_some e;cases e3;exact .cons (aWp h e1) (aIt t e2)
def aG9{f:Str}:∀ {fs:List (Str×W0)}{vs:List (Str×V)}{w:W0},nE K F L fs vs->fs.lookup f=qz w->∃ v,vs.lookup f=qz v/\kJ K F L w v
 |[],_,_,.nil,e=>by cases e
 |(g,x)::r,(g',y)::r',w,.cons h t,e=>by
   let(h1,h2):=h;dsimp only at h1 h2;subst h1;rw[yBp] at e ⊢;split at e
   .cases e;exact(y,rfl,h2,)
   .exact aG9 t e
def aIH{f:Str}:∀ {fs:List (Str×W0)}{vs:List (Str×V)},nE K F L fs vs->fs.lookup f=qx->vs.lookup f=qx
 |[],_,.nil,e=>rfl
 |(g,x)::r,(g',y)::r',.cons h t,e=>by
   let(h1,h2):=h;dsimp only at h1 h2;subst h1;rw[yBp] at e ⊢;split at e
   .cases e
   .exact aIH t e
def aKz:∀ {ws:List W0}{vs:List V},qZ K F L ws vs->↑ws=↑vs
 |_,_,.nil=>rfl|_,_,.cons _ r=>congrArg (· + 1) (aKz r)
def vN:∀ {ws:List W0}{vs:List V}{k:List aZ},qZ K F L ws vs->gS ws=qz k->vs=k.map kV
 |[],_,_,.nil,e=>by cases e;rfl
 |.d (.int i)::r,_,_,.cons h t,e=>by
   let(l,e1,e2):=map_some (show(gS r).map _=_ from e);cases e2;cases (show Den K F (.int i) _ from h);rw[vN t e1];rfl
 |.d (.str i)::r,_,_,.cons h t,e=>by
   let(l,e1,e2):=map_some (show(gS r).map _=_ from e);cases e2;cases (show Den K F (.str i) _ from h);rw[vN t e1];rfl
 |.loc _::_,_,_,.cons _ _,e=>by cases e|.dic _::_,_,_,.cons _ _,e=>by cases e|.d .none::_,_,_,.cons _ _,e=>by cases e|.d (.bool _)::_,_,_,.cons _ _,e=>by cases e|.d (.list _)::_,_,_,.cons _ _,e=>by cases e|.d (.tuple _)::_,_,_,.cons _ _,e=>by cases e|.d (.dict _)::_,_,_,.cons _ _,e=>by cases e
end
def aQr(h:kZ S n=qz es):∃ ds,S[n]?=qz (qz ds)/\es=ds.filterMap tY:=by
 unfold kZ at h;split at h
 .rename_i ds e;cases h;exact(ds,e,rfl,)
 .cases h
def aEa(R:Rel K F L S H)(h:kZ S n=qz es)(e:L[n]?=qz (a,true)):F a=qx/\H a=qz (.dT (dV es)):=by let(ds,h1,rfl):=aQr h;let(hF,es,rfl,h2):=R.dic n a ds e h1;rw[aEA];exact(hF,h2,)
abbrev kK(K:FrG)(C:qw):Prop:=yCp K zk "Maker" = qz (qz (.ref C))
def aLp(a:kK K C)(b:kK K C'):C'=C:=by have:=a.symm.trans b;cases this;rfl
def aYS{fa:FE}(ha:PE X a (aP X.K fa))(hb:attributeBase a f X.env (eval a X.env)=eval a X.env)(hm:kK X.K C)(hc:Cls X.K C)(hn:NoAttr X.K C f):PE X (.Attribute a f pos) (aP X.K (aBA fa f)):=
 PE.weak (aWE ha hb) λ σ H Q aW=>by
  let(F,L,S,env,w,S',R,E,e,q):=aW;let((w1,S1),e1,e):=aJ e;dsimp only at e;split at e
  .rename_i fs;let(w0,e2,e3):=map_some e;cases e3;refine(F,L,S,env,_,_,R,E,e1,λ F1 L1 H1 v g1 R1 d1=>?_,);let(p,C',dx,vs,rfl,h1,h2,h3):=d1;obtain rfl:=aLp hm h2;let(u,h4,h5):=aG9 h3 e2;exact(p,_,dx,vs,u,rfl,R1.sub _ _ h1,hc,hn,h4,q F1 L1 H1 u g1 R1 h5.w,)
  .cases e
def aUM{fo:FE}{fs:FA}{call:List W->aC->Option (W×aC)}(hm:kK K C)(σ:St)(H:Hp)(Q:VK)(h:aP K (aBG m fo fs np call) σ H Q):aLy C m (pN K np call) [] E0 (aP K fo) (dQ K fs) σ H Q:=by
 let(F,L,S,env,w,S',R,E,e,q):=h;let((w1,S1),e1,e):=aJ e;dsimp only at e;split at e
 .rename_i fl;split at e
  .rename_i hn;let((ws,S2),e2,e):=aJ e;dsimp only at e;split at e
   .rename_i hl;refine(F,L,S,env,_,_,R,E,e1,λ F1 L1 H1 v g1 R1 d1=>?_,);have d1':=d1;let(p,C',dx,vs,rfl,h1,h2,h3):=d1;obtain rfl:=aLp hm h2;refine(p,dx,vs,rfl,R1.sub _ _ h1,aIH h3 (Option.isNone_iff_eq_none.mp hn),F1,L1,S1,env,ws,S2,R1,E.mono g1,e2,λ F2 L2 H2 us g2 R2 d2=>?_,);exact(F2,L2,S2,.ob fl::ws,w,S',by rw[yAl];exact hl,R2,.cons (d1'.mono g2) (by rw[yBi];exact d2),e,λ F3 L3 H3 v g3 R3 d3=>q F3 L3 H3 v ((g1.trans g2).trans g3) R3 d3,)
   .cases e
  .cases e
 .cases e
def aXb{fs:FA}(h:PA X es (dQ X.K fs)):PE X (.Tuple es k pos) (aP X.K (aBD fs)):=
 PE.weak (aKH h) λ σ H Q aW=>by
  let(F,L,S,env,w,S',R,E,e,q):=aW;let((ws,S1),e1,e2):=aJ e;let(zs,e3,e4):=aJ e2;split at e4
  .rename_i hz;cases e4;refine(F,L,S,env,ws,_,R,E,e1,λ F1 L1 H1 vs g1 R1 d1=>?_,);have dl:=aIt d1 e3;refine(by rw[<- aKz dl];exact hz,λ p hp=>?_,);have g2:Gr F1 L1 (bB F1 p (.tup vs)) L1:=Gr.new (R1.sub.free hp);exact q _ L1 _ _ (g1.trans g2) (R1.new hp) (p,vs,rfl,cO,L2.Paired.mapP dl λ _ _ z=>z.mono g2,)
  .cases e4
def aLe{fa fb:FE}(hu:X.A.units+1<cLine)(ha:PE X a (aP X.K fa))(hb:PE X b (aP X.K fb)):PC X (aEe n) a b (aP X.K (tO n fa fb)):=by
 have key:∀ (σ:St) (H:Hp) (Q:VK),aP X.K (tO n fa fb) σ H Q->aP X.K fa σ H λ y H1=>aP X.K fb σ H1 λ x H2=>∃ a o,x=.ref a/\jT H2 a y o/\Q (.bl (n != o.isSome)) H2:=λ σ H Q aW=>by
  let(F,L,S,env,w,S',R,E,e,q):=aW;let((w1,S1),e1,e):=aJ e;let((w2,S2),e2,e):=aJ e;dsimp only at e e2;split at e
  .rename_i ws m;let(k,e3,e):=aJ e;let(es,e4,e5):=map_some e;cases e5;refine(F,L,S,env,_,_,R,E,e1,λ F1 L1 H1 v g1 R1 d1=>(F1,L1,_,env,_,_,R1,E.mono g1,e2,λ F2 L2 H2 u g2 R2 d2=>?_,),);let(p,vs,rfl,h1,h2):=d1.mono g2;let(a,ea,rfl):=d2;obtain rfl:=vN h2 e3;let(_,hd):=aEa R2 e4 ea;refine(a,_,rfl,jT.t hd (R2.sub _ _ h1),?_,);rw[aAL];have:((cY es k).map V.int).isSome=(cY es k).isSome:=by cases cY es k<;>rfl
   rw[this];exact q F2 L2 H2 _ (g1.trans g2) R2 (.bl _)
  .cases e
 cases n with
 |false=>
   intro aB s σ H Q I h;refine aVe hu ha hb aB s σ H Q I ?_;let(F,L,S,env,w,S',R,E,e,q):=key σ H Q h;refine(F,L,S,env,w,S',R,E,e,λ F1 L1 H1 v g1 R1 d1=>?_,);let(F,L,S,env,w,S',R,E,e,q2):=q F1 L1 H1 v g1 R1 d1;refine(F,L,S,env,w,S',R,E,e,λ F1 L1 H1 v g1 R1 d1=>?_,);let(a,o,h1,h2,h3):=q2 F1 L1 H1 v g1 R1 d1;exact(a,o,h1,h2,by simpa using h3,)
 |true=>
   intro aB s σ H Q I h;refine aPJ hu ha hb aB s σ H Q I ?_;let(F,L,S,env,w,S',R,E,e,q):=key σ H Q h;refine(F,L,S,env,w,S',R,E,e,λ F1 L1 H1 v g1 R1 d1=>?_,);let(F,L,S,env,w,S',R,E,e,q2):=q F1 L1 H1 v g1 R1 d1;refine(F,L,S,env,w,S',R,E,e,λ F1 L1 H1 v g1 R1 d1=>?_,);let(a,o,h1,h2,h3):=q2 F1 L1 H1 v g1 R1 d1;exact(a,o,h1,h2,by simpa using h3,)
def aUv{fa fb:FE}(hu:X.A.units+1<cLine)(ha:PE X a (aP X.K fa))(hb:PE X b (aP X.K fb))(hs:vM b):PE X (.Subscript a b pos) (aP X.K (aBa fa fb)):=
 PE.weak (aRS hu ha hb hs) λ σ H Q aW=>by
  let(F,L,S,env,w,S',R,E,e,q):=aW;let((w1,S1),e1,e):=aJ e;let((w2,S2),e2,e):=aJ e;dsimp only at e e2;split at e
  .rename_i m ws;let(k,e3,e):=aJ e;let(es,e4,e):=aJ e;let(i,e5,e6):=map_some e;cases e6;refine(F,L,S,env,_,_,R,E,e1,λ F1 L1 H1 v g1 R1 d1=>(F1,L1,_,env,_,_,R1,E.mono g1,e2,λ F2 L2 H2 u g2 R2 d2=>?_,),);let(a,ea,rfl):=d1.mono g2;let(p,vs,rfl,h1,h2):=d2;obtain rfl:=vN h2 e3;let(_,hd):=aEa R2 e4 ea;refine(a,.int i,rfl,?_,q F2 L2 H2 _ (g1.trans g2) R2 (.int _),);have:=jT.t hd (R2.sub _ _ h1);rw[aAL,e5] at this;exact this
  .cases e
def aVn{pos:Pos}{fo fi fe:FE}(hu:X.A.units+1<cLine)(ho:PE X o (aP X.K fo))(hi:PE X i (aP X.K fi))(he:PE X e (aP X.K fe))(hs:swapsWith e (qz (.Subscript o i pos')) pos.line X.env=pure false) :
 PS X (.Assign [.Subscript o i pos'] e pos) (dL X.K (aBq fo fi fe)):=
 PS.weak (aSP hu ho hi he hs) λ D σ H h=>by
  let(F,L,S,env,fl,S',R,E,e,q):=lI h;let((w1,S1),e1,e):=aJ e;let((w2,S2),e2,e):=aJ e;let((w3,S3),e3,e):=aJ e;dsimp only at e e2 e3;split at e
  .let(k,e4,e):=aJ e;let(es,e5,e):=aJ e;split at e
   .rename_i hl;cases e;refine(F,L,S,env,_,_,R,E,e1,λ F1 L1 H1 v g1 R1 d1=>(F1,L1,_,env,_,_,R1,E.mono g1,e2,λ F2 L2 H2 u g2 R2 d2=>(F2,L2,_,env,_,_,R2,E.mono (g1.trans g2),e3,λ F3 L3 H3 y g3 R3 d3=>?_,),),);cases (show Den X.K F1 (.int _) v from d1);let(a,ea,rfl):=d2.mono g3;let(p,vs,rfl,h1,h2):=d3;obtain rfl:=vN h2 e4;let(hF,hd):=aEa R3 e5 ea;refine(a,_,rfl,xQ.t hd (R3.sub _ _ h1) (by rw[yAd];exact hl),?_,);rw[aUC];exact q F3 L3 _ ((g1.trans g2).trans g3) (R3.putC ea hF (λ z=>(nomatch z)) λ _=>(qW es k _,rfl,rfl,)) σ (E.mono ((g1.trans g2).trans g3))
   .cases e
  .cases e
def aMQ:Ini->TE
 |.arg i=>xW (i+1)|.lst=>aEI aEE|.dct=>aKD
def xP(K:FrG):List (Str×Ini)->TS
 |[]=>aLz|p::r=>aMZ (aMY K (xW 0) (aMQ p.2) p.1) (xP K r)
def aHB:∀ {vs:List (Str×V)},f ∉ vs.map (·.1)->fM f v vs=vs++[(f,v)]
 |[],_=>rfl
 |(g,x)::r,h=>by
   rw[yAf,yBg,not_or] at h;rw[fM,if_neg λ z=>h.1 z.symm,aHB h.2];rfl
section
variable {K:FrG}{F:Hp}{L:Lx}
def aC9:∀ {fs:List (Str×W0)}{vs:List (Str×V)},nE K F L fs vs->vs.map (·.1)=fs.map (·.1)
 |_,_,.nil=>rfl|_,_,.cons h t=>by rw[yAf,yAf,aC9 t,h.1]
def aIx:∀ {fs:List (Str×W0)}{vs:List (Str×V)}{f:Str}{w:W0}{v:V},nE K F L fs vs->kJ K F L w v->nE K F L (fs++[(f,w)]) (vs++[(f,v)])
 |_,_,_,_,_,.nil,h=>.cons (rfl,h,) .nil|_,_,_,_,_,.cons a t,h=>.cons a (aIx t h)
end
def aJt{L:Lx}{S:aC}(h:↑L=↑S):(L++[q])[↑S]?=qz q:=by rw[<- h,yAi (yAb _),yBe];rfl
def aIJ{C x dx:qw}{ds:List D}{D:Ends}{σ:St}(hc:Cls K C)(hσ:σ[0]?=qz (qz (.ref x))):∀ (ini:List (Str×Ini)) {S S':aC}{fs fs0:List (Str×W0)}{F H:Hp}{L:Lx}{vs0:List (Str×V)},
 (∀ p∈ini,NoAttr K C p.1)->(fs0.map (·.1)++ini.map (·.1)).Nodup->fs0.length+ini.length<=1000->Rel K F L S H->F x=qx->x ∉ ad L->H x=qz (.ins C dx vs0)->nE K F L fs0 vs0 ->
 (∀ (i:Nat) (d:EV.D),ds[i]?=qz d->∃ v,σ[i+1]?=qz (qz v)/\Den K F d v)->kN ds ini S=qz (fs,S') ->
 (∀ F' L' H' vs',Gr F L F' L'->Rel K F' L' S' H'->F' x=qx->x ∉ ad L'->H' x=qz (.ins C dx vs')->nE K F' L' (fs0++fs) vs'->D.nx σ H')->xP K ini D σ H
 |[],S,S',fs,fs0,F,H,L,vs0,hn,nd,hl,R,hF,hL,hx,hf,ha,e,q=>by
   cases e;exact q F L H vs0 Gr.refl R hF hL hx (by rw[yBi];exact hf)
 |(f,i)::r,S,S',fs,fs0,F,H,L,vs0,hn,nd,hl,R,hF,hL,hx,hf,ha,e,q=>by
   have nf:f ∉ vs0.map (·.1):=by
    rw[aC9 hf];intro z;exact(List.nodup_append.mp nd).2.2 f z f (by simp) rfl
   have lf:vs0.length<1000:=by
    have h1:=congrArg yHa (aC9 hf);rw[yAd,yAd] at h1;rw[yAl] at hl;omega
   have nd':∀ w:W0,((fs0++[(f,w)]).map (·.1)++r.map (·.1)).Nodup:=λ w=>by
    rw[yAx,yAz];exact nd
   have hl':∀ w:W0,(fs0++[(f,w)]).length+r.length<=1000:=λ w=>by
    rw[xAn,yDq];rw[yAl] at hl;omega
   have hn':∀ p∈r,NoAttr K C p.1:=λ p hp=>hn p (xAf _ hp)
   have step:∀ {y:V}{w:W0}{F1 H1:Hp}{L1:Lx}{S1:aC}{fs1:List (Str×W0)},Gr F L F1 L1->Rel K F1 L1 S1 H1->F1 x=qx->x ∉ ad L1->H1 x=qz (.ins C dx vs0)->kJ K F1 L1 w y->kN ds r S1=qz (fs1,S')->fs=(f,w)::fs1 ->
    xW 0 σ H1 λ x' H2=>∃ a C' dx' fs',x'=.ref a/\H2 a=qz (.ins C' dx' fs')/\Cls K C'/\NoAttr K C' f/\fs'.length<1000/\xP K r D σ (bB H2 a (.ins C' dx' (fM f y fs'))):=λ {y w F1 H1 L1 S1 fs1} g R1 hF1 hL1 hx1 dw e1 efs=>by
    refine(.ref x,hσ,x,C,dx,vs0,rfl,hx1,hc,hn _ xAc,lf,?_,);rw[aHB nf];refine aIJ hc hσ r hn' (nd' w) (hl' w) (R1.relay hF1 hL1) hF1 hL1 cO (aIx (L2.Paired.mapP hf λ _ _ z=>(z.1,z.2.mono g,)) dw) (λ i d z=>?_) e1 λ F' L' H' vs' g' R' h1 h2 h3 h4=>q F' L' H' vs' (g.trans g') R' h1 h2 h3 ?_
    .let(v,h1,h2):=ha i d z;exact(v,h1,Den.mono g.f h2,)
    .rw[efs];rw[yAz] at h4;exact h4
   cases i with
   |arg i=>
     let(d,e1,e):=aJ (show(ds[i]?).bind (λ d=>(kN ds r S).map λ p=>((f,W0.d d)::p.1,p.2))=qz (fs,S') from e);let((fs1,S1),e2,e3):=map_some e;cases e3;let(v,h1,h2):=ha i d e1;exact(v,h1,step (w:=.d d) Gr.refl R hF hL hx h2 e2 rfl,)
   |lst=>
     let((fs1,S1),e2,e3):=map_some (show(kN ds r (S++[qz []])).map (λ p=>((f,W0.loc ↑S)::p.1,p.2))=qz (fs,S') from e);cases e3;refine(yDa _,λ p hp=>?_,);have ne:x≠p:=dZ hx hp;refine step (w:=.loc ↑S) Gr.newLoc (R.newLoc hp .nil) hF ?_ (by rw[bR ne];exact hx) (p,aJt R.len,rfl,) e2 rfl;rw[ad,yAx,List.mem_append,not_or];exact(hL,by simpa using ne,)
   |dct=>
     let((fs1,S1),e2,e3):=map_some (show(kN ds r (S++[qz []])).map (λ p=>((f,W0.dic ↑S)::p.1,p.2))=qz (fs,S') from e);cases e3;intro p hp;have ne:x≠p:=dZ hx hp;refine step (w:=.dic ↑S) Gr.newLoc (R.newDic hp) hF ?_ (by rw[bR ne];exact hx) (p,aJt R.len,rfl,) e2 rfl;rw[ad,yAx,List.mem_append,not_or];exact(hL,by simpa using ne,)
def spM(K:FrG)(C:qw)(ini:List (Str×Ini))(np:Nat):Sp:=λ vs H Q _=>∃ F L S x dx ds us fs S',vs=.ref x::us/\↑us+1=np/\Rel K F L S H/\F x=qx/\x ∉ ad L/\H x=qz (.ins C dx [])/\DenL K F ds us/\kN ds ini S=qz (fs,S') /\
 ∀ F' L' H' vs',Gr F L F' L'->Rel K F' L' S' H'->F' x=qx->x ∉ ad L'->H' x=qz (.ins C dx vs')->nE K F' L' fs vs'->Q .non H'
def aVI{Q:VK}{E:XK}(hc:Cls K C)(hn:∀ p∈ini,NoAttr K C p.1)(nd:(ini.map (·.1)).Nodup)(hl:ini.length<=1000)(h:spM K C ini np vs H Q E) :
 xP K ini {nx:=λ _ H'=>Q .non H',rt:=Q } (L2.start N vs) H:=by
 let(F,L,S,x,dx,ds,us,fs,S',rfl,hu,R,hF,hL,hx,dl,e,q):=h;refine aIJ (ds:=ds) hc (x:=x) (dx:=dx) ?_ ini (fs0:=[]) (vs0:=[]) hn nd (by rw[yCm,yCx];exact hl) R hF hL hx .nil (λ i d z=>?_) e λ F' L' H' vs' g R' h1 h2 h3 h4=>q F' L' H' vs' g R' h1 h2 h3 h4
 .rfl
 .let(v,h1,h2):=dl.get z;refine(v,?_,h2,);unfold L2.start;rw[yAf,yIk,yDe,xAm (by rw[yAd];exact(gIm h1).1),yAg,h1];rfl
def aW1{fs:FA}(hm:kK K C)(σ:St)(H:Hp)(Q:VK)(h:aP K (aA9 ini np fs) σ H Q):aLk C (spM K C ini np) [] E0 (dQ K fs) σ H Q:=by
 let(F,L,S,env,w,S',R,E,e,q):=h;let((ws,S1),e1,e):=aJ e;dsimp only at e;split at e
 .rename_i hl;let(ds,e2,e):=aJ e;let((fl,S2),e3,e4):=map_some e;cases e4;refine(F,L,S,env,ws,S1,R,E,e1,λ F1 L1 H1 vs g1 R1 d1 x dx hx hd ne=>?_,);have R2:=R1.lay (o:=.own x) hd;have hx2:bB H1 dx (.own x) x=qx:=by rw[bR λ z=>ne z.symm];exact hx
  have R3:=R2.lay (o:=.ins C dx []) hx2;rw[yBi];refine(F1,L1,S1,x,dx,ds,vs,fl,S2,rfl,by rw[<- d1.length];exact hl,R3,R1.sub.free hx,R1.notin hx,cO,pX d1 e2,e3,λ F' L' H' vs' g' R' h1 h2 h3 h4=>(rfl,?_,),);have g2:Gr F' L' (bB F' x (.ins C dx vs')) L':=Gr.new h1;exact q _ L' H' _ ((g1.trans g').trans g2) (R'.adoptO h1 h2 h3) (x,C,dx,vs',rfl,cO,hm,L2.Paired.mapP h4 λ _ _ z=>(z.1,z.2.mono g2,),)
 .cases e
def xS(xs:List D)(k:D):Option D:=match vV xs,k with|some _,.str k=>qz (.int (Spec.countIn (.str k) xs))|_,_=>qx
def aPC{xs:List D}(h:xS xs k=qz z):∃ ys s,vV xs=qz ys/\k=.str s/\z=.int (Spec.countIn (.str s) xs):=by
 unfold xS at h;split at h
 .rename_i ys s e;cases h;exact(ys,s,e,rfl,rfl,)
 .cases h
def aGG:∀ {xs:List D}{ys:List Str},vV xs=qz ys->xs=ys.map yCb
 |[],_,e=>by cases e;rfl
 |.str x::r,_,e=>by
   let(l,e1,e2):=aJ (show(vV r).bind (λ l=>qz (x::l))=_ from e);cases e2;rw[aGG e1];rfl
 |.none::_,_,e=>by cases e|.bool _::_,_,e=>by cases e|.int _::_,_,e=>by cases e|.list _::_,_,e=>by cases e|.tuple _::_,_,e=>by cases e|.dict _::_,_,e=>by cases e
def aEl:∀ {ys:List Str}{us:List qj},aT (ys.map V.str) us->StrsAre us ys
 |[],_,.nil=>.nil|y::r,_,.cons ⟨t,h⟩ q=>by subst h;exact .cons y t (aEl q)
def aSl{Q:VK}{ys:List Str}(I:Inv X aB σ H s)(sq:cE X.K H a (ys.map V.str))(q:Q (.int (Spec.countIn (.str k) (ys.map yCb))) H) :
 qu (model X.prog X.w) X.A (call (.builtin "tuple.count") [.ref a,.str k t]) (EP X aB σ Q) X.xe s:=by let(aG,r,((cls,dd,data,sl),ho,hc,n,hd),hz):=I.tuple sq;simp only at hc hd;subst hc hd;have hs:=aEl r;refine xo PySem.F.slot_tuple_count (_,ho,rfl,) PySem.F.entry_tuple_count (PySem.F.args_tuple_count_2 _ _) (SeqAt.tuple_countAt a aG.toArray n dd sl (.str k t) (isStrOf k)) (ho,λ y hy=>(eq_isStrOf k t hs y (hy:)).at _ _,?_,);refine(.int (Spec.countIn (.str k) (ys.map yCb)),H,I.tok _,(s.toks,?_,),q,);rw[<- countP_isStrOf_map k hs]
def aTB{Q:VK}{ys:List Str}(I:Inv X aB σ H s)(sq:bT X.K H a (ys.map V.str))(q:Q (.int (Spec.countIn (.str k) (ys.map yCb))) H) :
 qu (model X.prog X.w) X.A (call (.builtin "list.count") [.ref a,.str k t]) (EP X aB σ Q) X.xe s:=by let(aG,r,pl,hz):=I.list sq;let((cls,dd,data,sl),ho,hc,n,hd):=pl.isList;simp only at hc hd;subst hc hd;have hs:=aEl r;refine xo PySem.F.slot_list_count (_,ho,rfl,) PySem.F.entry_list_count (PySem.F.args_list_count_2 _ _) (SeqAt.list_countAt a aG.toArray n dd sl (.str k t) (isStrOf k)) (ho,λ y hy=>(eq_isStrOf k t hs y (hy:)).at _ _,?_,);refine(.int (Spec.countIn (.str k) (ys.map yCb)),H,I.tok _,(s.toks,?_,),q,);rw[<- countP_isStrOf_map k hs]
def aM5(K:FrG):V->List V->Hp->VK->Prop:=λ x vs H Q=>∃ (a:qw) (ys:List Str) (k:Str),x=.ref a/\vs=[.str k]/\bT K H a (ys.map V.str)/\Q (.int (Spec.countIn (.str k) (ys.map yCb))) H
def aQ2:MtM X "list.count" (aM5 X.K):=by intro aB s σ H x vs v us Q I rx rv h;let(a,ys,k,rfl,rfl,sq,q):=h;cases rx;let(u,rfl,ru):=rv.one;let(t,rfl):=ru;exact aTB I sq q
def tS(fs:FA)(fa:FE):FE:=λ env S=>(fs env S).bind λ p=>(jE p.1).bind λ xs=>if ↑xs<=qk then (fa env p.2).bind λ q=>(wd q.1).bind λ k=>(xS xs k).map λ z=>(.d z,q.2) else qx
def aHh{fs:FA}{fa:FE}(h:tS fs fa env S=qz (w,S')):∃ (ws:List W) (S1:aC) (ys:List Str) (wk:W) (k:Str),fs env S=qz (ws,S1)/\jE ws=qz (ys.map yCb)/\(ys.map yCb).length<=qk/\fa env S1=qz (wk,S')/\wd wk=qz (.str k)/\w=.d (.int (Spec.countIn (.str k) (ys.map yCb))):=by
 let((ws,S1),e1,h):=aJ h;let(xs,e2,h):=aJ h;split at h
 .rename_i hz;let((wk,S2),e3,h):=aJ h;let(k,e4,h):=aJ h;let(z,e5,e6):=map_some h;let(ys,s,e7,rfl,rfl):=aPC e5;obtain rfl:=aGG e7;cases e6;exact(ws,S1,ys,wk,s,e1,e2,hz,e3,e4,rfl,)
 .cases h
def aDb:∀ {ys:List Str}{xs:List V},DenL K F (ys.map yCb) xs->xs=ys.map V.str
 |[],_,.nil=>rfl|y::r,_,.cons h t=>by cases h;rw[aDb t];rfl
def aVm{apos cpos:Pos}{fs:FA}{fa:FE}(hs:PA X es (dQ X.K fs))(ha:PE X e (aP X.K fa))(hline:(apos.endLine==cpos.line)=true)(st:qo [e] X.env=(false,eval e X.env)::qo [] X.env) :
 PE X (.Call (.Attribute (.Tuple es k tpos) "count" apos) [e] [] cpos) (aP X.K (tS fs fa)):=by
 rintro aB s σ H Q I ⟨F,L,S,env,w,S',R,E,eq,q⟩;let(ws,S1,ys,wk,kk,e1,e2,hz,e3,e4,rfl):=aHh eq;refine wpAny_Call_method_late (by rfl) (by rw[st];rfl) hline rfl (wpAny_Tuple_spliced (bA (hs tpos aB s σ H (λ vs H1=>∃ F1 L1,Gr F L F1 L1/\Rel X.K F1 L1 S1 H1/\WDenL X.K F1 L1 ws vs) I ⟨F,L,S,env,ws,S1,R,E,e1,λ F1 L1 H1 vs g1 R1 d1=>(F1,L1,g1,R1,d1,)⟩) λ us s1 hPq49=>?_));let(vs,H1,I1,r,F1,L1,g1,R1,d1):=hPq49;have dl:=pX d1 e2;obtain rfl:=aDb dl;have cJ:↑us<=qk:=by rw[<- r.length,<- dl.length];exact hz
 refine(cJ,?_,);have hf:H1 s1.heap.objs.size=qx:=I1.hok.fresh (yAb _);have ob:=xAd (o:={cls:=.type "tuple",data:=.seq us.toArray 0 }) s1.heap rfl;have I2:Inv X aB σ (bB H1 s1.heap.objs.size (.tup (ys.map V.str))) {s1 with heap:=s1.heap.push {cls:=.type "tuple",data:=.seq us.toArray 0 } }:=
  I1.laid (t':=s1.toks) (λ b u e=>hpS _ e) (yAb _) (by rw[r.length];exact cJ,us,r,(_,ob,rfl,_,rfl,),)
 refine("tuple","tuple.count",PySem.F.plainAttrs_tuple,PySem.F.slot_tuple_count,PySem.F.type_tuple_count,(_,ob,rfl,),λ a e=>by cases e;exact(_,ob,rfl,),?_,);have g2:Gr F1 L1 (bB F1 s1.heap.objs.size (.tup (ys.map V.str))) L1:=Gr.new (R1.sub.free hf);have hA:=ha aB _ σ _ (λ v H2=>∃ F2 L2,Gr (bB F1 s1.heap.objs.size (.tup (ys.map V.str))) L1 F2 L2/\Rel X.K F2 L2 S' H2/\dH X.K F2 L2 wk v) I2 ⟨_,L1,S1,env,wk,S',R1.new hf,(E.mono g1).mono g2,e3,λ F2 L2 H2 v g R d=>(F2,L2,g,R,d,)⟩;rw[st];refine Calls.callWith_builtin rfl (Calls.evalArgs_plain (Calls.spliced_cons (bA hA λ u s2 ⟨v,H2,I3,rv,F2,L2,g3,R3,d3⟩=>Calls.spliced_nil ?_)));have dk:=aAU d3 e4;cases dk;let(t,rfl):=rv;exact aSl I3 (cE.of (R3.sub _ _ (g3.f _ _ cO))) (q F2 L2 H2 _ ((g1.trans g2).trans g3) R3 (.int _))
def aUT{fs:FA}{fa:FE}(σ:L2.St)(H:Hp)(Q:VK)(h:aP X.K (tS fs fa) σ H Q):yV X.K "list" (aM5 X.K) (aEI (dQ X.K fs)) (dQ X.K (cL fa gG)) σ H Q:=by
 let(F,L,S,env,w,S',R,E,eq,q):=h;let(ws,S1,ys,wk,kk,e1,e2,hz,e3,e4,rfl):=aHh eq;refine(F,L,S,env,ws,S1,R,E,e1,λ F1 L1 H1 vs g1 R1 d1=>?_,);have dl:=pX d1 e2;obtain rfl:=aDb dl;refine(by rw[<- dl.length];exact hz,λ p hp=>(.inl (rfl,_,bT.of cO,),?_,),);have g2:Gr F1 L1 (bB F1 p (.lst (ys.map V.str))) L1:=Gr.new (R1.sub.free hp);refine(_,L1,S1,env,[wk],S',R1.new hp,(E.mono g1).mono g2,?_,λ F2 L2 H2 us g3 R3 d3=>?_,)
 .unfold cL;rw[e3];rfl
 .cases d3 with
  |cons dd dr=>
    cases dr;cases aAU dd e4;exact(p,ys,kk,rfl,rfl,bT.of (R3.sub _ _ (g3.f _ _ cO)),q F2 L2 H2 _ ((g1.trans g2).trans g3) R3 (.int _),)
def lC(m i:Nat):Nat:=(i*5+1)%(m+1)
def lD(m:Nat):Nat->Nat->Nat
 |0,i=>i|n+1,i=>lD m n (lC m i)
def aAB(m:Nat):∀ a b i,lD m (a+b) i=lD m b (lD m a i)
 |0,b,i=>by rw[yCx];rfl|a+1,b,i=>by rw[Nat.succ_add];exact aAB m a b (lC m i)
def aEY(m:Nat):Nat->Nat->List Nat
 |0,_=>[]|n+1,i=>i::aEY m n (lC m i)
def aHE(m:Nat):∀ n i j,j∈aEY m n i->∃ k,k<n/\lD m k i=j
 |0,i,j,h=>by cases h
 |n+1,i,j,h=>by
   rcases List.mem_cons.mp h with rfl|h
   .exact(0,Nat.succ_pos _,rfl,)
   .let(k,h1,h2):=aHE m n _ j h;exact(k+1,Nat.succ_lt_succ h1,h2,)
def aYO(m:Nat):Bool:=(yBw (m+1)).all (λ j=>(aEY m (m+1) 0).contains j)&&(lD m (m+1) 0==0)
def mL(m:Nat):Prop:=m=7\/m=31\/m=127\/m=511
def aWn(h:mL m):aYO m=true:=by rcases h with rfl|rfl|rfl|rfl<;>decide +kernel
def aLY(h:mL m)(hi:i<=m)(hj:j<=m):∃ n,n<=m/\lD m n i=j:=by
 let(h1,h2):=Bool.and_eq_true_iff.mp (aWn h);have z:lD m (m+1) 0=0:=beq_iff_eq.mp h2;have at_:∀ k,k<=m->∃ a,a<m+1/\lD m a 0=k:=λ k hk=>aHE m (m+1) 0 k (List.contains_iff_mem.mp (List.all_eq_true.mp h1 k (List.mem_range.mpr (!_))))
 let(a,ha,ea):=at_ i hi;let(b,hb,eb):=at_ j hj;by_cases c:a<=b
 .exact(b-a,by omega,by rw[<- ea,<- aAB,Nat.add_sub_cancel' c,eb],)
 .exact(m+1+b-a,by omega,by rw[<- ea,<- aAB,show a+(m+1+b-a)=m+1+b by omega,aAB,z,eb],)
def iR(t:SetTable):Nat->SetTable.Probe->SetTable.Probe
 |0,p=>p|n+1,p=>iR t n (t.advance p)
def aIQ(t:SetTable):∀ a b p,iR t (a+b) p=iR t b (iR t a p)
 |0,b,p=>by rw[yCx];rfl|a+1,b,p=>by rw[Nat.succ_add];exact aIQ t a b (t.advance p)
def lp(m:Nat)(p:SetTable.Probe):SetTable.Probe:={p with j:=(SetTable.leap m p.i p.perturb).1,more:=SetTable.runEnd m (SetTable.leap m p.i p.perturb).1-(SetTable.leap m p.i p.perturb).1,i:=(SetTable.leap m p.i p.perturb).1,perturb:=(SetTable.leap m p.i p.perturb).2 }
def aIM(t:SetTable):∀ (k:Nat) (p:SetTable.Probe),p.more=k->iR t (k+1) p=lp t.mask p
 |0,p,h=>by
   show t.advance p=_;unfold SetTable.advance;rw[if_neg (!_)];rfl
 |k+1,p,h=>by
   show iR t (k+1) (t.advance p)=_;have e:t.advance p={p with j:=p.j+1,more:=p.more-1 }:=by
    unfold SetTable.advance;rw[if_pos (!_)]
   rw[e,aIM t k _ (by show p.more-1=k;omega)];rfl
def aM2(m i:Nat):SetTable.runEnd m i-i<=9:=by unfold SetTable.runEnd;split<;>omega
def hG(m:Nat):Nat->SetTable.Probe->SetTable.Probe
 |0,p=>p|n+1,p=>hG m n (lp m p)
def aJx(t:SetTable):∀ (n:Nat) (p:SetTable.Probe),p.more<=9->∃ k,k<=10*n/\iR t k p=hG t.mask n p
 |0,p,_=>(0,yAb _,rfl,)
 |n+1,p,h=>by
   let(k,h1,h2):=aJx t n (lp t.mask p) (aM2 _ _);exact(p.more+1+k,by omega,by rw[aIQ,aIM t _ p rfl,h2];rfl,)
def aD4(m:Nat):∀ (n:Nat) (p:SetTable.Probe),(hG m n p).perturb=p.perturb/32^n
 |0,p=>by show p.perturb=p.perturb/1;rw[Nat.div_one]
 |n+1,p=>by
   show(hG m n (lp m p)).perturb=_;rw[aD4 m n,show(lp m p).perturb=p.perturb/32 from rfl,Nat.div_div_eq_div_mul,yFr,yHq]
def aEk(m:Nat):∀ (n:Nat) (p:SetTable.Probe),p.perturb=0->(hG m n p).i=lD m n p.i
 |0,p,_=>rfl
 |n+1,p,h=>by
   show(hG m n (lp m p)).i=lD m n (lC m p.i);have e:(lp m p).i=lC m p.i:=by
    show(p.i*5+1+p.perturb/32)%(m+1)=_;rw[h];rfl
   rw[aEk m n _ (by show p.perturb/32=0;rw[h]),e]
def aLg(m:Nat):∀ (n:Nat) (p:SetTable.Probe),(hG m (n+1) p).j=(hG m (n+1) p).i
 |0,p=>rfl|n+1,p=>aLg m n (lp m p)
def vL(m:Nat):∀ a b p,hG m (a+b) p=hG m b (hG m a p)
 |0,b,p=>by rw[yCx];rfl|a+1,b,p=>by rw[Nat.succ_add];exact vL m a b (lp m p)
def aLH(m:Nat)(p:SetTable.Probe):(lp m p).i<=m:=yId (Nat.mod_lt _ (Nat.succ_pos m))
def aYj(t:SetTable)(h:mL t.mask)(p:SetTable.Probe)(h9:p.more<=9)(hp:p.perturb<2^64)(hj:j<=t.mask):∃ k,k<=10*(t.mask+14)/\(iR t k p).j=j:=by
 have z:(hG t.mask 14 p).perturb=0:=by
  rw[aD4];exact yGs (xAb hp (·))
 have il:(hG t.mask 14 p).i<=t.mask:=by
  rw[show(14:Nat)=13+1 from rfl,vL];exact aLH _ _
 let(n,hn,e):=aLY h il hj;let(k,h1,h2):=aJx t (14+n) p h9;refine(k,by omega,?_,);rw[h2,show 14+n=(13+n)+1 by omega,aLg,show(13+n)+1=14+n by omega,vL,aEk _ _ _ z,e]
def aJP(t:SetTable)(p:SetTable.Probe):(t.advance p).dummy=p.dummy:=by unfold SetTable.advance;split<;>rfl
def aJg{t:SetTable}(hd:t.dummies = #[])(j:Nat):t.slot j=.empty\/∃ i,t.slot j=.live i/\t.place[i]?=qz j:=by
 unfold SetTable.slot;dsimp only;by_cases c:(t.place[SetTable.below t.place j]?==qz j)=true
 .rw[if_pos c];exact .inr (_,rfl,beq_iff_eq.mp c,)
 .rw[if_neg c,hd];exact .inl rfl
def aQh{t:SetTable}(hd:t.dummies = #[])(h:j ∉ t.place.toList):t.slot j=.empty:=by
 rcases aJg hd j with e|⟨i,_,e⟩
 .exact e
 .exact absurd (xAk (by rw[Array.getElem?_toList];exact e)) h
def aLX{t:SetTable}(hd:t.dummies = #[])(ha:Nat->Int)(h:Int):∀ (n:Nat) (p:SetTable.Probe) (f:Nat),p.dummy=qx->t.slot (iR t n p).j=.empty->n<f->∃ met,SetTable.probe.go t ha h f p=qz met/\((∃ j,met=.empty j qx)\/∃ j i q k,met=.candidate j i q/\t.slot j=.live i/\t.place[i]?=qz j/\q.dummy=qx/\k<n/\t.slot (iR t k q).j=.empty)
 |n,p,0,_,_,hf=>absurd hf (yBq n)
 |n,p,f+1,hp,he,hf=>by
   unfold SetTable.probe.go;rcases aJg hd p.j with e|⟨i,e,e'⟩
   .rw[e];exact(_,rfl,.inl (p.j,by rw[hp],),)
   .rw[e];dsimp only;cases n with
    |zero=>
      have he:t.slot p.j=.empty:=he;rw[e] at he;cases he
    |succ n=>
      have he:t.slot (iR t n (t.advance p)).j=.empty:=he;by_cases c:(ha i==h)=true
      .rw[if_pos c];exact(_,rfl,.inr (p.j,i,t.advance p,n,rfl,e,e',by rw[aJP];exact hp,yBa n,he,),)
      .rw[if_neg c];let(met,h1,h2):=aLX hd ha h n (t.advance p) f (by rw[aJP];exact hp) he (Nat.lt_of_succ_lt_succ hf);refine(met,h1,?_,);rcases h2 with h2|⟨j,i,q,k,a1,a2,a3,a4,a5,a6⟩
       .exact .inl h2
       .exact .inr (j,i,q,k,a1,a2,a3,a4,yEd a5,a6,)
def aDZ:∀ (m:Nat) (l:List Nat),↑l<m->∃ j,j<m/\j ∉ l
 |0,l,h=>absurd h (yBq _)
 |m+1,l,h=>by
   by_cases c:m∈l
   .let(j,h1,h2):=aDZ m (l.erase m) (by
     have:=List.length_erase_of_mem c;have:=List.length_pos_of_mem c;omega)
    refine(j,yEd h1,λ z=>h2 ?_,);exact(List.mem_erase_of_ne (xAj h1)).mpr z
   .exact(m,yBa m,c,)
structure TOk(t:SetTable)(n:Nat):Prop where
 m:mL t.mask
 d:t.dummies = #[]
 s:t.place.size=n
 f:n*5<t.mask*3
def TOk.out(h:TOk t n):∃ j,j<=t.mask/\t.slot j=.empty:=by have f:=h.f;have s:=h.s;let(j,h1,h2):=aDZ (t.mask+1) t.place.toList (by rw[yBm];omega);exact(j,yId h1,aQh h.d h2,)
def TOk.fits(h:TOk t n):t.fits n=true:=by have f:=h.f;unfold SetTable.fits SetTable.fill;rw[h.s,h.d];simp;omega
def aJk(h:Int):SetTable.bits h<2^64:=by unfold SetTable.bits;have h1:=yHd h (show(2^64:Int)≠0 by decide);have h2:=yFy h (show(0:Int)<2^64 by decide);omega
def aQZ(h:TOk t n)(x:Int):∃ k,k<=10*(t.mask+14)/\(t.probeStart x).dummy=qx/\t.slot (iR t k (t.probeStart x)).j=.empty:=by let(j,h1,h2):=h.out;let(k,h3,h4):=aYj t h.m (t.probeStart x) (aM2 _ _) (aJk x) h1;exact(k,h3,rfl,by rw[h4];exact h2,)
def aIq(m:Nat)(own:Array (Option Nat)):∀ (n f:Nat) (p:SetTable.Probe),n<f->own.getD (hG m n p).i (qz 0)=qx->∃ j,SetTable.layClean.free m own f p.i p.perturb=qz j/\own.getD j (qz 0)=qx
 |n,0,p,h,_=>absurd h (yBq n)
 |n,f+1,p,h,he=>by
   unfold SetTable.layClean.free;cases e:(yBw (SetTable.runEnd m p.i+1-p.i)).find? λ k=>(own.getD (p.i+k) (qz 0)).isNone with
   |some k=>
     refine(p.i+k,rfl,?_,);have:=List.find?_some e;exact Option.isNone_iff_eq_none.mp this
   |none=>
     cases n with
     |zero=>
       have h0:=List.find?_eq_none.mp e 0 (List.mem_range.mpr (by unfold SetTable.runEnd;split<;>omega));have he:own.getD p.i (qz 0)=qx:=he;rw[Nat.add_zero,he] at h0;exact absurd rfl h0
     |succ n=>exact aIq m own n f (lp m p) (Nat.lt_of_succ_lt_succ h) he
def nZ(f:Nat->Option (Nat×Nat))(n:Nat):Nat:=((yBw n).filterMap f).length
def aIk(f:Nat->Option (Nat×Nat))(n:Nat):nZ f (n+1)=nZ f n+(if (f n).isSome=true then 1 else 0):=by unfold nZ;rw[List.range_succ,List.filterMap_append,xAn];cases e:f n<;>simp[e]
def aIr{f g:Nat->Option (Nat×Nat)}(hf:(f j).isSome=false)(hg:(g j).isSome=true)(he:∀ i,i≠j->(g i).isSome=(f i).isSome):∀ n,nZ g n=nZ f n+(if j<n then 1 else 0)
 |0=>rfl
 |n+1=>by
   rw[aIk,aIk,aIr hf hg he n];by_cases c:n=j
   .subst c;rw[hf,hg,if_neg (yBl n),if_pos (yBa n)];rfl
   .rw[he n c];by_cases d:j<n
    .rw[if_pos d,if_pos (show j<n+1 by omega)];omega
    .rw[if_neg d,if_neg (show ¬ j<n+1 by omega)];omega
def pL(own:Array (Option Nat))(j:Nat):Option (Nat×Nat):=(own.getD j qx).map (j,·)
structure LayI(m:Nat)(own:Array (Option Nat))(k:Nat):Prop where
 s:own.size=m+1
 c:nZ (pL own) (m+1)=k
 v:∀ j v,own.getD j qx=qz v->v<k
def aP6(hm:mL m)(h:LayI m own k)(hk:k<=m)(x:Int):∃ j,SetTable.layClean.free m own (SetTable.turns m) (SetTable.bits x%(m+1)) (SetTable.bits x)=qz j/\j<=m/\own.getD j qx=qx:=by
 let(j0,h1,h2):=aDZ (m+1) (((yBw (m+1)).filterMap (pL own)).map (·.1)) (by
  rw[yAd];have:=h.c;unfold nZ at this;omega)
 have e0:own.getD j0 (qz 0)=qx:=by
  have hs:j0<own.size:=by rw[h.s];exact h1
  cases e:own[j0] with
  |none=>simp[yGx,hs,e]
  |some v=>
    refine absurd (List.mem_map.mpr ((j0,v),List.mem_filterMap.mpr (j0,List.mem_range.mpr h1,?_,),rfl,)) h2;unfold pL;simp[yGx,hs,e]
 have z:(hG m 14 ((0,0,SetTable.bits x%(m+1),SetTable.bits x,qx,):SetTable.Probe)).perturb=0:=by
  rw[aD4];exact yGs (xAb (aJk x) (·))
 have il:(hG m 14 ((0,0,SetTable.bits x%(m+1),SetTable.bits x,qx,):SetTable.Probe)).i<=m:=by
  rw[show(14:Nat)=13+1 from rfl,vL];exact aLH _ _
 let(n,hn,e):=aLY hm il (yId h1);let(j,g1,g2):=aIq m own (14+n) (SetTable.turns m) (0,0,SetTable.bits x%(m+1),SetTable.bits x,qx,) (by unfold SetTable.turns;omega) (by rw[vL,aEk _ _ _ z,e];exact e0);have hj:j<own.size:=Decidable.byContradiction λ c=>by simp[yGx,c] at g2
 refine(j,g1,by have:=h.s;omega,?_,);simp[yGx,hj] at g2 ⊢;exact g2
def aRg(h:LayI m own k)(hj:j<=m)(e:own.getD j qx=qx):LayI m (own.setIfInBounds j (qz k)) (k+1):=by
 have hs:j<own.size:=by rw[h.s];omega
 have gj:(own.setIfInBounds j (qz k)).getD j qx=qz k:=by simp[yGx,hs]
 have gi:∀ i,i≠j->(own.setIfInBounds j (qz k)).getD i qx=own.getD i qx:=λ i hi=>by
  simp only[yGx,Array.size_setIfInBounds];split
  .rename_i c;simp[Array.getElem_setIfInBounds,c,Ne.symm hi]
  .rfl
 refine(by rw[Array.size_setIfInBounds];exact h.s,?_,λ i v hv=>?_,)
 .rw[@aIr j (pL own) _ (by unfold pL;rw[e];rfl) (by unfold pL;rw[gj];rfl) (λ i hi=>by unfold pL;rw[gi i hi]) (m+1),if_pos (!_),h.c]
 .by_cases c:i=j
  .subst c;rw[gj] at hv;cases hv;exact yBa _
  .rw[gi i c] at hv;exact yEd (h.v i v hv)
def aKQ(hm:mL m):∀ (l:List Int) (own:Array (Option Nat)) (k:Nat),LayI m own k->k+↑l<=m->∃ own',(l.foldl (init:=qz (own,k)) λ aO h=>do
 let (owner,k) <- aO;let j <- SetTable.layClean.free m owner (SetTable.turns m) (SetTable.bits h%(m+1)) (SetTable.bits h)
 pure (owner.setIfInBounds j (qz k),k+1))=qz (own',k+↑l)/\LayI m own' (k+↑l)
 |[],own,k,h,_=>(own,rfl,h,)
 |x::l,own,k,h,hl=>by
   rw[yAl] at hl;let(j,h1,h2,h3):=aP6 hm h (!_) x;let(own',g1,g2):=aKQ hm l _ (k+1) (aRg h h2 h3) (!_);refine(own',?_,by rw[yAl,show k+(↑l+1)=k+1+↑l by omega];exact g2,);rw[yCl,yAl,show k+(↑l+1)=k+1+↑l by omega,<- g1];simp[h1]
def aSz(hm:mL m)(hs:Array Int)(hn:hs.size=n)(hf:n*5<m*3)(fi mo:Nat)(le pl:Bool):∃ t order,SetTable.laid m fi mo le pl hs=qz (t,order)/\TOk t n/\t.mask=m/\order.size=n/\∀ v∈order.toList,v<n:=by
 have o0:LayI m (Array.replicate (m+1) qx) 0:=by
  have g:∀ j,(Array.replicate (m+1) (qx:Option Nat)).getD j qx=qx:=λ j=>by
   simp only[yGx];split<;>simp
  refine⟨by simp,?_,λ j v h=>by rw[g j] at h;cases h⟩;unfold nZ;rw[List.filterMap_eq_nil_iff.mpr λ j _=>by unfold pL;rw[g j];rfl];rfl
 let(own',g1,g2):=aKQ hm hs.toList _ 0 o0 (by rw[yBm];omega);rw[yCx,yBm,hn] at g2;have e:SetTable.layClean m hs=qz own':=by
  unfold SetTable.layClean;rw[<- Array.foldl_toList,g1];rfl
 have c:=g2.c;unfold nZ at c;unfold SetTable.laid;rw[e];refine(_,_,rfl,(hm,rfl,?_,hf,),rfl,?_,λ v hv=>?_,)
 .rw[yAh,yAd];exact c
 .rw[yAh,yAd];exact c
 .rw[List.toList_toArray] at hv;let(q,hq,rfl):=List.mem_map.mp hv;let(j,_,h2):=List.mem_filterMap.mp hq;let(v,h3,rfl):=Option.map_eq_some_iff.mp h2;exact g2.v j v h3
section
variable {K:Type}[DecidableEq K]
def aXZ(h:carriedByValue v=true):ofAClassStatement d v=pure false:=by cases v<;>first|(cases d<;>rfl)|(cases h)
def aJI{prog:zq}{w:zj}{knd:KeyKind prog w K}{k:List K}{b:qw}{Q:Bool->qv->Prop}(hk:IsTupleKey knd s.heap k b)(h:Q false s):qu (model prog w) A (ofAClassStatement 8 (.ref b)) Q E s:=by
 have hT:=hk.typeIs;let(o,aN,n,ho,_,hd,hi):=hk;unfold ofAClassStatement;refine wB (wpAny_typeOf hT ?_);dsimp only;refine wB (wP ?_);simp only[yFz,yAm,if_false];refine wB (xy ho hd ?_);dsimp only;refine wB ?_;show qu _ _ (forIn aN _ _) _ _ s;rw[<- yHr];refine wpAny_forIn_list _ (λ bS r s'=>r.1=qx/\s'=s/\∀ v∈bS,carriedByValue v=true) _ ?_ ?_ _ _ ⟨rfl,rfl,hi.byValue⟩
 .rintro v bS r s' ⟨hr,rfl,hall⟩;rw[aXZ (hall v xAc)];refine wB (wP ?_);simp only[yAm,if_false];exact wP (rfl,rfl,λ u hu'=>hall u (xAf _ hu'),)
 .rintro ⟨r1,r2⟩ s' ⟨hr,rfl,_⟩;simp only at hr;subst hr;exact wP h
def aSg{prog:zq}{w:zj}{knd:KeyKind prog w K}{k:List K}{b:qw}{Q:Bool->qv->Prop}(hk:IsTupleKey knd s.heap k b)(l:List qj)(hs:∀ y∈l,∃ k' b',y=.ref b'/\IsTupleKey knd s.heap k' b')(h:Q false s):qu (model prog w) A (searchCouldBeSeen (.ref b) l) Q E s:=by
 unfold searchCouldBeSeen;refine wB ?_;refine wpAny_forIn_list _ (λ bS r s'=>r.1=qx/\s'=s/\∀ y∈bS,∃ k' b',y=.ref b'/\IsTupleKey knd s.heap k' b') _ ?_ ?_ _ _ ⟨rfl,rfl,hs⟩
 .rintro y bS r s' ⟨hr,rfl,hall⟩;let(k',b',rfl,hk'):=hall y xAc;have rest':∀ y∈bS,∃ k' b',y=.ref b'/\IsTupleKey knd s'.heap k' b':=λ u hu=>hall u (xAf _ hu)
  dsimp only;split
  .exact wP (rfl,rfl,rest',)
  .refine wB (wpAny_eqIsQuiet_tuple hk ?_);simp only[yFz,yAm,if_false];refine wB (wpAny_eqIsQuiet_tuple hk' ?_);simp only[yFz,yAm,if_false];refine wB (aJI hk ?_);simp only[yAm,if_false];refine wB (aJI hk' ?_);simp only[yAm,if_false];exact wP (rfl,rfl,rest',)
 .rintro ⟨r1,r2⟩ s' ⟨hr,rfl,_⟩;simp only at hr;subst hr;exact wP h
def aPN{prog:zq}{w:zj}{knd:KeyKind prog w K}{a b:qw}{k:List K}{h:Int}{o:Obj}{es:Array (Int×qj)}{ep:Nat}{t:SetTable}{Q:SetFound->qv->Prop}(hr:A.units<cLine)(hk:IsTupleKey knd s.heap k b)(ho:s.heap.get? a=qz o)(hd:o.data=.set es ep t)(ht:TOk t es.size)(he:∀ e∈es.toList,∃ (k':List K) (b':qw),e.2=.ref b'/\IsTupleKey knd s.heap k' b'/\k'≠k)(hQ:∀ j,Q (.free j false) s):∀ (n fuel:Nat) (p:SetTable.Probe) (stand:Option SetTable.Probe),stand.getD (t.probeStart h)=p->n<fuel->n<=10*(t.mask+14)->p.dummy=qx->t.slot (iR t n p).j=.empty->qu (model prog w) A (setSearchFrom a (.ref b) h true fuel stand) Q E s:=λ n=>by
 induction n using Nat.strongRecOn with
 |ind n ih=>
   intro fuel p stand hp hf hn hdm hem;cases fuel with
   |zero=>exact absurd hf (yBq n)
   |succ fuel=>
     unfold setSearchFrom;refine wB (wpAny_setState_of ho hd ht.fits ?_);dsimp only;have gw:t.gaveWay=false:=by
      unfold SetTable.gaveWay;rcases ht.m with e|e|e|e<;>rw[e]<;>rfl
     rw[gw,hp];simp only[yAm,if_false];generalize hx:t.probe _ h p=x;obtain⟨met,rfl,hc⟩:∃ met,x=qz met/\((∃ j,met=.empty j qx)\/∃ j i q k,met=.candidate j i q/\t.slot j=.live i/\t.place[i]?=qz j/\q.dummy=qx/\k<n/\t.slot (iR t k q).j=.empty):=by
      rw[<- hx];exact aLX ht.d _ h n p _ hdm hem (by unfold SetTable.turns;omega)
     refine wB (wP ?_);rcases hc with ⟨j,rfl⟩|⟨j,i,q,k1,rfl,a2,a3,a4,a5,a6⟩
     .exact wP (hQ j)
     .have hi:i<es.size:=by
       have:=(Array.getElem?_eq_some_iff.mp a3).1;rw[ht.s] at this;exact this
      have hy:es[i]?=qz es[i]:=Array.getElem?_eq_getElem hi;let(k',b',e2,hk',ne):=he es[i] (Array.getElem_mem_toList hi);have tail:qu (model prog w) A (do
       let qz (_,y):=es[i]? | unsupported "internal:set-entry"
       let equal <- holding [y] (eqBool y (.ref b));let (es',_,t') <- setState a
       if true&&equal then return .there qx
       let qz same:=t'.sameMemory t.moves t.mask|unsupported "set.changed-during-lookup:is-the-new-block-at-the-old-address"
       let still <- match (if same then t'.slot j else .empty) with
        |.live i'=>match es'[i']? with
          |some (_,y')=>do pure (if <- isSame y' y then qz i' else qx)
          |none=>pure qx
        |_=>pure qx
       match still with
       |none=>rule "set.search.anew";setSearchFrom a (.ref b) h true fuel qx
       | some i'=>if equal then return .there (qz i') else setSearchFrom a (.ref b) h true fuel (qz q)) Q E s:=by
       generalize es[i]=e at hy e2;let(h0,y):=e;have e2:y=.ref b':=e2;subst e2;rw[hy];dsimp only;refine wB (zw ((tupleKind knd).eqBool hr hk' hk ?_));rw[dqF ne];refine wB (wpAny_setState_of ho hd ht.fits ?_);have sm:t.sameMemory t.moves t.mask=qz true:=by
        unfold SetTable.sameMemory;rw[if_pos (beq_self_eq_true _)]
       dsimp only;rw[sm];simp only[yCu,yAm,if_false,if_true,a2];rw[hy];dsimp only;refine wB (wpAny_isSame_ref_self ?_);rw[if_pos rfl];refine wB (wP ?_);dsimp only;exact ih k1 a5 fuel q (qz q) rfl (!_) (!_) a4 a6
      dsimp only;cases hl:t.led with
      |true=>
        exact tail
      |false=>
        refine wB (aSg hk _ (λ y hy=>?_) ?_)
        .let(e,h1,rfl):=List.mem_map.mp hy;let(k2,b2,g1,g2,_):=he e (Array.mem_toList_iff.mpr (Array.mem_filter.mp (Array.mem_toList_iff.mp h1)).1);exact(k2,b2,g1,g2,)
        .simp only[yAm,if_false];exact tail
def aY6(h:carriedByValue v=true):∃ b,hashByValue d v=pure b:=by cases v<;>first|(cases h;done)|(cases d<;>exact(_,rfl,))
def aUz{prog:zq}{w:zj}{knd:KeyKind prog w K}{k:List K}{b:qw}{Q:Bool->qv->Prop}(hk:IsTupleKey knd s.heap k b)(h:∀ x,Q x s):qu (model prog w) A (hashByValue 8 (.ref b)) Q E s:=by
 have hT:=hk.typeIs;let(o,aN,n,ho,_,hd,hi):=hk;unfold hashByValue;refine wB (vj hT F.slot_tuple_hash.lookup ?_);dsimp only;refine wB (xy ho hd ?_);refine wB ?_;show qu _ _ (forIn aN _ _) _ _ s;rw[<- yHr];refine wpAny_forIn_list _ (λ bS r s'=>r.1=qx/\s'=s/\∀ v∈bS,carriedByValue v=true) _ ?_ ?_ _ _ ⟨rfl,rfl,hi.byValue⟩
 .rintro v bS r s' ⟨hr,rfl,hall⟩;let(b,e):=@aY6 _ 7 (hall v xAc);rw[e];refine wB (wP ?_);cases b with|true=>exact wP (rfl,rfl,λ u hu'=>hall u (xAf _ hu'),)|false=>exact wP (wP (h false))
 .rintro ⟨r1,r2⟩ s' ⟨hr,rfl,_⟩;simp only at hr;subst hr;exact wP (h true)
def mG{prog:zq}{w:zj}(knd:KeyKind prog w K)(B:qw->Prop)(h:Heap)(a:qw)(ks:List (List K)):Prop:=∃ o es ep t,h.get? a=qz o/\o.ExactSet/\o.data=.set es ep t/\TOk t es.size/\es.size=↑ks/\∀ e∈es.toList,∃ k'∈ks,∃ b',e.2=.ref b'/\B b'/\IsTupleKey knd h k' b'
def aHW{prog:zq}{w:zj}{knd:KeyKind prog w K}{h h':Heap}{k:List K}{a b:qw}{o:Obj}{es:Array (Int×qj)}{ep:Nat}{t:SetTable}(x:IsTupleKey knd h k b)(ho:h.get? a=qz o)(hd:o.data=.set es ep t)(hs:yCi a h h'):IsTupleKey knd h' k b:=by
 let(o',aN,n,ho',hc,hd',hi):=x;have hne:b≠a:=by
  rintro rfl;obtain rfl:o'=o:=Option.some.inj (ho'.symm.trans ho);rw[hd] at hd';exact nomatch hd'
 exact(o',aN,n,(hs.2 b hne).trans ho',hc,hd',hi,)
def aHI{α:Type}(xs:Array α)(p:Nat)(x:α):(SetTable.insertAt xs p x).size=xs.size+1:=by unfold SetTable.insertAt;simp;omega
def aIE{α:Type}{xs:Array α}{x y:α}(h:y∈(SetTable.insertAt xs p x).toList):y=x\/y∈xs.toList:=by
 unfold SetTable.insertAt at h;simp only[Array.toList_append,Array.toList_push,Array.toList_extract,List.mem_append,yFv] at h;rcases h with (h|h)|h
 .exact .inr (List.mem_of_mem_drop (List.mem_of_mem_take h))
 .exact .inl h
 .exact .inr (List.mem_of_mem_drop (List.mem_of_mem_take h))
def aVb(h:TOk t n)(j:Nat)(b:Bool):(t.put j).1.dummies = #[]/\(t.put j).1.place.size=n+1/\(t.put j).1.mask=t.mask:=by
 refine(?_,?_,rfl,)
 .show(if SetTable.has t.dummies j=true then _ else _)=_;rw[h.d];rfl
 .show(SetTable.insertAt t.place _ j).size=_;rw[aHI,h.s]
def aT3{es:Array (Int×qj)}{order:Array Nat}(h:∀ v∈order.toList,v<es.size):(order.filterMap (es[·]?)).size=order.size/\∀ e∈(order.filterMap (es[·]?)).toList,e∈es.toList:=by
 rw[Array.toList_filterMap];have k:∀ l:List Nat,(∀ v∈l,v<es.size)->(l.filterMap (es[·]?)).length=↑l:=λ l=>by
  induction l with
  |nil=>intro _;rfl
  |cons v l ih=>
    intro h;have hv:=h v xAc;rw[yCh,Array.getElem?_eq_getElem hv];dsimp only;rw[yAl,yAl,ih λ u hu=>h u (xAf _ hu)]
 refine(?_,λ e he=>?_,)
 .have:=k order.toList h;rw[<- yBm,Array.toList_filterMap,this,yBm]
 .let(v,_,h2):=List.mem_filterMap.mp he;exact Array.mem_toList_iff.mpr (Array.mem_of_getElem? h2)
def aQb{E:qj -> qv -> Prop}{s:qv}{Q:Unit->qv->Prop}(ho:s.heap.get? a=qz o)(hd:o.data=.set es ep t)(hf:t.fits es.size=true)(hm:SetTable.sizeAbove wanted-1=m)(hk:mL m)(hn:es.size*5<m*3)(hs:¬ SetTable.sizeAbove wanted>qk)(hQ:∀ (es':Array (Int×qj)) (t':SetTable),es'.size=es.size->(∀ e∈es'.toList,e∈es.toList)->TOk t' es.size->Q () {s with heap:=s.heap.update a (Obj.putSet es' t') }):qu (model prog w) A (setRelay a wanted) Q E s:=by
 unfold setRelay;refine wB (wpAny_setState_of ho hd hf ?_);dsimp only;rw[if_neg hs];let(t',order,h1,h2,h3,h4,h5):=aSz hk (es.map (·.1)) (n:=es.size) (by simp) hn t.finger (t.movedTo (SetTable.sizeAbove wanted-1)) t.led t.plain;have e:t.relaid (es.map (·.1)) wanted=qz (t',order):=by
  unfold SetTable.relaid;rw[hm];rw[hm] at h1;exact h1
 rw[e];let(g1,g2):=@aT3 es order h5;have hb:((order.filterMap (es[·]?)).size != es.size)=false:=by rw[g1,h4];simp
 refine wB ?_;show qu _ _ (if ((order.filterMap (es[·]?)).size != es.size)=true then _ else pure (order.filterMap (es[·]?),t')) _ _ _;rw[if_neg (by rw[hb];exact yAu)];refine wP ?_;have sz:(order.filterMap (es[·]?)).size<=qk:=by
  rw[g1,h4,zx];rcases hk with rfl|rfl|rfl|rfl<;>omega
 exact wpAny_storeSet_of ho hd (hQ _ _ (by rw[g1,h4]) g2 h2) sz
def aS2(h:mL m)(h1:n*5<m*3)(h2:m*3<=(n+1)*5)(h3:n+1<=300):∃ m',SetTable.sizeAbove (SetTable.grown (n+1))-1=m'/\mL m'/\(n+1)*5<m'*3/\¬ SetTable.sizeAbove (SetTable.grown (n+1))>qk:=by
 rw[zx];rcases h with rfl|rfl|rfl|rfl
 .obtain rfl:n=4:=by omega
  exact(31,by decide,.inr (.inl rfl),by decide,by decide,)
 .obtain rfl:n=18:=by omega
  exact(127,by decide,.inr (.inr (.inl rfl)),by decide,by decide,)
 .obtain rfl:n=76:=by omega
  exact(511,by decide,.inr (.inr (.inr rfl)),by decide,by decide,)
 .omega
def aTf{prog:zq}{w:zj}{knd:KeyKind prog w K}{B:qw->Prop}{a b:qw}{k:List K}{ks:List (List K)}{Q:Bool->qv->Prop}(hr:A.units<cLine)(hk:IsTupleKey knd s.heap k b)(hB:B b)(hs:mG knd B s.heap a ks)(hn:k ∉ ks)(hl:↑ks+1<=300)(hQ:∀ h' n,yCi a s.heap h'->mG knd B h' a (k::ks)->Q true {s with heap:=h',toks:=s.toks+n }):qu (model prog w) A (setAdd a (.ref b)) Q E s:=by
 unfold setAdd;refine zw (wB ((tupleKind knd).pyHash hr hk ?_));generalize (tupleKind knd).draws k=n;generalize (tupleKind knd).hash k=h;let(o,es,ep,t,ho,hx,hd,ht,hz,he):=hs;unfold setAddHashed;refine zw ?_;show qu _ _ (setAddHashedIn a (.ref b) h (99999+1)) _ _ _;unfold setAddHashedIn;refine wB (wpAny_setState_of (s:={s with toks:=s.toks+n }) ho hd ht.fits ?_);dsimp only;rw[show byScan (.ref b) es=false from rfl];simp only[yAm,if_false];let(k0,g1,g2,g3):=aQZ ht h;refine wB (aPN (s:={s with toks:=s.toks+n }) hr hk ho hd ht (λ e hm=>?_) (λ j=>?_) k0 100000 (t.probeStart h) qx rfl ?_ g1 g2 g3)
 .let(k',m1,b',m2,m3):=he e hm;exact(k',b',m2,m3.2,λ z=>hn (z▸m1),)
 .dsimp only;refine wB (wpAny_setState_of (s:={s with toks:=s.toks+n }) ho hd ht.fits ?_);dsimp only;let(p1,p2,p3):=aVb ht j true;generalize hP:t.put j=P at p1 p2 p3;let(t1,pos):=P;have p1:t1.dummies = #[]:=p1;have p2:t1.place.size=es.size+1:=p2;have p3:t1.mask=t.mask:=p3;have sz:(SetTable.insertAt es pos (h,Value.ref b)).size=es.size+1:=aHI _ _ _;have cG:∀ (h':Heap) (ep':Nat) (es':Array (Int×qj)) (t':SetTable) (o':Obj),yCi a s.heap h'->h'.get? a=qz o'->o'.ExactSet->o'.data=.set es' ep' t'->TOk t' es'.size->es'.size=es.size+1->(∀ e∈es'.toList,e=(h,Value.ref b)\/e∈es.toList)->mG knd B h' a (k::ks):=λ h' ep' es' t' o' a1 a2 a3 a4 a5 a6 a7=>by
   refine(o',es',ep',t',a2,a3,a4,a5,by rw[a6,hz,yAl],λ e m=>?_,);rcases a7 e m with rfl|m
   .exact(k,xAc,b,rfl,hB,aHW hk ho hd a1,)
   .let(k',m1,b',m2,m3):=he e m;exact(k',xAf _ m1,b',m2,m3.1,aHW m3.2 ho hd a1,)
  have tail:∀ t2:SetTable,t2.dummies = #[]->t2.place.size=es.size+1->t2.mask=t.mask->qu (model prog w) A (do
   storeSet a (SetTable.insertAt es pos (h,Value.ref b)) t2
   if (!false&&t2.tooFull)=true then do
    setRelay a (SetTable.grown (es.size+1))
    pure true
   else pure true) Q E {s with toks:=s.toks+n }:=λ t2 q1 q2 q3=>by
   have fl:t2.fill=es.size+1:=by
    unfold SetTable.fill;rw[q2,q1];rfl
   have hm:=ht.m;have hf:=ht.f;have szl:(SetTable.insertAt es pos (h,Value.ref b)).size<=qk:=by
    rw[sz,zx];omega
   refine wB (wpAny_storeSet_of (s:={s with toks:=s.toks+n }) ho hd ?_ szl);have u1:=yBx (h:=s.heap) (Obj.putSet (SetTable.insertAt es pos (h,Value.ref b)) t2) ho (by rw[putSet_of _ _ hd];rfl);rw[putSet_of _ _ hd] at u1;have u2:=Heap.SameBut.update s.heap a (Obj.putSet (SetTable.insertAt es pos (h,Value.ref b)) t2);generalize s.heap.update a (Obj.putSet (SetTable.insertAt es pos (h,Value.ref b)) t2)=h1 at u1 u2;by_cases full:t2.tooFull=true
   .rw[if_pos (by rw[full];rfl)];have g:t.mask*3<=(es.size+1)*5:=by
     unfold SetTable.tooFull at full;rw[fl,q3] at full;exact oqT full
    let(m',w1,w2,w3,w4):=aS2 hm hf g (!_);refine wB (aQb (s:={s with heap:=h1,toks:=s.toks+n }) (t:=t2) (es:=SetTable.insertAt es pos (h,Value.ref b)) u1 rfl ?_ w1 w2 (by rw[sz];exact w3) w4 λ es' t' v1 v2 v3=>wP (hQ _ _ (u2.trans (Heap.SameBut.update _ _ _)) ?_))
    .rw[sz];unfold SetTable.fits;rw[fl,q2,q3];have:es.size+1<=t.mask:=by rcases hm with e|e|e|e<;>rw[e] at hf ⊢ <;> omega
     simp[this]
    .refine cG _ (ep+1+1) es' t' {o with data:=.set es' (ep+1+1) t' } (u2.trans (Heap.SameBut.update _ _ _)) ?_ hx rfl (by rw[v1];exact v3) (by rw[v1,sz]) λ e m=>aIE (v2 e m)
     have:=yBx (h:=h1) (Obj.putSet es' t') u1 (by rw[putSet_of _ _ rfl];rfl);rw[putSet_of _ _ rfl] at this;exact this
   .rw[if_neg (full:)];refine wP (hQ _ _ u2 (cG _ _ _ _ _ u2 u1 hx rfl (by rw[q3];exact hm,q1,by rw[q2,sz],?_,) sz λ e m=>aIE m));unfold SetTable.tooFull at full;rw[fl,q3] at full;rw[sz,q3];have:=of_decide_eq_false (Bool.eq_false_iff.mpr full);omega
  cases hp:t1.plain with
  |true=>
    rw[if_pos rfl];refine wB (aUz (s:={s with toks:=s.toks+n }) hk λ y=>?_);cases y with
    |true=>exact tail t1 p1 p2 p3|false=>exact tail _ p1 p2 p3
  |false=>
    rw[if_neg yAu];refine wB (wP ?_);exact tail t1 p1 p2 p3
 .rcases ht.m with e|e|e|e<;>rw[e] at g1<;>omega
def mG.keep{prog:zq}{w:zj}{knd:KeyKind prog w K}{B:qw->Prop}{h h':Heap}{a:qw}{ks:List (List K)}(x:mG knd B h a ks)(ha:∀ o,h.get? a=qz o->h'.get? a=qz o)(hb:∀ b o,B b->h.get? b=qz o->h'.get? b=qz o):mG knd B h' a ks:=by let(o,es,ep,t,ho,hx,hd,ht,hz,he):=x;refine(o,es,ep,t,ha o ho,hx,hd,ht,hz,λ e m=>?_,);let(k',m1,b',m2,m3,o',it,n,g1,g2):=he e m;exact(k',m1,b',m2,m3,o',it,n,hb b' o' m3 g1,g2,)
def aXJ{prog:zq}{w:zj}{knd:KeyKind prog w K}{R:Result->qv->Prop}{I:qw}{fp wr:List qw}{G:Array GenState->Array GenState->Prop}{n:Nat}{P:Nat->qj->Prop}{St:Nat->qv->Prop}(W:WalksS prog w A.in1 I fp wr G n P St)(S:qw)(hSf:S ∉ fp){B:qw->Prop}(hB:∀ b,B b->b ∉ S::wr)(hr:A.units+1<cLine)(val:Nat->List K)(hv:∀ i j,i<j->j<n->val i≠val j)(hn:n<=300):∀ (k i:Nat) (s:qv) (ks:List (List K)),n-i=k->i<=n->St i s->mG knd B s.heap S ks->↑ks=i->(∀ k∈ks,∃ j,j<i/\val j=k)->(∀ j v,P j v->∃ b,v=.ref b/\B b/\IsTupleKey knd s.heap (val j) b) ->
 (∀ s' ks',Moved (S::wr) G s s'->mG knd B s'.heap S ks'->ks'.length=n->R (.ok (.ret .none)) s') ->
 jj (model prog w) A (.builtin "set.update.loop" ([.ref S,.ref I],[],)) R s:=by
 have hSw:S ∉ wr:=λ h=>hSf (W.sub _ h)
 have hsub:∀ b∈wr,b∈S::wr:=λ b hb=>xAf _ hb
 have hBw:∀ b,B b->b ∉ wr:=λ b h1 h2=>hB b h1 (hsub b h2)
 intro k
 induction k with
 |zero=>
   intro i s ks hk hi hst hS hl hks hP hR;obtain rfl:i=n:=by omega
   refine codeAny_builtin F.entry_set_update_loop ?_;rw[Around.under_plainId F.plain_set_update_loop _];show qu _ A.in1 (ww (.ref I) >>= _) _ _ s;refine wB (W.done s _ _ hst λ s' hm=>?_);show qu _ A.in1 (ret Value.none) _ _ s';exact wP (hR s' ks (hm.mono hsub) (hS.keep (λ o e=>hm.heap S o hSw e) λ b o hb e=>hm.heap b o (hBw b hb) e) hl)
 |succ k ih=>
   intro i s ks hk hi hst hS hl hks hP hR;have hlt:i<n:=by omega
   refine codeAny_builtin F.entry_set_update_loop ?_;rw[Around.under_plainId F.plain_set_update_loop _];show qu _ A.in1 (ww (.ref I) >>= _) _ _ s;refine wB (W.item i s _ _ hlt hst λ v s' hPi hst' hm=>?_);let(b,rfl,hb,kb):=hP i v hPi;have kk:∀ {c:qw}{x:List K},B c->IsTupleKey knd s.heap x c->IsTupleKey knd s'.heap x c:=λ hc ⟨o',it,m,g1,g2⟩=>(o',it,m,hm.heap _ o' (hBw _ hc) g1,g2,)
   have hS':mG knd B s'.heap S ks:=hS.keep (λ o e=>hm.heap S o hSw e) λ b o hb e=>hm.heap b o (hBw b hb) e
   show qu _ A.in1 (holding [Value.ref b] (setAdd S (.ref b)) >>= _) _ _ s';refine wB (zw ?_);refine aTf hr (kk hb kb) hb hS' (λ m=>?_) (!_) λ h' m hsb hS2=>?_
   .let(j,g1,g2):=hks _ m;exact hv j i g1 hlt g2
   .refine wP (plainId_quiet F.plain_set_update_loop _,ih (i+1) _ (val i::ks) (!_) hlt (W.frame _ s' _ _ hst' (yBz _ _) λ b hb o e=>?_) hS2 (by rw[yAl,hl]) (λ x mx=>?_) (λ j v hj=>?_) λ s'' ks' hm'' hS''=>hR s'' ks' (Moved.trans W.gtrans ((hm.mono hsub).then_heap (yBz _ _) λ b o hb e=>?_) hm'') hS'',)
    .rw[hsb.2 b (λ h:b=S=>hSf (by rw[<- h];exact hb))];exact e
    .rcases List.mem_cons.mp mx with rfl|mx
     .exact(i,yBa _,rfl,)
     .let(j,g1,g2):=hks x mx;exact(j,yEd g1,g2,)
    .let(c,g1,g2,g3):=hP j v hj;refine(c,g1,g2,?_,);let(o',it,m,e1,e2):=kk g2 g3;exact(o',it,m,(hsb.2 c λ h=>hB c g2 (h▸xAc)).trans e1,e2,)
    .rw[hsb.2 b (λ h:b=S=>hb (by rw[h];exact xAc))];exact e
noncomputable abbrev kP(led:Bool):Obj:={cls:=.type "set",dict:=qx,data:=.set #[] 0 (.fresh 0 0 led) }
def aRu{A:zv}{E:qj -> qv -> Prop}{s:qv}{Q:qj->qv->Prop}(hi:∀ led:Bool,qu (model prog w) A.in1.in1 (Builtin.«set.__init__» ⟨[.ref s.heap.objs.size,v],[]⟩) (bAk prog w A.in1 (wants (λ r s2=>r=.none/\Q (.ref s.heap.objs.size) s2) E)) (λ e s'=>wants (λ r s2=>r=.none/\Q (.ref s.heap.objs.size) s2) E (.error e) s') {s with heap:=s.heap.push (kP led) }) :
 qu (model prog w) A (call (.type "set") [v]) Q E s:=by
 have T:=F.called_set;have g1:=T.made;have g2:=T.sub;have g3:=T.notType;have g4:=T.canCreate;have g5:=T.init.lookup;have g6:=T.init.bind (.ref s.heap.objs.size);have g7:=F.typeCall_set_1 v;let(_,_,g8):=T.mro;refine wpAny_call (codeAny_of_tree ?_);show qu _ _ (callAny (.type "set") _) _ _ _;refine wP (Code.quiet_builtin _ (by decide +kernel),codeAny_builtin F.entry_type_call ?_,);rw[Around.under_plain (weight_type_call_type "set" [v] []) rfl]
 repeat (any_goals (first|assumption|wp_step))
 refine codeAny_mono (code_set_new_1 v (E:=E) (Q₁:=λ ob s1=>∃ led:Bool,ob=.ref s.heap.objs.size/\s1={s with heap:=s.heap.push (kP led) }) λ led=>(led,rfl,rfl,)) λ r s1 hr=>?_
 rcases r with e|f
 .exact hr
 cases f with
 |ret ob=>
   let(led,rfl,rfl):=hr;have hT:Shared.TypeIs {s with heap:=s.heap.push (kP led) } (.ref s.heap.objs.size) "set":=(_,xAd _ rfl,rfl,)
   repeat (any_goals (first|assumption|wp_step))
   refine codeAny_mono (codeAny_call_builtin T.init.plain F.entry_set_init (check_set_init_1 hT (hi led))) λ r s2 hr=>?_
   rcases r with e|f
   .exact hr
   cases f with
   |ret r=>
     let(rfl,hq):=hr
     repeat (any_goals (first|assumption|wp_step))
   |_=>exact hr.elim
 |_=>exact hr.elim
def aQJ{prog:zq}{w:zj}{knd:KeyKind prog w K}{l:qw}{aN:Array qj}{val:Nat->List K}{Q:qj->qv->Prop}(hh:A.handled=qx)(hr:A.units+3<cLine)(hl:s.heap.IsList l aN)(hk:∀ i v,aN[i]?=qz v->∃ b,v=.ref b/\IsTupleKey knd s.heap (val i) b)(hv:∀ i j,i<j->j<aN.size->val i≠val j)(hn:aN.size<=300)
 (hQ:∀ h' tk ks,mG knd (· < s.heap.objs.size) h' s.heap.objs.size ks->↑ks=aN.size->(∀ b o,b<s.heap.objs.size->s.heap.get? b=qz o->h'.get? b=qz o)->Q (.ref s.heap.objs.size) {s with heap:=h',toks:=tk }) :
 qu (model prog w) A (call (.type "set") [.ref l]) Q E s:=by
 refine aRu λ led=>?_
 have hS:(s.heap.push (kP led)).get? s.heap.objs.size=qz (kP led):=xAd _ rfl;have hT:Shared.TypeIs {s with heap:=s.heap.push (kP led) } (.ref s.heap.objs.size) "set":=(_,hS,rfl,);have hl1:(s.heap.push (kP led)).IsList l aN:=hl.push _;have hTl:Shared.TypeIs {s with heap:=s.heap.push (kP led) } (.ref l) "list":=hl1.typeIs;have hlt:l<s.heap.objs.size:=by
  let(o,ho,_):=hl;exact xAa ho
 have hsls:=F.sub_list_set;have hslf:=F.sub_list_frozenset;have hne:(Value.type "list" == Value.type "dict")=false:=by decide
 unfold Builtin.«set.__init__» noKeywords Builtin.Frozenset.updateFrom;generalize hPI:pyIter=PI
 wp_walk
 subst hPI;refine jk hl1 ?_;refine wB (wpAny_runValue ?_);have sz:(s.heap.push (kP led)).objs.size=s.heap.objs.size+1:=yFe _ _;have hh3:A.in1.in1.in1.handled=qx:=hh;have hneI:l≠(s.heap.push (kP led)).objs.size:=xAj (by rw[sz];exact yEd hlt);refine aXJ (knd:=knd) (B:=(· < s.heap.objs.size)) ((Walks.list hh3 _ l hneI aN).toS) s.heap.objs.size ?_ (λ b hb m=>?_) hr val hv hn aN.size 0 _ [] (yIp _) (yDa _) ((_,xAd _ rfl,rfl,rfl,),hl1.push _,) ?_ rfl (λ _ m=>nomatch m) (λ j v hj=>?_) ?_
 .rw[sz];simp only[yBg,yBb,or_false,not_or];exact(xAj (yBa _),yFm hlt,)
 .rw[sz] at m;simp only[yBg,yBb,or_false] at m;rcases m with rfl|rfl
  .exact yBl _ hb
  .exact yBl _ (yEh (yBa _) hb)
 .exact(kP led,#[],0,.fresh 0 0 led,hpS _ hS,(rfl,rfl,rfl,),rfl,(.inl rfl,rfl,rfl,show 0*5<7*3 by decide,),rfl,λ e m=>by simp at m,)
 .let(b,rfl,o,it,n,ho,g):=hk j v hj;exact(b,rfl,xAa ho,o,it,n,hpS _ (hpS _ ho),g,)
 .intro s' ks' hm hS' hl';let(h',g',d',tk',os'):=s';have eg:g'=s.gens:=hm.gens;have ed:d'=s.drawn:=hm.drawn;have eo:os'=s.os:=hm.os;subst eg ed eo;refine wP ?_;show qu _ _ (ret Value.none) _ _ _;refine wP (rfl,hQ h' tk' ks' hS' hl' λ b o hb e=>hm.heap b o (λ m=>?_) (hpS _ (hpS _ e)),);rw[sz] at m;simp only[yBg,yBb,or_false] at m;rcases m with rfl|rfl
  .exact yBl _ hb
  .exact yBl _ (yEh (yBa _) hb)
end
def sZ:List D->Option (List (List aZ))
 |[]=>qz []|.tuple ds::r=>(gU ds).bind λ k=>(sZ r).map (k :: ·)|_=>qx
def aCF:∀ {ds:List D}{xs:List V}{k:List aZ},DenL K F ds xs->gU ds=qz k->xs=k.map kV
 |_,_,_,.nil,e=>by cases e;rfl
 |_,_,_,.cons a t,e=>by
   cases a with
   |int i=>
     let(l,e1,rfl):=map_some (show(gU _).map _=_ from e);rw[aCF t e1];rfl
   |str x=>
     let(l,e1,rfl):=map_some (show(gU _).map _=_ from e);rw[aCF t e1];rfl
   |_=>cases e
def aHi:∀ {ds:List D}{xs:List V}{ks:List (List aZ)},DenL K F ds xs->sZ ds=qz ks->↑ks=↑xs/\∀ (i:Nat) x,xs[i]?=qz x->∃ b,x=.ref b/\cE K F b ((ks.getD i []).map kV)
 |_,_,_,.nil,e=>by cases e;exact(rfl,λ i x h=>by simp at h,)
 |_,_,_,.cons a t,e=>by
   cases a with
   |tup h1 h2=>
     let(k,e1,e):=aJ (show(gU _).bind _=_ from e);let(l,e2,rfl):=map_some e;let(g1,g2):=aHi t e2;refine(by rw[yAl,yAl,g1],λ i x h=>?_,);cases i with
     |zero=>
       cases h;rw[aCF h2 e1] at h1;exact(_,rfl,h1,)
     |succ i=>exact g2 i x h
   |_=>cases e
def aSy{xs:List V}(h:aT xs us):∀ {i:Nat}{u:qj},us[i]?=qz u->∃ x,xs[i]?=qz x/\aU x u:=by
 induction h with
 |nil=>intro i u h;simp at h
 |cons a t ih=>
   intro i u h;cases i with
   |zero=>cases h;exact(_,rfl,a,)|succ i=>exact ih h
def aA1(fa:FE):FE:=λ env S=>(fa env S).bind λ p=>(dr p.2 p.1).bind λ d=>match d with
 |.list xs=>(sZ xs).bind λ ks=>if ks.Nodup/\↑ks<=300 then qz (.d (.int ↑ks),p.2) else qx
 |_=>qx
def aVq{fa:FE}(ha:PE X a (aP X.K fa))(hc:X.calm=true)(hu:X.A.units+3<cLine)(hg:Gl X "len")(hm:X.mg "len" = qx)(hg2:Gl X "set")(hm2:X.mg "set" = qx)(hs:qo [a] X.env=[(false,eval a X.env)]):PE X (.Call (.Name "len" p) [.Call (.Name "set" p2) [a] [] pos2] [] pos) (aP X.K (aA1 fa)):=by
 rintro aB s σ H Q I ⟨F,L,S,env,w,S',R,E,e,q⟩;let((w1,S1),e1,e):=aJ e;let(d,e2,e):=aJ e;dsimp only at e e2;cases d with
 |list zs=>
   let(ks,e3,e):=aJ e;split at e
   .rename_i nd;cases e;refine zo (lL I hg hm (show jx "len" = qz (.builtin "len") by decide +kernel) ?_);refine yGo (e:=.Call (.Name "set" p2) [a] [] pos2) ?_ rfl rfl;show qu _ _ (spliced ((false,eval (.Call (.Name "set" p2) [a] [] pos2) X.env)::[])) _ _ s;refine Calls.spliced_cons ?_;refine zo (lL I hg2 hm2 (show jx "set" = qz (.type "set") by decide +kernel) ?_)
    refine yBc ?_ hs rfl;refine bA (kF ha aBb hs pos2 aB s σ H (λ vs H1=>∃ v F1 L1,vs=[v]/\Gr F L F1 L1/\Rel X.K F1 L1 S' H1/\dH X.K F1 L1 w1 v) I ⟨F,L,S,env,[w1],S',R,E,by unfold cL;rw[e1];rfl,λ F1 L1 H1 vs g1 R1 d1=>by
     cases d1 with
     | cons d0 dr=>cases dr;exact(_,F1,L1,rfl,g1,R1,d0,)⟩) λ us s1 ⟨vs,H1,I1,r1,v,F1,L1,ev,g1,R1,d1⟩=>?_
    subst ev;let(u,rfl,ru):=lX r1;let(l,xs,rfl,sq,dl):=(jJ R1 d1 e2).lst R1.sub;cases ru;let(aG,rv,pl,hz):=I1.list sq;let(k1,k2):=aHi dl e3;have il:aG.toArray.size=↑ks:=by rw[yAh,<- rv.length,k1]
    refine aQJ (knd:=eU X.prog X.w) (val:=λ i=>ks.getD i []) (I.ok.hd hc) hu pl.isList (λ i v h=>?_) (λ i j h1 h2=>?_) (by rw[il];exact nd.2) λ h' tk ks' hS hl' kp=>?_
    .let(x,x1,x2):=aSy rv (by rw[<- List.getElem?_toArray];exact h);let(b,rfl,x3):=k2 i x x1;cases x2;let(us,r2,(o,o1,o2,n,o3),_):=I1.tuple (kI R1.sub x3);exact(b,rfl,o,us.toArray,n,o1,o2,o3,by simpa using aCN r2,)
    .rw[il] at h2;have:=List.pairwise_iff_getElem.mp nd.1 i j (yEh h1 h2) h2 h1;simpa [xAg,yAa h2,yAa (yEh h1 h2)] using this
    .refine Calls.spliced_nil ?_;let(o,es,ep,t,ho,hx,hd,ht,hz,_):=hS;refine call_len_set ho hx hd ht.fits (by rw[hz,hl',il];omega) ?_;refine(.int ↑ks,H1,(I1.kept (h':=h') (t':=_) λ b o eo=>kp b o (xAa eo) eo),(_,by rw[hz,hl',il],),q F1 L1 H1 _ g1 R1 (.int _),)
   .cases e
 |_=>cases e
def aTu(l b:qw)(aG iS:Array qj)(n n2:Nat)(o:Obj)(hz:aG.size+iS.size<=qk):Meets (Builtin.«list.extend» ([.ref l,.ref b],[],)) (λ _ R s=>s.heap.get? l=qz {cls:=.type "list",dict:=qx,data:=.seq aG n,slots:=#[] }/\(s.heap.get? b=qz o/\o.cls=.type "tuple" /\ o.data=.seq iS n2)/\R (.ok (.ret Value.none)) {s with heap:=s.heap.update l (Obj.mapSeq λ x=>x++iS),toks:=s.toks }):=
 .of_wp λ prog w A R s h=>by
  let(hl,(hb,hc,hd),h):=h;have hT:s.TypeIs (.ref b) "tuple":=(o,hb,hc,);show qu _ _ (yBy (.ref l) (.ref b) .none) _ _ _;unfold yBy;refine wB (wpAny_typeOf hT ?_);rw[if_pos (by rw[show(Value.type "tuple" == Value.type "tuple")=true by decide,yGp])];unfold yGh;refine wB (wB (xy hb hd (wP ?_)));refine wB (wB (xy hl rfl (wP ?_)));rw[aQl hz,yCu];simp only[yAm,if_false];show qu _ _ (updateSeq l (· ++ iS) >>= λ _=>ret Value.none) _ _ _;refine wB (jw hl rfl ?_ (hz:=by omega) (_hz':=by rw[Array.size_append];omega));exact wP (_,rfl,h,)
def aM3(K:FrG):V->List V->Hp->VK->Prop:=λ x vs H Q=>∃ l b xs zs,x=.ref l/\vs=[.ref b]/\H l=qz (.lst xs)/\cE K H b zs/\↑xs+↑zs<=qk/\Q .non (bB H l (.lst (xs++zs)))
def aV6:MtM X "list.extend" (aM3 X.K):=by intro aB s σ H x vs v us Q I rx rv h;let(l,b,xs,zs,rfl,rfl,hH,hB,hz,q):=h;cases rx;let(u,rfl,ru):=rv.one;cases ru;let(z,aG,n,r,hl,e):=I.lstM hH;let(iS,r2,(o,o1,o2,n2,o3),z2):=I.tuple hB;have hl2:=r2.length;refine xo F.slot_list_extend (_,e,rfl,) F.entry_list_extend (F.args_list_extend_2 _ _) (aTu l b aG.toArray iS.toArray n n2 o (by rw[yAh,yAh];omega)) (e,(o1,o2,o3,),?_,);exact(.non,_,I.lset (its':=aG++iS) hH e (by simp) (r.append r2) (by rw[xAn];exact hz),rfl,q,)
def aBN(S:aC):W->W->Option (W×aC)
 |.loc n,.d (.tuple es)=>match S[n]? with
   |some (qz ds)=>if ↑ds+↑es<=qk then qz (.d .none,S.set n (qz (ds++es))) else qx
   |_=>qx
 |_,_=>qx
def aPp(h:aBN S o x=qz (w,S')):∃ n es ds,o=.loc n/\x=.d (.tuple es)/\S[n]?=qz (qz ds)/\↑ds+↑es<=qk/\w=.d .none/\S'=S.set n (qz (ds++es)):=by
 unfold aBN at h;split at h
 .split at h
  .rename_i ds e;split at h
   .rename_i hz;cases h;exact(_,_,_,rfl,rfl,e,hz,rfl,rfl,)
   .cases h
  .cases h
 .cases h
def aBH(fo fe:FE):FE:=f2 fo fe aBN
def aZm{fo fe:FE}(σ:L2.St)(H:Hp)(Q:VK)(h:aP K (aBH fo fe) σ H Q):yV K "list" (aM3 K) (aP K fo) (dQ K (cL fe gG)) σ H Q:=by
 let(F,L,S,env,w,S',R,E,e,q):=h;let((wo,S1),e1,e):=aJ e;let((we,S2),e2,e):=aJ e;let(n,es,ds,rfl,rfl,e5,hz,rfl,rfl):=aPp e;refine(F,L,S,env,_,S1,R,E,e1,λ F1 L1 H1 o g1 R1 d1=>?_,);let(a,ea,rfl):=d1;refine(.inl (rfl,?_,),F1,L1,S1,env,[.d (.tuple es)],S2,R1,E.mono g1,?_,λ F2 L2 H2 vs g2 R2 d2=>?_,)
 .let(xs,hx):=R1.trl ea;exact(xs,bT.of hx,)
 .unfold cL;rw[e2];rfl
 .cases d2 with
  |cons dd dr=>
    cases dr;cases (show Den K F2 (.tuple es) _ from dd) with
    |tup sq dt=>
      have ea2:=g2.get ea;let(fa,xs,ha,dl):=R2.loc n a ds ea2 e5;exact(a,_,xs,_,rfl,rfl,ha,kI R2.sub sq,by rw[<- dl.length,<- dt.length];exact hz,q F2 L2 _ _ (g1.trans g2) (R2.put ea2 fa (dl.append dt)) Den.non,)
def pS(fa:FE)(fl fh:FO):FE:=λ env S=>(fa env S).bind λ p=>(fl env p.2).bind λ q=>(fh env q.2).bind λ r=>(dr r.2 p.1).bind λ d=>match d with|.list xs=>qz (.d (.list (fJ xs q.1 r.1)),r.2)|.tuple xs=>qz (.d (.tuple (fJ xs q.1 r.1)),r.2)|_=>qx
def iE(fa:FE):FL:=λ env S=>(fa env S).bind λ p=>match p.1 with|.d (.list ds)=>qz (ds,p.2)|.d (.tuple ds)=>qz (ds,p.2)|_=>qx
def aZC{lo hi:Option qy}{fa:FE}{fl fh:FO}(ha:PE X a (aP X.K fa))(hl:PO X lo (mE X.K fl))(hh:PO X hi (mE X.K fh)):PE X (.Subscript a (.Slice lo hi qx p2) pos) (aP X.K (pS fa fl fh)):=by
 rintro aB s σ H Q I ⟨F,L,S,env,w,S',R,E,e,q⟩;let((w1,S1),e1,e):=aJ e;let((l,S2),e2,e):=aJ e;let((h,S3),e3,e):=aJ e;let(d,e4,e):=aJ e;dsimp only at e e2 e3 e4;cases d with
 |list xs=>
   cases e;refine aM8 (aYy ha hl hh) aB s σ H Q I (F,L,S,env,_,_,R,E,?_,q,);unfold kW aMI;rw[e1];dsimp only[yDj];rw[e2];dsimp only;rw[e3];dsimp only;rw[e4];rfl
 |tuple xs=>
   cases e;refine aT6 ha hl hh aB s σ H Q I (F,L,S,env,_,_,R,E,?_,q,);unfold aLE;rw[e1];dsimp only[yDj];rw[e2];dsimp only;rw[e3];dsimp only;rw[e4];dsimp only[aMN]
 |_=>cases e
def aZU{fa:FE}(ha:PE X a (aP X.K fa)):PI X tg a (jG X.K (iE fa)):=by
 rintro aB s σ H Rr I ⟨F,L,S,env,ds,S',R,E,e,q⟩;let((w1,S1),e1,e):=aJ e;dsimp only at e;split at e
 .rename_i ds';cases e;refine aYv ha aB s σ H Rr I (F,L,S,env,_,_,R,E,?_,q,);unfold aMn;rw[e1];rfl
 .cases e;refine aXl ha aB s σ H Rr I (F,L,S,env,_,_,R,E,?_,q,);unfold aM6;rw[e1];rfl
 .cases e
inductive Ty where
 |int|bool|str|lst|tup
 deriving DecidableEq
def Ty.s:Ty->String
 |.int => "int" |.bool => "bool" |.str => "str" |.lst => "list" |.tup => "tuple"
def Ty.n:Ty->Str
 |.int => "int" |.bool => "bool" |.str => "str" |.lst => "list" |.tup => "tuple"
inductive B where
 |len|mx|mn|int|tup|sum
 deriving DecidableEq
def B.g:B->List D->Option D
 |.len=>mC|.mx=>pI|.mn=>kL|.int=>aEV|.tup=>qN|.sum=>aBK
def B.n:B->Str
 |.len => "len" |.mx => "max" |.mn => "min" |.int => "int" |.tup => "tuple" |.sum => "sum"
inductive E where
 |var (i:Nat)|int (i:Int)|bl (b:Bool)|non|str (x:Str)
 |bin (op:ju) (a b:E)|un (op:wq) (a:E)|cmp (op:jz) (a b:E)
 |and (a b:E)|or (a b:E)|ite (c a b:E)
 |tup (es:E)|lst (es:E)|nil|cons (a r:E)
 |con (x:Str) (ts:List Tv)
 |ix (a b:E)|tab (x:Str) (aI:List (Str×Tv)) (k:E)|sl (a lo hi:E)|no
 |call (f:Nat) (es:E)|blt (b:B) (es:E)|bits (a:E)|app (o a:E)|exd (o a:E)|lset (a:E)|idx (o a:E)
 |lof (a:E)|lzip (a b:E)|lrep (a b:E)|comp (elt:E) (t:Tg) (it:E) (cond:E)
 |it (a:E)|rng1 (a:E)|rng2 (a b:E)|rng3 (a b c:E)|zip (a b:E)|zip3 (a b c:E)
 |fz (a:E)|new (a:E)
 |fld (a:E) (f:Str)|mth (m:Str) (f:Nat) (o es:E)|mk (ini:List (Str×Ini)) (np:Nat) (es:E)|tpl (es:E)|din (n:Bool) (k d:E)|dget (d k:E)|cou (b:Bool) (es a:E)
abbrev Calls:=Nat->Option (Nat×(List W->aC->Option (W×aC)))
def lT(C:Calls)(f:Nat)(fs:FA):FE:=λ env S=>match C f with|some (np,call)=>aBp fs np call env S|none=>qx
def qP(C:Calls)(m:Str)(f:Nat)(fo:FE)(fs:FA):FE:=λ env S=>match C f with|some (np,call)=>aBG m fo fs np call env S|none=>qx
section
variable (C:Calls)
mutual
noncomputable def ev:E->FE
 |.var i=>jS i|.int i=>fC (.int i)|.bl b=>fC (.bool b)|.non=>fC .none|.str x=>fC (.str x)|.bin op a b=>rB op (ev a) (ev b)|.un op a=>yS op (ev a)|.cmp op a b=>nO op (ev a) (ev b)|.and a b=>wV (ev a) (ev b)|.or a b=>yF (ev a) (ev b)|.ite c a b=>xC (tv c) (ev a) (ev b)|.tup es=>xG (av es)|.ix a b=>pQ (ev a) (ev b)|.tab _ aI k=>f1 (ev k) (oC (aBE aI))|.con _ ts=>fC (.tuple (ts.map Tv.d))|.sl a lo hi=>pS (ev a) (ov lo) (ov hi)|.call f es=>lT C f (av es)|.blt b es=>rA (av es) b.g|.bits a=>aEi (ev a)|.app o a=>xT (ev o) (ev a)|.exd o a=>aBH (ev o) (ev a)|.lset a=>aA1 (ev a)|.idx o a=>aBC (ev o) (ev a)|.fz a=>kW (lv a)|.new a=>kM (lv a)|.fld a f=>aBA (ev a) f|.mth m f o es=>qP C m f (ev o) (av es)|.mk ini np es=>aA9 ini np (av es)|.tpl es=>aBD (av es)|.din n k d=>tO n (ev k) (ev d)|.dget d k=>aBa (ev d) (ev k)|.cou _ es a=>tS (av es) (ev a)|_=>λ _ _=>qx
noncomputable def tv:E->FT
 |.and a b=>xN (tv a) (tv b)|.or a b=>yY (tv a) (tv b)|.var i=>dB (jS i)|.cmp op a b=>dB (nO op (ev a) (ev b))|.ix a b=>dB (pQ (ev a) (ev b))|.call f es=>dB (lT C f (av es))|.blt b es=>dB (rA (av es) b.g)|.bin op a b=>dB (rB op (ev a) (ev b))|.bl b=>dB (fC (.bool b))|.no=>kO|.din n k d=>dB (tO n (ev k) (ev d))|_=>λ _ _=>qx
noncomputable def av:E->FA
 |.nil=>gG|.cons a r=>cL (ev a) (av r)|_=>λ _ _=>qx
noncomputable def ov:E->FO
 |.no=>fNo|.cons a .nil=>qT (ev a)|_=>λ _ _=>qx
noncomputable def lv:E->FL
 |.lst es=>xR (av es)|.lof a=>aEH (ev a)|.lzip a b=>sU (ev a) (ev b)|.lrep a b=>yH (ev a) (ev b)|.comp elt t it cond=>iI t (lv it) (tv cond) (ev elt)|.it a=>iE (ev a)|.rng1 a=>wE (ev a)|.rng2 a b=>wJ (ev a) (ev b)|.rng3 a b c=>aBe (ev a) (ev b) (ev c)|.zip a b=>qV (ev a) (ev b)|.zip3 a b c=>aBi (ev a) (ev b) (ev c)|_=>λ _ _=>qx
end
inductive Sx where
 |skip|seq (a b:Sx)|expr (e:E)|ret (e:E)
 |ifs (c:E) (a b:Sx)|set (i:Nat) (e:E)|setC (nw:Bool) (i:Nat) (e:E)|setT (t:Tg) (e:E)|put (o i e:E)|dput (o i e:E)
 |loop (t:Tg) (it:E) (b:Sx)
def xs:Sx->FS
 |.skip=>sY|.seq a b=>eZ (xs a) (xs b)|.expr e=>wI (ev C e)|.ret e=>pA (ev C e)|.ifs c a b=>nX (tv C c) (xs a) (xs b)|.set i e=>jR i (ev C e)
 |.setC nw i e=>jR i (match nw with|true=>kM (lv C e)|false=>kW (lv C e))
 |.setT t e=>wL t (ev C e)|.put o i e=>mF (ev C o) (ev C i) (ev C e)|.dput o i e=>aBq (ev C o) (ev C i) (ev C e)|.loop t it b=>jP t (lv C it) (xs b)
theorem aDD{i}:ev C (.var i)=jS i:=rfl
theorem aW0{i}:ev C (.int i)=fC (.int i):=rfl
theorem aXV{b}:ev C (.bl b)=fC (.bool b):=rfl
theorem aVi:ev C .non=fC .none:=rfl
theorem aUl{x}:ev C (.str x)=fC (.str x):=rfl
theorem aKL{op a b}:ev C (.bin op a b)=rB op (ev C a) (ev C b):=rfl
theorem aMh{op a}:ev C (.un op a)=yS op (ev C a):=rfl
theorem aDB{op a b}:ev C (.cmp op a b)=nO op (ev C a) (ev C b):=rfl
theorem aJJ{a b}:ev C (.and a b)=wV (ev C a) (ev C b):=rfl
theorem aLP{a b}:ev C (.or a b)=yF (ev C a) (ev C b):=rfl
theorem aKb{c a b}:ev C (.ite c a b)=xC (tv C c) (ev C a) (ev C b):=rfl
theorem aKw{es}:ev C (.tup es)=xG (av C es):=rfl
theorem aEy{a b}:ev C (.ix a b)=pQ (ev C a) (ev C b):=rfl
theorem aUF{n0 aI k}:ev C (.tab n0 aI k)=f1 (ev C k) (oC (aBE aI)):=rfl
theorem aWM{n0 ts}:ev C (.con n0 ts)=fC (.tuple (ts.map Tv.d)):=rfl
theorem aEr{a lo hi}:ev C (.sl a lo hi)=pS (ev C a) (ov C lo) (ov C hi):=rfl
theorem aJE{f es}:ev C (.call f es)=lT C f (av C es):=rfl
theorem aKr{b es}:ev C (.blt b es)=rA (av C es) b.g:=rfl
theorem aTt{a}:ev C (.bits a)=aEi (ev C a):=rfl
theorem aJW{o a}:ev C (.app o a)=xT (ev C o) (ev C a):=rfl
theorem aVB{o a}:ev C (.exd o a)=aBH (ev C o) (ev C a):=rfl
theorem aTY{a}:ev C (.lset a)=aA1 (ev C a):=rfl
theorem aV9{o a}:ev C (.idx o a)=aBC (ev C o) (ev C a):=rfl
theorem aL1{a}:ev C (.fz a)=kW (lv C a):=rfl
theorem aD1{a}:ev C (.new a)=kM (lv C a):=rfl
theorem aWz{a f}:ev C (.fld a f)=aBA (ev C a) f:=rfl
theorem aU1{m f o es}:ev C (.mth m f o es)=qP C m f (ev C o) (av C es):=rfl
theorem aXF{ini np es}:ev C (.mk ini np es)=aA9 ini np (av C es):=rfl
theorem aW2{es}:ev C (.tpl es)=aBD (av C es):=rfl
theorem aTH{d k}:ev C (.dget d k)=aBa (ev C d) (ev C k):=rfl
theorem aT5{b es a}:ev C (.cou b es a)=tS (av C es) (ev C a):=rfl
theorem aT7{n k d}:tv C (.din n k d)=dB (tO n (ev C k) (ev C d)):=rfl
theorem aKg{a b}:tv C (.and a b)=xN (tv C a) (tv C b):=rfl
theorem aLm{a b}:tv C (.or a b)=yY (tv C a) (tv C b):=rfl
theorem aVK{i}:tv C (.var i)=dB (jS i):=rfl
theorem aKl{op a b}:tv C (.cmp op a b)=dB (nO op (ev C a) (ev C b)):=rfl
theorem aYG{a b}:tv C (.ix a b)=dB (pQ (ev C a) (ev C b)):=rfl
theorem aSS{f es}:tv C (.call f es)=dB (lT C f (av C es)):=rfl
theorem aT9{b es}:tv C (.blt b es)=dB (rA (av C es) b.g):=rfl
theorem aWl{op a b}:tv C (.bin op a b)=dB (rB op (ev C a) (ev C b)):=rfl
theorem aX1{b}:tv C (.bl b)=dB (fC (.bool b)):=rfl
theorem aYh:tv C .no=kO:=rfl
theorem aVW:av C .nil=gG:=rfl
theorem aJD{a r}:av C (.cons a r)=cL (ev C a) (av C r):=rfl
theorem aY1:ov C .no=fNo:=rfl
theorem aIW{a}:ov C (.cons a .nil)=qT (ev C a):=rfl
theorem aKt{es}:lv C (.lst es)=xR (av C es):=rfl
theorem aVz{a}:lv C (.lof a)=aEH (ev C a):=rfl
theorem aTx{a b}:lv C (.lzip a b)=sU (ev C a) (ev C b):=rfl
theorem aIK{a b c}:lv C (.rng3 a b c)=aBe (ev C a) (ev C b) (ev C c):=rfl
theorem aJp{a b}:lv C (.lrep a b)=yH (ev C a) (ev C b):=rfl
theorem aRB{elt t it cond}:lv C (.comp elt t it cond)=iI t (lv C it) (tv C cond) (ev C elt):=rfl
theorem aLi{a}:lv C (.it a)=iE (ev C a):=rfl
theorem aIz{a}:lv C (.rng1 a)=wE (ev C a):=rfl
theorem aJs{a b}:lv C (.rng2 a b)=wJ (ev C a) (ev C b):=rfl
theorem aJO{a b}:lv C (.zip a b)=qV (ev C a) (ev C b):=rfl
theorem aI5{a b c}:lv C (.zip3 a b c)=aBi (ev C a) (ev C b) (ev C c):=rfl
theorem aJC:xs C .skip=sY:=rfl
theorem qH{a b}:xs C (.seq a b)=eZ (xs C a) (xs C b):=rfl
theorem aI8{e}:xs C (.expr e)=wI (ev C e):=rfl
theorem aDP{e}:xs C (.ret e)=pA (ev C e):=rfl
theorem sN{c a b}:xs C (.ifs c a b)=nX (tv C c) (xs C a) (xs C b):=rfl
theorem aAW{i e}:xs C (.set i e)=jR i (ev C e):=rfl
theorem aJq{nw i e}:xs C (.setC nw i e)=jR i (match nw with|true=>kM (lv C e)|false=>kW (lv C e)):=rfl
theorem aJi{t e}:xs C (.setT t e)=wL t (ev C e):=rfl
theorem aKG{o i e}:xs C (.put o i e)=mF (ev C o) (ev C i) (ev C e):=rfl
theorem aSw{o i e}:xs C (.dput o i e)=aBq (ev C o) (ev C i) (ev C e):=rfl
theorem aSE{t it b}:xs C (.loop t it b)=jP t (lv C it) (xs C b):=rfl
end
def no{P:Prop}(h:false=true):P:=by cases h
def dI(h:(a&&b)=true):a=true/\b=true:=by
 cases a with
 |false=>exact no h|true=>exact(rfl,h,)
def aL(h:(a&&b)=true):a=true:=(dI h).1
def aR(h:(a&&b)=true):b=true:=(dI h).2
def fD{f:c->Bool}(h:(@dite _ c d f λ _=>false)=true):c:=by
 cases d with
 |isTrue k=>exact k|isFalse _=>exact no h
def jV(k:Str->Pos->Bool)(x:qy):Bool:=if h:x.ctorIdx=23 then @Expr.Name.elim (λ _=>Bool) x h k else false
def nN{P:qy->Prop}{k:Str->Pos->Bool}(h:jV k x=true)(g:∀ a b,k a b=true->P (.Name a b)):P x:=@Expr.Name.elim (λ e=>jV k e=true->P e) x (fD h) g h
def kCo(k:Const->Nat->Pos->Bool)(x:qy):Bool:=if h:x.ctorIdx=19 then @Expr.Constant.elim (λ _=>Bool) x h k else false
def aZ6{P:qy->Prop}{k:Const->Nat->Pos->Bool}(h:kCo k x=true)(g:∀ a b c,k a b c=true->P (.Constant a b c)):P x:=@Expr.Constant.elim (λ e=>kCo k e=true->P e) x (fD h) g h
def zE(k:qy->ju->qy->Pos->Bool)(x:qy):Bool:=if h:x.ctorIdx=2 then @Expr.BinOp.elim (λ _=>Bool) x h k else false
def aNh{P:qy->Prop}{k:qy->ju->qy->Pos->Bool}(h:zE k x=true)(g:∀ a b c d,k a b c d=true->P (.BinOp a b c d)):P x:=@Expr.BinOp.elim (λ e=>zE k e=true->P e) x (fD h) g h
def kUn(k:wq->qy->Pos->Bool)(x:qy):Bool:=if h:x.ctorIdx=3 then @Expr.UnaryOp.elim (λ _=>Bool) x h k else false
def aZB{P:qy->Prop}{k:wq->qy->Pos->Bool}(h:kUn k x=true)(g:∀ a b c,k a b c=true->P (.UnaryOp a b c)):P x:=@Expr.UnaryOp.elim (λ e=>kUn k e=true->P e) x (fD h) g h
def kCm(k:qy->List jz->List qy->Pos->Bool)(x:qy):Bool:=if h:x.ctorIdx=15 then @Expr.Compare.elim (λ _=>Bool) x h k else false
def aZY{P:qy->Prop}{k:qy->List jz->List qy->Pos->Bool}(h:kCm k x=true)(g:∀ a b c d,k a b c d=true->P (.Compare a b c d)):P x:=@Expr.Compare.elim (λ e=>kCm k e=true->P e) x (fD h) g h
def kBo(k:BoolOp->List qy->Pos->Bool)(x:qy):Bool:=if h:x.ctorIdx=0 then @Expr.BoolOp.elim (λ _=>Bool) x h k else false
def aZp{P:qy->Prop}{k:BoolOp->List qy->Pos->Bool}(h:kBo k x=true)(g:∀ a b c,k a b c=true->P (.BoolOp a b c)):P x:=@Expr.BoolOp.elim (λ e=>kBo k e=true->P e) x (fD h) g h
def kIe(k:qy->qy->qy->Pos->Bool)(x:qy):Bool:=if h:x.ctorIdx=5 then @Expr.IfExp.elim (λ _=>Bool) x h k else false
def bAn{P:qy->Prop}{k:qy->qy->qy->Pos->Bool}(h:kIe k x=true)(g:∀ a b c d,k a b c d=true->P (.IfExp a b c d)):P x:=@Expr.IfExp.elim (λ e=>kIe k e=true->P e) x (fD h) g h
def rQ(k:List qy->Nat->Pos->Bool)(x:qy):Bool:=if h:x.ctorIdx=25 then @Expr.Tuple.elim (λ _=>Bool) x h k else false
def rC{P:qy->Prop}{k:List qy->Nat->Pos->Bool}(h:rQ k x=true)(g:∀ a b c,k a b c=true->P (.Tuple a b c)):P x:=@Expr.Tuple.elim (λ e=>rQ k e=true->P e) x (fD h) g h
def yZ(k:List qy->Pos->Bool)(x:qy):Bool:=if h:x.ctorIdx=24 then @Expr.List.elim (λ _=>Bool) x h k else false
def aE5{P:qy->Prop}{k:List qy->Pos->Bool}(h:yZ k x=true)(g:∀ a b,k a b=true->P (.List a b)):P x:=@Expr.List.elim (λ e=>yZ k e=true->P e) x (fD h) g h
def kSu(k:qy->qy->Pos->Bool)(x:qy):Bool:=if h:x.ctorIdx=21 then @Expr.Subscript.elim (λ _=>Bool) x h k else false
def aMW{P:qy->Prop}{k:qy->qy->Pos->Bool}(h:kSu k x=true)(g:∀ a b c,k a b c=true->P (.Subscript a b c)):P x:=@Expr.Subscript.elim (λ e=>kSu k e=true->P e) x (fD h) g h
def kSl(k:Option qy->Option qy->Option qy->Pos->Bool)(x:qy):Bool:=if h:x.ctorIdx=26 then @Expr.Slice.elim (λ _=>Bool) x h k else false
def bAh{P:qy->Prop}{k:Option qy->Option qy->Option qy->Pos->Bool}(h:kSl k x=true)(g:∀ a b c d,k a b c d=true->P (.Slice a b c d)):P x:=@Expr.Slice.elim (λ e=>kSl k e=true->P e) x (fD h) g h
def kDi(k:List (Option qy)->List qy->Pos->Bool)(x:qy):Bool:=if h:x.ctorIdx=6 then @Expr.Dict.elim (λ _=>Bool) x h k else false
def aZ3{P:qy->Prop}{k:List (Option qy)->List qy->Pos->Bool}(h:kDi k x=true)(g:∀ a b c,k a b c=true->P (.Dict a b c)):P x:=@Expr.Dict.elim (λ e=>kDi k e=true->P e) x (fD h) g h
def kCa(k:qy->List qy->List Keyword->Pos->Bool)(x:qy):Bool:=if h:x.ctorIdx=16 then @Expr.Call.elim (λ _=>Bool) x h k else false
def aMH{P:qy->Prop}{k:qy->List qy->List Keyword->Pos->Bool}(h:kCa k x=true)(g:∀ a b c d,k a b c d=true->P (.Call a b c d)):P x:=@Expr.Call.elim (λ e=>kCa k e=true->P e) x (fD h) g h
def zB(k:qy->Str->Pos->Bool)(x:qy):Bool:=if h:x.ctorIdx=20 then @Expr.Attribute.elim (λ _=>Bool) x h k else false
def aE4{P:qy->Prop}{k:qy->Str->Pos->Bool}(h:zB k x=true)(g:∀ a b c,k a b c=true->P (.Attribute a b c)):P x:=@Expr.Attribute.elim (λ e=>zB k e=true->P e) x (fD h) g h
def kLc(k:qy->List Comprehension->zy->Pos->Bool)(x:qy):Bool:=if h:x.ctorIdx=8 then @Expr.ListComp.elim (λ _=>Bool) x h k else false
def bAf{P:qy->Prop}{k:qy->List Comprehension->zy->Pos->Bool}(h:kLc k x=true)(g:∀ a b c d,k a b c d=true->P (.ListComp a b c d)):P x:=@Expr.ListComp.elim (λ e=>kLc k e=true->P e) x (fD h) g h
def kEx(k:qy->Pos->Bool)(x:xu):Bool:=if h:x.ctorIdx=24 then @Stmt.Expr.elim (λ _=>Bool) x h k else false
def aZS{P:xu->Prop}{k:qy->Pos->Bool}(h:kEx k x=true)(g:∀ a b,k a b=true->P (.Expr a b)):P x:=@Stmt.Expr.elim (λ e=>kEx k e=true->P e) x (fD h) g h
def kRe(k:Option qy->Pos->Bool)(x:xu):Bool:=if h:x.ctorIdx=3 then @Stmt.Return.elim (λ _=>Bool) x h k else false
def aZy{P:xu->Prop}{k:Option qy->Pos->Bool}(h:kRe k x=true)(g:∀ a b,k a b=true->P (.Return a b)):P x:=@Stmt.Return.elim (λ e=>kRe k e=true->P e) x (fD h) g h
def kSf(k:qy->List xu->List xu->Pos->Bool)(x:xu):Bool:=if h:x.ctorIdx=12 then @Stmt.If.elim (λ _=>Bool) x h k else false
def aZV{P:xu->Prop}{k:qy->List xu->List xu->Pos->Bool}(h:kSf k x=true)(g:∀ a b c d,k a b c d=true->P (.If a b c d)):P x:=@Stmt.If.elim (λ e=>kSf k e=true->P e) x (fD h) g h
def pK(k:List qy->qy->Pos->Bool)(x:xu):Bool:=if h:x.ctorIdx=5 then @Stmt.Assign.elim (λ _=>Bool) x h k else false
def tQ{P:xu->Prop}{k:List qy->qy->Pos->Bool}(h:pK k x=true)(g:∀ a b c,k a b c=true->P (.Assign a b c)):P x:=@Stmt.Assign.elim (λ e=>pK k e=true->P e) x (fD h) g h
def kFo(k:qy->qy->List xu->List xu->Pos->Bool)(x:xu):Bool:=if h:x.ctorIdx=9 then @Stmt.For.elim (λ _=>Bool) x h k else false
def aZL{P:xu->Prop}{k:qy->qy->List xu->List xu->Pos->Bool}(h:kFo k x=true)(g:∀ a b c d e,k a b c d e=true->P (.For a b c d e)):P x:=@Stmt.For.elim (λ e=>kFo k e=true->P e) x (fD h) g h
def iL{α:Type}(k:α->Bool)(l:List α):Bool:=match l with|[a]=>k a|_=>false
def iZ{α:Type}{P:List α->Prop}{k:α->Bool}:∀ {l:List α},iL k l=true->(∀ a,k a=true->P [a])->P l
 |[],h,_=>no h|[a],h,g=>g a h|_::_::_,h,_=>no h
def aES{α:Type}(k:α->α->Bool)(l:List α):Bool:=match l with|a::r=>iL (k a) r|[]=>false
def aLI{α:Type}{P:List α->Prop}{k:α->α->Bool}:∀ {l:List α},aES k l=true->(∀ a b,k a b=true->P [a,b])->P l
 |[],h,_=>no h|a::_,h,g=>iZ (P:=λ r=>P (a::r)) h (g a)
def aMq{α:Type}(k:α->α->α->Bool)(l:List α):Bool:=match l with|a::r=>aES (k a) r|[]=>false
def aXE{α:Type}{P:List α->Prop}{k:α->α->α->Bool}:∀ {l:List α},aMq k l=true->(∀ a b c,k a b c=true->P [a,b,c])->P l
 |[],h,_=>no h|a::_,h,g=>aLI (P:=λ r=>P (a::r)) h (g a)
def jN{α:Type}{P:List α->Prop}:∀ {l:List α},l.isEmpty=true->P []->P l
 |[],_,g=>g|_::_,h,_=>no h
def aEZ{α:Type}(o:Option α):Bool:=match o with|none=>true|some _=>false
def aLN{α:Type}{P:Option α->Prop}:∀ {o:Option α},aEZ o=true->P qx->P o
 |none,_,g=>g|some _,h,_=>no h
def aLd{α:Type}{P:Option α->Prop}{k:α->Bool}:∀ {o:Option α},o.any k=true->(∀ a,k a=true->P (qz a))->P o
 |none,h,_=>no h|some a,h,g=>g a h
def dT{p:Prop}{d:Decidable p}(h:decide p=true):p:=oqT h
def pR(sc:zy)(x:Str):Bool:=match sc.names.lookup x with
 |some .local=>true|some .cell=>true|some .free=>true|_=>false
def loc(sc:zy)(x:Str):Bool:=match sc.names.lookup x with
 |some .local=>true|some .cell=>true|_=>false
def aLK(e:E):Bool:=decide (e.ctorIdx=E.nil.ctorIdx)
def bAi{P:E->Prop}(h:aLK e=true)(g:P .nil):P e:=@E.nil.elim P e (dT h) g
def any_some{α:Type}{o:Option α}{p:α->Bool}(h:o.any p=true):∃ a,o=qz a/\p a=true:=by
 cases o with
 |none=>cases h|some a=>exact(a,rfl,h,)
def lo(sc:zy)(x:Str):Bool:=decide (sc.names.lookup x=qz .local)
def gl(sc:zy)(x:Str):Bool:=decide (sc.names.lookup x=qz .globalImplicit)
def cT(e:qy):Bool:=![7,22,26].contains e.ctorIdx
def nL(e:qy):Bool:=![0,3,5,15].contains e.ctorIdx
def sK(e:qy):Bool:=![16].contains e.ctorIdx
def oN(e:qy):Bool:=![8,9,10].contains e.ctorIdx
def wX(e:qy):Bool:=rQ (λ _ _ _=>true) e
def lF:List qy->Bool
 |[]=>true|e::r=>cT e&&lF r
def rD(scope osc:zy):zy:={scope with names:=scope.names.map λ(n,k)=>if (k==.free&&osc.kind==.function&&osc.names.lookup n==qz .cell) then (n,.cell) else (n,k) }
def aEx(scope osc:zy):Bool:=decide (scope.kind=.function)&&scope.names.all λ x=>(!decide (x.2=.cell))&&(!decide (x.2=.free)||decide (osc.names.lookup x.1=qz .cell)||decide (osc.names.lookup x.1=qz .free))&&(!decide (x.2=.local)||decide (scope.names.lookup x.1=qz .local))
def aBF(N:List Str)(scope:zy)(is:List Nat):Nat->Bool
 |0=>true
 | n+1=>aBF N scope is n&&(match N[n]? with
   |some x=>!decide (scope.names.lookup x=qz .local)||is.contains n
   | none=>true)
def aEb(b:Bool)(N:List Str)(sc:zy)(i:Nat)(x:Str):Bool:=decide (N[i]?=qz x)&&(match b with
 |true=>decide (sc.names.lookup x=qz .local)
 | false=>loc sc x)
def aDu(b:Bool)(N:List Str)(sc:zy):List Nat->List qy->Bool
 |[],es=>es.isEmpty
 | i::is,es=>(match es with
   |e::r=>jV (λ x _=>aEb b N sc i x&&aDu b N sc is r) e
   | []=>false)
def xK(b:Bool)(N:List Str)(sc:zy)(t:Tg)(e:qy):Bool:=match t with|.one i=>jV (λ x _=>aEb b N sc i x) e|.many is=>rQ (λ es _ _=>aDu b N sc is es) e
def aJv(e:E):Bool:=decide (e.ctorIdx=(E.comp .no (.one 0) .no .no).ctorIdx)
def bAx{P:E->Prop}(h:aJv e=true)(g:∀ a t b c,P (.comp a t b c)):P e:=@E.comp.elim P e (dT h) g
def aEM(e:E):Bool:=decide (e.ctorIdx=E.no.ctorIdx)
def aMv{P:E->Prop}(h:aEM e=true)(g:P .no):P e:=@E.no.elim P e (dT h) g
def tV(c:Const)(e:qy):Bool:=kCo (λ d _ _=>decide (d=c)) e
def aA3{P:qy->Prop}(h:tV c x=true)(g:∀ k p,P (.Constant c k p)):P x:=
 aZ6 h λ _ k p z=>(dT z)▸g k p
def xV(k:qy->jz->qy->Bool)(e:qy):Bool:=kCm (λ x os ys _=>iL (λ o=>iL (λ y=>k x o y&&cT y) ys) os) e
def aBu{P:qy->Prop}{k:qy->jz->qy->Bool}(h:xV k x=true)(g:∀ a o b p,k a o b=true->cT b=true->P (.Compare a [o] [b] p)):P x:=
 aZY h λ a os _ p z=>iZ (P:=λ os=>P (.Compare a os _ p)) z λ o z=>iZ (P:=λ ys=>P (.Compare a [o] ys p)) z λ b z=>g a o b p (aL z) (aR z)
def wR(op:BoolOp)(k:qy->qy->Bool)(e:qy):Bool:=kBo (λ o es p=>decide (o=op)&&(match es with
 |[x,y]=>k x y|x::y::z::r=>k x (.BoolOp op (y::z::r) p)
 | _=>false)) e
def aAY{P:qy->Prop}{k:qy->qy->Bool}(h:wR op k x=true)(g:∀ a b p,k a b=true->P (.BoolOp op [a,b] p))(f:∀ a b c r p,k a (.BoolOp op (b::c::r) p)=true->P (.BoolOp op (a::b::c::r) p)):P x:=
 aZp h λ o es p z=>by
  obtain rfl:=dT (aL z)
  match es,aR z with
  |[a,b],z=>exact g a b p z|a::b::c::r,z=>exact f a b c r p z|[],z=>exact no z|[_],z=>exact no z
def rR(k:qy->qy->Bool)(e:qy):Bool:=kSu (λ x y _=>k x y&&cT y) e
def xZ{P:qy->Prop}{k:qy->qy->Bool}(h:rR k x=true)(g:∀ a b p,k a b=true->cT b=true->P (.Subscript a b p)):P x:=aMW h λ a b p z=>g a b p (aL z) (aR z)
def aMD(k:qy->Option qy->Option qy->Bool)(e:qy):Bool:=kSu (λ x s _=>kSl (λ l h t _=>aEZ t&&k x l h) s) e
def aYM{P:qy->Prop}{k:qy->Option qy->Option qy->Bool}(h:aMD k x=true)(g:∀ a l u p q,k a l u=true->P (.Subscript a (.Slice l u qx p) q)):P x:=
 aMW h λ a _ q z=>bAh (P:=λ s=>P (.Subscript a s q)) z λ l u _ p z=>aLN (P:=λ t=>P (.Subscript a (.Slice l u t p) q)) (aL z) (g a l u p q (aR z))
def nH(k:Str->List qy->Bool)(e:qy):Bool:=kCa (λ f xs ks _=>jV (λ n _=>ks.isEmpty&&k n xs) f) e
def sI{P:qy->Prop}{k:Str->List qy->Bool}(h:nH k x=true)(g:∀ n p xs q,k n xs=true->P (.Call (.Name n p) xs [] q)):P x:=
 aMH h λ _ xs ks q z=>nN (P:=λ f=>P (.Call f xs ks q)) z λ n p z=>jN (P:=λ ks=>P (.Call (.Name n p) xs ks q)) (aL z) (g n p xs q (aR z))
def uC(nm:Str)(sc:zy)(k:qy->Bool)(e:qy):Bool:=nH (λ n xs=>decide (n=nm)&&gl sc n&&iL (λ y=>k y&&cT y) xs) e
def yL{P:qy->Prop}{k:qy->Bool}(h:uC nm sc k x=true)(g:∀ p y q,gl sc nm=true->k y=true->cT y=true->P (.Call (.Name nm p) [y] [] q)):P x:=
 sI h λ n p xs q z=>by
  obtain rfl:=dT (aL (aL z));exact iZ (P:=λ xs=>P (.Call (.Name n p) xs [] q)) (aR z) λ y u=>g p y q (aR (aL z)) (aL u) (aR u)
def kB2(nm:Str)(sc:zy)(k l:qy->Bool)(e:qy):Bool:=nH (λ n xs=>decide (n=nm)&&gl sc n&&aES (λ y z=>(k y&&cT y)&&(l z&&cT z)) xs) e
def aE0{P:qy->Prop}{k l:qy->Bool}(h:kB2 nm sc k l x=true)(g:∀ p y z q,gl sc nm=true->k y=true->cT y=true->l z=true->cT z=true->P (.Call (.Name nm p) [y,z] [] q)):P x:=
 sI h λ n p xs q z=>by
  obtain rfl:=dT (aL (aL z));exact aLI (P:=λ xs=>P (.Call (.Name n p) xs [] q)) (aR z) λ y w u=>g p y w q (aR (aL z)) (aL (aL u)) (aR (aL u)) (aL (aR u)) (aR (aR u))
def kB3(nm:Str)(sc:zy)(k l m:qy->Bool)(e:qy):Bool:=nH (λ n xs=>decide (n=nm)&&gl sc n&&aMq (λ y z w=>(k y&&cT y)&&((l z&&cT z)&&(m w&&cT w))) xs) e
def aMV{P:qy->Prop}{k l m:qy->Bool}(h:kB3 nm sc k l m x=true)(g:∀ p y z w q,gl sc nm=true->k y=true->cT y=true->l z=true->cT z=true->m w=true->cT w=true->P (.Call (.Name nm p) [y,z,w] [] q)):P x:=
 sI h λ n p xs q z=>by
  obtain rfl:=dT (aL (aL z));exact aXE (P:=λ xs=>P (.Call (.Name n p) xs [] q)) (aR z) λ y w v u=>g p y w v q (aR (aL z)) (aL (aL u)) (aR (aL u)) (aL (aL (aR u))) (aR (aL (aR u))) (aL (aR (aR u))) (aR (aR (aR u)))
def yR(nm:Str)(k:qy->List qy->Bool)(e:qy):Bool:=kCa (λ f xs ks cp=>zB (λ o m ap=>ks.isEmpty&&(ap.endLine==cp.line)&&decide (m=nm)&&sK o&&k o xs) f) e
def aBL{P:qy->Prop}{k:qy->List qy->Bool}(h:yR nm k x=true)(g:∀ o ap xs cp,(ap.endLine==cp.line)=true->sK o=true->k o xs=true->P (.Call (.Attribute o nm ap) xs [] cp)):P x:=
 aMH h λ _ xs ks cp z=>aE4 (P:=λ f=>P (.Call f xs ks cp)) z λ o m ap z=>by
  obtain rfl:=dT (aR (aL (aL z)));exact jN (P:=λ ks=>P (.Call (.Attribute o m ap) xs ks cp)) (aL (aL (aL (aL z)))) (g o ap xs cp (aR (aL (aL (aL z)))) (aR (aL z)) (aR z))
def aBz(nm:Str)(k l:qy->Bool)(e:qy):Bool:=yR nm (λ o xs=>k o&&iL (λ y=>l y&&cT y) xs) e
def aEm{P:qy->Prop}{k l:qy->Bool}(h:aBz nm k l x=true)(g:∀ o ap y cp,(ap.endLine==cp.line)=true->sK o=true->k o=true->l y=true->cT y=true->P (.Call (.Attribute o nm ap) [y] [] cp)):P x:=
 aBL h λ o ap xs cp h1 h2 z=>iZ (P:=λ xs=>P (.Call (.Attribute o nm ap) xs [] cp)) (aR z) λ y u=>g o ap y cp h1 h2 (aL z) (aL u) (aR u)
def aLf(k:qy->qy->qy->List qy->zy->Bool)(e:qy):Bool:=kLc (λ el gs sc _=>iL (λ g=>decide (g.is_async=0)&&k el g.target g.iter g.ifs sc) gs) e
def aUx{P:qy->Prop}{k:qy->qy->qy->List qy->zy->Bool}(h:aLf k x=true)(g:∀ e tg it ifs sc p,k e tg it ifs sc=true->P (.ListComp e [⟨tg,it,ifs,0⟩] sc p)):P x:=
 bAf h λ e _ sc p z=>iZ (P:=λ gs=>P (.ListComp e gs sc p)) z λ aW z=>by
  let(tg,it,ifs,as):=aW;obtain rfl:as=0:=dT (aL z);exact g e tg it ifs sc p (aR z)
def aMm(N:List Str)(t:Tg)(cond:E)(sc:zy)(fI:qy->qy->Bool)(fT fE:zy->qy->Bool)(x:qy):Bool:=aLf (λ e tg iter ifs scope=>aEx scope sc&&aBF N scope t.slots N.length&&xK true N (rD scope sc) t tg&&fI tg iter&&cT iter &&
 (match ifs with | []=>aEM cond | y::r=>r.isEmpty&&fT (rD scope sc) y)&&fE (rD scope sc) e) x
def aMx{P:qy->Prop}{cond:E}{fI:qy->qy->Bool}{fT fE:zy->qy->Bool}(h:aMm N t cond sc fI fT fE x=true)(g:∀ e tg iter ifs scope p,aEx scope sc=true->aBF N scope t.slots N.length=true->xK true N (rD scope sc) t tg=true->fI tg iter=true->cT iter=true->(match ifs with|[]=>aEM cond|y::r=>r.isEmpty&&fT (rD scope sc) y)=true->fE (rD scope sc) e=true->P (.ListComp e [(tg,iter,ifs,0,)] scope p)):P x:=
 aUx h λ e tg iter ifs scope p h=>g e tg iter ifs scope p (aL (aL (aL (aL (aL (aL h)))))) (aR (aL (aL (aL (aL (aL h)))))) (aR (aL (aL (aL (aL h))))) (aR (aL (aL (aL h)))) (aR (aL (aL h))) (aR (aL h)) (aR h)
structure Tx where
 fn:List (Str×Nat)
 tb:List (Str×List (Str×Tv))
 cn:List (Str×List Tv)
 st:List (Str×Str)
 mt:List (Str×Nat)
 mo:Option (List (Str×Ini)×Nat)
def aDW(T:Tx)(f:Nat)(x:Str):Bool:=decide ((T.fn[f]?).map (·.1)=qz x) && !(T.mt.any λ p=>decide (p.2=f))
def aXW(T:Tx)(f:Str):Bool:=T.mo.any λ m=>m.1.any λ p=>decide (p.1=f)
section
variable (T:Tx)(N:List Str)
mutual
noncomputable def bJ:E->zy->qy->Bool
 |.var i,sc,x=>jV (λ x _=>decide (N[i]?=qz x)&&pR sc x && !(x==("__debug__" : Str)) && !(x==("__classdict__" : Str))) x|.int i,_,x=>tV (.int i) x|.bl i,_,x=>tV (.bool i) x|.non,_,x=>tV .none x|.str i,_,x=>tV (.str i) x|.bin op a b,sc,x=>zE (λ x op' y _=>decide (op'=op)&&bJ a sc x&&bJ b sc y) x|.un op a,sc,x=>kUn (λ op' x _=>decide (op'=op) && !decide (op=.Not)&&bJ a sc x) x|.cmp op a b,sc,x=>xV (λ x op' y=>decide (op'=op)&&bJ a sc x&&bJ b sc y) x|.and a b,sc,x=>wR .And (λ x y=>bJ a sc x&&bJ b sc y) x|.or a b,sc,x=>wR .Or (λ x y=>bJ a sc x&&bJ b sc y) x|.ite c a b,sc,x=>kIe (λ x y z _=>nR c sc x&&bJ a sc y&&bJ b sc z) x|.tup es,sc,x=>rQ (λ xs _ _=>iM es sc xs) x|.ix a b,sc,x=>rR (λ x y=>bJ a sc x&&bJ b sc y) x|.con n ts,sc,x=>jV (λ x _=>decide (x=n)&&T.cn.contains (n,ts)&&gl sc x && !(x==("__debug__" : Str))) x|.tab n aI k,sc,x=>rR (λ x y=>bJ k sc y&&jV (λ x _=>decide (x=n)&&T.tb.contains (n,aI)&&gl sc x && !(x==("__debug__" : Str))) x) x|.sl a lo hi,sc,x=>aMD (λ x l h=>bJ a sc x&&okO lo sc l&&okO hi sc h) x|.call f es,sc,x=>nH (λ x xs=>aDW T f x&&gl sc x && !(x==("__debug__" : Str))&&iM es sc xs&&lF xs) x|.blt b es,sc,x=>nH (λ x ys=>!ys.isEmpty&&decide (x=b.n)&&gl sc x&&iM es sc ys&&lF ys) x|.bits a,sc,x=>yR "bit_length" (λ x ys=>bJ a sc x&&ys.isEmpty) x|.app o a,sc,x=>aBz "append" (λ x=>bJ o sc x) (λ y=>bJ a sc y) x|.exd o a,sc,x=>aBz "extend" (λ x=>bJ o sc x) (λ y=>bJ a sc y) x|.lset a,sc,x=>uC "len" sc (λ y=>uC "set" sc (λ z=>bJ a sc z) y) x|.idx o a,sc,x=>aBz "index" (λ x=>bJ o sc x) (λ y=>bJ a sc y) x|.fz a,sc,e=>zA a sc e|.new a,sc,e=>zA a sc e|.fld a f,sc,x=>zB (λ o g _=>decide (g=f)&&sK o&&aXW T f&&bJ a sc o) x|.mth m f o es,sc,x=>yR m (λ y ys=>decide ((m,f)∈T.mt)&&bJ o sc y&&iM es sc ys&&lF ys && !ys.isEmpty&&decide (↑ys<30)) x|.mk ini np es,sc,x=>nH (λ x xs=>decide (T.mo=qz (ini,np))&&decide (x = "Maker")&&gl sc x&&iM es sc xs&&lF xs && !xs.isEmpty) x|.tpl es,sc,x=>rQ (λ xs _ _=>iM es sc xs) x|.din n k d,sc,x=>xV (λ x op' y=>decide (op'=aEe n)&&bJ k sc x&&bJ d sc y) x|.dget d k,sc,x=>rR (λ x y=>bJ d sc x&&bJ k sc y) x
 |.cou b es a,sc,x=>yR "count" (λ o ys=>(match b with|false=>rQ (λ xs _ _=>iM es sc xs) o|true=>yZ (λ xs _=>iM es sc xs) o)&&iL (λ y=>bJ a sc y&&cT y) ys) x
 |_,_,_=>false
noncomputable def nR:E->zy->qy->Bool
 |.and a b,sc,x=>wR .And (λ x y=>nR a sc x&&nR b sc y) x|.or a b,sc,x=>wR .Or (λ x y=>nR a sc x&&nR b sc y) x|.cmp op a b,sc,x=>xV (λ x op' y=>decide (op'=op)&&bJ a sc x&&bJ b sc y) x|.var i,sc,x=>jV (λ x _=>decide (N[i]?=qz x)&&pR sc x && !(x==("__debug__" : Str)) && !(x==("__classdict__" : Str))) x&&nL x|.bl i,_,x=>tV (.bool i) x&&nL x|.bin op a b,sc,x=>zE (λ x op' y _=>decide (op'=op)&&bJ a sc x&&bJ b sc y) x&&nL x|.ix a b,sc,x=>rR (λ x y=>bJ a sc x&&bJ b sc y) x&&nL x|.call f es,sc,x=>nH (λ x xs=>aDW T f x&&gl sc x && !(x==("__debug__" : Str))&&iM es sc xs&&lF xs) x&&nL x|.blt b es,sc,x=>nH (λ x ys=>!ys.isEmpty&&decide (x=b.n)&&gl sc x&&iM es sc ys&&lF ys) x&&nL x|.din n k d,sc,x=>xV (λ x op' y=>decide (op'=aEe n)&&bJ k sc x&&bJ d sc y) x|_,_,_=>false
noncomputable def iM:E->zy->List qy->Bool
 |.nil,_,xs=>xs.isEmpty
 | .cons a r,sc,xs=>(match xs with
   |x::xs=>bJ a sc x&&cT x&&iM r sc xs
   | []=>false)
 |_,_,_=>false
noncomputable def okO:E->zy->Option qy->Bool
 |.no,_,x=>aEZ x|.cons a r,sc,x=>aLK r&&x.any λ x=>bJ a sc x|_,_,_=>false
noncomputable def zA:E->zy->qy->Bool
 |.lst es,sc,x=>yZ (λ xs _=>iM es sc xs) x|.lof a,sc,x=>uC "list" sc (λ y=>bJ a sc y) x|.lzip a b,sc,x=>uC "list" sc (λ y=>kB2 "zip" sc (λ z=>bJ a sc z) (λ w=>bJ b sc w) y) x|.lrep a b,sc,x=>zE (λ x o y _=>decide (o=.Mult)&&bJ a sc x&&bJ b sc y) x|.comp elt t it cond,sc,x=>aMm N t cond sc (λ g y=>okI it sc g y) (λ s y=>nR cond s y) (λ s y=>bJ elt s y) x|_,_,_=>false
noncomputable def okI:E->zy->qy->qy->Bool
 |.it a,sc,_,x=>bJ a sc x|.rng1 a,sc,_,x=>uC "range" sc (λ y=>bJ a sc y) x|.rng2 a b,sc,_,x=>kB2 "range" sc (λ y=>bJ a sc y) (λ z=>bJ b sc z) x|.rng3 a b c,sc,_,x=>kB3 "range" sc (λ y=>bJ a sc y) (λ z=>bJ b sc z) (λ w=>bJ c sc w) x|.zip a b,sc,tg,x=>wX tg&&kB2 "zip" sc (λ y=>bJ a sc y) (λ z=>bJ b sc z) x|.zip3 a b c,sc,tg,x=>wX tg&&kB3 "zip" sc (λ y=>bJ a sc y) (λ z=>bJ b sc z) (λ w=>bJ c sc w) x|_,_,_,_=>false
end
mutual
noncomputable def okS:Sx->zy->xu->Bool
 |.expr e,sc,st=>kEx (λ x _=>bJ T N e sc x&&oN x) st|.ret e,sc,st=>kRe (λ v _=>v.any λ x=>bJ T N e sc x) st|.ifs c a b,sc,st=>kSf (λ x y z _=>nR T N c sc x&&pC a sc y&&pC b sc z) st|.set i e,sc,st=>pK (λ ts y _=>bJ T N e sc y&&oN y&&iL (λ t=>jV (λ x _=>decide (N[i]?=qz x)&&loc sc x) t) ts) st|.setC _ i e,sc,st=>pK (λ ts y _=>aJv e&&zA T N e sc y&&iL (λ t=>jV (λ x _=>decide (N[i]?=qz x)&&loc sc x) t) ts) st|.setT t e,sc,st=>pK (λ ts y _=>bJ T N e sc y&&oN y && !wX y&&iL (λ tg=>wX tg&&xK false N sc t tg) ts) st|.put o i e,sc,st=>pK (λ ts z _=>bJ T N e sc z&&oN z&&iL (λ t=>rR (λ x y=>bJ T N o sc x&&bJ T N i sc y) t) ts) st|.dput o i e,sc,st=>pK (λ ts z _=>bJ T N e sc z&&oN z&&iL (λ t=>rR (λ x y=>bJ T N o sc x&&bJ T N i sc y) t) ts) st|.loop t it b,sc,st=>kFo (λ tg x y z _=>z.isEmpty&&xK false N sc t tg&&okI T N it sc tg x&&cT x&&pC b sc y) st|_,_,_=>false
noncomputable def pC:Sx->zy->List xu->Bool
 |.skip,_,l=>l.isEmpty
 | .seq a b,sc,l=>(match l with
   |st::r=>okS a sc st&&pC b sc r
   | []=>false)
 |_,_,_=>false
end
end
def bltNames:List Str:=["len","max","min","int","abs","tuple","sum","all","any","isinstance","list","range","enumerate","bool","str","reversed","zip","sorted","set"]
structure Ctx(T:Tx)(C:Calls)(X:Cx):Prop where
 nd:X.N.Nodup
 calm:X.calm=true
 xe:X.xe=λ _ _=>False
 kind:X.env.scope.kind=.function
 room:∃ k,2<=k/\Room k X.A/\(∀ f np call x,C f=qz (np,call)->aDW T f x=true->∃ fa fd ps,X.mg x=qz (.ref fa)/\yBt X.K (.ref fa)=true/\gW X.K fd ps []/\FnOk X.prog X.w X.K X.mg X.base nW k fa fd ps (pN X.K np call)) /\
  ∀ m f np call,C f=qz (np,call)->(m,f)∈T.mt->∃ Cc fa fd ps,kK X.K Cc/\Cls X.K Cc/\Meth X.K Cc m fa/\gW X.K fd ps []/\FnOk X.prog X.w X.K X.mg X.base nW k fa fd ps (pN X.K np call)
 mo:∀ ini np,T.mo=qz (ini,np)->∃ Cc fi fd ps,kK X.K Cc/\Cls X.K Cc/\X.mg "Maker" = qz (.ref Cc)/\(∀ p∈ini,NoAttr X.K Cc p.1)/\Mk X.K Cc fi/\gW X.K fd ps []/\FnOk X.prog X.w X.K X.mg X.base nW 1 fi fd ps (spM X.K Cc ini np)
 blt:∀ x∈bltNames,X.mg x=qx
 tbs:∀ x aI,(x,aI)∈T.tb->∃ a,X.mg x=qz (.ref a)/\wM X.K X.w a aI
 cns:∀ x ts,(x,ts)∈T.cn->∃ a,X.mg x=qz (.ref a)/\sV X.K a ts
 sts:∀ x y,(x,y)∈T.st->∃ t,X.mg x=qz (.str y t)
variable {C:Calls}
def Ctx.units(h:Ctx T C X):X.A.units+64<cLine:=let ⟨_,_,r,_⟩:=h.room;r.units
def Ctx.own(h:Ctx T C X):PassesOwn (model X.prog X.w) X.A X.env X.xe:=by rw[h.xe];exact PassesOwn.never
def Ctx.comp{scope:zy}(h:Ctx T C X)(hk:scope.kind=.function)(hy:kB X scope Y):Ctx T C Y/\Y.env.scope=rD scope X.env.scope/\Y.N=X.N/\Y.K=X.K:=by let(aB,fp,Ca,s₀,H₀,rfl):=hy;exact((h.nd,h.calm,rfl,hk,h.room,h.mo,h.blt,h.tbs,h.cns,h.sts,),rfl,rfl,rfl,)
def fP(h:cT e=true)(es:List qy)(env:Env):qo (e::es) env=(false,eval e env)::qo es env:=by cases e<;>first|rfl|exact no h
def uX:∀ {es:List qy} (h:lF es=true) (env:Env) (pos:Pos),(backTo pos (qo es env)).any (·.1)=false
 |[],_,_,_=>rfl
 |e::es,h,env,pos=>by
   let(h1,h2):=dI h;rw[fP h1];show(false||(backTo pos (qo es env)).any (·.1))=false;rw[uX h2 env pos];rfl
def aEq(h:cT e=true):vM e:=by intro o i;cases e<;>first|rfl|exact no h
def aAp(h:cT e=true)(op:jz):xj op e=false:=by cases e<;>first|rfl|exact no h
def aCz(h:cT e=true)(env:Env)(x:qj):jq e env x=pure x:=by cases e<;>first|rfl|exact no h
def mT(h:sK e=true)(m:Str)(env:Env):attributeBase e m env (eval e env)=eval e env:=by cases e<;>first|rfl|exact no h
def uV(h:oN e=true)(t:Option qy)(line:Nat)(env:Env):swapsWith e t line env=pure false:=by cases e<;>first|rfl|exact no h
def aWs(h:nL e=true)(env:Env)(hJ:Sem qj):isTrue e env hJ=(do let v <- hJ;standAt e.pos;holding [v] (truthy v)):=by cases e<;>first|rfl|exact no h
def aP1(h:cT i=true)(v:qj):assign (.Subscript o i pos) env v=(do
 let ov <- holding [v] (eval o env);let iv <- holding [v,ov] (eval i env)
 standAt pos
 holding [v,ov,iv] (setItem ov iv v)
 release [v,ov,iv] []):=by cases i<;>first|rfl|exact no h
def aKq(h:pR X.env.scope x=true):zH X.env.scope x:=by unfold pR at h;unfold zH;split at h<;>first|exact .inl (by assumption)|exact .inr (.inl (by assumption))|exact .inr (.inr (by assumption))|exact no h
def aDQ(h:loc X.env.scope x=true):L2.Loc X.env.scope x:=by unfold loc at h;unfold L2.Loc;split at h<;>first|exact .inl (by assumption)|exact .inr (by assumption)|exact no h
def hU(h:gl X.env.scope x=true):Gl X x:=(oqT h:X.env.scope.names.lookup x=qz .globalImplicit)
def pV{x y:Str}(h:(!(x==y))=true):(x==y)=false:=by
 cases e:x==y with
 |false=>rfl|true=>rw[e] at h;exact no h
def aDS(b:Bool)(X:Cx):Prop:=b=true\/∀ x,X.fn x=true
def aIO(st:aDS b X)(h:aEb b X.N X.env.scope i x=true):X.N[i]?=qz x/\L2.Loc X.env.scope x/\(X.fn x=true\/X.env.scope.names.lookup x=qz .local):=by
 let(h1,h2):=dI h;cases b with
 |true=>
   have h3:=oqT h2;exact(oqT h1,.inl h3,.inr h3,)
 |false=>
   refine(oqT h1,aDQ h2,?_,);rcases st with z|z
   .cases z
   .exact .inl (z x)
def xI:List Nat->jH
 |[]=>aEQ|i::is=>aEn (oV i) (xI is)
def uA(K:FrG):Tg->TG
 |.one i=>oV i|.many is=>aEC K ↑is (xI is)
def aJU(K:FrG):∀ is:List Nat,zC K is (xI is)
 |[]=>aTV|_::is=>aQj (aJU K is)
def aA8(K:FrG)(t:Tg):GA K t (uA K t):=by
 cases t with
 |one i=>exact aVs i|many is=>exact aSM (aJU K is)
section
variable {X:Cx}
def aH1{b:Bool}(st:aDS b X)(nd:X.N.Nodup):∀ {is:List Nat}{es:List qy},aDu b X.N X.env.scope is es=true->rO X es (xI is)/\(xq es X.env).length=↑is/\(xq es X.env).findIdx? (·.1)=qx
 |[],[],_=>(aTX,rfl,rfl,)|[],_::_,h=>no h|_::_,[],h=>no h
 |i::is,e::r,h=>nN (P:=λ e=>rO X (e::r) (xI (i::is))/\(xq (e::r) X.env).length=(i::is).length/\(xq (e::r) X.env).findIdx? (·.1)=qx) h λ x p h=>by
   let(a1,a2,a3):=aIO st (aL h);let(pg,hl2,hf):=aH1 st nd (aR h);refine(aQc (aDr nd a1 a2 a3) pg rfl,?_,?_,)
   .show((false,assign (.Name x p) X.env)::xq r X.env).length=_;rw[yAl,yAl,hl2]
   .show((false,assign (.Name x p) X.env)::xq r X.env).findIdx? (·.1)=qx;rw[List.findIdx?_cons,hf];rfl
end
def aBj(st:aDS b X)(nd:X.N.Nodup)(hc:X.calm=true)(h:xK b X.N X.env.scope t tg=true):PG X tg (uA X.K t):=by
 cases t with
 |one i=>exact nN (P:=λ e=>PG X e (oV i)) h λ x p h=>let ⟨a1,a2,a3⟩:=aIO st h;aDr nd a1 a2 a3|many is=>exact rC (P:=λ e=>PG X e (uA X.K (.many is))) h λ es k p h=>let ⟨pg,hl2,hf⟩:=aH1 st nd h;aUZ hc pg hl2 hf
section
variable (T:Tx)(C:Calls)
def SE(c:E):Prop:=∀ X,Ctx T C X->∀ x,bJ T X.N c X.env.scope x=true->PE X x (aP X.K (ev C c))
def ST(c:E):Prop:=∀ X,Ctx T C X->∀ x,nR T X.N c X.env.scope x=true->PT X x (gZ X.K (tv C c))/\∀ op es p,x=.BoolOp op es p->PW X x (gZ X.K (tv C c))
def SA(c:E):Prop:=∀ X,Ctx T C X->∀ x,iM T X.N c X.env.scope x=true->PA X x (dQ X.K (av C c))
def SO(c:E):Prop:=∀ X,Ctx T C X->∀ x,okO T X.N c X.env.scope x=true->PO X x (mE X.K (ov C c))
def SL(c:E):Prop:=∀ X,Ctx T C X->∀ x,zA T X.N c X.env.scope x=true->PE X x (iO X.K (lv C c))
def SI(c:E):Prop:=∀ X,Ctx T C X->∀ tg x,okI T X.N c X.env.scope tg x=true->PI X tg x (jG X.K (lv C c))
end
def aIS{f:FE}(h:∀ env S,f env S=qx):PE X x (aP X.K f):=λ aB s σ H Q I aW=>by
 let(F,L,S,env,w,S',R,E,e,q):=aW;rw[h] at e;cases e
def aW3{f:FE}(h:PE X x (aP X.K f))(ht:nL x=true):PT X x (gZ X.K (dB f))/\∀ op es p,x=.BoolOp op es p->PW X x (gZ X.K (dB f)):=
 (aYg h λ hJ=>aWs ht X.env hJ,λ op es p e=>by subst e;exact no ht,)
def aKd(i:Nat):SE T C (.var i):=λ X hX x hx=>nN (P:=λ x=>PE X x _) hx λ y p h=>aYc (dT (aL (aL (aL h)))) (aKq (aR (aL (aL h)))) (pV (aR (aL h))) (pV (aR h))
def aVy(i:Int):SE T C (.int i):=λ X hX x h=>aA3 (P:=λ x=>PE X x _) h λ k p=>aXI
def aLo(i:Bool):SE T C (.bl i):=λ X hX x h=>aA3 (P:=λ x=>PE X x _) h λ k p=>bAl
def aV7:SE T C .non:=λ X hX x h=>aA3 (P:=λ x=>PE X x _) h λ k p=>aY2
def aUB(i:Str):SE T C (.str i):=λ X hX x h=>aA3 (P:=λ x=>PE X x _) h λ k p=>aW8
def aKE(ha:SE T C a)(hb:SE T C b):SE T C (.bin op a b):=λ X hX x hx=>aNh (P:=λ x=>PE X x _) hx λ l o r p h=>by
 obtain rfl:=dT (aL (aL h));exact aXd (ha X hX _ (aR (aL h))) (hb X hX _ (aR h))
def aYB(ha:SE T C a):SE T C (.un op a):=λ X hX x hx=>aZB (P:=λ x=>PE X x _) hx λ o r p h=>by
 obtain rfl:=dT (aL (aL h));exact bAb (ha X hX _ (aR h))
def aUP(ha:SE T C a)(hb:SE T C b):SE T C (.cmp op a b):=λ X hX x hx=>aBu (P:=λ x=>PE X x _) hx λ l o r p h h4=>by
 obtain rfl:=dT (aL (aL h));exact aXs hX.units (ha X hX _ (aR (aL h))) (hb X hX _ (aR h)) (aAp h4 o)
def aLt{t:TT}(h:PT X x t)(n:x.ctorIdx≠0):PT X x t/\∀ op es p,x=.BoolOp op es p->PW X x t:=
 (h,λ op es p e=>absurd (congrArg Expr.ctorIdx e) n,)
def aUp(ha:SE T C a)(hb:SE T C b):ST T C (.cmp op a b):=λ X hX x hx=>aBu (P:=λ x=>PT X x _/\∀ op es p,x=.BoolOp op es p->PW X x _) hx λ l o r p h h4=>by
 obtain rfl:=dT (aL (aL h));exact aLt (aT8 hX.units (ha X hX _ (aR (aL h))) (hb X hX _ (aR h)) (aAp h4 o)) (Nat.succ_ne_zero 14)
def aVr:SE T C (.con n ts):=λ X hX x hx=>nN (P:=λ x=>PE X x _) hx λ y p h=>by
 obtain rfl:=dT (aL (aL (aL h)));exact aYk (hU (aR (aL h))) (pV (aR h)) (hX.cns _ _ (List.contains_iff_mem.mp (aR (aL (aL h)))))
def aWa(ha:SE T C a)(hb:SE T C b):SE T C (.and a b):=λ X hX x hx=>aAY (P:=λ x=>PE X x _) hx
 (λ l r p h=>PE.weak (aKO (ha X hX _ (aL h)) (aK0 (hb X hX _ (aR h)))) aKZ) λ l b c r p h=>PE.weak (aKO (ha X hX _ (aL h)) (hb X hX _ (aR h))) aKZ
def aYb(ha:SE T C a)(hb:SE T C b):SE T C (.or a b):=λ X hX x hx=>aAY (P:=λ x=>PE X x _) hx
 (λ l r p h=>PE.weak (aLL (ha X hX _ (aL h)) (aK0 (hb X hX _ (aR h)))) aLa) λ l b c r p h=>PE.weak (aLL (ha X hX _ (aL h)) (hb X hX _ (aR h))) aLa
def aJ4{t:TT}(k:PW X x t):PT X x t/\∀ op es p,x=.BoolOp op es p->PW X x t:=(k.pt,λ _ _ _ _=>k,)
def aVt(ha:ST T C a)(hb:ST T C b):ST T C (.and a b):=λ X hX x hx=>aJ4 (aAY (P:=λ x=>PW X x _) hx
 (λ l r p h=>PW.weak (aKX (ha X hX _ (aL h)).1 (aRW (hb X hX _ (aR h)).1)) aLB) λ l b c r p h=>PW.weak (aKX (ha X hX _ (aL h)).1 ((hb X hX _ (aR h)).2 _ _ _ rfl)) aLB)
def aYZ(ha:ST T C a)(hb:ST T C b):ST T C (.or a b):=λ X hX x hx=>aJ4 (aAY (P:=λ x=>PW X x _) hx
 (λ l r p h=>PW.weak (aLs (ha X hX _ (aL h)).1 (aWD (hb X hX _ (aR h)).1)) aMw) λ l b c r p h=>PW.weak (aLs (ha X hX _ (aL h)).1 ((hb X hX _ (aR h)).2 _ _ _ rfl)) aMw)
def aWU(hc:ST T C c)(ha:SE T C a)(hb:SE T C b):SE T C (.ite c a b):=λ X hX x hx=>bAn (P:=λ x=>PE X x _) hx λ x y z p h=>aZa (hc X hX _ (aL (aL h))).1 (ha X hX _ (aR (aL h))) (hb X hX _ (aR h))
def aUO(ha:SA T C a):SE T C (.tup a):=λ X hX x hx=>rC (P:=λ x=>PE X x _) hx λ xs k p h=>aZf (ha X hX _ h)
def aWP(ha:SA T C a):SL T C (.lst a):=λ X hX x hx=>aE5 (P:=λ x=>PE X x _) hx λ xs p h=>aY0 (ha X hX _ h)
def aWw:SA T C .nil:=λ X hX x h=>jN (P:=λ x=>PA X x _) h aBb
def aS1(ha:SE T C a)(hr:SA T C r):SA T C (.cons a r):=λ X hX x h=>by
 cases x with
 |nil=>exact no h|cons y ys=>exact kF (ha X hX _ (aL (aL h))) (hr X hX _ (aR h)) (fP (aR (aL h)) _ _)
def aXH:SO T C .no:=λ X hX x h=>aLN (P:=λ x=>PO X x _) h aZF
def aTi(ha:SE T C a):SO T C (.cons a r):=λ X hX x h=>bAi (P:=λ r=>PO X x (mE X.K (ov C (.cons a r)))) (aL h) (aLd (P:=λ x=>PO X x _) (aR h) λ y h=>aWi (ha X hX _ h))
def aMc(ha:SE T C a)(hb:SE T C b):SE T C (.ix a b):=λ X hX x hx=>xZ (P:=λ x=>PE X x _) hx λ l r p h h3=>aZ1 (ha X hX _ (aL h)) (hb X hX _ (aR h)) (aEq h3)
def aU3(hk:SE T C k):SE T C (.tab n aI k):=λ X hX x hx=>xZ (P:=λ x=>PE X x _) hx λ y z p g h6=>nN (P:=λ y=>PE X (.Subscript y z p) _) (aR g) λ u q h=>by
 obtain rfl:=dT (aL (aL (aL h)));exact aYQ (hU (aR (aL h))) (pV (aR h)) (hX.tbs _ _ (List.contains_iff_mem.mp (aR (aL (aL h))))) (hk X hX _ (aL g)) (aEq h6)
def aYI{lo hi:E}(ha:SE T C a)(hl:SO T C lo)(hh:SO T C hi):SE T C (.sl a lo hi):=λ X hX x hx=>aYM (P:=λ x=>PE X x _) hx λ y l u p q h=>aZC (ha X hX _ (aL (aL h))) (hl X hX _ (aR (aL h))) (hh X hX _ (aR h))
def aR8(h:iM T N a sc []=true):a=.nil:=by cases a<;>first|rfl|exact no h
def aPM{call:List W->aC->Option (W×aC)}{fs:FA}(h:C f=qz (np,call)):lT C f fs=aBp fs np call:=by funext env S;unfold lT;rw[h]
def aJl(ha:SA T C a):SE T C (.call f a):=λ X hX x hx=>sI (P:=λ x=>PE X x _) hx λ y p zs q h=>by
 cases hC:C f with
 |none=>exact aIS λ env S=>by show lT C f (av C a) env S=qx;unfold lT;rw[hC]
 |some nc=>
   let(k,_,rm,fs,_):=hX.room;let(fa,fd,ps,m1,m2,m3,m4):=fs f nc.1 nc.2 y hC (aL (aL (aL (aL h))));have hw:∀ σ H Q,aP X.K (ev C (.call f a)) σ H Q->aBg (pN X.K nc.1 nc.2) [] E0 (dQ X.K (av C a)) σ H Q:=λ σ H Q hq=>aVG σ H Q (aPM (fs:=av C a) hC▸hq)
   have h2:=hU (aR (aL (aL (aL h))));have h3:=pV (aR (aL (aL h)));cases zs with
   |nil=>
     refine PE.weak (aQ8 m4 rm h2 m1 m2 m3 .nil aBr h3) λ σ H Q hq=>?_
     let(F,L,S,env,ws,S',R,E,e,q2):=hw σ H Q hq;cases aR8 (aR (aL h));cases e;exact q2 F L H [] Gr.refl R .nil
   |cons z zr=>exact PE.weak (aT4 m4 rm h2 m1 m2 m3 .nil aBr (ha X hX _ (aR (aL h))) h3 (fP (aL (aR h)) _ _) (uX (aR (aR h)) _ _)) hw
def aJK(ha:SA T C a):SE T C (.blt b a):=λ X hX x hx=>sI (P:=λ x=>PE X x _) hx λ y p zs q h=>by
 obtain rfl:=dT (aR (aL (aL (aL h))));cases zs with
 |nil=>exact no (aL (aL (aL (aL h))))
 |cons z zr=>
 have A:=ha X hX _ (aR (aL h));have G:=hU (aR (aL (aL h)));have s1:=fP (aL (aR h)) zr X.env;have s2:=uX (aR (aR h)) X.env q;cases b with
 |len=>exact PE.weak (aAn aYe G (hX.blt _ (·)) (by decide +kernel) A (·) (·) s1 s2) tG|mx=>exact PE.weak (aAn (aY9 hX.calm) G (hX.blt _ (·)) (by decide +kernel) A (·) (·) s1 s2) tG|mn=>exact PE.weak (aAn (aXi hX.calm) G (hX.blt _ (·)) (by decide +kernel) A (·) (·) s1 s2) tG|sum=>exact PE.weak (aAn (aXj hX.calm) G (hX.blt _ (·)) (by decide +kernel) A (·) (·) s1 s2) tG|int=>exact PE.weak (aCA aXy G (hX.blt _ (·)) (by decide +kernel) A (·) (·) s1 s2) tG|tup=>exact PE.weak (aCA aSp G (hX.blt _ (·)) (by decide +kernel) A (·) (·) s1 s2) tG
def aTk(ha:SE T C a):SE T C (.bits a):=λ X hX x hx=>aBL (P:=λ x=>PE X x _) hx λ o ap xs cp h4 h3 h=>jN (P:=λ xs=>PE X (.Call (.Attribute o "bit_length" ap) xs [] cp) _) (aR h) (by
 refine PE.weak (aVg PySem.F.plainAttrs_int yHb PySem.F.type_int_bit_length aSB (ha X hX _ (aL h)) (mT h3 _ _) h4) λ σ H Q hPq50=>?_
 let(F,L,S,env,w,S',R,E,e,q):=hPq50;let((w1,S1),e1,e2):=aJ e;let(d,z,e3,e4,rfl,rfl):=aCT e2;refine(F,L,S,env,w1,_,R,E,e1,λ F1 L1 H1 v g1 R1 d1=>?_,);have nw:=jJ R1 d1 e3;cases d<;>first|(cases e4;done)|skip
 cases e4;obtain rfl:=nw.int;exact(rfl,_,rfl,rfl,q F1 L1 H1 _ g1 R1 (Den.int _),))
def fN(h:cT z=true):qo [z] X.env=(false,eval z X.env)::qo [] X.env:=fP h [] X.env
def mJ(ha:SE T C a)(hX:Ctx T C X)(h:bJ T X.N a X.env.scope z=true)(hp:cT z=true):PA X [z] (dQ X.K (cL (ev C a) gG)):=kF (ha X hX _ h) aBb (fN hp)
def aVT(ho:SE T C o)(ha:SE T C a):SE T C (.app o a):=λ X hX x hx=>aEm (P:=λ x=>PE X x _) hx λ y ap z cp h4 h3 h2 h5 h6=>
 PE.weak (aBx yEl PySem.F.slot_list_append PySem.F.type_list_append aHg (ho X hX _ h2) (mJ ha hX h5 h6) (mT h3 _ _) (by rw[fN h6];rfl) h4 (fN h6) rfl) aYE
def aUr(ho:SE T C o)(ha:SE T C a):SE T C (.exd o a):=λ X hX x hx=>aEm (P:=λ x=>PE X x _) hx λ y ap z cp h4 h3 h2 h5 h6=>
 PE.weak (aBx yEl PySem.F.slot_list_extend PySem.F.type_list_extend aV6 (ho X hX _ h2) (mJ ha hX h5 h6) (mT h3 _ _) (by rw[fN h6];rfl) h4 (fN h6) rfl) aZm
def aT1(ha:SE T C a):SE T C (.lset a):=λ X hX x hx=>yL (P:=λ x=>PE X x _) hx λ p y q h2 h3 _=>yL (P:=λ y=>PE X (.Call (.Name "len" p) [y] [] q) _) h3 λ p' z q' h4 h5 h6=>
 aVq (ha X hX _ h5) hX.calm (xAi (yEk (by decide:3<=64) _) hX.units) (hU h2) (hX.blt _ (·)) (hU h4) (hX.blt _ (·)) (fN h6)
def aVF(ho:SE T C o)(ha:SE T C a):SE T C (.idx o a):=λ X hX x hx=>aEm (P:=λ x=>PE X x _) hx λ y ap z cp h4 h3 h2 h5 h6=>
 PE.weak (aBx yEl yFx PySem.F.type_list_index aQq (ho X hX _ h2) (mJ ha hX h5 h6) (mT h3 _ _) (by rw[fN h6];rfl) h4 (fN h6) rfl) aXQ
def aV5(ha:SE T C a):SL T C (.lof a):=λ X hX x hx=>yL (P:=λ x=>PE X x _) hx λ p z q h2 h3 h4=>
 PE.weak (aCA aNZ (hU h2) (hX.blt _ (·)) (by decide +kernel) (mJ ha hX h3 h4) (·) (·) (fN h4) rfl) aZj
def aSq(ha:SE T C a)(hb:SE T C b):SL T C (.lzip a b):=λ X hX x hx=>yL (P:=λ x=>PE X x _) hx λ p y q h2 h3 _=>aE0 (P:=λ y=>PE X (.Call (.Name "list" p) [y] [] q) _) h3 λ p' z w q' h4 h5 h6 h7 h8=>
 aU0 (ha X hX _ h5) (hb X hX _ h7) hX.calm (hU h2) (hX.blt _ (·)) (hU h4) (hX.blt _ (·)) (fP h6 [w] X.env) (fN h8)
def aRH(ha:SE T C a)(hb:SE T C b):SL T C (.lrep a b):=λ X hX x hx=>aNh (P:=λ x=>PE X x _) hx λ l o r p h=>by
 obtain rfl:=dT (aL (aL h));exact aXP (ha X hX _ (aR (aL h))) (hb X hX _ (aR h))
def aXv(ha:SE T C a):SI T C (.it a):=λ X hX tg x h=>aZU (ha X hX _ h)
def aTm(ha:SE T C a):SI T C (.rng1 a):=λ X hX tg x hx=>yL (P:=λ x=>PI X tg x _) hx λ p z q h2 h3 h4=>
 PI.weak (aO9 (hU h2) (hX.blt _ (·)) (mJ ha hX h3 h4) (fN h4)) aUI
def aSK(ha:SE T C a)(hb:SE T C b)(hc:SE T C c):SI T C (.rng3 a b c):=λ X hX tg x hx=>aMV (P:=λ x=>PI X tg x _) hx λ p z w v q h2 h3 h4 h5 h6 h7 h8=>by
 have st:=fP h4 [w,v] X.env;have st2:=fP h6 [v] X.env;exact PI.weak (aPi (hU h2) (hX.blt _ (·)) (kF (ha X hX _ h3) (kF (hb X hX _ h5) (mJ hc hX h7 h8) st2) st) st (by rw[st2,fN h8];rfl)) aWj
def aTW(ha:SE T C a)(hb:SE T C b):SI T C (.rng2 a b):=λ X hX tg x hx=>aE0 (P:=λ x=>PI X tg x _) hx λ p z z2 q h2 h3 h4 h5 h6=>by
 have st:=fP h4 [z2] X.env;exact PI.weak (aPF (hU h2) (hX.blt _ (·)) (kF (ha X hX _ h3) (mJ hb hX h5 h6) st) (by rw[st,fN h6];rfl) (fN h6)) aUE
def aU4(ha:SE T C a)(hb:SE T C b):SI T C (.zip a b):=λ X hX tg x hx=>rC (P:=λ tg=>PI X tg x _) (aL hx) λ ts k tp _=>aE0 (P:=λ x=>PI X _ x _) (aR hx) λ p z z2 q h2 h3 h4 h5 h6=>
 PI.weak (aWR (hU h2) (hX.blt _ (·)) (kF (ha X hX _ h3) (mJ hb hX h5 h6) (fP h4 [z2] X.env)) (fP h4 [z2] X.env) (fN h6)) aX5
def aR7(ha:SE T C a)(hb:SE T C b)(hc:SE T C c):SI T C (.zip3 a b c):=λ X hX tg x hx=>rC (P:=λ tg=>PI X tg x _) (aL hx) λ ts k tp _=>aMV (P:=λ x=>PI X _ x _) (aR hx) λ p z z2 z3 q h2 h3 h4 h5 h6 h7 h8=>
 PI.weak (aTZ (hU h2) (hX.blt _ (·)) (kF (ha X hX _ h3) (kF (hb X hX _ h5) (mJ hc hX h7 h8) (fP h6 [z3] X.env)) (fP h4 [z2,z3] X.env)) (fP h4 [z2,z3] X.env) (fP h6 [z3] X.env) (fN h8)) aUW
def or2(h:(a||b)=true)(n:a=false):b=true:=by rw[n] at h;exact h
def aIy(h:aEx scope osc=true):ScOk scope osc:=by
 have h2:=List.all_eq_true.mp (aR h);refine(dT (aL h),λ x hx e=>?_,λ x hx e=>?_,λ x hx e=>?_,)
 .have:=h2 x hx;simp[e] at this
 .have:=h2 x hx;simp[e] at this;exact this
 .have:=h2 x hx;simp[e] at this;exact this
def aDH:∀ {n:Nat},aBF N scope is n=true->∀ i,i<n->∀ x,N[i]?=qz x->scope.names.lookup x=qz .local->i∈is
 |0,_,i,hi,_,_,_=>absurd hi (yBq i)
 |n+1,h,i,hi,x,e,el=>by
   rcases Nat.lt_succ_iff_lt_or_eq.mp hi with z|z
   .exact aDH (aL h) i z x e el
   .subst z;have h2:=aR h;rw[e] at h2;exact List.contains_iff_mem.mp (or2 h2 (by rw[el];rfl))
def aTN{cond:E}(he:SE T C elt)(hi:SI T C it)(hc:ST T C cond):SL T C (.comp elt t it cond):=λ X hX x hx=>aMx (P:=λ x=>PE X x _) hx λ e tg iter ifs scope p h1 h2 h3 h4 h5 h6 h7=>by
 have sok:=aIy h1;refine aJ2 (g:=uA X.K t) hX.calm sok (λ i x a1 a2=>aDH h2 i (gIm a1).1 x a1 a2) (hi X hX tg iter h4) (λ Y hY=>?_) (aA8 X.K t) (λ Y hY=>?_) (λ Y hY=>?_) (aCz h5 X.env)
 .let(c1,c2,c3,c4):=hX.comp sok.kind hY;rw[<- c4];exact aBj (.inl rfl) c1.nd c1.calm (by rw[c2,c3];exact h3)
 .let(c1,c2,c3,c4):=hX.comp sok.kind hY;cases ifs with|nil=>exact aMv (P:=λ cond=>mP Y [] (tv C cond)) h6 aGK|cons y r=>exact jN (P:=λ r=>mP Y (y::r) _) (aL h6) (aHo (hc Y c1 y (by rw[c2,c3];exact aR h6)).1)
 .let(c1,c2,c3,c4):=hX.comp sok.kind hY;rw[<- c4];exact he Y c1 e (by rw[c2,c3];exact h7)
def aX4(ha:SL T C a):SE T C (.fz a):=λ X hX x h=>aM8 (ha X hX x h)
def aVk(ha:SL T C a):SE T C (.new a):=λ X hX x h=>aW5 (ha X hX x h)
def Ctx.hu(hX:Ctx T C X):X.A.units+1<cLine:=xAi (yEk (by decide:1<=64) _) hX.units
def aIc:∀ {es:List qy} (_:lF es=true) (env:Env) (pos:Pos),(backTo pos (qo es env)).all (λ x=>!x.1)=true
 |[],_,_,_=>rfl
 |e::es,h,env,pos=>by
   let(h1,h2):=dI h;rw[fP h1];show(true&&(backTo pos (qo es env)).all (λ x=>!x.1))=true;rw[aIc h2 env pos];rfl
def aXD{o:qy}{args:List qy}(h:sK o=true)(ha:lF args=true)(hl:args.length<30)(m:Str)(apos pos:Pos)(hp:(apos.endLine==pos.line)=true)(env:Env):∃ pl:Sem Bool,eval (.Call (.Attribute o m apos) args [] pos) env=(do
 let ov <- eval o env
 standAt apos.atName
 let (f,first) <- holding [ov] (getMethod ov m pl)
 callWith pos f first (backTo pos (qo args env)) (backToKw pos (keywordEach [] env))):=by
 have hf:methodCallForm (args.length+([]:List Keyword).length) (backTo pos (qo args env)) (backToKw pos (keywordEach [] env))=true:=by
  unfold methodCallForm;rw[aIc ha env pos];show(true&&true&&decide (args.length+0+0<30))=true;rw[dqT (show args.length+0+0<30 from hl)];rfl
 refine(?_,?_,)
 rotate_left
 .rw[arm_eval_Call,mT h];unfold methodCall methodCallPos;rw[hf];simp only[yFz,Bool.false_or,hp,if_true,pure_bind];rfl
def aVC(ha:SE T C a):SE T C (.fld a f):=λ X hX x hx=>aE4 (P:=λ x=>PE X x _) hx λ o g p h=>by
 obtain rfl:=dT (aL (aL (aL h)));let(m,e1,e2):=any_some (aR (aL h));let(p1,hp,e3):=List.any_eq_true.mp e2;let(Cc,fi,fd,ps,h1,h2,h3,h4,h5,h6,h7):=hX.mo m.1 m.2 e1;exact aYS (ha X hX _ (aR h)) (mT (aR (aL (aL h))) _ _) h1 h2 (dT e3▸h4 p1 hp)
def aRA{call:List W->aC->Option (W×aC)}{fo:FE}{fs:FA}(h:C f=qz (np,call)):qP C m f fo fs=aBG m fo fs np call:=by funext env S;unfold qP;rw[h]
def aV4(ho:SE T C o)(ha:SA T C es):SE T C (.mth m f o es):=λ X hX x hx=>aBL (P:=λ x=>PE X x _) hx λ y ap zs cp h1 h2 h=>by
 cases hC:C f with
 |none=>exact aIS λ env S=>by show qP C m f (ev C o) (av C es) env S=qx;unfold qP;rw[hC]
 |some nc=>
   let(k,_,rm,_,fs):=hX.room;let(Cc,fa,fd,ps,m1,m2,m3,m4,m5):=fs m f nc.1 nc.2 hC (dT (aL (aL (aL (aL (aL h))))));have h3:=aR (aL (aL h));cases zs with
   |nil=>exact no (aR (aL h))
   |cons z zr=>
     let(pl,ht):=aXD h2 h3 (dT (aR h)) m ap cp h1 X.env;exact PE.weak (aSc (pl:=pl) (ho X hX _ (aR (aL (aL (aL (aL h)))))) m2 m3 m5 rm m4 .nil aBr (ha X hX _ (aR (aL (aL (aL h))))) (fP (aL h3) _ _) (uX (aR h3) _ _) ht) λ σ H Q hq=>aUM m1 σ H Q (aRA (fo:=ev C o) (fs:=av C es) hC▸hq)
def aX6(ha:SA T C es):SE T C (.mk ini np es):=λ X hX x hx=>sI (P:=λ x=>PE X x _) hx λ y p zs q h=>by
 let(Cc,fi,fd,ps,h1,h2,h3,h4,h5,h6,h7):=hX.mo ini np (dT (aL (aL (aL (aL (aL h))))));let(k,hk,rm,_,_):=hX.room;obtain rfl:=dT (aR (aL (aL (aL (aL h)))));have h8:=aR (aL h);cases zs with
 |nil=>exact no (aR h)|cons z zr=>exact PE.weak (aSx h5 h7 (rm.mono hk) (hU (aR (aL (aL (aL h))))) h3 h6 .nil aBr (ha X hX _ (aR (aL (aL h)))) (·) (fP (aL h8) _ _) (uX (aR h8) _ _)) λ σ H Q hq=>aW1 h1 σ H Q hq
def aU8(ha:SA T C es):SE T C (.tpl es):=λ X hX x hx=>rC (P:=λ x=>PE X x _) hx λ xs k p h=>aXb (ha X hX _ h)
def aWQ(ha:SE T C a)(hb:SE T C b):SE T C (.din n a b):=λ X hX x hx=>aBu (P:=λ x=>PE X x _) hx λ l o r p h h4=>by
 obtain rfl:=dT (aL (aL h));exact aVY (aLe hX.hu (ha X hX _ (aR (aL h))) (hb X hX _ (aR h))) (aAp h4 _)
def aVN(ha:SE T C a)(hb:SE T C b):ST T C (.din n a b):=λ X hX x hx=>aBu (P:=λ x=>PT X x _/\∀ op es p,x=.BoolOp op es p->PW X x _) hx λ l o r p h h4=>by
 obtain rfl:=dT (aL (aL h));refine aLt (PT.weak (aU7 (aLe hX.hu (ha X hX _ (aR (aL h))) (hb X hX _ (aR h))) (aAp h4 _)) λ σ H Q hPq51=>?_) (Nat.succ_ne_zero 14);let(F,L,S,env,b1,S',R,E,e,q):=hPq51;let(w,d,e1,e2,e3):=aCI e;refine(F,L,S,env,w,S',R,E,e1,λ F1 L1 H1 v g1 R1 d1=>?_,);have hc:∃ c,w=.d (.bool c):=by
  let(p,ea,e1):=aJ e1;let(p2,eb,e1):=aJ e1;split at e1
  .let(k,e4,e1):=aJ e1;let(es,e5,e6):=map_some e1;cases e6;exact(_,rfl,)
  .cases e1
 let(c,rfl):=hc;cases e2;cases e3;cases (show Den X.K F1 (.bool b1) v from d1);exact(_,rfl,q F1 L1 H1 g1 R1,)
def aTd(ha:SE T C a)(hb:SE T C b):SE T C (.dget a b):=λ X hX x hx=>xZ (P:=λ x=>PE X x _) hx λ l r p h h3=>aUv hX.hu (ha X hX _ (aL h)) (hb X hX _ (aR h)) (aEq h3)
def aV1(hs:SA T C es)(ha:SE T C a):SE T C (.cou b es a):=λ X hX x hx=>aBL (P:=λ x=>PE X x _) hx λ o ap xs cp h1 h2 z=>iZ (P:=λ xs=>PE X (.Call (.Attribute o "count" ap) xs [] cp) _) (aR z) λ y u=>by
 cases b with
 |false=>exact rC (P:=λ o=>PE X (.Call (.Attribute o "count" ap) [y] [] cp) _) (aL z) λ xs k tp h=>aVm (hs X hX _ h) (ha X hX _ (aL u)) h1 (fN (aR u))|true=>exact aE5 (P:=λ o=>PE X (.Call (.Attribute o "count" ap) [y] [] cp) _) (aL z) λ xs tp h=>PE.weak (aBx yEl PySem.F.slot_list_count PySem.F.type_list_count aQ2 (aDL (hs X hX _ h)) (mJ ha hX (aL u) (aR u)) rfl (by rw[fN (aR u)];rfl) h1 (fN (aR u)) rfl) aUT
def tD(h:SE T C c)(ht:tv C c=dB (ev C c))(hk:∀ N sc x,nR T N c sc x=(bJ T N c sc x&&nL x)):ST T C c:=λ X hX x q=>by
 rw[hk] at q;rw[ht];exact aW3 (h X hX x (aL q)) (aR q)
structure Sn(T:Tx)(C:Calls)(c:E):Prop where
 e:SE T C c:=by exact λ _ _ _ h=>no h
 t:ST T C c:=by exact λ _ _ _ h=>no h
 a:SA T C c:=by exact λ _ _ _ h=>no h
 o:SO T C c:=by exact λ _ _ _ h=>no h
 l:SL T C c:=by exact λ _ _ _ h=>no h
 i:SI T C c:=by exact λ _ _ _ _ h=>no h
def sn(c:E):Sn T C c:=by
 induction c with
 |var i=>exact {e:=aKd i,t:=tD (aKd i) rfl λ _ _ _=>rfl }|int i=>exact {e:=aVy i }|bl b=>exact {e:=aLo b,t:=tD (aLo b) rfl λ _ _ _=>rfl }|non=>exact {e:=aV7 }|str x=>exact {e:=aUB x }|bin op a b bI cQ=>exact {e:=aKE bI.e cQ.e,t:=tD (aKE bI.e cQ.e) rfl λ _ _ _=>rfl }|un op a bI=>exact {e:=aYB bI.e }|cmp op a b bI cQ=>exact {e:=aUP bI.e cQ.e,t:=aUp bI.e cQ.e }|and a b bI cQ=>exact {e:=aWa bI.e cQ.e,t:=aVt bI.t cQ.t }|or a b bI cQ=>exact {e:=aYb bI.e cQ.e,t:=aYZ bI.t cQ.t }|ite c a b ihc bI cQ=>exact {e:=aWU ihc.t bI.e cQ.e }|tup a bI=>exact {e:=aUO bI.a }|lst a bI=>exact {l:=aWP bI.a }|nil=>exact {a:=aWw }|cons a r bI ihr=>exact {a:=aS1 bI.e ihr.a,o:=aTi bI.e }|con x ts=>exact {e:=aVr }|ix a b bI cQ=>exact {e:=aMc bI.e cQ.e,t:=tD (aMc bI.e cQ.e) rfl λ _ _ _=>rfl }|tab x aI k ihk=>exact {e:=aU3 ihk.e }|sl a lo hi bI ihlo ihhi=>exact {e:=aYI bI.e ihlo.o ihhi.o }|no=>exact {o:=aXH }|call f a bI=>exact {e:=aJl bI.a,t:=tD (aJl bI.a) rfl λ _ _ _=>rfl }|blt b a bI=>exact {e:=aJK bI.a,t:=tD (aJK bI.a) rfl λ _ _ _=>rfl }|bits a bI=>exact {e:=aTk bI.e }|app o a iho bI=>exact {e:=aVT iho.e bI.e }|exd o a iho bI=>exact {e:=aUr iho.e bI.e }|lset a bI=>exact {e:=aT1 bI.e }|idx o a iho bI=>exact {e:=aVF iho.e bI.e }|lof a bI=>exact {l:=aV5 bI.e }|lzip a b bI cQ=>exact {l:=aSq bI.e cQ.e }|lrep a b bI cQ=>exact {l:=aRH bI.e cQ.e }|comp elt t it cond ihelt ihit ihcond=>exact {l:=aTN ihelt.e ihit.i ihcond.t }|it a bI=>exact {i:=aXv bI.e }|rng1 a bI=>exact {i:=aTm bI.e }|rng2 a b bI cQ=>exact {i:=aTW bI.e cQ.e }|rng3 a b c bI cQ ihc=>exact {i:=aSK bI.e cQ.e ihc.e }|zip a b bI cQ=>exact {i:=aU4 bI.e cQ.e }|zip3 a b c bI cQ ihc=>exact {i:=aR7 bI.e cQ.e ihc.e }|fz a bI=>exact {e:=aX4 bI.l }|new a bI=>exact {e:=aVk bI.l }|fld a f bI=>exact {e:=aVC bI.e }|mth m f o es iho ihes=>exact {e:=aV4 iho.e ihes.a }|mk ini np es ihes=>exact {e:=aX6 ihes.a }|tpl es ihes=>exact {e:=aU8 ihes.a }|din n k d ihk ihd=>exact {e:=aWQ ihk.e ihd.e,t:=aVN ihk.e ihd.e }|dget d k ihd ihk=>exact {e:=aTd ihd.e ihk.e }|cou b es a ihes bI=>exact {e:=aV1 ihes.a bI.e }
section
variable (T:Tx)(C:Calls)
def SS(c:Sx):Prop:=∀ X,Ctx T C X->(∀ x,X.fn x=true)->∀ st,okS T X.N c X.env.scope st=true->PS X st (dL X.K (xs C c))
def pO(c:Sx):Prop:=∀ X,Ctx T C X->(∀ x,X.fn x=true)->∀ st,pC T X.N c X.env.scope st=true->dJ X st (dL X.K (xs C c))
end
def aIv(h:oN e=true)(line:Nat)(env:Env):swapsWithSole [t] e line env=pure false:=uV h _ _ _
def aOK(h:wX e=false):yz [.Tuple ts k p] e env=pure qx:=by cases e<;>first|rfl|exact no h.symm
def aOg:yz [.Subscript o i p] e env=pure qx:=by cases e<;>rfl
def aVu(ha:SS T C a)(hb:pO T C b):pO T C (.seq a b):=λ X hX hf st h=>by
 cases st with
 |nil=>exact no h
 |cons s r=>
   let(h1,h2):=dI h;exact aXw (ha X hX hf _ h1) (hb X hX hf _ h2)
def aSm:pO T C .skip:=λ X hX hf st h=>jN (P:=λ st=>dJ X st _) h aVD
def aR3:SS T C (.expr e):=λ X hX hf st h=>aZS (P:=λ st=>PS X st _) h λ x p h=>aUN ((sn e).e X hX _ (aL h)) (uV (aR h) _ _ _)
def aVl:SS T C (.ret e):=λ X hX hf st h=>aZy (P:=λ st=>PS X st _) h λ _ p h=>aLd (P:=λ v=>PS X (.Return v p) _) h λ x h=>aXf ((sn e).e X hX _ h)
def aVo(ha:pO T C a)(hb:pO T C b):SS T C (.ifs c a b):=λ X hX hf st h=>aZV (P:=λ st=>PS X st _) h λ x y z p h=>aZZ ((sn c).t X hX _ (aL (aL h))).1 (ha X hX hf _ (aR (aL h))) (hb X hX hf _ (aR h))
def aVa:SS T C (.set i e):=λ X hX hf st h=>tQ (P:=λ st=>PS X st _) h λ _ y p h=>iZ (P:=λ ts=>PS X (.Assign ts y p) _) (aR h) λ _ g=>nN (P:=λ t=>PS X (.Assign [t] y p) _) g λ x q g=>
 aK3 hX.nd (dT (aL g)) (aDQ (aR g)) ((sn e).e X hX _ (aL (aL h))) (uV (aR (aL h)) _ _ _) (.inl (hf _))
def bAs{f:FL}(σ:St)(H:Hp)(Q:VK)(h:aP K (kW f) σ H Q):iO K f σ H Q:=by let(F,L,S,env,w,S',R,E,e,q):=h;let((ds,S1),e1,e2):=aJ e;cases e2;exact(F,L,S,env,ds,_,R,E,e1,λ F1 L1 H1 p xs g1 R1 hF hL hH dl=>q _ L1 _ _ (g1.trans (Gr.new hF)) (R1.adopt hF hL hH) (Den.lst (bT.of cO) (dl.mono (fY hF))),)
def aYC{f:FL}(σ:St)(H:Hp)(Q:VK)(h:aP K (kM f) σ H Q):iO K f σ H Q:=by let(F,L,S,env,w,S',R,E,e,q):=h;let((ds,S1),e1,e2):=aJ e;cases e2;refine(F,L,S,env,ds,_,R,E,e1,λ F1 L1 H1 p xs g1 R1 hF hL hH dl=>q _ _ _ _ (g1.trans Gr.newLoc) (R1.adoptLoc hF hL hH dl) (p,?_,rfl,),);dsimp only;rw[<- R1.len,yAi (yAb _)];simp
def aZN{f:FL}(nw:Bool):∀ (σ:St) (H:Hp) (Q:VK),aP K (match nw with|true=>kM f|false=>kW f) σ H Q->iO K f σ H Q:=by
 cases nw
 .exact bAs
 .exact aYC
def aTe:SS T C (.setC nw i e):=λ X hX hf st h=>tQ (P:=λ st=>PS X st _) h λ _ y p h=>iZ (P:=λ ts=>PS X (.Assign ts y p) _) (aR h) λ _ g=>nN (P:=λ t=>PS X (.Assign [t] y p) _) g λ x q g=>by
 refine bAx (P:=λ e=>zA T X.N e X.env.scope y=true->PS X (.Assign [.Name x q] y p) (dL X.K (xs C (.setC nw i e)))) (aL (aL h)) (λ elt t it cond hL=>aMx (P:=λ y=>PS X (.Assign [.Name x q] y p) (dL X.K (xs C (.setC nw i (.comp elt t it cond))))) hL λ e tg iter ifs scope r h1 h2 h3 h4 h5 h6 h7=>?_) (aR (aL h));have sok:=aIy h1;refine aPl (g:=uA X.K t) hX.nd (dT (aL g)) (aDQ (aR g)) (.inl (hf _)) hX.calm sok (λ i x a1 a2=>aDH h2 i (gIm a1).1 x a1 a2) ((sn it).i X hX tg iter h4) (λ Y hY=>?_) (aA8 X.K t) (λ Y hY=>?_) (λ Y hY=>?_) (aCz h5 X.env) (aZN nw)
 .let(c1,c2,c3,c4):=hX.comp sok.kind hY;rw[<- c4];exact aBj (.inl rfl) c1.nd c1.calm (by rw[c2,c3];exact h3)
 .let(c1,c2,c3,c4):=hX.comp sok.kind hY;cases ifs with|nil=>exact aMv (P:=λ cond=>mP Y [] (tv C cond)) h6 aGK|cons y r=>exact jN (P:=λ r=>mP Y (y::r) _) (aL h6) (aHo ((sn cond).t Y c1 y (by rw[c2,c3];exact aR h6)).1)
 .let(c1,c2,c3,c4):=hX.comp sok.kind hY;rw[<- c4];exact(sn elt).e Y c1 e (by rw[c2,c3];exact h7)
def aEN(h:(!b)=true):b=false:=by
 cases b with
 |false=>rfl|true=>exact no h
def aTc:SS T C (.setT t e):=λ X hX hf st h=>tQ (P:=λ st=>PS X st _) h λ _ v p h=>iZ (P:=λ ts=>PS X (.Assign ts v p) _) (aR h) λ tg g=>by
 have h1:=aBj (.inr hf) hX.nd hX.calm (aR g);revert h1;exact rC (P:=λ tg=>PG X tg (uA X.K t)->PS X (.Assign [tg] v p) (dL X.K (xs C (.setT t e)))) (aL g) λ ts k q _ h1=>PS.weak (aKC ((sn e).e X hX _ (aL (aL (aL h)))) h1 (aIv (aR (aL (aL h))) _ _) (aOK (aEN (aR (aL h)))) rfl) (aUe (aA8 X.K t))
def aUj:SS T C (.put o i e):=λ X hX hf st h=>tQ (P:=λ st=>PS X st _) h λ _ z p h=>iZ (P:=λ ts=>PS X (.Assign ts z p) _) (aR h) λ _ g=>xZ (P:=λ t=>PS X (.Assign [t] z p) _) g λ x y q g h3=>
 aXO ((sn o).e X hX _ (aL g)) ((sn i).e X hX _ (aR g)) ((sn e).e X hX _ (aL (aL h))) (aP1 h3) (aIv (aR (aL h)) _ _) aOg
def aSd:SS T C (.dput o i e):=λ X hX hf st h=>tQ (P:=λ st=>PS X st _) h λ _ z p h=>iZ (P:=λ ts=>PS X (.Assign ts z p) _) (aR h) λ _ g=>xZ (P:=λ t=>PS X (.Assign [t] z p) _) g λ x y q g h3=>
 aVn hX.hu ((sn o).e X hX _ (aL g)) ((sn i).e X hX _ (aR g)) ((sn e).e X hX _ (aL (aL h))) (uV (aR (aL h)) _ _ _)
def aTT(hb:pO T C b):SS T C (.loop t it b):=λ X hX hf st h=>aZL (P:=λ st=>PS X st _) h λ tg x y z p h=>jN (P:=λ z=>PS X (.For tg x y z p) _) (aL (aL (aL (aL h))))
 (aZh hX.own hX.calm ((sn it).i X hX _ _ (aR (aL (aL h)))) (aBj (.inr hf) hX.nd hX.calm (aR (aL (aL (aL h))))) (aA8 X.K t) (hb X hX hf _ (aR h)) (aCz (aR (aL h)) X.env))
def ss{C:Calls}(c:Sx):SS T C c/\pO T C c:=by
 have N2:∀ {c:Sx},SS T C c->(∀ N sc st,pC T N c sc st=false)->SS T C c/\pO T C c:=λ q hh=>(q,λ X hX hf st h=>by rw[hh] at h;exact no h,)
 induction c with
 |skip=>exact(λ X hX hf st h=>no h,aSm,)|seq a b bI cQ=>exact(λ X hX hf st h=>no h,aVu bI.1 cQ.2,)|expr e=>exact N2 aR3 λ _ _ _=>rfl|ret e=>exact N2 aVl λ _ _ _=>rfl|ifs c a b bI cQ=>exact N2 (aVo bI.2 cQ.2) λ _ _ _=>rfl|set i e=>exact N2 aVa λ _ _ _=>rfl|setC nw i e=>exact N2 aTe λ _ _ _=>rfl|setT t e=>exact N2 aTc λ _ _ _=>rfl|put o i e=>exact N2 aUj λ _ _ _=>rfl|dput o i e=>exact N2 aSd λ _ _ _=>rfl|loop t it b cQ=>exact N2 (aTT cQ.2) λ _ _ _=>rfl
structure Fn where
 name:Str
 np:Nat
 N:List Str
 body:Sx
 st:xu
 me:Bool:=false
 qual:Str:=name
structure Cl where
 ini:List (Str×Ini)
 np:Nat
 N:List Str
 st:xu
def aF(fs:List Fn):Nat->Calls
 |0=>λ _=>qx|d+1=>λ f=>(fs[f]?).map λ F=>(F.np,eY (xs (aF fs d) F.body) F.N.length)
structure Tbs where
 tb:List (Str×List (Str×Tv))
 cn:List (Str×List Tv)
 st:List (Str×Str)
 cl:Option Cl
def nM:Nat->List Fn->List (Str×Nat)
 |_,[]=>[]
 |i,F::r=>if F.me=true then (F.name,i)::nM (i+1) r else nM (i+1) r
def tab(fs:List Fn)(tb:Tbs):Tx:=(fs.map λ F=>(F.name,F.np),tb.tb,tb.cn,tb.st,nM 0 fs,tb.cl.map λ c=>(c.ini,c.np),)
def aLW:∀ {fs:List Fn}{i f:Nat}{F:Fn},fs[f]?=qz F->F.me=true->(F.name,i+f)∈nM i fs
 |[],i,f,F,e,_=>by simp at e
 |G::r,i,0,F,e,h=>by
   simp at e;subst e;rw[nM,if_pos h];exact xAc
 |G::r,i,f+1,F,e,h=>by
   have q:=@aLW r (i+1) f F (e:) h;rw[show i+1+f=i+(f+1) by omega] at q;rw[nM];split
   .exact xAf _ q
   .exact q
def aK9:∀ {fs:List Fn}{i f:Nat}{m:Str},(m,f)∈nM i fs->∃ F,i<=f/\fs[f-i]?=qz F/\F.me=true/\F.name=m
 |[],i,f,m,h=>by cases h
 |G::r,i,f,m,h=>by
   have bS:(m,f)∈nM (i+1) r->∃ F,i<=f/\(G::r)[f-i]?=qz F/\F.me=true/\F.name=m:=λ q=>by
    let(F,h1,h2,h3,h4):=aK9 q;refine(F,by omega,?_,h3,h4,);rw[show f-i=(f-(i+1))+1 by omega];simpa using h2
   rw[nM] at h;split at h
   .rename_i hm;rcases List.mem_cons.mp h with z|z
    .cases z;exact(G,yAb _,by rw[yBe];rfl,hm,rfl,)
    .exact bS z
   .exact bS h
def aDK(N:List Str)(sc:zy)(i:Nat)(e:qy):Bool:=jV (λ x _=>decide (N[i]?=qz x)&&pR sc x && !(x==("__debug__" : Str)) && !(x==("__classdict__" : Str))) e
def aJ8(N:List Str)(sc:zy)(i:Ini)(y:qy):Bool:=match i with|.arg j=>aDK N sc (j+1) y|.lst=>yZ (λ xs _=>xs.isEmpty) y|.dct=>kDi (λ ks vs _=>ks.isEmpty&&vs.isEmpty) y
def aAX(N:List Str)(sc:zy):List (Str×Ini)->List xu->Bool
 |[],l=>l.isEmpty
 | p::r,l=>(match l with
   |st::l=>pK (λ ts y _=>aJ8 N sc p.2 y&&oN y&&iL (λ t=>zB (λ o g _=>decide (g=p.1)&&aDK N sc 0 o) t) ts) st&&aAX N sc r l
   | []=>false)
def aJf(h:aDK X.N X.env.scope i e=true):PE X e (xW i):=nN (P:=λ e=>PE X e _) h λ y p h=>aJ1 (dT (aL (aL (aL h)))) (aKq (aR (aL (aL h)))) (pV (aR (aL h))) (pV (aR h))
def aSI(h:aJ8 X.N X.env.scope i y=true):PE X y (aMQ i):=by
 cases i with
 |arg j=>exact aJf h|lst=>exact aE5 (P:=λ y=>PE X y _) h λ xs p h=>jN (P:=λ xs=>PE X (.List xs p) _) h (aDL aJS)|dct=>exact aZ3 (P:=λ y=>PE X y _) h λ ks vs p h=>jN (P:=λ ks=>PE X (.Dict ks vs p) _) (aL h) (jN (P:=λ vs=>PE X (.Dict [] vs p) _) (aR h) aQX)
def aIs{X:Cx}:∀ {ini:List (Str×Ini)}{sts:List xu},aAX X.N X.env.scope ini sts=true->dJ X sts (xP X.K ini)
 |[],sts,h=>jN (P:=λ sts=>dJ X sts _) h aIG|p::r,[],h=>no h
 |p::r,st::sts,h=>by
   refine aHJ ?_ (aIs (aR h));exact tQ (P:=λ st=>PS X st _) (aL h) λ _ y q h=>iZ (P:=λ ts=>PS X (.Assign ts y q) _) (aR h) λ _ g=>aE4 (P:=λ t=>PS X (.Assign [t] y q) _) g λ o g p' h'=>by
    obtain rfl:=dT (aL h');exact aWT (aJf (aR h')) (aSI (aL (aL h))) (uV (aR (aL h)) _ _ _)
def vU:List Str->Bool
 |[]=>true|x::r=>!r.contains x&&vU r
def aAk:∀ {l:List Str},vU l=true->l.Nodup
 |[],_=>List.nodup_nil
 |x::r,h=>by
   let(h1,h2):=dI h;refine List.nodup_cons.mpr (λ z=>?_,aAk h2,);have:r.contains x=true:=(z:)
   rw[this] at h1;exact no h1
def aBJ(fs:List Fn)(tb:Tbs)(F:Fn):Bool:=
 decide ((cR F.st).kind=.function) && !(cR F.st).isCoroutine && !(cR F.st).isGenerator&&vU F.N&&decide (F.np<=F.N.length)&&(F.N.take F.np).all (loc (cR F.st))&&(cR F.st).names.all (λ y=>!decide (y.2=.free)) &&
  pC (tab fs tb) F.N F.body (cR F.st) (gO F.st)
def aJ5(h:loc sc x=true):sc.names.lookup x=qz .local\/sc.names.lookup x=qz .cell:=by unfold loc at h;split at h<;>first|exact .inl (by assumption)|exact .inr (by assumption)|exact no h
def aQU(h:aBJ fs tb F=true):FnScope F.N (F.N.take F.np) (cR F.st)/\pC (tab fs tb) F.N F.body (cR F.st) (gO F.st)=true/\(F.N.take F.np).length=F.np:=by
 let(h,h8):=dI h;let(h,h7):=dI h;let(h,h6):=dI h;let(h,h5):=dI h;let(h,h4):=dI h;let(h,h3):=dI h;let(h1,h2):=dI h;have hl:(F.N.take F.np).length=F.np:=by
  rw[yBo];have:=oqT h5;omega
 refine((oqT h1,?_,?_,aAk h4,by rw[hl],λ x hx=>aJ5 (List.all_eq_true.mp h6 x hx),λ y hy=>?_,),h8,hl,)
 .cases q:(cR F.st).isCoroutine with|false=>rfl|true=>rw[q] at h2;exact no h2
 .cases q:(cR F.st).isGenerator with|false=>rfl|true=>rw[q] at h3;exact no h3
 .have:=List.all_eq_true.mp h7 y hy;intro z;rw[dqT z] at this;exact no this
def yG(c:Cl):Bool:=
 decide ((cR c.st).kind=.function) && !(cR c.st).isCoroutine && !(cR c.st).isGenerator&&vU c.N&&decide (c.np<=c.N.length)&&(c.N.take c.np).all (loc (cR c.st))&&(cR c.st).names.all (λ y=>!decide (y.2=.free)) &&
  aAX c.N (cR c.st) c.ini (gO c.st)&&vU (c.ini.map (·.1))&&decide (c.ini.length<=1000)
def aRk(h:yG c=true):FnScope c.N (c.N.take c.np) (cR c.st)/\aAX c.N (cR c.st) c.ini (gO c.st)=true/\(c.N.take c.np).length=c.np/\(c.ini.map (·.1)).Nodup/\c.ini.length<=1000:=by
 let(h,h10):=dI h;let(h,h9):=dI h;let(h,h8):=dI h;let(h,h7):=dI h;let(h,h6):=dI h;let(h,h5):=dI h;let(h,h4):=dI h;let(h,h3):=dI h;let(h1,h2):=dI h;have hl:(c.N.take c.np).length=c.np:=by
  rw[yBo];have:=oqT h5;omega
 refine((oqT h1,aEN h2,aEN h3,aAk h4,by rw[hl],λ x hx=>aJ5 (List.all_eq_true.mp h6 x hx),λ y hy=>?_,),h8,hl,aAk h9,oqT h10,);have:=List.all_eq_true.mp h7 y hy;intro z;rw[dqT z] at this;exact no this
def aMR(K:FrG)(F:Fn):Prop:=∃ Cc fa fd,kK K Cc/\Cls K Cc/\Meth K Cc F.name fa/\Fun K F.name F.qual F.st fa fd/\gW K fd (F.N.take F.np) []
def aML(K:FrG)(mg:Str->Option qj)(c:Cl):Prop:=∃ Cc fi fd,kK K Cc/\Cls K Cc/\mg "Maker" = qz (.ref Cc)/\(∀ p∈c.ini,NoAttr K Cc p.1)/\Mk K Cc fi/\Fun K "__init__" "Maker.__init__" c.st fi fd/\gW K fd (c.N.take c.np) []
def aRK{mg:Str -> Option qj}(hk:yG c=true)(hc:Cls K Cc)(hn:∀ p∈c.ini,NoAttr K Cc p.1)(Fu:Fun K "__init__" "Maker.__init__" c.st fi fd):FnOk P w K mg base nW 1 fi fd (c.N.take c.np) (spM K Cc c.ini c.np):=by
 let(sc,hok,hl,nd,le):=aRk hk;refine Fu.ok sc (λ vs H Q E h=>?_) λ cdv A outer s H vs Q E hr h=>(_,aIs hok,aVI hc hn nd le h,)
 let(F,L,S,x,dx,ds,us,fs,S',rfl,hu,_):=h;rw[hl,<- hu];rfl
section
variable {P:zq}{w:zj}{K:FrG}{mg:Str->Option qj}{base:Heap}
def aJh(fs:List Fn)(tb:Tbs)(hk:∀ F∈fs,aBJ fs tb F=true)(top:∀ F∈fs,F.me=false->∃ fa fd,Fun K F.name F.name F.st fa fd/\mg F.name=qz (.ref fa)/\gW K fd (F.N.take F.np) [])(topM:∀ F∈fs,F.me=true->aMR K F)(hck:∀ c,tb.cl=qz c->yG c=true)(hcl:∀ c,tb.cl=qz c->aML K mg c)
 (hb:∀ x∈bltNames,mg x=qx) (ht:∀ x aI,(x,aI)∈tb.tb->∃ a,mg x=qz (.ref a)/\wM K w a aI) (hcn:∀ x ts,(x,ts)∈tb.cn->∃ a,mg x=qz (.ref a)/\sV K a ts) (hst:∀ x y,(x,y)∈tb.st->∃ t,mg x=qz (.str y t)) :
 ∀ d f F np call q fa fd,fs[f]?=qz F->aF fs d f=qz (np,call)->Fun K F.name q F.st fa fd->FnOk P w K mg base nW (d+2) fa fd (F.N.take F.np) (pN K np call)
 |0,f,F,np,call,q,fa,fd,eF,e,Fu=>by cases e
 |d+1,f,F,np,call,q,fa,fd,eF,e,Fu=>by
   have ih:=aJh fs tb hk top topM hck hcl hb ht hcn hst d;have e2:(F.np,eY (xs (aF fs d) F.body) F.N.length)=(np,call):=by
    have e':(fs[f]?).map (λ F=>(F.np,eY (xs (aF fs d) F.body) F.N.length))=qz (np,call):=e;rw[eF] at e';exact Option.some.inj e'
   cases e2;have hm:F∈fs:=xAk eF;let(sc,hok,hl):=aQU (hk F hm);refine Fu.ok sc (λ vs H Q E h=>?_) λ cdv A outer s H vs Q E hr h=>?_
   .let(F1,L,S,ws,w1,S',hn,R,dl,_):=h;rw[hl,<- hn];exact dl.length.symm
   .refine(_,(@ss (tab fs tb) (aF fs d) F.body).2 _ (sc.nd,rfl,rfl,sc.kind,(d+2,by omega,hr,λ f' np' call' x' e1 e2=>?_,λ m f' np' call' e1 e2=>?_,),λ ini np e=>?_,hb,λ x aI hx=>ht x aI hx,λ x ts hx=>hcn x ts hx,λ x y hx=>hst x y hx,) (λ _=>rfl) _ hok,aWS h,)
    .let(e2,e3):=dI e2;have e2:((fs.map λ F=>(F.name,F.np))[f']?).map (·.1)=qz x':=dT e2;rw[yAg] at e2;cases q:fs[f']? with
     |none=>rw[q] at e2;cases e2
     |some F'=>
       rw[q] at e2;have hx:F'.name=x':=Option.some.inj e2;subst hx;have hme:F'.me=false:=by
        cases z:F'.me with
        |false=>rfl
        |true=>
          have z1:=aLW (i:=0) q z;rw[yCx] at z1;have z2:((tab fs tb).mt.any λ p=>decide (p.2=f'))=true:=List.any_eq_true.mpr (_,z1,by simp,);rw[z2] at e3;exact no e3
       let(fa',fd',Fu',hmg',hbi'):=top F' (xAk q) hme;exact(fa',fd',_,hmg',Fu'.kp,hbi',ih f' F' np' call' _ fa' fd' q e1 Fu',)
    .let(F',_,h2,h3,rfl):=aK9 e2;rw[yIp] at h2;let(Cc,fa',fd',m1,m2,m3,m4,m5):=topM F' (xAk h2) h3;exact(Cc,fa',fd',_,m1,m2,m3,m5,ih f' F' np' call' _ fa' fd' h2 e1 m4,)
    .let(c,e1,e2):=map_some (show tb.cl.map (λ c=>(c.ini,c.np))=qz (ini,np) from e);cases e2;let(Cc,fi,fd',m1,m2,m3,m4,m5,m6,m7):=hcl c e1;exact(Cc,fi,fd',_,m1,m2,m3,m4,m5,m7,aRK (hck c e1) m2 m4 m6,)
end
structure TopFn(K:FrG)(F:Fn):Prop where
 me:F.me=false
 ex:∃ (f:qw) (oc:qj) (od an:Option qw) (sl:Array (Option qj)) (kV dc pm cd ct:qj),yCp K zk F.name=qz (qz (.ref f)) /\
  K.lookup f=qz (oc,od,.func (yCk F.name F.name (jI F.st) (gO F.st) (cR F.st) .none kV dc pm an cd ct),sl,)/\yDg K cd F.name=true/\yBt K (.ref f)=true
def top_mk{F:Fn}{kV:qj}(a:yCp K zk F.name=qz (qz (.ref f)))(l:K.lookup f=qz (oc,od,.func (yCk F.name F.name (jI F.st) (gO F.st) (cR F.st) .none kV dc pm an cd ct),sl,))(c:yDg K cd F.name=true)(k:yBt K (.ref f)=true)(m:F.me=false:=by rfl):TopFn K F:=
 (m,f,oc,od,an,sl,kV,dc,pm,cd,ct,a,l,c,k,)
structure TopMe(K:FrG)(F:Fn):Prop where
 me:F.me=true
 ex:∃ (Cc f:qw) (oc:qj) (od an:Option qw) (sl:Array (Option qj)) (kV dc pm cd ct:qj),kK K Cc/\Cls K Cc/\Meth K Cc F.name f /\
  K.lookup f=qz (oc,od,.func (yCk F.name F.qual (jI F.st) (gO F.st) (cR F.st) .none kV dc pm an cd ct),sl,)/\yDg K cd F.qual=true/\yBt K (.ref f)=true
def topm_mk{F:Fn}{kV:qj}(a:yCp K zk "Maker" = qz (qz (.ref Cc)))(c1:yEn K Cc Str.empty=true)(c2:yEy K Cc=true)(c3:yGj K Cc=true)(c4:yBk K (.ref Cc) "__setattr__" = qz (qz (.builtin "object.__setattr__")))(m1:yBk K (.ref Cc) F.name=qz (qz (.ref f)))(m2:yHn K (.ref f)=true)(l:K.lookup f=qz (oc,od,.func (yCk F.name F.qual (jI F.st) (gO F.st) (cR F.st) .none kV dc pm an cd ct),sl,))(c:yDg K cd F.qual=true)(k:yBt K (.ref f)=true)(m:F.me=true:=by rfl):TopMe K F:=
 (m,Cc,f,oc,od,an,sl,kV,dc,pm,cd,ct,a,(c1,c2,c3,c4,),(m1,m2,k,),l,c,k,)
structure TopCl(K:FrG)(c:Cl):Prop where
 ex:∃ (Cc f:qw) (oc:qj) (od an:Option qw) (sl:Array (Option qj)) (kV dc pm cd ct:qj),kK K Cc/\Cls K Cc/\(∀ p∈c.ini,NoAttr K Cc p.1)/\Mk K Cc f /\
  K.lookup f=qz (oc,od,.func (yCk "__init__" "Maker.__init__" (jI c.st) (gO c.st) (cR c.st) .none kV dc pm an cd ct),sl,)/\yDg K cd "Maker.__init__" = true/\yBt K (.ref f)=true
def topc_mk{c:Cl}{kV:qj}(a:yCp K zk "Maker" = qz (qz (.ref Cc)))(c1:yEn K Cc Str.empty=true)(c2:yEy K Cc=true)(c3:yGj K Cc=true)(c4:yBk K (.ref Cc) "__setattr__" = qz (qz (.builtin "object.__setattr__")))(n:∀ p∈c.ini,NoAttr K Cc p.1)(m1:yIn K Cc=true)(m2:yBk K (.ref Cc) "__init__" = qz (qz (.ref f)))(m3:yHn K (.ref f)=true)(m4:yBt K (.ref Cc)=true)(l:K.lookup f=qz ⟨oc,od,.func (yCk "__init__" "Maker.__init__" (jI c.st) (gO c.st) (cR c.st) .none kV dc pm an cd ct),sl⟩)(cc:yDg K cd "Maker.__init__" = true)(k:yBt K (.ref f)=true):TopCl K c:=
 (Cc,f,oc,od,an,sl,kV,dc,pm,cd,ct,a,(c1,c2,c3,c4,),n,(m1,m2,m3,m4,),l,cc,k,)
def Cl.fn(c:Cl):Fn:={name:="__init__",np:=c.np,N:=c.N,body:=.skip,st:=c.st,qual:="Maker.__init__" }
structure TabTop(K:FrG)(w:zj)(t:Str×List (Str×Tv)):Prop where
 ex:∃ (a:qw) (es:Array DictEntry) (ep:Nat),yCp K zk t.1=qz (qz (.ref a))/\(a==sysModules)=false/\K.lookup a=qz {cls:=.type "dict",data:=.dict es ep }/\tF w es.toList t.2
def tab_mk{t:Str×List (Str×Tv)}{es:Array DictEntry}(a1:yCp K zk t.1=qz (qz (.ref a)))(l1:K.lookup a=qz {cls:=.type "dict",data:=.dict es ep })(c1:tF w es.toList t.2)(s1:(a==sysModules)=false):TabTop K w t:=(a,es,ep,a1,s1,l1,c1,)
structure ConTop(K:FrG)(t:Str×List Tv):Prop where
 ex:∃ a:qw,yCp K zk t.1=qz (qz (.ref a))/\sV K a t.2
def con_mk{t:Str×List Tv}{aG:Array qj}(a1:yCp K zk t.1=qz (qz (.ref a)))(l1:K.lookup a=qz {cls:=.type "tuple",dict:=od,data:=.seq aG n,slots:=sl })(z1:aG.size<=100)(c1:aBl aG.toList t.2):ConTop K t:=
 (a,a1,_,aG,n,l1,rfl,rfl,xAh z1 (·),c1,)
structure StTop(K:FrG)(t:Str×Str):Prop where
 ex:∃ k:Tok,yCp K zk t.1=qz (qz (.str t.2 k))
def vC(F:Fn):Prop:=∀ (qq:Str) (kV doc pm:qj) (an:Option qw) (cdv ct:qj) (us:List qj),↑us=(F.N.take F.np).length->bindArgs (yCk F.name qq (jI F.st) (gO F.st) (cR F.st) .none kV doc pm an cdv ct) ⟨us,[]⟩=pure ((F.N.take F.np).zip us)
def aEo(F:Fn):Bool:=match jI F.st with|⟨[],as,qx,[],_,qx,_⟩=>decide (F.N.take F.np=as.map (·.arg))&&decide (F.N.take F.np).Nodup|_=>false
def aIa:∀ {ns:List Str}{us:List qj},ns.Nodup->↑us=↑ns->(∀ n∈ns,((ns.zip us).lookup n).isNone=false)/\ns.filterMap (λ n=>((ns.zip us).lookup n).map (n,·))=ns.zip us
 |[],us,_,_=>(λ n h=>(nomatch h),by cases us<;>rfl,)|x::ns,[],_,h=>by cases h
 |x::ns,u::us,hn,hl=>by
   let(h1,h2):=List.nodup_cons.mp hn;let(i1,i2):=aIa h2 (Nat.succ.inj hl);have e:∀ n∈ns,((x,u)::ns.zip us).lookup n=(ns.zip us).lookup n:=λ n m=>by
    rw[yBp];have:(n==x)=false:=by
     rw[beq_eq_false_iff_ne];rintro rfl;exact h1 m
    rw[this]
   refine(λ n m=>?_,?_,)
   .rw[yDt];rcases List.mem_cons.mp m with rfl|m
    .rw[yBp,beq_self_eq_true];rfl
    .rw[e n m];exact i1 n m
   .rw[yDt,yCh,yBp,beq_self_eq_true];show(x,u)::_=_;congr 1;rw[<- i2];rw[i2];have g:∀ l:List Str,(∀ n∈l,n∈ns)->l.filterMap (λ n=>(((x,u)::ns.zip us).lookup n).map (n,·))=l.filterMap (λ n=>((ns.zip us).lookup n).map (n,·)):=λ l=>by
     induction l with
     |nil=>intro _;rfl|cons y l ih=>intro hl;rw[yCh,yCh,e y (hl y xAc),ih λ n m=>hl n (xAf _ m)]
    rw[g ns λ n m=>m,i2]
def aHx(h:aEo F=true):vC F:=by
 intro qq kV doc pm an cdv ct us hu;unfold aEo at h;split at h
 .rename_i as kd df e;let(h1,h2):=dI h;have h1:=oqT h1;rw[e];rw[h1] at hu h2 ⊢;let(i1,i2):=aIa (oqT h2) hu;have m:((as.map (·.arg)).take (as.map (·.arg)).length).filter (λ n=>(((as.map (·.arg)).zip us).lookup n).isNone)=[]:=by
   rw[yAj,List.filter_eq_nil_iff];intro n hn;rw[i1 n hn];decide
  unfold bindArgs;have q:seqItems? Value.none=(pure qx:Sem (Option (Array qj))):=rfl;simp only[yCk,q,pure_bind,yDp,yGa,yBi,List.forIn_nil,yIi,yCm,List.drop_nil,List.zip_nil_right,yIp,hu,gt_iff_lt,yBl,decide_false,yCe,yAm,if_false,m,List.isEmpty_nil,yFz,i2,Option.isNone_none]
 .exact no h
def aGn:∀ {ns:List Int}{i:Int},i∈ns->yAn i<=PySem.W.WData.weightAll (ns.map PySem.W.WData.int)
 |[],i,h=>by cases h
 |n::r,i,h=>by
   have e:PySem.W.WData.weightAll ((n::r).map PySem.W.WData.int)=yAn n+1+PySem.W.WData.weightAll (r.map PySem.W.WData.int):=rfl;rw[e];rcases List.mem_cons.mp h with z|z
   .subst z;omega
   .have:=aGn z;omega
def aQH{ns:List Int}(h:PySem.W.WData.layableAll [PySem.W.WData.list (ns.map PySem.W.WData.int)]=true):∀ i∈ns,yAn i<=1048576:=λ i hi=>by
 have h1:PySem.W.WData.layable (PySem.W.WData.list (ns.map PySem.W.WData.int))=true:=by
  have:=List.all_eq_true.mp h _ xAc;exact this
 have h2:PySem.W.WData.weight (PySem.W.WData.list (ns.map PySem.W.WData.int))<=2^20:=oqT (dI h1).2;exact xAh (aGn hi) h2
def aRX{l:PySem.W.OpenLaw}{XP:(Str->Option qj)->Heap->Prop}{YP:zj->Heap->Prop}{d:DefRec}(hn:l.most=qz n)(hdf:d.params.defaults=[])(go:∀ (w:zj) (s₀ s₁:qv) (mg mb:Str->Option qj) (fa:qw) (a:qw) (vs:List qj) (ns:List Int),
   PySem.W.Ground q loose [] XP w s₀ mg mb s₁.heap->YP w s₁.heap->mg d.name=qz (.ref fa) ->
   s₁.heap.get? a=qz {cls:=.type "list",data:=.seq vs.toArray }->IntsAre vs ns->↑ns<=n->(∀ i∈ns,yAn i<=1048576)->s₁.gens = #[] ->
   jj (model l.prog w) callerA (.call (.ref fa) ([.ref a],[],)) (λ r s'=>r=.ok (.ret (.bool true))/\OldK s₁.heap s'.heap/\s'.os=s₁.os/\AllBare s'.gens) s₁) :
 PySem.W.WalkO q loose XP YP l.row.toRowW d [] (λ f vs=>PySem.call f vs):=by intro w s₀ s₁ mg mb G Y fa o pm cd doc dV kV ho hd hcd hD hmg hg args vals as hpre hlay hrd hwl hlo;obtain rfl:dV=.none:=PySem.W.Dflts.none hD hdf;obtain rfl:kV=.none:=PySem.W.Dflts.noKw hD;let(a,vs,ns,rfl,rfl,hobj,hints,cJ):=Att.script_of hn hpre hwl;refine PySem.W.enter_call (codeAny_mono (go w s₀ s₁ mg mb fa a vs ns G Y hmg hobj hints cJ (aQH hlay) hg) λ r s' hq=>?_);let(rfl,h2,h3,h4):=hq;exact(.inl (.bool true,.bool true,[],rfl,λ _=>rfl,.bool true,Att.post_true l _,λ _=>(List.Pairwise.nil,λ _ hm=>(nomatch hm),),),h2,h3,h4,)
def law_of{l:PySem.W.OpenLaw}{XP:(Str->Option qj)->Heap->Prop}{YP:zj->Heap->Prop}{d:DefRec}{K:Params->FrG}(fs:List Fn)(tb:Tbs)(f D:Nat)(L:Fn)(x:Str)(hn:l.most=qz 63)(hdf:d.params.defaults=[])(hr:Room (D+2) callerA)(hY:∀ (w:zj) (h:Heap),YP w h->(K w.params).In h)(hk:∀ F∈fs,aBJ fs tb F=true)(hb:∀ F∈fs,vC F)(hL:fs[f]?=qz L)(hname:L.name=d.name)(hps:L.N.take L.np=[x])(hme:L.me=false)(top:∀ w:zj,∀ h:Heap,(K w.params).In h->∀ F∈fs,TopFn (K w.params) F\/TopMe (K w.params) F)(ck:∀ c,tb.cl=qz c->yG c=true/\vC c.fn)(clt:∀ w:zj,∀ h:Heap,(K w.params).In h->∀ c,tb.cl=qz c->TopCl (K w.params) c)(tbl:∀ w:zj,∀ h:Heap,(K w.params).In h->∀ t∈tb.tb,TabTop (K w.params) w t)(cnl:∀ w:zj,∀ h:Heap,(K w.params).In h->∀ t∈tb.cn,ConTop (K w.params) t)(stl:∀ w:zj,∀ h:Heap,(K w.params).In h->∀ t∈tb.st,StTop (K w.params) t)(tbn:∀ w:zj,∀ h:Heap,(K w.params).In h->∀ x∈bltNames,yCp (K w.params) zk x=qz qx)(main:∀ ns:List Int,↑ns<=63->(∀ i∈ns,yAn i<=1048576)->∃ call S',aF fs D f=qz (1,call)/\call [.d (.list (ns.map yAo))] []=qz (.d (.bool true),S')) :
 PySem.W.WalkO q loose XP YP l.row.toRowW d [] (λ f vs=>PySem.call f vs):=by
 let(call,S0,hcall,_):=main [] (by simp) (by simp);refine aRX hn hdf λ w s₀ s₁ mg mb fa a vs ns G Y hmg hobj hints cJ hsm hg=>?_
 have KX:=hY w _ Y;have tops:∀ F∈fs,F.me=false->∃ fa fd,Fun (K w.params) F.name F.name F.st fa fd/\mg F.name=qz (.ref fa)/\gW (K w.params) fd (F.N.take F.np) []:=λ F hF hme=>by
  rcases top w _ KX F hF with t|t
  .let(f,oc,od,an,sl,kV,dc,pm,cd,ct,a,l,c,k):=t.ex;have Fu:=aDO (st:=F.st) l c k;exact(f,_,Fu,yGw KX G.T.g a,Fu.binds (hb F hF _),)
  .rw[t.me] at hme;cases hme
 have topM:∀ F∈fs,F.me=true->aMR (K w.params) F:=λ F hF hme=>by
  rcases top w _ KX F hF with t|t
  .rw[t.me] at hme;cases hme
  .let(Cc,f,oc,od,an,sl,kV,dc,pm,cd,ct,a1,a2,a3,l,c,k):=t.ex;have Fu:=aDO (st:=F.st) l c k;exact(Cc,f,_,a1,a2,a3,Fu,Fu.binds (hb F hF _),)
 have hcl:∀ c,tb.cl=qz c->aML (K w.params) mg c:=λ c hc=>by
  let(Cc,f,oc,od,an,sl,kV,dc,pm,cd,ct,a1,a2,a3,a4,l,cc,k):=(clt w _ KX c hc).ex;have Fu:=aDO (st:=c.st) l cc k;exact(Cc,f,_,a1,a2,yGw KX G.T.g a1,a3,a4,Fu,Fu.binds ((ck c hc).2 _),)
 have hblt:∀ x∈bltNames,mg x=qx:=λ y hy=>PySem.W.mg_none_of KX G.T.g (tbn w _ KX y hy)
 have htab:∀ x aI,(x,aI)∈tb.tb->∃ a,mg x=qz (.ref a)/\wM (K w.params) w a aI:=λ x aI hx=>by
  let(a,es,ep,a1,s1,l1,c1):=(tbl w _ KX (x,aI) hx).ex;exact(a,yGw KX G.T.g a1,s1,es,ep,l1,c1,)
 have hcon:∀ x ts,(x,ts)∈tb.cn->∃ a,mg x=qz (.ref a)/\sV (K w.params) a ts:=λ x ts hx=>by
  let(a,a1,c1):=(cnl w _ KX (x,ts) hx).ex;exact(a,yGw KX G.T.g a1,c1,)
 have hst:∀ x y,(x,y)∈tb.st->∃ t,mg x=qz (.str y t):=λ x y hx=>by
  let(k,a1):=(stl w _ KX (x,y) hx).ex;exact(k,yGw KX G.T.g a1,)
 let(fa1,fd,Fu,hmg1,hbi):=tops L (xAk hL) hme;rw[<- hname,hmg1] at hmg;cases hmg;refine L2.law_call (fd:=fd) (sp:=pN (K w.params) 1 call) (CX:=nW) (x:=x) KX G.T.g G.T.b G.T.builtins G.T.nolimit hg hobj hints (xAh cJ (·)) hr (λ base kb nb=>?_) (λ s u=>?_) (λ H hO hS=>?_) λ _ _ _ z=>z
 .have P1:=@aJh l.prog w _ _ base fs tb hk tops topM (λ c hc=>(ck c hc).1) hcl hblt htab hcon hst D f L 1 call _ _ _ hL hcall Fu;rw[hps] at P1;exact P1
 .let(oc,od,kV,doc,pm,an,cdv,ct,osl,rfl,lk,hcd):=Fu.ex;have:=hb L (xAk hL) L.name kV doc pm an cdv ct [u] (by rw[hps];rfl);rw[hps] at this;exact .of_eq this
 .let(call',S',hcall',hrun):=main ns cJ hsm;rw[hcall] at hcall';cases hcall';refine(H,[],[],[.d (.list (ns.map yAo))],.d (.bool true),S',rfl,(bV.refl _,List.nodup_nil,rfl,λ n a ds e=>by simp at e,λ n a ds e=>by simp at e,λ n a b e=>by simp at e,),.cons (Den.lst hS (DenL.of_ints ns)) .nil,hrun,λ F' L' H' v g R d=>?_,);cases (show Den (K w.params) F' (.bool true) v from d);rfl
end EV
namespace EV
open PySem L2
def aAr{α:Type}(S:List α)(a b:α):(S++[a]).set ↑S b=S++[b]:=by simp
def aCX{α:Type}{t:Tg}{fc:FT}{fe:FE}{S:aC}(enc g:α->D)(p:α->Bool):∀ (l:List α) (aO:List D),aO.length+↑l<=qk ->
 (∀ a∈l,∃ e1,t.put (enc a) env=qz e1/\(∀ S',fc e1 S'=qz (p a,S'))/\(p a=true->∀ S',fe e1 S'=qz (.d (g a),S'))) ->
 gE t fc fe ↑S env (l.map enc) (S++[qz aO])=qz (S++[qz (aO++(l.filter p).map g)])
 |[],aO,_,_=>by simp[gE]
 |a::l,aO,hz,h=>by
   let(e1,h1,h2,h3):=h a xAc;have hlt:aO.length<qk:=by simp at hz;omega
   have bS:=λ x (hx:x∈l)=>h x (xAf _ hx)
   simp only[yAf,gE,h1,yCf,h2];cases hp:p a with
   |false=>
     simp only[yAm,if_false];rw[aCX enc g p l aO (by simp at hz;omega) bS];simp[yBr,hp]
   |true=>
     have ea:eO (S++[qz aO]) (.loc ↑S) (.d (g a))=qz (.d .none,S++[qz (aO++[g a])]):=by
      unfold eO;simp only[yAi (yAb ↑S),yBe,yCc];rw[if_pos hlt,aAr]
     simp only[if_true,h3 hp,yCf,ea];rw[aCX enc g p l (aO++[g a]) (by simp at hz ⊢;omega) bS];simp[yBr,hp]
def uP{α:Type}{t:Tg}{fi:FL}{fc:FT}{fe:FE}(enc g:α->D)(p:α->Bool)(l:List α)(hi:fi env S=qz (l.map enc,S1))(hz:↑l<=qk)(h:∀ a∈l,∃ e1,t.put (enc a) (clr t.slots env)=qz e1/\(∀ S',fc e1 S'=qz (p a,S'))/\(p a=true->∀ S',fe e1 S'=qz (.d (g a),S'))):iI t fi fc fe env S=qz ((l.filter p).map g,S1):=by unfold iI;rw[hi];simp only[yCf];rw[aCX enc g p l [] (hz:) h];simp
def aC2{α:Type}{t:Tg}{fc:FT}{fe:FE}{env:aX}{S:aC}(enc g:α->D)(p:α->Bool):∀ (l:List α) (aO:List D),aO.length+↑l<=qk ->
 (∀ a∈l,∃ e1,t.put (enc a) env=qz e1/\(∀ aO,fc e1 (S++[qz aO])=qz (p a,S++[qz aO]))/\(p a=true->∀ aO,fe e1 (S++[qz aO])=qz (.d (g a),S++[qz aO]))) ->
 gE t fc fe ↑S env (l.map enc) (S++[qz aO])=qz (S++[qz (aO++(l.filter p).map g)])
 |[],aO,_,_=>by simp[gE]
 |a::l,aO,hz,h=>by
   let(e1,h1,h2,h3):=h a xAc;have hlt:aO.length<qk:=by simp at hz;omega
   have bS:=λ x (hx:x∈l)=>h x (xAf _ hx)
   simp only[yAf,gE,h1,yCf,h2];cases hp:p a with
   |false=>
     simp only[yAm,if_false];rw[aC2 enc g p l aO (by simp at hz;omega) bS];simp[yBr,hp]
   |true=>
     have ea:eO (S++[qz aO]) (.loc ↑S) (.d (g a))=qz (.d .none,S++[qz (aO++[g a])]):=by
      unfold eO;simp only[yAi (yAb ↑S),yBe,yCc];rw[if_pos hlt,aAr]
     simp only[if_true,h3 hp,yCf,ea];rw[aC2 enc g p l (aO++[g a]) (by simp at hz ⊢;omega) bS];simp[yBr,hp]
def aQL{α:Type}{t:Tg}{fi:FL}{fc:FT}{fe:FE}(enc g:α->D)(p:α->Bool)(l:List α)(hi:fi env S=qz (l.map enc,S1))(hz:↑l<=qk)(h:∀ a∈l,∃ e1,t.put (enc a) (clr t.slots env)=qz e1/\(∀ aO,fc e1 (S1++[qz aO])=qz (p a,S1++[qz aO]))/\(p a=true->∀ aO,fe e1 (S1++[qz aO])=qz (.d (g a),S1++[qz aO]))):iI t fi fc fe env S=qz ((l.filter p).map g,S1):=by unfold iI;rw[hi];simp only[yCf];rw[aC2 enc g p l [] (hz:) h];simp
def sF{α:Type}{t:Tg}{fi:FL}{fe:FE}(enc g:α->D)(l:List α)(hi:fi env S=qz (l.map enc,S1))(hz:↑l<=qk)(h:∀ a∈l,∃ e1,t.put (enc a) (clr t.slots env)=qz e1/\∀ S',fe e1 S'=qz (.d (g a),S')):iI t fi kO fe env S=qz (l.map g,S1):=by rw[uP (fc:=kO) enc g (λ _=>true) l hi hz λ a ha=>let ⟨e1,h1,h2⟩:=h a ha;(e1,h1,λ _=>rfl,λ _=>h2,)];rw[List.filter_eq_self.mpr (λ _ _=>rfl)]
def aH6{t:Tg}{fb:FS}(P:aX->Prop):∀ (ds:List D) (env:aX),P env->(∀ d∈ds,∀ env,P env->∃ e1 aM,t.put d env=qz e1/\fb e1 S=qz (.nx aM,S)/\P aM) ->
 ∃ aM,kQ t fb ds env S=qz (.nx aM,S)/\P aM
 |[],env,h0,_=>(env,rfl,h0,)
 |d::ds,env,h0,h=>by
   let(e1,aM,h1,h2,h3):=h d xAc env h0;let(env2,h4,h5):=aH6 P ds aM h3 λ x hx=>h x (xAf _ hx)
   exact(env2,by simp only[kQ,h1,yCf,h2];exact h4,h5,)
def aHT(n:Nat):∀ lo:Int,kS lo n=(yBw n).map λ k=>yAo (lo+(k:Nat)):=by
 induction n with
 |zero=>intro lo;rfl
 |succ n ih=>
   intro lo;rw[kS,ih,List.range_succ_eq_map,yAf,yBv];congr 1
   .simp
   .apply yDl;intro k _;simp only[Function.comp];congr 1
    push_cast
    omega
end EV
namespace BM
def uT(n:Nat):0<2^n:=xAe n
def oZ(n w:Nat):List Bool:=(yBw w).map n.testBit
def aPV(n w i:Nat):(oZ n w).getD i false=(decide (i<w)&&n[i]!):=by
 unfold oZ;by_cases h:i<w
 .simp[List.getD,h]
 .simp[List.getD,h]
def dM(h:n<2^w)(hi:w<=i):n[i]! =false:=yGi (xAb h (yAw (·) hi))
def bl(n:Nat):Nat:=if n=0 then 0 else n.log2+1
def vT(h:n≠0):bl n=n.log2+1:=if_neg h
def qQ(n:Nat):n<2^bl n:=by
 by_cases h:n=0
 .subst h;decide
 .rw[vT h];exact Nat.lt_log2_self
def sQ(h:n≠0):n[(bl n-1)]! =true:=by
 rw[vT h,yHs];have h1:2^n.log2<=n:=Nat.log2_self_le h;have h2:n<2^(n.log2+1):=Nat.lt_log2_self;rw[yGe];have:n/2^n.log2=1:=by
  apply Nat.div_eq_of_lt_le
  .omega
  .rw[yFr] at h2;omega
 simp[this]
def tE(h:n<2^w):bl n<=w:=by
 by_cases h0:n=0
 .subst h0;simp[bl]
 .rw[vT h0];exact(Nat.log2_lt h0).mpr h
def aCM(h1:n<2^k)(h2:k=0\/n[(k-1)]! =true):bl n=k:=by
 rcases h2 with h2|h2
 .subst h2;have:n=0:=(h1:)
  subst this;rfl
 .have h3:=tE h1;rcases Nat.lt_or_ge (bl n) k with h4|h4
  .exfalso;have:=dM (qQ n) (show bl n<=k-1 by omega);rw[this] at h2;cases h2
  .omega
def dW(w i:Nat):(2^w-1)[i]! =decide (i<w):=Nat.testBit_two_pow_sub_one w i
def mB(l:List Bool):Nat:=(l.takeWhile id).length
def aG5(r:List Bool):mB (true::r)=mB r+1:=by simp[mB]
def aGt(r:List Bool):mB (false::r)=0:=by simp[mB]
def aH2:∀ (l:List Bool) (i:Nat),i<mB l->l[i]?=qz true
 |[],i,h=>by simp[mB] at h|false::r,i,h=>by simp[aGt] at h|true::r,0,h=>rfl|true::r,i+1,h=>by rw[aG5] at h;simpa using aH2 r i (!_)
def aN6(m:Nat):(2*m+1)^^^(2*m+1+1)=2*(m^^^(m+1))+1:=by
 apply xAl;intro i;cases i with
 |zero=>rw[xAo];simp[yDo];omega
 |succ i=>
   rw[xAo,yDb,yDb,yDb];rw[show(2*m+1)/2=m by omega,show(2*m+1+1)/2=m+1 by omega,show(2*(m^^^(m+1))+1)/2=(m^^^(m+1)) by omega,xAo]
def aNU(m:Nat):(2*m)^^^(2*m+1)=1:=by
 apply xAl;intro i;cases i with
 |zero=>rw[xAo];simp[yDo]
 |succ i=>
   rw[xAo,yDb,yDb,yDb];rw[show(2*m)/2=m by omega,show(2*m+1)/2=m by omega];simp
def aPP(x:Nat):bl (2*x+1)=bl x+1:=by
 apply aCM
 .have:=qQ x;rw[yFr];omega
 .right;rw[yHs];by_cases h:x=0
  .subst h;rfl
  .have h2:=sQ h;have h3:bl x=(bl x-1)+1:=by rw[vT h];omega
   rw[h3,yDb,show(2*x+1)/2=x by omega];exact h2
def aGs(n:Nat):n^^^(n+1)≠0:=by
 intro h;have:n=n+1:=by
  have:=congrArg (λ z=>z^^^(n+1)) h;simpa [Nat.xor_assoc] using this
 omega
def aCB(h:n≠0):1<=bl n:=by rw[vT h];omega
def aOI(n w:Nat):oZ n (w+1)=n[0]!::oZ (n/2) w:=by unfold oZ;rw[List.range_succ_eq_map,yAf,yBv];congr 1;apply yDl;intro i _;simp only[Function.comp];exact yDb n i
def aGF:∀ (w n:Nat),n<2^w->bl (n^^^(n+1))-1=mB (oZ n w)
 |0,n,h=>by
   have:n=0:=(h:)
   subst this;rfl
 |w+1,n,h=>by
   rw[aOI];have hd:n/2<2^w:=by rw[yFr] at h;omega
   have ih:=aGF w (n/2) hd;rcases yAp n with p|p
   .have e:n=2*(n/2):=by omega
    have e2:n^^^(n+1)=1:=by rw[e];exact aNU _
    rw[e2,yDo,p];rw[show bl 1=1 from by decide];simp[aGt]
   .have e:n=2*(n/2)+1:=by omega
    have e2:n^^^(n+1)=2*((n/2)^^^(n/2+1))+1:=by
     have:=aN6 (n/2);rw[<- e] at this;exact this
    rw[e2,aPP,yDo,p];simp only[decide_true,aG5];have:=aCB (aGs (n/2));omega
def hi(l:List Bool):Nat:=↑l-mB (l.reverse.map (!·))
def aOl(h:n<2^w):n^^^(2^w-1)<2^w:=yEr h (by have:=uT w;omega)
def fF(n w v:Nat):Nat:=if n&&&2^(w-1)=0 then n else n|||((2^v-1)^^^(2^w-1))
def aFY(n k:Nat):(n&&&2^k=0) ↔ n[k]! =false:=by
 constructor
 .intro h;have:=congrArg (λ z=>z[k]!) h;simpa [yAk,Nat.testBit_two_pow_self] using this
 .intro h;apply xAl;intro i;rw[yAk,yFk,yCa];by_cases e:k=i
  .subst e;simp[h]
  .simp[e]
def aF3(h:n<2^w)(hw:0<w)(hv:w<=v)(i:Nat):(fF n w v)[i]! =if i<w then n[i]! else (decide (i<v)&&n[(w-1)]!):=by
 unfold fF;cases e:n[(w-1)]! with
 |false=>
   rw[if_pos ((aFY _ _).mpr e)];split
   .rfl
   .rw[dM h (!_)];simp
 |true=>
   rw[if_neg (λ z=>by rw[(aFY _ _).mp z] at e;cases e)];rw[xAp,xAo,dW,dW];split
   .rename_i hi;have:i<v:=by omega
    simp[hi,this]
   .rename_i hi;rw[dM h (!_)];simp[hi]
def aCk(h:n<2^w)(hw:0<w)(hv:w<=v):fF n w v<2^v:=by
 apply yCv;intro i hi;rw[aF3 h hw hv,if_neg (!_)];have:¬ i<v:=by omega
 simp[this]
def aAT(x d:Nat):Nat:=x/2^d*2^d
def zV(x d i:Nat):(aAT x d)[i]! =(decide (d<=i)&&x[i]!):=by
 unfold aAT;rw[Nat.testBit_mul_two_pow];by_cases h:d<=i
 .simp[h,yDf,show i-d+d=i by omega]
 .simp[h]
def rE(x w:Nat):Nat:=2^w-1-x
def sE(h:x<2^w)(i:Nat):(rE x w)[i]! =(decide (i<w) && !x[i]!):=by unfold rE;rw[show 2^w-1-x=2^w-(x+1) by omega];exact Nat.testBit_two_pow_sub_succ h i
def wA(l g w:Nat):Nat:=(2^w-1)^^^(2^bl (l^^^g)-1)
def aCp(hl:l<2^w)(hg:g<2^w)(i:Nat):(wA l g w)[i]! =(decide (i<w)&&decide (bl (l^^^g)<=i)):=by
 unfold wA;rw[xAo,dW,dW];have hd:bl (l^^^g)<=w:=tE (yEr hl hg);by_cases h1:i<w<;>by_cases h2:i<bl (l^^^g)
 .simp[h1,h2,show ¬ bl (l^^^g)<=i by omega]
 .simp[h1,h2,show bl (l^^^g)<=i by omega]
 .omega
 .simp[h1,h2]
def oT(l g w:Nat):Nat:=wA l g w&&&l
def uZ(l g w:Nat):Nat:=wA l g w^^^oT l g w
def aQT(hl:l<2^w)(hg:g<2^w):oT l g w=aAT l (bl (l^^^g)):=by
 apply xAl;intro i;rw[oT,yAk,aCp hl hg,zV];by_cases h1:i<w
 .simp[h1]
 .rw[dM hl (!_)];simp
def aOs(hl:l<2^w)(hg:g<2^w):uZ l g w=aAT (rE l w) (bl (l^^^g)):=by apply xAl;intro i;rw[uZ,xAo,oT,yAk,aCp hl hg,zV,sE hl];by_cases h1:i<w<;>by_cases h2:bl (l^^^g)<=i<;>cases l[i]!<;>simp[h1,h2]
def bAN(h:bl (l^^^g)<=i):l[i]! =g[i]!:=by have:=dM (qQ (l^^^g)) h;rw[xAo] at this;cases a:l[i]!<;>cases b:g[i]!<;>simp[a,b] at this ⊢
def bAK(h:bl (l^^^g)≠0):l[(bl (l^^^g)-1)]!≠g[(bl (l^^^g)-1)]!:=by
 have h0:l^^^g≠0:=λ z=>by rw[z] at h;exact h rfl
 have:=sQ h0;rw[xAo] at this;intro z;rw[z] at this;simp at this
def aPr(h:l^^^g<2^d):l/2^d=g/2^d:=by apply xAl;intro i;rw[yDf,yDf];have:=dM h (show d<=i+d by omega);rw[xAo] at this;cases a:l[(i+d)]!<;>cases b:g[(i+d)]!<;>simp[a,b] at this ⊢
def aOj(h1:l<=m)(h2:m<=g):m/2^bl (l^^^g)=l/2^bl (l^^^g):=by have e:=aPr (qQ (l^^^g));have a:=Nat.div_le_div_right (c:=2^bl (l^^^g)) h1;have b:=Nat.div_le_div_right (c:=2^bl (l^^^g)) h2;omega
def aF7(h1:l<=m)(h2:m<=g)(hi:bl (l^^^g)<=i):m[i]! =l[i]!:=by have:=congrArg (λ z=>z[(i-bl (l^^^g))]!) (aOj h1 h2);simp only[yDf] at this;rwa [show i-bl (l^^^g)+bl (l^^^g)=i by omega] at this
def aNK(hl:l<2^w)(hg:g<2^w)(h1:l<=m)(h2:m<=g):m&&&uZ l g w=0:=by
 apply xAl;intro i;rw[yAk,aOs hl hg,zV,sE hl,yCa];by_cases h:bl (l^^^g)<=i
 .rw[aF7 h1 h2 h];cases l[i]!<;>simp
 .simp[h]
def aN1(hl:l<2^w)(hg:g<2^w)(h1:l<=m)(h2:m<=g):m&&&oT l g w=oT l g w:=by
 apply xAl;intro i;rw[yAk,aQT hl hg,zV];by_cases h:bl (l^^^g)<=i
 .rw[aF7 h1 h2 h];cases l[i]!<;>simp
 .simp[h]
end BM
namespace BM
def iX(n k i:Nat):(n/2^k)[i]! =n[(k+i)]!:=by rw[yDf,yDr]
def oI(n:Nat):n=0 ↔ ∀ i,n[i]! =false:=by
 constructor
 .rintro rfl i;simp
 .intro h;apply xAl;intro i;simp[h i]
def aCd(m k:Nat):m/2^k=0 ↔ ∀ i,k<=i->m[i]! =false:=by
 rw[oI];constructor
 .intro h i hi;have:=h (i-k);rw[iX,show k+(i-k)=i by omega] at this;exact this
 .intro h i;rw[iX];exact h _ (!_)
def fR(a b:Nat):Nat:=a-(a&&&b)
def aSO(a b:Nat):fR a b=a^^^(a&&&b):=by
 have h:(a^^^(a&&&b))+(a&&&b)=a:=by
  have key:∀ (n x y:Nat),x<=n->(x^^^(x&&&y))+(x&&&y)=x:=by
   intro n
   induction n with
   |zero=>
     intro x y hx;have:x=0:=by omega
     subst this;simp
   |succ n ih=>
     intro x y hx;by_cases h0:x=0
     .subst h0;simp
     .have ih':=ih (x/2) (y/2) (!_);have e1:(x^^^(x&&&y))/2=(x/2)^^^((x/2)&&&(y/2)):=by
       apply xAl;intro i;simp[Nat.testBit_div_two]
      have e2:(x&&&y)/2=(x/2)&&&(y/2):=by
       apply xAl;intro i;simp[Nat.testBit_div_two]
      have m1:(x^^^(x&&&y))%2=(x%2+(x&&&y)%2)%2:=by
       have a1:=yEg (x^^^(x&&&y)) 0;have a2:=yEg x 0;have a3:=yEg (x&&&y) 0;simp only[Nat.pow_zero,Nat.div_one] at a1 a2 a3;rw[<- a1,<- a2,<- a3,xAo,yAk];cases x[0]!<;>cases y[0]!<;>rfl
      have m2:(x&&&y)%2<=x%2:=by
       have a2:=yEg x 0;have a3:=yEg (x&&&y) 0;simp only[Nat.pow_zero,Nat.div_one] at a2 a3;rw[<- a2,<- a3,yAk];cases x[0]!<;>cases y[0]!<;>decide
      rw[<- e1,<- e2] at ih';omega
  exact key a a b (yAb _)
 unfold fR;omega
def aC5(a b i:Nat):(fR a b)[i]! =(a[i]! && !b[i]!):=by rw[aSO,xAo,yAk];cases a[i]!<;>cases b[i]!<;>rfl
def aGo(h:x<2^k)(i:Nat):(x+q*2^k)[i]! =if i<k then x[i]! else q[(i-k)]!:=by rw[yDr,yHq,Nat.testBit_two_pow_mul_add _ h]
def aTJ(h:n<2^w)(hw:0<w):n/2^(w-1)=(n[(w-1)]!).toNat:=by
 rw[yEg];have:n/2^(w-1)<2:=by
  rw[yGq (xAe _),<- Nat.pow_succ'];rw[show(w-1).succ=w by omega];exact h
 exact(Nat.mod_eq_of_lt this).symm
end BM
namespace BM
open PySem
def aMo(a b:Nat):yEq a b=((a&&&b:Nat):Int):=by unfold yEq;rw[dqT (yHm a),dqT (yHm b)];simp
def bOr(a b:Nat):yIf a b=((a|||b:Nat):Int):=by
 unfold yIf yEq yBs;rw[dqF (show ¬ (0:Int) <= -(a:Int)-1 by omega),dqF (show ¬ (0:Int) <= -(b:Int)-1 by omega)];have e1:(-(-(a:Int)-1)-1).toNat=a:=by omega
 have e2:(-(-(b:Int)-1)-1).toNat=b:=by omega
 simp only[e1,e2];omega
def aGb:∀ (n a b:Nat),a<=n->(a^^^b)+(a&&&b)=(a|||b)
 |0,a,b,h=>by
   have:a=0:=by omega
   subst this;simp
 |n+1,a,b,h=>by
   by_cases ha:a=0
   .subst ha;simp
   have ih:=aGb n (a/2) (b/2) (!_);have x2:=Nat.xor_div_two (a:=a) (b:=b);have a2:=Nat.and_div_two (a:=a) (b:=b);have o2:=Nat.or_div_two (a:=a) (b:=b);have xm:(a^^^b)%2=(a%2+b%2)%2:=by
    have:=xAo a b 0;simp only[yDo] at this;rcases yAp a with p|p<;>rcases yAp b with q|q<;>rcases yAp (a^^^b) with r|r<;>simp[p,q,r] at this ⊢
   have am:(a&&&b)%2=(a%2)*(b%2):=by
    have:=yAk a b 0;simp only[yDo] at this;rcases yAp a with p|p<;>rcases yAp b with q|q<;>rcases yAp (a&&&b) with r|r<;>simp[p,q,r] at this ⊢
   have om:(a|||b)%2=(a%2+b%2)-(a%2)*(b%2):=by
    have:=xAp a b 0;simp only[yDo] at this;rcases yAp a with p|p<;>rcases yAp b with q|q<;>rcases yAp (a|||b) with r|r<;>simp[p,q,r] at this ⊢
   have h1:=yHe (a^^^b) 2;have h2:=yHe (a&&&b) 2;have h3:=yHe (a|||b) 2;rcases yAp a with p|p<;>rcases yAp b with q|q<;>rw[p,q] at xm am om<;>omega
def aZ9(a b:Nat):yHu a b=((a^^^b:Nat):Int):=by unfold yHu;rw[aMo,bOr];have:=aGb a a b (yAb _);omega
def aOD(a:Nat):((a:Int)).natAbs=a:=by omega
def aGd(a:Nat):yAn a=if a=0 then 0 else a.log2+1:=by
 unfold yAn;by_cases h:a=0
 .subst h;rfl
 .rw[if_neg h,if_neg (by simp;omega),aOD]
def aOA{a n:Nat}(h:a<2^n):yAn a<=n:=by
 rw[aGd];split
 .exact yDa _
 .rename_i h0;exact(Nat.log2_lt h0).mpr h
def aC7(n:Nat):((2^n:Nat):Int)=(2:Int)^n:=by simp
def aZW{x y:Int}(h:y.natAbs.log2<9000):yDd x y=false:=by
 unfold yDd;dsimp only;have:¬ ((if (y==0)=true then 0 else y.natAbs.log2/30+1)>300):=by
  split
  .omega
  .omega
 rw[dqF this];rfl
end BM
namespace EV
open PySem L2 BM
def eC(i j:Int):bW .Add (.int i) (.int j)=qz (.int (i+j)):=rfl
def cX(i j:Int):bW .Sub (.int i) (.int j)=qz (.int (i-j)):=rfl
def dR(a b:Nat):bW .BitAnd (.int a) (.int b)=qz (.int ((a&&&b:Nat):Int)):=by simp only[bW,lK,aMo]
def gB(a b:Nat):bW .BitOr (.int a) (.int b)=qz (.int ((a|||b:Nat):Int)):=by simp only[bW,lK,bOr]
def mS(a b:Nat):bW .BitXor (.int a) (.int b)=qz (.int ((a^^^b:Nat):Int)):=by simp only[bW,lK,aZ9]
def iU{w:Nat}(h1:w<=100000):bW .LShift (.int 1) (.int w)=qz (.int ((2^w:Nat):Int)):=by have c:(0:Int)<=w/\(yAn 1:Int)+w<=2^27:=(by omega,by(have:(yAn 1:Int)=1:=(·);omega),);simp only[bW,lK];rw[if_pos c,Int.one_mul,yAr,aC7]
def vG{n a k:Nat}(h:n<2^a)(h2:a+k<=100000):bW .LShift (.int n) (.int k)=qz (.int ((n*2^k:Nat):Int)):=by
 have c:(0:Int)<=(k:Nat)/\((yAn (n:Int):Nat):Int)+(k:Nat)<=2^27:=by
  have:=aOA h;exact(by omega,by omega,)
 simp only[bW,lK];rw[if_pos c,yAr,<- aC7];congr 2
def fZ{i j:Int}(h:0<j):bW .Mod (.int i) (.int j)=qz (.int (i%j)):=by simp only[bW,lK];rw[if_pos (!_),Int.fmod_eq_emod_of_nonneg _ (!_)]
def qC{i j:Int}(h:0<j)(h2:j<2^64):bW .FloorDiv (.int i) (.int j)=qz (.int (i/j)):=by simp only[bW,lK];have h3:j.natAbs.log2<9000:=yEh ((Nat.log2_lt (!_)).mpr (show j.natAbs<2^64 by omega)) (·);rw[if_pos (by omega,aZW h3,),Int.fdiv_eq_ediv_of_nonneg _ (!_)]
def aOr{i j:Int}(h1 : -(2^64)<j)(h2:j<2^64):oW i j=true:=by unfold oW;have:=intBits_le_64 h1 h2;have h:¬ (yAn j>vo):=Nat.not_lt.mpr this;rw[dqF h];simp
def aN3{i j:Int}(h1 : -(2^64)<i)(h2:i<2^64):oW i j=true:=by unfold oW;have:=intBits_le_64 h1 h2;have h:¬ (yAn i>vo):=Nat.not_lt.mpr this;rw[dqF h];simp
def aAG{i j:Int}(h1 : -(2^64)<j)(h2:j<2^64):bW .Mult (.int i) (.int j)=qz (.int (i*j)):=by show(if oW i j=true then qz (yAo (i*j)) else qx)=_;rw[if_pos (aOr h1 h2)]
def mN{i j:Int}(h1 : -(2^64)<i)(h2:i<2^64):bW .Mult (.int i) (.int j)=qz (.int (i*j)):=by show(if oW i j=true then qz (yAo (i*j)) else qx)=_;rw[if_pos (aN3 h1 h2)]
def aQM{α:Type}(k:Nat)(x:α):xL k [x]=yAe k x:=by
 unfold xL
 induction k with
 |zero=>rfl|succ k ih=>rw[yAy,yDh,ih,yAy];rfl
def cK(i j:Int):aV .Eq (.int i) (.int j)=qz (.bool (i==j)):=rfl
def oR(i j:Int):aV .NotEq (.int i) (.int j)=qz (.bool (!(i==j))):=rfl
def fG(i j:Int):aV .Lt (.int i) (.int j)=qz (.bool (decide (i<j))):=rfl
def aDT(i j:Int):aV .LtE (.int i) (.int j)=qz (.bool (decide (i<=j))):=rfl
def iY(i j:Int):aV .Gt (.int i) (.int j)=qz (.bool (decide (j<i))):=rfl
def aKe(i j:Int):aV .GtE (.int i) (.int j)=qz (.bool (decide (j<=i))):=rfl
end EV
namespace EV
open PySem L2 BM
def oB{α β:Type}(a:α)(f:α->Option β):(qz a).bind f=f a:=of_eq_true (eq_self (f a))
def oM{α β:Type}(a:α)(f:α->β):(qz a).map f=qz (f a):=of_eq_true (eq_self (qz (f a)))
def cl(fs:List Fn)(d f:Nat)(ws:List W)(S:aC):Option (W×aC):=match aF fs d f with
 |some (np,call)=>if ↑ws=np then call ws S else qx
 |none=>qx
def aHb(fs:List Fn)(d f:Nat)(fa:FA)(env:aX)(S:aC):lT (aF fs d) f fa env S=(fa env S).bind λ p=>cl fs d f p.1 p.2:=by
 unfold lT cl aBp;cases aF fs d f with
 |none=>cases fa env S<;>rfl|some q=>rfl
def bO(h:fs[f]?=qz F)(d:Nat)(ws:List W)(S:aC)(hw:↑ws=F.np):cl fs (d+1) f ws S=eY (xs (aF fs d) F.body) F.N.length ws S:=by
 have e:aF fs (d+1) f=qz (F.np,eY (xs (aF fs d) F.body) F.N.length):=by
  show(fs[f]?).map _=_;rw[h];rfl
 unfold cl;rw[e];exact if_pos hw
def aS0(h:fs[f]?=qz F)(hn:F.np=1)(e:cl fs (d+1) f [w] []=qz (r,S)):∃ call S',aF fs (d+1) f=qz (1,call)/\call [w] []=qz (r,S'):=by
 refine(eY (xs (aF fs d) F.body) F.N.length,S,?_,?_,)
 .show(fs[f]?).map _=_;rw[h,<- hn];rfl
 .rw[<- bO h d [w] [] (by rw[hn];rfl)];exact e
def szT(h:n<=1000):(n<=qk)=True:=by rw[zx];exact eq_true (!_)
def aOX{α:Type}(g:α->Int)(l:List α):iG (l.map λ x=>yAo (g x))=qz (l.map g):=by
 induction l with
 |nil=>rfl|cons x r ih=>simp only[yAf,iG,ih,yCf]
end EV
namespace EV
open PySem L2 BM
def aCD(w:Nat):((2^w:Nat):Int)-1=((2^w-1:Nat):Int):=by have:=uT w;omega
def zO{fa:FE}{env:aX}{S S1:aC}{w:Nat}(h:fa env S=qz (.d (.int w),S1))(hw:w<=1000000):wE fa env S=qz ((yBw w).map (λ k=>yAo (k:Nat)),S1):=by have c : -(2^62)<=((w:Nat):Int)/\((w:Nat):Int)<2^62:=(by omega,by omega,);unfold wE;rw[h,oB];simp only[];rw[if_pos c,aHT,yAr];congr 2;apply yDl;intro k _;rw[Int.zero_add]
def aH4(h:env[i]?=qz (qz w)):jS i env S=qz (w,S):=by unfold jS;rw[h]
def oQ{xs:List D}{k:Nat}{x:D}(h:xs[k]?=qz x):bD (.list xs) (.int k)=qz x:=by have hl:k<↑xs:=(gIm h).1;show(jU ↑xs ((k:Nat):Int)).bind (λ j=>xs[j]?)=qz x;unfold jU;rw[if_pos (!_),if_pos (!_),oB,yAr];exact h
def iW{xs:List D}{k:Nat}{x:D}(h:xs[k]?=qz x):bD (.tuple xs) (.int k)=qz x:=@oQ xs _ _ h
def aKc{t:Tg}{fi:FL}{fb:FS}(P:aX->Prop)(hi:fi env S=qz (ds,S1))(h0:P env)(h:∀ d∈ds,∀ env,P env->∃ e1 aM,t.put d env=qz e1/\fb e1 S1=qz (.nx aM,S1)/\P aM) :
 ∃ aM,jP t fi fb env S=qz (.nx aM,S1)/\P aM:=by let(aM,h1,h2):=@aH6 S1 t fb P ds env h0 h;exact(aM,by unfold jP;rw[hi,oB];exact h1,h2,)
def aJy{t:Tg}{fb:FS}(P:Nat->aX->aC->Prop):∀ (ds:List D) (i:Nat) (env:aX) (S:aC),P i env S->(∀ j d env S,ds[j]?=qz d->P (i+j) env S->∃ e1 aM S',t.put d env=qz e1/\fb e1 S=qz (.nx aM,S')/\P (i+j+1) aM S') ->
 ∃ aM S',kQ t fb ds env S=qz (.nx aM,S')/\P (i+↑ds) aM S'
 |[],i,env,S,h0,_=>(env,S,rfl,h0,)
 |d::ds,i,env,S,h0,h=>by
   let(e1,aM,S',h1,h2,h3):=h 0 d env S rfl h0;let(env2,S2,h4,h5):=aJy P ds (i+1) aM S' h3 λ j d' env S a b=>by
    have:=h (j+1) d' env S (a:) (by rw[show i+(j+1)=i+1+j by omega];exact b);rw[show i+(j+1)=i+1+j by omega] at this;exact this
   refine(env2,S2,by simp only[kQ,h1,oB,h2];exact h4,?_,);have:i+(d::ds).length=i+1+↑ds:=by simp;omega
   rw[this];exact h5
def sP{t:Tg}{fi:FL}{fb:FS}(P:Nat->aX->aC->Prop)(hi:fi env S=qz (ds,S1))(h0:P 0 env S1)(h:∀ j d env S,ds[j]?=qz d->P j env S->∃ e1 aM S',t.put d env=qz e1/\fb e1 S=qz (.nx aM,S')/\P (j+1) aM S') :
 ∃ aM S',jP t fi fb env S=qz (.nx aM,S')/\P ↑ds aM S':=by
 let(aM,S',h1,h2):=@aJy t fb P ds 0 env S1 h0 λ j d env S a b=>by
  have:=h j d env S a (b:);simpa using this
 exact(aM,S',by unfold jP;rw[hi,oB];exact h1,by simpa using h2,)
def aOu{fa fb:FE}{env:aX}{S S1 S2:aC}{v w:Nat}(h:fa env S=qz (.d (.int v),S1))(h2:fb env S1=qz (.d (.int w),S2))(hv:v<=1000000)(hw:w<=1000000):wJ fa fb env S=qz ((yBw (w-v)).map (λ k=>yAo ((v+k:Nat):Int)),S2):=by
 have c : -(2^62)<=((v:Nat):Int)/\((v:Nat):Int)<2^62 /\ -(2^62)<=((w:Nat):Int)/\((w:Nat):Int)<2^62:=(by omega,by omega,by omega,by omega,);have e:(((w:Nat):Int)-((v:Nat):Int)).toNat=w-v:=by omega
 unfold wJ;rw[h,oB];simp only[];rw[h2,oB];simp only[];rw[if_pos c,aHT,e];congr 2
def aIn{α:Type}(f:α->Nat):∀ l:List α,(l.map λ x=>((f x:Nat):Int)).sum=(((l.map f).sum:Nat):Int)
 |[]=>rfl
 |x::r=>by
   rw[yAf,yAf,yFc,yFc,aIn f r]
   push_cast
   rfl
def lS{xs:List D}:mC [.list xs]=qz (.int ↑xs):=rfl
def lQ{xs:List D}:mC [.tuple xs]=qz (.int ↑xs):=rfl
def mX{xs:List D}:qN [.list xs]=qz (.tuple xs):=rfl
def sS{xs:List D}:qN [.tuple xs]=qz (.tuple xs):=rfl
def kA(n k:Nat):bW .RShift (.int n) (.int k)=qz (.int ((n/2^k:Nat):Int)):=by
 have c:(0:Int)<=(k:Nat):=by omega
 simp only[bW,lK];rw[if_pos c,yAr,<- aC7];congr 2
def aHr(a b:Nat):bW .BitAnd (.int a) (.int (yBs (b:Nat)))=qz (.int ((fR a b:Nat):Int)):=by
 have h1:decide ((0:Int)<=(a:Nat))=true:=dqT (!_);have h2:decide ((0:Int)<=yBs (b:Nat))=false:=dqF (by unfold yBs;omega);have h3:(yBs (yBs (b:Nat))).toNat=b:=by unfold yBs;omega
 have h4:a&&&b<=a:=yDm;simp only[bW,lK];unfold yEq;rw[h1,h2];simp only[h3,yAr];congr 2;unfold fR;omega
def aJb(i:Int):rH .Invert (.int i)=qz (.int (yBs i)):=rfl
def aIe{x:D}{k:Nat}(h:k<=1000):bW .Mult (.tuple [x]) (.int k)=qz (.tuple (yAe k x)):=by show(if 0<=((k:Nat):Int)/\((k:Nat):Int)<=1000 then qz (yAv (yAe ((k:Nat):Int).toNat x)) else qx)=_;rw[if_pos (by omega,by omega,),yAr]
def aIl{α:Type}{t:Tg}{fe:FE}(enc:α->D)(I:Nat->aC->Prop)(Q:α->D->Prop):∀ (l:List α) (aO:List D) (j:Nat) (S:aC),aO.length+↑l<=qk->j+↑l<=N->↑S=n->I j S ->
 (∀ a∈l,∃ e1,t.put (enc a) env=qz e1/\∀ j S aO,j<N->↑S=n->I j S->∃ v S',fe e1 (S++[qz aO])=qz (.d v,S'++[qz aO])/\↑S'=n/\I (j+1) S'/\Q a v) ->
 ∃ vs S',gE t kO fe n env (l.map enc) (S++[qz aO])=qz (S'++[qz (aO++vs)])/\↑S'=n/\I (j+↑l) S'/\↑vs=↑l/\∀ (i:Nat) (a:α),l[i]?=qz a->∃ v,vs[i]?=qz v/\Q a v
 |[],aO,j,S,_,_,hn,hI,_=>([],S,by simp[gE],hn,hI,rfl,by simp,)
 |a::l,aO,j,S,hz,hN,hn,hI,h=>by
   let(e1,h1,h2):=h a xAc;let(v,S1,h3,h4,h5,h6):=h2 j S aO (by simp at hN;omega) hn hI;have hlt:aO.length<qk:=by simp at hz;omega
   have ea:eO (S1++[qz aO]) (.loc n) (.d v)=qz (.d .none,S1++[qz (aO++[v])]):=by
    unfold eO;subst h4;simp only[yAi (yAb ↑S1),yBe,yCc];rw[if_pos hlt,aAr]
   let(vs,S2,h7,h8,h9,h10,h11):=aIl enc I Q l (aO++[v]) (j+1) S1 (by simp at hz ⊢;omega) (by simp at hN;omega) h4 h5 λ x hx=>h x (xAf _ hx)
   refine(v::vs,S2,?_,h8,by rw[yAl,show j+(↑l+1)=j+1+↑l by omega];exact h9,by simp[h10],λ i b hb=>?_,)
   .simp only[yAf,gE,h1,kO,oB,if_true,h3,ea];rw[h7];simp
   .cases i with|zero=>simp at hb;subst hb;exact(v,rfl,h6,)|succ i=>simpa using h11 i b (hb:)
def aRw{α:Type}{t:Tg}{fi:FL}{fe:FE}(enc:α->D)(I:Nat->aC->Prop)(Q:α->D->Prop)(l:List α)(hi:fi env S=qz (l.map enc,S1))(hz:↑l<=qk)(h0:I 0 S1)(h:∀ a∈l,∃ e1,t.put (enc a) (clr t.slots env)=qz e1/\∀ j S aO,j<↑l->↑S=↑S1->I j S->∃ v S',fe e1 (S++[qz aO])=qz (.d v,S'++[qz aO])/\↑S'=↑S1/\I (j+1) S'/\Q a v) :
 ∃ vs S',iI t fi kO fe env S=qz (vs,S')/\↑S'=↑S1/\I ↑l S'/\↑vs=↑l/\∀ (i:Nat) (a:α),l[i]?=qz a->∃ v,vs[i]?=qz v/\Q a v:=by let(vs,S',h1,h2,h3,h4,h5):=@aIl ↑l ↑S1 _ _ _ fe enc I Q l [] 0 S1 (hz:) (by simp) rfl h0 h;refine(vs,S',?_,h2,by simpa using h3,h4,h5,);unfold iI;rw[hi];simp only[oB];rw[h1];simp[<- h2]
def aJX{α:Type}(a:α):yEv 1 [a]=[a]:=rfl
def aJ0{α:Type}(a b:α):yEv 1 [a,b]=[a]:=rfl
def aKR{α:Type}(a b:α):yEv 2 [a,b]=[a,b]:=rfl
end EV
namespace EV
open PySem L2 BM
section
variable {C:Calls}{env:aX}{S S1 S2 S3 S4:aC}{a b c e es r:E}
def aD(h:env[i]?=qz (qz w)):ev C (.var i) env S=qz (w,S):=by rw[aDD];exact aH4 h
def bG{i:Int}:ev C (.int i) env S=qz (.d (.int i),S):=rfl
def aMA:ev C (.bl i) env S=qz (.d (.bool i),S):=rfl
def aEp:ev C .non env S=qz (.d .none,S):=rfl
def cU:ev C (.str i) env S=qz (.d (.str i),S):=rfl
def gF(ha:ev C a env S=qz (.d x,S1))(hb:ev C b env S1=qz (.d y,S2))(hz:bW op x y=qz z):ev C (.bin op a b) env S=qz (.d z,S2):=by simp only[aKL,rB,f2,ha,oB,hb,iN,dr,hz]
def aZD(ha:ev C a env S=qz (.d x,S1))(hz:rH op x=qz z):ev C (.un op a) env S=qz (.d z,S1):=by simp only[aMh,yS,f1,ha,oB,oC,dr,hz]
def aBf(ha:ev C a env S=qz (.d x,S1))(hb:ev C b env S1=qz (.d y,S2))(hz:aV op x y=qz z):ev C (.cmp op a b) env S=qz (.d z,S2):=by simp only[aDB,nO,f2,ha,oB,hb,iN,dr,hz]
def bY(ha:ev C a env S=qz (wa,S1))(hb:ev C b env S1=qz (.d y,S2))(hx:dr S2 wa=qz x)(hz:bD x y=qz z):ev C (.ix a b) env S=qz (.d z,S2):=by have h2:dr S2 (.d y)=qz y:=rfl;simp only[aEy,pQ,f2,ha,oB,hb,iN,hx,h2,hz]
def gT:dr S (.d x)=qz x:=rfl
def qS{n:Nat}{l:List D}(h:S[n]?=qz (qz l)):dr S (.loc n)=qz (.list l):=by simp only[dr,h]
def gC:nV S []=qz []:=rfl
def eX(h:dr S w=qz x)(k:nV S ws=qz ds):nV S (w::ws)=qz (x::ds):=by simp only[nV,h,k,oB]
def slD(d:D)(l h:Option Int):Option D:=match d with|.list xs=>qz (.list (fJ xs l h))|.tuple xs=>qz (.tuple (fJ xs l h))|_=>qx
def aE2{lo hi:E}(ha:ev C a env S=qz (wa,S1))(hl:ov C lo env S1=qz (l,S2))(hh:ov C hi env S2=qz (h,S3))(hx:dr S3 wa=qz x)(hz:slD x l h=qz z):ev C (.sl a lo hi) env S=qz (.d z,S3):=by simp only[aEr,pS,ha,oB,hl,hh,hx];cases x<;>first|(cases hz;done)|(cases hz;rfl)
def aEF:ov C .no env S=qz (qx,S):=rfl
def aD8{i:Int}(h:ev C a env S=qz (.d (.int i),S1)):ov C (.cons a .nil) env S=qz (qz i,S1):=by simp only[aIW,qT,h,oB]
def wU(ho:ev C o env S=qz (wo,S1))(ha:ev C a env S1=qz (wa,S2))(h:eO S2 wo wa=qz (w,S3)):ev C (.app o a) env S=qz (w,S3):=by simp only[aJW,xT,f2,ho,oB,ha,h]
def aYN{o:E}{n:Nat}{es ds:List D}(ho:ev C o env S=qz (.loc n,S1))(ha:ev C a env S1=qz (.d (.tuple es),S2))(hs:S2[n]?=qz (qz ds))(hz:↑ds+↑es<=qk):ev C (.exd o a) env S=qz (.d .none,S2.set n (qz (ds++es))):=by simp only[aVB,aBH,f2,ho,oB,ha,aBN,hs,if_pos hz]
def aWx{xs:List D}(ha:ev C a env S=qz (wa,S1))(hx:dr S1 wa=qz (.list xs))(hk:sZ xs=qz ks)(hn:ks.Nodup)(hl:↑ks<=300):ev C (.lset a) env S=qz (.d (.int ↑ks),S1):=by simp only[aTY,aA1,ha,oB,hx,hk];rw[if_pos (hn,hl,)]
def aEh(ht:tv C c env S=qz (p,S1))(k:cond p (ev C a env S1) (ev C b env S1)=R):ev C (.ite c a b) env S=R:=by rw[<- k];cases p<;>simp only[aKb,xC,ht,oB,yAm,if_false,if_true,cond_true,cond_false]
def aXg(ha:ev C a env S=qz (.d (.bool p),S1))(k:cond p (ev C b env S1) (qz (.d (.bool false),S1))=R):ev C (.and a b) env S=R:=by rw[<- k];cases p<;>simp only[aJJ,wV,ha,oB,cond_true,cond_false]
def bAd(ha:ev C a env S=qz (.d (.bool p),S1))(k:cond p (qz (.d (.bool true),S1)) (ev C b env S1)=R):ev C (.or a b) env S=R:=by rw[<- k];cases p<;>simp only[aLP,yF,ha,oB,cond_true,cond_false]
def bM(ha:av (aF fs d) es env S=qz (ws,S1))(hc:cl fs d f ws S1=qz (w,S2)):ev (aF fs d) (.call f es) env S=qz (w,S2):=by rw[aJE,aHb,ha,oB];exact hc
def fH{t:B}(ha:av C es env S=qz (ws,S1))(hd:nV S1 ws=qz ds)(hz:t.g ds=qz z):ev C (.blt t es) env S=qz (.d z,S1):=by simp only[aKr,rA,ha,oB,hd,hz]
def eW(ha:av C es env S=qz (ws,S1))(hd:jE ws=qz ds)(hl:↑ds<=1000):ev C (.tup es) env S=qz (.d (.tuple ds),S1):=by simp only[aKw,xG,ha,oB,hd,szT hl,if_true]
def hV(h:lv C a env S=qz (ds,S1)):ev C (.fz a) env S=qz (.d (.list ds),S1):=by simp only[aL1,kW,h,oB]
def kH(ha:av C es env S=qz (ws,S1))(hd:jE ws=qz ds)(hl:↑ds<=1000):lv C (.lst es) env S=qz (ds,S1):=by simp only[aKt,xR,ha,oB,hd,szT hl,if_true]
def aA5(h:lv C a env S=qz (ds,S1)):ev C (.new a) env S=qz (.loc ↑S1,S1++[qz ds]):=by simp only[aD1,kM,h,oB]
def aQ:av C .nil env S=qz ([],S):=rfl
def aH(ha:ev C a env S=qz (w,S1))(hr:av C r env S1=qz (ws,S2)):av C (.cons a r) env S=qz (w::ws,S2):=by simp only[aJD,cL,ha,oB,hr]
def bN(ha:ev C a env S=qz (.d x,S1))(hb:ev C b env S1=qz (.d y,S2))(hz:aV op x y=qz (.bool p)):tv C (.cmp op a b) env S=qz (p,S2):=by have:=aBf ha hb hz;rw[aDB] at this;simp only[aKl,dB,this,oB,dr,pE]
def aY3(ht:tv C e=dB (ev C e))(ha:ev C e env S=qz (.d x,S1))(hz:pE x=qz p):tv C e env S=qz (p,S1):=by rw[ht];simp only[dB,ha,oB,dr,hz]
def oP(ha:tv C a env S=qz (p,S1))(hb:cond p (tv C b env S1) (qz (false,S1))=R):tv C (.and a b) env S=R:=by rw[<- hb];cases p<;>simp only[aKg,xN,ha,oB,yAm,if_false,if_true,cond_true,cond_false]
def aXL(ha:tv C a env S=qz (p,S1))(hb:cond p (qz (true,S1)) (tv C b env S1)=R):tv C (.or a b) env S=R:=by rw[<- hb];cases p<;>simp only[aLm,yY,ha,oB,yAm,if_false,if_true,cond_true,cond_false]
def tU{α:Type}{x y z:α}(h:x=z):cond true x y=z:=h
def tI{α:Type}{x y z:α}(h:y=z):cond false x y=z:=h
variable {s t u:Sx}{aM:aX}{R:Option (Fl×aC)}{w:W}
def wF(h:xs C s env S=qz (fl,S1))(k:qz (fl,S1)=R):xs C s env S=R:=h.trans k
def aBw{w:W}{R:Option (W×aC)}(h:ev C e env S=qz (w,S1))(k:qz (w,S1)=R):ev C e env S=R:=h.trans k
def aBh{p:Bool}{R:Option (Bool×aC)}(h:tv C e env S=qz (p,S1))(k:qz (p,S1)=R):tv C e env S=R:=h.trans k
def aA4{l:List D}{R:Option (List D×aC)}(h:lv C e env S=qz (l,S1))(k:qz (l,S1)=R):lv C e env S=R:=h.trans k
def aVw:xs C .skip env S=qz (.nx env,S):=rfl
def tN(C:Calls)(t:Sx)(fl:Fl)(S:aC):Option (Fl×aC):=match fl with|.nx e=>xs C t e S|fl=>qz (fl,S)
def aX2(h:xs C s env S=qz (fl,S1))(k:tN C t fl S1=R):xs C (.seq s t) env S=R:=by rw[<- k];cases fl<;>simp only[qH,eZ,h,oB,tN]
def aZt(k:xs C t aM S=R):tN C t (.nx aM) S=R:=k
def bAe(k:qz (.rt w,S)=R):tN C t (.rt w) S=R:=k
def bAt(k:qz (.bk aM,S)=R):tN C t (.bk aM) S=R:=k
def bAq(k:qz (.ct aM,S)=R):tN C t (.ct aM) S=R:=k
def aXX(he:ev C e env S=qz (we,S1))(ho:ev C o env S1=qz (wo,S2))(hi:ev C i env S2=qz (wi,S3))(h:kG S3 wo wi we=qz S4):xs C (.put o i e) env S=qz (.nx env,S4):=by simp only[aKG,mF,he,oB,ho,hi,h]
def aLT(h:ev C e env S=qz (w,S1))(he:env.set i (qz w)=aM):xs C (.set i e) env S=qz (.nx aM,S1):=by rw[<- he];simp only[aAW,jR,h,oB]
def aZo(h:ev C e env S=qz (w,S1)):xs C (.ret e) env S=qz (.rt w,S1):=by simp only[aDP,pA,h,oB]
def qK(h:ev C e env S=qz (w,S1)):xs C (.expr e) env S=qz (.nx env,S1):=by simp only[aI8,wI,h,oB]
def aXn(ht:tv C a env S=qz (p,S1))(k:cond p (xs C s env S1) (xs C t env S1)=R):xs C (.ifs a s t) env S=R:=by rw[<- k];cases p<;>simp only[sN,nX,ht,oB,yAm,if_false,if_true,cond_true,cond_false]
def aDA(h:jP tg (lv C a) (xs C s) env S=R):xs C (.loop tg a s) env S=R:=h
def aV3{ws:List W}(he:ws.map qz++yAe (n-↑ws) qx=env)(k:xs C body env S=qz (.rt (.d x),S1))(hS:S1.take ↑S=S2):eY (xs C body) n ws S=qz (.d x,S2):=by subst he;simp only[eY,k,oB,mD,hS]
def aVM{ws:List W}(he:ws.map qz++yAe (n-↑ws) qx=env)(k:xs C body env S=qz (.nx aM,S1))(hS:S1.take ↑S=S2):eY (xs C body) n ws S=qz (.d .none,S2):=by subst he;simp only[eY,k,oB,hS]
def dN{ws:List W}(h:fs[f]?=qz F)(hw:↑ws=F.np)(he:ws.map qz++yAe (F.N.length-↑ws) qx=env)(k:xs (aF fs d) F.body env S=qz (.rt (.d x),S1))(hS:S1.take ↑S=S2):cl fs (d+1) f ws S=qz (.d x,S2):=by subst he;rw[bO h d ws S hw];simp only[eY,k,oB,mD,hS]
end
section
variable {C:Calls}{env:aX}{S S1 S2 S3 S4:aC}{a b c e es r:E}{w:W}{fl:List (Str×W0)}{ws:List W0}{k:List aZ}{el:List (List aZ×Int)}{m:Nat}
def aEg(h:ev C a env S=qz (.ob fl,S1))(hf:fl.lookup f=qz x):ev C (.fld a f) env S=qz (x.w,S1):=by simp only[aWz,aBA,h,oB,hf,yEc]
def vP(h:ev C a env S=qz (.ob fl,S1))(hf:fl.lookup f=qz (.loc n)):ev C (.fld a f) env S=qz (.loc n,S1):=aEg h hf
def qG(h:ev C a env S=qz (.ob fl,S1))(hf:fl.lookup f=qz (.d x)):ev C (.fld a f) env S=qz (.d x,S1):=aEg h hf
def sL(h:ev C a env S=qz (.ob fl,S1))(hf:fl.lookup f=qz (.dic n)):ev C (.fld a f) env S=qz (.dic n,S1):=aEg h hf
def eG(ho:ev (aF fs d) a env S=qz (.ob fl,S1))(hn:fl.lookup mn=qx)(ha:av (aF fs d) es env S1=qz (zs,S2))(hc:cl fs d f (.ob fl::zs) S2=qz (w,S3)):ev (aF fs d) (.mth mn f a es) env S=qz (w,S3):=by
 rw[aU1];unfold qP;unfold cl at hc;cases h:aF fs d f with
 |none=>rw[h] at hc;cases hc
 |some p=>
   rw[h] at hc;let(np,call):=p;dsimp only at hc ⊢;split at hc
   .rename_i hl;have hl:↑zs+1=np:=hl;simp only[aBG,ho,oB,hn,Option.isNone_none,if_true,ha,hl,hc]
   .cases hc
def sX(h:av C es env S=qz (zs,S1))(h0:w0s zs=qz ws)(hl:(↑ws<=1000)=True):ev C (.tpl es) env S=qz (.tpl ws,S1):=by have hl:↑ws<=qk:=xAh (of_eq_true hl) (·);simp only[aW2,aBD,h,oB,h0,if_pos hl]
def aD5(ha:ev C a env S=qz (.tpl ws,S1))(hb:ev C b env S1=qz (.dic m,S2))(hk:gS ws=qz k)(hd:kZ S2 m=qz el)(hp:(n != (cY el k).isSome)=p):tv C (.din n a b) env S=qz (p,S2):=by subst hp;simp only[aT7,dB,tO,ha,oB,hb,hk,hd,yEc,dr,pE]
def aDI{i:Int}(ha:ev C a env S=qz (.dic m,S1))(hb:ev C b env S1=qz (.tpl ws,S2))(hk:gS ws=qz k)(hd:kZ S2 m=qz el)(hv:cY el k=qz i):ev C (.dget a b) env S=qz (.d (.int i),S2):=by simp only[aTH,aBa,ha,oB,hb,hk,hd,hv,yEc]
def aJT{i:Int}(hv:ev C e env S=qz (.d (.int i),S1))(ha:ev C a env S1=qz (.dic m,S2))(hb:ev C b env S2=qz (.tpl ws,S3))(hk:gS ws=qz k)(hd:kZ S3 m=qz el)(hl:el.length<qk)(hS:S3.set m (qz ((qW el k i).map lZ))=S4):xs C (.dput a b e) env S=qz (.nx env,S4):=by rw[<- hS];simp only[aSw,aBq,hv,oB,ha,hb,hk,hd,if_pos hl]
def aLD(h:av C es env S=qz (zs,S1))(hd:jE zs=qz ds)(hl:(↑ds<=1000)=True)(ha:ev C a env S1=qz (u,S2))(hx:wd u=qz x)(hz:xS ds x=qz z):ev C (.cou t es a) env S=qz (.d z,S2):=by have hl:↑ds<=qk:=xAh (of_eq_true hl) (·);simp only[aT5,tS,h,oB,hd,if_pos hl,ha,hx,hz,yEc]
def aDF{t:Tg}(h:ev C e env S=qz (.d x,S1))(he:t.put x env=qz aM):xs C (.setT t e) env S=qz (.nx aM,S1):=by simp only[aJi,wL,h,oB,he]
def aAZ{i:Nat}{ds:List D}{aM:aX}(h:lv C e env S=qz (ds,S1))(he:env.set i (qz (.d (.list ds)))=aM):xs C (.setC false i e) env S=qz (.nx aM,S1):=by rw[<- he];simp only[aJq,jR,kW,h,oB]
def aMG(h:av C es env S=qz (zs,S1))(hn:↑zs+1=np)(hd:jE zs=qz ds)(hm:kN ds ini S1=qz (fs,S2)):ev C (.mk ini np es) env S=qz (.ob fs,S2):=by simp only[aXF,aA9,h,oB,if_pos hn,hd,hm,yEc]
end
end EV
namespace K76
open PySem L2 EV BM
private def mqS(p:String)(l:List mq)(b:="simp"):mq:=mqV b [mqC,mqO,mqO [mqA "only"],mqO [mqA "[",mqJ "," ((((p.splitOn " ").filter (·!="")).map mqI++l).map λ t=>mqN "Tactic.simpLemma" [mqO,mqO,t]),mqA "]"],mqO]
private def mqH(n:String)(l:List mq):=mqV "tacticErw___" [mqC,mqN "Tactic.rwRuleSeq" [mqA "[",mqJ "," ((mqI n::l).map λ t=>mqN "Tactic.rwRule" [mqO,t]),mqA "]"],mqO]
private def mqX(a:mq):=
 let a:=a[2][1].getSepArgs.toList.map (·[1])
 (a.headD .missing,a.tail)
private def mqR:=mqN "Tactic.tacticRfl" [mqA "rfl"]
private def mqW(t:mq):=mqN "Tactic.withReducible" [mqA "with_reducible",mqQ [t]]
private def mqK(t:mq):=mqV "focus" [mqQ [t]]
private def mqZ(t:mq)(u:=mqR):=mqK (mqM `Lean.Parser.Tactic.«tactic_<;>_» #[t,mqA "<;>",u])
private def mqY(l:List mq)(e:=[mqV "fail" [mqO]]):=mqV "first" [mqO ((l++e).map λ t=>mqM `group #[mqA "|",mqQ [t]])]
private def mqU(t:mq):=mqV "apply" [t]
private def mqEv:="aDD aW0 aXV aVi aUl aKL aMh aDB aJJ aLP aKb aKw aEy aUF aWM aEr aJE aKr aTt aJW aV9 aL1 aD1 aKg aLm aVK aKl aYG aSS aT9 aWl aX1 aYh aVW aJD aY1 aIW aKt aVz aJp aRB aLi aIz aJs aIK aTx aJO aI5 aJC EV.qH aI8 aDP EV.sN aAW aJq aJi aKG aSE EV.eZ EV.jR EV.wL EV.nX EV.pA aYm EV.wI EV.sY EV.rB EV.yS EV.nO EV.dB EV.f2 EV.f1 EV.iN EV.oC EV.dr EV.nV EV.fC EV.jS EV.mD aHb EV.cL EV.gG EV.xG EV.xR EV.kW EV.rA EV.pQ EV.xN EV.yY aZw EV.wV EV.yF aXz EV.xC EV.jE EV.B.g EV.pE EV.Tg.put EV.mU EV.Tg.slots yAf yDp yAl yCm yGb Nat.reduceSub yCx yAy List.replicate_zero yIk yGa yCc yDe yDu yDv EV.oB EV.oM yAj Bool.not_false yFz yAm if_true if_false reduceIte yFi Nat.reduceEqDiff szT List.take_nil List.take_zero aUR EV.qV aBi EV.pF aJX aJ0 aKR"
private def mqU2(n:String):=if n="" then [] else [mqW (mqU (mqI n))]
private def mqC2(l:List mq)(x:Char):mq:=
 if x='r' then mqR else
 if x='g' then mqH "go.10.64" l else
 if x='c' then mqY [mqW (mqV "assumption" []),mqZ (mqS "" l) (mqW mqR)] else
 if x='v' then mqZ (mqS mqEv l) (mqW mqR) else
 if x='b' then mqZ (mqS "yDu yDv" [] "dsimp") else
 if x='a' then mqH "go.0.4" l else
 if x='d' then mqH "go.4.6" l else
 if x='e' then mqH "go.6.8" l else
 if x='f' then mqH "go.8.10" l else
 mqY [mqZ (mqS (if x='h' then "EV.B.g" else if x='i' then "yAl yCm yGb yFi" else if x='j' then "slD" else if x='k' then "Option.isSome_some Option.isSome_none bne_self_eq_false Bool.bne_false Bool.false_bne" else if x='m' then "yDu yDv" else if x='n' then "EV.Tg.put EV.mU yDu yDv" else "") l),mqK mqR]
local macro_rules(kind:=Lean.Parser.Tactic.tacticErw___)|s=>do
 let (n,l):=mqX s
 match n.getId with
 |.num (.num _ a) b=>if b<a+4 then mqF else return mqH s!"go.{(a+b)/2}.{b}" l
 |.anonymous=>if n.toNat>19 then mqF else return mqZ (mqS (if n.toNat<9 then mqEv else mqEv++" EV.eY") l)
 |_=>mqF
local macro_rules(kind:=Lean.Parser.Tactic.omega)|_s=>return mqW (mqY (mqV "assumption" []::(("yAb/1 _ yBz/2 _ _ xAh/2 a d xAb/2 a d xAi/2 a d yEs/1 a xAh/2 yEs/1 a d xAh/2 Nat.add_le_add_right/2 a _ d yEk/2 d _ yEp/1 a Nat.lt_of_not_le/1 a Nat.not_lt_of_le/1 a yIl/1 a xAb/2 a a xAh/2 a a xAh/2 a yEk/2 d _ xAh/2 a xAh/2 Nat.add_le_add_right/2 a _ d".splitOn " ").foldr (λ t l=>match t.splitOn "/" with|[f,n]=>let n:=n.toNat!;mqT f (l.take n)::l.drop n|_=>(if t="_" then mqN "Term.hole" [mqA "_"] else mqB (if t="a" then mqV "assumption" [] else mqV "decide"))::l) []).map λ t=>mqV "exact" [t]))
local macro_rules(kind:=Lean.Parser.Tactic.tacticErw___)|s=>do
 let (n,l):=mqX s
 match n.getId with
 |.num (.num _ a) b=>
  if a+3<b then return mqH s!"go.{a}.{(a+b)/2}" l
  return mqY (((("aZt:g bAe:r bAt:r bAq:r EV.tU:g EV.tI:g EV.tU:g EV.tI:r EV.tU:r EV.tI:g EV.aD:r EV.bG EV.aH:gg EV.aQ EV.bM:gc EV.gF:ggl EV.bY:gggl aLT:gb aX2:ga EV.bN:ggl aXn:gd aZo:g aVw EV.fH:ggh EV.oP:ge EV.cU aXL:gf aMA aEp aEF EV.gT EV.gC EV.qK:g EV.qS:l EV.eX:gg EV.eW:gri EV.hV:g EV.kH:gri aA5:g aE2:ggggj aD8:g aZD:gl aBf:ggl EV.wU:ggl aXX:gggl aEh:gd aXg:ge bAd:gf EV.vP:gr EV.qG:gr EV.sL:gr EV.eG:grgc EV.sX:gri aD5:ggllk aDI:gglll aJT:ggglllm aLD:grigrl aDF:gn aAZ:gb aMG:grrr aDA:c aY3:rgr :c :v".splitOn " ").take b).drop a).map λ t=>mqO ((match t.splitOn ":" with|[n,r]=>mqU2 n++r.toList.map (mqC2 l)|_=>mqU2 t)))
 |.anonymous=>
  let k:=n.toNat
  if k=20 then return mqS mqEv l
  let i:=mqN "Tactic.rcasesPat.one" [mqI "rfl"]
  if k=50 then return mqG [i,mqA "|",i,mqA "|",i] (l.headD .missing)
  let d:=l.take (k%10);let l:=l.drop (k%10);let g:=[mqH "go.10.64" l,mqY [mqK mqR,mqZ (mqS "" l)]]
  if k<10 then return mqY [mqO ((if k=0 then [] else [mqS "" d "dsimp"])++mqY (["wF","aBw","aBh","aA4"].map λ x=>mqU (mqI x))::g)]
  return mqY [mqO [mqU (mqT "aV3" [mqI "rfl"]),mqV "focus" [mqQ (mqS "List.map yAl yCm yGb Nat.reduceSub yCx yAy List.replicate_zero yIk yGa" d "dsimp"::mqU (mqI "wF")::g)],mqY [mqV "exact" [mqI "yAj"],mqZ (mqS "aJX aJ0 aKR" l),mqK mqR]]]
 |_=>mqF
local macro_rules(kind:=Lean.Parser.Term.tuple)|s=>if s[1].getNumArgs=0 then return mqB (mqV "omega") else if s[1][2].getNumArgs%2=0 then return mqN "Term.anonymousCtor" [mqA "⟨",mqJ "," (s[1][0]::s[1][2].getSepArgs.toList),mqA "⟩"] else mqF
local macro_rules(kind:=«term_<$>_»)|s=>return mqT "aF" [mqI "fns",mqM `«term_+_» #[s[0],mqA "+",s[2]]]
local macro_rules(kind:=«term#[_,]»)|s=>return mqT "qz" [mqD "loc" [s[1][0]]]
local macro_rules(kind:=Lean.Parser.Term.typeAscription)|s=>if s[3].getNumArgs=0 then return mqT "qz" [mqD "d" [mqD "int" [s[1]]]] else mqF
def top(i:Nat):xu:=PySem.Challenge.pw_fewbits_k76_no_dearer_and_no_wider.main.body.getD i (.Pass (0,0,0,0,))
def uG:List (Str×Tv):=[("in",.int 0),("num",.int 0),("not",.int 1),("and",.int 2),("or",.int 2),("xor",.int 2),("add",.int 2),("sub",.int 2),("mul",.int 2),("left",.int 1),("right",.int 1),("slide",.int 1),("cut",.int 1),("wide",.int 1),("sign",.int 1),("same",.int 2),("less",.int 2),("under",.int 2),("pick",.int 3)]
def uY:List Tv:=[.str "left",.str "right",.str "slide"]
def aD2:List Tv:=[.str "add",.str "sub",.str "mul"]
def oF:List Tv:=[.str "same",.str "less",.str "under"]
def aCi:List Tv:=[.str "wide",.str "sign"]
def rX:List Tv:=[.int 0,.int 0,.int 1]
def uQ:List Tv:=[.int 1,.int 0,.int 1]
def wY:List Tv:=[.int 0,.int 1,.int 1]
def vE:List Tv:=[.str "cut",.str "nought",.str "sign"]
def cl_ini:List (Str×Ini):=[("program",.arg 0),("stays",.arg 1),("rows",.lst),("places",.lst),("once",.dct)]
def aA2(s:xu)(j:Nat):xu:=match s with|.ClassDef _ _ _ b _ _ _ _ _ _ _=>b.getD j (.Pass (0,0,0,0,))|_=>.Pass (0,0,0,0,)
def tbs:Tbs:=([("OPERAND_COUNTS",uG)],[("SHIFTS",uY),("SUMS",aD2),("COMPARES",oF),("WIDENINGS",aCi),("NOTHING",rX),("NOUGHT",uQ),("ONE",wY),("WORDS",vE)],[],qz (cl_ini,3,["self","program","stays"],aA2 (top 72) 0,),)
abbrev J0:E:=.int 0
abbrev J1:E:=.int 1
abbrev J2:E:=.int 2
abbrev J3:E:=.int 3
abbrev J4:E:=.int 4
abbrev J5:E:=.int 5
abbrev J7:E:=.int 7
abbrev J8:E:=.int 8
abbrev V0:E:=.var 0
abbrev V1:E:=.var 1
abbrev V2:E:=.var 2
abbrev V3:E:=.var 3
abbrev V4:E:=.var 4
abbrev V5:E:=.var 5
abbrev V6:E:=.var 6
abbrev V7:E:=.var 7
abbrev V8:E:=.var 8
abbrev V9:E:=.var 9
abbrev N0:E:=.nil
abbrev K0:Sx:=.skip
section
local macro_rules(kind:=«term_::_»)|s=>return mqD "cons" [s[0],s[2]]
local macro_rules(kind:=«term_^_»)|s=>return mqD "seq" [s[0],s[2]]
def aLc:Sx:=.ret (.bin .Sub (.bin .LShift J1 V0) J1)^K0
def aKN:Sx:=.ret (.bits V0)^K0
def aKx:Sx:=.ret (.call 0 (.call 1 (V0::N0)::N0))^K0
def aHQ:Sx:=.ret (.bin .Sub (.call 1 (.bin .BitXor V0 (.bin .Add V0 J1)::N0)) J1)^K0
def aHG:Sx:=.ret (.bin .Sub V1 (.call 1 (.bin .BitXor V0 (.call 0 (V1::N0))::N0)))^K0
def aCo:Sx:=.set 3 (.bin .LShift J1 (.bin .Sub V1 J1))^.ifs (.cmp .Eq (.bin .BitAnd V0 V3) J0) (.ret V0^K0) .skip^.ret (.bin .BitOr V0 (.bin .BitXor (.call 0 (V2::N0)) (.call 0 (V1::N0))))^K0
def aGc:Sx:=.set 3 (.bin .BitXor (.call 0 (V2::N0)) (.call 2 (.bin .BitXor V0 V1::N0)))^.set 4 (.bin .BitAnd V3 V0)^.ret (.tup (.bin .BitXor V3 V4::V4::N0))^K0
def aPv:Sx:=.ret (.sl V0 (J2::N0) (.bin .Add J2 (.tab "OPERAND_COUNTS" uG (.ix V0 J0))::N0))^K0
def aFN:Sx:=.ret (.bin .Add (.bin .Add (.sl V0 .no (J2::N0)) V1) (.sl V0 (.bin .Add J2 (.blt .len (V1::N0))::N0) .no))^K0
def aFK:E:=.comp (.ix V1 V2) (.one 2) (.it (.call 7 (V0::N0))) .no
def aF2:Sx:=.ret (.blt .tup (.fz aFK::N0))^K0
def aHc:Sx:=.set 2 (.ix V0 J0)^.ret (.ix (.ix V2 V1) J1)^K0
def aFQ:E:=.comp (.ix V1 J1) (.one 1) (.it (.ix V0 J0)) .no
def aGz:Sx:=.ret (.blt .tup (.fz aFQ::N0))^K0
def aFR:Sx:=.ret (.tup (.bin .BitAnd V2 (.un .Invert (.bin .BitAnd V1 (.un .Invert V0)))::.bin .BitAnd V2 (.un .Invert V0)::N0))^K0
def aGU:Sx:=.set 3 (.call 1 (V2::N0))^.set 4 (.blt .mn (V3::.call 3 (V1::N0)::N0))^.set 5 (.blt .mn (.bin .Sub V3 V4::.call 3 (V0::N0)::N0))^.ret (.tup (.call 0 (.bin .Sub V3 V4::N0)::.call 0 (.bin .Sub V3 V5::N0)::N0))^K0
def aDc:Sx:=.ifs (.cmp .Eq (.bin .RShift V0 V1) J0) (.ret V0^K0) .skip^.ret (.bin .BitOr (.bin .BitAnd V0 (.call 0 (V1::N0))) (.bin .LShift J1 (.bin .Sub V1 J1)))^K0
def zN:Sx:=.ifs (.cmp .Eq V0 (.str "left")) (.ret (.bin .RShift V3 V2)^K0) .skip^.ifs (.cmp .Eq V0 (.str "right")) (.ret (.bin .BitAnd (.bin .LShift V3 V2) (.call 0 (V1::N0)))^K0) .skip^.ret (.call 14 (.bin .LShift V3 V2::V1::N0))^K0
def zR:Sx:=.ifs (.cmp .Eq (.ix V0 J1) J1) (.ret (.tup (J1::V1::J0::N0))^K0) .skip^.ifs (.cmp .Eq (.ix V0 J0) J1) (.ret (.tup (J1::J0::V1::N0))^K0) .skip^.ret (.tup (J1::V1::V1::N0))^K0
def aF4:Sx:=.set 4 (.ix V0 J0)^.ifs (.cmp .Eq V4 (.str "and")) (.ret (.call 12 (.ix (.ix V2 J0) J0::.ix (.ix V2 J1) J0::V3::N0))^K0) .skip^.ifs (.cmp .Eq V4 (.str "or")) (.ret (.call 12 (.ix (.ix V2 J0) J1::.ix (.ix V2 J1) J1::V3::N0))^K0) .skip^.ifs (.cmp .In V4 (.tup (.str "add"::.str "sub"::N0))) (.ret (.tup (.call 2 (V3::N0)::.call 2 (V3::N0)::N0))^K0) .skip^.ifs (.cmp .Eq V4 (.str "mul")) (.ret (.call 13 (.ix (.ix V2 J0) J0::.ix (.ix V2 J1) J0::V3::N0))^K0) .skip^.ifs (.cmp .In V4 (.con "SHIFTS" uY)) (.ret (.tup (.call 15 (V4::.ix V0 J1::.ix V0 J3::V3::N0)::N0))^K0) .skip^.ifs (.cmp .Eq V4 (.str "wide")) (.ret (.tup (.bin .BitAnd V3 (.call 0 (.ix V1 J0::N0))::N0))^K0) .skip^.ifs (.cmp .Eq V4 (.str "sign")) (.ret (.tup (.call 14 (V3::.ix V1 J0::N0)::N0))^K0) .skip^.ifs (.cmp .In V4 (.con "COMPARES" oF)) (.ret (.tup (.call 0 (.ix V1 J0::N0)::.call 0 (.ix V1 J1::N0)::N0))^K0) .skip^.ifs (.cmp .Eq V4 (.str "pick")) (.ret (.call 16 (.ix V2 J0::V3::N0))^K0) .skip^.ret (.bin .Mult (.tup (V3::N0)) (.blt .len (.call 7 (V0::N0)::N0)))^K0
def aEv:Sx:=.ifs (.cmp .Eq V3 J0) (.ret (.bin .Mult (.tup (J0::N0)) (.blt .len (.call 7 (V0::N0)::N0)))^K0) .skip^.ret (.call 17 (V0::V1::V2::V3::N0))^K0
def aFT:E:=.comp (.call 10 (V0::V7::N0)) (.one 7) (.it (.call 7 (V4::N0))) .no
def aGw:Sx:=.set 4 (.ix (.ix V0 J0) V2)^.set 5 (.blt .tup (.fz aFT::N0))^.set 6 (.call 18 (V4::V5::.call 9 (V4::V1::N0)::V3::N0))^.ret (.fz (.lzip (.call 7 (V4::N0)) V6))^K0
def aAg:E:=.it (.call 19 (V0::V1::V4::.ix V2 V4::N0))
def aAc:Sx:=.put V2 V7 (.bin .BitOr (.ix V2 V7) V8)^K0
def aAh:E:=.rng3 (.bin .Sub (.blt .len (V5::N0)) J1) (.un .USub J1) (.un .USub J1)
def aCL:Sx:=.loop (.many [7,8]) aAg aAc^K0
def aCx:E:=.it V6
def aCG:Sx:=.put V2 V3 (.call 0 (.call 10 (V0::V3::N0)::N0))^K0
def gP:Sx:=.setT (.many [5,6]) V0^.set 2 (.new (.lrep (.fz (.lst (J0::N0))) (.blt .len (V5::N0))))^.loop (.one 3) aCx aCG^.loop (.one 4) aAh aCL^.ret (.blt .tup (V2::N0))^K0
def aHm:Sx:=.ret (.bin .BitXor (.call 0 (V1::N0)) (.call 0 (.bin .Sub V1 V0::N0)))^K0
def aGg:Sx:=.ret (.bin .BitOr (.ix V0 J0) (.ix V0 J1))^K0
def vB:Sx:=.setT (.many [3,4,5]) V0^.set 2 (.call 21 (V5::V1::N0))^.ifs (.cmp .NotEq (.bin .BitAnd V3 V2) J0) (.set 3 (.bin .BitOr V3 V2)^K0) .skip^.ifs (.cmp .NotEq (.bin .BitAnd V4 V2) J0) (.set 4 (.bin .BitOr V4 V2)^K0) .skip^.ret (.tup (V3::V4::.blt .mx (V5::.call 4 (V3::V1::N0)::.call 4 (V4::V1::N0)::N0)::N0))^K0
def aJM:Sx:=.ret (.ix V0 J1)^K0
def aGV:Sx:=.ret (.bin .BitXor (.call 0 (V1::N0)) (.ix V0 J0))^K0
def aQt:Sx:=.ifs (.cmp .Eq V0 (.str "add")) (.ret (.bin .Add V1 V2)^K0) .skip^.ifs (.cmp .Eq V0 (.str "sub")) (.ret (.bin .Sub V1 V2)^K0) .skip^.ret (.bin .Mult V1 V2)^K0
def aGA:Sx:=.set 3 (.call 0 (.call 3 (.bin .BitAnd (.call 22 (V1::N0)) (.call 22 (V2::N0))::N0)::N0))^.set 4 (.bin .BitAnd (.call 26 (V0::.call 24 (V1::N0)::.call 24 (V2::N0)::N0)) V3)^.ret (.tup (.bin .BitXor V3 V4::V4::N0))^K0
def zM:Sx:=.ifs (.cmp .NotEq V0 (.str "mul")) (.ret J0^K0) .skip^.ret (.call 0 (.blt .mn (V1::.bin .Add (.call 3 (.ix V2 J0::N0)) (.call 3 (.ix V3 J0::N0))::N0)::N0))^K0
def aAK:Sx:=.ifs (.cmp .Eq V0 (.str "sub")) (.ret (.tup (.bin .Sub (.call 24 (V2::N0)) (.call 25 (V3::V1::N0))::.bin .Sub (.call 25 (V2::V1::N0)) (.call 24 (V3::N0))::N0))^K0) .skip^.set 4 (.call 26 (V0::.call 24 (V2::N0)::.call 24 (V3::N0)::N0))^.set 5 (.call 26 (V0::.call 25 (V2::V1::N0)::.call 25 (V3::V1::N0)::N0))^.ret (.tup (V4::V5::N0))^K0
def zS:Sx:=.setT (.many [4,5]) (.call 29 (V0::V1::V2::V3::N0))^.ifs (.or (.cmp .Lt V4 J0) (.cmp .Gt V5 (.call 0 (V1::N0)))) (.ret (.tup (J0::J0::N0))^K0) .skip^.ret (.call 6 (V4::V5::V1::N0))^K0
def zU:Sx:=.ifs (.cmp .Eq V0 (.str "mul")) (.ret J1^K0) .skip^.ret (.blt .mx (J1::.bin .Sub (.blt .mn (.ix V1 J2::.ix V2 J2::N0)) J1::N0))^K0
def aHa:Sx:=.set 4 (.call 27 (V0::V2::V3::N0))^.set 5 (.call 30 (V0::V1::V2::V3::N0))^.set 6 (.bin .BitOr (.bin .BitOr (.ix V4 J0) (.ix V5 J0)) (.call 28 (V0::V1::V2::V3::N0)))^.ret (.tup (V6::.bin .BitOr (.ix V4 J1) (.ix V5 J1)::.call 31 (V0::V2::V3::N0)::N0))^K0
def aGL:Sx:=.ret (.tup (.bin .BitXor (.call 0 (V0::N0)) V1::V1::J1::N0))^K0
def aF5:Sx:=.ret (.bin .BitOr (.bin .BitAnd (.ix V0 J0) (.ix V1 J1)) (.bin .BitAnd (.ix V0 J1) (.ix V1 J0)))^K0
def zI:Sx:=.set 3 (.blt .mn (.ix V1 J2::.ix V2 J2::N0))^.ifs (.cmp .Eq V0 (.str "and")) (.ret (.tup (.bin .BitOr (.ix V1 J0) (.ix V2 J0)::.bin .BitAnd (.ix V1 J1) (.ix V2 J1)::V3::N0))^K0) .skip^.ifs (.cmp .Eq V0 (.str "or")) (.ret (.tup (.bin .BitAnd (.ix V1 J0) (.ix V2 J0)::.bin .BitOr (.ix V1 J1) (.ix V2 J1)::V3::N0))^K0) .skip^.set 4 (.bin .BitOr (.bin .BitAnd (.ix V1 J0) (.ix V2 J0)) (.bin .BitAnd (.ix V1 J1) (.ix V2 J1)))^.ret (.tup (V4::.call 34 (V1::V2::N0)::V3::N0))^K0
def aGu:Sx:=.set 3 (.bin .BitOr (.bin .LShift (.ix V1 J0) V2) (.call 0 (V2::N0)))^.ret (.tup (.bin .BitAnd V3 (.call 0 (V0::N0))::.bin .BitAnd (.bin .LShift (.ix V1 J1) V2) (.call 0 (V0::N0))::.blt .mx (J1::.bin .Sub (.ix V1 J2) V2::N0)::N0))^K0
def aCh:Sx:=.set 3 (.bin .BitOr (.bin .RShift (.ix V1 J0) V2) (.call 21 (.blt .mn (V2::V0::N0)::V0::N0)))^.ret (.tup (V3::.bin .RShift (.ix V1 J1) V2::.ite (.cmp .Eq V2 J0) (.ix V1 J2) J1::N0))^K0
def aF9:Sx:=.set 3 (.bin .Add V0 V2)^.ret (.tup (.bin .RShift (.call 5 (.ix V1 J0::V0::V3::N0)) V2::.bin .RShift (.call 5 (.ix V1 J1::V0::V3::N0)) V2::.blt .mn (V0::.bin .Add (.ix V1 J2) V2::N0)::N0))^K0
def aOk:Sx:=.ifs (.cmp .Eq V0 (.str "left")) (.ret (.call 36 (V1::V2::V3::N0))^K0) .skip^.ifs (.cmp .Eq V0 (.str "right")) (.ret (.call 37 (V1::V2::V3::N0))^K0) .skip^.ret (.call 38 (V1::V2::V3::N0))^K0
def uO:Sx:=.setT (.many [4,5,6]) V3^.ifs (.cmp .Eq V0 (.str "cut")) (.ret (.tup (.bin .BitAnd V4 (.call 0 (V2::N0))::.bin .BitAnd V5 (.call 0 (V2::N0))::.blt .mx (J1::.bin .Sub V6 (.bin .Sub V1 V2)::N0)::N0))^K0) .skip^.ifs (.cmp .Eq V0 (.str "wide")) (.ret (.tup (.bin .BitOr V4 (.call 21 (.bin .Sub V2 V1::V2::N0))::V5::.ite (.cmp .Eq V2 V1) V6 J1::N0))^K0) .skip^.ret (.tup (.call 5 (V4::V1::V2::N0)::.call 5 (V5::V1::V2::N0)::.bin .Add V6 (.bin .Sub V2 V1)::N0))^K0
def zQ:Sx:=.ifs (.cmp .NotEq (.call 34 (V1::V2::N0)) J0) (.ret (.con "NOUGHT" uQ)^K0) .skip^.ifs (.cmp .Eq (.bin .BitAnd (.call 22 (V1::N0)) (.call 22 (V2::N0))) (.call 0 (V0::N0))) (.ret (.con "ONE" wY)^K0) .skip^.ret (.con "NOTHING" rX)^K0
def zT:Sx:=.ifs (.cmp .Lt (.call 25 (V1::V0::N0)) (.call 24 (V2::N0))) (.ret (.con "ONE" wY)^K0) .skip^.ifs (.cmp .GtE (.call 24 (V1::N0)) (.call 25 (V2::V0::N0))) (.ret (.con "NOUGHT" uQ)^K0) .skip^.ret (.con "NOTHING" rX)^K0
def aGr:Sx:=.setT (.many [3,4,5]) V0^.set 2 (.bin .BitAnd (.bin .BitXor V3 V4) (.call 21 (J1::V1::N0)))^.ret (.tup (.bin .BitXor V3 V2::.bin .BitXor V4 V2::V5::N0))^K0
def aNW:Sx:=.ifs (.cmp .Eq V0 (.str "same")) (.ret (.call 41 (V1::V2::V3::N0))^K0) .skip^.ifs (.cmp .Eq V0 (.str "less")) (.ret (.call 42 (V1::V2::V3::N0))^K0) .skip^.ret (.call 42 (V1::.call 43 (V2::V1::N0)::.call 43 (V3::V1::N0)::N0))^K0
def zZ:Sx:=.ifs (.cmp .Eq (.ix V0 J1) J1) (.ret V1^K0) .skip^.ifs (.cmp .Eq (.ix V0 J0) J1) (.ret V2^K0) .skip^.ret (.tup (.bin .BitAnd (.ix V1 J0) (.ix V2 J0)::.bin .BitAnd (.ix V1 J1) (.ix V2 J1)::.blt .mn (.ix V1 J2::.ix V2 J2::N0)::N0))^K0
def aOy:Sx:=.set 3 (.ix V0 J0)^.set 4 (.ix V0 J1)^.ifs (.cmp .Eq V3 (.str "in")) (.ret (.con "NOTHING" rX)^K0) .skip^.ifs (.cmp .Eq V3 (.str "num")) (.ret (.call 33 (V4::.ix V0 J2::N0))^K0) .skip^.ifs (.cmp .Eq V3 (.str "not")) (.ret (.tup (.ix (.ix V2 J0) J1::.ix (.ix V2 J0) J0::.ix (.ix V2 J0) J2::N0))^K0) .skip^.ifs (.cmp .In V3 (.con "SUMS" aD2)) (.ret (.call 32 (V3::V4::.ix V2 J0::.ix V2 J1::N0))^K0) .skip^.ifs (.cmp .In V3 (.con "SHIFTS" uY)) (.ret (.call 39 (V3::V4::.ix V2 J0::.ix V0 J3::N0))^K0) .skip^.ifs (.cmp .In V3 (.con "COMPARES" oF)) (.ret (.call 44 (V3::.ix V1 J0::.ix V2 J0::.ix V2 J1::N0))^K0) .skip^.ifs (.cmp .Eq V3 (.str "pick")) (.ret (.call 45 (.ix V2 J0::.ix V2 J1::.ix V2 J2::N0))^K0) .skip^.ifs (.cmp .In V3 (.tup (.str "and"::.str "or"::.str "xor"::N0))) (.ret (.call 35 (V3::.ix V2 J0::.ix V2 J1::N0))^K0) .skip^.ret (.call 40 (V3::.ix V1 J0::V4::.ix V2 J0::N0))^K0
def aK8:Sx:=.ret (.call 23 (.call 46 (V0::V1::V2::N0)::.ix V0 J1::N0))^K0
def zK:E:=.it (.ix V0 J0)
def zL:Sx:=.expr (.app V2 (.call 47 (V3::.call 9 (V3::V1::N0)::.call 9 (V3::V2::N0)::N0)))^K0
def aG8:Sx:=.set 1 (.call 11 (V0::N0))^.set 2 (.new (.lst .nil))^.loop (.one 3) zK zL^.ret (.blt .tup (V2::N0))^K0
def sC:Sx:=.setT (.many [5,6]) V0^.set 4 (.bin .RShift V2 V6)^.ifs (.cmp .Eq V4 J0) (.ret (.bl true)^K0) .skip^.ifs (.cmp .Eq V5 (.str "nought")) (.ret (.cmp .Eq (.bin .BitAnd V4 (.un .Invert (.bin .RShift (.ix V1 J0) V6))) J0)^K0) .skip^.ret (.and (.cmp .Eq V5 (.str "sign")) (.and (.cmp .Eq (.bin .BitAnd (.bin .RShift V2 (.bin .Sub V6 J1)) J1) J1) (.cmp .LtE (.bin .Add (.bin .Sub V3 V6) J1) (.ix V1 J2))))^K0
def aFI:E:=.comp V4 (.one 4) (.rng2 J1 (.bin .Add V3 J1)) (.call 49 (.tup (V0::V4::N0)::V1::V2::V3::N0))
def aF1:Sx:=.ret (.blt .mn (.fz aFI::N0))^K0
def uH:E:=.comp (.call 50 (V5::V0::V1::V2::N0)) (.one 5) (.it (.con "WORDS" vE)) .no
def rT:Sx:=.setC false 3 uH^.set 4 (.blt .mn (V3::N0))^.ret (.tup (.ix (.con "WORDS" vE) (.idx V3 V4)::V4::N0))^K0
def aAe:Sx:=.ifs (.cmp .Eq (.ix V0 J0) (.str "in")) (.ret (.tup (.str "cut"::.ix V0 J1::N0))^K0) .skip^.ifs (.cmp .Eq V2 J0) (.ret .non^K0) .skip^.ret (.call 51 (V1::V2::.ix V0 J1::N0))^K0
def aFJ:E:=.comp (.call 52 (V3::V4::V5::N0)) (.many [3,4,5]) (.zip3 (.ix V0 J0) V1 V2) .no
def aFX:Sx:=.ret (.blt .tup (.fz aFJ::N0))^K0
def aZk:Sx:=.expr (.app (.fld V0 "rows") V1)^.ret (.bin .Sub (.blt .len (.fld V0 "rows"::N0)) J1)^K0
def aO4:Sx:=.ifs (.din true V1 (.fld V0 "once")) (.dput (.fld V0 "once") V1 (.mth "make" 54 V0 (V1::N0))^K0) .skip^.ret (.dget (.fld V0 "once") V1)^K0
def aKu:Sx:=.set 3 (.ix (.fld V0 "stays") V1)^.ifs (.cmp .Is V3 .non) (.ret (.mth "make_once" 55 V0 (.tpl (.str "num"::V2::J0::N0)::N0))^K0) .skip^.setT (.many [4,5]) V3^.ifs (.cmp .Eq V5 V2) (.ret (.ix (.fld V0 "places") V1)^K0) .skip^.ifs (.cmp .Gt V5 V2) (.ret (.mth "make_once" 55 V0 (.tpl (.str "cut"::V2::.ix (.fld V0 "places") V1::N0)::N0))^K0) .skip^.ret (.mth "make_once" 55 V0 (.tpl (.ite (.cmp .Eq V4 (.str "sign")) (.str "sign") (.str "wide")::V2::.ix (.fld V0 "places") V1::N0)::N0))^K0
def aGq:Sx:=.set 3 (.blt .mn (.ix V1 J1::.bin .Add V2 (.ix V1 J3)::N0))^.set 4 (.mth "fetch" 56 V0 (.ix V1 J2::V3::N0))^.set 5 (.mth "make" 54 V0 (.tup (.ix V1 J0::V3::V4::.ix V1 J3::N0)::N0))^.ifs (.cmp .Gt V3 V2) (.ret (.mth "make_once" 55 V0 (.tpl (.str "cut"::V2::V5::N0)::N0))^K0) .skip^.ret V5^K0
def aNQ:Sx:=.set 3 (.call 10 (.fld V0 "program"::.ix V1 J2::N0))^.ifs (.cmp .LtE V2 V3) (.ret (.mth "fetch" 56 V0 (.ix V1 J2::V2::N0))^K0) .skip^.ret (.mth "make_once" 55 V0 (.tpl (.ix V1 J0::V2::.mth "fetch" 56 V0 (.ix V1 J2::V3::N0)::N0)::N0))^K0
def aFO:Sx:=.set 4 (.blt .mx (.ix V1 J1::.ix V2 J1::N0))^.set 5 (.cou false (.ix V1 J0::.ix V2 J0::N0) (.str "sign"))^.ifs (.cmp .Eq V5 J1) (.ret V3^K0) .skip^.ifs (.and (.cmp .Eq V5 J0) (.cmp .Eq V0 (.str "under"))) (.ret (.blt .mn (V3::.bin .Add V4 J1::N0))^K0) .skip^.ret V4^K0
def aFE:E:=.comp (.mth "fetch" 56 V0 (V7::V3::N0)) (.one 7) (.it (.tup (V5::V6::N0))) .no
def aNV:Sx:=.setT (.many [5,6]) (.call 7 (V1::N0))^.set 2 (.call 10 (.fld V0 "program"::V5::N0))^.set 3 (.call 59 (.ix V1 J0::.ix (.fld V0 "stays") V5::.ix (.fld V0 "stays") V6::V2::N0))^.set 4 (.blt .tup (.fz aFE::N0))^.ret (.mth "make" 54 V0 (.bin .Add (.tup (.ix V1 J0::J1::N0)) V4::N0))^K0
def aFW:E:=.comp (.mth "fetch" 56 V0 (V4::V2::N0)) (.one 4) (.it (.call 7 (V1::N0))) .no
def aOR:Sx:=.setC false 3 aFW^.ret (.mth "make" 54 V0 (.call 8 (.bin .Add (.tup (.ix V1 J0::V2::N0)) (.sl V1 (J2::N0) .no)::.blt .tup (V3::N0)::N0)::N0))^K0
def aFV:E:=.comp (.mth "fetch" 56 V0 (V5::V2::N0)) (.one 5) (.it (.sl V1 (J3::N0) .no)) .no
def aO5:Sx:=.set 3 (.mth "fetch" 56 V0 (.ix V1 J2::J1::N0))^.set 4 (.blt .tup (.fz aFV::N0))^.ret (.mth "make" 54 V0 (.bin .Add (.tup (.str "pick"::V2::V3::N0)) V4::N0))^K0
def oG:Sx:=.set 3 (.ix V1 J0)^.ifs (.cmp .Eq V3 (.str "in")) (.ret (.mth "make" 54 V0 (V1::N0))^K0) .skip^.ifs (.cmp .Eq V3 (.str "num")) (.ret (.mth "make" 54 V0 (.tup (.str "num"::V2::.bin .BitAnd (.ix V1 J2) (.call 0 (V2::N0))::N0)::N0))^K0) .skip^.ifs (.cmp .In V3 (.tup (.str "right"::.str "slide"::N0))) (.ret (.call 57 (V0::V1::V2::N0))^K0) .skip^.ifs (.cmp .Eq V3 (.str "cut")) (.ret (.mth "fetch" 56 V0 (.ix V1 J2::V2::N0))^K0) .skip^.ifs (.cmp .In V3 (.con "WIDENINGS" aCi)) (.ret (.call 58 (V0::V1::V2::N0))^K0) .skip^.ifs (.cmp .In V3 (.con "COMPARES" oF)) (.ret (.call 60 (V0::V1::N0))^K0) .skip^.ifs (.cmp .Eq V3 (.str "pick")) (.ret (.call 62 (V0::V1::V2::N0))^K0) .skip^.ret (.call 61 (V0::V1::V2::N0))^K0
def aGj:E:=.comp (.mth "fetch" 56 V4 (V9::.call 10 (V0::V9::N0)::N0)) (.one 9) (.it (.ix V0 J1)) .no
def aCl:E:=.zip (.ix V0 J0) V3
def uI:Sx:=.set 8 (.ite (.cmp .Is V7 .non) .non (.call 63 (V4::V6::.ix V7 J1::N0)))^.expr (.app (.fld V4 "places") V8)^K0
def aHR:Sx:=.set 4 (.mk cl_ini 3 (V0::V3::N0))^.loop (.many [6,7]) aCl uI^.set 5 (.blt .tup (.fz aGj::N0))^.ret (.tup (.blt .tup (.fld V4 "rows"::N0)::V5::N0))^K0
def aGQ:Sx:=.set 1 (.call 48 (V0::N0))^.set 2 (.call 20 (V0::V1::N0))^.set 3 (.call 53 (V0::V1::V2::N0))^.ret (.tup (.call 64 (V0::V1::V2::V3::N0)::V3::N0))^K0
def aOG:Sx:=.set 2 (.ix V0 J0)^.set 3 (.ix V0 J1)^.ifs (.cmp .In V2 (.tup (.str "not"::.str "and"::.str "or"::.str "xor"::.str "pick"::N0))) (.ret V3^K0) .skip^.ifs (.cmp .In V2 (.con "COMPARES" oF)) (.ret (.ix V1 (.ix V0 J2))^K0) .skip^.ifs (.cmp .In V2 (.tup (.str "add"::.str "sub"::N0))) (.ret (.bin .Mult J2 V3)^K0) .skip^.ifs (.cmp .Eq V2 (.str "mul")) (.ret (.bin .Mult V3 V3)^K0) .skip^.ret J0^K0
def aGY:E:=.comp (.call 66 (V2::V1::N0)) (.one 2) (.it (.ix V0 J0)) .no
def aKv:Sx:=.set 1 (.call 11 (V0::N0))^.ret (.blt .sum (.fz aGY::N0))^K0
def iT:Sx:=.setT (.many [3,4]) (.sl V0 .no (J2::N0))^.put V0 J1 (.bin .Add V4 J1)^.ifs (.and (.cmp .Lt (.bin .Add (.bin .FloorDiv V4 (.int 12)) J1) (.blt .len (V3::N0))) (.cmp .Eq (.bin .Mod (.ix V3 J0) J2) J1)) (.ifs (.cmp .Eq (.bin .Mod V4 (.int 12)) J0) (.put V0 J2 (.ix V3 (.bin .Add (.bin .FloorDiv V4 (.int 12)) J1))^K0) .skip^.set 5 (.bin .Mod (.ix V0 J2) V1)^.put V0 J2 (.bin .FloorDiv (.ix V0 J2) V1)^.ret V5^K0) .skip^.ifs (.cmp .Lt V4 (.blt .len (V3::N0))) (.ret (.bin .Mod (.ix V3 V4) V1)^K0) .skip^.set 2 (.bin .Add (.bin .Mult V4 (.int 7919)) J5)^.ifs (.cmp .Gt (.blt .len (.ix V0 J0::N0)) J0) (.set 2 (.bin .Add V2 (.bin .Mult (.ix (.ix V0 J0) (.bin .Mod (.bin .Mult V4 J7) (.blt .len (.ix V0 J0::N0)))) (.bin .Add (.int 48271) V4)))^K0) .skip^.set 2 (.bin .Mod (.bin .Mult (.bin .Mod V2 (.int 2147483629)) (.bin .Add V4 J3)) (.int 2147483629))^.set 2 (.bin .Mod (.bin .Mult V2 V2) (.int 2147483587))^.ret (.bin .Mod (.bin .Mod (.bin .Mult V2 V2) (.int 1999999973)) V1)^K0
def aCe:Sx:=.ifs (.cmp .Lt V1 (.int 31)) (.ret (.call 68 (V0::.bin .LShift J1 V1::N0))^K0) .skip^.ret (.bin .Add (.call 68 (V0::.bin .LShift J1 (.int 30)::N0)) (.bin .LShift (.call 68 (V0::.bin .LShift J1 (.bin .Sub V1 (.int 30))::N0)) (.int 30)))^K0
def aF8:Sx:=.ret (.ix (.fz (.lst (J1::.int 64::.bin .Add J1 (.call 68 (V0::J8::N0))::.bin .Add J1 (.call 68 (V0::.int 64::N0))::N0))) (.call 68 (V0::J4::N0)))^K0
def aCC:Sx:=.set 2 (.call 68 (V0::J5::N0))^.set 3 (.fz (.lst (J0::.bin .Sub (.bin .LShift J1 V1) J1::.bin .LShift J1 (.call 68 (V0::V1::N0))::.bin .Sub (.bin .LShift J1 (.call 68 (V0::V1::N0))) J1::N0)))^.ifs (.cmp .Lt V2 J4) (.ret (.ix V3 V2)^K0) .skip^.ret (.call 69 (V0::V1::N0))^K0
def aGX:Sx:=.ifs (.cmp .Eq (.ix (.ix V1 V2) J1) V3) (.ret V2^K0) .skip^.set 4 (.ix (.fz (.lst (.str "wide"::.str "sign"::N0))) (.call 68 (V0::J2::N0)))^.ifs (.cmp .Gt (.ix (.ix V1 V2) J1) V3) (.set 4 (.str "cut")^K0) .skip^.expr (.app V1 (.tup (V4::V3::V2::N0)))^.ret (.bin .Sub (.blt .len (V1::N0)) J1)^K0
def aFF:E:=.comp V4 (.one 4) (.rng1 (.blt .len (V1::N0))) (.cmp .Eq (.ix (.ix V1 V4) J1) V2)
def aB9:Sx:=.setC false 3 aFF^.ifs (.and (.cmp .NotEq V3 (.fz (.lst .nil))) (.cmp .Gt (.call 68 (V0::J4::N0)) J0)) (.ret (.ix V3 (.bin .Sub (.bin .Sub (.blt .len (V3::N0)) J1) (.call 68 (V0::.blt .len (V3::N0)::N0))))^K0) .skip^.ret (.call 72 (V0::V1::.call 68 (V0::.blt .len (V1::N0)::N0)::V2::N0))^K0
def aNI:Sx:=.set 3 (.call 68 (V0::.blt .len (V1::N0)::N0))^.set 4 (.ix (.ix V1 V3) J1)^.ifs (.cmp .Eq V2 (.str "cut")) (.ret (.tup (.str "cut"::.bin .Add J1 (.call 68 (V0::V4::N0))::V3::N0))^K0) .skip^.ret (.tup (V2::.bin .Add V4 (.call 68 (V0::.bin .Sub (.int 65) V4::N0))::V3::N0))^K0
def aOo:Sx:=.set 4 (.ix (.fz (.lst (.call 68 (V0::V3::N0)::.call 68 (V0::.int 64::N0)::N0))) (.bin .FloorDiv (.call 68 (V0::J4::N0)) J3))^.ret (.tup (V2::V3::.call 73 (V0::V1::V3::N0)::V4::N0))^K0
def aGD:Sx:=.set 4 (.call 73 (V0::V1::V3::N0))^.set 5 (.call 73 (V0::V1::V3::N0))^.ifs (.cmp .In V2 (.tup (.str "same"::.str "less"::.str "under"::N0))) (.set 3 J1^K0) .skip^.ret (.tup (V2::V3::V4::V5::N0))^K0
def rZ:Sx:=.set 2 (.fz (.lst (.str "in"::.str "num"::.str "num"::.str "not"::.str "and"::.str "or"::.str "xor"::.str "add"::.str "sub"::.str "mul"::.str "left"::.str "right"::.str "slide"::.str "cut"::N0)))^.set 2 (.bin .Add V2 (.fz (.lst (.str "wide"::.str "sign"::.str "same"::.str "less"::.str "under"::.str "pick"::N0))))^.set 3 (.ix V2 (.call 68 (V0::.int 20::N0)))^.set 4 (.ix (.ix V1 (.call 68 (V0::.blt .len (V1::N0)::N0))) J1)^.ifs (.cmp .Eq (.call 68 (V0::J4::N0)) J1) (.set 4 (.call 70 (V0::N0))^K0) .skip^.ifs (.cmp .Eq V3 (.str "in")) (.set 5 (.tup (.str "in"::V4::N0))^K0) (.ifs (.cmp .Eq V3 (.str "num")) (.set 5 (.tup (.str "num"::V4::.call 71 (V0::V4::N0)::N0))^K0) (.ifs (.cmp .Eq V3 (.str "not")) (.set 5 (.tup (.str "not"::V4::.call 73 (V0::V1::V4::N0)::N0))^K0) (.ifs (.cmp .In V3 (.tup (.str "left"::.str "right"::.str "slide"::N0))) (.set 5 (.call 75 (V0::V1::V3::V4::N0))^K0) (.ifs (.cmp .In V3 (.tup (.str "cut"::.str "wide"::.str "sign"::N0))) (.set 5 (.call 74 (V0::V1::V3::N0))^K0) (.ifs (.cmp .Eq V3 (.str "pick")) (.set 6 (.call 73 (V0::V1::J1::N0))^.set 5 (.bin .Add (.tup (.str "pick"::V4::V6::N0)) (.sl (.call 76 (V0::V1::V3::V4::N0)) (J2::N0) .no))^K0) (.set 5 (.call 76 (V0::V1::V3::V4::N0))^K0)^K0)^K0)^K0)^K0)^K0)^.expr (.app V1 V5)^K0
def aFD:E:=.rng1 (.ix (.fz (.lst (.call 68 (V0::J3::N0)::J7::N0))) (.blt .int (.cmp .Eq (.call 68 (V0::J8::N0)) J1::N0)))
def aFC:Sx:=.expr (.app V6 (.call 68 (V0::.blt .len (V3::N0)::N0)))^K0
def aFG:E:=.rng1 V1
def aFH:Sx:=.ifs (.cmp .Lt (.blt .len (V3::N0)) (.int 37)) (.expr (.call 77 (V0::V3::N0))^K0) .skip^K0
def aCb:Sx:=.set 2 (.call 70 (V0::N0))^.set 3 (.new (.lst (.tup (.str "in"::V2::N0)::N0)))^.ifs (.cmp .Eq (.call 68 (V0::J8::N0)) J1) (.set 3 (.new (.lst (.tup (.str "num"::V2::.call 71 (V0::V2::N0)::N0)::N0)))^K0) .skip^.loop (.one 4) aFG aFH^.set 5 (.fz (.lst (.bin .Sub (.blt .len (V3::N0)) J1::.call 68 (V0::.blt .len (V3::N0)::N0)::N0)))^.set 6 (.new (.lst (.ix V5 (.blt .int (.cmp .Eq (.call 68 (V0::J4::N0)) J1::N0))::N0)))^.loop (.one 4) aFD aFC^.ret (.tup (.blt .tup (V3::N0)::.blt .tup (V6::N0)::N0))^K0
def aFL:E:=.comp V1 (.one 1) (.it V0) (.cmp .NotIn (.ix V1 J0) (.tup (.str "in"::.str "num"::.str "cut"::.str "wide"::.str "sign"::N0)))
def aOt:Sx:=.ret (.fz aFL)^K0
def aFP:E:=.it (.ix V0 J0)
def aFU:Sx:=.expr (.exd V1 (.call 7 (V2::N0)))^K0
def aCr:Sx:=.set 1 (.new (.lof (.ix V0 J1)))^.loop (.one 2) aFP aFU^.ret V1^K0
def aDd:E:=.rng1 (.blt .len (.ix V3 J0::N0))
def aDt:Sx:=.ifs (.and (.cmp .NotEq (.ix (.ix (.ix V3 J0) V9) J0) (.str "in")) (.cmp .NotIn V9 V8)) (.ret (.bl false)^K0) .skip^K0
def aJz:E:=.comp (.var 12) (.one 12) (.it (.ix V3 J0)) (.cmp .In (.ix (.var 12) J0) (.tup (.str "cut"::.str "wide"::.str "sign"::N0)))
def aDw:E:=.zip V6 V5
def aDl:Sx:=.ifs (.cmp .Gt (.ix (.var 10) J1) (.ix (.var 11) J1)) (.ret (.bl false)^K0) .skip^K0
def aTq:E:=.comp (.ix (.var 12) J0) (.one 12) (.it V6) .no
def aSA:E:=.comp (.ix (.var 12) J0) (.one 12) (.it V5) .no
def aJn:E:=.comp (.var 12) (.many [12,13]) (.zip (.ix V2 J0) V4) (.cmp .Gt (.var 13) J0)
def aBy:Sx:=.set 1 (.new (.lst (V0::J0::J0::N0)))^.set 2 (.call 78 (V1::.bin .Add J1 (.blt .mn (.blt .len (V0::N0)::.int 24::N0))::N0))^.set 3 (.ix (.call 65 (V2::N0)) J0)^.ifs (.cmp .Gt (.call 67 (V3::N0)) (.call 67 (V2::N0))) (.ret (.bl false)^K0) .skip^.set 4 (.call 20 (V2::.call 48 (V2::N0)::N0))^.set 5 (.call 79 (.fz aJn::N0))^.set 6 (.call 79 (.ix V3 J0::N0))^.ifs (.cmp .NotEq (.fz aTq) (.fz aSA)) (.ret (.bl false)^K0) .skip^.loop (.many [10,11]) aDw aDl^.setC false 7 aJz^.ifs (.cmp .NotEq (.lset V7) (.blt .len (V7::N0))) (.ret (.bl false)^K0) .skip^.set 8 (.call 80 (V3::N0))^.loop (.one 9) aDd aDt^.ret (.bl true)^K0
end
abbrev Fq(a:Str)(b:Nat)(c:List Str)(d:Sx)(e:Stmt):Fn:=(a,b,c,d,e,false,a,)
def fns:List Fn:=[
 Fq "full" 1 ["width"] aLc (top 1),
 Fq "reach" 1 ["number"] aKN (top 2),
 Fq "below" 1 ["number"] aKx (top 3),
 Fq "low_run" 1 ["number"] aHQ (top 4),
 Fq "top_run" 2 ["number","width"] aHG (top 5),
 Fq "stretched" 3 ["number","width","wider","top"] aCo (top 6),
 Fq "shared_top" 3 ["least","greatest","width","known","ones"] aGc (top 7),
 Fq "operands" 1 ["row"] aPv (top 14),
 Fq "with_operands" 2 ["row","numbers"] aFN (top 15),
 Fq "of_operands" 2 ["row","values","k"] aF2 (top 16),
 Fq "width_of" 2 ["program","k","rows"] aHc (top 17),
 Fq "widths_of" 1 ["program","row"] aGz (top 18),
 Fq "settled_need" 3 ["first","second","mask"] aFR (top 20),
 Fq "mul_need" 3 ["first","second","mask","h","u","g"] aGU (top 21),
 Fq "folded" 2 ["mask","width"] aDc (top 22),
 Fq "shift_need" 4 ["word","width","k","mask"] zN (top 23),
 Fq "pick_need" 2 ["choice","mask"] zR (top 24),
 Fq "asking_need" 4 ["row","widths","facts","mask","word"] aF4 (top 25),
 Fq "need" 4 ["row","widths","facts","mask"] aEv (top 26),
 Fq "row_needs" 4 ["program","facts","k","mask","row","widths","needs","operand"] aGw (top 28),
 Fq "asked" 2 ["program","facts","masks","out","k","rows","outs","operand","mask"] gP (top 29),
 Fq "top_mask" 2 ["count","width"] aHm (top 31),
 Fq "known_bits" 1 ["fact"] aGg (top 32),
 Fq "closed" 2 ["fact","width","top","noughts","ones","alike"] vB (top 33),
 Fq "least" 1 ["fact"] aJM (top 34),
 Fq "greatest" 2 ["fact","width"] aGV (top 35),
 Fq "outcome" 3 ["word","one","other"] aQt (top 37),
 Fq "low_masks" 3 ["word","one","other","low","ones"] aGA (top 38),
 Fq "low_noughts" 4 ["word","width","one","other"] zM (top 39),
 Fq "bounds" 4 ["word","width","one","other","lowest","highest"] aAK (top 40),
 Fq "top_masks" 4 ["word","width","one","other","lowest","highest"] zS (top 41),
 Fq "sum_alike" 3 ["word","one","other"] zU (top 42),
 Fq "sum_fact" 4 ["word","width","one","other","low","top","noughts"] aHa (top 43),
 Fq "num_fact" 2 ["width","number"] aGL (top 48),
 Fq "unlike_bits" 2 ["one","other"] aF5 (top 49),
 Fq "bitwise_fact" 3 ["word","one","other","alike","noughts"] zI (top 50),
 Fq "left_fact" 3 ["width","fact","k","noughts"] aGu (top 51),
 Fq "right_fact" 3 ["width","fact","k","noughts"] aCh (top 52),
 Fq "slide_fact" 3 ["width","fact","k","wider"] aF9 (top 53),
 Fq "shift_fact" 4 ["word","width","fact","k"] aOk (top 54),
 Fq "fit_fact" 4 ["word","v","w","fact","noughts","ones","alike"] uO (top 55),
 Fq "same_fact" 3 ["width","one","other"] zQ (top 56),
 Fq "less_fact" 3 ["width","one","other"] zT (top 57),
 Fq "top_turned" 2 ["fact","width","turning","noughts","ones","alike"] aGr (top 58),
 Fq "compare_fact" 4 ["word","width","one","other"] aNW (top 59),
 Fq "pick_fact" 3 ["choice","one","other"] zZ (top 60),
 Fq "open_fact" 3 ["row","widths","facts","word","width"] aOy (top 61),
 Fq "rule" 3 ["row","widths","facts"] aK8 (top 62),
 Fq "facts_of" 1 ["program","widths","facts","row"] aG8 (top 63),
 Fq "lets_by" 4 ["stay","fact","mask","width","above","word","kept"] sC (top 66),
 Fq "least_width" 4 ["word","fact","mask","width","kept"] aF1 (top 67),
 Fq "least_stay" 3 ["fact","mask","width","widths","kept","word"] rT (top 68),
 Fq "row_stay" 3 ["row","fact","mask"] aAe (top 69),
 Fq "least_stays" 3 ["program","facts","masks","row","fact","mask"] aFX (top 70),
 {name:="make",np:=2,N:=["self","row"],body:=aZk,st:=aA2 (top 72) 1,me:=true,qual:="Maker.make" },
 {name:="make_once",np:=2,N:=["self","row"],body:=aO4,st:=aA2 (top 72) 2,me:=true,qual:="Maker.make_once" },
 {name:="fetch",np:=3,N:=["self","k","width","stay","word","kept"],body:=aKu,st:=aA2 (top 72) 3,me:=true,qual:="Maker.fetch" },
 Fq "make_shift" 3 ["maker","row","width","wider","fetched","made"] aGq (top 73),
 Fq "make_widening" 3 ["maker","row","width","old"] aNQ (top 74),
 Fq "compare_width" 4 ["word","one","other","old","greater","signs"] aFO (top 75),
 Fq "make_compare" 2 ["maker","row","old","width","fetched","one","other","k"] aNV (top 76),
 Fq "make_work" 3 ["maker","row","width","fetched","k"] aOR (top 77),
 Fq "make_pick" 3 ["maker","row","width","choice","sides","k"] aO5 (top 78),
 Fq "make_row" 3 ["maker","row","width","word"] oG (top 79),
 Fq "made_by" 4 ["program","facts","masks","stays","maker","outs","row","stay","place","out"] aHR (top 80),
 Fq "narrowed" 1 ["program","facts","masks","found"] aGQ (top 81),
 Fq "row_price" 2 ["row","widths","word","width"] aOG (top 83),
 Fq "price" 1 ["program","widths","row"] aKv (top 84),
 Fq "_law_draw" 2 ["_law_state","_law_many","_law_cell","_law_script","_law_k","_law_digit"] iT (top 86),
 Fq "_law_number" 2 ["_law_state","_law_width_here"] aCe (top 87),
 Fq "_law_width" 1 ["_law_state"] aF8 (top 88),
 Fq "_law_num" 2 ["_law_state","_law_width_here","_law_sort","_law_some"] aCC (top 89),
 Fq "_law_fit" 4 ["_law_state","_law_rows","_law_a","_law_width_here","_law_word"] aGX (top 90),
 Fq "_law_operand" 3 ["_law_state","_law_rows","_law_width_here","_law_some","_law_k"] aB9 (top 91),
 Fq "_law_turned_width" 3 ["_law_state","_law_rows","_law_word","_law_a","_law_width_here"] aNI (top 92),
 Fq "_law_shift" 4 ["_law_state","_law_rows","_law_word","_law_width_here","_law_k"] aOo (top 93),
 Fq "_law_pair" 4 ["_law_state","_law_rows","_law_word","_law_width_here","_law_a","_law_b"] aGD (top 94),
 Fq "_law_row" 2 ["_law_state","_law_rows","_law_some","_law_word","_law_width_here","_law_row_here","_law_c"] rZ (top 95),
 Fq "_law_program" 2 ["_law_state","_law_most","_law_width_here","_law_rows","_law_k","_law_last","_law_outs"] aCb (top 96),
 Fq "_law_works" 1 ["_law_rows","_law_row_here"] aOt (top 97),
 Fq "_law_used" 1 ["_law_program_here","_law_found","_law_row_here"] aCr (top 98),
 Fq "law" 1 ["_law_script","_law_state","_law_program_here","_law_made","_law_masks","_law_old","_law_new","_law_some","_law_wanted","_law_k","_law_one","_law_other","_law_row_here","_law_mask"] aBy (top 99)]
def cN(ns:List Int)(k:Nat)(x:Int):List D:=[.list (ns.map yAo),.int k,.int x]
def aTo{α:Type}{S:List α}{a v:α}(h:S[n]?=qz a):(S.set n v)[n]?=qz v:=yAq (gIm h).1
def aCw{α:Type}(S:List α)(n:Nat)(v:α):(S.set n v).take ↑S=S.set n v:=by rw[yCd];rw[yBf];exact yAb _
def aKa(a b c:D):bD (.list [a,b,c]) (.int 0)=qz a:=rfl
def aKp(a b c:D):bD (.list [a,b,c]) (.int 2)=qz c:=rfl
def aZ0(a b c:D):fJ [a,b,c] qx (qz 2)=[a,b]:=rfl
def sH{ns:List Int}(h:k<↑ns):bD (.list (ns.map yAo)) (.int k)=qz (.int ns[k]):=oQ (by rw[yAg,yAa h];rfl)
def cs1(h:b<a):((a:Nat):Int)-1-(b:Int)=((a-1-b:Nat):Int):=()
def vF(i:Int){w:Nat}(hw:0<w):∃ r:Nat,i%(w:Int)=(r:Int)/\r<w:=by have h0:=yHd i (show(w:Int)≠0 by omega);have h1:=yFy i (show(0:Int)<(w:Int) by omega);exact((i%(w:Int)).toNat,by omega,by omega,)
def aYY:jU 3 1=qz 1:=rfl
def aLS:jU 3 2=qz 2:=rfl
def pY(ns:List Int):↑(ns.map yAo)=↑ns:=yAd ..
def sA:Sx:=match iT with|.seq _ (.seq _ (.seq _ r))=>r|_=>.skip
def rY(i p:Int)(hp:0<p)(hp2:p<=2147483647) : -(2^64)<i%p/\i%p<2^64:=by have h0:=yHd i (show p≠0 by omega);have h1:=yFy i hp;exact(by omega,by omega,)
def aPf(C:Calls)(n k m:Nat)(ns:List Int)(x:Int)(S:aC)(e2 e5:Option W)(hS:S[n]?=qz (qz (cN ns (k+1) x)))(hm:0<m)(hk:k<=100000) :
 ∃ r:Nat,r<m/\xs C sA [#[n],(m:),e2,qz (.d (.list (ns.map yAo))),(k:),e5] S=qz (.rt (.d (.int r)),S):=by
 unfold cN at hS;have hm':(0:Int)<(m:Int):=();by_cases c1:k<↑ns
 .have d1:decide ((k:Int)<((↑ns:Nat):Int))=true:=dqT ();let(r,er,hr):=vF ns[k] hm;refine(r,hr,?_,);erw[2,sA,iT,lS,lQ,pY,fG,d1,sH c1,fZ hm',er]
 .have d1:decide ((k:Int)<((↑ns:Nat):Int))=false:=dqF ();have cG:∀ c:Int,∃ r:Nat,r<m/\c%2147483629*((k:Int)+3)%2147483629*(c%2147483629*((k:Int)+3)%2147483629)%2147483587*(c%2147483629*((k:Int)+3)%2147483629*(c%2147483629*((k:Int)+3)%2147483629)%2147483587)%1999999973%(m:Int)=(r:Int):=λ c=>by
   let(r,er,hr):=vF (c%2147483629*((k:Int)+3)%2147483629*(c%2147483629*((k:Int)+3)%2147483629)%2147483587*(c%2147483629*((k:Int)+3)%2147483629*(c%2147483629*((k:Int)+3)%2147483629)%2147483587)%1999999973) hm;exact(r,hr,er,)
  by_cases c2:0<↑ns
  .have d2:decide ((0:Int)<((↑ns:Nat):Int))=true:=dqT ();let(q,eq,hq):=vF ((k:Int)*7) c2;let(r,hr,er):=cG ((k:Int)*7919+5+ns[q]*(48271+(k:Int)));refine(r,hr,?_,);have s1:=rY ((k:Int)*7919+5+ns[q]*(48271+(k:Int))) 2147483629 (·) (·);have s2:=rY (((k:Int)*7919+5+ns[q]*(48271+(k:Int)))%2147483629*((k:Int)+3)) 2147483629 (·) (·);have s3:=rY (((k:Int)*7919+5+ns[q]*(48271+(k:Int)))%2147483629*((k:Int)+3)%2147483629*(((k:Int)*7919+5+ns[q]*(48271+(k:Int)))%2147483629*((k:Int)+3)%2147483629)) 2147483587 (·) (·)
   erw[20,sA,iT,lS,lQ,pY,fG,d1,@aAG (k:Int) 7919 (·) (·),eC,hS,aKa,iY,d2,@aAG (k:Int) 7 (·) (·),@fZ ((k:Int)*7) ((↑ns:Nat):Int) (),eq,sH hq,
    @aAG (ns[q]) (48271+(k:Int)) () (),@fZ _ 2147483629 (·),mN s1.1 s1.2,mN s2.1 s2.2,@fZ _ 2147483587 (·),mN s3.1 s3.2,@fZ _ 1999999973 (·),fZ hm',er]
  .have d2:decide ((0:Int)<((↑ns:Nat):Int))=false:=dqF ();let(r,hr,er):=cG ((k:Int)*7919+5);refine(r,hr,?_,);have s1:=rY ((k:Int)*7919+5) 2147483629 (·) (·);have s2:=rY (((k:Int)*7919+5)%2147483629*((k:Int)+3)) 2147483629 (·) (·);have s3:=rY (((k:Int)*7919+5)%2147483629*((k:Int)+3)%2147483629*(((k:Int)*7919+5)%2147483629*((k:Int)+3)%2147483629)) 2147483587 (·) (·);have hq1:=@aAG (k:Int) 7919 (·) (·);have hq2:=λ i=>@fZ i 2147483629 (·)
   have hq3:=λ i=>@fZ i 2147483587 (·)
   have hq4:=λ i=>@fZ i 1999999973 (·)
   erw[2,sA,iT,lS,lQ,pY,fG,d1,hq1,eC,hS,aKa,iY,d2,hq2,mN s1.1 s1.2,mN s2.1 s2.2,hq3,mN s3.1 s3.2,hq4,fZ hm',er]
def qL:Sx:=match iT with|.seq _ (.seq _ (.seq i _))=>i|_=>.skip
def aDe:Sx:=match iT with|.seq _ (.seq p _)=>p|_=>.skip
def aAy:Sx:=match iT with|.seq p _=>p|_=>.skip
def aI3(d n k m:Nat)(ns:List Int)(x:Int)(S:aC)(hS:S[n]?=qz (qz (cN ns k x)))(hm:0<m)(hm2:m<2^64)(hk:k<=100000) :
 ∃ (r:Nat) (x':Int),r<m/\cl fns (d+1) 68 [.loc n,.d (.int m)] S=qz (.d (.int r),S.set n (qz (cN ns (k+1) x'))):=by
 have hm':(0:Int)<(m:Int):=();have hm2':(m:Int)<2^64:=by exact_mod_cast hm2
 have e1:(k:Int)/12+1=((k/12+1:Nat):Int):=();have e2:(k:Int)+1=((k+1:Nat):Int):=();have gs:=λ v=>aTo (v:=v) hS
 have start:(eZ (xs (aF fns d) aAy) (xs (aF fns d) aDe)) [#[n],(m:),qx,qx,qx,qx] S=qz (.nx [#[n],(m:),qx,qz (.d (.list (ns.map yAo))),(k:),qx],S.set n (qz (cN ns (k+1) x))):=by
  unfold cN at hS ⊢;erw[3,aAy,aDe,iT,pS,qT,fNo,hS,aZ0,mF,kG,aYY,eC,e2]
 have hJ:∀ (R:Option (Fl×aC)),eZ (xs (aF fns d) qL) (xs (aF fns d) sA) [#[n],(m:),qx,qz (.d (.list (ns.map yAo))),(k:),qx] (S.set n (qz (cN ns (k+1) x)))=R ->
  cl fns (d+1) 68 [.loc n,.d (.int m)] S=R.bind λ p=>match p.1 with
   |.rt w=>mD ↑S p.2 w|.nx _=>qz (.d .none,p.2.take ↑S)
   |_=>qx:=λ R hR=>by
  rw[bO rfl d _ S rfl,<- hR];simp only[eZ] at start ⊢;cases q:xs (aF fns d) aAy [#[n],(m:),qx,qx,qx,qx] S with
  |none=>rw[q] at start;cases start
  |some z=>
    let(fl,S1):=z;rw[q] at start;simp only[oB] at start;cases fl with
    |nx e=>
      simp only at start;show((eZ (xs (aF fns d) aAy) (eZ (xs (aF fns d) aDe) (eZ (xs (aF fns d) qL) (xs (aF fns d) sA)))) [#[n],(m:),qx,qx,qx,qx] S).bind _=_;simp only[eZ,q,oB,start]
      all_goals rfl
    |rt w=>cases start|bk e=>cases start|ct e=>cases start
 have hS2:(S.set n (qz (cN ns (k+1) x)))[n]?=qz (qz (cN ns (k+1) x)):=gs _;have skip:xs (aF fns d) qL [#[n],(m:),qx,qz (.d (.list (ns.map yAo))),(k:),qx] (S.set n (qz (cN ns (k+1) x)))=qz (.nx [#[n],(m:),qx,qz (.d (.list (ns.map yAo))),(k:),qx],S.set n (qz (cN ns (k+1) x))) ->
  ∃ (r:Nat) (x':Int),r<m/\cl fns (d+1) 68 [.loc n,.d (.int m)] S=qz (.d (.int r),S.set n (qz (cN ns (k+1) x'))):=λ h=>by
  let(r,hr,ht):=aPf (aF fns d) n k m ns x _ qx qx hS2 hm hk;refine(r,x,hr,?_,);rw[hJ _ rfl];simp only[eZ,h,oB,ht,mD,aCw]
 by_cases c1:k/12+1<↑ns
 .have d1:decide (((k/12+1:Nat):Int)<((↑ns:Nat):Int))=true:=dqT ();have i0:bD (.list (ns.map yAo)) (.int 0)=qz (.int ns[0]):=sH (k:=0) ();rcases yFs (ns[0]%2==1) with c2|c2
  .rcases yFs ((k:Int)%12==0) with c3|c3
   .let(r,er,hr):=vF ns[k/12+1] hm;refine(r,ns[k/12+1]/(m:Int),hr,?_,);rw[hJ _ rfl];unfold cN at hS2 ⊢;have hq5:=@qC (k:Int) 12 (·) (·);have hq6:=@fZ (ns[0]) 2 (·);have hq7:=@fZ (k:Int) 12 (·);erw[2,qL,iT,mF,kG,aLS,eC,hq5,e1,lS,lQ,pY,fG,d1,i0,hq6,cK,c2,hq7,c3,hS2,gs,yIq,sH c1,aKp,fZ hm',er,qC hm' hm2',aCw]
   .let(r,er,hr):=vF x hm;refine(r,x/(m:Int),hr,?_,);rw[hJ _ rfl];unfold cN at hS2 ⊢;have hq8:=@qC (k:Int) 12 (·) (·);have hq9:=@fZ (ns[0]) 2 (·);have hq10:=@fZ (k:Int) 12 (·);erw[2,qL,iT,mF,kG,aLS,eC,hq8,e1,lS,lQ,pY,fG,d1,i0,hq9,cK,c2,hq10,c3,hS2,gs,yIq,aKp,fZ hm',er,qC hm' hm2',aCw]
  .apply skip;have hq11:=@qC (k:Int) 12 (·) (·);have hq12:=@fZ (ns[0]) 2 (·);erw[2,qL,iT,eC,hq11,e1,lS,lQ,pY,fG,d1,i0,hq12,cK,c2]
 .have d1:decide (((k/12+1:Nat):Int)<((↑ns:Nat):Int))=false:=dqF ();apply skip;have hq13:=@qC (k:Int) 12 (·) (·);erw[2,qL,iT,eC,hq13,e1,lS,lQ,pY,fG,d1]
inductive Wd where
 | «in» |num|not|and|or|xor|add|sub|mul|left|right|slide|cut|wide|sign|same|less|under|pick
 deriving DecidableEq
def Wd.s:Wd->Str
 |.in => "in" |.num => "num" |.not => "not" |.and => "and" |.or => "or" |.xor => "xor" |.add => "add" |.sub => "sub" |.mul => "mul" |.left => "left" |.right => "right" |.slide => "slide"
 |.cut => "cut" |.wide => "wide" |.sign => "sign" |.same => "same" |.less => "less" |.under => "under" |.pick => "pick"
structure Rw where
 wd:Wd
 w:Nat
 args:List Nat
def nD(n:Nat):D:=.int n
def Rw.d(r:Rw):D:=.tuple (.str r.wd.s::nD r.w::r.args.map nD)
def iJ(ws:List Nat)(r:Rw):Prop:=1<=r.w/\r.w<=64/\match r.wd,r.args with
 |.in,[]=>True|.num,[n]=>n<2^r.w|.not,[a]=>ws[a]?=qz r.w
 |.and,[a,b]|.or,[a,b]|.xor,[a,b]|.add,[a,b]|.sub,[a,b]|.mul,[a,b]=>ws[a]?=qz r.w/\ws[b]?=qz r.w
 |.left,[a,k]|.right,[a,k]|.slide,[a,k]=>ws[a]?=qz r.w/\k<64
 |.cut,[a]=>∃ v,ws[a]?=qz v/\r.w<=v
 |.wide,[a]|.sign,[a]=>∃ v,ws[a]?=qz v/\v<=r.w
 |.same,[a,b]|.less,[a,b]|.under,[a,b]=>r.w=1/\∃ v,ws[a]?=qz v/\ws[b]?=qz v
 |.pick,[c,a,b]=>ws[c]?=qz 1/\ws[a]?=qz r.w/\ws[b]?=qz r.w|_,_=>False
def eV:List Nat->List Rw->Prop
 |_,[]=>True|ws,r::rs=>iJ ws r/\eV (ws++[r.w]) rs
def aCn:∀ {rs:List Rw}{ws:List Nat}{r:Rw},eV ws rs->iJ (ws++rs.map (·.w)) r->eV ws (rs++[r])
 |[],ws,r,_,h=>(by simpa using h,True.intro,)|q::rs,ws,r,⟨h1,h2⟩,h=>(h1,aCn h2 (by simpa using h),)
def cH(S:aC)(n p:Nat)(ns:List Int)(k:Nat)(x:Int)(rs:List Rw):aC:=(S.set n (qz (cN ns k x))).set p (qz (rs.map Rw.d))
local macro_rules(kind:=«term_<*_»)|s=>return mqT "PyData.tuple" [mqT "List.cons" [mqT "PyData.tuple" [mqT "List.map" [mqI "Rw.d",s[0]]],mqT "List.cons" [s[2],mqI "List.nil"]]]
local macro_rules(kind:=«term~~~_»)|s=>let a:Lean.Term:=⟨s[1]⟩;`(List.map (·.w) $a)
local macro_rules(kind:=«term_*>_»)|s=>return mqT "PyData.tuple" [mqT "List.map" [s[2],s[0]]]
structure At0(S:aC)(n p:Nat):Prop where
 hn:n<↑S
 ne:n≠p
structure At(S:aC)(n p:Nat):Prop extends At0 S n p where
 hp:p<↑S
def At0.state{x:Int}(h:At0 S n p):(cH S n p ns k x rs)[n]?=qz (qz (cN ns k x)):=by unfold cH;rw[yAt h.ne.symm,yAq h.hn]
def At.rows{x:Int}(h:At S n p):(cH S n p ns k x rs)[p]?=qz (qz (rs.map Rw.d)):=by unfold cH;rw[yAq (by rw[yBf];exact h.hp)]
def At.rowsT{x:Int}(h:At S n p)(T:aC):(cH S n p ns k x rs++T)[p]?=qz (qz (rs.map Rw.d)):=by rw[xAm (by simp[cH];exact h.hp)];exact h.rows
def At0.len{x:Int}(h:At0 S n p):↑(cH S n p ns k x rs)=↑S:=by simp[cH]
def At0.take{x:Int}(h:At0 S n p)(k':Nat)(x':Int)(aS:List Rw):(cH S n p ns k' x' aS).take ↑(cH S n p ns k x rs)=cH S n p ns k' x' aS:=by rw[h.len,yCd];rw[h.len];exact yAb _
def At0.put{x:Int}(h:At0 S n p)(k':Nat)(x':Int):(cH S n p ns k x rs).set n (qz (cN ns k' x'))=cH S n p ns k' x' rs:=by unfold cH;rw[List.set_comm _ _ h.ne.symm,yIq]
def At.putR{x:Int}(h:At S n p)(r:Rw):(cH S n p ns k x rs).set p (qz (rs.map Rw.d++[r.d]))=cH S n p ns k x (rs++[r]):=by unfold cH;rw[yIq,yAx];rfl
def lJ{x:Int}(h:At0 S n p)(d m:Nat)(hm:0<m)(hm2:m<2^64)(hk:k<=100000):∃ (r:Nat) (x':Int),r<m/\cl fns (d+1) 68 [.loc n,.d (.int m)] (cH S n p ns k x rs)=qz (.d (.int r),cH S n p ns (k+1) x' rs):=by let(r,x',hr,e):=aI3 d n k m ns x _ h.state hm hm2 hk;exact(r,x',hr,by rw[e,h.put],)
def aAm{x:Int}(h:At0 S n p)(d m:Nat){i:Int}(hi:i=(m:Nat))(hm:0<m)(hm2:m<2^64)(hk:k<=100000):∃ (r:Nat) (x':Int),r<m/\cl fns (d+1) 68 [.loc n,.d (.int i)] (cH S n p ns k x rs)=qz (.d (.int r),cH S n p ns (k+1) x' rs):=by subst hi;exact lJ h d m hm hm2 hk
def aHy(h:w<64):2^w<2^64:=yDz (·) h
def aPq{x:Int}(h:At0 S n p)(d w:Nat)(hw:w<=64)(hk:k<=99000):∃ (r k':Nat) (x':Int),r<2^w/\k'<=k+2/\cl fns (d+2) 69 [.loc n,.d (.int w)] (cH S n p ns k x rs)=qz (.d (.int r),cH S n p ns k' x' rs):=by
 by_cases c:w<31
 .have d1:decide ((w:Int)<31)=true:=dqT ();let(r,x',hr,e):=@lJ _ _ _ k ns rs x h d (2^w) (uT w) (aHy ()) ();refine(r,k+1,x',hr,by omega,?_,);rw[bO rfl (d+1) _ _ rfl];have hq14:=iU (show w<=100000 by omega);erw[11,aCe,fG,d1,hq14,e,h.take]
 .have d1:decide ((w:Int)<31)=false:=dqF ();have e1:(w:Int)-30=((w-30:Nat):Int):=();have s30:=@iU 30 (·);rw[show((30:Nat):Int)=30 from rfl] at s30;let(r,x',hr,e):=@lJ _ _ _ k ns rs x h d (2^30) (·) (·) ();let(q,x2,hq,e'):=@lJ _ _ _ (k+1) ns rs x' h d (2^(w-30)) (uT _) (aHy ()) ();have hb:r+q*2^30<2^w:=by
   have e3:(2:Nat)^w=2^(w-30)*2^30:=by rw[<- Nat.pow_add,show w-30+30=w by omega]
   have h3:(q+1)*2^30<=2^(w-30)*2^30:=Nat.mul_le_mul_right _ hq;rw[Nat.add_mul] at h3;omega
  have sh:bW .LShift (.int q) (.int 30)=qz (.int ((q*2^30:Nat):Int)):=@vG q (w-30) 30 hq ();have ad:(r:Int)+((q*2^30:Nat):Int)=((r+q*2^30:Nat):Int):=(yHf _ _).symm;refine(r+q*2^30,k+2,x2,hb,by omega,?_,);rw[bO rfl (d+1) _ _ rfl];have hq15:=iU (show w-30<=100000 by omega);erw[11,aCe,fG,d1,s30,e,cX,e1,hq15,e',sh,eC,ad,h.take]
def at4(a b c e:D){r:Nat}(h1:r<4):∃ x,(x=a\/x=b\/x=c\/x=e)/\bD (.list [a,b,c,e]) (.int r)=qz x:=by
 have:r=0\/r=1\/r=2\/r=3:=();rcases this with rfl|rfl|rfl|rfl
 .exact(a,.inl rfl,rfl,)
 .exact(b,.inr (.inl rfl),rfl,)
 .exact(c,.inr (.inr (.inl rfl)),rfl,)
 .exact(e,.inr (.inr (.inr rfl)),rfl,)
def aH0{x:Int}(h:At0 S n p)(d:Nat)(hk:k<=99000):∃ (w:Nat) (x':Int),1<=w/\w<=64/\cl fns (d+2) 70 [.loc n] (cH S n p ns k x rs)=qz (.d (.int w),cH S n p ns (k+3) x' rs):=by
 let(r1,x1,h1,e1):=aAm (ns:=ns) (k:=k) (x:=x) (rs:=rs) h d 8 (i:=8) rfl (·) (·) ();let(r2,x2,h2,e2):=aAm (ns:=ns) (k:=k+1) (x:=x1) (rs:=rs) h d 64 (i:=64) rfl (·) (·) ();let(r3,x3,h3,e3):=aAm (ns:=ns) (k:=k+2) (x:=x2) (rs:=rs) h d 4 (i:=4) rfl (·) (·) ();have a1:(1:Int)+(r1:Int)=((1+r1:Nat):Int):=();have a2:(1:Int)+(r2:Int)=((1+r2:Nat):Int):=();let(y,hy,e):=at4 (.int 1) (.int 64) (.int ((1+r1:Nat):Int)) (.int ((1+r2:Nat):Int)) h3;obtain⟨w,cB,cI,rfl⟩:∃ w:Nat,1<=w/\w<=64/\y=.int w:=by
  rcases hy with rfl|rfl|rfl|rfl
  .exact(1,by decide,by decide,rfl,)
  .exact(64,by decide,by decide,rfl,)
  .exact(_,by omega,by omega,rfl,)
  .exact(_,by omega,by omega,rfl,)
 refine(w,x3,cB,cI,?_,);rw[bO rfl (d+1) _ _ rfl];erw[11,aF8,e1,e2,e3,eC,a1,a2,e,h.take]
def aJB{t:Tg}{fb:FS}(P:Nat->aX->aC->Prop):∀ (ds:List D) (i:Nat) (env:aX) (S:aC),P i env S->(∀ j d env S,i<=j->j<i+↑ds->P j env S->∃ e1 aM S',t.put d env=qz e1/\fb e1 S=qz (.nx aM,S')/\P (j+1) aM S') ->
 ∃ aM S',kQ t fb ds env S=qz (.nx aM,S')/\P (i+↑ds) aM S'
 |[],i,env,S,h0,_=>(env,S,rfl,h0,)
 |d::ds,i,env,S,h0,h=>by
   let(e1,aM,S',h1,h2,h3):=h i d env S (yAb _) (by simp) h0;let(env2,S2,h4,h5):=aJB P ds (i+1) aM S' h3 λ j d' env S a b=>h j d' env S () (by simp at b ⊢;omega)
   refine(env2,S2,by simp only[kQ,h1,oB,h2];exact h4,?_,);have:i+↑(d::ds)=i+1+↑ds:=by simp;omega
   rw[this];exact h5
def aKM{t:Tg}{fi:FL}{fb:FS}(P:Nat->aX->aC->Prop)(hi:fi env S=qz (ds,S1))(h0:P 0 env S1)(h:∀ j d env S,j<↑ds->P j env S->∃ e1 aM S',t.put d env=qz e1/\fb e1 S=qz (.nx aM,S')/\P (j+1) aM S') :
 ∃ aM S',jP t fi fb env S=qz (.nx aM,S')/\P ↑ds aM S':=by
 let(aM,S',h1,h2):=@aJB t fb P ds 0 env S1 h0 λ j d env S _ b=>h j d env S ()
 exact(aM,S',by unfold jP;rw[hi,oB];exact h1,by simpa using h2,)
def at2(a b:D){r:Nat}(h1:r<2):∃ x,(x=a\/x=b)/\bD (.list [a,b]) (.int r)=qz x:=by
 have:r=0\/r=1:=();rcases this with rfl|rfl
 .exact(a,.inl rfl,rfl,)
 .exact(b,.inr rfl,rfl,)
variable {C:Calls}
def sO(h:xs C a env S=qz (.nx e1,S1)):xs C (.seq a r) env S=xs C r e1 S1:=by simp only[qH,eZ,h,oB]
def at1:At0 [qx] 0 1:=(by decide,by decide,)
noncomputable abbrev s0(ns:List Int)(k:Nat)(x:Int):aC:=[qz (cN ns k x)]
def aH9(a:Nat):bW .BitAnd (.int a) (.int 1)=qz (.int ((a&&&1:Nat):Int)):=dR a 1
def dY(n:Nat):(((n:Nat):Int)==0)=(n==0):=by rw[yEe,beq_iff_eq,beq_iff_eq];omega
def aKI{x:Int}(h:At0 S n p)(d w:Nat)(hw:1<=w)(cI:w<=64)(hk:k<=98000):∃ (r k':Nat) (x':Int),r<2^w/\k'<=k+5/\cl fns (d+3) 71 [.loc n,.d (.int w)] (cH S n p ns k x rs)=qz (.d (.int r),cH S n p ns k' x' rs):=by
 have hw3:w<2^64:=();have hp:=uT w;let(r1,x1,h1,e1):=aAm (ns:=ns) (k:=k) (x:=x) (rs:=rs) h (d+1) 5 (i:=5) rfl (·) (·) ();let(r2,x2,h2,e2):=@lJ _ _ _ (k+1) ns rs x1 h (d+1) w () hw3 ();let(r3,x3,h3,e3):=@lJ _ _ _ (k+2) ns rs x2 h (d+1) w () hw3 ();by_cases c:r1<4
 .have d1:decide ((r1:Int)<4)=true:=dqT ();let(y,hy,e):=at4 (.int 0) (.int ((2^w-1:Nat):Int)) (.int ((2^r2:Nat):Int)) (.int ((2^r3-1:Nat):Int)) c;obtain⟨q,hq,rfl⟩:∃ q:Nat,q<2^w/\y=.int q:=by
   have l2:2^r2<2^w:=yDz (·) h2;have l3:2^r3<2^w:=yDz (·) h3;rcases hy with rfl|rfl|rfl|rfl
   .exact(0,hp,rfl,)
   .exact(_,by omega,rfl,)
   .exact(_,l2,rfl,)
   .exact(_,by omega,rfl,)
  refine(q,k+3,x3,hq,by omega,?_,);rw[bO rfl (d+2) _ _ rfl];have hq16:=iU (show w<=100000 by omega);have hq17:=iU (show r2<=100000 by omega);have hq18:=iU (show r3<=100000 by omega);erw[11,aCC,e1,hq16,cX,aCD,e2,hq17,e3,hq18,fG,d1,e,h.take]
 .have d1:decide ((r1:Int)<4)=false:=dqF ();let(r,k',x',hr,hk',e):=@aPq _ _ _ (k+3) ns rs x3 h d w cI ();refine(r,k',x',hr,by omega,?_,);rw[bO rfl (d+2) _ _ rfl];have hq19:=iU (show w<=100000 by omega);have hq20:=iU (show r2<=100000 by omega);have hq21:=iU (show r3<=100000 by omega);erw[11,aCC,e1,hq19,cX,aCD,e2,hq20,e3,hq21,fG,d1,e,h.take]
def aJ9:∀ L:List Nat,yFb (L.map nD)=true
 |[]=>rfl
 |a::r=>by
   have ih:=aJ9 r;simp only[yAf,yFb,ih,yCg];rfl
def aHS:∀ L:List Nat,yEw (L.map nD)=0
 |[]=>rfl
 |a::r=>by
   have ih:=aHS r;simp only[yAf,yEw,ih];rfl
def aVH(L:List Nat):aV .NotEq (.list (L.map nD)) (.list [])=qz (.bool (!L.isEmpty)):=by
 have h1:(yHg (L.map nD)).canLay0=true:=aJ9 L;have h2:(yHg (L.map nD)).depth<=60:=by
  show yEw (L.map nD)+1<=60;rw[aHS];decide
 unfold aV tJ;simp only[];rw[if_pos (h1,rfl,h2,)];cases L<;>rfl
def nI(r:Rw):bD r.d (.int 1)=qz (.int r.w):=@iW (.str r.wd.s::nD r.w::r.args.map nD) 1 _ rfl
def wdE(a b:Wd):Bool:=match aV .Eq (.str a.s) (.str b.s) with|some (.bool c)=>c==decide (a=b)|_=>false
def aUU(a b:Wd):wdE a b=true:=by
 have h:∀ i:Fin 19,∀ j:Fin 19,wdE (Wd.ofNat i) (Wd.ofNat j)=true:=by decide +kernel
 have e:∀ a:Wd,∃ i:Fin 19,Wd.ofNat i=a:=λ a=>((a.ctorIdx,by cases a<;>decide,),Wd.ofNat_ctorIdx a,)
 let(i,rfl):=e a;let(j,rfl):=e b;exact h i j
def cD(a b:Wd):aV .Eq (.str a.s) (.str b.s)=qz (.bool (decide (a=b))):=by
 have h:=aUU a b;unfold wdE at h;split at h
 .rename_i c e;rw[e,eq_of_beq h]
 .cases h
def aC0(a:Wd):aV .In (.str a.s) (.tuple [.str "left",.str "right",.str "slide"])=qz (.bool (decide (a=.left\/a=.right\/a=.slide))):=by cases a<;>rfl
def aVU(a:Wd):aV .In (.str a.s) (.tuple [.str "cut",.str "wide",.str "sign"])=qz (.bool (decide (a=.cut\/a=.wide\/a=.sign))):=by cases a<;>rfl
def aAF(a:Wd):aV .In (.str a.s) (.tuple [.str "same",.str "less",.str "under"])=qz (.bool (decide (a=.same\/a=.less\/a=.under))):=by cases a<;>rfl
def bE{bS:Sx}(h:tv C c env S=qz (false,S1))(k:xs C bS env S1=r):xs C (.seq (.ifs c t .skip) bS) env S=r:=by rw[<- k];simp only[qH,sN,aJC,eZ,nX,sY,h,oB,yAm,if_false]
def cC{bS:Sx}(h:tv C c env S=qz (true,S1))(k:xs C t env S1=qz (.rt w,S2)):xs C (.seq (.ifs c t e) bS) env S=qz (.rt w,S2):=by simp only[qH,sN,eZ,nX,h,oB,if_true,k]
def bH{bS:Sx}(h:ev C e env S=qz (w,S1)):xs C (.seq (.ret e) bS) env S=qz (.rt w,S1):=by simp only[qH,aDP,eZ,pA,h,oB]
def bP{i:Nat}{e:E}{bS:Sx}{env aM:aX}{S S1:aC}{w:W}{r:Option (Fl×aC)}(h:ev C e env S=qz (w,S1))(he:env.set i (qz w)=aM)(k:xs C bS aM S1=r):xs C (.seq (.set i e) bS) env S=r:=by subst he;rw[<- k];simp only[qH,aAW,eZ,jR,h,oB]
def eK(h:fs[f]?=qz F)(d:Nat){ws:List W}{S S1:aC}(hw:↑ws=F.np)(he:ws.map qz++yAe (↑F.N-↑ws) qx=env)(hS:S1.take ↑S=S1)(k:xs (aF fs d) F.body env S=qz (.rt (.d x),S1)):cl fs (d+1) f ws S=qz (.d x,S1):=by subst he;rw[bO h d ws S hw];simp only[eY,k,oB,mD,hS]
def dS{C:Calls}(h:env[i]?=qz (qz (.d a)))(hc:aV .Eq a (.str x)=qz (.bool b)):tv C (.cmp .Eq (.var i) (.str x)) env S=qz (b,S):=by erw[0,h,hc]
def jB(h:env[i]?=qz (qz (.d a)))(he:ev C e env S=qz (.d t,S))(hc:aV .In a t=qz (.bool b)):tv C (.cmp .In (.var i) e) env S=qz (b,S):=by erw[0,h,he,hc]
def bK:Sx->Sx
 |.seq _ b=>b|x=>x
def fX:Sx->Sx
 |.seq a _=>a|x=>x
def qU(h:tv C c env S=qz (true,S1))(k:xs C a env S1=r):xs C (.ifs c a b) env S=r:=by rw[<- k];simp only[sN,nX,h,oB,if_true]
def sW(h:tv C c env S=qz (false,S1))(k:xs C b env S1=r):xs C (.ifs c a b) env S=r:=by rw[<- k];simp only[sN,nX,h,oB,yAm,if_false]
def eE(h:xs C a env S=qz (.nx e1,S1))(k:xs C b e1 S1=r):xs C (.seq a b) env S=r:=by rw[sO h];exact k
def oS(h:xs C a env S=qz (.nx e1,S1)):xs C (.seq a .skip) env S=qz (.nx e1,S1):=eE h rfl
def lM(h:ev C e env S=qz (w,S1)):xs C (.seq (.set i e) .skip) env S=qz (.nx (env.set i (qz w)),S1):=bP h rfl rfl
def bAz{i j:Int}(h:i<j):aV .Lt (.int i) (.int j)=qz (.bool true):=by rw[fG,dqT h]
def aZ5{i j:Int}(h:¬ i<j):aV .Lt (.int i) (.int j)=qz (.bool false):=by rw[fG,dqF h]
def aMz{i j:Int}(h:j<i):aV .Gt (.int i) (.int j)=qz (.bool true):=by rw[iY,dqT h]
def aNf{i j:Int}(h:¬ j<i):aV .Gt (.int i) (.int j)=qz (.bool false):=by rw[iY,dqF h]
def aME{i j:Int}(h:i=j):aV .Eq (.int i) (.int j)=qz (.bool true):=by rw[cK,beq_iff_eq.mpr h]
def aMu{i j:Int}(h:i≠j):aV .Eq (.int i) (.int j)=qz (.bool false):=by rw[cK,beq_eq_false_iff_ne.mpr h]
def i01(b:Bool):∃ q:Nat,q<2/\B.int.g [.bool b]=qz (.int q):=by
 cases b
 .exact(0,by decide,rfl,)
 .exact(1,by decide,rfl,)
def aNj(a b:Nat):bW .Add (.int a) (.int b)=qz (.int ((a+b:Nat):Int)):=by rw[eC,yHf]
def bAm{a b:Nat}(h:b<=a):bW .Sub (.int a) (.int b)=qz (.int ((a-b:Nat):Int)):=by rw[cX,Int.natCast_sub h]
def sb1(rs:List Rw)(r:Rw):bW .Sub (.int (↑(rs++[r]):Nat)) (.int 1)=qz (.int ↑rs):=by rw[cX,xAn,yHf];show qz (yAo ((↑rs:Int)+1-1))=_;rw[Int.add_sub_cancel]
def aRf(rs:List Rw):↑(rs.map Rw.d)=↑rs:=yAd ..
def aVx{rs:List Rw}{a:Nat}{r:Rw}(h:rs[a]?=qz r):bD (.list (rs.map Rw.d)) (.int a)=qz r.d:=oQ (by rw[yAg,h];rfl)
def xB{rs:List Rw}{a:Nat}{r:Rw}(h:rs[a]?=qz r):(~~~rs)[a]?=qz r.w:=by rw[yAg,h];rfl
def aZ2{rs t:List Rw}{a w:Nat}(h:(~~~rs)[a]?=qz w):((rs++t).map (·.w))[a]?=qz w:=by rw[yAx,xAm (gIm h).1];exact h
def aW9{q:Nat}(hq:q<2):∃ wd:Wd,(wd=.wide\/wd=.sign)/\bD (.list [.str "wide",.str "sign"]) (.int q)=qz (.str wd.s):=by
 rcases (show q=0\/q=1 by omega) with rfl|rfl
 .exact(.wide,.inl rfl,rfl,)
 .exact(.sign,.inr rfl,rfl,)
def kE{rs:List Rw}(hi:env[i]?=qz (#[p]))(h:S[p]?=qz (qz (rs.map Rw.d))):ev C (.blt .len (.cons (.var i) .nil)) env S=qz (.d (.int ↑rs),S):=fH (aH (aD hi) aQ) (eX (qS h) gC) (by
 show qz (yAo (↑(rs.map Rw.d):Nat))=_;rw[yAd])
def pG{env:aX}{S S1:aC}{i p a:Nat}{rs:List Rw}{r:Rw}{e:E}(hi:env[i]?=qz (#[p]))(hj:ev C e env S=qz (.d (.int a),S1))(h:S1[p]?=qz (qz (rs.map Rw.d)))(hr:rs[a]?=qz r):ev C (.ix (.ix (.var i) e) (.int 1)) env S=qz (.d (.int r.w),S1):=bY (bY (aD hi) hj (qS h) (aVx hr)) bG rfl (nI r)
def aJN(h:lv C a env S=qz (ds,S1))(hl:↑S1=n):ev C (.new a) env S=qz (.loc n,S1++[qz ds]):=by subst hl;exact aA5 h
def cV(h:env[i]?=qz (#[j]))(k:ev C e env S=qz (.d x,S1)):av C (.cons (.var i) (.cons e .nil)) env S=qz ([.loc j,.d x],S1):=aH (aD h) (aH k aQ)
namespace GP
structure Opd(n:Nat)(rs aS:List Rw):Prop where
 ext:∃ t,aS=rs++t/\↑t<=n
 ok:eV [] aS
def Opd.len(o:Opd n rs aS):↑rs<=↑aS/\↑aS<=↑rs+n:=by let(t,rfl,h):=o.ext;rw[xAn];omega
def Opd.keep{n:Nat}{rs aS:List Rw}{b v:Nat}(o:Opd n rs aS)(h:(~~~rs)[b]?=qz v):(aS.map (·.w))[b]?=qz v:=by let(t,rfl,_):=o.ext;exact aZ2 h
def Opd.same(h:eV [] rs):Opd n rs rs:=(([],(yBi _).symm,yDa _,),h,)
def Opd.on(a:Opd n rs rs1)(b:Opd m rs1 rs2):Opd (n+m) rs rs2:=by let(t1,rfl,h1):=a.ext;let(t2,rfl,h2):=b.ext;exact((t1++t2,yAz ..,by rw[xAn];omega,),b.ok,)
def Opd.up(a:Opd n rs rs1)(h:n<=m):Opd m rs rs1:=by let(t,e,l):=a.ext;exact((t,e,xAh l h,),a.ok,)
def aCq:∀ {rs:List Rw}{ws:List Nat}{a:Nat}{r:Rw},eV ws rs->rs[a]?=qz r->1<=r.w/\r.w<=64
 |q::rs,ws,0,r,⟨h1,_⟩,e=>by
   cases e;exact(h1.1,h1.2.1,)
 |q::rs,ws,a+1,r,⟨_,h2⟩,e=>aCq h2 e
structure Cf where
 S:aC
 p:Nat
 ns:List Int
noncomputable abbrev zs(c:Cf)(k:Nat)(x:Int)(rs:List Rw):aC:=cH c.S 0 c.p c.ns k x rs
def Rn(c:Cf)(d f:Nat)(ws:List W)(k:Nat)(x:Int)(rs:List Rw)(b:Nat)(P:D->List Rw->Prop):Prop:=∃ v k' x' aS,P v aS/\k'<=k+b/\cl fns d f ws (zs c k x rs)=qz (.d v,zs c k' x' aS)
section
variable {c:Cf}(h:At c.S 0 c.p)(k:Nat)(x:Int)(rs:List Rw)
include h
theorem dw(d m:Nat)(hm:0<m)(hm2:m<2^64)(hk:k<=100000):∃ (r:Nat) (x':Int),r<m/\cl fns (d+1) 68 [.loc 0,.d (.int m)] (zs c k x rs)=qz (.d (.int r),zs c (k+1) x' rs):=lJ h.toAt0 d m hm hm2 hk
theorem aAH(hl:↑rs<=1000)(r:Rw):eO (zs c k x rs) (.loc c.p) (.d r.d)=qz (.d .none,zs c k x (rs++[r])):=by unfold eO;simp only[h.rows];rw[if_pos (by rw[aRf,zx];omega),h.putR]
variable (hr:eV [] rs)(h0:0<↑rs)
include hr
theorem aWL(d a w:Nat)(ha:a<↑rs)(hl:↑rs<=100)(hw:1<=w)(cI:w<=64)(hk:k<=99000):Rn c (d+2) 72 [.loc 0,.loc c.p,.d (.int a),.d (.int w)] k x rs 1 λ v aS=>∃ a':Nat,v=.int a'/\Opd 1 rs aS/\(aS.map (·.w))[a']?=qz w:=by
 obtain⟨r,hra⟩:∃ r,rs[a]?=qz r:=(_,yAa ha,);by_cases c1:r.w=w
 .exact(_,k,x,rs,(a,rfl,.same hr,by rw[xB hra,c1],),yBz _ _,dN rfl rfl rfl (cC (bN (pG rfl (aD rfl) h.rows hra) (aD rfl) (aME (by rw[c1]))) (bH (aD rfl))) (h.toAt0.take _ _ _),)
 let(q,x',hq,e):=dw h k x rs d 2 (·) (·) ();let(wd,bC,ew):=aW9 hq;obtain⟨wd',ok,s⟩:∃ wd',iJ ([]++rs.map (·.w)) ⟨wd',w,[a]⟩/\xs (d<$>1) (fX (bK (bK aGX))) [#[0],#[c.p],(a:),(w:),qz (.d (.str wd.s))] (zs c (k+1) x' rs)=qz (.nx [#[0],#[c.p],(a:),(w:),qz (.d (.str wd'.s))],zs c (k+1) x' rs):=by
  by_cases c2:w<r.w
  .exact(.cut,(hw,cI,r.w,xB hra,yEs c2,),qU (bN (pG rfl (aD rfl) h.rows hra) (aD rfl) (aMz ())) (lM rfl),)
  .refine(wd,(hw,cI,?_,),sW (bN (pG rfl (aD rfl) h.rows hra) (aD rfl) (aNf ())) rfl,);rcases bC with rfl|rfl<;>exact(r.w,xB hra,yEp c2,)
 exact(_,k+1,x',rs++[(wd',w,[a],)],(↑rs,rfl,((_,rfl,yAb _,),aCn hr ok,),by simp,),yAb _,dN rfl rfl rfl (bE (bN (pG rfl (aD rfl) h.rows hra) (aD rfl) (aMu ())) (bP (bY (hV (kH (aH cU (aH cU aQ)) rfl (yAc rfl))) (bM (cV rfl bG) e) rfl ew) rfl (eE s (eE (qK (wU (aD rfl) (eW (aH (aD rfl) (aH (aD rfl) (aH (aD rfl) aQ))) rfl (yAc rfl)) (aAH h _ _ _ () (wd',w,[a],)))) (bH (gF (kE rfl h.rows) bG (sb1 _ _))))))) (h.toAt0.take _ _ _),)
include h0
theorem uN(d w:Nat)(hl:↑rs<=100)(hw:1<=w)(cI:w<=64)(hk:k<=98000):Rn c (d+3) 73 [.loc 0,.loc c.p,.d (.int w)] k x rs 3 λ v aS=>∃ a:Nat,v=.int a/\Opd 1 rs aS/\(aS.map (·.w))[a]?=qz w:=by
 obtain⟨L,hmem,cJ,hc⟩:∃ L:List Nat,(∀ a∈L,(~~~rs)[a]?=qz w)/\↑L<=↑rs/\lv (d<$>2) aFF [#[0],#[c.p],(w:),qx,qx] (zs c k x rs)=qz (L.map nD,zs c k x rs):=by
  refine((yBw ↑rs).filter λ j=>(~~~rs)[j]?==qz w,λ a ha=>by simpa using (List.mem_filter.mp ha).2,?_,?_,)
  .have:=yCy (λ j=>(~~~rs)[j]?==qz w) (yBw ↑rs);rw[yFd] at this;exact this
  .refine @aQL _ _ _ _ _ (lv (d<$>2) (.rng1 (.blt .len (.cons (.var 1) .nil)))) (tv (d<$>2) (.cmp .Eq (.ix (.ix (.var 1) (.var 4)) (.int 1)) (.var 2))) (ev (d<$>2) (.var 4)) nD nD (λ j=>(~~~rs)[j]?==qz w) (yBw ↑rs) (zO (kE rfl h.rows) ()) (by rw[yFd,zx];omega) λ j hj=>?_
   have hj:=List.mem_range.mp hj;have hrj:rs[j]?=qz rs[j]:=yAa hj;refine(_,rfl,λ aO=>bN (pG rfl (aD rfl) (h.rowsT _) hrj) (aD rfl) ?_,λ _ aO=>aD rfl,);rw[cK,xB hrj];congr 2;rw[yEe];simp;omega
 have ft:∀ k1 x1,k1<=k+1->∃ (a k':Nat) (x':Int) (aS:List Rw),(Opd 1 rs aS/\(aS.map (·.w))[a]?=qz w)/\k'<=k+3/\xs (d<$>2) (bK (bK aB9)) [#[0],#[c.p],(w:),qz (.d (.list (L.map nD))),qx] (zs c k1 x1 rs)=qz (.rt (.d (.int a)),zs c k' x' aS):=λ k1 x1 hk1=>by
  let(q,x2,hq,e1):=dw h k1 x1 rs (d+1) ↑rs h0 () ();let(_,k',x',aS,(a,rfl,o),hk',e2):=aWL h (k1+1) x2 rs hr d q w hq hl hw cI ();exact(a,k',x',aS,o,by omega,bH (bM (aH (aD rfl) (aH (aD rfl) (aH (bM (cV rfl (kE rfl h.rows)) e1) (aH (aD rfl) aQ)))) e2),)
 have nn:=aVH L;have go:∀ {a k' x' aS},Opd 1 rs aS/\(aS.map (·.w))[a]?=qz w->k'<=k+3->xs (d<$>2) (bK aB9) [#[0],#[c.p],(w:),qz (.d (.list (L.map nD))),qx] (zs c k x rs)=qz (.rt (.d (.int ((a:Nat):Int))),zs c k' x' aS)->Rn c (d+3) 73 [.loc 0,.loc c.p,.d (.int w)] k x rs 3 λ v aS=>∃ a:Nat,v=.int a/\Opd 1 rs aS/\(aS.map (·.w))[a]?=qz w:=λ {a k' x' aS} o l e=>(_,k',x',aS,(a,rfl,o,),l,dN rfl rfl rfl (eE (aAZ hc rfl) e) (h.toAt0.take _ _ _),)
 rcases yFs L.isEmpty with hE|hE
 .rw[hE] at nn;let(a,k',x',aS,o,l,e):=ft k x (yBz _ _);exact go o l (bE (oP (p:=false) (bN (aD rfl) (hV (kH aQ rfl (yAc rfl))) nn) rfl) e)
 rw[hE] at nn;have hL0:0<↑L:=by
  cases L with
  |nil=>cases hE|cons b r=>exact Nat.succ_pos _
 let(q4,x1,hq4,e1):=dw h k x rs (d+1) 4 (·) (·) ();by_cases c4:0<q4
 .let(q,x2,hq,e2):=dw h (k+1) x1 rs (d+1) ↑L hL0 () ();have ha:L[↑L-1-q]?=qz L[↑L-1-q]:=yAa ();have ln:B.len.g [.list (L.map nD)]=qz (.int ↑L):=by
   show qz (yAo (↑(L.map nD):Nat))=_;rw[yAd]
  exact go (.same hr,hmem _ (xAk ha),) () (cC (oP (p:=true) (bN (aD rfl) (hV (kH aQ rfl (yAc rfl))) nn) (bN (bM (cV rfl bG) e1) bG (aMz ()))) (bH (bY (aD rfl) (gF (gF (fH (aH (aD rfl) aQ) (eX gT gC) ln) bG (cX _ _)) (bM (cV rfl (fH (aH (aD rfl) aQ) (eX gT gC) ln)) e2) (by rw[cX,cs1 hq])) rfl (oQ (by rw[yAg,ha];rfl)))))
 .let(a,k',x',aS,o,l,e):=ft (k+1) x1 (yAb _);exact go o l (bE (oP (p:=true) (bN (aD rfl) (hV (kH aQ rfl (yAc rfl))) nn) (bN (bM (cV rfl bG) e1) bG (aNf ()))) e)
theorem aAi(d:Nat)(wd:Wd)(bC:wd=.cut\/wd=.wide\/wd=.sign)(hl:↑rs<=100)(hk:k<=98000):Rn c (d+2) 74 [.loc 0,.loc c.p,.d (.str wd.s)] k x rs 2 λ v aS=>aS=rs/\∃ r:Rw,v=r.d/\iJ (~~~rs) r:=by
 let(a,x1,ha,e1):=dw h k x rs d ↑rs h0 () ();have hra:rs[a]?=qz rs[a]:=yAa ha;let(cB,cI):=aCq hr hra;have wr:=xB hra;generalize rs[a]=r at *;have cw:aV .Eq (.str wd.s) (.str "cut")=qz (.bool (decide (wd=.cut))):=cD wd .cut;by_cases c1:wd=.cut
 .let(q,x2,hq,e2):=dw h (k+1) x1 rs d r.w () () ();rw[dqT c1] at cw;exact(_,k+2,x2,rs,(rfl,(.cut,1+q,[a],),rfl,by show 1<=1+q;omega,by show 1+q<=64;omega,r.w,wr,by show 1+q<=r.w;omega,),yAb _,dN rfl rfl rfl (bP (bM (cV rfl (kE rfl h.rows)) e1) rfl (bP (pG rfl (aD rfl) h.rows hra) rfl (cC (dS rfl cw) (bH (eW (aH cU (aH (gF bG (bM (cV rfl (aD rfl)) e2) (aNj 1 q)) (aH (aD rfl) aQ))) rfl (yAc rfl)))))) (h.toAt0.take _ _ _),)
 .let(q,x2,hq,e2):=dw h (k+1) x1 rs d (65-r.w) () () ();rw[dqF c1] at cw;refine(_,k+2,x2,rs,(rfl,(wd,r.w+q,[a],),rfl,by show 1<=r.w+q;omega,by show r.w+q<=64;omega,?_,),yAb _,dN rfl rfl rfl (bP (bM (cV rfl (kE rfl h.rows)) e1) rfl (bP (pG rfl (aD rfl) h.rows hra) rfl (bE (dS rfl cw) (bH (eW (aH (aD rfl) (aH (gF (aD rfl) (bM (cV rfl (gF bG (aD rfl) (@bAm 65 _ ()))) e2) (aNj _ q)) (aH (aD rfl) aQ))) rfl (yAc rfl)))))) (h.toAt0.take _ _ _),);erw[50,bC]
  .exact absurd rfl c1
  all_goals exact(r.w,wr,yBz _ _,)
theorem aCU(d w:Nat)(wd:Wd)(bC:wd=.left\/wd=.right\/wd=.slide)(hl:↑rs<=90)(hw:1<=w)(cI:w<=64)(hk:k<=97000):Rn c (d+4) 75 [.loc 0,.loc c.p,.d (.str wd.s),.d (.int w)] k x rs 6 λ v aS=>Opd 1 rs aS/\∃ r:Rw,v=r.d/\iJ (aS.map (·.w)) r:=by
 let(q1,x1,h1,e1):=dw h k x rs (d+2) w () () ();let(q2,x2,h2,e2):=dw h (k+1) x1 rs (d+2) 64 (·) (·) ();let(q3,x3,h3,e3):=dw h (k+2) x2 rs (d+2) 4 (·) (·) ();let(_,k',x',aS,(a,rfl,o,wa),hk',e4):=uN h (k+3) x3 rs hr h0 d w () hw cI ();obtain⟨b,hb,eb⟩:∃ b:Nat,b<2/\bW .FloorDiv (.int q3) (.int 3)=qz (.int b):=(q3/3,by omega,@qC _ 3 (·) (·),);let(y,hy,ey):=at2 (.int q1) (.int q2) hb;obtain⟨kk,hkk,rfl⟩:∃ kk:Nat,kk<64/\y=.int kk:=by
  rcases hy with rfl|rfl
  .exact(q1,by omega,rfl,)
  .exact(q2,h2,rfl,)
 refine(_,k',x',aS,(o,(wd,w,[a,kk],),rfl,hw,cI,?_,),by omega,dN rfl rfl rfl (bP (bY (hV (kH (aH (bM (cV rfl (aD rfl)) e1) (aH (bM (cV rfl bG) e2) aQ)) rfl (yAc rfl))) (gF (bM (cV rfl bG) e3) bG eb) rfl ey) rfl (bH (eW (aH (aD rfl) (aH (aD rfl) (aH (bM (aH (aD rfl) (cV rfl (aD rfl))) e4) (aH (aD rfl) aQ)))) rfl (yAc rfl)))) (h.toAt0.take _ _ _),);erw[50,bC]<;>exact(wa,hkk,)
omit hr h0 in
theorem aRE(wd:Wd)(w:Nat)(S:aC)(C:Calls)(a b c e f:Option W):xs C (fX (bK (bK aGD))) [a,b,qz (.d (.str wd.s)),(w:),e,f] S=qz (.nx [a,b,qz (.d (.str wd.s)),(((if wd=.same\/wd=.less\/wd=.under then 1 else w:Nat):Int):),e,f],S):=by
 have is:=aAF wd;by_cases c:wd=.same\/wd=.less\/wd=.under
 .rw[dqT c] at is;rw[if_pos c];exact qU (jB rfl rfl is) (lM rfl)
 .rw[dqF c] at is;rw[if_neg c];exact sW (jB rfl rfl is) rfl
theorem aIV(d w:Nat)(wd:Wd)(hl:↑rs<=90)(hw:1<=w)(cI:w<=64)(hk:k<=97000):Rn c (d+4) 76 [.loc 0,.loc c.p,.d (.str wd.s),.d (.int w)] k x rs 6 λ v aS=>Opd 2 rs aS/\∃ a b:Nat,v=.tuple [.str wd.s,.int ((if wd=.same\/wd=.less\/wd=.under then 1 else w:Nat):Int),.int a,.int b]/\(aS.map (·.w))[a]?=qz w/\(aS.map (·.w))[b]?=qz w:=by let(_,k1,x1,rs1,(a,rfl,o1,w1),hk1,e1):=uN h k x rs hr h0 d w () hw cI ();have l1:=o1.len;let(_,k2,x2,rs2,(b,rfl,o2,w2),hk2,e2):=uN h k1 x1 rs1 o1.ok () d w () hw cI ();exact(_,k2,x2,rs2,(o1.on o2,a,b,rfl,o2.keep w1,w2,),by omega,dN rfl rfl rfl (bP (bM (aH (aD rfl) (cV rfl (aD rfl))) e1) rfl (bP (bM (aH (aD rfl) (cV rfl (aD rfl))) e2) rfl (eE (aRE h wd w _ _ _ _ qx _ _) (bH (eW (aH (aD rfl) (aH (aD rfl) (aH (aD rfl) (aH (aD rfl) aQ)))) rfl (yAc rfl)))))) (h.toAt0.take _ _ _),)
end
def aXh(a b c e f:D):bW .Add (.tuple [a,b,c]) (.tuple [e,f])=qz (.tuple [a,b,c,e,f]):=by show(if [a,b,c].isEmpty=false/\↑[a,b,c]+↑[e,f]<=qk then qz (yAv ([a,b,c]++[e,f])) else qx)=_;rw[if_pos (rfl,by rw[zx];show 3+2<=16777216;decide,)];rfl
noncomputable abbrev eR(c:Cf)(l:Option W)(wd:Wd)(w:Nat)(a b:Option W):aX:=[#[0],#[c.p],l,qz (.d (.str wd.s)),(w:),a,b]
def Ds(c:Cf)(k:Nat)(x:Int)(rs:List Rw)(d w:Nat)(wd:Wd)(l:Option W)(s:Sx):Prop:=∃ (r:Rw) (k':Nat) (x':Int) (aS:List Rw) (e:Option W),Opd 3 rs aS/\iJ (aS.map (·.w)) r/\k'<=k+12/\xs (d<$>4) s (eR c l wd w qx qx) (zs c k x rs)=qz (.nx (eR c l wd w (qz (.d r.d)) e),zs c k' x' aS)
def sT{c:Cf}{k:Nat}{x:Int}{rs:List Rw}{d w:Nat}{wd:Wd}{l:Option W}{p:Prop} [Decidable p]{t:E}{a b:Sx}(ht:tv (d<$>4) t (eR c l wd w qx qx) (zs c k x rs)=qz (decide p,zs c k x rs))(h1:p->Ds c k x rs d w wd l a)(h2:¬ p->Ds c k x rs d w wd l b):Ds c k x rs d w wd l (.ifs t a (.seq b .skip)):=by
 by_cases q:p
 .rw[dqT q] at ht;let(r,k',x',aS,e,o,ok,hk,s):=h1 q;exact(r,k',x',aS,e,o,ok,hk,qU ht s,)
 .rw[dqF q] at ht;let(r,k',x',aS,e,o,ok,hk,s):=h2 q;exact(r,k',x',aS,e,o,ok,hk,sW ht (oS s),)
def aSe{c:Cf}{x:Int}{wd:Wd}(h:At c.S 0 c.p)(hr:eV [] rs)(h0:0<↑rs)(hl:↑rs<=80)(hw:1<=w)(cI:w<=64)(hk:k<=96000):Ds c k x rs d w wd l (fX (bK (bK (bK (bK (bK rZ)))))):=by
 refine sT (dS rfl (cD wd .in)) (λ e=>?_) λ n1=>sT (dS rfl (cD wd .num)) (λ e=>?_) λ n2=>sT (dS rfl (cD wd .not)) (λ e=>?_) λ n3=>sT (jB rfl rfl (aC0 wd)) (λ e=>?_) λ n4=>sT (jB rfl rfl (aVU wd)) (λ e=>?_) λ n5=>sT (dS rfl (cD wd .pick)) (λ e=>?_) λ n6=>?_
 .exact((.in,w,[],),k,x,rs,_,.same hr,(hw,cI,True.intro,),yBz _ _,lM (eW (aH cU (aH (aD rfl) aQ)) rfl (yAc rfl)),)
 .let(q,k',x',hq,hk',e):=@aKI _ _ _ k c.ns rs x h.toAt0 (d+1) w hw cI ();exact((.num,w,[q],),k',x',rs,_,.same hr,(hw,cI,hq,),by omega,lM (eW (aH cU (aH (aD rfl) (aH (bM (cV rfl (aD rfl)) e) aQ))) rfl (yAc rfl)),)
 .let(_,k',x',aS,(a,rfl,o,wa),hk',e):=uN h k x rs hr h0 (d+1) w () hw cI ();exact((.not,w,[a],),k',x',aS,_,o.up (·),(hw,cI,wa,),by omega,lM (eW (aH cU (aH (aD rfl) (aH (bM (aH (aD rfl) (cV rfl (aD rfl))) e) aQ))) rfl (yAc rfl)),)
 .let(_,k',x',aS,(o,r,rfl,okr),hk',e):=aCU h k x rs hr h0 d w wd e () hw cI ();exact(r,k',x',aS,_,o.up (·),okr,by omega,lM (bM (aH (aD rfl) (aH (aD rfl) (aH (aD rfl) (aH (aD rfl) aQ)))) e),)
 .let(_,k',x',aS,(rfl,r,rfl,okr),hk',e):=aAi h k x rs hr h0 (d+2) wd e () ();exact(r,k',x',_,_,.same hr,okr,by omega,lM (bM (aH (aD rfl) (cV rfl (aD rfl))) e),)
 .let(_,k1,x1,rs1,(b,rfl,o1,w1),hk1,e1):=uN h k x rs hr h0 (d+1) 1 () (·) (·) ();have l1:=o1.len;let(_,k',x',aS,(o2,a,a',rfl,wa,wb),hk',e2):=aIV h k1 x1 rs1 o1.ok () d w wd () hw cI ();exact((.pick,w,[b,a,a'],),k',x',aS,_,o1.on o2,(hw,cI,o2.keep w1,wa,wb,),by omega,bP (bM (aH (aD rfl) (cV rfl bG)) e1) rfl (lM (gF (eW (aH cU (aH (aD rfl) (aH (aD rfl) aQ))) rfl (yAc rfl)) (aE2 (bM (aH (aD rfl) (aH (aD rfl) (aH (aD rfl) (aH (aD rfl) aQ)))) e2) (aD8 bG) aEF rfl rfl) (aXh _ _ _ _ _))),)
 .let(_,k',x',aS,(o,a,b,rfl,wa,wb),hk',e):=aIV h k x rs hr h0 d w wd () hw cI ();refine((wd,if wd=.same\/wd=.less\/wd=.under then 1 else w,[a,b],),k',x',aS,_,o.up (·),?_,by omega,aLT (bM (aH (aD rfl) (aH (aD rfl) (aH (aD rfl) (aH (aD rfl) aQ)))) e) rfl,);clear e;cases wd
  all_goals first|exact(hw,cI,wa,wb,)|exact(yAb 1,oqT rfl,rfl,w,wa,wb,)|exact absurd rfl n1|exact absurd rfl n2|exact absurd rfl n3|exact absurd rfl n6|exact absurd (.inl rfl) n4|exact absurd (.inr (.inl rfl)) n4|exact absurd (.inr (.inr rfl)) n4|exact absurd (.inl rfl) n5|exact absurd (.inr (.inl rfl)) n5|exact absurd (.inr (.inr rfl)) n5
def wds:List Wd:=[.in,.num,.num,.not,.and,.or,.xor,.add,.sub,.mul,.left,.right,.slide,.cut,.wide,.sign,.same,.less,.under,.pick]
def yU:D:=.list (wds.map λ w=>yCb w.s)
def aYF(C:Calls)(a b:Option W)(S:aC)(r:Sx):xs C (.seq (fX rZ) (.seq (fX (bK rZ)) r)) [a,b,qx,qx,qx,qx,qx] S=xs C r [a,b,qz (.d yU),qx,qx,qx,qx] S:=by kernel_rfl
def row_ok{c:Cf}(h:At c.S 0 c.p)(k:Nat)(x:Int)(rs:List Rw)(d:Nat)(hr:eV [] rs)(h0:0<↑rs)(hl:↑rs<=80)(hk:k<=95000):Rn c (d+5) 77 [.loc 0,.loc c.p] k x rs 20 λ v aS=>v=.none/\eV [] aS/\↑rs<=↑aS/\↑aS<=↑rs+4:=by
 let(q1,x1,h1,e1):=dw h k x rs (d+3) 20 (·) (·) ();obtain⟨wd,bC⟩:∃ wd,wds[q1]?=qz wd:=(_,yAa h1,);have gw:bD yU (.int q1)=qz (.str wd.s):=oQ (by rw[yAg,bC];rfl);let(a,x2,ha,e2):=dw h (k+1) x1 rs (d+3) ↑rs h0 () ();have hra:rs[a]?=qz rs[a]:=yAa ha;let(cB,cI):=aCq hr hra;generalize rs[a]=r at *;let(q3,x3,h3,e3):=dw h (k+2) x2 rs (d+3) 4 (·) (·) ();obtain⟨w,k4,x4,hw3,hw4,hk4,s4⟩:∃ (w k4:Nat) (x4:Int),1<=w/\w<=64/\k4<=k+6/\xs (d<$>4) (fX (bK (bK (bK (bK rZ))))) (eR c (qz (.d yU)) wd r.w qx qx) (zs c (k+2) x2 rs)=qz (.nx (eR c (qz (.d yU)) wd w qx qx),zs c k4 x4 rs):=by
  by_cases q:q3=1
  .let(w,x4,g1,g2,e4):=@aH0 _ _ _ (k+3) c.ns rs x3 h.toAt0 (d+2) ();exact(w,k+6,x4,g1,g2,yAb _,qU (bN (bM (cV rfl bG) e3) bG (aME ())) (lM (bM (aH (aD rfl) aQ) e4)),)
  .exact(r.w,k+3,x3,cB,cI,by omega,sW (bN (bM (cV rfl bG) e3) bG (aMu ())) rfl,)
 let(rr,k',x',aS,e6,o,okr,hk',s5):=@aSe _ _ k4 d (qz (.d yU)) _ x4 wd h hr h0 hl hw3 hw4 ();have l:=o.len;refine(_,k',x',aS++[rr],(rfl,aCn o.ok okr,by rw[xAn];omega,by rw[xAn];show ↑aS+1<=_;omega,),by omega,?_,);rw[bO rfl (d+4) _ _ rfl];exact aVM rfl ((aYF _ _ _ _ (bK (bK rZ))).trans (bP (bY (aD rfl) (bM (cV rfl bG) e1) rfl gw) rfl (bP (pG rfl (bM (cV rfl (kE rfl h.rows)) e2) h.rows hra) rfl (eE s4 (eE s5 (oS (qK (wU (aD rfl) (aD rfl) (aAH h _ _ _ () rr))))))))) (h.toAt0.take _ _ _)
end GP
def tr(n w:Nat):Nat:=w-bl (n^^^(2^w-1))
def aVQ(n w i:Nat):(n^^^(2^w-1))[i]! =(n[i]! ^^ decide (i<w)):=by rw[xAo,dW]
def aL0(n w:Nat):tr n w<=w:=yGl _ _
def aJj(hi:w-tr n w<=i)(hw:i<w):n[i]! =true:=by
 have h1:bl (n^^^(2^w-1))<=i:=by unfold tr at hi;omega
 have h2:=dM (qQ (n^^^(2^w-1))) h1;rw[aVQ,dqT hw] at h2;cases q:n[i]! with
 |true=>rfl|false=>rw[q] at h2;cases h2
def dO(a w:Nat):Nat:=(2^w-1)^^^(2^(w-a)-1)
def oH:(dO a w)[i]! =(decide (w-a<=i)&&decide (i<w)):=by
 unfold dO;rw[xAo,dW,dW];by_cases h1:i<w<;>by_cases h2:i<w-a
 .rw[dqT h1,dqT h2,dqF ()];rfl
 .rw[dqT h1,dqF h2,dqT ()];rfl
 .omega
 .rw[dqF h1,dqF h2,yCu];rfl
def aDV:x&&&y≠0 ↔ ∃ i,x[i]! =true/\y[i]! =true:=by
 constructor
 .intro h;by_cases c:∃ i,x[i]! =true/\y[i]! =true
  .exact c
  .refine absurd ((oI _).mpr λ i=>?_) h;rw[yAk];cases h1:x[i]!<;>cases h2:y[i]!<;>first|rfl|exact absurd (i,h1,h2,) c
 .rintro ⟨i,h1,h2⟩ z;rw[oI] at z;have:=z i;rw[yAk,h1,h2] at this;cases this
def dC(x a w:Nat):Nat:=if x&&&dO a w=0 then x else x|||dO a w
def aBd(h:x<2^w):dC x a w<2^w:=by
 unfold dC;split
 .exact h
 .exact yBj h (by
   apply yCv;intro i hi;rw[oH,dqF (show ¬ i<w by omega),yCu])
def aA0:(dC x a w)[i]! =true ↔ x[i]! =true\/((w-a<=i/\i<w)/\∃ j,(w-a<=j/\j<w)/\x[j]! =true):=by
 unfold dC;split
 .rename_i h;constructor
  .intro z;exact .inl z
  .rintro (z|⟨_,j,h1,h2⟩)
   .exact z
   .refine absurd h (aDV.mpr (j,h2,?_,));rw[oH,dqT h1.1,dqT h1.2];rfl
 .rename_i h;let(j,h1,h2):=aDV.mp h;rw[oH,yAs,decide_eq_true_eq,decide_eq_true_eq] at h2;rw[xAp,yEf,oH,yAs,decide_eq_true_eq,decide_eq_true_eq];constructor
  .rintro (z|z)
   .exact .inl z
   .exact .inr (z,j,h2,h1,)
  .rintro (z|⟨z,_⟩)
   .exact .inl z
   .exact .inr z
def yB(i j k:Nat):Nat:=max (max i j) k
structure Ft where
 N:Nat
 O:Nat
 A:Nat
def iC(f:Ft)(w:Nat):Ft:=(dC f.N f.A w,dC f.O f.A w,yB f.A (tr (dC f.N f.A w) w) (tr (dC f.O f.A w) w),)
def Hd(f:Ft)(n w:Nat):Prop:=(∀ i,f.N[i]! =true->n[i]! =false)/\(∀ i,f.O[i]! =true->n[i]! =true)/\((∀ i,w-f.A<=i->i<w->n[i]! =true)\/(∀ i,w-f.A<=i->i<w->n[i]! =false))
structure FtOk(f:Ft)(w:Nat):Prop where
 lN:f.N<2^w
 lO:f.O<2^w
 a1:1<=f.A
 aw:f.A<=w
def aLQ(h:FtOk f w):FtOk (iC f w) w:=by have h1:=aL0 (dC f.N f.A w) w;have h2:=aL0 (dC f.O f.A w) w;have h3:=h.a1;have h4:=h.aw;exact(aBd h.lN,aBd h.lO,xAh h3 (xAh (yDn _ _) (yDn _ _)),Nat.max_le.mpr (Nat.max_le.mpr (h4,h1,),h2,),)
def aQD(h:FtOk f w):Hd (iC f w) n w ↔ Hd f n w:=by
 have aA:f.A<=(iC f w).A:=xAh (yDn _ _) (yDn _ _);constructor
 .rintro ⟨h1,h2,h3⟩;refine(λ i hi=>h1 i (aA0.mpr (.inl hi)),λ i hi=>h2 i (aA0.mpr (.inl hi)),?_,);rcases h3 with h3|h3
  .exact .inl λ i a b=>h3 i (xAh (yEm aA _) a) b
  .exact .inr λ i a b=>h3 i (xAh (yEm aA _) a) b
 .rintro ⟨h1,h2,h3⟩;have hN:∀ i,(iC f w).N[i]! =true->n[i]! =false:=λ i hi=>by
   rcases aA0.mp hi with z|⟨⟨a,b⟩,j,⟨c,d⟩,e⟩
   .exact h1 i z
   .rcases h3 with h3|h3
    .have x1:=h3 j c d;rw[h1 j e] at x1;cases x1
    .exact h3 i a b
  have hO:∀ i,(iC f w).O[i]! =true->n[i]! =true:=λ i hi=>by
   rcases aA0.mp hi with z|⟨⟨a,b⟩,j,⟨c,d⟩,e⟩
   .exact h2 i z
   .rcases h3 with h3|h3
    .exact h3 i a b
    .have x1:=h3 j c d;rw[h2 j e] at x1;cases x1
  refine(hN,hO,?_,);have cA:(iC f w).A=f.A\/(iC f w).A=tr (iC f w).N w\/(iC f w).A=tr (iC f w).O w:=by
   show max (max _ _) _=_\/max (max _ _) _=tr (dC f.N f.A w) w\/max (max _ _) _=tr (dC f.O f.A w) w;omega
  rcases cA with c|c|c
  .rw[c];exact h3
  .rw[c];exact .inr λ i a b=>hN i (aJj a b)
  .rw[c];exact .inl λ i a b=>hO i (aJj a b)
def bAp(h:Hd f n w):f.N&&&f.O=0:=by
 by_cases c:f.N&&&f.O=0
 .exact c
 .let(i,h1,h2):=aDV.mp c;have x:=h.1 i h1;rw[h.2.1 i h2] at x;cases x
def aAQ(hn:n<2^w)(hi:i<w):(2^w-1-n)[i]! = !n[i]!:=by have:=sE hn i;unfold rE at this;rw[this,dqT hi,yBd]
def aQ1(hn:n<2^w)(ha:a<=w):n/2^(w-a)=2^a-1 ↔ ∀ i,w-a<=i->i<w->n[i]! =true:=by
 constructor
 .intro h i h1 h2;have:(n/2^(w-a))[(i-(w-a))]! =(2^a-1)[(i-(w-a))]!:=by rw[h]
  rw[iX,dW,show w-a+(i-(w-a))=i by omega,dqT ()] at this;exact this
 .intro h;apply xAl;intro i;rw[iX,dW];by_cases c:i<a
  .rw[h _ () (),dqT c]
  .rw[dM hn (),dqF c]
def aQm(hn:n<2^w)(ha:a<=w):n/2^(w-a)=0 ↔ ∀ i,w-a<=i->i<w->n[i]! =false:=by
 rw[aCd];constructor
 .intro h i h1 _;exact h i h1
 .intro h i h1;by_cases c:i<w
  .exact h i h1 c
  .exact dM hn ()
def aP5:(x&&&y=0) ↔ ∀ i,y[i]! =true->x[i]! =false:=by
 rw[oI];constructor
 .intro h i hy;have:=h i;rw[yAk,hy,yCg] at this;exact this
 .intro h i;rw[yAk];cases hy:y[i]! with|false=>exact yCu _|true=>rw[h i hy];rfl
def aG0{x y:Nat}:(x&&&y=y) ↔ ∀ i,y[i]! =true->x[i]! =true:=by
 constructor
 .intro h i hy;have:=congrArg (λ z=>z[i]!) h;simp only[yAk,hy,yCg] at this;exact this
 .intro h;apply xAl;intro i;rw[yAk];cases hy:y[i]! with|false=>exact yCu _|true=>rw[h i hy];rfl
def dG(d w:Nat)(h:w<=100000)(S:aC):cl fns (d+1) 0 [.d (.int w)] S=qz (.d (.int ((2^w-1:Nat):Int)),S):=by rw[bO rfl d _ S rfl];erw[11,aLc,iU h,cX,aCD]
def aTj(n:Nat):yAn (n:Int)=bl n:=aGd n
def aAj(d n:Nat)(S:aC):cl fns (d+1) 1 [.d (.int n)] S=qz (.d (.int ((bl n:Nat):Int)),S):=by rw[bO rfl d _ S rfl];erw[11,aKN,aEi,aK5,aTj]
def lr(n:Nat):Nat:=bl (n^^^(n+1))-1
def aS4(n:Nat):lr n=mB (oZ n (bl n+1)):=aGF (bl n+1) n (xAb (qQ n) (yAw (·) ()))
def aId(d n:Nat)(S:aC)(h:n<2^10000):cl fns (d+2) 2 [.d (.int n)] S=qz (.d (.int ((2^bl n-1:Nat):Int)),S):=by rw[bO rfl (d+1) _ S rfl];have hq22:=dG d (bl n) (xAh (tE h) (·));erw[11,aKx,aAj d n,hq22]
def aKS(h:n<2^w)(hw:w<=10000):n<2^10000:=xAb h (yAw (·) hw)
def aDE(d n:Nat)(S:aC):cl fns (d+2) 3 [.d (.int n)] S=qz (.d (.int ((lr n:Nat):Int)),S):=by
 have h1:=aCB (aGs n);have e1:(n:Int)+1=((n+1:Nat):Int):=();have e2:((bl (n^^^(n+1)):Nat):Int)-1=((lr n:Nat):Int):=by unfold lr;omega
 rw[bO rfl (d+1) _ S rfl];erw[11,aHQ,eC,e1,mS,aAj d,cX,e2]
def Ft.d(f:Ft):D:=.tuple [.int f.N,.int f.O,.int f.A]
def hZ(f:Ft):bD f.d (.int 0)=qz (.int f.N):=rfl
def iK(f:Ft):bD f.d (.int 1)=qz (.int f.O):=rfl
def jO(f:Ft):bD f.d (.int 2)=qz (.int f.A):=rfl
def aAl(a b:Nat):(((a:Nat):Int)==((b:Nat):Int))=(a==b):=by rw[yEe,beq_iff_eq,beq_iff_eq];omega
def aHj(d n w:Nat)(S:aC)(hn:n<2^w)(hw:w<=64):cl fns (d+2) 4 [.d (.int n),.d (.int w)] S=qz (.d (.int ((tr n w:Nat):Int)),S):=by
 have h1:=tE (aOl hn);have e2:(w:Int)-((bl (n^^^(2^w-1)):Nat):Int)=((tr n w:Nat):Int):=by unfold tr;omega
 rw[bO rfl (d+1) _ S rfl];have hq23:=dG d w ();erw[11,aHG,hq23,mS,aAj d,cX,e2]
def pU(d a w:Nat)(S:aC)(ha:a<=w)(hw:w<=64):cl fns (d+2) 21 [.d (.int a),.d (.int w)] S=qz (.d (.int ((dO a w:Nat):Int)),S):=by have e:(w:Int)-(a:Int)=((w-a:Nat):Int):=();rw[bO rfl (d+1) _ S rfl];have hq24:=dG d w ();have hq25:=dG d (w-a) ();erw[11,aHm,hq24,cX,e,hq25,mS]
def mxI(i j:Nat):(if (j:Int)>(i:Int) then ((j:Nat):Int) else ((i:Nat):Int))=((max i j:Nat):Int):=by
 by_cases h:(j:Int)>(i:Int)
 .rw[if_pos h];omega
 .rw[if_neg h];omega
def aAa(i j k:Nat):pI [.int i,.int j,.int k]=qz (.int ((yB i j k:Nat):Int)):=by
 show qz (yAo (if (j:Int)>(i:Int) then (if (k:Int)>(j:Int) then (k:Int) else (j:Int)) else (if (k:Int)>(i:Int) then (k:Int) else (i:Int))))=_;rw[mxI,mxI];unfold yB;by_cases h:(j:Int)>(i:Int)
 .rw[if_pos h,show max (max i j) k=max j k by omega]
 .rw[if_neg h,show max (max i j) k=max i k by omega]
def aDM(h:(x&&&dO a w==0)=true):dC x a w=x:=by unfold dC;rw[if_pos (eq_of_beq h)]
def aEc(h:(x&&&dO a w==0)=false):dC x a w=x|||dO a w:=by unfold dC;rw[if_neg (by simpa using h)]
def aP3(d:Nat)(f:Ft)(w:Nat)(k:FtOk f w)(hw:w<=64)(S:aC):cl fns (d+3) 23 [.d f.d,.d (.int w)] S=qz (.d (iC f w).d,S):=by
 have t1:=aHj d (dC f.N f.A w) w S (aBd k.lN) hw;have t2:=aHj d (dC f.O f.A w) w S (aBd k.lO) hw;rw[bO rfl (d+2) _ S rfl];show _=qz (W.d (.tuple [.int ((dC f.N f.A w:Nat):Int),.int ((dC f.O f.A w:Nat):Int),.int ((yB f.A (tr (dC f.N f.A w) w) (tr (dC f.O f.A w) w):Nat):Int)]),S);cases c1:(f.N&&&dO f.A w==0) with
 |true=>
   rw[aDM c1] at t1 ⊢;cases c2:(f.O&&&dO f.A w==0) with
   |true=>
     rw[aDM c2] at t2 ⊢;erw[11,vB,Ft.d,pU (d:=d) (a:=f.A) (w:=w) (S:=S) k.aw hw,dR,oR,dY,c1,c2,t1,t2,aAa]
   |false=>
     rw[aEc c2] at t2 ⊢;erw[11,vB,Ft.d,pU (d:=d) (a:=f.A) (w:=w) (S:=S) k.aw hw,dR,oR,dY,c1,c2,gB,t1,t2,aAa]
 |false=>
   rw[aEc c1] at t1 ⊢;cases c2:(f.O&&&dO f.A w==0) with
   |true=>
     rw[aDM c2] at t2 ⊢;erw[11,vB,Ft.d,pU (d:=d) (a:=f.A) (w:=w) (S:=S) k.aw hw,dR,oR,dY,c1,c2,gB,t1,t2,aAa]
   |false=>
     rw[aEc c2] at t2 ⊢;erw[11,vB,Ft.d,pU (d:=d) (a:=f.A) (w:=w) (S:=S) k.aw hw,dR,oR,dY,c1,c2,gB,t1,t2,aAa]
def vA(d:Nat)(f:Ft)(S:aC):cl fns (d+1) 24 [.d f.d] S=qz (.d (.int f.O),S):=by rw[bO rfl d _ S rfl];erw[11,aJM,iK]
def zP(d:Nat)(f:Ft)(w:Nat)(lN:f.N<2^w)(hw:w<=64)(S:aC):cl fns (d+2) 25 [.d f.d,.d (.int w)] S=qz (.d (.int ((2^w-1-f.N:Nat):Int)),S):=by
 have e:(2^w-1)^^^f.N=2^w-1-f.N:=by
  apply xAl;intro i;have:=sE lN i;unfold rE at this;rw[this,xAo,dW];by_cases c:i<w
  .rw[dqT c];cases f.N[i]!<;>rfl
  .rw[dqF c,dM lN ()];rfl
 rw[bO rfl (d+1) _ S rfl];have hq26:=dG d w ();erw[11,aGV,hZ,hq26,mS,e]
def zJ(d n w v:Nat)(S:aC)(hw:0<w)(hv:v<=1000)(cI:w<=64):cl fns (d+2) 5 [.d (.int n),.d (.int w),.d (.int v)] S=qz (.d (.int ((fF n w v:Nat):Int)),S):=by
 have e1:(w:Int)-1=((w-1:Nat):Int):=();rw[bO rfl (d+1) _ S rfl];unfold fF;by_cases c:n&&&2^(w-1)=0
 .have d1:(n&&&2^(w-1)==0)=true:=by rw[beq_iff_eq];exact c
  rw[if_pos c];have hq27:=iU (show w-1<=100000 by omega);erw[11,aCo,cX,e1,hq27,dR,cK,dY,d1]
 .have d1:(n&&&2^(w-1)==0)=false:=by rw[beq_eq_false_iff_ne];exact c
  rw[if_neg c];have hq28:=iU (show w-1<=100000 by omega);have hq29:=dG d v ();have hq30:=dG d w ();erw[11,aCo,cX,e1,hq28,dR,cK,dY,d1,hq29,hq30,mS,gB]
def aC6(a k:Nat):pI [.int 1,.int ((a:Nat)-(k:Nat):Int)]=qz (.int ((max 1 (a-k):Nat):Int)):=by unfold pI;simp only[];congr 2;by_cases h1:(a:Int)-(k:Int)>1<;>simp only[h1,if_true,if_false]<;>omega
def lE(i j:Nat):kL [.int i,.int j]=qz (.int ((min i j:Nat):Int)):=by unfold kL;simp only[];congr 2;by_cases h1:(j:Int)<(i:Int)<;>simp only[h1,if_true,if_false]<;>omega
def wN(w:Nat)(f:Ft)(k:Nat):Ft:=((f.N*2^k|||(2^k-1))&&&(2^w-1),f.O*2^k&&&(2^w-1),max 1 (f.A-k),)
def aSW(d w:Nat)(f:Ft)(k:Nat)(hf:FtOk f w)(hw:w<=64)(hk:k<=1000)(S:aC):cl fns (d+2) 36 [.d (.int w),.d f.d,.d (.int k)] S=qz (.d (wN w f k).d,S):=by rw[bO rfl (d+1) _ S rfl];have hq31:=vG hf.lN (show w+k<=100000 by omega);have hq32:=vG hf.lO (show w+k<=100000 by omega);have hq33:=dG d k ();have hq34:=dG d w ();erw[11,aGu,hZ,iK,jO,hq31,hq32,hq33,hq34,gB,dR,cX,aC6]
def mV(w:Nat)(f:Ft)(k:Nat):Ft:=(f.N/2^k|||dO (min k w) w,f.O/2^k,if k=0 then f.A else 1,)
def aRi(d w:Nat)(f:Ft)(k:Nat)(hw:w<=64)(S:aC):cl fns (d+3) 37 [.d (.int w),.d f.d,.d (.int k)] S=qz (.d (mV w f k).d,S):=by
 have tm:=pU d (min k w) w S () hw;rw[bO rfl (d+2) _ S rfl];by_cases c:k=0
 .have d1:(k==0)=true:=by rw[beq_iff_eq];exact c
  have e:(mV w f k).d=.tuple [.int ((f.N/2^k|||dO (min k w) w:Nat):Int),.int ((f.O/2^k:Nat):Int),.int f.A]:=by unfold mV;rw[if_pos c];rfl
  rw[e];erw[11,aCh,hZ,iK,jO,kA,lE,tm,gB,cK,dY,d1]
 .have d1:(k==0)=false:=by rw[beq_eq_false_iff_ne];exact c
  have e:(mV w f k).d=.tuple [.int ((f.N/2^k|||dO (min k w) w:Nat):Int),.int ((f.O/2^k:Nat):Int),.int 1]:=by unfold mV;rw[if_neg c];rfl
  rw[e];erw[11,aCh,hZ,iK,jO,kA,lE,tm,gB,cK,dY,d1]
def vO(w:Nat)(f:Ft)(k:Nat):Ft:=(fF f.N w (w+k)/2^k,fF f.O w (w+k)/2^k,min w (f.A+k),)
def aQP(d w:Nat)(f:Ft)(k:Nat)(cB:1<=w)(hw:w<=64)(hk:k<=900)(S:aC):cl fns (d+3) 38 [.d (.int w),.d f.d,.d (.int k)] S=qz (.d (vO w f k).d,S):=by have e1:(w:Int)+(k:Int)=((w+k:Nat):Int):=();have e2:(f.A:Int)+(k:Int)=((f.A+k:Nat):Int):=();rw[bO rfl (d+2) _ S rfl];have hq35:=zJ d f.N w (w+k) S () () hw;have hq36:=zJ d f.O w (w+k) S () () hw;erw[11,aF9,hZ,iK,jO,eC,e1,e2,hq35,hq36,kA,lE]
def yJ(v w:Nat)(f:Ft):Ft:=(f.N&&&(2^w-1),f.O&&&(2^w-1),max 1 (f.A-(v-w)),)
def nG(v w:Nat)(f:Ft):Ft:=(f.N|||dO (w-v) w,f.O,if w=v then f.A else 1,)
def wH(v w:Nat)(f:Ft):Ft:=(fF f.N v w,fF f.O v w,f.A+(w-v),)
def aUV(d v w:Nat)(f:Ft)(hv:w<=v)(hw:w<=64)(S:aC):cl fns (d+2) 40 [.d (.str "cut"),.d (.int v),.d (.int w),.d f.d] S=qz (.d (yJ v w f).d,S):=by have c1:aV .Eq (.str "cut") (.str "cut")=qz (.bool true):=cD .cut .cut;have e1:(v:Int)-(w:Int)=((v-w:Nat):Int):=();rw[bO rfl (d+1) _ S rfl];have hq37:=dG d w ();erw[11,uO,Ft.d,c1,hq37,dR,cX,e1,aC6]
def aTl(d v w:Nat)(f:Ft)(hv:v<=w)(hw:w<=64)(S:aC):cl fns (d+3) 40 [.d (.str "wide"),.d (.int v),.d (.int w),.d f.d] S=qz (.d (nG v w f).d,S):=by
 have c1:aV .Eq (.str "wide") (.str "cut")=qz (.bool false):=cD .wide .cut;have c2:aV .Eq (.str "wide") (.str "wide")=qz (.bool true):=cD .wide .wide;have e1:(w:Int)-(v:Int)=((w-v:Nat):Int):=();have tm:=pU d (w-v) w S () hw;rw[bO rfl (d+2) _ S rfl];by_cases c:w=v
 .have d1:(w==v)=true:=by rw[beq_iff_eq];exact c
  have e:(nG v w f).d=.tuple [.int ((f.N|||dO (w-v) w:Nat):Int),.int f.O,.int f.A]:=by unfold nG;rw[if_pos c];rfl
  rw[e];erw[11,uO,Ft.d,c1,c2,cX,e1,tm,gB,cK,aAl,d1]
 .have d1:(w==v)=false:=by rw[beq_eq_false_iff_ne];exact c
  have e:(nG v w f).d=.tuple [.int ((f.N|||dO (w-v) w:Nat):Int),.int f.O,.int 1]:=by unfold nG;rw[if_neg c];rfl
  rw[e];erw[11,uO,Ft.d,c1,c2,cX,e1,tm,gB,cK,aAl,d1]
def aSQ(d v w:Nat)(f:Ft)(hv1:1<=v)(hv:v<=w)(hw:w<=64)(S:aC):cl fns (d+3) 40 [.d (.str "sign"),.d (.int v),.d (.int w),.d f.d] S=qz (.d (wH v w f).d,S):=by have c1:aV .Eq (.str "sign") (.str "cut")=qz (.bool false):=cD .sign .cut;have c2:aV .Eq (.str "sign") (.str "wide")=qz (.bool false):=cD .sign .wide;have e1:(w:Int)-(v:Int)=((w-v:Nat):Int):=();have e2:(f.A:Int)+((w-v:Nat):Int)=((f.A+(w-v):Nat):Int):=();rw[bO rfl (d+2) _ S rfl];have hq38:=zJ d f.N v w S () () ();have hq39:=zJ d f.O v w S () () ();erw[11,uO,Ft.d,c1,c2,cX,e1,hq38,hq39,eC,e2]
def bwN(wd:Wd)(f g:Ft):Ft:=match wd with|.and=>(f.N|||g.N,f.O&&&g.O,min f.A g.A,)|.or=>(f.N&&&g.N,f.O|||g.O,min f.A g.A,)|_=>(f.N&&&g.N|||f.O&&&g.O,f.N&&&g.O|||f.O&&&g.N,min f.A g.A,)
def aAb(d:Nat)(f g:Ft)(S:aC):cl fns (d+1) 34 [.d f.d,.d g.d] S=qz (.d (.int ((f.N&&&g.O|||f.O&&&g.N:Nat):Int)),S):=by rw[bO rfl d _ S rfl];erw[11,aF5,hZ,iK,gB,dR]
def aOW(d:Nat)(wd:Wd)(bC:wd=.and\/wd=.or\/wd=.xor)(f g:Ft)(S:aC):cl fns (d+2) 35 [.d (.str wd.s),.d f.d,.d g.d] S=qz (.d (bwN wd f g).d,S):=by
 have c1:aV .Eq (.str wd.s) (.str "and")=qz (.bool (decide (wd=.and))):=cD wd .and;have c2:aV .Eq (.str wd.s) (.str "or")=qz (.bool (decide (wd=.or))):=cD wd .or;rw[bO rfl (d+1) _ S rfl];erw[50,bC]
 .simp only[decide_true] at c1;erw[11,zI,hZ,iK,jO,lE,c1,gB,dR]
 .simp only[reduceCtorEq,decide_false,decide_true] at c1 c2;erw[11,zI,hZ,iK,jO,lE,c1,c2,gB,dR]
 .simp only[reduceCtorEq,decide_false] at c1 c2;erw[11,zI,hZ,iK,jO,lE,c1,c2,gB,dR,aAb d]
def dE(f:Ft)(k:Nat):Nat:=2-2*(f.N[k]!).toNat-(f.O[k]!).toNat
def gR{f:Ft}(hd:f.N&&&f.O=0)(k:Nat):(dE f k==0)=f.N[k]!:=by have:=(oI _).mp hd k;rw[yAk] at this;unfold dE;revert this;cases f.N[k]!<;>cases f.O[k]!<;>decide
def gQ{f:Ft}(hd:f.N&&&f.O=0)(k:Nat):(dE f k==1)=f.O[k]!:=by have:=(oI _).mp hd k;rw[yAk] at this;unfold dE;revert this;cases f.N[k]!<;>cases f.O[k]!<;>decide
def vX(f:Ft)(k:Nat):dE f k<3:=by unfold dE;omega
def ntN(x:Nat):Nat:=[1,0,2].getD x 2
def aBn(f:Ft)(k i:Nat):Nat:=if i<k then 0 else dE f (i-k)
def aAV(f:Ft)(w k i:Nat):Nat:=if i+k<w then dE f (i+k) else 0
def aMj(f:Ft)(w i:Nat):Nat:=dE f (min i (w-1))
def aBo(f:Ft)(w i:Nat):Nat:=if i<w then dE f i else 0
structure Mk(t:Nat->Nat)(n:Nat)(g:Ft):Prop where
 lN:g.N<2^n
 lO:g.O<2^n
 b0:∀ i,i<n->g.N[i]! =(t i==0)
 b1:∀ i,i<n->g.O[i]! =(t i==1)
def aMB{f:Ft}(hd:f.N&&&f.O=0)(k:Nat):(ntN (dE f k)==0)=f.O[k]!:=by rw[<- gQ hd k];have:=vX f k;revert this;generalize dE f k=x;intro h;have:x=0\/x=1\/x=2:=();erw[50,this]<;>rfl
def aMT{f:Ft}(hd:f.N&&&f.O=0)(k:Nat):(ntN (dE f k)==1)=f.N[k]!:=by rw[<- gR hd k];have:=vX f k;revert this;generalize dE f k=x;intro h;have:x=0\/x=1\/x=2:=();erw[50,this]<;>rfl
def aWF(hf:FtOk f w)(hd:f.N&&&f.O=0):Mk (λ i=>ntN (dE f i)) w (f.O,f.N,f.A,):=
 (hf.lO,hf.lN,λ i _=>(aMB hd i).symm,λ i _=>(aMT hd i).symm,)
def vJ(w:Nat):2^w-1<2^w:=by have:=xAe w;omega
def zX(n k i:Nat):(n*2^k)[i]! =(decide (k<=i)&&n[(i-k)]!):=by
 have:=@aGo 0 k n (xAe k) i;rw[yCx] at this;rw[this];by_cases c:i<k
 .rw[if_pos c,dqF (),yCa,yCe]
 .rw[if_neg c,dqT (),yBd]
def aJd{f:Ft}(k:Nat)(hd:f.N&&&f.O=0):Mk (aBn f k) w (wN w f k):=by
 refine(xAi yGt (vJ w),xAi yGt (vJ w),λ i hi=>?_,λ i hi=>?_,)
 .show((f.N*2^k|||(2^k-1))&&&(2^w-1))[i]! =_;rw[yAk,xAp,dW,dW,zX,dqT hi,yCg];unfold aBn;by_cases c:i<k
  .rw[if_pos c,dqT c,yGp];rfl
  .rw[if_neg c,dqF c,yFu,dqT (),yBd,gR hd]
 .show(f.O*2^k&&&(2^w-1))[i]! =_;rw[yAk,dW,zX,dqT hi,yCg];unfold aBn;by_cases c:i<k
  .rw[if_pos c,dqF (),yCe];rfl
  .rw[if_neg c,dqT (),yBd,gQ hd]
def aKh(a w:Nat):dO a w<2^w:=by apply yCv;intro i hi;rw[oH,dqF (show ¬ i<w by omega),yCu]
def aG3(h:n<2^w):n/2^k<2^w:=xAi (Nat.div_le_self _ _) h
def aIi(k:Nat)(hf:FtOk f w)(hd:f.N&&&f.O=0):Mk (aAV f w k) w (mV w f k):=by
 refine(yBj (aG3 hf.lN) (aKh _ _),aG3 hf.lO,λ i hi=>?_,λ i hi=>?_,)
 .show(f.N/2^k|||dO (min k w) w)[i]! =_;rw[xAp,iX,oH,dqT hi,yCg];unfold aAV;by_cases c:i+k<w
  .rw[if_pos c,dqF (),yFu,gR hd,yDr]
  .rw[if_neg c,dqT (),yGp];rfl
 .show(f.O/2^k)[i]! =_;rw[iX];unfold aAV;by_cases c:i+k<w
  .rw[if_pos c,gQ hd,yDr]
  .rw[if_neg c,dM hf.lO ()];rfl
def sD(h:n<2^w)(hw:0<w)(hv:w<=v)(hi:i<v):(fF n w v)[i]! =n[(min i (w-1))]!:=by
 rw[aF3 h hw hv];by_cases c:i<w
 .rw[if_pos c,yCo ()]
 .rw[if_neg c,dqT hi,yBd,yCq ()]
def aIm(k:Nat)(hw:1<=w)(hf:FtOk f w)(hd:f.N&&&f.O=0):Mk (λ i=>aMj f w (i+k)) w (vO w f k):=by
 have hl:∀ n,n<2^w->fF n w (w+k)/2^k<2^w:=λ n hn=>by
  rw[yGq (xAe k),<- Nat.pow_add];exact aCk hn hw ()
 refine(hl _ hf.lN,hl _ hf.lO,λ i hi=>?_,λ i hi=>?_,)
 .show(fF f.N w (w+k)/2^k)[i]! =(dE f (min (i+k) (w-1))==0);rw[iX,sD hf.lN hw () (),gR hd,yDr]
 .show(fF f.O w (w+k)/2^k)[i]! =(dE f (min (i+k) (w-1))==1);rw[iX,sD hf.lO hw () (),gQ hd,yDr]
def aKf{f:Ft}(v w:Nat)(hd:f.N&&&f.O=0):Mk (dE f) w (yJ v w f):=by
 refine(xAi yGt (vJ w),xAi yGt (vJ w),λ i hi=>?_,λ i hi=>?_,)
 .show(f.N&&&(2^w-1))[i]! =_;rw[yAk,dW,dqT hi,yCg,gR hd]
 .show(f.O&&&(2^w-1))[i]! =_;rw[yAk,dW,dqT hi,yCg,gQ hd]
def aJc(h:n<2^v)(hv:v<=w):n<2^w:=xAb h (yAw (·) hv)
def aIX(hv:v<=w)(hf:FtOk f v)(hd:f.N&&&f.O=0):Mk (aBo f v) w (nG v w f):=by
 refine(yBj (aJc hf.lN hv) (aKh _ _),aJc hf.lO hv,λ i hi=>?_,λ i hi=>?_,)
 .show(f.N|||dO (w-v) w)[i]! =_;rw[xAp,oH,dqT hi,yCg];unfold aBo;by_cases c:i<v
  .rw[if_pos c,dqF (),yFu,gR hd]
  .rw[if_neg c,dqT (),yGp];rfl
 .show f.O[i]! =_;unfold aBo;by_cases c:i<v
  .rw[if_pos c,gQ hd]
  .rw[if_neg c,dM hf.lO ()];rfl
def aI6(h1:1<=v)(hv:v<=w)(hf:FtOk f v)(hd:f.N&&&f.O=0):Mk (aMj f v) w (wH v w f):=by
 refine(aCk hf.lN h1 hv,aCk hf.lO h1 hv,λ i hi=>?_,λ i hi=>?_,)
 .show(fF f.N v w)[i]! =(dE f (min i (v-1))==0);rw[sD hf.lN h1 hv hi,gR hd]
 .show(fF f.O v w)[i]! =(dE f (min i (v-1))==1);rw[sD hf.lO h1 hv hi,gQ hd]
def btN(b:Nat)(x y:Nat):Nat:=match b with
 |0=>if x=0\/y=0 then 0 else if x<2/\y<2 then x*y else 2
 |1=>if x=1\/y=1 then 1 else if x<2/\y<2 then x+y else 2
 |_=>if x<2/\y<2 then (if x=y then 0 else 1) else 2
def jL(f:Ft)(k:Nat):dE f k=0\/dE f k=1\/dE f k=2:=by have:=vX f k;omega
def uE(b:Nat)(f g:Ft):Ft:=match b with|0=>(f.N|||g.N,f.O&&&g.O,min f.A g.A,)|1=>(f.N&&&g.N,f.O|||g.O,min f.A g.A,)|_=>(f.N&&&g.N|||f.O&&&g.O,f.N&&&g.O|||f.O&&&g.N,min f.A g.A,)
def aL5(b:Nat)(hb:b=0\/b=1\/b=2)(hf:FtOk f w)(hd:f.N&&&f.O=0)(hg:FtOk g w)(he:g.N&&&g.O=0):Mk (λ i=>btN b (dE f i) (dE g i)) w (uE b f g):=by
 have an:∀ {x y:Nat},x<2^w->x&&&y<2^w:=λ h=>xAi yDm h
 erw[50,hb]
 .refine(yBj hf.lN hg.lN,an hf.lO,λ i _=>?_,λ i _=>?_,)
  .show(f.N|||g.N)[i]! =_;rw[xAp,<- gR hd,<- gR he];rcases jL f i with h|h|h<;>rcases jL g i with h'|h'|h'<;>rw[h,h']<;>rfl
  .show(f.O&&&g.O)[i]! =_;rw[yAk,<- gQ hd,<- gQ he];rcases jL f i with h|h|h<;>rcases jL g i with h'|h'|h'<;>rw[h,h']<;>rfl
 .refine(an hf.lN,yBj hf.lO hg.lO,λ i _=>?_,λ i _=>?_,)
  .show(f.N&&&g.N)[i]! =_;rw[yAk,<- gR hd,<- gR he];rcases jL f i with h|h|h<;>rcases jL g i with h'|h'|h'<;>rw[h,h']<;>rfl
  .show(f.O|||g.O)[i]! =_;rw[xAp,<- gQ hd,<- gQ he];rcases jL f i with h|h|h<;>rcases jL g i with h'|h'|h'<;>rw[h,h']<;>rfl
 .refine(yBj (an hf.lN) (an hf.lO),yBj (an hf.lN) (an hf.lO),λ i _=>?_,λ i _=>?_,)
  .show(f.N&&&g.N|||f.O&&&g.O)[i]! =_;rw[xAp,yAk,yAk,<- gR hd,<- gR he,<- gQ hd,<- gQ he];rcases jL f i with h|h|h<;>rcases jL g i with h'|h'|h'<;>rw[h,h']<;>rfl
  .show(f.N&&&g.O|||f.O&&&g.N)[i]! =_;rw[xAp,yAk,yAk,<- gR hd,<- gR he,<- gQ hd,<- gQ he];rcases jL f i with h|h|h<;>rcases jL g i with h'|h'|h'<;>rw[h,h']<;>rfl
def dF(x:Int)(w:Nat):Nat:=(x%((2^w:Nat):Int)).toNat
def oO(x:Int)(w:Nat):((dF x w:Nat):Int)=x%((2^w:Nat):Int):=by
 unfold dF;have:(0:Int)<((2^w:Nat):Int):=by have:=xAe w;omega
 have:=yHd x (b:=((2^w:Nat):Int)) ();omega
def wK(x:Int)(w:Nat):dF x w<2^w:=by
 have h:=oO x w;have:(0:Int)<((2^w:Nat):Int):=by have:=xAe w;omega
 have:=yFy x this;omega
def aYX{x:Int}(h0:0<=x)(h1:x<((2^w:Nat):Int)):((dF x w:Nat):Int)=x:=by rw[oO,Int.emod_eq_of_lt h0 h1]
def aWu(x:Int)(h:L<=w):dF x w%2^L=dF x L:=by
 have e:((dF x w%2^L:Nat):Int)=((dF x L:Nat):Int):=by
  rw[yFj,oO,oO];exact Int.emod_emod_of_dvd x (by
   have:(2:Nat)^L ∣ 2^w:=Nat.pow_dvd_pow 2 h;exact Int.natCast_dvd_natCast.mpr this)
 omega
def aVL(x:Int)(h:L<=w)(hi:i<L):(dF x w)[i]! =(dF x L)[i]!:=by rw[<- aWu x h,yBn,dqT hi,yBd]
def aAI(h:i<lr n):n[i]! =true:=by
 rw[aS4] at h;have h1:=aH2 _ i h;have h2:(oZ n (bl n+1)).getD i false=true:=by rw[xAg,h1];rfl
 rw[aPV,yAs] at h2;exact h2.2
def aXA(h:n<2^w):lr n<=w:=by
 by_cases c:lr n<=w
 .exact c
 .have:=@aAI w n ();rw[dM h (yAb _)] at this;cases this
def aJr{x y:Nat}(h:∀ i,x[i]! =true->y[i]! =true):x<=y:=by
 have:y&&&x=x:=by
  rw[aG0];exact h
 rw[<- this];exact yDm
def aUK(hx:x<2^w)(hy:y<2^w)(h:∀ i,x[i]! =true->y[i]! =false):y<=2^w-1-x:=by
 refine aJr (y:=rE x w) λ i hi=>?_
 have hiw:i<w:=by
  by_cases c:i<w
  .exact c
  .rw[dM hy ()] at hi;cases hi
 rw[sE hx,dqT hiw,yBd];cases q:x[i]! with
 |false=>rfl|true=>rw[h i q] at hi;cases hi
def aLx(h:Hd f n w):f.O<=n:=aJr h.2.1
def aLM(k:FtOk f w)(hn:n<2^w)(h:Hd f n w):n<=2^w-1-f.N:=aUK k.lN hn h.1
def aKo(h:Hd f n w)(hk:∀ i,i<L->(f.N|||f.O)[i]! =true):n%2^L=f.O%2^L:=by
 apply xAl;intro i;rw[yBn,yBn];by_cases c:i<L
 .rw[dqT c,yBd,yBd];have q:=hk i c;rw[xAp] at q;cases o:f.O[i]! with
  |true=>exact h.2.1 i o
  |false=>
    rw[o,yFu] at q;exact h.1 i q
 .rw[dqF c,yCe,yCe]
inductive Sw where|add|sub|mul
def Sw.oc:Sw->Int->Int->Int
 |.add,a,b=>a+b|.sub,a,b=>a-b|.mul,a,b=>a*b
def aGB(h:a%2^L=b%2^L):((a:Nat):Int)%((2^L:Nat):Int)=((b:Nat):Int)%((2^L:Nat):Int):=by rw[<- yFj,<- yFj,h]
def aUb(s:Sw){a b c e:Nat}{L:Nat}(h1:a%2^L=c%2^L)(h2:b%2^L=e%2^L):dF (s.oc a b) L=dF (s.oc c e) L:=by
 have g1:=aGB h1;have g2:=aGB h2;have:s.oc a b%((2^L:Nat):Int)=s.oc c e%((2^L:Nat):Int):=by
  cases s with
  |add=>show((a:Nat)+(b:Nat):Int)%_=((c:Nat)+(e:Nat):Int)%_;rw[Int.add_emod,g1,g2,<- Int.add_emod]|sub=>show((a:Nat)-(b:Nat):Int)%_=((c:Nat)-(e:Nat):Int)%_;rw[Int.sub_emod,g1,g2,<- Int.sub_emod]|mul=>show((a:Nat)*(b:Nat):Int)%_=((c:Nat)*(e:Nat):Int)%_;rw[Int.mul_emod,g1,g2,<- Int.mul_emod]
 unfold dF;rw[this]
def gJ(f g:Ft):Nat:=lr ((f.N|||f.O)&&&(g.N|||g.O))
def aDv(k:FtOk f w):gJ f g<=w:=aXA (xAi yDm (yBj k.lN k.lO))
def kR(s:Sw)(f g:Ft):Nat:=dF (s.oc (f.O:Nat) (g.O:Nat)) (gJ f g)
def tT(s:Sw)(f g:Ft):Nat:=(2^gJ f g-1)^^^kR s f g
def aHH(s:Sw)(k:FtOk f w)(h1:Hd f a w)(h2:Hd g b w)(hi:i<gJ f g):(dF (s.oc (a:Nat) (b:Nat)) w)[i]! =(kR s f g)[i]!:=by
 have hk:∀ i,i<gJ f g->(f.N|||f.O)[i]! =true/\(g.N|||g.O)[i]! =true:=λ i hi=>by
  have:=aAI hi;rw[yAk,yAs] at this;exact this
 rw[aVL _ (aDv k) hi,aUb s (aKo h1 λ i hi=>(hk i hi).1) (aKo h2 λ i hi=>(hk i hi).2)];rfl
def aQw(h:(kR s f g)[i]! =true):i<gJ f g:=by
 by_cases c:i<gJ f g
 .exact c
 .have hl:kR s f g<2^gJ f g:=wK _ _;rw[dM hl ()] at h;cases h
def aQG(h:(tT s f g)[i]! =true):i<gJ f g/\(kR s f g)[i]! =false:=by
 unfold tT at h;rw[xAo,dW] at h;have hl:kR s f g<2^gJ f g:=wK _ _;by_cases c:i<gJ f g
 .rw[dqT c] at h;refine(c,?_,);cases q:(kR s f g)[i]! with|false=>rfl|true=>rw[q] at h;cases h
 .rw[dqF c,dM hl ()] at h;cases h
def gM(s:Sw)(w:Nat)(f g:Ft):Int:=match s with|.sub=>(f.O:Nat)-((2^w-1-g.N:Nat):Int)|s=>s.oc (f.O:Nat) (g.O:Nat)
def gL(s:Sw)(w:Nat)(f g:Ft):Int:=match s with|.sub=>((2^w-1-f.N:Nat):Int)-(g.O:Nat)|s=>s.oc ((2^w-1-f.N:Nat):Int) ((2^w-1-g.N:Nat):Int)
def aLR(s:Sw)(kf:FtOk f w)(kg:FtOk g w)(ha:a<2^w)(hb:b<2^w)(h1:Hd f a w)(h2:Hd g b w):gM s w f g<=s.oc (a:Nat) (b:Nat)/\s.oc (a:Nat) (b:Nat)<=gL s w f g:=by
 have l1:=aLx h1;have l2:=aLx h2;have m1:=aLM kf ha h1;have m2:=aLM kg hb h2;cases s with
 |add=>
   show((f.O:Nat)+(g.O:Nat):Int)<=(a:Nat)+(b:Nat)/\((a:Nat)+(b:Nat):Int)<=((2^w-1-f.N:Nat):Int)+((2^w-1-g.N:Nat):Int);generalize 2^w-1-f.N=F at *;generalize 2^w-1-g.N=G at *;omega
 |sub=>
   show((f.O:Nat)-((2^w-1-g.N:Nat):Int))<=(a:Nat)-(b:Nat)/\((a:Nat)-(b:Nat):Int)<=((2^w-1-f.N:Nat):Int)-(g.O:Nat);generalize 2^w-1-f.N=F at *;generalize 2^w-1-g.N=G at *;omega
 |mul=>
   show((f.O:Nat)*(g.O:Nat):Int)<=(a:Nat)*(b:Nat)/\((a:Nat)*(b:Nat):Int)<=((2^w-1-f.N:Nat):Int)*((2^w-1-g.N:Nat):Int);rw[<- yGc,<- yGc,<- yGc];exact(Int.ofNat_le.mpr (Nat.mul_le_mul l1 l2),Int.ofNat_le.mpr (Nat.mul_le_mul m1 m2),)
def rL(s:Sw)(w:Nat)(f g:Ft):Nat:=if gM s w f g<0\/gL s w f g>((2^w-1:Nat):Int) then 0 else uZ (gM s w f g).toNat (gL s w f g).toNat w
def rJ(s:Sw)(w:Nat)(f g:Ft):Nat:=if gM s w f g<0\/gL s w f g>((2^w-1:Nat):Int) then 0 else oT (gM s w f g).toNat (gL s w f g).toNat w
def aP4(hl:l<2^w)(hg:g<2^w):wA l g w<2^w:=by apply yCv;intro i hi;rw[aCp hl hg,dqF (),yCe]
def aHF(s:Sw)(kf:FtOk f w)(kg:FtOk g w)(ha:a<2^w)(hb:b<2^w)(h1:Hd f a w)(h2:Hd g b w) :
 (∀ i,(rL s w f g)[i]! =true->(dF (s.oc (a:Nat) (b:Nat)) w)[i]! =false)/\(∀ i,(rJ s w f g)[i]! =true->(dF (s.oc (a:Nat) (b:Nat)) w)[i]! =true)/\rL s w f g<2^w/\rJ s w f g<2^w:=by
 have hb':=aLR s kf kg ha hb h1 h2;have hp:=xAe w;unfold rL rJ;by_cases c:gM s w f g<0\/gL s w f g>((2^w-1:Nat):Int)
 .rw[if_pos c,if_pos c];refine(λ i hi=>?_,λ i hi=>?_,hp,hp,)
  .rw[yCa] at hi;cases hi
  .rw[yCa] at hi;cases hi
 .rw[if_neg c,if_neg c];have e:=@aYX w (s.oc (a:Nat) (b:Nat)) () ();have q1:(gM s w f g).toNat<=dF (s.oc (a:Nat) (b:Nat)) w:=();have q2:dF (s.oc (a:Nat) (b:Nat)) w<=(gL s w f g).toNat:=();have q3:(gM s w f g).toNat<2^w:=();have q4:(gL s w f g).toNat<2^w:=();have n1:=aNK q3 q4 q1 q2;have n2:=aN1 q3 q4 q1 q2;rw[aP5] at n1;rw[aG0] at n2;have kl:=aP4 q3 q4;exact(n1,n2,yEr kl (xAi yDm kl),xAi yDm kl,)
def rK(s:Sw)(w:Nat)(f g:Ft):Nat:=match s with|.mul=>2^min w (lr f.N+lr g.N)-1|_=>0
def aII{n:Nat}(h:∀ i,i<L->n[i]! =false):2^L ∣ n:=by
 have:n%2^L=0:=by
  rw[oI];intro i;rw[yBn];by_cases c:i<L
  .rw[h i c,yCu]
  .rw[dqF c,yCe]
 exact Nat.dvd_of_mod_eq_zero this
def aR0(s:Sw)(h1:Hd f a w)(h2:Hd g b w):∀ i,(rK s w f g)[i]! =true->(dF (s.oc (a:Nat) (b:Nat)) w)[i]! =false:=by
 intro i hi;cases s with
 |add=>rw[show rK .add w f g=0 from rfl,yCa] at hi;cases hi
 |sub=>rw[show rK .sub w f g=0 from rfl,yCa] at hi;cases hi
 |mul=>
   have hi':(2^min w (lr f.N+lr g.N)-1)[i]! =true:=hi;rw[dW,decide_eq_true_eq] at hi';let(c,hc):=@aII (lr f.N) a λ i hi=>h1.1 i (aAI hi)
   let(e,he):=@aII (lr g.N) b λ i hi=>h2.1 i (aAI hi)
   have ex:dF (Sw.mul.oc (a:Nat) (b:Nat)) w=a*b%2^w:=by
    have:=oO (Sw.mul.oc (a:Nat) (b:Nat)) w;have e2:Sw.mul.oc (a:Nat) (b:Nat)=((a*b:Nat):Int):=(yGc a b).symm;rw[e2,<- yFj] at this;rw[e2];omega
   rw[ex,yBn,dqT (),yBd];have:a*b=c*e*2^(lr f.N+lr g.N):=by
    rw[hc,he,Nat.pow_add];simp only[yHq,Nat.mul_left_comm,Nat.mul_assoc]
   rw[this,zX,dqF (),yCe]
def aDz(hn:n<2^w)(ha:a<=w):((∀ i,w-a<=i->i<w->n[i]! =true)\/(∀ i,w-a<=i->i<w->n[i]! =false)) ↔ 2^w-2^(w-a)<=n\/n<2^(w-a):=by
 have hp:=xAe (w-a);have e1:(2:Nat)^w=2^a*2^(w-a):=by rw[<- Nat.pow_add,show a+(w-a)=w by omega]
 have hpa:=xAe a;rw[<- aQ1 hn ha,<- aQm hn ha];have q0:n/2^(w-a)=0 ↔ n<2^(w-a):=by
  rw[Nat.div_eq_zero_iff];omega
 have q1:n/2^(w-a)=2^a-1 ↔ 2^w-2^(w-a)<=n:=by
  have es:(2^a-1)*2^(w-a)=2^w-2^(w-a):=by rw[Nat.sub_mul,Nat.one_mul,<- e1]
  constructor
  .intro h;have:=Nat.div_mul_le_self n (2^(w-a));rw[h,es] at this;exact this
  .intro h;have g1:2^a-1<=n/2^(w-a):=by
    rw[Nat.le_div_iff_mul_le hp,es];exact h
   have g2:n/2^(w-a)<2^a:=by
    rw[yGq hp,<- e1];exact hn
   omega
 rw[q0,q1]
def lB(s:Sw)(f g:Ft):Nat:=match s with|.mul=>1|_=>max 1 (min f.A g.A-1)
def vI{n:Nat}(ha:m<=a)(h:(∀ i,w-a<=i->i<w->n[i]! =true)\/(∀ i,w-a<=i->i<w->n[i]! =false)):(∀ i,w-m<=i->i<w->n[i]! =true)\/(∀ i,w-m<=i->i<w->n[i]! =false):=by
 rcases h with h|h
 .exact .inl λ i a b=>h i (xAh (yEm ha _) a) b
 .exact .inr λ i a b=>h i (xAh (yEm ha _) a) b
def lU(n w:Nat):(∀ i,w-1<=i->i<w->n[i]! =true)\/(∀ i,w-1<=i->i<w->n[i]! =false):=by
 cases c:n[(w-1)]! with
 |true=>exact .inl λ i h1 h2=>by rw[show i=w-1 by omega];exact c|false=>exact .inr λ i h1 h2=>by rw[show i=w-1 by omega];exact c
def aKA{W:Nat}(ha:a<W)(h:W-T<=a\/a<T)(hT:T<=W):∃ x k:Int,((a:Nat):Int)=x+k*((W:Nat):Int) /\ -((T:Nat):Int)<=x/\x<((T:Nat):Int):=by
 rcases h with h|h
 .exact((a:Int)-W,1,by omega,by omega,by omega,)
 .exact((a:Int),0,by omega,by omega,by omega,)
def aTA{x W T r k:Int}(h:r=x+k*W)(h1 : -(2*T)<=x)(h2:x<2*T)(hT:2*T<=W)(r0:0<=r)(rW:r<W):W-2*T<=r\/r<2*T:=by
 rcases (show k <= -1\/k=0\/k=1\/2<=k by omega) with c|rfl|rfl|c
 .have:k*W<=(-1)*W:=yGr c ();omega
 .exact .inr ()
 .exact .inl ()
 .have:2*W<=k*W:=yGr c ();omega
def aVO{x y k l W z:Int}:(x+k*W+(y+l*W))-W*z=x+y+(k+l-z)*W:=by rw[Int.sub_mul,Int.add_mul,Int.mul_comm W z];omega
def aWr{x y k l W z:Int}:(x+k*W-(y+l*W))-W*z=x-y+(k-l-z)*W:=by rw[Int.sub_mul,Int.sub_mul,Int.mul_comm W z];omega
def bAu(c:lB s f g≠1):(lB s f g=min f.A g.A-1/\2<=min f.A g.A-1)/\s≠.mul:=by
 cases s with
 |mul=>exact absurd rfl c
 |add=>
   have e:lB .add f g=max 1 (min f.A g.A-1):=rfl;exact⟨by omega,λ h=>nomatch h⟩
 |sub=>
   have e:lB .sub f g=max 1 (min f.A g.A-1):=rfl;exact⟨by omega,λ h=>nomatch h⟩
def aTs(s:Sw)(kf:FtOk f w)(kg:FtOk g w)(ha:a<2^w)(hb:b<2^w)(h1:Hd f a w)(h2:Hd g b w) :
 (∀ i,w-lB s f g<=i->i<w->(dF (s.oc (a:Nat) (b:Nat)) w)[i]! =true)\/(∀ i,w-lB s f g<=i->i<w->(dF (s.oc (a:Nat) (b:Nat)) w)[i]! =false):=by
 by_cases c:lB s f g=1
 .rw[c];exact lU _ _
 .have hw:=kf.aw;let((hA,hm),hs):=bAu c;have g1:min f.A g.A<=f.A:=yCn ..;have g2:min f.A g.A<=g.A:=yEo ..;rw[hA];generalize min f.A g.A=m at *;have hmw:m<=w:=xAh g1 hw;rw[aDz (wK _ _) (xAh (yGl m 1) hmw)];have a1:=(aDz ha hmw).mp (vI g1 h1.2.2);have a2:=(aDz hb hmw).mp (vI g2 h2.2.2);have e:(2:Nat)^(w-(m-1))=2*2^(w-m):=by
   rw[show w-(m-1)=w-m+1 by omega,yFr,yHq]
  have hT:2*2^(w-m)<=2^w:=by
   rw[<- e];exact yAw (·) (yGl ..)
  rw[e];have hT1:2^(w-m)<=2^w:=yAw (·) (yGl ..);let(x,k,e1,x1,x2):=aKA ha a1 hT1;let(y,l,e2,y1,y2):=aKA hb a2 hT1;have hr:=oO (s.oc (a:Nat) (b:Nat)) w;have hl:=wK (s.oc (a:Nat) (b:Nat)) w;rw[Int.emod_def] at hr;generalize dF (s.oc (a:Nat) (b:Nat)) w=r at *;generalize s.oc (a:Nat) (b:Nat)/((2^w:Nat):Int)=z at *;generalize (2:Nat)^w=W at *;generalize (2:Nat)^(w-m)=T at *;clear a1 a2 h1 h2 e g1 g2 hmw hw hm hA c;have cG:∀ {x k:Int},(r:Int)=x+k*(W:Int) -> -(2*(T:Int))<=x->x<2*(T:Int)->W-2*T<=r\/r<2*T:=λ q1 q2 q3=>by
   rcases aTA q1 q2 q3 () () () with q|q
   .exact .inl ()
   .exact .inr ()
  cases s with
  |mul=>exact absurd rfl hs
  |add=>
    have hk:(r:Int)=(a:Int)+(b:Int)-(W:Int)*z:=hr;rw[e1,e2,aVO] at hk;exact cG hk () ()
  |sub=>
    have hk:(r:Int)=(a:Int)-(b:Int)-(W:Int)*z:=hr;rw[e1,e2,aWr] at hk;exact cG hk () ()
def xU(s:Sw)(w:Nat)(f g:Ft):Ft:=(tT s f g|||rL s w f g|||rK s w f g,kR s f g|||rJ s w f g,lB s f g,)
def aQu(s:Sw)(kf:FtOk f w)(kg:FtOk g w)(ha:a<2^w)(hb:b<2^w)(h1:Hd f a w)(h2:Hd g b w):Hd (xU s w f g) (dF (s.oc (a:Nat) (b:Nat)) w) w:=by
 let(t1,t2,_,_):=aHF s kf kg ha hb h1 h2;refine(λ i hi=>?_,λ i hi=>?_,aTs s kf kg ha hb h1 h2,)
 .have hi':(tT s f g|||rL s w f g|||rK s w f g)[i]! =true:=hi;rw[xAp,xAp,yEf,yEf] at hi';rcases hi' with (q|q)|q
  .let(q1,q2):=aQG q;rw[aHH s kf h1 h2 q1,q2]
  .exact t1 i q
  .exact aR0 s h1 h2 i q
 .have hi':(kR s f g|||rJ s w f g)[i]! =true:=hi;rw[xAp,yEf] at hi';rcases hi' with q|q
  .rw[aHH s kf h1 h2 (aQw q),q]
  .exact t2 i q
def aCK(h:n<2^v)(hv:v<=w):n<2^w:=xAb h (yAw (·) hv)
def aU5(s:Sw)(kf:FtOk f w)(kg:FtOk g w)(ha:a<2^w)(hb:b<2^w)(h1:Hd f a w)(h2:Hd g b w):FtOk (xU s w f g) w:=by
 let(_,_,t3,t4):=aHF s kf kg ha hb h1 h2;have hL:=aDv (g:=g) kf;have hO:kR s f g<2^gJ f g:=wK _ _;have hN:tT s f g<2^gJ f g:=yEr (by have:=xAe (gJ f g);omega) hO;have hl:rK s w f g<2^w:=by
  have:=xAe w;cases s with
  |add=>exact this|sub=>exact this|mul=>exact aCK (v:=min w (lr f.N+lr g.N)) (by show 2^min w (lr f.N+lr g.N)-1<_;have:=xAe (min w (lr f.N+lr g.N));omega) ()
 have q1:=kf.aw;have q2:=kf.a1;refine(yBj (yBj (aCK hN hL) t3) hl,yBj (aCK hO hL) t4,?_,?_,)
 .show 1<=lB s f g;cases s with|mul=>exact yAb 1|add=>exact yDn _ _|sub=>exact yDn _ _
 .show lB s f g<=w;cases s with|mul=>show 1<=w;omega|add=>exact Nat.max_le.mpr (xAh q2 q1,xAh (yGl _ _) (xAh (yCn _ _) q1),)|sub=>exact Nat.max_le.mpr (xAh q2 q1,xAh (yGl _ _) (xAh (yCn _ _) q1),)
def F1:Ft:=(0,1,1,)
def F0:Ft:=(1,0,1,)
def jX:Ft:=(0,0,1,)
def l3(a b c e:Int):Ft:=if b<c then F1 else if e<=a then F0 else jX
def aMM(a b c e:Int):l3 a b c e=F1\/l3 a b c e=F0\/l3 a b c e=jX:=by
 unfold l3;split
 .exact .inl rfl
 .split
  .exact .inr (.inl rfl)
  .exact .inr (.inr rfl)
def aDg(h:r<2^k):r^^^2^k=r+2^k:=by
 apply xAl;intro i;have e:r+2^k=r+1*2^k:=();rw[e,aGo h,xAo,yFk];by_cases c:i<k
 .rw[if_pos c,dqF (),Bool.xor_false]
 .rw[if_neg c,dM h (),Bool.false_xor];by_cases c2:k=i
  .subst c2;rw[dqT rfl,yBe];rfl
  .rw[dqF c2];have:1<2^(i-k):=Nat.one_lt_two_pow ();rw[dM this (yAb _)]
def aHt(h1:2^k<=n)(h2:n<2^(k+1)):n^^^2^k=n-2^k:=by
 have hr:n-2^k<2^k:=by rw[yFr] at h2;omega
 have e:(n-2^k)^^^2^k=n:=by rw[aDg hr];omega
 calc n^^^2^k=((n-2^k)^^^2^k)^^^2^k:=by rw[e]
  _=n-2^k:=by rw[Nat.xor_assoc,Nat.xor_self,Nat.xor_zero]
def aLV(h:n<2^w)(hw:0<w):n[(w-1)]! =decide (2^(w-1)<=n):=by
 have hb:=aTJ h hw;have hp:=xAe (w-1);cases c:n[(w-1)]! with
 |true=>
   rw[c] at hb;have:2^(w-1)<=n:=by
    by_cases q:n<2^(w-1)
    .rw[yGs q] at hb;exact absurd hb (·)
    .omega
   rw[dqT this]
 |false=>
   rw[c] at hb;have:¬ 2^(w-1)<=n:=λ q=>by
    have h3:=Nat.div_pos q hp;rw[hb] at h3;exact absurd h3 (·)
   rw[dqF this]
def tt(f:Ft)(w:Nat):Ft:=(f.N^^^((f.N^^^f.O)&&&dO 1 w),f.O^^^((f.N^^^f.O)&&&dO 1 w),f.A,)
def aQa(hw:1<=w):(dO 1 w)[i]! =decide (w-1=i):=by
 rw[oH];by_cases c:w-1=i
 .rw[dqT c,dqT (),dqT ()];rfl
 .rw[dqF c];by_cases c2:w-1<=i
  .rw[dqF (show ¬ i<w by omega),yCu]
  .rw[dqF c2,yCe]
def aQ3(k:FtOk f w)(hd:f.N&&&f.O=0)(hw:1<=w) :
 (f.N<2^(w-1)/\f.O<2^(w-1)/\(tt f w).N=f.N/\(tt f w).O=f.O)\/(f.N<2^(w-1)/\2^(w-1)<=f.O/\(tt f w).N=f.N+2^(w-1)/\(tt f w).O=f.O-2^(w-1))\/(2^(w-1)<=f.N/\f.O<2^(w-1)/\(tt f w).N=f.N-2^(w-1)/\(tt f w).O=f.O+2^(w-1)):=by
 have hN:=aLV k.lN (show 0<w by omega);have hO:=aLV k.lO (show 0<w by omega);have lN:=k.lN;have lO:=k.lO;have e:w-1+1=w:=();have tb:∀ b:Bool,(f.N[(w-1)]! ^^ f.O[(w-1)]!)=b->(f.N^^^f.O)&&&dO 1 w=if b=true then 2^(w-1) else 0:=λ b hb=>by
  apply xAl;intro i;rw[yAk,aQa hw,xAo];by_cases c:w-1=i
  .subst c;rw[hb,dqT rfl,yCg];cases b
   .simp
   .simp
  .rw[dqF c,yCu];cases b
   .simp
   .rw[if_pos rfl,yFk,dqF c]
 by_cases c1:2^(w-1)<=f.N
 .by_cases c2:2^(w-1)<=f.O
  .exfalso;have:=(oI _).mp hd (w-1);rw[yAk,hN,hO,dqT c1,dqT c2] at this;cases this
  .refine .inr (.inr (c1,by omega,?_,?_,))
   .show f.N^^^_=_;rw[tb true (by rw[hN,hO,dqT c1,dqF c2];rfl),if_pos rfl,aHt c1 (by rw[e];exact lN)]
   .show f.O^^^_=_;rw[tb true (by rw[hN,hO,dqT c1,dqF c2];rfl),if_pos rfl,aDg ()]
 .by_cases c2:2^(w-1)<=f.O
  .refine .inr (.inl (by omega,c2,?_,?_,))
   .show f.N^^^_=_;rw[tb true (by rw[hN,hO,dqT c2,dqF c1];rfl),if_pos rfl,aDg ()]
   .show f.O^^^_=_;rw[tb true (by rw[hN,hO,dqT c2,dqF c1];rfl),if_pos rfl,aHt c2 (by rw[e];exact lO)]
  .refine .inl (by omega,by omega,?_,?_,)
   .show f.N^^^_=_;rw[tb false (by rw[hN,hO,dqF c2,dqF c1];rfl),if_neg (·),Nat.xor_zero]
   .show f.O^^^_=_;rw[tb false (by rw[hN,hO,dqF c2,dqF c1];rfl),if_neg (·),Nat.xor_zero]
def aL2(k:FtOk f w)(hd:f.N&&&f.O=0)(hw:1<=w):(tt f w).N<2^w:=by
 have h2:(2:Nat)^w=2^(w-1)+2^(w-1):=by
  have:(2:Nat)^(w-1+1)=2^(w-1)*2:=yFr ..;rw[show w-1+1=w by omega] at this;omega
 have lN:=k.lN;rcases aQ3 k hd hw with ⟨_,_,h,_⟩|⟨_,_,h,_⟩|⟨_,_,h,_⟩<;>rw[h]<;>omega
def rP(w:Nat)(f g:Ft):Ft:=if f.N&&&g.O|||f.O&&&g.N≠0 then F0 else if (f.N|||f.O)&&&(g.N|||g.O)=2^w-1 then F1 else jX
def aYK(w:Nat)(f g:Ft):rP w f g=F1\/rP w f g=F0\/rP w f g=jX:=by
 unfold rP;split
 .exact .inr (.inl rfl)
 .split
  .exact .inl rfl
  .exact .inr (.inr rfl)
def pJ(t f g:Ft):Ft:=if t.O=1 then f else if t.N=1 then g else (f.N&&&g.N,f.O&&&g.O,min f.A g.A,)
def aXU(hf:FtOk f w)(hg:FtOk g w):FtOk (pJ t f g) w:=by
 unfold pJ;split
 .exact hf
 .split
  .exact hg
  .have h1:=hf.a1;have h2:=hg.a1;have h3:=hf.aw;exact(xAi yDm hf.lN,xAi yDm hf.lO,by show 1<=min f.A g.A;omega,by show min f.A g.A<=w;omega,)
def Al(n w a:Nat):Prop:=(∀ i,w-a<=i->i<w->n[i]! =true)\/(∀ i,w-a<=i->i<w->n[i]! =false)
def oY{f:Ft}(hd:f.N&&&f.O=0)(h:Hd f a w)(j:Nat):(dE f j=0->a[j]! =false)/\(dE f j=1->a[j]! =true):=by
 refine(λ e=>h.1 j ?_,λ e=>h.2.1 j ?_,)
 .rw[<- gR hd j,beq_iff_eq];exact e
 .rw[<- gQ hd j,beq_iff_eq];exact e
def oK{t:Nat->Nat}{z:Nat}(m:Mk t n g)(hz:∀ i,i<n->(t i=0->z[i]! =false)/\(t i=1->z[i]! =true))(ha:Al z n g.A):Hd g z n:=by
 have hl:∀ {x:Nat},x<2^n->∀ i,x[i]! =true->i<n:=λ {x} hx i hi=>by
  by_cases c:i<n
  .exact c
  .rw[dM hx ()] at hi;cases hi
 refine(λ i hi=>?_,λ i hi=>?_,ha,)
 .have c:=hl m.lN i hi;rw[m.b0 i c,beq_iff_eq] at hi;exact(hz i c).1 hi
 .have c:=hl m.lO i hi;rw[m.b1 i c,beq_iff_eq] at hi;exact(hz i c).2 hi
def aWB(n w:Nat):dF ((n:Nat):Int) w=n%2^w:=by have:=oO ((n:Nat):Int) w;rw[<- yFj] at this;omega
section
variable {f:Ft}{a w:Nat}(hf:FtOk f w)(hd:f.N&&&f.O=0)(ha:a<2 ^ w)(h:Hd f a w)
include hf hd ha h
theorem aQz:Hd (f.O,f.N,f.A,) (2^w-1-a) w:=by
 refine oK (aWF hf hd) (λ i hi=>?_) ?_
 .rw[aAQ ha hi];refine(λ e=>?_,λ e=>?_,)
  .have:f.O[i]! =true:=by rw[<- aMB hd i,beq_iff_eq];exact e
   rw[h.2.1 i this];rfl
  .have:f.N[i]! =true:=by rw[<- aMT hd i,beq_iff_eq];exact e
   rw[h.1 i this];rfl
 .rcases h.2.2 with q|q
  .exact .inr λ i h1 h2=>by rw[aAQ ha h2,q i h1 h2];rfl
  .exact .inl λ i h1 h2=>by rw[aAQ ha h2,q i h1 h2];rfl
theorem aPU(k:Nat):Hd (wN w f k) (a*2^k%2^w) w:=by
 have hb:∀ i,i<w->(a*2^k%2^w)[i]! =(decide (k<=i)&&a[(i-k)]!):=λ i hi=>by
  rw[yBn,dqT hi,yBd,zX]
 refine oK (aJd k hd) (λ i hi=>?_) ?_
 .rw[hb i hi];unfold aBn;by_cases c:i<k
  .rw[if_pos c,dqF (),yCe];exact⟨λ _=>rfl,λ e=>nomatch e⟩
  .rw[if_neg c,dqT (),yBd];exact oY hd h (i-k)
 .show Al _ w (max 1 (f.A-k));by_cases c:f.A-k<=1
  .rw[Nat.max_eq_left c];exact lU _ _
  .rw[Nat.max_eq_right ()];have:=hf.aw;rcases h.2.2 with q|q
   .exact .inl λ i h1 h2=>by rw[hb i h2,dqT (),yBd];exact q _ () ()
   .exact .inr λ i h1 h2=>by rw[hb i h2,dqT (),yBd];exact q _ () ()
theorem aO3(k:Nat):Hd (mV w f k) (a/2^k) w:=by
 refine oK (aIi k hf hd) (λ i hi=>?_) ?_
 .rw[iX];unfold aAV;by_cases c:i+k<w
  .rw[if_pos c,yDr k i];exact oY hd h (i+k)
  .rw[if_neg c,dM ha ()];exact⟨λ _=>rfl,λ e=>nomatch e⟩
 .show Al _ w (if k=0 then f.A else 1);by_cases c:k=0
  .subst c;rw[if_pos rfl,Nat.pow_zero,Nat.div_one];exact h.2.2
  .rw[if_neg c];exact lU _ _
theorem aOO(hw:1<=w)(k:Nat):Hd (vO w f k) (fF a w (w+k)/2^k) w:=by
 have hb:∀ i,i<w->(fF a w (w+k)/2^k)[i]! =a[(min (i+k) (w-1))]!:=λ i hi=>by
  rw[iX,sD ha hw () (),yDr]
 refine oK (aIm k hw hf hd) (λ i hi=>?_) ?_
 .rw[hb i hi];exact oY hd h _
 .have h1:=hf.a1;show Al _ w (min w (f.A+k));rcases h.2.2 with q|q
  .exact .inl λ i h1 h2=>by rw[hb i h2];exact q _ () ()
  .exact .inr λ i h1 h2=>by rw[hb i h2];exact q _ () ()
theorem aQk(hv:v<=w):Hd (yJ w v f) (a%2^v) v:=by
 have hb:∀ i,i<v->(a%2^v)[i]! =a[i]!:=λ i hi=>by rw[yBn,dqT hi,yBd]
 refine oK (aKf w v hd) (λ i hi=>?_) ?_
 .rw[hb i hi];exact oY hd h _
 .have h1:=hf.aw;show Al _ v (max 1 (f.A-(w-v)));by_cases c:f.A-(w-v)<=1
  .rw[Nat.max_eq_left c];exact lU _ _
  .rw[Nat.max_eq_right ()];rcases h.2.2 with q|q
   .exact .inl λ i h1 h2=>by rw[hb i h2];exact q _ () ()
   .exact .inr λ i h1 h2=>by rw[hb i h2];exact q _ () ()
theorem aPe(hv:w<=v):Hd (nG w v f) a v:=by
 refine oK (aIX hv hf hd) (λ i hi=>?_) ?_
 .unfold aBo;by_cases c:i<w
  .rw[if_pos c];exact oY hd h i
  .rw[if_neg c,dM ha ()];exact⟨λ _=>rfl,λ e=>nomatch e⟩
 .show Al _ v (if v=w then f.A else 1);by_cases c:v=w
  .subst c;rw[if_pos rfl];exact h.2.2
  .rw[if_neg c];exact lU _ _
theorem aPT(hw:1<=w)(hv:w<=v):Hd (wH w v f) (fF a w v) v:=by
 have hb:∀ i,i<v->(fF a w v)[i]! =a[(min i (w-1))]!:=λ i hi=>sD ha hw hv hi
 refine oK (aI6 hw hv hf hd) (λ i hi=>?_) ?_
 .rw[hb i hi];exact oY hd h _
 .have h1:=hf.a1;show Al _ v (f.A+(v-w));rcases h.2.2 with q|q
  .exact .inl λ i h1 h2=>by rw[hb i h2];exact q _ () ()
  .exact .inr λ i h1 h2=>by rw[hb i h2];exact q _ () ()
end
def bwv(b:Nat)(x y:Nat):Nat:=match b with|0=>x&&&y|1=>x|||y|_=>x^^^y
def bwB(b:Nat)(x y:Bool):Bool:=match b with|0=>x&&y|1=>x||y|_=>x ^^ y
def aDm(hb:b=0\/b=1\/b=2)(x y i:Nat):(bwv b x y)[i]! =bwB b (x[i]!) (y[i]!):=by
 erw[50,hb]
 .exact yAk ..
 .exact xAp ..
 .exact xAo ..
def aU6:∀ (b p q:Fin 3) (x y:Bool),(p.1=0->x=false)/\(p.1=1->x=true)->(q.1=0->y=false)/\(q.1=1->y=true)->(btN b.1 p.1 q.1=0->bwB b.1 x y=false)/\(btN b.1 p.1 q.1=1->bwB b.1 x y=true):=by decide
def aSt(hb:b=0\/b=1\/b=2)(hf:FtOk f w)(hd:f.N&&&f.O=0)(h:Hd f x w)(hg:FtOk g w)(he:g.N&&&g.O=0)(h':Hd g y w):Hd (uE b f g) (bwv b x y) w:=by
 refine oK (aL5 b hb hf hd hg he) (λ i hi=>?_) ?_
 .rw[aDm hb];exact aU6 (b,by omega,) (_,vX f i,) (_,vX g i,) _ _ (oY hd h i) (oY he h' i)
 .have hA:(uE b f g).A=min f.A g.A:=by erw[50,hb]<;>rfl
  rw[hA];have q1:Al x w (min f.A g.A):=vI () h.2.2;have q2:Al y w (min f.A g.A):=vI () h'.2.2;have go:∀ (p q:Bool),(∀ i,w-min f.A g.A<=i->i<w->x[i]! =p)->(∀ i,w-min f.A g.A<=i->i<w->y[i]! =q)->Al (bwv b x y) w (min f.A g.A):=λ p q hp hq=>by
   cases c:bwB b p q with
   |true=>exact .inl λ i h1 h2=>by rw[aDm hb,hp i h1 h2,hq i h1 h2,c]|false=>exact .inr λ i h1 h2=>by rw[aDm hb,hp i h1 h2,hq i h1 h2,c]
  rcases q1 with q1|q1<;>rcases q2 with q2|q2
  .exact go _ _ q1 q2
  .exact go _ _ q1 q2
  .exact go _ _ q1 q2
  .exact go _ _ q1 q2
def sG{i:Nat}{p:Prop}(h:(0:Nat)[i]! =true):p:=by rw[yCa] at h;cases h
def aRL:Hd F1 1 1:=(λ i h=>sG h,λ i h=>h,lU _ _,)
def aSV:Hd F0 0 1:=(λ i h=>yCa i,λ i h=>sG h,lU _ _,)
def aRC(z:Nat):Hd jX z 1:=(λ i h=>sG h,λ i h=>sG h,lU _ _,)
def aPm(ht:Hd t c 1)(hc:c<2)(h1:Hd f a w)(h2:Hd g b w):Hd (pJ t f g) (if c=1 then a else b) w:=by
 unfold pJ;by_cases c1:t.O=1
 .have:c=1:=by
   have:=ht.2.1 0 (by rw[c1];rfl);rcases (show c=0\/c=1 by omega) with rfl|rfl
   .cases this
   .rfl
  rw[if_pos c1,if_pos this];exact h1
 .rw[if_neg c1];by_cases c2:t.N=1
  .have:c=0:=by
    have:=ht.1 0 (by rw[c2];rfl);rcases (show c=0\/c=1 by omega) with rfl|rfl
    .rfl
    .cases this
   rw[if_pos c2,if_neg ()];exact h2
  .rw[if_neg c2];have go:∀ {z:Nat}{h:Ft},Hd h z w->(∀ i,(f.N&&&g.N)[i]! =true->h.N[i]! =true)->(∀ i,(f.O&&&g.O)[i]! =true->h.O[i]! =true)->min f.A g.A<=h.A->Hd ⟨f.N&&&g.N,f.O&&&g.O,min f.A g.A⟩ z w:=λ {z h} q q1 q2 q3=>
    (λ i hi=>q.1 i (q1 i hi),λ i hi=>q.2.1 i (q2 i hi),vI q3 q.2.2,)
   have an:∀ {x y:Nat} i,(x&&&y)[i]! =true->x[i]! =true/\y[i]! =true:=λ i hi=>by
    rw[yAk,yAs] at hi;exact hi
   split
   .exact go h1 (λ i hi=>(an i hi).1) (λ i hi=>(an i hi).1) ()
   .exact go h2 (λ i hi=>(an i hi).2) (λ i hi=>(an i hi).2) ()
def aL4(a b:D):bD (.tuple [a,b]) (.int 0)=qz a:=rfl
def aYp(a b:D):bD (.tuple [a,b]) (.int 1)=qz b:=rfl
def aSL(a:Wd):aV .In (.str a.s) (.tuple [.str "add",.str "sub",.str "mul"])=qz (.bool (decide (a=.add\/a=.sub\/a=.mul))):=by cases a<;>rfl
def aXG(a:Wd):aV .In (.str a.s) (.tuple [.str "and",.str "or",.str "xor"])=qz (.bool (decide (a=.and\/a=.or\/a=.xor))):=by cases a<;>rfl
def fV{j:Int}(h:env[i]?=qz (qz (.d R)))(e:bD R (.int j)=qz x):ev C (.ix (.var i) (.int j)) env S=qz (.d x,S):=by erw[0,h,e]
noncomputable abbrev oe(R Wi Fs:D)(wd:Wd)(v:Int):aX:=[qz (.d R),qz (.d Wi),qz (.d Fs),qz (.d (.str wd.s)),(v:)]
section
variable (C:Calls)(R Wi Fs:D)(v:Int)(S:aC)(wd:Wd)
theorem nP:tv C (.cmp .Eq (.var 3) (.str "in")) (oe R Wi Fs wd v) S=qz (decide (wd=.in),S):=dS rfl (cD wd .in)
theorem oU:tv C (.cmp .Eq (.var 3) (.str "num")) (oe R Wi Fs wd v) S=qz (decide (wd=.num),S):=dS rfl (cD wd .num)
theorem qR:tv C (.cmp .Eq (.var 3) (.str "not")) (oe R Wi Fs wd v) S=qz (decide (wd=.not),S):=dS rfl (cD wd .not)
theorem aDC:tv C (.cmp .Eq (.var 3) (.str "pick")) (oe R Wi Fs wd v) S=qz (decide (wd=.pick),S):=dS rfl (cD wd .pick)
theorem sR:tv C (.cmp .In (.var 3) (.con "SUMS" aD2)) (oe R Wi Fs wd v) S=qz (decide (wd=.add\/wd=.sub\/wd=.mul),S):=jB rfl rfl (aSL wd)
theorem uR:tv C (.cmp .In (.var 3) (.con "SHIFTS" uY)) (oe R Wi Fs wd v) S=qz (decide (wd=.left\/wd=.right\/wd=.slide),S):=jB rfl rfl (aC0 wd)
theorem aAM:tv C (.cmp .In (.var 3) (.con "COMPARES" oF)) (oe R Wi Fs wd v) S=qz (decide (wd=.same\/wd=.less\/wd=.under),S):=jB rfl rfl (aAF wd)
theorem aNa:tv C (.cmp .In (.var 3) (.tup (.cons (.str "and") (.cons (.str "or") (.cons (.str "xor") .nil))))) (oe R Wi Fs wd v) S=qz (decide (wd=.and\/wd=.or\/wd=.xor),S):=jB rfl rfl (aXG wd)
end
def aUY{wd:Wd}(h:wd=.cut\/wd=.wide\/wd=.sign):¬ wd=.in/\¬ wd=.num/\¬ wd=.not/\¬ (wd=.add\/wd=.sub\/wd=.mul)/\¬ (wd=.left\/wd=.right\/wd=.slide)/\¬ (wd=.same\/wd=.less\/wd=.under)/\¬ wd=.pick/\¬ (wd=.and\/wd=.or\/wd=.xor):=by erw[50,h]<;>decide
def aXu{wd:Wd}(h:wd=.and\/wd=.or\/wd=.xor):¬ wd=.in/\¬ wd=.num/\¬ wd=.not/\¬ (wd=.add\/wd=.sub\/wd=.mul)/\¬ (wd=.left\/wd=.right\/wd=.slide)/\¬ (wd=.same\/wd=.less\/wd=.under)/\¬ wd=.pick:=by erw[50,h]<;>decide
def aXt{wd:Wd}(h:wd=.left\/wd=.right\/wd=.slide):¬ wd=.in/\¬ wd=.num/\¬ wd=.not/\¬ (wd=.add\/wd=.sub\/wd=.mul):=by erw[50,h]<;>decide
section
variable (d:Nat)(R Wi Fs:D)(v:Int)(S:aC)
theorem aRd(f:Ft)(e0:bD R (.int 0)=qz (.str "not"))(e1:bD R (.int 1)=qz (.int v))(ef:bD Fs (.int 0)=qz f.d):cl fns (d+1) 46 [.d R,.d Wi,.d Fs] S=qz (.d (Ft.mk f.O f.N f.A).d,S):=by have t1:=nP (aF fns d) R Wi Fs v S .not;have t2:=oU (aF fns d) R Wi Fs v S .not;have t3:=qR (aF fns d) R Wi Fs v S .not;refine eK (S1:=S) rfl d rfl rfl yAj (bP (S1:=S) (w:=.d (.str Wd.not.s)) (fV rfl e0) rfl (bP (S1:=S) (w:=.d (.int v)) (fV rfl e1) rfl (bE t1 (bE t2 (cC t3 (bH ?_))))));erw[0,ef,hZ,iK,jO]
theorem aO2(wd:Wd)(bC:wd=.left\/wd=.right\/wd=.slide)(f:Ft)(k:Nat)(g:D)(e0:bD R (.int 0)=qz (.str wd.s))(e1:bD R (.int 1)=qz (.int v))(e3:bD R (.int 3)=qz (.int k))(ef:bD Fs (.int 0)=qz f.d)(hk:cl fns d 39 [.d (.str wd.s),.d (.int v),.d f.d,.d (.int k)] S=qz (.d g,S)):cl fns (d+1) 46 [.d R,.d Wi,.d Fs] S=qz (.d g,S):=by have t1:=nP (aF fns d) R Wi Fs v S wd;have t2:=oU (aF fns d) R Wi Fs v S wd;have t3:=qR (aF fns d) R Wi Fs v S wd;have t4:=sR (aF fns d) R Wi Fs v S wd;have t5:=uR (aF fns d) R Wi Fs v S wd;rw[dqT bC] at t5;let(n1,n2,n3,n4):=aXt bC;rw[dqF n1] at t1;rw[dqF n2] at t2;rw[dqF n3] at t3;rw[dqF n4] at t4;refine eK (S1:=S) rfl d rfl rfl yAj (bP (S1:=S) (w:=.d (.str wd.s)) (fV rfl e0) rfl (bP (S1:=S) (w:=.d (.int v)) (fV rfl e1) rfl (bE t1 (bE t2 (bE t3 (bE t4 (cC t5 (bH ?_))))))));erw[0,ef,e3,hk]
theorem aTP(wd:Wd)(bC:wd=.and\/wd=.or\/wd=.xor)(f g:Ft)(e0:bD R (.int 0)=qz (.str wd.s))(e1:bD R (.int 1)=qz (.int v))(ef:bD Fs (.int 0)=qz f.d)(eg:bD Fs (.int 1)=qz g.d):cl fns (d+3) 46 [.d R,.d Wi,.d Fs] S=qz (.d (bwN wd f g).d,S):=by have t1:=nP (d<$>2) R Wi Fs v S wd;have t2:=oU (d<$>2) R Wi Fs v S wd;have t3:=qR (d<$>2) R Wi Fs v S wd;have t4:=sR (d<$>2) R Wi Fs v S wd;have t5:=uR (d<$>2) R Wi Fs v S wd;have t6:=aAM (d<$>2) R Wi Fs v S wd;have t7:=aDC (d<$>2) R Wi Fs v S wd;have t8:=aNa (d<$>2) R Wi Fs v S wd;rw[dqT bC] at t8;let(n1,n2,n3,n4,n5,n6,n7):=aXu bC;rw[dqF n1] at t1;rw[dqF n2] at t2;rw[dqF n3] at t3;rw[dqF n4] at t4;rw[dqF n5] at t5;rw[dqF n6] at t6;rw[dqF n7] at t7;refine eK (S1:=S) rfl (d+2) rfl rfl yAj (bP (S1:=S) (w:=.d (.str wd.s)) (fV rfl e0) rfl (bP (S1:=S) (w:=.d (.int v)) (fV rfl e1) rfl (bE t1 (bE t2 (bE t3 (bE t4 (bE t5 (bE t6 (bE t7 (cC t8 (bH ?_)))))))))));erw[0,ef,eg,aOW d wd bC f g]
theorem aCO(wd:Wd)(bC:wd=.cut\/wd=.wide\/wd=.sign)(f:Ft)(w:Int)(g:D)(e0:bD R (.int 0)=qz (.str wd.s))(e1:bD R (.int 1)=qz (.int v))(ew:bD Wi (.int 0)=qz (.int w))(ef:bD Fs (.int 0)=qz f.d)(hk:cl fns d 40 [.d (.str wd.s),.d (.int w),.d (.int v),.d f.d] S=qz (.d g,S)):cl fns (d+1) 46 [.d R,.d Wi,.d Fs] S=qz (.d g,S):=by have t1:=nP (aF fns d) R Wi Fs v S wd;have t2:=oU (aF fns d) R Wi Fs v S wd;have t3:=qR (aF fns d) R Wi Fs v S wd;have t4:=sR (aF fns d) R Wi Fs v S wd;have t5:=uR (aF fns d) R Wi Fs v S wd;have t6:=aAM (aF fns d) R Wi Fs v S wd;have t7:=aDC (aF fns d) R Wi Fs v S wd;have t8:=aNa (aF fns d) R Wi Fs v S wd;let(n1,n2,n3,n4,n5,n6,n7,n8):=aUY bC;rw[dqF n1] at t1;rw[dqF n2] at t2;rw[dqF n3] at t3;rw[dqF n4] at t4;rw[dqF n5] at t5;rw[dqF n6] at t6;rw[dqF n7] at t7;rw[dqF n8] at t8;refine eK (S1:=S) rfl d rfl rfl yAj (bP (S1:=S) (w:=.d (.str wd.s)) (fV rfl e0) rfl (bP (S1:=S) (w:=.d (.int v)) (fV rfl e1) rfl (bE t1 (bE t2 (bE t3 (bE t4 (bE t5 (bE t6 (bE t7 (bE t8 (bH ?_)))))))))));erw[0,ew,ef,hk]
theorem aDa(n:Nat)(g:Ft)(e1:bD R (.int 1)=qz (.int n))(ho:cl fns (d+3) 46 [.d R,.d Wi,.d Fs] S=qz (.d g.d,S))(hg:FtOk g n)(hn:n<=64):cl fns (d+4) 47 [.d R,.d Wi,.d Fs] S=qz (.d (iC g n).d,S):=by rw[bO rfl (d+3) _ S rfl];erw[11,aK8,ho,e1,aP3 d g n hg hn]
end
def shN(wd:Wd)(w:Nat)(f:Ft)(k:Nat):Ft:=match wd with|.left=>wN w f k|.right=>mV w f k|_=>vO w f k
def aCU(d:Nat)(wd:Wd)(bC:wd=.left\/wd=.right\/wd=.slide)(w:Nat)(f:Ft)(k:Nat)(hf:FtOk f w)(cB:1<=w)(hw:w<=64)(hk:k<=900)(S:aC):cl fns (d+4) 39 [.d (.str wd.s),.d (.int w),.d f.d,.d (.int k)] S=qz (.d (shN wd w f k).d,S):=by
 have t1:=@dS [qz (.d (.str wd.s)),(w:),qz (.d f.d),(k:)] 0 _ "left" _ S (d<$>3) rfl (cD wd .left);have t2:=@dS [qz (.d (.str wd.s)),(w:),qz (.d f.d),(k:)] 0 _ "right" _ S (d<$>3) rfl (cD wd .right);erw[50,bC]
 .refine eK (S1:=S) rfl (d+3) rfl rfl yAj (cC t1 (bH ?_));have hq40:=aSW (d+1) w f k hf hw ();erw[0,hq40]
 .refine eK (S1:=S) rfl (d+3) rfl rfl yAj (bE t1 (cC t2 (bH ?_)));erw[0,aRi d w f k hw]
 .refine eK (S1:=S) rfl (d+3) rfl rfl yAj (bE t1 (bE t2 (bH ?_)));erw[0,aQP d w f k cB hw hk]
def aC1(d:Nat)(f:Ft)(S:aC):cl fns (d+1) 22 [.d f.d] S=qz (.d (.int ((f.N|||f.O:Nat):Int)),S):=by rw[bO rfl d _ S rfl];erw[11,aGg,hZ,iK,gB]
def pT(n:Nat):(((n:Nat):Int)==1)=(n==1):=by rw[yEe,beq_iff_eq,beq_iff_eq];omega
def aID(d w:Nat)(f g:Ft)(hf:f.N<2^w)(hg:g.N<2^w)(hw:w<=64)(S:aC):cl fns (d+3) 42 [.d (.int w),.d f.d,.d g.d] S=qz (.d (l3 (f.O:Nat) ((2^w-1-f.N:Nat):Int) (g.O:Nat) ((2^w-1-g.N:Nat):Int)).d,S):=by
 have g1:=zP d f w hf hw S;have g2:=zP d g w hg hw S;have l1:=vA (d+1) f S;have l2:=vA (d+1) g S;rw[bO rfl (d+2) _ S rfl];unfold l3;by_cases c1:((2^w-1-f.N:Nat):Int)<((g.O:Nat):Int)
 .rw[if_pos c1];erw[11,zT,g1,l2,fG,dqT c1,wY,Tv.d]
 .rw[if_neg c1];by_cases c2:((2^w-1-g.N:Nat):Int)<=((f.O:Nat):Int)
  .rw[if_pos c2];erw[11,zT,g1,l2,fG,dqF c1,l1,g2,aKe,dqT c2,uQ,Tv.d]
  .rw[if_neg c2];erw[11,zT,g1,l2,fG,dqF c1,l1,g2,aKe,dqF c2,rX,Tv.d]
def aAi(d w:Nat)(f:Ft)(cB:1<=w)(hw:w<=64)(S:aC):cl fns (d+3) 43 [.d f.d,.d (.int w)] S=qz (.d (tt f w).d,S):=by have t:cl fns (d+2) 21 [.d (.int 1),.d (.int w)] S=qz (.d (.int ((dO 1 w:Nat):Int)),S):=pU d 1 w S cB hw;rw[bO rfl (d+2) _ S rfl];erw[11,aGr,Ft.d,t,mS,dR]
def aSF(d w:Nat)(f g:Ft)(hw:w<=64)(S:aC):cl fns (d+3) 41 [.d (.int w),.d f.d,.d g.d] S=qz (.d (rP w f g).d,S):=by
 rw[bO rfl (d+2) _ S rfl];unfold rP;by_cases c1:f.N&&&g.O|||f.O&&&g.N=0
 .have d1:(f.N&&&g.O|||f.O&&&g.N==0)=true:=by rw[beq_iff_eq];exact c1
  rw[if_neg (by simp[c1])];by_cases c2:(f.N|||f.O)&&&(g.N|||g.O)=2^w-1
  .have d2:((f.N|||f.O)&&&(g.N|||g.O)==2^w-1)=true:=by rw[beq_iff_eq];exact c2
   rw[if_pos c2];have hq41:=dG (d+1) w ();erw[11,zQ,aAb (d+1),oR,dY,d1,aC1 (d+1),dR,hq41,cK,aAl,d2,wY,Tv.d]
  .have d2:((f.N|||f.O)&&&(g.N|||g.O)==2^w-1)=false:=by rw[beq_eq_false_iff_ne];exact c2
   rw[if_neg c2];have hq42:=dG (d+1) w ();erw[11,zQ,aAb (d+1),oR,dY,d1,aC1 (d+1),dR,hq42,cK,aAl,d2,rX,Tv.d]
 .have d1:(f.N&&&g.O|||f.O&&&g.N==0)=false:=by rw[beq_eq_false_iff_ne];exact c1
  rw[if_pos c1];erw[11,zQ,aAb (d+1),oR,dY,d1,uQ,Tv.d]
def aTa(d:Nat)(t f g:Ft)(S:aC):cl fns (d+1) 45 [.d t.d,.d f.d,.d g.d] S=qz (.d (pJ t f g).d,S):=by
 rw[bO rfl d _ S rfl];unfold pJ;by_cases c1:t.O=1
 .have d1:(t.O==1)=true:=by rw[beq_iff_eq];exact c1
  rw[if_pos c1];erw[11,zZ,iK,cK,pT,d1]
 .have d1:(t.O==1)=false:=by rw[beq_eq_false_iff_ne];exact c1
  rw[if_neg c1];by_cases c2:t.N=1
  .have d2:(t.N==1)=true:=by rw[beq_iff_eq];exact c2
   rw[if_pos c2];erw[11,zZ,iK,hZ,cK,pT,d1,d2]
  .have d2:(t.N==1)=false:=by rw[beq_eq_false_iff_ne];exact c2
   rw[if_neg c2];erw[11,zZ,iK,hZ,jO,cK,pT,d1,d2,dR,lE]
def nT(wd:Wd)(w:Nat)(f g:Ft):Ft:=match wd with|.same=>rP w f g|.less=>l3 (f.O:Nat) ((2^w-1-f.N:Nat):Int) (g.O:Nat) ((2^w-1-g.N:Nat):Int)|_=>l3 ((tt f w).O:Nat) ((2^w-1-(tt f w).N:Nat):Int) ((tt g w).O:Nat) ((2^w-1-(tt g w).N:Nat):Int)
def aMe(wd:Wd)(w:Nat)(f g:Ft):nT wd w f g=F1\/nT wd w f g=F0\/nT wd w f g=jX:=by
 unfold nT;split
 .exact aYK ..
 .exact aMM ..
 .exact aMM ..
structure Ftd(f:Ft)(w:Nat):Prop where
 ok:FtOk f w
 dj:f.N&&&f.O=0
def aON(d:Nat)(wd:Wd)(bC:wd=.same\/wd=.less\/wd=.under)(w:Nat)(f g:Ft)(hf:Ftd f w)(hg:Ftd g w)(cB:1<=w)(hw:w<=64)(S:aC):cl fns (d+4) 44 [.d (.str wd.s),.d (.int w),.d f.d,.d g.d] S=qz (.d (nT wd w f g).d,S):=by
 have t1:=@dS [qz (.d (.str wd.s)),(w:),qz (.d f.d),qz (.d g.d)] 0 _ "same" _ S (d<$>3) rfl (cD wd .same);have t2:=@dS [qz (.d (.str wd.s)),(w:),qz (.d f.d),qz (.d g.d)] 0 _ "less" _ S (d<$>3) rfl (cD wd .less);erw[50,bC]
 .refine eK (S1:=S) rfl (d+3) rfl rfl yAj (cC t1 (bH ?_));erw[0,aSF d w f g hw]
 .refine eK (S1:=S) rfl (d+3) rfl rfl yAj (bE t1 (cC t2 (bH ?_)));erw[0,aID d w f g hf.ok.lN hg.ok.lN hw]
 .refine eK (S1:=S) rfl (d+3) rfl rfl yAj (bE t1 (bE t2 (bH ?_)));erw[0,aAi d w f cB hw,aAi d w g cB hw,aID d w (tt f w) (tt g w) (aL2 hf.ok hf.dj cB) (aL2 hg.ok hg.dj cB) hw]
def Sw.wd:Sw->Wd
 |.add=>.add|.sub=>.sub|.mul=>.mul
def aN8(x:Int)(L:Nat):bW .BitAnd (.int x) (.int ((2^L-1:Nat):Int))=qz (.int ((dF x L:Nat):Int)):=by
 have hp:=xAe L;by_cases c:0<=x
 .obtain⟨n,rfl⟩:∃ n:Nat,x=(n:Nat):=(x.toNat,by omega,);rw[dR,aWB,yEi]
 .have h1:decide ((0:Int)<=x)=false:=dqF c;have h2:decide ((0:Int)<=((2^L-1:Nat):Int))=true:=dqT ();obtain⟨b,hb⟩:∃ b:Nat,yBs x=(b:Nat):=((yBs x).toNat,by unfold yBs;omega,);have hx:x = -((b:Nat):Int)-1:=by unfold yBs at hb;omega
  have e:(2^L-1)&&&b=b%2^L:=by rw[Nat.and_comm,yEi]
  have hm:=Nat.mod_lt b hp;have hr:=oO x L;have e2:x%((2^L:Nat):Int)=((2^L:Nat):Int)-1-((b%2^L:Nat):Int):=by
   have hd:(b:Int)=((2^L:Nat):Int)*((b/2^L:Nat):Int)+((b%2^L:Nat):Int):=by
    rw[<- yGc,<- yHf,yHe]
   have hx2:x=(((2^L:Nat):Int)-1-((b%2^L:Nat):Int))+((2^L:Nat):Int)*(-((b/2^L:Nat):Int)-1):=by
    rw[hx,hd,Int.mul_sub,Int.mul_neg,Int.mul_one];omega
   rw[hx2,Int.add_mul_emod_self_left,Int.emod_eq_of_lt () ()]
  simp only[bW,lK];unfold yEq;rw[h1,h2];simp only[hb,yAr,e];congr 2;omega
def aCs(d:Nat)(s:Sw)(x y:Nat)(hx:x<2^64)(S:aC):cl fns (d+1) 26 [.d (.str s.wd.s),.d (.int x),.d (.int y)] S=qz (.d (.int (s.oc (x:Nat) (y:Nat))),S):=by
 have t1:=@dS [qz (.d (.str s.wd.s)),(x:),(y:)] 0 _ "add" _ S (aF fns d) rfl (cD s.wd .add);have t2:=@dS [qz (.d (.str s.wd.s)),(x:),(y:)] 0 _ "sub" _ S (aF fns d) rfl (cD s.wd .sub);cases s with
 |add=>
   refine eK (S1:=S) rfl d rfl rfl yAj (cC t1 (bH ?_));erw[0,eC]
 |sub=>
   refine eK (S1:=S) rfl d rfl rfl yAj (bE t1 (cC t2 (bH ?_)));erw[0,cX]
 |mul=>
   refine eK (S1:=S) rfl d rfl rfl yAj (bE t1 (bE t2 (bH ?_)));have hq43:=@mN (x:Int) (y:Int) () ();erw[0,hq43]
def p64(h:n<2^w)(hw:w<=64):n<2^64:=xAb h (yAw (·) hw)
def aRU(d:Nat)(s:Sw)(w:Nat)(f g:Ft)(hf:FtOk f w)(hw:w<=64)(S:aC):cl fns (d+3) 27 [.d (.str s.wd.s),.d f.d,.d g.d] S=qz (.d (.tuple [.int ((tT s f g:Nat):Int),.int ((kR s f g:Nat):Int)]),S):=by have hL:=aDv (g:=g) hf;have e1:=aDE d ((f.N|||f.O)&&&(g.N|||g.O)) S;have e2:=dG (d+1) (gJ f g) (show gJ f g<=100000 by omega) S;rw[bO rfl (d+2) _ S rfl];erw[20,eY,aGA,aC1 (d+1),dR];rw[e1];erw[20,show lr ((f.N|||f.O)&&&(g.N|||g.O))=gJ f g from rfl];rw[e2];erw[0,vA (d+1),aCs (d+1) s f.O g.O (p64 hf.lO hw),aN8,mS]
def aPD(d:Nat)(s:Sw)(w:Nat)(f g:Ft)(hf:FtOk f w)(hg:FtOk g w)(hw:w<=64)(S:aC):cl fns (d+3) 29 [.d (.str s.wd.s),.d (.int w),.d f.d,.d g.d] S=qz (.d (.tuple [.int (gM s w f g),.int (gL s w f g)]),S):=by
 have g1:=zP d f w hf.lN hw S;have g2:=zP d g w hg.lN hw S;have l1:=vA (d+1) f S;have l2:=vA (d+1) g S;have hp:=xAe w;have o1:=aCs (d+1) s f.O g.O (p64 hf.lO hw) S;have o2:=aCs (d+1) s (2^w-1-f.N) (2^w-1-g.N) (@p64 _ w () hw) S;have t1:aV .Eq (.str s.wd.s) (.str "sub")=qz (.bool (decide (s.wd=.sub))):=cD s.wd .sub;rw[bO rfl (d+2) _ S rfl];cases s with
 |sub=>
   have t:aV .Eq (.str Sw.sub.wd.s) (.str "sub")=qz (.bool true):=t1;erw[11,aAK,t,g1,g2,l1,l2,cX]
 |add=>
   have t:aV .Eq (.str Sw.add.wd.s) (.str "sub")=qz (.bool false):=t1;erw[11,aAK,t,g1,g2,l1,l2,o1,o2]
 |mul=>
   have t:aV .Eq (.str Sw.mul.wd.s) (.str "sub")=qz (.bool false):=t1;erw[11,aAK,t,g1,g2,l1,l2,o1,o2]
def aPG(d l g w:Nat)(S:aC)(hl:l<2^w)(hg:g<2^w)(hw:w<=64):cl fns (d+3) 6 [.d (.int l),.d (.int g),.d (.int w)] S=qz (.d (.tuple [.int (uZ l g w:Nat),.int (oT l g w:Nat)]),S):=by have hx:l^^^g<2^10000:=aKS (yEr hl hg) ();rw[bO rfl (d+2) _ S rfl];have hq44:=dG (d+1) w ();erw[11,aGc,hq44,mS,aId d (l^^^g) _ hx,dR]
def aY7(s:Sw)(w:Nat)(f g:Ft)(hf:FtOk f w)(hg:FtOk g w)(ha:a<2^w)(hb:b<2^w)(h1:Hd f a w)(h2:Hd g b w):gM s w f g<=gL s w f g:=by have:=aLR s hf hg ha hb h1 h2;omega
def aTz(d:Nat)(s:Sw)(w:Nat)(f g:Ft)(hf:FtOk f w)(hg:FtOk g w)(hb:gM s w f g<=gL s w f g)(hw:w<=64)(S:aC):cl fns (d+4) 30 [.d (.str s.wd.s),.d (.int w),.d f.d,.d g.d] S=qz (.d (.tuple [.int ((rL s w f g:Nat):Int),.int ((rJ s w f g:Nat):Int)]),S):=by
 have b1:=aPD d s w f g hf hg hw S;have hp:=xAe w;rw[bO rfl (d+3) _ S rfl];unfold rL rJ;by_cases c1:gM s w f g<0
 .rw[if_pos (.inl c1),if_pos (.inl c1)];erw[11,zS,b1,fG,dqT c1]
 .by_cases c2:((2^w-1:Nat):Int)<gL s w f g
  .rw[if_pos (.inr c2),if_pos (.inr c2)];have hq45:=dG (d+2) w ();erw[11,zS,b1,fG,dqF c1,hq45,iY,dqT c2]
  .have c:¬ (gM s w f g<0\/gL s w f g>((2^w-1:Nat):Int)):=λ h=>h.elim c1 c2
   rw[if_neg c,if_neg c];obtain⟨l,hl⟩:∃ l:Nat,gM s w f g=(l:Nat):=((gM s w f g).toNat,by omega,);obtain⟨u,hu⟩:∃ u:Nat,gL s w f g=(u:Nat):=((gL s w f g).toNat,by omega,);rw[hl] at c1;rw[hu] at c2;rw[hl,hu] at b1 hb;rw[hl,hu,yAr,yAr];have hq46:=dG (d+2) w ();have hq47:=aPG d l u w S () () hw;erw[11,zS,b1,fG,dqF c1,hq46,iY,dqF c2,hq47]
def aSa(d:Nat)(s:Sw)(w:Nat)(f g:Ft)(hw:w<=64)(S:aC):cl fns (d+3) 28 [.d (.str s.wd.s),.d (.int w),.d f.d,.d g.d] S=qz (.d (.int ((rK s w f g:Nat):Int)),S):=by
 rw[bO rfl (d+2) _ S rfl];cases s with
 |add=>
   have t:aV .NotEq (.str Sw.add.wd.s) (.str "mul")=qz (.bool true):=by kernel_rfl
   erw[11,zM,t]
 |sub=>
   have t:aV .NotEq (.str Sw.sub.wd.s) (.str "mul")=qz (.bool true):=by kernel_rfl
   erw[11,zM,t]
 |mul=>
   have t:aV .NotEq (.str Sw.mul.wd.s) (.str "mul")=qz (.bool false):=by kernel_rfl
   have e:((lr f.N:Nat):Int)+((lr g.N:Nat):Int)=((lr f.N+lr g.N:Nat):Int):=();have hq48:=dG (d+1) (min w (lr f.N+lr g.N)) ();erw[11,zM,t,hZ,aDE d,eC,e,lE,hq48]
def aPZ(d:Nat)(s:Sw)(f g:Ft)(S:aC):cl fns (d+1) 31 [.d (.str s.wd.s),.d f.d,.d g.d] S=qz (.d (.int ((lB s f g:Nat):Int)),S):=by
 have e:∀ m:Nat,pI [.int 1,.int (((m:Nat):Int)-1)]=qz (.int ((max 1 (m-1):Nat):Int)):=λ m=>aC6 m 1
 rw[bO rfl d _ S rfl];cases s with
 |add=>
   have t:aV .Eq (.str Sw.add.wd.s) (.str "mul")=qz (.bool false):=cD .add .mul;erw[11,zU,t,jO,lE,cX,e]
 |sub=>
   have t:aV .Eq (.str Sw.sub.wd.s) (.str "mul")=qz (.bool false):=cD .sub .mul;erw[11,zU,t,jO,lE,cX,e]
 |mul=>
   have t:aV .Eq (.str Sw.mul.wd.s) (.str "mul")=qz (.bool true):=cD .mul .mul;erw[11,zU,t]
def aVp(d:Nat)(s:Sw)(w:Nat)(f g:Ft)(hf:FtOk f w)(hg:FtOk g w)(hb:gM s w f g<=gL s w f g)(hw:w<=64)(S:aC):cl fns (d+5) 32 [.d (.str s.wd.s),.d (.int w),.d f.d,.d g.d] S=qz (.d (xU s w f g).d,S):=by rw[bO rfl (d+4) _ S rfl];erw[11,aHa,aRU (d+1) s w f g hf hw,aTz d s w f g hf hg hb hw,aL4,aYp,gB,aSa (d+1) s w f g hw,aPZ (d+3) s f g]
section
variable (d:Nat)(R Wi Fs:D)(v:Nat)(S:aC)
theorem aQI(s:Sw)(f g:Ft)(e0:bD R (.int 0)=qz (.str s.wd.s))(e1:bD R (.int 1)=qz (.int v))(ef:bD Fs (.int 0)=qz f.d)(eg:bD Fs (.int 1)=qz g.d)(hf:FtOk f v)(hg:FtOk g v)(hb:gM s v f g<=gL s v f g)(hv:v<=64):cl fns (d+6) 46 [.d R,.d Wi,.d Fs] S=qz (.d (xU s v f g).d,S):=by
 have bC:s.wd=.add\/s.wd=.sub\/s.wd=.mul:=by
  cases s
  .exact .inl rfl
  .exact .inr (.inl rfl)
  .exact .inr (.inr rfl)
 have t1:=nP (d<$>5) R Wi Fs (v:Nat) S s.wd;have t2:=oU (d<$>5) R Wi Fs (v:Nat) S s.wd;have t3:=qR (d<$>5) R Wi Fs (v:Nat) S s.wd;have t4:=sR (d<$>5) R Wi Fs (v:Nat) S s.wd;rw[dqT bC] at t4;rw[dqF (by rcases bC with h|h|h<;>rw[h]<;>decide)] at t1 t2 t3;refine eK (S1:=S) rfl (d+5) rfl rfl yAj (bP (S1:=S) (w:=.d (.str s.wd.s)) (fV rfl e0) rfl (bP (S1:=S) (w:=.d (.int v)) (fV rfl e1) rfl (bE t1 (bE t2 (bE t3 (cC t4 (bH ?_)))))));erw[0,ef,eg,aVp d s v f g hf hg hb hv]
end
section
variable {f:Ft}{w:Nat}(hf:FtOk f w)(hd:f.N&&&f.O=0)(cB:1 <= w)
include hf hd cB
theorem aSJ(k:Nat):FtOk (wN w f k) w:=by have m:=@aJd w _ k hd;have:=hf.aw;exact(m.lN,m.lO,yDn _ _,Nat.max_le.mpr (cB,xAh (yGl _ _) this,),)
theorem aQC(k:Nat):FtOk (mV w f k) w:=by
 have m:=aIi k hf hd;have h1:=hf.aw;have h2:=hf.a1;refine(m.lN,m.lO,?_,?_,)
 .show 1<=if k=0 then f.A else 1
  split<;>omega
 .show(if k=0 then f.A else 1)<=w;split<;>omega
theorem aRz(k:Nat):FtOk (vO w f k) w:=by have m:=aIm k cB hf hd;have h1:=hf.a1;exact(m.lN,m.lO,by show 1<=min w (f.A+k);omega,by show min w (f.A+k)<=w;omega,)
theorem aUD(hv1:1<=v)(hv:v<=w):FtOk (yJ w v f) v:=by have m:=aKf w v hd;have h1:=hf.aw;exact(m.lN,m.lO,yDn _ _,by show max 1 (f.A-(w-v))<=v;omega,)
theorem aTI(hv:w<=v):FtOk (nG w v f) v:=by
 have m:=aIX hv hf hd;have h1:=hf.aw;have h2:=hf.a1;refine(m.lN,m.lO,?_,?_,)
 .show 1<=if v=w then f.A else 1
  split<;>omega
 .show(if v=w then f.A else 1)<=v;split<;>omega
theorem aR6(hv:w<=v):FtOk (wH w v f) v:=by have m:=aI6 cB hv hf hd;have h1:=hf.aw;have h2:=hf.a1;exact(m.lN,m.lO,by show 1<=f.A+(v-w);omega,by show f.A+(v-w)<=v;omega,)
end
def aYz(hb:b=0\/b=1\/b=2)(hf:FtOk f w)(hd:f.N&&&f.O=0)(hg:FtOk g w)(he:g.N&&&g.O=0):FtOk (uE b f g) w:=by have m:=aL5 b hb hf hd hg he;have h1:=hf.a1;have h2:=hg.a1;have h3:=hf.aw;erw[50,hb]<;>exact(m.lN,m.lO,by show 1<=min f.A g.A;omega,by show min f.A g.A<=w;omega,)
section
variable (d:Nat)(R Wi Fs:D)(v:Int)(S:aC)
theorem nc5{wd:Wd}(h:wd=.same\/wd=.less\/wd=.under):wd≠.in/\wd≠.num/\wd≠.not/\(¬ (wd=.add\/wd=.sub\/wd=.mul))/\¬ (wd=.left\/wd=.right\/wd=.slide):=by erw[50,h]<;>decide
theorem aP2(wd:Wd)(bC:wd=.same\/wd=.less\/wd=.under)(w:Nat)(f g:Ft)(e0:bD R (.int 0)=qz (.str wd.s))(e1:bD R (.int 1)=qz (.int v))(ew:bD Wi (.int 0)=qz (.int w))(ef:bD Fs (.int 0)=qz f.d)(eg:bD Fs (.int 1)=qz g.d)(hf:Ftd f w)(hg:Ftd g w)(cB:1<=w)(hw:w<=64):cl fns (d+5) 46 [.d R,.d Wi,.d Fs] S=qz (.d (nT wd w f g).d,S):=by have t1:=nP (d<$>4) R Wi Fs v S wd;have t2:=oU (d<$>4) R Wi Fs v S wd;have t3:=qR (d<$>4) R Wi Fs v S wd;have t4:=sR (d<$>4) R Wi Fs v S wd;have t5:=uR (d<$>4) R Wi Fs v S wd;have t6:=aAM (d<$>4) R Wi Fs v S wd;let(n1,n2,n3,n4,n5):=nc5 bC;rw[dqT bC] at t6;rw[dqF n1] at t1;rw[dqF n2] at t2;rw[dqF n3] at t3;rw[dqF n4] at t4;rw[dqF n5] at t5;refine eK (S1:=S) rfl (d+4) rfl rfl yAj (bP (S1:=S) (w:=.d (.str wd.s)) (fV rfl e0) rfl (bP (S1:=S) (w:=.d (.int v)) (fV rfl e1) rfl (bE t1 (bE t2 (bE t3 (bE t4 (bE t5 (cC t6 (bH ?_)))))))));erw[0,ew,ef,eg,aON d wd bC w f g hf hg cB hw]
theorem aOB(t f g:Ft)(e0:bD R (.int 0)=qz (.str "pick"))(e1:bD R (.int 1)=qz (.int v))(et:bD Fs (.int 0)=qz t.d)(ef:bD Fs (.int 1)=qz f.d)(eg:bD Fs (.int 2)=qz g.d):cl fns (d+2) 46 [.d R,.d Wi,.d Fs] S=qz (.d (pJ t f g).d,S):=by have t1:=nP (d<$>1) R Wi Fs v S .pick;have t2:=oU (d<$>1) R Wi Fs v S .pick;have t3:=qR (d<$>1) R Wi Fs v S .pick;have t4:=sR (d<$>1) R Wi Fs v S .pick;have t5:=uR (d<$>1) R Wi Fs v S .pick;have t6:=aAM (d<$>1) R Wi Fs v S .pick;have t7:=aDC (d<$>1) R Wi Fs v S .pick;refine eK (S1:=S) rfl (d+1) rfl rfl yAj (bP (S1:=S) (w:=.d (.str Wd.pick.s)) (fV rfl e0) rfl (bP (S1:=S) (w:=.d (.int v)) (fV rfl e1) rfl (bE t1 (bE t2 (bE t3 (bE t4 (bE t5 (bE t6 (cC t7 (bH ?_))))))))));erw[0,et,ef,eg,aTa d t f g]
end
structure Op(f:Ft)(w:Nat):Prop where
 ok:FtOk f w
 ho:∃ a,a<2^w/\Hd f a w
 w1:1<=w
 w2:w<=64
def Op.dj(o:Op f w):f.N&&&f.O=0:=by let(a,_,h):=o.ho;exact bAp h
def bF:Wd->Nat
 |.in|.num=>0
 |.not|.left|.right|.slide|.cut|.wide|.sign=>1
 |.pick=>3|_=>2
def aTQ(wd:Wd):aBE uG (.str wd.s)=qz (.int (bF wd:Nat)):=by cases wd<;>kernel_rfl
def nB(r:Rw):bD r.d (.int 0)=qz (.str r.wd.s):=@iW (.str r.wd.s::nD r.w::r.args.map nD) 0 _ rfl
def aSX{fa:FE}{fl fh:FO}(r:Rw)(c:Nat)(h1:fa env S=qz (.d r.d,S))(h2:fl env S=qz (qz 2,S))(h3:fh env S=qz (qz ((2+c:Nat):Int),S)):pS fa fl fh env S=qz (.d (.tuple ((r.args.take c).map nD)),S):=by
 have i2:HT.sIx ↑(yCb r.wd.s::nD r.w::r.args.map nD) 0 (qz 2)=2:=by
  rw[show(2:Int)=((2:Nat):Int) from rfl,HT.sIx_nat];simp
 have e:fJ (yCb r.wd.s::nD r.w::r.args.map nD) (qz 2) (qz ((2+c:Nat):Int))=(r.args.take c).map nD:=by
  unfold fJ;rw[i2,HT.sIx_nat];simp only[List.drop_succ_cons,yGn,yAl,yAd];rw[List.map_take];rcases yFq c ↑r.args with z|z
  .rw[yCo (),show 2+c-2=c by omega]
  .rw[yCq (),yCd (by simp),yCd (by simpa using z)]
 unfold pS;rw[h1,oB];simp only[];rw[h2,oB];simp only[];rw[h3,oB];simp only[dr,oB,Rw.d];rw[e]
def oE(d:Nat)(r:Rw)(S:aC):cl fns (d+1) 7 [.d r.d] S=qz (.d (.tuple ((r.args.take (bF r.wd)).map nD)),S):=by
 have e2:(2:Int)+((bF r.wd:Nat):Int)=((2+bF r.wd:Nat):Int):=();have sl:ev (aF fns d) (.sl (.var 0) (.cons (.int 2) .nil) (.cons (.bin .Add (.int 2) (.tab "OPERAND_COUNTS" uG (.ix (.var 0) (.int 0)))) .nil)) [qz (.d r.d)] S=qz (.d (.tuple ((r.args.take (bF r.wd)).map nD)),S):=by
  simp only[aEr];refine aSX r (bF r.wd) (by erw[20,True]) (by erw[20,qT]) ?_;erw[0,qT,nB,aTQ,eC,e2]
 rw[bO rfl d _ S rfl];show((eZ (pA (ev (aF fns d) (.sl (.var 0) (.cons (.int 2) .nil) (.cons (.bin .Add (.int 2) (.tab "OPERAND_COUNTS" uG (.ix (.var 0) (.int 0)))) .nil)))) sY) [qz (.d r.d)] S).bind _=_;simp only[eZ,pA,sl,oB,mD,yAj]
inductive RwOk:Rw->List Nat->Prop
 |inp {w:Nat} (h1:1<=w) (h2:w<=64):RwOk ⟨.in,w,[]⟩ []
 |num {w n:Nat} (h1:1<=w) (h2:w<=64) (hn:n<2^w):RwOk ⟨.num,w,[n]⟩ []
 |nt {w a:Nat} (h1:1<=w) (h2:w<=64):RwOk ⟨.not,w,[a]⟩ [w]
 |sh {wd:Wd}{w a k:Nat} (h1:1<=w) (h2:w<=64) (bC:wd=.left\/wd=.right\/wd=.slide) (hk:k<64):RwOk ⟨wd,w,[a,k]⟩ [w]
 |cut {w v a:Nat} (h1:1<=w) (hv:w<=v) (h2:v<=64):RwOk ⟨.cut,w,[a]⟩ [v]
 |wide {w v a:Nat} (h1:1<=v) (hv:v<=w) (h2:w<=64):RwOk ⟨.wide,w,[a]⟩ [v]
 |sign {w v a:Nat} (h1:1<=v) (hv:v<=w) (h2:w<=64):RwOk ⟨.sign,w,[a]⟩ [v]
 |bw {wd:Wd}{w a b:Nat} (h1:1<=w) (h2:w<=64) (bC:wd=.and\/wd=.or\/wd=.xor):RwOk ⟨wd,w,[a,b]⟩ [w,w]
 |sm {s:Sw}{w a b:Nat} (h1:1<=w) (h2:w<=64):RwOk ⟨s.wd,w,[a,b]⟩ [w,w]
 |cmp {wd:Wd}{v a b:Nat} (h1:1<=v) (h2:v<=64) (bC:wd=.same\/wd=.less\/wd=.under):RwOk ⟨wd,1,[a,b]⟩ [v,v]
 |pick {w c a b:Nat} (h1:1<=w) (h2:w<=64):RwOk ⟨.pick,w,[c,a,b]⟩ [1,w,w]
def g0(l:List Nat)(i:Nat):Nat:=l.getD i 0
def aRY(hn:n<2^w):n^^^(2^w-1)=2^w-1-n:=by
 apply xAl;intro i;rw[xAo,dW];have:=sE hn i;unfold rE at this;rw[this];by_cases c:i<w
 .rw[dqT c,yBd];cases n[i]!<;>rfl
 .rw[dqF c,dM hn ()];rfl
def aJR(wd:Wd):bF wd<=3:=by cases wd<;>decide
def aHv(S0:aC)(l:List D)(x:D)(h:↑l<=1000):eO (S0++[qz l]) (.loc ↑S0) (.d x)=qz (.d .none,S0++[qz (l++[x])]):=by unfold eO;simp only[yAi (yAb ↑S0),yBe,yCc];rw[if_pos (by rw[zx];omega)];rw[List.set_append_right _ _ (yAb _),yBe];rfl
def sB(S0:aC)(l:List D):(S0++[qz l])[↑S0]?=qz (qz l):=by rw[yAi (yAb _),yBe];rfl
def cW(r:Rw)(l:List Nat):List Nat:=(r.args.take (bF r.wd)).map (g0 l)
def aOE{α:Type}{l:List α}{vs:List D}{f:α->D}(h1:↑vs=↑l)(h2:∀ (i:Nat) (a:α),l[i]?=qz a->∃ v,vs[i]?=qz v/\v=f a):vs=l.map f:=by
 apply List.ext_getElem?;intro i;rw[yAg];by_cases c:i<↑l
 .let(v,h3,rfl):=h2 i l[i] (yAa c);rw[h3,yAa c];rfl
 .rw[yDs (),yDs ()];rfl
def aCQ(d:Nat)(r:Rw)(w:W)(x:D)(f:Nat->D)(S:aC)(hv:∀ aO,dr (S++[qz aO]) w=qz x)(hx:∀ a∈r.args.take (bF r.wd),bD x (nD a)=qz (f a)):cl fns (d+2) 9 [.d r.d,w] S=qz (.d (.tuple ((r.args.take (bF r.wd)).map f)),S):=by
 have cJ:↑(r.args.take (bF r.wd))<=3:=by have:=aJR r.wd;rw[yBo];omega
 let(vs,S',e1,hS',hI,hvl,hq):=@aRw [qz (.d r.d),qz w,qx] S S _ (.one 2) (lv (d<$>1) (.it (.call 7 (.cons (.var 0) .nil)))) (ev (d<$>1) (.ix (.var 1) (.var 2))) nD (λ _ S'=>S'=S) (λ a v=>v=f a) (r.args.take (bF r.wd)) (by
  erw[20,oE d,iE]) (by rw[zx];omega) rfl (by
  intro a ha;refine(_,rfl,?_,);rintro j S' aO hj hS rfl;refine(f a,S',?_,rfl,rfl,rfl,);have hd:∀ {k:D->Option (W×aC)},(dr (S'++[qz aO]) w).bind k=k x:=λ {k}=>by rw[hv aO];rfl
  simp only[aEy,aDD,pQ,f2,jS,iN,clr,Tg.slots,yCl,yHy,yDv,yDu,yDe,yCc,oB,hd];show((bD x (nD a)).bind λ z=>qz (W.d z,S'++[qz aO]))=_
  rw[hx a ha];rfl)
 subst hI;have e2:vs=(r.args.take (bF r.wd)).map f:=aOE hvl hq;subst e2;have e1':lv (d<$>1) aFK [qz (.d r.d),qz w,qx] S'=qz ((r.args.take (bF r.wd)).map f,S'):=e1;rw[bO rfl (d+1) _ S' rfl];erw[11,aF2,e1',mX,sS]
def aYU{l:List Nat}(h:a<↑l):(l.map nD)[a]?=qz (nD (g0 l a)):=by rw[yAg,yAa h];show qz (nD l[a])=qz (nD (l.getD a 0));rw[xAg,yAa h];rfl
def aTg(d:Nat)(r:Rw)(l:List Nat)(S:aC)(h:∀ a∈r.args.take (bF r.wd),a<↑l):cl fns (d+2) 9 [.d r.d,.d (l*>nD)] S=qz (.d (.tuple ((cW r l).map nD)),S):=by
 have:=aCQ d r (.d (l*>nD)) (l*>nD) (λ a=>nD (g0 l a)) S (λ _=>rfl) λ a ha=>iW (aYU (h a ha))
 rw[this,cW,yBv];rfl
def aF6(d:Nat)(rs:List Rw)(o:D)(hl:↑rs<=1000)(S:aC):cl fns (d+1) 11 [.d (rs<*o)] S=qz (.d (.tuple ((~~~rs).map nD)),S):=by
 have i0:bD (rs<*o) (.int 0)=qz (rs*>Rw.d):=rfl;have hc:lv (aF fns d) aFQ [qz (.d (rs<*o)),qx] S=qz ((~~~rs).map nD,S):=by
  rw[yBv];refine sF (fi:=lv (aF fns d) (.it (.ix (.var 0) (.int 0)))) (fe:=ev (aF fns d) (.ix (.var 1) (.int 1))) Rw.d (nD ∘ λ r=>r.w) rs ?_ (by rw[zx];omega) λ r hr=>?_
  .erw[0,i0,iE]
  .refine(_,rfl,λ S'=>?_,);erw[0,clr,yCl,yHy,nI]
 rw[bO rfl d _ S rfl];erw[11,aGz,hc,mX,sS]
def aZH(rs:List Rw):Prop:=∀ (j:Nat) (r:Rw),rs[j]?=qz r->RwOk r (cW r (~~~rs))/\∀ a∈r.args.take (bF r.wd),a<j
structure Prg(rs:List Rw):Prop where
 l:↑rs<=100
 fit:aZH rs
 ws:∀ (j:Nat) (r:Rw),rs[j]?=qz r->1<=r.w/\r.w<=64
def aRp(hn:n<2^w):(2^w-1)^^^n=2^w-1-n:=by rw[Nat.xor_comm];exact aRY hn
def zG(n w:Nat):Ft:=(2^w-1-n,n,1,)
def aLw(hn:n<2^w)(hw:1<=w):FtOk (zG n w) w:=(by show 2^w-1-n<2^w;have:=xAe w;omega,hn,yAb 1,hw,)
def aTU(hn:n<2^w):Hd (zG n w) n w:=by
 refine(λ i hi=>?_,λ i hi=>hi,lU _ _,);have hi':(2^w-1-n)[i]! =true:=hi;by_cases c:i<w
 .rw[aAQ hn c] at hi';simpa using hi'
 .exact dM hn ()
def aRO(hw:1<=w):iC jX w=jX:=by
 have u:dC 0 1 w=0:=by
  unfold dC;rw[Nat.zero_and,if_pos rfl]
 have t:tr 0 w=0:=by
  unfold tr;rw[Nat.zero_xor];have:bl (2^w-1)=w:=aCM (vJ w) (.inr (by rw[dW,dqT ()]));omega
 show Ft.mk (dC 0 1 w) (dC 0 1 w) (yB 1 (tr (dC 0 1 w) w) (tr (dC 0 1 w) w))=(0,0,1,);rw[u,t];rfl
def aRv(d n w:Nat)(hn:n<2^w)(cB:1<=w)(hw:w<=64)(S:aC):cl fns (d+4) 47 [.d (.tuple [.str "num",.int w,.int n]),.d (.tuple []),.d (.tuple [])] S=qz (.d (iC (zG n w) w).d,S):=by
 have nf:cl fns (d+2) 33 [.d (.int w),.d (.int n)] S=qz (.d (zG n w).d,S):=by
  rw[bO rfl (d+1) _ S rfl];have hq49:=dG d w ();erw[11,aGL,hq49,mS,aRp hn]
 have i2:bD (.tuple [.str "num",.int w,.int n]) (.int 2)=qz (.int n):=rfl;refine aDa d _ _ _ S w (zG n w) rfl ?_ (aLw hn cB) hw;have t1:=nP (d<$>2) (.tuple [.str "num",.int w,.int n]) (.tuple []) (.tuple []) (w:Nat) S .num;have t2:=oU (d<$>2) (.tuple [.str "num",.int w,.int n]) (.tuple []) (.tuple []) (w:Nat) S .num;refine eK (S1:=S) rfl (d+2) rfl rfl yAj (bP (S1:=S) (w:=.d (.str Wd.num.s)) (fV rfl rfl) rfl (bP (S1:=S) (w:=.d (.int w)) (fV rfl rfl) rfl (bE t1 (cC t2 (bH ?_)))));erw[0,i2,nf]
def aR5(d w:Nat)(cB:1<=w)(hw:w<=64)(S:aC):cl fns (d+4) 47 [.d (.tuple [.str "in",.int w]),.d (.tuple []),.d (.tuple [])] S=qz (.d jX.d,S):=by have t1:=nP (d<$>2) (.tuple [.str "in",.int w]) (.tuple []) (.tuple []) (w:Nat) S .in;have hk:FtOk jX w:=(xAe w,xAe w,yAb 1,cB,);have r:=aDa d (.tuple [.str "in",.int w]) (.tuple []) (.tuple []) S w jX rfl (eK (S1:=S) rfl (d+2) rfl rfl yAj (bP (S1:=S) (w:=.d (.str Wd.in.s)) (fV rfl rfl) rfl (bP (S1:=S) (w:=.d (.int w)) (fV rfl rfl) rfl (cC t1 (bH rfl))))) hk hw;rw[aRO cB] at r;exact r
def tP:List Ft->List Nat->Prop
 |f::Fs,w::ws=>Op f w/\tP Fs ws|[],[]=>True|_,_=>False
def yM(h:tP Fs [w]):∃ f,Fs=[f]/\Op f w:=by
 rcases Fs with _|⟨a,_|⟨b,r⟩⟩
 .exact h.elim
 .exact(a,rfl,h.1,)
 .exact h.2.elim
def aEU(h:tP Fs [w,v]):∃ f g,Fs=[f,g]/\Op f w/\Op g v:=by
 rcases Fs with _|⟨a,_|⟨b,_|⟨c,r⟩⟩⟩
 .exact h.elim
 .exact h.2.elim
 .exact(a,b,rfl,h.1,h.2.1,)
 .exact h.2.2.elim
def bAj(h:tP Fs [w,v,u]):∃ f g k,Fs=[f,g,k]/\Op f w/\Op g v/\Op k u:=by
 rcases Fs with _|⟨a,_|⟨b,_|⟨c,_|⟨e,r⟩⟩⟩⟩
 .exact h.elim
 .exact h.2.elim
 .exact h.2.2.elim
 .exact(a,b,c,rfl,h.1,h.2.1,h.2.2.1,)
 .exact h.2.2.2.elim
def aUo(k:FtOk g w)(h:Hd g z w):Hd g (z%2^w) w:=by
 have m:∀ i,i<w->(z%2^w)[i]! =z[i]!:=λ i hi=>by rw[yBn,dqT hi,yBd]
 have lt:∀ {n i:Nat},n<2^w->n[i]! =true->i<w:=λ {n i} hn hi=>by
  by_cases c:i<w
  .exact c
  .rw[dM hn ()] at hi;cases hi
 refine(λ i hi=>by rw[m i (lt k.lN hi)];exact h.1 i hi,λ i hi=>by rw[m i (lt k.lO hi)];exact h.2.1 i hi,?_,);rcases h.2.2 with q|q
 .exact .inl λ i a b=>by rw[m i b];exact q i a b
 .exact .inr λ i a b=>by rw[m i b];exact q i a b
def RG(r:Rw)(ws:List Nat)(Fs:List Ft):Prop:=∃ g:Ft,Op g r.w/\∀ d S,cl fns (d+7) 47 [.d r.d,.d (ws*>nD),.d (Fs*>Ft.d)] S=qz (.d g.d,S)
def aLq(hg:FtOk g w)(h:Hd g z w)(h1:1<=w)(h2:w<=64):Op (iC g w) w:=(aLQ hg,(_,Nat.mod_lt _ (xAe w),aUo (aLQ hg) ((aQD hg).mpr h),),h1,h2,)
def nA{r:Rw}(h1:1<=r.w)(h2:r.w<=64)(g:Ft)(hg:FtOk g r.w)(hh:Hd g z r.w)(ho:∀ d S,cl fns (d+6) 46 [.d r.d,.d (ws*>nD),.d (Fs*>Ft.d)] S=qz (.d g.d,S)):RG r ws Fs:=
 (_,aLq hg hh h1 h2,λ d S=>aDa (d+3) _ _ _ S r.w g (nI r) (ho d S) hg h2,)
def aUt(o:Op f w):RG (.not,w,[a],) [w] [f]:=by let(x,hx,hf):=o.ho;exact nA o.w1 o.w2 (f.O,f.N,f.A,) (o.ok.lO,o.ok.lN,o.ok.a1,o.ok.aw,) (aQz o.ok o.dj hx hf) λ d S=>aRd (d+5) _ _ _ (w:Nat) S f rfl rfl rfl
def aXK(wd:Wd)(bC:wd=.left\/wd=.right\/wd=.slide)(hk:k<64)(o:Op f w):RG (wd,w,[a,k],) [w] [f]:=by
 let(x,hx,hf):=o.ho;obtain⟨z,ok,ho⟩:∃ z,FtOk (shN wd w f k) w/\Hd (shN wd w f k) z w:=by
  erw[50,bC]
  .exact(_,aSJ o.ok o.dj o.w1 k,aPU o.ok o.dj hx hf k,)
  .exact(_,aQC o.ok o.dj o.w1 k,aO3 o.ok o.dj hx hf k,)
  .exact(_,aRz o.ok o.dj o.w1 k,aOO o.ok o.dj hx hf o.w1 k,)
 exact nA o.w1 o.w2 (shN wd w f k) ok ho λ d S=>aO2 (d+5) _ _ _ (w:Nat) S wd bC f k _ rfl rfl rfl rfl (aCU (d+1) wd bC w f k o.ok o.w1 o.w2 () S)
def aWW(h1:1<=w)(hv:w<=v)(o:Op f v):RG (.cut,w,[a],) [v] [f]:=by let(x,hx,hf):=o.ho;exact nA h1 (xAh hv o.w2) (yJ v w f) (aUD o.ok o.dj o.w1 h1 hv) (aQk o.ok o.dj hx hf hv) λ d S=>aCO (d+5) _ _ _ (w:Nat) S .cut (.inl rfl) f (v:Nat) _ rfl rfl rfl rfl (aUV (d+3) v w f hv (xAh hv o.w2) S)
def aTh(hv:v<=w)(h2:w<=64)(o:Op f v):RG (.wide,w,[a],) [v] [f]:=by let(x,hx,hf):=o.ho;exact nA (xAh o.w1 hv) h2 (nG v w f) (aTI o.ok o.dj o.w1 hv) (aPe o.ok o.dj hx hf hv) λ d S=>aCO (d+5) _ _ _ (w:Nat) S .wide (.inr (.inl rfl)) f (v:Nat) _ rfl rfl rfl rfl (aTl (d+2) v w f hv h2 S)
def aTR(hv:v<=w)(h2:w<=64)(o:Op f v):RG (.sign,w,[a],) [v] [f]:=by let(x,hx,hf):=o.ho;exact nA (xAh o.w1 hv) h2 (wH v w f) (aR6 o.ok o.dj o.w1 hv) (aPT o.ok o.dj hx hf o.w1 hv) λ d S=>aCO (d+5) _ _ _ (w:Nat) S .sign (.inr (.inr rfl)) f (v:Nat) _ rfl rfl rfl rfl (aSQ (d+2) v w f o.w1 hv h2 S)
def aXY(wd:Wd)(bC:wd=.and\/wd=.or\/wd=.xor)(o:Op f w)(o':Op g w):RG (wd,w,[a,b],) [w,w] [f,g]:=by
 obtain⟨n,hb',eb⟩:∃ n,(n=0\/n=1\/n=2)/\bwN wd f g=uE n f g:=by
  erw[50,bC]
  .exact(0,.inl rfl,rfl,)
  .exact(1,.inr (.inl rfl),rfl,)
  .exact(2,.inr (.inr rfl),rfl,)
 let(x,hx,h1):=o.ho;let(y,hy,h2):=o'.ho;refine nA o.w1 o.w2 (uE n f g) (aYz hb' o.ok o.dj o'.ok o'.dj) (aSt hb' o.ok o.dj h1 o'.ok o'.dj h2) λ d S=>?_
 rw[<- eb];exact aTP (d+3) (Rw.mk wd w [a,b]).d (.tuple [nD w,nD w]) (.tuple [f.d,g.d]) (w:Nat) S wd bC f g rfl rfl rfl rfl
def aX3(s:Sw)(o:Op f w)(o':Op g w):RG (s.wd,w,[a,b],) [w,w] [f,g]:=by let(p,hp,h):=o.ho;let(q,hq,h'):=o'.ho;exact nA o.w1 o.w2 (xU s w f g) (aU5 s o.ok o'.ok hp hq h h') (aQu s o.ok o'.ok hp hq h h') λ d S=>aQI d _ _ _ w S s f g rfl rfl rfl rfl o.ok o'.ok (aY7 s w f g o.ok o'.ok hp hq h h') o.w2
def aWY(wd:Wd)(bC:wd=.same\/wd=.less\/wd=.under)(o:Op f v)(o':Op g v):RG (wd,1,[a,b],) [v,v] [f,g]:=by
 have hk:FtOk (nT wd v f g) 1:=by rcases aMe wd v f g with h|h|h<;>rw[h]<;>exact(by decide,by decide,by decide,by decide,)
 obtain⟨z,hz⟩:∃ z,Hd (nT wd v f g) z 1:=by
  rcases aMe wd v f g with h|h|h<;>rw[h]
  .exact(1,aRL,)
  .exact(0,aSV,)
  .exact(0,aRC 0,)
 exact nA (yAb 1) (show 1<=64 by omega) (nT wd v f g) hk hz λ d S=>aP2 (d+1) _ _ _ ((1:Nat):Int) S wd bC v f g rfl rfl rfl rfl rfl (o.ok,o.dj,) (o'.ok,o'.dj,) o.w1 o.w2
def aTK(ot:Op t 1)(o:Op f w)(o':Op g w):RG (.pick,w,[c,a,b],) [1,w,w] [t,f,g]:=by let(z,hz,h0):=ot.ho;let(x,hx,h1):=o.ho;let(y,hy,h2):=o'.ho;exact nA o.w1 o.w2 (pJ t f g) (aXU o.ok o'.ok) (aPm h0 hz h1 h2) λ d S=>aOB (d+4) _ _ _ (w:Nat) S t f g rfl rfl rfl rfl rfl
def aVj(h1:1<=w)(h2:w<=64)(hn:n<2^w):RG (.num,w,[n],) [] []:=
 (_,aLq (aLw hn h1) (aTU hn) h1 h2,λ d S=>aRv (d+3) n w hn h1 h2 S,)
def aYD(h1:1<=w)(h2:w<=64):RG (.in,w,[],) [] []:=
 (jX,((xAe w,xAe w,yAb 1,h1,),(0,xAe w,λ i h=>sG h,λ i h=>sG h,lU _ _,),h1,h2,),λ d S=>aR5 (d+3) w h1 h2 S,)
def rg(h:RwOk r ws)(o:tP Fs ws):RG r ws Fs:=by
 cases h with
 |inp h1 h2=>
   rcases Fs with _|⟨f,Fs⟩
   .exact aYD h1 h2
   .exact o.elim
 |num h1 h2 hn=>
   rcases Fs with _|⟨f,Fs⟩
   .exact aVj h1 h2 hn
   .exact o.elim
 |nt h1 h2=>
   let(f,rfl,o1):=yM o;exact aUt o1
 |sh h1 h2 bC hk=>
   let(f,rfl,o1):=yM o;exact aXK _ bC hk o1
 |cut h1 hv h2=>
   let(f,rfl,o1):=yM o;exact aWW h1 hv o1
 |wide h1 hv h2=>
   let(f,rfl,o1):=yM o;exact aTh hv h2 o1
 |sign h1 hv h2=>
   let(f,rfl,o1):=yM o;exact aTR hv h2 o1
 |bw h1 h2 bC=>
   let(f,g,rfl,o1,o2):=aEU o;exact aXY _ bC o1 o2
 |sm h1 h2=>
   let(f,g,rfl,o1,o2):=aEU o;exact aX3 _ o1 o2
 |cmp h1 h2 bC=>
   let(f,g,rfl,o1,o2):=aEU o;exact aWY _ bC o1 o2
 |pick h1 h2=>
   let(t,f,g,rfl,ot,o1,o2):=bAj o;exact aTK ot o1 o2
def f0(F:List Ft)(a:Nat):Ft:=F.getD a (0,0,1,)
def jF(r:Rw)(F:List Ft):List Ft:=(r.args.take (bF r.wd)).map (f0 F)
def vQ{F:List Ft}(h:a<↑F):F[a]?=qz (f0 F a):=by show F[a]?=qz (F.getD a (0,0,1,));rw[xAg,yAa h];rfl
def rF(rs:List Rw)(F:List Ft):Prop:=∀ (i:Nat) (r:Rw),i<↑F->rs[i]?=qz r->Op (f0 F i) r.w
def aIp(s:rF rs F):∀ (l:List Nat),(∀ a∈l,a<↑F/\a<↑rs)->tP (l.map (f0 F)) (l.map (g0 (~~~rs)))
 |[],_=>True.intro
 |a::l,h=>by
   let(h1,h2):=h a xAc;have hr:rs[a]?=qz rs[a]:=yAa h2;refine(?_,aIp s l λ b hb=>h b (xAf _ hb),);rw[show g0 (~~~rs) a=rs[a].w from by show(~~~rs).getD a 0=_;rw[xAg,yAg,hr];rfl];exact s a _ h1 hr
structure Nx(rs:List Rw)(F:List Ft)(r:Rw)(g:Ft):Prop where
 op:Op g r.w
 rule:∀ d S,cl fns (d+7) 47 [.d r.d,.d (.tuple ((cW r (~~~rs)).map nD)),.d (.tuple ((jF r F).map Ft.d))] S=qz (.d g.d,S)
def aPa(p:Prg rs)(s:rF rs F)(hr:rs[j]?=qz r)(hF:j<=↑F):∃ g,Nx rs F r g:=by let(f1,f2):=p.fit j r hr;have hj:j<↑rs:=(gIm hr).1;let(g,o,rl):=rg f1 (aIp s _ λ a ha=>by have:=f2 a ha;omega);exact(g,o,rl,)
def aSj(d:Nat)(r:Rw)(F:List Ft)(S0:aC)(h:∀ a∈r.args.take (bF r.wd),a<↑F):cl fns (d+2) 9 [.d r.d,.loc ↑S0] (S0++[qz (F.map Ft.d)])=qz (.d (.tuple ((jF r F).map Ft.d)),S0++[qz (F.map Ft.d)]):=by
 have:=aCQ d r (.loc ↑S0) (.list (F.map Ft.d)) (λ a=>(f0 F a).d) (S0++[qz (F.map Ft.d)]) (λ aO=>by
  show(match (S0++[qz (F.map Ft.d)]++[qz aO])[↑S0]? with|some (qz ds)=>qz (yHg ds)|_=>qx)=_
  rw[yAz,yAi (yAb _),yBe];rfl) λ a ha=>oQ (by rw[yAg,vQ (h a ha)];rfl)
 rw[this,jF,yBv];rfl
def aQO{r:Rw}{F:List Ft}(h:∀ a∈r.args.take (bF r.wd),a<↑F):jF r (F++[f])=jF r F:=by
 unfold jF;refine yDl λ a ha=>?_
 show(F++[f]).getD a (0,0,1,)=F.getD a (0,0,1,);rw[xAg,xAg,xAm (h a ha)]
def aKU{F:List Ft}(h:a<↑F):f0 (F++[f]) a=f0 F a:=by show(F++[f]).getD a (0,0,1,)=F.getD a (0,0,1,);rw[xAg,xAg,xAm h]
def aJG(F:List Ft)(f:Ft):f0 (F++[f]) ↑F=f:=by show(F++[f]).getD ↑F (0,0,1,)=f;rw[xAg,yAi (yAb _),yBe];rfl
def aRF(rs:List Rw):rF rs []:=λ i r h=>absurd h (yBq i)
def aP8(s:rF rs F)(hr:rs[↑F]?=qz r)(o:Op f r.w):rF rs (F++[f]):=λ i q hi hq=>by
 by_cases c:i<↑F
 .rw[aKU c];exact s i q c hq
 .have ci:i=↑F:=by simp at hi;omega
  subst ci;rw[hr] at hq;cases hq;rw[aJG];exact o
def aIY(p:Prg rs){F:List Ft}(hi:i<=↑F)(hr:rs[i]?=qz r)(nx:Nx rs F r g):Nx rs (F++[f]) r g:=by refine(nx.op,?_,);rw[aQO λ a ha=>by have:=(p.fit i r hr).2 a ha;omega];exact nx.rule
def uF(rs:List Rw)(F:List Ft):Prop:=∀ (i:Nat) (r:Rw),i<↑F->rs[i]?=qz r->∃ g,g=f0 F i/\Nx rs F r g
def aRo(p:Prg rs)(h:uF rs F)(hr:rs[↑F]?=qz r)(nx:Nx rs F r g):uF rs (F++[g]):=λ i q hi hq=>by
 by_cases c:i<↑F
 .let(g',rfl,h1):=h i q c hq;exact(_,(aKU c).symm,aIY p () hq h1,)
 .have ci:i=↑F:=by simp at hi;omega
  subst ci;rw[hr] at hq;cases hq;exact(g,(aJG F g).symm,aIY p (yAb _) hr nx,)
def aGi(d:Nat)(rs:List Rw)(o:D)(p:Prg rs)(S:aC):∃ F:List Ft,↑F=↑rs/\rF rs F/\uF rs F/\cl fns (d+9) 48 [.d (rs<*o)] S=qz (.d (F*>Ft.d),S):=by
 have i0:bD (rs<*o) (.int 0)=qz (rs*>Rw.d):=rfl;have pl:=p.l;let(aM,S',p1,F,c3,rfl,rfl,fl,fs,fo):=sP (t:=.one 3) (fi:=lv (d<$>8) zK) (fb:=xs (d<$>8) zL) (env:=[qz (.d (rs<*o)),qz (.d (.tuple ((~~~rs).map nD))),qz (.loc ↑S),qx]) (S:=S++[qz []]) (S1:=S++[qz []]) (ds:=rs.map Rw.d)
  (λ j env S'=>∃ (F:List Ft) (c3:Option W),env=[qz (.d (rs<*o)),qz (.d (.tuple ((~~~rs).map nD))),qz (.loc ↑S),c3]/\S'=S++[qz (F.map Ft.d)]/\↑F=j/\rF rs F/\uF rs F)
  (by
    erw[20,zK,i0,iE]) ([],qx,rfl,rfl,rfl,aRF rs,λ i r hi=>absurd hi (yBq i),) (by
    rintro j dd env S' hd ⟨F,c3,rfl,rfl,fl,fs,fo⟩;rw[yAg] at hd;let(r,hr,rfl):=Option.map_eq_some_iff.mp hd;subst fl;let(f1,f2):=p.fit _ r hr;have hj:↑F<↑rs:=(gIm hr).1;have hWl:↑(~~~rs)=↑rs:=yAd ..;let(g,nx):=aPa p fs hr (yAb _);have o1:=aTg (d+6) r (~~~rs) (S++[qz (F.map Ft.d)]) λ a ha=>by have:=f2 a ha;omega
    have o2:=aSj (d+6) r F S λ a ha=>f2 a ha
    have rl:=nx.rule (d+1) (S++[qz (F.map Ft.d)]);have ap:eO (S++[qz (F.map Ft.d)]) (.loc ↑S) (.d g.d)=qz (.d .none,S++[qz ((F++[g]).map Ft.d)]):=by
     rw[aHv S (F.map Ft.d) _ (by rw[yAd];omega),yAx];rfl
    refine(_,[qz (.d (rs<*o)),qz (.d (.tuple ((~~~rs).map nD))),qz (.loc ↑S),qz (.d r.d)],S++[qz ((F++[g]).map Ft.d)],rfl,?_,F++[g],_,rfl,rfl,by simp,aP8 fs hr nx.op,aRo p fo hr nx,)
    erw[20,zL,o1,o2,rl,xT,ap])
 rw[yAd] at fl;refine(F,fl,fs,fo,?_,);have p1':jP (.one 3) (lv (d<$>8) zK) (xs (d<$>8) zL) [qz (.d (rs<*o)),qz (.d (.tuple ((~~~rs).map nD))),qz (.loc ↑S),qx] (S++[qz []])=qz (.nx [qz (.d (rs<*o)),qz (.d (.tuple ((~~~rs).map nD))),qz (.loc ↑S),c3],S++[qz (F.map Ft.d)]):=p1;have tk1:∀ x,yEv ↑S (S++[x])=S:=λ x=>List.take_left
 rw[bO rfl (d+8) _ S rfl];have hq50:=aF6 (d+7) rs o ();erw[11,aG8,hq50,kM,p1',sB,mX,sS,tk1]
def aCy:∀ (rs:List Rw) (ws:List Nat),eV ws rs->∀ (j:Nat) (r:Rw),rs[j]?=qz r->iJ (ws++(rs.take j).map (·.w)) r
 |[],_,_,j,r,h=>by simp at h
 |q::rs,ws,⟨h1,h2⟩,0,r,h=>by
   cases h;simpa using h1
 |q::rs,ws,⟨h1,h2⟩,j+1,r,h=>by
   have:=aCy rs (ws++[q.w]) h2 j r (by simpa using h);simpa using this
def aMF{a n:Nat}(h:a<n):∀ x∈[a],x<n:=λ x hx=>by
 rw[List.mem_singleton.mp hx];exact h
def aM1{a b n:Nat}(h:a<n)(h':b<n):∀ x∈[a,b],x<n:=λ x hx=>by
 rcases List.mem_cons.mp hx with rfl|hx
 .exact h
 .exact aMF h' x hx
def aZv{a b c n:Nat}(h:a<n)(h':b<n)(h'':c<n):∀ x∈[a,b,c],x<n:=λ x hx=>by
 rcases List.mem_cons.mp hx with rfl|hx
 .exact h
 .exact aM1 h' h'' x hx
def aNi:∀ x∈([]:List Nat),x<n:=λ x hx=>by simp at hx
section
variable {ws W:List Nat}{n:Nat}(hw:∀ a v, ws[a]?=qz v->g0 W a=v /\ 1 <= v /\ v <= 64 /\ a<n)
include hw
theorem qI{wd:Wd}{args:List Nat}(e:(args.take (bF wd))=[a])(h:ws[a]?=qz v)(k:RwOk (wd,w,args,) [v]):RwOk (wd,w,args,) (cW (wd,w,args,) W)/\∀ x∈args.take (bF wd),x<n:=by
 let(e1,_,_,e4):=hw a v h;have:cW (wd,w,args,) W=[v]:=by
  show(args.take (bF wd)).map (g0 W)=[v];rw[e,yAf,yDp,e1]
 rw[this,e];exact(k,aMF e4,)
theorem qF{wd:Wd}{args:List Nat}(e:(args.take (bF wd))=[a,b])(h:ws[a]?=qz v)(h':ws[b]?=qz u)(k:RwOk (wd,w,args,) [v,u]):RwOk (wd,w,args,) (cW (wd,w,args,) W)/\∀ x∈args.take (bF wd),x<n:=by
 let(e1,_,_,e4):=hw a v h;let(d1,_,_,d4):=hw b u h';have:cW (wd,w,args,) W=[v,u]:=by
  show(args.take (bF wd)).map (g0 W)=[v,u];rw[e,yAf,yAf,yDp,e1,d1]
 rw[this,e];exact(k,aM1 e4 d4,)
omit hw in
theorem aXS{wd:Wd}(h:iJ ws (wd,w,[],)):RwOk (wd,w,[],) (cW (wd,w,[],) W)/\∀ x∈yEv (bF wd) [],x<n:=by
 cases wd
 case «in» => exact(.inp h.1 h.2.1,aNi,)
 all_goals exact h.2.2.elim
theorem aY8{wd:Wd}(h:iJ ws (wd,w,[a],)):RwOk (wd,w,[a],) (cW (wd,w,[a],) W)/\∀ x∈yEv (bF wd) [a],x<n:=by
 cases wd
 case num=>exact(.num h.1 h.2.1 h.2.2,aNi,)
 case not=>exact qI hw rfl h.2.2 (.nt h.1 h.2.1)
 case cut=>
  let(v,q1,q2):=h.2.2;exact qI hw rfl q1 (.cut h.1 q2 (hw a v q1).2.2.1)
 case wide=>
  let(v,q1,q2):=h.2.2;exact qI hw rfl q1 (.wide (hw a v q1).2.1 q2 h.2.1)
 case sign=>
  let(v,q1,q2):=h.2.2;exact qI hw rfl q1 (.sign (hw a v q1).2.1 q2 h.2.1)
 all_goals exact h.2.2.elim
theorem aD6{wd:Wd}(bC:wd=.same\/wd=.less\/wd=.under)(q:w=1/\∃ v,ws[a]?=qz v/\ws[b]?=qz v)(e:bF wd=2):RwOk ⟨wd,w,[a,b]⟩ (cW ⟨wd,w,[a,b]⟩ W)/\∀ x∈yEv (bF wd) [a,b],x<n:=by let(rfl,v,q1,q2):=q;exact qF hw (by rw[e];rfl) q1 q2 (.cmp (hw a v q1).2.1 (hw a v q1).2.2.1 bC)
theorem aYH{wd:Wd}(h:iJ ws (wd,w,[a,b],)):RwOk (wd,w,[a,b],) (cW (wd,w,[a,b],) W)/\∀ x∈yEv (bF wd) [a,b],x<n:=by
 cases wd
 case left=>exact qI hw rfl h.2.2.1 (.sh h.1 h.2.1 (.inl rfl) h.2.2.2)
 case right=>exact qI hw rfl h.2.2.1 (.sh h.1 h.2.1 (.inr (.inl rfl)) h.2.2.2)
 case slide=>exact qI hw rfl h.2.2.1 (.sh h.1 h.2.1 (.inr (.inr rfl)) h.2.2.2)
 case and=>exact qF hw rfl h.2.2.1 h.2.2.2 (.bw h.1 h.2.1 (.inl rfl))
 case or=>exact qF hw rfl h.2.2.1 h.2.2.2 (.bw h.1 h.2.1 (.inr (.inl rfl)))
 case xor=>exact qF hw rfl h.2.2.1 h.2.2.2 (.bw h.1 h.2.1 (.inr (.inr rfl)))
 case add=>exact qF hw rfl h.2.2.1 h.2.2.2 (.sm (s:=.add) h.1 h.2.1)
 case sub=>exact qF hw rfl h.2.2.1 h.2.2.2 (.sm (s:=.sub) h.1 h.2.1)
 case mul=>exact qF hw rfl h.2.2.1 h.2.2.2 (.sm (s:=.mul) h.1 h.2.1)
 case same=>exact aD6 hw (.inl rfl) h.2.2 rfl
 case less=>exact aD6 hw (.inr (.inl rfl)) h.2.2 rfl
 case under=>exact aD6 hw (.inr (.inr rfl)) h.2.2 rfl
 all_goals exact h.2.2.elim
theorem aZe{wd:Wd}(h:iJ ws (wd,w,[a,b,c],)):RwOk (wd,w,[a,b,c],) (cW (wd,w,[a,b,c],) W)/\∀ x∈yEv (bF wd) [a,b,c],x<n:=by
 cases wd
 case pick=>
  let(q1,q2,q3):=h.2.2;let(e1,_,_,e4):=hw a _ q1;let(d1,_,_,d4):=hw b _ q2;let(c1,_,_,c4):=hw c _ q3;have:cW (.pick,w,[a,b,c],) W=[1,w,w]:=by
   show [g0 W a,g0 W b,g0 W c]=[1,w,w];rw[e1,d1,c1]
  rw[this];exact(.pick h.1 h.2.1,aZv e4 d4 c4,)
 all_goals exact h.2.2.elim
omit hw in
theorem aX0{wd:Wd}(h:iJ ws (wd,w,a::b::c::e::t,)):False:=by
 cases wd
 all_goals exact h.2.2
theorem aS9(h:iJ ws r):RwOk r (cW r W)/\∀ x∈r.args.take (bF r.wd),x<n:=by
 let(wd,w,args):=r
 match args,h with
 |[],h=>exact aXS h|[a],h=>exact aY8 hw h|[a,b],h=>exact aYH hw h|[a,b,c],h=>exact aZe hw h|_::_::_::_::_,h=>exact(aX0 h).elim
end
def aVE(h:eV [] rs)(hl:↑rs<=100):Prg rs:=by
 have ws:∀ (j:Nat) (r:Rw),rs[j]?=qz r->1<=r.w/\r.w<=64:=λ j r hr=>by
  have:=aCy rs [] h j r hr;exact(this.1,this.2.1,)
 refine(hl,λ j r hr=>?_,ws,);have ok:=aCy rs [] h j r hr;rw[yGa] at ok;refine aS9 (n:=j) (λ a v ha=>?_) ok;have hj:j<↑rs:=(gIm hr).1;have haj:a<j:=by
  have:=(gIm ha).1;rw[yAd,yBo] at this;omega
 rw[yAg,yEa haj] at ha;let(q,hq,rfl):=Option.map_eq_some_iff.mp ha;let(w1,w2):=ws a q hq;refine(?_,w1,w2,haj,);show(~~~rs).getD a 0=q.w;rw[xAg,yAg,hq];rfl
def aYT{m:Nat}(h:m[i]! =true):i<bl m:=by
 by_cases c:i<bl m
 .exact c
 .rw[dM (qQ m) ()] at h;cases h
def aKj(i:Nat):bl (2^i)=i+1:=aCM (yDz (·) ()) (.inr (by simp))
def aV8(i:Nat):(2:Nat)^i≠0:=yFm (xAe i)
def mQ(i t:Nat):(2^i)[t]! =decide (i=t):=yFk
def jK(x w:Nat):Nat:=if x/2^w=0 then x else (x&&&(2^w-1))|||2^(w-1)
def uW(hw:1<=w):(jK x w)[t]! =true ↔ (t<w/\x[t]! =true)\/(t=w-1/\∃ j,w<=j/\x[j]! =true):=by
 unfold jK;split
 .rename_i h;rw[aCd] at h;constructor
  .intro z;refine .inl (?_,z,);by_cases c:t<w
   .exact c
   .rw[h t ()] at z;cases z
  .rintro (⟨_,z⟩|⟨_,j,h1,h2⟩)
   .exact z
   .rw[h j h1] at h2;cases h2
 .rename_i h;rw[xAp,yAk,dW,mQ];have h':∃ j,w<=j/\x[j]! =true:=by
   rw[aCd] at h;by_cases c:∃ j,w<=j/\x[j]! =true
   .exact c
   .refine absurd (λ i hi=>?_) h;cases q:x[i]! with
    |false=>rfl|true=>exact absurd (i,hi,q,) c
  constructor
  .intro z;simp only[yEf,yAs,decide_eq_true_eq] at z;rcases z with ⟨z1,z2⟩|z
   .exact .inl (z2,z1,)
   .exact .inr (z.symm,h',)
  .rintro (⟨z1,z2⟩|⟨z,_⟩)
   .simp[z1,z2]
   .simp[z]
def aIP(hw:1<=w):jK x w<2^w:=by
 apply yCv;intro i hi;cases q:(jK x w)[i]! with
 |false=>rfl
 |true=>
   rcases (uW hw).mp q with ⟨h,_⟩|⟨h,_⟩<;>omega
structure Fc where
 N:Nat
 O:Nat
 A:Nat
noncomputable instance:Inhabited Fc:=⟨(0,0,0,)⟩
def dD(wd:Wd)(w kk:Nat)(ws:List Nat)(fs:List Fc)(m:Nat):List Nat:=
 if m=0 then yAe (bF wd) 0 else
 match wd with
 |.in|.num=>[]
 |.not|.cut=>[m]
 |.xor=>[m,m]|.and=>[fR m (fR (fs.getD 1 default).N (fs.getD 0 default).N),fR m (fs.getD 0 default).N]|.or=>[fR m (fR (fs.getD 1 default).O (fs.getD 0 default).O),fR m (fs.getD 0 default).O]
 |.add|.sub=>[2^bl m-1,2^bl m-1]
 |.mul=>[2^(bl m-min (bl m) (lr (fs.getD 1 default).N))-1,2^(bl m-min (bl m-min (bl m) (lr (fs.getD 1 default).N)) (lr (fs.getD 0 default).N))-1]|.left=>[m/2^kk]|.right=>[(m*2^kk)&&&(2^w-1)]|.slide=>[jK (m*2^kk) w]|.wide=>[m&&&(2^ws.getD 0 0-1)]|.sign=>[jK m (ws.getD 0 0)]
 |.same|.less|.under=>[2^ws.getD 0 0-1,2^ws.getD 1 0-1]
 |.pick=>if (fs.getD 0 default).O=1 then [1,m,0] else if (fs.getD 0 default).N=1 then [1,0,m] else [1,m,m]
def yI(wd:Wd)(w:Nat)(ws:List Nat):Prop:=1<=w/\w<=64/\match wd with
 |.in|.num=>ws=[]
 |.not|.left|.right|.slide=>ws=[w]
 |.and|.or|.xor|.add|.sub|.mul=>ws=[w,w]
 |.cut=>∃ v,ws=[v]/\w<=v/\v<=64
 |.wide|.sign=>∃ v,ws=[v]/\v<=w/\1<=v
 |.same|.less|.under=>w=1/\∃ v,ws=[v,v]/\1<=v/\v<=64
 |.pick=>ws=[1,w,w]
def aQp{wd:Wd}:↑(dD wd w kk ws fs m)=bF wd:=by
 unfold dD;split
 .simp
 .cases wd<;>first|rfl|(simp only;split<;>first|rfl|(split<;>rfl))
def sJ{P:Nat->Prop}(f:Nat->Nat)(hf:∀ i j,i<=j->f i<=f j)(h0:m≠0)(t:Nat):(2^f (bl m)-1)[t]! =true ↔ ∃ i,m[i]! =true/\(2^f (bl (2^i))-1)[t]! =true:=by
 rw[dW,decide_eq_true_eq];constructor
 .intro h;refine(bl m-1,sQ h0,?_,);rw[dW,decide_eq_true_eq,aKj];have:=aCB h0;rw[show bl m-1+1=bl m by omega];exact h
 .rintro ⟨i,h1,h2⟩;rw[dW,decide_eq_true_eq,aKj] at h2;exact xAb h2 (hf _ _ (aYT h1))
def mW{x:Nat}(h:m≠0):x[t]! =true ↔ ∃ i,m[i]! =true/\x[t]! =true:=by
 constructor
 .intro z;exact(bl m-1,sQ h,z,)
 .rintro ⟨_,_,z⟩;exact z
def lG{m:Nat}:m[t]! =true ↔ ∃ i,m[i]! =true/\(2^i)[t]! =true:=by
 constructor
 .intro z;exact(t,z,by rw[mQ];simp,)
 .rintro ⟨i,h1,h2⟩;rw[mQ,decide_eq_true_eq] at h2;rw[<- h2];exact h1
def aAE:(fR m y)[t]! =true ↔ ∃ i,m[i]! =true/\(fR (2^i) y)[t]! =true:=by
 rw[aC5];constructor
 .intro z;rw[yAs] at z;exact(t,z.1,by rw[aC5,mQ];simp[z.2],)
 .rintro ⟨i,h1,h2⟩;rw[aC5,mQ,yAs,decide_eq_true_eq] at h2;let(rfl,h3):=h2;rw[h1,h3];rfl
def aCm(x k t:Nat):(x*2^k)[t]! =(decide (k<=t)&&x[(t-k)]!):=by rw[Nat.testBit_mul_two_pow]
def aI2{f:Nat->Nat}(hw:1<=w)(hf:∀ t,(f m)[t]! =true ↔ ∃ i,m[i]! =true/\(f (2^i))[t]! =true):(jK (f m) w)[t]! =true ↔ ∃ i,m[i]! =true/\(jK (f (2^i)) w)[t]! =true:=by
 rw[uW hw];constructor
 .rintro (⟨h1,h2⟩|⟨h1,j,h2,h3⟩)
  .let(i,h3,h4):=(hf t).mp h2;exact(i,h3,(uW hw).mpr (.inl (h1,h4,)),)
  .let(i,h4,h5):=(hf j).mp h3;exact(i,h4,(uW hw).mpr (.inr (h1,j,h2,h5,)),)
 .rintro ⟨i,h1,h2⟩;rcases (uW hw).mp h2 with ⟨h3,h4⟩|⟨h3,j,h4,h5⟩
  .exact .inl (h3,(hf t).mpr (i,h1,h4,),)
  .exact .inr (h3,j,h4,(hf j).mpr (i,h1,h5,),)
def aKW:(m*2^k)[t]! =true ↔ ∃ i,m[i]! =true/\(2^i*2^k)[t]! =true:=by
 rw[aCm,yAs,decide_eq_true_eq];constructor
 .rintro ⟨h1,h2⟩;exact(t-k,h2,by rw[aCm,mQ];simp[h1],)
 .rintro ⟨i,h1,h2⟩;rw[aCm,mQ,yAs,decide_eq_true_eq,decide_eq_true_eq] at h2;exact(h2.1,by rw[<- h2.2];exact h1,)
def aK1{f:Nat->Nat}(hf:∀ t,(f m)[t]! =true ↔ ∃ i,m[i]! =true/\(f (2^i))[t]! =true):(f m&&&y)[t]! =true ↔ ∃ i,m[i]! =true/\(f (2^i)&&&y)[t]! =true:=by
 rw[yAk,yAs];constructor
 .rintro ⟨h1,h2⟩;let(i,h3,h4):=(hf t).mp h1;exact(i,h3,by rw[yAk,h4,h2];rfl,)
 .rintro ⟨i,h1,h2⟩;rw[yAk,yAs] at h2;exact((hf t).mpr (i,h1,h2.1,),h2.2,)
def aUw:(m/2^k)[t]! =true ↔ ∃ i,m[i]! =true/\(2^i/2^k)[t]! =true:=by
 rw[iX];constructor
 .intro h;exact(k+t,h,by rw[iX,mQ];simp,)
 .rintro ⟨i,h1,h2⟩;rw[iX,mQ,decide_eq_true_eq] at h2;rw[<- h2];exact h1
def pZ{m:Nat}:(0:Nat)[t]! =true ↔ ∃ i,m[i]! =true/\(0:Nat)[t]! =true:=by simp
def aAP(x a:Nat):x-min x a=x-a:=by
 rcases yFq x a with z|z
 .rw[yCo z,yBe,Nat.sub_eq_zero_of_le z]
 .rw[yCq z]
def aQR{a b i j:Nat}(h:i<=j):i-min (i-min i a) b<=j-min (j-min j a) b:=by
 have q:i-(i-a)<=j-(j-a):=by
  rw[Nat.sub_sub_eq_min,Nat.sub_sub_eq_min];exact Nat.le_min.mpr (xAh (yCn _ _) h,yEo _ _,)
 rw[aAP,aAP];rcases yFq (j-a) b with z|z
 .rw[yCo z,yCo (xAh (yGv h a) z)];exact q
 .rw[yCq z];rcases yFq (i-a) b with y|y
  .rw[yCo y];exact xAh q (yEm z j)
  .rw[yCq y];exact yGv h b
def aST(wd:Wd)(w kk:Nat)(ws:List Nat)(fs:List Fc)(m c t:Nat)(hk:yI wd w ws):((dD wd w kk ws fs m).getD c 0)[t]! =true ↔ ∃ i,m[i]! =true/\((dD wd w kk ws fs (2^i)).getD c 0)[t]! =true:=by
 by_cases h0:m=0
 .subst h0;have e:(dD wd w kk ws fs 0).getD c 0=0:=by
   unfold dD;rw[if_pos rfl,xAg,yDc];split<;>rfl
  rw[e];simp
 .have two:∀ {a b:Nat}{f g:Nat->Nat},(a[t]! =true ↔ ∃ i,m[i]! =true/\(f i)[t]! =true)->(b[t]! =true ↔ ∃ i,m[i]! =true/\(g i)[t]! =true)->(([a,b].getD c 0)[t]! =true ↔ ∃ i,m[i]! =true/\([f i,g i].getD c 0)[t]! =true):=λ {a b f g} h1 h2=>by
   match c with
   |0=>exact h1|1=>exact h2|c+2=>exact pZ
  have one:∀ {a:Nat}{f:Nat->Nat},(a[t]! =true ↔ ∃ i,m[i]! =true/\(f i)[t]! =true)->(([a].getD c 0)[t]! =true ↔ ∃ i,m[i]! =true/\([f i].getD c 0)[t]! =true):=λ {a f} h1=>by
   match c with
   |0=>exact h1|c+1=>exact pZ
  have three:∀ {a b e:Nat}{f g h:Nat->Nat},(a[t]! =true ↔ ∃ i,m[i]! =true/\(f i)[t]! =true)->(b[t]! =true ↔ ∃ i,m[i]! =true/\(g i)[t]! =true)->(e[t]! =true ↔ ∃ i,m[i]! =true/\(h i)[t]! =true)->(([a,b,e].getD c 0)[t]! =true ↔ ∃ i,m[i]! =true/\([f i,g i,h i].getD c 0)[t]! =true):=λ {a b e f g h} h1 h2 h3=>by
   match c with
   |0=>exact h1|1=>exact h2|2=>exact h3|c+3=>exact pZ
  have e1:∀ i,dD wd w kk ws fs (2^i)=_:=λ i=>if_neg (aV8 i)
  have e0:dD wd w kk ws fs m=_:=if_neg h0;simp only[e1];rw[e0];let(cB,cI,hk):=hk;cases wd with
  | «in» => exact pZ|num=>exact pZ|not=>exact one lG|cut=>exact one lG|xor=>exact two lG lG|and=>exact two aAE aAE|or=>exact two aAE aAE|add=>exact two (sJ (P:=λ _=>True) id (λ _ _ h=>h) h0 t) (sJ (P:=λ _=>True) id (λ _ _ h=>h) h0 t)|sub=>exact two (sJ (P:=λ _=>True) id (λ _ _ h=>h) h0 t) (sJ (P:=λ _=>True) id (λ _ _ h=>h) h0 t)|mul=>exact two (sJ (P:=λ _=>True) (λ h=>h-min h (lr (fs.getD 1 default).N)) (λ _ _ h=>by rw[aAP,aAP];exact yGv h _) h0 t) (sJ (P:=λ _=>True) (λ h=>h-min (h-min h (lr (fs.getD 1 default).N)) (lr (fs.getD 0 default).N)) (λ _ _ h=>aQR h) h0 t)|left=>exact one aUw|right=>exact one (aK1 (f:=λ m=>m*2^kk) λ t=>aKW)|slide=>exact one (aI2 (f:=λ m=>m*2^kk) cB λ t=>aKW)|wide=>exact one (aK1 (f:=λ m=>m) λ t=>lG)
  |sign=>
    let(v,rfl,h1,h2):=hk;exact one (aI2 (f:=λ m=>m) h2 λ t=>lG)
  |same=>exact two (mW h0) (mW h0)|less=>exact two (mW h0) (mW h0)|under=>exact two (mW h0) (mW h0)
  |pick=>
    simp only;split
    .exact three (mW h0) lG pZ
    .split
     .exact three (mW h0) pZ lG
     .exact three (mW h0) lG lG
def iH(h:k<=v):2^k-1<2^v:=by have h1:=xAe k;have h2:(2:Nat)^k<=2^v:=yAw (·) h;omega
def aAA(h:m<2^v):fR m y<2^v:=xAi (yGl _ _) h
def aT0(wd:Wd)(w kk:Nat)(ws:List Nat)(fs:List Fc)(m c v:Nat)(hk:yI wd w ws)(hm:m<2^w)(hv:ws[c]?=qz v):(dD wd w kk ws fs m).getD c 0<2^v:=by
 by_cases h0:m=0
 .subst h0;have e:(dD wd w kk ws fs 0).getD c 0=0:=by
   unfold dD;rw[if_pos rfl,xAg,yDc];split<;>rfl
  rw[e];exact xAe _
 have hb:bl m<=w:=tE hm;have e0:dD wd w kk ws fs m=_:=if_neg h0;rw[e0];have one:∀ {a u:Nat},ws=[u]->a<2^u->[a].getD c 0<2^v:=λ {a u} e h=>by
  subst e
  match c,hv with
  |0,hv=>cases hv;exact h|c+1,hv=>simp at hv
 have two:∀ {a b u x:Nat},ws=[u,x]->a<2^u->b<2^x->[a,b].getD c 0<2^v:=λ {a b u x} e h h2=>by
  subst e
  match c,hv with
  |0,hv=>cases hv;exact h|1,hv=>cases hv;exact h2|c+2,hv=>simp at hv
 have three:∀ {a b e u x y:Nat},ws=[u,x,y]->a<2^u->b<2^x->e<2^y->[a,b,e].getD c 0<2^v:=λ {a b e u x y} e' h h2 h3=>by
  subst e'
  match c,hv with
  |0,hv=>cases hv;exact h|1,hv=>cases hv;exact h2|2,hv=>cases hv;exact h3|c+3,hv=>simp at hv
 let(cB,cI,hk):=hk;cases wd with
 | «in» => rw[hk] at hv;simp at hv|num=>rw[hk] at hv;simp at hv|not=>exact one hk hm
 |cut=>
   let(u,e,h1,h2):=hk;exact one e (xAb hm (yAw (·) h1))
 |xor=>exact two hk hm hm|and=>exact two hk (aAA hm) (aAA hm)|or=>exact two hk (aAA hm) (aAA hm)|add=>exact two hk (iH hb) (iH hb)|sub=>exact two hk (iH hb) (iH hb)|mul=>exact two hk (iH ()) (iH ())|left=>exact one hk (xAi (Nat.div_le_self _ _) hm)|right=>exact one hk (Nat.and_lt_two_pow _ (iH (yAb _)))|slide=>exact one hk (aIP cB)
 |wide=>
   let(u,e,h1,h2):=hk;subst e;exact one rfl (Nat.and_lt_two_pow _ (iH (yAb _)))
 |sign=>
   let(u,e,h1,h2):=hk;subst e;exact one rfl (aIP h2)
 |same=>
   let(_,u,e,h1,h2):=hk;subst e;exact two rfl (iH (yAb _)) (iH (yAb _))
 |less=>
   let(_,u,e,h1,h2):=hk;subst e;exact two rfl (iH (yAb _)) (iH (yAb _))
 |under=>
   let(_,u,e,h1,h2):=hk;subst e;exact two rfl (iH (yAb _)) (iH (yAb _))
 |pick=>
   simp only;split
   .exact three hk (·) hm (xAe _)
   .split
    .exact three hk (·) (xAe _) hm
    .exact three hk (·) hm hm
def Fc.d(f:Fc):D:=.tuple [.int f.N,.int f.O,.int f.A]
def aBM(f:Fc):bD f.d (.int 0)=qz (.int f.N):=rfl
def aBB(f:Fc):bD f.d (.int 1)=qz (.int f.O):=rfl
def aLb(a:D):bD (.tuple [a]) (.int 0)=qz a:=rfl
def aBk(a b:D):bD (.tuple [a,b]) (.int 0)=qz a:=rfl
def aBs(a b:D):bD (.tuple [a,b]) (.int 1)=qz b:=rfl
def aZl(a b c:D):bD (.tuple [a,b,c]) (.int 0)=qz a:=rfl
def aGy(d a b m:Nat)(S:aC):cl fns (d+1) 12 [.d (.int a),.d (.int b),.d (.int m)] S=qz (.d (.tuple [.int ((fR m (fR b a):Nat):Int),.int ((fR m a:Nat):Int)]),S):=by rw[bO rfl d _ S rfl];erw[11,aFR,aJb,aHr]
def aRc(i j:Nat):(if ((j:Nat):Int)<((i:Nat):Int) then ((j:Nat):Int) else ((i:Nat):Int))=((min i j:Nat):Int):=by
 by_cases c:j<i
 .rw[if_pos (),yCq ()]
 .rw[if_neg (),yCo ()]
def aOb(d a b m:Nat)(hm:m<2^64)(S:aC):cl fns (d+3) 13 [.d (.int a),.d (.int b),.d (.int m)] S=qz (.d (.tuple [.int ((2^(bl m-min (bl m) (lr b))-1:Nat):Int),.int ((2^(bl m-min (bl m-min (bl m) (lr b)) (lr a))-1:Nat):Int)]),S):=by have hb:=tE hm;have e1:((bl m:Nat):Int)-((min (bl m) (lr b):Nat):Int)=((bl m-min (bl m) (lr b):Nat):Int):=();have e2:((bl m:Nat):Int)-((min (bl m-min (bl m) (lr b)) (lr a):Nat):Int)=((bl m-min (bl m-min (bl m) (lr b)) (lr a):Nat):Int):=();rw[bO rfl (d+2) _ S rfl];erw[20,eY,aGU,aAj (d+1),aDE d,kL,aRc,cX,e1,e2,dG (d+1) (bl m-min (bl m) (lr b)) (),dG (d+1) (bl m-min (bl m-min (bl m) (lr b)) (lr a)) ()]
def aHk(d y w:Nat)(hw:1<=w)(cI:w<=1000)(S:aC):cl fns (d+2) 14 [.d (.int y),.d (.int w)] S=qz (.d (.int ((jK y w:Nat):Int)),S):=by
 have e1:(w:Int)-1=((w-1:Nat):Int):=();rw[bO rfl (d+1) _ S rfl];unfold jK;by_cases c:y/2^w=0
 .have d1:(y/2^w==0)=true:=by rw[beq_iff_eq];exact c
  rw[if_pos c];erw[11,aDc,kA,cK,dY,d1]
 .have d1:(y/2^w==0)=false:=by rw[beq_eq_false_iff_ne];exact c
  rw[if_neg c];have hq51:=dG d w ();have hq52:=iU (show w-1<=100000 by omega);erw[11,aDc,kA,cK,dY,d1,hq51,dR,cX,e1,hq52,gB]
def aSb(d w kk m:Nat)(S:aC):cl fns (d+3) 15 [.d (.str "left"),.d (.int w),.d (.int kk),.d (.int m)] S=qz (.d (.int ((m/2^kk:Nat):Int)),S):=by have c1:aV .Eq (.str "left") (.str "left")=qz (.bool true):=cD .left .left;rw[bO rfl (d+2) _ S rfl];erw[11,zN,c1,kA]
def aRh(d w kk m:Nat)(hw:w<=64)(hk:kk<=64)(hm:m<2^64)(S:aC):cl fns (d+3) 15 [.d (.str "right"),.d (.int w),.d (.int kk),.d (.int m)] S=qz (.d (.int (((m*2^kk)&&&(2^w-1):Nat):Int)),S):=by have c1:aV .Eq (.str "right") (.str "left")=qz (.bool false):=cD .right .left;have c2:aV .Eq (.str "right") (.str "right")=qz (.bool true):=cD .right .right;rw[bO rfl (d+2) _ S rfl];have hq53:=vG hm (show 64+kk<=100000 by omega);have hq54:=dG (d+1) w ();erw[11,zN,c1,c2,hq53,hq54,dR]
def aQn(d w kk m:Nat)(cB:1<=w)(hw:w<=64)(hk:kk<=64)(hm:m<2^64)(S:aC):cl fns (d+3) 15 [.d (.str "slide"),.d (.int w),.d (.int kk),.d (.int m)] S=qz (.d (.int ((jK (m*2^kk) w:Nat):Int)),S):=by have c1:aV .Eq (.str "slide") (.str "left")=qz (.bool false):=cD .slide .left;have c2:aV .Eq (.str "slide") (.str "right")=qz (.bool false):=cD .slide .right;rw[bO rfl (d+2) _ S rfl];have hq55:=vG hm (show 64+kk<=100000 by omega);erw[11,zN,c1,c2,hq55,aHk d _ w cB ()]
def aN4(d:Nat)(f:Fc)(m:Nat)(S:aC):cl fns (d+1) 16 [.d f.d,.d (.int m)] S=qz (.d (.tuple ((if f.O=1 then [1,m,0] else if f.N=1 then [1,0,m] else [1,m,m]).map nD)),S):=by
 rw[bO rfl d _ S rfl];by_cases c1:f.O=1
 .have d1:(f.O==1)=true:=by rw[beq_iff_eq];exact c1
  rw[if_pos c1];erw[11,zR,aBB,cK,pT,d1]
 .have d1:(f.O==1)=false:=by rw[beq_eq_false_iff_ne];exact c1
  rw[if_neg c1];by_cases c2:f.N=1
  .have d2:(f.N==1)=true:=by rw[beq_iff_eq];exact c2
   rw[if_pos c2];erw[11,zR,aBB,aBM,cK,pT,d1,d2]
  .have d2:(f.N==1)=false:=by rw[beq_eq_false_iff_ne];exact c2
   rw[if_neg c2];erw[11,zR,aBB,aBM,cK,pT,d1,d2]
def vZ(wd:Wd)(args:List Nat)(kk:Nat):Prop:=match wd with
 |.in=>args=[]|.num=>∃ n,args=[n]
 |.not|.cut|.wide|.sign=>∃ a,args=[a]
 |.left|.right|.slide=>∃ a,args=[a,kk]/\kk<64
 |.pick=>∃ a b c,args=[a,b,c]|_=>∃ a b,args=[a,b]
def aCP{wd:Wd}(h:vZ wd args kk):↑(args.take (bF wd))=bF wd:=by
 cases wd<;>first
  |(obtain rfl:=h;rfl)
  |(let(a,b,c,rfl):=h;rfl)
  |(let(a,b,rfl):=h;rfl)
  |(let(a,rfl,_):=h;rfl)
  |(let(a,rfl):=h;rfl)
def aLn(a:Wd):aV .In (.str a.s) (.tuple [.str "add",.str "sub"])=qz (.bool (decide (a=.add\/a=.sub))):=by cases a<;>rfl
def aXC{wd:Wd}:bD (Rw.mk wd w [a,k]).d (.int 3)=qz (.int k):=rfl
def aEB{α:Type}{l:List α}(h:↑l=2):∃ a b,l=[a,b]:=by
 match l,h with
 |[a,b],_=>exact(a,b,rfl,)
def aZr{α:Type}{l:List α}(h:↑l=3):∃ a b c,l=[a,b,c]:=by
 match l,h with
 |[a,b,c],_=>exact(a,b,c,rfl,)
noncomputable abbrev eA(R W G:D)(m:Nat)(x:Wd):aX:=[qz (.d R),qz (.d W),qz (.d G),(m:),qz (.d (.str x.s))]
def aK:Nat->Sx
 |0=>bK aF4|k+1=>bK (aK k)
section
variable (C:Calls)(R W G:D)(m:Nat)(S:aC)(x:Wd)
theorem aE1:tv C (.cmp .Eq (.var 4) (.str "and")) (eA R W G m x) S=qz (decide (x=.and),S):=dS rfl (cD x .and)
theorem aMU:tv C (.cmp .Eq (.var 4) (.str "or")) (eA R W G m x) S=qz (decide (x=.or),S):=dS rfl (cD x .or)
theorem aMs:tv C (.cmp .In (.var 4) (.tup (.cons (.str "add") (.cons (.str "sub") .nil)))) (eA R W G m x) S=qz (decide (x=.add\/x=.sub),S):=jB rfl rfl (aLn x)
theorem aNe:tv C (.cmp .Eq (.var 4) (.str "mul")) (eA R W G m x) S=qz (decide (x=.mul),S):=dS rfl (cD x .mul)
theorem aMk:tv C (.cmp .In (.var 4) (.con "SHIFTS" uY)) (eA R W G m x) S=qz (decide (x=.left\/x=.right\/x=.slide),S):=jB rfl rfl (aC0 x)
theorem aE3:tv C (.cmp .Eq (.var 4) (.str "wide")) (eA R W G m x) S=qz (decide (x=.wide),S):=dS rfl (cD x .wide)
theorem aMO:tv C (.cmp .Eq (.var 4) (.str "sign")) (eA R W G m x) S=qz (decide (x=.sign),S):=dS rfl (cD x .sign)
theorem aEG:tv C (.cmp .In (.var 4) (.con "COMPARES" oF)) (eA R W G m x) S=qz (decide (x=.same\/x=.less\/x=.under),S):=jB rfl rfl (aAF x)
theorem aNd:tv C (.cmp .Eq (.var 4) (.str "pick")) (eA R W G m x) S=qz (decide (x=.pick),S):=dS rfl (cD x .pick)
variable {C R W G m S}{r:Option (Fl×aC)}
theorem jQ(e:aK k=.seq (.ifs c t .skip) (aK (k+1)))(h:tv C c (eA R W G m x) S=qz (b,S))(hb:b=false)(g:xs C (aK (k+1)) (eA R W G m x) S=r):xs C (aK k) (eA R W G m x) S=r:=by subst hb;rw[e];exact bE h g
theorem aM0(h:(decide (x=.and)||decide (x=.or))=false)(g:xs C (aK 2) (eA R W G m x) S=r):xs C (aK 0) (eA R W G m x) S=r:=by let(h1,h2):=Bool.or_eq_false_iff.mp h;exact jQ x rfl (aE1 C R W G m S x) h1 (jQ x rfl (aMU C R W G m S x) h2 g)
theorem aMt(h:(decide (x=.and)||decide (x=.or))=false)(h2:decide (x=.add\/x=.sub)=false)(g:xs C (aK 3) (eA R W G m x) S=r):xs C (aK 0) (eA R W G m x) S=r:=aM0 x h (jQ x rfl (aMs C R W G m S x) h2 g)
theorem aMX(h:(decide (x=.and)||decide (x=.or))=false)(h2:(decide (x=.add\/x=.sub)||decide (x=.mul))=false)(g:xs C (aK 4) (eA R W G m x) S=r):xs C (aK 0) (eA R W G m x) S=r:=by let(h3,h4):=Bool.or_eq_false_iff.mp h2;exact aMt x h h3 (jQ x rfl (aNe C R W G m S x) h4 g)
theorem aEX(h:(decide (x=.and)||decide (x=.or))=false)(h2:(decide (x=.add\/x=.sub)||decide (x=.mul))=false)(h5:decide (x=.left\/x=.right\/x=.slide)=false)(g:xs C (aK 5) (eA R W G m x) S=r):xs C (aK 0) (eA R W G m x) S=r:=aMX x h h2 (jQ x rfl (aMk C R W G m S x) h5 g)
theorem aEK(h:(decide (x=.and)||decide (x=.or))=false)(h2:(decide (x=.add\/x=.sub)||decide (x=.mul))=false)(h5:decide (x=.left\/x=.right\/x=.slide)=false)(h6:(decide (x=.wide)||decide (x=.sign))=false)(g:xs C (aK 7) (eA R W G m x) S=r):xs C (aK 0) (eA R W G m x) S=r:=by let(h3,h4):=Bool.or_eq_false_iff.mp h6;exact aEX x h h2 h5 (jQ x rfl (aE3 C R W G m S x) h3 (jQ x rfl (aMO C R W G m S x) h4 g))
theorem aZP(h:(decide (x=.and)||decide (x=.or))=false)(h2:(decide (x=.add\/x=.sub)||decide (x=.mul))=false)(h5:decide (x=.left\/x=.right\/x=.slide)=false)(h6:(decide (x=.wide)||decide (x=.sign))=false)(h8:(decide (x=.same\/x=.less\/x=.under)||decide (x=.pick))=false)(g:xs C (aK 9) (eA R W G m x) S=r):xs C (aK 0) (eA R W G m x) S=r:=by let(h3,h4):=Bool.or_eq_false_iff.mp h8;exact aEK x h h2 h5 h6 (jQ x rfl (aEG C R W G m S x) h3 (jQ x rfl (aNd C R W G m S x) h4 g))
end
section
variable (d w kk m:Nat)(ws:List Nat)(R W:D)(S:aC)(h0:m≠0)
include h0
theorem aSN(f g:Fc):xs (d<$>3) (aK 0) (eA R W (.tuple ([f,g].map Fc.d)) m .and) S=qz (.rt (.d (.tuple ((dD .and w kk ws [f,g] m).map nD))),S):=by rw[show dD .and w kk ws [f,g] m=_ from if_neg h0];refine cC (aE1 _ _ _ _ _ _ .and) (bH ?_);erw[0,aBk,aBs,aBM,aGy (d+2),nD,yFl,yHh]
theorem aUc(f g:Fc):xs (d<$>3) (aK 0) (eA R W (.tuple ([f,g].map Fc.d)) m .or) S=qz (.rt (.d (.tuple ((dD .or w kk ws [f,g] m).map nD))),S):=by rw[show dD .or w kk ws [f,g] m=_ from if_neg h0];refine jQ .or rfl (aE1 _ _ _ _ _ _ .or) rfl (cC (aMU _ _ _ _ _ _ .or) (bH ?_));erw[0,aBk,aBs,aBB,aGy (d+2),nD,yFl,yHh]
theorem aIN(x:Wd)(hx:decide (x=.add\/x=.sub)=true)(h1:(decide (x=.and)||decide (x=.or))=false)(G:D)(bm:m<2^10000):xs (d<$>3) (aK 0) (eA R W G m x) S=qz (.rt (.d (.tuple ([2^bl m-1,2^bl m-1].map nD))),S):=by have t:=aMs (d<$>3) R W G m S x;rw[hx] at t;refine aM0 x h1 (cC t (bH ?_));erw[0,aId (d+1) m _ bm,nD]
theorem aSi(f g:Fc)(hm:m<2^64):xs (d<$>3) (aK 0) (eA R W (.tuple ([f,g].map Fc.d)) m .mul) S=qz (.rt (.d (.tuple ((dD .mul w kk ws [f,g] m).map nD))),S):=by rw[show dD .mul w kk ws [f,g] m=_ from if_neg h0];refine aMt .mul rfl rfl (cC (aNe _ _ _ _ _ _ .mul) (bH ?_));erw[20,aBk,aBs,aBM,aOb d f.N g.N m hm,nD,yFl,yHh]
theorem aDx(x:Wd)(hx:decide (x=.left\/x=.right\/x=.slide)=true)(h1:(decide (x=.and)||decide (x=.or))=false)(h2:(decide (x=.add\/x=.sub)||decide (x=.mul))=false)(a:Nat)(G:D){z:Nat}(sl:cl fns (d+3) 15 [.d (.str x.s),.d (.int w),.d (.int kk),.d (.int m)] S=qz (.d (.int z),S)):xs (d<$>3) (aK 0) (eA (Rw.mk x w [a,kk]).d W G m x) S=qz (.rt (.d (.tuple ([z].map nD))),S):=by have t:=aMk (d<$>3) (Rw.mk x w [a,kk]).d W G m S x;rw[hx] at t;have r1:bD (Rw.mk x w [a,kk]).d (.int 1)=qz (.int w):=nI _;refine aMX x h1 h2 (cC t (bH ?_));erw[20,r1,aXC,sl,nD]
theorem aQv(v:Nat)(hv:v<=64)(G:D):xs (d<$>3) (aK 0) (eA R (.tuple ([v].map nD)) G m .wide) S=qz (.rt (.d (.tuple ([m&&&(2^v-1)].map nD))),S):=by refine aEX .wide rfl rfl rfl (cC (aE3 _ _ _ _ _ _ .wide) (bH ?_));have hq56:=dG (d+2) v ();erw[0,nD,aLb,hq56,dR]
theorem aRa(v:Nat)(hv1:1<=v)(hv:v<=64)(G:D):xs (d<$>3) (aK 0) (eA R (.tuple ([v].map nD)) G m .sign) S=qz (.rt (.d (.tuple ([jK m v].map nD))),S):=by refine aEX .sign rfl rfl rfl (jQ .sign rfl (aE3 _ _ _ _ _ _ .sign) rfl (cC (aMO _ _ _ _ _ _ .sign) (bH ?_)));have hq57:=aHk (d+1) m v hv1 ();erw[0,nD,aLb,hq57]
theorem aDq(x:Wd)(hx:decide (x=.same\/x=.less\/x=.under)=true)(h1:(decide (x=.and)||decide (x=.or))=false)(h2:(decide (x=.add\/x=.sub)||decide (x=.mul))=false)(h5:decide (x=.left\/x=.right\/x=.slide)=false)(h6:(decide (x=.wide)||decide (x=.sign))=false)(v:Nat)(hv:v<=64)(G:D):xs (d<$>3) (aK 0) (eA R (.tuple ([v,v].map nD)) G m x) S=qz (.rt (.d (.tuple ([2^v-1,2^v-1].map nD))),S):=by have t:=aEG (d<$>3) R (.tuple ([v,v].map nD)) G m S x;rw[hx] at t;refine aEK x h1 h2 h5 h6 (cC t (bH ?_));have hq58:=dG (d+2) v ();erw[0,nD,aBk,aBs,hq58]
theorem aQo(f g h:Fc):xs (d<$>3) (aK 0) (eA R W (.tuple ([f,g,h].map Fc.d)) m .pick) S=qz (.rt (.d (.tuple ((dD .pick w kk ws [f,g,h] m).map nD))),S):=by rw[show dD .pick w kk ws [f,g,h] m=_ from if_neg h0];refine aEK .pick rfl rfl rfl rfl (jQ .pick rfl (aEG _ _ _ _ _ _ .pick) rfl (cC (aNd _ _ _ _ _ _ .pick) (bH ?_)));erw[0,aZl,aN4 (d+2),yFl]
omit h0 in
theorem aZi(n:Nat)(h:n<=10):bW .Mult (.tuple [.int m]) (.int ((n:Nat):Int))=qz (.tuple ((yAe n m).map nD)):=by rw[@aIe _ n (),yHt];rfl
theorem uS(x:Wd)(args:List Nat)(ha:vZ x args kk)(h1:(decide (x=.and)||decide (x=.or))=false)(h2:(decide (x=.add\/x=.sub)||decide (x=.mul))=false)(h5:decide (x=.left\/x=.right\/x=.slide)=false)(h6:(decide (x=.wide)||decide (x=.sign))=false)(h8:(decide (x=.same\/x=.less\/x=.under)||decide (x=.pick))=false)(G:D):xs (d<$>3) (aK 0) (eA (Rw.mk x w args).d W G m x) S=qz (.rt (.d (.tuple ((yAe (bF x) m).map nD))),S):=by
 have op:cl fns (d+3) 7 [.d (Rw.mk x w args).d] S=qz (.d (.tuple ((args.take (bF x)).map nD)),S):=oE (d+2) (x,w,args,) S;have lop:mC [.tuple ((args.take (bF x)).map nD)]=qz (.int ((bF x:Nat):Int)):=by
  simp only[lS,lQ,yAd,aCP ha]
 have rp:=aZi m (bF x) (by cases x<;>decide);refine aZP x h1 h2 h5 h6 h8 (bH ?_);erw[0,op,lop,rp]
end
def aPb(d:Nat)(wd:Wd)(w:Nat)(args:List Nat)(kk:Nat)(ws:List Nat)(fs:List Fc)(m:Nat)(hk:yI wd w ws)(hf:↑fs=bF wd)(ha:vZ wd args kk)(hm:m<2^w)(h0:m≠0)(S:aC) :
 cl fns (d+4) 17 [.d (Rw.mk wd w args).d,.d (ws*>nD),.d (fs*>Fc.d),.d (.int m)] S=qz (.d (.tuple ((dD wd w kk ws fs m).map nD)),S):=by
 have hm64:m<2^64:=xAb hm (yAw (·) hk.2.1);have r0:bD (Rw.mk wd w args).d (.int 0)=qz (.str wd.s):=nB _;have bm:m<2^10000:=aKS hm64 (·);refine eK rfl (d+3) rfl rfl (yAj) (bP (S1:=S) (w:=.d (.str wd.s)) (aM:=eA (Rw.mk wd w args).d (ws*>nD) (fs*>Fc.d) m wd) (by erw[20,r0]) rfl ?_);show xs (d<$>3) (aK 0) (eA (Rw.mk wd w args).d (ws*>nD) (fs*>Fc.d) m wd) S=_;clear r0;let(cB,cI,hk):=hk;have e0:dD wd w kk ws fs m=_:=if_neg h0;cases wd
 case and=>let(f,g,rfl):=aEB hf;exact aSN d w kk m ws _ _ S h0 f g
 case or=>let(f,g,rfl):=aEB hf;exact aUc d w kk m ws _ _ S h0 f g
 case add=>rw[e0];exact aIN d m _ _ S h0 .add rfl rfl _ bm
 case sub=>rw[e0];exact aIN d m _ _ S h0 .sub rfl rfl _ bm
 case mul=>let(f,g,rfl):=aEB hf;exact aSi d w kk m ws _ _ S h0 f g hm64
 case left=>
  let(a,rfl,hkk):=ha;rw[e0];exact aDx d w kk m _ S h0 .left rfl rfl rfl a _ (aSb d w kk m S)
 case right=>
  let(a,rfl,hkk):=ha;rw[e0];exact aDx d w kk m _ S h0 .right rfl rfl rfl a _ (aRh d w kk m cI () hm64 S)
 case slide=>
  let(a,rfl,hkk):=ha;rw[e0];exact aDx d w kk m _ S h0 .slide rfl rfl rfl a _ (aQn d w kk m cB cI () hm64 S)
 case wide=>
  let(v,rfl,hv1,hv2):=hk;rw[e0];exact aQv d m _ S h0 v () _
 case sign=>
  let(v,rfl,hv1,hv2):=hk;rw[e0];exact aRa d m _ S h0 v () () _
 case same=>
  let(_,v,rfl,hv1,hv2):=hk;rw[e0];exact aDq d m _ S h0 .same rfl rfl rfl rfl rfl v () _
 case less=>
  let(_,v,rfl,hv1,hv2):=hk;rw[e0];exact aDq d m _ S h0 .less rfl rfl rfl rfl rfl v () _
 case under=>
  let(_,v,rfl,hv1,hv2):=hk;rw[e0];exact aDq d m _ S h0 .under rfl rfl rfl rfl rfl v () _
 case pick=>let(f,g,h,rfl):=aZr hf;exact aQo d w kk m ws _ _ S h0 f g h
 case «in» => rw[e0];exact uS d w kk m _ S h0 .in args ha rfl rfl rfl rfl rfl _
 case num=>rw[e0];exact uS d w kk m _ S h0 .num args ha rfl rfl rfl rfl rfl _
 case not=>rw[e0];exact uS d w kk m _ S h0 .not args ha rfl rfl rfl rfl rfl _
 case cut=>rw[e0];exact uS d w kk m _ S h0 .cut args ha rfl rfl rfl rfl rfl _
 case xor=>rw[e0];exact uS d w kk m _ S h0 .xor args ha rfl rfl rfl rfl rfl _
def aQe(n:Nat)(h:n<=10):bW .Mult (.tuple [.int 0]) (.int ((n:Nat):Int))=qz (.tuple ((yAe n 0).map nD)):=by rw[@aIe _ n (),yHt];rfl
def aT2(d:Nat)(wd:Wd)(w:Nat)(args:List Nat)(kk:Nat)(ws:List Nat)(fs:List Fc)(m:Nat)(hk:yI wd w ws)(hf:↑fs=bF wd)(ha:vZ wd args kk)(hm:m<2^w)(S:aC) :
 cl fns (d+5) 18 [.d (Rw.mk wd w args).d,.d (ws*>nD),.d (fs*>Fc.d),.d (.int m)] S=qz (.d (.tuple ((dD wd w kk ws fs m).map nD)),S):=by
 rw[bO rfl (d+4) _ S rfl];by_cases h0:m=0
 .have d0:(m==0)=true:=by rw[beq_iff_eq];exact h0
  have e0:dD wd w kk ws fs m=yAe (bF wd) 0:=if_pos h0;have lop:mC [.tuple ((args.take (bF wd)).map nD)]=qz (.int ((bF wd:Nat):Int)):=by
   simp only[lS,lQ,yAd,aCP ha]
  have op:cl fns (d+4) 7 [.d (Rw.mk wd w args).d] S=qz (.d (.tuple ((args.take (bF wd)).map nD)),S):=oE (d+3) (wd,w,args,) S;rw[e0];have hq59:=aQe (bF wd) (by cases wd<;>decide);erw[11,aEv,cK,dY,d0,op,lop,hq59]
 .have d0:(m==0)=false:=by rw[beq_eq_false_iff_ne];exact h0
  erw[11,aEv,cK,dY,d0,aPb d wd w args kk ws fs m hk hf ha hm h0]
def aQ9{l:List Nat}{q n:Nat}(h:∀ o∈l,o<n)(hq:q<n):∀ o∈l++[q],o<n:=λ o ho=>by
 rcases List.mem_append.mp ho with ho|ho
 .exact h o ho
 .rw[yFv] at ho;subst ho;exact hq
def aD9(h:At S 0 p)(ns:List Int)(k:Nat)(x:Int)(rs:List Rw)(T:aC)(d m:Nat)(hm:0<m)(hm2:m<2^64)(hk:k<=100000):∃ (r:Nat) (x':Int),r<m/\cl fns (d+1) 68 [.loc 0,.d (.int m)] (cH S 0 p ns k x rs++T)=qz (.d (.int r),cH S 0 p ns (k+1) x' rs++T):=by
 have l:0<↑(cH S 0 p ns k x rs):=by rw[h.toAt0.len];exact h.hn
 let(r,x',hr,e):=aI3 d 0 k m ns x (cH S 0 p ns k x rs++T) (by rw[xAm l];exact h.toAt0.state) hm hm2 hk;exact(r,x',hr,by rw[e,List.set_append_left _ _ l,h.toAt0.put],)
def aQS(h:At S 0 p)(ns:List Int)(k:Nat)(x:Int)(rs:List Rw)(T0:aC):∃ T,cH S 0 p ns k x rs++T0=qz (cN ns k x)::T:=by
 have hs:=h.toAt0.state (ns:=ns) (k:=k) (x:=x) (rs:=rs);rcases e:cH S 0 p ns k x rs with _|⟨a,T⟩
 .rw[e] at hs;cases hs
 .rw[e] at hs;cases hs;exact(T++T0,rfl,)
noncomputable abbrev eP(most w p:Nat)(a b c:Option W):aX:=[#[0],(most:),(w:),#[p],a,b,c]
def PrO(ns:List Int)(b:Nat)(R:List Rw->List Nat->Nat->Int->Prop):Prop:=∃ rs aE k x,eV [] rs/\0<↑rs/\↑rs<=40/\k<=b/\(∀ o∈aE,o<↑rs)/\↑aE<=8/\R rs aE k x
def aK4(h:At S 0 p)(ns:List Int)(k:Nat)(x:Int)(rs:List Rw)(d most w:Nat)(hm:most<=30)(ok:eV [] rs)(l0:0<↑rs)(l1:↑rs<=40)(hk:k<=50000) :
 PrO ns (k+700) λ aS aE k' x'=>∃ T,xs (d<$>5) (bK (bK (bK aCb))) (eP most w p qx qx qx) (cH S 0 p ns k x rs)=qz (.rt (.d (aS<*(aE*>nD))),qz (cN ns k' x')::T):=by
 let(env1,S1,p1,a4,aS,k1,x1,ok1,l0',l1',hk1,rfl,rfl):=aKM (t:=.one 4) (fi:=lv (d<$>5) aFG) (fb:=xs (d<$>5) aFH) (env:=eP most w p qx qx qx)
  (λ j env S'=>∃ (a4:Option W) (rs:List Rw) (k':Nat) (x:Int),eV [] rs/\0<↑rs/\↑rs<=40/\k'<=k+20*j/\env=eP most w p a4 qx qx/\S'=cH S 0 p ns k' x rs)
  (zO (w:=most) rfl ()) (qx,rs,k,x,ok,l0,l1,yAb _,rfl,rfl,) (by
    rintro j dd env S' hj ⟨a4,rs,k',x,ok,l0,l1,hk',rfl,rfl⟩;have hj':j<most:=by simpa using hj
    by_cases c:↑rs<37
    .let(_,k2,x',aS,(rfl,ok',g1,g2),hk2,e):=GP.row_ok (c:=(S,p,ns,)) h k' x rs d ok l0 () ();exact(_,_,_,rfl,oS (qU (bN (kE rfl h.rows) bG (bAz ())) (oS (qK (bM (aH (aD rfl) (aH (aD rfl) aQ)) e)))),_,aS,k2,x',ok',by omega,by omega,by omega,rfl,rfl,)
    .exact(_,_,_,rfl,oS (sW (bN (kE rfl h.rows) bG (aZ5 ())) rfl),_,rs,k',x,ok,l0,l1,by omega,rfl,rfl,))
 have hk2:k1<=k+600:=by
  rw[yAd,yFd] at hk1;omega
 let(q2,x2,hq2,e2):=@lJ _ _ _ k1 ns aS x1 h.toAt0 (d+4) ↑aS l0' () ();let(q3,x3,hq3,e3):=@lJ _ _ _ (k1+1) ns aS x2 h.toAt0 (d+4) 4 (·) (·) ();let(b3,hb3,eb3):=i01 ((q3:Int)==1);let(y,hy,ey):=at2 (.int (((↑aS:Nat):Int)-1)) (.int q2) hb3;obtain⟨y0,hy0,rfl⟩:∃ y0:Nat,y0<↑aS/\y=nD y0:=by
  rcases hy with rfl|rfl
  .exact(↑aS-1,Nat.sub_lt l0' yIg,by rw[nD,Int.natCast_sub l0'];rfl,)
  .exact(q2,hq2,rfl,)
 let(q4,x4,hq4,e4):=aD9 h ns (k1+2) x3 aS [qz [nD y0]] (d+4) 3 (·) (·) ();let(q5,x5,hq5,e5):=aD9 h ns (k1+3) x4 aS [qz [nD y0]] (d+4) 8 (·) (·) ();let(b5,hb5,eb5):=i01 ((q5:Int)==1);let(z,hz,ez):=at2 (.int q4) (.int 7) hb5;obtain⟨m,hm7,rfl⟩:∃ m:Nat,m<=7/\z=.int m:=by
  rcases hz with rfl|rfl
  .exact(_,by omega,rfl,)
  .exact(7,by decide,rfl,)
 let(env2,S2,p4,a4',aE,k6,x6,ol,oa,hk6,rfl,rfl):=aKM (t:=.one 4) (fi:=lv (d<$>5) aFD) (fb:=xs (d<$>5) aFC) (env:=eP most w p a4 (qz (.d (.list [.int (((↑aS:Nat):Int)-1),.int q2]))) (qz (.loc ↑S)))
  (λ j env S'=>∃ (a4:Option W) (aE:List Nat) (k:Nat) (x:Int),↑aE=j+1/\(∀ o∈aE,o<↑aS)/\k<=k1+4+j/\env=eP most w p a4 (qz (.d (.list [.int (((↑aS:Nat):Int)-1),.int q2]))) (qz (.loc ↑S))/\S'=cH S 0 p ns k x aS++[qz (aE.map nD)])
  (zO (w:=m) (bY (hV (kH (aH (bM (cV rfl bG) e4) (aH bG aQ)) rfl (yAc rfl))) (fH (aH (aBf (bM (cV rfl bG) e5) bG rfl) aQ) (eX gT gC) eb5) rfl ez) ())
  (a4,[y0],k1+4,x5,rfl,λ o ho=>by rw[yFv] at ho;subst ho;exact hy0,yAb _,rfl,rfl,) (by
   rintro j dd env S' hj ⟨a4,aE,k,x,ol,oa,hk,rfl,rfl⟩;have hj':j<m:=by simpa using hj
   let(q6,x6,hq6,e6):=aD9 h ns k x aS [qz (aE.map nD)] (d+4) ↑aS l0' () ();have ap:=aHv (cH S 0 p ns (k+1) x6 aS) (aE.map nD) (.int q6) (by rw[yAd];omega)
   rw[h.toAt0.len] at ap;exact(_,_,_,rfl,oS (qK (wU (aD rfl) (bM (cV rfl (kE rfl (h.rowsT _))) e6) ap)),_,aE++[q6],k+1,x6,by rw[xAn,ol];rfl,aQ9 oa hq6,by omega,rfl,by rw[yAx];rfl,))
 rw[yAd,yFd] at ol hk6;let(T,hT):=aQS h ns k6 x6 aS [qz (aE.map nD)];have g2:=sB (cH S 0 p ns k6 x6 aS) (aE.map nD);rw[h.toAt0.len] at g2;refine(aS,aE,k6,x6,ok1,l0',l1',by omega,oa,by omega,T,?_,);rw[<- hT];exact eE (aDA p1) (bP (hV (kH (aH (gF (kE rfl h.rows) bG (cX _ _)) (aH (bM (cV rfl (kE rfl h.rows)) e2) aQ)) rfl (yAc rfl))) rfl (bP (aJN (kH (aH (bY (aD rfl) (fH (aH (aBf (bM (cV rfl bG) e3) bG rfl) aQ) (eX gT gC) eb3) rfl ey) aQ) rfl (yAc rfl)) h.toAt0.len) rfl (eE (aDA p4) (bH (eW (aH (fH (aH (aD rfl) aQ) (eX (qS (h.rowsT _)) gC) rfl) (aH (fH (aH (aD rfl) aQ) (eX (qS g2) gC) rfl) aQ)) rfl (yAc rfl))))))
def aWd(d most:Nat)(ns:List Int)(hm:most<=30)(kk:Nat)(xx:Int)(hkk:kk<=40000):∃ (rs:List Rw) (aE:List Nat) (k:Nat) (x:Int),eV [] rs/\0<↑rs/\↑rs<=40/\k<=kk+800/\(∀ o∈aE,o<↑rs)/\↑aE<=8/\cl fns (d+6) 78 [.loc 0,.d (.int most)] [qz (cN ns kk xx)]=qz (.d (rs<*(aE*>nD)),[qz (cN ns k x)]):=by
 let(w,x0,cB,cI,e0):=@aH0 _ _ _ kk ns [] xx at1 (d+3) ();have A2:At [qx,qx] 0 1:=((by decide,by decide,),by decide,);let(q,x1,hq,e1):=@lJ _ _ _ (kk+3) ns [(.in,w,[],)] x0 A2.toAt0 (d+4) 8 (·) (·) ()
 suffices H:PrO ns (kk+800) λ rs aE k x=>∃ T,xs (d<$>5) (bK (bK aCb)) (eP most w 1 qx qx qx) (cH [qx,qx] 0 1 ns (kk+3) x0 [⟨.in,w,[]⟩])=qz (.rt (.d (rs<*(aE*>nD))),qz (cN ns k x)::T) by
  let(rs,aE,k,x,h1,h2,h3,h4,h6,h7,T,h5):=H;exact(rs,aE,k,x,h1,h2,h3,h4,h6,h7,dN rfl rfl rfl (bP (bM (aH (aD rfl) aQ) e0) rfl (bP (aA5 (kH (aH (eW (aH cU (aH (aD rfl) aQ)) rfl (yAc rfl)) aQ) rfl (yAc rfl))) rfl h5)) rfl,)
 by_cases c:q=1
 .subst c;let(n,k2,x2,hn,hk2,e2):=@aKI _ _ _ (kk+3+1) ns [(.in,w,[],)] x1 A2.toAt0 (d+2) w cB cI ();let(rs,aE,k,x,h1,h2,h3,h4,h6,h7,T,h5):=@aK4 [qx,qz ([((.in,w,[],):Rw)].map Rw.d),qx] 2 ((yAc rfl,by decide,),yAc rfl,) ns k2 x2 [(.num,w,[n],)] d most w hm ((cB,cI,hn,),True.intro,) yIg (yAc rfl) ();exact(rs,aE,k,x,h1,h2,h3,by omega,h6,h7,T,eE (qU (bN (bM (cV rfl bG) e1) bG rfl) (lM (aJN (kH (aH (eW (aH cU (aH (aD rfl) (aH (bM (cV rfl (aD rfl)) e2) aQ))) rfl (yAc rfl)) aQ) rfl (yAc rfl)) rfl))) h5,)
 .let(rs,aE,k,x,h1,h2,h3,h4,h6,h7,T,h5):=aK4 A2 ns (kk+3+1) x1 [(.in,w,[],)] d most w hm ((cB,cI,True.intro,),True.intro,) yIg (yAc rfl) ()
  exact⟨rs,aE,k,x,h1,h2,h3,by omega,h6,h7,T,eE (sW (bN (bM (cV rfl bG) e1) bG (by
   rw[cK,show((q:Int)==1)=false by rw[beq_eq_false_iff_ne];omega])) rfl) h5⟩
def bL(r:Rw):List Nat:=r.args.take (bF r.wd)
def tX(r:Rw):Nat:=r.args.getD 1 0
def lA(r:Rw)(F:List Ft):List Fc:=(jF r F).map λ f=>(f.N,f.O,f.A,)
def iP(rs:List Rw)(F:List Ft)(r:Rw)(m:Nat):List Nat:=dD r.wd r.w (tX r) (cW r (~~~rs)) (lA r F) m
def dU(rs:List Rw)(F:List Ft)(r:Rw)(m:Nat):List (Nat×Nat):=(bL r).zip (iP rs F r m)
def pD(p:Nat×Nat):D:=.tuple [nD p.1,nD p.2]
def wQ(h:RwOk r ws):yI r.wd r.w ws/\vZ r.wd r.args (tX r):=by
 cases h with
 |inp h1 h2=>exact((h1,h2,rfl,),rfl,)|num h1 h2 hn=>exact((h1,h2,rfl,),_,rfl,)|nt h1 h2=>exact((h1,h2,rfl,),_,rfl,)
 |sh h1 h2 bC hk=>erw[50,bC]<;>exact((h1,h2,rfl,),_,rfl,hk,)
 |cut h1 hv h2=>exact((h1,xAh hv h2,_,rfl,hv,h2,),_,rfl,)|wide h1 hv h2=>exact((xAh h1 hv,h2,_,rfl,hv,h1,),_,rfl,)|sign h1 hv h2=>exact((xAh h1 hv,h2,_,rfl,hv,h1,),_,rfl,)
 |bw h1 h2 bC=>erw[50,bC]<;>exact((h1,h2,rfl,),_,_,rfl,)
 |sm h1 h2=>
   rename_i s w a b;cases s<;>exact((h1,h2,rfl,),_,_,rfl,)
 |cmp h1 h2 bC=>erw[50,bC]<;>exact((yAb 1,(show 1<=64 by decide),rfl,_,rfl,h1,h2,),_,_,rfl,)
 |pick h1 h2=>exact((h1,h2,rfl,),_,_,_,rfl,)
def aKy:∀ as bs:List Nat,fL (as.map nD) (bs.map nD)=(as.zip bs).map pD
 |[],_=>by cases ‹List Nat› <;> rfl|_::_,[]=>rfl
 |a::as,b::bs=>by
   show yAv [nD a,nD b]::fL (as.map nD) (bs.map nD)=pD (a,b)::(as.zip bs).map pD;rw[aKy as bs];rfl
def aXT(r:Rw)(F:List Ft):(lA r F).map Fc.d=(jF r F).map Ft.d:=by unfold lA;rw[yBv];rfl
def wC(d a:Nat)(hr:rs[a]?=qz r)(o:D)(S:aC):cl fns (d+1) 10 [.d (rs<*o),.d (.int a)] S=qz (.d (.int r.w),S):=by have i0:bD (rs<*o) (.int 0)=qz (rs*>Rw.d):=rfl;have e1:bD (rs*>Rw.d) (.int a)=qz r.d:=iW (by rw[yAg,hr];rfl);rw[bO rfl d _ S rfl];erw[11,aHc,i0,e1,nI]
def nK{rs:List Rw}{a:Nat}{r:Rw}(hr:rs[a]?=qz r):g0 (~~~rs) a=r.w:=by show(~~~rs).getD a 0=_;rw[xAg,yAg,hr];rfl
def aRP{fa fb:FE}(h1:fa env S=qz (.d (as*>nD),S1))(h2:fb env S1=qz (.d (bs*>nD),S2))(hl:↑as<=1000):sU fa fb env S=qz ((as.zip bs).map pD,S2):=by
 have e:qV fa fb env S=qz ((as.zip bs).map pD,S2):=by
  unfold qV;rw[h1,oB,h2,oB,<- aKy];rfl
 unfold sU aMJ;rw[e,oB,if_pos];show↑((as.zip bs).map pD)<=1000000;rw[yAd,yEx];omega
def aSh(r:Rw):↑(bL r)<=3:=by have:=aJR r.wd;unfold bL;rw[yBo];omega
def aTG{rs:List Rw}{F:List Ft}{r:Rw}{k:Nat}(p:Prg rs)(hr:rs[k]?=qz r):↑(lA r F)=bF r.wd:=by have h:=(wQ (p.fit k r hr).1).2;unfold lA jF;rw[yAd,yAd];exact aCP h
def aOh{rs:List Rw}{F:List Ft}{r:Rw}{k m:Nat}(d:Nat)(p:Prg rs)(hr:rs[k]?=qz r)(hF:↑F=↑rs)(hm:m<2^r.w)(o:D)(S:aC):cl fns (d+6) 19 [.d (rs<*o),.d (F*>Ft.d),.d (.int k),.d (.int m)] S=qz (.d (.list ((dU rs F r m).map pD)),S):=by
 have i0:bD (rs<*o) (.int 0)=qz (rs*>Rw.d):=rfl;have e1:bD (rs*>Rw.d) (.int k)=qz r.d:=iW (by rw[yAg,hr];rfl);let(f1,f2'):=p.fit k r hr;have hk:k<↑rs:=(gIm hr).1;have ol:=aSh r;have hc:lv (d<$>5) aFT [qz (.d (rs<*o)),qz (.d (F*>Ft.d)),(k:),(m:),qz (.d r.d),qx,qx,qx] S=qz ((cW r (~~~rs)).map nD,S):=by
  unfold cW;rw[yBv];refine sF (fi:=lv (d<$>5) (.it (.call 7 (.cons (.var 4) .nil)))) (fe:=ev (d<$>5) (.call 10 (.cons (.var 0) (.cons (.var 7) .nil)))) nD (nD ∘ g0 (~~~rs)) (r.args.take (bF r.wd)) ?_ (by rw[zx];have:↑(r.args.take (bF r.wd))<=3:=ol;omega) λ a ha=>?_
  .erw[0,oE (d+4),iE]
  .refine(_,rfl,λ S'=>?_,);have haj:=f2' a ha;have hq:rs[a]?=qz rs[a]:=yAa ();have e2:=wC (d+4) a hq o S';have e2':cl fns (d+5) 10 [.d (rs<*o),.d (nD a)] S'=qz (.d (.int (rs[a].w:Nat)),S'):=e2;erw[20,clr,yCl,yHy,e2'];show _=qz (W.d (nD (g0 (~~~rs) a)),S');rw[nK hq];rfl
 have o2:=aCQ (d+3) r (.d (F*>Ft.d)) (F*>Ft.d) (λ a=>(f0 F a).d) S (λ _=>rfl) λ a ha=>iW (by rw[yAg,vQ (by have:=f2' a ha;omega)];rfl)
 have o2':cl fns (d+5) 9 [.d r.d,.d (F*>Ft.d)] S=qz (.d (.tuple ((lA r F).map Fc.d)),S):=by
  rw[o2,aXT,jF,yBv];rfl
 let(w1,w2):=wQ f1;have nk:=aT2 d r.wd r.w r.args (tX r) (cW r (~~~rs)) (lA r F) m w1 (aTG p hr) w2 hm S;have nk':cl fns (d+5) 18 [.d r.d,.d (.tuple ((cW r (~~~rs)).map nD)),.d (.tuple ((lA r F).map Fc.d)),.d (.int m)] S=qz (.d (.tuple ((iP rs F r m).map nD)),S):=nk;have lz:∀ fa:FE,∀ env:aX,fa env S=qz (.d (.tuple ((bL r).map nD)),S)->env[6]?=qz (qz (.d (.tuple ((iP rs F r m).map nD))))->sU fa (jS 6) env S=qz ((dU rs F r m).map pD,S):=λ fa env h h6=>aRP h (aH4 h6) ()
 rw[bO rfl (d+5) _ S rfl];erw[20,eY,aGw,i0,e1,hc,mX,sS,o2',nk'];rw[lz _ _ (by erw[20,oE (d+4)];rfl) rfl];erw[0,True]
def cM(M:List Nat)(q:Nat×Nat):List Nat:=M.set q.1 (M.getD q.1 0|||q.2)
def fK(rs:List Rw)(F:List Ft)(M:List Nat)(k:Nat):List Nat:=match rs[k]? with|some r=>(dU rs F r (M.getD k 0)).foldl cM M|none=>M
def gI(rs:List Rw)(F:List Ft):Nat->List Nat->List Nat
 |0,M=>M|k+1,M=>gI rs F k (fK rs F M k)
def eD(rs:List Rw)(M:List Nat)(o:Nat):List Nat:=M.set o (2^g0 (~~~rs) o-1)
def pH(rs:List Rw)(aE:List Nat):List Nat:=aE.foldl (eD rs) (yAe ↑rs 0)
def cZ(rs:List Rw)(F:List Ft)(aE:List Nat):List Nat:=gI rs F ↑rs (pH rs aE)
structure Bd(rs:List Rw)(M:List Nat):Prop where
 l:↑M=↑rs
 lt:∀ (i:Nat) (r:Rw),rs[i]?=qz r->M.getD i 0<2^r.w
def aGE{α β:Type}{f:β->α->β}{l:List α}{q:α}(M:β)(h:l[j]?=qz q):(l.take (j+1)).foldl f M=f ((l.take j).foldl f M) q:=by rw[yGm,h];simp
def rV{M:List Nat}(h:a≠i):(M.set a v).getD i 0=M.getD i 0:=by rw[xAg,xAg,yAt h]
def uJ{M:List Nat}(h:a<↑M):(M.set a v).getD a 0=v:=by rw[xAg,yAq h];rfl
def aDj{M:List Nat}(h:i<↑M):M[i]?=qz (M.getD i 0):=by rw[xAg,yAa h];rfl
def vY(p:Prg rs)(hr:rs[k]?=qz r)(hm:m<2^r.w)(q:Nat×Nat)(hq:q∈dU rs F r m):q.1<k/\∀ r',rs[q.1]?=qz r'->q.2<2^r'.w:=by
 let(f1,f2):=p.fit k r hr;let(w1,w2):=wQ f1;let(c,hc):=yDy hq;let(a,b):=q;unfold dU at hc;rw[List.getElem?_zip_eq_some] at hc;let(h1,h2):=hc;refine(f2 a (xAk h1),λ r' hr'=>?_,);have hv:(cW r (~~~rs))[c]?=qz r'.w:=by
  unfold cW;have h1':(r.args.take (bF r.wd))[c]?=qz a:=h1;rw[yAg,h1'];show qz (g0 (~~~rs) a)=_;rw[nK hr']
 have:=aT0 r.wd r.w (tX r) (cW r (~~~rs)) (lA r F) m c r'.w w1 hm hv;have e:(iP rs F r m).getD c 0=b:=by
  rw[xAg,h2];rfl
 rw[<- e];exact this
def aLG(h:Bd rs M){q:Nat×Nat}(h1:q.1<↑rs)(h2:∀ r',rs[q.1]?=qz r'->q.2<2^r'.w):Bd rs (cM M q):=by
 refine(by unfold cM;rw[yBf];exact h.l,λ i r hr=>?_,);unfold cM;by_cases c:q.1=i
 .rw[c] at h1 h2 ⊢;rw[uJ (by rw[h.l];exact h1)];exact yBj (h.lt i r hr) (h2 r hr)
 .rw[rV c];exact h.lt i r hr
section
variable {rs:List Rw}{F:List Ft}{r:Rw}{k m:Nat}
def aKK(p:Prg rs)(hr:rs[k]?=qz r)(hm:m<2^r.w):∀ (l:List (Nat×Nat)) (M:List Nat),(∀ q∈l,q∈dU rs F r m)->Bd rs M->Bd rs (l.foldl cM M)
 |[],_,_,h=>h
 |q::l,M,hl,h=>by
   have hk:k<↑rs:=(gIm hr).1;let(a,b):=vY p hr hm q (hl q xAc);exact aKK p hr hm l _ (λ x hx=>hl x (xAf _ hx)) (aLG h () b)
end
def aAq:Bd rs (yAe ↑rs 0):=by refine(yEt,λ i r hr=>?_,);have hi:i<↑rs:=(gIm hr).1;rw[xAg,yDc,if_pos hi];exact xAe _
def aPk(hr:rs[o]?=qz r):eD rs M o=M.set o (2^r.w-1):=by unfold eD;rw[nK hr]
def aIA(h:Bd rs M)(ho:o<↑rs):Bd rs (eD rs M o):=by
 refine(by unfold eD;rw[yBf];exact h.l,λ i r hr=>?_,);unfold eD;by_cases c:o=i
 .subst c;rw[uJ (by rw[h.l];exact ho),nK hr];have:=xAe r.w;omega
 .rw[rV c];exact h.lt i r hr
section
variable {rs:List Rw}
def aAJ:∀ (l:List Nat) (M:List Nat),(∀ o∈l,o<↑rs)->Bd rs M->Bd rs (l.foldl (eD rs) M)
 |[],_,_,h=>h|o::l,M,hl,h=>aAJ l _ (λ x hx=>hl x (xAf _ hx)) (aIA h (hl o xAc))
end
def aIT(S:aC)(M:List Nat)(a v:Nat)(ha:a<↑M):kG (S++[qz (M.map nD)]) (.loc ↑S) (.d (.int a)) (.d (.int v))=qz (S++[qz ((M.set a v).map nD)]):=by unfold kG;simp only[sB];unfold jU;rw[yAd,if_pos (),if_pos (),oB,yAr,List.set_append_right _ _ (yAb _),yBe,List.map_set];rfl
def aJ6{M:List Nat}(h:i<↑M):bD (.list (M.map nD)) (.int i)=qz (.int ((M.getD i 0:Nat):Int)):=oQ (by rw[yAg,aDj h];rfl)
def aZn{fa fb:FE}{env:aX}{S:aC}{n:Nat}(h1:fa env S=qz (.d (.list [.int 0]),S))(h2:fb env S=qz (.d (.int n),S))(hn:n<=1000):yH fa fb env S=qz ((yAe n 0).map nD,S):=by
 have hz:↑(([.int 0]:List D))*((n:Int)).toNat<=qk:=by rw[yAr,zx];simp;omega
 have hd:dr S (.d (.list [.int 0]))=qz (.list [.int 0]):=rfl;unfold yH;rw[h1,oB,h2,oB];show((dr S (.d (.list [.int 0]))).bind _)=_;rw[hd,oB];show(if (n:Int)<2^63 /\ -(2^63)<=(n:Int)/\↑(([.int 0]:List D))*((n:Int)).toNat<=qk then qz (xL ((n:Int)).toNat [yAo 0],S) else qx)=_;rw[if_pos (by omega,by omega,hz,),yAr,aQM,yHt];rfl
def aPW{F:List Ft}(d:Nat)(p:Prg rs)(hr:rs[k]?=qz r)(hF:↑F=↑rs)(o:D)(S:aC)(h:Bd rs M)(c3 c5 c6 c7 c8:Option W):∃ c7' c8':Option W,Bd rs (fK rs F M k)/\jP (.many [7,8]) (lv (d<$>6) aAg) (xs (d<$>6) aAc) [qz (.d (rs<*o)),qz (.d (F*>Ft.d)),qz (.loc ↑S),c3,(k:),c5,c6,c7,c8] (S++[qz (M.map nD)])=qz (.nx [qz (.d (rs<*o)),qz (.d (F*>Ft.d)),qz (.loc ↑S),c3,(k:),c5,c6,c7',c8'],S++[qz ((fK rs F M k).map nD)]):=by
 have hk:k<↑rs:=(gIm hr).1;have hm:=h.lt k r hr;have e0:=@aJ6 k M (by rw[h.l];exact hk);have rn:=aOh d p hr hF hm o (S++[qz (M.map nD)]);have eR:fK rs F M k=(dU rs F r (M.getD k 0)).foldl cM M:=by unfold fK;rw[hr]
 let(aM,S',p1,c7',c8',hb,rfl,rfl):=sP (t:=.many [7,8]) (fi:=lv (d<$>6) aAg) (fb:=xs (d<$>6) aAc) (env:=[qz (.d (rs<*o)),qz (.d (F*>Ft.d)),qz (.loc ↑S),c3,(k:),c5,c6,c7,c8]) (S:=S++[qz (M.map nD)]) (S1:=S++[qz (M.map nD)]) (ds:=(dU rs F r (M.getD k 0)).map pD)
  (λ j env S'=>∃ c7 c8:Option W,Bd rs (((dU rs F r (M.getD k 0)).take j).foldl cM M)/\env=[qz (.d (rs<*o)),qz (.d (F*>Ft.d)),qz (.loc ↑S),c3,(k:),c5,c6,c7,c8]/\S'=S++[qz ((((dU rs F r (M.getD k 0)).take j).foldl cM M).map nD)])
  (by erw[20,aAg,sB,e0,rn,iE]) (c7,c8,h,rfl,rfl,) (by
    rintro j dd env S' hd ⟨c7,c8,hb,rfl,rfl⟩;rw[yAg] at hd;let(q,hq,rfl):=Option.map_eq_some_iff.mp hd;let(q1,q2):=vY p hr hm q (xAk hq);have ql:q.1<↑(((dU rs F r (M.getD k 0)).take j).foldl cM M):=by rw[hb.l];omega
    have ft:=aGE (f:=cM) M hq;have e1:=aJ6 ql;have pe:kG (S++[qz ((((dU rs F r (M.getD k 0)).take j).foldl cM M).map nD)]) (.loc ↑S) (.d (.int (q.1:Nat))) (.d (.int (((((dU rs F r (M.getD k 0)).take j).foldl cM M).getD q.1 0|||q.2:Nat):Int)))=qz (S++[qz ((cM (((dU rs F r (M.getD k 0)).take j).foldl cM M) q).map nD)]):=aIT S _ q.1 _ ql;refine([qz (.d (rs<*o)),qz (.d (F*>Ft.d)),qz (.loc ↑S),c3,(k:),c5,c6,((q.1:Nat):),((q.2:Nat):)],[qz (.d (rs<*o)),qz (.d (F*>Ft.d)),qz (.loc ↑S),c3,(k:),c5,c6,((q.1:Nat):),((q.2:Nat):)],S++[qz ((cM (((dU rs F r (M.getD k 0)).take j).foldl cM M) q).map nD)],rfl,?_,_,_,?_,rfl,by rw[ft],)
    .erw[1,aAc,sB,e1,gB,mF,pe]
    .rw[ft];exact aLG hb () q2)
 rw[yAd,yAj,<- eR] at hb p1;exact(c7',c8',hb,p1,)
def aHu{F:List Ft}(d:Nat)(p:Prg rs)(hF:↑F=↑rs)(aE:List Nat)(ho:∀ o∈aE,o<↑rs)(S:aC):Bd rs (cZ rs F aE)/\cl fns (d+7) 20 [.d (rs<*(aE*>nD)),.d (F*>Ft.d)] S=qz (.d (.tuple ((cZ rs F aE).map nD)),S):=by
 have pl:=p.l;have lR:mC [(rs*>Rw.d)]=qz (.int ↑rs):=by
  show qz (yAo ((↑(rs.map Rw.d):Nat):Int))=_;rw[yAd]
 let(env1,S1,p1,c3,hb0,rfl,rfl):=sP (t:=.one 3) (fi:=lv (d<$>6) aCx) (fb:=xs (d<$>6) aCG) (env:=[qz (.d (rs<*(aE*>nD))),qz (.d (F*>Ft.d)),qz (.loc ↑S),qx,qx,qz (.d (rs*>Rw.d)),qz (.d (aE*>nD)),qx,qx]) (S:=S++[qz ((yAe ↑rs 0).map nD)]) (S1:=S++[qz ((yAe ↑rs 0).map nD)]) (ds:=aE.map nD)
  (λ j env S'=>∃ c3:Option W,Bd rs ((aE.take j).foldl (eD rs) (yAe ↑rs 0))/\env=[qz (.d (rs<*(aE*>nD))),qz (.d (F*>Ft.d)),qz (.loc ↑S),c3,qx,qz (.d (rs*>Rw.d)),qz (.d (aE*>nD)),qx,qx]/\S'=S++[qz (((aE.take j).foldl (eD rs) (yAe ↑rs 0)).map nD)])
  (by erw[20,aCx,iE]) (qx,aAq,rfl,rfl,) (by
    rintro j dd env S' hd ⟨c3,hb,rfl,rfl⟩;rw[yAg] at hd;let(q,hq,rfl):=Option.map_eq_some_iff.mp hd;have hql:=ho q (xAk hq);have hr:rs[q]?=qz rs[q]:=yAa hql;have ft:=aGE (f:=eD rs) (yAe ↑rs 0) hq;have wo:=wC (d+5) q hr (aE*>nD) (S++[qz (((aE.take j).foldl (eD rs) (yAe ↑rs 0)).map nD)]);have fu:=dG (d+5) rs[q].w (by have:=(p.ws q _ hr).2;omega) (S++[qz (((aE.take j).foldl (eD rs) (yAe ↑rs 0)).map nD)]);have pe:kG (S++[qz (((aE.take j).foldl (eD rs) (yAe ↑rs 0)).map nD)]) (.loc ↑S) (.d (.int q)) (.d (.int ((2^rs[q].w-1:Nat):Int)))=qz (S++[qz ((eD rs ((aE.take j).foldl (eD rs) (yAe ↑rs 0)) q).map nD)]):=by
     rw[aPk hr];exact aIT S _ q _ (by rw[hb.l];exact hql)
    refine([qz (.d (rs<*(aE*>nD))),qz (.d (F*>Ft.d)),qz (.loc ↑S),(q:),qx,qz (.d (rs*>Rw.d)),qz (.d (aE*>nD)),qx,qx],[qz (.d (rs<*(aE*>nD))),qz (.d (F*>Ft.d)),qz (.loc ↑S),(q:),qx,qz (.d (rs*>Rw.d)),qz (.d (aE*>nD)),qx,qx],S++[qz ((eD rs ((aE.take j).foldl (eD rs) (yAe ↑rs 0)) q).map nD)],rfl,?_,_,?_,rfl,by rw[ft],)
    .erw[1,aCG,wo,fu,mF,pe]
    .rw[ft];exact aIA hb hql)
 rw[yAd,yAj] at hb0 p1;have un1:rH .USub (.int 1)=qz (.int (-1)):=rfl;have i3:lv (d<$>6) aAh [qz (.d (rs<*(aE*>nD))),qz (.d (F*>Ft.d)),qz (.loc ↑S),c3,qx,qz (.d (rs*>Rw.d)),qz (.d (aE*>nD)),qx,qx] (S++[qz ((pH rs aE).map nD)])=qz (lV (((↑rs:Nat):Int)-1) ↑rs,S++[qz ((pH rs aE).map nD)]):=by
  have hc:(-(2^62)<=((↑rs:Nat):Int)-1/\((↑rs:Nat):Int)-1<2^62 /\ -(2^62)<=(-1:Int)/\(-1:Int)<2^62)/\(-1:Int) = -1:=((by omega,by omega,by decide,by decide,),rfl,);have hn:(((↑rs:Nat):Int)-1-(-1)).toNat=↑rs:=();erw[20,aAh,aBe,lR,cX,un1];rw[if_pos (hc.1,True.intro,),hn]
 let(env2,S2,p2,c4,c7,c8,M,hb,hM,rfl,rfl):=sP (t:=.one 4) (fi:=lv (d<$>6) aAh) (fb:=xs (d<$>6) aCL) (env:=[qz (.d (rs<*(aE*>nD))),qz (.d (F*>Ft.d)),qz (.loc ↑S),c3,qx,qz (.d (rs*>Rw.d)),qz (.d (aE*>nD)),qx,qx]) (S:=S++[qz ((pH rs aE).map nD)]) (S1:=S++[qz ((pH rs aE).map nD)]) (ds:=lV (((↑rs:Nat):Int)-1) ↑rs)
  (λ j env S'=>∃ (c4 c7 c8:Option W) (M:List Nat),Bd rs M/\gI rs F (↑rs-j) M=cZ rs F aE/\env=[qz (.d (rs<*(aE*>nD))),qz (.d (F*>Ft.d)),qz (.loc ↑S),c3,c4,qz (.d (rs*>Rw.d)),qz (.d (aE*>nD)),c7,c8]/\S'=S++[qz (M.map nD)])
  i3 (qx,qx,qx,pH rs aE,hb0,rfl,rfl,rfl,) (by
   rintro j dd env S' hd ⟨c4,c7,c8,M,hb,hM,rfl,rfl⟩;have hj:j<↑rs:=by
    have:=(gIm hd).1;rw[rS] at this;exact this
   rw[aCu _ _ j hj] at hd;have ek:((↑rs:Nat):Int)-1-(j:Int)=((↑rs-1-j:Nat):Int):=cs1 hj;rw[ek] at hd;cases hd;have hr:rs[↑rs-1-j]?=qz rs[↑rs-1-j]:=yAa ();let(c7',c8',hb',e):=aPW d p hr hF (aE*>nD) S hb c3 (qz (.d (rs*>Rw.d))) (qz (.d (aE*>nD))) c7 c8;refine([qz (.d (rs<*(aE*>nD))),qz (.d (F*>Ft.d)),qz (.loc ↑S),c3,(((↑rs-1-j:Nat):Int):),qz (.d (rs*>Rw.d)),qz (.d (aE*>nD)),c7,c8],[qz (.d (rs<*(aE*>nD))),qz (.d (F*>Ft.d)),qz (.loc ↑S),c3,(((↑rs-1-j:Nat):Int):),qz (.d (rs*>Rw.d)),qz (.d (aE*>nD)),c7',c8'],S++[qz ((fK rs F M (↑rs-1-j)).map nD)],rfl,?_,_,_,_,_,hb',?_,rfl,rfl,)
   .erw[1,aCL,e]
   .rw[<- hM,show ↑rs-j=(↑rs-1-j)+1 by omega]
    show _=gI rs F (↑rs-1-j) (fK rs F M (↑rs-1-j));rw[show ↑rs-(j+1)=↑rs-1-j by omega])
 rw[rS,yBe] at hM;have hM':M=cZ rs F aE:=hM;subst hM';refine(hb,?_,);have tk1:∀ x,yEv ↑S (S++[x])=S:=λ x=>List.take_left
 have q0:xs (d<$>6) (fX gP) [qz (.d (rs<*(aE*>nD))),qz (.d (F*>Ft.d)),qx,qx,qx,qx,qx,qx,qx] S=qz (.nx [qz (.d (rs<*(aE*>nD))),qz (.d (F*>Ft.d)),qx,qx,qx,qz (.d (rs*>Rw.d)),qz (.d (aE*>nD)),qx,qx],S):=by
  erw[2,fX,gP,True]
 have q1:xs (d<$>6) (fX (bK gP)) [qz (.d (rs<*(aE*>nD))),qz (.d (F*>Ft.d)),qx,qx,qx,qz (.d (rs*>Rw.d)),qz (.d (aE*>nD)),qx,qx] S=qz (.nx [qz (.d (rs<*(aE*>nD))),qz (.d (F*>Ft.d)),qz (.loc ↑S),qx,qx,qz (.d (rs*>Rw.d)),qz (.d (aE*>nD)),qx,qx],S++[qz ((yAe ↑rs 0).map nD)]):=by
  simp only[fX,bK,gP,aAW,aD1,aJp,jR,kM];rw[aZn (n:=↑rs) (by erw[20,True]) (by erw[20,lR]) ()];erw[0,True]
 have e:gP=.seq (fX gP) (.seq (fX (bK gP)) (.seq (fX (bK (bK gP))) (.seq (fX (bK (bK (bK gP)))) (bK (bK (bK (bK gP))))))):=rfl;have p1':xs (d<$>6) (fX (bK (bK gP))) [qz (.d (rs<*(aE*>nD))),qz (.d (F*>Ft.d)),qz (.loc ↑S),qx,qx,qz (.d (rs*>Rw.d)),qz (.d (aE*>nD)),qx,qx] (S++[qz ((yAe ↑rs 0).map nD)])=qz (.nx [qz (.d (rs<*(aE*>nD))),qz (.d (F*>Ft.d)),qz (.loc ↑S),c3,qx,qz (.d (rs*>Rw.d)),qz (.d (aE*>nD)),qx,qx],S++[qz ((pH rs aE).map nD)]):=p1;have p2':xs (d<$>6) (fX (bK (bK (bK gP)))) [qz (.d (rs<*(aE*>nD))),qz (.d (F*>Ft.d)),qz (.loc ↑S),c3,qx,qz (.d (rs*>Rw.d)),qz (.d (aE*>nD)),qx,qx] (S++[qz ((pH rs aE).map nD)])=qz (.nx [qz (.d (rs<*(aE*>nD))),qz (.d (F*>Ft.d)),qz (.loc ↑S),c3,c4,qz (.d (rs*>Rw.d)),qz (.d (aE*>nD)),c7,c8],S++[qz ((cZ rs F aE).map nD)]):=p2;have fl:xs (d<$>6) gP [qz (.d (rs<*(aE*>nD))),qz (.d (F*>Ft.d)),qx,qx,qx,qx,qx,qx,qx] S=qz (.rt (.d (.tuple ((cZ rs F aE).map nD))),S++[qz ((cZ rs F aE).map nD)]):=by
  rw[e,sO q0,sO q1,sO p1',sO p2'];erw[2,bK,gP,sB,mX,sS]
 rw[bO rfl (d+6) _ S rfl];show((xs (d<$>6) gP [qz (.d (rs<*(aE*>nD))),qz (.d (F*>Ft.d)),qx,qx,qx,qx,qx,qx,qx] S).bind _)=_;rw[fl];simp only[oB,mD,tk1]
def Sb(a b:Nat):Prop:=∀ i,a[i]! =true->b[i]! =true
def Sb.refl(a:Nat):Sb a a:=λ _ h=>h
def aHU:∀ (l:List (Nat×Nat)) (M:List Nat) (i:Nat),(∀ q∈l,q.1≠i)->(l.foldl cM M).getD i 0=M.getD i 0
 |[],_,_,_=>rfl
 |q::l,M,i,h=>by
   show(l.foldl cM (cM M q)).getD i 0=_;rw[aHU l (cM M q) i λ x hx=>h x (xAf _ hx)];unfold cM;exact rV (h q xAc)
def aAC(hr:rs[k]?=qz r):fK rs F M k=(dU rs F r (M.getD k 0)).foldl cM M:=by unfold fK;rw[hr]
def aAD(p:Prg rs)(hk:k<↑rs)(h:Bd rs M):Bd rs (fK rs F M k):=by have hr:rs[k]?=qz rs[k]:=yAa hk;rw[aAC hr];exact aKK p hr (h.lt k _ hr) _ M (λ q hq=>hq) h
def aHM(p:Prg rs)(h:Bd rs M)(hi:k<=i)(hk:k<↑rs):(fK rs F M k).getD i 0=M.getD i 0:=by
 have hr:rs[k]?=qz rs[k]:=yAa hk;rw[aAC hr];refine aHU _ M i λ q hq=>?_
 have:=(vY p hr (h.lt k _ hr) q hq).1;omega
section
variable {rs:List Rw}{F:List Ft}
def aC8(p:Prg rs):∀ (k:Nat) (M:List Nat) (i:Nat),Bd rs M->k<=↑rs->k<=i+1->(gI rs F k M).getD i 0=M.getD i 0
 |0,_,_,_,_,_=>rfl
 |k+1,M,i,h,hk,hi=>by
   show(gI rs F k (fK rs F M k)).getD i 0=_;rw[aC8 p k _ i (aAD p () h) () (),aHM p h () ()]
def aJm(p:Prg rs):∀ (k:Nat) (M:List Nat),Bd rs M->k<=↑rs->Bd rs (gI rs F k M)
 |0,_,h,_=>h|k+1,M,h,hk=>aJm p k _ (aAD p () h) ()
end
def aDy(p:Prg rs)(ho:∀ o∈aE,o<↑rs):Bd rs (cZ rs F aE):=aJm p _ _ (aAJ aE _ ho aAq) (yAb _)
def aM7(n b:Nat):((((n/2^b)&&&1:Nat):Int)==1)=n[b]!:=by
 rw[pT,Nat.and_one_is_mod,yGe];cases h:decide (n/2^b%2=1) with
 |true=>rw[oqT h];rfl|false=>rw[beq_eq_false_iff_ne];exact of_decide_eq_false h
inductive Yw where
 |cut|nought|sign
 deriving DecidableEq
def Yw.s:Yw->Str
 |.cut => "cut" |.nought => "nought" |.sign => "sign"
def aD0(a b:Yw):aV .Eq (.str a.s) (.str b.s)=qz (.bool (decide (a=b))):=by cases a<;>cases b<;>kernel_rfl
def lb(wd:Yw)(kept:Nat)(f:Ft)(m w:Nat):Bool:=(m/2^kept==0)||(match wd with
 |.cut=>false|.nought=>fR (m/2^kept) (f.N/2^kept)==0
 | .sign=>m[(kept-1)]!&&decide (w<kept+f.A))
def yD:Option (Yw×Nat)->D
 |none=>.none|some (y,k)=>.tuple [.str y.s,.int k]
def aS3(d:Nat)(wd:Yw)(kept:Nat)(f:Ft)(m w:Nat)(hk:1<=kept)(hkw:kept<=w)(S:aC):cl fns (d+1) 49 [.d (.tuple [.str wd.s,.int kept]),.d f.d,.d (.int m),.d (.int w)] S=qz (.d (.bool (lb wd kept f m w)),S):=by
 have c1:aV .Eq (.str wd.s) (.str "nought")=qz (.bool (decide (wd=.nought))):=aD0 wd .nought;have c2:aV .Eq (.str wd.s) (.str "sign")=qz (.bool (decide (wd=.sign))):=aD0 wd .sign;have ek:(kept:Int)-1=((kept-1:Nat):Int):=();have el:decide ((w:Int)-(kept:Int)+1<=(f.A:Int))=decide (w<kept+f.A):=by
  rw[decide_eq_decide];omega
 rw[bO rfl d _ S rfl];unfold lb;cases q:(m/2^kept==0) with
 |true=>erw[20,eY,sC,kA,cK,dY,q,Bool.true_or]
 |false=>
   rw[Bool.false_or];cases wd with
   |cut=>
     rw[dqF (·)] at c1 c2;erw[11,sC,kA,cK,dY,q,c1,c2]
   |nought=>
     rw[dqT rfl] at c1;erw[11,sC,kA,cK,dY,q,c1,hZ,aJb,aHr]
   |sign=>
     rw[dqF (·)] at c1;rw[dqT rfl] at c2;cases q2:m[(kept-1)]! with
     |true=>erw[20,eY,sC,kA,cK,dY,q,c1,c2,cX,ek,aH9,aM7,q2,eC,aDT,jO,el,yBd]|false=>erw[20,eY,sC,kA,cK,dY,q,c1,c2,cX,ek,aH9,aM7,q2,yCe]
def qY(p:Nat->Bool):Nat->Nat->Nat
 |0,i=>i
 |n+1,i=>if p i=true then i else qY p n (i+1)
def aJw(p:Nat->Bool):∀ n i,p (i+n)=true->i<=qY p n i/\qY p n i<=i+n/\p (qY p n i)=true/\∀ j,i<=j->j<qY p n i->p j=false
 |0,i,h=>(yAb _,yAb _,h,λ j h1 h2=>absurd h1 (yIl h2),)
 |n+1,i,h=>by
   unfold qY;by_cases c:p i=true
   .rw[if_pos c];exact(yAb _,by omega,c,λ j h1 h2=>absurd h1 (yIl h2),)
   .rw[if_neg c];let(h1,h2,h3,h4):=aJw p n (i+1) (by rw[show i+1+n=i+(n+1) by omega];exact h);refine(by omega,by omega,h3,λ j h5 h6=>?_,);by_cases e:i=j
    .subst e;exact Bool.eq_false_iff.mpr c
    .exact h4 j () h6
def lw(y:Yw)(f:Ft)(m w:Nat):Nat:=qY (λ k=>lb y k f m w) (w-1) 1
def aVP(h:m<2^w):lb y w f m w=true:=by unfold lb;rw[yGs h];rfl
def aMa(y:Yw)(f:Ft)(hw:1<=w)(h:m<2^w):1<=lw y f m w/\lw y f m w<=w/\lb y (lw y f m w) f m w=true/\∀ j,1<=j->j<lw y f m w->lb y j f m w=false:=by
 let(h1,h2,h3,h4):=aJw (λ k=>lb y k f m w) (w-1) 1 (by
  show lb y (1+(w-1)) f m w=true;rw[show 1+(w-1)=w by omega]
  exact aVP h)
 exact(h1,by unfold lw;omega,h3,h4,)
def aCE:∀ l:List Nat,iG (l.map nD)=qz (l.map λ n=>((n:Nat):Int))
 |[]=>rfl
 |a::r=>by
   have ih:=aCE r;simp only[yAf,nD,iG];rw[show iG (r.map nD)=_ from ih,oB]
def aHV:∀ (l:List Nat) (a m:Nat),(m=a\/m∈l)->m<=a->(∀ b∈l,m<=b)->(l.map λ n=>((n:Nat):Int)).foldl min ((a:Nat):Int)=((m:Nat):Int)
 |[],a,m,h,_,_=>by
   rcases h with rfl|h
   .rfl
   .cases h
 |b::l,a,m,h,h1,h2=>by
   rw[yAf,yCl,show min (a:Int) (b:Int)=((min a b:Nat):Int) by omega];have hb:=h2 b xAc;refine aHV l (min a b) m ?_ () λ c hc=>h2 c (xAf _ hc)
   rcases h with rfl|h
   .exact .inl ()
   .rcases List.mem_cons.mp h with rfl|h
    .exact .inl ()
    .exact .inr h
def aKV{l:List Nat}{m:Nat}(h:m∈l)(h2:∀ b∈l,m<=b):kL [.list (l.map nD)]=qz (.int m):=by
 have e:=aCE l;cases l with
 |nil=>cases h
 |cons a r=>
   have f:=aHV r a m (List.mem_cons.mp h) (h2 a xAc) λ b hb=>h2 b (xAf _ hb)
   show(match iG ((a::r).map nD) with
    |some (i::r)=>qz (yAo (r.foldl min i))
    | _=>qx)=_
   rw[e,yAf];simp only[];rw[f]
def aPx(d:Nat)(y:Yw)(f:Ft)(m w:Nat)(cB:1<=w)(hw:w<=64)(hm:m<2^w)(S:aC):cl fns (d+2) 50 [.d (.str y.s),.d f.d,.d (.int m),.d (.int w)] S=qz (.d (.int (lw y f m w:Nat)),S):=by
 have ea:(w:Int)+1=((w+1:Nat):Int):=rfl;have hc:lv (d<$>1) aFI [qz (.d (.str y.s)),qz (.d f.d),(m:),(w:),qx] S=qz ((((yBw w).filter λ k=>lb y (1+k) f m w).map λ k=>nD (1+k)),S):=by
  refine @uP _ _ _ _ _ (lv (d<$>1) (.rng2 (.int 1) (.bin .Add (.var 3) (.int 1)))) (tv (d<$>1) (.call 49 (.cons (.tup (.cons (.var 0) (.cons (.var 4) .nil))) (.cons (.var 1) (.cons (.var 2) (.cons (.var 3) .nil)))))) (ev (d<$>1) (.var 4)) (λ k=>yAo ((1+k:Nat):Int)) (λ k=>nD (1+k)) (λ k=>lb y (1+k) f m w) (yBw w) ?_ (by rw[zx,yFd];omega) λ k hk=>?_
  .simp only[aLi,aIz,aJs,aIK,aJO,aI5];have:=@aOu (ev (d<$>1) (.int 1)) (ev (d<$>1) (.bin .Add (.var 3) (.int 1))) [qz (.d (.str y.s)),qz (.d f.d),(m:),(w:),qx] S S S 1 (w+1) rfl (by erw[20,eC,ea]) () ();rw[yHs] at this;exact this
  .have hk:=List.mem_range.mp hk;have l1:=λ S'=>aS3 d y (1+k) f m w () () S'
   refine([qz (.d (.str y.s)),qz (.d f.d),(m:),(w:),(((1+k:Nat):Int):)],rfl,λ S'=>?_,λ _ S'=>?_,)
   .erw[0,l1]
   .erw[0,True]
 let(h1,h2,h3,h4):=aMa y f cB hm;have mn:kL [.list (((yBw w).filter λ k=>lb y (1+k) f m w).map λ k=>nD (1+k))]=qz (.int (lw y f m w:Nat)):=by
  rw[show(((yBw w).filter λ k=>lb y (1+k) f m w).map λ k=>nD (1+k))=(((yBw w).filter λ k=>lb y (1+k) f m w).map λ k=>1+k).map nD by rw[yBv];rfl];refine aKV (List.mem_map.mpr (lw y f m w-1,List.mem_filter.mpr (List.mem_range.mpr (),?_,),by omega,)) λ b hb=>?_
  .show lb y (1+(lw y f m w-1)) f m w=true;rw[show 1+(lw y f m w-1)=lw y f m w by omega];exact h3
  .let(k,hk,rfl):=List.mem_map.mp hb;refine yEp λ c=>?_
   have:=(List.mem_filter.mp hk).2;rw[h4 (1+k) () c] at this;cases this
 rw[bO rfl (d+1) _ S rfl];erw[11,aF1,hc,mn]
def dP(f:Ft)(m w:Nat):Nat:=min (lw .cut f m w) (min (lw .nought f m w) (lw .sign f m w))
def oA(f:Ft)(m w:Nat):Yw:=if lw .cut f m w=dP f m w then .cut else if lw .nought f m w=dP f m w then .nought else .sign
def aJu:yAv (vE.map Tv.d)=.tuple [.str Yw.cut.s,.str Yw.nought.s,.str Yw.sign.s]:=rfl
def bAr(a b c m:Nat)(h:m=a\/m=b\/m=c):([a,b,c].map λ n=>((n:Nat):Int)).idxOf ((m:Nat):Int)=if a=m then 0 else if b=m then 1 else 2:=by
 have e:∀ x y:Nat,(((x:Nat):Int)==((y:Nat):Int))=decide (x=y):=λ x y=>by
  rw[yEe,beq_iff_eq,decide_eq_true_eq];omega
 simp only[yAf,yDp,List.idxOf_cons,e];by_cases h1:a=m
 .rw[dqT h1,if_pos h1];rfl
 .rw[dqF h1,if_neg h1];by_cases h2:b=m
  .rw[dqT h2,if_pos h2];rfl
  .rw[dqF h2,if_neg h2];by_cases h3:c=m
   .rw[dqT h3];rfl
   .omega
def aTC(S:aC)(xs:List D)(k:Int):xE S (.d (.list xs)) (.d (.int k))=(iG xs).bind λ ns=>if k∈ns then qz (.d (.int ((ns.idxOf k:Nat):Int)),S) else qx:=rfl
def aQK(d:Nat)(f:Ft)(m w:Nat)(cB:1<=w)(hw:w<=64)(hm:m<2^w)(S:aC):cl fns (d+3) 51 [.d f.d,.d (.int m),.d (.int w)] S=qz (.d (yD (qz (oA f m w,dP f m w))),S):=by
 have hc:lv (d<$>2) uH [qz (.d f.d),(m:),(w:),qx,qx,qx] S=qz ([Yw.cut,.nought,.sign].map λ y=>nD (lw y f m w),S):=by
  refine sF (fi:=lv (d<$>2) (.it (.con "WORDS" vE))) (fe:=ev (d<$>2) (.call 50 (.cons (.var 5) (.cons (.var 0) (.cons (.var 1) (.cons (.var 2) .nil)))))) (λ y:Yw=>yCb y.s) (λ y=>nD (lw y f m w)) [Yw.cut,.nought,.sign] ?_ (by rw[zx];show 3<=16777216;decide) λ y _=>?_
  .erw[20,aJu,iE]
  .have l1:=λ S'=>aPx d y f m w cB hw hm S'
   refine([qz (.d f.d),(m:),(w:),qx,qx,qz (.d (.str y.s))],rfl,λ S'=>?_,);show _=qz (W.d (yAo ((lw y f m w:Nat):Int)),S');erw[20,l1]
 have hc':lv (d<$>2) uH [qz (.d f.d),(m:),(w:),qx,qx,qx] S=qz ([lw .cut f m w,lw .nought f m w,lw .sign f m w].map nD,S):=hc;have mi:dP f m w=lw .cut f m w\/dP f m w=lw .nought f m w\/dP f m w=lw .sign f m w:=by unfold dP;omega
 have mn:kL [.list ([lw .cut f m w,lw .nought f m w,lw .sign f m w].map nD)]=qz (.int (dP f m w:Nat)):=by
  refine aKV (by simp only[yBg,yBb,or_false];exact mi) λ b hb=>?_
  simp only[yBg,yBb,or_false] at hb;unfold dP;omega
 have ix:xE S (.d (.list ([lw .cut f m w,lw .nought f m w,lw .sign f m w].map nD))) (.d (.int (dP f m w:Nat)))=qz (.d (.int ((if lw .cut f m w=dP f m w then 0 else if lw .nought f m w=dP f m w then 1 else 2:Nat):Int)),S):=by
  rw[aTC,aCE,oB,if_pos ?_,bAr _ _ _ _ mi];simp only[yAf,yDp,yBg,yBb,or_false];omega
 have wd:bD (.tuple [.str Yw.cut.s,.str Yw.nought.s,.str Yw.sign.s]) (.int ((if lw .cut f m w=dP f m w then 0 else if lw .nought f m w=dP f m w then 1 else 2:Nat):Int))=qz (.str (oA f m w).s):=by
  unfold oA;split
  .rfl
  .split<;>rfl
 generalize hL:yHg ([lw .cut f m w,lw .nought f m w,lw .sign f m w].map nD)=L at mn ix;generalize (if lw .cut f m w=dP f m w then 0 else if lw .nought f m w=dP f m w then 1 else 2:Nat)=j at ix wd;have fz:xs (d<$>2) (.setC false 3 uH) [qz (.d f.d),(m:),(w:),qx,qx,qx] S=qz (.nx [qz (.d f.d),(m:),(w:),qz (.d L),qx,qx],S):=by
  rw[<- hL];erw[20,hc']
 have e:rT=.seq (.setC false 3 uH) (bK rT):=rfl;have tl:xs (d<$>2) (bK rT) [qz (.d f.d),(m:),(w:),qz (.d L),qx,qx] S=qz (.rt (.d (yD (qz (oA f m w,dP f m w)))),S):=by
  erw[20,bK,rT,mn,aJu,aBC,ix,wd];rfl
 refine eK (S1:=S) rfl (d+2) rfl rfl yAj ?_;show xs (d<$>2) rT [qz (.d f.d),(m:),(w:),qx,qx,qx] S=_;rw[e,sO fz,tl]
def iD(r:Rw)(f:Ft)(m:Nat):Option (Yw×Nat):=if r.wd=.in then qz (.cut,r.w) else if m=0 then qx else qz (oA f m r.w,dP f m r.w)
def aVX(r:Rw):bD r.d (.int 0)=qz (.str r.wd.s):=@iW (.str r.wd.s::nD r.w::r.args.map nD) 0 _ rfl
def aRs(d:Nat)(r:Rw)(f:Ft)(m:Nat)(cB:1<=r.w)(hw:r.w<=64)(hm:m<2^r.w)(S:aC):cl fns (d+4) 52 [.d r.d,.d f.d,.d (.int m)] S=qz (.d (yD (iD r f m)),S):=by
 have c1:aV .Eq (.str r.wd.s) (.str "in")=qz (.bool (decide (r.wd=.in))):=cD r.wd .in;have ls:=aQK d f m r.w cB hw hm S;have rw0:=aVX r;have rw1:=nI r;unfold iD;rw[bO rfl (d+3) _ S rfl];by_cases c:r.wd=.in
 .rw[dqT c] at c1;rw[if_pos c];erw[11,aAe,rw0,c1,rw1]
 .rw[dqF c] at c1;rw[if_neg c];by_cases z:m=0
  .have dz:(m==0)=true:=by rw[beq_iff_eq];exact z
   rw[if_pos z];erw[11,aAe,rw0,c1,cK,dY,dz]
  .have dz:(m==0)=false:=by rw[beq_eq_false_iff_ne];exact z
   rw[if_neg z];erw[11,aAe,rw0,c1,cK,dY,dz,rw1,ls]
def z3:List Rw->List Ft->List Nat->List (Rw×Ft×Nat)
 |r::rs,f::F,m::M=>(r,f,m)::z3 rs F M|_,_,_=>[]
def aMp:∀ (rs:List Rw) (F:List Ft) (M:List Nat),gD (rs.map Rw.d) (F.map Ft.d) (M.map nD)=(z3 rs F M).map λ t=>yAv [t.1.d,t.2.1.d,nD t.2.2]
 |[],_,_=>rfl|_::_,[],_=>rfl|_::_,_::_,[]=>rfl
 |r::rs,f::F,m::M=>by
   have ih:=aMp rs F M;simp only[yAf,gD,z3,ih]
def aDN:∀ (rs:List Rw) (F:List Ft) (M:List Nat) (k:Nat) (t:Rw×Ft×Nat),(z3 rs F M)[k]?=qz t ↔ rs[k]?=qz t.1/\F[k]?=qz t.2.1/\M[k]?=qz t.2.2
 |[],_,_,k,t=>by simp[z3]|_::_,[],_,k,t=>by simp[z3]|_::_,_::_,[],k,t=>by simp[z3]|r::rs,f::F,m::M,0,(a,b,c)=>by simp[z3]
 |r::rs,f::F,m::M,k+1,t=>by
   have ih:=aDN rs F M k t;simpa [z3] using ih
def aDR:∀ (rs:List Rw) (F:List Ft) (M:List Nat),↑F=↑rs->↑M=↑rs->↑(z3 rs F M)=↑rs
 |[],_,_,_,_=>rfl|_::_,[],_,h,_=>by cases h|_::_,_::_,[],_,h=>by cases h
 |r::rs,f::F,m::M,h1,h2=>by
   have ih:=aDR rs F M (Nat.succ.inj h1) (Nat.succ.inj h2);simp only[z3,yAl,ih]
def eQ(rs:List Rw)(F:List Ft)(M:List Nat):List (Option (Yw×Nat)):=(z3 rs F M).map λ t=>iD t.1 t.2.1 t.2.2
def aPK{F:List Ft}(d:Nat)(p:Prg rs)(hF:↑F=↑rs)(h:Bd rs M)(o:D)(S:aC):cl fns (d+5) 53 [.d (rs<*o),.d (F*>Ft.d),.d (M*>nD)] S=qz (.d (.tuple ((eQ rs F M).map yD)),S):=by
 have pl:=p.l;have zl:=aDR rs F M hF h.l;have i0:bD (rs<*o) (.int 0)=qz (rs*>Rw.d):=rfl;have hz:=aMp rs F M;have hc:lv (d<$>4) aFJ [qz (.d (rs<*o)),qz (.d (F*>Ft.d)),qz (.d (M*>nD)),qx,qx,qx] S=qz ((eQ rs F M).map yD,S):=by
  unfold eQ;rw[yBv];refine sF (fi:=lv (d<$>4) (.zip3 (.ix (.var 0) (.int 0)) (.var 1) (.var 2))) (fe:=ev (d<$>4) (.call 52 (.cons (.var 3) (.cons (.var 4) (.cons (.var 5) .nil))))) (λ t:Rw×Ft×Nat=>yAv [t.1.d,t.2.1.d,nD t.2.2]) (yD ∘ λ t=>iD t.1 t.2.1 t.2.2) (z3 rs F M) ?_ (by rw[zx];omega) λ t ht=>?_
  .erw[0,i0,hz]
  .let(k,hk):=yDy ht;let(h1,h2,h3):=(aDN rs F M k t).mp hk;let(r,f,m):=t;have hw:=p.ws k r h1;have hm:m<2^r.w:=by
    have:=h.lt k r h1;rw[xAg,h3] at this;exact this
   have e1:=λ S'=>aRs d r f m hw.1 hw.2 hm S'
   refine([qz (.d (rs<*o)),qz (.d (F*>Ft.d)),qz (.d (M*>nD)),qz (.d r.d),qz (.d f.d),(m:)],rfl,λ S'=>?_,);show _=qz (W.d (yD (iD r f m)),S');erw[0,e1]
 rw[bO rfl (d+4) _ S rfl];erw[11,aFX,hc,mX,sS]
def aRZ{rs:List Rw}{F:List Ft}{M:List Nat}(hF:↑F=↑rs)(hM:↑M=↑rs):↑(eQ rs F M)=↑rs:=by unfold eQ;rw[yAd,aDR rs F M hF hM]
def qD{F:List Ft}{M:List Nat}(hr:rs[k]?=qz r)(hF:↑F=↑rs)(hM:↑M=↑rs):(eQ rs F M)[k]?=qz (iD r (f0 F k) (M.getD k 0)):=by have hk:k<↑rs:=(gIm hr).1;unfold eQ;rw[yAg,(aDN rs F M k (r,f0 F k,M.getD k 0)).mpr (hr,vQ (),aDj (),)];rfl
def yE(a b:Option (Yw×Nat)):Bool:=match a,b with|none,qx=>true|some (x,k),qz (y,l)=>decide (x=y)&&(k==l)|_,_=>false
def aE6(a:Option (Yw×Nat)):aV .Is (yD a) .none=qz (.bool a.isNone):=by rcases a with _|⟨x,k⟩<;>rfl
def rt(r:Rw)(f:Ft)(m:Nat)(y:Option (Yw×Nat)):Bool:=if r.wd=.in then decide (y=qz (.cut,r.w)) else if m=0 then y.isNone else match y with|none=>false|some (a,k)=>lb a k f m r.w
def Yok(w:Nat)(y:Option (Yw×Nat)):Prop:=∀ a k,y=qz (a,k)->1<=k/\k<=w
structure Yst(rs:List Rw)(Y:List (Option (Yw×Nat))):Prop where
 l:↑Y=↑rs
 ok:∀ (k:Nat) (r:Rw) (y:Option (Yw×Nat)),rs[k]?=qz r->Y[k]?=qz y->Yok r.w y
def aWy(f:Ft)(m w:Nat):lw (oA f m w) f m w=dP f m w:=by
 unfold oA;by_cases h1:lw .cut f m w=dP f m w
 .rw[if_pos h1];exact h1
 .rw[if_neg h1];by_cases h2:lw .nought f m w=dP f m w
  .rw[if_pos h2];exact h2
  .rw[if_neg h2];unfold dP at h1 h2 ⊢;omega
def aWk(f:Ft)(hw:1<=w)(h:m<2^w):1<=dP f m w/\dP f m w<=w/\lb (oA f m w) (dP f m w) f m w=true:=by have:=aMa (oA f m w) f hw h;rw[aWy] at this;exact(this.1,this.2.1,this.2.2.1,)
def aQA(r:Rw)(f:Ft)(m:Nat)(hw:1<=r.w)(h:m<2^r.w):Yok r.w (iD r f m):=by
 intro a k e;unfold iD at e;by_cases c:r.wd=.in
 .rw[if_pos c] at e;cases e;exact(hw,yAb _,)
 .rw[if_neg c] at e;by_cases z:m=0
  .rw[if_pos z] at e;cases e
  .rw[if_neg z] at e;cases e;have:=aWk f hw h;exact(this.1,this.2.1,)
def aSD{F:List Ft}(p:Prg rs)(hF:↑F=↑rs)(h:Bd rs M):Yst rs (eQ rs F M):=by refine(aRZ hF h.l,λ k r y hr hy=>?_,);rw[qD hr hF h.l] at hy;cases hy;exact aQA r _ _ (p.ws k r hr).1 (h.lt k r hr)
def eI(w:Wd):Bool:=w==.same||w==.less||w==.under
def Aq(rs:List Rw)(M:List Nat)(n:Nat):Prop:=∀ i r,n<=i->rs[i]?=qz r->eI r.wd=true->M.getD i 0≠0->∀ a∈bL r,M.getD a 0≠0
def aWO{rs:List Rw}{F:List Ft}(p:Prg rs){k m:Nat}{r:Rw}(hr:rs[k]?=qz r)(hc:eI r.wd=true)(hm:m≠0):∀ a∈bL r,∃ v,v≠0/\(a,v)∈dU rs F r m:=by
 let(f1,f2):=p.fit k r hr;let(w1,w2):=wQ f1;have hw3:r.wd=.same\/r.wd=.less\/r.wd=.under:=by
  unfold eI at hc;cases hh:r.wd<;>rw[hh] at hc<;>first|exact .inl rfl|exact .inr (.inl rfl)|exact .inr (.inr rfl)|(exfalso;revert hc;decide)
 have two:∃ a b,bL r=[a,b]:=by
  have hl:↑(cW r (~~~rs))=2:=by
   have w3:=w1.2.2;rcases hw3 with h|h|h<;>rw[h] at w3<;>(let(_,v,hv,_):=w3;rw[hv];rfl)
  unfold cW at hl;rw[yAd] at hl;change ↑(bL r)=2 at hl
  match h:bL r,hl with
  |[a,b],_=>exact(a,b,rfl,)
 let(a,b,e):=two;have hw:∀ x∈bL r,∃ u:Nat,1<=u/\g0 (~~~rs) x=u:=λ x hx=>by
  have hx2:=f2 x hx;have hk:k<↑rs:=(gIm hr).1;have hq:rs[x]?=qz rs[x]:=yAa ();exact(_,(p.ws x _ hq).1,nK hq,)
 have eo:cW r (~~~rs)=[g0 (~~~rs) a,g0 (~~~rs) b]:=by
  unfold cW;rw[show r.args.take (bF r.wd)=[a,b] from e];rfl
 have nz:∀ u:Nat,1<=u->2^u-1≠0:=λ u hu=>by
  have:=yAw (show 1<=2 by decide) hu;omega
 let(u,u1,eu):=hw a (by rw[e];simp);let(v,v1,ev):=hw b (by rw[e];simp);have en:iP rs F r m=[2^u-1,2^v-1]:=by
  unfold iP dD;rw[if_neg hm,eo,eu,ev];rcases hw3 with h|h|h<;>rw[h]<;>rfl
 intro x hx;unfold dU;rw[en,e];rw[e] at hx;rcases List.mem_cons.mp hx with rfl|hx
 .exact(_,nz u u1,by simp,)
 .obtain rfl:=List.mem_singleton.mp hx;exact(_,nz v v1,by simp,)
def xJ(a b:List D)(h:↑a+↑b<=1000):bW .Add (.tuple a) (.tuple b)=qz (.tuple (a++b)):=by
 cases a with
 |nil=>rfl
 |cons x r=>
   show(if (x::r).isEmpty=false/\↑(x::r)+↑b<=qk then qz (yAv ((x::r)++b)) else qx)=_;rw[if_pos (rfl,by rw[zx];omega,)]
def aHw(a:List D)(k:Nat):fJ a (qz (k:Nat)) qx=a.drop k:=by
 unfold fJ;rw[HT.sIx_none,HT.sIx_nat];rcases yFq k ↑a with h|h
 .rw[yCo h,yCd (by rw[yIh];omega)]
 .rw[yCq h,yIj,List.drop_of_length_le h,List.take_nil]
section
variable {rs:List Rw}{F:List Ft}{M:List Nat}{Y:List (Option (Yw×Nat))}{k:Nat}{y:Option (Yw×Nat)}
end
abbrev Ys:=List (Option (Yw×Nat))
abbrev Es:=List (Rw×Nat)
abbrev Ps:=List (Option Nat)
noncomputable abbrev M3:=Nat×List Rw×Es
def gN(r:Rw):List aZ:=.inr r.wd.s :: .inl ((r.w:Nat):Int)::r.args.map λ a=>.inl ((a:Nat):Int)
def aMr(r:Rw):W:=.tpl (.d (.str r.wd.s) :: .d (nD r.w)::r.args.map λ a=>.d (nD a))
def gK(E:Es):List (List aZ×Int):=E.map λ p=>(gN p.1,((p.2:Nat):Int))
def rM:Option Nat->D
 |none=>.none|some k=>.int k
noncomputable abbrev cP(P Y:D):W:=.ob [("program",.d P),("stays",.d Y),("rows",.loc 1),("places",.loc 2),("once",.dic 3)]
noncomputable abbrev sM(st:Option (List D))(R:List Rw)(Pl:Ps)(E:Es)(T:aC):aC:=st::qz (R.map Rw.d)::qz (Pl.map rM)::qz ((gK E).map lZ)::T
noncomputable abbrev oX(st:Option (List D))(Pl:Ps)(T:aC)(x:M3):Option (W×aC):=qz (.d (.int (x.1:Nat)),sM st x.2.1 Pl x.2.2 T)
def aUS(l:List Nat):fA (l.map λ a=>W0.d (nD a))=qz (l.map nD):=by
 induction l with
 |nil=>rfl|cons a r ih=>rw[yAf,fA,ih];rfl
def aYR(r:Rw):fA (.d (.str r.wd.s) :: .d (nD r.w)::r.args.map λ a=>W0.d (nD a))=qz (.str r.wd.s::nD r.w::r.args.map nD):=by rw[fA,fA,aUS];rfl
def aWJ(l:List Nat):gS (l.map λ a=>W0.d (nD a))=qz (l.map λ a=>.inl ((a:Nat):Int)):=by
 induction l with
 |nil=>rfl|cons a r ih=>rw[yAf,nD,gS,ih];rfl
def xA(r:Rw):gS (.d (.str r.wd.s) :: .d (nD r.w)::r.args.map λ a=>W0.d (nD a))=qz (gN r):=by rw[nD,gS,gS,aWJ];rfl
def jY{a b c e a' b' c' e':Option (List D)}{T:aC}:(a::b::c::e::T).take ↑(a'::b'::c'::e'::T)=a::b::c::e::T:=by simp
def aMP(b:Bool)(r:Rw):W:=match b with|false=>.d r.d|true=>aMr r
def fO(R:List Rw)(E:Es)(r:Rw):M3:=match cY (gK E) (gN r) with|some i=>(i.toNat,R,E)|none=>(↑R,R++[r],E++[(r,↑R)])
def aAo(E:Es)(r:Rw)(n:Nat):gK (E++[(r,n)])=gK E++[(gN r,((n:Nat):Int))]:=by unfold gK;rw[yAx];rfl
def aGO{i:Int}(h:cY es k=qx):cY (es++[(k,i)]) k=qz i:=by
 unfold cY at h ⊢;rw[yIe];cases q:es.find? λ p=>decide (p.1=k) with
 |none=>simp|some p=>rw[q] at h;cases h
def aRe{E:Es}{i:Int}(h:cY (gK E) k=qz i):((i.toNat:Nat):Int)=i:=by unfold cY gK at h;let(p,h1,h2):=Option.map_eq_some_iff.mp h;have:=List.mem_of_find?_eq_some h1;let(q,_,rfl):=List.mem_map.mp this;subst h2;rfl
def yN(st:Option (List D))(R:List Rw)(Pl:Ps)(E:Es)(T:aC):kZ (sM st R Pl E T) 3=qz (gK E):=by unfold kZ;show qz (((gK E).map lZ).filterMap tY)=_;rw[aEA]
def bZ(Y:Ys)(Pl:Ps)(R:List Rw)(E:Es)(k w:Nat):M3:=match Y.getD k qx with
 |none=>fO R E (.num,w,[0],)
 |some (y,kept)=>if kept=w then ((Pl.getD k qx).getD 0,R,E) else if w<kept then fO R E (.cut,w,[(Pl.getD k qx).getD 0],) else fO R E (if y=.sign then .sign else .wide,w,[(Pl.getD k qx).getD 0],)
section
variable {st:Option (List D)}{R:List Rw}{Pl:Ps}{E:Es}{T:aC}{Y:Ys}{P YY:D}
def aAH(b:Bool)(r:Rw)(hz:↑R+↑E<=1900):eO (sM st R Pl E T) (.loc 1) (aMP b r)=qz (.d .none,sM st (R++[r]) Pl E T):=by
 have h:tM (sM st R Pl E T) 1 r.d=qz (.d .none,sM st (R++[r]) Pl E T):=by
  show(if ↑(R.map Rw.d)<qk then _ else qx)=_;rw[if_pos (by rw[yAd,zx];omega),show R.map Rw.d++[r.d]=(R++[r]).map Rw.d by rw[yAx];rfl];rfl
 cases b with
 |false=>exact h
 |true=>
   show(fA _).bind (λ l=>tM (sM st R Pl E T) 1 (.tuple l))=_;rw[aYR];exact h
def qB(d:Nat)(b:Bool)(r:Rw)(hz:↑R+↑E<=1900):cl fns (d+1) 54 [cP P YY,aMP b r] (sM st R Pl E T)=oX st Pl T (↑R,R++[r],E):=by
 have ln:mC [.list ((R++[r]).map Rw.d)]=qz (.int ((↑R+1:Nat):Int)):=by
  show qz (yAo ((↑((R++[r]).map Rw.d):Nat):Int))=_;rw[yAd,xAn];rfl
 exact dN rfl rfl rfl (eE (qK (wU (vP (aD rfl) rfl) (aD rfl) (aAH b r hz))) (bH (gF (fH (aH (vP (aD rfl) rfl) aQ) (eX (qS rfl) gC) ln) bG (by rw[cX,show((↑R+1:Nat):Int)-1=((↑R:Nat):Int) by omega])))) jY
def aDp(d:Nat)(r:Rw)(hz:↑R+↑E<=1900):cl fns (d+2) 55 [cP P YY,aMr r] (sM st R Pl E T)=oX st Pl T (fO R E r):=by
 have mk:=@qB st _ Pl _ T P YY d true r hz;unfold fO;cases hv:cY (gK E) (gN r) with
 |some i=>
   have hv':cY (gK E) (gN r)=qz (i.toNat:Int):=by rw[aRe hv];exact hv
   exact dN rfl rfl rfl (bE (aD5 (aD rfl) (sL (aD rfl) rfl) (xA r) (yN st R Pl E T) (by rw[hv];rfl)) (bH (aDI (sL (aD rfl) rfl) (aD rfl) (xA r) (yN st R Pl E T) hv'))) jY
 |none=>
   have pt:qW (gK E) (gN r) ((↑R:Nat):Int)=gK (E++[(r,↑R)]):=by
    unfold qW;rw[hv,if_neg (·),aAo]
   exact dN rfl rfl rfl (eE (qU (aD5 (aD rfl) (sL (aD rfl) rfl) (xA r) (yN st R Pl E T) (by rw[hv];rfl)) (oS (aJT (eG (aD rfl) rfl (aH (aD rfl) aQ) mk) (sL (aD rfl) rfl) (aD rfl) (xA r) (yN st (R++[r]) Pl E T) (by unfold gK;rw[yAd,zx];omega) (by rw[pt];rfl)))) (bH (aDI (sL (aD rfl) rfl) (aD rfl) (xA r) (yN st (R++[r]) Pl (E++[(r,↑R)]) T) (by rw[aAo];exact aGO hv)))) jY
def eJ(Y:Ys)(Pl:Ps)(k:Nat):Prop:=∃ y,Y[k]?=qz y/\∀ a b,y=qz (a,b)->∃ p,Pl[k]?=qz (qz p)
def oJ(d:Nat)(w:Nat)(hk:eJ Y Pl k)(hz:↑R+↑E<=1900):cl fns (d+3) 56 [cP P (Y*>yD),.d (.int k),.d (.int w)] (sM st R Pl E T)=oX st Pl T (bZ Y Pl R E k w):=by
 let(y,hy,hp):=hk;have on:=λ(r:Rw)=>@aDp st _ Pl _ T P (Y*>yD) d r hz
 have i0:bD (Y*>yD) (.int k)=qz (yD y):=iW (by rw[yAg,hy];rfl);unfold bZ;rw[show Y.getD k qx=y by rw[xAg,hy];rfl];cases y with
 |none=>exact dN rfl rfl rfl (bP (bY (qG (aD rfl) rfl) (aD rfl) rfl i0) rfl (cC (bN (aD rfl) aEp (aE6 qx)) (bH (eG (aD rfl) rfl (aH (sX (aH cU (aH (aD rfl) (aH bG aQ))) rfl (eq_true (yAc rfl))) aQ) (on (.num,w,[0],)))))) jY
 |some q=>
   let(a,kept):=q;let(p,hpl):=hp a kept rfl;have pa:bD (.list (Pl.map rM)) (.int k)=qz (.int p):=oQ (by rw[yAg,hpl];rfl);have gp:∀ {C:Calls}{c3 c4 c5:Option W},ev C (.ix (.fld (.var 0) "places") (.var 1)) [qz (cP P (Y*>yD)),(k:),(w:),c3,c4,c5] (sM st R Pl E T)=qz (.d (.int p),sM st R Pl E T):=λ {C c3 c4 c5}=>bY (vP (aD rfl) rfl) (aD rfl) (qS rfl) pa
   dsimp only;rw[show(Pl.getD k qx).getD 0=p by rw[xAg,hpl];rfl];have go:∀ {x:M3},xs (d<$>2) (bK (bK (bK aKu))) [qz (cP P (Y*>yD)),(k:),(w:),qz (.d (yD (qz (a,kept)))),qz (.d (.str a.s)),(kept:)] (sM st R Pl E T)=qz (.rt (.d (.int (x.1:Nat))),sM st x.2.1 Pl x.2.2 T)->cl fns (d+3) 56 [cP P (Y*>yD),.d (.int k),.d (.int w)] (sM st R Pl E T)=oX st Pl T x:=λ {x} h=>dN rfl rfl rfl (bP (bY (qG (aD rfl) rfl) (aD rfl) rfl i0) rfl (bE (bN (aD rfl) aEp (aE6 (qz (a,kept)))) (eE (aDF (aD rfl) rfl) h))) jY
   by_cases c:kept=w
   .rw[if_pos c];exact go (x:=(p,R,E)) (cC (bN (aD rfl) (aD rfl) (by rw[cK,c,beq_self_eq_true])) (bH gp))
   .rw[if_neg c];have ce:aV .Eq (.int kept) (.int w)=qz (.bool false):=by rw[cK,beq_eq_false_iff_ne.mpr ()]
    by_cases g:w<kept
    .rw[if_pos g];exact go (bE (bN (aD rfl) (aD rfl) ce) (cC (bN (aD rfl) (aD rfl) (by rw[iY,dqT ()])) (bH (eG (aD rfl) rfl (aH (sX (aH cU (aH (aD rfl) (aH gp aQ))) rfl (eq_true (yAc rfl))) aQ) (on (.cut,w,[p],))))))
    .rw[if_neg g];have cg:aV .Gt (.int kept) (.int w)=qz (.bool false):=by rw[iY,dqF ()]
     have ys:aV .Eq (.str a.s) (.str "sign")=qz (.bool (decide (a=.sign))):=aD0 a .sign;have cG:∀ z:Wd,ev (d<$>2) (.ite (.cmp .Eq (.var 4) (.str "sign")) (.str "sign") (.str "wide")) [qz (cP P (Y*>yD)),(k:),(w:),qz (.d (yD (qz (a,kept)))),qz (.d (.str a.s)),(kept:)] (sM st R Pl E T)=qz (.d (.str z.s),sM st R Pl E T)->cl fns (d+3) 56 [cP P (Y*>yD),.d (.int k),.d (.int w)] (sM st R Pl E T)=oX st Pl T (fO R E ⟨z,w,[p]⟩):=λ z h=>go (bE (bN (aD rfl) (aD rfl) ce) (bE (bN (aD rfl) (aD rfl) cg) (bH (eG (aD rfl) rfl (aH (sX (aH h (aH (aD rfl) (aH gp aQ))) rfl (eq_true (yAc rfl))) aQ) (on (z,w,[p],))))))
     by_cases z:a=.sign
     .rw[if_pos z];exact cG .sign (aEh (bN (aD rfl) cU (by rw[ys,dqT z])) rfl)
     .rw[if_neg z];exact cG .wide (aEh (bN (aD rfl) cU (by rw[ys,dqF z])) rfl)
end
inductive CRun (t:Tg) (fe:FE) (env:aX):List D->List D->aC->aC->Prop
 |nil {S:aC}:CRun t fe env [] [] S S
 |cons {x v:D}{e1:aX}{ds vs:List D}{S S1 S2:aC}:t.put x env=qz e1->(∀ aO,fe e1 (S++[qz aO])=qz (.d v,S1++[qz aO]))->↑S1=↑S->CRun t fe env ds vs S1 S2->CRun t fe env (x::ds) (v::vs) S S2
def aJQ{fe:FE}:∀ {ds vs:List D}{S S2:aC},CRun t fe env ds vs S S2->∀ aO:List D,↑aO+↑ds<=qk->gE t kO fe ↑S env ds (S++[qz aO])=qz (S2++[qz (aO++vs)])/\↑S2=↑S
 |_,_,_,_,.nil,aO,_=>by simp[gE]
 |_,_,S,_,.cons (v:=v) (S1:=S1) h1 h2 h3 h4,aO,hz=>by
   rw[yAl] at hz;let(i1,i2):=aJQ h4 (aO++[v]) (by rw[xAn,yDq];omega);rw[h3] at i1 i2;have ea:eO (S1++[qz aO]) (.loc ↑S) (.d v)=qz (.d .none,S1++[qz (aO++[v])]):=by
    unfold eO;rw[<- h3];simp only[yAi (yAb ↑S1),yBe,yCc];rw[if_pos (),aAr]
   refine(?_,i2,);simp only[gE,h1,kO,oB,if_true,h2,ea];rw[i1,yAz];rfl
def aAx{fi:FL}{fe:FE}(hi:fi env S=qz (ds,S1))(hz:↑ds<=1000)(h:CRun t fe (clr t.slots env) ds vs S1 S2):iI t fi kO fe env S=qz (vs,S2):=by let(i1,i2):=aJQ h [] (by rw[zx,yCm];omega);unfold iI;rw[hi];simp only[oB];rw[i1];simp[<- i2]
def cF(Y:Ys)(Pl:Ps):List Rw->Es->List (Nat×Nat)->List Nat×List Rw×Es
 |R,E,[]=>([],R,E)|R,E,q::l=>((bZ Y Pl R E q.1 q.2).1::(cF Y Pl (bZ Y Pl R E q.1 q.2).2.1 (bZ Y Pl R E q.1 q.2).2.2 l).1,(cF Y Pl (bZ Y Pl R E q.1 q.2).2.1 (bZ Y Pl R E q.1 q.2).2.2 l).2)
def aAv(R:List Rw)(E:Es)(r:Rw):(fO R E r).2.1.length+(fO R E r).2.2.length<=↑R+↑E+2:=by
 unfold fO;split<;>simp
 omega
def mR(Y:Ys)(Pl:Ps)(R:List Rw)(E:Es)(k w:Nat):(bZ Y Pl R E k w).2.1.length+(bZ Y Pl R E k w).2.2.length<=↑R+↑E+2:=by
 unfold bZ;split
 .exact aAv _ _ _
 .split
  .simp
  .split<;>exact aAv _ _ _
def qA(Y:Ys)(Pl:Ps):∀ (l:List (Nat×Nat)) (R:List Rw) (E:Es),(cF Y Pl R E l).2.1.length+(cF Y Pl R E l).2.2.length<=↑R+↑E+2*↑l/\(cF Y Pl R E l).1.length=↑l
 |[],R,E=>(yAb _,rfl,)
 |q::l,R,E=>by
   have h:=mR Y Pl R E q.1 q.2;let(i1,i2):=qA Y Pl l (bZ Y Pl R E q.1 q.2).2.1 (bZ Y Pl R E q.1 q.2).2.2;unfold cF;simp only[yAl];omega
section
variable {st:Option (List D)}{R:List Rw}{Pl:Ps}{E:Es}{T:aC}{Y:Ys}{P YY:D}
def vR{t:Tg}{fe:FE}(enc:Nat×Nat->D)(e:Nat×Nat->aX)(hput:∀ q,t.put (enc q) env=qz (e q)):∀ (l:List (Nat×Nat)) (R:List Rw) (E:Es),↑R+↑E+2*↑l<=1900->(∀ q∈l,∀ (R:List Rw) (E:Es) (T:aC),↑R+↑E<=1900->fe (e q) (sM st R Pl E T)=oX st Pl T (bZ Y Pl R E q.1 q.2))->CRun t fe env (l.map enc) ((cF Y Pl R E l).1.map nD) (sM st R Pl E T) (sM st (cF Y Pl R E l).2.1 Pl (cF Y Pl R E l).2.2 T)
 |[],R,E,_,_=>.nil
 |q::l,R,E,h1,h=>by
   rw[yAl] at h1;have ln:=mR Y Pl R E q.1 q.2;exact .cons (S1:=sM st (bZ Y Pl R E q.1 q.2).2.1 Pl (bZ Y Pl R E q.1 q.2).2.2 T) (hput q) (λ aO=>h q xAc R E (T++[qz aO]) ()) (by simp) (vR enc e hput l _ _ () λ z hz=>h z (xAf _ hz))
def mI(Y:Ys)(Pl:Ps)(R:List Rw)(E:Es)(l:List (Nat×Nat))(f:List Nat->Rw):M3:=((cF Y Pl R E l).2.1.length,(cF Y Pl R E l).2.1++[f (cF Y Pl R E l).1],(cF Y Pl R E l).2.2)
def pB(Y:Ys)(Pl:Ps)(R:List Rw)(E:Es)(r:Rw)(a s w:Nat):M3:=
 let v:=min r.w (w+s);let q:=bZ Y Pl R E a v
 if w<v then fO (q.2.1++[(r.wd,v,[q.1,s],)]) q.2.2 (.cut,w,[q.2.1.length],) else (q.2.1.length,q.2.1++[(r.wd,v,[q.1,s],)],q.2.2)
def aNc(a b:Nat):kL [.int ((a:Nat):Int),.int ((b:Nat):Int)]=qz (.int ((min a b:Nat):Int)):=by show qz (yAo (if ((b:Nat):Int)<((a:Nat):Int) then ((b:Nat):Int) else ((a:Nat):Int)))=_;congr 2;split<;>omega
def aPu(d:Nat)(wd:Wd)(w0:Nat)(s w:Nat)(ha:eJ Y Pl a)(hz:↑R+↑E<=1800):cl fns (d+4) 57 [cP P (Y*>yD),.d (Rw.d (wd,w0,[a,s],)),.d (.int w)] (sM st R Pl E T)=oX st Pl T (pB Y Pl R E (wd,w0,[a,s],) a s w):=by
 have mn:=aNc w0 (w+s);unfold pB;dsimp only;generalize min w0 (w+s)=v at mn ⊢;have l:=mR Y Pl R E a v;have f1:=@oJ st _ _ _ T _ P _ d v ha (show ↑R+↑E<=1900 by omega);generalize bZ Y Pl R E a v=q at l f1 ⊢;let(n,R1,E1):=q;dsimp only at l f1 ⊢;have m1:=@qB st _ Pl _ T P (Y*>yD) (d+2) false (wd,v,[n,s],) (show ↑R1+↑E1<=1900 by omega);have o1:=@aDp st (R1++[((wd,v,[n,s],):Rw)]) Pl E1 T P (Y*>yD) (d+1) (.cut,w,[↑R1],) (by rw[xAn,yDq];omega);have ad:bW .Add (.int w) (.int s)=qz (.int ((w+s:Nat):Int)):=by rw[eC];rfl
 have go:∀ {x:M3},xs (d<$>3) (bK (bK (bK aGq))) [qz (cP P (Y*>yD)),qz (.d (Rw.d ⟨wd,w0,[a,s]⟩)),(w:),(v:),(n:),(↑R1:)] (sM st (R1++[⟨wd,v,[n,s]⟩]) Pl E1 T)=qz (.rt (.d (.int (x.1:Nat))),sM st x.2.1 Pl x.2.2 T)->cl fns (d+4) 57 [cP P (Y*>yD),.d (Rw.d ⟨wd,w0,[a,s]⟩),.d (.int w)] (sM st R Pl E T)=oX st Pl T x:=λ {x} h=>dN rfl rfl rfl (bP (fH (aH (bY (aD rfl) bG rfl rfl) (aH (gF (aD rfl) (bY (aD rfl) bG rfl rfl) ad) aQ)) (eX gT (eX gT gC)) mn) rfl (bP (eG (aD rfl) rfl (aH (bY (aD rfl) bG rfl rfl) (aH (aD rfl) aQ)) f1) rfl (bP (eG (aD rfl) rfl (aH (eW (aH (bY (aD rfl) bG rfl rfl) (aH (aD rfl) (aH (aD rfl) (aH (bY (aD rfl) bG rfl rfl) aQ)))) rfl (yAc rfl)) aQ) m1) rfl h))) jY
 by_cases c:w<v
 .rw[if_pos c];exact go (cC (bN (aD rfl) (aD rfl) (by rw[iY,dqT ()])) (bH (eG (aD rfl) rfl (aH (sX (aH cU (aH (aD rfl) (aH (aD rfl) aQ))) rfl (eq_true (yAc rfl))) aQ) o1)))
 .rw[if_neg c];exact go (x:=(↑R1,R1++[(wd,v,[n,s],)],E1)) (bE (bN (aD rfl) (aD rfl) (by rw[iY,dqF ()])) (bH (aD rfl)))
def rG(Y:Ys)(Pl:Ps)(R:List Rw)(E:Es)(wd:Wd)(a old w:Nat):M3:=
 if w<=old then bZ Y Pl R E a w else fO (bZ Y Pl R E a old).2.1 (bZ Y Pl R E a old).2.2 (wd,w,[(bZ Y Pl R E a old).1],)
def aP7(d:Nat)(o:D)(wd:Wd)(w0:Nat)(w:Nat)(hra:rs[a]?=qz ra)(ha:eJ Y Pl a)(hz:↑R+↑E<=1800):cl fns (d+4) 58 [cP (rs<*o) (Y*>yD),.d (Rw.d (wd,w0,[a],)),.d (.int w)] (sM st R Pl E T)=oX st Pl T (rG Y Pl R E wd a ra.w w):=by
 have wo:=λ S=>wC (d+2) a hra o S
 generalize (yAv [(rs*>Rw.d),o])=P at wo ⊢;have l:=mR Y Pl R E a ra.w;have f1:=λ v=>@oJ st _ _ _ T _ P _ d v ha (show ↑R+↑E<=1900 by omega)
 unfold rG;have ow:ev (d<$>3) (.call 10 (.cons (.fld (.var 0) "program") (.cons (.ix (.var 1) (.int 2)) .nil))) [qz (cP P (Y*>yD)),qz (.d (Rw.d (wd,w0,[a],))),(w:),qx] (sM st R Pl E T)=qz (.d (.int ra.w),sM st R Pl E T):=bM (aH (qG (aD rfl) rfl) (aH (bY (aD rfl) bG rfl rfl) aQ)) (wo _);by_cases c:w<=ra.w
 .rw[if_pos c];exact dN rfl rfl rfl (bP ow rfl (cC (bN (aD rfl) (aD rfl) (by rw[aDT,dqT ()])) (bH (eG (aD rfl) rfl (aH (bY (aD rfl) bG rfl rfl) (aH (aD rfl) aQ)) (f1 w))))) jY
 .rw[if_neg c];have f2:=f1 ra.w;generalize bZ Y Pl R E a ra.w=q at l f2 ⊢;let(n,R1,E1):=q;dsimp only at l f2 ⊢;exact dN rfl rfl rfl (bP ow rfl (bE (bN (aD rfl) (aD rfl) (by rw[aDT,dqF ()])) (bH (eG (aD rfl) rfl (aH (sX (aH (bY (aD rfl) bG rfl rfl) (aH (aD rfl) (aH (eG (aD rfl) rfl (aH (bY (aD rfl) bG rfl rfl) (aH (aD rfl) aQ)) f2) aQ))) rfl (eq_true (yAc rfl))) aQ) (aDp (d+1) (wd,w,[n],) ()))))) jY
end
def sgC(a b:Yw):Nat:=(if a=.sign then 1 else 0)+(if b=.sign then 1 else 0)
def nY(wd:Wd)(a b:Yw×Nat)(old:Nat):Nat:=if sgC a.1 b.1=1 then old else if sgC a.1 b.1=0/\wd=.under then min old (max a.2 b.2+1) else max a.2 b.2
def aUu(a b:Yw):xS [.str a.s,.str b.s] (.str "sign")=qz (.int (sgC a b:Nat)):=by cases a<;>cases b<;>kernel_rfl
def aTw(wd:Wd)(h:eI wd=true):aV .Eq (.str wd.s) (.str "under")=qz (.bool (decide (wd=.under))):=by cases wd<;>first|kernel_rfl|(exfalso;revert h;decide)
def aZM(a b:Nat):pI [.int ((a:Nat):Int),.int ((b:Nat):Int)]=qz (.int ((max a b:Nat):Int)):=by show qz (yAo (if ((b:Nat):Int)>((a:Nat):Int) then ((b:Nat):Int) else ((a:Nat):Int)))=_;congr 2;split<;>omega
def aPh(d:Nat)(wd:Wd)(hw:eI wd=true)(a b:Yw×Nat)(old:Nat)(S:aC):cl fns (d+1) 59 [.d (.str wd.s),.d (yD (qz a)),.d (yD (qz b)),.d (.int old)] S=qz (.d (.int (nY wd a b old:Nat)),S):=by
 let(a,ka):=a;let(b,kb):=b;have mx:=aZM ka kb;have cn:=aUu a b;have cu:=aTw wd hw;unfold nY;dsimp only;generalize max ka kb=g at mx ⊢;generalize sgC a b=n at cn ⊢;have go:∀ {v:Nat},xs (aF fns d) (bK (bK aFO)) [qz (.d (.str wd.s)),qz (.d (yD (qz (a,ka)))),qz (.d (yD (qz (b,kb)))),(old:),(g:),(n:)] S=qz (.rt (.d (.int v)),S)->cl fns (d+1) 59 [.d (.str wd.s),.d (yD (qz (a,ka))),.d (yD (qz (b,kb))),.d (.int old)] S=qz (.d (.int v),S):=λ {v} h=>dN rfl rfl rfl (bP (fH (aH (bY (aD rfl) bG rfl rfl) (aH (bY (aD rfl) bG rfl rfl) aQ)) (eX gT (eX gT gC)) mx) rfl (bP (aLD (aH (bY (aD rfl) bG rfl rfl) (aH (bY (aD rfl) bG rfl rfl) aQ)) rfl (eq_true (yAc rfl)) cU rfl cn) rfl h)) yAj
 have ce:∀ i:Nat,aV .Eq (.int n) (.int i)=qz (.bool (decide (n=i))):=λ i=>by
  rw[cK];congr 2;rw[yEe,beq_iff_eq,decide_eq_true_eq];omega
 have c1:=ce 1;have c0:=ce 0;by_cases c:n=1
 .rw[if_pos c];rw[dqT c] at c1;exact go (cC (bN (aD rfl) bG c1) (bH (aD rfl)))
 .rw[if_neg c];rw[dqF c] at c1;by_cases q:n=0/\wd=.under
  .rw[if_pos q];rw[dqT q.1] at c0;rw[dqT q.2] at cu;exact go (bE (bN (aD rfl) bG c1) (cC (oP (bN (aD rfl) bG c0) (bN (aD rfl) cU cu)) (bH (fH (aH (aD rfl) (aH (gF (aD rfl) bG (show bW .Add (.int g) (.int 1)=qz (.int ((g+1:Nat):Int)) by rw[eC];rfl)) aQ)) (eX gT (eX gT gC)) (aNc old (g+1))))))
  .rw[if_neg q];refine go (bE (bN (aD rfl) bG c1) (bE (S1:=S) ?_ (bH (aD rfl))));by_cases z:n=0
   .rw[dqT z] at c0;rw[dqF λ u=>q (z,u,)] at cu;exact oP (bN (aD rfl) bG c0) (bN (aD rfl) cU cu)
   .rw[dqF z] at c0;exact oP (bN (aD rfl) bG c0) rfl
section
variable {st:Option (List D)}{R:List Rw}{Pl:Ps}{E:Es}{T:aC}{Y:Ys}{P YY:D}
def xO(Y:Ys)(Pl:Ps)(R:List Rw)(E:Es)(wd:Wd)(a b v:Nat):M3:=mI Y Pl R E [(a,v),(b,v)] λ x=>(wd,1,x,)
def aOp(d:Nat)(o:D)(wd:Wd)(hw:eI wd=true)(hcn:bF wd=2)(w0:Nat)(hra:rs[a]?=qz ra)(ha:eJ Y Pl a)(hb:eJ Y Pl b)(hya:Y[a]?=qz (qz ya))(hyb:Y[b]?=qz (qz yb))(hz:↑R+↑E<=1800):cl fns (d+4) 60 [cP (rs<*o) (Y*>yD),.d (Rw.d (wd,w0,[a,b],))] (sM st R Pl E T)=oX st Pl T (xO Y Pl R E wd a b (nY wd ya yb ra.w)):=by
 have op:∀ S,cl fns (d+3) 7 [.d (Rw.d ⟨wd,w0,[a,b]⟩)] S=qz (.d (.tuple [.int a,.int b]),S):=λ S=>by
  have:=oE (d+2) (wd,w0,[a,b],) S;rw[hcn] at this;exact this
 have wo:=λ S=>wC (d+2) a hra o S
 generalize (yAv [(rs*>Rw.d),o])=P at wo ⊢;have ia:bD (Y*>yD) (.int a)=qz (yD (qz ya)):=iW (by rw[yAg,hya];rfl);have ib:bD (Y*>yD) (.int b)=qz (yD (qz yb)):=iW (by rw[yAg,hyb];rfl);have cw:=λ S=>aPh (d+2) wd hw ya yb ra.w S
 generalize nY wd ya yb ra.w=v at cw ⊢;have l:=qA Y Pl [(a,v),(b,v)] R E;have hc:lv (d<$>3) aFE [qz (cP P (Y*>yD)),qz (.d (Rw.d (wd,w0,[a,b],))),(ra.w:),(v:),qx,(a:),(b:),qx] (sM st R Pl E T)=qz ((cF Y Pl R E [(a,v),(b,v)]).1.map nD,sM st (cF Y Pl R E [(a,v),(b,v)]).2.1 Pl (cF Y Pl R E [(a,v),(b,v)]).2.2 T):=by
  refine @aAx _ _ ([(a,v),(b,v)].map λ q=>nD q.1) _ (.one 7) _ _ (lv (d<$>3) (.it (.tup (.cons (.var 5) (.cons (.var 6) .nil))))) (ev (d<$>3) (.mth "fetch" 56 (.var 0) (.cons (.var 7) (.cons (.var 3) .nil)))) rfl (yAc rfl) (vR (λ q=>nD q.1) _ (λ q=>rfl) _ R E (by simp;omega) λ q hq R E T h1=>?_);have hk:eJ Y Pl q.1/\q.2=v:=by
   rcases List.mem_cons.mp hq with rfl|hq
   .exact(ha,rfl,)
   .rw[List.mem_singleton.mp hq];exact(hb,rfl,)
  let(k,u):=q;let(hk,rfl):=hk;exact eG rfl rfl rfl (oJ d u hk h1)
 have ct:bW .Add (.tuple [.str wd.s,.int 1]) (.tuple ((cF Y Pl R E [(a,v),(b,v)]).1.map nD))=qz (Rw.d (wd,1,(cF Y Pl R E [(a,v),(b,v)]).1,)):=xJ _ _ (by rw[yAd,l.2];exact yAc rfl);exact dN rfl rfl rfl (eE (aDF (bM (aH (aD rfl) aQ) (op _)) rfl) (bP (bM (aH (qG (aD rfl) rfl) (aH (aD rfl) aQ)) (wo _)) rfl (bP (bM (aH (bY (aD rfl) bG rfl rfl) (aH (bY (qG (aD rfl) rfl) (aD rfl) rfl ia) (aH (bY (qG (aD rfl) rfl) (aD rfl) rfl ib) (aH (aD rfl) aQ)))) (cw _)) rfl (bP (fH (aH (hV hc) aQ) (eX gT gC) mX) rfl (bH (eG (aD rfl) rfl (aH (gF (eW (aH (bY (aD rfl) bG rfl rfl) (aH bG aQ)) rfl (yAc rfl)) (aD rfl) ct) aQ) (qB (d+2) false (wd,1,(cF Y Pl R E [(a,v),(b,v)]).1,) (by have:=l.1;simp at this;omega)))))))) jY
def uD(Y:Ys)(Pl:Ps)(R:List Rw)(E:Es)(r:Rw)(w:Nat):M3:=mI Y Pl R E ((bL r).map λ k=>(k,w)) λ x=>(r.wd,w,x++r.args.drop (bF r.wd),)
def yO(Y:Ys)(Pl:Ps)(R:List Rw)(E:Es)(c a b w:Nat):M3:=mI Y Pl R E [(c,1),(a,w),(b,w)] λ x=>(.pick,w,x,)
def aQ0(d:Nat)(w0:Nat)(w:Nat)(hc:eJ Y Pl c)(ha:eJ Y Pl a)(hb:eJ Y Pl b)(hz:↑R+↑E<=1800):cl fns (d+4) 62 [cP P (Y*>yD),.d (Rw.d (.pick,w0,[c,a,b],)),.d (.int w)] (sM st R Pl E T)=oX st Pl T (yO Y Pl R E c a b w):=by
 have f1:=@oJ st _ _ _ T _ P _ d 1 hc (show ↑R+↑E<=1900 by omega);have l1:=mR Y Pl R E c 1;have e:yO Y Pl R E c a b w=((cF Y Pl (bZ Y Pl R E c 1).2.1 (bZ Y Pl R E c 1).2.2 [(a,w),(b,w)]).2.1.length,(cF Y Pl (bZ Y Pl R E c 1).2.1 (bZ Y Pl R E c 1).2.2 [(a,w),(b,w)]).2.1++[(.pick,w,(bZ Y Pl R E c 1).1::(cF Y Pl (bZ Y Pl R E c 1).2.1 (bZ Y Pl R E c 1).2.2 [(a,w),(b,w)]).1,)],(cF Y Pl (bZ Y Pl R E c 1).2.1 (bZ Y Pl R E c 1).2.2 [(a,w),(b,w)]).2.2):=rfl;rw[e];generalize bZ Y Pl R E c 1=q at f1 l1 ⊢;let(n,R1,E1):=q;dsimp only at f1 l1 ⊢;have l:=qA Y Pl [(a,w),(b,w)] R1 E1;have hC:lv (d<$>3) aFV [qz (cP P (Y*>yD)),qz (.d (Rw.d (.pick,w0,[c,a,b],))),(w:),(n:),qx,qx] (sM st R1 Pl E1 T)=qz ((cF Y Pl R1 E1 [(a,w),(b,w)]).1.map nD,sM st (cF Y Pl R1 E1 [(a,w),(b,w)]).2.1 Pl (cF Y Pl R1 E1 [(a,w),(b,w)]).2.2 T):=by
  refine @aAx _ _ ([(a,w),(b,w)].map λ q=>nD q.1) _ (.one 5) _ _ (lv (d<$>3) (.it (.sl (.var 1) (.cons (.int 3) .nil) .no))) (ev (d<$>3) (.mth "fetch" 56 (.var 0) (.cons (.var 5) (.cons (.var 2) .nil)))) rfl (yAc rfl) (vR (λ q=>nD q.1) _ (λ q=>rfl) _ R1 E1 (by simp;omega) λ q hq R E T h1=>?_);have hk:eJ Y Pl q.1/\q.2=w:=by
   rcases List.mem_cons.mp hq with rfl|hq
   .exact(ha,rfl,)
   .rw[List.mem_singleton.mp hq];exact(hb,rfl,)
  let(k,u):=q;let(hk,rfl):=hk;exact eG rfl rfl rfl (oJ d u hk h1)
 have ct:bW .Add (.tuple [.str "pick",.int w,.int n]) (.tuple ((cF Y Pl R1 E1 [(a,w),(b,w)]).1.map nD))=qz (Rw.d (.pick,w,n::(cF Y Pl R1 E1 [(a,w),(b,w)]).1,)):=xJ _ _ (by rw[yAd,l.2];exact yAc rfl);exact dN rfl rfl rfl (bP (eG (aD rfl) rfl (aH (bY (aD rfl) bG rfl rfl) (aH bG aQ)) f1) rfl (bP (fH (aH (hV hC) aQ) (eX gT gC) mX) rfl (bH (eG (aD rfl) rfl (aH (gF (eW (aH cU (aH (aD rfl) (aH (aD rfl) aQ))) rfl (yAc rfl)) (aD rfl) ct) aQ) (qB (d+2) false (.pick,w,n::(cF Y Pl R1 E1 [(a,w),(b,w)]).1,) (by have:=l.1;simp at this;omega)))))) jY
end
def aYf(a:List D)(k:Nat):fJ a qx (qz (k:Nat))=a.take k:=by
 unfold fJ;have h0:HT.sIx ↑a 0 qx=0:=rfl;rw[h0];have h1:HT.sIx ↑a ↑a (qz (k:Int))=min k ↑a:=by
  unfold HT.sIx;simp only[];split<;>omega
 rw[h1];simp[List.take_eq_take_iff]
def aRR(d:Nat)(r:Rw)(ns:List Nat)(h:↑ns<=3)(ha:↑r.args<=10)(S:aC):cl fns (d+1) 8 [.d r.d,.d (ns*>nD)] S=qz (.d (Rw.d (r.wd,r.w,ns++r.args.drop ↑ns,)),S):=by
 have lP:mC [(ns*>nD)]=qz (.int ↑ns):=by
  show qz (yAo ((↑(ns.map nD):Nat):Int))=_;rw[yAd]
 have ad:(2:Int)+((↑ns:Nat):Int)=((2+↑ns:Nat):Int):=();have rd:r.d=.tuple (.str r.wd.s::nD r.w::r.args.map nD):=rfl;have h1:fJ (.str r.wd.s::nD r.w::r.args.map nD) qx (qz 2)=[.str r.wd.s,nD r.w]:=(aYf _ 2).trans rfl;have h2:fJ (.str r.wd.s::nD r.w::r.args.map nD) (qz ((2+↑ns:Nat):Int)) qx=(r.args.drop ↑ns).map nD:=by
  rw[aHw,yDr 2,List.map_drop];rfl
 have h3:bW .Add (.tuple [.str r.wd.s,nD r.w]) (ns*>nD)=qz (.tuple ([.str r.wd.s,nD r.w]++ns.map nD)):=xJ _ _ (by simp;omega);have h4:bW .Add (.tuple ([.str r.wd.s,nD r.w]++ns.map nD)) (.tuple ((r.args.drop ↑ns).map nD))=qz (Rw.d (r.wd,r.w,ns++r.args.drop ↑ns,)):=by
  rw[xJ _ _ (by simp;omega)];show _=qz (yAv (.str r.wd.s::nD r.w::(ns++r.args.drop ↑ns).map nD));rw[yAx];rfl
 rw[bO rfl d _ S rfl];rw[rd];erw[11,aFN,pS,lP,eC,ad,h1,h2,h3,h4]
section
variable {st:Option (List D)}{R:List Rw}{Pl:Ps}{E:Es}{T:aC}{Y:Ys}{P YY:D}
def aQ7(d:Nat)(r:Rw)(w:Nat)(hc:↑(bL r)=bF r.wd)(hc3:bF r.wd<=3)(hl:↑r.args<=10)(ho:∀ a∈bL r,eJ Y Pl a)(hz:↑R+↑E<=1800):cl fns (d+4) 61 [cP P (Y*>yD),.d r.d,.d (.int w)] (sM st R Pl E T)=oX st Pl T (uD Y Pl R E r w):=by
 have op:∀ S,cl fns (d+3) 7 [.d r.d] S=qz (.d (.tuple ((bL r).map nD)),S):=λ S=>oE (d+2) r S
 unfold uD mI;have lm:↑((bL r).map λ k=>(k,w))=bF r.wd:=by rw[yAd];exact hc
 have l:=qA Y Pl ((bL r).map λ k=>(k,w)) R E;have h3:bW .Add (.tuple [.str r.wd.s,.int w]) (.tuple (r.args.map nD))=qz (Rw.d (r.wd,w,r.args,)):=xJ _ _ (by rw[yAd];show 2+_<=_;omega);have hC:lv (d<$>3) aFW [qz (cP P (Y*>yD)),qz (.d r.d),(w:),qx,qx] (sM st R Pl E T)=qz ((cF Y Pl R E ((bL r).map λ k=>(k,w))).1.map nD,sM st (cF Y Pl R E ((bL r).map λ k=>(k,w))).2.1 Pl (cF Y Pl R E ((bL r).map λ k=>(k,w))).2.2 T):=by
  refine @aAx _ _ (((bL r).map λ k=>(k,w)).map λ q=>nD q.1) _ (.one 4) _ _ (lv (d<$>3) (.it (.call 7 (.cons (.var 1) .nil)))) (ev (d<$>3) (.mth "fetch" 56 (.var 0) (.cons (.var 4) (.cons (.var 2) .nil)))) ?_ (by rw[yAd];omega) (vR (λ q=>nD q.1) _ (λ q=>rfl) _ R E () λ q hq R E T h1=>?_)
  .rw[yBv];erw[0,op,iE]
  .let(k,hk,rfl):=List.mem_map.mp hq;exact eG rfl rfl rfl (oJ d w (ho k hk) h1)
 generalize cF Y Pl R E ((bL r).map λ k=>(k,w))=q at l hC ⊢;let(ns,R1,E1):=q;dsimp only at l hC ⊢;have wp:=aRR (d+2) (r.wd,w,r.args,) ns () hl (sM st R1 Pl E1 T);rw[show ↑ns=bF r.wd by omega] at wp;exact dN rfl rfl rfl (eE (aAZ hC rfl) (bH (eG (aD rfl) rfl (aH (bM (aH (gF (eW (aH (bY (aD rfl) bG rfl (nB r)) (aH (aD rfl) aQ)) rfl (yAc rfl)) (aE2 (aD rfl) (aD8 bG) aEF rfl (congrArg (qz ∘ yAv) ((aHw _ 2).trans rfl))) h3) (aH (fH (aH (aD rfl) aQ) (eX gT gC) mX) aQ)) wp) aQ) (qB (d+2) false (r.wd,w,ns++r.args.drop (bF r.wd),) ())))) jY
end
def pM(h:aV op a b=qz (.bool x))(e:x=true):aV op a b=qz (.bool true):=by rw[h,e]
def kU(h:aV op a b=qz (.bool x))(e:x=false):aV op a b=qz (.bool false):=by rw[h,e]
def cq1(wd:Wd):aV .Eq (.str wd.s) (.str "in")=qz (.bool (wd==.in)):=by cases wd<;>kernel_rfl
def cq2(wd:Wd):aV .Eq (.str wd.s) (.str "num")=qz (.bool (wd==.num)):=by cases wd<;>kernel_rfl
def cq3(wd:Wd):aV .In (.str wd.s) (.tuple [.str "right",.str "slide"])=qz (.bool ((wd==.right||wd==.slide))):=by cases wd<;>kernel_rfl
def cq4(wd:Wd):aV .Eq (.str wd.s) (.str "cut")=qz (.bool (wd==.cut)):=by cases wd<;>kernel_rfl
def cq5(wd:Wd):aV .In (.str wd.s) (aCi*>Tv.d)=qz (.bool ((wd==.wide||wd==.sign))):=by cases wd<;>kernel_rfl
def cq6(wd:Wd):aV .In (.str wd.s) (oF*>Tv.d)=qz (.bool (eI wd)):=by cases wd<;>kernel_rfl
def cq7(wd:Wd):aV .Eq (.str wd.s) (.str "pick")=qz (.bool (wd==.pick)):=by cases wd<;>kernel_rfl
def a0(r:Rw)(i:Nat):Nat:=r.args.getD i 0
def yo(Y:Ys)(a:Nat):Yw×Nat:=(Y.getD a qx).getD (.cut,0)
def iA(W:List Nat)(Y:Ys)(Pl:Ps)(R:List Rw)(E:Es)(r:Rw)(w:Nat):M3:=
 if (r.wd==.in)=true then (↑R,R++[r],E) else
 if (r.wd==.num)=true then (↑R,R++[(.num,w,[a0 r 0%2^w],)],E) else
 if (r.wd==.right||r.wd==.slide)=true then pB Y Pl R E r (a0 r 0) (a0 r 1) w else
 if (r.wd==.cut)=true then bZ Y Pl R E (a0 r 0) w else
 if (r.wd==.wide||r.wd==.sign)=true then rG Y Pl R E r.wd (a0 r 0) (g0 W (a0 r 0)) w else
 if eI r.wd=true then xO Y Pl R E r.wd (a0 r 0) (a0 r 1) (nY r.wd (yo Y (a0 r 0)) (yo Y (a0 r 1)) (g0 W (a0 r 0))) else
 if (r.wd==.pick)=true then yO Y Pl R E (a0 r 0) (a0 r 1) (a0 r 2) w else uD Y Pl R E r w
def Cok(Y:Ys)(r:Rw):Prop:=eI r.wd=true->∀ a∈bL r,∃ y,Y[a]?=qz (qz y)
section
variable {st:Option (List D)}{R:List Rw}{Pl:Ps}{E:Es}{T:aC}{Y:Ys}
def aTE(d:Nat)(f1:RwOk r ws)(o:D)(w:Nat)(hw:w<=64)(hr:∀ a∈bL r,∃ ra,rs[a]?=qz ra)(ho:∀ a∈bL r,eJ Y Pl a)(hc:Cok Y r)(hz:↑R+↑E<=1800):cl fns (d+5) 63 [cP (rs<*o) (Y*>yD),.d (Rw.d r),.d (.int w)] (sM st R Pl E T)=oX st Pl T (iA (~~~rs) Y Pl R E r w):=by
 have wo:∀ {a:Nat}{ra:Rw},rs[a]?=qz ra->eJ Y Pl a->∀ (wd:Wd) (w0:Nat),cl fns (d+4) 58 [cP (rs<*o) (Y*>yD),.d (Rw.d ⟨wd,w0,[a]⟩),.d (.int w)] (sM st R Pl E T)=oX st Pl T (rG Y Pl R E wd a (g0 (~~~rs) a) w):=λ hra ha wd w0=>by
  rw[nK hra];exact aP7 d o wd w0 w hra ha hz
 have co:∀ {a b:Nat}{ra:Rw}{ya yb:Yw×Nat},rs[a]?=qz ra->eJ Y Pl a->eJ Y Pl b->Y[a]?=qz (qz ya)->Y[b]?=qz (qz yb)->∀ (wd:Wd) (w0:Nat),eI wd=true->bF wd=2->cl fns (d+4) 60 [cP (rs<*o) (Y*>yD),.d (Rw.d ⟨wd,w0,[a,b]⟩)] (sM st R Pl E T)=oX st Pl T (xO Y Pl R E wd a b (nY wd (yo Y a) (yo Y b) (g0 (~~~rs) a))):=λ {a b ra ya yb} hra ha hb hya hyb wd w0 hcw hcn=>by
  rw[nK hra,show yo Y a=ya by unfold yo;rw[xAg,hya];rfl,show yo Y b=yb by unfold yo;rw[xAg,hyb];rfl];exact aOp d o wd hcw hcn w0 hra ha hb hya hyb hz
 generalize (yAv [(rs*>Rw.d),o])=P at wo co ⊢;have go:∀ {r:Rw}{x:M3},xs (d<$>4) (bK oG) [qz (cP P (Y*>yD)),qz (.d r.d),(w:),qz (.d (.str r.wd.s))] (sM st R Pl E T)=qz (.rt (.d (.int (x.1:Nat))),sM st x.2.1 Pl x.2.2 T)->cl fns (d+5) 63 [cP P (Y*>yD),.d r.d,.d (.int w)] (sM st R Pl E T)=oX st Pl T x:=λ {r x} h=>dN rfl rfl rfl (bP (bY (aD rfl) bG rfl (nB r)) rfl h) jY
 have n2:∀ {r:Rw}{z:Option (Fl×aC)},(r.wd==.in)=false->xs (d<$>4) (bK (bK oG)) [qz (cP P (Y*>yD)),qz (.d r.d),(w:),qz (.d (.str r.wd.s))] (sM st R Pl E T)=z->xs (d<$>4) (bK oG) [qz (cP P (Y*>yD)),qz (.d r.d),(w:),qz (.d (.str r.wd.s))] (sM st R Pl E T)=z:=λ h k=>bE (bN (aD rfl) cU (kU (cq1 _) h)) k
 have n4:∀ {r:Rw}{z:Option (Fl×aC)},(r.wd==.in)=false->(r.wd==.num)=false->(r.wd==.right||r.wd==.slide)=false->xs (d<$>4) (bK (bK (bK (bK oG)))) [qz (cP P (Y*>yD)),qz (.d r.d),(w:),qz (.d (.str r.wd.s))] (sM st R Pl E T)=z->xs (d<$>4) (bK oG) [qz (cP P (Y*>yD)),qz (.d r.d),(w:),qz (.d (.str r.wd.s))] (sM st R Pl E T)=z:=λ h h2 h3 k=>n2 h (bE (bN (aD rfl) cU (kU (cq2 _) h2)) (bE (bN (aD rfl) rfl (kU (cq3 _) h3)) k))
 have n6:∀ {r:Rw}{z:Option (Fl×aC)},(r.wd==.in)=false->(r.wd==.num)=false->(r.wd==.right||r.wd==.slide)=false->(r.wd==.cut)=false->(r.wd==.wide||r.wd==.sign)=false->xs (d<$>4) (bK (bK (bK (bK (bK (bK oG)))))) [qz (cP P (Y*>yD)),qz (.d r.d),(w:),qz (.d (.str r.wd.s))] (sM st R Pl E T)=z->xs (d<$>4) (bK oG) [qz (cP P (Y*>yD)),qz (.d r.d),(w:),qz (.d (.str r.wd.s))] (sM st R Pl E T)=z:=λ h h2 h3 h4 h5 k=>n4 h h2 h3 (bE (bN (aD rfl) cU (kU (cq4 _) h4)) (bE (bN (aD rfl) rfl (kU (cq5 _) h5)) k))
 have wk:∀ r:Rw,(r.wd==.in)=false->(r.wd==.num)=false->(r.wd==.right||r.wd==.slide)=false->(r.wd==.cut)=false->(r.wd==.wide||r.wd==.sign)=false->eI r.wd=false->(r.wd==.pick)=false->↑(bL r)=bF r.wd->bF r.wd<=3->↑r.args<=10->(∀ a∈bL r,eJ Y Pl a)->cl fns (d+5) 63 [cP P (Y*>yD),.d r.d,.d (.int w)] (sM st R Pl E T)=oX st Pl T (uD Y Pl R E r w):=λ r h1 h2 h3 h4 h5 h6 h7 i1 i2 i3 ho=>go (n6 h1 h2 h3 h4 h5 (bE (bN (aD rfl) rfl (kU (cq6 _) h6)) (bE (bN (aD rfl) cU (kU (cq7 _) h7)) (bH (bM (aH (aD rfl) (aH (aD rfl) (aH (aD rfl) aQ))) (aQ7 d r w i1 i2 i3 ho hz))))))
 have two:∀ wd w0 a b,(∀ x∈bL ⟨wd,w0,[a,b]⟩,eJ Y Pl x)->bL ⟨wd,w0,[a,b]⟩=[a,b]->eJ Y Pl a/\eJ Y Pl b:=λ wd w0 a b h e=>by
  rw[e] at h;exact(h a xAc,h b (by simp),)
 cases f1 with
 |inp h1 h2=>exact go (cC (bN (aD rfl) cU (pM (cq1 _) rfl)) (bH (eG (aD rfl) rfl (aH (aD rfl) aQ) (qB (d+3) false (.in,_,[],) ()))))
 |num h1 h2 hn=>
   rename_i w0 n;exact go (n2 rfl (cC (bN (aD rfl) cU (pM (cq2 _) rfl)) (bH (eG (aD rfl) rfl (aH (eW (aH cU (aH (aD rfl) (aH (gF (bY (aD rfl) bG rfl rfl) (bM (aH (aD rfl) aQ) (dG (d+3) w () _)) (by rw[nD,dR,yEi];rfl)) aQ))) rfl (yAc rfl)) aQ) (qB (d+3) false (.num,w,[n%2^w],) ())))))
 |nt h1 h2=>exact wk _ rfl rfl rfl rfl rfl rfl rfl rfl (yAc rfl) (yAc rfl) ho
 |sh h1 h2 bC hk=>
   have sh:∀ {wd:Wd}{w0 a s:Nat},(wd==.right||wd==.slide)=true->(wd==.in)=false->(wd==.num)=false->eJ Y Pl a->cl fns (d+5) 63 [cP P (Y*>yD),.d (Rw.d ⟨wd,w0,[a,s]⟩),.d (.int w)] (sM st R Pl E T)=oX st Pl T (pB Y Pl R E ⟨wd,w0,[a,s]⟩ a s w):=λ h h1 h2 ha=>go (n2 h1 (bE (bN (aD rfl) cU (kU (cq2 _) h2)) (cC (bN (aD rfl) rfl (pM (cq3 _) h)) (bH (bM (aH (aD rfl) (aH (aD rfl) (aH (aD rfl) aQ))) (aPu d _ _ _ w ha hz))))))
   erw[50,bC]
   .exact wk _ rfl rfl rfl rfl rfl rfl rfl rfl (yAc rfl) (yAc rfl) ho
   .exact sh rfl rfl rfl (ho _ xAc)
   .exact sh rfl rfl rfl (ho _ xAc)
 |cut h1 hv h2=>exact go (n4 rfl rfl rfl (cC (bN (aD rfl) cU (pM (cq4 _) rfl)) (bH (eG (aD rfl) rfl (aH (bY (aD rfl) bG rfl rfl) (aH (aD rfl) aQ)) (oJ (d+1) w (ho _ xAc) ())))))
 |wide h1 hv h2=>
   let(ra,hra):=hr _ xAc;exact go (n4 rfl rfl rfl (bE (bN (aD rfl) cU (kU (cq4 _) rfl)) (cC (bN (aD rfl) rfl (pM (cq5 _) rfl)) (bH (bM (aH (aD rfl) (aH (aD rfl) (aH (aD rfl) aQ))) (wo hra (ho _ xAc) _ _))))))
 |sign h1 hv h2=>
   let(ra,hra):=hr _ xAc;exact go (n4 rfl rfl rfl (bE (bN (aD rfl) cU (kU (cq4 _) rfl)) (cC (bN (aD rfl) rfl (pM (cq5 _) rfl)) (bH (bM (aH (aD rfl) (aH (aD rfl) (aH (aD rfl) aQ))) (wo hra (ho _ xAc) _ _))))))
 |bw h1 h2 bC=>erw[50,bC]<;>exact wk _ rfl rfl rfl rfl rfl rfl rfl rfl (yAc rfl) (yAc rfl) ho
 |sm h1 h2=>
   rename_i s _ _ _;cases s<;>exact wk _ rfl rfl rfl rfl rfl rfl rfl rfl (yAc rfl) (yAc rfl) ho
 |cmp h1 h2 bC=>
   rename_i wd v a b;have t:∀ wd:Wd,(wd=.same\/wd=.less\/wd=.under)->bF wd=2/\eI wd=true/\(wd==.in)=false/\(wd==.num)=false/\(wd==.right||wd==.slide)=false/\(wd==.cut)=false/\(wd==.wide||wd==.sign)=false:=λ wd=>by rintro (rfl|rfl|rfl)<;>decide
   let(t1,t2,t3,t4,t5,t6,t7):=t wd bC;have e:bL (wd,1,[a,b],)=[a,b]:=by show yEv (bF wd) [a,b]=_;rw[t1];rfl
   have ma:a∈bL (wd,1,[a,b],):=by rw[e];simp
   have mb:b∈bL (wd,1,[a,b],):=by rw[e];simp
   let(ra,hra):=hr a ma;let(ya,hya):=hc t2 a ma;let(yb,hyb):=hc t2 b mb;have k:=go (r:=(wd,1,[a,b],)) (n6 (r:=(wd,1,[a,b],)) t3 t4 t5 t6 t7 (cC (bN (aD rfl) rfl (pM (cq6 _) t2)) (bH (bM (aH (aD rfl) (aH (aD rfl) aQ)) (co hra (ho a ma) (ho b mb) hya hyb wd 1 t2 t1)))));erw[50,bC]<;>exact k
 |pick h1 h2=>
   rename_i w0 c a b;exact go (n6 rfl rfl rfl rfl rfl (bE (bN (aD rfl) rfl (kU (cq6 _) rfl)) (cC (bN (aD rfl) cU (pM (cq7 _) rfl)) (bH (bM (aH (aD rfl) (aH (aD rfl) (aH (aD rfl) aQ))) (aQ0 d w0 w (ho c (by simp[bL,bF])) (ho a (by simp[bL,bF])) (ho b (by simp[bL,bF])) hz))))))
end
structure Yg(rs:List Rw)(Y:Ys):Prop where
 st:Yst rs Y
 inn:∀ (k:Nat) (r:Rw),rs[k]?=qz r->(r.wd==.in)=true->Y[k]?=qz (qz (.cut,r.w))
 cok:∀ (k:Nat) (r:Rw) (q:Yw×Nat),rs[k]?=qz r->Y[k]?=qz (qz q)->Cok Y r
def aY(rs:List Rw)(Y:Ys):Nat->Ps×List Rw×Es
 |0=>([],[],[])
 |j+1=>match rs[j]?,Y[j]? with
   |some r,qz (qz q)=>((aY rs Y j).1++[qz (iA (~~~rs) Y (aY rs Y j).1 (aY rs Y j).2.1 (aY rs Y j).2.2 r q.2).1],(iA (~~~rs) Y (aY rs Y j).1 (aY rs Y j).2.1 (aY rs Y j).2.2 r q.2).2)|_,_=>((aY rs Y j).1++[qx],(aY rs Y j).2)
def aDY{rs:List Rw}{Y:Ys}(g:Yg rs Y){k:Nat}{r:Rw}{q:Yw×Nat}(hr:rs[k]?=qz r)(hq:Y[k]?=qz (qz q)):1<=q.2/\q.2<=r.w/\((r.wd==.in)=true->q.2=r.w):=by let(h1,h2):=g.st.ok k r (qz q) hr hq q.1 q.2 rfl;refine(h1,h2,λ h=>?_,);have:=g.inn k r hr h;rw[hq] at this;cases this;rfl
def aQf(W:List Nat)(Y:Ys)(Pl:Ps)(R:List Rw)(E:Es)(r:Rw)(w:Nat)(h:↑(bL r)<=3):(iA W Y Pl R E r w).2.1.length+(iA W Y Pl R E r w).2.2.length<=↑R+↑E+7:=by
 have one:∀ (R:List Rw) (q:Rw),↑(R++[q])=↑R+1:=λ R q=>by simp
 have rw0:∀ (l:List (Nat×Nat)) (f:List Nat->Rw),↑l<=3->(mI Y Pl R E l f).2.1.length+(mI Y Pl R E l f).2.2.length<=↑R+↑E+7:=λ l f hl=>by
  have:=(qA Y Pl l R E).1;unfold mI;dsimp only;rw[one];omega
 unfold iA;split
 .dsimp only;rw[one];omega
 split
 .dsimp only;rw[one];omega
 split
 .unfold pB;dsimp only;have f:=mR Y Pl R E (a0 r 0) (min r.w (w+a0 r 1));generalize bZ Y Pl R E (a0 r 0) (min r.w (w+a0 r 1))=q at f ⊢;split
  .have:=aAv (q.2.1++[(r.wd,min r.w (w+a0 r 1),[q.1,a0 r 1],)]) q.2.2 (.cut,w,[q.2.1.length],);rw[one] at this;omega
  .dsimp only;rw[one];omega
 split
 .have:=mR Y Pl R E (a0 r 0) w;omega
 split
 .unfold rG;split
  .have:=mR Y Pl R E (a0 r 0) w;omega
  .have h1:=mR Y Pl R E (a0 r 0) (g0 W (a0 r 0));generalize bZ Y Pl R E (a0 r 0) (g0 W (a0 r 0))=q at h1 ⊢;have h2:=aAv q.2.1 q.2.2 (r.wd,w,[q.1],);omega
 split
 .exact rw0 _ _ (by simp)
 split
 .exact rw0 _ _ (by simp)
 .exact rw0 _ _ (by rw[yAd];exact h)
structure Plf(Y:Ys)(Pl:Ps)(k:Nat):Prop where
 f:eJ Y Pl k
def Plf.on(x:Option Nat)(h:Plf Y Pl k):Plf Y (Pl++[x]) k:=by let(y,h1,h2):=h.f;refine(y,h1,λ a b e=>?_,);let(p,hp):=h2 a b e;exact(p,by rw[xAm (gIm hp).1];exact hp,)
structure Mv(rs:List Rw)(Y:Ys)(j:Nat)(z:Ps×List Rw×Es):Prop where
 l:z.1.length=j
 r:z.2.1.length+z.2.2.length<=7*j
 e:z.2.2.length<=7*j
 pl:∀ a,a<j->Plf Y z.1 a
def aUn{rs:List Rw}(p:Prg rs){j:Nat}{r:Rw}(hr:rs[j]?=qz r):↑(bL r)<=3:=by
 have:=List.length_take_le (bF r.wd) r.args;have c:bF r.wd<=3:=by cases r.wd<;>decide
 unfold bL;omega
def aAN(p:Prg rs)(g:Yg rs Y):∀ j,j<=↑rs->Mv rs Y j (aY rs Y j)
 |0,_=>(rfl,yAb _,yAb _,λ a ha=>by omega,)
 |j+1,hj=>by
   have ih:=aAN p g j ();have hjy:j<↑Y:=by rw[g.st.l];exact hj
   have hr:rs[j]?=qz rs[j]:=yAa hj;have hy:Y[j]?=qz Y[j]:=yAa hjy;have l3:=aUn p hr;have i1:=ih.l;have i2:=ih.r;have last:∀ (x:Option Nat),(∀ a b,Y[j]=qz (a,b)->∃ p,x=qz p)->∀ a,a<j+1->Plf Y ((aY rs Y j).1++[x]) a:=λ x hx a ha=>by
    rcases Nat.lt_succ_iff_lt_or_eq.mp ha with h|rfl
    .exact(ih.pl a h).on x
    .refine(_,hy,λ u v e=>?_,);let(p,rfl):=hx u v e;exact(p,by rw[yAi (),i1,yBe];rfl,)
   generalize rs[j]=r at hr l3;generalize Y[j]=y at hy last;unfold aY;rw[hr,hy];cases y with
   |none=>exact⟨by rw[xAn,i1];rfl,by dsimp only;omega,by dsimp only;omega,last qx λ a b e=>nomatch e⟩
   |some q=>
     have n:=aQf (~~~rs) Y (aY rs Y j).1 (aY rs Y j).2.1 (aY rs Y j).2.2 r q.2 l3;exact(by rw[xAn,i1];rfl,by dsimp only;omega,by dsimp only;omega,last _ λ a b e=>(_,rfl,),)
def aJY(x:Option Nat)(st:Option (List D))(R:List Rw)(Pl:Ps)(hP:↑Pl<=1000)(E:Es)(T:aC):eO (sM st R Pl E T) (.loc 2) (.d (rM x))=qz (.d .none,sM st R (Pl++[x]) E T):=by show(if ↑(Pl.map rM)<qk then _ else qx)=_;rw[if_pos (by rw[yAd,zx];omega),show Pl.map rM++[rM x]=(Pl++[x]).map rM by rw[yAx];rfl];rfl
def aLZ:∀ (rs:List Rw) (Y:Ys),fL (rs.map Rw.d) (Y.map yD)=(rs.zip Y).map λ q=>yAv [q.1.d,yD q.2]
 |[],Y=>by cases Y<;>rfl|r::rs,[]=>rfl
 |r::rs,y::Y=>by
   have:=aLZ rs Y;simp only[yAf,yDt,fL,this]
def aVf{rs:List Rw}{Y:Ys}{j:Nat}{dd:D}(h:((rs.zip Y).map λ q=>yAv [q.1.d,yD q.2])[j]?=qz dd):∃ r y,rs[j]?=qz r/\Y[j]?=qz y/\dd=.tuple [r.d,yD y]:=by rw[yAg] at h;let(q,hq,rfl):=Option.map_eq_some_iff.mp h;let(h1,h2):=List.getElem?_zip_eq_some.mp hq;exact(q.1,q.2,h1,h2,rfl,)
def kX(rs:List Rw)(aE:List Nat):List (Nat×Nat):=aE.map λ o=>(o,g0 (~~~rs) o)
def fB(rs:List Rw)(Y:Ys)(aE:List Nat):List Nat×List Rw×Es:=cF Y (aY rs Y ↑rs).1 (aY rs Y ↑rs).2.1 (aY rs Y ↑rs).2.2 (kX rs aE)
def mdN(rs:List Rw)(Y:Ys)(aE:List Nat):D:=.tuple [.tuple ((fB rs Y aE).2.1.map Rw.d),.tuple ((fB rs Y aE).1.map nD)]
noncomputable abbrev eB(P f m YY:D)(c5 c6 c7 c8:Option W):aX:=[qz (.d P),qz (.d f),qz (.d m),qz (.d YY),qz (cP P YY),c5,c6,c7,c8,qx]
def aHz(hr:rs[j]?=qz r)(hy:Y[j]?=qz qx):aY rs Y (j+1)=((aY rs Y j).1++[qx],(aY rs Y j).2):=by rw[aY,hr,hy]
def aIj(hr:rs[j]?=qz r)(hy:Y[j]?=qz (qz q)):aY rs Y (j+1)=((aY rs Y j).1++[qz (iA (~~~rs) Y (aY rs Y j).1 (aY rs Y j).2.1 (aY rs Y j).2.2 r q.2).1],(iA (~~~rs) Y (aY rs Y j).1 (aY rs Y j).2.1 (aY rs Y j).2.2 r q.2).2):=by rw[aY,hr,hy]
def aSY(d:Nat)(p:Prg rs)(hl:↑rs<=60)(g:Yg rs Y)(o f m:D)(st:Option (List D))(hr:rs[j]?=qz r)(hy:Y[j]?=qz y)(c8:Option W):∃ c8':Option W,xs (d<$>5) uI (eB (rs<*o) f m (Y*>yD) qx (qz (.d r.d)) (qz (.d (yD y))) c8) (sM st (aY rs Y j).2.1 (aY rs Y j).1 (aY rs Y j).2.2 [])=qz (.nx (eB (rs<*o) f m (Y*>yD) qx (qz (.d r.d)) (qz (.d (yD y))) c8'),sM st (aY rs Y (j+1)).2.1 (aY rs Y (j+1)).1 (aY rs Y (j+1)).2.2 []):=by
 have hj:j<↑rs:=(gIm hr).1;have mv:=aAN p g j ();have isy:=aE6 y;have m1:=mv.l;have m2:=mv.r;have m3:=mv.e;cases y with
 |none=>
   have isy:aV .Is (yD qx) .none=qz (.bool true):=isy;have ap:eO (sM st (aY rs Y j).2.1 (aY rs Y j).1 (aY rs Y j).2.2 []) (.loc 2) (.d .none)=_:=aJY qx st (aY rs Y j).2.1 (aY rs Y j).1 () (aY rs Y j).2.2 [];refine(qz (.d .none),?_,);rw[aHz hr hy];generalize (yAv [(rs*>Rw.d),o])=P;erw[2,uI,eB,isy,ap]
 |some q=>
   have isy:aV .Is (yD (qz q)) .none=qz (.bool false):=isy;let(f1,f2):=p.fit j r hr;let(k1,k2,k3):=aDY g hr hy;have w64:=(p.ws j r hr).2;have mr:=@aTE st ((aY rs Y j).2.1) ((aY rs Y j).1) ((aY rs Y j).2.2) [] Y _ _ rs d f1 o q.2 () (λ a ha=>(_,yAa (yEh (f2 a ha) hj),)) (λ a ha=>(mv.pl a (f2 a ha)).f) (g.cok j r q hr hy) ();have x1:bD (yD (qz q)) (.int 1)=qz (.int (q.2:Nat)):=rfl;refine((((iA (~~~rs) Y (aY rs Y j).1 (aY rs Y j).2.1 (aY rs Y j).2.2 r q.2).1:Nat):),?_,);rw[aIj hr hy];generalize iA (~~~rs) Y (aY rs Y j).1 (aY rs Y j).2.1 (aY rs Y j).2.2 r q.2=x at mr ⊢;let(x0,R1,E1):=x;dsimp only at mr ⊢;have ap:eO (sM st R1 (aY rs Y j).1 E1 []) (.loc 2) (.d (.int x0))=_:=aJY (qz x0) st R1 (aY rs Y j).1 () E1 [];generalize (yAv [(rs*>Rw.d),o])=P at mr ⊢;erw[2,uI,eB,isy,x1,mr,ap]
def aSs(d:Nat)(p:Prg rs)(hl:↑rs<=60)(g:Yg rs Y)(aE:List Nat)(ho:∀ o∈aE,o<↑rs)(hol:↑aE<=20)(f m:D)(st:Option (List D)) :
 cl fns (d+6) 64 [.d (rs<*(aE*>nD)),.d f,.d m,.d (Y*>yD)] [st]=qz (.d (mdN rs Y aE),[st]):=by
 have trn:=λ(j:Nat) (r:Rw) (y:Option (Yw×Nat)) (hr:rs[j]?=qz r) (hy:Y[j]?=qz y) (c8:Option W)=>aSY d p hl g (aE*>nD) f m st hr hy c8
 have mv:=aAN p g ↑rs (yAb _);have i0:bD (rs<*(aE*>nD)) (.int 0)=qz (rs*>Rw.d):=rfl;have i1:bD (rs<*(aE*>nD)) (.int 1)=qz (aE*>nD):=rfl;have wo:=λ(a:Nat) (ha:a<↑rs) (S:aC)=>wC (d+4) a (yAa ha) (aE*>nD) S
 obtain⟨P,hP⟩:∃ P:D,P=(rs<*(aE*>nD)):=(_,rfl,);simp only[<- hP] at trn i0 i1 wo ⊢;obtain⟨YY,hYY⟩:∃ YY:D,YY=(Y*>yD):=(_,rfl,);have it:lv (d<$>5) aCl (eB P f m YY qx qx qx qx) (sM st [] [] [] [])=qz ((rs.zip Y).map (λ q=>yAv [q.1.d,yD q.2]),sM st [] [] [] []):=by
  rw[<- aLZ,hYY];erw[2,aCl,eB,i0]
 rw[<- hYY] at trn ⊢;let(env1,S1,p1,c6,c7,c8,rfl,rfl):=sP (t:=.many [6,7]) (fb:=xs (d<$>5) uI)
  (λ j env S'=>∃ c6 c7 c8:Option W,env=eB P f m YY qx c6 c7 c8/\S'=sM st (aY rs Y j).2.1 (aY rs Y j).1 (aY rs Y j).2.2 [])
  it (qx,qx,qx,rfl,rfl,) (by
   rintro j dd env S' hd ⟨c6,c7,c8,rfl,rfl⟩;let(r,y,hr,hy,rfl):=aVf hd;let(c8',e):=trn j r y hr hy c8;exact(_,_,_,rfl,e,qz (.d r.d),qz (.d (yD y)),c8',rfl,rfl,))
 rw[yAd,yEx,g.st.l,Nat.min_self] at p1;have m2:=mv.r;have m3:=mv.e;have lo:↑(kX rs aE)<=20:=by unfold kX;rw[yAd];exact hol
 have hh:∀ q∈kX rs aE,eJ Y (aY rs Y ↑rs).1 q.1/\q.1<↑rs/\q.2=g0 (~~~rs) q.1:=λ q hq=>by
  let(k,hk,rfl):=List.mem_map.mp hq;exact((mv.pl k (ho k hk)).f,ho k hk,rfl,)
 have hC:lv (d<$>5) aGj (eB P f m YY qx c6 c7 c8) (sM st (aY rs Y ↑rs).2.1 (aY rs Y ↑rs).1 (aY rs Y ↑rs).2.2 [])=qz ((fB rs Y aE).1.map nD,sM st (fB rs Y aE).2.1 (aY rs Y ↑rs).1 (fB rs Y aE).2.2 []):=by
  refine @aAx _ _ ((kX rs aE).map λ q=>nD q.1) _ (.one 9) _ _ (lv (d<$>5) (.it (.ix (.var 0) (.int 1)))) (ev (d<$>5) (.mth "fetch" 56 (.var 4) (.cons (.var 9) (.cons (.call 10 (.cons (.var 0) (.cons (.var 9) .nil))) .nil)))) ?_ (by rw[yAd];omega) (vR (λ q=>nD q.1) (λ q=>_) (λ q=>rfl) _ _ _ () λ q hq R E T h1=>?_)
  .have:(kX rs aE).map (λ q=>nD q.1)=aE.map nD:=by unfold kX;rw[yBv];rfl
   rw[this];erw[1,eB,i1,iE]
  .let(h3,h4,h5):=hh q hq;have w1:=λ S=>wo q.1 h4 S
   have ew:rs[q.1].w=q.2:=by rw[h5,nK (yAa h4)]
   rw[ew] at w1;have ft:=@oJ st _ _ _ T _ P _ (d+2) q.2 h3 h1;rw[<- hYY] at ft;exact eG rfl rfl (aH rfl (aH (bM rfl (w1 _)) rfl)) ft
 have tp1:qN [.list ((fB rs Y aE).1.map nD)]=qz (.tuple ((fB rs Y aE).1.map nD)):=rfl;have tp2:qN [.list ((fB rs Y aE).2.1.map Rw.d)]=qz (.tuple ((fB rs Y aE).2.1.map Rw.d)):=rfl;have mk1:ev (d<$>5) (.mk cl_ini 3 (.cons (.var 0) (.cons (.var 3) .nil))) [qz (.d P),qz (.d f),qz (.d m),qz (.d YY),qx,qx,qx,qx,qx,qx] [st]=qz (cP P YY,sM st [] [] [] []):=aMG rfl rfl rfl rfl;have body:xs (d<$>5) aHR [qz (.d P),qz (.d f),qz (.d m),qz (.d YY),qx,qx,qx,qx,qx,qx] [st]=qz (.rt (.d (mdN rs Y aE)),sM st (fB rs Y aE).2.1 (aY rs Y ↑rs).1 (fB rs Y aE).2.2 []):=by
  refine bP mk1 rfl (eE p1 (bP (fH (aH (hV hC) rfl) rfl tp1) rfl (bH ?_)));exact eW (aH (fH (aH (vP rfl rfl) rfl) rfl tp2) rfl) rfl (by simp)
 exact dN rfl rfl rfl body rfl
def aOe{F:List Ft}(d:Nat)(p:Prg rs)(hl:↑rs<=60)(hF:↑F=↑rs)(aE:List Nat)(ho:∀ o∈aE,o<↑rs)(hol:↑aE<=20)(g:Yg rs (eQ rs F (cZ rs F aE)))(st:Option (List D))(eF:cl fns (d+9) 48 [.d (rs<*(aE*>nD))] [st]=qz (.d (F*>Ft.d),[st])) :
 cl fns (d+10) 65 [.d (rs<*(aE*>nD))] [st]=qz (.d (.tuple [mdN rs (eQ rs F (cZ rs F aE)) aE,.tuple ((eQ rs F (cZ rs F aE)).map yD)]),[st]):=by
 let(hb,eA):=aHu (d+2) p hF aE ho [st];have eS:=aPK (d+4) p hF hb (aE*>nD) [st];have eM:=aSs (d+3) p hl g aE ho hol (F*>Ft.d) (.tuple ((cZ rs F aE).map nD)) st;generalize mdN rs (eQ rs F (cZ rs F aE)) aE=Z at eM ⊢;generalize yAv ((eQ rs F (cZ rs F aE)).map yD)=YY at eM eS ⊢;generalize yAv ((cZ rs F aE).map nD)=MM at eM eS eA;generalize yAv [(rs*>Rw.d),(aE*>nD)]=P at eF eA eM eS ⊢;generalize yAv (F.map Ft.d)=FF at eF eA eM eS;have body:xs (d<$>9) aGQ [qz (.d P),qx,qx,qx] [st]=qz (.rt (.d (.tuple [Z,YY])),[st]):=
  bP (bM (aH (aD rfl) rfl) eF) rfl (bP (bM (aH (aD rfl) (aH (aD rfl) rfl)) eA) rfl (bP (bM (aH (aD rfl) (aH (aD rfl) (aH (aD rfl) rfl))) eS) rfl (bH (eW (aH (bM (aH (aD rfl) (aH (aD rfl) (aH (aD rfl) (aH (aD rfl) rfl)))) eM) (aH (aD rfl) rfl)) rfl (yAc rfl)))))
 exact dN rfl rfl rfl body rfl
def Sb.trans(h:Sb a b)(k:Sb b c):Sb a c:=λ i x=>k i (h i x)
def aWC(a b:Nat):Sb a (a|||b):=λ i h=>by rw[xAp,h,Bool.true_or]
def aV2(a b:Nat):Sb b (a|||b):=λ i h=>by rw[xAp,h,yGp]
def aRN(M:List Nat)(q:Nat×Nat)(i:Nat):Sb (M.getD i 0) ((cM M q).getD i 0):=by
 unfold cM;by_cases c:q.1=i
 .subst c;by_cases l:q.1<↑M
  .rw[uJ l];exact aWC _ _
  .rw[yEb ()];exact Sb.refl _
 .rw[rV c];exact Sb.refl _
def aDn:∀ (l:List (Nat×Nat)) (M:List Nat) (i:Nat),Sb (M.getD i 0) ((l.foldl cM M).getD i 0)
 |[],_,_=>Sb.refl _|q::l,M,i=>(aRN M q i).trans (aDn l (cM M q) i)
def aQ6(M:List Nat)(q:Nat×Nat):↑(cM M q)=↑M:=by unfold cM;rw[yBf]
def aJo:∀ (l:List (Nat×Nat)) (M:List Nat) (q:Nat×Nat),q∈l->q.1<↑M->Sb q.2 ((l.foldl cM M).getD q.1 0)
 |[],_,_,h,_=>by cases h
 |x::l,M,q,h,hl=>by
   rcases List.mem_cons.mp h with rfl|h
   .refine Sb.trans ?_ (aDn l (cM M q) q.1);unfold cM;rw[uJ hl];exact aV2 _ _
   .exact aJo l (cM M x) q h (by rw[aQ6];exact hl)
section
variable {rs:List Rw}{F:List Ft}
def aIw:∀ (k:Nat) (M:List Nat) (i:Nat),Sb (M.getD i 0) ((gI rs F k M).getD i 0)
 |0,_,_=>Sb.refl _
 |k+1,M,i=>by
   refine Sb.trans ?_ (aIw k (fK rs F M k) i);unfold fK;cases rs[k]? with
   |none=>exact Sb.refl _|some r=>exact aDn _ M i
def aH5(p:Prg rs):∀ (k:Nat) (M:List Nat),Bd rs M->k<=↑rs->∀ (j:Nat) (r:Rw),j<k->rs[j]?=qz r->∀ q∈dU rs F r ((gI rs F k M).getD j 0),Sb q.2 ((gI rs F k M).getD q.1 0)
 |0,_,_,_,j,_,hj,_,_,_=>absurd hj (yBq j)
 |k+1,M,h,hk,j,r,hj,hr,q,hq=>by
   have hb:=aAD (F:=F) p (show k<↑rs by omega) h;by_cases c:j=k
   .subst c;have e:(gI rs F (j+1) M).getD j 0=M.getD j 0:=aC8 p (j+1) M j h hk (yAb _);rw[e] at hq;have a:=(vY p hr (h.lt j r hr) q hq).1;show Sb q.2 ((gI rs F j (fK rs F M j)).getD q.1 0);refine Sb.trans ?_ (aIw j (fK rs F M j) q.1);rw[aAC hr];exact aJo _ M q hq (by rw[h.l];omega)
   .exact aH5 p k (fK rs F M k) hb () j r () hr q hq
end
def aKs{n:Nat}(h:n[t]! =true):n≠0:=λ z=>by rw[z,yCa] at h;cases h
abbrev Met(rs:List Rw)(F:List Ft)(M:List Nat):Prop:=∀ (j:Nat) (r:Rw),rs[j]?=qz r->∀ q∈dU rs F r (M.getD j 0),Sb q.2 (M.getD q.1 0)
def aWv(p:Prg rs)(met:Met rs F M):Aq rs M 0:=λ i r _ hr hc hz a ha=>by
 let(v,hv,hq):=aWO (F:=F) p hr hc hz a ha;exact aKs (met i r hr _ hq _ (sQ hv))
def aHO(r:Rw)(f:Ft)(h:m≠0):∃ q,iD r f m=qz q:=by
 unfold iD;by_cases c:r.wd=.in
 .rw[if_pos c];exact(_,rfl,)
 .rw[if_neg c,if_neg h];exact(_,rfl,)
def aVA{r:Rw}(hc:eI r.wd=true)(h:iD r f m=qz q):m≠0:=by
 intro z;have c:r.wd≠.in:=λ e=>by rw[e] at hc;cases hc
 unfold iD at h;rw[if_neg c,if_pos z] at h;cases h
def aTn{F:List Ft}(p:Prg rs)(hF:↑F=↑rs)(h:Bd rs M)(ha:Aq rs M 0):Yg rs (eQ rs F M):=by
 refine(aSD p hF h,λ k r hr hi=>?_,λ k r q hr hq hc a hA=>?_,)
 .rw[qD hr hF h.l];unfold iD;rw[if_pos (eq_of_beq hi)]
 .rw[qD hr hF h.l] at hq;have m0:=aVA hc (Option.some.inj hq);have ma:=ha k r (yDa _) hr hc m0 a hA;have hk:k<↑rs:=(gIm hr).1;have hka:a<↑rs:=yEh ((p.fit k r hr).2 a hA) hk;let(y,hy):=aHO rs[a] (f0 F a) ma;exact(y,by rw[qD (yAa hka) hF h.l,hy],)
def aG7:∀ (l:List (Nat×Nat)) (M:List Nat) (a b:Nat),((l.foldl cM M).getD a 0)[b]! =true->(M.getD a 0)[b]! =true\/∃ q∈l,q.1=a/\q.2[b]! =true
 |[],M,a,b,h=>.inl h
 |q::l,M,a,b,h=>by
   rcases aG7 l (cM M q) a b h with h|⟨q',h1,h2⟩
   .unfold cM at h;by_cases c:q.1=a
    .subst c;by_cases c2:q.1<↑M
     .rw[uJ c2,xAp,yEf] at h;rcases h with h|h
      .exact .inl h
      .exact .inr (q,xAc,rfl,h,)
     .rw[yEb ()] at h;exact .inl h
    .rw[rV c] at h;exact .inl h
   .exact .inr (q',xAf _ h1,h2,)
def aHe:∀ (l:List Nat) (M:List Nat) (a b:Nat),((l.foldl (eD rs) M).getD a 0)[b]! =true->a∈l\/(M.getD a 0)[b]! =true
 |[],M,a,b,h=>.inr h
 |o::l,M,a,b,h=>by
   rcases aHe l (eD rs M o) a b h with h|h
   .exact .inl (xAf _ h)
   .by_cases c:o=a
    .subst c;exact .inl xAc
    .unfold eD at h;rw[rV c] at h;exact .inr h
def nb(rs:List Rw)(F:List Ft)(k i a b:Nat):Bool:=match rs[k]? with|some r=>(dU rs F r (2^i)).any λ q=>(q.1==a)&&q.2[b]!|none=>false
def aSu(p:Prg rs)(hr:rs[k]?=qz r)(q:Nat×Nat)(hq:q∈dU rs F r m)(hb:q.2[b]! =true):∃ i,m[i]! =true/\nb rs F k i q.1 b=true:=by
 let(f1,f2):=p.fit k r hr;let(w1,w2):=wQ f1;let(c,hc):=yDy hq;let(a,v):=q;unfold dU at hc;rw[List.getElem?_zip_eq_some] at hc;let(h1,h2):=hc;have e:(iP rs F r m).getD c 0=v:=by
  rw[xAg,h2];rfl
 have ht:((dD r.wd r.w (tX r) (cW r (~~~rs)) (lA r F) m).getD c 0)[b]! =true:=by
  unfold iP at e;rw[e];exact hb
 rw[aST r.wd r.w (tX r) (cW r (~~~rs)) (lA r F) m c b w1] at ht;let(i,hi,hn):=ht;have hl:c<↑(iP rs F r (2^i)):=by
  have:=(gIm h2).1;unfold iP at this ⊢;rw[aQp] at this ⊢;exact this
 have h3:(iP rs F r (2^i))[c]?=qz ((iP rs F r (2^i)).getD c 0):=aDj hl;refine(i,hi,?_,);unfold nb;rw[hr];refine List.any_eq_true.mpr ((a,(iP rs F r (2^i)).getD c 0),?_,?_,)
 .unfold dU;exact xAk (i:=c) (List.getElem?_zip_eq_some.mpr (h1,h3,))
 .show((a==a)&&((iP rs F r (2^i)).getD c 0)[b]!)=true;rw[beq_self_eq_true,yBd];exact hn
section
variable {rs:List Rw}{F:List Ft}
def aG1(p:Prg rs):∀ (n:Nat) (M:List Nat) (a b:Nat),Bd rs M->n<=↑rs->((gI rs F n M).getD a 0)[b]! =true->(M.getD a 0)[b]! =true\/∃ k i,k<n/\((gI rs F n M).getD k 0)[i]! =true/\nb rs F k i a b=true
 |0,M,a,b,_,_,h=>.inl h
 |n+1,M,a,b,hM,hn,h=>by
   have hr:rs[n]?=qz rs[n]:=yAa ();have bd:=aAD (F:=F) p (show n<↑rs by omega) hM;have fr:(gI rs F (n+1) M).getD n 0=M.getD n 0:=by
    show(gI rs F n (fK rs F M n)).getD n 0=_;rw[aC8 p n _ n bd () (),aHM p hM (yAb _) ()]
   rcases aG1 p n (fK rs F M n) a b bd () h with h|⟨k,i,h1,h2,h3⟩
   .rw[aAC hr] at h;rcases aG7 _ _ _ _ h with h|⟨q,h1,h2,h3⟩
    .exact .inl h
    .let(i,h4,h5):=aSu p hr q h1 h3;subst h2;exact .inr (n,i,by omega,by rw[fr];exact h4,h5,)
   .exact .inr (k,i,by omega,h2,h3,)
end
def aLF(p:Prg rs)(hr:rs[k]?=qz r)(hi:i<r.w)(h:nb rs F k i a b=true):a<k/\a∈bL r:=by unfold nb at h;rw[hr] at h;let(q,h1,h2):=List.any_eq_true.mp h;rw[yAs,beq_iff_eq] at h2;have h3:=(vY p hr (yDz (·) hi) q h1).1;rw[h2.1] at h3;refine(h3,?_,);let(x,y):=q;have:=(yGz h1).1;rw[<- h2.1];exact this
def aQs(p:Prg rs)(ho:∀ o∈aE,o<↑rs)(h:((cZ rs F aE).getD a 0)[b]! =true):a∈aE\/∃ k i,a<k/\k<↑rs/\((cZ rs F aE).getD k 0)[i]! =true/\nb rs F k i a b=true:=by
 have bd:=aAJ aE _ ho (aAq (rs:=rs));rcases aG1 p ↑rs _ a b bd (yAb _) h with h|⟨k,i,h1,h2,h3⟩
 .rcases aHe _ _ _ _ h with h|h
  .exact .inl h
  .have z:(yAe ↑rs 0).getD a 0=0:=by
    rw[xAg,yDc];split<;>rfl
   rw[z,yCa] at h;cases h
 .have hr:rs[k]?=qz rs[k]:=yAa h1;have hi:i<rs[k].w:=by
   have hb:=(aDy (F:=F) p ho).lt k _ hr;refine Nat.lt_of_not_le λ c=>?_
   have:=yGi (xAb hb (yAw (·) c));exact absurd h2 (by rw[show(cZ rs F aE).getD k 0=_ from rfl] at this;rw[show(gI rs F ↑rs (List.foldl (eD rs) (yAe ↑rs 0) aE))=cZ rs F aE from rfl,this];decide)
  exact .inr (k,i,(aLF p hr hi h3).1,h1,h2,h3,)
def fW(ws:List Nat)(r:Rw):Nat:=if r.wd=.not\/r.wd=.and\/r.wd=.or\/r.wd=.xor\/r.wd=.pick then r.w else if r.wd=.same\/r.wd=.less\/r.wd=.under then ws.getD (r.args.getD 0 0) 0 else if r.wd=.add\/r.wd=.sub then 2*r.w else if r.wd=.mul then r.w*r.w else 0
def wT(ws:List Nat)(r:Rw):Prop:=(r.wd=.same\/r.wd=.less\/r.wd=.under)->∃ a l v,r.args=a::l/\ws[a]?=qz v
def aPw(h:iJ ws r):wT ws r:=by
 let(wd,w,args):=r;let(_,_,h):=h;intro hc;dsimp only at hc h ⊢;erw[50,hc]
 all_goals
  rcases args with _|⟨a,_|⟨b,_|⟨c,l⟩⟩⟩
  .exact h.elim
  .exact h.elim
  .let(_,v,h1,h2):=h;exact(a,[b],v,rfl,h1,)
  .exact h.elim
def aGH:∀ {rs:List Rw}{ws:List Nat},eV ws rs->∀ r∈rs,wT (ws++rs.map (·.w)) r
 |[],_,_,r,hr=>by cases hr
 |q::rs,ws,⟨h1,h2⟩,r,hr=>by
   rcases List.mem_cons.mp hr with rfl|hr
   .intro hc;let(a,l,v,e1,e2):=aPw h1 hc;exact(a,l,v,e1,by rw[xAm (gIm e2).1];exact e2,)
   .have:=aGH h2 r hr;rw[yAz] at this;exact this
def aCY:∀ {rs:List Rw}{ws:List Nat},eV ws rs->∀ r∈rs,r.w<=64
 |[],_,_,r,hr=>by cases hr
 |q::rs,ws,⟨h1,h2⟩,r,hr=>by
   rcases List.mem_cons.mp hr with rfl|hr
   .exact h1.2.1
   .exact aCY h2 r hr
def aRT(a:Wd):aV .In (.str a.s) (.tuple [.str "not",.str "and",.str "or",.str "xor",.str "pick"])=qz (.bool (decide (a=.not\/a=.and\/a=.or\/a=.xor\/a=.pick))):=by cases a<;>rfl
def aXq{r:Rw}(h:r.args=a::l):bD r.d (.int 2)=qz (.int a):=@iW (.str r.wd.s::nD r.w::r.args.map nD) 2 _ (by rw[h];rfl)
def aWH{ws:List Nat}{a v:Nat}(h:ws[a]?=qz v):bD (ws*>nD) (.int a)=qz (.int v):=iW (by rw[yAg,h];rfl)
def aEw{i:Nat}{e:E}{env:aX}{S:aC}{a t:D}{p:Prop} [Decidable p]{x y:Sx}{n m:Nat}(h:env[i]?=qz (qz (.d a)))(he:ev C e env S=qz (.d t,S))(hc:aV .In a t=qz (.bool (decide p)))(k1:p->xs C x env S=qz (.rt (.d (.int n)),S))(k2:¬ p->xs C y env S=qz (.rt (.d (.int m)),S)):xs C (.seq (.ifs (.cmp .In (.var i) e) x .skip) y) env S=qz (.rt (.d (.int ((if p then n else m:Nat):Nat))),S):=by
 by_cases c:p
 .rw[dqT c] at hc;rw[if_pos c];exact cC (jB h he hc) (k1 c)
 .rw[dqF c] at hc;rw[if_neg c];exact bE (jB h he hc) (k2 c)
def aOa(d:Nat)(r:Rw)(ws:List Nat)(hc:wT ws r)(hw:r.wd=.mul->r.w<=64)(S:aC):cl fns (d+1) 66 [.d r.d,.d (ws*>nD)] S=qz (.d (.int (fW ws r:Nat)),S):=by
 have e2:(2:Int)*(r.w:Int)=((2*r.w:Nat):Int):=by push_cast;rfl
 have e3:(r.w:Int)*(r.w:Int)=((r.w*r.w:Nat):Int):=by push_cast;rfl
 have m4:aV .Eq (.str r.wd.s) (.str "mul")=qz (.bool (decide (r.wd=.mul))):=cD r.wd .mul;refine eK rfl d rfl rfl yAj (bP (w:=.d (.str r.wd.s)) (S1:=S) ?_ rfl (bP (w:=.d (.int r.w)) (S1:=S) ?_ rfl (aEw rfl rfl (aRT r.wd) (λ _=>bH rfl) λ _=>aEw rfl rfl (aAF r.wd) (λ c=>bH ?_) λ _=>aEw rfl rfl (aLn r.wd) (λ _=>bH ?_) λ _=>?_)))
 .erw[20,nB]
 .erw[20,nI]
 .let(a,l,v,e4,e5):=hc c;rw[e4,show ws.getD ((a::l).getD 0 0) 0=v by show ws.getD a 0=v;rw[xAg,e5];rfl];erw[20,aXq e4,aWH e5]
 .erw[20,@mN 2 _ (·) (·),e2]
 .by_cases c:r.wd=.mul
  .have hw:=hw c;rw[dqT c] at m4;rw[if_pos c];refine cC (dS rfl m4) (bH ?_);erw[20,@mN (r.w:Int) (r.w:Int) () (),e3]
  .rw[dqF c] at m4;rw[if_neg c];exact bE (dS rfl m4) (bH rfl)
def aGT(d:Nat)(rs:List Rw)(o:D)(hr:∀ r∈rs,wT (~~~rs) r/\(r.wd=.mul->r.w<=64))(hl:↑rs<=1000)(S:aC):cl fns (d+2) 67 [.d (rs<*o)] S=qz (.d (.int (((rs.map (fW (~~~rs))).sum:Nat):Int)),S):=by
 have hc:lv (d<$>1) aGY [qz (.d (rs<*o)),qz (.d (.tuple ((~~~rs).map nD))),qx] S=qz (rs.map (λ r=>yAo ((fW (~~~rs) r:Nat):Int)),S):=by
  refine sF (fi:=lv (d<$>1) (.it (.ix (.var 0) (.int 0)))) (fe:=ev (d<$>1) (.call 66 (.cons (.var 2) (.cons (.var 1) .nil)))) Rw.d (λ r=>yAo ((fW (~~~rs) r:Nat):Int)) rs ?_ (by rw[zx];omega) λ r hr'=>?_
  .erw[0,iE,aL4]
  .refine(_,rfl,λ S'=>?_,);erw[0,clr,yCl,yHy,aOa d r (~~~rs) (hr r hr').1 (hr r hr').2]
 rw[bO rfl (d+1) _ S rfl];erw[11,aKv,aF6 d rs o hl,hc,aBK,aOX (λ r=>((fW (~~~rs) r:Nat):Int)),aIn]
def aQg(d:Nat)(rs:List Rw)(o:D)(hr:eV [] rs)(hl:↑rs<=1000)(S:aC):cl fns (d+2) 67 [.d (rs<*o)] S=qz (.d (.int (((rs.map (fW (~~~rs))).sum:Nat):Int)),S):=
 aGT d rs o (λ r h=>(by have:=aGH hr r h;rw[yGa] at this;exact this,λ _=>aCY hr r h,)) hl S
def aSU(a b:Wd)(h:a.s=b.s):a=b:=by have e:=cD a b;rw[<- h,cD a a,dqT rfl] at e;exact oqT (PyData.bool.inj (Option.some.inj e)).symm
def aJA(h:gN q=gN r):q=r:=by
 let(a,b,c):=q;let(a',b',c'):=r;unfold gN at h;let(h1,h):=List.cons.inj h;let(h2,h3):=List.cons.inj h;have e1:a=a':=aSU _ _ (Sum.inr.inj h1);have e2:b=b':=by have:=Sum.inl.inj h2;omega
 have e3:c=c':=(List.map_inj_right (λ x y hxy=>by have:=Sum.inl.inj hxy;omega)).mp h3;rw[e1,e2,e3]
def bQ(r:Rw):Bool:=!(r.wd==.in||r.wd==.num||r.wd==.cut||r.wd==.wide||r.wd==.sign)
def fU(r:Rw):Bool:=r.wd==.cut||r.wd==.wide||r.wd==.sign
structure Es0(R:List Rw)(E:Es):Prop where
 s:∀ r i,cY (gK E) (gN r)=qz i->∃ m:Nat,i=m/\R[m]?=qz r
 t:∀ (n:Nat) r,R[n]?=qz r->fU r=true->cY (gK E) (gN r)=qz ((n:Nat):Int)
def Us(R:List Rw)(B:Nat->Prop):Prop:=∀ (n:Nat) r,R[n]?=qz r->r.wd≠.in->B n\/∃ (m:Nat) (q:Rw),R[m]?=qz q/\n∈bL q
structure Fw(R:List Rw)(E:Es)(w:Nat)(x:M3):Prop where
 pre:∃ X,x.2.1=R++X/\∀ r∈X,bQ r=false
 e:Es0 x.2.1 x.2.2
 w:∃ r,x.2.1[x.1]?=qz r/\r.w=w
def aQF{i:Int}(h:cY es k=qz i):cY (es++fs) k=qz i:=by
 unfold cY at h ⊢;rw[yIe];cases q:es.find? λ p=>decide (p.1=k) with
 |none=>rw[q] at h;cases h|some p=>rw[q] at h;exact h
def aPO{i j:Int}(h:cY (es++[(k',j)]) k=qz i):cY es k=qz i\/(k'=k/\i=j):=by
 unfold cY at h ⊢;rw[yIe] at h;cases q:es.find? λ p=>decide (p.1=k) with
 |none=>
   rw[q] at h;by_cases c:k'=k
   .right;simp[c] at h;exact(c,h.symm,)
   .simp[c] at h
 |some p=>rw[q] at h;exact .inl h
def aCS{R:List Rw}{r q:Rw}{n:Nat}(h:(R++[r])[n]?=qz q):R[n]?=qz q\/(n=↑R/\q=r):=by
 by_cases c:n<↑R
 .rw[xAm c] at h;exact .inl h
 .rw[yAi (yEp c)] at h;have hn:=(gIm h).1;rw[yDq] at hn;have e:n=↑R:=();subst e;rw[yBe] at h;exact .inr (rfl,(Option.some.inj h).symm,)
variable {X:List Rw}
def qE{R:List Rw}{n:Nat}{r:Rw}(h:R[n]?=qz r):(R++X)[n]?=qz r:=by rw[xAm (gIm h).1];exact h
def qJ(R:List Rw)(r:Rw):(R++[r])[↑R]?=qz r:=by rw[yAi (yAb _),yBe];rfl
def aAS{B C:Nat->Prop}(u:Us R B)(h:∀ n,B n->n∈bL r\/C n):Us (R++[r]) (λ n=>C n\/n=↑R):=λ n q hq ni=>by
 rcases aCS hq with hq|⟨rfl,rfl⟩
 .rcases u n q hq ni with b|⟨m,z,h1,h2⟩
  .rcases h n b with h|h
   .exact .inr (_,_,qJ R r,h,)
   .exact .inl (.inl h)
  .exact .inr (m,z,qE h1,h2,)
 .exact .inl (.inr rfl)
def aEu{E:Es}(h:Es0 R E)(r:Rw)(hw:bQ r=false):Fw R E r.w (fO R E r)/\∀ B C:Nat->Prop,Us R B->(∀ n,B n->n∈bL r\/C n)->Us (fO R E r).2.1 (λ n=>C n\/n=(fO R E r).1):=by
 unfold fO;cases hv:cY (gK E) (gN r) with
 |some i=>
   let(m,rfl,hm):=h.s r i hv;refine((⟨[],by simp,λ _ z=>by cases z⟩,h,r,hm,rfl,),λ B C u hb n q hq ni=>?_,);rcases u n q hq ni with b|z
   .rcases hb n b with z|z
    .exact .inr (m,r,hm,z,)
    .exact .inl (.inl z)
   .exact .inr z
 |none=>
   refine((([r],rfl,λ q z=>by rw[List.mem_singleton.mp z];exact hw,),(λ q i hi=>?_,λ n q hq ht=>?_,),r,qJ R r,rfl,),λ B C u hb=>aAS u hb,)
   .dsimp only at hi;rw[aAo] at hi;rcases aPO hi with hi|⟨e,rfl⟩
    .let(m,e,hm):=h.s q i hi;exact(m,e,qE hm,)
    .obtain rfl:=aJA e;exact(_,rfl,qJ R r,)
   .dsimp only at hq ⊢;rw[aAo];rcases aCS hq with hq|⟨rfl,rfl⟩
    .exact aQF (h.t n q hq ht)
    .exact aGO hv
def Us.mono{B C:Nat->Prop}(u:Us R B)(h:∀ n,B n->C n):Us R C:=λ n r hr ni=>(u n r hr ni).imp (h n) id
def Hk(Y:Ys)(Pl:Ps)(R:List Rw)(k:Nat):Prop:=(Y[k]?=qz qx/\Pl[k]?=qz qx)\/∃ (q:Yw×Nat) (p:Nat) (r:Rw),Y[k]?=qz (qz q)/\Pl[k]?=qz (qz p)/\R[p]?=qz r/\r.w=q.2
def Hk.on(h:Hk Y Pl R k):Hk Y Pl (R++X) k:=by
 rcases h with h|⟨q,p,r,h1,h2,h3,h4⟩
 .exact .inl h
 .exact .inr (q,p,r,h1,h2,qE h3,h4,)
def Hk.pl(x:Option Nat)(h:Hk Y Pl R k):Hk Y (Pl++[x]) R k:=by
 rcases h with ⟨h1,h2⟩|⟨q,p,r,h1,h2,h3,h4⟩
 .exact .inl (h1,by rw[xAm (gIm h2).1];exact h2,)
 .exact .inr (q,p,r,h1,by rw[xAm (gIm h2).1];exact h2,h3,h4,)
def wG{E:Es}(h:Es0 R E)(hk:Hk Y Pl R k)(w:Nat):Fw R E w (bZ Y Pl R E k w)/\∀ B C:Nat->Prop,Us R B->(∀ n,B n->Pl[k]?=qz (qz n)\/C n)->Us (bZ Y Pl R E k w).2.1 (λ n=>C n\/n=(bZ Y Pl R E k w).1):=by
 unfold bZ;rcases hk with ⟨h1,h2⟩|⟨q,p,r,h1,h2,h3,h4⟩
 .rw[show Y.getD k qx=qx by rw[xAg,h1];rfl];dsimp only;let(a,b):=aEu h (.num,w,[0],) rfl;refine(a,λ B C u hb=>b B C u λ n z=>?_,);rcases hb n z with z|z
  .rw[h2] at z;cases z
  .exact .inr z
 .rw[show Y.getD k qx=qz q by rw[xAg,h1];rfl,show(Pl.getD k qx).getD 0=p by rw[xAg,h2];rfl];dsimp only;have on:∀ wd:Wd,bQ ⟨wd,w,[p]⟩=false->bL ⟨wd,w,[p]⟩=[p]->Fw R E w (fO R E ⟨wd,w,[p]⟩)/\∀ B C:Nat->Prop,Us R B->(∀ n,B n->Pl[k]?=qz (qz n)\/C n)->Us (fO R E ⟨wd,w,[p]⟩).2.1 (λ n=>C n\/n=(fO R E (wd,w,[p],)).1):=λ wd g1 g2=>by
   let(a,b):=aEu h (wd,w,[p],) g1;refine(a,λ B C u hb=>b B C u λ n z=>?_,);rcases hb n z with z|z
   .rw[h2] at z;cases z;rw[g2];exact .inl xAc
   .exact .inr z
  split
  .rename_i e;refine((⟨[],by simp,λ _ z=>by cases z⟩,h,r,h3,h4.trans e,),λ B C u hb=>u.mono λ n z=>?_,);rcases hb n z with z|z
   .rw[h2] at z;cases z;exact .inr rfl
   .exact .inl z
  .split
   .exact on .cut rfl rfl
   .split
    .exact on .sign rfl rfl
    .exact on .wide rfl rfl
def aTp{Z:List Rw}(h1:∀ r∈X,bQ r=false)(h2:∀ r∈Z,bQ r=false):∀ r∈X++Z,bQ r=false:=λ r h=>(List.mem_append.mp h).elim (h1 r) (h2 r)
structure Fp(Y:Ys)(Pl:Ps)(R:List Rw)(E:Es)(l:List (Nat×Nat))(y:List Nat×List Rw×Es):Prop where
 pre:∃ X,y.2.1=R++X/\∀ r∈X,bQ r=false
 e:Es0 y.2.1 y.2.2
 w:∀ (i:Nat) q,l[i]?=qz q->∃ a r,y.1[i]?=qz a/\y.2.1[a]?=qz r/\r.w=q.2
 u:∀ B C:Nat->Prop,Us R B->(∀ n,B n->(∃ q∈l,Pl[q.1]?=qz (qz n))\/C n)->Us y.2.1 (λ n=>C n\/n∈y.1)
section
variable {Y:Ys}{Pl:Ps}
def aEt:∀ (l:List (Nat×Nat)) {R:List Rw}{E:Es},Es0 R E->(∀ q∈l,Hk Y Pl R q.1)->Fp Y Pl R E l (cF Y Pl R E l)
 | [],R,E,h,_=>⟨⟨[],by simp[cF],λ _ z=>by cases z⟩,h,λ i q z=>by simp at z,λ B C u hb=>u.mono λ n z=>by
    rcases hb n z with ⟨q,z,_⟩|z
    .cases z
    .exact .inl z⟩
 |q::l,R,E,h,hk=>by
   let(f,fu):=wG h (hk q xAc) q.2;unfold cF;generalize bZ Y Pl R E q.1 q.2=x at f fu ⊢;let(x0,R1,E1):=x;let((X,e1,n1),e2,r,e3,e4):=f;dsimp only at e1 e2 e3 fu ⊢;subst e1;have ih:=aEt l e2 λ z hz=>(hk z (xAf _ hz)).on
   let((Z,i1,n2),i2,i3,i4):=ih;refine((X++Z,by rw[<- yAz];exact i1,aTp n1 n2,),i2,λ i z hz=>?_,λ B C u hb=>?_,)
   .cases i with
    |zero=>
      cases hz;exact(x0,r,rfl,by rw[i1];exact qE e3,e4,)
    |succ i=>exact i3 i z hz
   .have u1:=fu B (λ n=>(∃ z∈l,Pl[z.1]?=qz (qz n))\/C n) u λ n z=>by
     rcases hb n z with ⟨a,ha,z⟩|z
     .rcases List.mem_cons.mp ha with rfl|ha
      .exact .inl z
      .exact .inr (.inl (a,ha,z,))
     .exact .inr (.inr z)
    refine(i4 _ (λ n=>C n\/n=x0) u1 λ n z=>?_).mono λ n z=>?_
    .rcases z with (z|z)|z
     .exact .inl z
     .exact .inr (.inl z)
     .exact .inr (.inr z)
    .rcases z with (z|z)|z
     .exact .inl z
     .exact .inr (z▸xAc)
     .exact .inr (xAf _ z)
end
def aD3{E:Es}(h:Es0 R E)(ht:fU r=false):Es0 (R++[r]) E:=
 ⟨λ q i hi=>by
  let(m,e,hm):=h.s q i hi;exact(m,e,qE hm,),λ n q hq hz=>by
  rcases aCS hq with hq|⟨rfl,rfl⟩
  .exact h.t n q hq hz
  .rw[ht] at hz;cases hz⟩
structure Mr(Y:Ys)(Pl:Ps)(R:List Rw)(ops:List Nat)(w:Nat)(x:M3)(l:List Rw):Prop where
 pre:∃ X,x.2.1=R++X
 wk:x.2.1.filter bQ=R.filter bQ++l
 e:Es0 x.2.1 x.2.2
 w:∃ r,x.2.1[x.1]?=qz r/\r.w=w
 u:∀ B C:Nat->Prop,Us R B->(∀ n,B n->(∃ a∈ops,Pl[a]?=qz (qz n))\/C n)->Us x.2.1 (λ n=>C n\/n=x.1)
def aBc(h:∀ r∈X,bQ r=false):X.filter bQ=[]:=List.filter_eq_nil_iff.mpr λ r hr=>by rw[h r hr];exact yAu
def aEs{E:Es}(h:Es0 R E)(l:List (Nat×Nat))(hk:∀ q∈l,Hk Y Pl R q.1)(f:List Nat->Rw)(ht:∀ a,fU (f a)=false)(ho:∀ a,↑a=↑l->∀ z∈a,z∈bL (f a))(w:Nat)(hw:∀ a,(f a).w=w):Mr Y Pl R (l.map (·.1)) w (mI Y Pl R E l f) ([f (cF Y Pl R E l).1].filter bQ)/\∀ (i:Nat) q,l[i]?=qz q->∃ a r,(cF Y Pl R E l).1[i]?=qz a/\(mI Y Pl R E l f).2.1[a]?=qz r/\r.w=q.2:=by
 have hl:=(qA Y Pl l R E).2;let((X,e1,n1),e2,e3,e4):=aEt l h hk;unfold mI;generalize cF Y Pl R E l=y at hl e1 e2 e3 e4 ⊢;let(as,R1,E1):=y;dsimp only at hl e1 e2 e3 e4 ⊢;subst e1;refine(((X++[f as],by simp,),by rw[yBh,yBh,aBc n1,yBi],aD3 e2 (ht as),(_,qJ _ _,hw as,),λ B C u hb=>aAS (e4 B C u λ n z=>?_) λ n z=>?_,),λ i q hq=>?_,)
 .rcases hb n z with ⟨a,ha,z⟩|z
  .let(q,hq,rfl):=List.mem_map.mp ha;exact .inl (q,hq,z,)
  .exact .inr z
 .rcases z with z|z
  .exact .inr z
  .exact .inl (ho as hl n z)
 .let(a,r,g1,g2,g3):=e3 i q hq;exact(a,r,g1,qE g2,g3,)
structure Wr(W:List Nat)(R:List Rw)(r q:Rw):Prop where
 wd:q.wd=r.wd
 w:q.w<=r.w
 c:eI r.wd=true->∃ a l z,q.args=a::l/\R[a]?=qz z/\z.w<=g0 W (a0 r 0)
def aJ3{E:Es}(h:Es0 R E)(q:Rw)(ht:fU q=false)(w:Nat)(hw:q.w=w):Mr Y Pl R [] w (↑R,R++[q],E) ([q].filter bQ):=
 ⟨([q],rfl,),yBh _ _,aD3 h ht,(q,qJ R q,hw,),λ B C u hb=>aAS u λ n z=>by
  rcases hb n z with ⟨a,ha,_⟩|z
  .cases ha
  .exact .inr z⟩
def aBt{E:Es}(h:Fw R E w x/\∀ B C:Nat->Prop,Us R B->(∀ n,B n->Pl[k]?=qz (qz n)\/C n)->Us x.2.1 (λ n=>C n\/n=x.1)):Mr Y Pl R [k] w x []:=by
 let(((X,e1,n1),e2,e3),u):=h;refine((X,e1,),by rw[e1,yBh,aBc n1],e2,e3,λ B C v hb=>u B C v λ n z=>?_,);rcases hb n z with ⟨a,ha,z⟩|z
 .rw[List.mem_singleton.mp ha] at z;exact .inl z
 .exact .inr z
def aLC(h:Mr Y Pl R [k] w x l)(q:Rw)(hq:bQ q=false)(ho:bL q=[x.1]):Mr Y Pl R [k] q.w (fO x.2.1 x.2.2 q) l:=by
 let((X,e1),e2,e3,_,u):=h;let(((Z,f1,n1),f2,f3),v):=aEu e3 q hq;refine((X++Z,by rw[f1,e1,yAz],),by rw[f1,yBh,aBc n1,yBi];exact e2,f2,f3,λ B C a hb=>v _ C (u B C a hb) λ n z=>?_,);rcases z with z|z
 .exact .inr z
 .rw[ho,z];exact .inl xAc
def aXN(h:Mr Y Pl R [k] w x [])(q:Rw)(hq:bQ q=true)(ht:fU q=false)(ho:bL q=[x.1]):Mr Y Pl R [k] q.w (x.2.1.length,x.2.1++[q],x.2.2) [q]:=by
 let((X,e1),e2,e3,_,u):=h;refine((X++[q],by rw[e1,yAz],),?_,aD3 e3 ht,(q,qJ _ q,rfl,),λ B C a hb=>aAS (u B C a hb) λ n z=>?_,)
 .show(x.2.1++[q]).filter bQ=_;rw[yBh,e2,yBi,yBr,if_pos hq];rfl
 .rcases z with z|z
  .exact .inr z
  .rw[ho,z];exact .inl xAc
def aBv{E:Es}(h:Es0 R E)(r:Rw)(w:Nat)(hc:↑(bL r)=bF r.wd)(hw:bQ r=true)(hm:eI r.wd=false)(hl:w<=r.w)(hk:∀ a∈bL r,Hk Y Pl R a)(W:List Nat):∃ q,Mr Y Pl R (bL r) w (uD Y Pl R E r w) [q]/\Wr W (uD Y Pl R E r w).2.1 r q:=by
 have wk:∀ x:List Nat,bQ ⟨r.wd,w,x⟩=true:=λ _=>hw
 have tr:∀ x:List Nat,fU ⟨r.wd,w,x⟩=false:=λ x=>by
  have:=wk x;unfold bQ at this;unfold fU;cases hh:r.wd<;>rw[hh] at this<;>first|rfl|cases this
 have m:=(@aEs _ Y Pl _ h ((bL r).map λ k=>(k,w)) (λ q hq=>by let(a,ha,rfl):=List.mem_map.mp hq;exact hk a ha) (λ x=>(r.wd,w,x++r.args.drop (bF r.wd),)) (λ x=>tr _) (λ x hx z hz=>by
  rw[yAd,hc] at hx;show z∈(x++_).take (bF r.wd);rw[List.take_append_of_le_length (yHo hx.symm),<- hx,yAj];exact hz) w (λ x=>rfl)).1
 rw[yBv,show((λ q:Nat×Nat=>q.1) ∘ λ k=>(k,w))=id from rfl,List.map_id,yBr,if_pos (wk _)] at m;exact⟨_,m,rfl,hl,λ z=>by rw[hm] at z;cases z⟩
def aLJ{E:Es}(h:Es0 R E)(wd:Wd)(bC:wd=.right\/wd=.slide)(w0 a s w:Nat)(hl:w<=w0)(hk:Hk Y Pl R a)(W:List Nat):∃ q,Mr Y Pl R [a] w (pB Y Pl R E ⟨wd,w0,[a,s]⟩ a s w) [q]/\Wr W (pB Y Pl R E ⟨wd,w0,[a,s]⟩ a s w).2.1 ⟨wd,w0,[a,s]⟩ q:=by
 unfold pB;dsimp only;have hv:min w0 (w+s)<=w0:=yCn _ _;have hv2:w<=min w0 (w+s):=();generalize min w0 (w+s)=v at hv hv2 ⊢;have f:Mr Y Pl R [a] v (bZ Y Pl R E a v) []:=aBt (wG h hk v);generalize bZ Y Pl R E a v=x at f ⊢;have cm:eI wd=false:=by rcases bC with rfl|rfl<;>rfl
 have m:=aXN f (wd,v,[x.1,s],) (by rcases bC with rfl|rfl<;>rfl) (by rcases bC with rfl|rfl<;>rfl) (by rcases bC with rfl|rfl<;>rfl);have wr:∀ R',Wr W R' ⟨wd,w0,[a,s]⟩ ⟨wd,v,[x.1,s]⟩:=λ R'=>⟨rfl,hv,λ z=>by rw[show eI wd=false from cm] at z;cases z⟩
 split
 .exact(_,aLC m (.cut,w,[x.2.1.length],) rfl rfl,wr _,)
 .have e:v=w:=();subst e;exact(_,m,wr _,)
def aLU{E:Es}(h:Es0 R E)(wd:Wd)(bC:wd=.wide\/wd=.sign)(a old w:Nat)(hk:Hk Y Pl R a):Mr Y Pl R [a] w (rG Y Pl R E wd a old w) []:=by
 unfold rG;split
 .exact aBt (wG h hk w)
 .have f:Mr Y Pl R [a] old (bZ Y Pl R E a old) []:=aBt (wG h hk old);exact aLC f (wd,w,[(bZ Y Pl R E a old).1],) (by rcases bC with rfl|rfl<;>rfl) (by rcases bC with rfl|rfl<;>rfl)
def aYs{E:Es}(h:Es0 R E)(wd:Wd)(bC:wd=.same\/wd=.less\/wd=.under)(a b v:Nat)(ha:Hk Y Pl R a)(hb:Hk Y Pl R b)(W:List Nat)(hv:v<=g0 W a):∃ q,Mr Y Pl R [a,b] 1 (xO Y Pl R E wd a b v) [q]/\Wr W (xO Y Pl R E wd a b v).2.1 ⟨wd,1,[a,b]⟩ q:=by
 have c2:bF wd=2:=by erw[50,bC]<;>rfl
 let(m,wv):=@aEs _ Y Pl _ h [(a,v),(b,v)] (λ q hq=>by
  simp only[yBg,yBb,or_false] at hq;rcases hq with rfl|rfl
  .exact ha
  .exact hb) (λ x=>(wd,1,x,)) (λ x=>by erw[50,bC]<;>rfl) (λ x hx z hz=>by
  show z∈x.take (bF wd);rw[c2,show(2:Nat)=↑x from hx.symm,yAj]
  exact hz) 1 (λ x=>rfl)
 let(p,z,g1,g2,g3):=wv 0 (a,v) rfl;rw[yBr,if_pos (by erw[50,bC]<;>rfl)] at m;refine(_,m,rfl,yAb _,λ _=>?_,);generalize (cF Y Pl R E [(a,v),(b,v)]).1=as at g1;cases as with
 |nil=>cases g1
 |cons u l=>
   cases g1;exact(p,l,z,rfl,g2,by rw[g3];exact hv,)
def aWf{E:Es}(h:Es0 R E)(w0 c a b w:Nat)(hl:w<=w0)(hc:Hk Y Pl R c)(ha:Hk Y Pl R a)(hb:Hk Y Pl R b)(W:List Nat):∃ q,Mr Y Pl R [c,a,b] w (yO Y Pl R E c a b w) [q]/\Wr W (yO Y Pl R E c a b w).2.1 ⟨.pick,w0,[c,a,b]⟩ q:=by
 have m:=(@aEs _ Y Pl _ h [(c,1),(a,w),(b,w)] (λ q hq=>by
  simp only[yBg,yBb,or_false] at hq;erw[50,hq]
  .exact hc
  .exact ha
  .exact hb) (λ x=>(.pick,w,x,)) (λ x=>rfl) (λ x hx z hz=>by
  show z∈x.take 3;rw[show(3:Nat)=↑x from hx.symm,yAj]
  exact hz) w (λ x=>rfl)).1
 exact⟨_,m,rfl,hl,λ z=>by cases z⟩
def aYo{E:Es}{W:List Nat}(f1:RwOk r ws)(h:Es0 R E)(w:Nat)(h1:1<=w)(hl:w<=r.w)(hin:(r.wd==.in)=true->w=r.w)(hk:∀ a∈bL r,Hk Y Pl R a)(hv:eI r.wd=true->nY r.wd (yo Y (a0 r 0)) (yo Y (a0 r 1)) (g0 W (a0 r 0))<=g0 W (a0 r 0)):∃ l,Mr Y Pl R (bL r) w (iA W Y Pl R E r w) l/\(bQ r=false->l=[])/\(bQ r=true->∃ q,l=[q]/\Wr W (iA W Y Pl R E r w).2.1 r q):=by
 have yes:∀ {x:M3}{r:Rw}{ops:List Nat},bQ r=true->(∃ q,Mr Y Pl R ops w x [q]/\Wr W x.2.1 r q)->∃ l,Mr Y Pl R ops w x l/\(bQ r=false->l=[])/\(bQ r=true->∃ q,l=[q]/\Wr W x.2.1 r q):=λ {x r ops} e ⟨q,g1,g2⟩=>([q],g1,λ z=>(by rw[e] at z;cases z),λ _=>(q,rfl,g2,),)
 have no:∀ {x:M3}{r:Rw}{ops:List Nat},bQ r=false->Mr Y Pl R ops w x []->∃ l,Mr Y Pl R ops w x l/\(bQ r=false->l=[])/\(bQ r=true->∃ q,l=[q]/\Wr W x.2.1 r q):=λ {x r ops} e g=>([],g,λ _=>rfl,λ z=>(by rw[e] at z;cases z),)
 cases f1 with
 |inp g1 g2=>
   rename_i w0;have e:w=w0:=hin rfl;subst e;exact no rfl (aJ3 h (.in,w,[],) rfl w rfl)
 |num g1 g2 hn=>exact no rfl (aJ3 h (.num,w,[_],) rfl w rfl)|nt g1 g2=>exact yes rfl (aBv h (.not,_,[_],) w rfl rfl rfl hl hk W)
 |sh g1 g2 bC hs=>
   erw[50,bC]
   .exact yes rfl (aBv h (.left,_,[_,_],) w rfl rfl rfl hl hk W)
   .exact yes rfl (aLJ h .right (.inl rfl) _ _ _ w hl (hk _ xAc) W)
   .exact yes rfl (aLJ h .slide (.inr rfl) _ _ _ w hl (hk _ xAc) W)
 |cut g1 gv g2=>exact no rfl (aBt (wG h (hk _ xAc) w))|wide g1 gv g2=>exact no rfl (aLU h .wide (.inl rfl) _ _ w (hk _ xAc))|sign g1 gv g2=>exact no rfl (aLU h .sign (.inr rfl) _ _ w (hk _ xAc))
 |bw g1 g2 bC=>erw[50,bC]<;>exact yes rfl (aBv h (_,_,[_,_],) w rfl rfl rfl hl hk W)
 |sm g1 g2=>
   rename_i s _ _ _;cases s<;>exact yes rfl (aBv h (_,_,[_,_],) w rfl rfl rfl hl hk W)
 |cmp g1 g2 bC=>
   have e:w=1:=Nat.le_antisymm hl h1;subst e;erw[50,bC]<;>exact yes rfl (aYs h _ (by simp) _ _ _ (hk _ xAc) (hk _ (xAf _ xAc)) W (hv rfl))
 |pick g1 g2=>exact yes rfl (aWf h _ _ _ _ w hl (hk _ xAc) (hk _ (xAf _ xAc)) (hk _ (xAf _ (xAf _ xAc))) W)
def Wr.on{W:List Nat}(h:Wr W R r q):Wr W (R++X) r q:=
 ⟨h.wd,h.w,λ c=>by
  let(a,l,z,h1,h2,h3):=h.c c;exact(a,l,z,h1,qE h2,h3,)⟩
def aWX{α β:Type}{P:α->β->Prop}{as:List α}{bs:List β}(h:PySem.Paired P as bs):∀ {cs:List α}{ds:List β},PySem.Paired P cs ds->PySem.Paired P (as++cs) (bs++ds):=by
 induction h with
 |nil=>exact λ h=>h|cons a t ih=>exact λ h=>.cons a (ih h)
def Lv(rs:List Rw)(Y:Ys)(aE:List Nat)(j k:Nat):Prop:=k∈aE\/∃ (i:Nat) (r:Rw),j<=i/\rs[i]?=qz r/\(∃ q,Y[i]?=qz (qz q))/\k∈bL r
def eT(rs:List Rw)(Y:Ys):Nat->List Rw
 |0=>[]
 |j+1=>match rs[j]?,Y[j]? with
   |some r,qz (qz _)=>eT rs Y j++[r]|_,_=>eT rs Y j
structure Mw(rs:List Rw)(Y:Ys)(aE:List Nat)(j:Nat)(z:Ps×List Rw×Es):Prop where
 l:z.1.length=j
 e:Es0 z.2.1 z.2.2
 pl:∀ a,a<j->Hk Y z.1 z.2.1 a
 wk:PySem.Paired (λ r q=>Wr (~~~rs) z.2.1 r q) ((eT rs Y j).filter bQ) (z.2.1.filter bQ)
 u:Us z.2.1 (λ n=>∃ k,k<j/\z.1[k]?=qz (qz n)/\Lv rs Y aE j k)
def aWK{W:List Nat}(f1:RwOk r ws)(hws:cW r W=ws)(hc:eI r.wd=true):∃ a b,bL r=[a,b]/\a0 r 0=a/\a0 r 1=b/\g0 W a=g0 W b:=by
 cases f1 with
 |cmp g1 g2 bC=>
   rename_i wd v a b;refine(a,b,?_,rfl,rfl,?_,)
   .erw[50,bC]<;>rfl
   .have:[g0 W a,g0 W b]=[v,v]:=by
     rw[<- hws];erw[50,bC]<;>rfl
    let(e1,e2):=List.cons.inj this;rw[e1,(List.cons.inj e2).1]
 |sh g1 g2 bC hk=>erw[50,bC]<;>cases hc
 |bw g1 g2 bC=>erw[50,bC]<;>cases hc
 |sm g1 g2=>
   rename_i s _ _ _;cases s<;>cases hc
 |_=>cases hc
def aX7{rs:List Rw}{Y:Ys}(p:Prg rs)(g:Yg rs Y){j:Nat}{r:Rw}{q:Yw×Nat}(hr:rs[j]?=qz r)(hy:Y[j]?=qz (qz q))(hc:eI r.wd=true):nY r.wd (yo Y (a0 r 0)) (yo Y (a0 r 1)) (g0 (~~~rs) (a0 r 0))<=g0 (~~~rs) (a0 r 0):=by
 let(f1,f2):=p.fit j r hr;have hj:=(gIm hr).1;have kw:∀ a∈bL r,(yo Y a).2<=g0 (~~~rs) a:=λ a ha=>by
  let(y,e):=g.cok j r q hr hy hc a ha;have hal:a<↑rs:=yEh (f2 a ha) hj;have ha2:rs[a]?=qz rs[a]:=yAa hal;rw[show yo Y a=y by unfold yo;rw[xAg,e];rfl,nK ha2];exact(aDY g ha2 e).2.1
 let(a,b,e1,e2,e3,e4):=aWK f1 rfl hc;have k1:=kw a (by rw[e1];exact xAc);have k2:=kw b (by rw[e1];exact xAf _ xAc);rw[e2,e3];rw[<- e4] at k2;unfold nY;split
 .exact yAb _
 .split
  .exact yCn _ _
  .exact Nat.max_le.mpr (k1,k2,)
def aKm(p:Prg rs)(g:Yg rs Y)(hL:∀ (k:Nat) r q,rs[k]?=qz r->Y[k]?=qz (qz q)->r.wd≠.in->Lv rs Y aE (k+1) k):∀ j,j<=↑rs->Mw rs Y aE j (aY rs Y j)
 |0,_=>(rfl,(λ r i h=>(by cases h),λ n r h=>(by simp[aY] at h),),λ a ha=>by omega,.nil,λ n r h=>by simp[aY] at h,)
 |j+1,hj=>by
   have ih:=aKm p g hL j ();have hjy:j<↑Y:=by rw[g.st.l];exact hj
   have hr:rs[j]?=qz rs[j]:=yAa hj;have hy:Y[j]?=qz Y[j]:=yAa hjy;generalize rs[j]=r at hr;generalize Y[j]=y at hy;have i1:=ih.l;have last:∀ x:Option Nat,((aY rs Y j).1++[x])[j]?=qz x:=λ x=>by rw[yAi (),i1,yBe];rfl
   have old:∀ (x:Option Nat) (k:Nat),k<j->((aY rs Y j).1++[x])[k]?=(aY rs Y j).1[k]?:=λ x k hk=>xAm ()
   have stp:∀ {k:Nat},Lv rs Y aE j k->Lv rs Y aE (j+1) k\/((∃ q,y=qz q)/\k∈bL r):=λ {k} h=>by
    rcases h with h|⟨i,r',h1,h2,h3,h4⟩
    .exact .inl (.inl h)
    .by_cases c:i=j
     .subst c;rw[hr] at h2;cases h2;let(q,h3):=h3;rw[hy] at h3;cases h3;exact .inr ((q,rfl,),h4,)
     .exact .inl (.inr (i,r',by omega,h2,h3,h4,))
   cases y with
   |none=>
     rw[aHz hr hy];refine(by rw[xAn,i1];rfl,ih.e,λ a ha=>?_,?_,ih.u.mono λ n=>?_,)
     .rcases Nat.lt_succ_iff_lt_or_eq.mp ha with h|rfl
      .exact(ih.pl a h).pl qx
      .exact .inl (hy,last qx,)
     .rw[eT,hr,hy];exact ih.wk
     .rintro ⟨k,h1,h2,h3⟩;refine(k,by omega,by rw[old qx k h1];exact h2,?_,);rcases stp h3 with h|⟨⟨q,h⟩,_⟩
      .exact h
      .cases h
   |some q=>
     let(k1,k2,k3):=aDY g hr hy;let(f1,f2):=p.fit j r hr;let(l,m,l1,l2):=aYo (W:=rs.map (·.w)) f1 ih.e q.2 k1 k2 k3 (λ a ha=>ih.pl a (f2 a ha)) (aX7 p g hr hy);have inr:(r.wd==.in)=true->(iA (~~~rs) Y (aY rs Y j).1 (aY rs Y j).2.1 (aY rs Y j).2.2 r q.2)=((aY rs Y j).2.1.length,(aY rs Y j).2.1++[r],(aY rs Y j).2.2):=λ c=>by unfold iA;rw[if_pos c]
     rw[aIj hr hy];generalize iA (~~~rs) Y (aY rs Y j).1 (aY rs Y j).2.1 (aY rs Y j).2.2 r q.2=x at m l2 inr ⊢;let((X,m1),m2,m3,(rx,m4,m5),m6):=m;refine(by rw[xAn,i1];rfl,m3,λ a ha=>?_,?_,λ n rn hn ni=>?_,)
     .rcases Nat.lt_succ_iff_lt_or_eq.mp ha with h|rfl
      .dsimp only;rw[m1];exact((ih.pl a h).on).pl _
      .exact .inr (q,x.1,rx,hy,last _,m4,m5,)
     .dsimp only;have w1:PySem.Paired (λ r q=>Wr (~~~rs) x.2.1 r q) ((eT rs Y j).filter bQ) ((aY rs Y j).2.1.filter bQ):=L2.Paired.mapP ih.wk λ _ _ z=>by rw[m1];exact z.on
      rw[eT,hr,hy,m2,yBh];refine aWX w1 ?_;cases c:bQ r with
      |false=>
        rw[l1 c,yBr,c];exact .nil
      |true=>
        let(z,rfl,wz):=l2 c;rw[yBr,c];exact .cons wz .nil
     .rcases m6 _ (λ n=>∃ k,k<j/\(aY rs Y j).1[k]?=qz (qz n)/\Lv rs Y aE (j+1) k) ih.u (λ n aW=>by
       let(k,h1,h2,h3):=aW;rcases stp h3 with h|⟨_,h⟩
       .exact .inr (k,h1,h2,h,)
       .exact .inl (k,h,h2,)) n rn hn ni with (⟨k,h1,h2,h3⟩ | rfl) | h
      .exact .inl (k,by omega,by dsimp only;rw[old _ k h1];exact h2,h3,)
      .cases c:(r.wd==.in) with
       |true=>
         rw[inr c] at hn;rw[show(((aY rs Y j).2.1.length,(aY rs Y j).2.1++[r],(aY rs Y j).2.2):M3).2.1[(((aY rs Y j).2.1.length,(aY rs Y j).2.1++[r],(aY rs Y j).2.2):M3).1]?=qz r from qJ _ _] at hn;cases hn;exact absurd (eq_of_beq c) ni
       |false=>exact .inl ⟨j,yBa _,last _,hL j r q hr hy λ z=>by rw[z] at c;cases c⟩
      .exact .inr h
def aL6:∀ (R:List Rw),(∀ (n m:Nat) r,R[n]?=qz r->R[m]?=qz r->fU r=true->n=m)->(R.filter fU).Nodup
 |[],_=>.nil
 |r::R,h=>by
   have ih:=aL6 R λ n m q h1 h2 h3=>by
    have:=h (n+1) (m+1) q h1 h2 h3;omega
   rw[yBr];split
   .rename_i c;refine List.nodup_cons.mpr (λ z=>?_,ih,);let(m,hm):=yDy (List.mem_filter.mp z).1;have:=h 0 (m+1) r rfl hm c;omega
   .exact ih
def aXc{E:Es}(h:Es0 R E):(R.filter fU).Nodup:=aL6 R λ n m r h1 h2 h3=>by
 have e1:=h.t n r h1 h3;rw[h.t m r h2 h3] at e1;have:=Option.some.inj e1;omega
structure Whole(rs:List Rw)(Y:Ys)(Q:List Rw)(os:List Nat):Prop where
 tr:(Q.filter fU).Nodup
 wk:PySem.Paired (λ r q=>Wr (~~~rs) Q r q) ((eT rs Y ↑rs).filter bQ) (Q.filter bQ)
 u:∀ (n:Nat) r,Q[n]?=qz r->r.wd≠.in->n∈os\/∃ (m:Nat) (q:Rw),Q[m]?=qz q/\n∈bL q
def aRr(p:Prg rs)(g:Yg rs Y)(hL:∀ (k:Nat) r q,rs[k]?=qz r->Y[k]?=qz (qz q)->r.wd≠.in->Lv rs Y aE (k+1) k)(ho:∀ o∈aE,o<↑rs):Whole rs Y (fB rs Y aE).2.1 (fB rs Y aE).1:=by
 have m:=aKm p g hL ↑rs (yAb _);let((X,e1,n1),e2,_,e4):=aEt (kX rs aE) m.e (λ q hq=>by
  let(o,h,rfl):=List.mem_map.mp hq;exact m.pl o (ho o h))
 have u:=e4 _ (λ _=>False) m.u λ n aW=>by
  let(k,h1,h2,h3):=aW;rcases h3 with h3|⟨i,r,h4,h5,_⟩
  .exact .inl (_,List.mem_map_of_mem h3,h2,)
  .have:=(gIm h5).1;omega
 have w:=m.wk;change Es0 (fB rs Y aE).2.1 (fB rs Y aE).2.2 at e2;change (fB rs Y aE).2.1=_ at e1;change Us (fB rs Y aE).2.1 (λ n=>False\/n∈(fB rs Y aE).1) at u;refine(aXc e2,?_,λ n r h1 h2=>?_,)
 .rw[e1,yBh,aBc n1,yBi];exact L2.Paired.mapP w λ _ _ z=>z.on
 .rcases u n r h1 h2 with (h|h)|h
  .exact h.elim
  .exact .inl h
  .exact .inr h
def aWN{F:List Ft}(p:Prg rs)(hF:↑F=↑rs)(ho:∀ o∈aE,o<↑rs)(k:Nat)(r:Rw)(q:Yw×Nat)(hr:rs[k]?=qz r)(hy:(eQ rs F (cZ rs F aE))[k]?=qz (qz q))(ni:r.wd≠.in):Lv rs (eQ rs F (cZ rs F aE)) aE (k+1) k:=by
 have hb:=aDy (F:=F) p ho;rw[qD hr hF hb.l] at hy;have hy:=Option.some.inj hy;have m0:(cZ rs F aE).getD k 0≠0:=λ z=>by
  unfold iD at hy;rw[if_neg ni,if_pos z] at hy;cases hy
 rcases aQs (F:=F) p ho (sQ m0) with h|⟨k',i,h1,h2,h3,h4⟩
 .exact .inl h
 .have hr':rs[k']?=qz rs[k']:=yAa h2;have lt:i<rs[k'].w:=Decidable.byContradiction λ c=>by
   rw[yGi (xAb (hb.lt k' _ hr') (yAw (·) (yEp c)))] at h3;cases h3
  let(q',hq):=aHO rs[k'] (f0 F k') (aKs h3);exact .inr (k',rs[k'],h1,hr',(q',by rw[qD hr' hF hb.l,hq],),(aLF p hr' lt h4).2,)
def aXM(h:bQ r=false):fW ws r=0:=by let(wd,w,as):=r;cases wd<;>first|rfl|cases h
def aEj(ws:List Nat):∀ Q:List Rw,(Q.map (fW ws)).sum=((Q.filter bQ).map (fW ws)).sum
 |[]=>rfl
 |r::Q=>by
   have ih:=aEj ws Q;rw[yBr];cases c:bQ r with
   |true=>rw[if_pos rfl,yAf,yAf,yFc,yFc,ih]|false=>rw[if_neg yAu,yAf,yFc,aXM c,ih,yCx]
def aYx{W:List Nat}(h:Wr W Q r q):fW (Q.map (·.w)) q<=fW W r:=by
 let(h1,h2,h3):=h;let(wd,w,as):=r;let(wd',w',as'):=q;dsimp only at h1 h2 h3;subst h1;have cmp:eI wd'=true->(Q.map (·.w)).getD (as'.getD 0 0) 0<=W.getD (as.getD 0 0) 0:=λ c=>by
  let(a,l,z,e1,e2,e3):=h3 c;rw[e1];show(Q.map (·.w)).getD a 0<=_;rw[xAg,yAg,e2];exact e3
 have mm:=Nat.mul_le_mul h2 h2;have m2:=Nat.mul_le_mul_left 2 h2;cases wd'<;>first|exact h2|exact m2|exact mm|exact cmp rfl|exact yAb _
def aVR{P:Rw->Rw->Prop}{f g:Rw->Nat}(hp:∀ a b,P a b->f b<=g a)(h:PySem.Paired P as bs):(bs.map f).sum<=(as.map g).sum:=by
 induction h with
 |nil=>exact yAb _
 |cons a t ih=>
   rw[yAf,yAf,yFc,yFc];exact Nat.add_le_add (hp _ _ a) ih
def aL3(rs:List Rw)(Y:Ys)(f:Rw->Nat):∀ j,((eT rs Y j).map f).sum<=((rs.take j).map f).sum
 |0=>yAb _
 |j+1=>by
   have ih:=aL3 rs Y f j;rw[eT];rw[yGm,yAx,List.sum_append];split
   .rename_i r _ hr _;rw[hr,yAx,List.sum_append];exact Nat.add_le_add ih (yAb _)
   .exact xAh ih (yBz _ _)
def aRb{os:List Nat}(h:Whole rs Y Q os):(Q.map (fW (Q.map (·.w)))).sum<=(rs.map (fW (~~~rs))).sum:=by rw[aEj];refine xAh (aVR (f:=fW (Q.map (·.w))) (g:=fW (~~~rs)) (λ _ _ z=>aYx z) h.wk) ?_;rw[<- aEj];have:=aL3 rs Y (fW (~~~rs)) ↑rs;rw[yAj] at this;exact this
def aUX{P:Rw->Rw->Prop}(h:PySem.Paired P as bs):∀ b∈bs,∃ a∈as,P a b:=by
 induction h with
 |nil=>exact λ b z=>nomatch z
 |cons a t ih=>
   intro b z;rcases List.mem_cons.mp z with rfl|z
   .exact(_,xAc,a,)
   .let(c,h1,h2):=ih b z;exact(c,xAf _ h1,h2,)
def aD7(rs:List Rw)(Y:Ys):∀ j,∀ r∈eT rs Y j,r∈rs
 |0,r,h=>nomatch h
 |j+1,r,h=>by
   rw[eT] at h;split at h
   .rename_i q _ hq _;rcases List.mem_append.mp h with h|h
    .exact aD7 rs Y j r h
    .rw[List.mem_singleton.mp h];exact xAk hq
   .exact aD7 rs Y j r h
def aRy{os:List Nat}(h:Whole rs Y Q os)(hw:∀ r∈rs,r.w<=64):∀ q∈Q,wT (Q.map (·.w)) q/\(q.wd=.mul->q.w<=64):=λ q hq=>by
 have key:bQ q=true->∃ r∈rs,Wr (~~~rs) Q r q:=λ c=>by
  let(r,h1,h2):=aUX h.wk q (List.mem_filter.mpr (hq,c,));exact(r,aD7 rs Y _ r (List.mem_filter.mp h1).1,h2,)
 refine(λ c=>?_,λ c=>?_,)
 .have cw:eI q.wd=true:=by rcases c with e|e|e<;>rw[e]<;>rfl
  let(r,_,w):=key (by unfold bQ;rcases c with e|e|e<;>rw[e]<;>rfl);let(a,l,z,e1,e2,_):=w.c (by rw[<- w.wd];exact cw);exact(a,l,z.w,e1,by rw[yAg,e2];rfl,)
 .let(r,h1,w):=key (by unfold bQ;rw[c];rfl);exact xAh w.w (hw r h1)
def aUq(a:Wd)(w:Nat)(l:List Nat):aV .NotIn (.str a.s) (.tuple [.str "in",.str "num",.str "cut",.str "wide",.str "sign"])=qz (.bool (bQ (a,w,l,))):=by cases a<;>kernel_rfl
def aHA(d:Nat)(l:List Rw)(t:Bool)(hl:↑l<=1000)(S:aC):cl fns (d+1) 79 [.d (if t then (l*>Rw.d) else .list (l.map Rw.d))] S=qz (.d (.list ((l.filter bQ).map Rw.d)),S):=by
 have hc:lv (aF fns d) aFL [qz (.d (if t then (l*>Rw.d) else .list (l.map Rw.d))),qx] S=qz ((l.filter bQ).map Rw.d,S):=by
  refine @uP _ _ _ _ _ (lv (aF fns d) (.it (.var 0))) (tv (aF fns d) (.cmp .NotIn (.ix (.var 1) (.int 0)) (.tup (.cons (.str "in") (.cons (.str "num") (.cons (.str "cut") (.cons (.str "wide") (.cons (.str "sign") .nil)))))))) (ev (aF fns d) (.var 1)) Rw.d Rw.d bQ l ?_ (by rw[zx];omega) λ r hr'=>(_,rfl,λ S'=>?_,λ _ S'=>rfl,)
  .cases t<;>rfl
  .exact bN (bY (aD rfl) bG rfl (nB r)) rfl (aUq r.wd r.w r.args)
 exact dN rfl rfl rfl (bH (hV hc)) yAj
def aKY:∀ Q:List Rw,↑(Q.flatMap bL)<=3*↑Q
 |[]=>yAb _
 |r::Q=>by
   have ih:=aKY Q;have h:↑(bL r)<=3:=by
    have c:bF r.wd<=3:=by cases r.wd<;>decide
    have:=List.length_take_le (bF r.wd) r.args;unfold bL;omega
   rw[List.flatMap_cons,xAn,yAl];omega
def aR1(d:Nat)(Q:List Rw)(os:List Nat)(hQ:↑Q<=1000)(ho:↑os<=100)(st:Option (List D)):cl fns (d+2) 80 [.d (Q<*(os*>nD))] [st]=qz (.d (.list ((os++Q.flatMap bL).map nD)),[st]):=by
 have p0:ev (d<$>1) (.new (.lof (.ix (.var 0) (.int 1)))) [qz (.d (Q<*(os*>nD))),qx,qx] [st]=qz (.loc 1,[st,qz (os.map nD)]):=@aA5 _ _ _ [st] _ (os.map nD) rfl;let(aM,S',p1,c,rfl,rfl):=sP (t:=.one 2) (fi:=lv (d<$>1) aFP) (fb:=xs (d<$>1) aFU) (env:=[qz (.d (Q<*(os*>nD))),#[1],qx]) (S:=[st,qz (os.map nD)]) (S1:=[st,qz (os.map nD)]) (ds:=Q.map Rw.d)
  (λ j env S=>∃ c:Option W,env=[qz (.d (Q<*(os*>nD))),#[1],c]/\S=[st,qz ((os++(Q.take j).flatMap bL).map nD)])
  rfl (qx,rfl,by simp,) (by
   rintro j dd env S hd ⟨c,rfl,rfl⟩;rw[yAg] at hd;let(r,hj,rfl):=Option.map_eq_some_iff.mp hd;have ln:=aKY (Q.take (j+1));have lt:=List.length_take_le' (j+1) Q;have e:(Q.take (j+1)).flatMap bL=(Q.take j).flatMap bL++bL r:=by rw[yGm,hj,List.flatMap_append];simp
   rw[e,xAn] at ln;refine(_,_,_,rfl,oS (qK (aYN (aD rfl) (bM (aH (aD rfl) aQ) (oE d r _)) rfl ?_)),qz (.d r.d),rfl,?_,)
   .rw[yAd,yAd,xAn,zx];change _+↑(bL r)<=_;have:=lt;omega
   .rw[e,<- yAz,yAx (l₂:=bL r)];rfl)
 rw[yAd,yAj] at p1;have body:xs (d<$>1) aCr [qz (.d (Q<*(os*>nD))),qx,qx] [st]=qz (.rt (.loc 1),[st,qz ((os++Q.flatMap bL).map nD)]):=bP p0 rfl (eE p1 (bH (aD rfl)));rw[bO rfl (d+1) _ [st] rfl];show(xs (d<$>1) aCr [qz (.d (Q<*(os*>nD))),qx,qx] [st]).bind _=_;rw[body];rfl
def aKF{rs:List Rw}{F:List Ft}{M:List Nat}(hF:↑F=↑rs)(hM:↑M=↑rs):∀ j,j<=↑rs->(eT rs (eQ rs F M) j).filter bQ=(((((rs.zip M).take j).filter λ q=>decide (0<q.2)).map (·.1)).filter bQ)
 |0,_=>by rw[List.take_zero];rfl
 |j+1,hj=>by
   have ih:=aKF hF hM j ();have hjm:j<↑M:=by rw[hM];exact hj
   have hr:rs[j]?=qz rs[j]:=yAa hj;have hm:M[j]?=qz M[j]:=yAa hjm;have hz:(rs.zip M)[j]?=qz (rs[j],M[j]):=List.getElem?_zip_eq_some.mpr (hr,hm,);have hy:=qD hr hF hM;rw[show M.getD j 0=M[j] by rw[xAg,hm];rfl] at hy;rw[eT,yGm,hz,yBh,yAx,yBh,<- ih,hr,hy];generalize rs[j]=r;generalize M[j]=m;unfold iD;by_cases c:r.wd=.in
   .rw[if_pos c];have w:bQ r=false:=by unfold bQ;rw[c];rfl
    dsimp only;rw[yBh,yBr,w,if_neg yAu];congr 1;by_cases h:0<m
    .simp[h,w]
    .simp[h]
   .rw[if_neg c];by_cases h:m=0
    .rw[if_pos h];simp[h]
    .rw[if_neg h];have h':0<m:=Nat.pos_of_ne_zero h;dsimp only;rw[yBh];simp[h']
def aQY{os:List Nat}(h:Whole rs Y Q os):(Q.filter bQ).map (λ q=>yCb q.wd.s)=((eT rs Y ↑rs).filter bQ).map (λ q=>yCb q.wd.s):=by
 have w:=h.wk;generalize (eT rs Y ↑rs).filter bQ=as at w ⊢;generalize Q.filter bQ=bs at w ⊢
 induction w with
 |nil=>rfl|cons a t ih=>rw[yAf,yAf,a.wd,ih]
def aWe(r:Rw):gU (.str r.wd.s::nD r.w::r.args.map nD)=qz (gN r):=by
 have k:∀ l:List Nat,gU (l.map nD)=qz (l.map λ a=>.inl ((a:Nat):Int)):=λ l=>by
  induction l with
  |nil=>rfl|cons a r ih=>rw[yAf,nD,gU,ih];rfl
 rw[nD,gU,gU,k];rfl
def aKk:∀ l:List Rw,sZ (l.map Rw.d)=qz (l.map gN)
 |[]=>rfl
 |r::l=>by
   rw[yAf,show Rw.d r=.tuple (.str r.wd.s::nD r.w::r.args.map nD) from rfl,sZ,aWe,aKk l];rfl
def aZs{l:List Rw}(h:l.Nodup):(l.map gN).Nodup:=by unfold List.Nodup at h ⊢;rw[List.pairwise_map];exact h.imp λ n e=>n (aJA e)
def aVS{f g:Ft}(h:f.d=g.d):f=g:=by
 cases f;cases g;injection h with h
 injection h with h1 h
 injection h with h2 h
 injection h with h3 h
 injection h1 with h1
 injection h2 with h2
 injection h3 with h3
 cases Int.ofNat.inj h1;cases Int.ofNat.inj h2;cases Int.ofNat.inj h3;rfl
def aQQ{F F':List Ft}(p:Prg rs)(h:↑F=↑rs)(h':↑F'=↑rs)(o:uF rs F)(o':uF rs F'):F=F':=by
 have key:∀ i,i<↑rs->f0 F i=f0 F' i:=λ i=>by
  induction i using Nat.strongRecOn with
  |ind i ih=>
    intro hi;have hr:rs[i]?=qz rs[i]:=yAa hi;let(g,hg,n1):=o i _ () hr;let(g',hg',n2):=o' i _ () hr;have e:jF rs[i] F=jF rs[i] F':=by
     unfold jF;refine yDl λ a ha=>?_
     have:=(p.fit i _ hr).2 a ha;exact ih a this ()
    have r1:=n1.rule 0 [];rw[e,n2.rule 0 []] at r1;rw[<- hg,<- hg'];injection r1 with r1
    injection r1 with r1
    injection r1 with r1
    exact(aVS r1).symm
 refine List.ext_getElem () λ i h1 h2=>?_
 have:=key i ();have a1:=vQ h1;have a2:=vQ h2;rw[yAa h1] at a1;rw[yAa h2] at a2;rw[Option.some.inj a1,Option.some.inj a2,this]
def wS(a:Wd):D:=.str a.s
def aJV:∀ L:List Wd,PyData.eqvAll (L.map wS) (L.map wS)=true
 |[]=>rfl
 |a::r=>by
   have ih:=aJV r;simp only[yAf,PyData.eqvAll,ih,yCg];simp[wS,yFa]
def aKP:∀ L:List Wd,yFb (L.map wS)=true
 |[]=>rfl
 |a::r=>by
   have ih:=aKP r;simp only[yAf,yFb,ih,yCg];cases a<;>kernel_rfl
def aKn:∀ L:List Wd,yEw (L.map wS)=0
 |[]=>rfl
 |a::r=>by
   have ih:=aKn r;simp only[yAf,yEw,ih];rfl
def aTO(L:List Wd):aV .NotEq (.list (L.map wS)) (.list (L.map wS))=qz (.bool false):=by
 have h1:(yHg (L.map wS)).canLay0=true:=aKP L;have h2:(yHg (L.map wS)).depth<=60:=by
  show yEw (L.map wS)+1<=60;rw[aKn];decide
 have h3:yFa (.list (L.map wS)) (.list (L.map wS))=true:=by
  have:=aJV L;simp only[yFa,this]
 unfold aV tJ;simp only[];rw[if_pos (h1,h1,h2,),h3];rfl
def aUm(a:Nat)(L:List Nat)(h:a∈L):pP (.int a) (L.map nD)=true:=by
 induction L with
 |nil=>cases h
 |cons b r ih=>
   rcases List.mem_cons.mp h with rfl|h
   .simp[pP,nD,yFa]
   .have:=ih h;simp only[pP,yAf,yEz] at this ⊢;rw[this,yGp]
def aMf:∀ L:List Nat,lH (L.map nD)=true
 |[]=>rfl
 |a::r=>by
   have ih:=aMf r;rw[yAf];simp only[lH,ih,yCg];rfl
def aS5(a:Nat)(L:List Nat)(h:a∈L):aV .NotIn (.int a) (.list (L.map nD))=qz (.bool false):=by show((if jA (.int a)=true/\lH (L.map nD)=true then qz (!pP (.int a) (L.map nD)) else qx).map PyData.bool)=_;rw[if_pos (rfl,aMf L,),aUm a L h];rfl
structure Calls76(d:Nat)(rs:List Rw)(aE:List Nat)(st:Option (List D))(Y:Ys)(M:List Nat)(F:List Ft)(Q:List Rw)(os:List Nat):Prop where
 w:Whole rs Y Q os
 lq:↑Q<=300
 lo:↑os<=100
 as:(eT rs Y ↑rs).filter bQ=((((rs.zip M).filter λ q=>decide (0<q.2)).map (·.1)).filter bQ)
 eN:∃ YY,cl fns (d+10) 65 [.d (rs<*(aE*>nD))] [st]=qz (.d (.tuple [(Q<*(os*>nD)),YY]),[st])
 eF:cl fns (d+10) 48 [.d (rs<*(aE*>nD))] [st]=qz (.d (F*>Ft.d),[st])
 eA:cl fns (d+10) 20 [.d (rs<*(aE*>nD)),.d (F*>Ft.d)] [st]=qz (.d (M*>nD),[st])
 lm:↑M=↑rs
def aQi(d:Nat)(ok:eV [] rs)(l0:↑rs<=40)(ho:∀ o∈aE,o<↑rs)(hol:↑aE<=8)(st:Option (List D)):∃ Y M F Q os,Calls76 d rs aE st Y M F Q os:=by
 have p:=aVE ok ();let(F,hF,_,ow,eF):=aGi d rs (aE*>nD) p [st];let(F',hF',_,ow',eF'):=aGi (d+1) rs (aE*>nD) p [st];rw[<- aQQ p hF hF' ow ow'] at eF';have hb:=aDy (F:=F) p ho;have b0:Bd rs (aE.foldl (eD rs) (yAe ↑rs 0)):=aAJ aE _ ho aAq;have met:Met rs F (cZ rs F aE):=λ j r hr q hq=>aH5 p _ _ b0 (yAb _) j r (gIm hr).1 hr q hq
 have g:=aTn p hF hb (aWv p met);have eN:=aOe d p () hF aE ho () g st eF;have mv:=aAN p g ↑rs (yAb _);have m2:=mv.r;let(f1,f2):=qA (eQ rs F (cZ rs F aE)) (aY rs (eQ rs F (cZ rs F aE)) ↑rs).1 (kX rs aE) (aY rs (eQ rs F (cZ rs F aE)) ↑rs).2.1 (aY rs (eQ rs F (cZ rs F aE)) ↑rs).2.2;have lo:↑(kX rs aE)=↑aE:=by unfold kX;rw[yAd]
 have az:=aKF (M:=cZ rs F aE) hF hb.l ↑rs (yAb _);rw[yCd (by rw[yEx];omega)] at az;exact(_,cZ rs F aE,F,_,_,aRr p g (aWN p hF ho) ho,by unfold fB;omega,by unfold fB;omega,az,(_,eN,),eF',(aHu (d+3) p hF aE ho [st]).2,hb.l,)
def aLr:∀ (rs:List Rw) (M:List Nat),fL (rs.map Rw.d) (M.map nD)=(rs.zip M).map λ q=>yAv [q.1.d,nD q.2]
 |[],M=>by cases M<;>rfl|r::rs,[]=>rfl
 |r::rs,y::M=>by
   have:=aLr rs M;simp only[yAf,yDt,fL,this]
def aLu:∀ (as bs:List Rw),fL (as.map Rw.d) (bs.map Rw.d)=(as.zip bs).map λ q=>yAv [q.1.d,q.2.d]
 |[],bs=>by cases bs<;>rfl|r::as,[]=>rfl
 |r::as,y::bs=>by
   have:=aLu as bs;simp only[yAf,yDt,fL,this]
def aXp{rs:List Rw}{M:List Nat}{o:D}(hl:↑rs<=100){c0 c1 c3 c5 c6 c7 c8 c9 c10 c11 c12 c13:Option W}(S:aC):lv C aJn [c0,c1,qz (.d (rs<*o)),c3,qz (.d (M*>nD)),c5,c6,c7,c8,c9,c10,c11,c12,c13] S=qz ((((rs.zip M).filter λ q=>decide (0<q.2)).map (·.1)).map Rw.d,S):=by
 have:=@uP [c0,c1,qz (.d (rs<*o)),c3,qz (.d (M*>nD)),c5,c6,c7,c8,c9,c10,c11,c12,c13] S S _ (.many [12,13]) (lv C (.zip (.ix (.var 2) (.int 0)) (.var 4))) (tv C (.cmp .Gt (.var 13) (.int 0))) (ev C (.var 12)) (λ q:Rw×Nat=>yAv [q.1.d,nD q.2]) (λ q=>q.1.d) (λ q=>decide (0<q.2)) (rs.zip M) (by
  rw[<- aLr];rfl) (by rw[yEx,zx];omega) λ q hq=>⟨_,rfl,λ S'=>bN (aD rfl) bG (by
  show aV .Gt (.int ((q.2:Nat):Int)) (.int 0)=_;rw[iY];congr 2;exact decide_eq_decide.mpr ()),λ _ S'=>rfl⟩
 rw[yBv];exact this
def aJH(l:List Rw)(hl:↑l<=1000)(i:Nat)(env:aX)(hi:env[i]?=qz (qz (.d (.list (l.map Rw.d)))))(hn:↑env=14)(S:aC):lv C (.comp (.ix (.var 12) (.int 0)) (.one 12) (.it (.var i)) .no) env S=qz (l.map (λ q=>yCb q.wd.s),S):=by
 refine @sF _ _ _ _ (.one 12) (lv C (.it (.var i))) (ev C (.ix (.var 12) (.int 0))) Rw.d (λ q=>yCb q.wd.s) l ?_ (by rw[zx];omega) λ r hr=>(_,rfl,λ S'=>?_,)
 .show iE (ev C (.var i)) env S=_;unfold iE;rw[show ev C (.var i) env S=qz (.d (.list (l.map Rw.d)),S) from aD hi];rfl
 .have hv:((clr [12] env).set 12 (qz (.d r.d)))[12]?=qz (qz (W.d r.d)):=by rw[yAq (by unfold clr;simp[hn])]
  exact bY (aD hv) bG rfl (nB r)
def aVJ{P:Rw->Rw->Prop}(h:PySem.Paired P as bs):∀ q∈bs.zip as,P q.2 q.1:=by
 induction h with
 |nil=>exact λ q z=>nomatch z
 |cons a t ih=>
   intro q z;rw[yDt] at z;rcases List.mem_cons.mp z with rfl|z
   .exact a
   .exact ih q z
def aZb(r:Rw):aV .In (.str r.wd.s) (.tuple [.str "cut",.str "wide",.str "sign"])=qz (.bool (fU r)):=by let(a,w,l):=r;cases a<;>kernel_rfl
def aXk(a:Wd):aV .NotEq (.str a.s) (.str "in")=qz (.bool (decide (a≠.in))):=by cases a<;>kernel_rfl
def aYL{Q:List Rw}{o:D}{c0 c1 c2 c4 c5 c6 c7 c8 c9 c10 c11 c12 c13:Option W}{S:aC}(hl:↑Q<=300):lv C aJz [c0,c1,c2,qz (.d (Q<*o)),c4,c5,c6,c7,c8,c9,c10,c11,c12,c13] S=qz ((Q.filter fU).map Rw.d,S):=
 @uP _ _ _ _ (.one 12) (lv C (.it (.ix (.var 3) (.int 0)))) (tv C (.cmp .In (.ix (.var 12) (.int 0)) (.tup (.cons (.str "cut") (.cons (.str "wide") (.cons (.str "sign") .nil)))))) (ev C (.var 12)) Rw.d Rw.d fU Q rfl (by rw[zx];omega) λ r _=>(_,rfl,λ S'=>bN (bY (aD rfl) bG rfl (nB r)) rfl (aZb r),λ _ S'=>rfl,)
def aYP{C:Calls}{bs:List Rw}(h:∀ q∈bs.zip as,q.1.w<=q.2.w):∃ a b,xs C (.loop (.many [10,11]) aDw aDl) [c0,c1,c2,c7,c4,qz (.d (.list (as.map Rw.d))),qz (.d (.list (bs.map Rw.d))),c8,c9,c10,c11,c12,c13,c13] S=qz (.nx [c0,c1,c2,c7,c4,qz (.d (.list (as.map Rw.d))),qz (.d (.list (bs.map Rw.d))),c8,c9,c10,a,b,c13,c13],S):=by
 let(aM,p,a,b,rfl):=aKc (t:=.many [10,11]) (fi:=lv C aDw) (fb:=xs C aDl) (env:=[c0,c1,c2,c7,c4,qz (.d (.list (as.map Rw.d))),qz (.d (.list (bs.map Rw.d))),c8,c9,c10,c11,c12,c13,c13]) (S:=S) (S1:=S) (ds:=(bs.zip as).map λ q=>yAv [q.1.d,q.2.d])
  (λ env=>∃ a b:Option W,env=[c0,c1,c2,c7,c4,qz (.d (.list (as.map Rw.d))),qz (.d (.list (bs.map Rw.d))),c8,c9,c10,a,b,c13,c13]) (by rw[<- aLu];rfl) (c11,c12,rfl,) (by
    rintro dd hd env ⟨a,b,rfl⟩;let(q,hq,rfl):=List.mem_map.mp hd;exact(_,_,rfl,bE (bN (bY (aD rfl) bG rfl (nI q.1)) (bY (aD rfl) bG rfl (nI q.2)) (by rw[iY,dqF (by have:=h q hq;omega)])) rfl,_,_,rfl,))
 exact(a,b,p,)
def aW4{C:Calls}{Q:List Rw}{o:D}{c0 c1 c2 c4 c5 c6 c7 c9 c10 c11 c12 c13:Option W}{S:aC}{L:List Nat}(hl:↑Q<=300)(h:∀ (n:Nat) r,Q[n]?=qz r->r.wd≠.in->n∈L):∃ a,xs C (.loop (.one 9) aDd aDt) [c0,c1,c2,qz (.d (Q<*o)),c4,c5,c6,c7,qz (.d (.list (L.map nD))),c9,c10,c11,c12,c13] S=qz (.nx [c0,c1,c2,qz (.d (Q<*o)),c4,c5,c6,c7,qz (.d (.list (L.map nD))),a,c10,c11,c12,c13],S):=by
 let(aM,p,a,rfl):=aKc (t:=.one 9) (fi:=lv C aDd) (fb:=xs C aDt) (env:=[c0,c1,c2,qz (.d (Q<*o)),c4,c5,c6,c7,qz (.d (.list (L.map nD))),c9,c10,c11,c12,c13]) (S:=S) (S1:=S) (ds:=(yBw ↑Q).map λ k=>yAo (k:Nat))
  (λ env=>∃ a:Option W,env=[c0,c1,c2,qz (.d (Q<*o)),c4,c5,c6,c7,qz (.d (.list (L.map nD))),a,c10,c11,c12,c13]) (zO (w:=↑Q) (fH (aH (bY (aD rfl) bG rfl rfl) aQ) (eX gT gC) (by
    show qz (yAo (↑(Q.map Rw.d):Nat))=_;rw[yAd])) ()) (c9,rfl,) (by
    rintro dd hd env ⟨a,rfl⟩;let(n,hn,rfl):=List.mem_map.mp hd;have hn:=List.mem_range.mp hn;have hr:Q[n]?=qz Q[n]:=yAa hn;generalize Q[n]=r at hr;have e:=aXk r.wd;have i2:bD (Q*>Rw.d) (.int n)=qz r.d:=iW (by rw[yAg,hr];rfl);refine(_,_,rfl,bE (oP (bN (bY (bY (bY (aD rfl) bG rfl rfl) (aD rfl) rfl i2) bG rfl (nB r)) rfl e) ?_) rfl,_,rfl,);by_cases c:r.wd=.in
    .rw[dqF (λ z=>z c)];rfl
    .rw[dqT c];exact bN (aD rfl) (aD rfl) (aS5 n L (h n r hr c)))
 exact(a,p,)
def aVc(d:Nat)(ns:List Int)(h1:↑ns<=63):∃ S',cl fns (d+11) 81 [.d (.list (ns.map yAo))] []=qz (.d (.bool true),S'):=by
 obtain⟨most,hm,em⟩:∃ most:Nat,most<=30/\(1:Int)+(if (24:Int)<((↑ns:Nat):Int) then (24:Int) else ((↑ns:Nat):Int))=((most:Nat):Int):=by
  by_cases c:(24:Int)<((↑ns:Nat):Int)
  .exact(25,by omega,by rw[if_pos c];rfl,)
  .exact(1+↑ns,by omega,by rw[if_neg c];omega,)
 let(rs,aE,k,x,ok,h0,l0,hk,ho,hol,e):=aWd (d+4) most ns hm 0 0 ();let(Y,M,F,Q,os,c):=aQi d ok l0 ho hol (qz (cN ns k x));let(YY,eN):=c.eN;have W:=c.w;have lq:=c.lq;have pq:=aGT (d+8) Q (os*>nD) (aRy W (aCY ok)) () [qz (cN ns k x)];have pr:=aQg (d+8) rs (aE*>nD) ok () [qz (cN ns k x)];have gt:aV .Gt (.int ((Q.map (fW (Q.map (·.w)))).sum:Nat)) (.int ((rs.map (fW (~~~rs))).sum:Nat))=qz (.bool false):=by
  have:=aRb W;rw[iY,dqF ()]
 have w1:=aHA (d+9) (((rs.zip M).filter λ q=>decide (0<q.2)).map (·.1)) false (by
  have:=yCy (λ q:Rw×Nat=>decide (0<q.2)) (rs.zip M)
  rw[yEx] at this;rw[yAd];omega) [qz (cN ns k x)]
 have la:↑((eT rs Y ↑rs).filter bQ)<=1000:=by
  rw[c.as];refine xAh (yCy _ _) ?_;have:=yCy (λ q:Rw×Nat=>decide (0<q.2)) (rs.zip M);rw[yEx] at this;rw[yAd];omega
 have lb:↑(Q.filter bQ)<=1000:=xAh (yCy _ _) ();have lt:↑(Q.filter fU)<=300:=xAh (yCy _ _) ();rw[<- c.as,if_neg yAu] at w1;have w2:=aHA (d+9) Q true () [qz (cN ns k x)];rw[if_pos rfl] at w2;have us:=aR1 (d+8) Q os () c.lo (qz (cN ns k x));have ws:=aQY W;have pz:∀ q∈(Q.filter bQ).zip ((eT rs Y ↑rs).filter bQ),q.1.w<=q.2.w:=λ q hq=>(aVJ W.wk q hq).w
 have nw:aV .NotEq (.list ((Q.filter bQ).map λ q=>yCb q.wd.s)) (.list (((eT rs Y ↑rs).filter bQ).map λ q=>yCb q.wd.s))=qz (.bool false):=by
  rw[ws];have:=aTO (((eT rs Y ↑rs).filter bQ).map (·.wd));rw[yBv] at this;exact this
 have uu:∀ (n:Nat) r,Q[n]?=qz r->r.wd≠.in->n∈os++Q.flatMap bL:=λ n r h2 h3=>by
  rcases W.u n r h2 h3 with h|⟨m,q,h4,h5⟩
  .exact yGu _ h
  .exact xAq _ (List.mem_flatMap.mpr (q,xAk h4,h5,))
 have ea:ev (d<$>10) (.bin .Add (.int 1) (.blt .mn (.cons (.blt .len (.cons (.var 0) .nil)) (.cons (.int 24) .nil)))) [qz (.d (.list (ns.map yAo))),#[0],qx,qx,qx,qx,qx,qx,qx,qx,qx,qx,qx,qx] [qz (cN ns 0 0)]=qz (.d (.int most),[qz (cN ns 0 0)]):=by
  erw[0,lS,lQ,kL,yAd,eC,em]
 have s0:xs (d<$>10) (fX aBy) [qz (.d (.list (ns.map yAo))),qx,qx,qx,qx,qx,qx,qx,qx,qx,qx,qx,qx,qx] []=qz (.nx [qz (.d (.list (ns.map yAo))),#[0],qx,qx,qx,qx,qx,qx,qx,qx,qx,qx,qx,qx],[qz (cN ns 0 0)]):=by
  erw[2,fX,aBy,kM]
 have nl:aV .NotEq (.int (↑((Q.filter fU).map gN):Nat)) (.int (↑((Q.filter fU).map Rw.d):Nat))=qz (.bool false):=by
  rw[yAd,yAd,oR];simp
 let(a,b,p1):=@aYP _ (qz (.d (.list (ns.map yAo)))) (#[0]) (qz (.d (rs<*(aE*>nD)))) (qz (.d (Q<*(os*>nD)))) (qz (.d (M*>nD))) qx qx qx qx qx qx [qz (cN ns k x)] (d<$>10) _ pz;let(a',p0):=@aW4 (d<$>10) _ (os*>nD) (qz (.d (.list (ns.map yAo)))) (#[0]) (qz (.d (rs<*(aE*>nD)))) (qz (.d (M*>nD))) (qz (.d (.list (((eT rs Y ↑rs).filter bQ).map Rw.d)))) (qz (.d (.list ((Q.filter bQ).map Rw.d)))) (qz (.d (.list ((Q.filter fU).map Rw.d)))) qx a b qx qx [qz (cN ns k x)] _ lq uu;have full:xs (d<$>10) aBy [qz (.d (.list (ns.map yAo))),qx,qx,qx,qx,qx,qx,qx,qx,qx,qx,qx,qx,qx] []=qz (.rt (.d (.bool true)),[qz (cN ns k x)]):=by
  refine eE s0 (bP (bM (aH (aD rfl) (aH ea aQ)) e) rfl (bP (bY (bM (aH (aD rfl) aQ) eN) bG rfl rfl) rfl (bE (bN (bM (aH (aD rfl) aQ) pq) (bM (aH (aD rfl) aQ) pr) gt) (bP (bM (aH (aD rfl) (aH (bM (aH (aD rfl) aQ) c.eF) aQ)) c.eA) rfl (bP (bM (aH (hV (aXp () _)) aQ) w1) rfl (bP (bM (aH (bY (aD rfl) bG rfl rfl) aQ) w2) rfl (bE (bN (hV (aJH _ lb 6 _ rfl rfl _)) (hV (aJH _ la 5 _ rfl rfl _)) nw) (eE p1 (eE (aAZ (aYL lq) rfl) (bE (bN (aWx (aD rfl) rfl (aKk _) (aZs W.tr) (by rw[yAd];exact lt)) (fH (aH (aD rfl) aQ) (eX gT gC) rfl) nl) (bP (bM (aH (aD rfl) aQ) us) rfl (eE p0 (bH aMA)))))))))))))
 exact([],dN rfl rfl rfl full rfl,)
def main(ns:List Int)(h1:↑ns<=63)(h2:∀ i∈ns,yAn i<=1048576):∃ call S',aF fns 12 81=qz (1,call)/\call [.d (.list (ns.map yAo))] []=qz (.d (.bool true),S'):=by let(S',e):=aVc 1 ns h1;exact aS0 (d:=11) rfl rfl e
def oks:∀ F∈fns,aBJ fns tbs F=true:=by decide +kernel
def bok:∀ F∈fns,aEo F=true:=by decide +kernel
def binds:∀ F∈fns,vC F:=λ F hF=>aHx (bok F hF)
def cok:∀ c,tbs.cl=qz c->yG c=true/\vC c.fn:=λ c h=>by cases h;exact(by decide +kernel,aHx (by decide +kernel),)
end K76
namespace PySem.W.Fast
def tw6085202533946804377:=0
def tw2417660679667584785:=0
def tw3364241893972858730:=0
def tw5918152391892375364:=0
def tw4469417958182691948:=0
def tw14267066529499119214:=0
def tw16723646499913181852:=0
def tw15446283829237677411:=0
def tw7228036364037237161:=0
def tw14967205602245600518:=0
def tw17478032093661080958:=0
def tw3813316022155385540:=0
def tw17302517896629855392:=0
def tw5028293945047970935:=0
def tw12347168560022944126:=0
def tw2270599612570943969:=0
def tw4586191817699903063:=0
def tw6067402671363638483:=0
def tw9319462324622713954:=0
def tw12375382463797909825:=0
def tw3399627363276739598:=0
def tw15004397504908946654:=0
def tw16586754642362735622:=0
def tw10447433067849990942:=0
def tw2130991570030408943:=0
def tw14986924057250352250:=0
def tw9274839670355866978:=0
def tw12175362504839271993:=0
def tw18101749433611568808:=0
def tw14841083242719236643:=0
def tw5431878739691566621:=0
def tw11721748180817946600:=0
def tw17046397201511911584:=0
def tw827816129052633503:=0
def tw2365579443382887481:=0
def tw10730438929105482672:=0
def tw1935590785743629835:=0
def tw15205882320836459725:=0
def tw13586855758934156034:=0
def tw13075183864017485864:=0
def tw16648352096522557650:=0
def tw18049241384381279951:=0
def tw9432965805864148773:=0
def tw14343272490356971856:=0
def tw15285047391951839725:=0
def tw17951549885145025266:=0
def tw6000581534014219661:=0
def tw8861469557148833479:=0
def tw2827473198733283301:=0
def tw5254121239413643441:=0
def tw10284838087849702149:=0
def tw15226690627910274190:=0
def tw10992910373404369286:=0
def tw9832406205886293145:=0
def tw10242879939554968395:=0
def tw11214735269722958427:=0
def tw8726096682764103560:=0
def tw11355101728877289265:=0
def tw5175177756843498251:=0
def tw3529928999168903824:=0
def tw7651363218074492014:=0
def tw8688726866840691860:=0
def tw13947062934953809872:=0
def tw5399018053287744846:=0
def tw2013472019590640874:=0
def tw4504127613087913556:=0
def tw13279273103541770223:=0
def tw10158951973104435583:=0
def tw13608684980054743153:=0
def tw14095841145014859471:=0
def tw14827759167440168252:=0
def tw10882067380640214888:=0
def tw11988011184323731564:=0
def tw2428875892669249636:=0
def tw101556853103474298:=0
def tw13232733845301153120:=0
def tw13725285510433565841:=0
def tw64199420755324156:=0
def tw6595492385953658044:=0
def tw2567806361005497740:=0
def tw4748350106460840055:=0
def tw13081532587738049101:=0
def tw17135397963479796318:=0
def tw8684275306458107657:=0
def tw16693793178922015940:=0
def tw1263272616820143396:=0
def tw7608494363102710000:=0
def tw9051791915437574173:=0
def tw6343709781976563846:=0
def tw11671306644663883456:=0
def tw13368588885211966261:=0
def tw9203979031643376949:=0
def tw1219440423610107779:=0
def tw3866760278490205755:=0
def tw17846060016201206116:=0
def tw13118997429818209149:=0
def tw15780648455742112821:=0
def tw15214957288707698829:=0
def tw754577421714280591:=0
def tw15666589335589671287:=0
def tw4832653612878150863:=0
def tw6017056950594715091:=0
def tw14306144723263962896:=0
def tw7406685500952378175:=0
def tw8613346514824275627:=0
def tw15878033328838822261:=0
def tw13403176646922249519:=0
def tw9787988491203512754:=0
def tw10201218905247905362:=0
def tw10123503277546920712:=0
def tw2019730534517528451:=0
def tw10001630761089723230:=0
def tw1046261277856313941:=0
def tw756969039269575429:=0
def tw16024990782437508508:=0
def tw440110269989016183:=0
def tw16070861714430509794:=0
def tw11577506918056690615:=0
def tw10095025476168264750:=0
def tw15969029860378390964:=0
def tw7775620100721327325:=0
def tw331959673086328009:=0
def tw17898318406126866983:=0
def tw3515837649517811214:=0
def tw3498962431847123727:=0
def tw4984354318038116304:=0
def tw3504888409617027047:=0
def tw12525942691404844353:=0
def tw5458319717321804513:=0
def tw11475556657887183837:=0
def tw1551895762710248435:=0
def tw561317673008132596:=0
def tw6563872402245968624:=0
def tw6168162841700813253:=0
def tw371182648353172316:=0
def tw12422036938694128595:=0
def tw6393935229453244018:=0
def tw27266639452077788:=0
def tw9118169812353976451:=0
def tw14052970665919035469:=0
def tw10801765812644060487:=0
def tw14849270358506416199:=0
def tw9522644798479053156:=0
def tw8282014462494174597:=0
def tw1574647987151697523:=0
def tw7410382315691772537:=0
def tw12632024027218261868:=0
def tw6303306267209737283:=0
def tw15161957037009945958:=0
def tw11290717213742349987:=0
def tw6277708033757056407:=0
def tw7060501963965472954:=0
def tw8867861593895773160:=0
def tw14487085950640243944:=0
def tw15438207280498569109:=0
def tw11496426770775413244:=0
def tw9742707044038836585:=0
def tw815570906015285669:=0
def tw7869736580493829546:=0
def tw2130912469623441143:=0
def tw7318695676530203871:=0
def tw7991907015087042863:=0
def tw17823090766357911720:=0
def tw10012999060281938285:=0
def tw18332415435497598584:=0
def tw110441539291158965:=0
def tw8097168428914905729:=0
def tw15617204163753679737:=0
def tw17136308979929176281:=0
def tw315352138405062708:=0
def tw14434531331777508822:=0
def tw13363205285756874064:=0
def tw1222659862063185191:=0
def tw8005351010901153749:=0
def tw16924044572570721923:=0
def tw16219309572280812820:=0
def tw8514333678222700951:=0
def tw10773278942349630125:=0
def tw6704408677265941810:=0
def tw15332067804234632828:=0
def tw1681035818489912793:=0
def tw6814743100926801583:=0
def tw9025454173430988433:=0
def tw7342711907717738020:=0
def tw18212102749811012653:=0
def tw10685602889186619394:=0
def tw1362523938667265204:=0
def tw8793760868363558913:=0
def tw16643254148365481724:=0
def tw3388932336288652184:=0
def tw17669762183833944930:=0
def tw5342711672944627143:=0
def tw9930883159163715897:=0
def tw8910459377607890794:=0
def tw14847208076338513615:=0
def tw13558870118527008466:=0
def tw4447541916562372246:=0
def tw6683928865514681165:=0
def tw1120748869171202088:=0
def tw2601034386366438264:=0
def tw12647076714993430289:=0
def tw17216672213825804438:=0
def tw11878734296075728100:=0
def tw67920367398484612:=0
def tw11018170844339174838:=0
def tw12524519036936512820:=0
def tw9153744001328105244:=0
def tw14402003165595475329:=0
def tw12685740055460216523:=0
def tw13816643426587012913:=0
def tw1629738242490550649:=0
def tw12957903891045577969:=0
def tw11470933399584402803:=0
def tw18422988218739622080:=0
def tw18136046907867961353:=0
def tw15690013421006247018:=0
def tw17599854426109705122:=0
def tw1538956367813915190:=0
def tw8585948115036393418:=0
def tw2518692973661108646:=0
def tw18354641476123353667:=0
def tw3430738627181311403:=0
def tw7548327550334646882:=0
def tw15109413115371734892:=0
def tw4844034412225653408:=0
def tw4627977999154890799:=0
def tw12807085879396439270:=0
def tw4293110500990332196:=0
def tw11056919601391629018:=0
def tw9655127596406114391:=0
def tw10309987953931974570:=0
def tw15628776539969895207:=0
def tw13460312626443485464:=0
def tw3854722208618702:=0
def tw11127371882867067221:=0
def tw8760911876849057068:=0
def tw17376041051873250487:=0
def tw6310176380292337541:=0
def tw9866175334454808369:=0
def tw5556035439906003077:=0
def tw9484965117645367525:=0
def tw2193510475385880231:=0
def tw14911700993116709789:=0
def tw12824990269194059612:=0
def tw14203750852588610652:=0
def tw17104436229557173719:=0
def tw1994226407956875069:=0
def tw2683895732948713149:=0
def tw16839232316917707960:=0
def tw8625594058800443158:=0
def tw5851457047379044299:=0
def tw15858677920614682167:=0
def tw890970691020181029:=0
def tw1527135489125770579:=0
def tw6119220732765617070:=0
def tw6573550331041595237:=0
def tw4129789503508257943:=0
def tw11763128987956733737:=0
def tw9939913455468136708:=0
def tw7534772463929195278:=0
def tw12309401889110688459:=0
def tw7274549791080559300:=0
def tw18077046133487787261:=0
def tw14273912639243695350:=0
def tw1335690748701223272:=0
def tw5698934425116019441:=0
def tw17390799079135323264:=0
def tw15759593575906977201:=0
def tw12334582819642424622:=0
def tw4647915206044440093:=0
def tw11240860768261852305:=0
def tw16272667721347543275:=0
def tw2033966118766838951:=0
def tw12418266625567147356:=0
def tw10559241828581488853:=0
def tw17094589620564057442:=0
def tw10790007124169186522:=0
def tw8597742123921671954:=0
def tw10577542834443397673:=0
def tw6585603829365606487:=0
def tw9268489134153074380:=0
def tw5359411763735219368:=0
def tw9695510561927606763:=0
def tw6066083584466220635:=0
def tw11291875773986232994:=0
def tw7448252854675420060:=0
def tw12684553891310201071:=0
def tw11111654960879634419:=0
def tw2634454725851788286:=0
def tw1104094869584142309:=0
def tw12074965532943161252:=0
def tw8291769103955226610:=0
def tw6116197429925438669:=0
def tw9774894622925769176:=0
def tw2204891143889920029:=0
def tw10234561831883671101:=0
def tw8130135932653282379:=0
def tw2136361924366650983:=0
def tw5158097075950829734:=0
def tw11480677822249495494:=0
def tw17303927442795306375:=0
def tw12318686914113203853:=0
def tw17055578240544029544:=0
def tw13768996692451452032:=0
def tw16639080368439056828:=0
def tw7934815972124392053:=0
def tw18184098636116845308:=0
def tw10816652829509119342:=0
def tw7608807624790006025:=0
end PySem.W.Fast
structure PySem.W.Fast:Prop where (tw18120665734185326595 tw5851740470228530913 tw9646181567103856209 tw15985071661212268867 tw9466745120780235945 tw7542224598409571223 tw11088707140647835902 tw13545917205047843182 tw9425363110589683857 tw14361108251775647089 tw7572225184295998508 tw10733860282030976200 tw6173621287397548232 tw18271482294473882310 tw13371467259549109263 tw2279612630038354285 tw6043106490754271431 tw12092488054924358644 tw10137339029918160001 tw1694565775182051468 tw1769021843546918050 tw17835472520955769987 tw13794968609870374625 tw9109314456358204222 tw4034277393606780372 tw3264294727066324026 tw7648555867052993087 tw17673551688120162620 tw66257656413660713 tw6608833486754931861 tw1194531911840241278 tw7148605723607833634 tw14950752171258403066 tw12868317504723769081 tw16443639636349867531 tw8250648678376429143 tw9235371254447288336 tw13246943221423768589 tw6214767773797572163 tw5423690944561302266 tw5604093726330409482 tw6678213029281972764 tw3414569095753085060 tw18037864666775330279 tw15997207302154491616 tw9234528595552229253 tw16564072985308948979 tw12543389015300756807 tw12174874493198426975 tw231401295343912209 tw13575098289379193755 tw2711272368217851859 tw14249295725827029789 tw12128749919658199698 tw2407410609523267332 tw7684521134308800829 tw10141790354144215969 tw7505197373196712803 tw12787698356982767013 tw15922081287362072433 tw13413552368467853535 tw14545674175223461259 tw8481276941153751900 tw17172270157370823189 tw925856422183093370 tw6841766052522128074 tw2242113235871239489 tw15601127086977141542 tw17644116550616818811 tw3351011217624733577 tw7871420201376402621 tw6812929097245246109 tw3772044368338767482 tw17496340230838202240 tw12477081636935187623 tw12967452037828442368 tw5373049344813676805 tw10017941678856961849 tw12341180259295030932 tw6922502805009152137 tw2900947537332711236 tw2538239391962415841 tw13452555984855153288 tw18294289322609846418 tw9158420844919571859 tw11430594715490110450 tw14158168642948503681 tw17198517884280248115 tw1441834345372265353 tw2377022849493123692:True)
set_option maxRecDepth 100000 in
set_option maxHeartbeats 0 in
theorem PySem.Challenge.cw_fewbits_k76_no_dearer_and_no_wider_holds : PySem.Challenge.rw_fewbits_k76_no_dearer_and_no_wider.Holds := by
 w_on;o_law;k_head;(case hw=>w_witness2)
 k_fill
 refine EV.law_of (l:=PySem.Challenge.rw_fewbits_k76_no_dearer_and_no_wider) K76.fns K76.tbs 81 12 _ "_law_script" rfl rfl (rfl,by decide,by decide,) (λ w h Y=>PySem.W.kIn_of Y) K76.oks K76.binds rfl rfl rfl rfl ?top K76.cok ?clt ?tbl ?cnl ?stl ?tbn K76.main
 case top=>
  intro w h KX F hF;simp only[K76.fns,yBg,yBb,or_false] at hF;rcases hF with rfl|rfl|rfl|rfl|rfl|rfl|rfl|rfl|rfl|rfl|rfl|rfl|rfl|rfl|rfl|rfl|rfl|rfl|rfl|rfl|rfl|rfl|rfl|rfl|rfl|rfl|rfl|rfl|rfl|rfl|rfl|rfl|rfl|rfl|rfl|rfl|rfl|rfl|rfl|rfl|rfl|rfl|rfl|rfl|rfl|rfl|rfl|rfl|rfl|rfl|rfl|rfl|rfl|rfl|rfl|rfl|rfl|rfl|rfl|rfl|rfl|rfl|rfl|rfl|rfl|rfl|rfl|rfl|rfl|rfl|rfl|rfl|rfl|rfl|rfl|rfl|rfl|rfl|rfl|rfl|rfl|rfl
  all_goals
   first
   | (refine' .inl (EV.top_mk ?a1 ?l1 ?c1 ?k1 rfl)
      (case a1=>k_is)
      (case l1=>k_is)
      (case c1=>k_is)
      (case k1=>k_is))
   | (refine' .inr (EV.topm_mk ?a1 ?b1 ?b2 ?b3 ?b4 ?m1 ?m2 ?l1 ?c1 ?k1 rfl)
      (case a1=>k_is)
      (case m1=>k_is)
      (case l1=>k_is)
      (case b1=>k_is)
      (case b2=>k_is)
      (case b3=>k_is)
      (case b4=>k_is)
      (case m2=>k_is)
      (case c1=>k_is)
      (case k1=>k_is))
 case clt=>
  intro w h KX c hc;cases hc
  refine' EV.topc_mk ?a1 ?b1 ?b2 ?b3 ?b4 ?n1 ?m1 ?m2 ?m3 ?m4 ?l1 ?c1 ?k1
  (case a1=>k_is)
  (case m2=>k_is)
  (case l1=>k_is)
  (case b1=>k_is)
  (case b2=>k_is)
  (case b3=>k_is)
  (case b4=>k_is)
  (case m1=>k_is)
  (case m3=>k_is)
  (case m4=>k_is)
  (case c1=>k_is)
  (case k1=>k_is)
  (case n1=>
    intro p hp;simp only[K76.cl_ini,yBg,yBb,or_false] at hp;rcases hp with rfl|rfl|rfl|rfl|rfl
    all_goals
     unfold L2.NoAttr
     k_is)
 case tbl=>
  intro w h KX t ht;simp only[K76.tbs,yBg,yBb,or_false] at ht;rcases ht with rfl
  all_goals
   refine' EV.tab_mk ?a1 ?l1 ?c1 ?s1
   (case a1=>k_is)
   (case l1=>k_is)
   (case c1=>(repeat' (first|exact True.intro|apply And.intro))<;>first|rfl|exact(_,rfl,))
   (case s1=>decide)
 case cnl=>
  intro w h KX t ht;simp only[K76.tbs,yBg,yBb,or_false] at ht;rcases ht with rfl|rfl|rfl|rfl|rfl|rfl|rfl|rfl
  all_goals
   refine' EV.con_mk ?a1 ?l1 ?z1 ?c1
   (case a1=>k_is)
   (case l1=>k_is)
   (case z1=>decide)
   (case c1=>(repeat' (first|exact True.intro|apply And.intro))<;>first|rfl|exact(_,rfl,))
 case stl=>
  intro w h KX t ht;cases ht
 case tbn=>
  intro w h KX x hx;simp only[EV.bltNames,yBg,yBb,or_false] at hx;rcases hx with rfl|rfl|rfl|rfl|rfl|rfl|rfl|rfl|rfl|rfl|rfl|rfl|rfl|rfl|rfl|rfl|rfl|rfl|rfl
  all_goals k_is
