import PyProof.Rows.All
import Wide.All
import OpenK.AllK
import Wide.FinOn
import Lean
import PyProof.EqAt
import PyProof.EqKinds
import PyProof.TupleCall
import PyProof.ListMulRoad
import PyProof.FactsAll.tuple
import PyProof.MaxThree
import PyProof.SeqI3
import PyProof.Draws
import PyProof.NeKinds
import PyProof.Rows.SortShell
import PyProof.ListRange
import PyProof.DictTable
import PyProof.Rows.Range3
import PyProof.ZipIter
import PyProof.FactsAll.range_2
import PyProof.Rows.SeqMore2
import PyProof.StrWalks
import PyProof.EnumMake
import PyProof.Rows.StrJoin2
import PyProof.Rows.StrNews
import PyProof.CallStr
import PyProof.DictRoads
import KE.KIntText
import PyProof.ToksMono
import PyProof.StrBlockG
import PyProof.StrBlock2
import PyProof.MeetsStr3
import PySem.Challenge.RW_fewbits_k95_whole_widths_of_chains
set_option compiler.extract_closed false
set_option genInjectivity false
set_option genSizeOf false
open Lean renaming mkAtom->mqA,Syntax->mq,mkNode->mqM
open Lean.Macro renaming throwUnsupported->mqF
private def mqO(l:List mq:=[]):mq:=Lean.mkNullNode l.toArray
private def mqJ(c:String)(l:List mq):mq:=Lean.mkNullNode (Lean.mkSepArray l.toArray (mqA c))
private def mqN(k:String)(l:List mq):mq:=mqM ("Lean.Parser."++k).toName l.toArray
private def mqI(f:String):mq:=Lean.mkIdent f.toName
private def mqE(f:mq)(l:List mq):=mqN "Term.app" [f,mqO l]
private def mqT(f:String):=mqE (mqI f)
private def mqD(f:String):=mqE (mqN "Term.dotIdent" [mqA ".",mqI f])
private def mqC:=mqN "Tactic.optConfig" [mqO]
private def mqV(n:String)(l:=[mqC]):=mqN ("Tactic."++n) (mqA n::l)
private def mqQ(t:List mq):=mqN "Tactic.tacticSeq" [mqN "Tactic.tacticSeq1Indented" [mqJ ";" t]]
private def mqB(t:mq):=mqN "Term.byTactic" [mqA "by",mqQ [t]]
private def mqG(p:List mq)(e:mq):=mqV "obtain" [mqO [mqN "Tactic.rcasesPatMed" [mqO p]],mqO,mqO [mqA ":=",mqO [e]]]
private def mqP:Nat->mq->mq
 |0,s=>s
 |n+1,s=>if s.isIdent then mqN "Tactic.rcasesPat.one" [s] else if s.getNumArgs<2 then mqN "Tactic.rcasesPat.ignore" [s[0]] else mqN "Tactic.rcasesPat.tuple" [mqA "⟨",mqJ "," ((if s[0].getNumArgs>0 then s[1][0]::s[1][2].getSepArgs.toList else s[1].getSepArgs.toList).map λ x=>mqN "Tactic.rcasesPatLo" [mqN "Tactic.rcasesPatMed" [mqO [mqP n x]],mqO]),mqA "⟩"]
local macro_rules(kind:=Lean.Parser.Term.tuple)|s=>if s[1].getNumArgs>0&&s[1][2].getNumArgs%2=0 then return mqN "Term.anonymousCtor" [mqA "⟨",mqJ "," (s[1][0]::s[1][2].getSepArgs.toList),mqA "⟩"] else mqF
local macro_rules(kind:=coeNotation)|s=>return mqT "List.length" [s[1]]
local macro_rules(kind:=Lean.Parser.Term.paren)|s=>if s[1].getKind==`Lean.Parser.Term.cdot then return mqB (mqV "decide") else if s[1][1].getKind==`Lean.Parser.Term.hole then return mqB (mqV "omega") else mqF
local macro_rules(kind:=Lean.Parser.Term.typeAscription)|s=>if s[3].getNumArgs=0 then return mqB (mqV "simpa" [mqO,mqO,mqN "Tactic.simpaArgsRest" [mqC,mqO,mqO,mqO,mqO [mqA "using",s[1]]]]) else mqF
local macro_rules(kind:=«term__[_]_!»)|s=>return mqT "Nat.testBit" [s[0],s[3]]
local macro_rules(kind:=Lean.Parser.Tactic.tacticLet__)|s=>return mqG [mqP 9 s[2][0][0]] s[2][0][4]
local macro_rules(kind:=Lean.Parser.Command.declaration)|s=>if s[1].getKind==`Lean.Parser.Command.definition&&s[0].getArgs.all (·.getNumArgs==0) then return s.setArg 0 (s[0].setArg 4 (mqO [mqN "Command.noncomputable" [mqA "noncomputable"]])) else mqF
open List renaming length_map->yAa,getElem?_eq_getElem->yAb,getElem?_append_right->yAd,replicate->yAf,getElem?_map->yAg,take_length->yAi,length_append->yAj,map_append->yAk,size_toArray->yAl,map_cons->yAm,range->yAo,append_assoc->yAq,length_cons->yAr,length_range->yAs,getElem?_set_ne->yAw,append_nil->yAx,map_map->yAz,getElem?_set_self->yBc,filter_append->yBd,replicate_succ->yBe,length_take->yBg,length_replicate->yBj,length_set->yBn,getElem?_cons_succ->yBp,length_nil->yBu,getElem?_cons_zero->yBw,lookup_cons->yCb,mem_cons->yCc,not_mem_nil->yCd,getElem?_replicate->yCg,getElem?_of_mem->yCh,filter_cons->yCj,take_of_length_le->yCm,filterMap_cons->yCn,range'->yCp,map_congr_left->yCq,drop_eq_getElem_cons->yCt,find?_cons->yCw,getElem?_eq_none->yCx,getElem?_take_of_lt->yCz,set_eq_of_length_le->yDb,set_cons_zero->yDc,foldl_cons->yDm,set_cons_succ->yDx,getElem?_range->yEg,cons_append->yEi,map_replicate->yEo,map_nil->yEq,nil_append->yEu,flatten_cons->yEy,drop_zero->yFc,length_drop->yFg,getD_cons_zero->yFk,any_cons->yFr,getElem?_drop->yFw,take_succ_eq_append_getElem->yFx,length->yGc,take_left->yGf,length_singleton->yGg,drop_length->yGj,sum_cons->yGm,of_mem_zip->yGp,getElem_of_mem->yGs,replicate_zero->yGu,getD_cons_succ->yGv,zip_cons_cons->yHf,mem_range'_1->yHs,take->yIe
open Nat renaming le_refl->yAc,le_of_ble_eq_true->yAe,pow_le_pow_right->yAh,mod_two_eq_zero_or_one->yAv,testBit_and->yAy,sub_self->yBb,min_le_left->yBh,testBit_div_two_pow->yBk,le_max_left->yBq,testBit_mod_two_pow->yBx,add_sub_cancel_left->yBy,zero_add->yBz,not_lt_zero->yCa,zero_testBit->yCk,or_lt_two_pow->yCr,lt_irrefl->yCs,and_two_pow_sub_one_eq_mod->yCy,lt_succ_self->yDd,min_eq_right->yDe,testBit_succ->yDf,add_le_add_left->yDq,min_eq_left->yDr,testBit_zero->yDu,sub_le->yDv,xor_lt_two_pow->yDw,mod_mod_of_dvd->yDy,lt_pow_two_of_testBit->yEb,pow_lt_pow_right->yEc,pow_dvd_pow->yEd,le_of_lt->yEe,mod_eq_of_lt->yEk,zero_le->yEp,and_le_left->yEv,toNat_testBit->yEz,reduceAdd->yFa,mul_le_mul->yFe,min_le_right->yFf,le_add_right->yFh,reduceLeDiff->yFi,sub_le_sub_left->yFj,pow_succ->yFn,add_zero->yFo,testBit_eq_decide_div_mod_eq->yFy,mul_comm->yGh,sub_sub_self->yGk,le_succ->yGo,div_add_mod->yGt,ne_of_gt->yHa,lt_trans->yHd,sub_zero->yHe,add_sub_cancel->yHg,add_comm->yHh,zero_and->yHj,add_assoc->yHv,succ_ne_zero->yHx,not_le_of_lt->yHy,le_of_eq->yIc,lt_or_ge->yId,le_total->yIg,zero_xor->yIi
open Int renaming toNat_natCast->yAu,natCast_emod->yEj,natCast_nonneg->yEn,natCast_mul->yEw,mul_le_mul_of_nonneg_right->yGi,emod_lt_of_pos->yHi,le_trans->yIf
open Bool renaming false_eq_true->yBa,true_and->yBf,false_ne_true->yBi,false_and->yBl,and_eq_true->yBv,and_false->yCu,and_true->yDh,or_eq_true->yDo,eq_iff_iff->yEs,or_false->yFq,not_true->yFv,not_false->yHo
open Option renaming bind->yDn,bind_some->yDt,map_some->yEt,isSome_map->yHq,getD_none->yHw
open PySem.Builtin.Range renaming rangeSize->yEf,small->yIj
open PySem.Builtin.SmallTypes renaming nextOf->yBt,ownedTupleIsFree->yDp,ownedTupleHandOut->yFd,iterAll->yGz
open PySem.Builtin.Int renaming intBits->yAp
open PyProof.Rows renaming callWith_type1->yBm,slot_tuple_getitem->yCo
open PySem.Heap renaming get?_update_other->yCl,get?_update_self->yCv,SameBut->yDi,size_push->yGe
open PySem.PyData renaming tuple->yAn,int->yAt,str->yDk,eqv->yEm,list->yGd,canLayAll0->yHr,depthAll->yIh
open PySem.W renaming findIn->yBo,keepIn->yBs,emptyDict->yCe,fnOf->yCf,nsIn->yCi,codeIn->yDj,instObj->yDl,plainGet->yEh,hasDictIn->yEx,plainOver->yGb,mg_of->yGl,plainGet_of->yGn,isFn->yHb,callWith_K->yHc,lookIn->yHl,methodObj->yHp,takerIn->yIa,makesIn->yIb
open PySem.F renaming plain_extend_loop->yEa,slot_int_rmul->yEr,args_tuple_add_2->yFl,args_tuple_mul_2->yFm,entry_tuple_add->yFp,entry_tuple_mul->yFs,slot_list_index->yFt,plainAttrs_list->yFu,slot_tuple_add->yFz,slot_tuple_mul->yGa,slot_int_bit_length->yGr,entry_extend_loop->yHm,args_list_index_2->yHn
open PySem.Builtin renaming bitNot->yBr,divisionGoesByPylong->yDg,bitAnd->yEl,bitXor->yHk,bitOr->yHu
open PySem.Builtin.Slice renaming slicePlaces->yDz,sliceAdjust->yFb,sliceApplied->yGw
open PySem.Builtin.Tuple renaming tupleExact->yDa,tupleItemsOf->yGx,tupleTooMany->yGy
open PySem.Builtin.List renaming listExtendWith->yDs,listSameRef->yHt,listItems->yHz
open Array renaming length_toList->yGq
open PySem renaming Value->qj,Shared->qy,Addr->qk,Expr->qu,sizeLine->qo,wpAny->zq,starEach->zx,sizeLine_eq->zj,Program->zv,World->zw,Around->zy,Scope->zk,mainGlobals->zu,binaryOp->zo,wpAny_holding->xq,assignEach->xz,Stmt->xx,wpAny_field->xj,behindInMarks->xw,wpAny_newObj_type->xy,compareOp->xk,wpAny_Call_Name_kw->xu,wpAny_passesOwn->xo,foldedSetIterable->jq,wpAny_truthy_bool->jz,call_meets->jx,CmpOp->jj,wpAny_setField_rec->jv,Operator->jw,NameKind->jy,wpAny_seqItems->ju,codeAny->jo,wpAny_call_entry->vq,FuncData->vz,wpAny_updateSeq->vv,sliceBounds->vw,bootBuiltins->vy,wpAny_pyNext_list_item->vk,wpAny_pyIter_list->wq,wpAny_pyNext_list_end->wz,letOwnedTupleGo->wj,shortFactorBits->ww,wpAny_specialOf->wu,UnaryOp->yq,typeIs_int->yz,wpAny_rule->yx,wpAny_binaryOp_repeat_ref->yj,swappedStores->yv,wpAny_standAt->yw,wpAny_pyIter_zip->yy,rawInt->yk,pyNext->yu,wpAny_pyIter_rangeiter->kq,IsRangeIter->kz
open Option renaming some->qz,none->qx
abbrev wB:=@PySem.wpAny_bind
abbrev wP:=@PySem.wpAny_pure
abbrev hpS:=@PySem.Heap.get?_push_of_some
def gIm {α:Type _}{l:List α}{i:Nat}{a:α}:l[i]?=qz a->∃ h,l[i]=a:=List.getElem?_eq_some_iff.mp
abbrev dqF:=@decide_eq_false
abbrev dqT:=@decide_eq_true
abbrev oqT:=@of_decide_eq_true
abbrev FrG:=PySem.W.Frag
abbrev xAa:=@PySem.Heap.lt_size
abbrev xAb:=@Nat.lt_of_lt_of_le
abbrev xAc:=@List.mem_cons_self
abbrev xAd:=@PySem.Heap.get?_push_size
abbrev xAe:=@Nat.two_pow_pos
abbrev xAf:=@List.mem_cons_of_mem
abbrev xAg:=@List.getD_eq_getElem?_getD
abbrev xAh:=@Nat.le_trans
abbrev xAi:=@Nat.lt_of_le_of_lt
abbrev xAj:=@Nat.ne_of_lt
abbrev xAk:=@List.mem_of_getElem?
abbrev xAl:=@Nat.eq_of_testBit_eq
abbrev xAm:=@List.getElem?_append_left
abbrev xAn:=@Nat.testBit_xor
abbrev xAo:=@Nat.testBit_or
abbrev xAp:=@List.mem_append_right
local macro_rules(kind:=Lean.Parser.Tactic.omega)|_s=>return mqV "lia"
set_option Elab.async false
set_option linter.all false
set_option maxRecDepth 100000
namespace L2
open PySem PySem.Spec PyProof.Rows
abbrev bK:=Sum Int Str
def nO:bK->qj->Bool
 |.inl k,v=>Value.isInt k v|.inr x,v=>Value.isStrOf x v
def aZV(w:zw):bK->Int
 |.inl k=>hashInt k|.inr x=>hashStr w x
def mX:∀ {k:bK}{v:qj},nO k v=true->(∃ i t,k=Sum.inl i/\v=Value.int i t)\/(∃ x t,k=Sum.inr x/\v=Value.str x t)
 |.inl i,v,h=>by
   let(t,e):=Value.isInt_shape (k:=i) (v:=v) h;exact .inl (i,t,rfl,e,)
 |.inr x,v,h=>by
   let(t,e):=Value.isStrOf_shape (x:=x) (v:=v) h;exact .inr (x,t,rfl,e,)
def aP1(i:Int)(t:Tok):nO (.inl i) (.int i t)=true:=by simp[nO,Value.isInt]
def aC3(x:Str)(t:Tok):nO (.inr x) (.str x t)=true:=by simp[nO,Value.isStrOf]
def aUC(a b:Int):decide ((Sum.inl a:bK)=Sum.inl b)=(a==b):=by grind
def aWF(a b:Str):decide ((Sum.inr a:bK)=Sum.inr b)=decide (a=b):=by simp_all
def aV4(a:Int)(b:Str):decide ((Sum.inl a:bK)=Sum.inr b)=false:=dqF (λ q=>nomatch q)
def aUu(a:Str)(b:Int):decide ((Sum.inr a:bK)=Sum.inl b)=false:=dqF (λ q=>nomatch q)
def fN(prog:zv)(w:zw):PySem.KeyKind prog w bK where
 is:=nO
 hash:=aZV w
 inj:=λ v a b ha hb=>by
  rcases mX ha with ⟨i,t,rfl,rfl⟩|⟨x,t,rfl,rfl⟩
  .rcases mX hb with ⟨j,u,rfl,e⟩|⟨y,u,rfl,e⟩
   .injection e with e1 _;rw[e1]
   .exact nomatch e
  .rcases mX hb with ⟨j,u,rfl,e⟩|⟨y,u,rfl,e⟩
   .exact nomatch e
   .injection e with e1 _;rw[e1]
 byValue:=λ k v h=>by
  rcases mX h with ⟨i,t,rfl,rfl⟩|⟨x,t,rfl,rfl⟩<;>rfl
 pyHash:=λ hv h=>by
  rcases mX hv with ⟨i,t,rfl,rfl⟩|⟨x,t,rfl,rfl⟩
  .exact wpAny_pyHash_int h
  .exact wpAny_pyHash_str h
 eqBool:=λ hu hv h=>by
  rcases mX hu with ⟨i,t,rfl,rfl⟩|⟨x,t,rfl,rfl⟩
  .rcases mX hv with ⟨j,u,rfl,rfl⟩|⟨y,u,rfl,rfl⟩
   .rw[aUC] at h;exact wpAny_eqBool_int h
   .rw[aV4] at h;exact SeqAt.EqAt.int_str i t y u _ _ _ _ h
  .rcases mX hv with ⟨j,u,rfl,rfl⟩|⟨y,u,rfl,rfl⟩
   .rw[aUu] at h;exact SeqAt.EqAt.str_int x t j u _ _ _ _ h
   .rw[aWF] at h;exact wpAny_eqBool_str h
 «strs»:=λ k x t v h=>by
  rcases mX h with ⟨i,u,rfl,e⟩|⟨y,u,rfl,e⟩
  .exact nomatch e
  .injection e with e1 _
   subst e1;cases v<;>rfl
def aO2(prog:zv)(w:zw)(i:Int)(t:Tok):(fN prog w).is (.inl i) (.int i t)=true:=aP1 i t
def aOZ(prog:zv)(w:zw)(x:Str)(t:Tok):(fN prog w).is (.inr x) (.str x t)=true:=aC3 x t
end L2
namespace L2
open PySem PySem.Spec PyProof.Rows
inductive V where
 |non|bl (b:Bool)|int (i:Int)|str (x:Str)|byt (b:Array UInt8)|flt (b:UInt64)|ref (a:qk)|ty (n:String)
 deriving DecidableEq
def aY:V->qj->Prop
 |.non,u=>u=Value.none|.bl b,u=>u=Value.bool b|.int i,u=>∃ t,u=Value.int i t|.str x,u=>∃ t,u=Value.str x t|.byt b,u=>∃ t,u=Value.bytes b t|.flt b,u=>∃ t,u=Value.float b t|.ref a,u=>u=Value.ref a|.ty n,u=>u=Value.type n
noncomputable abbrev aZ:List V->List qj->Prop:=Paired aY
def aZ.length{xs:List V}(r:aZ xs us):↑xs=↑us:=Paired.length r
def aZ.get:∀ {xs:List V}{us:List qj}{i:Nat}{x:V},aZ xs us->xs[i]?=qz x->∃ u,us[i]?=qz u/\aY x u
 |_,_,_,_,.nil,e=>by simp at e|_,_,0,_,.cons r _,e=>by simp at e;subst e;exact(_,rfl,r,)
 |_,_,i+1,x,.cons _ t,e=>by
   let(u,h1,h2):=aZ.get (i:=i) (x:=x) t (e:);simp_all
def aZ.set(r:aY x u):∀ {xs:List V}{us:List qj} (i:Nat),aZ xs us->aZ (xs.set i x) (us.set i u)
 |_,_,_,.nil=>.nil|_,_,0,.cons _ t=>.cons r t|_,_,i+1,.cons q t=>.cons q (aZ.set r i t)
def aZ.append:∀ {xs ys:List V}{us ws:List qj},aZ xs us->aZ ys ws->aZ (xs++ys) (us++ws)
 |_,_,_,_,.nil,s=>s|_,_,_,_,.cons r t,s=>.cons r (aZ.append t s)
def aZ.take:∀ {xs:List V}{us:List qj} (n:Nat),aZ xs us->aZ (xs.take n) (us.take n)
 |_,_,0,_=>.nil|_,_,_+1,.nil=>.nil|_,_,n+1,.cons r t=>.cons r (aZ.take n t)
def aZ.drop:∀ {xs:List V}{us:List qj} (n:Nat),aZ xs us->aZ (xs.drop n) (us.drop n)
 |_,_,0,r=>r|_,_,_+1,.nil=>.nil|_,_,n+1,.cons _ t=>aZ.drop n t
def gY:Option V->Option qj->Prop
 |some v,qz u=>aY v u|none,qx=>True|_,_=>False
def KV{κ:Type}:List (κ×V)->List (κ×qj)->Prop:=Paired λ(p:κ×V) (q:κ×qj)=>p.1=q.1/\aY p.2 q.2
def kV:bK->V
 |.inl i=>.int i|.inr x=>.str x
inductive HO where
 |lst (xs:List V)
 |tup (xs:List V)
 |dK (aH:List (bK×V))|dT (aH:List (List bK×V))
 |set (S:Int->Bool) (n:Nat)
 |ins (C dx:qk) (fs:List (Str×V))
 |own (x:qk)
 |xd (fs:List (Str×V))
 |met (f x:qk)
 |rng (lo hi:Int)
 |frz (o:Obj) (u:HO)
 |tbl (ps:Array qj)
 |ext (φ:Heap->Prop)
abbrev Hp:=qk->Option HO
def bE(H:Hp)(a:qk)(o:HO):Hp:=λ b=>if b=a then qz o else H b
def cQ:bE H a o a=qz o:=by unfold bE;rw[if_pos rfl]
def bV(h:b≠a):bE H a o b=H b:=by unfold bE;rw[if_neg h]
def aYD{H:Hp}{a b:qk}{o u:HO}(h:H a=qz o)(h':H b=qz u)(d:o≠u):a≠b:=by grind
def eO{H:Hp}{a b:qk}{o:HO}(h:H a=qz o)(h':H b=qx):a≠b:=by grind
section
variable (P:zv)(w:zw)
def eQ(H:Hp)(h:Heap)(a:qk):HO->Prop
 |.lst xs=>↑xs<=qo/\∃ (aG:List qj) (n:Nat),aZ xs aG/\h.get? a=qz {cls:=.type "list",data:=.seq aG.toArray n }|.tup xs=>↑xs<=qo/\∃ aG:List qj,aZ xs aG/\IsTup h a aG.toArray|.dK aH=>aH.length<=qo/\(a==sysModules)=false/\∃ vs,KV aH vs/\h.DictOf (fN P w) a vs
 |.dT aH=>aH.length<=qo/\(a==sysModules)=false/\∃ xs:List (List bK×qk×qj),
    Paired (λ(p:List bK×V) (q:List bK×qk×qj)=>p.1=q.1/\H q.2.1=qz (.tup (p.1.map kV))/\aY p.2 q.2.2) aH xs /\
    ∃ o es ep,h.get? a=qz o/\o.ExactDict/\o.data=.dict es ep/\es.toList=xs.map (entryOfKey (tupleKind (fN P w)))/\(xs.map (·.1)).Nodup
 |.set S n=>h.SetOf (intKind P w) a S n
 |.ins C dx fs=>H dx=qz (.own a)/\↑fs<=1000/\dx≠a/\h.get? a=qz (yDl C dx) /\
    ∃ mA,h.Ns1 dx mA/\(∀ f,gY (fs.lookup f) (mA f))/\PySem.Within mA (fs.map (·.1))
 |.own _=>∃ o,h.get? a=qz o|.xd fs=>∃ mA,h.Ns1 a mA/\∀ f,gY (fs.lookup f) (mA f)|.rng lo hi=>∃ t u v,h.get? a=qz {cls:=.type "range",data:=.fields #[.int lo t,.int hi u,.int 1 v] }|.frz o u=>h.get? a=qz o/\eQ H h a u|.tbl ps=>h.get? a=qz {cls:=.none,data:=.fields ps }|.met f x=>h.get? a=qz (yHp (.ref f) (.ref x))|.ext φ=>φ h/\(∃ o,h.get? a=qz o)/\∀ h1 h2:Heap,φ h1->(∀ o,h1.get? a=qz o->h2.get? a=qz o)->φ h2
def cY(H:Hp)(h:Heap):Prop:=∀ a o,H a=qz o->eQ P w H h a o
end
def eQ.lt(x:eQ P w H h a o):a<h.objs.size:=by
 cases o with
 |lst xs=>let(_,_,_,_,e):=x;exact xAa e
 |tup xs=>let(_,_,_,p):=x;exact p.lt
 |dK aH=>let(_,_,_,_,o,_,_,e,_):=x;exact xAa e
 |dT aH=>let(_,_,_,_,o,_,_,e,_):=x;exact xAa e
 |set S n=>let(o,_,_,_,e,_):=x;exact xAa e
 |ins C dx fs=>let(_,_,_,e,_):=x;exact xAa e
 |own y=>let(_,e):=x;exact xAa e
 |xd fs=>let(_,(_,_,_,e,_),_):=x;exact xAa e
 |rng lo hi=>let(_,_,_,e):=x;exact xAa e
 |frz ob u=>let(e,_):=x;exact xAa e
 |tbl ps=>exact xAa (show h.get? a=qz _ from x)
 |met f y=>exact xAa (show h.get? a=qz _ from x)
 |ext φ=>let(_,(_,e),_):=x;exact xAa e
def Paired.mapP{α β:Type}{F G:α->β->Prop}:∀ {l₁:List α}{l₂:List β},Paired F l₁ l₂->(∀ a b,F a b->G a b)->Paired G l₁ l₂
 |_,_,.nil,_=>.nil|_,_,.cons r t,f=>.cons (f _ _ r) (Paired.mapP t f)
def eQ.stay{h':Heap}(x:eQ P w H h a o)(k:∀ b u,(b=a\/H b=qz (.own a))->h.get? b=qz u->h'.get? b=qz u)(ho:∀ b,H b=qz (.own a)->H' b=qz (.own a))(ht:∀ b xs,H b=qz (.tup xs)->H' b=qz (.tup xs)):eQ P w H' h' a o:=by
 induction o with
 |lst xs=>let(z,aG,n,r,e):=x;exact(z,aG,n,r,k _ _ (.inl rfl) e,)
 |tup xs=>let(z,aG,r,ob,e,c):=x;exact(z,aG,r,ob,k _ _ (.inl rfl) e,c,)
 |dK aH=>let(z,y,vs,r,ob,es,ep,e,c):=x;exact(z,y,vs,r,ob,es,ep,k _ _ (.inl rfl) e,c,)
 |dT aH=>
   let(z,y,xs,r,ob,es,ep,e,c):=x;exact(z,y,xs,Paired.mapP r λ p q z=>(z.1,ht _ _ z.2.1,z.2.2,),ob,es,ep,k _ _ (.inl rfl) e,c,)
 |set S n=>let(ob,es,ep,t,e,c):=x;exact(ob,es,ep,t,k _ _ (.inl rfl) e,c,)
 |ins C dx fs=>
   let(d,z,ne,e,mA,(od,es,ep,e2,c),r):=x;exact(ho _ d,z,ne,k _ _ (.inl rfl) e,mA,(od,es,ep,k _ _ (.inr d) e2,c,),r,)
 |own y=>let(ob,e):=x;exact(ob,k _ _ (.inl rfl) e,)
 |xd fs=>let(mA,(od,es,ep,e,c),r):=x;exact(mA,(od,es,ep,k _ _ (.inl rfl) e,c,),r,)
 |rng lo hi=>let(t,u,v,e):=x;exact(t,u,v,k _ _ (.inl rfl) e,)
 |frz ob u ih=>let(e,q):=x;exact(k _ _ (.inl rfl) e,ih q,)
 |tbl ps=>
   have e:h.get? a=qz {cls:=.none,data:=.fields ps }:=x;show h'.get? a=qz {cls:=.none,data:=.fields ps };exact k a _ (.inl rfl) e
 |met f y=>
   have e:h.get? a=qz (yHp (.ref f) (.ref y)):=x;show h'.get? a=qz (yHp (.ref f) (.ref y));exact k a _ (.inl rfl) e
 |ext φ=>let(p,(o,e),st):=x;exact(st _ _ p λ o q=>k _ _ (.inl rfl) q,(o,k _ _ (.inl rfl) e,),st,)
def cY.lt(x:cY P w H h)(e:H a=qz o):a<h.objs.size:=(x a o e).lt
def cY.fresh(x:cY P w H h)(e:h.objs.size<=a):H a=qx:=by
 cases q:H a with
 |none=>rfl|some u=>exact absurd (xAb (x.lt q) e) (yCs _)
def cY.kept{h':Heap}(x:cY P w H h)(k:∀ b u,h.get? b=qz u->h'.get? b=qz u):cY P w H h':=λ a o e=>
 (x a o e).stay (λ b u _ q=>k b u q) (λ _ q=>q) λ _ _ q=>q
def cY.laid{h':Heap}(x:cY P w H h)(k:∀ b u,h.get? b=qz u->h'.get? b=qz u)(hp:h.objs.size<=a)(new:eQ P w (bE H a o) h' a o):cY P w (bE H a o) h':=λ b u e=>by
 have hn:=x.fresh hp;by_cases hb:b=a
 .subst hb;rw[cQ] at e;simp_all
 .rw[bV hb] at e;exact(x b u e).stay (λ c v _ q=>k c v q) (λ c q=>by rw[bV (eO q hn)];exact q) λ c xs q=>by rw[bV (eO q hn)];exact q
def Rd(H:Hp)(a:qk)(u:HO):Prop:=H a=qz u\/∃ o,H a=qz (.frz o u)
def Rd.ok(r:Rd H a u)(x:cY P w H h):eQ P w H h a u:=by
 rcases r with r|⟨o,r⟩
 .exact x a u r
 .let(_,q):=x a _ r;exact q
def zZ:Option HO->Prop
 |some (.lst _)=>True|some (.dK _)=>True|some (.dT _)=>True|some (.set _ _)=>True|some (.ins _ _ _)=>True|some (.ext _)=>True|_=>False
def cY.write{h':Heap}(ok:cY P w H h)(mu:zZ (H x))(he:e=x\/H e=qz (.own x))(k:∀ b u,b≠e->h.get? b=qz u->h'.get? b=qz u)(heo:∃ u,h'.get? e=qz u)(new:eQ P w (bE H x o') h' x o'):cY P w (bE H x o') h':=λ b u q=>by
 have nown:∀ c y,H c=qz (.own y)->c≠x:=λ c y r z=>by subst z;rw[r] at mu;exact mu
 have ntup:∀ c xs,H c=qz (.tup xs)->c≠x:=λ c xs r z=>by subst z;rw[r] at mu;exact mu
 by_cases hb:b=x
 .subst hb;rw[cQ] at q;simp_all
 .rw[bV hb] at q;by_cases hbe:b=e
  .have q':H b=qz (.own x):=by
    rcases he with z|z
    .exact absurd (hbe.trans z) hb
    .rw[hbe];exact z
   rw[q] at q';cases q';let(v,hv):=heo;exact(v,by rw[hbe];exact hv,)
  .refine(ok b u q).stay (λ c v hc r=>k c v ?_ r) (λ c r=>by rw[bV (nown c b r)];exact r) λ c xs r=>by rw[bV (ntup c xs r)];exact r
   rcases hc with rfl|hc
   .exact hbe
   .rintro rfl;rcases he with z|z
    .exact nown c b hc z
    .rw[hc] at z;cases z;exact hb rfl
structure Un(fs ex:List qk)(H H':Hp)(h h':Heap):Prop where
 keep:∀ b o,h.get? b=qz o->H b=qx->b ∉ fs->b ∉ ex->h'.get? b=qz o
 slot:∀ b o,h.get? b=qz o->H b=qx->b∈fs->b ∉ ex->∃ sl,h'.get? b=qz {o with slots:=sl }
 free:∀ b o,h.get? b=qz o->H b=qx->b ∉ ex->H' b=qx
 there:∀ b o,h.get? b=qz o->b ∉ ex->∃ o',h'.get? b=qz o'
 tups:∀ b xs,H b=qz (.tup xs)->H' b=qz (.tup xs)
 frzs:∀ b o u,H b=qz (.frz o u)->H' b=qz (.frz o u)
 tbls:∀ b ps,H b=qz (.tbl ps)->∃ more,H' b=qz (.tbl (ps++more))
def Un.any(u:Un fs ex H H1 h h1)(q:h.get? b=qz ob)(n:H b=qx)(hx:b ∉ ex):∃ sl,h1.get? b=qz {ob with slots:=sl }:=by
 by_cases hb:b∈fs
 .exact u.slot b ob q n hb hx
 .exact(ob.slots,u.keep b ob q n hb hx,)
def Un.kept{h h':Heap}(k:∀ b u,h.get? b=qz u->h'.get? b=qz u):Un fs ex H H h h':=
 (λ b ob q _ _ _=>k b ob q,λ b ob q _ _ _=>(ob.slots,k b ob q,),λ _ _ _ n _=>n,λ b ob q _=>(ob,k b ob q,),λ _ _ q=>q,λ _ _ _ q=>q,λ _ ps q=>(#[],by rw[q];simp,),)
def Un.refl:Un fs ex H H h h:=Un.kept λ _ _ q=>q
def Un.laid{h h':Heap}(k:∀ b u,h.get? b=qz u->h'.get? b=qz u)(hp:h.objs.size<=a)(hn:H a=qx):Un fs ex H (bE H a o) h h' where
 keep:=λ b u q _ _ _=>k b u q
 slot:=λ b u q _ _ _=>(u.slots,k b u q,)
 free:=λ b u q n _=>by rw[bV (xAj (xAb (xAa q) hp))];exact n
 there:=λ b u q _=>(u,k b u q,)
 tups:=λ b xs q=>by rw[bV (eO q hn)];exact q
 frzs:=λ b u xs q=>by rw[bV (eO q hn)];exact q
 tbls:=λ b ps q=>(#[],by rw[bV (eO q hn),q];simp,)
def Un.write{h h':Heap}(mu:zZ (H x))(he:e=x\/H e=qz (.own x))(k:∀ b u,b≠e->h.get? b=qz u->h'.get? b=qz u)(heo:∃ u,h'.get? e=qz u):Un fs ex H (bE H x o) h h':=by
 have hx:∀ b,H b=qx->b≠x:=λ b n z=>by subst z;rw[n] at mu;exact mu
 have hb:∀ b,H b=qx->b≠e:=λ b n z=>by
  simp_all
 have hm:∀ b u,H b=qz u->¬ zZ (qz u)->b≠x:=λ b u q nm z=>by simp_all
 refine⟨λ b u q n _ _=>k b u (hb b n) q,λ b u q n _ _=>(u.slots,k b u (hb b n) q,),λ b u q n _=>by rw[bV (hx b n)];exact n,λ b u q _=>?_,
  λ b xs q=>by rw[bV (hm b _ q λ z=>z)];exact q,λ b u xs q=>by rw[bV (hm b _ q λ z=>z)];exact q,λ b ps q=>(#[],by rw[bV (hm b _ q λ z=>z),q];simp,)⟩
 grind
def trk(h:Heap)(H:Hp):List qk:=(yAo h.objs.size).filter λ a=>(H a).isSome
def nZ(h:Heap)(H:Hp):Heap:=PySem.W.hideAll h (trk h H)
def aP4(h:Heap)(H:Hp):(nZ h H).objs.size=h.objs.size:=PySem.W.hideAll_size _ _
def aQ3{h:Heap}(e:h.get? b=qz o)(n:H b=qx):(nZ h H).get? b=qz o:=
 PySem.W.hideAll_get _ e λ hm=>by
  have q:(H b).isSome=true:=(List.mem_filter.mp hm).2;rw[n] at q;simp at q
def aSP(e:(nZ h H).get? b=qz o):h.get? b=qz o/\H b=qx:=by
 have e':h.get? b=qz o:=PySem.W.of_hideAll (trk h H) e;refine(e',?_,);cases q:H b with
 |none=>rfl
 |some x=>
   have hm:b∈trk h H:=List.mem_filter.mpr (List.mem_range.mpr (xAa e'),by simp[q],);have z:(nZ h H).get? b=qx:=PySem.W.hideAll_none (trk h H) hm;rw[z] at e;cases e
def aUj(g h:Heap)(L:qk):List (qk×Obj):=(yAo h.objs.size).filterMap λ a=>if a=L\/(g.get? a).isSome=true then qx else (h.get? a).map λ o=>(a,o)
def cK(g h:Heap)(L d:qk):List (qk×Obj):=(aUj g h L).filter λ p=>decide (p.1≠d)
end L2
namespace L2
open PySem PySem.Spec PyProof.Rows
structure Mod(K:FrG)(mg:Str->Option qj)(base:Heap):Prop where
 kin:K.In base
 glob:base.Ns zu mg
 blt:∃ mb,base.Ns builtinsNs mb/\∀ x:Str,x ≠ "__name__" -> mb x=vy x
 nolimit:base.NoLimit
structure Cx where
 prog:zv
 w:zw
 K:FrG
 mg:Str->Option qj
 base:Heap
 A:zy
 N:List Str
 s₀:qy
 H₀:Hp
 env:Env
 outer:List Env
 stack:List Env
 ex:List qk
 fn:Str->Bool
 calm:Bool
 pn:List (qk×Obj)
 xe:qj->qy->Prop
def iU(l:List Env):List qk:=l.filterMap (·.frame)
noncomputable abbrev Cx.fs(X:Cx):List qk:=iU X.outer
def uW(sc:zk)(x:Str):Prop:=sc.names.lookup x=qz .local\/sc.names.lookup x=qz .cell\/sc.names.lookup x=qz .free
def Loc(sc:zk)(x:Str):Prop:=sc.names.lookup x=qz .local\/sc.names.lookup x=qz .cell
def aZo(env:Env)(h:Heap)(m:Str->Option qj)(x:Str)(u:qj):Prop:=
 (env.kindOf x=qz .local/\m x=qz u)\/((env.kindOf x=qz .cell\/env.kindOf x=qz .free)/\∃ c,env.cells.lookup x=qz c/\h.IsCell c (qz u))
structure Cx.Ok(X:Cx):Prop where
 mod:Mod X.K X.mg X.base
 kind:X.env.scope.kind=.function
 glob:X.env.globals=zu
 blt:X.env.builtins=builtinsNs
 above:X.s₀.heap.objs.size<=X.env.locals
 inj:∀ x y c,X.env.cells.lookup x=qz c->X.env.cells.lookup y=qz c->x=y
 has:∀ x,(X.env.kindOf x=qz .cell\/X.env.kindOf x=qz .free)->∃ c,X.env.cells.lookup x=qz c
 cab:∀ x c,X.fn x=true->X.env.cells.lookup x=qz c->X.s₀.heap.objs.size<=c
 hd:X.calm=true->X.A.handled=qx
 frames:X.A.frames=qz X.stack
 stk:X.stack=X.outer\/(X.stack=X.env::X.outer/\X.env.frame=qz X.env.locals)
 exf:∀ b∈X.ex,b≠X.env.locals/\∀ x c,X.env.cells.lookup x=qz c->c≠b
 bs:∀ b o,X.base.get? b=qz o->X.s₀.heap.get? b=qz o/\X.H₀ b=qx
 bsz:X.base.objs.size<=X.s₀.heap.objs.size
 noex:∀ b o,X.base.get? b=qz o->b ∉ X.ex
 exfs:∀ b∈X.ex,b ∉ X.fs
 funs:X.s₀.heap.FunFrames X.base X.outer
 frf:∀ b∈X.fs,X.H₀ b=qx
structure Inv(X:Cx)(aB:List (qk×Obj))(σ:List (Option V))(H:Hp)(s:qy):Prop where
 ok:X.Ok
 os:s.os=X.s₀.os
 bare:AllBare s.gens
 base:Un X.fs X.ex X.H₀ H X.s₀.heap s.heap
 loc:∃ m,s.heap.Ns X.env.locals m/\∀ (i:Nat) (x:Str) (v:V),X.N[i]?=qz x->σ[i]?=qz (qz v)->uW X.env.scope x->∃ u,aY v u/\aZo X.env s.heap m x u
 cell:∀ x c,X.env.cells.lookup x=qz c->∃ v,s.heap.IsCell c v
 free:H X.env.locals=qx
 freeC:∀ x c,X.env.cells.lookup x=qz c->H c=qx
 pin:∀ p∈X.pn++aB,s.heap.get? p.1=qz p.2/\H p.1=qx/\p.1≠X.env.locals/\p.1 ∉ X.fs/\∀ v,p.2.data≠.cell v
 hok:cY X.prog X.w H s.heap
 len:σ.length=X.N.length
section
variable {X:Cx}{aB:List (qk×Obj)}{σ:List (Option V)}{H H':Hp}{s:qy}{h':Heap}
def Cx.Ok.nofr(ok:X.Ok)(e:X.base.get? b=qz o):b ∉ X.fs:=λ hb=>by
 have:=(ok.funs.mem hb).1;rw[e] at this;cases this
def Inv.bs(I:Inv X aB σ H s):∀ b o,X.base.get? b=qz o->s.heap.get? b=qz o/\H b=qx:=λ b o e=>
 (I.base.keep b o (I.ok.bs b o e).1 (I.ok.bs b o e).2 (I.ok.nofr e) (I.ok.noex b o e),I.base.free b o (I.ok.bs b o e).1 (I.ok.bs b o e).2 (I.ok.noex b o e),)
def Inv.bk(I:Inv X aB σ H s):∀ b o,X.base.get? b=qz o->s.heap.get? b=qz o:=λ b o e=>(I.bs b o e).1
def Inv.mod(I:Inv X aB σ H s):Mod X.K X.mg X.base:=I.ok.mod
def Inv.kIn(I:Inv X aB σ H s):X.K.In s.heap:=I.ok.mod.kin.keeps I.bk
def Inv.lt(I:Inv X aB σ H s):X.env.locals<s.heap.objs.size:=let ⟨_,hn,_⟩:=I.loc;hn.lt
def Inv.sz(I:Inv X aB σ H s):X.s₀.heap.objs.size<=s.heap.objs.size:=xAh I.ok.above (yEe I.lt)
def Inv.nofs(I:Inv X aB σ H s)(h:s.heap.objs.size<=a):a ∉ X.fs:=λ hb=>by
 let(_,o,ho,_):=I.ok.funs.mem hb;exact absurd (xAb (xAa ho) (xAh I.sz h)) (yCs _)
def Inv.cne(I:Inv X aB σ H s):∀ x c,X.env.cells.lookup x=qz c->c≠X.env.locals:=λ x c e z=>by
 let(v,o,ho,hd):=I.cell x c e;let(m,(o',es,ep,ho',hd',_),_):=I.loc;rw[z,ho'] at ho;simp_all
def Inv.funs(I:Inv X aB σ H s):s.heap.FunFrames X.base X.outer:=by
 have all:∀ (l:List Env),(∀ b∈iU l,b∈X.fs)->X.s₀.heap.FunFrames X.base l->s.heap.FunFrames X.base l:=by
  intro l
  induction l with
  |nil=>intro _ _;trivial
  |cons env r ih=>
    intro hs hl;let(hk,(L,o,hf,hn,ho,hd),hr):=hl;have hL:L∈X.fs:=hs L (by unfold iU;rw[yCn,hf];exact xAc);let(sl,e):=I.base.slot L o ho (I.ok.frf L hL) hL λ z=>I.ok.exfs L z hL
    exact(hk,(L,_,hf,hn,e,hd,),ih (λ b hb=>hs b (by unfold iU;rw[yCn,hf];exact xAf _ hb)) hr,)
 exact all X.outer (λ _ hb=>hb) I.ok.funs
def Inv.stack(I:Inv X aB σ H s):s.heap.FunFrames X.base X.stack:=by
 rcases I.ok.stk with e|⟨e,hf⟩
 .rw[e];exact I.funs
 .rw[e];let(m,hn,_):=I.loc;refine .cons (by rw[I.ok.kind];decide) hf hn ?_ I.funs;exact Heap.get?_none_of_le (xAh I.ok.bsz I.ok.above)
def Inv.stkSub(I:Inv X aB σ H s):∀ b∈iU X.stack,b∈X.env.locals::X.fs:=λ b hb=>by
 rcases I.ok.stk with e|⟨e,hf⟩
 .rw[e] at hb;simp_all
 .rw[e] at hb;unfold iU at hb;rw[yCn,hf] at hb;exact hb
def Inv.stkFree(I:Inv X aB σ H s):∀ b∈iU X.stack,H b=qx:=λ b hb=>by
 rcases List.mem_cons.mp (I.stkSub b hb) with e|hb
 .rw[e];exact I.free
 .let(_,o,ho,_):=I.ok.funs.mem hb;exact I.base.free b o ho (I.ok.frf b hb) λ z=>I.ok.exfs b z hb
def Inv.step{g':Array GenState}{t':Nat}{d':Drawn}{ch:List qk}(I:Inv X aB σ H s)
 (hch:∀ b∈ch,(b∈X.ex\/X.s₀.heap.objs.size<=b)/\b≠X.env.locals/\(∀ x c,X.env.cells.lookup x=qz c->c≠b)/\∀ p∈X.pn++aB,p.1≠b)
 (keep:∀ b o,b≠X.env.locals->b ∉ X.fs->b ∉ ch->s.heap.get? b=qz o->H b=qx->h'.get? b=qz o)
 (slot:∀ b o,b≠X.env.locals->b∈X.fs->b ∉ ch->s.heap.get? b=qz o->H b=qx->∃ sl,h'.get? b=qz {o with slots:=sl }) (free:∀ b o,b ∉ ch->s.heap.get? b=qz o->H b=qx->H' b=qx)
 (there:∀ b o,b ∉ ch->s.heap.get? b=qz o->∃ o',h'.get? b=qz o')
 (tups:∀ b xs,H b=qz (.tup xs)->H' b=qz (.tup xs)) (frzs:∀ b o u,H b=qz (.frz o u)->H' b=qz (.frz o u)) (tbls:∀ b ps,H b=qz (.tbl ps)->∃ more,H' b=qz (.tbl (ps++more)))
 (ns:∀ m,s.heap.Ns X.env.locals m->h'.Ns X.env.locals m) (hok:cY X.prog X.w H' h') (hg:AllBare g') :
 Inv X aB σ H' {s with heap:=h',gens:=g',drawn:=d',toks:=t' }:=by
 have neL:∀ b o,X.s₀.heap.get? b=qz o->b≠X.env.locals:=λ b o e=>xAj (xAb (xAa e) I.ok.above)
 have neC:∀ b o,X.s₀.heap.get? b=qz o->b ∉ X.ex->b ∉ ch:=λ b o e hx hb=>by
  rcases (hch b hb).1 with z|z
  .exact hx z
  .exact absurd (xAb (xAa e) z) (yCs _)
 have cellK:∀ x c,X.env.cells.lookup x=qz c->∀ v,s.heap.IsCell c v->h'.IsCell c v:=λ x c e v aW=>by
  let(o,ho,hd):=aW;have nch:c ∉ ch:=λ z=>(hch c z).2.2.1 x c e rfl
  by_cases hc:c∈X.fs
  .let(sl,q):=slot c o (I.cne x c e) hc nch ho (I.freeC x c e);exact(_,q,hd,)
  .exact(o,keep c o (I.cne x c e) hc nch ho (I.freeC x c e),hd,)
 refine(I.ok,I.os,hg,(λ b o e n hb hx=>?_,λ b o e n hb hx=>?_,λ b o e n hx=>?_,λ b o e hx=>?_,λ b xs e=>tups b xs (I.base.tups b xs e),λ b o xs e=>frzs b o xs (I.base.frzs b o xs e),λ b ps e=>?_,),?_,λ x c e=>?_,?_,λ x c e=>?_,λ p hp=>?_,hok,I.len,)
 .exact keep b o (neL b o e) hb (neC b o e hx) (I.base.keep b o e n hb hx) (I.base.free b o e n hx)
 .let(sl,e1):=I.base.slot b o e n hb hx;let(sl',e2):=slot b _ (neL b o e) hb (neC b o e hx) e1 (I.base.free b o e n hx);exact(sl',e2,)
 .let(o',e1):=I.base.there b o e hx;exact free b o' (neC b o e hx) e1 (I.base.free b o e n hx)
 .let(o',e1):=I.base.there b o e hx;exact there b o' (neC b o e hx) e1
 .let(m1,e1):=I.base.tbls b ps e
  grind
 .let(m,hn,hl):=I.loc;refine(m,ns m hn,λ i x v e1 e2 e3=>?_,);let(u,r,l):=hl i x v e1 e2 e3;refine(u,r,?_,);rcases l with l|⟨k,c,e,z⟩
  .exact .inl l
  .exact .inr (k,c,e,cellK x c e _ z,)
 .let(v,z):=I.cell x c e;exact(v,cellK x c e v z,)
 .let(m,(o,_,_,ho,_),_):=I.loc;exact free _ o (λ z=>(hch _ z).2.1 rfl) ho I.free
 .let(v,o,ho,hd):=I.cell x c e;exact free c o (λ z=>(hch c z).2.2.1 x c e rfl) ho (I.freeC x c e)
 .let(e,n,ne,nf,d):=I.pin p hp;have nch:p.1 ∉ ch:=λ z=>(hch p.1 z).2.2.2 p hp rfl
  exact(keep p.1 p.2 ne nf nch e n,free p.1 p.2 nch e n,ne,nf,d,)
def Inv.un(I:Inv X aB σ H s)(u:Un X.fs [] H H' s.heap h')(hok:cY X.prog X.w H' h'):Inv X aB σ H' {s with heap:=h',toks:=t' }:=by
 let(m,(o,es,ep,ho,r),_):=id I.loc;let(sl,hL):=u.any ho I.free (by simp)
 exact I.step (g':=s.gens) (d':=s.drawn) (ch:=[]) (λ _ z=>nomatch z) (λ b o _ hb _ e n=>u.keep b o e n hb (by simp)) (λ b o _ hb _ e n=>u.slot b o e n hb (by simp)) (λ b o _ e n=>u.free b o e n (by simp)) (λ b o _ e=>u.there b o e (by simp)) u.tups u.frzs u.tbls (λ m' hm=>by
  let(o',es',ep',ho',r'):=hm;rw[ho] at ho';cases ho';exact(_,es',ep',hL,r',)) hok I.bare
def Inv.call(I:Inv X aB σ H s)(u:Un (iU X.stack) ch H H' s.heap h')(hok:cY X.prog X.w H' h')(hg:AllBare g')(hch:∀ b∈ch,(b∈X.ex\/X.s₀.heap.objs.size<=b)/\b≠X.env.locals/\(∀ x c,X.env.cells.lookup x=qz c->c≠b)/\∀ p∈X.pn++aB,p.1≠b) :
 Inv X aB σ H' {s with heap:=h',gens:=g',drawn:=d',toks:=t' }:=by
 let(m,(o,es,ep,ho,r),_):=id I.loc;let(sl,hL):=u.any ho I.free λ z=>(hch _ z).2.1 rfl
 exact I.step (ch:=ch) hch (λ b o hL hb hc e n=>u.keep b o e n (λ z=>(List.mem_cons.mp (I.stkSub b z)).elim hL hb) hc) (λ b o _ _ hc e n=>u.any e n hc) (λ b o hc e n=>u.free b o e n hc) (λ b o hc e=>u.there b o e hc) u.tups u.frzs u.tbls (λ m' hm=>by
  let(o',es',ep',ho',r'):=hm;rw[ho] at ho';cases ho';exact(_,es',ep',hL,r',)) hok hg
def Inv.turned(I:Inv X aB σ H s)(k:∀ b o,b≠it->s.heap.get? b=qz o->h'.get? b=qz o)(hn:H it=qx)(hL:it≠X.env.locals)(h1:it∈X.ex\/X.s₀.heap.objs.size<=it)(h2:∀ x c,X.env.cells.lookup x=qz c->c≠it)(h3:∀ p∈X.pn++aB,p.1≠it):Inv X aB σ H {s with heap:=h',toks:=t' }:=by
 have nit:∀ b u,H b=qz u->b≠it:=λ b u e z=>by rw[z,hn] at e;cases e
 refine I.step (g':=s.gens) (d':=s.drawn) (ch:=[it]) (λ b hb=>?_) (λ b o _ _ hc e _=>k b o (λ z=>hc (by simp[z])) e) (λ b o _ _ hc e _=>(o.slots,k b o (λ z=>hc (by simp[z])) e,)) (λ _ _ _ _ n=>n)
  (λ b o hc e=>(o,k b o (λ z=>hc (by simp[z])) e,)) (λ _ _ e=>e) (λ _ _ _ e=>e) (λ b ps e=>(#[],by rw[e];simp,)) (λ m hm=>?_) (λ b u e=>?_) I.bare
 .have e:b=it:=(hb:)
  subst e;exact(h1,hL,h2,h3,)
 .let(o,es,ep,ho,r):=hm;exact(o,es,ep,k _ o (Ne.symm hL) ho,r,)
 .refine(I.hok b u e).stay (λ c v hc q=>k c v ?_ q) (λ _ q=>q) λ _ _ q=>q
  rcases hc with z|z
  .rw[z];exact nit b u e
  .exact nit c _ z
def Inv.tok(I:Inv X aB σ H s)(t:Nat):Inv X aB σ H {s with toks:=t }:=I.un (h':=s.heap) (t':=t) Un.refl I.hok
def Inv.kept(I:Inv X aB σ H s)(k:∀ b u,s.heap.get? b=qz u->h'.get? b=qz u):Inv X aB σ H {s with heap:=h',toks:=t' }:=I.un (Un.kept k) (I.hok.kept k)
def Inv.laid(I:Inv X aB σ H s)(k:∀ b u,s.heap.get? b=qz u->h'.get? b=qz u)(hp:s.heap.objs.size<=a)(new:eQ X.prog X.w (bE H a o) h' a o) :
 Inv X aB σ (bE H a o) {s with heap:=h',toks:=t' }:=I.un (Un.laid k hp (I.hok.fresh hp)) (I.hok.laid k hp new)
def Inv.write(I:Inv X aB σ H s)(mu:zZ (H x))(he:e=x\/H e=qz (.own x))(k:∀ b u,b≠e->s.heap.get? b=qz u->h'.get? b=qz u)(heo:∃ u,h'.get? e=qz u)(new:eQ X.prog X.w (bE H x o) h' x o):Inv X aB σ (bE H x o) {s with heap:=h',toks:=t' }:=I.un (Un.write mu he k heo) (I.hok.write mu he k heo new)
def Inv.pins_of(I:Inv X aB σ H s)(h:∀ p∈pins',s.heap.get? p.1=qz p.2/\H p.1=qx/\p.1≠X.env.locals/\p.1 ∉ X.fs/\∀ v,p.2.data≠.cell v):Inv X pins' σ H s:=
 (I.ok,I.os,I.bare,I.base,I.loc,I.cell,I.free,I.freeC,λ p hp=>(List.mem_append.mp hp).elim (λ z=>I.pin p (List.mem_append_left _ z)) (h p),I.hok,I.len,)
def aIb{N:List Str}(hN:N.Nodup){i j:Nat}{x:Str}(a:N[i]?=qz x)(b:N[j]?=qz x):i=j:=by let(h1,e1):=gIm a;let(h2,e2):=gIm b;exact(List.getElem_inj hN).mp (e1.trans e2.symm)
def aQP{E:qj->qy->Prop}{Q:Unit->qy->Prop}(I:Inv X aB σ H s)(hN:X.N.Nodup)(hi:X.N[i]?=qz x)(hx:Loc X.env.scope x)(r:aY v u)(h:∀ s',Inv X aB (σ.set i (qz v)) H s'->(∃ a,yDi a s.heap s'.heap/\(a=X.env.locals\/X.env.cells.lookup x=qz a))->Q () s')(hf:X.fn x=true\/X.env.scope.names.lookup x=qz .local:=by first|exact .inl rfl|exact .inr rfl|assumption):zq M A (storeName X.env x u) Q E s:=by
 let(m,hn,hl):=id I.loc;have hcls:(X.env.scope.kind==.class||(X.env.scope.kind==.module&&X.env.locals != X.env.globals))=false:=by rw[I.ok.kind];rfl
 have hiσ:i<σ.length:=by rw[I.len];exact(gIm hi).1
 have cne:=I.cne;have tracked:∀ {a:qk}{h':Heap},(∃ o,s.heap.get? a=qz o/\H a=qx)->yDi a s.heap h'->cY X.prog X.w H h':=λ {a h'} ha hs b ob e=>by
  let(_,_,hfree):=ha;refine(I.hok b ob e).stay (λ c w' hc q=>(hs.2 c ?_).trans q) (λ _ q=>q) λ _ _ q=>q
  grind
 rcases hx with hk|hk
 .refine wpAny_storeName_local hk hn (λ h' hn' hs=>?_) hcls;let(oL,_,_,hoL,_):=id hn;refine h _ (I.ok,I.os,I.bare,(λ b o e n hb hx=>?_,λ b o e n hb hx=>?_,I.base.free,λ b o e hx=>?_,I.base.tups,I.base.frzs,I.base.tbls,),(_,hn',λ j y v' e1 e2 e3=>?_,),λ y c e=>?_,I.free,I.freeC,λ p hp=>?_,tracked (oL,hoL,I.free,) hs,by simpa using I.len,) (_,hs,.inl rfl,)
  .exact(hs.2 b (xAj (xAb (xAa e) I.ok.above))).trans (I.base.keep b o e n hb hx)
  .let(sl,e1):=I.base.slot b o e n hb hx;exact(sl,(hs.2 b (xAj (xAb (xAa e) I.ok.above))).trans e1,)
  .let(o',e1):=I.base.there b o e hx;exact(o',(hs.2 b (xAj (xAb (xAa e) I.ok.above))).trans e1,)
  .by_cases hj:j=i
   .subst hj;rw[hi] at e1;cases e1;rw[yBc hiσ] at e2;cases e2;exact(u,r,.inl (hk,by simp,),)
   .rw[yAw (Ne.symm hj)] at e2;let(u',r',q):=hl j y v' e1 e2 e3;refine(u',r',?_,);rcases q with ⟨k,e⟩|⟨k,c,e,z⟩
    .refine .inl (k,?_,);have:y≠x:=λ e=>hj (aIb hN e1 (e▸hi))
     simp[this,e]
    .exact .inr (k,c,e,z.sameBut hs (cne y c e),)
  .let(w',z):=I.cell y c e;exact(w',z.sameBut hs (cne y c e),)
  .let(e,n,ne,nf,d):=I.pin p hp;exact((hs.2 p.1 ne).trans e,n,ne,nf,d,)
 .have hfn:X.fn x=true:=by
   simp_all
  let(c,hc):=I.ok.has x (.inl hk);let(w',z):=I.cell x c hc;refine wpAny_storeName_cell I.ok.kind hk hc z (λ h' hc' hs=>?_);let(oc,hoc,hocd):=id z;refine h {s with heap:=h' } (I.ok,I.os,I.bare,(λ b o e n hb hx=>?_,λ b o e n hb hx=>?_,I.base.free,λ b o e hx=>?_,I.base.tups,I.base.frzs,I.base.tbls,),(m,hn.sameBut hs (Ne.symm (cne x c hc)),λ j y v' e1 e2 e3=>?_,),λ y c' e=>?_,I.free,I.freeC,λ p hp=>?_,tracked (oc,hoc,I.freeC x c hc,) hs,by simpa using I.len,) (c,hs,.inr hc,)
  .exact(hs.2 b (xAj (xAb (xAa e) (I.ok.cab x c hfn hc)))).trans (I.base.keep b o e n hb hx)
  .let(sl,e1):=I.base.slot b o e n hb hx;exact(sl,(hs.2 b (xAj (xAb (xAa e) (I.ok.cab x c hfn hc)))).trans e1,)
  .let(o',e1):=I.base.there b o e hx;exact(o',(hs.2 b (xAj (xAb (xAa e) (I.ok.cab x c hfn hc)))).trans e1,)
  .by_cases hj:j=i
   .subst hj;rw[hi] at e1;cases e1;rw[yBc hiσ] at e2;cases e2;exact(u,r,.inr (.inl hk,c,hc,hc',),)
   .rw[yAw (Ne.symm hj)] at e2;let(u',r',q):=hl j y v' e1 e2 e3;refine(u',r',?_,);rcases q with q|⟨k,c',e,z'⟩
    .exact .inl q
    .refine .inr (k,c',e,z'.sameBut hs ?_,);rintro rfl;exact hj (aIb hN e1 (I.ok.inj _ _ _ e hc▸hi))
  .by_cases hcc:c'=c
   .grind
   .let(w2,z2):=I.cell y c' e;exact(w2,z2.sameBut hs hcc,)
  .let(e,n,ne,nf,d):=I.pin p hp;refine((hs.2 p.1 ?_).trans e,n,ne,nf,d,)
   grind
def aIQ{E:qj->qy->Prop}{Q:Unit->qy->Prop}(I:Inv X aB σ H s)(hN:X.N.Nodup)(hi:X.N[i]?=qz x)(hx:Loc X.env.scope x)(r:aY v u)(h:∀ s',Inv X aB (σ.set i (qz v)) H s'->Q () s')(hf:X.fn x=true\/X.env.scope.names.lookup x=qz .local:=by first|exact .inl rfl|exact .inr rfl|assumption):zq M A (storeName X.env x u) Q E s:=
 aQP I hN hi hx r (λ s' I' _=>h s' I') hf
def Inv.call'{s':qy}(I:Inv X aB σ H s)(ho:s'.os=s.os)(u:Un (iU X.stack) ch H H' s.heap s'.heap)(hok:cY X.prog X.w H' s'.heap)(hg:AllBare s'.gens)(hch:∀ b∈ch,(b∈X.ex\/X.s₀.heap.objs.size<=b)/\b≠X.env.locals/\(∀ x c,X.env.cells.lookup x=qz c->c≠b)/\∀ p∈X.pn++aB,p.1≠b):Inv X aB σ H' s':=by let(h',g',d',t',o'):=s';have e:o'=s.os:=ho;subst e;exact I.call (g':=g') (t':=t') (d':=d') u hok hg hch
end
abbrev XK:=qj->Option qk->Hp->Prop
abbrev St:=List (Option V)
abbrev VK:=V->Hp->Prop
abbrev TE:=St->Hp->VK->Prop
abbrev TT:=St->Hp->(Bool->Hp->Prop)->Prop
abbrev TA:=St->Hp->(List V->Hp->Prop)->Prop
structure Ends where
 nx:St->Hp->Prop
 rt:VK
 bk:St->Hp->Prop:=λ _ _=>False
 ct:St->Hp->Prop:=λ _ _=>False
abbrev TS:=Ends->St->Hp->Prop
def EP(X:Cx)(aB:List (qk×Obj))(σ:St)(Q:VK)(u:qj)(s':qy):Prop:=∃ v H',Inv X aB σ H' s'/\aY v u/\Q v H'
def TP(X:Cx)(aB:List (qk×Obj))(σ:St)(Q:Bool->Hp->Prop)(b:Bool)(s':qy):Prop:=∃ H',Inv X aB σ H' s'/\Q b H'
def AP(X:Cx)(aB:List (qk×Obj))(σ:St)(Q:List V->Hp->Prop)(us:List qj)(s':qy):Prop:=∃ vs H',Inv X aB σ H' s'/\aZ vs us/\Q vs H'
def SP(X:Cx)(aB:List (qk×Obj))(D:Ends)(f:Flow)(s':qy):Prop:=
 match f with
 |.next=>∃ σ' H',Inv X aB σ' H' s'/\D.nx σ' H'|.brk=>∃ σ' H',Inv X aB σ' H' s'/\D.bk σ' H'|.cont=>∃ σ' H',Inv X aB σ' H' s'/\D.ct σ' H'|.ret u=>∃ v σ' H',Inv X aB σ' H' s'/\aY v u/\D.rt v H'
def PE(X:Cx)(e:qu)(t:TE):Prop:=
 ∀ (aB:List (qk×Obj)) (s:qy) (σ:St) (H:Hp) (Q:VK),Inv X aB σ H s->t σ H Q->zq (model X.prog X.w) X.A (eval e X.env) (EP X aB σ Q) X.xe s
def PT(X:Cx)(e:qu)(t:TT):Prop:=
 ∀ (aB:List (qk×Obj)) (s:qy) (σ:St) (H:Hp) (Q:Bool->Hp->Prop),Inv X aB σ H s->t σ H Q->zq (model X.prog X.w) X.A (isTrue e X.env (eval e X.env)) (TP X aB σ Q) X.xe s
def PW(X:Cx)(e:qu)(t:TT):Prop:=
 ∀ (kG:Sem qj) (aB:List (qk×Obj)) (s:qy) (σ:St) (H:Hp) (Q:Bool->Hp->Prop),Inv X aB σ H s->t σ H Q->zq (model X.prog X.w) X.A (isTrue e X.env kG) (TP X aB σ Q) X.xe s
def PW.pt{t:TT}(h:PW X e t):PT X e t:=h _
def PA(X:Cx)(es:List qu)(t:TA):Prop:=
 ∀ (pos:Pos) (aB:List (qk×Obj)) (s:qy) (σ:St) (H:Hp) (Q:List V->Hp->Prop),Inv X aB σ H s->t σ H Q->zq (model X.prog X.w) X.A (spliced (backTo pos (zx es X.env))) (AP X aB σ Q) X.xe s
def PS(X:Cx)(st:xx)(t:TS):Prop:=
 ∀ (aB:List (qk×Obj)) (s:qy) (σ:St) (H:Hp) (D:Ends),Inv X aB σ H s->t D σ H->zq (model X.prog X.w) X.A (exec st X.env) (SP X aB D) X.xe s
def dM(X:Cx)(st:List xx)(t:TS):Prop:=
 ∀ (aB:List (qk×Obj)) (s:qy) (σ:St) (H:Hp) (D:Ends),Inv X aB σ H s->t D σ H->zq (model X.prog X.w) X.A (execs st X.env) (SP X aB D) X.xe s
def bC{α:Type}{t:Sem α}{Q Q':α->qy->Prop}{E:qj->qy->Prop}(h:zq M A t Q E s)(hQ:∀ a s,Q a s->Q' a s):zq M A t Q' E s:=wpAny_mono h hQ λ _ _ x=>x
end L2
namespace L2
open PySem PySem.Spec PyProof.Rows
def bin{ta tb:TE}(ha:PE X a ta)(hb:PE X b tb){R:V->V->Hp->Prop}(I:Inv X aB σ H s)(h:ta σ H λ x H1=>tb σ H1 λ y H2=>R x y H2){α:Type}{Q:α->qy->Prop}{f:qj->qj->Sem α}(hf:∀ v u s2 x y H2,Inv X aB σ H2 s2->aY x v->aY y u->R x y H2->zq (model X.prog X.w) X.A (f v u) Q X.xe s2) :
 zq (model X.prog X.w) X.A (eval a X.env) (λ v s₁=>zq (model X.prog X.w) X.A (eval b X.env) (λ u s₂=>zq (model X.prog X.w) X.A (f v u) Q X.xe s₂) X.xe s₁) X.xe s:=by
 refine bC (ha aB s σ H _ I h) λ v s1 hPq0=>?_
 let(x,H1,I1,r1,q1):=hPq0;refine bC (hb aB s1 σ H1 _ I1 q1) λ u s2 hPq1=>?_
 let(y,H2,I2,r2,q2):=hPq1;exact hf v u s2 x y H2 I2 r1 r2 q2
def uN(i:Nat):TE:=λ σ H Q=>∃ v,σ[i]?=qz (qz v)/\Q v H
def tC(v:V):TE:=λ _ H Q=>Q v H
def aEf{X:Cx}{i:Nat}{x:Str}{pos:Pos}(hN:X.N[i]?=qz x)(hv:uW X.env.scope x)(hd:(x==("__debug__" : Str))=false:=by decide)(hcd:(x==("__classdict__" : Str))=false:=by decide):PE X (.Name x pos) (uN i):=by
 intro aB s σ H Q I h;let(v,e,h):=h;let(m,hn,hl):=I.loc;let(u,r,l):=hl i x v hN e hv;have cV:EP X aB σ Q u s:=(v,H,I,r,h,);rcases l with ⟨hk,hm⟩|⟨hk,c,hc,hcell⟩
 .exact wpAny_Name (wpAny_loadName_local I.ok.kind hk hn hm cV) hd
 .rcases hk with hk|hk
  .exact wpAny_Name (wpAny_loadName_cell I.ok.kind hk hc hcell cV) hd
  .exact wpAny_Name (wpAny_loadName_free I.ok.kind hk hc hcell cV hcd) hd
def aWc{i j pos}:PE X (.Constant (.int i) j pos) (tC (.int i)):=λ _ _ _ H _ I h=>wpAny_Constant_int (.int i,H,I.tok _,(_,rfl,),h,)
def aZj{b j pos}:PE X (.Constant (.bool b) j pos) (tC (.bl b)):=λ _ _ _ H _ I h=>Constant_bool (.bl b,H,I,rfl,h,)
def aUR{j pos}:PE X (.Constant .none j pos) (tC .non):=λ _ _ _ H _ I h=>Constant_none (.non,H,I,rfl,h,)
def aV2{x j pos}:PE X (.Constant (.str x) j pos) (tC (.str x)):=λ _ _ _ H _ I h=>Calls.Constant_str (.str x,H,I.tok _,(_,rfl,),h,)
def Gl(X:Cx)(x:Str):Prop:=X.env.kindOf x=qz .globalImplicit
def aA6{E:qj->qy->Prop}{Q:qj->qy->Prop}(I:Inv X aB σ H s)(hg:Gl X x)(hm:X.mg x=qz u)(h:Q u s)(hd:(x==("__debug__" : Str))=false:=by decide):zq (model X.prog X.w) X.A (eval (.Name x pos) X.env) Q E s:=
 Calls.Name_function_global I.ok.kind hg (Calls.loadGlobal_global (by rw[I.ok.glob];exact I.mod.glob.keeps I.bk) hm h) hd
def pB{X:Cx}{E:qj->qy->Prop}{aB:List (qk×Obj)}{s:qy}{σ:St}{H:Hp}{x:Str}{u:qj}{pos:Pos}{Q:qj->qy->Prop}(I:Inv X aB σ H s)(hg:Gl X x)(hm:X.mg x=qx)(hv:vy x=qz u)(h:Q u s)
 (hn:x ≠ "__name__":=by decide) (hd:(x==("__debug__" : Str))=false:=by decide):zq (model X.prog X.w) X.A (eval (.Name x pos) X.env) Q E s:=by let(mb,h1,h2):=I.mod.blt;exact Calls.Name_function_global I.ok.kind hg (Calls.loadGlobal_builtin (by rw[I.ok.glob];exact I.mod.glob.keeps I.bk) hm (by rw[I.ok.blt];exact h1.keeps I.bk) ((h2 x hn).trans hv) h) hd
def aJH(hg:Gl X x)(hm:X.mg x=qz u)(r:aY v u)(hd:(x==("__debug__" : Str))=false:=by decide):PE X (.Name x pos) (tC v):=
 λ _ _ _ H _ I h=>aA6 I hg hm (v,H,I,r,h,) hd
def PC(X:Cx)(op:jj)(a b:qu)(t:TE):Prop:=
 ∀ (aB:List (qk×Obj)) (s:qy) (σ:St) (H:Hp) (Q:VK),Inv X aB σ H s->t σ H Q ->
  zq (model X.prog X.w) X.A (eval a X.env) (λ v s₁=>zq (model X.prog X.w) X.A (eval b X.env) (λ u s₂=>zq (model X.prog X.w) X.A (xk op v u) (EP X aB σ Q) X.xe s₂) X.xe s₁) X.xe s
def aIA(b:qu)(h:op≠.In)(h2:op≠.NotIn):xw op b=false:=by
 have e1:(op==CmpOp.In)=false:=by cases op<;>first|rfl|exact absurd rfl h
 have e2:(op==CmpOp.NotIn)=false:=by cases op<;>first|rfl|simp_all
 cases b<;>simp[xw,e1,e2]
def tB(t:TE):TT:=λ σ H Q=>t σ H λ x H1=>∃ c,x=.bl c/\Q c H1
def aWE{t:TE}(h:PC X op a b t)(h1:xw op b=false:=by first|exact aIA _ (·) (·)|rfl):PE X (.Compare a [op] [b] pos) t:=λ aB s σ H Q I hw=>wpAny_Compare1 (h aB s σ H Q I hw) h1
def aWm{t:TE}(h:PC X op a b t)(h1:xw op b=false:=by first|exact aIA _ (·) (·)|rfl):PT X (.Compare a [op] [b] pos) (tB t):=by intro aB s σ H Q I hw;refine wpAny_isTrue_Compare1 (bC (h aB s σ H _ I hw) λ v s1 h1=>bC h1 λ u s2 h2=>bC h2 λ c s3 hPq2=>?_) h1;let(x,H1,I1,r1,q1):=hPq2;let(d,rfl,q):=q1;cases r1;exact jz (H1,I1,q,)
def aNw(t u:TT):TT:=λ σ H Q=>t σ H λ c H1=>if c=true then u σ H1 Q else Q false H1
def tOr(t u:TT):TT:=λ σ H Q=>t σ H λ c H1=>if c=true then Q true H1 else u σ H1 Q
def bAc(t:TT):TT:=λ σ H Q=>t σ H λ c H1=>Q (!c) H1
def aSK{tA:TT}(ha:PT X a tA):PW X (.BoolOp .And [a] pos) tA:=by
 intro wh aB s σ H Q I h;refine isTrue_and (bC (ha aB s σ H Q I h) λ c s1 e=>?_);cases c with
 |true=>exact isTrue_and_nil e|false=>exact e
def aWZ{tA:TT}(ha:PT X a tA):PW X (.BoolOp .Or [a] pos) tA:=by
 intro wh aB s σ H Q I h;refine isTrue_or (bC (ha aB s σ H Q I h) λ c s1 e=>?_);cases c with
 |false=>exact isTrue_or_nil e|true=>exact e
def aKs{tA tB':TT}{cK:List qu}(ha:PT X a tA)(hb:PW X (.BoolOp .And (b::cK) pos) tB'):PW X (.BoolOp .And (a::b::cK) pos) (aNw tA tB'):=by
 intro wh aB s σ H Q I h;refine isTrue_and (bC (ha aB s σ H _ I h) λ c s1 hPq3=>?_);let(H1,I1,q1):=hPq3;cases c with
 |true=>exact hb wh aB s1 σ H1 Q I1 q1|false=>exact(H1,I1,q1,)
def aMo{tA tB':TT}{cK:List qu}(ha:PT X a tA)(hb:PW X (.BoolOp .Or (b::cK) pos) tB'):PW X (.BoolOp .Or (a::b::cK) pos) (tOr tA tB'):=by
 intro wh aB s σ H Q I h;refine isTrue_or (bC (ha aB s σ H _ I h) λ c s1 hPq4=>?_);let(H1,I1,q1):=hPq4;cases c with
 |true=>exact(H1,I1,q1,)|false=>exact hb wh aB s1 σ H1 Q I1 q1
def aWy{tA:TT}(ha:PT X a tA):PT X (.UnaryOp .Not a pos) (bAc tA):=by intro aB s σ H Q I h;exact isTrue_not (ha aB s σ H (λ c H1=>Q (!c) H1) I h)
def aM0(ta tb:TE):TE:=λ σ H Q=>ta σ H λ x H1=>∃ c,x=.bl c/\if c=true then tb σ H1 Q else Q (.bl false) H1
def aNM(ta tb:TE):TE:=λ σ H Q=>ta σ H λ x H1=>∃ c,x=.bl c/\if c=true then Q (.bl true) H1 else tb σ H1 Q
def aXU(ta:TE):TE:=λ σ H Q=>ta σ H λ x H1=>∃ c,x=.bl c/\Q (.bl (!c)) H1
def aK7{op}{t:TE}(h:PE X a t):PE X (.BoolOp op [a] pos) t:=λ aB s σ H Q I hw=>BoolOp_one (h aB s σ H Q I hw)
def aLE{ta tb:TE}{cK:List qu}(ha:PE X a ta)(hb:PE X (.BoolOp .And (b::cK) pos) tb):PE X (.BoolOp .And (a::b::cK) pos) (aM0 ta tb):=by
 intro aB s σ H Q I h;refine BoolOp_and (bC (ha aB s σ H _ I h) λ v s1 hPq5=>?_);let(x,H1,I1,r1,q1):=hPq5;let(c,rfl,q1):=q1;cases r1;refine jz ?_;cases c with
 |true=>exact hb aB s1 σ H1 Q I1 q1|false=>exact(.bl false,H1,I1,rfl,q1,)
def aMy{ta tb:TE}{cK:List qu}(ha:PE X a ta)(hb:PE X (.BoolOp .Or (b::cK) pos) tb):PE X (.BoolOp .Or (a::b::cK) pos) (aNM ta tb):=by
 intro aB s σ H Q I h;refine BoolOp_or (bC (ha aB s σ H _ I h) λ v s1 hPq6=>?_);let(x,H1,I1,r1,q1):=hPq6;let(c,rfl,q1):=q1;cases r1;refine jz ?_;cases c with
 |false=>exact hb aB s1 σ H1 Q I1 q1|true=>exact(.bl true,H1,I1,rfl,q1,)
def aWK{ta:TE}(ha:PE X a ta):PE X (.UnaryOp .Not a pos) (aXU ta):=by intro aB s σ H Q I h;refine UnaryOp_ (bC (ha aB s σ H _ I h) λ v s1 hPq7=>?_);let(x,H1,I1,r1,q1):=hPq7;let(c,rfl,q1):=q1;cases r1;exact not_of (jz (.bl (!c),H1,I1,rfl,q1,))
def tIf(t:TT)(ta tb:TE):TE:=λ σ H Q=>t σ H λ c H1=>if c=true then ta σ H1 Q else tb σ H1 Q
def aRc{ta tb:TE}{tA:TT}(hc:PT X c tA)(ha:PE X a ta)(hb:PE X b tb):PE X (.IfExp c a b pos) (tIf tA ta tb):=by
 intro aB s σ H Q I h;refine wpAny_IfExp (bC (hc aB s σ H _ I h) λ d s1 hPq8=>?_);let(H1,I1,q1):=hPq8;cases d with
 |true=>exact ha aB s1 σ H1 Q I1 q1|false=>exact hb aB s1 σ H1 Q I1 q1
end L2
namespace L2
open PySem PySem.Spec PyProof.Rows
def cB(K:FrG)(H:Hp)(a:qk)(xs:List V):Prop:=
 Rd H a (.lst xs) \/
  ∃ (o:Obj) (aG:Array qj) (n:Nat),K.lookup a=qz o/\o.cls=.type "list" /\ o.dict=qx/\o.data=.seq aG n/\aG.size<=qo/\aZ xs aG.toList
def cN(K:FrG)(H:Hp)(a:qk)(xs:List V):Prop:=
 Rd H a (.tup xs) \/
  ∃ (o:Obj) (aG:Array qj) (n:Nat),K.lookup a=qz o/\o.cls=.type "tuple" /\ o.data=.seq aG n/\aG.size<=qo/\aZ xs aG.toList
def bAt:qj->Option V
 |.none=>qz .non|.bool b=>qz (.bl b)|.int i _=>qz (.int i)|.str x _=>qz (.str x)|.bytes b _=>qz (.byt b)|.float b _=>qz (.flt b)|.ref a=>qz (.ref a)|.type n=>qz (.ty n)|_=>qx
def aY.abs(r:aY x u):bAt u=qz x:=by
 cases x with
 |non=>cases r;rfl|bl _=>cases r;rfl
 |int _=>let(t,rfl):=r;rfl
 |str _=>let(t,rfl):=r;rfl
 |byt _=>let(t,rfl):=r;rfl
 |flt _=>let(t,rfl):=r;rfl
 |ref _=>cases r;rfl|ty _=>cases r;rfl
def aY.inj(r:aY x u)(q:aY y u):x=y:=Option.some.inj (r.abs.symm.trans q.abs)
def aZ.inj:∀ {xs ys:List V}{us:List qj},aZ xs us->aZ ys us->xs=ys
 |_,_,_,.nil,.nil=>rfl|_,_,_,.cons r t,.cons r' t'=>by rw[r.inj r',aZ.inj t t']
variable {K:FrG}
section
variable {X:Cx}{aB:List (qk×Obj)}{σ:St}{H:Hp}{s:qy}{a:qk}{xs ys:List V}
def cB.of(h:H a=qz (.lst xs)):cB K H a xs:=.inl (.inl h)
def cN.of(h:H a=qz (.tup xs)):cN K H a xs:=.inl (.inl h)
def Inv.list(I:Inv X aB σ H s)(h:cB X.K H a xs):∃ aG:List qj,aZ xs aG/\PlainL s.heap a aG.toArray/\↑xs<=qo:=by
 rcases h with h|⟨o,aG,n,hk,hc,hd,hs,hz,r⟩
 .let(z,aG,n,r,e):=h.ok I.hok;exact(aG,r,(_,n,e,rfl,rfl,rfl,),z,)
 .refine(aG.toList,r,(o,n,I.kIn a o hk,hc,hd,by simpa using hs,),?_,);have e:=r.length;simp_all
def Inv.tuple(I:Inv X aB σ H s)(h:cN X.K H a xs):∃ aG:List qj,aZ xs aG/\IsTup s.heap a aG.toArray/\↑xs<=qo:=by
 rcases h with h|⟨o,aG,n,hk,hc,hs,hz,r⟩
 .let(z,aG,r,p):=h.ok I.hok;exact(aG,r,p,z,)
 .refine(aG.toList,r,(o,I.kIn a o hk,hc,n,by simpa using hs,),?_,);have e:=r.length;simp_all
def Inv.list_inj(I:Inv X aB σ H s)(h:cB X.K H a xs)(h':cB X.K H a ys):xs=ys:=by
 let(aG,r,(o,n,e,_,_,d),_):=I.list h;let(its',r',(o',n',e',_,_,d'),_):=I.list h';rw[e] at e';cases e';rw[d] at d';injection d' with d1 _
 have:aG=its':=by simp_all
 subst this;exact r.inj r'
def Inv.tuple_inj(I:Inv X aB σ H s)(h:cN X.K H a xs)(h':cN X.K H a ys):xs=ys:=by
 let(aG,r,(o,e,_,n,d),_):=I.tuple h;let(its',r',(o',e',_,n',d'),_):=I.tuple h';rw[e] at e';cases e';rw[d] at d';injection d' with d1 _
 have:aG=its':=by simp_all
 subst this;exact r.inj r'
end
noncomputable abbrev Cx.wish(X:Cx)(E:qj->qy->Prop):Cx:={X with xe:=E }
noncomputable abbrev Cx.nox(X:Cx):Cx:=X.wish λ _ _=>False
variable {X:Cx}
def Cx.Ok.wish(ok:X.Ok)(E:qj->qy->Prop):(X.wish E).Ok:=
 (ok.mod,ok.kind,ok.glob,ok.blt,ok.above,ok.inj,ok.has,ok.cab,ok.hd,ok.frames,ok.stk,ok.exf,ok.bs,ok.bsz,ok.noex,ok.exfs,ok.funs,ok.frf,)
def Cx.Ok.unwish{E:qj->qy->Prop}(ok:(X.wish E).Ok):X.Ok:=
 (ok.mod,ok.kind,ok.glob,ok.blt,ok.above,ok.inj,ok.has,ok.cab,ok.hd,ok.frames,ok.stk,ok.exf,ok.bs,ok.bsz,ok.noex,ok.exfs,ok.funs,ok.frf,)
section
variable {X:Cx}{aB:List (qk×Obj)}{σ:St}{H:Hp}{s:qy}{E:qj->qy->Prop}
def Inv.wish(I:Inv X aB σ H s)(E:qj->qy->Prop):Inv (X.wish E) aB σ H s:=(I.ok.wish E,I.os,I.bare,I.base,I.loc,I.cell,I.free,I.freeC,I.pin,I.hok,I.len,)
def Inv.unwish(I:Inv (X.wish E) aB σ H s):Inv X aB σ H s:=(I.ok.unwish,I.os,I.bare,I.base,I.loc,I.cell,I.free,I.freeC,I.pin,I.hok,I.len,)
def SP.unwish{D:Ends}(h:SP (X.wish E) aB D f s'):SP X aB D f s':=by
 cases f with
 |next=>let(σ',H',I,q):=h;exact(σ',H',I.unwish,q,)
 |brk=>let(σ',H',I,q):=h;exact(σ',H',I.unwish,q,)
 |cont=>let(σ',H',I,q):=h;exact(σ',H',I.unwish,q,)
 |ret u=>let(v,σ',H',I,r,q):=h;exact(v,σ',H',I.unwish,r,q,)
def dM.nox{st:List xx}{t:TS}(h:dM X.nox st t):dM X st t:=λ aB s σ H D I hw=>
 wpAny_mono (h aB s σ H D (I.wish _) hw) (λ _ _ q=>q.unwish) λ _ _ z=>False.elim z
end
def aMc:TS:=λ D σ H=>D.nx σ H
def aNp(t u:TS):TS:=λ D σ H=>t {D with nx:=u D } σ H
def aJN:dM X [] aMc:=λ _ _ σ H _ I h=>wpAny_execs_nil (σ,H,I,h,)
def aIs{st:xx}{cK:List xx}{t u:TS}(h1:PS X st t)(h2:dM X cK u):dM X (st::cK) (aNp t u):=by
 intro aB s σ H D I h;refine wpAny_execs_cons (bC (h1 aB s σ H {D with nx:=u D } I h) λ f s1 q=>?_);cases f with
 |next=>
   let(σ',H',I',q):=q;exact h2 aB s1 σ' H' D I' q
 |ret v=>exact q|brk=>exact q|cont=>exact q
def Inv.quiet(I:Inv X aB σ H s):interactive X.env=false:=by simp[interactive,I.ok.kind]
def aYH(te:TE):TS:=λ D σ H=>te σ H λ _ H1=>D.nx σ H1
def aSW{te:TE}{pos:Pos}(he:PE X e te)(hs:swapsWith e qx pos.line X.env=pure false:=by rfl):PS X (.Expr e pos) (aYH te):=by intro aB s σ H D I h;exact wpAny_Expr_any (bC (he aB s σ H _ I h) λ v s1 ⟨x,H1,I1,r1,q1⟩=>(σ,H1,I1,q1,)) I.quiet hs
def bAa(te:TE):TS:=λ D σ H=>te σ H D.rt
def aWO{te:TE}(he:PE X e te):PS X (.Return (qz e) pos) (bAa te):=by intro aB s σ H D I h;exact wpAny_Return_some (bC (he aB s σ H _ I h) λ v s1 ⟨x,H1,I1,r1,q1⟩=>(x,σ,H1,I1,r1,q1,))
def aZA(c:TT)(t u:TS):TS:=λ D σ H=>c σ H λ b H1=>if b=true then t D σ H1 else u D σ H1
def aXC{tc:TT}(hc:PT X c tc)(ha:dM X a t)(hb:dM X b u):PS X (.If c a b pos) (aZA tc t u):=by
 intro aB s σ H D I h;refine wpAny_If (bC (hc aB s σ H _ I h) λ d s1 hPq9=>?_);let(H1,I1,q1):=hPq9;cases d with
 |true=>exact ha aB s1 σ H1 D I1 q1|false=>exact hb aB s1 σ H1 D I1 q1
abbrev TG:=V->St->Hp->(St->Hp->Prop)->Prop
abbrev jN:=List V->St->Hp->(St->Hp->Prop)->Prop
def PG(X:Cx)(target:qu)(t:TG):Prop:=
 ∀ (aB:List (qk×Obj)) (s:qy) (σ:St) (H:Hp) (v:V) (u:qj) (Q:St->Hp->Prop),Inv X aB σ H s->aY v u->t v σ H Q ->
  zq (model X.prog X.w) X.A (assign target X.env u) (λ _ s'=>∃ σ' H',Inv X aB σ' H' s'/\Q σ' H') X.xe s
def sF(X:Cx)(ts:List qu)(t:jN):Prop:=
 ∀ (aB:List (qk×Obj)) (s:qy) (σ:St) (H:Hp) (vs:List V) (us:List qj) (Q:St->Hp->Prop),Inv X aB σ H s->aZ vs us->t vs σ H Q ->
  zq (model X.prog X.w) X.A (assignInOrder ((xz ts X.env).map (·.2)) us) (λ _ s'=>∃ σ' H',Inv X aB σ' H' s'/\Q σ' H') X.xe s
abbrev aFH:=V->V->V->Hp->(Hp->Prop)->Prop
def aNg(X:Cx)(t:aFH):Prop:=
 ∀ (aB:List (qk×Obj)) (s:qy) (σ:St) (H:Hp) (o i v:V) (ov iv u:qj) (Q:Hp->Prop),Inv X aB σ H s->aY o ov->aY i iv->aY v u->t o i v H Q ->
  zq (model X.prog X.w) X.A (setItem ov iv u) (λ _ s'=>∃ H',Inv X aB σ H' s'/\Q H') X.xe s
def pK(i:Nat):TG:=λ v σ H Q=>Q (σ.set i (qz v)) H
def aDD(hN:X.N.Nodup)(hi:X.N[i]?=qz x)(hx:Loc X.env.scope x)(hf:X.fn x=true\/X.env.scope.names.lookup x=qz .local:=by first|exact .inl rfl|exact .inr rfl|assumption):PG X (.Name x pos) (pK i):=by intro aB s σ H v u Q I r h;exact wpAny_assign_Name (aIQ I hN hi hx r (λ s' I'=>(_,H,I',h,)) hf)
def aFm:jN:=λ vs σ H Q=>vs=[]/\Q σ H
def aFd(t:TG)(u:jN):jN:=λ vs σ H Q=>∃ v r,vs=v::r/\t v σ H λ σ' H'=>u r σ' H' Q
def aSJ:sF X [] aFm:=by intro aB s σ H vs us Q I r h;let(e,h):=h;subst e;cases r;exact assignInOrder_nil (σ,H,I,h,)
def aRP(h1:PG X e t)(h2:sF X es u)(hs:(xz (e::es) X.env).map (·.2)=assign e X.env::(xz es X.env).map (·.2):=by rfl):sF X (e::es) (aFd t u):=by
 intro aB s σ H vs us Q I r h;let(v,vr,e1,h):=h;subst e1;cases r with
 |cons r rr=>
   rw[hs];refine assignInOrder_cons (bC (h1 aB s σ H _ _ _ I r h) λ _ s1 hPq10=>?_);let(σ1,H1,I1,q1):=hPq10;exact h2 aB s1 σ1 H1 _ _ Q I1 rr q1
def bAw(K:FrG)(n:Nat)(t:jN):TG:=λ v σ H Q=>∃ a xs,v=.ref a/\cN K H a xs/\↑xs=n/\t xs σ H Q
def aVD{pos:Pos}{es:List qu}{k:Nat}{t:jN}{n:Nat}(hc:X.calm=true)(h:sF X es t)
 (hn:(xz es X.env).length=n:=by rfl) (hst:(xz es X.env).findIdx? (·.1)=qx:=by rfl):PG X (.Tuple es k pos) (bAw X.K n t):=by
 intro aB s σ H v u Q I r hw;let(a,xs,e1,hq,hl,hw):=hw;subst e1;cases r;let(aG,rv,ht,hz):=I.tuple hq;refine assign_Tuple_tuple (I.ok.hd hc) ht (by simp[hn,<- hl,rv.length]) hst λ h' hx=>?_
 have I1:Inv X aB σ H {s with heap:=h' }:=I.kept (t':=s.toks) λ b o e=>hx b o (xAj (xAa e)) e
 exact h aB _ σ H xs _ Q I1 (rv:) hw
def aNK(to ti:TE)(t:aFH):TG:=λ v σ H Q=>to σ H λ o H1=>ti σ H1 λ i H2=>t o i v H2 λ H3=>Q σ H3
def aWN{to ti:TE}(ho:PE X o to)(hi:PE X i ti)(hs:aNg X t)(ha:∀ v,assign (.Subscript o i pos) X.env v=(do
   let ov <- holding [v] (eval o X.env);let iv <- holding [v,ov] (eval i X.env)
   standAt pos
   holding [v,ov,iv] (setItem ov iv v)
   release [v,ov,iv] []):=by intro _;rfl):PG X (.Subscript o i pos) (aNK to ti t):=by intro aB s σ H v u Q I r h;rw[ha];refine wB (xq (bC (ho aB s σ H _ I h) λ ov s1 hPq11=>?_));let(x,H1,I1,r1,q1):=hPq11;refine wB (xq (bC (hi aB s1 σ H1 _ I1 q1) λ iv s2 hPq12=>?_));let(y,H2,I2,r2,q2):=hPq12;refine wB (yw (wB (xq (bC (hs aB s2 σ H2 x y v ov iv u _ I2 r1 r2 r q2) λ _ s3 hPq13=>?_))));let(H3,I3,q3):=hPq13;exact wpAny_release (σ,H3,I3,q3,)
def zC(te:TE)(g:TG):TS:=λ D σ H=>te σ H λ x H1=>g x σ H1 D.nx
def aKx{pos:Pos}{te:TE}(he:PE X e te)(hg:PG X tg g)(hs:swapsWithSole [tg] e pos.line X.env=pure false:=by rfl)(hw:yv [tg] e X.env=pure qx:=by rfl)(h1:(xz [tg] X.env).map (·.2)=[assign tg X.env]:=by rfl):PS X (.Assign [tg] e pos) (zC te g):=by intro aB s σ H D I h;refine wpAny_Assign_stores (bC (he aB s σ H _ I h) λ v s1 hPq14=>?_) hs hw;let(x,H1,I1,r1,q1):=hPq14;rw[h1];exact bC (hg aB s1 σ H1 x v _ I1 r1 q1) λ _ s2 q=>q
def aWG{pos:Pos}{te:TE}(hN:X.N.Nodup)(hi:X.N[i]?=qz x)(hx:Loc X.env.scope x)(he:PE X e te)(hs:swapsWith e (qz (.Name x pos')) pos.line X.env=pure false:=by rfl)(hf:X.fn x=true\/X.env.scope.names.lookup x=qz .local:=by first|exact .inl rfl|exact .inr rfl|assumption) :
 PS X (.Assign [.Name x pos'] e pos) (zC te (pK i)):=by intro aB s σ H D I h;refine wpAny_Assign_Name (bC (he aB s σ H _ I h) λ v s1 hPq15=>?_) hs;let(y,H1,I1,r1,q1):=hPq15;exact aIQ I1 hN hi hx r1 (λ s2 I2=>(_,H1,I2,q1,)) hf
def aUz(c:TT)(tb:TS):TS:=λ D σ H=>∃ W:Nat->St->Hp->Prop,(∃ m,W m σ H)/\∀ m σ H,W m σ H ->
 c σ H λ b H1=>if b=true then ∃ N:St->Hp->Prop,(∀ σ' H',N σ' H'->∃ m',m'<m/\W m' σ' H')/\tb {D with nx:=N,ct:=N,bk:=D.nx } σ H1 else D.nx σ H1
def aQ8{tc:TT}(hp:PassesOwn (model X.prog X.w) X.A X.env X.xe)(hc:PT X c tc)(hb:dM X body tb):PS X (.While c body [] pos) (aUz tc tb):=by
 intro aB s σ H D I h;let(W,(m0,w0),turn):=h;refine wpAny_While (codeAny_whileLoop (λ n s'=>∃ σ' H',Inv X aB σ' H' s'/\W n σ' H') ?_ m0 ⟨σ,H,I,w0⟩);rintro n s1 ⟨σ1,H1,I1,w1⟩;refine xo hp (bC (hc aB s1 σ1 H1 _ I1 (turn n σ1 H1 w1)) λ b s2 hPq16=>?_);let(H2,I2,q2):=hPq16;cases b with
 |true=>
   let(N,hN,q2):=q2;rw[if_pos rfl];refine xo hp (bC (hb aB s2 σ1 H2 _ I2 q2) λ f s3 q3=>?_);cases f with
   |next=>
     let(σ3,H3,I3,n3):=q3;let(m',hm,w3):=hN σ3 H3 n3;exact(m',hm,σ3,H3,I3,w3,)
   |cont=>
     let(σ3,H3,I3,n3):=q3;let(m',hm,w3):=hN σ3 H3 n3;exact(m',hm,σ3,H3,I3,w3,)
   |brk=>exact q3|ret v=>exact q3
 |false=>
   rw[if_neg yBi];exact wpAny_execs_nil (σ1,H2,I2,q2,)
structure It where
 go:Nat->Hp->Prop
 yld:Nat->Hp->V->Hp->Prop
 stop:Nat->Hp->Prop
def gM(X:Cx)(aB:List (qk×Obj))(H:Hp)(b:qk):Prop:=
 H b=qx/\b≠X.env.locals/\b ∉ X.fs/\(b∈X.ex\/X.s₀.heap.objs.size<=b)/\(∀ x c,X.env.cells.lookup x=qz c->c≠b)/\∀ p∈X.pn++aB,p.1≠b
def Inv.fpOk(I:Inv X aB σ H s)(hb:s.heap.objs.size<=b)(hn:H' b=qx):gM X aB H' b:=by
 refine(hn,yHa (xAb I.lt hb),I.nofs hb,.inr (xAh I.sz hb),λ x c e z=>?_,λ p hp z=>?_,)
 .let(v,q):=I.cell x c e;exact absurd (xAb q.lt (by rw[z];exact hb)) (yCs _)
 .exact absurd (xAb (xAa (I.pin p hp).1) (by rw[z];exact hb)) (yCs _)
structure Turn(P:zv)(w:zw)(K:FrG)(tg:qu)(J:It)(fp:List qk)(it:qk)(tn:Nat->Heap->Prop):Prop where
 mem:it∈fp
 obj:∀ i h,tn i h->∀ b∈fp,∃ o,h.get? b=qz o/\∀ v,o.data≠.cell v
 keep:∀ i h h',tn i h->(∀ b∈fp,∀ o,h.get? b=qz o->h'.get? b=qz o)->tn i h'
 item:∀ (X:Cx),X.prog=P->X.w=w->X.K=K->X.calm=true->∀ (i:Nat) (aB:List (qk×Obj)) (s:qy) (σ:St) (H:Hp) (E:qj->qy->Prop),Inv X aB σ H s->(∀ b∈fp,gM X aB H b)->tn i s.heap->J.go i H ->
  zq (model P w) X.A (yu (.ref it)) (λ r s1=>∃ u,r=qz u /\
   zq (model P w) X.A (wj tg (.ref it) u) (λ _ s2=>∃ x H',Inv X aB σ H' s2/\aY x u/\J.yld i H x H'/\tn (i+1) s2.heap/\∀ b∈fp,H' b=qx) E s1) E s
 done:∀ (X:Cx),X.prog=P->X.w=w->X.K=K->X.calm=true->∀ (i:Nat) (aB:List (qk×Obj)) (s:qy) (σ:St) (H:Hp) (E:qj->qy->Prop),Inv X aB σ H s->(∀ b∈fp,gM X aB H b)->tn i s.heap->J.stop i H ->
  zq (model P w) X.A (yu (.ref it)) (λ r s1=>r=qx/\Inv X aB σ H s1) E s
 self:∀ (A:zy) (i:Nat) (s:qy) (Q:qj->qy->Prop) (E:qj->qy->Prop),tn i s.heap->Q (.ref it) s->zq (model P w) A (pyIter (.ref it)) Q E s
abbrev TI:=St->Hp->(It->Hp->Prop)->Prop
def PIE(X:Cx)(aB:List (qk×Obj))(σ:St)(tg:qu)(R:It->Hp->Prop)(itv:qj)(s2:qy):Prop:=
 ∃ (it:qk) (fp:List qk) (tn:Nat->Heap->Prop) (J:It) (H':Hp),itv=.ref it/\Inv X aB σ H' s2/\Turn X.prog X.w X.K tg J fp it tn/\tn 0 s2.heap/\(∀ b∈fp,gM X aB H' b)/\R J H'
def PI(X:Cx)(tg iter:qu)(wi:TI):Prop:=
 ∀ (aB:List (qk×Obj)) (s:qy) (σ:St) (H:Hp) (R:It->Hp->Prop),Inv X aB σ H s->wi σ H R ->
  zq (model X.prog X.w) X.A (eval iter X.env) (λ v s1=>zq (model X.prog X.w) X.A (pyIter v) (PIE X aB σ tg R) X.xe s1) X.xe s
def aBE{E:qj->qy->Prop}{s:qy}{Q:Unit->qy->Prop}(ho:s.heap.get? it=qz o)(hc:o.cls=.type n)(hd:o.data=.fields vs)(hn:["enumerate","zip","dict_itemiterator","dict_reverseitemiterator","odict_iterator","itertools.zip_longest","itertools.pairwise"].contains n=false)(hQ:Q () s):zq M A (wj tg (.ref it) u) Q E s:=by
 unfold wj;cases tg<;>first
  |exact wP hQ
  | (cases u<;>first
      |exact wP hQ
      | (refine wB (wpAny_load ho ?_)
         rw[hc,hd];show zq M A (if (["enumerate","zip","dict_itemiterator","dict_reverseitemiterator","odict_iterator","itertools.zip_longest","itertools.pairwise"].contains n&&vs[0]?==qz (yk _))=true then _ else _) Q E s;rw[if_neg (by intro h;rw[hn,yBl] at h;cases h)]
         exact wP hQ))
def Itl(K:FrG)(a:qk):It:=
 (λ i H=>∃ xs x,cB K H a xs/\xs[i]?=qz x,λ i H x H'=>H'=H/\∀ xs,cB K H a xs->xs[i]?=qz x,λ i H=>∃ xs,cB K H a xs/\↑xs<=i,)
def Itt(K:FrG)(a:qk):It:=
 (λ i H=>∃ xs x,cN K H a xs/\xs[i]?=qz x,λ i H x H'=>H'=H/\∀ xs,cN K H a xs->xs[i]?=qz x,λ i H=>∃ xs,cN K H a xs/\↑xs<=i,)
def Itr(lo:Int)(n:Nat):It:=(λ i _=>i<n,λ i H x H'=>H'=H/\x=.int (lo+i),λ i _=>n<=i,)
def aQw(a it:qk):Turn P w K tg (Itl K a) [it] it (λ i h=>h.IsListIter it a i) where
 mem:=by simp
 obj:=λ i h st b hb=>by
  have e:b=it:=(hb:)
  subst e;let(o,e,c,d):=st;simp_all
 keep:=λ i h h' st k=>st.at λ o e=>k it (by simp) o e
 item:=by
  intro X hP hw hK hc i aB s σ H E I hf st hg;subst hP hw hK;let(xs,x,hq,hx):=hg;let(aG,rv,p,hz):=I.list hq;let(u,hu,ru):=rv.get hx;let(f0,f1,f2,f3,f4,f5):=hf it (by simp);refine vk st p.isList (x:=u) (hu:) λ h' st' sb=>?_
  have I1:Inv X aB σ H {s with heap:=h' }:=I.turned (t':=s.toks) (λ b o hb e=>(sb.2 b hb).trans e) f0 f1 f3 f4 f5;let(o,e,c,d):=id st';exact(u,rfl,aBE (s:={s with heap:=h' }) e c d (·) (x,H,I1,ru,(rfl,λ ys hy=>by rw[I.list_inj hy hq];exact hx,),st',λ b hb=>(hf b hb).1,),)
 done:=by
  intro X hP hw hK hc i aB s σ H E I hf st hg;subst hP hw hK;let(xs,hq,hx):=hg;let(aG,rv,p,hz):=I.list hq;let(f0,f1,f2,f3,f4,f5):=hf it (by simp);have hl:=rv.length;exact wz (I.ok.hd hc) st p.isList (by simp;omega) λ h' eb=>(rfl,I.turned (t':=s.toks) (λ b o hb e=>eb b o hb e) f0 f1 f3 f4 f5,)
 self:=λ _ _ _ _ _ st h=>wpAny_pyIter_listiter st h
def aPo(a it:qk):Turn P w K tg (Itt K a) [it] it (λ i h=>h.IsTupleIter it a i) where
 mem:=by simp
 obj:=λ i h st b hb=>by
  have e:b=it:=(hb:)
  subst e;let(o,e,c,d):=st;simp_all
 keep:=λ i h h' st k=>st.at λ o e=>k it (by simp) o e
 item:=by
  intro X hP hw hK hc i aB s σ H E I hf st hg;subst hP hw hK;let(xs,x,hq,hx):=hg;let(aG,rv,p,hz):=I.tuple hq;let(u,hu,ru):=rv.get hx;let(f0,f1,f2,f3,f4,f5):=hf it (by simp);refine wpAny_pyNext_tuple_item st (show s.heap.IsTuple a aG.toArray from p) (x:=u) (hu:) λ h' st' sb=>?_
  have I1:Inv X aB σ H {s with heap:=h' }:=I.turned (t':=s.toks) (λ b o hb e=>(sb.2 b hb).trans e) f0 f1 f3 f4 f5;let(o,e,c,d):=id st';exact(u,rfl,aBE (s:={s with heap:=h' }) e c d (·) (x,H,I1,ru,(rfl,λ ys hy=>by rw[I.tuple_inj hy hq];exact hx,),st',λ b hb=>(hf b hb).1,),)
 done:=by
  intro X hP hw hK hc i aB s σ H E I hf st hg;subst hP hw hK;let(xs,hq,hx):=hg;let(aG,rv,p,hz):=I.tuple hq;let(f0,f1,f2,f3,f4,f5):=hf it (by simp);have hl:=rv.length;exact wpAny_pyNext_tuple_end (I.ok.hd hc) st (show s.heap.IsTuple a aG.toArray from p) (by simp;omega) λ h' eb=>(rfl,I.turned (t':=s.toks) (λ b o hb e=>eb b o hb e) f0 f1 f3 f4 f5,)
 self:=λ _ _ _ _ _ st h=>wpAny_pyIter_tupleiter st h
def aPP(it:qk)(lo:Int)(n:Nat):Turn P w K tg (Itr lo n) [it] it (λ i h=>kz h it (lo+(i:Nat)*1) ((n:Int)-(i:Nat)) 1) where
 mem:=by simp
 obj:=λ i h st b hb=>by
  simp_all
 keep:=λ i h h' st k=>k it (by simp) _ st
 item:=by
  intro X hP hw hK hc i aB s σ H E I hf st hg;subst hP hw hK;let(f0,f1,f2,f3,f4,f5):=hf it (by simp);have W:=Walks.range (prog:=X.prog) (w:=X.w) (I.ok.hd hc) it lo 1 n;refine W.item i s _ _ hg st λ v h' tk hv st' kk=>?_
  let(t,rfl):=hv;have I1:Inv X aB σ H {s with heap:=h',toks:=tk }:=I.turned (λ b o hb e=>kk b o (hb:) e) f0 f1 f3 f4 f5;refine(_,rfl,aBE (s:={s with heap:=h',toks:=tk }) (n:="range_iterator") st' rfl rfl (·) (.int (lo+i),H,I1,(t,?_,),(rfl,rfl,),st',λ b hb=>(hf b hb).1,),);rw[Int.mul_one]
 done:=by
  intro X hP hw hK hc i aB s σ H E I hf st hg;subst hP hw hK;let(f0,f1,f2,f3,f4,f5):=hf it (by simp);exact wpAny_pyNext_range_end (I.ok.hd hc) st (by have:n<=i:=hg;omega) λ h' eb=>(rfl,I.turned (t':=s.toks) (λ b o hb e=>eb b o hb e) f0 f1 f3 f4 f5,)
 self:=λ _ _ _ _ _ st h=>kq st h
end L2
namespace L2
open PySem PySem.Spec PyProof.Rows
def aXW(K:FrG)(tl:TE):TI:=λ σ H R=>tl σ H λ x H1=>∃ a,x=.ref a/\(∃ xs,cB K H1 a xs)/\R (Itl K a) H1
def aZG(K:FrG)(tl:TE):TI:=λ σ H R=>tl σ H λ x H1=>∃ a,x=.ref a/\(∃ xs,cN K H1 a xs)/\R (Itt K a) H1
def aTJ{tl:TE}(hl:PE X l tl):PI X tg l (aXW X.K tl):=by
 intro aB s σ H R I h;refine bC (hl aB s σ H _ I h) λ v s1 hPq17=>?_
 let(x,H1,I1,r1,q1):=hPq17;let(a,e,(xs,hq),q):=q1;subst e;cases r1;let(aG,rv,p,hz):=I1.list hq;refine wq p.isList ?_;refine(s1.heap.objs.size,[s1.heap.objs.size],_,_,H1,rfl,I1.kept (t':=s1.toks) λ b o e=>hpS _ e,aQw a _,(_,xAd _ rfl,rfl,rfl,),λ b hb=>?_,q,);have e:b=s1.heap.objs.size:=(hb:)
 subst e;exact I1.fpOk (yAc _) (I1.hok.fresh (yAc _))
def aWJ{tl:TE}(hl:PE X l tl):PI X tg l (aZG X.K tl):=by
 intro aB s σ H R I h;refine bC (hl aB s σ H _ I h) λ v s1 hPq18=>?_
 let(x,H1,I1,r1,q1):=hPq18;let(a,e,(xs,hq),q):=q1;subst e;cases r1;let(aG,rv,p,hz):=I1.tuple hq;refine wpAny_pyIter_tuple (show s1.heap.IsTuple a aG.toArray from p) ?_;refine(s1.heap.objs.size,[s1.heap.objs.size],_,_,H1,rfl,I1.kept (t':=s1.toks) λ b o e=>hpS _ e,aPo a _,(_,xAd _ rfl,rfl,rfl,),λ b hb=>?_,q,);have e:b=s1.heap.objs.size:=(hb:)
 subst e;exact I1.fpOk (yAc _) (I1.hok.fresh (yAc _))
def aIh{R:It->Hp->Prop}{E:qj->qy->Prop}{lo hi:Int}(I:Inv X aB σ H s)(h1 : -(2^62)<=lo)(h2:lo<2^62)(h3 : -(2^62)<=hi)(h4:hi<2^62)(q:R (Itr lo (hi-lo).toNat) H):zq (model X.prog X.w) X.A (pyIter (.ref s.heap.objs.size)) (PIE X aB σ tg R) E {s with heap:=s.heap.push {cls:=.type "range",data:=.fields #[.int lo t,.int hi u,.int 1 v] },toks:=tk }:=by
 refine wpAny_pyIter_range (IsRange.new ..) (small_one h1 h2 h3 h4) ?_;have I1:Inv X aB σ H {s with heap:=s.heap.push {cls:=.type "range",data:=.fields #[.int lo t,.int hi u,.int 1 v] },toks:=tk }:=I.kept λ b o e=>hpS _ e
 refine⟨(s.heap.push {cls:=.type "range",data:=.fields #[.int lo t,.int hi u,.int 1 v] }).objs.size,[(s.heap.push {cls:=.type "range",data:=.fields #[.int lo t,.int hi u,.int 1 v] }).objs.size],_,_,H,rfl,
  I1.kept (t':=tk) λ b o e=>hpS _ e,aPP _ lo (hi-lo).toNat,?_,λ b hb=>?_,q⟩
 .have e1:lo+((0:Nat):Int)*1=lo:=by simp
  have e2:(((hi-lo).toNat:Nat):Int)-((0:Nat):Int)=yEf lo hi 1:=by rw[rangeSize_one];split<;>omega
  show kz _ _ (lo+((0:Nat):Int)*1) ((((hi-lo).toNat:Nat):Int)-((0:Nat):Int)) 1;rw[e1,e2];exact xAd _ rfl
 .have e:b=(s.heap.push {cls:=.type "range",data:=.fields #[.int lo t,.int hi u,.int 1 v] }).objs.size:=(hb:)
  subst e;exact I1.fpOk (yAc _) (I1.hok.fresh (yAc _))
def aM1(ta:TA):TI:=λ σ H R=>ta σ H λ vs H1=>∃ j:Int,vs=[.int j] /\ -(2^62)<=j/\j<2^62/\R (Itr 0 j.toNat) H1
def aLX(ta:TA):TI:=λ σ H R=>ta σ H λ vs H1=>∃ i j:Int,vs=[.int i,.int j]/\(-(2^62)<=i/\i<2^62 /\ -(2^62)<=j/\j<2^62)/\R (Itr i (j-i).toNat) H1
def aQz{ta:TA}(hg:Gl X "range")(hm:X.mg "range" = qx)(ha:PA X [a] ta)(hs:zx [a] X.env=[(false,eval a X.env)]:=by rfl):PI X tg (.Call (.Name "range" p) [a] [] pos) (aM1 ta):=by
 intro aB s σ H R I h;refine Call_ (pB I hg hm boot_range (yBm (bC (ha pos aB s σ H _ I h) λ us s1 hPq19=>?_) hs rfl));let(vs,H1,I1,r1,q1):=hPq19;let(j,e,q1,q2,q):=q1;subst e;cases r1 with
 |cons r rr=>
   cases rr;let(t,rfl):=r;exact call_range_1 (aIh I1 (!_) (!_) q1 q2 (q:))
def aQo{X:Cx}{tg:qu}{a b:qu}{ta:TA}{p pos:Pos}(hg:Gl X "range")(hm:X.mg "range" = qx)(ha:PA X [a,b] ta)(hs:zx [a,b] X.env=[(false,eval a X.env),(false,eval b X.env)]:=by rfl)(hs2:zx [b] X.env=[(false,eval b X.env)]:=by rfl) :
 PI X tg (.Call (.Name "range" p) [a,b] [] pos) (aLX ta):=by
 intro aB s σ H R I h;refine Call_ (pB I hg hm boot_range (yBm (bC (ha pos aB s σ H _ I h) λ us s1 hPq20=>?_) (by rw[hs,hs2]) (by rw[hs2];rfl)));let(vs,H1,I1,r1,q1):=hPq20;let(i,j,e,(q1,q2,q3,q4),q):=q1;subst e;cases r1 with
 |cons r rr=>
   cases rr with
   |cons r' rr=>
     cases rr;let(t,rfl):=r;let(t',rfl):=r';exact call_range_2 (aIh I1 q1 q2 q3 q4 q)
def aZW(wi:TI)(g:TG)(tb:TS):TS:=λ D σ H=>wi σ H λ J H1=>∃ W:Nat->Nat->St->Hp->Prop,(∃ m,W 0 m σ H1)/\∀ i m σ H,W i m σ H ->
 (J.stop i H/\D.nx σ H)\/(J.go i H/\∃ N:St->Hp->Prop,(∀ σ' H',N σ' H'->∃ m',m'<m/\W (i+1) m' σ' H')/\∀ x H',J.yld i H x H'->g x σ H' λ σ2 H2=>tb {D with nx:=N,ct:=N,bk:=D.nx } σ2 H2)
def xH(fp:List qk)(h:Heap):List (qk×Obj):=fp.filterMap λ b=>(h.get? b).map λ o=>(b,o)
def vU{h:Heap}(hb:b∈fp)(e:h.get? b=qz o):(b,o)∈xH fp h:=List.mem_filterMap.mpr (b,hb,by rw[e];rfl,)
def aQF(hp:p∈xH fp h):p.1∈fp/\h.get? p.1=qz p.2:=by
 let(b,hb,e):=List.mem_filterMap.mp hp;cases q:h.get? b with
 |none=>rw[q] at e;cases e
 |some o=>
   rw[q] at e;have e':(b,o)=p:=Option.some.inj e;subst e';exact(hb,q,)
def Inv.pinned(I:Inv X aB σ H s)(hf:∀ b∈fp,gM X aB H b)(ho:∀ b∈fp,∃ o,s.heap.get? b=qz o/\∀ v,o.data≠.cell v):Inv X (aB++xH fp s.heap) σ H s:=
 I.pins_of λ p hp=>(List.mem_append.mp hp).elim (λ z=>I.pin p (xAp _ z)) λ z=>by
  let(hb,e):=aQF z;let(f0,f1,f2,_):=hf p.1 hb;let(o,e',d):=ho p.1 hb;rw[e] at e';cases e';exact(e,f0,f1,f2,d,)
def Inv.unpinned(I:Inv X (aB++pl) σ H s):Inv X aB σ H s:=I.pins_of λ p hp=>I.pin p (xAp _ (List.mem_append_left _ hp))
def aUX{X:Cx}{wi:TI}(hp:PassesOwn (model X.prog X.w) X.A X.env X.xe)(hc:X.calm=true)(hi:PI X tg iter wi)(hg:PG X tg g)(hb:dM X body tb)(hs:∀ x,jq iter X.env x=pure x:=by intro _;rfl):PS X (.For tg iter body [] pos) (aZW wi g tb):=by
 intro aB s σ H D I h;refine wpAny_For (bC (hi aB s σ H _ I h) λ v s1 h1=>bC h1 λ itv s2 h2=>?_) hs;let(it,fp,tn,J,H2,e,I2,T,st2,f2,W,(m0,w0),turn):=h2;subst e;have stat:∀ {H':Hp},(∀ b∈fp,H' b=qx)->∀ b∈fp,gM X aB H' b:=λ hn b hb=>(hn b hb,(f2 b hb).2,)
 refine codeAny_forLoop_any (λ n s'=>∃ i σ' H',Inv X aB σ' H' s'/\tn i s'.heap/\(∀ b∈fp,H' b=qx)/\W i n σ' H') ?_ m0 ⟨0,σ,H2,I2,st2,λ b hb=>(f2 b hb).1,w0⟩;rintro n s3 ⟨i,σ3,H3,I3,st3,fr3,w3⟩;rcases turn i n σ3 H3 w3 with ⟨stop,qn⟩|⟨go,N,hN,step⟩
 .refine xo hp (bC (T.done X rfl rfl rfl hc i aB s3 σ3 H3 X.xe I3 (stat fr3) st3 stop) λ r s4 hPq21=>?_);let(hr,I4):=hPq21;subst hr;exact wpAny_execs_nil (σ3,H3,I4,qn,)
 .refine xo hp (bC (T.item X rfl rfl rfl hc i aB s3 σ3 H3 X.xe I3 (stat fr3) st3 go) λ r s4 hPq22=>?_);let(u,hr,h4):=hPq22;subst hr;refine xo hp (bC h4 λ _ s5 hPq23=>?_);let(x,H5,I5,r5,y5,st5,fr5):=hPq23;have I5':=I5.pinned (stat fr5) (T.obj _ _ st5);refine xo hp (bC (hg _ s5 σ3 H5 x u _ I5' r5 (step x H5 y5)) λ _ s6 hPq24=>?_);let(σ6,H6,I6,q6):=hPq24;refine xo hp (bC (hb _ s6 σ6 H6 _ I6 q6) λ f s7 q7=>?_);have again:∀ {σ7:St}{H7:Hp},Inv X (aB++xH fp s5.heap) σ7 H7 s7->N σ7 H7->∃ m,m<n/\∃ i σ' H',Inv X aB σ' H' s7/\tn i s7.heap/\(∀ b∈fp,H' b=qx)/\W i m σ' H':=λ {σ7 H7} I7 n7=>by
   let(m',hm,w7):=hN σ7 H7 n7;refine(m',hm,i+1,σ7,H7,I7.unpinned,T.keep _ _ _ st5 λ b hb o e=>(I7.pin (b,o) (xAp _ (xAp _ (vU hb e)))).1,λ b hb=>?_,w7,);let(o,e,d):=T.obj _ _ st5 b hb;exact(I7.pin (b,o) (xAp _ (xAp _ (vU hb e)))).2.1
  cases f with
  |next=>let(σ7,H7,I7,n7):=q7;exact again I7 n7
  |cont=>let(σ7,H7,I7,n7):=q7;exact again I7 n7
  |brk=>let(σ7,H7,I7,q7):=q7;exact(σ7,H7,I7.unpinned,q7,)
  |ret v=>let(x7,σ7,H7,I7,r7,q7):=q7;exact(x7,σ7,H7,I7.unpinned,r7,q7,)
end L2
namespace L2
open PySem PySem.Spec PyProof.Rows
abbrev R2:=V->V->Hp->VK->Prop
def dH(X:Cx)(f:qj->qj->Sem qj)(r:R2):Prop:=
 ∀ (aB:List (qk×Obj)) (s:qy) (σ:St) (H:Hp) (x y:V) (v u:qj) (Q:VK),Inv X aB σ H s->aY x v->aY y u->r x y H Q ->
  zq (model X.prog X.w) X.A (f v u) (EP X aB σ Q) X.xe s
def UnR(X:Cx)(f:qj->Sem qj)(r:V->Hp->VK->Prop):Prop:=
 ∀ (aB:List (qk×Obj)) (s:qy) (σ:St) (H:Hp) (x:V) (v:qj) (Q:VK),Inv X aB σ H s->aY x v->r x H Q ->
  zq (model X.prog X.w) X.A (f v) (EP X aB σ Q) X.xe s
def gK(X:Cx)(f:qj)(r:List V->Hp->VK->Prop):Prop:=
 ∀ (aB:List (qk×Obj)) (s:qy) (σ:St) (H:Hp) (xs:List V) (us:List qj) (Q:VK),Inv X aB σ H s->aZ xs us->r xs H Q ->
  zq (model X.prog X.w) X.A (call f us) (EP X aB σ Q) X.xe s
def aZv(X:Cx)(r:V->Hp->(Bool->Hp->Prop)->Prop):Prop:=
 ∀ (aB:List (qk×Obj)) (s:qy) (σ:St) (H:Hp) (x:V) (v:qj) (Q:Bool->Hp->Prop),Inv X aB σ H s->aY x v->r x H Q ->
  zq (model X.prog X.w) X.A (truthy v) (TP X aB σ Q) X.xe s
def tOp(r:R2)(ta tb:TE):TE:=λ σ H Q=>ta σ H λ x H1=>tb σ H1 λ y H2=>r x y H2 Q
def tUn(r:V->Hp->VK->Prop)(ta:TE):TE:=λ σ H Q=>ta σ H λ x H1=>r x H1 Q
def rI(C:Int->Int->Prop)(g:Int->Int->V):R2:=λ x y H Q=>∃ i j,x=.int i/\y=.int j/\C i j/\Q (g i j) H
def kC(g:Int->Int->V):R2:=λ x y H Q=>∃ i j,x=.int i/\y=.int j/\Q (g i j) H
def rU(g:Int->V):V->Hp->VK->Prop:=λ x H Q=>∃ i,x=.int i/\Q (g i) H
def aFJ{ta tb:TE}(ha:PE X a ta)(hb:PE X b tb){R:V->V->Hp->Prop}(I:Inv X aB σ H s)(h:ta σ H λ x H1=>tb σ H1 λ y H2=>R x y H2){Q:qj->qy->Prop}{f:qj->qj->Sem qj}(hf:∀ v u s2 x y H2,Inv X aB σ H2 s2->aY x v->aY y u->R x y H2->zq (model X.prog X.w) X.A (f v u) Q X.xe s2) :
 zq (model X.prog X.w) X.A (eval a X.env) (λ v s₁=>zq (model X.prog X.w) X.A (eval b X.env) (λ u s₂=>zq (model X.prog X.w) X.A (f v u) Q X.xe s₂) X.xe s₁) X.xe s:=by
 refine bC (ha aB s σ H _ I h) λ v s1 hPq25=>?_
 let(x,H1,I1,r1,q1):=hPq25;refine bC (hb aB s1 σ H1 _ I1 q1) λ u s2 hPq26=>?_
 let(y,H2,I2,r2,q2):=hPq26;exact hf v u s2 x y H2 I2 r1 r2 q2
def aE6{ta tb:TE}{r:R2}(ho:dH X (zo op) r)(ha:PE X a ta)(hb:PE X b tb):PE X (.BinOp a op b pos) (tOp r ta tb):=by intro aB s σ H Q I h;exact wpAny_BinOp (aFJ ha hb I h λ v u s2 x y H2 I2 rx ry q=>ho aB s2 σ H2 x y v u Q I2 rx ry q)
def aXG{ta:TE}{r:V->Hp->VK->Prop}(ho:UnR X (unaryOp op) r)(ha:PE X a ta):PE X (.UnaryOp op a pos) (tUn r ta):=by intro aB s σ H Q I h;exact UnaryOp_ (bC (ha aB s σ H _ I h) λ v s1 ⟨x,H1,I1,r1,q1⟩=>ho aB s1 σ H1 x v Q I1 r1 q1)
variable {X:Cx}
def opI{f:qj->qj->Sem qj}{C:Int->Int->Prop}{g:Int->Int->Int}(rule:∀ (i j:Int) (t u:Tok) (s:qy) (Q:qj->qy->Prop) (E:qj->qy->Prop),C i j->Q (.int (g i j) s.toks) {s with toks:=s.toks+1 }->zq (model X.prog X.w) X.A (f (.int i t) (.int j u)) Q E s) :
 dH X f (rI C λ i j=>.int (g i j)):=by intro aB s σ H x y v u Q I rx ry h;let(i,j,rfl,rfl,hc,q):=h;let(t,rfl):=rx;let(t',rfl):=ry;exact rule i j t t' s _ _ hc (.int (g i j),H,I.tok _,(_,rfl,),q,)
def yS{f:qj->qj->Sem qj}{g:Int->Int->Int}(rule:∀ (i j:Int) (t u:Tok) (s:qy) (Q:qj->qy->Prop) (E:qj->qy->Prop),Q (.int (g i j) s.toks) {s with toks:=s.toks+1 }->zq (model X.prog X.w) X.A (f (.int i t) (.int j u)) Q E s) :
 dH X f (kC λ i j=>.int (g i j)):=by intro aB s σ H x y v u Q I rx ry h;let(i,j,rfl,rfl,q):=h;let(t,rfl):=rx;let(t',rfl):=ry;exact rule i j t t' s _ _ (.int (g i j),H,I.tok _,(_,rfl,),q,)
def aCj{f:qj->qj->Sem qj}{g:Int->Int->Bool}(rule:∀ (i j:Int) (t u:Tok) (s:qy) (Q:qj->qy->Prop) (E:qj->qy->Prop),Q (.bool (g i j)) s->zq (model X.prog X.w) X.A (f (.int i t) (.int j u)) Q E s) :
 dH X f (kC λ i j=>.bl (g i j)):=by intro aB s σ H x y v u Q I rx ry h;let(i,j,rfl,rfl,q):=h;let(t,rfl):=rx;let(t',rfl):=ry;exact rule i j t t' s _ _ (.bl (g i j),H,I,rfl,q,)
def bAv(i j:Int):Prop:=0<=j/\j<=1000000/\i.natAbs<2^64
def aPN(k:Nat):(0:Int)<=2^k:=by rw[two_pow_cast];exact yEn _
def aWg:dH X (zo .Add) (kC λ i j=>.int (i+j)):=yS λ _ _ _ _ _ _ _ q=>add_int q
def aUB:dH X (zo .Sub) (kC λ i j=>.int (i-j)):=yS λ _ _ _ _ _ _ _ q=>sub_int q
def aTO:dH X (zo .Mod) (rI (λ _ j=>j≠0) λ i j=>.int (i.fmod j)):=opI λ _ _ _ _ _ _ _ hc q=>mod_int' hc q
def aXd:dH X (zo .Pow) (rI bAv λ i j=>.int (i^j.toNat)):=opI λ _ _ _ _ _ _ _ hc q=>pow_int_small hc.1 hc.2.1 hc.2.2 q
def aVZ:dH X (zo .RShift) (rI (λ _ j=>0<=j) λ i j=>.int (i/2^j.toNat)):=opI λ i j _ _ _ _ _ hc q=>
 rshift_int hc (by rw[Int.fdiv_eq_ediv_of_nonneg i (aPN _)];exact q)
def aVa:dH X (zo .BitAnd) (kC λ i j=>.int (yEl i j)):=yS λ _ _ _ _ _ _ _ q=>and_int q
def aXN:dH X (zo .BitOr) (kC λ i j=>.int (yHu i j)):=yS λ _ _ _ _ _ _ _ q=>or_int q
def aWU:dH X (zo .BitXor) (kC λ i j=>.int (yHk i j)):=yS λ _ _ _ _ _ _ _ q=>xor_int q
def unI{f:qj->Sem qj}{g:Int->Int}(rule:∀ (i:Int) (t:Tok) (s:qy) (Q:qj->qy->Prop) (E:qj->qy->Prop),Q (.int (g i) s.toks) {s with toks:=s.toks+1 }->zq (model X.prog X.w) X.A (f (.int i t)) Q E s) :
 UnR X f (rU λ i=>.int (g i)):=by intro aB s σ H x v Q I rx h;let(i,rfl,q):=h;let(t,rfl):=rx;exact rule i t s _ _ (.int (g i),H,I.tok _,(_,rfl,),q,)
def aUE:UnR X (unaryOp .USub) (rU λ i=>.int (-i)):=unI λ _ _ _ _ _ q=>neg_int q
def aU7:UnR X (unaryOp .Invert) (rU λ i=>.int (yBr i)):=unI λ _ _ _ _ _ q=>invert_int q
def aBm{Q:VK}(I:Inv X aB σ H s)(q:Q (.bl k) H)(e:k=k'):EP X aB σ Q (.bool k') s:=by subst e;exact(.bl k,H,I,rfl,q,)
def aX9:dH X (xk .Lt) (kC λ i j=>.bl (decide (i<j))):=aCj λ _ _ _ _ _ _ _ q=>lt_int q
def aXw:dH X (xk .LtE) (kC λ i j=>.bl (decide (i<=j))):=aCj λ _ _ _ _ _ _ _ q=>le_int q
def aYw:dH X (xk .Gt) (kC λ i j=>.bl (decide (j<i))):=aCj λ _ _ _ _ _ _ _ q=>gt_int q
def aXT:dH X (xk .GtE) (kC λ i j=>.bl (decide (j<=i))):=aCj λ _ _ _ _ _ _ _ q=>ge_int q
def aUK:dH X (xk .Is) (λ x y H Q=>y=.non/\Q (.bl (decide (x=.non))) H):=by
 intro aB s σ H x y v u Q I rx ry h;let(rfl,q):=h;cases ry;refine is_none_gen (aBm I q ?_);cases x<;>first
  |(cases rx;rfl)
  |(let(t,rfl):=rx;rfl)
def aTA:dH X (xk .IsNot) (λ x y H Q=>y=.non/\Q (.bl (!decide (x=.non))) H):=by
 intro aB s σ H x y v u Q I rx ry h;let(rfl,q):=h;cases ry;refine isnot_none_gen (aBm I q ?_);cases x<;>first
  |(cases rx;rfl)
  |(let(t,rfl):=rx;rfl)
def bAT(b:qu)(h:op≠.In:=by decide)(h2:op≠.NotIn:=by decide):xw op b=false:=by
 have e1:(op==CmpOp.In)=false:=by cases op<;>first|rfl|exact absurd rfl h
 have e2:(op==CmpOp.NotIn)=false:=by cases op<;>first|rfl|simp_all
 cases b<;>simp[xw,e1,e2]
def aT9{ta tb:TE}{r:R2}(ho:dH X (xk op) r)(ha:PE X a ta)(hb:PE X b tb)(hm:xw op b=false):PE X (.Compare a [op] [b] pos) (tOp r ta tb):=by intro aB s σ H Q I h;exact wpAny_Compare1 (aFJ ha hb I h λ v u s2 x y H2 I2 rx ry q=>ho aB s2 σ H2 x y v u Q I2 rx ry q) hm
def aYT(t:TE):TT:=λ σ H Q=>t σ H λ x H'=>∃ k,x=.bl k/\Q k H'
def aSd{ta tb:TE}{r:R2}(ho:dH X (xk op) r)(ha:PE X a ta)(hb:PE X b tb)(hm:xw op b=false):PT X (.Compare a [op] [b] pos) (aYT (tOp r ta tb)):=by
 intro aB s σ H Q I h;refine wpAny_isTrue_Compare1 (bC (ha aB s σ H _ I h) λ v s1 ⟨x,H1,I1,r1,q1⟩=>bC (hb aB s1 σ H1 _ I1 q1) λ u s2 ⟨y,H2,I2,r2,q2⟩=>
  bC (ho aB s2 σ H2 x y v u _ I2 r1 r2 q2) λ c s3 ⟨z,H3,I3,r3,k,e,q3⟩=>?_) hm
 subst e;cases r3;exact jz (H3,I3,q3,)
def aFn(K:FrG)(x:V)(H:Hp)(k:Bool):Prop:=
 match x with
 |.non=>k=false|.bl b=>k=b|.int i=>k=(i != 0)|.str y=>y.length<=qo/\k=((y.length:Int) != 0)|.byt y=>y.size<=qo/\k=((y.size:Int) != 0)|.ref p=>(∃ xs,cB K H p xs/\k = !xs.isEmpty)\/(∃ xs,cN K H p xs/\k = !xs.isEmpty)\/∃ aH,H p=qz (.dK aH)/\k = !aH.isEmpty|_=>False
def aPD{κ:Type}{aH:List (κ×V)}{vs:List (κ×qj)}(r:KV aH vs):(!vs.isEmpty) = !aH.isEmpty:=by cases r<;>rfl
def aHh{xs:List V}(r:aZ xs aG):(!aG.toArray.isEmpty) = !xs.isEmpty:=by cases r<;>simp
def nE:(qo:Nat)<2^63:=by rw[zj];decide
def aWD:aZv X (λ x H Q=>∃ k,aFn X.K x H k/\Q k H):=by
 intro aB s σ H x v Q I rx h;let(k,e,q):=h;have hl:=nE;have hs:qo=16777216:=zj;cases x with
 |non=>
   cases rx;have e':k=false:=e;subst e';exact truthy_none (H,I,q,)
 |bl b=>
   cases rx;have e':k=b:=e;subst e';exact jz (H,I,q,)
 |int i=>
   let(t,rfl):=rx;have e':k=(i != 0):=e;subst e';exact PySem.P.truthy_int (H,I,q,)
 |str y=>
   let(t,rfl):=rx;obtain⟨hy,e'⟩:y.length<=qo/\k=((y.length:Int) != 0):=e;subst e';exact PySem.P.truthy_str (!_) (H,I.tok _,q,)
 |byt y=>
   let(t,rfl):=rx;obtain⟨hy,e'⟩:y.size<=qo/\k=((y.size:Int) != 0):=e;subst e';exact PySem.W.truthy_bytes (!_) (H,I.tok _,q,)
 |ref p=>
   cases rx;have e':(∃ xs,cB X.K H p xs/\k = !xs.isEmpty)\/(∃ xs,cN X.K H p xs/\k = !xs.isEmpty)\/∃ aH,H p=qz (.dK aH)/\k = !aH.isEmpty:=e;rcases e' with ⟨xs,hx,e'⟩|⟨xs,hx,e'⟩|⟨aH,hx,e'⟩
   .subst e';let(aG,r,pl,hz):=I.list hx;have cS:=r.length;exact wpAny_truthy_list pl.isList (by simp only[yAl];omega) (H,I.tok _,by rw[aHh r];exact q,)
   .subst e';let(aG,r,pl,hz):=I.tuple hx;have cS:=r.length;exact truthy_tuple pl (by simp only[yAl];omega) (H,I.tok _,by rw[aHh r];exact q,)
   .subst e';obtain⟨hz,hS,vs,r,m⟩:aH.length<=qo/\(p==sysModules)=false/\∃ vs,KV aH vs/\s.heap.DictOf (fN X.prog X.w) p vs:=I.hok p _ hx;have cS:aH.length=↑vs:=Paired.length r;exact wpAny_truthy_dict hS m (!_) (H,I.tok _,by rw[aPD r];exact q,)
 |_=>exact(show False from e).elim
def aQS{ta:TE}(ha:PE X a ta)(he:∀ kG,isTrue a X.env kG=(do let v <- kG;standAt a.pos;holding [v] (truthy v))) :
 PT X a (λ σ H Q=>ta σ H λ x H'=>∃ k,aFn X.K x H' k/\Q k H'):=by intro aB s σ H Q I h;exact isTrue_plain (bC (ha aB s σ H _ I h) λ v s1 ⟨x,H1,I1,r1,q1⟩=>aWD aB s1 σ H1 x v Q I1 r1 q1) (he _)
def aPt:dH X (zo .Add) (λ x y H Q=>∃ i j,x=.str i/\y=.str j/\i.length+j.length<=qo/\Q (.str (i++j)) H):=by intro aB s σ H x y v u Q I rx ry h;let(i,j,rfl,rfl,hz,q):=h;let(t,rfl):=rx;let(t',rfl):=ry;exact add_str (λ t' tk=>(.str (i++j),H,I.tok _,(_,rfl,),q,)) hz
def pO(r:aZ [x] us):∃ u,us=[u]/\aY x u:=by
 cases r with
 |cons r1 r2=>cases r2;exact(_,rfl,r1,)
def aLV(r:aZ [x,y] us):∃ u w',us=[u,w']/\aY x u/\aY y w':=by
 cases r with
 |cons r1 r2=>
   cases r2 with
   |cons r3 r4=>cases r4;exact(_,_,rfl,r1,r3,)
def aQn(hc:X.calm=true):gK X (.builtin "max") (λ xs H Q=>∃ i j,xs=[.int i,.int j]/\Q (.int (if j>i then j else i)) H):=by
 intro aB s σ H xs us Q I r h;let(i,j,rfl,q):=h;let(u,w',rfl,(t,rfl),(t',rfl)):=aLV r;refine max_two_ints (I.ok.hd hc) λ h' tk k=>(_,H,I.kept k,?_,q,)
 by_cases hj:j>i
 .rw[if_pos hj,if_pos hj];exact(_,rfl,)
 .rw[if_neg hj,if_neg hj];exact(_,rfl,)
def aQL(hc:X.calm=true):gK X (.builtin "min") (λ xs H Q=>∃ i j,xs=[.int i,.int j]/\Q (.int (if j<i then j else i)) H):=by
 intro aB s σ H xs us Q I r h;let(i,j,rfl,q):=h;let(u,w',rfl,(t,rfl),(t',rfl)):=aLV r;refine min_two_ints (I.ok.hd hc) λ h' tk k=>(_,H,I.kept k,?_,q,)
 by_cases hj:j<i
 .rw[if_pos hj,if_pos hj];exact(_,rfl,)
 .rw[if_neg hj,if_neg hj];exact(_,rfl,)
def aHQ:gK X (.type "int") (λ xs H Q=>(∃ i,xs=[.int i]/\Q (.int i) H)\/∃ k,xs=[.bl k]/\Q (.int (if k then 1 else 0)) H):=by
 intro aB s σ H xs us Q I r h;rcases h with ⟨i,rfl,q⟩|⟨k,rfl,q⟩
 .let(u,rfl,t,rfl):=pO r;exact call_int_int (.int i,H,I,(_,rfl,),q,)
 .let(u,rfl,r1):=pO r;cases r1;exact call_int_bool (.int (if k then 1 else 0),H,I.tok _,(_,rfl,),q,)
end L2
namespace L2
open PySem PySem.Spec PyProof.Rows
structure ObjM(h:Heap)(x dx C:qk)(mA:Str->Option qj):Prop where
 obj:h.get? x=qz (yDl C dx)
 ns:h.Ns1 dx mA
 ne:dx≠x
def aQh{h:Heap}{mA:Str->Option qj}(n:h.Ns1 dx mA):∃ od,h.get? dx=qz od/\∀ name,yHl name od=qz (mA name):=by
 let(o,es,ep,ho,hd,hk,_,hm):=n;refine(o,ho,λ name=>?_,);have e:=hm name;unfold nsFind findBy at e;rw[<- Array.find?_toList] at e;unfold yHl;rw[hd];dsimp only;split
 .simp_all
 .rename_i q;rw[q] at e;have a:es.toList.any (·.refKey)=false:=by
   rw[List.any_eq_false];intro y hy;let(z,t,hkey):=hk y (Array.mem_toList_iff.mp hy);simp[DictEntry.refKey,hkey]
  grind
def ObjM.look{mA:Str->Option qj}(I:ObjM h x dx C mA):∃ od,PySem.W.InstAt h x (yDl C dx) C (qz od)/\∀ name,yHl name od=qz (mA name):=
 let ⟨od,ho,hl⟩:=aQh I.ns
 (od,(I.obj,rfl,rfl,ho,),hl,)
variable {K:FrG}
def aTI{E:qj -> qy -> Prop}{s:qy}{mA:Str -> Option qj}{Q:qj->qy->Prop}(X:K.In s.heap)(I:ObjM s.heap x dx C mA)(hg:yEh K C name=true)(hh:yEx K C=true)(ha:yBo K (.ref C) name=qz qx)(hv:mA name=qz v)(hv':PySem.W.handedIn v=true)(h:Q v {s with toks:=s.toks+1 }) :
 zq (model prog w) A (getAttr (.ref x) name expr) Q E s:=by let(od,J,hl):=I.look;exact PySem.W.get_value X J (yGn hg).1 (PySem.W.findObj_own hh ha rfl (by rw[hl,hv])) hv' h
def aQ1{E:qj -> qy -> Prop}{s:qy}{mA:Str -> Option qj}{Q:qj×List qj->qy->Prop}(X:K.In s.heap)(I:ObjM s.heap x dx C mA)(hg:yEh K C name=true)(hf:yBo K (.ref C) name=qz (qz (.ref f)))(ht:yHb K (.ref f)=true)(hv:mA name=qx)(h:Q (.ref f,[.ref x]) s) :
 zq (model prog w) A (getMethod (.ref x) name pl) Q E s:=by let(od,J,hl):=I.look;exact PySem.W.method_fn X J (yGn hg).1 (yGn hg).2 hf (beq_iff_eq.mp ht) (by show(yHl name od).map (·.isSome)=qz false;rw[hl,hv];rfl) h
def aSA{E:qj -> qy -> Prop}{s:qy}{mA:Str -> Option qj}{Q:Unit->qy->Prop}(X:K.In s.heap)(I:ObjM s.heap x dx C mA)(hs:yBo K (.ref C) "__setattr__" = qz (qz (.builtin "object.__setattr__")))(hp:yGb K C=true)(ht:yIa K C name=qz qx)(hh:yEx K C=true)(hw:PySem.Within mA ns)(hsz:↑ns<=qo)(h:∀ h',ObjM h' x dx C (λ y=>if y=name then qz v else mA y)->yDi dx s.heap h'->Q () {s with heap:=h',toks:=s.toks+2 }) :
 zq (model prog w) A (setAttr (.ref x) name v) Q E s:=by
 let(od,J,hl):=I.look;refine PySem.W.set_plain X J hs (PySem.W.osa_open (s:={s with toks:=s.toks+1 }) (r:=qx) X J hp ht λ b=>?_);let(cd,hc,hd'):=PySem.W.any_some hh;have hx:s.heap.get? x=qz (.ref C,qz dx,.plain,#[],):=I.obj;refine wB (wP (wB (wB (wpAny_loadPart hx (wB (PySem.W.Looks.here (s:={s with toks:=s.toks+1 }) (PySem.W.looks_clsIn X hc) ?_))))));rw[hd'];refine wP (a:=qz dx) (wB (wP (wB ?_)));refine wpAny_nsSet1 (s:={s with toks:=s.toks+1 }) I.ns λ h' hn2 hs2=>?_
 let(oD,esD,epD,hoD,hdD,hcD):=hn2.count (PySem.Within.cons name v hw);refine wB (wpAny_lookBehind hoD (by rw[hdD];exact pastItsLine_dict (xAh hcD (by rw[yAr];omega))) ?_);exact wP (h _ ((hs2.2 _ (Ne.symm I.ne)).trans I.obj,hn2,I.ne,) hs2)
def aR1{A:zy}{s:qy}{R:Result->qy->Prop}(X:K.In s.heap)(hm:yIb K C=true)(hi:yBo K (.ref C) "__init__" = qz (qz (.ref f)))(hf:PySem.W.typeIn K (.ref f)=qz (.type "function"))(h:jo (model prog w) (A.under (.builtin "type.__call__" (.ref C::vs,kw,))) (.call (.ref f) (.ref (s.heap.objs.size+1)::vs,kw,)) (PySem.W.InitBack (s.heap.objs.size+1) R)
   {s with heap:=(s.heap.push yCe).push (yDl C s.heap.objs.size) }) :
 jo (model prog w) A (.call (.ref C) (vs,kw,)) R s:=by let(hh,g,d,t,os):=s;exact PySem.W.make_core (PySem.W.makes_of X hm) (PySem.W.looks_findIn X hi) (λ self=>PySem.W.bind_fn X self hf) (.inl rfl) h
def fR(f:Str)(v:V):List (Str×V)->List (Str×V)
 |[]=>[(f,v)]
 |(g,x)::r=>if g=f then (g,v)::r else (g,x)::fR f v r
def aGW(f g:Str)(v:V):∀ fs:List (Str×V),(fR f v fs).lookup g=if g=f then qz v else fs.lookup g
 |[]=>by
   show List.lookup g [(f,v)]=_
   grind
 |(k,x)::r=>by
   have ih:=aGW f g v r;rw[show fR f v ((k,x)::r)=(if k=f then (k,v)::r else (k,x)::fR f v r) from rfl]
   grind
def aC9(f:Str)(v:V):∀ fs:List (Str×V),f∈(fR f v fs).map (·.1)/\∀ g,g∈fs.map (·.1)->g∈(fR f v fs).map (·.1)
 |[]=>(by simp[fR],λ g h=>by simp at h,)
 |(k,x)::r=>by
   let(i1,i2):=aC9 f v r;rw[show fR f v ((k,x)::r)=(if k=f then (k,v)::r else (k,x)::fR f v r) from rfl]
   grind
def aGX(f:Str)(v:V):∀ fs:List (Str×V),(fR f v fs).length<=↑fs+1
 |[]=>by simp[fR]
 |(k,x)::r=>by
   have ih:=aGX f v r;rw[show fR f v ((k,x)::r)=(if k=f then (k,v)::r else (k,x)::fR f v r) from rfl];by_cases hk:k=f
   .rw[if_pos hk,yAr,yAr];omega
   .rw[if_neg hk,yAr,yAr];omega
def gY.some_of(r:gY (qz v) o):∃ u,o=qz u/\aY v u:=by
 cases o with
 |none=>exact(show False from r).elim
 |some u=>exact(u,rfl,r,)
def gY.none_of(r:gY qx o):o=qx:=by
 cases o with
 |none=>rfl
 |some u=>exact(show False from r).elim
def aQj(r:aY v u):PySem.W.handedIn u=true:=by
 cases v with
 |non=>cases (show u=Value.none from r);rfl
 |bl b=>cases (show u=Value.bool b from r);rfl
 |int i=>let(t,e):=(show ∃ t,u=Value.int i t from r);cases e;rfl
 |str x=>let(t,e):=(show ∃ t,u=Value.str x t from r);cases e;rfl
 |byt b=>let(t,e):=(show ∃ t,u=Value.bytes b t from r);cases e;rfl
 |flt b=>let(t,e):=(show ∃ t,u=Value.float b t from r);cases e;rfl
 |ref a=>cases (show u=Value.ref a from r);rfl
 |ty n=>cases (show u=Value.type n from r);rfl
section
variable {P:zv}{w:zw}{H H':Hp}{h h':Heap}{a C dx:qk}{fs fs':List (Str×V)}
def aDz(hok:cY P w H h)(e:H a=qz (.ins C dx fs)):∃ mA,ObjM h a dx C mA/\(∀ f,gY (fs.lookup f) (mA f))/\PySem.Within mA (fs.map (·.1))/\↑fs<=1000/\H dx=qz (.own a):=by let(d,z,ne,ob,mA,n,r,q):=(show eQ P w H h a (.ins C dx fs) from hok a _ e);exact(mA,(ob,n,ne,),r,q,z,d,)
end
structure Cls(K:FrG)(C:qk):Prop where
 pg:yEh K C Str.empty=true
 hd:yEx K C=true
 po:yGb K C=true
 sa:yBo K (.ref C) "__setattr__" = qz (qz (.builtin "object.__setattr__"))
def Cls.get(c:Cls K C)(f:Str):yEh K C f=true:=c.pg
def NoAttr(K:FrG)(C:qk)(f:Str):Prop:=yBo K (.ref C) f=qz qx
def NoAttr.taker(n:NoAttr K C f):yIa K C f=qz qx:=by unfold yIa;rw[show yBo K (.ref C) f=qz qx from n];rfl
structure Con(K:FrG)(C:qk)(f:Str)(v:V)(u:qj):Prop where
 at_:yBo K (.ref C) f=qz (qz u)
 rel:aY v u
 get:PySem.W.specialIn K u "__get__" = qz qx
 cp:PySem.W.copiedNames.contains f=false
structure Meth(K:FrG)(C:qk)(m:Str)(f:qk):Prop where
 at_:yBo K (.ref C) m=qz (qz (.ref f))
 fn:yHb K (.ref f)=true
 kp:yBs K (.ref f)=true
section
variable {X:Cx}{aB:List (qk×Obj)}{σ:St}{H:Hp}{s:qy}{a C dx:qk}{fs:List (Str×V)}{f:Str}{v:V}{A:zy}{E:qj->qy->Prop}
def aPK{Q:qj->qy->Prop}(I:Inv X aB σ H s)(e:H a=qz (.ins C dx fs))(c:Cls X.K C)(n:NoAttr X.K C f)(l:fs.lookup f=qz v)(h:∀ u s',Inv X aB σ H s'->aY v u->Q u s'):zq (model X.prog X.w) A (getAttr (.ref a) f b) Q E s:=by let(mA,O,r,_,_,_):=aDz I.hok e;let(u,hu,ru):=gY.some_of (v:=v) (o:=mA f) (by rw[<- l];exact r f);exact aTI I.kIn O (c.get f) c.hd n hu (aQj ru) (h u _ (I.tok _) ru)
def aPJ{Q:qj×List qj->qy->Prop}(I:Inv X aB σ H s)(e:H a=qz (.ins C dx fs))(c:Cls X.K C)(k:Meth X.K C m g)(l:fs.lookup m=qx)(h:Q (.ref g,[.ref a]) s):zq (model X.prog X.w) A (getMethod (.ref a) m pl) Q E s:=by let(mA,O,r,_,_,_):=aDz I.hok e;have hn:mA m=qx:=gY.none_of (by rw[<- l];exact r m);exact aQ1 I.kIn O (c.get m) k.at_ k.fn hn h
def aPH{Q:Unit->qy->Prop}(I:Inv X aB σ H s)(e:H a=qz (.ins C dx fs))(c:Cls X.K C)(n:NoAttr X.K C f)(hl:↑fs<1000)(ry:aY y u)(h:∀ s',Inv X aB σ (bE H a (.ins C dx (fR f y fs))) s'->Q () s'):zq (model X.prog X.w) A (setAttr (.ref a) f u) Q E s:=by
 let(mA,O,r,wi,_,ho):=aDz I.hok e;have hz:(fs.map (·.1)).length<=qo:=by rw[yAa,zj];omega
 refine aSA I.kIn O c.sa c.po n.taker c.hd wi hz λ h' O' sb=>h _ ?_
 have hd:∃ o,h'.get? dx=qz o:=let ⟨o,_,_,e',_⟩:=O'.ns;(o,e',);refine I.write (x:=a) (e:=dx) (by rw[e];exact True.intro) (.inr ho) (λ b q hb z=>(sb.2 b hb).trans z) hd ?_;refine(by rw[bV O.ne];exact ho,?_,O.ne,O'.obj,_,O'.ns,λ g=>?_,λ g hg=>?_,)
 .have:=aGX f y fs;omega
 .show gY ((fR f y fs).lookup g) (if g=f then qz u else mA g);rw[aGW];by_cases q:g=f
  .rw[if_pos q,if_pos q];exact ry
  simp_all
 .by_cases q:g=f
  .rw[q];exact(aC9 f y fs).1
  .refine(aC9 f y fs).2 g (wi g λ z=>hg ?_);simp_all
def Inv.made(I:Inv X aB σ H s):Inv X aB σ (bE (bE H s.heap.objs.size (.own (s.heap.objs.size+1))) (s.heap.objs.size+1) (.ins C s.heap.objs.size []))
 {s with heap:=(s.heap.push yCe).push (yDl C s.heap.objs.size) }:=by
 have e1:(s.heap.push yCe).get? s.heap.objs.size=qz yCe:=xAd s.heap rfl;have e2:((s.heap.push yCe).push (yDl C s.heap.objs.size)).get? (s.heap.objs.size+1)=qz (yDl C s.heap.objs.size):=by
  have:=xAd (s.heap.push yCe) (o:=yDl C s.heap.objs.size) rfl;rwa [yGe] at this
 have e3:(s.heap.push yCe).Ns s.heap.objs.size (λ _=>qx):=(yCe,#[],_,e1,rfl,(λ e he=>absurd he (by simp)),λ _=>rfl,);have I1:=I.laid (a:=s.heap.objs.size) (o:=.own (s.heap.objs.size+1)) (h':=s.heap.push yCe) (t':=s.toks) (λ b u q=>hpS _ q) (yAc _) (_,e1,);refine I1.laid (a:=s.heap.objs.size+1) (o:=.ins C s.heap.objs.size []) (t':=s.toks) (λ b u q=>hpS _ q) (yIc (yGe _ _)) ?_;have ne:s.heap.objs.size≠s.heap.objs.size+1:=xAj (yDd _);refine(by rw[bV ne,cQ],yEp _,ne,e2,λ _=>qx,(Heap.Ns1.of_empty e3).at λ o q=>hpS _ q,λ _=>True.intro,λ y hy=>absurd rfl hy,)
def aUf{Q:qj->qy->Prop}(hb:attributeBase e f env (eval e env)=eval e env)(h:zq (model prog w) A (eval e env) (λ o s₁=>zq (model prog w) A (getAttr o f true) Q E s₁) E s):zq (model prog w) A (eval (.Attribute e f pos) env) Q E s:=
 Attribute_any_ h (by rw[arm_eval_Attribute,hb])
end
def bAs(K:FrG)(ta:TE)(f:Str):TE:=λ σ H Q=>ta σ H λ x H1=>∃ a C dx fs v,x=.ref a/\H1 a=qz (.ins C dx fs)/\Cls K C/\NoAttr K C f/\fs.lookup f=qz v/\Q v H1
def aNv(K:FrG)(ta tv:TE)(f:Str):TS:=λ D σ H=>tv σ H λ y H1=>ta σ H1 λ x H2=>∃ a C dx fs,x=.ref a/\H2 a=qz (.ins C dx fs)/\Cls K C/\NoAttr K C f/\↑fs<1000 /\
 D.nx σ (bE H2 a (.ins C dx (fR f y fs)))
def aVm{ta:TE}(he:PE X e ta)(hb:attributeBase e f X.env (eval e X.env)=eval e X.env):PE X (.Attribute e f pos) (bAs X.K ta f):=by intro aB s σ H Q I h;refine aUf hb (bC (he aB s σ H _ I h) λ u s1 hPq27=>?_);let(x,H1,I1,rx,a,C,dx,fs,v,ex,ea,c,n,l,q):=hPq27;subst ex;obtain rfl:u=Value.ref a:=rx;exact aPK I1 ea c n l λ u' s2 I2 ru=>(v,H1,I2,ru,q,)
def aVs{pos:Pos}{ta tv:TE}(ha:PE X o ta)(hv:PE X value tv)(hs:swapsWith value (qz (.Attribute o f pos')) pos.line X.env=pure false):PS X (.Assign [.Attribute o f pos'] value pos) (aNv X.K ta tv f):=by intro aB s σ H D I h;refine plainObj_wpAny_Assign_Attribute (bC (hv aB s σ H _ I h) λ u s1 ⟨y,H1,I1,ry,q⟩=>bC (ha aB s1 σ H1 _ I1 q) λ ov s2 hPq28=>?_) hs;let(x,H2,I2,rx,a,C,dx,fs,ex,ea,c,n,l,q2):=hPq28;subst ex;obtain rfl:ov=Value.ref a:=rx;exact aPH I2 ea c n l ry λ s3 I3=>(σ,_,I3,q2,)
section
variable {X:Cx}{aB:List (qk×Obj)}{σ:St}{H:Hp}{s:qy}{A:zy}{E:qj->qy->Prop}{Q:qj->qy->Prop}{c:qj}{b:Bool}
inductive TyOf (K:FrG) (H:Hp):V->qj->Prop where
 |non:TyOf K H .non (.type "NoneType")
 |bl (x:Bool):TyOf K H (.bl x) (.type "bool")
 |int (i:Int):TyOf K H (.int i) (.type "int")
 |str (x:Str):TyOf K H (.str x) (.type "str")
 |flt (x:UInt64):TyOf K H (.flt x) (.type "float")
 |lst {a:qk}{xs:List V} (e:H a=qz (.lst xs)):TyOf K H (.ref a) (.type "list")
 |frz {a:qk}{o:Obj}{xs:List V} (e:H a=qz (.frz o (.lst xs))):TyOf K H (.ref a) (.type "list")
 |tup {a:qk}{xs:List V} (e:H a=qz (.tup xs)):TyOf K H (.ref a) (.type "tuple")
 |dK {a:qk}{aH:List (bK×V)} (e:H a=qz (.dK aH)):TyOf K H (.ref a) (.type "dict")
 |dT {a:qk}{aH:List (List bK×V)} (e:H a=qz (.dT aH)):TyOf K H (.ref a) (.type "dict")
 |ins {a C dx:qk}{fs:List (Str×V)} (e:H a=qz (.ins C dx fs)) (cl:Cls K C) (ha:yBo K (.ref C) "__class__" = qz (qz (.builtin "object.__class__")))
    (hn:PySem.W.specialIn K (.builtin "object.__class__") "__get__" = qz (qz (.builtin "getset_descriptor.__get__"))) (htk:PySem.W.takesIn K (.builtin "object.__class__")=qz true)
    (hm:PySem.W.mroIn K C (.type "object")=qz true):TyOf K H (.ref a) (.ref C)
end
end L2
namespace L2
open PySem PySem.Spec PyProof.Rows
structure Room(k:Nat)(A:zy):Prop where
 hd:A.handled=qx
 dp:A.depth+3*k+5<recursionLimit
 un:A.units+16*k+200<cLine
def Room.mono(r:Room k A)(h:j<=k):Room j A:=(r.hd,by have:=r.dp;omega,by have:=r.un;omega,)
def Room.deeper(r:Room (k+1) A)(env:Env):Room k (A.deeper env):=
 (r.hd,by have:=r.dp;show A.depth+1+3*k+5<_;omega,by have:=r.un;show A.units+3+16*k+200<_;omega,)
def aPC{A:zy}:(A.under (.builtin "type.__call__" (.ref C::us,kw,))).depth=A.depth+1:=by first|rfl|simp[Around.under,Code.weight,Code.isCreation,Code.isGuard,Code.isCaller,Code.frames,Code.isFrame,guardIds]
def aPE{A:zy}:(A.under (.builtin "type.__call__" (.ref C::us,kw,))).units=A.units+1:=by first|rfl|simp[Around.under,Code.cUnits,Code.frames,Code.isFrame]
def Room.make(r:Room (k+1) A)(C:qk)(us:List qj)(kw:List (Str×qj)):Room k (A.under (.builtin "type.__call__" (.ref C::us,kw,))):=
 (r.hd,by have:=r.dp;rw[aPC];omega,by have:=r.un;rw[aPE];omega,)
def Room.depth(r:Room k A):A.depth<recursionLimit:=by have:=r.dp;omega
def Room.units(r:Room k A):A.units+64<cLine:=by have:=r.un;omega
def aFo:TA:=λ _ H Q=>Q [] H
def aZc(ta:TE)(tr:TA):TA:=λ σ H Q=>ta σ H λ x H1=>tr σ H1 λ xs H2=>Q (x::xs) H2
def aLA:PA X [] aFo:=λ _ _ _ _ H Q I h=>Calls.spliced_nil ([],H,I,.nil,h,)
def aR7{te:TE}{t:TA}(ha:PE X e te)(hr:PA X es t)(hs:zx (e::es) X.env=(false,eval e X.env)::zx es X.env:=by rfl):PA X (e::es) (aZc te t):=by intro pos aB s σ H Q I h;rw[hs];show zq _ _ (spliced ((false,eval e X.env)::backTo pos (zx es X.env))) _ _ s;refine Calls.spliced_cons (bC (ha aB s σ H _ I h) λ u s1 hPq29=>?_);let(x,H1,I1,r1,q1):=hPq29;exact bC (hr pos aB s1 σ H1 _ I1 q1) λ us s2 ⟨xs,H2,I2,r2,q2⟩=>(x::xs,H2,I2,.cons r1 r2,q2,)
def bAj(t:TA):TE:=λ σ H Q=>t σ H λ xs H1=>↑xs<=qo/\∀ p,H1 p=qx->Q (.ref p) (bE H1 p (.tup xs))
def aFz(t:TA):TE:=λ σ H Q=>t σ H λ xs H1=>↑xs<=qo/\∀ p,H1 p=qx->Q (.ref p) (bE H1 p (.lst xs))
def aLM{t:TA}{x1}(h:PA X es t):PE X (.Tuple es x1 pos) (bAj t):=by intro aB s σ H Q I hq;refine wpAny_Tuple_spliced (bC (h pos aB s σ H _ I hq) λ us s1 ⟨xs,H1,I1,r,z,q⟩=>(by rw[<- r.length];exact z,?_,));have hf:H1 s1.heap.objs.size=qx:=I1.hok.fresh (yAc _);refine(.ref s1.heap.objs.size,bE H1 s1.heap.objs.size (.tup xs),I1.laid (t':=s1.toks) (λ b u e=>hpS _ e) (yAc _) ?_,rfl,q _ hf,);exact(z,us,r,(_,xAd _ rfl,rfl,_,rfl,),)
def aEg{t:TA}(h:PA X es t):PE X (.List es pos) (aFz t):=by intro aB s σ H Q I hq;refine wpAny_List_spliced (bC (h pos aB s σ H _ I hq) λ us s1 ⟨xs,H1,I1,r,z,q⟩=>(by rw[<- r.length];exact z,?_,));have hf:H1 s1.heap.objs.size=qx:=I1.hok.fresh (yAc _);refine(.ref s1.heap.objs.size,bE H1 s1.heap.objs.size (.lst xs),I1.laid (t':=s1.toks) (λ b u e=>hpS _ e) (yAc _) ?_,rfl,q _ hf,);exact(z,us,0,r,xAd _ rfl,)
abbrev Sp:=List V->Hp->VK->XK->Prop
abbrev mW:=List Env->Hp->qy->XK->qj->qy->Prop
structure Env0(P:zv)(w:zw)(K:FrG)(mg:Str->Option qj)(base:Heap)(A:zy)(outer:List Env)(s:qy)(H:Hp):Prop where
 frames:A.frames=qz outer
 mod:Mod K mg base
 bs:∀ b o,base.get? b=qz o->s.heap.get? b=qz o/\H b=qx
 bsz:base.objs.size<=s.heap.objs.size
 funs:s.heap.FunFrames base outer
 frf:∀ b∈iU outer,H b=qx
 hok:cY P w H s.heap
 bare:AllBare s.gens
def CE(outer:List Env)(P:zv)(w:zw)(H:Hp)(s:qy)(Q:VK)(u:qj)(s':qy):Prop:=
 ∃ v H',s'.os=s.os/\AllBare s'.gens/\Un (iU outer) [] H H' s.heap s'.heap/\cY P w H' s'.heap/\aY v u/\Q v H'
def CR(CX:mW)(outer:List Env)(P:zv)(w:zw)(H:Hp)(s:qy)(Q:VK)(E:XK)(r:Result)(s':qy):Prop:=
 match r with
 |.ok (.ret u)=>CE outer P w H s Q u s'|.ok _=>False|.error e=>CX outer H s E e s'
structure FnOk(P:zv)(w:zw)(K:FrG)(mg:Str->Option qj)(base:Heap)(CX:mW)(k:Nat)(f:qk)(fd:vz)(ps:List Str)(sp:Sp):Prop where
 len:∀ vs H Q E,sp vs H Q E->↑vs=↑ps
 run:∀ (A:zy) (outer:List Env) (s:qy) (H:Hp) (args:Args) (us:List qj) (vs:List V) (Q:VK) (E:XK),Room k A->Env0 P w K mg base A outer s H->BindsTo s fd args (ps.zip us)->aZ vs us->sp vs H Q E ->
  jo (model P w) A (.call (.ref f) args) (CR CX outer P w H s Q E) s
variable {K:FrG}
def Env0.make{mg:Str->Option qj}(e:Env0 P w K mg base A outer s H)(C:qk)(us:List qj)(kw:List (Str×qj)) :
 Env0 P w K mg base (A.under (.builtin "type.__call__" (.ref C::us,kw,))) outer s H:=(by first|exact e.frames|(simpa [Around.under,Code.envs,Code.isFrame,pushEnvs] using e.frames),e.mod,e.bs,e.bsz,e.funs,e.frf,e.hok,e.bare,)
section
variable {X:Cx}{aB:List (qk×Obj)}{σ:St}{H:Hp}{s s':qy}
def Inv.env0(I:Inv X aB σ H s):Env0 X.prog X.w X.K X.mg X.base X.A X.stack s H:=
 (I.ok.frames,I.ok.mod,I.bs,xAh I.ok.bsz I.sz,I.stack,I.stkFree,I.hok,I.bare,)
def Inv.after{Q:VK}(I:Inv X aB σ H s)(h:CE X.stack X.prog X.w H s Q u s'):EP X aB σ Q u s':=by let(v,H',os,bare,un,hok,r,q):=h;let(hh,g,d,t,os'):=s';obtain rfl:os'=s.os:=os;exact(v,H',I.call (h':=hh) (g':=g) (d':=d) (t':=t) (ch:=[]) un hok bare (λ b z=>absurd z (by simp)),r,q,)
end
def aBG(sp:Sp)(dvs:List V)(E:XK)(t:TA):TE:=λ σ H Q=>t σ H λ vs H1=>sp (vs++dvs) H1 Q E
def aLT(C:qk)(m:Str)(sp:Sp)(dvs:List V)(E:XK)(ta:TE)(t:TA):TE:=λ σ H Q=>ta σ H λ x H1=>∃ a dx fs,x=.ref a/\H1 a=qz (.ins C dx fs)/\fs.lookup m=qx /\
 t σ H1 λ vs H2=>sp (x::(vs++dvs)) H2 Q E
def aMN(C:qk)(sp:Sp)(dvs:List V)(E:XK)(t:TA):TE:=λ σ H Q=>t σ H λ vs H1=>∀ x dx,H1 x=qx->H1 dx=qx->dx≠x ->
 sp (.ref x::(vs++dvs)) (bE (bE H1 dx (.own x)) x (.ins C dx [])) (λ v H2=>v=.non/\Q (.ref x) H2) E
def gU(K:FrG)(fd:vz)(ps:List Str)(ds:List qj):Prop:=
 ∀ (s:qy) (us:List qj),K.In s.heap->(us++ds).length=↑ps->BindsTo s fd ⟨us,[]⟩ (ps.zip (us++ds))
def gU.all{ps:List Str}(h:∀ us:List qj,↑us=↑ps->bindArgs fd ⟨us,[]⟩=pure (ps.zip us)):gU K fd ps []:=λ s us _ hl=>by
 rw[yAx] at hl ⊢;exact .of_eq (h us hl)
def rA(CX:mW)(X:Cx)(E:XK):Prop:=∀ (aB:List (qk×Obj)) (σ:St) (H:Hp) (s:qy) (e:qj) (s':qy),Inv X aB σ H s->CX X.stack H s E e s'->X.xe e s'
variable {X:Cx}
def aEv{E:XK}{Q:VK}(F:FnOk X.prog X.w X.K X.mg X.base CX k f fd ps sp)(hr:Room k X.A)(hb:gU X.K fd ps ds)(hd:aZ dvs ds)(hx:rA CX X E)(I:Inv X aB σ H s)(r:aZ vs us)(h:sp (vs++dvs) H Q E):zq (model X.prog X.w) X.A (call (.ref f) us) (EP X aB σ Q) X.xe s:=by
 have r2:aZ (vs++dvs) (us++ds):=r.append hd;have hl:(us++ds).length=↑ps:=by rw[<- r2.length];exact F.len _ _ _ _ h
 refine wpAny_call (codeAny_mono (F.run X.A X.stack s H (us,[],) (us++ds) (vs++dvs) Q E hr I.env0 (hb s us I.kIn hl) r2 h) λ r s' hq=>?_);cases r with
 |error e=>exact hx aB σ H s e s' I hq
 |ok fl=>
   cases fl with
   |ret u=>exact I.after hq|next=>exact False.elim hq|brk=>exact False.elim hq|cont=>exact False.elim hq
def aTM{CX:mW}{k:Nat}{f:qk}{fd:vz}{ps:List Str}{sp:Sp}{dvs:List V}{ds:List qj}{E:XK}{x:Str}{p pos:Pos}{e:qu}{es:List qu}{t:TA}(F:FnOk X.prog X.w X.K X.mg X.base CX k f fd ps sp)(hr:Room k X.A)(hg:Gl X x)(hm:X.mg x=qz (.ref f))(hk:yBs X.K (.ref f)=true)(hb:gU X.K fd ps ds)(hd:aZ dvs ds)(hx:rA CX X E)
 (ha:PA X (e::es) t) (hdb:(x==("__debug__" : Str))=false:=by decide) (he:zx (e::es) X.env=(false,eval e X.env)::zx es X.env:=by rfl) (hpl:(backTo pos (zx es X.env)).any (·.1)=false:=by rfl) :
 PE X (.Call (.Name x p) (e::es) [] pos) (aBG sp dvs E t):=by intro aB s σ H Q I h;refine xu (aA6 I hg hm ?_ hdb);refine yHc (h₀:=X.base) I.ok.mod.kin hk (bC (ha pos aB s σ H _ I h) λ us s1 ⟨vs,H1,I1,r,q⟩=>(I1.kIn,?_,)) he hpl;exact aEv F hr hb hd hx I1 r q
def aRh{E:XK}(F:FnOk X.prog X.w X.K X.mg X.base CX k f fd ps sp)(hr:Room k X.A)(hg:Gl X x)(hm:X.mg x=qz (.ref f))(hk:yBs X.K (.ref f)=true)(hb:gU X.K fd ps ds)(hd:aZ dvs ds)(hx:rA CX X E)(hdb:(x==("__debug__" : Str))=false:=by decide):PE X (.Call (.Name x p) [] [] pos) (aBG sp dvs E aFo):=by intro aB s σ H Q I h;refine xu (aA6 I hg hm ?_ hdb);exact PySem.W.callWith_K0 I.kIn hk (aEv (us:=[]) F hr hb hd hx I .nil h)
def aTw{CX:mW}{k:Nat}{f C:qk}{fd:vz}{ps:List Str}{sp:Sp}{dvs:List V}{ds:List qj}{E:XK}{m:Str}{pos apos:Pos}{e o:qu}{es:List qu}{ta:TE}{t:TA}{pl:Sem Bool}(he:PE X o ta)(c:Cls X.K C)(hm:Meth X.K C m f)(F:FnOk X.prog X.w X.K X.mg X.base CX k f fd ps sp)(hr:Room k X.A)(hb:gU X.K fd ps ds)(hd:aZ dvs ds)(hx:rA CX X E)(ha:PA X (e::es) t)
 (hst:zx (e::es) X.env=(false,eval e X.env)::zx es X.env:=by rfl) (hpl:(backTo pos (zx es X.env)).any (·.1)=false:=by rfl)
 (ht:eval (.Call (.Attribute o m apos) (e::es) [] pos) X.env=(do
   let ov <- eval o X.env
   standAt apos.atName
   let (f,first) <- holding [ov] (getMethod ov m pl)
   callWith pos f first (backTo pos (zx (e::es) X.env)) (backToKw pos (keywordEach [] X.env))):=by rfl) :
 PE X (.Call (.Attribute o m apos) (e::es) [] pos) (aLT C m sp dvs E ta t):=by intro aB s σ H Q I h;refine PySem.W.methodCall_KW (pl:=pl) (bC (he aB s σ H _ I h) λ u s1 hPq30=>?_) ht;let(x,H1,I1,rx,a,dx,fs,ex,ea,l,q):=hPq30;subst ex;obtain rfl:u=Value.ref a:=rx;refine aPJ I1 ea c hm l ?_;refine yHc (first:=[.ref a]) (h₀:=X.base) I.ok.mod.kin hm.kp (bC (ha pos aB s1 σ H1 _ I1 q) λ us s2 ⟨vs,H2,I2,r,q2⟩=>(I2.kIn,?_,)) hst hpl;exact aEv (us:=.ref a::us) (vs:=.ref a::vs) F hr hb hd hx I2 (.cons rfl r) q2
structure Mk(K:FrG)(C f:qk):Prop where
 makes:yIb K C=true
 init:yBo K (.ref C) "__init__" = qz (qz (.ref f))
 fn:yHb K (.ref f)=true
 kp:yBs K (.ref C)=true
def aRY{E:XK}{Q:VK}(M:Mk X.K C f)(F:FnOk X.prog X.w X.K X.mg X.base CX k f fd ps sp)(hr:Room (k+1) X.A)(hb:gU X.K fd ps ds)(hd:aZ dvs ds)(hx:rA CX X E)(I:Inv X aB σ H s)(r:aZ vs us)(h:∀ x dx,H x=qx->H dx=qx->dx≠x->sp (.ref x::(vs++dvs)) (bE (bE H dx (.own x)) x (.ins C dx [])) (λ v H2=>v=.non/\Q (.ref x) H2) E) :
 zq (model X.prog X.w) X.A (call (.ref C) us) (EP X aB σ Q) X.xe s:=by
 have hq:=h (s.heap.objs.size+1) s.heap.objs.size (I.hok.fresh (yGo _)) (I.hok.fresh (yAc _)) (xAj (yDd _));have I2:=Inv.made (C:=C) I;have r2:aZ (V.ref (s.heap.objs.size+1)::(vs++dvs)) (Value.ref (s.heap.objs.size+1)::(us++ds)):=.cons rfl (r.append hd);have hl:(Value.ref (s.heap.objs.size+1)::us++ds).length=↑ps:=by
  have e:=r2.length;rw[F.len _ _ _ _ hq] at e;exact e.symm
 refine wpAny_call (aR1 (f:=f) I.kIn M.makes M.init (beq_iff_eq.mp M.fn) (codeAny_mono (F.run _ X.stack _ _ (Value.ref (s.heap.objs.size+1)::us,[],) (Value.ref (s.heap.objs.size+1)::(us++ds)) _ _ E (hr.make C us [])
  (I2.env0.make C us []) (hb _ (Value.ref (s.heap.objs.size+1)::us) I2.kIn hl) r2 hq) λ r s' hq'=>?_))
 cases r with
 |error e=>exact hx aB σ _ _ e s' I2 hq'
 |ok fl=>
   cases fl with
   |ret u=>
     let(v,H',I3,rv,ev,q3):=I2.after hq';subst ev;exact(rv,(V.ref (s.heap.objs.size+1),H',I3,rfl,q3,),)
   |next=>exact False.elim hq'|brk=>exact False.elim hq'|cont=>exact False.elim hq'
def aT1{CX:mW}{k:Nat}{f C:qk}{fd:vz}{ps:List Str}{sp:Sp}{dvs:List V}{ds:List qj}{E:XK}{x:Str}{p pos:Pos}{e:qu}{es:List qu}{t:TA}(M:Mk X.K C f)(F:FnOk X.prog X.w X.K X.mg X.base CX k f fd ps sp)(hr:Room (k+1) X.A)(hg:Gl X x)(hm:X.mg x=qz (.ref C))(hb:gU X.K fd ps ds)(hd:aZ dvs ds)(hx:rA CX X E)
 (ha:PA X (e::es) t) (hdb:(x==("__debug__" : Str))=false:=by decide) (he:zx (e::es) X.env=(false,eval e X.env)::zx es X.env:=by rfl) (hpl:(backTo pos (zx es X.env)).any (·.1)=false:=by rfl) :
 PE X (.Call (.Name x p) (e::es) [] pos) (aMN C sp dvs E t):=by intro aB s σ H Q I h;refine xu (aA6 I hg hm ?_ hdb);refine yHc (h₀:=X.base) I.ok.mod.kin M.kp (bC (ha pos aB s σ H _ I h) λ us s1 ⟨vs,H1,I1,r,q⟩=>(I1.kIn,?_,)) he hpl;exact aRY M F hr hb hd hx I1 r q
structure KBinds(K:FrG)(fd:vz)(ps ks:List Str)(g:List qj->List qj->List qj)(gV:List V->List V->List V):Prop where
 to:∀ (s:qy) (us ws:List qj),K.In s.heap->(g us ws).length=↑ps->BindsTo s fd ⟨us,ks.zip ws⟩ (ps.zip (g us ws))
 rel:∀ {vs:List V}{us:List qj}{zs:List V}{ws:List qj},aZ vs us->aZ zs ws->aZ (gV vs zs) (g us ws)
structure FnScope(N P:List Str)(sc:zk):Prop where
 kind:sc.kind=.function
 co:sc.isCoroutine=false
 gen:sc.isGenerator=false
 nd:N.Nodup
 pre:N.take P.length=P
 par:∀ x∈P,sc.names.lookup x=qz .local\/sc.names.lookup x=qz .cell
 nofree:∀ y∈sc.names,y.2≠.free
def aHL{kindOf:Str->Option jy}:∀ {binds:List (Str×qj)}{m:Str->Option qj},(∀ v,(x,v) ∉ binds)->bindL kindOf binds m x=m x
 |[],_,_=>rfl
 |(n,v)::r,m,h=>by
   unfold bindL;rw[aHL λ w hw=>h w (xAf _ hw)];split
   .have:x≠n:=by rintro rfl;exact h v xAc
    simp[this]
   .rfl
def aHG{kindOf:Str->Option jy}:∀ {binds:List (Str×qj)}{m:Str->Option qj},(∀ v,(x,v) ∉ binds)->bindC kindOf binds m x=m x
 |[],_,_=>rfl
 |(n,v)::r,m,h=>by
   unfold bindC;rw[aHG λ w hw=>h w (xAf _ hw)];split
   .rfl
   grind
def aHo{kindOf:Str->Option jy}:∀ {P:List Str}{vs:List qj}{i:Nat}{m:Str->Option qj},P.Nodup->P[i]?=qz x->vs[i]?=qz v->kindOf x=qz .local ->
 bindL kindOf (P.zip vs) m x=qz v
 |[],_,_,_,_,h,_,_=>by simp at h|_::_,[],_,_,_,_,h,_=>by simp at h
 |p::P,w::vs,0,m,nd,h1,h2,hk=>by
   simp at h1 h2;subst h1;subst h2;show bindL kindOf ((p,w)::P.zip vs) m p=_;unfold bindL;rw[aHL λ v hv=>(List.nodup_cons.mp nd).1 (yGp hv).1,if_pos hk];simp
 |p::P,w::vs,i+1,m,nd,h1,h2,hk=>by
   show bindL kindOf ((p,w)::P.zip vs) m x=_;unfold bindL;exact aHo (i:=i) (List.nodup_cons.mp nd).2 (h1:) (h2:) hk
def aHI{kindOf:Str->Option jy}:∀ {P:List Str}{vs:List qj}{i:Nat}{m:Str->Option qj},P.Nodup->P[i]?=qz x->vs[i]?=qz v->kindOf x≠qz .local ->
 bindC kindOf (P.zip vs) m x=qz v
 |[],_,_,_,_,h,_,_=>by simp at h|_::_,[],_,_,_,_,h,_=>by simp at h
 |p::P,w::vs,0,m,nd,h1,h2,hk=>by
   simp at h1 h2;subst h1;subst h2;show bindC kindOf ((p,w)::P.zip vs) m p=_;unfold bindC;rw[aHG λ v hv=>(List.nodup_cons.mp nd).1 (yGp hv).1,if_neg hk];simp
 |p::P,w::vs,i+1,m,nd,h1,h2,hk=>by
   show bindC kindOf ((p,w)::P.zip vs) m x=_;unfold bindC;exact aHI (i:=i) (List.nodup_cons.mp nd).2 (h1:) (h2:) hk
def start(N:List Str)(vs:List V):St:=vs.map qz++yAf (N.length-↑vs) qx
def uP(CX:mW)(P:zv)(w:zw)(K:FrG)(mg:Str->Option qj)(base:Heap)(N:List Str)(qual:Str)(scope:zk)(f:qk)(cd:qj)(A:zy)(outer:List Env)(s:qy)(H:Hp)(E:XK):Cx where
 prog:=P
 w:=w
 K:=K
 mg:=mg
 base:=base
 A:=A.deeper (envOfC qual scope s.heap.objs.size f cd)
 N:=N
 s₀:=s
 H₀:=H
 env:=envOfC qual scope s.heap.objs.size f cd
 outer:=outer
 stack:=envOfC qual scope s.heap.objs.size f cd::outer
 ex:=[]
 calm:=true
 fn:=λ _=>true
 pn:=[]
 xe:=λ e s'=>zq (model P w) (A.deeper (envOfC qual scope s.heap.objs.size f cd)) (leaving (envOfC qual scope s.heap.objs.size f cd) e) (λ _ s''=>CX outer H s E e s'') (λ e' s''=>CX outer H s E e' s'') s'
def aIB{sc:zk}(h:sc.names.lookup x=qz .cell):∃ c,(cellsFrom n sc.names []).lookup x=qz c:=by have q:=PySem.W.cellsFrom_some sc.names n [] (.inl h);exact Option.isSome_iff_exists.mp q
def aQB{mg:Str->Option qj}{A:zy}{E:XK}{vs:List V}(S:FnScope N ps scope)(hd:A.handled=qx)(e0:Env0 P w K mg base A outer s H)(hl:↑vs=↑ps)(r:aZ vs us)(x:InCallC s s.heap.objs.size (bindL (envOfC qual scope s.heap.objs.size f cd).kindOf (ps.zip us) λ _=>qx) (cellsFrom (s.heap.objs.size+1) scope.names []) (bindC (envOfC qual scope s.heap.objs.size f cd).kindOf (ps.zip us) λ _=>qx) s1) :
 Inv (uP CX P w K mg base N qual scope f cd A outer s H E) [] (start N vs) H s1:=by
 have hpl:↑ps<=N.length:=by have:=congrArg yGc S.pre;rw[yBg] at this;omega
 let(h1,tk,rfl,hk):=x.done;have noA:∀ b:qk,b ∉ (uP CX P w K mg base N qual scope f cd A outer s H E).ex:=λ b z=>absurd (show b∈([]:List qk) from z) (by simp)
 refine⟨(e0.mod,S.kind,rfl,rfl,yAc _,λ y z c h1 h2=>?_,λ y hy=>?_,λ y c _ h=>?_,λ _=>hd,Around.frames_deeper e0.frames,.inr (rfl,rfl,),λ b z=>absurd z (noA b),e0.bs,e0.bsz,λ b _ _=>noA b,λ b z=>absurd z (noA b),e0.funs,e0.frf,),
  rfl,e0.bare,Un.kept hk,(_,x.toInCall.ns,λ i y v h1 h2 h3=>?_,),λ y c h=>(_,x.cell y c h,),e0.hok.fresh (yAc _),λ y c h=>?_,λ p hp=>absurd (show p∈([]:List (qk×Obj)) from hp) (by simp),e0.hok.kept hk,?_⟩
 .exact name_of_addr x.apart (PySem.mem_of_lookup h1) (PySem.mem_of_lookup h2)
 .have hy:scope.names.lookup y=qz .cell\/scope.names.lookup y=qz .free:=hy;rcases hy with hy|hy
  .exact aIB hy
  .exact absurd rfl (S.nofree _ (PySem.mem_of_lookup hy))
 .exact yEe (x.above y c (PySem.mem_of_lookup h))
 .have hi:i<↑vs:=by
   unfold start at h2;by_cases hi:i<↑vs
   .exact hi
   .rw[yAd (hi:)] at h2;rw[yCg] at h2;split at h2<;>cases h2
  have ha:vs[i]?=qz v:=by
   unfold start at h2;rw[xAm (hi:),yAg] at h2;simp_all
  let(u,hu,rv):=r.get ha;have hp:ps[i]?=qz y:=by
   rw[<- S.pre,yCz (!_)];exact h1
  have ndP:ps.Nodup:=by rw[<- S.pre];exact S.nd.sublist (List.take_sublist _ _)
  refine(u,rv,?_,);rcases S.par y (xAk hp) with k|k
  .exact .inl (k,aHo ndP hp hu k,)
  .let(c,e):=aIB (n:=s.heap.objs.size+1) k;refine .inr (.inl k,c,e,?_,);have q:=x.cell y c e;rw[aHI ndP hp hu (by show scope.names.lookup y≠_;rw[k];decide)] at q;exact q
 .exact e0.hok.fresh (yEe (x.above y c (PySem.mem_of_lookup h)))
 .unfold start;show _=N.length;rw[yAj,yAa,yBj];omega
def aYi{mg:Str->Option qj}{dV kV:qj}(lk:K.lookup f=qz (oc,od,.func (yCf name qual params body scope dV kV doc pm an cdv ct),osl,))(hcd:yDj K cdv qual=true)(S:FnScope N ps scope)(len:∀ vs H Q E,sp vs H Q E->↑vs=↑ps)(hbody:∀ (A:zy) (outer:List Env) (s:qy) (H:Hp) (vs:List V) (Q:VK) (E:XK),Room k (A.deeper (envOfC qual scope s.heap.objs.size f cdv))->sp vs H Q E ->
   ∃ t,dM (uP CX P w K mg base N qual scope f cdv A outer s H E) body t/\t {nx:=λ _ H'=>Q .non H',rt:=Q } (start N vs) H) :
 FnOk P w K mg base CX (k+1) f (yCf name qual params body scope dV kV doc pm an cdv ct) ps sp:=by
 refine(len,λ A outer s H args us vs Q E hr e0 hb r hsp=>?_,);have hl:=len _ _ _ _ hsp;have KX:K.In s.heap:=e0.mod.kin.keeps λ b o e=>(e0.bs b o e).1
 have lim:s.heap.NoLimit:=e0.mod.nolimit.keeps λ b o e=>(e0.bs b o e).1
 have hkind:∀ y∈ps.zip us,scope.names.lookup y.1=qz .local\/(scope.names.lookup y.1=qz .cell/\((cellsFrom (s.heap.objs.size+1) scope.names []).lookup y.1).isSome=true):=λ aW hy=>by
  let(n,v):=aW;rcases S.par n (yGp hy).1 with q|q
  .exact .inl q
  .exact .inr (q,PySem.W.cellsFrom_some _ _ _ (.inl q),)
 refine codeAny_call_function hr.depth (KX _ _ lk) rfl S.co S.gen rfl (PySem.W.codeRec_of KX hcd) (hb _ _ _ _ ?_);refine wpAny_newFunctionEnv_cells S.kind hkind λ env he s1 x=>?_
 subst he;refine(lim.keeps x.toInCall.keep,codeAny_func ?_,);let(t,ht,hq):=hbody A outer s H vs Q E (hr.deeper _) hsp;have I:Inv (uP CX P w K mg base N qual scope f cdv A outer s H E) [] (start N vs) H s1:=aQB S hr.hd e0 hl r x;refine wpAny_mono (ht [] s1 (start N vs) H _ I hq) (λ fl s' hs=>?_) λ e s' hs=>hs
 have cV:∀ {σ':St}{H':Hp}{v:V}{u:qj},Inv (uP CX P w K mg base N qual scope f cdv A outer s H E) [] σ' H' s'->aY v u->Q v H'->CE outer P w H s Q u s':=
  λ {σ' H' v u} J rv q=>(v,H',J.os,J.bare,J.base,J.hok,rv,q,)
 cases fl with
 |ret u=>
   let(v,σ',H',J,rv,q):=hs;exact cV J rv q
 |next=>
   let(σ',H',J,q):=hs;exact cV (v:=V.non) (u:=Value.none) J rfl q
 |brk=>
   let(_,_,_,q):=hs;exact False.elim q
 |cont=>
   let(_,_,_,q):=hs;exact False.elim q
end L2
namespace L2
open PySem PySem.Spec PyProof.Rows
def tCB(r:List V->Hp->VK->Prop)(t:TA):TE:=λ σ H Q=>t σ H λ vs H1=>r vs H1 Q
def aAP{X:Cx}{x:Str}{p pos:Pos}{e:qu}{es:List qu}{t:TA}{id:String}{r:List V -> Hp -> VK -> Prop}(hc:gK X (.builtin id) r)(hg:Gl X x)(hm:X.mg x=qx)(hv:vy x=qz (.builtin id))(ha:PA X (e::es) t)(hn:x ≠ "__name__":=by decide)(hdb:(x==("__debug__" : Str))=false:=by decide)
 (he:zx (e::es) X.env=(false,eval e X.env)::zx es X.env:=by rfl) (hpl:(backTo pos (zx es X.env)).any (·.1)=false:=by rfl):PE X (.Call (.Name x p) (e::es) [] pos) (tCB r t):=by intro aB s σ H Q I h;refine xu (pB I hg hm hv ?_ hn hdb);exact PyProof.Rows.callWith_builtin1 (bC (ha pos aB s σ H _ I h) λ us s1 ⟨vs,H1,I1,r1,q1⟩=>hc aB s1 σ H1 vs us Q I1 r1 q1) he hpl
def aHp{X:Cx}{x:Str}{p pos:Pos}{e:qu}{es:List qu}{t:TA}{T:String}{r:List V -> Hp -> VK -> Prop}(hc:gK X (.type T) r)(hg:Gl X x)(hm:X.mg x=qx)(hv:vy x=qz (.type T))(ha:PA X (e::es) t)(hn:x ≠ "__name__":=by decide)(hdb:(x==("__debug__" : Str))=false:=by decide)
 (he:zx (e::es) X.env=(false,eval e X.env)::zx es X.env:=by rfl) (hpl:(backTo pos (zx es X.env)).any (·.1)=false:=by rfl):PE X (.Call (.Name x p) (e::es) [] pos) (tCB r t):=by intro aB s σ H Q I h;refine xu (pB I hg hm hv ?_ hn hdb);exact yBm (bC (ha pos aB s σ H _ I h) λ us s1 ⟨vs,H1,I1,r1,q1⟩=>hc aB s1 σ H1 vs us Q I1 r1 q1) he hpl
end L2
namespace HT
open PySem PyProof.Rows
section
open PySem.SeqAt
open PySem.AutoSeq1 (wpAny_loadPart')
open PySem.MeetsSeq PySem.MeetsSeq2 PySem.MeetsSeq3
end
def cat_tup{E:qj -> qy -> Prop}{s:qy}{vs ws:List qj}{Q:qj->qy->Prop}(ht:IsTup s.heap t vs.toArray)(hb:IsTup s.heap b ws.toArray)(hv:vs≠[])(h1:ws=[]->Q (.ref t) s)(h2:ws≠[]->Q (.ref s.heap.objs.size) {s with heap:=s.heap.push {cls:=.type "tuple",data:=.seq (vs++ws).toArray } })(hsz:↑vs+↑ws<=qo):zq (model prog w) A (zo .Add (.ref t) (.ref b)) Q E s:=by
 let((cls,dd,data,sl),ho,hc,n,hd):=id ht;let((cls2,dd2,data2,sl2),ho2,hc2,n2,hd2):=id hb;simp only at hc hd hc2 hd2;subst hc hd hc2 hd2;have e:vs.toArray++ws.toArray=(vs++ws).toArray:=by simp
 by_cases hw:ws=[]
 .exact concat_meets (_,ho,rfl,) (_,ho2,rfl,) noFill_tuple_add seq_tuple_add yFz yFp (yFl _ _)
   (tuple_addW1 t b vs.toArray ws.toArray n n2 dd dd2 sl sl2 (hv:) (by simp[hw])) (ho,ho2,h1 hw,)
 .refine concat_meets (_,ho,rfl,) (_,ho2,rfl,) noFill_tuple_add seq_tuple_add yFz yFp (yFl _ _)
   (tuple_addW2 t b vs.toArray ws.toArray n n2 dd dd2 sl sl2 (hv:) (hw:) (by rw[yAl,yAl];exact hsz)) (ho,ho2,?_,)
  rw[e];exact h2 hw
def sIx(n d:Nat):Option Int->Nat
 |none=>d
 |some v=>if v<0 then (v+(n:Int)).toNat else min v.toNat n
def sIx_none(n d:Nat):sIx n d qx=d:=rfl
def sIx_nat(n d k:Nat):sIx n d (qz (k:Int))=min k n:=by show(if (k:Int)<0 then ((k:Int)+(n:Int)).toNat else min (k:Int).toNat n)=min k n;rw[if_neg (!_),yAu]
def aWh(n d:Nat)(hd:d<=n)(o:Option Int):sIx n d o<=n:=by
 cases o with
 |none=>exact hd
 |some v=>
   show(if v<0 then (v+(n:Int)).toNat else min v.toNat n)<=n;by_cases hv:v<0
   .rw[if_pos hv];omega
   .rw[if_neg hv];exact yFf _ _
def aKg(v:Int)(n d:Nat):(if v<0 then max (v+(n:Int)) 0 else min v (n:Int))=((sIx n d (qz v):Nat):Int):=by
 show(if v<0 then max (v+(n:Int)) 0 else min v (n:Int))=(((if v<0 then (v+(n:Int)).toNat else min v.toNat n):Nat):Int);by_cases hv:v<0
 .simp only[if_pos hv];omega
 .simp only[if_neg hv];omega
def aPc(lo hi:Option Int)(n:Nat):yFb lo hi 1 (n:Int)=(((sIx n 0 lo:Nat):Int),((sIx n n hi:Nat):Int)):=by
 have h1:¬ ((1:Int)<0):=by omega
 unfold yFb;simp only[h1,if_false];refine Prod.ext ?_ ?_
 .cases lo with|none=>rfl|some v=>exact aKg v n 0
 .cases hi with|none=>rfl|some v=>exact aKg v n n
def aPr(i j:Nat):yDz (i:Int) (j:Int) 1=j-i:=by
 unfold yDz;have h1:(1:Int)>0:=by omega
 simp only[h1,if_true,Int.ediv_one];split<;>omega
def aHn{E:qj -> qy -> Prop}{Q:Option Int->qy->Prop}(p:IsPart v o)(h:Q o s):zq (model prog w) A (Builtin.Slice.slicePartIndex v) Q E s:=by
 cases p with
 |none=>exact slicePart_none h|int i t=>exact slicePart_int h
def sliceApplied_gen{E:qj -> qy -> Prop}{s:qy}{lo hi:Option Int}{Q:Int×Int×Nat->qy->Prop}(hs:s.heap.IsSliceOf sl vl vu .none)(pl:IsPart vl lo)(pu:IsPart vu hi)(h:Q (((sIx n 0 lo:Nat):Int),1,sIx n n hi-sIx n 0 lo) s):zq (model prog w) A (yGw (.ref sl) (pure (n:Int))) Q E s:=by let(os,hos,hcs,hds):=id hs;unfold yGw Builtin.Slice.sliceFields;refine wB (wB (xj hos hds (x:=vl) rfl (wB (xj hos hds (x:=vu) rfl (wB (xj hos hds (x:=.none) rfl (wP ?_)))))));refine wB (slicePart_none ?_);show zq _ _ (if ((1:Int)==0)=true then _ else _) _ _ s;rw[if_neg (·)];refine wB (aHn pl (wB (aHn pu (wB (wP ?_)))));show zq _ _ (match yFb lo hi 1 (n:Int) with|(lo,hi)=>pure (lo,(1:Int),yDz lo hi 1)) _ _ s;rw[aPc lo hi n];show zq _ _ (pure (((sIx n 0 lo:Nat):Int),(1:Int),yDz ((sIx n 0 lo:Nat):Int) ((sIx n n hi:Nat):Int) 1)) _ _ s;rw[aPr];exact wP h
def aRX(xs:Array qj)(i k:Nat):((yAo k).filterMap λ(m:Nat)=>xs[((i:Int)+(m:Int)*1).toNat]?).toArray=((xs.toList.drop i).take k).toArray:=by
 have e:(λ(m:Nat)=>xs[((i:Int)+(m:Int)*1).toNat]?)=λ m=>xs[i+m]?:=by
  funext m;have:((i:Int)+(m:Int)*1).toNat=i+m:=by omega
  rw[this]
 rw[e];have:=pick_run xs i k;rw[List.filterMap_map] at this;have e2:((λ x=>xs[x]?) ∘ λ x=>i+x)=λ m=>xs[i+m]?:=rfl
 rw[e2] at this;rw[this]
def getItem_tuple_cut{E:qj -> qy -> Prop}{s:qy}{lo hi:Option Int}{Q:qj->qy->Prop}(ht:IsTup s.heap t aX)(hs:s.heap.IsSliceOf sl vl vu .none)(pl:IsPart vl lo)(pu:IsPart vu hi)(hw:¬ (sIx aX.size 0 lo=0/\sIx aX.size aX.size hi=aX.size))(h:Q (.ref s.heap.objs.size) {s with heap:=s.heap.push {cls:=.type "tuple",data:=.seq ((aX.toList.drop (sIx aX.size 0 lo)).take (sIx aX.size aX.size hi-sIx aX.size 0 lo)).toArray } })(hsz:aX.size<=qo):zq (model prog w) A (getItem (.ref t) (.ref sl)) Q E s:=by
 have htake:sizeOk (.seq ((aX.toList.drop (sIx aX.size 0 lo)).take (sIx aX.size aX.size hi-sIx aX.size 0 lo)).toArray):=by
  show((aX.toList.drop (sIx aX.size 0 lo)).take (sIx aX.size aX.size hi-sIx aX.size 0 lo)).toArray.size<=qo;rw[yAl,yBg,yFg,yGq];omega
 have hj:sIx aX.size aX.size hi<=aX.size:=aWh _ _ (yAc _) hi;let(os,hos,hcs,hds):=id hs;have hTs:s.TypeIs (.ref sl) "slice":=(os,hos,hcs,);unfold getItem
 try with_reducible refine xq ?_
 first|refine wB (wP ?_)|skip
 refine wB (wpAny_sequenceKey ht.typeIs (·) ?_)
 refine wB (wpAny_callSpecial?_slot (name:=Str.ofString "__getitem__") ht.typeIs yCo
  (vq yCo ht.typeIs entry_tuple_getitem ?_ (args_tuple_getitem _ _)))
 show zq _ _ (yGx (.ref t) >>= _) _ _ s;refine wB (tupleItemsOf_ ht ?_);refine wB (wpAny_typeOf hTs ?_);rw[if_pos (·)];refine wB (sliceApplied_gen hs pl pu ?_);have hno:¬ ((((sIx aX.size 0 lo:Nat):Int)==0&&(1:Int)==1&&(sIx aX.size aX.size hi-sIx aX.size 0 lo)==aX.size)=true):=by
  simp_all
 show zq _ _ (if (((sIx aX.size 0 lo:Nat):Int)==0&&(1:Int)==1&&(sIx aX.size aX.size hi-sIx aX.size 0 lo)==aX.size)=true then _ else _) _ _ s;rw[if_neg hno,aRX]
 first
  |exact wB (m:=yDa _) (xy (wP (_,rfl,wP h,)) htake)
  |exact wB (m:=yDa _) (xy (wB (wP (wP (_,rfl,wP h,)))) htake)
  |exact wB (wB (m:=yDa _) (xy (wP (wP (_,rfl,wP h,))) htake))
  |exact wB (wB (m:=yDa _) (xy (wP (_,rfl,wP h,)) htake))
end HT
namespace L2
open PySem PySem.Spec PyProof.Rows
abbrev TO:=St->Hp->(Option Int->Hp->Prop)->Prop
def PO(X:Cx)(e:Option qu)(t:TO):Prop:=
 ∀ (aB:List (qk×Obj)) (s:qy) (σ:St) (H:Hp) (Q:Option Int->Hp->Prop),Inv X aB σ H s->t σ H Q ->
  zq (model X.prog X.w) X.A (evalPart e X.env) (λ u s'=>∃ o H',Inv X aB σ H' s'/\IsPart u o/\Q o H') X.xe s
def aUg:TO:=λ _ H Q=>Q qx H
def aZe(t:TE):TO:=λ σ H Q=>t σ H λ x H1=>∃ i,x=.int i/\Q (qz i) H1
def aPg{ns:List Int}:∀ {us:List qj},aZ (ns.map V.int) us->IntsAre us ns:=by
 induction ns with
 |nil=>intro us r;rw[yEq] at r;cases r;exact .nil
 |cons n ns ih=>
   intro us r;rw[yAm] at r;cases r with
   |cons r1 r2=>
     let(t,e):=r1;subst e;exact .cons n t (ih r2)
def aSV:PO X qx aUg:=by intro aB s σ H Q I h;rw[evalPart_none];exact wP (qx,H,I,.none,h,)
def aSR{te:TE}(h:PE X e te):PO X (qz e) (aZe te):=by
 intro aB s σ H Q I hw;rw[evalPart_some];refine bC (h aB s σ H _ I hw) λ u s1 hPq31=>?_
 let(x,H1,I1,r1,q1):=hPq31;let(i,rfl,q):=q1;let(t,rfl):=r1;exact(qz i,H1,I1,.int i t,q,)
def SlR(X:Cx)(r:V->Option Int->Option Int->Hp->VK->Prop):Prop:=
 ∀ (aB:List (qk×Obj)) (s:qy) (σ:St) (H:Hp) (x:V) (v vl vu:qj) (lo hi:Option Int) (sl:qk) (Q:VK),Inv X aB σ H s->aY x v->s.heap.IsSliceOf sl vl vu .none->IsPart vl lo->IsPart vu hi->r x lo hi H Q ->
  ∃ T id,typeLookup (.type T) "__getitem__" = pure (qz (.builtin id))/\s.TypeIs v T/\zq (model X.prog X.w) X.A (getItem v (.ref sl)) (EP X aB σ Q) X.xe s
def tSl(r:V->Option Int->Option Int->Hp->VK->Prop)(te:TE)(tl th:TO):TE:=λ σ H Q=>te σ H λ x H1=>tl σ H1 λ l H2=>th σ H2 λ u H3=>r x l u H3 Q
def aIw{te:TE}{lo hi:Option qu}{r:V->Option Int->Option Int->Hp->VK->Prop}(hr:SlR X r)(he:PE X e te)(hl:PO X lo tl)(hu:PO X hi th):PE X (.Subscript e (.Slice lo hi qx p2) pos) (tSl r te tl th):=by
 intro aB s σ H Q I h;refine Subscript_ (bC (he aB s σ H _ I h) λ v s1 hPq32=>?_);let(x,H1,I1,r1,q1):=hPq32;refine wpAny_Slice (bC (hl aB s1 σ H1 _ I1 q1) λ vl s2 ⟨l,H2,I2,pl,q2⟩=>bC (hu aB s2 σ H2 _ I2 q2) λ vu s3 hPq33=>?_);let(u,H3,I3,pu,q3):=hPq33;rw[evalPart_none];refine wP ?_;have I4:Inv X aB σ H3 {s3 with heap:=s3.heap.push {cls:=.type "slice",data:=.fields #[vl,vu,.none] } }:=I3.kept (t':=s3.toks) λ b ob q=>hpS _ q
 let(T,id,hT,ht,hg):=hr aB {s3 with heap:=s3.heap.push {cls:=.type "slice",data:=.fields #[vl,vu,.none] } } σ H3 x v vl vu l u s3.heap.objs.size Q I4 r1 (Heap.IsSliceOf.new ..) pl pu q3;show zq (model X.prog X.w) X.A (subscriptTail e (.Slice lo hi qx p2) v (.ref s3.heap.objs.size)) (EP X aB σ Q) X.xe {s3 with heap:=s3.heap.push {cls:=.type "slice",data:=.fields #[vl,vu,.none] } };exact tail_any (ops:=[.ref s3.heap.objs.size,v]) ht hT hg (by with_unfolding_all rfl)
def oC(xs:List V)(lo hi:Option Int):List V:=(xs.drop (HT.sIx ↑xs 0 lo)).take (HT.sIx ↑xs ↑xs hi-HT.sIx ↑xs 0 lo)
def aGZ(xs:List V)(lo hi:Option Int):(oC xs lo hi).length<=↑xs:=by unfold oC;rw[yBg,yFg];omega
def aZm(K:FrG):V->Option Int->Option Int->Hp->VK->Prop:=λ x lo hi H Q=>∃ a xs,x=.ref a/\cN K H a xs /\
 ¬ (HT.sIx ↑xs 0 lo=0/\HT.sIx ↑xs ↑xs hi=↑xs)/\∀ p,H p=qx->Q (.ref p) (bE H p (.tup (oC xs lo hi)))
def aWv:SlR X (aZm X.K):=by
 intro aB s σ H x v vl vu lo hi sl Q I rx hs pl pu h;let(a,xs,rfl,hx,hw,q):=h;cases rx;let(aG,r,ht,hz):=I.tuple hx;have cS:aG.toArray.size=↑xs:=by rw[yAl];exact r.length.symm
 refine("tuple",_,PyProof.Rows.slot_tuple_getitem.lookup,ht.typeIs,?_,);refine HT.getItem_tuple_cut ht hs pl pu (by rw[cS];exact hw) ?_ (by rw[cS];exact hz);rw[cS];refine(.ref s.heap.objs.size,_,I.laid (t':=s.toks) (o:=.tup (oC xs lo hi)) (λ b ob q=>hpS _ q) (yAc _) ?_,rfl,q _ (I.hok.fresh (yAc _)),);exact(xAh (aGZ xs lo hi) hz,_,(r.drop (HT.sIx ↑xs 0 lo)).take (HT.sIx ↑xs ↑xs hi-HT.sIx ↑xs 0 lo),IsTup.new _ _,)
def aYt(K:FrG):R2:=λ x y H Q=>∃ a b xs ys,x=.ref a/\y=.ref b/\cN K H a xs/\cN K H b ys/\xs≠[]/\↑xs+↑ys<=qo /\
 (ys=[]->Q (.ref a) H)/\(ys≠[]->∀ p,H p=qx->Q (.ref p) (bE H p (.tup (xs++ys))))
def aZ.nil_iff{xs:List V}(r:aZ xs us):us=[] ↔ xs=[]:=by
 cases r with
 |nil=>simp|cons _ _=>simp
def aTQ:dH X (zo .Add) (aYt X.K):=by intro aB s σ H x y v u Q I rx ry h;let(a,b,xs,ys,rfl,rfl,ha,hb,hx,hz,q1,q2):=h;cases rx;cases ry;let(aG,r1,p1,_):=I.tuple ha;let(vM,r2,p2,_):=I.tuple hb;refine HT.cat_tup p1 p2 (λ z=>hx (r1.nil_iff.mp z)) (λ z=>(.ref a,H,I,rfl,q1 (r2.nil_iff.mp z),)) (λ z=>?_) (by rw[<- r1.length,<- r2.length];exact hz);refine(.ref s.heap.objs.size,_,I.laid (t':=s.toks) (o:=.tup (xs++ys)) (λ b ob q=>hpS _ q) (yAc _) ?_,rfl,q2 (λ w=>z (r2.nil_iff.mpr w)) _ (I.hok.fresh (yAc _)),);exact(by rw[yAj];exact hz,_,r1.append r2,IsTup.new _ _,)
end L2
namespace L2
open PySem PySem.Spec PyProof.Rows
def lB(n:Nat)(i:Int):Option Nat:=if 0<=i then (if i<n then qz i.toNat else qx) else if -(n:Int)<=i then qz (i+n).toNat else qx
def lH{α:Type}(xs:List α)(i:Int):Option α:=(lB ↑xs i).bind λ j=>xs[j]?
def aJU{i:Int}(h:lB n i=qz j):seqIndex? i n=qz j/\j<n /\ -(n:Int)<=i/\i<n:=by
 unfold lB at h;by_cases h0:0<=i
 .rw[if_pos h0] at h;by_cases h1:i<n
  .rw[if_pos h1] at h;have e:i.toNat=j:=Option.some.inj h;exact(by rw[seqIndex_of h0 h1,e],by omega,by omega,h1,)
  .rw[if_neg h1] at h;cases h
 .rw[if_neg h0] at h;by_cases h1 : -(n:Int)<=i
  .rw[if_pos h1] at h;have e:(i+n).toNat=j:=Option.some.inj h;exact(by rw[seqIndex_neg (!_) h1,e],by omega,h1,by omega,)
  .rw[if_neg h1] at h;cases h
def aDP{α:Type}{xs:List α}{i:Int}{v:α}(h:lH xs i=qz v):∃ j,seqIndex? i ↑xs=qz j/\xs[j]?=qz v/\j<↑xs /\ -(↑xs:Int)<=i/\i<↑xs:=by
 unfold lH at h;cases e:lB ↑xs i with
 |none=>rw[e] at h;cases h
 |some j=>
   rw[e] at h;let(h1,h2,h3,h4):=aJU e;exact(j,h1,h,h2,h3,h4,)
def wN(b:qu):Prop:=∀ o i,subscripted b false o i=operate [o,i] (getItem o i)
def vL(X:Cx)(r:R2):Prop:=
 ∀ (value iM:qu) (aB:List (qk×Obj)) (s:qy) (σ:St) (H:Hp) (x y:V) (v u:qj) (Q:VK),Inv X aB σ H s->aY x v->aY y u->r x y H Q ->
  subscripted iM false v u=operate [v,u] (getItem v u)->zq (model X.prog X.w) X.A (subscriptTail value iM v u) (EP X aB σ Q) X.xe s
def MtR(X:Cx)(id:String)(r:V->List V->Hp->VK->Prop):Prop:=
 ∀ (aB:List (qk×Obj)) (s:qy) (σ:St) (H:Hp) (x:V) (xs:List V) (v:qj) (us:List qj) (Q:VK),Inv X aB σ H s->aY x v->aZ xs us->r x xs H Q ->
  zq (model X.prog X.w) X.A (call (.builtin id) (v::us)) (EP X aB σ Q) X.xe s
def aMQ{ta tb:TE}{r:R2}(hr:vL X r)(ha:PE X a ta)(hb:PE X b tb)(hs:wN b):PE X (.Subscript a b pos) (tOp r ta tb):=by intro aB s σ H Q I h;exact Subscript_ (aFJ ha hb I h λ v u s2 x y H2 I2 rx ry q=>hr a b aB s2 σ H2 x y v u Q I2 rx ry q (hs _ _))
def aZP(K:FrG):R2:=λ x y H Q=>∃ p xs i v,x=.ref p/\y=.int i/\cB K H p xs/\lH xs i=qz v/\Q v H
def aZ9(K:FrG):R2:=λ x y H Q=>∃ p xs i v,x=.ref p/\y=.int i/\cN K H p xs/\lH xs i=qz v/\Q v H
def bAp:R2:=λ x y H Q=>∃ z i c,x=.str z/\y=.int i/\z.length<=qo/\lH z.cps.toList i=qz c/\Q (.str ⟨#[c]⟩) H
def aSi:vL X (aZP X.K):=by
 intro value iM aB s σ H x y v u Q I rx ry h hs;let(p,xs,i,z,rfl,rfl,hq,he,q):=h;cases rx;let(t,rfl):=ry;let(aG,r,pl,hz):=I.list hq;let(j,h1,h2,h3,h4,h5):=aDP he;let(w,ew,rw'):=r.get h2;have hl:=r.length;have hn:=nE;have cV:EP X aB σ Q w s:=(z,H,I,rw',q,);by_cases h0:0<=i
 .have hj:i.toNat=j:=by
   rw[seqIndex_of h0 h5] at h1;exact Option.some.inj h1
  exact item_listR pl.isList h0 (!_) (by rw[hj];simpa using ew) cV hs
 .have hj:(i+(aG.toArray.size:Int)).toNat=j:=by
   rw[seqIndex_neg (!_) h4] at h1;rw[yAl,<- hl];exact Option.some.inj h1
  exact subscriptTail_builtinR (x:=w) pl.isList.typeIs slot_list_getitem.lookup
   (wpAny_getItem_list_neg (Q:=λ r s'=>r=w/\EP X aB σ Q r s') pl.isList (!_) (by rw[yAl]<;>omega) (!_) (by rw[hj];simpa using ew) (rfl,cV,)) hs
def aVc:vL X (aZ9 X.K):=by
 intro value iM aB s σ H x y v u Q I rx ry h hs;let(p,xs,i,z,rfl,rfl,hq,he,q):=h;cases rx;let(t,rfl):=ry;let(aG,r,pl,hz):=I.tuple hq;let(j,h1,h2,h3,h4,h5):=aDP he;let(w,ew,rw'):=r.get h2;have hl:=r.length;have hn:=nE;have cV:EP X aB σ Q w s:=(z,H,I,rw',q,);exact subscriptTail_builtinR (x:=w) pl.typeIs slot_tuple_getitem.lookup
  (getItem_tuple (j:=j) (Q:=λ r s'=>r=w/\EP X aB σ Q r s') pl (!_) (!_) (by rw[yAl,<- hl];exact h1) (ew:) (rfl,cV,)) hs
def aVx:vL X bAp:=by
 intro value iM aB s σ H x y v u Q I rx ry h hs;let(z,i,c,rfl,rfl,hz,he,q):=h;let(t,rfl):=rx;let(t',rfl):=ry;let(j,h1,h2,h3,h4,h5):=aDP he;have hl:z.cps.toList.length=z.length:=by simp[Str.length]
 rw[hl] at h1 h4 h5;have hn:=nE;exact tail_any (typeIs_str s z t) slot_str_getitem.lookup (getItem_str (c:=c) (by
  have e1:decide (i < -(2^63:Int))=false:=dqF (!_);have e2:decide (i ≥ 2^63)=false:=dqF (!_)
  rw[e1,e2,yFq]) (by rw[h1];simpa using h2) (.str ⟨#[c]⟩,H,I.tok _,(_,rfl,),q,)) hs
def aPM(aG:List qj)(n j:Nat)(u:qj):Obj.mapSeq (·.setIfInBounds j u) {cls:=.type "list",data:=.seq aG.toArray n }={cls:=.type "list",data:=.seq (aG.set j u).toArray n }:=by simp[Obj.mapSeq]
def Inv.lst{xs:List V}(I:Inv X aB σ H s)(h:H p=qz (.lst xs)) :
 ∃ (aG:List qj) (n:Nat),aZ xs aG/\s.heap.get? p=qz {cls:=.type "list",data:=.seq aG.toArray n }/\↑xs<=qo:=by let(z,aG,n,r,e):=I.hok p _ h;exact(aG,n,r,e,z,)
def Inv.lstUpd{X:Cx}{aB:List (qk×Obj)}{σ:St}{H:Hp}{s:qy}{p:qk}{xs ys:List V}{aG its':List qj}{n n':Nat}{f:Obj->Obj}(I:Inv X aB σ H s)(h:H p=qz (.lst xs))
 (ho:s.heap.get? p=qz {cls:=.type "list",data:=.seq aG.toArray n }) (hf:f {cls:=.type "list",data:=.seq aG.toArray n }={cls:=.type "list",data:=.seq its'.toArray n' }) (r:aZ ys its') (hz:↑ys<=qo) (t:Nat) :
 Inv X aB σ (bE H p (.lst ys)) {s with heap:=s.heap.update p f,toks:=t }:=by
 have e:(s.heap.update p f).get? p=qz {cls:=.type "list",data:=.seq its'.toArray n' }:=by
  rw[yCv f ho (by rw[hf]<;>rfl),hf]
 refine I.write (x:=p) (e:=p) (by rw[h];trivial) (.inl rfl) (λ b u hb q=>(yCl _ _ (Ne.symm hb)).trans q) (_,e,) ?_;exact(hz,its',n',r,e,)
def aM2:V->V->V->Hp->(Hp->Prop)->Prop:=λ o i v H Q=>∃ p xs k j,o=.ref p/\i=.int k/\H p=qz (.lst xs)/\lB ↑xs k=qz j/\Q (bE H p (.lst (xs.set j v)))
def aR3:aNg X aM2:=by
 intro aB s σ H o i v ov iv u Q I ro ri rv h;let(p,xs,k,j,rfl,rfl,hp,hj,q):=h;cases ro;let(t,rfl):=ri;let(aG,n,r,ho,hz):=I.lst hp;let(h1,h2,h3,h4):=aJU hj;have hl:=r.length;have hn:=nE;have I':Inv X aB σ (bE H p (.lst (xs.set j v))) {s with heap:=s.heap.update p (Obj.mapSeq (·.setIfInBounds j u)) }:=
  I.lstUpd hp ho (aPM aG n j u) (r.set rv j) (by rw[yBn];exact hz) s.toks
 by_cases h0:0<=k
 .have hk:k.toNat=j:=by
   rw[seqIndex_of h0 h4] at h1;exact Option.some.inj h1
  exact PySem.W.ki_setAt ho h0 (!_) (by rw[yAl,<- hl];exact h4) (by rw[hk];exact(_,I',q,))
 .have hk:(k+(aG.toArray.size:Int)).toNat=j:=by
   rw[seqIndex_neg (!_) h3] at h1;rw[yAl,<- hl];exact Option.some.inj h1
  exact PySem.W.ki_setBack ho (!_) (by rw[yAl,<- hl];exact h3) (!_) (by rw[hk];exact(_,I',q,))
def aOH(lo hi:Option Int)(n:Nat):(vw lo hi qx n).1=((HT.sIx n 0 lo:Nat):Int)/\(vw lo hi qx n).2.1=((HT.sIx n n hi:Nat):Int)/\(vw lo hi qx n).2.2=1:=by
 refine(?_,?_,rfl,)
 .cases lo with
  |none=>simp[vw,HT.sIx]
  |some i=>
    simp only[vw,HT.sIx,yHw,show(1:Int)>0 by decide,if_true];by_cases h:i<0
    .simp only[h,if_true]<;>omega
    .simp only[h,if_false]<;>omega
 .cases hi with
  |none=>simp[vw,HT.sIx]
  |some i=>
    simp only[vw,HT.sIx,yHw,show(1:Int)>0 by decide,if_true];by_cases h:i<0
    .simp only[h,if_true]<;>omega
    .simp only[h,if_false]<;>omega
def aOr(aG:List qj)(lo hi:Option Int):slicePick aG.toArray lo hi qx=((aG.drop (HT.sIx aG.length 0 lo)).take (HT.sIx aG.length aG.length hi-HT.sIx aG.length 0 lo)).toArray:=by let(h1,h2,h3):=aOH lo hi aG.toArray.size;unfold slicePick;rw[h1,h2,h3];simp only[sliceRange_one,pick_run,yAl]<;>rfl
def aZK(K:FrG):V->Option Int->Option Int->Hp->VK->Prop:=λ x lo hi H Q=>∃ a xs,x=.ref a/\cB K H a xs/\∀ p,H p=qx->Q (.ref p) (bE H p (.lst (oC xs lo hi)))
def aTo:SlR X (aZK X.K):=by intro aB s σ H x v vl vu lo hi sl Q I rx hs pl pu h;let(a,xs,rfl,hx,q):=h;cases rx;let(aG,r,ht,hz):=I.list hx;have cS:=r.length;refine("list",_,slot_list_getitem.lookup,ht.isList.typeIs,?_,);refine wpAny_getItem_list_slice ht.isList hs pl pu .none (by simp) ?_ (by rw[yAl]<;>omega);rw[aOr,<- cS];refine(.ref s.heap.objs.size,_,I.laid (t':=s.toks) (o:=.lst (oC xs lo hi)) (λ b ob q=>hpS _ q) (yAc _) ?_,rfl,q _ (I.hok.fresh (yAc _)),);exact(xAh (aGZ xs lo hi) hz,_,0,(r.drop (HT.sIx ↑xs 0 lo)).take (HT.sIx ↑xs ↑xs hi-HT.sIx ↑xs 0 lo),xAd _ rfl,)
def mE:V->Bool
 |.non=>true|.bl _=>true|.int _=>true|.str _=>true|_=>false
def oP:V->V->Bool
 |.non,.non=>true|.bl a,.bl b=>a==b
 |.bl a,.int b=>(if a then 1 else 0)==b
 |.int a,.bl b=>a==(if b then 1 else 0)
 |.int a,.int b=>a==b|.str a,.str b=>a==b|_,_=>false
def aVV(ry:aY y u)(rx:aY x v)(fy:mE y=true)(fx:mE x=true):SeqAt.EqAt A s u v (oP y x):=by
 cases y with
 |non=>
   cases ry;cases x with
   |non=>cases rx;exact SeqAt.EqAt.same _|bl b=>cases rx;exact SeqAt.EqAt.none_bool b
   |int b=>let(t,rfl):=rx;exact SeqAt.EqAt.none_int b t
   |str b=>let(t,rfl):=rx;exact SeqAt.EqAt.none_str b t
   |_=>exact absurd (show false=true from fx) yBi
 |bl a=>
   cases ry;cases x with
   |non=>cases rx;exact SeqAt.EqAt.bool_none a|bl b=>cases rx;exact SeqAt.EqAt.bool_bool a b
   |int b=>let(t,rfl):=rx;exact SeqAt.EqAt.bool_int a b t
   |str b=>let(t,rfl):=rx;exact SeqAt.EqAt.bool_str a b t
   |_=>exact absurd (show false=true from fx) yBi
 |int a=>
   let(t',rfl):=ry;cases x with
   |non=>cases rx;exact SeqAt.EqAt.int_none a t'|bl b=>cases rx;exact SeqAt.EqAt.int_bool a t' b
   |int b=>let(t,rfl):=rx;exact SeqAt.EqAt.int_int a t' b t
   |str b=>let(t,rfl):=rx;exact SeqAt.EqAt.int_str a t' b t
   |_=>exact absurd (show false=true from fx) yBi
 |str a=>
   let(t',rfl):=ry;cases x with
   |non=>cases rx;exact SeqAt.EqAt.str_none a t'|bl b=>cases rx;exact SeqAt.EqAt.str_bool a t' b
   |int b=>let(t,rfl):=rx;exact SeqAt.EqAt.str_int a t' b t
   |str b=>let(t,rfl):=rx;exact SeqAt.EqAt.str_str a t' b t
   |_=>exact absurd (show false=true from fx) yBi
 |_=>exact absurd (show false=true from fy) yBi
def iJ(x:V)(u:qj):Bool:=match u with|.none=>oP .non x|.bool b=>oP (.bl b) x|.int i _=>oP (.int i) x|.str z _=>oP (.str z) x|_=>false
def aLJ(r:aY y u)(f:mE y=true):iJ x u=oP y x:=by
 cases y with
 |non=>cases r;rfl|bl b=>cases r;rfl
 |int i=>let(t,rfl):=r;rfl
 |str z=>let(t,rfl):=r;rfl
 |_=>exact absurd (show false=true from f) yBi
def wM:∀ {xs:List V}{us:List qj},aZ xs us->xs.all mE=true->us.any (iJ x)=xs.any λ y=>oP y x
 |_,_,.nil,_=>rfl
 |y::xs,u::us,.cons r t,f=>by
   rw[List.all_cons,yBv] at f;rw[yFr,yFr,aLJ r f.1,wM t f.2]
def wA(rx:aY x v)(fx:mE x=true):∀ {xs:List V}{us:List qj},aZ xs us->xs.all mE=true->∀ u∈us,SeqAt.EqAt A s u v (iJ x u)
 |_,_,.nil,_=>λ u hu=>by cases hu
 |y::xs,u::us,.cons r t,f=>λ u' hu=>by
   rw[List.all_cons,yBv] at f;rcases List.mem_cons.mp hu with rfl|hu
   .rw[aLJ r f.1];exact aVV r rx f.1 fx
   .exact wA rx fx t f.2 u' hu
def uX(x:V)(xs:List V):Bool:=xs.any λ y=>oP y x
def rIn(K:FrG)(neg:Bool):R2:=λ x y H Q=>∃ p xs,y=.ref p/\(cB K H p xs\/cN K H p xs)/\mE x=true/\xs.all mE=true/\Q (.bl (if neg then !uX x xs else uX x xs)) H
def aQH:dH X (xk .In) (rIn X.K false):=by
 intro aB s σ H x y v u Q I rx ry h;let(p,xs,rfl,hq,fx,fs,q):=h;cases ry;rcases hq with hq|hq
 .let(aG,r,pl,hz):=I.list hq;refine SeqAt.in_listAt (iJ x) pl.isList (λ w hw=>wA rx fx r fs w (hw:)) (.bl _,H,I,rfl,?_,);rw[show aG.toArray.any (iJ x)=aG.any (iJ x) by simp,wM r fs];exact q
 .let(aG,r,pl,hz):=I.tuple hq;refine SeqAt.in_tupleAt (iJ x) pl (λ w hw=>wA rx fx r fs w (hw:)) (.bl _,H,I,rfl,?_,);rw[show aG.toArray.any (iJ x)=aG.any (iJ x) by simp,wM r fs];exact q
def aOD:dH X (xk .NotIn) (rIn X.K true):=by
 intro aB s σ H x y v u Q I rx ry h;let(p,xs,rfl,hq,fx,fs,q):=h;cases ry;rcases hq with hq|hq
 .let(aG,r,pl,hz):=I.list hq;refine SeqAt.notIn_listAt (iJ x) pl.isList (λ w hw=>wA rx fx r fs w (hw:)) (.bl _,H,I,rfl,?_,);rw[show aG.toArray.any (iJ x)=aG.any (iJ x) by simp,wM r fs];exact q
 .let(aG,r,pl,hz):=I.tuple hq;refine SeqAt.notIn_tupleAt (iJ x) pl (λ w hw=>wA rx fx r fs w (hw:)) (.bl _,H,I,rfl,?_,);rw[show aG.toArray.any (iJ x)=aG.any (iJ x) by simp,wM r fs];exact q
def aGQ:gK X (.builtin "len") (λ xs H Q=>∃ p ys,xs=[.ref p]/\(cB X.K H p ys\/cN X.K H p ys)/\Q (.int ↑ys) H):=by
 intro aB s σ H xs us Q I r h;let(p,ys,rfl,hq,q):=h;let(u,rfl,rx):=pO r;cases rx;have hn:=nE;rcases hq with hq|hq
 .let(aG,r',pl,hz):=I.list hq;have cS:=r'.length;exact Calls.call_len_list pl.isList (by simp only[yAl]<;>omega) (.int ↑ys,H,I.tok _,(s.toks+1,by rw[yAl,cS],),q,)
 .let(aG,r',pl,hz):=I.tuple hq;have cS:=r'.length;exact len_tuple pl (by simp only[yAl]<;>omega) (.int ↑ys,H,I.tok _,(s.toks+1,by rw[yAl,cS],),q,)
def aOI:gK X (.builtin "len") (λ xs H Q=>∃ z,xs=[.str z]/\z.length<=qo/\Q (.int z.length) H):=by intro aB s σ H xs us Q I r h;let(z,rfl,hz,q):=h;let(u,rfl,t,rfl):=pO r;have hn:=nE;exact len_str (!_) (.int z.length,H,I.tok _,(_,rfl,),q,)
def aGI:gK X (.type "tuple") (λ xs H Q=>∃ p ys,xs=[.ref p]/\((cB X.K H p ys/\∀ l,H l=qx->Q (.ref l) (bE H l (.tup ys)))\/(cN X.K H p ys/\Q (.ref p) H))):=by
 intro aB s σ H xs us Q I r h;let(p,ys,rfl,h):=h;let(u,rfl,rx):=pO r;cases rx;rcases h with ⟨hq,q⟩|⟨hq,q⟩
 .let(aG,r',pl,hz):=I.list hq;have cS:=r'.length;refine call_tuple_list pl.isList (λ h' kp=>?_) (by simp only[yAl]<;>omega);have I1:Inv X aB σ H {s with heap:=h' }:=I.kept (t':=s.toks) kp;have I2:Inv X aB σ (bE H h'.objs.size (.tup ys)) {s with heap:=h'.push {cls:=.type "tuple",data:=.seq aG.toArray } }:=
   I1.laid (t':=s.toks) (λ b o e=>hpS _ e) (yAc _) (show eQ X.prog X.w _ _ _ (.tup ys) from (hz,aG,r',IsTup.new _ _,))
  exact(.ref h'.objs.size,_,I2,rfl,q _ (I1.hok.fresh (yAc _)),)
 .let(aG,r',pl,hz):=I.tuple hq;exact call_tuple_same pl (.ref p,H,I,rfl,q,)
def tyV(K:FrG)(T:String)(x:V)(H:Hp):Prop:=match x with
 |.str _=>T = "str"|.int _=>T = "int"
 |.ref p=>(T = "list" /\ ∃ xs,cB K H p xs)\/(T = "tuple" /\ ∃ o,K.lookup p=qz o/\o.cls=.type "tuple" /\ o.dict=qx) \/
    (T = "dict" /\ ((∃ aH,H p=qz (.dK aH))\/∃ aH,H p=qz (.dT aH)))\/(T = "set" /\ ∃ S n,H p=qz (.set S n))
 |_=>False
def aKz(I:Inv X aB σ H s)(r:aY x v)(ty:tyV X.K T x H) :
 s.TypeIs v T/\∀ a,v=.ref a->∃ ob,s.heap.get? a=qz ob/\ob.dict=qx:=by
 cases x with
 |str z=>
   let(t,rfl):=r;cases (show T = "str" from ty);exact⟨typeIs_str s z t,λ _ e=>nomatch e⟩
 |int i=>
   let(t,rfl):=r;cases (show T = "int" from ty);exact⟨yz s i t,λ _ e=>nomatch e⟩
 |ref p=>
   cases r;rcases ty with ⟨rfl,xs,hq⟩|⟨rfl,o,hk,hc,hd⟩|⟨rfl,hk⟩|⟨rfl,S,n,hk⟩
   .let(aG,_,pl,_):=I.list hq;refine(pl.isList.typeIs,λ a e=>?_,);cases e;let(o,n,e,c,hd,_):=pl;exact(o,e,hd,)
   .refine((o,I.kIn p o hk,hc,),λ a e=>?_,);cases e;exact(o,I.kIn _ o hk,hd,)
   .have z:∃ o,s.heap.get? p=qz o/\o.ExactDict:=by
     rcases hk with ⟨aH,hk⟩|⟨aH,hk⟩
     .let(_,_,_,_,o,_,_,e,ex,_):=I.hok p _ hk;exact(o,e,ex,)
     .let(_,_,_,_,o,_,_,e,ex,_):=I.hok p _ hk;exact(o,e,ex,)
    let(o,e,ex):=z;refine((o,e,ex.1,),λ a e2=>?_,);cases e2;exact(o,e,ex.2.1,)
   .let(o,_,_,_,e,ex,_):=I.hok p _ hk;refine((o,e,ex.1,),λ a e2=>?_,);cases e2;exact(o,e,ex.2.1,)
 |_=>exact False.elim ty
def aZp(K:FrG)(T:String)(r:V->List V->Hp->VK->Prop)(to:TE):TE:=λ σ H Q=>to σ H λ x H1=>tyV K T x H1/\r x [] H1 Q
def tBM(K:FrG)(T:String)(r:V->List V->Hp->VK->Prop)(to:TE)(t:TA):TE:=λ σ H Q=>to σ H λ x H1=>tyV K T x H1/\t σ H1 λ xs H2=>r x xs H2 Q
def aUG{to:TE}{apos cpos:Pos}{id:String}{r:V -> List V -> Hp -> VK -> Prop}(pa:PlainAttrs T)(slot:Slot T name id)(hty:typeOf (.builtin id)=pure (.type "method_descriptor"))(hm:MtR X id r)(ho:PE X o to)(hbase:attributeBase o name X.env (eval o X.env)=eval o X.env:=by rfl)(hline:(apos.endLine==cpos.line)=true:=by rfl):PE X (.Call (.Attribute o name apos) [] [] cpos) (aZp X.K T r to):=by intro aB s σ H Q I h;refine wpAny_Call_method0_late hbase hline (bC (ho aB s σ H _ I h) λ v s1 hPq34=>?_);let(x,H1,I1,r1,ty,q1):=hPq34;let(h1,h2):=aKz I1 r1 ty;exact(T,id,pa,slot,hty,h1,h2,Calls.callWith_builtin rfl (PySem.evalArgs_none (hm aB s1 σ H1 x [] v [] Q I1 r1 .nil q1)),)
def aE2{X:Cx}{o e:qu}{es:List qu}{to:TE}{t:TA}{name:Str}{apos cpos:Pos}{T id:String}{r:V -> List V -> Hp -> VK -> Prop}(pa:PlainAttrs T)(slot:Slot T name id)(hty:typeOf (.builtin id)=pure (.type "method_descriptor"))(hm:MtR X id r)(ho:PE X o to)(ha:PA X (e::es) t)
 (hbase:attributeBase o name X.env (eval o X.env)=eval o X.env:=by rfl)
 (hfew:((backTo cpos (zx (e::es) X.env)).all (λ x=>!x.1)&&(backToKw cpos (keywordEach [] X.env)).all (λ x=>x.1.isSome)
   && decide ((e::es).length+([]:List Keyword).length+(if ([]:List Keyword).isEmpty then 0 else 1)<30))=true:=by rfl)
 (hline:(apos.endLine==cpos.line)=true:=by rfl) (hs:zx (e::es) X.env=(false,eval e X.env)::zx es X.env:=by rfl) (hplain:(backTo cpos (zx es X.env)).any (·.1)=false:=by rfl) :
 PE X (.Call (.Attribute o name apos) (e::es) [] cpos) (tBM X.K T r to t):=by intro aB s σ H Q I h;refine wpAny_Call_method_late hbase hfew hline rfl (bC (ho aB s σ H _ I h) λ v s1 hPq35=>?_);let(x,H1,I1,r1,ty,q1):=hPq35;let(h1,h2):=aKz I1 r1 ty;refine(T,id,pa,slot,hty,h1,h2,?_,);have hA:=ha cpos aB s1 σ H1 _ I1 q1;rw[hs] at hA ⊢;refine Calls.callWith_builtin (by show(false||(backTo cpos (zx es X.env)).any (·.1))=false;rw[hplain]<;>rfl) (Calls.evalArgs_plain ?_);exact bC hA λ us s2 ⟨vs,H2,I2,r2,q2⟩=>hm aB s2 σ H2 x vs v us Q I2 r1 r2 q2
end L2
namespace L2
open PySem PySem.Spec PyProof.Rows
def MtM(X:Cx)(id:String)(r:V->List V->Hp->VK->Prop):Prop:=
 ∀ (aB:List (qk×Obj)) (s:qy) (σ:St) (H:Hp) (x:V) (xs:List V) (v:qj) (us:List qj) (Q:VK),Inv X aB σ H s->aY x v->aZ xs us->r x xs H Q ->
  zq (model X.prog X.w) X.A (call (.builtin id) (v::us)) (EP X aB σ Q) X.xe s
def aZ.one:∀ {x:V}{us:List qj},aZ [x] us->∃ u,us=[u]/\aY x u
 |_,_,.cons r .nil=>(_,rfl,r,)
def aZ.rep{xs:List V}(h:aZ xs us):∀ k:Nat,aZ (yAf k xs).flatten (yAf k us).flatten
 |0=>.nil
 |k+1=>by
   rw[yBe,yBe,yEy,yEy];exact aZ.append h (aZ.rep h k)
def aAE(aG:List qj):∀ (k:Nat) (aI:List qj),
 List.foldl (λ x1 x2=>x1++x2) aI.toArray (yAf k aG.toArray)=(aI++(yAf k aG).flatten).toArray
 |0,aI=>by simp
 |k+1,aI=>by
   have e:aI.toArray++aG.toArray=(aI++aG).toArray:=by simp
   have e2:(aI++aG)++(yAf k aG).flatten=aI++(yAf (k+1) aG).flatten:=by
    rw[yBe,yEy,yAq]
   rw[<- e2,<- aAE aG k (aI++aG),<- e,yBe,yDm]
section
variable {X:Cx}{aB:List (qk×Obj)}{σ:St}{H:Hp}{s:qy}{l b:qk}{xs ys zs:List V}
def Inv.lset{aG its':List qj}{f:Array qj->Array qj}(I:Inv X aB σ H s)(hH:H l=qz (.lst xs))(e:s.heap.get? l=qz {cls:=.type "list",data:=.seq aG.toArray n })(hf:f aG.toArray=its'.toArray)(hv:aZ ys its')(hz:↑ys<=qo) :
 Inv X aB σ (bE H l (.lst ys)) {s with heap:=s.heap.update l (Obj.mapSeq f),toks:=t' }:=by have q:=PySem.IsL.update e f;rw[hf] at q;refine I.write (x:=l) (e:=l) (by rw[hH];exact trivial) (.inl rfl) (λ b' u hb hu=>(yCl s.heap (Obj.mapSeq f) (Ne.symm hb)).trans hu) (_,q,) ?_;exact(hz,its',_,hv,q,)
def Inv.lnew(I:Inv X aB σ H s)(hv:aZ ys aG)(hz:↑ys<=qo) :
 Inv X aB σ (bE H s.heap.objs.size (.lst ys)) {s with heap:=s.heap.push {cls:=.type "list",data:=.seq aG.toArray },toks:=t' }:=
 I.laid (λ _ _ q=>hpS _ q) (yAc _) (hz,aG,0,hv,xAd _ rfl,)
def Inv.fresh(I:Inv X aB σ H s):H s.heap.objs.size=qx:=I.hok.fresh (yAc _)
def Inv.lstM(I:Inv X aB σ H s)(hH:H l=qz (.lst xs)):↑xs<=qo/\∃ (aG:List qj) (n:Nat),aZ xs aG/\↑xs=aG.length/\s.heap.get? l=qz {cls:=.type "list",data:=.seq aG.toArray n }:=by let(z,aG,n,r,e):=I.hok l _ hH;exact(z,aG,n,r,r.length,e,)
end
def aJi:V->List V->Hp->VK->Prop:=λ x vs H Q=>∃ l xs y,x=.ref l/\vs=[y]/\H l=qz (.lst xs)/\↑xs<qo/\Q .non (bE H l (.lst (xs++[y])))
def aHZ:MtM X "list.append" aJi:=by intro aB s σ H x vs v us Q I rx rv h;let(l,xs,y,rfl,rfl,hH,hz,q):=h;cases rx;let(u,rfl,ru):=rv.one;let(z,aG,n,r,hl,e):=I.lstM hH;refine jx F.slot_list_append (_,e,rfl,) F.entry_list_append (F.args_list_append_2 _ _) (PySem.list_append l aG.toArray n u (by rw[yAl];omega)) (e,?_,);refine(.non,_,I.lset (its':=aG++[u]) hH e (by simp) (r.append (.cons ru .nil)) ?_,rfl,q,);rw[yAj,yGg];omega
def aTg{α:Type}(xs:List α)(k:Nat):(yAf k xs).flatten.length=k*↑xs:=by simp_all
end L2
namespace Att
open PySem PySem.W PySem.Calls PyProof.Rows
def aOi:∀ (ns:List Int) (vs:List qj),WellAll P h vs (ns.map WData.int)->IntsAre vs ns:=by
 intro ns
 induction ns with
 |nil=>
   intro vs w;rw[yEq] at w;cases w;exact .nil
 |cons n ns ih=>
   intro vs w;rw[yAm] at w;cases w with
   |cons a b=>
     cases a;exact .cons _ _ (ih _ b)
def script_of{l:OpenLaw}(hn:l.most=qz n)(hpre:l.row.toRowW.claim.pre args=true)(hwl:WellAll P h vals args) :
 ∃ a vs ns,vals=[Value.ref a]/\args=[WData.list (ns.map WData.int)]/\h.get? a=qz {cls:=.type "list",data:=.seq vs.toArray }/\IntsAre vs ns/\↑ns<=n:=by
 have hsh:WShape.hasAll [] args [.list .int]=true:=(pre_splitW hpre).1;have hc:l.pre.holds [] {args:=args }=true:=(pre_splitW hpre).2;let(d,r,rfl,h1,h2):=hasAllW_cons hsh;obtain rfl:=hasAllW_nil h2;let(xs,rfl,h3):=hasW_list h1;let(ns,rfl):=items_int h3;have cS:↑ns<=n:=by
  unfold OpenLaw.pre at hc;have h4:(WTm.not (.lt (.lit (.int (n:Int))) (.len (.arg 0)))).holds [] {args:=[.list (ns.map .int)] }=true:=by
   have h4:=(holds_andW hc).1;rw[hn] at h4;exact h4
  have h5:=condW_of h4 (w_not (w_lt w_lit (w_len_list (w_arg rfl))));rw[yAa] at h5;simp_all
 cases hwl with
 |cons w1 w2=>
   cases w2;cases w1 with
   |list ho hall=>exact(_,_,ns,rfl,rfl,ho,aOi ns _ hall,cS,)
def post_true(l:OpenLaw)(args:List WData):l.row.toRowW.claim.post args (.bool true) args=true:=
 postW_of (r:=l.row.toRowW) (X:=(true==true))
  (show WShape.has [] (.bool true) .bool=true by first|rfl|decide|simp[WShape.has,WShape.arms,WShape.armsAll])
  (show(WTm.eq .res (.lit (.bool true))).value [] {args:=args,res:=qz (.bool true),after:=args }=qz (.bool (true==true)) from w_eq_bool (w_res rfl) w_lit) rfl
def bAU(h:Heap)(L d:qk):List (qk×Obj):=(yAo h.objs.size).filterMap λ a=>if a=L\/a=d then qx else (h.get? a).map λ o=>(a,o)
end Att
namespace L2
open PySem PySem.Spec PyProof.Rows
def aHP:∀ {vs:List qj}{ns:List Int},IntsAre vs ns->aZ (ns.map V.int) vs
 |_,_,.nil=>.nil|_,_,.cons n t h=>.cons (t,rfl,) (aHP h)
def aNc(H:Hp):Prop:=∀ b,H b=qx\/∃ o xs,H b=qz (.frz o (.lst xs))
def law_call{K:FrG}{mg mb:Str->Option qj}{s₁:qy}(KX:K.In s₁.heap)(hns:s₁.heap.Ns zu mg)(hb:s₁.heap.Ns builtinsNs mb)(hbb:∀ x:Str,x ≠ "__name__" -> mb x=vy x)(hlim:s₁.heap.NoLimit)(hg:s₁.gens = #[])(ha:s₁.heap.get? a=qz {cls:=.type "list",data:=.seq vs.toArray })(hi:IntsAre vs ns)(hl:↑ns<=qo)(hr:Room k callerA)(F:∀ base:Heap,K.In base->base.Ns zu mg->FnOk P w K mg base CX k fa fd [x] sp)(hbind:∀ (s:qy) (u:qj),BindsTo s fd ⟨[u],[]⟩ [(x,u)])(hsp:∀ H:Hp,aNc H->cB K H a (ns.map V.int)->sp [.ref a] H (λ v _=>v=.bl true) λ _ _ _=>False)(hCX:∀ H e s',CX [] H s₁ (λ _ _ _=>False) e s'->False) :
 jo (model P w) callerA (.call (.ref fa) ([.ref a],[],)) (λ r s'=>r=.ok (.ret (.bool true))/\OldK s₁.heap s'.heap/\s'.os=s₁.os/\AllBare s'.gens) s₁:=by
 have rv:=aHP hi;have lenV:=hi.length;have core:∀ H:Hp,aNc H->cB K H a (ns.map V.int)->cY P w H s₁.heap->(∀ b,H b≠qx->b=a)->(H a≠qx->K.lookup a=qx) ->
  jo (model P w) callerA (.call (.ref fa) ([.ref a],[],)) (λ r s'=>r=.ok (.ret (.bool true))/\OldK s₁.heap s'.heap/\s'.os=s₁.os/\AllBare s'.gens) s₁:=by
  intro H hO hS hok hA hK;have pA:∀ {b:qk}{o:Obj},s₁.heap.get? b=qz o->H b=qx->(nZ s₁.heap H).get? b=qz o:=λ e n=>aQ3 e n
  have noA:∀ {b:qk}{o:Obj}{es:Array DictEntry}{ep:Nat},s₁.heap.get? b=qz o->o.data=.dict es ep->H b=qx:=λ {b o es ep} e d=>by
   grind
  have nsK:∀ {b:qk}{m:Str->Option qj},s₁.heap.Ns b m->(nZ s₁.heap H).Ns b m:=λ {b m} ⟨o,es,ep,e,d,r⟩=>(o,es,ep,pA e (noA e d),d,r,)
  have hKb:K.In (nZ s₁.heap H):=λ b o e=>pA (KX b o e) (by
   grind)
  have hM:Mod K mg (nZ s₁.heap H):=(hKb,nsK hns,(mb,nsK hb,hbb,),let ⟨mc,h1,h2⟩:=hlim;(mc,nsK h1,h2,),);have e0:Env0 P w K mg (nZ s₁.heap H) callerA [] s₁ H:=(rfl,hM,λ b o e=>aSP e,yIc (aP4 _ _),trivial,λ b hb=>absurd (show b∈([]:List qk) from hb) (by simp),hok,.of_eq hg,);refine codeAny_mono ((F _ hKb (nsK hns)).run callerA [] s₁ H ([.ref a],[],) [.ref a] [.ref a] _ _ hr e0 (hbind s₁ (.ref a)) (.cons rfl .nil) (hsp H hO hS)) λ r s' h=>?_
  cases r with
  |error e=>exact(hCX H e s' h).elim
  |ok fl=>
    cases fl with
    |next=>exact False.elim h|brk=>exact False.elim h|cont=>exact False.elim h
    |ret u=>
      let(v,H',os,bare,un,hok',r',q):=h;have q':v=.bl true:=q;subst q';obtain rfl:u=Value.bool true:=r';refine(rfl,OldK.of_keep λ b o e=>?_,os,bare,);cases q:H b with
      |none=>exact un.keep b o e q (by intro z;exact absurd (show b∈([]:List qk) from z) (by simp)) (by simp)
      |some u=>
        rcases hO b with z|⟨ob,xs,z⟩
        .rw[q] at z;cases z
        .have z2:=un.frzs b ob _ z;let(e1,_):=hok b _ z;let(e2,_):=hok' b _ z2;rw[e] at e1;simp_all
 cases hk:K.lookup a with
 |some o=>
   have e:=KX a o hk;rw[ha] at e;cases e;refine core (λ _=>qx) (λ _=>.inl rfl) (.inr (_,vs.toArray,_,hk,rfl,rfl,rfl,by rw[yAl,lenV];exact hl,by simpa using rv,)) (λ b u z=>by simp_all) (λ b z=>absurd rfl z) λ z=>absurd rfl z
 |none=>
   refine core (λ b=>if b=a then qz (.frz {cls:=.type "list",data:=.seq vs.toArray } (.lst (ns.map V.int))) else qx) (λ b=>?_) (.inl (.inr ({cls:=.type "list",data:=.seq vs.toArray },if_pos rfl,))) (λ b u z=>?_) (λ b z=>?_) λ _=>hk
   .by_cases hb:b=a
    .exact .inr (_,_,if_pos hb,)
    .exact .inl (if_neg hb)
   .by_cases hb:b=a
    .have z':=(if_pos hb).symm.trans z;cases z';subst hb;exact(ha,by rw[yAa];exact hl,vs,_,rv,ha,)
    simp_all
   simp_all
end L2
namespace L2
open PySem PySem.Spec PyProof.Rows
noncomputable abbrev KOf{K:FrG}{h:Heap}(_:K.In h):FrG:=K
end L2
namespace L2
open PySem PySem.Spec PyProof.Rows
def jO(s:xx):Arguments:=match s with|.FunctionDef _ a _ _ _ _ _ _ _ _=>a|_=>{posonlyargs:=[],args:=[],vararg:=qx,kwonlyargs:=[],kw_defaults:=[],kwarg:=qx,defaults:=[] }
def gR(s:xx):List xx:=match s with|.FunctionDef _ _ b _ _ _ _ _ _ _=>b|_=>[]
def dE(s:xx):zk:=match s with|.FunctionDef _ _ _ _ _ _ sc _ _ _=>sc|_=>{kind:=.function,names:=[],isGenerator:=false,isCoroutine:=false }
noncomputable abbrev oO:mW:=λ _ _ _ _ _ _=>False
noncomputable abbrev E0:XK:=λ _ _ _=>False
def aBw:rA oO X E0:=λ _ _ _ _ _ _ _ h=>h.elim
structure Fun(K:FrG)(x qual:Str)(st:xx)(f:qk)(fd:vz):Prop where
 ex:∃ (oc:qj) (od:Option qk) (kV doc pm:qj) (an:Option qk) (cdv ct:qj) (osl:Array (Option qj)),
  fd=yCf x qual (jO st) (gR st) (dE st) .none kV doc pm an cdv ct/\K.lookup f=qz (oc,od,.func fd,osl,)/\yDj K cdv qual=true
 kp:yBs K (.ref f)=true
variable {K:FrG}
def Fun.ok{P:zv}{w:zw}{mg:Str -> Option qj}{base:Heap}{x qual:Str}{st:xx}{f:qk}{fd:vz}{N ps:List Str}{k:Nat}{sp:Sp}(F:Fun K x qual st f fd)(S:FnScope N ps (dE st))(len:∀ vs H Q E,sp vs H Q E->↑vs=↑ps)
 (hbody:∀ (cdv:qj) (A:zy) (outer:List Env) (s:qy) (H:Hp) (vs:List V) (Q:VK) (E:XK),Room k (A.deeper (envOfC qual (dE st) s.heap.objs.size f cdv))->sp vs H Q E ->
   ∃ t,dM (uP oO P w K mg base N qual (dE st) f cdv A outer s H E).nox (gR st) t/\t {nx:=λ _ H'=>Q .non H',rt:=Q } (start N vs) H):FnOk P w K mg base oO (k+1) f fd ps sp:=by
 let(oc,od,kV,doc,pm,an,cdv,ct,osl,rfl,lk,hcd):=F.ex;refine aYi lk hcd S len λ A outer s H vs Q E hr hsp=>?_
 let(t,h,q):=hbody cdv A outer s H vs Q E hr hsp;exact(t,h.nox,q,)
def Fun.binds{x qual:Str}{st:xx}{f:qk}{fd:vz}{ps:List Str}(F:Fun K x qual st f fd)
 (h:∀ (kV doc pm:qj) (an:Option qk) (cdv ct:qj) (us:List qj),↑us=↑ps->bindArgs (yCf x qual (jO st) (gR st) (dE st) .none kV doc pm an cdv ct) ⟨us,[]⟩=pure (ps.zip us)):gU K fd ps []:=by let(oc,od,kV,doc,pm,an,cdv,ct,osl,rfl,lk,hcd):=F.ex;exact .all (h kV doc pm an cdv ct)
def aEt{x qual:Str}{st:xx}{f:qk}{oc:qj}{od an:Option qk}{osl:Array (Option qj)}{kV doc pm cdv ct:qj}(l:K.lookup f=qz (oc,od,.func (yCf x qual (jO st) (gR st) (dE st) .none kV doc pm an cdv ct),osl,))
 (c:yDj K cdv qual=true) (k:yBs K (.ref f)=true):Fun K x qual st f (yCf x qual (jO st) (gR st) (dE st) .none kV doc pm an cdv ct):=((oc,od,kV,doc,pm,an,cdv,ct,osl,rfl,l,c,),k,)
def pv{X:Cx}(i:Nat){x:Str}{pos:Pos}(hN:X.N[i]?=qz x:=by rfl)(hv:uW X.env.scope x:=by first|exact Or.inl rfl|exact Or.inr (Or.inl rfl)|exact Or.inr (Or.inr rfl))(hd:(x==("__debug__" : Str))=false:=by decide)
 (hcd:(x==("__classdict__" : Str))=false:=by decide):PE X (.Name x pos) (uN i):=aEf hN hv hd hcd
def uR{B:Prop}(h:B):if false=true then A else B:=by rw[if_neg yBi];exact h
def uV{B:Prop}(h:A):if true=true then A else B:=by rw[if_pos rfl];exact h
def cD(H H':Hp):Prop:=∀ b o,H b=qz o->H' b=qz o
def cD.refl(H:Hp):cD H H:=λ _ _ h=>h
def cD.trans(a:cD H H1)(b:cD H1 H2):cD H H2:=λ c o h=>b c o (a c o h)
def cD.free(e:cD H H')(h:H' l=Option.none):H l=Option.none:=by
 cases q:H l with
 |none=>rfl
 |some o=>
   rw[e l o q] at h;cases h
def cD.seq{xs:List V}(e:cD H H')(h:cB K H a xs):cB K H' a xs:=by
 rcases h with (h|⟨o,h⟩)|h
 .exact .inl (.inl (e _ _ h))
 .exact .inl (.inr (o,e _ _ h,))
 .exact .inr h
end L2
set_option maxHeartbeats 4000000
namespace L2
open PySem PySem.Spec PyProof.Rows
section
variable {κ:Type}[DecidableEq κ]
def jG(aH:List (κ×V))(k:κ):Option V:=(aH.find? λ kv=>decide (kv.1=k)).map (·.2)
def jH(aH:List (κ×V))(k:κ)(v:V):List (κ×V):=
 if (aH.any λ kv=>decide (kv.1=k))=true then aH.map (λ kv=>if kv.1=k then (kv.1,v) else kv) else aH++[(k,v)]
def aDr{p:κ×V}{r:List (κ×V)}{k:κ}(e:p.1=k):jG (p::r) k=qz p.2:=by simp[jG,yCw,e]
def aDf{p:κ×V}{r:List (κ×V)}{k:κ}(e:¬ p.1=k):jG (p::r) k=jG r k:=by simp[jG,yCw,e]
def aDl(k:κ):∀ aH:List (κ×V),(aH.any λ kv=>decide (kv.1=k))=(jG aH k).isSome
 |[]=>rfl
 |p::r=>by
   rw[yFr];by_cases e:p.1=k
   .simp only[aDr e,dqT e,Bool.true_or,Option.isSome_some]
   .rw[aDf e,dqF e,Bool.false_or];exact aDl k r
def aG4(aH:List (κ×V))(k:κ)(v:V):(jH aH k v).length<=aH.length+1:=by
 unfold jH;split
 .rw[yAa];omega
 .rw[yAj,yAr,yBu];omega
def gY.isSome_eq(r:gY o u):o.isSome=u.isSome:=by
 cases o with
 |none=>cases u with
   |none=>rfl
   |some _=>exact(show False from r).elim
 |some _=>cases u with
   |none=>exact(show False from r).elim
   |some _=>rfl
def KV.val{aH:List (κ×V)}{vs:List (κ×qj)}(r:KV aH vs)(k:κ):gY (jG aH k) (valueAt vs k):=by
 unfold KV at r
 induction r with
 |nil=>exact True.intro
 |@cons p q ps qs h t ih=>
   let(h1,h2):=h;by_cases e:p.1=k
   .have e':q.1=k:=h1.symm.trans e;have b:valueAt (q::qs) k=qz q.2:=by simp[valueAt,yCw,e']
    rw[aDr e,b];exact h2
   .have e':¬ q.1=k:=λ z=>e (h1.trans z)
    have b:valueAt (q::qs) k=valueAt qs k:=by simp[valueAt,yCw,e']
    rw[aDf e,b];exact ih
def KV.any{aH:List (κ×V)}{vs:List (κ×qj)}(r:KV aH vs)(k:κ):(aH.any λ kv=>decide (kv.1=k))=vs.any λ kv=>decide (kv.1=k):=by
 unfold KV at r
 induction r with
 |nil=>rfl|cons h t ih=>rw[yFr,yFr,ih,h.1]
def KV.repl{aH:List (κ×V)}{vs:List (κ×qj)}(r:KV aH vs)(k:κ){y:V}{u:qj}(ry:aY y u) :
 KV (aH.map λ kv=>if kv.1=k then (kv.1,y) else kv) (vs.map λ kv=>if kv.1=k then (kv.1,u) else kv):=by
 unfold KV at r ⊢
 induction r with
 |nil=>exact .nil
 |@cons p q ps qs h t ih=>
   rw[yAm,yAm];refine .cons ?_ ih
   grind
def KV.put{aH:List (κ×V)}{vs:List (κ×qj)}(r:KV aH vs)(k:κ){y:V}{u:qj}(ry:aY y u):KV (jH aH k y) (stored vs k u):=by
 unfold jH stored;rw[r.any k];by_cases e:(vs.any λ kv=>decide (kv.1=k))=true
 .rw[if_pos e,if_pos e];exact r.repl k ry
 .rw[if_neg e,if_neg e];exact Paired.snoc r (rfl,ry,)
def KV.length{aH:List (κ×V)}{vs:List (κ×qj)}(r:KV aH vs):aH.length=↑vs:=Paired.length r
end
def xL(r:aY (kV k) u):(fN P w).is k u=true:=by
 cases k with
 |inl i=>let(t,e):=(show ∃ t,u=Value.int i t from r);subst e;exact aO2 P w i t
 |inr x=>let(t,e):=(show ∃ t,u=Value.str x t from r);subst e;exact aOZ P w x t
def aHS:∀ {ks:List bK}{us:List qj},aZ (ks.map kV) us->ItemsAre (fN P w) ks us
 |[],_,r=>by rw[yEq] at r;cases r;exact .nil
 |k::ks,_,r=>by
   rw[yAm] at r;cases r with
   |cons h t=>exact .cons (xL h) (aHS t)
noncomputable abbrev KT(H:Hp):List (List bK×V)->List (List bK×qk×qj)->Prop:=Paired λ p q=>p.1=q.1/\H q.2.1=qz (.tup (p.1.map kV))/\aY p.2 q.2.2
def KT.val{xs:List (List bK×qk×qj)}(r:KT H aH xs)(k:List bK):gY (jG aH k) ((atKey xs k).map (·.2)):=by
 induction r with
 |nil=>exact True.intro
 |@cons p q ps qs h t ih=>
   let(h1,_,h2):=h;by_cases e:p.1=k
   .have e':q.1=k:=h1.symm.trans e;have b:atKey (q::qs) k=qz q.2:=by simp[atKey,yCw,e']
    rw[aDr e,b];exact h2
   .have e':¬ q.1=k:=λ z=>e (h1.trans z)
    have b:atKey (q::qs) k=atKey qs k:=by simp[atKey,yCw,e']
    rw[aDf e,b];exact ih
def KT.repl{xs:List (List bK×qk×qj)}(r:KT H aH xs)(k:List bK)(ry:aY y u) :
 KT H (aH.map λ kv=>if kv.1=k then (kv.1,y) else kv) (xs.map (putAt k u)):=by
 induction r with
 |nil=>exact .nil
 |@cons p q ps qs h t ih=>
   rw[yAm,yAm];refine .cons ?_ ih;let(h1,h2,h3):=h;unfold putAt;by_cases e:p.1=k
   .rw[if_pos e,if_pos (h1.symm.trans e)];exact(h1,h2,ry,)
   .rw[if_neg e,if_neg (λ z=>e (h1.trans z))];exact(h1,h2,h3,)
def KT.put{xs:List (List bK×qk×qj)}(r:KT H aH xs)(k:List bK)(hb:H b=qz (.tup (k.map kV)))(ry:aY y u) :
 KT H (jH aH k y) (storedH xs k b u):=by
 have e:(aH.any λ kv=>decide (kv.1=k))=(atKey xs k).isSome:=by
  rw[aDl,(r.val k).isSome_eq,yHq]
 unfold jH storedH;rw[e];by_cases q:(atKey xs k).isSome=true
 .rw[if_pos q,if_pos q];exact r.repl k ry
 .rw[if_neg q,if_neg q];exact Paired.snoc r (rfl,hb,ry,)
def KT.keeps{xs:List (List bK×qk×qj)}(r:KT H aH xs)(ht:∀ b ys,H b=qz (.tup ys)->H' b=qz (.tup ys)):KT H' aH xs:=
 Paired.mapP r λ _ _ z=>(z.1,ht _ _ z.2.1,z.2.2,)
def aLZ(ok:cY P w H h)(e:Rd H a u):eQ P w H h a u:=e.ok ok
def xP(ok:cY P w H h)(e:Rd H a (.dK aH)):aH.length<=qo/\(a==sysModules)=false/\∃ vs,KV aH vs/\h.DictOf (fN P w) a vs:=
 show eQ P w H h a (.dK aH) from aLZ ok e
def aXY(ok:cY P w H h)(e:H a=qz (.dK aH)):aH.length<=qo/\(a==sysModules)=false/\∃ vs,KV aH vs/\h.DictOf (fN P w) a vs:=xP ok (.inl e)
def wX{ks:List bK}(ok:cY P w H h)(e:H a=qz (.tup (ks.map kV))):(tupleKind (fN P w)).is h ks a:=by let(_,aG,r,o,h1,h2,n,h3):=(show eQ P w H h a (.tup (ks.map kV)) from ok a _ e);exact(o,aG.toArray,n,h1,h2,h3,by simpa using aHS r,)
def xT(ok:cY P w H h)(e:Rd H a (.dT aH)):aH.length<=qo/\(a==sysModules)=false /\
 ∃ xs,KT H aH xs/\h.DictOfH (tupleKind (fN P w)) a xs:=by
 let(z,y,xs,r,o,es,ep,h1,h2,h3,h4,h5):=(show eQ P w H h a (.dT aH) from aLZ ok e);refine(z,y,xs,r,o,es,ep,h1,h2,h3,h4,λ x hx=>?_,h5,);have all:∀ {l:List (List bK×V)}{m:List (List bK×qk×qj)},KT H l m->∀ x∈m,(tupleKind (fN P w)).is h x.1 x.2.1:=by
  intro l m q
  induction q with
  |nil=>simp_all
  |@cons p q ps qs hq t ih=>
    intro x hx;rcases List.mem_cons.mp hx with e|hx
    .subst e;exact wX ok (by rw[<- hq.1];exact hq.2.1)
    .exact ih x hx
 exact all r x hx
def aXM(ok:cY P w H h)(e:H a=qz (.dT aH)):aH.length<=qo/\(a==sysModules)=false /\
 ∃ xs,KT H aH xs/\h.DictOfH (tupleKind (fN P w)) a xs:=xT ok (.inl e)
def jV(H:Hp)(a:qk)(y:V)(r:Option V):Prop:=
 (∃ aH k,Rd H a (.dK aH)/\y=kV k/\r=jG aH k)\/∃ aH k b,Rd H a (.dT aH)/\y=.ref b/\H b=qz (.tup (k.map kV))/\r=jG aH k
def yR(H:Hp)(a:qk)(y v:V)(H':Hp):Prop:=
 (∃ aH k,H a=qz (.dK aH)/\y=kV k/\aH.length<qo/\H'=bE H a (.dK (jH aH k v))) \/
 ∃ aH k b,H a=qz (.dT aH)/\y=.ref b/\H b=qz (.tup (k.map kV))/\aH.length<qo/\H'=bE H a (.dT (jH aH k v))
def jV.t{k:List bK}(e:H a=qz (.dT aH))(eb:H b=qz (.tup (k.map kV))):jV H a (.ref b) (jG aH k):=.inr (aH,k,b,.inl e,rfl,eb,rfl,)
def yR.t{k:List bK}(e:H a=qz (.dT aH))(eb:H b=qz (.tup (k.map kV)))(hl:aH.length<qo) :
 yR H a (.ref b) v (bE H a (.dT (jH aH k v))):=.inr (aH,k,b,e,rfl,eb,hl,rfl,)
section
variable {X:Cx}{aB:List (qk×Obj)}{σ:St}{H:Hp}{s:qy}{a:qk}{y v:V}{u r:qj}{o:Option V}{A:zy}{E:qj->qy->Prop}
def Inv.big(I:Inv X aB σ H s):sysModules<s.heap.objs.size:=by have h:zu<s.heap.objs.size:=(I.mod.glob.keeps I.bk).lt;exact yHd (·) h
def aQx{Q:qj->qy->Prop}(hu:A.units+1<cLine)(I:Inv X aB σ H s)(g:jV H a y (qz v))(ry:aY y u)(h:∀ w' s',Inv X aB σ H s'->aY v w'->Q w' s') :
 zq (model X.prog X.w) A (getItem (.ref a) u) Q E s:=by
 rcases g with ⟨aH,k,e,ey,l⟩|⟨aH,k,b,e,ey,eb,l⟩
 .subst ey;let(z,hd,vs,rel,dd):=xP I.hok e;let(w',hw,rw'):=gY.some_of (v:=v) (o:=valueAt vs k) (by rw[l];exact rel.val k);exact wpAny_getItem_of (xL ry) dd.mapOf hw (h w' _ (I.tok _) rw')
 .subst ey;cases (show u=Value.ref b from ry);let(z,hd,xs,rel,dd):=xT I.hok e;let(w',hw,rw'):=gY.some_of (v:=v) (o:=(atKey xs k).map (·.2)) (by rw[l];exact rel.val k);let(p,hp,hp2):=Option.map_eq_some_iff.mp hw;refine wpAny_getItem_heap (tupleKind_room_in1 hu) (wX I.hok eb) dd hp ?_;rw[hp2];exact h w' _ (I.tok _) rw'
def bAm{Q:qj->qy->Prop}(hu:A.units+1<cLine)(I:Inv X aB σ H s)(g:jV H a y o)(ry:aY y u)(h:∀ s',Inv X aB σ H s'->Q (.bool o.isSome) s') :
 zq (model X.prog X.w) A (xk .In u (.ref a)) Q E s:=by
 rcases g with ⟨aH,k,e,ey,l⟩|⟨aH,k,b,e,ey,eb,l⟩
 .subst ey;let(z,hd,vs,rel,dd):=xP I.hok e;refine wpAny_in_of (xL ry) hd dd.mapOf ?_;rw[<- (rel.val k).isSome_eq,<- l];exact h _ (I.tok _)
 .subst ey;cases (show u=Value.ref b from ry);let(z,hd,xs,rel,dd):=xT I.hok e;refine wpAny_in_heap (tupleKind_room_in1 hu) (wX I.hok eb) hd dd ?_;have q:=(rel.val k).isSome_eq;rw[yHq] at q;rw[<- q,<- l];exact h _ (I.tok _)
def aTN{Q:qj->qy->Prop}(hu:A.units+1<cLine)(I:Inv X aB σ H s)(g:jV H a y o)(ry:aY y u)(h:∀ s',Inv X aB σ H s'->Q (.bool (!o.isSome)) s') :
 zq (model X.prog X.w) A (xk .NotIn u (.ref a)) Q E s:=by
 rcases g with ⟨aH,k,e,ey,l⟩|⟨aH,k,b,e,ey,eb,l⟩
 .subst ey;let(z,hd,vs,rel,dd):=xP I.hok e;refine wpAny_notIn_of (xL ry) hd dd.mapOf ?_;rw[<- (rel.val k).isSome_eq,<- l];exact h _ (I.tok _)
 .subst ey;cases (show u=Value.ref b from ry);let(z,hd,xs,rel,dd):=xT I.hok e;refine wpAny_notIn_heap (tupleKind_room_in1 hu) (wX I.hok eb) hd dd ?_;have q:=(rel.val k).isSome_eq;rw[yHq] at q;rw[<- q,<- l];exact h _ (I.tok _)
def aJl(I:Inv X aB σ H s)(mu:zZ (H a))(hs:yDi a s.heap h')(he:∃ q,h'.get? a=qz q)(new:eQ X.prog X.w (bE H a ob) h' a ob) :
 Inv X aB σ (bE H a ob) {s with heap:=h',toks:=t' }:=
 I.write (x:=a) (e:=a) mu (.inl rfl) (λ b q hb z=>(hs.2 b hb).trans z) he new
def aU9{h':Heap}{aH:List (bK×V)}(z:aH.length<=qo)(hd:(a==sysModules)=false)(rel:KV aH vs)(dd:h'.DictOf (fN P w) a vs) :
 eQ P w H' h' a (.dK aH):=(z,hd,vs,rel,dd,)
def aQM{Q:Unit->qy->Prop}(hu:A.units+1<cLine)(I:Inv X aB σ H s)(g:yR H a y v H')(ry:aY y u)(rv:aY v r)(h:∀ s',Inv X aB σ H' s'->Q () s') :
 zq (model X.prog X.w) A (setItem (.ref a) u r) Q E s:=by
 rcases g with ⟨aH,k,e,ey,l,eH⟩|⟨aH,k,b,e,ey,eb,l,eH⟩
 .subst ey eH;let(z,hd,vs,rel,dd):=aXY I.hok e;have hz:↑vs<=qo:=by rw[<- rel.length];exact z
  have hl:(jH aH k v).length<=qo:=by have:=aG4 aH k v;omega
  refine wpAny_setItem_pairs (hsz:=hz) (xL ry) dd λ h' dd' hs=>h _ ?_
  have he:∃ q,h'.get? a=qz q:=let ⟨q,_,_,hq,_⟩:=dd';(q,hq,);exact aJl I (by rw[e];exact True.intro) hs he (aU9 hl hd (rel.put k rv) dd')
 .subst ey eH;cases (show u=Value.ref b from ry);let(z,hd,xs,rel,dd):=aXM I.hok e;have hz:↑xs<=qo:=by rw[<- Paired.length rel];exact z
  have hl:(jH aH k v).length<=qo:=by have:=aG4 aH k v;omega
  refine wpAny_setItem_heap (hsz:=hz) (tupleKind_room_in1 hu) (wX I.hok eb) dd λ h' dd' hs=>h _ ?_
  let(q,es,ep,hq,h2,h3,h4,_,h5):=dd';refine aJl I (by rw[e];exact True.intro) hs ⟨q,hq⟩ ⟨hl,hd,_,(rel.put k eb rv).keeps λ c ys ec=>?_,q,es,ep,hq,h2,h3,h4,h5⟩;rw[bV (aYD ec e (λ z=>nomatch z))];exact ec
end
section
variable {X:Cx}{aB:List (qk×Obj)}{σ:St}{H:Hp}{s:qy}{a:qk}{aH:List (bK×V)}{k:bK}{u:qj}{A:zy}{E:qj->qy->Prop}
end
def aNB(i:qu):Prop:=∀ ov iv,subscripted i false ov iv=operate [ov,iv] (getItem ov iv)
def aSj{E:qj->qy->Prop}{id:String}{Q:qj->qy->Prop}(hl:typeLookup (.type T) "__getitem__" = pure (qz (.builtin id)))(hs:aNB iM)(h:zq (model prog w) A (eval value env) (λ o s₁=>zq (model prog w) A (eval iM env) (λ i s₂=>s₂.TypeIs o T/\zq (model prog w) A (getItem o i) Q E s₂) E s₁) E s) :
 zq (model prog w) A (eval (.Subscript value iM pos) env) Q E s:=by
 refine Subscript_ (wpAny_mono h (λ o s₁ h₁=>wpAny_mono h₁ (λ i s₂ h₂=>?_) λ _ _ x=>x) λ _ _ x=>x);let(hT,h₂):=h₂;unfold subscriptTail;refine wB ?_;rw[getitemInPython_of_ne hT.not_modules];refine wB (wu hT hl ?_);have cV:zq (model prog w) A (subscripted iM false o i) (λ r s₃=>zq (model prog w) A (letTemporaryGo value o r >>= λ _=>pure r) Q E s₃) E s₂:=by
  rw[hs o i];exact wpAny_operating (wpAny_mono h₂ (λ r s₃ h₃=>wB (wpAny_letTemporaryGo (wP h₃))) λ _ _ x=>x)
 first
  |exact wP (wB cV)
  |exact wB (wP (wB cV))
  |exact wB cV
def aO6(I:Inv X aB σ H s)(g:jV H a y o):s.TypeIs (.ref a) "dict":=by
 rcases g with ⟨aH,k,e,_,_⟩|⟨aH,k,b,e,_,_,_⟩
 .let(_,_,vs,_,dd):=xP I.hok e;exact dd.typeIs
 .let(_,_,xs,_,dd):=xT I.hok e;exact dd.typeIs
def aY7(td ty:TE):TE:=λ σ H Q=>td σ H λ x H1=>ty σ H1 λ y H2=>∃ a v,x=.ref a/\jV H2 a y (qz v)/\Q v H2
def aZ0(ty td:TE):TE:=λ σ H Q=>ty σ H λ y H1=>td σ H1 λ x H2=>∃ a o,x=.ref a/\jV H2 a y o/\Q (.bl o.isSome) H2
def aTy(ty td:TE):TE:=λ σ H Q=>ty σ H λ y H1=>td σ H1 λ x H2=>∃ a o,x=.ref a/\jV H2 a y o/\Q (.bl (!o.isSome)) H2
def aXZ(td ty tv:TE):TS:=λ D σ H=>tv σ H λ v H1=>td σ H1 λ x H2=>ty σ H2 λ y H3=>∃ a H4,x=.ref a/\yR H3 a y v H4/\D.nx σ H4
variable {X:Cx}
def aTp{td ty:TE}(hu:X.A.units+1<cLine)(ho:PE X o td)(hi:PE X i ty)(hs:aNB i):PE X (.Subscript o i pos) (aY7 td ty):=by intro aB s σ H Q I h;refine aSj PySem.F.slot_dict_getitem.lookup hs (bC (ho aB s σ H _ I h) λ u s1 ⟨x,H1,I1,rx,q1⟩=>bC (hi aB s1 σ H1 _ I1 q1) λ iv s2 hPq36=>?_);let(y,H2,I2,ry,a,v,ex,g,q2):=hPq36;subst ex;obtain rfl:u=Value.ref a:=rx;exact(aO6 I2 g,aQx hu I2 g ry λ w' s3 I3 rw'=>(v,H2,I3,rw',q2,),)
def aVY{td ty:TE}(hu:X.A.units+1<cLine)(hi:PE X i ty)(ho:PE X o td):PC X .In i o (aZ0 ty td):=by
 intro aB s σ H Q I h;refine bC (hi aB s σ H _ I h) λ iv s1 ⟨y,H1,I1,ry,q1⟩=>bC (ho aB s1 σ H1 _ I1 q1) λ u s2 hPq37=>?_
 let(x,H2,I2,rx,a,ov,ex,g,q2):=hPq37;subst ex;obtain rfl:u=Value.ref a:=rx;exact bAm hu I2 g ry λ s3 I3=>(.bl ov.isSome,H2,I3,rfl,q2,)
def aPX{td ty:TE}(hu:X.A.units+1<cLine)(hi:PE X i ty)(ho:PE X o td):PC X .NotIn i o (aTy ty td):=by
 intro aB s σ H Q I h;refine bC (hi aB s σ H _ I h) λ iv s1 ⟨y,H1,I1,ry,q1⟩=>bC (ho aB s1 σ H1 _ I1 q1) λ u s2 hPq38=>?_
 let(x,H2,I2,rx,a,ov,ex,g,q2):=hPq38;subst ex;obtain rfl:u=Value.ref a:=rx;exact aTN hu I2 g ry λ s3 I3=>(.bl (!ov.isSome),H2,I3,rfl,q2,)
def aSb{pos:Pos}{td ty tv:TE}(hu:X.A.units+1<cLine)(ho:PE X o td)(hi:PE X i ty)(hv:PE X value tv)(hs:swapsWith value (qz (.Subscript o i pos')) pos.line X.env=pure false) :
 PS X (.Assign [.Subscript o i pos'] value pos) (aXZ td ty tv):=by intro aB s σ H D I h;refine wpAny_Assign_Subscript (bC (hv aB s σ H _ I h) λ r s1 ⟨v,H1,I1,rv,q1⟩=>bC (ho aB s1 σ H1 _ I1 q1) λ u s2 ⟨x,H2,I2,rx,q2⟩=>bC (hi aB s2 σ H2 _ I2 q2) λ iv s3 hPq39=>?_) hs;let(y,H3,I3,ry,a,H4,ex,g,q3):=hPq39;subst ex;obtain rfl:u=Value.ref a:=rx;exact aQM hu I3 g ry rv λ s4 I4=>(σ,H4,I4,q3,)
def aRe(h:Heap)(hb:sysModules<h.objs.size):eQ P w H (h.push {cls:=.type "dict",data:=.dict #[] }) h.objs.size (.dT []):=
 (yEp _,beq_eq_false_iff_ne.mpr (Ne.symm (xAj hb)),[],.nil,_,#[],0,xAd _ rfl,(rfl,rfl,rfl,),rfl,rfl,List.nodup_nil,)
def aK8:TE:=λ _ H Q=>∀ p,H p=qx->Q (.ref p) (bE H p (.dT []))
def aQQ:PE X (.Dict [] [] pos) aK8:=λ aB s σ H Q I h=>
 wpAny_Dict_empty (.ref s.heap.objs.size,_,I.laid (a:=s.heap.objs.size) (o:=.dT []) (t':=s.toks) (λ _ _ q=>hpS _ q) (yAc _) (aRe s.heap I.big),rfl,h _ (I.hok.fresh (yAc _)),)
end L2
namespace EV
open PySem L2 PySem.Spec PyProof.Rows
abbrev D:=PyData
inductive W0 where
 |d (x:D)|loc (n:Nat)|dic (n:Nat)
inductive W where
 |d (x:D)|loc (n:Nat)|exc (c:Str) (r:D)|dic (n:Nat)|ob (fs:List (Str×W0))|tpl (ws:List W0)
abbrev Lx:=List (qk×Bool)
noncomputable abbrev ad(L:Lx):List qk:=L.map Prod.fst
abbrev aD:=List (Option (List D))
abbrev bB:=List (Option W)
abbrev St:=L2.St
def aB8(F:Hp)(d:Option qk):D->Prop
 |.none=>d=qx|.int i=>∃ dx,d=qz dx/\F dx=qz (.xd [("row",.int i)])|_=>False
def zK(K:FrG)(F:Hp)(a:qk)(c:Str)(r:D):Prop:=∃ C oe,F a=qz (.ext λ h=>h.get? a=qz oe)/\oe.cls=.ref C/\PySem.W.notCls oe=true/\yCi K zu c=qz (qz (.ref C))/\aB8 F oe.dict r
def aB8.mono(e:cD F F')(h:aB8 F d r):aB8 F' d r:=by
 cases r with
 |none=>exact h
 |int i=>let(dx,h1,h2):=h;exact(dx,h1,e _ _ h2,)
 |_=>exact h
variable {K:FrG}
def zK.mono(e:cD F F')(h:zK K F a c r):zK K F' a c r:=by let(C,oe,h1,h2,h3,h4,h5):=h;exact(C,oe,e _ _ h1,h2,h3,h4,h5.mono e,)
section
variable (K:FrG)(F:Hp)
mutual
inductive Den:D->V->Prop
 |non:Den .none .non
 |bl (b:Bool):Den (.bool b) (.bl b)
 |int (i:Int):Den (.int i) (.int i)
 |str (x:Str):Den (.str x) (.str x)
 |lst {a:qk}{xs:List V}{ds:List D}:cB K F a xs->DenL ds xs->Den (.list ds) (.ref a)
 |tup {a:qk}{xs:List V}{ds:List D}:cN K F a xs->DenL ds xs->Den (.tuple ds) (.ref a)
 |exc {a:qk}{c:Str}{r:D}:zK K F a c r->Den (.dict [(.str c,r)]) (.ref a)
inductive DenL:List D->List V->Prop
 |nil:DenL [] []
 |cons {d:D}{ds:List D}{x:V}{xs:List V}:Den d x->DenL ds xs->DenL (d::ds) (x::xs)
end
end
def nK{xs:List V}(e:cD H H')(h:cN K H a xs):cN K H' a xs:=by
 rcases h with (h|⟨o,h⟩)|h
 .exact .inl (.inl (e _ _ h))
 .exact .inl (.inr (o,e _ _ h,))
 .exact .inr h
mutual
theorem Den.mono{K:FrG}{F F':Hp}(e:cD F F'):∀ {d:D}{v:V},Den K F d v->Den K F' d v
 |_,_,.non=>.non|_,_,.bl b=>.bl b|_,_,.int i=>.int i|_,_,.str x=>.str x|_,_,.lst h r=>.lst (e.seq h) (DenL.mono e r)|_,_,.tup h r=>.tup (nK e h) (DenL.mono e r)|_,_,.exc h=>.exc (h.mono e)
theorem DenL.mono{K:FrG}{F F':Hp}(e:cD F F'):∀ {ds:List D}{xs:List V},DenL K F ds xs->DenL K F' ds xs
 |_,_,.nil=>.nil|_,_,.cons h r=>.cons (Den.mono e h) (DenL.mono e r)
end
section
variable {K:FrG}{F:Hp}
def DenL.length:∀ {ds:List D}{xs:List V},DenL K F ds xs->↑ds=↑xs
 |_,_,.nil=>rfl|_,_,.cons _ r=>congrArg (· + 1) (DenL.length r)
def DenL.get:∀ {ds:List D}{xs:List V}{i:Nat}{d:D},DenL K F ds xs->ds[i]?=qz d->∃ x,xs[i]?=qz x/\Den K F d x
 |_,_,_,_,.nil,e=>by simp at e|_,_,0,_,.cons h _,e=>by simp at e;subst e;exact(_,rfl,h,)
 |_,_,i+1,d,.cons _ r,e=>by
   let(x,h1,h2):=DenL.get (i:=i) (d:=d) r (e:);simp_all
def DenL.append:∀ {ds es:List D}{xs ys:List V},DenL K F ds xs->DenL K F es ys->DenL K F (ds++es) (xs++ys)
 |_,_,_,_,.nil,s=>s|_,_,_,_,.cons h r,s=>.cons h (DenL.append r s)
def DenL.take:∀ {ds:List D}{xs:List V} (n:Nat),DenL K F ds xs->DenL K F (ds.take n) (xs.take n)
 |_,_,0,_=>.nil|_,_,_+1,.nil=>.nil|_,_,n+1,.cons h r=>.cons h (DenL.take n r)
def DenL.drop:∀ {ds:List D}{xs:List V} (n:Nat),DenL K F ds xs->DenL K F (ds.drop n) (xs.drop n)
 |_,_,0,r=>r|_,_,_+1,.nil=>.nil|_,_,n+1,.cons _ r=>DenL.drop n r
def DenL.set:∀ {ds:List D}{xs:List V} (i:Nat) {d:D}{x:V},DenL K F ds xs->Den K F d x->DenL K F (ds.set i d) (xs.set i x)
 |_,_,_,_,_,.nil,_=>.nil|_,_,0,_,_,.cons _ r,h=>.cons h r|_,_,i+1,_,_,.cons q r,h=>.cons q (DenL.set i r h)
def DenL.reverse:∀ {ds:List D}{xs:List V},DenL K F ds xs->DenL K F ds.reverse xs.reverse
 |_,_,.nil=>.nil
 |_,_,.cons h r=>by
   rw[List.reverse_cons,List.reverse_cons];exact DenL.append (DenL.reverse r) (.cons h .nil)
def DenL.rep{ds:List D}{xs:List V}(h:DenL K F ds xs):∀ n:Nat,DenL K F (yAf n ds).flatten (yAf n xs).flatten
 |0=>.nil
 |n+1=>by
   rw[yBe,yBe,yEy,yEy];exact h.append (DenL.rep h n)
def DenL.of_ints:∀ (ns:List Int),DenL K F (ns.map yAt) (ns.map V.int)
 |[]=>.nil|n::r=>.cons (.int n) (DenL.of_ints r)
end
def kD:bK->D
 |.inl i=>.int i|.inr x=>.str x
def mP(p:List bK×Int):D:=.tuple [.tuple (p.1.map kD),.int p.2]
structure Rel(K:FrG)(F:Hp)(L:Lx)(S:aD)(H:Hp):Prop where
 sub:cD F H
 nd:(ad L).Nodup
 len:↑L=↑S
 loc:∀ (n:Nat) (a:qk) (ds:List D),L[n]?=qz (a,false)->S[n]?=qz (qz ds)->F a=qx/\∃ xs,H a=qz (.lst xs)/\DenL K F ds xs
 dic:∀ (n:Nat) (a:qk) (ds:List D),L[n]?=qz (a,true)->S[n]?=qz (qz ds)->F a=qx/\∃ es:List (List bK×Int),ds=es.map mP/\H a=qz (.dT (es.map λ p=>(p.1,V.int p.2)))
 tr:∀ (n:Nat) (a:qk) (b:Bool),L[n]?=qz (a,b)->∃ o,H a=qz o/\(b=false->∃ xs,o=.lst xs)
def kR(K:FrG)(F:Hp)(L:Lx):W0->V->Prop
 |.d x,v=>Den K F x v|.loc n,v=>∃ a,L[n]?=qz (a,false)/\v=.ref a|.dic n,v=>∃ a,L[n]?=qz (a,true)/\v=.ref a
noncomputable abbrev rS(K:FrG)(F:Hp)(L:Lx):List W0->List V->Prop:=Paired (kR K F L)
noncomputable abbrev nQ(K:FrG)(F:Hp)(L:Lx):List (Str×W0)->List (Str×V)->Prop:=Paired λ p q=>p.1=q.1/\kR K F L p.2 q.2
def dW(K:FrG)(F:Hp)(L:Lx):W->V->Prop
 |.d x,v=>Den K F x v|.loc n,v=>∃ a,L[n]?=qz (a,false)/\v=.ref a|.exc c r,v=>∃ a,v=.ref a/\zK K F a c r|.dic n,v=>∃ a,L[n]?=qz (a,true)/\v=.ref a|.ob fs,v=>∃ a C dx vs,v=.ref a/\F a=qz (.ins C dx vs)/\yCi K zu "Maker" = qz (qz (.ref C))/\nQ K F L fs vs|.tpl ws,v=>∃ a vs,v=.ref a/\F a=qz (.tup vs)/\rS K F L ws vs
structure EnvR(K:FrG)(F:Hp)(L:Lx)(env:bB)(σ:St):Prop where
 len:env.length=σ.length
 get:∀ (i:Nat) (w:W),env[i]?=qz (qz w)->∃ v,σ[i]?=qz (qz v)/\dW K F L w v
structure Gr(F:Hp)(L:Lx)(F':Hp)(L':Lx):Prop where
 f:cD F F'
 l:∃ M,L'=L++M
def Gr.refl:Gr F L F L:=(cD.refl _,[],by simp,)
def Gr.trans(a:Gr F L F' L')(b:Gr F' L' F'' L''):Gr F L F'' L'':=by let(f1,M,rfl):=a;let(f2,N,rfl):=b;exact(f1.trans f2,M++N,by rw[yAq],)
def Gr.get{F F':Hp}{L L':Lx}(g:Gr F L F' L'){n:Nat}{a:qk×Bool}(h:L[n]?=qz a):L'[n]?=qz a:=by let(_,M,rfl):=g;rw[xAm (gIm h).1];exact h
def kR.mono(g:Gr F L F' L')(h:kR K F L w v):kR K F' L' w v:=by
 cases w with
 |d x=>exact Den.mono g.f h
 |loc n=>let(a,e,r):=h;exact(a,g.get e,r,)
 |dic n=>let(a,e,r):=h;exact(a,g.get e,r,)
def dW.mono(g:Gr F L F' L')(h:dW K F L w v):dW K F' L' w v:=by
 cases w with
 |d x=>exact Den.mono g.f h
 |loc n=>let(a,e,r):=h;exact(a,g.get e,r,)
 |exc c r=>let(a,e,h):=h;exact(a,e,h.mono g.f,)
 |dic n=>let(a,e,r):=h;exact(a,g.get e,r,)
 |ob fs=>let(a,C,dx,vs,e,h1,h2,h3):=h;exact(a,C,dx,vs,e,g.f _ _ h1,h2,L2.Paired.mapP h3 λ _ _ q=>(q.1,q.2.mono g,),)
 |tpl ws=>let(a,vs,e,h1,h3):=h;exact(a,vs,e,g.f _ _ h1,L2.Paired.mapP h3 λ _ _ q=>q.mono g,)
def EnvR.mono(g:Gr F L F' L')(h:EnvR K F L env σ):EnvR K F' L' env σ:=
 (h.len,λ i w e=>let ⟨v,e1,r⟩:=h.get i w e;(v,e1,r.mono g,),)
def EnvR.set(h:EnvR K F L env σ)(i:Nat)(r:dW K F L w v):EnvR K F L (env.set i (qz w)) (σ.set i (qz v)):=by
 refine(by rw[yBn,yBn];exact h.len,λ j u e=>?_,);by_cases hj:i=j
 .subst hj;have hl:i<env.length:=by
   rcases yId i env.length with q|q
   .exact q
   .rw[yCx (by rw[yBn];exact q)] at e;cases e
  rw[yBc hl] at e;cases e;exact(v,yBc (by rw[<- h.len];exact hl),r,)
 .rw[yAw hj] at e;let(x,e1,r1):=h.get j u e;simp_all
def gH(h:H p=qx):cD H (bE H p o):=λ b u q=>by rw[bV (eO q h)];exact q
def aEE{L:Lx}{n:Nat}{a:qk}{b:Bool}(h:L[n]?=qz (a,b)):a∈ad L:=List.mem_map.mpr (_,xAk h,rfl,)
def Rel.inj{F H:Hp}{L:Lx}{S:aD}(r:Rel K F L S H){n m:Nat}{a:qk}{b c:Bool}(e:L[n]?=qz (a,b))(e1:L[m]?=qz (a,c)):n=m:=by
 have h1:(ad L)[n]?=qz a:=by rw[yAg,e];rfl
 have h2:(ad L)[m]?=qz a:=by rw[yAg,e1];rfl
 let(l1,g1):=gIm h1;let(l2,g2):=gIm h2;exact(List.getElem_inj r.nd).mp (g1.trans g2.symm)
def Rel.trl{F H:Hp}{L:Lx}{S:aD}(r:Rel K F L S H){n:Nat}{a:qk}(e:L[n]?=qz (a,false)):∃ xs,H a=qz (.lst xs):=by let(o,ho,h):=r.tr n a false e;simp_all
def Rel.notin(r:Rel K F L S H)(h:H p=qx):p ∉ ad L:=λ hp=>by
 let(n,hn):=yCh hp;rw[yAg] at hn;cases e:L[n]? with
 |none=>rw[e] at hn;cases hn
 |some q=>
   rw[e] at hn;cases hn;let(o,ho,_):=r.tr n q.1 q.2 e;rw[h] at ho;cases ho
def Rel.new(r:Rel K F L S H)(h:H p=qx):Rel K (bE F p o) L S (bE H p o):=by
 have hF:F p=qx:=r.sub.free h;refine(λ b u q=>?_,r.nd,r.len,λ n a ds e1 e2=>?_,λ n a ds e1 e2=>?_,λ n a b e=>?_,)
 .by_cases hb:b=p
  .subst hb;rw[cQ] at q ⊢;exact q
  .rw[bV hb] at q ⊢;exact r.sub _ _ q
 .let(f,xs,e3,dl):=r.loc n a ds e1 e2;have ne:a≠p:=eO e3 h;exact(by rw[bV ne];exact f,xs,by rw[bV ne];exact e3,DenL.mono (gH hF) dl,)
 .let(f,es,e3,e4):=r.dic n a ds e1 e2;have ne:a≠p:=eO e4 h;exact(by rw[bV ne];exact f,es,e3,by rw[bV ne];exact e4,)
 .let(o,hx,hy):=r.tr n a b e;exact(o,by rw[bV (eO hx h)];exact hx,hy,)
def Gr.new(h:F p=qx):Gr F L (bE F p o) L:=(gH h,[],by simp,)
def Rel.lay(r:Rel K F L S H)(h:H p=qx):Rel K F L S (bE H p o):=by
 refine(λ b u q=>by rw[bV (eO q (r.sub.free h))];exact r.sub _ _ q,r.nd,r.len,λ n a ds e1 e2=>?_,λ n a ds e1 e2=>?_,λ n a b e=>?_,)
 .let(f,xs,e3,dl):=r.loc n a ds e1 e2;exact(f,xs,by rw[bV (eO e3 h)];exact e3,dl,)
 .let(f,es,e3,e4):=r.dic n a ds e1 e2;exact(f,es,e3,by rw[bV (eO e4 h)];exact e4,)
 .let(o,hx,hy):=r.tr n a b e;exact(o,by rw[bV (eO hx h)];exact hx,hy,)
def Rel.adoptO(r:Rel K F L S H)(hF:F p=qx)(hL:p ∉ ad L)(hH:H p=qz o):Rel K (bE F p o) L S H:=by
 refine(λ b u q=>?_,r.nd,r.len,λ n a ds e1 e2=>?_,λ n a ds e1 e2=>?_,r.tr,)
 .by_cases hb:b=p
  .subst hb;rw[cQ] at q;rw[hH];exact q
  .rw[bV hb] at q;exact r.sub _ _ q
 .let(f,ys,e3,dl):=r.loc n a ds e1 e2;have ne:a≠p:=λ z=>hL (by rw[<- z];exact aEE e1)
  exact(by rw[bV ne];exact f,ys,e3,dl.mono (gH hF),)
 .let(f,es,e3,e4):=r.dic n a ds e1 e2;have ne:a≠p:=λ z=>hL (by rw[<- z];exact aEE e1)
  exact(by rw[bV ne];exact f,es,e3,e4,)
def Rel.adopt(r:Rel K F L S H){xs:List V}(hF:F p=qx)(hL:p ∉ ad L)(hH:H p=qz (.lst xs)):Rel K (bE F p (.lst xs)) L S H:=r.adoptO hF hL hH
def Rel.adoptC(r:Rel K F L S H)(hL:p ∉ ad L)(hp:∃ o,H p=qz o/\(b=false->∃ xs,o=.lst xs))(h0:b=false->F p=qx/\∃ xs,H p=qz (.lst xs)/\DenL K F ds xs)(h1:b=true->F p=qx/\∃ es:List (List bK×Int),ds=es.map mP/\H p=qz (.dT (es.map λ p=>(p.1,V.int p.2)))):Rel K F (L++[(p,b)]) (S++[qz ds]) H:=by
 have last:∀ {n:Nat}{a:qk}{c:Bool}{es:List D},(L++[(p,b)])[n]?=qz (a,c)->(S++[qz ds])[n]?=qz (qz es)->(L[n]?=qz (a,c)/\S[n]?=qz (qz es))\/(a=p/\c=b/\es=ds):=λ {n a c es} e1 e2=>by
  by_cases hn:n<↑L
  .rw[xAm hn] at e1;rw[xAm (by rw[<- r.len];exact hn)] at e2;exact .inl (e1,e2,)
  .rw[yAd (!_)] at e1;rw[yAd (by rw[<- r.len];omega)] at e2;have z:n-↑L=0:=by
    have:=(gIm e1).1;simp at this;omega
   rw[<- r.len] at e2;rw[z] at e1 e2;cases e1;cases e2;exact .inr (rfl,rfl,rfl,)
 refine(r.sub,?_,by rw[yAj,yAj,r.len]<;>rfl,λ n a es e1 e2=>?_,λ n a es e1 e2=>?_,λ n a c e=>?_,)
 .simp only[ad,yAk];rw[List.nodup_append];refine(r.nd,by simp,λ a ha b hb=>?_,)
  grind
 .rcases last e1 e2 with ⟨q1,q2⟩|⟨rfl,q2,rfl⟩
  .exact r.loc n a es q1 q2
  .exact h0 q2.symm
 .rcases last e1 e2 with ⟨q1,q2⟩|⟨rfl,q2,rfl⟩
  .exact r.dic n a es q1 q2
  .exact h1 q2.symm
 .by_cases hn:n<↑L
  .rw[xAm hn] at e;exact r.tr n a c e
  .rw[yAd (!_)] at e;have h1:=xAk e;rw[List.mem_singleton] at h1;cases h1;exact hp
def Rel.adoptLoc(r:Rel K F L S H){xs:List V}(hF:F p=qx)(hL:p ∉ ad L)(hH:H p=qz (.lst xs))(dl:DenL K F ds xs):Rel K F (L++[(p,false)]) (S++[qz ds]) H:=
 r.adoptC hL (_,hH,λ _=>(xs,rfl,),) (λ _=>(hF,xs,hH,dl,)) λ z=>(nomatch z)
def Rel.newLoc(r:Rel K F L S H){xs:List V}(h:H p=qx)(dl:DenL K F ds xs):Rel K F (L++[(p,false)]) (S++[qz ds]) (bE H p (.lst xs)):=
 (r.lay h).adoptLoc (r.sub.free h) (r.notin h) cQ dl
def Rel.newDic(r:Rel K F L S H)(h:H p=qx):Rel K F (L++[(p,true)]) (S++[qz []]) (bE H p (.dT [])):=
 (r.lay h).adoptC (r.notin h) (_,cQ,λ z=>(nomatch z),) (λ z=>(nomatch z)) λ _=>(r.sub.free h,[],rfl,cQ,)
def Gr.newLoc:Gr F L F (L++[p]):=(cD.refl _,[p],rfl,)
def Rel.putC(r:Rel K F L S H)(e:L[n]?=qz (a,c))(hF:F a=qx)(h0:c=false->∃ ys,o=.lst ys/\DenL K F es ys)(h1:c=true->∃ ks:List (List bK×Int),es=ks.map mP/\o=.dT (ks.map λ p=>(p.1,V.int p.2))):Rel K F L (S.set n (qz es)) (bE H a o):=by
 have hl:n<↑S:=by rw[<- r.len];exact(gIm e).1
 refine(λ b u q=>by rw[bV (eO q hF)];exact r.sub _ _ q,r.nd,by rw[yBn];exact r.len,λ m b fs e1 e2=>?_,λ m b fs e1 e2=>?_,λ m b d e1=>?_,)
 .by_cases hm:n=m
  .subst hm;rw[e] at e1;cases e1;rw[yBc hl] at e2;cases e2;let(ys,rfl,dl):=h0 rfl;exact(hF,ys,cQ,dl,)
  .rw[yAw hm] at e2;have ne:b≠a:=λ z=>hm (r.inj e (z▸e1))
   let(f,xs,e3,d3):=r.loc m b fs e1 e2;exact(f,xs,by rw[bV ne];exact e3,d3,)
 .by_cases hm:n=m
  .subst hm;rw[e] at e1;cases e1;rw[yBc hl] at e2;cases e2;let(ks,h2,rfl):=h1 rfl;exact(hF,ks,h2,cQ,)
  .rw[yAw hm] at e2;have ne:b≠a:=λ z=>hm (r.inj e (z▸e1))
   let(f,xs,e3,d3):=r.dic m b fs e1 e2;exact(f,xs,e3,by rw[bV ne];exact d3,)
 .by_cases hb:b=a
  .subst hb;obtain rfl:n=m:=r.inj e e1;rw[e] at e1;cases e1;exact(o,cQ,λ z=>(h0 z).imp λ _ q=>q.1,)
  .let(zs,hz,hy):=r.tr m b d e1;exact(zs,by rw[bV hb];exact hz,hy,)
def Rel.put(r:Rel K F L S H)(e:L[n]?=qz (a,false))(hF:F a=qx)(dl:DenL K F es ys):Rel K F L (S.set n (qz es)) (bE H a (.lst ys)):=
 r.putC e hF (λ _=>(ys,rfl,dl,)) λ z=>(nomatch z)
def Rel.freeze{F H:Hp}{L:Lx}{S:aD}(r:Rel K F L S H){n:Nat}{a:qk}{ds:List D}(e:L[n]?=qz (a,false))(es:S[n]?=qz (qz ds)) :
 ∃ F',Gr F L F' L/\Rel K F' L (S.set n qx) H/\Den K F' (.list ds) (.ref a):=by
 let(hF,xs,e3,dl):=r.loc n a ds e es;have hl:n<↑S:=(gIm es).1;refine(bE F a (.lst xs),Gr.new hF,(λ b u q=>?_,r.nd,by rw[yBn];exact r.len,λ m b fs e1 e2=>?_,λ m b fs e1 e2=>?_,r.tr,),.lst (cB.of cQ) (dl.mono (gH hF)),)
 .by_cases hb:b=a
  .subst hb;rw[cQ] at q;rw[e3];exact q
  .rw[bV hb] at q;exact r.sub _ _ q
 .by_cases hm:n=m
  .subst hm;rw[yBc hl] at e2;cases e2
  .rw[yAw hm] at e2;have ne:b≠a:=λ z=>hm (r.inj e (z▸e1))
   let(f,ys,e4,d4):=r.loc m b fs e1 e2;exact(by rw[bV ne];exact f,ys,e4,d4.mono (gH hF),)
 .by_cases hm:n=m
  .subst hm;rw[yBc hl] at e2;cases e2
  .rw[yAw hm] at e2;have ne:b≠a:=λ z=>hm (r.inj e (z▸e1))
   let(f,ys,e4,d4):=r.dic m b fs e1 e2;exact(by rw[bV ne];exact f,ys,e4,d4,)
def Rel.cut(r:Rel K F (L++M) S H):Rel K F L (S.take ↑L) H:=by
 have hl:↑L<=↑S:=by have:=r.len;rw[yAj] at this;omega
 have nd:=r.nd;simp only[ad,yAk] at nd;have lt:∀ {n:Nat}{q:qk×Bool},L[n]?=qz q->n<↑L:=λ e=>(gIm e).1
 refine(r.sub,(List.nodup_append.mp nd).1,by rw[yBg];omega,λ n a ds e1 e2=>?_,λ n a ds e1 e2=>?_,λ n a b e1=>?_,)
 .rw[yCz (lt e1)] at e2;exact r.loc n a ds (by rw[xAm (lt e1)];exact e1) e2
 .rw[yCz (lt e1)] at e2;exact r.dic n a ds (by rw[xAm (lt e1)];exact e1) e2
 .exact r.tr n a b (by rw[xAm (lt e1)];exact e1)
def cH(K:FrG)(F H:Hp)(x:D)(v:V):Prop:=Den K F x v\/∃ ds a xs,x=.list ds/\v=.ref a/\H a=qz (.lst xs)/\DenL K F ds xs
def fL:List W0->Option (List D)
 |[]=>qz []|.d x::r=>(fL r).map (x :: ·)|_=>qx
def dr(S:aD):W->Option D
 |.d x=>qz x
 |.loc n=>match S[n]? with
   |some (qz ds)=>qz (.list ds)|_=>qx
 |.tpl ws=>(fL ws).map yAn|_=>qx
def aAX(h:rS K F L ws vs)(e:fL ws=qz ds):DenL K F ds vs:=by
 induction h generalizing ds with
 |nil=>cases e;exact .nil
 |cons h r ih=>
   rename_i w _ ws _;cases w with
   |d x=>
     cases q:fL ws with
     |none=>rw[fL,q] at e;cases e|some es=>rw[fL,q] at e;cases e;exact .cons h (ih q)
   |_=>cases e
def wd:W->Option D
 |.d x=>qz x|.tpl ws=>(fL ws).map yAn|_=>qx
def aBd(h:dW K F L w v)(e:wd w=qz x):Den K F x v:=by
 cases w with
 |d y=>cases e;exact h
 |tpl ws=>
   let(a,vs,rfl,h1,h2):=h;cases q:fL ws with
   |none=>rw[wd,q] at e;cases e|some ds=>rw[wd,q] at e;cases e;exact .tup (.inl (.inl h1)) (aAX h2 q)
 |exc c r=>cases e|dic n=>cases e|ob fs=>cases e|loc n=>cases e
def jP(r:Rel K F L S H)(h:dW K F L w v)(e:dr S w=qz x):cH K F H x v:=by
 cases w with
 |d y=>cases e;exact .inl h|exc c r=>cases e|dic n=>cases e|ob fs=>cases e
 |tpl ws=>
   let(a,vs,rfl,h1,h2):=h;cases q:fL ws with
   |none=>rw[dr,q] at e;cases e|some ds=>rw[dr,q] at e;cases e;exact .inl (.tup (.inl (.inl h1)) (aAX h2 q))
 |loc n=>
   let(a,e1,rfl):=h;cases e2:S[n]? with
   |none=>simp[dr,e2] at e
   |some o=>
     cases o with
     |none=>simp[dr,e2] at e
     |some ds=>
       simp[dr,e2] at e;subst e;let(f,xs,e3,dl):=r.loc n a ds e1 e2;exact .inr (ds,a,xs,rfl,rfl,e3,dl,)
def cH.non(h:cH K F H .none v):v=.non:=by
 rcases h with h|⟨_,_,_,e,_⟩
 .cases h;rfl
 .cases e
def cH.bl(h:cH K F H (.bool b) v):v=.bl b:=by
 rcases h with h|⟨_,_,_,e,_⟩
 .cases h;rfl
 .cases e
def cH.int{i:Int}(h:cH K F H (.int i) v):v=.int i:=by
 rcases h with h|⟨_,_,_,e,_⟩
 .cases h;rfl
 .cases e
def cH.str(h:cH K F H (.str x) v):v=.str x:=by
 rcases h with h|⟨_,_,_,e,_⟩
 .cases h;rfl
 .cases e
def cH.lst{F H:Hp}{v:V}{ds:List D}(s:cD F H)(h:cH K F H (.list ds) v):∃ a xs,v=.ref a/\cB K H a xs/\DenL K F ds xs:=by
 rcases h with h|⟨_,a,xs,e,e2,e3,dl⟩
 .cases h with|lst q r=>exact(_,_,rfl,s.seq q,r,)
 .cases e;exact(a,xs,e2,cB.of e3,dl,)
def cH.tup{F H:Hp}{v:V}{ds:List D}(s:cD F H)(h:cH K F H (.tuple ds) v):∃ a xs,v=.ref a/\cN K H a xs/\DenL K F ds xs:=by
 rcases h with h|⟨_,_,_,e,_⟩
 .cases h with|tup q r=>exact(_,_,rfl,nK s q,r,)
 .cases e
def aOf:fillsNumberSlot (.type "tuple") "mul" = pure false:=
 PySem.fillsNumberSlot_seq (id:="tuple.__mul__") (r:=qz (.builtin "tuple.__rmul__")) PySem.F.slot_tuple_mul.lookup (by decide +kernel) PySem.F.slot_tuple_rmul.lookup (by decide +kernel)
def aOz:seqRepeat? (.type "tuple")=pure (qz (.builtin "tuple.__mul__")):=by unfold seqRepeat?;rw[PySem.seqSlot_of (T:="tuple") (name:="__mul__") (id:="tuple.__mul__") PySem.F.slot_tuple_mul.lookup (by decide +kernel),PySem.seqSlot_of (T:="tuple") (name:="__rmul__") (id:="tuple.__rmul__") PySem.F.slot_tuple_rmul.lookup (by decide +kernel)];rfl
def aOk(a:Int)(t:Tok)(l:qk)(aX:Array qj)(n:Nat)(d:Option qk)(sl:Array (Option qj)) :
 Meets (Builtin.«int.__rmul__» ([.int a t,.ref l],[],)) (λ _ R s=>s.heap.get? l=qz {cls:=.type "tuple",dict:=d,data:=.seq aX n,slots:=sl }/\R (.ok (.ret Value.notImplemented)) s):=
 .of_wp λ prog w A R s h=>by let(hp,g,d,tk,os):=s;let(hl,h):=h;wp_walk;exact(_,rfl,h,)
def aOv(l:qk)(aX:Array qj)(n:Nat)(d:Option qk)(sl:Array (Option qj))(t:Tok) :
 Meets (Builtin.«tuple.__mul__» ([.ref l,.int 1 t],[],)) (λ _ R s=>s.heap.get? l=qz {cls:=.type "tuple",dict:=d,data:=.seq aX n,slots:=sl }/\R (.ok (.ret (.ref l))) s):=
 .of_wp λ prog w A R s h=>by
  let(hp,g,d,tk,os):=s;let(hl,h):=h
  wp_walk
  exact(_,rfl,h,)
def aOm(l:qk)(x:qj)(n:Nat)(d:Option qk)(sl:Array (Option qj))(t:Tok) :
 Meets (Builtin.«tuple.__mul__» ([.ref l,.int 0 t],[],)) (λ _ R s=>s.heap.get? l=qz {cls:=.type "tuple",dict:=d,data:=.seq #[x] n,slots:=sl }/\R (.ok (.ret (.ref s.heap.objs.size))) {s with heap:=s.heap.push {cls:=.type "tuple",data:=.seq #[] } }):=
 .of_wp λ prog w A R s h=>by
  let(hp,g,d,tk,os):=s;let(hl,h):=h
  wp_walk
  exact(_,rfl,h,)
def aAE(x:qj):∀ (k:Nat) (aI:Array qj),(yAf k #[x]).foldl (· ++ ·) aI=aI++(yAf k x).toArray
 |0,aI=>by simp
 |k+1,aI=>by
   rw[yBe,yDm,aAE x k];apply Array.ext';simp[yBe]
def aOp(l:qk)(x:qj)(n:Nat)(d:Option qk)(sl:Array (Option qj))(k:Nat)(hk:2<=k)(hk2:k<=1000)(t:Tok) :
 Meets (Builtin.«tuple.__mul__» ([.ref l,.int k t],[],)) (λ _ R s=>s.heap.get? l=qz {cls:=.type "tuple",dict:=d,data:=.seq #[x] n,slots:=sl }/\R (.ok (.ret (.ref s.heap.objs.size))) {s with heap:=s.heap.push {cls:=.type "tuple",data:=.seq (yAf k x).toArray } }):=
 .of_wp λ prog w A R s h=>by
  let(hp,g,d,tk,os):=s;let(hl,h):=h;have c1:(decide (((k:Nat):Int) < -(2^63))||decide (((k:Nat):Int) ≥ 2^63))=false:=by simp;omega
  have c2:(((k:Nat):Int)==1)=false:=by rw[beq_eq_false_iff_ne];omega
  have c3:decide (((k:Nat):Int)<=0)=false:=dqF (!_);have c4:((#[x]:Array qj).isEmpty||(((k:Nat):Int)==1))=false:=by rw[c2];rfl
  have c5:(decide (((k:Nat):Int)<=0)||(#[x]:Array qj).isEmpty)=false:=by rw[c3];rfl
  have c6:¬ (((#[x]:Array qj).size:Int)*((k:Nat):Int)>(2^63-1)/8):=by
   show ¬ (((1:Nat):Int)*((k:Nat):Int)>(2^63-1)/8);omega
  have hsz:qo=16777216:=by decide
  have c7:yGy (((#[x]:Array qj).size:Int)*((k:Nat):Int))=false:=by
   unfold yGy;refine dqF ?_;show ¬ (((1:Nat):Int)*((k:Nat):Int)>((qo:Nat):Int));omega
  wp_walk
  rw[if_neg (by rw[c1];simp_all)];refine wB (wpAny_tupleItemsOf hl rfl ?_);simp only[c4,c5,c6,c7,yBa,if_false];rw[yAu,aAE,show(#[]:Array qj)++(yAf k x).toArray=(yAf k x).toArray by simp];refine wB (m:=yDa _) (xy (wP (_,rfl,h,)) ?_);show(yAf k x).toArray.size<=qo;rw[yAl,yBj,hsz];omega
section
variable {X:Cx}{aB:List (qk×Obj)}{σ:L2.St}{H:Hp}{s:qy}{Q:VK}
def aH8(r:aY x u):∀ k:Nat,aZ (yAf k x) (yAf k u)
 |0=>.nil|k+1=>.cons r (aH8 r k)
def aZu(I:Inv X aB σ H s)(ha:cN X.K H a [x])(hk:k<=1000)(q1:k=1->Q (.ref a) H)(q:∀ p,H p=qx->Q (.ref p) (bE H p (.tup (yAf k x)))):zq (model X.prog X.w) X.A (zo .Mult (.ref a) (.int k t)) (EP X aB σ Q) X.xe s:=by
 let(aG,r1,p1,_):=I.tuple ha;obtain⟨u,rfl,ru⟩:∃ u,aG=[u]/\aY x u:=by
  cases r1 with
  |cons r r'=>cases r';exact(_,rfl,r,)
 let((cls,d,data,sl),ho,hcl,n,hd):=p1;simp only at hcl hd;subst hcl hd;have hsz:qo=16777216:=by decide
 have cV:∀ (aG:List qj),aG=yAf k u->EP X aB σ Q (.ref s.heap.objs.size) {s with heap:=s.heap.push {cls:=.type "tuple",data:=.seq aG.toArray } }:=λ aG e=>by
  subst e;exact(.ref _,_,I.laid (t':=s.toks) (o:=.tup (yAf k x)) (λ b ob q=>hpS _ q) (yAc _) (by rw[yBj,hsz];omega,_,aH8 ru k,(_,xAd _ rfl,rfl,0,rfl,),),rfl,q _ (I.hok.fresh (yAc _)),)
 refine yj (T:="tuple") (U:="int") (·) (_,ho,rfl,) (λ s'=>yz s' k t) aOf PySem.F.fills_int_mul yEr aOz PySem.F.slot_int_index.lookup
  (jx yEr (yz s k t) PySem.F.entry_int_rmul (PySem.F.args_int_rmul_2 _ _) (aOk k t a _ n d sl)
    (ho,rfl,(_,ho,rfl,),?_,))
 by_cases h1:k=1
 .subst h1;exact jx yGa (_,ho,rfl,) yFs (yFm _ _) (aOv a _ n d sl t) (ho,.ref a,H,I,rfl,q1 rfl,)
 .by_cases h0:k=0
  .subst h0;exact jx yGa (_,ho,rfl,) yFs (yFm _ _) (aOm a u n d sl t) (ho,cV [] rfl,)
  .exact jx yGa (_,ho,rfl,) yFs (yFm _ _) (aOp a u n d sl k (!_) hk t) (ho,cV _ rfl,)
end
def pM(i j:Int):Bool:=!(decide (yAp i>ww)&&decide (yAp j>ww)&&Builtin.Int.intTooBig (yAp i+yAp j))
def yO{α:Type}(n:Nat)(xs:List α):List α:=(yAf n xs).flatten
def aFA:D->D->Option D
 |.int i,.int j=>qz (.int (i+j))
 |.str x,.str y=>if x.length+y.length<=qo then qz (.str (x++y)) else qx
 |.tuple [],.tuple ys=>qz (.tuple ys)
 |.tuple xs,.tuple ys=>if xs.isEmpty=false/\↑xs+↑ys<=qo then qz (.tuple (xs++ys)) else qx
 |.list xs,.list ys=>if ↑xs+↑ys<=qo then qz (.list (xs++ys)) else qx
 |_,_=>qx
def aFI:D->D->Option D
 |.int i,.int j=>if pM i j=true then qz (.int (i*j)) else qx
 |.list xs,.int k=>if k<2^63 /\ -(2^63)<=k/\↑xs*k.toNat<=qo then qz (.list (yO k.toNat xs)) else qx
 |.tuple [x],.int k=>if 0<=k/\k<=1000 then qz (.tuple (yAf k.toNat x)) else qx
 |_,_=>qx
def i2{α:Type}(f:Int->Int->Option α):D->D->Option α
 |.int i,.int j=>f i j|_,_=>qx
def kN{α:Type}{f:Int->Int->Option α}{i j:Int}:i2 f (.int i) (.int j)=f i j:=rfl
def iY{α:Type}{f:Int->Int->Option α}{z:α}(h:i2 f x y=qz z):∃ i j,x=.int i/\y=.int j/\f i j=qz z:=by
 cases x<;>first|(cases h;done)|skip
 cases y<;>first|(cases h;done)|exact(_,_,rfl,rfl,h,)
def jT:D->Bool
 |.none=>true|_=>false
def aIy(h:jT x=true):x=.none:=by cases x<;>first|rfl|cases h
def bO(op:jw)(x y:D):Option D:=match op with
 |.Add=>aFA x y|.Sub=>i2 (λ i j=>qz (.int (i-j))) x y|.Mult=>aFI x y|.MatMult=>qx|.Div=>qx
 |.Mod=>i2 (λ i j=>if j≠0 then qz (.int (i.fmod j)) else qx) x y
 |.Pow=>i2 (λ i j=>if 0<=j/\j<=1000000/\i.natAbs<2^64 then qz (.int (i^j.toNat)) else qx) x y
 |.LShift=>i2 (λ i j=>if 0<=j/\(yAp i:Int)+j<=2^27 then qz (.int (i*2^j.toNat)) else qx) x y
 |.RShift=>i2 (λ i j=>if 0<=j then qz (.int (i/2^j.toNat)) else qx) x y
 |.BitOr=>i2 (λ i j=>qz (.int (yHu i j))) x y|.BitXor=>i2 (λ i j=>qz (.int (yHk i j))) x y|.BitAnd=>i2 (λ i j=>qz (.int (yEl i j))) x y
 |.FloorDiv=>i2 (λ i j=>if j≠0/\yDg i j=false then qz (.int (i.fdiv j)) else qx) x y
def vG:yq->D->Option D
 |.USub,.int i=>qz (.int (-i))|.Invert,.int i=>qz (.int (yBr i))|_,_=>qx
def jR:D->Bool
 |.none|.bool _|.int _|.str _=>true
 |_=>false
def qU:List D->Bool
 |[]=>true|d::r=>jR d&&qU r
def inD(x:D):List D->Bool
 |[]=>false|y::r=>yEm y x||inD x r
def aE8:D->Option (List D)
 |.list xs=>qz xs|.tuple xs=>qz xs|_=>qx
def uU:D->D->Option Bool
 |.bool a,.bool b=>qz (a==b)|_,_=>qx
def aHN(h:uU x y=qz b):∃ p q,x=.bool p/\y=.bool q/\b=(p==q):=by
 unfold uU at h;split at h
 .rename_i p q;exact(p,q,rfl,rfl,(Option.some.inj h).symm,)
 .cases h
def uQ(op:jj)(x y:D):Option Bool:=match op with
 |.Eq=>if x.canLay0=true/\y.canLay0=true/\x.depth<=60 then qz (yEm x y) else qx
 |.NotEq=>if x.canLay0=true/\y.canLay0=true/\x.depth<=60 then qz (!yEm x y) else qx
 |.Lt=>i2 (λ i j=>qz (decide (i<j))) x y|.LtE=>i2 (λ i j=>qz (decide (i<=j))) x y|.Gt=>i2 (λ i j=>qz (decide (j<i))) x y|.GtE=>i2 (λ i j=>qz (decide (j<=i))) x y
 |.Is=>if jT y=true then qz (jT x) else uU x y
 |.IsNot=>if jT y=true then qz (!jT x) else (uU x y).bind λ b=>qz (!b)
 |.In=>(aE8 y).bind λ ys=>if jR x=true/\qU ys=true then qz (inD x ys) else qx
 |.NotIn=>(aE8 y).bind λ ys=>if jR x=true/\qU ys=true then qz (!inD x ys) else qx
def rQ:D->Option Bool
 |.none=>qz false|.bool b=>qz b|.int i=>qz (i != 0)
 |.str x=>if x.length<=qo then qz ((x.length:Int) != 0) else qx
 |.list xs=>qz (!xs.isEmpty)|.tuple xs=>qz (!xs.isEmpty)|.dict _=>qx
section
variable {X:Cx}{aB:List (qk×Obj)}{s:qy}{σ:L2.St}{H:Hp}{x y:V}{v u:qj}{Q:VK}{F:Hp}{L:Lx}{S:aD}{dx dy z:D}
abbrev hJ(X:Cx)(F:Hp)(L:Lx)(S:aD)(z:D)(Q:VK):Prop:=∀ F' H' r,cD F F'->Rel X.K F' L S H'->Den X.K F' z r->Q r H'
abbrev aB7(X:Cx)(F:Hp)(H:Hp)(zs:List D)(Q:VK):Prop:=∀ p xs,H p=qx->DenL X.K F zs xs->Q (.ref p) (bE H p (.lst xs))
def hJ.here(R:Rel X.K F L S H)(q:hJ X F L S z Q)(h:Den X.K F z r):Q r H:=q F H r (cD.refl _) R h
def aB7.out{zs:List D}(R:Rel X.K F L S H)(q:hJ X F L S (.list zs) Q):aB7 X F H zs Q:=λ p xs hp dl=>
 q _ _ _ (gH (R.sub.free hp)) (R.new hp) (.lst (cB.of cQ) (dl.mono (gH (R.sub.free hp))))
def hJ.tup{zs:List D}(R:Rel X.K F L S H)(q:hJ X F L S (.tuple zs) Q){p:qk}{xs:List V}(hp:H p=qx)(dl:DenL X.K F zs xs):Q (.ref p) (bE H p (.tup xs)):=
 q _ _ _ (gH (R.sub.free hp)) (R.new hp) (.tup (cN.of cQ) (dl.mono (gH (R.sub.free hp))))
def aNo{xs:List V}(I:Inv X aB σ H s)(ha:cB X.K H a xs)(hb:cB X.K H b ys)(hz:↑xs+↑ys<=qo)(q:∀ p,H p=qx->Q (.ref p) (bE H p (.lst (xs++ys)))):zq (model X.prog X.w) X.A (zo .Add (.ref a) (.ref b)) (EP X aB σ Q) X.xe s:=by
 let(aG,r1,p1,_):=I.list ha;let(vM,r2,p2,_):=I.list hb;let((cls,dd,data,sl),ho,hc,n,hd):=p1.isList;let((cls2,dd2,data2,sl2),ho2,hc2,n2,hd2):=p2.isList;simp only at hc hd hc2 hd2;subst hc hd hc2 hd2;have e:aG.toArray++vM.toArray=(aG++vM).toArray:=by simp
 refine concat_meets (_,ho,rfl,) (_,ho2,rfl,) noFill_list_add seq_list_add PySem.F.slot_list_add PySem.F.entry_list_add (PySem.F.args_list_add_2 _ _) (list_addW a b aG.toArray vM.toArray n n2 dd dd2 sl sl2 (by rw[yAl,yAl,<- r1.length,<- r2.length];exact hz)) (ho,ho2,?_,);rw[e];exact(.ref _,_,I.lnew (t':=s.toks) (r1.append r2) (by rw[yAj];omega),rfl,q _ I.fresh,)
def aNL{xs:List V}{k:Int}(I:Inv X aB σ H s)(ha:cB X.K H a xs)(h1 : -(2^63)<=k)(h2:k<2^63)(hz:↑xs*k.toNat<=qo)(q:∀ p,H p=qx->Q (.ref p) (bE H p (.lst (yAf k.toNat xs).flatten))):zq (model X.prog X.w) X.A (zo .Mult (.ref a) (.int k t)) (EP X aB σ Q) X.xe s:=by
 let(aG,r1,p1,_):=I.list ha;let((cls,d,data,sl),ho,hcl,n,hd):=p1.isList;simp only at hcl hd;subst hcl hd;have hsz:aG.toArray.size*k.toNat<=2^24:=by
  rw[yAl,<- r1.length];have:qo=2^24:=rfl;rw[<- this];exact hz
 refine yj (T:="list") (U:="int") (·) (_,ho,rfl,) (λ s'=>yz s' k t) noFill_list_mul PySem.F.fills_int_mul yEr repeat_list PySem.F.slot_int_index.lookup
  (jx yEr (yz s k t) PySem.F.entry_int_rmul (PySem.F.args_int_rmul_2 _ _) (lm_int_rmul_list_any k t a aG.toArray n d sl)
    ⟨ho,rfl,(_,ho,rfl,),jx PySem.F.slot_list_mul (_,ho,rfl,) PySem.F.entry_list_mul (PySem.F.args_list_mul_2 _ _)
     (lm_list_mul_any a aG.toArray n d sl k t (by simp[Builtin.List.listFitsIndex];omega) (!_) (by simp[Builtin.List.listTooLong,qo];simpa using hsz))
     (ho,?_,)⟩)
 rw[listMul_foldl_if];exact(.ref _,_,I.lnew (t':=s.toks) (r1.rep k.toNat) (by rw[aTg,yGh];exact hz),rfl,q _ I.fresh,)
def aX0(I:Inv X aB σ H s)(ha:cN X.K H a [])(hb:cN X.K H b ys)(q:Q (.ref b) H):zq (model X.prog X.w) X.A (zo .Add (.ref a) (.ref b)) (EP X aB σ Q) X.xe s:=by let(aG,r1,p1,_):=I.tuple ha;let(vM,r2,p2,_):=I.tuple hb;cases r1;let((cls,dd,data,sl),ho,hc,n,hd):=p1;let((cls2,dd2,data2,sl2),ho2,hc2,n2,hd2):=p2;simp only at hc hd hc2 hd2;subst hc hd hc2 hd2;exact concat_meets (_,ho,rfl,) (_,ho2,rfl,) noFill_tuple_add seq_tuple_add yFz yFp (yFl _ _) (tuple_addW0 a b _ vM.toArray n n2 dd dd2 sl sl2 rfl) (ho,ho2,(.ref b,H,I,rfl,q,),)
def aUx(I:Inv X aB σ H s)(rx:aY x v)(ry:aY y u)(R:Rel X.K F L S H)(nx:cH X.K F H dx x)(ny:cH X.K F H dy y)(e:aFA dx dy=qz z)(q:hJ X F L S z Q) :
 zq (model X.prog X.w) X.A (zo .Add v u) (EP X aB σ Q) X.xe s:=by
 unfold aFA at e;split at e
 .rename_i i j;cases e;exact aWg aB s σ H x y v u Q I rx ry (i,j,nx.int,ny.int,q.here R (.int _),)
 .rename_i a b;split at e
  .rename_i c;cases e;exact aPt aB s σ H x y v u Q I rx ry (a,b,nx.str,ny.str,c,q.here R (.str _),)
  .cases e
 .rename_i ys;cases e;let(a,vs,rfl,h1,d1):=nx.tup R.sub;let(b,ws,rfl,h2,d2):=ny.tup R.sub;cases d1;cases rx;cases ry;refine aX0 I h1 h2 (q F H _ (cD.refl _) R ?_);rcases ny with ny|⟨_,_,_,e,_⟩
  .exact ny
  .cases e
 .rename_i xs ys _;split at e
  .rename_i c;cases e;let(a,vs,rfl,h1,d1):=nx.tup R.sub;let(b,ws,rfl,h2,d2):=ny.tup R.sub;have hne:vs≠[]:=λ z=>by
    have:=d1.length;rw[z] at this;simp_all
   refine aTQ aB s σ H _ _ v u Q I rx ry (a,b,vs,ws,rfl,rfl,h1,h2,hne,by rw[<- d1.length,<- d2.length];exact c.2,λ z=>?_,λ z p hp=>?_,)
   .have:ys=[]:=by
     have h:=d2.length;rw[z] at h;simp_all
    subst this;refine q F H _ (cD.refl _) R ?_;rw[yAx];rcases nx with nx|⟨_,_,_,e,_⟩
    .exact nx
    .cases e
   .exact q.tup R hp (d1.append d2)
  .cases e
 .rename_i xs ys;split at e
  .rename_i c;cases e;let(a,vs,rfl,h1,d1):=nx.lst R.sub;let(b,ws,rfl,h2,d2):=ny.lst R.sub;cases rx;cases ry;exact aNo I h1 h2 (by rw[<- d1.length,<- d2.length];exact c) λ p hp=>aB7.out R q p _ hp (d1.append d2)
  .cases e
 .cases e
def aJA{F:Hp}{x:D}{v:V}(h:Den K F x v):∀ k:Nat,DenL K F (yAf k x) (yAf k v)
 |0=>.nil|k+1=>.cons h (aJA h k)
def aWj(I:Inv X aB σ H s)(rx:aY x v)(ry:aY y u)(R:Rel X.K F L S H)(nx:cH X.K F H dx x)(ny:cH X.K F H dy y)(e:aFI dx dy=qz z)(q:hJ X F L S z Q) :
 zq (model X.prog X.w) X.A (zo .Mult v u) (EP X aB σ Q) X.xe s:=by
 unfold aFI at e;split at e
 .rename_i i j;split at e
  .rename_i c;cases e;obtain rfl:=nx.int;obtain rfl:=ny.int;let(t,rfl):=rx;let(t',rfl):=ry;refine PyProof.Rows.mul_int (.int (i*j),H,I.tok _,(_,rfl,),q.here R (.int _),) ?_;unfold IntMulOk;unfold pM at c;intro z;rw[z] at c;cases c
  .cases e
 .rename_i xs k;split at e
  .rename_i c;cases e;let(a,vs,rfl,h1,d1):=nx.lst R.sub;obtain rfl:=ny.int;cases rx;let(t',rfl):=ry;exact aNL I h1 c.2.1 c.1 (by rw[<- d1.length];exact c.2.2) λ p hp=>aB7.out R q p _ hp (d1.rep _)
  .cases e
 .rename_i xd k;split at e
  .rename_i c;cases e;let(a,vs,rfl,h1,d1):=nx.tup R.sub;obtain rfl:=ny.int;cases rx;let(t',rfl):=ry;obtain⟨kk,rfl⟩:∃ kk:Nat,k=(kk:Nat):=(k.toNat,by omega,);rw[yAu] at q;cases d1 with
   |cons dx dn=>
     cases dn;refine aZu I h1 (!_) (λ hk=>?_) λ p hp=>hJ.tup R q hp (aJA dx kk)
     subst hk;refine q F H _ (cD.refl _) R ?_;rcases nx with nx|⟨_,_,_,z,_⟩
     .exact nx
     .cases z
  .cases e
 .cases e
def xE{C:Int->Int->Prop}{g:Int->Int->Int}(rule:dH X (zo op) (rI C λ i j=>.int (g i j))){i j:Int}(c:C i j)(I:Inv X aB σ H s)(rx:aY x v)(ry:aY y u)(R:Rel X.K F L S H)(nx:cH X.K F H (.int i) x)(ny:cH X.K F H (.int j) y)(q:hJ X F L S (.int (g i j)) Q) :
 zq (model X.prog X.w) X.A (zo op v u) (EP X aB σ Q) X.xe s:=
 rule aB s σ H x y v u Q I rx ry (i,j,nx.int,ny.int,c,q.here R (.int _),)
def aA3{g:Int->Int->Int}(rule:dH X (zo op) (kC λ i j=>.int (g i j))){i j:Int}(I:Inv X aB σ H s)(rx:aY x v)(ry:aY y u)(R:Rel X.K F L S H)(nx:cH X.K F H (.int i) x)(ny:cH X.K F H (.int j) y)(q:hJ X F L S (.int (g i j)) Q) :
 zq (model X.prog X.w) X.A (zo op v u) (EP X aB σ Q) X.xe s:=
 rule aB s σ H x y v u Q I rx ry (i,j,nx.int,ny.int,q.here R (.int _),)
def aTb:dH X (zo .FloorDiv) (rI (λ i j=>j≠0/\yDg i j=false) λ i j=>.int (i.fdiv j)):=opI λ _ _ _ _ _ _ _ hc q=>floordiv_int hc.1 q (.inl hc.2)
def aX7:dH X (zo .LShift) (rI (λ i j=>0<=j/\(yAp i:Int)+j<=2^27) λ i j=>.int (i*2^j.toNat)):=opI λ _ _ _ _ _ _ _ hc q=>lshift_int hc.1 hc.2 q
def aM{α β:Type}{o:Option α}{f:α->Option β}{b:β}(h:o.bind f=qz b):∃ a,o=qz a/\f a=qz b:=by
 cases o with
 |none=>cases h|some a=>exact(a,rfl,h,)
def nP{α:Type}{p:Prop} [Decidable p]{a z:α}(h:(if p then qz a else qx)=qz z):p/\a=z:=by simp_all
def aW0(I:Inv X aB σ H s)(rx:aY x v)(ry:aY y u)(R:Rel X.K F L S H)(nx:cH X.K F H dx x)(ny:cH X.K F H dy y)(e:bO op dx dy=qz z)(q:hJ X F L S z Q) :
 zq (model X.prog X.w) X.A (zo op v u) (EP X aB σ Q) X.xe s:=by
 cases op with
 |Add=>exact aUx I rx ry R nx ny e q|Mult=>exact aWj I rx ry R nx ny e q|MatMult=>cases e|Div=>cases e
 |Sub=>let(i,j,rfl,rfl,e):=iY e;cases e;exact aA3 aUB I rx ry R nx ny q
 |BitAnd=>let(i,j,rfl,rfl,e):=iY e;cases e;exact aA3 aVa I rx ry R nx ny q
 |BitOr=>let(i,j,rfl,rfl,e):=iY e;cases e;exact aA3 aXN I rx ry R nx ny q
 |BitXor=>let(i,j,rfl,rfl,e):=iY e;cases e;exact aA3 aWU I rx ry R nx ny q
 |FloorDiv=>let(i,j,rfl,rfl,e):=iY e;let(c,rfl):=nP e;exact xE aTb c I rx ry R nx ny q
 |Mod=>let(i,j,rfl,rfl,e):=iY e;let(c,rfl):=nP e;exact xE aTO c I rx ry R nx ny q
 |Pow=>let(i,j,rfl,rfl,e):=iY e;let(c,rfl):=nP e;exact xE aXd c I rx ry R nx ny q
 |LShift=>let(i,j,rfl,rfl,e):=iY e;let(c,rfl):=nP e;exact xE aX7 c I rx ry R nx ny q
 |RShift=>let(i,j,rfl,rfl,e):=iY e;let(c,rfl):=nP e;exact xE aVZ c I rx ry R nx ny q
def aYV(I:Inv X aB σ H s)(rx:aY x v)(R:Rel X.K F L S H)(nx:cH X.K F H dx x)(e:vG op dx=qz z)(q:hJ X F L S z Q) :
 zq (model X.prog X.w) X.A (unaryOp op v) (EP X aB σ Q) X.xe s:=by
 unfold vG at e;split at e
 .cases e;exact aUE aB s σ H x v Q I rx (_,nx.int,q.here R (.int _),)
 .cases e;exact aU7 aB s σ H x v Q I rx (_,nx.int,q.here R (.int _),)
 .cases e
mutual
theorem aHt(I:Inv X aB σ H s)(sb:cD F H):∀ {d:D}{x:V}{v:qj},Den X.K F d x->aY x v->d.canLay0=true->∃ as,Reads s.heap v d as
 |_,_,v,.non,r,_=>by cases (show v=Value.none from r);exact(_,.none,)
 |_,_,v,.bl b,r,_=>by cases (show v=Value.bool b from r);exact(_,.bool b,)
 |_,_,v,.int i,r,_=>by let(t,rfl):=(show ∃ t,v=Value.int i t from r);exact(_,.int i t,)
 |_,_,v,.str y,r,_=>by let(t,rfl):=(show ∃ t,v=Value.str y t from r);exact(_,.str y t,)
 |_,_,v,.lst (a:=a) h dl,r,c=>by
   cases (show v=Value.ref a from r);let(aG,rv,p1,_):=I.list (sb.seq h);let(o,ho,hc,n,hd):=p1.isList;let(as,ra):=aAz I sb dl rv c;exact(_,.list ho hc hd (ra:),)
 |_,_,v,.exc _,_,c=>by cases c
 |_,_,v,.tup (a:=a) h dl,r,c=>by
   cases (show v=Value.ref a from r);let(aG,rv,p1,_):=I.tuple (nK sb h);let(o,ho,hc,n,hd):=p1;let(as,ra):=aAz I sb dl rv c;exact(_,.tuple ho hc hd (ra:),)
theorem aAz(I:Inv X aB σ H s)(sb:cD F H):∀ {ds:List D}{xs:List V}{us:List qj},DenL X.K F ds xs->aZ xs us->yHr ds=true->∃ as,ReadsAll s.heap us ds as
 |_,_,_,.nil,r,_=>by cases r;exact(_,.nil,)
 |_,_,_,.cons h dl,.cons r rs,c=>by
   let(c1,c2):=Bool.and_eq_true_iff.mp c;let(as,ra):=aHt I sb h r c1;let(bs,rb):=aAz I sb dl rs c2;exact(_,.cons ra rb,)
end
def aAI(I:Inv X aB σ H s)(R:Rel X.K F L S H)(rx:aY x v)(nx:cH X.K F H dx x)(c:dx.canLay0=true):∃ as,Reads s.heap v dx as:=by
 rcases nx with nx|⟨ds,a,xs,rfl,rfl,e,dl⟩
 .exact aHt I R.sub nx rx c
 .cases rx;let(aG,rv,p1,_):=I.list (cB.of e);let(o,ho,hc,n,hd):=p1.isList;let(as,ra):=aAz I R.sub dl rv c;exact(_,.list ho hc hd (ra:),)
def aYP(hu:X.A.units+64<cLine)(I:Inv X aB σ H s)(rx:aY x v)(ry:aY y u)(R:Rel X.K F L S H)(nx:cH X.K F H dx x)(ny:cH X.K F H dy y)(c1:dx.canLay0=true)(c2:dy.canLay0=true)(c3:dx.depth<=60)(q:Q (.bl (yEm dx dy)) H):zq (model X.prog X.w) X.A (xk .Eq v u) (EP X aB σ Q) X.xe s:=by let(as,ra):=aAI I R rx nx c1;let(bs,rb):=aAI I R ry ny c2;refine SeqAt.compareEq_reads ra rb c1 c2 ?_ (.bl _,H,I,rfl,q,);have:min dx.depth dy.depth<=dx.depth:=yBh _ _;omega
def aYL(hu:X.A.units+64<cLine)(I:Inv X aB σ H s)(rx:aY x v)(ry:aY y u)(R:Rel X.K F L S H)(nx:cH X.K F H dx x)(ny:cH X.K F H dy y)(c1:dx.canLay0=true)(c2:dy.canLay0=true)(c3:dx.depth<=60)(q:Q (.bl (!yEm dx dy)) H):zq (model X.prog X.w) X.A (xk .NotEq v u) (EP X aB σ Q) X.xe s:=by let(as,ra):=aAI I R rx nx c1;let(bs,rb):=aAI I R ry ny c2;refine SeqAt.compareNe_reads ra rb c1 c2 ?_ (.bl _,H,I,rfl,q,);have:min dx.depth dy.depth<=dx.depth:=yBh _ _;omega
end
def aRk(h1:Den K F d x)(h2:Den K F e y)(f1:jR d=true)(f2:jR e=true):oP x y=yEm d e:=by
 cases h1<;>first|(simp[jR] at f1;done)|skip
 all_goals cases h2<;>first|(simp[jR] at f2;done)|rfl|skip
def aDg(h1:Den K F d x)(f1:jR d=true):mE x=true:=by cases h1<;>first|rfl|(simp[jR] at f1;done)
def aDc:∀ {ds:List D}{xs:List V},DenL K F ds xs->qU ds=true->xs.all mE=true
 |_,_,.nil,_=>rfl
 |_,_,.cons h r,f=>by
   simp only[qU,yBv] at f;rw[List.all_cons,aDg h f.1,aDc r f.2];rfl
def aDF(h2:Den K F e y)(f2:jR e=true):∀ {ds:List D}{xs:List V},DenL K F ds xs->qU ds=true->uX y xs=inD e ds
 |_,_,.nil,_=>rfl
 |_,_,.cons h r,f=>by
   simp only[qU,yBv] at f;have ih:=aDF h2 f2 r f.2;unfold uX at ih ⊢;rw[yFr,ih,aRk h h2 f.1 f2];rfl
section
variable {X:Cx}{aB:List (qk×Obj)}{s:qy}{σ:L2.St}{H:Hp}{x y:V}{v u:qj}{Q:VK}{F:Hp}{L:Lx}{S:aD}{dx dy:D}{b:Bool}
def cH.flat(h:cH X.K F H d z)(f:jR d=true):Den X.K F d z:=by
 rcases h with h|⟨ds,_,_,rfl,_⟩
 .exact h
 .simp[jR] at f
def aKa(sb:cD F H)(h:cH X.K F H d z)(e:aE8 d=qz ys):∃ p xs,z=.ref p/\(cB X.K H p xs\/cN X.K H p xs)/\DenL X.K F ys xs:=by
 cases d with
 |list l=>cases e;let(a,xs,e1,q,dl):=h.lst sb;exact(a,xs,e1,.inl q,dl,)
 |tuple l=>cases e;let(a,xs,e1,q,dl):=h.tup sb;exact(a,xs,e1,.inr q,dl,)
 |_=>cases e
def aJo(R:Rel X.K F L S H)(nx:cH X.K F H dx x):decide (x=.non)=jT dx:=by
 cases dx with
 |none=>rw[nx.non];rfl|bool c=>rw[nx.bl];rfl|int c=>rw[nx.int];rfl|str c=>rw[nx.str];rfl
 |list c=>let(a,xs,rfl,_):=nx.lst R.sub;rfl
 |tuple c=>let(a,xs,rfl,_):=nx.tup R.sub;rfl
 |dict c=>
   rcases nx with h|⟨_,_,_,e,_⟩
   .cases h;rfl
   .cases e
def aWw(hu:X.A.units+64<cLine)(I:Inv X aB σ H s)(rx:aY x v)(ry:aY y u)(R:Rel X.K F L S H)(nx:cH X.K F H dx x)(ny:cH X.K F H dy y)(e:uQ op dx dy=qz b)(q:Q (.bl b) H) :
 zq (model X.prog X.w) X.A (xk op v u) (EP X aB σ Q) X.xe s:=by
 cases op with
 |Lt=>let(i,j,rfl,rfl,e):=iY e;cases e;exact aX9 aB s σ H x y v u Q I rx ry (_,_,nx.int,ny.int,q,)
 |LtE=>let(i,j,rfl,rfl,e):=iY e;cases e;exact aXw aB s σ H x y v u Q I rx ry (_,_,nx.int,ny.int,q,)
 |Gt=>let(i,j,rfl,rfl,e):=iY e;cases e;exact aYw aB s σ H x y v u Q I rx ry (_,_,nx.int,ny.int,q,)
 |GtE=>let(i,j,rfl,rfl,e):=iY e;cases e;exact aXT aB s σ H x y v u Q I rx ry (_,_,nx.int,ny.int,q,)
 |Eq=>let(c,rfl):=nP e;exact aYP hu I rx ry R nx ny c.1 c.2.1 c.2.2 q
 |NotEq=>let(c,rfl):=nP e;exact aYL hu I rx ry R nx ny c.1 c.2.1 c.2.2 q
 |Is=>
   have e':(if jT dy=true then qz (jT dx) else uU dx dy)=qz b:=e;by_cases c:jT dy=true
   .rw[if_pos c] at e';cases e';cases aIy c;exact aUK aB s σ H x y v u Q I rx ry (ny.non,by rw[aJo R nx];exact q,)
   .rw[if_neg c] at e';let(p1,p2,rfl,rfl,rfl):=aHN e';obtain rfl:=nx.bl;obtain rfl:=ny.bl;cases rx;cases ry;exact wpAny_is_plain rfl (aBm I q (by cases p1<;>cases p2<;>rfl))
 |IsNot=>
   have e':(if jT dy=true then qz (!jT dx) else (uU dx dy).bind λ b=>qz (!b))=qz b:=e;by_cases c:jT dy=true
   .rw[if_pos c] at e';cases e';cases aIy c;exact aTA aB s σ H x y v u Q I rx ry (ny.non,by rw[aJo R nx];exact q,)
   .rw[if_neg c] at e';let(b0,e1,e2):=aM e';cases e2;let(p1,p2,rfl,rfl,rfl):=aHN e1;obtain rfl:=nx.bl;obtain rfl:=ny.bl;cases rx;cases ry;exact wpAny_isNot_plain rfl (aBm I q (by cases p1<;>cases p2<;>rfl))
 |In=>
   let(ys,hs,e):=aM e;let(c,rfl):=nP e;let(p,xs,e1,sq,dl):=aKa R.sub ny hs;refine aQH aB s σ H x y v u Q I rx ry (p,xs,e1,sq,aDg (nx.flat c.1) c.1,aDc dl c.2,?_,);show Q (.bl (uX x xs)) H;rw[aDF (nx.flat c.1) c.1 dl c.2];exact q
 |NotIn=>
   let(ys,hs,e):=aM e;let(c,rfl):=nP e;let(p,xs,e1,sq,dl):=aKa R.sub ny hs;refine aOD aB s σ H x y v u Q I rx ry (p,xs,e1,sq,aDg (nx.flat c.1) c.1,aDc dl c.2,?_,);show Q (.bl (!uX x xs)) H;rw[aDF (nx.flat c.1) c.1 dl c.2];exact q
def aGY{xs:List V}(h:DenL K F ds xs):xs.isEmpty=ds.isEmpty:=by cases h<;>rfl
def aSB(R:Rel X.K F L S H)(nx:cH X.K F H dx x)(e:rQ dx=qz b):aFn X.K x H b:=by
 cases dx with
 |none=>cases e;rw[nx.non];exact rfl|bool c=>cases e;rw[nx.bl];exact rfl|int c=>cases e;rw[nx.int];exact rfl
 |str c=>
   rw[nx.str];have e':(if c.length<=qo then qz ((c.length:Int) != 0) else qx)=qz b:=e;split at e'
   .rename_i h;cases e';exact(h,rfl,)
   .cases e'
 |list c=>cases e;let(a,xs,rfl,sq,dl):=nx.lst R.sub;exact .inl (xs,sq,by rw[aGY dl],)
 |tuple c=>cases e;let(a,xs,rfl,sq,dl):=nx.tup R.sub;exact .inr (.inl (xs,sq,by rw[aGY dl],))
 |dict c=>cases e
end
abbrev FE:=bB->aD->Option (W×aD)
abbrev FT:=bB->aD->Option (Bool×aD)
abbrev FA:=bB->aD->Option (List W×aD)
abbrev FL:=bB->aD->Option (List D×aD)
inductive Fl where
 |nx (env:bB)|rt (w:W)|bk (env:bB)|ct (env:bB)
abbrev FS:=bB->aD->Option (Fl×aD)
inductive WDenL (K:FrG) (F:Hp) (L:Lx):List W->List V->Prop
 |nil:WDenL K F L [] []
 |cons {w:W}{ws:List W}{x:V}{xs:List V}:dW K F L w x->WDenL K F L ws xs->WDenL K F L (w::ws) (x::xs)
def WDenL.length:∀ {ws:List W}{xs:List V},WDenL K F L ws xs->↑ws=↑xs
 |_,_,.nil=>rfl|_,_,.cons _ r=>congrArg (· + 1) r.length
section
variable (K:FrG)
def aS(f:FE):TE:=λ σ H Q=>∃ F L S env w S',Rel K F L S H/\EnvR K F L env σ/\f env S=qz (w,S')/\∀ F' L' H' v,Gr F L F' L'->Rel K F' L' S' H'->dW K F' L' w v->Q v H'
def fY(f:FT):TT:=λ σ H Q=>∃ F L S env b S',Rel K F L S H/\EnvR K F L env σ/\f env S=qz (b,S')/\∀ F' L' H',Gr F L F' L'->Rel K F' L' S' H'->Q b H'
def eN(f:FA):TA:=λ σ H Q=>∃ F L S env ws S',Rel K F L S H/\EnvR K F L env σ/\f env S=qz (ws,S')/\∀ F' L' H' vs,Gr F L F' L'->Rel K F' L' S' H'->WDenL K F' L' ws vs->Q vs H'
def iS(f:FL):TE:=λ σ H Q=>∃ F L S env ds S',Rel K F L S H/\EnvR K F L env σ/\f env S=qz (ds,S')/\∀ F' L' H' p xs,Gr F L F' L'->Rel K F' L' S' H'->F' p=qx->p ∉ ad L'->H' p=qz (.lst xs)->DenL K F' ds xs->Q (.ref p) H'
def dL(f:FS):TS:=λ D σ H=>∃ F L S env fl S',Rel K F L S H/\EnvR K F L env σ/\f env S=qz (fl,S')/\∀ F' L' H',Gr F L F' L'->Rel K F' L' S' H'->match fl with|.nx bD=>∀ σ',EnvR K F' L' bD σ'->D.nx σ' H'|.rt w=>∀ v,dW K F' L' w v->D.rt v H'|.bk bD=>∀ σ',EnvR K F' L' bD σ'->D.bk σ' H'|.ct bD=>∀ σ',EnvR K F' L' bD σ'->D.ct σ' H'
end
def PE.weak{t t':TE}(h:PE X e t)(w:∀ σ H Q,t' σ H Q->t σ H Q):PE X e t':=λ aB s σ H Q I q=>h aB s σ H Q I (w σ H Q q)
def PT.weak{t t':TT}(h:PT X e t)(w:∀ σ H Q,t' σ H Q->t σ H Q):PT X e t':=λ aB s σ H Q I q=>h aB s σ H Q I (w σ H Q q)
def PW.weak{t t':TT}(h:PW X e t)(w:∀ σ H Q,t' σ H Q->t σ H Q):PW X e t':=λ wh aB s σ H Q I q=>h wh aB s σ H Q I (w σ H Q q)
def PA.weak{t t':TA}(h:PA X e t)(w:∀ σ H Q,t' σ H Q->t σ H Q):PA X e t':=λ pos aB s σ H Q I q=>h pos aB s σ H Q I (w σ H Q q)
def PS.weak(h:PS X e t)(w:∀ D σ H,t' D σ H->t D σ H):PS X e t':=λ aB s σ H D I q=>h aB s σ H D I (w D σ H q)
def dM.weak(h:dM X e t)(w:∀ D σ H,t' D σ H->t D σ H):dM X e t':=λ aB s σ H D I q=>h aB s σ H D I (w D σ H q)
abbrev uH(K:FrG)(F:Hp)(L:Lx)(S':aD)(w:W)(Q:VK):Prop:=∀ F' L' H' v,Gr F L F' L'->Rel K F' L' S' H'->dW K F' L' w v->Q v H'
def f2(fa fb:FE)(g:aD->W->W->Option (W×aD)):FE:=λ env S=>(fa env S).bind λ p=>(fb env p.2).bind λ q=>g q.2 p.1 q.1
def f1(fa:FE)(g:aD->W->Option (W×aD)):FE:=λ env S=>(fa env S).bind λ p=>g p.2 p.1
def aCe{K:FrG}{fa fb:FE}{g:aD->W->W->Option (W×aD)}{r:R2}(hr:∀ F L S H x y wx wy w S' Q,Rel K F L S H->dW K F L wx x->dW K F L wy y->g S wx wy=qz (w,S')->uH K F L S' w Q->r x y H Q)(σ:St)(H:Hp)(Q:VK)(h:aS K (f2 fa fb g) σ H Q):tOp r (aS K fa) (aS K fb) σ H Q:=by
 let(F,L,S,env,w,S',R,E,e,q):=h;unfold f2 at e;cases ea:fa env S with
 |none=>rw[ea] at e;cases e
 |some p=>
   let(wx,S1):=p;rw[ea] at e;dsimp only[yDn] at e;cases eb:fb env S1 with
   |none=>rw[eb] at e;cases e
   |some p2=>
     let(wy,S2):=p2;rw[eb] at e;dsimp only at e;refine(F,L,S,env,wx,S1,R,E,ea,λ F1 L1 H1 x g1 R1 d1=>(F1,L1,S1,env,wy,S2,R1,E.mono g1,eb,λ F2 L2 H2 y g2 R2 d2=>?_,),);exact hr F2 L2 S2 H2 x y wx wy w S' Q R2 (d1.mono g2) d2 e λ F3 L3 H3 v g3 R3 d3=>q F3 L3 H3 v ((g1.trans g2).trans g3) R3 d3
def aZO{fa:FE}{g:aD->W->Option (W×aD)}{r:V->Hp->VK->Prop}(hr:∀ F L S H x wx w S' Q,Rel K F L S H->dW K F L wx x->g S wx=qz (w,S')->uH K F L S' w Q->r x H Q)(σ:St)(H:Hp)(Q:VK)(h:aS K (f1 fa g) σ H Q):tUn r (aS K fa) σ H Q:=by
 let(F,L,S,env,w,S',R,E,e,q):=h;unfold f1 at e;cases ea:fa env S with
 |none=>rw[ea] at e;cases e
 |some p=>
   let(wx,S1):=p;rw[ea] at e;dsimp only[yDn] at e;refine(F,L,S,env,wx,S1,R,E,ea,λ F1 L1 H1 x g1 R1 d1=>?_,);exact hr F1 L1 S1 H1 x wx w S' Q R1 d1 e λ F3 L3 H3 v g3 R3 d3=>q F3 L3 H3 v (g1.trans g3) R3 d3
def jY(i:Nat):FE:=λ env S=>match env[i]? with|some (qz w)=>qz (w,S)|_=>qx
def aPU(h:jY i env S=qz (w,S')):env[i]?=qz (qz w)/\S'=S:=by
 unfold jY at h;split at h
 .rename_i w' e;cases h;exact(e,rfl,)
 .cases h
variable {X:Cx}
def aXu(hN:X.N[i]?=qz x)(hv:uW X.env.scope x)(hd:(x==("__debug__" : Str))=false)(hcd:(x==("__classdict__" : Str))=false):PE X (.Name x pos) (aS X.K (jY i)):=
 PE.weak (aEf hN hv hd hcd) λ σ H Q aW=>by
  let(F,L,S,env,w,S',R,E,e,q):=aW;let(e1,rfl):=aPU e;let(v,e2,d):=E.get i w e1;exact(v,e2,q F L H v Gr.refl R d,)
def fC(d:D):FE:=λ _ S=>qz (.d d,S)
def aXJ{i j pos}:PE X (.Constant (.int i) j pos) (aS X.K (fC (.int i))):=
 PE.weak aWc λ σ H Q aW=>by let(F,L,S,env,w,S',R,E,e,q):=aW;cases e;exact q F L H _ Gr.refl R (.int i)
def aZ7{b j pos}:PE X (.Constant (.bool b) j pos) (aS X.K (fC (.bool b))):=
 PE.weak aZj λ σ H Q aW=>by let(F,L,S,env,w,S',R,E,e,q):=aW;cases e;exact q F L H _ Gr.refl R (.bl b)
def aYA{j pos}:PE X (.Constant .none j pos) (aS X.K (fC .none)):=
 PE.weak aUR λ σ H Q aW=>by let(F,L,S,env,w,S',R,E,e,q):=aW;cases e;exact q F L H _ Gr.refl R .non
def aYR{x j pos}:PE X (.Constant (.str x) j pos) (aS X.K (fC (.str x))):=
 PE.weak aV2 λ σ H Q aW=>by let(F,L,S,env,w,S',R,E,e,q):=aW;cases e;exact q F L H _ Gr.refl R (.str x)
def hU(g:D->D->Option D)(S:aD)(x y:W):Option (W×aD):=(dr S x).bind λ a=>(dr S y).bind λ b=>(g a b).bind λ z=>qz (.d z,S)
def oE(g:D->Option D)(S:aD)(x:W):Option (W×aD):=(dr S x).bind λ a=>(g a).bind λ z=>qz (.d z,S)
def aIo{g:D->D->Option D}(h:hU g S x y=qz (w,S')):∃ a b z,dr S x=qz a/\dr S y=qz b/\g a b=qz z/\w=.d z/\S'=S:=by
 unfold hU at h;cases e1:dr S x with
 |none=>rw[e1] at h;cases h
 |some a=>
   cases e2:dr S y with
   |none=>rw[e1,e2] at h;cases h
   |some b=>
     rw[e1,e2] at h;dsimp only[yDn] at h;cases e3:g a b with
     |none=>rw[e3] at h;cases h|some z=>rw[e3] at h;cases h;exact(a,b,z,rfl,rfl,e3,rfl,rfl,)
def aDe{g:D->Option D}(h:oE g S x=qz (w,S')):∃ a z,dr S x=qz a/\g a=qz z/\w=.d z/\S'=S:=by
 unfold oE at h;cases e1:dr S x with
 |none=>rw[e1] at h;cases h
 |some a=>
   rw[e1] at h;dsimp only[yDn] at h;cases e3:g a with
   |none=>rw[e3] at h;cases h|some z=>rw[e3] at h;cases h;exact(a,z,rfl,e3,rfl,rfl,)
def aDV{Q:VK}(X:Cx)(hK:X.K=K)(q:uH K F L S (.d z) Q):hJ X F L S z Q:=λ F' H' r sf R d=>by
 subst hK;exact q F' L H' r (sf,[],by simp,) R d
def rD2(X:Cx)(g:D->D->Option D):R2:=λ x y H Q=>∃ F L S dx dy z,Rel X.K F L S H/\cH X.K F H dx x/\cH X.K F H dy y/\g dx dy=qz z/\hJ X F L S z Q
def aBl{g:D->D->Option D}(F:Hp)(L:Lx)(S:aD)(H:Hp)(x y:V)(wx wy w:W)(S':aD)(Q:VK)(R:Rel X.K F L S H)(h1:dW X.K F L wx x)(h2:dW X.K F L wy y)(e:hU g S wx wy=qz (w,S'))(q:uH X.K F L S' w Q):rD2 X g x y H Q:=by let(a,b,z,e1,e2,e3,rfl,rfl):=aIo e;exact(F,L,S',a,b,z,R,jP R h1 e1,jP R h2 e2,e3,aDV X rfl q,)
def pX(op:jw)(fa fb:FE):FE:=f2 fa fb (hU (bO op))
def aYo{fa fb:FE}(ha:PE X a (aS X.K fa))(hb:PE X b (aS X.K fb)):PE X (.BinOp a op b pos) (aS X.K (pX op fa fb)):=
 PE.weak (aE6 (r:=rD2 X (bO op)) (λ aB s σ H x y v u Q I rx ry hPr0=>by let(F,L,S,dx,dy,z,R,nx,ny,e,q):=hPr0;exact aW0 I rx ry R nx ny e q) ha hb) (aCe aBl)
def fUn(op:yq)(fa:FE):FE:=f1 fa (oE (vG op))
def aZM{fa:FE}(ha:PE X a (aS X.K fa)):PE X (.UnaryOp op a pos) (aS X.K (fUn op fa)):=
 PE.weak (aXG (r:=λ x H Q=>∃ F L S dx z,Rel X.K F L S H/\cH X.K F H dx x/\vG op dx=qz z/\hJ X F L S z Q) (λ aB s σ H x v Q I rx hPr1=>by let(F,L,S,dx,z,R,nx,e,q):=hPr1;exact aYV I rx R nx e q) ha)
  (aZO λ F L S H x wx w S' Q R d e q=>by
    let(a,z,e1,e3,rfl,rfl):=aDe e;exact(F,L,S',a,z,R,jP R d e1,e3,aDV X rfl q,))
def aP(op:jj)(x y:D):Option D:=(uQ op x y).map PyData.bool
def aIg(hu:X.A.units+64<cLine):dH X (xk op) (rD2 X (aP op)):=λ aB s σ H x y v u Q I rx ry aW=>by
 let(F,L,S,dx,dy,z,R,nx,ny,e,q):=aW;unfold aP at e;cases ec:uQ op dx dy with
 |none=>rw[ec] at e;cases e|some b=>rw[ec] at e;cases e;exact aWw hu I rx ry R nx ny ec (q.here R (.bl b))
def nU(op:jj)(fa fb:FE):FE:=f2 fa fb (hU (aP op))
def aY0{fa fb:FE}(hu:X.A.units+64<cLine)(ha:PE X a (aS X.K fa))(hb:PE X b (aS X.K fb))(hm:xw op b=false):PE X (.Compare a [op] [b] pos) (aS X.K (nU op fa fb)):=
 PE.weak (aT9 (aIg hu) ha hb hm) (aCe aBl)
def dI(fa:FE):FT:=λ env S=>(fa env S).bind λ p=>(dr p.2 p.1).bind λ d=>(rQ d).bind λ b=>qz (b,p.2)
def aDa{fa:FE}(h:dI fa env S=qz (b,S')):∃ w d,fa env S=qz (w,S')/\dr S' w=qz d/\rQ d=qz b:=by
 unfold dI at h;cases ea:fa env S with
 |none=>rw[ea] at h;cases h
 |some p=>
   let(w,S1):=p;rw[ea] at h;dsimp only[yDn] at h
   grind
def aYF{fa:FE}(ha:PE X a (aS X.K fa))(he:∀ kG,isTrue a X.env kG=(do let v <- kG;standAt a.pos;holding [v] (truthy v))):PT X a (fY X.K (dI fa)):=
 PT.weak (aQS ha he) λ σ H Q aW=>by
  let(F,L,S,env,b,S',R,E,e,q):=aW;let(w,d,e1,e2,e3):=aDa e;exact(F,L,S,env,w,S',R,E,e1,λ F1 L1 H1 v g1 R1 d1=>(b,aSB R1 (jP R1 d1 e2) e3,q F1 L1 H1 g1 R1,),)
def aUW{fa fb:FE}(hu:X.A.units+64<cLine)(ha:PE X a (aS X.K fa))(hb:PE X b (aS X.K fb))(hm:xw op b=false):PT X (.Compare a [op] [b] pos) (fY X.K (dI (nU op fa fb))):=
 PT.weak (aSd (aIg hu) ha hb hm) λ σ H Q aW=>by
  let(F,L,S,env,b,S',R,E,e,q):=aW;let(w,d,e1,e2,e3):=aDa e;refine @aCe _ fa fb (hU (aP op)) _ aBl σ H _ (F,L,S,env,w,S',R,E,e1,λ F1 L1 H1 v g1 R1 d1=>?_,);have hc:∃ c,w=.d (.bool c):=by
   unfold nU f2 at e1;cases ea:fa env S with
   |none=>rw[ea] at e1;cases e1
   |some p=>
     rw[ea] at e1;dsimp only[yDn] at e1;cases eb:fb env p.2 with
     |none=>rw[eb] at e1;cases e1
     |some p2=>
       rw[eb] at e1;dsimp only at e1;let(_,_,z,_,_,e6,rfl,_):=aIo e1;unfold aP at e6;cases e7:uQ op _ _ with
       |none=>rw[e7] at e6;cases e6|some c=>rw[e7] at e6;grind
  let(c,rfl):=hc;cases e2;cases e3;have hv:v=.bl b:=by cases (show Den X.K F1 (.bool b) v from d1);rfl
  exact(b,hv,q F1 L1 H1 g1 R1,)
def zJ(fa fb:FT):FT:=λ env S=>(fa env S).bind λ p=>if p.1=true then fb env p.2 else qz (false,p.2)
def fOr(fa fb:FT):FT:=λ env S=>(fa env S).bind λ p=>if p.1=true then qz (true,p.2) else fb env p.2
def yI(fa:FT):FT:=λ env S=>(fa env S).bind λ p=>qz (!p.1,p.2)
def aMt{fa fb:FT}(σ:St)(H:Hp)(Q:Bool->Hp->Prop)(h:fY K (zJ fa fb) σ H Q):aNw (fY K fa) (fY K fb) σ H Q:=by
 let(F,L,S,env,b,S',R,E,e,q):=h;let((c,S1),e1,e2):=aM e;refine(F,L,S,env,c,S1,R,E,e1,λ F1 L1 H1 g1 R1=>?_,);dsimp only at e2;cases c with
 |true=>exact uV (F1,L1,S1,env,b,S',R1,E.mono g1,by simpa using e2,λ F2 L2 H2 g2 R2=>q F2 L2 H2 (g1.trans g2) R2,)
 |false=>
   grind
def aNj{fa fb:FT}(σ:St)(H:Hp)(Q:Bool->Hp->Prop)(h:fY K (fOr fa fb) σ H Q):tOr (fY K fa) (fY K fb) σ H Q:=by
 let(F,L,S,env,b,S',R,E,e,q):=h;let((c,S1),e1,e2):=aM e;refine(F,L,S,env,c,S1,R,E,e1,λ F1 L1 H1 g1 R1=>?_,);dsimp only at e2;cases c with
 |false=>exact uR (F1,L1,S1,env,b,S',R1,E.mono g1,by simpa using e2,λ F2 L2 H2 g2 R2=>q F2 L2 H2 (g1.trans g2) R2,)
 |true=>
   grind
def aXF{fa:FT}(ha:PT X a (fY X.K fa)):PT X (.UnaryOp .Not a pos) (fY X.K (yI fa)):=
 PT.weak (aWy ha) λ σ H Q aW=>by
  let(F,L,S,env,b,S',R,E,e,q):=aW;let((c,S1),e1,e2):=aM e;cases e2;exact(F,L,S,env,c,S1,R,E,e1,q,)
def xK(fa fb:FE):FE:=λ env S=>(fa env S).bind λ p=>match p.1 with|.d (.bool true)=>fb env p.2|.d (.bool false)=>qz (.d (.bool false),p.2)|_=>qx
def zE(fa fb:FE):FE:=λ env S=>(fa env S).bind λ p=>match p.1 with|.d (.bool false)=>fb env p.2|.d (.bool true)=>qz (.d (.bool true),p.2)|_=>qx
def xY(fa:FE):FE:=λ env S=>(fa env S).bind λ p=>match p.1 with|.d (.bool b)=>qz (.d (.bool (!b)),p.2)|_=>qx
def xX(h:dW K F L (.d (.bool b)) v):v=.bl b:=by cases (show Den K F (.bool b) v from h);rfl
def aLH{fa fb:FE}(σ:St)(H:Hp)(Q:VK)(h:aS K (xK fa fb) σ H Q):aM0 (aS K fa) (aS K fb) σ H Q:=by
 let(F,L,S,env,w,S',R,E,e,q):=h;let((c,S1),e1,e2):=aM e;dsimp only at e2;split at e2
 .exact(F,L,S,env,_,S1,R,E,e1,λ F1 L1 H1 v g1 R1 d1=>(true,xX d1,uV (F1,L1,S1,env,w,S',R1,E.mono g1,e2,λ F2 L2 H2 v2 g2 R2 d2=>q F2 L2 H2 v2 (g1.trans g2) R2 d2,),),)
 .cases e2;exact(F,L,S,env,_,_,R,E,e1,λ F1 L1 H1 v g1 R1 d1=>(false,xX d1,uR (q F1 L1 H1 _ g1 R1 (Den.bl false)),),)
 .cases e2
def aMU{fa fb:FE}(σ:St)(H:Hp)(Q:VK)(h:aS K (zE fa fb) σ H Q):aNM (aS K fa) (aS K fb) σ H Q:=by
 let(F,L,S,env,w,S',R,E,e,q):=h;let((c,S1),e1,e2):=aM e;dsimp only at e2;split at e2
 .exact(F,L,S,env,_,S1,R,E,e1,λ F1 L1 H1 v g1 R1 d1=>(false,xX d1,uR (F1,L1,S1,env,w,S',R1,E.mono g1,e2,λ F2 L2 H2 v2 g2 R2 d2=>q F2 L2 H2 v2 (g1.trans g2) R2 d2,),),)
 .cases e2;exact(F,L,S,env,_,_,R,E,e1,λ F1 L1 H1 v g1 R1 d1=>(true,xX d1,uV (q F1 L1 H1 _ g1 R1 (Den.bl true)),),)
 .cases e2
def aUY{fa:FE}(ha:PE X a (aS X.K fa)):PE X (.UnaryOp .Not a pos) (aS X.K (xY fa)):=
 PE.weak (aWK ha) λ σ H Q aW=>by
  let(F,L,S,env,w,S',R,E,e,q):=aW;let((c,S1),e1,e2):=aM e;dsimp only at e2;split at e2
  .cases e2;exact(F,L,S,env,_,_,R,E,e1,λ F1 L1 H1 v g1 R1 d1=>(_,xX d1,q F1 L1 H1 _ g1 R1 (Den.bl _),),)
  .cases e2
def zO(fc:FT)(fa fb:FE):FE:=λ env S=>(fc env S).bind λ p=>if p.1=true then fa env p.2 else fb env p.2
def aYY{fc:FT}{fa fb:FE}(hc:PT X c (fY X.K fc))(ha:PE X a (aS X.K fa))(hb:PE X b (aS X.K fb)):PE X (.IfExp c a b pos) (aS X.K (zO fc fa fb)):=
 PE.weak (aRc hc ha hb) λ σ H Q aW=>by
  let(F,L,S,env,w,S',R,E,e,q):=aW;let((c,S1),e1,e2):=aM e;refine(F,L,S,env,c,S1,R,E,e1,λ F1 L1 H1 g1 R1=>?_,);dsimp only at e2;cases c with
  |true=>exact uV (F1,L1,S1,env,w,S',R1,E.mono g1,by simpa using e2,λ F2 L2 H2 v g2 R2 d2=>q F2 L2 H2 v (g1.trans g2) R2 d2,)|false=>exact uR (F1,L1,S1,env,w,S',R1,E.mono g1,by simpa using e2,λ F2 L2 H2 v g2 R2 d2=>q F2 L2 H2 v (g1.trans g2) R2 d2,)
def iE:FA:=λ _ S=>qz ([],S)
def dF(fa:FE)(fr:FA):FA:=λ env S=>(fa env S).bind λ p=>(fr env p.2).bind λ q=>qz (p.1::q.1,q.2)
def aEU:PA X [] (eN X.K iE):=PA.weak aLA λ σ H Q aW=>by let(F,L,S,env,ws,S',R,E,e,q):=aW;cases e;exact q F L H [] Gr.refl R .nil
def lX{fa:FE}{fr:FA}(ha:PE X e (aS X.K fa))(hr:PA X es (eN X.K fr))(hs:zx (e::es) X.env=(false,eval e X.env)::zx es X.env):PA X (e::es) (eN X.K (dF fa fr)):=
 PA.weak (aR7 ha hr hs) λ σ H Q aW=>by
  let(F,L,S,env,ws,S',R,E,e,q):=aW;let((w,S1),e1,e2):=aM e;let((wr,S2),e3,e4):=aM e2;cases e4;exact(F,L,S,env,w,S1,R,E,e1,λ F1 L1 H1 v g1 R1 d1=>(F1,L1,S1,env,wr,S2,R1,E.mono g1,e3,λ F2 L2 H2 vs g2 R2 d2=>q F2 L2 H2 _ (g1.trans g2) R2 (.cons (d1.mono g2) d2),),)
def jF:List W->Option (List D)
 |[]=>qz []|.d x::r=>(jF r).bind λ l=>qz (x::l)|.tpl ws::r=>(fL ws).bind λ x=>(jF r).bind λ l=>qz (.tuple x::l)|_::_=>qx
def qS:∀ {ws:List W}{xs:List V}{ds:List D},WDenL K F L ws xs->jF ws=qz ds->DenL K F ds xs
 |_,_,_,.nil,e=>by cases e;exact .nil
 |.d x::r,_,_,.cons h t,e=>by
   let(l,e1,e2):=aM e;cases e2;exact .cons h (qS t e1)
 |.tpl ws::r,_,_,.cons h t,e=>by
   let(x,e0,e):=aM e;let(l,e1,e2):=aM e;cases e2;let(a,vs,rfl,h1,h2):=h;exact .cons (.tup (.inl (.inl h1)) (aAX h2 e0)) (qS t e1)
 |.loc _::_,_,_,.cons _ _,e=>by cases e|.exc _ _::_,_,_,.cons _ _,e=>by cases e|.dic _::_,_,_,.cons _ _,e=>by cases e|.ob _::_,_,_,.cons _ _,e=>by cases e
def zM(fs:FA):FE:=λ env S=>(fs env S).bind λ p=>(jF p.1).bind λ ds=>if ↑ds<=qo then qz (.d (.tuple ds),p.2) else qx
def aX5{fs:FA}(h:PA X es (eN X.K fs)):PE X (.Tuple es k pos) (aS X.K (zM fs)):=
 PE.weak (aLM h) λ σ H Q aW=>by
  let(F,L,S,env,w,S',R,E,e,q):=aW;let((ws,S1),e1,e2):=aM e;let(ds,e3,e4):=aM e2;split at e4
  .rename_i hz;cases e4;refine(F,L,S,env,ws,_,R,E,e1,λ F1 L1 H1 vs g1 R1 d1=>?_,);have dl:=qS d1 e3;refine(by rw[<- dl.length];exact hz,λ p hp=>?_,);exact q _ L1 _ _ (g1.trans (Gr.new (R1.sub.free hp))) (R1.new hp) (Den.tup (cN.of cQ) (dl.mono (gH (R1.sub.free hp))))
  .cases e4
def zD(fs:FA):FL:=λ env S=>(fs env S).bind λ p=>(jF p.1).bind λ ds=>if ↑ds<=qo then qz (ds,p.2) else qx
def aYp{fs:FA}(h:PA X es (eN X.K fs)):PE X (.List es pos) (iS X.K (zD fs)):=
 PE.weak (aEg h) λ σ H Q aW=>by
  let(F,L,S,env,ds,S',R,E,e,q):=aW;let((ws,S1),e1,e2):=aM e;let(ds',e3,e4):=aM e2;split at e4
  .rename_i hz;cases e4;refine(F,L,S,env,ws,_,R,E,e1,λ F1 L1 H1 vs g1 R1 d1=>?_,);have dl:=qS d1 e3;exact(by rw[<- dl.length];exact hz,λ p hp=>q F1 L1 _ p vs g1 (R1.lay hp) (R1.sub.free hp) (R1.notin hp) cQ dl,)
  .cases e4
def lD(f:FL):FE:=λ env S=>(f env S).bind λ p=>qz (.d (.list p.1),p.2)
def aNO{f:FL}(h:PE X e (iS X.K f)):PE X e (aS X.K (lD f)):=
 PE.weak h λ σ H Q aW=>by
  let(F,L,S,env,w,S',R,E,e,q):=aW;let((ds,S1),e1,e2):=aM e;cases e2;exact(F,L,S,env,ds,_,R,E,e1,λ F1 L1 H1 p xs g1 R1 hF hL hH dl=>q _ L1 _ _ (g1.trans (Gr.new hF)) (R1.adopt hF hL hH) (Den.lst (cB.of cQ) (dl.mono (gH hF))),)
def mI(f:FL):FE:=λ env S=>(f env S).bind λ p=>qz (.loc p.2.length,p.2++[qz p.1])
def aY4{f:FL}(h:PE X e (iS X.K f)):PE X e (aS X.K (mI f)):=
 PE.weak h λ σ H Q aW=>by
  let(F,L,S,env,w,S',R,E,e,q):=aW;let((ds,S1),e1,e2):=aM e;cases e2;refine(F,L,S,env,ds,_,R,E,e1,λ F1 L1 H1 p xs g1 R1 hF hL hH dl=>q _ _ _ _ (g1.trans Gr.newLoc) (R1.adoptLoc hF hL hH dl) (p,?_,rfl,),);dsimp only;rw[<- R1.len,yAd (yAc _)];simp
def aV:D->D->Option D
 |.list xs,.int i=>lH xs i|.tuple xs,.int i=>lH xs i
 |.str z,.int i=>if z.length<=qo then (lH z.cps.toList i).bind λ c=>qz (.str ⟨#[c]⟩) else qx
 |_,_=>qx
def aJr{xs:List V}{i:Int}(h:DenL K F ds xs)(e:lH ds i=qz d):∃ x,lH xs i=qz x/\Den K F d x:=by unfold lH at e ⊢;rw[<- h.length];let(j,e1,e2):=aM e;let(x,e3,dx):=h.get e2;simp_all
def aSo:vL X (rD2 X aV):=λ value iM aB s σ H x y v u Q I rx ry aW hs=>by
 let(F,L,S,dx,dy,z,R,nx,ny,e,q):=aW;unfold aV at e;split at e
 .let(a,xs,rfl,sq,dl):=nx.lst R.sub;let(r,e1,d1):=aJr dl e;exact aSi value iM aB s σ H _ y v u Q I rx ry (a,xs,_,r,rfl,ny.int,sq,e1,q.here R d1,) hs
 .let(a,xs,rfl,sq,dl):=nx.tup R.sub;let(r,e1,d1):=aJr dl e;exact aVc value iM aB s σ H _ y v u Q I rx ry (a,xs,_,r,rfl,ny.int,sq,e1,q.here R d1,) hs
 .split at e
  .rename_i hz;let(c,e1,e2):=aM e;cases e2;exact aVx value iM aB s σ H x y v u Q I rx ry (_,_,c,nx.str,ny.int,hz,e1,q.here R (.str _),) hs
  .cases e
 .cases e
def oH(fa fb:FE):FE:=f2 fa fb (hU aV)
def aZy{fa fb:FE}(ha:PE X a (aS X.K fa))(hb:PE X b (aS X.K fb))(hs:wN b):PE X (.Subscript a b pos) (aS X.K (oH fa fb)):=
 PE.weak (aMQ aSo ha hb hs) (aCe aBl)
abbrev FO:=bB->aD->Option (Option Int×aD)
def fNo:FO:=λ _ S=>qz (qx,S)
def uD(fa:FE):FO:=λ env S=>(fa env S).bind λ p=>match p.1 with|.d (.int i)=>qz (qz i,p.2)|_=>qx
def mL(K:FrG)(f:FO):TO:=λ σ H Q=>∃ F L S env o S',Rel K F L S H/\EnvR K F L env σ/\f env S=qz (o,S')/\∀ F' L' H',Gr F L F' L'->Rel K F' L' S' H'->Q o H'
def aZL:PO X qx (mL X.K fNo):=λ aB s σ H Q I aW=>by
 let(F,L,S,env,o,S',R,E,e,q):=aW;cases e;exact aSV aB s σ H Q I (q F L H Gr.refl R)
def aWn{fa:FE}(ha:PE X a (aS X.K fa)):PO X (qz a) (mL X.K (uD fa)):=λ aB s σ H Q I aW=>by
 let(F,L,S,env,o,S',R,E,e,q):=aW;let((w,S1),e1,e2):=aM e;dsimp only at e2;split at e2
 .cases e2;refine aSR ha aB s σ H Q I (F,L,S,env,_,_,R,E,e1,λ F1 L1 H1 v g1 R1 d1=>?_,);cases (show Den X.K F1 (.int _) v from d1);exact(_,rfl,q F1 L1 H1 g1 R1,)
 .cases e2
def eE(xs:List D)(lo hi:Option Int):List D:=(xs.drop (HT.sIx ↑xs 0 lo)).take (HT.sIx ↑xs ↑xs hi-HT.sIx ↑xs 0 lo)
def aJq{xs:List V}(h:DenL K F ds xs)(lo hi:Option Int):DenL K F (eE ds lo hi) (oC xs lo hi):=by unfold eE oC;rw[h.length];exact(h.drop _).take _
def slL:D->Option Int->Option Int->Option (List D)
 |.list xs,lo,hi=>qz (eE xs lo hi)|_,_,_=>qx
def aNG(fa:FE)(fl fh:FO):FL:=λ env S=>(fa env S).bind λ p=>(fl env p.2).bind λ q=>(fh env q.2).bind λ r=>(dr r.2 p.1).bind λ d=>(slL d q.1 r.1).bind λ z=>qz (z,r.2)
def aY1{lo hi:Option qu}{fa:FE}{fl fh:FO}(ha:PE X a (aS X.K fa))(hl:PO X lo (mL X.K fl))(hh:PO X hi (mL X.K fh)):PE X (.Subscript a (.Slice lo hi qx p2) pos) (iS X.K (aNG fa fl fh)):=
 PE.weak (aIw aTo ha hl hh) λ σ H Q aW=>by
  let(F,L,S,env,ds,S',R,E,e,q):=aW;let((w,S1),e1,e):=aM e;let((l,S2),e2,e):=aM e;let((h,S3),e3,e):=aM e;let(d,e4,e):=aM e;let(z,e5,e):=aM e;cases e;refine(F,L,S,env,w,S1,R,E,e1,λ F1 L1 H1 v g1 R1 d1=>(F1,L1,S1,env,l,S2,R1,E.mono g1,e2,λ F2 L2 H2 g2 R2=>(F2,L2,S2,env,h,S3,R2,E.mono (g1.trans g2),e3,λ F3 L3 H3 g3 R3=>?_,),),);have n:=jP R3 (d1.mono (g2.trans g3)) e4;cases d with
  |list xs=>
    cases e5;let(a,vs,rfl,sq,dl):=n.lst R3.sub;exact(a,vs,rfl,sq,λ p hp=>q F3 L3 _ p _ ((g1.trans g2).trans g3) (R3.lay hp) (R3.sub.free hp) (R3.notin hp) cQ (aJq dl l h),)
  |_=>cases e5
def qH(K:FrG)(np:Nat)(call:List W->aD->Option (W×aD)):Sp:=λ vs H Q _=>∃ F L S ws w S',↑ws=np/\Rel K F L S H/\WDenL K F L ws vs/\call ws S=qz (w,S')/\uH K F L S' w Q
def aB1(fs:FA)(np:Nat)(call:List W->aD->Option (W×aD)):FE:=λ env S=>(fs env S).bind λ p=>if p.1.length=np then call p.1 p.2 else qx
def aUP{fs:FA}{call:List W->aD->Option (W×aD)}(σ:St)(H:Hp)(Q:VK)(h:aS K (aB1 fs np call) σ H Q):aBG (qH K np call) [] E0 (eN K fs) σ H Q:=by
 let(F,L,S,env,w,S',R,E,e,q):=h;let((ws,S1),e1,e):=aM e;split at e
 .rename_i hn;refine(F,L,S,env,ws,S1,R,E,e1,λ F1 L1 H1 vs g1 R1 d1=>(F1,L1,S1,ws,w,S',hn,R1,by rw[yAx];exact d1,e,λ F2 L2 H2 v g2 R2 d2=>q F2 L2 H2 v (g1.trans g2) R2 d2,),)
 .cases e
inductive NowL (K:FrG) (F H:Hp):List D->List V->Prop
 |nil:NowL K F H [] []
 |cons {d:D}{ds:List D}{x:V}{xs:List V}:cH K F H d x->NowL K F H ds xs->NowL K F H (d::ds) (x::xs)
def oT(S:aD):List W->Option (List D)
 |[]=>qz []|w::r=>(dr S w).bind λ d=>(oT S r).bind λ l=>qz (d::l)
def aKh(R:Rel K F L S H):∀ {ws:List W}{xs:List V}{ds:List D},WDenL K F L ws xs->oT S ws=qz ds->NowL K F H ds xs
 |_,_,_,.nil,e=>by cases e;exact .nil
 |_,_,_,.cons h t,e=>by
   let(d,e1,e):=aM e;let(l,e2,e):=aM e;cases e;exact .cons (jP R h e1) (aKh R t e2)
def sH(X:Cx)(g:List D->Option D):List V->Hp->VK->Prop:=λ xs H Q=>∃ F L S ds z,Rel X.K F L S H/\NowL X.K F H ds xs/\g ds=qz z/\hJ X F L S z Q
def rZ(fs:FA)(g:List D->Option D):FE:=λ env S=>(fs env S).bind λ p=>(oT p.2 p.1).bind λ ds=>(g ds).bind λ z=>qz (.d z,p.2)
def uE{fs:FA}{g:List D->Option D}(σ:St)(H:Hp)(Q:VK)(h:aS X.K (rZ fs g) σ H Q):tCB (sH X g) (eN X.K fs) σ H Q:=by let(F,L,S,env,w,S',R,E,e,q):=h;let((ws,S1),e1,e):=aM e;let(ds,e2,e):=aM e;let(z,e3,e):=aM e;cases e;refine(F,L,S,env,ws,_,R,E,e1,λ F1 L1 H1 vs g1 R1 d1=>(F1,L1,S1,ds,z,R1,aKh R1 d1 e2,e3,aDV X rfl λ F2 L2 H2 v g2 R2 d2=>q F2 L2 H2 v (g1.trans g2) R2 d2,),)
section
variable {prog:zv}{w:zw}{A:zy}{E:qj->qy->Prop}
def aHF{it t:qk}{aX:Array qj}(hne:t≠it):∀ (n i:Nat) (s:qy) (Q:List qj->qy->Prop),s.heap.IsListIter it t i->s.heap.IsList t aX->i+n<=aX.size ->
 (∀ h',h'.IsListIter it t (i+n)->yDi it s.heap h'->Q ((aX.toList.drop i).take n) {s with heap:=h' })->zq (model prog w) A (draw (.ref it) n) Q E s
 |0,i,s,Q,hit,_,_,hQ=>wP (hQ s.heap hit (Heap.SameBut.refl _ _):)
 |n+1,i,s,Q,hit,hl,hle,hQ=>by
   have hlt:i<aX.size:=by omega
   show zq _ _ (yu (.ref it) >>= _) Q E s;refine wB (vk hit hl (x:=aX[i]) (by simp[hlt]) λ h1 hit1 hs1=>?_);refine wB (xq (aHF hne n (i+1) _ _ hit1 (hl.extBut hs1.extBut hne) (!_) λ h2 hit2 hs2=>wP ?_));have q:=hQ h2 (by rw[show i+(n+1)=i+1+n by omega];exact hit2) (hs1.trans hs2);rw[yCt (hlt:),List.take_succ_cons] at q;exact q
end
def aOY{A:zy}{E:qj -> qy -> Prop}{s:qy}{x1}{Q:Unit->qy->Prop}(hh:A.handled=qx)(hl:s.heap.IsList t aX)(hn:(xz elts env).length=aX.size)(hstar:(xz elts env).findIdx? (·.1)=qx)(h:∀ h',Heap.ExtBut s.heap.objs.size s.heap h'->zq (model prog w) A (assignInOrder ((xz elts env).map (·.2)) aX.toList) Q E {s with heap:=h' }) :
 zq (model prog w) A (assign (.Tuple elts x1 pos) env (.ref t)) Q E s:=by
 have hlt:t≠s.heap.objs.size:=by let(o,ho,_):=hl;exact xAj (xAa ho)
 have hl1:∀ o,(s.heap.push o).IsList t aX:=λ o=>let ⟨u,hu,r⟩:=hl;(u,hpS _ hu,r,)
 rw[arm_assign_Tuple];refine wB (yw ?_);unfold unpack;rw[hn,hstar];refine wB (xq ?_);unfold unpackItems;refine wB ?_;unfold notIterableAtAll;refine wB (wu hl.typeIs slot_list_iter.lookup (wP ?_));simp only[yBa,if_false];refine wB (xq (wq hl ?_));refine wB (xq (aHF hlt aX.size 0 _ _ (_,xAd _ rfl,rfl,rfl,) (hl1 _) (!_) λ h1 hit1 hs1=>?_));rw[show yIe aX.size (List.drop 0 aX.toList)=aX.toList by rw[yFc];exact yCm (by simp)];rw[if_neg (by simp)];have hl2:h1.IsList t aX:=(hl1 _).extBut hs1.extBut hlt;refine wB (xq (wz hh hit1 hl2 (by simp) λ h2 he2=>?_));simp only[Option.isSome_none,yBa,if_false];exact wP (h h2 λ b o hb e=>he2 b o hb (hs1.extBut b o hb (hpS _ e)))
def aFr(K:FrG)(n:Nat)(t:jN):TG:=λ v σ H Q=>∃ a xs,v=.ref a/\(cN K H a xs\/cB K H a xs)/\↑xs=n/\t xs σ H Q
def aW3(hc:X.calm=true)(h:sF X es t)(hn:(xz es X.env).length=n)(hst:(xz es X.env).findIdx? (·.1)=qx):PG X (.Tuple es k pos) (aFr X.K n t):=by
 intro aB s σ H v u Q I r hw;let(a,xs,e1,hq,hl,hw):=hw;rcases hq with hq|hq
 .exact aVD hc h hn hst aB s σ H v u Q I r (a,xs,e1,hq,hl,hw,)
 .subst e1;cases r;let(aG,rv,pl,hz):=I.list hq;refine aOY (I.ok.hd hc) pl.isList (by simp[hn,<- hl,rv.length]) hst λ h' hx=>?_
  have I1:Inv X aB σ H {s with heap:=h' }:=I.kept (t':=s.toks) λ b o e=>hx b o (xAj (xAa e)) e
  exact h aB _ σ H xs _ Q I1 (rv:) hw
def aNR(K:FrG)(D:Ends)(F':Hp)(L':Lx)(H':Hp):Fl->Prop
 |.nx bD=>∀ σ',EnvR K F' L' bD σ'->D.nx σ' H'|.rt w=>∀ v,dW K F' L' w v->D.rt v H'|.bk bD=>∀ σ',EnvR K F' L' bD σ'->D.bk σ' H'|.ct bD=>∀ σ',EnvR K F' L' bD σ'->D.ct σ' H'
def lV{f:FS}{D:Ends}(R:Rel K F L S H)(E:EnvR K F L env σ)(e:f env S=qz (fl,S'))(q:∀ F' L' H',Gr F L F' L'->Rel K F' L' S' H'->aNR K D F' L' H' fl):dL K f D σ H:=⟨F,L,S,env,fl,S',R,E,e,λ F' L' H' g R'=>by
 have:=q F' L' H' g R';cases fl<;>exact this⟩
def kK{f:FS}{D:Ends}{σ:St}{H:Hp}(h:dL K f D σ H):∃ F L S env fl S',Rel K F L S H/\EnvR K F L env σ/\f env S=qz (fl,S')/\∀ F' L' H',Gr F L F' L'->Rel K F' L' S' H'->aNR K D F' L' H' fl:=by
 let(F,L,S,env,fl,S',R,E,e,q):=h;exact⟨F,L,S,env,fl,S',R,E,e,λ F' L' H' g R'=>by
  have:=q F' L' H' g R';cases fl<;>exact this⟩
def uB:FS:=λ env S=>qz (.nx env,S)
def aW8:dM X [] (dL X.K uB):=dM.weak aJN λ D σ H h=>by
 let(F,L,S,env,fl,S',R,E,e,q):=kK h;cases e;exact q F L H Gr.refl R σ E
def iC(fa fb:FS):FS:=λ env S=>(fa env S).bind λ p=>match p.1 with|.nx e=>fb e p.2|fl=>qz (fl,p.2)
def aYS{fa fb:FS}(ha:PS X a (dL X.K fa))(hb:dM X b (dL X.K fb)):dM X (a::b) (dL X.K (iC fa fb)):=dM.weak (aIs ha hb) λ D σ H h=>by
 let(F,L,S,env,fl,S',R,E,e,q):=kK h;let((f1,S1),e1,e2):=aM e;cases f1 with
 |nx e'=>exact lV R E e1 λ F1 L1 H1 g1 R1 σ1 E1=>lV R1 E1 e2 λ F2 L2 H2 g2 R2=>q F2 L2 H2 (g1.trans g2) R2|rt w=>cases e2;exact lV R E e1 λ F1 L1 H1 g1 R1=>q F1 L1 H1 g1 R1|bk e'=>cases e2;exact lV R E e1 λ F1 L1 H1 g1 R1=>q F1 L1 H1 g1 R1|ct e'=>cases e2;exact lV R E e1 λ F1 L1 H1 g1 R1=>q F1 L1 H1 g1 R1
def xJ(fa:FE):FS:=λ env S=>(fa env S).bind λ p=>qz (.nx env,p.2)
def aWY{pos:Pos}{fa:FE}(h:PE X e (aS X.K fa))(hs:swapsWith e qx pos.line X.env=pure false):PS X (.Expr e pos) (dL X.K (xJ fa)):=PS.weak (aSW h hs) λ D σ H h=>by
 let(F,L,S,env,fl,S',R,E,e,q):=kK h;let((w,S1),e1,e2):=aM e;cases e2;exact(F,L,S,env,w,_,R,E,e1,λ F1 L1 H1 v g1 R1 d1=>q F1 L1 H1 g1 R1 σ (E.mono g1),)
def pV(fa:FE):FS:=λ env S=>(fa env S).bind λ p=>qz (.rt p.1,p.2)
def aYg{fa:FE}(h:PE X e (aS X.K fa)):PS X (.Return (qz e) pos) (dL X.K (pV fa)):=PS.weak (aWO h) λ D σ H h=>by
 let(F,L,S,env,fl,S',R,E,e,q):=kK h;let((w,S1),e1,e2):=aM e;cases e2;exact(F,L,S,env,w,_,R,E,e1,λ F1 L1 H1 v g1 R1 d1=>q F1 L1 H1 g1 R1 v d1,)
def aXy:FS:=λ env S=>qz (.rt (.d .none),S)
def oN(fc:FT)(fa fb:FS):FS:=λ env S=>(fc env S).bind λ p=>if p.1=true then fa env p.2 else fb env p.2
def bAh{fc:FT}{fa fb:FS}(hc:PT X c (fY X.K fc))(ha:dM X a (dL X.K fa))(hb:dM X b (dL X.K fb)):PS X (.If c a b pos) (dL X.K (oN fc fa fb)):=PS.weak (aXC hc ha hb) λ D σ H h=>by
 let(F,L,S,env,fl,S',R,E,e,q):=kK h;let((c,S1),e1,e2):=aM e;refine(F,L,S,env,c,S1,R,E,e1,λ F1 L1 H1 g1 R1=>?_,);cases c with
 |true=>exact uV (lV R1 (E.mono g1) (e2:) λ F2 L2 H2 g2 R2=>q F2 L2 H2 (g1.trans g2) R2)|false=>exact uR (lV R1 (E.mono g1) (e2:) λ F2 L2 H2 g2 R2=>q F2 L2 H2 (g1.trans g2) R2)
def kU(i:Nat)(fa:FE):FS:=λ env S=>(fa env S).bind λ p=>qz (.nx (env.set i (qz p.1)),p.2)
def aL2{fa:FE}(D:Ends)(σ:St)(H:Hp)(h:dL K (kU i fa) D σ H):zC (aS K fa) (pK i) D σ H:=by let(F,L,S,env,fl,S',R,E,e,q):=kK h;let((w,S1),e1,e2):=aM e;cases e2;exact(F,L,S,env,w,_,R,E,e1,λ F1 L1 H1 v g1 R1 d1=>q F1 L1 H1 g1 R1 _ ((E.mono g1).set i d1),)
def aMF{pos:Pos}{fa:FE}(hN:X.N.Nodup)(hi:X.N[i]?=qz x)(hx:Loc X.env.scope x)(he:PE X e (aS X.K fa))(hs:swapsWith e (qz (.Name x pos')) pos.line X.env=pure false)(hf:X.fn x=true\/X.env.scope.names.lookup x=qz .local) :
 PS X (.Assign [.Name x pos'] e pos) (dL X.K (kU i fa)):=PS.weak (aWG hN hi hx he hs hf) aL2
def nF:List Nat->List D->bB->Option bB
 |[],[],env=>qz env|i::is,d::ds,env=>nF is ds (env.set i (qz (.d d)))|_,_,_=>qx
inductive Tg where
 |one (i:Nat)|many (is:List Nat)
def Tg.put:Tg->D->bB->Option bB
 |.one i,d,env=>qz (env.set i (qz (.d d)))|.many is,.tuple ds,env=>nF is ds env|.many is,.list ds,env=>nF is ds env|.many _,_,_=>qx
def GA(K:FrG)(t:Tg)(g:TG):Prop:=∀ (d:D) (x:V) (σ:St) (H F:Hp) (L:Lx) (S:aD) (env bD:bB) (Q:St->Hp->Prop),
 Rel K F L S H->EnvR K F L env σ->Den K F d x->t.put d env=qz bD->(∀ σ',EnvR K F L bD σ'->Q σ' H)->g x σ H Q
def aUL(i:Nat):GA K (.one i) (pK i):=λ d x σ H F L S env bD Q R E dn e q=>by
 cases e;exact q _ (E.set i (w:=.d d) dn)
def zW(K:FrG)(is:List Nat)(g:jN):Prop:=∀ (ds:List D) (xs:List V) (σ:St) (H F:Hp) (L:Lx) (S:aD) (env bD:bB) (Q:St->Hp->Prop),
 Rel K F L S H->EnvR K F L env σ->DenL K F ds xs->nF is ds env=qz bD->(∀ σ',EnvR K F L bD σ'->Q σ' H)->g xs σ H Q
def aTe:zW K [] aFm:=λ ds xs σ H F L S env bD Q R E dn e q=>by
 cases dn with
 |nil=>cases e;exact(rfl,q σ E,)|cons _ _=>cases e
def aQ4(h:zW K is g):zW K (i::is) (aFd (pK i) g):=λ ds xs σ H F L S env bD Q R E dn e q=>by
 cases dn with
 |nil=>cases e|cons d1 dr=>exact(_,_,rfl,h _ _ _ H F L S _ bD Q R (E.set i (w:=.d _) d1) dr e q,)
def aCW:∀ {is:List Nat}{ds:List D}{env bD:bB},nF is ds env=qz bD->↑is=↑ds
 |[],[],_,_,_=>rfl|_::is,_::ds,_,_,e=>congrArg (· + 1) (@aCW is ds _ _ e)|[],_::_,_,_,e=>by cases e|_::_,[],_,_,e=>by cases e
def aSw(h:zW K is g):GA K (.many is) (aFr K ↑is g):=λ d x σ H F L S env bD Q R E dn e q=>by
 cases d with
 |tuple ds=>
   cases dn with
   |tup sq dl=>exact(_,_,rfl,.inl (nK R.sub sq),by rw[<- dl.length];exact(aCW e).symm,h _ _ σ H F L S env bD Q R E dl e q,)
 |list ds=>
   cases dn with
   |lst sq dl=>exact(_,_,rfl,.inr (R.sub.seq sq),by rw[<- dl.length];exact(aCW e).symm,h _ _ σ H F L S env bD Q R E dl e q,)
 |_=>cases e
def xM(t:Tg)(fa:FE):FS:=λ env S=>(fa env S).bind λ p=>match p.1 with|.d d=>(t.put d env).bind λ e=>qz (.nx e,p.2)|_=>qx
def aUq{fa:FE}(hg:GA K t g)(D:Ends)(σ:St)(H:Hp)(h:dL K (xM t fa) D σ H):zC (aS K fa) g D σ H:=by
 let(F,L,S,env,fl,S',R,E,e,q):=kK h;let((w,S1),e1,e2):=aM e;dsimp only at e2;split at e2
 .let(e',e3,e4):=aM e2;cases e4;exact(F,L,S,env,_,_,R,E,e1,λ F1 L1 H1 v g1 R1 d1=>hg _ v σ H1 F1 L1 _ env e' _ R1 (E.mono g1) d1 e3 λ σ' E'=>q F1 L1 H1 g1 R1 σ' E',)
 .cases e2
def nM(S:aD):W->W->W->Option aD
 |.loc n,.d (.int k),.d x=>match S[n]? with
   |some (qz ds)=>(lB ↑ds k).bind λ j=>qz (S.set n (qz (ds.set j x)))|_=>qx
 |_,_,_=>qx
def zH(fo fi fe:FE):FS:=λ env S=>(fe env S).bind λ p=>(fo env p.2).bind λ q=>(fi env q.2).bind λ r=>(nM r.2 q.1 r.1 p.1).bind λ S'=>qz (.nx env,S')
def aPi(h:nM S o i x=qz S'):∃ n k d ds j,o=.loc n/\i=.d (.int k)/\x=.d d/\S[n]?=qz (qz ds)/\lB ↑ds k=qz j/\S'=S.set n (qz (ds.set j d)):=by
 unfold nM at h;split at h
 .split at h
  .rename_i ds e;let(j,e1,e2):=aM h;cases e2;exact(_,_,_,ds,j,rfl,rfl,rfl,e,e1,rfl,)
  .cases h
 .cases h
def aXm{fo fi fe:FE}(D:Ends)(σ:St)(H:Hp)(h:dL K (zH fo fi fe) D σ H):zC (aS K fe) (aNK (aS K fo) (aS K fi) aM2) D σ H:=by
 let(F,L,S,env,fl,S',R,E,e,q):=kK h;let((we,S1),e1,e):=aM e;let((wo,S2),e2,e):=aM e;let((wi,S3),e3,e):=aM e;let(S4,e4,e):=aM e;cases e;let(n,k,d,ds,j,rfl,rfl,rfl,e5,e6,rfl):=aPi e4;refine(F,L,S,env,_,S1,R,E,e1,λ F1 L1 H1 v g1 R1 d1=>(F1,L1,S1,env,_,S2,R1,E.mono g1,e2,λ F2 L2 H2 o g2 R2 d2=>(F2,L2,S2,env,_,S3,R2,E.mono (g1.trans g2),e3,λ F3 L3 H3 i g3 R3 d3=>?_,),),);let(a,ea,rfl):=d2.mono g3;let(fa,xs,ha,dl):=R3.loc n a ds ea e5;have hi:i=.int k:=by cases (show Den K F3 (.int k) i from d3);rfl
 refine(a,xs,k,j,rfl,hi,ha,by rw[<- dl.length];exact e6,?_,);exact q F3 L3 _ ((g1.trans g2).trans g3) (R3.put ea fa (dl.set j (show Den K F3 d v from d1.mono (g2.trans g3)))) σ (E.mono ((g1.trans g2).trans g3))
def aYj{pos:Pos}{fo fi fe:FE}(ho:PE X o (aS X.K fo))(hi:PE X i (aS X.K fi))(he:PE X e (aS X.K fe))(ha:∀ v,assign (.Subscript o i pos') X.env v=(do
 let ov <- holding [v] (eval o X.env);let iv <- holding [v,ov] (eval i X.env)
 standAt pos'
 holding [v,ov,iv] (setItem ov iv v)
 release [v,ov,iv] []))(hs:swapsWithSole [.Subscript o i pos'] e pos.line X.env=pure false)(hw:yv [.Subscript o i pos'] e X.env=pure qx):PS X (.Assign [.Subscript o i pos'] e pos) (dL X.K (zH fo fi fe)):=
 PS.weak (aKx he (aWN ho hi aR3 ha) hs hw) aXm
def uK(S:aD)(n:Nat)(x:D):Option (W×aD):=match S[n]? with
 |some (qz ds)=>if ↑ds<qo then qz (.d .none,S.set n (qz (ds++[x]))) else qx
 |_=>qx
def dO(S:aD):W->W->Option (W×aD)
 |.loc n,.d x=>match S[n]? with
   |some (qz ds)=>if ↑ds<qo then qz (.d .none,S.set n (qz (ds++[x]))) else qx
   |_=>qx
 |.loc n,.tpl ws=>(fL ws).bind λ l=>uK S n (.tuple l)|_,_=>qx
def aH4(h:uK S n d=qz (w,S')):∃ ds,S[n]?=qz (qz ds)/\↑ds<qo/\w=.d .none/\S'=S.set n (qz (ds++[d])):=by
 unfold uK at h;split at h
 .rename_i ds e;split at h
  .rename_i hz;cases h;exact(ds,e,hz,rfl,rfl,)
  .cases h
 .cases h
def aH3(h:dO S o x=qz (w,S')):∃ n d ds,o=.loc n/\wd x=qz d/\S[n]?=qz (qz ds)/\↑ds<qo/\w=.d .none/\S'=S.set n (qz (ds++[d])):=by
 cases o with
 |loc n=>
   cases x with
   |d x=>
     let(ds,h1,h2,h3,h4):=@aH4 _ n x _ _ h;exact(n,x,ds,rfl,rfl,h1,h2,h3,h4,)
   |tpl ws=>
     let(l,e,h):=aM (show(fL ws).bind (λ l=>uK S n (.tuple l))=qz (w,S') from h);let(ds,h1,h2,h3,h4):=aH4 h;exact(n,_,ds,rfl,by rw[wd,e];rfl,h1,h2,h3,h4,)
   |_=>cases h
 |_=>cases x<;>cases h
def rN(fo fe:FE):FE:=f2 fo fe dO
def uA{fo fe:FE}(σ:St)(H:Hp)(Q:VK)(h:aS K (rN fo fe) σ H Q):tBM K "list" aJi (aS K fo) (eN K (dF fe iE)) σ H Q:=by
 let(F,L,S,env,w,S',R,E,e,q):=h;let((wo,S1),e1,e):=aM e;let((we,S2),e2,e):=aM e;let(n,d,ds,rfl,ed,e5,hz,rfl,rfl):=aH3 e;refine(F,L,S,env,_,S1,R,E,e1,λ F1 L1 H1 o g1 R1 d1=>?_,);let(a,ea,rfl):=d1;refine(.inl (rfl,?_,),F1,L1,S1,env,[we],S2,R1,E.mono g1,?_,λ F2 L2 H2 vs g2 R2 d2=>?_,)
 .let(xs,hx):=R1.trl ea;exact(xs,cB.of hx,)
 .unfold dF;rw[e2];rfl
 .cases d2 with
  |cons dd dr=>
    cases dr;have ea2:=g2.get ea;let(fa,xs,ha,dl):=R2.loc n a ds ea2 e5;exact(a,xs,_,rfl,rfl,ha,by rw[<- dl.length];exact hz,q F2 L2 _ _ (g1.trans g2) (R2.put ea2 fa (dl.append (.cons (aBd dd ed) .nil))) Den.non,)
def lG(fc:FT)(fb:FS):Nat->FS
 |0=>λ _ _=>qx
 | n+1=>λ env S=>(fc env S).bind λ p=>if p.1=true then (fb env p.2).bind λ q=>(match q.1 with
    |.nx e=>lG fc fb n e q.2|.ct e=>lG fc fb n e q.2|.bk e=>qz (.nx e,q.2)
    | .rt w=>qz (.rt w,q.2)) else qz (.nx env,p.2)
def bAi{fc:FT}{fb:FS}(n:Nat)(hp:PassesOwn (model X.prog X.w) X.A X.env X.xe)(hc:PT X c (fY X.K fc))(hb:dM X b (dL X.K fb)):PS X (.While c b [] pos) (dL X.K (lG fc fb n)):=
 PS.weak (aQ8 hp hc hb) λ D σ H h=>by
 let(F,L,S,env,fl,S',R,E,e,q):=kK h;refine(λ m σ1 H1=>∃ F1 L1 S1 env1,Gr F L F1 L1/\Rel X.K F1 L1 S1 H1/\EnvR X.K F1 L1 env1 σ1/\lG fc fb m env1 S1=qz (fl,S'),⟨n,F,L,S,env,Gr.refl,R,E,e⟩,?_,);rintro m σ1 H1 ⟨F1,L1,S1,env1,g1,R1,E1,e1⟩;cases m with
 |zero=>cases e1
 |succ m=>
   let((c,S2),e2,e3):=aM e1;refine(F1,L1,S1,env1,c,S2,R1,E1,e2,λ F2 L2 H2 g2 R2=>?_,);dsimp only at e3;cases c with
   |false=>
     have e4:qz (Fl.nx env1,S2)=qz (fl,S'):=(e3:)
     cases e4;exact uR (q F2 L2 H2 (g1.trans g2) R2 σ1 (E1.mono g2))
   |true=>
     refine uV (λ σ3 H3=>∃ F3 L3 S3 env3,Gr F L F3 L3/\Rel X.K F3 L3 S3 H3/\EnvR X.K F3 L3 env3 σ3/\lG fc fb m env3 S3=qz (fl,S'),λ σ3 H3 h3=>(m,yDd m,h3,),?_,);rw[if_pos rfl] at e3;let((f5,S5),e5,e6):=aM e3;refine lV R2 (E1.mono g2) e5 λ F3 L3 H3 g3 R3=>?_
     cases f5 with
     |nx e'=>exact λ σ3 E3=>(F3,L3,S5,e',(g1.trans g2).trans g3,R3,E3,e6,)|ct e'=>exact λ σ3 E3=>(F3,L3,S5,e',(g1.trans g2).trans g3,R3,E3,e6,)|bk e'=>cases e6;exact λ σ3 E3=>q F3 L3 H3 ((g1.trans g2).trans g3) R3 σ3 E3|rt w=>cases e6;exact λ v d=>q F3 L3 H3 ((g1.trans g2).trans g3) R3 v d
structure Wk(K:FrG)(F:Hp)(L:Lx)(J:It)(ds:List D):Prop where
 go:∀ (i:Nat) (H:Hp),cD F H->i<↑ds->J.go i H
 stop:∀ (H:Hp),cD F H->J.stop ↑ds H
 yld:∀ (i:Nat) (H F1:Hp) (L1:Lx) (S:aD) (x:V) (H':Hp) (d:D),Gr F L F1 L1->Rel K F1 L1 S H->ds[i]?=qz d->J.yld i H x H'->∃ F2,cD F1 F2/\Rel K F2 L1 S H'/\Den K F2 d x
def jM(K:FrG)(f:FL):TI:=λ σ H R=>∃ F L S env ds S',Rel K F L S H/\EnvR K F L env σ/\f env S=qz (ds,S')/\∀ F' L' H' J,Gr F L F' L'->Rel K F' L' S' H'->Wk K F' L' J ds->R J H'
def PI.weak{t t':TI}(h:PI X tg iter t)(w:∀ σ H R,t' σ H R->t σ H R):PI X tg iter t':=λ aB s σ H R I q=>h aB s σ H R I (w σ H R q)
def aTu{xs:List V}(sq:cB K F a xs)(dl:DenL K F ds xs):Wk K F L (Itl K a) ds where
 go:=λ i H s hi=>(xs,xs[i]'(by rw[<- dl.length];exact hi),s.seq sq,by simp_all,)
 stop:=λ H s=>(xs,s.seq sq,yIc dl.length.symm,)
 yld:=λ i H F1 L1 S x H' d g R e y=>by
  let(e1,y):=y;subst e1;have h:=y xs ((g.f.trans R.sub).seq sq);let(x',e2,dx):=dl.get e;rw[h] at e2;cases e2;exact(F1,cD.refl _,R,dx.mono g.f,)
def aVJ{xs:List V}(sq:cN K F a xs)(dl:DenL K F ds xs):Wk K F L (Itt K a) ds where
 go:=λ i H s hi=>(xs,xs[i]'(by rw[<- dl.length];exact hi),nK s sq,by simp_all,)
 stop:=λ H s=>(xs,nK s sq,yIc dl.length.symm,)
 yld:=λ i H F1 L1 S x H' d g R e y=>by
  let(e1,y):=y;subst e1;have h:=y xs (nK (g.f.trans R.sub) sq);let(x',e2,dx):=dl.get e;rw[h] at e2;cases e2;exact(F1,cD.refl _,R,dx.mono g.f,)
def kY(lo:Int):Nat->List D
 |0=>[]|n+1=>.int lo::kY (lo+1) n
def aCR(n:Nat):∀ lo:Int,(kY lo n).length=n:=by
 induction n with
 |zero=>intro lo;rfl|succ n ih=>intro lo;simp[kY,ih]
def aIt:∀ (n:Nat) (lo:Int) (i:Nat),i<n->(kY lo n)[i]?=qz (.int (lo+i))
 |0,_,_,h=>by omega|n+1,lo,0,_=>by simp[kY]
 |n+1,lo,i+1,h=>by
   rw[kY,yBp,aIt n (lo+1) i (!_)];congr 2
   push_cast
   omega
def aIe(lo:Int)(n:Nat):Wk K F L (Itr lo n) (kY lo n) where
 go:=λ i H s hi=>by rw[aCR] at hi;exact hi
 stop:=λ H s=>by rw[aCR];exact yAc _
 yld:=λ i H F1 L1 S x H' d g R e y=>by
  let(rfl,rfl):=y;have hi:i<n:=by
   have:=(gIm e).1;rw[aCR] at this;exact this
  rw[aIt n lo i hi] at e;cases e;exact(F1,cD.refl _,R,.int _,)
def aNA(fa:FE):FL:=λ env S=>(fa env S).bind λ p=>match p.1 with|.d (.list ds)=>qz (ds,p.2)|_=>qx
def aNQ(fa:FE):FL:=λ env S=>(fa env S).bind λ p=>match p.1 with|.d (.tuple ds)=>qz (ds,p.2)|_=>qx
def aXl{fa:FE}(ha:PE X a (aS X.K fa)):PI X tg a (jM X.K (aNA fa)):=PI.weak (aTJ ha) λ σ H Rr aW=>by
 let(F,L,S,env,ds,S',R,E,e,q):=aW;let((w,S1),e1,e2):=aM e;dsimp only at e2;split at e2
 .cases e2;refine(F,L,S,env,_,_,R,E,e1,λ F1 L1 H1 v g1 R1 d1=>?_,);cases (show Den X.K F1 (.list ds) v from d1) with
  |lst sq dl=>exact(_,rfl,(_,R1.sub.seq sq,),q F1 L1 H1 _ g1 R1 (aTu sq dl),)
 .cases e2
def aXs{fa:FE}(ha:PE X a (aS X.K fa)):PI X tg a (jM X.K (aNQ fa)):=PI.weak (aWJ ha) λ σ H Rr aW=>by
 let(F,L,S,env,ds,S',R,E,e,q):=aW;let((w,S1),e1,e2):=aM e;dsimp only at e2;split at e2
 .cases e2;refine(F,L,S,env,_,_,R,E,e1,λ F1 L1 H1 v g1 R1 d1=>?_,);cases (show Den X.K F1 (.tuple ds) v from d1) with
  |tup sq dl=>exact(_,rfl,(_,nK R1.sub sq,),q F1 L1 H1 _ g1 R1 (aVJ sq dl),)
 .cases e2
def yF(fa:FE):FL:=λ env S=>(fa env S).bind λ p=>match p.1 with
 |.d (.int j)=>if -(2^62)<=j/\j<2^62 then qz (kY 0 j.toNat,p.2) else qx
 |_=>qx
def yB(fa fb:FE):FL:=λ env S=>(fa env S).bind λ p=>(fb env p.2).bind λ q=>match p.1,q.1 with
 |.d (.int i),.d (.int j)=>if (-(2^62)<=i/\i<2^62 /\ -(2^62)<=j/\j<2^62) then qz (kY i (j-i).toNat,q.2) else qx
 |_,_=>qx
def aVN{fa:FE}(σ:St)(H:Hp)(Rr:It->Hp->Prop)(h:jM K (yF fa) σ H Rr):aM1 (eN K (dF fa iE)) σ H Rr:=by
 let(F,L,S,env,ds,S',R,E,e,q):=h;let((w,S1),e1,e2):=aM e;dsimp only at e2;split at e2
 .split at e2
  .rename_i j c;cases e2;refine(F,L,S,env,[.d (.int j)],_,R,E,by unfold dF;rw[e1];rfl,λ F1 L1 H1 vs g1 R1 d1=>?_,);cases d1 with
   |cons dd dr=>
     cases dr;cases (show Den K F1 (.int j) _ from dd);exact(j,rfl,c.1,c.2,q F1 L1 H1 _ g1 R1 (aIe 0 j.toNat),)
  .cases e2
 .cases e2
def aWr{fa fb:FE}(σ:St)(H:Hp)(Rr:It->Hp->Prop)(h:jM K (yB fa fb) σ H Rr):aLX (eN K (dF fa (dF fb iE))) σ H Rr:=by
 let(F,L,S,env,ds,S',R,E,e,q):=h;let((w,S1),e1,e2):=aM e;let((w2,S2),e3,e4):=aM e2;dsimp only at e4;split at e4
 .split at e4
  .rename_i i j _ _ c;cases e4;refine(F,L,S,env,[.d (.int _),.d (.int _)],_,R,E,by unfold dF;rw[e1];dsimp only[yDn];rw[e3];rfl,λ F1 L1 H1 vs g1 R1 d1=>?_,);cases d1 with
   |cons dd dr=>
     cases dr with
     |cons dd2 dr=>
       cases dr;cases (show Den K F1 (.int _) _ from dd);cases (show Den K F1 (.int _) _ from dd2);exact(_,_,rfl,c,q F1 L1 H1 _ g1 R1 (aIe _ _),)
  .cases e4
 .cases e4
def mH(t:Tg)(fb:FS):List D->FS
 |[]=>λ env S=>qz (.nx env,S)
 | d::ds=>λ env S=>(t.put d env).bind λ e1=>(fb e1 S).bind λ q=>(match q.1 with
    |.nx e=>mH t fb ds e q.2|.ct e=>mH t fb ds e q.2|.bk e=>qz (.nx e,q.2)
    | .rt w=>qz (.rt w,q.2))
def lA(t:Tg)(fi:FL)(fb:FS):FS:=λ env S=>(fi env S).bind λ p=>mH t fb p.1 env p.2
def aXj{fi:FL}{fb:FS}(hp:PassesOwn (model X.prog X.w) X.A X.env X.xe)(hc:X.calm=true)(hi:PI X tg iter (jM X.K fi))(hg:PG X tg g)(ga:GA X.K t g)(hb:dM X b (dL X.K fb))(hs:∀ x,jq iter X.env x=pure x):PS X (.For tg iter b [] pos) (dL X.K (lA t fi fb)):=PS.weak (aUX hp hc hi hg hb hs) λ D σ H h=>by
 let(F,L,S,env,fl,S',R,E,e,q):=kK h;let((ds,S1),e1,e2):=aM e;refine(F,L,S,env,ds,S1,R,E,e1,λ F0 L0 H0 J g0 R0 wk=>?_,)
 dsimp only at e2;refine⟨λ i m σ1 H1=>i+m=↑ds/\∃ F1 L1 S1 env1,Gr F0 L0 F1 L1/\Rel X.K F1 L1 S1 H1/\EnvR X.K F1 L1 env1 σ1/\mH t fb (ds.drop i) env1 S1=qz (fl,S'),
  (↑ds,yBz _,F0,L0,S1,env,Gr.refl,R0,E.mono g0,by rw[yFc];exact e2,),?_⟩
 rintro i m σ1 H1 ⟨him,F1,L1,S1',env1,g1,R1,E1,e3⟩;cases m with
 |zero=>
   have hi:i=↑ds:=by omega
   subst hi;rw[yGj] at e3;cases e3;exact .inl (wk.stop H1 (g1.f.trans R1.sub),q F1 L1 H1 (g0.trans g1) R1 σ1 E1,)
 |succ m=>
   have hi:i<↑ds:=by omega
   refine .inr ⟨wk.go i H1 (g1.f.trans R1.sub) hi,λ σ3 H3=>∃ F3 L3 S3 env3,Gr F0 L0 F3 L3/\Rel X.K F3 L3 S3 H3/\EnvR X.K F3 L3 env3 σ3/\mH t fb (ds.drop (i+1)) env3 S3=qz (fl,S'),
    λ σ3 H3 h3=>(m,yDd m,by omega,h3,),λ x H2 y=>?_⟩
   rw[yCt hi] at e3;let(env2,e4,e5):=aM e3;let((f6,S6),e6,e7):=aM e5;let(F2,s2,R2,d2):=wk.yld i H1 F1 L1 S1' x H2 ds[i] g1 R1 (yAb hi) y;have g2:Gr F1 L1 F2 L1:=(s2,[],by simp,);refine ga ds[i] x σ1 H2 F2 L1 S1' env1 env2 _ R2 (E1.mono g2) d2 e4 λ σ2 E2=>?_
   refine lV R2 E2 e6 λ F3 L3 H3 g3 R3=>?_
   have g03:=(g1.trans g2).trans g3;cases f6 with
   |nx e'=>exact λ σ3 E3=>(F3,L3,S6,e',g03,R3,E3,e7,)|ct e'=>exact λ σ3 E3=>(F3,L3,S6,e',g03,R3,E3,e7,)|bk e'=>cases e7;exact λ σ3 E3=>q F3 L3 H3 (g0.trans g03) R3 σ3 E3|rt w=>cases e7;exact λ v d=>q F3 L3 H3 (g0.trans g03) R3 v d
def rO(k:Nat):aD->List W0->Option (List W0×aD)
 |S,[]=>qz ([],S)|S,.d x::r=>(rO k S r).map λ p=>(.d x::p.1,p.2)
 |S,.loc m::r=>if m<k then (rO k S r).map λ p=>(.loc m::p.1,p.2) else match S[m]? with
   |some (qz ds)=>(rO k (S.set m qx) r).map λ p=>(.d (.list ds)::p.1,p.2)|_=>qx
 |_,.dic _::_=>qx
def pR(k:Nat)(S:aD):W->Option (W×aD)
 |.d x=>qz (.d x,S.take k)
 |.loc m=>if m<k then qz (.loc m,S.take k) else match S[m]? with
   |some (qz ds)=>qz (.d (.list ds),S.take k)|_=>qx
 |.exc c r=>qz (.exc c r,S.take k)|.tpl ws=>(rO k S ws).map λ p=>(.tpl p.1,p.2.take k)|_=>qx
def map_some{α β:Type}{o:Option α}{f:α->β}{b:β}(h:o.map f=qz b):∃ a,o=qz a/\f a=b:=by simp_all
def aA2:∀ {ws:List W0}{vs:List V}{F:Hp}{S:aD}{ws':List W0}{S':aD},Rel K F (L++M) S H->rS K F (L++M) ws vs->rO ↑L S ws=qz (ws',S')->∃ F',cD F F'/\Rel K F' (L++M) S' H/\rS K F' L ws' vs/\S'.take ↑L=S.take ↑L
 |[],_,F,S,ws',S',R,.nil,e=>by cases e;exact(F,cD.refl _,R,.nil,rfl,)
 |.d x::r,_,F,S,ws',S',R,.cons h t,e=>by
   let((u,S1),e1,e2):=map_some e;cases e2;let(F',sf,R',d,z):=aA2 R t e1;exact(F',sf,R',.cons (Den.mono sf h) d,z,)
 |.loc m::r,_,F,S,ws',S',R,.cons h t,e=>by
   unfold rO at e;let(a,ea,rfl):=h;split at e
   .rename_i hm;let((u,S1),e1,e2):=map_some e;cases e2;let(F',sf,R',d,z):=aA2 R t e1;rw[xAm hm] at ea;exact(F',sf,R',.cons (a,ea,rfl,) d,z,)
   .rename_i hm;split at e
    .rename_i ds es;let((u,S1),e1,e2):=map_some e;cases e2;let(F2,g2,R2,d2):=R.freeze ea es;let(F',sf,R',d,z):=aA2 R2 (L2.Paired.mapP t λ _ _ q=>q.mono g2) e1;refine(F',g2.f.trans sf,R',.cons (Den.mono sf d2) d,z.trans ?_,);rw[List.take_set,yDb (by rw[yBg];omega)]
    .cases e
 |.dic m::r,_,F,S,ws',S',R,.cons h t,e=>by cases e
def gW(fb:FS)(n:Nat)(ws:List W)(S:aD):Option (W×aD):=(fb (ws.map qz++yAf (n-↑ws) qx) S).bind λ p=>match p.1 with|.rt w=>pR ↑S p.2 w|.nx _=>qz (.d .none,p.2.take ↑S)|_=>qx
def aPq{N:List Str}:∀ {ws:List W}{vs:List V},WDenL K F L ws vs->EnvR K F L (ws.map qz++yAf (N.length-↑ws) qx) (L2.start N vs):=by
 intro ws vs h;unfold L2.start;rw[h.length];generalize N.length-↑vs=k;refine(by simp[h.length],?_,)
 induction h with
 |nil=>
   intro i w e;have:=xAk e;simp at this
 |cons hd tl ih=>
   intro i w e;cases i with
   |zero=>simp at e;subst e;exact(_,rfl,hd,)
   |succ i=>
     let(v,e1,d):=ih i w (e:);exact(v,by simpa using e1,d,)
def aKT{F1:Hp}{L:Lx}{S:aD}{Q:VK}(R:↑L=↑S)(g:Gr F L F1 L1)(R1:Rel K F1 L1 S1 H1)(d:dW K F1 L1 w v)(e:pR ↑S S1 w=qz (w',S'))(q:uH K F L S' w' Q):Q v H1:=by
 let(sf,M,rfl):=g;cases w with
 |d x=>
   cases e;have R2:=R1.cut;rw[R] at R2;exact q F1 L H1 v (sf,[],by simp,) R2 d
 |exc c r=>
   cases e;have R2:=R1.cut;rw[R] at R2;exact q F1 L H1 v (sf,[],by simp,) R2 d
 |dic n=>cases e|ob fs=>cases e
 |tpl ws=>
   let((u,S2),e1,e2):=map_some (show(rO ↑S S1 ws).map (λ p=>(W.tpl p.1,p.2.take ↑S))=qz (w',S') from e);cases e2;let(a,vs,rfl,h1,h2):=d;rw[<- R] at e1;let(F2,s2,R2,d2,z):=aA2 R1 h2 e1;have R3:=R2.cut;rw[R] at R3;exact q F2 L H1 _ (sf.trans s2,[],by simp,) R3 (a,vs,rfl,s2 _ _ h1,d2,)
 |loc m=>
   have e':(if m<↑S then qz (W.loc m,S1.take ↑S) else match S1[m]? with|some (qz ds)=>qz (W.d (.list ds),S1.take ↑S)|_=>qx)=qz (w',S'):=e;split at e'
   .rename_i hm;cases e';have R2:=R1.cut;rw[R] at R2;let(a,ea,rfl):=d;rw[xAm (by rw[R];exact hm)] at ea;exact q F1 L H1 _ (sf,[],by simp,) R2 (a,ea,rfl,)
   .rename_i hm;split at e'
    .rename_i ds es;cases e';let(a,ea,rfl):=d;let(F2,g2,R2,d2):=R1.freeze ea es;have R3:=R2.cut;rw[R,List.take_set,yDb (by rw[yBg];omega)] at R3;exact q F2 L H1 _ (sf.trans g2.f,[],by simp,) R3 d2
    .cases e'
def aVP{fb:FS}{N:List Str}{Q:VK}{E:XK}(h:qH K np (gW fb N.length) vs H Q E):dL K fb {nx:=λ _ H'=>Q .non H',rt:=Q } (L2.start N vs) H:=by
 let(F,L,S,ws,w,S',hn,R,dl,e,q):=h;let((fl,S1),e1,e2):=aM e;refine lV R (aPq dl) e1 λ F1 L1 H1 g1 R1=>?_
 cases fl with
 |nx bD=>
   cases e2;exact λ σ' E'=>aKT (w:=.d .none) R.len g1 R1 Den.non rfl q
 |rt w'=>exact λ v d=>aKT R.len g1 R1 d e2 q|bk bD=>cases e2|ct bD=>cases e2
def aGP{α β:Type}{f:α->β->Sem (ForInStep β)}{g:α->β->β}:∀ (l:List α) (c:β),(∀ x∈l,∀ c,f x c=pure (ForInStep.yield (g x c)))->forIn l c f=pure (l.foldl (λ c x=>g x c) c)
 |[],c,_=>rfl
 |x::l,c,h=>by
   rw[List.forIn_cons,h x xAc c,pure_bind];exact aGP l (g x c) λ y hy=>h y (xAf _ hy)
def kP(env:Env)(x:Str×jy)(cs:List (Str×qk)):List (Str×qk):=if (x.2==NameKind.free)=true then (x.1,(env.cells.lookup x.1).getD 0)::cs else cs
def zF(scope:zk)(env:Env):List (Str×qk):=scope.names.foldl (λ c x=>kP env x c) []
def aPz{scope:zk}{env:Env}(h:∀ x∈scope.names,x.2=.free->∃ c,env.cells.lookup x.1=qz c):closureFor scope env=pure (zF scope env):=by
 unfold closureFor zF;dsimp only;rw[aGP (g:=kP env) scope.names [] (λ x hx c=>?_)]
 .rfl
 .let(n,k):=x;unfold kP;dsimp only;by_cases hk:k=.free
  .let(a,ha):=h (n,k) hx hk;rw[if_pos (by simp[hk]),if_pos (by simp[hk])];have:cellOf env n=pure a:=by unfold cellOf;rw[ha]
   rw[this,pure_bind,ha];rfl
  simp_all
def aIJ{env:Env}:∀ (l:List (Str×jy)) (aI:List (Str×qk)),(∀ x∈l,x.2=.free->∃ c,env.cells.lookup x.1=qz c)->(∀ x c,aI.lookup x=qz c->env.cells.lookup x=qz c) ->
 ∀ x c,(l.foldl (λ c x=>kP env x c) aI).lookup x=qz c->env.cells.lookup x=qz c
 |[],aI,_,ha,x,c,e=>ha x c e
 |y::l,aI,h,ha,x,c,e=>by
   refine aIJ l (kP env y aI) (λ z hz=>h z (xAf _ hz)) (λ z d ez=>?_) x c e;unfold kP at ez
   grind
def aEw:∀ (l:List (Str×jy)) (aI:List (Str×qk)) (x:Str),((∃ k,(x,k)∈l/\k=.free)\/∃ c,aI.lookup x=qz c)->∃ c,(l.foldl (λ c x=>kP env x c) aI).lookup x=qz c
 |[],aI,x,h=>by
   simp_all
 |y::l,aI,x,h=>by
   refine aEw l (kP env y aI) x ?_;have step:(∃ c,aI.lookup x=qz c)->∃ c,(kP env y aI).lookup x=qz c:=λ aW=>by
    let(c,e):=aW;unfold kP;split
    .rw[yCb];split
     .exact(_,rfl,)
     .exact(c,e,)
    .exact(c,e,)
   rcases h with ⟨k,hk,e⟩|h
   .rcases List.mem_cons.mp hk with z|z
    .right;subst z e;unfold kP;rw[if_pos (by simp)];simp_all
    .exact .inl (k,z,e,)
   .exact .inr (step h)
def aGS(h:Str->jy->jy):∀ l:List (Str×jy),(l.map λ p=>(p.1,h p.1 p.2)).lookup x=(l.lookup x).map (h x)
 |[]=>rfl
 |(n,k)::r=>by
   have ih:=@aGS x h r;rw[yAm,yCb,yCb];cases hx:x==n with
   |true=>
     have e:x=n:=(hx:)
     subst e;rfl
   |false=>exact ih
def aOl{env:Env}(names:List (Str×jy)) :
 (names.map λ(n,k)=>if (k==NameKind.free&&env.scope.kind==.function&&env.kindOf n==qz .cell) then (n,NameKind.cell) else (n,k)).lookup x =
   (names.lookup x).map λ k=>if (k==NameKind.free&&env.scope.kind==.function&&env.kindOf x==qz .cell) then NameKind.cell else k:=by
 have e:(λ(p:Str×jy)=>match p with|(n,k)=>if (k==NameKind.free&&env.scope.kind==.function&&env.kindOf n==qz .cell)=true then (n,NameKind.cell) else (n,k)) =
  λ p=>(p.1,if (p.2==NameKind.free&&env.scope.kind==.function&&env.kindOf p.1==qz .cell)=true then NameKind.cell else p.2):=funext λ aW=>by
  let(n,k):=aW;dsimp only;split<;>rfl
 rw[e];exact aGS (λ n k=>if (k==NameKind.free&&env.scope.kind==.function&&env.kindOf n==qz .cell)=true then NameKind.cell else k) names
def aOy{R:Result -> qy -> Prop}(I:Nat->qy->Prop)(turn:∀ n s,I n s->zq (model prog w) A (yu it) (λ r s₁=>match r with
   |none=>R (.ok .next) s₁
   | some v=>zq (model prog w) A (wj target it v) (λ _ s₀=>zq (model prog w) A (assign target env v) (λ _ s₂=>
      zq (model prog w) A (forIn ifs true λ c r=>if r=true then do let ok <- isTrue c env (eval c env);pure (ForInStep.yield ok) else pure (ForInStep.yield r)) (λ ok s₃=>
       if ok=true then zq (model prog w) A (eval elt env) (λ x s₄=>
        zq (model prog w) A (call (.builtin "list.append") [aI,x]) (λ _ s₅=>∃ m,m<n/\I m s₅) (λ _ _=>False) s₄) (λ _ _=>False) s₃
       else ∃ m,m<n/\I m s₃) (λ _ _=>False) s₂) (λ _ _=>False) s₀) (λ _ _=>False) s₁) (λ _ _=>False) s)(n:Nat)(h:I n s):jo (model prog w) A (.compLoop (.ListComp elt [(target,iter,ifs,0,)] scope pos) 0 it aI env) R s:=by
 have up:∀ {α:Type}{t:Sem α}{Q Q':α->qy->Prop}{E:qj->qy->Prop}{s:qy},zq (model prog w) A t Q (λ _ _=>False) s->(∀ a s,Q a s->Q' a s)->zq (model prog w) A t Q' E s:=
  λ h hq=>wpAny_mono h hq λ _ _ f=>f.elim
 refine codeAny_loop rfl I (λ n s hI=>?_) n h;show zq _ A ((compTurn (.ListComp elt [(target,iter,ifs,0,)] scope pos) 0 it aI env).onRaise (λ x=>do noteFrame x env;theTreesLotGoes x)) _ _ s;refine wpAny_noted ?_;rw[compTurn_list];refine wB (yw (wB (up (turn n s hI) λ r s₁ h₁=>?_)));cases r with
 |none=>exact wP h₁
 |some v=>
   refine wB (up h₁ λ _ s₀ h₀=>?_);refine wB (up h₀ λ _ s₂ h₂=>wB (up h₂ λ ok s₃ h₃=>?_));cases ok with
   |false=>exact wP (rfl,h₃,)
   |true=>
     exact wB (wB (up h₃ λ x s₄ h₄=>wB (up h₄ λ _ s₅ h₅=>wP (wP (rfl,h₅,)))))
def lC(X:Cx)(aB:List (qk×Obj))(fp:List qk)(scope:zk)(C:qk)(s₀:qy)(H₀:Hp):Cx:=
 {X with s₀:=s₀,H₀:=H₀,env:=compEnvC scope (zF scope X.env) C X.env,outer:=X.stack,stack:=X.stack,ex:=fp,fn:=λ _=>false,pn:=X.pn++aB,xe:=λ _ _=>False }
def kO(X:Cx)(scope:zk)(Y:Cx):Prop:=∃ aB fp C s₀ H₀,Y=lC X aB fp scope C s₀ H₀
structure ScOk(scope osc:zk):Prop where
 kind:scope.kind=.function
 nocell:∀ x∈scope.names,x.2≠.cell
 free:∀ x∈scope.names,x.2=.free->osc.names.lookup x.1=qz .cell\/osc.names.lookup x.1=qz .free
 loc:∀ x∈scope.names,x.2=.local->scope.names.lookup x.1=qz .local
def mem_of_lookup{α:Type}{k:α}:∀ {l:List (Str×α)},l.lookup x=qz k->(x,k)∈l
 |[],h=>by simp at h
 |(n,j)::r,h=>by
   rw[yCb] at h;split at h
   .simp_all
   .exact xAf _ (mem_of_lookup h)
section
variable {X:Cx}{aB:List (qk×Obj)}{σ:L2.St}{H:Hp}{s:qy}{scope:zk}{fp:List qk}
def aH0:(lC X aB fp scope C s₀ H₀).env.kindOf x=(scope.names.lookup x).map λ k=>if (k==NameKind.free&&X.env.scope.kind==.function&&X.env.kindOf x==qz .cell) then NameKind.cell else k:=
 aOl scope.names
def aHv(ok:ScOk scope X.env.scope)(h:(lC X aB fp scope C s₀ H₀).env.kindOf x=qz .cell\/(lC X aB fp scope C s₀ H₀).env.kindOf x=qz .free):scope.names.lookup x=qz .free:=by
 rw[aH0] at h;cases e:scope.names.lookup x with
 |none=>rw[e] at h;simp at h
 |some k=>
   rw[e] at h;have nc:=ok.nocell (x,k) (mem_of_lookup e)
   grind
def aJ9(I:Inv X aB σ H s)(hfp:∀ b∈fp,gM X aB H b):∀ b∈fp,b ∉ iU X.stack:=λ b hb z=>by
 rcases List.mem_cons.mp (I.stkSub b z) with q|q
 .exact(hfp b hb).2.1 q
 .exact(hfp b hb).2.2.1 q
def aHH(I:Inv X aB σ H s)(ok:ScOk scope X.env.scope):∀ x∈scope.names,x.2=.free->∃ c,X.env.cells.lookup x.1=qz c:=λ x hx e=>by
 rcases ok.free x hx e with q|q
 .exact I.ok.has x.1 (.inl q)
 .exact I.ok.has x.1 (.inr q)
def rD(I:Inv X aB σ H s)(ok:ScOk scope X.env.scope)(h:(zF scope X.env).lookup x=qz c):X.env.cells.lookup x=qz c:=
 aIJ scope.names [] (aHH I ok) (λ x c e=>by simp at e) x c h
def aSu(I:Inv X aB σ H s)(ok:ScOk scope X.env.scope)(hfp:∀ b∈fp,gM X aB H b)(hth:∀ b∈fp,b<s.heap.objs.size)(hC:s.heap.objs.size<=C):(lC X aB fp scope C s H).Ok where
 mod:=I.ok.mod
 kind:=ok.kind
 glob:=I.ok.glob
 blt:=I.ok.blt
 above:=hC
 inj:=λ x y c h1 h2=>I.ok.inj x y c (rD I ok h1) (rD I ok h2)
 has:=λ x h=>aEw scope.names [] x (.inl (.free,mem_of_lookup (aHv ok h),rfl,))
 cab:=λ x c h _=>nomatch h
 hd:=I.ok.hd
 frames:=I.ok.frames
 stk:=.inl rfl
 exf:=λ b hb=>(λ z=>absurd (xAb (hth b hb) hC) (by have z':b=C:=z;rw[z'];exact yCs _),λ x c h=>(hfp b hb).2.2.2.2.1 x c (rD I ok h),)
 bs:=I.bs
 bsz:=xAh I.ok.bsz I.sz
 noex:=λ b o e hb=>by
  rcases (hfp b hb).2.2.2.1 with z|z
  .exact I.ok.noex b o e z
  .exact absurd (xAb (xAa e) (xAh I.ok.bsz z)) (yCs _)
 exfs:=λ b hb=>aJ9 I hfp b hb
 funs:=I.stack
 frf:=I.stkFree
end
def clr{α:Type}(is:List Nat)(l:List (Option α)):List (Option α):=is.foldl (λ e i=>e.set i qx) l
def aAr{α:Type}:∀ (is:List Nat) (l:List (Option α)),(clr is l).length=↑l
 |[],_=>rfl
 |i::is,l=>by
   show(clr is (l.set i qx)).length=_;rw[aAr is,yBn]
def aAU{α:Type}:∀ (is:List Nat) (l:List (Option α)) (j:Nat) (v:α),(clr is l)[j]?=qz (qz v)->l[j]?=qz (qz v)/\j ∉ is
 |[],_,_,_,h=>(h,by simp,)
 |i::is,l,j,v,h=>by
   let(h1,h2):=aAU is (l.set i qx) j v h;by_cases hj:i=j
   .subst hj;rcases yId i ↑l with q|q
    .rw[yBc q] at h1;cases h1
    .rw[yCx (by rw[yBn];exact q)] at h1;cases h1
   .rw[yAw hj] at h1;exact(h1,λ z=>(List.mem_cons.mp z).elim (λ e=>hj e.symm) h2,)
def aIc{α:Type}:∀ (is:List Nat) (l:List (Option α)) (j:Nat),j ∉ is->(clr is l)[j]?=l[j]?
 |[],_,_,_=>rfl
 |i::is,l,j,h=>by
   show(clr is (l.set i qx))[j]?=_;rw[aIc is _ j (λ z=>h (xAf _ z)),yAw (λ z=>h (by rw[z];exact xAc))]
def Tg.slots:Tg->List Nat
 |.one i=>[i]|.many is=>is
def EnvR.clr(h:EnvR K F L env σ)(is:List Nat):EnvR K F L (EV.clr is env) (EV.clr is σ):=
 ⟨by rw[aAr,aAr];exact h.len,λ j w e=>by
  let(e1,hj):=aAU is env j w e;let(v,e2,d):=h.get j w e1;exact(v,by rw[aIc is σ j hj];exact e2,d,)⟩
def aCQ:∀ {is:List Nat}{ds:List D}{env bD:bB}{j:Nat},nF is ds env=qz bD->j ∉ is->bD[j]?=env[j]?
 |[],[],_,_,_,e,_=>by cases e;rfl
 |i::is,d::ds,env,bD,j,e,h=>by
   rw[@aCQ is ds _ _ _ e (λ z=>h (xAf _ z)),yAw (λ z=>h (by rw[z];exact xAc))]
 |[],_::_,_,_,_,e,_=>by cases e|_::_,[],_,_,_,e,_=>by cases e
def Tg.put_keep{t:Tg}(e:t.put d env=qz bD)(h:j ∉ t.slots):bD[j]?=env[j]?:=by
 cases t with
 |one i=>cases e;exact yAw (λ z=>h (by rw[z];exact xAc))
 |many is=>
   cases d with
   |tuple ds=>exact aCQ e h|list ds=>exact aCQ e h|_=>cases e
def aCK:∀ {is:List Nat}{ds:List D}{env bD:bB},nF is ds env=qz bD->bD.length=env.length
 |[],[],_,_,e=>by cases e;rfl|i::is,d::ds,env,bD,e=>by rw[@aCK is ds _ _ e,yBn]|[],_::_,_,_,e=>by cases e|_::_,[],_,_,e=>by cases e
def Tg.put_length{t:Tg}(e:t.put d env=qz bD):bD.length=env.length:=by
 cases t with
 |one i=>cases e;exact yBn
 |many is=>
   cases d with
   |tuple ds=>exact aCK e|list ds=>exact aCK e|_=>cases e
def EnvR.back{F:Hp}{L:Lx}{env bD:bB}{σ:St}{t:Tg}{d:D}(e:t.put d (EV.clr t.slots env)=qz bD)(h:EnvR K F L bD σ):EnvR K F L (EV.clr t.slots env) σ:=
 ⟨by rw[<- h.len,Tg.put_length e],λ j w q=>by
  let(_,hj):=aAU t.slots env j w q;exact h.get j w (by rw[Tg.put_keep e hj];exact q)⟩
def iP(t:Tg)(fc:FT)(fe:FE)(n:Nat)(env:bB):List D->aD->Option aD
 |[],S=>qz S
 |d::ds,S=>(t.put d env).bind λ e1=>(fc e1 S).bind λ c=>if c.1=true then (fe e1 c.2).bind λ p=>(dO p.2 (.loc n) p.1).bind λ r=>iP t fc fe n env ds r.2 else iP t fc fe n env ds c.2
def jA(t:Tg)(fi:FL)(fc:FT)(fe:FE):FL:=λ env S=>(fi env S).bind λ p=>(iP t fc fe p.2.length (clr t.slots env) p.1 (p.2++[qz []])).bind λ S'=>match S'[p.2.length]? with|some (qz zs)=>qz (zs,S'.take p.2.length)|_=>qx
def nB(Y:Cx)(ifs:List qu)(fc:FT):Prop:=∀ (aB:List (qk×Obj)) (s:qy) (σ:St) (H:Hp) (Q:Bool->Hp->Prop),Inv Y aB σ H s->fY Y.K fc σ H Q ->
 zq (model Y.prog Y.w) Y.A (forIn ifs true λ c r=>if r=true then do let ok <- isTrue c Y.env (eval c Y.env);pure (ForInStep.yield ok) else pure (ForInStep.yield r)) (TP Y aB σ Q) Y.xe s
def jZ:FT:=λ _ S=>qz (true,S)
def aHB:nB Y [] jZ:=λ aB s σ H Q I aW=>by
 let(F,L,S,env,b,S',R,E,e,q):=aW;cases e;exact wpAny_tests_nil (H,I,q F L H Gr.refl R,)
def aH6{fc:FT}(h:PT Y c (fY Y.K fc)):nB Y [c] fc:=λ aB s σ H Q I q=>wpAny_tests_one (h aB s σ H Q I q)
def aFc(N:List Str)(scope:zk)(is:List Nat):Prop:=∀ (i:Nat) (x:Str),N[i]?=qz x->scope.names.lookup x=qz .local->i∈is
def aHO{scope:zk}{tg iter elt:qu}{ifs:List qu}{pos:Pos}{t:Tg}{g:TG}{fi:FL}{fc:FT}{fe:FE}(use:Option (qj->Sem Unit))(hc:X.calm=true)(ok:ScOk scope X.env.scope)(own:aFc X.N scope t.slots)(hi:PI X tg iter (jM X.K fi))(hg:∀ Y,kO X scope Y->PG Y tg g)(ga:GA X.K t g)
 (ht:∀ Y,kO X scope Y->nB Y ifs fc) (he:∀ Y,kO X scope Y->PE Y elt (aS X.K fe)) (hs:∀ x,jq iter X.env x=pure x)
 {aB:List (qk×Obj)}{s:qy}{σ:St}{H:Hp}{Q:VK}{QQ:qj->qy->Prop}{pp:Pos} (I:Inv X aB σ H s) (h:iS X.K (jA t fi fc fe) σ H Q)
 (hend:∀ (p C:qk) (s1:qy) (H':Hp),gM X aB H' C->(∃ m,s1.heap.Ns C m)->(∀ h',yDi C s1.heap h'->Inv X aB σ H' {s1 with heap:=h' })->Q (.ref p) H' ->
   compPost (model X.prog X.w) X.A X.xe use QQ (.ref p) C (.ok .next) s1) :
 zq (model X.prog X.w) X.A (comprehension (.ListComp elt [(tg,iter,ifs,0,)] scope pos) scope X.env pp (newList []) false (eval iter X.env) use) QQ X.xe s:=by
 let(F,L,S,env,zs,S',R,E,e,q):=h;let((ds,S1),e1,e):=aM e;let(S2,e2,e):=aM e;dsimp only at e e2;have hz:S2[↑S1]?=qz (qz zs)/\S'=S2.take ↑S1:=by
  split at e
  .rename_i z ez;cases e;exact(ez,rfl,)
  .cases e
 let(hz,rfl):=hz;refine wpAny_comprehension_free (use:=use) rfl hs (aPz (aHH I ok)) ok.kind ok.loc ?_;refine bC (hi aB s σ H (λ J H'=>∃ F' L',Gr F L F' L'/\Rel X.K F' L' S1 H'/\Wk X.K F' L' J ds) I ⟨F,L,S,env,ds,S1,R,E,e1,λ F' L' H' J g R' wk=>(F',L',g,R',wk,)⟩) λ v s1 h1=>bC h1 λ itv s2 h2=>?_
 let(it,fp,tn,J,H2,rfl,I2,T,st2,f2,F1,L1,g1,R1,wk):=h2;refine xy (wpAny_newFunctionEnv ok.nocell (by simp_all) (λ h₁ hns₁ hsb₁=>?_) ok.kind);dsimp only at hns₁ hsb₁ ⊢;have I3:Inv X aB σ (bE H2 s2.heap.objs.size (.lst [])) {s2 with heap:=s2.heap.push {cls:=.type "list",dict:=qx,data:=.seq ([]:List qj).toArray } }:=I2.lnew (aG:=[]) (t':=s2.toks) .nil (yEp _);generalize hs3:({s2 with heap:=s2.heap.push {cls:=.type "list",dict:=qx,data:=.seq ([]:List qj).toArray } }:qy)=s3 at I3;have hh3:s2.heap.push {cls:=.type "list",dict:=qx,data:=.seq ([]:List qj).toArray }=s3.heap:=by rw[<- hs3]
 generalize hD:s2.heap.objs.size=Dd at I3;generalize hH3:bE H2 Dd (.lst [])=H3 at I3;have hfr2:H2 Dd=qx:=by rw[<- hD];exact I2.fresh
 rw[hh3] at hns₁ hsb₁;rw[hh3];have hst:({heap:=h₁,gens:=s2.gens,drawn:=s2.drawn,toks:=s2.toks+([]:List (Str×qj)).length,os:=s2.os }:qy)={s3 with heap:=h₁,toks:=s3.toks+([]:List (Str×qj)).length }:=by rw[<- hs3]
 rw[hst];clear hst;generalize hC:s3.heap.objs.size=C at hns₁ hsb₁;have old:∀ b u,s3.heap.get? b=qz u->h₁.get? b=qz u:=λ b u q=>by
  have hb:b≠C:=by rw[<- hC];exact xAj (xAa q)
  exact hsb₁.extBut b u hb (hpS _ q)
 have lt2:∀ b∈fp,b<s2.heap.objs.size:=λ b hb=>by
  let(o,eo,_):=T.obj 0 _ st2 b hb;exact xAa eo
 have up23:∀ b u,s2.heap.get? b=qz u->s3.heap.get? b=qz u:=λ b u q=>by rw[<- hh3];exact hpS _ q
 have lt3:∀ b∈fp,b<s3.heap.objs.size:=λ b hb=>by
  let(o,eo,_):=T.obj 0 _ st2 b hb;exact xAa (up23 b o eo)
 have f3:∀ b∈fp,gM X aB H3 b:=λ b hb=>by
  refine(?_,(f2 b hb).2,);have ne:b≠Dd:=by rw[<- hD];exact xAj (lt2 b hb)
  rw[<- hH3,bV ne];exact(f2 b hb).1
 have okY:(lC X aB fp scope C s3 H3).Ok:=aSu I3 ok f3 lt3 (by rw[hC];exact yAc _);have hIC:kO X scope (lC X aB fp scope C s3 H3):=(aB,fp,C,s3,H3,rfl,);generalize hY:lC X aB fp scope C s3 H3=Y at okY hIC;have yE:Y.env=compEnvC scope (zF scope X.env) C X.env:=by rw[<- hY];rfl
 have I4:Inv Y [] (clr t.slots σ) H3 {s3 with heap:=h₁,toks:=s3.toks+([]:List (Str×qj)).length }:=by
  rw[<- hY] at okY ⊢;refine(okY,rfl,I3.bare,Un.kept old,(_,hns₁,λ i x v a1 a2 a3=>?_,),λ x c a=>?_,?_,λ x c a=>I3.freeC x c (rD I3 ok a),λ p hp=>?_,I3.hok.kept old,by rw[aAr];exact I3.len,)
  .let(a4,a5):=aAU t.slots σ i v a2;have nl:scope.names.lookup x≠qz .local:=λ z=>a5 (own i x a1 z)
   have qD:(lC X aB fp scope C s3 H3).env.kindOf x=qz .cell\/(lC X aB fp scope C s3 H3).env.kindOf x=qz .free:=by
    rcases a3 with z|z|z
    .exfalso;have z':(lC X aB fp scope C s3 H3).env.kindOf x=qz .local:=z;rw[aH0] at z';cases ek:scope.names.lookup x with
     |none=>rw[ek] at z';cases z'
     |some k=>
       rw[ek] at z'
       grind
    .exact .inl z
    .exact .inr z
   have fr:=aHv ok qD;have ov:=ok.free (x,.free) (mem_of_lookup fr) rfl;let(m,hm,hl):=I3.loc;let(u,ru,lk):=hl i x v a1 a4 (ov.elim (λ z=>.inr (.inl z)) λ z=>.inr (.inr z));refine(u,ru,.inr (qD,?_,),);let(c,hcl):=@aEw X.env scope.names [] x (.inl (.free,mem_of_lookup fr,rfl,));have hc2:=rD I3 ok hcl;rcases lk with ⟨z,_⟩|⟨_,c',e',o',ho',hd'⟩
   .exfalso;have z':X.env.scope.names.lookup x=qz .local:=z;simp_all
   .rw[hc2] at e';cases e';exact(c,hcl,o',old _ _ ho',hd',)
  .let(v,o,ho,hd):=I3.cell x c (rD I3 ok a);exact(v,o,old _ _ ho,hd,)
  .show H3 C=qx;rw[<- hC];exact I3.fresh
  .have hp':p∈X.pn++aB:=by
    have:p∈(X.pn++aB)++[]:=hp;rwa [yAx] at this
   let(b1,b2,b3,b4,b5):=I3.pin p hp';refine(old _ _ b1,b2,?_,λ z=>?_,b5,)
   .show p.1≠C;rw[<- hC];exact xAj (xAa b1)
   .rcases List.mem_cons.mp (I3.stkSub p.1 z) with w|w
    .exact b3 w
    .exact b4 w
 have fpY:∀ {H':Hp},(∀ b∈fp,H' b=qx)->∀ b∈fp,gM Y [] H' b:=λ hn b hb=>by
  rw[<- hY];refine(hn b hb,?_,aJ9 I3 f3 b hb,.inl hb,λ x c a=>(f3 b hb).2.2.2.2.1 x c (rD I3 ok a),λ p hp=>?_,)
  .show b≠C;rw[<- hC];exact xAj (lt3 b hb)
  .have hp':p∈X.pn++aB:=by
    have:p∈(X.pn++aB)++[]:=hp;rwa [yAx] at this
   exact(f3 b hb).2.2.2.2.2 p hp'
 have yA:Y.A=X.A:=by rw[<- hY];rfl
 have yP:Y.prog=X.prog:=by rw[<- hY];rfl
 have yW:Y.w=X.w:=by rw[<- hY];rfl
 have yK:Y.K=X.K:=by rw[<- hY];rfl
 have yC:Y.calm=true:=by rw[<- hY];exact hc
 have yX:Y.xe=λ _ _=>False:=by rw[<- hY];rfl
 have R3:Rel X.K F1 (L1++[(Dd,false)]) (S1++[qz []]) H3:=by rw[<- hH3];exact R1.newLoc hfr2 .nil
 obtain⟨PP,hPP⟩:∃ PP:Result->qy->Prop,PP=compPost (model X.prog X.w) X.A X.xe use QQ (.ref Dd) C:=(_,rfl,);have cV:∀ (s1:qy) (σ':L2.St) (H' F':Hp) (L':Lx),Inv Y [] σ' H' s1->Gr F1 (L1++[(Dd,false)]) F' L'->Rel X.K F' L' S2 H'->PP (.ok .next) s1:=by
  intro s1 σ' H' F' L' J' gg RR;rw[hPP];rw[<- hY] at J';let(m,hmC,_):=J'.loc;have hCn:H' C=qx:=J'.free;have hfC:gM X aB H' C:=I3.fpOk (by rw[hC];exact yAc _) hCn;let(sf,M,rfl):=gg;have cS:↑L1=↑S1:=R1.len;have eL:((L1++[(Dd,false)])++M)[↑S1]?=qz (Dd,false):=by
   rw[yAq,yAd (by rw[cS];exact yAc _),cS,yBb];rfl
  let(hF,xs,hx,dl):=RR.loc ↑S1 Dd zs eL hz;have RR2:Rel X.K F' (L1++([(Dd,false)]++M)) S2 H':=by rw[<- yAq];exact RR
  have Rc:=RR2.cut;rw[cS] at Rc;have hnd:Dd ∉ ad L1:=λ z=>by
   have nd:=RR2.nd
   grind
  refine hend Dd C s1 H' hfC (m,hmC,) (λ h' sb=>?_) (q F' L1 H' Dd xs (g1.trans (sf,[],by simp,)) Rc hF hnd hx dl);have neC:∀ b u,s3.heap.get? b=qz u->b≠C:=λ b u z=>by rw[<- hC];exact xAj (xAa z)
  have kp:∀ b u,b≠C->s1.heap.get? b=qz u->h'.get? b=qz u:=λ b u z w=>sb.extBut b u z w
  have bU:Un (iU X.stack) fp H3 H' s3.heap s1.heap:=J'.base;have u:Un (iU X.stack) fp H3 H' s3.heap h':=
   ⟨λ b o z n hb hx=>kp b o (neC b o z) (bU.keep b o z n hb hx),λ b o z n hb hx=>by let(sl,w):=bU.slot b o z n hb hx;exact(sl,kp b _ (neC b o z) w,),bU.free,
    λ b o z hx=>by let(o',w):=bU.there b o z hx;exact(o',kp b _ (neC b o z) w,),bU.tups,bU.frzs,bU.tbls⟩
  have hokY:cY X.prog X.w H' s1.heap:=J'.hok;have hok':cY X.prog X.w H' h':=λ b o z=>(hokY b o z).stay (λ c v hc2 w=>kp c v (λ zz=>by
   grind) w) (λ _ w=>w) λ _ _ w=>w
  have os1:s1.os=s3.os:=J'.os;exact I3.call' (s':={s1 with heap:=h' }) os1 u hok' J'.bare λ b hb=>((f3 b hb).2.2.2.1,(f3 b hb).2.1,(f3 b hb).2.2.2.2.1,(f3 b hb).2.2.2.2.2,)
 have loop:∀ s5:qy,Inv Y [] (clr t.slots σ) H3 s5->tn 0 s5.heap ->
  jo (model X.prog X.w) X.A (.compLoop (.ListComp elt [(tg,iter,ifs,0,)] scope pos) 0 (.ref it) (.ref Dd) Y.env) PP s5:=by
  intro s5 I5 st5;have E0:EnvR X.K F1 (L1++[(Dd,false)]) (clr t.slots env) (clr t.slots σ):=(E.mono (g1.trans Gr.newLoc)).clr t.slots;obtain⟨Iv,hIv⟩:∃ Iv:Nat->qy->Prop,∀ n s',Iv n s' ↔ (∃ i σ' H' F' L' S',Inv Y [] σ' H' s'/\tn i s'.heap/\(∀ b∈fp,H' b=qx)/\Gr F1 (L1++[(Dd,false)]) F' L'/\Rel X.K F' L' S' H'/\EnvR X.K F' L' (clr t.slots env) σ'/\i+n=↑ds /\
   iP t fc fe ↑S1 (clr t.slots env) (ds.drop i) S'=qz S2):=(_,λ _ _=>Iff.rfl,)
  refine aOy Iv ?_ ↑ds ((hIv _ _).mpr (0,clr t.slots σ,H3,F1,L1++[(Dd,false)],S1++[qz []],I5,st5,λ b hb=>(f3 b hb).1,Gr.refl,R3,E0,yBz _,by rw[yFc];exact e2,));intro n s6 h6;let(i,σ6,H6,F6,L6,S6,I6,st6,fr6,g6,R6,E6,hin,ec):=(hIv _ _).mp h6;clear h6;have g16:Gr F1 L1 F6 L6:=Gr.newLoc.trans g6;have toA:∀ {α:Type}{tt:Sem α}{QQ:α->qy->Prop}{EE:qj->qy->Prop}{ss:qy},zq (model X.prog X.w) Y.A tt QQ EE ss->zq (model X.prog X.w) X.A tt QQ EE ss:=λ hh=>by rw[yA] at hh;exact hh
  cases n with
  |zero=>
    have hi':i=↑ds:=by omega
    subst hi';rw[yGj] at ec;cases ec;refine bC (toA (T.done Y yP yW yK yC ↑ds [] s6 σ6 H6 _ I6 (fpY fr6) st6 (wk.stop H6 (g16.f.trans R6.sub)))) λ r s7 hPq40=>?_
    let(hr,I7):=hPq40;subst hr;exact cV s7 σ6 H6 F6 L6 I7 g6 R6
  |succ n=>
    have hi':i<↑ds:=by omega
    refine bC (toA (T.item Y yP yW yK yC i [] s6 σ6 H6 _ I6 (fpY fr6) st6 (wk.go i H6 (g16.f.trans R6.sub) hi'))) λ r s7 hPq41=>?_
    let(u,hr,h7):=hPq41;subst hr;refine bC (toA h7) λ _ s8 hPq42=>?_
    let(x,H8,I8,r8,y8,st8,fr8):=hPq42;let(F8,sf8,R8,d8):=wk.yld i H6 F6 L6 S6 x H8 ds[i] g16 R6 (yAb hi') y8;have g8:Gr F6 L6 F8 L6:=(sf8,[],by simp,);rw[yCt hi'] at ec;let(env9,ep,ec):=aM ec;let((cb,S9),et,ec):=aM ec;have I8':=I8.pinned (fpY fr8) (T.obj _ _ st8);have toF:∀ {α:Type}{tt:Sem α}{QQ:α->qy->Prop}{ss:qy},zq (model Y.prog Y.w) Y.A tt QQ Y.xe ss->zq (model X.prog X.w) X.A tt QQ (λ _ _=>False) ss:=λ hh=>by rw[yX,yP,yW,yA] at hh;exact hh
    refine toF (bC (hg Y hIC _ s8 σ6 H8 x u (λ σ' H'=>H'=H8/\EnvR X.K F8 L6 env9 σ') I8' r8 (ga ds[i] x σ6 H8 F8 L6 S6 (clr t.slots env) env9 _ R8 (E6.mono g8) d8 ep λ σ' E'=>(rfl,E',))) λ _ s9 hPq43=>?_);let(σ9,H9,I9,hH9,E9):=hPq43;subst hH9;refine toF (bC (ht Y hIC _ s9 σ9 H9 (λ b H'=>∃ F' L',Gr F8 L6 F' L'/\Rel X.K F' L' S9 H'/\b=cb) I9 (by rw[yK];exact(F8,L6,S6,env9,cb,S9,R8,E9,et,λ F' L' H' g' R'=>(F',L',g',R',rfl,),))) λ ok2 s10 hPq44=>?_);let(H10,I10,F10,L10,g10,R10,hb10):=hPq44;subst hb10;dsimp only at ec;have again:∀ {σ7:L2.St}{H7 F7:Hp}{L7:Lx}{S7:aD}{s7':qy},Inv Y ([]++xH fp s8.heap) σ7 H7 s7'->Gr F8 L6 F7 L7->Rel X.K F7 L7 S7 H7->EnvR X.K F7 L7 env9 σ7->iP t fc fe ↑S1 (clr t.slots env) (ds.drop (i+1)) S7=qz S2 ->
     ∃ m,m<n+1/\Iv m s7':=by
     intro σ7 H7 F7 L7 S7 s7' I7 g7 R7 E7 ec7;refine(n,yDd n,(hIv _ _).mpr (i+1,σ7,H7,F7,L7,S7,I7.unpinned,T.keep _ _ _ st8 λ b hb o eo=>(I7.pin (b,o) (xAp _ (xAp _ (vU hb eo)))).1,λ b hb=>?_,(g6.trans g8).trans g7,R7,EnvR.back ep E7,by omega,ec7,),);let(o,eo,_):=T.obj _ _ st8 b hb;exact(I7.pin (b,o) (xAp _ (xAp _ (vU hb eo)))).2.1
    cases ok2 with
    |false=>
      rw[if_neg (by simp)] at ec;rw[if_neg (by simp)];exact again I10 g10 R10 (E9.mono g10) ec
    |true=>
      rw[if_pos rfl] at ec;rw[if_pos rfl];let((wv,S11),ee,ec):=aM ec;let((wn,S12),ea,ec):=aM ec;let(n',dv,zs',hn',hw',es',hlt,hwn,rfl):=aH3 ea;cases hn';dsimp only at hw';refine toF (bC (he Y hIC _ s10 σ9 H10 (λ v H'=>∃ F' L',Gr F10 L10 F' L'/\Rel X.K F' L' S11 H'/\Den X.K F' dv v) I10 ⟨F10,L10,S9,env9,_,S11,R10,E9.mono g10,ee,λ F' L' H' v g' R' d'=>(F',L',g',R',aBd d' hw',)⟩) λ xv s11 hPq45=>?_);let(v11,H11,I11,r11,F11,L11,g11,R11,d11):=hPq45;have gA:Gr F1 (L1++[(Dd,false)]) F11 L11:=((g6.trans g8).trans g10).trans g11;have eL:L11[↑S1]?=qz (Dd,false):=gA.get (by rw[yAd (by rw[R1.len];exact yAc _),R1.len,yBb];rfl);let(hF,xs,hx,dl):=R11.loc ↑S1 Dd zs' eL es';refine toF (bC (@aHZ Y _ s11 σ9 H11 (.ref Dd) [v11] (.ref Dd) [xv] (λ _ H'=>Rel X.K F11 L11 (S11.set ↑S1 (qz (zs'++[dv]))) H') I11 rfl (.cons r11 .nil) (Dd,xs,v11,rfl,rfl,hx,by rw[<- dl.length];exact hlt,R11.put eL hF (dl.append (.cons d11 .nil)),)) λ _ s12 hPq46=>?_);let(_,H12,I12,_,R12):=hPq46;exact again I12 (g10.trans g11) R12 (E9.mono (g10.trans g11)) ec
 rw[yE,hPP] at loop;have st4:tn 0 h₁:=T.keep 0 _ _ st2 λ b _ o eo=>old b o (up23 b o eo)
 exact codeAny_compStart_list (loop _ I4 st4) (T.self X.A 0 _ _ _ st4 (loop _ I4 st4))
def aKV{t:Tg}{fi:FL}{fc:FT}{fe:FE}(hc:X.calm=true)(ok:ScOk scope X.env.scope)(own:aFc X.N scope t.slots)(hi:PI X tg iter (jM X.K fi))(hg:∀ Y,kO X scope Y->PG Y tg g)(ga:GA X.K t g)(ht:∀ Y,kO X scope Y->nB Y ifs fc)(he:∀ Y,kO X scope Y->PE Y elt (aS X.K fe))(hs:∀ x,jq iter X.env x=pure x) :
 PE X (.ListComp elt [(tg,iter,ifs,0,)] scope pos) (iS X.K (jA t fi fc fe)):=λ aB s σ H Q I h=>by
 rw[eval_ListComp];exact aHO qx hc ok own hi hg ga ht he hs I h λ p C s1 H' _ hm hI q=>hm.elim λ m hm=>(m,hm,λ h' sb=>(.ref p,H',hI h' sb,rfl,q,),)
def aQq{t:Tg}{fi:FL}{fc:FT}{fe:FE}{fa:FE}(hN:X.N.Nodup)(hx1:X.N[i]?=qz x)(hx2:L2.Loc X.env.scope x)(hf:X.fn x=true\/X.env.scope.names.lookup x=qz .local)(hc:X.calm=true)(ok:ScOk scope X.env.scope)(own:aFc X.N scope t.slots)(hi:PI X tg iter (jM X.K fi))(hg:∀ Y,kO X scope Y->PG Y tg g)(ga:GA X.K t g)(ht:∀ Y,kO X scope Y->nB Y ifs fc)(he:∀ Y,kO X scope Y->PE Y elt (aS X.K fe))(hs:∀ x,jq iter X.env x=pure x)(hw:∀ σ H Q,aS X.K fa σ H Q->iS X.K (jA t fi fc fe) σ H Q) :
 PS X (.Assign [.Name x pos'] (.ListComp elt [(tg,iter,ifs,0,)] scope pos) spos) (dL X.K (kU i fa)):=by
 have hb:∃ b,swapsWith (.ListComp elt [⟨tg,iter,ifs,0⟩] scope pos) (qz (.Name x pos')) spos.line X.env=pure b:=(_,rfl,);let(b,hb):=hb;cases b with
 |false=>exact aMF hN hx1 hx2 (PE.weak (aKV hc ok own hi hg ga ht he hs) hw) hb hf
 |true=>
   intro aB s σ H DD I h;have h2:=aL2 DD σ H h;rw[exec_Assign_Name_used _ _ _ _ hb];refine wB (yw (wB ?_));show zq _ X.A (do let _ <- comprehension (.ListComp elt [⟨tg,iter,ifs,0⟩] scope pos) scope X.env _ (newList []) false (eval iter X.env) (qz (assign (.Name x pos') X.env))) _ _ s;refine wB (bC (aHO (QQ:=λ _ s'=>SP X aB DD .next s') (qz (assign (.Name x pos') X.env)) hc ok own hi hg ga ht he hs I (hw _ _ _ h2) λ p C s1 H' hC hm hI q=>?_) λ _ s' hq=>wP (wP hq));let(m,hm):=hm;have I1:Inv X aB σ H' s1:=hI s1.heap (Heap.SameBut.refl _ _);let(o,es,ep,ho,hd,r):=hm;have I2:=I1.pinned (fp:=[C]) (λ b hb=>by rw[List.mem_singleton.mp hb];exact hC) λ b hb=>by rw[List.mem_singleton.mp hb];simp_all
   refine bC (aDD (pos:=pos') hN hx1 hx2 hf _ s1 σ H' (.ref p) (.ref p) _ I2 rfl q) λ _ s2 hPq47=>?_
   let(σ2,H2,I3,q3):=hPq47;let(b1,b2,_):=I3.pin (C,o) (xAp _ (xAp _ (vU (by simp) ho)));refine(m,(o,es,ep,b1,hd,r,),λ h' sb=>(σ2,H2,?_,q3,),);exact I3.unpinned.turned (t':=s2.toks) (λ b o hb e=>sb.extBut b o hb e) b2 hC.2.1 hC.2.2.2.1 hC.2.2.2.2.1 hC.2.2.2.2.2
def iZ:List D->Option (List Int)
 |[]=>qz []|.int i::r=>(iZ r).bind λ l=>qz (i::l)|_::_=>qx
def aA8:List D->Option (List Bool)
 |[]=>qz []|.bool i::r=>(aA8 r).bind λ l=>qz (i::l)|_::_=>qx
def jI:List D->Option D
 |[.list xs]=>qz (.int ↑xs)|[.tuple xs]=>qz (.int ↑xs)
 |[.str z]=>if z.length<=qo then qz (.int z.length) else qx
 |_=>qx
def pS:List D->Option D
 |[.int i,.int j]=>qz (.int (if j>i then j else i))
 |[.int i,.int j,.int k]=>qz (.int (if j>i then (if k>j then k else j) else (if k>i then k else i)))
 |[.list xs]=>match iZ xs with
   |some (i::r)=>qz (.int (r.foldl max i))|_=>qx
 |_=>qx
def kT:List D->Option D
 |[.int i,.int j]=>qz (.int (if j<i then j else i))
 |[.list xs]=>match iZ xs with
   |some (i::r)=>qz (.int (r.foldl min i))|_=>qx
 |_=>qx
def aFB:List D->Option D
 |[.int i]=>qz (.int i)
 |[.bool k]=>qz (.int (if k then 1 else 0))
 |_=>qx
def qX:List D->Option D
 |[.list xs]=>qz (.tuple xs)|[.tuple xs]=>qz (.tuple xs)|_=>qx
def aB3:List D->Option D
 |[.list xs]=>(iZ xs).bind λ l=>qz (.int l.sum)|_=>qx
def mM{xs:List V}(h:NowL X.K F H [d] xs):∃ x,xs=[x]/\cH X.K F H d x:=by
 cases h with
 |cons a b=>cases b;exact(_,rfl,a,)
def aM9{xs:List V}(h:NowL X.K F H [d,e] xs):∃ x y,xs=[x,y]/\cH X.K F H d x/\cH X.K F H e y:=by
 cases h with
 |cons a b=>
   cases b with
   |cons c d=>cases d;exact(_,_,rfl,a,c,)
def aZs{xs:List V}(h:NowL X.K F H [d,e,f] xs):∃ x y z,xs=[x,y,z]/\cH X.K F H d x/\cH X.K F H e y/\cH X.K F H f z:=by
 cases h with
 |cons a b=>cases b with
   |cons c d=>cases d with
     |cons e f=>cases f;exact(_,_,_,rfl,a,c,e,)
def aZi(r:aZ [x,y,z] us):∃ u v w',us=[u,v,w']/\aY x u/\aY y v/\aY z w':=by
 cases r with
 |cons r1 r2=>cases r2 with
   |cons r3 r4=>cases r4 with
     |cons r5 r6=>cases r6;exact(_,_,_,rfl,r1,r3,r5,)
def aPW(hc:X.calm=true):gK X (.builtin "max") (λ xs H Q=>∃ i j k,xs=[.int i,.int j,.int k]/\Q (.int (if j>i then (if k>j then k else j) else (if k>i then k else i))) H):=by
 intro aB s σ H xs us Q I r h;let(i,j,k,rfl,q):=h;let(u,v,w',rfl,(t,rfl),(t',rfl),(t2,rfl)):=aZi r;refine max_three_ints (I.ok.hd hc) λ h' tk kk=>(_,H,I.kept kk,?_,q,)
 by_cases h1:j>i<;>by_cases h2:k>j<;>by_cases h3:k>i<;>simp only[h1,h2,h3,if_true,if_false]<;>exact(_,rfl,)
def aAs{xs:List V}(h:DenL K F ds xs)(e:iZ ds=qz ns):xs=ns.map V.int:=by
 induction ds generalizing xs ns with
 |nil=>cases h;cases e;rfl
 |cons d r ih=>
   cases h with
   |cons h t=>
     cases d with
     |int i=>
       let(l,e1,e2):=aM e;cases e2;cases h;rw[yAm,ih t e1]
     |_=>cases e
def aI8:∀ (l:List Int) (i:Int),(l.foldl max i∈i::l)/\∀ a∈i::l,a<=l.foldl max i
 |[],i=>(List.mem_singleton.mpr rfl,λ a h=>by rw[List.mem_singleton.mp h];simp_all,)
 |b::l,i=>by
   let(h1,h2):=aI8 l (max i b);rw[yDm];refine(?_,λ a ha=>?_,)
   .grind
   .have h3:=h2 (max i b) xAc;simp only[yCc] at ha;rcases ha with rfl|rfl|ha
    .exact yIf (Int.le_max_left _ _) h3
    .exact yIf (Int.le_max_right _ _) h3
    .exact h2 a (xAf _ ha)
def aJB:∀ (l:List Int) (i:Int),(l.foldl min i∈i::l)/\∀ a∈i::l,l.foldl min i<=a
 |[],i=>(List.mem_singleton.mpr rfl,λ a h=>by rw[List.mem_singleton.mp h];simp_all,)
 |b::l,i=>by
   let(h1,h2):=aJB l (min i b);rw[yDm];refine(?_,λ a ha=>?_,)
   .grind
   .have h3:=h2 (min i b) xAc;simp only[yCc] at ha;rcases ha with rfl|rfl|ha
    .exact yIf h3 (Int.min_le_left _ _)
    .exact yIf h3 (Int.min_le_right _ _)
    .exact h2 a (xAf _ ha)
def aCV:∀ {l:List Int}{us:List qj},aZ (l.map V.int) us->∃ ps:List (Int×Tok),us=ps.map (λ p=>Value.int p.1 p.2)/\ps.map (·.1)=l
 |[],us,r=>by cases r;exact([],rfl,rfl,)
 |i::l,us,r=>by
   cases r with
   |cons h t=>
     let(tk,rfl):=h;let(ps,rfl,rfl):=aCV t;exact((i,tk)::ps,rfl,rfl,)
def aQJ(hc:X.calm=true):gK X (.builtin "max") (λ xs H Q=>∃ (a:qk) (l:List Int),xs=[.ref a]/\cB X.K H a (l.map V.int)/\0<↑l/\∀ M,M∈l->(∀ i∈l,i<=M)->Q (.int M) H):=by
 intro aB s σ H xs us Q I r h;let(a,l,rfl,sq,hl,q):=h;let(u,rfl,ru):=pO r;cases ru;let(aG,rv,pl,hz):=I.list sq;let(ps,rfl,rfl):=aCV rv;have hIL:s.heap.IsList a (intItems ps.toArray):=by
  have e:intItems ps.toArray=(ps.map (λ p=>Value.int p.1 p.2)).toArray:=by simp[intItems]
  rw[e];exact pl.isList
 refine max_intList (xs:=ps.toArray) (I.ok.hd hc) hIL (hl:) λ v h' tk hv hk=>?_
 let(t,rfl):=intItems_at hv;let(h1,h2):=argBest_gt (numAt ps.toArray) (ps.toArray.size-1);refine(.int _,H,I.kept hk,(_,rfl,),q _ ?_ λ i hi=>?_,)
 .rw[numAt_eq];have hz':0<ps.toArray.size:=(hl:)
  exact getD_mem (by rw[yAa,yGq];exact xAi h1 (Nat.sub_lt hz' Nat.one_pos))
 .let(j,hj,rfl):=mem_getD hi;rw[yAa] at hj;have:=h2 j (by rw[yAl];omega);rw[numAt_eq (j:=j)] at this;exact this
def aP0(hc:X.calm=true):gK X (.builtin "min") (λ xs H Q=>∃ (a:qk) (l:List Int),xs=[.ref a]/\cB X.K H a (l.map V.int)/\0<↑l/\∀ M,M∈l->(∀ i∈l,M<=i)->Q (.int M) H):=by
 intro aB s σ H xs us Q I r h;let(a,l,rfl,sq,hl,q):=h;let(u,rfl,ru):=pO r;cases ru;let(aG,rv,pl,hz):=I.list sq;let(ps,rfl,rfl):=aCV rv;have hIL:s.heap.IsList a (intItems ps.toArray):=by
  have e:intItems ps.toArray=(ps.map (λ p=>Value.int p.1 p.2)).toArray:=by simp[intItems]
  rw[e];exact pl.isList
 refine min_intList (xs:=ps.toArray) (I.ok.hd hc) hIL (hl:) λ v h' tk hv hk=>?_
 let(t,rfl):=intItems_at hv;let(h1,h2):=argBest_lt (numAt ps.toArray) (ps.toArray.size-1);refine(.int _,H,I.kept hk,(_,rfl,),q _ ?_ λ i hi=>?_,)
 .rw[numAt_eq];have hz':0<ps.toArray.size:=(hl:)
  exact getD_mem (by rw[yAa,yGq];exact xAi h1 (Nat.sub_lt hz' Nat.one_pos))
 .let(j,hj,rfl):=mem_getD hi;rw[yAa] at hj;have:=h2 j (by rw[yAl];omega);rw[numAt_eq (j:=j)] at this;exact this
def aXv:gK X (.builtin "len") (sH X jI):=λ aB s σ H xs us Q I r aW=>by
 let(F,L,S,ds,z,R,n,e,q):=aW;unfold jI at e;split at e
 .cases e;let(x,rfl,nx):=mM n;let(a,ys,rfl,sq,dl):=nx.lst R.sub;exact aGQ aB s σ H _ us Q I r (a,ys,rfl,.inl sq,by rw[<- dl.length];exact q.here R (.int _),)
 .cases e;let(x,rfl,nx):=mM n;let(a,ys,rfl,sq,dl):=nx.tup R.sub;exact aGQ aB s σ H _ us Q I r (a,ys,rfl,.inr sq,by rw[<- dl.length];exact q.here R (.int _),)
 .split at e
  .rename_i hz;cases e;let(x,rfl,nx):=mM n;exact aOI aB s σ H _ us Q I r (_,by rw[nx.str],hz,q.here R (.int _),)
  .cases e
 .cases e
def aYu(hc:X.calm=true):gK X (.builtin "max") (sH X pS):=λ aB s σ H xs us Q I r aW=>by
 let(F,L,S,ds,z,R,n,e,q):=aW;unfold pS at e;split at e
 .cases e;let(x,y,rfl,nx,ny):=aM9 n;exact aQn hc aB s σ H _ us Q I r (_,_,by rw[nx.int,ny.int],q.here R (.int _),)
 .cases e;let(x,y,u,rfl,nx,ny,nu):=aZs n;exact aPW hc aB s σ H _ us Q I r (_,_,_,by rw[nx.int,ny.int,nu.int],q.here R (.int _),)
 .split at e
  .rename_i xs' i r' hi;cases e;let(x,rfl,nx):=mM n;let(a,ys,rfl,sq,dl):=nx.lst R.sub;obtain rfl:=aAs dl hi;refine aQJ hc aB s σ H _ us Q I r (a,i::r',rfl,sq,by simp,λ M h1 h2=>?_,);have f:=aI8 r' i;have:M=r'.foldl max i:=Int.le_antisymm (f.2 _ h1) (h2 _ f.1);rw[this];exact q.here R (.int _)
  .cases e
 .cases e
def aXK(hc:X.calm=true):gK X (.builtin "min") (sH X kT):=λ aB s σ H xs us Q I r aW=>by
 let(F,L,S,ds,z,R,n,e,q):=aW;unfold kT at e;split at e
 .cases e;let(x,y,rfl,nx,ny):=aM9 n;exact aQL hc aB s σ H _ us Q I r (_,_,by rw[nx.int,ny.int],q.here R (.int _),)
 .split at e
  .rename_i xs' i r' hi;cases e;let(x,rfl,nx):=mM n;let(a,ys,rfl,sq,dl):=nx.lst R.sub;obtain rfl:=aAs dl hi;refine aP0 hc aB s σ H _ us Q I r (a,i::r',rfl,sq,by simp,λ M h1 h2=>?_,);have f:=aJB r' i;have:M=r'.foldl min i:=Int.le_antisymm (h2 _ f.1) (f.2 _ h1);rw[this];exact q.here R (.int _)
  .cases e
 .cases e
def aYv:gK X (.type "int") (sH X aFB):=λ aB s σ H xs us Q I r aW=>by
 let(F,L,S,ds,z,R,n,e,q):=aW;unfold aFB at e;split at e
 .cases e;let(x,rfl,nx):=mM n;exact aHQ aB s σ H _ us Q I r (.inl (_,by rw[nx.int],q.here R (.int _),))
 .cases e;let(x,rfl,nx):=mM n;exact aHQ aB s σ H _ us Q I r (.inr (_,by rw[nx.bl],q.here R (.int _),))
 .cases e
def aS9:gK X (.type "tuple") (sH X qX):=λ aB s σ H xs us Q I r aW=>by
 let(F,L,S,ds,z,R,n,e,q):=aW;unfold qX at e;split at e
 .cases e;let(x,rfl,nx):=mM n;let(a,ys,rfl,sq,dl):=nx.lst R.sub;exact aGI aB s σ H _ us Q I r (a,ys,rfl,.inl (sq,λ l hl=>q.tup R hl dl,),)
 .cases e;let(x,rfl,nx):=mM n;have nx':=nx;let(a,ys,rfl,sq,dl):=nx.tup R.sub;refine aGI aB s σ H _ us Q I r (a,ys,rfl,.inr (sq,q.here R ?_,),);rcases nx' with nx|⟨_,_,_,e,_⟩
  .exact nx
  .cases e
 .cases e
def aOW{A:zy}(hh:A.handled=qx)(I ax:qk)(hne:ax≠I)(aX:Array qj) :
 WalksS prog w A I [I,ax] [I] (λ a b=>b=a) aX.size (λ i v=>aX[i]?=qz v) (λ i s=>s.heap.IsListIter I ax i/\s.heap.IsList ax aX) where
 sub:=λ b hb=>by simp_all
 grefl:=λ _=>rfl
 gtrans:=λ _ _ _ h1 h2=>h2.trans h1
 frame:=λ _ _ _ _ st _ hk=>(st.1.at λ o e=>hk I (by simp) o e,st.2.at λ o e=>hk ax (by simp) o e,)
 item:=λ i s Q E hi st hQ=>by
  refine vk st.1 st.2 (x:=aX[i]) (by simp[hi]) λ h' hit' hs'=>?_
  exact hQ _ _ (by simp[hi]) (hit',st.2.extBut hs'.extBut hne,) (λ b o hb e=>hs'.extBut b o (λ h=>hb (by simp[h])) e,rfl,rfl,rfl,yAc _,)
 done:=λ s Q E st hQ=>wz hh st.1 st.2 (by simp) λ h' he'=>hQ _ (λ b o hb e=>he' b o (λ h=>hb (by simp[h])) e,rfl,rfl,rfl,yAc _,)
 self:=λ _ _ _ _ st hQ=>wpAny_pyIter_listiter st.1 hQ
def aGR:∀ (ns:List Int) (k:Nat),k<=↑ns->preSum (λ i=>ns.getD i 0) k=(ns.take k).sum
 |_,0,_=>by simp[preSum]
 |ns,k+1,h=>by
   rw[preSum,aGR ns k (!_),yFx (!_),List.sum_append];have:ns.getD k 0=ns[k]:=by simp[List.getD,yAb (show k<↑ns by omega)]
   rw[this];simp
def aOQ{xs:List V}(h:DenL K F ds xs)(e:aA8 ds=qz ns):xs=ns.map V.bl:=by
 induction ds generalizing xs ns with
 |nil=>cases h;cases e;rfl
 |cons d r ih=>
   cases h with
   |cons h t=>
     cases d with
     |bool i=>
       let(l,e1,e2):=aM e;cases e2;cases h;rw[yAm,ih t e1]
     |_=>cases e
def aOT{ns:List Int}{us:List qj}(r:aZ (ns.map V.int) us){i:Nat}{v:qj}(e:us[i]?=qz v):∃ t,v=.int (ns.getD i 0) t:=by
 have hl:=r.length;rw[yAa] at hl;have hi:i<↑ns:=by rw[hl];exact(gIm e).1
 let(u,e1,ru):=aZ.get r (i:=i) (x:=.int ns[i]) (by rw[yAg,yAb hi];rfl);rw[e] at e1;cases e1;let(t,rfl):=ru;exact(t,by simp[List.getD,yAb hi],)
def aZd(hc:X.calm=true):gK X (.builtin "sum") (sH X aB3):=λ aB s σ H xs us Q I r aW=>by
 let(F,L,S,ds,z,R,n,e,q):=aW;unfold aB3 at e;split at e
 .let(ns,e1,e2):=aM e;cases e2;let(x,rfl,nx):=mM n;let(a,ys,rfl,sq,dl):=nx.lst R.sub;obtain rfl:=aAs dl e1;let(u,rfl,ru):=pO r;cases ru;let(aG,rv,pl,hz):=I.list sq;have hh:X.A.in1.handled=qx:=I.ok.hd hc;refine call_sum_walkAnyS (wq pl.isList ?_);have hne:a≠s.heap.objs.size:=by
   let(o,ho,_):=pl.isList;exact xAj (xAa ho)
  have hl:=rv.length;rw[yAa] at hl;refine(_,_,_,_,_,_,_,λ i=>ns.getD i 0,rfl,aOW hh s.heap.objs.size a hne aG.toArray,((_,xAd _ rfl,rfl,rfl,),?_,),λ b hb=>?_,λ i v e=>aOT rv (e:),λ s' t' mv=>?_,)
  .let(o,ho,r'):=pl.isList;exact(o,hpS _ ho,r',)
  .let(o,ho,_):=pl.isList;have h1:=xAa ho;simp only[yCc,yCd,or_false] at hb;rw[yGe];rcases hb with rfl|rfl
   .exact yDd _
   .exact Nat.lt_succ_of_lt h1
  .let(h',g',d',t2,o'):=s';let(mh,mg,md,mo,mt):=mv;dsimp only at mh mg md mo;subst mg md mo;have I':Inv X aB σ H {s with heap:=h',toks:=t2 }:=I.kept λ b o e=>mh b o (λ z=>by
    have:b=s.heap.objs.size:=(z:)
    exact yCs _ (this▸xAa e)) (hpS _ e)
   have e3:preSum (λ i=>ns.getD i 0) aG.toArray.size=ns.sum:=by
    rw[yAl,<- hl,aGR ns ↑ns (yAc _),yAi]
   rw[e3];exact(.int ns.sum,H,I',(_,rfl,),q.here R (.int _),)
 .cases e
def aMk:D->Option D
 |.int i=>qz (.int ((yAp i:Nat):Int))|_=>qx
def aFe(fa:FE):FE:=f1 fa (oE aMk)
def aUb:MtR X "int.bit_length" (λ x xs H Q=>∃ i,x=.int i/\xs=[]/\Q (.int ((yAp i:Nat):Int)) H):=λ aB s σ H x xs v us Q I rx rs aW=>by
 let(i,e1,e2,q):=aW;subst e1 e2;let(t,rfl):=rx;cases rs;exact call_gives yGr (yz s i t) PySem.F.entry_int_bit_length (PySem.F.args_int_bit_length_1 _) (PySem.AutoIntG2.int_bit_length_int_0 i t) (show EP X aB σ Q _ _ from (.int _,H,I.tok _,(_,rfl,),q,))
section
variable {X:Cx}{aB:List (qk×Obj)}{σ:L2.St}{H:Hp}{s:qy}{h':Heap}
def aHk{ch:List qk}{p:qk}{o:HO}{t':Nat}(I:Inv X aB σ H s)(hch:∀ b∈ch,gM X aB H b)(k:∀ b u,b ∉ ch->s.heap.get? b=qz u->h'.get? b=qz u)(hp:s.heap.objs.size<=p)
 (new:eQ X.prog X.w (bE H p o) h' p o):Inv X aB σ (bE H p o) {s with heap:=h',toks:=t' }:=by
 have hn:=I.hok.fresh hp;have nch:∀ b u,H b=qz u->b ∉ ch:=λ b u e z=>by rw[(hch b z).1] at e;cases e
 have nep:∀ b u,s.heap.get? b=qz u->b≠p:=λ b u e z=>absurd (xAb (xAa e) hp) (by rw[z];simp_all)
 refine I.step (g':=s.gens) (d':=s.drawn) (ch:=ch) (λ b hb=>((hch b hb).2.2.2.1,(hch b hb).2.1,(hch b hb).2.2.2.2.1,(hch b hb).2.2.2.2.2,)) (λ b o _ _ hc e _=>k b o hc e) (λ b o _ _ hc e _=>(o.slots,k b o hc e,)) (λ b o _ e n=>by rw[bV (nep b o e)];exact n)
  (λ b o hc e=>(o,k b o hc e,)) (λ b xs e=>by rw[bV (eO e hn)];exact e) (λ b u v e=>by rw[bV (eO e hn)];exact e) (λ b ps e=>(#[],by rw[bV (eO e hn),e];simp,)) (λ m hm=>?_) (λ b u e=>?_) I.bare
 .let(o,es,ep,ho,r):=hm;exact(o,es,ep,k _ o (λ z=>(hch _ z).2.1 rfl) ho,r,)
 .by_cases hb:b=p
  .subst hb;rw[cQ] at e;simp_all
  .rw[bV hb] at e;refine(I.hok b u e).stay (λ c v hc q=>k c v ?_ q) (λ c q=>by rw[bV (eO q hn)];exact q) λ c xs q=>by rw[bV (eO q hn)];exact q
   rcases hc with z|z
   .rw[z];exact nch b u e
   .exact nch c _ z
end
def aX6(k:Int):List D->List D
 |[]=>[]|d::r=>.tuple [.int k,d]::aX6 (k+1) r
def aOj{E:qj -> qy -> Prop}{s:qy}{Q:qj->qy->Prop}(hit:s.heap.IsTupleIter it t i)(ht:s.heap.IsTuple t aX)(hx:aX[i]?=qz x)(hQ:∀ h',h'.IsTupleIter it t (i+1)->yDi it s.heap h'->Q x {s with heap:=h' }):zq (model prog w) A (yBt (.ref it)) Q E s:=by let(o,ho,hc,hd):=id hit;let(ol,hol,_,nl,hdl):=ht;unfold yBt;refine wB (wpAny_callSpecial?_slot (name:=Str.ofString "__next__") hit.typeIs F.slot_tuple_iterator_next (vq F.slot_tuple_iterator_next hit.typeIs F.entry_tuple_iterator_next ?_ (F.args_tuple_iterator_next_1 _)));show zq _ _ (field (.ref it) 0 >>= _) _ _ s;refine wB (xj ho hd (x:=.ref t) rfl ?_);show zq _ _ (if (Value.ref t==Value.none)=true then _ else _) _ _ s;rw[if_neg (show ¬ ((Value.ref t==Value.none)=true) from yBi)];show zq _ _ (field (.ref it) 1 >>= _) _ _ s;refine wB (xj ho hd (x:=.int i 0) rfl ?_);show zq _ _ (seqItems? (.ref t) >>= _) _ _ s;refine wB (ju hol hdl ?_);simp only[yAu,hx];refine wB (wpAny_setField ho hd (by simp) (wP (x,rfl,wP (hQ _ (_,yCv _ ho (Obj.isFreed_of_fields (Obj.data_mapFields hd _)),(Obj.cls_mapFields ..).trans hc,?_,) (Heap.SameBut.update ..)),)));rw[Obj.data_mapFields hd];simp[yk]
def aOn{A:zy}{E:qj -> qy -> Prop}{s:qy}{Q:qj->qy->Prop}(hh:A.handled=qx)(hit:s.heap.IsTupleIter it t i)(ht:s.heap.IsTuple t aX)(hx:aX[i]?=qx)(hE:∀ h' e,Heap.ExtBut it s.heap h'->(∃ o,h'.get? e=qz o/\o.cls=.type "StopIteration")->E (.ref e) {s with heap:=h' }):zq (model prog w) A (yBt (.ref it)) Q E s:=by
 let(o,ho,hc,hd):=id hit;let(ol,hol,_,nl,hdl):=ht;unfold yBt;refine wB (wpAny_callSpecial?_slot (name:=Str.ofString "__next__") hit.typeIs F.slot_tuple_iterator_next (vq F.slot_tuple_iterator_next hit.typeIs F.entry_tuple_iterator_next ?_ (F.args_tuple_iterator_next_1 _)));show zq _ _ (field (.ref it) 0 >>= _) _ _ s;refine wB (xj ho hd (x:=.ref t) rfl ?_);show zq _ _ (if (Value.ref t==Value.none)=true then _ else _) _ _ s;rw[if_neg (show ¬ ((Value.ref t==Value.none)=true) from yBi)];show zq _ _ (field (.ref it) 1 >>= _) _ _ s;refine wB (xj ho hd (x:=.int i 0) rfl ?_);show zq _ _ (seqItems? (.ref t) >>= _) _ _ s;refine wB (ju hol hdl ?_);simp only[yAu,hx];refine wB (yx (wB (wpAny_setField ho hd (by simp) ?_)));show zq _ _ (newExc (.type "StopIteration") [] >>= _) _ _ _;refine wB ?_;simp only[newExc,newTuple];refine wB (xy (wB (m:=firstArgMember _ _) (wpAny_of_eq (a:=Value.none) (by first|rfl|(simp only[firstArgMember];rfl)) (xy ?_ (by size_fits)))) (by size_fits));simp only[raiseNew];refine wB (wpAny_handled ?_)
 first|rw[show A.in1.handled=qx from hh]|rw[hh]
 exact wB (wP (wpAny_throw (hE _ _ (((Heap.SameBut.update ..).extBut.push _).push _) (_,xAd _ rfl,rfl,))))
def aQA{A:zy}(hh:A.handled=qx)(it t:qk)(hne:t≠it)(aX:Array qj):Draws prog w A it [it,t] aX.size (λ i v=>aX[i]?=qz v) (λ i h=>h.IsTupleIter it t i/\h.IsTuple t aX) where
 live:=λ _ _ st=>let ⟨o,ho,_⟩:=st.1;(o,ho,)
 frame:=λ _ _ _ st hk=>(st.1.at λ o e=>hk it (by simp) o e,let ⟨u,hu,r⟩:=st.2;(u,hk t (by simp) u hu,r,),)
 item:=λ i s Q E hi st hQ=>aOj st.1 st.2 (x:=aX[i]) (by simp[hi]) λ h' hit' hs'=>hQ _ h' s.toks (by simp[hi]) (hit',let ⟨u,hu,r⟩:=st.2;(u,hs'.extBut t u hne hu,r,),) hs'
 done:=λ s Q E st hE=>aOn hh st.1 st.2 (by simp) hE
inductive Tv where
 |int (i:Int)|str (x:Str)|bool (b:Bool)
 deriving DecidableEq
def Tv.d:Tv->D
 |.int i=>.int i|.str x=>.str x|.bool b=>.bool b
def Tv.v:Tv->V
 |.int i=>.int i|.str x=>.str x|.bool b=>.bl b
def Tv.den(t:Tv):Den K F t.d t.v:=by
 cases t
 .exact .int _
 .exact .str _
 .exact .bl _
def uF(w:zw):List DictEntry->List (Str×Tv)->Prop
 |[],[]=>True|e::r,(x,v)::aH=>e.hash=hashStr w x/\(∃ t,e.key=.str x t)/\aY v.v e.val/\uF w r aH|_,_=>False
def xW(K:FrG)(w:zw)(a:qk)(aH:List (Str×Tv)):Prop:=(a==sysModules)=false/\∃ es ep,K.lookup a=qz {cls:=.type "dict",data:=.dict es ep }/\uF w es.toList aH
def aCl(aH:List (Str×Tv)):D->Option D
 |.str x=>(aH.lookup x).map Tv.d|_=>qx
def aIN:∀ {l:List DictEntry}{aH:List (Str×Tv)},uF w l aH->∀ e∈l,∃ k,(fN P w).is k e.key=true/\e.hash=(fN P w).hash k
 |[],[],_,e,h=>by cases h
 |e::r,(x,v)::aH,ok,e',h=>by
   let(h1,(t,h2),_,h4):=ok;rcases List.mem_cons.mp h with rfl|h
   .exact(.inr x,by rw[h2];exact aC3 x t,h1,)
   .exact aIN h4 e' h
 |[],_::_,ok,_,_=>ok.elim|_::_,[],ok,_,_=>ok.elim
def aRH(x y:Str)(t:Tok):nO (.inr x) (.str y t)=(x==y):=by
 have h:(y==x)=(x==y):=by
  rw[yEs];constructor<;>intro z<;>simp at z ⊢ <;> exact z.symm
 simp[nO,Value.isStrOf,h]
def aIG:∀ {l:List DictEntry}{aH:List (Str×Tv)},uF w l aH->aH.lookup k=qz v->∃ u,(l.find? λ e=>nO (.inr k) e.key).map (·.val)=qz u/\aY v.v u
 |[],[],_,h=>by cases h
 |e::r,(x,v')::aH,ok,h=>by
   let(h1,(t,h2),h3,h4):=ok;rw[yCb] at h;rw[yCw,h2,aRH];cases q:k==x with
   |true=>
     rw[q] at h;simp_all
   |false=>
     rw[q] at h;exact aIG h4 h
 |[],_::_,ok,_=>ok.elim|_::_,[],ok,_=>ok.elim
def aVr:vL X (λ x y H Q=>∃ a k v,x=.ref a/\xW X.K X.w a aH/\y=.str k/\aH.lookup k=qz v/\Q v.v H):=by
 intro value iM aB s σ H x y v u Q I rx ry h hs;let(a,k,tv,rfl,(_,es,ep,hl,ok),rfl,hv,q):=h;cases rx;let(t,rfl):=ry;let(z,e1,e2):=aIG ok hv;have hm:s.heap.MapOf (fN X.prog X.w) a (λ k=>findBy (fN X.prog X.w).is es k):=(_,es,ep,I.kIn a _ hl,(rfl,rfl,rfl,),rfl,λ e he=>aIN ok e (he:),λ _=>rfl,);have hz:findBy (fN X.prog X.w).is es (.inr k)=qz z:=by
  unfold findBy;rw[<- Array.find?_toList];exact e1
 exact tail_any hm.typeIs PySem.F.slot_dict_getitem.lookup (wpAny_getItem_of (aC3 k t) hm hz (_,H,I.tok _,e2,q,)) hs
def aYC{fk:FE}(hg:Gl X x)(hd:(x==("__debug__" : Str))=false)(ht:∃ a,X.mg x=qz (.ref a)/\xW X.K X.w a aH)(hk:PE X k (aS X.K fk))(hs:wN k) :
 PE X (.Subscript (.Name x p) k pos) (aS X.K (f1 fk (oE (aCl aH)))):=by
 let(a,hm,ta):=ht;refine PE.weak (aMQ (aVr (aH:=aH)) (aJH (v:=.ref a) hg hm rfl hd) hk hs) λ σ H Q hPq48=>?_
 let(F,L,S,env,w,S',R,E,e,q):=hPq48;let((w1,S1),e1,e2):=aM e;let(d,z,e3,e4,rfl,rfl):=aDe e2;cases d with
 |str y=>
   let(v,hv,rfl):=Option.map_eq_some_iff.mp (show(aH.lookup y).map Tv.d=qz z from e4);refine(F,L,S,env,w1,_,R,E,e1,λ F1 L1 H1 u g1 R1 d1=>(a,y,v,rfl,ta,(jP R1 d1 e3).str,hv,?_,),);exact q F1 L1 H1 v.v g1 R1 (show Den X.K F1 v.d v.v from v.den)
 |_=>cases e4
def aBU:List qj->List Tv->Prop
 |[],[]=>True|u::us,t::ts=>aY t.v u/\aBU us ts|_,_=>False
def aIr:∀ {us:List qj}{ts:List Tv},aBU us ts->aZ (ts.map Tv.v) us
 |[],[],_=>.nil|_::_,_::_,⟨h1,h2⟩=>.cons h1 (aIr h2)|[],_::_,h=>h.elim|_::_,[],h=>h.elim
def aKi:∀ ts:List Tv,DenL K F (ts.map Tv.d) (ts.map Tv.v)
 |[]=>.nil|t::ts=>.cons t.den (aKi ts)
def tX(K:FrG)(a:qk)(ts:List Tv):Prop:=∃ (o:Obj) (aG:Array qj) (n:Nat),K.lookup a=qz o/\o.cls=.type "tuple" /\ o.data=.seq aG n/\aG.size<=qo/\aBU aG.toList ts
def aSZ(h:tX K a ts):Den K F (.tuple (ts.map Tv.d)) (.ref a):=by let(o,aG,n,h1,h2,h3,h4,h5):=h;exact .tup (.inr (o,aG,n,h1,h2,h3,h4,aIr h5,)) (aKi ts)
def aXA(hg:Gl X x)(hd:(x==("__debug__" : Str))=false)(ht:∃ a,X.mg x=qz (.ref a)/\tX X.K a ts):PE X (.Name x p) (aS X.K (fC (.tuple (ts.map Tv.d)))):=by
 let(a,hm,ca):=ht;refine PE.weak (aJH (v:=.ref a) hg hm rfl hd) λ σ H Q hPq49=>?_
 let(F,L,S,env,w,S',R,E,e,q):=hPq49;cases e;exact q F L H _ Gr.refl R (aSZ ca)
def aUT(op op':jj)(fa fb fc:FE):FE:=λ env S=>(fa env S).bind λ p=>(fb env p.2).bind λ q=>(hU (aP op) q.2 p.1 q.1).bind λ r=>match r.1 with|.d (.bool true)=>(fc env r.2).bind λ t=>hU (aP op') t.2 q.1 t.1|.d (.bool false)=>qz (.d (.bool false),r.2)|_=>qx
def aOe{E:qj->qy->Prop}{s:qy}{lo hi:Option Int}{Q:qj->qy->Prop}(ht:IsTup s.heap t aX)(hs:s.heap.IsSliceOf sl vl vu .none)(pl:IsPart vl lo)(pu:IsPart vu hi)(hw:HT.sIx aX.size 0 lo=0/\HT.sIx aX.size aX.size hi=aX.size)(h:Q (.ref t) s):zq (model prog w) A (getItem (.ref t) (.ref sl)) Q E s:=by
 let(os,hos,hcs,hds):=id hs;have hTs:s.TypeIs (.ref sl) "slice":=(os,hos,hcs,);unfold getItem
 try with_reducible refine xq ?_
 first|refine wB (wP ?_)|skip
 refine wB (wpAny_sequenceKey ht.typeIs (·) ?_)
 refine wB (wpAny_callSpecial?_slot (name:=Str.ofString "__getitem__") ht.typeIs yCo
  (vq yCo ht.typeIs entry_tuple_getitem ?_ (args_tuple_getitem _ _)))
 show zq _ _ (yGx (.ref t) >>= _) _ _ s;refine wB (tupleItemsOf_ ht ?_);refine wB (wpAny_typeOf hTs ?_);rw[if_pos (·)];refine wB (HT.sliceApplied_gen hs pl pu ?_);have hyes:(((HT.sIx aX.size 0 lo:Nat):Int)==0&&(1:Int)==1&&(HT.sIx aX.size aX.size hi-HT.sIx aX.size 0 lo)==aX.size)=true:=by
  rw[hw.1,hw.2];simp
 show zq _ _ (if (((HT.sIx aX.size 0 lo:Nat):Int)==0&&(1:Int)==1&&(HT.sIx aX.size aX.size hi-HT.sIx aX.size 0 lo)==aX.size)=true then _ else _) _ _ s;rw[if_pos hyes];unfold Builtin.Tuple.tupleIsExact;refine wB (wB (wpAny_typeOf ht.typeIs (wP ?_)));rw[if_pos (·)]
 first
  |exact wB (yx (wP (_,rfl,wP h,)))
  |exact wB (yx (wB (wP (wP (_,rfl,wP h,)))))
  |exact wB (yx (wP (_,rfl,h,)))
def aXX(K:FrG):V->Option Int->Option Int->Hp->VK->Prop:=λ x lo hi H Q=>∃ a xs,x=.ref a/\cN K H a xs /\
 (((HT.sIx ↑xs 0 lo=0/\HT.sIx ↑xs ↑xs hi=↑xs)/\Q (.ref a) H)\/(¬ (HT.sIx ↑xs 0 lo=0/\HT.sIx ↑xs ↑xs hi=↑xs)/\∀ p,H p=qx->Q (.ref p) (bE H p (.tup (oC xs lo hi)))))
def aTE:SlR X (aXX X.K):=by
 intro aB s σ H x v vl vu lo hi sl Q I rx hs pl pu h;obtain⟨a,xs,rfl,hx,⟨hw,q⟩|⟨hw,q⟩⟩:=h
 .cases rx;let(aG,r,ht,hz):=I.tuple hx;have cS:aG.toArray.size=↑xs:=by rw[yAl];exact r.length.symm
  refine("tuple",_,PyProof.Rows.slot_tuple_getitem.lookup,ht.typeIs,?_,);exact aOe ht hs pl pu (by rw[cS];exact hw) (.ref a,H,I,rfl,q,)
 .exact aWv aB s σ H _ v vl vu lo hi sl Q I rx hs pl pu (a,xs,rfl,hx,hw,q,)
def aM5:D->Option Int->Option Int->Option D
 |.tuple xs,lo,hi=>qz (.tuple (eE xs lo hi))|_,_,_=>qx
def aMM(fa:FE)(fl fh:FO):FE:=λ env S=>(fa env S).bind λ p=>(fl env p.2).bind λ q=>(fh env q.2).bind λ r=>(dr r.2 p.1).bind λ d=>(aM5 d q.1 r.1).bind λ z=>qz (.d z,r.2)
def aUt{lo hi:Option qu}{fa:FE}{fl fh:FO}(ha:PE X a (aS X.K fa))(hl:PO X lo (mL X.K fl))(hh:PO X hi (mL X.K fh)):PE X (.Subscript a (.Slice lo hi qx p2) pos) (aS X.K (aMM fa fl fh)):=
 PE.weak (aIw aTE ha hl hh) λ σ H Q aW=>by
  let(F,L,S,env,ds,S',R,E,e,q):=aW;let((w,S1),e1,e):=aM e;let((l,S2),e2,e):=aM e;let((h,S3),e3,e):=aM e;let(d,e4,e):=aM e;let(z,e5,e):=aM e;cases e;refine(F,L,S,env,w,S1,R,E,e1,λ F1 L1 H1 v g1 R1 d1=>(F1,L1,S1,env,l,S2,R1,E.mono g1,e2,λ F2 L2 H2 g2 R2=>(F2,L2,S2,env,h,S3,R2,E.mono (g1.trans g2),e3,λ F3 L3 H3 g3 R3=>?_,),),);have n:=jP R3 (d1.mono (g2.trans g3)) e4;cases d with
  |tuple xs=>
    cases e5;let(a,vs,rfl,sq,dl):=n.tup R3.sub;refine(a,vs,rfl,sq,?_,);by_cases hw:HT.sIx ↑vs 0 l=0/\HT.sIx ↑vs ↑vs h=↑vs
    .refine .inl (hw,q F3 L3 H3 _ ((g1.trans g2).trans g3) R3 ?_,);have ec:eE xs l h=xs:=by
      unfold eE;rw[dl.length,hw.1,hw.2,yFc,yHe,<- dl.length,yAi]
     rw[ec];rcases n with n|⟨_,_,_,z,_⟩
     .exact n
     .cases z
    .exact .inr (hw,λ p hp=>q _ L3 _ _ (((g1.trans g2).trans g3).trans (Gr.new (R3.sub.free hp))) (R3.new hp) (Den.tup (cN.of cQ) ((aJq dl l h).mono (gH (R3.sub.free hp)))),)
  |_=>cases e5
def aY3(X:Cx):R2:=λ x y H Q=>∃ a k xs,x=.ref a/\y=.int k/\cB X.K H a xs /\ -(2^63)<=k/\k<2^63/\↑xs*k.toNat<=qo/\∀ p,H p=qx->Q (.ref p) (bE H p (.lst (yAf k.toNat xs).flatten))
def zQ(fa fb:FE):FL:=λ env S=>(fa env S).bind λ p=>(fb env p.2).bind λ q=>(dr q.2 p.1).bind λ d=>match d,q.1 with
 |.list xs,.d (.int k)=>if k<2^63 /\ -(2^63)<=k/\↑xs*k.toNat<=qo then qz (yO k.toNat xs,q.2) else qx
 |_,_=>qx
def aY9{fa fb:FE}(ha:PE X a (aS X.K fa))(hb:PE X b (aS X.K fb)):PE X (.BinOp a .Mult b pos) (iS X.K (zQ fa fb)):=by
 refine PE.weak (aE6 (r:=aY3 X) (λ aB s σ H x y v u Q I rx ry ⟨a,k,xs,hx,hy,sq,h1,h2,hz,q⟩=>?_) ha hb) λ σ H Q ⟨F,L,S,env,ds,S',R,E,e,q⟩=>?_
 .subst hx hy;cases rx;let(t,rfl):=ry;exact aNL I sq h1 h2 hz q
 .let((w1,S1),e1,e):=aM e;let((w2,S2),e2,e):=aM e;let(d,e3,e):=aM e;dsimp only at e e2 e3;refine(F,L,S,env,w1,S1,R,E,e1,λ F1 L1 H1 x g1 R1 d1=>(F1,L1,S1,env,w2,S2,R1,E.mono g1,e2,λ F2 L2 H2 y g2 R2 d2=>?_,),);cases d with
  |list xs=>
    cases w2 with
    |loc n=>cases e|exc c r=>cases e|dic n=>cases e|ob fs=>cases e|tpl ws=>cases e
    |d v=>
      cases v with
      |int kk=>
        dsimp only at e;split at e
        .rename_i c;cases e;let(a,vs,rfl,sq,dl):=(jP R2 (d1.mono g2) e3).lst R2.sub;cases (show Den X.K F2 (.int kk) y from d2);exact(a,kk,vs,rfl,rfl,sq,c.2.1,c.1,by rw[<- dl.length];exact c.2.2,λ p hp=>q F2 L2 _ p _ (g1.trans g2) (R2.lay hp) (R2.sub.free hp) (R2.notin hp) cQ (dl.rep kk.toNat),)
        .cases e
      |_=>cases e
  |_=>cases e
def aYU(X:Cx):R2:=λ x y H Q=>∃ a b xs ys,x=.ref a/\y=.ref b/\cB X.K H a xs/\cB X.K H b ys/\↑xs+↑ys<=qo/\∀ p,H p=qx->Q (.ref p) (bE H p (.lst (xs++ys)))
def aCc(fa fb:FE):FL:=λ env S=>(fa env S).bind λ p=>(fb env p.2).bind λ q=>(dr q.2 p.1).bind λ d=>(dr q.2 q.1).bind λ e=>match d,e with
 |.list xs,.list ys=>if ↑xs+↑ys<=qo then qz (xs++ys,q.2) else qx
 |_,_=>qx
def aX3{fa fb:FE}(ha:PE X a (aS X.K fa))(hb:PE X b (aS X.K fb)):PE X (.BinOp a .Add b pos) (iS X.K (aCc fa fb)):=by
 refine PE.weak (aE6 (r:=aYU X) (λ aB s σ H x y v u Q I rx ry ⟨a,b,xs,ys,hx,hy,sq,sq',hz,q⟩=>?_) ha hb) λ σ H Q ⟨F,L,S,env,ds,S',R,E,e,q⟩=>?_
 .subst hx hy;cases rx;cases ry;exact aNo I sq sq' hz q
 .let((w1,S1),e1,e):=aM e;let((w2,S2),e2,e):=aM e;let(d,e3,e):=aM e;let(d',e4,e):=aM e;dsimp only at e e2 e3 e4;refine(F,L,S,env,w1,S1,R,E,e1,λ F1 L1 H1 x g1 R1 d1=>(F1,L1,S1,env,w2,S2,R1,E.mono g1,e2,λ F2 L2 H2 y g2 R2 d2=>?_,),);cases d with
  |list xs=>
    cases d' with
    |list ys=>
      dsimp only at e;split at e
      .rename_i c;cases e;let(a,vs,rfl,sq,dl):=(jP R2 (d1.mono g2) e3).lst R2.sub;let(b,us,rfl,sq',dl'):=(jP R2 d2 e4).lst R2.sub;exact(a,b,vs,us,rfl,rfl,sq,sq',by rw[<- dl.length,<- dl'.length];exact c,λ p hp=>q F2 L2 _ p _ (g1.trans g2) (R2.lay hp) (R2.sub.free hp) (R2.notin hp) cQ (dl.append dl'),)
      .cases e
    |_=>cases e
  |_=>cases e
section
open PySem.SeqAt
open PySem.AutoSeq1 (wpAny_loadPart')
open PySem.MeetsSeq PySem.MeetsSeq2 PySem.MeetsSeq3
def sY:∀ {vs:List qj}{ns:List Int}{i:Nat},IntsAre vs ns->i<↑vs->∃ a t,vs[i]?=qz (.int a t)/\ns.drop i=a::ns.drop (i+1)
 |_,_,i,.nil,h=>absurd h (yCa i)|_,_,0,.cons a t _,_=>(a,t,rfl,rfl,)
 |_,_,i+1,.cons a t r,h=>by
   let(b,u,h1,h2):=sY (i:=i) r (h:);exact(b,u,by simpa using h1,by simpa using h2,)
end
def aNC(f:FL):FL:=λ env S=>(f env S).bind λ p=>if p.1.length<=1000000 then qz p else qx
def vX:1000000<=qo:=by rw[zj];decide
def Itd(hi:Int)(n:Nat):It:=(λ i _=>i<n,λ i H x H'=>H'=H/\x=.int (hi-i),λ i _=>n<=i,)
def aQs(it:qk)(hi:Int)(n:Nat):Turn P w K tg (Itd hi n) [it] it (λ i h=>kz h it (hi+(i:Nat)*(-1)) ((n:Int)-(i:Nat)) (-1)) where
 mem:=by simp
 obj:=λ i h st b hb=>by
  simp_all
 keep:=λ i h h' st k=>k it (by simp) _ st
 item:=by
  intro X hP hw hK hc i aB s σ H E I hf st hg;subst hP hw hK;let(f0,f1,f2,f3,f4,f5):=hf it (by simp);have W:=Walks.range (prog:=X.prog) (w:=X.w) (I.ok.hd hc) it hi (-1) n;refine W.item i s _ _ hg st λ v h' tk hv st' kk=>?_
  let(t,rfl):=hv;have I1:Inv X aB σ H {s with heap:=h',toks:=tk }:=I.turned (λ b o hb e=>kk b o (hb:) e) f0 f1 f3 f4 f5;refine(_,rfl,aBE (s:={s with heap:=h',toks:=tk }) (n:="range_iterator") st' rfl rfl (·) (.int (hi-i),H,I1,(t,?_,),(rfl,rfl,),st',λ b hb=>(hf b hb).1,),);congr 1;omega
 done:=by
  intro X hP hw hK hc i aB s σ H E I hf st hg;subst hP hw hK;let(f0,f1,f2,f3,f4,f5):=hf it (by simp);exact wpAny_pyNext_range_end (I.ok.hd hc) st (by have:n<=i:=hg;omega) λ h' eb=>(rfl,I.turned (t':=s.toks) (λ b o hb e=>eb b o hb e) f0 f1 f3 f4 f5,)
 self:=λ _ _ _ _ _ st h=>kq st h
def aGE(a b:Int):yEf a b (-1)=if b<a then a-b else 0:=by unfold yEf;simp_all
def aPw{a b:Int}(ha : -(2^62)<=a)(ha':a<2^62)(hb : -(2^62)<=b)(hb':b<2^62):yIj a b (-1)=true:=by unfold yIj;rw[aGE];simp only[Builtin.Range.rangeFitsLong,yBv,yDo,decide_eq_true_eq,beq_iff_eq,show ¬ ((-1:Int)>0) by decide,if_false];split<;>omega
def aS7{R:It->Hp->Prop}{E:qj->qy->Prop}{hi lo:Int}(I:Inv X aB σ H s)(h1 : -(2^62)<=hi)(h2:hi<2^62)(h3 : -(2^62)<=lo)(h4:lo<2^62)(q:R (Itd hi (hi-lo).toNat) H):zq (model X.prog X.w) X.A (pyIter (.ref s.heap.objs.size)) (PIE X aB σ tg R) E {s with heap:=s.heap.push {cls:=.type "range",data:=.fields #[.int hi t,.int lo u,.int (-1) v] },toks:=tk }:=by
 refine wpAny_pyIter_range (IsRange.new ..) (aPw h1 h2 h3 h4) ?_;have I1:Inv X aB σ H {s with heap:=s.heap.push {cls:=.type "range",data:=.fields #[.int hi t,.int lo u,.int (-1) v] },toks:=tk }:=I.kept λ b o e=>hpS _ e
 refine⟨(s.heap.push {cls:=.type "range",data:=.fields #[.int hi t,.int lo u,.int (-1) v] }).objs.size,[(s.heap.push {cls:=.type "range",data:=.fields #[.int hi t,.int lo u,.int (-1) v] }).objs.size],_,_,H,rfl,
  I1.kept (t':=tk) λ b o e=>hpS _ e,aQs _ hi (hi-lo).toNat,?_,λ b hb=>?_,q⟩
 .have e1:hi+((0:Nat):Int)*(-1)=hi:=by simp
  have e2:(((hi-lo).toNat:Nat):Int)-((0:Nat):Int)=yEf hi lo (-1):=by rw[aGE];split<;>omega
  show kz _ _ (hi+((0:Nat):Int)*(-1)) ((((hi-lo).toNat:Nat):Int)-((0:Nat):Int)) (-1);rw[e1,e2];exact xAd _ rfl
 .have e:b=(s.heap.push {cls:=.type "range",data:=.fields #[.int hi t,.int lo u,.int (-1) v] }).objs.size:=(hb:)
  subst e;exact I1.fpOk (yAc _) (I1.hok.fresh (yAc _))
def aMR(ta:TA):TI:=λ σ H R=>ta σ H λ vs H1=>∃ i j:Int,vs=[.int i,.int j,.int (-1)]/\(-(2^62)<=i/\i<2^62 /\ -(2^62)<=j/\j<2^62)/\R (Itd i (i-j).toNat) H1
def aPT{ta:TA}(hg:Gl X "range")(hm:X.mg "range" = qx)(ha:PA X [a,b,c] ta)(hs:zx [a,b,c] X.env=(false,eval a X.env)::zx [b,c] X.env)(hs2:zx [b,c] X.env=[(false,eval b X.env),(false,eval c X.env)]) :
 PI X tg (.Call (.Name "range" p) [a,b,c] [] pos) (aMR ta):=by
 intro aB s σ H R I h;refine Call_ (pB I hg hm boot_range (yBm (bC (ha pos aB s σ H _ I h) λ us s1 hPq50=>?_) hs (by rw[hs2];rfl)));let(vs,H1,I1,r1,q1):=hPq50;let(i,j,e,(q1,q2,q3,q4),q):=q1;subst e;cases r1 with
 |cons r rr=>
   cases rr with
   |cons r' rr=>
     cases rr with
     |cons r'' rr=>
       cases rr;let(t,rfl):=r;let(t',rfl):=r';let(t'',rfl):=r'';exact call_range_3 (·) (aS7 I1 q1 q2 q3 q4 q)
def mB(hi:Int):Nat->List D
 |0=>[]|n+1=>.int hi::mB (hi-1) n
def sL:∀ (n:Nat) (hi:Int),(mB hi n).length=n
 |0,_=>rfl|n+1,hi=>by rw[mB,yAr,sL n]
def aCU:∀ (n:Nat) (hi:Int) (i:Nat),i<n->(mB hi n)[i]?=qz (.int (hi-i))
 |0,_,_,h=>by omega|n+1,hi,0,_=>by simp[mB]
 |n+1,hi,i+1,h=>by
   rw[mB,yBp,aCU n (hi-1) i (!_)];congr 2
   push_cast
   omega
def aSS(hi:Int)(n:Nat):Wk K F L (Itd hi n) (mB hi n) where
 go:=λ i H s hi=>by rw[sL] at hi;exact hi
 stop:=λ H s=>by rw[sL];exact yAc _
 yld:=λ i H F1 L1 S x H' d g R e y=>by
  let(rfl,rfl):=y;have hi:i<n:=by
   have:=(gIm e).1;rw[sL] at this;exact this
  rw[aCU n _ i hi] at e;cases e;exact(F1,cD.refl _,R,.int _,)
def xQ(fa fb fc:FE):FL:=λ env S=>(fa env S).bind λ p=>(fb env p.2).bind λ q=>(fc env q.2).bind λ r=>match p.1,q.1,r.1 with
 |.d (.int i),.d (.int j),.d (.int k)=>if (-(2^62)<=i/\i<2^62 /\ -(2^62)<=j/\j<2^62)/\k = -1 then qz (mB i (i-j).toNat,r.2) else qx
 |_,_,_=>qx
def aWx{fa fb fc:FE}(σ:L2.St)(H:Hp)(Rr:It->Hp->Prop)(h:jM K (xQ fa fb fc) σ H Rr):aMR (eN K (dF fa (dF fb (dF fc iE)))) σ H Rr:=by
 let(F,L,S,env,ds,S',R,E,e,q):=h;let((w,S1),e1,e2):=aM e;let((w2,S2),e3,e4):=aM e2;let((w3,S3),e5,e6):=aM e4;dsimp only at e6 e3 e5;split at e6
 .split at e6
  .rename_i c;let(c,rfl):=c;cases e6;refine(F,L,S,env,[.d (.int _),.d (.int _),.d (.int _)],_,R,E,by unfold dF;rw[e1];dsimp only[yDn];rw[e3];dsimp only[yDn];rw[e5];rfl,λ F1 L1 H1 vs g1 R1 d1=>?_,);cases d1 with
   |cons dd dr=>
     cases dr with
     |cons dd2 dr=>
       cases dr with
       |cons dd3 dr=>
         cases dr;cases (show Den K F1 (.int _) _ from dd);cases (show Den K F1 (.int _) _ from dd2);cases (show Den K F1 (.int _) _ from dd3);exact(_,_,rfl,c,q F1 L1 H1 _ g1 R1 (aSS _ _),)
  .cases e6
 .cases e6
def aWI(t:Bool):String:=if t then "tuple_iterator" else "list_iterator"
def gE(t:Bool)(h:Heap)(a:qk)(aG:Array qj):Prop:=match t with|true=>h.IsTuple a aG|false=>h.IsList a aG
def mZ(t:Bool)(h:Heap)(it a:qk)(i:Nat):Prop:=match t with|true=>h.IsTupleIter it a i|false=>h.IsListIter it a i
def Sq(t:Bool)(K:FrG)(H:Hp)(a:qk)(xs:List V):Prop:=match t with|true=>cN K H a xs|false=>cB K H a xs
def mZ.at{h':Heap}(x:mZ t h it a i)(q:∀ o,h.get? it=qz o->h'.get? it=qz o):mZ t h' it a i:=by
 cases t with
 |true=>exact Heap.IsTupleIter.at (h:=h) x q|false=>exact Heap.IsListIter.at (h:=h) x q
def mZ.obj(x:mZ t h it a i):∃ o,h.get? it=qz o/\∀ v,o.data≠.cell v:=by
 cases t with
 |true=>let(o,ho,hc,hd):=x;exact⟨o,ho,λ v z=>by rw[hd] at z;cases z⟩
 |false=>let(o,ho,hc,hd):=x;exact⟨o,ho,λ v z=>by rw[hd] at z;cases z⟩
def gE.lt(x:gE t h a aG):a<h.objs.size:=by
 cases t with
 |true=>let(o,ho,_):=x;exact xAa ho
 |false=>let(o,ho,_):=x;exact xAa ho
def aRL{A:zy}(hh:A.handled=qx)(t:Bool)(it l:qk)(hne:l≠it)(aX:Array qj):Draws prog w A it [it,l] aX.size (λ i v=>aX[i]?=qz v) (λ i h=>mZ t h it l i/\gE t h l aX):=by
 cases t with
 |true=>exact aQA hh it l hne aX|false=>exact Draws.list hh it l hne aX
def aL8{xs:List V}(I:Inv X aB σ H s)(h:Sq t X.K H a xs):∃ aG:List qj,aZ xs aG/\gE t s.heap a aG.toArray:=by
 cases t with
 |true=>let(aG,rv,pl,hz):=I.tuple h;exact(aG,rv,pl,)
 |false=>let(aG,rv,pl,hz):=I.list h;exact(aG,rv,pl.isList,)
def aLr{xs:List V}(I:Inv X aB σ H s)(h:Sq t X.K H a xs)(h':Sq t X.K H a ys):xs=ys:=by
 cases t with
 |true=>exact I.tuple_inj h h'|false=>exact I.list_inj h h'
def aDE{xs:List V}(e:cD H H')(h:Sq t K H a xs):Sq t K H' a xs:=by
 cases t with
 |true=>exact nK e h|false=>exact e.seq h
def aPs{aB:List (qk×Obj)}{σ:L2.St}{H:Hp}{s:qy}{h':Heap}{ch:List qk}{t':Nat}(I:Inv X aB σ H s)(hch:∀ b∈ch,gM X aB H b)(k:∀ b u,b ∉ ch->s.heap.get? b=qz u->h'.get? b=qz u) :
 Inv X aB σ H {s with heap:=h',toks:=t' }:=by
 have nch:∀ b u,H b=qz u->b ∉ ch:=λ b u e z=>by rw[(hch b z).1] at e;cases e
 refine I.step (g':=s.gens) (d':=s.drawn) (ch:=ch) (λ b hb=>((hch b hb).2.2.2.1,(hch b hb).2.1,(hch b hb).2.2.2.2.1,(hch b hb).2.2.2.2.2,)) (λ b o _ _ hc e _=>k b o hc e) (λ b o _ _ hc e _=>(o.slots,k b o hc e,)) (λ _ _ _ _ n=>n)
  (λ b o hc e=>(o,k b o hc e,)) (λ _ _ e=>e) (λ _ _ _ e=>e) (λ b ps e=>(#[],by rw[e];simp,)) (λ m hm=>?_) (λ b u e=>?_) I.bare
 .let(o,es,ep,ho,r):=hm;exact(o,es,ep,k _ o (λ z=>(hch _ z).2.1 rfl) ho,r,)
 .refine(I.hok b u e).stay (λ c v hc q=>k c v ?_ q) (λ _ q=>q) λ _ _ q=>q
  rcases hc with z|z
  .rw[z];exact nch b u e
  .exact nch c _ z
def aP8{E:qj -> qy -> Prop}{s:qy}{Q:qj->qy->Prop}(hl:gE t s.heap l aX)(h:Q (.ref s.heap.objs.size) {s with heap:=s.heap.push {cls:=.type (aWI t),data:=.fields #[.ref l,.int 0 0] } }):zq (model prog w) A (pyIter (.ref l)) Q E s:=by
 cases t with
 |true=>exact wpAny_pyIter_tuple hl h|false=>exact wq hl h
abbrev aLu(h:Heap)(z TI TO a:qk)(f:Bool):Prop:=
 h.get? z=qz {cls:=.type "zip",dict:=qx,data:=.fields #[yk a,.bool f,.bool false,.ref TI,.ref TO],slots:=#[] }
def aQI{E:qj -> qy -> Prop}{s:qy}{Q:Option Obj->qy->Prop}(h:Q (s.heap.get? a) s):zq (model prog w) A (loadIfAlive a) Q E s:=λ _ _ _=>h
def aPd{E:qj -> qy -> Prop}{s:qy}{TI TO:qk}{Q:Bool->qy->Prop}(hz:aLu s.heap z TI TO a f)(ha:∃ o,s.heap.get? a=qz o)(hQ:∀ h',aLu h' z TI TO a true->yDi z s.heap h'->Q false {s with heap:=h' }):zq (model prog w) A (yDp (.ref z)) Q E s:=by
 unfold yDp;refine wB (xj hz rfl (x:=yk a) rfl ?_);let(o,ho):=ha;have hn:((s.heap.get? ((a:Int)).toNat).isNone)=false:=by
  rw[yAu,ho];rfl
 show zq _ _ (loadIfAlive ((a:Int)).toNat >>= _) _ _ _;refine wB (aQI ?_);rw[hn];simp only[yBa,if_false];cases f with
 |true=>
   refine wB (xj hz rfl (x:=.bool true) rfl ?_);rw[if_neg (·)];exact wP (hQ s.heap hz (Heap.SameBut.refl _ _))
 |false=>
   refine wB (xj hz rfl (x:=.bool false) rfl ?_);rw[if_pos (·)];exact wB (jv hz (by simp) λ h₁ hz₁ hs₁=>wP (hQ h₁ hz₁ hs₁))
abbrev Tp(h:Heap)(a:qk)(xs:List qj):Prop:=h.get? a=qz {cls:=.type "tuple",data:=.seq xs.toArray }
abbrev Zo(h:Heap)(e:qk)(f:qj)(g:Bool):Prop:=h.get? (e+2)=qz {cls:=.type "zip",data:=.fields #[f,.bool g,.bool false,.ref e,.ref (e+1)] }
abbrev Zq:=List (Bool×qk)
structure ZT(n:Nat)(qs:Zq)(k j:Nat)(h:Heap):Prop where
 it:∀ (i:Nat) q,qs[i]?=qz q->mZ q.1 h (n+i) q.2 (if i<j then k+1 else k)
 ti:Tp h (n+↑qs) ((yCp n ↑qs).map .ref)
def nn(h:a≠b):(n+a:Nat)≠n+b:=λ e=>h (Nat.add_left_cancel e)
def na{a b:Nat}(h:a≠b):a≠b:=h
def mS{α:Type}{l:List α}{q:α}(h:l[i]?=qz q):i<↑l:=(gIm h).1
def ZT.keep{h':Heap}(T:ZT n qs k j h)(r:∀ c o,n<=c->c<=n+↑qs->h.get? c=qz o->h'.get? c=qz o):ZT n qs k j h':=
 (λ i q e=>(T.it i q e).at λ o x=>r _ o (yFh ..) (yDq (yEe (mS e)) _) x,r _ _ (yFh ..) (yAc _) T.ti,)
def ZT.all(T:ZT n qs k j h)(hj:↑qs<=j):ZT n qs (k+1) 0 h:=(λ i q e=>by have x:=T.it i q e;rw[if_pos (xAb (mS e) hj)] at x;rw[if_neg (yCa _)];exact x,T.ti,)
def aFl{os:List qj}(T:ZT n qs k j h)(hO:Tp h (n+↑qs+1) os)(hz:Zo h (n+↑qs) f g)(c:Nat)(h1:n<=c)(h2:c<=n+↑qs+2):∃ o,h.get? c=qz o/\∀ v,o.data≠.cell v:=by
 by_cases h3:c<n+↑qs
 .have e:=yAb (l:=qs) (show c-n<↑qs by omega);have:=(T.it _ _ e).obj;rwa [show n+(c-n)=c by omega] at this
 have:c=n+↑qs\/c=n+↑qs+1\/c=n+↑qs+2:=by omega
 rcases this with rfl|rfl|rfl
 .exact⟨_,T.ti,λ v z=>by cases z⟩
 .exact⟨_,hO,λ v z=>by cases z⟩
 .exact⟨_,hz,λ v z=>by cases z⟩
def Ys(qs:Zq)(vs:Nat->List qj)(k j:Nat)(ys:List qj):Prop:=∀ i:Nat,i<↑qs->i<j->(vs i)[k]?=ys[i]?
def aZ1(h:Heap)(e:qk):Prop:=∃ o,h.get? e=qz o/\o.cls=.type "StopIteration"
structure ZL(n:Nat)(qs:Zq)(k:Nat)(h0:Heap)(j:Nat)(h:Heap):Prop where
 t:ZT n qs k j h
 sz:h.objs.size=h0.objs.size
 fr:∀ c o,c<n\/n+↑qs+2<c->h0.get? c=qz o->h.get? c=qz o
def gE.at{h':Heap}(x:gE t h a aG)(f:∀ o,h.get? a=qz o->h'.get? a=qz o):gE t h' a aG:=by
 cases t with
 |true=>let(o,ho,r):=x;exact(o,f _ ho,r,)
 |false=>let(o,ho,r):=x;exact(o,f _ ho,r,)
def ZL.same(L:ZL n qs k h0 j h)(x:c=n+↑qs+1\/c=n+↑qs+2)(hs:yDi c h h'):ZL n qs k h0 j h':=
 (L.t.keep λ b o _ hb e=>hs.extBut _ _ (λ(z:b=c)=>by subst z;rcases x with rfl|rfl<;>omega) e,hs.1.trans L.sz,λ b o hb e=>hs.extBut _ _ (λ(z:b=c)=>by subst z;rcases x with rfl|rfl<;>omega) (L.fr b o hb e),)
def aL6{A:zy}{E:qj -> qy -> Prop}{s:qy}{Q:qj->qy->Prop}{us:List qj}(hh:A.handled=qx)(hq:qs[j]?=qz q)(L:ZL n qs k h0 j s.heap)(sq:gE q.1 h0 q.2 us.toArray/\q.2<n/\k<=↑us)(hQ:∀ x h' tk,us[k]?=qz x->ZL n qs k h0 (j+1) h'->yDi (n+j) s.heap h'->Q x {s with heap:=h',toks:=tk })(hE:∀ h' e,k=↑us->Heap.ExtBut (n+j) s.heap h'->aZ1 h' e->E (.ref e) {s with heap:=h' }):zq (model prog w) A (yBt (.ref (n+j))) Q E s:=by
 let(sq,lt,hk):=sq;replace sq:gE q.1 s.heap q.2 us.toArray:=gE.at sq λ o e=>L.fr _ o (.inl lt) e
 have D:=@aRL prog w _ hh q.1 (n+j) q.2 (xAj (xAb lt (yFh ..))) us.toArray;have t:=L.t.it j q hq;rw[if_neg (yCs _)] at t;have jl:=mS hq;have ze:us.toArray.size=↑us:=yAl ..;by_cases e:k<↑us
 .refine D.item k _ _ _ (ze▸e) (t,sq,) λ x h' tk px st hs=>hQ x h' tk (List.getElem?_toArray▸px) ((λ i q' hi=>?_,hs.extBut _ _ (nn (yHa jl)) L.t.ti,),hs.1.trans L.sz,λ c o hc e=>hs.extBut _ _ (λ(z:c=n+j)=>by subst z;omega) (L.fr c o hc e),) hs
  by_cases c:i=j
  .subst c;rw[hq] at hi;cases hi;rw[if_pos (yDd _)];exact st.1
  .have x:=(L.t.it i q' hi).at λ o x=>hs.extBut _ _ (nn c) x
   rwa [ite_cond_congr (propext ((λ z=>by omega,λ z=>by omega,):i<j ↔ i<j+1))] at x
 .have:us.toArray.size=k:=by omega
  exact D.done _ _ _ (this▸(t,sq,)) λ h' e hs he=>hE h' e (!_) hs he
structure ZH(n:Nat)(qs:Zq)(k:Nat)(h:Heap):Prop where
 t:ZT n qs k 0 h
 to:∃ os,↑os=↑qs/\Tp h (n+↑qs+1) os
 z:∃ f g,Zo h (n+↑qs) f g/\(f=.none/\g=false\/∃ a:Nat,f=yk a/\∃ o,h.get? a=qz o)
def aFf{α:Type}{l cK:List α}{x:α}(h:x::cK=l.drop j):l[j]?=qz x/\cK=l.drop (j+1):=by
 have e:l[j]?=qz x:=by rw[<- List.head?_drop,<- h];rfl
 refine(e,?_,);rw[<- List.tail_drop,<- h];rfl
def aL9{A:zy}{E:qj -> qy -> Prop}{s:qy}{qs:Zq}{vs:Nat -> List qj}{Q:Option qj->qy->Prop}(hh:A.in1.handled=qx)(h0:0<↑qs)(h3:↑qs<=3)(Z:ZH n qs k s.heap)(sq:∀ i q,qs[i]?=qz q->gE q.1 s.heap q.2 (vs i).toArray/\q.2<n/\k<=(vs i).length)(hQ:∀ h' tk ys,↑ys=↑qs->Ys qs vs k ↑qs ys->ZH n qs (k+1) h'->Tp h' s.heap.objs.size ys->(∀ c o,c<n\/n+↑qs+2<c->s.heap.get? c=qz o->h'.get? c=qz o) ->
   (Zo s.heap (n+↑qs) .none false->Zo h' (n+↑qs) (yk s.heap.objs.size) false)->Q (qz (.ref s.heap.objs.size)) {s with heap:=h',toks:=tk })(hE:∀ h' tk i,i<↑qs->k=(vs i).length->(∀ c o,c<n\/n+↑qs+2<c->s.heap.get? c=qz o->h'.get? c=qz o)->Q qx {s with heap:=h',toks:=tk }) :
 zq (model prog w) A (yu (.ref (n+↑qs+2))) Q E s:=by
 let(f,g,hz,hf):=Z.z;let(os,ol,kH):=Z.to;have hT:s.TypeIs (.ref (n+↑qs+2)) "zip":=(_,hz,rfl,);have hk3:∀ l:List qj,↑l=↑qs->↑l<=qo:=λ l e=>xAh (show ↑l<=1000000 by omega) vX
 have gr:∀ j,j<↑qs->((yCp n ↑qs).map Value.ref)[j]?=qz (.ref (n+j)):=λ j h=>by simp[h]
 unfold yu;refine wB (wpAny_attempt (wpAny_callSpecial?_slot (name:=Str.ofString "__next__") hT F.slot_zip_next (vq F.slot_zip_next hT F.entry_zip_next ?_ (F.args_zip_next_1 _))));show zq _ _ (field (.ref (n+↑qs+2)) 2 >>= _) _ _ _;refine wB (xj hz rfl (x:=.bool false) rfl ?_);show zq _ _ (field (.ref (n+↑qs+2)) 3 >>= _) _ _ _;refine wB (xj hz rfl (x:=.ref (n+↑qs)) rfl ?_);refine wB (ju Z.t.ti rfl ?_);have hi:(((yCp n ↑qs).map Value.ref).toArray.isEmpty)=false:=by
  cases e:↑qs with
  |zero=>omega|succ m=>rfl
 dsimp only;rw[hi];simp only[yBa,if_false];rcases hf with ⟨rfl,rfl⟩|⟨a,rfl,o,ho⟩
 .refine wB ?_;unfold yDp;refine wB (xj hz rfl (x:=.none) rfl (wP ?_));simp only[if_true];refine wB (yx ?_);refine wB (xj hz rfl (x:=.ref (n+↑qs+1)) rfl ?_);refine wB (jv hz (by simp) λ h₁ hz₁ hs₁=>?_);refine wB (wpAny_forIn_list _ (λ cK b s'=>∃ j os h tk,cK=((yCp n ↑qs).map Value.ref).zipIdx.drop j/\b=(qx,())/\s'={s with heap:=h,toks:=tk }/\ZL n qs k s.heap j h/\↑os=↑qs/\Tp h (n+↑qs+1) os/\Ys qs vs k j os/\Zo h (n+↑qs) .ellipsis false) _ ?_ ?_ _ _ ?_)
  .rintro x cK b s' ⟨j,os,h,tk,e1,e2,e3,L,e4,kH,hy,hz⟩;subst e2 e3;let(e5,e6):=aFf e1;have jl:j<↑qs:=by have:=mS e5;simpa using this
   have:x=(.ref (n+j),j):=by
    rw[List.getElem?_zipIdx,gr j jl] at e5;simpa using e5.symm
   subst this;refine wB (wpAny_onRaise ?_);show zq _ _ (yBt (.ref (n+j)) >>= _) _ _ _;refine wB (aL6 hh (yAb jl) L (sq j _ (yAb jl)) (λ x h2 tk2 hx L2 hs2=>wP ?_) λ h2 e ek hs2 he=>?_)
   .have hTO2:Tp h2 (n+↑qs+1) os:=hs2.extBut _ _ (na (!_)) kH;refine wB (ju hTO2 rfl (wB (vv hTO2 rfl (wB (wpAny_letGo (wP ?_))))));have hs3:=Heap.SameBut.update h2 (n+↑qs+1) (Obj.mapSeq (·.setIfInBounds j x));refine(j+1,os.set j x,_,tk2,e6,rfl,rfl,L2.same (.inl rfl) hs3,by simp[e4],?_,λ i hi hj=>?_,hs3.extBut _ _ (na (!_)) (hs2.extBut _ _ (na (!_)) hz),)
    .show Heap.get? _ _=_;rw[yCv _ hTO2 rfl];simp[Obj.mapSeq]
    .by_cases c:i=j
     .subst c;rw[hx];simp[e4,jl]
     .rw[hy i hi (!_),yAw (Ne.symm c)]
   .have hz2:Zo h2 (n+↑qs) .ellipsis false:=hs2 _ _ (na (!_)) hz;let(oe,ho,hc):=he;have hez:e≠n+↑qs+2:=λ x=>by subst x;rw[hz2] at ho;cases ho;simp at hc
    refine jv hz2 (by simp) λ h3 _ hs3=>?_
    exact wB (wpAny_isInstance (T:="StopIteration") (b:=true) (oe,hs3.extBut _ _ hez ho,hc,) isSubtype_stop (wP (hE _ _ j jl ek λ c o hc e=>hs3.extBut _ _ (λ z:c=_=>by subst z;omega) (hs2 _ _ (λ z:c=_=>by subst z;omega) (L.fr c o hc e)))))
  .rintro b s' ⟨j,os,h,tk,e1,e2,e3,L,e4,kH,hy,hz⟩;subst e2 e3;have jl:↑qs<=j:=by have:=congrArg yGc e1;simp at this;omega
   refine wB (ju kH rfl (wB (wpAny_newTuple ?_ (hk3 _ e4))));have hz6:Zo (h.push {cls:=.type "tuple",data:=.seq os.toArray }) (n+↑qs) .ellipsis false:=hpS _ hz;have zl:n+↑qs+2<h.objs.size:=xAa hz;show zq _ _ (yFd (.ref (n+↑qs+2)) (.ref h.objs.size) >>= _) _ _ _;unfold yFd;refine wB (wB (jv hz6 (by simp) λ h7 hz7 hs7=>jv hz7 (by simp) λ h8 hz8 hs8=>?_));have up:∀ c o,c≠n+↑qs+2->(h.push {cls:=.type "tuple",data:=.seq os.toArray }).get? c=qz o->h8.get? c=qz o:=λ c o c1 e=>hs8.extBut _ _ c1 (hs7.extBut _ _ c1 e)
   have hz9:Zo h8 (n+↑qs) (yk h.objs.size) false:=hz8;have hT8:Tp h8 h.objs.size os:=up _ _ (yHa zl) (xAd _ rfl);refine wP (_,rfl,?_,);show zq _ _ (pure (qz (Value.ref h.objs.size))) _ _ _;rw[L.sz] at hz9 hT8 ⊢;exact wP (hQ h8 _ os e4 (λ i hi _=>hy i hi (!_)) ((L.t.all jl).keep λ c o _ hc e=>up c o (na (!_)) (hpS _ e),(os,e4,up _ _ (na (!_)) (hpS _ kH),),_,_,hz9,.inr (_,rfl,_,hT8,),) hT8 (λ c o hc e=>up c o (na (!_)) (hpS _ (L.fr c o hc e))) λ _=>hz9)
  .exact(0,os,h₁,_,rfl,rfl,rfl,(ZL.mk Z.t rfl λ _ _ _ e=>e).same (.inr rfl) hs₁,ol,hs₁.extBut _ _ (na (!_)) kH,λ i _ z=>absurd z (yCa _),hz₁,)
 .have hz0:=hz;refine wB (aPd (z:=n+↑qs+2) hz (o,ho,) λ h₁ hz₁ hs₁=>?_);simp only[yBa,if_false];rw[<- Array.forIn_toList];refine wB (wpAny_forIn_list _ (λ cK b s'=>∃ j ys h tk,cK=((yCp n ↑qs).map Value.ref).drop j/\b=(qx,ys.toArray)/\s'={s with heap:=h,toks:=tk }/\ZL n qs k s.heap j h/\↑ys=min j ↑qs/\Ys qs vs k j ys/\Zo h (n+↑qs) (yk a) true/\Tp h (n+↑qs+1) os) _ ?_ ?_ _ _ ?_)
  .rintro x cK b s' ⟨j,ys,h,tk,e1,e2,e3,L,e4,hy,hz,kH⟩;subst e2 e3;let(e5,e6):=aFf e1;have jl:j<↑qs:=by have:=mS e5;simpa using this
   rw[gr j jl] at e5;cases e5;refine wB (xq ?_);show zq _ _ (yBt (.ref (n+j)) >>= _) _ _ _;refine wB (aL6 hh (yAb jl) L (sq j _ (yAb jl)) (λ x h2 tk2 hx L2 hs2=>wP (wP ?_)) λ h2 e ek hs2 he=>?_)
   .refine(j+1,ys++[x],h2,tk2,e6,by simp,rfl,L2,by simp;omega,λ i hi hj=>?_,hs2.extBut _ _ (na (!_)) hz,hs2.extBut _ _ (na (!_)) kH,);by_cases c:i=j
    .subst c;rw[hx,yAd (!_),show i-↑ys=0 by omega];rfl
    .rw[hy i hi (!_),xAm (!_)]
   .let(oe,ho,hc):=he;exact wB (wpAny_isInstance (T:="StopIteration") (b:=true) (oe,ho,hc,) isSubtype_stop (wP (hE _ _ j jl ek λ c o hc e=>hs2 _ _ (λ z:c=_=>by subst z;omega) (L.fr c o hc e))))
  .rintro b s' ⟨j,ys,h,tk,e1,e2,e3,L,e4,hy,hz,kH⟩;subst e2 e3;have jl:↑qs<=j:=by have:=congrArg yGc e1;simp at this;omega
   have e4:↑ys=↑qs:=by omega
   refine wB (wpAny_newTuple ?_ (hk3 _ e4));refine wP (_,rfl,?_,);show zq _ _ (pure (qz (Value.ref h.objs.size))) _ _ _;have hT:Tp (h.push {cls:=.type "tuple",data:=.seq ys.toArray }) h.objs.size ys:=xAd _ rfl;rw[L.sz] at hT ⊢;refine wP (hQ _ _ ys e4 (λ i hi _=>hy i hi (!_)) ((L.t.all jl).keep λ c o _ hc e=>hpS _ e,(os,ol,hpS _ kH,),_,_,hpS _ hz,.inr (_,rfl,?_,),) hT (λ c o hc e=>hpS _ (L.fr c o hc e)) λ z=>?_)
   .by_cases c:n<=a/\a<=n+↑qs+2
    .let(o,e,_):=aFl L.t kH hz a c.1 c.2;exact(o,hpS _ e,)
    .exact(o,hpS _ (L.fr a o (!_) ho),)
   .have:=hz0.symm.trans z;simp[yk] at this
  .exact(0,[],h₁,_,rfl,rfl,rfl,(ZL.mk Z.t rfl λ _ _ _ e=>e).same (.inr rfl) hs₁,by simp,λ i _ z=>absurd z (yCa _),hz₁,hs₁.extBut _ _ (na (!_)) kH,)
def aFM{n:Nat}{qs:Zq}{k:Nat}{aB:List (qk×Obj)}{σ:L2.St}{H:Hp}{s:qy}(I:Inv X aB σ H s)(hl:∀ q∈qs,q.2<n)(h:∀ q∈qs,∃ xs,Sq q.1 X.K H q.2 xs/\k<=↑xs) :
 ∃ vs:Nat->List qj,(∀ i q,qs[i]?=qz q->gE q.1 s.heap q.2 (vs i).toArray/\q.2<n/\k<=(vs i).length)/\∀ (i:Nat) q xs,qs[i]?=qz q->Sq q.1 X.K H q.2 xs->aZ xs (vs i):=by
 have:∀ i:Nat,∃ us:List qj,∀ q,qs[i]?=qz q->(gE q.1 s.heap q.2 us.toArray/\q.2<n/\k<=↑us)/\∀ xs,Sq q.1 X.K H q.2 xs->aZ xs us:=λ i=>by
  cases e:qs[i]? with
  |none=>exact⟨[],λ q z=>nomatch z⟩
  |some q=>
    have m:=xAk e;let(xs,sq,hk):=h q m;let(us,rv,pl):=aL8 I sq;refine(us,λ q' z=>?_,);cases z;exact((pl,hl q m,rv.length▸hk,),λ zs hz=>aLr I sq hz▸rv,)
 let(vs,hv):=Classical.axiomOfChoice this;exact(vs,λ i q e=>(hv i q e).1,λ i q xs e=>(hv i q e).2 xs,)
def aJW:∀ {us:List qj}{P:Nat->V->Prop},(∀ (j:Nat) u,us[j]?=qz u->∃ x,P j x/\aY x u)->∃ xs:List V,aZ xs us/\∀ (j:Nat) x,xs[j]?=qz x->P j x
 |[],_,_=>([],.nil,λ _ _ z=>by simp at z,)
 |u::us,P,h=>by
   let(x,p,r):=h 0 u rfl;let(xs,v,q):=aJW (P:=λ j=>P (j+1)) λ j u e=>h (j+1) u e
   refine(x::xs,.cons r v,λ j y e=>?_,);cases j with
   |zero=>cases e;exact p|succ j=>exact q j y e
def yH(K:FrG)(qs:Zq):It:=
 ⟨λ i H=>∀ q∈qs,∃ xs,Sq q.1 K H q.2 xs/\i<↑xs,
  λ i H v H'=>∃ p ys,H p=qx/\H'=bE H p (.tup ys)/\v=.ref p/\↑ys=↑qs/\∀ (j:Nat) q xs,qs[j]?=qz q->Sq q.1 K H q.2 xs->xs[i]?=ys[j]?,
  λ i H=>(∀ q∈qs,∃ xs,Sq q.1 K H q.2 xs/\i<=↑xs)/\∃ q∈qs,∃ xs,Sq q.1 K H q.2 xs/\i=↑xs⟩
section
variable {n:Nat}{qs:Zq}{k:Nat}{X:Cx}{aB:List (qk×Obj)}{σ:L2.St}{H:Hp}{s:qy}{A:zy}{E:qj->qy->Prop}
def aMA{Q:Option qj->qy->Prop}(hh:A.in1.handled=qx)(h0:0<↑qs)(h3:↑qs<=3)(hl:∀ q∈qs,q.2<n)(I:Inv X aB σ H s)(Z:ZH n qs k s.heap)(h:∀ q∈qs,∃ xs,Sq q.1 X.K H q.2 xs/\k<↑xs)(hQ:∀ h' tk us ys,aZ ys us->↑ys=↑qs->(∀ (j:Nat) q xs,qs[j]?=qz q->Sq q.1 X.K H q.2 xs->xs[k]?=ys[j]?)->ZH n qs (k+1) h'->Tp h' s.heap.objs.size us->(∀ c o,c<n\/n+↑qs+2<c->s.heap.get? c=qz o->h'.get? c=qz o) ->
   (Zo s.heap (n+↑qs) .none false->Zo h' (n+↑qs) (yk s.heap.objs.size) false)->Q (qz (.ref s.heap.objs.size)) {s with heap:=h',toks:=tk }) :
 zq (model X.prog X.w) A (yu (.ref (n+↑qs+2))) Q E s:=by
 let(vs,v1,v2):=aFM I hl λ q m=>(h q m).imp λ xs a=>(a.1,yEe a.2,)
 refine aL9 hh h0 h3 Z v1 (λ h' tk us ul hy Z' hT fr hz=>?_) λ h' tk i il ek _=>?_
 .let(ys,rv,hys):=@aJW us (λ j x=>∀ q xs,qs[j]?=qz q->Sq q.1 X.K H q.2 xs->xs[k]?=qz x) λ j u e=>by
   have jl:j<↑qs:=ul▸mS e;have eq:=yAb jl;let(xs,sq,kl):=h _ (xAk eq);let(u',e1,r):=(v2 j _ xs eq sq).get (yAb kl);rw[hy j jl jl,e] at e1;cases e1;refine(_,λ q zs eq' sz=>?_,r,);rw[eq] at eq';cases eq';rw[aLr I sz sq,yAb kl]
  refine hQ h' tk us ys rv (rv.length.trans ul) (λ j q xs e sq=>?_) Z' hT fr hz;have jl:j<↑ys:=by rw[rv.length,ul];exact mS e
  rw[yAb jl,hys j _ (yAb jl) q xs e sq]
 .have eq:=yAb il;let(xs,sq,kl):=h _ (xAk eq);have:=(v2 i _ xs eq sq).length;omega
def aMg{Q:Option qj->qy->Prop}(hh:A.in1.handled=qx)(h0:0<↑qs)(h3:↑qs<=3)(hl:∀ q∈qs,q.2<n)(I:Inv X aB σ H s)(Z:ZH n qs k s.heap)(hf:∀ b∈yCp n (↑qs+3),gM X aB H b)(h:(yH X.K qs).stop k H)(hQ:∀ h' tk,Inv X aB σ H {s with heap:=h',toks:=tk }->Q qx {s with heap:=h',toks:=tk }):zq (model X.prog X.w) A (yu (.ref (n+↑qs+2))) Q E s:=by
 let(h1,q,m,xs,sq,e):=h;let(vs,v1,v2):=aFM I hl h1;refine aL9 hh h0 h3 Z v1 (λ h' tk us ul hy _ _ _ _=>?_) λ h' tk i il ek fr=>hQ _ _ (aPs I hf λ c o hb e'=>fr c o ?_ e')
 .let(j,jl,eq):=yGs m;have e1:=hy j jl jl;rw[yCx (by rw[<- (v2 j q xs (List.getElem?_eq_some_iff.mpr (jl,eq,)) sq).length,e];exact yAc _),yAb (ul▸jl)] at e1;cases e1
 .rw[yHs] at hb;omega
end
def aRE(n:Nat)(qs:Zq)(h0:0<↑qs)(h3:↑qs<=3)(hl:∀ q∈qs,q.2<n) :
 Turn P w K (.Tuple elts k pos) (yH K qs) (yCp n (↑qs+3)) (n+↑qs+2) (λ i h=>ZH n qs i h/\Zo h (n+↑qs) .none false) where
 mem:=List.mem_range'_1.mpr (!_)
 obj:=λ i h aW b hb=>by
  let(Z,hz):=aW;let(os,_,hO):=Z.to;have:=List.mem_range'_1.mp hb;exact aFl Z.t hO hz b this.1 (!_)
 keep:=λ i h h' aW q=>by
  let(Z,hz):=aW;have q':∀ c o,n<=c->c<=n+↑qs+2->h.get? c=qz o->h'.get? c=qz o:=λ c o a b e=>q c (List.mem_range'_1.mpr (!_)) o e
  let(os,ol,hO):=Z.to;have hz':Zo h' (n+↑qs) .none false:=q' _ _ (!_) (!_) hz;exact((Z.t.keep λ c o a b=>q' c o a (!_),(os,ol,q' _ _ (!_) (!_) hO,),_,_,hz',.inl (rfl,rfl,),),hz',)
 item:=λ X hP hW hK hc i aB s σ H E I hf aW hg=>by
  let(Z,hz):=aW;subst hP hW hK;refine aMA (I.ok.hd hc) h0 h3 hl I Z hg λ h' tk us ys rv yl hy Z' hT fr hzo=>(_,rfl,wpAny_letOwnedTupleGo_zip (hzo hz) λ h₂ hz₂ hs₂=>?_,)
  replace hs₂:yDi (n+↑qs+2) h' h₂:=hs₂;have zl:n+↑qs+2<s.heap.objs.size:=xAa hz;let(os,ol,hO):=Z'.to;refine(.ref s.heap.objs.size,_,@aHk _ _ _ _ s h₂ _ s.heap.objs.size (.tup ys) tk I hf (λ c o hb e'=>?_) (yAc _) (xAh (show ↑ys<=1000000 by omega) vX,us,rv,(_,hs₂.extBut _ _ (yHa zl) hT,rfl,0,rfl,),),rfl,(s.heap.objs.size,ys,I.fresh,rfl,rfl,yl,hy,),((Z'.t.keep λ c o _ b=>hs₂.extBut c o (na (!_)),(os,ol,hs₂.extBut _ _ (na (!_)) hO,),_,_,hz₂,.inl (rfl,rfl,),),hz₂,),λ c hb=>?_,)
  .rw[yHs] at hb;exact hs₂.extBut c o (na (!_)) (fr c o (!_) e')
  .have:=List.mem_range'_1.mp hb;rw[bV (na (!_))];exact(hf c hb).1
 done:=λ X hP hW hK hc i aB s σ H E I hf aW hs=>by
  let(Z,hz):=aW;subst hP hW hK;exact aMg (I.ok.hd hc) h0 h3 hl I Z hf hs λ h' tk I'=>(rfl,I',)
 self:=λ A i s Q E h hq=>yy h.2 hq
noncomputable abbrev Zr(qs:Zq):List qj:=qs.map λ q=>.ref q.2
def aPy{E:qj -> qy -> Prop}{s:qy}{vs:Nat -> List qj}{Q:List qj->qy->Prop}(sq:∀ i q,qs[i]?=qz q->gE q.1 s.heap q.2 (vs i).toArray)(h:∀ h',h'.objs.size=s.heap.objs.size+↑qs->(∀ (i:Nat) q,qs[i]?=qz q->mZ q.1 h' (s.heap.objs.size+i) q.2 0)->(∀ c o,s.heap.get? c=qz o->h'.get? c=qz o)->Q ((yCp s.heap.objs.size ↑qs).map .ref) {s with heap:=h' }) :
 zq (model prog w) A (yGz (Zr qs)) Q E s:=by
 unfold yGz;refine wB (wpAny_forIn_list _ (λ cK b s'=>∃ j h,j<=↑qs/\cK=(Zr qs).drop j/\b=((yCp s.heap.objs.size j).map Value.ref).toArray/\s'={s with heap:=h }/\h.objs.size=s.heap.objs.size+j/\(∀ (i:Nat) q,qs[i]?=qz q->i<j->mZ q.1 h (s.heap.objs.size+i) q.2 0)/\∀ c o,s.heap.get? c=qz o->h.get? c=qz o) _ ?_ ?_ _ _ ?_)
 .rintro x cK b s' ⟨j,h,jl,e1,e2,e3,e4,hi,k⟩;subst e2 e3;let(e5,e6):=aFf e1;rw[yAg] at e5;cases eq:qs[j]? with
  |none=>rw[eq] at e5;cases e5
  |some q=>
    rw[eq] at e5;cases e5;refine wB (xq (aP8 (gE.at (sq j q eq) (k _)) (wP (j+1,_,mS eq,e6,?_,rfl,?_,λ i q' eq' il=>?_,λ c o e=>hpS _ (k c o e),))))
    .show Array.push _ (Value.ref h.objs.size)=_;rw[e4,List.range'_1_concat];simp
    .rw[yGe];show h.objs.size+1=_;omega
    .by_cases c:i=j
     .subst c;rw[eq] at eq';cases eq';rw[<- e4];cases q.1<;>exact(_,xAd _ rfl,rfl,rfl,)
     .exact(hi i q' eq' (!_)).at λ o e=>hpS _ e
 .rintro b s' ⟨j,h',jl,e1,e2,e3,e4,hi,k⟩;subst e2 e3;have:j=↑qs:=by have:=congrArg yGc e1;simp at this;omega
  subst this;exact wP (h h' e4 (λ i q e=>hi i q e (mS e)) k)
 .exact(0,s.heap,yEp _,rfl,rfl,rfl,rfl,λ _ _ _ z=>absurd z (yCa _),λ _ _ e=>e,)
def aDi(h:Heap)(o:Obj)(hr:o.isFreed=false):∃ h',h.push o=h'/\h'.get? h.objs.size=qz o/\h'.objs.size=h.objs.size+1/\∀ c u,h.get? c=qz u->h'.get? c=qz u:=(_,rfl,xAd _ hr,yGe ..,λ _ _ e=>hpS _ e,)
def aSk{qs:Zq}{vs:Nat -> List qj}(h3:↑qs<=3):Meets (Builtin.«zip.__new__» (.type "zip" :: Zr qs,[],)) (λ _ R s=>(∀ i q,qs[i]?=qz q->gE q.1 s.heap q.2 (vs i).toArray)/\∀ h',ZH s.heap.objs.size qs 0 h'->Zo h' (s.heap.objs.size+↑qs) .none false->h'.objs.size=s.heap.objs.size+↑qs+3 ->
 (∀ c o,s.heap.get? c=qz o->h'.get? c=qz o)->R (.ok (.ret (.ref (s.heap.objs.size+↑qs+2)))) {s with heap:=h' }):=
 .of_wp λ prog w A R s h=>by
  let(hp,g,d,tk,os):=s;let(sq,h):=h;have hsub:=sub_zip
  wp_walk using aPy sq
  intro h' sz it k;dsimp only at sz it k sq h;let(h1,e1,g1,z1,k1):=aDi h' {cls:=.type "tuple",data:=.seq ((yCp hp.objs.size ↑qs).map Value.ref).toArray } rfl;let(h2,e2,g2,z2,k2):=aDi h1 {cls:=.type "tuple",data:=.seq (((yCp hp.objs.size ↑qs).map Value.ref).map λ _=>Value.none).toArray } rfl;have l3:∀ l:List qj,↑l=↑qs->↑l<=qo:=λ l e=>xAh (show ↑l<=1000000 by omega) vX
  refine wB (wpAny_newTuple ?_ (l3 _ (by simp)));dsimp only;rw[e1];refine wB (wpAny_newTuple ?_ (l3 _ (by simp)));dsimp only;rw[e2]
  wp_walk
  let(h4,e4,g4,z4,k4):=aDi h2 {cls:=.type "zip",data:=.fields (Builtin.SmallTypes.ownedTupleFields++[Value.bool false,Value.ref h'.objs.size,Value.ref h1.objs.size]).toArray } rfl;refine(_,rfl,?_,);rw[e4];rw[z2,z1,sz] at g4 z4 ⊢;rw[z1,sz] at g2;rw[sz] at g1;have hz:Zo h4 (hp.objs.size+↑qs) .none false:=g4;exact h h4 ((λ i q e=>(it i q e).at λ o e=>k4 _ _ (k2 _ _ (k1 _ _ e)),k4 _ _ (k2 _ _ g1),),(_,by simp,k4 _ _ g2,),_,_,hz,.inl (rfl,rfl,),) hz z4 λ c o e=>k4 _ _ (k2 _ _ (k1 _ _ (k c o e)))
def zok:∀ qs:Zq,2<=↑qs->↑qs<=3->checkTypeCall "zip" ⟨Zr qs,[]⟩=pure ()/\checkBuiltinCall "zip.__new__" ⟨.type "zip" :: Zr qs,[]⟩=pure ()/\∀ obj,argsOk "object.__init__" ⟨obj::Zr qs,[]⟩
 |[_,_],_,_=>(F.typeCall_zip_2 _ _,F.newCall_zip_2 _ _,λ obj=>F.args_object_init_3 obj _ _,)
 | [_,_,_],_,_=>⟨by kernel_rfl,by kernel_rfl,λ _=>by
   unfold argsOk;rw[signature?_of (id:="object.__init__") (n:=['_','_','t','i','n','i','_','_']) (o:=['t','c','e','j','b','o']) (by kernel_rfl) F.owner_object];kernel_rfl⟩
def aRF{E:qj -> qy -> Prop}{s:qy}{qs:Zq}{vs:Nat -> List qj}{Q:qj->qy->Prop}(h2:2<=↑qs)(h3:↑qs<=3)(sq:∀ i q,qs[i]?=qz q->gE q.1 s.heap q.2 (vs i).toArray)(h:∀ h',ZH s.heap.objs.size qs 0 h'->Zo h' (s.heap.objs.size+↑qs) .none false->h'.objs.size=s.heap.objs.size+↑qs+3->(∀ c o,s.heap.get? c=qz o->h'.get? c=qz o)->Q (.ref (s.heap.objs.size+↑qs+2)) {s with heap:=h' }) :
 zq (model prog w) A (call (.type "zip") (Zr qs)) Q E s:=by let(o1,o2,o3):=zok qs h2 h3;exact callType_new F.called_zip (·) o1 o2 o3 F.entry_zip_new (@aSk _ vs h3) (sq,λ h' Z hz sz k=>((_,hz,rfl,),h h' Z hz sz k,),)
def zG(K:FrG)(ta:TA):TI:=λ σ H R=>ta σ H λ vs H1=>∃ qs:Zq,vs=qs.map (λ q=>.ref q.2)/\2<=↑qs/\↑qs<=3/\(∀ q∈qs,∃ xs,Sq q.1 K H1 q.2 xs)/\R (yH K qs) H1
def aLW{Q:qj->qy->Prop}{E:qj->qy->Prop}{qs:Zq}(I:Inv X aB σ H s)(r:aZ (qs.map λ q=>.ref q.2) us)(h2:2<=↑qs)(h3:↑qs<=3)(sq:∀ q∈qs,∃ xs,Sq q.1 X.K H q.2 xs)(h:∀ h',Inv X aB σ H {s with heap:=h' }->(∀ q∈qs,q.2<s.heap.objs.size)->ZH s.heap.objs.size qs 0 h'->Zo h' (s.heap.objs.size+↑qs) .none false->h'.objs.size=s.heap.objs.size+↑qs+3->(∀ b∈yCp s.heap.objs.size (↑qs+3),gM X aB H b)->Q (.ref (s.heap.objs.size+↑qs+2)) {s with heap:=h' }) :
 zq (model X.prog X.w) A (call (.type "zip") us) Q E s:=by
 have e:∀ {qs:Zq}{us:List qj},aZ (qs.map λ q=>.ref q.2) us->us=Zr qs:=λ {qs}=>by
  induction qs with
  |nil=>intro us r;cases r;rfl
  |cons q qs ih=>intro us r;cases r with|cons a b=>cases a;rw[ih b];rfl
 rw[e r];have hl:∀ q∈qs,q.2<s.heap.objs.size:=λ q m=>by
  let(xs,sx):=sq q m;let(us,_,pl):=aL8 I sx;exact pl.lt
 let(vs,v1,_):=aFM (k:=0) I hl λ q m=>(sq q m).imp λ xs a=>(a,yEp _,)
 refine aRF h2 h3 (λ i q e=>(v1 i q e).1) λ h' Z hz sz k=>h h' (I.kept (t':=s.toks) k) hl Z hz sz λ b hb=>?_
 have:=(List.mem_range'_1.mp hb).1;exact I.fpOk this (I.hok.fresh this)
def aJV{ta:TA}(hg:Gl X "zip")(hm:X.mg "zip" = qx)(ha:PA X (a::es) ta)(hs:zx (a::es) X.env=(false,eval a X.env)::zx es X.env)(hs2:((backTo pos (zx es X.env)).any λ x=>x.fst)=false):PI X (.Tuple elts k pp) (.Call (.Name "zip" p) (a::es) [] pos) (zG X.K ta):=by intro aB s σ H R I h;refine Call_ (pB I hg hm boot_zip (yBm (bC (ha pos aB s σ H _ I h) λ us s1 hq=>?_) hs hs2));let(vs,H1,I1,r1,q1):=hq;let(qs,rfl,h2,h3,sq,q):=q1;exact aLW I1 r1 h2 h3 sq λ h' I2 hl Z hz _ fp=>yy hz (_,_,_,_,H1,rfl,I2,aRE _ qs (!_) h3 hl,(Z,hz,),fp,q,)
def aIZ{K:FrG}:∀ {ds:List D}{ys:List V},↑ds=↑ys->(∀ (j:Nat) d y,ds[j]?=qz d->ys[j]?=qz y->Den K F d y)->DenL K F ds ys
 |[],[],_,_=>.nil|d::ds,y::ys,h,k=>.cons (k 0 d y rfl rfl) (aIZ (Nat.succ.inj h) λ j=>k (j+1))
structure Zd(K:FrG)(F:Hp)(qs:Zq)(dss:List (List D))(zs:List D):Prop where
 len:↑dss=↑qs
 sq:∀ (j:Nat) q ds,qs[j]?=qz q->dss[j]?=qz ds->∃ xs,Sq q.1 K F q.2 xs/\DenL K F ds xs
 le:∀ ds∈dss,↑zs<=↑ds
 eq:∃ ds∈dss,↑zs=↑ds
 get:∀ (i:Nat) d,zs[i]?=qz d->∃ es,d=.tuple es/\dss.map (·[i]?)=es.map qz
section
variable {K:FrG}{F F1 H:Hp}{qs:Zq}{dss:List (List D)}{zs:List D}
def Zd.go(Z:Zd K F qs dss zs)(s:cD F H)(h:k<=↑zs):∀ q∈qs,∃ xs,Sq q.1 K H q.2 xs/\k<=↑xs:=λ q m=>by
 let(j,jl,e):=yGs m;have e2:=yAb (l:=dss) (Z.len▸jl);let(xs,sq,dl):=Z.sq j q _ (List.getElem?_eq_some_iff.mpr (jl,e,)) e2;exact(xs,aDE s sq,xAh h (dl.length▸Z.le _ (xAk e2)),)
def Zd.stop(Z:Zd K F qs dss zs)(s:cD F H):(yH K qs).stop ↑zs H:=by refine(Z.go s (yAc _),?_,);let(ds,m,el):=Z.eq;let(j,jl,e):=yGs m;have e2:=yAb (l:=qs) (Z.len▸jl);let(xs,sq,dl):=Z.sq j _ ds e2 (List.getElem?_eq_some_iff.mpr (jl,e,));exact(_,xAk e2,xs,aDE s sq,el.trans dl.length,)
def Zd.den(Z:Zd K F qs dss zs)(s1:cD F F1)(s2:cD F1 H){i:Nat}{d:D}{p:qk}{ys:List V}(e:zs[i]?=qz d)(hp:H p=qx)(yl:↑ys=↑qs)(hy:∀ (j:Nat) q xs,qs[j]?=qz q->Sq q.1 K H q.2 xs->xs[i]?=ys[j]?):Den K (bE F1 p (.tup ys)) d (.ref p):=by
 let(es,rfl,ee):=Z.get i d e;have el:↑es=↑dss:=by have:=congrArg yGc ee;simpa using this.symm
 refine .tup (cN.of cQ) (aIZ (by rw[el,yl,Z.len]) λ j d y hd hy'=>?_);have jl:j<↑dss:=el▸mS hd;have e2:=yAb (l:=qs) (Z.len▸jl);let(xs,sq,dl):=Z.sq j _ _ e2 (yAb jl);have e3:=congrArg (·[j]?) ee;simp only[yAg,yAb jl,hd,yEt,Option.some.injEq] at e3;let(x,e4,dx):=dl.get e3;rw[hy j _ xs e2 (aDE (s1.trans s2) sq),hy'] at e4;cases e4;exact dx.mono (s1.trans (gH (s2.free hp)))
def aLx(Z:Zd K F qs dss zs):Wk K F L (yH K qs) zs where
 go:=λ i H s hi=>Z.go s hi
 stop:=λ H s=>Z.stop s
 yld:=λ i H F1 L1 S x H' d g R e y=>by
  let(p,ys,hp,rfl,rfl,yl,hy):=y;exact(_,gH (R.sub.free hp),R.new hp,Z.den g.f R.sub e hp yl hy,)
def pU:W->Option (List D)
 |.d (.list ds)=>qz ds|.d (.tuple ds)=>qz ds|_=>qx
def qQ(h:pU w=qz ds)(d:dW K F L w v):∃ q:Bool×qk,v=.ref q.2/\∃ xs,Sq q.1 K F q.2 xs/\DenL K F ds xs:=by
 unfold pU at h;split at h
 .cases h;cases (show Den K F (.list ds) v from d) with|lst sq dl=>exact((false,_),rfl,_,sq,dl,)
 .cases h;cases (show Den K F (.tuple ds) v from d) with|tup sq dl=>exact((true,_),rfl,_,sq,dl,)
 .cases h
end
def gN:List D->List D->List D
 |a::as,b::bs=>.tuple [a,b]::gN as bs|_,_=>[]
def aAp:∀ as bs:List D,(gN as bs).length=min ↑as ↑bs
 |[],_=>by simp[gN]|_::_,[]=>by simp[gN]|_::as,_::bs=>by simp[gN,aAp as bs]
def aDd:∀ (as bs:List D) (i:Nat) (d:D),(gN as bs)[i]?=qz d->∃ a b,as[i]?=qz a/\bs[i]?=qz b/\d=.tuple [a,b]
 |[],_,i,d,h=>by simp[gN] at h|_::_,[],i,d,h=>by simp[gN] at h|a::as,b::bs,0,d,h=>by simp[gN] at h;exact(a,b,rfl,rfl,h.symm,)|a::as,b::bs,i+1,d,h=>aDd as bs i d h
def gL:List D->List D->List D->List D
 |a::as,b::bs,c::cs=>.tuple [a,b,c]::gL as bs cs|_,_,_=>[]
def aCM:∀ as bs cs:List D,(gL as bs cs).length=min ↑as (min ↑bs ↑cs)
 |[],_,_=>by simp[gL]|_::_,[],_=>by simp[gL]|_::_,_::_,[]=>by simp[gL]|_::as,_::bs,_::cs=>by simp[gL,aCM as bs cs]
def aHz:∀ (as bs cs:List D) (i:Nat) (d:D),(gL as bs cs)[i]?=qz d->∃ a b c,as[i]?=qz a/\bs[i]?=qz b/\cs[i]?=qz c/\d=.tuple [a,b,c]
 |[],_,_,i,d,h=>by simp[gL] at h|_::_,[],_,i,d,h=>by simp[gL] at h|_::_,_::_,[],i,d,h=>by simp[gL] at h|a::as,b::bs,c::cs,0,d,h=>by simp[gL] at h;exact(a,b,c,rfl,rfl,rfl,h.symm,)|a::as,b::bs,c::cs,i+1,d,h=>aHz as bs cs i d h
def aR2(x y z:List D)(ds:List D)(h:ds∈[x,y,z]):(gL x y z).length<=↑ds:=by
 rw[aCM];simp only[yCc,yCd,or_false] at h;rcases h with rfl|rfl|rfl
 .exact yBh _ _
 .exact xAh (yFf _ _) (yBh _ _)
 .exact xAh (yFf _ _) (yFf _ _)
def aRQ(x y z:List D):∃ ds∈[x,y,z],(gL x y z).length=↑ds:=by
 rw[aCM];rcases yIg x.length (min y.length z.length) with q|q
 .exact(x,by simp,yDr q,)
 rw[yDe q];rcases yIg y.length z.length with q|q
 .exact(y,by simp,yDr q,)
 .exact(z,by simp,yDe q,)
def aKM{F:Hp}(j:Nat)(q:Bool×qk)(ds:List D)(h:([]:Zq)[j]?=qz q)(_:([]:List (List D))[j]?=qz ds):∃ xs,Sq q.1 K F q.2 xs/\DenL K F ds xs:=by simp at h
def wJ{F:Hp}{q0:Bool×qk}{ds0:List D}{qs:Zq}{dss:List (List D)}(h:∃ xs,Sq q0.1 K F q0.2 xs/\DenL K F ds0 xs)(t:∀ (j:Nat) q ds,qs[j]?=qz q->dss[j]?=qz ds->∃ xs,Sq q.1 K F q.2 xs/\DenL K F ds xs) :
 ∀ (j:Nat) q ds,(q0::qs)[j]?=qz q->(ds0::dss)[j]?=qz ds->∃ xs,Sq q.1 K F q.2 xs/\DenL K F ds xs
 |0,_,_,e1,e2=>by cases e1;cases e2;exact h|j+1,q,ds,e1,e2=>t j q ds e1 e2
def aEN(Z:Zd K F qs dss zs)(s:cD F H):∀ q∈qs,∃ xs,Sq q.1 K H q.2 xs:=λ q m=>(Z.go s (yEp _) q m).imp λ xs a=>a.1
def zd2{q1 q2:Bool×qk}(h1:∃ xs,Sq q1.1 K F q1.2 xs/\DenL K F as xs)(h2:∃ xs,Sq q2.1 K F q2.2 xs/\DenL K F bs xs):Zd K F [q1,q2] [as,bs] (gN as bs):=
 (rfl,wJ h1 (wJ h2 aKM),by simp[aAp];omega,by simp[aAp];omega,λ i d e=>by let(a,b,e1,e2,rfl):=aDd as bs i d e;exact(_,rfl,by simp[e1,e2],),)
section
variable {K:FrG}{fa fb fc:FE}(σ:L2.St)(H:Hp)(Rr:It->Hp->Prop)
def rR(fa fb:FE):FL:=λ env S=>(fa env S).bind λ p=>(fb env p.2).bind λ q=>(pU p.1).bind λ ds=>(pU q.1).bind λ es=>qz (gN ds es,q.2)
theorem aYI(h:jM K (rR fa fb) σ H Rr):zG K (eN K (dF fa (dF fb iE))) σ H Rr:=by
 let(F,L,S,env,ds,S',R,E,e,q):=h;let((w1,S1),e1,e):=aM e;let((w2,S2),e2,e):=aM e;let(ds1,e3,e):=aM e;let(ds2,e4,e):=aM e;dsimp only at e e2 e3 e4;cases e;refine(F,L,S,env,[w1,w2],S',R,E,by unfold dF;simp only[e1,e2,iE,yDt],λ F1 L1 H1 vs g1 R1 d1=>?_,);obtain - | ⟨da,- | ⟨db,- | -⟩⟩:=d1
 let(q1,rfl,h1):=qQ e3 da;let(q2,rfl,h2):=qQ e4 db;have Z:=zd2 h1 h2;exact([q1,q2],rfl,by simp,by simp,aEN Z R1.sub,q F1 L1 H1 _ g1 R1 (aLx Z),)
def aBt(fa fb fc:FE):FL:=λ env S=>(fa env S).bind λ p=>(fb env p.2).bind λ q=>(fc env q.2).bind λ r=>(pU p.1).bind λ ds=>(pU q.1).bind λ es=>(pU r.1).bind λ gs=>qz (gL ds es gs,r.2)
theorem aVT(h:jM K (aBt fa fb fc) σ H Rr):zG K (eN K (dF fa (dF fb (dF fc iE)))) σ H Rr:=by
 let(F,L,S,env,ds,S',R,E,e,q):=h;let((w1,S1),e1,e):=aM e;let((w2,S2),e2,e):=aM e;let((w3,S3),e0,e):=aM e;let(ds1,e3,e):=aM e;let(ds2,e4,e):=aM e;let(ds3,e5,e):=aM e;dsimp only at e e2 e3 e4 e0 e5;cases e;refine(F,L,S,env,[w1,w2,w3],S',R,E,by unfold dF;simp only[e1,e2,e0,iE,yDt],λ F1 L1 H1 vs g1 R1 d1=>?_,);obtain - | ⟨da,- | ⟨db,- | ⟨dc,- | -⟩⟩⟩:=d1
 let(q1,rfl,h1):=qQ e3 da;let(q2,rfl,h2):=qQ e4 db;let(q3,rfl,h3):=qQ e5 dc;have Z:Zd K F1 [q1,q2,q3] [ds1,ds2,ds3] (gL ds1 ds2 ds3):=(rfl,wJ h1 (wJ h2 (wJ h3 aKM)),aR2 _ _ _,aRQ _ _ _,λ i d e=>by let(a,b,c,e1,e2,e3,rfl):=aHz _ _ _ i d e;exact(_,rfl,by simp[e1,e2,e3],),);exact([q1,q2,q3],rfl,by simp,by simp,aEN Z R1.sub,q F1 L1 H1 _ g1 R1 (aLx Z),)
end
section
variable {X:Cx}{elts:List qu}{k:Nat}{pp:Pos}{a b c:qu}{ta:TA}{p pos:Pos}(hg:Gl X "zip")(hm:X.mg "zip"=qx)
include hg hm
theorem aVk(ha:PA X [a,b] ta)(hs:zx [a,b] X.env=(false,eval a X.env)::zx [b] X.env)(hs2:zx [b] X.env=[(false,eval b X.env)]):PI X (.Tuple elts k pp) (.Call (.Name "zip" p) [a,b] [] pos) (zG X.K ta):=aJV hg hm ha hs (by rw[hs2];rfl)
theorem aS4(ha:PA X [a,b,c] ta)(hs:zx [a,b,c] X.env=(false,eval a X.env)::zx [b,c] X.env)(hs2:zx [b,c] X.env=(false,eval b X.env)::zx [c] X.env)(hs3:zx [c] X.env=[(false,eval c X.env)]):PI X (.Tuple elts k pp) (.Call (.Name "zip" p) [a,b,c] [] pos) (zG X.K ta):=aJV hg hm ha hs (by rw[hs2,hs3];rfl)
end
def Rel.relay(r:Rel K F L S H)(hF:F p=qx)(hL:p ∉ ad L):Rel K F L S (bE H p o):=by
 have ne:∀ {n:Nat}{a:qk}{b:Bool},L[n]?=qz (a,b)->a≠p:=λ e z=>hL (by rw[<- z];exact aEE e)
 refine(λ b u q=>by rw[bV (eO q hF)];exact r.sub _ _ q,r.nd,r.len,λ n a ds e1 e2=>?_,λ n a ds e1 e2=>?_,λ n a b e=>?_,)
 .let(f,xs,e3,dl):=r.loc n a ds e1 e2;exact(f,xs,by rw[bV (ne e1)];exact e3,dl,)
 .let(f,xs,e3,dl):=r.dic n a ds e1 e2;exact(f,xs,e3,by rw[bV (ne e1)];exact dl,)
 .let(o,hx,hy):=r.tr n a b e;exact(o,by rw[bV (ne e)];exact hx,hy,)
def aHM(k:Den K F d v):∀ {ds:List D}{xs:List V},DenL K F ds xs->DenL K F (ds++[d]) (xs++[v])
 |_,_,.nil=>.cons k .nil|_,_,.cons a b=>.cons a (aHM k b)
structure ZW(X:Cx)(aB:List (qk×Obj))(σ:L2.St)(F1:Hp)(L1:Lx)(S1:aD)(SA:qk)(n:Nat)(qs:Zq)(ds:List D)(H F:Hp)(vs:List V)(s:qy):Prop where
 inv:Inv X aB σ H s
 same:cD F1 F
 rel:Rel X.K F L1 S1 H
 free:F SA=qx
 lst:H SA=qz (.lst vs)
 den:DenL X.K F ds vs
 fp:∀ c∈yCp n (↑qs+3),gM X aB H c
def aRi{X:Cx}{F1:Hp}{SA:qk}{qs:Zq}{A:zy}{R:Result->qy->Prop}(hh:A.in1.in1.handled=qx)(h0:0<↑qs)(h3:↑qs<=3)(hq:∀ q∈qs,q.2<n)(Z:Zd X.K F1 qs dss zs)(hL:SA ∉ ad L1)(cS:↑zs<=1000000)(hR:∀ s' H' F' vs',ZW X aB σ F1 L1 S1 SA n qs zs H' F' vs' s'->R (.ok (.ret res)) s') :
 ∀ (k i:Nat) (s:qy) (H F:Hp) (vs:List V),↑zs-i=k->i<=↑zs->ZW X aB σ F1 L1 S1 SA n qs (zs.take i) H F vs s->ZH n qs i s.heap ->
 jo (model X.prog X.w) A (.builtin "list.extend.loop" ([.ref SA,.ref (n+↑qs+2),res],[],)) R s:=by
 intro k
 induction k with
 |zero=>
   intro i s H F vs hk hi hw hz;have hin:i=↑zs:=by omega
   refine codeAny_builtin yHm ?_;rw[Around.under_plainId yEa _];show zq _ A.in1 (yu (.ref (n+↑qs+2)) >>= _) _ _ s;subst hin;rw[yAi] at hw;exact wB (aMg hh h0 h3 hq hw.inv hz hw.fp (Z.stop (hw.same.trans hw.rel.sub)) λ h' tk I'=>wP (hR _ H F vs (I',hw.same,hw.rel,hw.free,hw.lst,hw.den,hw.fp,)))
 |succ k ih=>
   intro i s H F vs hk hi hw hz;have hlt:i<↑zs:=by omega
   refine codeAny_builtin yHm ?_;rw[Around.under_plainId yEa _];show zq _ A.in1 (yu (.ref (n+↑qs+2)) >>= _) _ _ s;refine wB (aMA hh h0 h3 hq hw.inv hz (Z.go (hw.same.trans hw.rel.sub) hlt) λ h' tk us ys rv yl hy Z' hT fr _=>?_);have hp:H s.heap.objs.size=qx:=hw.inv.fresh;have hF:F s.heap.objs.size=qx:=hw.rel.sub.free hp;have neS:SA≠s.heap.objs.size:=λ q=>by rw[<- q,hw.lst] at hp;cases hp
   let(os,ol,hO):=Z'.to;let(f,g,hzo,_):=Z'.z;have I2:Inv X aB σ (bE H s.heap.objs.size (.tup ys)) {s with heap:=h',toks:=tk }:=aHk (s:=s) hw.inv hw.fp (λ c o hb e'=>fr c o (by rw[yHs] at hb;omega) e') (yAc _) (xAh (show ↑ys<=1000000 by omega) vX,us,rv,(_,hT,rfl,0,rfl,),);have hS:bE H s.heap.objs.size (.tup ys) SA=qz (.lst vs):=by rw[bV neS];exact hw.lst
   let(hv,aG,m,rl,hl,e):=I2.lstM hS;have vl:↑vs=i:=by
    have:=hw.den.length;rw[yBg] at this;omega
   have hs:1000000<=qo:=vX;show zq _ A.in1 (updateSeq SA (·.push (.ref s.heap.objs.size)) >>= _) _ _ _;have ne:∀ c∈yCp n (↑qs+3),c≠SA:=λ c hc q=>by
    have:=(hw.fp c hc).1;rw[q,hw.lst] at this;cases this
   have kp:∀ c o,c≠SA->h'.get? c=qz o->(h'.update SA (Obj.mapSeq (·.push (.ref s.heap.objs.size)))).get? c=qz o:=λ c o hc q=>(yCl _ _ (Ne.symm hc)).trans q
   have kr:∀ c o,n<=c->c<=n+↑qs+2->h'.get? c=qz o->(h'.update SA (Obj.mapSeq (·.push (.ref s.heap.objs.size)))).get? c=qz o:=λ c o a b=>kp c o (ne c (List.mem_range'_1.mpr (!_)))
   refine wB (vv e rfl (wP (plainId_quiet yEa _,ih (i+1) _ (bE (bE H s.heap.objs.size (.tup ys)) SA (.lst (vs++[.ref s.heap.objs.size]))) (bE F s.heap.objs.size (.tup ys)) _ (!_) hlt (?_,hw.same.trans (gH hF),Rel.relay (hw.rel.new hp) (by rw[bV neS];exact hw.free) hL,by rw[bV neS];exact hw.free,cQ,?_,λ c hc=>(?_,(hw.fp c hc).2,),) (Z'.t.keep λ c o a b=>kr c o a (!_),(os,ol,kr _ _ (!_) (!_) hO,),?_,),)) (by simp;omega) (by simp;omega))
   .exact I2.lset (its':=aG++[.ref s.heap.objs.size]) hS e (by simp) (aZ.append rl (.cons (show aY (.ref s.heap.objs.size) (Value.ref s.heap.objs.size) from rfl) .nil)) (by rw[yAj];show ↑vs+1<=_;omega)
   .rw[yFx hlt];exact aHM (Z.den hw.same hw.rel.sub (yAb hlt) hp yl hy) (hw.den.mono (gH hF))
   .have c1:c<s.heap.objs.size:=by
     let(os,_,hO):=hz.to;let(_,_,hzo,_):=hz.z;have:=List.mem_range'_1.mp hc;let(o,e,_):=aFl hz.t hO hzo c this.1 (!_);exact xAa e
    rw[bV (ne c hc),bV (xAj c1)];exact(hw.fp c hc).1
   .let(f,g,hzo,hf):=Z'.z;refine(f,g,kr _ _ (!_) (!_) hzo,hf.imp_right λ hfa=>?_,);let(a,ea,o,eo):=hfa;refine(a,ea,?_,);by_cases c1:a=SA
    .subst c1;exact(_,PySem.IsL.update e _,)
    .exact(o,kp a o c1 eo,)
def aPL:typeLookup (.type "zip") "__len__" = pure qx:=by rw[typeLookup_type,builtinLookup_eq_fast];kernel_rfl
def aOX:typeLookup (.type "zip") "__length_hint__" = pure qx:=by rw[typeLookup_type,builtinLookup_eq_fast];kernel_rfl
def aPO{s:qy}{R:Result -> qy -> Prop}{TI TO:qk}{f0:qj}(S:qk)(res:qj)(c₀:Nat)(hz:IsZip s.heap z TI TO f0)(hSz:S≠z)(hS:s.heap.get? S=qz {cls:=.type "list",data:=.seq #[] c₀ })(hR:∀ h' c,(∀ b o,b≠S->s.heap.get? b=qz o->h'.get? b=qz o)->h'.get? S=qz {cls:=.type "list",data:=.seq #[] c }->jo (model prog w) A (.builtin "list.extend.loop" ([.ref S,.ref z,res],[],)) R {s with heap:=h' }) :
 zq (model prog w) A.in1 (yDs (.ref S) (.ref z) res)
  (λ cV s'=>match cV with|.done f=>R (.ok f) s'|.again c'=>c'.quiet=true/\jo (model prog w) A c' R s') (λ e s'=>R (.error e) s') s:=by
 have hT:s.TypeIs (.ref z) "zip":=(_,hz,rfl,);unfold yDs;refine wB (wpAny_typeOf hT ?_);have h1:yHt (.ref S) (.ref z)=false:=by simp[yHt,hSz]
 have h2:(Value.type "zip" == Value.type "list")=false:=by decide
 have h3:(Value.type "zip" == Value.type "tuple")=false:=by decide
 simp only[h1,h2,h3,yFq,yBa,if_false];refine wB (yy hz ?_);refine wB (xq ?_);unfold Builtin.List.listLengthHint;refine wB (wu hT aPL ?_);show zq _ A.in1 (specialOf (Value.ref z) (Str.ofString "__length_hint__") >>= _) _ _ _;refine wB (wu hT aOX ?_);refine wP ?_;show zq _ A.in1 (rule "list.extend.makes-room" >>= λ _=>Builtin.List.listTouch (.ref S) >>= λ _=>
  again (.builtin "list.extend.loop" ([.ref S,.ref z,res],[],))) _ _ _
 refine wB (yx ?_);refine wB ?_;show zq _ A.in1 (updateSeq S (·.push .none) >>= λ _=>updateSeq S (·.pop)) _ _ _;refine wB (vv hS rfl ?_);have hS₂:=yCv (Obj.mapSeq (·.push Value.none)) hS rfl;refine vv (hz:=by seq_fits) hS₂ rfl ?_;have hS₃:=yCv (Obj.mapSeq (·.pop)) hS₂ rfl;have oth:∀ b o,b≠S->s.heap.get? b=qz o->((s.heap.update S (Obj.mapSeq (·.push Value.none))).update S (Obj.mapSeq (·.pop))).get? b=qz o:=
  λ b o hb e=>(yCl _ _ (Ne.symm hb)).trans ((yCl _ _ (Ne.symm hb)).trans e)
 exact wP (plainId_quiet yEa _,hR _ _ oth hS₃,)
def aRW{s:qy}{R:Result -> qy -> Prop}{TI TO:qk}{f0:qj}(S:qk)(hz:IsZip s.heap z TI TO f0)(hSz:S≠z)(hS:s.heap.get? S=qz {cls:=.type "list",data:=.seq #[] })(hR:∀ h' c,(∀ b o,b≠S->s.heap.get? b=qz o->h'.get? b=qz o)->h'.get? S=qz {cls:=.type "list",data:=.seq #[] c }->jo (model prog w) A (.builtin "list.extend.loop" ([.ref S,.ref z,.none],[],)) R {s with heap:=h' }) :
 zq (model prog w) A.in1 (Builtin.«list.__init__» ([.ref S,.ref z],[],))
  (λ cV s'=>match cV with|.done f=>R (.ok f) s'|.again c'=>c'.quiet=true/\jo (model prog w) A c' R s') (λ e s'=>R (.error e) s') s:=by
 show zq _ A.in1 (yHz (.ref S) >>= λ old=>Builtin.List.listUpdate (.ref S) (λ _=>#[]) >>= λ _=>letGo old.toList.reverse >>= λ _=>yDs (.ref S) (.ref z) .none) _ _ s;refine wB ?_;unfold yHz;refine wB (ju hS rfl (wP ?_));show zq _ A.in1 (updateSeq S (λ _=>#[]) >>= λ _=>letGo (#[]:Array qj).toList.reverse >>= λ _=>yDs (.ref S) (.ref z) .none) _ _ s;have hS2:=yCv (Obj.mapSeq (λ _=>(#[]:Array qj))) hS rfl;have oth:∀ b o,b≠S->s.heap.get? b=qz o->(s.heap.update S (Obj.mapSeq (λ _=>(#[]:Array qj)))).get? b=qz o:=λ b o hb e=>(yCl _ _ (Ne.symm hb)).trans e
 refine wB (vv hS rfl (wB (wpAny_letGo ?_)));exact aPO S .none _ (oth _ _ (Ne.symm hSz) hz) hSz hS2 λ h' c hk hS'=>hR h' c (λ b o hb e=>hk b o hb (oth b o hb e)) hS'
def aOx{A:zy}{E:qj -> qy -> Prop}{s:qy}{TI TO:qk}{f0:qj}{Q:qj->qy->Prop}(hz:IsZip s.heap z TI TO f0)(hQ:∀ h' c (R:Result->qy->Prop),(∀ b o,s.heap.get? b=qz o->h'.get? b=qz o)->h'.get? s.heap.objs.size=qz {cls:=.type "list",data:=.seq #[] c }->(∀ s',Q (.ref s.heap.objs.size) s'->R (.ok (.ret .none)) s')->jo (model prog w) A.in1 (.builtin "list.extend.loop" ⟨[.ref s.heap.objs.size,.ref z,.none],[]⟩) R {s with heap:=h' }) :
 zq (model prog w) A (call (.type "list") [.ref z]) Q E s:=by
 have hSz:s.heap.objs.size≠z:=yHa (xAa hz);have hS:(s.heap.push {cls:=.type "list",data:=.seq #[] }).get? s.heap.objs.size=qz {cls:=.type "list",data:=.seq #[] }:=xAd _ rfl;refine callType_codes (Q₁:=λ ob s1=>ob=.ref s.heap.objs.size/\s1={s with heap:=s.heap.push {cls:=.type "list",data:=.seq #[] } }) PySem.F.called_list (PySem.F.typeCall_list_1 _) PySem.F.entry_list_init (code_list_new _ (rfl,rfl,)) λ ob s1 h1=>?_
 let(rfl,rfl):=h1;refine((_,hS,rfl,),PySem.F.args_list_init_2 _ _,aRW _ (hpS _ hz) hSz hS λ h' c hk hS'=>?_,);exact hQ h' c _ (λ b o e=>hk b o (xAj (xAa e)) (hpS _ e)) hS' λ s' q=>(rfl,q,)
def xS(fa fb:FE):FL:=aNC (rR fa fb)
def aVh{fa fb:FE}(ha:PE X a (aS X.K fa))(hb:PE X b (aS X.K fb))(hc:X.calm=true)(hg:Gl X "list")(hm:X.mg "list" = qx)(hg2:Gl X "zip")(hm2:X.mg "zip" = qx)(hs:zx [a,b] X.env=(false,eval a X.env)::zx [b] X.env)(hs2:zx [b] X.env=[(false,eval b X.env)]):PE X (.Call (.Name "list" p) [.Call (.Name "zip" p2) [a,b] [] pos2] [] pos) (iS X.K (xS fa fb)):=by
 rintro aB s σ H Q I ⟨F,L,S,env,ds,S',R,E,e,q⟩;let((ds',S1'),e0,e):=aM e;let((w1,S1),e1,e2):=aM e0;let((w2,S2),e3,e4):=aM e2;let(ds1,e5,e6):=aM e4;let(ds2,e7,e8):=aM e6;dsimp only at e e3 e5 e7;cases e8;split at e
 .rename_i cS;cases e;refine xu (pB I hg hm (show vy "list" = qz (.type "list") by decide +kernel) ?_);refine yBm ?_ rfl rfl;show zq _ _ (spliced ((false,eval (.Call (.Name "zip" p2) [a,b] [] pos2) X.env)::[])) _ _ s;refine Calls.spliced_cons ?_;refine xu (pB I hg2 hm2 boot_zip ?_);refine yBm ?_ hs (by rw[hs2];rfl)
  refine bC (lX ha (lX hb aEU hs2) hs pos2 aB s σ H (λ vs H1=>∃ v v2 F1 L1,vs=[v,v2]/\Gr F L F1 L1/\Rel X.K F1 L1 S2 H1/\dW X.K F1 L1 w1 v/\dW X.K F1 L1 w2 v2) I ⟨F,L,S,env,[w1,w2],_,R,E,by unfold dF;rw[e1];dsimp only[yDn];rw[e3];rfl,λ F1 L1 H1 vs g1 R1 d1=>by
   obtain - | ⟨da,- | ⟨db,- | -⟩⟩:=d1
   exact(_,_,F1,L1,rfl,g1,R1,da,db,)⟩) λ us s1 hq=>?_
  let(vs,H1,I1,r1,v,v2,F1,L1,ev,g1,R1,d1,d2):=hq;subst ev;let(q1,rfl,h1):=qQ e5 d1;let(q2,rfl,h2):=qQ e7 d2;have Z:=zd2 h1 h2;refine aLW (qs:=[q1,q2]) I1 r1 (by simp) (by simp) (aEN Z R1.sub) λ h' I2 hl ZH0 hz sz fp=>?_
  refine Calls.spliced_nil (aOx hz λ h2 c R2 hk2 hS hR2=>?_);dsimp only at hk2 hS hR2 ⊢;have fr:H1 h'.objs.size=qx:=I2.hok.fresh (yAc _);have I3:Inv X aB σ (bE H1 h'.objs.size (.lst [])) {s1 with heap:=h2 }:=I2.laid (t':=s1.toks) hk2 (yAc _) (yEp _,[],c,.nil,hS,);have nS:h'.objs.size ∉ ad L1:=R1.notin fr;let(os,ol,hO):=ZH0.to;refine @aRi _ _ _ L1 aB σ S2 _ X F1 _ _ X.A.in1 _ (show X.A.in1.in1.in1.handled=qx from I.ok.hd hc) (by simp) (by simp) hl Z nS cS (λ s' H' F' vs' hw=>hR2 s' ?_) _ 0 _ (bE H1 h'.objs.size (.lst [])) F1 [] rfl (yEp _)
   (I3,cD.refl _,R1.lay fr,R1.sub.free fr,cQ,.nil,λ b hb=>(by rw[bV (na (by have:=List.mem_range'_1.mp hb;rw[sz];exact xAj this.2))];exact(fp b hb).1,(fp b hb).2,),) (ZH0.t.keep λ c o _ _ e=>hk2 _ _ e,(os,ol,hk2 _ _ hO,),_,_,hk2 _ _ hz,.inl (rfl,rfl,),)
  exact(.ref h'.objs.size,H',hw.inv,rfl,q F' L1 H' _ vs' (g1.trans (hw.same,[],by simp,)) hw.rel hw.free nS hw.lst hw.den,)
 .cases e
def aNu(K:FrG):V->List V->Hp->VK->Prop:=λ x vs H Q=>(∃ (a:qk) (ns:List Int) (k:Int),x=.ref a/\vs=[.int k]/\cB K H a (ns.map V.int)/\k∈ns/\Q (.int (ns.idxOf k:Nat)) H)\/(∃ (a:qk) (bs:List Bool) (k:Bool),x=.ref a/\vs=[.bl k]/\cB K H a (bs.map V.bl)/\k∈bs/\Q (.int (bs.idxOf k:Nat)) H)
def aFL(k:Bool):qj->Bool
 |.bool b=>b==k|_=>false
def aXI{bs:List Bool}:∀ {us:List qj},aZ (bs.map V.bl) us->us=bs.map Value.bool:=by
 induction bs with
 |nil=>intro us r;rw[yEq] at r;cases r;rfl
 |cons b bs ih=>
   intro us r;rw[yAm] at r;cases r with
   |cons r1 r2=>
     cases r1;rw[ih r2];rfl
def bAe(aB:List (qk×Obj))(s:qy)(σ:L2.St)(H:Hp)(v:qj)(us:List qj)(Q:VK)(I:Inv X aB σ H s)(a:qk)(bs:List Bool)(k:Bool)(rx:aY (.ref a) v)(rv:aZ [.bl k] us)(sq:cB X.K H a (bs.map V.bl))(hk:k∈bs)(q:Q (.int (bs.idxOf k:Nat)) H):zq (model X.prog X.w) X.A (call (.builtin "list.index") (v::us)) (EP X aB σ Q) X.xe s:=by
 cases rx;let(u,rfl,ru):=rv.one;cases ru;let(aG,r,pl,hz):=I.list sq;obtain rfl:=aXI r;let((cls,dd,data,sl),ho,hc,n,hd):=pl.isList;simp only at hc hd;subst hc hd;have hn:=nE;have hj:bs.idxOf k<↑bs:=List.idxOf_lt_length_iff.mpr hk;rw[yAa] at hz;refine jx yFt (_,ho,rfl,) PySem.F.entry_list_index (yHn _ _)
  (SeqAt.list_indexAt a (bs.map Value.bool).toArray n dd sl (.bool k) (aFL k) (bs.idxOf k) (hj:) (!_) ?_ ?_) (ho,λ y hy=>?_,(.int (bs.idxOf k:Nat),H,I.tok _,(_,rfl,),q,),)
 .simp[aFL]
 .intro j hjs hlt;have:=List.not_of_lt_findIdx (p:=(· == k)) (xs:=bs) hlt;simp only[List.getElem_toArray,List.getElem_map,aFL];simp_all
 .have hy':y∈bs.map Value.bool:=by grind
  let(b,_,rfl):=List.mem_map.mp hy';exact SeqAt.EqAt.bool_bool b k
def aQ5:MtM X "list.index" (aNu X.K):=by
 intro aB s σ H x vs v us Q I rx rv h;rcases h with h|⟨a,bs,k,rfl,rfl,sq,hk,q⟩
 case inr=>exact bAe aB s σ H v us Q I a bs k rx rv sq hk q
 let(a,ns,k,rfl,rfl,sq,hk,q):=h;cases rx;let(u,rfl,ru):=rv.one;let(t,rfl):=ru;let(aG,r,pl,hz):=I.list sq;have hi:=aPg r;let((cls,dd,data,sl),ho,hc,n,hd):=pl.isList;simp only at hc hd;subst hc hd;have cS:=hi.length;have hn:=nE;have hj:ns.idxOf k<↑ns:=List.idxOf_lt_length_iff.mpr hk;rw[yAa] at hz;refine jx yFt (_,ho,rfl,) PySem.F.entry_list_index (yHn _ _)
  (SeqAt.list_indexAt a aG.toArray n dd sl (.int k t) (isInt k) (ns.idxOf k) (by simp_all) (!_) ?_ ?_) (ho,λ y hy=>(eq_isInt k t hi y (hy:)).at _ _,(.int (ns.idxOf k:Nat),H,I.tok _,(_,rfl,),q,),)
 .show isInt k aG[ns.idxOf k]=true;rw[isInt_at k hi _ (!_) hj];simp_all
 .intro j hjs hlt;show isInt k aG[j]=false;rw[isInt_at k hi j (hjs:) (!_)];exact ne_of_lt_idxOf hlt _
def yV(S:aD):W->W->Option (W×aD)
 |.d (.list xs),.d (.int k)=>(iZ xs).bind λ ns=>if k∈ns then qz (.d (.int ((ns.idxOf k:Nat):Int)),S) else qx
 |.d (.list xs),.d (.bool k)=>(aA8 xs).bind λ ns=>if k∈ns then qz (.d (.int ((ns.idxOf k:Nat):Int)),S) else qx
 |_,_=>qx
def aQc(h:yV S o x=qz (w,S')):(∃ xs k ns,o=.d (.list xs)/\x=.d (.int k)/\iZ xs=qz ns/\k∈ns/\w=.d (.int ((ns.idxOf k:Nat):Int))/\S'=S)\/(∃ xs k ns,o=.d (.list xs)/\x=.d (.bool k)/\aA8 xs=qz ns/\k∈ns/\w=.d (.int ((ns.idxOf k:Nat):Int))/\S'=S):=by
 unfold yV at h;split at h
 case h_2=>
  rename_i xs k;let(ns,e1,e):=aM h;by_cases c:k∈ns
  .rw[if_pos c] at e;cases e;exact .inr (xs,k,ns,rfl,rfl,e1,c,rfl,rfl,)
  .rw[if_neg c] at e;cases e
 .rename_i xs k;let(ns,e1,e):=aM h;by_cases c:k∈ns
  .rw[if_pos c] at e;cases e;exact .inl (xs,k,ns,rfl,rfl,e1,c,rfl,rfl,)
  .rw[if_neg c] at e;cases e
 .cases h
def aCb(fo fe:FE):FE:=f2 fo fe yV
def aY6{fo fe:FE}(σ:L2.St)(H:Hp)(Q:VK)(h:aS K (aCb fo fe) σ H Q):tBM K "list" (aNu K) (aS K fo) (eN K (dF fe iE)) σ H Q:=by
 let(F,L,S,env,w,S',R,E,e,q):=h;let((wo,S1),e1,e):=aM e;let((we,S2),e2,e):=aM e;rcases aQc e with ⟨xs,k,ns,rfl,rfl,e5,hk,rfl,rfl⟩|⟨xs,k,ns,rfl,rfl,e5,hk,rfl,rfl⟩
 case inr=>
  refine(F,L,S,env,_,S1,R,E,e1,λ F1 L1 H1 o g1 R1 d1=>?_,);cases (show Den K F1 (.list xs) o from d1) with
  |lst sq dl=>
    obtain rfl:=aOQ dl e5;refine(.inl (rfl,_,R1.sub.seq sq,),F1,L1,S1,env,[.d (.bool k)],S',R1,E.mono g1,?_,λ F2 L2 H2 vs g2 R2 d2=>?_,)
    .unfold dF;rw[e2];rfl
    .cases d2 with
     |cons dd dr=>
       cases dr;cases (show Den K F2 (.bool k) _ from dd);exact .inr (_,ns,k,rfl,rfl,R2.sub.seq (g2.f.seq sq),hk,q F2 L2 H2 _ (g1.trans g2) R2 (.int _),)
 refine(F,L,S,env,_,S1,R,E,e1,λ F1 L1 H1 o g1 R1 d1=>?_,);cases (show Den K F1 (.list xs) o from d1) with
 |lst sq dl=>
   obtain rfl:=aAs dl e5;refine(.inl (rfl,_,R1.sub.seq sq,),F1,L1,S1,env,[.d (.int k)],S',R1,E.mono g1,?_,λ F2 L2 H2 vs g2 R2 d2=>?_,)
   .unfold dF;rw[e2];rfl
   .cases d2 with
    |cons dd dr=>
      cases dr;cases (show Den K F2 (.int k) _ from dd);exact .inl (_,ns,k,rfl,rfl,R2.sub.seq (g2.f.seq sq),hk,q F2 L2 H2 _ (g1.trans g2) R2 (.int _),)
def aFb:Bool->jj
 |true=>.NotIn|false=>.In
def wT:List D->Option (List Str)
 |[]=>qz []|.str i::r=>(wT r).bind λ l=>qz (i::l)|_::_=>qx
open PySem.Builtin PySem.Builtin.Str
def PEp(X:Cx)(e:qu)(t:TE):Prop:=∀ (aB:List (qk×Obj)) (s:qy) (σ:L2.St) (H:Hp) (Q:VK),Inv X aB σ H s->0<s.toks->t σ H Q->zq (model X.prog X.w) X.A (eval e X.env) (EP X aB σ Q) X.xe s
def PAp(X:Cx)(es:List qu)(t:TA):Prop:=∀ (pos:Pos) (aB:List (qk×Obj)) (s:qy) (σ:L2.St) (H:Hp) (Q:List V->Hp->Prop),Inv X aB σ H s->0<s.toks->t σ H Q->zq (model X.prog X.w) X.A (spliced (backTo pos (zx es X.env))) (λ us s2=>∃ vs H2,Inv X aB σ H2 s2/\aZ vs us/\Q vs H2) X.xe s
def PEp.of{t:TE}(h:PE X e t):PEp X e t:=λ aB s σ H Q I _ q=>h aB s σ H Q I q
def PAp.of{t:TA}(h:PA X es t):PAp X es t:=λ pos aB s σ H Q I _ q=>h pos aB s σ H Q I q
def W0.w:W0->W
 |.d x=>.d x|.loc n=>.loc n|.dic n=>.dic n
def w0:W->Option W0
 |.d x=>qz (.d x)|.loc n=>qz (.loc n)|.dic n=>qz (.dic n)|.tpl ws=>(fL ws).map λ l=>.d (.tuple l)|_=>qx
def w0s:List W->Option (List W0)
 |[]=>qz []|w::r=>(w0 w).bind λ x=>(w0s r).map (x :: ·)
def aCk(fa:FE)(f:Str):FE:=λ env S=>(fa env S).bind λ p=>match p.1 with|.ob fs=>(fs.lookup f).map λ w=>(w.w,p.2)|_=>qx
def aCd(m:Str)(fo:FE)(fs:FA)(np:Nat)(call:List W->aD->Option (W×aD)):FE:=λ env S=>(fo env S).bind λ p=>match p.1 with
 |.ob fl=>if (fl.lookup m).isNone=true then (fs env p.2).bind λ q=>if q.1.length+1=np then call (.ob fl::q.1) q.2 else qx else qx
 |_=>qx
inductive Ini where
 |arg (i:Nat)|lst|dct
 deriving DecidableEq
def kW(ds:List D):List (Str×Ini)->aD->Option (List (Str×W0)×aD)
 |[],S=>qz ([],S)|(f,.arg i)::r,S=>(ds[i]?).bind λ d=>(kW ds r S).map λ p=>((f,.d d)::p.1,p.2)|(f,.lst)::r,S=>(kW ds r (S++[qz []])).map λ p=>((f,.loc ↑S)::p.1,p.2)|(f,.dct)::r,S=>(kW ds r (S++[qz []])).map λ p=>((f,.dic ↑S)::p.1,p.2)
def aB0(ini:List (Str×Ini))(np:Nat)(fs:FA):FE:=λ env S=>(fs env S).bind λ p=>if p.1.length+1=np then (jF p.1).bind λ ds=>(kW ds ini p.2).map λ q=>(.ob q.1,q.2) else qx
def aCg(fs:FA):FE:=λ env S=>(fs env S).bind λ p=>(w0s p.1).bind λ ws=>if ↑ws<=qo then qz (.tpl ws,p.2) else qx
def gS:List W0->Option (List bK)
 |[]=>qz []|.d (.int i)::r=>(gS r).map (.inl i :: ·)|.d (.str x)::r=>(gS r).map (.inr x :: ·)|_=>qx
def uC:List D->Option (List bK)
 |[]=>qz []|.int i::r=>(uC r).map (.inl i :: ·)|.str x::r=>(uC r).map (.inr x :: ·)|_=>qx
def uT:D->Option (List bK×Int)
 |.tuple [.tuple ks,.int i]=>(uC ks).map λ l=>(l,i)|_=>qx
def aEH:∀ l:List bK,uC (l.map kD)=qz l
 |[]=>rfl|.inl i::r=>by rw[yAm,kD,uC,aEH r];rfl|.inr i::r=>by rw[yAm,kD,uC,aEH r];rfl
def aSa(p:List bK×Int):uT (mP p)=qz p:=by rw[mP,uT,aEH];rfl
def aFQ:∀ es:List (List bK×Int),(es.map mP).filterMap uT=es
 |[]=>rfl|p::r=>by rw[yAm,yCn,aSa,aFQ r]
def lI(S:aD)(n:Nat):Option (List (List bK×Int)):=match S[n]? with|some (qz ds)=>qz (ds.filterMap uT)|_=>qx
def eU(es:List (List bK×Int))(k:List bK):Option Int:=(es.find? λ p=>decide (p.1=k)).map (·.2)
def rM(es:List (List bK×Int))(k:List bK)(i:Int):List (List bK×Int):=if (eU es k).isSome=true then es.map λ p=>if p.1=k then (p.1,i) else p else es++[(k,i)]
noncomputable abbrev dV(es:List (List bK×Int)):List (List bK×V):=es.map λ p=>(p.1,V.int p.2)
def aBp(k:List bK):∀ es:List (List bK×Int),jG (dV es) k=(eU es k).map V.int
 |[]=>rfl
 |p::r=>by
   unfold jG eU;rw[dV,yAm,yCw,yCw];by_cases h:p.1=k
   .simp_all
   .simp only[h,decide_false];exact aBp k r
def aVB(es:List (List bK×Int))(k:List bK)(i:Int):jH (dV es) k (.int i)=dV (rM es k i):=by
 unfold jH rM;have h:((dV es).any λ kv=>decide (kv.1=k))=(eU es k).isSome:=by
  rw[aDl,aBp];cases eU es k<;>rfl
 rw[h];split
 .rw[dV,dV,yAz,yAz];refine yCq λ p _=>?_
  dsimp only[Function.comp];split<;>rfl
 simp_all
def uI(n:Bool)(fk fd:FE):FE:=λ env S=>(fk env S).bind λ p=>(fd env p.2).bind λ q=>match p.1,q.1 with|.tpl ws,.dic m=>(gS ws).bind λ k=>(lI q.2 m).map λ es=>(.d (.bool (n != (eU es k).isSome)),q.2)|_,_=>qx
def aBO(fd fk:FE):FE:=λ env S=>(fd env S).bind λ p=>(fk env p.2).bind λ q=>match p.1,q.1 with|.dic m,.tpl ws=>(gS ws).bind λ k=>(lI q.2 m).bind λ es=>(eU es k).map λ i=>(.d (.int i),q.2)|_,_=>qx
def aBB(fd fk fv:FE):FS:=λ env S=>(fv env S).bind λ p=>(fd env p.2).bind λ q=>(fk env q.2).bind λ r=>match p.1,q.1,r.1 with
 |.d (.int i),.dic m,.tpl ws=>(gS ws).bind λ k=>(lI r.2 m).bind λ es=>if ↑es<qo then qz (.nx env,r.2.set m (qz ((rM es k i).map mP))) else qx
 |_,_,_=>qx
def kR.w{F:Hp}{L:Lx}{w:W0}{v:V}(h:kR K F L w v):dW K F L w.w v:=by cases w<;>exact h
def aU0(h:dW K F L w v)(e:w0 w=qz x):kR K F L x v:=by
 cases w with
 |d y=>cases e;exact h|loc n=>cases e;exact h|dic n=>cases e;exact h
 |tpl ws=>
   let(l,e1,e2):=map_some (show(fL ws).map _=qz x from e);cases e2;let(a,vs,rfl,h1,h2):=h;exact .tup (.inl (.inl h1)) (aAX h2 e1)
 |exc c r=>cases e|ob fs=>cases e
section
variable {K:FrG}{F:Hp}{L:Lx}
def aJw:∀ {ws:List W}{xs:List V}{zs:List W0},WDenL K F L ws xs->w0s ws=qz zs->rS K F L zs xs
 |_,_,_,.nil,e=>by cases e;exact .nil
 |w::r,_,_,.cons h t,e=>by
   let(x,e1,e):=aM e;let(l,e2,e3):=map_some e;cases e3;exact .cons (aU0 h e1) (aJw t e2)
end
def aQg(h:nQ K F L fs vs)(e:fs.lookup f=qz w):∃ v,vs.lookup f=qz v/\kR K F L w v:=by
 induction h with
 |nil=>cases e
 |cons h t ih=>
   rename_i p q _ _;let(g,x):=p;let(g',y):=q;let(h1,h2):=h;dsimp only at h1 h2;subst h1;rw[yCb] at e ⊢;split at e
   .simp_all
   .exact ih e
def aSs(h:nQ K F L fs vs)(e:fs.lookup f=qx):vs.lookup f=qx:=by
 induction h with
 |nil=>rfl
 |cons h t ih=>
   rename_i p q _ _;let(g,x):=p;let(g',y):=q;let(h1,h2):=h;dsimp only at h1 h2;subst h1;rw[yCb] at e ⊢;split at e
   .cases e
   .exact ih e
section
variable {K:FrG}{F:Hp}{L:Lx}
def aLm:∀ {ws:List W0}{vs:List V},rS K F L ws vs->↑ws=↑vs
 |_,_,.nil=>rfl|_,_,.cons _ r=>congrArg (· + 1) (aLm r)
end
def aDw(h:rS K F L ws vs)(e:gS ws=qz k):vs=k.map kV:=by
 induction h generalizing k with
 |nil=>cases e;rfl
 |cons h t ih=>
   rename_i w _ r _;cases w with
   |d x=>
     cases x with
     |int i=>
       let(l,e1,e2):=map_some (show(gS r).map _=_ from e);cases e2;cases (show Den K F (.int i) _ from h);rw[ih e1];rfl
     |str i=>
       let(l,e1,e2):=map_some (show(gS r).map _=_ from e);cases e2;cases (show Den K F (.str i) _ from h);rw[ih e1];rfl
     |_=>cases e
   |_=>cases e
def aQT(h:lI S n=qz es):∃ ds,S[n]?=qz (qz ds)/\es=ds.filterMap uT:=by
 unfold lI at h;split at h
 .rename_i ds e;cases h;exact(ds,e,rfl,)
 .cases h
def aEm(R:Rel K F L S H)(h:lI S n=qz es)(e:L[n]?=qz (a,true)):F a=qx/\H a=qz (.dT (dV es)):=by let(ds,h1,rfl):=aQT h;let(hF,es,rfl,h2):=R.dic n a ds e h1;rw[aFQ];exact(hF,h2,)
abbrev kX(K:FrG)(C:qk):Prop:=yCi K zu "Maker" = qz (qz (.ref C))
def aL7(a:kX K C)(b:kX K C'):C'=C:=by grind
def aYr{fa:FE}(ha:PE X a (aS X.K fa))(hb:attributeBase a f X.env (eval a X.env)=eval a X.env)(hm:kX X.K C)(hc:Cls X.K C)(hn:NoAttr X.K C f):PE X (.Attribute a f pos) (aS X.K (aCk fa f)):=
 PE.weak (aVm ha hb) λ σ H Q aW=>by
  let(F,L,S,env,w,S',R,E,e,q):=aW;let((w1,S1),e1,e):=aM e;dsimp only at e;split at e
  .rename_i fs;let(w0,e2,e3):=map_some e;cases e3;refine(F,L,S,env,_,_,R,E,e1,λ F1 L1 H1 v g1 R1 d1=>?_,);let(p,C',dx,vs,rfl,h1,h2,h3):=d1;obtain rfl:=aL7 hm h2;let(u,h4,h5):=aQg h3 e2;exact(p,_,dx,vs,u,rfl,R1.sub _ _ h1,hc,hn,h4,q F1 L1 H1 u g1 R1 h5.w,)
  .cases e
def aVy{fo:FE}{fs:FA}{call:List W->aD->Option (W×aD)}(hm:kX K C)(σ:St)(H:Hp)(Q:VK)(h:aS K (aCd m fo fs np call) σ H Q):aLT C m (qH K np call) [] E0 (aS K fo) (eN K fs) σ H Q:=by
 let(F,L,S,env,w,S',R,E,e,q):=h;let((w1,S1),e1,e):=aM e;dsimp only at e;split at e
 .rename_i fl;split at e
  .rename_i hn;let((ws,S2),e2,e):=aM e;dsimp only at e;split at e
   .rename_i hl;refine(F,L,S,env,_,_,R,E,e1,λ F1 L1 H1 v g1 R1 d1=>?_,);have d1':=d1;let(p,C',dx,vs,rfl,h1,h2,h3):=d1;obtain rfl:=aL7 hm h2;refine(p,dx,vs,rfl,R1.sub _ _ h1,aSs h3 (Option.isNone_iff_eq_none.mp hn),F1,L1,S1,env,ws,S2,R1,E.mono g1,e2,λ F2 L2 H2 us g2 R2 d2=>?_,);exact(F2,L2,S2,.ob fl::ws,w,S',by rw[yAr];exact hl,R2,.cons (d1'.mono g2) (by rw[yAx];exact d2),e,λ F3 L3 H3 v g3 R3 d3=>q F3 L3 H3 v ((g1.trans g2).trans g3) R3 d3,)
   .cases e
  .cases e
 .cases e
def aZk{fs:FA}(h:PA X es (eN X.K fs)):PE X (.Tuple es k pos) (aS X.K (aCg fs)):=
 PE.weak (aLM h) λ σ H Q aW=>by
  let(F,L,S,env,w,S',R,E,e,q):=aW;let((ws,S1),e1,e2):=aM e;let(zs,e3,e4):=aM e2;split at e4
  .rename_i hz;cases e4;refine(F,L,S,env,ws,_,R,E,e1,λ F1 L1 H1 vs g1 R1 d1=>?_,);have dl:=aJw d1 e3;refine(by rw[<- aLm dl];exact hz,λ p hp=>?_,);have g2:Gr F1 L1 (bE F1 p (.tup vs)) L1:=Gr.new (R1.sub.free hp);exact q _ L1 _ _ (g1.trans g2) (R1.new hp) (p,vs,rfl,cQ,L2.Paired.mapP dl λ _ _ z=>z.mono g2,)
  .cases e4
def aMB{fa fb:FE}(hu:X.A.units+1<cLine)(ha:PE X a (aS X.K fa))(hb:PE X b (aS X.K fb)):PC X (aFb n) a b (aS X.K (uI n fa fb)):=by
 have key:∀ (σ:St) (H:Hp) (Q:VK),aS X.K (uI n fa fb) σ H Q->aS X.K fa σ H λ y H1=>aS X.K fb σ H1 λ x H2=>∃ a o,x=.ref a/\jV H2 a y o/\Q (.bl (n != o.isSome)) H2:=λ σ H Q aW=>by
  let(F,L,S,env,w,S',R,E,e,q):=aW;let((w1,S1),e1,e):=aM e;let((w2,S2),e2,e):=aM e;dsimp only at e e2;split at e
  .rename_i ws m;let(k,e3,e):=aM e;let(es,e4,e5):=map_some e;cases e5;refine(F,L,S,env,_,_,R,E,e1,λ F1 L1 H1 v g1 R1 d1=>(F1,L1,_,env,_,_,R1,E.mono g1,e2,λ F2 L2 H2 u g2 R2 d2=>?_,),);let(p,vs,rfl,h1,h2):=d1.mono g2;let(a,ea,rfl):=d2;obtain rfl:=aDw h2 e3;let(_,hd):=aEm R2 e4 ea;refine(a,_,rfl,jV.t hd (R2.sub _ _ h1),?_,);rw[aBp];have:((eU es k).map V.int).isSome=(eU es k).isSome:=by cases eU es k<;>rfl
   rw[this];exact q F2 L2 H2 _ (g1.trans g2) R2 (.bl _)
  .cases e
 cases n with
 |false=>
   intro aB s σ H Q I h;refine aVY hu ha hb aB s σ H Q I ?_;let(F,L,S,env,w,S',R,E,e,q):=key σ H Q h;refine(F,L,S,env,w,S',R,E,e,λ F1 L1 H1 v g1 R1 d1=>?_,);let(F,L,S,env,w,S',R,E,e,q2):=q F1 L1 H1 v g1 R1 d1;refine(F,L,S,env,w,S',R,E,e,λ F1 L1 H1 v g1 R1 d1=>?_,);let(a,o,h1,h2,h3):=q2 F1 L1 H1 v g1 R1 d1;exact(a,o,h1,h2,by simpa using h3,)
 |true=>
   intro aB s σ H Q I h;refine aPX hu ha hb aB s σ H Q I ?_;let(F,L,S,env,w,S',R,E,e,q):=key σ H Q h;refine(F,L,S,env,w,S',R,E,e,λ F1 L1 H1 v g1 R1 d1=>?_,);let(F,L,S,env,w,S',R,E,e,q2):=q F1 L1 H1 v g1 R1 d1;refine(F,L,S,env,w,S',R,E,e,λ F1 L1 H1 v g1 R1 d1=>?_,);let(a,o,h1,h2,h3):=q2 F1 L1 H1 v g1 R1 d1;exact(a,o,h1,h2,by simpa using h3,)
def aU4{fa fb:FE}(hu:X.A.units+1<cLine)(ha:PE X a (aS X.K fa))(hb:PE X b (aS X.K fb))(hs:wN b):PE X (.Subscript a b pos) (aS X.K (aBO fa fb)):=
 PE.weak (aTp hu ha hb hs) λ σ H Q aW=>by
  let(F,L,S,env,w,S',R,E,e,q):=aW;let((w1,S1),e1,e):=aM e;let((w2,S2),e2,e):=aM e;dsimp only at e e2;split at e
  .rename_i m ws;let(k,e3,e):=aM e;let(es,e4,e):=aM e;let(i,e5,e6):=map_some e;cases e6;refine(F,L,S,env,_,_,R,E,e1,λ F1 L1 H1 v g1 R1 d1=>(F1,L1,_,env,_,_,R1,E.mono g1,e2,λ F2 L2 H2 u g2 R2 d2=>?_,),);let(a,ea,rfl):=d1.mono g2;let(p,vs,rfl,h1,h2):=d2;obtain rfl:=aDw h2 e3;let(_,hd):=aEm R2 e4 ea;refine(a,.int i,rfl,?_,q F2 L2 H2 _ (g1.trans g2) R2 (.int _),);have:=jV.t hd (R2.sub _ _ h1);rw[aBp,e5] at this;exact this
  .cases e
def aV6{pos:Pos}{fo fi fe:FE}(hu:X.A.units+1<cLine)(ho:PE X o (aS X.K fo))(hi:PE X i (aS X.K fi))(he:PE X e (aS X.K fe))(hs:swapsWith e (qz (.Subscript o i pos')) pos.line X.env=pure false) :
 PS X (.Assign [.Subscript o i pos'] e pos) (dL X.K (aBB fo fi fe)):=
 PS.weak (aSb hu ho hi he hs) λ D σ H h=>by
  let(F,L,S,env,fl,S',R,E,e,q):=kK h;let((w1,S1),e1,e):=aM e;let((w2,S2),e2,e):=aM e;let((w3,S3),e3,e):=aM e;dsimp only at e e2 e3;split at e
  .let(k,e4,e):=aM e;let(es,e5,e):=aM e;split at e
   .rename_i hl;cases e;refine(F,L,S,env,_,_,R,E,e1,λ F1 L1 H1 v g1 R1 d1=>(F1,L1,_,env,_,_,R1,E.mono g1,e2,λ F2 L2 H2 u g2 R2 d2=>(F2,L2,_,env,_,_,R2,E.mono (g1.trans g2),e3,λ F3 L3 H3 y g3 R3 d3=>?_,),),);cases (show Den X.K F1 (.int _) v from d1);let(a,ea,rfl):=d2.mono g3;let(p,vs,rfl,h1,h2):=d3;obtain rfl:=aDw h2 e4;let(hF,hd):=aEm R3 e5 ea;refine(a,_,rfl,yR.t hd (R3.sub _ _ h1) (by rw[yAa];exact hl),?_,);rw[aVB];exact q F3 L3 _ ((g1.trans g2).trans g3) (R3.putC ea hF (λ z=>(nomatch z)) λ _=>(rM es k _,rfl,rfl,)) σ (E.mono ((g1.trans g2).trans g3))
   .cases e
  .cases e
def aNq:Ini->TE
 |.arg i=>uN (i+1)|.lst=>aFz aFo|.dct=>aK8
def yL(K:FrG):List (Str×Ini)->TS
 |[]=>aMc|p::r=>aNp (aNv K (uN 0) (aNq p.2) p.1) (yL K r)
def aIV:∀ {vs:List (Str×V)},f ∉ vs.map (·.1)->fR f v vs=vs++[(f,v)]
 |[],_=>rfl
 |(g,x)::r,h=>by
   rw[yAm,yCc,not_or] at h;rw[fR,if_neg λ z=>h.1 z.symm,aIV h.2];rfl
section
variable {K:FrG}{F:Hp}{L:Lx}
def aDH:∀ {fs:List (Str×W0)}{vs:List (Str×V)},nQ K F L fs vs->vs.map (·.1)=fs.map (·.1)
 |_,_,.nil=>rfl|_,_,.cons h t=>by rw[yAm,yAm,aDH t,h.1]
end
def aUc(p:nQ K F L fs vs)(h:kR K F L w v):nQ K F L (fs++[(f,w)]) (vs++[(f,v)]):=by
 induction p with
 |nil=>exact .cons (rfl,h,) .nil|cons a _ ih=>exact .cons a ih
def aJD{L:Lx}{S:aD}(h:↑L=↑S):(L++[q])[↑S]?=qz q:=by rw[<- h,yAd (yAc _),yBb];rfl
def aJK{C x dx:qk}{ds:List D}{D:Ends}{σ:St}(hc:Cls K C)(hσ:σ[0]?=qz (qz (.ref x))):∀ (ini:List (Str×Ini)) {S S':aD}{fs fs0:List (Str×W0)}{F H:Hp}{L:Lx}{vs0:List (Str×V)},
 (∀ p∈ini,NoAttr K C p.1)->(fs0.map (·.1)++ini.map (·.1)).Nodup->fs0.length+ini.length<=1000->Rel K F L S H->F x=qx->x ∉ ad L->H x=qz (.ins C dx vs0)->nQ K F L fs0 vs0 ->
 (∀ (i:Nat) (d:EV.D),ds[i]?=qz d->∃ v,σ[i+1]?=qz (qz v)/\Den K F d v)->kW ds ini S=qz (fs,S') ->
 (∀ F' L' H' vs',Gr F L F' L'->Rel K F' L' S' H'->F' x=qx->x ∉ ad L'->H' x=qz (.ins C dx vs')->nQ K F' L' (fs0++fs) vs'->D.nx σ H')->yL K ini D σ H
 |[],S,S',fs,fs0,F,H,L,vs0,hn,nd,hl,R,hF,hL,hx,hf,ha,e,q=>by
   cases e;exact q F L H vs0 Gr.refl R hF hL hx (by rw[yAx];exact hf)
 |(f,i)::r,S,S',fs,fs0,F,H,L,vs0,hn,nd,hl,R,hF,hL,hx,hf,ha,e,q=>by
   have nf:f ∉ vs0.map (·.1):=by
    rw[aDH hf]
    grind
   have lf:vs0.length<1000:=by
    have h1:=congrArg yGc (aDH hf);rw[yAa,yAa] at h1;rw[yAr] at hl;omega
   have nd':∀ w:W0,((fs0++[(f,w)]).map (·.1)++r.map (·.1)).Nodup:=λ w=>by
    rw[yAk,yAq];exact nd
   have hl':∀ w:W0,(fs0++[(f,w)]).length+r.length<=1000:=λ w=>by
    rw[yAj,yGg];rw[yAr] at hl;omega
   have hn':∀ p∈r,NoAttr K C p.1:=λ p hp=>hn p (xAf _ hp)
   have step:∀ {y:V}{w:W0}{F1 H1:Hp}{L1:Lx}{S1:aD}{fs1:List (Str×W0)},Gr F L F1 L1->Rel K F1 L1 S1 H1->F1 x=qx->x ∉ ad L1->H1 x=qz (.ins C dx vs0)->kR K F1 L1 w y->kW ds r S1=qz (fs1,S')->fs=(f,w)::fs1 ->
    uN 0 σ H1 λ x' H2=>∃ a C' dx' fs',x'=.ref a/\H2 a=qz (.ins C' dx' fs')/\Cls K C'/\NoAttr K C' f/\fs'.length<1000/\yL K r D σ (bE H2 a (.ins C' dx' (fR f y fs'))):=λ {y w F1 H1 L1 S1 fs1} g R1 hF1 hL1 hx1 dw e1 efs=>by
    refine(.ref x,hσ,x,C,dx,vs0,rfl,hx1,hc,hn _ xAc,lf,?_,);rw[aIV nf];refine aJK hc hσ r hn' (nd' w) (hl' w) (R1.relay hF1 hL1) hF1 hL1 cQ (aUc (L2.Paired.mapP hf λ _ _ z=>(z.1,z.2.mono g,)) dw) (λ i d z=>?_) e1 λ F' L' H' vs' g' R' h1 h2 h3 h4=>q F' L' H' vs' (g.trans g') R' h1 h2 h3 ?_
    .let(v,h1,h2):=ha i d z;exact(v,h1,Den.mono g.f h2,)
    simp_all
   cases i with
   |arg i=>
     let(d,e1,e):=aM (show(ds[i]?).bind (λ d=>(kW ds r S).map λ p=>((f,W0.d d)::p.1,p.2))=qz (fs,S') from e);let((fs1,S1),e2,e3):=map_some e;cases e3;let(v,h1,h2):=ha i d e1;exact(v,h1,step (w:=.d d) Gr.refl R hF hL hx h2 e2 rfl,)
   |lst=>
     let((fs1,S1),e2,e3):=map_some (show(kW ds r (S++[qz []])).map (λ p=>((f,W0.loc ↑S)::p.1,p.2))=qz (fs,S') from e);cases e3;refine(yEp _,λ p hp=>?_,);have ne:x≠p:=eO hx hp;refine step (w:=.loc ↑S) Gr.newLoc (R.newLoc hp .nil) hF ?_ (by rw[bV ne];exact hx) (p,aJD R.len,rfl,) e2 rfl;rw[ad,yAk,List.mem_append,not_or];exact(hL,by simpa using ne,)
   |dct=>
     let((fs1,S1),e2,e3):=map_some (show(kW ds r (S++[qz []])).map (λ p=>((f,W0.dic ↑S)::p.1,p.2))=qz (fs,S') from e);cases e3;intro p hp;have ne:x≠p:=eO hx hp;refine step (w:=.dic ↑S) Gr.newLoc (R.newDic hp) hF ?_ (by rw[bV ne];exact hx) (p,aJD R.len,rfl,) e2 rfl;rw[ad,yAk,List.mem_append,not_or];exact(hL,by simpa using ne,)
def spM(K:FrG)(C:qk)(ini:List (Str×Ini))(np:Nat):Sp:=λ vs H Q _=>∃ F L S x dx ds us fs S',vs=.ref x::us/\↑us+1=np/\Rel K F L S H/\F x=qx/\x ∉ ad L/\H x=qz (.ins C dx [])/\DenL K F ds us/\kW ds ini S=qz (fs,S') /\
 ∀ F' L' H' vs',Gr F L F' L'->Rel K F' L' S' H'->F' x=qx->x ∉ ad L'->H' x=qz (.ins C dx vs')->nQ K F' L' fs vs'->Q .non H'
def aVU{Q:VK}{E:XK}(hc:Cls K C)(hn:∀ p∈ini,NoAttr K C p.1)(nd:(ini.map (·.1)).Nodup)(hl:ini.length<=1000)(h:spM K C ini np vs H Q E) :
 yL K ini {nx:=λ _ H'=>Q .non H',rt:=Q } (L2.start N vs) H:=by
 let(F,L,S,x,dx,ds,us,fs,S',rfl,hu,R,hF,hL,hx,dl,e,q):=h;refine aJK (ds:=ds) hc (x:=x) (dx:=dx) ?_ ini (fs0:=[]) (vs0:=[]) hn nd (by rw[yBu,yBz];exact hl) R hF hL hx .nil (λ i d z=>?_) e λ F' L' H' vs' g R' h1 h2 h3 h4=>q F' L' H' vs' g R' h1 h2 h3 h4
 .rfl
 .let(v,h1,h2):=dl.get z;refine(v,?_,h2,);unfold L2.start;rw[yAm,yEi,yBp,xAm (by rw[yAa];exact(gIm h1).1),yAg,h1];rfl
def aVR{fs:FA}(hm:kX K C)(σ:St)(H:Hp)(Q:VK)(h:aS K (aB0 ini np fs) σ H Q):aMN C (spM K C ini np) [] E0 (eN K fs) σ H Q:=by
 let(F,L,S,env,w,S',R,E,e,q):=h;let((ws,S1),e1,e):=aM e;dsimp only at e;split at e
 .rename_i hl;let(ds,e2,e):=aM e;let((fl,S2),e3,e4):=map_some e;cases e4;refine(F,L,S,env,ws,S1,R,E,e1,λ F1 L1 H1 vs g1 R1 d1 x dx hx hd ne=>?_,);have R2:=R1.lay (o:=.own x) hd;have hx2:bE H1 dx (.own x) x=qx:=by rw[bV λ z=>ne z.symm];exact hx
  have R3:=R2.lay (o:=.ins C dx []) hx2;rw[yAx];refine(F1,L1,S1,x,dx,ds,vs,fl,S2,rfl,by rw[<- d1.length];exact hl,R3,R1.sub.free hx,R1.notin hx,cQ,qS d1 e2,e3,λ F' L' H' vs' g' R' h1 h2 h3 h4=>(rfl,?_,),);have g2:Gr F' L' (bE F' x (.ins C dx vs')) L':=Gr.new h1;exact q _ L' H' _ ((g1.trans g').trans g2) (R'.adoptO h1 h2 h3) (x,C,dx,vs',rfl,cQ,hm,L2.Paired.mapP h4 λ _ _ z=>(z.1,z.2.mono g2,),)
 .cases e
def yZ(xs:List D)(k:D):Option D:=match wT xs,k with|some _,.str k=>qz (.int (Spec.countIn (.str k) xs))|_,_=>qx
def aPY{xs:List D}(h:yZ xs k=qz z):∃ ys s,wT xs=qz ys/\k=.str s/\z=.int (Spec.countIn (.str s) xs):=by
 unfold yZ at h;split at h
 .rename_i ys s e;cases h;exact(ys,s,e,rfl,rfl,)
 .cases h
def aHi:∀ {xs:List D}{ys:List Str},wT xs=qz ys->xs=ys.map yDk
 |[],_,e=>by cases e;rfl
 |.str x::r,_,e=>by
   let(l,e1,e2):=aM (show(wT r).bind (λ l=>qz (x::l))=_ from e);cases e2;rw[aHi e1];rfl
 |.none::_,_,e=>by cases e|.bool _::_,_,e=>by cases e|.int _::_,_,e=>by cases e|.list _::_,_,e=>by cases e|.tuple _::_,_,e=>by cases e|.dict _::_,_,e=>by cases e
def aFa:∀ {ys:List Str}{us:List qj},aZ (ys.map V.str) us->StrsAre us ys
 |[],_,.nil=>.nil|y::r,_,.cons ⟨t,h⟩ q=>by subst h;exact .cons y t (aFa q)
def aR8{Q:VK}{ys:List Str}(I:Inv X aB σ H s)(sq:cN X.K H a (ys.map V.str))(q:Q (.int (Spec.countIn (.str k) (ys.map yDk))) H) :
 zq (model X.prog X.w) X.A (call (.builtin "tuple.count") [.ref a,.str k t]) (EP X aB σ Q) X.xe s:=by let(aG,r,((cls,dd,data,sl),ho,hc,n,hd),hz):=I.tuple sq;simp only at hc hd;subst hc hd;have hs:=aFa r;refine jx PySem.F.slot_tuple_count (_,ho,rfl,) PySem.F.entry_tuple_count (PySem.F.args_tuple_count_2 _ _) (SeqAt.tuple_countAt a aG.toArray n dd sl (.str k t) (isStrOf k)) (ho,λ y hy=>(eq_isStrOf k t hs y (hy:)).at _ _,?_,);refine(.int (Spec.countIn (.str k) (ys.map yDk)),H,I.tok _,(s.toks,?_,),q,);rw[<- countP_isStrOf_map k hs]
def aSQ{Q:VK}{ys:List Str}(I:Inv X aB σ H s)(sq:cB X.K H a (ys.map V.str))(q:Q (.int (Spec.countIn (.str k) (ys.map yDk))) H) :
 zq (model X.prog X.w) X.A (call (.builtin "list.count") [.ref a,.str k t]) (EP X aB σ Q) X.xe s:=by let(aG,r,pl,hz):=I.list sq;let((cls,dd,data,sl),ho,hc,n,hd):=pl.isList;simp only at hc hd;subst hc hd;have hs:=aFa r;refine jx PySem.F.slot_list_count (_,ho,rfl,) PySem.F.entry_list_count (PySem.F.args_list_count_2 _ _) (SeqAt.list_countAt a aG.toArray n dd sl (.str k t) (isStrOf k)) (ho,λ y hy=>(eq_isStrOf k t hs y (hy:)).at _ _,?_,);refine(.int (Spec.countIn (.str k) (ys.map yDk)),H,I.tok _,(s.toks,?_,),q,);rw[<- countP_isStrOf_map k hs]
def aNh(K:FrG):V->List V->Hp->VK->Prop:=λ x vs H Q=>∃ (a:qk) (ys:List Str) (k:Str),x=.ref a/\vs=[.str k]/\cB K H a (ys.map V.str)/\Q (.int (Spec.countIn (.str k) (ys.map yDk))) H
def aRu:MtM X "list.count" (aNh X.K):=by intro aB s σ H x vs v us Q I rx rv h;let(a,ys,k,rfl,rfl,sq,q):=h;cases rx;let(u,rfl,ru):=rv.one;let(t,rfl):=ru;exact aSQ I sq q
def uM(fs:FA)(fa:FE):FE:=λ env S=>(fs env S).bind λ p=>(jF p.1).bind λ xs=>if ↑xs<=qo then (fa env p.2).bind λ q=>(wd q.1).bind λ k=>(yZ xs k).map λ z=>(.d z,q.2) else qx
def aHU{fs:FA}{fa:FE}(h:uM fs fa env S=qz (w,S')):∃ (ws:List W) (S1:aD) (ys:List Str) (wk:W) (k:Str),fs env S=qz (ws,S1)/\jF ws=qz (ys.map yDk)/\(ys.map yDk).length<=qo/\fa env S1=qz (wk,S')/\wd wk=qz (.str k)/\w=.d (.int (Spec.countIn (.str k) (ys.map yDk))):=by
 let((ws,S1),e1,h):=aM h;let(xs,e2,h):=aM h;split at h
 .rename_i hz;let((wk,S2),e3,h):=aM h;let(k,e4,h):=aM h;let(z,e5,e6):=map_some h;let(ys,s,e7,rfl,rfl):=aPY e5;obtain rfl:=aHi e7;cases e6;exact(ws,S1,ys,wk,s,e1,e2,hz,e3,e4,rfl,)
 .cases h
def aDy:∀ {ys:List Str}{xs:List V},DenL K F (ys.map yDk) xs->xs=ys.map V.str
 |[],_,.nil=>rfl|y::r,_,.cons h t=>by cases h;rw[aDy t];rfl
def aVO{apos cpos:Pos}{fs:FA}{fa:FE}(hs:PA X es (eN X.K fs))(ha:PE X e (aS X.K fa))(hline:(apos.endLine==cpos.line)=true)(st:zx [e] X.env=(false,eval e X.env)::zx [] X.env) :
 PE X (.Call (.Attribute (.Tuple es k tpos) "count" apos) [e] [] cpos) (aS X.K (uM fs fa)):=by
 rintro aB s σ H Q I ⟨F,L,S,env,w,S',R,E,eq,q⟩;let(ws,S1,ys,wk,kk,e1,e2,hz,e3,e4,rfl):=aHU eq;refine wpAny_Call_method_late (by rfl) (by rw[st];rfl) hline rfl (wpAny_Tuple_spliced (bC (hs tpos aB s σ H (λ vs H1=>∃ F1 L1,Gr F L F1 L1/\Rel X.K F1 L1 S1 H1/\WDenL X.K F1 L1 ws vs) I ⟨F,L,S,env,ws,S1,R,E,e1,λ F1 L1 H1 vs g1 R1 d1=>(F1,L1,g1,R1,d1,)⟩) λ us s1 hPq51=>?_));let(vs,H1,I1,r,F1,L1,g1,R1,d1):=hPq51;have dl:=qS d1 e2;obtain rfl:=aDy dl;have cS:↑us<=qo:=by rw[<- r.length,<- dl.length];exact hz
 refine(cS,?_,);have hf:H1 s1.heap.objs.size=qx:=I1.hok.fresh (yAc _);have ob:=xAd (o:={cls:=.type "tuple",data:=.seq us.toArray 0 }) s1.heap rfl;have I2:Inv X aB σ (bE H1 s1.heap.objs.size (.tup (ys.map V.str))) {s1 with heap:=s1.heap.push {cls:=.type "tuple",data:=.seq us.toArray 0 } }:=
  I1.laid (t':=s1.toks) (λ b u e=>hpS _ e) (yAc _) (by rw[r.length];exact cS,us,r,(_,ob,rfl,_,rfl,),)
 refine("tuple","tuple.count",PySem.F.plainAttrs_tuple,PySem.F.slot_tuple_count,PySem.F.type_tuple_count,(_,ob,rfl,),λ a e=>by cases e;exact(_,ob,rfl,),?_,);have g2:Gr F1 L1 (bE F1 s1.heap.objs.size (.tup (ys.map V.str))) L1:=Gr.new (R1.sub.free hf);have hA:=ha aB _ σ _ (λ v H2=>∃ F2 L2,Gr (bE F1 s1.heap.objs.size (.tup (ys.map V.str))) L1 F2 L2/\Rel X.K F2 L2 S' H2/\dW X.K F2 L2 wk v) I2 ⟨_,L1,S1,env,wk,S',R1.new hf,(E.mono g1).mono g2,e3,λ F2 L2 H2 v g R d=>(F2,L2,g,R,d,)⟩;rw[st];refine Calls.callWith_builtin rfl (Calls.evalArgs_plain (Calls.spliced_cons (bC hA λ u s2 ⟨v,H2,I3,rv,F2,L2,g3,R3,d3⟩=>Calls.spliced_nil ?_)));have dk:=aBd d3 e4;cases dk;let(t,rfl):=rv;exact aR8 I3 (cN.of (R3.sub _ _ (g3.f _ _ cQ))) (q F2 L2 H2 _ ((g1.trans g2).trans g3) R3 (.int _))
def aUF{fs:FA}{fa:FE}(σ:L2.St)(H:Hp)(Q:VK)(h:aS X.K (uM fs fa) σ H Q):tBM X.K "list" (aNh X.K) (aFz (eN X.K fs)) (eN X.K (dF fa iE)) σ H Q:=by
 let(F,L,S,env,w,S',R,E,eq,q):=h;let(ws,S1,ys,wk,kk,e1,e2,hz,e3,e4,rfl):=aHU eq;refine(F,L,S,env,ws,S1,R,E,e1,λ F1 L1 H1 vs g1 R1 d1=>?_,);have dl:=qS d1 e2;obtain rfl:=aDy dl;refine(by rw[<- dl.length];exact hz,λ p hp=>(.inl (rfl,_,cB.of cQ,),?_,),);have g2:Gr F1 L1 (bE F1 p (.lst (ys.map V.str))) L1:=Gr.new (R1.sub.free hp);refine(_,L1,S1,env,[wk],S',R1.new hp,(E.mono g1).mono g2,?_,λ F2 L2 H2 us g3 R3 d3=>?_,)
 .unfold dF;rw[e3];rfl
 .cases d3 with
  |cons dd dr=>
    cases dr;cases aBd dd e4;exact(p,ys,kk,rfl,rfl,cB.of (R3.sub _ _ (g3.f _ _ cQ)),q F2 L2 H2 _ ((g1.trans g2).trans g3) R3 (.int _),)
def qE(fa:FE)(fl fh:FO):FE:=λ env S=>(fa env S).bind λ p=>(fl env p.2).bind λ q=>(fh env q.2).bind λ r=>(dr r.2 p.1).bind λ d=>match d with|.list xs=>qz (.d (.list (eE xs q.1 r.1)),r.2)|.tuple xs=>qz (.d (.tuple (eE xs q.1 r.1)),r.2)|_=>qx
def iL(fa:FE):FL:=λ env S=>(fa env S).bind λ p=>match p.1 with|.d (.list ds)=>qz (ds,p.2)|.d (.tuple ds)=>qz (ds,p.2)|_=>qx
def aZB{lo hi:Option qu}{fa:FE}{fl fh:FO}(ha:PE X a (aS X.K fa))(hl:PO X lo (mL X.K fl))(hh:PO X hi (mL X.K fh)):PE X (.Subscript a (.Slice lo hi qx p2) pos) (aS X.K (qE fa fl fh)):=by
 rintro aB s σ H Q I ⟨F,L,S,env,w,S',R,E,e,q⟩;let((w1,S1),e1,e):=aM e;let((l,S2),e2,e):=aM e;let((h,S3),e3,e):=aM e;let(d,e4,e):=aM e;dsimp only at e e2 e3 e4;cases d with
 |list xs=>
   cases e;refine aNO (aY1 ha hl hh) aB s σ H Q I (F,L,S,env,_,_,R,E,?_,q,);unfold lD aNG;rw[e1];dsimp only[yDn];rw[e2];dsimp only;rw[e3];dsimp only;rw[e4];rfl
 |tuple xs=>
   cases e;refine aUt ha hl hh aB s σ H Q I (F,L,S,env,_,_,R,E,?_,q,);unfold aMM;rw[e1];dsimp only[yDn];rw[e2];dsimp only;rw[e3];dsimp only;rw[e4];dsimp only[aM5]
 |_=>cases e
def aZC{fa:FE}(ha:PE X a (aS X.K fa)):PI X tg a (jM X.K (iL fa)):=by
 rintro aB s σ H Rr I ⟨F,L,S,env,ds,S',R,E,e,q⟩;let((w1,S1),e1,e):=aM e;dsimp only at e;split at e
 .rename_i ds';cases e;refine aXl ha aB s σ H Rr I (F,L,S,env,_,_,R,E,?_,q,);unfold aNA;rw[e1];rfl
 .cases e;refine aXs ha aB s σ H Rr I (F,L,S,env,_,_,R,E,?_,q,);unfold aNQ;rw[e1];rfl
 .cases e
inductive Ty where
 |int|bool|str|lst|tup
 deriving DecidableEq
def Ty.s:Ty->String
 |.int => "int" |.bool => "bool" |.str => "str" |.lst => "list" |.tup => "tuple"
def Ty.n:Ty->Str
 |.int => "int" |.bool => "bool" |.str => "str" |.lst => "list" |.tup => "tuple"
inductive B where
 |len|mx|mn|int|tup|sum
 deriving DecidableEq
def B.g:B->List D->Option D
 |.len=>jI|.mx=>pS|.mn=>kT|.int=>aFB|.tup=>qX|.sum=>aB3
def B.n:B->Str
 |.len => "len" |.mx => "max" |.mn => "min" |.int => "int" |.tup => "tuple" |.sum => "sum"
inductive E where
 |var (i:Nat)|int (i:Int)|bl (b:Bool)|non|str (x:Str)
 |bin (op:jw) (a b:E)|un (op:yq) (a:E)|cmp (op:jj) (a b:E)
 |and (a b:E)|or (a b:E)|not (a:E)|ite (c a b:E)
 |tup (es:E)|lst (es:E)|nil|cons (a r:E)
 |con (x:Str) (ts:List Tv)
 |ix (a b:E)|tab (x:Str) (aH:List (Str×Tv)) (k:E)|sl (a lo hi:E)|no
 |call (f:Nat) (es:E)|blt (b:B) (es:E)|bits (a:E)|app (o a:E)|idx (o a:E)
 |lzip (a b:E)|lrep (a b:E)|lcat (a b:E)|comp (elt:E) (t:Tg) (it:E) (cond:E)
 |it (a:E)|rng1 (a:E)|rng2 (a b:E)|rng3 (a b c:E)|zip (a b:E)|zip3 (a b c:E)
 |fz (a:E)|new (a:E)
 |fld (a:E) (f:Str)|mth (m:Str) (f:Nat) (o es:E)|mk (ini:List (Str×Ini)) (np:Nat) (es:E)|tpl (es:E)|din (n:Bool) (k d:E)|dget (d k:E)|cou (b:Bool) (es a:E)
abbrev Calls:=Nat->Option (Nat×(List W->aD->Option (W×aD)))
def lW(C:Calls)(f:Nat)(fs:FA):FE:=λ env S=>match C f with|some (np,call)=>aB1 fs np call env S|none=>qx
def rH(C:Calls)(m:Str)(f:Nat)(fo:FE)(fs:FA):FE:=λ env S=>match C f with|some (np,call)=>aCd m fo fs np call env S|none=>qx
section
variable (C:Calls)
mutual
noncomputable def ev:E->FE
 |.var i=>jY i|.int i=>fC (.int i)|.bl b=>fC (.bool b)|.non=>fC .none|.str x=>fC (.str x)|.bin op a b=>pX op (ev a) (ev b)|.un op a=>fUn op (ev a)|.cmp op a b=>nU op (ev a) (ev b)|.and a b=>xK (ev a) (ev b)|.or a b=>zE (ev a) (ev b)|.not a=>xY (ev a)|.ite c a b=>zO (tv c) (ev a) (ev b)|.tup es=>zM (av es)|.ix a b=>oH (ev a) (ev b)|.tab _ aH k=>f1 (ev k) (oE (aCl aH))|.con _ ts=>fC (.tuple (ts.map Tv.d))|.sl a lo hi=>qE (ev a) (ov lo) (ov hi)|.call f es=>lW C f (av es)|.blt b es=>rZ (av es) b.g|.bits a=>aFe (ev a)|.app o a=>rN (ev o) (ev a)|.idx o a=>aCb (ev o) (ev a)|.fz a=>lD (lv a)|.new a=>mI (lv a)|.fld a f=>aCk (ev a) f|.mth m f o es=>rH C m f (ev o) (av es)|.mk ini np es=>aB0 ini np (av es)|.tpl es=>aCg (av es)|.din n k d=>uI n (ev k) (ev d)|.dget d k=>aBO (ev d) (ev k)|.cou _ es a=>uM (av es) (ev a)|_=>λ _ _=>qx
noncomputable def tv:E->FT
 |.and a b=>zJ (tv a) (tv b)|.or a b=>fOr (tv a) (tv b)|.not a=>yI (tv a)|.var i=>dI (jY i)|.cmp op a b=>dI (nU op (ev a) (ev b))|.ix a b=>dI (oH (ev a) (ev b))|.call f es=>dI (lW C f (av es))|.blt b es=>dI (rZ (av es) b.g)|.bin op a b=>dI (pX op (ev a) (ev b))|.bl b=>dI (fC (.bool b))|.no=>jZ|.din n k d=>dI (uI n (ev k) (ev d))|_=>λ _ _=>qx
noncomputable def av:E->FA
 |.nil=>iE|.cons a r=>dF (ev a) (av r)|_=>λ _ _=>qx
noncomputable def ov:E->FO
 |.no=>fNo|.cons a .nil=>uD (ev a)|_=>λ _ _=>qx
noncomputable def lv:E->FL
 |.lst es=>zD (av es)|.lzip a b=>xS (ev a) (ev b)|.lrep a b=>zQ (ev a) (ev b)|.lcat a b=>aCc (ev a) (ev b)|.comp elt t it cond=>jA t (lv it) (tv cond) (ev elt)|.it a=>iL (ev a)|.rng1 a=>yF (ev a)|.rng2 a b=>yB (ev a) (ev b)|.rng3 a b c=>xQ (ev a) (ev b) (ev c)|.zip a b=>rR (ev a) (ev b)|.zip3 a b c=>aBt (ev a) (ev b) (ev c)|_=>λ _ _=>qx
end
inductive Sx where
 |skip|seq (a b:Sx)|expr (e:E)|ret (e:E)
 |ifs (c:E) (a b:Sx)|set (i:Nat) (e:E)|setC (nw:Bool) (i:Nat) (e:E)|setT (t:Tg) (e:E)|put (o i e:E)|dput (o i e:E)
 |wh (n:Nat) (c:E) (b:Sx)|loop (t:Tg) (it:E) (b:Sx)
def xs:Sx->FS
 |.skip=>uB|.seq a b=>iC (xs a) (xs b)|.expr e=>xJ (ev C e)|.ret e=>pV (ev C e)|.ifs c a b=>oN (tv C c) (xs a) (xs b)|.set i e=>kU i (ev C e)
 |.setC nw i e=>kU i (match nw with|true=>mI (lv C e)|false=>lD (lv C e))
 |.setT t e=>xM t (ev C e)|.put o i e=>zH (ev C o) (ev C i) (ev C e)|.dput o i e=>aBB (ev C o) (ev C i) (ev C e)|.wh n c b=>lG (tv C c) (xs b) n|.loop t it b=>lA t (lv C it) (xs b)
theorem aBr{i}:ev C (.var i)=jY i:=rfl
theorem aXb{i}:ev C (.int i)=fC (.int i):=rfl
theorem aYq{b}:ev C (.bl b)=fC (.bool b):=rfl
theorem aWe:ev C .non=fC .none:=rfl
theorem aVf{x}:ev C (.str x)=fC (.str x):=rfl
theorem aEy{op a b}:ev C (.bin op a b)=pX op (ev C a) (ev C b):=rfl
theorem aMZ{op a}:ev C (.un op a)=fUn op (ev C a):=rfl
theorem aEc{op a b}:ev C (.cmp op a b)=nU op (ev C a) (ev C b):=rfl
theorem aKE{a b}:ev C (.and a b)=xK (ev C a) (ev C b):=rfl
theorem aMq{a b}:ev C (.or a b)=zE (ev C a) (ev C b):=rfl
theorem aKG{a}:ev C (.not a)=xY (ev C a):=rfl
theorem aLn{c a b}:ev C (.ite c a b)=zO (tv C c) (ev C a) (ev C b):=rfl
theorem aKr{es}:ev C (.tup es)=zM (av C es):=rfl
theorem aBv{a b}:ev C (.ix a b)=oH (ev C a) (ev C b):=rfl
theorem aVL{n0 aH k}:ev C (.tab n0 aH k)=f1 (ev C k) (oE (aCl aH)):=rfl
theorem aWs{n0 ts}:ev C (.con n0 ts)=fC (.tuple (ts.map Tv.d)):=rfl
theorem aE5{a lo hi}:ev C (.sl a lo hi)=qE (ev C a) (ov C lo) (ov C hi):=rfl
theorem aJk{f es}:ev C (.call f es)=lW C f (av C es):=rfl
theorem aLk{b es}:ev C (.blt b es)=rZ (av C es) b.g:=rfl
theorem aTX{a}:ev C (.bits a)=aFe (ev C a):=rfl
theorem aK1{o a}:ev C (.app o a)=rN (ev C o) (ev C a):=rfl
theorem aVI{o a}:ev C (.idx o a)=aCb (ev C o) (ev C a):=rfl
theorem aMX{a}:ev C (.fz a)=lD (lv C a):=rfl
theorem aK3{a}:ev C (.new a)=mI (lv C a):=rfl
theorem aWa{a f}:ev C (.fld a f)=aCk (ev C a) f:=rfl
theorem aWb{m f o es}:ev C (.mth m f o es)=rH C m f (ev C o) (av C es):=rfl
theorem aXQ{ini np es}:ev C (.mk ini np es)=aB0 ini np (av C es):=rfl
theorem aV0{es}:ev C (.tpl es)=aCg (av C es):=rfl
theorem aTY{d k}:ev C (.dget d k)=aBO (ev C d) (ev C k):=rfl
theorem aVK{b es a}:ev C (.cou b es a)=uM (av C es) (ev C a):=rfl
theorem aVu{n k d}:tv C (.din n k d)=dI (uI n (ev C k) (ev C d)):=rfl
theorem aLh{a b}:tv C (.and a b)=zJ (tv C a) (tv C b):=rfl
theorem aMJ{a b}:tv C (.or a b)=fOr (tv C a) (tv C b):=rfl
theorem aKF{a}:tv C (.not a)=yI (tv C a):=rfl
theorem aW7{i}:tv C (.var i)=dI (jY i):=rfl
theorem aLe{op a b}:tv C (.cmp op a b)=dI (nU op (ev C a) (ev C b)):=rfl
theorem aXt{a b}:tv C (.ix a b)=dI (oH (ev C a) (ev C b)):=rfl
theorem aS3{f es}:tv C (.call f es)=dI (lW C f (av C es)):=rfl
theorem aVo{b es}:tv C (.blt b es)=dI (rZ (av C es) b.g):=rfl
theorem aUU{op a b}:tv C (.bin op a b)=dI (pX op (ev C a) (ev C b)):=rfl
theorem aYX{b}:tv C (.bl b)=dI (fC (.bool b)):=rfl
theorem aXS:tv C .no=jZ:=rfl
theorem aVM:av C .nil=iE:=rfl
theorem aJ7{a r}:av C (.cons a r)=dF (ev C a) (av C r):=rfl
theorem aXo:ov C .no=fNo:=rfl
theorem aJL{a}:ov C (.cons a .nil)=uD (ev C a):=rfl
theorem aKw{es}:lv C (.lst es)=zD (av C es):=rfl
theorem aT4{a b}:lv C (.lzip a b)=xS (ev C a) (ev C b):=rfl
theorem aKl{a b c}:lv C (.rng3 a b c)=xQ (ev C a) (ev C b) (ev C c):=rfl
theorem aT2{a b}:lv C (.lrep a b)=zQ (ev C a) (ev C b):=rfl
theorem aSv{elt t it cond}:lv C (.comp elt t it cond)=jA t (lv C it) (tv C cond) (ev C elt):=rfl
theorem aMP{a}:lv C (.it a)=iL (ev C a):=rfl
theorem aJ8{a}:lv C (.rng1 a)=yF (ev C a):=rfl
theorem aJj{a b}:lv C (.rng2 a b)=yB (ev C a) (ev C b):=rfl
theorem aLD{a b}:lv C (.zip a b)=rR (ev C a) (ev C b):=rfl
theorem aJv{a b c}:lv C (.zip3 a b c)=aBt (ev C a) (ev C b) (ev C c):=rfl
theorem aJx:xs C .skip=uB:=rfl
theorem lY{a b}:xs C (.seq a b)=iC (xs C a) (xs C b):=rfl
theorem aJI{e}:xs C (.expr e)=xJ (ev C e):=rfl
theorem aEe{e}:xs C (.ret e)=pV (ev C e):=rfl
theorem tN{c a b}:xs C (.ifs c a b)=oN (tv C c) (xs C a) (xs C b):=rfl
theorem aEF{i e}:xs C (.set i e)=kU i (ev C e):=rfl
theorem aI0{nw i e}:xs C (.setC nw i e)=kU i (match nw with|true=>mI (lv C e)|false=>lD (lv C e)):=rfl
theorem aJf{t e}:xs C (.setT t e)=xM t (ev C e):=rfl
theorem aKW{o i e}:xs C (.put o i e)=zH (ev C o) (ev C i) (ev C e):=rfl
theorem aTn{o i e}:xs C (.dput o i e)=aBB (ev C o) (ev C i) (ev C e):=rfl
theorem aY5{n c b}:xs C (.wh n c b)=lG (tv C c) (xs C b) n:=rfl
theorem aAY{t it b}:xs C (.loop t it b)=lA t (lv C it) (xs C b):=rfl
end
def no{P:Prop}(h:false=true):P:=by cases h
def dS(h:(a&&b)=true):a=true/\b=true:=by
 cases a with
 |false=>exact no h|true=>exact(rfl,h,)
def aL(h:(a&&b)=true):a=true:=(dS h).1
def aR(h:(a&&b)=true):b=true:=(dS h).2
def fD{f:c->Bool}(h:(@dite _ c d f λ _=>false)=true):c:=by
 cases d with
 |isTrue k=>exact k|isFalse _=>exact no h
def kF(k:Str->Pos->Bool)(x:qu):Bool:=if h:x.ctorIdx=23 then @Expr.Name.elim (λ _=>Bool) x h k else false
def nX{P:qu->Prop}{k:Str->Pos->Bool}(h:kF k x=true)(g:∀ a b,k a b=true->P (.Name a b)):P x:=@Expr.Name.elim (λ e=>kF k e=true->P e) x (fD h) g h
def kCo(k:Const->Nat->Pos->Bool)(x:qu):Bool:=if h:x.ctorIdx=19 then @Expr.Constant.elim (λ _=>Bool) x h k else false
def bAn{P:qu->Prop}{k:Const->Nat->Pos->Bool}(h:kCo k x=true)(g:∀ a b c,k a b c=true->P (.Constant a b c)):P x:=@Expr.Constant.elim (λ e=>kCo k e=true->P e) x (fD h) g h
def vH(k:qu->jw->qu->Pos->Bool)(x:qu):Bool:=if h:x.ctorIdx=2 then @Expr.BinOp.elim (λ _=>Bool) x h k else false
def aFG{P:qu->Prop}{k:qu->jw->qu->Pos->Bool}(h:vH k x=true)(g:∀ a b c d,k a b c d=true->P (.BinOp a b c d)):P x:=@Expr.BinOp.elim (λ e=>vH k e=true->P e) x (fD h) g h
def kUn(k:yq->qu->Pos->Bool)(x:qu):Bool:=if h:x.ctorIdx=3 then @Expr.UnaryOp.elim (λ _=>Bool) x h k else false
def aFq{P:qu->Prop}{k:yq->qu->Pos->Bool}(h:kUn k x=true)(g:∀ a b c,k a b c=true->P (.UnaryOp a b c)):P x:=@Expr.UnaryOp.elim (λ e=>kUn k e=true->P e) x (fD h) g h
def kCm(k:qu->List jj->List qu->Pos->Bool)(x:qu):Bool:=if h:x.ctorIdx=15 then @Expr.Compare.elim (λ _=>Bool) x h k else false
def bAr{P:qu->Prop}{k:qu->List jj->List qu->Pos->Bool}(h:kCm k x=true)(g:∀ a b c d,k a b c d=true->P (.Compare a b c d)):P x:=@Expr.Compare.elim (λ e=>kCm k e=true->P e) x (fD h) g h
def kBo(k:BoolOp->List qu->Pos->Bool)(x:qu):Bool:=if h:x.ctorIdx=0 then @Expr.BoolOp.elim (λ _=>Bool) x h k else false
def aZR{P:qu->Prop}{k:BoolOp->List qu->Pos->Bool}(h:kBo k x=true)(g:∀ a b c,k a b c=true->P (.BoolOp a b c)):P x:=@Expr.BoolOp.elim (λ e=>kBo k e=true->P e) x (fD h) g h
def kIe(k:qu->qu->qu->Pos->Bool)(x:qu):Bool:=if h:x.ctorIdx=5 then @Expr.IfExp.elim (λ _=>Bool) x h k else false
def bAx{P:qu->Prop}{k:qu->qu->qu->Pos->Bool}(h:kIe k x=true)(g:∀ a b c d,k a b c d=true->P (.IfExp a b c d)):P x:=@Expr.IfExp.elim (λ e=>kIe k e=true->P e) x (fD h) g h
def sC(k:List qu->Nat->Pos->Bool)(x:qu):Bool:=if h:x.ctorIdx=25 then @Expr.Tuple.elim (λ _=>Bool) x h k else false
def rY{P:qu->Prop}{k:List qu->Nat->Pos->Bool}(h:sC k x=true)(g:∀ a b c,k a b c=true->P (.Tuple a b c)):P x:=@Expr.Tuple.elim (λ e=>sC k e=true->P e) x (fD h) g h
def kLi(k:List qu->Pos->Bool)(x:qu):Bool:=if h:x.ctorIdx=24 then @Expr.List.elim (λ _=>Bool) x h k else false
def aFv{P:qu->Prop}{k:List qu->Pos->Bool}(h:kLi k x=true)(g:∀ a b,k a b=true->P (.List a b)):P x:=@Expr.List.elim (λ e=>kLi k e=true->P e) x (fD h) g h
def kSu(k:qu->qu->Pos->Bool)(x:qu):Bool:=if h:x.ctorIdx=21 then @Expr.Subscript.elim (λ _=>Bool) x h k else false
def aNS{P:qu->Prop}{k:qu->qu->Pos->Bool}(h:kSu k x=true)(g:∀ a b c,k a b c=true->P (.Subscript a b c)):P x:=@Expr.Subscript.elim (λ e=>kSu k e=true->P e) x (fD h) g h
def kSl(k:Option qu->Option qu->Option qu->Pos->Bool)(x:qu):Bool:=if h:x.ctorIdx=26 then @Expr.Slice.elim (λ _=>Bool) x h k else false
def bAz{P:qu->Prop}{k:Option qu->Option qu->Option qu->Pos->Bool}(h:kSl k x=true)(g:∀ a b c d,k a b c d=true->P (.Slice a b c d)):P x:=@Expr.Slice.elim (λ e=>kSl k e=true->P e) x (fD h) g h
def kDi(k:List (Option qu)->List qu->Pos->Bool)(x:qu):Bool:=if h:x.ctorIdx=6 then @Expr.Dict.elim (λ _=>Bool) x h k else false
def bAq{P:qu->Prop}{k:List (Option qu)->List qu->Pos->Bool}(h:kDi k x=true)(g:∀ a b c,k a b c=true->P (.Dict a b c)):P x:=@Expr.Dict.elim (λ e=>kDi k e=true->P e) x (fD h) g h
def kCa(k:qu->List qu->List Keyword->Pos->Bool)(x:qu):Bool:=if h:x.ctorIdx=16 then @Expr.Call.elim (λ _=>Bool) x h k else false
def aNH{P:qu->Prop}{k:qu->List qu->List Keyword->Pos->Bool}(h:kCa k x=true)(g:∀ a b c d,k a b c d=true->P (.Call a b c d)):P x:=@Expr.Call.elim (λ e=>kCa k e=true->P e) x (fD h) g h
def zY(k:qu->Str->Pos->Bool)(x:qu):Bool:=if h:x.ctorIdx=20 then @Expr.Attribute.elim (λ _=>Bool) x h k else false
def aFT{P:qu->Prop}{k:qu->Str->Pos->Bool}(h:zY k x=true)(g:∀ a b c,k a b c=true->P (.Attribute a b c)):P x:=@Expr.Attribute.elim (λ e=>zY k e=true->P e) x (fD h) g h
def kLc(k:qu->List Comprehension->zk->Pos->Bool)(x:qu):Bool:=if h:x.ctorIdx=8 then @Expr.ListComp.elim (λ _=>Bool) x h k else false
def aZN{P:qu->Prop}{k:qu->List Comprehension->zk->Pos->Bool}(h:kLc k x=true)(g:∀ a b c d,k a b c d=true->P (.ListComp a b c d)):P x:=@Expr.ListComp.elim (λ e=>kLc k e=true->P e) x (fD h) g h
def kEx(k:qu->Pos->Bool)(x:xx):Bool:=if h:x.ctorIdx=24 then @Stmt.Expr.elim (λ _=>Bool) x h k else false
def bAo{P:xx->Prop}{k:qu->Pos->Bool}(h:kEx k x=true)(g:∀ a b,k a b=true->P (.Expr a b)):P x:=@Stmt.Expr.elim (λ e=>kEx k e=true->P e) x (fD h) g h
def kRe(k:Option qu->Pos->Bool)(x:xx):Bool:=if h:x.ctorIdx=3 then @Stmt.Return.elim (λ _=>Bool) x h k else false
def aZ2{P:xx->Prop}{k:Option qu->Pos->Bool}(h:kRe k x=true)(g:∀ a b,k a b=true->P (.Return a b)):P x:=@Stmt.Return.elim (λ e=>kRe k e=true->P e) x (fD h) g h
def kSf(k:qu->List xx->List xx->Pos->Bool)(x:xx):Bool:=if h:x.ctorIdx=12 then @Stmt.If.elim (λ _=>Bool) x h k else false
def aZZ{P:xx->Prop}{k:qu->List xx->List xx->Pos->Bool}(h:kSf k x=true)(g:∀ a b c d,k a b c d=true->P (.If a b c d)):P x:=@Stmt.If.elim (λ e=>kSf k e=true->P e) x (fD h) g h
def qC(k:List qu->qu->Pos->Bool)(x:xx):Bool:=if h:x.ctorIdx=5 then @Stmt.Assign.elim (λ _=>Bool) x h k else false
def uS{P:xx->Prop}{k:List qu->qu->Pos->Bool}(h:qC k x=true)(g:∀ a b c,k a b c=true->P (.Assign a b c)):P x:=@Stmt.Assign.elim (λ e=>qC k e=true->P e) x (fD h) g h
def kWh(k:qu->List xx->List xx->Pos->Bool)(x:xx):Bool:=if h:x.ctorIdx=11 then @Stmt.While.elim (λ _=>Bool) x h k else false
def aZz{P:xx->Prop}{k:qu->List xx->List xx->Pos->Bool}(h:kWh k x=true)(g:∀ a b c d,k a b c d=true->P (.While a b c d)):P x:=@Stmt.While.elim (λ e=>kWh k e=true->P e) x (fD h) g h
def kFo(k:qu->qu->List xx->List xx->Pos->Bool)(x:xx):Bool:=if h:x.ctorIdx=9 then @Stmt.For.elim (λ _=>Bool) x h k else false
def aZU{P:xx->Prop}{k:qu->qu->List xx->List xx->Pos->Bool}(h:kFo k x=true)(g:∀ a b c d e,k a b c d e=true->P (.For a b c d e)):P x:=@Stmt.For.elim (λ e=>kFo k e=true->P e) x (fD h) g h
def iR{α:Type}(k:α->Bool)(l:List α):Bool:=match l with|[a]=>k a|_=>false
def jD{α:Type}{P:List α->Prop}{k:α->Bool}:∀ {l:List α},iR k l=true->(∀ a,k a=true->P [a])->P l
 |[],h,_=>no h|[a],h,g=>g a h|_::_::_,h,_=>no h
def aFt{α:Type}(k:α->α->Bool)(l:List α):Bool:=match l with|a::r=>iR (k a) r|[]=>false
def aMe{α:Type}{P:List α->Prop}{k:α->α->Bool}:∀ {l:List α},aFt k l=true->(∀ a b,k a b=true->P [a,b])->P l
 |[],h,_=>no h|a::_,h,g=>jD (P:=λ r=>P (a::r)) h (g a)
def aNe{α:Type}(k:α->α->α->Bool)(l:List α):Bool:=match l with|a::r=>aFt (k a) r|[]=>false
def aYO{α:Type}{P:List α->Prop}{k:α->α->α->Bool}:∀ {l:List α},aNe k l=true->(∀ a b c,k a b c=true->P [a,b,c])->P l
 |[],h,_=>no h|a::_,h,g=>aMe (P:=λ r=>P (a::r)) h (g a)
def jC{α:Type}{P:List α->Prop}:∀ {l:List α},l.isEmpty=true->P []->P l
 |[],_,g=>g|_::_,h,_=>no h
def aFU{α:Type}(o:Option α):Bool:=match o with|none=>true|some _=>false
def aMO{α:Type}{P:Option α->Prop}:∀ {o:Option α},aFU o=true->P qx->P o
 |none,_,g=>g|some _,h,_=>no h
def aLN{α:Type}{P:Option α->Prop}{k:α->Bool}:∀ {o:Option α},o.any k=true->(∀ a,k a=true->P (qz a))->P o
 |none,h,_=>no h|some a,h,g=>g a h
def dT{p:Prop}{d:Decidable p}(h:decide p=true):p:=oqT h
def qD(sc:zk)(x:Str):Bool:=match sc.names.lookup x with
 |some .local=>true|some .cell=>true|some .free=>true|_=>false
def loc(sc:zk)(x:Str):Bool:=match sc.names.lookup x with
 |some .local=>true|some .cell=>true|_=>false
def aL5(e:E):Bool:=decide (e.ctorIdx=E.nil.ctorIdx)
def bAd{P:E->Prop}(h:aL5 e=true)(g:P .nil):P e:=@E.nil.elim P e (dT h) g
def any_some{α:Type}{o:Option α}{p:α->Bool}(h:o.any p=true):∃ a,o=qz a/\p a=true:=by
 cases o with
 |none=>cases h|some a=>exact(a,rfl,h,)
def lo(sc:zk)(x:Str):Bool:=decide (sc.names.lookup x=qz .local)
def gl(sc:zk)(x:Str):Bool:=decide (sc.names.lookup x=qz .globalImplicit)
def cZ(e:qu):Bool:=![7,22,26].contains e.ctorIdx
def nY(e:qu):Bool:=![0,3,5,15].contains e.ctorIdx
def tK(e:qu):Bool:=![16].contains e.ctorIdx
def pI(e:qu):Bool:=![8,9,10].contains e.ctorIdx
def xV(e:qu):Bool:=sC (λ _ _ _=>true) e
def lS:List qu->Bool
 |[]=>true|e::r=>cZ e&&lS r
def rV(scope osc:zk):zk:={scope with names:=scope.names.map λ(n,k)=>if (k==.free&&osc.kind==.function&&osc.names.lookup n==qz .cell) then (n,.cell) else (n,k) }
def aE4(scope osc:zk):Bool:=decide (scope.kind=.function)&&scope.names.all λ x=>(!decide (x.2=.cell))&&(!decide (x.2=.free)||decide (osc.names.lookup x.1=qz .cell)||decide (osc.names.lookup x.1=qz .free))&&(!decide (x.2=.local)||decide (scope.names.lookup x.1=qz .local))
def aCf(N:List Str)(scope:zk)(is:List Nat):Nat->Bool
 |0=>true
 | n+1=>aCf N scope is n&&(match N[n]? with
   |some x=>!decide (scope.names.lookup x=qz .local)||is.contains n
   | none=>true)
def aEr(b:Bool)(N:List Str)(sc:zk)(i:Nat)(x:Str):Bool:=decide (N[i]?=qz x)&&(match b with
 |true=>decide (sc.names.lookup x=qz .local)
 | false=>loc sc x)
def aDZ(b:Bool)(N:List Str)(sc:zk):List Nat->List qu->Bool
 |[],es=>es.isEmpty
 | i::is,es=>(match es with
   |e::r=>kF (λ x _=>aEr b N sc i x&&aDZ b N sc is r) e
   | []=>false)
def yJ(b:Bool)(N:List Str)(sc:zk)(t:Tg)(e:qu):Bool:=match t with|.one i=>kF (λ x _=>aEr b N sc i x) e|.many is=>sC (λ es _ _=>aDZ b N sc is es) e
def aJc(e:E):Bool:=decide (e.ctorIdx=(E.comp .no (.one 0) .no .no).ctorIdx)
def bAk{P:E->Prop}(h:aJc e=true)(g:∀ a t b c,P (.comp a t b c)):P e:=@E.comp.elim P e (dT h) g
def aFy(e:E):Bool:=decide (e.ctorIdx=E.no.ctorIdx)
def aNd{P:E->Prop}(h:aFy e=true)(g:P .no):P e:=@E.no.elim P e (dT h) g
def uL(c:Const)(e:qu):Bool:=kCo (λ d _ _=>decide (d=c)) e
def aBT{P:qu->Prop}(h:uL c x=true)(g:∀ k p,P (.Constant c k p)):P x:=
 bAn h λ _ k p z=>(dT z)▸g k p
def yM(k:qu->jj->qu->Bool)(e:qu):Bool:=kCm (λ x os ys _=>iR (λ o=>iR (λ y=>k x o y&&cZ y) ys) os) e
def aBJ{P:qu->Prop}{k:qu->jj->qu->Bool}(h:yM k x=true)(g:∀ a o b p,k a o b=true->cZ b=true->P (.Compare a [o] [b] p)):P x:=
 bAr h λ a os _ p z=>jD (P:=λ os=>P (.Compare a os _ p)) z λ o z=>jD (P:=λ ys=>P (.Compare a [o] ys p)) z λ b z=>g a o b p (aL z) (aR z)
def xO(op:BoolOp)(k:qu->qu->Bool)(e:qu):Bool:=kBo (λ o es p=>decide (o=op)&&(match es with
 |[x,y]=>k x y|x::y::z::r=>k x (.BoolOp op (y::z::r) p)
 | _=>false)) e
def aBg{P:qu->Prop}{k:qu->qu->Bool}(h:xO op k x=true)(g:∀ a b p,k a b=true->P (.BoolOp op [a,b] p))(f:∀ a b c r p,k a (.BoolOp op (b::c::r) p)=true->P (.BoolOp op (a::b::c::r) p)):P x:=
 aZR h λ o es p z=>by
  obtain rfl:=dT (aL z)
  match es,aR z with
  |[a,b],z=>exact g a b p z|a::b::c::r,z=>exact f a b c r p z|[],z=>exact no z|[_],z=>exact no z
def sE(k:qu->qu->Bool)(e:qu):Bool:=kSu (λ x y _=>k x y&&cZ y) e
def yN{P:qu->Prop}{k:qu->qu->Bool}(h:sE k x=true)(g:∀ a b p,k a b=true->cZ b=true->P (.Subscript a b p)):P x:=aNS h λ a b p z=>g a b p (aL z) (aR z)
def aM4(k:qu->Option qu->Option qu->Bool)(e:qu):Bool:=kSu (λ x s _=>kSl (λ l h t _=>aFU t&&k x l h) s) e
def aXD{P:qu->Prop}{k:qu->Option qu->Option qu->Bool}(h:aM4 k x=true)(g:∀ a l u p q,k a l u=true->P (.Subscript a (.Slice l u qx p) q)):P x:=
 aNS h λ a _ q z=>bAz (P:=λ s=>P (.Subscript a s q)) z λ l u _ p z=>aMO (P:=λ t=>P (.Subscript a (.Slice l u t p) q)) (aL z) (g a l u p q (aR z))
def nL(k:Str->List qu->Bool)(e:qu):Bool:=kCa (λ f xs ks _=>kF (λ n _=>ks.isEmpty&&k n xs) f) e
def tR{P:qu->Prop}{k:Str->List qu->Bool}(h:nL k x=true)(g:∀ n p xs q,k n xs=true->P (.Call (.Name n p) xs [] q)):P x:=
 aNH h λ _ xs ks q z=>nX (P:=λ f=>P (.Call f xs ks q)) z λ n p z=>jC (P:=λ ks=>P (.Call (.Name n p) xs ks q)) (aL z) (g n p xs q (aR z))
def kB1(nm:Str)(sc:zk)(k:qu->Bool)(e:qu):Bool:=nL (λ n xs=>decide (n=nm)&&gl sc n&&iR (λ y=>k y&&cZ y) xs) e
def aNr{P:qu->Prop}{k:qu->Bool}(h:kB1 nm sc k x=true)(g:∀ p y q,gl sc nm=true->k y=true->cZ y=true->P (.Call (.Name nm p) [y] [] q)):P x:=
 tR h λ n p xs q z=>by
  obtain rfl:=dT (aL (aL z));exact jD (P:=λ xs=>P (.Call (.Name n p) xs [] q)) (aR z) λ y u=>g p y q (aR (aL z)) (aL u) (aR u)
def kB2(nm:Str)(sc:zk)(k l:qu->Bool)(e:qu):Bool:=nL (λ n xs=>decide (n=nm)&&gl sc n&&aFt (λ y z=>(k y&&cZ y)&&(l z&&cZ z)) xs) e
def aFO{P:qu->Prop}{k l:qu->Bool}(h:kB2 nm sc k l x=true)(g:∀ p y z q,gl sc nm=true->k y=true->cZ y=true->l z=true->cZ z=true->P (.Call (.Name nm p) [y,z] [] q)):P x:=
 tR h λ n p xs q z=>by
  obtain rfl:=dT (aL (aL z));exact aMe (P:=λ xs=>P (.Call (.Name n p) xs [] q)) (aR z) λ y w u=>g p y w q (aR (aL z)) (aL (aL u)) (aR (aL u)) (aL (aR u)) (aR (aR u))
def kB3(nm:Str)(sc:zk)(k l m:qu->Bool)(e:qu):Bool:=nL (λ n xs=>decide (n=nm)&&gl sc n&&aNe (λ y z w=>(k y&&cZ y)&&((l z&&cZ z)&&(m w&&cZ w))) xs) e
def aNk{P:qu->Prop}{k l m:qu->Bool}(h:kB3 nm sc k l m x=true)(g:∀ p y z w q,gl sc nm=true->k y=true->cZ y=true->l z=true->cZ z=true->m w=true->cZ w=true->P (.Call (.Name nm p) [y,z,w] [] q)):P x:=
 tR h λ n p xs q z=>by
  obtain rfl:=dT (aL (aL z));exact aYO (P:=λ xs=>P (.Call (.Name n p) xs [] q)) (aR z) λ y w v u=>g p y w v q (aR (aL z)) (aL (aL u)) (aR (aL u)) (aL (aL (aR u))) (aR (aL (aR u))) (aL (aR (aR u))) (aR (aR (aR u)))
def kMe(nm:Str)(k:qu->List qu->Bool)(e:qu):Bool:=kCa (λ f xs ks cp=>zY (λ o m ap=>ks.isEmpty&&(ap.endLine==cp.line)&&decide (m=nm)&&tK o&&k o xs) f) e
def aB9{P:qu->Prop}{k:qu->List qu->Bool}(h:kMe nm k x=true)(g:∀ o ap xs cp,(ap.endLine==cp.line)=true->tK o=true->k o xs=true->P (.Call (.Attribute o nm ap) xs [] cp)):P x:=
 aNH h λ _ xs ks cp z=>aFT (P:=λ f=>P (.Call f xs ks cp)) z λ o m ap z=>by
  obtain rfl:=dT (aR (aL (aL z)));exact jC (P:=λ ks=>P (.Call (.Attribute o m ap) xs ks cp)) (aL (aL (aL (aL z)))) (g o ap xs cp (aR (aL (aL (aL z)))) (aR (aL z)) (aR z))
def aFR(nm:Str)(k l:qu->Bool)(e:qu):Bool:=kMe nm (λ o xs=>k o&&iR (λ y=>l y&&cZ y) xs) e
def aMV{P:qu->Prop}{k l:qu->Bool}(h:aFR nm k l x=true)(g:∀ o ap y cp,(ap.endLine==cp.line)=true->tK o=true->k o=true->l y=true->cZ y=true->P (.Call (.Attribute o nm ap) [y] [] cp)):P x:=
 aB9 h λ o ap xs cp h1 h2 z=>jD (P:=λ xs=>P (.Call (.Attribute o nm ap) xs [] cp)) (aR z) λ y u=>g o ap y cp h1 h2 (aL z) (aL u) (aR u)
def aMG(k:qu->qu->qu->List qu->zk->Bool)(e:qu):Bool:=kLc (λ el gs sc _=>iR (λ g=>decide (g.is_async=0)&&k el g.target g.iter g.ifs sc) gs) e
def aUV{P:qu->Prop}{k:qu->qu->qu->List qu->zk->Bool}(h:aMG k x=true)(g:∀ e tg it ifs sc p,k e tg it ifs sc=true->P (.ListComp e [⟨tg,it,ifs,0⟩] sc p)):P x:=
 aZN h λ e _ sc p z=>jD (P:=λ gs=>P (.ListComp e gs sc p)) z λ aW z=>by
  let(tg,it,ifs,as):=aW;obtain rfl:as=0:=dT (aL z);exact g e tg it ifs sc p (aR z)
def aM7(N:List Str)(t:Tg)(cond:E)(sc:zk)(fI:qu->qu->Bool)(fT fE:zk->qu->Bool)(x:qu):Bool:=aMG (λ e tg iter ifs scope=>aE4 scope sc&&aCf N scope t.slots N.length&&yJ true N (rV scope sc) t tg&&fI tg iter&&cZ iter &&
 (match ifs with | []=>aFy cond | y::r=>r.isEmpty&&fT (rV scope sc) y)&&fE (rV scope sc) e) x
def aNx{P:qu->Prop}{cond:E}{fI:qu->qu->Bool}{fT fE:zk->qu->Bool}(h:aM7 N t cond sc fI fT fE x=true)(g:∀ e tg iter ifs scope p,aE4 scope sc=true->aCf N scope t.slots N.length=true->yJ true N (rV scope sc) t tg=true->fI tg iter=true->cZ iter=true->(match ifs with|[]=>aFy cond|y::r=>r.isEmpty&&fT (rV scope sc) y)=true->fE (rV scope sc) e=true->P (.ListComp e [(tg,iter,ifs,0,)] scope p)):P x:=
 aUV h λ e tg iter ifs scope p h=>g e tg iter ifs scope p (aL (aL (aL (aL (aL (aL h)))))) (aR (aL (aL (aL (aL (aL h)))))) (aR (aL (aL (aL (aL h))))) (aR (aL (aL (aL h)))) (aR (aL (aL h))) (aR (aL h)) (aR h)
structure Tx where
 fn:List (Str×Nat)
 tb:List (Str×List (Str×Tv))
 cn:List (Str×List Tv)
 st:List (Str×Str)
 mt:List (Str×Nat)
 mo:Option (List (Str×Ini)×Nat)
def aEj(T:Tx)(f:Nat)(x:Str):Bool:=decide ((T.fn[f]?).map (·.1)=qz x) && !(T.mt.any λ p=>decide (p.2=f))
def aYQ(T:Tx)(f:Str):Bool:=T.mo.any λ m=>m.1.any λ p=>decide (p.1=f)
section
variable (T:Tx)(N:List Str)
mutual
noncomputable def bP:E->zk->qu->Bool
 |.var i,sc,x=>kF (λ x _=>decide (N[i]?=qz x)&&qD sc x && !(x==("__debug__" : Str)) && !(x==("__classdict__" : Str))) x|.int i,_,x=>uL (.int i) x|.bl i,_,x=>uL (.bool i) x|.non,_,x=>uL .none x|.str i,_,x=>uL (.str i) x|.bin op a b,sc,x=>vH (λ x op' y _=>decide (op'=op)&&bP a sc x&&bP b sc y) x|.un op a,sc,x=>kUn (λ op' x _=>decide (op'=op) && !decide (op=.Not)&&bP a sc x) x|.cmp op a b,sc,x=>yM (λ x op' y=>decide (op'=op)&&bP a sc x&&bP b sc y) x|.and a b,sc,x=>xO .And (λ x y=>bP a sc x&&bP b sc y) x|.or a b,sc,x=>xO .Or (λ x y=>bP a sc x&&bP b sc y) x|.not a,sc,x=>kUn (λ o x _=>decide (o=.Not)&&bP a sc x) x|.ite c a b,sc,x=>kIe (λ x y z _=>lM c sc x&&bP a sc y&&bP b sc z) x|.tup es,sc,x=>sC (λ xs _ _=>iT es sc xs) x|.ix a b,sc,x=>sE (λ x y=>bP a sc x&&bP b sc y) x|.con n ts,sc,x=>kF (λ x _=>decide (x=n)&&T.cn.contains (n,ts)&&gl sc x && !(x==("__debug__" : Str))) x|.tab n aH k,sc,x=>sE (λ x y=>bP k sc y&&kF (λ x _=>decide (x=n)&&T.tb.contains (n,aH)&&gl sc x && !(x==("__debug__" : Str))) x) x|.sl a lo hi,sc,x=>aM4 (λ x l h=>bP a sc x&&okO lo sc l&&okO hi sc h) x|.call f es,sc,x=>nL (λ x xs=>aEj T f x&&gl sc x && !(x==("__debug__" : Str))&&iT es sc xs&&lS xs) x|.blt b es,sc,x=>nL (λ x ys=>!ys.isEmpty&&decide (x=b.n)&&gl sc x&&iT es sc ys&&lS ys) x|.bits a,sc,x=>kMe "bit_length" (λ x ys=>bP a sc x&&ys.isEmpty) x|.app o a,sc,x=>aFR "append" (λ x=>bP o sc x) (λ y=>bP a sc y) x|.idx o a,sc,x=>aFR "index" (λ x=>bP o sc x) (λ y=>bP a sc y) x|.fz a,sc,e=>zT a sc e|.new a,sc,e=>zT a sc e|.fld a f,sc,x=>zY (λ o g _=>decide (g=f)&&tK o&&aYQ T f&&bP a sc o) x|.mth m f o es,sc,x=>kMe m (λ y ys=>decide ((m,f)∈T.mt)&&bP o sc y&&iT es sc ys&&lS ys && !ys.isEmpty&&decide (↑ys<30)) x|.mk ini np es,sc,x=>nL (λ x xs=>decide (T.mo=qz (ini,np))&&decide (x = "Maker")&&gl sc x&&iT es sc xs&&lS xs && !xs.isEmpty) x|.tpl es,sc,x=>sC (λ xs _ _=>iT es sc xs) x|.din n k d,sc,x=>yM (λ x op' y=>decide (op'=aFb n)&&bP k sc x&&bP d sc y) x|.dget d k,sc,x=>sE (λ x y=>bP d sc x&&bP k sc y) x
 |.cou b es a,sc,x=>kMe "count" (λ o ys=>(match b with|false=>sC (λ xs _ _=>iT es sc xs) o|true=>kLi (λ xs _=>iT es sc xs) o)&&iR (λ y=>bP a sc y&&cZ y) ys) x
 |_,_,_=>false
noncomputable def lM:E->zk->qu->Bool
 |.and a b,sc,x=>xO .And (λ x y=>lM a sc x&&lM b sc y) x|.or a b,sc,x=>xO .Or (λ x y=>lM a sc x&&lM b sc y) x|.not a,sc,x=>kUn (λ o x _=>decide (o=.Not)&&lM a sc x) x|.cmp op a b,sc,x=>yM (λ x op' y=>decide (op'=op)&&bP a sc x&&bP b sc y) x|.var i,sc,x=>kF (λ x _=>decide (N[i]?=qz x)&&qD sc x && !(x==("__debug__" : Str)) && !(x==("__classdict__" : Str))) x&&nY x|.bl i,_,x=>uL (.bool i) x&&nY x|.bin op a b,sc,x=>vH (λ x op' y _=>decide (op'=op)&&bP a sc x&&bP b sc y) x&&nY x|.ix a b,sc,x=>sE (λ x y=>bP a sc x&&bP b sc y) x&&nY x|.call f es,sc,x=>nL (λ x xs=>aEj T f x&&gl sc x && !(x==("__debug__" : Str))&&iT es sc xs&&lS xs) x&&nY x|.blt b es,sc,x=>nL (λ x ys=>!ys.isEmpty&&decide (x=b.n)&&gl sc x&&iT es sc ys&&lS ys) x&&nY x|.din n k d,sc,x=>yM (λ x op' y=>decide (op'=aFb n)&&bP k sc x&&bP d sc y) x|_,_,_=>false
noncomputable def iT:E->zk->List qu->Bool
 |.nil,_,xs=>xs.isEmpty
 | .cons a r,sc,xs=>(match xs with
   |x::xs=>bP a sc x&&cZ x&&iT r sc xs
   | []=>false)
 |_,_,_=>false
noncomputable def okO:E->zk->Option qu->Bool
 |.no,_,x=>aFU x|.cons a r,sc,x=>aL5 r&&x.any λ x=>bP a sc x|_,_,_=>false
noncomputable def zT:E->zk->qu->Bool
 |.lst es,sc,x=>kLi (λ xs _=>iT es sc xs) x|.lzip a b,sc,x=>kB1 "list" sc (λ y=>kB2 "zip" sc (λ z=>bP a sc z) (λ w=>bP b sc w) y) x|.lcat a b,sc,x=>vH (λ x o y _=>decide (o=.Add)&&bP a sc x&&bP b sc y) x|.lrep a b,sc,x=>vH (λ x o y _=>decide (o=.Mult)&&bP a sc x&&bP b sc y) x|.comp elt t it cond,sc,x=>aM7 N t cond sc (λ g y=>okI it sc g y) (λ s y=>lM cond s y) (λ s y=>bP elt s y) x|_,_,_=>false
noncomputable def okI:E->zk->qu->qu->Bool
 |.it a,sc,_,x=>bP a sc x|.rng1 a,sc,_,x=>kB1 "range" sc (λ y=>bP a sc y) x|.rng2 a b,sc,_,x=>kB2 "range" sc (λ y=>bP a sc y) (λ z=>bP b sc z) x|.rng3 a b c,sc,_,x=>kB3 "range" sc (λ y=>bP a sc y) (λ z=>bP b sc z) (λ w=>bP c sc w) x|.zip a b,sc,tg,x=>xV tg&&kB2 "zip" sc (λ y=>bP a sc y) (λ z=>bP b sc z) x|.zip3 a b c,sc,tg,x=>xV tg&&kB3 "zip" sc (λ y=>bP a sc y) (λ z=>bP b sc z) (λ w=>bP c sc w) x|_,_,_,_=>false
end
mutual
noncomputable def okS:Sx->zk->xx->Bool
 |.expr e,sc,st=>kEx (λ x _=>bP T N e sc x&&pI x) st|.ret e,sc,st=>kRe (λ v _=>v.any λ x=>bP T N e sc x) st|.ifs c a b,sc,st=>kSf (λ x y z _=>lM T N c sc x&&oA a sc y&&oA b sc z) st|.set i e,sc,st=>qC (λ ts y _=>bP T N e sc y&&pI y&&iR (λ t=>kF (λ x _=>decide (N[i]?=qz x)&&loc sc x) t) ts) st|.setC _ i e,sc,st=>qC (λ ts y _=>aJc e&&zT T N e sc y&&iR (λ t=>kF (λ x _=>decide (N[i]?=qz x)&&loc sc x) t) ts) st|.setT t e,sc,st=>qC (λ ts y _=>bP T N e sc y&&pI y && !xV y&&iR (λ tg=>xV tg&&yJ false N sc t tg) ts) st|.put o i e,sc,st=>qC (λ ts z _=>bP T N e sc z&&pI z&&iR (λ t=>sE (λ x y=>bP T N o sc x&&bP T N i sc y) t) ts) st|.dput o i e,sc,st=>qC (λ ts z _=>bP T N e sc z&&pI z&&iR (λ t=>sE (λ x y=>bP T N o sc x&&bP T N i sc y) t) ts) st|.wh _ c b,sc,st=>kWh (λ x y z _=>z.isEmpty&&lM T N c sc x&&oA b sc y) st|.loop t it b,sc,st=>kFo (λ tg x y z _=>z.isEmpty&&yJ false N sc t tg&&okI T N it sc tg x&&cZ x&&oA b sc y) st|_,_,_=>false
noncomputable def oA:Sx->zk->List xx->Bool
 |.skip,_,l=>l.isEmpty
 | .seq a b,sc,l=>(match l with
   |st::r=>okS a sc st&&oA b sc r
   | []=>false)
 |_,_,_=>false
end
end
def bltNames:List Str:=["len","max","min","int","abs","tuple","sum","all","any","isinstance","list","range","enumerate","bool","str","reversed","zip","sorted","set"]
structure Ctx(T:Tx)(C:Calls)(X:Cx):Prop where
 nd:X.N.Nodup
 calm:X.calm=true
 xe:X.xe=λ _ _=>False
 kind:X.env.scope.kind=.function
 room:∃ k,2<=k/\Room k X.A/\(∀ f np call x,C f=qz (np,call)->aEj T f x=true->∃ fa fd ps,X.mg x=qz (.ref fa)/\yBs X.K (.ref fa)=true/\gU X.K fd ps []/\FnOk X.prog X.w X.K X.mg X.base oO k fa fd ps (qH X.K np call)) /\
  ∀ m f np call,C f=qz (np,call)->(m,f)∈T.mt->∃ Cc fa fd ps,kX X.K Cc/\Cls X.K Cc/\Meth X.K Cc m fa/\gU X.K fd ps []/\FnOk X.prog X.w X.K X.mg X.base oO k fa fd ps (qH X.K np call)
 mo:∀ ini np,T.mo=qz (ini,np)->∃ Cc fi fd ps,kX X.K Cc/\Cls X.K Cc/\X.mg "Maker" = qz (.ref Cc)/\(∀ p∈ini,NoAttr X.K Cc p.1)/\Mk X.K Cc fi/\gU X.K fd ps []/\FnOk X.prog X.w X.K X.mg X.base oO 1 fi fd ps (spM X.K Cc ini np)
 blt:∀ x∈bltNames,X.mg x=qx
 tbs:∀ x aH,(x,aH)∈T.tb->∃ a,X.mg x=qz (.ref a)/\xW X.K X.w a aH
 cns:∀ x ts,(x,ts)∈T.cn->∃ a,X.mg x=qz (.ref a)/\tX X.K a ts
 sts:∀ x y,(x,y)∈T.st->∃ t,X.mg x=qz (.str y t)
variable {C:Calls}
def Ctx.units(h:Ctx T C X):X.A.units+64<cLine:=let ⟨_,_,r,_⟩:=h.room;r.units
def Ctx.own(h:Ctx T C X):PassesOwn (model X.prog X.w) X.A X.env X.xe:=by rw[h.xe];exact PassesOwn.never
def Ctx.comp{scope:zk}(h:Ctx T C X)(hk:scope.kind=.function)(hy:kO X scope Y):Ctx T C Y/\Y.env.scope=rV scope X.env.scope/\Y.N=X.N/\Y.K=X.K:=by let(aB,fp,Ca,s₀,H₀,rfl):=hy;exact((h.nd,h.calm,rfl,hk,h.room,h.mo,h.blt,h.tbs,h.cns,h.sts,),rfl,rfl,rfl,)
def gC(h:cZ e=true)(es:List qu)(env:Env):zx (e::es) env=(false,eval e env)::zx es env:=by cases e<;>first|rfl|exact no h
def vZ:∀ {es:List qu} (h:lS es=true) (env:Env) (pos:Pos),(backTo pos (zx es env)).any (·.1)=false
 |[],_,_,_=>rfl
 |e::es,h,env,pos=>by
   let(h1,h2):=dS h;rw[gC h1];show(false||(backTo pos (zx es env)).any (·.1))=false;rw[vZ h2 env pos];rfl
def aEY(h:cZ e=true):wN e:=by intro o i;cases e<;>first|rfl|exact no h
def aAS(h:cZ e=true)(op:jj):xw op e=false:=by cases e<;>first|rfl|exact no h
def aCZ(h:cZ e=true)(env:Env)(x:qj):jq e env x=pure x:=by cases e<;>first|rfl|exact no h
def pA(h:tK e=true)(m:Str)(env:Env):attributeBase e m env (eval e env)=eval e env:=by cases e<;>first|rfl|exact no h
def wD(h:pI e=true)(t:Option qu)(line:Nat)(env:Env):swapsWith e t line env=pure false:=by cases e<;>first|rfl|exact no h
def aW9(h:nY e=true)(env:Env)(kG:Sem qj):isTrue e env kG=(do let v <- kG;standAt e.pos;holding [v] (truthy v)):=by cases e<;>first|rfl|exact no h
def aQr(h:cZ i=true)(v:qj):assign (.Subscript o i pos) env v=(do
 let ov <- holding [v] (eval o env);let iv <- holding [v,ov] (eval i env)
 standAt pos
 holding [v,ov,iv] (setItem ov iv v)
 release [v,ov,iv] []):=by cases i<;>first|rfl|exact no h
def aKL(h:qD X.env.scope x=true):uW X.env.scope x:=by unfold qD at h;unfold uW;split at h<;>first|exact .inl (by assumption)|exact .inr (.inl (by assumption))|exact .inr (.inr (by assumption))|exact no h
def aEK(h:loc X.env.scope x=true):L2.Loc X.env.scope x:=by unfold loc at h;unfold L2.Loc;split at h<;>first|exact .inl (by assumption)|exact .inr (by assumption)|exact no h
def jU(h:gl X.env.scope x=true):Gl X x:=(oqT h:X.env.scope.names.lookup x=qz .globalImplicit)
def qP{x y:Str}(h:(!(x==y))=true):(x==y)=false:=by simp_all
def aD7(b:Bool)(X:Cx):Prop:=b=true\/∀ x,X.fn x=true
def aI6(st:aD7 b X)(h:aEr b X.N X.env.scope i x=true):X.N[i]?=qz x/\L2.Loc X.env.scope x/\(X.fn x=true\/X.env.scope.names.lookup x=qz .local):=by
 let(h1,h2):=dS h;cases b with
 |true=>
   have h3:=oqT h2;exact(oqT h1,.inl h3,.inr h3,)
 |false=>
   refine(oqT h1,aEK h2,?_,);rcases st with z|z
   .cases z
   .exact .inl (z x)
def yU:List Nat->jN
 |[]=>aFm|i::is=>aFd (pK i) (yU is)
def uZ(K:FrG):Tg->TG
 |.one i=>pK i|.many is=>aFr K ↑is (yU is)
def aLv(K:FrG):∀ is:List Nat,zW K is (yU is)
 |[]=>aTe|_::is=>aQ4 (aLv K is)
def aBF(K:FrG)(t:Tg):GA K t (uZ K t):=by
 cases t with
 |one i=>exact aUL i|many is=>exact aSw (aLv K is)
section
variable {X:Cx}
def aIU{b:Bool}(st:aD7 b X)(nd:X.N.Nodup):∀ {is:List Nat}{es:List qu},aDZ b X.N X.env.scope is es=true->sF X es (yU is)/\(xz es X.env).length=↑is/\(xz es X.env).findIdx? (·.1)=qx
 |[],[],_=>(aSJ,rfl,rfl,)|[],_::_,h=>no h|_::_,[],h=>no h
 |i::is,e::r,h=>nX (P:=λ e=>sF X (e::r) (yU (i::is))/\(xz (e::r) X.env).length=(i::is).length/\(xz (e::r) X.env).findIdx? (·.1)=qx) h λ x p h=>by
   let(a1,a2,a3):=aI6 st (aL h);let(pg,hl2,hf):=aIU st nd (aR h);refine(aRP (aDD nd a1 a2 a3) pg rfl,?_,?_,)
   .show((false,assign (.Name x p) X.env)::xz r X.env).length=_;rw[yAr,yAr,hl2]
   .show((false,assign (.Name x p) X.env)::xz r X.env).findIdx? (·.1)=qx;rw[List.findIdx?_cons,hf];rfl
end
def aBV(st:aD7 b X)(nd:X.N.Nodup)(hc:X.calm=true)(h:yJ b X.N X.env.scope t tg=true):PG X tg (uZ X.K t):=by
 cases t with
 |one i=>exact nX (P:=λ e=>PG X e (pK i)) h λ x p h=>let ⟨a1,a2,a3⟩:=aI6 st h;aDD nd a1 a2 a3|many is=>exact rY (P:=λ e=>PG X e (uZ X.K (.many is))) h λ es k p h=>let ⟨pg,hl2,hf⟩:=aIU st nd h;aW3 hc pg hl2 hf
section
variable (T:Tx)(C:Calls)
def SE(c:E):Prop:=∀ X,Ctx T C X->∀ x,bP T X.N c X.env.scope x=true->PE X x (aS X.K (ev C c))
def ST(c:E):Prop:=∀ X,Ctx T C X->∀ x,lM T X.N c X.env.scope x=true->PT X x (fY X.K (tv C c))/\∀ op es p,x=.BoolOp op es p->PW X x (fY X.K (tv C c))
def SA(c:E):Prop:=∀ X,Ctx T C X->∀ x,iT T X.N c X.env.scope x=true->PA X x (eN X.K (av C c))
def SO(c:E):Prop:=∀ X,Ctx T C X->∀ x,okO T X.N c X.env.scope x=true->PO X x (mL X.K (ov C c))
def SL(c:E):Prop:=∀ X,Ctx T C X->∀ x,zT T X.N c X.env.scope x=true->PE X x (iS X.K (lv C c))
def SI(c:E):Prop:=∀ X,Ctx T C X->∀ tg x,okI T X.N c X.env.scope tg x=true->PI X tg x (jM X.K (lv C c))
end
def aJy{f:FE}(h:∀ env S,f env S=qx):PE X x (aS X.K f):=λ aB s σ H Q I aW=>by
 let(F,L,S,env,w,S',R,E,e,q):=aW;rw[h] at e;cases e
def aXq{f:FE}(h:PE X x (aS X.K f))(ht:nY x=true):PT X x (fY X.K (dI f))/\∀ op es p,x=.BoolOp op es p->PW X x (fY X.K (dI f)):=
 (aYF h λ kG=>aW9 ht X.env kG,λ op es p e=>by subst e;exact no ht,)
def aK6(i:Nat):SE T C (.var i):=λ X hX x hx=>nX (P:=λ x=>PE X x _) hx λ y p h=>aXu (dT (aL (aL (aL h)))) (aKL (aR (aL (aL h)))) (qP (aR (aL h))) (qP (aR h))
def aUD(i:Int):SE T C (.int i):=λ X hX x h=>aBT (P:=λ x=>PE X x _) h λ k p=>aXJ
def aMn(i:Bool):SE T C (.bl i):=λ X hX x h=>aBT (P:=λ x=>PE X x _) h λ k p=>aZ7
def aVA:SE T C .non:=λ X hX x h=>aBT (P:=λ x=>PE X x _) h λ k p=>aYA
def aVd(i:Str):SE T C (.str i):=λ X hX x h=>aBT (P:=λ x=>PE X x _) h λ k p=>aYR
def aKZ(ha:SE T C a)(hb:SE T C b):SE T C (.bin op a b):=λ X hX x hx=>aFG (P:=λ x=>PE X x _) hx λ l o r p h=>by
 obtain rfl:=dT (aL (aL h));exact aYo (ha X hX _ (aR (aL h))) (hb X hX _ (aR h))
def aYk(ha:SE T C a):SE T C (.un op a):=λ X hX x hx=>aFq (P:=λ x=>PE X x _) hx λ o r p h=>by
 obtain rfl:=dT (aL (aL h));exact aZM (ha X hX _ (aR h))
def aW2(ha:SE T C a)(hb:SE T C b):SE T C (.cmp op a b):=λ X hX x hx=>aBJ (P:=λ x=>PE X x _) hx λ l o r p h h4=>by
 obtain rfl:=dT (aL (aL h));exact aY0 hX.units (ha X hX _ (aR (aL h))) (hb X hX _ (aR h)) (aAS h4 o)
def aES{t:TT}(h:PT X x t)(n:x.ctorIdx≠0):PT X x t/\∀ op es p,x=.BoolOp op es p->PW X x t:=
 (h,λ op es p e=>absurd (congrArg Expr.ctorIdx e) n,)
def aUJ(ha:SE T C a)(hb:SE T C b):ST T C (.cmp op a b):=λ X hX x hx=>aBJ (P:=λ x=>PT X x _/\∀ op es p,x=.BoolOp op es p->PW X x _) hx λ l o r p h h4=>by
 obtain rfl:=dT (aL (aL h));exact aES (aUW hX.units (ha X hX _ (aR (aL h))) (hb X hX _ (aR h)) (aAS h4 o)) (yHx 14)
def aW5:SE T C (.con n ts):=λ X hX x hx=>nX (P:=λ x=>PE X x _) hx λ y p h=>by
 obtain rfl:=dT (aL (aL (aL h)));exact aXA (jU (aR (aL h))) (qP (aR h)) (hX.cns _ _ (List.contains_iff_mem.mp (aR (aL (aL h)))))
def aUo(ha:SE T C a)(hb:SE T C b):SE T C (.and a b):=λ X hX x hx=>aBg (P:=λ x=>PE X x _) hx
 (λ l r p h=>PE.weak (aLE (ha X hX _ (aL h)) (aK7 (hb X hX _ (aR h)))) aLH) λ l b c r p h=>PE.weak (aLE (ha X hX _ (aL h)) (hb X hX _ (aR h))) aLH
def aYx(ha:SE T C a)(hb:SE T C b):SE T C (.or a b):=λ X hX x hx=>aBg (P:=λ x=>PE X x _) hx
 (λ l r p h=>PE.weak (aMy (ha X hX _ (aL h)) (aK7 (hb X hX _ (aR h)))) aMU) λ l b c r p h=>PE.weak (aMy (ha X hX _ (aL h)) (hb X hX _ (aR h))) aMU
def aKy{t:TT}(k:PW X x t):PT X x t/\∀ op es p,x=.BoolOp op es p->PW X x t:=(k.pt,λ _ _ _ _=>k,)
def aXe(ha:ST T C a)(hb:ST T C b):ST T C (.and a b):=λ X hX x hx=>aKy (aBg (P:=λ x=>PW X x _) hx
 (λ l r p h=>PW.weak (aKs (ha X hX _ (aL h)).1 (aSK (hb X hX _ (aR h)).1)) aMt) λ l b c r p h=>PW.weak (aKs (ha X hX _ (aL h)).1 ((hb X hX _ (aR h)).2 _ _ _ rfl)) aMt)
def aYs(ha:ST T C a)(hb:ST T C b):ST T C (.or a b):=λ X hX x hx=>aKy (aBg (P:=λ x=>PW X x _) hx
 (λ l r p h=>PW.weak (aMo (ha X hX _ (aL h)).1 (aWZ (hb X hX _ (aR h)).1)) aNj) λ l b c r p h=>PW.weak (aMo (ha X hX _ (aL h)).1 ((hb X hX _ (aR h)).2 _ _ _ rfl)) aNj)
def aUQ(ha:SE T C a):SE T C (.not a):=λ X hX x hx=>aFq (P:=λ x=>PE X x _) hx λ o y p h=>by
 obtain rfl:=dT (aL h);exact aUY (ha X hX _ (aR h))
def aVg(ha:ST T C a):ST T C (.not a):=λ X hX x hx=>aFq (P:=λ x=>PT X x _/\∀ op es p,x=.BoolOp op es p->PW X x _) hx λ o y p h=>by
 obtain rfl:=dT (aL h);exact aES (aXF (ha X hX _ (aR h)).1) (yHx 2)
def aXc(hc:ST T C c)(ha:SE T C a)(hb:SE T C b):SE T C (.ite c a b):=λ X hX x hx=>bAx (P:=λ x=>PE X x _) hx λ x y z p h=>aYY (hc X hX _ (aL (aL h))).1 (ha X hX _ (aR (aL h))) (hb X hX _ (aR h))
def aUM(ha:SA T C a):SE T C (.tup a):=λ X hX x hx=>rY (P:=λ x=>PE X x _) hx λ xs k p h=>aX5 (ha X hX _ h)
def aVG(ha:SA T C a):SL T C (.lst a):=λ X hX x hx=>aFv (P:=λ x=>PE X x _) hx λ xs p h=>aYp (ha X hX _ h)
def aWz:SA T C .nil:=λ X hX x h=>jC (P:=λ x=>PA X x _) h aEU
def aSL(ha:SE T C a)(hr:SA T C r):SA T C (.cons a r):=λ X hX x h=>by
 cases x with
 |nil=>exact no h|cons y ys=>exact lX (ha X hX _ (aL (aL h))) (hr X hX _ (aR h)) (gC (aR (aL h)) _ _)
def aYm:SO T C .no:=λ X hX x h=>aMO (P:=λ x=>PO X x _) h aZL
def aT8(ha:SE T C a):SO T C (.cons a r):=λ X hX x h=>bAd (P:=λ r=>PO X x (mL X.K (ov C (.cons a r)))) (aL h) (aLN (P:=λ x=>PO X x _) (aR h) λ y h=>aWn (ha X hX _ h))
def aMa(ha:SE T C a)(hb:SE T C b):SE T C (.ix a b):=λ X hX x hx=>yN (P:=λ x=>PE X x _) hx λ l r p h h3=>aZy (ha X hX _ (aL h)) (hb X hX _ (aR h)) (aEY h3)
def aV3(hk:SE T C k):SE T C (.tab n aH k):=λ X hX x hx=>yN (P:=λ x=>PE X x _) hx λ y z p g h6=>nX (P:=λ y=>PE X (.Subscript y z p) _) (aR g) λ u q h=>by
 obtain rfl:=dT (aL (aL (aL h)));exact aYC (jU (aR (aL h))) (qP (aR h)) (hX.tbs _ _ (List.contains_iff_mem.mp (aR (aL (aL h))))) (hk X hX _ (aL g)) (aEY h6)
def aYy{lo hi:E}(ha:SE T C a)(hl:SO T C lo)(hh:SO T C hi):SE T C (.sl a lo hi):=λ X hX x hx=>aXD (P:=λ x=>PE X x _) hx λ y l u p q h=>aZB (ha X hX _ (aL (aL h))) (hl X hX _ (aR (aL h))) (hh X hX _ (aR h))
def aTU(h:iT T N a sc []=true):a=.nil:=by cases a<;>first|rfl|exact no h
def aQC{call:List W->aD->Option (W×aD)}{fs:FA}(h:C f=qz (np,call)):lW C f fs=aB1 fs np call:=by funext env S;unfold lW;rw[h]
def aKf(ha:SA T C a):SE T C (.call f a):=λ X hX x hx=>tR (P:=λ x=>PE X x _) hx λ y p zs q h=>by
 cases hC:C f with
 |none=>exact aJy λ env S=>by show lW C f (av C a) env S=qx;unfold lW;rw[hC]
 |some nc=>
   let(k,_,rm,fs,_):=hX.room;let(fa,fd,ps,m1,m2,m3,m4):=fs f nc.1 nc.2 y hC (aL (aL (aL (aL h))));have hw:∀ σ H Q,aS X.K (ev C (.call f a)) σ H Q->aBG (qH X.K nc.1 nc.2) [] E0 (eN X.K (av C a)) σ H Q:=λ σ H Q hq=>aUP σ H Q (aQC (fs:=av C a) hC▸hq)
   have h2:=jU (aR (aL (aL (aL h))));have h3:=qP (aR (aL (aL h)));cases zs with
   |nil=>
     refine PE.weak (aRh m4 rm h2 m1 m2 m3 .nil aBw h3) λ σ H Q hq=>?_
     let(F,L,S,env,ws,S',R,E,e,q2):=hw σ H Q hq;cases aTU (aR (aL h));cases e;exact q2 F L H [] Gr.refl R .nil
   |cons z zr=>exact PE.weak (aTM m4 rm h2 m1 m2 m3 .nil aBw (ha X hX _ (aR (aL h))) h3 (gC (aL (aR h)) _ _) (vZ (aR (aR h)) _ _)) hw
def aK4(ha:SA T C a):SE T C (.blt b a):=λ X hX x hx=>tR (P:=λ x=>PE X x _) hx λ y p zs q h=>by
 obtain rfl:=dT (aR (aL (aL (aL h))));cases zs with
 |nil=>exact no (aL (aL (aL (aL h))))
 |cons z zr=>
 have A:=ha X hX _ (aR (aL h));have G:=jU (aR (aL (aL h)));have s1:=gC (aL (aR h)) zr X.env;have s2:=vZ (aR (aR h)) X.env q;cases b with
 |len=>exact PE.weak (aAP aXv G (hX.blt _ (·)) (by decide +kernel) A (·) (·) s1 s2) uE|mx=>exact PE.weak (aAP (aYu hX.calm) G (hX.blt _ (·)) (by decide +kernel) A (·) (·) s1 s2) uE|mn=>exact PE.weak (aAP (aXK hX.calm) G (hX.blt _ (·)) (by decide +kernel) A (·) (·) s1 s2) uE|sum=>exact PE.weak (aAP (aZd hX.calm) G (hX.blt _ (·)) (by decide +kernel) A (·) (·) s1 s2) uE|int=>exact PE.weak (aHp aYv G (hX.blt _ (·)) (by decide +kernel) A (·) (·) s1 s2) uE|tup=>exact PE.weak (aHp aS9 G (hX.blt _ (·)) (by decide +kernel) A (·) (·) s1 s2) uE
def aSN(ha:SE T C a):SE T C (.bits a):=λ X hX x hx=>aB9 (P:=λ x=>PE X x _) hx λ o ap xs cp h4 h3 h=>jC (P:=λ xs=>PE X (.Call (.Attribute o "bit_length" ap) xs [] cp) _) (aR h) (by
 refine PE.weak (aUG PySem.F.plainAttrs_int yGr PySem.F.type_int_bit_length aUb (ha X hX _ (aL h)) (pA h3 _ _) h4) λ σ H Q hPq52=>?_
 let(F,L,S,env,w,S',R,E,e,q):=hPq52;let((w1,S1),e1,e2):=aM e;let(d,z,e3,e4,rfl,rfl):=aDe e2;refine(F,L,S,env,w1,_,R,E,e1,λ F1 L1 H1 v g1 R1 d1=>?_,);have nw:=jP R1 d1 e3;cases d<;>first|(cases e4;done)|skip
 cases e4;obtain rfl:=nw.int;exact(rfl,_,rfl,rfl,q F1 L1 H1 _ g1 R1 (Den.int _),))
def iK(h:cZ z=true):zx [z] X.env=(false,eval z X.env)::zx [] X.env:=gC h [] X.env
def qG(ha:SE T C a)(hX:Ctx T C X)(h:bP T X.N a X.env.scope z=true)(hp:cZ z=true):PA X [z] (eN X.K (dF (ev C a) iE)):=lX (ha X hX _ h) aEU (iK hp)
def aWM(ho:SE T C o)(ha:SE T C a):SE T C (.app o a):=λ X hX x hx=>aMV (P:=λ x=>PE X x _) hx λ y ap z cp h4 h3 h2 h5 h6=>
 PE.weak (aE2 yFu PySem.F.slot_list_append PySem.F.type_list_append aHZ (ho X hX _ h2) (qG ha hX h5 h6) (pA h3 _ _) (by rw[iK h6];rfl) h4 (iK h6) rfl) uA
def aU5(ho:SE T C o)(ha:SE T C a):SE T C (.idx o a):=λ X hX x hx=>aMV (P:=λ x=>PE X x _) hx λ y ap z cp h4 h3 h2 h5 h6=>
 PE.weak (aE2 yFu yFt PySem.F.type_list_index aQ5 (ho X hX _ h2) (qG ha hX h5 h6) (pA h3 _ _) (by rw[iK h6];rfl) h4 (iK h6) rfl) aY6
def aTB(ha:SE T C a)(hb:SE T C b):SL T C (.lzip a b):=λ X hX x hx=>aNr (P:=λ x=>PE X x _) hx λ p y q h2 h3 _=>aFO (P:=λ y=>PE X (.Call (.Name "list" p) [y] [] q) _) h3 λ p' z w q' h4 h5 h6 h7 h8=>
 aVh (ha X hX _ h5) (hb X hX _ h7) hX.calm (jU h2) (hX.blt _ (·)) (jU h4) (hX.blt _ (·)) (gC h6 [w] X.env) (iK h8)
def aS0(ha:SE T C a)(hb:SE T C b):SL T C (.lcat a b):=λ X hX x hx=>aFG (P:=λ x=>PE X x _) hx λ l o r p h=>by
 obtain rfl:=dT (aL (aL h));exact aX3 (ha X hX _ (aR (aL h))) (hb X hX _ (aR h))
def aTW(ha:SE T C a)(hb:SE T C b):SL T C (.lrep a b):=λ X hX x hx=>aFG (P:=λ x=>PE X x _) hx λ l o r p h=>by
 obtain rfl:=dT (aL (aL h));exact aY9 (ha X hX _ (aR (aL h))) (hb X hX _ (aR h))
def aXz(ha:SE T C a):SI T C (.it a):=λ X hX tg x h=>aZC (ha X hX _ h)
def aUd(ha:SE T C a):SI T C (.rng1 a):=λ X hX tg x hx=>aNr (P:=λ x=>PI X tg x _) hx λ p z q h2 h3 h4=>
 PI.weak (aQz (jU h2) (hX.blt _ (·)) (qG ha hX h3 h4) (iK h4)) aVN
def aSD(ha:SE T C a)(hb:SE T C b)(hc:SE T C c):SI T C (.rng3 a b c):=λ X hX tg x hx=>aNk (P:=λ x=>PI X tg x _) hx λ p z w v q h2 h3 h4 h5 h6 h7 h8=>by
 have st:=gC h4 [w,v] X.env;have st2:=gC h6 [v] X.env;exact PI.weak (aPT (jU h2) (hX.blt _ (·)) (lX (ha X hX _ h3) (lX (hb X hX _ h5) (qG hc hX h7 h8) st2) st) st (by rw[st2,iK h8];rfl)) aWx
def aSe(ha:SE T C a)(hb:SE T C b):SI T C (.rng2 a b):=λ X hX tg x hx=>aFO (P:=λ x=>PI X tg x _) hx λ p z z2 q h2 h3 h4 h5 h6=>by
 have st:=gC h4 [z2] X.env;exact PI.weak (aQo (jU h2) (hX.blt _ (·)) (lX (ha X hX _ h3) (qG hb hX h5 h6) st) (by rw[st,iK h6];rfl) (iK h6)) aWr
def aW6(ha:SE T C a)(hb:SE T C b):SI T C (.zip a b):=λ X hX tg x hx=>rY (P:=λ tg=>PI X tg x _) (aL hx) λ ts k tp _=>aFO (P:=λ x=>PI X _ x _) (aR hx) λ p z z2 q h2 h3 h4 h5 h6=>
 PI.weak (aVk (jU h2) (hX.blt _ (·)) (lX (ha X hX _ h3) (qG hb hX h5 h6) (gC h4 [z2] X.env)) (gC h4 [z2] X.env) (iK h6)) aYI
def aTK(ha:SE T C a)(hb:SE T C b)(hc:SE T C c):SI T C (.zip3 a b c):=λ X hX tg x hx=>rY (P:=λ tg=>PI X tg x _) (aL hx) λ ts k tp _=>aNk (P:=λ x=>PI X _ x _) (aR hx) λ p z z2 z3 q h2 h3 h4 h5 h6 h7 h8=>
 PI.weak (aS4 (jU h2) (hX.blt _ (·)) (lX (ha X hX _ h3) (lX (hb X hX _ h5) (qG hc hX h7 h8) (gC h6 [z3] X.env)) (gC h4 [z2,z3] X.env)) (gC h4 [z2,z3] X.env) (gC h6 [z3] X.env) (iK h8)) aVT
def or2(h:(a||b)=true)(n:a=false):b=true:=by rw[n] at h;exact h
def aKd(h:aE4 scope osc=true):ScOk scope osc:=by
 have h2:=List.all_eq_true.mp (aR h);refine(dT (aL h),λ x hx e=>?_,λ x hx e=>?_,λ x hx e=>?_,)
 .have:=h2 x hx;simp[e] at this
 .have:=h2 x hx;simp[e] at this;exact this
 .have:=h2 x hx;simp[e] at this;exact this
def aEs:∀ {n:Nat},aCf N scope is n=true->∀ i,i<n->∀ x,N[i]?=qz x->scope.names.lookup x=qz .local->i∈is
 |0,_,i,hi,_,_,_=>absurd hi (yCa i)
 |n+1,h,i,hi,x,e,el=>by
   rcases Nat.lt_succ_iff_lt_or_eq.mp hi with z|z
   .exact aEs (aL h) i z x e el
   .subst z;have h2:=aR h;rw[e] at h2;exact List.contains_iff_mem.mp (or2 h2 (by rw[el];rfl))
def aTV{cond:E}(he:SE T C elt)(hi:SI T C it)(hc:ST T C cond):SL T C (.comp elt t it cond):=λ X hX x hx=>aNx (P:=λ x=>PE X x _) hx λ e tg iter ifs scope p h1 h2 h3 h4 h5 h6 h7=>by
 have sok:=aKd h1;refine aKV (g:=uZ X.K t) hX.calm sok (λ i x a1 a2=>aEs h2 i (gIm a1).1 x a1 a2) (hi X hX tg iter h4) (λ Y hY=>?_) (aBF X.K t) (λ Y hY=>?_) (λ Y hY=>?_) (aCZ h5 X.env)
 .let(c1,c2,c3,c4):=hX.comp sok.kind hY;rw[<- c4];exact aBV (.inl rfl) c1.nd c1.calm (by rw[c2,c3];exact h3)
 .let(c1,c2,c3,c4):=hX.comp sok.kind hY;cases ifs with|nil=>exact aNd (P:=λ cond=>nB Y [] (tv C cond)) h6 aHB|cons y r=>exact jC (P:=λ r=>nB Y (y::r) _) (aL h6) (aH6 (hc Y c1 y (by rw[c2,c3];exact aR h6)).1)
 .let(c1,c2,c3,c4):=hX.comp sok.kind hY;rw[<- c4];exact he Y c1 e (by rw[c2,c3];exact h7)
def aYW(ha:SL T C a):SE T C (.fz a):=λ X hX x h=>aNO (ha X hX x h)
def aWR(ha:SL T C a):SE T C (.new a):=λ X hX x h=>aY4 (ha X hX x h)
def Ctx.hu(hX:Ctx T C X):X.A.units+1<cLine:=xAi (yDq (by decide:1<=64) _) hX.units
def aIj:∀ {es:List qu} (_:lS es=true) (env:Env) (pos:Pos),(backTo pos (zx es env)).all (λ x=>!x.1)=true
 |[],_,_,_=>rfl
 |e::es,h,env,pos=>by
   let(h1,h2):=dS h;rw[gC h1];show(true&&(backTo pos (zx es env)).all (λ x=>!x.1))=true;rw[aIj h2 env pos];rfl
def aZa{o:qu}{args:List qu}(h:tK o=true)(ha:lS args=true)(hl:args.length<30)(m:Str)(apos pos:Pos)(hp:(apos.endLine==pos.line)=true)(env:Env):∃ pl:Sem Bool,eval (.Call (.Attribute o m apos) args [] pos) env=(do
 let ov <- eval o env
 standAt apos.atName
 let (f,first) <- holding [ov] (getMethod ov m pl)
 callWith pos f first (backTo pos (zx args env)) (backToKw pos (keywordEach [] env))):=by
 have hf:methodCallForm (args.length+([]:List Keyword).length) (backTo pos (zx args env)) (backToKw pos (keywordEach [] env))=true:=by
  unfold methodCallForm;rw[aIj ha env pos];show(true&&true&&decide (args.length+0+0<30))=true;rw[dqT (show args.length+0+0<30 from hl)];rfl
 refine(?_,?_,)
 rotate_left
 .rw[arm_eval_Call,pA h];unfold methodCall methodCallPos;rw[hf];simp only[yFv,Bool.false_or,hp,if_true,pure_bind];rfl
def aV8(ha:SE T C a):SE T C (.fld a f):=λ X hX x hx=>aFT (P:=λ x=>PE X x _) hx λ o g p h=>by
 obtain rfl:=dT (aL (aL (aL h)));let(m,e1,e2):=any_some (aR (aL h));let(p1,hp,e3):=List.any_eq_true.mp e2;let(Cc,fi,fd,ps,h1,h2,h3,h4,h5,h6,h7):=hX.mo m.1 m.2 e1;exact aYr (ha X hX _ (aR h)) (pA (aR (aL (aL h))) _ _) h1 h2 (dT e3▸h4 p1 hp)
def aRl{call:List W->aD->Option (W×aD)}{fo:FE}{fs:FA}(h:C f=qz (np,call)):rH C m f fo fs=aCd m fo fs np call:=by funext env S;unfold rH;rw[h]
def aUO(ho:SE T C o)(ha:SA T C es):SE T C (.mth m f o es):=λ X hX x hx=>aB9 (P:=λ x=>PE X x _) hx λ y ap zs cp h1 h2 h=>by
 cases hC:C f with
 |none=>exact aJy λ env S=>by show rH C m f (ev C o) (av C es) env S=qx;unfold rH;rw[hC]
 |some nc=>
   let(k,_,rm,_,fs):=hX.room;let(Cc,fa,fd,ps,m1,m2,m3,m4,m5):=fs m f nc.1 nc.2 hC (dT (aL (aL (aL (aL (aL h))))));have h3:=aR (aL (aL h));cases zs with
   |nil=>exact no (aR (aL h))
   |cons z zr=>
     let(pl,ht):=aZa h2 h3 (dT (aR h)) m ap cp h1 X.env;exact PE.weak (aTw (pl:=pl) (ho X hX _ (aR (aL (aL (aL (aL h)))))) m2 m3 m5 rm m4 .nil aBw (ha X hX _ (aR (aL (aL (aL h))))) (gC (aL h3) _ _) (vZ (aR h3) _ _) ht) λ σ H Q hq=>aVy m1 σ H Q (aRl (fo:=ev C o) (fs:=av C es) hC▸hq)
def aZl(ha:SA T C es):SE T C (.mk ini np es):=λ X hX x hx=>tR (P:=λ x=>PE X x _) hx λ y p zs q h=>by
 let(Cc,fi,fd,ps,h1,h2,h3,h4,h5,h6,h7):=hX.mo ini np (dT (aL (aL (aL (aL (aL h))))));let(k,hk,rm,_,_):=hX.room;obtain rfl:=dT (aR (aL (aL (aL (aL h)))));have h8:=aR (aL h);cases zs with
 |nil=>exact no (aR h)|cons z zr=>exact PE.weak (aT1 h5 h7 (rm.mono hk) (jU (aR (aL (aL (aL h))))) h3 h6 .nil aBw (ha X hX _ (aR (aL (aL h)))) (·) (gC (aL h8) _ _) (vZ (aR h8) _ _)) λ σ H Q hq=>aVR h1 σ H Q hq
def aWk(ha:SA T C es):SE T C (.tpl es):=λ X hX x hx=>rY (P:=λ x=>PE X x _) hx λ xs k p h=>aZk (ha X hX _ h)
def aWq(ha:SE T C a)(hb:SE T C b):SE T C (.din n a b):=λ X hX x hx=>aBJ (P:=λ x=>PE X x _) hx λ l o r p h h4=>by
 obtain rfl:=dT (aL (aL h));exact aWE (aMB hX.hu (ha X hX _ (aR (aL h))) (hb X hX _ (aR h))) (aAS h4 _)
def aWA(ha:SE T C a)(hb:SE T C b):ST T C (.din n a b):=λ X hX x hx=>aBJ (P:=λ x=>PT X x _/\∀ op es p,x=.BoolOp op es p->PW X x _) hx λ l o r p h h4=>by
 obtain rfl:=dT (aL (aL h));refine aES (PT.weak (aWm (aMB hX.hu (ha X hX _ (aR (aL h))) (hb X hX _ (aR h))) (aAS h4 _)) λ σ H Q hPq53=>?_) (yHx 14);let(F,L,S,env,b1,S',R,E,e,q):=hPq53;let(w,d,e1,e2,e3):=aDa e;refine(F,L,S,env,w,S',R,E,e1,λ F1 L1 H1 v g1 R1 d1=>?_,);have hc:∃ c,w=.d (.bool c):=by
  let(p,ea,e1):=aM e1;let(p2,eb,e1):=aM e1;split at e1
  .let(k,e4,e1):=aM e1;let(es,e5,e6):=map_some e1;cases e6;exact(_,rfl,)
  .cases e1
 let(c,rfl):=hc;cases e2;cases e3;cases (show Den X.K F1 (.bool b1) v from d1);exact(_,rfl,q F1 L1 H1 g1 R1,)
def aSr(ha:SE T C a)(hb:SE T C b):SE T C (.dget a b):=λ X hX x hx=>yN (P:=λ x=>PE X x _) hx λ l r p h h3=>aU4 hX.hu (ha X hX _ (aL h)) (hb X hX _ (aR h)) (aEY h3)
def aU6(hs:SA T C es)(ha:SE T C a):SE T C (.cou b es a):=λ X hX x hx=>aB9 (P:=λ x=>PE X x _) hx λ o ap xs cp h1 h2 z=>jD (P:=λ xs=>PE X (.Call (.Attribute o "count" ap) xs [] cp) _) (aR z) λ y u=>by
 cases b with
 |false=>exact rY (P:=λ o=>PE X (.Call (.Attribute o "count" ap) [y] [] cp) _) (aL z) λ xs k tp h=>aVO (hs X hX _ h) (ha X hX _ (aL u)) h1 (iK (aR u))|true=>exact aFv (P:=λ o=>PE X (.Call (.Attribute o "count" ap) [y] [] cp) _) (aL z) λ xs tp h=>PE.weak (aE2 yFu PySem.F.slot_list_count PySem.F.type_list_count aRu (aEg (hs X hX _ h)) (qG ha hX (aL u) (aR u)) rfl (by rw[iK (aR u)];rfl) h1 (iK (aR u)) rfl) aUF
def tT(h:SE T C c)(ht:tv C c=dI (ev C c))(hk:∀ N sc x,lM T N c sc x=(bP T N c sc x&&nY x)):ST T C c:=λ X hX x q=>by
 rw[hk] at q;rw[ht];exact aXq (h X hX x (aL q)) (aR q)
structure Sn(T:Tx)(C:Calls)(c:E):Prop where
 e:SE T C c:=by exact λ _ _ _ h=>no h
 t:ST T C c:=by exact λ _ _ _ h=>no h
 a:SA T C c:=by exact λ _ _ _ h=>no h
 o:SO T C c:=by exact λ _ _ _ h=>no h
 l:SL T C c:=by exact λ _ _ _ h=>no h
 i:SI T C c:=by exact λ _ _ _ _ h=>no h
def sn(c:E):Sn T C c:=by
 induction c with
 |var i=>exact {e:=aK6 i,t:=tT (aK6 i) rfl λ _ _ _=>rfl }|int i=>exact {e:=aUD i }|bl b=>exact {e:=aMn b,t:=tT (aMn b) rfl λ _ _ _=>rfl }|non=>exact {e:=aVA }|str x=>exact {e:=aVd x }|bin op a b bN cL=>exact {e:=aKZ bN.e cL.e,t:=tT (aKZ bN.e cL.e) rfl λ _ _ _=>rfl }|un op a bN=>exact {e:=aYk bN.e }|cmp op a b bN cL=>exact {e:=aW2 bN.e cL.e,t:=aUJ bN.e cL.e }|and a b bN cL=>exact {e:=aUo bN.e cL.e,t:=aXe bN.t cL.t }|or a b bN cL=>exact {e:=aYx bN.e cL.e,t:=aYs bN.t cL.t }|not a bN=>exact {e:=aUQ bN.e,t:=aVg bN.t }|ite c a b ihc bN cL=>exact {e:=aXc ihc.t bN.e cL.e }|tup a bN=>exact {e:=aUM bN.a }|lst a bN=>exact {l:=aVG bN.a }|nil=>exact {a:=aWz }|cons a r bN ihr=>exact {a:=aSL bN.e ihr.a,o:=aT8 bN.e }|con x ts=>exact {e:=aW5 }|ix a b bN cL=>exact {e:=aMa bN.e cL.e,t:=tT (aMa bN.e cL.e) rfl λ _ _ _=>rfl }|tab x aH k ihk=>exact {e:=aV3 ihk.e }|sl a lo hi bN ihlo ihhi=>exact {e:=aYy bN.e ihlo.o ihhi.o }|no=>exact {o:=aYm }|call f a bN=>exact {e:=aKf bN.a,t:=tT (aKf bN.a) rfl λ _ _ _=>rfl }|blt b a bN=>exact {e:=aK4 bN.a,t:=tT (aK4 bN.a) rfl λ _ _ _=>rfl }|bits a bN=>exact {e:=aSN bN.e }|app o a iho bN=>exact {e:=aWM iho.e bN.e }|idx o a iho bN=>exact {e:=aU5 iho.e bN.e }|lzip a b bN cL=>exact {l:=aTB bN.e cL.e }|lrep a b bN cL=>exact {l:=aTW bN.e cL.e }|lcat a b bN cL=>exact {l:=aS0 bN.e cL.e }|comp elt t it cond ihelt ihit ihcond=>exact {l:=aTV ihelt.e ihit.i ihcond.t }|it a bN=>exact {i:=aXz bN.e }|rng1 a bN=>exact {i:=aUd bN.e }|rng2 a b bN cL=>exact {i:=aSe bN.e cL.e }|rng3 a b c bN cL ihc=>exact {i:=aSD bN.e cL.e ihc.e }|zip a b bN cL=>exact {i:=aW6 bN.e cL.e }|zip3 a b c bN cL ihc=>exact {i:=aTK bN.e cL.e ihc.e }|fz a bN=>exact {e:=aYW bN.l }|new a bN=>exact {e:=aWR bN.l }|fld a f bN=>exact {e:=aV8 bN.e }|mth m f o es iho ihes=>exact {e:=aUO iho.e ihes.a }|mk ini np es ihes=>exact {e:=aZl ihes.a }|tpl es ihes=>exact {e:=aWk ihes.a }|din n k d ihk ihd=>exact {e:=aWq ihk.e ihd.e,t:=aWA ihk.e ihd.e }|dget d k ihd ihk=>exact {e:=aSr ihd.e ihk.e }|cou b es a ihes bN=>exact {e:=aU6 ihes.a bN.e }
section
variable (T:Tx)(C:Calls)
def SS(c:Sx):Prop:=∀ X,Ctx T C X->(∀ x,X.fn x=true)->∀ st,okS T X.N c X.env.scope st=true->PS X st (dL X.K (xs C c))
def oK(c:Sx):Prop:=∀ X,Ctx T C X->(∀ x,X.fn x=true)->∀ st,oA T X.N c X.env.scope st=true->dM X st (dL X.K (xs C c))
end
def aJ3(h:pI e=true)(line:Nat)(env:Env):swapsWithSole [t] e line env=pure false:=wD h _ _ _
def aPk(h:xV e=false):yv [.Tuple ts k p] e env=pure qx:=by cases e<;>first|rfl|exact no h.symm
def aO9:yv [.Subscript o i p] e env=pure qx:=by cases e<;>rfl
def aWL(ha:SS T C a)(hb:oK T C b):oK T C (.seq a b):=λ X hX hf st h=>by
 cases st with
 |nil=>exact no h
 |cons s r=>
   let(h1,h2):=dS h;exact aYS (ha X hX hf _ h1) (hb X hX hf _ h2)
def aSG:oK T C .skip:=λ X hX hf st h=>jC (P:=λ st=>dM X st _) h aW8
def aUa:SS T C (.expr e):=λ X hX hf st h=>bAo (P:=λ st=>PS X st _) h λ x p h=>aWY ((sn e).e X hX _ (aL h)) (wD (aR h) _ _ _)
def aU8:SS T C (.ret e):=λ X hX hf st h=>aZ2 (P:=λ st=>PS X st _) h λ _ p h=>aLN (P:=λ v=>PS X (.Return v p) _) h λ x h=>aYg ((sn e).e X hX _ h)
def aVb(ha:oK T C a)(hb:oK T C b):SS T C (.ifs c a b):=λ X hX hf st h=>aZZ (P:=λ st=>PS X st _) h λ x y z p h=>bAh ((sn c).t X hX _ (aL (aL h))).1 (ha X hX hf _ (aR (aL h))) (hb X hX hf _ (aR h))
def aVj:SS T C (.set i e):=λ X hX hf st h=>uS (P:=λ st=>PS X st _) h λ _ y p h=>jD (P:=λ ts=>PS X (.Assign ts y p) _) (aR h) λ _ g=>nX (P:=λ t=>PS X (.Assign [t] y p) _) g λ x q g=>
 aMF hX.nd (dT (aL g)) (aEK (aR g)) ((sn e).e X hX _ (aL (aL h))) (wD (aR (aL h)) _ _ _) (.inl (hf _))
def bAu{f:FL}(σ:St)(H:Hp)(Q:VK)(h:aS K (lD f) σ H Q):iS K f σ H Q:=by let(F,L,S,env,w,S',R,E,e,q):=h;let((ds,S1),e1,e2):=aM e;cases e2;exact(F,L,S,env,ds,_,R,E,e1,λ F1 L1 H1 p xs g1 R1 hF hL hH dl=>q _ L1 _ _ (g1.trans (Gr.new hF)) (R1.adopt hF hL hH) (Den.lst (cB.of cQ) (dl.mono (gH hF))),)
def aZg{f:FL}(σ:St)(H:Hp)(Q:VK)(h:aS K (mI f) σ H Q):iS K f σ H Q:=by let(F,L,S,env,w,S',R,E,e,q):=h;let((ds,S1),e1,e2):=aM e;cases e2;refine(F,L,S,env,ds,_,R,E,e1,λ F1 L1 H1 p xs g1 R1 hF hL hH dl=>q _ _ _ _ (g1.trans Gr.newLoc) (R1.adoptLoc hF hL hH dl) (p,?_,rfl,),);dsimp only;rw[<- R1.len,yAd (yAc _)];simp
def aZS{f:FL}(nw:Bool):∀ (σ:St) (H:Hp) (Q:VK),aS K (match nw with|true=>mI f|false=>lD f) σ H Q->iS K f σ H Q:=by
 cases nw
 .exact bAu
 .exact aZg
def aTs:SS T C (.setC nw i e):=λ X hX hf st h=>uS (P:=λ st=>PS X st _) h λ _ y p h=>jD (P:=λ ts=>PS X (.Assign ts y p) _) (aR h) λ _ g=>nX (P:=λ t=>PS X (.Assign [t] y p) _) g λ x q g=>by
 refine bAk (P:=λ e=>zT T X.N e X.env.scope y=true->PS X (.Assign [.Name x q] y p) (dL X.K (xs C (.setC nw i e)))) (aL (aL h)) (λ elt t it cond hL=>aNx (P:=λ y=>PS X (.Assign [.Name x q] y p) (dL X.K (xs C (.setC nw i (.comp elt t it cond))))) hL λ e tg iter ifs scope r h1 h2 h3 h4 h5 h6 h7=>?_) (aR (aL h));have sok:=aKd h1;refine aQq (g:=uZ X.K t) hX.nd (dT (aL g)) (aEK (aR g)) (.inl (hf _)) hX.calm sok (λ i x a1 a2=>aEs h2 i (gIm a1).1 x a1 a2) ((sn it).i X hX tg iter h4) (λ Y hY=>?_) (aBF X.K t) (λ Y hY=>?_) (λ Y hY=>?_) (aCZ h5 X.env) (aZS nw)
 .let(c1,c2,c3,c4):=hX.comp sok.kind hY;rw[<- c4];exact aBV (.inl rfl) c1.nd c1.calm (by rw[c2,c3];exact h3)
 .let(c1,c2,c3,c4):=hX.comp sok.kind hY;cases ifs with|nil=>exact aNd (P:=λ cond=>nB Y [] (tv C cond)) h6 aHB|cons y r=>exact jC (P:=λ r=>nB Y (y::r) _) (aL h6) (aH6 ((sn cond).t Y c1 y (by rw[c2,c3];exact aR h6)).1)
 .let(c1,c2,c3,c4):=hX.comp sok.kind hY;rw[<- c4];exact(sn elt).e Y c1 e (by rw[c2,c3];exact h7)
def aFx(h:(!b)=true):b=false:=by grind
def aSp:SS T C (.setT t e):=λ X hX hf st h=>uS (P:=λ st=>PS X st _) h λ _ v p h=>jD (P:=λ ts=>PS X (.Assign ts v p) _) (aR h) λ tg g=>by
 have h1:=aBV (.inr hf) hX.nd hX.calm (aR g);revert h1;exact rY (P:=λ tg=>PG X tg (uZ X.K t)->PS X (.Assign [tg] v p) (dL X.K (xs C (.setT t e)))) (aL g) λ ts k q _ h1=>PS.weak (aKx ((sn e).e X hX _ (aL (aL (aL h)))) h1 (aJ3 (aR (aL (aL h))) _ _) (aPk (aFx (aR (aL h)))) rfl) (aUq (aBF X.K t))
def aV5:SS T C (.put o i e):=λ X hX hf st h=>uS (P:=λ st=>PS X st _) h λ _ z p h=>jD (P:=λ ts=>PS X (.Assign ts z p) _) (aR h) λ _ g=>yN (P:=λ t=>PS X (.Assign [t] z p) _) g λ x y q g h3=>
 aYj ((sn o).e X hX _ (aL g)) ((sn i).e X hX _ (aR g)) ((sn e).e X hX _ (aL (aL h))) (aQr h3) (aJ3 (aR (aL h)) _ _) aO9
def aTZ:SS T C (.dput o i e):=λ X hX hf st h=>uS (P:=λ st=>PS X st _) h λ _ z p h=>jD (P:=λ ts=>PS X (.Assign ts z p) _) (aR h) λ _ g=>yN (P:=λ t=>PS X (.Assign [t] z p) _) g λ x y q g h3=>
 aV6 hX.hu ((sn o).e X hX _ (aL g)) ((sn i).e X hX _ (aR g)) ((sn e).e X hX _ (aL (aL h))) (wD (aR (aL h)) _ _ _)
def aYd(hb:oK T C b):SS T C (.wh n c b):=λ X hX hf st h=>aZz (P:=λ st=>PS X st _) h λ x y z p h=>jC (P:=λ z=>PS X (.While x y z p) _) (aL (aL h)) (bAi n hX.own ((sn c).t X hX _ (aR (aL h))).1 (hb X hX hf _ (aR h)))
def aST(hb:oK T C b):SS T C (.loop t it b):=λ X hX hf st h=>aZU (P:=λ st=>PS X st _) h λ tg x y z p h=>jC (P:=λ z=>PS X (.For tg x y z p) _) (aL (aL (aL (aL h))))
 (aXj hX.own hX.calm ((sn it).i X hX _ _ (aR (aL (aL h)))) (aBV (.inr hf) hX.nd hX.calm (aR (aL (aL (aL h))))) (aBF X.K t) (hb X hX hf _ (aR h)) (aCZ (aR (aL h)) X.env))
def ss{C:Calls}(c:Sx):SS T C c/\oK T C c:=by
 have N2:∀ {c:Sx},SS T C c->(∀ N sc st,oA T N c sc st=false)->SS T C c/\oK T C c:=λ q hh=>(q,λ X hX hf st h=>by rw[hh] at h;exact no h,)
 induction c with
 |skip=>exact(λ X hX hf st h=>no h,aSG,)|seq a b bN cL=>exact(λ X hX hf st h=>no h,aWL bN.1 cL.2,)|expr e=>exact N2 aUa λ _ _ _=>rfl|ret e=>exact N2 aU8 λ _ _ _=>rfl|ifs c a b bN cL=>exact N2 (aVb bN.2 cL.2) λ _ _ _=>rfl|set i e=>exact N2 aVj λ _ _ _=>rfl|setC nw i e=>exact N2 aTs λ _ _ _=>rfl|setT t e=>exact N2 aSp λ _ _ _=>rfl|put o i e=>exact N2 aV5 λ _ _ _=>rfl|dput o i e=>exact N2 aTZ λ _ _ _=>rfl|wh n c b cL=>exact N2 (aYd cL.2) λ _ _ _=>rfl|loop t it b cL=>exact N2 (aST cL.2) λ _ _ _=>rfl
structure Fn where
 name:Str
 np:Nat
 N:List Str
 body:Sx
 st:xx
 me:Bool:=false
 qual:Str:=name
structure Cl where
 ini:List (Str×Ini)
 np:Nat
 N:List Str
 st:xx
def aF(fs:List Fn):Nat->Calls
 |0=>λ _=>qx|d+1=>λ f=>(fs[f]?).map λ F=>(F.np,gW (xs (aF fs d) F.body) F.N.length)
structure Tbs where
 tb:List (Str×List (Str×Tv))
 cn:List (Str×List Tv)
 st:List (Str×Str)
 cl:Option Cl
def nV:Nat->List Fn->List (Str×Nat)
 |_,[]=>[]
 |i,F::r=>if F.me=true then (F.name,i)::nV (i+1) r else nV (i+1) r
def tab(fs:List Fn)(tb:Tbs):Tx:=(fs.map λ F=>(F.name,F.np),tb.tb,tb.cn,tb.st,nV 0 fs,tb.cl.map λ c=>(c.ini,c.np),)
def aMd:∀ {fs:List Fn}{i f:Nat}{F:Fn},fs[f]?=qz F->F.me=true->(F.name,i+f)∈nV i fs
 |[],i,f,F,e,_=>by simp at e
 |G::r,i,0,F,e,h=>by
   simp at e;subst e;rw[nV,if_pos h];exact xAc
 |G::r,i,f+1,F,e,h=>by
   have q:=@aMd r (i+1) f F (e:) h;rw[show i+1+f=i+(f+1) by omega] at q;rw[nV];split
   .exact xAf _ q
   .exact q
def aL1:∀ {fs:List Fn}{i f:Nat}{m:Str},(m,f)∈nV i fs->∃ F,i<=f/\fs[f-i]?=qz F/\F.me=true/\F.name=m
 |[],i,f,m,h=>by cases h
 |G::r,i,f,m,h=>by
   have cK:(m,f)∈nV (i+1) r->∃ F,i<=f/\(G::r)[f-i]?=qz F/\F.me=true/\F.name=m:=λ q=>by
    let(F,h1,h2,h3,h4):=aL1 q;refine(F,by omega,?_,h3,h4,);rw[show f-i=(f-(i+1))+1 by omega];simpa using h2
   rw[nV] at h;split at h
   .rename_i hm;rcases List.mem_cons.mp h with z|z
    .cases z;exact(G,yAc _,by rw[yBb];rfl,hm,rfl,)
    .exact cK z
   .exact cK h
def aEx(N:List Str)(sc:zk)(i:Nat)(e:qu):Bool:=kF (λ x _=>decide (N[i]?=qz x)&&qD sc x && !(x==("__debug__" : Str)) && !(x==("__classdict__" : Str))) e
def aKN(N:List Str)(sc:zk)(i:Ini)(y:qu):Bool:=match i with|.arg j=>aEx N sc (j+1) y|.lst=>kLi (λ xs _=>xs.isEmpty) y|.dct=>kDi (λ ks vs _=>ks.isEmpty&&vs.isEmpty) y
def aBb(N:List Str)(sc:zk):List (Str×Ini)->List xx->Bool
 |[],l=>l.isEmpty
 | p::r,l=>(match l with
   |st::l=>qC (λ ts y _=>aKN N sc p.2 y&&pI y&&iR (λ t=>zY (λ o g _=>decide (g=p.1)&&aEx N sc 0 o) t) ts) st&&aBb N sc r l
   | []=>false)
def aJ4(h:aEx X.N X.env.scope i e=true):PE X e (uN i):=nX (P:=λ e=>PE X e _) h λ y p h=>aEf (dT (aL (aL (aL h)))) (aKL (aR (aL (aL h)))) (qP (aR (aL h))) (qP (aR h))
def aTC(h:aKN X.N X.env.scope i y=true):PE X y (aNq i):=by
 cases i with
 |arg j=>exact aJ4 h|lst=>exact aFv (P:=λ y=>PE X y _) h λ xs p h=>jC (P:=λ xs=>PE X (.List xs p) _) h (aEg aLA)|dct=>exact bAq (P:=λ y=>PE X y _) h λ ks vs p h=>jC (P:=λ ks=>PE X (.Dict ks vs p) _) (aL h) (jC (P:=λ vs=>PE X (.Dict [] vs p) _) (aR h) aQQ)
def aI9{X:Cx}:∀ {ini:List (Str×Ini)}{sts:List xx},aBb X.N X.env.scope ini sts=true->dM X sts (yL X.K ini)
 |[],sts,h=>jC (P:=λ sts=>dM X sts _) h aJN|p::r,[],h=>no h
 |p::r,st::sts,h=>by
   refine aIs ?_ (aI9 (aR h));exact uS (P:=λ st=>PS X st _) (aL h) λ _ y q h=>jD (P:=λ ts=>PS X (.Assign ts y q) _) (aR h) λ _ g=>aFT (P:=λ t=>PS X (.Assign [t] y q) _) g λ o g p' h'=>by
    obtain rfl:=dT (aL h');exact aVs (aJ4 (aR h')) (aTC (aL (aL h))) (wD (aR (aL h)) _ _ _)
def wV:List Str->Bool
 |[]=>true|x::r=>!r.contains x&&wV r
def aAK:∀ {l:List Str},wV l=true->l.Nodup
 |[],_=>List.nodup_nil
 |x::r,h=>by
   let(h1,h2):=dS h;refine List.nodup_cons.mpr (λ z=>?_,aAK h2,);simp_all
def aB5(fs:List Fn)(tb:Tbs)(F:Fn):Bool:=
 decide ((dE F.st).kind=.function) && !(dE F.st).isCoroutine && !(dE F.st).isGenerator&&wV F.N&&decide (F.np<=F.N.length)&&(F.N.take F.np).all (loc (dE F.st))&&(dE F.st).names.all (λ y=>!decide (y.2=.free)) &&
  oA (tab fs tb) F.N F.body (dE F.st) (gR F.st)
def aKU(h:loc sc x=true):sc.names.lookup x=qz .local\/sc.names.lookup x=qz .cell:=by unfold loc at h;split at h<;>first|exact .inl (by assumption)|exact .inr (by assumption)|exact no h
def aRf(h:aB5 fs tb F=true):FnScope F.N (F.N.take F.np) (dE F.st)/\oA (tab fs tb) F.N F.body (dE F.st) (gR F.st)=true/\(F.N.take F.np).length=F.np:=by
 let(h,h8):=dS h;let(h,h7):=dS h;let(h,h6):=dS h;let(h,h5):=dS h;let(h,h4):=dS h;let(h,h3):=dS h;let(h1,h2):=dS h;have hl:(F.N.take F.np).length=F.np:=by
  rw[yBg];simp_all
 refine((oqT h1,?_,?_,aAK h4,by rw[hl],λ x hx=>aKU (List.all_eq_true.mp h6 x hx),λ y hy=>?_,),h8,hl,)
 .simp_all
 .simp_all
 .have:=List.all_eq_true.mp h7 y hy;intro z;rw[dqT z] at this;exact no this
def yY(c:Cl):Bool:=
 decide ((dE c.st).kind=.function) && !(dE c.st).isCoroutine && !(dE c.st).isGenerator&&wV c.N&&decide (c.np<=c.N.length)&&(c.N.take c.np).all (loc (dE c.st))&&(dE c.st).names.all (λ y=>!decide (y.2=.free)) &&
  aBb c.N (dE c.st) c.ini (gR c.st)&&wV (c.ini.map (·.1))&&decide (c.ini.length<=1000)
def aRT(h:yY c=true):FnScope c.N (c.N.take c.np) (dE c.st)/\aBb c.N (dE c.st) c.ini (gR c.st)=true/\(c.N.take c.np).length=c.np/\(c.ini.map (·.1)).Nodup/\c.ini.length<=1000:=by
 let(h,h10):=dS h;let(h,h9):=dS h;let(h,h8):=dS h;let(h,h7):=dS h;let(h,h6):=dS h;let(h,h5):=dS h;let(h,h4):=dS h;let(h,h3):=dS h;let(h1,h2):=dS h;have hl:(c.N.take c.np).length=c.np:=by
  rw[yBg];simp_all
 refine((oqT h1,aFx h2,aFx h3,aAK h4,by rw[hl],λ x hx=>aKU (List.all_eq_true.mp h6 x hx),λ y hy=>?_,),h8,hl,aAK h9,oqT h10,);have:=List.all_eq_true.mp h7 y hy;intro z;rw[dqT z] at this;exact no this
def aNn(K:FrG)(F:Fn):Prop:=∃ Cc fa fd,kX K Cc/\Cls K Cc/\Meth K Cc F.name fa/\Fun K F.name F.qual F.st fa fd/\gU K fd (F.N.take F.np) []
def aND(K:FrG)(mg:Str->Option qj)(c:Cl):Prop:=∃ Cc fi fd,kX K Cc/\Cls K Cc/\mg "Maker" = qz (.ref Cc)/\(∀ p∈c.ini,NoAttr K Cc p.1)/\Mk K Cc fi/\Fun K "__init__" "Maker.__init__" c.st fi fd/\gU K fd (c.N.take c.np) []
def aSO{mg:Str -> Option qj}(hk:yY c=true)(hc:Cls K Cc)(hn:∀ p∈c.ini,NoAttr K Cc p.1)(Fu:Fun K "__init__" "Maker.__init__" c.st fi fd):FnOk P w K mg base oO 1 fi fd (c.N.take c.np) (spM K Cc c.ini c.np):=by
 let(sc,hok,hl,nd,le):=aRT hk;refine Fu.ok sc (λ vs H Q E h=>?_) λ cdv A outer s H vs Q E hr h=>(_,aI9 hok,aVU hc hn nd le h,)
 let(F,L,S,x,dx,ds,us,fs,S',rfl,hu,_):=h;rw[hl,<- hu];rfl
section
variable {P:zv}{w:zw}{K:FrG}{mg:Str->Option qj}{base:Heap}
def aJ2(fs:List Fn)(tb:Tbs)(hk:∀ F∈fs,aB5 fs tb F=true)(top:∀ F∈fs,F.me=false->∃ fa fd,Fun K F.name F.name F.st fa fd/\mg F.name=qz (.ref fa)/\gU K fd (F.N.take F.np) [])(topM:∀ F∈fs,F.me=true->aNn K F)(hck:∀ c,tb.cl=qz c->yY c=true)(hcl:∀ c,tb.cl=qz c->aND K mg c)
 (hb:∀ x∈bltNames,mg x=qx) (ht:∀ x aH,(x,aH)∈tb.tb->∃ a,mg x=qz (.ref a)/\xW K w a aH) (hcn:∀ x ts,(x,ts)∈tb.cn->∃ a,mg x=qz (.ref a)/\tX K a ts) (hst:∀ x y,(x,y)∈tb.st->∃ t,mg x=qz (.str y t)) :
 ∀ d f F np call q fa fd,fs[f]?=qz F->aF fs d f=qz (np,call)->Fun K F.name q F.st fa fd->FnOk P w K mg base oO (d+2) fa fd (F.N.take F.np) (qH K np call)
 |0,f,F,np,call,q,fa,fd,eF,e,Fu=>by cases e
 |d+1,f,F,np,call,q,fa,fd,eF,e,Fu=>by
   have ih:=aJ2 fs tb hk top topM hck hcl hb ht hcn hst d;have e2:(F.np,gW (xs (aF fs d) F.body) F.N.length)=(np,call):=by
    have e':(fs[f]?).map (λ F=>(F.np,gW (xs (aF fs d) F.body) F.N.length))=qz (np,call):=e;rw[eF] at e';exact Option.some.inj e'
   cases e2;have hm:F∈fs:=xAk eF;let(sc,hok,hl):=aRf (hk F hm);refine Fu.ok sc (λ vs H Q E h=>?_) λ cdv A outer s H vs Q E hr h=>?_
   .let(F1,L,S,ws,w1,S',hn,R,dl,_):=h;rw[hl,<- hn];exact dl.length.symm
   .refine(_,(@ss (tab fs tb) (aF fs d) F.body).2 _ (sc.nd,rfl,rfl,sc.kind,(d+2,by omega,hr,λ f' np' call' x' e1 e2=>?_,λ m f' np' call' e1 e2=>?_,),λ ini np e=>?_,hb,λ x aH hx=>ht x aH hx,λ x ts hx=>hcn x ts hx,λ x y hx=>hst x y hx,) (λ _=>rfl) _ hok,aVP h,)
    .let(e2,e3):=dS e2;have e2:((fs.map λ F=>(F.name,F.np))[f']?).map (·.1)=qz x':=dT e2;rw[yAg] at e2;cases q:fs[f']? with
     |none=>rw[q] at e2;cases e2
     |some F'=>
       rw[q] at e2;have hx:F'.name=x':=Option.some.inj e2;subst hx;have hme:F'.me=false:=by
        cases z:F'.me with
        |false=>rfl
        |true=>
          have z1:=aMd (i:=0) q z;rw[yBz] at z1;have z2:((tab fs tb).mt.any λ p=>decide (p.2=f'))=true:=List.any_eq_true.mpr (_,z1,by simp,);rw[z2] at e3;exact no e3
       let(fa',fd',Fu',hmg',hbi'):=top F' (xAk q) hme;exact(fa',fd',_,hmg',Fu'.kp,hbi',ih f' F' np' call' _ fa' fd' q e1 Fu',)
    .let(F',_,h2,h3,rfl):=aL1 e2;rw[yHe] at h2;let(Cc,fa',fd',m1,m2,m3,m4,m5):=topM F' (xAk h2) h3;exact(Cc,fa',fd',_,m1,m2,m3,m5,ih f' F' np' call' _ fa' fd' h2 e1 m4,)
    .let(c,e1,e2):=map_some (show tb.cl.map (λ c=>(c.ini,c.np))=qz (ini,np) from e);cases e2;let(Cc,fi,fd',m1,m2,m3,m4,m5,m6,m7):=hcl c e1;exact(Cc,fi,fd',_,m1,m2,m3,m4,m5,m7,aSO (hck c e1) m2 m4 m6,)
end
structure TopFn(K:FrG)(F:Fn):Prop where
 me:F.me=false
 ex:∃ (f:qk) (oc:qj) (od an:Option qk) (sl:Array (Option qj)) (kV dc pm cd ct:qj),yCi K zu F.name=qz (qz (.ref f)) /\
  K.lookup f=qz (oc,od,.func (yCf F.name F.name (jO F.st) (gR F.st) (dE F.st) .none kV dc pm an cd ct),sl,)/\yDj K cd F.name=true/\yBs K (.ref f)=true
def top_mk{F:Fn}{kV:qj}(a:yCi K zu F.name=qz (qz (.ref f)))(l:K.lookup f=qz (oc,od,.func (yCf F.name F.name (jO F.st) (gR F.st) (dE F.st) .none kV dc pm an cd ct),sl,))(c:yDj K cd F.name=true)(k:yBs K (.ref f)=true)(m:F.me=false:=by rfl):TopFn K F:=
 (m,f,oc,od,an,sl,kV,dc,pm,cd,ct,a,l,c,k,)
structure TopMe(K:FrG)(F:Fn):Prop where
 me:F.me=true
 ex:∃ (Cc f:qk) (oc:qj) (od an:Option qk) (sl:Array (Option qj)) (kV dc pm cd ct:qj),kX K Cc/\Cls K Cc/\Meth K Cc F.name f /\
  K.lookup f=qz (oc,od,.func (yCf F.name F.qual (jO F.st) (gR F.st) (dE F.st) .none kV dc pm an cd ct),sl,)/\yDj K cd F.qual=true/\yBs K (.ref f)=true
def topm_mk{F:Fn}{kV:qj}(a:yCi K zu "Maker" = qz (qz (.ref Cc)))(c1:yEh K Cc Str.empty=true)(c2:yEx K Cc=true)(c3:yGb K Cc=true)(c4:yBo K (.ref Cc) "__setattr__" = qz (qz (.builtin "object.__setattr__")))(m1:yBo K (.ref Cc) F.name=qz (qz (.ref f)))(m2:yHb K (.ref f)=true)(l:K.lookup f=qz (oc,od,.func (yCf F.name F.qual (jO F.st) (gR F.st) (dE F.st) .none kV dc pm an cd ct),sl,))(c:yDj K cd F.qual=true)(k:yBs K (.ref f)=true)(m:F.me=true:=by rfl):TopMe K F:=
 (m,Cc,f,oc,od,an,sl,kV,dc,pm,cd,ct,a,(c1,c2,c3,c4,),(m1,m2,k,),l,c,k,)
structure TopCl(K:FrG)(c:Cl):Prop where
 ex:∃ (Cc f:qk) (oc:qj) (od an:Option qk) (sl:Array (Option qj)) (kV dc pm cd ct:qj),kX K Cc/\Cls K Cc/\(∀ p∈c.ini,NoAttr K Cc p.1)/\Mk K Cc f /\
  K.lookup f=qz (oc,od,.func (yCf "__init__" "Maker.__init__" (jO c.st) (gR c.st) (dE c.st) .none kV dc pm an cd ct),sl,)/\yDj K cd "Maker.__init__" = true/\yBs K (.ref f)=true
def topc_mk{c:Cl}{kV:qj}(a:yCi K zu "Maker" = qz (qz (.ref Cc)))(c1:yEh K Cc Str.empty=true)(c2:yEx K Cc=true)(c3:yGb K Cc=true)(c4:yBo K (.ref Cc) "__setattr__" = qz (qz (.builtin "object.__setattr__")))(n:∀ p∈c.ini,NoAttr K Cc p.1)(m1:yIb K Cc=true)(m2:yBo K (.ref Cc) "__init__" = qz (qz (.ref f)))(m3:yHb K (.ref f)=true)(m4:yBs K (.ref Cc)=true)(l:K.lookup f=qz ⟨oc,od,.func (yCf "__init__" "Maker.__init__" (jO c.st) (gR c.st) (dE c.st) .none kV dc pm an cd ct),sl⟩)(cc:yDj K cd "Maker.__init__" = true)(k:yBs K (.ref f)=true):TopCl K c:=
 (Cc,f,oc,od,an,sl,kV,dc,pm,cd,ct,a,(c1,c2,c3,c4,),n,(m1,m2,m3,m4,),l,cc,k,)
def Cl.fn(c:Cl):Fn:={name:="__init__",np:=c.np,N:=c.N,body:=.skip,st:=c.st,qual:="Maker.__init__" }
structure TabTop(K:FrG)(w:zw)(t:Str×List (Str×Tv)):Prop where
 ex:∃ (a:qk) (es:Array DictEntry) (ep:Nat),yCi K zu t.1=qz (qz (.ref a))/\(a==sysModules)=false/\K.lookup a=qz {cls:=.type "dict",data:=.dict es ep }/\uF w es.toList t.2
def tab_mk{t:Str×List (Str×Tv)}{es:Array DictEntry}(a1:yCi K zu t.1=qz (qz (.ref a)))(l1:K.lookup a=qz {cls:=.type "dict",data:=.dict es ep })(c1:uF w es.toList t.2)(s1:(a==sysModules)=false):TabTop K w t:=(a,es,ep,a1,s1,l1,c1,)
structure ConTop(K:FrG)(t:Str×List Tv):Prop where
 ex:∃ a:qk,yCi K zu t.1=qz (qz (.ref a))/\tX K a t.2
def con_mk{t:Str×List Tv}{aG:Array qj}(a1:yCi K zu t.1=qz (qz (.ref a)))(l1:K.lookup a=qz {cls:=.type "tuple",dict:=od,data:=.seq aG n,slots:=sl })(z1:aG.size<=100)(c1:aBU aG.toList t.2):ConTop K t:=
 (a,a1,_,aG,n,l1,rfl,rfl,xAh z1 (·),c1,)
structure StTop(K:FrG)(t:Str×Str):Prop where
 ex:∃ k:Tok,yCi K zu t.1=qz (qz (.str t.2 k))
def wS(F:Fn):Prop:=∀ (qq:Str) (kV doc pm:qj) (an:Option qk) (cdv ct:qj) (us:List qj),↑us=(F.N.take F.np).length->bindArgs (yCf F.name qq (jO F.st) (gR F.st) (dE F.st) .none kV doc pm an cdv ct) ⟨us,[]⟩=pure ((F.N.take F.np).zip us)
def aEX(F:Fn):Bool:=match jO F.st with|⟨[],as,qx,[],_,qx,_⟩=>decide (F.N.take F.np=as.map (·.arg))&&decide (F.N.take F.np).Nodup|_=>false
def aIm:∀ {ns:List Str}{us:List qj},ns.Nodup->↑us=↑ns->(∀ n∈ns,((ns.zip us).lookup n).isNone=false)/\ns.filterMap (λ n=>((ns.zip us).lookup n).map (n,·))=ns.zip us
 |[],us,_,_=>(λ n h=>(nomatch h),by cases us<;>rfl,)|x::ns,[],_,h=>by cases h
 |x::ns,u::us,hn,hl=>by
   let(h1,h2):=List.nodup_cons.mp hn;let(i1,i2):=aIm h2 (Nat.succ.inj hl);have e:∀ n∈ns,((x,u)::ns.zip us).lookup n=(ns.zip us).lookup n:=λ n m=>by
    rw[yCb];have:(n==x)=false:=by
     rw[beq_eq_false_iff_ne];rintro rfl;exact h1 m
    rw[this]
   refine(λ n m=>?_,?_,)
   .rw[yHf];rcases List.mem_cons.mp m with rfl|m
    .rw[yCb,beq_self_eq_true];rfl
    .rw[e n m];exact i1 n m
   .rw[yHf,yCn,yCb,beq_self_eq_true];show(x,u)::_=_;congr 1;rw[<- i2];rw[i2];have g:∀ l:List Str,(∀ n∈l,n∈ns)->l.filterMap (λ n=>(((x,u)::ns.zip us).lookup n).map (n,·))=l.filterMap (λ n=>((ns.zip us).lookup n).map (n,·)):=λ l=>by
     induction l with
     |nil=>intro _;rfl|cons y l ih=>intro hl;rw[yCn,yCn,e y (hl y xAc),ih λ n m=>hl n (xAf _ m)]
    rw[g ns λ n m=>m,i2]
def aIT(h:aEX F=true):wS F:=by
 intro qq kV doc pm an cdv ct us hu;unfold aEX at h;split at h
 .rename_i as kd df e;let(h1,h2):=dS h;have h1:=oqT h1;rw[e];rw[h1] at hu h2 ⊢;let(i1,i2):=aIm (oqT h2) hu;have m:((as.map (·.arg)).take (as.map (·.arg)).length).filter (λ n=>(((as.map (·.arg)).zip us).lookup n).isNone)=[]:=by
   rw[yAi,List.filter_eq_nil_iff];intro n hn;rw[i1 n hn];decide
  unfold bindArgs;have q:seqItems? Value.none=(pure qx:Sem (Option (Array qj))):=rfl;simp only[yCf,q,pure_bind,yEq,yEu,yAx,List.forIn_nil,yHw,yBu,List.drop_nil,List.zip_nil_right,yHe,hu,gt_iff_lt,yCs,decide_false,yBl,yBa,if_false,m,List.isEmpty_nil,yFv,i2,Option.isNone_none]
 .exact no h
def aG9:∀ {ns:List Int}{i:Int},i∈ns->yAp i<=PySem.W.WData.weightAll (ns.map PySem.W.WData.int)
 |[],i,h=>by cases h
 |n::r,i,h=>by
   have e:PySem.W.WData.weightAll ((n::r).map PySem.W.WData.int)=yAp n+1+PySem.W.WData.weightAll (r.map PySem.W.WData.int):=rfl;rw[e];rcases List.mem_cons.mp h with z|z
   .subst z;omega
   .have:=aG9 z;omega
def aRz{ns:List Int}(h:PySem.W.WData.layableAll [PySem.W.WData.list (ns.map PySem.W.WData.int)]=true):∀ i∈ns,yAp i<=1048576:=λ i hi=>by
 have h1:PySem.W.WData.layable (PySem.W.WData.list (ns.map PySem.W.WData.int))=true:=by
  have:=List.all_eq_true.mp h _ xAc;exact this
 have h2:PySem.W.WData.weight (PySem.W.WData.list (ns.map PySem.W.WData.int))<=2^20:=oqT (dS h1).2;exact xAh (aG9 hi) h2
def aSM{l:PySem.W.OpenLaw}{XP:(Str->Option qj)->Heap->Prop}{YP:zw->Heap->Prop}{d:DefRec}(hn:l.most=qz n)(hdf:d.params.defaults=[])(go:∀ (w:zw) (s₀ s₁:qy) (mg mb:Str->Option qj) (fa:qk) (a:qk) (vs:List qj) (ns:List Int),
   PySem.W.Ground q loose [] XP w s₀ mg mb s₁.heap->YP w s₁.heap->mg d.name=qz (.ref fa) ->
   s₁.heap.get? a=qz {cls:=.type "list",data:=.seq vs.toArray }->IntsAre vs ns->↑ns<=n->(∀ i∈ns,yAp i<=1048576)->s₁.gens = #[] ->
   jo (model l.prog w) callerA (.call (.ref fa) ([.ref a],[],)) (λ r s'=>r=.ok (.ret (.bool true))/\OldK s₁.heap s'.heap/\s'.os=s₁.os/\AllBare s'.gens) s₁) :
 PySem.W.WalkO q loose XP YP l.row.toRowW d [] (λ f vs=>PySem.call f vs):=by intro w s₀ s₁ mg mb G Y fa o pm cd doc dV kV ho hd hcd hD hmg hg args vals as hpre hlay hrd hwl hlo;obtain rfl:dV=.none:=PySem.W.Dflts.none hD hdf;obtain rfl:kV=.none:=PySem.W.Dflts.noKw hD;let(a,vs,ns,rfl,rfl,hobj,hints,cS):=Att.script_of hn hpre hwl;refine PySem.W.enter_call (codeAny_mono (go w s₀ s₁ mg mb fa a vs ns G Y hmg hobj hints cS (aRz hlay) hg) λ r s' hq=>?_);let(rfl,h2,h3,h4):=hq;exact(.inl (.bool true,.bool true,[],rfl,λ _=>rfl,.bool true,Att.post_true l _,λ _=>(List.Pairwise.nil,λ _ hm=>(nomatch hm),),),h2,h3,h4,)
def law_of{l:PySem.W.OpenLaw}{XP:(Str->Option qj)->Heap->Prop}{YP:zw->Heap->Prop}{d:DefRec}{K:Params->FrG}(fs:List Fn)(tb:Tbs)(f D:Nat)(L:Fn)(x:Str)(hn:l.most=qz 63)(hdf:d.params.defaults=[])(hr:Room (D+2) callerA)(hY:∀ (w:zw) (h:Heap),YP w h->(K w.params).In h)(hk:∀ F∈fs,aB5 fs tb F=true)(hb:∀ F∈fs,wS F)(hL:fs[f]?=qz L)(hname:L.name=d.name)(hps:L.N.take L.np=[x])(hme:L.me=false)(top:∀ w:zw,∀ h:Heap,(K w.params).In h->∀ F∈fs,TopFn (K w.params) F\/TopMe (K w.params) F)(ck:∀ c,tb.cl=qz c->yY c=true/\wS c.fn)(clt:∀ w:zw,∀ h:Heap,(K w.params).In h->∀ c,tb.cl=qz c->TopCl (K w.params) c)(tbl:∀ w:zw,∀ h:Heap,(K w.params).In h->∀ t∈tb.tb,TabTop (K w.params) w t)(cnl:∀ w:zw,∀ h:Heap,(K w.params).In h->∀ t∈tb.cn,ConTop (K w.params) t)(stl:∀ w:zw,∀ h:Heap,(K w.params).In h->∀ t∈tb.st,StTop (K w.params) t)(tbn:∀ w:zw,∀ h:Heap,(K w.params).In h->∀ x∈bltNames,yCi (K w.params) zu x=qz qx)(main:∀ ns:List Int,↑ns<=63->(∀ i∈ns,yAp i<=1048576)->∃ call S',aF fs D f=qz (1,call)/\call [.d (.list (ns.map yAt))] []=qz (.d (.bool true),S')) :
 PySem.W.WalkO q loose XP YP l.row.toRowW d [] (λ f vs=>PySem.call f vs):=by
 let(call,S0,hcall,_):=main [] (by simp) (by simp);refine aSM hn hdf λ w s₀ s₁ mg mb fa a vs ns G Y hmg hobj hints cS hsm hg=>?_
 have KX:=hY w _ Y;have tops:∀ F∈fs,F.me=false->∃ fa fd,Fun (K w.params) F.name F.name F.st fa fd/\mg F.name=qz (.ref fa)/\gU (K w.params) fd (F.N.take F.np) []:=λ F hF hme=>by
  rcases top w _ KX F hF with t|t
  .let(f,oc,od,an,sl,kV,dc,pm,cd,ct,a,l,c,k):=t.ex;have Fu:=aEt (st:=F.st) l c k;exact(f,_,Fu,yGl KX G.T.g a,Fu.binds (hb F hF _),)
  .rw[t.me] at hme;cases hme
 have topM:∀ F∈fs,F.me=true->aNn (K w.params) F:=λ F hF hme=>by
  rcases top w _ KX F hF with t|t
  .rw[t.me] at hme;cases hme
  .let(Cc,f,oc,od,an,sl,kV,dc,pm,cd,ct,a1,a2,a3,l,c,k):=t.ex;have Fu:=aEt (st:=F.st) l c k;exact(Cc,f,_,a1,a2,a3,Fu,Fu.binds (hb F hF _),)
 have hcl:∀ c,tb.cl=qz c->aND (K w.params) mg c:=λ c hc=>by
  let(Cc,f,oc,od,an,sl,kV,dc,pm,cd,ct,a1,a2,a3,a4,l,cc,k):=(clt w _ KX c hc).ex;have Fu:=aEt (st:=c.st) l cc k;exact(Cc,f,_,a1,a2,yGl KX G.T.g a1,a3,a4,Fu,Fu.binds ((ck c hc).2 _),)
 have hblt:∀ x∈bltNames,mg x=qx:=λ y hy=>PySem.W.mg_none_of KX G.T.g (tbn w _ KX y hy)
 have htab:∀ x aH,(x,aH)∈tb.tb->∃ a,mg x=qz (.ref a)/\xW (K w.params) w a aH:=λ x aH hx=>by
  let(a,es,ep,a1,s1,l1,c1):=(tbl w _ KX (x,aH) hx).ex;exact(a,yGl KX G.T.g a1,s1,es,ep,l1,c1,)
 have hcon:∀ x ts,(x,ts)∈tb.cn->∃ a,mg x=qz (.ref a)/\tX (K w.params) a ts:=λ x ts hx=>by
  let(a,a1,c1):=(cnl w _ KX (x,ts) hx).ex;exact(a,yGl KX G.T.g a1,c1,)
 have hst:∀ x y,(x,y)∈tb.st->∃ t,mg x=qz (.str y t):=λ x y hx=>by
  let(k,a1):=(stl w _ KX (x,y) hx).ex;exact(k,yGl KX G.T.g a1,)
 let(fa1,fd,Fu,hmg1,hbi):=tops L (xAk hL) hme;rw[<- hname,hmg1] at hmg;cases hmg;refine L2.law_call (fd:=fd) (sp:=qH (K w.params) 1 call) (CX:=oO) (x:=x) KX G.T.g G.T.b G.T.builtins G.T.nolimit hg hobj hints (xAh cS (·)) hr (λ base kb nb=>?_) (λ s u=>?_) (λ H hO hS=>?_) λ _ _ _ z=>z
 .have P1:=@aJ2 l.prog w _ _ base fs tb hk tops topM (λ c hc=>(ck c hc).1) hcl hblt htab hcon hst D f L 1 call _ _ _ hL hcall Fu;rw[hps] at P1;exact P1
 .let(oc,od,kV,doc,pm,an,cdv,ct,osl,rfl,lk,hcd):=Fu.ex;have:=hb L (xAk hL) L.name kV doc pm an cdv ct [u] (by rw[hps];rfl);rw[hps] at this;exact .of_eq this
 .let(call',S',hcall',hrun):=main ns cS hsm;rw[hcall] at hcall';cases hcall';refine(H,[],[],[.d (.list (ns.map yAt))],.d (.bool true),S',rfl,(cD.refl _,List.nodup_nil,rfl,λ n a ds e=>by simp at e,λ n a ds e=>by simp at e,λ n a b e=>by simp at e,),.cons (Den.lst hS (DenL.of_ints ns)) .nil,hrun,λ F' L' H' v g R d=>?_,);cases (show Den (K w.params) F' (.bool true) v from d);rfl
end EV
namespace EV
open PySem L2
def aSx{α:Type}(S:List α)(a b:α):(S++[a]).set ↑S b=S++[b]:=by simp
def aDq{α:Type}{t:Tg}{fc:FT}{fe:FE}{S:aD}(enc g:α->D)(p:α->Bool):∀ (l:List α) (aI:List D),aI.length+↑l<=qo ->
 (∀ a∈l,∃ e1,t.put (enc a) env=qz e1/\(∀ S',fc e1 S'=qz (p a,S'))/\(p a=true->∀ S',fe e1 S'=qz (.d (g a),S'))) ->
 iP t fc fe ↑S env (l.map enc) (S++[qz aI])=qz (S++[qz (aI++(l.filter p).map g)])
 |[],aI,_,_=>by simp[iP]
 |a::l,aI,hz,h=>by
   let(e1,h1,h2,h3):=h a xAc;have hlt:aI.length<qo:=by simp at hz;omega
   have cK:=λ x (hx:x∈l)=>h x (xAf _ hx)
   simp only[yAm,iP,h1,yDt,h2];cases hp:p a with
   |false=>
     simp only[yBa,if_false];rw[aDq enc g p l aI (by simp at hz;omega) cK];simp[yCj,hp]
   |true=>
     have ea:dO (S++[qz aI]) (.loc ↑S) (.d (g a))=qz (.d .none,S++[qz (aI++[g a])]):=by
      unfold dO;simp_all
     simp only[if_true,h3 hp,yDt,ea];rw[aDq enc g p l (aI++[g a]) (by simp at hz ⊢;omega) cK];simp[yCj,hp]
def aDm{α:Type}{t:Tg}{fi:FL}{fc:FT}{fe:FE}(enc g:α->D)(p:α->Bool)(l:List α)(hi:fi env S=qz (l.map enc,S1))(hz:↑l<=qo)(h:∀ a∈l,∃ e1,t.put (enc a) (clr t.slots env)=qz e1/\(∀ S',fc e1 S'=qz (p a,S'))/\(p a=true->∀ S',fe e1 S'=qz (.d (g a),S'))):jA t fi fc fe env S=qz ((l.filter p).map g,S1):=by unfold jA;rw[hi];simp only[yDt];rw[aDq enc g p l [] (hz:) h];simp
def lU{α:Type}{t:Tg}{fi:FL}{fe:FE}(enc g:α->D)(l:List α)(hi:fi env S=qz (l.map enc,S1))(hz:↑l<=qo)(h:∀ a∈l,∃ e1,t.put (enc a) (clr t.slots env)=qz e1/\∀ S',fe e1 S'=qz (.d (g a),S')):jA t fi jZ fe env S=qz (l.map g,S1):=by rw[aDm (fc:=jZ) enc g (λ _=>true) l hi hz λ a ha=>let ⟨e1,h1,h2⟩:=h a ha;(e1,h1,λ _=>rfl,λ _=>h2,)];rw[List.filter_eq_self.mpr (λ _ _=>rfl)]
def aIz(n:Nat):∀ lo:Int,kY lo n=(yAo n).map λ k=>yAt (lo+(k:Nat)):=by
 induction n with
 |zero=>intro lo;rfl
 |succ n ih=>
   intro lo;rw[kY,ih,List.range_succ_eq_map,yAm,yAz];congr 1
   .simp
   .apply yCq;intro k _;simp only[Function.comp];congr 1
    push_cast
    omega
end EV
namespace BM
def sV(n:Nat):0<2^n:=xAe n
def pJ(n w:Nat):List Bool:=(yAo w).map n.testBit
def aQi(n w i:Nat):(pJ n w).getD i false=(decide (i<w)&&n[i]!):=by
 unfold pJ;by_cases h:i<w
 .simp[List.getD,h]
 .simp[List.getD,h]
def gB(h:n<2^w)(hi:w<=i):n[i]! =false:=Nat.testBit_lt_two_pow (xAb h (yAh (·) hi))
def bl(n:Nat):Nat:=if n=0 then 0 else n.log2+1
def tL(h:n≠0):bl n=n.log2+1:=if_neg h
def mC(n:Nat):n<2^bl n:=by
 by_cases h:n=0
 .subst h;decide
 .rw[tL h];exact Nat.lt_log2_self
def aLg(h:n≠0):n[(bl n-1)]! =true:=by
 rw[tL h,yHg];have h1:2^n.log2<=n:=Nat.log2_self_le h;have h2:n<2^(n.log2+1):=Nat.lt_log2_self;rw[yFy];have:n/2^n.log2=1:=by
  apply Nat.div_eq_of_lt_le
  .omega
  .rw[yFn] at h2;omega
 simp[this]
def mD(h:n<2^w):bl n<=w:=by
 by_cases h0:n=0
 .subst h0;simp[bl]
 .rw[tL h0];exact(Nat.log2_lt h0).mpr h
def aC7(h1:n<2^k)(h2:k=0\/n[(k-1)]! =true):bl n=k:=by
 rcases h2 with h2|h2
 .subst h2;have:n=0:=(h1:)
  subst this;rfl
 .have h3:=mD h1;rcases yId (bl n) k with h4|h4
  .exfalso;have:=gB (mC n) (show bl n<=k-1 by omega);rw[this] at h2;cases h2
  .omega
def fA(w i:Nat):(2^w-1)[i]! =decide (i<w):=Nat.testBit_two_pow_sub_one w i
def mJ(l:List Bool):Nat:=(l.takeWhile id).length
def aHR(r:List Bool):mJ (true::r)=mJ r+1:=by simp[mJ]
def aHl(r:List Bool):mJ (false::r)=0:=by simp[mJ]
def aIO:∀ (l:List Bool) (i:Nat),i<mJ l->l[i]?=qz true
 |[],i,h=>by simp[mJ] at h|false::r,i,h=>by simp[aHl] at h|true::r,0,h=>rfl|true::r,i+1,h=>by rw[aHR] at h;simpa using aIO r i (!_)
def aOC(m:Nat):(2*m+1)^^^(2*m+1+1)=2*(m^^^(m+1))+1:=by
 apply xAl;intro i;cases i with
 |zero=>rw[xAn];simp[yDu];omega
 |succ i=>
   rw[xAn,yDf,yDf,yDf];rw[show(2*m+1)/2=m by omega,show(2*m+1+1)/2=m+1 by omega,show(2*(m^^^(m+1))+1)/2=(m^^^(m+1)) by omega,xAn]
def aOt(m:Nat):(2*m)^^^(2*m+1)=1:=by
 apply xAl;intro i;cases i with
 |zero=>rw[xAn];simp[yDu]
 |succ i=>
   rw[xAn,yDf,yDf,yDf];rw[show(2*m)/2=m by omega,show(2*m+1)/2=m by omega];simp
def aQm(x:Nat):bl (2*x+1)=bl x+1:=by
 apply aC7
 .have:=mC x;rw[yFn];omega
 .right;rw[yHg];by_cases h:x=0
  .subst h;rfl
  .have h2:=aLg h;have h3:bl x=(bl x-1)+1:=by rw[tL h];omega
   rw[h3,yDf,show(2*x+1)/2=x by omega];exact h2
def aGV(n:Nat):n^^^(n+1)≠0:=by
 intro h;have:n=n+1:=by
  have:=congrArg (λ z=>z^^^(n+1)) h;simpa [Nat.xor_assoc] using this
 omega
def aH1(h:n≠0):1<=bl n:=by rw[tL h];omega
def aPA(n w:Nat):pJ n (w+1)=n[0]!::pJ (n/2) w:=by unfold pJ;rw[List.range_succ_eq_map,yAm,yAz];congr 1;apply yCq;intro i _;simp only[Function.comp];exact yDf n i
def aHa:∀ (w n:Nat),n<2^w->bl (n^^^(n+1))-1=mJ (pJ n w)
 |0,n,h=>by
   have:n=0:=(h:)
   subst this;rfl
 |w+1,n,h=>by
   rw[aPA];have hd:n/2<2^w:=by rw[yFn] at h;omega
   have ih:=aHa w (n/2) hd;rcases yAv n with p|p
   .have e:n=2*(n/2):=by omega
    have e2:n^^^(n+1)=1:=by rw[e];exact aOt _
    rw[e2,yDu,p];rw[show bl 1=1 from by decide];simp[aHl]
   .have e:n=2*(n/2)+1:=by omega
    have e2:n^^^(n+1)=2*((n/2)^^^(n/2+1))+1:=by
     have:=aOC (n/2);rw[<- e] at this;exact this
    rw[e2,aQm,yDu,p];simp only[decide_true,aHR];have:=aH1 (aGV (n/2));omega
def hi(l:List Bool):Nat:=↑l-mJ (l.reverse.map (!·))
def aO4(h:n<2^w):n^^^(2^w-1)<2^w:=yDw h (by have:=sV w;omega)
def aH9(n w v:Nat):Nat:=if n&&&2^(w-1)=0 then n else n|||((2^v-1)^^^(2^w-1))
def aBo(x d:Nat):Nat:=x/2^d*2^d
def aAv(x d i:Nat):(aBo x d)[i]! =(decide (d<=i)&&x[i]!):=by
 unfold aBo;rw[Nat.testBit_mul_two_pow];by_cases h:d<=i
 .simp[h,yBk,show i-d+d=i by omega]
 .simp[h]
def sG(x w:Nat):Nat:=2^w-1-x
def sZ(h:x<2^w)(i:Nat):(sG x w)[i]! =(decide (i<w) && !x[i]!):=by unfold sG;rw[show 2^w-1-x=2^w-(x+1) by omega];exact Nat.testBit_two_pow_sub_succ h i
def tP(l g w:Nat):Nat:=(2^w-1)^^^(2^bl (l^^^g)-1)
def aCS(hl:l<2^w)(hg:g<2^w)(i:Nat):(tP l g w)[i]! =(decide (i<w)&&decide (bl (l^^^g)<=i)):=by
 unfold tP;rw[xAn,fA,fA];have hd:bl (l^^^g)<=w:=mD (yDw hl hg);by_cases h1:i<w<;>by_cases h2:i<bl (l^^^g)
 .simp[h1,h2,show ¬ bl (l^^^g)<=i by omega]
 .simp[h1,h2,show bl (l^^^g)<=i by omega]
 .omega
 .simp[h1,h2]
def nR(l g w:Nat):Nat:=tP l g w&&&l
def sW(l g w:Nat):Nat:=tP l g w^^^nR l g w
def aRa(hl:l<2^w)(hg:g<2^w):nR l g w=aBo l (bl (l^^^g)):=by
 apply xAl;intro i;rw[nR,yAy,aCS hl hg,aAv];by_cases h1:i<w
 .simp[h1]
 .rw[gB hl (!_)];simp
def aOO(hl:l<2^w)(hg:g<2^w):sW l g w=aBo (sG l w) (bl (l^^^g)):=by apply xAl;intro i;rw[sW,xAn,nR,yAy,aCS hl hg,aAv,sZ hl];by_cases h1:i<w<;>by_cases h2:bl (l^^^g)<=i<;>cases l[i]!<;>simp[h1,h2]
def bAV(h:bl (l^^^g)<=i):l[i]! =g[i]!:=by have:=gB (mC (l^^^g)) h;rw[xAn] at this;cases a:l[i]!<;>cases b:g[i]!<;>simp[a,b] at this ⊢
def aP9(h:l^^^g<2^d):l/2^d=g/2^d:=by apply xAl;intro i;rw[yBk,yBk];have:=gB h (show d<=i+d by omega);rw[xAn] at this;cases a:l[(i+d)]!<;>cases b:g[(i+d)]!<;>simp[a,b] at this ⊢
def aO0(h1:l<=m)(h2:m<=g):m/2^bl (l^^^g)=l/2^bl (l^^^g):=by have e:=aP9 (mC (l^^^g));have a:=Nat.div_le_div_right (c:=2^bl (l^^^g)) h1;have b:=Nat.div_le_div_right (c:=2^bl (l^^^g)) h2;omega
def aG0(h1:l<=m)(h2:m<=g)(hi:bl (l^^^g)<=i):m[i]! =l[i]!:=by have:=congrArg (λ z=>z[(i-bl (l^^^g))]!) (aO0 h1 h2);simp only[yBk] at this;rwa [show i-bl (l^^^g)+bl (l^^^g)=i by omega] at this
def aOg(hl:l<2^w)(hg:g<2^w)(h1:l<=m)(h2:m<=g):m&&&sW l g w=0:=by
 apply xAl;intro i;rw[yAy,aOO hl hg,aAv,sZ hl,yCk];by_cases h:bl (l^^^g)<=i
 .rw[aG0 h1 h2 h];cases l[i]!<;>simp
 .simp[h]
def aOG(hl:l<2^w)(hg:g<2^w)(h1:l<=m)(h2:m<=g):m&&&nR l g w=nR l g w:=by
 apply xAl;intro i;rw[yAy,aRa hl hg,aAv];by_cases h:bl (l^^^g)<=i
 .rw[aG0 h1 h2 h];cases l[i]!<;>simp
 .simp[h]
end BM
namespace BM
def aA0(n k i:Nat):(n/2^k)[i]! =n[(k+i)]!:=by rw[yBk,yHh]
def oY(n:Nat):n=0 ↔ ∀ i,n[i]! =false:=by
 constructor
 .rintro rfl i;simp
 .intro h;apply xAl;simp_all
def aCL(m k:Nat):m/2^k=0 ↔ ∀ i,k<=i->m[i]! =false:=by
 rw[oY];constructor
 .intro h i hi;have:=h (i-k);rw[aA0,show k+(i-k)=i by omega] at this;exact this
 .intro h i;rw[aA0];exact h _ (!_)
def cI(a b:Nat):Nat:=a-(a&&&b)
def aT0(a b:Nat):cI a b=a^^^(a&&&b):=by
 have h:(a^^^(a&&&b))+(a&&&b)=a:=by
  have key:∀ (n x y:Nat),x<=n->(x^^^(x&&&y))+(x&&&y)=x:=by
   intro n
   induction n with
   |zero=>
     simp_all
   |succ n ih=>
     intro x y hx;by_cases h0:x=0
     .subst h0;simp
     .have ih':=ih (x/2) (y/2) (!_);have e1:(x^^^(x&&&y))/2=(x/2)^^^((x/2)&&&(y/2)):=by
       apply xAl;intro i;simp[Nat.testBit_div_two]
      have e2:(x&&&y)/2=(x/2)&&&(y/2):=by
       apply xAl;intro i;simp[Nat.testBit_div_two]
      have m1:(x^^^(x&&&y))%2=(x%2+(x&&&y)%2)%2:=by
       have a1:=yEz (x^^^(x&&&y)) 0;have a2:=yEz x 0;have a3:=yEz (x&&&y) 0;simp only[Nat.pow_zero,Nat.div_one] at a1 a2 a3;rw[<- a1,<- a2,<- a3,xAn,yAy];cases x[0]!<;>cases y[0]!<;>rfl
      have m2:(x&&&y)%2<=x%2:=by
       have a2:=yEz x 0;have a3:=yEz (x&&&y) 0;simp only[Nat.pow_zero,Nat.div_one] at a2 a3;rw[<- a2,<- a3,yAy];cases x[0]!<;>cases y[0]!<;>decide
      rw[<- e1,<- e2] at ih';omega
  exact key a a b (yAc _)
 unfold cI;omega
def aAN(a b i:Nat):(cI a b)[i]! =(a[i]! && !b[i]!):=by rw[aT0,xAn,yAy];cases a[i]!<;>cases b[i]!<;>rfl
def aC1(a b:Nat):cI a b=0 ↔ ∀ i,a[i]! =true->b[i]! =true:=by
 rw[oY];constructor
 .intro h i ha;have:=h i;rw[aAN,ha] at this;simpa using this
 .intro h i;rw[aAN];simp_all
def aG5(h:x<2^k)(i:Nat):(x+q*2^k)[i]! =if i<k then x[i]! else q[(i-k)]!:=by rw[yHh,yGh,Nat.testBit_two_pow_mul_add _ h]
end BM
namespace BM
open PySem
def aNl(a b:Nat):yEl a b=((a&&&b:Nat):Int):=by unfold yEl;rw[dqT (yEn a),dqT (yEn b)];simp
def bOr(a b:Nat):yHu a b=((a|||b:Nat):Int):=by
 unfold yHu yEl yBr;rw[dqF (show ¬ (0:Int) <= -(a:Int)-1 by omega),dqF (show ¬ (0:Int) <= -(b:Int)-1 by omega)];have e1:(-(-(a:Int)-1)-1).toNat=a:=by omega
 have e2:(-(-(b:Int)-1)-1).toNat=b:=by omega
 simp only[e1,e2];omega
def aG2:∀ (n a b:Nat),a<=n->(a^^^b)+(a&&&b)=(a|||b)
 |0,a,b,h=>by
   simp_all
 |n+1,a,b,h=>by
   by_cases ha:a=0
   .subst ha;simp
   have ih:=aG2 n (a/2) (b/2) (!_);have x2:=Nat.xor_div_two (a:=a) (b:=b);have a2:=Nat.and_div_two (a:=a) (b:=b);have o2:=Nat.or_div_two (a:=a) (b:=b);have xm:(a^^^b)%2=(a%2+b%2)%2:=by
    have:=xAn a b 0;simp only[yDu] at this;rcases yAv a with p|p<;>rcases yAv b with q|q<;>rcases yAv (a^^^b) with r|r<;>simp[p,q,r] at this ⊢
   have am:(a&&&b)%2=(a%2)*(b%2):=by
    have:=yAy a b 0;simp only[yDu] at this;rcases yAv a with p|p<;>rcases yAv b with q|q<;>rcases yAv (a&&&b) with r|r<;>simp[p,q,r] at this ⊢
   have om:(a|||b)%2=(a%2+b%2)-(a%2)*(b%2):=by
    have:=xAo a b 0;simp only[yDu] at this;rcases yAv a with p|p<;>rcases yAv b with q|q<;>rcases yAv (a|||b) with r|r<;>simp[p,q,r] at this ⊢
   have h1:=yGt (a^^^b) 2;have h2:=yGt (a&&&b) 2;have h3:=yGt (a|||b) 2;rcases yAv a with p|p<;>rcases yAv b with q|q<;>rw[p,q] at xm am om<;>omega
def aZI(a b:Nat):yHk a b=((a^^^b:Nat):Int):=by unfold yHk;rw[aNl,bOr];have:=aG2 a a b (yAc _);omega
def aG7(a:Nat):yAp a=if a=0 then 0 else a.log2+1:=by unfold yAp;simp_all
def aPv{a n:Nat}(h:a<2^n):yAp a<=n:=by
 rw[aG7];split
 .simp_all
 .rename_i h0;exact(Nat.log2_lt h0).mpr h
def aDt(n:Nat):((2^n:Nat):Int)=(2:Int)^n:=by simp
def bAl{x y:Int}(h:y.natAbs.log2<9000):yDg x y=false:=by
 unfold yDg;dsimp only;have:¬ ((if (y==0)=true then 0 else y.natAbs.log2/30+1)>300):=by
  split
  .omega
  .omega
 rw[dqF this];rfl
end BM
namespace EV
open PySem L2 BM
def kI(i j:Int):bO .Add (.int i) (.int j)=qz (.int (i+j)):=rfl
def eJ(i j:Int):bO .Sub (.int i) (.int j)=qz (.int (i-j)):=rfl
def fO(a b:Nat):bO .BitAnd (.int a) (.int b)=qz (.int ((a&&&b:Nat):Int)):=by simp only[bO,kN,aNl]
def iO(a b:Nat):bO .BitOr (.int a) (.int b)=qz (.int ((a|||b:Nat):Int)):=by simp only[bO,kN,bOr]
def kJ(a b:Nat):bO .BitXor (.int a) (.int b)=qz (.int ((a^^^b:Nat):Int)):=by simp only[bO,kN,aZI]
def iX{w:Nat}(h1:w<=100000):bO .LShift (.int 1) (.int w)=qz (.int ((2^w:Nat):Int)):=by have c:(0:Int)<=w/\(yAp 1:Int)+w<=2^27:=(by omega,by(have:(yAp 1:Int)=1:=(·);omega),);simp only[bO,kN];rw[if_pos c,Int.one_mul,yAu,aDt]
def aDR{n a k:Nat}(h:n<2^a)(h2:a+k<=100000):bO .LShift (.int n) (.int k)=qz (.int ((n*2^k:Nat):Int)):=by
 have c:(0:Int)<=(k:Nat)/\((yAp (n:Int):Nat):Int)+(k:Nat)<=2^27:=by
  have:=aPv h;exact(by omega,by omega,)
 simp only[bO,kN];rw[if_pos c,yAu,<- aDt];congr 2
def tE{i j:Int}(h:0<j):bO .Mod (.int i) (.int j)=qz (.int (i%j)):=by simp only[bO,kN];rw[if_pos (!_),Int.fmod_eq_emod_of_nonneg _ (!_)]
def aDC{i j:Int}(h:0<j)(h2:j<2^64):bO .FloorDiv (.int i) (.int j)=qz (.int (i/j)):=by simp only[bO,kN];have h3:j.natAbs.log2<9000:=yHd ((Nat.log2_lt (!_)).mpr (show j.natAbs<2^64 by omega)) (·);rw[if_pos (by omega,bAl h3,),Int.fdiv_eq_ediv_of_nonneg _ (!_)]
def aRS{i:Int}:bO .Mod (.int i) (.int ((2^k:Nat):Int))=qz (.int (i%((2^k:Nat):Int))):=by
 have hp:=sV k;have h4:((2^k:Nat):Int)≠0:=by
  grind
 simp only[bO,kN];rw[if_pos h4,Int.fmod_eq_emod_of_nonneg _ (yEn _)]
def aOV{i j:Int}(h1 : -(2^64)<j)(h2:j<2^64):pM i j=true:=by unfold pM;have:=intBits_le_64 h1 h2;have h:¬ (yAp j>ww):=Nat.not_lt.mpr this;rw[dqF h];simp
def aOB{i j:Int}(h1 : -(2^64)<i)(h2:i<2^64):pM i j=true:=by unfold pM;have:=intBits_le_64 h1 h2;have h:¬ (yAp i>ww):=Nat.not_lt.mpr this;rw[dqF h];simp
def aAW{i j:Int}(h1 : -(2^64)<j)(h2:j<2^64):bO .Mult (.int i) (.int j)=qz (.int (i*j)):=by show(if pM i j=true then qz (yAt (i*j)) else qx)=_;rw[if_pos (aOV h1 h2)]
def lT{i j:Int}(h1 : -(2^64)<i)(h2:i<2^64):bO .Mult (.int i) (.int j)=qz (.int (i*j)):=by show(if pM i j=true then qz (yAt (i*j)) else qx)=_;rw[if_pos (aOB h1 h2)]
def aUl{xs ys:List D}(h:↑xs+↑ys<=1000000):bO .Add (.list xs) (.list ys)=qz (.list (xs++ys)):=by show(if ↑xs+↑ys<=qo then qz (yGd (xs++ys)) else qx)=_;rw[if_pos (by rw[zj];omega)]
def aRp{α:Type}(k:Nat)(x:α):yO k [x]=yAf k x:=by unfold yO;simp_all
def cC(i j:Int):aP .Eq (.int i) (.int j)=qz (.bool (i==j)):=rfl
def pE(i j:Int):aP .NotEq (.int i) (.int j)=qz (.bool (!(i==j))):=rfl
def wZ(i j:Int):aP .Lt (.int i) (.int j)=qz (.bool (decide (i<j))):=rfl
def aEJ(i j:Int):aP .LtE (.int i) (.int j)=qz (.bool (decide (i<=j))):=rfl
def tJ(i j:Int):aP .Gt (.int i) (.int j)=qz (.bool (decide (j<i))):=rfl
def aK0(i j:Int):aP .GtE (.int i) (.int j)=qz (.bool (decide (j<=i))):=rfl
end EV
namespace EV
open PySem L2 BM
def oB{α β:Type}(a:α)(f:α->Option β):(qz a).bind f=f a:=of_eq_true (eq_self (f a))
def oM{α β:Type}(a:α)(f:α->β):(qz a).map f=qz (f a):=of_eq_true (eq_self (qz (f a)))
def cl(fs:List Fn)(d f:Nat)(ws:List W)(S:aD):Option (W×aD):=match aF fs d f with
 |some (np,call)=>if ↑ws=np then call ws S else qx
 |none=>qx
def aH5(fs:List Fn)(d f:Nat)(fa:FA)(env:bB)(S:aD):lW (aF fs d) f fa env S=(fa env S).bind λ p=>cl fs d f p.1 p.2:=by
 unfold lW cl aB1;cases aF fs d f with
 |none=>cases fa env S<;>rfl|some q=>rfl
def bX(h:fs[f]?=qz F)(d:Nat)(ws:List W)(S:aD)(hw:↑ws=F.np):cl fs (d+1) f ws S=gW (xs (aF fs d) F.body) F.N.length ws S:=by
 have e:aF fs (d+1) f=qz (F.np,gW (xs (aF fs d) F.body) F.N.length):=by
  show(fs[f]?).map _=_;rw[h];rfl
 unfold cl;rw[e];exact if_pos hw
def aUk(h:fs[f]?=qz F)(hn:F.np=1)(e:cl fs (d+1) f [w] []=qz (r,S)):∃ call S',aF fs (d+1) f=qz (1,call)/\call [w] []=qz (r,S'):=by
 refine(gW (xs (aF fs d) F.body) F.N.length,S,?_,?_,)
 .show(fs[f]?).map _=_;rw[h,<- hn];rfl
 .rw[<- bX h d [w] [] (by rw[hn];rfl)];exact e
def szT(h:n<=1000):(n<=qo)=True:=by rw[zj];exact eq_true (!_)
def aJg{fc:FT}{fb:FS}(st:Nat->bB×aD):∀ (k n i:Nat),k<n->(∀ j,i<=j->j<i+k->fc (st j).1 (st j).2=qz (true,(st j).2)/\fb (st j).1 (st j).2=qz (.nx (st (j+1)).1,(st (j+1)).2)) ->
 fc (st (i+k)).1 (st (i+k)).2=qz (false,(st (i+k)).2)->lG fc fb n (st i).1 (st i).2=qz (.nx (st (i+k)).1,(st (i+k)).2)
 |0,0,i,h,_,_=>by omega
 |0,n+1,i,h,_,he=>by
   rw[yFo] at he ⊢;simp only[lG,he,yDt,yBa,if_false,yFo]
 |k+1,0,i,h,_,_=>by omega
 |k+1,n+1,i,h,hs,he=>by
   let(h1,h2):=hs i (yAc _) (!_);have e:i+(k+1)=(i+1)+k:=by omega
   rw[e] at he ⊢;have ih:=aJg st k n (i+1) (!_) (λ j a b=>hs j (!_) (!_)) he;simp only[lG,h1,yDt,if_true,h2];exact ih
end EV
namespace EV
open PySem L2 BM
def aC4(w:Nat):((2^w:Nat):Int)-1=((2^w-1:Nat):Int):=by have:=sV w;omega
def sN{fa:FE}{env:bB}{S S1:aD}{w:Nat}(h:fa env S=qz (.d (.int w),S1))(hw:w<=1000000):yF fa env S=qz ((yAo w).map (λ k=>yAt (k:Nat)),S1):=by have c : -(2^62)<=((w:Nat):Int)/\((w:Nat):Int)<2^62:=(by omega,by omega,);unfold yF;rw[h,oB];simp only[];rw[if_pos c,aIz,yAu];simp_all
def aId(h:env[i]?=qz (qz w)):jY i env S=qz (w,S):=by unfold jY;rw[h]
def pH{xs:List D}{k:Nat}{x:D}(h:xs[k]?=qz x):aV (.list xs) (.int k)=qz x:=by have hl:k<↑xs:=(gIm h).1;show(lB ↑xs ((k:Nat):Int)).bind (λ j=>xs[j]?)=qz x;unfold lB;rw[if_pos (!_),if_pos (!_),oB,yAu];exact h
def gI{xs:List D}{k:Nat}{x:D}(h:xs[k]?=qz x):aV (.tuple xs) (.int k)=qz x:=@pH xs _ _ h
def aUs(xs:List D)(k:Nat):eE xs qx (qz (k:Nat))=xs.take k:=by unfold eE;rw[HT.sIx_none,HT.sIx_nat,yFc,yHe];simp_all
def aJn{t:Tg}{fb:FS}(P:Nat->bB->aD->Prop):∀ (ds:List D) (i:Nat) (env:bB) (S:aD),P i env S->(∀ j d env S,ds[j]?=qz d->P (i+j) env S->∃ e1 bD S',t.put d env=qz e1/\fb e1 S=qz (.nx bD,S')/\P (i+j+1) bD S') ->
 ∃ bD S',mH t fb ds env S=qz (.nx bD,S')/\P (i+↑ds) bD S'
 |[],i,env,S,h0,_=>(env,S,rfl,h0,)
 |d::ds,i,env,S,h0,h=>by
   let(e1,bD,S',h1,h2,h3):=h 0 d env S rfl h0;let(env2,S2,h4,h5):=aJn P ds (i+1) bD S' h3 λ j d' env S a b=>by
    have:=h (j+1) d' env S (a:) (by rw[show i+(j+1)=i+1+j by omega];exact b);rw[show i+(j+1)=i+1+j by omega] at this;exact this
   refine(env2,S2,by simp only[mH,h1,oB,h2];exact h4,?_,);have:i+(d::ds).length=i+1+↑ds:=by simp;omega
   rw[this];exact h5
def kM{t:Tg}{fi:FL}{fb:FS}(P:Nat->bB->aD->Prop)(hi:fi env S=qz (ds,S1))(h0:P 0 env S1)(h:∀ j d env S,ds[j]?=qz d->P j env S->∃ e1 bD S',t.put d env=qz e1/\fb e1 S=qz (.nx bD,S')/\P (j+1) bD S') :
 ∃ bD S',lA t fi fb env S=qz (.nx bD,S')/\P ↑ds bD S':=by
 let(bD,S',h1,h2):=@aJn t fb P ds 0 env S1 h0 λ j d env S a b=>by
  have:=h j d env S a (b:);simpa using this
 exact(bD,S',by unfold lA;rw[hi,oB];exact h1,by simpa using h2,)
def aO1{fa fb:FE}{env:bB}{S S1 S2:aD}{v w:Nat}(h:fa env S=qz (.d (.int v),S1))(h2:fb env S1=qz (.d (.int w),S2))(hv:v<=1000000)(hw:w<=1000000):yB fa fb env S=qz ((yAo (w-v)).map (λ k=>yAt ((v+k:Nat):Int)),S2):=by
 have c : -(2^62)<=((v:Nat):Int)/\((v:Nat):Int)<2^62 /\ -(2^62)<=((w:Nat):Int)/\((w:Nat):Int)<2^62:=(by omega,by omega,by omega,by omega,);have e:(((w:Nat):Int)-((v:Nat):Int)).toNat=w-v:=by omega
 unfold yB;rw[h,oB];simp only[];rw[h2,oB];simp only[];rw[if_pos c,aIz,e];congr 2
def aLB{xs:List D}:jI [.list xs]=qz (.int ↑xs):=rfl
def aKq{xs:List D}:jI [.tuple xs]=qz (.int ↑xs):=rfl
def lZ{xs:List D}:qX [.list xs]=qz (.tuple xs):=rfl
def tQ{xs:List D}:qX [.tuple xs]=qz (.tuple xs):=rfl
def tF(n k:Nat):bO .RShift (.int n) (.int k)=qz (.int ((n/2^k:Nat):Int)):=by
 have c:(0:Int)<=(k:Nat):=by omega
 simp only[bO,kN];rw[if_pos c,yAu,<- aDt];congr 2
def aDb(a b:Nat):bO .BitAnd (.int a) (.int (yBr (b:Nat)))=qz (.int ((cI a b:Nat):Int)):=by
 have h1:decide ((0:Int)<=(a:Nat))=true:=dqT (!_);have h2:decide ((0:Int)<=yBr (b:Nat))=false:=dqF (by unfold yBr;omega);have h3:(yBr (yBr (b:Nat))).toNat=b:=by unfold yBr;omega
 have h4:a&&&b<=a:=yEv;simp only[bO,kN];unfold yEl;rw[h1,h2];simp only[h3,yAu];congr 2;unfold cI;omega
def aDO(i:Int):vG .Invert (.int i)=qz (.int (yBr i)):=rfl
def sU{x:D}{k:Nat}(h:k<=1000):bO .Mult (.tuple [x]) (.int k)=qz (.tuple (yAf k x)):=by show(if 0<=((k:Nat):Int)/\((k:Nat):Int)<=1000 then qz (yAn (yAf ((k:Nat):Int).toNat x)) else qx)=_;rw[if_pos (by omega,by omega,),yAu]
def aIM{α:Type}{t:Tg}{fe:FE}(enc:α->D)(I:Nat->aD->Prop)(Q:α->D->Prop):∀ (l:List α) (aI:List D) (j:Nat) (S:aD),aI.length+↑l<=qo->j+↑l<=N->↑S=n->I j S ->
 (∀ a∈l,∃ e1,t.put (enc a) env=qz e1/\∀ j S aI,j<N->↑S=n->I j S->∃ v S',fe e1 (S++[qz aI])=qz (.d v,S'++[qz aI])/\↑S'=n/\I (j+1) S'/\Q a v) ->
 ∃ vs S',iP t jZ fe n env (l.map enc) (S++[qz aI])=qz (S'++[qz (aI++vs)])/\↑S'=n/\I (j+↑l) S'/\↑vs=↑l/\∀ (i:Nat) (a:α),l[i]?=qz a->∃ v,vs[i]?=qz v/\Q a v
 |[],aI,j,S,_,_,hn,hI,_=>([],S,by simp[iP],hn,hI,rfl,by simp,)
 |a::l,aI,j,S,hz,hN,hn,hI,h=>by
   let(e1,h1,h2):=h a xAc;let(v,S1,h3,h4,h5,h6):=h2 j S aI (by simp at hN;omega) hn hI;have hlt:aI.length<qo:=by simp at hz;omega
   have ea:dO (S1++[qz aI]) (.loc n) (.d v)=qz (.d .none,S1++[qz (aI++[v])]):=by
    unfold dO;simp_all
   let(vs,S2,h7,h8,h9,h10,h11):=aIM enc I Q l (aI++[v]) (j+1) S1 (by simp at hz ⊢;omega) (by simp at hN;omega) h4 h5 λ x hx=>h x (xAf _ hx)
   refine(v::vs,S2,?_,h8,by rw[yAr,show j+(↑l+1)=j+1+↑l by omega];exact h9,by simp[h10],λ i b hb=>?_,)
   .simp only[yAm,iP,h1,jZ,oB,if_true,h3,ea];rw[h7];simp
   .cases i with|zero=>simp at hb;subst hb;exact(v,rfl,h6,)|succ i=>simpa using h11 i b (hb:)
def aDh{α:Type}{t:Tg}{fi:FL}{fe:FE}(enc:α->D)(I:Nat->aD->Prop)(Q:α->D->Prop)(l:List α)(hi:fi env S=qz (l.map enc,S1))(hz:↑l<=qo)(h0:I 0 S1)(h:∀ a∈l,∃ e1,t.put (enc a) (clr t.slots env)=qz e1/\∀ j S aI,j<↑l->↑S=↑S1->I j S->∃ v S',fe e1 (S++[qz aI])=qz (.d v,S'++[qz aI])/\↑S'=↑S1/\I (j+1) S'/\Q a v) :
 ∃ vs S',jA t fi jZ fe env S=qz (vs,S')/\↑S'=↑S1/\I ↑l S'/\↑vs=↑l/\∀ (i:Nat) (a:α),l[i]?=qz a->∃ v,vs[i]?=qz v/\Q a v:=by let(vs,S',h1,h2,h3,h4,h5):=@aIM ↑l ↑S1 _ _ _ fe enc I Q l [] 0 S1 (hz:) (by simp) rfl h0 h;refine(vs,S',?_,h2,by simpa using h3,h4,h5,);unfold jA;rw[hi];simp_all
def aEC{α:Type}(a:α):yIe 1 [a]=[a]:=rfl
def aEa{α:Type}(a b:α):yIe 1 [a,b]=[a]:=rfl
def aEI{α:Type}(a b:α):yIe 2 [a,b]=[a,b]:=rfl
end EV
namespace EV
open PySem L2 BM
section
variable {C:Calls}{env:bB}{S S1 S2 S3 S4:aD}{a b c e es r:E}
def aC(h:env[i]?=qz (qz w)):ev C (.var i) env S=qz (w,S):=by rw[aBr];exact aId h
def aJ{i:Int}:ev C (.int i) env S=qz (.d (.int i),S):=rfl
def aFk:ev C (.bl i) env S=qz (.d (.bool i),S):=rfl
def aE0:ev C .non env S=qz (.d .none,S):=rfl
def cO:ev C (.str i) env S=qz (.d (.str i),S):=rfl
def aU(ha:ev C a env S=qz (.d x,S1))(hb:ev C b env S1=qz (.d y,S2))(hz:bO op x y=qz z):ev C (.bin op a b) env S=qz (.d z,S2):=by simp only[aEy,pX,f2,ha,oB,hb,hU,dr,hz]
def aNy(ha:ev C a env S=qz (.d x,S1))(hz:vG op x=qz z):ev C (.un op a) env S=qz (.d z,S1):=by simp only[aMZ,fUn,f1,ha,oB,oE,dr,hz]
def pN(ha:ev C a env S=qz (.d x,S1))(hb:ev C b env S1=qz (.d y,S2))(hz:aP op x y=qz z):ev C (.cmp op a b) env S=qz (.d z,S2):=by simp only[aEc,nU,f2,ha,oB,hb,hU,dr,hz]
def bY(ha:ev C a env S=qz (wa,S1))(hb:ev C b env S1=qz (.d y,S2))(hx:dr S2 wa=qz x)(hz:aV x y=qz z):ev C (.ix a b) env S=qz (.d z,S2):=by have h2:dr S2 (.d y)=qz y:=rfl;simp only[aBv,oH,f2,ha,oB,hb,hU,hx,h2,hz]
def cU:dr S (.d x)=qz x:=rfl
def iB{n:Nat}{l:List D}(h:S[n]?=qz (qz l)):dr S (.loc n)=qz (.list l):=by simp only[dr,h]
def dA:oT S []=qz []:=rfl
def cM(h:dr S w=qz x)(k:oT S ws=qz ds):oT S (w::ws)=qz (x::ds):=by simp only[oT,h,k,oB]
def slD(d:D)(l h:Option Int):Option D:=match d with|.list xs=>qz (.list (eE xs l h))|.tuple xs=>qz (.tuple (eE xs l h))|_=>qx
def yQ{lo hi:E}(ha:ev C a env S=qz (wa,S1))(hl:ov C lo env S1=qz (l,S2))(hh:ov C hi env S2=qz (h,S3))(hx:dr S3 wa=qz x)(hz:slD x l h=qz z):ev C (.sl a lo hi) env S=qz (.d z,S3):=by simp only[aE5,qE,ha,oB,hl,hh,hx];cases x<;>first|(cases hz;done)|(cases hz;rfl)
def zA:ov C .no env S=qz (qx,S):=rfl
def wW{i:Int}(h:ev C a env S=qz (.d (.int i),S1)):ov C (.cons a .nil) env S=qz (qz i,S1):=by simp only[aJL,uD,h,oB]
def rJ(ho:ev C o env S=qz (wo,S1))(ha:ev C a env S1=qz (wa,S2))(h:dO S2 wo wa=qz (w,S3)):ev C (.app o a) env S=qz (w,S3):=by simp only[aK1,rN,f2,ho,oB,ha,h]
def aFi(ht:tv C c env S=qz (p,S1))(k:cond p (ev C a env S1) (ev C b env S1)=R):ev C (.ite c a b) env S=R:=by rw[<- k];cases p<;>simp only[aLn,zO,ht,oB,yBa,if_false,if_true,cond_true,cond_false]
def aBQ(ha:ev C a env S=qz (.d (.bool p),S1))(k:cond p (ev C b env S1) (qz (.d (.bool false),S1))=R):ev C (.and a b) env S=R:=by rw[<- k];cases p<;>simp only[aKE,xK,ha,oB,cond_true,cond_false]
def aZn(ha:ev C a env S=qz (.d (.bool p),S1))(k:cond p (qz (.d (.bool true),S1)) (ev C b env S1)=R):ev C (.or a b) env S=R:=by rw[<- k];cases p<;>simp only[aMq,zE,ha,oB,cond_true,cond_false]
def aXE(ha:ev C a env S=qz (.d (.bool p),S1)):ev C (.not a) env S=qz (.d (.bool (!p)),S1):=by simp only[aKG,xY,ha,oB]
def bT(ha:av (aF fs d) es env S=qz (ws,S1))(hc:cl fs d f ws S1=qz (w,S2)):ev (aF fs d) (.call f es) env S=qz (w,S2):=by rw[aJk,aH5,ha,oB];exact hc
def cT{t:B}(ha:av C es env S=qz (ws,S1))(hd:oT S1 ws=qz ds)(hz:t.g ds=qz z):ev C (.blt t es) env S=qz (.d z,S1):=by simp only[aLk,rZ,ha,oB,hd,hz]
def fB(ha:av C es env S=qz (ws,S1))(hd:jF ws=qz ds)(hl:↑ds<=1000):ev C (.tup es) env S=qz (.d (.tuple ds),S1):=by simp only[aKr,zM,ha,oB,hd,szT hl,if_true]
def fM(h:lv C a env S=qz (ds,S1)):ev C (.fz a) env S=qz (.d (.list ds),S1):=by simp only[aMX,lD,h,oB]
def kQ(ha:av C es env S=qz (ws,S1))(hd:jF ws=qz ds)(hl:↑ds<=1000):lv C (.lst es) env S=qz (ds,S1):=by simp only[aKw,zD,ha,oB,hd,szT hl,if_true]
def tU(h:lv C a env S=qz (ds,S1)):ev C (.new a) env S=qz (.loc ↑S1,S1++[qz ds]):=by simp only[aK3,mI,h,oB]
def aO:av C .nil env S=qz ([],S):=rfl
def aE(ha:ev C a env S=qz (w,S1))(hr:av C r env S1=qz (ws,S2)):av C (.cons a r) env S=qz (w::ws,S2):=by simp only[aJ7,dF,ha,oB,hr]
def bM(ha:ev C a env S=qz (.d x,S1))(hb:ev C b env S1=qz (.d y,S2))(hz:aP op x y=qz (.bool p)):tv C (.cmp op a b) env S=qz (p,S2):=by have:=pN ha hb hz;rw[aEc] at this;simp only[aLe,dI,this,oB,dr,rQ]
def aMm(ht:tv C e=dI (ev C e))(ha:ev C e env S=qz (.d x,S1))(hz:rQ x=qz p):tv C e env S=qz (p,S1):=by rw[ht];simp only[dI,ha,oB,dr,hz]
def nC(ha:tv C a env S=qz (p,S1))(hb:cond p (tv C b env S1) (qz (false,S1))=R):tv C (.and a b) env S=R:=by rw[<- hb];cases p<;>simp only[aLh,zJ,ha,oB,yBa,if_false,if_true,cond_true,cond_false]
def aE9(ha:tv C a env S=qz (p,S1))(hb:cond p (qz (true,S1)) (tv C b env S1)=R):tv C (.or a b) env S=R:=by rw[<- hb];cases p<;>simp only[aMJ,fOr,ha,oB,yBa,if_false,if_true,cond_true,cond_false]
def aVn(ha:tv C a env S=qz (p,S1)):tv C (.not a) env S=qz (!p,S1):=by simp only[aKF,yI,ha,oB]
def uO{α:Type}{x y z:α}(h:x=z):cond true x y=z:=h
def pY{α:Type}{x y z:α}(h:y=z):cond false x y=z:=h
variable {s t u:Sx}{bD:bB}{R:Option (Fl×aD)}{w:W}
def tV(h:xs C s env S=qz (fl,S1))(k:qz (fl,S1)=R):xs C s env S=R:=h.trans k
def aBN{w:W}{R:Option (W×aD)}(h:ev C e env S=qz (w,S1))(k:qz (w,S1)=R):ev C e env S=R:=h.trans k
def aBH{p:Bool}{R:Option (Bool×aD)}(h:tv C e env S=qz (p,S1))(k:qz (p,S1)=R):tv C e env S=R:=h.trans k
def aBz{l:List D}{R:Option (List D×aD)}(h:lv C e env S=qz (l,S1))(k:qz (l,S1)=R):lv C e env S=R:=h.trans k
def aU1:xs C .skip env S=qz (.nx env,S):=rfl
def uG(C:Calls)(t:Sx)(fl:Fl)(S:aD):Option (Fl×aD):=match fl with|.nx e=>xs C t e S|fl=>qz (fl,S)
def aXB(h:xs C s env S=qz (fl,S1))(k:uG C t fl S1=R):xs C (.seq s t) env S=R:=by rw[<- k];cases fl<;>simp only[lY,iC,h,oB,uG]
def aZw(k:xs C t bD S=R):uG C t (.nx bD) S=R:=k
def aZF(k:qz (.rt w,S)=R):uG C t (.rt w) S=R:=k
def aZt(k:qz (.bk bD,S)=R):uG C t (.bk bD) S=R:=k
def aZH(k:qz (.ct bD,S)=R):uG C t (.ct bD) S=R:=k
def tZ(he:ev C e env S=qz (we,S1))(ho:ev C o env S1=qz (wo,S2))(hi:ev C i env S2=qz (wi,S3))(h:nM S3 wo wi we=qz S4):xs C (.put o i e) env S=qz (.nx env,S4):=by simp only[aKW,zH,he,oB,ho,hi,h]
def aXV(h:ev C e env S=qz (w,S1))(he:env.set i (qz w)=bD):xs C (.set i e) env S=qz (.nx bD,S1):=by rw[<- he];simp only[aEF,kU,h,oB]
def aXp(h:ev C e env S=qz (w,S1)):xs C (.ret e) env S=qz (.rt w,S1):=by simp only[aEe,pV,h,oB]
def rB(h:ev C e env S=qz (w,S1)):xs C (.expr e) env S=qz (.nx env,S1):=by simp only[aJI,xJ,h,oB]
def aXx(ht:tv C a env S=qz (p,S1))(k:cond p (xs C s env S1) (xs C t env S1)=R):xs C (.ifs a s t) env S=R:=by rw[<- k];cases p<;>simp only[tN,oN,ht,oB,yBa,if_false,if_true,cond_true,cond_false]
def qY(h:lA tg (lv C a) (xs C s) env S=R):xs C (.loop tg a s) env S=R:=h
def aNz(h:lG (tv C a) (xs C s) n env S=R):xs C (.wh n a s) env S=R:=h
def aKH{ws:List W}(he:ws.map qz++yAf (n-↑ws) qx=env)(k:xs C body env S=qz (.rt (.d x),S1))(hS:S1.take ↑S=S2):gW (xs C body) n ws S=qz (.d x,S2):=by subst he;simp only[gW,k,oB,pR,hS]
def cR{ws:List W}(h:fs[f]?=qz F)(hw:↑ws=F.np)(he:ws.map qz++yAf (F.N.length-↑ws) qx=env)(k:xs (aF fs d) F.body env S=qz (.rt (.d x),S1))(hS:S1.take ↑S=S2):cl fs (d+1) f ws S=qz (.d x,S2):=by subst he;rw[bX h d ws S hw];simp only[gW,k,oB,pR,hS]
end
section
variable {C:Calls}{env:bB}{S S1 S2 S3 S4:aD}{a b c e es r:E}{w:W}{fl:List (Str×W0)}{ws:List W0}{k:List bK}{el:List (List bK×Int)}{m:Nat}
def aEL(h:ev C a env S=qz (.ob fl,S1))(hf:fl.lookup f=qz x):ev C (.fld a f) env S=qz (x.w,S1):=by simp only[aWa,aCk,h,oB,hf,yEt]
def wU(h:ev C a env S=qz (.ob fl,S1))(hf:fl.lookup f=qz (.loc n)):ev C (.fld a f) env S=qz (.loc n,S1):=aEL h hf
def rC(h:ev C a env S=qz (.ob fl,S1))(hf:fl.lookup f=qz (.d x)):ev C (.fld a f) env S=qz (.d x,S1):=aEL h hf
def tI(h:ev C a env S=qz (.ob fl,S1))(hf:fl.lookup f=qz (.dic n)):ev C (.fld a f) env S=qz (.dic n,S1):=aEL h hf
def gT(ho:ev (aF fs d) a env S=qz (.ob fl,S1))(hn:fl.lookup mn=qx)(ha:av (aF fs d) es env S1=qz (zs,S2))(hc:cl fs d f (.ob fl::zs) S2=qz (w,S3)):ev (aF fs d) (.mth mn f a es) env S=qz (w,S3):=by
 rw[aWb];unfold rH;unfold cl at hc;cases h:aF fs d f with
 |none=>rw[h] at hc;cases hc
 |some p=>
   rw[h] at hc;let(np,call):=p;dsimp only at hc ⊢;split at hc
   .rename_i hl;have hl:↑zs+1=np:=hl;simp only[aCd,ho,oB,hn,Option.isNone_none,if_true,ha,hl,hc]
   .cases hc
def xU(h:av C es env S=qz (zs,S1))(h0:w0s zs=qz ws)(hl:(↑ws<=1000)=True):ev C (.tpl es) env S=qz (.tpl ws,S1):=by have hl:↑ws<=qo:=xAh (of_eq_true hl) (·);simp only[aV0,aCg,h,oB,h0,if_pos hl]
def aEk(ha:ev C a env S=qz (.tpl ws,S1))(hb:ev C b env S1=qz (.dic m,S2))(hk:gS ws=qz k)(hd:lI S2 m=qz el)(hp:(n != (eU el k).isSome)=p):tv C (.din n a b) env S=qz (p,S2):=by subst hp;simp only[aVu,dI,uI,ha,oB,hb,hk,hd,yEt,dr,rQ]
def aEn{i:Int}(ha:ev C a env S=qz (.dic m,S1))(hb:ev C b env S1=qz (.tpl ws,S2))(hk:gS ws=qz k)(hd:lI S2 m=qz el)(hv:eU el k=qz i):ev C (.dget a b) env S=qz (.d (.int i),S2):=by simp only[aTY,aBO,ha,oB,hb,hk,hd,hv,yEt]
def aKA{i:Int}(hv:ev C e env S=qz (.d (.int i),S1))(ha:ev C a env S1=qz (.dic m,S2))(hb:ev C b env S2=qz (.tpl ws,S3))(hk:gS ws=qz k)(hd:lI S3 m=qz el)(hl:el.length<qo)(hS:S3.set m (qz ((rM el k i).map mP))=S4):xs C (.dput a b e) env S=qz (.nx env,S4):=by rw[<- hS];simp only[aTn,aBB,hv,oB,ha,hb,hk,hd,if_pos hl]
def aMz(h:av C es env S=qz (zs,S1))(hd:jF zs=qz ds)(hl:(↑ds<=1000)=True)(ha:ev C a env S1=qz (u,S2))(hx:wd u=qz x)(hz:yZ ds x=qz z):ev C (.cou t es a) env S=qz (.d z,S2):=by have hl:↑ds<=qo:=xAh (of_eq_true hl) (·);simp only[aVK,uM,h,oB,hd,if_pos hl,ha,hx,hz,yEt]
def tS{t:Tg}(h:ev C e env S=qz (.d x,S1))(he:t.put x env=qz bD):xs C (.setT t e) env S=qz (.nx bD,S1):=by simp only[aJf,xM,h,oB,he]
def aKK{i:Nat}{ds:List D}{bD:bB}(h:lv C e env S=qz (ds,S1))(he:env.set i (qz (.d (.list ds)))=bD):xs C (.setC false i e) env S=qz (.nx bD,S1):=by rw[<- he];simp only[aI0,kU,lD,h,oB]
def aNJ(h:av C es env S=qz (zs,S1))(hn:↑zs+1=np)(hd:jF zs=qz ds)(hm:kW ds ini S1=qz (fs,S2)):ev C (.mk ini np es) env S=qz (.ob fs,S2):=by simp only[aXQ,aB0,h,oB,if_pos hn,hd,hm,yEt]
end
end EV
namespace K95
open PySem L2 EV BM
private def mqS(p:String)(l:List mq)(b:="simp"):mq:=mqV b [mqC,mqO,mqO [mqA "only"],mqO [mqA "[",mqJ "," ((((p.splitOn " ").filter (·!="")).map mqI++l).map λ t=>mqN "Tactic.simpLemma" [mqO,mqO,t]),mqA "]"],mqO]
private def mqH(n:String)(l:List mq):=mqV "tacticErw___" [mqC,mqN "Tactic.rwRuleSeq" [mqA "[",mqJ "," ((mqI n::l).map λ t=>mqN "Tactic.rwRule" [mqO,t]),mqA "]"],mqO]
private def mqX(a:mq):=
 let a:=a[2][1].getSepArgs.toList.map (·[1])
 (a.headD .missing,a.tail)
private def mqR:=mqN "Tactic.tacticRfl" [mqA "rfl"]
private def mqW(t:mq):=mqN "Tactic.withReducible" [mqA "with_reducible",mqQ [t]]
private def mqK(t:mq):=mqV "focus" [mqQ [t]]
private def mqZ(t:mq)(u:=mqR):=mqK (mqM `Lean.Parser.Tactic.«tactic_<;>_» #[t,mqA "<;>",u])
private def mqY(l:List mq)(e:=[mqV "fail" [mqO]]):=mqV "first" [mqO ((l++e).map λ t=>mqM `group #[mqA "|",mqQ [t]])]
private def mqU(t:mq):=mqV "apply" [t]
private def mqEv:="aBr aXb aYq aWe aVf aEy aMZ aEc aKE aMq aKG aLn aKr aBv aVL aWs aE5 aJk aLk aTX aK1 aVI aMX aK3 aLh aMJ aKF aW7 aLe aXt aS3 aVo aUU aYX aXS aVM aJ7 aXo aJL aKw aT2 aSv aMP aJ8 aJj aKl aT4 aLD aJv aJx EV.lY aJI aEe EV.tN aEF aI0 aJf aKW aY5 aAY EV.iC EV.kU EV.xM EV.oN EV.pV aXy EV.xJ EV.uB EV.pX fUn EV.nU EV.dI EV.f2 EV.f1 EV.hU EV.oE EV.dr EV.oT EV.fC EV.jY EV.pR aH5 EV.dF EV.iE EV.zM EV.zD EV.lD EV.rZ EV.oH EV.zJ fOr EV.yI EV.xK EV.zE EV.xY EV.zO EV.jF EV.B.g EV.rQ EV.Tg.put EV.nF EV.Tg.slots yAm yEq yAr yBu yFa Nat.reduceSub yBz yBe yGu yEi yEu yBw yBp yDc yDx EV.oB EV.oM yAi yHo yFv yBa if_true if_false reduceIte yFi Nat.reduceEqDiff szT List.take_nil List.take_zero aUT EV.rR aBt EV.pU aEC aEa aEI"
private def mqU2(n:String):=if n="" then [] else [mqW (mqU (mqI n))]
private def mqC2(l:List mq)(x:Char):mq:=
 if x='r' then mqR else
 if x='g' then mqH "go.10.67" l else
 if x='c' then mqY [mqW (mqV "assumption" []),mqZ (mqS "" l) (mqW mqR)] else
 if x='v' then mqZ (mqS mqEv l) (mqW mqR) else
 if x='b' then mqZ (mqS "yDc yDx" [] "dsimp") else
 if x='a' then mqH "go.0.4" l else
 if x='d' then mqH "go.4.6" l else
 if x='e' then mqH "go.6.8" l else
 if x='f' then mqH "go.8.10" l else
 mqY [mqZ (mqS (if x='h' then "EV.B.g" else if x='i' then "yAr yBu yFa yFi" else if x='j' then "slD" else if x='k' then "Option.isSome_some Option.isSome_none bne_self_eq_false Bool.bne_false Bool.false_bne" else if x='m' then "yDc yDx" else if x='n' then "EV.Tg.put EV.nF yDc yDx" else "") l),mqK mqR]
local macro_rules(kind:=Lean.Parser.Tactic.tacticErw___)|s=>do
 let (n,l):=mqX s
 match n.getId with
 |.num (.num _ a) b=>if b<a+4 then mqF else return mqH s!"go.{(a+b)/2}.{b}" l
 |.anonymous=>if n.toNat>19 then mqF else return mqZ (mqS (if n.toNat<9 then mqEv else mqEv++" EV.gW") l)
 |_=>mqF
local macro_rules(kind:=Lean.Parser.Tactic.omega)|_s=>return mqW (mqY (mqV "assumption" []::(("yAc/1 _ yFh/2 _ _ xAh/2 a d xAb/2 a d xAi/2 a d yEe/1 a xAh/2 yEe/1 a d xAh/2 Nat.add_le_add_right/2 a _ d yDq/2 d _ Nat.le_of_not_lt/1 a Nat.lt_of_not_le/1 a Nat.not_lt_of_le/1 a yHy/1 a xAb/2 a a xAh/2 a a xAh/2 a yDq/2 d _ xAh/2 a xAh/2 Nat.add_le_add_right/2 a _ d".splitOn " ").foldr (λ t l=>match t.splitOn "/" with|[f,n]=>let n:=n.toNat!;mqT f (l.take n)::l.drop n|_=>(if t="_" then mqN "Term.hole" [mqA "_"] else mqB (if t="a" then mqV "assumption" [] else mqV "decide"))::l) []).map λ t=>mqV "exact" [t]))
local macro_rules(kind:=Lean.Parser.Tactic.tacticErw___)|s=>do
 let (n,l):=mqX s
 match n.getId with
 |.num (.num _ a) b=>
  if a+3<b then return mqH s!"go.{a}.{(a+b)/2}" l
  return mqY (((("aZw:g aZF:r aZt:r aZH:r EV.uO:g EV.pY:g EV.uO:g EV.pY:r EV.uO:r EV.pY:g EV.aC:r EV.aJ EV.aE:gg EV.aO EV.bT:gc EV.aU:ggl EV.bY:gggl aXV:gb aXB:ga EV.bM:ggl aXx:gd aXp:g aU1 EV.cT:ggh EV.nC:ge aVn:g EV.cO aE9:gf aFk aE0 EV.zA EV.cU EV.dA EV.rB:g EV.iB:l EV.cM:gg EV.fB:gri EV.fM:g EV.kQ:gri EV.tU:g EV.yQ:ggggj EV.wW:g aNy:gl EV.pN:ggl EV.rJ:ggl EV.tZ:gggl aFi:gd aBQ:ge aZn:gf aXE:g EV.wU:gr EV.rC:gr EV.tI:gr EV.gT:grgc EV.xU:gri aEk:ggllk aEn:gglll aKA:ggglllm aMz:grigrl EV.tS:gn aKK:gb aNJ:grrr EV.qY:c aNz:c aMm:rgr :c :v".splitOn " ").take b).drop a).map λ t=>mqO ((match t.splitOn ":" with|[n,r]=>mqU2 n++r.toList.map (mqC2 l)|_=>mqU2 t)))
 |.anonymous=>
  let k:=n.toNat
  if k=20 then return mqS mqEv l
  let i:=mqN "Tactic.rcasesPat.one" [mqI "rfl"]
  if k=50 then return mqG [i,mqA "|",i,mqA "|",i] (l.headD .missing)
  let d:=l.take (k%10);let l:=l.drop (k%10);let g:=[mqH "go.10.67" l,mqY [mqK mqR,mqZ (mqS "" l)]]
  if k<10 then return mqY [mqO ((if k=0 then [] else [mqS "" d "dsimp"])++mqY (["tV","aBN","aBH","aBz"].map λ x=>mqU (mqI x))::g)]
  return mqY [mqO [mqU (mqT "aKH" [mqI "rfl"]),mqV "focus" [mqQ (mqS "List.map yAr yBu yFa Nat.reduceSub yBz yBe yGu yEi yEu" d "dsimp"::mqU (mqI "tV")::g)],mqY [mqV "exact" [mqI "yAi"],mqZ (mqS "aEC aEa aEI" l),mqK mqR]]]
 |_=>mqF
local macro_rules(kind:=Lean.Parser.Term.tuple)|s=>if s[1].getNumArgs=0 then return mqB (mqV "omega") else if s[1][2].getNumArgs%2=0 then return mqN "Term.anonymousCtor" [mqA "⟨",mqJ "," (s[1][0]::s[1][2].getSepArgs.toList),mqA "⟩"] else mqF
local macro_rules(kind:=«term_<$>_»)|s=>return mqT "aF" [mqI "fns",mqM `«term_+_» #[s[0],mqA "+",s[2]]]
local macro_rules(kind:=«term#[_,]»)|s=>return mqT "qz" [mqD "loc" [s[1][0]]]
local macro_rules(kind:=Lean.Parser.Term.typeAscription)|s=>if s[3].getNumArgs=0 then return mqT "qz" [mqD "d" [mqD "int" [s[1]]]] else mqF
def top(i:Nat):xx:=PySem.Challenge.pw_fewbits_k95_whole_widths_of_chains.main.body.getD i (.Pass (0,0,0,0,))
def vO:List (Str×Tv):=[("in",.int 0),("num",.int 0),("not",.int 1),("and",.int 2),("or",.int 2),("xor",.int 2),("add",.int 2),("sub",.int 2),("mul",.int 2),("left",.int 1),("right",.int 1),("slide",.int 1),("cut",.int 1),("wide",.int 1),("sign",.int 1),("same",.int 2),("less",.int 2),("under",.int 2),("pick",.int 3)]
def oW:List Tv:=[.str "left",.str "right",.str "slide"]
def aED:List Tv:=[.str "add",.str "sub",.str "mul"]
def mY:List Tv:=[.str "same",.str "less",.str "under"]
def aCP:List Tv:=[.str "wide",.str "sign"]
def aAF:List Tv:=[.int 0,.int 0,.int 1]
def aDs:List Tv:=[.int 1,.int 0,.int 1]
def aFh:List Tv:=[.int 0,.int 1,.int 1]
def wK:List Tv:=[.str "cut",.str "nought",.str "sign"]
def aCI:List Tv:=[.str "and",.str "or",.str "xor",.str "add",.str "mul"]
def cl_ini:List (Str×Ini):=[("program",.arg 0),("stays",.arg 1),("rows",.lst),("places",.lst),("once",.dct)]
def aBP(s:xx)(j:Nat):xx:=match s with|.ClassDef _ _ _ b _ _ _ _ _ _ _=>b.getD j (.Pass (0,0,0,0,))|_=>.Pass (0,0,0,0,)
def tbs:Tbs:=([("OPERAND_COUNTS",vO)],[("SHIFTS",oW),("SUMS",aED),("COMPARES",mY),("WIDENINGS",aCP),("NOTHING",aAF),("NOUGHT",aDs),("ONE",aFh),("WORDS",wK),("EXCHANGEABLE",aCI)],[],qz (cl_ini,3,["self","program","stays"],aBP (top 84) 0,),)
abbrev J0:E:=.int 0
abbrev J1:E:=.int 1
abbrev J2:E:=.int 2
abbrev J3:E:=.int 3
abbrev J4:E:=.int 4
abbrev J5:E:=.int 5
abbrev J7:E:=.int 7
abbrev J8:E:=.int 8
abbrev V0:E:=.var 0
abbrev V1:E:=.var 1
abbrev V2:E:=.var 2
abbrev V3:E:=.var 3
abbrev V4:E:=.var 4
abbrev V5:E:=.var 5
abbrev V6:E:=.var 6
abbrev V7:E:=.var 7
abbrev V8:E:=.var 8
abbrev V9:E:=.var 9
abbrev N0:E:=.nil
abbrev K0:Sx:=.skip
section
local macro_rules(kind:=«term_::_»)|s=>return mqD "cons" [s[0],s[2]]
local macro_rules(kind:=«term_^_»)|s=>return mqD "seq" [s[0],s[2]]
def aMh:Sx:=.ret (.bin .Sub (.bin .LShift J1 V0) J1)^K0
def aLw:Sx:=.ret (.bits V0)^K0
def aLc:Sx:=.ret (.call 0 (.call 1 (V0::N0)::N0))^K0
def aIf:Sx:=.ret (.bin .Sub (.call 1 (.bin .BitXor V0 (.bin .Add V0 J1)::N0)) J1)^K0
def aII:Sx:=.ret (.bin .Sub V1 (.call 1 (.bin .BitXor V0 (.call 0 (V1::N0))::N0)))^K0
def aPl:Sx:=.set 3 (.bin .LShift J1 (.bin .Sub V1 J1))^.ifs (.cmp .Eq (.bin .BitAnd V0 V3) J0) (.ret V0^K0) .skip^.ret (.bin .BitOr V0 (.bin .BitXor (.call 0 (V2::N0)) (.call 0 (V1::N0))))^K0
def aG6:Sx:=.set 3 (.bin .BitXor (.call 0 (V2::N0)) (.call 2 (.bin .BitXor V0 V1::N0)))^.set 4 (.bin .BitAnd V3 V0)^.ret (.tup (.bin .BitXor V3 V4::V4::N0))^K0
def aQp:Sx:=.ret (.sl V0 (J2::N0) (.bin .Add J2 (.tab "OPERAND_COUNTS" vO (.ix V0 J0))::N0))^K0
def aCJ:Sx:=.ret (.bin .Add (.bin .Add (.sl V0 .no (J2::N0)) V1) (.sl V0 (.bin .Add J2 (.blt .len (V1::N0))::N0) .no))^K0
def aGA:E:=.comp (.ix V1 V2) (.one 2) (.it (.call 7 (V0::N0))) .no
def aGO:Sx:=.ret (.blt .tup (.fz aGA::N0))^K0
def aHu:Sx:=.set 2 (.ix V0 J0)^.ret (.ix (.ix V2 V1) J1)^K0
def aGK:E:=.comp (.ix V1 J1) (.one 1) (.it (.ix V0 J0)) .no
def aHb:Sx:=.ret (.blt .tup (.fz aGK::N0))^K0
def aGJ:Sx:=.ret (.tup (.bin .BitAnd V2 (.un .Invert (.bin .BitAnd V1 (.un .Invert V0)))::.bin .BitAnd V2 (.un .Invert V0)::N0))^K0
def aH2:Sx:=.set 3 (.call 1 (V2::N0))^.set 4 (.blt .mn (V3::.call 3 (V1::N0)::N0))^.set 5 (.blt .mn (.bin .Sub V3 V4::.call 3 (V0::N0)::N0))^.ret (.tup (.call 0 (.bin .Sub V3 V4::N0)::.call 0 (.bin .Sub V3 V5::N0)::N0))^K0
def aDv:Sx:=.ifs (.cmp .Eq (.bin .RShift V0 V1) J0) (.ret V0^K0) .skip^.ret (.bin .BitOr (.bin .BitAnd V0 (.call 0 (V1::N0))) (.bin .LShift J1 (.bin .Sub V1 J1)))^K0
def aAq:Sx:=.ifs (.cmp .Eq V0 (.str "left")) (.ret (.bin .RShift V3 V2)^K0) .skip^.ifs (.cmp .Eq V0 (.str "right")) (.ret (.bin .BitAnd (.bin .LShift V3 V2) (.call 0 (V1::N0)))^K0) .skip^.ret (.call 14 (.bin .LShift V3 V2::V1::N0))^K0
def aAy:Sx:=.ifs (.cmp .Eq (.ix V0 J1) J1) (.ret (.tup (J1::V1::J0::N0))^K0) .skip^.ifs (.cmp .Eq (.ix V0 J0) J1) (.ret (.tup (J1::J0::V1::N0))^K0) .skip^.ret (.tup (J1::V1::V1::N0))^K0
def aGN:Sx:=.set 4 (.ix V0 J0)^.ifs (.cmp .Eq V4 (.str "and")) (.ret (.call 12 (.ix (.ix V2 J0) J0::.ix (.ix V2 J1) J0::V3::N0))^K0) .skip^.ifs (.cmp .Eq V4 (.str "or")) (.ret (.call 12 (.ix (.ix V2 J0) J1::.ix (.ix V2 J1) J1::V3::N0))^K0) .skip^.ifs (.cmp .In V4 (.tup (.str "add"::.str "sub"::N0))) (.ret (.tup (.call 2 (V3::N0)::.call 2 (V3::N0)::N0))^K0) .skip^.ifs (.cmp .Eq V4 (.str "mul")) (.ret (.call 13 (.ix (.ix V2 J0) J0::.ix (.ix V2 J1) J0::V3::N0))^K0) .skip^.ifs (.cmp .In V4 (.con "SHIFTS" oW)) (.ret (.tup (.call 15 (V4::.ix V0 J1::.ix V0 J3::V3::N0)::N0))^K0) .skip^.ifs (.cmp .Eq V4 (.str "wide")) (.ret (.tup (.bin .BitAnd V3 (.call 0 (.ix V1 J0::N0))::N0))^K0) .skip^.ifs (.cmp .Eq V4 (.str "sign")) (.ret (.tup (.call 14 (V3::.ix V1 J0::N0)::N0))^K0) .skip^.ifs (.cmp .In V4 (.con "COMPARES" mY)) (.ret (.tup (.call 0 (.ix V1 J0::N0)::.call 0 (.ix V1 J1::N0)::N0))^K0) .skip^.ifs (.cmp .Eq V4 (.str "pick")) (.ret (.call 16 (.ix V2 J0::V3::N0))^K0) .skip^.ret (.bin .Mult (.tup (V3::N0)) (.blt .len (.call 7 (V0::N0)::N0)))^K0
def aEQ:Sx:=.ifs (.cmp .Eq V3 J0) (.ret (.bin .Mult (.tup (J0::N0)) (.blt .len (.call 7 (V0::N0)::N0)))^K0) .skip^.ret (.call 17 (V0::V1::V2::V3::N0))^K0
def aGL:E:=.comp (.call 10 (V0::V7::N0)) (.one 7) (.it (.call 7 (V4::N0))) .no
def aPf:Sx:=.set 4 (.ix (.ix V0 J0) V2)^.set 5 (.blt .tup (.fz aGL::N0))^.set 6 (.call 18 (V4::V5::.call 9 (V4::V1::N0)::V3::N0))^.ret (.fz (.lzip (.call 7 (V4::N0)) V6))^K0
def aC8:E:=.it (.call 19 (V0::V1::V4::.ix V2 V4::N0))
def aC2:Sx:=.put V2 V7 (.bin .BitOr (.ix V2 V7) V8)^K0
def aHq:E:=.rng3 (.bin .Sub (.blt .len (V5::N0)) J1) (.un .USub J1) (.un .USub J1)
def aHy:Sx:=.loop (.many [7,8]) aC8 aC2^K0
def aHY:E:=.it V6
def aHs:Sx:=.put V2 V3 (.call 0 (.call 10 (V0::V3::N0)::N0))^K0
def aWB:Sx:=.setT (.many [5,6]) V0^.set 2 (.new (.lrep (.fz (.lst (J0::N0))) (.blt .len (V5::N0))))^.loop (.one 3) aHY aHs^.loop (.one 4) aHq aHy^.ret (.blt .tup (V2::N0))^K0
def aHK:Sx:=.ret (.bin .BitXor (.call 0 (V1::N0)) (.call 0 (.bin .Sub V1 V0::N0)))^K0
def aG1:Sx:=.ret (.bin .BitOr (.ix V0 J0) (.ix V0 J1))^K0
def wL:Sx:=.setT (.many [3,4,5]) V0^.set 2 (.call 21 (V5::V1::N0))^.ifs (.cmp .NotEq (.bin .BitAnd V3 V2) J0) (.set 3 (.bin .BitOr V3 V2)^K0) .skip^.ifs (.cmp .NotEq (.bin .BitAnd V4 V2) J0) (.set 4 (.bin .BitOr V4 V2)^K0) .skip^.ret (.tup (V3::V4::.blt .mx (V5::.call 4 (V3::V1::N0)::.call 4 (V4::V1::N0)::N0)::N0))^K0
def aLl:Sx:=.ret (.ix V0 J1)^K0
def aHJ:Sx:=.ret (.bin .BitXor (.call 0 (V1::N0)) (.ix V0 J0))^K0
def aRx:Sx:=.ifs (.cmp .Eq V0 (.str "add")) (.ret (.bin .Add V1 V2)^K0) .skip^.ifs (.cmp .Eq V0 (.str "sub")) (.ret (.bin .Sub V1 V2)^K0) .skip^.ret (.bin .Mult V1 V2)^K0
def aHf:Sx:=.set 3 (.call 0 (.call 3 (.bin .BitAnd (.call 22 (V1::N0)) (.call 22 (V2::N0))::N0)::N0))^.set 4 (.bin .BitAnd (.call 26 (V0::.call 24 (V1::N0)::.call 24 (V2::N0)::N0)) V3)^.ret (.tup (.bin .BitXor V3 V4::V4::N0))^K0
def aAm:Sx:=.ifs (.cmp .NotEq V0 (.str "mul")) (.ret J0^K0) .skip^.ret (.call 0 (.blt .mn (V1::.bin .Add (.call 3 (.ix V2 J0::N0)) (.call 3 (.ix V3 J0::N0))::N0)::N0))^K0
def aAZ:Sx:=.ifs (.cmp .Eq V0 (.str "sub")) (.ret (.tup (.bin .Sub (.call 24 (V2::N0)) (.call 25 (V3::V1::N0))::.bin .Sub (.call 25 (V2::V1::N0)) (.call 24 (V3::N0))::N0))^K0) .skip^.set 4 (.call 26 (V0::.call 24 (V2::N0)::.call 24 (V3::N0)::N0))^.set 5 (.call 26 (V0::.call 25 (V2::V1::N0)::.call 25 (V3::V1::N0)::N0))^.ret (.tup (V4::V5::N0))^K0
def aAu:Sx:=.setT (.many [4,5]) (.call 29 (V0::V1::V2::V3::N0))^.ifs (.or (.cmp .Lt V4 J0) (.cmp .Gt V5 (.call 0 (V1::N0)))) (.ret (.tup (J0::J0::N0))^K0) .skip^.ret (.call 6 (V4::V5::V1::N0))^K0
def aAw:Sx:=.ifs (.cmp .Eq V0 (.str "mul")) (.ret J1^K0) .skip^.ret (.blt .mx (J1::.bin .Sub (.blt .mn (.ix V1 J2::.ix V2 J2::N0)) J1::N0))^K0
def aHx:Sx:=.set 4 (.call 27 (V0::V2::V3::N0))^.set 5 (.call 30 (V0::V1::V2::V3::N0))^.set 6 (.bin .BitOr (.bin .BitOr (.ix V4 J0) (.ix V5 J0)) (.call 28 (V0::V1::V2::V3::N0)))^.ret (.tup (V6::.bin .BitOr (.ix V4 J1) (.ix V5 J1)::.call 31 (V0::V2::V3::N0)::N0))^K0
def aHA:Sx:=.ret (.tup (.bin .BitXor (.call 0 (V0::N0)) V1::V1::J1::N0))^K0
def aOA:Sx:=.ret (.bin .BitOr (.bin .BitAnd (.ix V0 J0) (.ix V1 J1)) (.bin .BitAnd (.ix V0 J1) (.ix V1 J0)))^K0
def aOw:Sx:=.set 3 (.blt .mn (.ix V1 J2::.ix V2 J2::N0))^.ifs (.cmp .Eq V0 (.str "and")) (.ret (.tup (.bin .BitOr (.ix V1 J0) (.ix V2 J0)::.bin .BitAnd (.ix V1 J1) (.ix V2 J1)::V3::N0))^K0) .skip^.ifs (.cmp .Eq V0 (.str "or")) (.ret (.tup (.bin .BitAnd (.ix V1 J0) (.ix V2 J0)::.bin .BitOr (.ix V1 J1) (.ix V2 J1)::V3::N0))^K0) .skip^.set 4 (.bin .BitOr (.bin .BitAnd (.ix V1 J0) (.ix V2 J0)) (.bin .BitAnd (.ix V1 J1) (.ix V2 J1)))^.ret (.tup (V4::.call 34 (V1::V2::N0)::V3::N0))^K0
def aPu:Sx:=.set 3 (.bin .BitOr (.bin .LShift (.ix V1 J0) V2) (.call 0 (V2::N0)))^.ret (.tup (.bin .BitAnd V3 (.call 0 (V0::N0))::.bin .BitAnd (.bin .LShift (.ix V1 J1) V2) (.call 0 (V0::N0))::.blt .mx (J1::.bin .Sub (.ix V1 J2) V2::N0)::N0))^K0
def aOS:Sx:=.set 3 (.bin .BitOr (.bin .RShift (.ix V1 J0) V2) (.call 21 (.blt .mn (V2::V0::N0)::V0::N0)))^.ret (.tup (V3::.bin .RShift (.ix V1 J1) V2::.ite (.cmp .Eq V2 J0) (.ix V1 J2) J1::N0))^K0
def aO5:Sx:=.set 3 (.bin .Add V0 V2)^.ret (.tup (.bin .RShift (.call 5 (.ix V1 J0::V0::V3::N0)) V2::.bin .RShift (.call 5 (.ix V1 J1::V0::V3::N0)) V2::.blt .mn (V0::.bin .Add (.ix V1 J2) V2::N0)::N0))^K0
def aON:Sx:=.ifs (.cmp .Eq V0 (.str "left")) (.ret (.call 36 (V1::V2::V3::N0))^K0) .skip^.ifs (.cmp .Eq V0 (.str "right")) (.ret (.call 37 (V1::V2::V3::N0))^K0) .skip^.ret (.call 38 (V1::V2::V3::N0))^K0
def aAH:Sx:=.setT (.many [4,5,6]) V3^.ifs (.cmp .Eq V0 (.str "cut")) (.ret (.tup (.bin .BitAnd V4 (.call 0 (V2::N0))::.bin .BitAnd V5 (.call 0 (V2::N0))::.blt .mx (J1::.bin .Sub V6 (.bin .Sub V1 V2)::N0)::N0))^K0) .skip^.ifs (.cmp .Eq V0 (.str "wide")) (.ret (.tup (.bin .BitOr V4 (.call 21 (.bin .Sub V2 V1::V2::N0))::V5::.ite (.cmp .Eq V2 V1) V6 J1::N0))^K0) .skip^.ret (.tup (.call 5 (V4::V1::V2::N0)::.call 5 (V5::V1::V2::N0)::.bin .Add V6 (.bin .Sub V2 V1)::N0))^K0
def aPh:Sx:=.ifs (.cmp .NotEq (.call 34 (V1::V2::N0)) J0) (.ret (.con "NOUGHT" aDs)^K0) .skip^.ifs (.cmp .Eq (.bin .BitAnd (.call 22 (V1::N0)) (.call 22 (V2::N0))) (.call 0 (V0::N0))) (.ret (.con "ONE" aFh)^K0) .skip^.ret (.con "NOTHING" aAF)^K0
def aPG:Sx:=.ifs (.cmp .Lt (.call 25 (V1::V0::N0)) (.call 24 (V2::N0))) (.ret (.con "ONE" aFh)^K0) .skip^.ifs (.cmp .GtE (.call 24 (V1::N0)) (.call 25 (V2::V0::N0))) (.ret (.con "NOUGHT" aDs)^K0) .skip^.ret (.con "NOTHING" aAF)^K0
def aO3:Sx:=.setT (.many [3,4,5]) V0^.set 2 (.bin .BitAnd (.bin .BitXor V3 V4) (.call 21 (J1::V1::N0)))^.ret (.tup (.bin .BitXor V3 V2::.bin .BitXor V4 V2::V5::N0))^K0
def aOs:Sx:=.ifs (.cmp .Eq V0 (.str "same")) (.ret (.call 41 (V1::V2::V3::N0))^K0) .skip^.ifs (.cmp .Eq V0 (.str "less")) (.ret (.call 42 (V1::V2::V3::N0))^K0) .skip^.ret (.call 42 (V1::.call 43 (V2::V1::N0)::.call 43 (V3::V1::N0)::N0))^K0
def aPB:Sx:=.ifs (.cmp .Eq (.ix V0 J1) J1) (.ret V1^K0) .skip^.ifs (.cmp .Eq (.ix V0 J0) J1) (.ret V2^K0) .skip^.ret (.tup (.bin .BitAnd (.ix V1 J0) (.ix V2 J0)::.bin .BitAnd (.ix V1 J1) (.ix V2 J1)::.blt .mn (.ix V1 J2::.ix V2 J2::N0)::N0))^K0
def aPe:Sx:=.set 3 (.ix V0 J0)^.set 4 (.ix V0 J1)^.ifs (.cmp .Eq V3 (.str "in")) (.ret (.con "NOTHING" aAF)^K0) .skip^.ifs (.cmp .Eq V3 (.str "num")) (.ret (.call 33 (V4::.ix V0 J2::N0))^K0) .skip^.ifs (.cmp .Eq V3 (.str "not")) (.ret (.tup (.ix (.ix V2 J0) J1::.ix (.ix V2 J0) J0::.ix (.ix V2 J0) J2::N0))^K0) .skip^.ifs (.cmp .In V3 (.con "SUMS" aED)) (.ret (.call 32 (V3::V4::.ix V2 J0::.ix V2 J1::N0))^K0) .skip^.ifs (.cmp .In V3 (.con "SHIFTS" oW)) (.ret (.call 39 (V3::V4::.ix V2 J0::.ix V0 J3::N0))^K0) .skip^.ifs (.cmp .In V3 (.con "COMPARES" mY)) (.ret (.call 44 (V3::.ix V1 J0::.ix V2 J0::.ix V2 J1::N0))^K0) .skip^.ifs (.cmp .Eq V3 (.str "pick")) (.ret (.call 45 (.ix V2 J0::.ix V2 J1::.ix V2 J2::N0))^K0) .skip^.ifs (.cmp .In V3 (.tup (.str "and"::.str "or"::.str "xor"::N0))) (.ret (.call 35 (V3::.ix V2 J0::.ix V2 J1::N0))^K0) .skip^.ret (.call 40 (V3::.ix V1 J0::V4::.ix V2 J0::N0))^K0
def aL0:Sx:=.ret (.call 23 (.call 46 (V0::V1::V2::N0)::.ix V0 J1::N0))^K0
def aAl:E:=.it (.ix V0 J0)
def aAk:Sx:=.expr (.app V2 (.call 47 (V3::.call 9 (V3::V1::N0)::.call 9 (V3::V2::N0)::N0)))^K0
def aHX:Sx:=.set 1 (.call 11 (V0::N0))^.set 2 (.new (.lst .nil))^.loop (.one 3) aAl aAk^.ret (.blt .tup (V2::N0))^K0
def aDp:Sx:=.setT (.many [5,6]) V0^.set 4 (.bin .RShift V2 V6)^.ifs (.cmp .Eq V4 J0) (.ret (.bl true)^K0) .skip^.ifs (.cmp .Eq V5 (.str "nought")) (.ret (.cmp .Eq (.bin .BitAnd V4 (.un .Invert (.bin .RShift (.ix V1 J0) V6))) J0)^K0) .skip^.ret (.and (.cmp .Eq V5 (.str "sign")) (.and (.cmp .Eq (.bin .BitAnd (.bin .RShift V2 (.bin .Sub V6 J1)) J1) J1) (.cmp .LtE (.bin .Add (.bin .Sub V3 V6) J1) (.ix V1 J2))))^K0
def aGv:E:=.comp V4 (.one 4) (.rng2 J1 (.bin .Add V3 J1)) (.call 49 (.tup (V0::V4::N0)::V1::V2::V3::N0))
def aOJ:Sx:=.ret (.blt .mn (.fz aGv::N0))^K0
def vP:E:=.comp (.call 50 (V5::V0::V1::V2::N0)) (.one 5) (.it (.con "WORDS" wK)) .no
def sO:Sx:=.setC false 3 vP^.set 4 (.blt .mn (V3::N0))^.ret (.tup (.ix (.con "WORDS" wK) (.idx V3 V4)::V4::N0))^K0
def aAG:Sx:=.ifs (.cmp .Eq (.ix V0 J0) (.str "in")) (.ret (.tup (.str "cut"::.ix V0 J1::N0))^K0) .skip^.ifs (.cmp .Eq V2 J0) (.ret .non^K0) .skip^.ret (.call 51 (V1::V2::.ix V0 J1::N0))^K0
def aGz:E:=.comp (.call 52 (V3::V4::V5::N0)) (.many [3,4,5]) (.zip3 (.ix V0 J0) V1 V2) .no
def aGM:Sx:=.ret (.blt .tup (.fz aGz::N0))^K0
def aKu:Sx:=.ret (.cmp .Eq (.bin .BitAnd V0 (.un .Invert V1)) J0)^K0
def vT:Sx:=.set 2 (.bin .BitAnd (.ix V0 J1) V1)^.ifs (.or (.cmp .Eq V2 J0) (.or (.cmp .NotEq (.bin .BitAnd V2 (.bin .Sub V2 J1)) J0) (.not (.call 54 (V1::.call 22 (V0::N0)::N0))))) (.ret .non^K0) .skip^.ret (.bin .Sub (.call 1 (V2::N0)) J1)^K0
def qL:Sx:=.set 4 (.ix V0 J0)^.ifs (.call 54 (V2::.call 22 (V1::N0)::N0)) (.ret (.ix V1 J1)^K0) .skip^.ifs (.and (.cmp .In V4 (.tup (.str "xor"::.str "sub"::.str "less"::.str "under"::N0))) (.cmp .Eq (.ix V3 J0) (.ix V3 J1))) (.ret J0^K0) .skip^.ifs (.and (.cmp .Eq V4 (.str "same")) (.cmp .Eq (.ix V3 J0) (.ix V3 J1))) (.ret J1^K0) .skip^.ret .non^K0
def sK:Sx:=.ifs (.cmp .Eq V0 (.str "and")) (.ret (.call 54 (V2::.ix V1 J1::N0))^K0) .skip^.ifs (.cmp .In V0 (.tup (.str "or"::.str "xor"::N0))) (.ret (.call 54 (V2::.ix V1 J0::N0))^K0) .skip^.ifs (.cmp .In V0 (.tup (.str "add"::.str "sub"::N0))) (.ret (.call 54 (.call 2 (V2::N0)::.ix V1 J0::N0))^K0) .skip^.ret (.and (.cmp .Eq V0 (.str "mul")) (.cmp .Eq (.call 55 (V1::.call 2 (V2::N0)::N0)) J0))^K0
def vQ:Sx:=.ifs (.or (.cmp .Eq (.ix V1 J1) (.ix V1 J2)) (.cmp .Eq (.ix V0 J1) J1)) (.ret J1^K0) .skip^.ret (.ite (.cmp .Eq (.ix V0 J0) J1) J2 .non)^K0
def iA:Sx:=.set 5 (.ix V0 J0)^.ifs (.and (.cmp .In V5 (.tup (.str "and"::.str "or"::N0))) (.cmp .Eq (.ix V4 J0) (.ix V4 J1))) (.ret J0^K0) .skip^.ifs (.cmp .Eq V5 (.str "pick")) (.ret (.call 58 (.ix V3 J0::V4::N0))^K0) .skip^.ifs (.cmp .In V5 (.con "SHIFTS" oW)) (.ret (.ite (.cmp .Eq (.ix V0 J3) J0) J0 .non)^K0) .skip^.ifs (.cmp .In V5 (.tup (.str "cut"::.str "wide"::.str "sign"::N0))) (.ret (.ite (.cmp .Eq (.ix V2 J0) (.ix V0 J1)) J0 .non)^K0) .skip^.ifs (.and (.cmp .Eq (.blt .len (V4::N0)) J2) (.call 57 (V5::.ix V3 J1::V1::N0))) (.ret J0^K0) .skip^.ifs (.and (.cmp .In V5 (.con "EXCHANGEABLE" aCI)) (.call 57 (V5::.ix V3 J0::V1::N0))) (.ret J1^K0) .skip^.ret .non^K0
def aCF:E:=.it (.tup (.tup (J0::J1::N0)::.tup (J1::J0::N0)::N0))
def vN:Sx:=.set 6 (.call 55 (.ix V2 V5::V1::N0))^.ifs (.cmp .IsNot V6 .non) (.ret (.tup (.str "left"::.ix V0 J1::.ix V3 V4::V6::N0))^K0) .skip^K0
def qK:Sx:=.loop (.many [4,5]) aCF vN^.ret .non^K0
def qM:Sx:=.set 4 (.call 2 (V1::N0))^.ifs (.cmp .Eq (.ix V0 J0) (.str "mul")) (.ret (.call 60 (V0::V4::V2::V3::N0))^K0) .skip^.ifs (.and (.cmp .Eq (.ix V0 J0) (.str "add")) (.call 54 (V4::.bin .BitOr (.ix (.ix V2 J0) J0) (.ix (.ix V2 J1) J0)::N0))) (.ret (.bin .Add (.tup (.str "or"::.ix V0 J1::N0)) V3)^K0) .skip^.ifs (.and (.cmp .Eq (.ix V0 J0) (.str "sub")) (.call 54 (V4::.bin .BitOr (.ix (.ix V2 J1) J0) (.ix (.ix V2 J0) J1)::N0))) (.ret (.bin .Add (.tup (.str "xor"::.ix V0 J1::N0)) V3)^K0) .skip^.ret .non^K0
def pG:Sx:=.ifs (.cmp .Eq (.ix V0 J0) (.str "in")) (.ret (.tup (.str "kept"::V0::.non::N0))^K0) .skip^.ifs (.cmp .Eq V2 J0) (.ret (.tup (.str "gone"::.non::.non::N0))^K0) .skip^.ifs (.cmp .Eq (.ix V0 J0) (.str "num")) (.ret (.tup (.str "kept"::V0::.non::N0))^K0) .skip^.set 6 (.call 56 (V0::V1::V2::V5::N0))^.ifs (.cmp .IsNot V6 .non) (.ret (.tup (.str "known"::.tup (.str "num"::.ix V0 J1::V6::N0)::.non::N0))^K0) .skip^.set 7 (.call 59 (V0::V2::V3::V4::V5::N0))^.ifs (.cmp .IsNot V7 .non) (.ret (.tup (.str "passed"::.non::.ix V5 V7::N0))^K0) .skip^.set 8 (.call 61 (V0::V2::V4::V5::N0))^.ifs (.cmp .IsNot V8 .non) (.ret (.tup (.str "cheaper"::V8::.non::N0))^K0) .skip^.ret (.tup (.str "kept"::.call 8 (V0::V5::N0)::.non::N0))^K0
def aAx:E:=.comp (.ix V5 (.var 15)) (.one 15) (.it (.ix V0 J1)) .no
def aAt:E:=.zip3 (.ix V0 J0) V1 V2
def sS:Sx:=.set 11 (.tup (.call 9 (V8::V3::N0)::.call 9 (V8::V1::N0)::.call 9 (V8::V5::N0)::N0))^.setT (.many [12,13,14]) (.call 62 (V8::V9::.var 10::.ix (.var 11) J0::.ix (.var 11) J1::.ix (.var 11) J2::N0))^.ifs (.cmp .IsNot (.var 13) .non) (.set 14 (.blt .len (V4::N0))^.expr (.app V4 (.var 13))^K0) .skip^.expr (.app V5 (.var 14))^.expr (.app V6 (.var 12))^K0
def aKe:Sx:=.set 1 (.call 48 (V0::N0))^.set 2 (.call 20 (V0::V1::N0))^.set 3 (.call 11 (V0::N0))^.set 4 (.new (.lst .nil))^.set 5 (.new (.lst .nil))^.set 6 (.new (.lst .nil))^.loop (.many [8,9,10]) aAt sS^.set 7 (.blt .tup (.fz aAx::N0))^.ret (.tup (.tup (.blt .tup (V4::N0)::V7::N0)::.blt .tup (V6::N0)::N0))^K0
def aYJ:Sx:=.expr (.app (.fld V0 "rows") V1)^.ret (.bin .Sub (.blt .len (.fld V0 "rows"::N0)) J1)^K0
def aPj:Sx:=.ifs (.din true V1 (.fld V0 "once")) (.dput (.fld V0 "once") V1 (.mth "make" 64 V0 (V1::N0))^K0) .skip^.ret (.dget (.fld V0 "once") V1)^K0
def aLy:Sx:=.set 3 (.ix (.fld V0 "stays") V1)^.ifs (.cmp .Is V3 .non) (.ret (.mth "make_once" 65 V0 (.tpl (.str "num"::V2::J0::N0)::N0))^K0) .skip^.setT (.many [4,5]) V3^.ifs (.cmp .Eq V5 V2) (.ret (.ix (.fld V0 "places") V1)^K0) .skip^.ifs (.cmp .Gt V5 V2) (.ret (.mth "make_once" 65 V0 (.tpl (.str "cut"::V2::.ix (.fld V0 "places") V1::N0)::N0))^K0) .skip^.ret (.mth "make_once" 65 V0 (.tpl (.ite (.cmp .Eq V4 (.str "sign")) (.str "sign") (.str "wide")::V2::.ix (.fld V0 "places") V1::N0)::N0))^K0
def aO8:Sx:=.set 3 (.blt .mn (.ix V1 J1::.bin .Add V2 (.ix V1 J3)::N0))^.set 4 (.mth "fetch" 66 V0 (.ix V1 J2::V3::N0))^.set 5 (.mth "make" 64 V0 (.tup (.ix V1 J0::V3::V4::.ix V1 J3::N0)::N0))^.ifs (.cmp .Gt V3 V2) (.ret (.mth "make_once" 65 V0 (.tpl (.str "cut"::V2::V5::N0)::N0))^K0) .skip^.ret V5^K0
def aOo:Sx:=.set 3 (.call 10 (.fld V0 "program"::.ix V1 J2::N0))^.ifs (.cmp .LtE V2 V3) (.ret (.mth "fetch" 66 V0 (.ix V1 J2::V2::N0))^K0) .skip^.ret (.mth "make_once" 65 V0 (.tpl (.ix V1 J0::V2::.mth "fetch" 66 V0 (.ix V1 J2::V3::N0)::N0)::N0))^K0
def aGD:Sx:=.set 4 (.blt .mx (.ix V1 J1::.ix V2 J1::N0))^.set 5 (.cou false (.ix V1 J0::.ix V2 J0::N0) (.str "sign"))^.ifs (.cmp .Eq V5 J1) (.ret V3^K0) .skip^.ifs (.and (.cmp .Eq V5 J0) (.cmp .Eq V0 (.str "under"))) (.ret (.blt .mn (V3::.bin .Add V4 J1::N0))^K0) .skip^.ret V4^K0
def aGt:E:=.comp (.mth "fetch" 66 V0 (V7::V3::N0)) (.one 7) (.it (.tup (V5::V6::N0))) .no
def aOu:Sx:=.setT (.many [5,6]) (.call 7 (V1::N0))^.set 2 (.call 10 (.fld V0 "program"::V5::N0))^.set 3 (.call 69 (.ix V1 J0::.ix (.fld V0 "stays") V5::.ix (.fld V0 "stays") V6::V2::N0))^.set 4 (.blt .tup (.fz aGt::N0))^.ret (.mth "make" 64 V0 (.bin .Add (.tup (.ix V1 J0::J1::N0)) V4::N0))^K0
def aGH:E:=.comp (.mth "fetch" 66 V0 (V4::V2::N0)) (.one 4) (.it (.call 7 (V1::N0))) .no
def aPI:Sx:=.setC false 3 aGH^.ret (.mth "make" 64 V0 (.call 8 (.bin .Add (.tup (.ix V1 J0::V2::N0)) (.sl V1 (J2::N0) .no)::.blt .tup (V3::N0)::N0)::N0))^K0
def aOq:E:=.comp (.mth "fetch" 66 V0 (V5::V2::N0)) (.one 5) (.it (.sl V1 (J3::N0) .no)) .no
def aPp:Sx:=.set 3 (.mth "fetch" 66 V0 (.ix V1 J2::J1::N0))^.set 4 (.blt .tup (.fz aOq::N0))^.ret (.mth "make" 64 V0 (.bin .Add (.tup (.str "pick"::V2::V3::N0)) V4::N0))^K0
def oV:Sx:=.set 3 (.ix V1 J0)^.ifs (.cmp .Eq V3 (.str "in")) (.ret (.mth "make" 64 V0 (V1::N0))^K0) .skip^.ifs (.cmp .Eq V3 (.str "num")) (.ret (.mth "make" 64 V0 (.tup (.str "num"::V2::.bin .BitAnd (.ix V1 J2) (.call 0 (V2::N0))::N0)::N0))^K0) .skip^.ifs (.cmp .In V3 (.tup (.str "right"::.str "slide"::N0))) (.ret (.call 67 (V0::V1::V2::N0))^K0) .skip^.ifs (.cmp .Eq V3 (.str "cut")) (.ret (.mth "fetch" 66 V0 (.ix V1 J2::V2::N0))^K0) .skip^.ifs (.cmp .In V3 (.con "WIDENINGS" aCP)) (.ret (.call 68 (V0::V1::V2::N0))^K0) .skip^.ifs (.cmp .In V3 (.con "COMPARES" mY)) (.ret (.call 70 (V0::V1::N0))^K0) .skip^.ifs (.cmp .Eq V3 (.str "pick")) (.ret (.call 72 (V0::V1::V2::N0))^K0) .skip^.ret (.call 71 (V0::V1::V2::N0))^K0
def aG8:E:=.comp (.mth "fetch" 66 V4 (V9::.call 10 (V0::V9::N0)::N0)) (.one 9) (.it (.ix V0 J1)) .no
def aCN:E:=.zip (.ix V0 J0) V3
def vR:Sx:=.set 8 (.ite (.cmp .Is V7 .non) .non (.call 73 (V4::V6::.ix V7 J1::N0)))^.expr (.app (.fld V4 "places") V8)^K0
def aIl:Sx:=.set 4 (.mk cl_ini 3 (V0::V3::N0))^.loop (.many [6,7]) aCN vR^.set 5 (.blt .tup (.fz aG8::N0))^.ret (.tup (.blt .tup (.fld V4 "rows"::N0)::V5::N0))^K0
def aHr:Sx:=.set 1 (.call 48 (V0::N0))^.set 2 (.call 20 (V0::V1::N0))^.set 3 (.call 53 (V0::V1::V2::N0))^.ret (.tup (.call 74 (V0::V1::V2::V3::N0)::V3::N0))^K0
def aYB:Sx:=.ret (.ix (.call 75 (.ix (.call 63 (V0::N0)) J0::N0)) J0)^K0
def sR:Sx:=.set 2 (.ix V0 J0)^.set 3 (.ix V0 J1)^.ifs (.cmp .In V2 (.tup (.str "not"::.str "and"::.str "or"::.str "xor"::.str "pick"::N0))) (.ret V3^K0) .skip^.ifs (.cmp .In V2 (.con "COMPARES" mY)) (.ret (.ix V1 (.ix V0 J2))^K0) .skip^.ifs (.cmp .In V2 (.tup (.str "add"::.str "sub"::N0))) (.ret (.bin .Mult J2 V3)^K0) .skip^.ifs (.cmp .Eq V2 (.str "mul")) (.ret (.bin .Mult V3 V3)^K0) .skip^.ret J0^K0
def aHC:E:=.comp (.call 77 (V2::V1::N0)) (.one 2) (.it (.ix V0 J0)) .no
def aVi:Sx:=.set 1 (.call 11 (V0::N0))^.ret (.blt .sum (.fz aHC::N0))^K0
def aSH:Sx:=.ret (.bin .BitXor V0 (.bin .LShift J1 (.bin .Sub V1 J1)))^K0
def aQO:Sx:=.ifs (.cmp .Eq V0 (.str "same")) (.set 4 (.cmp .Eq V2 V3)^K0) (.ifs (.cmp .Eq V0 (.str "less")) (.set 4 (.cmp .Lt V2 V3)^K0) (.set 4 (.cmp .Lt (.call 79 (V2::V1::N0)) (.call 79 (V3::V1::N0)))^K0)^K0)^.ret (.ite V4 J1 J0)^K0
def aRN:Sx:=.ifs (.cmp .Eq V0 (.str "left")) (.ret (.bin .BitAnd (.bin .LShift V2 V3) (.call 0 (V1::N0)))^K0) .skip^.ifs (.cmp .Eq V0 (.str "right")) (.ret (.bin .RShift V2 V3)^K0) .skip^.ret (.bin .RShift (.call 5 (V2::V1::.bin .Add V1 V3::N0)) V3)^K0
def aQN:Sx:=.ifs (.cmp .Eq V0 (.str "and")) (.ret (.bin .BitAnd V2 V3)^K0) .skip^.ifs (.cmp .Eq V0 (.str "or")) (.ret (.bin .BitOr V2 V3)^K0) .skip^.ifs (.cmp .Eq V0 (.str "xor")) (.ret (.bin .BitXor V2 V3)^K0) .skip^.ifs (.cmp .Eq V0 (.str "add")) (.ret (.bin .BitAnd (.bin .Add V2 V3) (.call 0 (V1::N0)))^K0) .skip^.ifs (.cmp .Eq V0 (.str "sub")) (.ret (.bin .BitAnd (.bin .Sub V2 V3) (.call 0 (V1::N0)))^K0) .skip^.ret (.bin .BitAnd (.bin .Mult V2 V3) (.call 0 (V1::N0)))^K0
def aEP:Sx:=.set 3 (.ix V0 J0)^.set 4 (.ix V0 J1)^.ifs (.cmp .Eq V3 (.str "num")) (.ret (.ix V0 J2)^K0) .skip^.ifs (.cmp .Eq V3 (.str "not")) (.ret (.bin .BitXor (.ix V2 J0) (.call 0 (V4::N0)))^K0) .skip^.ifs (.cmp .In V3 (.con "SHIFTS" oW)) (.ret (.call 81 (V3::V4::.ix V2 J0::.ix V0 J3::N0))^K0) .skip^.ifs (.cmp .Eq V3 (.str "cut")) (.ret (.bin .BitAnd (.ix V2 J0) (.call 0 (V4::N0)))^K0) .skip^.ifs (.cmp .Eq V3 (.str "wide")) (.ret (.ix V2 J0)^K0) .skip^.ifs (.cmp .Eq V3 (.str "sign")) (.ret (.call 5 (.ix V2 J0::.ix V1 J0::V4::N0))^K0) .skip^.ifs (.cmp .In V3 (.con "COMPARES" mY)) (.ret (.call 80 (V3::.ix V1 J0::.ix V2 J0::.ix V2 J1::N0))^K0) .skip^.ifs (.cmp .Eq V3 (.str "pick")) (.ret (.ite (.cmp .Eq (.ix V2 J0) J1) (.ix V2 J1) (.ix V2 J2))^K0) .skip^.ret (.call 82 (V3::V4::.ix V2 J0::.ix V2 J1::N0))^K0
def aHd:E:=.zip (.ix V0 J0) V2
def aHe:Sx:=.ifs (.cmp .Eq (.ix V6 J0) (.str "in")) (.set 8 (.ix V1 V5)^.set 5 (.bin .Add V5 J1)^K0) (.set 8 (.call 83 (V6::.call 9 (V6::V3::N0)::.call 9 (V6::V4::N0)::N0))^K0)^.expr (.app V4 (.bin .BitXor V8 V7))^K0
def aTH:Sx:=.set 3 (.call 11 (V0::N0))^.set 4 (.new (.lst .nil))^.set 5 J0^.loop (.many [6,7]) aHd aHe^.ret (.blt .tup (V4::N0))^K0
def aZQ:Sx:=.ret (.call 84 (V0::V1::.bin .Mult (.tup (J0::N0)) (.blt .len (.ix V0 J0::N0))::N0))^K0
def aGT:E:=.comp (.ix V1 V2) (.one 2) (.it (.ix V0 J1)) .no
def aIL:Sx:=.ret (.blt .tup (.fz aGT::N0))^K0
def aYN:Sx:=.ret (.call 86 (V0::.call 85 (V0::V1::N0)::N0))^K0
def sQ:Sx:=.setT (.many [3,4]) (.sl V0 .no (J2::N0))^.put V0 J1 (.bin .Add V4 J1)^.ifs (.and (.cmp .Lt (.bin .Add (.bin .FloorDiv V4 (.int 12)) J1) (.blt .len (V3::N0))) (.cmp .Eq (.bin .Mod (.ix V3 J0) J2) J1)) (.ifs (.cmp .Eq (.bin .Mod V4 (.int 12)) J0) (.put V0 J2 (.ix V3 (.bin .Add (.bin .FloorDiv V4 (.int 12)) J1))^K0) .skip^.set 5 (.bin .Mod (.ix V0 J2) V1)^.put V0 J2 (.bin .FloorDiv (.ix V0 J2) V1)^.ret V5^K0) .skip^.ifs (.cmp .Lt V4 (.blt .len (V3::N0))) (.ret (.bin .Mod (.ix V3 V4) V1)^K0) .skip^.set 2 (.bin .Add (.bin .Mult V4 (.int 7919)) J5)^.ifs (.cmp .Gt (.blt .len (.ix V0 J0::N0)) J0) (.set 2 (.bin .Add V2 (.bin .Mult (.ix (.ix V0 J0) (.bin .Mod (.bin .Mult V4 J7) (.blt .len (.ix V0 J0::N0)))) (.bin .Add (.int 48271) V4)))^K0) .skip^.set 2 (.bin .Mod (.bin .Mult (.bin .Mod V2 (.int 2147483629)) (.bin .Add V4 J3)) (.int 2147483629))^.set 2 (.bin .Mod (.bin .Mult V2 V2) (.int 2147483587))^.ret (.bin .Mod (.bin .Mod (.bin .Mult V2 V2) (.int 1999999973)) V1)^K0
def aOK:Sx:=.ifs (.cmp .Lt V1 (.int 31)) (.ret (.call 88 (V0::.bin .LShift J1 V1::N0))^K0) .skip^.ret (.bin .Add (.call 88 (V0::.bin .LShift J1 (.int 30)::N0)) (.bin .LShift (.call 88 (V0::.bin .LShift J1 (.bin .Sub V1 (.int 30))::N0)) (.int 30)))^K0
def aCY:Sx:=.set 2 (.call 88 (V0::J5::N0))^.set 3 (.fz (.lst (J0::.bin .Sub (.bin .LShift J1 V1) J1::.bin .LShift J1 (.call 88 (V0::V1::N0))::.bin .Sub (.bin .LShift J1 (.call 88 (V0::V1::N0))) J1::N0)))^.ifs (.cmp .Lt V2 J4) (.ret (.ix V3 V2)^K0) .skip^.ret (.call 89 (V0::V1::N0))^K0
def aGF:E:=.rng1 (.bin .Sub V1 J1)
def aGG:Sx:=.expr (.app V6 (.tup (V0::V3::.ix (.fz (.lst (V7::.bin .Add (.bin .Add V1 J1) V8::N0))) (.bin .Mod V8 J2)::.ix (.fz (.lst (.bin .Add (.bin .Add V1 J1) V8::V7::N0))) (.bin .Mod V8 J2)::N0)))^.set 7 (.bin .Sub (.blt .len (V6::N0)) J1)^K0
def aCH:E:=.comp (.tup (.str "in"::V2::N0)) (.one 8) (.rng1 V1) .no
def aCG:E:=.comp (.tup (.str "wide"::V3::V8::N0)) (.one 8) (.rng1 V1) .no
def aOR:Sx:=.set 6 (.new (.lcat (.fz aCH) (.fz aCG)))^.set 7 V1^.loop (.one 8) aGF aGG^.expr (.app V6 (.tup (.str "cut"::V4::V7::N0)))^.set 9 (.sl (.fz (.lst (.tup (.str "num"::V3::J1::N0)::.tup (.str "in"::J1::N0)::.tup (.str "not"::V2::J0::N0)::.tup (.str "sub"::V2::J0::J0::N0)::N0))) .no (V5::N0))^.ret (.tup (.blt .tup (.bin .Add V6 V9::N0)::.tup (.bin .Sub (.blt .len (V6::N0)) J1::N0)::N0))^K0
def aOL:Sx:=.ifs (.cmp .Eq V0 (.str "add")) (.ret (.bin .Add V1 V2)^K0) .skip^.ret (.bin .Mult V1 V2)^K0
def aGw:E:=.and (.cmp .Lt V6 V3) (.cmp .GtE V8 (.bin .LShift J1 V6))
def aGu:Sx:=.set 6 (.bin .Add V6 J1)^K0
def aGy:E:=.rng1 (.bin .Sub V1 J1)
def aGx:Sx:=.set 8 (.call 92 (V0::.bin .Sub (.bin .LShift J1 V6) J1::.bin .Sub (.bin .LShift J1 V2) J1::N0))^.set 6 J1^.wh 100000 aGw aGu^.expr (.app V5 (.blt .mn (V4::V6::N0)))^K0
def aOF:Sx:=.set 5 (.new (.lst .nil))^.set 6 V2^.loop (.one 7) aGy aGx^.ret V5^K0
def aGB:E:=.comp (.bin .Mult V2 V2) (.one 2) (.it V1) .no
def aGC:E:=.comp (.bin .Mult J2 V2) (.one 2) (.it V1) .no
def aPa:Sx:=.ifs (.cmp .Eq V0 (.str "add")) (.ret (.blt .sum (.fz aGC::N0))^K0) .skip^.ret (.blt .sum (.fz aGB::N0))^K0
def aDA:E:=.it (.sl (.var 12) (J1::N0) .no)
def aDW:Sx:=.set 14 (.call 92 (V2::.var 14::.var 15::N0))^K0
def aI1:E:=.comp (.call 90 (V1::V4::N0)) (.one 17) (.rng1 V3) .no
def aJJ:E:=.rng1 (.bin .Add J1 (.blt .mn (J7::.bin .FloorDiv (.blt .len (V0::N0)) J8::N0)))
def aJQ:Sx:=.set 12 (.blt .tup (.fz aI1::N0))^.set 13 (.bin .Mult (.tup (J1::N0)) (.blt .int (.cmp .Eq V7 J4::N0)))^.set 14 (.ix (.var 12) J0)^.loop (.one 15) aDA aDW^.set 14 (.bin .Mod (.var 14) (.bin .LShift J1 V6))^.ifs (.or (.cmp .NotEq (.call 87 (V8::.bin .Add (.var 12) (.var 13)::N0)) (.tup (.var 14::N0))) (.cmp .NotEq (.call 87 (.var 10::.bin .Add (.var 12) (.var 13)::N0)) (.tup (.var 14::N0)))) (.ret (.bl false)^K0) .skip^K0
def aJF:E:=.comp (.ix (.var 16) J1) (.one 16) (.it (.ix (.var 10) J0)) (.cmp .Eq (.ix (.var 16) J0) V2)
def bAg:Sx:=.set 1 (.new (.lst (V0::J0::J0::N0)))^.set 2 (.ix (.fz (.lst (.str "add"::.str "mul"::N0))) (.call 88 (V1::J2::N0)))^.set 3 (.bin .Add J1 (.call 88 (V1::.int 13::N0)))^.set 4 (.ix (.fz (.lst (.bin .Add J1 (.call 88 (V1::.int 64::N0))::.bin .Add J1 (.call 88 (V1::J8::N0))::N0))) (.blt .mn (J1::.call 88 (V1::J3::N0)::N0)))^.set 5 (.bin .Add V4 (.call 88 (V1::.bin .Sub (.int 65) V4::N0)))^.set 6 (.bin .Add J1 (.call 88 (V1::V5::N0)))^.set 7 (.blt .mn (.ix (.fz (.lst (J0::J0::J1::J4::N0))) (.call 88 (V1::J4::N0))::.bin .Sub (.int 40) (.bin .Mult J3 V3)::N0))^.set 8 (.call 91 (V2::V3::V4::V5::V6::V7::N0))^.set 9 (.call 93 (V2::V3::V4::V5::V6::N0))^.set 10 (.call 76 (V8::N0))^.ifs (.or (.cmp .NotEq (.fz aJF) V9) (.cmp .NotEq (.call 78 (.var 10::N0)) (.call 94 (V2::V9::N0)))) (.ret (.bl false)^K0) .skip^.ifs (.cmp .Gt (.call 78 (.var 10::N0)) (.call 78 (V8::N0))) (.ret (.bl false)^K0) .skip^.loop (.one 11) aJJ aJQ^.ret (.bl true)^K0
end
abbrev Fq(a:Str)(b:Nat)(c:List Str)(d:Sx)(e:Stmt):Fn:=(a,b,c,d,e,false,a,)
def fns:List Fn:=[
 Fq "full" 1 ["width"] aMh (top 1),
 Fq "reach" 1 ["number"] aLw (top 2),
 Fq "below" 1 ["number"] aLc (top 3),
 Fq "low_run" 1 ["number"] aIf (top 4),
 Fq "top_run" 2 ["number","width"] aII (top 5),
 Fq "stretched" 3 ["number","width","wider","top"] aPl (top 6),
 Fq "shared_top" 3 ["least","greatest","width","known","ones"] aG6 (top 7),
 Fq "operands" 1 ["row"] aQp (top 14),
 Fq "with_operands" 2 ["row","numbers"] aCJ (top 15),
 Fq "of_operands" 2 ["row","values","k"] aGO (top 16),
 Fq "width_of" 2 ["program","k","rows"] aHu (top 17),
 Fq "widths_of" 1 ["program","row"] aHb (top 18),
 Fq "settled_need" 3 ["first","second","mask"] aGJ (top 20),
 Fq "mul_need" 3 ["first","second","mask","h","u","g"] aH2 (top 21),
 Fq "folded" 2 ["mask","width"] aDv (top 22),
 Fq "shift_need" 4 ["word","width","k","mask"] aAq (top 23),
 Fq "pick_need" 2 ["choice","mask"] aAy (top 24),
 Fq "asking_need" 4 ["row","widths","facts","mask","word"] aGN (top 25),
 Fq "need" 4 ["row","widths","facts","mask"] aEQ (top 26),
 Fq "row_needs" 4 ["program","facts","k","mask","row","widths","needs","operand"] aPf (top 28),
 Fq "asked" 2 ["program","facts","masks","out","k","rows","outs","operand","mask"] aWB (top 29),
 Fq "top_mask" 2 ["count","width"] aHK (top 31),
 Fq "known_bits" 1 ["fact"] aG1 (top 32),
 Fq "closed" 2 ["fact","width","top","noughts","ones","alike"] wL (top 33),
 Fq "least" 1 ["fact"] aLl (top 34),
 Fq "greatest" 2 ["fact","width"] aHJ (top 35),
 Fq "outcome" 3 ["word","one","other"] aRx (top 37),
 Fq "low_masks" 3 ["word","one","other","low","ones"] aHf (top 38),
 Fq "low_noughts" 4 ["word","width","one","other"] aAm (top 39),
 Fq "bounds" 4 ["word","width","one","other","lowest","highest"] aAZ (top 40),
 Fq "top_masks" 4 ["word","width","one","other","lowest","highest"] aAu (top 41),
 Fq "sum_alike" 3 ["word","one","other"] aAw (top 42),
 Fq "sum_fact" 4 ["word","width","one","other","low","top","noughts"] aHx (top 43),
 Fq "num_fact" 2 ["width","number"] aHA (top 48),
 Fq "unlike_bits" 2 ["one","other"] aOA (top 49),
 Fq "bitwise_fact" 3 ["word","one","other","alike","noughts"] aOw (top 50),
 Fq "left_fact" 3 ["width","fact","k","noughts"] aPu (top 51),
 Fq "right_fact" 3 ["width","fact","k","noughts"] aOS (top 52),
 Fq "slide_fact" 3 ["width","fact","k","wider"] aO5 (top 53),
 Fq "shift_fact" 4 ["word","width","fact","k"] aON (top 54),
 Fq "fit_fact" 4 ["word","v","w","fact","noughts","ones","alike"] aAH (top 55),
 Fq "same_fact" 3 ["width","one","other"] aPh (top 56),
 Fq "less_fact" 3 ["width","one","other"] aPG (top 57),
 Fq "top_turned" 2 ["fact","width","turning","noughts","ones","alike"] aO3 (top 58),
 Fq "compare_fact" 4 ["word","width","one","other"] aOs (top 59),
 Fq "pick_fact" 3 ["choice","one","other"] aPB (top 60),
 Fq "open_fact" 3 ["row","widths","facts","word","width"] aPe (top 61),
 Fq "rule" 3 ["row","widths","facts"] aL0 (top 62),
 Fq "facts_of" 1 ["program","widths","facts","row"] aHX (top 63),
 Fq "lets_by" 4 ["stay","fact","mask","width","above","word","kept"] aDp (top 66),
 Fq "least_width" 4 ["word","fact","mask","width","kept"] aOJ (top 67),
 Fq "least_stay" 3 ["fact","mask","width","widths","kept","word"] sO (top 68),
 Fq "row_stay" 3 ["row","fact","mask"] aAG (top 69),
 Fq "least_stays" 3 ["program","facts","masks","row","fact","mask"] aGM (top 70),
 Fq "among" 2 ["mask","other"] aKu (top 73),
 Fq "single_bit" 2 ["fact","mask","ones"] vT (top 74),
 Fq "known_number" 4 ["row","fact","mask","places","word"] qL (top 75),
 Fq "changes_nothing" 3 ["word","fact","mask"] sK (top 76),
 Fq "passed_side" 2 ["choice","places"] vQ (top 77),
 Fq "passed_operand" 5 ["row","mask","widths","facts","places","word"] iA (top 78),
 Fq "product_by_shift" 4 ["row","low","facts","places","one","other","k"] qK (top 79),
 Fq "cheaper_row" 4 ["row","mask","facts","places","low"] qM (top 80),
 Fq "trade" 6 ["row","fact","mask","widths","facts","places","number","operand","cheaper"] pG (top 81),
 Fq "traded" 1 ["program","facts","masks","widths","rows","places","words","outs","row","fact","mask","about","word","made","place","out"] aKe (top 82),
 {name:="make",np:=2,N:=["self","row"],body:=aYJ,st:=aBP (top 84) 1,me:=true,qual:="Maker.make" },
 {name:="make_once",np:=2,N:=["self","row"],body:=aPj,st:=aBP (top 84) 2,me:=true,qual:="Maker.make_once" },
 {name:="fetch",np:=3,N:=["self","k","width","stay","word","kept"],body:=aLy,st:=aBP (top 84) 3,me:=true,qual:="Maker.fetch" },
 Fq "make_shift" 3 ["maker","row","width","wider","fetched","made"] aO8 (top 85),
 Fq "make_widening" 3 ["maker","row","width","old"] aOo (top 86),
 Fq "compare_width" 4 ["word","one","other","old","greater","signs"] aGD (top 87),
 Fq "make_compare" 2 ["maker","row","old","width","fetched","one","other","k"] aOu (top 88),
 Fq "make_work" 3 ["maker","row","width","fetched","k"] aPI (top 89),
 Fq "make_pick" 3 ["maker","row","width","choice","sides","k"] aPp (top 90),
 Fq "make_row" 3 ["maker","row","width","word"] oV (top 91),
 Fq "made_by" 4 ["program","facts","masks","stays","maker","outs","row","stay","place","out"] aIl (top 92),
 Fq "narrowed" 1 ["program","facts","masks","found"] aHr (top 93),
 Fq "lean" 1 ["program"] aYB (top 94),
 Fq "row_price" 2 ["row","widths","word","width"] sR (top 96),
 Fq "price" 1 ["program","widths","row"] aVi (top 97),
 Fq "lifted" 2 ["number","width"] aSH (top 99),
 Fq "compared" 4 ["word","width","one","other","found"] aQO (top 100),
 Fq "shifted" 4 ["word","width","number","k"] aRN (top 101),
 Fq "combined" 4 ["word","width","one","other"] aQN (top 102),
 Fq "work" 3 ["row","widths","numbers","word","width"] aEP (top 103),
 Fq "turned" 3 ["program","inputs","masks","widths","numbers","taken","row","mask","number"] aTH (top 105),
 Fq "run" 2 ["program","inputs"] aZQ (top 106),
 Fq "of_outs" 2 ["program","numbers","out"] aIL (top 107),
 Fq "told" 2 ["program","inputs"] aYN (top 108),
 Fq "_law_draw" 2 ["_law_state","_law_many","_law_cell","_law_script","_law_k","_law_digit"] sQ (top 110),
 Fq "_law_number" 2 ["_law_state","_law_width_here"] aOK (top 111),
 Fq "_law_num" 2 ["_law_state","_law_width_here","_law_sort","_law_some"] aCY (top 113),
 Fq "_law_chain" 6 ["_law_word","_law_many","_law_u","_law_top","_law_t","_law_idle","_law_rows","_law_last","_law_k","_law_some"] aOR (top 114),
 Fq "_law_joined" 3 ["_law_word","_law_one","_law_other"] aOL (top 115),
 Fq "_law_widths" 5 ["_law_word","_law_many","_law_u","_law_top","_law_t","_law_found","_law_wide","_law_k","_law_most"] aOF (top 116),
 Fq "_law_price" 2 ["_law_word","_law_widths_here","_law_width_here"] aPa (top 117),
 Fq "law" 1 ["_law_script","_law_state","_law_word","_law_many","_law_u","_law_top","_law_t","_law_idle","_law_program","_law_widths_here","_law_made","_law_turn","_law_inputs","_law_more","_law_due","_law_number_here","_law_row","_law_k"] bAg (top 118)]
variable {C:Calls}
def bF{cK:Sx}(h:tv C c env S=qz (false,S1))(k:xs C cK env S1=r):xs C (.seq (.ifs c t .skip) cK) env S=r:=by rw[<- k];simp only[lY,tN,aJx,iC,oN,uB,h,oB,yBa,if_false]
def cF{cK:Sx}(h:tv C c env S=qz (true,S1))(k:xs C t env S1=qz (.rt w,S2)):xs C (.seq (.ifs c t e) cK) env S=qz (.rt w,S2):=by simp only[lY,tN,iC,oN,h,oB,if_true,k]
def bH{cK:Sx}(h:ev C e env S=qz (w,S1)):xs C (.seq (.ret e) cK) env S=qz (.rt w,S1):=by simp only[lY,aEe,iC,pV,h,oB]
def bQ{i:Nat}{e:E}{cK:Sx}{env bD:bB}{S S1:aD}{w:W}{r:Option (Fl×aD)}(h:ev C e env S=qz (w,S1))(he:env.set i (qz w)=bD)(k:xs C cK bD S1=r):xs C (.seq (.set i e) cK) env S=r:=by subst he;rw[<- k];simp only[lY,aEF,iC,kU,h,oB]
def gJ(h:fs[f]?=qz F)(d:Nat){ws:List W}{S S1:aD}(hw:↑ws=F.np)(he:ws.map qz++yAf (↑F.N-↑ws) qx=env)(hS:S1.take ↑S=S1)(k:xs (aF fs d) F.body env S=qz (.rt (.d x),S1)):cl fs (d+1) f ws S=qz (.d x,S1):=by subst he;rw[bX h d ws S hw];simp only[gW,k,oB,pR,hS]
def fP{C:Calls}(h:env[i]?=qz (qz (.d a)))(hc:aP .Eq a (.str x)=qz (.bool b)):tv C (.cmp .Eq (.var i) (.str x)) env S=qz (b,S):=by erw[0,h,hc]
def rF(h:env[i]?=qz (qz (.d a)))(he:ev C e env S=qz (.d t,S))(hc:aP .In a t=qz (.bool b)):tv C (.cmp .In (.var i) e) env S=qz (b,S):=by erw[0,h,he,hc]
def aKP(h:xs C a env S=qz (.nx e1,S1)):xs C (.seq a r) env S=xs C r e1 S1:=by simp only[lY,iC,h,oB]
def uJ{i j:Int}(h:i<j):aP .Lt (.int i) (.int j)=qz (.bool true):=by rw[wZ,dqT h]
def zL{i j:Int}(h:¬ i<j):aP .Lt (.int i) (.int j)=qz (.bool false):=by rw[wZ,dqF h]
def bAf{i j:Int}(h:j<i):aP .Gt (.int i) (.int j)=qz (.bool true):=by rw[tJ,dqT h]
def aNm{i j:Int}(h:¬ j<i):aP .Gt (.int i) (.int j)=qz (.bool false):=by rw[tJ,dqF h]
def aZq{i j:Int}(h:i=j):aP .Eq (.int i) (.int j)=qz (.bool true):=by rw[cC,beq_iff_eq.mpr h]
def aZ3{i j:Int}(h:i≠j):aP .Eq (.int i) (.int j)=qz (.bool false):=by rw[cC,beq_eq_false_iff_ne.mpr h]
def jX(a b:Nat):bO .Add (.int a) (.int b)=qz (.int ((a+b:Nat):Int)):=by rw[kI,Int.natCast_add]
def mK{a b:Nat}(h:b<=a):bO .Sub (.int a) (.int b)=qz (.int ((a-b:Nat):Int)):=by rw[eJ,Int.natCast_sub h]
def iG(h:env[i]?=qz (#[j]))(k:ev C e env S=qz (.d x,S1)):av C (.cons (.var i) (.cons e .nil)) env S=qz ([.loc j,.d x],S1):=aE (aC h) (aE k aO)
def aE3{env:bB}{S S1:aD}{e:E}{ds:List D}(h:ev C e env S=qz (.d (.list ds),S1)):lv C (.it e) env S=qz (ds,S1):=by show iL (ev C e) env S=_;unfold iL;rw[h];rfl
def aBu{env:bB}{S S1:aD}{e:E}{ds:List D}(h:ev C e env S=qz (.d (.tuple ds),S1)):lv C (.it e) env S=qz (ds,S1):=by show iL (ev C e) env S=_;unfold iL;rw[h];rfl
def bJ:Sx->Sx
 |.seq _ b=>b|x=>x
def hdS:Sx->Sx
 |.seq a _=>a|x=>x
def reS:Sx->E
 |.ret e=>e|_=>.no
def aBy(h:tv C c env S=qz (true,S1))(k:xs C a env S1=r):xs C (.ifs c a b) env S=r:=by rw[<- k];simp only[tN,oN,h,oB,if_true]
def aEV(h:tv C c env S=qz (false,S1))(k:xs C b env S1=r):xs C (.ifs c a b) env S=r:=by rw[<- k];simp only[tN,oN,h,oB,yBa,if_false]
def dN(h:xs C a env S=qz (.nx e1,S1))(k:xs C b e1 S1=r):xs C (.seq a b) env S=r:=by rw[aKP h];exact k
def pF(h:xs C a env S=qz (.nx e1,S1)):xs C (.seq a .skip) env S=qz (.nx e1,S1):=dN h rfl
def tM(h:ev C e env S=qz (w,S1)):xs C (.seq (.set i e) .skip) env S=qz (.nx (env.set i (qz w)),S1):=bQ h rfl rfl
def cJ(ns:List Int)(k:Nat)(x:Int):List D:=[.list (ns.map yAt),.int k,.int x]
def aTq{α:Type}{S:List α}{a v:α}(h:S[n]?=qz a):(S.set n v)[n]?=qz v:=yBc (gIm h).1
def aP5{α:Type}(S:List α)(n:Nat)(v:α):(S.set n v).take ↑S=S.set n v:=by rw[yCm];rw[yBn];exact yAc _
def sY{ns:List Int}(h:k<↑ns):aV (.list (ns.map yAt)) (.int k)=qz (.int ns[k]):=pH (by rw[yAg,yAb h];rfl)
def cs1(h:b<a):((a:Nat):Int)-1-(b:Int)=((a-1-b:Nat):Int):=()
def aTl(i:Int){w:Nat}(hw:0<w):∃ r:Nat,i%(w:Int)=(r:Int)/\r<w:=by have h0:=Int.emod_nonneg i (show(w:Int)≠0 by omega);have h1:=yHi i (show(0:Int)<(w:Int) by omega);exact((i%(w:Int)).toNat,by omega,by omega,)
def aRC(ns:List Int):↑(ns.map yAt)=↑ns:=yAa ..
def aAB(i:Int){p:Int}(hp:0<p)(hp2:p<=2147483647):∃ y:Int,(-(2^64)<y/\y<2^64)/\bO .Mod (.int i) (.int p)=qz (.int y):=by have h0:=Int.emod_nonneg i (show p≠0 by omega);have h1:=yHi i hp;exact(i%p,(by omega,by omega,),tE hp,)
def aBD(i:Int)(hm:0<m):∃ r:Nat,r<m/\bO .Mod (.int i) (.int m)=qz (.int r):=by let(r,er,hr):=aTl i hm;exact(r,hr,by rw[tE (),er],)
def tO(ns:List Int):B.len.g [.list (ns.map yAt)]=qz (.int ↑ns):=by show qz (yAt (↑(ns.map yAt):Nat))=_;rw[aRC]
def aKI{S:aD}{n:Nat}{l:List D}{i j:Nat}{x:D}(h:S[n]?=qz (qz l))(hj:lB ↑l i=qz j):nM S (.loc n) (.d (.int i)) (.d x)=qz (S.set n (qz (l.set j x))):=by simp only[nM,h,hj,oB]
noncomputable abbrev eW(n m k:Nat)(ns:List Int)(a b:Option W):bB:=[#[n],(m:),a,qz (.d (.list (ns.map yAt))),(k:),b]
def aIC{C:Calls}(c:Int)(hm:0<m)(hk:k<=100000):∃ r:Nat,r<m/\xs C (bJ (bJ (bJ (bJ (bJ (bJ sQ)))))) (eW n m k ns ((c:)) qx) S=qz (.rt (.d (.int r)),S):=by let(y1,b1,e1):=aAB c (p:=2147483629) (·) (·);let(y2,b2,e2):=aAB (y1*((k:Int)+3)) (p:=2147483629) (·) (·);let(y3,b3,e3):=aAB (y2*y2) (p:=2147483587) (·) (·);let(y4,_,e4):=aAB (y3*y3) (p:=1999999973) (·) (·);let(r,hr,e5):=aBD y4 hm;exact(r,hr,bQ (aU (aU (aU (aC rfl) aJ e1) (aU (aC rfl) aJ rfl) (lT b1.1 b1.2)) aJ e2) rfl (bQ (aU (aU (aC rfl) (aC rfl) (lT b2.1 b2.2)) aJ e3) rfl (bH (aU (aU (aU (aC rfl) (aC rfl) (lT b3.1 b3.2)) aJ e4) (aC rfl) e5))),)
def aQe{x:Int}(hS:S[n]?=qz (qz (cJ ns (k+1) x)))(hm:0<m)(hk:k<=100000):∃ r:Nat,r<m/\xs C (bJ (bJ (bJ sQ))) (eW n m k ns qx qx) S=qz (.rt (.d (.int r)),S):=by
 by_cases c1:k<↑ns
 .let(r,hr,er):=aBD ns[k] hm;exact(r,hr,cF (bM (aC rfl) (cT (aE (aC rfl) aO) (cM cU dA) (tO ns)) (uJ ())) (bH (aU (bY (aC rfl) (aC rfl) rfl (sY c1)) (aC rfl) er)),)
 have p1:=λ {R} (e:xs C (bJ (bJ (bJ (bJ (bJ sQ))))) (eW n m k ns ((((k:Int)*7919+5):)) qx) S=R)=>(bF (bM (aC rfl) (cT (aE (aC rfl) aO) (cM cU dA) (tO ns)) (zL ())) (bQ (aU (aU (aC rfl) aJ (aAW (·) (·))) aJ rfl) rfl e):xs C (bJ (bJ (bJ sQ))) (eW n m k ns qx qx) S=R)
 have l0:ev C (.blt .len (.cons (.ix (.var 0) (.int 0)) .nil)) (eW n m k ns ((((k:Int)*7919+5):)) qx) S=qz (.d (.int ↑ns),S):=cT (aE (bY (aC rfl) aJ (iB hS) rfl) aO) (cM cU dA) (tO ns);by_cases c2:0<↑ns
 .let(q,hq,eq):=aBD ((k:Int)*7) c2;let(r,hr,er):=@aIC _ _ n ns S C ((k:Int)*7919+5+ns[q]*(48271+(k:Int))) hm hk;exact(r,hr,p1 (dN (aBy (bM l0 aJ (bAf ())) (tM (aU (aC rfl) (aU (bY (bY (aC rfl) aJ (iB hS) rfl) (aU (aU (aC rfl) aJ (aAW (·) (·))) l0 eq) rfl (sY hq)) (aU aJ (aC rfl) rfl) (aAW () ())) rfl))) er),)
 .let(r,hr,er):=@aIC _ _ n ns S C ((k:Int)*7919+5) hm hk;exact(r,hr,p1 (dN (aEV (bM l0 aJ (aNm ())) rfl) er),)
noncomputable abbrev aL4:E:=.and (.cmp .Lt (.bin .Add (.bin .FloorDiv (.var 4) (.int 12)) (.int 1)) (.blt .len (.cons (.var 3) .nil))) (.cmp .Eq (.bin .Mod (.ix (.var 3) (.int 0)) (.int 2)) (.int 1))
def aTc(d n k m:Nat)(ns:List Int)(x:Int)(S:aD)(hS:S[n]?=qz (qz (cJ ns k x)))(hm:0<m)(hm2:m<2^64)(hk:k<=100000) :
 ∃ (r:Nat) (x':Int),r<m/\cl fns (d+1) 88 [.loc n,.d (.int m)] S=qz (.d (.int r),S.set n (qz (cJ ns (k+1) x'))):=by
 have gs:=λ v=>aTq (v:=v) hS
 have pz:∀ y z:Int,nM (S.set n (qz (cJ ns (k+1) y))) (.loc n) (.d (.int 2)) (.d (.int z))=qz (S.set n (qz (cJ ns (k+1) z))):=λ y z=>by
  have:=@aKI _ _ _ 2 2 (.int z) (gs (qz (cJ ns (k+1) y))) rfl;rw[List.set_set] at this;exact this
 have dv:bO .FloorDiv (.int k) (.int 12)=qz (.int ((k/12:Nat):Int)):=aDC (·) (·);have cV:∀ {r:Nat}{x':Int},r<m->xs (aF fns d) (bJ (bJ sQ)) (eW n m k ns qx qx) (S.set n (qz (cJ ns (k+1) x)))=qz (.rt (.d (.int r)),S.set n (qz (cJ ns (k+1) x')))->∃ (r:Nat) (x':Int),r<m/\cl fns (d+1) 88 [.loc n,.d (.int m)] S=qz (.d (.int r),S.set n (qz (cJ ns (k+1) x'))):=λ {r x'} hr e=>(r,x',hr,cR rfl rfl rfl (dN (tS (yQ (aC rfl) zA (wW aJ) (iB hS) rfl) rfl) (dN (tZ (aU (aC rfl) aJ rfl) (aC rfl) aJ (aKI (i:=1) hS rfl)) e)) (aP5 S n _),)
 have tail:tv (aF fns d) aL4 (eW n m k ns qx qx) (S.set n (qz (cJ ns (k+1) x)))=qz (false,S.set n (qz (cJ ns (k+1) x)))->∃ (r:Nat) (x':Int),r<m/\cl fns (d+1) 88 [.loc n,.d (.int m)] S=qz (.d (.int r),S.set n (qz (cJ ns (k+1) x'))):=λ h=>by
  let(r,hr,e):=aQe (C:=aF fns d) (gs (qz (cJ ns (k+1) x))) hm hk;exact cV hr (bF h e)
 by_cases c1:k/12+1<↑ns
 .have t2:tv (aF fns d) aL4 (eW n m k ns qx qx) (S.set n (qz (cJ ns (k+1) x)))=qz (ns[0]%2==1,S.set n (qz (cJ ns (k+1) x))):=nC (p:=true) (bM (aU (aU (aC rfl) aJ dv) aJ rfl) (cT (aE (aC rfl) aO) (cM cU dA) (tO ns)) (uJ ())) (bM (aU (bY (aC rfl) aJ rfl (sY (k:=0) ())) aJ (tE (·))) aJ rfl);rcases Bool.eq_false_or_eq_true (ns[0]%2==1) with c2|c2
  .rw[c2] at t2;obtain⟨z,e3⟩:∃ z:Int,xs (aF fns d) (.ifs (.cmp .Eq (.bin .Mod (.var 4) (.int 12)) (.int 0)) (.seq (.put (.var 0) (.int 2) (.ix (.var 3) (.bin .Add (.bin .FloorDiv (.var 4) (.int 12)) (.int 1)))) .skip) .skip) (eW n m k ns qx qx) (S.set n (qz (cJ ns (k+1) x)))=qz (.nx (eW n m k ns qx qx),S.set n (qz (cJ ns (k+1) z))):=by
    rcases Bool.eq_false_or_eq_true ((k:Int)%12==0) with c3|c3
    .exact(ns[k/12+1],aBy (bM (aU (aC rfl) aJ (tE (·))) aJ (by rw[cC,c3])) (pF (tZ (bY (aC rfl) (aU (aU (aC rfl) aJ dv) aJ rfl) rfl (sY c1)) (aC rfl) aJ (pz _ _))),)
    .exact(x,aEV (bM (aU (aC rfl) aJ (tE (·))) aJ (by rw[cC,c3])) rfl,)
   let(r,hr,er):=aBD z hm;exact cV (x':=z/(m:Int)) hr (cF t2 (dN e3 (bQ (aU (bY (aC rfl) aJ (iB (gs _)) rfl) (aC rfl) er) rfl (dN (tZ (aU (bY (aC rfl) aJ (iB (gs _)) rfl) (aC rfl) (aDC () ())) (aC rfl) aJ (pz _ _)) (bH (aC rfl))))))
  .rw[c2] at t2;exact tail t2
 .exact tail (nC (p:=false) (bM (aU (aU (aC rfl) aJ dv) aJ rfl) (cT (aE (aC rfl) aO) (cM cU dA) (tO ns)) (zL ())) rfl)
inductive Wd where
 | «in» |num|not|and|or|xor|add|sub|mul|left|right|slide|cut|wide|sign|same|less|under|pick
 deriving DecidableEq
def Wd.s:Wd->Str
 |.in => "in" |.num => "num" |.not => "not" |.and => "and" |.or => "or" |.xor => "xor" |.add => "add" |.sub => "sub" |.mul => "mul" |.left => "left" |.right => "right" |.slide => "slide"
 |.cut => "cut" |.wide => "wide" |.sign => "sign" |.same => "same" |.less => "less" |.under => "under" |.pick => "pick"
structure Rw where
 wd:Wd
 w:Nat
 args:List Nat
def nD(n:Nat):D:=.int n
def Rw.d(r:Rw):D:=.tuple (.str r.wd.s::nD r.w::r.args.map nD)
def eZ(S:aD)(n p:Nat)(ns:List Int)(k:Nat)(x:Int)(rs:List Rw):aD:=(S.set n (qz (cJ ns k x))).set p (qz (rs.map Rw.d))
local macro_rules(kind:=«term_<*_»)|s=>return mqT "PyData.tuple" [mqT "List.cons" [mqT "PyData.tuple" [mqT "List.map" [mqI "Rw.d",s[0]]],mqT "List.cons" [s[2],mqI "List.nil"]]]
local macro_rules(kind:=«term~~~_»)|s=>let a:Lean.Term:=⟨s[1]⟩;`(List.map (·.w) $a)
local macro_rules(kind:=«term_*>_»)|s=>return mqT "PyData.tuple" [mqT "List.map" [s[2],s[0]]]
structure At0(S:aD)(n p:Nat):Prop where
 hn:n<↑S
 ne:n≠p
structure At(S:aD)(n p:Nat):Prop extends At0 S n p where
 hp:p<↑S
def At0.state{x:Int}(h:At0 S n p):(eZ S n p ns k x rs)[n]?=qz (qz (cJ ns k x)):=by unfold eZ;rw[yAw h.ne.symm,yBc h.hn]
def At0.len{x:Int}(h:At0 S n p):↑(eZ S n p ns k x rs)=↑S:=by simp[eZ]
def At0.take{x:Int}(h:At0 S n p)(k':Nat)(x':Int)(rs':List Rw):(eZ S n p ns k' x' rs').take ↑(eZ S n p ns k x rs)=eZ S n p ns k' x' rs':=by rw[h.len,yCm];rw[h.len];exact yAc _
def At0.put{x:Int}(h:At0 S n p)(k':Nat)(x':Int):(eZ S n p ns k x rs).set n (qz (cJ ns k' x'))=eZ S n p ns k' x' rs:=by unfold eZ;rw[List.set_comm _ _ h.ne.symm,List.set_set]
def qW{x:Int}(h:At0 S n p)(d m:Nat)(hm:0<m)(hm2:m<2^64)(hk:k<=100000):∃ (r:Nat) (x':Int),r<m/\cl fns (d+1) 88 [.loc n,.d (.int m)] (eZ S n p ns k x rs)=qz (.d (.int r),eZ S n p ns (k+1) x' rs):=by let(r,x',hr,e):=aTc d n k m ns x _ h.state hm hm2 hk;exact(r,x',hr,by rw[e,h.put],)
def aRJ{x:Int}(h:At0 S n p)(d m:Nat){i:Int}(hi:i=(m:Nat))(hm:0<m)(hm2:m<2^64)(hk:k<=100000):∃ (r:Nat) (x':Int),r<m/\cl fns (d+1) 88 [.loc n,.d (.int i)] (eZ S n p ns k x rs)=qz (.d (.int r),eZ S n p ns (k+1) x' rs):=by subst hi;exact qW h d m hm hm2 hk
def aIK(h:w<64):2^w<2^64:=yEc (·) h
def aP3{x:Int}(h:At0 S n p)(d w:Nat)(hw:w<=64)(hk:k<=99000):∃ (r k':Nat) (x':Int),r<2^w/\k'<=k+2/\cl fns (d+2) 89 [.loc n,.d (.int w)] (eZ S n p ns k x rs)=qz (.d (.int r),eZ S n p ns k' x' rs):=by
 by_cases c:w<31
 .let(r,x',hr,e):=@qW _ _ _ k ns rs x h d (2^w) (sV w) (aIK ()) ();exact(r,k+1,x',hr,by omega,cR rfl rfl rfl (cF (bM (aC rfl) aJ (uJ ())) (bH (bT (iG rfl (aU aJ (aC rfl) (iX ()))) e))) (h.take _ _ _),)
 .let(r,x',hr,e):=@qW _ _ _ k ns rs x h d (2^30) (·) (·) ();let(q,x2,hq,e'):=@qW _ _ _ (k+1) ns rs x' h d (2^(w-30)) (sV _) (aIK ()) ();have hb:r+q*2^30<2^w:=by
   have e3:(2:Nat)^w=2^(w-30)*2^30:=by rw[<- Nat.pow_add,show w-30+30=w by omega]
   have h3:(q+1)*2^30<=2^(w-30)*2^30:=Nat.mul_le_mul_right _ hq;rw[Nat.add_mul] at h3;omega
  exact(r+q*2^30,k+2,x2,hb,yAc _,cR rfl rfl rfl (bF (bM (aC rfl) aJ (zL ())) (bH (aU (bT (iG rfl (aU aJ aJ (@iX 30 (·)))) e) (aU (bT (iG rfl (aU aJ (aU (aC rfl) aJ (@mK _ 30 ())) (iX ()))) e') aJ (@aDR _ (w-30) 30 hq ())) (jX _ _)))) (h.take _ _ _),)
def at4(a b c e:D){r:Nat}(h1:r<4):∃ x,(x=a\/x=b\/x=c\/x=e)/\aV (.list [a,b,c,e]) (.int r)=qz x:=by
 have:r=0\/r=1\/r=2\/r=3:=();rcases this with rfl|rfl|rfl|rfl
 .exact(a,.inl rfl,rfl,)
 .exact(b,.inr (.inl rfl),rfl,)
 .exact(c,.inr (.inr (.inl rfl)),rfl,)
 .exact(e,.inr (.inr (.inr rfl)),rfl,)
def at1:At0 [qx] 0 1:=(by decide,by decide,)
noncomputable abbrev s0(ns:List Int)(k:Nat)(x:Int):aD:=[qz (cJ ns k x)]
def aEZ{x:Int}(d m:Nat)(hm:0<m)(hm2:m<2^64)(hk:k<=100000):∃ (r:Nat) (x':Int),r<m/\cl fns (d+1) 88 [.loc 0,.d (.int m)] (s0 ns k x)=qz (.d (.int r),s0 ns (k+1) x'):=by let(r,x',hr,e):=@qW _ _ _ k ns [] x at1 d m hm hm2 hk;exact(r,x',hr,e,)
def tY{x:Int}(d m:Nat){i:Int}(hi:i=(m:Nat))(hm:0<m)(hm2:m<2^64)(hk:k<=100000):∃ (r:Nat) (x':Int),r<m/\cl fns (d+1) 88 [.loc 0,.d (.int i)] (s0 ns k x)=qz (.d (.int r),s0 ns (k+1) x'):=by subst hi;exact aEZ d m hm hm2 hk
def aQY(a:Nat):bO .BitAnd (.int a) (.int 1)=qz (.int ((a&&&1:Nat):Int)):=fO a 1
def dZ(n:Nat):(((n:Nat):Int)==0)=(n==0):=by rw[yEs,beq_iff_eq,beq_iff_eq];omega
def aVp{x:Int}(h:At0 S n p)(d w:Nat)(hw:1<=w)(qJ:w<=64)(hk:k<=98000):∃ (r k':Nat) (x':Int),r<2^w/\k'<=k+5/\cl fns (d+3) 90 [.loc n,.d (.int w)] (eZ S n p ns k x rs)=qz (.d (.int r),eZ S n p ns k' x' rs):=by
 have hw3:w<2^64:=();have hp:=sV w;let(r1,x1,h1,e1):=aRJ (ns:=ns) (k:=k) (x:=x) (rs:=rs) h (d+1) 5 (i:=5) rfl (·) (·) ();let(r2,x2,h2,e2):=@qW _ _ _ (k+1) ns rs x1 h (d+1) w () hw3 ();let(r3,x3,h3,e3):=@qW _ _ _ (k+2) ns rs x2 h (d+1) w () hw3 ();have st:=λ {R} (z:xs (d<$>2) (bJ (bJ aCY)) [#[n],(w:),(r1:),qz (.d (.list [.int 0,.int ((2^w-1:Nat):Int),.int ((2^r2:Nat):Int),.int ((2^r3-1:Nat):Int)]))] (eZ S n p ns (k+3) x3 rs)=R)=>(bQ (bT (iG rfl aJ) e1) rfl (bQ (fM (kQ (aE aJ (aE (aU (aU aJ (aC rfl) (iX ())) aJ (by rw[eJ,aC4])) (aE (aU aJ (bT (iG rfl (aC rfl)) e2) (iX ())) (aE (aU (aU aJ (bT (iG rfl (aC rfl)) e3) (iX ())) aJ (by rw[eJ,aC4])) aO)))) rfl (yAe rfl))) rfl z):xs (d<$>2) aCY [#[n],(w:),qx,qx] (eZ S n p ns k x rs)=R)
 by_cases c:r1<4
 .let(y,hy,e):=at4 (.int 0) (.int ((2^w-1:Nat):Int)) (.int ((2^r2:Nat):Int)) (.int ((2^r3-1:Nat):Int)) c;obtain⟨q,hq,rfl⟩:∃ q:Nat,q<2^w/\y=.int q:=by
   have l2:2^r2<2^w:=yEc (·) h2;have l3:2^r3<2^w:=yEc (·) h3;rcases hy with rfl|rfl|rfl|rfl
   .exact(0,hp,rfl,)
   .exact(_,by omega,rfl,)
   .exact(_,l2,rfl,)
   .exact(_,by omega,rfl,)
  exact(q,k+3,x3,hq,by omega,cR rfl rfl rfl (st (cF (bM (aC rfl) aJ (uJ ())) (bH (bY (aC rfl) (aC rfl) rfl e)))) (h.take _ _ _),)
 .let(r,k',x',hr,hk',e):=@aP3 _ _ _ (k+3) ns rs x3 h d w qJ ();exact(r,k',x',hr,by omega,cR rfl rfl rfl (st (bF (bM (aC rfl) aJ (zL ())) (bH (bT (iG rfl (aC rfl)) e)))) (h.take _ _ _),)
def aEb:∀ L:List Nat,yHr (L.map nD)=true
 |[]=>rfl
 |a::r=>by
   have ih:=aEb r;simp only[yAm,yHr,ih,yDh];rfl
def aIk:∀ L:List Nat,yIh (L.map nD)=0
 |[]=>rfl
 |a::r=>by
   have ih:=aIk r;simp only[yAm,yIh,ih];rfl
def jQ(r:Rw):aV r.d (.int 1)=qz (.int r.w):=@gI (.str r.wd.s::nD r.w::r.args.map nD) 1 _ rfl
def wdE(a b:Wd):Bool:=match aP .Eq (.str a.s) (.str b.s) with|some (.bool c)=>c==decide (a=b)|_=>false
def aUA(a b:Wd):wdE a b=true:=by
 have h:∀ i:Fin 19,∀ j:Fin 19,wdE (Wd.ofNat i) (Wd.ofNat j)=true:=by decide +kernel
 have e:∀ a:Wd,∃ i:Fin 19,Wd.ofNat i=a:=λ a=>((a.ctorIdx,by cases a<;>decide,),Wd.ofNat_ctorIdx a,)
 let(i,rfl):=e a;let(j,rfl):=e b;exact h i j
def cG(a b:Wd):aP .Eq (.str a.s) (.str b.s)=qz (.bool (decide (a=b))):=by
 have h:=aUA a b;unfold wdE at h;split at h
 .rename_i c e;rw[e,eq_of_beq h]
 .cases h
def aDo(a:Wd):aP .In (.str a.s) (.tuple [.str "left",.str "right",.str "slide"])=qz (.bool (decide (a=.left\/a=.right\/a=.slide))):=by cases a<;>rfl
def aUv(a:Wd):aP .In (.str a.s) (.tuple [.str "cut",.str "wide",.str "sign"])=qz (.bool (decide (a=.cut\/a=.wide\/a=.sign))):=by cases a<;>rfl
def aDJ(a:Wd):aP .In (.str a.s) (.tuple [.str "same",.str "less",.str "under"])=qz (.bool (decide (a=.same\/a=.less\/a=.under))):=by cases a<;>rfl
def tr(n w:Nat):Nat:=w-bl (n^^^(2^w-1))
def aWp(n w i:Nat):(n^^^(2^w-1))[i]! =(n[i]! ^^ decide (i<w)):=by rw[xAn,fA]
def aMu(n w:Nat):tr n w<=w:=yDv _ _
def aJd(hi:w-tr n w<=i)(hw:i<w):n[i]! =true:=by
 have h1:bl (n^^^(2^w-1))<=i:=by unfold tr at hi;omega
 have h2:=gB (mC (n^^^(2^w-1))) h1;rw[aWp,dqT hw] at h2;cases q:n[i]! with
 |true=>rfl|false=>rw[q] at h2;cases h2
def bZ(a w:Nat):Nat:=(2^w-1)^^^(2^(w-a)-1)
def nA:(bZ a w)[i]! =(decide (w-a<=i)&&decide (i<w)):=by
 unfold bZ;rw[xAn,fA,fA];by_cases h1:i<w<;>by_cases h2:i<w-a
 .rw[dqT h1,dqT h2,dqF ()];rfl
 .rw[dqT h1,dqF h2,dqT ()];rfl
 .omega
 .rw[dqF h1,dqF h2,yCu];rfl
def aTh(h:a<=w):bZ a w=2^w-2^(w-a):=by
 have hp:(2:Nat)^(w-a)<=2^w:=yAh (·) ();have e:2^w-2^(w-a)=0+(2^a-1)*2^(w-a):=by
  have e1:(2:Nat)^w=2^a*2^(w-a):=by rw[<- Nat.pow_add,show a+(w-a)=w by omega]
  rw[Nat.sub_mul,<- e1];omega
 rw[e];apply xAl;intro i;rw[nA,aG5 (xAe _),fA];by_cases c:i<w-a
 .rw[if_pos c,dqF ()];simp
 .rw[if_neg c,dqT (),yBf];congr 1;exact propext (λ _=>by omega,λ _=>by omega,)
def aEG:x&&&y≠0 ↔ ∃ i,x[i]! =true/\y[i]! =true:=by
 constructor
 .intro h;by_cases c:∃ i,x[i]! =true/\y[i]! =true
  .exact c
  .refine absurd ((oY _).mpr λ i=>?_) h;rw[yAy];cases h1:x[i]!<;>cases h2:y[i]!<;>first|rfl|exact absurd (i,h1,h2,) c
 .rintro ⟨i,h1,h2⟩ z;rw[oY] at z;have:=z i;rw[yAy,h1,h2] at this;cases this
def cP(x a w:Nat):Nat:=if x&&&bZ a w=0 then x else x|||bZ a w
def aBA(h:x<2^w):cP x a w<2^w:=by
 unfold cP;split
 .exact h
 .exact yCr h (by
   apply yEb;intro i hi;rw[nA,dqF (show ¬ i<w by omega),yCu])
def aBc:(cP x a w)[i]! =true ↔ x[i]! =true\/((w-a<=i/\i<w)/\∃ j,(w-a<=j/\j<w)/\x[j]! =true):=by
 unfold cP;split
 .rename_i h;constructor
  .intro z;exact .inl z
  .rintro (z|⟨_,j,h1,h2⟩)
   .exact z
   .refine absurd h (aEG.mpr (j,h2,?_,));rw[nA,dqT h1.1,dqT h1.2];rfl
 .rename_i h;let(j,h1,h2):=aEG.mp h;rw[nA,yBv,decide_eq_true_eq,decide_eq_true_eq] at h2;rw[xAo,yDo,nA,yBv,decide_eq_true_eq,decide_eq_true_eq];constructor
  .rintro (z|z)
   .exact .inl z
   .exact .inr (z,j,h2,h1,)
  .rintro (z|⟨z,_⟩)
   .exact .inl z
   .exact .inr z
def rT(i j k:Nat):Nat:=max (max i j) k
structure Ft where
 N:Nat
 O:Nat
 A:Nat
def fJ(f:Ft)(w:Nat):Ft:=(cP f.N f.A w,cP f.O f.A w,rT f.A (tr (cP f.N f.A w) w) (tr (cP f.O f.A w) w),)
def Hd(f:Ft)(n w:Nat):Prop:=(∀ i,f.N[i]! =true->n[i]! =false)/\(∀ i,f.O[i]! =true->n[i]! =true)/\((∀ i,w-f.A<=i->i<w->n[i]! =true)\/(∀ i,w-f.A<=i->i<w->n[i]! =false))
structure FtOk(f:Ft)(w:Nat):Prop where
 lN:f.N<2^w
 lO:f.O<2^w
 a1:1<=f.A
 aw:f.A<=w
def aMb(h:FtOk f w):FtOk (fJ f w) w:=by have h1:=aMu (cP f.N f.A w) w;have h2:=aMu (cP f.O f.A w) w;have h3:=h.a1;have h4:=h.aw;exact(aBA h.lN,aBA h.lO,xAh h3 (xAh (yBq _ _) (yBq _ _)),Nat.max_le.mpr (Nat.max_le.mpr (h4,h1,),h2,),)
def aRU(h:FtOk f w):Hd (fJ f w) n w ↔ Hd f n w:=by
 have aA:f.A<=(fJ f w).A:=xAh (yBq _ _) (yBq _ _);constructor
 .rintro ⟨h1,h2,h3⟩;refine(λ i hi=>h1 i (aBc.mpr (.inl hi)),λ i hi=>h2 i (aBc.mpr (.inl hi)),?_,);rcases h3 with h3|h3
  .exact .inl λ i a b=>h3 i (xAh (yFj aA _) a) b
  .exact .inr λ i a b=>h3 i (xAh (yFj aA _) a) b
 .rintro ⟨h1,h2,h3⟩;have hN:∀ i,(fJ f w).N[i]! =true->n[i]! =false:=λ i hi=>by
   rcases aBc.mp hi with z|⟨⟨a,b⟩,j,⟨c,d⟩,e⟩
   .exact h1 i z
   .rcases h3 with h3|h3
    .have x1:=h3 j c d;rw[h1 j e] at x1;cases x1
    .exact h3 i a b
  have hO:∀ i,(fJ f w).O[i]! =true->n[i]! =true:=λ i hi=>by
   rcases aBc.mp hi with z|⟨⟨a,b⟩,j,⟨c,d⟩,e⟩
   .exact h2 i z
   .rcases h3 with h3|h3
    .exact h3 i a b
    .have x1:=h3 j c d;rw[h2 j e] at x1;cases x1
  refine(hN,hO,?_,);have cA:(fJ f w).A=f.A\/(fJ f w).A=tr (fJ f w).N w\/(fJ f w).A=tr (fJ f w).O w:=by
   show max (max _ _) _=_\/max (max _ _) _=tr (cP f.N f.A w) w\/max (max _ _) _=tr (cP f.O f.A w) w;omega
  rcases cA with c|c|c
  .rw[c];exact h3
  .rw[c];exact .inr λ i a b=>hN i (aJd a b)
  .rw[c];exact .inl λ i a b=>hO i (aJd a b)
def aZ4(h:Hd f n w):f.N&&&f.O=0:=by
 by_cases c:f.N&&&f.O=0
 .exact c
 .let(i,h1,h2):=aEG.mp c;have x:=h.1 i h1;rw[h.2.1 i h2] at x;cases x
def aBj(hn:n<2^w)(hi:i<w):(2^w-1-n)[i]! = !n[i]!:=by have:=sZ hn i;unfold sG at this;rw[this,dqT hi,yBf]
def aRO(hn:n<2^w)(ha:a<=w):n/2^(w-a)=2^a-1 ↔ ∀ i,w-a<=i->i<w->n[i]! =true:=by
 constructor
 .intro h i h1 h2;have:(n/2^(w-a))[(i-(w-a))]! =(2^a-1)[(i-(w-a))]!:=by rw[h]
  rw[aA0,fA,show w-a+(i-(w-a))=i by omega,dqT ()] at this;exact this
 .intro h;apply xAl;intro i;rw[aA0,fA];by_cases c:i<a
  .rw[h _ () (),dqT c]
  .rw[gB hn (),dqF c]
def aRy(hn:n<2^w)(ha:a<=w):n/2^(w-a)=0 ↔ ∀ i,w-a<=i->i<w->n[i]! =false:=by
 rw[aCL];constructor
 .intro h i h1 _;exact h i h1
 .intro h i h1;by_cases c:i<w
  .exact h i h1 c
  .exact gB hn ()
def and_zero:(x&&&y=0) ↔ ∀ i,y[i]! =true->x[i]! =false:=by
 rw[oY];constructor
 .intro h i hy;have:=h i;rw[yAy,hy,yDh] at this;exact this
 .intro h i;rw[yAy];cases hy:y[i]! with|false=>exact yCu _|true=>rw[h i hy];rfl
def aH7{x y:Nat}:(x&&&y=y) ↔ ∀ i,y[i]! =true->x[i]! =true:=by
 constructor
 .intro h i hy;have:=congrArg (λ z=>z[i]!) h;simp only[yAy,hy,yDh] at this;exact this
 .intro h;apply xAl;intro i;rw[yAy];cases hy:y[i]! with|false=>exact yCu _|true=>rw[h i hy];rfl
def dU(d w:Nat)(h:w<=100000)(S:aD):cl fns (d+1) 0 [.d (.int w)] S=qz (.d (.int ((2^w-1:Nat):Int)),S):=by rw[bX rfl d _ S rfl];erw[11,aMh,iX h,eJ,aC4]
def aSI(n:Nat):yAp (n:Int)=bl n:=aG7 n
def wH(d n:Nat)(S:aD):cl fns (d+1) 1 [.d (.int n)] S=qz (.d (.int ((bl n:Nat):Int)),S):=by rw[bX rfl d _ S rfl];erw[11,aLw,aFe,aMk,aSI]
def lr(n:Nat):Nat:=bl (n^^^(n+1))-1
def aSF(n:Nat):lr n=mJ (pJ n (bl n+1)):=aHa (bl n+1) n (xAb (mC n) (yAh (·) ()))
def aAL(d n:Nat)(S:aD)(h:n<2^10000):cl fns (d+2) 2 [.d (.int n)] S=qz (.d (.int ((2^bl n-1:Nat):Int)),S):=by rw[bX rfl (d+1) _ S rfl];have hq1:=dU d (bl n) (xAh (mD h) (·));erw[11,aLc,wH d n,hq1]
def aLp(h:n<2^w)(hw:w<=10000):n<2^10000:=xAb h (yAh (·) hw)
def aEz(d n:Nat)(S:aD):cl fns (d+2) 3 [.d (.int n)] S=qz (.d (.int ((lr n:Nat):Int)),S):=by
 have h1:=aH1 (aGV n);have e1:(n:Int)+1=((n+1:Nat):Int):=();have e2:((bl (n^^^(n+1)):Nat):Int)-1=((lr n:Nat):Int):=by unfold lr;omega
 rw[bX rfl (d+1) _ S rfl];erw[11,aIf,kI,e1,kJ,wH d,eJ,e2]
def Ft.d(f:Ft):D:=.tuple [.int f.N,.int f.O,.int f.A]
def mN(f:Ft):aV f.d (.int 0)=qz (.int f.N):=rfl
def pP(f:Ft):aV f.d (.int 1)=qz (.int f.O):=rfl
def aB4(f:Ft):aV f.d (.int 2)=qz (.int f.A):=rfl
def aIq(a b:Nat):(((a:Nat):Int)==((b:Nat):Int))=(a==b):=by rw[yEs,beq_iff_eq,beq_iff_eq];omega
def aHT(d n w:Nat)(S:aD)(hn:n<2^w)(hw:w<=64):cl fns (d+2) 4 [.d (.int n),.d (.int w)] S=qz (.d (.int ((tr n w:Nat):Int)),S):=by
 have h1:=mD (aO4 hn);have e2:(w:Int)-((bl (n^^^(2^w-1)):Nat):Int)=((tr n w:Nat):Int):=by unfold tr;omega
 rw[bX rfl (d+1) _ S rfl];have hq2:=dU d w ();erw[11,aII,hq2,kJ,wH d,eJ,e2]
def vV(d a w:Nat)(S:aD)(ha:a<=w)(hw:w<=64):cl fns (d+2) 21 [.d (.int a),.d (.int w)] S=qz (.d (.int ((bZ a w:Nat):Int)),S):=by have e:(w:Int)-(a:Int)=((w-a:Nat):Int):=();rw[bX rfl (d+1) _ S rfl];have hq3:=dU d w ();have hq4:=dU d (w-a) ();erw[11,aHK,hq3,eJ,e,hq4,kJ]
def mxI(i j:Nat):(if (j:Int)>(i:Int) then ((j:Nat):Int) else ((i:Nat):Int))=((max i j:Nat):Int):=by
 by_cases h:(j:Int)>(i:Int)
 .rw[if_pos h];omega
 .rw[if_neg h];omega
def aAC(i j k:Nat):pS [.int i,.int j,.int k]=qz (.int ((rT i j k:Nat):Int)):=by
 show qz (yAt (if (j:Int)>(i:Int) then (if (k:Int)>(j:Int) then (k:Int) else (j:Int)) else (if (k:Int)>(i:Int) then (k:Int) else (i:Int))))=_;rw[mxI,mxI];unfold rT;by_cases h:(j:Int)>(i:Int)
 .rw[if_pos h,show max (max i j) k=max j k by omega]
 .rw[if_neg h,show max (max i j) k=max i k by omega]
def aEu(h:(x&&&bZ a w==0)=true):cP x a w=x:=by unfold cP;rw[if_pos (eq_of_beq h)]
def aEq(h:(x&&&bZ a w==0)=false):cP x a w=x|||bZ a w:=by unfold cP;rw[if_neg (by simpa using h)]
def aPV(d:Nat)(f:Ft)(w:Nat)(k:FtOk f w)(hw:w<=64)(S:aD):cl fns (d+3) 23 [.d f.d,.d (.int w)] S=qz (.d (fJ f w).d,S):=by
 have t1:=aHT d (cP f.N f.A w) w S (aBA k.lN) hw;have t2:=aHT d (cP f.O f.A w) w S (aBA k.lO) hw;rw[bX rfl (d+2) _ S rfl];show _=qz (W.d (.tuple [.int ((cP f.N f.A w:Nat):Int),.int ((cP f.O f.A w:Nat):Int),.int ((rT f.A (tr (cP f.N f.A w) w) (tr (cP f.O f.A w) w):Nat):Int)]),S);cases c1:(f.N&&&bZ f.A w==0) with
 |true=>
   rw[aEu c1] at t1 ⊢;cases c2:(f.O&&&bZ f.A w==0) with
   |true=>
     rw[aEu c2] at t2 ⊢;erw[11,wL,Ft.d,vV (d:=d) (a:=f.A) (w:=w) (S:=S) k.aw hw,fO,pE,dZ,c1,c2,t1,t2,aAC]
   |false=>
     rw[aEq c2] at t2 ⊢;erw[11,wL,Ft.d,vV (d:=d) (a:=f.A) (w:=w) (S:=S) k.aw hw,fO,pE,dZ,c1,c2,iO,t1,t2,aAC]
 |false=>
   rw[aEq c1] at t1 ⊢;cases c2:(f.O&&&bZ f.A w==0) with
   |true=>
     rw[aEu c2] at t2 ⊢;erw[11,wL,Ft.d,vV (d:=d) (a:=f.A) (w:=w) (S:=S) k.aw hw,fO,pE,dZ,c1,c2,iO,t1,t2,aAC]
   |false=>
     rw[aEq c2] at t2 ⊢;erw[11,wL,Ft.d,vV (d:=d) (a:=f.A) (w:=w) (S:=S) k.aw hw,fO,pE,dZ,c1,c2,iO,t1,t2,aAC]
def aDn(d:Nat)(f:Ft)(S:aD):cl fns (d+1) 24 [.d f.d] S=qz (.d (.int f.O),S):=by rw[bX rfl d _ S rfl];erw[11,aLl,pP]
def aG3(d:Nat)(f:Ft)(w:Nat)(lN:f.N<2^w)(hw:w<=64)(S:aD):cl fns (d+2) 25 [.d f.d,.d (.int w)] S=qz (.d (.int ((2^w-1-f.N:Nat):Int)),S):=by
 have e:(2^w-1)^^^f.N=2^w-1-f.N:=by
  apply xAl;intro i;have:=sZ lN i;unfold sG at this;rw[this,xAn,fA];by_cases c:i<w
  .rw[dqT c];cases f.N[i]!<;>rfl
  .rw[dqF c,gB lN ()];rfl
 rw[bX rfl (d+1) _ S rfl];have hq5:=dU d w ();erw[11,aHJ,mN,hq5,kJ,e]
def aIi(a k:Nat):pS [.int 1,.int ((a:Nat)-(k:Nat):Int)]=qz (.int ((max 1 (a-k):Nat):Int)):=by unfold pS;simp only[];congr 2;by_cases h1:(a:Int)-(k:Int)>1<;>simp only[h1,if_true,if_false]<;>omega
def aC6(i j:Nat):kT [.int i,.int j]=qz (.int ((min i j:Nat):Int)):=by unfold kT;simp only[];congr 2;by_cases h1:(j:Int)<(i:Int)<;>simp only[h1,if_true,if_false]<;>omega
def nW(v w:Nat)(f:Ft):Ft:=(f.N&&&(2^w-1),f.O&&&(2^w-1),max 1 (f.A-(v-w)),)
def jB(v w:Nat)(f:Ft):Ft:=(f.N|||bZ (w-v) w,f.O,if w=v then f.A else 1,)
def aK2(d v w:Nat)(f:Ft)(hv:w<=v)(hw:w<=64)(S:aD):cl fns (d+2) 40 [.d (.str "cut"),.d (.int v),.d (.int w),.d f.d] S=qz (.d (nW v w f).d,S):=by have c1:aP .Eq (.str "cut") (.str "cut")=qz (.bool true):=cG .cut .cut;have e1:(v:Int)-(w:Int)=((v-w:Nat):Int):=();rw[bX rfl (d+1) _ S rfl];have hq16:=dU d w ();erw[11,aAH,Ft.d,c1,hq16,fO,eJ,e1,aIi]
def aIW(d v w:Nat)(f:Ft)(hv:v<=w)(hw:w<=64)(S:aD):cl fns (d+3) 40 [.d (.str "wide"),.d (.int v),.d (.int w),.d f.d] S=qz (.d (jB v w f).d,S):=by
 have c1:aP .Eq (.str "wide") (.str "cut")=qz (.bool false):=cG .wide .cut;have c2:aP .Eq (.str "wide") (.str "wide")=qz (.bool true):=cG .wide .wide;have e1:(w:Int)-(v:Int)=((w-v:Nat):Int):=();have tm:=vV d (w-v) w S () hw;rw[bX rfl (d+2) _ S rfl];by_cases c:w=v
 .have d1:(w==v)=true:=by rw[beq_iff_eq];exact c
  have e:(jB v w f).d=.tuple [.int ((f.N|||bZ (w-v) w:Nat):Int),.int f.O,.int f.A]:=by unfold jB;rw[if_pos c];rfl
  rw[e];erw[11,aAH,Ft.d,c1,c2,eJ,e1,tm,iO,cC,aIq,d1]
 .have d1:(w==v)=false:=by rw[beq_eq_false_iff_ne];exact c
  have e:(jB v w f).d=.tuple [.int ((f.N|||bZ (w-v) w:Nat):Int),.int f.O,.int 1]:=by unfold jB;rw[if_neg c];rfl
  rw[e];erw[11,aAH,Ft.d,c1,c2,eJ,e1,tm,iO,cC,aIq,d1]
def iD(f:Ft)(k:Nat):Nat:=2-2*(f.N[k]!).toNat-(f.O[k]!).toNat
def aBx{f:Ft}(hd:f.N&&&f.O=0)(k:Nat):(iD f k==0)=f.N[k]!:=by have:=(oY _).mp hd k;rw[yAy] at this;unfold iD;revert this;cases f.N[k]!<;>cases f.O[k]!<;>decide
def aBL{f:Ft}(hd:f.N&&&f.O=0)(k:Nat):(iD f k==1)=f.O[k]!:=by have:=(oY _).mp hd k;rw[yAy] at this;unfold iD;revert this;cases f.N[k]!<;>cases f.O[k]!<;>decide
def aLz(f:Ft)(k:Nat):iD f k<3:=by unfold iD;omega
def ntN(x:Nat):Nat:=[1,0,2].getD x 2
def aBY(f:Ft)(w i:Nat):Nat:=if i<w then iD f i else 0
structure Mk(t:Nat->Nat)(n:Nat)(g:Ft):Prop where
 lN:g.N<2^n
 lO:g.O<2^n
 b0:∀ i,i<n->g.N[i]! =(t i==0)
 b1:∀ i,i<n->g.O[i]! =(t i==1)
def aNt{f:Ft}(hd:f.N&&&f.O=0)(k:Nat):(ntN (iD f k)==0)=f.O[k]!:=by rw[<- aBL hd k];have:=aLz f k;revert this;generalize iD f k=x;intro h;have:x=0\/x=1\/x=2:=();erw[50,this]<;>rfl
def aNf{f:Ft}(hd:f.N&&&f.O=0)(k:Nat):(ntN (iD f k)==1)=f.N[k]!:=by rw[<- aBx hd k];have:=aLz f k;revert this;generalize iD f k=x;intro h;have:x=0\/x=1\/x=2:=();erw[50,this]<;>rfl
def aVq(hf:FtOk f w)(hd:f.N&&&f.O=0):Mk (λ i=>ntN (iD f i)) w (f.O,f.N,f.A,):=
 (hf.lO,hf.lN,λ i _=>(aNt hd i).symm,λ i _=>(aNf hd i).symm,)
def aAV(w:Nat):2^w-1<2^w:=by have:=xAe w;omega
def aPx(n k i:Nat):(n*2^k)[i]! =(decide (k<=i)&&n[(i-k)]!):=by
 have:=@aG5 0 k n (xAe k) i;rw[yBz] at this;rw[this];by_cases c:i<k
 .rw[if_pos c,dqF (),yCk,yBl]
 .rw[if_neg c,dqT (),yBf]
def aD6(a w:Nat):bZ a w<2^w:=by apply yEb;intro i hi;rw[nA,dqF (show ¬ i<w by omega),yCu]
def aLI{f:Ft}(v w:Nat)(hd:f.N&&&f.O=0):Mk (iD f) w (nW v w f):=by
 refine(xAi Nat.and_le_right (aAV w),xAi Nat.and_le_right (aAV w),λ i hi=>?_,λ i hi=>?_,)
 .show(f.N&&&(2^w-1))[i]! =_;rw[yAy,fA,dqT hi,yDh,aBx hd]
 .show(f.O&&&(2^w-1))[i]! =_;rw[yAy,fA,dqT hi,yDh,aBL hd]
def aJO(h:n<2^v)(hv:v<=w):n<2^w:=xAb h (yAh (·) hv)
def aKn(hv:v<=w)(hf:FtOk f v)(hd:f.N&&&f.O=0):Mk (aBY f v) w (jB v w f):=by
 refine(yCr (aJO hf.lN hv) (aD6 _ _),aJO hf.lO hv,λ i hi=>?_,λ i hi=>?_,)
 .show(f.N|||bZ (w-v) w)[i]! =_;rw[xAo,nA,dqT hi,yDh];unfold aBY;by_cases c:i<v
  .rw[if_pos c,dqF (),yFq,aBx hd]
  .rw[if_neg c,dqT (),Bool.or_true];rfl
 .show f.O[i]! =_;unfold aBY;by_cases c:i<v
  .rw[if_pos c,aBL hd]
  .rw[if_neg c,gB hf.lO ()];rfl
def dD(x:Int)(w:Nat):Nat:=(x%((2^w:Nat):Int)).toNat
def nG(x:Int)(w:Nat):((dD x w:Nat):Int)=x%((2^w:Nat):Int):=by
 unfold dD;have:(0:Int)<((2^w:Nat):Int):=by have:=xAe w;omega
 have:=Int.emod_nonneg x (b:=((2^w:Nat):Int)) ();omega
def nN(x:Int)(w:Nat):dD x w<2^w:=by
 have h:=nG x w;have:(0:Int)<((2^w:Nat):Int):=by have:=xAe w;omega
 have:=yHi x this;omega
def aXn{x:Int}(h0:0<=x)(h1:x<((2^w:Nat):Int)):((dD x w:Nat):Int)=x:=by rw[nG,Int.emod_eq_of_lt h0 h1]
def aWQ(x:Int)(h:L<=w):dD x w%2^L=dD x L:=by
 have e:((dD x w%2^L:Nat):Int)=((dD x L:Nat):Int):=by
  rw[yEj,nG,nG];exact Int.emod_emod_of_dvd x (by
   have:(2:Nat)^L ∣ 2^w:=yEd 2 h;exact Int.natCast_dvd_natCast.mpr this)
 omega
def aVC(x:Int)(h:L<=w)(hi:i<L):(dD x w)[i]! =(dD x L)[i]!:=by rw[<- aWQ x h,yBx,dqT hi,yBf]
def wO(h:i<lr n):n[i]! =true:=by
 rw[aSF] at h;have h1:=aIO _ i h;have h2:(pJ n (bl n+1)).getD i false=true:=by rw[xAg,h1];rfl
 rw[aQi,yBv] at h2;exact h2.2
def aYe(h:n<2^w):lr n<=w:=by
 by_cases c:lr n<=w
 .exact c
 .have:=@wO w n ();rw[gB h (yAc _)] at this;cases this
def aD0{x y:Nat}(h:∀ i,x[i]! =true->y[i]! =true):x<=y:=by
 have:y&&&x=x:=by
  rw[aH7];exact h
 rw[<- this];exact yEv
def aVl(hx:x<2^w)(hy:y<2^w)(h:∀ i,x[i]! =true->y[i]! =false):y<=2^w-1-x:=by
 refine aD0 (y:=sG x w) λ i hi=>?_
 have hiw:i<w:=by
  by_cases c:i<w
  .exact c
  .rw[gB hy ()] at hi;cases hi
 rw[sZ hx,dqT hiw,yBf];cases q:x[i]! with
 |false=>rfl|true=>rw[h i q] at hi;cases hi
def aME(h:Hd f n w):f.O<=n:=aD0 h.2.1
def aMv(k:FtOk f w)(hn:n<2^w)(h:Hd f n w):n<=2^w-1-f.N:=aVl k.lN hn h.1
def aKO(h:Hd f n w)(hk:∀ i,i<L->(f.N|||f.O)[i]! =true):n%2^L=f.O%2^L:=by
 apply xAl;intro i;rw[yBx,yBx];by_cases c:i<L
 .rw[dqT c,yBf,yBf];have q:=hk i c;rw[xAo] at q;cases o:f.O[i]! with
  |true=>exact h.2.1 i o
  |false=>
    rw[o,yFq] at q;exact h.1 i q
 .rw[dqF c,yBl,yBl]
inductive Sw where|add|sub|mul
def Sw.oc:Sw->Int->Int->Int
 |.add,a,b=>a+b|.sub,a,b=>a-b|.mul,a,b=>a*b
def aHg(h:a%2^L=b%2^L):((a:Nat):Int)%((2^L:Nat):Int)=((b:Nat):Int)%((2^L:Nat):Int):=by rw[<- yEj,<- yEj,h]
def aUI(s:Sw){a b c e:Nat}{L:Nat}(h1:a%2^L=c%2^L)(h2:b%2^L=e%2^L):dD (s.oc a b) L=dD (s.oc c e) L:=by
 have g1:=aHg h1;have g2:=aHg h2;have:s.oc a b%((2^L:Nat):Int)=s.oc c e%((2^L:Nat):Int):=by
  cases s with
  |add=>show((a:Nat)+(b:Nat):Int)%_=((c:Nat)+(e:Nat):Int)%_;rw[Int.add_emod,g1,g2,<- Int.add_emod]|sub=>show((a:Nat)-(b:Nat):Int)%_=((c:Nat)-(e:Nat):Int)%_;rw[Int.sub_emod,g1,g2,<- Int.sub_emod]|mul=>show((a:Nat)*(b:Nat):Int)%_=((c:Nat)*(e:Nat):Int)%_;rw[Int.mul_emod,g1,g2,<- Int.mul_emod]
 unfold dD;rw[this]
def gD(f g:Ft):Nat:=lr ((f.N|||f.O)&&&(g.N|||g.O))
def aD1(k:FtOk f w):gD f g<=w:=aYe (xAi yEv (yCr k.lN k.lO))
def jE(s:Sw)(f g:Ft):Nat:=dD (s.oc (f.O:Nat) (g.O:Nat)) (gD f g)
def pW(s:Sw)(f g:Ft):Nat:=(2^gD f g-1)^^^jE s f g
def aIx(s:Sw)(k:FtOk f w)(h1:Hd f a w)(h2:Hd g b w)(hi:i<gD f g):(dD (s.oc (a:Nat) (b:Nat)) w)[i]! =(jE s f g)[i]!:=by
 have hk:∀ i,i<gD f g->(f.N|||f.O)[i]! =true/\(g.N|||g.O)[i]! =true:=λ i hi=>by
  have:=wO hi;rw[yAy,yBv] at this;exact this
 rw[aVC _ (aD1 k) hi,aUI s (aKO h1 λ i hi=>(hk i hi).1) (aKO h2 λ i hi=>(hk i hi).2)];rfl
def aRr(h:(jE s f g)[i]! =true):i<gD f g:=by
 by_cases c:i<gD f g
 .exact c
 .have hl:jE s f g<2^gD f g:=nN _ _;rw[gB hl ()] at h;cases h
def aQZ(h:(pW s f g)[i]! =true):i<gD f g/\(jE s f g)[i]! =false:=by
 unfold pW at h;rw[xAn,fA] at h;have hl:jE s f g<2^gD f g:=nN _ _;by_cases c:i<gD f g
 .rw[dqT c] at h;refine(c,?_,);cases q:(jE s f g)[i]! with|false=>rfl|true=>rw[q] at h;cases h
 .rw[dqF c,gB hl ()] at h;cases h
def fV(s:Sw)(w:Nat)(f g:Ft):Int:=match s with|.sub=>(f.O:Nat)-((2^w-1-g.N:Nat):Int)|s=>s.oc (f.O:Nat) (g.O:Nat)
def fS(s:Sw)(w:Nat)(f g:Ft):Int:=match s with|.sub=>((2^w-1-f.N:Nat):Int)-(g.O:Nat)|s=>s.oc ((2^w-1-f.N:Nat):Int) ((2^w-1-g.N:Nat):Int)
def aMY(s:Sw)(kf:FtOk f w)(kg:FtOk g w)(ha:a<2^w)(hb:b<2^w)(h1:Hd f a w)(h2:Hd g b w):fV s w f g<=s.oc (a:Nat) (b:Nat)/\s.oc (a:Nat) (b:Nat)<=fS s w f g:=by
 have l1:=aME h1;have l2:=aME h2;have m1:=aMv kf ha h1;have m2:=aMv kg hb h2;cases s with
 |add=>
   show((f.O:Nat)+(g.O:Nat):Int)<=(a:Nat)+(b:Nat)/\((a:Nat)+(b:Nat):Int)<=((2^w-1-f.N:Nat):Int)+((2^w-1-g.N:Nat):Int);generalize 2^w-1-f.N=F at *;generalize 2^w-1-g.N=G at *;omega
 |sub=>
   show((f.O:Nat)-((2^w-1-g.N:Nat):Int))<=(a:Nat)-(b:Nat)/\((a:Nat)-(b:Nat):Int)<=((2^w-1-f.N:Nat):Int)-(g.O:Nat);generalize 2^w-1-f.N=F at *;generalize 2^w-1-g.N=G at *;omega
 |mul=>
   show((f.O:Nat)*(g.O:Nat):Int)<=(a:Nat)*(b:Nat)/\((a:Nat)*(b:Nat):Int)<=((2^w-1-f.N:Nat):Int)*((2^w-1-g.N:Nat):Int);rw[<- yEw,<- yEw,<- yEw];exact(Int.ofNat_le.mpr (yFe l1 l2),Int.ofNat_le.mpr (yFe m1 m2),)
def oS(s:Sw)(w:Nat)(f g:Ft):Nat:=if fV s w f g<0\/fS s w f g>((2^w-1:Nat):Int) then 0 else sW (fV s w f g).toNat (fS s w f g).toNat w
def oF(s:Sw)(w:Nat)(f g:Ft):Nat:=if fV s w f g<0\/fS s w f g>((2^w-1:Nat):Int) then 0 else nR (fV s w f g).toNat (fS s w f g).toNat w
def aRD(hl:l<2^w)(hg:g<2^w):tP l g w<2^w:=by apply yEb;intro i hi;rw[aCS hl hg,dqF (),yBl]
def aIu(s:Sw)(kf:FtOk f w)(kg:FtOk g w)(ha:a<2^w)(hb:b<2^w)(h1:Hd f a w)(h2:Hd g b w) :
 (∀ i,(oS s w f g)[i]! =true->(dD (s.oc (a:Nat) (b:Nat)) w)[i]! =false)/\(∀ i,(oF s w f g)[i]! =true->(dD (s.oc (a:Nat) (b:Nat)) w)[i]! =true)/\oS s w f g<2^w/\oF s w f g<2^w:=by
 have hb':=aMY s kf kg ha hb h1 h2;have hp:=xAe w;unfold oS oF;by_cases c:fV s w f g<0\/fS s w f g>((2^w-1:Nat):Int)
 .rw[if_pos c,if_pos c];refine(λ i hi=>?_,λ i hi=>?_,hp,hp,)
  .rw[yCk] at hi;cases hi
  .rw[yCk] at hi;cases hi
 .rw[if_neg c,if_neg c];have e:=@aXn w (s.oc (a:Nat) (b:Nat)) () ();have q1:(fV s w f g).toNat<=dD (s.oc (a:Nat) (b:Nat)) w:=();have q2:dD (s.oc (a:Nat) (b:Nat)) w<=(fS s w f g).toNat:=();have q3:(fV s w f g).toNat<2^w:=();have q4:(fS s w f g).toNat<2^w:=();have n1:=aOg q3 q4 q1 q2;have n2:=aOG q3 q4 q1 q2;rw[and_zero] at n1;rw[aH7] at n2;have kl:=aRD q3 q4;exact(n1,n2,yDw kl (xAi yEv kl),xAi yEv kl,)
def qI(s:Sw)(w:Nat)(f g:Ft):Nat:=match s with|.mul=>2^min w (lr f.N+lr g.N)-1|_=>0
def aKc{n:Nat}(h:∀ i,i<L->n[i]! =false):2^L ∣ n:=by
 have:n%2^L=0:=by
  rw[oY];intro i;rw[yBx];by_cases c:i<L
  .rw[h i c,yCu]
  .rw[dqF c,yBl]
 exact Nat.dvd_of_mod_eq_zero this
def aTG(s:Sw)(h1:Hd f a w)(h2:Hd g b w):∀ i,(qI s w f g)[i]! =true->(dD (s.oc (a:Nat) (b:Nat)) w)[i]! =false:=by
 intro i hi;cases s with
 |add=>rw[show qI .add w f g=0 from rfl,yCk] at hi;cases hi
 |sub=>rw[show qI .sub w f g=0 from rfl,yCk] at hi;cases hi
 |mul=>
   have hi':(2^min w (lr f.N+lr g.N)-1)[i]! =true:=hi;rw[fA,decide_eq_true_eq] at hi';let(c,hc):=@aKc (lr f.N) a λ i hi=>h1.1 i (wO hi)
   let(e,he):=@aKc (lr g.N) b λ i hi=>h2.1 i (wO hi)
   have ex:dD (Sw.mul.oc (a:Nat) (b:Nat)) w=a*b%2^w:=by
    have:=nG (Sw.mul.oc (a:Nat) (b:Nat)) w;have e2:Sw.mul.oc (a:Nat) (b:Nat)=((a*b:Nat):Int):=(yEw a b).symm;rw[e2,<- yEj] at this;rw[e2];omega
   rw[ex,yBx,dqT (),yBf];have:a*b=c*e*2^(lr f.N+lr g.N):=by
    rw[hc,he,Nat.pow_add];simp only[yGh,Nat.mul_left_comm,Nat.mul_assoc]
   rw[this,aPx,dqF (),yBl]
def aEi(hn:n<2^w)(ha:a<=w):((∀ i,w-a<=i->i<w->n[i]! =true)\/(∀ i,w-a<=i->i<w->n[i]! =false)) ↔ 2^w-2^(w-a)<=n\/n<2^(w-a):=by
 have hp:=xAe (w-a);have e1:(2:Nat)^w=2^a*2^(w-a):=by rw[<- Nat.pow_add,show a+(w-a)=w by omega]
 have hpa:=xAe a;rw[<- aRO hn ha,<- aRy hn ha];have q0:n/2^(w-a)=0 ↔ n<2^(w-a):=by
  rw[Nat.div_eq_zero_iff];omega
 have q1:n/2^(w-a)=2^a-1 ↔ 2^w-2^(w-a)<=n:=by
  have es:(2^a-1)*2^(w-a)=2^w-2^(w-a):=by rw[Nat.sub_mul,Nat.one_mul,<- e1]
  constructor
  .intro h;have:=Nat.div_mul_le_self n (2^(w-a));rw[h,es] at this;exact this
  .intro h;have g1:2^a-1<=n/2^(w-a):=by
    rw[Nat.le_div_iff_mul_le hp,es];exact h
   have g2:n/2^(w-a)<2^a:=by
    rw[Nat.div_lt_iff_lt_mul hp,<- e1];exact hn
   omega
 rw[q0,q1]
def kB(s:Sw)(f g:Ft):Nat:=match s with|.mul=>1|_=>max 1 (min f.A g.A-1)
def aI3{n:Nat}(ha:m<=a)(h:(∀ i,w-a<=i->i<w->n[i]! =true)\/(∀ i,w-a<=i->i<w->n[i]! =false)):(∀ i,w-m<=i->i<w->n[i]! =true)\/(∀ i,w-m<=i->i<w->n[i]! =false):=by
 rcases h with h|h
 .exact .inl λ i a b=>h i (xAh (yFj ha _) a) b
 .exact .inr λ i a b=>h i (xAh (yFj ha _) a) b
def xA(n w:Nat):(∀ i,w-1<=i->i<w->n[i]! =true)\/(∀ i,w-1<=i->i<w->n[i]! =false):=by
 cases c:n[(w-1)]! with
 |true=>exact .inl λ i h1 h2=>by rw[show i=w-1 by omega];exact c|false=>exact .inr λ i h1 h2=>by rw[show i=w-1 by omega];exact c
def aLf{W:Nat}(ha:a<W)(h:W-T<=a\/a<T)(hT:T<=W):∃ x k:Int,((a:Nat):Int)=x+k*((W:Nat):Int) /\ -((T:Nat):Int)<=x/\x<((T:Nat):Int):=by
 rcases h with h|h
 .exact((a:Int)-W,1,by omega,by omega,by omega,)
 .exact((a:Int),0,by omega,by omega,by omega,)
def aTT{x W T r k:Int}(h:r=x+k*W)(h1 : -(2*T)<=x)(h2:x<2*T)(hT:2*T<=W)(r0:0<=r)(rW:r<W):W-2*T<=r\/r<2*T:=by
 rcases (show k <= -1\/k=0\/k=1\/2<=k by omega) with c|rfl|rfl|c
 .have:k*W<=(-1)*W:=yGi c ();omega
 .exact .inr ()
 .exact .inl ()
 .have:2*W<=k*W:=yGi c ();omega
def aVv{x y k l W z:Int}:(x+k*W+(y+l*W))-W*z=x+y+(k+l-z)*W:=by rw[Int.sub_mul,Int.add_mul,Int.mul_comm W z];omega
def aVz{x y k l W z:Int}:(x+k*W-(y+l*W))-W*z=x-y+(k-l-z)*W:=by rw[Int.sub_mul,Int.sub_mul,Int.mul_comm W z];omega
def aZ6(c:kB s f g≠1):(kB s f g=min f.A g.A-1/\2<=min f.A g.A-1)/\s≠.mul:=by
 cases s with
 |mul=>exact absurd rfl c
 |add=>
   have e:kB .add f g=max 1 (min f.A g.A-1):=rfl;exact⟨by omega,λ h=>nomatch h⟩
 |sub=>
   have e:kB .sub f g=max 1 (min f.A g.A-1):=rfl;exact⟨by omega,λ h=>nomatch h⟩
def aUe(s:Sw)(kf:FtOk f w)(kg:FtOk g w)(ha:a<2^w)(hb:b<2^w)(h1:Hd f a w)(h2:Hd g b w) :
 (∀ i,w-kB s f g<=i->i<w->(dD (s.oc (a:Nat) (b:Nat)) w)[i]! =true)\/(∀ i,w-kB s f g<=i->i<w->(dD (s.oc (a:Nat) (b:Nat)) w)[i]! =false):=by
 by_cases c:kB s f g=1
 .rw[c];exact xA _ _
 .have hw:=kf.aw;let((hA,hm),hs):=aZ6 c;have g1:min f.A g.A<=f.A:=yBh ..;have g2:min f.A g.A<=g.A:=yFf ..;rw[hA];generalize min f.A g.A=m at *;have hmw:m<=w:=xAh g1 hw;rw[aEi (nN _ _) (xAh (yDv m 1) hmw)];have a1:=(aEi ha hmw).mp (aI3 g1 h1.2.2);have a2:=(aEi hb hmw).mp (aI3 g2 h2.2.2);have e:(2:Nat)^(w-(m-1))=2*2^(w-m):=by
   rw[show w-(m-1)=w-m+1 by omega,yFn,yGh]
  have hT:2*2^(w-m)<=2^w:=by
   rw[<- e];exact yAh (·) (yDv ..)
  rw[e];have hT1:2^(w-m)<=2^w:=yAh (·) (yDv ..);let(x,k,e1,x1,x2):=aLf ha a1 hT1;let(y,l,e2,y1,y2):=aLf hb a2 hT1;have hr:=nG (s.oc (a:Nat) (b:Nat)) w;have hl:=nN (s.oc (a:Nat) (b:Nat)) w;rw[Int.emod_def] at hr;generalize dD (s.oc (a:Nat) (b:Nat)) w=r at *;generalize s.oc (a:Nat) (b:Nat)/((2^w:Nat):Int)=z at *;generalize (2:Nat)^w=W at *;generalize (2:Nat)^(w-m)=T at *;clear a1 a2 h1 h2 e g1 g2 hmw hw hm hA c;have cV:∀ {x k:Int},(r:Int)=x+k*(W:Int) -> -(2*(T:Int))<=x->x<2*(T:Int)->W-2*T<=r\/r<2*T:=λ q1 q2 q3=>by
   rcases aTT q1 q2 q3 () () () with q|q
   .exact .inl ()
   .exact .inr ()
  cases s with
  |mul=>exact absurd rfl hs
  |add=>
    have hk:(r:Int)=(a:Int)+(b:Int)-(W:Int)*z:=hr;rw[e1,e2,aVv] at hk;exact cV hk () ()
  |sub=>
    have hk:(r:Int)=(a:Int)-(b:Int)-(W:Int)*z:=hr;rw[e1,e2,aVz] at hk;exact cV hk () ()
def sA(s:Sw)(w:Nat)(f g:Ft):Ft:=(pW s f g|||oS s w f g|||qI s w f g,jE s f g|||oF s w f g,kB s f g,)
def aQU(s:Sw)(kf:FtOk f w)(kg:FtOk g w)(ha:a<2^w)(hb:b<2^w)(h1:Hd f a w)(h2:Hd g b w):Hd (sA s w f g) (dD (s.oc (a:Nat) (b:Nat)) w) w:=by
 let(t1,t2,_,_):=aIu s kf kg ha hb h1 h2;refine(λ i hi=>?_,λ i hi=>?_,aUe s kf kg ha hb h1 h2,)
 .have hi':(pW s f g|||oS s w f g|||qI s w f g)[i]! =true:=hi;rw[xAo,xAo,yDo,yDo] at hi';rcases hi' with (q|q)|q
  .let(q1,q2):=aQZ q;rw[aIx s kf h1 h2 q1,q2]
  .exact t1 i q
  .exact aTG s h1 h2 i q
 .have hi':(jE s f g|||oF s w f g)[i]! =true:=hi;rw[xAo,yDo] at hi';rcases hi' with q|q
  .rw[aIx s kf h1 h2 (aRr q),q]
  .exact t2 i q
def aCX(h:n<2^v)(hv:v<=w):n<2^w:=xAb h (yAh (·) hv)
def aW1(s:Sw)(kf:FtOk f w)(kg:FtOk g w)(ha:a<2^w)(hb:b<2^w)(h1:Hd f a w)(h2:Hd g b w):FtOk (sA s w f g) w:=by
 let(_,_,t3,t4):=aIu s kf kg ha hb h1 h2;have hL:=aD1 (g:=g) kf;have hO:jE s f g<2^gD f g:=nN _ _;have hN:pW s f g<2^gD f g:=yDw (by have:=xAe (gD f g);omega) hO;have hl:qI s w f g<2^w:=by
  have:=xAe w;cases s with
  |add=>exact this|sub=>exact this|mul=>exact aCX (v:=min w (lr f.N+lr g.N)) (by show 2^min w (lr f.N+lr g.N)-1<_;have:=xAe (min w (lr f.N+lr g.N));omega) ()
 have q1:=kf.aw;have q2:=kf.a1;refine(yCr (yCr (aCX hN hL) t3) hl,yCr (aCX hO hL) t4,?_,?_,)
 .show 1<=kB s f g;cases s with|mul=>exact yAc 1|add=>exact yBq _ _|sub=>exact yBq _ _
 .show kB s f g<=w;cases s with|mul=>show 1<=w;omega|add=>exact Nat.max_le.mpr (xAh q2 q1,xAh (yDv _ _) (xAh (yBh _ _) q1),)|sub=>exact Nat.max_le.mpr (xAh q2 q1,xAh (yDv _ _) (xAh (yBh _ _) q1),)
def F1:Ft:=(0,1,1,)
def F0:Ft:=(1,0,1,)
def fU:Ft:=(0,0,1,)
def l3(a b c e:Int):Ft:=if b<c then F1 else if e<=a then F0 else fU
def tt(f:Ft)(w:Nat):Ft:=(f.N^^^((f.N^^^f.O)&&&bZ 1 w),f.O^^^((f.N^^^f.O)&&&bZ 1 w),f.A,)
def Al(n w a:Nat):Prop:=(∀ i,w-a<=i->i<w->n[i]! =true)\/(∀ i,w-a<=i->i<w->n[i]! =false)
def aLY{f:Ft}(hd:f.N&&&f.O=0)(h:Hd f a w)(j:Nat):(iD f j=0->a[j]! =false)/\(iD f j=1->a[j]! =true):=by
 refine(λ e=>h.1 j ?_,λ e=>h.2.1 j ?_,)
 .rw[<- aBx hd j,beq_iff_eq];exact e
 .rw[<- aBL hd j,beq_iff_eq];exact e
def aDu{t:Nat->Nat}{z:Nat}(m:Mk t n g)(hz:∀ i,i<n->(t i=0->z[i]! =false)/\(t i=1->z[i]! =true))(ha:Al z n g.A):Hd g z n:=by
 have hl:∀ {x:Nat},x<2^n->∀ i,x[i]! =true->i<n:=λ {x} hx i hi=>by
  by_cases c:i<n
  .exact c
  .rw[gB hx ()] at hi;cases hi
 refine(λ i hi=>?_,λ i hi=>?_,ha,)
 .have c:=hl m.lN i hi;rw[m.b0 i c,beq_iff_eq] at hi;exact(hz i c).1 hi
 .have c:=hl m.lO i hi;rw[m.b1 i c,beq_iff_eq] at hi;exact(hz i c).2 hi
def aUN(n w:Nat):dD ((n:Nat):Int) w=n%2^w:=by have:=nG ((n:Nat):Int) w;rw[<- yEj] at this;omega
section
variable {f:Ft}{a w:Nat}(hf:FtOk f w)(hd:f.N&&&f.O=0)(ha:a<2 ^ w)(h:Hd f a w)
include hf hd ha h
theorem aRG:Hd (f.O,f.N,f.A,) (2^w-1-a) w:=by
 refine aDu (aVq hf hd) (λ i hi=>?_) ?_
 .rw[aBj ha hi];refine(λ e=>?_,λ e=>?_,)
  .have:f.O[i]! =true:=by rw[<- aNt hd i,beq_iff_eq];exact e
   rw[h.2.1 i this];rfl
  .have:f.N[i]! =true:=by rw[<- aNf hd i,beq_iff_eq];exact e
   rw[h.1 i this];rfl
 .rcases h.2.2 with q|q
  .exact .inr λ i h1 h2=>by rw[aBj ha h2,q i h1 h2];rfl
  .exact .inl λ i h1 h2=>by rw[aBj ha h2,q i h1 h2];rfl
theorem aRA(hv:v<=w):Hd (nW w v f) (a%2^v) v:=by
 have hb:∀ i,i<v->(a%2^v)[i]! =a[i]!:=λ i hi=>by rw[yBx,dqT hi,yBf]
 refine aDu (aLI w v hd) (λ i hi=>?_) ?_
 .rw[hb i hi];exact aLY hd h _
 .have h1:=hf.aw;show Al _ v (max 1 (f.A-(w-v)));by_cases c:f.A-(w-v)<=1
  .rw[Nat.max_eq_left c];exact xA _ _
  .rw[Nat.max_eq_right ()];rcases h.2.2 with q|q
   .exact .inl λ i h1 h2=>by rw[hb i h2];exact q _ () ()
   .exact .inr λ i h1 h2=>by rw[hb i h2];exact q _ () ()
theorem aQD(hv:w<=v):Hd (jB w v f) a v:=by
 refine aDu (aKn hv hf hd) (λ i hi=>?_) ?_
 .unfold aBY;by_cases c:i<w
  .rw[if_pos c];exact aLY hd h i
  .rw[if_neg c,gB ha ()];exact⟨λ _=>rfl,λ e=>nomatch e⟩
 .show Al _ v (if v=w then f.A else 1);by_cases c:v=w
  .subst c;rw[if_pos rfl];exact h.2.2
  .rw[if_neg c];exact xA _ _
end
def sgn(a w:Nat):Int:=if 2^(w-1)<=a then (a:Nat)-((2^w:Nat):Int) else (a:Nat)
def aJt{i:Nat}{p:Prop}(h:(0:Nat)[i]! =true):p:=by rw[yCk] at h;cases h
def tw(a w:Nat):Int:=sgn a w+((2^(w-1):Nat):Int)
def aXk(a b:D):aV (.tuple [a,b]) (.int 0)=qz a:=rfl
def aYZ(a b:D):aV (.tuple [a,b]) (.int 1)=qz b:=rfl
def aSg(a:Wd):aP .In (.str a.s) (.tuple [.str "add",.str "sub",.str "mul"])=qz (.bool (decide (a=.add\/a=.sub\/a=.mul))):=by cases a<;>rfl
def aYG(a:Wd):aP .In (.str a.s) (.tuple [.str "and",.str "or",.str "xor"])=qz (.bool (decide (a=.and\/a=.or\/a=.xor))):=by cases a<;>rfl
def iV{j:Int}(h:env[i]?=qz (qz (.d R)))(e:aV R (.int j)=qz x):ev C (.ix (.var i) (.int j)) env S=qz (.d x,S):=by erw[0,h,e]
noncomputable abbrev oe(R Wi Fs:D)(wd:Wd)(v:Int):bB:=[qz (.d R),qz (.d Wi),qz (.d Fs),qz (.d (.str wd.s)),(v:)]
section
variable (C:Calls)(R Wi Fs:D)(v:Int)(S:aD)(wd:Wd)
theorem zN:tv C (.cmp .Eq (.var 3) (.str "in")) (oe R Wi Fs wd v) S=qz (decide (wd=.in),S):=fP rfl (cG wd .in)
theorem nJ:tv C (.cmp .Eq (.var 3) (.str "num")) (oe R Wi Fs wd v) S=qz (decide (wd=.num),S):=fP rfl (cG wd .num)
theorem rG:tv C (.cmp .Eq (.var 3) (.str "not")) (oe R Wi Fs wd v) S=qz (decide (wd=.not),S):=fP rfl (cG wd .not)
theorem aLF:tv C (.cmp .Eq (.var 3) (.str "pick")) (oe R Wi Fs wd v) S=qz (decide (wd=.pick),S):=fP rfl (cG wd .pick)
theorem aKS:tv C (.cmp .In (.var 3) (.con "SUMS" aED)) (oe R Wi Fs wd v) S=qz (decide (wd=.add\/wd=.sub\/wd=.mul),S):=rF rfl rfl (aSg wd)
theorem aAQ:tv C (.cmp .In (.var 3) (.con "SHIFTS" oW)) (oe R Wi Fs wd v) S=qz (decide (wd=.left\/wd=.right\/wd=.slide),S):=rF rfl rfl (aDo wd)
theorem aKX:tv C (.cmp .In (.var 3) (.con "COMPARES" mY)) (oe R Wi Fs wd v) S=qz (decide (wd=.same\/wd=.less\/wd=.under),S):=rF rfl rfl (aDJ wd)
theorem aZY:tv C (.cmp .In (.var 3) (.tup (.cons (.str "and") (.cons (.str "or") (.cons (.str "xor") .nil))))) (oe R Wi Fs wd v) S=qz (decide (wd=.and\/wd=.or\/wd=.xor),S):=rF rfl rfl (aYG wd)
end
def aV7{wd:Wd}(h:wd=.cut\/wd=.wide\/wd=.sign):¬ wd=.in/\¬ wd=.num/\¬ wd=.not/\¬ (wd=.add\/wd=.sub\/wd=.mul)/\¬ (wd=.left\/wd=.right\/wd=.slide)/\¬ (wd=.same\/wd=.less\/wd=.under)/\¬ wd=.pick/\¬ (wd=.and\/wd=.or\/wd=.xor):=by erw[50,h]<;>decide
section
variable (d:Nat)(R Wi Fs:D)(v:Int)(S:aD)
theorem aRV(f:Ft)(e0:aV R (.int 0)=qz (.str "not"))(e1:aV R (.int 1)=qz (.int v))(ef:aV Fs (.int 0)=qz f.d):cl fns (d+1) 46 [.d R,.d Wi,.d Fs] S=qz (.d (Ft.mk f.O f.N f.A).d,S):=by have t1:=zN (aF fns d) R Wi Fs v S .not;have t2:=nJ (aF fns d) R Wi Fs v S .not;have t3:=rG (aF fns d) R Wi Fs v S .not;refine gJ (S1:=S) rfl d rfl rfl yAi (bQ (S1:=S) (w:=.d (.str Wd.not.s)) (iV rfl e0) rfl (bQ (S1:=S) (w:=.d (.int v)) (iV rfl e1) rfl (bF t1 (bF t2 (cF t3 (bH ?_))))));erw[0,ef,mN,pP,aB4]
theorem aAR(wd:Wd)(fZ:wd=.cut\/wd=.wide\/wd=.sign)(f:Ft)(w:Int)(g:D)(e0:aV R (.int 0)=qz (.str wd.s))(e1:aV R (.int 1)=qz (.int v))(ew:aV Wi (.int 0)=qz (.int w))(ef:aV Fs (.int 0)=qz f.d)(hk:cl fns d 40 [.d (.str wd.s),.d (.int w),.d (.int v),.d f.d] S=qz (.d g,S)):cl fns (d+1) 46 [.d R,.d Wi,.d Fs] S=qz (.d g,S):=by have t1:=zN (aF fns d) R Wi Fs v S wd;have t2:=nJ (aF fns d) R Wi Fs v S wd;have t3:=rG (aF fns d) R Wi Fs v S wd;have t4:=aKS (aF fns d) R Wi Fs v S wd;have t5:=aAQ (aF fns d) R Wi Fs v S wd;have t6:=aKX (aF fns d) R Wi Fs v S wd;have t7:=aLF (aF fns d) R Wi Fs v S wd;have t8:=aZY (aF fns d) R Wi Fs v S wd;let(n1,n2,n3,n4,n5,n6,n7,n8):=aV7 fZ;rw[dqF n1] at t1;rw[dqF n2] at t2;rw[dqF n3] at t3;rw[dqF n4] at t4;rw[dqF n5] at t5;rw[dqF n6] at t6;rw[dqF n7] at t7;rw[dqF n8] at t8;refine gJ (S1:=S) rfl d rfl rfl yAi (bQ (S1:=S) (w:=.d (.str wd.s)) (iV rfl e0) rfl (bQ (S1:=S) (w:=.d (.int v)) (iV rfl e1) rfl (bF t1 (bF t2 (bF t3 (bF t4 (bF t5 (bF t6 (bF t7 (bF t8 (bH ?_)))))))))));erw[0,ew,ef,hk]
theorem aA4(n:Nat)(g:Ft)(e1:aV R (.int 1)=qz (.int n))(ho:cl fns (d+3) 46 [.d R,.d Wi,.d Fs] S=qz (.d g.d,S))(hg:FtOk g n)(hn:n<=64):cl fns (d+4) 47 [.d R,.d Wi,.d Fs] S=qz (.d (fJ g n).d,S):=by rw[bX rfl (d+3) _ S rfl];erw[11,aL0,ho,e1,aPV d g n hg hn]
end
def aDk(d:Nat)(f:Ft)(S:aD):cl fns (d+1) 22 [.d f.d] S=qz (.d (.int ((f.N|||f.O:Nat):Int)),S):=by rw[bX rfl d _ S rfl];erw[11,aG1,mN,pP,iO]
def qN(n:Nat):(((n:Nat):Int)==1)=(n==1):=by rw[yEs,beq_iff_eq,beq_iff_eq];omega
structure Ftd(f:Ft)(w:Nat):Prop where
 ok:FtOk f w
 dj:f.N&&&f.O=0
def Sw.wd:Sw->Wd
 |.add=>.add|.sub=>.sub|.mul=>.mul
def aAo(x:Int)(L:Nat):bO .BitAnd (.int x) (.int ((2^L-1:Nat):Int))=qz (.int ((dD x L:Nat):Int)):=by
 have hp:=xAe L;by_cases c:0<=x
 .obtain⟨n,rfl⟩:∃ n:Nat,x=(n:Nat):=(x.toNat,by omega,);rw[fO,aUN,yCy]
 .have h1:decide ((0:Int)<=x)=false:=dqF c;have h2:decide ((0:Int)<=((2^L-1:Nat):Int))=true:=dqT ();obtain⟨b,hb⟩:∃ b:Nat,yBr x=(b:Nat):=((yBr x).toNat,by unfold yBr;omega,);have hx:x = -((b:Nat):Int)-1:=by unfold yBr at hb;omega
  have e:(2^L-1)&&&b=b%2^L:=by rw[Nat.and_comm,yCy]
  have hm:=Nat.mod_lt b hp;have hr:=nG x L;have e2:x%((2^L:Nat):Int)=((2^L:Nat):Int)-1-((b%2^L:Nat):Int):=by
   have hd:(b:Int)=((2^L:Nat):Int)*((b/2^L:Nat):Int)+((b%2^L:Nat):Int):=by
    rw[<- yEw,<- Int.natCast_add,yGt]
   have hx2:x=(((2^L:Nat):Int)-1-((b%2^L:Nat):Int))+((2^L:Nat):Int)*(-((b/2^L:Nat):Int)-1):=by
    rw[hx,hd,Int.mul_sub,Int.mul_neg,Int.mul_one];omega
   rw[hx2,Int.add_mul_emod_self_left,Int.emod_eq_of_lt () ()]
  simp only[bO,kN];unfold yEl;rw[h1,h2];simp only[hb,yAu,e];congr 2;omega
def aCT(d:Nat)(s:Sw)(x y:Nat)(hx:x<2^64)(S:aD):cl fns (d+1) 26 [.d (.str s.wd.s),.d (.int x),.d (.int y)] S=qz (.d (.int (s.oc (x:Nat) (y:Nat))),S):=by
 have t1:=@fP [qz (.d (.str s.wd.s)),(x:),(y:)] 0 _ "add" _ S (aF fns d) rfl (cG s.wd .add);have t2:=@fP [qz (.d (.str s.wd.s)),(x:),(y:)] 0 _ "sub" _ S (aF fns d) rfl (cG s.wd .sub);cases s with
 |add=>
   refine gJ (S1:=S) rfl d rfl rfl yAi (cF t1 (bH ?_));erw[0,kI]
 |sub=>
   refine gJ (S1:=S) rfl d rfl rfl yAi (bF t1 (cF t2 (bH ?_)));erw[0,eJ]
 |mul=>
   refine gJ (S1:=S) rfl d rfl rfl yAi (bF t1 (bF t2 (bH ?_)));have hq22:=@lT (x:Int) (y:Int) () ();erw[0,hq22]
def p64(h:n<2^w)(hw:w<=64):n<2^64:=xAb h (yAh (·) hw)
def aSy(d:Nat)(s:Sw)(w:Nat)(f g:Ft)(hf:FtOk f w)(hw:w<=64)(S:aD):cl fns (d+3) 27 [.d (.str s.wd.s),.d f.d,.d g.d] S=qz (.d (.tuple [.int ((pW s f g:Nat):Int),.int ((jE s f g:Nat):Int)]),S):=by have hL:=aD1 (g:=g) hf;have e1:=aEz d ((f.N|||f.O)&&&(g.N|||g.O)) S;have e2:=dU (d+1) (gD f g) (show gD f g<=100000 by omega) S;rw[bX rfl (d+2) _ S rfl];erw[20,gW,aHf,aDk (d+1),fO];rw[e1];erw[20,show lr ((f.N|||f.O)&&&(g.N|||g.O))=gD f g from rfl];rw[e2];erw[0,aDn (d+1),aCT (d+1) s f.O g.O (p64 hf.lO hw),aAo,kJ]
def aQt(d:Nat)(s:Sw)(w:Nat)(f g:Ft)(hf:FtOk f w)(hg:FtOk g w)(hw:w<=64)(S:aD):cl fns (d+3) 29 [.d (.str s.wd.s),.d (.int w),.d f.d,.d g.d] S=qz (.d (.tuple [.int (fV s w f g),.int (fS s w f g)]),S):=by
 have g1:=aG3 d f w hf.lN hw S;have g2:=aG3 d g w hg.lN hw S;have l1:=aDn (d+1) f S;have l2:=aDn (d+1) g S;have hp:=xAe w;have o1:=aCT (d+1) s f.O g.O (p64 hf.lO hw) S;have o2:=aCT (d+1) s (2^w-1-f.N) (2^w-1-g.N) (@p64 _ w () hw) S;have t1:aP .Eq (.str s.wd.s) (.str "sub")=qz (.bool (decide (s.wd=.sub))):=cG s.wd .sub;rw[bX rfl (d+2) _ S rfl];cases s with
 |sub=>
   have t:aP .Eq (.str Sw.sub.wd.s) (.str "sub")=qz (.bool true):=t1;erw[11,aAZ,t,g1,g2,l1,l2,eJ]
 |add=>
   have t:aP .Eq (.str Sw.add.wd.s) (.str "sub")=qz (.bool false):=t1;erw[11,aAZ,t,g1,g2,l1,l2,o1,o2]
 |mul=>
   have t:aP .Eq (.str Sw.mul.wd.s) (.str "sub")=qz (.bool false):=t1;erw[11,aAZ,t,g1,g2,l1,l2,o1,o2]
def aQb(d l g w:Nat)(S:aD)(hl:l<2^w)(hg:g<2^w)(hw:w<=64):cl fns (d+3) 6 [.d (.int l),.d (.int g),.d (.int w)] S=qz (.d (.tuple [.int (sW l g w:Nat),.int (nR l g w:Nat)]),S):=by have hx:l^^^g<2^10000:=aLp (yDw hl hg) ();rw[bX rfl (d+2) _ S rfl];have hq23:=dU (d+1) w ();erw[11,aG6,hq23,kJ,aAL d (l^^^g) _ hx,fO]
def aX2(s:Sw)(w:Nat)(f g:Ft)(hf:FtOk f w)(hg:FtOk g w)(ha:a<2^w)(hb:b<2^w)(h1:Hd f a w)(h2:Hd g b w):fV s w f g<=fS s w f g:=by have:=aMY s hf hg ha hb h1 h2;omega
def aSY(d:Nat)(s:Sw)(w:Nat)(f g:Ft)(hf:FtOk f w)(hg:FtOk g w)(hb:fV s w f g<=fS s w f g)(hw:w<=64)(S:aD):cl fns (d+4) 30 [.d (.str s.wd.s),.d (.int w),.d f.d,.d g.d] S=qz (.d (.tuple [.int ((oS s w f g:Nat):Int),.int ((oF s w f g:Nat):Int)]),S):=by
 have b1:=aQt d s w f g hf hg hw S;have hp:=xAe w;rw[bX rfl (d+3) _ S rfl];unfold oS oF;by_cases c1:fV s w f g<0
 .rw[if_pos (.inl c1),if_pos (.inl c1)];erw[11,aAu,b1,wZ,dqT c1]
 .by_cases c2:((2^w-1:Nat):Int)<fS s w f g
  .rw[if_pos (.inr c2),if_pos (.inr c2)];have hq24:=dU (d+2) w ();erw[11,aAu,b1,wZ,dqF c1,hq24,tJ,dqT c2]
  .have c:¬ (fV s w f g<0\/fS s w f g>((2^w-1:Nat):Int)):=λ h=>h.elim c1 c2
   rw[if_neg c,if_neg c];obtain⟨l,hl⟩:∃ l:Nat,fV s w f g=(l:Nat):=((fV s w f g).toNat,by omega,);obtain⟨u,hu⟩:∃ u:Nat,fS s w f g=(u:Nat):=((fS s w f g).toNat,by omega,);rw[hl] at c1;rw[hu] at c2;rw[hl,hu] at b1 hb;rw[hl,hu,yAu,yAu];have hq25:=dU (d+2) w ();have hq26:=aQb d l u w S () () hw;erw[11,aAu,b1,wZ,dqF c1,hq25,tJ,dqF c2,hq26]
def aTv(d:Nat)(s:Sw)(w:Nat)(f g:Ft)(hw:w<=64)(S:aD):cl fns (d+3) 28 [.d (.str s.wd.s),.d (.int w),.d f.d,.d g.d] S=qz (.d (.int ((qI s w f g:Nat):Int)),S):=by
 rw[bX rfl (d+2) _ S rfl];cases s with
 |add=>
   have t:aP .NotEq (.str Sw.add.wd.s) (.str "mul")=qz (.bool true):=by kernel_rfl
   erw[11,aAm,t]
 |sub=>
   have t:aP .NotEq (.str Sw.sub.wd.s) (.str "mul")=qz (.bool true):=by kernel_rfl
   erw[11,aAm,t]
 |mul=>
   have t:aP .NotEq (.str Sw.mul.wd.s) (.str "mul")=qz (.bool false):=by kernel_rfl
   have e:((lr f.N:Nat):Int)+((lr g.N:Nat):Int)=((lr f.N+lr g.N:Nat):Int):=();have hq27:=dU (d+1) (min w (lr f.N+lr g.N)) ();erw[11,aAm,t,mN,aEz d,kI,e,aC6,hq27]
def aPZ(d:Nat)(s:Sw)(f g:Ft)(S:aD):cl fns (d+1) 31 [.d (.str s.wd.s),.d f.d,.d g.d] S=qz (.d (.int ((kB s f g:Nat):Int)),S):=by
 have e:∀ m:Nat,pS [.int 1,.int (((m:Nat):Int)-1)]=qz (.int ((max 1 (m-1):Nat):Int)):=λ m=>aIi m 1
 rw[bX rfl d _ S rfl];cases s with
 |add=>
   have t:aP .Eq (.str Sw.add.wd.s) (.str "mul")=qz (.bool false):=cG .add .mul;erw[11,aAw,t,aB4,aC6,eJ,e]
 |sub=>
   have t:aP .Eq (.str Sw.sub.wd.s) (.str "mul")=qz (.bool false):=cG .sub .mul;erw[11,aAw,t,aB4,aC6,eJ,e]
 |mul=>
   have t:aP .Eq (.str Sw.mul.wd.s) (.str "mul")=qz (.bool true):=cG .mul .mul;erw[11,aAw,t]
def aU3(d:Nat)(s:Sw)(w:Nat)(f g:Ft)(hf:FtOk f w)(hg:FtOk g w)(hb:fV s w f g<=fS s w f g)(hw:w<=64)(S:aD):cl fns (d+5) 32 [.d (.str s.wd.s),.d (.int w),.d f.d,.d g.d] S=qz (.d (sA s w f g).d,S):=by rw[bX rfl (d+4) _ S rfl];erw[11,aHx,aSy (d+1) s w f g hf hw,aSY d s w f g hf hg hb hw,aXk,aYZ,iO,aTv (d+1) s w f g hw,aPZ (d+3) s f g]
section
variable (d:Nat)(R Wi Fs:D)(v:Nat)(S:aD)
theorem aIS(s:Sw)(f g:Ft)(e0:aV R (.int 0)=qz (.str s.wd.s))(e1:aV R (.int 1)=qz (.int v))(ef:aV Fs (.int 0)=qz f.d)(eg:aV Fs (.int 1)=qz g.d)(hf:FtOk f v)(hg:FtOk g v)(hb:fV s v f g<=fS s v f g)(hv:v<=64):cl fns (d+6) 46 [.d R,.d Wi,.d Fs] S=qz (.d (sA s v f g).d,S):=by
 have fZ:s.wd=.add\/s.wd=.sub\/s.wd=.mul:=by
  cases s
  .exact .inl rfl
  .exact .inr (.inl rfl)
  .exact .inr (.inr rfl)
 have t1:=zN (d<$>5) R Wi Fs (v:Nat) S s.wd;have t2:=nJ (d<$>5) R Wi Fs (v:Nat) S s.wd;have t3:=rG (d<$>5) R Wi Fs (v:Nat) S s.wd;have t4:=aKS (d<$>5) R Wi Fs (v:Nat) S s.wd;rw[dqT fZ] at t4;rw[dqF (by rcases fZ with h|h|h<;>rw[h]<;>decide)] at t1 t2 t3;refine gJ (S1:=S) rfl (d+5) rfl rfl yAi (bQ (S1:=S) (w:=.d (.str s.wd.s)) (iV rfl e0) rfl (bQ (S1:=S) (w:=.d (.int v)) (iV rfl e1) rfl (bF t1 (bF t2 (bF t3 (cF t4 (bH ?_)))))));erw[0,ef,eg,aU3 d s v f g hf hg hb hv]
end
section
variable {f:Ft}{w:Nat}(hf:FtOk f w)(hd:f.N&&&f.O=0)(gG:1 <= w)
include hf hd gG
theorem aKJ(hv1:1<=v)(hv:v<=w):FtOk (nW w v f) v:=by have m:=aLI w v hd;have h1:=hf.aw;exact(m.lN,m.lO,yBq _ _,by show max 1 (f.A-(w-v))<=v;omega,)
theorem aKm(hv:w<=v):FtOk (jB w v f) v:=by
 have m:=aKn hv hf hd;have h1:=hf.aw;have h2:=hf.a1;refine(m.lN,m.lO,?_,?_,)
 .show 1<=if v=w then f.A else 1
  split<;>omega
 .show(if v=w then f.A else 1)<=v;split<;>omega
end
section
variable (d:Nat)(R Wi Fs:D)(v:Int)(S:aD)
end
structure Op(f:Ft)(w:Nat):Prop where
 ok:FtOk f w
 ho:∃ a,a<2^w/\Hd f a w
 w1:1<=w
 w2:w<=64
def Op.dj(o:Op f w):f.N&&&f.O=0:=by let(a,_,h):=o.ho;exact aZ4 h
def bA:Wd->Nat
 |.in|.num=>0
 |.not|.left|.right|.slide|.cut|.wide|.sign=>1
 |.pick=>3|_=>2
def aSn(wd:Wd):aCl vO (.str wd.s)=qz (.int (bA wd:Nat)):=by cases wd<;>kernel_rfl
def jS(r:Rw):aV r.d (.int 0)=qz (.str r.wd.s):=@gI (.str r.wd.s::nD r.w::r.args.map nD) 0 _ rfl
def aTr{fa:FE}{fl fh:FO}(r:Rw)(c:Nat)(h1:fa env S=qz (.d r.d,S))(h2:fl env S=qz (qz 2,S))(h3:fh env S=qz (qz ((2+c:Nat):Int),S)):qE fa fl fh env S=qz (.d (.tuple ((r.args.take c).map nD)),S):=by
 have i2:HT.sIx ↑(yDk r.wd.s::nD r.w::r.args.map nD) 0 (qz 2)=2:=by
  rw[show(2:Int)=((2:Nat):Int) from rfl,HT.sIx_nat];simp
 have e:eE (yDk r.wd.s::nD r.w::r.args.map nD) (qz 2) (qz ((2+c:Nat):Int))=(r.args.take c).map nD:=by
  unfold eE;rw[i2,HT.sIx_nat];simp only[List.drop_succ_cons,yFc,yAr,yAa];rw[List.map_take];rcases yIg c ↑r.args with z|z
  .rw[yDr (),show 2+c-2=c by omega]
  .rw[yDe (),yCm (by simp),yCm (by simpa using z)]
 unfold qE;rw[h1,oB];simp only[];rw[h2,oB];simp only[];rw[h3,oB];simp only[dr,oB,Rw.d];rw[e]
def qO(d:Nat)(r:Rw)(S:aD):cl fns (d+1) 7 [.d r.d] S=qz (.d (.tuple ((r.args.take (bA r.wd)).map nD)),S):=by
 have e2:(2:Int)+((bA r.wd:Nat):Int)=((2+bA r.wd:Nat):Int):=();have sl:ev (aF fns d) (.sl (.var 0) (.cons (.int 2) .nil) (.cons (.bin .Add (.int 2) (.tab "OPERAND_COUNTS" vO (.ix (.var 0) (.int 0)))) .nil)) [qz (.d r.d)] S=qz (.d (.tuple ((r.args.take (bA r.wd)).map nD)),S):=by
  simp only[aE5];refine aTr r (bA r.wd) (by erw[20,True]) (by erw[20,uD]) ?_;erw[0,uD,jS,aSn,kI,e2]
 rw[bX rfl d _ S rfl];show((iC (pV (ev (aF fns d) (.sl (.var 0) (.cons (.int 2) .nil) (.cons (.bin .Add (.int 2) (.tab "OPERAND_COUNTS" vO (.ix (.var 0) (.int 0)))) .nil)))) uB) [qz (.d r.d)] S).bind _=_;simp only[iC,pV,sl,oB,pR,yAi]
inductive RwOk:Rw->List Nat->Prop
 |inp {w:Nat} (h1:1<=w) (h2:w<=64):RwOk ⟨.in,w,[]⟩ []
 |num {w n:Nat} (h1:1<=w) (h2:w<=64) (hn:n<2^w):RwOk ⟨.num,w,[n]⟩ []
 |nt {w a:Nat} (h1:1<=w) (h2:w<=64):RwOk ⟨.not,w,[a]⟩ [w]
 |cut {w v a:Nat} (h1:1<=w) (hv:w<=v) (h2:v<=64):RwOk ⟨.cut,w,[a]⟩ [v]
 |wide {w v a:Nat} (h1:1<=v) (hv:v<=w) (h2:w<=64):RwOk ⟨.wide,w,[a]⟩ [v]
 |sm {s:Sw}{w a b:Nat} (h1:1<=w) (h2:w<=64):RwOk ⟨s.wd,w,[a,b]⟩ [w,w]
def vJ:List Nat->List Nat->Prop
 |w::ws,n::ns=>n<2^w/\vJ ws ns|[],[]=>True|_,_=>False
def yG(h:vJ [w] ns):∃ a,ns=[a]/\a<2^w:=by
 rcases ns with _|⟨a,_|⟨b,r⟩⟩
 .exact h.elim
 .exact(a,rfl,h.1,)
 .exact h.2.elim
def aNP(h:vJ [w,v] ns):∃ a b,ns=[a,b]/\a<2^w/\b<2^v:=by
 rcases ns with _|⟨a,_|⟨b,_|⟨c,r⟩⟩⟩
 .exact h.elim
 .exact h.2.elim
 .exact(a,b,rfl,h.1,h.2.1,)
 .exact h.2.2.elim
def shV(wd:Wd)(w a k:Nat):Nat:=match wd with|.left=>a*2^k%2^w|.right=>a/2^k|_=>aH9 a w (w+k)/2^k
def cmV(wd:Wd)(w a b:Nat):Bool:=match wd with|.same=>decide (a=b)|.less=>decide ((a:Int)<(b:Int))|_=>decide (sgn a w<sgn b w)
def sD(wd:Wd)(w a b:Nat):Nat:=match wd with|.and=>a&&&b|.or=>a|||b|.xor=>a^^^b|.add=>dD ((a:Nat)+(b:Nat):Int) w|.sub=>dD ((a:Nat)-(b:Nat):Int) w|_=>dD ((a:Nat)*(b:Nat):Int) w
def g0(l:List Nat)(i:Nat):Nat:=l.getD i 0
def fF(r:Rw)(ws ns:List Nat):Nat:=match r.wd with
 |.in=>0|.num=>g0 r.args 0|.not=>2^r.w-1-g0 ns 0
 |.left|.right|.slide=>shV r.wd r.w (g0 ns 0) (g0 r.args 1)
 |.cut=>g0 ns 0%2^r.w|.wide=>g0 ns 0|.sign=>aH9 (g0 ns 0) (g0 ws 0) r.w
 |.same|.less|.under=>(cmV r.wd (g0 ws 0) (g0 ns 0) (g0 ns 1)).toNat
 |.pick=>if g0 ns 0=1 then g0 ns 1 else g0 ns 2
 |wd=>sD wd r.w (g0 ns 0) (g0 ns 1)
def aJ0(hn:n<2^w):n^^^(2^w-1)=2^w-1-n:=by
 apply xAl;intro i;rw[xAn,fA];have:=sZ hn i;unfold sG at this;rw[this];by_cases c:i<w
 .rw[dqT c,yBf];cases n[i]!<;>rfl
 .rw[dqF c,gB hn ()];rfl
def aQk(n w:Nat):n&&&(2^w-1)=n%2^w:=yCy n w
def aPb(d:Nat)(wd:Wd)(fZ:(wd=.and\/wd=.or\/wd=.xor)\/wd=.add\/wd=.sub\/wd=.mul)(w a b:Nat)(hw:w<=64)(ha:a<2^w)(S:aD):cl fns (d+2) 82 [.d (.str wd.s),.d (.int w),.d (.int a),.d (.int b)] S=qz (.d (.int ((sD wd w a b:Nat):Int)),S):=by
 have t:∀ (x:Str) (v:Wd),x=v.s->tv (d<$>1) (.cmp .Eq (.var 0) (.str x)) [qz (.d (.str wd.s)),(w:),(a:),(b:)] S=qz (decide (wd=v),S):=λ x v hx=>by
  subst hx;exact fP rfl (cG wd v)
 have t1:=t "and" .and rfl;have t2:=t "or" .or rfl;have t3:=t "xor" .xor rfl;have t4:=t "add" .add rfl;have t5:=t "sub" .sub rfl;have h64:=p64 ha hw;rcases fZ with (rfl|rfl|rfl)|rfl|rfl|rfl
 .refine gJ (S1:=S) rfl (d+1) rfl rfl yAi (cF t1 (bH ?_));erw[0,fO]
 .refine gJ (S1:=S) rfl (d+1) rfl rfl yAi (bF t1 (cF t2 (bH ?_)));erw[0,iO]
 .refine gJ (S1:=S) rfl (d+1) rfl rfl yAi (bF t1 (bF t2 (cF t3 (bH ?_))));erw[0,kJ]
 .refine gJ (S1:=S) rfl (d+1) rfl rfl yAi (bF t1 (bF t2 (bF t3 (cF t4 (bH ?_)))));have hq32:=dU d w ();erw[0,kI,hq32,aAo]
 .refine gJ (S1:=S) rfl (d+1) rfl rfl yAi (bF t1 (bF t2 (bF t3 (bF t4 (cF t5 (bH ?_))))));have hq33:=dU d w ();erw[0,eJ,hq33,aAo]
 .refine gJ (S1:=S) rfl (d+1) rfl rfl yAi (bF t1 (bF t2 (bF t3 (bF t4 (bF t5 (bH ?_))))));have hq34:=@lT (a:Int) (b:Int) () ();have hq35:=dU d w ();erw[0,hq34,hq35,aAo]
section
variable (C:Calls)(R Wi Fs:D)(v:Int)(S:aD)(wd:Wd)
theorem aET:tv C (.cmp .Eq (.var 3) (.str "cut")) (oe R Wi Fs wd v) S=qz (decide (wd=.cut),S):=fP rfl (cG wd .cut)
theorem aLG:tv C (.cmp .Eq (.var 3) (.str "wide")) (oe R Wi Fs wd v) S=qz (decide (wd=.wide),S):=fP rfl (cG wd .wide)
theorem aWt:tv C (.cmp .Eq (.var 3) (.str "sign")) (oe R Wi Fs wd v) S=qz (decide (wd=.sign),S):=fP rfl (cG wd .sign)
end
def aBX:Sx:=bJ (bJ aEP)
def aMD:E:=reS (hdS (bJ (bJ (bJ (bJ (bJ (bJ (bJ (bJ aBX)))))))))
def aTa{wd:Wd}(fZ:(wd=.and\/wd=.or\/wd=.xor)\/wd=.add\/wd=.sub\/wd=.mul):¬ wd=.num/\¬ wd=.not/\¬ (wd=.left\/wd=.right\/wd=.slide)/\¬ wd=.cut/\¬ wd=.wide/\¬ wd=.sign/\¬ (wd=.same\/wd=.less\/wd=.under)/\¬ wd=.pick:=by rcases fZ with (rfl|rfl|rfl)|rfl|rfl|rfl<;>decide
def aQK{v:Int}(wd:Wd)(fZ:(wd=.and\/wd=.or\/wd=.xor)\/wd=.add\/wd=.sub\/wd=.mul)(h:ev C aMD (oe R Wi Ns wd v) S=qz (.d x,S)):xs C aBX (oe R Wi Ns wd v) S=qz (.rt (.d x),S):=by have t1:=nJ C R Wi Ns v S wd;have t2:=rG C R Wi Ns v S wd;have t3:=aAQ C R Wi Ns v S wd;have t4:=aET C R Wi Ns v S wd;have t5:=aLG C R Wi Ns v S wd;have t6:=aWt C R Wi Ns v S wd;have t7:=aKX C R Wi Ns v S wd;have t8:=aLF C R Wi Ns v S wd;let(n1,n2,n3,n4,n5,n6,n7,n8):=aTa fZ;rw[dqF n1] at t1;rw[dqF n2] at t2;rw[dqF n3] at t3;rw[dqF n4] at t4;rw[dqF n5] at t5;rw[dqF n6] at t6;rw[dqF n7] at t7;rw[dqF n8] at t8;exact bF t1 (bF t2 (bF t3 (bF t4 (bF t5 (bF t6 (bF t7 (bF t8 (bH h))))))))
def xG(d:Nat){x R Wi Ns:D}{wd:Wd}{v:Nat}(S:aD)(e0:aV R (.int 0)=qz (.str wd.s))(e1:aV R (.int 1)=qz (.int v))(k:xs (d<$>3) aBX (oe R Wi Ns wd (v:Nat)) S=qz (.rt (.d x),S)):cl fns (d+4) 83 [.d R,.d Wi,.d Ns] S=qz (.d x,S):=
 gJ (S1:=S) rfl (d+3) rfl rfl yAi (bQ (S1:=S) (iV rfl e0) rfl (bQ (S1:=S) (iV rfl e1) rfl k))
section
variable (d:Nat)(S:aD)(R Wi Ns:D)(w:Nat)(e1:aV R (.int 1)=qz (.int (w:Nat)))
include e1
theorem aVe(n:Nat)(e0:aV R (.int 0)=qz (.str "num"))(e2:aV R (.int 2)=qz (.int n)):cl fns (d+4) 83 [.d R,.d Wi,.d Ns] S=qz (.d (.int n),S):=
 xG d (wd:=.num) S e0 e1 (cF (nJ (d<$>3) R Wi Ns (w:Nat) S .num) (bH (iV rfl e2)))
theorem aWX(x:Nat)(hw:w<=64)(hx:x<2^w)(e0:aV R (.int 0)=qz (.str "not"))(i0:aV Ns (.int 0)=qz (.int x)):cl fns (d+4) 83 [.d R,.d Wi,.d Ns] S=qz (.d (.int ((2^w-1-x:Nat):Int)),S):=by refine xG d (wd:=.not) S e0 e1 (bF (nJ (d<$>3) R Wi Ns (w:Nat) S .not) (cF (rG (d<$>3) R Wi Ns (w:Nat) S .not) (bH ?_)));have hq36:=dU (d+2) w ();erw[0,i0,hq36,kJ,aJ0 hx]
theorem aU2(x:Nat)(hw:w<=64)(e0:aV R (.int 0)=qz (.str "cut"))(i0:aV Ns (.int 0)=qz (.int x)):cl fns (d+4) 83 [.d R,.d Wi,.d Ns] S=qz (.d (.int ((x%2^w:Nat):Int)),S):=by refine xG d (wd:=.cut) S e0 e1 (bF (nJ (d<$>3) R Wi Ns (w:Nat) S .cut) (bF (rG (d<$>3) R Wi Ns (w:Nat) S .cut) (bF (aAQ (d<$>3) R Wi Ns (w:Nat) S .cut) (cF (aET (d<$>3) R Wi Ns (w:Nat) S .cut) (bH ?_)))));have hq38:=dU (d+2) w ();erw[0,i0,hq38,fO,aQk]
theorem aT5(x:Nat)(e0:aV R (.int 0)=qz (.str "wide"))(i0:aV Ns (.int 0)=qz (.int x)):cl fns (d+4) 83 [.d R,.d Wi,.d Ns] S=qz (.d (.int x),S):=
 xG d (wd:=.wide) S e0 e1 (bF (nJ (d<$>3) R Wi Ns (w:Nat) S .wide) (bF (rG (d<$>3) R Wi Ns (w:Nat) S .wide) (bF (aAQ (d<$>3) R Wi Ns (w:Nat) S .wide) (bF (aET (d<$>3) R Wi Ns (w:Nat) S .wide) (cF (aLG (d<$>3) R Wi Ns (w:Nat) S .wide) (bH (iV rfl i0)))))))
theorem aTL(wd:Wd)(fZ:(wd=.and\/wd=.or\/wd=.xor)\/wd=.add\/wd=.sub\/wd=.mul)(x y:Nat)(hw:w<=64)(hx:x<2^w)(e0:aV R (.int 0)=qz (.str wd.s))(i0:aV Ns (.int 0)=qz (.int x))(i1:aV Ns (.int 1)=qz (.int y)):cl fns (d+4) 83 [.d R,.d Wi,.d Ns] S=qz (.d (.int ((sD wd w x y:Nat):Int)),S):=by refine xG d (wd:=wd) S e0 e1 (aQK wd fZ ?_);erw[6,aMD,aBX,bJ,hdS,reS,aEP,i0,i1,aPb (d+1) wd fZ w x y hw hx]
end
def aTt(h:RwOk r ws)(hi:r.wd≠.in)(hl:vJ ws ns)(d:Nat)(S:aD):cl fns (d+4) 83 [.d r.d,.d (ws*>nD),.d (ns*>nD)] S=qz (.d (.int ((fF r ws ns:Nat):Int)),S):=by
 cases h with
 |inp=>exact absurd rfl hi|num h1 h2 hn=>exact aVe d S _ _ _ _ rfl _ rfl rfl
 |nt h1 h2=>
   let(x,rfl,hx):=yG hl;exact aWX d S _ _ _ _ rfl x h2 hx rfl rfl
 |cut h1 hv h2=>
   let(x,rfl,hx):=yG hl;exact aU2 d S _ _ _ _ rfl x (xAh hv h2) rfl rfl
 |wide h1 hv h2=>
   let(x,rfl,hx):=yG hl;exact aT5 d S _ _ _ _ rfl x rfl rfl
 |sm h1 h2=>
   rename_i s w a b;let(x,y,rfl,hx,hy):=aNP hl;have fZ:s.wd=.add\/s.wd=.sub\/s.wd=.mul:=by
    cases s
    .exact .inl rfl
    .exact .inr (.inl rfl)
    .exact .inr (.inr rfl)
   have ev':fF (s.wd,w,[a,b],) [w,w] [x,y]=sD s.wd w x y:=by cases s<;>rfl
   rw[ev'];exact aTL d S _ _ _ w rfl s.wd (.inr fZ) x y h2 hx rfl rfl rfl
def aLs(wd:Wd):bA wd<=3:=by cases wd<;>decide
def wC(S0:aD)(l:List D)(x:D)(h:↑l<=1000):dO (S0++[qz l]) (.loc ↑S0) (.d x)=qz (.d .none,S0++[qz (l++[x])]):=by unfold dO;simp only[yAd (yAc ↑S0),yBb,yBw];rw[if_pos (by rw[zj];omega)];rw[List.set_append_right _ _ (yAc _),yBb];rfl
def qR(S0:aD)(l:List D):(S0++[qz l])[↑S0]?=qz (qz l):=by rw[yAd (yAc _),yBb];rfl
def bR(r:Rw)(l:List Nat):List Nat:=(r.args.take (bA r.wd)).map (g0 l)
def aHc{α:Type}{l:List α}{vs:List D}{f:α->D}(h1:↑vs=↑l)(h2:∀ (i:Nat) (a:α),l[i]?=qz a->∃ v,vs[i]?=qz v/\v=f a):vs=l.map f:=by
 apply List.ext_getElem?;intro i;rw[yAg];by_cases c:i<↑l
 .let(v,h3,rfl):=h2 i l[i] (yAb c);rw[h3,yAb c];rfl
 .rw[yCx (),yCx ()];rfl
def sX(d:Nat)(r:Rw)(w:W)(x:D)(f:Nat->D)(S:aD)(hv:∀ aI,dr (S++[qz aI]) w=qz x)(hx:∀ a∈r.args.take (bA r.wd),aV x (nD a)=qz (f a)):cl fns (d+2) 9 [.d r.d,w] S=qz (.d (.tuple ((r.args.take (bA r.wd)).map f)),S):=by
 have cS:↑(r.args.take (bA r.wd))<=3:=by have:=aLs r.wd;rw[yBg];omega
 let(vs,S',e1,hS',hI,hvl,hq):=@aDh [qz (.d r.d),qz w,qx] S S _ (.one 2) (lv (d<$>1) (.it (.call 7 (.cons (.var 0) .nil)))) (ev (d<$>1) (.ix (.var 1) (.var 2))) nD (λ _ S'=>S'=S) (λ a v=>v=f a) (r.args.take (bA r.wd)) (by
  erw[20,qO d,iL]) (by rw[zj];omega) rfl (by
  intro a ha;refine(_,rfl,?_,);rintro j S' aI hj hS rfl;refine(f a,S',?_,rfl,rfl,rfl,);have hd:∀ {k:D->Option (W×aD)},(dr (S'++[qz aI]) w).bind k=k x:=λ {k}=>by rw[hv aI];rfl
  simp only[aBv,aBr,oH,f2,jY,hU,clr,Tg.slots,yDm,List.foldl_nil,yDx,yDc,yBp,yBw,oB,hd];show((aV x (nD a)).bind λ z=>qz (W.d z,S'++[qz aI]))=_
  rw[hx a ha];rfl)
 subst hI;have e2:vs=(r.args.take (bA r.wd)).map f:=aHc hvl hq;subst e2;have e1':lv (d<$>1) aGA [qz (.d r.d),qz w,qx] S'=qz ((r.args.take (bA r.wd)).map f,S'):=e1;rw[bX rfl (d+1) _ S' rfl];erw[11,aGO,e1',lZ,tQ]
def aBS{l:List Nat}(h:a<↑l):(l.map nD)[a]?=qz (nD (g0 l a)):=by rw[yAg,yAb h];show qz (nD l[a])=qz (nD (l.getD a 0));rw[xAg,yAb h];rfl
def aDX(d:Nat)(r:Rw)(l:List Nat)(S:aD)(h:∀ a∈r.args.take (bA r.wd),a<↑l):cl fns (d+2) 9 [.d r.d,.d (l*>nD)] S=qz (.d (.tuple ((bR r l).map nD)),S):=by
 have:=sX d r (.d (l*>nD)) (l*>nD) (λ a=>nD (g0 l a)) S (λ _=>rfl) λ a ha=>gI (aBS (h a ha))
 rw[this,bR,yAz];rfl
def aTd(d:Nat)(r:Rw)(l:List Nat)(S0:aD)(h:∀ a∈r.args.take (bA r.wd),a<↑l):cl fns (d+2) 9 [.d r.d,.loc ↑S0] (S0++[qz (l.map nD)])=qz (.d (.tuple ((bR r l).map nD)),S0++[qz (l.map nD)]):=by
 have:=sX d r (.loc ↑S0) (.list (l.map nD)) (λ a=>nD (g0 l a)) (S0++[qz (l.map nD)]) (λ aI=>by
  show(match (S0++[qz (l.map nD)]++[qz aI])[↑S0]? with|some (qz ds)=>qz (yGd ds)|_=>qx)=_
  rw[yAq,yAd (yAc _),yBb];rfl) λ a ha=>pH (aBS (h a ha))
 rw[this,bR,yAz];rfl
def aAn(d:Nat)(rs:List Rw)(o:D)(hl:↑rs<=1000)(S:aD):cl fns (d+1) 11 [.d (rs<*o)] S=qz (.d (.tuple ((~~~rs).map nD)),S):=by
 have i0:aV (rs<*o) (.int 0)=qz (rs*>Rw.d):=rfl;have hc:lv (aF fns d) aGK [qz (.d (rs<*o)),qx] S=qz ((~~~rs).map nD,S):=by
  rw[yAz];refine lU (fi:=lv (aF fns d) (.it (.ix (.var 0) (.int 0)))) (fe:=ev (aF fns d) (.ix (.var 1) (.int 1))) Rw.d (nD ∘ λ r=>r.w) rs ?_ (by rw[zj];omega) λ r hr=>?_
  .erw[0,i0,iL]
  .refine(_,rfl,λ S'=>?_,);erw[0,clr,yDm,List.foldl_nil,jQ]
 rw[bX rfl d _ S rfl];erw[11,aHb,hc,lZ,tQ]
def eD:List Rw->List Nat->Prop
 |[],is=>is=[]
 |r::rs,is=>if r.wd=.in then ∃ n is',is=n::is'/\n<2^r.w/\eD rs is' else eD rs is
def kS(rs:List Rw):Prop:=∀ (j:Nat) (r:Rw),rs[j]?=qz r->RwOk r (bR r (~~~rs))/\∀ a∈r.args.take (bA r.wd),a<j
def aDM{W:List Nat}(h:∀ (i a w:Nat),aI[i]?=qz a->W[i]?=qz w->a<2^w):∀ (l:List Nat),(∀ a∈l,a<↑aI/\a<↑W)->vJ (l.map (g0 W)) (l.map (g0 aI))
 |[],_=>True.intro
 |a::l,hl=>by
   let(h1,h2):=hl a xAc;refine(h a _ _ ?_ ?_,aDM h l λ b hb=>hl b (xAf _ hb),)
   .show aI[a]?=qz (aI.getD a 0);rw[xAg,yAb h1];rfl
   .show W[a]?=qz (W.getD a 0);rw[xAg,yAb h2];rfl
def aLd(h:RwOk r ws)(hl:vJ ws ns):fF r ws ns<2^r.w:=by
 have hp:=xAe r.w;cases h with
 |inp=>exact hp|num h1 h2 hn=>exact hn
 |nt=>
   let(x,rfl,hx):=yG hl;exact xAi (yDv _ _) ()
 |cut=>exact Nat.mod_lt _ hp
 |wide h1 hv h2=>
   let(x,rfl,hx):=yG hl;exact xAb hx (yAh (·) hv)
 |sm h1 h2=>
   let(x,y,rfl,hx,hy):=aNP hl;rename_i s w a b;cases s
   .exact nN ((x:Int)+(y:Int)) w
   .exact nN ((x:Int)-(y:Int)) w
   .exact nN ((x:Int)*(y:Int)) w
def aHw{α:Type}{l:List α}{a:α}(h:l[j]?=qz a):l.drop j=a::l.drop (j+1):=by let(hl,rfl):=gIm h;exact yCt hl
def dB:List Rw->List Nat->List Nat->List Nat->List Nat
 |[],_,_,aI=>aI
 |r::rs,W,is,aI=>if r.wd=.in then dB rs W is.tail (aI++[g0 is 0]) else dB rs W is (aI++[fF r (bR r W) (bR r aI)])
structure Prg(rs:List Rw):Prop where
 l:↑rs<=250
 fit:kS rs
 ins:∃ is,eD rs is
 ws:∀ (j:Nat) (r:Rw),rs[j]?=qz r->1<=r.w/\r.w<=64
def vY:∀ (rs:List Rw) (W is aI:List Nat),∃ t,dB rs W is aI=aI++t
 |[],W,is,aI=>([],by simp[dB],)
 |r::rs,W,is,aI=>by
   unfold dB;split
   .let(t,h):=vY rs W is.tail (aI++[g0 is 0]);exact([g0 is 0]++t,by rw[h,yAq],)
   .let(t,h):=vY rs W is (aI++[fF r (bR r W) (bR r aI)]);exact([fF r (bR r W) (bR r aI)]++t,by rw[h,yAq],)
def aDU:∀ (rs:List Rw) (W is aI:List Nat) (j:Nat) (r:Rw),rs[j]?=qz r->r.wd≠.in->(dB rs W is aI)[↑aI+j]?=qz (fF r (bR r W) (bR r ((dB rs W is aI).take (↑aI+j))))
 |[],W,is,aI,j,r,h,_=>by simp at h
 |q::rs,W,is,aI,0,r,h,hw=>by
   cases h;unfold dB;rw[if_neg hw];let(t,ht):=vY rs W is (aI++[fF q (bR q W) (bR q aI)]);rw[ht,yFo,yAq,yGf,yAd (yAc _),yBb];rfl
 |q::rs,W,is,aI,j+1,r,h,hw=>by
   have h':rs[j]?=qz r:=by simpa using h
   unfold dB;split
   .have:=aDU rs W is.tail (aI++[g0 is 0]) j r h' hw;rw[yAj,show ↑aI+↑[g0 is 0]+j=↑aI+(j+1) by simp;omega] at this;exact this
   .have:=aDU rs W is (aI++[fF q (bR q W) (bR q aI)]) j r h' hw;rw[yAj,show ↑aI+↑[fF q (bR q W) (bR q aI)]+j=↑aI+(j+1) by simp;omega] at this;exact this
def aR4{r:Rw}{l:List Nat}(h:∀ a∈r.args.take (bA r.wd),a<m):bR r (l.take m)=bR r l:=by
 unfold bR;refine yCq λ a ha=>?_
 show(l.take m).getD a 0=l.getD a 0;rw[xAg,xAg,yCz (h a ha)]
def aLi{rs:List Rw}(hf:kS rs)(is:List Nat){j:Nat}{r:Rw}(hr:rs[j]?=qz r)(hw:r.wd≠.in):(dB rs (~~~rs) is [])[j]?=qz (fF r (bR r (~~~rs)) (bR r (dB rs (~~~rs) is []))):=by have:=aDU rs (~~~rs) is [] j r hr hw;rw[yBu,yBz,aR4 (hf j r hr).2] at this;exact this
def aAT:∀ (rs:List Rw) (W is aI:List Nat),↑(dB rs W is aI)=↑aI+↑rs
 |[],_,_,_=>rfl
 |r::rs,W,is,aI=>by
   unfold dB;split
   .rw[aAT rs,yAj];simp;omega
   .rw[aAT rs,yAj];simp;omega
def iF:List Rw->List Nat->List Nat->List Nat->List Nat->List Nat
 |r::rs,W,is,m::ms,aI=>if r.wd=.in then iF rs W is.tail ms (aI++[g0 is 0^^^m]) else iF rs W is ms (aI++[fF r (bR r W) (bR r aI)^^^m])
 |_,_,_,_,aI=>aI
structure MsOk(rs:List Rw)(ms:List Nat):Prop where
 l:↑ms=↑rs
 lt:∀ (j:Nat) (r:Rw) (m:Nat),rs[j]?=qz r->ms[j]?=qz m->m<2^r.w
noncomputable abbrev eT(P:D)(is ms ws:List Nat)(n:Nat)(c5 c6 c7 c8:Option W):bB:=[qz (.d P),qz (.d (is*>nD)),qz (.d (ms*>nD)),qz (.d (ws*>nD)),#[n],c5,c6,c7,c8]
def aPm(d:Nat)(rs:List Rw)(o:D)(is ms:List Nat)(hl:↑rs<=250)(hf:kS rs)(hi:eD rs is)(hm:MsOk rs ms)(S:aD):cl fns (d+6) 84 [.d (rs<*o),.d (is*>nD),.d (ms*>nD)] S=qz (.d (.tuple ((iF rs (~~~rs) is ms []).map nD)),S)/\↑(iF rs (~~~rs) is ms [])=↑rs/\∀ (i a w:Nat),(iF rs (~~~rs) is ms [])[i]?=qz a->(~~~rs)[i]?=qz w->a<2^w:=by
 let(bD,S',p1,aI,tk,c6,c7,c8,rfl,rfl,al,ar,ai,ab):=kM (t:=.many [6,7]) (fi:=lv (d<$>5) aHd) (fb:=xs (d<$>5) aHe) (env:=eT (rs<*o) is ms (~~~rs) ↑S ((0:)) qx qx qx) (S:=S++[qz []]) (ds:=gN (rs.map Rw.d) (ms.map nD))
  (λ j env S'=>∃ (aI:List Nat) (tk:Nat) (c6 c7 c8:Option W),env=eT (rs<*o) is ms (~~~rs) ↑S ((tk:)) c6 c7 c8/\S'=S++[qz (aI.map nD)]/\↑aI=j/\iF (rs.drop j) (~~~rs) (is.drop tk) (ms.drop j) aI=iF rs (~~~rs) is ms []/\eD (rs.drop j) (is.drop tk)/\∀ (i a w:Nat),aI[i]?=qz a->(~~~rs)[i]?=qz w->a<2^w)
  rfl ([],0,qx,qx,qx,rfl,rfl,rfl,rfl,hi,by simp,) (by
   rintro j dd env S' hd ⟨aI,tk,c6,c7,c8,rfl,rfl,al,ar,ai,ab⟩;let(a0,b0,ha,hb,rfl):=aDd _ _ j dd hd;rw[yAg] at ha hb;let(r,hr,rfl):=Option.map_eq_some_iff.mp ha;let(m,hmj,rfl):=Option.map_eq_some_iff.mp hb;have hmlt:=hm.lt j r m hr hmj;let(f1,f2):=hf j r hr;have hj:j<↑rs:=(gIm hr).1;have hw:(~~~rs)[j]?=qz r.w:=by rw[yAg,hr];rfl
   have hWl:↑(~~~rs)=↑rs:=yAa ..;rw[aHw hr] at ar ai;rw[aHw hmj] at ar;have more:∀ z:Nat,z<2^r.w->∀ (i a w:Nat),(aI++[z^^^m])[i]?=qz a->(~~~rs)[i]?=qz w->a<2^w:=λ z hz i a w h1 h2=>by
    by_cases c:i<↑aI
    .rw[xAm c] at h1;exact ab i a w h1 h2
    .have ci:i=j:=by
      have:=(gIm h1).1;simp at this;omega
     subst ci;rw[yAd (),show i-↑aI=0 by omega] at h1;cases h1;rw[hw] at h2;cases h2;exact yDw hz hmlt
   have ap:∀ z:Nat,dO (S++[qz (aI.map nD)]) (.loc ↑S) (.d (.int z))=qz (.d .none,S++[qz ((aI++[z]).map nD)]):=λ z=>by
    rw[wC S (aI.map nD) _ (by rw[yAa];omega),yAk];rfl
   by_cases c:r.wd=.in
   .have t:aP .Eq (.str r.wd.s) (.str "in")=qz (.bool true):=by rw[c];exact cG .in .in
    rw[eD,if_pos c] at ai;let(n,is',e1,hn,hi'):=ai;rw[iF,if_pos c,e1] at ar;have e2:is'=is.drop (tk+1):=by rw[<- List.tail_drop,e1];rfl
    have e3:aV (is*>nD) (.int tk)=qz (.int n):=gI (by
     have:(is.drop tk)[0]?=qz n:=by rw[e1];rfl
     rw[yFw,yFo] at this;rw[yAg,this];rfl)
    refine(_,_,_,rfl,dN (aBy (bM (bY (aC rfl) aJ rfl (jS r)) cO t) (bQ (bY (aC rfl) (aC rfl) rfl e3) rfl (tM (aU (aC rfl) aJ (jX tk 1))))) (pF (rB (rJ (aC rfl) (aU (aC rfl) (aC rfl) (kJ n m)) (ap _)))),aI++[n^^^m],tk+1,_,_,_,rfl,rfl,by simp[al],?_,?_,more n hn,)
    .rw[<- e2,<- ar];rfl
    .rw[<- e2];exact hi'
   .have t:aP .Eq (.str r.wd.s) (.str "in")=qz (.bool false):=by
     have:=cG r.wd .in;rw[dqF c] at this;exact this
    rw[eD,if_neg c] at ai;rw[iF,if_neg c] at ar;have lt:=aDM ab (r.args.take (bA r.wd)) λ a ha=>(by have:=f2 a ha;omega,by have:=f2 a ha;omega,)
    have o1:=aDX (d+3) r (~~~rs) (S++[qz (aI.map nD)]) λ a ha=>by have:=f2 a ha;omega
    have o2:=aTd (d+3) r aI S λ a ha=>by have:=f2 a ha;omega
    have wk:=aTt f1 c lt (d+1) (S++[qz (aI.map nD)]);have wl:=aLd f1 lt;exact(_,_,_,rfl,dN (aEV (bM (bY (aC rfl) aJ rfl (jS r)) cO t) (tM (bT (aE (aC rfl) (aE (bT (aE (aC rfl) (aE (aC rfl) aO)) o1) (aE (bT (aE (aC rfl) (aE (aC rfl) aO)) o2) aO))) wk))) (pF (rB (rJ (aC rfl) (aU (aC rfl) (aC rfl) (kJ _ m)) (ap _)))),_,tk,_,_,_,rfl,rfl,by simp[al],ar,ai,more _ wl,))
 have zl:↑(gN (rs.map Rw.d) (ms.map nD))=↑rs:=by
  rw[aAp,yAa,yAa,hm.l,Nat.min_self]
 rw[zl] at al ar;rw[yGj] at ar;have ar':aI=iF rs (~~~rs) is ms []:=by
  have e:iF [] (~~~rs) (is.drop tk) (ms.drop ↑rs) aI=aI:=by unfold iF;rfl
  rw[<- e];exact ar
 subst ar';exact(cR rfl rfl rfl (bQ (bT (aE (aC rfl) aO) (aAn (d+4) rs o () S)) rfl (bQ (tU (kQ aO rfl (yAe rfl))) rfl (bQ aJ rfl (dN (qY p1) (bH (cT (aE (aC rfl) aO) (cM (iB (qR _ _)) dA) rfl)))))) yGf,al,ab,)
def aTf(rs:List Rw):MsOk rs (yAf ↑rs 0):=⟨yBj,λ j r m h1 h2=>by
 rw[yCg] at h2;split at h2
 .cases h2;exact xAe _
 .cases h2⟩
def aTj(d:Nat)(rs:List Rw)(o:D)(is:List Nat)(hl:↑rs<=250)(hf:kS rs)(hi:eD rs is)(S:aD):cl fns (d+7) 85 [.d (rs<*o),.d (is*>nD)] S=qz (.d (.tuple ((iF rs (~~~rs) is (yAf ↑rs 0) []).map nD)),S):=by
 have ln:B.len.g [(rs*>Rw.d)]=qz (.int ↑rs):=by
  show qz (yAt ((↑(rs.map Rw.d):Nat):Int))=_;rw[yAa]
 have e:=(aPm d rs o is _ hl hf hi (aTf rs) S).1;rw[yEo] at e;exact cR rfl rfl rfl (bH (bT (aE (aC rfl) (aE (aC rfl) (aE (aU (fB (aE aJ aO) rfl (yAe rfl)) (cT (aE (bY (aC rfl) aJ rfl rfl) aO) (cM cU dA) ln) (sU ())) aO))) e)) yAi
def aRt(hn:n<2^w):(2^w-1)^^^n=2^w-1-n:=by rw[Nat.xor_comm];exact aJ0 hn
def zR(n w:Nat):Ft:=(2^w-1-n,n,1,)
def aL3(hn:n<2^w)(hw:1<=w):FtOk (zR n w) w:=(by show 2^w-1-n<2^w;have:=xAe w;omega,hn,yAc 1,hw,)
def aTz(hn:n<2^w):Hd (zR n w) n w:=by
 refine(λ i hi=>?_,λ i hi=>hi,xA _ _,);have hi':(2^w-1-n)[i]! =true:=hi;by_cases c:i<w
 .rw[aBj hn c] at hi';simpa using hi'
 .exact gB hn ()
def aSq(hw:1<=w):fJ fU w=fU:=by
 have u:cP 0 1 w=0:=by
  unfold cP;rw[yHj,if_pos rfl]
 have t:tr 0 w=0:=by
  unfold tr;rw[yIi];have:bl (2^w-1)=w:=aC7 (aAV w) (.inr (by rw[fA,dqT ()]));omega
 show Ft.mk (cP 0 1 w) (cP 0 1 w) (rT 1 (tr (cP 0 1 w) w) (tr (cP 0 1 w) w))=(0,0,1,);rw[u,t];rfl
def aRo(d n w:Nat)(hn:n<2^w)(gG:1<=w)(hw:w<=64)(S:aD):cl fns (d+4) 47 [.d (.tuple [.str "num",.int w,.int n]),.d (.tuple []),.d (.tuple [])] S=qz (.d (fJ (zR n w) w).d,S):=by
 have nf:cl fns (d+2) 33 [.d (.int w),.d (.int n)] S=qz (.d (zR n w).d,S):=by
  rw[bX rfl (d+1) _ S rfl];have hq40:=dU d w ();erw[11,aHA,hq40,kJ,aRt hn]
 have i2:aV (.tuple [.str "num",.int w,.int n]) (.int 2)=qz (.int n):=rfl;refine aA4 d _ _ _ S w (zR n w) rfl ?_ (aL3 hn gG) hw;have t1:=zN (d<$>2) (.tuple [.str "num",.int w,.int n]) (.tuple []) (.tuple []) (w:Nat) S .num;have t2:=nJ (d<$>2) (.tuple [.str "num",.int w,.int n]) (.tuple []) (.tuple []) (w:Nat) S .num;refine gJ (S1:=S) rfl (d+2) rfl rfl yAi (bQ (S1:=S) (w:=.d (.str Wd.num.s)) (iV rfl rfl) rfl (bQ (S1:=S) (w:=.d (.int w)) (iV rfl rfl) rfl (bF t1 (cF t2 (bH ?_)))));erw[0,i2,nf]
def aI7(d w:Nat)(gG:1<=w)(hw:w<=64)(S:aD):cl fns (d+4) 47 [.d (.tuple [.str "in",.int w]),.d (.tuple []),.d (.tuple [])] S=qz (.d fU.d,S):=by have t1:=zN (d<$>2) (.tuple [.str "in",.int w]) (.tuple []) (.tuple []) (w:Nat) S .in;have hk:FtOk fU w:=(xAe w,xAe w,yAc 1,gG,);have r:=aA4 d (.tuple [.str "in",.int w]) (.tuple []) (.tuple []) S w fU rfl (gJ (S1:=S) rfl (d+2) rfl rfl yAi (bQ (S1:=S) (w:=.d (.str Wd.in.s)) (iV rfl rfl) rfl (bQ (S1:=S) (w:=.d (.int w)) (iV rfl rfl) rfl (cF t1 (bH rfl))))) hk hw;rw[aSq gG] at r;exact r
def yT:List Ft->List Nat->Prop
 |f::Fs,w::ws=>Op f w/\yT Fs ws|[],[]=>True|_,_=>False
def aFs(h:yT Fs [w]):∃ f,Fs=[f]/\Op f w:=by
 rcases Fs with _|⟨a,_|⟨b,r⟩⟩
 .exact h.elim
 .exact(a,rfl,h.1,)
 .exact h.2.elim
def aZE(h:yT Fs [w,v]):∃ f g,Fs=[f,g]/\Op f w/\Op g v:=by
 rcases Fs with _|⟨a,_|⟨b,_|⟨c,r⟩⟩⟩
 .exact h.elim
 .exact h.2.elim
 .exact(a,b,rfl,h.1,h.2.1,)
 .exact h.2.2.elim
def aWi(k:FtOk g w)(h:Hd g z w):Hd g (z%2^w) w:=by
 have m:∀ i,i<w->(z%2^w)[i]! =z[i]!:=λ i hi=>by rw[yBx,dqT hi,yBf]
 have lt:∀ {n i:Nat},n<2^w->n[i]! =true->i<w:=λ {n i} hn hi=>by
  by_cases c:i<w
  .exact c
  .rw[gB hn ()] at hi;cases hi
 refine(λ i hi=>by rw[m i (lt k.lN hi)];exact h.1 i hi,λ i hi=>by rw[m i (lt k.lO hi)];exact h.2.1 i hi,?_,);rcases h.2.2 with q|q
 .exact .inl λ i a b=>by rw[m i b];exact q i a b
 .exact .inr λ i a b=>by rw[m i b];exact q i a b
def RG(r:Rw)(ws:List Nat)(Fs:List Ft):Prop:=∃ g:Ft,Op g r.w/\∀ d S,cl fns (d+7) 47 [.d r.d,.d (ws*>nD),.d (Fs*>Ft.d)] S=qz (.d g.d,S)
def aLQ(hg:FtOk g w)(h:Hd g z w)(h1:1<=w)(h2:w<=64):Op (fJ g w) w:=(aMb hg,(_,Nat.mod_lt _ (xAe w),aWi (aMb hg) ((aRU hg).mpr h),),h1,h2,)
def aBZ{r:Rw}(h1:1<=r.w)(h2:r.w<=64)(g:Ft)(hg:FtOk g r.w)(hh:Hd g z r.w)(ho:∀ d S,cl fns (d+6) 46 [.d r.d,.d (ws*>nD),.d (Fs*>Ft.d)] S=qz (.d g.d,S)):RG r ws Fs:=
 (_,aLQ hg hh h1 h2,λ d S=>aA4 (d+3) _ _ _ S r.w g (jQ r) (ho d S) hg h2,)
def aWV(o:Op f w):RG (.not,w,[a],) [w] [f]:=by let(x,hx,hf):=o.ho;exact aBZ o.w1 o.w2 (f.O,f.N,f.A,) (o.ok.lO,o.ok.lN,o.ok.a1,o.ok.aw,) (aRG o.ok o.dj hx hf) λ d S=>aRV (d+5) _ _ _ (w:Nat) S f rfl rfl rfl
def aUy(h1:1<=w)(hv:w<=v)(o:Op f v):RG (.cut,w,[a],) [v] [f]:=by let(x,hx,hf):=o.ho;exact aBZ h1 (xAh hv o.w2) (nW v w f) (aKJ o.ok o.dj o.w1 h1 hv) (aRA o.ok o.dj hx hf hv) λ d S=>aAR (d+5) _ _ _ (w:Nat) S .cut (.inl rfl) f (v:Nat) _ rfl rfl rfl rfl (aK2 (d+3) v w f hv (xAh hv o.w2) S)
def aTi(hv:v<=w)(h2:w<=64)(o:Op f v):RG (.wide,w,[a],) [v] [f]:=by let(x,hx,hf):=o.ho;exact aBZ (xAh o.w1 hv) h2 (jB v w f) (aKm o.ok o.dj o.w1 hv) (aQD o.ok o.dj hx hf hv) λ d S=>aAR (d+5) _ _ _ (w:Nat) S .wide (.inr (.inl rfl)) f (v:Nat) _ rfl rfl rfl rfl (aIW (d+2) v w f hv h2 S)
def aYM(s:Sw)(o:Op f w)(o':Op g w):RG (s.wd,w,[a,b],) [w,w] [f,g]:=by let(p,hp,h):=o.ho;let(q,hq,h'):=o'.ho;exact aBZ o.w1 o.w2 (sA s w f g) (aW1 s o.ok o'.ok hp hq h h') (aQU s o.ok o'.ok hp hq h h') λ d S=>aIS d _ _ _ w S s f g rfl rfl rfl rfl o.ok o'.ok (aX2 s w f g o.ok o'.ok hp hq h h') o.w2
def aVQ(h1:1<=w)(h2:w<=64)(hn:n<2^w):RG (.num,w,[n],) [] []:=
 (_,aLQ (aL3 hn h1) (aTz hn) h1 h2,λ d S=>aRo (d+3) n w hn h1 h2 S,)
def aX4(h1:1<=w)(h2:w<=64):RG (.in,w,[],) [] []:=
 (fU,((xAe w,xAe w,yAc 1,h1,),(0,xAe w,λ i h=>aJt h,λ i h=>aJt h,xA _ _,),h1,h2,),λ d S=>aI7 (d+3) w h1 h2 S,)
def rg(h:RwOk r ws)(o:yT Fs ws):RG r ws Fs:=by
 cases h with
 |inp h1 h2=>
   rcases Fs with _|⟨f,Fs⟩
   .exact aX4 h1 h2
   .exact o.elim
 |num h1 h2 hn=>
   rcases Fs with _|⟨f,Fs⟩
   .exact aVQ h1 h2 hn
   .exact o.elim
 |nt h1 h2=>
   let(f,rfl,o1):=aFs o;exact aWV o1
 |cut h1 hv h2=>
   let(f,rfl,o1):=aFs o;exact aUy h1 hv o1
 |wide h1 hv h2=>
   let(f,rfl,o1):=aFs o;exact aTi hv h2 o1
 |sm h1 h2=>
   let(f,g,rfl,o1,o2):=aZE o;exact aYM _ o1 o2
def f0(F:List Ft)(a:Nat):Ft:=F.getD a (0,0,1,)
def fH(r:Rw)(F:List Ft):List Ft:=(r.args.take (bA r.wd)).map (f0 F)
def aBe{F:List Ft}(h:a<↑F):F[a]?=qz (f0 F a):=by show F[a]?=qz (F.getD a (0,0,1,));rw[xAg,yAb h];rfl
def sI(rs:List Rw)(F:List Ft):Prop:=∀ (i:Nat) (r:Rw),i<↑F->rs[i]?=qz r->Op (f0 F i) r.w
def aJ5(s:sI rs F):∀ (l:List Nat),(∀ a∈l,a<↑F/\a<↑rs)->yT (l.map (f0 F)) (l.map (g0 (~~~rs)))
 |[],_=>True.intro
 |a::l,h=>by
   let(h1,h2):=h a xAc;have hr:rs[a]?=qz rs[a]:=yAb h2;refine(?_,aJ5 s l λ b hb=>h b (xAf _ hb),);rw[show g0 (~~~rs) a=rs[a].w from by show(~~~rs).getD a 0=_;rw[xAg,yAg,hr];rfl];exact s a _ h1 hr
structure Nx(rs:List Rw)(F:List Ft)(r:Rw)(g:Ft):Prop where
 op:Op g r.w
 rule:∀ d S,cl fns (d+7) 47 [.d r.d,.d (.tuple ((bR r (~~~rs)).map nD)),.d (.tuple ((fH r F).map Ft.d))] S=qz (.d g.d,S)
def aQG(p:Prg rs)(s:sI rs F)(hr:rs[j]?=qz r)(hF:j<=↑F):∃ g,Nx rs F r g:=by let(f1,f2):=p.fit j r hr;have hj:j<↑rs:=(gIm hr).1;let(g,o,rl):=rg f1 (aJ5 s _ λ a ha=>by have:=f2 a ha;omega);exact(g,o,rl,)
def aT3(d:Nat)(r:Rw)(F:List Ft)(S0:aD)(h:∀ a∈r.args.take (bA r.wd),a<↑F):cl fns (d+2) 9 [.d r.d,.loc ↑S0] (S0++[qz (F.map Ft.d)])=qz (.d (.tuple ((fH r F).map Ft.d)),S0++[qz (F.map Ft.d)]):=by
 have:=sX d r (.loc ↑S0) (.list (F.map Ft.d)) (λ a=>(f0 F a).d) (S0++[qz (F.map Ft.d)]) (λ aI=>by
  show(match (S0++[qz (F.map Ft.d)]++[qz aI])[↑S0]? with|some (qz ds)=>qz (yGd ds)|_=>qx)=_
  rw[yAq,yAd (yAc _),yBb];rfl) λ a ha=>pH (by rw[yAg,aBe (h a ha)];rfl)
 rw[this,fH,yAz];rfl
def aQ9{r:Rw}{F:List Ft}(h:∀ a∈r.args.take (bA r.wd),a<↑F):fH r (F++[f])=fH r F:=by
 unfold fH;refine yCq λ a ha=>?_
 show(F++[f]).getD a (0,0,1,)=F.getD a (0,0,1,);rw[xAg,xAg,xAm (h a ha)]
def aKp{F:List Ft}(h:a<↑F):f0 (F++[f]) a=f0 F a:=by show(F++[f]).getD a (0,0,1,)=F.getD a (0,0,1,);rw[xAg,xAg,xAm h]
def aLt(F:List Ft)(f:Ft):f0 (F++[f]) ↑F=f:=by show(F++[f]).getD ↑F (0,0,1,)=f;rw[xAg,yAd (yAc _),yBb];rfl
def aR5(rs:List Rw):sI rs []:=λ i r h=>absurd h (yCa i)
def aRw(s:sI rs F)(hr:rs[↑F]?=qz r)(o:Op f r.w):sI rs (F++[f]):=λ i q hi hq=>by
 by_cases c:i<↑F
 .rw[aKp c];exact s i q c hq
 .have ci:i=↑F:=by simp at hi;omega
  subst ci;rw[hr] at hq;cases hq;rw[aLt];exact o
def aJe(p:Prg rs){F:List Ft}(hi:i<=↑F)(hr:rs[i]?=qz r)(nx:Nx rs F r g):Nx rs (F++[f]) r g:=by refine(nx.op,?_,);rw[aQ9 λ a ha=>by have:=(p.fit i r hr).2 a ha;omega];exact nx.rule
def oJ(rs:List Rw)(F:List Ft):Prop:=∀ (i:Nat) (r:Rw),i<↑F->rs[i]?=qz r->∃ g,g=f0 F i/\Nx rs F r g
def aRI(p:Prg rs)(h:oJ rs F)(hr:rs[↑F]?=qz r)(nx:Nx rs F r g):oJ rs (F++[g]):=λ i q hi hq=>by
 by_cases c:i<↑F
 .let(g',rfl,h1):=h i q c hq;exact(_,(aKp c).symm,aJe p () hq h1,)
 .have ci:i=↑F:=by simp at hi;omega
  subst ci;rw[hr] at hq;cases hq;exact(g,(aLt F g).symm,aJe p (yAc _) hr nx,)
def aGU(d:Nat)(rs:List Rw)(o:D)(p:Prg rs)(S:aD):∃ F:List Ft,↑F=↑rs/\sI rs F/\oJ rs F/\cl fns (d+9) 48 [.d (rs<*o)] S=qz (.d (F*>Ft.d),S):=by
 have i0:aV (rs<*o) (.int 0)=qz (rs*>Rw.d):=rfl;have pl:=p.l;let(bD,S',p1,F,c3,rfl,rfl,fl,fs,fo):=kM (t:=.one 3) (fi:=lv (d<$>8) aAl) (fb:=xs (d<$>8) aAk) (env:=[qz (.d (rs<*o)),qz (.d (.tuple ((~~~rs).map nD))),qz (.loc ↑S),qx]) (S:=S++[qz []]) (S1:=S++[qz []]) (ds:=rs.map Rw.d)
  (λ j env S'=>∃ (F:List Ft) (c3:Option W),env=[qz (.d (rs<*o)),qz (.d (.tuple ((~~~rs).map nD))),qz (.loc ↑S),c3]/\S'=S++[qz (F.map Ft.d)]/\↑F=j/\sI rs F/\oJ rs F)
  (by
    erw[20,aAl,i0,iL]) ([],qx,rfl,rfl,rfl,aR5 rs,λ i r hi=>absurd hi (yCa i),) (by
    rintro j dd env S' hd ⟨F,c3,rfl,rfl,fl,fs,fo⟩;rw[yAg] at hd;let(r,hr,rfl):=Option.map_eq_some_iff.mp hd;subst fl;let(f1,f2):=p.fit _ r hr;have hj:↑F<↑rs:=(gIm hr).1;have hWl:↑(~~~rs)=↑rs:=yAa ..;let(g,nx):=aQG p fs hr (yAc _);have o1:=aDX (d+6) r (~~~rs) (S++[qz (F.map Ft.d)]) λ a ha=>by have:=f2 a ha;omega
    have o2:=aT3 (d+6) r F S λ a ha=>f2 a ha
    have rl:=nx.rule (d+1) (S++[qz (F.map Ft.d)]);have ap:dO (S++[qz (F.map Ft.d)]) (.loc ↑S) (.d g.d)=qz (.d .none,S++[qz ((F++[g]).map Ft.d)]):=by
     rw[wC S (F.map Ft.d) _ (by rw[yAa];omega),yAk];rfl
    refine(_,[qz (.d (rs<*o)),qz (.d (.tuple ((~~~rs).map nD))),qz (.loc ↑S),qz (.d r.d)],S++[qz ((F++[g]).map Ft.d)],rfl,?_,F++[g],_,rfl,rfl,by simp,aRw fs hr nx.op,aRI p fo hr nx,)
    erw[20,aAk,o1,o2,rl,rN,ap])
 rw[yAa] at fl;refine(F,fl,fs,fo,?_,);have p1':lA (.one 3) (lv (d<$>8) aAl) (xs (d<$>8) aAk) [qz (.d (rs<*o)),qz (.d (.tuple ((~~~rs).map nD))),qz (.loc ↑S),qx] (S++[qz []])=qz (.nx [qz (.d (rs<*o)),qz (.d (.tuple ((~~~rs).map nD))),qz (.loc ↑S),c3],S++[qz (F.map Ft.d)]):=p1;have tk1:∀ x,yIe ↑S (S++[x])=S:=λ x=>yGf
 rw[bX rfl (d+8) _ S rfl];have hq41:=aAn (d+7) rs o ();erw[11,aHX,hq41,mI,p1',qR,lZ,tQ,tk1]
def aS5(i t:Nat):(2^i)[t]! =decide (i=t):=Nat.testBit_two_pow
def mF(x w:Nat):Nat:=if x/2^w=0 then x else (x&&&(2^w-1))|||2^(w-1)
def aQX(hw:1<=w):(mF x w)[t]! =true ↔ (t<w/\x[t]! =true)\/(t=w-1/\∃ j,w<=j/\x[j]! =true):=by
 unfold mF;split
 .rename_i h;rw[aCL] at h;constructor
  .intro z;refine .inl (?_,z,);by_cases c:t<w
   .exact c
   .rw[h t ()] at z;cases z
  .rintro (⟨_,z⟩|⟨_,j,h1,h2⟩)
   .exact z
   .rw[h j h1] at h2;cases h2
 .rename_i h;rw[xAo,yAy,fA,aS5];have h':∃ j,w<=j/\x[j]! =true:=by
   rw[aCL] at h;by_cases c:∃ j,w<=j/\x[j]! =true
   .exact c
   .refine absurd (λ i hi=>?_) h;cases q:x[i]! with
    |false=>rfl|true=>exact absurd (i,hi,q,) c
  constructor
  .intro z;simp only[yDo,yBv,decide_eq_true_eq] at z;rcases z with ⟨z1,z2⟩|z
   .exact .inl (z2,z1,)
   .exact .inr (z.symm,h',)
  .rintro (⟨z1,z2⟩|⟨z,_⟩)
   .simp[z1,z2]
   .simp[z]
def aJR(hw:1<=w):mF x w<2^w:=by
 apply yEb;intro i hi;cases q:(mF x w)[i]! with
 |false=>rfl
 |true=>
   rcases (aQX hw).mp q with ⟨h,_⟩|⟨h,_⟩<;>omega
structure Fc where
 N:Nat
 O:Nat
 A:Nat
noncomputable instance:Inhabited Fc:=⟨(0,0,0,)⟩
def fQ(wd:Wd)(w kk:Nat)(ws:List Nat)(fs:List Fc)(m:Nat):List Nat:=
 if m=0 then yAf (bA wd) 0 else
 match wd with
 |.in|.num=>[]
 |.not|.cut=>[m]
 |.xor=>[m,m]|.and=>[cI m (cI (fs.getD 1 default).N (fs.getD 0 default).N),cI m (fs.getD 0 default).N]|.or=>[cI m (cI (fs.getD 1 default).O (fs.getD 0 default).O),cI m (fs.getD 0 default).O]
 |.add|.sub=>[2^bl m-1,2^bl m-1]
 |.mul=>[2^(bl m-min (bl m) (lr (fs.getD 1 default).N))-1,2^(bl m-min (bl m-min (bl m) (lr (fs.getD 1 default).N)) (lr (fs.getD 0 default).N))-1]|.left=>[m/2^kk]|.right=>[(m*2^kk)&&&(2^w-1)]|.slide=>[mF (m*2^kk) w]|.wide=>[m&&&(2^ws.getD 0 0-1)]|.sign=>[mF m (ws.getD 0 0)]
 |.same|.less|.under=>[2^ws.getD 0 0-1,2^ws.getD 1 0-1]
 |.pick=>if (fs.getD 0 default).O=1 then [1,m,0] else if (fs.getD 0 default).N=1 then [1,0,m] else [1,m,m]
def aCh(wd:Wd)(w:Nat)(ws:List Nat):Prop:=1<=w/\w<=64/\match wd with
 |.in|.num=>ws=[]
 |.not|.left|.right|.slide=>ws=[w]
 |.and|.or|.xor|.add|.sub|.mul=>ws=[w,w]
 |.cut=>∃ v,ws=[v]/\w<=v/\v<=64
 |.wide|.sign=>∃ v,ws=[v]/\v<=w/\1<=v
 |.same|.less|.under=>w=1/\∃ v,ws=[v,v]/\1<=v/\v<=64
 |.pick=>ws=[1,w,w]
def iN(h:k<=v):2^k-1<2^v:=by have h1:=xAe k;have h2:(2:Nat)^k<=2^v:=yAh (·) h;omega
def aA1(h:m<2^v):cI m y<2^v:=xAi (yDv _ _) h
def aUn(wd:Wd)(w kk:Nat)(ws:List Nat)(fs:List Fc)(m c v:Nat)(hk:aCh wd w ws)(hm:m<2^w)(hv:ws[c]?=qz v):(fQ wd w kk ws fs m).getD c 0<2^v:=by
 by_cases h0:m=0
 .subst h0;have e:(fQ wd w kk ws fs 0).getD c 0=0:=by
   unfold fQ;rw[if_pos rfl,xAg,yCg];split<;>rfl
  rw[e];exact xAe _
 have hb:bl m<=w:=mD hm;have e0:fQ wd w kk ws fs m=_:=if_neg h0;rw[e0];have one:∀ {a u:Nat},ws=[u]->a<2^u->[a].getD c 0<2^v:=λ {a u} e h=>by
  subst e
  match c,hv with
  |0,hv=>cases hv;exact h|c+1,hv=>simp at hv
 have two:∀ {a b u x:Nat},ws=[u,x]->a<2^u->b<2^x->[a,b].getD c 0<2^v:=λ {a b u x} e h h2=>by
  subst e
  match c,hv with
  |0,hv=>cases hv;exact h|1,hv=>cases hv;exact h2|c+2,hv=>simp at hv
 have three:∀ {a b e u x y:Nat},ws=[u,x,y]->a<2^u->b<2^x->e<2^y->[a,b,e].getD c 0<2^v:=λ {a b e u x y} e' h h2 h3=>by
  subst e'
  match c,hv with
  |0,hv=>cases hv;exact h|1,hv=>cases hv;exact h2|2,hv=>cases hv;exact h3|c+3,hv=>simp at hv
 let(gG,qJ,hk):=hk;cases wd with
 | «in» => rw[hk] at hv;simp at hv|num=>rw[hk] at hv;simp at hv|not=>exact one hk hm
 |cut=>
   let(u,e,h1,h2):=hk;exact one e (xAb hm (yAh (·) h1))
 |xor=>exact two hk hm hm|and=>exact two hk (aA1 hm) (aA1 hm)|or=>exact two hk (aA1 hm) (aA1 hm)|add=>exact two hk (iN hb) (iN hb)|sub=>exact two hk (iN hb) (iN hb)|mul=>exact two hk (iN (xAh (yDv _ _) hb)) (iN (xAh (yDv _ _) hb))|left=>exact one hk (xAi (Nat.div_le_self _ _) hm)|right=>exact one hk (Nat.and_lt_two_pow _ (iN (yAc _)))|slide=>exact one hk (aJR gG)
 |wide=>
   let(u,e,h1,h2):=hk;subst e;exact one rfl (Nat.and_lt_two_pow _ (iN (yAc _)))
 |sign=>
   let(u,e,h1,h2):=hk;subst e;exact one rfl (aJR h2)
 |same=>
   let(_,u,e,h1,h2):=hk;subst e;exact two rfl (iN (yAc _)) (iN (yAc _))
 |less=>
   let(_,u,e,h1,h2):=hk;subst e;exact two rfl (iN (yAc _)) (iN (yAc _))
 |under=>
   let(_,u,e,h1,h2):=hk;subst e;exact two rfl (iN (yAc _)) (iN (yAc _))
 |pick=>
   simp only;split
   .exact three hk (·) hm (xAe _)
   .split
    .exact three hk (·) (xAe _) hm
    .exact three hk (·) hm hm
def Fc.d(f:Fc):D:=.tuple [.int f.N,.int f.O,.int f.A]
def aB2(f:Fc):aV f.d (.int 0)=qz (.int f.N):=rfl
def aB6(f:Fc):aV f.d (.int 1)=qz (.int f.O):=rfl
def aMf(a:D):aV (.tuple [a]) (.int 0)=qz a:=rfl
def aBM(a b:D):aV (.tuple [a,b]) (.int 0)=qz a:=rfl
def aBC(a b:D):aV (.tuple [a,b]) (.int 1)=qz b:=rfl
def aX8(a b c:D):aV (.tuple [a,b,c]) (.int 0)=qz a:=rfl
def aHm(d a b m:Nat)(S:aD):cl fns (d+1) 12 [.d (.int a),.d (.int b),.d (.int m)] S=qz (.d (.tuple [.int ((cI m (cI b a):Nat):Int),.int ((cI m a:Nat):Int)]),S):=by rw[bX rfl d _ S rfl];erw[11,aGJ,aDO,aDb]
def aRv(i j:Nat):(if ((j:Nat):Int)<((i:Nat):Int) then ((j:Nat):Int) else ((i:Nat):Int))=((min i j:Nat):Int):=by
 by_cases c:j<i
 .rw[if_pos (),yDe ()]
 .rw[if_neg (),yDr ()]
def aOP(d a b m:Nat)(hm:m<2^64)(S:aD):cl fns (d+3) 13 [.d (.int a),.d (.int b),.d (.int m)] S=qz (.d (.tuple [.int ((2^(bl m-min (bl m) (lr b))-1:Nat):Int),.int ((2^(bl m-min (bl m-min (bl m) (lr b)) (lr a))-1:Nat):Int)]),S):=by have hb:=mD hm;have e1:((bl m:Nat):Int)-((min (bl m) (lr b):Nat):Int)=((bl m-min (bl m) (lr b):Nat):Int):=();have e2:((bl m:Nat):Int)-((min (bl m-min (bl m) (lr b)) (lr a):Nat):Int)=((bl m-min (bl m-min (bl m) (lr b)) (lr a):Nat):Int):=();rw[bX rfl (d+2) _ S rfl];erw[20,gW,aH2,wH (d+1),aEz d,kT,aRv,eJ,e1,e2,dU (d+1) (bl m-min (bl m) (lr b)) (),dU (d+1) (bl m-min (bl m-min (bl m) (lr b)) (lr a)) ()]
def aHE(d y w:Nat)(hw:1<=w)(qJ:w<=1000)(S:aD):cl fns (d+2) 14 [.d (.int y),.d (.int w)] S=qz (.d (.int ((mF y w:Nat):Int)),S):=by
 have e1:(w:Int)-1=((w-1:Nat):Int):=();rw[bX rfl (d+1) _ S rfl];unfold mF;by_cases c:y/2^w=0
 .have d1:(y/2^w==0)=true:=by rw[beq_iff_eq];exact c
  rw[if_pos c];erw[11,aDv,tF,cC,dZ,d1]
 .have d1:(y/2^w==0)=false:=by rw[beq_eq_false_iff_ne];exact c
  rw[if_neg c];have hq42:=dU d w ();have hq43:=iX (show w-1<=100000 by omega);erw[11,aDv,tF,cC,dZ,d1,hq42,fO,eJ,e1,hq43,iO]
def aSh(d w kk m:Nat)(S:aD):cl fns (d+3) 15 [.d (.str "left"),.d (.int w),.d (.int kk),.d (.int m)] S=qz (.d (.int ((m/2^kk:Nat):Int)),S):=by have c1:aP .Eq (.str "left") (.str "left")=qz (.bool true):=cG .left .left;rw[bX rfl (d+2) _ S rfl];erw[11,aAq,c1,tF]
def aRs(d w kk m:Nat)(hw:w<=64)(hk:kk<=64)(hm:m<2^64)(S:aD):cl fns (d+3) 15 [.d (.str "right"),.d (.int w),.d (.int kk),.d (.int m)] S=qz (.d (.int (((m*2^kk)&&&(2^w-1):Nat):Int)),S):=by have c1:aP .Eq (.str "right") (.str "left")=qz (.bool false):=cG .right .left;have c2:aP .Eq (.str "right") (.str "right")=qz (.bool true):=cG .right .right;rw[bX rfl (d+2) _ S rfl];have hq44:=aDR hm (show 64+kk<=100000 by omega);have hq45:=dU (d+1) w ();erw[11,aAq,c1,c2,hq44,hq45,fO]
def aRq(d w kk m:Nat)(gG:1<=w)(hw:w<=64)(hk:kk<=64)(hm:m<2^64)(S:aD):cl fns (d+3) 15 [.d (.str "slide"),.d (.int w),.d (.int kk),.d (.int m)] S=qz (.d (.int ((mF (m*2^kk) w:Nat):Int)),S):=by have c1:aP .Eq (.str "slide") (.str "left")=qz (.bool false):=cG .slide .left;have c2:aP .Eq (.str "slide") (.str "right")=qz (.bool false):=cG .slide .right;rw[bX rfl (d+2) _ S rfl];have hq46:=aDR hm (show 64+kk<=100000 by omega);erw[11,aAq,c1,c2,hq46,aHE d _ w gG ()]
def aOE(d:Nat)(f:Fc)(m:Nat)(S:aD):cl fns (d+1) 16 [.d f.d,.d (.int m)] S=qz (.d (.tuple ((if f.O=1 then [1,m,0] else if f.N=1 then [1,0,m] else [1,m,m]).map nD)),S):=by
 rw[bX rfl d _ S rfl];by_cases c1:f.O=1
 .have d1:(f.O==1)=true:=by rw[beq_iff_eq];exact c1
  rw[if_pos c1];erw[11,aAy,aB6,cC,qN,d1]
 .have d1:(f.O==1)=false:=by rw[beq_eq_false_iff_ne];exact c1
  rw[if_neg c1];by_cases c2:f.N=1
  .have d2:(f.N==1)=true:=by rw[beq_iff_eq];exact c2
   rw[if_pos c2];erw[11,aAy,aB6,aB2,cC,qN,d1,d2]
  .have d2:(f.N==1)=false:=by rw[beq_eq_false_iff_ne];exact c2
   rw[if_neg c2];erw[11,aAy,aB6,aB2,cC,qN,d1,d2]
def xI(wd:Wd)(args:List Nat)(kk:Nat):Prop:=match wd with
 |.in=>args=[]|.num=>∃ n,args=[n]
 |.not|.cut|.wide|.sign=>∃ a,args=[a]
 |.left|.right|.slide=>∃ a,args=[a,kk]/\kk<64
 |.pick=>∃ a b c,args=[a,b,c]|_=>∃ a b,args=[a,b]
def aAO{wd:Wd}(h:xI wd args kk):↑(args.take (bA wd))=bA wd:=by
 cases wd<;>first
  |(obtain rfl:=h;rfl)
  |(let(a,b,c,rfl):=h;rfl)
  |(let(a,b,rfl):=h;rfl)
  |(let(a,rfl,_):=h;rfl)
  |(let(a,rfl):=h;rfl)
def aMS(a:Wd):aP .In (.str a.s) (.tuple [.str "add",.str "sub"])=qz (.bool (decide (a=.add\/a=.sub))):=by cases a<;>rfl
def aXL{wd:Wd}:aV (Rw.mk wd w [a,k]).d (.int 3)=qz (.int k):=rfl
def aFj{α:Type}{l:List α}(h:↑l=2):∃ a b,l=[a,b]:=by
 match l,h with
 |[a,b],_=>exact(a,b,rfl,)
def aZr{α:Type}{l:List α}(h:↑l=3):∃ a b c,l=[a,b,c]:=by
 match l,h with
 |[a,b,c],_=>exact(a,b,c,rfl,)
noncomputable abbrev eA(R W G:D)(m:Nat)(x:Wd):bB:=[qz (.d R),qz (.d W),qz (.d G),(m:),qz (.d (.str x.s))]
def aK:Nat->Sx
 |0=>bJ aGN|k+1=>bJ (aK k)
section
variable (C:Calls)(R W G:D)(m:Nat)(S:aD)(x:Wd)
theorem aFD:tv C (.cmp .Eq (.var 4) (.str "and")) (eA R W G m x) S=qz (decide (x=.and),S):=fP rfl (cG x .and)
theorem aM3:tv C (.cmp .Eq (.var 4) (.str "or")) (eA R W G m x) S=qz (decide (x=.or),S):=fP rfl (cG x .or)
theorem aNb:tv C (.cmp .In (.var 4) (.tup (.cons (.str "add") (.cons (.str "sub") .nil)))) (eA R W G m x) S=qz (decide (x=.add\/x=.sub),S):=rF rfl rfl (aMS x)
theorem aNE:tv C (.cmp .Eq (.var 4) (.str "mul")) (eA R W G m x) S=qz (decide (x=.mul),S):=fP rfl (cG x .mul)
theorem aNF:tv C (.cmp .In (.var 4) (.con "SHIFTS" oW)) (eA R W G m x) S=qz (decide (x=.left\/x=.right\/x=.slide),S):=rF rfl rfl (aDo x)
theorem aFC:tv C (.cmp .Eq (.var 4) (.str "wide")) (eA R W G m x) S=qz (decide (x=.wide),S):=fP rfl (cG x .wide)
theorem aNs:tv C (.cmp .Eq (.var 4) (.str "sign")) (eA R W G m x) S=qz (decide (x=.sign),S):=fP rfl (cG x .sign)
theorem aFF:tv C (.cmp .In (.var 4) (.con "COMPARES" mY)) (eA R W G m x) S=qz (decide (x=.same\/x=.less\/x=.under),S):=rF rfl rfl (aDJ x)
theorem aM6:tv C (.cmp .Eq (.var 4) (.str "pick")) (eA R W G m x) S=qz (decide (x=.pick),S):=fP rfl (cG x .pick)
variable {C R W G m S}{r:Option (Fl×aD)}
theorem jW(e:aK k=.seq (.ifs c t .skip) (aK (k+1)))(h:tv C c (eA R W G m x) S=qz (b,S))(hb:b=false)(g:xs C (aK (k+1)) (eA R W G m x) S=r):xs C (aK k) (eA R W G m x) S=r:=by subst hb;rw[e];exact bF h g
theorem aNN(h:(decide (x=.and)||decide (x=.or))=false)(g:xs C (aK 2) (eA R W G m x) S=r):xs C (aK 0) (eA R W G m x) S=r:=by let(h1,h2):=Bool.or_eq_false_iff.mp h;exact jW x rfl (aFD C R W G m S x) h1 (jW x rfl (aM3 C R W G m S x) h2 g)
theorem aNi(h:(decide (x=.and)||decide (x=.or))=false)(h2:decide (x=.add\/x=.sub)=false)(g:xs C (aK 3) (eA R W G m x) S=r):xs C (aK 0) (eA R W G m x) S=r:=aNN x h (jW x rfl (aNb C R W G m S x) h2 g)
theorem aM8(h:(decide (x=.and)||decide (x=.or))=false)(h2:(decide (x=.add\/x=.sub)||decide (x=.mul))=false)(g:xs C (aK 4) (eA R W G m x) S=r):xs C (aK 0) (eA R W G m x) S=r:=by let(h3,h4):=Bool.or_eq_false_iff.mp h2;exact aNi x h h3 (jW x rfl (aNE C R W G m S x) h4 g)
theorem aFu(h:(decide (x=.and)||decide (x=.or))=false)(h2:(decide (x=.add\/x=.sub)||decide (x=.mul))=false)(h5:decide (x=.left\/x=.right\/x=.slide)=false)(g:xs C (aK 5) (eA R W G m x) S=r):xs C (aK 0) (eA R W G m x) S=r:=aM8 x h h2 (jW x rfl (aNF C R W G m S x) h5 g)
theorem aFp(h:(decide (x=.and)||decide (x=.or))=false)(h2:(decide (x=.add\/x=.sub)||decide (x=.mul))=false)(h5:decide (x=.left\/x=.right\/x=.slide)=false)(h6:(decide (x=.wide)||decide (x=.sign))=false)(g:xs C (aK 7) (eA R W G m x) S=r):xs C (aK 0) (eA R W G m x) S=r:=by let(h3,h4):=Bool.or_eq_false_iff.mp h6;exact aFu x h h2 h5 (jW x rfl (aFC C R W G m S x) h3 (jW x rfl (aNs C R W G m S x) h4 g))
theorem aZX(h:(decide (x=.and)||decide (x=.or))=false)(h2:(decide (x=.add\/x=.sub)||decide (x=.mul))=false)(h5:decide (x=.left\/x=.right\/x=.slide)=false)(h6:(decide (x=.wide)||decide (x=.sign))=false)(h8:(decide (x=.same\/x=.less\/x=.under)||decide (x=.pick))=false)(g:xs C (aK 9) (eA R W G m x) S=r):xs C (aK 0) (eA R W G m x) S=r:=by let(h3,h4):=Bool.or_eq_false_iff.mp h8;exact aFp x h h2 h5 h6 (jW x rfl (aFF C R W G m S x) h3 (jW x rfl (aM6 C R W G m S x) h4 g))
end
section
variable (d w kk m:Nat)(ws:List Nat)(R W:D)(S:aD)(h0:m≠0)
include h0
theorem aTR(f g:Fc):xs (d<$>3) (aK 0) (eA R W (.tuple ([f,g].map Fc.d)) m .and) S=qz (.rt (.d (.tuple ((fQ .and w kk ws [f,g] m).map nD))),S):=by rw[show fQ .and w kk ws [f,g] m=_ from if_neg h0];refine cF (aFD _ _ _ _ _ _ .and) (bH ?_);erw[0,aBM,aBC,aB2,aHm (d+2),nD,yFk,yGv]
theorem aWf(f g:Fc):xs (d<$>3) (aK 0) (eA R W (.tuple ([f,g].map Fc.d)) m .or) S=qz (.rt (.d (.tuple ((fQ .or w kk ws [f,g] m).map nD))),S):=by rw[show fQ .or w kk ws [f,g] m=_ from if_neg h0];refine jW .or rfl (aFD _ _ _ _ _ _ .or) rfl (cF (aM3 _ _ _ _ _ _ .or) (bH ?_));erw[0,aBM,aBC,aB6,aHm (d+2),nD,yFk,yGv]
theorem aJu(x:Wd)(hx:decide (x=.add\/x=.sub)=true)(h1:(decide (x=.and)||decide (x=.or))=false)(G:D)(bm:m<2^10000):xs (d<$>3) (aK 0) (eA R W G m x) S=qz (.rt (.d (.tuple ([2^bl m-1,2^bl m-1].map nD))),S):=by have t:=aNb (d<$>3) R W G m S x;rw[hx] at t;refine aNN x h1 (cF t (bH ?_));erw[0,aAL (d+1) m _ bm,nD]
theorem aR9(f g:Fc)(hm:m<2^64):xs (d<$>3) (aK 0) (eA R W (.tuple ([f,g].map Fc.d)) m .mul) S=qz (.rt (.d (.tuple ((fQ .mul w kk ws [f,g] m).map nD))),S):=by rw[show fQ .mul w kk ws [f,g] m=_ from if_neg h0];refine aNi .mul rfl rfl (cF (aNE _ _ _ _ _ _ .mul) (bH ?_));erw[20,aBM,aBC,aB2,aOP d f.N g.N m hm,nD,yFk,yGv]
theorem aEl(x:Wd)(hx:decide (x=.left\/x=.right\/x=.slide)=true)(h1:(decide (x=.and)||decide (x=.or))=false)(h2:(decide (x=.add\/x=.sub)||decide (x=.mul))=false)(a:Nat)(G:D){z:Nat}(sl:cl fns (d+3) 15 [.d (.str x.s),.d (.int w),.d (.int kk),.d (.int m)] S=qz (.d (.int z),S)):xs (d<$>3) (aK 0) (eA (Rw.mk x w [a,kk]).d W G m x) S=qz (.rt (.d (.tuple ([z].map nD))),S):=by have t:=aNF (d<$>3) (Rw.mk x w [a,kk]).d W G m S x;rw[hx] at t;have r1:aV (Rw.mk x w [a,kk]).d (.int 1)=qz (.int w):=jQ _;refine aM8 x h1 h2 (cF t (bH ?_));erw[20,r1,aXL,sl,nD]
theorem aQW(v:Nat)(hv:v<=64)(G:D):xs (d<$>3) (aK 0) (eA R (.tuple ([v].map nD)) G m .wide) S=qz (.rt (.d (.tuple ([m&&&(2^v-1)].map nD))),S):=by refine aFu .wide rfl rfl rfl (cF (aFC _ _ _ _ _ _ .wide) (bH ?_));have hq47:=dU (d+2) v ();erw[0,nD,aMf,hq47,fO]
theorem aQ2(v:Nat)(hv1:1<=v)(hv:v<=64)(G:D):xs (d<$>3) (aK 0) (eA R (.tuple ([v].map nD)) G m .sign) S=qz (.rt (.d (.tuple ([mF m v].map nD))),S):=by refine aFu .sign rfl rfl rfl (jW .sign rfl (aFC _ _ _ _ _ _ .sign) rfl (cF (aNs _ _ _ _ _ _ .sign) (bH ?_)));have hq48:=aHE (d+1) m v hv1 ();erw[0,nD,aMf,hq48]
theorem aDB(x:Wd)(hx:decide (x=.same\/x=.less\/x=.under)=true)(h1:(decide (x=.and)||decide (x=.or))=false)(h2:(decide (x=.add\/x=.sub)||decide (x=.mul))=false)(h5:decide (x=.left\/x=.right\/x=.slide)=false)(h6:(decide (x=.wide)||decide (x=.sign))=false)(v:Nat)(hv:v<=64)(G:D):xs (d<$>3) (aK 0) (eA R (.tuple ([v,v].map nD)) G m x) S=qz (.rt (.d (.tuple ([2^v-1,2^v-1].map nD))),S):=by have t:=aFF (d<$>3) R (.tuple ([v,v].map nD)) G m S x;rw[hx] at t;refine aFp x h1 h2 h5 h6 (cF t (bH ?_));have hq49:=dU (d+2) v ();erw[0,nD,aBM,aBC,hq49]
theorem aRg(f g h:Fc):xs (d<$>3) (aK 0) (eA R W (.tuple ([f,g,h].map Fc.d)) m .pick) S=qz (.rt (.d (.tuple ((fQ .pick w kk ws [f,g,h] m).map nD))),S):=by rw[show fQ .pick w kk ws [f,g,h] m=_ from if_neg h0];refine aFp .pick rfl rfl rfl rfl (jW .pick rfl (aFF _ _ _ _ _ _ .pick) rfl (cF (aM6 _ _ _ _ _ _ .pick) (bH ?_)));erw[0,aX8,aOE (d+2),yFk]
omit h0 in
theorem aZb(n:Nat)(h:n<=10):bO .Mult (.tuple [.int m]) (.int ((n:Nat):Int))=qz (.tuple ((yAf n m).map nD)):=by rw[@sU _ n (),yEo];rfl
theorem wI(x:Wd)(args:List Nat)(ha:xI x args kk)(h1:(decide (x=.and)||decide (x=.or))=false)(h2:(decide (x=.add\/x=.sub)||decide (x=.mul))=false)(h5:decide (x=.left\/x=.right\/x=.slide)=false)(h6:(decide (x=.wide)||decide (x=.sign))=false)(h8:(decide (x=.same\/x=.less\/x=.under)||decide (x=.pick))=false)(G:D):xs (d<$>3) (aK 0) (eA (Rw.mk x w args).d W G m x) S=qz (.rt (.d (.tuple ((yAf (bA x) m).map nD))),S):=by
 have op:cl fns (d+3) 7 [.d (Rw.mk x w args).d] S=qz (.d (.tuple ((args.take (bA x)).map nD)),S):=qO (d+2) (x,w,args,) S;have lop:jI [.tuple ((args.take (bA x)).map nD)]=qz (.int ((bA x:Nat):Int)):=by
  simp only[aLB,aKq,yAa,aAO ha]
 have rp:=aZb m (bA x) (by cases x<;>decide);refine aZX x h1 h2 h5 h6 h8 (bH ?_);erw[0,op,lop,rp]
end
def aQu(d:Nat)(wd:Wd)(w:Nat)(args:List Nat)(kk:Nat)(ws:List Nat)(fs:List Fc)(m:Nat)(hk:aCh wd w ws)(hf:↑fs=bA wd)(ha:xI wd args kk)(hm:m<2^w)(h0:m≠0)(S:aD) :
 cl fns (d+4) 17 [.d (Rw.mk wd w args).d,.d (ws*>nD),.d (fs*>Fc.d),.d (.int m)] S=qz (.d (.tuple ((fQ wd w kk ws fs m).map nD)),S):=by
 have hm64:m<2^64:=xAb hm (yAh (·) hk.2.1);have r0:aV (Rw.mk wd w args).d (.int 0)=qz (.str wd.s):=jS _;have bm:m<2^10000:=aLp hm64 (·);refine gJ rfl (d+3) rfl rfl (yAi) (bQ (S1:=S) (w:=.d (.str wd.s)) (bD:=eA (Rw.mk wd w args).d (ws*>nD) (fs*>Fc.d) m wd) (by erw[20,r0]) rfl ?_);show xs (d<$>3) (aK 0) (eA (Rw.mk wd w args).d (ws*>nD) (fs*>Fc.d) m wd) S=_;clear r0;let(gG,qJ,hk):=hk;have e0:fQ wd w kk ws fs m=_:=if_neg h0;cases wd
 case and=>let(f,g,rfl):=aFj hf;exact aTR d w kk m ws _ _ S h0 f g
 case or=>let(f,g,rfl):=aFj hf;exact aWf d w kk m ws _ _ S h0 f g
 case add=>rw[e0];exact aJu d m _ _ S h0 .add rfl rfl _ bm
 case sub=>rw[e0];exact aJu d m _ _ S h0 .sub rfl rfl _ bm
 case mul=>let(f,g,rfl):=aFj hf;exact aR9 d w kk m ws _ _ S h0 f g hm64
 case left=>
  let(a,rfl,hkk):=ha;rw[e0];exact aEl d w kk m _ S h0 .left rfl rfl rfl a _ (aSh d w kk m S)
 case right=>
  let(a,rfl,hkk):=ha;rw[e0];exact aEl d w kk m _ S h0 .right rfl rfl rfl a _ (aRs d w kk m qJ () hm64 S)
 case slide=>
  let(a,rfl,hkk):=ha;rw[e0];exact aEl d w kk m _ S h0 .slide rfl rfl rfl a _ (aRq d w kk m gG qJ () hm64 S)
 case wide=>
  let(v,rfl,hv1,hv2):=hk;rw[e0];exact aQW d m _ S h0 v () _
 case sign=>
  let(v,rfl,hv1,hv2):=hk;rw[e0];exact aQ2 d m _ S h0 v () () _
 case same=>
  let(_,v,rfl,hv1,hv2):=hk;rw[e0];exact aDB d m _ S h0 .same rfl rfl rfl rfl rfl v () _
 case less=>
  let(_,v,rfl,hv1,hv2):=hk;rw[e0];exact aDB d m _ S h0 .less rfl rfl rfl rfl rfl v () _
 case under=>
  let(_,v,rfl,hv1,hv2):=hk;rw[e0];exact aDB d m _ S h0 .under rfl rfl rfl rfl rfl v () _
 case pick=>let(f,g,h,rfl):=aZr hf;exact aRg d w kk m ws _ _ S h0 f g h
 case «in» => rw[e0];exact wI d w kk m _ S h0 .in args ha rfl rfl rfl rfl rfl _
 case num=>rw[e0];exact wI d w kk m _ S h0 .num args ha rfl rfl rfl rfl rfl _
 case not=>rw[e0];exact wI d w kk m _ S h0 .not args ha rfl rfl rfl rfl rfl _
 case cut=>rw[e0];exact wI d w kk m _ S h0 .cut args ha rfl rfl rfl rfl rfl _
 case xor=>rw[e0];exact wI d w kk m _ S h0 .xor args ha rfl rfl rfl rfl rfl _
def aQV(n:Nat)(h:n<=10):bO .Mult (.tuple [.int 0]) (.int ((n:Nat):Int))=qz (.tuple ((yAf n 0).map nD)):=by rw[@sU _ n (),yEo];rfl
def aTx(d:Nat)(wd:Wd)(w:Nat)(args:List Nat)(kk:Nat)(ws:List Nat)(fs:List Fc)(m:Nat)(hk:aCh wd w ws)(hf:↑fs=bA wd)(ha:xI wd args kk)(hm:m<2^w)(S:aD) :
 cl fns (d+5) 18 [.d (Rw.mk wd w args).d,.d (ws*>nD),.d (fs*>Fc.d),.d (.int m)] S=qz (.d (.tuple ((fQ wd w kk ws fs m).map nD)),S):=by
 rw[bX rfl (d+4) _ S rfl];by_cases h0:m=0
 .have d0:(m==0)=true:=by rw[beq_iff_eq];exact h0
  have e0:fQ wd w kk ws fs m=yAf (bA wd) 0:=if_pos h0;have lop:jI [.tuple ((args.take (bA wd)).map nD)]=qz (.int ((bA wd:Nat):Int)):=by
   simp only[aLB,aKq,yAa,aAO ha]
  have op:cl fns (d+4) 7 [.d (Rw.mk wd w args).d] S=qz (.d (.tuple ((args.take (bA wd)).map nD)),S):=qO (d+3) (wd,w,args,) S;rw[e0];have hq50:=aQV (bA wd) (by cases wd<;>decide);erw[11,aEQ,cC,dZ,d0,op,lop,hq50]
 .have d0:(m==0)=false:=by rw[beq_eq_false_iff_ne];exact h0
  erw[11,aEQ,cC,dZ,d0,aQu d wd w args kk ws fs m hk hf ha hm h0]
def aPQ(d:Nat)(rs:D)(aN N:List Nat)(ho:∀ o∈aN,o<↑N)(hl:↑aN<=8)(S:aD):cl fns (d+1) 86 [.d (.tuple [rs,(aN*>nD)]),.d (N*>nD)] S=qz (.d (.tuple ((aN.map (g0 N)).map nD)),S):=by
 have i1:aV (.tuple [rs,(aN*>nD)]) (.int 1)=qz (aN*>nD):=rfl;have hc:lv (aF fns d) aGT [qz (.d (.tuple [rs,(aN*>nD)])),qz (.d (N*>nD)),qx] S=qz ((aN.map (g0 N)).map nD,S):=by
  rw[yAz];refine lU (fi:=lv (aF fns d) (.it (.ix (.var 0) (.int 1)))) (fe:=ev (aF fns d) (.ix (.var 1) (.var 2))) nD (nD ∘ g0 N) aN ?_ (by rw[zj];omega) λ o h=>?_
  .erw[0,i1,iL]
  .refine(_,rfl,λ S'=>?_,);have e:aV (N*>nD) (nD o)=qz (nD (g0 N o)):=gI (aBS (ho o h));erw[0,clr,yDm,List.foldl_nil,e]
 rw[bX rfl d _ S rfl];erw[11,aIL,hc,lZ,tQ]
def eY(r:Rw):List Nat:=r.args.take (bA r.wd)
def rK(r:Rw):Nat:=r.args.getD 1 0
def qF(r:Rw)(F:List Ft):List Fc:=(fH r F).map λ f=>(f.N,f.O,f.A,)
def nds(rs:List Rw)(F:List Ft)(r:Rw)(m:Nat):List Nat:=fQ r.wd r.w (rK r) (bR r (~~~rs)) (qF r F) m
def iW(rs:List Rw)(F:List Ft)(r:Rw)(m:Nat):List (Nat×Nat):=(eY r).zip (nds rs F r m)
def pD(p:Nat×Nat):D:=.tuple [nD p.1,nD p.2]
def xR(h:RwOk r ws):aCh r.wd r.w ws/\xI r.wd r.args (rK r):=by
 cases h with
 |inp h1 h2=>exact((h1,h2,rfl,),rfl,)|num h1 h2 hn=>exact((h1,h2,rfl,),_,rfl,)|nt h1 h2=>exact((h1,h2,rfl,),_,rfl,)|cut h1 hv h2=>exact((h1,xAh hv h2,_,rfl,hv,h2,),_,rfl,)|wide h1 hv h2=>exact((xAh h1 hv,h2,_,rfl,hv,h1,),_,rfl,)
 |sm h1 h2=>
   rename_i s w a b;cases s<;>exact((h1,h2,rfl,),_,_,rfl,)
def aKC:∀ as bs:List Nat,gN (as.map nD) (bs.map nD)=(as.zip bs).map pD
 |[],_=>by cases ‹List Nat› <;> rfl|_::_,[]=>rfl
 |a::as,b::bs=>by
   show yAn [nD a,nD b]::gN (as.map nD) (bs.map nD)=pD (a,b)::(as.zip bs).map pD;rw[aKC as bs];rfl
def aXH(r:Rw)(F:List Ft):(qF r F).map Fc.d=(fH r F).map Ft.d:=by unfold qF;rw[yAz];rfl
def wY(d a:Nat)(hr:rs[a]?=qz r)(o:D)(S:aD):cl fns (d+1) 10 [.d (rs<*o),.d (.int a)] S=qz (.d (.int r.w),S):=by have i0:aV (rs<*o) (.int 0)=qz (rs*>Rw.d):=rfl;have e1:aV (rs*>Rw.d) (.int a)=qz r.d:=gI (by rw[yAg,hr];rfl);rw[bX rfl d _ S rfl];erw[11,aHu,i0,e1,jQ]
def eV{rs:List Rw}{a:Nat}{r:Rw}(hr:rs[a]?=qz r):g0 (~~~rs) a=r.w:=by show(~~~rs).getD a 0=_;rw[xAg,yAg,hr];rfl
def aSf{fa fb:FE}(h1:fa env S=qz (.d (as*>nD),S1))(h2:fb env S1=qz (.d (bs*>nD),S2))(hl:↑as<=1000):xS fa fb env S=qz ((as.zip bs).map pD,S2):=by
 have e:rR fa fb env S=qz ((as.zip bs).map pD,S2):=by
  unfold rR;rw[h1,oB,h2,oB,<- aKC];rfl
 unfold xS aNC;rw[e,oB,if_pos];show↑((as.zip bs).map pD)<=1000000;rw[yAa,List.length_zip];omega
def aTD(r:Rw):↑(eY r)<=3:=by have:=aLs r.wd;unfold eY;rw[yBg];omega
def aTF{rs:List Rw}{F:List Ft}{r:Rw}{k:Nat}(p:Prg rs)(hr:rs[k]?=qz r):↑(qF r F)=bA r.wd:=by have h:=(xR (p.fit k r hr).1).2;unfold qF fH;rw[yAa,yAa];exact aAO h
def aOU{rs:List Rw}{F:List Ft}{r:Rw}{k m:Nat}(d:Nat)(p:Prg rs)(hr:rs[k]?=qz r)(hF:↑F=↑rs)(hm:m<2^r.w)(o:D)(S:aD):cl fns (d+6) 19 [.d (rs<*o),.d (F*>Ft.d),.d (.int k),.d (.int m)] S=qz (.d (.list ((iW rs F r m).map pD)),S):=by
 have e1:aV (rs*>Rw.d) (.int k)=qz r.d:=gI (by rw[yAg,hr];rfl);let(f1,f2'):=p.fit k r hr;have hk:k<↑rs:=(gIm hr).1;have ol:=aTD r;have hc:lv (d<$>5) aGL [qz (.d (rs<*o)),qz (.d (F*>Ft.d)),(k:),(m:),qz (.d r.d),qx,qx,qx] S=qz ((bR r (~~~rs)).map nD,S):=by
  unfold bR;rw[yAz];refine lU (fi:=lv (d<$>5) (.it (.call 7 (.cons (.var 4) .nil)))) (fe:=ev (d<$>5) (.call 10 (.cons (.var 0) (.cons (.var 7) .nil)))) nD (nD ∘ g0 (~~~rs)) (r.args.take (bA r.wd)) (aBu (bT (aE (aC rfl) aO) (qO (d+4) r S))) (by rw[zj];have:↑(r.args.take (bA r.wd))<=3:=ol;omega) λ a ha=>(_,rfl,λ S'=>?_,)
  have haj:=f2' a ha;have hq:rs[a]?=qz rs[a]:=yAb ();show _=qz (W.d (nD (g0 (~~~rs) a)),S');rw[eV hq];exact bT (aE (aC rfl) (aE (aC rfl) aO)) (wY (d+4) a hq o S')
 have o2:=sX (d+3) r (.d (F*>Ft.d)) (F*>Ft.d) (λ a=>(f0 F a).d) S (λ _=>rfl) λ a ha=>gI (by rw[yAg,aBe (by have:=f2' a ha;omega)];rfl)
 have o2':cl fns (d+5) 9 [.d r.d,.d (F*>Ft.d)] S=qz (.d (.tuple ((qF r F).map Fc.d)),S):=by
  rw[o2,aXH,fH,yAz];rfl
 let(w1,w2):=xR f1;have nk:=aTx d r.wd r.w r.args (rK r) (bR r (~~~rs)) (qF r F) m w1 (aTF p hr) w2 hm S;exact cR rfl rfl rfl (bQ (bY (bY (aC rfl) aJ rfl rfl) (aC rfl) rfl e1) rfl (bQ (cT (aE (fM hc) aO) (cM cU dA) rfl) rfl (bQ (bT (aE (aC rfl) (aE (aC rfl) (aE (bT (aE (aC rfl) (aE (aC rfl) aO)) o2') (aE (aC rfl) aO)))) nk) rfl (bH (fM (aSf (bT (aE (aC rfl) aO) (qO (d+4) r S)) (aId rfl) ())))))) yAi
def dP(M:List Nat)(q:Nat×Nat):List Nat:=M.set q.1 (M.getD q.1 0|||q.2)
def gX(rs:List Rw)(F:List Ft)(M:List Nat)(k:Nat):List Nat:=match rs[k]? with|some r=>(iW rs F r (M.getD k 0)).foldl dP M|none=>M
def iQ(rs:List Rw)(F:List Ft):Nat->List Nat->List Nat
 |0,M=>M|k+1,M=>iQ rs F k (gX rs F M k)
def kL(rs:List Rw)(M:List Nat)(o:Nat):List Nat:=M.set o (2^g0 (~~~rs) o-1)
def mO(rs:List Rw)(aN:List Nat):List Nat:=aN.foldl (kL rs) (yAf ↑rs 0)
def bG(rs:List Rw)(F:List Ft)(aN:List Nat):List Nat:=iQ rs F ↑rs (mO rs aN)
structure Bd(rs:List Rw)(M:List Nat):Prop where
 l:↑M=↑rs
 lt:∀ (i:Nat) (r:Rw),rs[i]?=qz r->M.getD i 0<2^r.w
def aHj{α β:Type}{f:β->α->β}{l:List α}{q:α}(M:β)(h:l[j]?=qz q):(l.take (j+1)).foldl f M=f ((l.take j).foldl f M) q:=by rw[List.take_add_one,h];simp
def vS{M:List Nat}(h:a≠i):(M.set a v).getD i 0=M.getD i 0:=by rw[xAg,xAg,yAw h]
def sP{M:List Nat}(h:a<↑M):(M.set a v).getD a 0=v:=by rw[xAg,yBc h];rfl
def aI4{M:List Nat}(h:i<↑M):M[i]?=qz (M.getD i 0):=by rw[xAg,yAb h];rfl
def aBn(p:Prg rs)(hr:rs[k]?=qz r)(hm:m<2^r.w)(q:Nat×Nat)(hq:q∈iW rs F r m):q.1<k/\∀ r',rs[q.1]?=qz r'->q.2<2^r'.w:=by
 let(f1,f2):=p.fit k r hr;let(w1,w2):=xR f1;let(c,hc):=yCh hq;let(a,b):=q;unfold iW at hc;rw[List.getElem?_zip_eq_some] at hc;let(h1,h2):=hc;refine(f2 a (xAk h1),λ r' hr'=>?_,);have hv:(bR r (~~~rs))[c]?=qz r'.w:=by
  unfold bR;have h1':(r.args.take (bA r.wd))[c]?=qz a:=h1;rw[yAg,h1'];show qz (g0 (~~~rs) a)=_;rw[eV hr']
 have:=aUn r.wd r.w (rK r) (bR r (~~~rs)) (qF r F) m c r'.w w1 hm hv;have e:(nds rs F r m).getD c 0=b:=by
  rw[xAg,h2];rfl
 rw[<- e];exact this
def aMI(h:Bd rs M){q:Nat×Nat}(h1:q.1<↑rs)(h2:∀ r',rs[q.1]?=qz r'->q.2<2^r'.w):Bd rs (dP M q):=by
 refine(by unfold dP;rw[yBn];exact h.l,λ i r hr=>?_,);unfold dP;by_cases c:q.1=i
 .rw[c] at h1 h2 ⊢;rw[sP (by rw[h.l];exact h1)];exact yCr (h.lt i r hr) (h2 r hr)
 .rw[vS c];exact h.lt i r hr
section
variable {rs:List Rw}{F:List Ft}{r:Rw}{k m:Nat}
def aLq(p:Prg rs)(hr:rs[k]?=qz r)(hm:m<2^r.w):∀ (l:List (Nat×Nat)) (M:List Nat),(∀ q∈l,q∈iW rs F r m)->Bd rs M->Bd rs (l.foldl dP M)
 |[],_,_,h=>h
 |q::l,M,hl,h=>by
   have hk:k<↑rs:=(gIm hr).1;let(a,b):=aBn p hr hm q (hl q xAc);exact aLq p hr hm l _ (λ x hx=>hl x (xAf _ hx)) (aMI h () b)
end
def aDG:Bd rs (yAf ↑rs 0):=by refine(yBj,λ i r hr=>?_,);have hi:i<↑rs:=(gIm hr).1;rw[xAg,yCg,if_pos hi];exact xAe _
def aQl(hr:rs[o]?=qz r):kL rs M o=M.set o (2^r.w-1):=by unfold kL;rw[eV hr]
def aJa(h:Bd rs M)(ho:o<↑rs):Bd rs (kL rs M o):=by
 refine(by unfold kL;rw[yBn];exact h.l,λ i r hr=>?_,);unfold kL;by_cases c:o=i
 .subst c;rw[sP (by rw[h.l];exact ho),eV hr];have:=xAe r.w;omega
 .rw[vS c];exact h.lt i r hr
section
variable {rs:List Rw}
def aDT:∀ (l:List Nat) (M:List Nat),(∀ o∈l,o<↑rs)->Bd rs M->Bd rs (l.foldl (kL rs) M)
 |[],_,_,h=>h|o::l,M,hl,h=>aDT l _ (λ x hx=>hl x (xAf _ hx)) (aJa h (hl o xAc))
end
def aKk(S:aD)(M:List Nat)(a v:Nat)(ha:a<↑M):nM (S++[qz (M.map nD)]) (.loc ↑S) (.d (.int a)) (.d (.int v))=qz (S++[qz ((M.set a v).map nD)]):=by unfold nM;simp only[qR];unfold lB;rw[yAa,if_pos (),if_pos (),oB,yAu,List.set_append_right _ _ (yAc _),yBb,List.map_set];rfl
def aKB{M:List Nat}(h:i<↑M):aV (.list (M.map nD)) (.int i)=qz (.int ((M.getD i 0:Nat):Int)):=pH (by rw[yAg,aI4 h];rfl)
def aZh{fa fb:FE}{env:bB}{S:aD}{n:Nat}(h1:fa env S=qz (.d (.list [.int 0]),S))(h2:fb env S=qz (.d (.int n),S))(hn:n<=1000):zQ fa fb env S=qz ((yAf n 0).map nD,S):=by
 have hz:↑(([.int 0]:List D))*((n:Int)).toNat<=qo:=by rw[yAu,zj];simp;omega
 have hd:dr S (.d (.list [.int 0]))=qz (.list [.int 0]):=rfl;unfold zQ;rw[h1,oB,h2,oB];show((dr S (.d (.list [.int 0]))).bind _)=_;rw[hd,oB];show(if (n:Int)<2^63 /\ -(2^63)<=(n:Int)/\↑(([.int 0]:List D))*((n:Int)).toNat<=qo then qz (yO ((n:Int)).toNat [yAt 0],S) else qx)=_;rw[if_pos (by omega,by omega,hz,),yAu,aRp,yEo];rfl
def bAb{env:bB}{S:aD}{e:E}{n:Nat}(h:ev C e env S=qz (.d (.int n),S))(hn:n<=1000):lv C (.rng3 (.bin .Sub e (.int 1)) (.un .USub (.int 1)) (.un .USub (.int 1))) env S=qz (mB ((n:Int)-1) n,S):=by have h2:ev C (.un .USub (.int 1)) env S=qz (.d (.int (-1)),S):=rfl;show xQ (ev C (.bin .Sub e (.int 1))) (ev C (.un .USub (.int 1))) (ev C (.un .USub (.int 1))) env S=_;unfold xQ;rw[aU h aJ (eJ (n:Int) 1),oB];dsimp only;rw[h2,oB];dsimp only;rw[h2,oB];dsimp only;rw[if_pos ((by omega,by omega,by decide,by decide,),rfl,),show((n:Int)-1 - -1).toNat=n by omega]
noncomputable abbrev eK(P F:D)(n:Nat)(c3 c4 c5 c6 c7 c8:Option W):bB:=[qz (.d P),qz (.d F),#[n],c3,c4,c5,c6,c7,c8]
def aP7{F:List Ft}(d:Nat)(p:Prg rs)(hr:rs[k]?=qz r)(hF:↑F=↑rs)(o:D)(S:aD)(h:Bd rs M)(c3 c5 c6 c7 c8:Option W):∃ c7' c8':Option W,Bd rs (gX rs F M k)/\xs (d<$>6) (.loop (.many [7,8]) aC8 aC2) (eK (rs<*o) (F*>Ft.d) ↑S c3 ((k:)) c5 c6 c7 c8) (S++[qz (M.map nD)])=qz (.nx (eK (rs<*o) (F*>Ft.d) ↑S c3 ((k:)) c5 c6 c7' c8'),S++[qz ((gX rs F M k).map nD)]):=by
 have hk:k<↑rs:=(gIm hr).1;have hm:=h.lt k r hr;have rn:=aOU d p hr hF hm o (S++[qz (M.map nD)]);have eR:gX rs F M k=(iW rs F r (M.getD k 0)).foldl dP M:=by unfold gX;rw[hr]
 let(bD,S',p1,c7',c8',hb,rfl,rfl):=kM (t:=.many [7,8]) (fi:=lv (d<$>6) aC8) (fb:=xs (d<$>6) aC2) (env:=eK (rs<*o) (F*>Ft.d) ↑S c3 ((k:)) c5 c6 c7 c8) (ds:=(iW rs F r (M.getD k 0)).map pD)
  (λ j env S'=>∃ c7 c8:Option W,Bd rs (((iW rs F r (M.getD k 0)).take j).foldl dP M)/\env=eK (rs<*o) (F*>Ft.d) ↑S c3 ((k:)) c5 c6 c7 c8/\S'=S++[qz ((((iW rs F r (M.getD k 0)).take j).foldl dP M).map nD)])
  (aE3 (bT (aE (aC rfl) (aE (aC rfl) (aE (aC rfl) (aE (bY (aC rfl) (aC rfl) (iB (qR _ _)) (aKB (by rw[h.l];exact hk))) aO)))) rn)) (c7,c8,h,rfl,rfl,) (by
    rintro j dd env S' hd ⟨c7,c8,hb,rfl,rfl⟩;rw[yAg] at hd;let(q,hq,rfl):=Option.map_eq_some_iff.mp hd;let(q1,q2):=aBn p hr hm q (xAk hq);rw[aHj (f:=dP) M hq];generalize ((iW rs F r (M.getD k 0)).take j).foldl dP M=N at *;have ql:q.1<↑N:=by rw[hb.l];omega
    exact(_,_,_,rfl,pF (tZ (aU (bY (aC rfl) (aC rfl) (iB (qR _ _)) (aKB ql)) (aC rfl) (iO _ _)) (aC rfl) (aC rfl) (aKk S _ q.1 _ ql)),_,_,aMI hb () q2,rfl,rfl,))
 rw[yAa,yAi,<- eR] at hb p1;exact(c7',c8',hb,p1,)
def aIa{F:List Ft}(d:Nat)(p:Prg rs)(hF:↑F=↑rs)(aN:List Nat)(ho:∀ o∈aN,o<↑rs)(S:aD):Bd rs (bG rs F aN)/\cl fns (d+7) 20 [.d (rs<*(aN*>nD)),.d (F*>Ft.d)] S=qz (.d (.tuple ((bG rs F aN).map nD)),S):=by
 have pl:=p.l;have lR:B.len.g [(rs*>Rw.d)]=qz (.int ↑rs):=by
  show qz (yAt ((↑(rs.map Rw.d):Nat):Int))=_;rw[yAa]
 let(env1,S1,p1,c3,hb0,rfl,rfl):=kM (t:=.one 3) (fi:=lv (d<$>6) aHY) (fb:=xs (d<$>6) aHs) (env:=eK (rs<*(aN*>nD)) (F*>Ft.d) ↑S qx qx (qz (.d (rs*>Rw.d))) (qz (.d (aN*>nD))) qx qx) (S:=S++[qz ((yAf ↑rs 0).map nD)]) (ds:=aN.map nD)
  (λ j env S'=>∃ c3:Option W,Bd rs ((aN.take j).foldl (kL rs) (yAf ↑rs 0))/\env=eK (rs<*(aN*>nD)) (F*>Ft.d) ↑S c3 qx (qz (.d (rs*>Rw.d))) (qz (.d (aN*>nD))) qx qx/\S'=S++[qz (((aN.take j).foldl (kL rs) (yAf ↑rs 0)).map nD)])
  rfl (qx,aDG,rfl,rfl,) (by
   rintro j dd env S' hd ⟨c3,hb,rfl,rfl⟩;rw[yAg] at hd;let(q,hq,rfl):=Option.map_eq_some_iff.mp hd;have hql:=ho q (xAk hq);have hr:rs[q]?=qz rs[q]:=yAb hql;rw[aHj (f:=kL rs) (yAf ↑rs 0) hq];generalize (aN.take j).foldl (kL rs) (yAf ↑rs 0)=N at *;exact(_,_,_,rfl,pF (tZ (bT (aE (bT (aE (aC rfl) (aE (aC rfl) aO)) (wY (d+5) q hr _ _)) aO) (dU (d+5) _ (by have:=(p.ws q _ hr).2;omega) _)) (aC rfl) (aC rfl) (aKk S _ q _ (by rw[hb.l];exact hql))),_,aJa hb hql,rfl,by rw[aQl hr],))
 rw[yAa,yAi] at hb0 p1;let(env2,S2,p2,c4,c7,c8,M,hb,hM,rfl,rfl):=kM (t:=.one 4) (fi:=lv (d<$>6) aHq) (fb:=xs (d<$>6) aHy) (env:=eK (rs<*(aN*>nD)) (F*>Ft.d) ↑S c3 qx (qz (.d (rs*>Rw.d))) (qz (.d (aN*>nD))) qx qx) (S:=S++[qz ((mO rs aN).map nD)]) (S1:=S++[qz ((mO rs aN).map nD)]) (ds:=mB (((↑rs:Nat):Int)-1) ↑rs)
  (λ j env S'=>∃ (c4 c7 c8:Option W) (M:List Nat),Bd rs M/\iQ rs F (↑rs-j) M=bG rs F aN/\env=eK (rs<*(aN*>nD)) (F*>Ft.d) ↑S c3 c4 (qz (.d (rs*>Rw.d))) (qz (.d (aN*>nD))) c7 c8/\S'=S++[qz (M.map nD)])
  (bAb (cT (aE (aC rfl) aO) (cM cU dA) lR) ())
  (qx,qx,qx,mO rs aN,hb0,rfl,rfl,rfl,) (by
   rintro j dd env S' hd ⟨c4,c7,c8,M,hb,hM,rfl,rfl⟩;have hj:j<↑rs:=by
    have:=(gIm hd).1;rw[sL] at this;exact this
   rw[aCU _ _ j hj,cs1 hj] at hd;cases hd;let(c7',c8',hb',e):=aP7 d p (yAb (show ↑rs-1-j<↑rs by omega)) hF (aN*>nD) S hb c3 (qz (.d (rs*>Rw.d))) (qz (.d (aN*>nD))) c7 c8;refine(_,_,_,rfl,pF e,_,_,_,_,hb',?_,rfl,rfl,);rw[<- hM,show ↑rs-j=(↑rs-1-j)+1 by omega,show ↑rs-(j+1)=↑rs-1-j by omega]
   rfl)
 rw[sL,yBb] at hM;have hM:M=bG rs F aN:=hM;rw[hM] at hb p2;exact(hb,cR rfl rfl rfl (dN (tS (aC rfl) rfl) (bQ (tU (aZh rfl (cT (aE (aC rfl) aO) (cM cU dA) lR) ())) rfl (dN (qY p1) (dN (qY p2) (bH (cT (aE (aC rfl) aO) (cM (iB (qR _ _)) dA) rfl)))))) yGf,)
def aDj{n j:Nat}{dd:D}(h:((yAo n).map λ k=>yAt ((k:Nat):Int))[j]?=qz dd):j<n/\dd=.int j:=by
 have hj:j<n:=by
  have:=(gIm h).1;simpa using this
 rw[yAg,yEg hj] at h;cases h;exact(hj,rfl,)
def Sb(a b:Nat):Prop:=∀ i,a[i]! =true->b[i]! =true
def Sb.refl(a:Nat):Sb a a:=λ _ h=>h
def aIE:∀ (l:List (Nat×Nat)) (M:List Nat) (i:Nat),(∀ q∈l,q.1≠i)->(l.foldl dP M).getD i 0=M.getD i 0
 |[],_,_,_=>rfl
 |q::l,M,i,h=>by
   show(l.foldl dP (dP M q)).getD i 0=_;rw[aIE l (dP M q) i λ x hx=>h x (xAf _ hx)];unfold dP;exact vS (h q xAc)
def aA7(hr:rs[k]?=qz r):gX rs F M k=(iW rs F r (M.getD k 0)).foldl dP M:=by unfold gX;rw[hr]
def aD2(p:Prg rs)(hk:k<↑rs)(h:Bd rs M):Bd rs (gX rs F M k):=by have hr:rs[k]?=qz rs[k]:=yAb hk;rw[aA7 hr];exact aLq p hr (h.lt k _ hr) _ M (λ q hq=>hq) h
def aQR(p:Prg rs)(h:Bd rs M)(hi:k<=i)(hk:k<↑rs):(gX rs F M k).getD i 0=M.getD i 0:=by
 have hr:rs[k]?=qz rs[k]:=yAb hk;rw[aA7 hr];refine aIE _ M i λ q hq=>?_
 have:=(aBn p hr (h.lt k _ hr) q hq).1;omega
section
variable {rs:List Rw}{F:List Ft}
def aIn(p:Prg rs):∀ (k:Nat) (M:List Nat) (i:Nat),Bd rs M->k<=↑rs->k<=i+1->(iQ rs F k M).getD i 0=M.getD i 0
 |0,_,_,_,_,_=>rfl
 |k+1,M,i,h,hk,hi=>by
   show(iQ rs F k (gX rs F M k)).getD i 0=_;rw[aIn p k _ i (aD2 p () h) () (),aQR p h () ()]
def aJ1(p:Prg rs):∀ (k:Nat) (M:List Nat),Bd rs M->k<=↑rs->Bd rs (iQ rs F k M)
 |0,_,h,_=>h|k+1,M,h,hk=>aJ1 p k _ (aD2 p () h) ()
end
def aLb(p:Prg rs)(ho:∀ o∈aN,o<↑rs):Bd rs (bG rs F aN):=aJ1 p _ _ (aDT aN _ ho aDG) (yAc _)
def aZx(n b:Nat):((((n/2^b)&&&1:Nat):Int)==1)=n[b]!:=by
 rw[qN,Nat.and_one_is_mod,yFy];cases h:decide (n/2^b%2=1) with
 |true=>rw[oqT h];rfl|false=>rw[beq_eq_false_iff_ne];exact of_decide_eq_false h
def aT:Option Nat->D
 |none=>.none|some n=>.int n
def aBk(a b:Option Nat):aP .Eq (aT a) (aT b)=qz (.bool (decide (a=b))):=by
 cases a with
 |none=>
   cases b with
   |none=>rfl|some n=>rfl
 |some m=>
   cases b with
   |none=>rfl
   |some n=>
     show aP .Eq (.int m) (.int n)=_;rw[cC];congr 2;by_cases c:m=n
     .subst c;rw[beq_self_eq_true,dqT rfl]
     .rw[dqF (λ h=>c (Option.some.inj h)),beq_eq_false_iff_ne];omega
def aMs(a:Option Nat):aP .IsNot (aT a) .none=qz (.bool a.isSome):=by cases a<;>rfl
def aAM(d m y:Nat)(S:aD):cl fns (d+1) 54 [.d (.int m),.d (.int y)] S=qz (.d (.bool (cI m y==0)),S):=by rw[bX rfl d _ S rfl];erw[11,aKu,aDO,aDb,cC,dZ]
def gO(f:Ft)(m:Nat):Option Nat:=if f.O&&&m=0\/(f.O&&&m)&&&((f.O&&&m)-1)≠0\/cI m (f.N|||f.O)≠0 then qx else qz (bl (f.O&&&m)-1)
def rP(h:n=0):(n==0)=true:=by rw[h];rfl
def sB(h:¬ n=0):(n==0)=false:=beq_eq_false_iff_ne.mpr h
def aHV(d:Nat)(f:Ft)(m:Nat)(S:aD):cl fns (d+2) 55 [.d f.d,.d (.int m)] S=qz (.d (aT (gO f m)),S):=by
 have e1:=aAM d m (f.N|||f.O) S;have e2:=aDk d f S;have f1:=pP f;obtain⟨o,ho⟩:∃ o,o=f.O&&&m:=(_,rfl,);have e3:=wH d o S;have b1:bO .BitAnd (.int f.O) (.int m)=qz (.int o):=by rw[ho];exact fO _ _
 rw[bX rfl (d+1) _ S rfl];unfold gO;rw[<- ho];by_cases c1:o=0
 .have t1:=rP c1;rw[if_pos (.inl c1)];erw[11,vT,f1,b1,cC,dZ,t1]
 .have t1:=sB c1;have s1:(o:Int)-1=((o-1:Nat):Int):=();by_cases c2:o&&&(o-1)=0
  .have t2:=rP c2;by_cases c3:cI m (f.N|||f.O)=0
   .have t3:=rP c3;have s2:((bl o:Nat):Int)-1=((bl o-1:Nat):Int):=by have:=@tL o ();omega
    rw[if_neg (λ h=>h.elim c1 λ h=>h.elim (λ h=>h c2) λ h=>h c3)];rw[t3] at e1;erw[11,vT,f1,b1,cC,pE,dZ,t1,eJ,s1,fO,t2,e1,e2,e3,s2,yFv,yHo]
   .have t3:=sB c3;rw[if_pos (.inr (.inr c3))];rw[t3] at e1;erw[11,vT,f1,b1,cC,pE,dZ,t1,eJ,s1,fO,t2,e1,e2,yFv,yHo]
  .have t2:=sB c2;rw[if_pos (.inr (.inl c2))];erw[11,vT,f1,b1,cC,pE,dZ,t1,eJ,s1,fO,t2,yFv,yHo]
def pg(P:List (Option Nat))(i:Nat):Option Nat:=P.getD i qx
def xN{P:List (Option Nat)}(h:i<↑P):aV (P*>aT) (.int i)=qz (aT (pg P i)):=gI (by
 rw[yAg,yAb h];show qz (aT P[i])=qz (aT (P.getD i qx));rw[xAg,yAb h];rfl)
def aFK{P:List (Option Nat)}(h:0<↑P):aV (P*>aT) (.int 0)=qz (aT (pg P 0)):=xN h
def aCi{P:List (Option Nat)}(h:1<↑P):aV (P*>aT) (.int 1)=qz (aT (pg P 1)):=xN h
def aZJ{P:List (Option Nat)}(h:2<↑P):aV (P*>aT) (.int 2)=qz (aT (pg P 2)):=xN h
def pZ(P:List (Option Nat)):Bool:=decide (pg P 0=pg P 1)
def vA(wd:Wd):Bool:=decide (wd=.xor\/wd=.sub\/wd=.less\/wd=.under)
def aZf(a:Wd):aP .In (.str a.s) (.tuple [.str "xor",.str "sub",.str "less",.str "under"])=qz (.bool (vA a)):=by cases a<;>rfl
def oQ(wd:Wd)(f:Ft)(m:Nat)(P:List (Option Nat)):Option Nat:=if cI m (f.N|||f.O)=0 then qz f.O else if (vA wd&&pZ P)=true then qz 0 else if (decide (wd=.same)&&pZ P)=true then qz 1 else qx
def aBi{wd:Wd}{P:List (Option Nat)}(hP:↑P=bA wd)(h:vA wd=true\/wd=.same):1<↑P:=by rw[hP];revert h;cases wd<;>decide
def aOh(d:Nat)(r:Rw)(f:Ft)(m:Nat)(P:List (Option Nat))(hP:↑P=bA r.wd)(S:aD):cl fns (d+2) 56 [.d r.d,.d f.d,.d (.int m),.d (P*>aT)] S=qz (.d (aT (oQ r.wd f m P)),S):=by
 have e1:=aAM d m (f.N|||f.O) S;have e2:=aDk d f S;have f1:=pP f;have r0:=jS r;have i1:=aZf r.wd;have i2:aP .Eq (.str r.wd.s) (.str "same")=qz (.bool (decide (r.wd=.same))):=cG r.wd .same;have q:=aBk (pg P 0) (pg P 1);rw[bX rfl (d+1) _ S rfl];unfold oQ;by_cases c1:cI m (f.N|||f.O)=0
 .rw[if_pos c1];rw[rP c1] at e1;erw[11,qL,r0,e1,e2,f1]
 .rw[if_neg c1];rw[sB c1] at e1;cases c2:vA r.wd with
  |true=>
    have ns:decide (r.wd=.same)=false:=by
     rw[decide_eq_false_iff_not];intro h;rw[h] at c2;cases c2
    have p0:=@aFK P (by have:=aBi hP (.inl c2);omega);have p1:=aCi (aBi hP (.inl c2));rw[c2] at i1;rw[ns] at i2;rw[ns,yBf,yBl];cases c3:pZ P with
    |true=>
      have q':aP .Eq (aT (pg P 0)) (aT (pg P 1))=qz (.bool true):=by rw[q];exact congrArg _ (congrArg _ c3)
      erw[11,qL,r0,e1,e2,i1,p0,p1,q']
    |false=>
      have q':aP .Eq (aT (pg P 0)) (aT (pg P 1))=qz (.bool false):=by rw[q];exact congrArg _ (congrArg _ c3)
      erw[11,qL,r0,e1,e2,i1,i2,p0,p1,q']
  |false=>
    rw[c2] at i1;rw[yBl,if_neg yBi];cases c3:decide (r.wd=.same) with
    |true=>
      have p0:=@aFK P (by have:=aBi hP (.inr (oqT c3));omega);have p1:=aCi (aBi hP (.inr (oqT c3)));rw[c3] at i2;rw[yBf];cases c4:pZ P with
      |true=>
        have q':aP .Eq (aT (pg P 0)) (aT (pg P 1))=qz (.bool true):=by rw[q];exact congrArg _ (congrArg _ c4)
        erw[11,qL,r0,e1,e2,i1,i2,p0,p1,q']
      |false=>
        have q':aP .Eq (aT (pg P 0)) (aT (pg P 1))=qz (.bool false):=by rw[q];exact congrArg _ (congrArg _ c4)
        erw[11,qL,r0,e1,e2,i1,i2,p0,p1,q']
    |false=>
      rw[c3] at i2;rw[yBl,if_neg yBi];erw[11,qL,r0,e1,e2,i1,i2]
def gQ(wd:Wd)(f:Ft)(m:Nat):Bool:=match wd with|.and=>cI m f.O==0|.or=>cI m f.N==0|.xor=>cI m f.N==0|.add=>cI (2^bl m-1) f.N==0|.sub=>cI (2^bl m-1) f.N==0|.mul=>decide (gO f (2^bl m-1)=qz 0)|_=>false
def aXO(a:Wd):aP .In (.str a.s) (.tuple [.str "or",.str "xor"])=qz (.bool (decide (a=.or\/a=.xor))):=by cases a<;>rfl
def aWd(a:Option Nat):aP .Eq (aT a) (.int 0)=qz (.bool (decide (a=qz 0))):=aBk a (qz 0)
def aPn(d:Nat)(wd:Wd)(f:Ft)(m:Nat)(hm:m<2^64)(S:aD):cl fns (d+3) 57 [.d (.str wd.s),.d f.d,.d (.int m)] S=qz (.d (.bool (gQ wd f m)),S):=by
 have f0:=mN f;have f1:=pP f;have am:=λ m y=>aAM (d+1) m y S
 have bo:=aAL d m S (yHd hm (yEc (·) (·)));have sb:=aHV d f (2^bl m-1) S;have i1:aP .Eq (.str wd.s) (.str "and")=qz (.bool (decide (wd=.and))):=cG wd .and;have i2:=aXO wd;have i3:=aMS wd;have i4:aP .Eq (.str wd.s) (.str "mul")=qz (.bool (decide (wd=.mul))):=cG wd .mul;rw[bX rfl (d+2) _ S rfl];by_cases c1:wd=.and
 .rw[dqT c1] at i1;have e:gQ wd f m=(cI m f.O==0):=by rw[c1];rfl
  have a1:=am m f.O;rw[e];erw[11,sK,i1,f1,a1]
 .rw[dqF c1] at i1;by_cases c2:wd=.or\/wd=.xor
  .rw[dqT c2] at i2;have e:gQ wd f m=(cI m f.N==0):=by rcases c2 with c2|c2<;>rw[c2]<;>rfl
   have a1:=am m f.N;rw[e];erw[11,sK,i1,i2,f0,a1]
  .rw[dqF c2] at i2;by_cases c3:wd=.add\/wd=.sub
   .rw[dqT c3] at i3;have e:gQ wd f m=(cI (2^bl m-1) f.N==0):=by rcases c3 with c3|c3<;>rw[c3]<;>rfl
    have a1:=am (2^bl m-1) f.N;rw[e];erw[11,sK,i1,i2,i3,f0,bo,a1]
   .rw[dqF c3] at i3;by_cases c4:wd=.mul
    .rw[dqT c4] at i4;have e:gQ wd f m=decide (gO f (2^bl m-1)=qz 0):=by rw[c4];rfl
     have p0:=aWd (gO f (2^bl m-1));rw[e];erw[11,sK,i1,i2,i3,i4,bo,sb,p0]
    .rw[dqF c4] at i4;have e:gQ wd f m=false:=by
      revert c1 c2 c3 c4;cases wd<;>first|(intros;rfl)|(intro a b c d;exact absurd rfl a)|(intro a b c d;exact absurd (.inl rfl) b)|(intro a b c d;exact absurd (.inr rfl) b)|(intro a b c d;exact absurd (.inl rfl) c)|(intro a b c d;exact absurd (.inr rfl) c)|(intro a b c d;exact absurd rfl d)
     rw[e];erw[11,sK,i1,i2,i3,i4]
def zU(t:Ft)(P:List (Option Nat)):Option Nat:=if pg P 1=pg P 2\/t.O=1 then qz 1 else if t.N=1 then qz 2 else qx
def aMp(h:n=1):(n==1)=true:=by rw[h];rfl
def aLR(h:¬ n=1):(n==1)=false:=beq_eq_false_iff_ne.mpr h
def aRR(d:Nat)(t:Ft)(P:List (Option Nat))(hP:↑P=3)(S:aD):cl fns (d+1) 58 [.d t.d,.d (P*>aT)] S=qz (.d (aT (zU t P)),S):=by
 have f0:=mN t;have f1:=pP t;have p1:=@aCi P ();have p2:=@aZJ P ();have q:=aBk (pg P 1) (pg P 2);rw[bX rfl d _ S rfl];unfold zU;by_cases c1:pg P 1=pg P 2
 .rw[if_pos (.inl c1)];rw[dqT c1] at q;erw[11,vQ,p1,p2,q]
 .rw[dqF c1] at q;by_cases c2:t.O=1
  .have o1:=aMp c2;rw[if_pos (.inr c2)];erw[11,vQ,p1,p2,q,f1,cC,qN,o1]
  .have o1:=aLR c2;rw[if_neg (λ h=>h.elim c1 c2)];by_cases c3:t.N=1
   .have o2:=aMp c3;rw[if_pos c3];erw[11,vQ,p1,p2,q,f1,f0,cC,qN,o1,o2]
   .have o2:=aLR c3;rw[if_neg c3];erw[11,vQ,p1,p2,q,f1,f0,cC,qN,o1,o2]
def zX(wd:Wd):Bool:=decide (wd=.and\/wd=.or)
def uY(wd:Wd):Bool:=decide (wd=.left\/wd=.right\/wd=.slide)
def cw3(wd:Wd):Bool:=decide (wd=.cut\/wd=.wide\/wd=.sign)
def oI(wd:Wd):Bool:=decide (wd=.and\/wd=.or\/wd=.xor\/wd=.add\/wd=.mul)
def aXh(a:Wd):aP .In (.str a.s) (.tuple [.str "and",.str "or"])=qz (.bool (zX a)):=by cases a<;>rfl
def aXi(a:Wd):aP .In (.str a.s) (aCI*>Tv.d)=qz (.bool (oI a)):=by cases a<;>rfl
def aY8(a:Wd):aP .In (.str a.s) (oW*>Tv.d)=qz (.bool (uY a)):=aDo a
def aYl(a:Wd):aP .In (.str a.s) (.tuple [.str "cut",.str "wide",.str "sign"])=qz (.bool (cw3 a)):=aUv a
def mQ(r:Rw)(m:Nat)(ws:List Nat)(Fs:List Ft)(P:List (Option Nat)):Option Nat:=
 cond (zX r.wd&&pZ P) (qz 0) (cond (decide (r.wd=.pick)) (zU (f0 Fs 0) P) (cond (uY r.wd) (cond (rK r==0) (qz 0) qx) (cond (cw3 r.wd) (cond (g0 ws 0==r.w) (qz 0) qx)
  (cond (decide (↑P=2)&&gQ r.wd (f0 Fs 1) m) (qz 0) (cond (oI r.wd&&gQ r.wd (f0 Fs 0) m) (qz 1) qx)))))
def aYc{r:Rw}(h:1<↑r.args):aV r.d (.int 3)=qz (.int ((rK r:Nat):Int)):=@gI (.str r.wd.s::nD r.w::r.args.map nD) 3 _ (by
 show(r.args.map nD)[1]?=qz (nD (r.args.getD 1 0));rw[yAg,xAg,yAb h];rfl)
def aBW{Fs:List Ft}(h:i<↑Fs):aV (Fs*>Ft.d) (.int i)=qz (f0 Fs i).d:=gI (by rw[yAg,aBe h];rfl)
def aFN{Fs:List Ft}(h:0<↑Fs):aV (Fs*>Ft.d) (.int 0)=qz (f0 Fs 0).d:=aBW h
def aCa{Fs:List Ft}(h:1<↑Fs):aV (Fs*>Ft.d) (.int 1)=qz (f0 Fs 1).d:=aBW h
def aZD{ws:List Nat}(h:0<↑ws):aV (ws*>nD) (.int 0)=qz (.int ((g0 ws 0:Nat):Int)):=gI (k:=0) (aBS h)
def aJS(a b:Nat):(((a:Nat):Int)==((b:Nat):Int))=(a==b):=by
 by_cases c:a=b
 .subst c;rw[beq_self_eq_true,beq_self_eq_true]
 .rw[beq_eq_false_iff_ne.mpr c,beq_eq_false_iff_ne];omega
def aUw{wd:Wd}(h:zX wd=true):bA wd=2:=by revert h;cases wd<;>decide
def aUh(h:RwOk r ws)(c:uY r.wd=true):1<↑r.args:=by
 have k:=(xR h).2;rcases oqT c with c'|c'|c'
 all_goals
  rw[c'] at k;let(a,e,_):=k;rw[e];exact yDd 1
def aXP(d:Nat)(r:Rw)(m:Nat)(hm:m<2^64)(ws:List Nat)(Fs:List Ft)(P:List (Option Nat))(ok:RwOk r ws)(hi:r.wd≠.in)(hn:r.wd≠.num)(lw:↑ws=bA r.wd)(lF:↑Fs=bA r.wd)(hP:↑P=bA r.wd)(S:aD):cl fns (d+4) 59 [.d r.d,.d (.int m),.d (ws*>nD),.d (Fs*>Ft.d),.d (P*>aT)] S=qz (.d (aT (mQ r m ws Fs P)),S):=by
 have c1:0<bA r.wd:=by
  revert hi hn;cases r.wd<;>decide
 have r0:=jS r;have r1:=jQ r;have i1:=aXh r.wd;have i2:aP .Eq (.str r.wd.s) (.str "pick")=qz (.bool (decide (r.wd=.pick))):=cG r.wd .pick;have i3:=aY8 r.wd;have i4:=aYl r.wd;have i5:=aXi r.wd;have q:=aBk (pg P 0) (pg P 1);have F0:=@aFN Fs ();have W0:=@aZD ws ();have lP:jI [(P*>aT)]=qz (.int ↑P):=by
  show qz (yAt ((↑(P.map aT):Nat):Int))=_;rw[yAa]
 have ch:=λ f=>aPn d r.wd f m hm S
 have ch0:=ch (f0 Fs 0);have ch1:=ch (f0 Fs 1);rw[bX rfl (d+3) _ S rfl];unfold mQ;have q':aP .Eq (aT (pg P 0)) (aT (pg P 1))=qz (.bool (pZ P)):=q;cases a1:zX r.wd with
 |true=>
   have h2:=aUw a1;have p0:=@aFK P ();have p1:=@aCi P ();have F1:=@aCa Fs ();have n2:decide (r.wd=.pick)=false:=by revert a1;cases r.wd<;>decide
   have n3:uY r.wd=false:=by revert a1;cases r.wd<;>decide
   have n4:cw3 r.wd=false:=by revert a1;cases r.wd<;>decide
   have n5:oI r.wd=true:=by revert a1;cases r.wd<;>decide
   have n6:decide (↑P=2)=true:=dqT ();have lE:(((↑P:Nat):Int)==2)=true:=by rw[beq_iff_eq];omega
   rw[a1] at i1;rw[n2] at i2;rw[n3] at i3;rw[n4] at i4;rw[n5] at i5;rw[n2,n3,n4,n5,n6,yBf,yBf,yBf];cases a2:pZ P with
   |true=>
     rw[a2] at q';erw[11,iA,r0,i1,p0,p1,q']
   |false=>
     rw[a2] at q';cases a3:gQ r.wd (f0 Fs 1) m with
     |true=>
       rw[a3] at ch1;erw[11,iA,r0,i1,p0,p1,q',i2,i3,i4,lP,cC,lE,F1,ch1]
     |false=>
       rw[a3] at ch1;cases a4:gQ r.wd (f0 Fs 0) m with
       |true=>
         rw[a4] at ch0;erw[11,iA,r0,i1,p0,p1,q',i2,i3,i4,i5,lP,cC,lE,F1,ch1,F0,ch0]
       |false=>
         rw[a4] at ch0;erw[11,iA,r0,i1,p0,p1,q',i2,i3,i4,i5,lP,cC,lE,F1,ch1,F0,ch0]
 |false=>
   rw[a1] at i1;rw[yBl];cases a2:decide (r.wd=.pick) with
   |true=>
     have e3:bA r.wd=3:=by rw[oqT a2];rfl
     have ps:=aRR (d+2) (f0 Fs 0) P () S;rw[a2] at i2;erw[11,iA,r0,i1,i2,F0,ps]
   |false=>
     rw[a2] at i2;cases a3:uY r.wd with
     |true=>
       have r3:=aYc (aUh ok a3);rw[a3] at i3;cases a4:rK r==0 with
       |true=>
         erw[11,iA,r0,i1,i2,i3,r3,cC,dZ,a4]
       |false=>
         erw[11,iA,r0,i1,i2,i3,r3,cC,dZ,a4]
     |false=>
       rw[a3] at i3;cases a4:cw3 r.wd with
       |true=>
         rw[a4] at i4;cases a5:g0 ws 0==r.w with
         |true=>
           erw[11,iA,r0,i1,i2,i3,i4,W0,r1,cC,aJS,a5]
         |false=>
           erw[11,iA,r0,i1,i2,i3,i4,W0,r1,cC,aJS,a5]
       |false=>
         rw[a4] at i4;have tl:(oI r.wd&&gQ r.wd (f0 Fs 0) m)=true\/(oI r.wd&&gQ r.wd (f0 Fs 0) m)=false:=by cases (oI r.wd&&gQ r.wd (f0 Fs 0) m)<;>simp
         by_cases c6:↑P=2
         .have lE:(((↑P:Nat):Int)==2)=true:=by rw[beq_iff_eq];omega
          have F1:=@aCa Fs ();rw[dqT c6,yBf];cases a6:gQ r.wd (f0 Fs 1) m with
          |true=>
            rw[a6] at ch1;erw[11,iA,r0,i1,i2,i3,i4,lP,cC,lE,F1,ch1]
          |false=>
            rw[a6] at ch1;cases a7:oI r.wd with
            |true=>
              rw[a7] at i5;cases a8:gQ r.wd (f0 Fs 0) m with
              |true=>
                rw[a8] at ch0;erw[11,iA,r0,i1,i2,i3,i4,i5,lP,cC,lE,F1,ch1,F0,ch0]
              |false=>
                rw[a8] at ch0;erw[11,iA,r0,i1,i2,i3,i4,i5,lP,cC,lE,F1,ch1,F0,ch0]
            |false=>
              rw[a7] at i5;erw[11,iA,r0,i1,i2,i3,i4,i5,lP,cC,lE,F1,ch1]
         .have lE:(((↑P:Nat):Int)==2)=false:=by rw[beq_eq_false_iff_ne];omega
          rw[dqF c6,yBl];have a7:oI r.wd=false:=by
           rw[hP] at c6;revert c6;cases r.wd<;>decide
          rw[a7] at i5;rw[a7];erw[11,iA,r0,i1,i2,i3,i4,i5,lP,cC,lE]
def pT(a b:List D)(h:↑a+↑b<=1000):bO .Add (.tuple a) (.tuple b)=qz (.tuple (a++b)):=by
 cases a with
 |nil=>rfl
 |cons x r=>
   show(if (x::r).isEmpty=false/\↑(x::r)+↑b<=qo then qz (yAn ((x::r)++b)) else qx)=_;rw[if_pos (rfl,by rw[zj];omega,)]
def aAJ(a:List D)(k:Nat):eE a (qz (k:Nat)) qx=a.drop k:=by
 unfold eE;rw[HT.sIx_none,HT.sIx_nat];rcases yIg k ↑a with h|h
 .rw[yDr h,yCm (by rw[yFg];omega)]
 .rw[yDe h,yGj,List.drop_of_length_le h,List.take_nil]
inductive Am where
 |s (x:Wd)|n (k:Nat)|z
def Am.d:Am->D
 |.s x=>.str x.s|.n k=>.int k|.z=>.none
def jJ:Option Nat->Am
 |none=>.z|some k=>.n k
def aMx(a:Option Nat):(jJ a).d=aT a:=by cases a<;>rfl
def aJT(P:List (Option Nat)):(P.map jJ).map Am.d=P.map aT:=by rw[yAz];exact yCq λ a _=>aMx a
def tA(l:List Am):D:=(l*>Am.d)
def gF(r:Rw):List Am:=.s r.wd :: .n r.w::r.args.map Am.n
def aLK(l:List Nat):(l.map Am.n).map Am.d=l.map nD:=by rw[yAz];rfl
def aMC(r:Rw):tA (gF r)=r.d:=by show yAn (.str r.wd.s::nD r.w::(r.args.map Am.n).map Am.d)=_;rw[aLK];rfl
def oR:Option (List Am)->D
 |none=>.none|some l=>tA l
def aYf(a:Option (List Am)):aP .IsNot (oR a) .none=qz (.bool a.isSome):=by cases a<;>rfl
def vI(r:Rw)(a:Option Nat)(k:Nat):List Am:=[.s .left,.n r.w,jJ a,.n k]
def pbN(r:Rw)(lo:Nat)(Fs:List Ft)(P:List (Option Nat)):Option (List Am):=match gO (f0 Fs 1) lo with
 |some k=>qz (vI r (pg P 0) k)
 | none=>(match gO (f0 Fs 0) lo with
   |some k=>qz (vI r (pg P 1) k)
   | none=>qx)
def aYK(r:Rw)(a:Option Nat)(k:Nat):tA (vI r a k)=.tuple [.str "left",.int r.w,aT a,.int k]:=by show yAn [.str "left",.int r.w,(jJ a).d,.int k]=_;rw[aMx]
noncomputable abbrev eP(R:D)(lo:Nat)(G Q:D)(c4 c5 c6:Option W):bB:=[qz (.d R),(lo:),qz (.d G),qz (.d Q),c4,c5,c6]
def aJY(d:Nat)(r:Rw)(lo i j:Nat)(Fs:List Ft)(P:List (Option Nat))(hi:i<↑P)(hj:j<↑Fs)(c6:Option W)(S:aD):xs (d<$>2) vN (eP r.d lo (Fs*>Ft.d) (P*>aT) ((i:)) ((j:)) c6) S=(match gO (f0 Fs j) lo with
 |some k=>qz (.rt (.d (tA (vI r (pg P i) k))),S)
 | none=>qz (.nx (eP r.d lo (Fs*>Ft.d) (P*>aT) ((i:)) ((j:)) (qz (.d .none))),S)):=by
 have e1:=aBW hj;have e2:=xN hi;have r1:=jQ r;have sb:=aHV d (f0 Fs j) lo S;cases c:gO (f0 Fs j) lo with
 |none=>
   rw[c] at sb;have sb':cl fns (d+2) 55 [.d (f0 Fs j).d,.d (.int lo)] S=qz (.d .none,S):=sb;have is:aP .IsNot .none .none=qz (.bool false):=rfl;erw[2,vN,eP,e1,sb',is]
 |some k=>
   rw[c] at sb;have sb':cl fns (d+2) 55 [.d (f0 Fs j).d,.d (.int lo)] S=qz (.d (.int k),S):=sb;have is:aP .IsNot (.int k) .none=qz (.bool true):=rfl;erw[2,vN,eP,aYK,e1,sb',is,r1,e2]
def aXR(d:Nat)(r:Rw)(lo:Nat)(Fs:List Ft)(P:List (Option Nat))(lF:↑Fs=2)(lP:↑P=2)(S:aD):cl fns (d+3) 60 [.d r.d,.d (.int lo),.d (Fs*>Ft.d),.d (P*>aT)] S=qz (.d (oR (pbN r lo Fs P)),S):=by
 have t1:=aJY d r lo 0 1 Fs P () () qx S;have t2:=aJY d r lo 1 0 Fs P () () (qz (.d .none)) S;obtain⟨R,hR⟩:∃ R:D,R=r.d:=(_,rfl,);obtain⟨G,hG⟩:∃ G:D,G=(Fs*>Ft.d):=(_,rfl,);obtain⟨Q,hQ⟩:∃ Q:D,Q=(P*>aT):=(_,rfl,);rw[<- hR,<- hG,<- hQ] at t1 t2 ⊢;have it:∀ e,lv (d<$>2) aCF e S=qz ([.tuple [.int 0,.int 1],.tuple [.int 1,.int 0]],S):=λ e=>rfl
 have q1:Tg.put (.many [4,5]) (.tuple [.int 0,.int 1]) (eP R lo G Q qx qx qx)=qz (eP R lo G Q ((((0:Nat):Int):)) ((((1:Nat):Int):)) qx):=rfl;have q2:Tg.put (.many [4,5]) (.tuple [.int 1,.int 0]) (eP R lo G Q ((((0:Nat):Int):)) ((((1:Nat):Int):)) (qz (.d .none)))=qz (eP R lo G Q ((((1:Nat):Int):)) ((((0:Nat):Int):)) (qz (.d .none))):=rfl;have b:qK=.seq (.loop (.many [4,5]) aCF vN) (bJ qK):=rfl;rw[bX rfl (d+2) _ S rfl];show((xs (d<$>2) qK (eP R lo G Q qx qx qx) S).bind _)=_;unfold pbN;cases c1:gO (f0 Fs 1) lo with
 |some k=>
   rw[c1] at t1;have lp:xs (d<$>2) qK (eP R lo G Q qx qx qx) S=qz (.rt (.d (tA (vI r (pg P 0) k))),S):=by
    rw[b];simp only[lY,aAY,iC,lA,it,oB,mH,q1,t1]
   rw[lp];exact congrArg qz (Prod.ext rfl yAi)
 |none=>
   rw[c1] at t1;cases c2:gO (f0 Fs 0) lo with
   |some k=>
     rw[c2] at t2;have lp:xs (d<$>2) qK (eP R lo G Q qx qx qx) S=qz (.rt (.d (tA (vI r (pg P 1) k))),S):=by
      rw[b];simp only[lY,aAY,iC,lA,it,oB,mH,q1,t1,q2,t2]
     rw[lp];exact congrArg qz (Prod.ext rfl yAi)
   |none=>
     rw[c2] at t2;have lp:xs (d<$>2) qK (eP R lo G Q qx qx qx) S=qz (.rt (.d .none),S):=by
      rw[b];simp only[lY,aAY,iC,lA,it,oB,mH,q1,t1,q2,t2];rfl
     rw[lp];exact congrArg qz (Prod.ext rfl yAi)
def kZ(r:Rw)(m:Nat)(Fs:List Ft)(P:List (Option Nat)):Option (List Am):=
 if r.wd=.mul then pbN r (2^bl m-1) Fs P else if r.wd=.add/\cI (2^bl m-1) ((f0 Fs 0).N|||(f0 Fs 1).N)=0 then qz (.s .or :: .n r.w::P.map jJ)
 else if r.wd=.sub/\cI (2^bl m-1) ((f0 Fs 1).N|||(f0 Fs 0).O)=0 then qz (.s .xor :: .n r.w::P.map jJ) else qx
def aKb(x:Wd)(w:Nat)(P:List (Option Nat))(h:↑P<=3):bO .Add (.tuple [.str x.s,.int w]) (P*>aT)=qz (tA (.s x :: .n w::P.map jJ)):=by rw[pT [.str x.s,.int w] (P.map aT) (by rw[yAa];show 2+↑P<=1000;omega)];show _=qz (yAn (.str x.s :: .int w::(P.map jJ).map Am.d));rw[aJT];rfl
def aPF(d:Nat)(r:Rw)(m:Nat)(hm:m<2^64)(Fs:List Ft)(P:List (Option Nat))(lF:↑Fs=bA r.wd)(lP:↑P=bA r.wd)(S:aD):cl fns (d+4) 61 [.d r.d,.d (.int m),.d (Fs*>Ft.d),.d (P*>aT)] S=qz (.d (oR (kZ r m Fs P)),S):=by
 have r0:=jS r;have r1:=jQ r;have bo:=aAL (d+1) m S (yHd hm (yEc (·) (·)));have i1:aP .Eq (.str r.wd.s) (.str "mul")=qz (.bool (decide (r.wd=.mul))):=cG r.wd .mul;have i2:aP .Eq (.str r.wd.s) (.str "add")=qz (.bool (decide (r.wd=.add))):=cG r.wd .add;have i3:aP .Eq (.str r.wd.s) (.str "sub")=qz (.bool (decide (r.wd=.sub))):=cG r.wd .sub;have am:=λ y=>aAM (d+2) (2^bl m-1) y S
 rw[bX rfl (d+3) _ S rfl];unfold kZ;by_cases c1:r.wd=.mul
 .have h2:bA r.wd=2:=by rw[c1];rfl
  have pb:=aXR d r (2^bl m-1) Fs P () () S;rw[if_pos c1];rw[dqT c1] at i1;erw[11,qM,bo,r0,i1,pb]
 .rw[if_neg c1];rw[dqF c1] at i1;by_cases c2:r.wd=.add
  .have h2:bA r.wd=2:=by rw[c2];rfl
   have F0:=@aFN Fs ();have F1:=@aCa Fs ();have g0':=mN (f0 Fs 0);have g1:=mN (f0 Fs 1);have ct:bO .Add (.tuple [.str "or",.int r.w]) (P*>aT)=qz (tA (.s .or :: .n r.w::P.map jJ)):=aKb .or r.w P ();have n3:¬ r.wd=.sub:=by rw[c2];decide
   have a:=am ((f0 Fs 0).N|||(f0 Fs 1).N);rw[dqT c2] at i2;rw[dqF n3] at i3;by_cases c3:cI (2^bl m-1) ((f0 Fs 0).N|||(f0 Fs 1).N)=0
   .rw[if_pos (c2,c3,)];rw[rP c3] at a;erw[11,qM,bo,r0,r1,i1,i2,F0,F1,g0',g1,iO,a,ct]
   .rw[if_neg (λ h=>c3 h.2),if_neg (λ h=>n3 h.1)];rw[sB c3] at a;erw[11,qM,bo,r0,i1,i2,i3,F0,F1,g0',g1,iO,a]
  .rw[dqF c2] at i2;rw[if_neg (λ h=>c2 h.1)];by_cases c4:r.wd=.sub
   .have h2:bA r.wd=2:=by rw[c4];rfl
    have F0:=@aFN Fs ();have F1:=@aCa Fs ();have g0':=pP (f0 Fs 0);have g1:=mN (f0 Fs 1);have ct:bO .Add (.tuple [.str "xor",.int r.w]) (P*>aT)=qz (tA (.s .xor :: .n r.w::P.map jJ)):=aKb .xor r.w P ();have a:=am ((f0 Fs 1).N|||(f0 Fs 0).O);rw[dqT c4] at i3;by_cases c3:cI (2^bl m-1) ((f0 Fs 1).N|||(f0 Fs 0).O)=0
    .rw[if_pos (c4,c3,)];rw[rP c3] at a;erw[11,qM,bo,r0,r1,i1,i2,i3,F0,F1,g0',g1,iO,a,ct]
    .rw[if_neg (λ h=>c3 h.2)];rw[sB c3] at a;erw[11,qM,bo,r0,i1,i2,i3,F0,F1,g0',g1,iO,a]
   .rw[dqF c4] at i3;rw[if_neg (λ h=>c4 h.1)];erw[11,qM,bo,r0,i1,i2,i3]
def zV(r:Rw)(P:List (Option Nat)):List Am:=.s r.wd :: .n r.w::(P.map jJ++(r.args.drop ↑P).map Am.n)
def aW4(r:Rw)(P:List (Option Nat))(h:↑P<=3)(ha:↑r.args<=10):∃ a b,eE (.str r.wd.s::nD r.w::r.args.map nD) qx (qz 2)=a/\eE (.str r.wd.s::nD r.w::r.args.map nD) (qz ((2+↑P:Nat):Int)) qx=b/\bO .Add (.tuple a) (P*>aT)=qz (.tuple (a++P.map aT))/\bO .Add (.tuple (a++P.map aT)) (.tuple b)=qz (tA (zV r P)):=by
 refine(_,_,aUs _ 2,aAJ _ _,pT _ _ (by simp;omega),?_,);rw[pT _ _ (by simp;omega)];have e:(yDk r.wd.s::nD r.w::r.args.map nD).drop (2+↑P)=(r.args.drop ↑P).map nD:=by
  rw[yHh 2,List.map_drop];rfl
 rw[e];show _=qz (yAn (.str r.wd.s::nD r.w::(P.map jJ++(r.args.drop ↑P).map Am.n).map Am.d));rw[yAk,aJT,aLK];rfl
def aSl(d:Nat)(r:Rw)(P:List (Option Nat))(h:↑P<=3)(ha:↑r.args<=10)(S:aD):cl fns (d+1) 8 [.d r.d,.d (P*>aT)] S=qz (.d (tA (zV r P)),S):=by
 let(a,b,h1,h2,h3,h4):=aW4 r P h ha;have lP:jI [(P*>aT)]=qz (.int ↑P):=by
  show qz (yAt ((↑(P.map aT):Nat):Int))=_;rw[yAa]
 have ad:(2:Int)+((↑P:Nat):Int)=((2+↑P:Nat):Int):=();have rd:r.d=.tuple (.str r.wd.s::nD r.w::r.args.map nD):=rfl;rw[bX rfl d _ S rfl];rw[rd];erw[11,aCJ,qE,lP,kI,ad,h1,h2,h3,h4]
inductive Vd where
 |gone|kept|known|passed|cheaper
 deriving DecidableEq
def Vd.s:Vd->Str
 |.gone => "gone" |.kept => "kept" |.known => "known" |.passed => "passed" |.cheaper => "cheaper"
structure Tr where
 v:Vd
 md:Option (List Am)
 pl:Option Nat
def Tr.d(t:Tr):D:=.tuple [.str t.v.s,oR t.md,aT t.pl]
def aZ5(w n:Nat):List Am:=[.s .num,.n w,.n n]
def kE(r:Rw)(f:Ft)(m:Nat)(ws:List Nat)(Fs:List Ft)(P:List (Option Nat)):Tr:=
 if r.wd=.in then (.kept,qz (gF r),qx,) else if m=0 then (.gone,qx,qx,) else if r.wd=.num then (.kept,qz (gF r),qx,) else match oQ r.wd f m P with
 |some n=>(.known,qz (aZ5 r.w n),qx,)
 | none=>(match mQ r m ws Fs P with
   |some i=>(.passed,qx,pg P i,)
   | none=>(match kZ r m Fs P with
     |some l=>(.cheaper,qz l,qx,)
     | none=>(.kept,qz (zV r P),qx,)))
def aXr{r:Rw}{P:List (Option Nat)}(hP:↑P=bA r.wd)(c1:0<bA r.wd)(h:mQ r m ws Fs P=qz i):i<↑P:=by
 unfold mQ at h;cases a1:(zX r.wd&&pZ P) with
 |true=>
   rw[a1] at h;have h:qz 0=qz i:=h;cases h;omega
 |false=>
   rw[a1] at h;cases a2:decide (r.wd=.pick) with
   |true=>
     rw[a2] at h;have e3:bA r.wd=3:=by rw[oqT a2];rfl
     have h:zU (f0 Fs 0) P=qz i:=h;unfold zU at h;split at h
     .cases h;omega
     .split at h
      .cases h;omega
      .cases h
   |false=>
     rw[a2] at h;have z:∀ {b:Bool},cond b (qz 0) qx=qz i->i<↑P:=λ {b} q=>by
      cases b with
      |true=>
        have q:qz 0=qz i:=q;cases q;omega
      |false=>cases q
     cases a3:uY r.wd with
     |true=>rw[a3] at h;exact z h
     |false=>
       rw[a3] at h;cases a4:cw3 r.wd with
       |true=>rw[a4] at h;exact z h
       |false=>
         rw[a4] at h;cases a5:(decide (↑P=2)&&gQ r.wd (f0 Fs 1) m) with
         |true=>
           rw[a5] at h;have h:qz 0=qz i:=h;cases h;omega
         |false=>
           rw[a5] at h;cases a6:oI r.wd with
           |true=>
             have e2:bA r.wd=2:=by revert a6;cases r.wd<;>decide
             rw[a6,yBf] at h;cases a7:gQ r.wd (f0 Fs 0) m with
             |true=>
               rw[a7] at h;have h:qz 1=qz i:=h;cases h;omega
             |false=>rw[a7] at h;cases h
           |false=>rw[a6,yBl] at h;cases h
def aRm(h:RwOk r ws):↑r.args<=10:=by cases h<;>(show _<=10;simp)
def aRK(d:Nat)(r:Rw)(f:Ft)(m:Nat)(hm:m<2^64)(ws:List Nat)(Fs:List Ft)(P:List (Option Nat))(ok:RwOk r ws)(lw:↑ws=bA r.wd)(lF:↑Fs=bA r.wd)(hP:↑P=bA r.wd)(S:aD):cl fns (d+5) 62 [.d r.d,.d f.d,.d (.int m),.d (ws*>nD),.d (Fs*>Ft.d),.d (P*>aT)] S=qz (.d (kE r f m ws Fs P).d,S):=by
 have r0:=jS r;have r1:=jQ r;have i1:aP .Eq (.str r.wd.s) (.str "in")=qz (.bool (decide (r.wd=.in))):=cG r.wd .in;have i2:aP .Eq (.str r.wd.s) (.str "num")=qz (.bool (decide (r.wd=.num))):=cG r.wd .num;have rd:=aMC r;have c3:bA r.wd<=3:=by cases r.wd<;>decide
 rw[bX rfl (d+4) _ S rfl];unfold kE;by_cases c1:r.wd=.in
 .rw[if_pos c1];rw[dqT c1] at i1;show _=qz (W.d (.tuple [.str "kept",tA (gF r),.none]),S);rw[rd];erw[11,pG,r0,i1]
 .rw[if_neg c1];rw[dqF c1] at i1;by_cases c2:m=0
  .have t0:=rP c2;rw[if_pos c2];erw[11,pG,r0,i1,cC,dZ,t0]
  .have t0:=sB c2;rw[if_neg c2];by_cases c4:r.wd=.num
   .rw[if_pos c4];rw[dqT c4] at i2;show _=qz (W.d (.tuple [.str "kept",tA (gF r),.none]),S);rw[rd];erw[11,pG,r0,i1,cC,dZ,t0,i2]
   .rw[if_neg c4];rw[dqF c4] at i2;have pos:0<bA r.wd:=by revert c1 c4;cases r.wd<;>decide
    have kn:=aOh (d+2) r f m P hP S;have po:=aXP d r m hm ws Fs P ok c1 c4 lw lF hP S;have ch:=aPF d r m hm Fs P lF hP S;have wo:=aSl (d+3) r P () (aRm ok) S;have is1:=aMs (oQ r.wd f m P);have is2:=aMs (mQ r m ws Fs P);have is3:=aYf (kZ r m Fs P);cases k1:oQ r.wd f m P with
    |some n=>
      rw[k1] at kn is1;have is1:aP .IsNot (aT (qz n)) .none=qz (.bool true):=is1;erw[11,pG,r0,i1,cC,dZ,t0,i2,kn,is1,r1]
    |none=>
      rw[k1] at kn is1;have is1:aP .IsNot (aT qx) .none=qz (.bool false):=is1;cases k2:mQ r m ws Fs P with
      |some i=>
        have il:=aXr hP pos k2;have pi:=xN il;rw[k2] at po is2;have is2:aP .IsNot (aT (qz i)) .none=qz (.bool true):=is2;have pe:aT (qz i)=.int i:=rfl;rw[pe] at po is2;erw[11,pG,r0,i1,cC,dZ,t0,i2,kn,is1,po,is2,pi]
      |none=>
        rw[k2] at po is2;have is2:aP .IsNot (aT qx) .none=qz (.bool false):=is2;cases k3:kZ r m Fs P with
        |some l=>
          rw[k3] at ch is3;have is3:aP .IsNot (oR (qz l)) .none=qz (.bool true):=is3;erw[11,pG,r0,i1,cC,dZ,t0,i2,kn,is1,po,is2,ch,is3]
        |none=>
          rw[k3] at ch is3;have is3:aP .IsNot (oR qx) .none=qz (.bool false):=is3;erw[11,pG,r0,i1,cC,dZ,t0,i2,kn,is1,po,is2,ch,is3,wo]
def z3:List Rw->List Ft->List Nat->List (Rw×Ft×Nat)
 |r::rs,f::F,m::M=>(r,f,m)::z3 rs F M|_,_,_=>[]
def aFV:∀ (rs:List Rw) (F:List Ft) (M:List Nat),gL (rs.map Rw.d) (F.map Ft.d) (M.map nD)=(z3 rs F M).map λ t=>yAn [t.1.d,t.2.1.d,nD t.2.2]
 |[],_,_=>rfl|_::_,[],_=>rfl|_::_,_::_,[]=>rfl
 |r::rs,f::F,m::M=>by
   have ih:=aFV rs F M;simp only[yAm,gL,z3,ih]
def aBa:∀ (rs:List Rw) (F:List Ft) (M:List Nat) (k:Nat) (t:Rw×Ft×Nat),(z3 rs F M)[k]?=qz t ↔ rs[k]?=qz t.1/\F[k]?=qz t.2.1/\M[k]?=qz t.2.2
 |[],_,_,k,t=>by simp[z3]|_::_,[],_,k,t=>by simp[z3]|_::_,_::_,[],k,t=>by simp[z3]|r::rs,f::F,m::M,0,(a,b,c)=>by simp[z3]
 |r::rs,f::F,m::M,k+1,t=>by
   have ih:=aBa rs F M k t;simpa [z3] using ih
def aA9:∀ (rs:List Rw) (F:List Ft) (M:List Nat),↑F=↑rs->↑M=↑rs->↑(z3 rs F M)=↑rs
 |[],_,_,_,_=>rfl|_::_,[],_,h,_=>by cases h|_::_,_::_,[],_,h=>by cases h
 |r::rs,f::F,m::M,h1,h2=>by
   have ih:=aA9 rs F M (Nat.succ.inj h1) (Nat.succ.inj h2);simp only[z3,yAr,ih]
def ap1(s:Option (List D))(l:List D)(T:aD)(y:D)(h:↑l<=1000):dO (s::qz l::T) (.loc 1) (.d y)=qz (.d .none,s::qz (l++[y])::T):=by unfold dO;simp only[yBp,yBw];rw[if_pos (by rw[zj];omega)];rfl
def ap2(s t:Option (List D))(l:List D)(T:aD)(y:D)(h:↑l<=1000):dO (s::t::qz l::T) (.loc 2) (.d y)=qz (.d .none,s::t::qz (l++[y])::T):=by unfold dO;simp only[yBp,yBw];rw[if_pos (by rw[zj];omega)];rfl
def ap3(s t u:Option (List D))(l:List D)(T:aD)(y:D)(h:↑l<=1000):dO (s::t::u::qz l::T) (.loc 3) (.d y)=qz (.d .none,s::t::u::qz (l++[y])::T):=by unfold dO;simp only[yBp,yBw];rw[if_pos (by rw[zj];omega)];rfl
structure S3 where
 R:List (List Am)
 P:List (Option Nat)
 V:List Vd
def vD(v:Vd):D:=.str v.s
def mU(t:Tr)(s:S3):S3:=match t.md with|some l=>(s.R++[l],s.P++[qz ↑s.R],s.V++[t.v],)|none=>(s.R,s.P++[t.pl],s.V++[t.v],)
def mR(r:Rw)(P:List (Option Nat)):List (Option Nat):=(r.args.take (bA r.wd)).map (pg P)
def iH(rs:List Rw)(F:List Ft)(M:List Nat)(j:Nat)(r:Rw)(P:List (Option Nat)):Tr:=kE r (f0 F j) (M.getD j 0) (bR r (~~~rs)) (fH r F) (mR r P)
def bS(rs:List Rw)(F:List Ft)(M:List Nat):Nat->S3
 |0=>([],[],[],)
 |j+1=>match rs[j]? with
   |some r=>mU (iH rs F M j r (bS rs F M j).P) (bS rs F M j)|none=>bS rs F M j
noncomputable abbrev dC(s0:Option (List D))(s:S3):aD:=[s0,qz (s.R.map tA),qz (s.P.map aT),qz (s.V.map vD)]
structure Ln(s:S3)(j:Nat):Prop where
 p:↑s.P=j
 v:↑s.V=j
 r:↑s.R<=j
def aVX(h:Ln s j):Ln (mU t s) (j+1):=by
 unfold mU;cases t.md with
 |some l=>exact(by simp[h.p],by simp[h.v],by have:=h.r;simp;omega,)|none=>exact(by simp[h.p],by simp[h.v],by have:=h.r;show ↑s.R<=j+1;omega,)
def aMj{rs:List Rw}(p:Prg rs){k:Nat}{r:Rw}(hr:rs[k]?=qz r):↑(r.args.take (bA r.wd))=bA r.wd:=aAO (xR (p.fit k r hr).1).2
def aSm{rs:List Rw}(p:Prg rs){k:Nat}{r:Rw}(hr:rs[k]?=qz r)(P:List (Option Nat)):↑(mR r P)=bA r.wd:=by unfold mR;rw[yAa];exact aMj p hr
noncomputable abbrev eR(P:D)(F:List Ft)(M:List Nat)(Wi:D)(c7 c8 c9 c10 c11 c12 c13 c14:Option W):bB:=[qz (.d P),qz (.d (F*>Ft.d)),qz (.d (M*>nD)),qz (.d Wi),#[1],#[2],#[3],c7,c8,c9,c10,c11,c12,c13,c14,qx]
def aS2{F:List Ft}(d:Nat)(p:Prg rs)(hF:↑F=↑rs)(h:Bd rs M)(hr:rs[j]?=qz r)(hs:Ln s j)(s0:Option (List D))(P0:D)(c11 c12 c13 c14:Option W):∃ c11' c12' c13' c14':Option W,xs (d<$>5) sS (eR P0 F M (.tuple ((~~~rs).map nD)) qx (qz (.d r.d)) (qz (.d (f0 F j).d)) ((((M.getD j 0:Nat):Int):)) c11 c12 c13 c14) (dC s0 s)=qz (.nx (eR P0 F M (.tuple ((~~~rs).map nD)) qx (qz (.d r.d)) (qz (.d (f0 F j).d)) ((((M.getD j 0:Nat):Int):)) c11' c12' c13' c14'),dC s0 (mU (iH rs F M j r s.P) s)):=by
 have hj:j<↑rs:=(gIm hr).1;have pl:=p.l;let(f1,f2):=p.fit j r hr;have hw:=p.ws j r hr;have hm:M.getD j 0<2^64:=xAb (h.lt j r hr) (yAh (·) hw.2);have o1:=aDX (d+3) r (~~~rs) (dC s0 s) λ a ha=>by have:=f2 a ha;rw[yAa];omega
 have o2:cl fns (d+5) 9 [.d r.d,.d (F*>Ft.d)] (dC s0 s)=qz (.d (.tuple ((fH r F).map Ft.d)),dC s0 s):=by
  have:=sX (d+3) r (.d (F*>Ft.d)) (F*>Ft.d) (λ a=>(f0 F a).d) (dC s0 s) (λ _=>rfl) λ a ha=>aBW (by have:=f2 a ha;omega)
  rw[this,fH,yAz];rfl
 have o3:cl fns (d+5) 9 [.d r.d,.loc 2] (dC s0 s)=qz (.d (.tuple ((mR r s.P).map aT)),dC s0 s):=by
  have:=sX (d+3) r (.loc 2) (.list (s.P.map aT)) (λ a=>aT (pg s.P a)) (dC s0 s) (λ _=>rfl) λ a ha=>pH (by
   have hl:a<↑s.P:=by have:=f2 a ha;rw[hs.p];exact this
   rw[yAg,yAb hl];show qz (aT s.P[a])=qz (aT (s.P.getD a qx));rw[xAg,yAb hl];rfl)
  rw[this,mR,yAz];rfl
 have la:=aMj p hr;have lw:↑(bR r (~~~rs))=bA r.wd:=by unfold bR;rw[yAa];exact la
 have lF:↑(fH r F)=bA r.wd:=by unfold fH;rw[yAa];exact la
 have tr:=aRK d r (f0 F j) (M.getD j 0) hm (bR r (~~~rs)) (fH r F) (mR r s.P) f1 lw lF (aSm p hr s.P) (dC s0 s);have tr':cl fns (d+5) 62 [.d r.d,.d (f0 F j).d,.d (.int ((M.getD j 0:Nat):Int)),.d (.tuple ((bR r (~~~rs)).map nD)),.d (.tuple ((fH r F).map Ft.d)),.d (.tuple ((mR r s.P).map aT))] (dC s0 s)=qz (.d (iH rs F M j r s.P).d,dC s0 s):=tr;obtain⟨⟨v,md,pl'⟩,ht⟩:∃ t,t=iH rs F M j r s.P:=(_,rfl,);rw[<- ht] at tr' ⊢;let(R,P,V):=s;have h1:=hs.p;have h2:=hs.v;have h3:=hs.r;dsimp only at h1 h2 h3;generalize hA:(bR r (~~~rs)).map nD=A1 at o1 tr';generalize hB:(fH r F).map Ft.d=A2 at o2 tr';generalize hC:(mR r P).map aT=A3 at o3 tr';have t0:aV (.tuple [.tuple A1,.tuple A2,.tuple A3]) (.int 0)=qz (.tuple A1):=rfl;have t1:aV (.tuple [.tuple A1,.tuple A2,.tuple A3]) (.int 1)=qz (.tuple A2):=rfl;have t2:aV (.tuple [.tuple A1,.tuple A2,.tuple A3]) (.int 2)=qz (.tuple A3):=rfl;have dt:(Tr.mk v md pl').d=.tuple [vD v,oR md,aT pl']:=rfl;rw[dt] at tr';cases md with
 |some l=>
   have is:aP .IsNot (tA l) .none=qz (.bool true):=rfl;have em:oR (qz l)=tA l:=rfl;rw[em] at tr';have lR:jI [.list (R.map tA)]=qz (.int ↑R):=by
    show qz (yAt ((↑(R.map tA):Nat):Int))=_;rw[yAa]
   have a1:=ap1 s0 (R.map tA) [qz (P.map aT),qz (V.map vD)] (tA l) (by rw[yAa];omega);have a2:=ap2 s0 (qz (R.map tA++[tA l])) (P.map aT) [qz (V.map vD)] (.int ↑R) (by rw[yAa];omega);have a3:=ap3 s0 (qz (R.map tA++[tA l])) (qz (P.map aT++[.int ↑R])) (V.map vD) [] (vD v) (by rw[yAa];omega);have es:dC s0 (mU (v,qz l,pl',) (R,P,V,))=[s0,qz (R.map tA++[tA l]),qz (P.map aT++[.int ↑R]),qz (V.map vD++[vD v])]:=by
    show [s0,qz ((R++[l]).map tA),qz ((P++[qz ↑R]).map aT),qz ((V++[v]).map vD)]=_;rw[yAk,yAk,yAk];rfl
   refine(qz (.d (.tuple [.tuple A1,.tuple A2,.tuple A3])),qz (.d (vD v)),qz (.d (tA l)),(↑R:),?_,);rw[es];erw[2,sS,eR,dC,o1,o2,o3,t0,t1,t2,tr',is,lR,rN,a1,a2,a3]
 |none=>
   have is:aP .IsNot .none .none=qz (.bool false):=rfl;have em:oR qx=.none:=rfl;rw[em] at tr';have a2:=ap2 s0 (qz (R.map tA)) (P.map aT) [qz (V.map vD)] (aT pl') (by rw[yAa];omega);have a3:=ap3 s0 (qz (R.map tA)) (qz (P.map aT++[aT pl'])) (V.map vD) [] (vD v) (by rw[yAa];omega);have es:dC s0 (mU (v,qx,pl',) (R,P,V,))=[s0,qz (R.map tA),qz (P.map aT++[aT pl']),qz (V.map vD++[vD v])]:=by
    show [s0,qz (R.map tA),qz ((P++[pl']).map aT),qz ((V++[v]).map vD)]=_;rw[yAk,yAk];rfl
   refine(qz (.d (.tuple [.tuple A1,.tuple A2,.tuple A3])),qz (.d (vD v)),qz (.d .none),qz (.d (aT pl')),?_,);rw[es];erw[2,sS,eR,dC,o1,o2,o3,t0,t1,t2,tr',is,rN,a2,a3]
def qT(hr:rs[j]?=qz r):bS rs F M (j+1)=mU (iH rs F M j r (bS rs F M j).P) (bS rs F M j):=by show(match rs[j]? with|some r=>_|none=>_)=_;rw[hr]
def aEh{rs:List Rw}:∀ j,j<=↑rs->Ln (bS rs F M j) j
 |0,_=>(rfl,rfl,yAc _,)
 |j+1,h=>by
   rw[qT (yAb (show j<↑rs from h))];exact aVX (aEh j (Nat.le_of_succ_le h))
def aFS(s:S3)(aN:List Nat):D:=.tuple [.tuple [.tuple (s.R.map tA),.tuple (aN.map λ o=>aT (pg s.P o))],.tuple (s.V.map vD)]
def aP6(C:Calls)(c:E)(x i k:Nat)(env e1:bB)(aN:List Nat)(s:S3)(s0:Option (List D))(hl:↑aN<=8)(hin:∀ o∈aN,o<↑s.P)(hi:lv C (.it (.ix (.var x) (.int 1))) env (dC s0 s)=qz (aN.map nD,dC s0 s))(hp:∀ a:D,Tg.put (.one i) a (clr [i] env)=qz (e1.set i (qz (.d a))))(hk:∀ a:D,(e1.set i (qz (.d a)))[k]?=qz (#[2]))(hv:∀ a:D,(e1.set i (qz (.d a)))[i]?=qz (qz (.d a))):jA (.one i) (lv C (.it (.ix (.var x) (.int 1)))) jZ (ev C (.ix (.var k) (.var i))) env (dC s0 s)=qz (aN.map λ o=>aT (pg s.P o),dC s0 s):=by
 let(vs,S2,ec,hS2,hI,hvl,hq):=@aDh env (dC s0 s) (dC s0 s) _ (.one i) (lv C (.it (.ix (.var x) (.int 1)))) (ev C (.ix (.var k) (.var i))) nD (λ _ S'=>S'=dC s0 s) (λ a v=>v=aT (pg s.P a)) aN hi (by rw[zj];omega) rfl (by
  intro a ha;refine(_,hp (nD a),?_,);rintro j S3 aI hj hSl rfl;have hx:aV (.list (s.P.map aT)) (nD a)=qz (aT (pg s.P a)):=pH (by
   have hl:=hin a ha;rw[yAg,yAb hl];show qz (aT s.P[a])=qz (aT (s.P.getD a qx));rw[xAg,yAb hl];rfl)
  refine(aT (pg s.P a),_,?_,rfl,rfl,rfl,);have h1:=hk (nD a);have h2:=hv (nD a);simp only[aBv,aBr,oH,f2,jY,h1,h2,oB,hU];show((aV (.list (s.P.map aT)) (nD a)).bind λ z=>qz (W.d z,dC s0 s++[qz aI]))=_
  rw[hx];rfl)
 subst hI;rw[ec,aHc hvl hq]
def aQf{F:List Ft}(d:Nat)(p:Prg rs)(hF:↑F=↑rs)(aN:List Nat)(ho:∀ o∈aN,o<↑rs)(hol:↑aN<=8)(s0:Option (List D))(eF:cl fns (d+9) 48 [.d (rs<*(aN*>nD))] [s0]=qz (.d (F*>Ft.d),[s0])):cl fns (d+10) 63 [.d (rs<*(aN*>nD))] [s0]=qz (.d (aFS (bS rs F (bG rs F aN) ↑rs) aN),[s0]):=by
 have pl:=p.l;let(hb,eA):=aIa (d+2) p hF aN ho [s0];have eW:=aAn (d+8) rs (aN*>nD) () [s0];obtain⟨M,hM⟩:∃ M,M=bG rs F aN:=(_,rfl,);rw[<- hM] at hb eA ⊢;have i0:aV (rs<*(aN*>nD)) (.int 0)=qz (rs*>Rw.d):=rfl;have i1:aV (rs<*(aN*>nD)) (.int 1)=qz (aN*>nD):=rfl;obtain⟨P,hP⟩:∃ P:D,P=(rs<*(aN*>nD)):=(_,rfl,);rw[<- hP] at eF eA eW i0 i1 ⊢;obtain⟨Wi,hWi⟩:∃ Wi:D,Wi=.tuple ((~~~rs).map nD):=(_,rfl,);rw[<- hWi] at eW;have hz:=aFV rs F M;have it:lv (d<$>9) aAt (eR P F M Wi qx qx qx qx qx qx qx qx) (dC s0 ([],[],[],))=qz ((z3 rs F M).map (λ t=>yAn [t.1.d,t.2.1.d,nD t.2.2]),dC s0 ([],[],[],)):=by
  erw[2,aAt,eR,i0,hz]
 let(bD,S',p1,c8,c9,c10,c11,c12,c13,c14,rfl,rfl):=kM (t:=.many [8,9,10]) (fb:=xs (d<$>9) sS)
  (λ j env S'=>∃ c8 c9 c10 c11 c12 c13 c14:Option W,env=eR P F M Wi qx c8 c9 c10 c11 c12 c13 c14/\S'=dC s0 (bS rs F M j))
  it (qx,qx,qx,qx,qx,qx,qx,rfl,rfl,) (by
   rintro j dd env S' hd ⟨c8,c9,c10,c11,c12,c13,c14,rfl,rfl⟩;rw[yAg] at hd;let((r,f,m),ht,rfl):=Option.map_eq_some_iff.mp hd;let(hr,hf,hm):=(aBa rs F M j _).mp ht;have hj:j<↑rs:=(gIm hr).1;have ef:f=f0 F j:=by
    show f=F.getD j (0,0,1,);rw[xAg,hf];rfl
   have em:m=M.getD j 0:=by rw[xAg,hm];rfl
   let(a11,a12,a13,a14,e):=aS2 (d+4) p hF hb hr (aEh j (yEe hj)) s0 P c11 c12 c13 c14;rw[<- hWi,<- ef,<- em] at e;exact(eR P F M Wi qx (qz (.d r.d)) (qz (.d f.d)) ((m:)) c11 c12 c13 c14,eR P F M Wi qx (qz (.d r.d)) (qz (.d f.d)) ((m:)) a11 a12 a13 a14,_,rfl,e,_,_,_,a11,a12,a13,a14,rfl,by rw[qT hr],))
 rw[yAa,aA9 rs F M hF hb.l] at p1;have ln:=@aEh F M _ ↑rs (yAc _);generalize bS rs F M ↑rs=s at p1 ln ⊢;have oc:lv (d<$>9) aAx [qz (.d P),qz (.d (F*>Ft.d)),qz (.d (M*>nD)),qz (.d Wi),#[1],#[2],#[3],qx,c8,c9,c10,c11,c12,c13,c14,qx] (dC s0 s)=qz (aN.map λ o=>aT (pg s.P o),dC s0 s):=by
  refine aP6 (d<$>9) aAx 0 15 5 _ [qz (.d P),qz (.d (F*>Ft.d)),qz (.d (M*>nD)),qz (.d Wi),#[1],#[2],#[3],qx,c8,c9,c10,c11,c12,c13,c14,qx] aN s s0 hol (λ o h=>by rw[ln.p];exact ho o h) ?_ (λ a=>rfl) (λ a=>rfl) λ a=>rfl
  erw[0,i1,iL]
 have p1':lA (.many [8,9,10]) (lv (d<$>9) aAt) (xs (d<$>9) sS) [qz (.d P),qz (.d (F*>Ft.d)),qz (.d (M*>nD)),qz (.d Wi),#[1],#[2],#[3],qx,qx,qx,qx,qx,qx,qx,qx,qx] [s0,qz [],qz [],qz []]=qz (.nx (eR P F M Wi qx c8 c9 c10 c11 c12 c13 c14),dC s0 s):=p1;have oc':lv (d<$>9) aAx [qz (.d P),qz (.d (F*>Ft.d)),qz (.d (M*>nD)),qz (.d Wi),#[1],#[2],#[3],qx,c8,c9,c10,c11,c12,c13,c14,qx] [s0,qz (s.R.map tA),qz (s.P.map aT),qz (s.V.map vD)]=qz (aN.map λ o=>aT (pg s.P o),[s0,qz (s.R.map tA),qz (s.P.map aT),qz (s.V.map vD)]):=oc;rw[bX rfl (d+9) _ [s0] rfl];erw[14,aKe,eA,eW,eR,eF,mI,p1',dC,oc',lZ,tQ]
def aC1:(cI m y==0)=true ↔ ∀ i,m[i]! =true->y[i]! =true:=by
 rw[beq_iff_eq];constructor
 .intro h i hi;have:=aAN m y i;rw[h,yCk,hi,yBf] at this;cases c:y[i]! with|true=>rfl|false=>rw[c] at this;cases this
 .intro h;apply xAl;intro i;rw[aAN,yCk];cases c:m[i]! with|false=>rfl|true=>rw[h i c];rfl
def Sb.trans(h:Sb a b)(k:Sb b c):Sb a c:=λ i x=>k i (h i x)
def aWW(a b:Nat):Sb a (a|||b):=λ i h=>by rw[xAo,h,Bool.true_or]
def aWu(a b:Nat):Sb b (a|||b):=λ i h=>by rw[xAo,h,Bool.or_true]
def aUi(M:List Nat)(q:Nat×Nat)(i:Nat):Sb (M.getD i 0) ((dP M q).getD i 0):=by
 unfold dP;by_cases c:q.1=i
 .subst c;by_cases l:q.1<↑M
  .rw[sP l];exact aWW _ _
  .rw[yDb ()];exact Sb.refl _
 .rw[vS c];exact Sb.refl _
def aDI:∀ (l:List (Nat×Nat)) (M:List Nat) (i:Nat),Sb (M.getD i 0) ((l.foldl dP M).getD i 0)
 |[],_,_=>Sb.refl _|q::l,M,i=>(aUi M q i).trans (aDI l (dP M q) i)
def aRb(M:List Nat)(q:Nat×Nat):↑(dP M q)=↑M:=by unfold dP;rw[yBn]
def aJP:∀ (l:List (Nat×Nat)) (M:List Nat) (q:Nat×Nat),q∈l->q.1<↑M->Sb q.2 ((l.foldl dP M).getD q.1 0)
 |[],_,_,h,_=>by cases h
 |x::l,M,q,h,hl=>by
   rcases List.mem_cons.mp h with rfl|h
   .refine Sb.trans ?_ (aDI l (dP M q) q.1);unfold dP;rw[sP hl];exact aWu _ _
   .exact aJP l (dP M x) q h (by rw[aRb];exact hl)
section
variable {rs:List Rw}{F:List Ft}
def aDL:∀ (k:Nat) (M:List Nat) (i:Nat),Sb (M.getD i 0) ((iQ rs F k M).getD i 0)
 |0,_,_=>Sb.refl _
 |k+1,M,i=>by
   refine Sb.trans ?_ (aDL k (gX rs F M k) i);unfold gX;cases rs[k]? with
   |none=>exact Sb.refl _|some r=>exact aDI _ M i
def aIH(p:Prg rs):∀ (k:Nat) (M:List Nat),Bd rs M->k<=↑rs->∀ (j:Nat) (r:Rw),j<k->rs[j]?=qz r->∀ q∈iW rs F r ((iQ rs F k M).getD j 0),Sb q.2 ((iQ rs F k M).getD q.1 0)
 |0,_,_,_,j,_,hj,_,_,_=>absurd hj (yCa j)
 |k+1,M,h,hk,j,r,hj,hr,q,hq=>by
   have hb:=aD2 (F:=F) p (show k<↑rs by omega) h;by_cases c:j=k
   .subst c;have e:(iQ rs F (j+1) M).getD j 0=M.getD j 0:=aIn p (j+1) M j h hk (yAc _);rw[e] at hq;have a:=(aBn p hr (h.lt j r hr) q hq).1;show Sb q.2 ((iQ rs F j (gX rs F M j)).getD q.1 0);refine Sb.trans ?_ (aDL j (gX rs F M j) q.1);rw[aA7 hr];exact aJP _ M q hq (by rw[h.l];omega)
   .exact aIH p k (gX rs F M k) hb () j r () hr q hq
end
inductive Yw where
 |cut|nought|sign
 deriving DecidableEq
def Yw.s:Yw->Str
 |.cut => "cut" |.nought => "nought" |.sign => "sign"
def aD9(a b:Yw):aP .Eq (.str a.s) (.str b.s)=qz (.bool (decide (a=b))):=by cases a<;>cases b<;>kernel_rfl
def lb(wd:Yw)(kept:Nat)(f:Ft)(m w:Nat):Bool:=(m/2^kept==0)||(match wd with
 |.cut=>false|.nought=>cI (m/2^kept) (f.N/2^kept)==0
 | .sign=>m[(kept-1)]!&&decide (w<kept+f.A))
def yD:Option (Yw×Nat)->D
 |none=>.none|some (y,k)=>.tuple [.str y.s,.int k]
def aSC(d:Nat)(wd:Yw)(kept:Nat)(f:Ft)(m w:Nat)(hk:1<=kept)(hkw:kept<=w)(S:aD):cl fns (d+1) 49 [.d (.tuple [.str wd.s,.int kept]),.d f.d,.d (.int m),.d (.int w)] S=qz (.d (.bool (lb wd kept f m w)),S):=by
 have c1:aP .Eq (.str wd.s) (.str "nought")=qz (.bool (decide (wd=.nought))):=aD9 wd .nought;have c2:aP .Eq (.str wd.s) (.str "sign")=qz (.bool (decide (wd=.sign))):=aD9 wd .sign;have go:=λ {b:Bool} (e:xs (aF fns d) (bJ (bJ aDp)) [qz (.d (.tuple [.str wd.s,.int kept])),qz (.d f.d),(m:),(w:),(((m/2^kept:Nat):Int):),qz (.d (.str wd.s)),(kept:)] S=qz (.rt (.d (.bool b)),S))=>(cR rfl rfl rfl (dN (tS (aC rfl) rfl) (bQ (aU (aC rfl) (aC rfl) (tF m kept)) rfl e)) yAi:cl fns (d+1) 49 [.d (.tuple [.str wd.s,.int kept]),.d f.d,.d (.int m),.d (.int w)] S=qz (.d (.bool b),S))
 unfold lb;by_cases q:m/2^kept=0
 .rw[beq_iff_eq.mpr q,Bool.true_or];exact go (cF (bM (aC rfl) aJ (aZq ())) (bH aFk))
 rw[beq_eq_false_iff_ne.mpr q,Bool.false_or];have nq:=λ {b:Bool} (e:xs (aF fns d) (bJ (bJ (bJ aDp))) [qz (.d (.tuple [.str wd.s,.int kept])),qz (.d f.d),(m:),(w:),(((m/2^kept:Nat):Int):),qz (.d (.str wd.s)),(kept:)] S=qz (.rt (.d (.bool b)),S))=>go (bF (bM (aC rfl) aJ (aZ3 ())) e)
 cases wd with
 |cut=>exact nq (bF (fP rfl c1) (bH (aBQ (p:=false) (pN (aC rfl) cO c2) rfl)))|nought=>exact nq (cF (fP rfl c1) (bH (pN (aU (aC rfl) (aNy (aU (bY (aC rfl) aJ rfl (mN f)) (aC rfl) (tF f.N kept)) (aDO _)) (aDb _ _)) aJ (by rw[cC,dZ]))))
 |sign=>
   refine nq (bF (fP rfl c1) (bH (aBQ (p:=true) (pN (aC rfl) cO c2) (aBQ (p:=m[(kept-1)]!) (pN (aU (aU (aC rfl) (aU (aC rfl) aJ (@mK _ 1 hk)) (tF m _)) aJ (aQY _)) aJ ?_) ?_))))
   .rw[cC,aZx]
   .cases m[(kept-1)]!
    .rfl
    .refine pN (aU (aU (aC rfl) (aC rfl) (eJ _ _)) aJ (kI _ _)) (bY (aC rfl) aJ rfl (aB4 f)) ?_;rw[aEJ];congr 2;rw[yBf,decide_eq_decide];omega
def rX(p:Nat->Bool):Nat->Nat->Nat
 |0,i=>i
 |n+1,i=>if p i=true then i else rX p n (i+1)
def aIX(p:Nat->Bool):∀ n i,p (i+n)=true->i<=rX p n i/\rX p n i<=i+n/\p (rX p n i)=true/\∀ j,i<=j->j<rX p n i->p j=false
 |0,i,h=>(yAc _,yAc _,h,λ j h1 h2=>absurd h1 (yHy h2),)
 |n+1,i,h=>by
   unfold rX;by_cases c:p i=true
   .rw[if_pos c];exact(yAc _,by omega,c,λ j h1 h2=>absurd h1 (yHy h2),)
   .rw[if_neg c];let(h1,h2,h3,h4):=aIX p n (i+1) (by rw[show i+1+n=i+(n+1) by omega];exact h);refine(by omega,by omega,h3,λ j h5 h6=>?_,);by_cases e:i=j
    .subst e;exact Bool.eq_false_iff.mpr c
    .exact h4 j () h6
def lw(y:Yw)(f:Ft)(m w:Nat):Nat:=rX (λ k=>lb y k f m w) (w-1) 1
def aWC(h:m<2^w):lb y w f m w=true:=by unfold lb;rw[Nat.div_eq_of_lt h];rfl
def aBK(y:Yw)(f:Ft)(hw:1<=w)(h:m<2^w):1<=lw y f m w/\lw y f m w<=w/\lb y (lw y f m w) f m w=true/\∀ j,1<=j->j<lw y f m w->lb y j f m w=false:=by
 let(h1,h2,h3,h4):=aIX (λ k=>lb y k f m w) (w-1) 1 (by
  show lb y (1+(w-1)) f m w=true;rw[show 1+(w-1)=w by omega]
  exact aWC h)
 exact(h1,by unfold lw;omega,h3,h4,)
def aAD:∀ l:List Nat,iZ (l.map nD)=qz (l.map λ n=>((n:Nat):Int))
 |[]=>rfl
 |a::r=>by
   have ih:=aAD r;simp only[yAm,nD,iZ];rw[show iZ (r.map nD)=_ from ih,oB]
def aIp:∀ (l:List Nat) (a m:Nat),(m=a\/m∈l)->m<=a->(∀ b∈l,m<=b)->(l.map λ n=>((n:Nat):Int)).foldl min ((a:Nat):Int)=((m:Nat):Int)
 |[],a,m,h,_,_=>by
   rcases h with rfl|h
   .rfl
   .cases h
 |b::l,a,m,h,h1,h2=>by
   rw[yAm,yDm,show min (a:Int) (b:Int)=((min a b:Nat):Int) by omega];have hb:=h2 b xAc;refine aIp l (min a b) m ?_ () λ c hc=>h2 c (xAf _ hc)
   rcases h with rfl|h
   .exact .inl ()
   .rcases List.mem_cons.mp h with rfl|h
    .exact .inl ()
    .exact .inr h
def aKt{l:List Nat}{m:Nat}(h:m∈l)(h2:∀ b∈l,m<=b):kT [.list (l.map nD)]=qz (.int m):=by
 have e:=aAD l;cases l with
 |nil=>cases h
 |cons a r=>
   have f:=aIp r a m (List.mem_cons.mp h) (h2 a xAc) λ b hb=>h2 b (xAf _ hb)
   show(match iZ ((a::r).map nD) with
    |some (i::r)=>qz (yAt (r.foldl min i))
    | _=>qx)=_
   rw[e,yAm];simp only[];rw[f]
def aP2(d:Nat)(y:Yw)(f:Ft)(m w:Nat)(gG:1<=w)(hw:w<=64)(hm:m<2^w)(S:aD):cl fns (d+2) 50 [.d (.str y.s),.d f.d,.d (.int m),.d (.int w)] S=qz (.d (.int (lw y f m w:Nat)),S):=by
 have ea:(w:Int)+1=((w+1:Nat):Int):=rfl;have hc:lv (d<$>1) aGv [qz (.d (.str y.s)),qz (.d f.d),(m:),(w:),qx] S=qz ((((yAo w).filter λ k=>lb y (1+k) f m w).map λ k=>nD (1+k)),S):=by
  refine @aDm _ _ _ _ _ (lv (d<$>1) (.rng2 (.int 1) (.bin .Add (.var 3) (.int 1)))) (tv (d<$>1) (.call 49 (.cons (.tup (.cons (.var 0) (.cons (.var 4) .nil))) (.cons (.var 1) (.cons (.var 2) (.cons (.var 3) .nil)))))) (ev (d<$>1) (.var 4)) (λ k=>yAt ((1+k:Nat):Int)) (λ k=>nD (1+k)) (λ k=>lb y (1+k) f m w) (yAo w) ?_ (by rw[zj,yAs];omega) λ k hk=>?_
  .simp only[aMP,aJ8,aJj,aKl,aLD,aJv];have:=@aO1 (ev (d<$>1) (.int 1)) (ev (d<$>1) (.bin .Add (.var 3) (.int 1))) [qz (.d (.str y.s)),qz (.d f.d),(m:),(w:),qx] S S S 1 (w+1) rfl (by erw[20,kI,ea]) () ();rw[yHg] at this;exact this
  .have hk:=List.mem_range.mp hk;have l1:=λ S'=>aSC d y (1+k) f m w () () S'
   exact(_,rfl,λ S'=>aMm rfl (bT (aE (fB (aE (aC rfl) (aE (aC rfl) aO)) rfl (yAe rfl)) (aE (aC rfl) (aE (aC rfl) (aE (aC rfl) aO)))) (l1 S')) rfl,λ _ S'=>rfl,)
 let(h1,h2,h3,h4):=aBK y f gG hm;have mn:kT [.list (((yAo w).filter λ k=>lb y (1+k) f m w).map λ k=>nD (1+k))]=qz (.int (lw y f m w:Nat)):=by
  rw[show(((yAo w).filter λ k=>lb y (1+k) f m w).map λ k=>nD (1+k))=(((yAo w).filter λ k=>lb y (1+k) f m w).map λ k=>1+k).map nD by rw[yAz];rfl];refine aKt (List.mem_map.mpr (lw y f m w-1,List.mem_filter.mpr (List.mem_range.mpr (),?_,),by omega,)) λ b hb=>?_
  .show lb y (1+(lw y f m w-1)) f m w=true;rw[show 1+(lw y f m w-1)=lw y f m w by omega];exact h3
  .let(k,hk,rfl):=List.mem_map.mp hb;refine Nat.le_of_not_lt λ c=>?_
   have:=(List.mem_filter.mp hk).2;rw[h4 (1+k) () c] at this;cases this
 exact cR rfl rfl rfl (bH (cT (aE (fM hc) aO) (cM cU dA) mn)) yAi
def dR(f:Ft)(m w:Nat):Nat:=min (lw .cut f m w) (min (lw .nought f m w) (lw .sign f m w))
def lK(f:Ft)(m w:Nat):Yw:=if lw .cut f m w=dR f m w then .cut else if lw .nought f m w=dR f m w then .nought else .sign
def aI2:yAn (wK.map Tv.d)=.tuple [.str Yw.cut.s,.str Yw.nought.s,.str Yw.sign.s]:=rfl
def aZT(a b c m:Nat)(h:m=a\/m=b\/m=c):([a,b,c].map λ n=>((n:Nat):Int)).idxOf ((m:Nat):Int)=if a=m then 0 else if b=m then 1 else 2:=by
 have e:∀ x y:Nat,(((x:Nat):Int)==((y:Nat):Int))=decide (x=y):=λ x y=>by
  rw[yEs,beq_iff_eq,decide_eq_true_eq];omega
 simp only[yAm,yEq,List.idxOf_cons,e];by_cases h1:a=m
 .rw[dqT h1,if_pos h1];rfl
 .rw[dqF h1,if_neg h1];by_cases h2:b=m
  .rw[dqT h2,if_pos h2];rfl
  .rw[dqF h2,if_neg h2];by_cases h3:c=m
   .rw[dqT h3];rfl
   .omega
def aTm(S:aD)(xs:List D)(k:Int):yV S (.d (.list xs)) (.d (.int k))=(iZ xs).bind λ ns=>if k∈ns then qz (.d (.int ((ns.idxOf k:Nat):Int)),S) else qx:=rfl
def aR0(d:Nat)(f:Ft)(m w:Nat)(gG:1<=w)(hw:w<=64)(hm:m<2^w)(S:aD):cl fns (d+3) 51 [.d f.d,.d (.int m),.d (.int w)] S=qz (.d (yD (qz (lK f m w,dR f m w))),S):=by
 have hc:lv (d<$>2) vP [qz (.d f.d),(m:),(w:),qx,qx,qx] S=qz ([Yw.cut,.nought,.sign].map λ y=>nD (lw y f m w),S):=by
  refine lU (fi:=lv (d<$>2) (.it (.con "WORDS" wK))) (fe:=ev (d<$>2) (.call 50 (.cons (.var 5) (.cons (.var 0) (.cons (.var 1) (.cons (.var 2) .nil)))))) (λ y:Yw=>yDk y.s) (λ y=>nD (lw y f m w)) [Yw.cut,.nought,.sign] ?_ (by rw[zj];show 3<=16777216;decide) λ y _=>?_
  .erw[20,aI2,iL]
  .have l1:=λ S'=>aP2 d y f m w gG hw hm S'
   refine([qz (.d f.d),(m:),(w:),qx,qx,qz (.d (.str y.s))],rfl,λ S'=>?_,);show _=qz (W.d (yAt ((lw y f m w:Nat):Int)),S');erw[20,l1]
 have hc':lv (d<$>2) vP [qz (.d f.d),(m:),(w:),qx,qx,qx] S=qz ([lw .cut f m w,lw .nought f m w,lw .sign f m w].map nD,S):=hc;have mi:dR f m w=lw .cut f m w\/dR f m w=lw .nought f m w\/dR f m w=lw .sign f m w:=by unfold dR;omega
 have mn:kT [.list ([lw .cut f m w,lw .nought f m w,lw .sign f m w].map nD)]=qz (.int (dR f m w:Nat)):=by
  refine aKt (by simp only[yCc,yCd,or_false];exact mi) λ b hb=>?_
  simp only[yCc,yCd,or_false] at hb;unfold dR;omega
 have ix:yV S (.d (.list ([lw .cut f m w,lw .nought f m w,lw .sign f m w].map nD))) (.d (.int (dR f m w:Nat)))=qz (.d (.int ((if lw .cut f m w=dR f m w then 0 else if lw .nought f m w=dR f m w then 1 else 2:Nat):Int)),S):=by
  rw[aTm,aAD,oB,if_pos ?_,aZT _ _ _ _ mi];simp only[yAm,yEq,yCc,yCd,or_false];omega
 have wd:aV (.tuple [.str Yw.cut.s,.str Yw.nought.s,.str Yw.sign.s]) (.int ((if lw .cut f m w=dR f m w then 0 else if lw .nought f m w=dR f m w then 1 else 2:Nat):Int))=qz (.str (lK f m w).s):=by
  unfold lK;split
  .rfl
  .split<;>rfl
 generalize hL:yGd ([lw .cut f m w,lw .nought f m w,lw .sign f m w].map nD)=L at mn ix;generalize (if lw .cut f m w=dR f m w then 0 else if lw .nought f m w=dR f m w then 1 else 2:Nat)=j at ix wd;have fz:xs (d<$>2) (.setC false 3 vP) [qz (.d f.d),(m:),(w:),qx,qx,qx] S=qz (.nx [qz (.d f.d),(m:),(w:),qz (.d L),qx,qx],S):=by
  rw[<- hL];erw[20,hc']
 have e:sO=.seq (.setC false 3 vP) (bJ sO):=rfl;have tl:xs (d<$>2) (bJ sO) [qz (.d f.d),(m:),(w:),qz (.d L),qx,qx] S=qz (.rt (.d (yD (qz (lK f m w,dR f m w)))),S):=by
  erw[20,bJ,sO,mn,aI2,aCb,ix,wd];rfl
 refine gJ (S1:=S) rfl (d+2) rfl rfl yAi ?_;show xs (d<$>2) sO [qz (.d f.d),(m:),(w:),qx,qx,qx] S=_;rw[e,aKP fz,tl]
def lQ(r:Rw)(f:Ft)(m:Nat):Option (Yw×Nat):=if r.wd=.in then qz (.cut,r.w) else if m=0 then qx else qz (lK f m r.w,dR f m r.w)
def aWT(r:Rw):aV r.d (.int 0)=qz (.str r.wd.s):=@gI (.str r.wd.s::nD r.w::r.args.map nD) 0 _ rfl
def aRn(d:Nat)(r:Rw)(f:Ft)(m:Nat)(gG:1<=r.w)(hw:r.w<=64)(hm:m<2^r.w)(S:aD):cl fns (d+4) 52 [.d r.d,.d f.d,.d (.int m)] S=qz (.d (yD (lQ r f m)),S):=by
 have c1:aP .Eq (.str r.wd.s) (.str "in")=qz (.bool (decide (r.wd=.in))):=cG r.wd .in;have ls:=aR0 d f m r.w gG hw hm S;have rw0:=aWT r;have rw1:=jQ r;unfold lQ;rw[bX rfl (d+3) _ S rfl];by_cases c:r.wd=.in
 .rw[dqT c] at c1;rw[if_pos c];erw[11,aAG,rw0,c1,rw1]
 .rw[dqF c] at c1;rw[if_neg c];by_cases z:m=0
  .have dz:(m==0)=true:=by rw[beq_iff_eq];exact z
   rw[if_pos z];erw[11,aAG,rw0,c1,cC,dZ,dz]
  .have dz:(m==0)=false:=by rw[beq_eq_false_iff_ne];exact z
   rw[if_neg z];erw[11,aAG,rw0,c1,cC,dZ,dz,rw1,ls]
def gP(rs:List Rw)(F:List Ft)(M:List Nat):List (Option (Yw×Nat)):=(z3 rs F M).map λ t=>lQ t.1 t.2.1 t.2.2
def aQE{F:List Ft}(d:Nat)(p:Prg rs)(hF:↑F=↑rs)(h:Bd rs M)(o:D)(S:aD):cl fns (d+5) 53 [.d (rs<*o),.d (F*>Ft.d),.d (M*>nD)] S=qz (.d (.tuple ((gP rs F M).map yD)),S):=by
 have pl:=p.l;have zl:=aA9 rs F M hF h.l;have i0:aV (rs<*o) (.int 0)=qz (rs*>Rw.d):=rfl;have hz:=aFV rs F M;have hc:lv (d<$>4) aGz [qz (.d (rs<*o)),qz (.d (F*>Ft.d)),qz (.d (M*>nD)),qx,qx,qx] S=qz ((gP rs F M).map yD,S):=by
  unfold gP;rw[yAz];refine lU (fi:=lv (d<$>4) (.zip3 (.ix (.var 0) (.int 0)) (.var 1) (.var 2))) (fe:=ev (d<$>4) (.call 52 (.cons (.var 3) (.cons (.var 4) (.cons (.var 5) .nil))))) (λ t:Rw×Ft×Nat=>yAn [t.1.d,t.2.1.d,nD t.2.2]) (yD ∘ λ t=>lQ t.1 t.2.1 t.2.2) (z3 rs F M) ?_ (by rw[zj];omega) λ t ht=>?_
  .erw[0,i0,hz]
  .let(k,hk):=yCh ht;let(h1,h2,h3):=(aBa rs F M k t).mp hk;let(r,f,m):=t;have hw:=p.ws k r h1;have hm:m<2^r.w:=by
    have:=h.lt k r h1;rw[xAg,h3] at this;exact this
   have e1:=λ S'=>aRn d r f m hw.1 hw.2 hm S'
   refine([qz (.d (rs<*o)),qz (.d (F*>Ft.d)),qz (.d (M*>nD)),qz (.d r.d),qz (.d f.d),(m:)],rfl,λ S'=>?_,);show _=qz (W.d (yD (lQ r f m)),S');erw[0,e1]
 rw[bX rfl (d+4) _ S rfl];erw[11,aGM,hc,lZ,tQ]
def aJz{rs:List Rw}{F:List Ft}{M:List Nat}(hF:↑F=↑rs)(hM:↑M=↑rs):↑(gP rs F M)=↑rs:=by unfold gP;rw[yAa,aA9 rs F M hF hM]
def aKj{F:List Ft}{M:List Nat}(hr:rs[k]?=qz r)(hF:↑F=↑rs)(hM:↑M=↑rs):(gP rs F M)[k]?=qz (lQ r (f0 F k) (M.getD k 0)):=by have hk:k<↑rs:=(gIm hr).1;unfold gP;rw[yAg,(aBa rs F M k (r,f0 F k,M.getD k 0)).mpr (hr,aBe (),aI4 (),)];rfl
def yE(a b:Option (Yw×Nat)):Bool:=match a,b with|none,qx=>true|some (x,k),qz (y,l)=>decide (x=y)&&(k==l)|_,_=>false
def aFw(a:Option (Yw×Nat)):aP .Is (yD a) .none=qz (.bool a.isNone):=by rcases a with _|⟨x,k⟩<;>rfl
def rt(r:Rw)(f:Ft)(m:Nat)(y:Option (Yw×Nat)):Bool:=if r.wd=.in then decide (y=qz (.cut,r.w)) else if m=0 then y.isNone else match y with|none=>false|some (a,k)=>lb a k f m r.w
def Yok(w:Nat)(y:Option (Yw×Nat)):Prop:=∀ a k,y=qz (a,k)->1<=k/\k<=w
structure Yst(rs:List Rw)(Y:List (Option (Yw×Nat))):Prop where
 l:↑Y=↑rs
 ok:∀ (k:Nat) (r:Rw) (y:Option (Yw×Nat)),rs[k]?=qz r->Y[k]?=qz y->Yok r.w y
def aVt(f:Ft)(m w:Nat):lw (lK f m w) f m w=dR f m w:=by
 unfold lK;by_cases h1:lw .cut f m w=dR f m w
 .rw[if_pos h1];exact h1
 .rw[if_neg h1];by_cases h2:lw .nought f m w=dR f m w
  .rw[if_pos h2];exact h2
  .rw[if_neg h2];unfold dR at h1 h2 ⊢;omega
def aV1(f:Ft)(hw:1<=w)(h:m<2^w):1<=dR f m w/\dR f m w<=w/\lb (lK f m w) (dR f m w) f m w=true:=by have:=aBK (lK f m w) f hw h;rw[aVt] at this;exact(this.1,this.2.1,this.2.2.1,)
def aRd(r:Rw)(f:Ft)(m:Nat)(hw:1<=r.w)(h:m<2^r.w):Yok r.w (lQ r f m):=by
 intro a k e;unfold lQ at e;by_cases c:r.wd=.in
 .rw[if_pos c] at e;cases e;exact(hw,yAc _,)
 .rw[if_neg c] at e;by_cases z:m=0
  .rw[if_pos z] at e;cases e
  .rw[if_neg z] at e;cases e;have:=aV1 f hw h;exact(this.1,this.2.1,)
def aS1{F:List Ft}(p:Prg rs)(hF:↑F=↑rs)(h:Bd rs M):Yst rs (gP rs F M):=by refine(aJz hF h.l,λ k r y hr hy=>?_,);rw[aKj hr hF h.l] at hy;cases hy;exact aRd r _ _ (p.ws k r hr).1 (h.lt k r hr)
def pQ(w:Wd):Bool:=w==.same||w==.less||w==.under
section
variable {rs:List Rw}{F:List Ft}{M:List Nat}{Y:List (Option (Yw×Nat))}{k:Nat}{y:Option (Yw×Nat)}
end
abbrev Ys:=List (Option (Yw×Nat))
abbrev Es:=List (Rw×Nat)
abbrev Ps:=List (Option Nat)
noncomputable abbrev M3:=Nat×List Rw×Es
def jK(r:Rw):List bK:=.inr r.wd.s :: .inl ((r.w:Nat):Int)::r.args.map λ a=>.inl ((a:Nat):Int)
def aNa(r:Rw):W:=.tpl (.d (.str r.wd.s) :: .d (nD r.w)::r.args.map λ a=>.d (nD a))
def hV(E:Es):List (List bK×Int):=E.map λ p=>(jK p.1,((p.2:Nat):Int))
noncomputable abbrev dJ(P Y:D):W:=.ob [("program",.d P),("stays",.d Y),("rows",.loc 1),("places",.loc 2),("once",.dic 3)]
noncomputable abbrev sM(st:Option (List D))(R:List Rw)(Pl:Ps)(E:Es)(T:aD):aD:=st::qz (R.map Rw.d)::qz (Pl.map aT)::qz ((hV E).map mP)::T
noncomputable abbrev oX(st:Option (List D))(Pl:Ps)(T:aD)(x:M3):Option (W×aD):=qz (.d (.int (x.1:Nat)),sM st x.2.1 Pl x.2.2 T)
def aV9(l:List Nat):fL (l.map λ a=>W0.d (nD a))=qz (l.map nD):=by
 induction l with
 |nil=>rfl|cons a r ih=>rw[yAm,fL,ih];rfl
def aYE(r:Rw):fL (.d (.str r.wd.s) :: .d (nD r.w)::r.args.map λ a=>W0.d (nD a))=qz (.str r.wd.s::nD r.w::r.args.map nD):=by rw[fL,fL,aV9];rfl
def aVS(l:List Nat):gS (l.map λ a=>W0.d (nD a))=qz (l.map λ a=>.inl ((a:Nat):Int)):=by
 induction l with
 |nil=>rfl|cons a r ih=>rw[yAm,nD,gS,ih];rfl
def xZ(r:Rw):gS (.d (.str r.wd.s) :: .d (nD r.w)::r.args.map λ a=>W0.d (nD a))=qz (jK r):=by rw[nD,gS,gS,aVS];rfl
def mV{a b c e a' b' c' e':Option (List D)}{T:aD}:(a::b::c::e::T).take ↑(a'::b'::c'::e'::T)=a::b::c::e::T:=by simp
def aNI(b:Bool)(r:Rw):W:=match b with|false=>.d r.d|true=>aNa r
def iI(R:List Rw)(E:Es)(r:Rw):M3:=match eU (hV E) (jK r) with|some i=>(i.toNat,R,E)|none=>(↑R,R++[r],E++[(r,↑R)])
def aIP(E:Es)(r:Rw)(n:Nat):hV (E++[(r,n)])=hV E++[(jK r,((n:Nat):Int))]:=by unfold hV;rw[yAk];rfl
def aQy{i:Int}(h:eU es k=qx):eU (es++[(k,i)]) k=qz i:=by
 unfold eU at h ⊢;rw[List.find?_append];cases q:es.find? λ p=>decide (p.1=k) with
 |none=>simp|some p=>rw[q] at h;cases h
def aRB{E:Es}{i:Int}(h:eU (hV E) k=qz i):((i.toNat:Nat):Int)=i:=by unfold eU hV at h;let(p,h1,h2):=Option.map_eq_some_iff.mp h;have:=List.mem_of_find?_eq_some h1;let(q,_,rfl):=List.mem_map.mp this;subst h2;rfl
def zI(st:Option (List D))(R:List Rw)(Pl:Ps)(E:Es)(T:aD):lI (sM st R Pl E T) 3=qz (hV E):=by unfold lI;show qz (((hV E).map mP).filterMap uT)=_;rw[aFQ]
def cX(Y:Ys)(Pl:Ps)(R:List Rw)(E:Es)(k w:Nat):M3:=match Y.getD k qx with
 |none=>iI R E (.num,w,[0],)
 |some (y,kept)=>if kept=w then ((Pl.getD k qx).getD 0,R,E) else if w<kept then iI R E (.cut,w,[(Pl.getD k qx).getD 0],) else iI R E (if y=.sign then .sign else .wide,w,[(Pl.getD k qx).getD 0],)
section
variable {st:Option (List D)}{R:List Rw}{Pl:Ps}{E:Es}{T:aD}{Y:Ys}{P YY:D}
def aS8(b:Bool)(r:Rw)(hz:↑R+↑E<=1900):dO (sM st R Pl E T) (.loc 1) (aNI b r)=qz (.d .none,sM st (R++[r]) Pl E T):=by
 have h:uK (sM st R Pl E T) 1 r.d=qz (.d .none,sM st (R++[r]) Pl E T):=by
  show(if ↑(R.map Rw.d)<qo then _ else qx)=_;rw[if_pos (by rw[yAa,zj];omega),show R.map Rw.d++[r.d]=(R++[r]).map Rw.d by rw[yAk];rfl];rfl
 cases b with
 |false=>exact h
 |true=>
   show(fL _).bind (λ l=>uK (sM st R Pl E T) 1 (.tuple l))=_;rw[aYE];exact h
def wR(d:Nat)(b:Bool)(r:Rw)(hz:↑R+↑E<=1900):cl fns (d+1) 64 [dJ P YY,aNI b r] (sM st R Pl E T)=oX st Pl T (↑R,R++[r],E):=by
 have ln:jI [.list ((R++[r]).map Rw.d)]=qz (.int ((↑R+1:Nat):Int)):=by
  show qz (yAt ((↑((R++[r]).map Rw.d):Nat):Int))=_;rw[yAa,yAj];rfl
 exact cR rfl rfl rfl (dN (rB (rJ (wU (aC rfl) rfl) (aC rfl) (aS8 b r hz))) (bH (aU (cT (aE (wU (aC rfl) rfl) aO) (cM (iB rfl) dA) ln) aJ (by rw[eJ,show((↑R+1:Nat):Int)-1=((↑R:Nat):Int) by omega])))) mV
def aJ6(d:Nat)(r:Rw)(hz:↑R+↑E<=1900):cl fns (d+2) 65 [dJ P YY,aNa r] (sM st R Pl E T)=oX st Pl T (iI R E r):=by
 have mk:=@wR st _ Pl _ T P YY d true r hz;unfold iI;cases hv:eU (hV E) (jK r) with
 |some i=>
   have hv':eU (hV E) (jK r)=qz (i.toNat:Int):=by rw[aRB hv];exact hv
   exact cR rfl rfl rfl (bF (aEk (aC rfl) (tI (aC rfl) rfl) (xZ r) (zI st R Pl E T) (by rw[hv];rfl)) (bH (aEn (tI (aC rfl) rfl) (aC rfl) (xZ r) (zI st R Pl E T) hv'))) mV
 |none=>
   have pt:rM (hV E) (jK r) ((↑R:Nat):Int)=hV (E++[(r,↑R)]):=by
    unfold rM;rw[hv,if_neg (·),aIP]
   exact cR rfl rfl rfl (dN (aBy (aEk (aC rfl) (tI (aC rfl) rfl) (xZ r) (zI st R Pl E T) (by rw[hv];rfl)) (pF (aKA (gT (aC rfl) rfl (aE (aC rfl) aO) mk) (tI (aC rfl) rfl) (aC rfl) (xZ r) (zI st (R++[r]) Pl E T) (by unfold hV;rw[yAa,zj];omega) (by rw[pt];rfl)))) (bH (aEn (tI (aC rfl) rfl) (aC rfl) (xZ r) (zI st (R++[r]) Pl (E++[(r,↑R)]) T) (by rw[aIP];exact aQy hv)))) mV
def gZ(Y:Ys)(Pl:Ps)(k:Nat):Prop:=∃ y,Y[k]?=qz y/\∀ a b,y=qz (a,b)->∃ p,Pl[k]?=qz (qz p)
def wF(d:Nat)(w:Nat)(hk:gZ Y Pl k)(hz:↑R+↑E<=1900):cl fns (d+3) 66 [dJ P (Y*>yD),.d (.int k),.d (.int w)] (sM st R Pl E T)=oX st Pl T (cX Y Pl R E k w):=by
 let(y,hy,hp):=hk;have on:=λ(r:Rw)=>@aJ6 st _ Pl _ T P (Y*>yD) d r hz
 have i0:aV (Y*>yD) (.int k)=qz (yD y):=gI (by rw[yAg,hy];rfl);unfold cX;rw[show Y.getD k qx=y by rw[xAg,hy];rfl];cases y with
 |none=>exact cR rfl rfl rfl (bQ (bY (rC (aC rfl) rfl) (aC rfl) rfl i0) rfl (cF (bM (aC rfl) aE0 (aFw qx)) (bH (gT (aC rfl) rfl (aE (xU (aE cO (aE (aC rfl) (aE aJ aO))) rfl (eq_true (yAe rfl))) aO) (on (.num,w,[0],)))))) mV
 |some q=>
   let(a,kept):=q;let(p,hpl):=hp a kept rfl;have pa:aV (.list (Pl.map aT)) (.int k)=qz (.int p):=pH (by rw[yAg,hpl];rfl);have gp:∀ {C:Calls}{c3 c4 c5:Option W},ev C (.ix (.fld (.var 0) "places") (.var 1)) [qz (dJ P (Y*>yD)),(k:),(w:),c3,c4,c5] (sM st R Pl E T)=qz (.d (.int p),sM st R Pl E T):=λ {C c3 c4 c5}=>bY (wU (aC rfl) rfl) (aC rfl) (iB rfl) pa
   dsimp only;rw[show(Pl.getD k qx).getD 0=p by rw[xAg,hpl];rfl];have go:∀ {x:M3},xs (d<$>2) (bJ (bJ (bJ aLy))) [qz (dJ P (Y*>yD)),(k:),(w:),qz (.d (yD (qz (a,kept)))),qz (.d (.str a.s)),(kept:)] (sM st R Pl E T)=qz (.rt (.d (.int (x.1:Nat))),sM st x.2.1 Pl x.2.2 T)->cl fns (d+3) 66 [dJ P (Y*>yD),.d (.int k),.d (.int w)] (sM st R Pl E T)=oX st Pl T x:=λ {x} h=>cR rfl rfl rfl (bQ (bY (rC (aC rfl) rfl) (aC rfl) rfl i0) rfl (bF (bM (aC rfl) aE0 (aFw (qz (a,kept)))) (dN (tS (aC rfl) rfl) h))) mV
   by_cases c:kept=w
   .rw[if_pos c];exact go (x:=(p,R,E)) (cF (bM (aC rfl) (aC rfl) (by rw[cC,c,beq_self_eq_true])) (bH gp))
   .rw[if_neg c];have ce:aP .Eq (.int kept) (.int w)=qz (.bool false):=by rw[cC,beq_eq_false_iff_ne.mpr ()]
    by_cases g:w<kept
    .rw[if_pos g];exact go (bF (bM (aC rfl) (aC rfl) ce) (cF (bM (aC rfl) (aC rfl) (by rw[tJ,dqT ()])) (bH (gT (aC rfl) rfl (aE (xU (aE cO (aE (aC rfl) (aE gp aO))) rfl (eq_true (yAe rfl))) aO) (on (.cut,w,[p],))))))
    .rw[if_neg g];have cg:aP .Gt (.int kept) (.int w)=qz (.bool false):=by rw[tJ,dqF ()]
     have ys:aP .Eq (.str a.s) (.str "sign")=qz (.bool (decide (a=.sign))):=aD9 a .sign;have cV:∀ z:Wd,ev (d<$>2) (.ite (.cmp .Eq (.var 4) (.str "sign")) (.str "sign") (.str "wide")) [qz (dJ P (Y*>yD)),(k:),(w:),qz (.d (yD (qz (a,kept)))),qz (.d (.str a.s)),(kept:)] (sM st R Pl E T)=qz (.d (.str z.s),sM st R Pl E T)->cl fns (d+3) 66 [dJ P (Y*>yD),.d (.int k),.d (.int w)] (sM st R Pl E T)=oX st Pl T (iI R E ⟨z,w,[p]⟩):=λ z h=>go (bF (bM (aC rfl) (aC rfl) ce) (bF (bM (aC rfl) (aC rfl) cg) (bH (gT (aC rfl) rfl (aE (xU (aE h (aE (aC rfl) (aE gp aO))) rfl (eq_true (yAe rfl))) aO) (on (z,w,[p],))))))
     by_cases z:a=.sign
     .rw[if_pos z];exact cV .sign (aFi (bM (aC rfl) cO (by rw[ys,dqT z])) rfl)
     .rw[if_neg z];exact cV .wide (aFi (bM (aC rfl) cO (by rw[ys,dqF z])) rfl)
end
inductive CRun (t:Tg) (fe:FE) (env:bB):List D->List D->aD->aD->Prop
 |nil {S:aD}:CRun t fe env [] [] S S
 |cons {x v:D}{e1:bB}{ds vs:List D}{S S1 S2:aD}:t.put x env=qz e1->(∀ aI,fe e1 (S++[qz aI])=qz (.d v,S1++[qz aI]))->↑S1=↑S->CRun t fe env ds vs S1 S2->CRun t fe env (x::ds) (v::vs) S S2
def aVW{fe:FE}(h:CRun t fe env ds vs S S2)(aI:List D)(hz:↑aI+↑ds<=qo):iP t jZ fe ↑S env ds (S++[qz aI])=qz (S2++[qz (aI++vs)])/\↑S2=↑S:=by
 induction h generalizing aI with
 |nil=>simp[iP]
 |cons h1 h2 h3 h4 ih=>
   rename_i _ v _ _ _ S S1 _;rw[yAr] at hz;let(i1,i2):=ih (aI++[v]) (by rw[yAj,yGg];omega);rw[h3] at i1 i2;have ea:dO (S1++[qz aI]) (.loc ↑S) (.d v)=qz (.d .none,S1++[qz (aI++[v])]):=by
    unfold dO;rw[<- h3];simp only[yAd (yAc ↑S1),yBb,yBw];rw[if_pos (),aSx]
   refine(?_,i2,);simp only[iP,h1,jZ,oB,if_true,h2,ea];rw[i1,yAq];rfl
def aD3{fi:FL}{fe:FE}(hi:fi env S=qz (ds,S1))(hz:↑ds<=1000)(h:CRun t fe (clr t.slots env) ds vs S1 S2):jA t fi jZ fe env S=qz (vs,S2):=by let(i1,i2):=aVW h [] (by rw[zj,yBu];omega);unfold jA;rw[hi];simp only[oB];rw[i1];simp[<- i2]
def dG(Y:Ys)(Pl:Ps):List Rw->Es->List (Nat×Nat)->List Nat×List Rw×Es
 |R,E,[]=>([],R,E)|R,E,q::l=>((cX Y Pl R E q.1 q.2).1::(dG Y Pl (cX Y Pl R E q.1 q.2).2.1 (cX Y Pl R E q.1 q.2).2.2 l).1,(dG Y Pl (cX Y Pl R E q.1 q.2).2.1 (cX Y Pl R E q.1 q.2).2.2 l).2)
def aJM(R:List Rw)(E:Es)(r:Rw):(iI R E r).2.1.length+(iI R E r).2.2.length<=↑R+↑E+2:=by
 unfold iI;split<;>simp
 omega
def aA5(Y:Ys)(Pl:Ps)(R:List Rw)(E:Es)(k w:Nat):(cX Y Pl R E k w).2.1.length+(cX Y Pl R E k w).2.2.length<=↑R+↑E+2:=by
 unfold cX;split
 .exact aJM _ _ _
 .split
  .simp
  .split<;>exact aJM _ _ _
def aDx(Y:Ys)(Pl:Ps):∀ (l:List (Nat×Nat)) (R:List Rw) (E:Es),(dG Y Pl R E l).2.1.length+(dG Y Pl R E l).2.2.length<=↑R+↑E+2*↑l/\(dG Y Pl R E l).1.length=↑l
 |[],R,E=>(yAc _,rfl,)
 |q::l,R,E=>by
   have h:=aA5 Y Pl R E q.1 q.2;let(i1,i2):=aDx Y Pl l (cX Y Pl R E q.1 q.2).2.1 (cX Y Pl R E q.1 q.2).2.2;unfold dG;simp only[yAr];omega
section
variable {st:Option (List D)}{R:List Rw}{Pl:Ps}{E:Es}{T:aD}{Y:Ys}{P YY:D}
def aBf{t:Tg}{fe:FE}(enc:Nat×Nat->D)(e:Nat×Nat->bB)(hput:∀ q,t.put (enc q) env=qz (e q)):∀ (l:List (Nat×Nat)) (R:List Rw) (E:Es),↑R+↑E+2*↑l<=1900->(∀ q∈l,∀ (R:List Rw) (E:Es) (T:aD),↑R+↑E<=1900->fe (e q) (sM st R Pl E T)=oX st Pl T (cX Y Pl R E q.1 q.2))->CRun t fe env (l.map enc) ((dG Y Pl R E l).1.map nD) (sM st R Pl E T) (sM st (dG Y Pl R E l).2.1 Pl (dG Y Pl R E l).2.2 T)
 |[],R,E,_,_=>.nil
 |q::l,R,E,h1,h=>by
   rw[yAr] at h1;have ln:=aA5 Y Pl R E q.1 q.2;exact .cons (S1:=sM st (cX Y Pl R E q.1 q.2).2.1 Pl (cX Y Pl R E q.1 q.2).2.2 T) (hput q) (λ aI=>h q xAc R E (T++[qz aI]) ()) (by simp) (aBf enc e hput l _ _ () λ z hz=>h z (xAf _ hz))
def qA(Y:Ys)(Pl:Ps)(R:List Rw)(E:Es)(l:List (Nat×Nat))(f:List Nat->Rw):M3:=((dG Y Pl R E l).2.1.length,(dG Y Pl R E l).2.1++[f (dG Y Pl R E l).1],(dG Y Pl R E l).2.2)
def bAA(Y:Ys)(Pl:Ps)(R:List Rw)(E:Es)(r:Rw)(a s w:Nat):M3:=
 let v:=min r.w (w+s);let q:=cX Y Pl R E a v
 if w<v then iI (q.2.1++[(r.wd,v,[q.1,s],)]) q.2.2 (.cut,w,[q.2.1.length],) else (q.2.1.length,q.2.1++[(r.wd,v,[q.1,s],)],q.2.2)
def zP(a b:Nat):kT [.int ((a:Nat):Int),.int ((b:Nat):Int)]=qz (.int ((min a b:Nat):Int)):=by show qz (yAt (if ((b:Nat):Int)<((a:Nat):Int) then ((b:Nat):Int) else ((a:Nat):Int)))=_;congr 2;split<;>omega
def vF(Y:Ys)(Pl:Ps)(R:List Rw)(E:Es)(wd:Wd)(a old w:Nat):M3:=
 if w<=old then cX Y Pl R E a w else iI (cX Y Pl R E a old).2.1 (cX Y Pl R E a old).2.2 (wd,w,[(cX Y Pl R E a old).1],)
def aRZ(d:Nat)(o:D)(wd:Wd)(w0:Nat)(w:Nat)(hra:rs[a]?=qz ra)(ha:gZ Y Pl a)(hz:↑R+↑E<=1800):cl fns (d+4) 68 [dJ (rs<*o) (Y*>yD),.d (Rw.d (wd,w0,[a],)),.d (.int w)] (sM st R Pl E T)=oX st Pl T (vF Y Pl R E wd a ra.w w):=by
 have wo:=λ S=>wY (d+2) a hra o S
 generalize (yAn [(rs*>Rw.d),o])=P at wo ⊢;have l:=aA5 Y Pl R E a ra.w;have f1:=λ v=>@wF st _ _ _ T _ P _ d v ha (show ↑R+↑E<=1900 by omega)
 unfold vF;have ow:ev (d<$>3) (.call 10 (.cons (.fld (.var 0) "program") (.cons (.ix (.var 1) (.int 2)) .nil))) [qz (dJ P (Y*>yD)),qz (.d (Rw.d (wd,w0,[a],))),(w:),qx] (sM st R Pl E T)=qz (.d (.int ra.w),sM st R Pl E T):=bT (aE (rC (aC rfl) rfl) (aE (bY (aC rfl) aJ rfl rfl) aO)) (wo _);by_cases c:w<=ra.w
 .rw[if_pos c];exact cR rfl rfl rfl (bQ ow rfl (cF (bM (aC rfl) (aC rfl) (by rw[aEJ,dqT ()])) (bH (gT (aC rfl) rfl (aE (bY (aC rfl) aJ rfl rfl) (aE (aC rfl) aO)) (f1 w))))) mV
 .rw[if_neg c];have f2:=f1 ra.w;generalize cX Y Pl R E a ra.w=q at l f2 ⊢;let(n,R1,E1):=q;dsimp only at l f2 ⊢;exact cR rfl rfl rfl (bQ ow rfl (bF (bM (aC rfl) (aC rfl) (by rw[aEJ,dqF ()])) (bH (gT (aC rfl) rfl (aE (xU (aE (bY (aC rfl) aJ rfl rfl) (aE (aC rfl) (aE (gT (aC rfl) rfl (aE (bY (aC rfl) aJ rfl rfl) (aE (aC rfl) aO)) f2) aO))) rfl (eq_true (yAe rfl))) aO) (aJ6 (d+1) (wd,w,[n],) ()))))) mV
end
def sgC(a b:Yw):Nat:=(if a=.sign then 1 else 0)+(if b=.sign then 1 else 0)
def vE(wd:Wd)(a b:Yw×Nat)(old:Nat):Nat:=if sgC a.1 b.1=1 then old else if sgC a.1 b.1=0/\wd=.under then min old (max a.2 b.2+1) else max a.2 b.2
def aUS(a b:Yw):yZ [.str a.s,.str b.s] (.str "sign")=qz (.int (sgC a b:Nat)):=by cases a<;>cases b<;>kernel_rfl
def aT6(wd:Wd)(h:pQ wd=true):aP .Eq (.str wd.s) (.str "under")=qz (.bool (decide (wd=.under))):=by cases wd<;>first|kernel_rfl|(exfalso;revert h;decide)
def bAy(a b:Nat):pS [.int ((a:Nat):Int),.int ((b:Nat):Int)]=qz (.int ((max a b:Nat):Int)):=by show qz (yAt (if ((b:Nat):Int)>((a:Nat):Int) then ((b:Nat):Int) else ((a:Nat):Int)))=_;congr 2;split<;>omega
def aPS(d:Nat)(wd:Wd)(hw:pQ wd=true)(a b:Yw×Nat)(old:Nat)(S:aD):cl fns (d+1) 69 [.d (.str wd.s),.d (yD (qz a)),.d (yD (qz b)),.d (.int old)] S=qz (.d (.int (vE wd a b old:Nat)),S):=by
 let(a,ka):=a;let(b,kb):=b;have mx:=bAy ka kb;have cn:=aUS a b;have cu:=aT6 wd hw;unfold vE;dsimp only;generalize max ka kb=g at mx ⊢;generalize sgC a b=n at cn ⊢;have go:∀ {v:Nat},xs (aF fns d) (bJ (bJ aGD)) [qz (.d (.str wd.s)),qz (.d (yD (qz (a,ka)))),qz (.d (yD (qz (b,kb)))),(old:),(g:),(n:)] S=qz (.rt (.d (.int v)),S)->cl fns (d+1) 69 [.d (.str wd.s),.d (yD (qz (a,ka))),.d (yD (qz (b,kb))),.d (.int old)] S=qz (.d (.int v),S):=λ {v} h=>cR rfl rfl rfl (bQ (cT (aE (bY (aC rfl) aJ rfl rfl) (aE (bY (aC rfl) aJ rfl rfl) aO)) (cM cU (cM cU dA)) mx) rfl (bQ (aMz (aE (bY (aC rfl) aJ rfl rfl) (aE (bY (aC rfl) aJ rfl rfl) aO)) rfl (eq_true (yAe rfl)) cO rfl cn) rfl h)) yAi
 have ce:∀ i:Nat,aP .Eq (.int n) (.int i)=qz (.bool (decide (n=i))):=λ i=>by
  rw[cC];congr 2;rw[yEs,beq_iff_eq,decide_eq_true_eq];omega
 have c1:=ce 1;have c0:=ce 0;by_cases c:n=1
 .rw[if_pos c];rw[dqT c] at c1;exact go (cF (bM (aC rfl) aJ c1) (bH (aC rfl)))
 .rw[if_neg c];rw[dqF c] at c1;by_cases q:n=0/\wd=.under
  .rw[if_pos q];rw[dqT q.1] at c0;rw[dqT q.2] at cu;exact go (bF (bM (aC rfl) aJ c1) (cF (nC (bM (aC rfl) aJ c0) (bM (aC rfl) cO cu)) (bH (cT (aE (aC rfl) (aE (aU (aC rfl) aJ (show bO .Add (.int g) (.int 1)=qz (.int ((g+1:Nat):Int)) by rw[kI];rfl)) aO)) (cM cU (cM cU dA)) (zP old (g+1))))))
  .rw[if_neg q];refine go (bF (bM (aC rfl) aJ c1) (bF (S1:=S) ?_ (bH (aC rfl))));by_cases z:n=0
   .rw[dqT z] at c0;rw[dqF λ u=>q (z,u,)] at cu;exact nC (bM (aC rfl) aJ c0) (bM (aC rfl) cO cu)
   .rw[dqF z] at c0;exact nC (bM (aC rfl) aJ c0) rfl
section
variable {st:Option (List D)}{R:List Rw}{Pl:Ps}{E:Es}{T:aD}{Y:Ys}{P YY:D}
def aFP(Y:Ys)(Pl:Ps)(R:List Rw)(E:Es)(wd:Wd)(a b v:Nat):M3:=qA Y Pl R E [(a,v),(b,v)] λ x=>(wd,1,x,)
def aOM(d:Nat)(o:D)(wd:Wd)(hw:pQ wd=true)(hcn:bA wd=2)(w0:Nat)(hra:rs[a]?=qz ra)(ha:gZ Y Pl a)(hb:gZ Y Pl b)(hya:Y[a]?=qz (qz ya))(hyb:Y[b]?=qz (qz yb))(hz:↑R+↑E<=1800):cl fns (d+4) 70 [dJ (rs<*o) (Y*>yD),.d (Rw.d (wd,w0,[a,b],))] (sM st R Pl E T)=oX st Pl T (aFP Y Pl R E wd a b (vE wd ya yb ra.w)):=by
 have op:∀ S,cl fns (d+3) 7 [.d (Rw.d ⟨wd,w0,[a,b]⟩)] S=qz (.d (.tuple [.int a,.int b]),S):=λ S=>by
  have:=qO (d+2) (wd,w0,[a,b],) S;rw[hcn] at this;exact this
 have wo:=λ S=>wY (d+2) a hra o S
 generalize (yAn [(rs*>Rw.d),o])=P at wo ⊢;have ia:aV (Y*>yD) (.int a)=qz (yD (qz ya)):=gI (by rw[yAg,hya];rfl);have ib:aV (Y*>yD) (.int b)=qz (yD (qz yb)):=gI (by rw[yAg,hyb];rfl);have cw:=λ S=>aPS (d+2) wd hw ya yb ra.w S
 generalize vE wd ya yb ra.w=v at cw ⊢;have l:=aDx Y Pl [(a,v),(b,v)] R E;have hc:lv (d<$>3) aGt [qz (dJ P (Y*>yD)),qz (.d (Rw.d (wd,w0,[a,b],))),(ra.w:),(v:),qx,(a:),(b:),qx] (sM st R Pl E T)=qz ((dG Y Pl R E [(a,v),(b,v)]).1.map nD,sM st (dG Y Pl R E [(a,v),(b,v)]).2.1 Pl (dG Y Pl R E [(a,v),(b,v)]).2.2 T):=by
  refine @aD3 _ _ ([(a,v),(b,v)].map λ q=>nD q.1) _ (.one 7) _ _ (lv (d<$>3) (.it (.tup (.cons (.var 5) (.cons (.var 6) .nil))))) (ev (d<$>3) (.mth "fetch" 66 (.var 0) (.cons (.var 7) (.cons (.var 3) .nil)))) rfl (yAe rfl) (aBf (λ q=>nD q.1) _ (λ q=>rfl) _ R E (by simp;omega) λ q hq R E T h1=>?_);have hk:gZ Y Pl q.1/\q.2=v:=by
   rcases List.mem_cons.mp hq with rfl|hq
   .exact(ha,rfl,)
   .rw[List.mem_singleton.mp hq];exact(hb,rfl,)
  let(k,u):=q;let(hk,rfl):=hk;exact gT rfl rfl rfl (wF d u hk h1)
 have ct:bO .Add (.tuple [.str wd.s,.int 1]) (.tuple ((dG Y Pl R E [(a,v),(b,v)]).1.map nD))=qz (Rw.d (wd,1,(dG Y Pl R E [(a,v),(b,v)]).1,)):=pT _ _ (by rw[yAa,l.2];exact yAe rfl);exact cR rfl rfl rfl (dN (tS (bT (aE (aC rfl) aO) (op _)) rfl) (bQ (bT (aE (rC (aC rfl) rfl) (aE (aC rfl) aO)) (wo _)) rfl (bQ (bT (aE (bY (aC rfl) aJ rfl rfl) (aE (bY (rC (aC rfl) rfl) (aC rfl) rfl ia) (aE (bY (rC (aC rfl) rfl) (aC rfl) rfl ib) (aE (aC rfl) aO)))) (cw _)) rfl (bQ (cT (aE (fM hc) aO) (cM cU dA) lZ) rfl (bH (gT (aC rfl) rfl (aE (aU (fB (aE (bY (aC rfl) aJ rfl rfl) (aE aJ aO)) rfl (yAe rfl)) (aC rfl) ct) aO) (wR (d+2) false (wd,1,(dG Y Pl R E [(a,v),(b,v)]).1,) (by have:=l.1;simp at this;omega)))))))) mV
def wkM(Y:Ys)(Pl:Ps)(R:List Rw)(E:Es)(r:Rw)(w:Nat):M3:=qA Y Pl R E ((eY r).map λ k=>(k,w)) λ x=>(r.wd,w,x++r.args.drop (bA r.wd),)
def pkM(Y:Ys)(Pl:Ps)(R:List Rw)(E:Es)(c a b w:Nat):M3:=qA Y Pl R E [(c,1),(a,w),(b,w)] λ x=>(.pick,w,x,)
end
def aMr(a:List D)(k:Nat):eE a qx (qz (k:Nat))=a.take k:=by
 unfold eE;have h0:HT.sIx ↑a 0 qx=0:=rfl;rw[h0];have h1:HT.sIx ↑a ↑a (qz (k:Int))=min k ↑a:=by
  unfold HT.sIx;simp only[];split<;>omega
 rw[h1];simp[List.take_eq_take_iff]
def aTk(d:Nat)(r:Rw)(ns:List Nat)(h:↑ns<=3)(ha:↑r.args<=10)(S:aD):cl fns (d+1) 8 [.d r.d,.d (ns*>nD)] S=qz (.d (Rw.d (r.wd,r.w,ns++r.args.drop ↑ns,)),S):=by
 have lP:jI [(ns*>nD)]=qz (.int ↑ns):=by
  show qz (yAt ((↑(ns.map nD):Nat):Int))=_;rw[yAa]
 have ad:(2:Int)+((↑ns:Nat):Int)=((2+↑ns:Nat):Int):=();have rd:r.d=.tuple (.str r.wd.s::nD r.w::r.args.map nD):=rfl;have h1:eE (.str r.wd.s::nD r.w::r.args.map nD) qx (qz 2)=[.str r.wd.s,nD r.w]:=(aMr _ 2).trans rfl;have h2:eE (.str r.wd.s::nD r.w::r.args.map nD) (qz ((2+↑ns:Nat):Int)) qx=(r.args.drop ↑ns).map nD:=by
  rw[aAJ,yHh 2,List.map_drop];rfl
 have h3:bO .Add (.tuple [.str r.wd.s,nD r.w]) (ns*>nD)=qz (.tuple ([.str r.wd.s,nD r.w]++ns.map nD)):=pT _ _ (by simp;omega);have h4:bO .Add (.tuple ([.str r.wd.s,nD r.w]++ns.map nD)) (.tuple ((r.args.drop ↑ns).map nD))=qz (Rw.d (r.wd,r.w,ns++r.args.drop ↑ns,)):=by
  rw[pT _ _ (by simp;omega)];show _=qz (yAn (.str r.wd.s::nD r.w::(ns++r.args.drop ↑ns).map nD));rw[yAk];rfl
 rw[bX rfl d _ S rfl];rw[rd];erw[11,aCJ,qE,lP,kI,ad,h1,h2,h3,h4]
section
variable {st:Option (List D)}{R:List Rw}{Pl:Ps}{E:Es}{T:aD}{Y:Ys}{P YY:D}
def aQ0(d:Nat)(r:Rw)(w:Nat)(hc:↑(eY r)=bA r.wd)(hc3:bA r.wd<=3)(hl:↑r.args<=10)(ho:∀ a∈eY r,gZ Y Pl a)(hz:↑R+↑E<=1800):cl fns (d+4) 71 [dJ P (Y*>yD),.d r.d,.d (.int w)] (sM st R Pl E T)=oX st Pl T (wkM Y Pl R E r w):=by
 have op:∀ S,cl fns (d+3) 7 [.d r.d] S=qz (.d (.tuple ((eY r).map nD)),S):=λ S=>qO (d+2) r S
 unfold wkM qA;have lm:↑((eY r).map λ k=>(k,w))=bA r.wd:=by rw[yAa];exact hc
 have l:=aDx Y Pl ((eY r).map λ k=>(k,w)) R E;have h3:bO .Add (.tuple [.str r.wd.s,.int w]) (.tuple (r.args.map nD))=qz (Rw.d (r.wd,w,r.args,)):=pT _ _ (by rw[yAa];show 2+_<=_;omega);have hC:lv (d<$>3) aGH [qz (dJ P (Y*>yD)),qz (.d r.d),(w:),qx,qx] (sM st R Pl E T)=qz ((dG Y Pl R E ((eY r).map λ k=>(k,w))).1.map nD,sM st (dG Y Pl R E ((eY r).map λ k=>(k,w))).2.1 Pl (dG Y Pl R E ((eY r).map λ k=>(k,w))).2.2 T):=by
  refine @aD3 _ _ (((eY r).map λ k=>(k,w)).map λ q=>nD q.1) _ (.one 4) _ _ (lv (d<$>3) (.it (.call 7 (.cons (.var 1) .nil)))) (ev (d<$>3) (.mth "fetch" 66 (.var 0) (.cons (.var 4) (.cons (.var 2) .nil)))) ?_ (by rw[yAa];omega) (aBf (λ q=>nD q.1) _ (λ q=>rfl) _ R E () λ q hq R E T h1=>?_)
  .rw[yAz];erw[0,op,iL]
  .let(k,hk,rfl):=List.mem_map.mp hq;exact gT rfl rfl rfl (wF d w (ho k hk) h1)
 generalize dG Y Pl R E ((eY r).map λ k=>(k,w))=q at l hC ⊢;let(ns,R1,E1):=q;dsimp only at l hC ⊢;have wp:=aTk (d+2) (r.wd,w,r.args,) ns () hl (sM st R1 Pl E1 T);rw[show ↑ns=bA r.wd by omega] at wp;exact cR rfl rfl rfl (dN (aKK hC rfl) (bH (gT (aC rfl) rfl (aE (bT (aE (aU (fB (aE (bY (aC rfl) aJ rfl (jS r)) (aE (aC rfl) aO)) rfl (yAe rfl)) (yQ (aC rfl) (wW aJ) zA rfl (congrArg (qz ∘ yAn) ((aAJ _ 2).trans rfl))) h3) (aE (cT (aE (aC rfl) aO) (cM cU dA) lZ) aO)) wp) aO) (wR (d+2) false (r.wd,w,ns++r.args.drop (bA r.wd),) ())))) mV
end
def qB(h:aP op a b=qz (.bool x))(e:x=true):aP op a b=qz (.bool true):=by rw[h,e]
def kA(h:aP op a b=qz (.bool x))(e:x=false):aP op a b=qz (.bool false):=by rw[h,e]
def cq1(wd:Wd):aP .Eq (.str wd.s) (.str "in")=qz (.bool (wd==.in)):=by cases wd<;>kernel_rfl
def cq2(wd:Wd):aP .Eq (.str wd.s) (.str "num")=qz (.bool (wd==.num)):=by cases wd<;>kernel_rfl
def cq3(wd:Wd):aP .In (.str wd.s) (.tuple [.str "right",.str "slide"])=qz (.bool ((wd==.right||wd==.slide))):=by cases wd<;>kernel_rfl
def cq4(wd:Wd):aP .Eq (.str wd.s) (.str "cut")=qz (.bool (wd==.cut)):=by cases wd<;>kernel_rfl
def cq5(wd:Wd):aP .In (.str wd.s) (aCP*>Tv.d)=qz (.bool ((wd==.wide||wd==.sign))):=by cases wd<;>kernel_rfl
def cq6(wd:Wd):aP .In (.str wd.s) (mY*>Tv.d)=qz (.bool (pQ wd)):=by cases wd<;>kernel_rfl
def cq7(wd:Wd):aP .Eq (.str wd.s) (.str "pick")=qz (.bool (wd==.pick)):=by cases wd<;>kernel_rfl
def a0(r:Rw)(i:Nat):Nat:=r.args.getD i 0
def yo(Y:Ys)(a:Nat):Yw×Nat:=(Y.getD a qx).getD (.cut,0)
def nT(W:List Nat)(Y:Ys)(Pl:Ps)(R:List Rw)(E:Es)(r:Rw)(w:Nat):M3:=
 if (r.wd==.in)=true then (↑R,R++[r],E) else
 if (r.wd==.num)=true then (↑R,R++[(.num,w,[a0 r 0%2^w],)],E) else
 if (r.wd==.right||r.wd==.slide)=true then bAA Y Pl R E r (a0 r 0) (a0 r 1) w else
 if (r.wd==.cut)=true then cX Y Pl R E (a0 r 0) w else
 if (r.wd==.wide||r.wd==.sign)=true then vF Y Pl R E r.wd (a0 r 0) (g0 W (a0 r 0)) w else
 if pQ r.wd=true then aFP Y Pl R E r.wd (a0 r 0) (a0 r 1) (vE r.wd (yo Y (a0 r 0)) (yo Y (a0 r 1)) (g0 W (a0 r 0))) else
 if (r.wd==.pick)=true then pkM Y Pl R E (a0 r 0) (a0 r 1) (a0 r 2) w else wkM Y Pl R E r w
def Cok(Y:Ys)(r:Rw):Prop:=pQ r.wd=true->∀ a∈eY r,∃ y,Y[a]?=qz (qz y)
section
variable {st:Option (List D)}{R:List Rw}{Pl:Ps}{E:Es}{T:aD}{Y:Ys}
def aT7(d:Nat)(f1:RwOk r ws)(o:D)(w:Nat)(hw:w<=64)(hr:∀ a∈eY r,∃ ra,rs[a]?=qz ra)(ho:∀ a∈eY r,gZ Y Pl a)(hc:Cok Y r)(hz:↑R+↑E<=1800):cl fns (d+5) 73 [dJ (rs<*o) (Y*>yD),.d (Rw.d r),.d (.int w)] (sM st R Pl E T)=oX st Pl T (nT (~~~rs) Y Pl R E r w):=by
 have wo:∀ {a:Nat}{ra:Rw},rs[a]?=qz ra->gZ Y Pl a->∀ (wd:Wd) (w0:Nat),cl fns (d+4) 68 [dJ (rs<*o) (Y*>yD),.d (Rw.d ⟨wd,w0,[a]⟩),.d (.int w)] (sM st R Pl E T)=oX st Pl T (vF Y Pl R E wd a (g0 (~~~rs) a) w):=λ hra ha wd w0=>by
  rw[eV hra];exact aRZ d o wd w0 w hra ha hz
 have co:∀ {a b:Nat}{ra:Rw}{ya yb:Yw×Nat},rs[a]?=qz ra->gZ Y Pl a->gZ Y Pl b->Y[a]?=qz (qz ya)->Y[b]?=qz (qz yb)->∀ (wd:Wd) (w0:Nat),pQ wd=true->bA wd=2->cl fns (d+4) 70 [dJ (rs<*o) (Y*>yD),.d (Rw.d ⟨wd,w0,[a,b]⟩)] (sM st R Pl E T)=oX st Pl T (aFP Y Pl R E wd a b (vE wd (yo Y a) (yo Y b) (g0 (~~~rs) a))):=λ {a b ra ya yb} hra ha hb hya hyb wd w0 hcw hcn=>by
  rw[eV hra,show yo Y a=ya by unfold yo;rw[xAg,hya];rfl,show yo Y b=yb by unfold yo;rw[xAg,hyb];rfl];exact aOM d o wd hcw hcn w0 hra ha hb hya hyb hz
 generalize (yAn [(rs*>Rw.d),o])=P at wo co ⊢;have go:∀ {r:Rw}{x:M3},xs (d<$>4) (bJ oV) [qz (dJ P (Y*>yD)),qz (.d r.d),(w:),qz (.d (.str r.wd.s))] (sM st R Pl E T)=qz (.rt (.d (.int (x.1:Nat))),sM st x.2.1 Pl x.2.2 T)->cl fns (d+5) 73 [dJ P (Y*>yD),.d r.d,.d (.int w)] (sM st R Pl E T)=oX st Pl T x:=λ {r x} h=>cR rfl rfl rfl (bQ (bY (aC rfl) aJ rfl (jS r)) rfl h) mV
 have n2:∀ {r:Rw}{z:Option (Fl×aD)},(r.wd==.in)=false->xs (d<$>4) (bJ (bJ oV)) [qz (dJ P (Y*>yD)),qz (.d r.d),(w:),qz (.d (.str r.wd.s))] (sM st R Pl E T)=z->xs (d<$>4) (bJ oV) [qz (dJ P (Y*>yD)),qz (.d r.d),(w:),qz (.d (.str r.wd.s))] (sM st R Pl E T)=z:=λ h k=>bF (bM (aC rfl) cO (kA (cq1 _) h)) k
 have n4:∀ {r:Rw}{z:Option (Fl×aD)},(r.wd==.in)=false->(r.wd==.num)=false->(r.wd==.right||r.wd==.slide)=false->xs (d<$>4) (bJ (bJ (bJ (bJ oV)))) [qz (dJ P (Y*>yD)),qz (.d r.d),(w:),qz (.d (.str r.wd.s))] (sM st R Pl E T)=z->xs (d<$>4) (bJ oV) [qz (dJ P (Y*>yD)),qz (.d r.d),(w:),qz (.d (.str r.wd.s))] (sM st R Pl E T)=z:=λ h h2 h3 k=>n2 h (bF (bM (aC rfl) cO (kA (cq2 _) h2)) (bF (bM (aC rfl) rfl (kA (cq3 _) h3)) k))
 have n6:∀ {r:Rw}{z:Option (Fl×aD)},(r.wd==.in)=false->(r.wd==.num)=false->(r.wd==.right||r.wd==.slide)=false->(r.wd==.cut)=false->(r.wd==.wide||r.wd==.sign)=false->xs (d<$>4) (bJ (bJ (bJ (bJ (bJ (bJ oV)))))) [qz (dJ P (Y*>yD)),qz (.d r.d),(w:),qz (.d (.str r.wd.s))] (sM st R Pl E T)=z->xs (d<$>4) (bJ oV) [qz (dJ P (Y*>yD)),qz (.d r.d),(w:),qz (.d (.str r.wd.s))] (sM st R Pl E T)=z:=λ h h2 h3 h4 h5 k=>n4 h h2 h3 (bF (bM (aC rfl) cO (kA (cq4 _) h4)) (bF (bM (aC rfl) rfl (kA (cq5 _) h5)) k))
 have wk:∀ r:Rw,(r.wd==.in)=false->(r.wd==.num)=false->(r.wd==.right||r.wd==.slide)=false->(r.wd==.cut)=false->(r.wd==.wide||r.wd==.sign)=false->pQ r.wd=false->(r.wd==.pick)=false->↑(eY r)=bA r.wd->bA r.wd<=3->↑r.args<=10->(∀ a∈eY r,gZ Y Pl a)->cl fns (d+5) 73 [dJ P (Y*>yD),.d r.d,.d (.int w)] (sM st R Pl E T)=oX st Pl T (wkM Y Pl R E r w):=λ r h1 h2 h3 h4 h5 h6 h7 i1 i2 i3 ho=>go (n6 h1 h2 h3 h4 h5 (bF (bM (aC rfl) rfl (kA (cq6 _) h6)) (bF (bM (aC rfl) cO (kA (cq7 _) h7)) (bH (bT (aE (aC rfl) (aE (aC rfl) (aE (aC rfl) aO))) (aQ0 d r w i1 i2 i3 ho hz))))))
 have two:∀ wd w0 a b,(∀ x∈eY ⟨wd,w0,[a,b]⟩,gZ Y Pl x)->eY ⟨wd,w0,[a,b]⟩=[a,b]->gZ Y Pl a/\gZ Y Pl b:=λ wd w0 a b h e=>by
  rw[e] at h;exact(h a xAc,h b (by simp),)
 cases f1 with
 |inp h1 h2=>exact go (cF (bM (aC rfl) cO (qB (cq1 _) rfl)) (bH (gT (aC rfl) rfl (aE (aC rfl) aO) (wR (d+3) false (.in,_,[],) ()))))
 |num h1 h2 hn=>
   rename_i w0 n;exact go (n2 rfl (cF (bM (aC rfl) cO (qB (cq2 _) rfl)) (bH (gT (aC rfl) rfl (aE (fB (aE cO (aE (aC rfl) (aE (aU (bY (aC rfl) aJ rfl rfl) (bT (aE (aC rfl) aO) (dU (d+3) w () _)) (by rw[nD,fO,yCy];rfl)) aO))) rfl (yAe rfl)) aO) (wR (d+3) false (.num,w,[n%2^w],) ())))))
 |nt h1 h2=>exact wk _ rfl rfl rfl rfl rfl rfl rfl rfl (yAe rfl) (yAe rfl) ho|cut h1 hv h2=>exact go (n4 rfl rfl rfl (cF (bM (aC rfl) cO (qB (cq4 _) rfl)) (bH (gT (aC rfl) rfl (aE (bY (aC rfl) aJ rfl rfl) (aE (aC rfl) aO)) (wF (d+1) w (ho _ xAc) ())))))
 |wide h1 hv h2=>
   let(ra,hra):=hr _ xAc;exact go (n4 rfl rfl rfl (bF (bM (aC rfl) cO (kA (cq4 _) rfl)) (cF (bM (aC rfl) rfl (qB (cq5 _) rfl)) (bH (bT (aE (aC rfl) (aE (aC rfl) (aE (aC rfl) aO))) (wo hra (ho _ xAc) _ _))))))
 |sm h1 h2=>
   rename_i s _ _ _;cases s<;>exact wk _ rfl rfl rfl rfl rfl rfl rfl rfl (yAe rfl) (yAe rfl) ho
end
def pL(ws:List Nat)(r:Rw):Prop:=1<=r.w/\r.w<=64/\match r.wd,r.args with|.in,[]=>True|.add,[a,b]=>ws[a]?=qz r.w/\ws[b]?=qz r.w|.mul,[a,b]=>ws[a]?=qz r.w/\ws[b]?=qz r.w|.cut,[a]=>∃ v,ws[a]?=qz v/\r.w<=v|.wide,[a]=>∃ v,ws[a]?=qz v/\v<=r.w|_,_=>False
def pC:List Nat->List Rw->Prop
 |_,[]=>True|ws,r::rs=>pL ws r/\pC (ws++[r.w]) rs
def aCO:∀ {rs:List Rw}{ws:List Nat}{r:Rw},pC ws rs->pL (ws++rs.map (·.w)) r->pC ws (rs++[r])
 |[],ws,r,_,h=>(by simpa using h,True.intro,)|q::rs,ws,r,⟨h1,h2⟩,h=>(h1,aCO h2 (by simpa using h),)
def aC5:∀ (rs:List Rw) (ws:List Nat),pC ws rs->∀ (j:Nat) (r:Rw),rs[j]?=qz r->pL (ws++(rs.take j).map (·.w)) r
 |[],_,_,j,r,h=>by simp at h
 |q::rs,ws,⟨h1,h2⟩,0,r,h=>by
   cases h;simpa using h1
 |q::rs,ws,⟨h1,h2⟩,j+1,r,h=>by
   have:=aC5 rs _ h2 j r (by simpa using h);simpa using this
def aIY{W:List Nat}(hw:∀ a v,ws[a]?=qz v->g0 W a=v/\1<=v/\v<=64/\a<n)(h:pL ws r):RwOk r (bR r W)/\∀ x∈r.args.take (bA r.wd),x<n:=by
 let(wd,w,args):=r;let(h1,h2,h):=h;dsimp only at h1 h2 h;have one:∀ {a:Nat},a<n->∀ x∈[a],x<n:=λ la x hx=>by rw[List.mem_singleton.mp hx];exact la
 have two:∀ (s:Sw) (a b:Nat),ws[a]?=qz w/\ws[b]?=qz w->RwOk ⟨s.wd,w,[a,b]⟩ (bR ⟨s.wd,w,[a,b]⟩ W)/\∀ x∈[a,b].take (bA s.wd),x<n:=λ s a b aW=>by
  let(ha,hb):=aW;let(ea,_,_,la):=hw a w ha;let(eb,_,_,lb):=hw b w hb;have e1:bR (s.wd,w,[a,b],) W=[g0 W a,g0 W b]:=by cases s<;>rfl
  have e2:[a,b].take (bA s.wd)=[a,b]:=by cases s<;>rfl
  rw[e1,e2,ea,eb];refine(.sm h1 h2,λ x hx=>?_,);rcases List.mem_cons.mp hx with rfl|hx
  .exact la
  .exact one lb x hx
 split at h
 .exact⟨.inp h1 h2,λ x hx=>by cases hx⟩
 .exact two .add _ _ h
 .exact two .mul _ _ h
 .let(v,ha,hv):=h;let(ea,v1,v2,la):=hw _ v ha;refine(?_,one la,);show RwOk _ [g0 W _];rw[ea];exact .cut h1 hv v2
 .let(v,ha,hv):=h;let(ea,v1,v2,la):=hw _ v ha;refine(?_,one la,);show RwOk _ [g0 W _];rw[ea];exact .wide v1 hv h2
 .exact h.elim
def nH(h:pC [] rs):kS rs/\∀ (j:Nat) (r:Rw),rs[j]?=qz r->1<=r.w/\r.w<=64:=by
 have ws:∀ (j:Nat) (r:Rw),rs[j]?=qz r->1<=r.w/\r.w<=64:=λ j r hr=>by
  have:=aC5 rs [] h j r hr;exact(this.1,this.2.1,)
 refine(λ j r hr=>?_,ws,);have ok:=aC5 rs [] h j r hr;rw[yEu] at ok;refine aIY (n:=j) (λ a v ha=>?_) ok;have haj:a<j:=by
  have:=(gIm ha).1;rw[yAa,yBg] at this;omega
 rw[yAg,yCz haj] at ha;let(q,hq,rfl):=Option.map_eq_some_iff.mp ha;refine(?_,(ws a q hq).1,(ws a q hq).2,haj,);show(~~~rs).getD a 0=q.w;rw[xAg,yAg,hq];rfl
def nin:List Rw->Nat
 |[]=>0
 |r::rs=>if r.wd=.in then nin rs+1 else nin rs
def aDK:∀ a b:List Rw,nin (a++b)=nin a+nin b
 |[],b=>(yBz _).symm
 |r::a,b=>by
   show(if r.wd=.in then nin (a++b)+1 else nin (a++b))=(if r.wd=.in then nin a+1 else nin a)+nin b;rw[aDK a b];split<;>omega
def aAA(r:Rw)(rs:List Rw)(W is aI:List Nat):dB (r::rs) W is aI=if r.wd=.in then dB rs W is.tail (aI++[g0 is 0]) else dB rs W is (aI++[fF r (bR r W) (bR r aI)]):=rfl
def aIv(r:Rw)(rs:List Rw):nin (r::rs)=if r.wd=.in then nin rs+1 else nin rs:=rfl
def wG(W:List Nat):∀ (a b:List Rw) (is aI:List Nat),dB (a++b) W is aI=dB b W (is.drop (nin a)) (dB a W is aI)
 |[],b,is,aI=>rfl
 |r::a,b,is,aI=>by
   rw[yEi,aAA,aAA,aIv];by_cases c:r.wd=.in
   .rw[if_pos c,if_pos c,if_pos c,wG W a b,List.drop_tail]
   .rw[if_neg c,if_neg c,if_neg c,wG W a b]
def aJC{r:Rw}{W:List Nat}(h:∀ a∈r.args.take (bA r.wd),a<↑W):bR r (W++X)=bR r W:=by
 unfold bR;refine yCq λ a ha=>?_
 show(W++X).getD a 0=W.getD a 0;rw[xAg,xAg,xAm (h a ha)]
def aEA{W:List Nat}:∀ (rs:List Rw) (is aI:List Nat),(∀ r∈rs,∀ a∈r.args.take (bA r.wd),a<↑W)->dB rs (W++X) is aI=dB rs W is aI
 |[],is,aI,_=>rfl
 |r::rs,is,aI,h=>by
   have ih:=λ is aI=>@aEA X _ rs is aI λ q m=>h q (xAf _ m)
   unfold dB;split
   .exact ih _ _
   .rw[aJC (h r xAc)];exact ih _ _
noncomputable abbrev rn(rs:List Rw)(is:List Nat):List Nat:=dB rs (~~~rs) is []
def vlN(Q:List Rw)(is:List Nat)(r:Rw):Nat:=if r.wd=.in then g0 is (nin Q) else fF r (bR r (Q.map (·.w))) (bR r (rn Q is))
def aKQ(hf:kS rs):∀ r∈rs,∀ a∈r.args.take (bA r.wd),a<↑rs:=λ r m a ha=>by
 let(j,hj):=yCh m;have:=(hf j r hj).2 a ha;have:=(gIm hj).1;omega
def xC(Q:List Rw)(is:List Nat):↑(rn Q is)=↑Q:=by unfold rn;rw[aAT];simp
def aJE(l:List Nat)(n:Nat):g0 (l.drop n) 0=g0 l n:=by show(l.drop n).getD 0 0=l.getD n 0;rw[xAg,xAg,yFw,yFo]
def aJX{r:Rw}(hf:kS Q)(hr:∀ a∈r.args.take (bA r.wd),a<↑Q)(is:List Nat):rn (Q++[r]) is=rn Q is++[vlN Q is r]:=by
 have e:(Q++[r]).map (·.w)=Q.map (·.w)++[r.w]:=by rw[yAk];rfl
 unfold rn;rw[wG,e,aEA Q is [] λ q m a ha=>by rw[yAa];exact aKQ hf q m a ha];rw[aAA];unfold vlN;by_cases c:r.wd=.in
 .rw[if_pos c,if_pos c,aJE];rfl
 .rw[if_neg c,if_neg c,aJC λ a ha=>by rw[yAa];exact hr a ha];rfl
def aKR(l:List Nat)(x:Nat):g0 (l++[x]) ↑l=x:=by show(l++[x]).getD ↑l 0=x;rw[xAg,yAd (yAc _),yBb];rfl
def aUH(hr:rs[j]?=qz r)(hi:r.wd=.in)(is:List Nat):g0 (rn rs is) j=g0 is (nin (rs.take j)):=by
 have hj:=(gIm hr).1;have e:rs=rs.take j++r::rs.drop (j+1):=by
  have h:=(gIm hr).2;rw[<- h,<- yCt hj,List.take_append_drop]
 have l:↑(dB (rs.take j) (~~~rs) is [])=j:=by
  rw[aAT,yBg];simp;omega
 unfold rn
 conv=>lhs;rw[show dB rs (~~~rs) is []=dB (rs.take j++r::rs.drop (j+1)) (~~~rs) is [] by rw[<- e]]
 rw[wG,aAA,if_pos hi];let(t,ht):=vY (rs.drop (j+1)) (~~~rs) (is.drop (nin (rs.take j))).tail (dB (rs.take j) (~~~rs) is []++[g0 (is.drop (nin (rs.take j))) 0]);rw[ht,aJE];show((_++[_])++t).getD j 0=_;rw[xAg,xAm (by simp;omega),yAd (),l,yBb];rfl
def cE(r:Rw):Bool:=decide (r.wd=.in)
def xB:∀ l:List Rw,nin l=↑(l.filter cE)
 |[]=>rfl
 |r::l=>by
   rw[aIv,xB l,yCj];unfold cE;by_cases c:r.wd=.in
   .rw[if_pos c,dqT c];rfl
   .rw[if_neg c,dqF c];rfl
noncomputable abbrev wQ(l:List Rw):List Nat:=l.map (·.w)
def aMH{rs:List Rw}{j:Nat}{r:Rw}(hr:rs[j]?=qz r):rs.take (j+1)=rs.take j++[r]:=by rw[List.take_succ,hr];rfl
def aBI(h:l[a]?=qz v):g0 l a=v:=by show l.getD a 0=v;rw[xAg,h];rfl
def aDS(p:Prg rs)(hr:rs[j]?=qz r)(ni:r.wd≠.in)(is:List Nat):g0 (rn rs is) j=fF r (bR r (wQ rs)) (bR r (rn rs is)):=aBI (aLi p.fit is hr ni)
def xF:∀ (rs:List Rw) (is:List Nat),eD rs is ↔ eD (rs.filter cE) is
 |[],is=>Iff.rfl
 |r::rs,is=>by
   by_cases c:r.wd=.in
   .have e:(r::rs).filter cE=r::rs.filter cE:=by rw[yCj,show cE r=true from dqT c,if_pos rfl]
    rw[e];unfold eD;rw[if_pos c,if_pos c];constructor
    .rintro ⟨n,is',e1,e2,e3⟩;exact(n,is',e1,e2,(xF rs is').mp e3,)
    .rintro ⟨n,is',e1,e2,e3⟩;exact(n,is',e1,e2,(xF rs is').mpr e3,)
   .have e:(r::rs).filter cE=rs.filter cE:=by rw[yCj,show cE r=false from dqF c,if_neg (·)]
    rw[e];show(if r.wd=.in then _ else eD rs is) ↔ _;rw[if_neg c];exact xF rs is
def aVH{l:List Nat}(h:a<↑l):g0 (l++t) a=g0 l a:=by show(l++t).getD a 0=l.getD a 0;rw[xAg,xAg,xAm h]
def xD(hf:kS R)(is:List Nat)(h:a<↑R):g0 (rn (R++X) is) a=g0 (rn R is) a:=by have e:(R++X).map (·.w)=R.map (·.w)++X.map (·.w):=yAk;unfold rn;rw[wG,e,aEA R is [] λ q m a ha=>by rw[yAa];exact aKQ hf q m a ha];let(t,ht):=vY X (R.map (·.w)++X.map (·.w)) (is.drop (nin R)) (dB R (R.map (·.w)) is []);rw[ht,aVH (by rw[show↑(dB R (R.map (·.w)) is [])=↑R from xC R is];exact h)]
def uA{R X:List Rw}{q v:Nat}(h:(wQ R)[q]?=qz v):(wQ (R++X))[q]?=qz v:=by unfold wQ at *;rw[yAk,xAm (gIm h).1];exact h
def rE(h:(wQ R)[q]?=qz v):q<↑R:=by have:=(gIm h).1;rw[yAa] at this;exact this
def aJp{R X:List Rw}{p:Nat}{r:Rw}(h:R[p]?=qz r):(R++X)[p]?=qz r:=by rw[xAm (gIm h).1];exact h
def aDQ(R:List Rw)(r:Rw):(R++[r])[↑R]?=qz r:=by rw[yAd (yAc _),yBb];rfl
def aE7{r:Rw}(h:(r.wd==.in)=false):r.wd≠.in:=λ z=>by rw[z] at h;cases h
structure Pg(I:List Nat->Prop)(R:List Rw)(E:Es):Prop where
 ok:pC [] R
 bd:∀ is,I is->∀ q v,(wQ R)[q]?=qz v->g0 (rn R is) q<2^v
 mi:∀ p∈E,R[p.2]?=qz p.1
structure Gq(I:List Nat->Prop)(R:List Rw)(E:Es)(c w:Nat)(f:List Nat->Nat)(x:M3):Prop where
 g:Pg I x.2.1 x.2.2
 pre:∃ X,x.2.1=R++X
 ni:x.2.1.filter cE=R.filter cE
 r:x.2.1.length<=↑R+c
 e:x.2.2.length<=↑E+c
 w:(wQ x.2.1)[x.1]?=qz w
 v:∀ is,I is->g0 (rn x.2.1 is) x.1=f is
def Gq.on{I:List Nat -> Prop}{R:List Rw}{E:Es}{R1:List Rw}{E1:Es}{a b c w:Nat}{f:List Nat->Nat}{x:M3}(h:Gq I R1 E1 b w f x)(p:∃ X,R1=R++X)(n:R1.filter cE=R.filter cE)(r:↑R1<=↑R+a)(e:↑E1<=↑E+a)(c1:a+b<=c):Gq I R E c w f x:=by let(X,rfl):=p;let(Z,hZ):=h.pre;have:=h.r;have:=h.e;exact(h.g,(X++Z,by rw[hZ,yAq],),h.ni.trans n,by omega,by omega,h.w,h.v,)
def Gq.f{I:List Nat -> Prop}{R:List Rw}{E:Es}{c w:Nat}{f f':List Nat->Nat}{x:M3}(h:Gq I R E c w f x)(e:∀ is,I is->f is=f' is):Gq I R E c w f' x:=(h.g,h.pre,h.ni,h.r,h.e,h.w,λ is hi=>(h.v is hi).trans (e is hi),)
def Gq.c{I:List Nat -> Prop}{R:List Rw}{E:Es}{c c' w:Nat}{f:List Nat->Nat}{x:M3}(h:Gq I R E c w f x)(e:c<=c'):Gq I R E c' w f x:=(h.g,h.pre,h.ni,xAh h.r (yDq e _),xAh h.e (yDq e _),h.w,h.v,)
def aR6(h:pC [] R)(hr:pL (wQ R) r):RwOk r (bR r (wQ R))/\∀ a∈r.args.take (bA r.wd),a<↑R:=by
 have:=@aIY _ ↑R _ (wQ R) (λ a v e=>?_) hr
 .exact this
 .have hl:=rE e;have e':=e;rw[yAg,yAb hl] at e';cases e';have:=(nH h).2 a _ (yAb hl);exact(aBI e,this.1,this.2,hl,)
def aKv{I:List Nat -> Prop}{E:Es}(h:Pg I R E)(hr:pL (wQ R) r)(ni:r.wd≠.in):Gq I R E 1 r.w (λ is=>fF r (bR r (wQ R)) (bR r (rn R is))) (↑R,R++[r],E):=by
 let(f1,f2):=aR6 h.ok hr;have fo:=(nH h.ok).1;have sn:=λ is=>aJX fo f2 is
 have vl:∀ is,vlN R is r=fF r (bR r (wQ R)) (bR r (rn R is)):=λ is=>if_neg ni
 have new:∀ is,g0 (rn (R++[r]) is) ↑R=fF r (bR r (wQ R)) (bR r (rn R is)):=λ is=>by
  rw[sn,vl,<- xC R is,aKR]
 have we:(wQ (R++[r]))[↑R]?=qz r.w:=by
  unfold wQ;rw[yAg,aDQ];rfl
 refine((aCO h.ok (by rw[yEu];exact hr),λ is hi q v hv=>?_,λ p hp=>aJp (h.mi p hp),),(_,rfl,),?_,by simp,yGo _,we,λ is _=>new is,)
 .by_cases c:q<↑R
  .rw[xD fo is c];refine h.bd is hi q v ?_;unfold wQ at hv ⊢;rw[yAk,xAm (by rw[yAa];exact c)] at hv;exact hv
  .have:q=↑R:=by have:=rE hv;simp at this;omega
   subst this;rw[we] at hv;cases hv;dsimp only;rw[new is];exact aLd f1 (aDM (λ i a w h1 h2=>by rw[<- aBI h1];exact h.bd is hi i w h2) _ λ a ha=>(by rw[xC];exact f2 a ha,by rw[yAa];exact f2 a ha,))
 .rw[yBd,show [r].filter cE=[] by rw[yCj,show cE r=false from dqF ni];rfl,yAx]
def aUm(a b:Wd)(h:a.s=b.s):a=b:=by have e:=cG a b;rw[<- h,cG a a,dqT rfl] at e;exact oqT (PyData.bool.inj (Option.some.inj e)).symm
def aSz(h:jK q=jK r):q=r:=by
 let(a,b,c):=q;let(a',b',c'):=r;unfold jK at h;let(h1,h):=List.cons.inj h;let(h2,h3):=List.cons.inj h;have e1:a=a':=aUm _ _ (Sum.inr.inj h1);have e2:b=b':=by have:=Sum.inl.inj h2;omega
 have e3:c=c':=(List.map_inj_right (λ x y hxy=>by have:=Sum.inl.inj hxy;omega)).mp h3;rw[e1,e2,e3]
def aJb{I:List Nat -> Prop}{E:Es}(h:Pg I R E)(hr:pL (wQ R) r)(ni:r.wd≠.in):Gq I R E 1 r.w (λ is=>fF r (bR r (wQ R)) (bR r (rn R is))) (iI R E r):=by
 unfold iI;cases hv:eU (hV E) (jK r) with
 |none=>
   have a:=aKv h hr ni;refine((a.g.ok,a.g.bd,λ p hp=>?_,),a.pre,a.ni,a.r,by simp,a.w,a.v,);rcases List.mem_append.mp hp with hp|hp
   .exact a.g.mi p hp
   .obtain rfl:=List.mem_singleton.mp hp;exact aDQ R r
 |some i=>
   unfold eU hV at hv;let(p,h1,h2):=Option.map_eq_some_iff.mp hv;have hm:=List.mem_of_find?_eq_some h1;have hk:=List.find?_some h1;let(q,hq,rfl):=List.mem_map.mp hm;have g1:=h.mi q hq;rw[aSz (oqT hk:jK q.1=jK r)] at g1;subst h2;exact(h,([],by simp,),rfl,yGo _,yGo _,(by unfold wQ;rw[yAg];show Option.map _ R[q.2]?=_;rw[g1];rfl),λ is _=>aBI (aLi (nH h.ok).1 is g1 ni),)
def jn(s:Sw)(x y:Nat):Nat:=match s with|.add=>x+y|_=>x*y
def hf(w k:Nat):Ft:=(bZ (w-k) w,0,max 1 (w-k),)
def nx(s:Sw)(w a b:Nat):Nat:=min w (bl (jn s (2^a-1) (2^b-1)))
def aD5(s:Sw)(x y:Nat):jn s x y=jn s y x:=by
 cases s
 .exact yHh ..
 .exact yGh ..
 .exact yGh ..
def tH(h:k<=w):(bZ (w-k) w)[i]! =(decide (k<=i)&&decide (i<w)):=by rw[nA,yGk h]
def aDN(w:Nat):bZ (w-w) w=0:=by unfold bZ;rw[yBb,yHe,Nat.xor_self]
def qV(k:Nat):bl (2^k-1)=k:=aC7 (aAV k) (by
 rcases k with _|k
 .exact .inl rfl
 .exact .inr (by rw[fA,dqT ()]))
def aY2(hk:k<=w):tr (bZ (w-k) w) w=w-k:=by unfold tr bZ;rw[Nat.xor_comm,<- Nat.xor_assoc,Nat.xor_self,yIi,yGk hk,qV]
def aFg(hk:k<=w)(h1:1<=A)(h2:A<=max 1 (w-k)):fJ (bZ (w-k) w,0,A,) w=hf w k:=by
 have u0:cP 0 A w=0:=by
  unfold cP;rw[yHj,if_pos rfl]
 have u1:cP (bZ (w-k) w) A w=bZ (w-k) w:=by
  unfold cP;split
  .rfl
  .rename_i c;have e:k≠w:=λ e=>c (by rw[e,aDN,yHj])
   apply xAl;intro i;rw[xAo,tH hk,nA,<- Bool.and_or_distrib_right];congr 1;by_cases q:w-A<=i
   .rw[dqT (show k<=i by omega)];rfl
   .rw[dqF q,yFq]
 have t0:tr 0 w=0:=by
  unfold tr;rw[yIi,qV,yBb]
 show Ft.mk (cP (bZ (w-k) w) A w) (cP 0 A w) (rT A (tr (cP (bZ (w-k) w) A w) w) (tr (cP 0 A w) w))=_;rw[u0,u1,t0,aY2 hk];unfold hf rT;congr 1;omega
def lr0{n:Nat}(h:n[0]! =false):lr n=0:=by
 rcases Nat.eq_zero_or_pos (lr n) with z|z
 .exact z
 .rw[wO z] at h;cases h
def aJG(ha:a<=w):2^w-1-bZ (w-a) w=2^a-1:=by rw[aTh (yDv _ _),yGk ha];have:=yAh (show 0<2 by decide) ha;have:=xAe a;omega
def mG(h:1<=a)(ha:a<=w):(bZ (w-a) w)[0]! =false:=by rw[tH ha,dqF (),yBl]
def aEW(ha:a<=w)(hw:1<=w):FtOk (hf w a) w:=(aD6 _ _,xAe w,yBq ..,by show max 1 (w-a)<=w;omega,)
def aUZ(hs:s≠.sub)(h1:1<=a)(h2:1<=b):2^a-1<=jn s (2^a-1) (2^b-1):=by
 have:=yAh (show 0<2 by decide) h2;cases s with
 |add=>exact yFh ..|sub=>exact absurd rfl hs|mul=>exact Nat.le_mul_of_pos_right _ ()
def aBR(hs:s≠.sub)(h1:1<=a)(h2:1<=b)(ha:a<=w):a<=nx s w a b:=by refine Nat.le_min.mpr (ha,?_,);apply Decidable.byContradiction;intro c;have h:=mC (jn s (2^a-1) (2^b-1));have:=aUZ hs h1 h2;have:=yAh (show 0<2 by decide) (show bl (jn s (2^a-1) (2^b-1))+1<=a by omega);rw[yFn] at this;have:=xAe (bl (jn s (2^a-1) (2^b-1)));omega
def aUr(hs:s≠.sub)(h1:1<=a)(ha:a<=w)(h2:1<=b)(hb:b<=w):fV s w (hf w a) (hf w b)<=fS s w (hf w a) (hf w b)/\∃ A,1<=A/\A<=max 1 (w-nx s w a b)/\sA s w (hf w a) (hf w b)=⟨bZ (w-nx s w a b) w,0,A⟩:=by
 have eL:fV s w (hf w a) (hf w b)=0:=by
  cases s with
  |add=>rfl|sub=>exact absurd rfl hs|mul=>rfl
 have eH:fS s w (hf w a) (hf w b)=((jn s (2^a-1) (2^b-1):Nat):Int):=by
  have x:=aJG ha;have y:=aJG hb;cases s with
  |add=>
    show((2^w-1-bZ (w-a) w:Nat):Int)+((2^w-1-bZ (w-b) w:Nat):Int)=_;rw[x,y];exact(Int.natCast_add ..).symm
  |sub=>exact absurd rfl hs
  |mul=>
    show((2^w-1-bZ (w-a) w:Nat):Int)*((2^w-1-bZ (w-b) w:Nat):Int)=_;rw[x,y];exact(yEw ..).symm
 have l0:gD (hf w a) (hf w b)=0:=lr0 (by
  show((bZ (w-a) w|||0)&&&(bZ (w-b) w|||0))[0]! =false
  rw[Nat.or_zero,yAy,mG h1 ha,yBl])
 have o0:jE s (hf w a) (hf w b)=0:=by
  unfold jE;rw[l0];have:=nN (s.oc ((hf w a).O:Nat) ((hf w b).O:Nat)) 0;omega
 have n0:pW s (hf w a) (hf w b)=0:=by
  unfold pW;rw[l0,o0];rfl
 have ln:qI s w (hf w a) (hf w b)=0:=by
  cases s with
  |add=>rfl|sub=>rfl
  |mul=>
    show 2^min w (lr (bZ (w-a) w)+lr (bZ (w-b) w))-1=0;rw[lr0 (mG h1 ha),lr0 (mG h2 hb),Nat.min_zero]
 have tn:oS s w (hf w a) (hf w b)=bZ (w-nx s w a b) w/\oF s w (hf w a) (hf w b)=0:=by
  unfold oS oF nx;rw[eL,eH];have hb:=mC (jn s (2^a-1) (2^b-1));generalize jn s (2^a-1) (2^b-1)=H at hb;have pw:=xAe w;by_cases c:H<2^w
  .rw[if_neg (),if_neg (),yAu,yDe (mD c)];unfold sW nR tP bZ;rw[show(0:Int).toNat=0 from rfl,Nat.and_zero,Nat.xor_zero,yIi,yGk (mD c)];exact(rfl,rfl,)
  .rw[if_pos (),if_pos (),yDr,aDN]
   .exact(rfl,rfl,)
   .apply Decidable.byContradiction;intro q;have:=yAh (show 0<2 by decide) (show bl H<=w by omega);omega
 refine(by rw[eL,eH];exact yEn _,kB s (hf w a) (hf w b),?_,?_,?_,)
 .cases s with|add=>exact yBq ..|sub=>exact absurd rfl hs|mul=>exact yAc _
 .cases s with
  |add=>
    have le:bl (jn .add (2^a-1) (2^b-1))<=max a b+1:=mD (by
     have:=yAh (show 0<2 by decide) (yBq a b);have:=yAh (show 0<2 by decide) (Nat.le_max_right a b)
     have:=xAe a;show 2^a-1+(2^b-1)<_;rw[yFn];omega)
    show max 1 (min (max 1 (w-a)) (max 1 (w-b))-1)<=max 1 (w-min w (bl (jn .add (2^a-1) (2^b-1))));omega
  |sub=>exact absurd rfl hs|mul=>exact yBq ..
 .unfold sA;rw[n0,o0,ln,tn.1,tn.2,Nat.zero_or,Nat.or_zero];rfl
def aS6(ha:a<=w):fJ (jB a w fU) w=hf w a:=by
 have:jB a w fU=(bZ (w-a) w,0,1,):=by
  unfold jB;rw[show fU.N=0 from rfl,Nat.zero_or,show fU.A=1 from rfl,ite_self];rfl
 rw[this];exact aFg ha (yAc _) (yBq ..)
def aXf(ha:a<=w)(ht:t<=w):fJ (nW w t (hf w a)) t=hf t (min t a):=by
 have:nW w t (hf w a)=(bZ (t-min t a) t,0,max 1 (max 1 (w-a)-(w-t)),):=by
  unfold nW;rw[show(hf w a).O=0 from rfl,yHj];congr 1;apply xAl;intro i;rw[show(hf w a).N=bZ (w-a) w from rfl,yAy,tH ha,tH (yBh ..),fA];by_cases c:i<t
  .rw[dqT c,dqT (show i<w by omega),yDh,yDh,yDh,decide_eq_decide];omega
  .rw[dqF c,yCu,yCu]
 rw[this];exact aFg (yBh ..) (yBq ..) ()
def aTP(w:Nat):hf w w=fU:=by unfold hf;rw[aDN,yBb];rfl
def aI5{f g:Ft}(h:f.d=g.d):f=g:=by
 let(a,b,c):=f;let(a',b',c'):=g;have h:yAn [.int a,.int b,.int c]=yAn [.int a',.int b',.int c']:=h;injection h with h
 injection h with h1 h
 injection h with h2 h
 injection h with h3
 injection h1 with h1
 injection h2 with h2
 injection h3 with h3
 rw[Int.ofNat.inj h1,Int.ofNat.inj h2,Int.ofNat.inj h3]
def fct{r:Rw}{g:Ft}(rl:∀ d S,cl fns (d+7) 47 [.d r.d,.d (ws*>nD),.d (Fs*>Ft.d)] S=qz (.d g.d,S))(X:Ft)(hX:FtOk X r.w)(h2:r.w<=64)(ho:∀ d S,cl fns (d+6) 46 [.d r.d,.d (ws*>nD),.d (Fs*>Ft.d)] S=qz (.d X.d,S)):g=fJ X r.w:=by
 have e1:=rl 0 [];have e2:=aA4 3 _ _ _ [] r.w X (jQ r) (ho 0 []) hX h2;have e2:cl fns 7 47 [.d r.d,.d (ws*>nD),.d (Fs*>Ft.d)] []=qz (.d (fJ X r.w).d,[]):=e2;have e1:cl fns 7 47 [.d r.d,.d (ws*>nD),.d (Fs*>Ft.d)] []=qz (.d g.d,[]):=e1;rw[e1] at e2;have e3:=congrArg Prod.fst (Option.some.inj e2);have e3:W.d g.d=W.d (fJ X r.w).d:=e3;injection e3 with e3
 exact aI5 e3
def bI(W B k:Nat):Nat:=if k=0 then W else B+k-1
def fG(s:Sw)(tp W B k:Nat):Rw:=(s.wd,tp,if k%2=0 then [bI W B k,W+1+k] else [W+1+k,bI W B k],)
def vB(u tp:Nat)(r:Rw):Prop:=r=(.num,tp,[1],)\/r=(.in,1,[],)\/r=(.not,u,[0],)\/r=(.sub,u,[0,0],)
structure Ch(s:Sw)(n u tp t W B:Nat)(rs:List Rw)(o Z:Nat):Prop where
 ns:s≠.sub
 n1:1<=n
 n2:n<=13
 u1:1<=u
 ut:u<=tp
 tp2:tp<=64
 t1:1<=t
 tt:t<=tp
 ins:∀ k,k<n->rs[k]?=qz ⟨.in,u,[]⟩
 wid:(W=n/\B=2*n/\∀ k,k<n->rs[n+k]?=qz ⟨.wide,tp,[k]⟩)\/(W=0/\B=n/\u=tp)
 wks:∀ k,k+1<n->rs[B+k]?=qz (fG s tp W B k)
 out:(o=B+(n-1)/\Z=o+1/\rs[o]?=qz (.cut,t,[bI W B (n-1)],))\/(o=bI W B (n-1)/\Z=B+(n-1)/\t=tp)
 idl:∀ j r,Z<=j->rs[j]?=qz r->vB u tp r
 len:↑rs<=40
def qZ(s:Sw)(tp W B k:Nat):∃ a b,fG s tp W B k=⟨s.wd,tp,[a,b]⟩/\((a=bI W B k/\b=W+1+k)\/(a=W+1+k/\b=bI W B k)):=by
 unfold fG;by_cases c:k%2=0
 .exact(_,_,by rw[if_pos c],.inl (rfl,rfl,),)
 .exact(_,_,by rw[if_neg c],.inr (rfl,rfl,),)
def aBq(s:Sw)(w a b:Nat)(l:List Nat):bR (s.wd,w,[a,b],) l=[g0 l a,g0 l b]:=by cases s<;>rfl
def aEB(s:Sw)(w a b:Nat)(F:List Ft):fH (s.wd,w,[a,b],) F=[f0 F a,f0 F b]:=by cases s<;>rfl
def aXa(s:Sw)(a b:Nat):[a,b].take (bA s.wd)=[a,b]:=by cases s<;>rfl
def aIR:∀ rs:List Rw,∃ is,eD rs is
 |[]=>([],rfl,)
 |r::rs=>by
   let(is,h):=aIR rs;by_cases c:r.wd=.in
   .refine(0::is,?_,);rw[eD,if_pos c];exact(0,is,rfl,xAe _,h,)
   .refine(is,?_,);rw[eD,if_neg c];exact h
section
variable {s:Sw}{n u tp t W B o Z:Nat}{rs:List Rw}(h:Ch s n u tp t W B rs o Z)
include h
theorem Ch.wbn:W+n<=B:=by rcases h.wid with ⟨a,b,_⟩|⟨a,b,_⟩<;>omega
theorem Ch.zB:B+(n-1)<=Z/\Z<=B+n:=by have:=h.n1;rcases h.out with ⟨a,b,_⟩|⟨_,b,_⟩<;>omega
theorem Ch.at(hr:rs[j]?=qz r):(j<n/\r=(.in,u,[],))\/(W=n/\∃ k,k<n/\j=n+k/\r=⟨.wide,tp,[k]⟩)\/(∃ k,k+1<n/\j=B+k/\r=fG s tp W B k)\/(j=o/\o=B+(n-1)/\r=⟨.cut,t,[bI W B (n-1)]⟩)\/(Z<=j/\vB u tp r):=by
 have n1:=h.n1;have is:∀ {q:Rw},rs[j]?=qz q->r=q:=λ e=>Option.some.inj (hr.symm.trans e)
 by_cases c:j<n
 .exact .inl (c,is (h.ins j c),)
 by_cases c2:j<B
 .rcases h.wid with ⟨a,b,e⟩|⟨_,b,_⟩
  .refine .inr (.inl (a,j-n,by omega,by omega,is ?_,));have:=e (j-n) ();rw[show n+(j-n)=j by omega] at this;exact this
  .omega
 by_cases c3:j<B+(n-1)
 .refine .inr (.inr (.inl (j-B,by omega,by omega,is ?_,)));have:=h.wks (j-B) ();rw[show B+(j-B)=j by omega] at this;exact this
 rcases h.out with ⟨a,b,e⟩|⟨_,b,_⟩
 .by_cases c4:j=o
  .exact .inr (.inr (.inr (.inl (c4,a,is (by rw[c4];exact e),))))
  .exact .inr (.inr (.inr (.inr (by omega,h.idl j r () hr,))))
 .exact .inr (.inr (.inr (.inr (by omega,h.idl j r () hr,))))
theorem Ch.rW(hk:k<n):∃ r,rs[W+k]?=qz r/\r.w=tp:=by
 rcases h.wid with ⟨rfl,_,e⟩|⟨rfl,_,e⟩
 .exact(_,e k hk,rfl,)
 .exact(_,by rw[yBz];exact h.ins k hk,e,)
theorem Ch.rL(hk:k<n):(∃ r,rs[bI W B k]?=qz r/\r.w=tp)/\bI W B k<B+k:=by
 have:=h.wbn;unfold bI;by_cases c:k=0
 .rw[if_pos c];exact(h.rW (k:=0) (),by omega,)
 .rw[if_neg c];let(a,b,e,_):=qZ s tp W B (k-1);have q:=h.wks (k-1) ();rw[e,show B+(k-1)=B+k-1 by omega] at q;exact((_,q,rfl,),by omega,)
theorem Ch.prg:Prg rs:=by
 let(n1,u1,ut,tp2,t1,tt,wbn,zB):=((h.n1,h.u1,h.ut,h.tp2,h.t1,h.tt,h.wbn,h.zB,):_/\_/\_/\_/\_/\_/\_/\_);have two:∀ (s:Sw) (w a b j:Nat),g0 (~~~rs) a=w->g0 (~~~rs) b=w->a<j->b<j->1<=w->w<=64->RwOk ⟨s.wd,w,[a,b]⟩ (bR ⟨s.wd,w,[a,b]⟩ (~~~rs))/\∀ x∈[a,b].take (bA s.wd),x<j:=λ s w a b j ea eb la lb h1 h2=>by
  rw[aBq,ea,eb,aXa];refine(.sm h1 h2,λ x hx=>?_,);rcases List.mem_cons.mp hx with rfl|hx
  .exact la
  .rw[List.mem_singleton.mp hx];exact lb
 have one:∀ {wd:Wd}{a j:Nat},bA wd=1->a<j->∀ x∈yIe (bA wd) [a],x<j:=λ e la x hx=>by
  rw[e] at hx;rw[List.mem_singleton.mp hx];exact la
 have fit:kS rs:=λ j r hr=>by
  rcases h.at hr with ⟨hj,rfl⟩|⟨_,k,hk,rfl,rfl⟩|⟨k,hk,rfl,rfl⟩|⟨rfl,ho,rfl⟩|⟨hj,rfl|rfl|rfl|rfl⟩
  .exact⟨.inp u1 (),λ a ha=>by cases ha⟩
  .refine(?_,one rfl (),);show RwOk _ [g0 (~~~rs) k];rw[eV (h.ins k hk)];exact .wide u1 ut tp2
  .let(a,b,e,ab):=qZ s tp W B k;rw[e];let((r1,h1,w1),l1):=h.rL (k:=k) ();let(r2,h2,w2):=h.rW (k:=k+1) ();rw[show W+(k+1)=W+1+k by omega] at h2;have e1:=(eV h1).trans w1;have e2:=(eV h2).trans w2;rcases ab with ⟨rfl,rfl⟩|⟨rfl,rfl⟩
   .exact two s tp _ _ _ e1 e2 l1 () () tp2
   .exact two s tp _ _ _ e2 e1 () l1 () tp2
  .let((r1,h1,w1),l1):=h.rL (k:=n-1) ();refine(?_,one rfl (),);show RwOk _ [g0 (~~~rs) (bI W B (n-1))];rw[eV h1,w1];exact .cut t1 tt tp2
  .exact⟨.num () tp2 (Nat.one_lt_two_pow ()),λ a ha=>by cases ha⟩
  .exact⟨.inp (yAc 1) (),λ a ha=>by cases ha⟩
  .refine(?_,one rfl (),);show RwOk _ [g0 (~~~rs) 0];rw[eV (h.ins 0 n1)];exact .nt u1 ()
  .have e:=eV (h.ins 0 n1);exact two .sub u 0 0 _ e e () () u1 ()
 refine(by have:=h.len;omega,fit,aIR rs,λ j r hr=>?_,);rcases h.at hr with ⟨hj,rfl⟩|⟨_,k,hk,rfl,rfl⟩|⟨k,hk,rfl,rfl⟩|⟨rfl,ho,rfl⟩|⟨hj,rfl|rfl|rfl|rfl⟩
 .exact(u1,(by omega:u<=64),)
 .exact((by omega:1<=tp),tp2,)
 .exact((by omega:1<=tp),tp2,)
 .exact(t1,(by omega:t<=64),)
 .exact((by omega:1<=tp),tp2,)
 .exact(yAc 1,(by decide:1<=64),)
 .exact(u1,(by omega:u<=64),)
 .exact(u1,(by omega:u<=64),)
omit h in
def kb(s:Sw)(tp u:Nat):Nat->Nat
 |0=>u|k+1=>nx s tp (kb s tp u k) u
theorem Ch.kbd(k:Nat):u<=kb s tp u k/\kb s tp u k<=tp:=by
 induction k with
 |zero=>exact(yAc _,h.ut,)|succ k ih=>exact(xAh ih.1 (aBR h.ns (xAh h.u1 ih.1) h.u1 ih.2),yBh ..,)
variable {F:List Ft}(hF:↑F=↑rs)(ow:oJ rs F)
include hF ow
theorem Ch.fIn(hr:rs[k]?=qz (.in,w,[],))(w1:1<=w)(w2:w<=64):f0 F k=fU:=by
 have hk:k<↑F:=by have:=(gIm hr).1;omega
 let(g,rfl,nx):=ow k _ hk hr;have e:=nx.rule 0 [];have e2:cl fns 7 47 [.d (Rw.mk .in w []).d,.d (.tuple []),.d (.tuple [])] []=qz (.d fU.d,[]):=aI7 3 w w1 w2 [];have e3:=congrArg Prod.fst (Option.some.inj (e.symm.trans e2));injection e3 with e3
 exact aI5 e3
theorem Ch.fW(hk:k<n):f0 F (W+k)=hf tp u:=by
 have:=h.tp2;have:=h.ut;rcases h.wid with ⟨rfl,_,e⟩|⟨rfl,_,e⟩
 .have hr:=e k hk;have hl:W+k<↑F:=by have:=(gIm hr).1;omega
  let(g,rfl,nx):=ow _ _ hl hr;have rl:=nx.rule;rw[show bR (.wide,tp,[k],) (~~~rs)=[u] from congrArg (λ x=>[x]) (eV (h.ins k hk)),show fH (.wide,tp,[k],) F=[fU] from congrArg (λ x=>[x]) (h.fIn hF ow (h.ins k hk) h.u1 ())] at rl;have hn:FtOk fU u:=(xAe u,xAe u,yAc 1,h.u1,);rw[fct rl (jB u tp fU) (aKm hn rfl h.u1 h.ut) h.tp2 λ d S=>aAR (d+5) _ _ _ (tp:Nat) S .wide (.inr (.inl rfl)) fU (u:Nat) _ rfl rfl rfl rfl (aIW (d+2) u tp fU h.ut h.tp2 S)];exact aS6 h.ut
 .rw[yBz,h.fIn hF ow (h.ins k hk) h.u1 (),e,aTP]
theorem Ch.fK:∀ k,k<n->f0 F (bI W B k)=hf tp (kb s tp u k)
 |0,hk=>h.fW hF ow hk
 |k+1,hk=>by
   have ih:=Ch.fK k ();have iw:=h.fW hF ow hk;rw[show W+(k+1)=W+1+k by omega] at iw;have b:=h.kbd k;have u1:=h.u1;have hr:=h.wks k hk;have hl:B+k<↑F:=by have:=(gIm hr).1;omega
   let(x,y,e,ab):=qZ s tp W B k;rw[e] at hr;let(g,eg,nx):=ow _ _ hl hr;have rl:=nx.rule;let((r1,h1,w1),_):=h.rL (k:=k) ();let(r2,h2,w2):=h.rW (k:=k+1) hk;rw[show W+(k+1)=W+1+k by omega] at h2;have e1:=(eV h1).trans w1;have e2:=(eV h2).trans w2;have tp2:=h.tp2;have go:∀ p q,1<=p->p<=tp->1<=q->q<=tp->f0 F x=hf tp p->f0 F y=hf tp q->g0 (~~~rs) x=tp->g0 (~~~rs) y=tp->g=hf tp (K95.nx s tp p q):=λ p q p1 p2 q1 q2 fx fy wx wy=>by
    rw[aBq,aEB,fx,fy,wx,wy] at rl;let(bd,A,a1,a2,es):=aUr h.ns p1 p2 q1 q2;have ho:=λ d S=>aIS d (Rw.mk s.wd tp [x,y]).d (.tuple ([tp,tp].map nD)) (.tuple ([hf tp p,hf tp q].map Ft.d)) tp S s (hf tp p) (hf tp q) rfl rfl rfl rfl (aEW p2 ()) (aEW q2 ()) bd tp2
    rw[es] at ho;rw[fct rl _ (aD6 _ _,xAe tp,a1,xAh a2 (by show max 1 (tp-_)<=tp;omega),) tp2 ho];exact aFg (yBh ..) a1 a2
   rw[show bI W B (k+1)=B+k by unfold bI;rw[if_neg ()];omega,<- eg];rcases ab with ⟨rfl,rfl⟩|⟨rfl,rfl⟩
   .exact go _ _ () b.2 u1 h.ut ih iw e1 e2
   .rw[go _ _ u1 h.ut () b.2 iw ih e2 e1];show hf tp (K95.nx s tp u (kb s tp u k))=hf tp (K95.nx s tp (kb s tp u k) u);unfold K95.nx;rw[aD5]
theorem Ch.fC(ho:o=B+(n-1))(hr:rs[o]?=qz (.cut,t,[bI W B (n-1)],)):f0 F o=hf t (min t (kb s tp u (n-1))):=by
 have hl:o<↑F:=by have:=(gIm hr).1;omega
 have n1:=h.n1;have tp2:=h.tp2;have tt:=h.tt;have t1:=h.t1;let(g,rfl,nx):=ow _ _ hl hr;have rl:=nx.rule;let((r1,h1,w1),_):=h.rL (k:=n-1) ();have b:=(h.kbd (n-1)).2;rw[show bR (.cut,t,[bI W B (n-1)],) (~~~rs)=[tp] from congrArg (λ x=>[x]) ((eV h1).trans w1),show fH (.cut,t,[bI W B (n-1)],) F=[hf tp (kb s tp u (n-1))] from congrArg (λ x=>[x]) (h.fK hF ow (n-1) ())] at rl;have hk:=aEW b (by omega:1<=tp);rw[fct rl (nW tp t _) (aKJ hk (Nat.and_zero _) () h.t1 tt) (by show t<=64;omega) λ d S=>aAR (d+5) _ _ _ (t:Nat) S .cut (.inl rfl) _ (tp:Nat) _ rfl rfl rfl rfl (aK2 (d+3) tp t _ tt () S)];exact aXf b tt
end
def aYz{wd:Wd}(fZ:wd=.in\/wd=.num\/wd=.not\/wd=.cut\/wd=.wide\/wd=.add\/wd=.sub\/wd=.mul)(hm:m<2^t)(x:Nat)(hx:x∈fQ wd w kk ws fs m):x<2^t:=by
 have pw:=xAe t;have fl:∀ z,z<=bl m->2^z-1<2^t:=λ z hz=>by
  have:=yAh (show 0<2 by decide) (xAh hz (mD hm));have:=xAe z;omega
 have one:∀ {y:Nat},y<2^t->x∈[y]->x<2^t:=λ h e=>by rw[List.mem_singleton.mp e];exact h
 have two:∀ {y z:Nat},y<2^t->z<2^t->x∈[y,z]->x<2^t:=λ h h' e=>by
  rcases List.mem_cons.mp e with rfl|e
  .exact h
  .exact one h' e
 unfold fQ at hx;split at hx
 .rw[(List.mem_replicate.mp hx).2];exact pw
 .rcases fZ with rfl|rfl|rfl|rfl|rfl|rfl|rfl|rfl
  .cases hx
  .cases hx
  .exact one hm hx
  .exact one hm hx
  .exact one (xAi yEv hm) hx
  .exact two (fl _ (yAc _)) (fl _ (yAc _)) hx
  .exact two (fl _ (yAc _)) (fl _ (yAc _)) hx
  .exact two (fl _ (yDv _ _)) (fl _ (yDv _ _)) hx
def Mq(t Z:Nat)(M:List Nat):Prop:=∀ i,M.getD i 0<2^t/\(Z<=i->M.getD i 0=0)
def aK9(h:Mq t Z M)(ha:a<Z)(hv:v<2^t):Mq t Z (M.set a v):=λ i=>by
 by_cases c:a=i
 .subst c;refine(?_,λ z=>by omega,);by_cases l:a<↑M
  .rw[sP l];exact hv
  .rw[yDb ()];exact(h a).1
 .rw[vS c];exact h i
def aLS:∀ (l:List (Nat×Nat)) {M:List Nat},Mq t Z M->(∀ q∈l,q.1<Z/\q.2<2^t)->Mq t Z (l.foldl dP M)
 |[],M,h,_=>h
 |q::l,M,h,hq=>by
   let(q1,q2):=hq q xAc;exact aLS l (aK9 h q1 (yCr (h q.1).1 q2)) λ z hz=>hq z (xAf _ hz)
def aJZ(h:Sb (2^t-1) x)(hx:x<2^t):x=2^t-1:=by have:2^t-1<=x:=aD0 h;omega
section
variable {s:Sw}{n u tp t W B o Z:Nat}{rs:List Rw}(h:Ch s n u tp t W B rs o Z)
include h
theorem Ch.oZ:o<Z:=by
 have:=h.n1;rcases h.out with ⟨a,b,_⟩|⟨a,b,_⟩
 .omega
 .have:=(h.rL (k:=n-1) ()).2;omega
theorem Ch.ow:∃ r,rs[o]?=qz r/\r.w=t:=by
 have:=h.n1;rcases h.out with ⟨a,b,e⟩|⟨a,b,e⟩
 .exact(_,e,rfl,)
 .let(r,h1,h2):=(h.rL (k:=n-1) ()).1;exact(r,by rw[a];exact h1,h2.trans e.symm,)
theorem Ch.mqR(hk:k<↑rs)(q:Mq t Z M):Mq t Z (gX rs F M k):=by
 have p:=h.prg;have oz:=h.oZ;obtain⟨r,hr⟩:∃ r,rs[k]?=qz r:=(_,yAb hk,);rw[aA7 hr];have f2:=(p.fit k r hr).2;have wdr:r.wd=.in\/r.wd=.num\/r.wd=.not\/r.wd=.cut\/r.wd=.wide\/r.wd=.add\/r.wd=.sub\/r.wd=.mul:=by
  rcases h.at hr with ⟨_,rfl⟩|⟨_,_,_,_,rfl⟩|⟨_,_,_,rfl⟩|⟨_,_,rfl⟩|⟨_,rfl|rfl|rfl|rfl⟩
  .exact .inl rfl
  .simp
  .show s.wd=.in\/_;cases s<;>simp[Sw.wd,fG]
  .simp
  .simp
  .simp
  .simp
  .simp
 refine aLS _ q λ x hx=>?_
 have hx:=yGp (a:=x.1) (b:=x.2) hx;refine(?_,aYz wdr (q k).1 _ hx.2,);have lt:=f2 x.1 hx.1;rcases yId k Z with c|c
 .omega
 .have z:∀ a∈eY r,a=0:=by
   rcases h.idl k r c hr with rfl|rfl|rfl|rfl
   .intro a ha;cases ha
   .intro a ha;cases ha
   .intro a ha;exact List.mem_singleton.mp ha
   .intro a ha;rcases List.mem_cons.mp ha with e|e
    .exact e
    .exact List.mem_singleton.mp e
  rw[z _ hx.1];omega
theorem Ch.mqK:∀ (k:Nat) (M:List Nat),k<=↑rs->Mq t Z M->Mq t Z (iQ rs F k M)
 |0,M,_,q=>q|k+1,M,hk,q=>Ch.mqK k _ () (h.mqR () q)
omit h in
theorem aK5(hs:s≠.sub)(t1:1<=t)(p1:1<=p)(p2:p<=tp)(q1:1<=q)(q2:q<=tp)(ea:f0 F a=hf tp p)(eb:f0 F b=hf tp q):iW rs F (s.wd,tp,[a,b],) (2^t-1)=[(a,2^t-1),(b,2^t-1)]:=by
 have m0:2^t-1≠0:=by have:=yAh (show 0<2 by decide) t1;omega
 cases s with
 |sub=>exact absurd rfl hs
 |add=>
   show [a,b].zip (if 2^t-1=0 then _ else [2^bl (2^t-1)-1,2^bl (2^t-1)-1])=_;rw[if_neg m0,qV];rfl
 |mul=>
   show [a,b].zip (if 2^t-1=0 then _ else [2^(bl (2^t-1)-min (bl (2^t-1)) (lr (f0 F b).N))-1,2^(bl (2^t-1)-min (bl (2^t-1)-min (bl (2^t-1)) (lr (f0 F b).N)) (lr (f0 F a).N))-1])=_;rw[if_neg m0,qV,ea,eb,show(hf tp p).N=bZ (tp-p) tp from rfl,show(hf tp q).N=bZ (tp-q) tp from rfl,lr0 (mG p1 p2),lr0 (mG q1 q2),Nat.min_zero,Nat.min_zero];rfl
structure Ms(t n W B o Z:Nat)(M:List Nat):Prop where
 q:Mq t Z M
 o:M.getD o 0=2^t-1
 l:∀ k,k<n->M.getD (bI W B k) 0=2^t-1
 w:∀ k,k<n->M.getD (W+k) 0=2^t-1
theorem Ch.ms{F:List Ft}(hF:↑F=↑rs)(ow:oJ rs F):Ms t n W B o Z (bG rs F [o]):=by
 have p:=h.prg;let(ro,hro,wo):=h.ow;have ol:=(gIm hro).1;have pw:=xAe t;have t1:=h.t1;have n1:=h.n1;have e0:mO rs [o]=(yAf ↑rs 0).set o (2^t-1):=by
  show(yAf ↑rs 0).set o (2^g0 (~~~rs) o-1)=_;rw[eV hro,wo]
 have q0:Mq t Z (mO rs [o]):=by
  rw[e0];refine aK9 (λ i=>?_) h.oZ ();have:(yAf ↑rs 0).getD i 0=0:=by
   rw[xAg,yCg];split<;>rfl
  exact(by omega,λ _=>this,)
 have bd0:Bd rs (mO rs [o]):=aDT [o] _ (λ x hx=>by rw[List.mem_singleton.mp hx];exact ol) aDG;have q:=h.mqK (F:=F) ↑rs _ (yAc _) q0;have met:=@aIH _ F p ↑rs _ bd0 (yAc _);have ge:=@aDL rs F ↑rs (mO rs [o]) o;show Ms t n W B o Z (iQ rs F ↑rs (mO rs [o]));generalize iQ rs F ↑rs (mO rs [o])=M at q met ge ⊢;have ho:M.getD o 0=2^t-1:=by
  refine aJZ ?_ (q o).1;rw[e0,sP (by rw[yBj];exact ol)] at ge;exact ge
 have got:∀ {j a:Nat}{r:Rw},rs[j]?=qz r->(a,2^t-1)∈iW rs F r (M.getD j 0)->M.getD a 0=2^t-1:=λ {j a r} hr m=>aJZ (met j r (gIm hr).1 hr _ m) (q a).1
 have top:M.getD (bI W B (n-1)) 0=2^t-1:=by
  rcases h.out with ⟨_,_,e⟩|⟨e,_,_⟩
  .refine got e ?_;rw[ho];show(_,_)∈[bI W B (n-1)].zip (if 2^t-1=0 then _ else [2^t-1]);rw[if_neg (by have:=yAh (show 0<2 by decide) t1;omega)];exact List.mem_singleton.mpr rfl
  .rw[<- e];exact ho
 have both:∀ k,k+1<n->M.getD (bI W B (k+1)) 0=2^t-1->M.getD (bI W B k) 0=2^t-1/\M.getD (W+(k+1)) 0=2^t-1:=λ k hk e=>by
  have hr:=h.wks k hk;have i1:=h.fK hF ow k ();have i2:=h.fW hF ow hk;rw[show bI W B (k+1)=B+k by unfold bI;rw[if_neg ()];omega] at e;rw[show W+(k+1)=W+1+k by omega] at i2 ⊢;let(x,y,ew,ab):=qZ s tp W B k;rw[ew] at hr;let(b1,b2):=h.kbd k;have u1:=h.u1;rcases ab with ⟨rfl,rfl⟩|⟨rfl,rfl⟩
  .have ps:=aK5 (rs:=rs) h.ns t1 () b2 u1 h.ut i1 i2;rw[<- e] at ps;exact(got hr (by rw[ps,e];simp),got hr (by rw[ps,e];simp),)
  .have ps:=aK5 (rs:=rs) h.ns t1 u1 h.ut () b2 i2 i1;rw[<- e] at ps;exact(got hr (by rw[ps,e];simp),got hr (by rw[ps,e];simp),)
 have all:∀ i,i<n->M.getD (bI W B (n-1-i)) 0=2^t-1:=λ i=>by
  induction i with
  |zero=>exact λ _=>top|succ i ih=>exact λ hi=>(both (n-1-(i+1)) () (by rw[show n-1-(i+1)+1=n-1-i by omega];exact ih ())).1
 have l:∀ k,k<n->M.getD (bI W B k) 0=2^t-1:=λ k hk=>by
  have:=all (n-1-k) ();rw[show n-1-(n-1-k)=k by omega] at this;exact this
 refine(q,ho,l,λ k hk=>?_,);rcases k with _|k
 .exact l 0 hk
 .exact(both k hk (l (k+1) hk)).2
end
def dz(t j:Nat):((2^t-1)/2^j==0)=decide (t<=j):=by
 have pj:=xAe j;have pt:=xAe t;by_cases c:t<=j
 .have:=yAh (show 0<2 by decide) c;rw[dqT c,Nat.div_eq_of_lt ()];rfl
 .have:=yAh (show 0<2 by decide) (show j+1<=t by omega);rw[yFn] at this;rw[dqF c,beq_eq_false_iff_ne];have:=Nat.div_pos (show 2^j<=2^t-1 by omega) pj;omega
def aMT(hw:1<=w)(hm:m<2^w)(v1:1<=v)(h1:lb y v f m w=true)(h2:∀ j,lb y j f m w=true->v<=j):lw y f m w=v:=by let(_,_,a,b):=aBK y f hw hm;have:=h2 _ a;apply Nat.le_antisymm _ this;apply Decidable.byContradiction;intro c;have:=b v v1 ();rw[h1] at this;cases this
def aER{r:Rw}(ni:r.wd≠.in)(hw:1<=r.w)(t1:1<=t)(tw:t<=r.w)(k1:1<=k)(kw:k<=r.w):∃ y,y≠.sign/\lQ r (hf r.w k) (2^t-1)=qz (y,min t k):=by
 let(wd,w,args):=r;dsimp only at *;have pt:=yAh (show 0<2 by decide) t1;have hm:2^t-1<2^w:=by
  have:=yAh (show 0<2 by decide) tw;omega
 have c1:lw .cut (hf w k) (2^t-1) w=t:=aMT hw hm t1 (by unfold lb;rw[dz,dqT (yAc t)];rfl) λ j hj=>by
  unfold lb at hj;rw[dz,yFq] at hj;exact oqT hj
 have nb:∀ j,lb .nought j (hf w k) (2^t-1) w=true ↔ min t k<=j:=λ j=>by
  show((2^t-1)/2^j==0||cI ((2^t-1)/2^j) (bZ (w-k) w/2^j)==0)=true ↔ _;rw[dz,yDo,decide_eq_true_eq,aC1];constructor
  .rintro (c|c)
   .omega
   .apply Decidable.byContradiction;intro q;have:=c 0 (by rw[yBk,fA,dqT ()]);rw[yBk,tH kw,dqF ()] at this;cases this
  .intro c;by_cases q:t<=j
   .exact .inl q
   .refine .inr λ i hi=>?_
    rw[yBk,fA] at hi;have:=oqT hi;rw[yBk,tH kw,dqT (),dqT ()];rfl
 have c2:lw .nought (hf w k) (2^t-1) w=min t k:=aMT hw hm () ((nb _).mpr (yAc _)) λ j hj=>(nb j).mp hj
 have c3:min t k<=lw .sign (hf w k) (2^t-1) w:=by
  let(_,_,a,_):=aBK .sign (hf w k) hw hm;generalize lw .sign (hf w k) (2^t-1) w=j at a;have a:((2^t-1)/2^j==0||((2^t-1)[(j-1)]!&&decide (w<j+max 1 (w-k))))=true:=a;rw[dz,yDo,decide_eq_true_eq,yBv,decide_eq_true_eq] at a;omega
 have mw:dR (hf w k) (2^t-1) w=min t k:=by
  unfold dR;rw[c1,c2];omega
 refine(lK (hf w k) (2^t-1) w,?_,?_,)
 .unfold lK;rw[mw,c2];split
  .exact λ z=>by cases z
  .rw[if_pos rfl];exact λ z=>by cases z
 .unfold lQ;rw[if_neg ni,if_neg (),mw]
section
variable {s:Sw}{n u tp t W B o Z:Nat}{rs:List Rw}(h:Ch s n u tp t W B rs o Z)
structure Sy(s:Sw)(n u tp t W B:Nat)(rs:List Rw)(o Z:Nat)(Y:List (Option (Yw×Nat))):Prop where
 l:↑Y=↑rs
 i:∀ (k w:Nat),rs[k]?=qz ⟨.in,w,[]⟩->Y[k]?=qz (qz (.cut,w))
 w:W=n->∀ k,k<n->∃ y,y≠.sign/\Y[n+k]?=qz (qz (y,min t u))
 k:∀ k,k+1<n->∃ y,y≠.sign/\Y[B+k]?=qz (qz (y,min t (kb s tp u (k+1))))
 o:o=B+(n-1)->∃ y,y≠.sign/\Y[o]?=qz (qz (y,min t (kb s tp u (n-1))))
 z:∀ j r,Z<=j->rs[j]?=qz r->r.wd≠.in->Y[j]?=qz qx
include h
theorem Ch.sy{F:List Ft}(hF:↑F=↑rs)(ow:oJ rs F):Sy s n u tp t W B rs o Z (gP rs F (bG rs F [o])):=by
 have p:=h.prg;have m:=h.ms hF ow;let(ro,hro,_):=h.ow;have bl:=(aLb (F:=F) p (aN:=[o]) λ x hx=>by rw[List.mem_singleton.mp hx];exact(gIm hro).1).l;generalize bG rs F [o]=M at m bl ⊢;have at_:=λ {k:Nat}{r:Rw} (hr:rs[k]?=qz r)=>aKj hr hF bl
 have u1:=h.u1;have ut:=h.ut;have t1:=h.t1;have tt:=h.tt;have n1:=h.n1;refine(aJz hF bl,λ k w hr=>?_,λ e k hk=>?_,λ k hk=>?_,λ e=>?_,λ j r hj hr ni=>?_,)
 .rw[at_ hr];rfl
 .subst e;rcases h.wid with ⟨_,_,e⟩|⟨e,_,_⟩
  .have hr:=e k hk;let(y,hy,ey):=@aER t u (.wide,tp,[k],) (λ z=>by cases z) (show 1<=tp by omega) t1 tt u1 ut;exact(y,hy,by rw[at_ hr,h.fW hF ow hk,m.w k hk];exact congrArg qz ey,)
  .omega
 .let(a,b,e,_):=qZ s tp W B k;have hr:=h.wks k hk;rw[e] at hr;let(b1,b2):=h.kbd (k+1);have el:bI W B (k+1)=B+k:=by unfold bI;rw[if_neg ()];omega
  have f:=h.fK hF ow (k+1) hk;have mm:=m.l (k+1) hk;rw[el] at f mm;let(y,hy,ey):=@aER t (kb s tp u (k+1)) (s.wd,tp,[a,b],) (λ z=>by cases s<;>cases z) (show 1<=tp by omega) t1 tt () b2;exact(y,hy,by rw[at_ hr,f,mm];exact congrArg qz ey,)
 .rcases h.out with ⟨_,_,hr⟩|⟨e1,_,_⟩
  .let(b1,b2):=h.kbd (n-1);let(y,hy,ey):=@aER t (min t (kb s tp u (n-1))) (.cut,t,[bI W B (n-1)],) (λ z=>by cases z) t1 t1 (yAc _) () (yBh ..);rw[show min t (min t (kb s tp u (n-1)))=min t (kb s tp u (n-1)) by omega] at ey;exact(y,hy,by rw[at_ hr,h.fC hF ow e hr,m.o];exact congrArg qz ey,)
  .have:=(h.rL (k:=n-1) ()).2;omega
 .rw[at_ hr,(m.q j).2 hj];unfold lQ;rw[if_neg ni,if_pos rfl]
end
def dQ(s:Sw)(n u tp W B:Nat)(hw:Bool):List Rw:=yAf n (.in,u,[],)++(if hw=true then (yAo n).map (λ k=>(.wide,tp,[k],)) else [])++(yAo (n-1)).map (fG s tp W B)
structure Pm(s:Sw)(n u tp t:Nat):Prop where
 ns:s≠.sub
 n1:1<=n
 n2:n<=13
 u1:1<=u
 ut:u<=tp
 tp2:tp<=64
 t1:1<=t
 tt:t<=tp
def WB(n u tp W B:Nat)(hw:Bool):Prop:=(hw=true/\W=n/\B=2*n)\/(hw=false/\W=0/\B=n/\u=tp)
def wE{W B:Nat}(e:WB n u tp W B hw):↑(yAf n ((.in,u,[],):Rw)++(if hw=true then (yAo n).map (λ k=>((.wide,tp,[k],):Rw)) else []))=B:=by
 rcases e with ⟨rfl,_,e⟩|⟨rfl,_,e,_⟩
 .simp;omega
 .simp;omega
def aMK{W B:Nat}(p:Pm s n u tp t)(e:WB n u tp W B hw)(hc:(c=[(.cut,t,[bI W B (n-1)],)]/\o=B+(n-1))\/(c=[]/\t=tp/\o=bI W B (n-1)))(ht:∀ r∈tl,vB u tp r)(hl:3*n+↑tl<=40):Ch s n u tp t W B (dQ s n u tp W B hw++c++tl) o (B+(n-1)+↑c):=by
 have bl:=wE e;have n1:=p.n1;have cl:↑c<=1:=by rcases hc with ⟨rfl,_⟩|⟨rfl,_⟩<;>simp
 have b2:B<=2*n/\n<=B:=by rcases e with ⟨_,_,e⟩|⟨_,_,e,_⟩<;>omega
 have pre:∀ {i:Nat}{r:Rw},(yAf n (⟨.in,u,[]⟩:Rw)++(if hw=true then (yAo n).map (λ k=>((.wide,tp,[k],):Rw)) else []))[i]?=qz r->(dQ s n u tp W B hw++c++tl)[i]?=qz r:=λ {i r} h=>by
  unfold dQ;rw[yAq,yAq,xAm (gIm h).1];exact h
 have L:↑(dQ s n u tp W B hw)=B+(n-1):=by
  unfold dQ;rw[yAj,bl,yAa,yAs]
 refine(p.ns,n1,p.n2,p.u1,p.ut,p.tp2,p.t1,p.tt,λ k hk=>pre ?_,?_,λ k hk=>?_,?_,λ j r hj hr=>?_,?_,)
 .rw[xAm (by rw[yBj];exact hk),yCg,if_pos hk]
 .rcases e with ⟨rfl,e1,e2⟩|⟨_,e1,e2,e3⟩
  .refine .inl (e1,e2,λ k hk=>pre ?_,);rw[if_pos rfl,yAd (by rw[yBj];omega),yBj,yBy,yAg,yEg hk];rfl
  .exact .inr (e1,e2,e3,)
 .unfold dQ;rw[yAq,yAq,yAd (),bl,yBy,xAm (by rw[yAa,yAs];omega),yAg,yEg ()];rfl
 .rcases hc with ⟨rfl,e1⟩|⟨rfl,e1,e2⟩
  .refine .inl (e1,by rw[e1];rfl,?_,);rw[e1,yAq,yAd (),L,yBb];rfl
  .exact .inr (e2,rfl,e1,)
 .refine ht r ?_;rw[yAd (by rw[yAj,L];exact hj)] at hr;exact xAk hr
 .rw[yAj,yAj,L];omega
def an0{x:Nat}(t1:1<=t)(h:x[0]! =false):(cI (2^t-1) x==0)=false:=by rw[Bool.eq_false_iff];intro c;have:=aC1.mp c 0 (by rw[fA,dqT ()]);rw[h] at this;cases this
def kn0{wd:Wd}(h4:vA wd=false)(hs:wd≠.same)(t1:1<=t)(k1:1<=k)(kw:k<=w):oQ wd (hf w k) (2^t-1) P=qx:=by unfold oQ;rw[if_neg (beq_eq_false_iff_ne.mp (an0 t1 (by rw[show(hf w k).O=0 from rfl,Nat.or_zero];exact mG k1 kw))),h4,dqF hs];rfl
def aDY{r:Rw}(ni:r.wd≠.in)(nn:r.wd≠.num)(m0:m≠0)(kn:oQ r.wd f m P=qx)(po:mQ r m ws Fs P=qx)(ch:kZ r m Fs P=qx):kE r f m ws Fs P=(.kept,qz (zV r P),qx,):=by unfold kE;rw[if_neg ni,if_neg m0,if_neg nn,kn];dsimp only;rw[po];dsimp only;rw[ch]
def aSE{r:Rw}(ni:r.wd≠.in)(nn:r.wd≠.num)(m0:m≠0)(kn:oQ r.wd f m P=qx)(po:mQ r m ws Fs P=qz i):kE r f m ws Fs P=(.passed,qx,pg P i,):=by unfold kE;rw[if_neg ni,if_neg m0,if_neg nn,kn];dsimp only;rw[po]
def aFE(t1:1<=t):2^t-1≠0:=by have:=yAh (show 0<2 by decide) t1;omega
def aLj{wd:Wd}(fZ:wd=.wide\/wd=.cut)(t1:1<=t)(k1:1<=k)(kw:k<=w):kE (wd,w,[a],) (hf w k) (2^t-1) [v] [f] [p]=if v=w then (.passed,qx,p,) else (.kept,qz [.s wd,.n w,jJ p],qx,):=by
 have m0:=aFE t1;have hn:wd≠.in/\wd≠.num/\vA wd=false/\wd≠.same/\(∀ P,mQ ⟨wd,w,[a]⟩ (2^t-1) [v] [f] P=cond (v==w) (qz 0) qx)/\∀ P,kZ ⟨wd,w,[a]⟩ (2^t-1) [f] P=qx:=by
  rcases fZ with rfl|rfl
  .exact((λ z=>by cases z),(λ z=>by cases z),rfl,(λ z=>by cases z),λ P=>rfl,λ P=>by unfold kZ;rw[if_neg (λ z=>by cases z),if_neg (λ z=>by cases z.1),if_neg (λ z=>by cases z.1)],)
  .exact((λ z=>by cases z),(λ z=>by cases z),rfl,(λ z=>by cases z),λ P=>rfl,λ P=>by unfold kZ;rw[if_neg (λ z=>by cases z),if_neg (λ z=>by cases z.1),if_neg (λ z=>by cases z.1)],)
 let(h1,h2,h3,h4,h5,h6):=hn;have kn:=kn0 (P:=[p]) h3 h4 t1 k1 kw;by_cases c:v=w
 .rw[if_pos c,aSE h1 h2 m0 kn (i:=0) (by rw[h5,beq_iff_eq.mpr c];rfl)];rfl
 .rw[if_neg c,aDY h1 h2 m0 kn (by rw[h5,beq_eq_false_iff_ne.mpr c];rfl) (h6 _)];rfl
def sb0:gO (hf w k) m=qx:=by unfold gO;rw[if_pos (.inl (yHj _))]
def aMl{s:Sw}(hs:s≠.sub){w a b p q k t:Nat}{ws:List Nat}{P:List (Option Nat)}(hP:↑P=2)(t1:1<=t)(k1:1<=k)(kw:k<=w)(p1:1<=p)(pw:p<=w)(q1:1<=q)(qw:q<=w):kE (s.wd,w,[a,b],) (hf w k) (2^t-1) ws [hf w p,hf w q] P=(.kept,qz (zV (s.wd,w,[a,b],) P),qx,):=by
 have np:(cI (2^bl (2^t-1)-1) (hf w p).N==0)=false:=by rw[qV];exact an0 t1 (mG p1 pw)
 have nq:(cI (2^bl (2^t-1)-1) (hf w q).N==0)=false:=by rw[qV];exact an0 t1 (mG q1 qw)
 cases s with
 |sub=>exact absurd rfl hs
 |add=>
   refine aDY (λ z=>by cases z) (λ z=>by cases z) (aFE t1) (kn0 rfl (λ z=>by cases z) t1 k1 kw) ?_ ?_
   .show cond (decide (↑P=2)&&(cI (2^bl (2^t-1)-1) (hf w q).N==0)) (qz 0) (cond (true&&(cI (2^bl (2^t-1)-1) (hf w p).N==0)) (qz 1) qx)=qx;rw[np,nq,yCu,yCu];rfl
   .unfold kZ;rw[if_neg (λ z=>by cases z),if_neg,if_neg (λ z=>by cases z.1)];rintro ⟨_,z⟩;have z:cI (2^bl (2^t-1)-1) ((hf w p).N|||(hf w q).N)=0:=z;rw[qV] at z;exact absurd z (beq_eq_false_iff_ne.mp (an0 t1 (by rw[xAo,show(hf w p).N=bZ (w-p) w from rfl,show(hf w q).N=bZ (w-q) w from rfl,mG p1 pw,mG q1 qw];rfl)))
 |mul=>
   refine aDY (λ z=>by cases z) (λ z=>by cases z) (aFE t1) (kn0 rfl (λ z=>by cases z) t1 k1 kw) ?_ ?_
   .show cond (decide (↑P=2)&&decide (gO (hf w q) (2^bl (2^t-1)-1)=qz 0)) (qz 0) (cond (true&&decide (gO (hf w p) (2^bl (2^t-1)-1)=qz 0)) (qz 1) qx)=qx;rw[sb0,sb0,hP];rfl
   .unfold kZ;rw[if_pos (show(Rw.mk Sw.mul.wd w [a,b]).wd=.mul from rfl)];show(match gO (hf w q) _ with|some k=>_|none=>(match gO (hf w p) _ with|some k=>_|none=>qx))=qx;rw[sb0,sb0]
noncomputable abbrev BL(n u tp:Nat)(hw:Bool)(j:Nat):List Rw:=yAf n (.in,u,[],)++(if hw=true then (yAo j).map (λ k=>(.wide,tp,[k],)) else [])
def tW(h:P[i]?=qz x):pg P i=x:=by unfold pg;rw[xAg,h];rfl
def tG(f:Nat->Option Nat)(h:i<n):((yAo n).map f)[i]?=qz (f i):=by rw[yAg,yEg h];rfl
def nI{α:Type}(f:Nat->α)(j:Nat):(yAo (j+1)).map f=(yAo j).map f++[f j]:=by rw[List.range_succ,yAk];rfl
section
variable {s:Sw}{n u tp t o Z:Nat}{rs:List Rw}(h:Ch s n u tp t n (2 * n) rs o Z){F:List Ft}(hF:↑F=↑rs)(ow:oJ rs F)
include h hF ow
theorem Ch.t1_:∀ j,j<=n->(bS rs F (bG rs F [o]) j).R=(yAf j (⟨.in,u,[]⟩:Rw)).map gF/\(bS rs F (bG rs F [o]) j).P=(yAo j).map qz
 |0,_=>(rfl,rfl,)
 |j+1,hj=>by
   let(i1,i2):=Ch.t1_ j ();rw[qT (h.ins j hj)];show(bS rs F (bG rs F [o]) j).R++[gF (.in,u,[],)]=_/\(bS rs F (bG rs F [o]) j).P++[qz ↑(bS rs F (bG rs F [o]) j).R]=_;rw[i1,i2,yAa,yBj,List.replicate_succ',yAk,nI];exact(rfl,rfl,)
variable {W B:Nat}{hw:Bool}(e:WB n u tp W B hw)(eh:hw=true ↔ u≠tp)
include e eh
theorem Ch.t2_:∀ j,j<=n->(bS rs F (bG rs F [o]) (n+j)).R=(BL n u tp hw j).map gF/\(bS rs F (bG rs F [o]) (n+j)).P=(yAo n).map qz++(yAo j).map (λ k=>qz (W+k))
 |0,_=>by
   let(i1,i2):=h.t1_ hF ow n (yAc _);have:BL n u tp hw 0=yAf n (.in,u,[],):=by
    unfold BL;cases hw<;>simp
   rw[yFo,i1,i2,this];exact(rfl,by simp,)
 |j+1,hj=>by
   let(i1,i2):=Ch.t2_ j ();have ms:=h.ms hF ow;have hr:rs[n+j]?=qz (.wide,tp,[j],):=by
    rcases h.wid with ⟨_,_,q⟩|⟨q,_⟩
    .exact q j hj
    .omega
   have pj:pg (bS rs F (bG rs F [o]) (n+j)).P j=qz j:=by
    rw[i2];exact tW (by rw[xAm (by simp;omega)];exact tG qz hj)
   have tj:iH rs F (bG rs F [o]) (n+j) (.wide,tp,[j],) (bS rs F (bG rs F [o]) (n+j)).P=if u=tp then (.passed,qx,qz j,) else (.kept,qz (gF (.wide,tp,[j],)),qx,):=by
    show kE _ (f0 F (n+j)) _ [g0 (~~~rs) j] [f0 F j] [pg _ j]=_;rw[h.fW hF ow hj,ms.w j hj,eV (h.ins j hj),pj];exact aLj (.inl rfl) h.t1 h.u1 h.ut
   rw[<- yHv,qT hr,tj];rcases e with ⟨rfl,rfl,_⟩|⟨rfl,rfl,_,q⟩
   .rw[if_neg (eh.mp rfl)];show(bS rs F (bG rs F [o]) (W+j)).R++[_]=_/\(bS rs F (bG rs F [o]) (W+j)).P++[qz ↑(bS rs F (bG rs F [o]) (W+j)).R]=_;rw[i1,i2,nI];have:BL W u tp true (j+1)=BL W u tp true j++[(.wide,tp,[j],)]:=by
     unfold BL;rw[if_pos rfl,if_pos rfl,nI,yAq]
    refine(by rw[this];exact(yAk (f:=gF) (l₁:=BL W u tp true j) (l₂:=[(.wide,tp,[j],)])).symm,?_,);rw[yAq];congr 3;simp
   .rw[if_pos q];show(bS rs F (bG rs F [o]) (n+j)).R=_/\(bS rs F (bG rs F [o]) (n+j)).P++[qz j]=_;rw[i1,i2,nI,yAq];refine(rfl,?_,);simp
theorem Ch.t3_:∀ j,j<=n-1->(bS rs F (bG rs F [o]) (2*n+j)).R=(BL n u tp hw n++(yAo j).map (fG s tp W B)).map gF/\(bS rs F (bG rs F [o]) (2*n+j)).P=((yAo n).map qz++(yAo n).map (λ k=>qz (W+k)))++(yAo j).map (λ k=>qz (B+k))
 |0,_=>by
   let(i1,i2):=h.t2_ hF ow e eh n (yAc _);rw[show 2*n+0=n+n by omega,i1,i2];exact(by simp,by simp,)
 |j+1,hj=>by
   let(i1,i2):=Ch.t3_ j ();have n1:=h.n1;have ms:=h.ms hF ow;have hr:=h.wks j ();let(b1,b2):=h.kbd j;let(c1,c2):=h.kbd (j+1);have u1:=h.u1;have el:bI n (2*n) (j+1)=2*n+j:=by unfold bI;rw[if_neg ()];omega
   have fk:=h.fK hF ow (j+1) ();have mk:=ms.l (j+1) ();rw[el] at fk mk;have fa:=h.fK hF ow j ();have fb:=h.fW hF ow (k:=j+1) ();rw[show n+(j+1)=n+1+j by omega] at fb;have pa:pg (bS rs F (bG rs F [o]) (2*n+j)).P (bI n (2*n) j)=qz (bI W B j):=by
    rw[i2];apply tW;unfold bI;by_cases c:j=0
    .rw[if_pos c,if_pos c,xAm (by simp;omega),yAd (by simp),yAa,yAs,yBb];exact tG _ ()
    .rw[if_neg c,if_neg c,yAd (by simp;omega)];simp only[yAj,yAa,yAs];rw[show 2*n+j-1-(n+n)=j-1 by omega,tG _ ()];congr 2;omega
   have pb:pg (bS rs F (bG rs F [o]) (2*n+j)).P (n+1+j)=qz (W+1+j):=by
    rw[i2];apply tW;rw[xAm (by simp;omega),yAd (by simp;omega),yAa,yAs,show n+1+j-n=1+j by omega,tG _ ()];congr 2;omega
   have tj:iH rs F (bG rs F [o]) (2*n+j) (fG s tp n (2*n) j) (bS rs F (bG rs F [o]) (2*n+j)).P=(.kept,qz (gF (fG s tp W B j)),qx,):=by
    unfold fG;by_cases c:j%2=0
    .rw[if_pos c,if_pos c];unfold iH;rw[fk,mk,aEB,fa,fb,show mR (s.wd,tp,[bI n (2*n) j,n+1+j],) (bS rs F (bG rs F [o]) (2*n+j)).P=[qz (bI W B j),qz (W+1+j)] by rw[<- pa,<- pb];cases s<;>rfl];exact aMl h.ns rfl h.t1 () c2 () b2 u1 h.ut
    .rw[if_neg c,if_neg c];unfold iH;rw[fk,mk,aEB,fa,fb,show mR (s.wd,tp,[n+1+j,bI n (2*n) j],) (bS rs F (bG rs F [o]) (2*n+j)).P=[qz (W+1+j),qz (bI W B j)] by rw[<- pa,<- pb];cases s<;>rfl];exact aMl h.ns rfl h.t1 () c2 u1 h.ut () b2
   rw[<- yHv,qT hr,tj];show(bS rs F (bG rs F [o]) (2*n+j)).R++[_]=_/\(bS rs F (bG rs F [o]) (2*n+j)).P++[qz ↑(bS rs F (bG rs F [o]) (2*n+j)).R]=_;rw[i1,i2,nI,nI];have bl:=@wE _ u tp _ _ _ e;refine(by rw[<- yAq,yAk (l₁:=BL n u tp hw n++_)];rfl,?_,);rw[yAq,yAa,yAj,yAa,yAs,bl]
variable (ho:o=2 * n + (n-1))
include ho
theorem Ch.t4_:∃ c o',((c=[⟨.cut,t,[bI W B (n-1)]⟩]/\o'=B+(n-1))\/(c=[]/\t=tp/\o'=bI W B (n-1)))/\(bS rs F (bG rs F [o]) Z).R=(dQ s n u tp W B hw++c).map gF/\↑(bS rs F (bG rs F [o]) Z).P=Z/\pg (bS rs F (bG rs F [o]) Z).P o=qz o':=by
 let(i1,i2):=h.t3_ hF ow e eh (n-1) (yAc _);have n1:=h.n1;have ms:=h.ms hF ow;have bl:=@wE _ u tp _ _ _ e;obtain⟨hZ,hr⟩:Z=o+1/\rs[o]?=qz ⟨.cut,t,[bI n (2*n) (n-1)]⟩:=by
  rcases h.out with ⟨_,a,b⟩|⟨a,_,_⟩
  .exact(a,b,)
  .have:=(h.rL (k:=n-1) ()).2;omega
 let(b1,b2):=h.kbd (n-1);let((r1,h1,w1),_):=h.rL (k:=n-1) ();have u1:=h.u1;have t1:=h.t1;have fc:=h.fC hF ow ho hr;rw[<- ho] at i1 i2;have pa:pg (bS rs F (bG rs F [o]) o).P (bI n (2*n) (n-1))=qz (bI W B (n-1)):=by
  rw[i2];apply tW;unfold bI;by_cases c:n-1=0
  .rw[if_pos c,if_pos c,xAm (by simp;omega),yAd (by simp),yAa,yAs,yBb];exact tG _ ()
  .rw[if_neg c,if_neg c,yAd (by simp;omega)];simp only[yAj,yAa,yAs];rw[show 2*n+(n-1)-1-(n+n)=n-1-1 by omega,tG _ ()];congr 2;omega
 have tj:iH rs F (bG rs F [o]) o (.cut,t,[bI n (2*n) (n-1)],) (bS rs F (bG rs F [o]) o).P=if tp=t then (.passed,qx,qz (bI W B (n-1)),) else (.kept,qz (gF (.cut,t,[bI W B (n-1)],)),qx,):=by
  show kE _ (f0 F o) _ [g0 (~~~rs) (bI n (2*n) (n-1))] [f0 F (bI n (2*n) (n-1))] [pg _ (bI n (2*n) (n-1))]=_;rw[fc,ms.o,eV h1,w1,pa];exact aLj (.inr rfl) t1 () (yBh ..)
 have pl:↑(bS rs F (bG rs F [o]) o).P=o:=by
  rw[i2];simp;omega
 rw[hZ,qT hr,tj];by_cases c:tp=t
 .rw[if_pos c];refine([],bI W B (n-1),.inr (rfl,c.symm,rfl,),?_,?_,?_,)
  .show(bS rs F (bG rs F [o]) o).R=_;rw[i1,yAx];rfl
  .show↑((bS rs F (bG rs F [o]) o).P++[qz (bI W B (n-1))])=_;rw[yAj,pl];rfl
  .show pg ((bS rs F (bG rs F [o]) o).P++[qz (bI W B (n-1))]) o=_;exact tW (by rw[yAd (),pl,yBb];rfl)
 .rw[if_neg c];refine(_,B+(n-1),.inl (rfl,rfl,),?_,?_,?_,)
  .show(bS rs F (bG rs F [o]) o).R++[_]=_;rw[i1,yAk (l₁:=dQ s n u tp W B hw)];rfl
  .show↑((bS rs F (bG rs F [o]) o).P++[_])=_;rw[yAj,pl];rfl
  .show pg ((bS rs F (bG rs F [o]) o).P++[qz ↑(bS rs F (bG rs F [o]) o).R]) o=_;refine tW ?_;rw[yAd (),pl,yBb,i1,yAa,yAj,yAa,yAs,bl];rfl
omit e eh ho in
theorem Ch.t5_{R:List Rw}(hR:(bS rs F (bG rs F [o]) Z).R=R.map gF)(hP:pg (bS rs F (bG rs F [o]) Z).P o=x)(hl:↑(bS rs F (bG rs F [o]) Z).P=Z)(ht:rs.drop Z=tl):∀ i,i<=↑tl->(bS rs F (bG rs F [o]) (Z+i)).R=(R++(tl.take i).filter cE).map gF/\pg (bS rs F (bG rs F [o]) (Z+i)).P o=x/\↑(bS rs F (bG rs F [o]) (Z+i)).P=Z+i
 |0,_=>by
   rw[yFo,List.take_zero];exact(by rw[hR];simp,hP,hl,)
 |i+1,hi=>by
   let(i1,i2,i3):=Ch.t5_ hR hP hl ht i ();obtain⟨r,hr⟩:∃ r,tl[i]?=qz r:=(_,yAb hi,);have hr':rs[Z+i]?=qz r:=by rw[<- hr,<- ht,yFw]
   have oz:=h.oZ;have ms:=h.ms hF ow;have old:∀ y,pg ((bS rs F (bG rs F [o]) (Z+i)).P++[y]) o=x:=λ y=>by
    rw[<- i2];unfold pg;rw[xAg,xAg,xAm ()]
   have len:∀ y:Option Nat,↑((bS rs F (bG rs F [o]) (Z+i)).P++[y])=Z+i+1:=λ y=>by rw[yAj,i3];rfl
   rw[<- yHv,qT hr',List.take_succ,hr,yBd];have m0:=(ms.q (Z+i)).2 ();have keep:r.wd≠.in->(mU (iH rs F (bG rs F [o]) (Z+i) r (bS rs F (bG rs F [o]) (Z+i)).P) (bS rs F (bG rs F [o]) (Z+i))).R=(R++((tl.take i).filter cE++(qz r).toList.filter cE)).map gF/\pg (mU (iH rs F (bG rs F [o]) (Z+i) r (bS rs F (bG rs F [o]) (Z+i)).P) (bS rs F (bG rs F [o]) (Z+i))).P o=x/\↑(mU (iH rs F (bG rs F [o]) (Z+i) r (bS rs F (bG rs F [o]) (Z+i)).P) (bS rs F (bG rs F [o]) (Z+i))).P=Z+i+1:=λ ni=>by
    have tj:iH rs F (bG rs F [o]) (Z+i) r (bS rs F (bG rs F [o]) (Z+i)).P=(.gone,qx,qx,):=by
     unfold iH kE;rw[if_neg ni,m0,if_pos rfl]
    rw[tj,show(qz r).toList.filter cE=[] by show [r].filter cE=[];rw[yCj,show cE r=false from dqF ni];rfl,yAx];exact(i1,old qx,len qx,)
   rcases h.idl (Z+i) r () hr' with rfl|rfl|rfl|rfl
   .exact keep (λ z=>by cases z)
   .refine(?_,old _,len _,);show(bS rs F (bG rs F [o]) (Z+i)).R++[_]=_;rw[i1,<- yAq,yAk (l₁:=R++_)];rfl
   .exact keep (λ z=>by cases z)
   .exact keep (λ z=>by cases z)
end
def Iv(n u:Nat)(is:List Nat):Prop:=∀ k,g0 is k<2^(if k<n then u else 1)
def eI(s:Sw)(is:List Nat):Nat->Nat
 |0=>g0 is 0|k+1=>jn s (eI s is k) (g0 is (k+1))
def aSU(h1:a<=c)(h2:b<=e):jn s a b<=jn s c e:=by
 cases s
 .exact Nat.add_le_add h1 h2
 .exact yFe h1 h2
 .exact yFe h1 h2
def aEd(s:Sw)(a b m:Nat):jn s (a%m) (b%m)%m=jn s a b%m:=by
 cases s
 .exact(Nat.add_mod a b m).symm
 .exact(Nat.mul_mod a b m).symm
 .exact(Nat.mul_mod a b m).symm
def aMw(hs:s≠.sub)(u1:1<=u)(ut:u<=tp)(hi:Iv n u is):∀ k,k<n->kb s tp u k<tp->eI s is k<2^kb s tp u k/\u<=kb s tp u k
 |0,hk,_=>by
   have:=hi 0;rw[if_pos hk] at this;exact(this,yAc _,)
 |k+1,hk,c=>by
   have ik:=hi (k+1);rw[if_pos hk] at ik;have kk:kb s tp u k<=kb s tp u (k+1)/\u<=kb s tp u k:=by
    have:∀ k,u<=kb s tp u k/\kb s tp u k<=tp:=λ k=>by
     induction k with
     |zero=>exact(yAc _,ut,)|succ k ih=>exact(xAh ih.1 (aBR hs (xAh u1 ih.1) u1 ih.2),yBh ..,)
    exact(aBR hs (xAh u1 (this k).1) u1 (this k).2,(this k).1,)
   let(i1,_):=aMw hs u1 ut hi k () ();have e:kb s tp u (k+1)=bl (jn s (2^kb s tp u k-1) (2^u-1)):=by
    have:kb s tp u (k+1)=min tp (bl (jn s (2^kb s tp u k-1) (2^u-1))):=rfl;omega
   refine(?_,by omega,);rw[e];exact xAi (aSU () ()) (mC _)
def aLa(hs:s≠.sub)(u1:1<=u)(ut:u<=tp)(tt:t<=tp)(hi:Iv n u is)(hk:k<n):eI s is k%2^min t (kb s tp u k)=eI s is k%2^t:=by
 by_cases c:t<=kb s tp u k
 .rw[yDr c]
 .have:=(aMw hs u1 ut hi k hk ()).1;rw[yDe (),yEk this,yEk (xAb this (yAh (·) ()))]
def aMi(hs:s≠.sub)(w a b:Nat):sD s.wd w a b=jn s a b%2^w:=by
 have key:∀ z:Nat,dD ((z:Nat):Int) w=z%2^w:=λ z=>by
  have:=nG (z:Int) w;rw[<- yEj] at this;exact Int.ofNat.inj this
 cases s with
 |add=>exact key (a+b)|sub=>exact absurd rfl hs|mul=>exact key (a*b)
def Fr(X:List Rw):Prop:=∀ r∈X,r.wd=.cut\/r.wd=.wide
def aLU(R:List Rw)(E:Es){r:Rw}(h:r.wd=.cut\/r.wd=.wide):∃ X,(iI R E r).2.1=R++X/\Fr X:=by
 unfold iI;split
 .exact⟨[],(yAx _).symm,λ r h=>by cases h⟩
 .exact([r],rfl,λ q hq=>by rw[List.mem_singleton.mp hq];exact h,)
def aBs{I:List Nat -> Prop}{E:Es}(h:Pg I R E)(hy:Y[k]?=qz (qz (y,b)))(ns:y≠.sign)(hp:Pl[k]?=qz (qz p))(hb:(wQ R)[p]?=qz b)(w1:1<=w)(w64:w<=64):Gq I R E 1 w (λ is=>g0 (rn R is) p%2^w) (cX Y Pl R E k w)/\∃ X,(cX Y Pl R E k w).2.1=R++X/\Fr X:=by
 have bd:=λ is (hi:I is)=>h.bd is hi p b hb
 unfold cX;rw[show Y.getD k qx=qz (y,b) by rw[xAg,hy];rfl,show Pl.getD k qx=qz p by rw[xAg,hp];rfl];dsimp only;by_cases c:b=w
 .rw[if_pos c];subst c;exact⟨(h,([],(yAx _).symm,),rfl,yGo _,yGo _,hb,λ is hi=>(yEk (bd is hi)).symm,),[],(yAx _).symm,λ r h=>by cases h⟩
 .rw[if_neg c];by_cases g:w<b
  .rw[if_pos g];exact(aJb (r:=(.cut,w,[p],)) h (w1,w64,b,hb,yEe g,) (aE7 rfl),aLU R E (.inl rfl),)
  .rw[if_neg g,if_neg ns];refine((aJb (r:=(.wide,w,[p],)) h (w1,w64,b,hb,by show b<=w;omega,) (aE7 rfl)).f λ is hi=>?_,aLU R E (.inr rfl),);exact(yEk (xAb (bd is hi) (yAh (·) ()))).symm
def aX1{I:List Nat -> Prop}{E:Es}(h:Pg I R E)(w1:1<=w)(w2:w<=64)(hv:∀ is,I is->g0 is (nin R)<2^w):Pg I (R++[⟨.in,w,[]⟩]) E/\(wQ (R++[⟨.in,w,[]⟩]))[↑R]?=qz w/\∀ is,g0 (rn (R++[⟨.in,w,[]⟩]) is) ↑R=g0 is (nin R):=by
 have fo:=(nH h.ok).1;have sn:=λ is=>@aJX _ (.in,w,[],) fo (λ a ha=>by cases ha) is
 have new:∀ is,g0 (rn (R++[⟨.in,w,[]⟩]) is) ↑R=g0 is (nin R):=λ is=>by
  rw[sn,<- xC R is,aKR];rfl
 have we:(wQ (R++[(.in,w,[],)]))[↑R]?=qz w:=by
  unfold wQ;rw[yAg,aDQ];rfl
 refine((aCO h.ok (w1,w2,True.intro,),λ is hi q v hq=>?_,λ p hp=>aJp (h.mi p hp),),we,new,);by_cases c:q<↑R
 .rw[xD fo is c];refine h.bd is hi q v ?_;unfold wQ at hq ⊢;rw[yAk,xAm (by rw[yAa];exact c)] at hq;exact hq
 .have:q=↑R:=by have:=rE hq;simp at this;omega
  subst this;rw[we] at hq;cases hq;rw[new is];exact hv is hi
def dX(s:Sw)(R:List Rw):List Nat:=(R.filter λ r=>decide (r.wd=s.wd)).map (·.w)
def aBh{s:Sw}(R:List Rw)(h:∀ r∈X,r.wd≠s.wd):dX s (R++X)=dX s R:=by unfold dX;rw[yBd,(List.filter_eq_nil_iff (l:=X)).mpr λ r hr=>by simp[h r hr],yAx]
def aVF{s:Sw}(R:List Rw)(r:Rw)(h:r.wd=s.wd):dX s (R++[r])=dX s R++[r.w]:=by unfold dX;rw[yBd,yAk,yCj,dqT h];rfl
def aEM{s:Sw}(h:Fr X):∀ r∈X,r.wd≠s.wd:=λ r hr e=>by
 rcases h r hr with q|q<;>rw[q] at e<;>cases s<;>cases e
def Tl(I:List Nat->Prop)(t:Nat)(Pl:Ps)(R:List Rw)(i b:Nat)(X:List Nat->Nat):Prop:=∃ p,Pl[i]?=qz (qz p)/\(wQ R)[p]?=qz b/\∀ is,I is->g0 (rn R is) p%2^t=X is%2^t
def Tl.on{I:List Nat->Prop}{X:List Nat->Nat}(hf:kS R)(h:Tl I t Pl R i b X)(y:Option Nat):Tl I t (Pl++[y]) (R++Q) i b X:=by let(p,h1,h2,h3):=h;exact(p,by rw[xAm (gIm h1).1];exact h1,uA h2,λ is hi=>by rw[xD hf is (rE h2)];exact h3 is hi,)
def Tl.new{I:List Nat->Prop}{X:List Nat->Nat}(h2:(wQ R)[p]?=qz b)(h3:∀ is,I is->g0 (rn R is) p%2^t=X is%2^t):Tl I t (Pl++[qz p]) R ↑Pl b X:=(p,by rw[yAd (yAc _),yBb];rfl,h2,h3,)
def aYh{I:List Nat->Prop}(hs:s≠.sub){E:Es}(h:Pg I R E){Xa Xb:List Nat->Nat}(hya:Y[a]?=qz (qz (ya,ba)))(nsa:ya≠.sign)(hyb:Y[b]?=qz (qz (yb,bb)))(nsb:yb≠.sign)(ha:Tl I t Pl R a ba Xa)(hb:Tl I t Pl R b bb Xb)(w1:1<=w)(w64:w<=64)(wt:w<=t) :
 ∃ X,(qA Y Pl R E [(a,w),(b,w)] λ x=>(s.wd,w,x++[a,b].drop 2,)).2.1=R++X++[(s.wd,w,(dG Y Pl R E [(a,w),(b,w)]).1,)]/\Fr X/\Gq I R E 3 w (λ is=>jn s (Xa is) (Xb is)%2^w) (qA Y Pl R E [(a,w),(b,w)] λ x=>(s.wd,w,x++[a,b].drop 2,)):=by
 let(p,hp,hpw,pv):=ha;let(q,hq,hqw,qv):=hb;let(g1,X1,e1,f1):=aBs h hya nsa hp hpw w1 w64;unfold qA dG dG dG;dsimp only;generalize cX Y Pl R E a w=z at g1 e1 ⊢;let(m1,R1,E1):=z;dsimp only at e1 g1 ⊢;subst e1;have fo:=(nH h.ok).1;let(g2,X2,e2,f2):=aBs g1.g hyb nsb hq (uA hqw) w1 w64;generalize cX Y Pl (R++X1) E1 b w=z at g2 e2 ⊢;let(m2,R2,E2):=z;dsimp only at e2 g2 ⊢;subst e2;have c1:=g1.w;have c2:=g2.w;dsimp only at c1 c2;have okr:pL (wQ (R++X1++X2)) (s.wd,w,[m1,m2],):=by
  refine(w1,w64,?_,);cases s with
  |add=>exact(uA c1,c2,)|sub=>exact absurd rfl hs|mul=>exact(uA c1,c2,)
 have g3:=aKv g2.g okr (by cases s<;>exact aE7 rfl);refine(X1++X2,by rw[<- yAq];rfl,λ r hr=>(List.mem_append.mp hr).elim (f1 r) (f2 r),?_,);refine((g3.f λ is hi=>?_).on (R:=R) (E:=E) (a:=2) (X1++X2,yAq ..,) (g2.ni.trans g1.ni) ?_ ?_ (yAc 3))
 .have v1:=g1.v is hi;have v2:=g2.v is hi;dsimp only at v1 v2;have o1:g0 (rn (R++X1++X2) is) m1=g0 (rn R is) p%2^w:=(xD (nH g1.g.ok).1 is (rE c1)).trans v1;have o2:g0 (rn (R++X1++X2) is) m2=g0 (rn R is) q%2^w:=by rw[v2,xD fo is (rE hqw)]
  have md:∀ {v x:Nat},v%2^t=x%2^t->v%2^w=x%2^w:=λ {v x} e=>by
   rw[<- yDy v (yEd 2 wt),e,yDy _ (yEd 2 wt)]
  have wk:fF (s.wd,w,[m1,m2],) (bR (s.wd,w,[m1,m2],) (wQ (R++X1++X2))) (bR (s.wd,w,[m1,m2],) (rn (R++X1++X2) is))=sD s.wd w (g0 (rn (R++X1++X2) is) m1) (g0 (rn (R++X1++X2) is) m2):=by
   cases s<;>rfl
  dsimp only;rw[wk,o1,o2,aMi hs,md (pv is hi),md (qv is hi),aEd]
 .have:=g1.r;have:=g2.r;dsimp only at *;omega
 .have:=g1.e;have:=g2.e;dsimp only at *;omega
structure Plf(Y:Ys)(Pl:Ps)(k:Nat):Prop where
 f:gZ Y Pl k
def aQ(rs:List Rw)(Y:Ys):Nat->Ps×List Rw×Es
 |0=>([],[],[])
 |j+1=>match rs[j]?,Y[j]? with
   |some r,qz (qz q)=>((aQ rs Y j).1++[qz (nT (~~~rs) Y (aQ rs Y j).1 (aQ rs Y j).2.1 (aQ rs Y j).2.2 r q.2).1],(nT (~~~rs) Y (aQ rs Y j).1 (aQ rs Y j).2.1 (aQ rs Y j).2.2 r q.2).2)|_,_=>((aQ rs Y j).1++[qx],(aQ rs Y j).2)
structure Mv(Y:Ys)(j:Nat)(z:Ps×List Rw×Es):Prop where
 l:z.1.length=j
 r:z.2.1.length+z.2.2.length<=7*j
 e:z.2.2.length<=7*j
 pl:∀ a,a<j->Plf Y z.1 a
structure Yg(rs:List Rw)(Y:Ys):Prop where
 st:Yst rs Y
 cok:∀ (k:Nat) (r:Rw) (q:Yw×Nat),rs[k]?=qz r->Y[k]?=qz (qz q)->Cok Y r
 mv:∀ j,j<=↑rs->Mv Y j (aQ rs Y j)
def aXg{rs:List Rw}{Y:Ys}(g:Yg rs Y){k:Nat}{r:Rw}{q:Yw×Nat}(hr:rs[k]?=qz r)(hq:Y[k]?=qz (qz q)):1<=q.2/\q.2<=r.w/\True:=by let(h1,h2):=g.st.ok k r (qz q) hr hq q.1 q.2 rfl;exact(h1,h2,True.intro,)
def aLC{rs:List Rw}{Y:Ys}(_:Prg rs)(g:Yg rs Y)(j:Nat)(hj:j<=↑rs):Mv Y j (aQ rs Y j):=g.mv j hj
def aKY(x:Option Nat)(st:Option (List D))(R:List Rw)(Pl:Ps)(hP:↑Pl<=1000)(E:Es)(T:aD):dO (sM st R Pl E T) (.loc 2) (.d (aT x))=qz (.d .none,sM st R (Pl++[x]) E T):=by show(if ↑(Pl.map aT)<qo then _ else qx)=_;rw[if_pos (by rw[yAa,zj];omega),show Pl.map aT++[aT x]=(Pl++[x]).map aT by rw[yAk];rfl];rfl
def aMW:∀ (rs:List Rw) (Y:Ys),gN (rs.map Rw.d) (Y.map yD)=(rs.zip Y).map λ q=>yAn [q.1.d,yD q.2]
 |[],Y=>by cases Y<;>rfl|r::rs,[]=>rfl
 |r::rs,y::Y=>by
   have:=aMW rs Y;simp only[yAm,yHf,gN,this]
def aUp{rs:List Rw}{Y:Ys}{j:Nat}{dd:D}(h:((rs.zip Y).map λ q=>yAn [q.1.d,yD q.2])[j]?=qz dd):∃ r y,rs[j]?=qz r/\Y[j]?=qz y/\dd=.tuple [r.d,yD y]:=by rw[yAg] at h;let(q,hq,rfl):=Option.map_eq_some_iff.mp h;let(h1,h2):=List.getElem?_zip_eq_some.mp hq;exact(q.1,q.2,h1,h2,rfl,)
def sJ(rs:List Rw)(aN:List Nat):List (Nat×Nat):=aN.map λ o=>(o,g0 (~~~rs) o)
def lJ(rs:List Rw)(Y:Ys)(aN:List Nat):List Nat×List Rw×Es:=dG Y (aQ rs Y ↑rs).1 (aQ rs Y ↑rs).2.1 (aQ rs Y ↑rs).2.2 (sJ rs aN)
def zS(rs:List Rw)(Y:Ys)(aN:List Nat):D:=.tuple [.tuple ((lJ rs Y aN).2.1.map Rw.d),.tuple ((lJ rs Y aN).1.map nD)]
noncomputable abbrev eB(P f m YY:D)(c5 c6 c7 c8:Option W):bB:=[qz (.d P),qz (.d f),qz (.d m),qz (.d YY),qz (dJ P YY),c5,c6,c7,c8,qx]
def aRM(hr:rs[j]?=qz r)(hy:Y[j]?=qz qx):aQ rs Y (j+1)=((aQ rs Y j).1++[qx],(aQ rs Y j).2):=by rw[aQ,hr,hy]
def aID(hr:rs[j]?=qz r)(hy:Y[j]?=qz (qz q)):aQ rs Y (j+1)=((aQ rs Y j).1++[qz (nT (~~~rs) Y (aQ rs Y j).1 (aQ rs Y j).2.1 (aQ rs Y j).2.2 r q.2).1],(nT (~~~rs) Y (aQ rs Y j).1 (aQ rs Y j).2.1 (aQ rs Y j).2.2 r q.2).2):=by rw[aQ,hr,hy]
def aSt(d:Nat)(p:Prg rs)(hl:↑rs<=60)(g:Yg rs Y)(o f m:D)(st:Option (List D))(hr:rs[j]?=qz r)(hy:Y[j]?=qz y)(c8:Option W):∃ c8':Option W,xs (d<$>5) vR (eB (rs<*o) f m (Y*>yD) qx (qz (.d r.d)) (qz (.d (yD y))) c8) (sM st (aQ rs Y j).2.1 (aQ rs Y j).1 (aQ rs Y j).2.2 [])=qz (.nx (eB (rs<*o) f m (Y*>yD) qx (qz (.d r.d)) (qz (.d (yD y))) c8'),sM st (aQ rs Y (j+1)).2.1 (aQ rs Y (j+1)).1 (aQ rs Y (j+1)).2.2 []):=by
 have hj:j<↑rs:=(gIm hr).1;have mv:=aLC p g j ();have isy:=aFw y;have m1:=mv.l;have m2:=mv.r;have m3:=mv.e;cases y with
 |none=>
   have isy:aP .Is (yD qx) .none=qz (.bool true):=isy;have ap:dO (sM st (aQ rs Y j).2.1 (aQ rs Y j).1 (aQ rs Y j).2.2 []) (.loc 2) (.d .none)=_:=aKY qx st (aQ rs Y j).2.1 (aQ rs Y j).1 () (aQ rs Y j).2.2 [];refine(qz (.d .none),?_,);rw[aRM hr hy];generalize (yAn [(rs*>Rw.d),o])=P;erw[2,vR,eB,isy,ap]
 |some q=>
   have isy:aP .Is (yD (qz q)) .none=qz (.bool false):=isy;let(f1,f2):=p.fit j r hr;let(k1,k2,k3):=aXg g hr hy;have w64:=(p.ws j r hr).2;have mr:=@aT7 st ((aQ rs Y j).2.1) ((aQ rs Y j).1) ((aQ rs Y j).2.2) [] Y _ _ rs d f1 o q.2 () (λ a ha=>(_,yAb (yHd (f2 a ha) hj),)) (λ a ha=>(mv.pl a (f2 a ha)).f) (g.cok j r q hr hy) ();have x1:aV (yD (qz q)) (.int 1)=qz (.int (q.2:Nat)):=rfl;refine((((nT (~~~rs) Y (aQ rs Y j).1 (aQ rs Y j).2.1 (aQ rs Y j).2.2 r q.2).1:Nat):),?_,);rw[aID hr hy];generalize nT (~~~rs) Y (aQ rs Y j).1 (aQ rs Y j).2.1 (aQ rs Y j).2.2 r q.2=x at mr ⊢;let(x0,R1,E1):=x;dsimp only at mr ⊢;have ap:dO (sM st R1 (aQ rs Y j).1 E1 []) (.loc 2) (.d (.int x0))=_:=aKY (qz x0) st R1 (aQ rs Y j).1 () E1 [];generalize (yAn [(rs*>Rw.d),o])=P at mr ⊢;erw[2,vR,eB,isy,x1,mr,ap]
def aSX(d:Nat)(p:Prg rs)(hl:↑rs<=60)(g:Yg rs Y)(aN:List Nat)(ho:∀ o∈aN,o<↑rs)(hol:↑aN<=20)(f m:D)(st:Option (List D)) :
 cl fns (d+6) 74 [.d (rs<*(aN*>nD)),.d f,.d m,.d (Y*>yD)] [st]=qz (.d (zS rs Y aN),[st]):=by
 have trn:=λ(j:Nat) (r:Rw) (y:Option (Yw×Nat)) (hr:rs[j]?=qz r) (hy:Y[j]?=qz y) (c8:Option W)=>aSt d p hl g (aN*>nD) f m st hr hy c8
 have mv:=aLC p g ↑rs (yAc _);have i0:aV (rs<*(aN*>nD)) (.int 0)=qz (rs*>Rw.d):=rfl;have i1:aV (rs<*(aN*>nD)) (.int 1)=qz (aN*>nD):=rfl;have wo:=λ(a:Nat) (ha:a<↑rs) (S:aD)=>wY (d+4) a (yAb ha) (aN*>nD) S
 obtain⟨P,hP⟩:∃ P:D,P=(rs<*(aN*>nD)):=(_,rfl,);simp only[<- hP] at trn i0 i1 wo ⊢;obtain⟨YY,hYY⟩:∃ YY:D,YY=(Y*>yD):=(_,rfl,);have it:lv (d<$>5) aCN (eB P f m YY qx qx qx qx) (sM st [] [] [] [])=qz ((rs.zip Y).map (λ q=>yAn [q.1.d,yD q.2]),sM st [] [] [] []):=by
  rw[<- aMW,hYY];erw[2,aCN,eB,i0]
 rw[<- hYY] at trn ⊢;let(env1,S1,p1,c6,c7,c8,rfl,rfl):=kM (t:=.many [6,7]) (fb:=xs (d<$>5) vR)
  (λ j env S'=>∃ c6 c7 c8:Option W,env=eB P f m YY qx c6 c7 c8/\S'=sM st (aQ rs Y j).2.1 (aQ rs Y j).1 (aQ rs Y j).2.2 [])
  it (qx,qx,qx,rfl,rfl,) (by
   rintro j dd env S' hd ⟨c6,c7,c8,rfl,rfl⟩;let(r,y,hr,hy,rfl):=aUp hd;let(c8',e):=trn j r y hr hy c8;exact(_,_,_,rfl,e,qz (.d r.d),qz (.d (yD y)),c8',rfl,rfl,))
 rw[yAa,List.length_zip,g.st.l,Nat.min_self] at p1;have m2:=mv.r;have m3:=mv.e;have lo:↑(sJ rs aN)<=20:=by unfold sJ;rw[yAa];exact hol
 have hh:∀ q∈sJ rs aN,gZ Y (aQ rs Y ↑rs).1 q.1/\q.1<↑rs/\q.2=g0 (~~~rs) q.1:=λ q hq=>by
  let(k,hk,rfl):=List.mem_map.mp hq;exact((mv.pl k (ho k hk)).f,ho k hk,rfl,)
 have hC:lv (d<$>5) aG8 (eB P f m YY qx c6 c7 c8) (sM st (aQ rs Y ↑rs).2.1 (aQ rs Y ↑rs).1 (aQ rs Y ↑rs).2.2 [])=qz ((lJ rs Y aN).1.map nD,sM st (lJ rs Y aN).2.1 (aQ rs Y ↑rs).1 (lJ rs Y aN).2.2 []):=by
  refine @aD3 _ _ ((sJ rs aN).map λ q=>nD q.1) _ (.one 9) _ _ (lv (d<$>5) (.it (.ix (.var 0) (.int 1)))) (ev (d<$>5) (.mth "fetch" 66 (.var 4) (.cons (.var 9) (.cons (.call 10 (.cons (.var 0) (.cons (.var 9) .nil))) .nil)))) ?_ (by rw[yAa];omega) (aBf (λ q=>nD q.1) (λ q=>_) (λ q=>rfl) _ _ _ () λ q hq R E T h1=>?_)
  .have:(sJ rs aN).map (λ q=>nD q.1)=aN.map nD:=by unfold sJ;rw[yAz];rfl
   rw[this];erw[1,eB,i1,iL]
  .let(h3,h4,h5):=hh q hq;have w1:=λ S=>wo q.1 h4 S
   have ew:rs[q.1].w=q.2:=by rw[h5,eV (yAb h4)]
   rw[ew] at w1;have ft:=@wF st _ _ _ T _ P _ (d+2) q.2 h3 h1;rw[<- hYY] at ft;exact gT rfl rfl (aE rfl (aE (bT rfl (w1 _)) rfl)) ft
 have tp1:qX [.list ((lJ rs Y aN).1.map nD)]=qz (.tuple ((lJ rs Y aN).1.map nD)):=rfl;have tp2:qX [.list ((lJ rs Y aN).2.1.map Rw.d)]=qz (.tuple ((lJ rs Y aN).2.1.map Rw.d)):=rfl;have mk1:ev (d<$>5) (.mk cl_ini 3 (.cons (.var 0) (.cons (.var 3) .nil))) [qz (.d P),qz (.d f),qz (.d m),qz (.d YY),qx,qx,qx,qx,qx,qx] [st]=qz (dJ P YY,sM st [] [] [] []):=aNJ rfl rfl rfl rfl;have body:xs (d<$>5) aIl [qz (.d P),qz (.d f),qz (.d m),qz (.d YY),qx,qx,qx,qx,qx,qx] [st]=qz (.rt (.d (zS rs Y aN)),sM st (lJ rs Y aN).2.1 (aQ rs Y ↑rs).1 (lJ rs Y aN).2.2 []):=by
  refine bQ mk1 rfl (dN p1 (bQ (cT (aE (fM hC) rfl) rfl tp1) rfl (bH ?_)));exact fB (aE (cT (aE (wU rfl rfl) rfl) rfl tp2) rfl) rfl (by simp)
 exact cR rfl rfl rfl body rfl
def bw(s:Sw)(n u tp t B Z i:Nat):Nat:=if i<n then u else if i<B then min t u else if i<B+(n-1) then min t (kb s tp u (i-B+1)) else if i<Z then min t (kb s tp u (n-1)) else 1
def vx(s:Sw)(n B Z:Nat)(is:List Nat)(i:Nat):Nat:=if i<n then g0 is i else if i<B then g0 is (i-n) else if i<B+(n-1) then eI s is (i-B+1) else if i<Z then eI s is (n-1) else g0 is (n+(i-Z))
structure Mw(s:Sw)(n u tp t B Z:Nat)(rs:List Rw)(j:Nat)(z:Ps×List Rw×Es):Prop where
 l:z.1.length=j
 c:z.2.1.length+z.2.2.length<=7*j
 r:z.2.1.length<=3*j
 g:Pg (Iv n u) z.2.1 z.2.2
 ni:nin z.2.1=min j n+(j-Z)
 p:∀ i,i<j->Tl (Iv n u) t z.1 z.2.1 i (bw s n u tp t B Z i) (λ is=>vx s n B Z is i)
 fl:dX s z.2.1=(yAo (min (j-B) (n-1))).map (λ k=>min t (kb s tp u (k+1)))
 fr:∀ r∈z.2.1,r.wd=s.wd\/r.wd=.in\/r.wd=.cut\/r.wd=.wide
 fi:z.2.1.filter cE=(rs.take j).filter cE
def Mw.nxt{B:Nat}(m:Mw s n u tp t B Z rs j z){q:M3}(g:Pg (Iv n u) q.2.1 q.2.2)(hp:∃ Q,q.2.1=z.2.1++Q)(hz:q.2.1.length+q.2.2.length<=z.2.1.length+z.2.2.length+7)(hr:q.2.1.length<=z.2.1.length+3)(hn:nin q.2.1=min (j+1) n+(j+1-Z))(hw:(wQ q.2.1)[q.1]?=qz (bw s n u tp t B Z j))(hv:∀ is,Iv n u is->g0 (rn q.2.1 is) q.1%2^t=vx s n B Z is j%2^t)(fl:dX s q.2.1=(yAo (min (j+1-B) (n-1))).map (λ k=>min t (kb s tp u (k+1))))(fr:∀ r∈q.2.1,r.wd=s.wd\/r.wd=.in\/r.wd=.cut\/r.wd=.wide)(fi:q.2.1.filter cE=(rs.take (j+1)).filter cE):Mw s n u tp t B Z rs (j+1) (z.1++[qz q.1],q.2):=by
 let(Q,hQ):=hp;have ml:=m.l;have mz:=m.c;have mr:=m.r;refine(by rw[yAj,ml];rfl,by dsimp only;omega,by dsimp only;omega,g,hn,λ i hi=>?_,fl,fr,fi,);dsimp only;by_cases c:i<j
 .rw[hQ];exact(m.p i c).on (nH m.g.ok).1 _
 .obtain rfl:i=j:=();have:=Tl.new (I:=Iv n u) (t:=t) (Pl:=z.1) (X:=λ is=>vx s n B Z is i) hw hv;rw[ml] at this;exact this
section
variable {s:Sw}{n u tp t W B o Z:Nat}{rs:List Rw}(h:Ch s n u tp t W B rs o Z){Y:Ys}(y:Sy s n u tp t W B rs o Z Y)(hin:∀ (j:Nat)(r:Rw), Z <= j->rs[j]?=qz r->r=⟨.in, 1, []⟩)
include h
theorem Ch.bL(hk:k<n)(is:List Nat):vx s n B Z is (bI W B k)=eI s is k:=by
 have:=h.wbn;unfold vx bI;by_cases c:k=0
 .rw[if_pos c,c];rcases h.wid with ⟨a,b,_⟩|⟨a,b,_⟩
  .rw[if_neg (),if_pos (),a,yBb];rfl
  .rw[if_pos (),a];rfl
 .rw[if_neg c,if_neg (),if_neg (),if_pos (),show B+k-1-B+1=k by omega]
theorem Ch.bW(hk:k<n)(is:List Nat):vx s n B Z is (W+k)=g0 is k:=by
 unfold vx;rcases h.wid with ⟨a,b,_⟩|⟨a,b,_⟩
 .rw[if_neg (),if_pos (),a,yBy]
 .rw[if_pos (),a,yBz]
include y hin
theorem Ch.yb(hi:i<↑rs):∃ q,q≠.sign/\Y[i]?=qz (qz (q,bw s n u tp t B Z i)):=by
 have hr:=yAb hi;have oz:=h.oZ;have zB:=h.zB;have n1:=h.n1;have wbn:=h.wbn;unfold bw;rcases h.at hr with ⟨c,e⟩|⟨e,k,hk,c,_⟩|⟨k,hk,c,_⟩|⟨c,ho,_⟩|⟨c,_⟩
 .rw[e] at hr;rw[if_pos c];exact(.cut,(λ z=>by cases z),y.i i u hr,)
 .rw[if_neg (),if_pos (),c];exact y.w e k hk
 .rw[if_neg (),if_neg (),if_pos (),c,yBy];exact y.k k hk
 .rw[if_neg (),if_neg (),if_neg (),if_pos (),c];exact y.o ho
 .rw[hin i _ c hr] at hr;rw[if_neg (),if_neg (),if_neg (),if_neg ()];exact(.cut,(λ z=>by cases z),y.i i 1 hr,)
theorem Ch.mw:∀ j,j<=↑rs->Mw s n u tp t B Z rs j (aQ rs Y j)
 |0,_=>(rfl,yAc _,yAc _,⟨True.intro,λ is hi q v hq=>(by have hq:([]:List Nat)[q]?=qz v:=hq;rw[List.getElem?_nil] at hq;cases hq),λ p hp=>by cases hp⟩,by simp[aQ,nin],λ i hi=>absurd hi (yCa i),by simp[aQ,dX],λ r hr=>(by cases hr),rfl,)
 |j+1,hj=>by
   have m:=Ch.mw j ();have hr:=yAb (show j<↑rs from hj);let(q,hq,ey):=h.yb y hin (show j<↑rs from hj);rw[aID hr ey];have oz:=h.oZ;have zB:=h.zB;have n1:=h.n1;have wbn:=h.wbn;have u1:=h.u1;have ut:=h.ut;have tp2:=h.tp2;have t1:=h.t1;have tt:=h.tt;have ni:=m.ni;have tk:∀ {r:Rw},rs[j]=r->(rs.take (j+1)).filter cE=(rs.take j).filter cE++[r].filter cE:=λ {r} e=>by rw[aMH hr,yBd,e]
   have one:∀ {a w:Nat},a<j->w=bw s n u tp t B Z j->1<=w->w<=64->(∀ is,Iv n u is->vx s n B Z is a%2^t=vx s n B Z is j%2^t/\∀ v,v<2^bw s n u tp t B Z a->v%2^t=vx s n B Z is j%2^t->v%2^w%2^t=vx s n B Z is j%2^t)->n<=j->j<Z->(j<B\/B+(n-1)<=j)->[rs[j]].filter cE=[]->Mw s n u tp t B Z rs (j+1) ((aQ rs Y j).1++[qz (cX Y (aQ rs Y j).1 (aQ rs Y j).2.1 (aQ rs Y j).2.2 a w).1],(cX Y (aQ rs Y j).1 (aQ rs Y j).2.1 (aQ rs Y j).2.2 a w).2):=λ {a w} ha ew w1 w64 hv j1 j2 j3 j4=>by
    let(p,hp,hw,pv):=m.p a ha;let(qa,hqa,eya):=h.yb y hin (show a<↑rs by omega);let(g,X,eX,fX):=aBs m.g eya hqa hp hw w1 w64;have ln:=aA5 Y (aQ rs Y j).1 (aQ rs Y j).2.1 (aQ rs Y j).2.2 a w;have gr:=g.r;refine m.nxt g.g (X,eX,) () () (by rw[xB,g.ni,<- xB,ni];omega) (by rw[g.w,ew]) (λ is hi=>?_) ?_ ?_ (by rw[tk rfl,j4,yAx];exact g.ni.trans m.fi)
    .let(h1,h2):=hv is hi;rw[g.v is hi];exact h2 _ (m.g.bd is hi p _ hw) ((pv is hi).trans h1)
    .rw[eX,aBh _ (aEM fX),m.fl];congr 2;omega
    .rw[eX];intro r hr;rcases List.mem_append.mp hr with z|z
     .exact m.fr r z
     .exact .inr (.inr (fX r z))
   have inp:∀ {w:Nat},rs[j]=⟨.in,w,[]⟩->1<=w->w<=64->w=bw s n u tp t B Z j->(∀ is,Iv n u is->g0 is (nin (aQ rs Y j).2.1)<2^w/\g0 is (nin (aQ rs Y j).2.1)=vx s n B Z is j)->(j<n\/Z<=j)->Mw s n u tp t B Z rs (j+1) ((aQ rs Y j).1++[qz (aQ rs Y j).2.1.length],(aQ rs Y j).2.1++[⟨.in,w,[]⟩],(aQ rs Y j).2.2):=λ {w} er w1 w2 ew hv j1=>by
    let(a,b,c):=aX1 m.g w1 w2 λ is hi=>(hv is hi).1
    refine m.nxt (q:=((aQ rs Y j).2.1.length,(aQ rs Y j).2.1++[(.in,w,[],)],(aQ rs Y j).2.2)) a (_,rfl,) (by simp;omega) (by simp) ?_ (by rw[<- ew];exact b) (λ is hi=>by dsimp only;rw[c is,(hv is hi).2]) ?_ ?_ (by dsimp only;rw[tk er,yBd,m.fi])
    .dsimp only;rw[aDK,ni];show _+1=_;omega
    .dsimp only;rw[aBh _ λ r hr e=>(by rw[List.mem_singleton.mp hr] at e;cases s<;>cases e),m.fl];congr 2;omega
    .dsimp only;intro r hr;rcases List.mem_append.mp hr with z|z
     .exact m.fr r z
     .rw[List.mem_singleton.mp z];exact .inr (.inl rfl)
   rcases h.at hr with ⟨c,e⟩|⟨e0,k,hk,c,e⟩|⟨k,hk,c,e⟩|⟨c,ho,e⟩|⟨c,_⟩
   .rw[e];refine inp e u1 () (by unfold bw;rw[if_pos c]) (λ is hi=>?_) (.inl c);have:=hi j;rw[if_pos c] at this;rw[ni,show min j n+(j-Z)=j by omega];exact(this,by unfold vx;rw[if_pos c],)
   .rw[e];have ew:bw s n u tp t B Z j=min t u:=by unfold bw;rw[if_neg (),if_pos ()]
    have er:nT (~~~rs) Y (aQ rs Y j).1 (aQ rs Y j).2.1 (aQ rs Y j).2.2 (.wide,tp,[k],) (bw s n u tp t B Z j)=cX Y (aQ rs Y j).1 (aQ rs Y j).2.1 (aQ rs Y j).2.2 k (bw s n u tp t B Z j):=by
     show vF Y (aQ rs Y j).1 (aQ rs Y j).2.1 (aQ rs Y j).2.2 .wide k (g0 (~~~rs) k) (bw s n u tp t B Z j)=_;unfold vF;rw[eV (h.ins k hk),if_pos (by show _<=u;omega)]
    rw[er];refine one () rfl () () (λ is hi=>?_) () () (.inl ()) (by rw[e];rfl);have v1:vx s n B Z is k=g0 is k:=by unfold vx;rw[if_pos hk]
    have v2:vx s n B Z is j=g0 is k:=by unfold vx;rw[if_neg (),if_pos (),c,yBy]
    rw[v1,v2];refine(rfl,λ v hv e=>?_,);rw[show bw s n u tp t B Z k=u by unfold bw;rw[if_pos hk]] at hv;rw[ew,<- e];by_cases q:t<=u
    .rw[yDr q,Nat.mod_mod]
    .rw[yDe (),yEk hv]
   .have ew:bw s n u tp t B Z j=min t (kb s tp u (k+1)):=by unfold bw;rw[if_neg (),if_neg (),if_pos (),c,yBy]
    have vj:∀ is,vx s n B Z is j=eI s is (k+1):=λ is=>by unfold vx;rw[if_neg (),if_neg (),if_pos (),c,yBy]
    let(b1,b2):=h.kbd (k+1);let(a,b,ew2,ab):=qZ s tp W B k;have lL:=(h.rL (k:=k) ()).2;have la:a<j/\b<j:=by
     rcases ab with ⟨rfl,rfl⟩|⟨rfl,rfl⟩<;>omega
    let(ya,nsa,hya):=h.yb y hin (show a<↑rs by omega);let(yb,nsb,hyb):=h.yb y hin (show b<↑rs by omega);have va:∀ is,jn s (vx s n B Z is a) (vx s n B Z is b)=eI s is (k+1):=λ is=>by
     have e1:=h.bL (k:=k) () is;have e2:=h.bW (k:=k+1) () is;rw[show W+(k+1)=W+1+k by omega] at e2;rcases ab with ⟨rfl,rfl⟩|⟨rfl,rfl⟩
     .rw[e1,e2];rfl
     .rw[e1,e2,aD5];rfl
    let(X,e1,fX,g):=aYh h.ns m.g hya nsa hyb nsb (m.p a la.1) (m.p b la.2) (w:=bw s n u tp t B Z j) () () ();have er:nT (~~~rs) Y (aQ rs Y j).1 (aQ rs Y j).2.1 (aQ rs Y j).2.2 (s.wd,tp,[a,b],) (bw s n u tp t B Z j)=qA Y (aQ rs Y j).1 (aQ rs Y j).2.1 (aQ rs Y j).2.2 [(a,bw s n u tp t B Z j),(b,bw s n u tp t B Z j)] λ x=>(s.wd,bw s n u tp t B Z j,x++[a,b].drop 2,):=by cases s<;>rfl
    rw[e,ew2,er];have gr:=g.r;have ge:=g.e;refine m.nxt g.g g.pre () () (by rw[xB,g.ni,<- xB,ni];omega) g.w (λ is hi=>?_) ?_ ?_ (by rw[tk (e.trans ew2),show [((s.wd,tp,[a,b],):Rw)].filter cE=[] by cases s<;>rfl,yAx];exact g.ni.trans m.fi)
    .rw[g.v is hi,va,vj,ew,yEk (xAb (Nat.mod_lt _ (xAe _)) (yAh (·) (yBh t _))),aLa h.ns u1 ut tt hi ()]
    .rw[e1,aVF _ _ rfl,aBh _ (aEM fX),m.fl,show min (j-B) (n-1)=k by omega,show min (j+1-B) (n-1)=k+1 by omega,nI,ew]
    .rw[e1];intro r hr;rcases List.mem_append.mp hr with z|z
     .rcases List.mem_append.mp z with z|z
      .exact m.fr r z
      .exact .inr (.inr (fX r z))
     .rw[List.mem_singleton.mp z];exact .inl rfl
   .let(b1,b2):=h.kbd (n-1);have ew:bw s n u tp t B Z j=min t (kb s tp u (n-1)):=by unfold bw;rw[if_neg (),if_neg (),if_neg (),if_pos ()]
    have vj:∀ is,vx s n B Z is j=eI s is (n-1):=λ is=>by unfold vx;rw[if_neg (),if_neg (),if_neg (),if_pos ()]
    have lL:=(h.rL (k:=n-1) ()).2;rw[e];show Mw s n u tp t B Z rs (j+1) ((aQ rs Y j).1++[qz (cX Y (aQ rs Y j).1 (aQ rs Y j).2.1 (aQ rs Y j).2.2 (bI W B (n-1)) (bw s n u tp t B Z j)).1],(cX Y (aQ rs Y j).1 (aQ rs Y j).2.1 (aQ rs Y j).2.2 (bI W B (n-1)) (bw s n u tp t B Z j)).2);refine one () rfl () () (λ is hi=>?_) () () (.inr ()) (by rw[e];rfl);rw[h.bL (k:=n-1) (),vj];refine(rfl,λ v hv e=>?_,);rw[<- yDy v (yEd 2 (show bw s n u tp t B Z j<=t by omega)),e,yDy _ (yEd 2 (show bw s n u tp t B Z j<=t by omega)),ew,aLa h.ns u1 ut tt hi (),Nat.mod_mod]
   .have e:=hin j _ c hr;rw[e];refine inp e (yAc 1) () (by unfold bw;rw[if_neg (),if_neg (),if_neg (),if_neg ()]) (λ is hi=>?_) (.inr c);have:=hi (n+(j-Z));rw[if_neg ()] at this;rw[ni,show min j n+(j-Z)=n+(j-Z) by omega];exact(this,by unfold vx;rw[if_neg (),if_neg (),if_neg (),if_neg ()],)
end
def aO7{F:List Ft}(d:Nat)(p:Prg rs)(hl:↑rs<=60)(hF:↑F=↑rs)(aN:List Nat)(ho:∀ o∈aN,o<↑rs)(hol:↑aN<=20)(g:Yg rs (gP rs F (bG rs F aN)))(st:Option (List D))(eF:cl fns (d+9) 48 [.d (rs<*(aN*>nD))] [st]=qz (.d (F*>Ft.d),[st])) :
 cl fns (d+10) 75 [.d (rs<*(aN*>nD))] [st]=qz (.d (.tuple [zS rs (gP rs F (bG rs F aN)) aN,.tuple ((gP rs F (bG rs F aN)).map yD)]),[st]):=by
 let(hb,eA):=aIa (d+2) p hF aN ho [st];have eS:=aQE (d+4) p hF hb (aN*>nD) [st];have eM:=aSX (d+3) p hl g aN ho hol (F*>Ft.d) (.tuple ((bG rs F aN).map nD)) st;generalize zS rs (gP rs F (bG rs F aN)) aN=Z at eM ⊢;generalize yAn ((gP rs F (bG rs F aN)).map yD)=YY at eM eS ⊢;generalize yAn ((bG rs F aN).map nD)=MM at eM eS eA;generalize yAn [(rs*>Rw.d),(aN*>nD)]=P at eF eA eM eS ⊢;generalize yAn (F.map Ft.d)=FF at eF eA eM eS;have body:xs (d<$>9) aHr [qz (.d P),qx,qx,qx] [st]=qz (.rt (.d (.tuple [Z,YY])),[st]):=
  bQ (bT (aE (aC rfl) rfl) eF) rfl (bQ (bT (aE (aC rfl) (aE (aC rfl) rfl)) eA) rfl (bQ (bT (aE (aC rfl) (aE (aC rfl) (aE (aC rfl) rfl))) eS) rfl (bH (fB (aE (bT (aE (aC rfl) (aE (aC rfl) (aE (aC rfl) (aE (aC rfl) rfl)))) eM) (aE (aC rfl) rfl)) rfl (yAe rfl)))))
 exact cR rfl rfl rfl body rfl
section
variable {s:Sw}{n u tp t W B o Z:Nat}{rs:List Rw}(h:Ch s n u tp t W B rs o Z)
include h
theorem Ch.zl:Z<=↑rs:=by
 have n1:=h.n1;have gl:∀ {i:Nat}{r:Rw},rs[i]?=qz r->i<↑rs:=λ e=>(gIm e).1
 rcases h.out with ⟨a,b,e⟩|⟨a,b,_⟩
 .have:=gl e;omega
 .by_cases c:n-1=0
  .rcases h.wid with ⟨_,e1,e2⟩|⟨_,e1,_⟩
   .have:=gl (e2 (n-1) ());omega
   .have:=gl (h.ins (n-1) ());omega
  .have:=gl (h.wks (n-2) ());omega
theorem Ch.vo(is:List Nat):vx s n B Z is o=eI s is (n-1):=by
 have n1:=h.n1;have wbn:=h.wbn;rcases h.out with ⟨a,b,_⟩|⟨a,_,_⟩
 .unfold vx;rw[if_neg (),if_neg (),if_neg (),if_pos ()]
 .rw[a];exact h.bL () is
variable (hin:∀ (j:Nat)(r:Rw), Z <= j->rs[j]?=qz r->r=⟨.in, 1, []⟩){F:List Ft}(hF:↑F=↑rs)(ow:oJ rs F)
include hin hF ow
theorem Ch.yg:Yg rs (gP rs F (bG rs F [o])):=by
 have p:=h.prg;let(ro,hro,_):=h.ow;have bd:=aLb (F:=F) p (aN:=[o]) λ x hx=>by rw[List.mem_singleton.mp hx];exact(gIm hro).1
 have y:=h.sy hF ow;refine(aS1 p hF bd,λ k r q hr _ c=>?_,λ j hj=>?_,)
 .exfalso;rcases h.at hr with ⟨_,rfl⟩|⟨_,_,_,_,rfl⟩|⟨_,_,_,rfl⟩|⟨_,_,rfl⟩|⟨_,rfl|rfl|rfl|rfl⟩
  .cases c
  .cases c
  .cases s<;>cases c
  .cases c
  .cases c
  .cases c
  .cases c
  .cases c
 .have m:=h.mw y hin j hj;have c:=m.c;refine(m.l,c,by omega,λ a ha=>⟨?_⟩,);let(q,_,ey):=h.yb y hin (show a<↑rs by omega);let(p,hp,_):=m.p a ha;exact(_,ey,λ _ _ _=>(p,hp,),)
structure Lc(s:Sw)(n u tp t:Nat)(rs R:List Rw)(x:Nat):Prop where
 ok:pC [] R
 l:↑R<=121
 xl:x<↑R
 fi:R.filter cE=rs.filter cE
 v:∀ is,Iv n u is->g0 (rn R is) x=eI s is (n-1)%2^t
 fl:dX s R=(yAo (n-1)).map (λ k=>min t (kb s tp u (k+1)))
 fr:∀ r∈R,r.wd=s.wd\/r.wd=.in\/r.wd=.cut\/r.wd=.wide
theorem Ch.made:∃ (R:List Rw) (x:Nat),zS rs (gP rs F (bG rs F [o])) [o]=(R<*(.tuple ([x].map nD)))/\Lc s n u tp t rs R x:=by
 let(ro,hro,wo):=h.ow;have ol:=(gIm hro).1;have y:=h.sy hF ow;have zl:=h.zl;have zB:=h.zB;have tt:=h.tt;have tp2:=h.tp2;have len:=h.len;generalize gP rs F (bG rs F [o])=Y at y ⊢;have m:=h.mw y hin ↑rs (yAc _);let(p,hp,hw,pv):=m.p o ol;let(q,nq,ey):=h.yb y hin ol;let(g,X,eX,fX):=aBs m.g ey nq hp hw h.t1 (show t<=64 by omega);have c:=m.r;have r1:=g.r;refine(_,_,?_,g.g.ok,?_,rE g.w,?_,λ is hi=>?_,?_,?_,)
 .show yAn [.tuple ((dG Y (aQ rs Y ↑rs).1 (aQ rs Y ↑rs).2.1 (aQ rs Y ↑rs).2.2 [(o,g0 (~~~rs) o)]).2.1.map Rw.d),.tuple ((dG Y (aQ rs Y ↑rs).1 (aQ rs Y ↑rs).2.1 (aQ rs Y ↑rs).2.2 [(o,g0 (~~~rs) o)]).1.map nD)]=_;rw[eV hro,wo];rfl
 .omega
 .rw[g.ni,m.fi,yAi]
 .rw[g.v is hi,pv is hi];show vx s n B Z is o%2^t=_;rw[h.vo]
 .rw[eX,aBh _ (aEM fX),m.fl,show min (↑rs-B) (n-1)=n-1 by omega]
 .rw[eX];intro r hr;rcases List.mem_append.mp hr with z|z
  .exact m.fr r z
  .exact .inr (.inr (fX r z))
end
def aEo{W B:Nat}(hw:Bool):(dQ s n u tp W B hw).filter cE=yAf n (.in,u,[],):=by
 unfold dQ;have w0:((yAo (n-1)).map (fG s tp W B)).filter cE=[]:=List.filter_eq_nil_iff.mpr λ r hr=>by
  let(k,_,rfl):=List.mem_map.mp hr;intro z;have:=oqT z;cases s<;>cases this
 have i0:(yAf n ((.in,u,[],):Rw)).filter cE=yAf n (.in,u,[],):=List.filter_eq_self.mpr λ r hr=>by rw[(List.mem_replicate.mp hr).2];rfl
 rw[yBd,yBd,w0,i0,yAx];cases hw with
 |false=>exact yAx _
 |true=>
   rw[if_pos rfl,List.filter_eq_nil_iff.mpr,yAx];intro r hr;let(k,_,rfl):=List.mem_map.mp hr;exact λ z=>by cases z
def cW(s:Sw)(n u tp t:Nat)(tl:List Rw):List Rw:=dQ s n u tp n (2*n) true++[(.cut,t,[bI n (2*n) (n-1)],)]++tl
section
variable {s:Sw}{n u tp t:Nat}{tl:List Rw}(p:Pm s n u tp t)(ht:∀ r ∈ tl, vB u tp r)(hl:3 * n + ↑tl <= 40)
include p ht hl
theorem aKD:Ch s n u tp t n (2*n) (cW s n u tp t tl) (2*n+(n-1)) (2*n+(n-1)+1):=aMK p (.inl (rfl,rfl,rfl,)) (.inl (rfl,rfl,)) ht hl
theorem aTS(d:Nat)(st:Option (List D)):∃ (R:List Rw) (x:Nat),cl fns (d+11) 76 [.d (.tuple [.tuple ((cW s n u tp t tl).map Rw.d),.tuple ([2*n+(n-1)].map nD)])] [st]=qz (.d (R<*(.tuple ([x].map nD))),[st])/\Lc s n u tp t (cW s n u tp t tl) R x:=by
 have h:=aKD p ht hl;have n1:=p.n1;obtain⟨W,B,hw,e,eh⟩:∃ W B hw,WB n u tp W B hw/\(hw=true ↔ u≠tp):=by
  by_cases c:u=tp
  .exact(0,n,false,.inr (rfl,rfl,rfl,c,),((λ z=>by cases z),λ z=>absurd c z,),)
  .exact(n,2*n,true,.inl (rfl,rfl,rfl,),(λ _=>c,λ _=>rfl,),)
 have pr:=h.prg;have dr:(cW s n u tp t tl).drop (2*n+(n-1)+1)=tl:=by
  have:↑(dQ s n u tp n (2*n) true++[((.cut,t,[bI n (2*n) (n-1)],):Rw)])=2*n+(n-1)+1:=by
   unfold dQ;simp;omega
  unfold cW;rw[<- this,List.drop_left]
 have lr:↑(cW s n u tp t tl)=2*n+(n-1)+1+↑tl:=by
  have:=congrArg yGc dr;rw[yFg] at this;have:=h.zl;omega
 let(F,hF,_,ow,eF):=aGU d (cW s n u tp t tl) (.tuple ([2*n+(n-1)].map nD)) pr [st];let(c,o',hc,i1,i2,i3):=h.t4_ hF ow e eh rfl;let(j1,j2,_):=h.t5_ hF ow i1 i3 i2 dr ↑tl (yAc _);rw[yAi] at j1;rw[<- lr] at j1 j2;have tk:=aQf d pr hF [2*n+(n-1)] (λ x hx=>by rw[List.mem_singleton.mp hx];omega) (yAe rfl) st eF;have ht':∀ r∈tl.filter cE,r=⟨.in,1,[]⟩:=λ r hr=>by
  let(h1,h2):=List.mem_filter.mp hr;rcases ht r h1 with rfl|rfl|rfl|rfl
  .cases h2
  .rfl
  .cases h2
  .cases h2
 have h2:=aMK (c:=c) (o:=o') (tl:=tl.filter cE) p e hc (λ r hr=>.inr (.inl (ht' r hr))) (by have:=List.length_filter_le cE tl;omega);have cl0:↑(dQ s n u tp W B hw++c)=B+(n-1)+↑c:=by
  have:=@wE n u tp _ _ _ e;unfold dQ;rw[yAj,yAj,this,yAa,yAs]
 have tD:aFS (bS (cW s n u tp t tl) F (bG (cW s n u tp t tl) F [2*n+(n-1)]) ↑(cW s n u tp t tl)) [2*n+(n-1)]=.tuple [.tuple [.tuple ((dQ s n u tp W B hw++c++tl.filter cE).map Rw.d),.tuple ([o'].map nD)],.tuple ((bS (cW s n u tp t tl) F (bG (cW s n u tp t tl) F [2*n+(n-1)]) ↑(cW s n u tp t tl)).V.map vD)]:=by
  unfold aFS;rw[j1,yAz,show tA ∘ gF=Rw.d from funext aMC];show yAn [.tuple [_,.tuple [aT (pg _ _)]],_]=_;rw[j2];rfl
 rw[tD] at tk;have hin:∀ (j:Nat) (r:Rw),B+(n-1)+↑c<=j->(dQ s n u tp W B hw++c++tl.filter cE)[j]?=qz r->r=⟨.in,1,[]⟩:=λ j r hj hr=>by
  rw[yAd ()] at hr;exact ht' r (xAk hr)
 have fe:(dQ s n u tp W B hw++c++tl.filter cE).filter cE=(cW s n u tp t tl).filter cE:=by
  have c0:c.filter cE=[]:=by rcases hc with ⟨rfl,_⟩|⟨rfl,_⟩<;>rfl
  unfold cW;rw[yBd,yBd,aEo,c0,yBd,yBd,aEo,List.filter_filter];simp only[Bool.and_self];rfl
 generalize dQ s n u tp W B hw++c++tl.filter cE=T at h2 tk hin fe;let(G,hG,_,oG,eG):=aGU d T (.tuple ([o'].map nD)) h2.prg [st];have yg:=h2.yg hin hG oG;let(ro,hro,_):=h2.ow;have nk:=aO7 d h2.prg (by have:=h2.len;omega) hG [o'] (λ x hx=>by rw[List.mem_singleton.mp hx];exact(gIm hro).1) (yAe rfl) yg st eG;let(R,x,em,lc):=h2.made hin hG oG;rw[em] at nk;refine(R,x,?_,lc.ok,lc.l,lc.xl,lc.fi.trans fe,lc.v,lc.fl,lc.fr,);generalize yAn [(T*>Rw.d),.tuple ([o'].map nD)]=P1 at tk nk;generalize yAn [(R*>Rw.d),.tuple ([x].map nD)]=P2 at nk ⊢;generalize yAn [.tuple ((cW s n u tp t tl).map Rw.d),.tuple ([2*n+(n-1)].map nD)]=P0 at tk ⊢;exact cR rfl rfl rfl (bH (bY (bT (aE (bY (bT (aE (aC rfl) aO) tk) aJ rfl rfl) aO) nk) aJ rfl rfl)) rfl
end
def aC0:∀ (rs:List Rw) (W is aI:List Nat),iF rs W is (yAf ↑rs 0) aI=dB rs W is aI
 |[],_,_,_=>rfl
 |r::rs,W,is,aI=>by
   rw[yAr,yBe,iF,dB,Nat.xor_zero,Nat.xor_zero,aC0 rs,aC0 rs]
def aJh(d:Nat){rs:List Rw}(pl:↑rs<=250)(pf:kS rs)(hi:eD rs is)(ho:∀ o∈aN,o<↑rs)(hol:↑aN<=8)(S:aD):cl fns (d+8) 87 [.d (rs<*(aN*>nD)),.d (is*>nD)] S=qz (.d (.tuple ((aN.map (g0 (rn rs is))).map nD)),S):=by have rg:=aTj d rs (aN*>nD) is pl pf hi S;rw[aC0] at rg;have oo:=aPQ (d+6) (rs*>Rw.d) aN (rn rs is) (by rw[xC];exact ho) hol S;generalize yAn [(rs*>Rw.d),(aN*>nD)]=P at *;generalize yAn (is.map nD)=I at *;generalize yAn ((aN.map (g0 (rn rs is))).map nD)=O at *;have rg:cl fns (d+7) 85 [.d P,.d I] S=qz (.d (.tuple ((rn rs is).map nD)),S):=rg;generalize yAn ((rn rs is).map nD)=N at *;exact cR rfl rfl rfl (bH (bT (aE (aC rfl) (aE (bT (aE (aC rfl) (aE (aC rfl) aO)) rg) aO)) oo)) yAi
section
variable {s:Sw}{n u tp t W B o Z:Nat}{rs:List Rw}(h:Ch s n u tp t W B rs o Z)(is:List Nat)
include h
theorem Ch.nin:∀ k,k<=n->K95.nin (rs.take k)=k
 |0,_=>rfl
 |k+1,hk=>by
   rw[aMH (h.ins k hk),aDK,Ch.nin k ()];rfl
theorem Ch.v0(hk:k<n):g0 (rn rs is) k=g0 is k:=by rw[aUH (h.ins k hk) rfl,h.nin k ()]
theorem Ch.vW(hk:k<n):g0 (rn rs is) (W+k)=g0 is k:=by
 rcases h.wid with ⟨rfl,_,e⟩|⟨rfl,_,_⟩
 .rw[aDS h.prg (e k hk) (λ z=>by cases z)];exact h.v0 is hk
 .rw[yBz];exact h.v0 is hk
theorem Ch.vK:∀ k,k<n->g0 (rn rs is) (bI W B k)%2^tp=eI s is k%2^tp
 |0,hk=>by
   show g0 (rn rs is) (W+0)%2^tp=_;rw[h.vW is hk];rfl
 |k+1,hk=>by
   have ih:=Ch.vK k ();have iw:=h.vW is hk;rw[show W+(k+1)=W+1+k by omega] at iw;have hr:=h.wks k hk;let(a,b,e,ab):=qZ s tp W B k;rw[e] at hr;rw[show bI W B (k+1)=B+k by unfold bI;rw[if_neg ()];omega,aDS h.prg hr (by cases s<;>exact λ z=>by cases z),aBq,aBq];have wk:∀ x y:Nat,fF ⟨s.wd,tp,[a,b]⟩ [g0 (wQ rs) a,g0 (wQ rs) b] [x,y]=sD s.wd tp x y:=λ x y=>by cases s<;>rfl
   rw[wk,aMi h.ns,Nat.mod_mod,<- aEd];show _=jn s (eI s is k) (g0 is (k+1))%2^tp;rw[<- aEd s (eI s is k)];rcases ab with ⟨rfl,rfl⟩|⟨rfl,rfl⟩
   .rw[ih,iw]
   .rw[ih,iw,aD5]
theorem Ch.vC(ho:o=B+(n-1))(hr:rs[o]?=qz (.cut,t,[bI W B (n-1)],)):g0 (rn rs is) o=eI s is (n-1)%2^t:=by have n1:=h.n1;rw[aDS h.prg hr (λ z=>by cases z)];show g0 (rn rs is) (bI W B (n-1))%2^t=_;rw[<- yDy _ (yEd 2 h.tt),h.vK is (n-1) (),yDy _ (yEd 2 h.tt)]
end
def mT(r:Rw):Nat:=match r.wd with
 |.not=>r.w
 |.add|.sub=>2*r.w
 |.mul=>r.w*r.w|_=>0
def pq1(a:Wd):aP .In (.str a.s) (.tuple [.str "not",.str "and",.str "or",.str "xor",.str "pick"])=qz (.bool (decide (a=.not\/a=.and\/a=.or\/a=.xor\/a=.pick))):=by cases a<;>rfl
def pq3(a:Wd):aP .In (.str a.s) (.tuple [.str "add",.str "sub"])=qz (.bool (decide (a=.add\/a=.sub))):=by cases a<;>rfl
def aQa(d:Nat)(r:Rw)(hw:r.w<=64)(hr:r.wd=.in\/r.wd=.num\/r.wd=.not\/r.wd=.cut\/r.wd=.wide\/r.wd=.add\/r.wd=.sub\/r.wd=.mul)(ws:D)(S:aD):cl fns (d+1) 77 [.d r.d,.d ws] S=qz (.d (.int (mT r:Nat)),S):=by
 have go:∀ {x:D},xs (aF fns d) (bJ (bJ sR)) [qz (.d r.d),qz (.d ws),qz (.d (.str r.wd.s)),(r.w:)] S=qz (.rt (.d x),S)->cl fns (d+1) 77 [.d r.d,.d ws] S=qz (.d x,S):=λ h=>cR rfl rfl rfl (bQ (bY (aC rfl) aJ rfl (jS r)) rfl (bQ (bY (aC rfl) aJ rfl (jQ r)) rfl h)) yAi
 have b2:bO .Mult (.int 2) (.int r.w)=qz (.int ((2*r.w:Nat):Int)):=by rw[@lT 2 _ (·) (·)];rfl
 have b3:bO .Mult (.int r.w) (.int r.w)=qz (.int ((r.w*r.w:Nat):Int)):=by rw[@lT (r.w:Int) (r.w:Int) () ()];rfl
 have p1:=pq1 r.wd;have p2:=aDJ r.wd;have p3:=pq3 r.wd;have p4:aP .Eq (.str r.wd.s) (.str "mul")=qz (.bool (decide (r.wd=.mul))):=cG r.wd .mul;have n1:∀ {z:Option (Fl×aD)},decide (r.wd=.not\/r.wd=.and\/r.wd=.or\/r.wd=.xor\/r.wd=.pick)=false->decide (r.wd=.same\/r.wd=.less\/r.wd=.under)=false->xs (aF fns d) (bJ (bJ (bJ (bJ sR)))) [qz (.d r.d),qz (.d ws),qz (.d (.str r.wd.s)),(r.w:)] S=z->xs (aF fns d) (bJ (bJ sR)) [qz (.d r.d),qz (.d ws),qz (.d (.str r.wd.s)),(r.w:)] S=z:=λ a b k=>bF (bM (aC rfl) rfl (kA p1 a)) (bF (bM (aC rfl) rfl (kA p2 b)) k)
 have n3:∀ {z:Option (Fl×aD)},decide (r.wd=.not\/r.wd=.and\/r.wd=.or\/r.wd=.xor\/r.wd=.pick)=false->decide (r.wd=.same\/r.wd=.less\/r.wd=.under)=false->decide (r.wd=.add\/r.wd=.sub)=false->xs (aF fns d) (bJ (bJ (bJ (bJ (bJ sR))))) [qz (.d r.d),qz (.d ws),qz (.d (.str r.wd.s)),(r.w:)] S=z->xs (aF fns d) (bJ (bJ sR)) [qz (.d r.d),qz (.d ws),qz (.d (.str r.wd.s)),(r.w:)] S=z:=λ a b c k=>n1 a b (bF (bM (aC rfl) rfl (kA p3 c)) k)
 have z0:decide (r.wd=.not\/r.wd=.and\/r.wd=.or\/r.wd=.xor\/r.wd=.pick)=false->decide (r.wd=.same\/r.wd=.less\/r.wd=.under)=false->decide (r.wd=.add\/r.wd=.sub)=false->decide (r.wd=.mul)=false->cl fns (d+1) 77 [.d r.d,.d ws] S=qz (.d (.int ((0:Nat):Int)),S):=λ a b c e=>go (n3 a b c (bF (bM (aC rfl) cO (kA p4 e)) (bH aJ)))
 let(wd,w,args):=r;dsimp only at hr;rcases hr with rfl|rfl|rfl|rfl|rfl|rfl|rfl|rfl
 .exact z0 rfl rfl rfl rfl
 .exact z0 rfl rfl rfl rfl
 .exact go (cF (bM (aC rfl) rfl (qB p1 rfl)) (bH (aC rfl)))
 .exact z0 rfl rfl rfl rfl
 .exact z0 rfl rfl rfl rfl
 .exact go (n1 rfl rfl (cF (bM (aC rfl) rfl (qB p3 rfl)) (bH (aU aJ (aC rfl) b2))))
 .exact go (n1 rfl rfl (cF (bM (aC rfl) rfl (qB p3 rfl)) (bH (aU aJ (aC rfl) b2))))
 .exact go (n3 rfl rfl rfl (cF (bM (aC rfl) cO (qB p4 rfl)) (bH (aU (aC rfl) (aC rfl) b3))))
def aHD:∀ l:List Nat,(l.map λ n:Nat=>(n:Int)).sum=((l.sum:Nat):Int)
 |[]=>rfl|a::l=>by rw[yAm,yGm,yGm,aHD l];omega
def aEp(l:List Nat):aB3 [.list (l.map nD)]=qz (.int ((l.sum:Nat):Int)):=by show(iZ (l.map nD)).bind (λ l=>qz (yAt l.sum))=_;rw[aAD,oB,aHD]
def aIF(d:Nat)(rs:List Rw)(o:D)(hr:∀ r∈rs,r.w<=64/\(r.wd=.in\/r.wd=.num\/r.wd=.not\/r.wd=.cut\/r.wd=.wide\/r.wd=.add\/r.wd=.sub\/r.wd=.mul))(hl:↑rs<=1000)(S:aD):cl fns (d+2) 78 [.d (rs<*o)] S=qz (.d (.int (((rs.map mT).sum:Nat):Int)),S):=by
 have wo:=aAn d rs o hl S;have i0:aV (rs<*o) (.int 0)=qz (rs*>Rw.d):=rfl;generalize yAn [(rs*>Rw.d),o]=P at wo i0 ⊢;generalize yAn ((~~~rs).map nD)=Q at wo;have hc:lv (d<$>1) aHC [qz (.d P),qz (.d Q),qx] S=qz ((rs.map mT).map nD,S):=by
  rw[yAz];exact lU (fi:=lv (d<$>1) (.it (.ix (.var 0) (.int 0)))) (fe:=ev (d<$>1) (.call 77 (.cons (.var 2) (.cons (.var 1) .nil)))) Rw.d (nD ∘ mT) rs (aBu (bY (aC rfl) aJ rfl i0)) (by rw[zj];omega) λ r h=>(_,rfl,λ S'=>bT (aE (aC rfl) (aE (aC rfl) aO)) (aQa d r (hr r h).1 (hr r h).2 Q S'),)
 exact cR rfl rfl rfl (bQ (bT (aE (aC rfl) aO) wo) rfl (bH (cT (aE (fM hc) aO) (cM cU dA) (aEp _)))) yAi
noncomputable abbrev sT(T:aD)(ns:List Int)(k:Nat)(x:Int):aD:=qz (cJ ns k x)::T
def aML(T:aD)(ns:List Int)(k:Nat)(x:Int)(h:↑T<=40):eZ (qx::T) 0 50 ns k x []=sT T ns k x:=by unfold eZ;rw[yDc,yDb];simp;omega
def aZ8(T:aD)(h:↑T<=40):At0 (qx::T) 0 50:=(by simp,by decide,)
def aYa{x:Int}(T:aD)(hT:↑T<=40)(d w:Nat)(hw:1<=w)(qJ:w<=64)(hk:k<=98000):∃ (r k':Nat) (x':Int),r<2^w/\k'<=k+5/\cl fns (d+3) 90 [.loc 0,.d (.int w)] (sT T ns k x)=qz (.d (.int r),sT T ns k' x'):=by let(r,k',x',hr,hk',e):=@aVp _ _ _ k ns [] x (aZ8 T hT) d w hw qJ hk;rw[aML T _ _ _ hT,aML T _ _ _ hT] at e;exact(r,k',x',hr,hk',e,)
def aD8:∀ L:List Nat,PyData.eqvAll (L.map nD) (L.map nD)=true
 |[]=>rfl
 |a::r=>by
   have ih:=aD8 r;simp only[yAm,PyData.eqvAll,ih,yDh];simp[nD,yEm]
def aLo(L:List Nat):yIh (L.map nD)+1<=60:=by rw[aIk];decide
def aWo(L:List Nat):aP .NotEq (L*>nD) (L*>nD)=qz (.bool false):=by
 have h1:(yAn (L.map nD)).canLay0=true:=aEb L;have h2:(yAn (L.map nD)).depth<=60:=aLo L;have h3:yEm (L*>nD) (L*>nD)=true:=by
  have:=aD8 L;simp only[yEm,this]
 unfold aP uQ;simp only[];rw[if_pos (h1,h1,h2,),h3];rfl
def aSc(L:List Nat):aP .NotEq (.list (L.map nD)) (.list (L.map nD))=qz (.bool false):=by
 have h1:(yGd (L.map nD)).canLay0=true:=aEb L;have h2:(yGd (L.map nD)).depth<=60:=aLo L;have h3:yEm (.list (L.map nD)) (.list (L.map nD))=true:=by
  have:=aD8 L;simp only[yEm,this]
 unfold aP uQ;simp only[];rw[if_pos (h1,h1,h2,),h3];rfl
def aWl(ha:ev C a env S=qz (wa,S1))(hb:ev C b env S1=qz (wb,S2))(hx:dr S2 wa=qz x)(hy:dr S2 wb=qz y)(hz:bO op x y=qz z):ev C (.bin op a b) env S=qz (.d z,S2):=by simp only[aEy,pX,f2,ha,oB,hb,hU,hx,hy,hz]
def aWH{a b:E}{env:bB}{S S1 S2:aD}{xs ys:List D}(ha:ev C a env S=qz (.d (.list xs),S1))(hb:ev C b env S1=qz (.d (.list ys),S2))(hz:↑xs+↑ys<=1000):lv C (.lcat a b) env S=qz (xs++ys,S2):=by show aCc (ev C a) (ev C b) env S=_;unfold aCc;rw[ha,oB];dsimp only;rw[hb,oB];show(if ↑xs+↑ys<=qo then qz (xs++ys,S2) else qx)=_;rw[if_pos (by rw[zj];omega)]
def aVw{fs:List Fn}{f d:Nat}{F:Fn}{ws:List W}{env:bB}{S:aD}{l:List D}(h:fs[f]?=qz F)(hw:↑ws=F.np)(he:ws.map qz++yAf (↑F.N-↑ws) qx=env)(k:xs (aF fs d) F.body env S=qz (.rt (.loc ↑S),S++[qz l])):cl fs (d+1) f ws S=qz (.d (.list l),S):=by subst he;rw[bX h d ws S hw];have tk:(S++[qz l]).take ↑S=S:=yGf;simp only[gW,k,oB,pR,qR,tk,yCs,if_false]
def aKo(s:Sw)(hs:s≠.sub):aP .Eq (.str s.wd.s) (.str "add")=qz (.bool (decide (s.wd=.add))):=by
 cases s with
 |add=>exact cG .add .add|sub=>exact absurd rfl hs|mul=>exact cG .mul .add
def aHW(d:Nat)(hs:s≠.sub)(a b:Nat)(hb:b<2^64)(S:aD):cl fns (d+1) 92 [.d (.str s.wd.s),.d (.int a),.d (.int b)] S=qz (.d (.int (jn s a b:Nat)),S):=by
 have c:=aKo s hs;cases s with
 |add=>exact cR rfl rfl rfl (cF (bM (aC rfl) cO c) (bH (aU (aC rfl) (aC rfl) (jX a b)))) yAi|sub=>exact absurd rfl hs|mul=>exact cR rfl rfl rfl (bF (bM (aC rfl) cO c) (bH (aU (aC rfl) (aC rfl) (by rw[aAW () ()];rfl)))) yAi
def oU(u tp:Nat):List Rw:=[(.num,tp,[1],),(.in,1,[],),(.not,u,[0],),(.sub,u,[0,0],)]
def aLP(a b:D)(j:Nat):aV (.list [a,b]) (.int ((j:Int)%2))=qz (if j%2=0 then a else b):=by
 by_cases c:j%2=0
 .rw[if_pos c,show(j:Int)%2=0 by omega];rfl
 .rw[if_neg c,show(j:Int)%2=1 by omega];rfl
noncomputable abbrev eC(s:Sw)(n u tp t idle l k:Nat)(c8 c9:Option W):bB:=[qz (.d (.str s.wd.s)),(n:),(u:),(tp:),(t:),(idle:),#[l],(k:),c8,c9]
def aLO(l:List D):jI [.list l]=qz (.int ((↑l:Nat):Int)):=rfl
def aQ6(d:Nat)(p:Pm s n u tp t)(idle:Nat)(hi:idle<=4)(st:Option (List D)):cl fns (d+1) 91 [.d (.str s.wd.s),.d (.int n),.d (.int u),.d (.int tp),.d (.int t),.d (.int idle)] [st]=qz (.d (.tuple [.tuple ((cW s n u tp t ((oU u tp).take idle)).map Rw.d),.tuple ([2*n+(n-1)].map nD)]),[st]):=by
 have n1:=p.n1;have n2:=p.n2;have c0:lv (aF fns d) aCH [qz (.d (.str s.wd.s)),(n:),(u:),(tp:),(t:),(idle:),qx,qx,qx,qx] [st]=qz ((yAo n).map (λ _=>(Rw.mk .in u []).d),[st]):=
  lU (fi:=lv (aF fns d) (.rng1 (.var 1))) (fe:=ev (aF fns d) (.tup (.cons (.str "in") (.cons (.var 2) .nil)))) (λ k:Nat=>yAt (k:Nat)) (λ _=>(Rw.mk .in u []).d) (yAo n) (sN (aC rfl) ()) (by rw[yAs,zj];omega) λ k hk=>(_,rfl,λ S'=>fB (aE cO (aE (aC rfl) aO)) rfl (yAe rfl),)
 have c1:lv (aF fns d) aCG [qz (.d (.str s.wd.s)),(n:),(u:),(tp:),(t:),(idle:),qx,qx,qx,qx] [st]=qz ((yAo n).map (λ k=>(Rw.mk .wide tp [k]).d),[st]):=
  lU (fi:=lv (aF fns d) (.rng1 (.var 1))) (fe:=ev (aF fns d) (.tup (.cons (.str "wide") (.cons (.var 3) (.cons (.var 8) .nil))))) (λ k:Nat=>yAt (k:Nat)) (λ k=>(Rw.mk .wide tp [k]).d) (yAo n) (sN (aC rfl) ()) (by rw[yAs,zj];omega) λ k hk=>(_,rfl,λ S'=>fB (aE cO (aE (aC rfl) (aE (aC rfl) aO))) rfl (yAe rfl),)
 have e0:(yAo n).map (λ _=>(Rw.mk .in u []).d)++(yAo n).map (λ k=>(Rw.mk .wide tp [k]).d)=(BL n u tp true n).map Rw.d:=by
  unfold BL;rw[if_pos rfl,yAk,yAz,yEo,List.map_const',yAs];rfl
 have bl:↑(BL n u tp true n)=2*n:=wE (W:=n) (.inl (rfl,rfl,rfl,));let(env1,S1,p1,c8,rfl,rfl):=kM (t:=.one 8) (fi:=lv (aF fns d) aGF) (fb:=xs (aF fns d) aGG) (env:=eC s n u tp t idle 1 n qx qx) (S:=[st,qz ((BL n u tp true n).map Rw.d)]) (S1:=[st,qz ((BL n u tp true n).map Rw.d)]) (ds:=(yAo (n-1)).map λ k=>yAt (k:Nat))
  (λ j env S'=>∃ c8:Option W,env=eC s n u tp t idle 1 (bI n (2*n) j) c8 qx/\S'=[st,qz ((BL n u tp true n++(yAo j).map (fG s tp n (2*n))).map Rw.d)])
  (sN (aU (aC rfl) aJ (mK n1)) ()) (qx,rfl,by simp,) (by
    rintro j dd env S' hd ⟨c8,rfl,rfl⟩;let(hj,rfl):=aDj hd;have md:bO .Mod (.int j) (.int 2)=qz (.int ((j:Int)%2)):=tE (·);have ad:bO .Add (.int ((n+1:Nat):Int)) (.int j)=qz (.int ((n+1+j:Nat):Int)):=jX (n+1) j;have a1:bO .Add (.int n) (.int 1)=qz (.int ((n+1:Nat):Int)):=jX n 1;have row:yAn [.str s.wd.s,.int tp,if j%2=0 then .int (bI n (2*n) j:Nat) else .int ((n+1+j:Nat):Int),if j%2=0 then .int ((n+1+j:Nat):Int) else .int (bI n (2*n) j:Nat)]=(fG s tp n (2*n) j).d:=by
     unfold fG;by_cases c:j%2=0
     .rw[if_pos c,if_pos c,if_pos c];rfl
     .rw[if_neg c,if_neg c,if_neg c];rfl
    have ll:↑((BL n u tp true n++(yAo j).map (fG s tp n (2*n))).map Rw.d)=2*n+j:=by rw[yAa,yAj,bl,yAa,yAs]
    have ap:dO [st,qz ((BL n u tp true n++(yAo j).map (fG s tp n (2*n))).map Rw.d)] (.loc 1) (.d (.tuple [.str s.wd.s,.int tp,if j%2=0 then .int (bI n (2*n) j:Nat) else .int ((n+1+j:Nat):Int),if j%2=0 then .int ((n+1+j:Nat):Int) else .int (bI n (2*n) j:Nat)]))=qz (.d .none,[st,qz ((BL n u tp true n++(yAo (j+1)).map (fG s tp n (2*n))).map Rw.d)]):=by
     rw[row,nI,<- yAq,yAk (l₁:=BL n u tp true n++_)];exact wC [st] _ _ ()
    have l2:↑((BL n u tp true n++(yAo (j+1)).map (fG s tp n (2*n))).map Rw.d)=2*n+j+1:=by rw[yAa,yAj,bl,yAa,yAs,yHv]
    have sb:bO .Sub (.int ((↑((BL n u tp true n++(yAo (j+1)).map (fG s tp n (2*n))).map Rw.d):Nat):Int)) (.int 1)=qz (.int ((bI n (2*n) (j+1):Nat):Int)):=by
     rw[l2,show bI n (2*n) (j+1)=2*n+j by unfold bI;rw[if_neg ()];omega];exact @mK (2*n+j+1) 1 ()
    exact(_,_,_,rfl,dN (rB (rJ (aC rfl) (fB (aE (aC rfl) (aE (aC rfl) (aE (bY (fM (kQ (aE (aC rfl) (aE (aU (aU (aC rfl) aJ a1) (aC rfl) ad) aO)) rfl (yAe rfl))) (aU (aC rfl) aJ md) rfl (aLP _ _ j)) (aE (bY (fM (kQ (aE (aU (aU (aC rfl) aJ a1) (aC rfl) ad) (aE (aC rfl) aO)) rfl (yAe rfl))) (aU (aC rfl) aJ md) rfl (aLP _ _ j)) aO)))) rfl (yAe rfl)) ap)) (tM (aU (cT (aE (aC rfl) aO) (cM (iB rfl) dA) (aLO _)) aJ sb)),_,rfl,rfl,))
 rw[yAa,yAs] at p1;have cb:BL n u tp true n++(yAo (n-1)).map (fG s tp n (2*n))=dQ s n u tp n (2*n) true:=rfl;rw[cb] at p1;have cl0:↑(dQ s n u tp n (2*n) true)=2*n+(n-1):=by rw[<- cb,yAj,bl,yAa,yAs]
 have ap:dO [st,qz ((dQ s n u tp n (2*n) true).map Rw.d)] (.loc 1) (.d (.tuple [.str "cut",.int t,.int (bI n (2*n) (n-1):Nat)]))=qz (.d .none,[st,qz ((dQ s n u tp n (2*n) true++[((.cut,t,[bI n (2*n) (n-1)],):Rw)]).map Rw.d)]):=by
  rw[yAk];exact wC [st] _ _ (by rw[yAa];omega)
 have l2:↑((dQ s n u tp n (2*n) true++[((.cut,t,[bI n (2*n) (n-1)],):Rw)]).map Rw.d)=2*n+(n-1)+1:=by rw[yAa,yAj,cl0];rfl
 have sl:slD (.list ((oU u tp).map Rw.d)) qx (qz (idle:Int))=qz (.list (((oU u tp).take idle).map Rw.d)):=by
  show qz (yGd (eE ((oU u tp).map Rw.d) qx (qz (idle:Int))))=_;rw[aMr,List.map_take]
 have tk:↑((oU u tp).take idle)<=4:=by rw[yBg];omega
 have ct:bO .Add (.list ((dQ s n u tp n (2*n) true++[((.cut,t,[bI n (2*n) (n-1)],):Rw)]).map Rw.d)) (.list (((oU u tp).take idle).map Rw.d))=qz (.list ((cW s n u tp t ((oU u tp).take idle)).map Rw.d)):=by
  rw[aUl (by rw[l2,yAa];omega),<- yAk];rfl
 have sb:bO .Sub (.int ((↑((dQ s n u tp n (2*n) true++[((.cut,t,[bI n (2*n) (n-1)],):Rw)]).map Rw.d):Nat):Int)) (.int 1)=qz (.int ((2*n+(n-1):Nat):Int)):=by
  rw[l2];exact @mK (2*n+(n-1)+1) 1 ()
 have nw:ev (aF fns d) (.new (.lcat (.fz aCH) (.fz aCG))) [qz (.d (.str s.wd.s)),(n:),(u:),(tp:),(t:),(idle:),qx,qx,qx,qx] [st]=qz (.loc 1,[st,qz ((BL n u tp true n).map Rw.d)]):=by
  rw[<- e0];exact tU (aWH (fM c0) (fM c1) (by simp;omega))
 exact cR rfl rfl rfl (bQ nw rfl (bQ (aC rfl) rfl (dN (qY p1) (dN (rB (rJ (aC rfl) (fB (aE cO (aE (aC rfl) (aE (aC rfl) aO))) rfl (yAe rfl)) ap)) (bQ (yQ (fM (kQ (aE (fB (aE cO (aE (aC rfl) (aE aJ aO))) rfl (yAe rfl)) (aE (fB (aE cO (aE aJ aO)) rfl (yAe rfl)) (aE (fB (aE cO (aE (aC rfl) (aE aJ aO))) rfl (yAe rfl)) (aE (fB (aE cO (aE (aC rfl) (aE aJ (aE aJ aO)))) rfl (yAe rfl)) aO)))) rfl (yAe rfl))) zA (wW (aC rfl)) rfl sl) rfl (bH (fB (aE (cT (aE (aWl (aC rfl) (aC rfl) (iB rfl) cU ct) aO) (cM cU dA) lZ) (aE (fB (aE (aU (cT (aE (aC rfl) aO) (cM (iB rfl) dA) (aLO _)) aJ sb) aO) rfl (yAe rfl)) aO)) rfl (yAe rfl)))))))) rfl
def dY(s:Sw)(u tp t j:Nat):List Nat:=(yAo j).map λ k=>min t (kb s tp u (k+1))
noncomputable abbrev eV5(s:Sw)(n u tp t l v:Nat)(c7 c8:Option W):bB:=[qz (.d (.str s.wd.s)),(n:),(u:),(tp:),(t:),#[l],(v:),c7,c8]
def aVE(h:i<bl m):2^i<=m:=by
 have hm:m≠0:=λ z=>by rw[z] at h;exact absurd h (yCa i)
 have:=Nat.ge_two_pow_of_testBit (aLg hm);exact xAh (yAh (·) ()) this
def aQv(d:Nat)(p:Pm s n u tp t)(st:Option (List D)):cl fns (d+2) 93 [.d (.str s.wd.s),.d (.int n),.d (.int u),.d (.int tp),.d (.int t)] [st]=qz (.d (.list ((dY s u tp t (n-1)).map nD)),[st]):=by
 have n1:=p.n1;have n2:=p.n2;have u1:=p.u1;have ut:=p.ut;have tp2:=p.tp2;have kbd:∀ k,u<=kb s tp u k/\kb s tp u k<=tp:=λ k=>by
  induction k with
  |zero=>exact(yAc _,ut,)|succ k ih=>exact(xAh ih.1 (aBR p.ns (xAh u1 ih.1) u1 ih.2),yBh ..,)
 let(env1,S1,p1,c7,c8,rfl,rfl):=kM (t:=.one 7) (fi:=lv (d<$>1) aGy) (fb:=xs (d<$>1) aGx) (env:=eV5 s n u tp t 1 u qx qx) (S:=[st,qz []]) (S1:=[st,qz []]) (ds:=(yAo (n-1)).map λ k=>yAt (k:Nat))
  (λ j env S'=>∃ c7 c8:Option W,env=eV5 s n u tp t 1 (kb s tp u j) c7 c8/\S'=[st,qz ((dY s u tp t j).map nD)])
  (sN (aU (aC rfl) aJ (mK n1)) ()) (qx,qx,rfl,rfl,) (by
    rintro j dd env S' hd ⟨c7,c8,rfl,rfl⟩;let(hj,rfl):=aDj hd;let(b1,b2):=kbd j;have pw:=xAe (kb s tp u j);have pu:=xAe u;have ul:2^u<=2^64:=yAh (·) ();have jk:=aHW d p.ns (2^kb s tp u j-1) (2^u-1) () [st,qz ((dY s u tp t j).map nD)];have k1:kb s tp u (j+1)=min tp (bl (jn s (2^kb s tp u j-1) (2^u-1))):=rfl;have k2:=(kbd (j+1)).1;have lt:=mC (jn s (2^kb s tp u j-1) (2^u-1));have gt:=λ i=>aVE (m:=jn s (2^kb s tp u j-1) (2^u-1)) (i:=i)
    generalize jn s (2^kb s tp u j-1) (2^u-1)=m at jk k1 lt gt;obtain⟨v,ev⟩:∃ v,v=kb s tp u (j+1):=(_,rfl,);rw[<- ev] at k1 k2;have wh:=@aJg (tv (d<$>1) aGw) (xs (d<$>1) aGu) (λ i=>(eV5 s n u tp t 1 i ((j:)) ((m:)),[st,qz ((dY s u tp t j).map nD)])) (v-1) 100000 1 () (λ i h1 h2=>by
     have:=gt i ()
     exact(nC (bM (aC rfl) (aC rfl) (uJ ())) (bM (aC rfl) (aU aJ (aC rfl) (iX ())) (by rw[aK0,dqT (Int.ofNat_le.mpr this)])),tM (aU (aC rfl) aJ (jX i 1)),)) (by
     rw[show 1+(v-1)=v by omega];by_cases c:v<tp
     .rw[show bl m=v by omega] at lt;exact nC (bM (aC rfl) (aC rfl) (uJ ())) (bM (aC rfl) (aU aJ (aC rfl) (iX ())) (by rw[aK0,dqF λ z=>absurd (Int.ofNat_le.mp z) ()]))
     .exact nC (p:=false) (bM (aC rfl) (aC rfl) (zL ())) rfl)
    rw[show 1+(v-1)=v by omega] at wh;have ap:dO [st,qz ((dY s u tp t j).map nD)] (.loc 1) (.d (.int ((min t v:Nat):Int)))=qz (.d .none,[st,qz ((dY s u tp t j++[min t v]).map nD)]):=by
     rw[yAk];exact wC [st] _ _ (by rw[yAa];unfold dY;rw[yAa,yAs];omega)
    refine(_,eV5 s n u tp t 1 v ((j:)) ((m:)),[st,qz ((dY s u tp t j++[min t v]).map nD)],rfl,bQ (bT (aE (aC rfl) (aE (aU (aU aJ (aC rfl) (iX ())) aJ (mK pw)) (aE (aU (aU aJ (aC rfl) (iX ())) aJ (mK pu)) aO))) jk) rfl (bQ aJ rfl (dN (aNz wh) (pF (rB (rJ (aC rfl) (cT (aE (aC rfl) (aE (aC rfl) aO)) (cM cU (cM cU dA)) (zP t v)) ap))))),(j:),(m:),?_,?_,)
    .rw[ev]
    .unfold dY;rw[nI,ev])
 rw[yAa,yAs] at p1;exact aVw (S:=[st]) rfl rfl rfl (bQ (tU (kQ aO rfl (yAe rfl))) rfl (bQ (aC rfl) rfl (dN (qY p1) (bH (aC rfl)))))
def jL(s:Sw)(w:Nat):Nat:=match s with|.add=>2*w|_=>w*w
def aQd(d:Nat)(hs:s≠.sub)(L:List Nat)(hw:∀ w∈L,w<=64)(hl:↑L<=100)(S:aD):cl fns (d+1) 94 [.d (.str s.wd.s),.d (.list (L.map nD))] S=qz (.d (.int (((L.map (jL s)).sum:Nat):Int)),S):=by
 have c:=aKo s hs;cases s with
 |add=>
   have hc:lv (aF fns d) aGC [qz (.d (.str Sw.add.wd.s)),qz (.d (.list (L.map nD))),qx] S=qz ((L.map (jL .add)).map nD,S):=by
    rw[yAz];exact lU (fi:=lv (aF fns d) (.it (.var 1))) (fe:=ev (aF fns d) (.bin .Mult (.int 2) (.var 2))) nD (nD ∘ jL .add) L (aE3 (aC rfl)) (by rw[zj];omega) λ w h=>(_,rfl,λ S'=>aU aJ (aC rfl) (by rw[nD,@lT 2 _ (·) (·)];rfl),)
   exact cR rfl rfl rfl (cF (bM (aC rfl) cO c) (bH (cT (aE (fM hc) aO) (cM cU dA) (aEp _)))) yAi
 |sub=>exact absurd rfl hs
 |mul=>
   have hc:lv (aF fns d) aGB [qz (.d (.str Sw.mul.wd.s)),qz (.d (.list (L.map nD))),qx] S=qz ((L.map (jL .mul)).map nD,S):=by
    rw[yAz];exact lU (fi:=lv (aF fns d) (.it (.var 1))) (fe:=ev (aF fns d) (.bin .Mult (.var 2) (.var 2))) nD (nD ∘ jL .mul) L (aE3 (aC rfl)) (by rw[zj];omega) λ w h=>(_,rfl,λ S'=>aU (aC rfl) (aC rfl) (by have:=hw w h;rw[nD,@lT ((w:Nat):Int) _ () ()];rfl),)
   exact cR rfl rfl rfl (bF (bM (aC rfl) cO c) (bH (cT (aE (fM hc) aO) (cM cU dA) (aEp _)))) yAi
def aYn(hs:s≠.sub){r:Rw}(h:r.wd=s.wd):mT r=jL s r.w:=by
 let(wd,w,args):=r;dsimp only at h;subst h;cases s with
 |add=>rfl|sub=>exact absurd rfl hs|mul=>rfl
def aRj(s:Sw)(r:Rw)(R:List Rw):dX s (r::R)=if r.wd=s.wd then r.w::dX s R else dX s R:=by
 unfold dX;rw[yCj];by_cases c:r.wd=s.wd
 .rw[if_pos c,dqT c];rfl
 .rw[if_neg c,dqF c];rfl
def aE1(hs:s≠.sub):∀ R:List Rw,((dX s R).map (jL s)).sum<=(R.map mT).sum/\((∀ r∈R,r.wd=s.wd\/r.wd=.in\/r.wd=.cut\/r.wd=.wide)->(R.map mT).sum=((dX s R).map (jL s)).sum)
 |[]=>(yAc _,λ _=>rfl,)
 |r::R=>by
   let(h1,h2):=aE1 hs R;rw[aRj,yAm,yGm];by_cases c:r.wd=s.wd
   .rw[if_pos c,yAm,yGm,aYn hs c];exact(by omega,λ h=>by rw[h2 λ q hq=>h q (xAf _ hq)],)
   .rw[if_neg c];refine(by omega,λ h=>?_,);have z:mT r=0:=by
     unfold mT;rcases h r xAc with q|q|q|q
     .exact absurd q c
     .rw[q]
     .rw[q]
     .rw[q]
    rw[z,h2 λ q hq=>h q (xAf _ hq),yBz]
def aD4(s:Sw)(A B:List Rw):dX s (A++B)=dX s A++dX s B:=by unfold dX;rw[yBd,yAk]
def aQ7(h:a<=b):jL s a<=jL s b:=by
 cases s
 .exact Nat.mul_le_mul_left 2 h
 .exact yFe h h
 .exact yFe h h
def aLL{f g:Nat->Nat}(h:∀ k,f k<=g k):∀ l:List Nat,(l.map f).sum<=(l.map g).sum
 |[]=>yAc _
 |a::l=>by
   have:=aLL h l;have:=h a;simp only[yAm,yGm];omega
def aYb(hs:s≠.sub)(tt:t<=tp):((dY s u tp t (n-1)).map (jL s)).sum<=((cW s n u tp t tl).map mT).sum:=by
 have w1:dX s ((yAo (n-1)).map (fG s tp n (2*n)))=(yAo (n-1)).map (λ _=>tp):=by
  unfold dX;rw[List.filter_eq_self.mpr λ r hr=>by let(k,_,rfl):=List.mem_map.mp hr;exact dqT rfl,yAz];rfl
 have g:=(aE1 hs (cW s n u tp t tl)).1;have e:(((yAo (n-1)).map (λ _=>tp)).map (jL s)).sum<=((dX s (cW s n u tp t tl)).map (jL s)).sum:=by
  unfold cW dQ;rw[aD4,aD4,aD4 s (_++_),w1];simp only[yAk,List.sum_append];omega
 refine xAh ?_ (xAh e g);unfold dY;rw[yAz,yAz];exact aLL (λ k=>aQ7 (show min t _<=tp by omega)) _
def aJs:∀ vs:List D,(∀ v∈vs,∃ q:Nat,q<m/\v=nD q)->∃ is:List Nat,vs=is.map nD/\∀ x∈is,x<m
 |[],_=>⟨[],rfl,λ x h=>by cases h⟩
 |v::vs,h=>by
   let(q,hq,rfl):=h v xAc;let(is,rfl,hi):=aJs vs λ x hx=>h x (xAf _ hx)
   refine(q::is,rfl,λ x hx=>?_,);rcases List.mem_cons.mp hx with rfl|hx
   .exact hq
   .exact hi x hx
def aJm(hx:eD X more):∀ is:List Nat,(∀ x∈is,x<2^u)->eD (yAf ↑is ⟨.in,u,[]⟩++X) (is++more)
 |[],_=>hx
 |a::is,h=>by
   rw[yAr,yBe,yEi,eD,if_pos rfl];exact(a,is++more,rfl,h a xAc,aJm hx is λ x hx=>h x (xAf _ hx),)
def aPR{ns:List Int}{k:Nat}{x:Int}(d n u:Nat)(hn:n<=13)(u1:1<=u)(u2:u<=64)(hk:k<=50000){env:bB}(h1:env[1]?=qz (#[0]))(h3:env[3]?=qz ((n:)))(h4:env[4]?=qz ((u:)))(hc1:(clr [17] env)[1]?=qz (#[0]))(hc4:(clr [17] env)[4]?=qz ((u:)))(hl:↑env=18) :
 ∃ (is:List Nat) (k':Nat) (x':Int),↑is=n/\(∀ x∈is,x<2^u)/\k'<=k+65/\lv (d<$>3) aI1 env [qz (cJ ns k x)]=qz (is.map nD,[qz (cJ ns k' x')]):=by
 let(vs,S',e,_,(k',x',hk',rfl),vl,hv):=@aDh env [qz (cJ ns k x)] [qz (cJ ns k x)] _ (.one 17) (lv (d<$>3) (.rng1 (.var 3))) (ev (d<$>3) (.call 90 (.cons (.var 1) (.cons (.var 4) .nil)))) (λ i:Nat=>yAt (i:Nat)) (λ j S=>∃ (k':Nat) (x':Int),k'<=k+5*j/\S=[qz (cJ ns k' x')]) (λ _ v=>∃ q:Nat,q<2^u/\v=nD q) (yAo n) (sN (aC h3) ()) (by rw[yAs,zj];omega) (k,x,by omega,rfl,) (λ a ha=>⟨(clr [17] env).set 17 ((a:)),rfl,λ j S aI hj hS aW=>by
  let(k1,x1,hk1,es):=aW;subst es;rw[yAs] at hj;let(r,k2,x2,hr,hk2,e):=@aYa k1 ns x1 [qz aI] (by simp) d u u1 u2 ()
  exact(nD r,[qz (cJ ns k2 x2)],bT (aE (aC (by rw[yAw (·)];exact hc1)) (aE (aC (by rw[yAw (·)];exact hc4)) aO)) e,rfl,(k2,x2,by omega,rfl,),r,hr,rfl,)⟩)
 rw[yAs] at vl hk';let(is,rfl,hi):=@aJs (2^u) vs λ v hm=>by
  let(i,hi):=yCh hm;have li:=(gIm hi).1;let(v',h5,h6):=hv i i (yEg ());rw[hi] at h5;cases h5;exact h6
 rw[yAa] at vl;exact(is,k',x',vl,hi,by omega,e,)
def aEO{is:List Nat}(h:j<↑is):g0 (is++more) j=is[j]:=by show(is++more).getD j 0=_;rw[xAg,xAm h,yAb h];rfl
def aWP(d:Nat)(hs:s≠.sub)(u2:u<=64)(hi:∀ x∈is,x<2^u)(hn:↑is<=13)(h1:1<=↑is)(S:aD):∃ c15:Option W,xs (d<$>1) (.loop (.one 15) aDA aDW) [c0,c1,qz (.d (.str s.wd.s)),c3,c4,c5,c6,c7,c8,c9,c10,c11,qz (.d (is*>nD)),c13,((g0 (is++more) 0:Nat):),c15a,c16,c17] S=qz (.nx [c0,c1,qz (.d (.str s.wd.s)),c3,c4,c5,c6,c7,c8,c9,c10,c11,qz (.d (is*>nD)),c13,((eI s (is++more) (↑is-1):Nat):),c15,c16,c17],S):=by
 have sl:slD (is*>nD) (qz 1) qx=qz (.tuple ((is.drop 1).map nD)):=by
  show qz (yAn (eE (is.map nD) (qz ((1:Nat):Int)) qx))=_;rw[aAJ,List.map_drop]
 let(bD,S',p1,c15,rfl,rfl):=kM (t:=.one 15) (fi:=lv (d<$>1) aDA) (fb:=xs (d<$>1) aDW) (env:=[c0,c1,qz (.d (.str s.wd.s)),c3,c4,c5,c6,c7,c8,c9,c10,c11,qz (.d (is*>nD)),c13,((g0 (is++more) 0:Nat):),c15a,c16,c17]) (S:=S) (S1:=S) (ds:=(is.drop 1).map nD)
  (λ j env S'=>∃ c15:Option W,env=[c0,c1,qz (.d (.str s.wd.s)),c3,c4,c5,c6,c7,c8,c9,c10,c11,qz (.d (is*>nD)),c13,((eI s (is++more) j:Nat):),c15,c16,c17]/\S'=S)
  (aBu (yQ (aC rfl) (wW aJ) zA rfl sl)) (c15a,rfl,rfl,) (by
    rintro j dd env S' hd ⟨c15,rfl,rfl⟩;rw[yAg,yFw] at hd;let(x,hx,rfl):=Option.map_eq_some_iff.mp hd;have hl:=(gIm hx).1;have e:g0 (is++more) (j+1)=x:=by
     rw[aEO ()];rw[show 1+j=j+1 by omega] at hx;exact(gIm hx).2
    have lx:=hi x (xAk hx);have:=yAh (show 0<2 by decide) u2;have jk:=aHW d hs (eI s (is++more) j) x () S'
    rw[<- e] at jk;rw[<- e];exact(_,_,_,rfl,tM (bT (aE (aC rfl) (aE (aC rfl) (aE (aC rfl) aO))) jk),_,rfl,rfl,))
 rw[yAa,yFg] at p1;exact(c15,p1,)
def aWS(d:Nat)(ns:List Int)(h1:↑ns<=63):∃ S',cl fns (d+12) 95 [.d (.list (ns.map yAt))] []=qz (.d (.bool true),S'):=by
 let(r1,x1,hr1,e1):=tY (ns:=ns) (k:=0) (x:=0) (d+10) 2 (i:=2) rfl (·) (·) ();let(r2,x2,hr2,e2):=tY (ns:=ns) (k:=1) (x:=x1) (d+10) 13 (i:=13) rfl (·) (·) ();let(r3,x3,hr3,e3):=tY (ns:=ns) (k:=2) (x:=x2) (d+10) 64 (i:=64) rfl (·) (·) ();let(r4,x4,hr4,e4):=tY (ns:=ns) (k:=3) (x:=x3) (d+10) 8 (i:=8) rfl (·) (·) ();let(r5,x5,hr5,e5):=tY (ns:=ns) (k:=4) (x:=x4) (d+10) 3 (i:=3) rfl (·) (·) ();obtain⟨s,hs,es⟩:∃ s:Sw,s≠.sub/\aV (.list [.str "add",.str "mul"]) (.int r1)=qz (.str s.wd.s):=by
  rcases (show r1=0\/r1=1 by omega) with rfl|rfl
  .exact(.add,(λ z=>by cases z),rfl,)
  .exact(.mul,(λ z=>by cases z),rfl,)
 obtain⟨u,u1,u2,eu⟩:∃ u:Nat,1<=u/\u<=64/\aV (.list [.int ((1+r3:Nat):Int),.int ((1+r4:Nat):Int)]) (.int ((min 1 r5:Nat):Int))=qz (.int u):=by
  rcases (show min 1 r5=0\/min 1 r5=1 by omega) with e|e<;>rw[e]
  .exact(1+r3,by omega,by omega,rfl,)
  .exact(1+r4,by omega,by omega,rfl,)
 let(r6,x6,hr6,e6):=@aEZ 5 ns x5 (d+10) (65-u) () () ();obtain⟨tp,etp⟩:∃ tp,tp=u+r6:=(_,rfl,);let(r7,x7,hr7,e7):=@aEZ 6 ns x6 (d+10) tp () () ();let(r8,x8,hr8,e8):=tY (ns:=ns) (k:=7) (x:=x7) (d+10) 4 (i:=4) rfl (·) (·) ();obtain⟨n,en⟩:∃ n,n=1+r2:=(_,rfl,);obtain⟨t,et⟩:∃ t,t=1+r7:=(_,rfl,);have p:Pm s n u tp t:=(hs,by omega,by omega,u1,by omega,by omega,by omega,by omega,);obtain⟨z,hz,ez⟩:∃ z:Nat,(z=0\/z=1\/z=4)/\aV (.list [.int 0,.int 0,.int 1,.int 4]) (.int r8)=qz (.int z):=by
  rcases (show r8=0\/r8=1\/r8=2\/r8=3 by omega) with rfl|rfl|rfl|rfl
  .exact(0,.inl rfl,rfl,)
  .exact(0,.inl rfl,rfl,)
  .exact(1,.inr (.inl rfl),rfl,)
  .exact(4,.inr (.inr rfl),rfl,)
 obtain⟨idle,ei⟩:∃ i,i=min z (40-3*n):=(_,rfl,);have hi:(idle=0\/idle=1\/idle=4)/\3*n+idle<=40:=();have ec:=aQ6 (d+10) p idle () (qz (cJ ns 8 x8));have ew:=aQv (d+9) p (qz (cJ ns 8 x8));obtain⟨tl,etl⟩:∃ tl,tl=(oU u tp).take idle:=(_,rfl,);rw[<- etl] at ec;have ht:∀ r∈tl,vB u tp r:=λ r hr=>by
  rw[etl] at hr;have:=List.mem_of_mem_take hr;unfold oU at this;simpa [vB] using this
 have hl:3*n+↑tl<=40:=by
  rw[etl,yBg];omega
 have h:=aKD p ht hl;let(R,x,el,lc):=aTS p ht hl d (qz (cJ ns 8 x8));have cl0:=h.len;have hw64:∀ w∈dY s u tp t (n-1),w<=64:=λ w hw=>by
  let(k,_,rfl):=List.mem_map.mp hw;have:=p.tt;have:=p.tp2;omega
 have wl:↑(dY s u tp t (n-1))<=100:=by
  unfold dY;rw[yAa,yAs];omega
 have pl:=aQd (d+10) hs _ hw64 wl [qz (cJ ns 8 x8)];have sub:∀ r:Rw,r.wd=s.wd\/r.wd=.in\/r.wd=.cut\/r.wd=.wide->r.wd=.in\/r.wd=.num\/r.wd=.not\/r.wd=.cut\/r.wd=.wide\/r.wd=.add\/r.wd=.sub\/r.wd=.mul:=λ r hr=>by
  rcases hr with q|q|q|q
  .cases s<;>rw[q]<;>simp[Sw.wd]
  .exact .inl q
  .exact .inr (.inr (.inr (.inl q)))
  .exact .inr (.inr (.inr (.inr (.inl q))))
 have pm:=aIF (d+9) R (.tuple ([x].map nD)) (λ r hr=>by
  let(j,hj):=yCh hr;exact(((nH lc.ok).2 j r hj).2,sub r (lc.fr r hr),)) (by have:=lc.l;omega) [qz (cJ ns 8 x8)]
 rw[(aE1 hs R).2 lc.fr,lc.fl] at pm;have pp:=aIF (d+9) (cW s n u tp t tl) (.tuple ([2*n+(n-1)].map nD)) (λ r hr=>by
  let(j,hj):=yCh hr;refine((h.prg.ws j r hj).2,?_,);rcases h.at hj with ⟨_,rfl⟩|⟨_,_,_,_,rfl⟩|⟨_,_,_,rfl⟩|⟨_,_,rfl⟩|⟨_,rfl|rfl|rfl|rfl⟩
  .exact .inl rfl
  .simp
  .exact sub _ (.inl rfl)
  .simp
  .simp
  .simp
  .simp
  .simp) () [qz (cJ ns 8 x8)]
 have ple:=@aYb _ _ _ u n tl hs p.tt;have hc:lv (d<$>11) aJF [qz (.d (.list (ns.map yAt))),#[0],qz (.d (.str s.wd.s)),(n:),(u:),(tp:),(t:),(idle:),qz (.d (.tuple [.tuple ((cW s n u tp t tl).map Rw.d),.tuple ([2*n+(n-1)].map nD)])),qz (.d (.list ((dY s u tp t (n-1)).map nD))),qz (.d (R<*(.tuple ([x].map nD)))),qx,qx,qx,qx,qx,qx,qx] [qz (cJ ns 8 x8)]=qz ((dY s u tp t (n-1)).map nD,[qz (cJ ns 8 x8)]):=by
  rw[show(dY s u tp t (n-1)).map nD=(R.filter λ r=>decide (r.wd=s.wd)).map λ r=>nD r.w by
   rw[show dY s u tp t (n-1)=dX s R from lc.fl.symm]
   unfold dX;rw[yAz];rfl]
  exact @aDm _ _ _ _ _ (lv (d<$>11) (.it (.ix (.var 10) (.int 0)))) (tv (d<$>11) (.cmp .Eq (.ix (.var 16) (.int 0)) (.var 2))) (ev (d<$>11) (.ix (.var 16) (.int 1))) Rw.d (λ r=>nD r.w) (λ r=>decide (r.wd=s.wd)) R (aBu (bY (aC rfl) aJ rfl rfl)) (by rw[zj];have:=lc.l;omega) λ r hr=>(_,rfl,λ S'=>bM (bY (aC rfl) aJ rfl (jS r)) (aC rfl) (cG r.wd s.wd),λ _ S'=>bY (aC rfl) aJ rfl (jQ r),)
 obtain⟨more,em,hmo,hmx⟩:∃ more:List Nat,bO .Mult (.tuple [.int 1]) (.int ((if idle=4 then 1 else 0:Nat):Int))=qz (more*>nD)/\eD (tl.filter cE) more/\(more=[]\/more=[1]):=by
  rcases hi.1 with e|e|e<;>rw[etl,e]
  .exact([],@sU _ 0 (·),rfl,.inl rfl,)
  .exact([],@sU _ 0 (·),rfl,.inl rfl,)
  .refine([1],@sU _ 1 (·),?_,.inr rfl,);show eD [(.in,1,[],)] [1];rw[eD,if_pos rfl];exact(1,[],rfl,by decide,rfl,)
 let(bD,S',p1,c11,c12,c13,c14,c15,k',x',hk',rfl,rfl):=kM (t:=.one 11) (fi:=lv (d<$>11) aJJ) (fb:=xs (d<$>11) aJQ) (env:=[qz (.d (.list (ns.map yAt))),#[0],qz (.d (.str s.wd.s)),(n:),(u:),(tp:),(t:),(idle:),qz (.d (.tuple [.tuple ((cW s n u tp t tl).map Rw.d),.tuple ([2*n+(n-1)].map nD)])),qz (.d (.list ((dY s u tp t (n-1)).map nD))),qz (.d (R<*(.tuple ([x].map nD)))),qx,qx,qx,qx,qx,qx,qx]) (S:=[qz (cJ ns 8 x8)]) (S1:=[qz (cJ ns 8 x8)]) (ds:=(yAo (1+min 7 (↑ns/8))).map λ k=>yAt (k:Nat))
  (λ j env S'=>∃ (c11 c12 c13 c14 c15:Option W) (k':Nat) (x':Int),k'<=8+65*j/\env=[qz (.d (.list (ns.map yAt))),#[0],qz (.d (.str s.wd.s)),(n:),(u:),(tp:),(t:),(idle:),qz (.d (.tuple [.tuple ((cW s n u tp t tl).map Rw.d),.tuple ([2*n+(n-1)].map nD)])),qz (.d (.list ((dY s u tp t (n-1)).map nD))),qz (.d (R<*(.tuple ([x].map nD)))),c11,c12,c13,c14,c15,qx,qx]/\S'=[qz (cJ ns k' x')])
  (sN (aU aJ (cT (aE aJ (aE (aU (cT (aE (aC rfl) aO) (cM cU dA) (tO ns)) aJ (show bO .FloorDiv (.int ↑ns) (.int 8)=qz (.int ((↑ns/8:Nat):Int)) from aDC (·) (·))) aO)) (cM cU (cM cU dA)) (zP 7 (↑ns/8))) (jX 1 _)) ()) (qx,qx,qx,qx,qx,8,x8,by omega,rfl,rfl,) (by
    rintro j dd env S' hd ⟨c11,c12,c13,c14,c15,k',x',hk',rfl,rfl⟩;let(hj,rfl):=aDj hd;let(is,k2,x2,il,ib,hk2,eis):=aPR (ns:=ns) (k:=k') (x:=x') (d+8) n u p.n2 u1 u2 () (env:=[qz (.d (.list (ns.map yAt))),#[0],qz (.d (.str s.wd.s)),(n:),(u:),(tp:),(t:),(idle:),qz (.d (.tuple [.tuple ((cW s n u tp t tl).map Rw.d),.tuple ([2*n+(n-1)].map nD)])),qz (.d (.list ((dY s u tp t (n-1)).map nD))),qz (.d (R<*(.tuple ([x].map nD)))),(j:),c12,c13,c14,c15,qx,qx]) rfl rfl rfl rfl rfl rfl;have n1:=p.n1;have i0:aV (is*>nD) (.int 0)=qz (.int (g0 (is++more) 0:Nat)):=by
     rw[aEO ()];exact gI (k:=0) (by rw[yAg,yAb (show 0<↑is by omega)];rfl)
    let(c15',ed):=aWP (d+10) hs (more:=more) u2 ib () (c0:=qz (.d (.list (ns.map yAt)))) (c1:=#[0]) (c3:=(n:)) (c4:=(u:)) (c5:=(tp:)) (c6:=(t:)) (c7:=(idle:)) (c8:=qz (.d (.tuple [.tuple ((cW s n u tp t tl).map Rw.d),.tuple ([2*n+(n-1)].map nD)]))) (c9:=qz (.d (.list ((dY s u tp t (n-1)).map nD)))) (c10:=qz (.d (R<*(.tuple ([x].map nD))))) (c11:=(j:)) (c13:=qz (.d (more*>nD))) (c15a:=c15) (c16:=qx) (c17:=qx) () [qz (cJ ns k2 x2)];rw[il] at ed;have iv:Iv n u (is++more):=λ k=>by
     by_cases c:k<n
     .rw[if_pos c,aEO ()];exact ib _ (List.getElem_mem _)
     .rw[if_neg c];show(is++more).getD k 0<2;rw[xAg,yAd ()];rcases hmx with rfl|rfl
      .rw[List.getElem?_nil];decide
      .rcases Nat.eq_zero_or_pos (k-↑is) with q|q
       .rw[q];decide
       .rw[yCx (by simp;omega)];decide
    have fi:eD ((cW s n u tp t tl).filter cE) (is++more):=by
     unfold cW;rw[yBd,yBd,aEo,<- il];show eD ((yAf ↑is _++[])++_) _;rw[yAx];exact aJm hmo is ib
    have t1:=aJh (d+3) (rs:=cW s n u tp t tl) (aN:=[2*n+(n-1)]) () h.prg.fit ((xF _ _).mpr fi) (λ o ho=>by rw[List.mem_singleton.mp ho];have:=h.zl;omega) (yAe rfl) [qz (cJ ns k2 x2)];have t2:=aJh (d+3) (rs:=R) (aN:=[x]) (by have:=lc.l;omega) (nH lc.ok).1 ((xF _ _).mpr (by rw[lc.fi];exact fi)) (λ o ho=>by rw[List.mem_singleton.mp ho];exact lc.xl) (yAe rfl) [qz (cJ ns k2 x2)];have v1:[2*n+(n-1)].map (g0 (rn (cW s n u tp t tl) (is++more)))=[eI s (is++more) (n-1)%2^t]:=by
     show [g0 _ _]=_;rcases h.out with ⟨_,_,e⟩|⟨e,_,_⟩
     .rw[h.vC _ rfl e]
     .have:=(h.rL (k:=n-1) ()).2;omega
    have v2:[x].map (g0 (rn R (is++more)))=[eI s (is++more) (n-1)%2^t]:=by
     show [g0 _ _]=_;rw[lc.v _ iv]
    rw[v1] at t1;rw[v2] at t2;have ct:bO .Add (is*>nD) (more*>nD)=qz (.tuple ((is++more).map nD)):=by
     rw[pT _ _ (by rw[yAa,yAa];rcases hmx with rfl|rfl<;>simp<;>omega),yAk]
    have md:bO .Mod (.int (eI s (is++more) (n-1):Nat)) (.int ((2^t:Nat):Int))=qz (.int ((eI s (is++more) (n-1)%2^t:Nat):Int)):=by
     rw[aRS];rfl
    have b4:B.int.g [.bool ((idle:Int)==4)]=qz (.int ((if idle=4 then 1 else 0:Nat):Int)):=by
     by_cases c:idle=4
     .rw[if_pos c,beq_iff_eq.mpr ()];rfl
     .rw[if_neg c,beq_eq_false_iff_ne.mpr ()];rfl
    have ne:=aWo [eI s (is++more) (n-1)%2^t];have hk64:t<=100000:=by have:=p.tt;have:=p.tp2;omega
    exact(_,_,_,rfl,bQ (cT (aE (fM eis) aO) (cM cU dA) lZ) rfl (bQ (aU (fB (aE aJ aO) rfl (yAe rfl)) (cT (aE (pN (aC rfl) aJ (cC _ _)) aO) (cM cU dA) b4) em) rfl (bQ (bY (aC rfl) aJ rfl i0) rfl (dN ed (bQ (aU (aC rfl) (aU aJ (aC rfl) (iX hk64)) md) rfl (bF (aE9 (p:=false) (bM (bT (aE (aC rfl) (aE (aU (aC rfl) (aC rfl) ct) aO)) t1) (fB (aE (aC rfl) aO) rfl (yAe rfl)) ne) (pY (bM (bT (aE (aC rfl) (aE (aU (aC rfl) (aC rfl) ct) aO)) t2) (fB (aE (aC rfl) aO) rfl (yAe rfl)) ne))) rfl))))),_,_,_,_,_,k2,x2,by omega,rfl,rfl,))
 have an:bO .Add (.int 1) (.int r2)=qz (.int n):=by rw[en];exact jX 1 r2
 have au:bO .Add (.int u) (.int r6)=qz (.int tp):=by rw[etp];exact jX u r6
 have at_:bO .Add (.int 1) (.int r7)=qz (.int t):=by rw[et];exact jX 1 r7
 have s65:bO .Sub (.int 65) (.int u)=qz (.int ((65-u:Nat):Int)):=@mK 65 u ();have m3:bO .Mult (.int 3) (.int n)=qz (.int ((3*n:Nat):Int)):=by rw[@lT 3 _ (·) (·)];rfl
 have s40:bO .Sub (.int 40) (.int ((3*n:Nat):Int))=qz (.int ((40-3*n:Nat):Int)):=@mK 40 (3*n) (by have:=p.n2;omega);have mi:kT [.int z,.int ((40-3*n:Nat):Int)]=qz (.int idle):=by rw[ei];exact zP z (40-3*n)
 have ne1:=aSc (dY s u tp t (n-1));exact⟨[],cR rfl rfl rfl (bQ (tU (kQ (aE (aC rfl) (aE aJ (aE aJ aO))) rfl (yAe rfl))) rfl (bQ (bY (fM (kQ (aE cO (aE cO aO)) rfl (yAe rfl))) (bT (iG rfl aJ) e1) rfl es) rfl (bQ (aU aJ (bT (iG rfl aJ) e2) an) rfl (bQ (bY (fM (kQ (aE (aU aJ (bT (iG rfl aJ) e3) (jX 1 r3)) (aE (aU aJ (bT (iG rfl aJ) e4) (jX 1 r4)) aO)) rfl (yAe rfl))) (cT (aE aJ (aE (bT (iG rfl aJ) e5) aO)) (cM cU (cM cU dA)) (zP 1 r5)) rfl eu) rfl (bQ (aU (aC rfl) (bT (iG rfl (aU aJ (aC rfl) s65)) e6) au) rfl (bQ (aU aJ (bT (iG rfl (aC rfl)) e7) at_) rfl (bQ (cT (aE (bY (fM (kQ (aE aJ (aE aJ (aE aJ (aE aJ aO)))) rfl (yAe rfl))) (bT (iG rfl aJ) e8) rfl ez) (aE (aU aJ (aU aJ (aC rfl) m3) s40) aO)) (cM cU (cM cU dA)) mi) rfl
  (bQ (bT (aE (aC rfl) (aE (aC rfl) (aE (aC rfl) (aE (aC rfl) (aE (aC rfl) (aE (aC rfl) aO)))))) ec) rfl (bQ (bT (aE (aC rfl) (aE (aC rfl) (aE (aC rfl) (aE (aC rfl) (aE (aC rfl) aO))))) ew) rfl (bQ (bT (aE (aC rfl) aO) el) rfl (bF (aE9 (p:=false) (bM (fM hc) (aC rfl) ne1) (pY (bM (bT (aE (aC rfl) aO) pm) (bT (aE (aC rfl) (aE (aC rfl) aO)) pl) (by rw[pE,show dY s u tp t (n-1)=(yAo (n-1)).map (λ k=>min t (kb s tp u (k+1))) from rfl,beq_self_eq_true];rfl)))) (bF (bM (bT (aE (aC rfl) aO) pm) (bT (aE (aC rfl) aO) pp) (aNm (by unfold dY at ple;omega))) (dN (qY p1) (bH aFk)))))))))))))) rfl⟩
def main(ns:List Int)(h1:↑ns<=63)(h2:∀ i∈ns,yAp i<=1048576):∃ call S',aF fns 12 95=qz (1,call)/\call [.d (.list (ns.map yAt))] []=qz (.d (.bool true),S'):=by let(S',e):=aWS 0 ns h1;exact aUk (d:=11) rfl rfl e
def oks:∀ F∈fns,aB5 fns tbs F=true:=by decide +kernel
def bok:∀ F∈fns,aEX F=true:=by decide +kernel
def binds:∀ F∈fns,wS F:=λ F hF=>aIT (bok F hF)
def cok:∀ c,tbs.cl=qz c->yY c=true/\wS c.fn:=λ c h=>by cases h;exact(by decide +kernel,aIT (by decide +kernel),)
end K95
namespace PySem.W.Fast
def tw406752433066707221:=0
def tw12658458886832613845:=0
def tw18378477640872282213:=0
def tw15959671704124350595:=0
def tw4075292902509397344:=0
def tw8221100509851490608:=0
def tw12952093141685511130:=0
def tw16739001229043873385:=0
def tw6302746790217881203:=0
def tw9841976776517809271:=0
def tw16623983163289009981:=0
def tw11509416600248601674:=0
def tw15643779522344755471:=0
def tw6622078883367134667:=0
def tw11845840939155506506:=0
def tw18261900375802312658:=0
def tw7641168911157563847:=0
def tw5002770495124175544:=0
def tw8386227162268204387:=0
def tw9093969922417496843:=0
def tw12750002100415924645:=0
def tw8795976170183875175:=0
def tw13314891176861724867:=0
def tw4636275846577068622:=0
def tw10105962027813525381:=0
def tw4177392989092644995:=0
def tw13655053051598318242:=0
def tw5920507458354576117:=0
def tw8957032675376273362:=0
def tw18267600583121716338:=0
def tw3088983480564610166:=0
def tw11257380942653240653:=0
def tw747792024749115401:=0
def tw5188791671081181368:=0
def tw16058945239059640084:=0
def tw17159981446249609034:=0
def tw17658953973633941431:=0
def tw17940299481214838793:=0
def tw16718348516907932479:=0
def tw15251280487313481172:=0
def tw12949740811142769244:=0
def tw966125187576646363:=0
def tw2303910079648137471:=0
def tw7556139239225328696:=0
def tw4489034277194456771:=0
def tw12018896180973434790:=0
def tw14146504059940840700:=0
def tw8496998338030567938:=0
def tw16838695124535765297:=0
def tw9488396870898767252:=0
def tw12471109553440346166:=0
def tw5877176047175840709:=0
def tw14227813783625195142:=0
def tw7503399792967472123:=0
def tw7412046680062094433:=0
def tw12970328418554015500:=0
def tw3281412137156532162:=0
def tw6843430808261129822:=0
def tw1348485343852660924:=0
def tw16020519687858660857:=0
def tw15939600469040287155:=0
def tw12372705935381341628:=0
def tw531348571823125877:=0
def tw13721905442768463746:=0
def tw3729500557228900295:=0
def tw757512809018303010:=0
def tw17757816516811038666:=0
def tw16122218461883006801:=0
def tw15018995597488897937:=0
def tw790584739627506443:=0
def tw16381535041740222443:=0
def tw18405836936680448023:=0
def tw7397211874679831412:=0
def tw12157621852092961898:=0
def tw6523410442207135909:=0
def tw4078260338277185231:=0
def tw9018280869432094156:=0
def tw9999155109535855108:=0
def tw6599342740399361781:=0
def tw10330095137872916620:=0
def tw4899858961094724685:=0
def tw15365690950198694278:=0
def tw3179537379503716082:=0
def tw15570209126374871547:=0
def tw4055400253596520313:=0
def tw5385838053475045163:=0
def tw8166542488617356731:=0
def tw9365074869615252917:=0
def tw2745394788189385605:=0
def tw7129782529593778304:=0
def tw18319908074897106516:=0
def tw5031747003971760267:=0
def tw15476604661291971971:=0
def tw13800979765995847772:=0
def tw12736443177347217462:=0
def tw1476288749605346716:=0
def tw17866393509300954653:=0
def tw14227640950101690560:=0
def tw6821106572706586724:=0
def tw16156316574010235600:=0
def tw3810538321767758753:=0
def tw3830546847560118045:=0
def tw252852758800175320:=0
def tw16493626194591974200:=0
def tw5198237647923590316:=0
def tw3421921956312114697:=0
def tw16852053244004953364:=0
def tw6888950126814285564:=0
def tw14896379625401582226:=0
def tw16073573198694367985:=0
def tw17611904281115562225:=0
def tw13388954975392512778:=0
def tw13711907426564382456:=0
def tw11035135491286243825:=0
def tw12231267870270429945:=0
def tw14505591619921203531:=0
def tw5505788756980346979:=0
def tw4562157050212332811:=0
def tw13550953615804596583:=0
def tw17992514611783395662:=0
def tw11768181014560772593:=0
def tw6607907421367164257:=0
def tw4001057163390660719:=0
def tw2076669040084686220:=0
def tw12947438747216975025:=0
def tw5932815353744704321:=0
def tw14766474182944066394:=0
def tw8009229701639894462:=0
def tw6078728116267896820:=0
def tw875604412169129879:=0
def tw5499285359782172146:=0
def tw2919607411745789585:=0
def tw17329336362211136961:=0
def tw13950135225629832544:=0
def tw1593688148736428864:=0
def tw15820175587496856526:=0
def tw10843093887213467293:=0
def tw16683007044881606246:=0
def tw683957497605099512:=0
def tw2675912528232909128:=0
def tw5889436565505490004:=0
def tw14990049581027840349:=0
def tw18334411765144161880:=0
def tw4889249080305900819:=0
def tw9011792458775198908:=0
def tw7774790564612650699:=0
def tw3768065156550099084:=0
def tw17328261616375517011:=0
def tw13675949669033718661:=0
def tw326880101030011530:=0
def tw2983365218884704841:=0
def tw11837319572182853767:=0
def tw6718129102934327029:=0
def tw877017749909174956:=0
def tw12541917914928158465:=0
def tw2186562349657901927:=0
def tw10059397965143544175:=0
def tw17057676346999499486:=0
def tw15851919209967828000:=0
def tw15205129564938894999:=0
def tw16190726325788263225:=0
def tw670160381579341497:=0
def tw11424371147266055219:=0
def tw5775498307886767024:=0
def tw9860852850425349880:=0
def tw17676656553430931333:=0
def tw10981087770322931207:=0
def tw9941309943919223053:=0
def tw7442221136496318000:=0
def tw6192466437425619671:=0
def tw14194995083896891294:=0
def tw4227873005962564407:=0
def tw5188334972558118359:=0
def tw12094044842592747758:=0
def tw2309272623101251796:=0
def tw4072575778487273809:=0
def tw14006958968953453684:=0
def tw7388970592585402184:=0
def tw13430906663983660788:=0
def tw9935272941387118461:=0
def tw9643220267352996321:=0
def tw18024544676626356355:=0
def tw15541472220780970878:=0
def tw11882064416691387107:=0
def tw41004698366417058:=0
def tw9094742777079250441:=0
def tw5160463377830076861:=0
def tw3558512857679916889:=0
def tw2162752498007710180:=0
def tw16229983039828116286:=0
def tw6698480286969474629:=0
def tw9398751301897331671:=0
def tw9713432251229122573:=0
def tw4446598360229885933:=0
def tw15337873661563847274:=0
def tw15762866142649619144:=0
def tw15404925176851127834:=0
def tw2630185862319659788:=0
def tw1823128751128187328:=0
def tw4815207916656268979:=0
def tw12146023885511422483:=0
def tw11418724578953628708:=0
def tw14441950850916208913:=0
def tw14360828462487005335:=0
def tw8749539185579684008:=0
def tw16568487175485515139:=0
def tw10134421770804643353:=0
def tw13574849017316355821:=0
def tw544755286358401570:=0
def tw10300798016118545438:=0
def tw877364574895822656:=0
def tw11509216001296863981:=0
def tw9765973654399725768:=0
def tw5117372382959406633:=0
def tw15360490800487942743:=0
def tw522668330953628245:=0
def tw5977621492156900912:=0
def tw3980921171576467975:=0
def tw15877145567085279800:=0
def tw10116358824025378997:=0
def tw11349770737545190553:=0
def tw5266151711926117358:=0
def tw9765299024359833160:=0
def tw17121636292198617285:=0
def tw13262465169940676288:=0
def tw15712215685384955914:=0
def tw4606861076457966414:=0
def tw15047026025607924301:=0
def tw2402579694325015718:=0
def tw4743541996918352651:=0
def tw6336686424460459326:=0
def tw154717535183830362:=0
def tw3842271837204867129:=0
def tw4788836465128398228:=0
def tw11065050357738757348:=0
def tw1683576559954345078:=0
def tw11148798984167436358:=0
def tw2898498514674955128:=0
def tw17110835894316955481:=0
def tw17472919902528967448:=0
def tw7529061285014786695:=0
def tw3521212114293444858:=0
def tw6605006632623089096:=0
def tw12627909934288044227:=0
def tw17311079282068249119:=0
def tw6735184370972481162:=0
def tw5790858074531307253:=0
def tw8697214126449021711:=0
def tw8789292266326680077:=0
def tw11324367528618741867:=0
def tw12030731941519398663:=0
def tw8215733759921757306:=0
def tw6205451002190340878:=0
def tw16938653485684584873:=0
def tw8258600890522977252:=0
def tw808767675099260263:=0
def tw15221627855125234128:=0
def tw4740991126344410327:=0
def tw12967566291878728086:=0
def tw12011990190709752910:=0
def tw13553596499533936949:=0
def tw12183221601039923727:=0
def tw8250444008481383331:=0
def tw5372102573359403324:=0
def tw4980769264868400875:=0
def tw6785807349350176882:=0
def tw18299151602503671656:=0
def tw15060451196302719800:=0
def tw1318037877585653238:=0
def tw3760613159163231311:=0
def tw542092314080814662:=0
def tw7013945677554885734:=0
def tw2157720057836435714:=0
def tw1453406025791493802:=0
def tw7455038235678835731:=0
def tw6825749464131628164:=0
def tw17244119807138538978:=0
def tw6381044095540646000:=0
def tw16570360350517323356:=0
def tw2476098231420817899:=0
def tw12782484705281167681:=0
def tw12612527387785585673:=0
def tw9626574648469160609:=0
def tw10531420833223329857:=0
def tw10214128096882091827:=0
def tw5193078070187530951:=0
def tw15114336739639210131:=0
def tw15657227211991766547:=0
def tw4487303467778276256:=0
def tw12229781221444770441:=0
def tw15011845893516506784:=0
def tw2558568658612120105:=0
def tw3064267112448769170:=0
def tw10088225370404834753:=0
def tw17508073538135943112:=0
def tw8097607192014721956:=0
def tw12888422505576772826:=0
def tw3291806420047150372:=0
def tw6523448365947949679:=0
def tw9584999885876766786:=0
def tw13481241499916244837:=0
def tw2062991336490036257:=0
def tw9629841158461067709:=0
def tw10632027946995038851:=0
def tw13017773098492146444:=0
def tw16820449764785673122:=0
def tw6281183350996866106:=0
def tw18189826987306429144:=0
def tw6581251326744684986:=0
def tw5013954327436685322:=0
def tw2446684593387609172:=0
def tw10943719076666419298:=0
def tw1045696382688388350:=0
def tw15943269720639887477:=0
def tw12882394232108361410:=0
def tw913536882559218485:=0
def tw15651570654540993952:=0
def tw14474318354378144403:=0
def tw842059888977958447:=0
def tw8205619531118637073:=0
def tw11135340483299802813:=0
def tw4078034678346241814:=0
def tw17179353321178676767:=0
def tw3233025185956267311:=0
def tw4471630329270558403:=0
def tw6033591579627891011:=0
def tw334623318977649080:=0
def tw8424549535487990919:=0
def tw13559513997822250539:=0
def tw72371489783916384:=0
def tw5408761906936792078:=0
def tw137936888337353633:=0
def tw6438362491058874386:=0
def tw15208226106921050296:=0
def tw8498953028050612574:=0
def tw14518011941661272073:=0
def tw13568232343403566777:=0
def tw7405274233181306354:=0
def tw13639922471182741957:=0
def tw16831497787665728169:=0
def tw16449693689469081564:=0
def tw1331248300963173316:=0
def tw16688815210166701455:=0
def tw14991745010803904714:=0
def tw18000884833242306425:=0
def tw17639423274537263315:=0
def tw1776303849548823395:=0
def tw2050020868173891315:=0
def tw15822385858257646986:=0
def tw10451062457289923434:=0
def tw2487153340864928558:=0
def tw2990076053232151801:=0
def tw3467111489476067258:=0
def tw6401893118395771904:=0
def tw17966184330916043348:=0
def tw16044258903235383774:=0
def tw14397590205821241732:=0
def tw13972339189076364736:=0
def tw16396303141210698673:=0
end PySem.W.Fast
structure PySem.W.Fast:Prop where (tw13907825922077397696 tw3956444307814728556 tw11066195507828807285 tw6108993556469446274 tw14089442666728357593 tw7852442274174947095 tw1552327196426950557 tw2049455582466106982 tw3380659895304432277 tw11578456750526527911 tw4323818167222760509 tw2356392716136810317 tw15041353268709270290 tw100617100174260866 tw5103980333336043605 tw1064720392994025012 tw10163559560536323909 tw8881372784677931572 tw5603508273551620464 tw9100516004912742991 tw14071328780517833813 tw12191112231265031668 tw112059815409056691 tw2689550592960555272 tw14473849498779997312 tw6311015740305087557 tw11988137531475705955 tw10511386700460909070 tw11233984516213086622 tw8917633268614234775 tw11772797385544903431 tw14686295551119639717 tw7140357558798469330 tw14432763210870768246 tw7776191171960090600 tw13348106094049979520 tw17067623466986996987 tw1758653073306505917 tw4185792359475721618 tw15084062984978207825 tw3285403921416336014 tw9463995452755575949 tw15147425576921777590 tw13662611568708368581 tw2663895562291025569 tw5318066065155832357 tw2271904949187431299 tw4174574592840050764 tw3336337400280043836 tw1204540077902072023 tw794980799974051832 tw18075364807894917901 tw595888724571775926 tw11696698409765423328 tw4490856879079022406 tw9139472847451835755 tw1269342406042017048 tw9856727628376420691 tw924362526105227593 tw8188256784335919425 tw6174046920243349780 tw1966574878944813286 tw9114155823526793499 tw16069191816120837077 tw15527506185044619487 tw14719026080620289805 tw4916106528739662 tw13174775063839768958 tw13024429391362447000 tw15952389835318133513 tw4033529512193167273 tw11797560844064507511 tw11946217780305729509 tw4067993462357028321 tw8910412940961012821 tw7007047321207096219 tw5284467603584021835 tw233519865085188662 tw4154824332585473745 tw16489203973255063456 tw296209262309890781 tw1919495697763226074 tw9017839524313888425 tw15773034963778001658 tw6445784734164139527 tw3616595972410024383 tw2830509628150795225 tw11051679571967415049 tw4042859062507575801 tw1026695461170881564:True)
set_option maxRecDepth 100000 in
set_option maxHeartbeats 0 in
theorem PySem.Challenge.cw_fewbits_k95_whole_widths_of_chains_holds : PySem.Challenge.rw_fewbits_k95_whole_widths_of_chains.Holds := by
 w_on;o_law;k_head;(case hw=>w_witness2)
 k_fill
 refine EV.law_of (l:=PySem.Challenge.rw_fewbits_k95_whole_widths_of_chains) K95.fns K95.tbs 95 12 _ "_law_script" rfl rfl (rfl,by decide,by decide,) (λ w h Y=>PySem.W.kIn_of Y) K95.oks K95.binds rfl rfl rfl rfl ?top K95.cok ?clt ?tbl ?cnl ?stl ?tbn K95.main
 case top=>
  intro w h KX F hF;simp only[K95.fns,yCc,yCd,or_false] at hF;rcases hF with rfl|rfl|rfl|rfl|rfl|rfl|rfl|rfl|rfl|rfl|rfl|rfl|rfl|rfl|rfl|rfl|rfl|rfl|rfl|rfl|rfl|rfl|rfl|rfl|rfl|rfl|rfl|rfl|rfl|rfl|rfl|rfl|rfl|rfl|rfl|rfl|rfl|rfl|rfl|rfl|rfl|rfl|rfl|rfl|rfl|rfl|rfl|rfl|rfl|rfl|rfl|rfl|rfl|rfl|rfl|rfl|rfl|rfl|rfl|rfl|rfl|rfl|rfl|rfl|rfl|rfl|rfl|rfl|rfl|rfl|rfl|rfl|rfl|rfl|rfl|rfl|rfl|rfl|rfl|rfl|rfl|rfl|rfl|rfl|rfl|rfl|rfl|rfl|rfl|rfl|rfl|rfl|rfl|rfl|rfl|rfl
  all_goals
   first
   | (refine' .inl (EV.top_mk ?a1 ?l1 ?c1 ?k1 rfl)
      (case a1=>k_is)
      (case l1=>k_is)
      (case c1=>k_is)
      (case k1=>k_is))
   | (refine' .inr (EV.topm_mk ?a1 ?b1 ?b2 ?b3 ?b4 ?m1 ?m2 ?l1 ?c1 ?k1 rfl)
      (case a1=>k_is)
      (case m1=>k_is)
      (case l1=>k_is)
      (case b1=>k_is)
      (case b2=>k_is)
      (case b3=>k_is)
      (case b4=>k_is)
      (case m2=>k_is)
      (case c1=>k_is)
      (case k1=>k_is))
 case clt=>
  intro w h KX c hc;cases hc
  refine' EV.topc_mk ?a1 ?b1 ?b2 ?b3 ?b4 ?n1 ?m1 ?m2 ?m3 ?m4 ?l1 ?c1 ?k1
  (case a1=>k_is)
  (case m2=>k_is)
  (case l1=>k_is)
  (case b1=>k_is)
  (case b2=>k_is)
  (case b3=>k_is)
  (case b4=>k_is)
  (case m1=>k_is)
  (case m3=>k_is)
  (case m4=>k_is)
  (case c1=>k_is)
  (case k1=>k_is)
  (case n1=>
    intro p hp;simp only[K95.cl_ini,yCc,yCd,or_false] at hp;rcases hp with rfl|rfl|rfl|rfl|rfl
    all_goals
     unfold L2.NoAttr
     k_is)
 case tbl=>
  intro w h KX t ht;simp only[K95.tbs,yCc,yCd,or_false] at ht;rcases ht with rfl
  all_goals
   refine' EV.tab_mk ?a1 ?l1 ?c1 ?s1
   (case a1=>k_is)
   (case l1=>k_is)
   (case c1=>(repeat' (first|exact True.intro|apply And.intro))<;>first|rfl|exact(_,rfl,))
   (case s1=>decide)
 case cnl=>
  intro w h KX t ht;simp only[K95.tbs,yCc,yCd,or_false] at ht;rcases ht with rfl|rfl|rfl|rfl|rfl|rfl|rfl|rfl|rfl
  all_goals
   refine' EV.con_mk ?a1 ?l1 ?z1 ?c1
   (case a1=>k_is)
   (case l1=>k_is)
   (case z1=>decide)
   (case c1=>(repeat' (first|exact True.intro|apply And.intro))<;>first|rfl|exact(_,rfl,))
 case stl=>
  intro w h KX t ht;cases ht
 case tbn=>
  intro w h KX x hx;simp only[EV.bltNames,yCc,yCd,or_false] at hx;rcases hx with rfl|rfl|rfl|rfl|rfl|rfl|rfl|rfl|rfl|rfl|rfl|rfl|rfl|rfl|rfl|rfl|rfl|rfl|rfl
  all_goals k_is
