import PyProof.Rows.All
import Wide.All
import OpenK.AllK
import Wide.FinOn
import Lean
import PyProof.EqAt
import PyProof.EqKinds
import PyProof.TupleCall
import PyProof.ListMulRoad
import PyProof.FactsAll.tuple
import PyProof.MaxThree
import PyProof.SeqI3
import PyProof.Draws
import PyProof.NeKinds
import PyProof.Rows.SortShell
import PyProof.ListRange
import PyProof.DictTable
import PyProof.Rows.Range3
import PyProof.ZipIter
import PyProof.FactsAll.range_2
import PyProof.Rows.SeqMore2
import PyProof.StrWalks
import PyProof.EnumMake
import PyProof.Rows.StrJoin2
import PyProof.Rows.StrNews
import PyProof.CallStr
import PyProof.DictRoads
import KE.KIntText
import PyProof.ToksMono
import PyProof.StrBlockG
import PyProof.StrBlock2
import PyProof.MeetsStr3
import PySem.Challenge.RW_fewbits_k75_whole_made_by_any_stays
set_option compiler.extract_closed false
set_option genInjectivity false
set_option genSizeOf false
open Lean renaming mkAtom->mqA,Syntax->mq,mkNode->mqM
open Lean.Macro renaming throwUnsupported->mqF
private def mqO(l:List mq:=[]):mq:=Lean.mkNullNode l.toArray
private def mqJ(c:String)(l:List mq):mq:=Lean.mkNullNode (Lean.mkSepArray l.toArray (mqA c))
private def mqN(k:String)(l:List mq):mq:=mqM ("Lean.Parser."++k).toName l.toArray
private def mqI(f:String):mq:=Lean.mkIdent f.toName
private def mqE(f:mq)(l:List mq):=mqN "Term.app" [f,mqO l]
private def mqT(f:String):=mqE (mqI f)
private def mqD(f:String):=mqE (mqN "Term.dotIdent" [mqA ".",mqI f])
private def mqC:=mqN "Tactic.optConfig" [mqO]
private def mqV(n:String)(l:=[mqC]):=mqN ("Tactic."++n) (mqA n::l)
private def mqQ(t:List mq):=mqN "Tactic.tacticSeq" [mqN "Tactic.tacticSeq1Indented" [mqJ ";" t]]
private def mqB(t:mq):=mqN "Term.byTactic" [mqA "by",mqQ [t]]
private def mqG(p:List mq)(e:mq):=mqV "obtain" [mqO [mqN "Tactic.rcasesPatMed" [mqO p]],mqO,mqO [mqA ":=",mqO [e]]]
private def mqP:Nat->mq->mq
 |0,s=>s
 |n+1,s=>if s.isIdent then mqN "Tactic.rcasesPat.one" [if s.getId==`U then mqI "rfl" else s] else if s.getNumArgs<2 then mqN "Tactic.rcasesPat.ignore" [s[0]] else mqN "Tactic.rcasesPat.tuple" [mqA "⟨",mqJ "," ((if s[0].getNumArgs>0 then s[1][0]::s[1][2].getSepArgs.toList else s[1].getSepArgs.toList).map λ x=>mqN "Tactic.rcasesPatLo" [mqN "Tactic.rcasesPatMed" [mqO [mqP n x]],mqO]),mqA "⟩"]
local macro_rules(kind:=Lean.Parser.Term.tuple)|s=>if s[1].getNumArgs>0&&s[1][2].getNumArgs%2=0 then return mqN "Term.anonymousCtor" [mqA "⟨",mqJ "," (s[1][0]::s[1][2].getSepArgs.toList),mqA "⟩"] else mqF
local macro_rules(kind:=coeNotation)|s=>return mqT "List.length" [s[1]]
local macro_rules(kind:=Lean.Parser.Term.paren)|s=>if s[1].getKind==`Lean.Parser.Term.cdot then return mqB (mqV "decide") else if s[1][1].getKind==`Lean.Parser.Term.hole then return mqB (mqV "omega") else mqF
local macro_rules(kind:=Lean.Parser.Term.typeAscription)|s=>if s[3].getNumArgs=0 then return mqB (mqV "simpa" [mqO,mqO,mqN "Tactic.simpaArgsRest" [mqC,mqO,mqO,mqO,mqO [mqA "using",s[1]]]]) else mqF
local macro_rules(kind:=«term__[_]_!»)|s=>return mqT "Nat.testBit" [s[0],s[3]]
local macro_rules(kind:=Lean.Parser.Tactic.tacticLet__)|s=>if s[2][0].getKind==`Lean.Parser.Term.letIdDecl then return mqM `Lean.Parser.Tactic.tacticHave__ #[mqA "have",s[1],s[2]] else return mqG [mqP 9 s[2][0][0]] s[2][0][4]
local macro_rules(kind:=Lean.Parser.Command.declaration)|s=>if s[1].getKind==`Lean.Parser.Command.definition&&s[0].getArgs.all (·.getNumArgs==0) then return s.setArg 0 (s[0].setArg 4 (mqO [mqN "Command.noncomputable" [mqA "noncomputable"]])) else mqF
open List renaming getElem?_eq_getElem->yAa,take_length->yAb,getElem?_map->yAe,length_map->yAf,replicate->yAg,getElem?_append_right->yAh,size_toArray->yAj,map_cons->yAm,length_cons->yAo,map_append->yAu,getElem?_set_self->yAx,getElem?_set_ne->yAy,map_map->yBa,append_nil->yBc,length_set->yBd,append_assoc->yBg,replicate_succ->yBj,range->yBk,length_take->yBl,getElem?_eq_none->yBr,map_congr_left->yBs,length_nil->yBz,lookup_cons->yCc,filter_cons->yCe,length_replicate->yCg,length_range->yCi,take_of_length_le->yCo,filterMap_cons->yCp,range'->yCr,find?_cons->yCx,getElem?_take_of_lt->yDa,set_cons_zero->yDc,getElem?_cons_succ->yDi,getElem?_cons_zero->yDk,foldl_cons->yDq,not_mem_nil->yDv,length_singleton->yDy,mem_singleton->yDz,mem_cons->yEa,set_cons_succ->yEc,drop_eq_getElem_cons->yEe,getElem?_of_mem->yEg,set_eq_of_length_le->yEi,nil_append->yEk,getElem?_replicate->yEp,filter_append->yEw,map_nil->yEy,flatten_cons->yFg,take->yFk,length->yFp,any_cons->yFw,map_replicate->yGb,drop_zero->yGi,drop_length->yGl,cons_append->yGm,getElem?_zipIdx->yGp,getElem_of_mem->yGu,zip_cons_cons->yHd,getElem?_drop->yHf,foldl_nil->yHj,take_left->yHk,mem_range'_1->yHn,length_drop->yHr
open Nat renaming le_of_ble_eq_true->yAc,le_refl->yAd,testBit_and->yAi,testBit_mod_two_pow->yAk,pow_le_pow_right->yAl,testBit_xor->yAr,mod_two_eq_zero_or_one->yAs,sub_self->yBe,zero_testBit->yBh,or_lt_two_pow->yBi,mod_eq_of_lt->yBm,le_max_left->yBt,zero_le->yBv,xor_lt_two_pow->yBy,min_le_left->yCa,and_le_left->yCb,lt_irrefl->yCs,lt_pow_two_of_testBit->yCt,le_of_lt->yCv,not_lt_zero->yCy,and_two_pow_sub_one_eq_mod->yCz,min_le_right->yDd,le_add_right->yDe,testBit_succ->yDf,le_of_not_lt->yDg,testBit_div_two_pow->yDj,lt_trans->yDm,add_comm->yDn,add_le_add_left->yDt,testBit_zero->yDw,sub_le->yDx,div_lt_iff_lt_mul->yEb,pow_lt_pow_right->yEh,min_eq_left->yEj,toNat_testBit->yEl,le_of_eq->yEm,zero_add->yEn,pow_add->yEq,add_sub_cancel'->yEr,min_eq_right->yEt,ne_of_gt->yEx,pow_succ->yFc,div_add_mod->yFd,lt_succ_self->yFm,reduceLeDiff->yFn,and_le_right->yFo,testBit_two_pow->yFq,sub_le_sub_left->yFr,add_sub_cancel->yFz,reduceAdd->yGa,testBit_eq_decide_div_mod_eq->yGc,le_succ->yGg,mod_lt->yGh,not_le_of_lt->yGn,le_max_right->yGo,div_le_self->yGv,succ_ne_zero->yHt,mul_comm->yHx,le_total->yHy,xor_zero->yIa,add_zero->yIb
open Int renaming toNat_natCast->yAt,natCast_emod->yBu,natCast_mul->yCk,mul_le_mul_of_nonneg_right->yGk,natCast_nonneg->yHa,emod_lt_of_pos->yHe
open Bool renaming true_and->yAp,false_eq_true->yAv,false_and->yAw,and_eq_true->yBf,false_ne_true->yBx,eq_iff_iff->yCj,and_true->yCu,or_eq_true->yFa,eq_false_or_eq_true->yFu,and_false->yGj,or_false->yGq,false_or->yHq,or_true->yHz
open Option renaming bind_some->yCd,bind->yDr,map_some->yFb,isSome_map->yHm,getD_none->yHs,map->yIc
open PySem.Builtin.Range renaming rangeSize->yEo,small->yId
open PySem.Builtin.SmallTypes renaming nextOf->yBq,ownedTupleIsFree->yDs,ownedTupleHandOut->yFl,iterAll->yGz
open PySem.Builtin.Int renaming intBits->yAn
open PyProof.Rows renaming callWith_type1->yBb,slot_tuple_getitem->yCq
open PySem.Heap renaming SameBut->yCl,get?_update_other->yCn,get?_update_self->yCw,size_push->yFi
open PySem.PyData renaming int->Iz,tuple->Tz,bool->Bz,str->Sz,eqv->yEv,depthAll->yFe,canLayAll0->yFh,list->Lz
open PySem.W renaming findIn->yBn,keepIn->yBp,emptyDict->yCf,fnOf->yCh,nsIn->yCm,codeIn->yDl,instObj->yDp,plainGet->yEs,hasDictIn->yFf,plainOver->yGf,mg_of->yGr,plainGet_of->yGs,isFn->yHb,callWith_K->yHc,lookIn->yHh,methodObj->yHl,takerIn->yHv,makesIn->yHw
open PySem.F renaming plain_extend_loop->yEf,slot_int_rmul->yEz,args_tuple_add_2->yFs,args_tuple_mul_2->yFt,entry_tuple_add->yFv,entry_tuple_mul->yFx,plainAttrs_list->yFy,slot_tuple_add->yGd,slot_tuple_mul->yGe,slot_int_bit_length->yGt,entry_extend_loop->yHi
open PySem.Builtin renaming bitNot->yBo,divisionGoesByPylong->yDh,bitAnd->yEu,bitXor->yHg,bitOr->yHp
open PySem.Builtin.Slice renaming slicePlaces->yEd,sliceAdjust->yFj,sliceApplied->yGw
open PySem.Builtin.Tuple renaming tupleExact->yDb,tupleItemsOf->yGx,tupleTooMany->yGy
open PySem.Builtin.List renaming listExtendWith->yDu,listSameRef->yHo,listItems->yHu
open PySem renaming Value->qj,Shared->qv,Addr->qw,Expr->qy,sizeLine->qk,wpAny->qu,starEach->qo,sizeLine_eq->zq,Program->zx,World->zj,Around->zv,Scope->zw,mainGlobals->zy,wpAny_holding->zk,binaryOp->zu,assignEach->zo,wpAny_field->xq,behindInMarks->xz,wpAny_newObj_type->xj,compareOp->xw,wpAny_Call_Name_kw->xy,Stmt->xk,wpAny_truthy_bool->xu,foldedSetIterable->xo,wpAny_call_entry->jq,call_meets->jz,wpAny_pyIter_tuple->jx,wpAny_setField_rec->jj,CmpOp->jv,wpAny_pyIter_list->jw,Operator->jy,NameKind->jk,wpAny_seqItems->ju,codeAny->jo,FuncData->vq,wpAny_passesOwn->vz,wpAny_updateSeq->vx,sliceBounds->vj,bootBuiltins->vv,wpAny_pyNext_list_item->vw,wpAny_pyIter_enum->vy,wpAny_pyNext_list_end->vk,letOwnedTupleGo->vo,rawInt->wq,shortFactorBits->wz,wpAny_specialOf->wj,UnaryOp->ww,typeIs_int->wu,pyNext->yq,wpAny_letOwnedTupleGo_enum->yz,wpAny_rule->yx,wpAny_binaryOp_repeat_ref->yj,swappedStores->yv,wpAny_standAt->yw,wpAny_isInstance->yy,wpAny_pyIter_zip->yk,wpAny_pyIter_rangeiter->yu,IsRangeIter->kq,isSubtype_stop->kz
open Option renaming some->qz,none->qx
abbrev wB:=@PySem.wpAny_bind
abbrev wP:=@PySem.wpAny_pure
abbrev hpS:=@PySem.Heap.get?_push_of_some
def gIm {α:Type _}{l:List α}{i:Nat}{a:α}:l[i]?=qz a->∃ h,l[i]=a:=List.getElem?_eq_some_iff.mp
abbrev dqF:=@decide_eq_false
abbrev dqT:=@decide_eq_true
abbrev oqT:=@of_decide_eq_true
abbrev FrG:=PySem.W.Frag
abbrev xAa:=@PySem.Heap.lt_size
abbrev xAb:=@Nat.lt_of_lt_of_le
abbrev xAc:=@List.mem_cons_self
abbrev xAd:=@PySem.Heap.get?_push_size
abbrev xAe:=@Nat.two_pow_pos
abbrev xAf:=@List.mem_cons_of_mem
abbrev xAg:=@List.getD_eq_getElem?_getD
abbrev xAh:=@Nat.le_trans
abbrev xAi:=@Nat.lt_of_le_of_lt
abbrev xAj:=@Nat.ne_of_lt
abbrev xAk:=@List.mem_of_getElem?
abbrev xAl:=@Nat.eq_of_testBit_eq
abbrev xAm:=@List.getElem?_append_left
abbrev xAn:=@List.length_append
abbrev xAo:=@Nat.testBit_or
abbrev xAp:=@List.mem_append_right
local macro_rules(kind:=Lean.Parser.Tactic.omega)|_s=>return mqV "lia"
set_option Elab.async false
set_option linter.all false
set_option maxRecDepth 100000
open Bool renaming true->Tt,false->Ff
abbrev Li(a:Type _):=List a
abbrev Oz(a:Type _):=Option a
abbrev U{α:Sort _}{a:α}:a=a:=rfl
abbrev G(a:Type _):=List a
open Option renaming some->J
open Bool renaming true->Z
namespace L2
open PySem PySem.Spec PyProof.Rows
abbrev bN:=Sum Int Str
def oJ:bN->qj->Bool
 |.inl k,v=>Value.isInt k v|.inr x,v=>Value.isStrOf x v
def bBy(w:zj):bN->Int
 |.inl k=>hashInt k|.inr x=>hashStr w x
def nR:∀ {k:bN}{v:qj},oJ k v=Z->(∃ i t,k=Sum.inl i/\v=Value.int i t)\/(∃ x t,k=Sum.inr x/\v=Value.str x t)
 |.inl i,v,h=>by
   let(t,e):=Value.isInt_shape (k:=i) (v:=v) h;exact .inl (i,t,U,e,)
 |.inr x,v,h=>by
   let(t,e):=Value.isStrOf_shape (x:=x) (v:=v) h;exact .inr (x,t,U,e,)
def aQO(i:Int)(t:Tok):oJ (.inl i) (.int i t)=Z:=by simp[oJ,Value.isInt]
def aDB(x:Str)(t:Tok):oJ (.inr x) (.str x t)=Z:=by simp[oJ,Value.isStrOf]
def aYl(a b:Int):decide ((Sum.inl a:bN)=Sum.inl b)=(a==b):=by grind
def aX1(a b:Str):decide ((Sum.inr a:bN)=Sum.inr b)=decide (a=b):=by simp_all
def aX7(a:Int)(b:Str):decide ((Sum.inl a:bN)=Sum.inr b)=Ff:=dqF (λ q=>nomatch q)
def aXd(a:Str)(b:Int):decide ((Sum.inr a:bN)=Sum.inl b)=Ff:=dqF (λ q=>nomatch q)
def fY(prog:zx)(w:zj):PySem.KeyKind prog w bN where
 is:=oJ
 hash:=bBy w
 inj:=λ v a b ha hb=>by
  rcases nR ha with ⟨i,t,rfl,rfl⟩|⟨x,t,rfl,rfl⟩
  .rcases nR hb with ⟨j,u,rfl,e⟩|⟨y,u,rfl,e⟩
   .injection e with e1 _;rw[e1]
   .exact nomatch e
  .rcases nR hb with ⟨j,u,rfl,e⟩|⟨y,u,rfl,e⟩
   .exact nomatch e
   .injection e with e1 _;rw[e1]
 byValue:=λ k v h=>by
  rcases nR h with ⟨i,t,rfl,rfl⟩|⟨x,t,rfl,rfl⟩<;>rfl
 pyHash:=λ hv h=>by
  rcases nR hv with ⟨i,t,rfl,rfl⟩|⟨x,t,rfl,rfl⟩
  .exact wpAny_pyHash_int h
  .exact wpAny_pyHash_str h
 eqBool:=λ hu hv h=>by
  rcases nR hu with ⟨i,t,rfl,rfl⟩|⟨x,t,rfl,rfl⟩
  .rcases nR hv with ⟨j,u,rfl,rfl⟩|⟨y,u,rfl,rfl⟩
   .rw[aYl] at h;exact wpAny_eqBool_int h
   .rw[aX7] at h;exact SeqAt.EqAt.int_str i t y u _ _ _ _ h
  .rcases nR hv with ⟨j,u,rfl,rfl⟩|⟨y,u,rfl,rfl⟩
   .rw[aXd] at h;exact SeqAt.EqAt.str_int x t j u _ _ _ _ h
   .rw[aX1] at h;exact wpAny_eqBool_str h
 «strs»:=λ k x t v h=>by
  rcases nR h with ⟨i,u,rfl,e⟩|⟨y,u,rfl,e⟩
  .exact nomatch e
  .injection e with e1 _
   subst e1;cases v<;>rfl
def aPj(prog:zx)(w:zj)(i:Int)(t:Tok):(fY prog w).is (.inl i) (.int i t)=Z:=aQO i t
def aPn(prog:zx)(w:zj)(x:Str)(t:Tok):(fY prog w).is (.inr x) (.str x t)=Z:=aDB x t
end L2
namespace L2
open PySem PySem.Spec PyProof.Rows
inductive V where
 |non|bl (b:Bool)|int (i:Int)|str (x:Str)|byt (b:Array UInt8)|flt (b:UInt64)|ref (a:qw)|ty (n:String)
 deriving DecidableEq
def bG:V->qj->Prop
 |.non,u=>u=Value.none|.bl b,u=>u=Value.bool b|.int i,u=>∃ t,u=Value.int i t|.str x,u=>∃ t,u=Value.str x t|.byt b,u=>∃ t,u=Value.bytes b t|.flt b,u=>∃ t,u=Value.float b t|.ref a,u=>u=Value.ref a|.ty n,u=>u=Value.type n
noncomputable abbrev bI:List V->List qj->Prop:=Paired bG
def bI.length{xs:G V}(r:bI xs us):↑xs=↑us:=Paired.length r
def bI.get:∀ {xs:G V}{us:List qj}{i:Nat}{x:V},bI xs us->xs[i]?=J x->∃ u,us[i]?=J u/\bG x u
 |_,_,_,_,.nil,e=>by simp at e|_,_,0,_,.cons r _,e=>by simp at e;subst e;exact(_,U,r,)
 |_,_,i+1,x,.cons _ t,e=>by
   let(u,h1,h2):=bI.get (i:=i) (x:=x) t (e:);simp_all
def bI.set(r:bG x u):∀ {xs:G V}{us:List qj} (i:Nat),bI xs us->bI (xs.set i x) (us.set i u)
 |_,_,_,.nil=>.nil|_,_,0,.cons _ t=>.cons r t|_,_,i+1,.cons q t=>.cons q (bI.set r i t)
def bI.append:∀ {xs ys:G V}{us ws:List qj},bI xs us->bI ys ws->bI (xs++ys) (us++ws)
 |_,_,_,_,.nil,s=>s|_,_,_,_,.cons r t,s=>.cons r (bI.append t s)
def bI.take:∀ {xs:G V}{us:List qj} (n:Nat),bI xs us->bI (xs.take n) (us.take n)
 |_,_,0,_=>.nil|_,_,_+1,.nil=>.nil|_,_,n+1,.cons r t=>.cons r (bI.take n t)
def bI.drop:∀ {xs:G V}{us:List qj} (n:Nat),bI xs us->bI (xs.drop n) (us.drop n)
 |_,_,0,r=>r|_,_,_+1,.nil=>.nil|_,_,n+1,.cons _ t=>bI.drop n t
def iL:Oz V->Option qj->Prop
 |some v,J u=>bG v u|none,qx=>True|_,_=>False
def KV{κ:Type}:G (κ×V)->G (κ×qj)->Prop:=Paired λ(p:κ×V) (q:κ×qj)=>p.1=q.1/\bG p.2 q.2
def kV:bN->V
 |.inl i=>.int i|.inr x=>.str x
inductive HO where
 |lst (xs:List V)
 |tup (xs:List V)
 |dK (aO:List (bN×V))|dT (aO:List (List bN×V))
 |set (S:Int->Bool) (n:Nat)
 |ins (C dx:qw) (fs:List (Str×V))
 |own (x:qw)
 |xd (fs:List (Str×V))
 |met (f x:qw)
 |rng (lo hi:Int)
 |frz (o:Obj) (u:HO)
 |tbl (ps:Array qj)
 |ext (φ:Heap->Prop)
abbrev Hp:=qw->Option HO
def bJ(H:Hp)(a:qw)(o:HO):Hp:=λ b=>if b=a then J o else H b
def cU:bJ H a o a=J o:=by unfold bJ;rw[if_pos U]
def bZ(h:b≠a):bJ H a o b=H b:=by unfold bJ;rw[if_neg h]
def bAu{H:Hp}{a b:qw}{o u:HO}(h:H a=J o)(h':H b=J u)(d:o≠u):a≠b:=by grind
def fB{H:Hp}{a b:qw}{o:HO}(h:H a=J o)(h':H b=qx):a≠b:=by grind
section
variable (P:zx)(w:zj)
def fF(H:Hp)(h:Heap)(a:qw):HO->Prop
 |.lst xs=>↑xs<=qk/\∃ (aK:List qj) (n:Nat),bI xs aK/\h.get? a=J {cls:=.type "list",data:=.seq aK.toArray n }|.tup xs=>↑xs<=qk/\∃ aK:List qj,bI xs aK/\IsTup h a aK.toArray|.dK aO=>aO.length<=qk/\(a==sysModules)=Ff/\∃ vs,KV aO vs/\h.DictOf (fY P w) a vs
 |.dT aO=>aO.length<=qk/\(a==sysModules)=Ff/\∃ xs:G (List bN×qw×qj),
    Paired (λ(p:List bN×V) (q:List bN×qw×qj)=>p.1=q.1/\H q.2.1=J (.tup (p.1.map kV))/\bG p.2 q.2.2) aO xs /\
    ∃ o es ep,h.get? a=J o/\o.ExactDict/\o.data=.dict es ep/\es.toList=xs.map (entryOfKey (tupleKind (fY P w)))/\(xs.map (·.1)).Nodup
 |.set S n=>h.SetOf (intKind P w) a S n
 |.ins C dx fs=>H dx=J (.own a)/\↑fs<=1000/\dx≠a/\h.get? a=J (yDp C dx) /\
    ∃ mA,h.Ns1 dx mA/\(∀ f,iL (fs.lookup f) (mA f))/\PySem.Within mA (fs.map (·.1))
 |.own _=>∃ o,h.get? a=J o|.xd fs=>∃ mA,h.Ns1 a mA/\∀ f,iL (fs.lookup f) (mA f)|.rng lo hi=>∃ t u v,h.get? a=J {cls:=.type "range",data:=.fields #[.int lo t,.int hi u,.int 1 v] }|.frz o u=>h.get? a=J o/\fF H h a u|.tbl ps=>h.get? a=J {cls:=.none,data:=.fields ps }|.met f x=>h.get? a=J (yHl (.ref f) (.ref x))|.ext φ=>φ h/\(∃ o,h.get? a=J o)/\∀ h1 h2:Heap,φ h1->(∀ o,h1.get? a=J o->h2.get? a=J o)->φ h2
def dE(H:Hp)(h:Heap):Prop:=∀ a o,H a=J o->fF P w H h a o
end
def fF.lt(x:fF P w H h a o):a<h.objs.size:=by
 cases o with
 |lst xs=>let(_,_,_,_,e):=x;exact xAa e
 |tup xs=>let(_,_,_,p):=x;exact p.lt
 |dK aO=>let(_,_,_,_,o,_,_,e,_):=x;exact xAa e
 |dT aO=>let(_,_,_,_,o,_,_,e,_):=x;exact xAa e
 |set S n=>let(o,_,_,_,e,_):=x;exact xAa e
 |ins C dx fs=>let(_,_,_,e,_):=x;exact xAa e
 |own y=>let(_,e):=x;exact xAa e
 |xd fs=>let(_,(_,_,_,e,_),_):=x;exact xAa e
 |rng lo hi=>let(_,_,_,e):=x;exact xAa e
 |frz ob u=>let(e,_):=x;exact xAa e
 |tbl ps=>exact xAa (show h.get? a=J _ from x)
 |met f y=>exact xAa (show h.get? a=J _ from x)
 |ext φ=>let(_,(_,e),_):=x;exact xAa e
def Paired.mapP{α β:Type}{F G:α->β->Prop}:∀ {l₁:List α}{l₂:List β},Paired F l₁ l₂->(∀ a b,F a b->G a b)->Paired G l₁ l₂
 |_,_,.nil,_=>.nil|_,_,.cons r t,f=>.cons (f _ _ r) (Paired.mapP t f)
def fF.stay{h':Heap}(x:fF P w H h a o)(k:∀ b u,(b=a\/H b=J (.own a))->h.get? b=J u->h'.get? b=J u)(ho:∀ b,H b=J (.own a)->H' b=J (.own a))(ht:∀ b xs,H b=J (.tup xs)->H' b=J (.tup xs)):fF P w H' h' a o:=by
 induction o with
 |lst xs=>let(z,aK,n,r,e):=x;exact(z,aK,n,r,k _ _ (.inl U) e,)
 |tup xs=>let(z,aK,r,ob,e,c):=x;exact(z,aK,r,ob,k _ _ (.inl U) e,c,)
 |dK aO=>let(z,y,vs,r,ob,es,ep,e,c):=x;exact(z,y,vs,r,ob,es,ep,k _ _ (.inl U) e,c,)
 |dT aO=>
   let(z,y,xs,r,ob,es,ep,e,c):=x;exact(z,y,xs,Paired.mapP r λ p q z=>(z.1,ht _ _ z.2.1,z.2.2,),ob,es,ep,k _ _ (.inl U) e,c,)
 |set S n=>let(ob,es,ep,t,e,c):=x;exact(ob,es,ep,t,k _ _ (.inl U) e,c,)
 |ins C dx fs=>
   let(d,z,ne,e,mA,(od,es,ep,e2,c),r):=x;exact(ho _ d,z,ne,k _ _ (.inl U) e,mA,(od,es,ep,k _ _ (.inr d) e2,c,),r,)
 |own y=>let(ob,e):=x;exact(ob,k _ _ (.inl U) e,)
 |xd fs=>let(mA,(od,es,ep,e,c),r):=x;exact(mA,(od,es,ep,k _ _ (.inl U) e,c,),r,)
 |rng lo hi=>let(t,u,v,e):=x;exact(t,u,v,k _ _ (.inl U) e,)
 |frz ob u ih=>let(e,q):=x;exact(k _ _ (.inl U) e,ih q,)
 |tbl ps=>
   let e:h.get? a=J {cls:=.none,data:=.fields ps }:=x;show h'.get? a=J {cls:=.none,data:=.fields ps };exact k a _ (.inl U) e
 |met f y=>
   let e:h.get? a=J (yHl (.ref f) (.ref y)):=x;show h'.get? a=J (yHl (.ref f) (.ref y));exact k a _ (.inl U) e
 |ext φ=>let(p,(o,e),st):=x;exact(st _ _ p λ o q=>k _ _ (.inl U) q,(o,k _ _ (.inl U) e,),st,)
def dE.lt(x:dE P w H h)(e:H a=J o):a<h.objs.size:=(x a o e).lt
def dE.fresh(x:dE P w H h)(e:h.objs.size<=a):H a=qx:=by
 cases q:H a with
 |none=>rfl|some u=>exact absurd (xAb (x.lt q) e) (yCs _)
def dE.kept{h':Heap}(x:dE P w H h)(k:∀ b u,h.get? b=J u->h'.get? b=J u):dE P w H h':=λ a o e=>
 (x a o e).stay (λ b u _ q=>k b u q) (λ _ q=>q) λ _ _ q=>q
def dE.laid{h':Heap}(x:dE P w H h)(k:∀ b u,h.get? b=J u->h'.get? b=J u)(hp:h.objs.size<=a)(new:fF P w (bJ H a o) h' a o):dE P w (bJ H a o) h':=λ b u e=>by
 let hn:=x.fresh hp;by_cases hb:b=a
 .subst hb;rw[cU] at e;simp_all
 .rw[bZ hb] at e;exact(x b u e).stay (λ c v _ q=>k c v q) (λ c q=>by rw[bZ (fB q hn)];exact q) λ c xs q=>by rw[bZ (fB q hn)];exact q
def Rd(H:Hp)(a:qw)(u:HO):Prop:=H a=J u\/∃ o,H a=J (.frz o u)
def Rd.ok(r:Rd H a u)(x:dE P w H h):fF P w H h a u:=by
 rcases r with r|⟨o,r⟩
 .exact x a u r
 .let(_,q):=x a _ r;exact q
def Mut:Oz HO->Prop
 |some (.lst _)=>True|some (.dK _)=>True|some (.dT _)=>True|some (.set _ _)=>True|some (.ins _ _ _)=>True|some (.ext _)=>True|_=>False
def dE.write{h':Heap}(ok:dE P w H h)(mu:Mut (H x))(he:e=x\/H e=J (.own x))(k:∀ b u,b≠e->h.get? b=J u->h'.get? b=J u)(heo:∃ u,h'.get? e=J u)(new:fF P w (bJ H x o') h' x o'):dE P w (bJ H x o') h':=λ b u q=>by
 let nown:∀ c y,H c=J (.own y)->c≠x:=λ c y r z=>by subst z;rw[r] at mu;exact mu
 let ntup:∀ c xs,H c=J (.tup xs)->c≠x:=λ c xs r z=>by subst z;rw[r] at mu;exact mu
 by_cases hb:b=x
 .subst hb;rw[cU] at q;simp_all
 .rw[bZ hb] at q;by_cases hbe:b=e
  .have q':H b=J (.own x):=by
    rcases he with z|z
    .exact absurd (hbe.trans z) hb
    .rw[hbe];exact z
   rw[q] at q';cases q';let(v,hv):=heo;exact(v,by rw[hbe];exact hv,)
  .refine(ok b u q).stay (λ c v hc r=>k c v ?_ r) (λ c r=>by rw[bZ (nown c b r)];exact r) λ c xs r=>by rw[bZ (ntup c xs r)];exact r
   rcases hc with rfl|hc
   .exact hbe
   .rintro rfl;rcases he with z|z
    .exact nown c b hc z
    .rw[hc] at z;cases z;exact hb U
structure Un(fs ex:List qw)(H H':Hp)(h h':Heap):Prop where
 keep:∀ b o,h.get? b=J o->H b=qx->b ∉ fs->b ∉ ex->h'.get? b=J o
 slot:∀ b o,h.get? b=J o->H b=qx->b∈fs->b ∉ ex->∃ sl,h'.get? b=J {o with slots:=sl }
 free:∀ b o,h.get? b=J o->H b=qx->b ∉ ex->H' b=qx
 there:∀ b o,h.get? b=J o->b ∉ ex->∃ o',h'.get? b=J o'
 tups:∀ b xs,H b=J (.tup xs)->H' b=J (.tup xs)
 frzs:∀ b o u,H b=J (.frz o u)->H' b=J (.frz o u)
 tbls:∀ b ps,H b=J (.tbl ps)->∃ more,H' b=J (.tbl (ps++more))
def Un.any(u:Un fs ex H H1 h h1)(q:h.get? b=J ob)(n:H b=qx)(hx:b ∉ ex):∃ sl,h1.get? b=J {ob with slots:=sl }:=by
 by_cases hb:b∈fs
 .exact u.slot b ob q n hb hx
 .exact(ob.slots,u.keep b ob q n hb hx,)
def Un.kept{h h':Heap}(k:∀ b u,h.get? b=J u->h'.get? b=J u):Un fs ex H H h h':=
 (λ b ob q _ _ _=>k b ob q,λ b ob q _ _ _=>(ob.slots,k b ob q,),λ _ _ _ n _=>n,λ b ob q _=>(ob,k b ob q,),λ _ _ q=>q,λ _ _ _ q=>q,λ _ ps q=>(#[],by rw[q];simp,),)
def Un.refl:Un fs ex H H h h:=Un.kept λ _ _ q=>q
def Un.laid{h h':Heap}(k:∀ b u,h.get? b=J u->h'.get? b=J u)(hp:h.objs.size<=a)(hn:H a=qx):Un fs ex H (bJ H a o) h h' where
 keep:=λ b u q _ _ _=>k b u q
 slot:=λ b u q _ _ _=>(u.slots,k b u q,)
 free:=λ b u q n _=>by rw[bZ (xAj (xAb (xAa q) hp))];exact n
 there:=λ b u q _=>(u,k b u q,)
 tups:=λ b xs q=>by rw[bZ (fB q hn)];exact q
 frzs:=λ b u xs q=>by rw[bZ (fB q hn)];exact q
 tbls:=λ b ps q=>(#[],by rw[bZ (fB q hn),q];simp,)
def Un.write{h h':Heap}(mu:Mut (H x))(he:e=x\/H e=J (.own x))(k:∀ b u,b≠e->h.get? b=J u->h'.get? b=J u)(heo:∃ u,h'.get? e=J u):Un fs ex H (bJ H x o) h h':=by
 let hx:∀ b,H b=qx->b≠x:=λ b n z=>by subst z;rw[n] at mu;exact mu
 let hb:∀ b,H b=qx->b≠e:=λ b n z=>by
  simp_all
 let hm:∀ b u,H b=J u->¬ Mut (J u)->b≠x:=λ b u q nm z=>by simp_all
 refine⟨λ b u q n _ _=>k b u (hb b n) q,λ b u q n _ _=>(u.slots,k b u (hb b n) q,),λ b u q n _=>by rw[bZ (hx b n)];exact n,λ b u q _=>?_,
  λ b xs q=>by rw[bZ (hm b _ q λ z=>z)];exact q,λ b u xs q=>by rw[bZ (hm b _ q λ z=>z)];exact q,λ b ps q=>(#[],by rw[bZ (hm b _ q λ z=>z),q];simp,)⟩
 grind
def trk(h:Heap)(H:Hp):List qw:=(yBk h.objs.size).filter λ a=>(H a).isSome
def oT(h:Heap)(H:Hp):Heap:=PySem.W.hideAll h (trk h H)
def aQ6(h:Heap)(H:Hp):(oT h H).objs.size=h.objs.size:=PySem.W.hideAll_size _ _
def aRK{h:Heap}(e:h.get? b=J o)(n:H b=qx):(oT h H).get? b=J o:=
 PySem.W.hideAll_get _ e λ hm=>by
  let q:(H b).isSome=Z:=(List.mem_filter.mp hm).2;rw[n] at q;simp at q
def aUQ(e:(oT h H).get? b=J o):h.get? b=J o/\H b=qx:=by
 let e':h.get? b=J o:=PySem.W.of_hideAll (trk h H) e;refine(e',?_,);cases q:H b with
 |none=>rfl
 |some x=>
   let hm:b∈trk h H:=List.mem_filter.mpr (List.mem_range.mpr (xAa e'),by simp[q],);let z:(oT h H).get? b=qx:=PySem.W.hideAll_none (trk h H) hm;rw[z] at e;cases e
def aUu(g h:Heap)(L:qw):G (qw×Obj):=(yBk h.objs.size).filterMap λ a=>if a=L\/(g.get? a).isSome=Z then qx else (h.get? a).map λ o=>(a,o)
def cD(g h:Heap)(L d:qw):G (qw×Obj):=(aUu g h L).filter λ p=>decide (p.1≠d)
end L2
namespace L2
open PySem PySem.Spec PyProof.Rows
structure Mod(K:FrG)(mg:Str->Option qj)(base:Heap):Prop where
 kin:K.In base
 glob:base.Ns zy mg
 blt:∃ mb,base.Ns builtinsNs mb/\∀ x:Str,x ≠ "__name__" -> mb x=vv x
 nolimit:base.NoLimit
structure Cx where
 prog:zx
 w:zj
 K:FrG
 mg:Str->Option qj
 base:Heap
 A:zv
 N:List Str
 s₀:qv
 H₀:Hp
 env:Env
 outer:List Env
 stack:List Env
 ex:List qw
 fn:Str->Bool
 calm:Bool
 pn:List (qw×Obj)
 xe:qj->qv->Prop
def jQ(l:G Env):List qw:=l.filterMap (·.frame)
noncomputable abbrev Cx.fs(X:Cx):List qw:=jQ X.outer
def Vis(sc:zw)(x:Str):Prop:=sc.names.lookup x=J .local\/sc.names.lookup x=J .cell\/sc.names.lookup x=J .free
def Loc(sc:zw)(x:Str):Prop:=sc.names.lookup x=J .local\/sc.names.lookup x=J .cell
def bA8(env:Env)(h:Heap)(m:Str->Option qj)(x:Str)(u:qj):Prop:=
 (env.kindOf x=J .local/\m x=J u)\/((env.kindOf x=J .cell\/env.kindOf x=J .free)/\∃ c,env.cells.lookup x=J c/\h.IsCell c (J u))
structure Cx.Ok(X:Cx):Prop where
 mod:Mod X.K X.mg X.base
 kind:X.env.scope.kind=.function
 glob:X.env.globals=zy
 blt:X.env.builtins=builtinsNs
 above:X.s₀.heap.objs.size<=X.env.locals
 inj:∀ x y c,X.env.cells.lookup x=J c->X.env.cells.lookup y=J c->x=y
 has:∀ x,(X.env.kindOf x=J .cell\/X.env.kindOf x=J .free)->∃ c,X.env.cells.lookup x=J c
 cab:∀ x c,X.fn x=Z->X.env.cells.lookup x=J c->X.s₀.heap.objs.size<=c
 hd:X.calm=Z->X.A.handled=qx
 frames:X.A.frames=J X.stack
 stk:X.stack=X.outer\/(X.stack=X.env::X.outer/\X.env.frame=J X.env.locals)
 exf:∀ b∈X.ex,b≠X.env.locals/\∀ x c,X.env.cells.lookup x=J c->c≠b
 bs:∀ b o,X.base.get? b=J o->X.s₀.heap.get? b=J o/\X.H₀ b=qx
 bsz:X.base.objs.size<=X.s₀.heap.objs.size
 noex:∀ b o,X.base.get? b=J o->b ∉ X.ex
 exfs:∀ b∈X.ex,b ∉ X.fs
 funs:X.s₀.heap.FunFrames X.base X.outer
 frf:∀ b∈X.fs,X.H₀ b=qx
structure Inv(X:Cx)(aB:List (qw×Obj))(σ:List (Option V))(H:Hp)(s:qv):Prop where
 ok:X.Ok
 os:s.os=X.s₀.os
 bare:AllBare s.gens
 base:Un X.fs X.ex X.H₀ H X.s₀.heap s.heap
 loc:∃ m,s.heap.Ns X.env.locals m/\∀ (i:Nat) (x:Str) (v:V),X.N[i]?=J x->σ[i]?=J (J v)->Vis X.env.scope x->∃ u,bG v u/\bA8 X.env s.heap m x u
 cell:∀ x c,X.env.cells.lookup x=J c->∃ v,s.heap.IsCell c v
 free:H X.env.locals=qx
 freeC:∀ x c,X.env.cells.lookup x=J c->H c=qx
 pin:∀ p∈X.pn++aB,s.heap.get? p.1=J p.2/\H p.1=qx/\p.1≠X.env.locals/\p.1 ∉ X.fs/\∀ v,p.2.data≠.cell v
 hok:dE X.prog X.w H s.heap
 len:σ.length=X.N.length
section
variable {X:Cx}{aB:List (qw×Obj)}{σ:List (Option V)}{H H':Hp}{s:qv}{h':Heap}
def Cx.Ok.nofr(ok:X.Ok)(e:X.base.get? b=J o):b ∉ X.fs:=λ hb=>by
 have:=(ok.funs.mem hb).1;rw[e] at this;cases this
def Inv.bs(I:Inv X aB σ H s):∀ b o,X.base.get? b=J o->s.heap.get? b=J o/\H b=qx:=λ b o e=>
 (I.base.keep b o (I.ok.bs b o e).1 (I.ok.bs b o e).2 (I.ok.nofr e) (I.ok.noex b o e),I.base.free b o (I.ok.bs b o e).1 (I.ok.bs b o e).2 (I.ok.noex b o e),)
def Inv.bk(I:Inv X aB σ H s):∀ b o,X.base.get? b=J o->s.heap.get? b=J o:=λ b o e=>(I.bs b o e).1
def Inv.mod(I:Inv X aB σ H s):Mod X.K X.mg X.base:=I.ok.mod
def Inv.kIn(I:Inv X aB σ H s):X.K.In s.heap:=I.ok.mod.kin.keeps I.bk
def Inv.lt(I:Inv X aB σ H s):X.env.locals<s.heap.objs.size:=let ⟨_,hn,_⟩:=I.loc;hn.lt
def Inv.sz(I:Inv X aB σ H s):X.s₀.heap.objs.size<=s.heap.objs.size:=xAh I.ok.above (yCv I.lt)
def Inv.nofs(I:Inv X aB σ H s)(h:s.heap.objs.size<=a):a ∉ X.fs:=λ hb=>by
 let(_,o,ho,_):=I.ok.funs.mem hb;exact absurd (xAb (xAa ho) (xAh I.sz h)) (yCs _)
def Inv.cne(I:Inv X aB σ H s):∀ x c,X.env.cells.lookup x=J c->c≠X.env.locals:=λ x c e z=>by
 let(v,o,ho,hd):=I.cell x c e;let(m,(o',es,ep,ho',hd',_),_):=I.loc;rw[z,ho'] at ho;simp_all
def Inv.funs(I:Inv X aB σ H s):s.heap.FunFrames X.base X.outer:=by
 let all:∀ (l:G Env),(∀ b∈jQ l,b∈X.fs)->X.s₀.heap.FunFrames X.base l->s.heap.FunFrames X.base l:=by
  intro l
  induction l with
  |nil=>intro _ _;trivial
  |cons env r ih=>
    intro hs hl;let(hk,(L,o,hf,hn,ho,hd),hr):=hl;let hL:L∈X.fs:=hs L (by unfold jQ;rw[yCp,hf];exact xAc);let(sl,e):=I.base.slot L o ho (I.ok.frf L hL) hL λ z=>I.ok.exfs L z hL
    exact(hk,(L,_,hf,hn,e,hd,),ih (λ b hb=>hs b (by unfold jQ;rw[yCp,hf];exact xAf _ hb)) hr,)
 exact all X.outer (λ _ hb=>hb) I.ok.funs
def Inv.stack(I:Inv X aB σ H s):s.heap.FunFrames X.base X.stack:=by
 rcases I.ok.stk with e|⟨e,hf⟩
 .rw[e];exact I.funs
 .rw[e];let(m,hn,_):=I.loc;refine .cons (by rw[I.ok.kind];decide) hf hn ?_ I.funs;exact Heap.get?_none_of_le (xAh I.ok.bsz I.ok.above)
def Inv.stkSub(I:Inv X aB σ H s):∀ b∈jQ X.stack,b∈X.env.locals::X.fs:=λ b hb=>by
 rcases I.ok.stk with e|⟨e,hf⟩
 .rw[e] at hb;simp_all
 .rw[e] at hb;unfold jQ at hb;rw[yCp,hf] at hb;exact hb
def Inv.stkFree(I:Inv X aB σ H s):∀ b∈jQ X.stack,H b=qx:=λ b hb=>by
 rcases List.mem_cons.mp (I.stkSub b hb) with e|hb
 .rw[e];exact I.free
 .let(_,o,ho,_):=I.ok.funs.mem hb;exact I.base.free b o ho (I.ok.frf b hb) λ z=>I.ok.exfs b z hb
def Inv.step{g':Array GenState}{t':Nat}{d':Drawn}{ch:List qw}(I:Inv X aB σ H s)
 (hch:∀ b∈ch,(b∈X.ex\/X.s₀.heap.objs.size<=b)/\b≠X.env.locals/\(∀ x c,X.env.cells.lookup x=J c->c≠b)/\∀ p∈X.pn++aB,p.1≠b)
 (keep:∀ b o,b≠X.env.locals->b ∉ X.fs->b ∉ ch->s.heap.get? b=J o->H b=qx->h'.get? b=J o)
 (slot:∀ b o,b≠X.env.locals->b∈X.fs->b ∉ ch->s.heap.get? b=J o->H b=qx->∃ sl,h'.get? b=J {o with slots:=sl }) (free:∀ b o,b ∉ ch->s.heap.get? b=J o->H b=qx->H' b=qx)
 (there:∀ b o,b ∉ ch->s.heap.get? b=J o->∃ o',h'.get? b=J o')
 (tups:∀ b xs,H b=J (.tup xs)->H' b=J (.tup xs)) (frzs:∀ b o u,H b=J (.frz o u)->H' b=J (.frz o u)) (tbls:∀ b ps,H b=J (.tbl ps)->∃ more,H' b=J (.tbl (ps++more)))
 (ns:∀ m,s.heap.Ns X.env.locals m->h'.Ns X.env.locals m) (hok:dE X.prog X.w H' h') (hg:AllBare g') :
 Inv X aB σ H' {s with heap:=h',gens:=g',drawn:=d',toks:=t' }:=by
 let neL:∀ b o,X.s₀.heap.get? b=J o->b≠X.env.locals:=λ b o e=>xAj (xAb (xAa e) I.ok.above)
 let neC:∀ b o,X.s₀.heap.get? b=J o->b ∉ X.ex->b ∉ ch:=λ b o e hx hb=>by
  rcases (hch b hb).1 with z|z
  .exact hx z
  .exact absurd (xAb (xAa e) z) (yCs _)
 let cellK:∀ x c,X.env.cells.lookup x=J c->∀ v,s.heap.IsCell c v->h'.IsCell c v:=λ x c e v bB=>by
  let(o,ho,hd):=bB;let nch:c ∉ ch:=λ z=>(hch c z).2.2.1 x c e U
  by_cases hc:c∈X.fs
  .let(sl,q):=slot c o (I.cne x c e) hc nch ho (I.freeC x c e);exact(_,q,hd,)
  .exact(o,keep c o (I.cne x c e) hc nch ho (I.freeC x c e),hd,)
 refine(I.ok,I.os,hg,(λ b o e n hb hx=>?_,λ b o e n hb hx=>?_,λ b o e n hx=>?_,λ b o e hx=>?_,λ b xs e=>tups b xs (I.base.tups b xs e),λ b o xs e=>frzs b o xs (I.base.frzs b o xs e),λ b ps e=>?_,),?_,λ x c e=>?_,?_,λ x c e=>?_,λ p hp=>?_,hok,I.len,)
 .exact keep b o (neL b o e) hb (neC b o e hx) (I.base.keep b o e n hb hx) (I.base.free b o e n hx)
 .let(sl,e1):=I.base.slot b o e n hb hx;let(sl',e2):=slot b _ (neL b o e) hb (neC b o e hx) e1 (I.base.free b o e n hx);exact(sl',e2,)
 .let(o',e1):=I.base.there b o e hx;exact free b o' (neC b o e hx) e1 (I.base.free b o e n hx)
 .let(o',e1):=I.base.there b o e hx;exact there b o' (neC b o e hx) e1
 .let(m1,e1):=I.base.tbls b ps e
  grind
 .let(m,hn,hl):=I.loc;refine(m,ns m hn,λ i x v e1 e2 e3=>?_,);let(u,r,l):=hl i x v e1 e2 e3;refine(u,r,?_,);rcases l with l|⟨k,c,e,z⟩
  .exact .inl l
  .exact .inr (k,c,e,cellK x c e _ z,)
 .let(v,z):=I.cell x c e;exact(v,cellK x c e v z,)
 .let(m,(o,_,_,ho,_),_):=I.loc;exact free _ o (λ z=>(hch _ z).2.1 U) ho I.free
 .let(v,o,ho,hd):=I.cell x c e;exact free c o (λ z=>(hch c z).2.2.1 x c e U) ho (I.freeC x c e)
 .let(e,n,ne,nf,d):=I.pin p hp;let nch:p.1 ∉ ch:=λ z=>(hch p.1 z).2.2.2 p hp U
  exact(keep p.1 p.2 ne nf nch e n,free p.1 p.2 nch e n,ne,nf,d,)
def Inv.un(I:Inv X aB σ H s)(u:Un X.fs [] H H' s.heap h')(hok:dE X.prog X.w H' h'):Inv X aB σ H' {s with heap:=h',toks:=t' }:=by
 let(m,(o,es,ep,ho,r),_):=id I.loc;let(sl,hL):=u.any ho I.free (by simp)
 exact I.step (g':=s.gens) (d':=s.drawn) (ch:=[]) (λ _ z=>nomatch z) (λ b o _ hb _ e n=>u.keep b o e n hb (by simp)) (λ b o _ hb _ e n=>u.slot b o e n hb (by simp)) (λ b o _ e n=>u.free b o e n (by simp)) (λ b o _ e=>u.there b o e (by simp)) u.tups u.frzs u.tbls (λ m' hm=>by
  let(o',es',ep',ho',r'):=hm;rw[ho] at ho';cases ho';exact(_,es',ep',hL,r',)) hok I.bare
def Inv.call(I:Inv X aB σ H s)(u:Un (jQ X.stack) ch H H' s.heap h')(hok:dE X.prog X.w H' h')(hg:AllBare g')(hch:∀ b∈ch,(b∈X.ex\/X.s₀.heap.objs.size<=b)/\b≠X.env.locals/\(∀ x c,X.env.cells.lookup x=J c->c≠b)/\∀ p∈X.pn++aB,p.1≠b) :
 Inv X aB σ H' {s with heap:=h',gens:=g',drawn:=d',toks:=t' }:=by
 let(m,(o,es,ep,ho,r),_):=id I.loc;let(sl,hL):=u.any ho I.free λ z=>(hch _ z).2.1 U
 exact I.step (ch:=ch) hch (λ b o hL hb hc e n=>u.keep b o e n (λ z=>(List.mem_cons.mp (I.stkSub b z)).elim hL hb) hc) (λ b o _ _ hc e n=>u.any e n hc) (λ b o hc e n=>u.free b o e n hc) (λ b o hc e=>u.there b o e hc) u.tups u.frzs u.tbls (λ m' hm=>by
  let(o',es',ep',ho',r'):=hm;rw[ho] at ho';cases ho';exact(_,es',ep',hL,r',)) hok hg
def Inv.turned(I:Inv X aB σ H s)(k:∀ b o,b≠it->s.heap.get? b=J o->h'.get? b=J o)(hn:H it=qx)(hL:it≠X.env.locals)(h1:it∈X.ex\/X.s₀.heap.objs.size<=it)(h2:∀ x c,X.env.cells.lookup x=J c->c≠it)(h3:∀ p∈X.pn++aB,p.1≠it):Inv X aB σ H {s with heap:=h',toks:=t' }:=by
 let nit:∀ b u,H b=J u->b≠it:=λ b u e z=>by rw[z,hn] at e;cases e
 refine I.step (g':=s.gens) (d':=s.drawn) (ch:=[it]) (λ b hb=>?_) (λ b o _ _ hc e _=>k b o (λ z=>hc (by simp[z])) e) (λ b o _ _ hc e _=>(o.slots,k b o (λ z=>hc (by simp[z])) e,)) (λ _ _ _ _ n=>n)
  (λ b o hc e=>(o,k b o (λ z=>hc (by simp[z])) e,)) (λ _ _ e=>e) (λ _ _ _ e=>e) (λ b ps e=>(#[],by rw[e];simp,)) (λ m hm=>?_) (λ b u e=>?_) I.bare
 .have e:b=it:=(hb:)
  subst e;exact(h1,hL,h2,h3,)
 .let(o,es,ep,ho,r):=hm;exact(o,es,ep,k _ o (Ne.symm hL) ho,r,)
 .refine(I.hok b u e).stay (λ c v hc q=>k c v ?_ q) (λ _ q=>q) λ _ _ q=>q
  rcases hc with z|z
  .rw[z];exact nit b u e
  .exact nit c _ z
def Inv.tok(I:Inv X aB σ H s)(t:Nat):Inv X aB σ H {s with toks:=t }:=I.un (h':=s.heap) (t':=t) Un.refl I.hok
def Inv.kept(I:Inv X aB σ H s)(k:∀ b u,s.heap.get? b=J u->h'.get? b=J u):Inv X aB σ H {s with heap:=h',toks:=t' }:=I.un (Un.kept k) (I.hok.kept k)
def Inv.laid(I:Inv X aB σ H s)(k:∀ b u,s.heap.get? b=J u->h'.get? b=J u)(hp:s.heap.objs.size<=a)(new:fF X.prog X.w (bJ H a o) h' a o) :
 Inv X aB σ (bJ H a o) {s with heap:=h',toks:=t' }:=I.un (Un.laid k hp (I.hok.fresh hp)) (I.hok.laid k hp new)
def Inv.write(I:Inv X aB σ H s)(mu:Mut (H x))(he:e=x\/H e=J (.own x))(k:∀ b u,b≠e->s.heap.get? b=J u->h'.get? b=J u)(heo:∃ u,h'.get? e=J u)(new:fF X.prog X.w (bJ H x o) h' x o):Inv X aB σ (bJ H x o) {s with heap:=h',toks:=t' }:=I.un (Un.write mu he k heo) (I.hok.write mu he k heo new)
def Inv.pins_of(I:Inv X aB σ H s)(h:∀ p∈pins',s.heap.get? p.1=J p.2/\H p.1=qx/\p.1≠X.env.locals/\p.1 ∉ X.fs/\∀ v,p.2.data≠.cell v):Inv X pins' σ H s:=
 (I.ok,I.os,I.bare,I.base,I.loc,I.cell,I.free,I.freeC,λ p hp=>(List.mem_append.mp hp).elim (λ z=>I.pin p (List.mem_append_left _ z)) (h p),I.hok,I.len,)
def aJi{N:G Str}(hN:N.Nodup){i j:Nat}{x:Str}(a:N[i]?=J x)(b:N[j]?=J x):i=j:=by let(h1,e1):=gIm a;let(h2,e2):=gIm b;exact(List.getElem_inj hN).mp (e1.trans e2.symm)
def aRv{E:qj->qv->Prop}{Q:Unit->qv->Prop}(I:Inv X aB σ H s)(hN:X.N.Nodup)(hi:X.N[i]?=J x)(hx:Loc X.env.scope x)(r:bG v u)(h:∀ s',Inv X aB (σ.set i (J v)) H s'->(∃ a,yCl a s.heap s'.heap/\(a=X.env.locals\/X.env.cells.lookup x=J a))->Q () s')(hf:X.fn x=Z\/X.env.scope.names.lookup x=J .local:=by first|exact .inl U|exact .inr U|assumption):qu M A (storeName X.env x u) Q E s:=by
 let(m,hn,hl):=id I.loc;let hcls:(X.env.scope.kind==.class||(X.env.scope.kind==.module&&X.env.locals != X.env.globals))=Ff:=by rw[I.ok.kind];rfl
 let hiσ:i<σ.length:=by rw[I.len];exact(gIm hi).1
 let cne:=I.cne;let tracked:∀ {a:qw}{h':Heap},(∃ o,s.heap.get? a=J o/\H a=qx)->yCl a s.heap h'->dE X.prog X.w H h':=λ {a h'} ha hs b ob e=>by
  let(_,_,hfree):=ha;refine(I.hok b ob e).stay (λ c w' hc q=>(hs.2 c ?_).trans q) (λ _ q=>q) λ _ _ q=>q
  grind
 rcases hx with hk|hk
 .refine wpAny_storeName_local hk hn (λ h' hn' hs=>?_) hcls;let(oL,_,_,hoL,_):=id hn;refine h _ (I.ok,I.os,I.bare,(λ b o e n hb hx=>?_,λ b o e n hb hx=>?_,I.base.free,λ b o e hx=>?_,I.base.tups,I.base.frzs,I.base.tbls,),(_,hn',λ j y v' e1 e2 e3=>?_,),λ y c e=>?_,I.free,I.freeC,λ p hp=>?_,tracked (oL,hoL,I.free,) hs,by simpa using I.len,) (_,hs,.inl U,)
  .exact(hs.2 b (xAj (xAb (xAa e) I.ok.above))).trans (I.base.keep b o e n hb hx)
  .let(sl,e1):=I.base.slot b o e n hb hx;exact(sl,(hs.2 b (xAj (xAb (xAa e) I.ok.above))).trans e1,)
  .let(o',e1):=I.base.there b o e hx;exact(o',(hs.2 b (xAj (xAb (xAa e) I.ok.above))).trans e1,)
  .by_cases hj:j=i
   .subst hj;rw[hi] at e1;cases e1;rw[yAx hiσ] at e2;cases e2;exact(u,r,.inl (hk,by simp,),)
   .rw[yAy (Ne.symm hj)] at e2;let(u',r',q):=hl j y v' e1 e2 e3;refine(u',r',?_,);rcases q with ⟨k,e⟩|⟨k,c,e,z⟩
    .refine .inl (k,?_,);have:y≠x:=λ e=>hj (aJi hN e1 (e▸hi))
     simp[this,e]
    .exact .inr (k,c,e,z.sameBut hs (cne y c e),)
  .let(w',z):=I.cell y c e;exact(w',z.sameBut hs (cne y c e),)
  .let(e,n,ne,nf,d):=I.pin p hp;exact((hs.2 p.1 ne).trans e,n,ne,nf,d,)
 .have hfn:X.fn x=Z:=by
   simp_all
  let(c,hc):=I.ok.has x (.inl hk);let(w',z):=I.cell x c hc;refine wpAny_storeName_cell I.ok.kind hk hc z (λ h' hc' hs=>?_);let(oc,hoc,hocd):=id z;refine h {s with heap:=h' } (I.ok,I.os,I.bare,(λ b o e n hb hx=>?_,λ b o e n hb hx=>?_,I.base.free,λ b o e hx=>?_,I.base.tups,I.base.frzs,I.base.tbls,),(m,hn.sameBut hs (Ne.symm (cne x c hc)),λ j y v' e1 e2 e3=>?_,),λ y c' e=>?_,I.free,I.freeC,λ p hp=>?_,tracked (oc,hoc,I.freeC x c hc,) hs,by simpa using I.len,) (c,hs,.inr hc,)
  .exact(hs.2 b (xAj (xAb (xAa e) (I.ok.cab x c hfn hc)))).trans (I.base.keep b o e n hb hx)
  .let(sl,e1):=I.base.slot b o e n hb hx;exact(sl,(hs.2 b (xAj (xAb (xAa e) (I.ok.cab x c hfn hc)))).trans e1,)
  .let(o',e1):=I.base.there b o e hx;exact(o',(hs.2 b (xAj (xAb (xAa e) (I.ok.cab x c hfn hc)))).trans e1,)
  .by_cases hj:j=i
   .subst hj;rw[hi] at e1;cases e1;rw[yAx hiσ] at e2;cases e2;exact(u,r,.inr (.inl hk,c,hc,hc',),)
   .rw[yAy (Ne.symm hj)] at e2;let(u',r',q):=hl j y v' e1 e2 e3;refine(u',r',?_,);rcases q with q|⟨k,c',e,z'⟩
    .exact .inl q
    .refine .inr (k,c',e,z'.sameBut hs ?_,);rintro rfl;exact hj (aJi hN e1 (I.ok.inj _ _ _ e hc▸hi))
  .by_cases hcc:c'=c
   .grind
   .let(w2,z2):=I.cell y c' e;exact(w2,z2.sameBut hs hcc,)
  .let(e,n,ne,nf,d):=I.pin p hp;refine((hs.2 p.1 ?_).trans e,n,ne,nf,d,)
   grind
def aI2{E:qj->qv->Prop}{Q:Unit->qv->Prop}(I:Inv X aB σ H s)(hN:X.N.Nodup)(hi:X.N[i]?=J x)(hx:Loc X.env.scope x)(r:bG v u)(h:∀ s',Inv X aB (σ.set i (J v)) H s'->Q () s')(hf:X.fn x=Z\/X.env.scope.names.lookup x=J .local:=by first|exact .inl U|exact .inr U|assumption):qu M A (storeName X.env x u) Q E s:=
 aRv I hN hi hx r (λ s' I' _=>h s' I') hf
def Inv.call'{s':qv}(I:Inv X aB σ H s)(ho:s'.os=s.os)(u:Un (jQ X.stack) ch H H' s.heap s'.heap)(hok:dE X.prog X.w H' s'.heap)(hg:AllBare s'.gens)(hch:∀ b∈ch,(b∈X.ex\/X.s₀.heap.objs.size<=b)/\b≠X.env.locals/\(∀ x c,X.env.cells.lookup x=J c->c≠b)/\∀ p∈X.pn++aB,p.1≠b):Inv X aB σ H' s':=by let(h',g',d',t',o'):=s';let e:o'=s.os:=ho;subst e;exact I.call (g':=g') (t':=t') (d':=d') u hok hg hch
end
abbrev XK:=qj->Option qw->Hp->Prop
abbrev St:=List (Option V)
abbrev VK:=V->Hp->Prop
abbrev TE:=St->Hp->VK->Prop
abbrev TT:=St->Hp->(Bool->Hp->Prop)->Prop
abbrev TA:=St->Hp->(List V->Hp->Prop)->Prop
structure Ends where
 nx:St->Hp->Prop
 rt:VK
 bk:St->Hp->Prop:=λ _ _=>False
 ct:St->Hp->Prop:=λ _ _=>False
abbrev TS:=Ends->St->Hp->Prop
def EP(X:Cx)(aB:G (qw×Obj))(σ:St)(Q:VK)(u:qj)(s':qv):Prop:=∃ v H',Inv X aB σ H' s'/\bG v u/\Q v H'
def TP(X:Cx)(aB:G (qw×Obj))(σ:St)(Q:Bool->Hp->Prop)(b:Bool)(s':qv):Prop:=∃ H',Inv X aB σ H' s'/\Q b H'
def AP(X:Cx)(aB:G (qw×Obj))(σ:St)(Q:G V->Hp->Prop)(us:List qj)(s':qv):Prop:=∃ vs H',Inv X aB σ H' s'/\bI vs us/\Q vs H'
def SP(X:Cx)(aB:G (qw×Obj))(D:Ends)(f:Flow)(s':qv):Prop:=
 match f with
 |.next=>∃ σ' H',Inv X aB σ' H' s'/\D.nx σ' H'|.brk=>∃ σ' H',Inv X aB σ' H' s'/\D.bk σ' H'|.cont=>∃ σ' H',Inv X aB σ' H' s'/\D.ct σ' H'|.ret u=>∃ v σ' H',Inv X aB σ' H' s'/\bG v u/\D.rt v H'
def PE(X:Cx)(e:qy)(t:TE):Prop:=
 ∀ (aB:G (qw×Obj)) (s:qv) (σ:St) (H:Hp) (Q:VK),Inv X aB σ H s->t σ H Q->qu (model X.prog X.w) X.A (eval e X.env) (EP X aB σ Q) X.xe s
def PT(X:Cx)(e:qy)(t:TT):Prop:=
 ∀ (aB:G (qw×Obj)) (s:qv) (σ:St) (H:Hp) (Q:Bool->Hp->Prop),Inv X aB σ H s->t σ H Q->qu (model X.prog X.w) X.A (isTrue e X.env (eval e X.env)) (TP X aB σ Q) X.xe s
def PW(X:Cx)(e:qy)(t:TT):Prop:=
 ∀ (lE:Sem qj) (aB:G (qw×Obj)) (s:qv) (σ:St) (H:Hp) (Q:Bool->Hp->Prop),Inv X aB σ H s->t σ H Q->qu (model X.prog X.w) X.A (isTrue e X.env lE) (TP X aB σ Q) X.xe s
def PW.pt{t:TT}(h:PW X e t):PT X e t:=h _
def PA(X:Cx)(es:List qy)(t:TA):Prop:=
 ∀ (pos:Pos) (aB:G (qw×Obj)) (s:qv) (σ:St) (H:Hp) (Q:G V->Hp->Prop),Inv X aB σ H s->t σ H Q->qu (model X.prog X.w) X.A (spliced (backTo pos (qo es X.env))) (AP X aB σ Q) X.xe s
def PS(X:Cx)(st:xk)(t:TS):Prop:=
 ∀ (aB:G (qw×Obj)) (s:qv) (σ:St) (H:Hp) (D:Ends),Inv X aB σ H s->t D σ H->qu (model X.prog X.w) X.A (exec st X.env) (SP X aB D) X.xe s
def eG(X:Cx)(st:List xk)(t:TS):Prop:=
 ∀ (aB:G (qw×Obj)) (s:qv) (σ:St) (H:Hp) (D:Ends),Inv X aB σ H s->t D σ H->qu (model X.prog X.w) X.A (execs st X.env) (SP X aB D) X.xe s
def bK{α:Type}{t:Sem α}{Q Q':α->qv->Prop}{E:qj->qv->Prop}(h:qu M A t Q E s)(hQ:∀ a s,Q a s->Q' a s):qu M A t Q' E s:=wpAny_mono h hQ λ _ _ x=>x
end L2
namespace L2
open PySem PySem.Spec PyProof.Rows
def bin{ta tb:TE}(ha:PE X a ta)(hb:PE X b tb){R:V->V->Hp->Prop}(I:Inv X aB σ H s)(h:ta σ H λ x H1=>tb σ H1 λ y H2=>R x y H2){α:Type}{Q:α->qv->Prop}{f:qj->qj->Sem α}(hf:∀ v u s2 x y H2,Inv X aB σ H2 s2->bG x v->bG y u->R x y H2->qu (model X.prog X.w) X.A (f v u) Q X.xe s2) :
 qu (model X.prog X.w) X.A (eval a X.env) (λ v s₁=>qu (model X.prog X.w) X.A (eval b X.env) (λ u s₂=>qu (model X.prog X.w) X.A (f v u) Q X.xe s₂) X.xe s₁) X.xe s:=by
 refine bK (ha aB s σ H _ I h) λ v s1 hPq0=>?_
 let(x,H1,I1,r1,q1):=hPq0;refine bK (hb aB s1 σ H1 _ I1 q1) λ u s2 hPq1=>?_
 let(y,H2,I2,r2,q2):=hPq1;exact hf v u s2 x y H2 I2 r1 r2 q2
def zZ(i:Nat):TE:=λ σ H Q=>∃ v,σ[i]?=J (J v)/\Q v H
def tC(v:V):TE:=λ _ H Q=>Q v H
def aLL{X:Cx}{i:Nat}{x:Str}{pos:Pos}(hN:X.N[i]?=J x)(hv:Vis X.env.scope x)(hd:(x==("__debug__" : Str))=Ff:=by decide)(hcd:(x==("__classdict__" : Str))=Ff:=by decide):PE X (.Name x pos) (zZ i):=by
 intro aB s σ H Q I h;let(v,e,h):=h;let(m,hn,hl):=I.loc;let(u,r,l):=hl i x v hN e hv;let dA:EP X aB σ Q u s:=(v,H,I,r,h,);rcases l with ⟨hk,hm⟩|⟨hk,c,hc,hcell⟩
 .exact wpAny_Name (wpAny_loadName_local I.ok.kind hk hn hm dA) hd
 .rcases hk with hk|hk
  .exact wpAny_Name (wpAny_loadName_cell I.ok.kind hk hc hcell dA) hd
  .exact wpAny_Name (wpAny_loadName_free I.ok.kind hk hc hcell dA hcd) hd
def aXR{i j pos}:PE X (.Constant (.int i) j pos) (tC (.int i)):=λ _ _ _ H _ I h=>wpAny_Constant_int (.int i,H,I.tok _,(_,U,),h,)
def aZo{b j pos}:PE X (.Constant (.bool b) j pos) (tC (.bl b)):=λ _ _ _ H _ I h=>Constant_bool (.bl b,H,I,U,h,)
def aYy{j pos}:PE X (.Constant .none j pos) (tC .non):=λ _ _ _ H _ I h=>Constant_none (.non,H,I,U,h,)
def aVI{x j pos}:PE X (.Constant (.str x) j pos) (tC (.str x)):=λ _ _ _ H _ I h=>Calls.Constant_str (.str x,H,I.tok _,(_,U,),h,)
def Gl(X:Cx)(x:Str):Prop:=X.env.kindOf x=J .globalImplicit
def aBM{E:qj->qv->Prop}{Q:qj->qv->Prop}(I:Inv X aB σ H s)(hg:Gl X x)(hm:X.mg x=J u)(h:Q u s)(hd:(x==("__debug__" : Str))=Ff:=by decide):qu (model X.prog X.w) X.A (eval (.Name x pos) X.env) Q E s:=
 Calls.Name_function_global I.ok.kind hg (Calls.loadGlobal_global (by rw[I.ok.glob];exact I.mod.glob.keeps I.bk) hm h) hd
def oE{X:Cx}{E:qj->qv->Prop}{aB:G (qw×Obj)}{s:qv}{σ:St}{H:Hp}{x:Str}{u:qj}{pos:Pos}{Q:qj->qv->Prop}(I:Inv X aB σ H s)(hg:Gl X x)(hm:X.mg x=qx)(hv:vv x=J u)(h:Q u s)
 (hn:x ≠ "__name__":=by decide) (hd:(x==("__debug__" : Str))=Ff:=by decide):qu (model X.prog X.w) X.A (eval (.Name x pos) X.env) Q E s:=by let(mb,h1,h2):=I.mod.blt;exact Calls.Name_function_global I.ok.kind hg (Calls.loadGlobal_builtin (by rw[I.ok.glob];exact I.mod.glob.keeps I.bk) hm (by rw[I.ok.blt];exact h1.keeps I.bk) ((h2 x hn).trans hv) h) hd
def aJY(hg:Gl X x)(hm:X.mg x=J u)(r:bG v u)(hd:(x==("__debug__" : Str))=Ff:=by decide):PE X (.Name x pos) (tC v):=
 λ _ _ _ H _ I h=>aBM I hg hm (v,H,I,r,h,) hd
def PC(X:Cx)(op:jv)(a b:qy)(t:TE):Prop:=
 ∀ (aB:G (qw×Obj)) (s:qv) (σ:St) (H:Hp) (Q:VK),Inv X aB σ H s->t σ H Q ->
  qu (model X.prog X.w) X.A (eval a X.env) (λ v s₁=>qu (model X.prog X.w) X.A (eval b X.env) (λ u s₂=>qu (model X.prog X.w) X.A (xw op v u) (EP X aB σ Q) X.xe s₂) X.xe s₁) X.xe s
def aJl(b:qy)(h:op≠.In)(h2:op≠.NotIn):xz op b=Ff:=by
 let e1:(op==CmpOp.In)=Ff:=by cases op<;>first|rfl|exact absurd U h
 let e2:(op==CmpOp.NotIn)=Ff:=by cases op<;>first|rfl|simp_all
 cases b<;>simp[xz,e1,e2]
def tB(t:TE):TT:=λ σ H Q=>t σ H λ x H1=>∃ c,x=.bl c/\Q c H1
def aVO{t:TE}(h:PC X op a b t)(h1:xz op b=Ff:=by first|exact aJl _ (·) (·)|rfl):PE X (.Compare a [op] [b] pos) t:=λ aB s σ H Q I hw=>wpAny_Compare1 (h aB s σ H Q I hw) h1
def aXh{t:TE}(h:PC X op a b t)(h1:xz op b=Ff:=by first|exact aJl _ (·) (·)|rfl):PT X (.Compare a [op] [b] pos) (tB t):=by intro aB s σ H Q I hw;refine wpAny_isTrue_Compare1 (bK (h aB s σ H _ I hw) λ v s1 h1=>bK h1 λ u s2 h2=>bK h2 λ c s3 hPq2=>?_) h1;let(x,H1,I1,r1,q1):=hPq2;let(d,U,q):=q1;cases r1;exact xu (H1,I1,q,)
def aN1(t u:TT):TT:=λ σ H Q=>t σ H λ c H1=>if c=Z then u σ H1 Q else Q Ff H1
def tOr(t u:TT):TT:=λ σ H Q=>t σ H λ c H1=>if c=Z then Q Z H1 else u σ H1 Q
def bA9(t:TT):TT:=λ σ H Q=>t σ H λ c H1=>Q (!c) H1
def aVc{tA:TT}(ha:PT X a tA):PW X (.BoolOp .And [a] pos) tA:=by
 intro wh aB s σ H Q I h;refine isTrue_and (bK (ha aB s σ H Q I h) λ c s1 e=>?_);cases c with
 |true=>exact isTrue_and_nil e|false=>exact e
def aX6{tA:TT}(ha:PT X a tA):PW X (.BoolOp .Or [a] pos) tA:=by
 intro wh aB s σ H Q I h;refine isTrue_or (bK (ha aB s σ H Q I h) λ c s1 e=>?_);cases c with
 |false=>exact isTrue_or_nil e|true=>exact e
def aLu{tA tB':TT}{cD:List qy}(ha:PT X a tA)(hb:PW X (.BoolOp .And (b::cD) pos) tB'):PW X (.BoolOp .And (a::b::cD) pos) (aN1 tA tB'):=by
 intro wh aB s σ H Q I h;refine isTrue_and (bK (ha aB s σ H _ I h) λ c s1 hPq3=>?_);let(H1,I1,q1):=hPq3;cases c with
 |true=>exact hb wh aB s1 σ H1 Q I1 q1|false=>exact(H1,I1,q1,)
def aMA{tA tB':TT}{cD:List qy}(ha:PT X a tA)(hb:PW X (.BoolOp .Or (b::cD) pos) tB'):PW X (.BoolOp .Or (a::b::cD) pos) (tOr tA tB'):=by
 intro wh aB s σ H Q I h;refine isTrue_or (bK (ha aB s σ H _ I h) λ c s1 hPq4=>?_);let(H1,I1,q1):=hPq4;cases c with
 |true=>exact(H1,I1,q1,)|false=>exact hb wh aB s1 σ H1 Q I1 q1
def aXO{tA:TT}(ha:PT X a tA):PT X (.UnaryOp .Not a pos) (bA9 tA):=by intro aB s σ H Q I h;exact isTrue_not (ha aB s σ H (λ c H1=>Q (!c) H1) I h)
def aMQ(ta tb:TE):TE:=λ σ H Q=>ta σ H λ x H1=>∃ c,x=.bl c/\if c=Z then tb σ H1 Q else Q (.bl Ff) H1
def aOi(ta tb:TE):TE:=λ σ H Q=>ta σ H λ x H1=>∃ c,x=.bl c/\if c=Z then Q (.bl Z) H1 else tb σ H1 Q
def aZc(ta:TE):TE:=λ σ H Q=>ta σ H λ x H1=>∃ c,x=.bl c/\Q (.bl (!c)) H1
def aLt{op}{t:TE}(h:PE X a t):PE X (.BoolOp op [a] pos) t:=λ aB s σ H Q I hw=>BoolOp_one (h aB s σ H Q I hw)
def aLm{ta tb:TE}{cD:List qy}(ha:PE X a ta)(hb:PE X (.BoolOp .And (b::cD) pos) tb):PE X (.BoolOp .And (a::b::cD) pos) (aMQ ta tb):=by
 intro aB s σ H Q I h;refine BoolOp_and (bK (ha aB s σ H _ I h) λ v s1 hPq5=>?_);let(x,H1,I1,r1,q1):=hPq5;let(c,U,q1):=q1;cases r1;refine xu ?_;cases c with
 |true=>exact hb aB s1 σ H1 Q I1 q1|false=>exact(.bl Ff,H1,I1,U,q1,)
def aNv{ta tb:TE}{cD:List qy}(ha:PE X a ta)(hb:PE X (.BoolOp .Or (b::cD) pos) tb):PE X (.BoolOp .Or (a::b::cD) pos) (aOi ta tb):=by
 intro aB s σ H Q I h;refine BoolOp_or (bK (ha aB s σ H _ I h) λ v s1 hPq6=>?_);let(x,H1,I1,r1,q1):=hPq6;let(c,U,q1):=q1;cases r1;refine xu ?_;cases c with
 |false=>exact hb aB s1 σ H1 Q I1 q1|true=>exact(.bl Z,H1,I1,U,q1,)
def aXN{ta:TE}(ha:PE X a ta):PE X (.UnaryOp .Not a pos) (aZc ta):=by intro aB s σ H Q I h;refine UnaryOp_ (bK (ha aB s σ H _ I h) λ v s1 hPq7=>?_);let(x,H1,I1,r1,q1):=hPq7;let(c,U,q1):=q1;cases r1;exact not_of (xu (.bl (!c),H1,I1,U,q1,))
def tIf(t:TT)(ta tb:TE):TE:=λ σ H Q=>t σ H λ c H1=>if c=Z then ta σ H1 Q else tb σ H1 Q
def aSN{ta tb:TE}{tA:TT}(hc:PT X c tA)(ha:PE X a ta)(hb:PE X b tb):PE X (.IfExp c a b pos) (tIf tA ta tb):=by
 intro aB s σ H Q I h;refine wpAny_IfExp (bK (hc aB s σ H _ I h) λ d s1 hPq8=>?_);let(H1,I1,q1):=hPq8;cases d with
 |true=>exact ha aB s1 σ H1 Q I1 q1|false=>exact hb aB s1 σ H1 Q I1 q1
end L2
namespace L2
open PySem PySem.Spec PyProof.Rows
def cE(K:FrG)(H:Hp)(a:qw)(xs:G V):Prop:=
 Rd H a (.lst xs) \/
  ∃ (o:Obj) (aK:Array qj) (n:Nat),K.lookup a=J o/\o.cls=.type "list" /\ o.dict=qx/\o.data=.seq aK n/\aK.size<=qk/\bI xs aK.toList
def cK(K:FrG)(H:Hp)(a:qw)(xs:G V):Prop:=
 Rd H a (.tup xs) \/
  ∃ (o:Obj) (aK:Array qj) (n:Nat),K.lookup a=J o/\o.cls=.type "tuple" /\ o.data=.seq aK n/\aK.size<=qk/\bI xs aK.toList
def bA5:qj->Oz V
 |.none=>J .non|.bool b=>J (.bl b)|.int i _=>J (.int i)|.str x _=>J (.str x)|.bytes b _=>J (.byt b)|.float b _=>J (.flt b)|.ref a=>J (.ref a)|.type n=>J (.ty n)|_=>qx
def bG.abs(r:bG x u):bA5 u=J x:=by
 cases x with
 |non=>cases r;rfl|bl _=>cases r;rfl
 |int _=>let(t,U):=r;rfl
 |str _=>let(t,U):=r;rfl
 |byt _=>let(t,U):=r;rfl
 |flt _=>let(t,U):=r;rfl
 |ref _=>cases r;rfl|ty _=>cases r;rfl
def bG.inj(r:bG x u)(q:bG y u):x=y:=Option.some.inj (r.abs.symm.trans q.abs)
def bI.inj:∀ {xs ys:G V}{us:List qj},bI xs us->bI ys us->xs=ys
 |_,_,_,.nil,.nil=>rfl|_,_,_,.cons r t,.cons r' t'=>by rw[r.inj r',bI.inj t t']
variable {K:FrG}
section
variable {X:Cx}{aB:List (qw×Obj)}{σ:St}{H:Hp}{s:qv}{a:qw}{xs ys:List V}
def cE.of(h:H a=J (.lst xs)):cE K H a xs:=.inl (.inl h)
def cK.of(h:H a=J (.tup xs)):cK K H a xs:=.inl (.inl h)
def Inv.list(I:Inv X aB σ H s)(h:cE X.K H a xs):∃ aK:List qj,bI xs aK/\PlainL s.heap a aK.toArray/\↑xs<=qk:=by
 rcases h with h|⟨o,aK,n,hk,hc,hd,hs,hz,r⟩
 .let(z,aK,n,r,e):=h.ok I.hok;exact(aK,r,(_,n,e,U,U,U,),z,)
 .refine(aK.toList,r,(o,n,I.kIn a o hk,hc,hd,by simpa using hs,),?_,);let e:=r.length;simp_all
def Inv.tuple(I:Inv X aB σ H s)(h:cK X.K H a xs):∃ aK:List qj,bI xs aK/\IsTup s.heap a aK.toArray/\↑xs<=qk:=by
 rcases h with h|⟨o,aK,n,hk,hc,hs,hz,r⟩
 .let(z,aK,r,p):=h.ok I.hok;exact(aK,r,p,z,)
 .refine(aK.toList,r,(o,I.kIn a o hk,hc,n,by simpa using hs,),?_,);let e:=r.length;simp_all
def Inv.list_inj(I:Inv X aB σ H s)(h:cE X.K H a xs)(h':cE X.K H a ys):xs=ys:=by
 let(aK,r,(o,n,e,_,_,d),_):=I.list h;let(its',r',(o',n',e',_,_,d'),_):=I.list h';rw[e] at e';cases e';rw[d] at d';injection d' with d1 _
 have:aK=its':=by simp_all
 subst this;exact r.inj r'
def Inv.tuple_inj(I:Inv X aB σ H s)(h:cK X.K H a xs)(h':cK X.K H a ys):xs=ys:=by
 let(aK,r,(o,e,_,n,d),_):=I.tuple h;let(its',r',(o',e',_,n',d'),_):=I.tuple h';rw[e] at e';cases e';rw[d] at d';injection d' with d1 _
 have:aK=its':=by simp_all
 subst this;exact r.inj r'
end
noncomputable abbrev Cx.wish(X:Cx)(E:qj->qv->Prop):Cx:={X with xe:=E }
noncomputable abbrev Cx.nox(X:Cx):Cx:=X.wish λ _ _=>False
variable {X:Cx}
def Cx.Ok.wish(ok:X.Ok)(E:qj->qv->Prop):(X.wish E).Ok:=
 (ok.mod,ok.kind,ok.glob,ok.blt,ok.above,ok.inj,ok.has,ok.cab,ok.hd,ok.frames,ok.stk,ok.exf,ok.bs,ok.bsz,ok.noex,ok.exfs,ok.funs,ok.frf,)
def Cx.Ok.unwish{E:qj->qv->Prop}(ok:(X.wish E).Ok):X.Ok:=
 (ok.mod,ok.kind,ok.glob,ok.blt,ok.above,ok.inj,ok.has,ok.cab,ok.hd,ok.frames,ok.stk,ok.exf,ok.bs,ok.bsz,ok.noex,ok.exfs,ok.funs,ok.frf,)
section
variable {X:Cx}{aB:List (qw×Obj)}{σ:St}{H:Hp}{s:qv}{E:qj->qv->Prop}
def Inv.wish(I:Inv X aB σ H s)(E:qj->qv->Prop):Inv (X.wish E) aB σ H s:=(I.ok.wish E,I.os,I.bare,I.base,I.loc,I.cell,I.free,I.freeC,I.pin,I.hok,I.len,)
def Inv.unwish(I:Inv (X.wish E) aB σ H s):Inv X aB σ H s:=(I.ok.unwish,I.os,I.bare,I.base,I.loc,I.cell,I.free,I.freeC,I.pin,I.hok,I.len,)
def SP.unwish{D:Ends}(h:SP (X.wish E) aB D f s'):SP X aB D f s':=by
 cases f with
 |next=>let(σ',H',I,q):=h;exact(σ',H',I.unwish,q,)
 |brk=>let(σ',H',I,q):=h;exact(σ',H',I.unwish,q,)
 |cont=>let(σ',H',I,q):=h;exact(σ',H',I.unwish,q,)
 |ret u=>let(v,σ',H',I,r,q):=h;exact(v,σ',H',I.unwish,r,q,)
def eG.nox{st:List xk}{t:TS}(h:eG X.nox st t):eG X st t:=λ aB s σ H D I hw=>
 wpAny_mono (h aB s σ H D (I.wish _) hw) (λ _ _ q=>q.unwish) λ _ _ z=>False.elim z
end
def aNy:TS:=λ D σ H=>D.nx σ H
def aOd(t u:TS):TS:=λ D σ H=>t {D with nx:=u D } σ H
def aKO:eG X [] aNy:=λ _ _ σ H _ I h=>wpAny_execs_nil (σ,H,I,h,)
def aJv{st:xk}{cD:List xk}{t u:TS}(h1:PS X st t)(h2:eG X cD u):eG X (st::cD) (aOd t u):=by
 intro aB s σ H D I h;refine wpAny_execs_cons (bK (h1 aB s σ H {D with nx:=u D } I h) λ f s1 q=>?_);cases f with
 |next=>
   let(σ',H',I',q):=q;exact h2 aB s1 σ' H' D I' q
 |ret v=>exact q|brk=>exact q|cont=>exact q
def Inv.quiet(I:Inv X aB σ H s):interactive X.env=Ff:=by simp[interactive,I.ok.kind]
def aYU(te:TE):TS:=λ D σ H=>te σ H λ _ H1=>D.nx σ H1
def aUE{te:TE}{pos:Pos}(he:PE X e te)(hs:swapsWith e qx pos.line X.env=pure Ff:=by rfl):PS X (.Expr e pos) (aYU te):=by intro aB s σ H D I h;exact wpAny_Expr_any (bK (he aB s σ H _ I h) λ v s1 ⟨x,H1,I1,r1,q1⟩=>(σ,H1,I1,q1,)) I.quiet hs
def bBu(te:TE):TS:=λ D σ H=>te σ H D.rt
def aVX{te:TE}(he:PE X e te):PS X (.Return (J e) pos) (bBu te):=by intro aB s σ H D I h;exact wpAny_Return_some (bK (he aB s σ H _ I h) λ v s1 ⟨x,H1,I1,r1,q1⟩=>(x,σ,H1,I1,r1,q1,))
def bBM(c:TT)(t u:TS):TS:=λ D σ H=>c σ H λ b H1=>if b=Z then t D σ H1 else u D σ H1
def aZF{tc:TT}(hc:PT X c tc)(ha:eG X a t)(hb:eG X b u):PS X (.If c a b pos) (bBM tc t u):=by
 intro aB s σ H D I h;refine wpAny_If (bK (hc aB s σ H _ I h) λ d s1 hPq9=>?_);let(H1,I1,q1):=hPq9;cases d with
 |true=>exact ha aB s1 σ H1 D I1 q1|false=>exact hb aB s1 σ H1 D I1 q1
abbrev TG:=V->St->Hp->(St->Hp->Prop)->Prop
abbrev kI:=List V->St->Hp->(St->Hp->Prop)->Prop
def PG(X:Cx)(target:qy)(t:TG):Prop:=
 ∀ (aB:G (qw×Obj)) (s:qv) (σ:St) (H:Hp) (v:V) (u:qj) (Q:St->Hp->Prop),Inv X aB σ H s->bG v u->t v σ H Q ->
  qu (model X.prog X.w) X.A (assign target X.env u) (λ _ s'=>∃ σ' H',Inv X aB σ' H' s'/\Q σ' H') X.xe s
def sP(X:Cx)(ts:List qy)(t:kI):Prop:=
 ∀ (aB:G (qw×Obj)) (s:qv) (σ:St) (H:Hp) (vs:G V) (us:List qj) (Q:St->Hp->Prop),Inv X aB σ H s->bI vs us->t vs σ H Q ->
  qu (model X.prog X.w) X.A (assignInOrder ((zo ts X.env).map (·.2)) us) (λ _ s'=>∃ σ' H',Inv X aB σ' H' s'/\Q σ' H') X.xe s
abbrev aFO:=V->V->V->Hp->(Hp->Prop)->Prop
def aNN(X:Cx)(t:aFO):Prop:=
 ∀ (aB:G (qw×Obj)) (s:qv) (σ:St) (H:Hp) (o i v:V) (ov iv u:qj) (Q:Hp->Prop),Inv X aB σ H s->bG o ov->bG i iv->bG v u->t o i v H Q ->
  qu (model X.prog X.w) X.A (setItem ov iv u) (λ _ s'=>∃ H',Inv X aB σ H' s'/\Q H') X.xe s
def pX(i:Nat):TG:=λ v σ H Q=>Q (σ.set i (J v)) H
def aD4(hN:X.N.Nodup)(hi:X.N[i]?=J x)(hx:Loc X.env.scope x)(hf:X.fn x=Z\/X.env.scope.names.lookup x=J .local:=by first|exact .inl U|exact .inr U|assumption):PG X (.Name x pos) (pX i):=by intro aB s σ H v u Q I r h;exact wpAny_assign_Name (aI2 I hN hi hx r (λ s' I'=>(_,H,I',h,)) hf)
def aFH:kI:=λ vs σ H Q=>vs=[]/\Q σ H
def aFD(t:TG)(u:kI):kI:=λ vs σ H Q=>∃ v r,vs=v::r/\t v σ H λ σ' H'=>u r σ' H' Q
def aVf:sP X [] aFH:=by intro aB s σ H vs us Q I r h;let(e,h):=h;subst e;cases r;exact assignInOrder_nil (σ,H,I,h,)
def aRR(h1:PG X e t)(h2:sP X es u)(hs:(zo (e::es) X.env).map (·.2)=assign e X.env::(zo es X.env).map (·.2):=by rfl):sP X (e::es) (aFD t u):=by
 intro aB s σ H vs us Q I r h;let(v,vr,e1,h):=h;subst e1;cases r with
 |cons r rr=>
   rw[hs];refine assignInOrder_cons (bK (h1 aB s σ H _ _ _ I r h) λ _ s1 hPq10=>?_);let(σ1,H1,I1,q1):=hPq10;exact h2 aB s1 σ1 H1 _ _ Q I1 rr q1
def bBV(K:FrG)(n:Nat)(t:kI):TG:=λ v σ H Q=>∃ a xs,v=.ref a/\cK K H a xs/\↑xs=n/\t xs σ H Q
def aVJ{pos:Pos}{es:List qy}{k:Nat}{t:kI}{n:Nat}(hc:X.calm=Z)(h:sP X es t)
 (hn:(zo es X.env).length=n:=by rfl) (hst:(zo es X.env).findIdx? (·.1)=qx:=by rfl):PG X (.Tuple es k pos) (bBV X.K n t):=by
 intro aB s σ H v u Q I r hw;let(a,xs,e1,hq,hl,hw):=hw;subst e1;cases r;let(aK,rv,ht,hz):=I.tuple hq;refine assign_Tuple_tuple (I.ok.hd hc) ht (by simp[hn,<- hl,rv.length]) hst λ h' hx=>?_
 let I1:Inv X aB σ H {s with heap:=h' }:=I.kept (t':=s.toks) λ b o e=>hx b o (xAj (xAa e)) e
 exact h aB _ σ H xs _ Q I1 (rv:) hw
def aND(to ti:TE)(t:aFO):TG:=λ v σ H Q=>to σ H λ o H1=>ti σ H1 λ i H2=>t o i v H2 λ H3=>Q σ H3
def aXt{to ti:TE}(ho:PE X o to)(hi:PE X i ti)(hs:aNN X t)(ha:∀ v,assign (.Subscript o i pos) X.env v=(do
   let ov <- holding [v] (eval o X.env);let iv <- holding [v,ov] (eval i X.env)
   standAt pos
   holding [v,ov,iv] (setItem ov iv v)
   release [v,ov,iv] []):=by intro _;rfl):PG X (.Subscript o i pos) (aND to ti t):=by intro aB s σ H v u Q I r h;rw[ha];refine wB (zk (bK (ho aB s σ H _ I h) λ ov s1 hPq11=>?_));let(x,H1,I1,r1,q1):=hPq11;refine wB (zk (bK (hi aB s1 σ H1 _ I1 q1) λ iv s2 hPq12=>?_));let(y,H2,I2,r2,q2):=hPq12;refine wB (yw (wB (zk (bK (hs aB s2 σ H2 x y v ov iv u _ I2 r1 r2 r q2) λ _ s3 hPq13=>?_))));let(H3,I3,q3):=hPq13;exact wpAny_release (σ,H3,I3,q3,)
def aAa(te:TE)(g:TG):TS:=λ D σ H=>te σ H λ x H1=>g x σ H1 D.nx
def aLV{pos:Pos}{te:TE}(he:PE X e te)(hg:PG X tg g)(hs:swapsWithSole [tg] e pos.line X.env=pure Ff:=by rfl)(hw:yv [tg] e X.env=pure qx:=by rfl)(h1:(zo [tg] X.env).map (·.2)=[assign tg X.env]:=by rfl):PS X (.Assign [tg] e pos) (aAa te g):=by intro aB s σ H D I h;refine wpAny_Assign_stores (bK (he aB s σ H _ I h) λ v s1 hPq14=>?_) hs hw;let(x,H1,I1,r1,q1):=hPq14;rw[h1];exact bK (hg aB s1 σ H1 x v _ I1 r1 q1) λ _ s2 q=>q
def aWD{pos:Pos}{te:TE}(hN:X.N.Nodup)(hi:X.N[i]?=J x)(hx:Loc X.env.scope x)(he:PE X e te)(hs:swapsWith e (J (.Name x pos')) pos.line X.env=pure Ff:=by rfl)(hf:X.fn x=Z\/X.env.scope.names.lookup x=J .local:=by first|exact .inl U|exact .inr U|assumption) :
 PS X (.Assign [.Name x pos'] e pos) (aAa te (pX i)):=by intro aB s σ H D I h;refine wpAny_Assign_Name (bK (he aB s σ H _ I h) λ v s1 hPq15=>?_) hs;let(y,H1,I1,r1,q1):=hPq15;exact aI2 I1 hN hi hx r1 (λ s2 I2=>(_,H1,I2,q1,)) hf
structure It where
 go:Nat->Hp->Prop
 yld:Nat->Hp->V->Hp->Prop
 stop:Nat->Hp->Prop
def hB(X:Cx)(aB:G (qw×Obj))(H:Hp)(b:qw):Prop:=
 H b=qx/\b≠X.env.locals/\b ∉ X.fs/\(b∈X.ex\/X.s₀.heap.objs.size<=b)/\(∀ x c,X.env.cells.lookup x=J c->c≠b)/\∀ p∈X.pn++aB,p.1≠b
def Inv.fpOk(I:Inv X aB σ H s)(hb:s.heap.objs.size<=b)(hn:H' b=qx):hB X aB H' b:=by
 refine(hn,yEx (xAb I.lt hb),I.nofs hb,.inr (xAh I.sz hb),λ x c e z=>?_,λ p hp z=>?_,)
 .let(v,q):=I.cell x c e;exact absurd (xAb q.lt (by rw[z];exact hb)) (yCs _)
 .exact absurd (xAb (xAa (I.pin p hp).1) (by rw[z];exact hb)) (yCs _)
structure Turn(P:zx)(w:zj)(K:FrG)(tg:qy)(J:It)(fp:List qw)(it:qw)(tn:Nat->Heap->Prop):Prop where
 mem:it∈fp
 obj:∀ i h,tn i h->∀ b∈fp,∃ o,h.get? b=qz o/\∀ v,o.data≠.cell v
 keep:∀ i h h',tn i h->(∀ b∈fp,∀ o,h.get? b=qz o->h'.get? b=qz o)->tn i h'
 item:∀ (X:Cx),X.prog=P->X.w=w->X.K=K->X.calm=Z->∀ (i:Nat) (aB:List (qw×Obj)) (s:qv) (σ:St) (H:Hp) (E:qj->qv->Prop),Inv X aB σ H s->(∀ b∈fp,hB X aB H b)->tn i s.heap->J.go i H ->
  qu (model P w) X.A (yq (.ref it)) (λ r s1=>∃ u,r=qz u /\
   qu (model P w) X.A (vo tg (.ref it) u) (λ _ s2=>∃ x H',Inv X aB σ H' s2/\bG x u/\J.yld i H x H'/\tn (i+1) s2.heap/\∀ b∈fp,H' b=qx) E s1) E s
 done:∀ (X:Cx),X.prog=P->X.w=w->X.K=K->X.calm=Z->∀ (i:Nat) (aB:List (qw×Obj)) (s:qv) (σ:St) (H:Hp) (E:qj->qv->Prop),Inv X aB σ H s->(∀ b∈fp,hB X aB H b)->tn i s.heap->J.stop i H ->
  qu (model P w) X.A (yq (.ref it)) (λ r s1=>r=qx/\Inv X aB σ H s1) E s
 self:∀ (A:zv) (i:Nat) (s:qv) (Q:qj->qv->Prop) (E:qj->qv->Prop),tn i s.heap->Q (.ref it) s->qu (model P w) A (pyIter (.ref it)) Q E s
abbrev TI:=St->Hp->(It->Hp->Prop)->Prop
def PIE(X:Cx)(aB:G (qw×Obj))(σ:St)(tg:qy)(R:It->Hp->Prop)(itv:qj)(s2:qv):Prop:=
 ∃ (it:qw) (fp:List qw) (tn:Nat->Heap->Prop) (J:It) (H':Hp),itv=.ref it/\Inv X aB σ H' s2/\Turn X.prog X.w X.K tg J fp it tn/\tn 0 s2.heap/\(∀ b∈fp,hB X aB H' b)/\R J H'
def PI(X:Cx)(tg iter:qy)(wi:TI):Prop:=
 ∀ (aB:G (qw×Obj)) (s:qv) (σ:St) (H:Hp) (R:It->Hp->Prop),Inv X aB σ H s->wi σ H R ->
  qu (model X.prog X.w) X.A (eval iter X.env) (λ v s1=>qu (model X.prog X.w) X.A (pyIter v) (PIE X aB σ tg R) X.xe s1) X.xe s
def aCe{E:qj->qv->Prop}{s:qv}{Q:Unit->qv->Prop}(ho:s.heap.get? it=J o)(hc:o.cls=.type n)(hd:o.data=.fields vs)(hn:["enumerate","zip","dict_itemiterator","dict_reverseitemiterator","odict_iterator","itertools.zip_longest","itertools.pairwise"].contains n=Ff)(hQ:Q () s):qu M A (vo tg (.ref it) u) Q E s:=by
 unfold vo;cases tg<;>first
  |exact wP hQ
  | (cases u<;>first
      |exact wP hQ
      | (refine wB (wpAny_load ho ?_)
         rw[hc,hd];show qu M A (if (["enumerate","zip","dict_itemiterator","dict_reverseitemiterator","odict_iterator","itertools.zip_longest","itertools.pairwise"].contains n&&vs[0]?==J (wq _))=Z then _ else _) Q E s;rw[if_neg (by intro h;rw[hn,yAw] at h;cases h)]
         exact wP hQ))
def Itl(K:FrG)(a:qw):It:=
 (λ i H=>∃ xs x,cE K H a xs/\xs[i]?=J x,λ i H x H'=>H'=H/\∀ xs,cE K H a xs->xs[i]?=J x,λ i H=>∃ xs,cE K H a xs/\↑xs<=i,)
def Itt(K:FrG)(a:qw):It:=
 (λ i H=>∃ xs x,cK K H a xs/\xs[i]?=J x,λ i H x H'=>H'=H/\∀ xs,cK K H a xs->xs[i]?=J x,λ i H=>∃ xs,cK K H a xs/\↑xs<=i,)
def Itr(lo:Int)(n:Nat):It:=(λ i _=>i<n,λ i H x H'=>H'=H/\x=.int (lo+i),λ i _=>n<=i,)
def aQP(a it:qw):Turn P w K tg (Itl K a) [it] it (λ i h=>h.IsListIter it a i) where
 mem:=by simp
 obj:=λ i h st b hb=>by
  let e:b=it:=(hb:)
  subst e;let(o,e,c,d):=st;simp_all
 keep:=λ i h h' st k=>st.at λ o e=>k it (by simp) o e
 item:=by
  intro X hP hw hK hc i aB s σ H E I hf st hg;subst hP hw hK;let(xs,x,hq,hx):=hg;let(aK,rv,p,hz):=I.list hq;let(u,hu,ru):=rv.get hx;let(f0,f1,f2,f3,f4,f5):=hf it (by simp);refine vw st p.isList (x:=u) (hu:) λ h' st' sb=>?_
  let I1:Inv X aB σ H {s with heap:=h' }:=I.turned (t':=s.toks) (λ b o hb e=>(sb.2 b hb).trans e) f0 f1 f3 f4 f5;let(o,e,c,d):=id st';exact(u,U,aCe (s:={s with heap:=h' }) e c d (·) (x,H,I1,ru,(U,λ ys hy=>by rw[I.list_inj hy hq];exact hx,),st',λ b hb=>(hf b hb).1,),)
 done:=by
  intro X hP hw hK hc i aB s σ H E I hf st hg;subst hP hw hK;let(xs,hq,hx):=hg;let(aK,rv,p,hz):=I.list hq;let(f0,f1,f2,f3,f4,f5):=hf it (by simp);let hl:=rv.length;exact vk (I.ok.hd hc) st p.isList (by simp;omega) λ h' eb=>(U,I.turned (t':=s.toks) (λ b o hb e=>eb b o hb e) f0 f1 f3 f4 f5,)
 self:=λ _ _ _ _ _ st h=>wpAny_pyIter_listiter st h
def aQg(a it:qw):Turn P w K tg (Itt K a) [it] it (λ i h=>h.IsTupleIter it a i) where
 mem:=by simp
 obj:=λ i h st b hb=>by
  let e:b=it:=(hb:)
  subst e;let(o,e,c,d):=st;simp_all
 keep:=λ i h h' st k=>st.at λ o e=>k it (by simp) o e
 item:=by
  intro X hP hw hK hc i aB s σ H E I hf st hg;subst hP hw hK;let(xs,x,hq,hx):=hg;let(aK,rv,p,hz):=I.tuple hq;let(u,hu,ru):=rv.get hx;let(f0,f1,f2,f3,f4,f5):=hf it (by simp);refine wpAny_pyNext_tuple_item st (show s.heap.IsTuple a aK.toArray from p) (x:=u) (hu:) λ h' st' sb=>?_
  let I1:Inv X aB σ H {s with heap:=h' }:=I.turned (t':=s.toks) (λ b o hb e=>(sb.2 b hb).trans e) f0 f1 f3 f4 f5;let(o,e,c,d):=id st';exact(u,U,aCe (s:={s with heap:=h' }) e c d (·) (x,H,I1,ru,(U,λ ys hy=>by rw[I.tuple_inj hy hq];exact hx,),st',λ b hb=>(hf b hb).1,),)
 done:=by
  intro X hP hw hK hc i aB s σ H E I hf st hg;subst hP hw hK;let(xs,hq,hx):=hg;let(aK,rv,p,hz):=I.tuple hq;let(f0,f1,f2,f3,f4,f5):=hf it (by simp);let hl:=rv.length;exact wpAny_pyNext_tuple_end (I.ok.hd hc) st (show s.heap.IsTuple a aK.toArray from p) (by simp;omega) λ h' eb=>(U,I.turned (t':=s.toks) (λ b o hb e=>eb b o hb e) f0 f1 f3 f4 f5,)
 self:=λ _ _ _ _ _ st h=>wpAny_pyIter_tupleiter st h
def aP9(it:qw)(lo:Int)(n:Nat):Turn P w K tg (Itr lo n) [it] it (λ i h=>kq h it (lo+(i:Nat)*1) ((n:Int)-(i:Nat)) 1) where
 mem:=by simp
 obj:=λ i h st b hb=>by
  simp_all
 keep:=λ i h h' st k=>k it (by simp) _ st
 item:=by
  intro X hP hw hK hc i aB s σ H E I hf st hg;subst hP hw hK;let(f0,f1,f2,f3,f4,f5):=hf it (by simp);let W:=Walks.range (prog:=X.prog) (w:=X.w) (I.ok.hd hc) it lo 1 n;refine W.item i s _ _ hg st λ v h' tk hv st' kk=>?_
  let(t,U):=hv;let I1:Inv X aB σ H {s with heap:=h',toks:=tk }:=I.turned (λ b o hb e=>kk b o (hb:) e) f0 f1 f3 f4 f5;refine(_,U,aCe (s:={s with heap:=h',toks:=tk }) (n:="range_iterator") st' U U (·) (.int (lo+i),H,I1,(t,?_,),(U,U,),st',λ b hb=>(hf b hb).1,),);rw[Int.mul_one]
 done:=by
  intro X hP hw hK hc i aB s σ H E I hf st hg;subst hP hw hK;let(f0,f1,f2,f3,f4,f5):=hf it (by simp);exact wpAny_pyNext_range_end (I.ok.hd hc) st (by have:n<=i:=hg;omega) λ h' eb=>(U,I.turned (t':=s.toks) (λ b o hb e=>eb b o hb e) f0 f1 f3 f4 f5,)
 self:=λ _ _ _ _ _ st h=>yu st h
end L2
namespace L2
open PySem PySem.Spec PyProof.Rows
def bAQ(K:FrG)(tl:TE):TI:=λ σ H R=>tl σ H λ x H1=>∃ a,x=.ref a/\(∃ xs,cE K H1 a xs)/\R (Itl K a) H1
def bBi(K:FrG)(tl:TE):TI:=λ σ H R=>tl σ H λ x H1=>∃ a,x=.ref a/\(∃ xs,cK K H1 a xs)/\R (Itt K a) H1
def aTw{tl:TE}(hl:PE X l tl):PI X tg l (bAQ X.K tl):=by
 intro aB s σ H R I h;refine bK (hl aB s σ H _ I h) λ v s1 hPq16=>?_
 let(x,H1,I1,r1,q1):=hPq16;let(a,e,(xs,hq),q):=q1;subst e;cases r1;let(aK,rv,p,hz):=I1.list hq;refine jw p.isList ?_;refine(s1.heap.objs.size,[s1.heap.objs.size],_,_,H1,U,I1.kept (t':=s1.toks) λ b o e=>hpS _ e,aQP a _,(_,xAd _ U,U,U,),λ b hb=>?_,q,);let e:b=s1.heap.objs.size:=(hb:)
 subst e;exact I1.fpOk (yAd _) (I1.hok.fresh (yAd _))
def aV8{tl:TE}(hl:PE X l tl):PI X tg l (bBi X.K tl):=by
 intro aB s σ H R I h;refine bK (hl aB s σ H _ I h) λ v s1 hPq17=>?_
 let(x,H1,I1,r1,q1):=hPq17;let(a,e,(xs,hq),q):=q1;subst e;cases r1;let(aK,rv,p,hz):=I1.tuple hq;refine jx (show s1.heap.IsTuple a aK.toArray from p) ?_;refine(s1.heap.objs.size,[s1.heap.objs.size],_,_,H1,U,I1.kept (t':=s1.toks) λ b o e=>hpS _ e,aQg a _,(_,xAd _ U,U,U,),λ b hb=>?_,q,);let e:b=s1.heap.objs.size:=(hb:)
 subst e;exact I1.fpOk (yAd _) (I1.hok.fresh (yAd _))
def aJg{R:It->Hp->Prop}{E:qj->qv->Prop}{lo hi:Int}(I:Inv X aB σ H s)(h1 : -(2^62)<=lo)(h2:lo<2^62)(h3 : -(2^62)<=hi)(h4:hi<2^62)(q:R (Itr lo (hi-lo).toNat) H):qu (model X.prog X.w) X.A (pyIter (.ref s.heap.objs.size)) (PIE X aB σ tg R) E {s with heap:=s.heap.push {cls:=.type "range",data:=.fields #[.int lo t,.int hi u,.int 1 v] },toks:=tk }:=by
 refine wpAny_pyIter_range (IsRange.new ..) (small_one h1 h2 h3 h4) ?_;let I1:Inv X aB σ H {s with heap:=s.heap.push {cls:=.type "range",data:=.fields #[.int lo t,.int hi u,.int 1 v] },toks:=tk }:=I.kept λ b o e=>hpS _ e
 refine⟨(s.heap.push {cls:=.type "range",data:=.fields #[.int lo t,.int hi u,.int 1 v] }).objs.size,[(s.heap.push {cls:=.type "range",data:=.fields #[.int lo t,.int hi u,.int 1 v] }).objs.size],_,_,H,rfl,
  I1.kept (t':=tk) λ b o e=>hpS _ e,aP9 _ lo (hi-lo).toNat,?_,λ b hb=>?_,q⟩
 .have e1:lo+((0:Nat):Int)*1=lo:=by simp
  let e2:(((hi-lo).toNat:Nat):Int)-((0:Nat):Int)=yEo lo hi 1:=by rw[rangeSize_one];split<;>omega
  show kq _ _ (lo+((0:Nat):Int)*1) ((((hi-lo).toNat:Nat):Int)-((0:Nat):Int)) 1;rw[e1,e2];exact xAd _ U
 .have e:b=(s.heap.push {cls:=.type "range",data:=.fields #[.int lo t,.int hi u,.int 1 v] }).objs.size:=(hb:)
  subst e;exact I1.fpOk (yAd _) (I1.hok.fresh (yAd _))
def aML(ta:TA):TI:=λ σ H R=>ta σ H λ vs H1=>∃ j:Int,vs=[.int j] /\ -(2^62)<=j/\j<2^62/\R (Itr 0 j.toNat) H1
def aMy(ta:TA):TI:=λ σ H R=>ta σ H λ vs H1=>∃ i j:Int,vs=[.int i,.int j]/\(-(2^62)<=i/\i<2^62 /\ -(2^62)<=j/\j<2^62)/\R (Itr i (j-i).toNat) H1
def aQV{ta:TA}(hg:Gl X "range")(hm:X.mg "range" = qx)(ha:PA X [a] ta)(hs:qo [a] X.env=[(Ff,eval a X.env)]:=by rfl):PI X tg (.Call (.Name "range" p) [a] [] pos) (aML ta):=by
 intro aB s σ H R I h;refine Call_ (oE I hg hm boot_range (yBb (bK (ha pos aB s σ H _ I h) λ us s1 hPq18=>?_) hs U));let(vs,H1,I1,r1,q1):=hPq18;let(j,e,q1,q2,q):=q1;subst e;cases r1 with
 |cons r rr=>
   cases rr;let(t,U):=r;exact call_range_1 (aJg I1 (!_) (!_) q1 q2 (q:))
def aQz{X:Cx}{tg:qy}{a b:qy}{ta:TA}{p pos:Pos}(hg:Gl X "range")(hm:X.mg "range" = qx)(ha:PA X [a,b] ta)(hs:qo [a,b] X.env=[(Ff,eval a X.env),(Ff,eval b X.env)]:=by rfl)(hs2:qo [b] X.env=[(Ff,eval b X.env)]:=by rfl) :
 PI X tg (.Call (.Name "range" p) [a,b] [] pos) (aMy ta):=by
 intro aB s σ H R I h;refine Call_ (oE I hg hm boot_range (yBb (bK (ha pos aB s σ H _ I h) λ us s1 hPq19=>?_) (by rw[hs,hs2]) (by rw[hs2];rfl)));let(vs,H1,I1,r1,q1):=hPq19;let(i,j,e,(q1,q2,q3,q4),q):=q1;subst e;cases r1 with
 |cons r rr=>
   cases rr with
   |cons r' rr=>
     cases rr;let(t,U):=r;let(t',U):=r';exact call_range_2 (aJg I1 q1 q2 q3 q4 q)
def bB1(wi:TI)(g:TG)(tb:TS):TS:=λ D σ H=>wi σ H λ J H1=>∃ W:Nat->Nat->St->Hp->Prop,(∃ m,W 0 m σ H1)/\∀ i m σ H,W i m σ H ->
 (J.stop i H/\D.nx σ H)\/(J.go i H/\∃ N:St->Hp->Prop,(∀ σ' H',N σ' H'->∃ m',m'<m/\W (i+1) m' σ' H')/\∀ x H',J.yld i H x H'->g x σ H' λ σ2 H2=>tb {D with nx:=N,ct:=N,bk:=D.nx } σ2 H2)
def yF(fp:List qw)(h:Heap):G (qw×Obj):=fp.filterMap λ b=>(h.get? b).map λ o=>(b,o)
def wH{h:Heap}(hb:b∈fp)(e:h.get? b=J o):(b,o)∈yF fp h:=List.mem_filterMap.mpr (b,hb,by rw[e];rfl,)
def aQX(hp:p∈yF fp h):p.1∈fp/\h.get? p.1=J p.2:=by
 let(b,hb,e):=List.mem_filterMap.mp hp;cases q:h.get? b with
 |none=>rw[q] at e;cases e
 |some o=>
   rw[q] at e;let e':(b,o)=p:=Option.some.inj e;subst e';exact(hb,q,)
def Inv.pinned(I:Inv X aB σ H s)(hf:∀ b∈fp,hB X aB H b)(ho:∀ b∈fp,∃ o,s.heap.get? b=J o/\∀ v,o.data≠.cell v):Inv X (aB++yF fp s.heap) σ H s:=
 I.pins_of λ p hp=>(List.mem_append.mp hp).elim (λ z=>I.pin p (xAp _ z)) λ z=>by
  let(hb,e):=aQX z;let(f0,f1,f2,_):=hf p.1 hb;let(o,e',d):=ho p.1 hb;rw[e] at e';cases e';exact(e,f0,f1,f2,d,)
def Inv.unpinned(I:Inv X (aB++pl) σ H s):Inv X aB σ H s:=I.pins_of λ p hp=>I.pin p (xAp _ (List.mem_append_left _ hp))
def aVS{X:Cx}{wi:TI}(hp:PassesOwn (model X.prog X.w) X.A X.env X.xe)(hc:X.calm=Z)(hi:PI X tg iter wi)(hg:PG X tg g)(hb:eG X body tb)(hs:∀ x,xo iter X.env x=pure x:=by intro _;rfl):PS X (.For tg iter body [] pos) (bB1 wi g tb):=by
 intro aB s σ H D I h;refine wpAny_For (bK (hi aB s σ H _ I h) λ v s1 h1=>bK h1 λ itv s2 h2=>?_) hs;let(it,fp,tn,J,H2,e,I2,T,st2,f2,W,(m0,w0),turn):=h2;subst e;let stat:∀ {H':Hp},(∀ b∈fp,H' b=qx)->∀ b∈fp,hB X aB H' b:=λ hn b hb=>(hn b hb,(f2 b hb).2,)
 refine codeAny_forLoop_any (λ n s'=>∃ i σ' H',Inv X aB σ' H' s'/\tn i s'.heap/\(∀ b∈fp,H' b=qx)/\W i n σ' H') ?_ m0 ⟨0,σ,H2,I2,st2,λ b hb=>(f2 b hb).1,w0⟩;rintro n s3 ⟨i,σ3,H3,I3,st3,fr3,w3⟩;rcases turn i n σ3 H3 w3 with ⟨stop,qn⟩|⟨go,N,hN,step⟩
 .refine vz hp (bK (T.done X U U U hc i aB s3 σ3 H3 X.xe I3 (stat fr3) st3 stop) λ r s4 hPq20=>?_);let(hr,I4):=hPq20;subst hr;exact wpAny_execs_nil (σ3,H3,I4,qn,)
 .refine vz hp (bK (T.item X U U U hc i aB s3 σ3 H3 X.xe I3 (stat fr3) st3 go) λ r s4 hPq21=>?_);let(u,hr,h4):=hPq21;subst hr;refine vz hp (bK h4 λ _ s5 hPq22=>?_);let(x,H5,I5,r5,y5,st5,fr5):=hPq22;let I5':=I5.pinned (stat fr5) (T.obj _ _ st5);refine vz hp (bK (hg _ s5 σ3 H5 x u _ I5' r5 (step x H5 y5)) λ _ s6 hPq23=>?_);let(σ6,H6,I6,q6):=hPq23;refine vz hp (bK (hb _ s6 σ6 H6 _ I6 q6) λ f s7 q7=>?_);let again:∀ {σ7:St}{H7:Hp},Inv X (aB++yF fp s5.heap) σ7 H7 s7->N σ7 H7->∃ m,m<n/\∃ i σ' H',Inv X aB σ' H' s7/\tn i s7.heap/\(∀ b∈fp,H' b=qx)/\W i m σ' H':=λ {σ7 H7} I7 n7=>by
   let(m',hm,w7):=hN σ7 H7 n7;refine(m',hm,i+1,σ7,H7,I7.unpinned,T.keep _ _ _ st5 λ b hb o e=>(I7.pin (b,o) (xAp _ (xAp _ (wH hb e)))).1,λ b hb=>?_,w7,);let(o,e,d):=T.obj _ _ st5 b hb;exact(I7.pin (b,o) (xAp _ (xAp _ (wH hb e)))).2.1
  cases f with
  |next=>let(σ7,H7,I7,n7):=q7;exact again I7 n7
  |cont=>let(σ7,H7,I7,n7):=q7;exact again I7 n7
  |brk=>let(σ7,H7,I7,q7):=q7;exact(σ7,H7,I7.unpinned,q7,)
  |ret v=>let(x7,σ7,H7,I7,r7,q7):=q7;exact(x7,σ7,H7,I7.unpinned,r7,q7,)
end L2
namespace L2
open PySem PySem.Spec PyProof.Rows
abbrev R2:=V->V->Hp->VK->Prop
def eN(X:Cx)(f:qj->qj->Sem qj)(r:R2):Prop:=
 ∀ (aB:G (qw×Obj)) (s:qv) (σ:St) (H:Hp) (x y:V) (v u:qj) (Q:VK),Inv X aB σ H s->bG x v->bG y u->r x y H Q ->
  qu (model X.prog X.w) X.A (f v u) (EP X aB σ Q) X.xe s
def UnR(X:Cx)(f:qj->Sem qj)(r:V->Hp->VK->Prop):Prop:=
 ∀ (aB:G (qw×Obj)) (s:qv) (σ:St) (H:Hp) (x:V) (v:qj) (Q:VK),Inv X aB σ H s->bG x v->r x H Q ->
  qu (model X.prog X.w) X.A (f v) (EP X aB σ Q) X.xe s
def iB(X:Cx)(f:qj)(r:G V->Hp->VK->Prop):Prop:=
 ∀ (aB:G (qw×Obj)) (s:qv) (σ:St) (H:Hp) (xs:G V) (us:List qj) (Q:VK),Inv X aB σ H s->bI xs us->r xs H Q ->
  qu (model X.prog X.w) X.A (call f us) (EP X aB σ Q) X.xe s
def bBC(X:Cx)(r:V->Hp->(Bool->Hp->Prop)->Prop):Prop:=
 ∀ (aB:G (qw×Obj)) (s:qv) (σ:St) (H:Hp) (x:V) (v:qj) (Q:Bool->Hp->Prop),Inv X aB σ H s->bG x v->r x H Q ->
  qu (model X.prog X.w) X.A (truthy v) (TP X aB σ Q) X.xe s
def tOp(r:R2)(ta tb:TE):TE:=λ σ H Q=>ta σ H λ x H1=>tb σ H1 λ y H2=>r x y H2 Q
def tUn(r:V->Hp->VK->Prop)(ta:TE):TE:=λ σ H Q=>ta σ H λ x H1=>r x H1 Q
def rI(C:Int->Int->Prop)(g:Int->Int->V):R2:=λ x y H Q=>∃ i j,x=.int i/\y=.int j/\C i j/\Q (g i j) H
def lB(g:Int->Int->V):R2:=λ x y H Q=>∃ i j,x=.int i/\y=.int j/\Q (g i j) H
def rU(g:Int->V):V->Hp->VK->Prop:=λ x H Q=>∃ i,x=.int i/\Q (g i) H
def aFQ{ta tb:TE}(ha:PE X a ta)(hb:PE X b tb){R:V->V->Hp->Prop}(I:Inv X aB σ H s)(h:ta σ H λ x H1=>tb σ H1 λ y H2=>R x y H2){Q:qj->qv->Prop}{f:qj->qj->Sem qj}(hf:∀ v u s2 x y H2,Inv X aB σ H2 s2->bG x v->bG y u->R x y H2->qu (model X.prog X.w) X.A (f v u) Q X.xe s2) :
 qu (model X.prog X.w) X.A (eval a X.env) (λ v s₁=>qu (model X.prog X.w) X.A (eval b X.env) (λ u s₂=>qu (model X.prog X.w) X.A (f v u) Q X.xe s₂) X.xe s₁) X.xe s:=by
 refine bK (ha aB s σ H _ I h) λ v s1 hPq24=>?_
 let(x,H1,I1,r1,q1):=hPq24;refine bK (hb aB s1 σ H1 _ I1 q1) λ u s2 hPq25=>?_
 let(y,H2,I2,r2,q2):=hPq25;exact hf v u s2 x y H2 I2 r1 r2 q2
def aMW{ta tb:TE}{r:R2}(ho:eN X (zu op) r)(ha:PE X a ta)(hb:PE X b tb):PE X (.BinOp a op b pos) (tOp r ta tb):=by intro aB s σ H Q I h;exact wpAny_BinOp (aFQ ha hb I h λ v u s2 x y H2 I2 rx ry q=>ho aB s2 σ H2 x y v u Q I2 rx ry q)
def bA1{ta:TE}{r:V->Hp->VK->Prop}(ho:UnR X (unaryOp op) r)(ha:PE X a ta):PE X (.UnaryOp op a pos) (tUn r ta):=by intro aB s σ H Q I h;exact UnaryOp_ (bK (ha aB s σ H _ I h) λ v s1 ⟨x,H1,I1,r1,q1⟩=>ho aB s1 σ H1 x v Q I1 r1 q1)
variable {X:Cx}
def opI{f:qj->qj->Sem qj}{C:Int->Int->Prop}{g:Int->Int->Int}(rule:∀ (i j:Int) (t u:Tok) (s:qv) (Q:qj->qv->Prop) (E:qj->qv->Prop),C i j->Q (.int (g i j) s.toks) {s with toks:=s.toks+1 }->qu (model X.prog X.w) X.A (f (.int i t) (.int j u)) Q E s) :
 eN X f (rI C λ i j=>.int (g i j)):=by intro aB s σ H x y v u Q I rx ry h;let(i,j,U,U,hc,q):=h;let(t,U):=rx;let(t',U):=ry;exact rule i j t t' s _ _ hc (.int (g i j),H,I.tok _,(_,U,),q,)
def zQ{f:qj->qj->Sem qj}{g:Int->Int->Int}(rule:∀ (i j:Int) (t u:Tok) (s:qv) (Q:qj->qv->Prop) (E:qj->qv->Prop),Q (.int (g i j) s.toks) {s with toks:=s.toks+1 }->qu (model X.prog X.w) X.A (f (.int i t) (.int j u)) Q E s) :
 eN X f (lB λ i j=>.int (g i j)):=by intro aB s σ H x y v u Q I rx ry h;let(i,j,U,U,q):=h;let(t,U):=rx;let(t',U):=ry;exact rule i j t t' s _ _ (.int (g i j),H,I.tok _,(_,U,),q,)
def aCO{f:qj->qj->Sem qj}{g:Int->Int->Bool}(rule:∀ (i j:Int) (t u:Tok) (s:qv) (Q:qj->qv->Prop) (E:qj->qv->Prop),Q (.bool (g i j)) s->qu (model X.prog X.w) X.A (f (.int i t) (.int j u)) Q E s) :
 eN X f (lB λ i j=>.bl (g i j)):=by intro aB s σ H x y v u Q I rx ry h;let(i,j,U,U,q):=h;let(t,U):=rx;let(t',U):=ry;exact rule i j t t' s _ _ (.bl (g i j),H,I,U,q,)
def aPU(k:Nat):(0:Int)<=2^k:=by rw[two_pow_cast];exact yHa _
def aX3:eN X (zu .Add) (lB λ i j=>.int (i+j)):=zQ λ _ _ _ _ _ _ _ q=>add_int q
def aVR:eN X (zu .Sub) (lB λ i j=>.int (i-j)):=zQ λ _ _ _ _ _ _ _ q=>sub_int q
def aTu:eN X (zu .Mod) (rI (λ _ j=>j≠0) λ i j=>.int (i.fmod j)):=opI λ _ _ _ _ _ _ _ hc q=>mod_int' hc q
def aWc:eN X (zu .RShift) (rI (λ _ j=>0<=j) λ i j=>.int (i/2^j.toNat)):=opI λ i j _ _ _ _ _ hc q=>
 rshift_int hc (by rw[Int.fdiv_eq_ediv_of_nonneg i (aPU _)];exact q)
def aWk:eN X (zu .BitAnd) (lB λ i j=>.int (yEu i j)):=zQ λ _ _ _ _ _ _ _ q=>and_int q
def aYT:eN X (zu .BitOr) (lB λ i j=>.int (yHp i j)):=zQ λ _ _ _ _ _ _ _ q=>or_int q
def aYc:eN X (zu .BitXor) (lB λ i j=>.int (yHg i j)):=zQ λ _ _ _ _ _ _ _ q=>xor_int q
def unI{f:qj->Sem qj}{g:Int->Int}(rule:∀ (i:Int) (t:Tok) (s:qv) (Q:qj->qv->Prop) (E:qj->qv->Prop),Q (.int (g i) s.toks) {s with toks:=s.toks+1 }->qu (model X.prog X.w) X.A (f (.int i t)) Q E s) :
 UnR X f (rU λ i=>.int (g i)):=by intro aB s σ H x v Q I rx h;let(i,U,q):=h;let(t,U):=rx;exact rule i t s _ _ (.int (g i),H,I.tok _,(_,U,),q,)
def aYj:UnR X (unaryOp .USub) (rU λ i=>.int (-i)):=unI λ _ _ _ _ _ q=>neg_int q
def aXz:UnR X (unaryOp .Invert) (rU λ i=>.int (yBo i)):=unI λ _ _ _ _ _ q=>invert_int q
def aBS{Q:VK}(I:Inv X aB σ H s)(q:Q (.bl k) H)(e:k=k'):EP X aB σ Q (.bool k') s:=by subst e;exact(.bl k,H,I,U,q,)
def aZR:eN X (xw .Lt) (lB λ i j=>.bl (decide (i<j))):=aCO λ _ _ _ _ _ _ _ q=>lt_int q
def aZs:eN X (xw .LtE) (lB λ i j=>.bl (decide (i<=j))):=aCO λ _ _ _ _ _ _ _ q=>le_int q
def aZv:eN X (xw .Gt) (lB λ i j=>.bl (decide (j<i))):=aCO λ _ _ _ _ _ _ _ q=>gt_int q
def bAm:eN X (xw .GtE) (lB λ i j=>.bl (decide (j<=i))):=aCO λ _ _ _ _ _ _ _ q=>ge_int q
def aVU:eN X (xw .Is) (λ x y H Q=>y=.non/\Q (.bl (decide (x=.non))) H):=by
 intro aB s σ H x y v u Q I rx ry h;let(U,q):=h;cases ry;refine is_none_gen (aBS I q ?_);cases x<;>first
  |(cases rx;rfl)
  |(let(t,U):=rx;rfl)
def aVA:eN X (xw .IsNot) (λ x y H Q=>y=.non/\Q (.bl (!decide (x=.non))) H):=by
 intro aB s σ H x y v u Q I rx ry h;let(U,q):=h;cases ry;refine isnot_none_gen (aBS I q ?_);cases x<;>first
  |(cases rx;rfl)
  |(let(t,U):=rx;rfl)
def bCm(b:qy)(h:op≠.In:=by decide)(h2:op≠.NotIn:=by decide):xz op b=Ff:=by
 let e1:(op==CmpOp.In)=Ff:=by cases op<;>first|rfl|exact absurd U h
 let e2:(op==CmpOp.NotIn)=Ff:=by cases op<;>first|rfl|simp_all
 cases b<;>simp[xz,e1,e2]
def aU5{ta tb:TE}{r:R2}(ho:eN X (xw op) r)(ha:PE X a ta)(hb:PE X b tb)(hm:xz op b=Ff):PE X (.Compare a [op] [b] pos) (tOp r ta tb):=by intro aB s σ H Q I h;exact wpAny_Compare1 (aFQ ha hb I h λ v u s2 x y H2 I2 rx ry q=>ho aB s2 σ H2 x y v u Q I2 rx ry q) hm
def bA3(t:TE):TT:=λ σ H Q=>t σ H λ x H'=>∃ k,x=.bl k/\Q k H'
def aT6{ta tb:TE}{r:R2}(ho:eN X (xw op) r)(ha:PE X a ta)(hb:PE X b tb)(hm:xz op b=Ff):PT X (.Compare a [op] [b] pos) (bA3 (tOp r ta tb)):=by
 intro aB s σ H Q I h;refine wpAny_isTrue_Compare1 (bK (ha aB s σ H _ I h) λ v s1 ⟨x,H1,I1,r1,q1⟩=>bK (hb aB s1 σ H1 _ I1 q1) λ u s2 ⟨y,H2,I2,r2,q2⟩=>
  bK (ho aB s2 σ H2 x y v u _ I2 r1 r2 q2) λ c s3 ⟨z,H3,I3,r3,k,e,q3⟩=>?_) hm
 subst e;cases r3;exact xu (H3,I3,q3,)
def aFZ(K:FrG)(x:V)(H:Hp)(k:Bool):Prop:=
 match x with
 |.non=>k=Ff|.bl b=>k=b|.int i=>k=(i != 0)|.str y=>y.length<=qk/\k=((y.length:Int) != 0)|.byt y=>y.size<=qk/\k=((y.size:Int) != 0)|.ref p=>(∃ xs,cE K H p xs/\k = !xs.isEmpty)\/(∃ xs,cK K H p xs/\k = !xs.isEmpty)\/∃ aO,H p=J (.dK aO)/\k = !aO.isEmpty|_=>False
def aPY{κ:Type}{aO:G (κ×V)}{vs:G (κ×qj)}(r:KV aO vs):(!vs.isEmpty) = !aO.isEmpty:=by cases r<;>rfl
def aHP{xs:G V}(r:bI xs aK):(!aK.toArray.isEmpty) = !xs.isEmpty:=by cases r<;>simp
def tY:(qk:Nat)<2^63:=by rw[zq];decide
def aWw:bBC X (λ x H Q=>∃ k,aFZ X.K x H k/\Q k H):=by
 intro aB s σ H x v Q I rx h;let(k,e,q):=h;let hl:=tY;let hs:qk=16777216:=zq;cases x with
 |non=>
   cases rx;let e':k=Ff:=e;subst e';exact truthy_none (H,I,q,)
 |bl b=>
   cases rx;let e':k=b:=e;subst e';exact xu (H,I,q,)
 |int i=>
   let(t,U):=rx;let e':k=(i != 0):=e;subst e';exact PySem.P.truthy_int (H,I,q,)
 |str y=>
   let(t,U):=rx;obtain⟨hy,e'⟩:y.length<=qk/\k=((y.length:Int) != 0):=e;subst e';exact PySem.P.truthy_str (!_) (H,I.tok _,q,)
 |byt y=>
   let(t,U):=rx;obtain⟨hy,e'⟩:y.size<=qk/\k=((y.size:Int) != 0):=e;subst e';exact PySem.W.truthy_bytes (!_) (H,I.tok _,q,)
 |ref p=>
   cases rx;let e':(∃ xs,cE X.K H p xs/\k = !xs.isEmpty)\/(∃ xs,cK X.K H p xs/\k = !xs.isEmpty)\/∃ aO,H p=J (.dK aO)/\k = !aO.isEmpty:=e;rcases e' with ⟨xs,hx,e'⟩|⟨xs,hx,e'⟩|⟨aO,hx,e'⟩
   .subst e';let(aK,r,pl,hz):=I.list hx;let cW:=r.length;exact wpAny_truthy_list pl.isList (by simp only[yAj];omega) (H,I.tok _,by rw[aHP r];exact q,)
   .subst e';let(aK,r,pl,hz):=I.tuple hx;let cW:=r.length;exact truthy_tuple pl (by simp only[yAj];omega) (H,I.tok _,by rw[aHP r];exact q,)
   .subst e';obtain⟨hz,hS,vs,r,m⟩:aO.length<=qk/\(p==sysModules)=Ff/\∃ vs,KV aO vs/\s.heap.DictOf (fY X.prog X.w) p vs:=I.hok p _ hx;let cW:aO.length=↑vs:=Paired.length r;exact wpAny_truthy_dict hS m (!_) (H,I.tok _,by rw[aPY r];exact q,)
 |_=>exact(show False from e).elim
def aSr{ta:TE}(ha:PE X a ta)(he:∀ lE,isTrue a X.env lE=(do let v <- lE;standAt a.pos;holding [v] (truthy v))) :
 PT X a (λ σ H Q=>ta σ H λ x H'=>∃ k,aFZ X.K x H' k/\Q k H'):=by intro aB s σ H Q I h;exact isTrue_plain (bK (ha aB s σ H _ I h) λ v s1 ⟨x,H1,I1,r1,q1⟩=>aWw aB s1 σ H1 x v Q I1 r1 q1) (he _)
def qF(r:bI [x] us):∃ u,us=[u]/\bG x u:=by
 cases r with
 |cons r1 r2=>cases r2;exact(_,U,r1,)
def aNc(r:bI [x,y] us):∃ u w',us=[u,w']/\bG x u/\bG y w':=by
 cases r with
 |cons r1 r2=>
   cases r2 with
   |cons r3 r4=>cases r4;exact(_,_,U,r1,r3,)
def aRu(hc:X.calm=Z):iB X (.builtin "max") (λ xs H Q=>∃ i j,xs=[.int i,.int j]/\Q (.int (if j>i then j else i)) H):=by
 intro aB s σ H xs us Q I r h;let(i,j,U,q):=h;let(u,w',U,(t,U),(t',U)):=aNc r;refine max_two_ints (I.ok.hd hc) λ h' tk k=>(_,H,I.kept k,?_,q,)
 by_cases hj:j>i
 .rw[if_pos hj,if_pos hj];exact(_,U,)
 .rw[if_neg hj,if_neg hj];exact(_,U,)
def aRj(hc:X.calm=Z):iB X (.builtin "min") (λ xs H Q=>∃ i j,xs=[.int i,.int j]/\Q (.int (if j<i then j else i)) H):=by
 intro aB s σ H xs us Q I r h;let(i,j,U,q):=h;let(u,w',U,(t,U),(t',U)):=aNc r;refine min_two_ints (I.ok.hd hc) λ h' tk k=>(_,H,I.kept k,?_,q,)
 by_cases hj:j<i
 .rw[if_pos hj,if_pos hj];exact(_,U,)
 .rw[if_neg hj,if_neg hj];exact(_,U,)
def aIn:iB X (.type "int") (λ xs H Q=>(∃ i,xs=[.int i]/\Q (.int i) H)\/∃ k,xs=[.bl k]/\Q (.int (if k then 1 else 0)) H):=by
 intro aB s σ H xs us Q I r h;rcases h with ⟨i,rfl,q⟩|⟨k,rfl,q⟩
 .let(u,U,t,U):=qF r;exact call_int_int (.int i,H,I,(_,U,),q,)
 .let(u,U,r1):=qF r;cases r1;exact call_int_bool (.int (if k then 1 else 0),H,I.tok _,(_,U,),q,)
end L2
namespace L2
open PySem PySem.Spec PyProof.Rows
structure ObjM(h:Heap)(x dx C:qw)(mA:Str->Option qj):Prop where
 obj:h.get? x=J (yDp C dx)
 ns:h.Ns1 dx mA
 ne:dx≠x
def aRq{h:Heap}{mA:Str->Option qj}(n:h.Ns1 dx mA):∃ od,h.get? dx=J od/\∀ name,yHh name od=J (mA name):=by
 let(o,es,ep,ho,hd,hk,_,hm):=n;refine(o,ho,λ name=>?_,);let e:=hm name;unfold nsFind findBy at e;rw[<- Array.find?_toList] at e;unfold yHh;rw[hd];dsimp only;split
 .simp_all
 .rename_i q;rw[q] at e;let a:es.toList.any (·.refKey)=Ff:=by
   rw[List.any_eq_false];intro y hy;let(z,t,hkey):=hk y (Array.mem_toList_iff.mp hy);simp[DictEntry.refKey,hkey]
  grind
def ObjM.look{mA:Str->Option qj}(I:ObjM h x dx C mA):∃ od,PySem.W.InstAt h x (yDp C dx) C (J od)/\∀ name,yHh name od=J (mA name):=
 let ⟨od,ho,hl⟩:=aRq I.ns
 (od,(I.obj,U,U,ho,),hl,)
variable {K:FrG}
def aTb{E:qj -> qv -> Prop}{s:qv}{mA:Str -> Option qj}{Q:qj->qv->Prop}(X:K.In s.heap)(I:ObjM s.heap x dx C mA)(hg:yEs K C name=Z)(hh:yFf K C=Z)(ha:yBn K (.ref C) name=qz qx)(hv:mA name=qz v)(hv':PySem.W.handedIn v=Z)(h:Q v {s with toks:=s.toks+1 }) :
 qu (model prog w) A (getAttr (.ref x) name expr) Q E s:=by let(od,J,hl):=I.look;exact PySem.W.get_value X J (yGs hg).1 (PySem.W.findObj_own hh ha U (by rw[hl,hv])) hv' h
def aRN{E:qj -> qv -> Prop}{s:qv}{mA:Str -> Option qj}{Q:qj×List qj->qv->Prop}(X:K.In s.heap)(I:ObjM s.heap x dx C mA)(hg:yEs K C name=Z)(hf:yBn K (.ref C) name=qz (qz (.ref f)))(ht:yHb K (.ref f)=Z)(hv:mA name=qx)(h:Q (.ref f,[.ref x]) s) :
 qu (model prog w) A (getMethod (.ref x) name pl) Q E s:=by let(od,J,hl):=I.look;exact PySem.W.method_fn X J (yGs hg).1 (yGs hg).2 hf (beq_iff_eq.mp ht) (by show(yHh name od).map (·.isSome)=qz Ff;rw[hl,hv];rfl) h
def aU8{E:qj -> qv -> Prop}{s:qv}{mA:Str -> Option qj}{Q:Unit->qv->Prop}(X:K.In s.heap)(I:ObjM s.heap x dx C mA)(hs:yBn K (.ref C) "__setattr__" = qz (qz (.builtin "object.__setattr__")))(hp:yGf K C=Z)(ht:yHv K C name=qz qx)(hh:yFf K C=Z)(hw:PySem.Within mA ns)(hsz:↑ns<=qk)(h:∀ h',ObjM h' x dx C (λ y=>if y=name then qz v else mA y)->yCl dx s.heap h'->Q () {s with heap:=h',toks:=s.toks+2 }) :
 qu (model prog w) A (setAttr (.ref x) name v) Q E s:=by
 let(od,J,hl):=I.look;refine PySem.W.set_plain X J hs (PySem.W.osa_open (s:={s with toks:=s.toks+1 }) (r:=qx) X J hp ht λ b=>?_);let(cd,hc,hd'):=PySem.W.any_some hh;let hx:s.heap.get? x=qz (.ref C,qz dx,.plain,#[],):=I.obj;refine wB (wP (wB (wB (wpAny_loadPart hx (wB (PySem.W.Looks.here (s:={s with toks:=s.toks+1 }) (PySem.W.looks_clsIn X hc) ?_))))));rw[hd'];refine wP (a:=qz dx) (wB (wP (wB ?_)));refine wpAny_nsSet1 (s:={s with toks:=s.toks+1 }) I.ns λ h' hn2 hs2=>?_
 let(oD,esD,epD,hoD,hdD,hcD):=hn2.count (PySem.Within.cons name v hw);refine wB (wpAny_lookBehind hoD (by rw[hdD];exact pastItsLine_dict (xAh hcD (by rw[yAo];omega))) ?_);exact wP (h _ ((hs2.2 _ (Ne.symm I.ne)).trans I.obj,hn2,I.ne,) hs2)
def aSU{A:zv}{s:qv}{R:Result->qv->Prop}(X:K.In s.heap)(hm:yHw K C=Z)(hi:yBn K (.ref C) "__init__" = J (J (.ref f)))(hf:PySem.W.typeIn K (.ref f)=J (.type "function"))(h:jo (model prog w) (A.under (.builtin "type.__call__" (.ref C::vs,kw,))) (.call (.ref f) (.ref (s.heap.objs.size+1)::vs,kw,)) (PySem.W.InitBack (s.heap.objs.size+1) R)
   {s with heap:=(s.heap.push yCf).push (yDp C s.heap.objs.size) }) :
 jo (model prog w) A (.call (.ref C) (vs,kw,)) R s:=by let(hh,g,d,t,os):=s;exact PySem.W.make_core (PySem.W.makes_of X hm) (PySem.W.looks_findIn X hi) (λ self=>PySem.W.bind_fn X self hf) (.inl U) h
def gC(f:Str)(v:V):G (Str×V)->G (Str×V)
 |[]=>[(f,v)]
 |(g,x)::r=>if g=f then (g,v)::r else (g,x)::gC f v r
def aHt(f g:Str)(v:V):∀ fs:G (Str×V),(gC f v fs).lookup g=if g=f then J v else fs.lookup g
 |[]=>by
   show List.lookup g [(f,v)]=_
   grind
 |(k,x)::r=>by
   let ih:=aHt f g v r;rw[show gC f v ((k,x)::r)=(if k=f then (k,v)::r else (k,x)::gC f v r) from U]
   grind
def aDv(f:Str)(v:V):∀ fs:G (Str×V),f∈(gC f v fs).map (·.1)/\∀ g,g∈fs.map (·.1)->g∈(gC f v fs).map (·.1)
 |[]=>(by simp[gC],λ g h=>by simp at h,)
 |(k,x)::r=>by
   let(i1,i2):=aDv f v r;rw[show gC f v ((k,x)::r)=(if k=f then (k,v)::r else (k,x)::gC f v r) from U]
   grind
def aHL(f:Str)(v:V):∀ fs:G (Str×V),(gC f v fs).length<=↑fs+1
 |[]=>by simp[gC]
 |(k,x)::r=>by
   let ih:=aHL f v r;rw[show gC f v ((k,x)::r)=(if k=f then (k,v)::r else (k,x)::gC f v r) from U];by_cases hk:k=f
   .rw[if_pos hk,yAo,yAo];omega
   .rw[if_neg hk,yAo,yAo];omega
def iL.some_of(r:iL (J v) o):∃ u,o=J u/\bG v u:=by
 cases o with
 |none=>exact(show False from r).elim
 |some u=>exact(u,U,r,)
def iL.none_of(r:iL qx o):o=qx:=by
 cases o with
 |none=>rfl
 |some u=>exact(show False from r).elim
def aQ8(r:bG v u):PySem.W.handedIn u=Z:=by
 cases v with
 |non=>cases (show u=Value.none from r);rfl
 |bl b=>cases (show u=Value.bool b from r);rfl
 |int i=>let(t,e):=(show ∃ t,u=Value.int i t from r);cases e;rfl
 |str x=>let(t,e):=(show ∃ t,u=Value.str x t from r);cases e;rfl
 |byt b=>let(t,e):=(show ∃ t,u=Value.bytes b t from r);cases e;rfl
 |flt b=>let(t,e):=(show ∃ t,u=Value.float b t from r);cases e;rfl
 |ref a=>cases (show u=Value.ref a from r);rfl
 |ty n=>cases (show u=Value.type n from r);rfl
section
variable {P:zx}{w:zj}{H H':Hp}{h h':Heap}{a C dx:qw}{fs fs':List (Str×V)}
def aD9(hok:dE P w H h)(e:H a=J (.ins C dx fs)):∃ mA,ObjM h a dx C mA/\(∀ f,iL (fs.lookup f) (mA f))/\PySem.Within mA (fs.map (·.1))/\↑fs<=1000/\H dx=J (.own a):=by let(d,z,ne,ob,mA,n,r,q):=(show fF P w H h a (.ins C dx fs) from hok a _ e);exact(mA,(ob,n,ne,),r,q,z,d,)
end
structure Cls(K:FrG)(C:qw):Prop where
 pg:yEs K C Str.empty=Z
 hd:yFf K C=Z
 po:yGf K C=Z
 sa:yBn K (.ref C) "__setattr__" = J (J (.builtin "object.__setattr__"))
def Cls.get(c:Cls K C)(f:Str):yEs K C f=Z:=c.pg
def NoAttr(K:FrG)(C:qw)(f:Str):Prop:=yBn K (.ref C) f=J qx
def NoAttr.taker(n:NoAttr K C f):yHv K C f=J qx:=by unfold yHv;rw[show yBn K (.ref C) f=J qx from n];rfl
structure Con(K:FrG)(C:qw)(f:Str)(v:V)(u:qj):Prop where
 at_:yBn K (.ref C) f=J (J u)
 rel:bG v u
 get:PySem.W.specialIn K u "__get__" = J qx
 cp:PySem.W.copiedNames.contains f=Ff
structure Meth(K:FrG)(C:qw)(m:Str)(f:qw):Prop where
 at_:yBn K (.ref C) m=J (J (.ref f))
 fn:yHb K (.ref f)=Z
 kp:yBp K (.ref f)=Z
section
variable {X:Cx}{aB:List (qw×Obj)}{σ:St}{H:Hp}{s:qv}{a C dx:qw}{fs:List (Str×V)}{f:Str}{v:V}{A:zv}{E:qj->qv->Prop}
def aPJ{Q:qj->qv->Prop}(I:Inv X aB σ H s)(e:H a=J (.ins C dx fs))(c:Cls X.K C)(n:NoAttr X.K C f)(l:fs.lookup f=J v)(h:∀ u s',Inv X aB σ H s'->bG v u->Q u s'):qu (model X.prog X.w) A (getAttr (.ref a) f b) Q E s:=by let(mA,O,r,_,_,_):=aD9 I.hok e;let(u,hu,ru):=iL.some_of (v:=v) (o:=mA f) (by rw[<- l];exact r f);exact aTb I.kIn O (c.get f) c.hd n hu (aQ8 ru) (h u _ (I.tok _) ru)
def aPT{Q:qj×List qj->qv->Prop}(I:Inv X aB σ H s)(e:H a=J (.ins C dx fs))(c:Cls X.K C)(k:Meth X.K C m g)(l:fs.lookup m=qx)(h:Q (.ref g,[.ref a]) s):qu (model X.prog X.w) A (getMethod (.ref a) m pl) Q E s:=by let(mA,O,r,_,_,_):=aD9 I.hok e;let hn:mA m=qx:=iL.none_of (by rw[<- l];exact r m);exact aRN I.kIn O (c.get m) k.at_ k.fn hn h
def aPV{Q:Unit->qv->Prop}(I:Inv X aB σ H s)(e:H a=J (.ins C dx fs))(c:Cls X.K C)(n:NoAttr X.K C f)(hl:↑fs<1000)(ry:bG y u)(h:∀ s',Inv X aB σ (bJ H a (.ins C dx (gC f y fs))) s'->Q () s'):qu (model X.prog X.w) A (setAttr (.ref a) f u) Q E s:=by
 let(mA,O,r,wi,_,ho):=aD9 I.hok e;let hz:(fs.map (·.1)).length<=qk:=by rw[yAf,zq];omega
 refine aU8 I.kIn O c.sa c.po n.taker c.hd wi hz λ h' O' sb=>h _ ?_
 let hd:∃ o,h'.get? dx=J o:=let ⟨o,_,_,e',_⟩:=O'.ns;(o,e',);refine I.write (x:=a) (e:=dx) (by rw[e];exact True.intro) (.inr ho) (λ b q hb z=>(sb.2 b hb).trans z) hd ?_;refine(by rw[bZ O.ne];exact ho,?_,O.ne,O'.obj,_,O'.ns,λ g=>?_,λ g hg=>?_,)
 .have:=aHL f y fs;omega
 .show iL ((gC f y fs).lookup g) (if g=f then J u else mA g);rw[aHt];by_cases q:g=f
  .rw[if_pos q,if_pos q];exact ry
  simp_all
 .by_cases q:g=f
  .rw[q];exact(aDv f y fs).1
  .refine(aDv f y fs).2 g (wi g λ z=>hg ?_);simp_all
def Inv.made(I:Inv X aB σ H s):Inv X aB σ (bJ (bJ H s.heap.objs.size (.own (s.heap.objs.size+1))) (s.heap.objs.size+1) (.ins C s.heap.objs.size []))
 {s with heap:=(s.heap.push yCf).push (yDp C s.heap.objs.size) }:=by
 let e1:(s.heap.push yCf).get? s.heap.objs.size=J yCf:=xAd s.heap U;let e2:((s.heap.push yCf).push (yDp C s.heap.objs.size)).get? (s.heap.objs.size+1)=J (yDp C s.heap.objs.size):=by
  have:=xAd (s.heap.push yCf) (o:=yDp C s.heap.objs.size) U;rwa [yFi] at this
 let e3:(s.heap.push yCf).Ns s.heap.objs.size (λ _=>qx):=(yCf,#[],_,e1,U,(λ e he=>absurd he (by simp)),λ _=>rfl,);let I1:=I.laid (a:=s.heap.objs.size) (o:=.own (s.heap.objs.size+1)) (h':=s.heap.push yCf) (t':=s.toks) (λ b u q=>hpS _ q) (yAd _) (_,e1,);refine I1.laid (a:=s.heap.objs.size+1) (o:=.ins C s.heap.objs.size []) (t':=s.toks) (λ b u q=>hpS _ q) (yEm (yFi _ _)) ?_;let ne:s.heap.objs.size≠s.heap.objs.size+1:=xAj (yFm _);refine(by rw[bZ ne,cU],yBv _,ne,e2,λ _=>qx,(Heap.Ns1.of_empty e3).at λ o q=>hpS _ q,λ _=>True.intro,λ y hy=>absurd U hy,)
def aVa{Q:qj->qv->Prop}(hb:attributeBase e f env (eval e env)=eval e env)(h:qu (model prog w) A (eval e env) (λ o s₁=>qu (model prog w) A (getAttr o f Z) Q E s₁) E s):qu (model prog w) A (eval (.Attribute e f pos) env) Q E s:=
 Attribute_any_ h (by rw[arm_eval_Attribute,hb])
end
def bBB(K:FrG)(ta:TE)(f:Str):TE:=λ σ H Q=>ta σ H λ x H1=>∃ a C dx fs v,x=.ref a/\H1 a=J (.ins C dx fs)/\Cls K C/\NoAttr K C f/\fs.lookup f=J v/\Q v H1
def aNX(K:FrG)(ta tv:TE)(f:Str):TS:=λ D σ H=>tv σ H λ y H1=>ta σ H1 λ x H2=>∃ a C dx fs,x=.ref a/\H2 a=J (.ins C dx fs)/\Cls K C/\NoAttr K C f/\↑fs<1000 /\
 D.nx σ (bJ H2 a (.ins C dx (gC f y fs)))
def aV0{ta:TE}(he:PE X e ta)(hb:attributeBase e f X.env (eval e X.env)=eval e X.env):PE X (.Attribute e f pos) (bBB X.K ta f):=by intro aB s σ H Q I h;refine aVa hb (bK (he aB s σ H _ I h) λ u s1 hPq26=>?_);let(x,H1,I1,rx,a,C,dx,fs,v,ex,ea,c,n,l,q):=hPq26;subst ex;obtain rfl:u=Value.ref a:=rx;exact aPJ I1 ea c n l λ u' s2 I2 ru=>(v,H1,I2,ru,q,)
def aWM{pos:Pos}{ta tv:TE}(ha:PE X o ta)(hv:PE X value tv)(hs:swapsWith value (J (.Attribute o f pos')) pos.line X.env=pure Ff):PS X (.Assign [.Attribute o f pos'] value pos) (aNX X.K ta tv f):=by intro aB s σ H D I h;refine plainObj_wpAny_Assign_Attribute (bK (hv aB s σ H _ I h) λ u s1 ⟨y,H1,I1,ry,q⟩=>bK (ha aB s1 σ H1 _ I1 q) λ ov s2 hPq27=>?_) hs;let(x,H2,I2,rx,a,C,dx,fs,ex,ea,c,n,l,q2):=hPq27;subst ex;obtain rfl:ov=Value.ref a:=rx;exact aPV I2 ea c n l ry λ s3 I3=>(σ,_,I3,q2,)
section
variable {X:Cx}{aB:List (qw×Obj)}{σ:St}{H:Hp}{s:qv}{A:zv}{E:qj->qv->Prop}{Q:qj->qv->Prop}{c:qj}{b:Bool}
inductive TyOf (K:FrG) (H:Hp):V->qj->Prop where
 |non:TyOf K H .non (.type "NoneType")
 |bl (x:Bool):TyOf K H (.bl x) (.type "bool")
 |int (i:Int):TyOf K H (.int i) (.type "int")
 |str (x:Str):TyOf K H (.str x) (.type "str")
 |flt (x:UInt64):TyOf K H (.flt x) (.type "float")
 |lst {a:qw}{xs:List V} (e:H a=J (.lst xs)):TyOf K H (.ref a) (.type "list")
 |frz {a:qw}{o:Obj}{xs:List V} (e:H a=J (.frz o (.lst xs))):TyOf K H (.ref a) (.type "list")
 |tup {a:qw}{xs:List V} (e:H a=J (.tup xs)):TyOf K H (.ref a) (.type "tuple")
 |dK {a:qw}{aO:List (bN×V)} (e:H a=J (.dK aO)):TyOf K H (.ref a) (.type "dict")
 |dT {a:qw}{aO:List (List bN×V)} (e:H a=J (.dT aO)):TyOf K H (.ref a) (.type "dict")
 |ins {a C dx:qw}{fs:List (Str×V)} (e:H a=J (.ins C dx fs)) (cl:Cls K C) (ha:yBn K (.ref C) "__class__" = J (J (.builtin "object.__class__")))
    (hn:PySem.W.specialIn K (.builtin "object.__class__") "__get__" = J (J (.builtin "getset_descriptor.__get__"))) (htk:PySem.W.takesIn K (.builtin "object.__class__")=J Z)
    (hm:PySem.W.mroIn K C (.type "object")=J Z):TyOf K H (.ref a) (.ref C)
end
end L2
namespace L2
open PySem PySem.Spec PyProof.Rows
structure Room(k:Nat)(A:zv):Prop where
 hd:A.handled=qx
 dp:A.depth+3*k+5<recursionLimit
 un:A.units+16*k+200<cLine
def Room.mono(r:Room k A)(h:j<=k):Room j A:=(r.hd,by have:=r.dp;omega,by have:=r.un;omega,)
def Room.deeper(r:Room (k+1) A)(env:Env):Room k (A.deeper env):=
 (r.hd,by have:=r.dp;show A.depth+1+3*k+5<_;omega,by have:=r.un;show A.units+3+16*k+200<_;omega,)
def aP2{A:zv}:(A.under (.builtin "type.__call__" (.ref C::us,kw,))).depth=A.depth+1:=by first|rfl|simp[Around.under,Code.weight,Code.isCreation,Code.isGuard,Code.isCaller,Code.frames,Code.isFrame,guardIds]
def aP0{A:zv}:(A.under (.builtin "type.__call__" (.ref C::us,kw,))).units=A.units+1:=by first|rfl|simp[Around.under,Code.cUnits,Code.frames,Code.isFrame]
def Room.make(r:Room (k+1) A)(C:qw)(us:List qj)(kw:G (Str×qj)):Room k (A.under (.builtin "type.__call__" (.ref C::us,kw,))):=
 (r.hd,by have:=r.dp;rw[aP2];omega,by have:=r.un;rw[aP0];omega,)
def Room.depth(r:Room k A):A.depth<recursionLimit:=by have:=r.dp;omega
def Room.units(r:Room k A):A.units+64<cLine:=by have:=r.un;omega
def aFN:TA:=λ _ H Q=>Q [] H
def aZ7(ta:TE)(tr:TA):TA:=λ σ H Q=>ta σ H λ x H1=>tr σ H1 λ xs H2=>Q (x::xs) H2
def aMq:PA X [] aFN:=λ _ _ _ _ H Q I h=>Calls.spliced_nil ([],H,I,.nil,h,)
def aUT{te:TE}{t:TA}(ha:PE X e te)(hr:PA X es t)(hs:qo (e::es) X.env=(Ff,eval e X.env)::qo es X.env:=by rfl):PA X (e::es) (aZ7 te t):=by intro pos aB s σ H Q I h;rw[hs];show qu _ _ (spliced ((Ff,eval e X.env)::backTo pos (qo es X.env))) _ _ s;refine Calls.spliced_cons (bK (ha aB s σ H _ I h) λ u s1 hPq28=>?_);let(x,H1,I1,r1,q1):=hPq28;exact bK (hr pos aB s1 σ H1 _ I1 q1) λ us s2 ⟨xs,H2,I2,r2,q2⟩=>(x::xs,H2,I2,.cons r1 r2,q2,)
def bBH(t:TA):TE:=λ σ H Q=>t σ H λ xs H1=>↑xs<=qk/\∀ p,H1 p=qx->Q (.ref p) (bJ H1 p (.tup xs))
def aFY(t:TA):TE:=λ σ H Q=>t σ H λ xs H1=>↑xs<=qk/\∀ p,H1 p=qx->Q (.ref p) (bJ H1 p (.lst xs))
def aMt{t:TA}{x1}(h:PA X es t):PE X (.Tuple es x1 pos) (bBH t):=by intro aB s σ H Q I hq;refine wpAny_Tuple_spliced (bK (h pos aB s σ H _ I hq) λ us s1 ⟨xs,H1,I1,r,z,q⟩=>(by rw[<- r.length];exact z,?_,));let hf:H1 s1.heap.objs.size=qx:=I1.hok.fresh (yAd _);refine(.ref s1.heap.objs.size,bJ H1 s1.heap.objs.size (.tup xs),I1.laid (t':=s1.toks) (λ b u e=>hpS _ e) (yAd _) ?_,U,q _ hf,);exact(z,us,r,(_,xAd _ U,U,_,U,),)
def aE6{t:TA}(h:PA X es t):PE X (.List es pos) (aFY t):=by intro aB s σ H Q I hq;refine wpAny_List_spliced (bK (h pos aB s σ H _ I hq) λ us s1 ⟨xs,H1,I1,r,z,q⟩=>(by rw[<- r.length];exact z,?_,));let hf:H1 s1.heap.objs.size=qx:=I1.hok.fresh (yAd _);refine(.ref s1.heap.objs.size,bJ H1 s1.heap.objs.size (.lst xs),I1.laid (t':=s1.toks) (λ b u e=>hpS _ e) (yAd _) ?_,U,q _ hf,);exact(z,us,0,r,xAd _ U,)
abbrev Sp:=List V->Hp->VK->XK->Prop
abbrev nL:=List Env->Hp->qv->XK->qj->qv->Prop
structure Env0(P:zx)(w:zj)(K:FrG)(mg:Str->Option qj)(base:Heap)(A:zv)(outer:List Env)(s:qv)(H:Hp):Prop where
 frames:A.frames=J outer
 mod:Mod K mg base
 bs:∀ b o,base.get? b=J o->s.heap.get? b=J o/\H b=qx
 bsz:base.objs.size<=s.heap.objs.size
 funs:s.heap.FunFrames base outer
 frf:∀ b∈jQ outer,H b=qx
 hok:dE P w H s.heap
 bare:AllBare s.gens
def CE(outer:G Env)(P:zx)(w:zj)(H:Hp)(s:qv)(Q:VK)(u:qj)(s':qv):Prop:=
 ∃ v H',s'.os=s.os/\AllBare s'.gens/\Un (jQ outer) [] H H' s.heap s'.heap/\dE P w H' s'.heap/\bG v u/\Q v H'
def CR(CX:nL)(outer:G Env)(P:zx)(w:zj)(H:Hp)(s:qv)(Q:VK)(E:XK)(r:Result)(s':qv):Prop:=
 match r with
 |.ok (.ret u)=>CE outer P w H s Q u s'|.ok _=>False|.error e=>CX outer H s E e s'
structure FnOk(P:zx)(w:zj)(K:FrG)(mg:Str->Option qj)(base:Heap)(CX:nL)(k:Nat)(f:qw)(fd:vq)(ps:List Str)(sp:Sp):Prop where
 len:∀ vs H Q E,sp vs H Q E->↑vs=↑ps
 run:∀ (A:zv) (outer:List Env) (s:qv) (H:Hp) (args:Args) (us:List qj) (vs:List V) (Q:VK) (E:XK),Room k A->Env0 P w K mg base A outer s H->BindsTo s fd args (ps.zip us)->bI vs us->sp vs H Q E ->
  jo (model P w) A (.call (.ref f) args) (CR CX outer P w H s Q E) s
variable {K:FrG}
def Env0.make{mg:Str->Option qj}(e:Env0 P w K mg base A outer s H)(C:qw)(us:List qj)(kw:G (Str×qj)) :
 Env0 P w K mg base (A.under (.builtin "type.__call__" (.ref C::us,kw,))) outer s H:=(by first|exact e.frames|(simpa [Around.under,Code.envs,Code.isFrame,pushEnvs] using e.frames),e.mod,e.bs,e.bsz,e.funs,e.frf,e.hok,e.bare,)
section
variable {X:Cx}{aB:List (qw×Obj)}{σ:St}{H:Hp}{s s':qv}
def Inv.env0(I:Inv X aB σ H s):Env0 X.prog X.w X.K X.mg X.base X.A X.stack s H:=
 (I.ok.frames,I.ok.mod,I.bs,xAh I.ok.bsz I.sz,I.stack,I.stkFree,I.hok,I.bare,)
def Inv.after{Q:VK}(I:Inv X aB σ H s)(h:CE X.stack X.prog X.w H s Q u s'):EP X aB σ Q u s':=by let(v,H',os,bare,un,hok,r,q):=h;let(hh,g,d,t,os'):=s';obtain rfl:os'=s.os:=os;exact(v,H',I.call (h':=hh) (g':=g) (d':=d) (t':=t) (ch:=[]) un hok bare (λ b z=>absurd z (by simp)),r,q,)
end
def aCb(sp:Sp)(dvs:G V)(E:XK)(t:TA):TE:=λ σ H Q=>t σ H λ vs H1=>sp (vs++dvs) H1 Q E
def aMX(C:qw)(m:Str)(sp:Sp)(dvs:G V)(E:XK)(ta:TE)(t:TA):TE:=λ σ H Q=>ta σ H λ x H1=>∃ a dx fs,x=.ref a/\H1 a=J (.ins C dx fs)/\fs.lookup m=qx /\
 t σ H1 λ vs H2=>sp (x::(vs++dvs)) H2 Q E
def aM2(C:qw)(sp:Sp)(dvs:G V)(E:XK)(t:TA):TE:=λ σ H Q=>t σ H λ vs H1=>∀ x dx,H1 x=qx->H1 dx=qx->dx≠x ->
 sp (.ref x::(vs++dvs)) (bJ (bJ H1 dx (.own x)) x (.ins C dx [])) (λ v H2=>v=.non/\Q (.ref x) H2) E
def iH(K:FrG)(fd:vq)(ps:G Str)(ds:List qj):Prop:=
 ∀ (s:qv) (us:List qj),K.In s.heap->(us++ds).length=↑ps->BindsTo s fd ⟨us,[]⟩ (ps.zip (us++ds))
def iH.all{ps:G Str}(h:∀ us:List qj,↑us=↑ps->bindArgs fd ⟨us,[]⟩=pure (ps.zip us)):iH K fd ps []:=λ s us _ hl=>by
 rw[yBc] at hl ⊢;exact .of_eq (h us hl)
def rH(CX:nL)(X:Cx)(E:XK):Prop:=∀ (aB:G (qw×Obj)) (σ:St) (H:Hp) (s:qv) (e:qj) (s':qv),Inv X aB σ H s->CX X.stack H s E e s'->X.xe e s'
variable {X:Cx}
def aEA{E:XK}{Q:VK}(F:FnOk X.prog X.w X.K X.mg X.base CX k f fd ps sp)(hr:Room k X.A)(hb:iH X.K fd ps ds)(hd:bI dvs ds)(hx:rH CX X E)(I:Inv X aB σ H s)(r:bI vs us)(h:sp (vs++dvs) H Q E):qu (model X.prog X.w) X.A (call (.ref f) us) (EP X aB σ Q) X.xe s:=by
 let r2:bI (vs++dvs) (us++ds):=r.append hd;let hl:(us++ds).length=↑ps:=by rw[<- r2.length];exact F.len _ _ _ _ h
 refine wpAny_call (codeAny_mono (F.run X.A X.stack s H (us,[],) (us++ds) (vs++dvs) Q E hr I.env0 (hb s us I.kIn hl) r2 h) λ r s' hq=>?_);cases r with
 |error e=>exact hx aB σ H s e s' I hq
 |ok fl=>
   cases fl with
   |ret u=>exact I.after hq|next=>exact False.elim hq|brk=>exact False.elim hq|cont=>exact False.elim hq
def aUR{CX:nL}{k:Nat}{f:qw}{fd:vq}{ps:G Str}{sp:Sp}{dvs:G V}{ds:List qj}{E:XK}{x:Str}{p pos:Pos}{e:qy}{es:List qy}{t:TA}(F:FnOk X.prog X.w X.K X.mg X.base CX k f fd ps sp)(hr:Room k X.A)(hg:Gl X x)(hm:X.mg x=J (.ref f))(hk:yBp X.K (.ref f)=Z)(hb:iH X.K fd ps ds)(hd:bI dvs ds)(hx:rH CX X E)
 (ha:PA X (e::es) t) (hdb:(x==("__debug__" : Str))=Ff:=by decide) (he:qo (e::es) X.env=(Ff,eval e X.env)::qo es X.env:=by rfl) (hpl:(backTo pos (qo es X.env)).any (·.1)=Ff:=by rfl) :
 PE X (.Call (.Name x p) (e::es) [] pos) (aCb sp dvs E t):=by intro aB s σ H Q I h;refine xy (aBM I hg hm ?_ hdb);refine yHc (h₀:=X.base) I.ok.mod.kin hk (bK (ha pos aB s σ H _ I h) λ us s1 ⟨vs,H1,I1,r,q⟩=>(I1.kIn,?_,)) he hpl;exact aEA F hr hb hd hx I1 r q
def aRS{E:XK}(F:FnOk X.prog X.w X.K X.mg X.base CX k f fd ps sp)(hr:Room k X.A)(hg:Gl X x)(hm:X.mg x=J (.ref f))(hk:yBp X.K (.ref f)=Z)(hb:iH X.K fd ps ds)(hd:bI dvs ds)(hx:rH CX X E)(hdb:(x==("__debug__" : Str))=Ff:=by decide):PE X (.Call (.Name x p) [] [] pos) (aCb sp dvs E aFN):=by intro aB s σ H Q I h;refine xy (aBM I hg hm ?_ hdb);exact PySem.W.callWith_K0 I.kIn hk (aEA (us:=[]) F hr hb hd hx I .nil h)
def aVj{CX:nL}{k:Nat}{f C:qw}{fd:vq}{ps:G Str}{sp:Sp}{dvs:G V}{ds:List qj}{E:XK}{m:Str}{pos apos:Pos}{e o:qy}{es:List qy}{ta:TE}{t:TA}{pl:Sem Bool}(he:PE X o ta)(c:Cls X.K C)(hm:Meth X.K C m f)(F:FnOk X.prog X.w X.K X.mg X.base CX k f fd ps sp)(hr:Room k X.A)(hb:iH X.K fd ps ds)(hd:bI dvs ds)(hx:rH CX X E)(ha:PA X (e::es) t)
 (hst:qo (e::es) X.env=(Ff,eval e X.env)::qo es X.env:=by rfl) (hpl:(backTo pos (qo es X.env)).any (·.1)=Ff:=by rfl)
 (ht:eval (.Call (.Attribute o m apos) (e::es) [] pos) X.env=(do
   let ov <- eval o X.env
   standAt apos.atName
   let (f,first) <- holding [ov] (getMethod ov m pl)
   callWith pos f first (backTo pos (qo (e::es) X.env)) (backToKw pos (keywordEach [] X.env))):=by rfl) :
 PE X (.Call (.Attribute o m apos) (e::es) [] pos) (aMX C m sp dvs E ta t):=by intro aB s σ H Q I h;refine PySem.W.methodCall_KW (pl:=pl) (bK (he aB s σ H _ I h) λ u s1 hPq29=>?_) ht;let(x,H1,I1,rx,a,dx,fs,ex,ea,l,q):=hPq29;subst ex;obtain rfl:u=Value.ref a:=rx;refine aPT I1 ea c hm l ?_;refine yHc (first:=[.ref a]) (h₀:=X.base) I.ok.mod.kin hm.kp (bK (ha pos aB s1 σ H1 _ I1 q) λ us s2 ⟨vs,H2,I2,r,q2⟩=>(I2.kIn,?_,)) hst hpl;exact aEA (us:=.ref a::us) (vs:=.ref a::vs) F hr hb hd hx I2 (.cons U r) q2
structure Mk(K:FrG)(C f:qw):Prop where
 makes:yHw K C=Z
 init:yBn K (.ref C) "__init__" = J (J (.ref f))
 fn:yHb K (.ref f)=Z
 kp:yBp K (.ref C)=Z
def aSE{E:XK}{Q:VK}(M:Mk X.K C f)(F:FnOk X.prog X.w X.K X.mg X.base CX k f fd ps sp)(hr:Room (k+1) X.A)(hb:iH X.K fd ps ds)(hd:bI dvs ds)(hx:rH CX X E)(I:Inv X aB σ H s)(r:bI vs us)(h:∀ x dx,H x=qx->H dx=qx->dx≠x->sp (.ref x::(vs++dvs)) (bJ (bJ H dx (.own x)) x (.ins C dx [])) (λ v H2=>v=.non/\Q (.ref x) H2) E) :
 qu (model X.prog X.w) X.A (call (.ref C) us) (EP X aB σ Q) X.xe s:=by
 let hq:=h (s.heap.objs.size+1) s.heap.objs.size (I.hok.fresh (yGg _)) (I.hok.fresh (yAd _)) (xAj (yFm _));let I2:=Inv.made (C:=C) I;let r2:bI (V.ref (s.heap.objs.size+1)::(vs++dvs)) (Value.ref (s.heap.objs.size+1)::(us++ds)):=.cons U (r.append hd);let hl:(Value.ref (s.heap.objs.size+1)::us++ds).length=↑ps:=by
  let e:=r2.length;rw[F.len _ _ _ _ hq] at e;exact e.symm
 refine wpAny_call (aSU (f:=f) I.kIn M.makes M.init (beq_iff_eq.mp M.fn) (codeAny_mono (F.run _ X.stack _ _ (Value.ref (s.heap.objs.size+1)::us,[],) (Value.ref (s.heap.objs.size+1)::(us++ds)) _ _ E (hr.make C us [])
  (I2.env0.make C us []) (hb _ (Value.ref (s.heap.objs.size+1)::us) I2.kIn hl) r2 hq) λ r s' hq'=>?_))
 cases r with
 |error e=>exact hx aB σ _ _ e s' I2 hq'
 |ok fl=>
   cases fl with
   |ret u=>
     let(v,H',I3,rv,ev,q3):=I2.after hq';subst ev;exact(rv,(V.ref (s.heap.objs.size+1),H',I3,U,q3,),)
   |next=>exact False.elim hq'|brk=>exact False.elim hq'|cont=>exact False.elim hq'
def aVg{CX:nL}{k:Nat}{f C:qw}{fd:vq}{ps:G Str}{sp:Sp}{dvs:G V}{ds:List qj}{E:XK}{x:Str}{p pos:Pos}{e:qy}{es:List qy}{t:TA}(M:Mk X.K C f)(F:FnOk X.prog X.w X.K X.mg X.base CX k f fd ps sp)(hr:Room (k+1) X.A)(hg:Gl X x)(hm:X.mg x=J (.ref C))(hb:iH X.K fd ps ds)(hd:bI dvs ds)(hx:rH CX X E)
 (ha:PA X (e::es) t) (hdb:(x==("__debug__" : Str))=Ff:=by decide) (he:qo (e::es) X.env=(Ff,eval e X.env)::qo es X.env:=by rfl) (hpl:(backTo pos (qo es X.env)).any (·.1)=Ff:=by rfl) :
 PE X (.Call (.Name x p) (e::es) [] pos) (aM2 C sp dvs E t):=by intro aB s σ H Q I h;refine xy (aBM I hg hm ?_ hdb);refine yHc (h₀:=X.base) I.ok.mod.kin M.kp (bK (ha pos aB s σ H _ I h) λ us s1 ⟨vs,H1,I1,r,q⟩=>(I1.kIn,?_,)) he hpl;exact aSE M F hr hb hd hx I1 r q
structure KBinds(K:FrG)(fd:vq)(ps ks:List Str)(g:List qj->List qj->List qj)(gV:List V->List V->List V):Prop where
 to:∀ (s:qv) (us ws:List qj),K.In s.heap->(g us ws).length=↑ps->BindsTo s fd ⟨us,ks.zip ws⟩ (ps.zip (g us ws))
 rel:∀ {vs:List V}{us:List qj}{zs:List V}{ws:List qj},bI vs us->bI zs ws->bI (gV vs zs) (g us ws)
structure FnScope(N P:List Str)(sc:zw):Prop where
 kind:sc.kind=.function
 co:sc.isCoroutine=Ff
 gen:sc.isGenerator=Ff
 nd:N.Nodup
 pre:N.take P.length=P
 par:∀ x∈P,sc.names.lookup x=J .local\/sc.names.lookup x=J .cell
 nofree:∀ y∈sc.names,y.2≠.free
def aIG{kindOf:Str->Option jk}:∀ {binds:G (Str×qj)}{m:Str->Option qj},(∀ v,(x,v) ∉ binds)->bindL kindOf binds m x=m x
 |[],_,_=>rfl
 |(n,v)::r,m,h=>by
   unfold bindL;rw[aIG λ w hw=>h w (xAf _ hw)];split
   .have:x≠n:=by rintro rfl;exact h v xAc
    simp[this]
   .rfl
def aH5{kindOf:Str->Option jk}:∀ {binds:G (Str×qj)}{m:Str->Option qj},(∀ v,(x,v) ∉ binds)->bindC kindOf binds m x=m x
 |[],_,_=>rfl
 |(n,v)::r,m,h=>by
   unfold bindC;rw[aH5 λ w hw=>h w (xAf _ hw)];split
   .rfl
   grind
def aIl{kindOf:Str->Option jk}:∀ {P:G Str}{vs:List qj}{i:Nat}{m:Str->Option qj},P.Nodup->P[i]?=J x->vs[i]?=J v->kindOf x=J .local ->
 bindL kindOf (P.zip vs) m x=J v
 |[],_,_,_,_,h,_,_=>by simp at h|_::_,[],_,_,_,_,h,_=>by simp at h
 |p::P,w::vs,0,m,nd,h1,h2,hk=>by
   simp at h1 h2;subst h1;subst h2;show bindL kindOf ((p,w)::P.zip vs) m p=_;unfold bindL;rw[aIG λ v hv=>(List.nodup_cons.mp nd).1 (List.of_mem_zip hv).1,if_pos hk];simp
 |p::P,w::vs,i+1,m,nd,h1,h2,hk=>by
   show bindL kindOf ((p,w)::P.zip vs) m x=_;unfold bindL;exact aIl (i:=i) (List.nodup_cons.mp nd).2 (h1:) (h2:) hk
def aIr{kindOf:Str->Option jk}:∀ {P:G Str}{vs:List qj}{i:Nat}{m:Str->Option qj},P.Nodup->P[i]?=J x->vs[i]?=J v->kindOf x≠J .local ->
 bindC kindOf (P.zip vs) m x=J v
 |[],_,_,_,_,h,_,_=>by simp at h|_::_,[],_,_,_,_,h,_=>by simp at h
 |p::P,w::vs,0,m,nd,h1,h2,hk=>by
   simp at h1 h2;subst h1;subst h2;show bindC kindOf ((p,w)::P.zip vs) m p=_;unfold bindC;rw[aH5 λ v hv=>(List.nodup_cons.mp nd).1 (List.of_mem_zip hv).1,if_neg hk];simp
 |p::P,w::vs,i+1,m,nd,h1,h2,hk=>by
   show bindC kindOf ((p,w)::P.zip vs) m x=_;unfold bindC;exact aIr (i:=i) (List.nodup_cons.mp nd).2 (h1:) (h2:) hk
def start(N:G Str)(vs:G V):St:=vs.map J++yAg (N.length-↑vs) qx
def vG(CX:nL)(P:zx)(w:zj)(K:FrG)(mg:Str->Option qj)(base:Heap)(N:G Str)(qual:Str)(scope:zw)(f:qw)(cd:qj)(A:zv)(outer:G Env)(s:qv)(H:Hp)(E:XK):Cx where
 prog:=P
 w:=w
 K:=K
 mg:=mg
 base:=base
 A:=A.deeper (envOfC qual scope s.heap.objs.size f cd)
 N:=N
 s₀:=s
 H₀:=H
 env:=envOfC qual scope s.heap.objs.size f cd
 outer:=outer
 stack:=envOfC qual scope s.heap.objs.size f cd::outer
 ex:=[]
 calm:=Z
 fn:=λ _=>Z
 pn:=[]
 xe:=λ e s'=>qu (model P w) (A.deeper (envOfC qual scope s.heap.objs.size f cd)) (leaving (envOfC qual scope s.heap.objs.size f cd) e) (λ _ s''=>CX outer H s E e s'') (λ e' s''=>CX outer H s E e' s'') s'
def aJG{sc:zw}(h:sc.names.lookup x=J .cell):∃ c,(cellsFrom n sc.names []).lookup x=J c:=by let q:=PySem.W.cellsFrom_some sc.names n [] (.inl h);exact Option.isSome_iff_exists.mp q
def aQ0{mg:Str->Option qj}{A:zv}{E:XK}{vs:G V}(S:FnScope N ps scope)(hd:A.handled=qx)(e0:Env0 P w K mg base A outer s H)(hl:↑vs=↑ps)(r:bI vs us)(x:InCallC s s.heap.objs.size (bindL (envOfC qual scope s.heap.objs.size f cd).kindOf (ps.zip us) λ _=>qx) (cellsFrom (s.heap.objs.size+1) scope.names []) (bindC (envOfC qual scope s.heap.objs.size f cd).kindOf (ps.zip us) λ _=>qx) s1) :
 Inv (vG CX P w K mg base N qual scope f cd A outer s H E) [] (start N vs) H s1:=by
 let hpl:↑ps<=N.length:=by have:=congrArg yFp S.pre;rw[yBl] at this;omega
 let(h1,tk,U,hk):=x.done;let noA:∀ b:qw,b ∉ (vG CX P w K mg base N qual scope f cd A outer s H E).ex:=λ b z=>absurd (show b∈([]:List qw) from z) (by simp)
 refine⟨(e0.mod,S.kind,U,U,yAd _,λ y z c h1 h2=>?_,λ y hy=>?_,λ y c _ h=>?_,λ _=>hd,Around.frames_deeper e0.frames,.inr (U,U,),λ b z=>absurd z (noA b),e0.bs,e0.bsz,λ b _ _=>noA b,λ b z=>absurd z (noA b),e0.funs,e0.frf,),
  rfl,e0.bare,Un.kept hk,(_,x.toInCall.ns,λ i y v h1 h2 h3=>?_,),λ y c h=>(_,x.cell y c h,),e0.hok.fresh (yAd _),λ y c h=>?_,λ p hp=>absurd (show p∈([]:G (qw×Obj)) from hp) (by simp),e0.hok.kept hk,?_⟩
 .exact name_of_addr x.apart (PySem.mem_of_lookup h1) (PySem.mem_of_lookup h2)
 .have hy:scope.names.lookup y=J .cell\/scope.names.lookup y=J .free:=hy;rcases hy with hy|hy
  .exact aJG hy
  .exact absurd U (S.nofree _ (PySem.mem_of_lookup hy))
 .exact yCv (x.above y c (PySem.mem_of_lookup h))
 .have hi:i<↑vs:=by
   unfold start at h2;by_cases hi:i<↑vs
   .exact hi
   .rw[yAh (hi:)] at h2;rw[yEp] at h2;split at h2<;>cases h2
  let ha:vs[i]?=J v:=by
   unfold start at h2;rw[xAm (hi:),yAe] at h2;simp_all
  let(u,hu,rv):=r.get ha;let hp:ps[i]?=J y:=by
   rw[<- S.pre,yDa (!_)];exact h1
  let ndP:ps.Nodup:=by rw[<- S.pre];exact S.nd.sublist (List.take_sublist _ _)
  refine(u,rv,?_,);rcases S.par y (xAk hp) with k|k
  .exact .inl (k,aIl ndP hp hu k,)
  .let(c,e):=aJG (n:=s.heap.objs.size+1) k;refine .inr (.inl k,c,e,?_,);let q:=x.cell y c e;rw[aIr ndP hp hu (by show scope.names.lookup y≠_;rw[k];decide)] at q;exact q
 .exact e0.hok.fresh (yCv (x.above y c (PySem.mem_of_lookup h)))
 .unfold start;show _=N.length;rw[xAn,yAf,yCg];omega
def aZm{mg:Str->Option qj}{dV kV:qj}(lk:K.lookup f=qz (oc,od,.func (yCh name qual params body scope dV kV doc pm an cdv ct),osl,))(hcd:yDl K cdv qual=Z)(S:FnScope N ps scope)(len:∀ vs H Q E,sp vs H Q E->↑vs=↑ps)(hbody:∀ (A:zv) (outer:G Env) (s:qv) (H:Hp) (vs:G V) (Q:VK) (E:XK),Room k (A.deeper (envOfC qual scope s.heap.objs.size f cdv))->sp vs H Q E ->
   ∃ t,eG (vG CX P w K mg base N qual scope f cdv A outer s H E) body t/\t {nx:=λ _ H'=>Q .non H',rt:=Q } (start N vs) H) :
 FnOk P w K mg base CX (k+1) f (yCh name qual params body scope dV kV doc pm an cdv ct) ps sp:=by
 refine(len,λ A outer s H args us vs Q E hr e0 hb r hsp=>?_,);let hl:=len _ _ _ _ hsp;let KX:K.In s.heap:=e0.mod.kin.keeps λ b o e=>(e0.bs b o e).1
 let lim:s.heap.NoLimit:=e0.mod.nolimit.keeps λ b o e=>(e0.bs b o e).1
 let hkind:∀ y∈ps.zip us,scope.names.lookup y.1=qz .local\/(scope.names.lookup y.1=qz .cell/\((cellsFrom (s.heap.objs.size+1) scope.names []).lookup y.1).isSome=Z):=λ bB hy=>by
  let(n,v):=bB;rcases S.par n (List.of_mem_zip hy).1 with q|q
  .exact .inl q
  .exact .inr (q,PySem.W.cellsFrom_some _ _ _ (.inl q),)
 refine codeAny_call_function hr.depth (KX _ _ lk) U S.co S.gen U (PySem.W.codeRec_of KX hcd) (hb _ _ _ _ ?_);refine wpAny_newFunctionEnv_cells S.kind hkind λ env he s1 x=>?_
 subst he;refine(lim.keeps x.toInCall.keep,codeAny_func ?_,);let(t,ht,hq):=hbody A outer s H vs Q E (hr.deeper _) hsp;let I:Inv (vG CX P w K mg base N qual scope f cdv A outer s H E) [] (start N vs) H s1:=aQ0 S hr.hd e0 hl r x;refine wpAny_mono (ht [] s1 (start N vs) H _ I hq) (λ fl s' hs=>?_) λ e s' hs=>hs
 let dA:∀ {σ':St}{H':Hp}{v:V}{u:qj},Inv (vG CX P w K mg base N qual scope f cdv A outer s H E) [] σ' H' s'->bG v u->Q v H'->CE outer P w H s Q u s':=
  λ {σ' H' v u} J rv q=>(v,H',J.os,J.bare,J.base,J.hok,rv,q,)
 cases fl with
 |ret u=>
   let(v,σ',H',J,rv,q):=hs;exact dA J rv q
 |next=>
   let(σ',H',J,q):=hs;exact dA (v:=V.non) (u:=Value.none) J U q
 |brk=>
   let(_,_,_,q):=hs;exact False.elim q
 |cont=>
   let(_,_,_,q):=hs;exact False.elim q
end L2
namespace L2
open PySem PySem.Spec PyProof.Rows
def tCB(r:G V->Hp->VK->Prop)(t:TA):TE:=λ σ H Q=>t σ H λ vs H1=>r vs H1 Q
def wT{X:Cx}{x:Str}{p pos:Pos}{e:qy}{es:List qy}{t:TA}{id:String}{r:G V -> Hp -> VK -> Prop}(hc:iB X (.builtin id) r)(hg:Gl X x)(hm:X.mg x=qx)(hv:vv x=J (.builtin id))(ha:PA X (e::es) t)(hn:x ≠ "__name__":=by decide)(hdb:(x==("__debug__" : Str))=Ff:=by decide)
 (he:qo (e::es) X.env=(Ff,eval e X.env)::qo es X.env:=by rfl) (hpl:(backTo pos (qo es X.env)).any (·.1)=Ff:=by rfl):PE X (.Call (.Name x p) (e::es) [] pos) (tCB r t):=by intro aB s σ H Q I h;refine xy (oE I hg hm hv ?_ hn hdb);exact PyProof.Rows.callWith_builtin1 (bK (ha pos aB s σ H _ I h) λ us s1 ⟨vs,H1,I1,r1,q1⟩=>hc aB s1 σ H1 vs us Q I1 r1 q1) he hpl
def aIx{X:Cx}{x:Str}{p pos:Pos}{e:qy}{es:List qy}{t:TA}{T:String}{r:G V -> Hp -> VK -> Prop}(hc:iB X (.type T) r)(hg:Gl X x)(hm:X.mg x=qx)(hv:vv x=J (.type T))(ha:PA X (e::es) t)(hn:x ≠ "__name__":=by decide)(hdb:(x==("__debug__" : Str))=Ff:=by decide)
 (he:qo (e::es) X.env=(Ff,eval e X.env)::qo es X.env:=by rfl) (hpl:(backTo pos (qo es X.env)).any (·.1)=Ff:=by rfl):PE X (.Call (.Name x p) (e::es) [] pos) (tCB r t):=by intro aB s σ H Q I h;refine xy (oE I hg hm hv ?_ hn hdb);exact yBb (bK (ha pos aB s σ H _ I h) λ us s1 ⟨vs,H1,I1,r1,q1⟩=>hc aB s1 σ H1 vs us Q I1 r1 q1) he hpl
end L2
namespace HT
open PySem PyProof.Rows
section
open PySem.SeqAt
open PySem.AutoSeq1 (wpAny_loadPart')
open PySem.MeetsSeq PySem.MeetsSeq2 PySem.MeetsSeq3
end
def cat_tup{E:qj -> qv -> Prop}{s:qv}{vs ws:List qj}{Q:qj->qv->Prop}(ht:IsTup s.heap t vs.toArray)(hb:IsTup s.heap b ws.toArray)(hv:vs≠[])(h1:ws=[]->Q (.ref t) s)(h2:ws≠[]->Q (.ref s.heap.objs.size) {s with heap:=s.heap.push {cls:=.type "tuple",data:=.seq (vs++ws).toArray } })(hsz:↑vs+↑ws<=qk):qu (model prog w) A (zu .Add (.ref t) (.ref b)) Q E s:=by
 let((cls,dd,data,sl),ho,hc,n,hd):=id ht;let((cls2,dd2,data2,sl2),ho2,hc2,n2,hd2):=id hb;simp only at hc hd hc2 hd2;subst hc hd hc2 hd2;let e:vs.toArray++ws.toArray=(vs++ws).toArray:=by simp
 by_cases hw:ws=[]
 .exact concat_meets (_,ho,U,) (_,ho2,U,) noFill_tuple_add seq_tuple_add yGd yFv (yFs _ _)
   (tuple_addW1 t b vs.toArray ws.toArray n n2 dd dd2 sl sl2 (hv:) (by simp[hw])) (ho,ho2,h1 hw,)
 .refine concat_meets (_,ho,U,) (_,ho2,U,) noFill_tuple_add seq_tuple_add yGd yFv (yFs _ _)
   (tuple_addW2 t b vs.toArray ws.toArray n n2 dd dd2 sl sl2 (hv:) (hw:) (by rw[yAj,yAj];exact hsz)) (ho,ho2,?_,)
  rw[e];exact h2 hw
def sIx(n d:Nat):Oz Int->Nat
 |none=>d
 |some v=>if v<0 then (v+(n:Int)).toNat else min v.toNat n
def sIx_none(n d:Nat):sIx n d qx=d:=rfl
def sIx_nat(n d k:Nat):sIx n d (J (k:Int))=min k n:=by show(if (k:Int)<0 then ((k:Int)+(n:Int)).toNat else min (k:Int).toNat n)=min k n;rw[if_neg (!_),yAt]
def aWg(n d:Nat)(hd:d<=n)(o:Oz Int):sIx n d o<=n:=by
 cases o with
 |none=>exact hd
 |some v=>
   show(if v<0 then (v+(n:Int)).toNat else min v.toNat n)<=n;by_cases hv:v<0
   .rw[if_pos hv];omega
   .rw[if_neg hv];exact yDd _ _
def aKg(v:Int)(n d:Nat):(if v<0 then max (v+(n:Int)) 0 else min v (n:Int))=((sIx n d (J v):Nat):Int):=by
 show(if v<0 then max (v+(n:Int)) 0 else min v (n:Int))=(((if v<0 then (v+(n:Int)).toNat else min v.toNat n):Nat):Int);by_cases hv:v<0
 .simp only[if_pos hv];omega
 .simp only[if_neg hv];omega
def aQj(lo hi:Oz Int)(n:Nat):yFj lo hi 1 (n:Int)=(((sIx n 0 lo:Nat):Int),((sIx n n hi:Nat):Int)):=by
 let h1:¬ ((1:Int)<0):=by omega
 unfold yFj;simp only[h1,if_false];refine Prod.ext ?_ ?_
 .cases lo with|none=>rfl|some v=>exact aKg v n 0
 .cases hi with|none=>rfl|some v=>exact aKg v n n
def aQm(i j:Nat):yEd (i:Int) (j:Int) 1=j-i:=by
 unfold yEd;let h1:(1:Int)>0:=by omega
 simp only[h1,if_true,Int.ediv_one];split<;>omega
def aH3{E:qj -> qv -> Prop}{Q:Oz Int->qv->Prop}(p:IsPart v o)(h:Q o s):qu (model prog w) A (Builtin.Slice.slicePartIndex v) Q E s:=by
 cases p with
 |none=>exact slicePart_none h|int i t=>exact slicePart_int h
def sliceApplied_gen{E:qj -> qv -> Prop}{s:qv}{lo hi:Oz Int}{Q:Int×Int×Nat->qv->Prop}(hs:s.heap.IsSliceOf sl vl vu .none)(pl:IsPart vl lo)(pu:IsPart vu hi)(h:Q (((sIx n 0 lo:Nat):Int),1,sIx n n hi-sIx n 0 lo) s):qu (model prog w) A (yGw (.ref sl) (pure (n:Int))) Q E s:=by let(os,hos,hcs,hds):=id hs;unfold yGw Builtin.Slice.sliceFields;refine wB (wB (xq hos hds (x:=vl) U (wB (xq hos hds (x:=vu) U (wB (xq hos hds (x:=.none) U (wP ?_)))))));refine wB (slicePart_none ?_);show qu _ _ (if ((1:Int)==0)=Z then _ else _) _ _ s;rw[if_neg (·)];refine wB (aH3 pl (wB (aH3 pu (wB (wP ?_)))));show qu _ _ (match yFj lo hi 1 (n:Int) with|(lo,hi)=>pure (lo,(1:Int),yEd lo hi 1)) _ _ s;rw[aQj lo hi n];show qu _ _ (pure (((sIx n 0 lo:Nat):Int),(1:Int),yEd ((sIx n 0 lo:Nat):Int) ((sIx n n hi:Nat):Int) 1)) _ _ s;rw[aQm];exact wP h
def aSb(xs:Array qj)(i k:Nat):((yBk k).filterMap λ(m:Nat)=>xs[((i:Int)+(m:Int)*1).toNat]?).toArray=((xs.toList.drop i).take k).toArray:=by
 let e:(λ(m:Nat)=>xs[((i:Int)+(m:Int)*1).toNat]?)=λ m=>xs[i+m]?:=by
  funext m;have:((i:Int)+(m:Int)*1).toNat=i+m:=by omega
  rw[this]
 rw[e];have:=pick_run xs i k;rw[List.filterMap_map] at this;let e2:((λ x=>xs[x]?) ∘ λ x=>i+x)=λ m=>xs[i+m]?:=rfl
 rw[e2] at this;rw[this]
def getItem_tuple_cut{E:qj -> qv -> Prop}{s:qv}{lo hi:Oz Int}{Q:qj->qv->Prop}(ht:IsTup s.heap t bD)(hs:s.heap.IsSliceOf sl vl vu .none)(pl:IsPart vl lo)(pu:IsPart vu hi)(hw:¬ (sIx bD.size 0 lo=0/\sIx bD.size bD.size hi=bD.size))(h:Q (.ref s.heap.objs.size) {s with heap:=s.heap.push {cls:=.type "tuple",data:=.seq ((bD.toList.drop (sIx bD.size 0 lo)).take (sIx bD.size bD.size hi-sIx bD.size 0 lo)).toArray } })(hsz:bD.size<=qk):qu (model prog w) A (getItem (.ref t) (.ref sl)) Q E s:=by
 let htake:sizeOk (.seq ((bD.toList.drop (sIx bD.size 0 lo)).take (sIx bD.size bD.size hi-sIx bD.size 0 lo)).toArray):=by
  show((bD.toList.drop (sIx bD.size 0 lo)).take (sIx bD.size bD.size hi-sIx bD.size 0 lo)).toArray.size<=qk;rw[yAj,yBl,yHr,Array.length_toList];omega
 let hj:sIx bD.size bD.size hi<=bD.size:=aWg _ _ (yAd _) hi;let(os,hos,hcs,hds):=id hs;let hTs:s.TypeIs (.ref sl) "slice":=(os,hos,hcs,);unfold getItem
 try with_reducible refine zk ?_
 first|refine wB (wP ?_)|skip
 refine wB (wpAny_sequenceKey ht.typeIs (·) ?_)
 refine wB (wpAny_callSpecial?_slot (name:=Str.ofString "__getitem__") ht.typeIs yCq
  (jq yCq ht.typeIs entry_tuple_getitem ?_ (args_tuple_getitem _ _)))
 show qu _ _ (yGx (.ref t) >>= _) _ _ s;refine wB (tupleItemsOf_ ht ?_);refine wB (wpAny_typeOf hTs ?_);rw[if_pos (·)];refine wB (sliceApplied_gen hs pl pu ?_);let hno:¬ ((((sIx bD.size 0 lo:Nat):Int)==0&&(1:Int)==1&&(sIx bD.size bD.size hi-sIx bD.size 0 lo)==bD.size)=Z):=by
  simp_all
 show qu _ _ (if (((sIx bD.size 0 lo:Nat):Int)==0&&(1:Int)==1&&(sIx bD.size bD.size hi-sIx bD.size 0 lo)==bD.size)=Z then _ else _) _ _ s;rw[if_neg hno,aSb]
 first
  |exact wB (m:=yDb _) (xj (wP (_,U,wP h,)) htake)
  |exact wB (m:=yDb _) (xj (wB (wP (wP (_,U,wP h,)))) htake)
  |exact wB (wB (m:=yDb _) (xj (wP (wP (_,U,wP h,))) htake))
  |exact wB (wB (m:=yDb _) (xj (wP (_,U,wP h,)) htake))
end HT
namespace L2
open PySem PySem.Spec PyProof.Rows
abbrev TO:=St->Hp->(Option Int->Hp->Prop)->Prop
def PO(X:Cx)(e:Option qy)(t:TO):Prop:=
 ∀ (aB:G (qw×Obj)) (s:qv) (σ:St) (H:Hp) (Q:Oz Int->Hp->Prop),Inv X aB σ H s->t σ H Q ->
  qu (model X.prog X.w) X.A (evalPart e X.env) (λ u s'=>∃ o H',Inv X aB σ H' s'/\IsPart u o/\Q o H') X.xe s
def aUU:TO:=λ _ H Q=>Q qx H
def aZP(t:TE):TO:=λ σ H Q=>t σ H λ x H1=>∃ i,x=.int i/\Q (J i) H1
def aPK{ns:G Int}:∀ {us:List qj},bI (ns.map V.int) us->IntsAre us ns:=by
 induction ns with
 |nil=>intro us r;rw[yEy] at r;cases r;exact .nil
 |cons n ns ih=>
   intro us r;rw[yAm] at r;cases r with
   |cons r1 r2=>
     let(t,e):=r1;subst e;exact .cons n t (ih r2)
def aUs:PO X qx aUU:=by intro aB s σ H Q I h;rw[evalPart_none];exact wP (qx,H,I,.none,h,)
def aUA{te:TE}(h:PE X e te):PO X (J e) (aZP te):=by
 intro aB s σ H Q I hw;rw[evalPart_some];refine bK (h aB s σ H _ I hw) λ u s1 hPq30=>?_
 let(x,H1,I1,r1,q1):=hPq30;let(i,U,q):=q1;let(t,U):=r1;exact(J i,H1,I1,.int i t,q,)
def SlR(X:Cx)(r:V->Oz Int->Oz Int->Hp->VK->Prop):Prop:=
 ∀ (aB:G (qw×Obj)) (s:qv) (σ:St) (H:Hp) (x:V) (v vl vu:qj) (lo hi:Oz Int) (sl:qw) (Q:VK),Inv X aB σ H s->bG x v->s.heap.IsSliceOf sl vl vu .none->IsPart vl lo->IsPart vu hi->r x lo hi H Q ->
  ∃ T id,typeLookup (.type T) "__getitem__" = pure (J (.builtin id))/\s.TypeIs v T/\qu (model X.prog X.w) X.A (getItem v (.ref sl)) (EP X aB σ Q) X.xe s
def tSl(r:V->Oz Int->Oz Int->Hp->VK->Prop)(te:TE)(tl th:TO):TE:=λ σ H Q=>te σ H λ x H1=>tl σ H1 λ l H2=>th σ H2 λ u H3=>r x l u H3 Q
def aJe{te:TE}{lo hi:Option qy}{r:V->Oz Int->Oz Int->Hp->VK->Prop}(hr:SlR X r)(he:PE X e te)(hl:PO X lo tl)(hu:PO X hi th):PE X (.Subscript e (.Slice lo hi qx p2) pos) (tSl r te tl th):=by
 intro aB s σ H Q I h;refine Subscript_ (bK (he aB s σ H _ I h) λ v s1 hPq31=>?_);let(x,H1,I1,r1,q1):=hPq31;refine wpAny_Slice (bK (hl aB s1 σ H1 _ I1 q1) λ vl s2 ⟨l,H2,I2,pl,q2⟩=>bK (hu aB s2 σ H2 _ I2 q2) λ vu s3 hPq32=>?_);let(u,H3,I3,pu,q3):=hPq32;rw[evalPart_none];refine wP ?_;let I4:Inv X aB σ H3 {s3 with heap:=s3.heap.push {cls:=.type "slice",data:=.fields #[vl,vu,.none] } }:=I3.kept (t':=s3.toks) λ b ob q=>hpS _ q
 let(T,id,hT,ht,hg):=hr aB {s3 with heap:=s3.heap.push {cls:=.type "slice",data:=.fields #[vl,vu,.none] } } σ H3 x v vl vu l u s3.heap.objs.size Q I4 r1 (Heap.IsSliceOf.new ..) pl pu q3;show qu (model X.prog X.w) X.A (subscriptTail e (.Slice lo hi qx p2) v (.ref s3.heap.objs.size)) (EP X aB σ Q) X.xe {s3 with heap:=s3.heap.push {cls:=.type "slice",data:=.fields #[vl,vu,.none] } };exact tail_any (ops:=[.ref s3.heap.objs.size,v]) ht hT hg (by with_unfolding_all rfl)
def oS(xs:G V)(lo hi:Oz Int):G V:=(xs.drop (HT.sIx ↑xs 0 lo)).take (HT.sIx ↑xs ↑xs hi-HT.sIx ↑xs 0 lo)
def aHu(xs:G V)(lo hi:Oz Int):(oS xs lo hi).length<=↑xs:=by unfold oS;rw[yBl,yHr];omega
def bBn(K:FrG):V->Oz Int->Oz Int->Hp->VK->Prop:=λ x lo hi H Q=>∃ a xs,x=.ref a/\cK K H a xs /\
 ¬ (HT.sIx ↑xs 0 lo=0/\HT.sIx ↑xs ↑xs hi=↑xs)/\∀ p,H p=qx->Q (.ref p) (bJ H p (.tup (oS xs lo hi)))
def aWn:SlR X (bBn X.K):=by
 intro aB s σ H x v vl vu lo hi sl Q I rx hs pl pu h;let(a,xs,U,hx,hw,q):=h;cases rx;let(aK,r,ht,hz):=I.tuple hx;let cW:aK.toArray.size=↑xs:=by rw[yAj];exact r.length.symm
 refine("tuple",_,PyProof.Rows.slot_tuple_getitem.lookup,ht.typeIs,?_,);refine HT.getItem_tuple_cut ht hs pl pu (by rw[cW];exact hw) ?_ (by rw[cW];exact hz);rw[cW];refine(.ref s.heap.objs.size,_,I.laid (t':=s.toks) (o:=.tup (oS xs lo hi)) (λ b ob q=>hpS _ q) (yAd _) ?_,U,q _ (I.hok.fresh (yAd _)),);exact(xAh (aHu xs lo hi) hz,_,(r.drop (HT.sIx ↑xs 0 lo)).take (HT.sIx ↑xs ↑xs hi-HT.sIx ↑xs 0 lo),IsTup.new _ _,)
def bAC(K:FrG):R2:=λ x y H Q=>∃ a b xs ys,x=.ref a/\y=.ref b/\cK K H a xs/\cK K H b ys/\xs≠[]/\↑xs+↑ys<=qk /\
 (ys=[]->Q (.ref a) H)/\(ys≠[]->∀ p,H p=qx->Q (.ref p) (bJ H p (.tup (xs++ys))))
def bI.nil_iff{xs:G V}(r:bI xs us):us=[] ↔ xs=[]:=by
 cases r with
 |nil=>simp|cons _ _=>simp
def aTo:eN X (zu .Add) (bAC X.K):=by intro aB s σ H x y v u Q I rx ry h;let(a,b,xs,ys,U,U,ha,hb,hx,hz,q1,q2):=h;cases rx;cases ry;let(aK,r1,p1,_):=I.tuple ha;let(wA,r2,p2,_):=I.tuple hb;refine HT.cat_tup p1 p2 (λ z=>hx (r1.nil_iff.mp z)) (λ z=>(.ref a,H,I,U,q1 (r2.nil_iff.mp z),)) (λ z=>?_) (by rw[<- r1.length,<- r2.length];exact hz);refine(.ref s.heap.objs.size,_,I.laid (t':=s.toks) (o:=.tup (xs++ys)) (λ b ob q=>hpS _ q) (yAd _) ?_,U,q2 (λ w=>z (r2.nil_iff.mpr w)) _ (I.hok.fresh (yAd _)),);exact(by rw[xAn];exact hz,_,r1.append r2,IsTup.new _ _,)
end L2
namespace L2
open PySem PySem.Spec PyProof.Rows
def kF(n:Nat)(i:Int):Oz Nat:=if 0<=i then (if i<n then J i.toNat else qx) else if -(n:Int)<=i then J (i+n).toNat else qx
def pI{α:Type}(xs:List α)(i:Int):Option α:=(kF ↑xs i).bind λ j=>xs[j]?
def aJ2{i:Int}(h:kF n i=J j):seqIndex? i n=J j/\j<n /\ -(n:Int)<=i/\i<n:=by
 unfold kF at h;by_cases h0:0<=i
 .rw[if_pos h0] at h;by_cases h1:i<n
  .rw[if_pos h1] at h;let e:i.toNat=j:=Option.some.inj h;exact(by rw[seqIndex_of h0 h1,e],by omega,by omega,h1,)
  .rw[if_neg h1] at h;cases h
 .rw[if_neg h0] at h;by_cases h1 : -(n:Int)<=i
  .rw[if_pos h1] at h;let e:(i+n).toNat=j:=Option.some.inj h;exact(by rw[seqIndex_neg (!_) h1,e],by omega,h1,by omega,)
  .rw[if_neg h1] at h;cases h
def aKK{α:Type}{xs:List α}{i:Int}{v:α}(h:pI xs i=J v):∃ j,seqIndex? i ↑xs=J j/\xs[j]?=J v/\j<↑xs /\ -(↑xs:Int)<=i/\i<↑xs:=by
 unfold pI at h;cases e:kF ↑xs i with
 |none=>rw[e] at h;cases h
 |some j=>
   rw[e] at h;let(h1,h2,h3,h4):=aJ2 e;exact(j,h1,h,h2,h3,h4,)
def wZ(b:qy):Prop:=∀ o i,subscripted b Ff o i=operate [o,i] (getItem o i)
def IxR(X:Cx)(r:R2):Prop:=
 ∀ (value kL:qy) (aB:G (qw×Obj)) (s:qv) (σ:St) (H:Hp) (x y:V) (v u:qj) (Q:VK),Inv X aB σ H s->bG x v->bG y u->r x y H Q ->
  subscripted kL Ff v u=operate [v,u] (getItem v u)->qu (model X.prog X.w) X.A (subscriptTail value kL v u) (EP X aB σ Q) X.xe s
def MtR(X:Cx)(id:String)(r:V->G V->Hp->VK->Prop):Prop:=
 ∀ (aB:G (qw×Obj)) (s:qv) (σ:St) (H:Hp) (x:V) (xs:G V) (v:qj) (us:List qj) (Q:VK),Inv X aB σ H s->bG x v->bI xs us->r x xs H Q ->
  qu (model X.prog X.w) X.A (call (.builtin id) (v::us)) (EP X aB σ Q) X.xe s
def aNs{ta tb:TE}{r:R2}(hr:IxR X r)(ha:PE X a ta)(hb:PE X b tb)(hs:wZ b):PE X (.Subscript a b pos) (tOp r ta tb):=by intro aB s σ H Q I h;exact Subscript_ (aFQ ha hb I h λ v u s2 x y H2 I2 rx ry q=>hr a b aB s2 σ H2 x y v u Q I2 rx ry q (hs _ _))
def bBr(K:FrG):R2:=λ x y H Q=>∃ p xs i v,x=.ref p/\y=.int i/\cE K H p xs/\pI xs i=J v/\Q v H
def bBc(K:FrG):R2:=λ x y H Q=>∃ p xs i v,x=.ref p/\y=.int i/\cK K H p xs/\pI xs i=J v/\Q v H
def aUV:IxR X (bBr X.K):=by
 intro value kL aB s σ H x y v u Q I rx ry h hs;let(p,xs,i,z,U,U,hq,he,q):=h;cases rx;let(t,U):=ry;let(aK,r,pl,hz):=I.list hq;let(j,h1,h2,h3,h4,h5):=aKK he;let(w,ew,rw'):=r.get h2;let hl:=r.length;let hn:=tY;let dA:EP X aB σ Q w s:=(z,H,I,rw',q,);by_cases h0:0<=i
 .have hj:i.toNat=j:=by
   rw[seqIndex_of h0 h5] at h1;exact Option.some.inj h1
  exact item_listR pl.isList h0 (!_) (by rw[hj];simpa using ew) dA hs
 .have hj:(i+(aK.toArray.size:Int)).toNat=j:=by
   rw[seqIndex_neg (!_) h4] at h1;rw[yAj,<- hl];exact Option.some.inj h1
  exact subscriptTail_builtinR (x:=w) pl.isList.typeIs slot_list_getitem.lookup
   (wpAny_getItem_list_neg (Q:=λ r s'=>r=w/\EP X aB σ Q r s') pl.isList (!_) (by rw[yAj]<;>omega) (!_) (by rw[hj];simpa using ew) (U,dA,)) hs
def aWs:IxR X (bBc X.K):=by
 intro value kL aB s σ H x y v u Q I rx ry h hs;let(p,xs,i,z,U,U,hq,he,q):=h;cases rx;let(t,U):=ry;let(aK,r,pl,hz):=I.tuple hq;let(j,h1,h2,h3,h4,h5):=aKK he;let(w,ew,rw'):=r.get h2;let hl:=r.length;let hn:=tY;let dA:EP X aB σ Q w s:=(z,H,I,rw',q,);exact subscriptTail_builtinR (x:=w) pl.typeIs slot_tuple_getitem.lookup
  (getItem_tuple (j:=j) (Q:=λ r s'=>r=w/\EP X aB σ Q r s') pl (!_) (!_) (by rw[yAj,<- hl];exact h1) (ew:) (U,dA,)) hs
def aQk(aK:List qj)(n j:Nat)(u:qj):Obj.mapSeq (·.setIfInBounds j u) {cls:=.type "list",data:=.seq aK.toArray n }={cls:=.type "list",data:=.seq (aK.set j u).toArray n }:=by simp[Obj.mapSeq]
def Inv.lst{xs:G V}(I:Inv X aB σ H s)(h:H p=J (.lst xs)) :
 ∃ (aK:List qj) (n:Nat),bI xs aK/\s.heap.get? p=J {cls:=.type "list",data:=.seq aK.toArray n }/\↑xs<=qk:=by let(z,aK,n,r,e):=I.hok p _ h;exact(aK,n,r,e,z,)
def Inv.lstUpd{X:Cx}{aB:G (qw×Obj)}{σ:St}{H:Hp}{s:qv}{p:qw}{xs ys:G V}{aK its':List qj}{n n':Nat}{f:Obj->Obj}(I:Inv X aB σ H s)(h:H p=J (.lst xs))
 (ho:s.heap.get? p=J {cls:=.type "list",data:=.seq aK.toArray n }) (hf:f {cls:=.type "list",data:=.seq aK.toArray n }={cls:=.type "list",data:=.seq its'.toArray n' }) (r:bI ys its') (hz:↑ys<=qk) (t:Nat) :
 Inv X aB σ (bJ H p (.lst ys)) {s with heap:=s.heap.update p f,toks:=t }:=by
 let e:(s.heap.update p f).get? p=J {cls:=.type "list",data:=.seq its'.toArray n' }:=by
  rw[yCw f ho (by rw[hf]<;>rfl),hf]
 refine I.write (x:=p) (e:=p) (by rw[h];trivial) (.inl U) (λ b u hb q=>(yCn _ _ (Ne.symm hb)).trans q) (_,e,) ?_;exact(hz,its',n',r,e,)
def aNt:V->V->V->Hp->(Hp->Prop)->Prop:=λ o i v H Q=>∃ p xs k j,o=.ref p/\i=.int k/\H p=J (.lst xs)/\kF ↑xs k=J j/\Q (bJ H p (.lst (xs.set j v)))
def aSi:aNN X aNt:=by
 intro aB s σ H o i v ov iv u Q I ro ri rv h;let(p,xs,k,j,U,U,hp,hj,q):=h;cases ro;let(t,U):=ri;let(aK,n,r,ho,hz):=I.lst hp;let(h1,h2,h3,h4):=aJ2 hj;let hl:=r.length;let hn:=tY;let I':Inv X aB σ (bJ H p (.lst (xs.set j v))) {s with heap:=s.heap.update p (Obj.mapSeq (·.setIfInBounds j u)) }:=
  I.lstUpd hp ho (aQk aK n j u) (r.set rv j) (by rw[yBd];exact hz) s.toks
 by_cases h0:0<=k
 .have hk:k.toNat=j:=by
   rw[seqIndex_of h0 h4] at h1;exact Option.some.inj h1
  exact PySem.W.ki_setAt ho h0 (!_) (by rw[yAj,<- hl];exact h4) (by rw[hk];exact(_,I',q,))
 .have hk:(k+(aK.toArray.size:Int)).toNat=j:=by
   rw[seqIndex_neg (!_) h3] at h1;rw[yAj,<- hl];exact Option.some.inj h1
  exact PySem.W.ki_setBack ho (!_) (by rw[yAj,<- hl];exact h3) (!_) (by rw[hk];exact(_,I',q,))
def aO7(lo hi:Oz Int)(n:Nat):(vj lo hi qx n).1=((HT.sIx n 0 lo:Nat):Int)/\(vj lo hi qx n).2.1=((HT.sIx n n hi:Nat):Int)/\(vj lo hi qx n).2.2=1:=by
 refine(?_,?_,U,)
 .cases lo with
  |none=>simp[vj,HT.sIx]
  |some i=>
    simp only[vj,HT.sIx,yHs,show(1:Int)>0 by decide,if_true];by_cases h:i<0
    .simp only[h,if_true]<;>omega
    .simp only[h,if_false]<;>omega
 .cases hi with
  |none=>simp[vj,HT.sIx]
  |some i=>
    simp only[vj,HT.sIx,yHs,show(1:Int)>0 by decide,if_true];by_cases h:i<0
    .simp only[h,if_true]<;>omega
    .simp only[h,if_false]<;>omega
def aOY(aK:List qj)(lo hi:Oz Int):slicePick aK.toArray lo hi qx=((aK.drop (HT.sIx aK.length 0 lo)).take (HT.sIx aK.length aK.length hi-HT.sIx aK.length 0 lo)).toArray:=by let(h1,h2,h3):=aO7 lo hi aK.toArray.size;unfold slicePick;rw[h1,h2,h3];simp only[sliceRange_one,pick_run,yAj]<;>rfl
def bBE(K:FrG):V->Oz Int->Oz Int->Hp->VK->Prop:=λ x lo hi H Q=>∃ a xs,x=.ref a/\cE K H a xs/\∀ p,H p=qx->Q (.ref p) (bJ H p (.lst (oS xs lo hi)))
def aVw:SlR X (bBE X.K):=by intro aB s σ H x v vl vu lo hi sl Q I rx hs pl pu h;let(a,xs,U,hx,q):=h;cases rx;let(aK,r,ht,hz):=I.list hx;let cW:=r.length;refine("list",_,slot_list_getitem.lookup,ht.isList.typeIs,?_,);refine wpAny_getItem_list_slice ht.isList hs pl pu .none (by simp) ?_ (by rw[yAj]<;>omega);rw[aOY,<- cW];refine(.ref s.heap.objs.size,_,I.laid (t':=s.toks) (o:=.lst (oS xs lo hi)) (λ b ob q=>hpS _ q) (yAd _) ?_,U,q _ (I.hok.fresh (yAd _)),);exact(xAh (aHu xs lo hi) hz,_,0,(r.drop (HT.sIx ↑xs 0 lo)).take (HT.sIx ↑xs ↑xs hi-HT.sIx ↑xs 0 lo),xAd _ U,)
def nB:V->Bool
 |.non=>Z|.bl _=>Z|.int _=>Z|.str _=>Z|_=>Ff
def pF:V->V->Bool
 |.non,.non=>Z|.bl a,.bl b=>a==b
 |.bl a,.int b=>(if a then 1 else 0)==b
 |.int a,.bl b=>a==(if b then 1 else 0)
 |.int a,.int b=>a==b|.str a,.str b=>a==b|_,_=>Ff
def aYp(ry:bG y u)(rx:bG x v)(fy:nB y=Z)(fx:nB x=Z):SeqAt.EqAt A s u v (pF y x):=by
 cases y with
 |non=>
   cases ry;cases x with
   |non=>cases rx;exact SeqAt.EqAt.same _|bl b=>cases rx;exact SeqAt.EqAt.none_bool b
   |int b=>let(t,U):=rx;exact SeqAt.EqAt.none_int b t
   |str b=>let(t,U):=rx;exact SeqAt.EqAt.none_str b t
   |_=>exact absurd (show Ff=Z from fx) yBx
 |bl a=>
   cases ry;cases x with
   |non=>cases rx;exact SeqAt.EqAt.bool_none a|bl b=>cases rx;exact SeqAt.EqAt.bool_bool a b
   |int b=>let(t,U):=rx;exact SeqAt.EqAt.bool_int a b t
   |str b=>let(t,U):=rx;exact SeqAt.EqAt.bool_str a b t
   |_=>exact absurd (show Ff=Z from fx) yBx
 |int a=>
   let(t',U):=ry;cases x with
   |non=>cases rx;exact SeqAt.EqAt.int_none a t'|bl b=>cases rx;exact SeqAt.EqAt.int_bool a t' b
   |int b=>let(t,U):=rx;exact SeqAt.EqAt.int_int a t' b t
   |str b=>let(t,U):=rx;exact SeqAt.EqAt.int_str a t' b t
   |_=>exact absurd (show Ff=Z from fx) yBx
 |str a=>
   let(t',U):=ry;cases x with
   |non=>cases rx;exact SeqAt.EqAt.str_none a t'|bl b=>cases rx;exact SeqAt.EqAt.str_bool a t' b
   |int b=>let(t,U):=rx;exact SeqAt.EqAt.str_int a t' b t
   |str b=>let(t,U):=rx;exact SeqAt.EqAt.str_str a t' b t
   |_=>exact absurd (show Ff=Z from fx) yBx
 |_=>exact absurd (show Ff=Z from fy) yBx
def pE(x:V)(u:qj):Bool:=match u with|.none=>pF .non x|.bool b=>pF (.bl b) x|.int i _=>pF (.int i) x|.str z _=>pF (.str z) x|_=>Ff
def aMp(r:bG y u)(f:nB y=Z):pE x u=pF y x:=by
 cases y with
 |non=>cases r;rfl|bl b=>cases r;rfl
 |int i=>let(t,U):=r;rfl
 |str z=>let(t,U):=r;rfl
 |_=>exact absurd (show Ff=Z from f) yBx
def aEa:∀ {xs:G V}{us:List qj},bI xs us->xs.all nB=Z->us.any (pE x)=xs.any λ y=>pF y x
 |_,_,.nil,_=>rfl
 |y::xs,u::us,.cons r t,f=>by
   rw[List.all_cons,yBf] at f;rw[yFw,yFw,aMp r f.1,aEa t f.2]
def aD0(rx:bG x v)(fx:nB x=Z):∀ {xs:G V}{us:List qj},bI xs us->xs.all nB=Z->∀ u∈us,SeqAt.EqAt A s u v (pE x u)
 |_,_,.nil,_=>λ u hu=>by cases hu
 |y::xs,u::us,.cons r t,f=>λ u' hu=>by
   rw[List.all_cons,yBf] at f;rcases List.mem_cons.mp hu with rfl|hu
   .rw[aMp r f.1];exact aYp r rx f.1 fx
   .exact aD0 rx fx t f.2 u' hu
def inV(x:V)(xs:G V):Bool:=xs.any λ y=>pF y x
def rIn(K:FrG)(neg:Bool):R2:=λ x y H Q=>∃ p xs,y=.ref p/\(cE K H p xs\/cK K H p xs)/\nB x=Z/\xs.all nB=Z/\Q (.bl (if neg then !inV x xs else inV x xs)) H
def aQI:eN X (xw .In) (rIn X.K Ff):=by
 intro aB s σ H x y v u Q I rx ry h;let(p,xs,U,hq,fx,fs,q):=h;cases ry;rcases hq with hq|hq
 .let(aK,r,pl,hz):=I.list hq;refine SeqAt.in_listAt (pE x) pl.isList (λ w hw=>aD0 rx fx r fs w (hw:)) (.bl _,H,I,U,?_,);rw[show aK.toArray.any (pE x)=aK.any (pE x) by simp,aEa r fs];exact q
 .let(aK,r,pl,hz):=I.tuple hq;refine SeqAt.in_tupleAt (pE x) pl (λ w hw=>aD0 rx fx r fs w (hw:)) (.bl _,H,I,U,?_,);rw[show aK.toArray.any (pE x)=aK.any (pE x) by simp,aEa r fs];exact q
def aHp:iB X (.builtin "len") (λ xs H Q=>∃ p ys,xs=[.ref p]/\(cE X.K H p ys\/cK X.K H p ys)/\Q (.int ↑ys) H):=by
 intro aB s σ H xs us Q I r h;let(p,ys,U,hq,q):=h;let(u,U,rx):=qF r;cases rx;let hn:=tY;rcases hq with hq|hq
 .let(aK,r',pl,hz):=I.list hq;let cW:=r'.length;exact Calls.call_len_list pl.isList (by simp only[yAj]<;>omega) (.int ↑ys,H,I.tok _,(s.toks+1,by rw[yAj,cW],),q,)
 .let(aK,r',pl,hz):=I.tuple hq;let cW:=r'.length;exact len_tuple pl (by simp only[yAj]<;>omega) (.int ↑ys,H,I.tok _,(s.toks+1,by rw[yAj,cW],),q,)
def aHf:iB X (.type "tuple") (λ xs H Q=>∃ p ys,xs=[.ref p]/\((cE X.K H p ys/\∀ l,H l=qx->Q (.ref l) (bJ H l (.tup ys)))\/(cK X.K H p ys/\Q (.ref p) H))):=by
 intro aB s σ H xs us Q I r h;let(p,ys,U,h):=h;let(u,U,rx):=qF r;cases rx;rcases h with ⟨hq,q⟩|⟨hq,q⟩
 .let(aK,r',pl,hz):=I.list hq;let cW:=r'.length;refine call_tuple_list pl.isList (λ h' kp=>?_) (by simp only[yAj]<;>omega);let I1:Inv X aB σ H {s with heap:=h' }:=I.kept (t':=s.toks) kp;let I2:Inv X aB σ (bJ H h'.objs.size (.tup ys)) {s with heap:=h'.push {cls:=.type "tuple",data:=.seq aK.toArray } }:=
   I1.laid (t':=s.toks) (λ b o e=>hpS _ e) (yAd _) (show fF X.prog X.w _ _ _ (.tup ys) from (hz,aK,r',IsTup.new _ _,))
  exact(.ref h'.objs.size,_,I2,U,q _ (I1.hok.fresh (yAd _)),)
 .let(aK,r',pl,hz):=I.tuple hq;exact call_tuple_same pl (.ref p,H,I,U,q,)
def tyV(K:FrG)(T:String)(x:V)(H:Hp):Prop:=match x with
 |.str _=>T = "str"|.int _=>T = "int"
 |.ref p=>(T = "list" /\ ∃ xs,cE K H p xs)\/(T = "tuple" /\ ∃ o,K.lookup p=J o/\o.cls=.type "tuple" /\ o.dict=qx) \/
    (T = "dict" /\ ((∃ aO,H p=J (.dK aO))\/∃ aO,H p=J (.dT aO)))\/(T = "set" /\ ∃ S n,H p=J (.set S n))
 |_=>False
def aMb(I:Inv X aB σ H s)(r:bG x v)(ty:tyV X.K T x H) :
 s.TypeIs v T/\∀ a,v=.ref a->∃ ob,s.heap.get? a=J ob/\ob.dict=qx:=by
 cases x with
 |str z=>
   let(t,U):=r;cases (show T = "str" from ty);exact⟨typeIs_str s z t,λ _ e=>nomatch e⟩
 |int i=>
   let(t,U):=r;cases (show T = "int" from ty);exact⟨wu s i t,λ _ e=>nomatch e⟩
 |ref p=>
   cases r;rcases ty with ⟨rfl,xs,hq⟩|⟨rfl,o,hk,hc,hd⟩|⟨rfl,hk⟩|⟨rfl,S,n,hk⟩
   .let(aK,_,pl,_):=I.list hq;refine(pl.isList.typeIs,λ a e=>?_,);cases e;let(o,n,e,c,hd,_):=pl;exact(o,e,hd,)
   .refine((o,I.kIn p o hk,hc,),λ a e=>?_,);cases e;exact(o,I.kIn _ o hk,hd,)
   .have z:∃ o,s.heap.get? p=J o/\o.ExactDict:=by
     rcases hk with ⟨aO,hk⟩|⟨aO,hk⟩
     .let(_,_,_,_,o,_,_,e,ex,_):=I.hok p _ hk;exact(o,e,ex,)
     .let(_,_,_,_,o,_,_,e,ex,_):=I.hok p _ hk;exact(o,e,ex,)
    let(o,e,ex):=z;refine((o,e,ex.1,),λ a e2=>?_,);cases e2;exact(o,e,ex.2.1,)
   .let(o,_,_,_,e,ex,_):=I.hok p _ hk;refine((o,e,ex.1,),λ a e2=>?_,);cases e2;exact(o,e,ex.2.1,)
 |_=>exact False.elim ty
def bBU(K:FrG)(T:String)(r:V->G V->Hp->VK->Prop)(to:TE):TE:=λ σ H Q=>to σ H λ x H1=>tyV K T x H1/\r x [] H1 Q
def tBM(K:FrG)(T:String)(r:V->G V->Hp->VK->Prop)(to:TE)(t:TA):TE:=λ σ H Q=>to σ H λ x H1=>tyV K T x H1/\t σ H1 λ xs H2=>r x xs H2 Q
def aYb{to:TE}{apos cpos:Pos}{id:String}{r:V -> G V -> Hp -> VK -> Prop}(pa:PlainAttrs T)(slot:Slot T name id)(hty:typeOf (.builtin id)=pure (.type "method_descriptor"))(hm:MtR X id r)(ho:PE X o to)(hbase:attributeBase o name X.env (eval o X.env)=eval o X.env:=by rfl)(hline:(apos.endLine==cpos.line)=Z:=by rfl):PE X (.Call (.Attribute o name apos) [] [] cpos) (bBU X.K T r to):=by intro aB s σ H Q I h;refine wpAny_Call_method0_late hbase hline (bK (ho aB s σ H _ I h) λ v s1 hPq33=>?_);let(x,H1,I1,r1,ty,q1):=hPq33;let(h1,h2):=aMb I1 r1 ty;exact(T,id,pa,slot,hty,h1,h2,Calls.callWith_builtin U (PySem.evalArgs_none (hm aB s1 σ H1 x [] v [] Q I1 r1 .nil q1)),)
def aFt{X:Cx}{o e:qy}{es:List qy}{to:TE}{t:TA}{name:Str}{apos cpos:Pos}{T id:String}{r:V -> G V -> Hp -> VK -> Prop}(pa:PlainAttrs T)(slot:Slot T name id)(hty:typeOf (.builtin id)=pure (.type "method_descriptor"))(hm:MtR X id r)(ho:PE X o to)(ha:PA X (e::es) t)
 (hbase:attributeBase o name X.env (eval o X.env)=eval o X.env:=by rfl)
 (hfew:((backTo cpos (qo (e::es) X.env)).all (λ x=>!x.1)&&(backToKw cpos (keywordEach [] X.env)).all (λ x=>x.1.isSome)
   && decide ((e::es).length+([]:G Keyword).length+(if ([]:G Keyword).isEmpty then 0 else 1)<30))=Z:=by rfl)
 (hline:(apos.endLine==cpos.line)=Z:=by rfl) (hs:qo (e::es) X.env=(Ff,eval e X.env)::qo es X.env:=by rfl) (hplain:(backTo cpos (qo es X.env)).any (·.1)=Ff:=by rfl) :
 PE X (.Call (.Attribute o name apos) (e::es) [] cpos) (tBM X.K T r to t):=by intro aB s σ H Q I h;refine wpAny_Call_method_late hbase hfew hline U (bK (ho aB s σ H _ I h) λ v s1 hPq34=>?_);let(x,H1,I1,r1,ty,q1):=hPq34;let(h1,h2):=aMb I1 r1 ty;refine(T,id,pa,slot,hty,h1,h2,?_,);let hA:=ha cpos aB s1 σ H1 _ I1 q1;rw[hs] at hA ⊢;refine Calls.callWith_builtin (by show(Ff||(backTo cpos (qo es X.env)).any (·.1))=false;rw[hplain]<;>rfl) (Calls.evalArgs_plain ?_);exact bK hA λ us s2 ⟨vs,H2,I2,r2,q2⟩=>hm aB s2 σ H2 x vs v us Q I2 r1 r2 q2
end L2
namespace L2
open PySem PySem.Spec PyProof.Rows
def MtM(X:Cx)(id:String)(r:V->G V->Hp->VK->Prop):Prop:=
 ∀ (aB:G (qw×Obj)) (s:qv) (σ:St) (H:Hp) (x:V) (xs:G V) (v:qj) (us:List qj) (Q:VK),Inv X aB σ H s->bG x v->bI xs us->r x xs H Q ->
  qu (model X.prog X.w) X.A (call (.builtin id) (v::us)) (EP X aB σ Q) X.xe s
def bI.one:∀ {x:V}{us:List qj},bI [x] us->∃ u,us=[u]/\bG x u
 |_,_,.cons r .nil=>(_,U,r,)
def bI.rep{xs:G V}(h:bI xs us):∀ k:Nat,bI (yAg k xs).flatten (yAg k us).flatten
 |0=>.nil
 |k+1=>by
   rw[yBj,yBj,yFg,yFg];exact bI.append h (bI.rep h k)
def aBs(aK:List qj):∀ (k:Nat) (aG:List qj),
 List.foldl (λ x1 x2=>x1++x2) aG.toArray (yAg k aK.toArray)=(aG++(yAg k aK).flatten).toArray
 |0,aG=>by simp
 |k+1,aG=>by
   let e:aG.toArray++aK.toArray=(aG++aK).toArray:=by simp
   let e2:(aG++aK)++(yAg k aK).flatten=aG++(yAg (k+1) aK).flatten:=by
    rw[yBj,yFg,yBg]
   rw[<- e2,<- aBs aK k (aG++aK),<- e,yBj,yDq]
section
variable {X:Cx}{aB:List (qw×Obj)}{σ:St}{H:Hp}{s:qv}{l b:qw}{xs ys zs:List V}
def Inv.lset{aK its':List qj}{f:Array qj->Array qj}(I:Inv X aB σ H s)(hH:H l=J (.lst xs))(e:s.heap.get? l=J {cls:=.type "list",data:=.seq aK.toArray n })(hf:f aK.toArray=its'.toArray)(hv:bI ys its')(hz:↑ys<=qk) :
 Inv X aB σ (bJ H l (.lst ys)) {s with heap:=s.heap.update l (Obj.mapSeq f),toks:=t' }:=by let q:=PySem.IsL.update e f;rw[hf] at q;refine I.write (x:=l) (e:=l) (by rw[hH];exact trivial) (.inl U) (λ b' u hb hu=>(yCn s.heap (Obj.mapSeq f) (Ne.symm hb)).trans hu) (_,q,) ?_;exact(hz,its',_,hv,q,)
def Inv.lnew(I:Inv X aB σ H s)(hv:bI ys aK)(hz:↑ys<=qk) :
 Inv X aB σ (bJ H s.heap.objs.size (.lst ys)) {s with heap:=s.heap.push {cls:=.type "list",data:=.seq aK.toArray },toks:=t' }:=
 I.laid (λ _ _ q=>hpS _ q) (yAd _) (hz,aK,0,hv,xAd _ U,)
def Inv.fresh(I:Inv X aB σ H s):H s.heap.objs.size=qx:=I.hok.fresh (yAd _)
def Inv.lstM(I:Inv X aB σ H s)(hH:H l=J (.lst xs)):↑xs<=qk/\∃ (aK:List qj) (n:Nat),bI xs aK/\↑xs=aK.length/\s.heap.get? l=J {cls:=.type "list",data:=.seq aK.toArray n }:=by let(z,aK,n,r,e):=I.hok l _ hH;exact(z,aK,n,r,r.length,e,)
end
def aKd:V->G V->Hp->VK->Prop:=λ x vs H Q=>∃ l xs y,x=.ref l/\vs=[y]/\H l=J (.lst xs)/\↑xs<qk/\Q .non (bJ H l (.lst (xs++[y])))
def aIP:MtM X "list.append" aKd:=by intro aB s σ H x vs v us Q I rx rv h;let(l,xs,y,U,U,hH,hz,q):=h;cases rx;let(u,U,ru):=rv.one;let(z,aK,n,r,hl,e):=I.lstM hH;refine jz F.slot_list_append (_,e,U,) F.entry_list_append (F.args_list_append_2 _ _) (PySem.list_append l aK.toArray n u (by rw[yAj];omega)) (e,?_,);refine(.non,_,I.lset (its':=aK++[u]) hH e (by simp) (r.append (.cons ru .nil)) ?_,U,q,);rw[xAn,yDy];omega
def aTj{α:Type}(xs:List α)(k:Nat):(yAg k xs).flatten.length=k*↑xs:=by simp_all
end L2
namespace Att
open PySem PySem.W PySem.Calls PyProof.Rows
def aOL:∀ (ns:G Int) (vs:List qj),WellAll P h vs (ns.map WData.int)->IntsAre vs ns:=by
 intro ns
 induction ns with
 |nil=>
   intro vs w;rw[yEy] at w;cases w;exact .nil
 |cons n ns ih=>
   intro vs w;rw[yAm] at w;cases w with
   |cons a b=>
     cases a;exact .cons _ _ (ih _ b)
def script_of{l:OpenLaw}(hn:l.most=J n)(hpre:l.row.toRowW.claim.pre args=Z)(hwl:WellAll P h vals args) :
 ∃ a vs ns,vals=[Value.ref a]/\args=[WData.list (ns.map WData.int)]/\h.get? a=J {cls:=.type "list",data:=.seq vs.toArray }/\IntsAre vs ns/\↑ns<=n:=by
 let hsh:WShape.hasAll [] args [.list .int]=Z:=(pre_splitW hpre).1;let hc:l.pre.holds [] {args:=args }=Z:=(pre_splitW hpre).2;let(d,r,U,h1,h2):=hasAllW_cons hsh;obtain rfl:=hasAllW_nil h2;let(xs,U,h3):=hasW_list h1;let(ns,U):=items_int h3;let cW:↑ns<=n:=by
  unfold OpenLaw.pre at hc;let h4:(WTm.not (.lt (.lit (.int (n:Int))) (.len (.arg 0)))).holds [] {args:=[.list (ns.map .int)] }=Z:=by
   let h4:=(holds_andW hc).1;rw[hn] at h4;exact h4
  let h5:=condW_of h4 (w_not (w_lt w_lit (w_len_list (w_arg U))));rw[yAf] at h5;simp_all
 cases hwl with
 |cons w1 w2=>
   cases w2;cases w1 with
   |list ho hall=>exact(_,_,ns,U,U,ho,aOL ns _ hall,cW,)
def post_true(l:OpenLaw)(args:G WData):l.row.toRowW.claim.post args (.bool Z) args=Z:=
 postW_of (r:=l.row.toRowW) (X:=(Z==Z))
  (show WShape.has [] (.bool Z) .bool=Z by first|rfl|decide|simp[WShape.has,WShape.arms,WShape.armsAll])
  (show(WTm.eq .res (.lit (.bool Z))).value [] {args:=args,res:=J (.bool Z),after:=args }=J (.bool (Z==Z)) from w_eq_bool (w_res U) w_lit) U
def bCn(h:Heap)(L d:qw):G (qw×Obj):=(yBk h.objs.size).filterMap λ a=>if a=L\/a=d then qx else (h.get? a).map λ o=>(a,o)
end Att
namespace L2
open PySem PySem.Spec PyProof.Rows
def aIw:∀ {vs:List qj}{ns:G Int},IntsAre vs ns->bI (ns.map V.int) vs
 |_,_,.nil=>.nil|_,_,.cons n t h=>.cons (t,U,) (aIw h)
def aNS(H:Hp):Prop:=∀ b,H b=qx\/∃ o xs,H b=J (.frz o (.lst xs))
def law_call{K:FrG}{mg mb:Str->Option qj}{s₁:qv}(KX:K.In s₁.heap)(hns:s₁.heap.Ns zy mg)(hb:s₁.heap.Ns builtinsNs mb)(hbb:∀ x:Str,x ≠ "__name__" -> mb x=vv x)(hlim:s₁.heap.NoLimit)(hg:s₁.gens = #[])(ha:s₁.heap.get? a=J {cls:=.type "list",data:=.seq vs.toArray })(hi:IntsAre vs ns)(hl:↑ns<=qk)(hr:Room k callerA)(F:∀ base:Heap,K.In base->base.Ns zy mg->FnOk P w K mg base CX k fa fd [x] sp)(hbind:∀ (s:qv) (u:qj),BindsTo s fd ⟨[u],[]⟩ [(x,u)])(hsp:∀ H:Hp,aNS H->cE K H a (ns.map V.int)->sp [.ref a] H (λ v _=>v=.bl Z) λ _ _ _=>False)(hCX:∀ H e s',CX [] H s₁ (λ _ _ _=>False) e s'->False) :
 jo (model P w) callerA (.call (.ref fa) ([.ref a],[],)) (λ r s'=>r=.ok (.ret (.bool Z))/\OldK s₁.heap s'.heap/\s'.os=s₁.os/\AllBare s'.gens) s₁:=by
 let rv:=aIw hi;let lenV:=hi.length;let core:∀ H:Hp,aNS H->cE K H a (ns.map V.int)->dE P w H s₁.heap->(∀ b,H b≠qx->b=a)->(H a≠qx->K.lookup a=qx) ->
  jo (model P w) callerA (.call (.ref fa) ([.ref a],[],)) (λ r s'=>r=.ok (.ret (.bool Z))/\OldK s₁.heap s'.heap/\s'.os=s₁.os/\AllBare s'.gens) s₁:=by
  intro H hO hS hok hA hK;let pS:∀ {b:qw}{o:Obj},s₁.heap.get? b=J o->H b=qx->(oT s₁.heap H).get? b=J o:=λ e n=>aRK e n
  let noA:∀ {b:qw}{o:Obj}{es:Array DictEntry}{ep:Nat},s₁.heap.get? b=J o->o.data=.dict es ep->H b=qx:=λ {b o es ep} e d=>by
   grind
  let nsK:∀ {b:qw}{m:Str->Option qj},s₁.heap.Ns b m->(oT s₁.heap H).Ns b m:=λ {b m} ⟨o,es,ep,e,d,r⟩=>(o,es,ep,pS e (noA e d),d,r,)
  let hKb:K.In (oT s₁.heap H):=λ b o e=>pS (KX b o e) (by
   grind)
  let hM:Mod K mg (oT s₁.heap H):=(hKb,nsK hns,(mb,nsK hb,hbb,),let ⟨mc,h1,h2⟩:=hlim;(mc,nsK h1,h2,),);let e0:Env0 P w K mg (oT s₁.heap H) callerA [] s₁ H:=(U,hM,λ b o e=>aUQ e,yEm (aQ6 _ _),trivial,λ b hb=>absurd (show b∈([]:List qw) from hb) (by simp),hok,.of_eq hg,);refine codeAny_mono ((F _ hKb (nsK hns)).run callerA [] s₁ H ([.ref a],[],) [.ref a] [.ref a] _ _ hr e0 (hbind s₁ (.ref a)) (.cons U .nil) (hsp H hO hS)) λ r s' h=>?_
  cases r with
  |error e=>exact(hCX H e s' h).elim
  |ok fl=>
    cases fl with
    |next=>exact False.elim h|brk=>exact False.elim h|cont=>exact False.elim h
    |ret u=>
      let(v,H',os,bare,un,hok',r',q):=h;let q':v=.bl Z:=q;subst q';obtain rfl:u=Value.bool Z:=r';refine(U,OldK.of_keep λ b o e=>?_,os,bare,);cases q:H b with
      |none=>exact un.keep b o e q (by intro z;exact absurd (show b∈([]:List qw) from z) (by simp)) (by simp)
      |some u=>
        rcases hO b with z|⟨ob,xs,z⟩
        .rw[q] at z;cases z
        .have z2:=un.frzs b ob _ z;let(e1,_):=hok b _ z;let(e2,_):=hok' b _ z2;rw[e] at e1;simp_all
 cases hk:K.lookup a with
 |some o=>
   let e:=KX a o hk;rw[ha] at e;cases e;refine core (λ _=>qx) (λ _=>.inl U) (.inr (_,vs.toArray,_,hk,U,U,U,by rw[yAj,lenV];exact hl,by simpa using rv,)) (λ b u z=>by simp_all) (λ b z=>absurd U z) λ z=>absurd U z
 |none=>
   refine core (λ b=>if b=a then J (.frz {cls:=.type "list",data:=.seq vs.toArray } (.lst (ns.map V.int))) else qx) (λ b=>?_) (.inl (.inr ({cls:=.type "list",data:=.seq vs.toArray },if_pos U,))) (λ b u z=>?_) (λ b z=>?_) λ _=>hk
   .by_cases hb:b=a
    .exact .inr (_,_,if_pos hb,)
    .exact .inl (if_neg hb)
   .by_cases hb:b=a
    .have z':=(if_pos hb).symm.trans z;cases z';subst hb;exact(ha,by rw[yAf];exact hl,vs,_,rv,ha,)
    simp_all
   simp_all
end L2
namespace L2
open PySem PySem.Spec PyProof.Rows
noncomputable abbrev KOf{K:FrG}{h:Heap}(_:K.In h):FrG:=K
end L2
namespace L2
open PySem PySem.Spec PyProof.Rows
def gP(s:xk):Arguments:=match s with|.FunctionDef _ a _ _ _ _ _ _ _ _=>a|_=>{posonlyargs:=[],args:=[],vararg:=qx,kwonlyargs:=[],kw_defaults:=[],kwarg:=qx,defaults:=[] }
def hU(s:xk):List xk:=match s with|.FunctionDef _ _ b _ _ _ _ _ _ _=>b|_=>[]
def dJ(s:xk):zw:=match s with|.FunctionDef _ _ _ _ _ _ sc _ _ _=>sc|_=>{kind:=.function,names:=[],isGenerator:=Ff,isCoroutine:=Ff }
noncomputable abbrev pL:nL:=λ _ _ _ _ _ _=>False
noncomputable abbrev E0:XK:=λ _ _ _=>False
def aCu:rH pL X E0:=λ _ _ _ _ _ _ _ h=>h.elim
structure Fun(K:FrG)(x qual:Str)(st:xk)(f:qw)(fd:vq):Prop where
 ex:∃ (oc:qj) (od:Option qw) (kV doc pm:qj) (an:Option qw) (cdv ct:qj) (osl:Array (Option qj)),
  fd=yCh x qual (gP st) (hU st) (dJ st) .none kV doc pm an cdv ct/\K.lookup f=J (oc,od,.func fd,osl,)/\yDl K cdv qual=Z
 kp:yBp K (.ref f)=Z
variable {K:FrG}
def Fun.ok{P:zx}{w:zj}{mg:Str -> Option qj}{base:Heap}{x qual:Str}{st:xk}{f:qw}{fd:vq}{N ps:G Str}{k:Nat}{sp:Sp}(F:Fun K x qual st f fd)(S:FnScope N ps (dJ st))(len:∀ vs H Q E,sp vs H Q E->↑vs=↑ps)
 (hbody:∀ (cdv:qj) (A:zv) (outer:G Env) (s:qv) (H:Hp) (vs:G V) (Q:VK) (E:XK),Room k (A.deeper (envOfC qual (dJ st) s.heap.objs.size f cdv))->sp vs H Q E ->
   ∃ t,eG (vG pL P w K mg base N qual (dJ st) f cdv A outer s H E).nox (hU st) t/\t {nx:=λ _ H'=>Q .non H',rt:=Q } (start N vs) H):FnOk P w K mg base pL (k+1) f fd ps sp:=by
 let(oc,od,kV,doc,pm,an,cdv,ct,osl,U,lk,hcd):=F.ex;refine aZm lk hcd S len λ A outer s H vs Q E hr hsp=>?_
 let(t,h,q):=hbody cdv A outer s H vs Q E hr hsp;exact(t,h.nox,q,)
def Fun.binds{x qual:Str}{st:xk}{f:qw}{fd:vq}{ps:G Str}(F:Fun K x qual st f fd)
 (h:∀ (kV doc pm:qj) (an:Option qw) (cdv ct:qj) (us:List qj),↑us=↑ps->bindArgs (yCh x qual (gP st) (hU st) (dJ st) .none kV doc pm an cdv ct) ⟨us,[]⟩=pure (ps.zip us)):iH K fd ps []:=by let(oc,od,kV,doc,pm,an,cdv,ct,osl,U,lk,hcd):=F.ex;exact .all (h kV doc pm an cdv ct)
def aE0{x qual:Str}{st:xk}{f:qw}{oc:qj}{od an:Option qw}{osl:Array (Option qj)}{kV doc pm cdv ct:qj}(l:K.lookup f=J (oc,od,.func (yCh x qual (gP st) (hU st) (dJ st) .none kV doc pm an cdv ct),osl,))
 (c:yDl K cdv qual=Z) (k:yBp K (.ref f)=Z):Fun K x qual st f (yCh x qual (gP st) (hU st) (dJ st) .none kV doc pm an cdv ct):=((oc,od,kV,doc,pm,an,cdv,ct,osl,U,l,c,),k,)
def aAi{B:Prop}(h:B):if Ff=Z then A else B:=by rw[if_neg yBx];exact h
def aAm{B:Prop}(h:A):if Z=Z then A else B:=by rw[if_pos U];exact h
def cF(H H':Hp):Prop:=∀ b o,H b=J o->H' b=J o
def cF.refl(H:Hp):cF H H:=λ _ _ h=>h
def cF.trans(a:cF H H1)(b:cF H1 H2):cF H H2:=λ c o h=>b c o (a c o h)
def cF.free(e:cF H H')(h:H' l=Option.none):H l=Option.none:=by
 cases q:H l with
 |none=>rfl
 |some o=>
   rw[e l o q] at h;cases h
def cF.seq{xs:G V}(e:cF H H')(h:cE K H a xs):cE K H' a xs:=by
 rcases h with (h|⟨o,h⟩)|h
 .exact .inl (.inl (e _ _ h))
 .exact .inl (.inr (o,e _ _ h,))
 .exact .inr h
end L2
set_option maxHeartbeats 4000000
namespace L2
open PySem PySem.Spec PyProof.Rows
section
variable {κ:Type}[DecidableEq κ]
def kC(aO:G (κ×V))(k:κ):Oz V:=(aO.find? λ kv=>decide (kv.1=k)).map (·.2)
def kE(aO:G (κ×V))(k:κ)(v:V):G (κ×V):=
 if (aO.any λ kv=>decide (kv.1=k))=Z then aO.map (λ kv=>if kv.1=k then (kv.1,v) else kv) else aO++[(k,v)]
def aDX{p:κ×V}{r:G (κ×V)}{k:κ}(e:p.1=k):kC (p::r) k=J p.2:=by simp[kC,yCx,e]
def aDP{p:κ×V}{r:G (κ×V)}{k:κ}(e:¬ p.1=k):kC (p::r) k=kC r k:=by simp[kC,yCx,e]
def aDM(k:κ):∀ aO:G (κ×V),(aO.any λ kv=>decide (kv.1=k))=(kC aO k).isSome
 |[]=>rfl
 |p::r=>by
   rw[yFw];by_cases e:p.1=k
   .simp only[aDX e,dqT e,Bool.true_or,Option.isSome_some]
   .rw[aDP e,dqF e,yHq];exact aDM k r
def aHB(aO:G (κ×V))(k:κ)(v:V):(kE aO k v).length<=aO.length+1:=by
 unfold kE;split
 .rw[yAf];omega
 .rw[xAn,yAo,yBz];omega
def iL.isSome_eq(r:iL o u):o.isSome=u.isSome:=by
 cases o with
 |none=>cases u with
   |none=>rfl
   |some _=>exact(show False from r).elim
 |some _=>cases u with
   |none=>exact(show False from r).elim
   |some _=>rfl
def KV.val{aO:G (κ×V)}{vs:G (κ×qj)}(r:KV aO vs)(k:κ):iL (kC aO k) (valueAt vs k):=by
 unfold KV at r
 induction r with
 |nil=>exact True.intro
 |@cons p q ps qs h t ih=>
   let(h1,h2):=h;by_cases e:p.1=k
   .have e':q.1=k:=h1.symm.trans e;let b:valueAt (q::qs) k=J q.2:=by simp[valueAt,yCx,e']
    rw[aDX e,b];exact h2
   .have e':¬ q.1=k:=λ z=>e (h1.trans z)
    let b:valueAt (q::qs) k=valueAt qs k:=by simp[valueAt,yCx,e']
    rw[aDP e,b];exact ih
def KV.any{aO:G (κ×V)}{vs:G (κ×qj)}(r:KV aO vs)(k:κ):(aO.any λ kv=>decide (kv.1=k))=vs.any λ kv=>decide (kv.1=k):=by
 unfold KV at r
 induction r with
 |nil=>rfl|cons h t ih=>rw[yFw,yFw,ih,h.1]
def KV.repl{aO:G (κ×V)}{vs:G (κ×qj)}(r:KV aO vs)(k:κ){y:V}{u:qj}(ry:bG y u) :
 KV (aO.map λ kv=>if kv.1=k then (kv.1,y) else kv) (vs.map λ kv=>if kv.1=k then (kv.1,u) else kv):=by
 unfold KV at r ⊢
 induction r with
 |nil=>exact .nil
 |@cons p q ps qs h t ih=>
   rw[yAm,yAm];refine .cons ?_ ih
   grind
def KV.put{aO:G (κ×V)}{vs:G (κ×qj)}(r:KV aO vs)(k:κ){y:V}{u:qj}(ry:bG y u):KV (kE aO k y) (stored vs k u):=by
 unfold kE stored;rw[r.any k];by_cases e:(vs.any λ kv=>decide (kv.1=k))=Z
 .rw[if_pos e,if_pos e];exact r.repl k ry
 .rw[if_neg e,if_neg e];exact Paired.snoc r (U,ry,)
def KV.length{aO:G (κ×V)}{vs:G (κ×qj)}(r:KV aO vs):aO.length=↑vs:=Paired.length r
end
def zL(r:bG (kV k) u):(fY P w).is k u=Z:=by
 cases k with
 |inl i=>let(t,e):=(show ∃ t,u=Value.int i t from r);subst e;exact aPj P w i t
 |inr x=>let(t,e):=(show ∃ t,u=Value.str x t from r);subst e;exact aPn P w x t
def aIF:∀ {ks:List bN}{us:List qj},bI (ks.map kV) us->ItemsAre (fY P w) ks us
 |[],_,r=>by rw[yEy] at r;cases r;exact .nil
 |k::ks,_,r=>by
   rw[yAm] at r;cases r with
   |cons h t=>exact .cons (zL h) (aIF t)
noncomputable abbrev KT(H:Hp):List (List bN×V)->List (List bN×qw×qj)->Prop:=Paired λ p q=>p.1=q.1/\H q.2.1=J (.tup (p.1.map kV))/\bG p.2 q.2.2
def KT.val{xs:G (List bN×qw×qj)}(r:KT H aO xs)(k:List bN):iL (kC aO k) ((atKey xs k).map (·.2)):=by
 induction r with
 |nil=>exact True.intro
 |@cons p q ps qs h t ih=>
   let(h1,_,h2):=h;by_cases e:p.1=k
   .have e':q.1=k:=h1.symm.trans e;let b:atKey (q::qs) k=J q.2:=by simp[atKey,yCx,e']
    rw[aDX e,b];exact h2
   .have e':¬ q.1=k:=λ z=>e (h1.trans z)
    let b:atKey (q::qs) k=atKey qs k:=by simp[atKey,yCx,e']
    rw[aDP e,b];exact ih
def KT.repl{xs:G (List bN×qw×qj)}(r:KT H aO xs)(k:List bN)(ry:bG y u) :
 KT H (aO.map λ kv=>if kv.1=k then (kv.1,y) else kv) (xs.map (putAt k u)):=by
 induction r with
 |nil=>exact .nil
 |@cons p q ps qs h t ih=>
   rw[yAm,yAm];refine .cons ?_ ih;let(h1,h2,h3):=h;unfold putAt;by_cases e:p.1=k
   .rw[if_pos e,if_pos (h1.symm.trans e)];exact(h1,h2,ry,)
   .rw[if_neg e,if_neg (λ z=>e (h1.trans z))];exact(h1,h2,h3,)
def KT.put{xs:G (List bN×qw×qj)}(r:KT H aO xs)(k:List bN)(hb:H b=J (.tup (k.map kV)))(ry:bG y u) :
 KT H (kE aO k y) (storedH xs k b u):=by
 let e:(aO.any λ kv=>decide (kv.1=k))=(atKey xs k).isSome:=by
  rw[aDM,(r.val k).isSome_eq,yHm]
 unfold kE storedH;rw[e];by_cases q:(atKey xs k).isSome=Z
 .rw[if_pos q,if_pos q];exact r.repl k ry
 .rw[if_neg q,if_neg q];exact Paired.snoc r (U,hb,ry,)
def KT.keeps{xs:G (List bN×qw×qj)}(r:KT H aO xs)(ht:∀ b ys,H b=J (.tup ys)->H' b=J (.tup ys)):KT H' aO xs:=
 Paired.mapP r λ _ _ z=>(z.1,ht _ _ z.2.1,z.2.2,)
def aMP(ok:dE P w H h)(e:Rd H a u):fF P w H h a u:=e.ok ok
def zN(ok:dE P w H h)(e:Rd H a (.dK aO)):aO.length<=qk/\(a==sysModules)=Ff/\∃ vs,KV aO vs/\h.DictOf (fY P w) a vs:=
 show fF P w H h a (.dK aO) from aMP ok e
def aY4(ok:dE P w H h)(e:H a=J (.dK aO)):aO.length<=qk/\(a==sysModules)=Ff/\∃ vs,KV aO vs/\h.DictOf (fY P w) a vs:=zN ok (.inl e)
def yJ{ks:List bN}(ok:dE P w H h)(e:H a=J (.tup (ks.map kV))):(tupleKind (fY P w)).is h ks a:=by let(_,aK,r,o,h1,h2,n,h3):=(show fF P w H h a (.tup (ks.map kV)) from ok a _ e);exact(o,aK.toArray,n,h1,h2,h3,by simpa using aIF r,)
def zF(ok:dE P w H h)(e:Rd H a (.dT aO)):aO.length<=qk/\(a==sysModules)=Ff /\
 ∃ xs,KT H aO xs/\h.DictOfH (tupleKind (fY P w)) a xs:=by
 let(z,y,xs,r,o,es,ep,h1,h2,h3,h4,h5):=(show fF P w H h a (.dT aO) from aMP ok e);refine(z,y,xs,r,o,es,ep,h1,h2,h3,h4,λ x hx=>?_,h5,);let all:∀ {l:G (List bN×V)}{m:G (List bN×qw×qj)},KT H l m->∀ x∈m,(tupleKind (fY P w)).is h x.1 x.2.1:=by
  intro l m q
  induction q with
  |nil=>simp_all
  |@cons p q ps qs hq t ih=>
    intro x hx;rcases List.mem_cons.mp hx with e|hx
    .subst e;exact yJ ok (by rw[<- hq.1];exact hq.2.1)
    .exact ih x hx
 exact all r x hx
def aZi(ok:dE P w H h)(e:H a=J (.dT aO)):aO.length<=qk/\(a==sysModules)=Ff /\
 ∃ xs,KT H aO xs/\h.DictOfH (tupleKind (fY P w)) a xs:=zF ok (.inl e)
def kU(H:Hp)(a:qw)(y:V)(r:Oz V):Prop:=
 (∃ aO k,Rd H a (.dK aO)/\y=kV k/\r=kC aO k)\/∃ aO k b,Rd H a (.dT aO)/\y=.ref b/\H b=J (.tup (k.map kV))/\r=kC aO k
def aAc(H:Hp)(a:qw)(y v:V)(H':Hp):Prop:=
 (∃ aO k,H a=J (.dK aO)/\y=kV k/\aO.length<qk/\H'=bJ H a (.dK (kE aO k v))) \/
 ∃ aO k b,H a=J (.dT aO)/\y=.ref b/\H b=J (.tup (k.map kV))/\aO.length<qk/\H'=bJ H a (.dT (kE aO k v))
def kU.t{k:List bN}(e:H a=J (.dT aO))(eb:H b=J (.tup (k.map kV))):kU H a (.ref b) (kC aO k):=.inr (aO,k,b,.inl e,U,eb,U,)
def aAc.t{k:List bN}(e:H a=J (.dT aO))(eb:H b=J (.tup (k.map kV)))(hl:aO.length<qk) :
 aAc H a (.ref b) v (bJ H a (.dT (kE aO k v))):=.inr (aO,k,b,e,U,eb,hl,U,)
section
variable {X:Cx}{aB:List (qw×Obj)}{σ:St}{H:Hp}{s:qv}{a:qw}{y v:V}{u r:qj}{o:Option V}{A:zv}{E:qj->qv->Prop}
def Inv.big(I:Inv X aB σ H s):sysModules<s.heap.objs.size:=by let h:zy<s.heap.objs.size:=(I.mod.glob.keeps I.bk).lt;exact yDm (·) h
def aQN{Q:qj->qv->Prop}(hu:A.units+1<cLine)(I:Inv X aB σ H s)(g:kU H a y (J v))(ry:bG y u)(h:∀ w' s',Inv X aB σ H s'->bG v w'->Q w' s') :
 qu (model X.prog X.w) A (getItem (.ref a) u) Q E s:=by
 rcases g with ⟨aO,k,e,ey,l⟩|⟨aO,k,b,e,ey,eb,l⟩
 .subst ey;let(z,hd,vs,rel,dd):=zN I.hok e;let(w',hw,rw'):=iL.some_of (v:=v) (o:=valueAt vs k) (by rw[l];exact rel.val k);exact wpAny_getItem_of (zL ry) dd.mapOf hw (h w' _ (I.tok _) rw')
 .subst ey;cases (show u=Value.ref b from ry);let(z,hd,xs,rel,dd):=zF I.hok e;let(w',hw,rw'):=iL.some_of (v:=v) (o:=(atKey xs k).map (·.2)) (by rw[l];exact rel.val k);let(p,hp,hp2):=Option.map_eq_some_iff.mp hw;refine wpAny_getItem_heap (tupleKind_room_in1 hu) (yJ I.hok eb) dd hp ?_;rw[hp2];exact h w' _ (I.tok _) rw'
def bBw{Q:qj->qv->Prop}(hu:A.units+1<cLine)(I:Inv X aB σ H s)(g:kU H a y o)(ry:bG y u)(h:∀ s',Inv X aB σ H s'->Q (.bool o.isSome) s') :
 qu (model X.prog X.w) A (xw .In u (.ref a)) Q E s:=by
 rcases g with ⟨aO,k,e,ey,l⟩|⟨aO,k,b,e,ey,eb,l⟩
 .subst ey;let(z,hd,vs,rel,dd):=zN I.hok e;refine wpAny_in_of (zL ry) hd dd.mapOf ?_;rw[<- (rel.val k).isSome_eq,<- l];exact h _ (I.tok _)
 .subst ey;cases (show u=Value.ref b from ry);let(z,hd,xs,rel,dd):=zF I.hok e;refine wpAny_in_heap (tupleKind_room_in1 hu) (yJ I.hok eb) hd dd ?_;let q:=(rel.val k).isSome_eq;rw[yHm] at q;rw[<- q,<- l];exact h _ (I.tok _)
def aTB{Q:qj->qv->Prop}(hu:A.units+1<cLine)(I:Inv X aB σ H s)(g:kU H a y o)(ry:bG y u)(h:∀ s',Inv X aB σ H s'->Q (.bool (!o.isSome)) s') :
 qu (model X.prog X.w) A (xw .NotIn u (.ref a)) Q E s:=by
 rcases g with ⟨aO,k,e,ey,l⟩|⟨aO,k,b,e,ey,eb,l⟩
 .subst ey;let(z,hd,vs,rel,dd):=zN I.hok e;refine wpAny_notIn_of (zL ry) hd dd.mapOf ?_;rw[<- (rel.val k).isSome_eq,<- l];exact h _ (I.tok _)
 .subst ey;cases (show u=Value.ref b from ry);let(z,hd,xs,rel,dd):=zF I.hok e;refine wpAny_notIn_heap (tupleKind_room_in1 hu) (yJ I.hok eb) hd dd ?_;let q:=(rel.val k).isSome_eq;rw[yHm] at q;rw[<- q,<- l];exact h _ (I.tok _)
def aKv(I:Inv X aB σ H s)(mu:Mut (H a))(hs:yCl a s.heap h')(he:∃ q,h'.get? a=J q)(new:fF X.prog X.w (bJ H a ob) h' a ob) :
 Inv X aB σ (bJ H a ob) {s with heap:=h',toks:=t' }:=
 I.write (x:=a) (e:=a) mu (.inl U) (λ b q hb z=>(hs.2 b hb).trans z) he new
def aWZ{h':Heap}{aO:G (bN×V)}(z:aO.length<=qk)(hd:(a==sysModules)=Ff)(rel:KV aO vs)(dd:h'.DictOf (fY P w) a vs) :
 fF P w H' h' a (.dK aO):=(z,hd,vs,rel,dd,)
def aRa{Q:Unit->qv->Prop}(hu:A.units+1<cLine)(I:Inv X aB σ H s)(g:aAc H a y v H')(ry:bG y u)(rv:bG v r)(h:∀ s',Inv X aB σ H' s'->Q () s') :
 qu (model X.prog X.w) A (setItem (.ref a) u r) Q E s:=by
 rcases g with ⟨aO,k,e,ey,l,eH⟩|⟨aO,k,b,e,ey,eb,l,eH⟩
 .subst ey eH;let(z,hd,vs,rel,dd):=aY4 I.hok e;let hz:↑vs<=qk:=by rw[<- rel.length];exact z
  let hl:(kE aO k v).length<=qk:=by have:=aHB aO k v;omega
  refine wpAny_setItem_pairs (hsz:=hz) (zL ry) dd λ h' dd' hs=>h _ ?_
  let he:∃ q,h'.get? a=J q:=let ⟨q,_,_,hq,_⟩:=dd';(q,hq,);exact aKv I (by rw[e];exact True.intro) hs he (aWZ hl hd (rel.put k rv) dd')
 .subst ey eH;cases (show u=Value.ref b from ry);let(z,hd,xs,rel,dd):=aZi I.hok e;let hz:↑xs<=qk:=by rw[<- Paired.length rel];exact z
  let hl:(kE aO k v).length<=qk:=by have:=aHB aO k v;omega
  refine wpAny_setItem_heap (hsz:=hz) (tupleKind_room_in1 hu) (yJ I.hok eb) dd λ h' dd' hs=>h _ ?_
  let(q,es,ep,hq,h2,h3,h4,_,h5):=dd';refine aKv I (by rw[e];exact True.intro) hs ⟨q,hq⟩ ⟨hl,hd,_,(rel.put k eb rv).keeps λ c ys ec=>?_,q,es,ep,hq,h2,h3,h4,h5⟩;rw[bZ (bAu ec e (λ z=>nomatch z))];exact ec
end
section
variable {X:Cx}{aB:List (qw×Obj)}{σ:St}{H:Hp}{s:qv}{a:qw}{aO:List (bN×V)}{k:bN}{u:qj}{A:zv}{E:qj->qv->Prop}
end
def aNK(i:qy):Prop:=∀ ov iv,subscripted i Ff ov iv=operate [ov,iv] (getItem ov iv)
def aTm{E:qj->qv->Prop}{id:String}{Q:qj->qv->Prop}(hl:typeLookup (.type T) "__getitem__" = pure (J (.builtin id)))(hs:aNK kL)(h:qu (model prog w) A (eval value env) (λ o s₁=>qu (model prog w) A (eval kL env) (λ i s₂=>s₂.TypeIs o T/\qu (model prog w) A (getItem o i) Q E s₂) E s₁) E s) :
 qu (model prog w) A (eval (.Subscript value kL pos) env) Q E s:=by
 refine Subscript_ (wpAny_mono h (λ o s₁ h₁=>wpAny_mono h₁ (λ i s₂ h₂=>?_) λ _ _ x=>x) λ _ _ x=>x);let(hT,h₂):=h₂;unfold subscriptTail;refine wB ?_;rw[getitemInPython_of_ne hT.not_modules];refine wB (wj hT hl ?_);let dA:qu (model prog w) A (subscripted kL Ff o i) (λ r s₃=>qu (model prog w) A (letTemporaryGo value o r >>= λ _=>pure r) Q E s₃) E s₂:=by
  rw[hs o i];exact wpAny_operating (wpAny_mono h₂ (λ r s₃ h₃=>wB (wpAny_letTemporaryGo (wP h₃))) λ _ _ x=>x)
 first
  |exact wP (wB dA)
  |exact wB (wP (wB dA))
  |exact wB dA
def aPp(I:Inv X aB σ H s)(g:kU H a y o):s.TypeIs (.ref a) "dict":=by
 rcases g with ⟨aO,k,e,_,_⟩|⟨aO,k,b,e,_,_,_⟩
 .let(_,_,vs,_,dd):=zN I.hok e;exact dd.typeIs
 .let(_,_,xs,_,dd):=zF I.hok e;exact dd.typeIs
def bAr(td ty:TE):TE:=λ σ H Q=>td σ H λ x H1=>ty σ H1 λ y H2=>∃ a v,x=.ref a/\kU H2 a y (J v)/\Q v H2
def bBD(ty td:TE):TE:=λ σ H Q=>ty σ H λ y H1=>td σ H1 λ x H2=>∃ a o,x=.ref a/\kU H2 a y o/\Q (.bl o.isSome) H2
def aTx(ty td:TE):TE:=λ σ H Q=>ty σ H λ y H1=>td σ H1 λ x H2=>∃ a o,x=.ref a/\kU H2 a y o/\Q (.bl (!o.isSome)) H2
def bAp(td ty tv:TE):TS:=λ D σ H=>tv σ H λ v H1=>td σ H1 λ x H2=>ty σ H2 λ y H3=>∃ a H4,x=.ref a/\aAc H3 a y v H4/\D.nx σ H4
variable {X:Cx}
def aVs{td ty:TE}(hu:X.A.units+1<cLine)(ho:PE X o td)(hi:PE X i ty)(hs:aNK i):PE X (.Subscript o i pos) (bAr td ty):=by intro aB s σ H Q I h;refine aTm PySem.F.slot_dict_getitem.lookup hs (bK (ho aB s σ H _ I h) λ u s1 ⟨x,H1,I1,rx,q1⟩=>bK (hi aB s1 σ H1 _ I1 q1) λ iv s2 hPq35=>?_);let(y,H2,I2,ry,a,v,ex,g,q2):=hPq35;subst ex;obtain rfl:u=Value.ref a:=rx;exact(aPp I2 g,aQN hu I2 g ry λ w' s3 I3 rw'=>(v,H2,I3,rw',q2,),)
def aXx{td ty:TE}(hu:X.A.units+1<cLine)(hi:PE X i ty)(ho:PE X o td):PC X .In i o (bBD ty td):=by
 intro aB s σ H Q I h;refine bK (hi aB s σ H _ I h) λ iv s1 ⟨y,H1,I1,ry,q1⟩=>bK (ho aB s1 σ H1 _ I1 q1) λ u s2 hPq36=>?_
 let(x,H2,I2,rx,a,ov,ex,g,q2):=hPq36;subst ex;obtain rfl:u=Value.ref a:=rx;exact bBw hu I2 g ry λ s3 I3=>(.bl ov.isSome,H2,I3,U,q2,)
def aQL{td ty:TE}(hu:X.A.units+1<cLine)(hi:PE X i ty)(ho:PE X o td):PC X .NotIn i o (aTx ty td):=by
 intro aB s σ H Q I h;refine bK (hi aB s σ H _ I h) λ iv s1 ⟨y,H1,I1,ry,q1⟩=>bK (ho aB s1 σ H1 _ I1 q1) λ u s2 hPq37=>?_
 let(x,H2,I2,rx,a,ov,ex,g,q2):=hPq37;subst ex;obtain rfl:u=Value.ref a:=rx;exact aTB hu I2 g ry λ s3 I3=>(.bl (!ov.isSome),H2,I3,U,q2,)
def aVu{pos:Pos}{td ty tv:TE}(hu:X.A.units+1<cLine)(ho:PE X o td)(hi:PE X i ty)(hv:PE X value tv)(hs:swapsWith value (J (.Subscript o i pos')) pos.line X.env=pure Ff) :
 PS X (.Assign [.Subscript o i pos'] value pos) (bAp td ty tv):=by intro aB s σ H D I h;refine wpAny_Assign_Subscript (bK (hv aB s σ H _ I h) λ r s1 ⟨v,H1,I1,rv,q1⟩=>bK (ho aB s1 σ H1 _ I1 q1) λ u s2 ⟨x,H2,I2,rx,q2⟩=>bK (hi aB s2 σ H2 _ I2 q2) λ iv s3 hPq38=>?_) hs;let(y,H3,I3,ry,a,H4,ex,g,q3):=hPq38;subst ex;obtain rfl:u=Value.ref a:=rx;exact aRa hu I3 g ry rv λ s4 I4=>(σ,H4,I4,q3,)
def aS3(h:Heap)(hb:sysModules<h.objs.size):fF P w H (h.push {cls:=.type "dict",data:=.dict #[] }) h.objs.size (.dT []):=
 (yBv _,beq_eq_false_iff_ne.mpr (Ne.symm (xAj hb)),[],.nil,_,#[],0,xAd _ U,(U,U,U,),U,U,List.nodup_nil,)
def aL1:TE:=λ _ H Q=>∀ p,H p=qx->Q (.ref p) (bJ H p (.dT []))
def aSX:PE X (.Dict [] [] pos) aL1:=λ aB s σ H Q I h=>
 wpAny_Dict_empty (.ref s.heap.objs.size,_,I.laid (a:=s.heap.objs.size) (o:=.dT []) (t':=s.toks) (λ _ _ q=>hpS _ q) (yAd _) (aS3 s.heap I.big),U,h _ (I.hok.fresh (yAd _)),)
end L2
namespace EV
open PySem L2 PySem.Spec PyProof.Rows
abbrev D:=PyData
inductive W0 where
 |d (x:D)|loc (n:Nat)|dic (n:Nat)
inductive W where
 |d (x:D)|loc (n:Nat)|exc (c:Str) (r:D)|dic (n:Nat)|ob (fs:List (Str×W0))|tpl (ws:List W0)
abbrev Lx:=List (qw×Bool)
noncomputable abbrev ad(L:Lx):List qw:=L.map Prod.fst
abbrev aD:=List (Option (List D))
abbrev aY:=List (Option W)
abbrev St:=L2.St
def aCF(F:Hp)(d:Option qw):D->Prop
 |.none=>d=qx|.int i=>∃ dx,d=J dx/\F dx=J (.xd [("row",.int i)])|_=>False
def aAu(K:FrG)(F:Hp)(a:qw)(c:Str)(r:D):Prop:=∃ C oe,F a=J (.ext λ h=>h.get? a=J oe)/\oe.cls=.ref C/\PySem.W.notCls oe=Z/\yCm K zy c=J (J (.ref C))/\aCF F oe.dict r
def aCF.mono(e:cF F F')(h:aCF F d r):aCF F' d r:=by
 cases r with
 |none=>exact h
 |int i=>let(dx,h1,h2):=h;exact(dx,h1,e _ _ h2,)
 |_=>exact h
variable {K:FrG}
def aAu.mono(e:cF F F')(h:aAu K F a c r):aAu K F' a c r:=by let(C,oe,h1,h2,h3,h4,h5):=h;exact(C,oe,e _ _ h1,h2,h3,h4,h5.mono e,)
section
variable (K:FrG)(F:Hp)
mutual
inductive Den:D->V->Prop
 |non:Den .none .non
 |bl (b:Bool):Den (.bool b) (.bl b)
 |int (i:Int):Den (.int i) (.int i)
 |str (x:Str):Den (.str x) (.str x)
 |lst {a:qw}{xs:List V}{ds:List D}:cE K F a xs->DenL ds xs->Den (.list ds) (.ref a)
 |tup {a:qw}{xs:List V}{ds:List D}:cK K F a xs->DenL ds xs->Den (.tuple ds) (.ref a)
 |exc {a:qw}{c:Str}{r:D}:aAu K F a c r->Den (.dict [(.str c,r)]) (.ref a)
inductive DenL:List D->List V->Prop
 |nil:DenL [] []
 |cons {d:D}{ds:List D}{x:V}{xs:List V}:Den d x->DenL ds xs->DenL (d::ds) (x::xs)
end
end
def jX{xs:G V}(e:cF H H')(h:cK K H a xs):cK K H' a xs:=by
 rcases h with (h|⟨o,h⟩)|h
 .exact .inl (.inl (e _ _ h))
 .exact .inl (.inr (o,e _ _ h,))
 .exact .inr h
mutual
theorem Den.mono{K:FrG}{F F':Hp}(e:cF F F'):∀ {d:D}{v:V},Den K F d v->Den K F' d v
 |_,_,.non=>.non|_,_,.bl b=>.bl b|_,_,.int i=>.int i|_,_,.str x=>.str x|_,_,.lst h r=>.lst (e.seq h) (DenL.mono e r)|_,_,.tup h r=>.tup (jX e h) (DenL.mono e r)|_,_,.exc h=>.exc (h.mono e)
theorem DenL.mono{K:FrG}{F F':Hp}(e:cF F F'):∀ {ds:List D}{xs:List V},DenL K F ds xs->DenL K F' ds xs
 |_,_,.nil=>.nil|_,_,.cons h r=>.cons (Den.mono e h) (DenL.mono e r)
end
section
variable {K:FrG}{F:Hp}
def DenL.length:∀ {ds:G D}{xs:G V},DenL K F ds xs->↑ds=↑xs
 |_,_,.nil=>rfl|_,_,.cons _ r=>congrArg (· + 1) (DenL.length r)
def DenL.get:∀ {ds:G D}{xs:G V}{i:Nat}{d:D},DenL K F ds xs->ds[i]?=J d->∃ x,xs[i]?=J x/\Den K F d x
 |_,_,_,_,.nil,e=>by simp at e|_,_,0,_,.cons h _,e=>by simp at e;subst e;exact(_,U,h,)
 |_,_,i+1,d,.cons _ r,e=>by
   let(x,h1,h2):=DenL.get (i:=i) (d:=d) r (e:);simp_all
def DenL.append:∀ {ds es:G D}{xs ys:G V},DenL K F ds xs->DenL K F es ys->DenL K F (ds++es) (xs++ys)
 |_,_,_,_,.nil,s=>s|_,_,_,_,.cons h r,s=>.cons h (DenL.append r s)
def DenL.take:∀ {ds:G D}{xs:G V} (n:Nat),DenL K F ds xs->DenL K F (ds.take n) (xs.take n)
 |_,_,0,_=>.nil|_,_,_+1,.nil=>.nil|_,_,n+1,.cons h r=>.cons h (DenL.take n r)
def DenL.drop:∀ {ds:G D}{xs:G V} (n:Nat),DenL K F ds xs->DenL K F (ds.drop n) (xs.drop n)
 |_,_,0,r=>r|_,_,_+1,.nil=>.nil|_,_,n+1,.cons _ r=>DenL.drop n r
def DenL.set:∀ {ds:G D}{xs:G V} (i:Nat) {d:D}{x:V},DenL K F ds xs->Den K F d x->DenL K F (ds.set i d) (xs.set i x)
 |_,_,_,_,_,.nil,_=>.nil|_,_,0,_,_,.cons _ r,h=>.cons h r|_,_,i+1,_,_,.cons q r,h=>.cons q (DenL.set i r h)
def DenL.reverse:∀ {ds:G D}{xs:G V},DenL K F ds xs->DenL K F ds.reverse xs.reverse
 |_,_,.nil=>.nil
 |_,_,.cons h r=>by
   rw[List.reverse_cons,List.reverse_cons];exact DenL.append (DenL.reverse r) (.cons h .nil)
def DenL.rep{ds:G D}{xs:G V}(h:DenL K F ds xs):∀ n:Nat,DenL K F (yAg n ds).flatten (yAg n xs).flatten
 |0=>.nil
 |n+1=>by
   rw[yBj,yBj,yFg,yFg];exact h.append (DenL.rep h n)
def DenL.of_ints:∀ (ns:G Int),DenL K F (ns.map Iz) (ns.map V.int)
 |[]=>.nil|n::r=>.cons (.int n) (DenL.of_ints r)
end
def kD:bN->D
 |.inl i=>.int i|.inr x=>.str x
def pA(p:List bN×Int):D:=.tuple [.tuple (p.1.map kD),.int p.2]
structure Rel(K:FrG)(F:Hp)(L:Lx)(S:aD)(H:Hp):Prop where
 sub:cF F H
 nd:(ad L).Nodup
 len:↑L=↑S
 loc:∀ (n:Nat) (a:qw) (ds:List D),L[n]?=J (a,Ff)->S[n]?=J (J ds)->F a=qx/\∃ xs,H a=J (.lst xs)/\DenL K F ds xs
 dic:∀ (n:Nat) (a:qw) (ds:List D),L[n]?=J (a,Z)->S[n]?=J (J ds)->F a=qx/\∃ es:List (List bN×Int),ds=es.map pA/\H a=J (.dT (es.map λ p=>(p.1,V.int p.2)))
 tr:∀ (n:Nat) (a:qw) (b:Bool),L[n]?=J (a,b)->∃ o,H a=J o/\(b=Ff->∃ xs,o=.lst xs)
def lT(K:FrG)(F:Hp)(L:Lx):W0->V->Prop
 |.d x,v=>Den K F x v|.loc n,v=>∃ a,L[n]?=J (a,Ff)/\v=.ref a|.dic n,v=>∃ a,L[n]?=J (a,Z)/\v=.ref a
noncomputable abbrev sJ(K:FrG)(F:Hp)(L:Lx):List W0->List V->Prop:=Paired (lT K F L)
noncomputable abbrev oP(K:FrG)(F:Hp)(L:Lx):List (Str×W0)->List (Str×V)->Prop:=Paired λ p q=>p.1=q.1/\lT K F L p.2 q.2
def eS(K:FrG)(F:Hp)(L:Lx):W->V->Prop
 |.d x,v=>Den K F x v|.loc n,v=>∃ a,L[n]?=J (a,Ff)/\v=.ref a|.exc c r,v=>∃ a,v=.ref a/\aAu K F a c r|.dic n,v=>∃ a,L[n]?=J (a,Z)/\v=.ref a|.ob fs,v=>∃ a C dx vs,v=.ref a/\F a=J (.ins C dx vs)/\yCm K zy "Maker" = J (J (.ref C))/\oP K F L fs vs|.tpl ws,v=>∃ a vs,v=.ref a/\F a=J (.tup vs)/\sJ K F L ws vs
structure EnvR(K:FrG)(F:Hp)(L:Lx)(env:aY)(σ:St):Prop where
 len:env.length=σ.length
 get:∀ (i:Nat) (w:W),env[i]?=J (J w)->∃ v,σ[i]?=J (J v)/\eS K F L w v
structure Gr(F:Hp)(L:Lx)(F':Hp)(L':Lx):Prop where
 f:cF F F'
 l:∃ M,L'=L++M
def Gr.refl:Gr F L F L:=(cF.refl _,[],by simp,)
def Gr.trans(a:Gr F L F' L')(b:Gr F' L' F'' L''):Gr F L F'' L'':=by let(f1,M,U):=a;let(f2,N,U):=b;exact(f1.trans f2,M++N,by rw[yBg],)
def Gr.get{F F':Hp}{L L':Lx}(g:Gr F L F' L'){n:Nat}{a:qw×Bool}(h:L[n]?=J a):L'[n]?=J a:=by let(_,M,U):=g;rw[xAm (gIm h).1];exact h
def lT.mono(g:Gr F L F' L')(h:lT K F L w v):lT K F' L' w v:=by
 cases w with
 |d x=>exact Den.mono g.f h
 |loc n=>let(a,e,r):=h;exact(a,g.get e,r,)
 |dic n=>let(a,e,r):=h;exact(a,g.get e,r,)
def eS.mono(g:Gr F L F' L')(h:eS K F L w v):eS K F' L' w v:=by
 cases w with
 |d x=>exact Den.mono g.f h
 |loc n=>let(a,e,r):=h;exact(a,g.get e,r,)
 |exc c r=>let(a,e,h):=h;exact(a,e,h.mono g.f,)
 |dic n=>let(a,e,r):=h;exact(a,g.get e,r,)
 |ob fs=>let(a,C,dx,vs,e,h1,h2,h3):=h;exact(a,C,dx,vs,e,g.f _ _ h1,h2,L2.Paired.mapP h3 λ _ _ q=>(q.1,q.2.mono g,),)
 |tpl ws=>let(a,vs,e,h1,h3):=h;exact(a,vs,e,g.f _ _ h1,L2.Paired.mapP h3 λ _ _ q=>q.mono g,)
def EnvR.mono(g:Gr F L F' L')(h:EnvR K F L env σ):EnvR K F' L' env σ:=
 (h.len,λ i w e=>let ⟨v,e1,r⟩:=h.get i w e;(v,e1,r.mono g,),)
def EnvR.set(h:EnvR K F L env σ)(i:Nat)(r:eS K F L w v):EnvR K F L (env.set i (J w)) (σ.set i (J v)):=by
 refine(by rw[yBd,yBd];exact h.len,λ j u e=>?_,);by_cases hj:i=j
 .subst hj;let hl:i<env.length:=by
   rcases Nat.lt_or_ge i env.length with q|q
   .exact q
   .rw[yBr (by rw[yBd];exact q)] at e;cases e
  rw[yAx hl] at e;cases e;exact(v,yAx (by rw[<- h.len];exact hl),r,)
 .rw[yAy hj] at e;let(x,e1,r1):=h.get j u e;simp_all
def fM(h:H p=qx):cF H (bJ H p o):=λ b u q=>by rw[bZ (fB q h)];exact q
def aEN{L:Lx}{n:Nat}{a:qw}{b:Bool}(h:L[n]?=J (a,b)):a∈ad L:=List.mem_map.mpr (_,xAk h,U,)
def Rel.inj{F H:Hp}{L:Lx}{S:aD}(r:Rel K F L S H){n m:Nat}{a:qw}{b c:Bool}(e:L[n]?=J (a,b))(e1:L[m]?=J (a,c)):n=m:=by
 let h1:(ad L)[n]?=J a:=by rw[yAe,e];rfl
 let h2:(ad L)[m]?=J a:=by rw[yAe,e1];rfl
 let(l1,g1):=gIm h1;let(l2,g2):=gIm h2;exact(List.getElem_inj r.nd).mp (g1.trans g2.symm)
def Rel.trl{F H:Hp}{L:Lx}{S:aD}(r:Rel K F L S H){n:Nat}{a:qw}(e:L[n]?=J (a,Ff)):∃ xs,H a=J (.lst xs):=by let(o,ho,h):=r.tr n a Ff e;simp_all
def Rel.notin(r:Rel K F L S H)(h:H p=qx):p ∉ ad L:=λ hp=>by
 let(n,hn):=yEg hp;rw[yAe] at hn;cases e:L[n]? with
 |none=>rw[e] at hn;cases hn
 |some q=>
   rw[e] at hn;cases hn;let(o,ho,_):=r.tr n q.1 q.2 e;rw[h] at ho;cases ho
def Rel.new(r:Rel K F L S H)(h:H p=qx):Rel K (bJ F p o) L S (bJ H p o):=by
 let hF:F p=qx:=r.sub.free h;refine(λ b u q=>?_,r.nd,r.len,λ n a ds e1 e2=>?_,λ n a ds e1 e2=>?_,λ n a b e=>?_,)
 .by_cases hb:b=p
  .subst hb;rw[cU] at q ⊢;exact q
  .rw[bZ hb] at q ⊢;exact r.sub _ _ q
 .let(f,xs,e3,dl):=r.loc n a ds e1 e2;let ne:a≠p:=fB e3 h;exact(by rw[bZ ne];exact f,xs,by rw[bZ ne];exact e3,DenL.mono (fM hF) dl,)
 .let(f,es,e3,e4):=r.dic n a ds e1 e2;let ne:a≠p:=fB e4 h;exact(by rw[bZ ne];exact f,es,e3,by rw[bZ ne];exact e4,)
 .let(o,hx,hy):=r.tr n a b e;exact(o,by rw[bZ (fB hx h)];exact hx,hy,)
def Gr.new(h:F p=qx):Gr F L (bJ F p o) L:=(fM h,[],by simp,)
def Rel.lay(r:Rel K F L S H)(h:H p=qx):Rel K F L S (bJ H p o):=by
 refine(λ b u q=>by rw[bZ (fB q (r.sub.free h))];exact r.sub _ _ q,r.nd,r.len,λ n a ds e1 e2=>?_,λ n a ds e1 e2=>?_,λ n a b e=>?_,)
 .let(f,xs,e3,dl):=r.loc n a ds e1 e2;exact(f,xs,by rw[bZ (fB e3 h)];exact e3,dl,)
 .let(f,es,e3,e4):=r.dic n a ds e1 e2;exact(f,es,e3,by rw[bZ (fB e4 h)];exact e4,)
 .let(o,hx,hy):=r.tr n a b e;exact(o,by rw[bZ (fB hx h)];exact hx,hy,)
def Rel.adoptO(r:Rel K F L S H)(hF:F p=qx)(hL:p ∉ ad L)(hH:H p=J o):Rel K (bJ F p o) L S H:=by
 refine(λ b u q=>?_,r.nd,r.len,λ n a ds e1 e2=>?_,λ n a ds e1 e2=>?_,r.tr,)
 .by_cases hb:b=p
  .subst hb;rw[cU] at q;rw[hH];exact q
  .rw[bZ hb] at q;exact r.sub _ _ q
 .let(f,ys,e3,dl):=r.loc n a ds e1 e2;let ne:a≠p:=λ z=>hL (by rw[<- z];exact aEN e1)
  exact(by rw[bZ ne];exact f,ys,e3,dl.mono (fM hF),)
 .let(f,es,e3,e4):=r.dic n a ds e1 e2;let ne:a≠p:=λ z=>hL (by rw[<- z];exact aEN e1)
  exact(by rw[bZ ne];exact f,es,e3,e4,)
def Rel.adopt(r:Rel K F L S H){xs:G V}(hF:F p=qx)(hL:p ∉ ad L)(hH:H p=J (.lst xs)):Rel K (bJ F p (.lst xs)) L S H:=r.adoptO hF hL hH
def Rel.adoptC(r:Rel K F L S H)(hL:p ∉ ad L)(hp:∃ o,H p=J o/\(b=Ff->∃ xs,o=.lst xs))(h0:b=Ff->F p=qx/\∃ xs,H p=J (.lst xs)/\DenL K F ds xs)(h1:b=Z->F p=qx/\∃ es:G (List bN×Int),ds=es.map pA/\H p=J (.dT (es.map λ p=>(p.1,V.int p.2)))):Rel K F (L++[(p,b)]) (S++[J ds]) H:=by
 let last:∀ {n:Nat}{a:qw}{c:Bool}{es:G D},(L++[(p,b)])[n]?=J (a,c)->(S++[J ds])[n]?=J (J es)->(L[n]?=J (a,c)/\S[n]?=J (J es))\/(a=p/\c=b/\es=ds):=λ {n a c es} e1 e2=>by
  by_cases hn:n<↑L
  .rw[xAm hn] at e1;rw[xAm (by rw[<- r.len];exact hn)] at e2;exact .inl (e1,e2,)
  .rw[yAh (!_)] at e1;rw[yAh (by rw[<- r.len];omega)] at e2;let z:n-↑L=0:=by
    have:=(gIm e1).1;simp at this;omega
   rw[<- r.len] at e2;rw[z] at e1 e2;cases e1;cases e2;exact .inr (U,U,U,)
 refine(r.sub,?_,by rw[xAn,xAn,r.len]<;>rfl,λ n a es e1 e2=>?_,λ n a es e1 e2=>?_,λ n a c e=>?_,)
 .simp only[ad,yAu];rw[List.nodup_append];refine(r.nd,by simp,λ a ha b hb=>?_,)
  grind
 .rcases last e1 e2 with ⟨q1,q2⟩|⟨rfl,q2,rfl⟩
  .exact r.loc n a es q1 q2
  .exact h0 q2.symm
 .rcases last e1 e2 with ⟨q1,q2⟩|⟨rfl,q2,rfl⟩
  .exact r.dic n a es q1 q2
  .exact h1 q2.symm
 .by_cases hn:n<↑L
  .rw[xAm hn] at e;exact r.tr n a c e
  .rw[yAh (!_)] at e;let h1:=xAk e;rw[yDz] at h1;cases h1;exact hp
def Rel.adoptLoc(r:Rel K F L S H){xs:G V}(hF:F p=qx)(hL:p ∉ ad L)(hH:H p=J (.lst xs))(dl:DenL K F ds xs):Rel K F (L++[(p,Ff)]) (S++[J ds]) H:=
 r.adoptC hL (_,hH,λ _=>(xs,U,),) (λ _=>(hF,xs,hH,dl,)) λ z=>(nomatch z)
def Rel.newLoc(r:Rel K F L S H){xs:G V}(h:H p=qx)(dl:DenL K F ds xs):Rel K F (L++[(p,Ff)]) (S++[J ds]) (bJ H p (.lst xs)):=
 (r.lay h).adoptLoc (r.sub.free h) (r.notin h) cU dl
def Rel.newDic(r:Rel K F L S H)(h:H p=qx):Rel K F (L++[(p,Z)]) (S++[J []]) (bJ H p (.dT [])):=
 (r.lay h).adoptC (r.notin h) (_,cU,λ z=>(nomatch z),) (λ z=>(nomatch z)) λ _=>(r.sub.free h,[],U,cU,)
def Gr.newLoc:Gr F L F (L++[p]):=(cF.refl _,[p],U,)
def Rel.putC(r:Rel K F L S H)(e:L[n]?=J (a,c))(hF:F a=qx)(h0:c=Ff->∃ ys,o=.lst ys/\DenL K F es ys)(h1:c=Z->∃ ks:G (List bN×Int),es=ks.map pA/\o=.dT (ks.map λ p=>(p.1,V.int p.2))):Rel K F L (S.set n (J es)) (bJ H a o):=by
 let hl:n<↑S:=by rw[<- r.len];exact(gIm e).1
 refine(λ b u q=>by rw[bZ (fB q hF)];exact r.sub _ _ q,r.nd,by rw[yBd];exact r.len,λ m b fs e1 e2=>?_,λ m b fs e1 e2=>?_,λ m b d e1=>?_,)
 .by_cases hm:n=m
  .subst hm;rw[e] at e1;cases e1;rw[yAx hl] at e2;cases e2;let(ys,U,dl):=h0 U;exact(hF,ys,cU,dl,)
  .rw[yAy hm] at e2;let ne:b≠a:=λ z=>hm (r.inj e (z▸e1))
   let(f,xs,e3,d3):=r.loc m b fs e1 e2;exact(f,xs,by rw[bZ ne];exact e3,d3,)
 .by_cases hm:n=m
  .subst hm;rw[e] at e1;cases e1;rw[yAx hl] at e2;cases e2;let(ks,h2,U):=h1 U;exact(hF,ks,h2,cU,)
  .rw[yAy hm] at e2;let ne:b≠a:=λ z=>hm (r.inj e (z▸e1))
   let(f,xs,e3,d3):=r.dic m b fs e1 e2;exact(f,xs,e3,by rw[bZ ne];exact d3,)
 .by_cases hb:b=a
  .subst hb;obtain rfl:n=m:=r.inj e e1;rw[e] at e1;cases e1;exact(o,cU,λ z=>(h0 z).imp λ _ q=>q.1,)
  .let(zs,hz,hy):=r.tr m b d e1;exact(zs,by rw[bZ hb];exact hz,hy,)
def Rel.put(r:Rel K F L S H)(e:L[n]?=J (a,Ff))(hF:F a=qx)(dl:DenL K F es ys):Rel K F L (S.set n (J es)) (bJ H a (.lst ys)):=
 r.putC e hF (λ _=>(ys,U,dl,)) λ z=>(nomatch z)
def Rel.freeze{F H:Hp}{L:Lx}{S:aD}(r:Rel K F L S H){n:Nat}{a:qw}{ds:G D}(e:L[n]?=J (a,Ff))(es:S[n]?=J (J ds)) :
 ∃ F',Gr F L F' L/\Rel K F' L (S.set n qx) H/\Den K F' (.list ds) (.ref a):=by
 let(hF,xs,e3,dl):=r.loc n a ds e es;let hl:n<↑S:=(gIm es).1;refine(bJ F a (.lst xs),Gr.new hF,(λ b u q=>?_,r.nd,by rw[yBd];exact r.len,λ m b fs e1 e2=>?_,λ m b fs e1 e2=>?_,r.tr,),.lst (cE.of cU) (dl.mono (fM hF)),)
 .by_cases hb:b=a
  .subst hb;rw[cU] at q;rw[e3];exact q
  .rw[bZ hb] at q;exact r.sub _ _ q
 .by_cases hm:n=m
  .subst hm;rw[yAx hl] at e2;cases e2
  .rw[yAy hm] at e2;let ne:b≠a:=λ z=>hm (r.inj e (z▸e1))
   let(f,ys,e4,d4):=r.loc m b fs e1 e2;exact(by rw[bZ ne];exact f,ys,e4,d4.mono (fM hF),)
 .by_cases hm:n=m
  .subst hm;rw[yAx hl] at e2;cases e2
  .rw[yAy hm] at e2;let ne:b≠a:=λ z=>hm (r.inj e (z▸e1))
   let(f,ys,e4,d4):=r.dic m b fs e1 e2;exact(by rw[bZ ne];exact f,ys,e4,d4,)
def Rel.cut(r:Rel K F (L++M) S H):Rel K F L (S.take ↑L) H:=by
 let hl:↑L<=↑S:=by have:=r.len;rw[xAn] at this;omega
 let nd:=r.nd;simp only[ad,yAu] at nd;let lt:∀ {n:Nat}{q:qw×Bool},L[n]?=J q->n<↑L:=λ e=>(gIm e).1
 refine(r.sub,(List.nodup_append.mp nd).1,by rw[yBl];omega,λ n a ds e1 e2=>?_,λ n a ds e1 e2=>?_,λ n a b e1=>?_,)
 .rw[yDa (lt e1)] at e2;exact r.loc n a ds (by rw[xAm (lt e1)];exact e1) e2
 .rw[yDa (lt e1)] at e2;exact r.dic n a ds (by rw[xAm (lt e1)];exact e1) e2
 .exact r.tr n a b (by rw[xAm (lt e1)];exact e1)
def cP(K:FrG)(F H:Hp)(x:D)(v:V):Prop:=Den K F x v\/∃ ds a xs,x=.list ds/\v=.ref a/\H a=J (.lst xs)/\DenL K F ds xs
def fV:G W0->Oz (G D)
 |[]=>J []|.d x::r=>(fV r).map (x :: ·)|_=>qx
def dr(S:aD):W->Oz D
 |.d x=>J x
 |.loc n=>match S[n]? with
   |some (J ds)=>J (.list ds)|_=>qx
 |.tpl ws=>(fV ws).map Tz|_=>qx
def aBA(h:sJ K F L ws vs)(e:fV ws=J ds):DenL K F ds vs:=by
 induction h generalizing ds with
 |nil=>cases e;exact .nil
 |cons h r ih=>
   rename_i w _ ws _;cases w with
   |d x=>
     cases q:fV ws with
     |none=>rw[fV,q] at e;cases e|some es=>rw[fV,q] at e;cases e;exact .cons h (ih q)
   |_=>cases e
def wd:W->Oz D
 |.d x=>J x|.tpl ws=>(fV ws).map Tz|_=>qx
def aB2(h:eS K F L w v)(e:wd w=J x):Den K F x v:=by
 cases w with
 |d y=>cases e;exact h
 |tpl ws=>
   let(a,vs,U,h1,h2):=h;cases q:fV ws with
   |none=>rw[wd,q] at e;cases e|some ds=>rw[wd,q] at e;cases e;exact .tup (.inl (.inl h1)) (aBA h2 q)
 |exc c r=>cases e|dic n=>cases e|ob fs=>cases e|loc n=>cases e
def mZ(r:Rel K F L S H)(h:eS K F L w v)(e:dr S w=J x):cP K F H x v:=by
 cases w with
 |d y=>cases e;exact .inl h|exc c r=>cases e|dic n=>cases e|ob fs=>cases e
 |tpl ws=>
   let(a,vs,U,h1,h2):=h;cases q:fV ws with
   |none=>rw[dr,q] at e;cases e|some ds=>rw[dr,q] at e;cases e;exact .inl (.tup (.inl (.inl h1)) (aBA h2 q))
 |loc n=>
   let(a,e1,U):=h;cases e2:S[n]? with
   |none=>simp[dr,e2] at e
   |some o=>
     cases o with
     |none=>simp[dr,e2] at e
     |some ds=>
       simp[dr,e2] at e;subst e;let(f,xs,e3,dl):=r.loc n a ds e1 e2;exact .inr (ds,a,xs,U,U,e3,dl,)
def cP.non(h:cP K F H .none v):v=.non:=by
 rcases h with h|⟨_,_,_,e,_⟩
 .cases h;rfl
 .cases e
def cP.bl(h:cP K F H (.bool b) v):v=.bl b:=by
 rcases h with h|⟨_,_,_,e,_⟩
 .cases h;rfl
 .cases e
def cP.int{i:Int}(h:cP K F H (.int i) v):v=.int i:=by
 rcases h with h|⟨_,_,_,e,_⟩
 .cases h;rfl
 .cases e
def cP.str(h:cP K F H (.str x) v):v=.str x:=by
 rcases h with h|⟨_,_,_,e,_⟩
 .cases h;rfl
 .cases e
def cP.lst{F H:Hp}{v:V}{ds:G D}(s:cF F H)(h:cP K F H (.list ds) v):∃ a xs,v=.ref a/\cE K H a xs/\DenL K F ds xs:=by
 rcases h with h|⟨_,a,xs,e,e2,e3,dl⟩
 .cases h with|lst q r=>exact(_,_,U,s.seq q,r,)
 .cases e;exact(a,xs,e2,cE.of e3,dl,)
def cP.tup{F H:Hp}{v:V}{ds:G D}(s:cF F H)(h:cP K F H (.tuple ds) v):∃ a xs,v=.ref a/\cK K H a xs/\DenL K F ds xs:=by
 rcases h with h|⟨_,_,_,e,_⟩
 .cases h with|tup q r=>exact(_,_,U,jX s q,r,)
 .cases e
def aOI:fillsNumberSlot (.type "tuple") "mul" = pure Ff:=
 PySem.fillsNumberSlot_seq (id:="tuple.__mul__") (r:=J (.builtin "tuple.__rmul__")) PySem.F.slot_tuple_mul.lookup (by decide +kernel) PySem.F.slot_tuple_rmul.lookup (by decide +kernel)
def aO8:seqRepeat? (.type "tuple")=pure (J (.builtin "tuple.__mul__")):=by unfold seqRepeat?;rw[PySem.seqSlot_of (T:="tuple") (name:="__mul__") (id:="tuple.__mul__") PySem.F.slot_tuple_mul.lookup (by decide +kernel),PySem.seqSlot_of (T:="tuple") (name:="__rmul__") (id:="tuple.__rmul__") PySem.F.slot_tuple_rmul.lookup (by decide +kernel)];rfl
def aOR(a:Int)(t:Tok)(l:qw)(bD:Array qj)(n:Nat)(d:Option qw)(sl:Array (Option qj)) :
 Meets (Builtin.«int.__rmul__» ([.int a t,.ref l],[],)) (λ _ R s=>s.heap.get? l=J {cls:=.type "tuple",dict:=d,data:=.seq bD n,slots:=sl }/\R (.ok (.ret Value.notImplemented)) s):=
 .of_wp λ prog w A R s h=>by let(hp,g,d,tk,os):=s;let(hl,h):=h;wp_walk;exact(_,U,h,)
def aOS(l:qw)(bD:Array qj)(n:Nat)(d:Option qw)(sl:Array (Option qj))(t:Tok) :
 Meets (Builtin.«tuple.__mul__» ([.ref l,.int 1 t],[],)) (λ _ R s=>s.heap.get? l=J {cls:=.type "tuple",dict:=d,data:=.seq bD n,slots:=sl }/\R (.ok (.ret (.ref l))) s):=
 .of_wp λ prog w A R s h=>by
  let(hp,g,d,tk,os):=s;let(hl,h):=h
  wp_walk
  exact(_,U,h,)
def aOQ(l:qw)(x:qj)(n:Nat)(d:Option qw)(sl:Array (Option qj))(t:Tok) :
 Meets (Builtin.«tuple.__mul__» ([.ref l,.int 0 t],[],)) (λ _ R s=>s.heap.get? l=J {cls:=.type "tuple",dict:=d,data:=.seq #[x] n,slots:=sl }/\R (.ok (.ret (.ref s.heap.objs.size))) {s with heap:=s.heap.push {cls:=.type "tuple",data:=.seq #[] } }):=
 .of_wp λ prog w A R s h=>by
  let(hp,g,d,tk,os):=s;let(hl,h):=h
  wp_walk
  exact(_,U,h,)
def aBs(x:qj):∀ (k:Nat) (aG:Array qj),(yAg k #[x]).foldl (· ++ ·) aG=aG++(yAg k x).toArray
 |0,aG=>by simp
 |k+1,aG=>by
   rw[yBj,yDq,aBs x k];apply Array.ext';simp[yBj]
def aOZ(l:qw)(x:qj)(n:Nat)(d:Option qw)(sl:Array (Option qj))(k:Nat)(hk:2<=k)(hk2:k<=1000)(t:Tok) :
 Meets (Builtin.«tuple.__mul__» ([.ref l,.int k t],[],)) (λ _ R s=>s.heap.get? l=J {cls:=.type "tuple",dict:=d,data:=.seq #[x] n,slots:=sl }/\R (.ok (.ret (.ref s.heap.objs.size))) {s with heap:=s.heap.push {cls:=.type "tuple",data:=.seq (yAg k x).toArray } }):=
 .of_wp λ prog w A R s h=>by
  let(hp,g,d,tk,os):=s;let(hl,h):=h;let c1:(decide (((k:Nat):Int) < -(2^63))||decide (((k:Nat):Int) ≥ 2^63))=Ff:=by simp;omega
  let c2:(((k:Nat):Int)==1)=Ff:=by rw[beq_eq_false_iff_ne];omega
  let c3:decide (((k:Nat):Int)<=0)=Ff:=dqF (!_);let c4:((#[x]:Array qj).isEmpty||(((k:Nat):Int)==1))=Ff:=by rw[c2];rfl
  let c5:(decide (((k:Nat):Int)<=0)||(#[x]:Array qj).isEmpty)=Ff:=by rw[c3];rfl
  let c6:¬ (((#[x]:Array qj).size:Int)*((k:Nat):Int)>(2^63-1)/8):=by
   show ¬ (((1:Nat):Int)*((k:Nat):Int)>(2^63-1)/8);omega
  let hsz:qk=16777216:=by decide
  let c7:yGy (((#[x]:Array qj).size:Int)*((k:Nat):Int))=Ff:=by
   unfold yGy;refine dqF ?_;show ¬ (((1:Nat):Int)*((k:Nat):Int)>((qk:Nat):Int));omega
  wp_walk
  rw[if_neg (by rw[c1];simp_all)];refine wB (wpAny_tupleItemsOf hl U ?_);simp only[c4,c5,c6,c7,yAv,if_false];rw[yAt,aBs,show(#[]:Array qj)++(yAg k x).toArray=(yAg k x).toArray by simp];refine wB (m:=yDb _) (xj (wP (_,U,h,)) ?_);show(yAg k x).toArray.size<=qk;rw[yAj,yCg,hsz];omega
section
variable {X:Cx}{aB:List (qw×Obj)}{σ:L2.St}{H:Hp}{s:qv}{Q:VK}
def aJK(r:bG x u):∀ k:Nat,bI (yAg k x) (yAg k u)
 |0=>.nil|k+1=>.cons r (aJK r k)
def bBh(I:Inv X aB σ H s)(ha:cK X.K H a [x])(hk:k<=1000)(q1:k=1->Q (.ref a) H)(q:∀ p,H p=qx->Q (.ref p) (bJ H p (.tup (yAg k x)))):qu (model X.prog X.w) X.A (zu .Mult (.ref a) (.int k t)) (EP X aB σ Q) X.xe s:=by
 let(aK,r1,p1,_):=I.tuple ha;obtain⟨u,rfl,ru⟩:∃ u,aK=[u]/\bG x u:=by
  cases r1 with
  |cons r r'=>cases r';exact(_,rfl,r,)
 let((cls,d,data,sl),ho,hcl,n,hd):=p1;simp only at hcl hd;subst hcl hd;let hsz:qk=16777216:=by decide
 let dA:∀ (aK:List qj),aK=yAg k u->EP X aB σ Q (.ref s.heap.objs.size) {s with heap:=s.heap.push {cls:=.type "tuple",data:=.seq aK.toArray } }:=λ aK e=>by
  subst e;exact(.ref _,_,I.laid (t':=s.toks) (o:=.tup (yAg k x)) (λ b ob q=>hpS _ q) (yAd _) (by rw[yCg,hsz];omega,_,aJK ru k,(_,xAd _ rfl,rfl,0,rfl,),),rfl,q _ (I.hok.fresh (yAd _)),)
 refine yj (T:="tuple") (U:="int") (·) (_,ho,rfl,) (λ s'=>wu s' k t) aOI PySem.F.fills_int_mul yEz aO8 PySem.F.slot_int_index.lookup
  (jz yEz (wu s k t) PySem.F.entry_int_rmul (PySem.F.args_int_rmul_2 _ _) (aOR k t a _ n d sl)
    (ho,rfl,(_,ho,rfl,),?_,))
 by_cases h1:k=1
 .subst h1;exact jz yGe (_,ho,rfl,) yFx (yFt _ _) (aOS a _ n d sl t) (ho,.ref a,H,I,rfl,q1 rfl,)
 .by_cases h0:k=0
  .subst h0;exact jz yGe (_,ho,rfl,) yFx (yFt _ _) (aOQ a u n d sl t) (ho,dA [] rfl,)
  .exact jz yGe (_,ho,rfl,) yFx (yFt _ _) (aOZ a u n d sl k (!_) hk t) (ho,dA _ rfl,)
end
def qD(i j:Int):Bool:=!(decide (yAn i>wz)&&decide (yAn j>wz)&&Builtin.Int.intTooBig (yAn i+yAn j))
def aCK{α:Type}(n:Nat)(xs:List α):List α:=(yAg n xs).flatten
def mO{α:Type}(f:Int->Option α):D->Option α
 |.int i=>f i|_=>qx
def vZ{α:Type}(f:G D->Option α):D->Option α
 |.list i=>f i|_=>qx
def onT{α:Type}(f:G D->Option α):D->Option α
 |.tuple i=>f i|_=>qx
def oH{α:Type}{f:Int->Option α}{z:α}(h:mO f x=J z):∃ i,x=.int i/\f i=J z:=by cases x<;>first|exact(_,U,h,)|cases h
def xV{α:Type}{f:G D->Option α}{z:α}(h:vZ f x=J z):∃ i,x=.list i/\f i=J z:=by cases x<;>first|exact(_,U,h,)|cases h
def aYG{α:Type}{f:G D->Option α}{z:α}(h:onT f x=J z):∃ i,x=.tuple i/\f i=J z:=by cases x<;>first|exact(_,U,h,)|cases h
def aOa(x y:D):Oz D:=match x with
 |.int i=>mO (λ j=>J (.int (i+j))) y
 | .tuple xs=>onT (λ ys=>match xs with
   |[]=>J (.tuple ys)
   | _::_=>if ↑xs+↑ys<=qk then J (.tuple (xs++ys)) else qx) y
 |.list xs=>vZ (λ ys=>if ↑xs+↑ys<=qk then J (.list (xs++ys)) else qx) y
 |_=>qx
def aNO(x y:D):Oz D:=match x with
 |.int i=>mO (λ j=>if qD i j=Z then J (.int (i*j)) else qx) y
 |.tuple [x]=>mO (λ k=>if 0<=k/\k<=1000 then J (.tuple (yAg k.toNat x)) else qx) y
 |_=>qx
def i2{α:Type}(f:Int->Int->Option α):D->D->Option α
 |.int i,.int j=>f i j|_,_=>qx
def mX{α:Type}{f:Int->Int->Option α}{i j:Int}:i2 f (.int i) (.int j)=f i j:=rfl
def iT{α:Type}{f:Int->Int->Option α}{z:α}(h:i2 f x y=J z):∃ i j,x=.int i/\y=.int j/\f i j=J z:=by
 cases x<;>first|(cases h;done)|skip
 cases y<;>first|(cases h;done)|exact(_,_,U,U,h,)
def kR:D->Bool
 |.none=>Z|_=>Ff
def aJh(h:kR x=Z):x=.none:=by cases x<;>first|rfl|cases h
def cG(op:jy)(x y:D):Oz D:=match op with
 |.Add=>aOa x y|.Sub=>i2 (λ i j=>J (.int (i-j))) x y|.Mult=>aNO x y|.MatMult=>qx|.Div=>qx
 |.Mod=>i2 (λ i j=>if j≠0 then J (.int (i.fmod j)) else qx) x y
 |.Pow=>qx
 |.LShift=>i2 (λ i j=>if 0<=j/\(yAn i:Int)+j<=2^27 then J (.int (i*2^j.toNat)) else qx) x y
 |.RShift=>i2 (λ i j=>if 0<=j then J (.int (i/2^j.toNat)) else qx) x y
 |.BitOr=>i2 (λ i j=>J (.int (yHp i j))) x y|.BitXor=>i2 (λ i j=>J (.int (yHg i j))) x y|.BitAnd=>i2 (λ i j=>J (.int (yEu i j))) x y
 |.FloorDiv=>i2 (λ i j=>if j≠0/\yDh i j=Ff then J (.int (i.fdiv j)) else qx) x y
def unD(op:ww):D->Oz D:=match op with|.USub=>mO λ i=>J (.int (-i))|.Invert=>mO λ i=>J (.int (yBo i))|_=>λ _=>qx
def lU:D->Bool
 |.none|.bool _|.int _|.str _=>Z
 |_=>Ff
def tT:G D->Bool
 |[]=>Z|d::r=>lU d&&tT r
def inD(x:D):G D->Bool
 |[]=>Ff|y::r=>yEv y x||inD x r
def aM0:D->Oz (G D)
 |.list xs=>J xs|.tuple xs=>J xs|_=>qx
def aAw:D->D->Oz Bool
 |.bool a,.bool b=>J (a==b)|_,_=>qx
def aIc(h:aAw x y=J b):∃ p q,x=.bool p/\y=.bool q/\b=(p==q):=by
 cases x<;>first|(cases h;done)|skip
 cases y<;>first|(cases h;done)|exact(_,_,U,U,(Option.some.inj h).symm,)
def qM(op:jv)(x y:D):Oz Bool:=match op with
 |.Eq=>if x.canLay0=Z/\y.canLay0=Z/\x.depth<=60 then J (yEv x y) else qx
 |.NotEq=>if x.canLay0=Z/\y.canLay0=Z/\x.depth<=60 then J (!yEv x y) else qx
 |.Lt=>i2 (λ i j=>J (decide (i<j))) x y|.LtE=>i2 (λ i j=>J (decide (i<=j))) x y|.Gt=>i2 (λ i j=>J (decide (j<i))) x y|.GtE=>i2 (λ i j=>J (decide (j<=i))) x y
 |.Is=>if kR y=Z then J (kR x) else aAw x y
 |.IsNot=>if kR y=Z then J (!kR x) else (aAw x y).bind λ b=>J (!b)
 |.In=>(aM0 y).bind λ ys=>if lU x=Z/\tT ys=Z then J (inD x ys) else qx
 |.NotIn=>qx
def sD:D->Oz Bool
 |.none=>J Ff|.bool b=>J b|.int i=>J (i != 0)
 |.str x=>if x.length<=qk then J ((x.length:Int) != 0) else qx
 |.list xs=>J (!xs.isEmpty)|.tuple xs=>J (!xs.isEmpty)|.dict _=>qx
section
variable {X:Cx}{aB:List (qw×Obj)}{s:qv}{σ:L2.St}{H:Hp}{x y:V}{v u:qj}{Q:VK}{F:Hp}{L:Lx}{S:aD}{dx dy z:D}
abbrev iP(X:Cx)(F:Hp)(L:Lx)(S:aD)(z:D)(Q:VK):Prop:=∀ F' H' r,cF F F'->Rel X.K F' L S H'->Den X.K F' z r->Q r H'
abbrev aFF(X:Cx)(F:Hp)(H:Hp)(zs:List D)(Q:VK):Prop:=∀ p xs,H p=qx->DenL X.K F zs xs->Q (.ref p) (bJ H p (.lst xs))
def iP.here(R:Rel X.K F L S H)(q:iP X F L S z Q)(h:Den X.K F z r):Q r H:=q F H r (cF.refl _) R h
def aFF.out{zs:G D}(R:Rel X.K F L S H)(q:iP X F L S (.list zs) Q):aFF X F H zs Q:=λ p xs hp dl=>
 q _ _ _ (fM (R.sub.free hp)) (R.new hp) (.lst (cE.of cU) (dl.mono (fM (R.sub.free hp))))
def iP.tup{zs:G D}(R:Rel X.K F L S H)(q:iP X F L S (.tuple zs) Q){p:qw}{xs:G V}(hp:H p=qx)(dl:DenL X.K F zs xs):Q (.ref p) (bJ H p (.tup xs)):=
 q _ _ _ (fM (R.sub.free hp)) (R.new hp) (.tup (cK.of cU) (dl.mono (fM (R.sub.free hp))))
def bBK{xs:G V}(I:Inv X aB σ H s)(ha:cE X.K H a xs)(hb:cE X.K H b ys)(hz:↑xs+↑ys<=qk)(q:∀ p,H p=qx->Q (.ref p) (bJ H p (.lst (xs++ys)))):qu (model X.prog X.w) X.A (zu .Add (.ref a) (.ref b)) (EP X aB σ Q) X.xe s:=by
 let(aK,r1,p1,_):=I.list ha;let(wA,r2,p2,_):=I.list hb;let((cls,dd,data,sl),ho,hc,n,hd):=p1.isList;let((cls2,dd2,data2,sl2),ho2,hc2,n2,hd2):=p2.isList;simp only at hc hd hc2 hd2;subst hc hd hc2 hd2;let e:aK.toArray++wA.toArray=(aK++wA).toArray:=by simp
 refine concat_meets (_,ho,U,) (_,ho2,U,) noFill_list_add seq_list_add PySem.F.slot_list_add PySem.F.entry_list_add (PySem.F.args_list_add_2 _ _) (list_addW a b aK.toArray wA.toArray n n2 dd dd2 sl sl2 (by rw[yAj,yAj,<- r1.length,<- r2.length];exact hz)) (ho,ho2,?_,);rw[e];exact(.ref _,_,I.lnew (t':=s.toks) (r1.append r2) (by rw[xAn];omega),U,q _ I.fresh,)
def bBp{xs:G V}{k:Int}(I:Inv X aB σ H s)(ha:cE X.K H a xs)(h1 : -(2^63)<=k)(h2:k<2^63)(hz:↑xs*k.toNat<=qk)(q:∀ p,H p=qx->Q (.ref p) (bJ H p (.lst (yAg k.toNat xs).flatten))):qu (model X.prog X.w) X.A (zu .Mult (.ref a) (.int k t)) (EP X aB σ Q) X.xe s:=by
 let(aK,r1,p1,_):=I.list ha;let((cls,d,data,sl),ho,hcl,n,hd):=p1.isList;simp only at hcl hd;subst hcl hd;let hsz:aK.toArray.size*k.toNat<=2^24:=by
  rw[yAj,<- r1.length];have:qk=2^24:=rfl;rw[<- this];exact hz
 refine yj (T:="list") (U:="int") (·) (_,ho,rfl,) (λ s'=>wu s' k t) noFill_list_mul PySem.F.fills_int_mul yEz repeat_list PySem.F.slot_int_index.lookup
  (jz yEz (wu s k t) PySem.F.entry_int_rmul (PySem.F.args_int_rmul_2 _ _) (lm_int_rmul_list_any k t a aK.toArray n d sl)
    ⟨ho,rfl,(_,ho,rfl,),jz PySem.F.slot_list_mul (_,ho,rfl,) PySem.F.entry_list_mul (PySem.F.args_list_mul_2 _ _)
     (lm_list_mul_any a aK.toArray n d sl k t (by simp[Builtin.List.listFitsIndex];omega) (!_) (by simp[Builtin.List.listTooLong,qk];simpa using hsz))
     (ho,?_,)⟩)
 rw[listMul_foldl_if];exact(.ref _,_,I.lnew (t':=s.toks) (r1.rep k.toNat) (by rw[aTj,yHx];exact hz),rfl,q _ I.fresh,)
def bAj(I:Inv X aB σ H s)(ha:cK X.K H a [])(hb:cK X.K H b ys)(q:Q (.ref b) H):qu (model X.prog X.w) X.A (zu .Add (.ref a) (.ref b)) (EP X aB σ Q) X.xe s:=by let(aK,r1,p1,_):=I.tuple ha;let(wA,r2,p2,_):=I.tuple hb;cases r1;let((cls,dd,data,sl),ho,hc,n,hd):=p1;let((cls2,dd2,data2,sl2),ho2,hc2,n2,hd2):=p2;simp only at hc hd hc2 hd2;subst hc hd hc2 hd2;exact concat_meets (_,ho,U,) (_,ho2,U,) noFill_tuple_add seq_tuple_add yGd yFv (yFs _ _) (tuple_addW0 a b _ wA.toArray n n2 dd dd2 sl sl2 U) (ho,ho2,(.ref b,H,I,U,q,),)
def iC{α:Type}{p:Prop} [Decidable p]{a z:α}(h:(if p then J a else qx)=J z):p/\a=z:=by
 by_cases c:p
 .rw[if_pos c] at h;exact(c,Option.some.inj h,)
 .rw[if_neg c] at h;cases h
def aXI(I:Inv X aB σ H s)(rx:bG x v)(ry:bG y u)(R:Rel X.K F L S H)(nx:cP X.K F H dx x)(ny:cP X.K F H dy y)(e:aOa dx dy=J z)(q:iP X F L S z Q) :
 qu (model X.prog X.w) X.A (zu .Add v u) (EP X aB σ Q) X.xe s:=by
 cases dx with
 |int i=>
   let(j,U,e):=oH e;cases e;exact aX3 aB s σ H x y v u Q I rx ry (i,j,nx.int,ny.int,q.here R (.int _),)
 |tuple xs=>
   let(ys,U,e):=aYG e;let(a,vs,U,h1,d1):=nx.tup R.sub;let(b,ws,U,h2,d2):=ny.tup R.sub;cases d1 with
   |nil=>
     cases e;cases rx;cases ry;refine bAj I h1 h2 (q F H _ (cF.refl _) R ?_);rcases ny with ny|⟨_,_,_,e,_⟩
     .exact ny
     .cases e
   |cons d0 d1=>
     let(c,U):=iC e;refine aTo aB s σ H _ _ v u Q I rx ry (a,b,_,ws,U,U,h1,h2,by simp,by rw[<- (DenL.cons d0 d1).length,<- d2.length];exact c,λ z=>?_,λ z p hp=>q.tup R hp ((DenL.cons d0 d1).append d2),);subst z;cases d2;refine q F H _ (cF.refl _) R ?_;rw[yBc];rcases nx with nx|⟨_,_,_,e,_⟩
     .exact nx
     .cases e
 |list xs=>
   let(ys,U,e):=xV e;let(c,U):=iC e;let(a,vs,U,h1,d1):=nx.lst R.sub;let(b,ws,U,h2,d2):=ny.lst R.sub;cases rx;cases ry;exact bBK I h1 h2 (by rw[<- d1.length,<- d2.length];exact c) λ p hp=>aFF.out R q p _ hp (d1.append d2)
 |_=>cases e
def aKb{F:Hp}{x:D}{v:V}(h:Den K F x v):∀ k:Nat,DenL K F (yAg k x) (yAg k v)
 |0=>.nil|k+1=>.cons h (aKb h k)
def aVV(I:Inv X aB σ H s)(rx:bG x v)(ry:bG y u)(R:Rel X.K F L S H)(nx:cP X.K F H dx x)(ny:cP X.K F H dy y)(e:aNO dx dy=J z)(q:iP X F L S z Q) :
 qu (model X.prog X.w) X.A (zu .Mult v u) (EP X aB σ Q) X.xe s:=by
 cases dx with
 |int i=>
   let(j,U,e):=oH e;let(c,U):=iC e;obtain rfl:=nx.int;obtain rfl:=ny.int;let(t,U):=rx;let(t',U):=ry;refine PyProof.Rows.mul_int (.int (i*j),H,I.tok _,(_,U,),q.here R (.int _),) ?_;unfold IntMulOk;unfold qD at c;intro z;rw[z] at c;cases c
 |tuple xs=>
   let(a,vs,U,h1,d1):=nx.tup R.sub;cases d1 with
   |nil=>cases e
   |cons d0 dn=>
     cases dn with
     |cons _ _=>cases e
     |nil=>
       let(k,U,e):=oH e;let(c,U):=iC e;obtain rfl:=ny.int;cases rx;let(t',U):=ry;obtain⟨kk,rfl⟩:∃ kk:Nat,k=(kk:Nat):=(k.toNat,by omega,);rw[yAt] at q;refine bBh I h1 (!_) (λ hk=>?_) λ p hp=>iP.tup R q hp (aKb d0 kk)
       subst hk;refine q F H _ (cF.refl _) R ?_;rcases nx with nx|⟨_,_,_,z,_⟩
       .exact nx
       .cases z
 |_=>cases e
def aBV{C:Int->Int->Prop}{g:Int->Int->Int}(rule:eN X (zu op) (rI C λ i j=>.int (g i j))){i j:Int}(c:C i j)(I:Inv X aB σ H s)(rx:bG x v)(ry:bG y u)(R:Rel X.K F L S H)(nx:cP X.K F H (.int i) x)(ny:cP X.K F H (.int j) y)(q:iP X F L S (.int (g i j)) Q) :
 qu (model X.prog X.w) X.A (zu op v u) (EP X aB σ Q) X.xe s:=
 rule aB s σ H x y v u Q I rx ry (i,j,nx.int,ny.int,c,q.here R (.int _),)
def aBO{g:Int->Int->Int}(rule:eN X (zu op) (lB λ i j=>.int (g i j))){i j:Int}(I:Inv X aB σ H s)(rx:bG x v)(ry:bG y u)(R:Rel X.K F L S H)(nx:cP X.K F H (.int i) x)(ny:cP X.K F H (.int j) y)(q:iP X F L S (.int (g i j)) Q) :
 qu (model X.prog X.w) X.A (zu op v u) (EP X aB σ Q) X.xe s:=
 rule aB s σ H x y v u Q I rx ry (i,j,nx.int,ny.int,q.here R (.int _),)
def aUD:eN X (zu .FloorDiv) (rI (λ i j=>j≠0/\yDh i j=Ff) λ i j=>.int (i.fdiv j)):=opI λ _ _ _ _ _ _ _ hc q=>floordiv_int hc.1 q (.inl hc.2)
def aZJ:eN X (zu .LShift) (rI (λ i j=>0<=j/\(yAn i:Int)+j<=2^27) λ i j=>.int (i*2^j.toNat)):=opI λ _ _ _ _ _ _ _ hc q=>lshift_int hc.1 hc.2 q
def aS{α β:Type}{o:Option α}{f:α->Option β}{b:β}(h:o.bind f=J b):∃ a,o=J a/\f a=J b:=by
 cases o with
 |none=>cases h|some a=>exact(a,U,h,)
def aXW(I:Inv X aB σ H s)(rx:bG x v)(ry:bG y u)(R:Rel X.K F L S H)(nx:cP X.K F H dx x)(ny:cP X.K F H dy y)(e:cG op dx dy=J z)(q:iP X F L S z Q) :
 qu (model X.prog X.w) X.A (zu op v u) (EP X aB σ Q) X.xe s:=by
 cases op with
 |Add=>exact aXI I rx ry R nx ny e q|Mult=>exact aVV I rx ry R nx ny e q|MatMult=>cases e|Div=>cases e
 |Sub=>let(i,j,U,U,e):=iT e;cases e;exact aBO aVR I rx ry R nx ny q
 |BitAnd=>let(i,j,U,U,e):=iT e;cases e;exact aBO aWk I rx ry R nx ny q
 |BitOr=>let(i,j,U,U,e):=iT e;cases e;exact aBO aYT I rx ry R nx ny q
 |BitXor=>let(i,j,U,U,e):=iT e;cases e;exact aBO aYc I rx ry R nx ny q
 |FloorDiv=>let(i,j,U,U,e):=iT e;let(c,U):=iC e;exact aBV aUD c I rx ry R nx ny q
 |Mod=>let(i,j,U,U,e):=iT e;let(c,U):=iC e;exact aBV aTu c I rx ry R nx ny q
 |Pow=>cases e
 |LShift=>let(i,j,U,U,e):=iT e;let(c,U):=iC e;exact aBV aZJ c I rx ry R nx ny q
 |RShift=>let(i,j,U,U,e):=iT e;let(c,U):=iC e;exact aBV aWc c I rx ry R nx ny q
def aZh(I:Inv X aB σ H s)(rx:bG x v)(R:Rel X.K F L S H)(nx:cP X.K F H dx x)(e:unD op dx=J z)(q:iP X F L S z Q) :
 qu (model X.prog X.w) X.A (unaryOp op v) (EP X aB σ Q) X.xe s:=by
 cases op with
 |USub=>let(i,U,e):=oH e;cases e;exact aYj aB s σ H x v Q I rx (_,nx.int,q.here R (.int _),)
 |Invert=>let(i,U,e):=oH e;cases e;exact aXz aB s σ H x v Q I rx (_,nx.int,q.here R (.int _),)
 |_=>cases e
mutual
theorem aII(I:Inv X aB σ H s)(sb:cF F H):∀ {d:D}{x:V}{v:qj},Den X.K F d x->bG x v->d.canLay0=Z->∃ as,Reads s.heap v d as
 |_,_,v,.non,r,_=>by cases (show v=Value.none from r);exact(_,.none,)
 |_,_,v,.bl b,r,_=>by cases (show v=Value.bool b from r);exact(_,.bool b,)
 |_,_,v,.int i,r,_=>by let(t,U):=(show ∃ t,v=Value.int i t from r);exact(_,.int i t,)
 |_,_,v,.str y,r,_=>by let(t,U):=(show ∃ t,v=Value.str y t from r);exact(_,.str y t,)
 |_,_,v,.lst (a:=a) h dl,r,c=>by
   cases (show v=Value.ref a from r);let(aK,rv,p1,_):=I.list (sb.seq h);let(o,ho,hc,n,hd):=p1.isList;let(as,ra):=aBi I sb dl rv c;exact(_,.list ho hc hd (ra:),)
 |_,_,v,.exc _,_,c=>by cases c
 |_,_,v,.tup (a:=a) h dl,r,c=>by
   cases (show v=Value.ref a from r);let(aK,rv,p1,_):=I.tuple (jX sb h);let(o,ho,hc,n,hd):=p1;let(as,ra):=aBi I sb dl rv c;exact(_,.tuple ho hc hd (ra:),)
theorem aBi(I:Inv X aB σ H s)(sb:cF F H):∀ {ds:List D}{xs:List V}{us:List qj},DenL X.K F ds xs->bI xs us->yFh ds=Z->∃ as,ReadsAll s.heap us ds as
 |_,_,_,.nil,r,_=>by cases r;exact(_,.nil,)
 |_,_,_,.cons h dl,.cons r rs,c=>by
   let(c1,c2):=Bool.and_eq_true_iff.mp c;let(as,ra):=aII I sb h r c1;let(bs,rb):=aBi I sb dl rs c2;exact(_,.cons ra rb,)
end
def aBn(I:Inv X aB σ H s)(R:Rel X.K F L S H)(rx:bG x v)(nx:cP X.K F H dx x)(c:dx.canLay0=Z):∃ as,Reads s.heap v dx as:=by
 rcases nx with nx|⟨ds,a,xs,rfl,rfl,e,dl⟩
 .exact aII I R.sub nx rx c
 .cases rx;let(aK,rv,p1,_):=I.list (cE.of e);let(o,ho,hc,n,hd):=p1.isList;let(as,ra):=aBi I R.sub dl rv c;exact(_,.list ho hc hd (ra:),)
def aYY(hu:X.A.units+64<cLine)(I:Inv X aB σ H s)(rx:bG x v)(ry:bG y u)(R:Rel X.K F L S H)(nx:cP X.K F H dx x)(ny:cP X.K F H dy y)(c1:dx.canLay0=Z)(c2:dy.canLay0=Z)(c3:dx.depth<=60)(q:Q (.bl (yEv dx dy)) H):qu (model X.prog X.w) X.A (xw .Eq v u) (EP X aB σ Q) X.xe s:=by let(as,ra):=aBn I R rx nx c1;let(bs,rb):=aBn I R ry ny c2;refine SeqAt.compareEq_reads ra rb c1 c2 ?_ (.bl _,H,I,U,q,);have:min dx.depth dy.depth<=dx.depth:=yCa _ _;omega
def bAG(hu:X.A.units+64<cLine)(I:Inv X aB σ H s)(rx:bG x v)(ry:bG y u)(R:Rel X.K F L S H)(nx:cP X.K F H dx x)(ny:cP X.K F H dy y)(c1:dx.canLay0=Z)(c2:dy.canLay0=Z)(c3:dx.depth<=60)(q:Q (.bl (!yEv dx dy)) H):qu (model X.prog X.w) X.A (xw .NotEq v u) (EP X aB σ Q) X.xe s:=by let(as,ra):=aBn I R rx nx c1;let(bs,rb):=aBn I R ry ny c2;refine SeqAt.compareNe_reads ra rb c1 c2 ?_ (.bl _,H,I,U,q,);have:min dx.depth dy.depth<=dx.depth:=yCa _ _;omega
end
def aSm(h1:Den K F d x)(h2:Den K F e y)(f1:lU d=Z)(f2:lU e=Z):pF x y=yEv d e:=by
 cases h1<;>first|(simp[lU] at f1;done)|skip
 all_goals cases h2<;>first|(simp[lU] at f2;done)|rfl|skip
def aI1(h1:Den K F d x)(f1:lU d=Z):nB x=Z:=by cases h1<;>first|rfl|(simp[lU] at f1;done)
def aI8:∀ {ds:G D}{xs:G V},DenL K F ds xs->tT ds=Z->xs.all nB=Z
 |_,_,.nil,_=>rfl
 |_,_,.cons h r,f=>by
   simp only[tT,yBf] at f;rw[List.all_cons,aI1 h f.1,aI8 r f.2];rfl
def aKS(h2:Den K F e y)(f2:lU e=Z):∀ {ds:G D}{xs:G V},DenL K F ds xs->tT ds=Z->inV y xs=inD e ds
 |_,_,.nil,_=>rfl
 |_,_,.cons h r,f=>by
   simp only[tT,yBf] at f;let ih:=aKS h2 f2 r f.2;unfold inV at ih ⊢;rw[yFw,ih,aSm h h2 f.1 f2];rfl
section
variable {X:Cx}{aB:List (qw×Obj)}{s:qv}{σ:L2.St}{H:Hp}{x y:V}{v u:qj}{Q:VK}{F:Hp}{L:Lx}{S:aD}{dx dy:D}{b:Bool}
def cP.flat(h:cP X.K F H d z)(f:lU d=Z):Den X.K F d z:=by
 rcases h with h|⟨ds,_,_,rfl,_⟩
 .exact h
 .simp[lU] at f
def aVd(sb:cF F H)(h:cP X.K F H d z)(e:aM0 d=J ys):∃ p xs,z=.ref p/\(cE X.K H p xs\/cK X.K H p xs)/\DenL X.K F ys xs:=by
 cases d with
 |list l=>cases e;let(a,xs,e1,q,dl):=h.lst sb;exact(a,xs,e1,.inl q,dl,)
 |tuple l=>cases e;let(a,xs,e1,q,dl):=h.tup sb;exact(a,xs,e1,.inr q,dl,)
 |_=>cases e
def aK3(R:Rel X.K F L S H)(nx:cP X.K F H dx x):decide (x=.non)=kR dx:=by
 cases dx with
 |none=>rw[nx.non];rfl|bool c=>rw[nx.bl];rfl|int c=>rw[nx.int];rfl|str c=>rw[nx.str];rfl
 |list c=>let(a,xs,U,_):=nx.lst R.sub;rfl
 |tuple c=>let(a,xs,U,_):=nx.tup R.sub;rfl
 |dict c=>
   rcases nx with h|⟨_,_,_,e,_⟩
   .cases h;rfl
   .cases e
def aYk(hu:X.A.units+64<cLine)(I:Inv X aB σ H s)(rx:bG x v)(ry:bG y u)(R:Rel X.K F L S H)(nx:cP X.K F H dx x)(ny:cP X.K F H dy y)(e:qM op dx dy=J b)(q:Q (.bl b) H) :
 qu (model X.prog X.w) X.A (xw op v u) (EP X aB σ Q) X.xe s:=by
 cases op with
 |Lt=>let(i,j,U,U,e):=iT e;cases e;exact aZR aB s σ H x y v u Q I rx ry (_,_,nx.int,ny.int,q,)
 |LtE=>let(i,j,U,U,e):=iT e;cases e;exact aZs aB s σ H x y v u Q I rx ry (_,_,nx.int,ny.int,q,)
 |Gt=>let(i,j,U,U,e):=iT e;cases e;exact aZv aB s σ H x y v u Q I rx ry (_,_,nx.int,ny.int,q,)
 |GtE=>let(i,j,U,U,e):=iT e;cases e;exact bAm aB s σ H x y v u Q I rx ry (_,_,nx.int,ny.int,q,)
 |Eq=>let(c,U):=iC e;exact aYY hu I rx ry R nx ny c.1 c.2.1 c.2.2 q
 |NotEq=>let(c,U):=iC e;exact bAG hu I rx ry R nx ny c.1 c.2.1 c.2.2 q
 |Is=>
   let e':(if kR dy=Z then J (kR dx) else aAw dx dy)=J b:=e;by_cases c:kR dy=Z
   .rw[if_pos c] at e';cases e';cases aJh c;exact aVU aB s σ H x y v u Q I rx ry (ny.non,by rw[aK3 R nx];exact q,)
   .rw[if_neg c] at e';let(p1,p2,U,U,U):=aIc e';obtain rfl:=nx.bl;obtain rfl:=ny.bl;cases rx;cases ry;exact wpAny_is_plain U (aBS I q (by cases p1<;>cases p2<;>rfl))
 |IsNot=>
   let e':(if kR dy=Z then J (!kR dx) else (aAw dx dy).bind λ b=>J (!b))=J b:=e;by_cases c:kR dy=Z
   .rw[if_pos c] at e';cases e';cases aJh c;exact aVA aB s σ H x y v u Q I rx ry (ny.non,by rw[aK3 R nx];exact q,)
   .rw[if_neg c] at e';let(b0,e1,e2):=aS e';cases e2;let(p1,p2,U,U,U):=aIc e1;obtain rfl:=nx.bl;obtain rfl:=ny.bl;cases rx;cases ry;exact wpAny_isNot_plain U (aBS I q (by cases p1<;>cases p2<;>rfl))
 |In=>
   let(ys,hs,e):=aS e;let(c,U):=iC e;let(p,xs,e1,sq,dl):=aVd R.sub ny hs;refine aQI aB s σ H x y v u Q I rx ry (p,xs,e1,sq,aI1 (nx.flat c.1) c.1,aI8 dl c.2,?_,);show Q (.bl (inV x xs)) H;rw[aKS (nx.flat c.1) c.1 dl c.2];exact q
 |NotIn=>cases e
def aHG{xs:G V}(h:DenL K F ds xs):xs.isEmpty=ds.isEmpty:=by cases h<;>rfl
def aTT(R:Rel X.K F L S H)(nx:cP X.K F H dx x)(e:sD dx=J b):aFZ X.K x H b:=by
 cases dx with
 |none=>cases e;rw[nx.non];exact U|bool c=>cases e;rw[nx.bl];exact U|int c=>cases e;rw[nx.int];exact U
 |str c=>
   rw[nx.str];let e':(if c.length<=qk then J ((c.length:Int) != 0) else qx)=J b:=e;split at e'
   .rename_i h;cases e';exact(h,U,)
   .cases e'
 |list c=>cases e;let(a,xs,U,sq,dl):=nx.lst R.sub;exact .inl (xs,sq,by rw[aHG dl],)
 |tuple c=>cases e;let(a,xs,U,sq,dl):=nx.tup R.sub;exact .inr (.inl (xs,sq,by rw[aHG dl],))
 |dict c=>cases e
end
abbrev FE:=aY->aD->Option (W×aD)
abbrev FT:=aY->aD->Option (Bool×aD)
abbrev FA:=aY->aD->Option (List W×aD)
abbrev FL:=aY->aD->Option (List D×aD)
inductive Fl where
 |nx (env:aY)|rt (w:W)|bk (env:aY)|ct (env:aY)
abbrev FS:=aY->aD->Option (Fl×aD)
inductive WDenL (K:FrG) (F:Hp) (L:Lx):List W->List V->Prop
 |nil:WDenL K F L [] []
 |cons {w:W}{ws:List W}{x:V}{xs:List V}:eS K F L w x->WDenL K F L ws xs->WDenL K F L (w::ws) (x::xs)
def WDenL.length:∀ {ws:G W}{xs:G V},WDenL K F L ws xs->↑ws=↑xs
 |_,_,.nil=>rfl|_,_,.cons _ r=>congrArg (· + 1) r.length
section
variable (K:FrG)
def bC(f:FE):TE:=λ σ H Q=>∃ F L S env w S',Rel K F L S H/\EnvR K F L env σ/\f env S=J (w,S')/\∀ F' L' H' v,Gr F L F' L'->Rel K F' L' S' H'->eS K F' L' w v->Q v H'
def gN(f:FT):TT:=λ σ H Q=>∃ F L S env b S',Rel K F L S H/\EnvR K F L env σ/\f env S=J (b,S')/\∀ F' L' H',Gr F L F' L'->Rel K F' L' S' H'->Q b H'
def fA(f:FA):TA:=λ σ H Q=>∃ F L S env ws S',Rel K F L S H/\EnvR K F L env σ/\f env S=J (ws,S')/\∀ F' L' H' vs,Gr F L F' L'->Rel K F' L' S' H'->WDenL K F' L' ws vs->Q vs H'
def kJ(f:FL):TE:=λ σ H Q=>∃ F L S env ds S',Rel K F L S H/\EnvR K F L env σ/\f env S=J (ds,S')/\∀ F' L' H' p xs,Gr F L F' L'->Rel K F' L' S' H'->F' p=qx->p ∉ ad L'->H' p=J (.lst xs)->DenL K F' ds xs->Q (.ref p) H'
def eI(f:FS):TS:=λ D σ H=>∃ F L S env fl S',Rel K F L S H/\EnvR K F L env σ/\f env S=J (fl,S')/\∀ F' L' H',Gr F L F' L'->Rel K F' L' S' H'->match fl with|.nx aW=>∀ σ',EnvR K F' L' aW σ'->D.nx σ' H'|.rt w=>∀ v,eS K F' L' w v->D.rt v H'|.bk aW=>∀ σ',EnvR K F' L' aW σ'->D.bk σ' H'|.ct aW=>∀ σ',EnvR K F' L' aW σ'->D.ct σ' H'
end
def PE.weak{t t':TE}(h:PE X e t)(w:∀ σ H Q,t' σ H Q->t σ H Q):PE X e t':=λ aB s σ H Q I q=>h aB s σ H Q I (w σ H Q q)
def PT.weak{t t':TT}(h:PT X e t)(w:∀ σ H Q,t' σ H Q->t σ H Q):PT X e t':=λ aB s σ H Q I q=>h aB s σ H Q I (w σ H Q q)
def PW.weak{t t':TT}(h:PW X e t)(w:∀ σ H Q,t' σ H Q->t σ H Q):PW X e t':=λ wh aB s σ H Q I q=>h wh aB s σ H Q I (w σ H Q q)
def PA.weak{t t':TA}(h:PA X e t)(w:∀ σ H Q,t' σ H Q->t σ H Q):PA X e t':=λ pos aB s σ H Q I q=>h pos aB s σ H Q I (w σ H Q q)
def PS.weak(h:PS X e t)(w:∀ D σ H,t' D σ H->t D σ H):PS X e t':=λ aB s σ H D I q=>h aB s σ H D I (w D σ H q)
def eG.weak(h:eG X e t)(w:∀ D σ H,t' D σ H->t D σ H):eG X e t':=λ aB s σ H D I q=>h aB s σ H D I (w D σ H q)
abbrev uY(K:FrG)(F:Hp)(L:Lx)(S':aD)(w:W)(Q:VK):Prop:=∀ F' L' H' v,Gr F L F' L'->Rel K F' L' S' H'->eS K F' L' w v->Q v H'
def f2(fa fb:FE)(g:aD->W->W->Oz (W×aD)):FE:=λ env S=>(fa env S).bind λ p=>(fb env p.2).bind λ q=>g q.2 p.1 q.1
def f1(fa:FE)(g:aD->W->Oz (W×aD)):FE:=λ env S=>(fa env S).bind λ p=>g p.2 p.1
def aCN{K:FrG}{fa fb:FE}{g:aD->W->W->Oz (W×aD)}{r:R2}(hr:∀ F L S H x y wx wy w S' Q,Rel K F L S H->eS K F L wx x->eS K F L wy y->g S wx wy=J (w,S')->uY K F L S' w Q->r x y H Q)(σ:St)(H:Hp)(Q:VK)(h:bC K (f2 fa fb g) σ H Q):tOp r (bC K fa) (bC K fb) σ H Q:=by
 let(F,L,S,env,w,S',R,E,e,q):=h;unfold f2 at e;cases ea:fa env S with
 |none=>rw[ea] at e;cases e
 |some p=>
   let(wx,S1):=p;rw[ea] at e;dsimp only[yDr] at e;cases eb:fb env S1 with
   |none=>rw[eb] at e;cases e
   |some p2=>
     let(wy,S2):=p2;rw[eb] at e;dsimp only at e;refine(F,L,S,env,wx,S1,R,E,ea,λ F1 L1 H1 x g1 R1 d1=>(F1,L1,S1,env,wy,S2,R1,E.mono g1,eb,λ F2 L2 H2 y g2 R2 d2=>?_,),);exact hr F2 L2 S2 H2 x y wx wy w S' Q R2 (d1.mono g2) d2 e λ F3 L3 H3 v g3 R3 d3=>q F3 L3 H3 v ((g1.trans g2).trans g3) R3 d3
def bBP{fa:FE}{g:aD->W->Oz (W×aD)}{r:V->Hp->VK->Prop}(hr:∀ F L S H x wx w S' Q,Rel K F L S H->eS K F L wx x->g S wx=J (w,S')->uY K F L S' w Q->r x H Q)(σ:St)(H:Hp)(Q:VK)(h:bC K (f1 fa g) σ H Q):tUn r (bC K fa) σ H Q:=by
 let(F,L,S,env,w,S',R,E,e,q):=h;unfold f1 at e;cases ea:fa env S with
 |none=>rw[ea] at e;cases e
 |some p=>
   let(wx,S1):=p;rw[ea] at e;dsimp only[yDr] at e;refine(F,L,S,env,wx,S1,R,E,ea,λ F1 L1 H1 x g1 R1 d1=>?_,);exact hr F1 L1 S1 H1 x wx w S' Q R1 d1 e λ F3 L3 H3 v g3 R3 d3=>q F3 L3 H3 v (g1.trans g3) R3 d3
def mB(i:Nat):FE:=λ env S=>match env[i]? with|some (J w)=>J (w,S)|_=>qx
def aRC(h:mB i env S=J (w,S')):env[i]?=J (J w)/\S'=S:=by
 unfold mB at h;split at h
 .rename_i w' e;cases h;exact(e,U,)
 .cases h
variable {X:Cx}
def aZd(hN:X.N[i]?=J x)(hv:Vis X.env.scope x)(hd:(x==("__debug__" : Str))=Ff)(hcd:(x==("__classdict__" : Str))=Ff):PE X (.Name x pos) (bC X.K (mB i)):=
 PE.weak (aLL hN hv hd hcd) λ σ H Q bB=>by
  let(F,L,S,env,w,S',R,E,e,q):=bB;let(e1,U):=aRC e;let(v,e2,d):=E.get i w e1;exact(v,e2,q F L H v Gr.refl R d,)
def fC(d:D):FE:=λ _ S=>J (.d d,S)
def aZ8{i j pos}:PE X (.Constant (.int i) j pos) (bC X.K (fC (.int i))):=
 PE.weak aXR λ σ H Q bB=>by let(F,L,S,env,w,S',R,E,e,q):=bB;cases e;exact q F L H _ Gr.refl R (.int i)
def bBO{b j pos}:PE X (.Constant (.bool b) j pos) (bC X.K (fC (.bool b))):=
 PE.weak aZo λ σ H Q bB=>by let(F,L,S,env,w,S',R,E,e,q):=bB;cases e;exact q F L H _ Gr.refl R (.bl b)
def aYW{j pos}:PE X (.Constant .none j pos) (bC X.K (fC .none)):=
 PE.weak aYy λ σ H Q bB=>by let(F,L,S,env,w,S',R,E,e,q):=bB;cases e;exact q F L H _ Gr.refl R .non
def aZI{x j pos}:PE X (.Constant (.str x) j pos) (bC X.K (fC (.str x))):=
 PE.weak aVI λ σ H Q bB=>by let(F,L,S,env,w,S',R,E,e,q):=bB;cases e;exact q F L H _ Gr.refl R (.str x)
def jP(g:D->D->Oz D)(S:aD)(x y:W):Oz (W×aD):=(dr S x).bind λ a=>(dr S y).bind λ b=>(g a b).bind λ z=>J (.d z,S)
def pO(g:D->Oz D)(S:aD)(x:W):Oz (W×aD):=(dr S x).bind λ a=>(g a).bind λ z=>J (.d z,S)
def aI9{g:D->D->Oz D}(h:jP g S x y=J (w,S')):∃ a b z,dr S x=J a/\dr S y=J b/\g a b=J z/\w=.d z/\S'=S:=by
 unfold jP at h;cases e1:dr S x with
 |none=>rw[e1] at h;cases h
 |some a=>
   cases e2:dr S y with
   |none=>rw[e1,e2] at h;cases h
   |some b=>
     rw[e1,e2] at h;dsimp only[yDr] at h;cases e3:g a b with
     |none=>rw[e3] at h;cases h|some z=>rw[e3] at h;cases h;exact(a,b,z,U,U,e3,U,U,)
def aDT{g:D->Oz D}(h:pO g S x=J (w,S')):∃ a z,dr S x=J a/\g a=J z/\w=.d z/\S'=S:=by
 unfold pO at h;cases e1:dr S x with
 |none=>rw[e1] at h;cases h
 |some a=>
   rw[e1] at h;dsimp only[yDr] at h;cases e3:g a with
   |none=>rw[e3] at h;cases h|some z=>rw[e3] at h;cases h;exact(a,z,U,e3,U,U,)
def aEf{Q:VK}(X:Cx)(hK:X.K=K)(q:uY K F L S (.d z) Q):iP X F L S z Q:=λ F' H' r sf R d=>by
 subst hK;exact q F' L H' r (sf,[],by simp,) R d
def rD2(X:Cx)(g:D->D->Oz D):R2:=λ x y H Q=>∃ F L S dx dy z,Rel X.K F L S H/\cP X.K F H dx x/\cP X.K F H dy y/\g dx dy=J z/\iP X F L S z Q
def aBT{g:D->D->Oz D}(F:Hp)(L:Lx)(S:aD)(H:Hp)(x y:V)(wx wy w:W)(S':aD)(Q:VK)(R:Rel X.K F L S H)(h1:eS X.K F L wx x)(h2:eS X.K F L wy y)(e:jP g S wx wy=J (w,S'))(q:uY X.K F L S' w Q):rD2 X g x y H Q:=by let(a,b,z,e1,e2,e3,U,U):=aI9 e;exact(F,L,S',a,b,z,R,mZ R h1 e1,mZ R h2 e2,e3,aEf X U q,)
def sI(op:jy)(fa fb:FE):FE:=f2 fa fb (jP (cG op))
def bAW{fa fb:FE}(ha:PE X a (bC X.K fa))(hb:PE X b (bC X.K fb)):PE X (.BinOp a op b pos) (bC X.K (sI op fa fb)):=
 PE.weak (aMW (r:=rD2 X (cG op)) (λ aB s σ H x y v u Q I rx ry hPr0=>by let(F,L,S,dx,dy,z,R,nx,ny,e,q):=hPr0;exact aXW I rx ry R nx ny e q) ha hb) (aCN aBT)
def fUn(op:ww)(fa:FE):FE:=f1 fa (pO (unD op))
def bB0{fa:FE}(ha:PE X a (bC X.K fa)):PE X (.UnaryOp op a pos) (bC X.K (fUn op fa)):=
 PE.weak (bA1 (r:=λ x H Q=>∃ F L S dx z,Rel X.K F L S H/\cP X.K F H dx x/\unD op dx=J z/\iP X F L S z Q) (λ aB s σ H x v Q I rx hPr1=>by let(F,L,S,dx,z,R,nx,e,q):=hPr1;exact aZh I rx R nx e q) ha)
  (bBP λ F L S H x wx w S' Q R d e q=>by
    let(a,z,e1,e3,U,U):=aDT e;exact(F,L,S',a,z,R,mZ R d e1,e3,aEf X U q,))
def bO(op:jv)(x y:D):Oz D:=(qM op x y).map Bz
def aJt(hu:X.A.units+64<cLine):eN X (xw op) (rD2 X (bO op)):=λ aB s σ H x y v u Q I rx ry bB=>by
 let(F,L,S,dx,dy,z,R,nx,ny,e,q):=bB;unfold bO at e;cases ec:qM op dx dy with
 |none=>rw[ec] at e;cases e|some b=>rw[ec] at e;cases e;exact aYk hu I rx ry R nx ny ec (q.here R (.bl b))
def oZ(op:jv)(fa fb:FE):FE:=f2 fa fb (jP (bO op))
def aYI{fa fb:FE}(hu:X.A.units+64<cLine)(ha:PE X a (bC X.K fa))(hb:PE X b (bC X.K fb))(hm:xz op b=Ff):PE X (.Compare a [op] [b] pos) (bC X.K (oZ op fa fb)):=
 PE.weak (aU5 (aJt hu) ha hb hm) (aCN aBT)
def dR(fa:FE):FT:=λ env S=>(fa env S).bind λ p=>(dr p.2 p.1).bind λ d=>(sD d).bind λ b=>J (b,p.2)
def aDA{fa:FE}(h:dR fa env S=J (b,S')):∃ w d,fa env S=J (w,S')/\dr S' w=J d/\sD d=J b:=by
 unfold dR at h;cases ea:fa env S with
 |none=>rw[ea] at h;cases h
 |some p=>
   let(w,S1):=p;rw[ea] at h;dsimp only[yDr] at h
   grind
def aZ2{fa:FE}(ha:PE X a (bC X.K fa))(he:∀ lE,isTrue a X.env lE=(do let v <- lE;standAt a.pos;holding [v] (truthy v))):PT X a (gN X.K (dR fa)):=
 PT.weak (aSr ha he) λ σ H Q bB=>by
  let(F,L,S,env,b,S',R,E,e,q):=bB;let(w,d,e1,e2,e3):=aDA e;exact(F,L,S,env,w,S',R,E,e1,λ F1 L1 H1 v g1 R1 d1=>(b,aTT R1 (mZ R1 d1 e2) e3,q F1 L1 H1 g1 R1,),)
def aVL{fa fb:FE}(hu:X.A.units+64<cLine)(ha:PE X a (bC X.K fa))(hb:PE X b (bC X.K fb))(hm:xz op b=Ff):PT X (.Compare a [op] [b] pos) (gN X.K (dR (oZ op fa fb))):=
 PT.weak (aT6 (aJt hu) ha hb hm) λ σ H Q bB=>by
  let(F,L,S,env,b,S',R,E,e,q):=bB;let(w,d,e1,e2,e3):=aDA e;refine @aCN _ fa fb (jP (bO op)) _ aBT σ H _ (F,L,S,env,w,S',R,E,e1,λ F1 L1 H1 v g1 R1 d1=>?_,);let hc:∃ c,w=.d (Bz c):=by
   unfold oZ f2 at e1;cases ea:fa env S with
   |none=>rw[ea] at e1;cases e1
   |some p=>
     rw[ea] at e1;dsimp only[yDr] at e1;cases eb:fb env p.2 with
     |none=>rw[eb] at e1;cases e1
     |some p2=>
       rw[eb] at e1;dsimp only at e1;let(_,_,z,_,_,e6,U,_):=aI9 e1;unfold bO at e6;cases e7:qM op _ _ with
       |none=>rw[e7] at e6;cases e6|some c=>rw[e7] at e6;grind
  let(c,U):=hc;cases e2;cases e3;let hv:v=.bl b:=by cases (show Den X.K F1 (.bool b) v from d1);rfl
  exact(b,hv,q F1 L1 H1 g1 R1,)
def zW(fa fb:FT):FT:=λ env S=>(fa env S).bind λ p=>if p.1=Z then fb env p.2 else J (Ff,p.2)
def fOr(fa fb:FT):FT:=λ env S=>(fa env S).bind λ p=>if p.1=Z then J (Z,p.2) else fb env p.2
def aAv(fa:FT):FT:=λ env S=>(fa env S).bind λ p=>J (!p.1,p.2)
def aMC{fa fb:FT}(σ:St)(H:Hp)(Q:Bool->Hp->Prop)(h:gN K (zW fa fb) σ H Q):aN1 (gN K fa) (gN K fb) σ H Q:=by
 let(F,L,S,env,b,S',R,E,e,q):=h;let((c,S1),e1,e2):=aS e;refine(F,L,S,env,c,S1,R,E,e1,λ F1 L1 H1 g1 R1=>?_,);dsimp only at e2;cases c with
 |true=>exact aAm (F1,L1,S1,env,b,S',R1,E.mono g1,by simpa using e2,λ F2 L2 H2 g2 R2=>q F2 L2 H2 (g1.trans g2) R2,)
 |false=>
   grind
def aN9{fa fb:FT}(σ:St)(H:Hp)(Q:Bool->Hp->Prop)(h:gN K (fOr fa fb) σ H Q):tOr (gN K fa) (gN K fb) σ H Q:=by
 let(F,L,S,env,b,S',R,E,e,q):=h;let((c,S1),e1,e2):=aS e;refine(F,L,S,env,c,S1,R,E,e1,λ F1 L1 H1 g1 R1=>?_,);dsimp only at e2;cases c with
 |false=>exact aAi (F1,L1,S1,env,b,S',R1,E.mono g1,by simpa using e2,λ F2 L2 H2 g2 R2=>q F2 L2 H2 (g1.trans g2) R2,)
 |true=>
   grind
def aZu{fa:FT}(ha:PT X a (gN X.K fa)):PT X (.UnaryOp .Not a pos) (gN X.K (aAv fa)):=
 PT.weak (aXO ha) λ σ H Q bB=>by
  let(F,L,S,env,b,S',R,E,e,q):=bB;let((c,S1),e1,e2):=aS e;cases e2;exact(F,L,S,env,c,S1,R,E,e1,q,)
def zC(fa fb:FE):FE:=λ env S=>(fa env S).bind λ p=>match p.1 with|.d (Bz true)=>fb env p.2|.d (Bz false)=>J (.d (Bz Ff),p.2)|_=>qx
def aAl(fa fb:FE):FE:=λ env S=>(fa env S).bind λ p=>match p.1 with|.d (Bz false)=>fb env p.2|.d (Bz true)=>J (.d (Bz Z),p.2)|_=>qx
def zO(fa:FE):FE:=λ env S=>(fa env S).bind λ p=>match p.1 with|.d (Bz b)=>J (.d (Bz (!b)),p.2)|_=>qx
def zA(h:eS K F L (.d (Bz b)) v):v=.bl b:=by cases (show Den K F (.bool b) v from h);rfl
def aMe{fa fb:FE}(σ:St)(H:Hp)(Q:VK)(h:bC K (zC fa fb) σ H Q):aMQ (bC K fa) (bC K fb) σ H Q:=by
 let(F,L,S,env,w,S',R,E,e,q):=h;let((c,S1),e1,e2):=aS e;dsimp only at e2;split at e2
 .exact(F,L,S,env,_,S1,R,E,e1,λ F1 L1 H1 v g1 R1 d1=>(Z,zA d1,aAm (F1,L1,S1,env,w,S',R1,E.mono g1,e2,λ F2 L2 H2 v2 g2 R2 d2=>q F2 L2 H2 v2 (g1.trans g2) R2 d2,),),)
 .cases e2;exact(F,L,S,env,_,_,R,E,e1,λ F1 L1 H1 v g1 R1 d1=>(Ff,zA d1,aAi (q F1 L1 H1 _ g1 R1 (Den.bl Ff)),),)
 .cases e2
def aMS{fa fb:FE}(σ:St)(H:Hp)(Q:VK)(h:bC K (aAl fa fb) σ H Q):aOi (bC K fa) (bC K fb) σ H Q:=by
 let(F,L,S,env,w,S',R,E,e,q):=h;let((c,S1),e1,e2):=aS e;dsimp only at e2;split at e2
 .exact(F,L,S,env,_,S1,R,E,e1,λ F1 L1 H1 v g1 R1 d1=>(Ff,zA d1,aAi (F1,L1,S1,env,w,S',R1,E.mono g1,e2,λ F2 L2 H2 v2 g2 R2 d2=>q F2 L2 H2 v2 (g1.trans g2) R2 d2,),),)
 .cases e2;exact(F,L,S,env,_,_,R,E,e1,λ F1 L1 H1 v g1 R1 d1=>(Z,zA d1,aAm (q F1 L1 H1 _ g1 R1 (Den.bl Z)),),)
 .cases e2
def aWa{fa:FE}(ha:PE X a (bC X.K fa)):PE X (.UnaryOp .Not a pos) (bC X.K (zO fa)):=
 PE.weak (aXN ha) λ σ H Q bB=>by
  let(F,L,S,env,w,S',R,E,e,q):=bB;let((c,S1),e1,e2):=aS e;dsimp only at e2;split at e2
  .cases e2;exact(F,L,S,env,_,_,R,E,e1,λ F1 L1 H1 v g1 R1 d1=>(_,zA d1,q F1 L1 H1 _ g1 R1 (Den.bl _),),)
  .cases e2
def aAr(fc:FT)(fa fb:FE):FE:=λ env S=>(fc env S).bind λ p=>if p.1=Z then fa env p.2 else fb env p.2
def aZt{fc:FT}{fa fb:FE}(hc:PT X c (gN X.K fc))(ha:PE X a (bC X.K fa))(hb:PE X b (bC X.K fb)):PE X (.IfExp c a b pos) (bC X.K (aAr fc fa fb)):=
 PE.weak (aSN hc ha hb) λ σ H Q bB=>by
  let(F,L,S,env,w,S',R,E,e,q):=bB;let((c,S1),e1,e2):=aS e;refine(F,L,S,env,c,S1,R,E,e1,λ F1 L1 H1 g1 R1=>?_,);dsimp only at e2;cases c with
  |true=>exact aAm (F1,L1,S1,env,w,S',R1,E.mono g1,by simpa using e2,λ F2 L2 H2 v g2 R2 d2=>q F2 L2 H2 v (g1.trans g2) R2 d2,)|false=>exact aAi (F1,L1,S1,env,w,S',R1,E.mono g1,by simpa using e2,λ F2 L2 H2 v g2 R2 d2=>q F2 L2 H2 v (g1.trans g2) R2 d2,)
def iJ:FA:=λ _ S=>J ([],S)
def dD(fa:FE)(fr:FA):FA:=λ env S=>(fa env S).bind λ p=>(fr env p.2).bind λ q=>J (p.1::q.1,q.2)
def aFw:PA X [] (fA X.K iJ):=PA.weak aMq λ σ H Q bB=>by let(F,L,S,env,ws,S',R,E,e,q):=bB;cases e;exact q F L H [] Gr.refl R .nil
def mY{fa:FE}{fr:FA}(ha:PE X e (bC X.K fa))(hr:PA X es (fA X.K fr))(hs:qo (e::es) X.env=(Ff,eval e X.env)::qo es X.env):PA X (e::es) (fA X.K (dD fa fr)):=
 PA.weak (aUT ha hr hs) λ σ H Q bB=>by
  let(F,L,S,env,ws,S',R,E,e,q):=bB;let((w,S1),e1,e2):=aS e;let((wr,S2),e3,e4):=aS e2;cases e4;exact(F,L,S,env,w,S1,R,E,e1,λ F1 L1 H1 v g1 R1 d1=>(F1,L1,S1,env,wr,S2,R1,E.mono g1,e3,λ F2 L2 H2 vs g2 R2 d2=>q F2 L2 H2 _ (g1.trans g2) R2 (.cons (d1.mono g2) d2),),)
def jY:G W->Oz (G D)
 |[]=>J []|.d x::r=>(jY r).bind λ l=>J (x::l)|.tpl ws::r=>(fV ws).bind λ x=>(jY r).bind λ l=>J (.tuple x::l)|_::_=>qx
def rB:∀ {ws:G W}{xs:G V}{ds:G D},WDenL K F L ws xs->jY ws=J ds->DenL K F ds xs
 |_,_,_,.nil,e=>by cases e;exact .nil
 |.d x::r,_,_,.cons h t,e=>by
   let(l,e1,e2):=aS e;cases e2;exact .cons h (rB t e1)
 |.tpl ws::r,_,_,.cons h t,e=>by
   let(x,e0,e):=aS e;let(l,e1,e2):=aS e;cases e2;let(a,vs,U,h1,h2):=h;exact .cons (.tup (.inl (.inl h1)) (aBA h2 e0)) (rB t e1)
 |.loc _::_,_,_,.cons _ _,e=>by cases e|.exc _ _::_,_,_,.cons _ _,e=>by cases e|.dic _::_,_,_,.cons _ _,e=>by cases e|.ob _::_,_,_,.cons _ _,e=>by cases e
def aAA(fs:FA):FE:=λ env S=>(fs env S).bind λ p=>(jY p.1).bind λ ds=>if ↑ds<=qk then J (.d (Tz ds),p.2) else qx
def aZN{fs:FA}(h:PA X es (fA X.K fs)):PE X (.Tuple es k pos) (bC X.K (aAA fs)):=
 PE.weak (aMt h) λ σ H Q bB=>by
  let(F,L,S,env,w,S',R,E,e,q):=bB;let((ws,S1),e1,e2):=aS e;let(ds,e3,e4):=aS e2;split at e4
  .rename_i hz;cases e4;refine(F,L,S,env,ws,_,R,E,e1,λ F1 L1 H1 vs g1 R1 d1=>?_,);let dl:=rB d1 e3;refine(by rw[<- dl.length];exact hz,λ p hp=>?_,);exact q _ L1 _ _ (g1.trans (Gr.new (R1.sub.free hp))) (R1.new hp) (Den.tup (cK.of cU) (dl.mono (fM (R1.sub.free hp))))
  .cases e4
def aAy(fs:FA):FL:=λ env S=>(fs env S).bind λ p=>(jY p.1).bind λ ds=>if ↑ds<=qk then J (ds,p.2) else qx
def aYS{fs:FA}(h:PA X es (fA X.K fs)):PE X (.List es pos) (kJ X.K (aAy fs)):=
 PE.weak (aE6 h) λ σ H Q bB=>by
  let(F,L,S,env,ds,S',R,E,e,q):=bB;let((ws,S1),e1,e2):=aS e;let(ds',e3,e4):=aS e2;split at e4
  .rename_i hz;cases e4;refine(F,L,S,env,ws,_,R,E,e1,λ F1 L1 H1 vs g1 R1 d1=>?_,);let dl:=rB d1 e3;exact(by rw[<- dl.length];exact hz,λ p hp=>q F1 L1 _ p vs g1 (R1.lay hp) (R1.sub.free hp) (R1.notin hp) cU dl,)
  .cases e4
def mK(f:FL):FE:=λ env S=>(f env S).bind λ p=>J (.d (Lz p.1),p.2)
def aOn{f:FL}(h:PE X e (kJ X.K f)):PE X e (bC X.K (mK f)):=
 PE.weak h λ σ H Q bB=>by
  let(F,L,S,env,w,S',R,E,e,q):=bB;let((ds,S1),e1,e2):=aS e;cases e2;exact(F,L,S,env,ds,_,R,E,e1,λ F1 L1 H1 p xs g1 R1 hF hL hH dl=>q _ L1 _ _ (g1.trans (Gr.new hF)) (R1.adopt hF hL hH) (Den.lst (cE.of cU) (dl.mono (fM hF))),)
def oV(f:FL):FE:=λ env S=>(f env S).bind λ p=>J (.loc p.2.length,p.2++[J p.1])
def aZx{f:FL}(h:PE X e (kJ X.K f)):PE X e (bC X.K (oV f)):=
 PE.weak h λ σ H Q bB=>by
  let(F,L,S,env,w,S',R,E,e,q):=bB;let((ds,S1),e1,e2):=aS e;cases e2;refine(F,L,S,env,ds,_,R,E,e1,λ F1 L1 H1 p xs g1 R1 hF hL hH dl=>q _ _ _ _ (g1.trans Gr.newLoc) (R1.adoptLoc hF hL hH dl) (p,?_,U,),);dsimp only;rw[<- R1.len,yAh (yAd _)];simp
def onD{α:Type}(f:D->Option α):W->Option α
 |.d x=>f x|_=>qx
def aB6{α:Type}{f:D->Option α}{z:α}(h:onD f w=J z):∃ d,w=.d d/\f d=J z:=by cases w<;>first|exact(_,U,h,)|cases h
noncomputable abbrev wI{α:Type}(f:Int->Option α):W->Option α:=onD (mO f)
def oO{α:Type}{f:Int->Option α}{z:α}(h:wI f w=J z):∃ i,w=.d (Iz i)/\f i=J z:=by let(d,U,h):=aB6 h;let(i,U,h):=oH h;exact(i,U,h,)
def bM(x y:D):Oz D:=match x with|.list xs=>mO (pI xs) y|.tuple xs=>mO (pI xs) y|_=>qx
def aKw{xs:G V}{i:Int}(h:DenL K F ds xs)(e:pI ds i=J d):∃ x,pI xs i=J x/\Den K F d x:=by unfold pI at e ⊢;rw[<- h.length];let(j,e1,e2):=aS e;let(x,e3,dx):=h.get e2;simp_all
def aTp:IxR X (rD2 X bM):=λ value kL aB s σ H x y v u Q I rx ry bB hs=>by
 let(F,L,S,dx,dy,z,R,nx,ny,e,q):=bB;cases dx with
 |list l=>
   let(i,U,e):=oH e;let(a,xs,U,sq,dl):=nx.lst R.sub;let(r,e1,d1):=aKw dl e;exact aUV value kL aB s σ H _ y v u Q I rx ry (a,xs,_,r,U,ny.int,sq,e1,q.here R d1,) hs
 |tuple l=>
   let(i,U,e):=oH e;let(a,xs,U,sq,dl):=nx.tup R.sub;let(r,e1,d1):=aKw dl e;exact aWs value kL aB s σ H _ y v u Q I rx ry (a,xs,_,r,U,ny.int,sq,e1,q.here R d1,) hs
 |_=>cases e
def qP(fa fb:FE):FE:=f2 fa fb (jP bM)
def bBx{fa fb:FE}(ha:PE X a (bC X.K fa))(hb:PE X b (bC X.K fb))(hs:wZ b):PE X (.Subscript a b pos) (bC X.K (qP fa fb)):=
 PE.weak (aNs aTp ha hb hs) (aCN aBT)
abbrev FO:=aY->aD->Option (Option Int×aD)
def fNo:FO:=λ _ S=>J (qx,S)
def uP(fa:FE):FO:=λ env S=>(fa env S).bind λ p=>wI (λ i=>J (J i,p.2)) p.1
def nF(K:FrG)(f:FO):TO:=λ σ H Q=>∃ F L S env o S',Rel K F L S H/\EnvR K F L env σ/\f env S=J (o,S')/\∀ F' L' H',Gr F L F' L'->Rel K F' L' S' H'->Q o H'
def bA6:PO X qx (nF X.K fNo):=λ aB s σ H Q I bB=>by
 let(F,L,S,env,o,S',R,E,e,q):=bB;cases e;exact aUs aB s σ H Q I (q F L H Gr.refl R)
def aXU{fa:FE}(ha:PE X a (bC X.K fa)):PO X (J a) (nF X.K (uP fa)):=λ aB s σ H Q I bB=>by
 let(F,L,S,env,o,S',R,E,e,q):=bB;let((w,S1),e1,e2):=aS e;let(i,U,e2):=oO e2;cases e2;refine aUA ha aB s σ H Q I (F,L,S,env,_,_,R,E,e1,λ F1 L1 H1 v g1 R1 d1=>?_,);cases (show Den X.K F1 (.int _) v from d1);exact(_,U,q F1 L1 H1 g1 R1,)
def gM(xs:G D)(lo hi:Oz Int):G D:=(xs.drop (HT.sIx ↑xs 0 lo)).take (HT.sIx ↑xs ↑xs hi-HT.sIx ↑xs 0 lo)
def aKi{xs:G V}(h:DenL K F ds xs)(lo hi:Oz Int):DenL K F (gM ds lo hi) (oS xs lo hi):=by unfold gM oS;rw[h.length];exact(h.drop _).take _
def slL:D->Oz Int->Oz Int->Oz (G D)
 |.list xs,lo,hi=>J (gM xs lo hi)|_,_,_=>qx
def aNQ(fa:FE)(fl fh:FO):FL:=λ env S=>(fa env S).bind λ p=>(fl env p.2).bind λ q=>(fh env q.2).bind λ r=>(dr r.2 p.1).bind λ d=>(slL d q.1 r.1).bind λ z=>J (z,r.2)
def aZT{lo hi:Option qy}{fa:FE}{fl fh:FO}(ha:PE X a (bC X.K fa))(hl:PO X lo (nF X.K fl))(hh:PO X hi (nF X.K fh)):PE X (.Subscript a (.Slice lo hi qx p2) pos) (kJ X.K (aNQ fa fl fh)):=
 PE.weak (aJe aVw ha hl hh) λ σ H Q bB=>by
  let(F,L,S,env,ds,S',R,E,e,q):=bB;let((w,S1),e1,e):=aS e;let((l,S2),e2,e):=aS e;let((h,S3),e3,e):=aS e;let(d,e4,e):=aS e;let(z,e5,e):=aS e;cases e;refine(F,L,S,env,w,S1,R,E,e1,λ F1 L1 H1 v g1 R1 d1=>(F1,L1,S1,env,l,S2,R1,E.mono g1,e2,λ F2 L2 H2 g2 R2=>(F2,L2,S2,env,h,S3,R2,E.mono (g1.trans g2),e3,λ F3 L3 H3 g3 R3=>?_,),),);let n:=mZ R3 (d1.mono (g2.trans g3)) e4;cases d with
  |list xs=>
    cases e5;let(a,vs,U,sq,dl):=n.lst R3.sub;exact(a,vs,U,sq,λ p hp=>q F3 L3 _ p _ ((g1.trans g2).trans g3) (R3.lay hp) (R3.sub.free hp) (R3.notin hp) cU (aKi dl l h),)
  |_=>cases e5
def qO(K:FrG)(np:Nat)(call:G W->aD->Oz (W×aD)):Sp:=λ vs H Q _=>∃ F L S ws w S',↑ws=np/\Rel K F L S H/\WDenL K F L ws vs/\call ws S=J (w,S')/\uY K F L S' w Q
def aCn(fs:FA)(np:Nat)(call:G W->aD->Oz (W×aD)):FE:=λ env S=>(fs env S).bind λ p=>if p.1.length=np then call p.1 p.2 else qx
def aWE{fs:FA}{call:G W->aD->Oz (W×aD)}(σ:St)(H:Hp)(Q:VK)(h:bC K (aCn fs np call) σ H Q):aCb (qO K np call) [] E0 (fA K fs) σ H Q:=by
 let(F,L,S,env,w,S',R,E,e,q):=h;let((ws,S1),e1,e):=aS e;split at e
 .rename_i hn;refine(F,L,S,env,ws,S1,R,E,e1,λ F1 L1 H1 vs g1 R1 d1=>(F1,L1,S1,ws,w,S',hn,R1,by rw[yBc];exact d1,e,λ F2 L2 H2 v g2 R2 d2=>q F2 L2 H2 v (g1.trans g2) R2 d2,),)
 .cases e
inductive NowL (K:FrG) (F H:Hp):List D->List V->Prop
 |nil:NowL K F H [] []
 |cons {d:D}{ds:List D}{x:V}{xs:List V}:cP K F H d x->NowL K F H ds xs->NowL K F H (d::ds) (x::xs)
def pJ(S:aD):G W->Oz (G D)
 |[]=>J []|w::r=>(dr S w).bind λ d=>(pJ S r).bind λ l=>J (d::l)
def aKX(R:Rel K F L S H):∀ {ws:G W}{xs:G V}{ds:G D},WDenL K F L ws xs->pJ S ws=J ds->NowL K F H ds xs
 |_,_,_,.nil,e=>by cases e;exact .nil
 |_,_,_,.cons h t,e=>by
   let(d,e1,e):=aS e;let(l,e2,e):=aS e;cases e;exact .cons (mZ R h e1) (aKX R t e2)
def qN(X:Cx)(g:G D->Oz D):G V->Hp->VK->Prop:=λ xs H Q=>∃ F L S ds z,Rel X.K F L S H/\NowL X.K F H ds xs/\g ds=J z/\iP X F L S z Q
def sB(fs:FA)(g:G D->Oz D):FE:=λ env S=>(fs env S).bind λ p=>(pJ p.2 p.1).bind λ ds=>(g ds).bind λ z=>J (.d z,p.2)
def rT{fs:FA}{g:G D->Oz D}(σ:St)(H:Hp)(Q:VK)(h:bC X.K (sB fs g) σ H Q):tCB (qN X g) (fA X.K fs) σ H Q:=by let(F,L,S,env,w,S',R,E,e,q):=h;let((ws,S1),e1,e):=aS e;let(ds,e2,e):=aS e;let(z,e3,e):=aS e;cases e;refine(F,L,S,env,ws,_,R,E,e1,λ F1 L1 H1 vs g1 R1 d1=>(F1,L1,S1,ds,z,R1,aKX R1 d1 e2,e3,aEf X U λ F2 L2 H2 v g2 R2 d2=>q F2 L2 H2 v (g1.trans g2) R2 d2,),)
section
variable {prog:zx}{w:zj}{A:zv}{E:qj->qv->Prop}
def aId{it t:qw}{bD:Array qj}(hne:t≠it):∀ (n i:Nat) (s:qv) (Q:List qj->qv->Prop),s.heap.IsListIter it t i->s.heap.IsList t bD->i+n<=bD.size ->
 (∀ h',h'.IsListIter it t (i+n)->yCl it s.heap h'->Q ((bD.toList.drop i).take n) {s with heap:=h' })->qu (model prog w) A (draw (.ref it) n) Q E s
 |0,i,s,Q,hit,_,_,hQ=>wP (hQ s.heap hit (Heap.SameBut.refl _ _):)
 |n+1,i,s,Q,hit,hl,hle,hQ=>by
   let hlt:i<bD.size:=by omega
   show qu _ _ (yq (.ref it) >>= _) Q E s;refine wB (vw hit hl (x:=bD[i]) (by simp[hlt]) λ h1 hit1 hs1=>?_);refine wB (zk (aId hne n (i+1) _ _ hit1 (hl.extBut hs1.extBut hne) (!_) λ h2 hit2 hs2=>wP ?_));let q:=hQ h2 (by rw[show i+(n+1)=i+1+n by omega];exact hit2) (hs1.trans hs2);rw[yEe (hlt:),List.take_succ_cons] at q;exact q
end
def aPr{A:zv}{E:qj -> qv -> Prop}{s:qv}{x1}{Q:Unit->qv->Prop}(hh:A.handled=qx)(hl:s.heap.IsList t bD)(hn:(zo elts env).length=bD.size)(hstar:(zo elts env).findIdx? (·.1)=qx)(h:∀ h',Heap.ExtBut s.heap.objs.size s.heap h'->qu (model prog w) A (assignInOrder ((zo elts env).map (·.2)) bD.toList) Q E {s with heap:=h' }) :
 qu (model prog w) A (assign (.Tuple elts x1 pos) env (.ref t)) Q E s:=by
 let hlt:t≠s.heap.objs.size:=by let(o,ho,_):=hl;exact xAj (xAa ho)
 let hl1:∀ o,(s.heap.push o).IsList t bD:=λ o=>let ⟨u,hu,r⟩:=hl;(u,hpS _ hu,r,)
 rw[arm_assign_Tuple];refine wB (yw ?_);unfold unpack;rw[hn,hstar];refine wB (zk ?_);unfold unpackItems;refine wB ?_;unfold notIterableAtAll;refine wB (wj hl.typeIs slot_list_iter.lookup (wP ?_));simp only[yAv,if_false];refine wB (zk (jw hl ?_));refine wB (zk (aId hlt bD.size 0 _ _ (_,xAd _ U,U,U,) (hl1 _) (!_) λ h1 hit1 hs1=>?_));rw[show yFk bD.size (List.drop 0 bD.toList)=bD.toList by rw[yGi];exact yCo (by simp)];rw[if_neg (by simp)];let hl2:h1.IsList t bD:=(hl1 _).extBut hs1.extBut hlt;refine wB (zk (vk hh hit1 hl2 (by simp) λ h2 he2=>?_));simp only[Option.isSome_none,yAv,if_false];exact wP (h h2 λ b o hb e=>he2 b o hb (hs1.extBut b o hb (hpS _ e)))
def aFT(K:FrG)(n:Nat)(t:kI):TG:=λ v σ H Q=>∃ a xs,v=.ref a/\(cK K H a xs\/cE K H a xs)/\↑xs=n/\t xs σ H Q
def aXB(hc:X.calm=Z)(h:sP X es t)(hn:(zo es X.env).length=n)(hst:(zo es X.env).findIdx? (·.1)=qx):PG X (.Tuple es k pos) (aFT X.K n t):=by
 intro aB s σ H v u Q I r hw;let(a,xs,e1,hq,hl,hw):=hw;rcases hq with hq|hq
 .exact aVJ hc h hn hst aB s σ H v u Q I r (a,xs,e1,hq,hl,hw,)
 .subst e1;cases r;let(aK,rv,pl,hz):=I.list hq;refine aPr (I.ok.hd hc) pl.isList (by simp[hn,<- hl,rv.length]) hst λ h' hx=>?_
  let I1:Inv X aB σ H {s with heap:=h' }:=I.kept (t':=s.toks) λ b o e=>hx b o (xAj (xAa e)) e
  exact h aB _ σ H xs _ Q I1 (rv:) hw
def aNP(K:FrG)(D:Ends)(F':Hp)(L':Lx)(H':Hp):Fl->Prop
 |.nx aW=>∀ σ',EnvR K F' L' aW σ'->D.nx σ' H'|.rt w=>∀ v,eS K F' L' w v->D.rt v H'|.bk aW=>∀ σ',EnvR K F' L' aW σ'->D.bk σ' H'|.ct aW=>∀ σ',EnvR K F' L' aW σ'->D.ct σ' H'
def oG{f:FS}{D:Ends}(R:Rel K F L S H)(E:EnvR K F L env σ)(e:f env S=J (fl,S'))(q:∀ F' L' H',Gr F L F' L'->Rel K F' L' S' H'->aNP K D F' L' H' fl):eI K f D σ H:=⟨F,L,S,env,fl,S',R,E,e,λ F' L' H' g R'=>by
 have:=q F' L' H' g R';cases fl<;>exact this⟩
def lJ{f:FS}{D:Ends}{σ:St}{H:Hp}(h:eI K f D σ H):∃ F L S env fl S',Rel K F L S H/\EnvR K F L env σ/\f env S=J (fl,S')/\∀ F' L' H',Gr F L F' L'->Rel K F' L' S' H'->aNP K D F' L' H' fl:=by
 let(F,L,S,env,fl,S',R,E,e,q):=h;exact⟨F,L,S,env,fl,S',R,E,e,λ F' L' H' g R'=>by
  have:=q F' L' H' g R';cases fl<;>exact this⟩
def uW:FS:=λ env S=>J (.nx env,S)
def aYf:eG X [] (eI X.K uW):=eG.weak aKO λ D σ H h=>by
 let(F,L,S,env,fl,S',R,E,e,q):=lJ h;cases e;exact q F L H Gr.refl R σ E
def kZ(fa fb:FS):FS:=λ env S=>(fa env S).bind λ p=>match p.1 with|.nx e=>fb e p.2|fl=>J (fl,p.2)
def bAA{fa fb:FS}(ha:PS X a (eI X.K fa))(hb:eG X b (eI X.K fb)):eG X (a::b) (eI X.K (kZ fa fb)):=eG.weak (aJv ha hb) λ D σ H h=>by
 let(F,L,S,env,fl,S',R,E,e,q):=lJ h;let((f1,S1),e1,e2):=aS e;cases f1 with
 |nx e'=>exact oG R E e1 λ F1 L1 H1 g1 R1 σ1 E1=>oG R1 E1 e2 λ F2 L2 H2 g2 R2=>q F2 L2 H2 (g1.trans g2) R2|rt w=>cases e2;exact oG R E e1 λ F1 L1 H1 g1 R1=>q F1 L1 H1 g1 R1|bk e'=>cases e2;exact oG R E e1 λ F1 L1 H1 g1 R1=>q F1 L1 H1 g1 R1|ct e'=>cases e2;exact oG R E e1 λ F1 L1 H1 g1 R1=>q F1 L1 H1 g1 R1
def yT(fa:FE):FS:=λ env S=>(fa env S).bind λ p=>J (.nx env,p.2)
def aYt{pos:Pos}{fa:FE}(h:PE X e (bC X.K fa))(hs:swapsWith e qx pos.line X.env=pure Ff):PS X (.Expr e pos) (eI X.K (yT fa)):=PS.weak (aUE h hs) λ D σ H h=>by
 let(F,L,S,env,fl,S',R,E,e,q):=lJ h;let((w,S1),e1,e2):=aS e;cases e2;exact(F,L,S,env,w,_,R,E,e1,λ F1 L1 H1 v g1 R1 d1=>q F1 L1 H1 g1 R1 σ (E.mono g1),)
def qL(fa:FE):FS:=λ env S=>(fa env S).bind λ p=>J (.rt p.1,p.2)
def aY9{fa:FE}(h:PE X e (bC X.K fa)):PS X (.Return (J e) pos) (eI X.K (qL fa)):=PS.weak (aVX h) λ D σ H h=>by
 let(F,L,S,env,fl,S',R,E,e,q):=lJ h;let((w,S1),e1,e2):=aS e;cases e2;exact(F,L,S,env,w,_,R,E,e1,λ F1 L1 H1 v g1 R1 d1=>q F1 L1 H1 g1 R1 v d1,)
def aZe:FS:=λ env S=>J (.rt (.d .none),S)
def pG(fc:FT)(fa fb:FS):FS:=λ env S=>(fc env S).bind λ p=>if p.1=Z then fa env p.2 else fb env p.2
def bB6{fc:FT}{fa fb:FS}(hc:PT X c (gN X.K fc))(ha:eG X a (eI X.K fa))(hb:eG X b (eI X.K fb)):PS X (.If c a b pos) (eI X.K (pG fc fa fb)):=PS.weak (aZF hc ha hb) λ D σ H h=>by
 let(F,L,S,env,fl,S',R,E,e,q):=lJ h;let((c,S1),e1,e2):=aS e;refine(F,L,S,env,c,S1,R,E,e1,λ F1 L1 H1 g1 R1=>?_,);cases c with
 |true=>exact aAm (oG R1 (E.mono g1) (e2:) λ F2 L2 H2 g2 R2=>q F2 L2 H2 (g1.trans g2) R2)|false=>exact aAi (oG R1 (E.mono g1) (e2:) λ F2 L2 H2 g2 R2=>q F2 L2 H2 (g1.trans g2) R2)
def kY(i:Nat)(fa:FE):FS:=λ env S=>(fa env S).bind λ p=>J (.nx (env.set i (J p.1)),p.2)
def aMV{fa:FE}(D:Ends)(σ:St)(H:Hp)(h:eI K (kY i fa) D σ H):aAa (bC K fa) (pX i) D σ H:=by let(F,L,S,env,fl,S',R,E,e,q):=lJ h;let((w,S1),e1,e2):=aS e;cases e2;exact(F,L,S,env,w,_,R,E,e1,λ F1 L1 H1 v g1 R1 d1=>q F1 L1 H1 g1 R1 _ ((E.mono g1).set i d1),)
def aMO{pos:Pos}{fa:FE}(hN:X.N.Nodup)(hi:X.N[i]?=J x)(hx:Loc X.env.scope x)(he:PE X e (bC X.K fa))(hs:swapsWith e (J (.Name x pos')) pos.line X.env=pure Ff)(hf:X.fn x=Z\/X.env.scope.names.lookup x=J .local) :
 PS X (.Assign [.Name x pos'] e pos) (eI X.K (kY i fa)):=PS.weak (aWD hN hi hx he hs hf) aMV
def nZ:G Nat->G D->aY->Option aY
 |[],[],env=>J env|i::is,d::ds,env=>nZ is ds (env.set i (J (.d d)))|_,_,_=>qx
inductive Tg where
 |one (i:Nat)|many (is:List Nat)
def Tg.put:Tg->D->aY->Option aY
 |.one i,d,env=>J (env.set i (J (.d d)))|.many is,.tuple ds,env=>nZ is ds env|.many is,.list ds,env=>nZ is ds env|.many _,_,_=>qx
def GA(K:FrG)(t:Tg)(g:TG):Prop:=∀ (d:D) (x:V) (σ:St) (H F:Hp) (L:Lx) (S:aD) (env aW:aY) (Q:St->Hp->Prop),
 Rel K F L S H->EnvR K F L env σ->Den K F d x->t.put d env=J aW->(∀ σ',EnvR K F L aW σ'->Q σ' H)->g x σ H Q
def aYe(i:Nat):GA K (.one i) (pX i):=λ d x σ H F L S env aW Q R E dn e q=>by
 cases e;exact q _ (E.set i (w:=.d d) dn)
def GAs(K:FrG)(is:G Nat)(g:kI):Prop:=∀ (ds:G D) (xs:G V) (σ:St) (H F:Hp) (L:Lx) (S:aD) (env aW:aY) (Q:St->Hp->Prop),
 Rel K F L S H->EnvR K F L env σ->DenL K F ds xs->nZ is ds env=J aW->(∀ σ',EnvR K F L aW σ'->Q σ' H)->g xs σ H Q
def aTv:GAs K [] aFH:=λ ds xs σ H F L S env aW Q R E dn e q=>by
 cases dn with
 |nil=>cases e;exact(U,q σ E,)|cons _ _=>cases e
def aSD(h:GAs K is g):GAs K (i::is) (aFD (pX i) g):=λ ds xs σ H F L S env aW Q R E dn e q=>by
 cases dn with
 |nil=>cases e|cons d1 dr=>exact(_,_,U,h _ _ _ H F L S _ aW Q R (E.set i (w:=.d _) d1) dr e q,)
def aDs:∀ {is:G Nat}{ds:G D}{env aW:aY},nZ is ds env=J aW->↑is=↑ds
 |[],[],_,_,_=>rfl|_::is,_::ds,_,_,e=>congrArg (· + 1) (@aDs is ds _ _ e)|[],_::_,_,_,e=>by cases e|_::_,[],_,_,e=>by cases e
def aTd(h:GAs K is g):GA K (.many is) (aFT K ↑is g):=λ d x σ H F L S env aW Q R E dn e q=>by
 cases d with
 |tuple ds=>
   cases dn with
   |tup sq dl=>exact(_,_,U,.inl (jX R.sub sq),by rw[<- dl.length];exact(aDs e).symm,h _ _ σ H F L S env aW Q R E dl e q,)
 |list ds=>
   cases dn with
   |lst sq dl=>exact(_,_,U,.inr (R.sub.seq sq),by rw[<- dl.length];exact(aDs e).symm,h _ _ σ H F L S env aW Q R E dl e q,)
 |_=>cases e
def yV(t:Tg)(fa:FE):FS:=λ env S=>(fa env S).bind λ p=>match p.1 with|.d d=>(t.put d env).bind λ e=>J (.nx e,p.2)|_=>qx
def aYH{fa:FE}(hg:GA K t g)(D:Ends)(σ:St)(H:Hp)(h:eI K (yV t fa) D σ H):aAa (bC K fa) g D σ H:=by
 let(F,L,S,env,fl,S',R,E,e,q):=lJ h;let((w,S1),e1,e2):=aS e;dsimp only at e2;split at e2
 .let(e',e3,e4):=aS e2;cases e4;exact(F,L,S,env,_,_,R,E,e1,λ F1 L1 H1 v g1 R1 d1=>hg _ v σ H1 F1 L1 _ env e' _ R1 (E.mono g1) d1 e3 λ σ' E'=>q F1 L1 H1 g1 R1 σ' E',)
 .cases e2
def rX(S:aD)(o i x:W):Option aD:=match o with|.loc n=>wI (λ k=>onD (λ x=>(S[n]?).bind λ o=>o.bind λ ds=>(kF ↑ds k).bind λ j=>J (S.set n (J (ds.set j x)))) x) i|_=>qx
def uX(fo fi fe:FE):FS:=λ env S=>(fe env S).bind λ p=>(fo env p.2).bind λ q=>(fi env q.2).bind λ r=>(rX r.2 q.1 r.1 p.1).bind λ S'=>J (.nx env,S')
def aP4(h:rX S o i x=J S'):∃ n k d ds j,o=.loc n/\i=.d (Iz k)/\x=.d d/\S[n]?=J (J ds)/\kF ↑ds k=J j/\S'=S.set n (J (ds.set j d)):=by
 cases o with
 |loc n=>
   let(k,U,h):=oO h;let(d,U,h):=aB6 h;let(o,e,h):=aS (o:=S[n]?) h;let(ds,U,h):=aS (o:=o) h;let(j,e1,e2):=aS (o:=kF ↑ds k) h;exact(_,_,_,ds,j,U,U,U,e,e1,(Option.some.inj e2).symm,)
 |_=>cases h
def bAD{fo fi fe:FE}(D:Ends)(σ:St)(H:Hp)(h:eI K (uX fo fi fe) D σ H):aAa (bC K fe) (aND (bC K fo) (bC K fi) aNt) D σ H:=by
 let(F,L,S,env,fl,S',R,E,e,q):=lJ h;let((we,S1),e1,e):=aS e;let((wo,S2),e2,e):=aS e;let((wi,S3),e3,e):=aS e;let(S4,e4,e):=aS e;cases e;let(n,k,d,ds,j,U,U,U,e5,e6,U):=aP4 e4;refine(F,L,S,env,_,S1,R,E,e1,λ F1 L1 H1 v g1 R1 d1=>(F1,L1,S1,env,_,S2,R1,E.mono g1,e2,λ F2 L2 H2 o g2 R2 d2=>(F2,L2,S2,env,_,S3,R2,E.mono (g1.trans g2),e3,λ F3 L3 H3 i g3 R3 d3=>?_,),),);let(a,ea,U):=d2.mono g3;let(fa,xs,ha,dl):=R3.loc n a ds ea e5;let hi:i=.int k:=by cases (show Den K F3 (.int k) i from d3);rfl
 refine(a,xs,k,j,U,hi,ha,by rw[<- dl.length];exact e6,?_,);exact q F3 L3 _ ((g1.trans g2).trans g3) (R3.put ea fa (dl.set j (show Den K F3 d v from d1.mono (g2.trans g3)))) σ (E.mono ((g1.trans g2).trans g3))
def aZn{pos:Pos}{fo fi fe:FE}(ho:PE X o (bC X.K fo))(hi:PE X i (bC X.K fi))(he:PE X e (bC X.K fe))(ha:∀ v,assign (.Subscript o i pos') X.env v=(do
 let ov <- holding [v] (eval o X.env);let iv <- holding [v,ov] (eval i X.env)
 standAt pos'
 holding [v,ov,iv] (setItem ov iv v)
 release [v,ov,iv] []))(hs:swapsWithSole [.Subscript o i pos'] e pos.line X.env=pure Ff)(hw:yv [.Subscript o i pos'] e X.env=pure qx):PS X (.Assign [.Subscript o i pos'] e pos) (eI X.K (uX fo fi fe)):=
 PS.weak (aLV he (aXt ho hi aSi ha) hs hw) bAD
def vH(S:aD)(n:Nat)(x:D):Oz (W×aD):=match S[n]? with
 |some (J ds)=>if ↑ds<qk then J (.d .none,S.set n (J (ds++[x]))) else qx
 |_=>qx
def eE(S:aD):W->W->Oz (W×aD)
 |.loc n,.d x=>match S[n]? with
   |some (J ds)=>if ↑ds<qk then J (.d .none,S.set n (J (ds++[x]))) else qx
   |_=>qx
 |.loc n,.tpl ws=>(fV ws).bind λ l=>vH S n (.tuple l)|_,_=>qx
def aIh(h:vH S n d=J (w,S')):∃ ds,S[n]?=J (J ds)/\↑ds<qk/\w=.d .none/\S'=S.set n (J (ds++[d])):=by
 unfold vH at h;split at h
 .rename_i ds e;split at h
  .rename_i hz;cases h;exact(ds,e,hz,U,U,)
  .cases h
 .cases h
def aIp(h:eE S o x=J (w,S')):∃ n d ds,o=.loc n/\wd x=J d/\S[n]?=J (J ds)/\↑ds<qk/\w=.d .none/\S'=S.set n (J (ds++[d])):=by
 cases o with
 |loc n=>
   cases x with
   |d x=>
     let(ds,h1,h2,h3,h4):=@aIh _ n x _ _ h;exact(n,x,ds,U,U,h1,h2,h3,h4,)
   |tpl ws=>
     let(l,e,h):=aS (show(fV ws).bind (λ l=>vH S n (.tuple l))=J (w,S') from h);let(ds,h1,h2,h3,h4):=aIh h;exact(n,_,ds,U,by rw[wd,e];rfl,h1,h2,h3,h4,)
   |_=>cases h
 |_=>cases x<;>cases h
def aCQ(fo fe:FE):FE:=f2 fo fe eE
def yZ{fo fe:FE}(σ:St)(H:Hp)(Q:VK)(h:bC K (aCQ fo fe) σ H Q):tBM K "list" aKd (bC K fo) (fA K (dD fe iJ)) σ H Q:=by
 let(F,L,S,env,w,S',R,E,e,q):=h;let((wo,S1),e1,e):=aS e;let((we,S2),e2,e):=aS e;let(n,d,ds,U,ed,e5,hz,U,U):=aIp e;refine(F,L,S,env,_,S1,R,E,e1,λ F1 L1 H1 o g1 R1 d1=>?_,);let(a,ea,U):=d1;refine(.inl (U,?_,),F1,L1,S1,env,[we],S2,R1,E.mono g1,?_,λ F2 L2 H2 vs g2 R2 d2=>?_,)
 .let(xs,hx):=R1.trl ea;exact(xs,cE.of hx,)
 .unfold dD;rw[e2];rfl
 .cases d2 with
  |cons dd dr=>
    cases dr;let ea2:=g2.get ea;let(fa,xs,ha,dl):=R2.loc n a ds ea2 e5;exact(a,xs,_,U,U,ha,by rw[<- dl.length];exact hz,q F2 L2 _ _ (g1.trans g2) (R2.put ea2 fa (dl.append (.cons (aB2 dd ed) .nil))) Den.non,)
structure Wk(K:FrG)(F:Hp)(L:Lx)(J:It)(ds:List D):Prop where
 go:∀ (i:Nat) (H:Hp),cF F H->i<↑ds->J.go i H
 stop:∀ (H:Hp),cF F H->J.stop ↑ds H
 yld:∀ (i:Nat) (H F1:Hp) (L1:Lx) (S:aD) (x:V) (H':Hp) (d:D),Gr F L F1 L1->Rel K F1 L1 S H->ds[i]?=qz d->J.yld i H x H'->∃ F2,cF F1 F2/\Rel K F2 L1 S H'/\Den K F2 d x
def jM(K:FrG)(f:FL):TI:=λ σ H R=>∃ F L S env ds S',Rel K F L S H/\EnvR K F L env σ/\f env S=qz (ds,S')/\∀ F' L' H' J,Gr F L F' L'->Rel K F' L' S' H'->Wk K F' L' J ds->R J H'
def PI.weak{t t':TI}(h:PI X tg iter t)(w:∀ σ H R,t' σ H R->t σ H R):PI X tg iter t':=λ aB s σ H R I q=>h aB s σ H R I (w σ H R q)
def aTV{xs:G V}(sq:cE K F a xs)(dl:DenL K F ds xs):Wk K F L (Itl K a) ds where
 go:=λ i H s hi=>(xs,xs[i]'(by rw[<- dl.length];exact hi),s.seq sq,by simp_all,)
 stop:=λ H s=>(xs,s.seq sq,yEm dl.length.symm,)
 yld:=λ i H F1 L1 S x H' d g R e y=>by
  let(e1,y):=y;subst e1;let h:=y xs ((g.f.trans R.sub).seq sq);let(x',e2,dx):=dl.get e;rw[h] at e2;cases e2;exact(F1,cF.refl _,R,dx.mono g.f,)
def aXy{xs:G V}(sq:cK K F a xs)(dl:DenL K F ds xs):Wk K F L (Itt K a) ds where
 go:=λ i H s hi=>(xs,xs[i]'(by rw[<- dl.length];exact hi),jX s sq,by simp_all,)
 stop:=λ H s=>(xs,jX s sq,yEm dl.length.symm,)
 yld:=λ i H F1 L1 S x H' d g R e y=>by
  let(e1,y):=y;subst e1;let h:=y xs (jX (g.f.trans R.sub) sq);let(x',e2,dx):=dl.get e;rw[h] at e2;cases e2;exact(F1,cF.refl _,R,dx.mono g.f,)
def lZ(lo:Int):Nat->G D
 |0=>[]|n+1=>.int lo::lZ (lo+1) n
def aDp(n:Nat):∀ lo:Int,(lZ lo n).length=n:=by
 induction n with
 |zero=>intro lo;rfl|succ n ih=>intro lo;simp[lZ,ih]
def aJz:∀ (n:Nat) (lo:Int) (i:Nat),i<n->(lZ lo n)[i]?=J (.int (lo+i))
 |0,_,_,h=>by omega|n+1,lo,0,_=>by simp[lZ]
 |n+1,lo,i+1,h=>by
   rw[lZ,yDi,aJz n (lo+1) i (!_)];congr 2
   push_cast
   omega
def aJC(lo:Int)(n:Nat):Wk K F L (Itr lo n) (lZ lo n) where
 go:=λ i H s hi=>by rw[aDp] at hi;exact hi
 stop:=λ H s=>by rw[aDp];exact yAd _
 yld:=λ i H F1 L1 S x H' d g R e y=>by
  let(U,U):=y;let hi:i<n:=by
   have:=(gIm e).1;rw[aDp] at this;exact this
  rw[aJz n lo i hi] at e;cases e;exact(F1,cF.refl _,R,.int _,)
def aNV(fa:FE):FL:=λ env S=>(fa env S).bind λ p=>match p.1 with|.d (Lz ds)=>J (ds,p.2)|_=>qx
def aN5(fa:FE):FL:=λ env S=>(fa env S).bind λ p=>match p.1 with|.d (Tz ds)=>J (ds,p.2)|_=>qx
def aYP{fa:FE}(ha:PE X a (bC X.K fa)):PI X tg a (jM X.K (aNV fa)):=PI.weak (aTw ha) λ σ H Rr bB=>by
 let(F,L,S,env,ds,S',R,E,e,q):=bB;let((w,S1),e1,e2):=aS e;dsimp only at e2;split at e2
 .cases e2;refine(F,L,S,env,_,_,R,E,e1,λ F1 L1 H1 v g1 R1 d1=>?_,);cases (show Den X.K F1 (.list ds) v from d1) with
  |lst sq dl=>exact(_,U,(_,R1.sub.seq sq,),q F1 L1 H1 _ g1 R1 (aTV sq dl),)
 .cases e2
def aZp{fa:FE}(ha:PE X a (bC X.K fa)):PI X tg a (jM X.K (aN5 fa)):=PI.weak (aV8 ha) λ σ H Rr bB=>by
 let(F,L,S,env,ds,S',R,E,e,q):=bB;let((w,S1),e1,e2):=aS e;dsimp only at e2;split at e2
 .cases e2;refine(F,L,S,env,_,_,R,E,e1,λ F1 L1 H1 v g1 R1 d1=>?_,);cases (show Den X.K F1 (.tuple ds) v from d1) with
  |tup sq dl=>exact(_,U,(_,jX R1.sub sq,),q F1 L1 H1 _ g1 R1 (aXy sq dl),)
 .cases e2
def yY(fa:FE):FL:=λ env S=>(fa env S).bind λ p=>wI (λ j=>if -(2^62)<=j/\j<2^62 then J (lZ 0 j.toNat,p.2) else qx) p.1
def zD(fa fb:FE):FL:=λ env S=>(fa env S).bind λ p=>(fb env p.2).bind λ q=>wI (λ i=>wI (λ j=>if (-(2^62)<=i/\i<2^62 /\ -(2^62)<=j/\j<2^62) then J (lZ i (j-i).toNat,q.2) else qx) q.1) p.1
def aWh{fa:FE}(σ:St)(H:Hp)(Rr:It->Hp->Prop)(h:jM K (yY fa) σ H Rr):aML (fA K (dD fa iJ)) σ H Rr:=by
 let(F,L,S,env,ds,S',R,E,e,q):=h;let((w,S1),e1,e2):=aS e;let(j,U,e2):=oO e2;let(c,e2):=iC e2;cases e2;refine(F,L,S,env,[.d (Iz j)],_,R,E,by unfold dD;rw[e1];rfl,λ F1 L1 H1 vs g1 R1 d1=>?_,);cases d1 with
 |cons dd dr=>
   cases dr;cases (show Den K F1 (.int j) _ from dd);exact(j,U,c.1,c.2,q F1 L1 H1 _ g1 R1 (aJC 0 j.toNat),)
def aXr{fa fb:FE}(σ:St)(H:Hp)(Rr:It->Hp->Prop)(h:jM K (zD fa fb) σ H Rr):aMy (fA K (dD fa (dD fb iJ))) σ H Rr:=by
 let(F,L,S,env,ds,S',R,E,e,q):=h;let((w,S1),e1,e2):=aS e;let((w2,S2),e3,e4):=aS e2;dsimp only at e4;let(i,U,e5):=oO e4;let(j,U,e6):=oO e5;let(c,e7):=iC e6;cases e7;refine(F,L,S,env,[.d (Iz _),.d (Iz _)],_,R,E,by unfold dD;rw[e1];dsimp only[yDr];rw[e3];rfl,λ F1 L1 H1 vs g1 R1 d1=>?_,);cases d1 with
 |cons dd dr=>
   cases dr with
   |cons dd2 dr=>
     cases dr;cases (show Den K F1 (.int _) _ from dd);cases (show Den K F1 (.int _) _ from dd2);exact(_,_,U,c,q F1 L1 H1 _ g1 R1 (aJC _ _),)
def mF(t:Tg)(fb:FS):G D->FS
 |[]=>λ env S=>J (.nx env,S)
 | d::ds=>λ env S=>(t.put d env).bind λ e1=>(fb e1 S).bind λ q=>(match q.1 with
    |.nx e=>mF t fb ds e q.2|.ct e=>mF t fb ds e q.2|.bk e=>J (.nx e,q.2)
    | .rt w=>J (.rt w,q.2))
def kW(t:Tg)(fi:FL)(fb:FS):FS:=λ env S=>(fi env S).bind λ p=>mF t fb p.1 env p.2
def aZU{fi:FL}{fb:FS}(hp:PassesOwn (model X.prog X.w) X.A X.env X.xe)(hc:X.calm=Z)(hi:PI X tg iter (jM X.K fi))(hg:PG X tg g)(ga:GA X.K t g)(hb:eG X b (eI X.K fb))(hs:∀ x,xo iter X.env x=pure x):PS X (.For tg iter b [] pos) (eI X.K (kW t fi fb)):=PS.weak (aVS hp hc hi hg hb hs) λ D σ H h=>by
 let(F,L,S,env,fl,S',R,E,e,q):=lJ h;let((ds,S1),e1,e2):=aS e;refine(F,L,S,env,ds,S1,R,E,e1,λ F0 L0 H0 J g0 R0 wk=>?_,)
 dsimp only at e2;refine⟨λ i m σ1 H1=>i+m=↑ds/\∃ F1 L1 S1 env1,Gr F0 L0 F1 L1/\Rel X.K F1 L1 S1 H1/\EnvR X.K F1 L1 env1 σ1/\mF t fb (ds.drop i) env1 S1=qz (fl,S'),
  (↑ds,yEn _,F0,L0,S1,env,Gr.refl,R0,E.mono g0,by rw[yGi];exact e2,),?_⟩
 rintro i m σ1 H1 ⟨him,F1,L1,S1',env1,g1,R1,E1,e3⟩;cases m with
 |zero=>
   let hi:i=↑ds:=by omega
   subst hi;rw[yGl] at e3;cases e3;exact .inl (wk.stop H1 (g1.f.trans R1.sub),q F1 L1 H1 (g0.trans g1) R1 σ1 E1,)
 |succ m=>
   let hi:i<↑ds:=by omega
   refine .inr ⟨wk.go i H1 (g1.f.trans R1.sub) hi,λ σ3 H3=>∃ F3 L3 S3 env3,Gr F0 L0 F3 L3/\Rel X.K F3 L3 S3 H3/\EnvR X.K F3 L3 env3 σ3/\mF t fb (ds.drop (i+1)) env3 S3=qz (fl,S'),
    λ σ3 H3 h3=>(m,yFm m,by omega,h3,),λ x H2 y=>?_⟩
   rw[yEe hi] at e3;let(env2,e4,e5):=aS e3;let((f6,S6),e6,e7):=aS e5;let(F2,s2,R2,d2):=wk.yld i H1 F1 L1 S1' x H2 ds[i] g1 R1 (yAa hi) y;let g2:Gr F1 L1 F2 L1:=(s2,[],by simp,);refine ga ds[i] x σ1 H2 F2 L1 S1' env1 env2 _ R2 (E1.mono g2) d2 e4 λ σ2 E2=>?_
   refine oG R2 E2 e6 λ F3 L3 H3 g3 R3=>?_
   let g03:=(g1.trans g2).trans g3;cases f6 with
   |nx e'=>exact λ σ3 E3=>(F3,L3,S6,e',g03,R3,E3,e7,)|ct e'=>exact λ σ3 E3=>(F3,L3,S6,e',g03,R3,E3,e7,)|bk e'=>cases e7;exact λ σ3 E3=>q F3 L3 H3 (g0.trans g03) R3 σ3 E3|rt w=>cases e7;exact λ v d=>q F3 L3 H3 (g0.trans g03) R3 v d
def sL(k:Nat):aD->G W0->Oz (G W0×aD)
 |S,[]=>J ([],S)|S,.d x::r=>(sL k S r).map λ p=>(.d x::p.1,p.2)
 |S,.loc m::r=>if m<k then (sL k S r).map λ p=>(.loc m::p.1,p.2) else match S[m]? with
   |some (J ds)=>(sL k (S.set m qx) r).map λ p=>(.d (Lz ds)::p.1,p.2)|_=>qx
 |_,.dic _::_=>qx
def rZ(k:Nat)(S:aD):W->Oz (W×aD)
 |.d x=>J (.d x,S.take k)
 |.loc m=>if m<k then J (.loc m,S.take k) else match S[m]? with
   |some (J ds)=>J (.d (Lz ds),S.take k)|_=>qx
 |.exc c r=>J (.exc c r,S.take k)|.tpl ws=>(sL k S ws).map λ p=>(.tpl p.1,p.2.take k)|_=>qx
def map_some{α β:Type}{o:Option α}{f:α->β}{b:β}(h:o.map f=J b):∃ a,o=J a/\f a=b:=by simp_all
def aBC:∀ {ws:G W0}{vs:G V}{F:Hp}{S:aD}{ws':G W0}{S':aD},Rel K F (L++M) S H->sJ K F (L++M) ws vs->sL ↑L S ws=J (ws',S')->∃ F',cF F F'/\Rel K F' (L++M) S' H/\sJ K F' L ws' vs/\S'.take ↑L=S.take ↑L
 |[],_,F,S,ws',S',R,.nil,e=>by cases e;exact(F,cF.refl _,R,.nil,U,)
 |.d x::r,_,F,S,ws',S',R,.cons h t,e=>by
   let((u,S1),e1,e2):=map_some e;cases e2;let(F',sf,R',d,z):=aBC R t e1;exact(F',sf,R',.cons (Den.mono sf h) d,z,)
 |.loc m::r,_,F,S,ws',S',R,.cons h t,e=>by
   unfold sL at e;let(a,ea,U):=h;split at e
   .rename_i hm;let((u,S1),e1,e2):=map_some e;cases e2;let(F',sf,R',d,z):=aBC R t e1;rw[xAm hm] at ea;exact(F',sf,R',.cons (a,ea,U,) d,z,)
   .rename_i hm;split at e
    .rename_i ds es;let((u,S1),e1,e2):=map_some e;cases e2;let(F2,g2,R2,d2):=R.freeze ea es;let(F',sf,R',d,z):=aBC R2 (L2.Paired.mapP t λ _ _ q=>q.mono g2) e1;refine(F',g2.f.trans sf,R',.cons (Den.mono sf d2) d,z.trans ?_,);rw[List.take_set,yEi (by rw[yBl];omega)]
    .cases e
 |.dic m::r,_,F,S,ws',S',R,.cons h t,e=>by cases e
def gZ(fb:FS)(n:Nat)(ws:G W)(S:aD):Oz (W×aD):=(fb (ws.map J++yAg (n-↑ws) qx) S).bind λ p=>match p.1 with|.rt w=>rZ ↑S p.2 w|.nx _=>J (.d .none,p.2.take ↑S)|_=>qx
def aPX{N:G Str}:∀ {ws:G W}{vs:G V},WDenL K F L ws vs->EnvR K F L (ws.map J++yAg (N.length-↑ws) qx) (L2.start N vs):=by
 intro ws vs h;unfold L2.start;rw[h.length];generalize N.length-↑vs=k;refine(by simp[h.length],?_,)
 induction h with
 |nil=>
   intro i w e;have:=xAk e;simp at this
 |cons hd tl ih=>
   intro i w e;cases i with
   |zero=>simp at e;subst e;exact(_,U,hd,)
   |succ i=>
     let(v,e1,d):=ih i w (e:);exact(v,by simpa using e1,d,)
def aLj{F1:Hp}{L:Lx}{S:aD}{Q:VK}(R:↑L=↑S)(g:Gr F L F1 L1)(R1:Rel K F1 L1 S1 H1)(d:eS K F1 L1 w v)(e:rZ ↑S S1 w=J (w',S'))(q:uY K F L S' w' Q):Q v H1:=by
 let(sf,M,U):=g;cases w with
 |d x=>
   cases e;let R2:=R1.cut;rw[R] at R2;exact q F1 L H1 v (sf,[],by simp,) R2 d
 |exc c r=>
   cases e;let R2:=R1.cut;rw[R] at R2;exact q F1 L H1 v (sf,[],by simp,) R2 d
 |dic n=>cases e|ob fs=>cases e
 |tpl ws=>
   let((u,S2),e1,e2):=map_some (show(sL ↑S S1 ws).map (λ p=>(W.tpl p.1,p.2.take ↑S))=J (w',S') from e);cases e2;let(a,vs,U,h1,h2):=d;rw[<- R] at e1;let(F2,s2,R2,d2,z):=aBC R1 h2 e1;let R3:=R2.cut;rw[R] at R3;exact q F2 L H1 _ (sf.trans s2,[],by simp,) R3 (a,vs,U,s2 _ _ h1,d2,)
 |loc m=>
   let e':(if m<↑S then J (W.loc m,S1.take ↑S) else match S1[m]? with|some (J ds)=>J (W.d (Lz ds),S1.take ↑S)|_=>qx)=J (w',S'):=e;split at e'
   .rename_i hm;cases e';let R2:=R1.cut;rw[R] at R2;let(a,ea,U):=d;rw[xAm (by rw[R];exact hm)] at ea;exact q F1 L H1 _ (sf,[],by simp,) R2 (a,ea,U,)
   .rename_i hm;split at e'
    .rename_i ds es;cases e';let(a,ea,U):=d;let(F2,g2,R2,d2):=R1.freeze ea es;let R3:=R2.cut;rw[R,List.take_set,yEi (by rw[yBl];omega)] at R3;exact q F2 L H1 _ (sf.trans g2.f,[],by simp,) R3 d2
    .cases e'
def aWb{fb:FS}{N:G Str}{Q:VK}{E:XK}(h:qO K np (gZ fb N.length) vs H Q E):eI K fb {nx:=λ _ H'=>Q .non H',rt:=Q } (L2.start N vs) H:=by
 let(F,L,S,ws,w,S',hn,R,dl,e,q):=h;let((fl,S1),e1,e2):=aS e;refine oG R (aPX dl) e1 λ F1 L1 H1 g1 R1=>?_
 cases fl with
 |nx aW=>
   cases e2;exact λ σ' E'=>aLj (w:=.d .none) R.len g1 R1 Den.non U q
 |rt w'=>exact λ v d=>aLj R.len g1 R1 d e2 q|bk aW=>cases e2|ct aW=>cases e2
def aHk{α β:Type}{f:α->β->Sem (ForInStep β)}{g:α->β->β}:∀ (l:List α) (c:β),(∀ x∈l,∀ c,f x c=pure (ForInStep.yield (g x c)))->forIn l c f=pure (l.foldl (λ c x=>g x c) c)
 |[],c,_=>rfl
 |x::l,c,h=>by
   rw[List.forIn_cons,h x xAc c,pure_bind];exact aHk l (g x c) λ y hy=>h y (xAf _ hy)
def lS(env:Env)(x:Str×jk)(cs:G (Str×qw)):G (Str×qw):=if (x.2==NameKind.free)=Z then (x.1,(env.cells.lookup x.1).getD 0)::cs else cs
def zV(scope:zw)(env:Env):G (Str×qw):=scope.names.foldl (λ c x=>lS env x c) []
def aQn{scope:zw}{env:Env}(h:∀ x∈scope.names,x.2=.free->∃ c,env.cells.lookup x.1=J c):closureFor scope env=pure (zV scope env):=by
 unfold closureFor zV;dsimp only;rw[aHk (g:=lS env) scope.names [] (λ x hx c=>?_)]
 .rfl
 .let(n,k):=x;unfold lS;dsimp only;by_cases hk:k=.free
  .let(a,ha):=h (n,k) hx hk;rw[if_pos (by simp[hk]),if_pos (by simp[hk])];have:cellOf env n=pure a:=by unfold cellOf;rw[ha]
   rw[this,pure_bind,ha];rfl
  simp_all
def aJb{env:Env}:∀ (l:G (Str×jk)) (aG:G (Str×qw)),(∀ x∈l,x.2=.free->∃ c,env.cells.lookup x.1=J c)->(∀ x c,aG.lookup x=J c->env.cells.lookup x=J c) ->
 ∀ x c,(l.foldl (λ c x=>lS env x c) aG).lookup x=J c->env.cells.lookup x=J c
 |[],aG,_,ha,x,c,e=>ha x c e
 |y::l,aG,h,ha,x,c,e=>by
   refine aJb l (lS env y aG) (λ z hz=>h z (xAf _ hz)) (λ z d ez=>?_) x c e;unfold lS at ez
   grind
def aEz:∀ (l:G (Str×jk)) (aG:G (Str×qw)) (x:Str),((∃ k,(x,k)∈l/\k=.free)\/∃ c,aG.lookup x=J c)->∃ c,(l.foldl (λ c x=>lS env x c) aG).lookup x=J c
 |[],aG,x,h=>by
   simp_all
 |y::l,aG,x,h=>by
   refine aEz l (lS env y aG) x ?_;let step:(∃ c,aG.lookup x=J c)->∃ c,(lS env y aG).lookup x=J c:=λ bB=>by
    let(c,e):=bB;unfold lS;split
    .rw[yCc];split
     .exact(_,U,)
     .exact(c,e,)
    .exact(c,e,)
   rcases h with ⟨k,hk,e⟩|h
   .rcases List.mem_cons.mp hk with z|z
    .right;subst z e;unfold lS;rw[if_pos (by simp)];simp_all
    .exact .inl (k,z,e,)
   .exact .inr (step h)
def aHD(h:Str->jk->jk):∀ l:G (Str×jk),(l.map λ p=>(p.1,h p.1 p.2)).lookup x=(l.lookup x).map (h x)
 |[]=>rfl
 |(n,k)::r=>by
   let ih:=@aHD x h r;rw[yAm,yCc,yCc];cases hx:x==n with
   |true=>
     let e:x=n:=(hx:)
     subst e;rfl
   |false=>exact ih
def aOO{env:Env}(names:G (Str×jk)) :
 (names.map λ(n,k)=>if (k==NameKind.free&&env.scope.kind==.function&&env.kindOf n==J .cell) then (n,NameKind.cell) else (n,k)).lookup x =
   (names.lookup x).map λ k=>if (k==NameKind.free&&env.scope.kind==.function&&env.kindOf x==J .cell) then NameKind.cell else k:=by
 let e:(λ(p:Str×jk)=>match p with|(n,k)=>if (k==NameKind.free&&env.scope.kind==.function&&env.kindOf n==J .cell)=Z then (n,NameKind.cell) else (n,k)) =
  λ p=>(p.1,if (p.2==NameKind.free&&env.scope.kind==.function&&env.kindOf p.1==J .cell)=Z then NameKind.cell else p.2):=funext λ bB=>by
  let(n,k):=bB;dsimp only;split<;>rfl
 rw[e];exact aHD (λ n k=>if (k==NameKind.free&&env.scope.kind==.function&&env.kindOf n==J .cell)=Z then NameKind.cell else k) names
def aPa{R:Result -> qv -> Prop}(I:Nat->qv->Prop)(turn:∀ n s,I n s->qu (model prog w) A (yq it) (λ r s₁=>match r with
   |none=>R (.ok .next) s₁
   | some v=>qu (model prog w) A (vo target it v) (λ _ s₀=>qu (model prog w) A (assign target env v) (λ _ s₂=>
      qu (model prog w) A (forIn ifs Z λ c r=>if r=Z then do let ok <- isTrue c env (eval c env);pure (ForInStep.yield ok) else pure (ForInStep.yield r)) (λ ok s₃=>
       if ok=Z then qu (model prog w) A (eval elt env) (λ x s₄=>
        qu (model prog w) A (call (.builtin "list.append") [aG,x]) (λ _ s₅=>∃ m,m<n/\I m s₅) (λ _ _=>False) s₄) (λ _ _=>False) s₃
       else ∃ m,m<n/\I m s₃) (λ _ _=>False) s₂) (λ _ _=>False) s₀) (λ _ _=>False) s₁) (λ _ _=>False) s)(n:Nat)(h:I n s):jo (model prog w) A (.compLoop (.ListComp elt [(target,iter,ifs,0,)] scope pos) 0 it aG env) R s:=by
 let up:∀ {α:Type}{t:Sem α}{Q Q':α->qv->Prop}{E:qj->qv->Prop}{s:qv},qu (model prog w) A t Q (λ _ _=>False) s->(∀ a s,Q a s->Q' a s)->qu (model prog w) A t Q' E s:=
  λ h hq=>wpAny_mono h hq λ _ _ f=>f.elim
 refine codeAny_loop U I (λ n s hI=>?_) n h;show qu _ A ((compTurn (.ListComp elt [(target,iter,ifs,0,)] scope pos) 0 it aG env).onRaise (λ x=>do noteFrame x env;theTreesLotGoes x)) _ _ s;refine wpAny_noted ?_;rw[compTurn_list];refine wB (yw (wB (up (turn n s hI) λ r s₁ h₁=>?_)));cases r with
 |none=>exact wP h₁
 |some v=>
   refine wB (up h₁ λ _ s₀ h₀=>?_);refine wB (up h₀ λ _ s₂ h₂=>wB (up h₂ λ ok s₃ h₃=>?_));cases ok with
   |false=>exact wP (U,h₃,)
   |true=>
     exact wB (wB (up h₃ λ x s₄ h₄=>wB (up h₄ λ _ s₅ h₅=>wP (wP (U,h₅,)))))
def mJ(X:Cx)(aB:G (qw×Obj))(fp:List qw)(scope:zw)(C:qw)(s₀:qv)(H₀:Hp):Cx:=
 {X with s₀:=s₀,H₀:=H₀,env:=compEnvC scope (zV scope X.env) C X.env,outer:=X.stack,stack:=X.stack,ex:=fp,fn:=λ _=>Ff,pn:=X.pn++aB,xe:=λ _ _=>False }
def lQ(X:Cx)(scope:zw)(Y:Cx):Prop:=∃ aB fp C s₀ H₀,Y=mJ X aB fp scope C s₀ H₀
structure ScOk(scope osc:zw):Prop where
 kind:scope.kind=.function
 nocell:∀ x∈scope.names,x.2≠.cell
 free:∀ x∈scope.names,x.2=.free->osc.names.lookup x.1=J .cell\/osc.names.lookup x.1=J .free
 loc:∀ x∈scope.names,x.2=.local->scope.names.lookup x.1=J .local
def mem_of_lookup{α:Type}{k:α}:∀ {l:G (Str×α)},l.lookup x=J k->(x,k)∈l
 |[],h=>by simp at h
 |(n,j)::r,h=>by
   rw[yCc] at h;split at h
   .simp_all
   .exact xAf _ (mem_of_lookup h)
section
variable {X:Cx}{aB:List (qw×Obj)}{σ:L2.St}{H:Hp}{s:qv}{scope:zw}{fp:List qw}
def aIs:(mJ X aB fp scope C s₀ H₀).env.kindOf x=(scope.names.lookup x).map λ k=>if (k==NameKind.free&&X.env.scope.kind==.function&&X.env.kindOf x==J .cell) then NameKind.cell else k:=
 aOO scope.names
def aIM(ok:ScOk scope X.env.scope)(h:(mJ X aB fp scope C s₀ H₀).env.kindOf x=J .cell\/(mJ X aB fp scope C s₀ H₀).env.kindOf x=J .free):scope.names.lookup x=J .free:=by
 rw[aIs] at h;cases e:scope.names.lookup x with
 |none=>rw[e] at h;simp at h
 |some k=>
   rw[e] at h;let nc:=ok.nocell (x,k) (mem_of_lookup e)
   grind
def aKL(I:Inv X aB σ H s)(hfp:∀ b∈fp,hB X aB H b):∀ b∈fp,b ∉ jQ X.stack:=λ b hb z=>by
 rcases List.mem_cons.mp (I.stkSub b z) with q|q
 .exact(hfp b hb).2.1 q
 .exact(hfp b hb).2.2.1 q
def aH7(I:Inv X aB σ H s)(ok:ScOk scope X.env.scope):∀ x∈scope.names,x.2=.free->∃ c,X.env.cells.lookup x.1=J c:=λ x hx e=>by
 rcases ok.free x hx e with q|q
 .exact I.ok.has x.1 (.inl q)
 .exact I.ok.has x.1 (.inr q)
def rK(I:Inv X aB σ H s)(ok:ScOk scope X.env.scope)(h:(zV scope X.env).lookup x=J c):X.env.cells.lookup x=J c:=
 aJb scope.names [] (aH7 I ok) (λ x c e=>by simp at e) x c h
def aTD(I:Inv X aB σ H s)(ok:ScOk scope X.env.scope)(hfp:∀ b∈fp,hB X aB H b)(hth:∀ b∈fp,b<s.heap.objs.size)(hC:s.heap.objs.size<=C):(mJ X aB fp scope C s H).Ok where
 mod:=I.ok.mod
 kind:=ok.kind
 glob:=I.ok.glob
 blt:=I.ok.blt
 above:=hC
 inj:=λ x y c h1 h2=>I.ok.inj x y c (rK I ok h1) (rK I ok h2)
 has:=λ x h=>aEz scope.names [] x (.inl (.free,mem_of_lookup (aIM ok h),U,))
 cab:=λ x c h _=>nomatch h
 hd:=I.ok.hd
 frames:=I.ok.frames
 stk:=.inl U
 exf:=λ b hb=>(λ z=>absurd (xAb (hth b hb) hC) (by let z':b=C:=z;rw[z'];exact yCs _),λ x c h=>(hfp b hb).2.2.2.2.1 x c (rK I ok h),)
 bs:=I.bs
 bsz:=xAh I.ok.bsz I.sz
 noex:=λ b o e hb=>by
  rcases (hfp b hb).2.2.2.1 with z|z
  .exact I.ok.noex b o e z
  .exact absurd (xAb (xAa e) (xAh I.ok.bsz z)) (yCs _)
 exfs:=λ b hb=>aKL I hfp b hb
 funs:=I.stack
 frf:=I.stkFree
end
def clr{α:Type}(is:G Nat)(l:G (Option α)):G (Option α):=is.foldl (λ e i=>e.set i qx) l
def aBj{α:Type}:∀ (is:G Nat) (l:G (Option α)),(clr is l).length=↑l
 |[],_=>rfl
 |i::is,l=>by
   show(clr is (l.set i qx)).length=_;rw[aBj is,yBd]
def aBL{α:Type}:∀ (is:G Nat) (l:G (Option α)) (j:Nat) (v:α),(clr is l)[j]?=J (J v)->l[j]?=J (J v)/\j ∉ is
 |[],_,_,_,h=>(h,by simp,)
 |i::is,l,j,v,h=>by
   let(h1,h2):=aBL is (l.set i qx) j v h;by_cases hj:i=j
   .subst hj;rcases Nat.lt_or_ge i ↑l with q|q
    .rw[yAx q] at h1;cases h1
    .rw[yBr (by rw[yBd];exact q)] at h1;cases h1
   .rw[yAy hj] at h1;exact(h1,λ z=>(List.mem_cons.mp z).elim (λ e=>hj e.symm) h2,)
def aJr{α:Type}:∀ (is:G Nat) (l:G (Option α)) (j:Nat),j ∉ is->(clr is l)[j]?=l[j]?
 |[],_,_,_=>rfl
 |i::is,l,j,h=>by
   show(clr is (l.set i qx))[j]?=_;rw[aJr is _ j (λ z=>h (xAf _ z)),yAy (λ z=>h (by rw[z];exact xAc))]
def Tg.slots:Tg->G Nat
 |.one i=>[i]|.many is=>is
def EnvR.clr(h:EnvR K F L env σ)(is:G Nat):EnvR K F L (EV.clr is env) (EV.clr is σ):=
 ⟨by rw[aBj,aBj];exact h.len,λ j w e=>by
  let(e1,hj):=aBL is env j w e;let(v,e2,d):=h.get j w e1;exact(v,by rw[aJr is σ j hj];exact e2,d,)⟩
def aDo:∀ {is:G Nat}{ds:G D}{env aW:aY}{j:Nat},nZ is ds env=J aW->j ∉ is->aW[j]?=env[j]?
 |[],[],_,_,_,e,_=>by cases e;rfl
 |i::is,d::ds,env,aW,j,e,h=>by
   rw[@aDo is ds _ _ _ e (λ z=>h (xAf _ z)),yAy (λ z=>h (by rw[z];exact xAc))]
 |[],_::_,_,_,_,e,_=>by cases e|_::_,[],_,_,_,e,_=>by cases e
def Tg.put_keep{t:Tg}(e:t.put d env=J aW)(h:j ∉ t.slots):aW[j]?=env[j]?:=by
 cases t with
 |one i=>cases e;exact yAy (λ z=>h (by rw[z];exact xAc))
 |many is=>
   cases d with
   |tuple ds=>exact aDo e h|list ds=>exact aDo e h|_=>cases e
def aDi:∀ {is:G Nat}{ds:G D}{env aW:aY},nZ is ds env=J aW->aW.length=env.length
 |[],[],_,_,e=>by cases e;rfl|i::is,d::ds,env,aW,e=>by rw[@aDi is ds _ _ e,yBd]|[],_::_,_,_,e=>by cases e|_::_,[],_,_,e=>by cases e
def Tg.put_length{t:Tg}(e:t.put d env=J aW):aW.length=env.length:=by
 cases t with
 |one i=>cases e;exact yBd
 |many is=>
   cases d with
   |tuple ds=>exact aDi e|list ds=>exact aDi e|_=>cases e
def EnvR.back{F:Hp}{L:Lx}{env aW:aY}{σ:St}{t:Tg}{d:D}(e:t.put d (EV.clr t.slots env)=J aW)(h:EnvR K F L aW σ):EnvR K F L (EV.clr t.slots env) σ:=
 ⟨by rw[<- h.len,Tg.put_length e],λ j w q=>by
  let(_,hj):=aBL t.slots env j w q;exact h.get j w (by rw[Tg.put_keep e hj];exact q)⟩
def gU(t:Tg)(fc:FT)(fe:FE)(n:Nat)(env:aY):G D->aD->Option aD
 |[],S=>J S
 |d::ds,S=>(t.put d env).bind λ e1=>(fc e1 S).bind λ c=>if c.1=Z then (fe e1 c.2).bind λ p=>(eE p.2 (.loc n) p.1).bind λ r=>gU t fc fe n env ds r.2 else gU t fc fe n env ds c.2
def jI(t:Tg)(fi:FL)(fc:FT)(fe:FE):FL:=λ env S=>(fi env S).bind λ p=>(gU t fc fe p.2.length (clr t.slots env) p.1 (p.2++[J []])).bind λ S'=>match S'[p.2.length]? with|some (J zs)=>J (zs,S'.take p.2.length)|_=>qx
def nY(Y:Cx)(ifs:List qy)(fc:FT):Prop:=∀ (aB:G (qw×Obj)) (s:qv) (σ:St) (H:Hp) (Q:Bool->Hp->Prop),Inv Y aB σ H s->gN Y.K fc σ H Q ->
 qu (model Y.prog Y.w) Y.A (forIn ifs Z λ c r=>if r=Z then do let ok <- isTrue c Y.env (eval c Y.env);pure (ForInStep.yield ok) else pure (ForInStep.yield r)) (TP Y aB σ Q) Y.xe s
def lX:FT:=λ _ S=>J (Z,S)
def aIi:nY Y [] lX:=λ aB s σ H Q I bB=>by
 let(F,L,S,env,b,S',R,E,e,q):=bB;cases e;exact wpAny_tests_nil (H,I,q F L H Gr.refl R,)
def aIm{fc:FT}(h:PT Y c (gN Y.K fc)):nY Y [c] fc:=λ aB s σ H Q I q=>wpAny_tests_one (h aB s σ H Q I q)
def aFh(N:G Str)(scope:zw)(is:G Nat):Prop:=∀ (i:Nat) (x:Str),N[i]?=J x->scope.names.lookup x=J .local->i∈is
def aIQ{scope:zw}{tg iter elt:qy}{ifs:List qy}{pos:Pos}{t:Tg}{g:TG}{fi:FL}{fc:FT}{fe:FE}(use:Oz (qj->Sem Unit))(hc:X.calm=Z)(ok:ScOk scope X.env.scope)(own:aFh X.N scope t.slots)(hi:PI X tg iter (jM X.K fi))(hg:∀ Y,lQ X scope Y->PG Y tg g)(ga:GA X.K t g)
 (ht:∀ Y,lQ X scope Y->nY Y ifs fc) (he:∀ Y,lQ X scope Y->PE Y elt (bC X.K fe)) (hs:∀ x,xo iter X.env x=pure x)
 {aB:G (qw×Obj)}{s:qv}{σ:St}{H:Hp}{Q:VK}{QQ:qj->qv->Prop}{pp:Pos} (I:Inv X aB σ H s) (h:kJ X.K (jI t fi fc fe) σ H Q)
 (hend:∀ (p C:qw) (s1:qv) (H':Hp),hB X aB H' C->(∃ m,s1.heap.Ns C m)->(∀ h',yCl C s1.heap h'->Inv X aB σ H' {s1 with heap:=h' })->Q (.ref p) H' ->
   compPost (model X.prog X.w) X.A X.xe use QQ (.ref p) C (.ok .next) s1) :
 qu (model X.prog X.w) X.A (comprehension (.ListComp elt [(tg,iter,ifs,0,)] scope pos) scope X.env pp (newList []) Ff (eval iter X.env) use) QQ X.xe s:=by
 let(F,L,S,env,zs,S',R,E,e,q):=h;let((ds,S1),e1,e):=aS e;let(S2,e2,e):=aS e;dsimp only at e e2;let hz:S2[↑S1]?=qz (qz zs)/\S'=S2.take ↑S1:=by
  split at e
  .rename_i z ez;cases e;exact(ez,U,)
  .cases e
 let(hz,U):=hz;refine wpAny_comprehension_free (use:=use) U hs (aQn (aH7 I ok)) ok.kind ok.loc ?_;refine bK (hi aB s σ H (λ J H'=>∃ F' L',Gr F L F' L'/\Rel X.K F' L' S1 H'/\Wk X.K F' L' J ds) I ⟨F,L,S,env,ds,S1,R,E,e1,λ F' L' H' J g R' wk=>(F',L',g,R',wk,)⟩) λ v s1 h1=>bK h1 λ itv s2 h2=>?_
 let(it,fp,tn,J,H2,U,I2,T,st2,f2,F1,L1,g1,R1,wk):=h2;refine xj (wpAny_newFunctionEnv ok.nocell (by simp_all) (λ h₁ hns₁ hsb₁=>?_) ok.kind);dsimp only at hns₁ hsb₁ ⊢;let I3:Inv X aB σ (bJ H2 s2.heap.objs.size (.lst [])) {s2 with heap:=s2.heap.push {cls:=.type "list",dict:=qx,data:=.seq ([]:List qj).toArray } }:=I2.lnew (aK:=[]) (t':=s2.toks) .nil (yBv _);generalize hs3:({s2 with heap:=s2.heap.push {cls:=.type "list",dict:=qx,data:=.seq ([]:List qj).toArray } }:qv)=s3 at I3;let hh3:s2.heap.push {cls:=.type "list",dict:=qx,data:=.seq ([]:List qj).toArray }=s3.heap:=by rw[<- hs3]
 generalize hD:s2.heap.objs.size=Dd at I3;generalize hH3:bJ H2 Dd (.lst [])=H3 at I3;let hfr2:H2 Dd=qx:=by rw[<- hD];exact I2.fresh
 rw[hh3] at hns₁ hsb₁;rw[hh3];let hst:({heap:=h₁,gens:=s2.gens,drawn:=s2.drawn,toks:=s2.toks+([]:G (Str×qj)).length,os:=s2.os }:qv)={s3 with heap:=h₁,toks:=s3.toks+([]:G (Str×qj)).length }:=by rw[<- hs3]
 rw[hst];clear hst;generalize hC:s3.heap.objs.size=C at hns₁ hsb₁;let old:∀ b u,s3.heap.get? b=qz u->h₁.get? b=qz u:=λ b u q=>by
  let hb:b≠C:=by rw[<- hC];exact xAj (xAa q)
  exact hsb₁.extBut b u hb (hpS _ q)
 let lt2:∀ b∈fp,b<s2.heap.objs.size:=λ b hb=>by
  let(o,eo,_):=T.obj 0 _ st2 b hb;exact xAa eo
 let up23:∀ b u,s2.heap.get? b=qz u->s3.heap.get? b=qz u:=λ b u q=>by rw[<- hh3];exact hpS _ q
 let lt3:∀ b∈fp,b<s3.heap.objs.size:=λ b hb=>by
  let(o,eo,_):=T.obj 0 _ st2 b hb;exact xAa (up23 b o eo)
 let f3:∀ b∈fp,hB X aB H3 b:=λ b hb=>by
  refine(?_,(f2 b hb).2,);let ne:b≠Dd:=by rw[<- hD];exact xAj (lt2 b hb)
  rw[<- hH3,bZ ne];exact(f2 b hb).1
 let okY:(mJ X aB fp scope C s3 H3).Ok:=aTD I3 ok f3 lt3 (by rw[hC];exact yAd _);let hIC:lQ X scope (mJ X aB fp scope C s3 H3):=(aB,fp,C,s3,H3,U,);generalize hY:mJ X aB fp scope C s3 H3=Y at okY hIC;let yE:Y.env=compEnvC scope (zV scope X.env) C X.env:=by rw[<- hY];rfl
 let I4:Inv Y [] (clr t.slots σ) H3 {s3 with heap:=h₁,toks:=s3.toks+([]:G (Str×qj)).length }:=by
  rw[<- hY] at okY ⊢;refine(okY,U,I3.bare,Un.kept old,(_,hns₁,λ i x v a1 a2 a3=>?_,),λ x c a=>?_,?_,λ x c a=>I3.freeC x c (rK I3 ok a),λ p hp=>?_,I3.hok.kept old,by rw[aBj];exact I3.len,)
  .let(a4,a5):=aBL t.slots σ i v a2;let nl:scope.names.lookup x≠qz .local:=λ z=>a5 (own i x a1 z)
   let qT:(mJ X aB fp scope C s3 H3).env.kindOf x=qz .cell\/(mJ X aB fp scope C s3 H3).env.kindOf x=qz .free:=by
    rcases a3 with z|z|z
    .exfalso;let z':(mJ X aB fp scope C s3 H3).env.kindOf x=qz .local:=z;rw[aIs] at z';cases ek:scope.names.lookup x with
     |none=>rw[ek] at z';cases z'
     |some k=>
       rw[ek] at z'
       grind
    .exact .inl z
    .exact .inr z
   let fr:=aIM ok qT;let ov:=ok.free (x,.free) (mem_of_lookup fr) U;let(m,hm,hl):=I3.loc;let(u,ru,lk):=hl i x v a1 a4 (ov.elim (λ z=>.inr (.inl z)) λ z=>.inr (.inr z));refine(u,ru,.inr (qT,?_,),);let(c,hcl):=@aEz X.env scope.names [] x (.inl (.free,mem_of_lookup fr,U,));let hc2:=rK I3 ok hcl;rcases lk with ⟨z,_⟩|⟨_,c',e',o',ho',hd'⟩
   .exfalso;let z':X.env.scope.names.lookup x=qz .local:=z;simp_all
   .rw[hc2] at e';cases e';exact(c,hcl,o',old _ _ ho',hd',)
  .let(v,o,ho,hd):=I3.cell x c (rK I3 ok a);exact(v,o,old _ _ ho,hd,)
  .show H3 C=qx;rw[<- hC];exact I3.fresh
  .have hp':p∈X.pn++aB:=by
    have:p∈(X.pn++aB)++[]:=hp;rwa [yBc] at this
   let(b1,b2,b3,b4,b5):=I3.pin p hp';refine(old _ _ b1,b2,?_,λ z=>?_,b5,)
   .show p.1≠C;rw[<- hC];exact xAj (xAa b1)
   .rcases List.mem_cons.mp (I3.stkSub p.1 z) with w|w
    .exact b3 w
    .exact b4 w
 let fpY:∀ {H':Hp},(∀ b∈fp,H' b=qx)->∀ b∈fp,hB Y [] H' b:=λ hn b hb=>by
  rw[<- hY];refine(hn b hb,?_,aKL I3 f3 b hb,.inl hb,λ x c a=>(f3 b hb).2.2.2.2.1 x c (rK I3 ok a),λ p hp=>?_,)
  .show b≠C;rw[<- hC];exact xAj (lt3 b hb)
  .have hp':p∈X.pn++aB:=by
    have:p∈(X.pn++aB)++[]:=hp;rwa [yBc] at this
   exact(f3 b hb).2.2.2.2.2 p hp'
 let yA:Y.A=X.A:=by rw[<- hY];rfl
 let yP:Y.prog=X.prog:=by rw[<- hY];rfl
 let yW:Y.w=X.w:=by rw[<- hY];rfl
 let yK:Y.K=X.K:=by rw[<- hY];rfl
 let yC:Y.calm=Z:=by rw[<- hY];exact hc
 let yX:Y.xe=λ _ _=>False:=by rw[<- hY];rfl
 let R3:Rel X.K F1 (L1++[(Dd,Ff)]) (S1++[qz []]) H3:=by rw[<- hH3];exact R1.newLoc hfr2 .nil
 obtain⟨PP,hPP⟩:∃ PP:Result->qv->Prop,PP=compPost (model X.prog X.w) X.A X.xe use QQ (.ref Dd) C:=(_,U,);let dA:∀ (s1:qv) (σ':L2.St) (H' F':Hp) (L':Lx),Inv Y [] σ' H' s1->Gr F1 (L1++[(Dd,Ff)]) F' L'->Rel X.K F' L' S2 H'->PP (.ok .next) s1:=by
  intro s1 σ' H' F' L' J' gg RR;rw[hPP];rw[<- hY] at J';let(m,hmC,_):=J'.loc;let hCn:H' C=qx:=J'.free;let hfC:hB X aB H' C:=I3.fpOk (by rw[hC];exact yAd _) hCn;let(sf,M,U):=gg;let cW:↑L1=↑S1:=R1.len;let eL:((L1++[(Dd,Ff)])++M)[↑S1]?=qz (Dd,Ff):=by
   rw[yBg,yAh (by rw[cW];exact yAd _),cW,yBe];rfl
  let(hF,xs,hx,dl):=RR.loc ↑S1 Dd zs eL hz;let RR2:Rel X.K F' (L1++([(Dd,Ff)]++M)) S2 H':=by rw[<- yBg];exact RR
  let Rc:=RR2.cut;rw[cW] at Rc;let hnd:Dd ∉ ad L1:=λ z=>by
   let nd:=RR2.nd
   grind
  refine hend Dd C s1 H' hfC (m,hmC,) (λ h' sb=>?_) (q F' L1 H' Dd xs (g1.trans (sf,[],by simp,)) Rc hF hnd hx dl);let neC:∀ b u,s3.heap.get? b=qz u->b≠C:=λ b u z=>by rw[<- hC];exact xAj (xAa z)
  let kp:∀ b u,b≠C->s1.heap.get? b=qz u->h'.get? b=qz u:=λ b u z w=>sb.extBut b u z w
  let bU:Un (jQ X.stack) fp H3 H' s3.heap s1.heap:=J'.base;let u:Un (jQ X.stack) fp H3 H' s3.heap h':=
   ⟨λ b o z n hb hx=>kp b o (neC b o z) (bU.keep b o z n hb hx),λ b o z n hb hx=>by let(sl,w):=bU.slot b o z n hb hx;exact(sl,kp b _ (neC b o z) w,),bU.free,
    λ b o z hx=>by let(o',w):=bU.there b o z hx;exact(o',kp b _ (neC b o z) w,),bU.tups,bU.frzs,bU.tbls⟩
  let hokY:dE X.prog X.w H' s1.heap:=J'.hok;let hok':dE X.prog X.w H' h':=λ b o z=>(hokY b o z).stay (λ c v hc2 w=>kp c v (λ zz=>by
   grind) w) (λ _ w=>w) λ _ _ w=>w
  let os1:s1.os=s3.os:=J'.os;exact I3.call' (s':={s1 with heap:=h' }) os1 u hok' J'.bare λ b hb=>((f3 b hb).2.2.2.1,(f3 b hb).2.1,(f3 b hb).2.2.2.2.1,(f3 b hb).2.2.2.2.2,)
 let loop:∀ s5:qv,Inv Y [] (clr t.slots σ) H3 s5->tn 0 s5.heap ->
  jo (model X.prog X.w) X.A (.compLoop (.ListComp elt [(tg,iter,ifs,0,)] scope pos) 0 (.ref it) (.ref Dd) Y.env) PP s5:=by
  intro s5 I5 st5;let E0:EnvR X.K F1 (L1++[(Dd,Ff)]) (clr t.slots env) (clr t.slots σ):=(E.mono (g1.trans Gr.newLoc)).clr t.slots;obtain⟨Iv,hIv⟩:∃ Iv:Nat->qv->Prop,∀ n s',Iv n s' ↔ (∃ i σ' H' F' L' S',Inv Y [] σ' H' s'/\tn i s'.heap/\(∀ b∈fp,H' b=qx)/\Gr F1 (L1++[(Dd,Ff)]) F' L'/\Rel X.K F' L' S' H'/\EnvR X.K F' L' (clr t.slots env) σ'/\i+n=↑ds /\
   gU t fc fe ↑S1 (clr t.slots env) (ds.drop i) S'=qz S2):=(_,λ _ _=>Iff.rfl,)
  refine aPa Iv ?_ ↑ds ((hIv _ _).mpr (0,clr t.slots σ,H3,F1,L1++[(Dd,Ff)],S1++[qz []],I5,st5,λ b hb=>(f3 b hb).1,Gr.refl,R3,E0,yEn _,by rw[yGi];exact e2,));intro n s6 h6;let(i,σ6,H6,F6,L6,S6,I6,st6,fr6,g6,R6,E6,hin,ec):=(hIv _ _).mp h6;clear h6;let g16:Gr F1 L1 F6 L6:=Gr.newLoc.trans g6;let toA:∀ {α:Type}{tt:Sem α}{QQ:α->qv->Prop}{EE:qj->qv->Prop}{ss:qv},qu (model X.prog X.w) Y.A tt QQ EE ss->qu (model X.prog X.w) X.A tt QQ EE ss:=λ hh=>by rw[yA] at hh;exact hh
  cases n with
  |zero=>
    let hi':i=↑ds:=by omega
    subst hi';rw[yGl] at ec;cases ec;refine bK (toA (T.done Y yP yW yK yC ↑ds [] s6 σ6 H6 _ I6 (fpY fr6) st6 (wk.stop H6 (g16.f.trans R6.sub)))) λ r s7 hPq39=>?_
    let(hr,I7):=hPq39;subst hr;exact dA s7 σ6 H6 F6 L6 I7 g6 R6
  |succ n=>
    let hi':i<↑ds:=by omega
    refine bK (toA (T.item Y yP yW yK yC i [] s6 σ6 H6 _ I6 (fpY fr6) st6 (wk.go i H6 (g16.f.trans R6.sub) hi'))) λ r s7 hPq40=>?_
    let(u,hr,h7):=hPq40;subst hr;refine bK (toA h7) λ _ s8 hPq41=>?_
    let(x,H8,I8,r8,y8,st8,fr8):=hPq41;let(F8,sf8,R8,d8):=wk.yld i H6 F6 L6 S6 x H8 ds[i] g16 R6 (yAa hi') y8;let g8:Gr F6 L6 F8 L6:=(sf8,[],by simp,);rw[yEe hi'] at ec;let(env9,ep,ec):=aS ec;let((cb,S9),et,ec):=aS ec;let I8':=I8.pinned (fpY fr8) (T.obj _ _ st8);let toF:∀ {α:Type}{tt:Sem α}{QQ:α->qv->Prop}{ss:qv},qu (model Y.prog Y.w) Y.A tt QQ Y.xe ss->qu (model X.prog X.w) X.A tt QQ (λ _ _=>False) ss:=λ hh=>by rw[yX,yP,yW,yA] at hh;exact hh
    refine toF (bK (hg Y hIC _ s8 σ6 H8 x u (λ σ' H'=>H'=H8/\EnvR X.K F8 L6 env9 σ') I8' r8 (ga ds[i] x σ6 H8 F8 L6 S6 (clr t.slots env) env9 _ R8 (E6.mono g8) d8 ep λ σ' E'=>(U,E',))) λ _ s9 hPq42=>?_);let(σ9,H9,I9,hH9,E9):=hPq42;subst hH9;refine toF (bK (ht Y hIC _ s9 σ9 H9 (λ b H'=>∃ F' L',Gr F8 L6 F' L'/\Rel X.K F' L' S9 H'/\b=cb) I9 (by rw[yK];exact(F8,L6,S6,env9,cb,S9,R8,E9,et,λ F' L' H' g' R'=>(F',L',g',R',U,),))) λ ok2 s10 hPq43=>?_);let(H10,I10,F10,L10,g10,R10,hb10):=hPq43;subst hb10;dsimp only at ec;let again:∀ {σ7:L2.St}{H7 F7:Hp}{L7:Lx}{S7:aD}{s7':qv},Inv Y ([]++yF fp s8.heap) σ7 H7 s7'->Gr F8 L6 F7 L7->Rel X.K F7 L7 S7 H7->EnvR X.K F7 L7 env9 σ7->gU t fc fe ↑S1 (clr t.slots env) (ds.drop (i+1)) S7=qz S2 ->
     ∃ m,m<n+1/\Iv m s7':=by
     intro σ7 H7 F7 L7 S7 s7' I7 g7 R7 E7 ec7;refine(n,yFm n,(hIv _ _).mpr (i+1,σ7,H7,F7,L7,S7,I7.unpinned,T.keep _ _ _ st8 λ b hb o eo=>(I7.pin (b,o) (xAp _ (xAp _ (wH hb eo)))).1,λ b hb=>?_,(g6.trans g8).trans g7,R7,EnvR.back ep E7,by omega,ec7,),);let(o,eo,_):=T.obj _ _ st8 b hb;exact(I7.pin (b,o) (xAp _ (xAp _ (wH hb eo)))).2.1
    cases ok2 with
    |false=>
      rw[if_neg (by simp)] at ec;rw[if_neg (by simp)];exact again I10 g10 R10 (E9.mono g10) ec
    |true=>
      rw[if_pos U] at ec;rw[if_pos U];let((wv,S11),ee,ec):=aS ec;let((wn,S12),ea,ec):=aS ec;let(n',dv,zs',hn',hw',es',hlt,hwn,U):=aIp ea;cases hn';dsimp only at hw';refine toF (bK (he Y hIC _ s10 σ9 H10 (λ v H'=>∃ F' L',Gr F10 L10 F' L'/\Rel X.K F' L' S11 H'/\Den X.K F' dv v) I10 ⟨F10,L10,S9,env9,_,S11,R10,E9.mono g10,ee,λ F' L' H' v g' R' d'=>(F',L',g',R',aB2 d' hw',)⟩) λ xv s11 hPq44=>?_);let(v11,H11,I11,r11,F11,L11,g11,R11,d11):=hPq44;let gA:Gr F1 (L1++[(Dd,Ff)]) F11 L11:=((g6.trans g8).trans g10).trans g11;let eL:L11[↑S1]?=qz (Dd,Ff):=gA.get (by rw[yAh (by rw[R1.len];exact yAd _),R1.len,yBe];rfl);let(hF,xs,hx,dl):=R11.loc ↑S1 Dd zs' eL es';refine toF (bK (@aIP Y _ s11 σ9 H11 (.ref Dd) [v11] (.ref Dd) [xv] (λ _ H'=>Rel X.K F11 L11 (S11.set ↑S1 (qz (zs'++[dv]))) H') I11 U (.cons r11 .nil) (Dd,xs,v11,U,U,hx,by rw[<- dl.length];exact hlt,R11.put eL hF (dl.append (.cons d11 .nil)),)) λ _ s12 hPq45=>?_);let(_,H12,I12,_,R12):=hPq45;exact again I12 (g10.trans g11) R12 (E9.mono (g10.trans g11)) ec
 rw[yE,hPP] at loop;let st4:tn 0 h₁:=T.keep 0 _ _ st2 λ b _ o eo=>old b o (up23 b o eo)
 exact codeAny_compStart_list (loop _ I4 st4) (T.self X.A 0 _ _ _ st4 (loop _ I4 st4))
def aLD{t:Tg}{fi:FL}{fc:FT}{fe:FE}(hc:X.calm=Z)(ok:ScOk scope X.env.scope)(own:aFh X.N scope t.slots)(hi:PI X tg iter (jM X.K fi))(hg:∀ Y,lQ X scope Y->PG Y tg g)(ga:GA X.K t g)(ht:∀ Y,lQ X scope Y->nY Y ifs fc)(he:∀ Y,lQ X scope Y->PE Y elt (bC X.K fe))(hs:∀ x,xo iter X.env x=pure x) :
 PE X (.ListComp elt [(tg,iter,ifs,0,)] scope pos) (kJ X.K (jI t fi fc fe)):=λ aB s σ H Q I h=>by
 rw[eval_ListComp];exact aIQ qx hc ok own hi hg ga ht he hs I h λ p C s1 H' _ hm hI q=>hm.elim λ m hm=>(m,hm,λ h' sb=>(.ref p,H',hI h' sb,U,q,),)
def aQY{t:Tg}{fi:FL}{fc:FT}{fe:FE}{fa:FE}(hN:X.N.Nodup)(hx1:X.N[i]?=J x)(hx2:L2.Loc X.env.scope x)(hf:X.fn x=Z\/X.env.scope.names.lookup x=J .local)(hc:X.calm=Z)(ok:ScOk scope X.env.scope)(own:aFh X.N scope t.slots)(hi:PI X tg iter (jM X.K fi))(hg:∀ Y,lQ X scope Y->PG Y tg g)(ga:GA X.K t g)(ht:∀ Y,lQ X scope Y->nY Y ifs fc)(he:∀ Y,lQ X scope Y->PE Y elt (bC X.K fe))(hs:∀ x,xo iter X.env x=pure x)(hw:∀ σ H Q,bC X.K fa σ H Q->kJ X.K (jI t fi fc fe) σ H Q) :
 PS X (.Assign [.Name x pos'] (.ListComp elt [(tg,iter,ifs,0,)] scope pos) spos) (eI X.K (kY i fa)):=by
 let hb:∃ b,swapsWith (.ListComp elt [⟨tg,iter,ifs,0⟩] scope pos) (J (.Name x pos')) spos.line X.env=pure b:=(_,U,);let(b,hb):=hb;cases b with
 |false=>exact aMO hN hx1 hx2 (PE.weak (aLD hc ok own hi hg ga ht he hs) hw) hb hf
 |true=>
   intro aB s σ H DD I h;let h2:=aMV DD σ H h;rw[exec_Assign_Name_used _ _ _ _ hb];refine wB (yw (wB ?_));show qu _ X.A (do let _ <- comprehension (.ListComp elt [⟨tg,iter,ifs,0⟩] scope pos) scope X.env _ (newList []) Ff (eval iter X.env) (J (assign (.Name x pos') X.env))) _ _ s;refine wB (bK (aIQ (QQ:=λ _ s'=>SP X aB DD .next s') (J (assign (.Name x pos') X.env)) hc ok own hi hg ga ht he hs I (hw _ _ _ h2) λ p C s1 H' hC hm hI q=>?_) λ _ s' hq=>wP (wP hq));let(m,hm):=hm;let I1:Inv X aB σ H' s1:=hI s1.heap (Heap.SameBut.refl _ _);let(o,es,ep,ho,hd,r):=hm;let I2:=I1.pinned (fp:=[C]) (λ b hb=>by rw[List.mem_singleton.mp hb];exact hC) λ b hb=>by rw[List.mem_singleton.mp hb];simp_all
   refine bK (aD4 (pos:=pos') hN hx1 hx2 hf _ s1 σ H' (.ref p) (.ref p) _ I2 U q) λ _ s2 hPq46=>?_
   let(σ2,H2,I3,q3):=hPq46;let(b1,b2,_):=I3.pin (C,o) (xAp _ (xAp _ (wH (by simp) ho)));refine(m,(o,es,ep,b1,hd,r,),λ h' sb=>(σ2,H2,?_,q3,),);exact I3.unpinned.turned (t':=s2.toks) (λ b o hb e=>sb.extBut b o hb e) b2 hC.2.1 hC.2.2.2.1 hC.2.2.2.2.1 hC.2.2.2.2.2
def mS:G D->Oz (G Int)
 |[]=>J []|.int i::r=>(mS r).bind λ l=>J (i::l)|_::_=>qx
def lI:G D->Oz (G Bool)
 |[]=>J []|.bool i::r=>(lI r).bind λ l=>J (i::l)|_::_=>qx
def vV{α:Type}(f:D->Option α):G D->Option α
 |[x]=>f x|_=>qx
def nE:G D->Oz D:=vV λ d=>match d with|.list xs=>J (.int ↑xs)|.tuple xs=>J (.int ↑xs)|_=>qx
def aOg:G Int->Oz D
 |i::r=>J (.int (r.foldl min i))|_=>qx
def sH:G D->Oz D
 |[x,y]=>i2 (λ i j=>J (.int (if j>i then j else i))) x y
 |[x,y,z]=>i2 (λ i j=>mO (λ k=>J (.int (if j>i then (if k>j then k else j) else (if k>i then k else i)))) z) x y
 |_=>qx
def kX:G D->Oz D
 |[x,y]=>i2 (λ i j=>J (.int (if j<i then j else i))) x y
 |[x]=>vZ (λ xs=>(mS xs).bind aOg) x|_=>qx
def aNU:G D->Oz D:=vV λ d=>match d with
 |.int i=>J (.int i)
 |.bool k=>J (.int (if k then 1 else 0))
 |_=>qx
def rL:G D->Oz D:=vV λ d=>match d with|.list xs=>J (.tuple xs)|.tuple xs=>J (.tuple xs)|_=>qx
def aF0:G D->Oz D:=vV (vZ λ xs=>(lI xs).bind λ l=>J (.bool (l.all id)))
def zY:G D->Oz D:=vV (vZ λ xs=>(lI xs).bind λ l=>J (.bool (l.any id)))
def xO{f:D->Oz D}{xs:G V}(n:NowL X.K F H ds xs)(e:vV f ds=J z):∃ d x,xs=[x]/\cP X.K F H d x/\f d=J z:=by
 cases n with
 |nil=>cases e
 |cons a b=>
   cases b with
   |nil=>exact(_,_,U,a,e,)|cons _ _=>cases e
def bAk(r:bI [x,y,z] us):∃ u v w',us=[u,v,w']/\bG x u/\bG y v/\bG z w':=by
 cases r with
 |cons r1 r2=>cases r2 with
   |cons r3 r4=>cases r4 with
     |cons r5 r6=>cases r6;exact(_,_,_,U,r1,r3,r5,)
def aQS(hc:X.calm=Z):iB X (.builtin "max") (λ xs H Q=>∃ i j k,xs=[.int i,.int j,.int k]/\Q (.int (if j>i then (if k>j then k else j) else (if k>i then k else i))) H):=by
 intro aB s σ H xs us Q I r h;let(i,j,k,U,q):=h;let(u,v,w',U,(t,U),(t',U),(t2,U)):=bAk r;refine max_three_ints (I.ok.hd hc) λ h' tk kk=>(_,H,I.kept kk,?_,q,)
 by_cases h1:j>i<;>by_cases h2:k>j<;>by_cases h3:k>i<;>simp only[h1,h2,h3,if_true,if_false]<;>exact(_,U,)
def aH4{xs:G V}(h:DenL K F ds xs)(e:mS ds=J ns):xs=ns.map V.int:=by
 induction ds generalizing xs ns with
 |nil=>cases h;cases e;rfl
 |cons d r ih=>
   cases h with
   |cons h t=>
     cases d with
     |int i=>
       let(l,e1,e2):=aS e;cases e2;cases h;rw[yAm,ih t e1]
     |_=>cases e
def aK6:∀ (l:G Int) (i:Int),(l.foldl min i∈i::l)/\∀ a∈i::l,l.foldl min i<=a
 |[],i=>(List.mem_singleton.mpr U,λ a h=>by rw[List.mem_singleton.mp h];simp_all,)
 |b::l,i=>by
   let(h1,h2):=aK6 l (min i b);rw[yDq];refine(?_,λ a ha=>?_,)
   .grind
   .have h3:=h2 (min i b) xAc;simp only[yEa] at ha;rcases ha with rfl|rfl|ha
    .exact Int.le_trans h3 (Int.min_le_left _ _)
    .exact Int.le_trans h3 (Int.min_le_right _ _)
    .exact h2 a (xAf _ ha)
def aHU:∀ {l:G Int}{us:List qj},bI (l.map V.int) us->∃ ps:G (Int×Tok),us=ps.map (λ p=>Value.int p.1 p.2)/\ps.map (·.1)=l
 |[],us,r=>by cases r;exact([],U,U,)
 |i::l,us,r=>by
   cases r with
   |cons h t=>
     let(tk,U):=h;let(ps,U,U):=aHU t;exact((i,tk)::ps,U,U,)
def aQR(hc:X.calm=Z):iB X (.builtin "min") (λ xs H Q=>∃ (a:qw) (l:G Int),xs=[.ref a]/\cE X.K H a (l.map V.int)/\0<↑l/\∀ M,M∈l->(∀ i∈l,M<=i)->Q (.int M) H):=by
 intro aB s σ H xs us Q I r h;let(a,l,U,sq,hl,q):=h;let(u,U,ru):=qF r;cases ru;let(aK,rv,pl,hz):=I.list sq;let(ps,U,U):=aHU rv;let hIL:s.heap.IsList a (intItems ps.toArray):=by
  let e:intItems ps.toArray=(ps.map (λ p=>Value.int p.1 p.2)).toArray:=by simp[intItems]
  rw[e];exact pl.isList
 refine min_intList (xs:=ps.toArray) (I.ok.hd hc) hIL (hl:) λ v h' tk hv hk=>?_
 let(t,U):=intItems_at hv;let(h1,h2):=argBest_lt (numAt ps.toArray) (ps.toArray.size-1);refine(.int _,H,I.kept hk,(_,U,),q _ ?_ λ i hi=>?_,)
 .rw[numAt_eq];let hz':0<ps.toArray.size:=(hl:)
  exact getD_mem (by rw[yAf,Array.length_toList];exact xAi h1 (Nat.sub_lt hz' Nat.one_pos))
 .let(j,hj,U):=mem_getD hi;rw[yAf] at hj;have:=h2 j (by rw[yAj];omega);rw[numAt_eq (j:=j)] at this;exact this
def aZa:iB X (.builtin "len") (qN X nE):=λ aB s σ H xs us Q I r bB=>by
 let(F,L,S,ds,z,R,n,e,q):=bB;let(d,x,U,nx,e):=xO n e;cases d with
 |list l=>
   cases e;let(a,ys,U,sq,dl):=nx.lst R.sub;exact aHp aB s σ H _ us Q I r (a,ys,U,.inl sq,by rw[<- dl.length];exact q.here R (.int _),)
 |tuple l=>
   cases e;let(a,ys,U,sq,dl):=nx.tup R.sub;exact aHp aB s σ H _ us Q I r (a,ys,U,.inr sq,by rw[<- dl.length];exact q.here R (.int _),)
 |_=>cases e
def bA4(hc:X.calm=Z):iB X (.builtin "max") (qN X sH):=λ aB s σ H xs us Q I r bB=>by
 let(F,L,S,ds,z,R,n,e,q):=bB;cases n with
 |nil=>cases e
 |cons nx n=>
   cases n with
   |nil=>
     first|cases e;done|skip
   |cons ny n=>
     cases n with
     |nil=>
       let(i,j,U,U,e):=iT e;cases e;exact aRu hc aB s σ H _ us Q I r (_,_,by rw[nx.int,ny.int],q.here R (.int _),)
     |cons nu n=>
       cases n with
       |cons _ _=>cases e
       |nil=>
         let(i,j,U,U,e):=iT e;let(k,U,e):=oH e;cases e;exact aQS hc aB s σ H _ us Q I r (_,_,_,by rw[nx.int,ny.int,nu.int],q.here R (.int _),)
def bAT(hc:X.calm=Z):iB X (.builtin "min") (qN X kX):=λ aB s σ H xs us Q I r bB=>by
 let(F,L,S,ds,z,R,n,e,q):=bB;cases n with
 |nil=>cases e
 |cons nx n=>
   cases n with
   |nil=>
     let(l,U,e):=xV e;let(ns,hi,e):=aS e;let(a,ys,U,sq,dl):=nx.lst R.sub;obtain rfl:=aH4 dl hi;cases ns with
     |nil=>cases e
     |cons i r'=>
       cases e;refine aQR hc aB s σ H _ us Q I r (a,i::r',U,sq,by simp,λ M h1 h2=>?_,);let f:=aK6 r' i;have:M=r'.foldl min i:=Int.le_antisymm (h2 _ f.1) (f.2 _ h1);rw[this];exact q.here R (.int _)
   |cons ny n=>
     cases n with
     |nil=>
       let(i,j,U,U,e):=iT e;cases e;exact aRj hc aB s σ H _ us Q I r (_,_,by rw[nx.int,ny.int],q.here R (.int _),)
     |cons _ _=>cases e
def bAZ:iB X (.type "int") (qN X aNU):=λ aB s σ H xs us Q I r bB=>by
 let(F,L,S,ds,z,R,n,e,q):=bB;let(d,x,U,nx,e):=xO n e;cases d with
 |int i=>cases e;exact aIn aB s σ H _ us Q I r (.inl (_,by rw[nx.int],q.here R (.int _),))|bool b=>cases e;exact aIn aB s σ H _ us Q I r (.inr (_,by rw[nx.bl],q.here R (.int _),))|_=>cases e
def aT7:iB X (.type "tuple") (qN X rL):=λ aB s σ H xs us Q I r bB=>by
 let(F,L,S,ds,z,R,n,e,q):=bB;let(d,x,U,nx,e):=xO n e;cases d with
 |list l=>
   cases e;let(a,ys,U,sq,dl):=nx.lst R.sub;exact aHf aB s σ H _ us Q I r (a,ys,U,.inl (sq,λ l hl=>q.tup R hl dl,),)
 |tuple l=>
   cases e;let nx':=nx;let(a,ys,U,sq,dl):=nx.tup R.sub;refine aHf aB s σ H _ us Q I r (a,ys,U,.inr (sq,q.here R ?_,),);rcases nx' with nx|⟨_,_,_,e,_⟩
   .exact nx
   .cases e
 |_=>cases e
def aHF{A:zv}(hh:A.handled=qx)(I ax:qw)(hne:ax≠I)(bD:Array qj) :
 WalksS prog w A I [I,ax] [I] (λ a b=>b=a) bD.size (λ i v=>bD[i]?=J v) (λ i s=>s.heap.IsListIter I ax i/\s.heap.IsList ax bD) where
 sub:=λ b hb=>by simp_all
 grefl:=λ _=>rfl
 gtrans:=λ _ _ _ h1 h2=>h2.trans h1
 frame:=λ _ _ _ _ st _ hk=>(st.1.at λ o e=>hk I (by simp) o e,st.2.at λ o e=>hk ax (by simp) o e,)
 item:=λ i s Q E hi st hQ=>by
  refine vw st.1 st.2 (x:=bD[i]) (by simp[hi]) λ h' hit' hs'=>?_
  exact hQ _ _ (by simp[hi]) (hit',st.2.extBut hs'.extBut hne,) (λ b o hb e=>hs'.extBut b o (λ h=>hb (by simp[h])) e,U,U,U,yAd _,)
 done:=λ s Q E st hQ=>vk hh st.1 st.2 (by simp) λ h' he'=>hQ _ (λ b o hb e=>he' b o (λ h=>hb (by simp[h])) e,U,U,U,yAd _,)
 self:=λ _ _ _ _ st hQ=>wpAny_pyIter_listiter st.1 hQ
def aHJ{xs:G V}(h:DenL K F ds xs)(e:lI ds=J ns):xs=ns.map V.bl:=by
 induction ds generalizing xs ns with
 |nil=>cases h;cases e;rfl
 |cons d r ih=>
   cases h with
   |cons h t=>
     cases d with
     |bool i=>
       let(l,e1,e2):=aS e;cases e2;cases h;rw[yAm,ih t e1]
     |_=>cases e
def aHj{ns:G Bool}{us:List qj}(r:bI (ns.map V.bl) us){i:Nat}{v:qj}(e:us[i]?=J v):v=.bool (ns.getD i Ff):=by
 let hl:=r.length;rw[yAf] at hl;let hi:i<↑ns:=by rw[hl];exact(gIm e).1
 let(u,e1,ru):=bI.get r (i:=i) (x:=.bl ns[i]) (by rw[yAe,yAa hi];rfl);rw[e] at e1;cases e1;obtain rfl:=ru;simp[List.getD,yAa hi]
def aHT{Q:Bool->qv->Prop}{E:qj->qv->Prop}(h:Q b s):qu (model prog w) A (truthy (.bool b)) Q E s:=by
 first
  |exact xu h
  |exact PySem.wpAny_truthy_bool h
  |exact truthy_bool h
def aQZ(bs:G Bool):(yBk ↑bs).all (λ i=>bs.getD i Ff)=bs.all id:=by
 let h:(yBk ↑bs).map (λ i=>bs.getD i Ff)=bs:=by
  apply List.ext_getElem
  .simp
  .intro i h1 h2;simp[List.getD,yAa h2]
 let h2:bs.all id=((yBk ↑bs).map (λ i=>bs.getD i Ff)).all id:=by rw[h]
 rw[h2,List.all_map];rfl
def aQA(bs:G Bool):(yBk ↑bs).any (λ i=>bs.getD i Ff)=bs.any id:=by
 let h:(yBk ↑bs).map (λ i=>bs.getD i Ff)=bs:=by
  apply List.ext_getElem
  .simp
  .intro i h1 h2;simp[List.getD,yAa h2]
 let h2:bs.any id=((yBk ↑bs).map (λ i=>bs.getD i Ff)).any id:=by rw[h]
 rw[h2,List.any_map];rfl
def bA2(hc:X.calm=Z):iB X (.builtin "all") (qN X aF0):=λ aB s σ H xs us Q I r bB=>by
 let(F,L,S,ds,z,R,n,e,q):=bB;let(d,x,U,nx,e):=xO n e;let(l,U,e):=xV e;let(bs,e1,e2):=aS e;cases e2;let(a,ys,U,sq,dl):=nx.lst R.sub;obtain rfl:=aHJ dl e1;let(u,U,ru):=qF r;cases ru;let(aK,rv,pl,hz):=I.list sq;let hh:X.A.in1.handled=qx:=I.ok.hd hc;refine call_all_walkS (jw pl.isList ?_);let hne:a≠s.heap.objs.size:=by
  let(o,ho,_):=pl.isList;exact xAj (xAa ho)
 let hl:=rv.length;rw[yAf] at hl;refine(_,_,_,_,_,_,_,λ i=>bs.getD i Ff,U,aHF hh s.heap.objs.size a hne aK.toArray,((_,xAd _ U,U,U,),?_,),λ i v s' Q' E' e hq=>?_,λ s' mv=>?_,)
 .let(o,ho,r'):=pl.isList;exact(o,hpS _ ho,r',)
 .obtain rfl:=aHj rv (i:=i) (e:);exact aHT hq
 .let(h',g',d',t2,o'):=s';let(mh,mg,md,mo,mt):=mv;dsimp only at mh mg md mo;subst mg md mo;let I':Inv X aB σ H {s with heap:=h',toks:=t2 }:=I.kept λ b o e=>mh b o (λ z=>by
   have:b=s.heap.objs.size:=(z:)
   exact yCs _ (this▸xAa e)) (hpS _ e)
  rw[yAj,<- hl,aQZ];exact(.bl (bs.all id),H,I',U,q.here R (.bl _),)
def aYM(hc:X.calm=Z):iB X (.builtin "any") (qN X zY):=λ aB s σ H xs us Q I r bB=>by
 let(F,L,S,ds,z,R,n,e,q):=bB;let(d,x,U,nx,e):=xO n e;let(l,U,e):=xV e;let(bs,e1,e2):=aS e;cases e2;let(a,ys,U,sq,dl):=nx.lst R.sub;obtain rfl:=aHJ dl e1;let(u,U,ru):=qF r;cases ru;let(aK,rv,pl,hz):=I.list sq;let hh:X.A.in1.handled=qx:=I.ok.hd hc;refine call_any_walkS (jw pl.isList ?_);let hne:a≠s.heap.objs.size:=by
  let(o,ho,_):=pl.isList;exact xAj (xAa ho)
 let hl:=rv.length;rw[yAf] at hl;refine(_,_,_,_,_,_,_,λ i=>bs.getD i Ff,U,aHF hh s.heap.objs.size a hne aK.toArray,((_,xAd _ U,U,U,),?_,),λ i v s' Q' E' e hq=>?_,λ s' mv=>?_,)
 .let(o,ho,r'):=pl.isList;exact(o,hpS _ ho,r',)
 .obtain rfl:=aHj rv (i:=i) (e:);exact aHT hq
 .let(h',g',d',t2,o'):=s';let(mh,mg,md,mo,mt):=mv;dsimp only at mh mg md mo;subst mg md mo;let I':Inv X aB σ H {s with heap:=h',toks:=t2 }:=I.kept λ b o e=>mh b o (λ z=>by
   have:b=s.heap.objs.size:=(z:)
   exact yCs _ (this▸xAa e)) (hpS _ e)
  rw[yAj,<- hl,aQA];exact(.bl (bs.any id),H,I',U,q.here R (.bl _),)
def aNe:D->Oz D
 |.int i=>J (.int ((yAn i:Nat):Int))|_=>qx
def aFB(fa:FE):FE:=f1 fa (pO aNe)
def aTO:MtR X "int.bit_length" (λ x xs H Q=>∃ i,x=.int i/\xs=[]/\Q (.int ((yAn i:Nat):Int)) H):=λ aB s σ H x xs v us Q I rx rs bB=>by
 let(i,e1,e2,q):=bB;subst e1 e2;let(t,U):=rx;cases rs;exact call_gives yGt (wu s i t) PySem.F.entry_int_bit_length (PySem.F.args_int_bit_length_1 _) (PySem.AutoIntG2.int_bit_length_int_0 i t) (show EP X aB σ Q _ _ from (.int _,H,I.tok _,(_,U,),q,))
section
variable {X:Cx}{aB:List (qw×Obj)}{σ:L2.St}{H:Hp}{s:qv}{h':Heap}
def aBd{ch:List qw}{p:qw}{o:HO}{t':Nat}(I:Inv X aB σ H s)(hch:∀ b∈ch,hB X aB H b)(k:∀ b u,b ∉ ch->s.heap.get? b=J u->h'.get? b=J u)(hp:s.heap.objs.size<=p)
 (new:fF X.prog X.w (bJ H p o) h' p o):Inv X aB σ (bJ H p o) {s with heap:=h',toks:=t' }:=by
 let hn:=I.hok.fresh hp;let nch:∀ b u,H b=J u->b ∉ ch:=λ b u e z=>by rw[(hch b z).1] at e;cases e
 let nep:∀ b u,s.heap.get? b=J u->b≠p:=λ b u e z=>absurd (xAb (xAa e) hp) (by rw[z];simp_all)
 refine I.step (g':=s.gens) (d':=s.drawn) (ch:=ch) (λ b hb=>((hch b hb).2.2.2.1,(hch b hb).2.1,(hch b hb).2.2.2.2.1,(hch b hb).2.2.2.2.2,)) (λ b o _ _ hc e _=>k b o hc e) (λ b o _ _ hc e _=>(o.slots,k b o hc e,)) (λ b o _ e n=>by rw[bZ (nep b o e)];exact n)
  (λ b o hc e=>(o,k b o hc e,)) (λ b xs e=>by rw[bZ (fB e hn)];exact e) (λ b u v e=>by rw[bZ (fB e hn)];exact e) (λ b ps e=>(#[],by rw[bZ (fB e hn),e];simp,)) (λ m hm=>?_) (λ b u e=>?_) I.bare
 .let(o,es,ep,ho,r):=hm;exact(o,es,ep,k _ o (λ z=>(hch _ z).2.1 U) ho,r,)
 .by_cases hb:b=p
  .subst hb;rw[cU] at e;simp_all
  .rw[bZ hb] at e;refine(I.hok b u e).stay (λ c v hc q=>k c v ?_ q) (λ c q=>by rw[bZ (fB q hn)];exact q) λ c xs q=>by rw[bZ (fB q hn)];exact q
   rcases hc with z|z
   .rw[z];exact nch b u e
   .exact nch c _ z
end
def Ite(K:FrG)(a:qw):It:=
 (λ i H=>∃ xs x,cE K H a xs/\xs[i]?=J x,λ i H x H'=>∃ p y,H p=qx/\H'=bJ H p (.tup [.int i,y])/\x=.ref p/\∀ xs,cE K H a xs->xs[i]?=J y,λ i H=>∃ xs,cE K H a xs/\↑xs<=i,)
def aRD(a e it:qw)(hei:e≠it):Turn P w K (.Tuple elts k pos) (Ite K a) [e,it] e (λ i h=>(∃ old,IsEnum h e it (i:Nat) old)/\h.IsListIter it a i) where
 mem:=xAc
 obj:=λ i h bB b hb=>by
  let((old,he),(o,ho,hc,hd)):=bB
  grind
 keep:=λ i h h' ⟨⟨old,he⟩,hit⟩ q=>((old,q e xAc _ he,),hit.at λ o e=>q it (by simp) o e,)
 item:=λ X hP hW hK hc i aB s σ H E I hf bB tE=>by
  let((old,he),hit):=bB;let(xs,x,hq,hx):=tE;subst hP hW hK;let(aK,rv,pl,hz):=I.list hq;let(u,hu,ru):=rv.get hx;refine wpAny_pyNext_enum_item he hit pl.isList (hu:) hei λ h₁ heo hit₁ ht₁ hz₁ hk₁=>(_,U,?_,)
  refine yz heo λ h₂ he₂ hs₂=>?_
  let hs2:yCl e h₁ h₂:=hs₂;let eLt:e<s.heap.objs.size:=xAa he;let iLt:it<s.heap.objs.size:=by let(o,ho,_):=hit;exact xAa ho
  let ht₂:h₂.get? s.heap.objs.size=J {cls:=.type "tuple",data:=.seq #[.int i s.toks,u] }:=hs2.extBut _ _ (yEx eLt) ht₁;let I2:Inv X aB σ (bJ H s.heap.objs.size (.tup [.int i,x])) {s with heap:=h₂,toks:=s.toks+1 }:=by
   refine aBd I hf (λ b o hb e'=>?_) (yAd _) (by show 2<=qk;decide,[.int i s.toks,u],.cons (_,U,) (.cons ru .nil),(_,ht₂,U,0,U,),);let b1:b≠e:=λ z=>hb (by simp[z])
   let b2:b≠it:=λ z=>hb (by simp[z])
   exact hs2.extBut b o b1 (hk₁ b o b1 b2 e')
  refine(.ref s.heap.objs.size,_,I2,U,(s.heap.objs.size,x,I.fresh,U,U,λ ys hy=>by rw[I.list_inj hy hq];exact hx,),((u,by have:=he₂;rw[show((i+1:Nat):Int)=(i:Int)+1 by omega];exact this,),hit₁.extBut hs2.extBut (Ne.symm hei),),λ b hb=>?_,);have:b<s.heap.objs.size:=by
   rcases List.mem_cons.mp hb with rfl|hb
   .exact eLt
   .rw[yDz] at hb;subst hb;exact iLt
  rw[bZ (xAj this)];exact(hf b hb).1
 done:=λ X hP hW hK hc i aB s σ H E I hf bB tE=>by
  let((old,he),hit):=bB;let(xs,hq,hx):=tE;subst hP hW hK;let(aK,rv,pl,hz):=I.list hq;refine wpAny_pyNext_enum_end (I.ok.hd hc) he hit pl.isList (by have:=rv.length;simp;omega) λ h₁ he₁=>(U,?_,)
  let(f1,f2,f3,f4,f5,f6):=hf it (by simp);exact I.turned (t':=s.toks) (λ b o hb e'=>he₁ b o hb e') f1 f2 f4 f5 f6
 self:=λ A i s Q E ⟨⟨old,he⟩,_⟩ hq=>vy he hq
def jT(k:Int):G D->G D
 |[]=>[]|d::r=>.tuple [.int k,d]::jT (k+1) r
def wD:∀ (ds:G D) (k:Int),(jT k ds).length=↑ds
 |[],_=>rfl|_::r,k=>by simp[jT,wD r]
def aDE:∀ (ds:G D) (k:Int) (i:Nat) (e:D),(jT k ds)[i]?=J e->∃ d,ds[i]?=J d/\e=.tuple [.int (k+i),d]
 |[],_,_,_,h=>by simp[jT] at h|d::r,k,0,e,h=>by simp[jT] at h;subst h;exact(d,U,by simp,)
 |d::r,k,i+1,e,h=>by
   let(d',e1,e2):=aDE r (k+1) i e (by simpa [jT] using h);refine(d',by simpa using e1,?_,);rw[e2];congr 3
   push_cast
   omega
def aTL{xs:G V}(sq:cE K F a xs)(dl:DenL K F ds xs):Wk K F L (Ite K a) (jT 0 ds) where
 go:=λ i H s hi=>by
  rw[wD] at hi;exact(xs,xs[i]'(by rw[<- dl.length];exact hi),s.seq sq,by simp_all,)
 stop:=λ H s=>(xs,s.seq sq,by rw[wD];exact yEm dl.length.symm,)
 yld:=λ i H F1 L1 S x H' d g R e y=>by
  let(p,y',hp,U,U,hy):=y;let(d',e1,U):=aDE ds 0 i d e;let(x',e2,dx):=dl.get e1;let h:=hy xs ((g.f.trans R.sub).seq sq);rw[h] at e2;cases e2;let hF:F1 p=qx:=R.sub.free hp;refine(bJ F1 p (.tup [.int i,y']),fM hF,R.new hp,.tup (cK.of cU) ?_,);rw[Int.zero_add];exact .cons (.int _) (.cons (dx.mono (g.f.trans (fM hF))) .nil)
def aOK{E:qj -> qv -> Prop}{s:qv}{Q:qj->qv->Prop}(hit:s.heap.IsTupleIter it t i)(ht:s.heap.IsTuple t bD)(hx:bD[i]?=J x)(hQ:∀ h',h'.IsTupleIter it t (i+1)->yCl it s.heap h'->Q x {s with heap:=h' }):qu (model prog w) A (yBq (.ref it)) Q E s:=by let(o,ho,hc,hd):=id hit;let(ol,hol,_,nl,hdl):=ht;unfold yBq;refine wB (wpAny_callSpecial?_slot (name:=Str.ofString "__next__") hit.typeIs F.slot_tuple_iterator_next (jq F.slot_tuple_iterator_next hit.typeIs F.entry_tuple_iterator_next ?_ (F.args_tuple_iterator_next_1 _)));show qu _ _ (field (.ref it) 0 >>= _) _ _ s;refine wB (xq ho hd (x:=.ref t) U ?_);show qu _ _ (if (Value.ref t==Value.none)=Z then _ else _) _ _ s;rw[if_neg (show ¬ ((Value.ref t==Value.none)=Z) from yBx)];show qu _ _ (field (.ref it) 1 >>= _) _ _ s;refine wB (xq ho hd (x:=.int i 0) U ?_);show qu _ _ (seqItems? (.ref t) >>= _) _ _ s;refine wB (ju hol hdl ?_);simp only[yAt,hx];refine wB (wpAny_setField ho hd (by simp) (wP (x,U,wP (hQ _ (_,yCw _ ho (Obj.isFreed_of_fields (Obj.data_mapFields hd _)),(Obj.cls_mapFields ..).trans hc,?_,) (Heap.SameBut.update ..)),)));rw[Obj.data_mapFields hd];simp[wq]
def aGZ{A:zv}{E:qj -> qv -> Prop}{s:qv}{Q:qj->qv->Prop}(hh:A.handled=qx)(hit:s.heap.IsTupleIter it t i)(ht:s.heap.IsTuple t bD)(hx:bD[i]?=qx)(hE:∀ h' e,Heap.ExtBut it s.heap h'->(∃ o,h'.get? e=J o/\o.cls=.type "StopIteration")->E (.ref e) {s with heap:=h' }):qu (model prog w) A (yBq (.ref it)) Q E s:=by
 let(o,ho,hc,hd):=id hit;let(ol,hol,_,nl,hdl):=ht;unfold yBq;refine wB (wpAny_callSpecial?_slot (name:=Str.ofString "__next__") hit.typeIs F.slot_tuple_iterator_next (jq F.slot_tuple_iterator_next hit.typeIs F.entry_tuple_iterator_next ?_ (F.args_tuple_iterator_next_1 _)));show qu _ _ (field (.ref it) 0 >>= _) _ _ s;refine wB (xq ho hd (x:=.ref t) U ?_);show qu _ _ (if (Value.ref t==Value.none)=Z then _ else _) _ _ s;rw[if_neg (show ¬ ((Value.ref t==Value.none)=Z) from yBx)];show qu _ _ (field (.ref it) 1 >>= _) _ _ s;refine wB (xq ho hd (x:=.int i 0) U ?_);show qu _ _ (seqItems? (.ref t) >>= _) _ _ s;refine wB (ju hol hdl ?_);simp only[yAt,hx];refine wB (yx (wB (wpAny_setField ho hd (by simp) ?_)));show qu _ _ (newExc (.type "StopIteration") [] >>= _) _ _ _;refine wB ?_;simp only[newExc,newTuple];refine wB (xj (wB (m:=firstArgMember _ _) (wpAny_of_eq (a:=Value.none) (by first|rfl|(simp only[firstArgMember];rfl)) (xj ?_ (by size_fits)))) (by size_fits));simp only[raiseNew];refine wB (wpAny_handled ?_)
 first|rw[show A.in1.handled=qx from hh]|rw[hh]
 exact wB (wP (wpAny_throw (hE _ _ (((Heap.SameBut.update ..).extBut.push _).push _) (_,xAd _ U,U,))))
def aOE{prog:zx}{w:zj}{A:zv}{E:qj -> qv -> Prop}{s:qv}{e it t:qw}{i:Nat}{bD:Array qj}{old:qj}{Q:Option qj->qv->Prop}(hh:A.in1.handled=qx)
 (he:IsEnum s.heap e it i old) (hit:s.heap.IsTupleIter it t i) (ht:s.heap.IsTuple t bD) (hx:bD[i]?=qx)
 (hQ:∀ h',Heap.ExtBut it s.heap h'->Q qx {s with heap:=h' }):qu (model prog w) A (yq (.ref e)) Q E s:=by let hT:s.TypeIs (.ref e) "enumerate":=(_,he,U,);unfold yq;refine wB (wpAny_attempt (wpAny_callSpecial?_slot (name:=Str.ofString "__next__") hT F.slot_enumerate_next (jq F.slot_enumerate_next hT F.entry_enumerate_next ?_ (F.args_enumerate_next_1 _))));show qu _ _ (field (.ref e) 2 >>= _) _ _ _;refine wB (xq he U (x:=.ref it) U (wB (aGZ hh hit ht hx λ h' x he' hx'=>?_)));let(o,ho,hc):=hx';exact wB (yy (T:="StopIteration") (b:=Z) (o,ho,hc,) kz (wP (hQ _ he')))
def aIy{A:zv}(hh:A.handled=qx)(it t:qw)(hne:t≠it)(bD:Array qj):Draws prog w A it [it,t] bD.size (λ i v=>bD[i]?=J v) (λ i h=>h.IsTupleIter it t i/\h.IsTuple t bD) where
 live:=λ _ _ st=>let ⟨o,ho,_⟩:=st.1;(o,ho,)
 frame:=λ _ _ _ st hk=>(st.1.at λ o e=>hk it (by simp) o e,let ⟨u,hu,r⟩:=st.2;(u,hk t (by simp) u hu,r,),)
 item:=λ i s Q E hi st hQ=>aOK st.1 st.2 (x:=bD[i]) (by simp[hi]) λ h' hit' hs'=>hQ _ h' s.toks (by simp[hi]) (hit',let ⟨u,hu,r⟩:=st.2;(u,hs'.extBut t u hne hu,r,),) hs'
 done:=λ s Q E st hE=>aGZ hh st.1 st.2 (by simp) hE
def aQQ(l:qw)(bD:Array qj)(n:Nat)(dct:Option qw)(sl:Array (Option qj)) :
 Meets (Builtin.«enumerate.__new__» ([.type "enumerate",.ref l],[],)) (λ _ R s=>s.heap.get? l=J {cls:=.type "tuple",dict:=dct,data:=.seq bD n,slots:=sl } /\
  R (.ok (.ret (.ref (s.heap.push {cls:=.type "tuple_iterator",data:=.fields #[.ref l,.int 0 0] }).objs.size)))
   {s with heap:=(s.heap.push {cls:=.type "tuple_iterator",data:=.fields #[.ref l,.int 0 0] }).push {cls:=.type "enumerate",data:=.fields #[.none,.bool Ff,.ref s.heap.objs.size,wq 0,.none,.none] } }):=
 .of_wp λ prog w A R s h=>by
  let(hp,g,d,tk,os):=s;let(hl,h):=h;let hsub:=sub_enumerate;let hL:Heap.IsTuple (Shared.heap (hp,g,d,tk,os,)) l bD:=(_,hl,U,n,U,)
  wp_walk using AutoSeq1.wpAny_loadPart' hl
  refine wpAny_stack_any λ st=>wP ?_
  split
  .rename_i c _ _ _ _ _;cases (c==Value.type "enumerate")
   .wp_walk using AutoSeq1.wpAny_loadPart' hl,jx hL
    exact(_,U,h,)
   .wp_walk using AutoSeq1.wpAny_loadPart' hl,jx hL
    exact(_,U,h,)
  .wp_walk using AutoSeq1.wpAny_loadPart' hl,jx hL
   exact(_,U,h,)
def aPZ{E:qj -> qv -> Prop}{s:qv}{Q:qj->qv->Prop}(hL:s.heap.IsTuple l bD)(h:∀ h',IsEnum h' (s.heap.objs.size+1) s.heap.objs.size 0 .none->h'.IsTupleIter s.heap.objs.size l 0->h'.objs.size=s.heap.objs.size+2 ->
   (∀ b o,s.heap.get? b=J o->h'.get? b=J o)->Q (.ref (s.heap.objs.size+1)) {s with heap:=h' }) :
 qu (model prog w) A (call (.type "enumerate") [.ref l]) Q E s:=by
 let((c,dct,dt,sl),hl,hc,n,hd):=hL;replace hc:c=.type "tuple":=hc;replace hd:dt=.seq bD n:=hd;subst hc hd;refine callType_new F.called_enumerate (·) (F.typeCall_enumerate_1 _) (F.newCall_enumerate_1 _) (λ obj=>F.args_object_init_2 obj _) F.entry_enumerate_new (aQQ l bD n dct sl) (hl,?_,);let hz:(s.heap.push {cls:=.type "tuple_iterator",data:=.fields #[.ref l,.int 0 0] }).objs.size=s.heap.objs.size+1:=yFi ..;show _/\_;rw[hz];let he:IsEnum ((s.heap.push {cls:=.type "tuple_iterator",data:=.fields #[.ref l,.int 0 0] }).push {cls:=.type "enumerate",data:=.fields #[.none,.bool Ff,.ref s.heap.objs.size,wq 0,.none,.none] }) (s.heap.objs.size+1) s.heap.objs.size 0 .none:=by
  have:=xAd (s.heap.push {cls:=.type "tuple_iterator",data:=.fields #[.ref l,.int 0 0] }) (o:={cls:=.type "enumerate",data:=.fields #[.none,.bool Ff,.ref s.heap.objs.size,wq 0,.none,.none] }) U;rw[hz] at this;exact this
 exact((_,he,U,),h _ he (_,hpS _ (xAd _ U),U,U,) (by rw[yFi,hz]) λ b o x=>hpS _ (hpS _ x),)
def aFU(K:FrG)(a:qw):It:=
 (λ i H=>∃ xs x,cK K H a xs/\xs[i]?=J x,λ i H x H'=>∃ p y,H p=qx/\H'=bJ H p (.tup [.int i,y])/\x=.ref p/\∀ xs,cK K H a xs->xs[i]?=J y,λ i H=>∃ xs,cK K H a xs/\↑xs<=i,)
def aQw(a e it:qw)(hei:e≠it)(hea:e≠a)(hai:a≠it):Turn P w K (.Tuple elts k pos) (aFU K a) [e,it] e (λ i h=>(∃ old,IsEnum h e it (i:Nat) old)/\h.IsTupleIter it a i) where
 mem:=xAc
 obj:=λ i h bB b hb=>by
  let((old,he),(o,ho,hc,hd)):=bB
  grind
 keep:=λ i h h' ⟨⟨old,he⟩,hit⟩ q=>((old,q e xAc _ he,),hit.at λ o e=>q it (by simp) o e,)
 item:=λ X hP hW hK hc i aB s σ H E I hf bB tE=>by
  let((old,he),hit):=bB;let(xs,x,hq,hx):=tE;subst hP hW hK;let(aK,rv,pl,hz):=I.tuple hq;let(u,hu,ru):=rv.get hx;let hlt:i<aK.toArray.size:=by
   rw[yAj];exact(gIm hu).1
  let hh:X.A.in1.handled=qx:=I.ok.hd hc;refine wpAny_pyNext_enum_itemD (@aIy X.prog X.w _ hh it a hai aK.toArray) he (hit,pl,) hlt hei (by simp[hei,hea]) λ x' h₁ tk hP heo hit₁ ht₁ hz₁ hk₁=>(_,U,?_,)
  have:x'=u:=by
   rw[List.getElem?_toArray,hu] at hP;simp_all
  subst this;refine yz heo λ h₂ he₂ hs₂=>?_
  let hs2:yCl e h₁ h₂:=hs₂;let eLt:e<s.heap.objs.size:=xAa he;let iLt:it<s.heap.objs.size:=by let(o,ho,_):=hit;exact xAa ho
  let ht₂:h₂.get? s.heap.objs.size=J {cls:=.type "tuple",data:=.seq #[.int i tk,x'] }:=hs2.extBut _ _ (yEx eLt) ht₁;let I2:Inv X aB σ (bJ H s.heap.objs.size (.tup [.int i,x])) {s with heap:=h₂,toks:=tk+1 }:=by
   refine aBd I hf (λ b o hb e'=>?_) (yAd _) (by show 2<=qk;decide,[.int i tk,x'],.cons (_,U,) (.cons ru .nil),(_,ht₂,U,0,U,),);let b1:b≠e:=λ z=>hb (by simp[z])
   let b2:b≠it:=λ z=>hb (by simp[z])
   exact hs2.extBut b o b1 (hk₁ b o b1 b2 e')
  refine(.ref s.heap.objs.size,_,I2,U,(s.heap.objs.size,x,I.fresh,U,U,λ ys hy=>by rw[I.tuple_inj hy hq];exact hx,),((x',by have:=he₂;rw[show((i+1:Nat):Int)=(i:Int)+1 by omega];exact this,),?_,),λ b hb=>?_,)
  .let(o,ho,r):=hit₁.1;exact(o,hs2.extBut it o (Ne.symm hei) ho,r,)
  .have:b<s.heap.objs.size:=by
    rcases List.mem_cons.mp hb with rfl|hb
    .exact eLt
    .rw[yDz] at hb;subst hb;exact iLt
   rw[bZ (xAj this)];exact(hf b hb).1
 done:=λ X hP hW hK hc i aB s σ H E I hf bB tE=>by
  let((old,he),hit):=bB;let(xs,hq,hx):=tE;subst hP hW hK;let(aK,rv,pl,hz):=I.tuple hq;let hh:X.A.in1.handled=qx:=I.ok.hd hc;let hl:=rv.length;refine aOE hh he hit pl (by simp;omega) λ h₁ he₁=>(U,?_,)
  let(f1,f2,f3,f4,f5,f6):=hf it (by simp);exact I.turned (t':=s.toks) (λ b o hb e'=>he₁ b o hb e') f1 f2 f4 f5 f6
 self:=λ A i s Q E ⟨⟨old,he⟩,_⟩ hq=>vy he hq
def aLF(K:FrG)(ta:TA):TI:=λ σ H R=>ta σ H λ vs H1=>∃ a,vs=[.ref a]/\(((∃ xs,cE K H1 a xs)/\R (Ite K a) H1)\/((∃ xs,cK K H1 a xs)/\R (aFU K a) H1))
def aSB{ta:TA}(hg:Gl X "enumerate")(hm:X.mg "enumerate" = qx)(ha:PA X [a] ta)(hs:qo [a] X.env=[(Ff,eval a X.env)]):PI X (.Tuple elts k pp) (.Call (.Name "enumerate" p) [a] [] pos) (aLF X.K ta):=by
 intro aB s σ H R I h;refine Call_ (oE I hg hm boot_enumerate (yBb (bK (ha pos aB s σ H _ I h) λ us s1 hPq47=>?_) hs U));let(vs,H1,I1,r1,q1):=hPq47;let(l,U,q1):=q1;let(u,U,ru):=qF r1;cases ru;let hb':∀ b∈[s1.heap.objs.size+1,s1.heap.objs.size],s1.heap.objs.size<=b:=λ b hb=>by
  rcases List.mem_cons.mp hb with rfl|hb
  .exact yGg _
  .rw[yDz] at hb;rw[hb];exact yAd _
 rcases q1 with ⟨⟨xs,sq⟩,q⟩|⟨⟨xs,sq⟩,q⟩
 .let(aK,rv,pl,hz):=I1.list sq;refine call_enumerate_list pl.isList λ h' he hit hsz hk=>vy he ?_
  let I2:Inv X aB σ H1 {s1 with heap:=h' }:=I1.kept (t':=s1.toks) hk;exact(s1.heap.objs.size+1,[s1.heap.objs.size+1,s1.heap.objs.size],_,_,H1,U,I2,aRD l _ _ (Nat.succ_ne_self _),((_,he,),hit,),λ b hb=>I1.fpOk (hb' b hb) (I1.hok.fresh (hb' b hb)),q,)
 .let(aK,rv,pl,hz):=I1.tuple sq;let hlt:l<s1.heap.objs.size:=by let(o,ho,_):=pl;exact xAa ho
  refine aPZ pl λ h' he hit hsz hk=>vy he ?_
  let I2:Inv X aB σ H1 {s1 with heap:=h' }:=I1.kept (t':=s1.toks) hk;exact(s1.heap.objs.size+1,[s1.heap.objs.size+1,s1.heap.objs.size],_,_,H1,U,I2,aQw l _ _ (Nat.succ_ne_self _) (yEx (Nat.lt_succ_of_lt hlt)) (xAj hlt),((_,he,),hit,),λ b hb=>I1.fpOk (hb' b hb) (I1.hok.fresh (hb' b hb)),q,)
def aRI{xs:G V}(sq:cK K F a xs)(dl:DenL K F ds xs):Wk K F L (aFU K a) (jT 0 ds) where
 go:=λ i H s hi=>by
  rw[wD] at hi;exact(xs,xs[i]'(by rw[<- dl.length];exact hi),jX s sq,by simp_all,)
 stop:=λ H s=>(xs,jX s sq,by rw[wD];exact yEm dl.length.symm,)
 yld:=λ i H F1 L1 S x H' d g R e y=>by
  let(p,y',hp,U,U,hy):=y;let(d',e1,U):=aDE ds 0 i d e;let(x',e2,dx):=dl.get e1;let h:=hy xs (jX (g.f.trans R.sub) sq);rw[h] at e2;cases e2;let hF:F1 p=qx:=R.sub.free hp;refine(bJ F1 p (.tup [.int i,y']),fM hF,R.new hp,.tup (cK.of cU) ?_,);rw[Int.zero_add];exact .cons (.int _) (.cons (dx.mono (g.f.trans (fM hF))) .nil)
def xY(fa:FE):FL:=λ env S=>(fa env S).bind λ p=>match p.1 with|.d (Lz ds)=>J (jT 0 ds,p.2)|.d (Tz ds)=>J (jT 0 ds,p.2)|_=>qx
def aUv{fa:FE}(σ:St)(H:Hp)(Rr:It->Hp->Prop)(h:jM K (xY fa) σ H Rr):aLF K (fA K (dD fa iJ)) σ H Rr:=by
 let(F,L,S,env,ds,S',R,E,e,q):=h;let((w,S1),e1,e2):=aS e;dsimp only at e2;split at e2
 .rename_i ds';cases e2;refine(F,L,S,env,[.d (Lz ds')],_,R,E,by unfold dD;rw[e1];rfl,λ F1 L1 H1 vs g1 R1 d1=>?_,);cases d1 with
  |cons dd dr=>
    cases dr;cases (show Den K F1 (.list ds') _ from dd) with
    |lst sq dl=>exact(_,U,.inl ((_,R1.sub.seq sq,),q F1 L1 H1 _ g1 R1 (aTL sq dl),),)
 .rename_i ds';cases e2;refine(F,L,S,env,[.d (Tz ds')],_,R,E,by unfold dD;rw[e1];rfl,λ F1 L1 H1 vs g1 R1 d1=>?_,);cases d1 with
  |cons dd dr=>
    cases dr;cases (show Den K F1 (.tuple ds') _ from dd) with
    |tup sq dl=>exact(_,U,.inr ((_,jX R1.sub sq,),q F1 L1 H1 _ g1 R1 (aRI sq dl),),)
 .cases e2
inductive Tv where
 |int (i:Int)|str (x:Str)|bool (b:Bool)
 deriving DecidableEq
def Tv.d:Tv->D
 |.int i=>.int i|.str x=>.str x|.bool b=>.bool b
def Tv.v:Tv->V
 |.int i=>.int i|.str x=>.str x|.bool b=>.bl b
def Tv.den(t:Tv):Den K F t.d t.v:=by
 cases t
 .exact .int _
 .exact .str _
 .exact .bl _
def uS(w:zj):G DictEntry->G (Str×Tv)->Prop
 |[],[]=>True|e::r,(x,v)::aO=>e.hash=hashStr w x/\(∃ t,e.key=.str x t)/\bG v.v e.val/\uS w r aO|_,_=>False
def zB(K:FrG)(w:zj)(a:qw)(aO:G (Str×Tv)):Prop:=(a==sysModules)=Ff/\∃ es ep,K.lookup a=J {cls:=.type "dict",data:=.dict es ep }/\uS w es.toList aO
def aCL(aO:G (Str×Tv)):D->Oz D
 |.str x=>(aO.lookup x).map Tv.d|_=>qx
def aJc:∀ {l:G DictEntry}{aO:G (Str×Tv)},uS w l aO->∀ e∈l,∃ k,(fY P w).is k e.key=Z/\e.hash=(fY P w).hash k
 |[],[],_,e,h=>by cases h
 |e::r,(x,v)::aO,ok,e',h=>by
   let(h1,(t,h2),_,h4):=ok;rcases List.mem_cons.mp h with rfl|h
   .exact(.inr x,by rw[h2];exact aDB x t,h1,)
   .exact aJc h4 e' h
 |[],_::_,ok,_,_=>ok.elim|_::_,[],ok,_,_=>ok.elim
def aSs(x y:Str)(t:Tok):oJ (.inr x) (.str y t)=(x==y):=by
 let h:(y==x)=(x==y):=by
  rw[yCj];constructor<;>intro z<;>simp at z ⊢ <;> exact z.symm
 simp[oJ,Value.isStrOf,h]
def aI0:∀ {l:G DictEntry}{aO:G (Str×Tv)},uS w l aO->aO.lookup k=J v->∃ u,(l.find? λ e=>oJ (.inr k) e.key).map (·.val)=J u/\bG v.v u
 |[],[],_,h=>by cases h
 |e::r,(x,v')::aO,ok,h=>by
   let(h1,(t,h2),h3,h4):=ok;rw[yCc] at h;rw[yCx,h2,aSs];cases q:k==x with
   |true=>
     rw[q] at h;simp_all
   |false=>
     rw[q] at h;exact aI0 h4 h
 |[],_::_,ok,_=>ok.elim|_::_,[],ok,_=>ok.elim
def aV5:IxR X (λ x y H Q=>∃ a k v,x=.ref a/\zB X.K X.w a aO/\y=.str k/\aO.lookup k=J v/\Q v.v H):=by
 intro value kL aB s σ H x y v u Q I rx ry h hs;let(a,k,tv,U,(_,es,ep,hl,ok),U,hv,q):=h;cases rx;let(t,U):=ry;let(z,e1,e2):=aI0 ok hv;let hm:s.heap.MapOf (fY X.prog X.w) a (λ k=>findBy (fY X.prog X.w).is es k):=(_,es,ep,I.kIn a _ hl,(U,U,U,),U,λ e he=>aJc ok e (he:),λ _=>rfl,);let hz:findBy (fY X.prog X.w).is es (.inr k)=J z:=by
  unfold findBy;rw[<- Array.find?_toList];exact e1
 exact tail_any hm.typeIs PySem.F.slot_dict_getitem.lookup (wpAny_getItem_of (aDB k t) hm hz (_,H,I.tok _,e2,q,)) hs
def aZW{fk:FE}(hg:Gl X x)(hd:(x==("__debug__" : Str))=Ff)(ht:∃ a,X.mg x=J (.ref a)/\zB X.K X.w a aO)(hk:PE X k (bC X.K fk))(hs:wZ k) :
 PE X (.Subscript (.Name x p) k pos) (bC X.K (f1 fk (pO (aCL aO)))):=by
 let(a,hm,ta):=ht;refine PE.weak (aNs (aV5 (aO:=aO)) (aJY (v:=.ref a) hg hm U hd) hk hs) λ σ H Q hPq48=>?_
 let(F,L,S,env,w,S',R,E,e,q):=hPq48;let((w1,S1),e1,e2):=aS e;let(d,z,e3,e4,U,U):=aDT e2;cases d with
 |str y=>
   let(v,hv,U):=Option.map_eq_some_iff.mp (show(aO.lookup y).map Tv.d=J z from e4);refine(F,L,S,env,w1,_,R,E,e1,λ F1 L1 H1 u g1 R1 d1=>(a,y,v,U,ta,(mZ R1 d1 e3).str,hv,?_,),);exact q F1 L1 H1 v.v g1 R1 (show Den X.K F1 v.d v.v from v.den)
 |_=>cases e4
def aCv:List qj->G Tv->Prop
 |[],[]=>True|u::us,t::ts=>bG t.v u/\aCv us ts|_,_=>False
def aJj:∀ {us:List qj}{ts:G Tv},aCv us ts->bI (ts.map Tv.v) us
 |[],[],_=>.nil|_::_,_::_,⟨h1,h2⟩=>.cons h1 (aJj h2)|[],_::_,h=>h.elim|_::_,[],h=>h.elim
def aKM:∀ ts:G Tv,DenL K F (ts.map Tv.d) (ts.map Tv.v)
 |[]=>.nil|t::ts=>.cons t.den (aKM ts)
def uN(K:FrG)(a:qw)(ts:G Tv):Prop:=∃ (o:Obj) (aK:Array qj) (n:Nat),K.lookup a=J o/\o.cls=.type "tuple" /\ o.data=.seq aK n/\aK.size<=qk/\aCv aK.toList ts
def aT0(h:uN K a ts):Den K F (.tuple (ts.map Tv.d)) (.ref a):=by let(o,aK,n,h1,h2,h3,h4,h5):=h;exact .tup (.inr (o,aK,n,h1,h2,h3,h4,aJj h5,)) (aKM ts)
def bAs(hg:Gl X x)(hd:(x==("__debug__" : Str))=Ff)(ht:∃ a,X.mg x=J (.ref a)/\uN X.K a ts):PE X (.Name x p) (bC X.K (fC (.tuple (ts.map Tv.d)))):=by
 let(a,hm,ca):=ht;refine PE.weak (aJY (v:=.ref a) hg hm U hd) λ σ H Q hPq49=>?_
 let(F,L,S,env,w,S',R,E,e,q):=hPq49;cases e;exact q F L H _ Gr.refl R (aT0 ca)
def aXo(op op':jv)(fa fb fc:FE):FE:=λ env S=>(fa env S).bind λ p=>(fb env p.2).bind λ q=>(jP (bO op) q.2 p.1 q.1).bind λ r=>match r.1 with|.d (Bz true)=>(fc env r.2).bind λ t=>jP (bO op') t.2 q.1 t.1|.d (Bz false)=>J (.d (Bz Ff),r.2)|_=>qx
def aOF{E:qj->qv->Prop}{s:qv}{lo hi:Oz Int}{Q:qj->qv->Prop}(ht:IsTup s.heap t bD)(hs:s.heap.IsSliceOf sl vl vu .none)(pl:IsPart vl lo)(pu:IsPart vu hi)(hw:HT.sIx bD.size 0 lo=0/\HT.sIx bD.size bD.size hi=bD.size)(h:Q (.ref t) s):qu (model prog w) A (getItem (.ref t) (.ref sl)) Q E s:=by
 let(os,hos,hcs,hds):=id hs;let hTs:s.TypeIs (.ref sl) "slice":=(os,hos,hcs,);unfold getItem
 try with_reducible refine zk ?_
 first|refine wB (wP ?_)|skip
 refine wB (wpAny_sequenceKey ht.typeIs (·) ?_)
 refine wB (wpAny_callSpecial?_slot (name:=Str.ofString "__getitem__") ht.typeIs yCq
  (jq yCq ht.typeIs entry_tuple_getitem ?_ (args_tuple_getitem _ _)))
 show qu _ _ (yGx (.ref t) >>= _) _ _ s;refine wB (tupleItemsOf_ ht ?_);refine wB (wpAny_typeOf hTs ?_);rw[if_pos (·)];refine wB (HT.sliceApplied_gen hs pl pu ?_);let hyes:(((HT.sIx bD.size 0 lo:Nat):Int)==0&&(1:Int)==1&&(HT.sIx bD.size bD.size hi-HT.sIx bD.size 0 lo)==bD.size)=Z:=by
  rw[hw.1,hw.2];simp
 show qu _ _ (if (((HT.sIx bD.size 0 lo:Nat):Int)==0&&(1:Int)==1&&(HT.sIx bD.size bD.size hi-HT.sIx bD.size 0 lo)==bD.size)=Z then _ else _) _ _ s;rw[if_pos hyes];unfold Builtin.Tuple.tupleIsExact;refine wB (wB (wpAny_typeOf ht.typeIs (wP ?_)));rw[if_pos (·)]
 first
  |exact wB (yx (wP (_,U,wP h,)))
  |exact wB (yx (wB (wP (wP (_,U,wP h,)))))
  |exact wB (yx (wP (_,U,h,)))
def bA0(K:FrG):V->Oz Int->Oz Int->Hp->VK->Prop:=λ x lo hi H Q=>∃ a xs,x=.ref a/\cK K H a xs /\
 (((HT.sIx ↑xs 0 lo=0/\HT.sIx ↑xs ↑xs hi=↑xs)/\Q (.ref a) H)\/(¬ (HT.sIx ↑xs 0 lo=0/\HT.sIx ↑xs ↑xs hi=↑xs)/\∀ p,H p=qx->Q (.ref p) (bJ H p (.tup (oS xs lo hi)))))
def aS7:SlR X (bA0 X.K):=by
 intro aB s σ H x v vl vu lo hi sl Q I rx hs pl pu h;obtain⟨a,xs,rfl,hx,⟨hw,q⟩|⟨hw,q⟩⟩:=h
 .cases rx;let(aK,r,ht,hz):=I.tuple hx;let cW:aK.toArray.size=↑xs:=by rw[yAj];exact r.length.symm
  refine("tuple",_,PyProof.Rows.slot_tuple_getitem.lookup,ht.typeIs,?_,);exact aOF ht hs pl pu (by rw[cW];exact hw) (.ref a,H,I,U,q,)
 .exact aWn aB s σ H _ v vl vu lo hi sl Q I rx hs pl pu (a,xs,U,hx,hw,q,)
def aNF:D->Oz Int->Oz Int->Oz D
 |.tuple xs,lo,hi=>J (.tuple (gM xs lo hi))|_,_,_=>qx
def aNf(fa:FE)(fl fh:FO):FE:=λ env S=>(fa env S).bind λ p=>(fl env p.2).bind λ q=>(fh env q.2).bind λ r=>(dr r.2 p.1).bind λ d=>(aNF d q.1 r.1).bind λ z=>J (.d z,r.2)
def aYz{lo hi:Option qy}{fa:FE}{fl fh:FO}(ha:PE X a (bC X.K fa))(hl:PO X lo (nF X.K fl))(hh:PO X hi (nF X.K fh)):PE X (.Subscript a (.Slice lo hi qx p2) pos) (bC X.K (aNf fa fl fh)):=
 PE.weak (aJe aS7 ha hl hh) λ σ H Q bB=>by
  let(F,L,S,env,ds,S',R,E,e,q):=bB;let((w,S1),e1,e):=aS e;let((l,S2),e2,e):=aS e;let((h,S3),e3,e):=aS e;let(d,e4,e):=aS e;let(z,e5,e):=aS e;cases e;refine(F,L,S,env,w,S1,R,E,e1,λ F1 L1 H1 v g1 R1 d1=>(F1,L1,S1,env,l,S2,R1,E.mono g1,e2,λ F2 L2 H2 g2 R2=>(F2,L2,S2,env,h,S3,R2,E.mono (g1.trans g2),e3,λ F3 L3 H3 g3 R3=>?_,),),);let n:=mZ R3 (d1.mono (g2.trans g3)) e4;cases d with
  |tuple xs=>
    cases e5;let(a,vs,U,sq,dl):=n.tup R3.sub;refine(a,vs,U,sq,?_,);by_cases hw:HT.sIx ↑vs 0 l=0/\HT.sIx ↑vs ↑vs h=↑vs
    .refine .inl (hw,q F3 L3 H3 _ ((g1.trans g2).trans g3) R3 ?_,);let ec:gM xs l h=xs:=by
      unfold gM;rw[dl.length,hw.1,hw.2,yGi,Nat.sub_zero,<- dl.length,yAb]
     rw[ec];rcases n with n|⟨_,_,_,z,_⟩
     .exact n
     .cases z
    .exact .inr (hw,λ p hp=>q _ L3 _ _ (((g1.trans g2).trans g3).trans (Gr.new (R3.sub.free hp))) (R3.new hp) (Den.tup (cK.of cU) ((aKi dl l h).mono (fM (R3.sub.free hp)))),)
  |_=>cases e5
def aZM(X:Cx):R2:=λ x y H Q=>∃ a k xs,x=.ref a/\y=.int k/\cE X.K H a xs /\ -(2^63)<=k/\k<2^63/\↑xs*k.toNat<=qk/\∀ p,H p=qx->Q (.ref p) (bJ H p (.lst (yAg k.toNat xs).flatten))
def aAg(fa fb:FE):FL:=λ env S=>(fa env S).bind λ p=>(fb env p.2).bind λ q=>(dr q.2 p.1).bind λ d=>match d,q.1 with
 |.list xs,.d (Iz k)=>if k<2^63 /\ -(2^63)<=k/\↑xs*k.toNat<=qk then J (aCK k.toNat xs,q.2) else qx
 |_,_=>qx
def aYV{fa fb:FE}(ha:PE X a (bC X.K fa))(hb:PE X b (bC X.K fb)):PE X (.BinOp a .Mult b pos) (kJ X.K (aAg fa fb)):=by
 refine PE.weak (aMW (r:=aZM X) (λ aB s σ H x y v u Q I rx ry ⟨a,k,xs,hx,hy,sq,h1,h2,hz,q⟩=>?_) ha hb) λ σ H Q ⟨F,L,S,env,ds,S',R,E,e,q⟩=>?_
 .subst hx hy;cases rx;let(t,U):=ry;exact bBp I sq h1 h2 hz q
 .let((w1,S1),e1,e):=aS e;let((w2,S2),e2,e):=aS e;let(d,e3,e):=aS e;dsimp only at e e2 e3;refine(F,L,S,env,w1,S1,R,E,e1,λ F1 L1 H1 x g1 R1 d1=>(F1,L1,S1,env,w2,S2,R1,E.mono g1,e2,λ F2 L2 H2 y g2 R2 d2=>?_,),);cases d with
  |list xs=>
    cases w2 with
    |loc n=>cases e|exc c r=>cases e|dic n=>cases e|ob fs=>cases e|tpl ws=>cases e
    |d v=>
      cases v with
      |int kk=>
        dsimp only at e;split at e
        .rename_i c;cases e;let(a,vs,U,sq,dl):=(mZ R2 (d1.mono g2) e3).lst R2.sub;cases (show Den X.K F2 (.int kk) y from d2);exact(a,kk,vs,U,U,sq,c.2.1,c.1,by rw[<- dl.length];exact c.2.2,λ p hp=>q F2 L2 _ p _ (g1.trans g2) (R2.lay hp) (R2.sub.free hp) (R2.notin hp) cU (dl.rep kk.toNat),)
        .cases e
      |_=>cases e
  |_=>cases e
section
open PySem.SeqAt
open PySem.AutoSeq1 (wpAny_loadPart')
open PySem.MeetsSeq PySem.MeetsSeq2 PySem.MeetsSeq3
def tR:∀ {vs:List qj}{ns:G Int}{i:Nat},IntsAre vs ns->i<↑vs->∃ a t,vs[i]?=J (.int a t)/\ns.drop i=a::ns.drop (i+1)
 |_,_,i,.nil,h=>absurd h (yCy i)|_,_,0,.cons a t _,_=>(a,t,U,U,)
 |_,_,i+1,.cons a t r,h=>by
   let(b,u,h1,h2):=tR (i:=i) r (h:);exact(b,u,by simpa using h1,by simpa using h2,)
end
def aNE(f:FL):FL:=λ env S=>(f env S).bind λ p=>if p.1.length<=1000000 then J p else qx
def wG:1000000<=qk:=by rw[zq];decide
def Itd(hi:Int)(n:Nat):It:=(λ i _=>i<n,λ i H x H'=>H'=H/\x=.int (hi-i),λ i _=>n<=i,)
def aQH(it:qw)(hi:Int)(n:Nat):Turn P w K tg (Itd hi n) [it] it (λ i h=>kq h it (hi+(i:Nat)*(-1)) ((n:Int)-(i:Nat)) (-1)) where
 mem:=by simp
 obj:=λ i h st b hb=>by
  simp_all
 keep:=λ i h h' st k=>k it (by simp) _ st
 item:=by
  intro X hP hw hK hc i aB s σ H E I hf st hg;subst hP hw hK;let(f0,f1,f2,f3,f4,f5):=hf it (by simp);let W:=Walks.range (prog:=X.prog) (w:=X.w) (I.ok.hd hc) it hi (-1) n;refine W.item i s _ _ hg st λ v h' tk hv st' kk=>?_
  let(t,U):=hv;let I1:Inv X aB σ H {s with heap:=h',toks:=tk }:=I.turned (λ b o hb e=>kk b o (hb:) e) f0 f1 f3 f4 f5;refine(_,U,aCe (s:={s with heap:=h',toks:=tk }) (n:="range_iterator") st' U U (·) (.int (hi-i),H,I1,(t,?_,),(U,U,),st',λ b hb=>(hf b hb).1,),);congr 1;omega
 done:=by
  intro X hP hw hK hc i aB s σ H E I hf st hg;subst hP hw hK;let(f0,f1,f2,f3,f4,f5):=hf it (by simp);exact wpAny_pyNext_range_end (I.ok.hd hc) st (by have:n<=i:=hg;omega) λ h' eb=>(U,I.turned (t':=s.toks) (λ b o hb e=>eb b o hb e) f0 f1 f3 f4 f5,)
 self:=λ _ _ _ _ _ st h=>yu st h
def aGY(a b:Int):yEo a b (-1)=if b<a then a-b else 0:=by unfold yEo;simp_all
def aQu{a b:Int}(ha : -(2^62)<=a)(ha':a<2^62)(hb : -(2^62)<=b)(hb':b<2^62):yId a b (-1)=Z:=by unfold yId;rw[aGY];simp only[Builtin.Range.rangeFitsLong,yBf,yFa,decide_eq_true_eq,beq_iff_eq,show ¬ ((-1:Int)>0) by decide,if_false];split<;>omega
def aTf{R:It->Hp->Prop}{E:qj->qv->Prop}{hi lo:Int}(I:Inv X aB σ H s)(h1 : -(2^62)<=hi)(h2:hi<2^62)(h3 : -(2^62)<=lo)(h4:lo<2^62)(q:R (Itd hi (hi-lo).toNat) H):qu (model X.prog X.w) X.A (pyIter (.ref s.heap.objs.size)) (PIE X aB σ tg R) E {s with heap:=s.heap.push {cls:=.type "range",data:=.fields #[.int hi t,.int lo u,.int (-1) v] },toks:=tk }:=by
 refine wpAny_pyIter_range (IsRange.new ..) (aQu h1 h2 h3 h4) ?_;let I1:Inv X aB σ H {s with heap:=s.heap.push {cls:=.type "range",data:=.fields #[.int hi t,.int lo u,.int (-1) v] },toks:=tk }:=I.kept λ b o e=>hpS _ e
 refine⟨(s.heap.push {cls:=.type "range",data:=.fields #[.int hi t,.int lo u,.int (-1) v] }).objs.size,[(s.heap.push {cls:=.type "range",data:=.fields #[.int hi t,.int lo u,.int (-1) v] }).objs.size],_,_,H,rfl,
  I1.kept (t':=tk) λ b o e=>hpS _ e,aQH _ hi (hi-lo).toNat,?_,λ b hb=>?_,q⟩
 .have e1:hi+((0:Nat):Int)*(-1)=hi:=by simp
  let e2:(((hi-lo).toNat:Nat):Int)-((0:Nat):Int)=yEo hi lo (-1):=by rw[aGY];split<;>omega
  show kq _ _ (hi+((0:Nat):Int)*(-1)) ((((hi-lo).toNat:Nat):Int)-((0:Nat):Int)) (-1);rw[e1,e2];exact xAd _ U
 .have e:b=(s.heap.push {cls:=.type "range",data:=.fields #[.int hi t,.int lo u,.int (-1) v] }).objs.size:=(hb:)
  subst e;exact I1.fpOk (yAd _) (I1.hok.fresh (yAd _))
def aNi(ta:TA):TI:=λ σ H R=>ta σ H λ vs H1=>∃ i j:Int,vs=[.int i,.int j,.int (-1)]/\(-(2^62)<=i/\i<2^62 /\ -(2^62)<=j/\j<2^62)/\R (Itd i (i-j).toNat) H1
def aRi{ta:TA}(hg:Gl X "range")(hm:X.mg "range" = qx)(ha:PA X [a,b,c] ta)(hs:qo [a,b,c] X.env=(Ff,eval a X.env)::qo [b,c] X.env)(hs2:qo [b,c] X.env=[(Ff,eval b X.env),(Ff,eval c X.env)]) :
 PI X tg (.Call (.Name "range" p) [a,b,c] [] pos) (aNi ta):=by
 intro aB s σ H R I h;refine Call_ (oE I hg hm boot_range (yBb (bK (ha pos aB s σ H _ I h) λ us s1 hPq50=>?_) hs (by rw[hs2];rfl)));let(vs,H1,I1,r1,q1):=hPq50;let(i,j,e,(q1,q2,q3,q4),q):=q1;subst e;cases r1 with
 |cons r rr=>
   cases rr with
   |cons r' rr=>
     cases rr with
     |cons r'' rr=>
       cases rr;let(t,U):=r;let(t',U):=r';let(t'',U):=r'';exact call_range_3 (·) (aTf I1 q1 q2 q3 q4 q)
def mT(hi:Int):Nat->G D
 |0=>[]|n+1=>.int hi::mT (hi-1) n
def tF:∀ (n:Nat) (hi:Int),(mT hi n).length=n
 |0,_=>rfl|n+1,hi=>by rw[mT,yAo,tF n]
def aDq:∀ (n:Nat) (hi:Int) (i:Nat),i<n->(mT hi n)[i]?=J (.int (hi-i))
 |0,_,_,h=>by omega|n+1,hi,0,_=>by simp[mT]
 |n+1,hi,i+1,h=>by
   rw[mT,yDi,aDq n (hi-1) i (!_)];congr 2
   push_cast
   omega
def aUd(hi:Int)(n:Nat):Wk K F L (Itd hi n) (mT hi n) where
 go:=λ i H s hi=>by rw[tF] at hi;exact hi
 stop:=λ H s=>by rw[tF];exact yAd _
 yld:=λ i H F1 L1 S x H' d g R e y=>by
  let(U,U):=y;let hi:i<n:=by
   have:=(gIm e).1;rw[tF] at this;exact this
  rw[aDq n _ i hi] at e;cases e;exact(F1,cF.refl _,R,.int _,)
def zG(fa fb fc:FE):FL:=λ env S=>(fa env S).bind λ p=>(fb env p.2).bind λ q=>(fc env q.2).bind λ r=>wI (λ i=>wI (λ j=>wI (λ k=>if (-(2^62)<=i/\i<2^62 /\ -(2^62)<=j/\j<2^62)/\k = -1 then J (mT i (i-j).toNat,r.2) else qx) r.1) q.1) p.1
def aXJ{fa fb fc:FE}(σ:L2.St)(H:Hp)(Rr:It->Hp->Prop)(h:jM K (zG fa fb fc) σ H Rr):aNi (fA K (dD fa (dD fb (dD fc iJ)))) σ H Rr:=by
 let(F,L,S,env,ds,S',R,E,e,q):=h;let((w,S1),e1,e2):=aS e;let((w2,S2),e3,e4):=aS e2;let((w3,S3),e5,e6):=aS e4;dsimp only at e6;let(i,U,e7):=oO e6;let(j,U,e8):=oO e7;let(k,U,e9):=oO e8;let((c,U),ea):=iC e9;cases ea;dsimp only at e3 e5;refine(F,L,S,env,[.d (Iz _),.d (Iz _),.d (Iz _)],_,R,E,by unfold dD;rw[e1];dsimp only[yDr];rw[e3];dsimp only[yDr];rw[e5];rfl,λ F1 L1 H1 vs g1 R1 d1=>?_,);cases d1 with
 |cons dd dr=>
   cases dr with
   |cons dd2 dr=>
     cases dr with
     |cons dd3 dr=>
       cases dr;cases (show Den K F1 (.int _) _ from dd);cases (show Den K F1 (.int _) _ from dd2);cases (show Den K F1 (.int _) _ from dd3);exact(_,_,U,c,q F1 L1 H1 _ g1 R1 (aUd _ _),)
def aYE(t:Bool):String:=if t then "tuple_iterator" else "list_iterator"
def gL(t:Bool)(h:Heap)(a:qw)(aK:Array qj):Prop:=match t with|true=>h.IsTuple a aK|false=>h.IsList a aK
def nX(t:Bool)(h:Heap)(it a:qw)(i:Nat):Prop:=match t with|true=>h.IsTupleIter it a i|false=>h.IsListIter it a i
def Sq(t:Bool)(K:FrG)(H:Hp)(a:qw)(xs:G V):Prop:=match t with|true=>cK K H a xs|false=>cE K H a xs
def nX.at{h':Heap}(x:nX t h it a i)(q:∀ o,h.get? it=J o->h'.get? it=J o):nX t h' it a i:=by
 cases t with
 |true=>exact Heap.IsTupleIter.at (h:=h) x q|false=>exact Heap.IsListIter.at (h:=h) x q
def nX.obj(x:nX t h it a i):∃ o,h.get? it=J o/\∀ v,o.data≠.cell v:=by
 cases t with
 |true=>let(o,ho,hc,hd):=x;exact⟨o,ho,λ v z=>by rw[hd] at z;cases z⟩
 |false=>let(o,ho,hc,hd):=x;exact⟨o,ho,λ v z=>by rw[hd] at z;cases z⟩
def gL.lt(x:gL t h a aK):a<h.objs.size:=by
 cases t with
 |true=>let(o,ho,_):=x;exact xAa ho
 |false=>let(o,ho,_):=x;exact xAa ho
def aSw{A:zv}(hh:A.handled=qx)(t:Bool)(it l:qw)(hne:l≠it)(bD:Array qj):Draws prog w A it [it,l] bD.size (λ i v=>bD[i]?=J v) (λ i h=>nX t h it l i/\gL t h l bD):=by
 cases t with
 |true=>exact aIy hh it l hne bD|false=>exact Draws.list hh it l hne bD
def aMK{xs:G V}(I:Inv X aB σ H s)(h:Sq t X.K H a xs):∃ aK:List qj,bI xs aK/\gL t s.heap a aK.toArray:=by
 cases t with
 |true=>let(aK,rv,pl,hz):=I.tuple h;exact(aK,rv,pl,)
 |false=>let(aK,rv,pl,hz):=I.list h;exact(aK,rv,pl.isList,)
def aL8{xs:G V}(I:Inv X aB σ H s)(h:Sq t X.K H a xs)(h':Sq t X.K H a ys):xs=ys:=by
 cases t with
 |true=>exact I.tuple_inj h h'|false=>exact I.list_inj h h'
def aEe{xs:G V}(e:cF H H')(h:Sq t K H a xs):Sq t K H' a xs:=by
 cases t with
 |true=>exact jX e h|false=>exact e.seq h
def aPS{aB:G (qw×Obj)}{σ:L2.St}{H:Hp}{s:qv}{h':Heap}{ch:List qw}{t':Nat}(I:Inv X aB σ H s)(hch:∀ b∈ch,hB X aB H b)(k:∀ b u,b ∉ ch->s.heap.get? b=J u->h'.get? b=J u) :
 Inv X aB σ H {s with heap:=h',toks:=t' }:=by
 let nch:∀ b u,H b=J u->b ∉ ch:=λ b u e z=>by rw[(hch b z).1] at e;cases e
 refine I.step (g':=s.gens) (d':=s.drawn) (ch:=ch) (λ b hb=>((hch b hb).2.2.2.1,(hch b hb).2.1,(hch b hb).2.2.2.2.1,(hch b hb).2.2.2.2.2,)) (λ b o _ _ hc e _=>k b o hc e) (λ b o _ _ hc e _=>(o.slots,k b o hc e,)) (λ _ _ _ _ n=>n)
  (λ b o hc e=>(o,k b o hc e,)) (λ _ _ e=>e) (λ _ _ _ e=>e) (λ b ps e=>(#[],by rw[e];simp,)) (λ m hm=>?_) (λ b u e=>?_) I.bare
 .let(o,es,ep,ho,r):=hm;exact(o,es,ep,k _ o (λ z=>(hch _ z).2.1 U) ho,r,)
 .refine(I.hok b u e).stay (λ c v hc q=>k c v ?_ q) (λ _ q=>q) λ _ _ q=>q
  rcases hc with z|z
  .rw[z];exact nch b u e
  .exact nch c _ z
def aRb{E:qj -> qv -> Prop}{s:qv}{Q:qj->qv->Prop}(hl:gL t s.heap l bD)(h:Q (.ref s.heap.objs.size) {s with heap:=s.heap.push {cls:=.type (aYE t),data:=.fields #[.ref l,.int 0 0] } }):qu (model prog w) A (pyIter (.ref l)) Q E s:=by
 cases t with
 |true=>exact jx hl h|false=>exact jw hl h
abbrev aLY(h:Heap)(z TI TO a:qw)(f:Bool):Prop:=
 h.get? z=J {cls:=.type "zip",dict:=qx,data:=.fields #[wq a,.bool f,.bool Ff,.ref TI,.ref TO],slots:=#[] }
def aRw{E:qj -> qv -> Prop}{s:qv}{Q:Oz Obj->qv->Prop}(h:Q (s.heap.get? a) s):qu (model prog w) A (loadIfAlive a) Q E s:=λ _ _ _=>h
def aQr{E:qj -> qv -> Prop}{s:qv}{TI TO:qw}{Q:Bool->qv->Prop}(hz:aLY s.heap z TI TO a f)(ha:∃ o,s.heap.get? a=J o)(hQ:∀ h',aLY h' z TI TO a Z->yCl z s.heap h'->Q Ff {s with heap:=h' }):qu (model prog w) A (yDs (.ref z)) Q E s:=by
 unfold yDs;refine wB (xq hz U (x:=wq a) U ?_);let(o,ho):=ha;let hn:((s.heap.get? ((a:Int)).toNat).isNone)=Ff:=by
  rw[yAt,ho];rfl
 show qu _ _ (loadIfAlive ((a:Int)).toNat >>= _) _ _ _;refine wB (aRw ?_);rw[hn];simp only[yAv,if_false];cases f with
 |true=>
   refine wB (xq hz U (x:=.bool Z) U ?_);rw[if_neg (·)];exact wP (hQ s.heap hz (Heap.SameBut.refl _ _))
 |false=>
   refine wB (xq hz U (x:=.bool Ff) U ?_);rw[if_pos (·)];exact wB (jj hz (by simp) λ h₁ hz₁ hs₁=>wP (hQ h₁ hz₁ hs₁))
abbrev Tp(h:Heap)(a:qw)(xs:List qj):Prop:=h.get? a=J {cls:=.type "tuple",data:=.seq xs.toArray }
abbrev Zo(h:Heap)(e:qw)(f:qj)(g:Bool):Prop:=h.get? (e+2)=J {cls:=.type "zip",data:=.fields #[f,.bool g,.bool Ff,.ref e,.ref (e+1)] }
abbrev Zq:=List (Bool×qw)
structure ZT(n:Nat)(qs:Zq)(k j:Nat)(h:Heap):Prop where
 it:∀ (i:Nat) q,qs[i]?=J q->nX q.1 h (n+i) q.2 (if i<j then k+1 else k)
 ti:Tp h (n+↑qs) ((yCr n ↑qs).map .ref)
def nn(h:a≠b):(n+a:Nat)≠n+b:=λ e=>h (Nat.add_left_cancel e)
def na{a b:Nat}(h:a≠b):a≠b:=h
def nO{α:Type}{l:List α}{q:α}(h:l[i]?=J q):i<↑l:=(gIm h).1
def ZT.keep{h':Heap}(T:ZT n qs k j h)(r:∀ c o,n<=c->c<=n+↑qs->h.get? c=J o->h'.get? c=J o):ZT n qs k j h':=
 (λ i q e=>(T.it i q e).at λ o x=>r _ o (yDe ..) (yDt (yCv (nO e)) _) x,r _ _ (yDe ..) (yAd _) T.ti,)
def ZT.all(T:ZT n qs k j h)(hj:↑qs<=j):ZT n qs (k+1) 0 h:=(λ i q e=>by let x:=T.it i q e;rw[if_pos (xAb (nO e) hj)] at x;rw[if_neg (yCy _)];exact x,T.ti,)
def aFW{os:List qj}(T:ZT n qs k j h)(hO:Tp h (n+↑qs+1) os)(hz:Zo h (n+↑qs) f g)(c:Nat)(h1:n<=c)(h2:c<=n+↑qs+2):∃ o,h.get? c=J o/\∀ v,o.data≠.cell v:=by
 by_cases h3:c<n+↑qs
 .have e:=yAa (l:=qs) (show c-n<↑qs by omega);have:=(T.it _ _ e).obj;rwa [show n+(c-n)=c by omega] at this
 have:c=n+↑qs\/c=n+↑qs+1\/c=n+↑qs+2:=by omega
 rcases this with rfl|rfl|rfl
 .exact⟨_,T.ti,λ v z=>by cases z⟩
 .exact⟨_,hO,λ v z=>by cases z⟩
 .exact⟨_,hz,λ v z=>by cases z⟩
def Ys(qs:Zq)(vs:Nat->List qj)(k j:Nat)(ys:List qj):Prop:=∀ i:Nat,i<↑qs->i<j->(vs i)[k]?=ys[i]?
def bBk(h:Heap)(e:qw):Prop:=∃ o,h.get? e=J o/\o.cls=.type "StopIteration"
structure ZL(n:Nat)(qs:Zq)(k:Nat)(h0:Heap)(j:Nat)(h:Heap):Prop where
 t:ZT n qs k j h
 sz:h.objs.size=h0.objs.size
 fr:∀ c o,c<n\/n+↑qs+2<c->h0.get? c=J o->h.get? c=J o
def gL.at{h':Heap}(x:gL t h a aK)(f:∀ o,h.get? a=J o->h'.get? a=J o):gL t h' a aK:=by
 cases t with
 |true=>let(o,ho,r):=x;exact(o,f _ ho,r,)
 |false=>let(o,ho,r):=x;exact(o,f _ ho,r,)
def ZL.same(L:ZL n qs k h0 j h)(x:c=n+↑qs+1\/c=n+↑qs+2)(hs:yCl c h h'):ZL n qs k h0 j h':=
 (L.t.keep λ b o _ hb e=>hs.extBut _ _ (λ(z:b=c)=>by subst z;rcases x with rfl|rfl<;>omega) e,hs.1.trans L.sz,λ b o hb e=>hs.extBut _ _ (λ(z:b=c)=>by subst z;rcases x with rfl|rfl<;>omega) (L.fr b o hb e),)
def aM5{A:zv}{E:qj -> qv -> Prop}{s:qv}{Q:qj->qv->Prop}{us:List qj}(hh:A.handled=qx)(hq:qs[j]?=J q)(L:ZL n qs k h0 j s.heap)(sq:gL q.1 h0 q.2 us.toArray/\q.2<n/\k<=↑us)(hQ:∀ x h' tk,us[k]?=J x->ZL n qs k h0 (j+1) h'->yCl (n+j) s.heap h'->Q x {s with heap:=h',toks:=tk })(hE:∀ h' e,k=↑us->Heap.ExtBut (n+j) s.heap h'->bBk h' e->E (.ref e) {s with heap:=h' }):qu (model prog w) A (yBq (.ref (n+j))) Q E s:=by
 let(sq,lt,hk):=sq;replace sq:gL q.1 s.heap q.2 us.toArray:=gL.at sq λ o e=>L.fr _ o (.inl lt) e
 let D:=@aSw prog w _ hh q.1 (n+j) q.2 (xAj (xAb lt (yDe ..))) us.toArray;let t:=L.t.it j q hq;rw[if_neg (yCs _)] at t;let jl:=nO hq;let ze:us.toArray.size=↑us:=yAj ..;by_cases e:k<↑us
 .refine D.item k _ _ _ (ze▸e) (t,sq,) λ x h' tk px st hs=>hQ x h' tk (List.getElem?_toArray▸px) ((λ i q' hi=>?_,hs.extBut _ _ (nn (yEx jl)) L.t.ti,),hs.1.trans L.sz,λ c o hc e=>hs.extBut _ _ (λ(z:c=n+j)=>by subst z;omega) (L.fr c o hc e),) hs
  by_cases c:i=j
  .subst c;rw[hq] at hi;cases hi;rw[if_pos (yFm _)];exact st.1
  .have x:=(L.t.it i q' hi).at λ o x=>hs.extBut _ _ (nn c) x
   rwa [ite_cond_congr (propext ((λ z=>by omega,λ z=>by omega,):i<j ↔ i<j+1))] at x
 .have:us.toArray.size=k:=by omega
  exact D.done _ _ _ (this▸(t,sq,)) λ h' e hs he=>hE h' e (!_) hs he
structure ZH(n:Nat)(qs:Zq)(k:Nat)(h:Heap):Prop where
 t:ZT n qs k 0 h
 to:∃ os,↑os=↑qs/\Tp h (n+↑qs+1) os
 z:∃ f g,Zo h (n+↑qs) f g/\(f=.none/\g=Ff\/∃ a:Nat,f=wq a/\∃ o,h.get? a=J o)
def aFz{α:Type}{l cD:List α}{x:α}(h:x::cD=l.drop j):l[j]?=J x/\cD=l.drop (j+1):=by
 let e:l[j]?=J x:=by rw[<- List.head?_drop,<- h];rfl
 refine(e,?_,);rw[<- List.tail_drop,<- h];rfl
def aMU{A:zv}{E:qj -> qv -> Prop}{s:qv}{qs:Zq}{vs:Nat -> List qj}{Q:Option qj->qv->Prop}(hh:A.in1.handled=qx)(h0:0<↑qs)(h3:↑qs<=3)(Z:ZH n qs k s.heap)(sq:∀ i q,qs[i]?=J q->gL q.1 s.heap q.2 (vs i).toArray/\q.2<n/\k<=(vs i).length)(hQ:∀ h' tk ys,↑ys=↑qs->Ys qs vs k ↑qs ys->ZH n qs (k+1) h'->Tp h' s.heap.objs.size ys->(∀ c o,c<n\/n+↑qs+2<c->s.heap.get? c=J o->h'.get? c=J o) ->
   (Zo s.heap (n+↑qs) .none Ff->Zo h' (n+↑qs) (wq s.heap.objs.size) Ff)->Q (J (.ref s.heap.objs.size)) {s with heap:=h',toks:=tk })(hE:∀ h' tk i,i<↑qs->k=(vs i).length->(∀ c o,c<n\/n+↑qs+2<c->s.heap.get? c=J o->h'.get? c=J o)->Q qx {s with heap:=h',toks:=tk }) :
 qu (model prog w) A (yq (.ref (n+↑qs+2))) Q E s:=by
 let(f,g,hz,hf):=Z.z;let(os,ol,lF):=Z.to;let hT:s.TypeIs (.ref (n+↑qs+2)) "zip":=(_,hz,U,);let hk3:∀ l:List qj,↑l=↑qs->↑l<=qk:=λ l e=>xAh (show ↑l<=1000000 by omega) wG
 let gr:∀ j,j<↑qs->((yCr n ↑qs).map Value.ref)[j]?=J (.ref (n+j)):=λ j h=>by simp[h]
 unfold yq;refine wB (wpAny_attempt (wpAny_callSpecial?_slot (name:=Str.ofString "__next__") hT F.slot_zip_next (jq F.slot_zip_next hT F.entry_zip_next ?_ (F.args_zip_next_1 _))));show qu _ _ (field (.ref (n+↑qs+2)) 2 >>= _) _ _ _;refine wB (xq hz U (x:=.bool Ff) U ?_);show qu _ _ (field (.ref (n+↑qs+2)) 3 >>= _) _ _ _;refine wB (xq hz U (x:=.ref (n+↑qs)) U ?_);refine wB (ju Z.t.ti U ?_);let hi:(((yCr n ↑qs).map Value.ref).toArray.isEmpty)=Ff:=by
  cases e:↑qs with
  |zero=>omega|succ m=>rfl
 dsimp only;rw[hi];simp only[yAv,if_false];rcases hf with ⟨rfl,rfl⟩|⟨a,rfl,o,ho⟩
 .refine wB ?_;unfold yDs;refine wB (xq hz U (x:=.none) U (wP ?_));simp only[if_true];refine wB (yx ?_);refine wB (xq hz U (x:=.ref (n+↑qs+1)) U ?_);refine wB (jj hz (by simp) λ h₁ hz₁ hs₁=>?_);refine wB (wpAny_forIn_list _ (λ cD b s'=>∃ j os h tk,cD=((yCr n ↑qs).map Value.ref).zipIdx.drop j/\b=(qx,())/\s'={s with heap:=h,toks:=tk }/\ZL n qs k s.heap j h/\↑os=↑qs/\Tp h (n+↑qs+1) os/\Ys qs vs k j os/\Zo h (n+↑qs) .ellipsis Ff) _ ?_ ?_ _ _ ?_)
  .rintro x cD b s' ⟨j,os,h,tk,e1,e2,e3,L,e4,lF,hy,hz⟩;subst e2 e3;let(e5,e6):=aFz e1;let jl:j<↑qs:=by have:=nO e5;simpa using this
   have:x=(.ref (n+j),j):=by
    rw[yGp,gr j jl] at e5;simpa using e5.symm
   subst this;refine wB (wpAny_onRaise ?_);show qu _ _ (yBq (.ref (n+j)) >>= _) _ _ _;refine wB (aM5 hh (yAa jl) L (sq j _ (yAa jl)) (λ x h2 tk2 hx L2 hs2=>wP ?_) λ h2 e ek hs2 he=>?_)
   .have hTO2:Tp h2 (n+↑qs+1) os:=hs2.extBut _ _ (na (!_)) lF;refine wB (ju hTO2 U (wB (vx hTO2 U (wB (wpAny_letGo (wP ?_))))));let hs3:=Heap.SameBut.update h2 (n+↑qs+1) (Obj.mapSeq (·.setIfInBounds j x));refine(j+1,os.set j x,_,tk2,e6,U,U,L2.same (.inl U) hs3,by simp[e4],?_,λ i hi hj=>?_,hs3.extBut _ _ (na (!_)) (hs2.extBut _ _ (na (!_)) hz),)
    .show Heap.get? _ _=_;rw[yCw _ hTO2 U];simp[Obj.mapSeq]
    .by_cases c:i=j
     .subst c;rw[hx];simp[e4,jl]
     .rw[hy i hi (!_),yAy (Ne.symm c)]
   .have hz2:Zo h2 (n+↑qs) .ellipsis Ff:=hs2 _ _ (na (!_)) hz;let(oe,ho,hc):=he;let hez:e≠n+↑qs+2:=λ x=>by subst x;rw[hz2] at ho;cases ho;simp at hc
    refine jj hz2 (by simp) λ h3 _ hs3=>?_
    exact wB (yy (T:="StopIteration") (b:=Tt) (oe,hs3.extBut _ _ hez ho,hc,) kz (wP (hE _ _ j jl ek λ c o hc e=>hs3.extBut _ _ (λ z:c=_=>by subst z;omega) (hs2 _ _ (λ z:c=_=>by subst z;omega) (L.fr c o hc e)))))
  .rintro b s' ⟨j,os,h,tk,e1,e2,e3,L,e4,lF,hy,hz⟩;subst e2 e3;let jl:↑qs<=j:=by have:=congrArg yFp e1;simp at this;omega
   refine wB (ju lF U (wB (wpAny_newTuple ?_ (hk3 _ e4))));let hz6:Zo (h.push {cls:=.type "tuple",data:=.seq os.toArray }) (n+↑qs) .ellipsis Ff:=hpS _ hz;let zl:n+↑qs+2<h.objs.size:=xAa hz;show qu _ _ (yFl (.ref (n+↑qs+2)) (.ref h.objs.size) >>= _) _ _ _;unfold yFl;refine wB (wB (jj hz6 (by simp) λ h7 hz7 hs7=>jj hz7 (by simp) λ h8 hz8 hs8=>?_));let up:∀ c o,c≠n+↑qs+2->(h.push {cls:=.type "tuple",data:=.seq os.toArray }).get? c=J o->h8.get? c=J o:=λ c o c1 e=>hs8.extBut _ _ c1 (hs7.extBut _ _ c1 e)
   let hz9:Zo h8 (n+↑qs) (wq h.objs.size) Ff:=hz8;let hT8:Tp h8 h.objs.size os:=up _ _ (yEx zl) (xAd _ U);refine wP (_,U,?_,);show qu _ _ (pure (J (Value.ref h.objs.size))) _ _ _;rw[L.sz] at hz9 hT8 ⊢;exact wP (hQ h8 _ os e4 (λ i hi _=>hy i hi (!_)) ((L.t.all jl).keep λ c o _ hc e=>up c o (na (!_)) (hpS _ e),(os,e4,up _ _ (na (!_)) (hpS _ lF),),_,_,hz9,.inr (_,U,_,hT8,),) hT8 (λ c o hc e=>up c o (na (!_)) (hpS _ (L.fr c o hc e))) λ _=>hz9)
  .exact(0,os,h₁,_,U,U,U,(ZL.mk Z.t U λ _ _ _ e=>e).same (.inr U) hs₁,ol,hs₁.extBut _ _ (na (!_)) lF,λ i _ z=>absurd z (yCy _),hz₁,)
 .have hz0:=hz;refine wB (aQr (z:=n+↑qs+2) hz (o,ho,) λ h₁ hz₁ hs₁=>?_);simp only[yAv,if_false];rw[<- Array.forIn_toList];refine wB (wpAny_forIn_list _ (λ cD b s'=>∃ j ys h tk,cD=((yCr n ↑qs).map Value.ref).drop j/\b=(qx,ys.toArray)/\s'={s with heap:=h,toks:=tk }/\ZL n qs k s.heap j h/\↑ys=min j ↑qs/\Ys qs vs k j ys/\Zo h (n+↑qs) (wq a) Tt/\Tp h (n+↑qs+1) os) _ ?_ ?_ _ _ ?_)
  .rintro x cD b s' ⟨j,ys,h,tk,e1,e2,e3,L,e4,hy,hz,lF⟩;subst e2 e3;let(e5,e6):=aFz e1;let jl:j<↑qs:=by have:=nO e5;simpa using this
   rw[gr j jl] at e5;cases e5;refine wB (zk ?_);show qu _ _ (yBq (.ref (n+j)) >>= _) _ _ _;refine wB (aM5 hh (yAa jl) L (sq j _ (yAa jl)) (λ x h2 tk2 hx L2 hs2=>wP (wP ?_)) λ h2 e ek hs2 he=>?_)
   .refine(j+1,ys++[x],h2,tk2,e6,by simp,U,L2,by simp;omega,λ i hi hj=>?_,hs2.extBut _ _ (na (!_)) hz,hs2.extBut _ _ (na (!_)) lF,);by_cases c:i=j
    .subst c;rw[hx,yAh (!_),show i-↑ys=0 by omega];rfl
    .rw[hy i hi (!_),xAm (!_)]
   .let(oe,ho,hc):=he;exact wB (yy (T:="StopIteration") (b:=Tt) (oe,ho,hc,) kz (wP (hE _ _ j jl ek λ c o hc e=>hs2 _ _ (λ z:c=_=>by subst z;omega) (L.fr c o hc e))))
  .rintro b s' ⟨j,ys,h,tk,e1,e2,e3,L,e4,hy,hz,lF⟩;subst e2 e3;let jl:↑qs<=j:=by have:=congrArg yFp e1;simp at this;omega
   let e4:↑ys=↑qs:=by omega
   refine wB (wpAny_newTuple ?_ (hk3 _ e4));refine wP (_,U,?_,);show qu _ _ (pure (J (Value.ref h.objs.size))) _ _ _;let hT:Tp (h.push {cls:=.type "tuple",data:=.seq ys.toArray }) h.objs.size ys:=xAd _ U;rw[L.sz] at hT ⊢;refine wP (hQ _ _ ys e4 (λ i hi _=>hy i hi (!_)) ((L.t.all jl).keep λ c o _ hc e=>hpS _ e,(os,ol,hpS _ lF,),_,_,hpS _ hz,.inr (_,U,?_,),) hT (λ c o hc e=>hpS _ (L.fr c o hc e)) λ z=>?_)
   .by_cases c:n<=a/\a<=n+↑qs+2
    .let(o,e,_):=aFW L.t lF hz a c.1 c.2;exact(o,hpS _ e,)
    .exact(o,hpS _ (L.fr a o (!_) ho),)
   .have:=hz0.symm.trans z;simp[wq] at this
  .exact(0,[],h₁,_,U,U,U,(ZL.mk Z.t U λ _ _ _ e=>e).same (.inr U) hs₁,by simp,λ i _ z=>absurd z (yCy _),hz₁,hs₁.extBut _ _ (na (!_)) lF,)
def aFK{n:Nat}{qs:Zq}{k:Nat}{aB:G (qw×Obj)}{σ:L2.St}{H:Hp}{s:qv}(I:Inv X aB σ H s)(hl:∀ q∈qs,q.2<n)(h:∀ q∈qs,∃ xs,Sq q.1 X.K H q.2 xs/\k<=↑xs) :
 ∃ vs:Nat->List qj,(∀ i q,qs[i]?=J q->gL q.1 s.heap q.2 (vs i).toArray/\q.2<n/\k<=(vs i).length)/\∀ (i:Nat) q xs,qs[i]?=J q->Sq q.1 X.K H q.2 xs->bI xs (vs i):=by
 have:∀ i:Nat,∃ us:List qj,∀ q,qs[i]?=J q->(gL q.1 s.heap q.2 us.toArray/\q.2<n/\k<=↑us)/\∀ xs,Sq q.1 X.K H q.2 xs->bI xs us:=λ i=>by
  cases e:qs[i]? with
  |none=>exact⟨[],λ q z=>nomatch z⟩
  |some q=>
    let m:=xAk e;let(xs,sq,hk):=h q m;let(us,rv,pl):=aMK I sq;refine(us,λ q' z=>?_,);cases z;exact((pl,hl q m,rv.length▸hk,),λ zs hz=>aL8 I sq hz▸rv,)
 let(vs,hv):=Classical.axiomOfChoice this;exact(vs,λ i q e=>(hv i q e).1,λ i q xs e=>(hv i q e).2 xs,)
def aKk:∀ {us:List qj}{P:Nat->V->Prop},(∀ (j:Nat) u,us[j]?=J u->∃ x,P j x/\bG x u)->∃ xs:G V,bI xs us/\∀ (j:Nat) x,xs[j]?=J x->P j x
 |[],_,_=>([],.nil,λ _ _ z=>by simp at z,)
 |u::us,P,h=>by
   let(x,p,r):=h 0 u U;let(xs,v,q):=aKk (P:=λ j=>P (j+1)) λ j u e=>h (j+1) u e
   refine(x::xs,.cons r v,λ j y e=>?_,);cases j with
   |zero=>cases e;exact p|succ j=>exact q j y e
def aAd(K:FrG)(qs:Zq):It:=
 ⟨λ i H=>∀ q∈qs,∃ xs,Sq q.1 K H q.2 xs/\i<↑xs,
  λ i H v H'=>∃ p ys,H p=qx/\H'=bJ H p (.tup ys)/\v=.ref p/\↑ys=↑qs/\∀ (j:Nat) q xs,qs[j]?=J q->Sq q.1 K H q.2 xs->xs[i]?=ys[j]?,
  λ i H=>(∀ q∈qs,∃ xs,Sq q.1 K H q.2 xs/\i<=↑xs)/\∃ q∈qs,∃ xs,Sq q.1 K H q.2 xs/\i=↑xs⟩
section
variable {n:Nat}{qs:Zq}{k:Nat}{X:Cx}{aB:List (qw×Obj)}{σ:L2.St}{H:Hp}{s:qv}{A:zv}{E:qj->qv->Prop}
def aM8{Q:Option qj->qv->Prop}(hh:A.in1.handled=qx)(h0:0<↑qs)(h3:↑qs<=3)(hl:∀ q∈qs,q.2<n)(I:Inv X aB σ H s)(Z:ZH n qs k s.heap)(h:∀ q∈qs,∃ xs,Sq q.1 X.K H q.2 xs/\k<↑xs)(hQ:∀ h' tk us ys,bI ys us->↑ys=↑qs->(∀ (j:Nat) q xs,qs[j]?=J q->Sq q.1 X.K H q.2 xs->xs[k]?=ys[j]?)->ZH n qs (k+1) h'->Tp h' s.heap.objs.size us->(∀ c o,c<n\/n+↑qs+2<c->s.heap.get? c=J o->h'.get? c=J o) ->
   (Zo s.heap (n+↑qs) .none Ff->Zo h' (n+↑qs) (wq s.heap.objs.size) Ff)->Q (J (.ref s.heap.objs.size)) {s with heap:=h',toks:=tk }) :
 qu (model X.prog X.w) A (yq (.ref (n+↑qs+2))) Q E s:=by
 let(vs,v1,v2):=aFK I hl λ q m=>(h q m).imp λ xs a=>(a.1,yCv a.2,)
 refine aMU hh h0 h3 Z v1 (λ h' tk us ul hy Z' hT fr hz=>?_) λ h' tk i il ek _=>?_
 .let(ys,rv,hys):=@aKk us (λ j x=>∀ q xs,qs[j]?=J q->Sq q.1 X.K H q.2 xs->xs[k]?=J x) λ j u e=>by
   let jl:j<↑qs:=ul▸nO e;let eq:=yAa jl;let(xs,sq,kl):=h _ (xAk eq);let(u',e1,r):=(v2 j _ xs eq sq).get (yAa kl);rw[hy j jl jl,e] at e1;cases e1;refine(_,λ q zs eq' sz=>?_,r,);rw[eq] at eq';cases eq';rw[aL8 I sz sq,yAa kl]
  refine hQ h' tk us ys rv (rv.length.trans ul) (λ j q xs e sq=>?_) Z' hT fr hz;let jl:j<↑ys:=by rw[rv.length,ul];exact nO e
  rw[yAa jl,hys j _ (yAa jl) q xs e sq]
 .have eq:=yAa il;let(xs,sq,kl):=h _ (xAk eq);have:=(v2 i _ xs eq sq).length;omega
def aME{Q:Option qj->qv->Prop}(hh:A.in1.handled=qx)(h0:0<↑qs)(h3:↑qs<=3)(hl:∀ q∈qs,q.2<n)(I:Inv X aB σ H s)(Z:ZH n qs k s.heap)(hf:∀ b∈yCr n (↑qs+3),hB X aB H b)(h:(aAd X.K qs).stop k H)(hQ:∀ h' tk,Inv X aB σ H {s with heap:=h',toks:=tk }->Q qx {s with heap:=h',toks:=tk }):qu (model X.prog X.w) A (yq (.ref (n+↑qs+2))) Q E s:=by
 let(h1,q,m,xs,sq,e):=h;let(vs,v1,v2):=aFK I hl h1;refine aMU hh h0 h3 Z v1 (λ h' tk us ul hy _ _ _ _=>?_) λ h' tk i il ek fr=>hQ _ _ (aPS I hf λ c o hb e'=>fr c o ?_ e')
 .let(j,jl,eq):=yGu m;let e1:=hy j jl jl;rw[yBr (by rw[<- (v2 j q xs (List.getElem?_eq_some_iff.mpr (jl,eq,)) sq).length,e];exact yAd _),yAa (ul▸jl)] at e1;cases e1
 .rw[yHn] at hb;omega
end
def aSS(n:Nat)(qs:Zq)(h0:0<↑qs)(h3:↑qs<=3)(hl:∀ q∈qs,q.2<n) :
 Turn P w K (.Tuple elts k pos) (aAd K qs) (yCr n (↑qs+3)) (n+↑qs+2) (λ i h=>ZH n qs i h/\Zo h (n+↑qs) .none Ff) where
 mem:=List.mem_range'_1.mpr (!_)
 obj:=λ i h bB b hb=>by
  let(Z,hz):=bB;let(os,_,hO):=Z.to;have:=List.mem_range'_1.mp hb;exact aFW Z.t hO hz b this.1 (!_)
 keep:=λ i h h' bB q=>by
  let(Z,hz):=bB;let q':∀ c o,n<=c->c<=n+↑qs+2->h.get? c=J o->h'.get? c=J o:=λ c o a b e=>q c (List.mem_range'_1.mpr (!_)) o e
  let(os,ol,hO):=Z.to;let hz':Zo h' (n+↑qs) .none Ff:=q' _ _ (!_) (!_) hz;exact((Z.t.keep λ c o a b=>q' c o a (!_),(os,ol,q' _ _ (!_) (!_) hO,),_,_,hz',.inl (U,U,),),hz',)
 item:=λ X hP hW hK hc i aB s σ H E I hf bB hg=>by
  let(Z,hz):=bB;subst hP hW hK;refine aM8 (I.ok.hd hc) h0 h3 hl I Z hg λ h' tk us ys rv yl hy Z' hT fr hzo=>(_,U,wpAny_letOwnedTupleGo_zip (hzo hz) λ h₂ hz₂ hs₂=>?_,)
  replace hs₂:yCl (n+↑qs+2) h' h₂:=hs₂;let zl:n+↑qs+2<s.heap.objs.size:=xAa hz;let(os,ol,hO):=Z'.to;refine(.ref s.heap.objs.size,_,@aBd _ _ _ _ s h₂ _ s.heap.objs.size (.tup ys) tk I hf (λ c o hb e'=>?_) (yAd _) (xAh (show ↑ys<=1000000 by omega) wG,us,rv,(_,hs₂.extBut _ _ (yEx zl) hT,U,0,U,),),U,(s.heap.objs.size,ys,I.fresh,U,U,yl,hy,),((Z'.t.keep λ c o _ b=>hs₂.extBut c o (na (!_)),(os,ol,hs₂.extBut _ _ (na (!_)) hO,),_,_,hz₂,.inl (U,U,),),hz₂,),λ c hb=>?_,)
  .rw[yHn] at hb;exact hs₂.extBut c o (na (!_)) (fr c o (!_) e')
  .have:=List.mem_range'_1.mp hb;rw[bZ (na (!_))];exact(hf c hb).1
 done:=λ X hP hW hK hc i aB s σ H E I hf bB hs=>by
  let(Z,hz):=bB;subst hP hW hK;exact aME (I.ok.hd hc) h0 h3 hl I Z hf hs λ h' tk I'=>(U,I',)
 self:=λ A i s Q E h hq=>yk h.2 hq
noncomputable abbrev Zr(qs:Zq):List qj:=qs.map λ q=>.ref q.2
def aPM{E:qj -> qv -> Prop}{s:qv}{vs:Nat -> List qj}{Q:List qj->qv->Prop}(sq:∀ i q,qs[i]?=J q->gL q.1 s.heap q.2 (vs i).toArray)(h:∀ h',h'.objs.size=s.heap.objs.size+↑qs->(∀ (i:Nat) q,qs[i]?=J q->nX q.1 h' (s.heap.objs.size+i) q.2 0)->(∀ c o,s.heap.get? c=J o->h'.get? c=J o)->Q ((yCr s.heap.objs.size ↑qs).map .ref) {s with heap:=h' }) :
 qu (model prog w) A (yGz (Zr qs)) Q E s:=by
 unfold yGz;refine wB (wpAny_forIn_list _ (λ cD b s'=>∃ j h,j<=↑qs/\cD=(Zr qs).drop j/\b=((yCr s.heap.objs.size j).map Value.ref).toArray/\s'={s with heap:=h }/\h.objs.size=s.heap.objs.size+j/\(∀ (i:Nat) q,qs[i]?=J q->i<j->nX q.1 h (s.heap.objs.size+i) q.2 0)/\∀ c o,s.heap.get? c=J o->h.get? c=J o) _ ?_ ?_ _ _ ?_)
 .rintro x cD b s' ⟨j,h,jl,e1,e2,e3,e4,hi,k⟩;subst e2 e3;let(e5,e6):=aFz e1;rw[yAe] at e5;cases eq:qs[j]? with
  |none=>rw[eq] at e5;cases e5
  |some q=>
    rw[eq] at e5;cases e5;refine wB (zk (aRb (gL.at (sq j q eq) (k _)) (wP (j+1,_,nO eq,e6,?_,U,?_,λ i q' eq' il=>?_,λ c o e=>hpS _ (k c o e),))))
    .show Array.push _ (Value.ref h.objs.size)=_;rw[e4,List.range'_1_concat];simp
    .rw[yFi];show h.objs.size+1=_;omega
    .by_cases c:i=j
     .subst c;rw[eq] at eq';cases eq';rw[<- e4];cases q.1<;>exact(_,xAd _ U,U,U,)
     .exact(hi i q' eq' (!_)).at λ o e=>hpS _ e
 .rintro b s' ⟨j,h',jl,e1,e2,e3,e4,hi,k⟩;subst e2 e3;have:j=↑qs:=by have:=congrArg yFp e1;simp at this;omega
  subst this;exact wP (h h' e4 (λ i q e=>hi i q e (nO e)) k)
 .exact(0,s.heap,yBv _,U,U,U,U,λ _ _ _ z=>absurd z (yCy _),λ _ _ e=>e,)
def aDI(h:Heap)(o:Obj)(hr:o.isFreed=Ff):∃ h',h.push o=h'/\h'.get? h.objs.size=J o/\h'.objs.size=h.objs.size+1/\∀ c u,h.get? c=J u->h'.get? c=J u:=(_,U,xAd _ hr,yFi ..,λ _ _ e=>hpS _ e,)
def aTe{qs:Zq}{vs:Nat -> List qj}(h3:↑qs<=3):Meets (Builtin.«zip.__new__» (.type "zip" :: Zr qs,[],)) (λ _ R s=>(∀ i q,qs[i]?=J q->gL q.1 s.heap q.2 (vs i).toArray)/\∀ h',ZH s.heap.objs.size qs 0 h'->Zo h' (s.heap.objs.size+↑qs) .none Ff->h'.objs.size=s.heap.objs.size+↑qs+3 ->
 (∀ c o,s.heap.get? c=J o->h'.get? c=J o)->R (.ok (.ret (.ref (s.heap.objs.size+↑qs+2)))) {s with heap:=h' }):=
 .of_wp λ prog w A R s h=>by
  let(hp,g,d,tk,os):=s;let(sq,h):=h;let hsub:=sub_zip
  wp_walk using aPM sq
  intro h' sz it k;dsimp only at sz it k sq h;let(h1,e1,g1,z1,k1):=aDI h' {cls:=.type "tuple",data:=.seq ((yCr hp.objs.size ↑qs).map Value.ref).toArray } U;let(h2,e2,g2,z2,k2):=aDI h1 {cls:=.type "tuple",data:=.seq (((yCr hp.objs.size ↑qs).map Value.ref).map λ _=>Value.none).toArray } U;let l3:∀ l:List qj,↑l=↑qs->↑l<=qk:=λ l e=>xAh (show ↑l<=1000000 by omega) wG
  refine wB (wpAny_newTuple ?_ (l3 _ (by simp)));dsimp only;rw[e1];refine wB (wpAny_newTuple ?_ (l3 _ (by simp)));dsimp only;rw[e2]
  wp_walk
  let(h4,e4,g4,z4,k4):=aDI h2 {cls:=.type "zip",data:=.fields (Builtin.SmallTypes.ownedTupleFields++[Value.bool Ff,Value.ref h'.objs.size,Value.ref h1.objs.size]).toArray } U;refine(_,U,?_,);rw[e4];rw[z2,z1,sz] at g4 z4 ⊢;rw[z1,sz] at g2;rw[sz] at g1;let hz:Zo h4 (hp.objs.size+↑qs) .none Ff:=g4;exact h h4 ((λ i q e=>(it i q e).at λ o e=>k4 _ _ (k2 _ _ (k1 _ _ e)),k4 _ _ (k2 _ _ g1),),(_,by simp,k4 _ _ g2,),_,_,hz,.inl (U,U,),) hz z4 λ c o e=>k4 _ _ (k2 _ _ (k1 _ _ (k c o e)))
def zok:∀ qs:Zq,2<=↑qs->↑qs<=3->checkTypeCall "zip" ⟨Zr qs,[]⟩=pure ()/\checkBuiltinCall "zip.__new__" ⟨.type "zip" :: Zr qs,[]⟩=pure ()/\∀ obj,argsOk "object.__init__" ⟨obj::Zr qs,[]⟩
 |[_,_],_,_=>(F.typeCall_zip_2 _ _,F.newCall_zip_2 _ _,λ obj=>F.args_object_init_3 obj _ _,)
 | [_,_,_],_,_=>⟨by kernel_rfl,by kernel_rfl,λ _=>by
   unfold argsOk;rw[signature?_of (id:="object.__init__") (n:=['_','_','t','i','n','i','_','_']) (o:=['t','c','e','j','b','o']) (by kernel_rfl) F.owner_object];kernel_rfl⟩
def aSf{E:qj -> qv -> Prop}{s:qv}{qs:Zq}{vs:Nat -> List qj}{Q:qj->qv->Prop}(h2:2<=↑qs)(h3:↑qs<=3)(sq:∀ i q,qs[i]?=J q->gL q.1 s.heap q.2 (vs i).toArray)(h:∀ h',ZH s.heap.objs.size qs 0 h'->Zo h' (s.heap.objs.size+↑qs) .none Ff->h'.objs.size=s.heap.objs.size+↑qs+3->(∀ c o,s.heap.get? c=J o->h'.get? c=J o)->Q (.ref (s.heap.objs.size+↑qs+2)) {s with heap:=h' }) :
 qu (model prog w) A (call (.type "zip") (Zr qs)) Q E s:=by let(o1,o2,o3):=zok qs h2 h3;exact callType_new F.called_zip (·) o1 o2 o3 F.entry_zip_new (@aTe _ vs h3) (sq,λ h' Z hz sz k=>((_,hz,U,),h h' Z hz sz k,),)
def aAo(K:FrG)(ta:TA):TI:=λ σ H R=>ta σ H λ vs H1=>∃ qs:Zq,vs=qs.map (λ q=>.ref q.2)/\2<=↑qs/\↑qs<=3/\(∀ q∈qs,∃ xs,Sq q.1 K H1 q.2 xs)/\R (aAd K qs) H1
def aM9{Q:qj->qv->Prop}{E:qj->qv->Prop}{qs:Zq}(I:Inv X aB σ H s)(r:bI (qs.map λ q=>.ref q.2) us)(h2:2<=↑qs)(h3:↑qs<=3)(sq:∀ q∈qs,∃ xs,Sq q.1 X.K H q.2 xs)(h:∀ h',Inv X aB σ H {s with heap:=h' }->(∀ q∈qs,q.2<s.heap.objs.size)->ZH s.heap.objs.size qs 0 h'->Zo h' (s.heap.objs.size+↑qs) .none Ff->h'.objs.size=s.heap.objs.size+↑qs+3->(∀ b∈yCr s.heap.objs.size (↑qs+3),hB X aB H b)->Q (.ref (s.heap.objs.size+↑qs+2)) {s with heap:=h' }) :
 qu (model X.prog X.w) A (call (.type "zip") us) Q E s:=by
 let e:∀ {qs:Zq}{us:List qj},bI (qs.map λ q=>.ref q.2) us->us=Zr qs:=λ {qs}=>by
  induction qs with
  |nil=>intro us r;cases r;rfl
  |cons q qs ih=>intro us r;cases r with|cons a b=>cases a;rw[ih b];rfl
 rw[e r];let hl:∀ q∈qs,q.2<s.heap.objs.size:=λ q m=>by
  let(xs,sx):=sq q m;let(us,_,pl):=aMK I sx;exact pl.lt
 let(vs,v1,_):=aFK (k:=0) I hl λ q m=>(sq q m).imp λ xs a=>(a,yBv _,)
 refine aSf h2 h3 (λ i q e=>(v1 i q e).1) λ h' Z hz sz k=>h h' (I.kept (t':=s.toks) k) hl Z hz sz λ b hb=>?_
 have:=(List.mem_range'_1.mp hb).1;exact I.fpOk this (I.hok.fresh this)
def aKn{ta:TA}(hg:Gl X "zip")(hm:X.mg "zip" = qx)(ha:PA X (a::es) ta)(hs:qo (a::es) X.env=(Ff,eval a X.env)::qo es X.env)(hs2:((backTo pos (qo es X.env)).any λ x=>x.fst)=Ff):PI X (.Tuple elts k pp) (.Call (.Name "zip" p) (a::es) [] pos) (aAo X.K ta):=by intro aB s σ H R I h;refine Call_ (oE I hg hm boot_zip (yBb (bK (ha pos aB s σ H _ I h) λ us s1 hq=>?_) hs hs2));let(vs,H1,I1,r1,q1):=hq;let(qs,U,h2,h3,sq,q):=q1;exact aM9 I1 r1 h2 h3 sq λ h' I2 hl Z hz _ fp=>yk hz (_,_,_,_,H1,U,I2,aSS _ qs (!_) h3 hl,(Z,hz,),fp,q,)
def aJ9{K:FrG}:∀ {ds:G D}{ys:G V},↑ds=↑ys->(∀ (j:Nat) d y,ds[j]?=J d->ys[j]?=J y->Den K F d y)->DenL K F ds ys
 |[],[],_,_=>.nil|d::ds,y::ys,h,k=>.cons (k 0 d y U U) (aJ9 (Nat.succ.inj h) λ j=>k (j+1))
structure Zd(K:FrG)(F:Hp)(qs:Zq)(dss:List (List D))(zs:List D):Prop where
 len:↑dss=↑qs
 sq:∀ (j:Nat) q ds,qs[j]?=J q->dss[j]?=J ds->∃ xs,Sq q.1 K F q.2 xs/\DenL K F ds xs
 le:∀ ds∈dss,↑zs<=↑ds
 eq:∃ ds∈dss,↑zs=↑ds
 get:∀ (i:Nat) d,zs[i]?=J d->∃ es,d=.tuple es/\dss.map (·[i]?)=es.map J
section
variable {K:FrG}{F F1 H:Hp}{qs:Zq}{dss:List (List D)}{zs:List D}
def Zd.go(Z:Zd K F qs dss zs)(s:cF F H)(h:k<=↑zs):∀ q∈qs,∃ xs,Sq q.1 K H q.2 xs/\k<=↑xs:=λ q m=>by
 let(j,jl,e):=yGu m;let e2:=yAa (l:=dss) (Z.len▸jl);let(xs,sq,dl):=Z.sq j q _ (List.getElem?_eq_some_iff.mpr (jl,e,)) e2;exact(xs,aEe s sq,xAh h (dl.length▸Z.le _ (xAk e2)),)
def Zd.stop(Z:Zd K F qs dss zs)(s:cF F H):(aAd K qs).stop ↑zs H:=by refine(Z.go s (yAd _),?_,);let(ds,m,el):=Z.eq;let(j,jl,e):=yGu m;let e2:=yAa (l:=qs) (Z.len▸jl);let(xs,sq,dl):=Z.sq j _ ds e2 (List.getElem?_eq_some_iff.mpr (jl,e,));exact(_,xAk e2,xs,aEe s sq,el.trans dl.length,)
def Zd.den(Z:Zd K F qs dss zs)(s1:cF F F1)(s2:cF F1 H){i:Nat}{d:D}{p:qw}{ys:G V}(e:zs[i]?=J d)(hp:H p=qx)(yl:↑ys=↑qs)(hy:∀ (j:Nat) q xs,qs[j]?=J q->Sq q.1 K H q.2 xs->xs[i]?=ys[j]?):Den K (bJ F1 p (.tup ys)) d (.ref p):=by
 let(es,U,ee):=Z.get i d e;let el:↑es=↑dss:=by have:=congrArg yFp ee;simpa using this.symm
 refine .tup (cK.of cU) (aJ9 (by rw[el,yl,Z.len]) λ j d y hd hy'=>?_);let jl:j<↑dss:=el▸nO hd;let e2:=yAa (l:=qs) (Z.len▸jl);let(xs,sq,dl):=Z.sq j _ _ e2 (yAa jl);let e3:=congrArg (·[j]?) ee;simp only[yAe,yAa jl,hd,yFb,Option.some.injEq] at e3;let(x,e4,dx):=dl.get e3;rw[hy j _ xs e2 (aEe (s1.trans s2) sq),hy'] at e4;cases e4;exact dx.mono (s1.trans (fM (s2.free hp)))
def aLl(Z:Zd K F qs dss zs):Wk K F L (aAd K qs) zs where
 go:=λ i H s hi=>Z.go s hi
 stop:=λ H s=>Z.stop s
 yld:=λ i H F1 L1 S x H' d g R e y=>by
  let(p,ys,hp,U,U,yl,hy):=y;exact(_,fM (R.sub.free hp),R.new hp,Z.den g.f R.sub e hp yl hy,)
def qH:W->Oz (G D)
 |.d (Lz ds)=>J ds|.d (Tz ds)=>J ds|_=>qx
def qZ(h:qH w=J ds)(d:eS K F L w v):∃ q:Bool×qw,v=.ref q.2/\∃ xs,Sq q.1 K F q.2 xs/\DenL K F ds xs:=by
 unfold qH at h;split at h
 .cases h;cases (show Den K F (.list ds) v from d) with|lst sq dl=>exact((Ff,_),U,_,sq,dl,)
 .cases h;cases (show Den K F (.tuple ds) v from d) with|tup sq dl=>exact((Z,_),U,_,sq,dl,)
 .cases h
end
def gK:G D->G D->G D
 |a::as,b::bs=>.tuple [a,b]::gK as bs|_,_=>[]
def aBc:∀ as bs:G D,(gK as bs).length=min ↑as ↑bs
 |[],_=>by simp[gK]|_::_,[]=>by simp[gK]|_::as,_::bs=>by simp[gK,aBc as bs]
def aDR:∀ (as bs:G D) (i:Nat) (d:D),(gK as bs)[i]?=J d->∃ a b,as[i]?=J a/\bs[i]?=J b/\d=.tuple [a,b]
 |[],_,i,d,h=>by simp[gK] at h|_::_,[],i,d,h=>by simp[gK] at h|a::as,b::bs,0,d,h=>by simp[gK] at h;exact(a,b,U,U,h.symm,)|a::as,b::bs,i+1,d,h=>aDR as bs i d h
def gX:G D->G D->G D->G D
 |a::as,b::bs,c::cs=>.tuple [a,b,c]::gX as bs cs|_,_,_=>[]
def aDm:∀ as bs cs:G D,(gX as bs cs).length=min ↑as (min ↑bs ↑cs)
 |[],_,_=>by simp[gX]|_::_,[],_=>by simp[gX]|_::_,_::_,[]=>by simp[gX]|_::as,_::bs,_::cs=>by simp[gX,aDm as bs cs]
def aIE:∀ (as bs cs:G D) (i:Nat) (d:D),(gX as bs cs)[i]?=J d->∃ a b c,as[i]?=J a/\bs[i]?=J b/\cs[i]?=J c/\d=.tuple [a,b,c]
 |[],_,_,i,d,h=>by simp[gX] at h|_::_,[],_,i,d,h=>by simp[gX] at h|_::_,_::_,[],i,d,h=>by simp[gX] at h|a::as,b::bs,c::cs,0,d,h=>by simp[gX] at h;exact(a,b,c,U,U,U,h.symm,)|a::as,b::bs,c::cs,i+1,d,h=>aIE as bs cs i d h
def aRU(x y z:G D)(ds:G D)(h:ds∈[x,y,z]):(gX x y z).length<=↑ds:=by
 rw[aDm];simp only[yEa,yDv,or_false] at h;rcases h with rfl|rfl|rfl
 .exact yCa _ _
 .exact xAh (yDd _ _) (yCa _ _)
 .exact xAh (yDd _ _) (yDd _ _)
def aSh(x y z:G D):∃ ds∈[x,y,z],(gX x y z).length=↑ds:=by
 rw[aDm];rcases yHy x.length (min y.length z.length) with q|q
 .exact(x,by simp,yEj q,)
 rw[yEt q];rcases yHy y.length z.length with q|q
 .exact(y,by simp,yEj q,)
 .exact(z,by simp,yEt q,)
def aLv{F:Hp}(j:Nat)(q:Bool×qw)(ds:G D)(h:([]:Zq)[j]?=J q)(_:([]:G (G D))[j]?=J ds):∃ xs,Sq q.1 K F q.2 xs/\DenL K F ds xs:=by simp at h
def xJ{F:Hp}{q0:Bool×qw}{ds0:G D}{qs:Zq}{dss:G (G D)}(h:∃ xs,Sq q0.1 K F q0.2 xs/\DenL K F ds0 xs)(t:∀ (j:Nat) q ds,qs[j]?=J q->dss[j]?=J ds->∃ xs,Sq q.1 K F q.2 xs/\DenL K F ds xs) :
 ∀ (j:Nat) q ds,(q0::qs)[j]?=J q->(ds0::dss)[j]?=J ds->∃ xs,Sq q.1 K F q.2 xs/\DenL K F ds xs
 |0,_,_,e1,e2=>by cases e1;cases e2;exact h|j+1,q,ds,e1,e2=>t j q ds e1 e2
def aFu(Z:Zd K F qs dss zs)(s:cF F H):∀ q∈qs,∃ xs,Sq q.1 K H q.2 xs:=λ q m=>(Z.go s (yBv _) q m).imp λ xs a=>a.1
def zd2{q1 q2:Bool×qw}(h1:∃ xs,Sq q1.1 K F q1.2 xs/\DenL K F as xs)(h2:∃ xs,Sq q2.1 K F q2.2 xs/\DenL K F bs xs):Zd K F [q1,q2] [as,bs] (gK as bs):=
 (U,xJ h1 (xJ h2 aLv),by simp[aBc];omega,by simp[aBc];omega,λ i d e=>by let(a,b,e1,e2,U):=aDR as bs i d e;exact(_,U,by simp[e1,e2],),)
section
variable {K:FrG}{fa fb fc:FE}(σ:L2.St)(H:Hp)(Rr:It->Hp->Prop)
def sG(fa fb:FE):FL:=λ env S=>(fa env S).bind λ p=>(fb env p.2).bind λ q=>(qH p.1).bind λ ds=>(qH q.1).bind λ es=>J (gK ds es,q.2)
theorem bAB(h:jM K (sG fa fb) σ H Rr):aAo K (fA K (dD fa (dD fb iJ))) σ H Rr:=by
 let(F,L,S,env,ds,S',R,E,e,q):=h;let((w1,S1),e1,e):=aS e;let((w2,S2),e2,e):=aS e;let(ds1,e3,e):=aS e;let(ds2,e4,e):=aS e;dsimp only at e e2 e3 e4;cases e;refine(F,L,S,env,[w1,w2],S',R,E,by unfold dD;simp only[e1,e2,iJ,yCd],λ F1 L1 H1 vs g1 R1 d1=>?_,);obtain - | ⟨da,- | ⟨db,- | -⟩⟩:=d1
 let(q1,U,h1):=qZ e3 da;let(q2,U,h2):=qZ e4 db;let Z:=zd2 h1 h2;exact([q1,q2],U,by simp,by simp,aFu Z R1.sub,q F1 L1 H1 _ g1 R1 (aLl Z),)
def aCa(fa fb fc:FE):FL:=λ env S=>(fa env S).bind λ p=>(fb env p.2).bind λ q=>(fc env q.2).bind λ r=>(qH p.1).bind λ ds=>(qH q.1).bind λ es=>(qH r.1).bind λ gs=>J (gX ds es gs,r.2)
theorem aYw(h:jM K (aCa fa fb fc) σ H Rr):aAo K (fA K (dD fa (dD fb (dD fc iJ)))) σ H Rr:=by
 let(F,L,S,env,ds,S',R,E,e,q):=h;let((w1,S1),e1,e):=aS e;let((w2,S2),e2,e):=aS e;let((w3,S3),e0,e):=aS e;let(ds1,e3,e):=aS e;let(ds2,e4,e):=aS e;let(ds3,e5,e):=aS e;dsimp only at e e2 e3 e4 e0 e5;cases e;refine(F,L,S,env,[w1,w2,w3],S',R,E,by unfold dD;simp only[e1,e2,e0,iJ,yCd],λ F1 L1 H1 vs g1 R1 d1=>?_,);obtain - | ⟨da,- | ⟨db,- | ⟨dc,- | -⟩⟩⟩:=d1
 let(q1,U,h1):=qZ e3 da;let(q2,U,h2):=qZ e4 db;let(q3,U,h3):=qZ e5 dc;let Z:Zd K F1 [q1,q2,q3] [ds1,ds2,ds3] (gX ds1 ds2 ds3):=(U,xJ h1 (xJ h2 (xJ h3 aLv)),aRU _ _ _,aSh _ _ _,λ i d e=>by let(a,b,c,e1,e2,e3,U):=aIE _ _ _ i d e;exact(_,U,by simp[e1,e2,e3],),);exact([q1,q2,q3],U,by simp,by simp,aFu Z R1.sub,q F1 L1 H1 _ g1 R1 (aLl Z),)
end
section
variable {X:Cx}{elts:List qy}{k:Nat}{pp:Pos}{a b c:qy}{ta:TA}{p pos:Pos}(hg:Gl X "zip")(hm:X.mg "zip"=qx)
include hg hm
theorem aX9(ha:PA X [a,b] ta)(hs:qo [a,b] X.env=(Ff,eval a X.env)::qo [b] X.env)(hs2:qo [b] X.env=[(Ff,eval b X.env)]):PI X (.Tuple elts k pp) (.Call (.Name "zip" p) [a,b] [] pos) (aAo X.K ta):=aKn hg hm ha hs (by rw[hs2];rfl)
theorem aVk(ha:PA X [a,b,c] ta)(hs:qo [a,b,c] X.env=(Ff,eval a X.env)::qo [b,c] X.env)(hs2:qo [b,c] X.env=(Ff,eval b X.env)::qo [c] X.env)(hs3:qo [c] X.env=[(Ff,eval c X.env)]):PI X (.Tuple elts k pp) (.Call (.Name "zip" p) [a,b,c] [] pos) (aAo X.K ta):=aKn hg hm ha hs (by rw[hs2,hs3];rfl)
end
def Rel.relay(r:Rel K F L S H)(hF:F p=qx)(hL:p ∉ ad L):Rel K F L S (bJ H p o):=by
 let ne:∀ {n:Nat}{a:qw}{b:Bool},L[n]?=J (a,b)->a≠p:=λ e z=>hL (by rw[<- z];exact aEN e)
 refine(λ b u q=>by rw[bZ (fB q hF)];exact r.sub _ _ q,r.nd,r.len,λ n a ds e1 e2=>?_,λ n a ds e1 e2=>?_,λ n a b e=>?_,)
 .let(f,xs,e3,dl):=r.loc n a ds e1 e2;exact(f,xs,by rw[bZ (ne e1)];exact e3,dl,)
 .let(f,xs,e3,dl):=r.dic n a ds e1 e2;exact(f,xs,e3,by rw[bZ (ne e1)];exact dl,)
 .let(o,hx,hy):=r.tr n a b e;exact(o,by rw[bZ (ne e)];exact hx,hy,)
def aIH(k:Den K F d v):∀ {ds:G D}{xs:G V},DenL K F ds xs->DenL K F (ds++[d]) (xs++[v])
 |_,_,.nil=>.cons k .nil|_,_,.cons a b=>.cons a (aIH k b)
structure ZW(X:Cx)(aB:List (qw×Obj))(σ:L2.St)(F1:Hp)(L1:Lx)(S1:aD)(SA:qw)(n:Nat)(qs:Zq)(ds:List D)(H F:Hp)(vs:List V)(s:qv):Prop where
 inv:Inv X aB σ H s
 same:cF F1 F
 rel:Rel X.K F L1 S1 H
 free:F SA=qx
 lst:H SA=J (.lst vs)
 den:DenL X.K F ds vs
 fp:∀ c∈yCr n (↑qs+3),hB X aB H c
def aSW{X:Cx}{F1:Hp}{SA:qw}{qs:Zq}{A:zv}{R:Result->qv->Prop}(hh:A.in1.in1.handled=qx)(h0:0<↑qs)(h3:↑qs<=3)(hq:∀ q∈qs,q.2<n)(Z:Zd X.K F1 qs dss zs)(hL:SA ∉ ad L1)(cW:↑zs<=1000000)(hR:∀ s' H' F' vs',ZW X aB σ F1 L1 S1 SA n qs zs H' F' vs' s'->R (.ok (.ret res)) s') :
 ∀ (k i:Nat) (s:qv) (H F:Hp) (vs:G V),↑zs-i=k->i<=↑zs->ZW X aB σ F1 L1 S1 SA n qs (zs.take i) H F vs s->ZH n qs i s.heap ->
 jo (model X.prog X.w) A (.builtin "list.extend.loop" ([.ref SA,.ref (n+↑qs+2),res],[],)) R s:=by
 intro k
 induction k with
 |zero=>
   intro i s H F vs hk hi hw hz;let hin:i=↑zs:=by omega
   refine codeAny_builtin yHi ?_;rw[Around.under_plainId yEf _];show qu _ A.in1 (yq (.ref (n+↑qs+2)) >>= _) _ _ s;subst hin;rw[yAb] at hw;exact wB (aME hh h0 h3 hq hw.inv hz hw.fp (Z.stop (hw.same.trans hw.rel.sub)) λ h' tk I'=>wP (hR _ H F vs (I',hw.same,hw.rel,hw.free,hw.lst,hw.den,hw.fp,)))
 |succ k ih=>
   intro i s H F vs hk hi hw hz;let hlt:i<↑zs:=by omega
   refine codeAny_builtin yHi ?_;rw[Around.under_plainId yEf _];show qu _ A.in1 (yq (.ref (n+↑qs+2)) >>= _) _ _ s;refine wB (aM8 hh h0 h3 hq hw.inv hz (Z.go (hw.same.trans hw.rel.sub) hlt) λ h' tk us ys rv yl hy Z' hT fr _=>?_);let hp:H s.heap.objs.size=qx:=hw.inv.fresh;let hF:F s.heap.objs.size=qx:=hw.rel.sub.free hp;let neS:SA≠s.heap.objs.size:=λ q=>by rw[<- q,hw.lst] at hp;cases hp
   let(os,ol,hO):=Z'.to;let(f,g,hzo,_):=Z'.z;let I2:Inv X aB σ (bJ H s.heap.objs.size (.tup ys)) {s with heap:=h',toks:=tk }:=aBd (s:=s) hw.inv hw.fp (λ c o hb e'=>fr c o (by rw[yHn] at hb;omega) e') (yAd _) (xAh (show ↑ys<=1000000 by omega) wG,us,rv,(_,hT,U,0,U,),);let hS:bJ H s.heap.objs.size (.tup ys) SA=J (.lst vs):=by rw[bZ neS];exact hw.lst
   let(hv,aK,m,rl,hl,e):=I2.lstM hS;let vl:↑vs=i:=by
    have:=hw.den.length;rw[yBl] at this;omega
   let hs:1000000<=qk:=wG;show qu _ A.in1 (updateSeq SA (·.push (.ref s.heap.objs.size)) >>= _) _ _ _;let ne:∀ c∈yCr n (↑qs+3),c≠SA:=λ c hc q=>by
    have:=(hw.fp c hc).1;rw[q,hw.lst] at this;cases this
   let kp:∀ c o,c≠SA->h'.get? c=J o->(h'.update SA (Obj.mapSeq (·.push (.ref s.heap.objs.size)))).get? c=J o:=λ c o hc q=>(yCn _ _ (Ne.symm hc)).trans q
   let kr:∀ c o,n<=c->c<=n+↑qs+2->h'.get? c=J o->(h'.update SA (Obj.mapSeq (·.push (.ref s.heap.objs.size)))).get? c=J o:=λ c o a b=>kp c o (ne c (List.mem_range'_1.mpr (!_)))
   refine wB (vx e U (wP (plainId_quiet yEf _,ih (i+1) _ (bJ (bJ H s.heap.objs.size (.tup ys)) SA (.lst (vs++[.ref s.heap.objs.size]))) (bJ F s.heap.objs.size (.tup ys)) _ (!_) hlt (?_,hw.same.trans (fM hF),Rel.relay (hw.rel.new hp) (by rw[bZ neS];exact hw.free) hL,by rw[bZ neS];exact hw.free,cU,?_,λ c hc=>(?_,(hw.fp c hc).2,),) (Z'.t.keep λ c o a b=>kr c o a (!_),(os,ol,kr _ _ (!_) (!_) hO,),?_,),)) (by simp;omega) (by simp;omega))
   .exact I2.lset (its':=aK++[.ref s.heap.objs.size]) hS e (by simp) (bI.append rl (.cons (show bG (.ref s.heap.objs.size) (Value.ref s.heap.objs.size) from U) .nil)) (by rw[xAn];show ↑vs+1<=_;omega)
   .rw[List.take_succ_eq_append_getElem hlt];exact aIH (Z.den hw.same hw.rel.sub (yAa hlt) hp yl hy) (hw.den.mono (fM hF))
   .have c1:c<s.heap.objs.size:=by
     let(os,_,hO):=hz.to;let(_,_,hzo,_):=hz.z;have:=List.mem_range'_1.mp hc;let(o,e,_):=aFW hz.t hO hzo c this.1 (!_);exact xAa e
    rw[bZ (ne c hc),bZ (xAj c1)];exact(hw.fp c hc).1
   .let(f,g,hzo,hf):=Z'.z;refine(f,g,kr _ _ (!_) (!_) hzo,hf.imp_right λ hfa=>?_,);let(a,ea,o,eo):=hfa;refine(a,ea,?_,);by_cases c1:a=SA
    .subst c1;exact(_,PySem.IsL.update e _,)
    .exact(o,kp a o c1 eo,)
def aPR:typeLookup (.type "zip") "__len__" = pure qx:=by rw[typeLookup_type,builtinLookup_eq_fast];kernel_rfl
def aPA:typeLookup (.type "zip") "__length_hint__" = pure qx:=by rw[typeLookup_type,builtinLookup_eq_fast];kernel_rfl
def aPP{s:qv}{R:Result -> qv -> Prop}{TI TO:qw}{f0:qj}(S:qw)(res:qj)(c₀:Nat)(hz:IsZip s.heap z TI TO f0)(hSz:S≠z)(hS:s.heap.get? S=J {cls:=.type "list",data:=.seq #[] c₀ })(hR:∀ h' c,(∀ b o,b≠S->s.heap.get? b=J o->h'.get? b=J o)->h'.get? S=J {cls:=.type "list",data:=.seq #[] c }->jo (model prog w) A (.builtin "list.extend.loop" ([.ref S,.ref z,res],[],)) R {s with heap:=h' }) :
 qu (model prog w) A.in1 (yDu (.ref S) (.ref z) res)
  (λ dA s'=>match dA with|.done f=>R (.ok f) s'|.again c'=>c'.quiet=Z/\jo (model prog w) A c' R s') (λ e s'=>R (.error e) s') s:=by
 let hT:s.TypeIs (.ref z) "zip":=(_,hz,U,);unfold yDu;refine wB (wpAny_typeOf hT ?_);let h1:yHo (.ref S) (.ref z)=Ff:=by simp[yHo,hSz]
 let h2:(Value.type "zip" == Value.type "list")=Ff:=by decide
 let h3:(Value.type "zip" == Value.type "tuple")=Ff:=by decide
 simp only[h1,h2,h3,yGq,yAv,if_false];refine wB (yk hz ?_);refine wB (zk ?_);unfold Builtin.List.listLengthHint;refine wB (wj hT aPR ?_);show qu _ A.in1 (specialOf (Value.ref z) (Str.ofString "__length_hint__") >>= _) _ _ _;refine wB (wj hT aPA ?_);refine wP ?_;show qu _ A.in1 (rule "list.extend.makes-room" >>= λ _=>Builtin.List.listTouch (.ref S) >>= λ _=>
  again (.builtin "list.extend.loop" ([.ref S,.ref z,res],[],))) _ _ _
 refine wB (yx ?_);refine wB ?_;show qu _ A.in1 (updateSeq S (·.push .none) >>= λ _=>updateSeq S (·.pop)) _ _ _;refine wB (vx hS U ?_);let hS₂:=yCw (Obj.mapSeq (·.push Value.none)) hS U;refine vx (hz:=by seq_fits) hS₂ U ?_;let hS₃:=yCw (Obj.mapSeq (·.pop)) hS₂ U;let oth:∀ b o,b≠S->s.heap.get? b=J o->((s.heap.update S (Obj.mapSeq (·.push Value.none))).update S (Obj.mapSeq (·.pop))).get? b=J o:=
  λ b o hb e=>(yCn _ _ (Ne.symm hb)).trans ((yCn _ _ (Ne.symm hb)).trans e)
 exact wP (plainId_quiet yEf _,hR _ _ oth hS₃,)
def aSe{s:qv}{R:Result -> qv -> Prop}{TI TO:qw}{f0:qj}(S:qw)(hz:IsZip s.heap z TI TO f0)(hSz:S≠z)(hS:s.heap.get? S=J {cls:=.type "list",data:=.seq #[] })(hR:∀ h' c,(∀ b o,b≠S->s.heap.get? b=J o->h'.get? b=J o)->h'.get? S=J {cls:=.type "list",data:=.seq #[] c }->jo (model prog w) A (.builtin "list.extend.loop" ([.ref S,.ref z,.none],[],)) R {s with heap:=h' }) :
 qu (model prog w) A.in1 (Builtin.«list.__init__» ([.ref S,.ref z],[],))
  (λ dA s'=>match dA with|.done f=>R (.ok f) s'|.again c'=>c'.quiet=Z/\jo (model prog w) A c' R s') (λ e s'=>R (.error e) s') s:=by
 show qu _ A.in1 (yHu (.ref S) >>= λ old=>Builtin.List.listUpdate (.ref S) (λ _=>#[]) >>= λ _=>letGo old.toList.reverse >>= λ _=>yDu (.ref S) (.ref z) .none) _ _ s;refine wB ?_;unfold yHu;refine wB (ju hS U (wP ?_));show qu _ A.in1 (updateSeq S (λ _=>#[]) >>= λ _=>letGo (#[]:Array qj).toList.reverse >>= λ _=>yDu (.ref S) (.ref z) .none) _ _ s;let hS2:=yCw (Obj.mapSeq (λ _=>(#[]:Array qj))) hS U;let oth:∀ b o,b≠S->s.heap.get? b=J o->(s.heap.update S (Obj.mapSeq (λ _=>(#[]:Array qj)))).get? b=J o:=λ b o hb e=>(yCn _ _ (Ne.symm hb)).trans e
 refine wB (vx hS U (wB (wpAny_letGo ?_)));exact aPP S .none _ (oth _ _ (Ne.symm hSz) hz) hSz hS2 λ h' c hk hS'=>hR h' c (λ b o hb e=>hk b o hb (oth b o hb e)) hS'
def aOW{A:zv}{E:qj -> qv -> Prop}{s:qv}{TI TO:qw}{f0:qj}{Q:qj->qv->Prop}(hz:IsZip s.heap z TI TO f0)(hQ:∀ h' c (R:Result->qv->Prop),(∀ b o,s.heap.get? b=J o->h'.get? b=J o)->h'.get? s.heap.objs.size=J {cls:=.type "list",data:=.seq #[] c }->(∀ s',Q (.ref s.heap.objs.size) s'->R (.ok (.ret .none)) s')->jo (model prog w) A.in1 (.builtin "list.extend.loop" ⟨[.ref s.heap.objs.size,.ref z,.none],[]⟩) R {s with heap:=h' }) :
 qu (model prog w) A (call (.type "list") [.ref z]) Q E s:=by
 let hSz:s.heap.objs.size≠z:=yEx (xAa hz);let hS:(s.heap.push {cls:=.type "list",data:=.seq #[] }).get? s.heap.objs.size=J {cls:=.type "list",data:=.seq #[] }:=xAd _ U;refine callType_codes (Q₁:=λ ob s1=>ob=.ref s.heap.objs.size/\s1={s with heap:=s.heap.push {cls:=.type "list",data:=.seq #[] } }) PySem.F.called_list (PySem.F.typeCall_list_1 _) PySem.F.entry_list_init (code_list_new _ (U,U,)) λ ob s1 h1=>?_
 let(U,U):=h1;refine((_,hS,U,),PySem.F.args_list_init_2 _ _,aSe _ (hpS _ hz) hSz hS λ h' c hk hS'=>?_,);exact hQ h' c _ (λ b o e=>hk b o (xAj (xAa e)) (hpS _ e)) hS' λ s' q=>(U,q,)
def zM(fa fb:FE):FL:=aNE (sG fa fb)
def aXv{fa fb:FE}(ha:PE X a (bC X.K fa))(hb:PE X b (bC X.K fb))(hc:X.calm=Tt)(hg:Gl X "list")(hm:X.mg "list" = qx)(hg2:Gl X "zip")(hm2:X.mg "zip" = qx)(hs:qo [a,b] X.env=(Ff,eval a X.env)::qo [b] X.env)(hs2:qo [b] X.env=[(Ff,eval b X.env)]):PE X (.Call (.Name "list" p) [.Call (.Name "zip" p2) [a,b] [] pos2] [] pos) (kJ X.K (zM fa fb)):=by
 rintro aB s σ H Q I ⟨F,L,S,env,ds,S',R,E,e,q⟩;let((ds',S1'),e0,e):=aS e;let((w1,S1),e1,e2):=aS e0;let((w2,S2),e3,e4):=aS e2;let(ds1,e5,e6):=aS e4;let(ds2,e7,e8):=aS e6;dsimp only at e e3 e5 e7;cases e8;split at e
 .rename_i cW;cases e;refine xy (oE I hg hm (show vv "list" = J (.type "list") by decide +kernel) ?_);refine yBb ?_ rfl U;show qu _ _ (spliced ((Ff,eval (.Call (.Name "zip" p2) [a,b] [] pos2) X.env)::[])) _ _ s;refine Calls.spliced_cons ?_;refine xy (oE I hg2 hm2 boot_zip ?_);refine yBb ?_ hs (by rw[hs2];rfl)
  refine bK (mY ha (mY hb aFw hs2) hs pos2 aB s σ H (λ vs H1=>∃ v v2 F1 L1,vs=[v,v2]/\Gr F L F1 L1/\Rel X.K F1 L1 S2 H1/\eS X.K F1 L1 w1 v/\eS X.K F1 L1 w2 v2) I ⟨F,L,S,env,[w1,w2],_,R,E,by unfold dD;rw[e1];dsimp only[yDr];rw[e3];rfl,λ F1 L1 H1 vs g1 R1 d1=>by
   obtain - | ⟨da,- | ⟨db,- | -⟩⟩:=d1
   exact(_,_,F1,L1,U,g1,R1,da,db,)⟩) λ us s1 hq=>?_
  let(vs,H1,I1,r1,v,v2,F1,L1,ev,g1,R1,d1,d2):=hq;subst ev;let(q1,U,h1):=qZ e5 d1;let(q2,U,h2):=qZ e7 d2;let Z:=zd2 h1 h2;refine aM9 (qs:=[q1,q2]) I1 r1 (by simp) (by simp) (aFu Z R1.sub) λ h' I2 hl ZH0 hz sz fp=>?_
  refine Calls.spliced_nil (aOW hz λ h2 c R2 hk2 hS hR2=>?_);dsimp only at hk2 hS hR2 ⊢;let fr:H1 h'.objs.size=qx:=I2.hok.fresh (yAd _);let I3:Inv X aB σ (bJ H1 h'.objs.size (.lst [])) {s1 with heap:=h2 }:=I2.laid (t':=s1.toks) hk2 (yAd _) (yBv _,[],c,.nil,hS,);let nS:h'.objs.size ∉ ad L1:=R1.notin fr;let(os,ol,hO):=ZH0.to;refine @aSW _ _ _ L1 aB σ S2 _ X F1 _ _ X.A.in1 _ (show X.A.in1.in1.in1.handled=qx from I.ok.hd hc) (by simp) (by simp) hl Z nS cW (λ s' H' F' vs' hw=>hR2 s' ?_) _ 0 _ (bJ H1 h'.objs.size (.lst [])) F1 [] U (yBv _)
   (I3,cF.refl _,R1.lay fr,R1.sub.free fr,cU,.nil,λ b hb=>(by rw[bZ (na (by have:=List.mem_range'_1.mp hb;rw[sz];exact xAj this.2))];exact(fp b hb).1,(fp b hb).2,),) (ZH0.t.keep λ c o _ _ e=>hk2 _ _ e,(os,ol,hk2 _ _ hO,),_,_,hk2 _ _ hz,.inl (U,U,),)
  exact(.ref h'.objs.size,H',hw.inv,U,q F' L1 H' _ vs' (g1.trans (hw.same,[],by simp,)) hw.rel hw.free nS hw.lst hw.den,)
 .cases e
def bAl(K:FrG)(x:V)(vs:G V)(H:Hp)(Q:VK):Prop:=False
def aOe(K:FrG):V->G V->Hp->VK->Prop:=λ x vs H Q=>(∃ (a:qw) (ns:G Int) (k:Int),x=.ref a/\vs=[.int k]/\cE K H a (ns.map V.int)/\k∈ns/\Q (.int (ns.idxOf k:Nat)) H)\/bAl K x vs H Q
def aSu:MtM X "list.index" (aOe X.K):=by
 intro aB s σ H x vs v us Q I rx rv h;rcases h with h|h
 case inr=>exact h.elim
 let(a,ns,k,U,U,sq,hk,q):=h;cases rx;let(u,U,ru):=rv.one;let(t,U):=ru;let(aK,r,pl,hz):=I.list sq;let hi:=aPK r;let((cls,dd,data,sl),ho,hc,n,hd):=pl.isList;simp only at hc hd;subst hc hd;let cW:=hi.length;let hn:=tY;let hj:ns.idxOf k<↑ns:=List.idxOf_lt_length_iff.mpr hk;rw[yAf] at hz;refine jz PySem.F.slot_list_index (_,ho,U,) PySem.F.entry_list_index (PySem.F.args_list_index_2 _ _)
  (SeqAt.list_indexAt a aK.toArray n dd sl (.int k t) (isInt k) (ns.idxOf k) (by simp_all) (!_) ?_ ?_) (ho,λ y hy=>(eq_isInt k t hi y (hy:)).at _ _,(.int (ns.idxOf k:Nat),H,I.tok _,(_,U,),q,),)
 .show isInt k aK[ns.idxOf k]=Z;rw[isInt_at k hi _ (!_) hj];simp_all
 .intro j hjs hlt;show isInt k aK[j]=Ff;rw[isInt_at k hi j (hjs:) (!_)];exact ne_of_lt_idxOf hlt _
def aAC(S:aD)(o x:W):Oz (W×aD):=onD (vZ λ xs=>onD (λ d=>match d with
 |.int k=>(mS xs).bind λ ns=>if k∈ns then J (.d (Iz ((ns.idxOf k:Nat):Int)),S) else qx
 | _=>qx) x) o
def aZj(S S':aD)(o x w:W):Prop:=False
def aQT(h:aAC S o x=J (w,S')):(∃ xs k ns,o=.d (Lz xs)/\x=.d (Iz k)/\mS xs=J ns/\k∈ns/\w=.d (Iz ((ns.idxOf k:Nat):Int))/\S'=S)\/aZj S S' o x w:=by
 let(d,U,h1):=aB6 h;let(xs,U,h2):=xV h1;let(d,U,h):=aB6 h2;cases d with
 |int k=>
   let(ns,e1,e):=aS h;let(c,e):=iC e;cases e;exact .inl (xs,k,ns,U,U,e1,c,U,U,)
 |_=>cases h
def aAF(fo fe:FE):FE:=f2 fo fe aAC
def bAX{fo fe:FE}(σ:L2.St)(H:Hp)(Q:VK)(h:bC K (aAF fo fe) σ H Q):tBM K "list" (aOe K) (bC K fo) (fA K (dD fe iJ)) σ H Q:=by
 let(F,L,S,env,w,S',R,E,e,q):=h;let((wo,S1),e1,e):=aS e;let((we,S2),e2,e):=aS e;rcases aQT e with ⟨xs,k,ns,rfl,rfl,e5,hk,rfl,rfl⟩|h
 case inr=>exact h.elim
 refine(F,L,S,env,_,S1,R,E,e1,λ F1 L1 H1 o g1 R1 d1=>?_,);cases (show Den K F1 (.list xs) o from d1) with
 |lst sq dl=>
   obtain rfl:=aH4 dl e5;refine(.inl (U,_,R1.sub.seq sq,),F1,L1,S1,env,[.d (Iz k)],S',R1,E.mono g1,?_,λ F2 L2 H2 vs g2 R2 d2=>?_,)
   .unfold dD;rw[e2];rfl
   .cases d2 with
    |cons dd dr=>
      cases dr;cases (show Den K F2 (.int k) _ from dd);exact .inl (_,ns,k,U,U,R2.sub.seq (g2.f.seq sq),hk,q F2 L2 H2 _ (g1.trans g2) R2 (.int _),)
def aFj:Bool->jv
 |true=>.NotIn|false=>.In
def xZ:G D->Oz (G Str)
 |[]=>J []|.str i::r=>(xZ r).bind λ l=>J (i::l)|_::_=>qx
open PySem.Builtin PySem.Builtin.Str
def PEp(X:Cx)(e:qy)(t:TE):Prop:=∀ (aB:G (qw×Obj)) (s:qv) (σ:L2.St) (H:Hp) (Q:VK),Inv X aB σ H s->0<s.toks->t σ H Q->qu (model X.prog X.w) X.A (eval e X.env) (EP X aB σ Q) X.xe s
def PAp(X:Cx)(es:List qy)(t:TA):Prop:=∀ (pos:Pos) (aB:G (qw×Obj)) (s:qv) (σ:L2.St) (H:Hp) (Q:G V->Hp->Prop),Inv X aB σ H s->0<s.toks->t σ H Q->qu (model X.prog X.w) X.A (spliced (backTo pos (qo es X.env))) (λ us s2=>∃ vs H2,Inv X aB σ H2 s2/\bI vs us/\Q vs H2) X.xe s
def PEp.of{t:TE}(h:PE X e t):PEp X e t:=λ aB s σ H Q I _ q=>h aB s σ H Q I q
def PAp.of{t:TA}(h:PA X es t):PAp X es t:=λ pos aB s σ H Q I _ q=>h pos aB s σ H Q I q
def W0.w:W0->W
 |.d x=>.d x|.loc n=>.loc n|.dic n=>.dic n
def w0:W->Oz W0
 |.d x=>J (.d x)|.loc n=>J (.loc n)|.dic n=>J (.dic n)|.tpl ws=>(fV ws).map λ l=>.d (Tz l)|_=>qx
def w0s:G W->Oz (G W0)
 |[]=>J []|w::r=>(w0 w).bind λ x=>(w0s r).map (x :: ·)
def aCJ(fa:FE)(f:Str):FE:=λ env S=>(fa env S).bind λ p=>match p.1 with|.ob fs=>(fs.lookup f).map λ w=>(w.w,p.2)|_=>qx
def aCH(m:Str)(fo:FE)(fs:FA)(np:Nat)(call:G W->aD->Oz (W×aD)):FE:=λ env S=>(fo env S).bind λ p=>match p.1 with
 |.ob fl=>if (fl.lookup m).isNone=Z then (fs env p.2).bind λ q=>if q.1.length+1=np then call (.ob fl::q.1) q.2 else qx else qx
 |_=>qx
inductive Ini where
 |arg (i:Nat)|lst|dct
 deriving DecidableEq
def lW(ds:G D):G (Str×Ini)->aD->Oz (G (Str×W0)×aD)
 |[],S=>J ([],S)|(f,.arg i)::r,S=>(ds[i]?).bind λ d=>(lW ds r S).map λ p=>((f,.d d)::p.1,p.2)|(f,.lst)::r,S=>(lW ds r (S++[J []])).map λ p=>((f,.loc ↑S)::p.1,p.2)|(f,.dct)::r,S=>(lW ds r (S++[J []])).map λ p=>((f,.dic ↑S)::p.1,p.2)
def aCs(ini:G (Str×Ini))(np:Nat)(fs:FA):FE:=λ env S=>(fs env S).bind λ p=>if p.1.length+1=np then (jY p.1).bind λ ds=>(lW ds ini p.2).map λ q=>(.ob q.1,q.2) else qx
def aCC(fs:FA):FE:=λ env S=>(fs env S).bind λ p=>(w0s p.1).bind λ ws=>if ↑ws<=qk then J (.tpl ws,p.2) else qx
def aAf{α:Type}(f:Nat->Option α):W->Option α
 |.dic m=>f m|_=>qx
def aAG{α:Type}(f:G W0->Option α):W->Option α
 |.tpl ws=>f ws|_=>qx
def aBF{α:Type}{f:Nat->Option α}{z:α}(h:aAf f w=J z):∃ m,w=.dic m/\f m=J z:=by cases w<;>first|exact(_,U,h,)|cases h
def aBz{α:Type}{f:G W0->Option α}{z:α}(h:aAG f w=J z):∃ ws,w=.tpl ws/\f ws=J z:=by cases w<;>first|exact(_,U,h,)|cases h
def iG:G W0->Oz (List bN)
 |[]=>J []|.d (Iz i)::r=>(iG r).map (.inl i :: ·)|.d (Sz x)::r=>(iG r).map (.inr x :: ·)|_=>qx
def aCc:G D->Oz (List bN)
 |[]=>J []|.int i::r=>(aCc r).map (.inl i :: ·)|.str x::r=>(aCc r).map (.inr x :: ·)|_=>qx
def zR:D->Oz (List bN×Int):=onT λ l=>match l with|[a,b]=>onT (λ ks=>mO (λ i=>(aCc ks).map λ l=>(l,i)) b) a|_=>qx
def aEK:∀ l:List bN,aCc (l.map kD)=J l
 |[]=>rfl|.inl i::r=>congrArg (yIc (Sum.inl i :: ·)) (aEK r)|.inr i::r=>congrArg (yIc (Sum.inr i :: ·)) (aEK r)
def aTr(p:List bN×Int):zR (pA p)=J p:=congrArg (yIc λ l=>(l,p.2)) (aEK p.1)
def aF4:∀ es:G (List bN×Int),(es.map pA).filterMap zR=es
 |[]=>rfl|p::r=>by rw[yAm,yCp,aTr,aF4 r]
def nM(S:aD)(n:Nat):Oz (G (List bN×Int)):=(S[n]?).bind λ o=>o.bind λ ds=>J (ds.filterMap zR)
def fK(es:G (List bN×Int))(k:List bN):Oz Int:=(es.find? λ p=>decide (p.1=k)).map (·.2)
def sF(es:G (List bN×Int))(k:List bN)(i:Int):G (List bN×Int):=if (fK es k).isSome=Z then es.map λ p=>if p.1=k then (p.1,i) else p else es++[(k,i)]
noncomputable abbrev dV(es:List (List bN×Int)):List (List bN×V):=es.map λ p=>(p.1,V.int p.2)
def aB3(k:List bN):∀ es:G (List bN×Int),kC (dV es) k=(fK es k).map V.int
 |[]=>rfl
 |p::r=>by
   unfold kC fK;rw[dV,yAm,yCx,yCx];by_cases h:p.1=k
   .simp_all
   .simp only[h,decide_false];exact aB3 k r
def aW2(es:G (List bN×Int))(k:List bN)(i:Int):kE (dV es) k (.int i)=dV (sF es k i):=by
 unfold kE sF;let h:((dV es).any λ kv=>decide (kv.1=k))=(fK es k).isSome:=by
  rw[aDM,aB3];cases fK es k<;>rfl
 rw[h];split
 .rw[dV,dV,yBa,yBa];refine yBs λ p _=>?_
  dsimp only[Function.comp];split<;>rfl
 simp_all
def vD(n:Bool)(fk fd:FE):FE:=λ env S=>(fk env S).bind λ p=>(fd env p.2).bind λ q=>aAG (λ ws=>aAf (λ m=>(iG ws).bind λ k=>(nM q.2 m).map λ es=>(.d (Bz (n != (fK es k).isSome)),q.2)) q.1) p.1
def aCq(fd fk:FE):FE:=λ env S=>(fd env S).bind λ p=>(fk env p.2).bind λ q=>aAf (λ m=>aAG (λ ws=>(iG ws).bind λ k=>(nM q.2 m).bind λ es=>(fK es k).map λ i=>(.d (Iz i),q.2)) q.1) p.1
def aCi(fd fk fv:FE):FS:=λ env S=>(fv env S).bind λ p=>(fd env p.2).bind λ q=>(fk env q.2).bind λ r=>wI (λ i=>aAf (λ m=>aAG (λ ws=>(iG ws).bind λ k=>(nM r.2 m).bind λ es=>if ↑es<qk then J (.nx env,r.2.set m (J ((sF es k i).map pA))) else qx) r.1) q.1) p.1
def lT.w{F:Hp}{L:Lx}{w:W0}{v:V}(h:lT K F L w v):eS K F L w.w v:=by cases w<;>exact h
def aW7(h:eS K F L w v)(e:w0 w=J x):lT K F L x v:=by
 cases w with
 |d y=>cases e;exact h|loc n=>cases e;exact h|dic n=>cases e;exact h
 |tpl ws=>
   let(l,e1,e2):=map_some (show(fV ws).map _=J x from e);cases e2;let(a,vs,U,h1,h2):=h;exact .tup (.inl (.inl h1)) (aBA h2 e1)
 |exc c r=>cases e|ob fs=>cases e
section
variable {K:FrG}{F:Hp}{L:Lx}
def aK9:∀ {ws:G W}{xs:G V}{zs:G W0},WDenL K F L ws xs->w0s ws=J zs->sJ K F L zs xs
 |_,_,_,.nil,e=>by cases e;exact .nil
 |w::r,_,_,.cons h t,e=>by
   let(x,e1,e):=aS e;let(l,e2,e3):=map_some e;cases e3;exact .cons (aW7 h e1) (aK9 t e2)
end
def aQ3(h:oP K F L fs vs)(e:fs.lookup f=J w):∃ v,vs.lookup f=J v/\lT K F L w v:=by
 induction h with
 |nil=>cases e
 |cons h t ih=>
   rename_i p q _ _;let(g,x):=p;let(g',y):=q;let(h1,h2):=h;dsimp only at h1 h2;subst h1;rw[yCc] at e ⊢;split at e
   .simp_all
   .exact ih e
def aU2(h:oP K F L fs vs)(e:fs.lookup f=qx):vs.lookup f=qx:=by
 induction h with
 |nil=>rfl
 |cons h t ih=>
   rename_i p q _ _;let(g,x):=p;let(g',y):=q;let(h1,h2):=h;dsimp only at h1 h2;subst h1;rw[yCc] at e ⊢;split at e
   .cases e
   .exact ih e
section
variable {K:FrG}{F:Hp}{L:Lx}
def aLh:∀ {ws:G W0}{vs:G V},sJ K F L ws vs->↑ws=↑vs
 |_,_,.nil=>rfl|_,_,.cons _ r=>congrArg (· + 1) (aLh r)
end
def aEr(h:sJ K F L ws vs)(e:iG ws=J k):vs=k.map kV:=by
 induction h generalizing k with
 |nil=>cases e;rfl
 |cons h t ih=>
   rename_i w _ r _;cases w with
   |d x=>
     cases x with
     |int i=>
       let(l,e1,e2):=map_some (show(iG r).map _=_ from e);cases e2;cases (show Den K F (.int i) _ from h);rw[ih e1];rfl
     |str i=>
       let(l,e1,e2):=map_some (show(iG r).map _=_ from e);cases e2;cases (show Den K F (.str i) _ from h);rw[ih e1];rfl
     |_=>cases e
   |_=>cases e
def aR6(h:nM S n=J es):∃ ds,S[n]?=J (J ds)/\es=ds.filterMap zR:=by let(o,e,h):=aS (o:=S[n]?) h;let(ds,U,h):=aS (o:=o) h;cases h;exact(ds,e,U,)
def aEy(R:Rel K F L S H)(h:nM S n=J es)(e:L[n]?=J (a,Z)):F a=qx/\H a=J (.dT (dV es)):=by let(ds,h1,U):=aR6 h;let(hF,es,U,h2):=R.dic n a ds e h1;rw[aF4];exact(hF,h2,)
abbrev mE(K:FrG)(C:qw):Prop:=yCm K zy "Maker" = J (J (.ref C))
def aNA(a:mE K C)(b:mE K C'):C'=C:=by grind
def aZX{fa:FE}(ha:PE X a (bC X.K fa))(hb:attributeBase a f X.env (eval a X.env)=eval a X.env)(hm:mE X.K C)(hc:Cls X.K C)(hn:NoAttr X.K C f):PE X (.Attribute a f pos) (bC X.K (aCJ fa f)):=
 PE.weak (aV0 ha hb) λ σ H Q bB=>by
  let(F,L,S,env,w,S',R,E,e,q):=bB;let((w1,S1),e1,e):=aS e;dsimp only at e;split at e
  .rename_i fs;let(w0,e2,e3):=map_some e;cases e3;refine(F,L,S,env,_,_,R,E,e1,λ F1 L1 H1 v g1 R1 d1=>?_,);let(p,C',dx,vs,U,h1,h2,h3):=d1;obtain rfl:=aNA hm h2;let(u,h4,h5):=aQ3 h3 e2;exact(p,_,dx,vs,u,U,R1.sub _ _ h1,hc,hn,h4,q F1 L1 H1 u g1 R1 h5.w,)
  .cases e
def aXH{fo:FE}{fs:FA}{call:G W->aD->Oz (W×aD)}(hm:mE K C)(σ:St)(H:Hp)(Q:VK)(h:bC K (aCH m fo fs np call) σ H Q):aMX C m (qO K np call) [] E0 (bC K fo) (fA K fs) σ H Q:=by
 let(F,L,S,env,w,S',R,E,e,q):=h;let((w1,S1),e1,e):=aS e;dsimp only at e;split at e
 .rename_i fl;split at e
  .rename_i hn;let((ws,S2),e2,e):=aS e;dsimp only at e;split at e
   .rename_i hl;refine(F,L,S,env,_,_,R,E,e1,λ F1 L1 H1 v g1 R1 d1=>?_,);let d1':=d1;let(p,C',dx,vs,U,h1,h2,h3):=d1;obtain rfl:=aNA hm h2;refine(p,dx,vs,U,R1.sub _ _ h1,aU2 h3 (Option.isNone_iff_eq_none.mp hn),F1,L1,S1,env,ws,S2,R1,E.mono g1,e2,λ F2 L2 H2 us g2 R2 d2=>?_,);exact(F2,L2,S2,.ob fl::ws,w,S',by rw[yAo];exact hl,R2,.cons (d1'.mono g2) (by rw[yBc];exact d2),e,λ F3 L3 H3 v g3 R3 d3=>q F3 L3 H3 v ((g1.trans g2).trans g3) R3 d3,)
   .cases e
  .cases e
 .cases e
def aZH{fs:FA}(h:PA X es (fA X.K fs)):PE X (.Tuple es k pos) (bC X.K (aCC fs)):=
 PE.weak (aMt h) λ σ H Q bB=>by
  let(F,L,S,env,w,S',R,E,e,q):=bB;let((ws,S1),e1,e2):=aS e;let(zs,e3,e4):=aS e2;split at e4
  .rename_i hz;cases e4;refine(F,L,S,env,ws,_,R,E,e1,λ F1 L1 H1 vs g1 R1 d1=>?_,);let dl:=aK9 d1 e3;refine(by rw[<- aLh dl];exact hz,λ p hp=>?_,);let g2:Gr F1 L1 (bJ F1 p (.tup vs)) L1:=Gr.new (R1.sub.free hp);exact q _ L1 _ _ (g1.trans g2) (R1.new hp) (p,vs,U,cU,L2.Paired.mapP dl λ _ _ z=>z.mono g2,)
  .cases e4
def aMR{fa fb:FE}(hu:X.A.units+1<cLine)(ha:PE X a (bC X.K fa))(hb:PE X b (bC X.K fb)):PC X (aFj n) a b (bC X.K (vD n fa fb)):=by
 let key:∀ (σ:St) (H:Hp) (Q:VK),bC X.K (vD n fa fb) σ H Q->bC X.K fa σ H λ y H1=>bC X.K fb σ H1 λ x H2=>∃ a o,x=.ref a/\kU H2 a y o/\Q (.bl (n != o.isSome)) H2:=λ σ H Q bB=>by
  let(F,L,S,env,w,S',R,E,e,q):=bB;let((w1,S1),e1,e):=aS e;let((w2,S2),e2,e):=aS e;let(ws,U,x1):=aBz e;let(m,U,x2):=aBF x1;let(k,e3,e):=aS x2;let(es,e4,e5):=map_some e;cases e5;refine(F,L,S,env,_,_,R,E,e1,λ F1 L1 H1 v g1 R1 d1=>(F1,L1,_,env,_,_,R1,E.mono g1,e2,λ F2 L2 H2 u g2 R2 d2=>?_,),);let(p,vs,U,h1,h2):=d1.mono g2;let(a,ea,U):=d2;obtain rfl:=aEr h2 e3;let(_,hd):=aEy R2 e4 ea;refine(a,_,U,kU.t hd (R2.sub _ _ h1),?_,);rw[aB3];have:((fK es k).map V.int).isSome=(fK es k).isSome:=by cases fK es k<;>rfl
  rw[this];exact q F2 L2 H2 _ (g1.trans g2) R2 (.bl _)
 cases n with
 |false=>
   intro aB s σ H Q I h;refine aXx hu ha hb aB s σ H Q I ?_;let(F,L,S,env,w,S',R,E,e,q):=key σ H Q h;refine(F,L,S,env,w,S',R,E,e,λ F1 L1 H1 v g1 R1 d1=>?_,);let(F,L,S,env,w,S',R,E,e,q2):=q F1 L1 H1 v g1 R1 d1;refine(F,L,S,env,w,S',R,E,e,λ F1 L1 H1 v g1 R1 d1=>?_,);let(a,o,h1,h2,h3):=q2 F1 L1 H1 v g1 R1 d1;exact(a,o,h1,h2,by simpa using h3,)
 |true=>
   intro aB s σ H Q I h;refine aQL hu ha hb aB s σ H Q I ?_;let(F,L,S,env,w,S',R,E,e,q):=key σ H Q h;refine(F,L,S,env,w,S',R,E,e,λ F1 L1 H1 v g1 R1 d1=>?_,);let(F,L,S,env,w,S',R,E,e,q2):=q F1 L1 H1 v g1 R1 d1;refine(F,L,S,env,w,S',R,E,e,λ F1 L1 H1 v g1 R1 d1=>?_,);let(a,o,h1,h2,h3):=q2 F1 L1 H1 v g1 R1 d1;exact(a,o,h1,h2,by simpa using h3,)
def aXA{fa fb:FE}(hu:X.A.units+1<cLine)(ha:PE X a (bC X.K fa))(hb:PE X b (bC X.K fb))(hs:wZ b):PE X (.Subscript a b pos) (bC X.K (aCq fa fb)):=
 PE.weak (aVs hu ha hb hs) λ σ H Q bB=>by
  let(F,L,S,env,w,S',R,E,e,q):=bB;let((w1,S1),e1,e):=aS e;let((w2,S2),e2,e):=aS e;let(m,U,x1):=aBF e;let(ws,U,x2):=aBz x1;let(k,e3,e):=aS x2;let(es,e4,e):=aS e;let(i,e5,e6):=map_some e;cases e6;refine(F,L,S,env,_,_,R,E,e1,λ F1 L1 H1 v g1 R1 d1=>(F1,L1,_,env,_,_,R1,E.mono g1,e2,λ F2 L2 H2 u g2 R2 d2=>?_,),);let(a,ea,U):=d1.mono g2;let(p,vs,U,h1,h2):=d2;obtain rfl:=aEr h2 e3;let(_,hd):=aEy R2 e4 ea;refine(a,.int i,U,?_,q F2 L2 H2 _ (g1.trans g2) R2 (.int _),);have:=kU.t hd (R2.sub _ _ h1);rw[aB3,e5] at this;exact this
def aWT{pos:Pos}{fo fi fe:FE}(hu:X.A.units+1<cLine)(ho:PE X o (bC X.K fo))(hi:PE X i (bC X.K fi))(he:PE X e (bC X.K fe))(hs:swapsWith e (J (.Subscript o i pos')) pos.line X.env=pure Ff) :
 PS X (.Assign [.Subscript o i pos'] e pos) (eI X.K (aCi fo fi fe)):=
 PS.weak (aVu hu ho hi he hs) λ D σ H h=>by
  let(F,L,S,env,fl,S',R,E,e,q):=lJ h;let((w1,S1),e1,e):=aS e;let((w2,S2),e2,e):=aS e;let((w3,S3),e3,e):=aS e;let(i,U,x1):=oO e;let(m,U,x2):=aBF x1;let(ws,U,x3):=aBz x2;let(k,e4,x4):=aS x3;let(es,e5,x5):=aS x4;let(hl,x6):=iC x5;cases x6;refine(F,L,S,env,_,_,R,E,e1,λ F1 L1 H1 v g1 R1 d1=>(F1,L1,_,env,_,_,R1,E.mono g1,e2,λ F2 L2 H2 u g2 R2 d2=>(F2,L2,_,env,_,_,R2,E.mono (g1.trans g2),e3,λ F3 L3 H3 y g3 R3 d3=>?_,),),);cases (show Den X.K F1 (.int _) v from d1);let(a,ea,U):=d2.mono g3;let(p,vs,U,h1,h2):=d3;obtain rfl:=aEr h2 e4;let(hF,hd):=aEy R3 e5 ea;refine(a,_,U,aAc.t hd (R3.sub _ _ h1) (by rw[yAf];exact hl),?_,);rw[aW2];exact q F3 L3 _ ((g1.trans g2).trans g3) (R3.putC ea hF (λ z=>(nomatch z)) λ _=>(sF es k _,U,U,)) σ (E.mono ((g1.trans g2).trans g3))
def aOf:Ini->TE
 |.arg i=>zZ (i+1)|.lst=>aFY aFN|.dct=>aL1
def aAt(K:FrG):G (Str×Ini)->TS
 |[]=>aNy|p::r=>aOd (aNX K (zZ 0) (aOf p.2) p.1) (aAt K r)
def aJx:∀ {vs:G (Str×V)},f ∉ vs.map (·.1)->gC f v vs=vs++[(f,v)]
 |[],_=>rfl
 |(g,x)::r,h=>by
   rw[yAm,yEa,not_or] at h;rw[gC,if_neg λ z=>h.1 z.symm,aJx h.2];rfl
section
variable {K:FrG}{F:Hp}{L:Lx}
def aD3:∀ {fs:G (Str×W0)}{vs:G (Str×V)},oP K F L fs vs->vs.map (·.1)=fs.map (·.1)
 |_,_,.nil=>rfl|_,_,.cons h t=>by rw[yAm,yAm,aD3 t,h.1]
end
def aUS(p:oP K F L fs vs)(h:lT K F L w v):oP K F L (fs++[(f,w)]) (vs++[(f,v)]):=by
 induction p with
 |nil=>exact .cons (U,h,) .nil|cons a _ ih=>exact .cons a ih
def aK5{L:Lx}{S:aD}(h:↑L=↑S):(L++[q])[↑S]?=J q:=by rw[<- h,yAh (yAd _),yBe];rfl
def aK1{C x dx:qw}{ds:G D}{D:Ends}{σ:St}(hc:Cls K C)(hσ:σ[0]?=J (J (.ref x))):∀ (ini:G (Str×Ini)) {S S':aD}{fs fs0:G (Str×W0)}{F H:Hp}{L:Lx}{vs0:G (Str×V)},
 (∀ p∈ini,NoAttr K C p.1)->(fs0.map (·.1)++ini.map (·.1)).Nodup->fs0.length+ini.length<=1000->Rel K F L S H->F x=qx->x ∉ ad L->H x=J (.ins C dx vs0)->oP K F L fs0 vs0 ->
 (∀ (i:Nat) (d:EV.D),ds[i]?=J d->∃ v,σ[i+1]?=J (J v)/\Den K F d v)->lW ds ini S=J (fs,S') ->
 (∀ F' L' H' vs',Gr F L F' L'->Rel K F' L' S' H'->F' x=qx->x ∉ ad L'->H' x=J (.ins C dx vs')->oP K F' L' (fs0++fs) vs'->D.nx σ H')->aAt K ini D σ H
 |[],S,S',fs,fs0,F,H,L,vs0,hn,nd,hl,R,hF,hL,hx,hf,ha,e,q=>by
   cases e;exact q F L H vs0 Gr.refl R hF hL hx (by rw[yBc];exact hf)
 |(f,i)::r,S,S',fs,fs0,F,H,L,vs0,hn,nd,hl,R,hF,hL,hx,hf,ha,e,q=>by
   let nf:f ∉ vs0.map (·.1):=by
    rw[aD3 hf]
    grind
   let lf:vs0.length<1000:=by
    let h1:=congrArg yFp (aD3 hf);rw[yAf,yAf] at h1;rw[yAo] at hl;omega
   let nd':∀ w:W0,((fs0++[(f,w)]).map (·.1)++r.map (·.1)).Nodup:=λ w=>by
    rw[yAu,yBg];exact nd
   let hl':∀ w:W0,(fs0++[(f,w)]).length+r.length<=1000:=λ w=>by
    rw[xAn,yDy];rw[yAo] at hl;omega
   let hn':∀ p∈r,NoAttr K C p.1:=λ p hp=>hn p (xAf _ hp)
   let step:∀ {y:V}{w:W0}{F1 H1:Hp}{L1:Lx}{S1:aD}{fs1:G (Str×W0)},Gr F L F1 L1->Rel K F1 L1 S1 H1->F1 x=qx->x ∉ ad L1->H1 x=J (.ins C dx vs0)->lT K F1 L1 w y->lW ds r S1=J (fs1,S')->fs=(f,w)::fs1 ->
    zZ 0 σ H1 λ x' H2=>∃ a C' dx' fs',x'=.ref a/\H2 a=J (.ins C' dx' fs')/\Cls K C'/\NoAttr K C' f/\fs'.length<1000/\aAt K r D σ (bJ H2 a (.ins C' dx' (gC f y fs'))):=λ {y w F1 H1 L1 S1 fs1} g R1 hF1 hL1 hx1 dw e1 efs=>by
    refine(.ref x,hσ,x,C,dx,vs0,U,hx1,hc,hn _ xAc,lf,?_,);rw[aJx nf];refine aK1 hc hσ r hn' (nd' w) (hl' w) (R1.relay hF1 hL1) hF1 hL1 cU (aUS (L2.Paired.mapP hf λ _ _ z=>(z.1,z.2.mono g,)) dw) (λ i d z=>?_) e1 λ F' L' H' vs' g' R' h1 h2 h3 h4=>q F' L' H' vs' (g.trans g') R' h1 h2 h3 ?_
    .let(v,h1,h2):=ha i d z;exact(v,h1,Den.mono g.f h2,)
    simp_all
   cases i with
   |arg i=>
     let(d,e1,e):=aS (show(ds[i]?).bind (λ d=>(lW ds r S).map λ p=>((f,W0.d d)::p.1,p.2))=J (fs,S') from e);let((fs1,S1),e2,e3):=map_some e;cases e3;let(v,h1,h2):=ha i d e1;exact(v,h1,step (w:=.d d) Gr.refl R hF hL hx h2 e2 U,)
   |lst=>
     let((fs1,S1),e2,e3):=map_some (show(lW ds r (S++[J []])).map (λ p=>((f,W0.loc ↑S)::p.1,p.2))=J (fs,S') from e);cases e3;refine(yBv _,λ p hp=>?_,);let ne:x≠p:=fB hx hp;refine step (w:=.loc ↑S) Gr.newLoc (R.newLoc hp .nil) hF ?_ (by rw[bZ ne];exact hx) (p,aK5 R.len,U,) e2 U;rw[ad,yAu,List.mem_append,not_or];exact(hL,by simpa using ne,)
   |dct=>
     let((fs1,S1),e2,e3):=map_some (show(lW ds r (S++[J []])).map (λ p=>((f,W0.dic ↑S)::p.1,p.2))=J (fs,S') from e);cases e3;intro p hp;let ne:x≠p:=fB hx hp;refine step (w:=.dic ↑S) Gr.newLoc (R.newDic hp) hF ?_ (by rw[bZ ne];exact hx) (p,aK5 R.len,U,) e2 U;rw[ad,yAu,List.mem_append,not_or];exact(hL,by simpa using ne,)
def spM(K:FrG)(C:qw)(ini:G (Str×Ini))(np:Nat):Sp:=λ vs H Q _=>∃ F L S x dx ds us fs S',vs=.ref x::us/\↑us+1=np/\Rel K F L S H/\F x=qx/\x ∉ ad L/\H x=J (.ins C dx [])/\DenL K F ds us/\lW ds ini S=J (fs,S') /\
 ∀ F' L' H' vs',Gr F L F' L'->Rel K F' L' S' H'->F' x=qx->x ∉ ad L'->H' x=J (.ins C dx vs')->oP K F' L' fs vs'->Q .non H'
def aXe{Q:VK}{E:XK}(hc:Cls K C)(hn:∀ p∈ini,NoAttr K C p.1)(nd:(ini.map (·.1)).Nodup)(hl:ini.length<=1000)(h:spM K C ini np vs H Q E) :
 aAt K ini {nx:=λ _ H'=>Q .non H',rt:=Q } (L2.start N vs) H:=by
 let(F,L,S,x,dx,ds,us,fs,S',U,hu,R,hF,hL,hx,dl,e,q):=h;refine aK1 (ds:=ds) hc (x:=x) (dx:=dx) ?_ ini (fs0:=[]) (vs0:=[]) hn nd (by rw[yBz,yEn];exact hl) R hF hL hx .nil (λ i d z=>?_) e λ F' L' H' vs' g R' h1 h2 h3 h4=>q F' L' H' vs' g R' h1 h2 h3 h4
 .rfl
 .let(v,h1,h2):=dl.get z;refine(v,?_,h2,);unfold L2.start;rw[yAm,yGm,yDi,xAm (by rw[yAf];exact(gIm h1).1),yAe,h1];rfl
def aW3{fs:FA}(hm:mE K C)(σ:St)(H:Hp)(Q:VK)(h:bC K (aCs ini np fs) σ H Q):aM2 C (spM K C ini np) [] E0 (fA K fs) σ H Q:=by
 let(F,L,S,env,w,S',R,E,e,q):=h;let((ws,S1),e1,e):=aS e;dsimp only at e;split at e
 .rename_i hl;let(ds,e2,e):=aS e;let((fl,S2),e3,e4):=map_some e;cases e4;refine(F,L,S,env,ws,S1,R,E,e1,λ F1 L1 H1 vs g1 R1 d1 x dx hx hd ne=>?_,);let R2:=R1.lay (o:=.own x) hd;let hx2:bJ H1 dx (.own x) x=qx:=by rw[bZ λ z=>ne z.symm];exact hx
  let R3:=R2.lay (o:=.ins C dx []) hx2;rw[yBc];refine(F1,L1,S1,x,dx,ds,vs,fl,S2,U,by rw[<- d1.length];exact hl,R3,R1.sub.free hx,R1.notin hx,cU,rB d1 e2,e3,λ F' L' H' vs' g' R' h1 h2 h3 h4=>(U,?_,),);let g2:Gr F' L' (bJ F' x (.ins C dx vs')) L':=Gr.new h1;exact q _ L' H' _ ((g1.trans g').trans g2) (R'.adoptO h1 h2 h3) (x,C,dx,vs',U,cU,hm,L2.Paired.mapP h4 λ _ _ z=>(z.1,z.2.mono g2,),)
 .cases e
def aAz(xs:G D)(k:D):Oz D:=match xZ xs,k with|some _,.str k=>J (.int (Spec.countIn (.str k) xs))|_,_=>qx
def aRp{xs:G D}(h:aAz xs k=J z):∃ ys s,xZ xs=J ys/\k=.str s/\z=.int (Spec.countIn (.str s) xs):=by
 unfold aAz at h;split at h
 .rename_i ys s e;cases h;exact(ys,s,e,U,U,)
 .cases h
def aH1:∀ {xs:G D}{ys:G Str},xZ xs=J ys->xs=ys.map Sz
 |[],_,e=>by cases e;rfl
 |.str x::r,_,e=>by
   let(l,e1,e2):=aS (show(xZ r).bind (λ l=>J (x::l))=_ from e);cases e2;rw[aH1 e1];rfl
 |.none::_,_,e=>by cases e|.bool _::_,_,e=>by cases e|.int _::_,_,e=>by cases e|.list _::_,_,e=>by cases e|.tuple _::_,_,e=>by cases e|.dict _::_,_,e=>by cases e
def aFp:∀ {ys:G Str}{us:List qj},bI (ys.map V.str) us->StrsAre us ys
 |[],_,.nil=>.nil|y::r,_,.cons ⟨t,h⟩ q=>by subst h;exact .cons y t (aFp q)
def aUg{Q:VK}{ys:G Str}(I:Inv X aB σ H s)(sq:cK X.K H a (ys.map V.str))(q:Q (.int (Spec.countIn (.str k) (ys.map Sz))) H) :
 qu (model X.prog X.w) X.A (call (.builtin "tuple.count") [.ref a,.str k t]) (EP X aB σ Q) X.xe s:=by let(aK,r,((cls,dd,data,sl),ho,hc,n,hd),hz):=I.tuple sq;simp only at hc hd;subst hc hd;let hs:=aFp r;refine jz PySem.F.slot_tuple_count (_,ho,U,) PySem.F.entry_tuple_count (PySem.F.args_tuple_count_2 _ _) (SeqAt.tuple_countAt a aK.toArray n dd sl (.str k t) (isStrOf k)) (ho,λ y hy=>(eq_isStrOf k t hs y (hy:)).at _ _,?_,);refine(.int (Spec.countIn (.str k) (ys.map Sz)),H,I.tok _,(s.toks,?_,),q,);rw[<- countP_isStrOf_map k hs]
def aTZ{Q:VK}{ys:G Str}(I:Inv X aB σ H s)(sq:cE X.K H a (ys.map V.str))(q:Q (.int (Spec.countIn (.str k) (ys.map Sz))) H) :
 qu (model X.prog X.w) X.A (call (.builtin "list.count") [.ref a,.str k t]) (EP X aB σ Q) X.xe s:=by let(aK,r,pl,hz):=I.list sq;let((cls,dd,data,sl),ho,hc,n,hd):=pl.isList;simp only at hc hd;subst hc hd;let hs:=aFp r;refine jz PySem.F.slot_list_count (_,ho,U,) PySem.F.entry_list_count (PySem.F.args_list_count_2 _ _) (SeqAt.list_countAt a aK.toArray n dd sl (.str k t) (isStrOf k)) (ho,λ y hy=>(eq_isStrOf k t hs y (hy:)).at _ _,?_,);refine(.int (Spec.countIn (.str k) (ys.map Sz)),H,I.tok _,(s.toks,?_,),q,);rw[<- countP_isStrOf_map k hs]
def aNL(K:FrG):V->G V->Hp->VK->Prop:=λ x vs H Q=>∃ (a:qw) (ys:G Str) (k:Str),x=.ref a/\vs=[.str k]/\cE K H a (ys.map V.str)/\Q (.int (Spec.countIn (.str k) (ys.map Sz))) H
def aR8:MtM X "list.count" (aNL X.K):=by intro aB s σ H x vs v us Q I rx rv h;let(a,ys,k,U,U,sq,q):=h;cases rx;let(u,U,ru):=rv.one;let(t,U):=ru;exact aTZ I sq q
def vC(fs:FA)(fa:FE):FE:=λ env S=>(fs env S).bind λ p=>(jY p.1).bind λ xs=>if ↑xs<=qk then (fa env p.2).bind λ q=>(wd q.1).bind λ k=>(aAz xs k).map λ z=>(.d z,q.2) else qx
def aIC{fs:FA}{fa:FE}(h:vC fs fa env S=J (w,S')):∃ (ws:G W) (S1:aD) (ys:G Str) (wk:W) (k:Str),fs env S=J (ws,S1)/\jY ws=J (ys.map Sz)/\(ys.map Sz).length<=qk/\fa env S1=J (wk,S')/\wd wk=J (.str k)/\w=.d (Iz (Spec.countIn (.str k) (ys.map Sz))):=by
 let((ws,S1),e1,h):=aS h;let(xs,e2,h):=aS h;split at h
 .rename_i hz;let((wk,S2),e3,h):=aS h;let(k,e4,h):=aS h;let(z,e5,e6):=map_some h;let(ys,s,e7,U,U):=aRp e5;obtain rfl:=aH1 e7;cases e6;exact(ws,S1,ys,wk,s,e1,e2,hz,e3,e4,U,)
 .cases h
def aEh:∀ {ys:G Str}{xs:G V},DenL K F (ys.map Sz) xs->xs=ys.map V.str
 |[],_,.nil=>rfl|y::r,_,.cons h t=>by cases h;rw[aEh t];rfl
def aXX{apos cpos:Pos}{fs:FA}{fa:FE}(hs:PA X es (fA X.K fs))(ha:PE X e (bC X.K fa))(hline:(apos.endLine==cpos.line)=Z)(st:qo [e] X.env=(Ff,eval e X.env)::qo [] X.env) :
 PE X (.Call (.Attribute (.Tuple es k tpos) "count" apos) [e] [] cpos) (bC X.K (vC fs fa)):=by
 rintro aB s σ H Q I ⟨F,L,S,env,w,S',R,E,eq,q⟩;let(ws,S1,ys,wk,kk,e1,e2,hz,e3,e4,U):=aIC eq;refine wpAny_Call_method_late (by rfl) (by rw[st];rfl) hline U (wpAny_Tuple_spliced (bK (hs tpos aB s σ H (λ vs H1=>∃ F1 L1,Gr F L F1 L1/\Rel X.K F1 L1 S1 H1/\WDenL X.K F1 L1 ws vs) I ⟨F,L,S,env,ws,S1,R,E,e1,λ F1 L1 H1 vs g1 R1 d1=>(F1,L1,g1,R1,d1,)⟩) λ us s1 hPq51=>?_));let(vs,H1,I1,r,F1,L1,g1,R1,d1):=hPq51;let dl:=rB d1 e2;obtain rfl:=aEh dl;let cW:↑us<=qk:=by rw[<- r.length,<- dl.length];exact hz
 refine(cW,?_,);let hf:H1 s1.heap.objs.size=qx:=I1.hok.fresh (yAd _);let ob:=xAd (o:={cls:=.type "tuple",data:=.seq us.toArray 0 }) s1.heap U;let I2:Inv X aB σ (bJ H1 s1.heap.objs.size (.tup (ys.map V.str))) {s1 with heap:=s1.heap.push {cls:=.type "tuple",data:=.seq us.toArray 0 } }:=
  I1.laid (t':=s1.toks) (λ b u e=>hpS _ e) (yAd _) (by rw[r.length];exact cW,us,r,(_,ob,U,_,U,),)
 refine("tuple","tuple.count",PySem.F.plainAttrs_tuple,PySem.F.slot_tuple_count,PySem.F.type_tuple_count,(_,ob,U,),λ a e=>by cases e;exact(_,ob,U,),?_,);let g2:Gr F1 L1 (bJ F1 s1.heap.objs.size (.tup (ys.map V.str))) L1:=Gr.new (R1.sub.free hf);let hA:=ha aB _ σ _ (λ v H2=>∃ F2 L2,Gr (bJ F1 s1.heap.objs.size (.tup (ys.map V.str))) L1 F2 L2/\Rel X.K F2 L2 S' H2/\eS X.K F2 L2 wk v) I2 ⟨_,L1,S1,env,wk,S',R1.new hf,(E.mono g1).mono g2,e3,λ F2 L2 H2 v g R d=>(F2,L2,g,R,d,)⟩;rw[st];refine Calls.callWith_builtin U (Calls.evalArgs_plain (Calls.spliced_cons (bK hA λ u s2 ⟨v,H2,I3,rv,F2,L2,g3,R3,d3⟩=>Calls.spliced_nil ?_)));let dk:=aB2 d3 e4;cases dk;let(t,U):=rv;exact aUg I3 (cK.of (R3.sub _ _ (g3.f _ _ cU))) (q F2 L2 H2 _ ((g1.trans g2).trans g3) R3 (.int _))
def aXc{fs:FA}{fa:FE}(σ:L2.St)(H:Hp)(Q:VK)(h:bC X.K (vC fs fa) σ H Q):tBM X.K "list" (aNL X.K) (aFY (fA X.K fs)) (fA X.K (dD fa iJ)) σ H Q:=by
 let(F,L,S,env,w,S',R,E,eq,q):=h;let(ws,S1,ys,wk,kk,e1,e2,hz,e3,e4,U):=aIC eq;refine(F,L,S,env,ws,S1,R,E,e1,λ F1 L1 H1 vs g1 R1 d1=>?_,);let dl:=rB d1 e2;obtain rfl:=aEh dl;refine(by rw[<- dl.length];exact hz,λ p hp=>(.inl (U,_,cE.of cU,),?_,),);let g2:Gr F1 L1 (bJ F1 p (.lst (ys.map V.str))) L1:=Gr.new (R1.sub.free hp);refine(_,L1,S1,env,[wk],S',R1.new hp,(E.mono g1).mono g2,?_,λ F2 L2 H2 us g3 R3 d3=>?_,)
 .unfold dD;rw[e3];rfl
 .cases d3 with
  |cons dd dr=>
    cases dr;cases aB2 dd e4;exact(p,ys,kk,U,U,cE.of (R3.sub _ _ (g3.f _ _ cU)),q F2 L2 H2 _ ((g1.trans g2).trans g3) R3 (.int _),)
def sQ(fa:FE)(fl fh:FO):FE:=λ env S=>(fa env S).bind λ p=>(fl env p.2).bind λ q=>(fh env q.2).bind λ r=>(dr r.2 p.1).bind λ d=>match d with|.list xs=>J (.d (Lz (gM xs q.1 r.1)),r.2)|.tuple xs=>J (.d (Tz (gM xs q.1 r.1)),r.2)|_=>qx
def jE(fa:FE):FL:=λ env S=>(fa env S).bind λ p=>match p.1 with|.d (Lz ds)=>J (ds,p.2)|.d (Tz ds)=>J (ds,p.2)|_=>qx
def bB3{lo hi:Option qy}{fa:FE}{fl fh:FO}(ha:PE X a (bC X.K fa))(hl:PO X lo (nF X.K fl))(hh:PO X hi (nF X.K fh)):PE X (.Subscript a (.Slice lo hi qx p2) pos) (bC X.K (sQ fa fl fh)):=by
 rintro aB s σ H Q I ⟨F,L,S,env,w,S',R,E,e,q⟩;let((w1,S1),e1,e):=aS e;let((l,S2),e2,e):=aS e;let((h,S3),e3,e):=aS e;let(d,e4,e):=aS e;dsimp only at e e2 e3 e4;cases d with
 |list xs=>
   cases e;refine aOn (aZT ha hl hh) aB s σ H Q I (F,L,S,env,_,_,R,E,?_,q,);unfold mK aNQ;rw[e1];dsimp only[yDr];rw[e2];dsimp only;rw[e3];dsimp only;rw[e4];rfl
 |tuple xs=>
   cases e;refine aYz ha hl hh aB s σ H Q I (F,L,S,env,_,_,R,E,?_,q,);unfold aNf;rw[e1];dsimp only[yDr];rw[e2];dsimp only;rw[e3];dsimp only;rw[e4];dsimp only[aNF]
 |_=>cases e
def bBe{fa:FE}(ha:PE X a (bC X.K fa)):PI X tg a (jM X.K (jE fa)):=by
 rintro aB s σ H Rr I ⟨F,L,S,env,ds,S',R,E,e,q⟩;let((w1,S1),e1,e):=aS e;dsimp only at e;split at e
 .rename_i ds';cases e;refine aYP ha aB s σ H Rr I (F,L,S,env,_,_,R,E,?_,q,);unfold aNV;rw[e1];rfl
 .cases e;refine aZp ha aB s σ H Rr I (F,L,S,env,_,_,R,E,?_,q,);unfold aN5;rw[e1];rfl
 .cases e
inductive Ty where
 |int|bool|str|lst|tup
 deriving DecidableEq
def Ty.s:Ty->String
 |.int => "int" |.bool => "bool" |.str => "str" |.lst => "list" |.tup => "tuple"
def Ty.n:Ty->Str
 |.int => "int" |.bool => "bool" |.str => "str" |.lst => "list" |.tup => "tuple"
inductive B where
 |len|mx|mn|int|tup|all|any
 deriving DecidableEq
def B.g:B->G D->Oz D
 |.len=>nE|.mx=>sH|.mn=>kX|.int=>aNU|.tup=>rL|.all=>aF0|.any=>zY
def B.n:B->Str
 |.len => "len" |.mx => "max" |.mn => "min" |.int => "int" |.tup => "tuple" |.all => "all" |.any => "any"
inductive E where
 |var (i:Nat)|int (i:Int)|bl (b:Bool)|non|str (x:Str)
 |bin (op:jy) (a b:E)|un (op:ww) (a:E)|cmp (op:jv) (a b:E)
 |and (a b:E)|or (a b:E)|not (a:E)|ite (c a b:E)
 |tup (es:E)|lst (es:E)|nil|cons (a r:E)
 |con (x:Str) (ts:List Tv)
 |ix (a b:E)|tab (x:Str) (aO:List (Str×Tv)) (k:E)|sl (a lo hi:E)|no
 |call (f:Nat) (es:E)|blt (b:B) (es:E)|bits (a:E)|app (o a:E)|idx (o a:E)
 |lzip (a b:E)|lrep (a b:E)|comp (elt:E) (t:Tg) (it:E) (cond:E)
 |it (a:E)|rng1 (a:E)|rng2 (a b:E)|rng3 (a b c:E)|enm (a:E)|zip (a b:E)|zip3 (a b c:E)
 |fz (a:E)|new (a:E)
 |fld (a:E) (f:Str)|mth (m:Str) (f:Nat) (o es:E)|mk (ini:List (Str×Ini)) (np:Nat) (es:E)|tpl (es:E)|din (n:Bool) (k d:E)|dget (d k:E)|cou (b:Bool) (es a:E)
abbrev Calls:=Nat->Option (Nat×(List W->aD->Option (W×aD)))
def mW(C:Calls)(f:Nat)(fs:FA):FE:=λ env S=>match C f with|some (np,call)=>aCn fs np call env S|none=>qx
def rR(C:Calls)(m:Str)(f:Nat)(fo:FE)(fs:FA):FE:=λ env S=>match C f with|some (np,call)=>aCH m fo fs np call env S|none=>qx
section
variable (C:Calls)
mutual
noncomputable def ev:E->FE
 |.var i=>mB i|.int i=>fC (.int i)|.bl b=>fC (.bool b)|.non=>fC .none|.str x=>fC (.str x)|.bin op a b=>sI op (ev a) (ev b)|.un op a=>fUn op (ev a)|.cmp op a b=>oZ op (ev a) (ev b)|.and a b=>zC (ev a) (ev b)|.or a b=>aAl (ev a) (ev b)|.not a=>zO (ev a)|.ite c a b=>aAr (tv c) (ev a) (ev b)|.tup es=>aAA (av es)|.ix a b=>qP (ev a) (ev b)|.tab _ aO k=>f1 (ev k) (pO (aCL aO))|.con _ ts=>fC (.tuple (ts.map Tv.d))|.sl a lo hi=>sQ (ev a) (ov lo) (ov hi)|.call f es=>mW C f (av es)|.blt b es=>sB (av es) b.g|.bits a=>aFB (ev a)|.app o a=>aCQ (ev o) (ev a)|.idx o a=>aAF (ev o) (ev a)|.fz a=>mK (lv a)|.new a=>oV (lv a)|.fld a f=>aCJ (ev a) f|.mth m f o es=>rR C m f (ev o) (av es)|.mk ini np es=>aCs ini np (av es)|.tpl es=>aCC (av es)|.din n k d=>vD n (ev k) (ev d)|.dget d k=>aCq (ev d) (ev k)|.cou _ es a=>vC (av es) (ev a)|_=>λ _ _=>qx
noncomputable def tv:E->FT
 |.and a b=>zW (tv a) (tv b)|.or a b=>fOr (tv a) (tv b)|.not a=>aAv (tv a)|.var i=>dR (mB i)|.cmp op a b=>dR (oZ op (ev a) (ev b))|.ix a b=>dR (qP (ev a) (ev b))|.call f es=>dR (mW C f (av es))|.blt b es=>dR (sB (av es) b.g)|.bin op a b=>dR (sI op (ev a) (ev b))|.bl b=>dR (fC (.bool b))|.no=>lX|.din n k d=>dR (vD n (ev k) (ev d))|_=>λ _ _=>qx
noncomputable def av:E->FA
 |.nil=>iJ|.cons a r=>dD (ev a) (av r)|_=>λ _ _=>qx
noncomputable def ov:E->FO
 |.no=>fNo|.cons a .nil=>uP (ev a)|_=>λ _ _=>qx
noncomputable def lv:E->FL
 |.lst es=>aAy (av es)|.lzip a b=>zM (ev a) (ev b)|.lrep a b=>aAg (ev a) (ev b)|.comp elt t it cond=>jI t (lv it) (tv cond) (ev elt)|.it a=>jE (ev a)|.rng1 a=>yY (ev a)|.rng2 a b=>zD (ev a) (ev b)|.rng3 a b c=>zG (ev a) (ev b) (ev c)|.enm a=>xY (ev a)|.zip a b=>sG (ev a) (ev b)|.zip3 a b c=>aCa (ev a) (ev b) (ev c)|_=>λ _ _=>qx
end
inductive Sx where
 |skip|seq (a b:Sx)|expr (e:E)|ret (e:E)|nev
 |ifs (c:E) (a b:Sx)|set (i:Nat) (e:E)|setC (nw:Bool) (i:Nat) (e:E)|setT (t:Tg) (e:E)|put (o i e:E)|dput (o i e:E)
 |loop (t:Tg) (it:E) (b:Sx)
def xs:Sx->FS
 |.skip=>uW|.nev=>λ _ _=>qx|.seq a b=>kZ (xs a) (xs b)|.expr e=>yT (ev C e)|.ret e=>qL (ev C e)|.ifs c a b=>pG (tv C c) (xs a) (xs b)|.set i e=>kY i (ev C e)
 |.setC nw i e=>kY i (match nw with|true=>oV (lv C e)|false=>mK (lv C e))
 |.setT t e=>yV t (ev C e)|.put o i e=>uX (ev C o) (ev C i) (ev C e)|.dput o i e=>aCi (ev C o) (ev C i) (ev C e)|.loop t it b=>kW t (lv C it) (xs b)
theorem aFa{i}:ev C (.var i)=mB i:=rfl
theorem aYa{i}:ev C (.int i)=fC (.int i):=rfl
theorem bAi{b}:ev C (.bl b)=fC (.bool b):=rfl
theorem aVZ:ev C .non=fC .none:=rfl
theorem aWI{x}:ev C (.str x)=fC (.str x):=rfl
theorem aLd{op a b}:ev C (.bin op a b)=sI op (ev C a) (ev C b):=rfl
theorem aNj{op a}:ev C (.un op a)=fUn op (ev C a):=rfl
theorem aEM{op a b}:ev C (.cmp op a b)=oZ op (ev C a) (ev C b):=rfl
theorem aLx{a b}:ev C (.and a b)=zC (ev C a) (ev C b):=rfl
theorem aNb{a b}:ev C (.or a b)=aAl (ev C a) (ev C b):=rfl
theorem aLB{a}:ev C (.not a)=zO (ev C a):=rfl
theorem aLO{c a b}:ev C (.ite c a b)=aAr (tv C c) (ev C a) (ev C b):=rfl
theorem aLQ{es}:ev C (.tup es)=aAA (av C es):=rfl
theorem aFv{a b}:ev C (.ix a b)=qP (ev C a) (ev C b):=rfl
theorem aXE{n0 aO k}:ev C (.tab n0 aO k)=f1 (ev C k) (pO (aCL aO)):=rfl
theorem aXT{n0 ts}:ev C (.con n0 ts)=fC (.tuple (ts.map Tv.d)):=rfl
theorem aFm{a lo hi}:ev C (.sl a lo hi)=sQ (ev C a) (ov C lo) (ov C hi):=rfl
theorem aLb{f es}:ev C (.call f es)=mW C f (av C es):=rfl
theorem aLX{b es}:ev C (.blt b es)=sB (av C es) b.g:=rfl
theorem aVp{a}:ev C (.bits a)=aFB (ev C a):=rfl
theorem aL0{o a}:ev C (.app o a)=aCQ (ev C o) (ev C a):=rfl
theorem aW6{o a}:ev C (.idx o a)=aAF (ev C o) (ev C a):=rfl
theorem aMZ{a}:ev C (.fz a)=mK (lv C a):=rfl
theorem aMm{a}:ev C (.new a)=oV (lv C a):=rfl
theorem aXp{a f}:ev C (.fld a f)=aCJ (ev C a) f:=rfl
theorem aV1{m f o es}:ev C (.mth m f o es)=rR C m f (ev C o) (av C es):=rfl
theorem bAd{ini np es}:ev C (.mk ini np es)=aCs ini np (av C es):=rfl
theorem aW0{es}:ev C (.tpl es)=aCC (av C es):=rfl
theorem aTc{d k}:ev C (.dget d k)=aCq (ev C d) (ev C k):=rfl
theorem aXk{b es a}:ev C (.cou b es a)=vC (av C es) (ev C a):=rfl
theorem aVY{n k d}:tv C (.din n k d)=dR (vD n (ev C k) (ev C d)):=rfl
theorem aLo{a b}:tv C (.and a b)=zW (tv C a) (tv C b):=rfl
theorem aNq{a b}:tv C (.or a b)=fOr (tv C a) (tv C b):=rfl
theorem aMn{a}:tv C (.not a)=aAv (tv C a):=rfl
theorem aWX{i}:tv C (.var i)=dR (mB i):=rfl
theorem aL2{op a b}:tv C (.cmp op a b)=dR (oZ op (ev C a) (ev C b)):=rfl
theorem aZL{a b}:tv C (.ix a b)=dR (qP (ev C a) (ev C b)):=rfl
theorem aTk{f es}:tv C (.call f es)=dR (mW C f (av C es)):=rfl
theorem aWm{b es}:tv C (.blt b es)=dR (sB (av C es) b.g):=rfl
theorem aWl{op a b}:tv C (.bin op a b)=dR (sI op (ev C a) (ev C b)):=rfl
theorem aZ5{b}:tv C (.bl b)=dR (fC (.bool b)):=rfl
theorem bAb:tv C .no=lX:=rfl
theorem aW8:av C .nil=iJ:=rfl
theorem aKm{a r}:av C (.cons a r)=dD (ev C a) (av C r):=rfl
theorem bAv:ov C .no=fNo:=rfl
theorem aKc{a}:ov C (.cons a .nil)=uP (ev C a):=rfl
theorem aLI{es}:lv C (.lst es)=aAy (av C es):=rfl
theorem aTn{a b}:lv C (.lzip a b)=zM (ev C a) (ev C b):=rfl
theorem xM{a b c}:lv C (.rng3 a b c)=zG (ev C a) (ev C b) (ev C c):=rfl
theorem aUK{a b}:lv C (.lrep a b)=aAg (ev C a) (ev C b):=rfl
theorem aTJ{elt t it cond}:lv C (.comp elt t it cond)=jI t (lv C it) (tv C cond) (ev C elt):=rfl
theorem zK{a}:lv C (.it a)=jE (ev C a):=rfl
theorem xI{a}:lv C (.rng1 a)=yY (ev C a):=rfl
theorem xC{a b}:lv C (.rng2 a b)=zD (ev C a) (ev C b):=rfl
theorem yN{a}:lv C (.enm a)=xY (ev C a):=rfl
theorem yO{a b}:lv C (.zip a b)=sG (ev C a) (ev C b):=rfl
theorem xD{a b c}:lv C (.zip3 a b c)=aCa (ev C a) (ev C b) (ev C c):=rfl
theorem aKC:xs C .skip=uW:=rfl
theorem rJ{a b}:xs C (.seq a b)=kZ (xs C a) (xs C b):=rfl
theorem aK8{e}:xs C (.expr e)=yT (ev C e):=rfl
theorem aEP{e}:xs C (.ret e)=qL (ev C e):=rfl
theorem uH{c a b}:xs C (.ifs c a b)=pG (tv C c) (xs C a) (xs C b):=rfl
theorem aEY{i e}:xs C (.set i e)=kY i (ev C e):=rfl
theorem aD5{nw i e}:xs C (.setC nw i e)=kY i (match nw with|true=>oV (lv C e)|false=>mK (lv C e)):=rfl
theorem aJZ{t e}:xs C (.setT t e)=yV t (ev C e):=rfl
theorem aLw{o i e}:xs C (.put o i e)=uX (ev C o) (ev C i) (ev C e):=rfl
theorem aTi{o i e}:xs C (.dput o i e)=aCi (ev C o) (ev C i) (ev C e):=rfl
theorem aUc{t it b}:xs C (.loop t it b)=kW t (lv C it) (xs C b):=rfl
end
def no{P:Prop}(h:Ff=Z):P:=by cases h
def dN(h:(a&&b)=Z):a=Z/\b=Z:=by
 cases a with
 |false=>exact no h|true=>exact(U,h,)
def aL(h:(a&&b)=Z):a=Z:=(dN h).1
def aR(h:(a&&b)=Z):b=Z:=(dN h).2
def fW{f:c->Bool}(h:(@dite _ c d f λ _=>Ff)=Z):c:=by
 cases d with
 |isTrue k=>exact k|isFalse _=>exact no h
def lA(k:Str->Pos->Bool)(x:qy):Bool:=if h:x.ctorIdx=23 then @Expr.Name.elim (λ _=>Bool) x h k else Ff
def pB{P:qy->Prop}{k:Str->Pos->Bool}(h:lA k x=Z)(g:∀ a b,k a b=Z->P (.Name a b)):P x:=@Expr.Name.elim (λ e=>lA k e=Z->P e) x (fW h) g h
def kCo(k:Const->Nat->Pos->Bool)(x:qy):Bool:=if h:x.ctorIdx=19 then @Expr.Constant.elim (λ _=>Bool) x h k else Ff
def bBa{P:qy->Prop}{k:Const->Nat->Pos->Bool}(h:kCo k x=Z)(g:∀ a b c,k a b c=Z->P (.Constant a b c)):P x:=@Expr.Constant.elim (λ e=>kCo k e=Z->P e) x (fW h) g h
def kBi(k:qy->jy->qy->Pos->Bool)(x:qy):Bool:=if h:x.ctorIdx=2 then @Expr.BinOp.elim (λ _=>Bool) x h k else Ff
def aOb{P:qy->Prop}{k:qy->jy->qy->Pos->Bool}(h:kBi k x=Z)(g:∀ a b c d,k a b c d=Z->P (.BinOp a b c d)):P x:=@Expr.BinOp.elim (λ e=>kBi k e=Z->P e) x (fW h) g h
def kUn(k:ww->qy->Pos->Bool)(x:qy):Bool:=if h:x.ctorIdx=3 then @Expr.UnaryOp.elim (λ _=>Bool) x h k else Ff
def aFI{P:qy->Prop}{k:ww->qy->Pos->Bool}(h:kUn k x=Z)(g:∀ a b c,k a b c=Z->P (.UnaryOp a b c)):P x:=@Expr.UnaryOp.elim (λ e=>kUn k e=Z->P e) x (fW h) g h
def kCm(k:qy->List jv->List qy->Pos->Bool)(x:qy):Bool:=if h:x.ctorIdx=15 then @Expr.Compare.elim (λ _=>Bool) x h k else Ff
def bBQ{P:qy->Prop}{k:qy->List jv->List qy->Pos->Bool}(h:kCm k x=Z)(g:∀ a b c d,k a b c d=Z->P (.Compare a b c d)):P x:=@Expr.Compare.elim (λ e=>kCm k e=Z->P e) x (fW h) g h
def kBo(k:BoolOp->List qy->Pos->Bool)(x:qy):Bool:=if h:x.ctorIdx=0 then @Expr.BoolOp.elim (λ _=>Bool) x h k else Ff
def bA7{P:qy->Prop}{k:BoolOp->List qy->Pos->Bool}(h:kBo k x=Z)(g:∀ a b c,k a b c=Z->P (.BoolOp a b c)):P x:=@Expr.BoolOp.elim (λ e=>kBo k e=Z->P e) x (fW h) g h
def kIe(k:qy->qy->qy->Pos->Bool)(x:qy):Bool:=if h:x.ctorIdx=5 then @Expr.IfExp.elim (λ _=>Bool) x h k else Ff
def bB2{P:qy->Prop}{k:qy->qy->qy->Pos->Bool}(h:kIe k x=Z)(g:∀ a b c d,k a b c d=Z->P (.IfExp a b c d)):P x:=@Expr.IfExp.elim (λ e=>kIe k e=Z->P e) x (fW h) g h
def sW(k:List qy->Nat->Pos->Bool)(x:qy):Bool:=if h:x.ctorIdx=25 then @Expr.Tuple.elim (λ _=>Bool) x h k else Ff
def qI{P:qy->Prop}{k:List qy->Nat->Pos->Bool}(h:sW k x=Z)(g:∀ a b c,k a b c=Z->P (.Tuple a b c)):P x:=@Expr.Tuple.elim (λ e=>sW k e=Z->P e) x (fW h) g h
def kLi(k:List qy->Pos->Bool)(x:qy):Bool:=if h:x.ctorIdx=24 then @Expr.List.elim (λ _=>Bool) x h k else Ff
def aFM{P:qy->Prop}{k:List qy->Pos->Bool}(h:kLi k x=Z)(g:∀ a b,k a b=Z->P (.List a b)):P x:=@Expr.List.elim (λ e=>kLi k e=Z->P e) x (fW h) g h
def kSu(k:qy->qy->Pos->Bool)(x:qy):Bool:=if h:x.ctorIdx=21 then @Expr.Subscript.elim (λ _=>Bool) x h k else Ff
def aNI{P:qy->Prop}{k:qy->qy->Pos->Bool}(h:kSu k x=Z)(g:∀ a b c,k a b c=Z->P (.Subscript a b c)):P x:=@Expr.Subscript.elim (λ e=>kSu k e=Z->P e) x (fW h) g h
def kSl(k:Option qy->Option qy->Option qy->Pos->Bool)(x:qy):Bool:=if h:x.ctorIdx=26 then @Expr.Slice.elim (λ _=>Bool) x h k else Ff
def bBY{P:qy->Prop}{k:Option qy->Option qy->Option qy->Pos->Bool}(h:kSl k x=Z)(g:∀ a b c d,k a b c d=Z->P (.Slice a b c d)):P x:=@Expr.Slice.elim (λ e=>kSl k e=Z->P e) x (fW h) g h
def kDi(k:G (Option qy)->List qy->Pos->Bool)(x:qy):Bool:=if h:x.ctorIdx=6 then @Expr.Dict.elim (λ _=>Bool) x h k else Ff
def bBt{P:qy->Prop}{k:G (Option qy)->List qy->Pos->Bool}(h:kDi k x=Z)(g:∀ a b c,k a b c=Z->P (.Dict a b c)):P x:=@Expr.Dict.elim (λ e=>kDi k e=Z->P e) x (fW h) g h
def kCa(k:qy->List qy->G Keyword->Pos->Bool)(x:qy):Bool:=if h:x.ctorIdx=16 then @Expr.Call.elim (λ _=>Bool) x h k else Ff
def aOm{P:qy->Prop}{k:qy->List qy->G Keyword->Pos->Bool}(h:kCa k x=Z)(g:∀ a b c d,k a b c d=Z->P (.Call a b c d)):P x:=@Expr.Call.elim (λ e=>kCa k e=Z->P e) x (fW h) g h
def kAt(k:qy->Str->Pos->Bool)(x:qy):Bool:=if h:x.ctorIdx=20 then @Expr.Attribute.elim (λ _=>Bool) x h k else Ff
def aF3{P:qy->Prop}{k:qy->Str->Pos->Bool}(h:kAt k x=Z)(g:∀ a b c,k a b c=Z->P (.Attribute a b c)):P x:=@Expr.Attribute.elim (λ e=>kAt k e=Z->P e) x (fW h) g h
def kLc(k:qy->G Comprehension->zw->Pos->Bool)(x:qy):Bool:=if h:x.ctorIdx=8 then @Expr.ListComp.elim (λ _=>Bool) x h k else Ff
def bBv{P:qy->Prop}{k:qy->G Comprehension->zw->Pos->Bool}(h:kLc k x=Z)(g:∀ a b c d,k a b c d=Z->P (.ListComp a b c d)):P x:=@Expr.ListComp.elim (λ e=>kLc k e=Z->P e) x (fW h) g h
def kEx(k:qy->Pos->Bool)(x:xk):Bool:=if h:x.ctorIdx=24 then @Stmt.Expr.elim (λ _=>Bool) x h k else Ff
def bBW{P:xk->Prop}{k:qy->Pos->Bool}(h:kEx k x=Z)(g:∀ a b,k a b=Z->P (.Expr a b)):P x:=@Stmt.Expr.elim (λ e=>kEx k e=Z->P e) x (fW h) g h
def kRe(k:Option qy->Pos->Bool)(x:xk):Bool:=if h:x.ctorIdx=3 then @Stmt.Return.elim (λ _=>Bool) x h k else Ff
def bBX{P:xk->Prop}{k:Option qy->Pos->Bool}(h:kRe k x=Z)(g:∀ a b,k a b=Z->P (.Return a b)):P x:=@Stmt.Return.elim (λ e=>kRe k e=Z->P e) x (fW h) g h
def kSf(k:qy->List xk->List xk->Pos->Bool)(x:xk):Bool:=if h:x.ctorIdx=12 then @Stmt.If.elim (λ _=>Bool) x h k else Ff
def bBq{P:xk->Prop}{k:qy->List xk->List xk->Pos->Bool}(h:kSf k x=Z)(g:∀ a b c d,k a b c d=Z->P (.If a b c d)):P x:=@Stmt.If.elim (λ e=>kSf k e=Z->P e) x (fW h) g h
def qU(k:List qy->qy->Pos->Bool)(x:xk):Bool:=if h:x.ctorIdx=5 then @Stmt.Assign.elim (λ _=>Bool) x h k else Ff
def vI{P:xk->Prop}{k:List qy->qy->Pos->Bool}(h:qU k x=Z)(g:∀ a b c,k a b c=Z->P (.Assign a b c)):P x:=@Stmt.Assign.elim (λ e=>qU k e=Z->P e) x (fW h) g h
def kFo(k:qy->qy->List xk->List xk->Pos->Bool)(x:xk):Bool:=if h:x.ctorIdx=9 then @Stmt.For.elim (λ _=>Bool) x h k else Ff
def bBo{P:xk->Prop}{k:qy->qy->List xk->List xk->Pos->Bool}(h:kFo k x=Z)(g:∀ a b c d e,k a b c d e=Z->P (.For a b c d e)):P x:=@Stmt.For.elim (λ e=>kFo k e=Z->P e) x (fW h) g h
def jL{α:Type}(k:α->Bool)(l:List α):Bool:=match l with|[a]=>k a|_=>Ff
def jV{α:Type}{P:List α->Prop}{k:α->Bool}:∀ {l:List α},jL k l=Z->(∀ a,k a=Z->P [a])->P l
 |[],h,_=>no h|[a],h,g=>g a h|_::_::_,h,_=>no h
def aFV{α:Type}(k:α->α->Bool)(l:List α):Bool:=match l with|a::r=>jL (k a) r|[]=>Ff
def aMH{α:Type}{P:List α->Prop}{k:α->α->Bool}:∀ {l:List α},aFV k l=Z->(∀ a b,k a b=Z->P [a,b])->P l
 |[],h,_=>no h|a::_,h,g=>jV (P:=λ r=>P (a::r)) h (g a)
def aNC{α:Type}(k:α->α->α->Bool)(l:List α):Bool:=match l with|a::r=>aFV (k a) r|[]=>Ff
def aZq{α:Type}{P:List α->Prop}{k:α->α->α->Bool}:∀ {l:List α},aNC k l=Z->(∀ a b c,k a b c=Z->P [a,b,c])->P l
 |[],h,_=>no h|a::_,h,g=>aMH (P:=λ r=>P (a::r)) h (g a)
def kT{α:Type}{P:List α->Prop}:∀ {l:List α},l.isEmpty=Z->P []->P l
 |[],_,g=>g|_::_,h,_=>no h
def aFL{α:Type}(o:Option α):Bool:=match o with|none=>Z|some _=>Ff
def aM4{α:Type}{P:Option α->Prop}:∀ {o:Option α},aFL o=Z->P qx->P o
 |none,_,g=>g|some _,h,_=>no h
def aNd{α:Type}{P:Option α->Prop}{k:α->Bool}:∀ {o:Option α},o.any k=Z->(∀ a,k a=Z->P (J a))->P o
 |none,h,_=>no h|some a,h,g=>g a h
def dT{p:Prop}{d:Decidable p}(h:decide p=Z):p:=oqT h
def qT(sc:zw)(x:Str):Bool:=match sc.names.lookup x with
 |some .local=>Z|some .cell=>Z|some .free=>Z|_=>Ff
def loc(sc:zw)(x:Str):Bool:=match sc.names.lookup x with
 |some .local=>Z|some .cell=>Z|_=>Ff
def aNw(e:E):Bool:=decide (e.ctorIdx=E.nil.ctorIdx)
def bBm{P:E->Prop}(h:aNw e=Z)(g:P .nil):P e:=@E.nil.elim P e (dT h) g
def any_some{α:Type}{o:Option α}{p:α->Bool}(h:o.any p=Z):∃ a,o=J a/\p a=Z:=by
 cases o with
 |none=>cases h|some a=>exact(a,U,h,)
def lo(sc:zw)(x:Str):Bool:=decide (sc.names.lookup x=J .local)
def gl(sc:zw)(x:Str):Bool:=decide (sc.names.lookup x=J .globalImplicit)
def dH(e:qy):Bool:=![7,22,26].contains e.ctorIdx
def oW(e:qy):Bool:=![0,3,5,15].contains e.ctorIdx
def uG(e:qy):Bool:=![16].contains e.ctorIdx
def pW(e:qy):Bool:=![8,9,10].contains e.ctorIdx
def uV(e:qy):Bool:=sW (λ _ _ _=>Z) e
def mQ:List qy->Bool
 |[]=>Z|e::r=>dH e&&mQ r
def sK(scope osc:zw):zw:={scope with names:=scope.names.map λ(n,k)=>if (k==.free&&osc.kind==.function&&osc.names.lookup n==J .cell) then (n,.cell) else (n,k) }
def aFs(scope osc:zw):Bool:=decide (scope.kind=.function)&&scope.names.all λ x=>(!decide (x.2=.cell))&&(!decide (x.2=.free)||decide (osc.names.lookup x.1=J .cell)||decide (osc.names.lookup x.1=J .free))&&(!decide (x.2=.local)||decide (scope.names.lookup x.1=J .local))
def aCP(N:G Str)(scope:zw)(is:G Nat):Nat->Bool
 |0=>Z
 | n+1=>aCP N scope is n&&(match N[n]? with
   |some x=>!decide (scope.names.lookup x=J .local)||is.contains n
   | none=>Z)
def aES(b:Bool)(N:G Str)(sc:zw)(i:Nat)(x:Str):Bool:=decide (N[i]?=J x)&&(match b with
 |true=>decide (sc.names.lookup x=J .local)
 | false=>loc sc x)
def aEn(b:Bool)(N:G Str)(sc:zw):G Nat->List qy->Bool
 |[],es=>es.isEmpty
 | i::is,es=>(match es with
   |e::r=>lA (λ x _=>aES b N sc i x&&aEn b N sc is r) e
   | []=>Ff)
def aAx(b:Bool)(N:G Str)(sc:zw)(t:Tg)(e:qy):Bool:=match t with|.one i=>lA (λ x _=>aES b N sc i x) e|.many is=>sW (λ es _ _=>aEn b N sc is es) e
def aJ6(e:E):Bool:=decide (e.ctorIdx=(E.comp .no (.one 0) .no .no).ctorIdx)
def bBb{P:E->Prop}(h:aJ6 e=Z)(g:∀ a t b c,P (.comp a t b c)):P e:=@E.comp.elim P e (dT h) g
def aFJ(e:E):Bool:=decide (e.ctorIdx=E.no.ctorIdx)
def aNJ{P:E->Prop}(h:aFJ e=Z)(g:P .no):P e:=@E.no.elim P e (dT h) g
def vE(c:Const)(e:qy):Bool:=kCo (λ d _ _=>decide (d=c)) e
def aCg{P:qy->Prop}(h:vE c x=Z)(g:∀ k p,P (.Constant c k p)):P x:=
 bBa h λ _ k p z=>(dT z)▸g k p
def aAs(k:qy->jv->qy->Bool)(e:qy):Bool:=kCm (λ x os ys _=>jL (λ o=>jL (λ y=>k x o y&&dH y) ys) os) e
def aCh{P:qy->Prop}{k:qy->jv->qy->Bool}(h:aAs k x=Z)(g:∀ a o b p,k a o b=Z->dH b=Z->P (.Compare a [o] [b] p)):P x:=
 bBQ h λ a os _ p z=>jV (P:=λ os=>P (.Compare a os _ p)) z λ o z=>jV (P:=λ ys=>P (.Compare a [o] ys p)) z λ b z=>g a o b p (aL z) (aR z)
def zI(op:BoolOp)(k:qy->qy->Bool)(e:qy):Bool:=kBo (λ o es p=>decide (o=op)&&(match es with
 |[x,y]=>k x y|x::y::z::r=>k x (.BoolOp op (y::z::r) p)
 | _=>Ff)) e
def aB0{P:qy->Prop}{k:qy->qy->Bool}(h:zI op k x=Z)(g:∀ a b p,k a b=Z->P (.BoolOp op [a,b] p))(f:∀ a b c r p,k a (.BoolOp op (b::c::r) p)=Z->P (.BoolOp op (a::b::c::r) p)):P x:=
 bA7 h λ o es p z=>by
  obtain rfl:=dT (aL z)
  match es,aR z with
  |[a,b],z=>exact g a b p z|a::b::c::r,z=>exact f a b c r p z|[],z=>exact no z|[_],z=>exact no z
def sR(k:qy->qy->Bool)(e:qy):Bool:=kSu (λ x y _=>k x y&&dH y) e
def aAB{P:qy->Prop}{k:qy->qy->Bool}(h:sR k x=Z)(g:∀ a b p,k a b=Z->dH b=Z->P (.Subscript a b p)):P x:=aNI h λ a b p z=>g a b p (aL z) (aR z)
def aNY(k:qy->Option qy->Option qy->Bool)(e:qy):Bool:=kSu (λ x s _=>kSl (λ l h t _=>aFL t&&k x l h) s) e
def aZO{P:qy->Prop}{k:qy->Option qy->Option qy->Bool}(h:aNY k x=Z)(g:∀ a l u p q,k a l u=Z->P (.Subscript a (.Slice l u qx p) q)):P x:=
 aNI h λ a _ q z=>bBY (P:=λ s=>P (.Subscript a s q)) z λ l u _ p z=>aM4 (P:=λ t=>P (.Subscript a (.Slice l u t p) q)) (aL z) (g a l u p q (aR z))
def oI(k:Str->List qy->Bool)(e:qy):Bool:=kCa (λ f xs ks _=>lA (λ n _=>ks.isEmpty&&k n xs) f) e
def uD{P:qy->Prop}{k:Str->List qy->Bool}(h:oI k x=Z)(g:∀ n p xs q,k n xs=Z->P (.Call (.Name n p) xs [] q)):P x:=
 aOm h λ _ xs ks q z=>pB (P:=λ f=>P (.Call f xs ks q)) z λ n p z=>kT (P:=λ ks=>P (.Call (.Name n p) xs ks q)) (aL z) (g n p xs q (aR z))
def kB1(nm:Str)(sc:zw)(k:qy->Bool)(e:qy):Bool:=oI (λ n xs=>decide (n=nm)&&gl sc n&&jL (λ y=>k y&&dH y) xs) e
def aFS{P:qy->Prop}{k:qy->Bool}(h:kB1 nm sc k x=Z)(g:∀ p y q,gl sc nm=Z->k y=Z->dH y=Z->P (.Call (.Name nm p) [y] [] q)):P x:=
 uD h λ n p xs q z=>by
  obtain rfl:=dT (aL (aL z));exact jV (P:=λ xs=>P (.Call (.Name n p) xs [] q)) (aR z) λ y u=>g p y q (aR (aL z)) (aL u) (aR u)
def kB2(nm:Str)(sc:zw)(k l:qy->Bool)(e:qy):Bool:=oI (λ n xs=>decide (n=nm)&&gl sc n&&aFV (λ y z=>(k y&&dH y)&&(l z&&dH z)) xs) e
def aF2{P:qy->Prop}{k l:qy->Bool}(h:kB2 nm sc k l x=Z)(g:∀ p y z q,gl sc nm=Z->k y=Z->dH y=Z->l z=Z->dH z=Z->P (.Call (.Name nm p) [y,z] [] q)):P x:=
 uD h λ n p xs q z=>by
  obtain rfl:=dT (aL (aL z));exact aMH (P:=λ xs=>P (.Call (.Name n p) xs [] q)) (aR z) λ y w u=>g p y w q (aR (aL z)) (aL (aL u)) (aR (aL u)) (aL (aR u)) (aR (aR u))
def kB3(nm:Str)(sc:zw)(k l m:qy->Bool)(e:qy):Bool:=oI (λ n xs=>decide (n=nm)&&gl sc n&&aNC (λ y z w=>(k y&&dH y)&&((l z&&dH z)&&(m w&&dH w))) xs) e
def aNT{P:qy->Prop}{k l m:qy->Bool}(h:kB3 nm sc k l m x=Z)(g:∀ p y z w q,gl sc nm=Z->k y=Z->dH y=Z->l z=Z->dH z=Z->m w=Z->dH w=Z->P (.Call (.Name nm p) [y,z,w] [] q)):P x:=
 uD h λ n p xs q z=>by
  obtain rfl:=dT (aL (aL z));exact aZq (P:=λ xs=>P (.Call (.Name n p) xs [] q)) (aR z) λ y w v u=>g p y w v q (aR (aL z)) (aL (aL u)) (aR (aL u)) (aL (aL (aR u))) (aR (aL (aR u))) (aL (aR (aR u))) (aR (aR (aR u)))
def kMe(nm:Str)(k:qy->List qy->Bool)(e:qy):Bool:=kCa (λ f xs ks cp=>kAt (λ o m ap=>ks.isEmpty&&(ap.endLine==cp.line)&&decide (m=nm)&&uG o&&k o xs) f) e
def aCS{P:qy->Prop}{k:qy->List qy->Bool}(h:kMe nm k x=Z)(g:∀ o ap xs cp,(ap.endLine==cp.line)=Z->uG o=Z->k o xs=Z->P (.Call (.Attribute o nm ap) xs [] cp)):P x:=
 aOm h λ _ xs ks cp z=>aF3 (P:=λ f=>P (.Call f xs ks cp)) z λ o m ap z=>by
  obtain rfl:=dT (aR (aL (aL z)));exact kT (P:=λ ks=>P (.Call (.Attribute o m ap) xs ks cp)) (aL (aL (aL (aL z)))) (g o ap xs cp (aR (aL (aL (aL z)))) (aR (aL z)) (aR z))
def aFG(nm:Str)(k l:qy->Bool)(e:qy):Bool:=kMe nm (λ o xs=>k o&&jL (λ y=>l y&&dH y) xs) e
def aMI{P:qy->Prop}{k l:qy->Bool}(h:aFG nm k l x=Z)(g:∀ o ap y cp,(ap.endLine==cp.line)=Z->uG o=Z->k o=Z->l y=Z->dH y=Z->P (.Call (.Attribute o nm ap) [y] [] cp)):P x:=
 aCS h λ o ap xs cp h1 h2 z=>jV (P:=λ xs=>P (.Call (.Attribute o nm ap) xs [] cp)) (aR z) λ y u=>g o ap y cp h1 h2 (aL z) (aL u) (aR u)
def aNa(k:qy->qy->qy->List qy->zw->Bool)(e:qy):Bool:=kLc (λ el gs sc _=>jL (λ g=>decide (g.is_async=0)&&k el g.target g.iter g.ifs sc) gs) e
def aXi{P:qy->Prop}{k:qy->qy->qy->List qy->zw->Bool}(h:aNa k x=Z)(g:∀ e tg it ifs sc p,k e tg it ifs sc=Z->P (.ListComp e [⟨tg,it,ifs,0⟩] sc p)):P x:=
 bBv h λ e _ sc p z=>jV (P:=λ gs=>P (.ListComp e gs sc p)) z λ bB z=>by
  let(tg,it,ifs,as):=bB;obtain rfl:as=0:=dT (aL z);exact g e tg it ifs sc p (aR z)
def aOl(N:G Str)(t:Tg)(cond:E)(sc:zw)(fI:qy->qy->Bool)(fT fE:zw->qy->Bool)(x:qy):Bool:=aNa (λ e tg iter ifs scope=>aFs scope sc&&aCP N scope t.slots N.length&&aAx Z N (sK scope sc) t tg&&fI tg iter&&dH iter &&
 (match ifs with | []=>aFJ cond | y::r=>r.isEmpty&&fT (sK scope sc) y)&&fE (sK scope sc) e) x
def aOc{P:qy->Prop}{cond:E}{fI:qy->qy->Bool}{fT fE:zw->qy->Bool}(h:aOl N t cond sc fI fT fE x=Z)(g:∀ e tg iter ifs scope p,aFs scope sc=Z->aCP N scope t.slots N.length=Z->aAx Z N (sK scope sc) t tg=Z->fI tg iter=Z->dH iter=Z->(match ifs with|[]=>aFJ cond|y::r=>r.isEmpty&&fT (sK scope sc) y)=Z->fE (sK scope sc) e=Z->P (.ListComp e [(tg,iter,ifs,0,)] scope p)):P x:=
 aXi h λ e tg iter ifs scope p h=>g e tg iter ifs scope p (aL (aL (aL (aL (aL (aL h)))))) (aR (aL (aL (aL (aL (aL h)))))) (aR (aL (aL (aL (aL h))))) (aR (aL (aL (aL h)))) (aR (aL (aL h))) (aR (aL h)) (aR h)
structure Tx where
 fn:List (Str×Nat)
 tb:List (Str×List (Str×Tv))
 cn:List (Str×List Tv)
 st:List (Str×Str)
 mt:List (Str×Nat)
 mo:Option (List (Str×Ini)×Nat)
def aET(T:Tx)(f:Nat)(x:Str):Bool:=decide ((T.fn[f]?).map (·.1)=J x) && !(T.mt.any λ p=>decide (p.2=f))
def aZr(T:Tx)(f:Str):Bool:=T.mo.any λ m=>m.1.any λ p=>decide (p.1=f)
section
variable (T:Tx)(N:List Str)
mutual
noncomputable def bS:E->zw->qy->Bool
 |.var i,sc,x=>lA (λ x _=>decide (N[i]?=J x)&&qT sc x && !(x==("__debug__" : Str)) && !(x==("__classdict__" : Str))) x|.int i,_,x=>vE (.int i) x|.bl i,_,x=>vE (.bool i) x|.non,_,x=>vE .none x|.str i,_,x=>vE (.str i) x|.bin op a b,sc,x=>kBi (λ x op' y _=>decide (op'=op)&&bS a sc x&&bS b sc y) x|.un op a,sc,x=>kUn (λ op' x _=>decide (op'=op) && !decide (op=.Not)&&bS a sc x) x|.cmp op a b,sc,x=>aAs (λ x op' y=>decide (op'=op)&&bS a sc x&&bS b sc y) x|.and a b,sc,x=>zI .And (λ x y=>bS a sc x&&bS b sc y) x|.or a b,sc,x=>zI .Or (λ x y=>bS a sc x&&bS b sc y) x|.not a,sc,x=>kUn (λ o x _=>decide (o=.Not)&&bS a sc x) x|.ite c a b,sc,x=>kIe (λ x y z _=>nK c sc x&&bS a sc y&&bS b sc z) x|.tup es,sc,x=>sW (λ xs _ _=>jN es sc xs) x|.ix a b,sc,x=>sR (λ x y=>bS a sc x&&bS b sc y) x|.con n ts,sc,x=>lA (λ x _=>decide (x=n)&&T.cn.contains (n,ts)&&gl sc x && !(x==("__debug__" : Str))) x|.tab n aO k,sc,x=>sR (λ x y=>bS k sc y&&lA (λ x _=>decide (x=n)&&T.tb.contains (n,aO)&&gl sc x && !(x==("__debug__" : Str))) x) x|.sl a lo hi,sc,x=>aNY (λ x l h=>bS a sc x&&okO lo sc l&&okO hi sc h) x|.call f es,sc,x=>oI (λ x xs=>aET T f x&&gl sc x && !(x==("__debug__" : Str))&&jN es sc xs&&mQ xs) x|.blt b es,sc,x=>oI (λ x ys=>!ys.isEmpty&&decide (x=b.n)&&gl sc x&&jN es sc ys&&mQ ys) x|.bits a,sc,x=>kMe "bit_length" (λ x ys=>bS a sc x&&ys.isEmpty) x|.app o a,sc,x=>aFG "append" (λ x=>bS o sc x) (λ y=>bS a sc y) x|.idx o a,sc,x=>aFG "index" (λ x=>bS o sc x) (λ y=>bS a sc y) x|.fz a,sc,e=>okL a sc e|.new a,sc,e=>okL a sc e|.fld a f,sc,x=>kAt (λ o g _=>decide (g=f)&&uG o&&aZr T f&&bS a sc o) x|.mth m f o es,sc,x=>kMe m (λ y ys=>decide ((m,f)∈T.mt)&&bS o sc y&&jN es sc ys&&mQ ys && !ys.isEmpty&&decide (↑ys<30)) x|.mk ini np es,sc,x=>oI (λ x xs=>decide (T.mo=J (ini,np))&&decide (x = "Maker")&&gl sc x&&jN es sc xs&&mQ xs && !xs.isEmpty) x|.tpl es,sc,x=>sW (λ xs _ _=>jN es sc xs) x|.din n k d,sc,x=>aAs (λ x op' y=>decide (op'=aFj n)&&bS k sc x&&bS d sc y) x|.dget d k,sc,x=>sR (λ x y=>bS d sc x&&bS k sc y) x
 |.cou b es a,sc,x=>kMe "count" (λ o ys=>(match b with|false=>sW (λ xs _ _=>jN es sc xs) o|true=>kLi (λ xs _=>jN es sc xs) o)&&jL (λ y=>bS a sc y&&dH y) ys) x
 |_,_,_=>Ff
noncomputable def nK:E->zw->qy->Bool
 |.and a b,sc,x=>zI .And (λ x y=>nK a sc x&&nK b sc y) x|.or a b,sc,x=>zI .Or (λ x y=>nK a sc x&&nK b sc y) x|.not a,sc,x=>kUn (λ o x _=>decide (o=.Not)&&nK a sc x) x|.cmp op a b,sc,x=>aAs (λ x op' y=>decide (op'=op)&&bS a sc x&&bS b sc y) x|.var i,sc,x=>lA (λ x _=>decide (N[i]?=J x)&&qT sc x && !(x==("__debug__" : Str)) && !(x==("__classdict__" : Str))) x&&oW x|.bl i,_,x=>vE (.bool i) x&&oW x|.bin op a b,sc,x=>kBi (λ x op' y _=>decide (op'=op)&&bS a sc x&&bS b sc y) x&&oW x|.ix a b,sc,x=>sR (λ x y=>bS a sc x&&bS b sc y) x&&oW x|.call f es,sc,x=>oI (λ x xs=>aET T f x&&gl sc x && !(x==("__debug__" : Str))&&jN es sc xs&&mQ xs) x&&oW x|.blt b es,sc,x=>oI (λ x ys=>!ys.isEmpty&&decide (x=b.n)&&gl sc x&&jN es sc ys&&mQ ys) x&&oW x|.din n k d,sc,x=>aAs (λ x op' y=>decide (op'=aFj n)&&bS k sc x&&bS d sc y) x|_,_,_=>Ff
noncomputable def jN:E->zw->List qy->Bool
 |.nil,_,xs=>xs.isEmpty
 | .cons a r,sc,xs=>(match xs with
   |x::xs=>bS a sc x&&dH x&&jN r sc xs
   | []=>Ff)
 |_,_,_=>Ff
noncomputable def okO:E->zw->Option qy->Bool
 |.no,_,x=>aFL x|.cons a r,sc,x=>aNw r&&x.any λ x=>bS a sc x|_,_,_=>Ff
noncomputable def okL:E->zw->qy->Bool
 |.lst es,sc,x=>kLi (λ xs _=>jN es sc xs) x|.lzip a b,sc,x=>kB1 "list" sc (λ y=>kB2 "zip" sc (λ z=>bS a sc z) (λ w=>bS b sc w) y) x|.lrep a b,sc,x=>kBi (λ x o y _=>decide (o=.Mult)&&bS a sc x&&bS b sc y) x|.comp elt t it cond,sc,x=>aOl N t cond sc (λ g y=>okI it sc g y) (λ s y=>nK cond s y) (λ s y=>bS elt s y) x|_,_,_=>Ff
noncomputable def okI:E->zw->qy->qy->Bool
 |.it a,sc,_,x=>bS a sc x|.rng1 a,sc,_,x=>kB1 "range" sc (λ y=>bS a sc y) x|.rng2 a b,sc,_,x=>kB2 "range" sc (λ y=>bS a sc y) (λ z=>bS b sc z) x|.rng3 a b c,sc,_,x=>kB3 "range" sc (λ y=>bS a sc y) (λ z=>bS b sc z) (λ w=>bS c sc w) x|.zip a b,sc,tg,x=>uV tg&&kB2 "zip" sc (λ y=>bS a sc y) (λ z=>bS b sc z) x|.zip3 a b c,sc,tg,x=>uV tg&&kB3 "zip" sc (λ y=>bS a sc y) (λ z=>bS b sc z) (λ w=>bS c sc w) x|.enm a,sc,tg,x=>uV tg&&kB1 "enumerate" sc (λ y=>bS a sc y) x|_,_,_,_=>Ff
end
mutual
noncomputable def okS:Sx->zw->xk->Bool
 |.nev,_,_=>Z|.expr e,sc,st=>kEx (λ x _=>bS T N e sc x&&pW x) st|.ret e,sc,st=>kRe (λ v _=>v.any λ x=>bS T N e sc x) st|.ifs c a b,sc,st=>kSf (λ x y z _=>nK T N c sc x&&qK a sc y&&qK b sc z) st|.set i e,sc,st=>qU (λ ts y _=>bS T N e sc y&&pW y&&jL (λ t=>lA (λ x _=>decide (N[i]?=J x)&&loc sc x) t) ts) st|.setC _ i e,sc,st=>qU (λ ts y _=>aJ6 e&&okL T N e sc y&&jL (λ t=>lA (λ x _=>decide (N[i]?=J x)&&loc sc x) t) ts) st|.setT t e,sc,st=>qU (λ ts y _=>bS T N e sc y&&pW y && !uV y&&jL (λ tg=>uV tg&&aAx Ff N sc t tg) ts) st|.put o i e,sc,st=>qU (λ ts z _=>bS T N e sc z&&pW z&&jL (λ t=>sR (λ x y=>bS T N o sc x&&bS T N i sc y) t) ts) st|.dput o i e,sc,st=>qU (λ ts z _=>bS T N e sc z&&pW z&&jL (λ t=>sR (λ x y=>bS T N o sc x&&bS T N i sc y) t) ts) st|.loop t it b,sc,st=>kFo (λ tg x y z _=>z.isEmpty&&aAx Ff N sc t tg&&okI T N it sc tg x&&dH x&&qK b sc y) st|_,_,_=>Ff
noncomputable def qK:Sx->zw->List xk->Bool
 |.skip,_,l=>l.isEmpty
 | .seq a b,sc,l=>(match l with
   |st::r=>okS a sc st&&qK b sc r
   | []=>Ff)
 |_,_,_=>Ff
end
end
def bltNames:G Str:=["len","max","min","int","abs","tuple","sum","all","any","isinstance","list","range","enumerate","bool","str","reversed","zip","sorted","set"]
structure Ctx(T:Tx)(C:Calls)(X:Cx):Prop where
 nd:X.N.Nodup
 calm:X.calm=Z
 xe:X.xe=λ _ _=>False
 kind:X.env.scope.kind=.function
 room:∃ k,2<=k/\Room k X.A/\(∀ f np call x,C f=J (np,call)->aET T f x=Z->∃ fa fd ps,X.mg x=J (.ref fa)/\yBp X.K (.ref fa)=Z/\iH X.K fd ps []/\FnOk X.prog X.w X.K X.mg X.base pL k fa fd ps (qO X.K np call)) /\
  ∀ m f np call,C f=J (np,call)->(m,f)∈T.mt->∃ Cc fa fd ps,mE X.K Cc/\Cls X.K Cc/\Meth X.K Cc m fa/\iH X.K fd ps []/\FnOk X.prog X.w X.K X.mg X.base pL k fa fd ps (qO X.K np call)
 mo:∀ ini np,T.mo=J (ini,np)->∃ Cc fi fd ps,mE X.K Cc/\Cls X.K Cc/\X.mg "Maker" = J (.ref Cc)/\(∀ p∈ini,NoAttr X.K Cc p.1)/\Mk X.K Cc fi/\iH X.K fd ps []/\FnOk X.prog X.w X.K X.mg X.base pL 1 fi fd ps (spM X.K Cc ini np)
 blt:∀ x∈bltNames,X.mg x=qx
 tbs:∀ x aO,(x,aO)∈T.tb->∃ a,X.mg x=J (.ref a)/\zB X.K X.w a aO
 cns:∀ x ts,(x,ts)∈T.cn->∃ a,X.mg x=J (.ref a)/\uN X.K a ts
 sts:∀ x y,(x,y)∈T.st->∃ t,X.mg x=J (.str y t)
variable {C:Calls}
def Ctx.units(h:Ctx T C X):X.A.units+64<cLine:=let ⟨_,_,r,_⟩:=h.room;r.units
def Ctx.own(h:Ctx T C X):PassesOwn (model X.prog X.w) X.A X.env X.xe:=by rw[h.xe];exact PassesOwn.never
def Ctx.comp{scope:zw}(h:Ctx T C X)(hk:scope.kind=.function)(hy:lQ X scope Y):Ctx T C Y/\Y.env.scope=sK scope X.env.scope/\Y.N=X.N/\Y.K=X.K:=by let(aB,fp,Ca,s₀,H₀,U):=hy;exact((h.nd,h.calm,U,hk,h.room,h.mo,h.blt,h.tbs,h.cns,h.sts,),U,U,U,)
def gI(h:dH e=Z)(es:List qy)(env:Env):qo (e::es) env=(Ff,eval e env)::qo es env:=by cases e<;>first|rfl|exact no h
def wW:∀ {es:List qy} (h:mQ es=Z) (env:Env) (pos:Pos),(backTo pos (qo es env)).any (·.1)=Ff
 |[],_,_,_=>rfl
 |e::es,h,env,pos=>by
   let(h1,h2):=dN h;rw[gI h1];show(Ff||(backTo pos (qo es env)).any (·.1))=Ff;rw[wW h2 env pos];rfl
def aFx(h:dH e=Z):wZ e:=by intro o i;cases e<;>first|rfl|exact no h
def aBv(h:dH e=Z)(op:jv):xz op e=Ff:=by cases e<;>first|rfl|exact no h
def aDz(h:dH e=Z)(env:Env)(x:qj):xo e env x=pure x:=by cases e<;>first|rfl|exact no h
def pS(h:uG e=Z)(m:Str)(env:Env):attributeBase e m env (eval e env)=eval e env:=by cases e<;>first|rfl|exact no h
def wL(h:pW e=Z)(t:Option qy)(line:Nat)(env:Env):swapsWith e t line env=pure Ff:=by cases e<;>first|rfl|exact no h
def aWB(h:oW e=Z)(env:Env)(lE:Sem qj):isTrue e env lE=(do let v <- lE;standAt e.pos;holding [v] (truthy v)):=by cases e<;>first|rfl|exact no h
def aQJ(h:dH i=Z)(v:qj):assign (.Subscript o i pos) env v=(do
 let ov <- holding [v] (eval o env);let iv <- holding [v,ov] (eval i env)
 standAt pos
 holding [v,ov,iv] (setItem ov iv v)
 release [v,ov,iv] []):=by cases i<;>first|rfl|exact no h
def aL5(h:qT X.env.scope x=Z):Vis X.env.scope x:=by unfold qT at h;unfold Vis;split at h<;>first|exact .inl (by assumption)|exact .inr (.inl (by assumption))|exact .inr (.inr (by assumption))|exact no h
def aEL(h:loc X.env.scope x=Z):L2.Loc X.env.scope x:=by unfold loc at h;unfold L2.Loc;split at h<;>first|exact .inl (by assumption)|exact .inr (by assumption)|exact no h
def jU(h:gl X.env.scope x=Z):Gl X x:=(oqT h:X.env.scope.names.lookup x=J .globalImplicit)
def qY{x y:Str}(h:(!(x==y))=Z):(x==y)=Ff:=by simp_all
def aE4(b:Bool)(X:Cx):Prop:=b=Z\/∀ x,X.fn x=Z
def aJX(st:aE4 b X)(h:aES b X.N X.env.scope i x=Z):X.N[i]?=J x/\L2.Loc X.env.scope x/\(X.fn x=Z\/X.env.scope.names.lookup x=J .local):=by
 let(h1,h2):=dN h;cases b with
 |true=>
   let h3:=oqT h2;exact(oqT h1,.inl h3,.inr h3,)
 |false=>
   refine(oqT h1,aEL h2,?_,);rcases st with z|z
   .cases z
   .exact .inl (z x)
def aAp:G Nat->kI
 |[]=>aFH|i::is=>aFD (pX i) (aAp is)
def vQ(K:FrG):Tg->TG
 |.one i=>pX i|.many is=>aFT K ↑is (aAp is)
def aLe(K:FrG):∀ is:G Nat,GAs K is (aAp is)
 |[]=>aTv|_::is=>aSD (aLe K is)
def aCd(K:FrG)(t:Tg):GA K t (vQ K t):=by
 cases t with
 |one i=>exact aYe i|many is=>exact aTd (aLe K is)
section
variable {X:Cx}
def aJH{b:Bool}(st:aE4 b X)(nd:X.N.Nodup):∀ {is:G Nat}{es:List qy},aEn b X.N X.env.scope is es=Z->sP X es (aAp is)/\(zo es X.env).length=↑is/\(zo es X.env).findIdx? (·.1)=qx
 |[],[],_=>(aVf,U,U,)|[],_::_,h=>no h|_::_,[],h=>no h
 |i::is,e::r,h=>pB (P:=λ e=>sP X (e::r) (aAp (i::is))/\(zo (e::r) X.env).length=(i::is).length/\(zo (e::r) X.env).findIdx? (·.1)=qx) h λ x p h=>by
   let(a1,a2,a3):=aJX st (aL h);let(pg,hl2,hf):=aJH st nd (aR h);refine(aRR (aD4 nd a1 a2 a3) pg U,?_,?_,)
   .show((Ff,assign (.Name x p) X.env)::zo r X.env).length=_;rw[yAo,yAo,hl2]
   .show((Ff,assign (.Name x p) X.env)::zo r X.env).findIdx? (·.1)=qx;rw[List.findIdx?_cons,hf];rfl
end
def aCj(st:aE4 b X)(nd:X.N.Nodup)(hc:X.calm=Z)(h:aAx b X.N X.env.scope t tg=Z):PG X tg (vQ X.K t):=by
 cases t with
 |one i=>exact pB (P:=λ e=>PG X e (pX i)) h λ x p h=>let ⟨a1,a2,a3⟩:=aJX st h;aD4 nd a1 a2 a3|many is=>exact qI (P:=λ e=>PG X e (vQ X.K (.many is))) h λ es k p h=>let ⟨pg,hl2,hf⟩:=aJH st nd h;aXB hc pg hl2 hf
section
variable (T:Tx)(C:Calls)
def SE(c:E):Prop:=∀ X,Ctx T C X->∀ x,bS T X.N c X.env.scope x=Z->PE X x (bC X.K (ev C c))
def ST(c:E):Prop:=∀ X,Ctx T C X->∀ x,nK T X.N c X.env.scope x=Z->PT X x (gN X.K (tv C c))/\∀ op es p,x=.BoolOp op es p->PW X x (gN X.K (tv C c))
def SA(c:E):Prop:=∀ X,Ctx T C X->∀ x,jN T X.N c X.env.scope x=Z->PA X x (fA X.K (av C c))
def SO(c:E):Prop:=∀ X,Ctx T C X->∀ x,okO T X.N c X.env.scope x=Z->PO X x (nF X.K (ov C c))
def SL(c:E):Prop:=∀ X,Ctx T C X->∀ x,okL T X.N c X.env.scope x=Z->PE X x (kJ X.K (lv C c))
def SI(c:E):Prop:=∀ X,Ctx T C X->∀ tg x,okI T X.N c X.env.scope tg x=Z->PI X tg x (jM X.K (lv C c))
end
def aKF{f:FE}(h:∀ env S,f env S=qx):PE X x (bC X.K f):=λ aB s σ H Q I bB=>by
 let(F,L,S,env,w,S',R,E,e,q):=bB;rw[h] at e;cases e
def aY7{f:FE}(h:PE X x (bC X.K f))(ht:oW x=Z):PT X x (gN X.K (dR f))/\∀ op es p,x=.BoolOp op es p->PW X x (gN X.K (dR f)):=
 (aZ2 h λ lE=>aWB ht X.env lE,λ op es p e=>by subst e;exact no ht,)
def aLq(i:Nat):SE T C (.var i):=λ X hX x hx=>pB (P:=λ x=>PE X x _) hx λ y p h=>aZd (dT (aL (aL (aL h)))) (aL5 (aR (aL (aL h)))) (qY (aR (aL h))) (qY (aR h))
def aWq(i:Int):SE T C (.int i):=λ X hX x h=>aCg (P:=λ x=>PE X x _) h λ k p=>aZ8
def aNu(i:Bool):SE T C (.bl i):=λ X hX x h=>aCg (P:=λ x=>PE X x _) h λ k p=>bBO
def aVK:SE T C .non:=λ X hX x h=>aCg (P:=λ x=>PE X x _) h λ k p=>aYW
def aWH(i:Str):SE T C (.str i):=λ X hX x h=>aCg (P:=λ x=>PE X x _) h λ k p=>aZI
def aMg(ha:SE T C a)(hb:SE T C b):SE T C (.bin op a b):=λ X hX x hx=>aOb (P:=λ x=>PE X x _) hx λ l o r p h=>by
 obtain rfl:=dT (aL (aL h));exact bAW (ha X hX _ (aR (aL h))) (hb X hX _ (aR h))
def aZE(ha:SE T C a):SE T C (.un op a):=λ X hX x hx=>aFI (P:=λ x=>PE X x _) hx λ o r p h=>by
 obtain rfl:=dT (aL (aL h));exact bB0 (ha X hX _ (aR h))
def aXm(ha:SE T C a)(hb:SE T C b):SE T C (.cmp op a b):=λ X hX x hx=>aCh (P:=λ x=>PE X x _) hx λ l o r p h h4=>by
 obtain rfl:=dT (aL (aL h));exact aYI hX.units (ha X hX _ (aR (aL h))) (hb X hX _ (aR h)) (aBv h4 o)
def aFy{t:TT}(h:PT X x t)(n:x.ctorIdx≠0):PT X x t/\∀ op es p,x=.BoolOp op es p->PW X x t:=
 (h,λ op es p e=>absurd (congrArg Expr.ctorIdx e) n,)
def aYv(ha:SE T C a)(hb:SE T C b):ST T C (.cmp op a b):=λ X hX x hx=>aCh (P:=λ x=>PT X x _/\∀ op es p,x=.BoolOp op es p->PW X x _) hx λ l o r p h h4=>by
 obtain rfl:=dT (aL (aL h));exact aFy (aVL hX.units (ha X hX _ (aR (aL h))) (hb X hX _ (aR h)) (aBv h4 o)) (yHt 14)
def aX0:SE T C (.con n ts):=λ X hX x hx=>pB (P:=λ x=>PE X x _) hx λ y p h=>by
 obtain rfl:=dT (aL (aL (aL h)));exact bAs (jU (aR (aL h))) (qY (aR h)) (hX.cns _ _ (List.contains_iff_mem.mp (aR (aL (aL h)))))
def aW5(ha:SE T C a)(hb:SE T C b):SE T C (.and a b):=λ X hX x hx=>aB0 (P:=λ x=>PE X x _) hx
 (λ l r p h=>PE.weak (aLm (ha X hX _ (aL h)) (aLt (hb X hX _ (aR h)))) aMe) λ l b c r p h=>PE.weak (aLm (ha X hX _ (aL h)) (hb X hX _ (aR h))) aMe
def aZK(ha:SE T C a)(hb:SE T C b):SE T C (.or a b):=λ X hX x hx=>aB0 (P:=λ x=>PE X x _) hx
 (λ l r p h=>PE.weak (aNv (ha X hX _ (aL h)) (aLt (hb X hX _ (aR h)))) aMS) λ l b c r p h=>PE.weak (aNv (ha X hX _ (aL h)) (hb X hX _ (aR h))) aMS
def aLR{t:TT}(k:PW X x t):PT X x t/\∀ op es p,x=.BoolOp op es p->PW X x t:=(k.pt,λ _ _ _ _=>k,)
def aXD(ha:ST T C a)(hb:ST T C b):ST T C (.and a b):=λ X hX x hx=>aLR (aB0 (P:=λ x=>PW X x _) hx
 (λ l r p h=>PW.weak (aLu (ha X hX _ (aL h)).1 (aVc (hb X hX _ (aR h)).1)) aMC) λ l b c r p h=>PW.weak (aLu (ha X hX _ (aL h)).1 ((hb X hX _ (aR h)).2 _ _ _ U)) aMC)
def aZY(ha:ST T C a)(hb:ST T C b):ST T C (.or a b):=λ X hX x hx=>aLR (aB0 (P:=λ x=>PW X x _) hx
 (λ l r p h=>PW.weak (aMA (ha X hX _ (aL h)).1 (aX6 (hb X hX _ (aR h)).1)) aN9) λ l b c r p h=>PW.weak (aMA (ha X hX _ (aL h)).1 ((hb X hX _ (aR h)).2 _ _ _ U)) aN9)
def aXq(ha:SE T C a):SE T C (.not a):=λ X hX x hx=>aFI (P:=λ x=>PE X x _) hx λ o y p h=>by
 obtain rfl:=dT (aL h);exact aWa (ha X hX _ (aR h))
def aWo(ha:ST T C a):ST T C (.not a):=λ X hX x hx=>aFI (P:=λ x=>PT X x _/\∀ op es p,x=.BoolOp op es p->PW X x _) hx λ o y p h=>by
 obtain rfl:=dT (aL h);exact aFy (aZu (ha X hX _ (aR h)).1) (yHt 2)
def aXV(hc:ST T C c)(ha:SE T C a)(hb:SE T C b):SE T C (.ite c a b):=λ X hX x hx=>bB2 (P:=λ x=>PE X x _) hx λ x y z p h=>aZt (hc X hX _ (aL (aL h))).1 (ha X hX _ (aR (aL h))) (hb X hX _ (aR h))
def aWz(ha:SA T C a):SE T C (.tup a):=λ X hX x hx=>qI (P:=λ x=>PE X x _) hx λ xs k p h=>aZN (ha X hX _ h)
def aXC(ha:SA T C a):SL T C (.lst a):=λ X hX x hx=>aFM (P:=λ x=>PE X x _) hx λ xs p h=>aYS (ha X hX _ h)
def aWR:SA T C .nil:=λ X hX x h=>kT (P:=λ x=>PA X x _) h aFw
def aU9(ha:SE T C a)(hr:SA T C r):SA T C (.cons a r):=λ X hX x h=>by
 cases x with
 |nil=>exact no h|cons y ys=>exact mY (ha X hX _ (aL (aL h))) (hr X hX _ (aR h)) (gI (aR (aL h)) _ _)
def aYN:SO T C .no:=λ X hX x h=>aM4 (P:=λ x=>PO X x _) h bA6
def aS9(ha:SE T C a):SO T C (.cons a r):=λ X hX x h=>bBm (P:=λ r=>PO X x (nF X.K (ov C (.cons a r)))) (aL h) (aNd (P:=λ x=>PO X x _) (aR h) λ y h=>aXU (ha X hX _ h))
def aNh(ha:SE T C a)(hb:SE T C b):SE T C (.ix a b):=λ X hX x hx=>aAB (P:=λ x=>PE X x _) hx λ l r p h h3=>bBx (ha X hX _ (aL h)) (hb X hX _ (aR h)) (aFx h3)
def aWO(hk:SE T C k):SE T C (.tab n aO k):=λ X hX x hx=>aAB (P:=λ x=>PE X x _) hx λ y z p g h6=>pB (P:=λ y=>PE X (.Subscript y z p) _) (aR g) λ u q h=>by
 obtain rfl:=dT (aL (aL (aL h)));exact aZW (jU (aR (aL h))) (qY (aR h)) (hX.tbs _ _ (List.contains_iff_mem.mp (aR (aL (aL h))))) (hk X hX _ (aL g)) (aFx h6)
def aZg{lo hi:E}(ha:SE T C a)(hl:SO T C lo)(hh:SO T C hi):SE T C (.sl a lo hi):=λ X hX x hx=>aZO (P:=λ x=>PE X x _) hx λ y l u p q h=>bB3 (ha X hX _ (aL (aL h))) (hl X hX _ (aR (aL h))) (hh X hX _ (aR h))
def aTM(h:jN T N a sc []=Z):a=.nil:=by cases a<;>first|rfl|exact no h
def aQx{call:G W->aD->Oz (W×aD)}{fs:FA}(h:C f=J (np,call)):mW C f fs=aCn fs np call:=by funext env S;unfold mW;rw[h]
def aJV(ha:SA T C a):SE T C (.call f a):=λ X hX x hx=>uD (P:=λ x=>PE X x _) hx λ y p zs q h=>by
 cases hC:C f with
 |none=>exact aKF λ env S=>by show mW C f (av C a) env S=qx;unfold mW;rw[hC]
 |some nc=>
   let(k,_,rm,fs,_):=hX.room;let(fa,fd,ps,m1,m2,m3,m4):=fs f nc.1 nc.2 y hC (aL (aL (aL (aL h))));let hw:∀ σ H Q,bC X.K (ev C (.call f a)) σ H Q->aCb (qO X.K nc.1 nc.2) [] E0 (fA X.K (av C a)) σ H Q:=λ σ H Q hq=>aWE σ H Q (aQx (fs:=av C a) hC▸hq)
   let h2:=jU (aR (aL (aL (aL h))));let h3:=qY (aR (aL (aL h)));cases zs with
   |nil=>
     refine PE.weak (aRS m4 rm h2 m1 m2 m3 .nil aCu h3) λ σ H Q hq=>?_
     let(F,L,S,env,ws,S',R,E,e,q2):=hw σ H Q hq;cases aTM (aR (aL h));cases e;exact q2 F L H [] Gr.refl R .nil
   |cons z zr=>exact PE.weak (aUR m4 rm h2 m1 m2 m3 .nil aCu (ha X hX _ (aR (aL h))) h3 (gI (aL (aR h)) _ _) (wW (aR (aR h)) _ _)) hw
def aLH(ha:SA T C a):SE T C (.blt b a):=λ X hX x hx=>uD (P:=λ x=>PE X x _) hx λ y p zs q h=>by
 obtain rfl:=dT (aR (aL (aL (aL h))));cases zs with
 |nil=>exact no (aL (aL (aL (aL h))))
 |cons z zr=>
 let A:=ha X hX _ (aR (aL h));let G:=jU (aR (aL (aL h)));let s1:=gI (aL (aR h)) zr X.env;let s2:=wW (aR (aR h)) X.env q;cases b with
 |len=>exact PE.weak (wT aZa G (hX.blt _ (·)) (by decide +kernel) A (·) (·) s1 s2) rT|mx=>exact PE.weak (wT (bA4 hX.calm) G (hX.blt _ (·)) (by decide +kernel) A (·) (·) s1 s2) rT|mn=>exact PE.weak (wT (bAT hX.calm) G (hX.blt _ (·)) (by decide +kernel) A (·) (·) s1 s2) rT|all=>exact PE.weak (wT (bA2 hX.calm) G (hX.blt _ (·)) (by decide +kernel) A (·) (·) s1 s2) rT|any=>exact PE.weak (wT (aYM hX.calm) G (hX.blt _ (·)) (by decide +kernel) A (·) (·) s1 s2) rT|int=>exact PE.weak (aIx bAZ G (hX.blt _ (·)) (by decide +kernel) A (·) (·) s1 s2) rT|tup=>exact PE.weak (aIx aT7 G (hX.blt _ (·)) (by decide +kernel) A (·) (·) s1 s2) rT
def aUN(ha:SE T C a):SE T C (.bits a):=λ X hX x hx=>aCS (P:=λ x=>PE X x _) hx λ o ap xs cp h4 h3 h=>kT (P:=λ xs=>PE X (.Call (.Attribute o "bit_length" ap) xs [] cp) _) (aR h) (by
 refine PE.weak (aYb PySem.F.plainAttrs_int yGt PySem.F.type_int_bit_length aTO (ha X hX _ (aL h)) (pS h3 _ _) h4) λ σ H Q hPq52=>?_
 let(F,L,S,env,w,S',R,E,e,q):=hPq52;let((w1,S1),e1,e2):=aS e;let(d,z,e3,e4,U,U):=aDT e2;refine(F,L,S,env,w1,_,R,E,e1,λ F1 L1 H1 v g1 R1 d1=>?_,);let nw:=mZ R1 d1 e3;cases d<;>first|(cases e4;done)|skip
 cases e4;obtain rfl:=nw.int;exact(U,_,U,U,q F1 L1 H1 _ g1 R1 (Den.int _),))
def iR(h:dH z=Z):qo [z] X.env=(Ff,eval z X.env)::qo [] X.env:=gI h [] X.env
def pH(ha:SE T C a)(hX:Ctx T C X)(h:bS T X.N a X.env.scope z=Z)(hp:dH z=Z):PA X [z] (fA X.K (dD (ev C a) iJ)):=mY (ha X hX _ h) aFw (iR hp)
def aWf(ho:SE T C o)(ha:SE T C a):SE T C (.app o a):=λ X hX x hx=>aMI (P:=λ x=>PE X x _) hx λ y ap z cp h4 h3 h2 h5 h6=>
 PE.weak (aFt yFy PySem.F.slot_list_append PySem.F.type_list_append aIP (ho X hX _ h2) (pH ha hX h5 h6) (pS h3 _ _) (by rw[iR h6];rfl) h4 (iR h6) U) yZ
def aWY(ho:SE T C o)(ha:SE T C a):SE T C (.idx o a):=λ X hX x hx=>aMI (P:=λ x=>PE X x _) hx λ y ap z cp h4 h3 h2 h5 h6=>
 PE.weak (aFt yFy PySem.F.slot_list_index PySem.F.type_list_index aSu (ho X hX _ h2) (pH ha hX h5 h6) (pS h3 _ _) (by rw[iR h6];rfl) h4 (iR h6) U) bAX
def aTg(ha:SE T C a)(hb:SE T C b):SL T C (.lzip a b):=λ X hX x hx=>aFS (P:=λ x=>PE X x _) hx λ p y q h2 h3 _=>aF2 (P:=λ y=>PE X (.Call (.Name "list" p) [y] [] q) _) h3 λ p' z w q' h4 h5 h6 h7 h8=>
 aXv (ha X hX _ h5) (hb X hX _ h7) hX.calm (jU h2) (hX.blt _ (·)) (jU h4) (hX.blt _ (·)) (gI h6 [w] X.env) (iR h8)
def aVi(ha:SE T C a)(hb:SE T C b):SL T C (.lrep a b):=λ X hX x hx=>aOb (P:=λ x=>PE X x _) hx λ l o r p h=>by
 obtain rfl:=dT (aL (aL h));exact aYV (ha X hX _ (aR (aL h))) (hb X hX _ (aR h))
def bAR(ha:SE T C a):SI T C (.it a):=λ X hX tg x h=>bBe (ha X hX _ h)
def aUO(ha:SE T C a):SI T C (.rng1 a):=λ X hX tg x hx=>aFS (P:=λ x=>PI X tg x _) hx λ p z q h2 h3 h4=>
 PI.weak (aQV (jU h2) (hX.blt _ (·)) (pH ha hX h3 h4) (iR h4)) aWh
def aUh(ha:SE T C a)(hb:SE T C b)(hc:SE T C c):SI T C (.rng3 a b c):=λ X hX tg x hx=>aNT (P:=λ x=>PI X tg x _) hx λ p z w v q h2 h3 h4 h5 h6 h7 h8=>by
 let st:=gI h4 [w,v] X.env;let st2:=gI h6 [v] X.env;exact PI.weak (aRi (jU h2) (hX.blt _ (·)) (mY (ha X hX _ h3) (mY (hb X hX _ h5) (pH hc hX h7 h8) st2) st) st (by rw[st2,iR h8];rfl)) aXJ
def aVm(ha:SE T C a)(hb:SE T C b):SI T C (.rng2 a b):=λ X hX tg x hx=>aF2 (P:=λ x=>PI X tg x _) hx λ p z z2 q h2 h3 h4 h5 h6=>by
 let st:=gI h4 [z2] X.env;exact PI.weak (aQz (jU h2) (hX.blt _ (·)) (mY (ha X hX _ h3) (pH hb hX h5 h6) st) (by rw[st,iR h6];rfl) (iR h6)) aXr
def aVN(ha:SE T C a):SI T C (.enm a):=λ X hX tg x hx=>qI (P:=λ tg=>PI X tg x _) (aL hx) λ ts k tp _=>aFS (P:=λ x=>PI X _ x _) (aR hx) λ p z q h2 h3 h4=>
 PI.weak (aSB (jU h2) (hX.blt _ (·)) (pH ha hX h3 h4) (iR h4)) aUv
def aYi(ha:SE T C a)(hb:SE T C b):SI T C (.zip a b):=λ X hX tg x hx=>qI (P:=λ tg=>PI X tg x _) (aL hx) λ ts k tp _=>aF2 (P:=λ x=>PI X _ x _) (aR hx) λ p z z2 q h2 h3 h4 h5 h6=>
 PI.weak (aX9 (jU h2) (hX.blt _ (·)) (mY (ha X hX _ h3) (pH hb hX h5 h6) (gI h4 [z2] X.env)) (gI h4 [z2] X.env) (iR h6)) bAB
def aVl(ha:SE T C a)(hb:SE T C b)(hc:SE T C c):SI T C (.zip3 a b c):=λ X hX tg x hx=>qI (P:=λ tg=>PI X tg x _) (aL hx) λ ts k tp _=>aNT (P:=λ x=>PI X _ x _) (aR hx) λ p z z2 z3 q h2 h3 h4 h5 h6 h7 h8=>
 PI.weak (aVk (jU h2) (hX.blt _ (·)) (mY (ha X hX _ h3) (mY (hb X hX _ h5) (pH hc hX h7 h8) (gI h6 [z3] X.env)) (gI h4 [z2,z3] X.env)) (gI h4 [z2,z3] X.env) (gI h6 [z3] X.env) (iR h8)) aYw
def or2(h:(a||b)=Z)(n:a=Ff):b=Z:=by rw[n] at h;exact h
def aKV(h:aFs scope osc=Z):ScOk scope osc:=by
 let h2:=List.all_eq_true.mp (aR h);refine(dT (aL h),λ x hx e=>?_,λ x hx e=>?_,λ x hx e=>?_,)
 .have:=h2 x hx;simp[e] at this
 .have:=h2 x hx;simp[e] at this;exact this
 .have:=h2 x hx;simp[e] at this;exact this
def aFd:∀ {n:Nat},aCP N scope is n=Z->∀ i,i<n->∀ x,N[i]?=J x->scope.names.lookup x=J .local->i∈is
 |0,_,i,hi,_,_,_=>absurd hi (yCy i)
 |n+1,h,i,hi,x,e,el=>by
   rcases Nat.lt_succ_iff_lt_or_eq.mp hi with z|z
   .exact aFd (aL h) i z x e el
   .subst z;let h2:=aR h;rw[e] at h2;exact List.contains_iff_mem.mp (or2 h2 (by rw[el];rfl))
def aUq{cond:E}(he:SE T C elt)(hi:SI T C it)(hc:ST T C cond):SL T C (.comp elt t it cond):=λ X hX x hx=>aOc (P:=λ x=>PE X x _) hx λ e tg iter ifs scope p h1 h2 h3 h4 h5 h6 h7=>by
 let sok:=aKV h1;refine aLD (g:=vQ X.K t) hX.calm sok (λ i x a1 a2=>aFd h2 i (gIm a1).1 x a1 a2) (hi X hX tg iter h4) (λ Y hY=>?_) (aCd X.K t) (λ Y hY=>?_) (λ Y hY=>?_) (aDz h5 X.env)
 .let(c1,c2,c3,c4):=hX.comp sok.kind hY;rw[<- c4];exact aCj (.inl U) c1.nd c1.calm (by rw[c2,c3];exact h3)
 .let(c1,c2,c3,c4):=hX.comp sok.kind hY;cases ifs with|nil=>exact aNJ (P:=λ cond=>nY Y [] (tv C cond)) h6 aIi|cons y r=>exact kT (P:=λ r=>nY Y (y::r) _) (aL h6) (aIm (hc Y c1 y (by rw[c2,c3];exact aR h6)).1)
 .let(c1,c2,c3,c4):=hX.comp sok.kind hY;rw[<- c4];exact he Y c1 e (by rw[c2,c3];exact h7)
def bAy(ha:SL T C a):SE T C (.fz a):=λ X hX x h=>aOn (ha X hX x h)
def aX2(ha:SL T C a):SE T C (.new a):=λ X hX x h=>aZx (ha X hX x h)
def Ctx.hu(hX:Ctx T C X):X.A.units+1<cLine:=xAi (yDt (by decide:1<=64) _) hX.units
def aJm:∀ {es:List qy} (_:mQ es=Z) (env:Env) (pos:Pos),(backTo pos (qo es env)).all (λ x=>!x.1)=Z
 |[],_,_,_=>rfl
 |e::es,h,env,pos=>by
   let(h1,h2):=dN h;rw[gI h1];show(Z&&(backTo pos (qo es env)).all (λ x=>!x.1))=Z;rw[aJm h2 env pos];rfl
def bAe{o:qy}{args:List qy}(h:uG o=Z)(ha:mQ args=Z)(hl:args.length<30)(m:Str)(apos pos:Pos)(hp:(apos.endLine==pos.line)=Z)(env:Env):∃ pl:Sem Bool,eval (.Call (.Attribute o m apos) args [] pos) env=(do
 let ov <- eval o env
 standAt apos.atName
 let (f,first) <- holding [ov] (getMethod ov m pl)
 callWith pos f first (backTo pos (qo args env)) (backToKw pos (keywordEach [] env))):=by
 let hf:methodCallForm (args.length+([]:G Keyword).length) (backTo pos (qo args env)) (backToKw pos (keywordEach [] env))=Z:=by
  unfold methodCallForm;rw[aJm ha env pos];show(Z&&Z&&decide (args.length+0+0<30))=Z;rw[dqT (show args.length+0+0<30 from hl)];rfl
 refine(?_,?_,)
 rotate_left
 .rw[arm_eval_Call,pS h];unfold methodCall methodCallPos;rw[hf];simp only[Bool.not_true,yHq,hp,if_true,pure_bind];rfl
def aWi(ha:SE T C a):SE T C (.fld a f):=λ X hX x hx=>aF3 (P:=λ x=>PE X x _) hx λ o g p h=>by
 obtain rfl:=dT (aL (aL (aL h)));let(m,e1,e2):=any_some (aR (aL h));let(p1,hp,e3):=List.any_eq_true.mp e2;let(Cc,fi,fd,ps,h1,h2,h3,h4,h5,h6,h7):=hX.mo m.1 m.2 e1;exact aZX (ha X hX _ (aR h)) (pS (aR (aL (aL h))) _ _) h1 h2 (dT e3▸h4 p1 hp)
def aSR{call:G W->aD->Oz (W×aD)}{fo:FE}{fs:FA}(h:C f=J (np,call)):rR C m f fo fs=aCH m fo fs np call:=by funext env S;unfold rR;rw[h]
def aXL(ho:SE T C o)(ha:SA T C es):SE T C (.mth m f o es):=λ X hX x hx=>aCS (P:=λ x=>PE X x _) hx λ y ap zs cp h1 h2 h=>by
 cases hC:C f with
 |none=>exact aKF λ env S=>by show rR C m f (ev C o) (av C es) env S=qx;unfold rR;rw[hC]
 |some nc=>
   let(k,_,rm,_,fs):=hX.room;let(Cc,fa,fd,ps,m1,m2,m3,m4,m5):=fs m f nc.1 nc.2 hC (dT (aL (aL (aL (aL (aL h))))));let h3:=aR (aL (aL h));cases zs with
   |nil=>exact no (aR (aL h))
   |cons z zr=>
     let(pl,ht):=bAe h2 h3 (dT (aR h)) m ap cp h1 X.env;exact PE.weak (aVj (pl:=pl) (ho X hX _ (aR (aL (aL (aL (aL h)))))) m2 m3 m5 rm m4 .nil aCu (ha X hX _ (aR (aL (aL (aL h))))) (gI (aL h3) _ _) (wW (aR h3) _ _) ht) λ σ H Q hq=>aXH m1 σ H Q (aSR (fo:=ev C o) (fs:=av C es) hC▸hq)
def aYX(ha:SA T C es):SE T C (.mk ini np es):=λ X hX x hx=>uD (P:=λ x=>PE X x _) hx λ y p zs q h=>by
 let(Cc,fi,fd,ps,h1,h2,h3,h4,h5,h6,h7):=hX.mo ini np (dT (aL (aL (aL (aL (aL h))))));let(k,hk,rm,_,_):=hX.room;obtain rfl:=dT (aR (aL (aL (aL (aL h)))));let h8:=aR (aL h);cases zs with
 |nil=>exact no (aR h)|cons z zr=>exact PE.weak (aVg h5 h7 (rm.mono hk) (jU (aR (aL (aL (aL h))))) h3 h6 .nil aCu (ha X hX _ (aR (aL (aL h)))) (·) (gI (aL h8) _ _) (wW (aR h8) _ _)) λ σ H Q hq=>aW3 h1 σ H Q hq
def aWL(ha:SA T C es):SE T C (.tpl es):=λ X hX x hx=>qI (P:=λ x=>PE X x _) hx λ xs k p h=>aZH (ha X hX _ h)
def aYr(ha:SE T C a)(hb:SE T C b):SE T C (.din n a b):=λ X hX x hx=>aCh (P:=λ x=>PE X x _) hx λ l o r p h h4=>by
 obtain rfl:=dT (aL (aL h));exact aVO (aMR hX.hu (ha X hX _ (aR (aL h))) (hb X hX _ (aR h))) (aBv h4 _)
def aW4(ha:SE T C a)(hb:SE T C b):ST T C (.din n a b):=λ X hX x hx=>aCh (P:=λ x=>PT X x _/\∀ op es p,x=.BoolOp op es p->PW X x _) hx λ l o r p h h4=>by
 obtain rfl:=dT (aL (aL h));refine aFy (PT.weak (aXh (aMR hX.hu (ha X hX _ (aR (aL h))) (hb X hX _ (aR h))) (aBv h4 _)) λ σ H Q hPq53=>?_) (yHt 14);let(F,L,S,env,b1,S',R,E,e,q):=hPq53;let(w,d,e1,e2,e3):=aDA e;refine(F,L,S,env,w,S',R,E,e1,λ F1 L1 H1 v g1 R1 d1=>?_,);let hc:∃ c,w=.d (Bz c):=by
  let(p,ea,e1):=aS e1;let(p2,eb,e1):=aS e1;let(_,_,e1):=aBz e1;let(_,_,e1):=aBF e1;let(k,e4,e1):=aS e1;let(es,e5,e6):=map_some e1;cases e6;exact(_,U,)
 let(c,U):=hc;cases e2;cases e3;cases (show Den X.K F1 (.bool b1) v from d1);exact(_,U,q F1 L1 H1 g1 R1,)
def aTG(ha:SE T C a)(hb:SE T C b):SE T C (.dget a b):=λ X hX x hx=>aAB (P:=λ x=>PE X x _) hx λ l r p h h3=>aXA hX.hu (ha X hX _ (aL h)) (hb X hX _ (aR h)) (aFx h3)
def aV9(hs:SA T C es)(ha:SE T C a):SE T C (.cou b es a):=λ X hX x hx=>aCS (P:=λ x=>PE X x _) hx λ o ap xs cp h1 h2 z=>jV (P:=λ xs=>PE X (.Call (.Attribute o "count" ap) xs [] cp) _) (aR z) λ y u=>by
 cases b with
 |false=>exact qI (P:=λ o=>PE X (.Call (.Attribute o "count" ap) [y] [] cp) _) (aL z) λ xs k tp h=>aXX (hs X hX _ h) (ha X hX _ (aL u)) h1 (iR (aR u))|true=>exact aFM (P:=λ o=>PE X (.Call (.Attribute o "count" ap) [y] [] cp) _) (aL z) λ xs tp h=>PE.weak (aFt yFy PySem.F.slot_list_count PySem.F.type_list_count aR8 (aE6 (hs X hX _ h)) (pH ha hX (aL u) (aR u)) U (by rw[iR (aR u)];rfl) h1 (iR (aR u)) U) aXc
def uU(h:SE T C c)(ht:tv C c=dR (ev C c))(hk:∀ N sc x,nK T N c sc x=(bS T N c sc x&&oW x)):ST T C c:=λ X hX x q=>by
 rw[hk] at q;rw[ht];exact aY7 (h X hX x (aL q)) (aR q)
structure Sn(T:Tx)(C:Calls)(c:E):Prop where
 e:SE T C c:=by exact λ _ _ _ h=>no h
 t:ST T C c:=by exact λ _ _ _ h=>no h
 a:SA T C c:=by exact λ _ _ _ h=>no h
 o:SO T C c:=by exact λ _ _ _ h=>no h
 l:SL T C c:=by exact λ _ _ _ h=>no h
 i:SI T C c:=by exact λ _ _ _ _ h=>no h
def sn(c:E):Sn T C c:=by
 induction c with
 |var i=>exact {e:=aLq i,t:=uU (aLq i) U λ _ _ _=>rfl }|int i=>exact {e:=aWq i }|bl b=>exact {e:=aNu b,t:=uU (aNu b) U λ _ _ _=>rfl }|non=>exact {e:=aVK }|str x=>exact {e:=aWH x }|bin op a b bQ cX=>exact {e:=aMg bQ.e cX.e,t:=uU (aMg bQ.e cX.e) U λ _ _ _=>rfl }|un op a bQ=>exact {e:=aZE bQ.e }|cmp op a b bQ cX=>exact {e:=aXm bQ.e cX.e,t:=aYv bQ.e cX.e }|and a b bQ cX=>exact {e:=aW5 bQ.e cX.e,t:=aXD bQ.t cX.t }|or a b bQ cX=>exact {e:=aZK bQ.e cX.e,t:=aZY bQ.t cX.t }|not a bQ=>exact {e:=aXq bQ.e,t:=aWo bQ.t }|ite c a b ihc bQ cX=>exact {e:=aXV ihc.t bQ.e cX.e }|tup a bQ=>exact {e:=aWz bQ.a }|lst a bQ=>exact {l:=aXC bQ.a }|nil=>exact {a:=aWR }|cons a r bQ ihr=>exact {a:=aU9 bQ.e ihr.a,o:=aS9 bQ.e }|con x ts=>exact {e:=aX0 }|ix a b bQ cX=>exact {e:=aNh bQ.e cX.e,t:=uU (aNh bQ.e cX.e) U λ _ _ _=>rfl }|tab x aO k ihk=>exact {e:=aWO ihk.e }|sl a lo hi bQ ihlo ihhi=>exact {e:=aZg bQ.e ihlo.o ihhi.o }|no=>exact {o:=aYN }|call f a bQ=>exact {e:=aJV bQ.a,t:=uU (aJV bQ.a) U λ _ _ _=>rfl }|blt b a bQ=>exact {e:=aLH bQ.a,t:=uU (aLH bQ.a) U λ _ _ _=>rfl }|bits a bQ=>exact {e:=aUN bQ.e }|app o a iho bQ=>exact {e:=aWf iho.e bQ.e }|idx o a iho bQ=>exact {e:=aWY iho.e bQ.e }|lzip a b bQ cX=>exact {l:=aTg bQ.e cX.e }|lrep a b bQ cX=>exact {l:=aVi bQ.e cX.e }|comp elt t it cond ihelt ihit ihcond=>exact {l:=aUq ihelt.e ihit.i ihcond.t }|it a bQ=>exact {i:=bAR bQ.e }|rng1 a bQ=>exact {i:=aUO bQ.e }|rng2 a b bQ cX=>exact {i:=aVm bQ.e cX.e }|rng3 a b c bQ cX ihc=>exact {i:=aUh bQ.e cX.e ihc.e }|enm a bQ=>exact {i:=aVN bQ.e }|zip a b bQ cX=>exact {i:=aYi bQ.e cX.e }|zip3 a b c bQ cX ihc=>exact {i:=aVl bQ.e cX.e ihc.e }|fz a bQ=>exact {e:=bAy bQ.l }|new a bQ=>exact {e:=aX2 bQ.l }|fld a f bQ=>exact {e:=aWi bQ.e }|mth m f o es iho ihes=>exact {e:=aXL iho.e ihes.a }|mk ini np es ihes=>exact {e:=aYX ihes.a }|tpl es ihes=>exact {e:=aWL ihes.a }|din n k d ihk ihd=>exact {e:=aYr ihk.e ihd.e,t:=aW4 ihk.e ihd.e }|dget d k ihd ihk=>exact {e:=aTG ihd.e ihk.e }|cou b es a ihes bQ=>exact {e:=aV9 ihes.a bQ.e }
section
variable (T:Tx)(C:Calls)
def SS(c:Sx):Prop:=∀ X,Ctx T C X->(∀ x,X.fn x=Z)->∀ st,okS T X.N c X.env.scope st=Z->PS X st (eI X.K (xs C c))
def qW(c:Sx):Prop:=∀ X,Ctx T C X->(∀ x,X.fn x=Z)->∀ st,qK T X.N c X.env.scope st=Z->eG X st (eI X.K (xs C c))
end
def aLa(h:pW e=Z)(line:Nat)(env:Env):swapsWithSole [t] e line env=pure Ff:=wL h _ _ _
def aPO(h:uV e=Ff):yv [.Tuple ts k p] e env=pure qx:=by cases e<;>first|rfl|exact no h.symm
def aPo:yv [.Subscript o i p] e env=pure qx:=by cases e<;>rfl
def aV6(ha:SS T C a)(hb:qW T C b):qW T C (.seq a b):=λ X hX hf st h=>by
 cases st with
 |nil=>exact no h
 |cons s r=>
   let(h1,h2):=dN h;exact bAA (ha X hX hf _ h1) (hb X hX hf _ h2)
def aVq:qW T C .skip:=λ X hX hf st h=>kT (P:=λ st=>eG X st _) h aYf
def aYA:SS T C .nev:=λ X hX hf st h aB s σ H D I t=>by
 let(F,L,S,env,fl,S',R,E,e,q):=lJ t;cases e
def aTU:SS T C (.expr e):=λ X hX hf st h=>bBW (P:=λ st=>PS X st _) h λ x p h=>aYt ((sn e).e X hX _ (aL h)) (wL (aR h) _ _ _)
def aVW:SS T C (.ret e):=λ X hX hf st h=>bBX (P:=λ st=>PS X st _) h λ _ p h=>aNd (P:=λ v=>PS X (.Return v p) _) h λ x h=>aY9 ((sn e).e X hX _ h)
def aYo(ha:qW T C a)(hb:qW T C b):SS T C (.ifs c a b):=λ X hX hf st h=>bBq (P:=λ st=>PS X st _) h λ x y z p h=>bB6 ((sn c).t X hX _ (aL (aL h))).1 (ha X hX hf _ (aR (aL h))) (hb X hX hf _ (aR h))
def aYg:SS T C (.set i e):=λ X hX hf st h=>vI (P:=λ st=>PS X st _) h λ _ y p h=>jV (P:=λ ts=>PS X (.Assign ts y p) _) (aR h) λ _ g=>pB (P:=λ t=>PS X (.Assign [t] y p) _) g λ x q g=>
 aMO hX.nd (dT (aL g)) (aEL (aR g)) ((sn e).e X hX _ (aL (aL h))) (wL (aR (aL h)) _ _ _) (.inl (hf _))
def bBA{f:FL}(σ:St)(H:Hp)(Q:VK)(h:bC K (mK f) σ H Q):kJ K f σ H Q:=by let(F,L,S,env,w,S',R,E,e,q):=h;let((ds,S1),e1,e2):=aS e;cases e2;exact(F,L,S,env,ds,_,R,E,e1,λ F1 L1 H1 p xs g1 R1 hF hL hH dl=>q _ L1 _ _ (g1.trans (Gr.new hF)) (R1.adopt hF hL hH) (Den.lst (cE.of cU) (dl.mono (fM hF))),)
def aFA{f:FL}(σ:St)(H:Hp)(Q:VK)(h:bC K (oV f) σ H Q):kJ K f σ H Q:=by let(F,L,S,env,w,S',R,E,e,q):=h;let((ds,S1),e1,e2):=aS e;cases e2;refine(F,L,S,env,ds,_,R,E,e1,λ F1 L1 H1 p xs g1 R1 hF hL hH dl=>q _ _ _ _ (g1.trans Gr.newLoc) (R1.adoptLoc hF hL hH dl) (p,?_,U,),);dsimp only;rw[<- R1.len,yAh (yAd _)];simp
def bBf{f:FL}(nw:Bool):∀ (σ:St) (H:Hp) (Q:VK),bC K (match nw with|true=>oV f|false=>mK f) σ H Q->kJ K f σ H Q:=by
 cases nw
 .exact bBA
 .exact aFA
def aTP:SS T C (.setC nw i e):=λ X hX hf st h=>vI (P:=λ st=>PS X st _) h λ _ y p h=>jV (P:=λ ts=>PS X (.Assign ts y p) _) (aR h) λ _ g=>pB (P:=λ t=>PS X (.Assign [t] y p) _) g λ x q g=>by
 refine bBb (P:=λ e=>okL T X.N e X.env.scope y=Z->PS X (.Assign [.Name x q] y p) (eI X.K (xs C (.setC nw i e)))) (aL (aL h)) (λ elt t it cond hL=>aOc (P:=λ y=>PS X (.Assign [.Name x q] y p) (eI X.K (xs C (.setC nw i (.comp elt t it cond))))) hL λ e tg iter ifs scope r h1 h2 h3 h4 h5 h6 h7=>?_) (aR (aL h));let sok:=aKV h1;refine aQY (g:=vQ X.K t) hX.nd (dT (aL g)) (aEL (aR g)) (.inl (hf _)) hX.calm sok (λ i x a1 a2=>aFd h2 i (gIm a1).1 x a1 a2) ((sn it).i X hX tg iter h4) (λ Y hY=>?_) (aCd X.K t) (λ Y hY=>?_) (λ Y hY=>?_) (aDz h5 X.env) (bBf nw)
 .let(c1,c2,c3,c4):=hX.comp sok.kind hY;rw[<- c4];exact aCj (.inl U) c1.nd c1.calm (by rw[c2,c3];exact h3)
 .let(c1,c2,c3,c4):=hX.comp sok.kind hY;cases ifs with|nil=>exact aNJ (P:=λ cond=>nY Y [] (tv C cond)) h6 aIi|cons y r=>exact kT (P:=λ r=>nY Y (y::r) _) (aL h6) (aIm ((sn cond).t Y c1 y (by rw[c2,c3];exact aR h6)).1)
 .let(c1,c2,c3,c4):=hX.comp sok.kind hY;rw[<- c4];exact(sn elt).e Y c1 e (by rw[c2,c3];exact h7)
def aF1(h:(!b)=Z):b=Ff:=by grind
def aVb:SS T C (.setT t e):=λ X hX hf st h=>vI (P:=λ st=>PS X st _) h λ _ v p h=>jV (P:=λ ts=>PS X (.Assign ts v p) _) (aR h) λ tg g=>by
 let h1:=aCj (.inr hf) hX.nd hX.calm (aR g);revert h1;exact qI (P:=λ tg=>PG X tg (vQ X.K t)->PS X (.Assign [tg] v p) (eI X.K (xs C (.setT t e)))) (aL g) λ ts k q _ h1=>PS.weak (aLV ((sn e).e X hX _ (aL (aL (aL h)))) h1 (aLa (aR (aL (aL h))) _ _) (aPO (aF1 (aR (aL h)))) U) (aYH (aCd X.K t))
def aXP:SS T C (.put o i e):=λ X hX hf st h=>vI (P:=λ st=>PS X st _) h λ _ z p h=>jV (P:=λ ts=>PS X (.Assign ts z p) _) (aR h) λ _ g=>aAB (P:=λ t=>PS X (.Assign [t] z p) _) g λ x y q g h3=>
 aZn ((sn o).e X hX _ (aL g)) ((sn i).e X hX _ (aR g)) ((sn e).e X hX _ (aL (aL h))) (aQJ h3) (aLa (aR (aL h)) _ _) aPo
def aUf:SS T C (.dput o i e):=λ X hX hf st h=>vI (P:=λ st=>PS X st _) h λ _ z p h=>jV (P:=λ ts=>PS X (.Assign ts z p) _) (aR h) λ _ g=>aAB (P:=λ t=>PS X (.Assign [t] z p) _) g λ x y q g h3=>
 aWT hX.hu ((sn o).e X hX _ (aL g)) ((sn i).e X hX _ (aR g)) ((sn e).e X hX _ (aL (aL h))) (wL (aR (aL h)) _ _ _)
def aTY(hb:qW T C b):SS T C (.loop t it b):=λ X hX hf st h=>bBo (P:=λ st=>PS X st _) h λ tg x y z p h=>kT (P:=λ z=>PS X (.For tg x y z p) _) (aL (aL (aL (aL h))))
 (aZU hX.own hX.calm ((sn it).i X hX _ _ (aR (aL (aL h)))) (aCj (.inr hf) hX.nd hX.calm (aR (aL (aL (aL h))))) (aCd X.K t) (hb X hX hf _ (aR h)) (aDz (aR (aL h)) X.env))
def ss{C:Calls}(c:Sx):SS T C c/\qW T C c:=by
 let N2:∀ {c:Sx},SS T C c->(∀ N sc st,qK T N c sc st=Ff)->SS T C c/\qW T C c:=λ q hh=>(q,λ X hX hf st h=>by rw[hh] at h;exact no h,)
 induction c with
 |skip=>exact(λ X hX hf st h=>no h,aVq,)|seq a b bQ cX=>exact(λ X hX hf st h=>no h,aV6 bQ.1 cX.2,)|expr e=>exact N2 aTU λ _ _ _=>rfl|ret e=>exact N2 aVW λ _ _ _=>rfl|nev=>exact N2 aYA λ _ _ _=>rfl|ifs c a b bQ cX=>exact N2 (aYo bQ.2 cX.2) λ _ _ _=>rfl|set i e=>exact N2 aYg λ _ _ _=>rfl|setC nw i e=>exact N2 aTP λ _ _ _=>rfl|setT t e=>exact N2 aVb λ _ _ _=>rfl|put o i e=>exact N2 aXP λ _ _ _=>rfl|dput o i e=>exact N2 aUf λ _ _ _=>rfl|loop t it b cX=>exact N2 (aTY cX.2) λ _ _ _=>rfl
structure Fn where
 name:Str
 np:Nat
 N:List Str
 body:Sx
 st:xk
 me:Bool:=Ff
 qual:Str:=name
structure Cl where
 ini:List (Str×Ini)
 np:Nat
 N:List Str
 st:xk
def aI(fs:G Fn):Nat->Calls
 |0=>λ _=>qx|d+1=>λ f=>(fs[f]?).map λ F=>(F.np,gZ (xs (aI fs d) F.body) F.N.length)
structure Tbs where
 tb:List (Str×List (Str×Tv))
 cn:List (Str×List Tv)
 st:List (Str×Str)
 cl:Option Cl
def oY:Nat->G Fn->G (Str×Nat)
 |_,[]=>[]
 |i,F::r=>if F.me=Z then (F.name,i)::oY (i+1) r else oY (i+1) r
def tab(fs:G Fn)(tb:Tbs):Tx:=(fs.map λ F=>(F.name,F.np),tb.tb,tb.cn,tb.st,oY 0 fs,tb.cl.map λ c=>(c.ini,c.np),)
def aMT:∀ {fs:Li Fn}{i f:Nat}{F:Fn},fs[f]?=J F->F.me=Z->(F.name,i+f)∈oY i fs
 |[],i,f,F,e,_=>by simp at e
 |G::r,i,0,F,e,h=>by
   simp at e;subst e;rw[oY,if_pos h];exact xAc
 |G::r,i,f+1,F,e,h=>by
   let q:=@aMT r (i+1) f F (e:) h;rw[show i+1+f=i+(f+1) by omega] at q;rw[oY];split
   .exact xAf _ q
   .exact q
def aMD:∀ {fs:Li Fn}{i f:Nat}{m:Str},(m,f)∈oY i fs->∃ F,i<=f/\fs[f-i]?=J F/\F.me=Z/\F.name=m
 |[],i,f,m,h=>by cases h
 |G::r,i,f,m,h=>by
   let cD:(m,f)∈oY (i+1) r->∃ F,i<=f/\(G::r)[f-i]?=J F/\F.me=Z/\F.name=m:=λ q=>by
    let(F,h1,h2,h3,h4):=aMD q;refine(F,by omega,?_,h3,h4,);rw[show f-i=(f-(i+1))+1 by omega];simpa using h2
   rw[oY] at h;split at h
   .rename_i hm;rcases List.mem_cons.mp h with z|z
    .cases z;exact(G,yAd _,by rw[yBe];rfl,hm,U,)
    .exact cD z
   .exact cD h
def aE1(N:G Str)(sc:zw)(i:Nat)(e:qy):Bool:=lA (λ x _=>decide (N[i]?=J x)&&qT sc x && !(x==("__debug__" : Str)) && !(x==("__classdict__" : Str))) e
def aL6(N:G Str)(sc:zw)(i:Ini)(y:qy):Bool:=match i with|.arg j=>aE1 N sc (j+1) y|.lst=>kLi (λ xs _=>xs.isEmpty) y|.dct=>kDi (λ ks vs _=>ks.isEmpty&&vs.isEmpty) y
def aBR(N:G Str)(sc:zw):G (Str×Ini)->List xk->Bool
 |[],l=>l.isEmpty
 | p::r,l=>(match l with
   |st::l=>qU (λ ts y _=>aL6 N sc p.2 y&&pW y&&jL (λ t=>kAt (λ o g _=>decide (g=p.1)&&aE1 N sc 0 o) t) ts) st&&aBR N sc r l
   | []=>Ff)
def aJ8(h:aE1 X.N X.env.scope i e=Z):PE X e (zZ i):=pB (P:=λ e=>PE X e _) h λ y p h=>aLL (dT (aL (aL (aL h)))) (aL5 (aR (aL (aL h)))) (qY (aR (aL h))) (qY (aR h))
def aUp(h:aL6 X.N X.env.scope i y=Z):PE X y (aOf i):=by
 cases i with
 |arg j=>exact aJ8 h|lst=>exact aFM (P:=λ y=>PE X y _) h λ xs p h=>kT (P:=λ xs=>PE X (.List xs p) _) h (aE6 aMq)|dct=>exact bBt (P:=λ y=>PE X y _) h λ ks vs p h=>kT (P:=λ ks=>PE X (.Dict ks vs p) _) (aL h) (kT (P:=λ vs=>PE X (.Dict [] vs p) _) (aR h) aSX)
def aJ0{X:Cx}:∀ {ini:G (Str×Ini)}{sts:List xk},aBR X.N X.env.scope ini sts=Z->eG X sts (aAt X.K ini)
 |[],sts,h=>kT (P:=λ sts=>eG X sts _) h aKO|p::r,[],h=>no h
 |p::r,st::sts,h=>by
   refine aJv ?_ (aJ0 (aR h));exact vI (P:=λ st=>PS X st _) (aL h) λ _ y q h=>jV (P:=λ ts=>PS X (.Assign ts y q) _) (aR h) λ _ g=>aF3 (P:=λ t=>PS X (.Assign [t] y q) _) g λ o g p' h'=>by
    obtain rfl:=dT (aL h');exact aWM (aJ8 (aR h')) (aUp (aL (aL h))) (wL (aR (aL h)) _ _ _)
def yG:G Str->Bool
 |[]=>Z|x::r=>!r.contains x&&yG r
def aBx:∀ {l:G Str},yG l=Z->l.Nodup
 |[],_=>List.nodup_nil
 |x::r,h=>by
   let(h1,h2):=dN h;refine List.nodup_cons.mpr (λ z=>?_,aBx h2,);simp_all
def aCG(fs:G Fn)(tb:Tbs)(F:Fn):Bool:=
 decide ((dJ F.st).kind=.function) && !(dJ F.st).isCoroutine && !(dJ F.st).isGenerator&&yG F.N&&decide (F.np<=F.N.length)&&(F.N.take F.np).all (loc (dJ F.st))&&(dJ F.st).names.all (λ y=>!decide (y.2=.free)) &&
  qK (tab fs tb) F.N F.body (dJ F.st) (hU F.st)
def aLJ(h:loc sc x=Z):sc.names.lookup x=J .local\/sc.names.lookup x=J .cell:=by unfold loc at h;split at h<;>first|exact .inl (by assumption)|exact .inr (by assumption)|exact no h
def aSk(h:aCG fs tb F=Z):FnScope F.N (F.N.take F.np) (dJ F.st)/\qK (tab fs tb) F.N F.body (dJ F.st) (hU F.st)=Z/\(F.N.take F.np).length=F.np:=by
 let(h,h8):=dN h;let(h,h7):=dN h;let(h,h6):=dN h;let(h,h5):=dN h;let(h,h4):=dN h;let(h,h3):=dN h;let(h1,h2):=dN h;let hl:(F.N.take F.np).length=F.np:=by
  rw[yBl];simp_all
 refine((oqT h1,?_,?_,aBx h4,by rw[hl],λ x hx=>aLJ (List.all_eq_true.mp h6 x hx),λ y hy=>?_,),h8,hl,)
 .simp_all
 .simp_all
 .have:=List.all_eq_true.mp h7 y hy;intro z;rw[dqT z] at this;exact no this
def aAe(c:Cl):Bool:=
 decide ((dJ c.st).kind=.function) && !(dJ c.st).isCoroutine && !(dJ c.st).isGenerator&&yG c.N&&decide (c.np<=c.N.length)&&(c.N.take c.np).all (loc (dJ c.st))&&(dJ c.st).names.all (λ y=>!decide (y.2=.free)) &&
  aBR c.N (dJ c.st) c.ini (hU c.st)&&yG (c.ini.map (·.1))&&decide (c.ini.length<=1000)
def aSj(h:aAe c=Z):FnScope c.N (c.N.take c.np) (dJ c.st)/\aBR c.N (dJ c.st) c.ini (hU c.st)=Z/\(c.N.take c.np).length=c.np/\(c.ini.map (·.1)).Nodup/\c.ini.length<=1000:=by
 let(h,h10):=dN h;let(h,h9):=dN h;let(h,h8):=dN h;let(h,h7):=dN h;let(h,h6):=dN h;let(h,h5):=dN h;let(h,h4):=dN h;let(h,h3):=dN h;let(h1,h2):=dN h;let hl:(c.N.take c.np).length=c.np:=by
  rw[yBl];simp_all
 refine((oqT h1,aF1 h2,aF1 h3,aBx h4,by rw[hl],λ x hx=>aLJ (List.all_eq_true.mp h6 x hx),λ y hy=>?_,),h8,hl,aBx h9,oqT h10,);have:=List.all_eq_true.mp h7 y hy;intro z;rw[dqT z] at this;exact no this
def aNW(K:FrG)(F:Fn):Prop:=∃ Cc fa fd,mE K Cc/\Cls K Cc/\Meth K Cc F.name fa/\Fun K F.name F.qual F.st fa fd/\iH K fd (F.N.take F.np) []
def aN8(K:FrG)(mg:Str->Option qj)(c:Cl):Prop:=∃ Cc fi fd,mE K Cc/\Cls K Cc/\mg "Maker" = J (.ref Cc)/\(∀ p∈c.ini,NoAttr K Cc p.1)/\Mk K Cc fi/\Fun K "__init__" "Maker.__init__" c.st fi fd/\iH K fd (c.N.take c.np) []
def aVr{mg:Str -> Option qj}(hk:aAe c=Z)(hc:Cls K Cc)(hn:∀ p∈c.ini,NoAttr K Cc p.1)(Fu:Fun K "__init__" "Maker.__init__" c.st fi fd):FnOk P w K mg base pL 1 fi fd (c.N.take c.np) (spM K Cc c.ini c.np):=by
 let(sc,hok,hl,nd,le):=aSj hk;refine Fu.ok sc (λ vs H Q E h=>?_) λ cdv A outer s H vs Q E hr h=>(_,aJ0 hok,aXe hc hn nd le h,)
 let(F,L,S,x,dx,ds,us,fs,S',U,hu,_):=h;rw[hl,<- hu];rfl
section
variable {P:zx}{w:zj}{K:FrG}{mg:Str->Option qj}{base:Heap}
def aJ1(fs:G Fn)(tb:Tbs)(hk:∀ F∈fs,aCG fs tb F=Z)(top:∀ F∈fs,F.me=Ff->∃ fa fd,Fun K F.name F.name F.st fa fd/\mg F.name=J (.ref fa)/\iH K fd (F.N.take F.np) [])(topM:∀ F∈fs,F.me=Z->aNW K F)(hck:∀ c,tb.cl=J c->aAe c=Z)(hcl:∀ c,tb.cl=J c->aN8 K mg c)
 (hb:∀ x∈bltNames,mg x=qx) (ht:∀ x aO,(x,aO)∈tb.tb->∃ a,mg x=J (.ref a)/\zB K w a aO) (hcn:∀ x ts,(x,ts)∈tb.cn->∃ a,mg x=J (.ref a)/\uN K a ts) (hst:∀ x y,(x,y)∈tb.st->∃ t,mg x=J (.str y t)) :
 ∀ d f F np call q fa fd,fs[f]?=J F->aI fs d f=J (np,call)->Fun K F.name q F.st fa fd->FnOk P w K mg base pL (d+2) fa fd (F.N.take F.np) (qO K np call)
 |0,f,F,np,call,q,fa,fd,eF,e,Fu=>by cases e
 |d+1,f,F,np,call,q,fa,fd,eF,e,Fu=>by
   let ih:=aJ1 fs tb hk top topM hck hcl hb ht hcn hst d;let e2:(F.np,gZ (xs (aI fs d) F.body) F.N.length)=(np,call):=by
    let e':(fs[f]?).map (λ F=>(F.np,gZ (xs (aI fs d) F.body) F.N.length))=J (np,call):=e;rw[eF] at e';exact Option.some.inj e'
   cases e2;let hm:F∈fs:=xAk eF;let(sc,hok,hl):=aSk (hk F hm);refine Fu.ok sc (λ vs H Q E h=>?_) λ cdv A outer s H vs Q E hr h=>?_
   .let(F1,L,S,ws,w1,S',hn,R,dl,_):=h;rw[hl,<- hn];exact dl.length.symm
   .refine(_,(@ss (tab fs tb) (aI fs d) F.body).2 _ (sc.nd,U,U,sc.kind,(d+2,by omega,hr,λ f' np' call' x' e1 e2=>?_,λ m f' np' call' e1 e2=>?_,),λ ini np e=>?_,hb,λ x aO hx=>ht x aO hx,λ x ts hx=>hcn x ts hx,λ x y hx=>hst x y hx,) (λ _=>rfl) _ hok,aWb h,)
    .let(e2,e3):=dN e2;let e2:((fs.map λ F=>(F.name,F.np))[f']?).map (·.1)=J x':=dT e2;rw[yAe] at e2;cases q:fs[f']? with
     |none=>rw[q] at e2;cases e2
     |some F'=>
       rw[q] at e2;let hx:F'.name=x':=Option.some.inj e2;subst hx;let hme:F'.me=Ff:=by
        cases z:F'.me with
        |false=>rfl
        |true=>
          let z1:=aMT (i:=0) q z;rw[yEn] at z1;let z2:((tab fs tb).mt.any λ p=>decide (p.2=f'))=Z:=List.any_eq_true.mpr (_,z1,by simp,);rw[z2] at e3;exact no e3
       let(fa',fd',Fu',hmg',hbi'):=top F' (xAk q) hme;exact(fa',fd',_,hmg',Fu'.kp,hbi',ih f' F' np' call' _ fa' fd' q e1 Fu',)
    .let(F',_,h2,h3,U):=aMD e2;rw[Nat.sub_zero] at h2;let(Cc,fa',fd',m1,m2,m3,m4,m5):=topM F' (xAk h2) h3;exact(Cc,fa',fd',_,m1,m2,m3,m5,ih f' F' np' call' _ fa' fd' h2 e1 m4,)
    .let(c,e1,e2):=map_some (show tb.cl.map (λ c=>(c.ini,c.np))=J (ini,np) from e);cases e2;let(Cc,fi,fd',m1,m2,m3,m4,m5,m6,m7):=hcl c e1;exact(Cc,fi,fd',_,m1,m2,m3,m4,m5,m7,aVr (hck c e1) m2 m4 m6,)
end
structure TopFn(K:FrG)(F:Fn):Prop where
 me:F.me=Ff
 ex:∃ (f:qw) (oc:qj) (od an:Option qw) (sl:Array (Option qj)) (kV dc pm cd ct:qj),yCm K zy F.name=J (J (.ref f)) /\
  K.lookup f=J (oc,od,.func (yCh F.name F.name (gP F.st) (hU F.st) (dJ F.st) .none kV dc pm an cd ct),sl,)/\yDl K cd F.name=Z/\yBp K (.ref f)=Z
def top_mk{F:Fn}{kV:qj}(a:yCm K zy F.name=J (J (.ref f)))(l:K.lookup f=J (oc,od,.func (yCh F.name F.name (gP F.st) (hU F.st) (dJ F.st) .none kV dc pm an cd ct),sl,))(c:yDl K cd F.name=Z)(k:yBp K (.ref f)=Z)(m:F.me=Ff:=by rfl):TopFn K F:=
 (m,f,oc,od,an,sl,kV,dc,pm,cd,ct,a,l,c,k,)
structure TopMe(K:FrG)(F:Fn):Prop where
 me:F.me=Z
 ex:∃ (Cc f:qw) (oc:qj) (od an:Option qw) (sl:Array (Option qj)) (kV dc pm cd ct:qj),mE K Cc/\Cls K Cc/\Meth K Cc F.name f /\
  K.lookup f=J (oc,od,.func (yCh F.name F.qual (gP F.st) (hU F.st) (dJ F.st) .none kV dc pm an cd ct),sl,)/\yDl K cd F.qual=Z/\yBp K (.ref f)=Z
def topm_mk{F:Fn}{kV:qj}(a:yCm K zy "Maker" = J (J (.ref Cc)))(c1:yEs K Cc Str.empty=Z)(c2:yFf K Cc=Z)(c3:yGf K Cc=Z)(c4:yBn K (.ref Cc) "__setattr__" = J (J (.builtin "object.__setattr__")))(m1:yBn K (.ref Cc) F.name=J (J (.ref f)))(m2:yHb K (.ref f)=Z)(l:K.lookup f=J (oc,od,.func (yCh F.name F.qual (gP F.st) (hU F.st) (dJ F.st) .none kV dc pm an cd ct),sl,))(c:yDl K cd F.qual=Z)(k:yBp K (.ref f)=Z)(m:F.me=Z:=by rfl):TopMe K F:=
 (m,Cc,f,oc,od,an,sl,kV,dc,pm,cd,ct,a,(c1,c2,c3,c4,),(m1,m2,k,),l,c,k,)
structure TopCl(K:FrG)(c:Cl):Prop where
 ex:∃ (Cc f:qw) (oc:qj) (od an:Option qw) (sl:Array (Option qj)) (kV dc pm cd ct:qj),mE K Cc/\Cls K Cc/\(∀ p∈c.ini,NoAttr K Cc p.1)/\Mk K Cc f /\
  K.lookup f=J (oc,od,.func (yCh "__init__" "Maker.__init__" (gP c.st) (hU c.st) (dJ c.st) .none kV dc pm an cd ct),sl,)/\yDl K cd "Maker.__init__" = Z/\yBp K (.ref f)=Z
def topc_mk{c:Cl}{kV:qj}(a:yCm K zy "Maker" = J (J (.ref Cc)))(c1:yEs K Cc Str.empty=Z)(c2:yFf K Cc=Z)(c3:yGf K Cc=Z)(c4:yBn K (.ref Cc) "__setattr__" = J (J (.builtin "object.__setattr__")))(n:∀ p∈c.ini,NoAttr K Cc p.1)(m1:yHw K Cc=Z)(m2:yBn K (.ref Cc) "__init__" = J (J (.ref f)))(m3:yHb K (.ref f)=Z)(m4:yBp K (.ref Cc)=Z)(l:K.lookup f=J ⟨oc,od,.func (yCh "__init__" "Maker.__init__" (gP c.st) (hU c.st) (dJ c.st) .none kV dc pm an cd ct),sl⟩)(cc:yDl K cd "Maker.__init__" = Z)(k:yBp K (.ref f)=Z):TopCl K c:=
 (Cc,f,oc,od,an,sl,kV,dc,pm,cd,ct,a,(c1,c2,c3,c4,),n,(m1,m2,m3,m4,),l,cc,k,)
def Cl.fn(c:Cl):Fn:={name:="__init__",np:=c.np,N:=c.N,body:=.skip,st:=c.st,qual:="Maker.__init__" }
structure TabTop(K:FrG)(w:zj)(t:Str×List (Str×Tv)):Prop where
 ex:∃ (a:qw) (es:Array DictEntry) (ep:Nat),yCm K zy t.1=J (J (.ref a))/\(a==sysModules)=Ff/\K.lookup a=J {cls:=.type "dict",data:=.dict es ep }/\uS w es.toList t.2
def tab_mk{t:Str×G (Str×Tv)}{es:Array DictEntry}(a1:yCm K zy t.1=J (J (.ref a)))(l1:K.lookup a=J {cls:=.type "dict",data:=.dict es ep })(c1:uS w es.toList t.2)(s1:(a==sysModules)=Ff):TabTop K w t:=(a,es,ep,a1,s1,l1,c1,)
structure ConTop(K:FrG)(t:Str×List Tv):Prop where
 ex:∃ a:qw,yCm K zy t.1=J (J (.ref a))/\uN K a t.2
def con_mk{t:Str×G Tv}{aK:Array qj}(a1:yCm K zy t.1=J (J (.ref a)))(l1:K.lookup a=J {cls:=.type "tuple",dict:=od,data:=.seq aK n,slots:=sl })(z1:aK.size<=100)(c1:aCv aK.toList t.2):ConTop K t:=
 (a,a1,_,aK,n,l1,U,U,xAh z1 (·),c1,)
structure StTop(K:FrG)(t:Str×Str):Prop where
 ex:∃ k:Tok,yCm K zy t.1=J (J (.str t.2 k))
def xH(F:Fn):Prop:=∀ (qq:Str) (kV doc pm:qj) (an:Option qw) (cdv ct:qj) (us:List qj),↑us=(F.N.take F.np).length->bindArgs (yCh F.name qq (gP F.st) (hU F.st) (dJ F.st) .none kV doc pm an cdv ct) ⟨us,[]⟩=pure ((F.N.take F.np).zip us)
def aMM(F:Fn):Bool:=(gP F.st).posonlyargs.isEmpty&&(gP F.st).vararg.isNone&&((gP F.st).kwonlyargs.isEmpty&&(gP F.st).kwarg.isNone)&&(decide (F.N.take F.np=(gP F.st).args.map (·.arg))&&decide (F.N.take F.np).Nodup)
def aJk:∀ {ns:G Str}{us:List qj},ns.Nodup->↑us=↑ns->(∀ n∈ns,((ns.zip us).lookup n).isNone=Ff)/\ns.filterMap (λ n=>((ns.zip us).lookup n).map (n,·))=ns.zip us
 |[],us,_,_=>(λ n h=>(nomatch h),by cases us<;>rfl,)|x::ns,[],_,h=>by cases h
 |x::ns,u::us,hn,hl=>by
   let(h1,h2):=List.nodup_cons.mp hn;let(i1,i2):=aJk h2 (Nat.succ.inj hl);let e:∀ n∈ns,((x,u)::ns.zip us).lookup n=(ns.zip us).lookup n:=λ n m=>by
    rw[yCc];have:(n==x)=Ff:=by
     rw[beq_eq_false_iff_ne];rintro rfl;exact h1 m
    rw[this]
   refine(λ n m=>?_,?_,)
   .rw[yHd];rcases List.mem_cons.mp m with rfl|m
    .rw[yCc,beq_self_eq_true];rfl
    .rw[e n m];exact i1 n m
   .rw[yHd,yCp,yCc,beq_self_eq_true];show(x,u)::_=_;congr 1;rw[<- i2];rw[i2];let g:∀ l:G Str,(∀ n∈l,n∈ns)->l.filterMap (λ n=>(((x,u)::ns.zip us).lookup n).map (n,·))=l.filterMap (λ n=>((ns.zip us).lookup n).map (n,·)):=λ l=>by
     induction l with
     |nil=>intro _;rfl|cons y l ih=>intro hl;rw[yCp,yCp,e y (hl y xAc),ih λ n m=>hl n (xAf _ m)]
    rw[g ns λ n m=>m,i2]
def aIS(h:aMM F=Z):xH F:=by
 intro qq kV doc pm an cdv ct us hu;let(h,h0):=dN h;let(ha,hb):=dN h;let(ha,hv):=dN ha;let(hb,hk):=dN hb;generalize gP F.st=A at *;let(po,as,va,ko,kd,kw,df):=A;obtain rfl:=List.isEmpty_iff.mp ha;obtain rfl:=Option.isNone_iff_eq_none.mp hv;obtain rfl:=List.isEmpty_iff.mp hb;obtain rfl:=Option.isNone_iff_eq_none.mp hk;clear h ha hb hv hk;dsimp only at h0;let(h1,h2):=dN h0;let h1:=oqT h1;rw[h1] at hu h2 ⊢;let(i1,i2):=aJk (oqT h2) hu;let m:((as.map (·.arg)).take (as.map (·.arg)).length).filter (λ n=>(((as.map (·.arg)).zip us).lookup n).isNone)=[]:=by
  rw[yAb,List.filter_eq_nil_iff];intro n hn;rw[i1 n hn];decide
 unfold bindArgs;let q:seqItems? Value.none=(pure qx:Sem (Oz (Array qj))):=rfl;simp only[yCh,q,pure_bind,yEy,yEk,yBc,List.forIn_nil,yHs,yBz,List.drop_nil,List.zip_nil_right,Nat.sub_zero,hu,gt_iff_lt,yCs,decide_false,yAw,yAv,if_false,m,List.isEmpty_nil,Bool.not_true,i2,Option.isNone_none]
def aHE:∀ {ns:G Int}{i:Int},i∈ns->yAn i<=PySem.W.WData.weightAll (ns.map PySem.W.WData.int)
 |[],i,h=>by cases h
 |n::r,i,h=>by
   let e:PySem.W.WData.weightAll ((n::r).map PySem.W.WData.int)=yAn n+1+PySem.W.WData.weightAll (r.map PySem.W.WData.int):=rfl;rw[e];rcases List.mem_cons.mp h with z|z
   .subst z;omega
   .have:=aHE z;omega
def aSG{ns:G Int}(h:PySem.W.WData.layableAll [PySem.W.WData.list (ns.map PySem.W.WData.int)]=Z):∀ i∈ns,yAn i<=1048576:=λ i hi=>by
 let h1:PySem.W.WData.layable (PySem.W.WData.list (ns.map PySem.W.WData.int))=Z:=by
  have:=List.all_eq_true.mp h _ xAc;exact this
 let h2:PySem.W.WData.weight (PySem.W.WData.list (ns.map PySem.W.WData.int))<=2^20:=oqT (dN h1).2;exact xAh (aHE hi) h2
def aUl{l:PySem.W.OpenLaw}{XP:(Str->Option qj)->Heap->Prop}{YP:zj->Heap->Prop}{d:DefRec}(hn:l.most=J n)(hdf:d.params.defaults=[])(go:∀ (w:zj) (s₀ s₁:qv) (mg mb:Str->Option qj) (fa:qw) (a:qw) (vs:List qj) (ns:Li Int),
   PySem.W.Ground q loose [] XP w s₀ mg mb s₁.heap->YP w s₁.heap->mg d.name=J (.ref fa) ->
   s₁.heap.get? a=J {cls:=.type "list",data:=.seq vs.toArray }->IntsAre vs ns->↑ns<=n->(∀ i∈ns,yAn i<=1048576)->s₁.gens = #[] ->
   jo (model l.prog w) callerA (.call (.ref fa) ([.ref a],[],)) (λ r s'=>r=.ok (.ret (.bool Z))/\OldK s₁.heap s'.heap/\s'.os=s₁.os/\AllBare s'.gens) s₁) :
 PySem.W.WalkO q loose XP YP l.row.toRowW d [] (λ f vs=>PySem.call f vs):=by intro w s₀ s₁ mg mb G Y fa o pm cd doc dV kV ho hd hcd hD hmg hg args vals as hpre hlay hrd hwl hlo;obtain rfl:dV=.none:=PySem.W.Dflts.none hD hdf;obtain rfl:kV=.none:=PySem.W.Dflts.noKw hD;let(a,vs,ns,U,U,hobj,hints,cW):=Att.script_of hn hpre hwl;refine PySem.W.enter_call (codeAny_mono (go w s₀ s₁ mg mb fa a vs ns G Y hmg hobj hints cW (aSG hlay) hg) λ r s' hq=>?_);let(U,h2,h3,h4):=hq;exact(.inl (.bool Z,.bool Z,[],U,λ _=>rfl,.bool Z,Att.post_true l _,λ _=>(List.Pairwise.nil,λ _ hm=>(nomatch hm),),),h2,h3,h4,)
def law_of{l:PySem.W.OpenLaw}{XP:(Str->Option qj)->Heap->Prop}{YP:zj->Heap->Prop}{d:DefRec}{K:Params->FrG}(fs:Li Fn)(tb:Tbs)(f D:Nat)(L:Fn)(x:Str)(hn:l.most=J 63)(hdf:d.params.defaults=[])(hr:Room (D+2) callerA)(hY:∀ (w:zj) (h:Heap),YP w h->(K w.params).In h)(hk:∀ F∈fs,aCG fs tb F=Z)(hb:∀ F∈fs,xH F)(hL:fs[f]?=J L)(hname:L.name=d.name)(hps:L.N.take L.np=[x])(hme:L.me=Ff)(top:∀ w:zj,∀ h:Heap,(K w.params).In h->∀ F∈fs,TopFn (K w.params) F\/TopMe (K w.params) F)(ck:∀ c,tb.cl=J c->aAe c=Z/\xH c.fn)(clt:∀ w:zj,∀ h:Heap,(K w.params).In h->∀ c,tb.cl=J c->TopCl (K w.params) c)(tbl:∀ w:zj,∀ h:Heap,(K w.params).In h->∀ t∈tb.tb,TabTop (K w.params) w t)(cnl:∀ w:zj,∀ h:Heap,(K w.params).In h->∀ t∈tb.cn,ConTop (K w.params) t)(stl:∀ w:zj,∀ h:Heap,(K w.params).In h->∀ t∈tb.st,StTop (K w.params) t)(tbn:∀ w:zj,∀ h:Heap,(K w.params).In h->∀ x∈bltNames,yCm (K w.params) zy x=J qx)(main:∀ ns:Li Int,↑ns<=63->(∀ i∈ns,yAn i<=1048576)->∃ call S',aI fs D f=J (1,call)/\call [.d (Lz (ns.map Iz))] []=J (.d (Bz Z),S')) :
 PySem.W.WalkO q loose XP YP l.row.toRowW d [] (λ f vs=>PySem.call f vs):=by
 let(call,S0,hcall,_):=main [] (by simp) (by simp);refine aUl hn hdf λ w s₀ s₁ mg mb fa a vs ns G Y hmg hobj hints cW hsm hg=>?_
 let KX:=hY w _ Y;let tops:∀ F∈fs,F.me=Ff->∃ fa fd,Fun (K w.params) F.name F.name F.st fa fd/\mg F.name=J (.ref fa)/\iH (K w.params) fd (F.N.take F.np) []:=λ F hF hme=>by
  rcases top w _ KX F hF with t|t
  .let(f,oc,od,an,sl,kV,dc,pm,cd,ct,a,l,c,k):=t.ex;let Fu:=aE0 (st:=F.st) l c k;exact(f,_,Fu,yGr KX G.T.g a,Fu.binds (hb F hF _),)
  .rw[t.me] at hme;cases hme
 let topM:∀ F∈fs,F.me=Z->aNW (K w.params) F:=λ F hF hme=>by
  rcases top w _ KX F hF with t|t
  .rw[t.me] at hme;cases hme
  .let(Cc,f,oc,od,an,sl,kV,dc,pm,cd,ct,a1,a2,a3,l,c,k):=t.ex;let Fu:=aE0 (st:=F.st) l c k;exact(Cc,f,_,a1,a2,a3,Fu,Fu.binds (hb F hF _),)
 let hcl:∀ c,tb.cl=J c->aN8 (K w.params) mg c:=λ c hc=>by
  let(Cc,f,oc,od,an,sl,kV,dc,pm,cd,ct,a1,a2,a3,a4,l,cc,k):=(clt w _ KX c hc).ex;let Fu:=aE0 (st:=c.st) l cc k;exact(Cc,f,_,a1,a2,yGr KX G.T.g a1,a3,a4,Fu,Fu.binds ((ck c hc).2 _),)
 let hblt:∀ x∈bltNames,mg x=qx:=λ y hy=>PySem.W.mg_none_of KX G.T.g (tbn w _ KX y hy)
 let htab:∀ x aO,(x,aO)∈tb.tb->∃ a,mg x=J (.ref a)/\zB (K w.params) w a aO:=λ x aO hx=>by
  let(a,es,ep,a1,s1,l1,c1):=(tbl w _ KX (x,aO) hx).ex;exact(a,yGr KX G.T.g a1,s1,es,ep,l1,c1,)
 let hcon:∀ x ts,(x,ts)∈tb.cn->∃ a,mg x=J (.ref a)/\uN (K w.params) a ts:=λ x ts hx=>by
  let(a,a1,c1):=(cnl w _ KX (x,ts) hx).ex;exact(a,yGr KX G.T.g a1,c1,)
 let hst:∀ x y,(x,y)∈tb.st->∃ t,mg x=J (.str y t):=λ x y hx=>by
  let(k,a1):=(stl w _ KX (x,y) hx).ex;exact(k,yGr KX G.T.g a1,)
 let(fa1,fd,Fu,hmg1,hbi):=tops L (xAk hL) hme;rw[<- hname,hmg1] at hmg;cases hmg;refine L2.law_call (fd:=fd) (sp:=qO (K w.params) 1 call) (CX:=pL) (x:=x) KX G.T.g G.T.b G.T.builtins G.T.nolimit hg hobj hints (xAh cW (·)) hr (λ base kb nb=>?_) (λ s u=>?_) (λ H hO hS=>?_) λ _ _ _ z=>z
 .have P1:=@aJ1 l.prog w _ _ base fs tb hk tops topM (λ c hc=>(ck c hc).1) hcl hblt htab hcon hst D f L 1 call _ _ _ hL hcall Fu;rw[hps] at P1;exact P1
 .let(oc,od,kV,doc,pm,an,cdv,ct,osl,U,lk,hcd):=Fu.ex;have:=hb L (xAk hL) L.name kV doc pm an cdv ct [u] (by rw[hps];rfl);rw[hps] at this;exact .of_eq this
 .let(call',S',hcall',hrun):=main ns cW hsm;rw[hcall] at hcall';cases hcall';refine(H,[],[],[.d (Lz (ns.map Iz))],.d (Bz Z),S',U,(cF.refl _,List.nodup_nil,U,λ n a ds e=>by simp at e,λ n a ds e=>by simp at e,λ n a b e=>by simp at e,),.cons (Den.lst hS (DenL.of_ints ns)) .nil,hrun,λ F' L' H' v g R d=>?_,);cases (show Den (K w.params) F' (.bool Z) v from d);rfl
end EV
namespace EV
open PySem L2
def aTF{α:Type}(S:List α)(a b:α):(S++[a]).set ↑S b=S++[b]:=by simp
def aDW{α:Type}{t:Tg}{fc:FT}{fe:FE}{S:aD}(enc g:α->D)(p:α->Bool):∀ (l:List α) (aG:G D),aG.length+↑l<=qk ->
 (∀ a∈l,∃ e1,t.put (enc a) env=J e1/\(∀ S',fc e1 S'=J (p a,S'))/\(p a=Z->∀ S',fe e1 S'=J (.d (g a),S'))) ->
 gU t fc fe ↑S env (l.map enc) (S++[J aG])=J (S++[J (aG++(l.filter p).map g)])
 |[],aG,_,_=>by simp[gU]
 |a::l,aG,hz,h=>by
   let(e1,h1,h2,h3):=h a xAc;let hlt:aG.length<qk:=by simp at hz;omega
   let cD:=λ x (hx:x∈l)=>h x (xAf _ hx)
   simp only[yAm,gU,h1,yCd,h2];cases hp:p a with
   |false=>
     simp only[yAv,if_false];rw[aDW enc g p l aG (by simp at hz;omega) cD];simp[yCe,hp]
   |true=>
     let ea:eE (S++[J aG]) (.loc ↑S) (.d (g a))=J (.d .none,S++[J (aG++[g a])]):=by
      unfold eE;simp_all
     simp only[if_true,h3 hp,yCd,ea];rw[aDW enc g p l (aG++[g a]) (by simp at hz ⊢;omega) cD];simp[yCe,hp]
def aIU{α:Type}{t:Tg}{fi:FL}{fc:FT}{fe:FE}(enc g:α->D)(p:α->Bool)(l:List α)(hi:fi env S=J (l.map enc,S1))(hz:↑l<=qk)(h:∀ a∈l,∃ e1,t.put (enc a) (clr t.slots env)=J e1/\(∀ S',fc e1 S'=J (p a,S'))/\(p a=Z->∀ S',fe e1 S'=J (.d (g a),S'))):jI t fi fc fe env S=J ((l.filter p).map g,S1):=by unfold jI;rw[hi];simp only[yCd];rw[aDW enc g p l [] (hz:) h];simp
def aDQ{α:Type}{t:Tg}{fc:FT}{fe:FE}{env:aY}{S:aD}(enc g:α->D)(p:α->Bool):∀ (l:List α) (aG:G D),aG.length+↑l<=qk ->
 (∀ a∈l,∃ e1,t.put (enc a) env=J e1/\(∀ aG,fc e1 (S++[J aG])=J (p a,S++[J aG]))/\(p a=Z->∀ aG,fe e1 (S++[J aG])=J (.d (g a),S++[J aG]))) ->
 gU t fc fe ↑S env (l.map enc) (S++[J aG])=J (S++[J (aG++(l.filter p).map g)])
 |[],aG,_,_=>by simp[gU]
 |a::l,aG,hz,h=>by
   let(e1,h1,h2,h3):=h a xAc;let hlt:aG.length<qk:=by simp at hz;omega
   let cD:=λ x (hx:x∈l)=>h x (xAf _ hx)
   simp only[yAm,gU,h1,yCd,h2];cases hp:p a with
   |false=>
     simp only[yAv,if_false];rw[aDQ enc g p l aG (by simp at hz;omega) cD];simp[yCe,hp]
   |true=>
     let ea:eE (S++[J aG]) (.loc ↑S) (.d (g a))=J (.d .none,S++[J (aG++[g a])]):=by
      unfold eE;simp_all
     simp only[if_true,h3 hp,yCd,ea];rw[aDQ enc g p l (aG++[g a]) (by simp at hz ⊢;omega) cD];simp[yCe,hp]
def aSp{α:Type}{t:Tg}{fi:FL}{fc:FT}{fe:FE}(enc g:α->D)(p:α->Bool)(l:List α)(hi:fi env S=J (l.map enc,S1))(hz:↑l<=qk)(h:∀ a∈l,∃ e1,t.put (enc a) (clr t.slots env)=J e1/\(∀ aG,fc e1 (S1++[J aG])=J (p a,S1++[J aG]))/\(p a=Z->∀ aG,fe e1 (S1++[J aG])=J (.d (g a),S1++[J aG]))):jI t fi fc fe env S=J ((l.filter p).map g,S1):=by unfold jI;rw[hi];simp only[yCd];rw[aDQ enc g p l [] (hz:) h];simp
def iU{α:Type}{t:Tg}{fi:FL}{fe:FE}(enc g:α->D)(l:List α)(hi:fi env S=J (l.map enc,S1))(hz:↑l<=qk)(h:∀ a∈l,∃ e1,t.put (enc a) (clr t.slots env)=J e1/\∀ S',fe e1 S'=J (.d (g a),S')):jI t fi lX fe env S=J (l.map g,S1):=by rw[aIU (fc:=lX) enc g (λ _=>Z) l hi hz λ a ha=>let ⟨e1,h1,h2⟩:=h a ha;(e1,h1,λ _=>rfl,λ _=>h2,)];rw[List.filter_eq_self.mpr (λ _ _=>rfl)]
def aJQ{t:Tg}{fb:FS}(P:aY->Prop):∀ (ds:G D) (env:aY),P env->(∀ d∈ds,∀ env,P env->∃ e1 aW,t.put d env=J e1/\fb e1 S=J (.nx aW,S)/\P aW) ->
 ∃ aW,mF t fb ds env S=J (.nx aW,S)/\P aW
 |[],env,h0,_=>(env,U,h0,)
 |d::ds,env,h0,h=>by
   let(e1,aW,h1,h2,h3):=h d xAc env h0;let(env2,h4,h5):=aJQ P ds aW h3 λ x hx=>h x (xAf _ hx)
   exact(env2,by simp only[mF,h1,yCd,h2];exact h4,h5,)
def aI4(n:Nat):∀ lo:Int,lZ lo n=(yBk n).map λ k=>Iz (lo+(k:Nat)):=by
 induction n with
 |zero=>intro lo;rfl
 |succ n ih=>
   intro lo;rw[lZ,ih,List.range_succ_eq_map,yAm,yBa];congr 1
   .simp
   .apply yBs;intro k _;simp only[Function.comp];congr 1
    push_cast
    omega
def aIz:∀ (ds:G D) (k:Int),jT k ds=(ds.zipIdx).map λ p=>Tz [.int (k+(p.2:Nat)),p.1]
 |[],_=>rfl
 |d::r,k=>by
   rw[jT,aIz r (k+1),List.zipIdx_cons,yAm];congr 1
   .simp
   .rw[List.zipIdx_succ,yBa];apply yBs;intro p _;simp only[Function.comp];congr 3
    push_cast
    omega
end EV
namespace BM
def wX(n:Nat):0<2^n:=xAe n
def qA(n w:Nat):G Bool:=(yBk w).map n.testBit
def aQG(n w i:Nat):(qA n w).getD i Ff=(decide (i<w)&&n[i]!):=by
 unfold qA;by_cases h:i<w
 .simp[List.getD,h]
 .simp[List.getD,h]
def cS(h:n<2^w)(hi:w<=i):n[i]! =Ff:=Nat.testBit_lt_two_pow (xAb h (yAl (·) hi))
def bl(n:Nat):Nat:=if n=0 then 0 else n.log2+1
def yS(h:n≠0):bl n=n.log2+1:=if_neg h
def rQ(n:Nat):n<2^bl n:=by
 by_cases h:n=0
 .subst h;decide
 .rw[yS h];exact Nat.lt_log2_self
def aLk(h:n≠0):n[(bl n-1)]! =Z:=by
 rw[yS h,yFz];let h1:2^n.log2<=n:=Nat.log2_self_le h;let h2:n<2^(n.log2+1):=Nat.lt_log2_self;rw[yGc];have:n/2^n.log2=1:=by
  apply Nat.div_eq_of_lt_le
  .omega
  .rw[yFc] at h2;omega
 simp[this]
def uT(h:n<2^w):bl n<=w:=by
 by_cases h0:n=0
 .subst h0;simp[bl]
 .rw[yS h0];exact(Nat.log2_lt h0).mpr h
def aH8(h1:n<2^k)(h2:k=0\/n[(k-1)]! =Z):bl n=k:=by
 rcases h2 with h2|h2
 .subst h2;have:n=0:=(h1:)
  subst this;rfl
 .have h3:=uT h1;rcases Nat.lt_or_ge (bl n) k with h4|h4
  .exfalso;have:=cS (rQ n) (show bl n<=k-1 by omega);rw[this] at h2;cases h2
  .omega
def dF(w i:Nat):(2^w-1)[i]! =decide (i<w):=Nat.testBit_two_pow_sub_one w i
def nC(l:G Bool):Nat:=(l.takeWhile id).length
def aIk(r:G Bool):nC (Z::r)=nC r+1:=by simp[nC]
def aH2(r:G Bool):nC (Ff::r)=0:=by simp[nC]
def aI7:∀ (l:G Bool) (i:Nat),i<nC l->l[i]?=J Z
 |[],i,h=>by simp[nC] at h|false::r,i,h=>by simp[aH2] at h|true::r,0,h=>rfl|true::r,i+1,h=>by rw[aIk] at h;simpa using aI7 r i (!_)
def aO6(m:Nat):(2*m+1)^^^(2*m+1+1)=2*(m^^^(m+1))+1:=by
 apply xAl;intro i;cases i with
 |zero=>rw[yAr];simp[yDw];omega
 |succ i=>
   rw[yAr,yDf,yDf,yDf];rw[show(2*m+1)/2=m by omega,show(2*m+1+1)/2=m+1 by omega,show(2*(m^^^(m+1))+1)/2=(m^^^(m+1)) by omega,yAr]
def aOT(m:Nat):(2*m)^^^(2*m+1)=1:=by
 apply xAl;intro i;cases i with
 |zero=>rw[yAr];simp[yDw]
 |succ i=>
   rw[yAr,yDf,yDf,yDf];rw[show(2*m)/2=m by omega,show(2*m+1)/2=m by omega];simp
def aQW(x:Nat):bl (2*x+1)=bl x+1:=by
 apply aH8
 .have:=rQ x;rw[yFc];omega
 .right;rw[yFz];by_cases h:x=0
  .subst h;rfl
  .have h2:=aLk h;let h3:bl x=(bl x-1)+1:=by rw[yS h];omega
   rw[h3,yDf,show(2*x+1)/2=x by omega];exact h2
def aHx(n:Nat):n^^^(n+1)≠0:=by
 intro h;have:n=n+1:=by
  have:=congrArg (λ z=>z^^^(n+1)) h;simpa [Nat.xor_assoc] using this
 omega
def aIN(h:n≠0):1<=bl n:=by rw[yS h];omega
def aP5(n w:Nat):qA n (w+1)=n[0]!::qA (n/2) w:=by unfold qA;rw[List.range_succ_eq_map,yAm,yBa];congr 1;apply yBs;intro i _;simp only[Function.comp];exact yDf n i
def aHR:∀ (w n:Nat),n<2^w->bl (n^^^(n+1))-1=nC (qA n w)
 |0,n,h=>by
   have:n=0:=(h:)
   subst this;rfl
 |w+1,n,h=>by
   rw[aP5];let hd:n/2<2^w:=by rw[yFc] at h;omega
   let ih:=aHR w (n/2) hd;rcases yAs n with p|p
   .have e:n=2*(n/2):=by omega
    let e2:n^^^(n+1)=1:=by rw[e];exact aOT _
    rw[e2,yDw,p];rw[show bl 1=1 from by decide];simp[aH2]
   .have e:n=2*(n/2)+1:=by omega
    let e2:n^^^(n+1)=2*((n/2)^^^(n/2+1))+1:=by
     have:=aO6 (n/2);rw[<- e] at this;exact this
    rw[e2,aQW,yDw,p];simp only[decide_true,aIk];have:=aIN (aHx (n/2));omega
def hi(l:G Bool):Nat:=↑l-nC (l.reverse.map (!·))
def aPz(h:n<2^w):n^^^(2^w-1)<2^w:=yBy h (by have:=wX w;omega)
def cI(n w v:Nat):Nat:=if n&&&2^(w-1)=0 then n else n|||((2^v-1)^^^(2^w-1))
def aHl(n k:Nat):(n&&&2^k=0) ↔ n[k]! =Ff:=by
 constructor
 .intro h;have:=congrArg (λ z=>z[k]!) h;simpa [yAi,Nat.testBit_two_pow_self] using this
 .intro h;apply xAl;intro i;rw[yAi,yFq,yBh];by_cases e:k=i
  .subst e;simp[h]
  .simp[e]
def fX(h:n<2^w)(hw:0<w)(hv:w<=v)(i:Nat):(cI n w v)[i]! =if i<w then n[i]! else (decide (i<v)&&n[(w-1)]!):=by
 unfold cI;cases e:n[(w-1)]! with
 |false=>
   rw[if_pos ((aHl _ _).mpr e)];split
   .rfl
   .rw[cS h (!_)];simp
 |true=>
   rw[if_neg (λ z=>by rw[(aHl _ _).mp z] at e;cases e)];rw[xAo,yAr,dF,dF];split
   .rename_i hi;have:i<v:=by omega
    simp[hi,this]
   .rename_i hi;rw[cS h (!_)];simp[hi]
def mP(h:n<2^w)(hw:0<w)(hv:w<=v):cI n w v<2^v:=by
 apply yCt;intro i hi;rw[fX h hw hv,if_neg (!_)];have:¬ i<v:=by omega
 simp[this]
def aGU(h:n<2^w)(hw:0<w)(hv:w<=v)(hu:v<=u):cI (cI n w v) v u=cI n w u:=by
 apply xAl;intro i;rw[fX (mP h hw hv) (!_) hu,fX h hw (show w<=u by omega),fX h hw hv,fX h hw hv];by_cases h1:i<w
 .simp[h1,show i<v by omega]
 .simp only[h1,if_false];by_cases h2:i<v
  .simp[h2,show i<u by omega]
  .simp only[h2,if_false];by_cases h3:v-1<w
   .simp[show v-1=w-1 by omega,show w-1<w by omega]
   .simp[h3,show v-1<v by omega]
def aBQ(x d:Nat):Nat:=x/2^d*2^d
def aBe(x d i:Nat):(aBQ x d)[i]! =(decide (d<=i)&&x[i]!):=by
 unfold aBQ;rw[Nat.testBit_mul_two_pow];by_cases h:d<=i
 .simp[h,yDj,show i-d+d=i by omega]
 .simp[h]
def pK(x w:Nat):Nat:=2^w-1-x
def mR(h:x<2^w)(i:Nat):(pK x w)[i]! =(decide (i<w) && !x[i]!):=by unfold pK;rw[show 2^w-1-x=2^w-(x+1) by omega];exact Nat.testBit_two_pow_sub_succ h i
def xS(l g w:Nat):Nat:=(2^w-1)^^^(2^bl (l^^^g)-1)
def aDt(hl:l<2^w)(hg:g<2^w)(i:Nat):(xS l g w)[i]! =(decide (i<w)&&decide (bl (l^^^g)<=i)):=by
 unfold xS;rw[yAr,dF,dF];let hd:bl (l^^^g)<=w:=uT (yBy hl hg);by_cases h1:i<w<;>by_cases h2:i<bl (l^^^g)
 .simp[h1,h2,show ¬ bl (l^^^g)<=i by omega]
 .simp[h1,h2,show bl (l^^^g)<=i by omega]
 .omega
 .simp[h1,h2]
def qB(l g w:Nat):Nat:=xS l g w&&&l
def wK(l g w:Nat):Nat:=xS l g w^^^qB l g w
def aR7(hl:l<2^w)(hg:g<2^w):qB l g w=aBQ l (bl (l^^^g)):=by
 apply xAl;intro i;rw[qB,yAi,aDt hl hg,aBe];by_cases h1:i<w
 .simp[h1]
 .rw[cS hl (!_)];simp
def aPF(hl:l<2^w)(hg:g<2^w):wK l g w=aBQ (pK l w) (bl (l^^^g)):=by apply xAl;intro i;rw[wK,yAr,qB,yAi,aDt hl hg,aBe,mR hl];by_cases h1:i<w<;>by_cases h2:bl (l^^^g)<=i<;>cases l[i]!<;>simp[h1,h2]
def bCo(h:bl (l^^^g)<=i):l[i]! =g[i]!:=by have:=cS (rQ (l^^^g)) h;rw[yAr] at this;cases a:l[i]!<;>cases b:g[i]!<;>simp[a,b] at this ⊢
def aQ1(h:l^^^g<2^d):l/2^d=g/2^d:=by apply xAl;intro i;rw[yDj,yDj];have:=cS h (show d<=i+d by omega);rw[yAr] at this;cases a:l[(i+d)]!<;>cases b:g[(i+d)]!<;>simp[a,b] at this ⊢
def aPl(h1:l<=m)(h2:m<=g):m/2^bl (l^^^g)=l/2^bl (l^^^g):=by let e:=aQ1 (rQ (l^^^g));let a:=Nat.div_le_div_right (c:=2^bl (l^^^g)) h1;let b:=Nat.div_le_div_right (c:=2^bl (l^^^g)) h2;omega
def aHz(h1:l<=m)(h2:m<=g)(hi:bl (l^^^g)<=i):m[i]! =l[i]!:=by have:=congrArg (λ z=>z[(i-bl (l^^^g))]!) (aPl h1 h2);simp only[yDj] at this;rwa [show i-bl (l^^^g)+bl (l^^^g)=i by omega] at this
def aOJ(hl:l<2^w)(hg:g<2^w)(h1:l<=m)(h2:m<=g):m&&&wK l g w=0:=by
 apply xAl;intro i;rw[yAi,aPF hl hg,aBe,mR hl,yBh];by_cases h:bl (l^^^g)<=i
 .rw[aHz h1 h2 h];cases l[i]!<;>simp
 .simp[h]
def aO5(hl:l<2^w)(hg:g<2^w)(h1:l<=m)(h2:m<=g):m&&&qB l g w=qB l g w:=by
 apply xAl;intro i;rw[yAi,aR7 hl hg,aBe];by_cases h:bl (l^^^g)<=i
 .rw[aHz h1 h2 h];cases l[i]!<;>simp
 .simp[h]
end BM
namespace BM
def fN(n k i:Nat):(n/2^k)[i]! =n[(k+i)]!:=by rw[yDj,yDn]
def lH(n:Nat):n=0 ↔ ∀ i,n[i]! =Ff:=by
 constructor
 .rintro rfl i;simp
 .intro h;apply xAl;simp_all
def aDk(m k:Nat):m/2^k=0 ↔ ∀ i,k<=i->m[i]! =Ff:=by
 rw[lH];constructor
 .intro h i hi;have:=h (i-k);rw[fN,show k+(i-k)=i by omega] at this;exact this
 .intro h i;rw[fN];exact h _ (!_)
def dQ(a b:Nat):Nat:=a-(a&&&b)
def aTX(a b:Nat):dQ a b=a^^^(a&&&b):=by
 let h:(a^^^(a&&&b))+(a&&&b)=a:=by
  let key:∀ (n x y:Nat),x<=n->(x^^^(x&&&y))+(x&&&y)=x:=by
   intro n
   induction n with
   |zero=>
     simp_all
   |succ n ih=>
     intro x y hx;by_cases h0:x=0
     .subst h0;simp
     .have ih':=ih (x/2) (y/2) (!_);let e1:(x^^^(x&&&y))/2=(x/2)^^^((x/2)&&&(y/2)):=by
       apply xAl;intro i;simp[Nat.testBit_div_two]
      let e2:(x&&&y)/2=(x/2)&&&(y/2):=by
       apply xAl;intro i;simp[Nat.testBit_div_two]
      let m1:(x^^^(x&&&y))%2=(x%2+(x&&&y)%2)%2:=by
       let a1:=yEl (x^^^(x&&&y)) 0;let a2:=yEl x 0;let a3:=yEl (x&&&y) 0;simp only[Nat.pow_zero,Nat.div_one] at a1 a2 a3;rw[<- a1,<- a2,<- a3,yAr,yAi];cases x[0]!<;>cases y[0]!<;>rfl
      let m2:(x&&&y)%2<=x%2:=by
       let a2:=yEl x 0;let a3:=yEl (x&&&y) 0;simp only[Nat.pow_zero,Nat.div_one] at a2 a3;rw[<- a2,<- a3,yAi];cases x[0]!<;>cases y[0]!<;>decide
      rw[<- e1,<- e2] at ih';omega
  exact key a a b (yAd _)
 unfold dQ;omega
def nV(a b i:Nat):(dQ a b)[i]! =(a[i]! && !b[i]!):=by rw[aTX,yAr,yAi];cases a[i]!<;>cases b[i]!<;>rfl
def aDC(a b:Nat):dQ a b=0 ↔ ∀ i,a[i]! =Z->b[i]! =Z:=by
 rw[lH];constructor
 .intro h i ha;have:=h i;rw[nV,ha] at this;simpa using this
 .intro h i;rw[nV];simp_all
def aHO(h:x<2^k)(i:Nat):(x+q*2^k)[i]! =if i<k then x[i]! else q[(i-k)]!:=by rw[yDn,yHx,Nat.testBit_two_pow_mul_add _ h]
def aKH(h:n<2^w)(hw:0<w):n/2^(w-1)=(n[(w-1)]!).toNat:=by
 rw[yEl];have:n/2^(w-1)<2:=by
  rw[yEb (xAe _),<- Nat.pow_succ'];rw[show(w-1).succ=w by omega];exact h
 exact(yBm this).symm
end BM
namespace BM
open PySem
def aNM(a b:Nat):yEu a b=((a&&&b:Nat):Int):=by unfold yEu;rw[dqT (yHa a),dqT (yHa b)];simp
def bOr(a b:Nat):yHp a b=((a|||b:Nat):Int):=by
 unfold yHp yEu yBo;rw[dqF (show ¬ (0:Int) <= -(a:Int)-1 by omega),dqF (show ¬ (0:Int) <= -(b:Int)-1 by omega)];let e1:(-(-(a:Int)-1)-1).toNat=a:=by omega
 let e2:(-(-(b:Int)-1)-1).toNat=b:=by omega
 simp only[e1,e2];omega
def aHv:∀ (n a b:Nat),a<=n->(a^^^b)+(a&&&b)=(a|||b)
 |0,a,b,h=>by
   simp_all
 |n+1,a,b,h=>by
   by_cases ha:a=0
   .subst ha;simp
   let ih:=aHv n (a/2) (b/2) (!_);let x2:=Nat.xor_div_two (a:=a) (b:=b);let a2:=Nat.and_div_two (a:=a) (b:=b);let o2:=Nat.or_div_two (a:=a) (b:=b);let xm:(a^^^b)%2=(a%2+b%2)%2:=by
    have:=yAr a b 0;simp only[yDw] at this;rcases yAs a with p|p<;>rcases yAs b with q|q<;>rcases yAs (a^^^b) with r|r<;>simp[p,q,r] at this ⊢
   let am:(a&&&b)%2=(a%2)*(b%2):=by
    have:=yAi a b 0;simp only[yDw] at this;rcases yAs a with p|p<;>rcases yAs b with q|q<;>rcases yAs (a&&&b) with r|r<;>simp[p,q,r] at this ⊢
   let om:(a|||b)%2=(a%2+b%2)-(a%2)*(b%2):=by
    have:=xAo a b 0;simp only[yDw] at this;rcases yAs a with p|p<;>rcases yAs b with q|q<;>rcases yAs (a|||b) with r|r<;>simp[p,q,r] at this ⊢
   let h1:=yFd (a^^^b) 2;let h2:=yFd (a&&&b) 2;let h3:=yFd (a|||b) 2;rcases yAs a with p|p<;>rcases yAs b with q|q<;>rw[p,q] at xm am om<;>omega
def bBG(a b:Nat):yHg a b=((a^^^b:Nat):Int):=by unfold yHg;rw[aNM,bOr];have:=aHv a a b (yAd _);omega
def aHy(a:Nat):yAn a=if a=0 then 0 else a.log2+1:=by unfold yAn;simp_all
def aQi{a n:Nat}(h:a<2^n):yAn a<=n:=by
 rw[aHy];split
 .simp_all
 .rename_i h0;exact(Nat.log2_lt h0).mpr h
def aDV(n:Nat):((2^n:Nat):Int)=(2:Int)^n:=by simp
def bBF{x y:Int}(h:y.natAbs.log2<9000):yDh x y=Ff:=by
 unfold yDh;dsimp only;have:¬ ((if (y==0)=Z then 0 else y.natAbs.log2/30+1)>300):=by
  split
  .omega
  .omega
 rw[dqF this];rfl
end BM
namespace EV
open PySem L2 BM
def kM(i j:Int):cG .Add (.int i) (.int j)=J (.int (i+j)):=rfl
def eO(i j:Int):cG .Sub (.int i) (.int j)=J (.int (i-j)):=rfl
def dB(a b:Nat):cG .BitAnd (.int a) (.int b)=J (.int ((a&&&b:Nat):Int)):=by simp only[cG,mX,aNM]
def fO(a b:Nat):cG .BitOr (.int a) (.int b)=J (.int ((a|||b:Nat):Int)):=by simp only[cG,mX,bOr]
def gH(a b:Nat):cG .BitXor (.int a) (.int b)=J (.int ((a^^^b:Nat):Int)):=by simp only[cG,mX,bBG]
def jR{w:Nat}(h1:w<=100000):cG .LShift (.int 1) (.int w)=J (.int ((2^w:Nat):Int)):=by let c:(0:Int)<=w/\(yAn 1:Int)+w<=2^27:=(by omega,by(have:(yAn 1:Int)=1:=(·);omega),);simp only[cG,mX];rw[if_pos c,Int.one_mul,yAt,aDV]
def tX{n a k:Nat}(h:n<2^a)(h2:a+k<=100000):cG .LShift (.int n) (.int k)=J (.int ((n*2^k:Nat):Int)):=by
 let c:(0:Int)<=(k:Nat)/\((yAn (n:Int):Nat):Int)+(k:Nat)<=2^27:=by
  have:=aQi h;exact(by omega,by omega,)
 simp only[cG,mX];rw[if_pos c,yAt,<- aDV];congr 2
def xA{i j:Int}(h:0<j):cG .Mod (.int i) (.int j)=J (.int (i%j)):=by simp only[cG,mX];rw[if_pos (!_),Int.fmod_eq_emod_of_nonneg _ (!_)]
def aD6{i j:Int}(h:0<j)(h2:j<2^64):cG .FloorDiv (.int i) (.int j)=J (.int (i/j)):=by simp only[cG,mX];let h3:j.natAbs.log2<9000:=yDm ((Nat.log2_lt (!_)).mpr (show j.natAbs<2^64 by omega)) (·);rw[if_pos (by omega,bBF h3,),Int.fdiv_eq_ediv_of_nonneg _ (!_)]
def aPG{i j:Int}(h1 : -(2^64)<j)(h2:j<2^64):qD i j=Z:=by unfold qD;have:=intBits_le_64 h1 h2;let h:¬ (yAn j>wz):=Nat.not_lt.mpr this;rw[dqF h];simp
def aPb{i j:Int}(h1 : -(2^64)<i)(h2:i<2^64):qD i j=Z:=by unfold qD;have:=intBits_le_64 h1 h2;let h:¬ (yAn i>wz):=Nat.not_lt.mpr this;rw[dqF h];simp
def aEj{i j:Int}(h1 : -(2^64)<j)(h2:j<2^64):cG .Mult (.int i) (.int j)=J (.int (i*j)):=by show(if qD i j=Z then J (Iz (i*j)) else qx)=_;rw[if_pos (aPG h1 h2)]
def wM{i j:Int}(h1 : -(2^64)<i)(h2:i<2^64):cG .Mult (.int i) (.int j)=J (.int (i*j)):=by show(if qD i j=Z then J (Iz (i*j)) else qx)=_;rw[if_pos (aPb h1 h2)]
def aSP{α:Type}(k:Nat)(x:α):aCK k [x]=yAg k x:=by unfold aCK;simp_all
def gR(i j:Int):bO .Eq (.int i) (.int j)=J (.bool (i==j)):=rfl
def uF(i j:Int):bO .NotEq (.int i) (.int j)=J (.bool (!(i==j))):=rfl
def xP(i j:Int):bO .Lt (.int i) (.int j)=J (.bool (decide (i<j))):=rfl
def rO(i j:Int):bO .LtE (.int i) (.int j)=J (.bool (decide (i<=j))):=rfl
def oF(i j:Int):bO .Gt (.int i) (.int j)=J (.bool (decide (j<i))):=rfl
def xU(i j:Int):bO .GtE (.int i) (.int j)=J (.bool (decide (j<=i))):=rfl
end EV
namespace EV
open PySem L2 BM
def oB{α β:Type}(a:α)(f:α->Option β):(J a).bind f=f a:=of_eq_true (eq_self (f a))
def aE5{α:Type}{f:G W0->Option α}:aAG f (.tpl ws)=f ws:=rfl
def aER{α:Type}{f:Nat->Option α}:aAf f (.dic m)=f m:=rfl
def nG{α:Type}{f:Int->Option α}{i:Int}:wI f (.d (Iz i))=f i:=rfl
def aZS{i j:Int}:sH [.int i,.int j]=J (.int (if j>i then j else i)):=rfl
def aZQ{i j:Int}:kX [.int i,.int j]=J (.int (if j<i then j else i)):=rfl
def bAt{xs:G D}:kX [.list xs]=(mS xs).bind aOg:=rfl
def aX8{xs:G D}:zY [.list xs]=(lI xs).bind λ l=>J (.bool (l.any id)):=rfl
def oM{α β:Type}(a:α)(f:α->β):(J a).map f=J (f a):=of_eq_true (eq_self (J (f a)))
def cl(fs:G Fn)(d f:Nat)(ws:G W)(S:aD):Oz (W×aD):=match aI fs d f with
 |some (np,call)=>if ↑ws=np then call ws S else qx
 |none=>qx
def aH6(fs:G Fn)(d f:Nat)(fa:FA)(env:aY)(S:aD):mW (aI fs d) f fa env S=(fa env S).bind λ p=>cl fs d f p.1 p.2:=by
 unfold mW cl aCn;cases aI fs d f with
 |none=>cases fa env S<;>rfl|some q=>rfl
def dU(h:fs[f]?=J F)(d:Nat)(ws:G W)(S:aD)(hw:↑ws=F.np):cl fs (d+1) f ws S=gZ (xs (aI fs d) F.body) F.N.length ws S:=by
 let e:aI fs (d+1) f=J (F.np,gZ (xs (aI fs d) F.body) F.N.length):=by
  show(fs[f]?).map _=_;rw[h];rfl
 unfold cl;rw[e];exact if_pos hw
def aUr(h:fs[f]?=J F)(hn:F.np=1)(e:cl fs (d+1) f [w] []=J (r,S)):∃ call S',aI fs (d+1) f=J (1,call)/\call [w] []=J (r,S'):=by
 refine(gZ (xs (aI fs d) F.body) F.N.length,S,?_,?_,)
 .show(fs[f]?).map _=_;rw[h,<- hn];rfl
 .rw[<- dU h d [w] [] (by rw[hn];rfl)];exact e
def szT(h:n<=1000):(n<=qk)=True:=by rw[zq];exact eq_true (!_)
end EV
namespace EV
open PySem L2 BM
def aBm(w:Nat):((2^w:Nat):Int)-1=((2^w-1:Nat):Int):=by have:=wX w;omega
def nQ{fa:FE}{env:aY}{S S1:aD}{w:Nat}(h:fa env S=J (.d (Iz w),S1))(hw:w<=1000000):yY fa env S=J ((yBk w).map (λ k=>Iz (k:Nat)),S1):=by let c : -(2^62)<=((w:Nat):Int)/\((w:Nat):Int)<2^62:=(by omega,by omega,);unfold yY;rw[h,oB];dsimp only;rw[nG,if_pos c,aI4,yAt];simp_all
def aHn{fa:FE}{env:aY}{S S1:aD}{ds:G D}(h:fa env S=J (.d (Tz ds),S1)):xY fa env S=J (ds.zipIdx.map (λ p=>Tz [.int (p.2:Nat),p.1]),S1):=by simp only[xY,h,oB];rw[aIz];simp
def aJD(h:env[i]?=J (J w)):mB i env S=J (w,S):=by unfold mB;rw[h]
def mU{xs:G D}{k:Nat}{x:D}(h:xs[k]?=J x):bM (.list xs) (.int k)=J x:=by let hl:k<↑xs:=(gIm h).1;show(kF ↑xs ((k:Nat):Int)).bind (λ j=>xs[j]?)=J x;unfold kF;rw[if_pos (!_),if_pos (!_),oB,yAt];exact h
def dP{xs:G D}{k:Nat}{x:D}(h:xs[k]?=J x):bM (.tuple xs) (.int k)=J x:=@mU xs _ _ h
def aMo{t:Tg}{fi:FL}{fb:FS}(P:aY->Prop)(hi:fi env S=J (ds,S1))(h0:P env)(h:∀ d∈ds,∀ env,P env->∃ e1 aW,t.put d env=J e1/\fb e1 S1=J (.nx aW,S1)/\P aW) :
 ∃ aW,kW t fi fb env S=J (.nx aW,S1)/\P aW:=by let(aW,h1,h2):=@aJQ S1 t fb P ds env h0 h;exact(aW,by unfold kW;rw[hi,oB];exact h1,h2,)
def aKT{t:Tg}{fb:FS}(P:Nat->aY->aD->Prop):∀ (ds:G D) (i:Nat) (env:aY) (S:aD),P i env S->(∀ j d env S,ds[j]?=J d->P (i+j) env S->∃ e1 aW S',t.put d env=J e1/\fb e1 S=J (.nx aW,S')/\P (i+j+1) aW S') ->
 ∃ aW S',mF t fb ds env S=J (.nx aW,S')/\P (i+↑ds) aW S'
 |[],i,env,S,h0,_=>(env,S,U,h0,)
 |d::ds,i,env,S,h0,h=>by
   let(e1,aW,S',h1,h2,h3):=h 0 d env S U h0;let(env2,S2,h4,h5):=aKT P ds (i+1) aW S' h3 λ j d' env S a b=>by
    have:=h (j+1) d' env S (a:) (by rw[show i+(j+1)=i+1+j by omega];exact b);rw[show i+(j+1)=i+1+j by omega] at this;exact this
   refine(env2,S2,by simp only[mF,h1,oB,h2];exact h4,?_,);have:i+(d::ds).length=i+1+↑ds:=by simp;omega
   rw[this];exact h5
def jF{t:Tg}{fi:FL}{fb:FS}(P:Nat->aY->aD->Prop)(hi:fi env S=J (ds,S1))(h0:P 0 env S1)(h:∀ j d env S,ds[j]?=J d->P j env S->∃ e1 aW S',t.put d env=J e1/\fb e1 S=J (.nx aW,S')/\P (j+1) aW S') :
 ∃ aW S',kW t fi fb env S=J (.nx aW,S')/\P ↑ds aW S':=by
 let(aW,S',h1,h2):=@aKT t fb P ds 0 env S1 h0 λ j d env S a b=>by
  have:=h j d env S a (b:);simpa using this
 exact(aW,S',by unfold kW;rw[hi,oB];exact h1,by simpa using h2,)
def aPw{fa fb:FE}{env:aY}{S S1 S2:aD}{v w:Nat}(h:fa env S=J (.d (Iz v),S1))(h2:fb env S1=J (.d (Iz w),S2))(hv:v<=1000000)(hw:w<=1000000):zD fa fb env S=J ((yBk (w-v)).map (λ k=>Iz ((v+k:Nat):Int)),S2):=by
 let c : -(2^62)<=((v:Nat):Int)/\((v:Nat):Int)<2^62 /\ -(2^62)<=((w:Nat):Int)/\((w:Nat):Int)<2^62:=(by omega,by omega,by omega,by omega,);let e:(((w:Nat):Int)-((v:Nat):Int)).toNat=w-v:=by omega
 unfold zD;rw[h,oB];simp only[];rw[h2,oB];dsimp only;rw[nG,nG,if_pos c,aI4,e];congr 2
def aE7{xs:G D}:nE [.tuple xs]=J (.int ↑xs):=rfl
def oC{xs:G D}:rL [.list xs]=J (.tuple xs):=rfl
def xX{xs:G D}:rL [.tuple xs]=J (.tuple xs):=rfl
def kN(n k:Nat):cG .RShift (.int n) (.int k)=J (.int ((n/2^k:Nat):Int)):=by
 let c:(0:Int)<=(k:Nat):=by omega
 simp only[cG,mX];rw[if_pos c,yAt,<- aDV];congr 2
def rA(a b:Nat):cG .BitAnd (.int a) (.int (yBo (b:Nat)))=J (.int ((dQ a b:Nat):Int)):=by
 let h1:decide ((0:Int)<=(a:Nat))=Z:=dqT (!_);let h2:decide ((0:Int)<=yBo (b:Nat))=Ff:=dqF (by unfold yBo;omega);let h3:(yBo (yBo (b:Nat))).toNat=b:=by unfold yBo;omega
 let h4:a&&&b<=a:=yCb;simp only[cG,mX];unfold yEu;rw[h1,h2];simp only[h3,yAt];congr 2;unfold dQ;omega
def rE(i:Int):unD .Invert (.int i)=J (.int (yBo i)):=rfl
def aJA{x:D}{k:Nat}(h:k<=1000):cG .Mult (.tuple [x]) (.int k)=J (.tuple (yAg k x)):=by show(if 0<=((k:Nat):Int)/\((k:Nat):Int)<=1000 then J (Tz (yAg ((k:Nat):Int).toNat x)) else qx)=_;rw[if_pos (by omega,by omega,),yAt]
def aJL{α:Type}{t:Tg}{fe:FE}(enc:α->D)(I:Nat->aD->Prop)(Q:α->D->Prop):∀ (l:List α) (aG:G D) (j:Nat) (S:aD),aG.length+↑l<=qk->j+↑l<=N->↑S=n->I j S ->
 (∀ a∈l,∃ e1,t.put (enc a) env=J e1/\∀ j S aG,j<N->↑S=n->I j S->∃ v S',fe e1 (S++[J aG])=J (.d v,S'++[J aG])/\↑S'=n/\I (j+1) S'/\Q a v) ->
 ∃ vs S',gU t lX fe n env (l.map enc) (S++[J aG])=J (S'++[J (aG++vs)])/\↑S'=n/\I (j+↑l) S'/\↑vs=↑l/\∀ (i:Nat) (a:α),l[i]?=J a->∃ v,vs[i]?=J v/\Q a v
 |[],aG,j,S,_,_,hn,hI,_=>([],S,by simp[gU],hn,hI,U,by simp,)
 |a::l,aG,j,S,hz,hN,hn,hI,h=>by
   let(e1,h1,h2):=h a xAc;let(v,S1,h3,h4,h5,h6):=h2 j S aG (by simp at hN;omega) hn hI;let hlt:aG.length<qk:=by simp at hz;omega
   let ea:eE (S1++[J aG]) (.loc n) (.d v)=J (.d .none,S1++[J (aG++[v])]):=by
    unfold eE;simp_all
   let(vs,S2,h7,h8,h9,h10,h11):=aJL enc I Q l (aG++[v]) (j+1) S1 (by simp at hz ⊢;omega) (by simp at hN;omega) h4 h5 λ x hx=>h x (xAf _ hx)
   refine(v::vs,S2,?_,h8,by rw[yAo,show j+(↑l+1)=j+1+↑l by omega];exact h9,by simp[h10],λ i b hb=>?_,)
   .simp only[yAm,gU,h1,lX,oB,if_true,h3,ea];rw[h7];simp
   .cases i with|zero=>simp at hb;subst hb;exact(v,U,h6,)|succ i=>simpa using h11 i b (hb:)
def aJo{α:Type}{t:Tg}{fi:FL}{fe:FE}(enc:α->D)(I:Nat->aD->Prop)(Q:α->D->Prop)(l:List α)(hi:fi env S=J (l.map enc,S1))(hz:↑l<=qk)(h0:I 0 S1)(h:∀ a∈l,∃ e1,t.put (enc a) (clr t.slots env)=J e1/\∀ j S aG,j<↑l->↑S=↑S1->I j S->∃ v S',fe e1 (S++[J aG])=J (.d v,S'++[J aG])/\↑S'=↑S1/\I (j+1) S'/\Q a v) :
 ∃ vs S',jI t fi lX fe env S=J (vs,S')/\↑S'=↑S1/\I ↑l S'/\↑vs=↑l/\∀ (i:Nat) (a:α),l[i]?=J a->∃ v,vs[i]?=J v/\Q a v:=by let(vs,S',h1,h2,h3,h4,h5):=@aJL ↑l ↑S1 _ _ _ fe enc I Q l [] 0 S1 (hz:) (by simp) U h0 h;refine(vs,S',?_,h2,by simpa using h3,h4,h5,);unfold jI;rw[hi];simp_all
def aLS{α:Type}(a:α):yFk 1 [a]=[a]:=rfl
def aMh{α:Type}(a b:α):yFk 1 [a,b]=[a]:=rfl
def aL3{α:Type}(a b:α):yFk 2 [a,b]=[a,b]:=rfl
end EV
namespace EV
open PySem L2 BM
section
variable {C:Calls}{env:aY}{S S1 S2 S3 S4:aD}{a b c e es r:E}
def aC(h:env[i]?=J (J w)):ev C (.var i) env S=J (w,S):=by rw[aFa];exact aJD h
def aF{i:Int}:ev C (.int i) env S=J (.d (Iz i),S):=rfl
def vA:ev C (.bl i) env S=J (.d (Bz i),S):=rfl
def jJ:ev C .non env S=J (.d .none,S):=rfl
def cC:ev C (.str i) env S=J (.d (Sz i),S):=rfl
def aJ(ha:ev C a env S=J (.d x,S1))(hb:ev C b env S1=J (.d y,S2))(hz:cG op x y=J z):ev C (.bin op a b) env S=J (.d z,S2):=by simp only[aLd,sI,f2,ha,oB,hb,jP,dr,hz]
def aCB(ha:ev C a env S=J (.d x,S1))(hz:unD op x=J z):ev C (.un op a) env S=J (.d z,S1):=by simp only[aNj,fUn,f1,ha,oB,pO,dr,hz]
def dX(ha:ev C a env S=J (.d x,S1))(hb:ev C b env S1=J (.d y,S2))(hz:bO op x y=J z):ev C (.cmp op a b) env S=J (.d z,S2):=by simp only[aEM,oZ,f2,ha,oB,hb,jP,dr,hz]
def bT(ha:ev C a env S=J (wa,S1))(hb:ev C b env S1=J (.d y,S2))(hx:dr S2 wa=J x)(hz:bM x y=J z):ev C (.ix a b) env S=J (.d z,S2):=by let h2:dr S2 (.d y)=J y:=rfl;simp only[aFv,qP,f2,ha,oB,hb,jP,hx,h2,hz]
def aCm:dr S (.d x)=J x:=rfl
def dM{n:Nat}{l:G D}(h:S[n]?=J (J l)):dr S (.loc n)=J (.list l):=by simp only[dr,h]
def iA:pJ S []=J []:=rfl
def gY(h:dr S w=J x)(k:pJ S ws=J ds):pJ S (w::ws)=J (x::ds):=by simp only[pJ,h,k,oB]
def slD(d:D)(l h:Oz Int):Oz D:=match d with|.list xs=>J (.list (gM xs l h))|.tuple xs=>J (.tuple (gM xs l h))|_=>qx
def aCz{lo hi:E}(ha:ev C a env S=J (wa,S1))(hl:ov C lo env S1=J (l,S2))(hh:ov C hi env S2=J (h,S3))(hx:dr S3 wa=J x)(hz:slD x l h=J z):ev C (.sl a lo hi) env S=J (.d z,S3):=by simp only[aFm,sQ,ha,oB,hl,hh,hx];cases x<;>first|(cases hz;done)|(cases hz;rfl)
def aCD:ov C .no env S=J (qx,S):=rfl
def aB7{i:Int}(h:ev C a env S=J (.d (Iz i),S1)):ov C (.cons a .nil) env S=J (J i,S1):=by simp only[aKc,uP,h,oB,nG]
def gW(ho:ev C o env S=J (wo,S1))(ha:ev C a env S1=J (wa,S2))(h:eE S2 wo wa=J (w,S3)):ev C (.app o a) env S=J (w,S3):=by simp only[aL0,aCQ,f2,ho,oB,ha,h]
def oN(ht:tv C c env S=J (p,S1))(k:cond p (ev C a env S1) (ev C b env S1)=R):ev C (.ite c a b) env S=R:=by rw[<- k];cases p<;>simp only[aLO,aAr,ht,oB,yAv,if_false,if_true,cond_true,cond_false]
def uI(ha:ev C a env S=J (.d (Bz p),S1))(k:cond p (ev C b env S1) (J (.d (Bz Ff),S1))=R):ev C (.and a b) env S=R:=by rw[<- k];cases p<;>simp only[aLx,zC,ha,oB,cond_true,cond_false]
def bBJ(ha:ev C a env S=J (.d (Bz p),S1))(k:cond p (J (.d (Bz Z),S1)) (ev C b env S1)=R):ev C (.or a b) env S=R:=by rw[<- k];cases p<;>simp only[aNb,aAl,ha,oB,cond_true,cond_false]
def aZV(ha:ev C a env S=J (.d (Bz p),S1)):ev C (.not a) env S=J (.d (Bz (!p)),S1):=by simp only[aLB,zO,ha,oB]
def aT(ha:av (aI fs d) es env S=J (ws,S1))(hc:cl fs d f ws S1=J (w,S2)):ev (aI fs d) (.call f es) env S=J (w,S2):=by rw[aLb,aH6,ha,oB];exact hc
def gB{t:B}(ha:av C es env S=J (ws,S1))(hd:pJ S1 ws=J ds)(hz:t.g ds=J z):ev C (.blt t es) env S=J (.d z,S1):=by simp only[aLX,sB,ha,oB,hd,hz]
def lV(ha:av C es env S=J (ws,S1))(hd:jY ws=J ds)(hl:↑ds<=1000):ev C (.tup es) env S=J (.d (Tz ds),S1):=by simp only[aLQ,aAA,ha,oB,hd,szT hl,if_true]
def eD(h:lv C a env S=J (ds,S1)):ev C (.fz a) env S=J (.d (Lz ds),S1):=by simp only[aMZ,mK,h,oB]
def eX(ha:av C es env S=J (ws,S1))(hd:jY ws=J ds)(hl:↑ds<=1000):lv C (.lst es) env S=J (ds,S1):=by simp only[aLI,aAy,ha,oB,hd,szT hl,if_true]
def kS(h:lv C a env S=J (ds,S1)):ev C (.new a) env S=J (.loc ↑S1,S1++[J ds]):=by simp only[aMm,oV,h,oB]
def aQ:av C .nil env S=J ([],S):=rfl
def aE(ha:ev C a env S=J (w,S1))(hr:av C r env S1=J (ws,S2)):av C (.cons a r) env S=J (w::ws,S2):=by simp only[aKm,dD,ha,oB,hr]
def aU(ha:ev C a env S=J (.d x,S1))(hb:ev C b env S1=J (.d y,S2))(hz:bO op x y=J (.bool p)):tv C (.cmp op a b) env S=J (p,S2):=by have:=dX ha hb hz;rw[aEM] at this;simp only[aL2,dR,this,oB,dr,sD]
def nA(ht:tv C e=dR (ev C e))(ha:ev C e env S=J (.d x,S1))(hz:sD x=J p):tv C e env S=J (p,S1):=by rw[ht];simp only[dR,ha,oB,dr,hz]
def oA(ha:tv C a env S=J (p,S1))(hb:cond p (tv C b env S1) (J (Ff,S1))=R):tv C (.and a b) env S=R:=by rw[<- hb];cases p<;>simp only[aLo,zW,ha,oB,yAv,if_false,if_true,cond_true,cond_false]
def iW(ha:tv C a env S=J (p,S1))(hb:cond p (J (Z,S1)) (tv C b env S1)=R):tv C (.or a b) env S=R:=by rw[<- hb];cases p<;>simp only[aNq,fOr,ha,oB,yAv,if_false,if_true,cond_true,cond_false]
def aB1(ha:tv C a env S=J (p,S1)):tv C (.not a) env S=J (!p,S1):=by simp only[aMn,aAv,ha,oB]
def oU{α:Type}{x y z:α}(h:x=z):cond Z x y=z:=h
def jB{α:Type}{x y z:α}(h:y=z):cond Ff x y=z:=h
variable {s t u:Sx}{aW:aY}{R:Option (Fl×aD)}{w:W}
def aB9(h:xs C s env S=J (fl,S1))(k:J (fl,S1)=R):xs C s env S=R:=h.trans k
def aFn{w:W}{R:Oz (W×aD)}(h:ev C e env S=J (w,S1))(k:J (w,S1)=R):ev C e env S=R:=h.trans k
def aFi{p:Bool}{R:Oz (Bool×aD)}(h:tv C e env S=J (p,S1))(k:J (p,S1)=R):tv C e env S=R:=h.trans k
def aFq{l:G D}{R:Oz (G D×aD)}(h:lv C e env S=J (l,S1))(k:J (l,S1)=R):lv C e env S=R:=h.trans k
def aWv:xs C .skip env S=J (.nx env,S):=rfl
def vJ(C:Calls)(t:Sx)(fl:Fl)(S:aD):Oz (Fl×aD):=match fl with|.nx e=>xs C t e S|fl=>J (fl,S)
def aZw(h:xs C s env S=J (fl,S1))(k:vJ C t fl S1=R):xs C (.seq s t) env S=R:=by rw[<- k];cases fl<;>simp only[rJ,kZ,h,oB,vJ]
def bBg(k:xs C t aW S=R):vJ C t (.nx aW) S=R:=k
def bBT(k:J (.rt w,S)=R):vJ C t (.rt w) S=R:=k
def bBz(k:J (.bk aW,S)=R):vJ C t (.bk aW) S=R:=k
def bB4(k:J (.ct aW,S)=R):vJ C t (.ct aW) S=R:=k
def qG(he:ev C e env S=J (we,S1))(ho:ev C o env S1=J (wo,S2))(hi:ev C i env S2=J (wi,S3))(h:rX S3 wo wi we=J S4):xs C (.put o i e) env S=J (.nx env,S4):=by simp only[aLw,uX,he,oB,ho,hi,h]
def aNB(h:ev C e env S=J (w,S1))(he:env.set i (J w)=aW):xs C (.set i e) env S=J (.nx aW,S1):=by rw[<- he];simp only[aEY,kY,h,oB]
def aZy(h:ev C e env S=J (w,S1)):xs C (.ret e) env S=J (.rt w,S1):=by simp only[aEP,qL,h,oB]
def fZ(h:ev C e env S=J (w,S1)):xs C (.expr e) env S=J (.nx env,S1):=by simp only[aK8,yT,h,oB]
def aZZ(ht:tv C a env S=J (p,S1))(k:cond p (xs C s env S1) (xs C t env S1)=R):xs C (.ifs a s t) env S=R:=by rw[<- k];cases p<;>simp only[uH,pG,ht,oB,yAv,if_false,if_true,cond_true,cond_false]
def hV(h:kW tg (lv C a) (xs C s) env S=R):xs C (.loop tg a s) env S=R:=h
def aXa{ws:G W}(he:ws.map J++yAg (n-↑ws) qx=env)(k:xs C body env S=J (.rt (.d x),S1))(hS:S1.take ↑S=S2):gZ (xs C body) n ws S=J (.d x,S2):=by subst he;simp only[gZ,k,oB,rZ,hS]
def aLs{ws:G W}(he:ws.map J++yAg (n-↑ws) qx=env)(k:xs C body env S=J (.nx aW,S1))(hS:S1.take ↑S=S2):gZ (xs C body) n ws S=J (.d .none,S2):=by subst he;simp only[gZ,k,oB,hS]
def aV{ws:G W}(h:fs[f]?=J F)(hw:↑ws=F.np)(he:ws.map J++yAg (F.N.length-↑ws) qx=env)(k:xs (aI fs d) F.body env S=J (.rt (.d x),S1))(hS:S1.take ↑S=S2):cl fs (d+1) f ws S=J (.d x,S2):=by subst he;rw[dU h d ws S hw];simp only[gZ,k,oB,rZ,hS]
end
section
variable {C:Calls}{env:aY}{S S1 S2 S3 S4:aD}{a b c e es r:E}{w:W}{fl:List (Str×W0)}{ws:List W0}{k:List bN}{el:List (List bN×Int)}{m:Nat}
def aFr(h:ev C a env S=J (.ob fl,S1))(hf:fl.lookup f=J x):ev C (.fld a f) env S=J (x.w,S1):=by simp only[aXp,aCJ,h,oB,hf,yFb]
def yR(h:ev C a env S=J (.ob fl,S1))(hf:fl.lookup f=J (.loc n)):ev C (.fld a f) env S=J (.loc n,S1):=aFr h hf
def rG(h:ev C a env S=J (.ob fl,S1))(hf:fl.lookup f=J (.d x)):ev C (.fld a f) env S=J (.d x,S1):=aFr h hf
def uC(h:ev C a env S=J (.ob fl,S1))(hf:fl.lookup f=J (.dic n)):ev C (.fld a f) env S=J (.dic n,S1):=aFr h hf
def fD(ho:ev (aI fs d) a env S=J (.ob fl,S1))(hn:fl.lookup mn=qx)(ha:av (aI fs d) es env S1=J (zs,S2))(hc:cl fs d f (.ob fl::zs) S2=J (w,S3)):ev (aI fs d) (.mth mn f a es) env S=J (w,S3):=by
 rw[aV1];unfold rR;unfold cl at hc;cases h:aI fs d f with
 |none=>rw[h] at hc;cases hc
 |some p=>
   rw[h] at hc;let(np,call):=p;dsimp only at hc ⊢;split at hc
   .rename_i hl;let hl:↑zs+1=np:=hl;simp only[aCH,ho,oB,hn,Option.isNone_none,if_true,ha,hl,hc]
   .cases hc
def uO(h:av C es env S=J (zs,S1))(h0:w0s zs=J ws)(hl:(↑ws<=1000)=True):ev C (.tpl es) env S=J (.tpl ws,S1):=by let hl:↑ws<=qk:=xAh (of_eq_true hl) (·);simp only[aW0,aCC,h,oB,h0,if_pos hl]
def aEW(ha:ev C a env S=J (.tpl ws,S1))(hb:ev C b env S1=J (.dic m,S2))(hk:iG ws=J k)(hd:nM S2 m=J el)(hp:(n != (fK el k).isSome)=p):tv C (.din n a b) env S=J (p,S2):=by subst hp;simp only[aVY,dR,vD,ha,oB,aE5,aER,hb,hk,hd,yFb,dr,sD]
def aEX{i:Int}(ha:ev C a env S=J (.dic m,S1))(hb:ev C b env S1=J (.tpl ws,S2))(hk:iG ws=J k)(hd:nM S2 m=J el)(hv:fK el k=J i):ev C (.dget a b) env S=J (.d (Iz i),S2):=by simp only[aTc,aCq,ha,oB,aE5,aER,hb,hk,hd,hv,yFb]
def aLr{i:Int}(hv:ev C e env S=J (.d (Iz i),S1))(ha:ev C a env S1=J (.dic m,S2))(hb:ev C b env S2=J (.tpl ws,S3))(hk:iG ws=J k)(hd:nM S3 m=J el)(hl:el.length<qk)(hS:S3.set m (J ((sF el k i).map pA))=S4):xs C (.dput a b e) env S=J (.nx env,S4):=by rw[<- hS];simp only[aTi,aCi,hv,oB,nG,aE5,aER,ha,hb,hk,hd,if_pos hl]
def aNr(h:av C es env S=J (zs,S1))(hd:jY zs=J ds)(hl:(↑ds<=1000)=True)(ha:ev C a env S1=J (u,S2))(hx:wd u=J x)(hz:aAz ds x=J z):ev C (.cou t es a) env S=J (.d z,S2):=by let hl:↑ds<=qk:=xAh (of_eq_true hl) (·);simp only[aXk,vC,h,oB,hd,if_pos hl,ha,hx,hz,yFb]
def iV{t:Tg}(h:ev C e env S=J (.d x,S1))(he:t.put x env=J aW):xs C (.setT t e) env S=J (.nx aW,S1):=by simp only[aJZ,yV,h,oB,he]
def tZ{i:Nat}{ds:G D}{aW:aY}(h:lv C e env S=J (ds,S1))(he:env.set i (J (.d (Lz ds)))=aW):xs C (.setC Ff i e) env S=J (.nx aW,S1):=by rw[<- he];simp only[aD5,kY,mK,h,oB]
def aN4(h:av C es env S=J (zs,S1))(hn:↑zs+1=np)(hd:jY zs=J ds)(hm:lW ds ini S1=J (fs,S2)):ev C (.mk ini np es) env S=J (.ob fs,S2):=by simp only[bAd,aCs,h,oB,if_pos hn,hd,hm,yFb]
end
end EV
namespace K75
open PySem L2 EV BM
private def mqS(p:String)(l:List mq)(b:="simp"):mq:=mqV b [mqC,mqO,mqO [mqA "only"],mqO [mqA "[",mqJ "," ((((p.splitOn " ").filter (·!="")).map mqI++l).map λ t=>mqN "Tactic.simpLemma" [mqO,mqO,t]),mqA "]"],mqO]
private def mqH(n:String)(l:List mq):=mqV "tacticErw___" [mqC,mqN "Tactic.rwRuleSeq" [mqA "[",mqJ "," ((mqI n::l).map λ t=>mqN "Tactic.rwRule" [mqO,t]),mqA "]"],mqO]
private def mqX(a:mq):=
 let a:=a[2][1].getSepArgs.toList.map (·[1])
 (a.headD .missing,a.tail)
private def mqR:=mqN "Tactic.tacticRfl" [mqA "rfl"]
private def mqW(t:mq):=mqN "Tactic.withReducible" [mqA "with_reducible",mqQ [t]]
private def mqK(t:mq):=mqV "focus" [mqQ [t]]
private def mqZ(t:mq)(u:=mqR):=mqK (mqM `Lean.Parser.Tactic.«tactic_<;>_» #[t,mqA "<;>",u])
private def mqY(l:List mq)(e:=[mqV "fail" [mqO]]):=mqV "first" [mqO ((l++e).map λ t=>mqM `group #[mqA "|",mqQ [t]])]
private def mqU(t:mq):=mqV "apply" [t]
private def mqEv:="aFa aYa bAi aVZ aWI aLd aNj aEM aLx aNb aLB aLO aLQ aFv aXE aXT aFm aLb aLX aVp aL0 aW6 aMZ aMm aLo aNq aMn aWX aL2 aZL aTk aWm aWl aZ5 bAb aW8 aKm bAv aKc aLI aUK aTJ EV.zK EV.xI EV.xC EV.xM aTn EV.yN EV.yO EV.xD aKC EV.rJ aK8 aEP EV.uH aEY aD5 aJZ aLw aUc EV.kZ EV.kY EV.yV EV.pG EV.qL aZe EV.yT EV.uW EV.sI fUn EV.oZ EV.dR EV.f2 EV.f1 EV.jP EV.pO EV.dr EV.pJ EV.fC EV.mB EV.rZ aH6 EV.dD EV.iJ aAA aAy EV.mK EV.sB EV.qP EV.zW fOr aAv EV.zC aAl EV.zO aAr EV.jY EV.B.g EV.sD EV.Tg.put EV.nZ EV.Tg.slots yAm yEy yAo yBz yGa Nat.reduceSub yEn yBj List.replicate_zero yGm yEk yDk yDi yDc yEc EV.oB EV.oM yAb Bool.not_false Bool.not_true yAv if_true if_false reduceIte yFn Nat.reduceEqDiff szT List.take_nil List.take_zero aXo EV.sG aCa EV.qH aLS aMh aL3"
private def mqU2(n:String):=if n="" then [] else [mqW (mqU (mqI n))]
private def mqC2(l:List mq)(x:Char):mq:=
 if x='r' then mqR else
 if x='g' then mqH "go.10.66" l else
 if x='c' then mqY [mqW (mqV "assumption" []),mqZ (mqS "" l) (mqW mqR)] else
 if x='v' then mqZ (mqS mqEv l) (mqW mqR) else
 if x='b' then mqZ (mqS "yDc yEc" [] "dsimp") else
 if x='a' then mqH "go.0.4" l else
 if x='d' then mqH "go.4.6" l else
 if x='e' then mqH "go.6.8" l else
 if x='f' then mqH "go.8.10" l else
 mqY [mqZ (mqS (if x='h' then "EV.B.g" else if x='i' then "yAo yBz yGa yFn" else if x='j' then "slD" else if x='k' then "Option.isSome_some Option.isSome_none bne_self_eq_false Bool.bne_false Bool.false_bne" else if x='m' then "yDc yEc" else if x='n' then "EV.Tg.put EV.nZ yDc yEc" else "") l),mqK mqR]
local macro_rules(kind:=Lean.Parser.Tactic.tacticErw___)|s=>do
 let (n,l):=mqX s
 match n.getId with
 |.num (.num _ a) b=>if b<a+4 then mqF else return mqH s!"go.{(a+b)/2}.{b}" l
 |.anonymous=>if n.toNat>19 then mqF else return mqZ (mqS (if n.toNat<9 then mqEv else mqEv++" EV.gZ") l)
 |_=>mqF
local macro_rules(kind:=Lean.Parser.Tactic.omega)|_s=>return mqW (mqY (mqV "assumption" []::(("yAd/1 _ yDe/2 _ _ xAh/2 a d xAb/2 a d xAi/2 a d yCv/1 a xAh/2 yCv/1 a d xAh/2 Nat.add_le_add_right/2 a _ d yDt/2 d _ yDg/1 a Nat.lt_of_not_le/1 a Nat.not_lt_of_le/1 a yGn/1 a xAb/2 a a xAh/2 a a xAh/2 a yDt/2 d _ xAh/2 a xAh/2 Nat.add_le_add_right/2 a _ d".splitOn " ").foldr (λ t l=>match t.splitOn "/" with|[f,n]=>let n:=n.toNat!;mqT f (l.take n)::l.drop n|_=>(if t="_" then mqN "Term.hole" [mqA "_"] else mqB (if t="a" then mqV "assumption" [] else mqV "decide"))::l) []).map λ t=>mqV "exact" [t]))
local macro_rules(kind:=Lean.Parser.Tactic.tacticErw___)|s=>do
 let (n,l):=mqX s
 match n.getId with
 |.num (.num _ a) b=>
  if a+3<b then return mqH s!"go.{a}.{(a+b)/2}" l
  return mqY (((("bBg:g bBT:r bBz:r bB4:r EV.oU:g EV.jB:g EV.oU:g EV.jB:r EV.oU:r EV.jB:g EV.aC:r EV.aF EV.aE:gg EV.aQ EV.aT:gc EV.aJ:ggl EV.bT:gggl aNB:gb aZw:ga EV.aU:ggl aZZ:gd aZy:g aWv EV.gB:ggh EV.oA:ge aB1:g EV.cC EV.iW:gf EV.vA EV.jJ aCD aCm EV.iA EV.fZ:g EV.dM:l EV.gY:gg EV.lV:gri EV.eD:g EV.eX:gri EV.kS:g aCz:ggggj aB7:g aCB:gl EV.dX:ggl EV.gW:ggl EV.qG:gggl EV.oN:gd EV.uI:ge bBJ:gf aZV:g EV.yR:gr EV.rG:gr EV.uC:gr EV.fD:grgc EV.uO:gri aEW:ggllk aEX:gglll aLr:ggglllm aNr:grigrl EV.iV:gn EV.tZ:gb aN4:grrr EV.hV:c EV.nA:rgr :c :v".splitOn " ").take b).drop a).map λ t=>mqO ((match t.splitOn ":" with|[n,r]=>mqU2 n++r.toList.map (mqC2 l)|_=>mqU2 t)))
 |.anonymous=>
  let k:=n.toNat
  if k=20 then return mqS mqEv l
  let i:=mqN "Tactic.rcasesPat.one" [mqI "rfl"]
  if k=50 then return mqG [i,mqA "|",i,mqA "|",i] (l.headD .missing)
  let d:=l.take (k%10);let l:=l.drop (k%10);let g:=[mqH "go.10.66" l,mqY [mqK mqR,mqZ (mqS "" l)]]
  if k<10 then return mqY [mqO ((if k=0 then [] else [mqS "" d "dsimp"])++mqY (["aB9","aFn","aFi","aFq"].map λ x=>mqU (mqI x))::g)]
  return mqY [mqO [mqU (mqT "aXa" [mqI "rfl"]),mqV "focus" [mqQ (mqS "List.map yAo yBz yGa Nat.reduceSub yEn yBj List.replicate_zero yGm yEk" d "dsimp"::mqU (mqI "aB9")::g)],mqY [mqV "exact" [mqI "yAb"],mqZ (mqS "aLS aMh aL3" l),mqK mqR]]]
 |_=>mqF
local macro_rules(kind:=Lean.Parser.Term.tuple)|s=>if s[1].getNumArgs=0 then return mqB (mqV "omega") else if s[1][2].getNumArgs%2=0 then return mqN "Term.anonymousCtor" [mqA "⟨",mqJ "," (s[1][0]::s[1][2].getSepArgs.toList),mqA "⟩"] else mqF
local macro_rules(kind:=«term{}»)|_s=>Lean.Macro.throwError ""
local macro_rules(kind:=Lean.Parser.Term.structInst)|s=>if s.getArgs.all λ x=>x.isAtom||x.getArgs.all (·.getNumArgs==0) then return mqT "aC" [mqI "rfl"] else mqF
local macro_rules(kind:=«term_<$>_»)|s=>return mqT "aI" [mqI "fns",mqM `«term_+_» #[s[0],mqA "+",s[2]]]
local macro_rules(kind:=«term#[_,]»)|s=>return mqT "qz" [mqD "loc" [s[1][0]]]
local macro_rules(kind:=Lean.Parser.Term.typeAscription)|s=>if s[3].getNumArgs=0 then return mqT "qz" [mqD "d" [mqD "int" [s[1]]]] else mqF
local macro_rules(kind:=Lean.Parser.Term.typeAscription)|s=>if s[3].getNumArgs>0&&s[3][0].getKind==`Lean.Parser.Term.hole then return (s.setArg 1 (s.setArg 3 (mqO [mqI "Nat"]))).setArg 3 (mqO [mqI "Int"]) else mqF
def top(i:Nat):xk:=PySem.Challenge.pw_fewbits_k75_whole_made_by_any_stays.main.body.getD i (.Pass (0,0,0,0,))
def wC:G (Str×Tv):=[("in",.int 0),("num",.int 0),("not",.int 1),("and",.int 2),("or",.int 2),("xor",.int 2),("add",.int 2),("sub",.int 2),("mul",.int 2),("left",.int 1),("right",.int 1),("slide",.int 1),("cut",.int 1),("wide",.int 1),("sign",.int 1),("same",.int 2),("less",.int 2),("under",.int 2),("pick",.int 3)]
def wS:G Tv:=[.str "left",.str "right",.str "slide"]
def aLZ:G Tv:=[.str "add",.str "sub",.str "mul"]
def nT:G Tv:=[.str "same",.str "less",.str "under"]
def tG:G Tv:=[.str "wide",.str "sign"]
def aBq:G Tv:=[.int 0,.int 0,.int 1]
def aDU:G Tv:=[.int 1,.int 0,.int 1]
def aFk:G Tv:=[.int 0,.int 1,.int 1]
def aBD:G Tv:=[.str "cut",.str "nought",.str "sign"]
def cl_ini:G (Str×Ini):=[("program",.arg 0),("stays",.arg 1),("rows",.lst),("places",.lst),("once",.dct)]
def aCo(s:xk)(j:Nat):xk:=match s with|.ClassDef _ _ _ b _ _ _ _ _ _ _=>b.getD j (.Pass (0,0,0,0,))|_=>.Pass (0,0,0,0,)
def tbs:Tbs:=([("OPERAND_COUNTS",wC)],[("SHIFTS",wS),("SUMS",aLZ),("COMPARES",nT),("WIDENINGS",tG),("NOTHING",aBq),("NOUGHT",aDU),("ONE",aFk),("WORDS",aBD)],[],J (cl_ini,3,["self","program","stays"],aCo (top 78) 0,),)
abbrev J0:E:=.int 0
abbrev J1:E:=.int 1
abbrev J2:E:=.int 2
abbrev J3:E:=.int 3
abbrev J4:E:=.int 4
abbrev J5:E:=.int 5
abbrev J6:E:=.int 6
abbrev J7:E:=.int 7
abbrev J8:E:=.int 8
abbrev V0:E:=.var 0
abbrev V1:E:=.var 1
abbrev V2:E:=.var 2
abbrev V3:E:=.var 3
abbrev V4:E:=.var 4
abbrev V5:E:=.var 5
abbrev V6:E:=.var 6
abbrev V7:E:=.var 7
abbrev V8:E:=.var 8
abbrev V9:E:=.var 9
abbrev N0:E:=.nil
abbrev K0:Sx:=.skip
section
local macro_rules(kind:=«term_::_»)|s=>return mqD "cons" [s[0],s[2]]
local macro_rules(kind:=«term_^_»)|s=>return mqD "seq" [s[0],s[2]]
def aNz:Sx:=.ret (.bin .Sub (.bin .LShift J1 V0) J1)^K0
def aMr:Sx:=.ret (.bits V0)^K0
def aLA:Sx:=.ret (.call 0 (.call 1 (V0::N0)::N0))^K0
def aJf:Sx:=.ret (.bin .Sub (.call 1 (.bin .BitXor V0 (.bin .Add V0 J1)::N0)) J1)^K0
def aIR:Sx:=.ret (.bin .Sub V1 (.call 1 (.bin .BitXor V0 (.call 0 (V1::N0))::N0)))^K0
def aQb:Sx:=.set 3 (.bin .LShift J1 (.bin .Sub V1 J1))^.ifs (.cmp .Eq (.bin .BitAnd V0 V3) J0) (.ret V0^K0) .skip^.ret (.bin .BitOr V0 (.bin .BitXor (.call 0 (V2::N0)) (.call 0 (V1::N0))))^K0
def aPB:Sx:=.set 3 (.bin .BitXor (.call 0 (V2::N0)) (.call 2 (.bin .BitXor V0 V1::N0)))^.set 4 (.bin .BitAnd V3 V0)^.ret (.tup (.bin .BitXor V3 V4::V4::N0))^K0
def aQ7:Sx:=.ret (.sl V0 (J2::N0) (.bin .Add J2 (.tab "OPERAND_COUNTS" wC (.ix V0 J0))::N0))^K0
def aG7:Sx:=.ret (.bin .Add (.bin .Add (.sl V0 .no (J2::N0)) V1) (.sl V0 (.bin .Add J2 (.blt .len (V1::N0))::N0) .no))^K0
def aGM:E:=.comp (.ix V1 V2) (.one 2) (.it (.call 7 (V0::N0))) .no
def aHm:Sx:=.ret (.blt .tup (.fz aGM::N0))^K0
def aIq:Sx:=.set 2 (.ix V0 J0)^.ret (.ix (.ix V2 V1) J1)^K0
def aHd:E:=.comp (.ix V1 J1) (.one 1) (.it (.ix V0 J0)) .no
def aHY:Sx:=.ret (.blt .tup (.fz aHd::N0))^K0
def aHg:Sx:=.ret (.tup (.bin .BitAnd V2 (.un .Invert (.bin .BitAnd V1 (.un .Invert V0)))::.bin .BitAnd V2 (.un .Invert V0)::N0))^K0
def aRs:Sx:=.set 3 (.call 1 (V2::N0))^.set 4 (.blt .mn (V3::.call 3 (V1::N0)::N0))^.set 5 (.blt .mn (.bin .Sub V3 V4::.call 3 (V0::N0)::N0))^.ret (.tup (.call 0 (.bin .Sub V3 V4::N0)::.call 0 (.bin .Sub V3 V5::N0)::N0))^K0
def aVD:Sx:=.ifs (.cmp .Eq (.bin .RShift V0 V1) J0) (.ret V0^K0) .skip^.ret (.bin .BitOr (.bin .BitAnd V0 (.call 0 (V1::N0))) (.bin .LShift J1 (.bin .Sub V1 J1)))^K0
def aPC:Sx:=.ifs (.cmp .Eq V0 (.str "left")) (.ret (.bin .RShift V3 V2)^K0) .skip^.ifs (.cmp .Eq V0 (.str "right")) (.ret (.bin .BitAnd (.bin .LShift V3 V2) (.call 0 (V1::N0)))^K0) .skip^.ret (.call 14 (.bin .LShift V3 V2::V1::N0))^K0
def aQp:Sx:=.ifs (.cmp .Eq (.ix V0 J1) J1) (.ret (.tup (J1::V1::J0::N0))^K0) .skip^.ifs (.cmp .Eq (.ix V0 J0) J1) (.ret (.tup (J1::J0::V1::N0))^K0) .skip^.ret (.tup (J1::V1::V1::N0))^K0
def aPc:Sx:=.set 4 (.ix V0 J0)^.ifs (.cmp .Eq V4 (.str "and")) (.ret (.call 12 (.ix (.ix V2 J0) J0::.ix (.ix V2 J1) J0::V3::N0))^K0) .skip^.ifs (.cmp .Eq V4 (.str "or")) (.ret (.call 12 (.ix (.ix V2 J0) J1::.ix (.ix V2 J1) J1::V3::N0))^K0) .skip^.ifs (.cmp .In V4 (.tup (.str "add"::.str "sub"::N0))) (.ret (.tup (.call 2 (V3::N0)::.call 2 (V3::N0)::N0))^K0) .skip^.ifs (.cmp .Eq V4 (.str "mul")) (.ret (.call 13 (.ix (.ix V2 J0) J0::.ix (.ix V2 J1) J0::V3::N0))^K0) .skip^.ifs (.cmp .In V4 (.con "SHIFTS" wS)) (.ret (.tup (.call 15 (V4::.ix V0 J1::.ix V0 J3::V3::N0)::N0))^K0) .skip^.ifs (.cmp .Eq V4 (.str "wide")) (.ret (.tup (.bin .BitAnd V3 (.call 0 (.ix V1 J0::N0))::N0))^K0) .skip^.ifs (.cmp .Eq V4 (.str "sign")) (.ret (.tup (.call 14 (V3::.ix V1 J0::N0)::N0))^K0) .skip^.ifs (.cmp .In V4 (.con "COMPARES" nT)) (.ret (.tup (.call 0 (.ix V1 J0::N0)::.call 0 (.ix V1 J1::N0)::N0))^K0) .skip^.ifs (.cmp .Eq V4 (.str "pick")) (.ret (.call 16 (.ix V2 J0::V3::N0))^K0) .skip^.ret (.bin .Mult (.tup (V3::N0)) (.blt .len (.call 7 (V0::N0)::N0)))^K0
def bAU:Sx:=.ifs (.cmp .Eq V3 J0) (.ret (.bin .Mult (.tup (J0::N0)) (.blt .len (.call 7 (V0::N0)::N0)))^K0) .skip^.ret (.call 17 (V0::V1::V2::V3::N0))^K0
def aHe:E:=.comp (.call 10 (V0::V7::N0)) (.one 7) (.it (.call 7 (V4::N0))) .no
def aPN:Sx:=.set 4 (.ix (.ix V0 J0) V2)^.set 5 (.blt .tup (.fz aHe::N0))^.set 6 (.call 18 (V4::V5::.call 9 (V4::V1::N0)::V3::N0))^.ret (.fz (.lzip (.call 7 (V4::N0)) V6))^K0
def aDG:E:=.it (.call 19 (V0::V1::V4::.ix V2 V4::N0))
def aDu:Sx:=.put V2 V7 (.bin .BitOr (.ix V2 V7) V8)^K0
def aIO:E:=.rng3 (.bin .Sub (.blt .len (V5::N0)) J1) (.un .USub J1) (.un .USub J1)
def aIu:Sx:=.loop (.many [7,8]) aDG aDu^K0
def aIg:E:=.it V6
def aIj:Sx:=.put V2 V3 (.call 0 (.call 10 (V0::V3::N0)::N0))^K0
def aWe:Sx:=.setT (.many [5,6]) V0^.set 2 (.new (.lrep (.fz (.lst (J0::N0))) (.blt .len (V5::N0))))^.loop (.one 3) aIg aIj^.loop (.one 4) aIO aIu^.ret (.blt .tup (V2::N0))^K0
def aG1:E:=.comp (.cmp .NotEq (.bin .BitAnd (.call 0 (.call 10 (V0::V6::N0)::N0)) (.un .Invert (.ix V2 V6))) J0) (.one 6) (.it V5) .no
def aHc:E:=.comp (.cmp .NotEq (.bin .BitAnd V8 (.un .Invert (.ix V2 V7))) J0) (.many [7,8]) (.it (.call 19 (V0::V1::V3::.ix V2 V3::N0))) .no
def aGS:E:=.rng1 (.blt .len (V4::N0))
def aG4:Sx:=.ifs (.blt .any (.fz aHc::N0)) (.ret V3^K0) .skip^K0
def aPm:Sx:=.setT (.many [4,5]) V0^.loop (.one 3) aGS aG4^.ifs (.blt .any (.fz aG1::N0)) (.ret (.blt .len (V4::N0))^K0) .skip^.ret .non^K0
def aIL:Sx:=.ret (.bin .BitXor (.call 0 (V1::N0)) (.call 0 (.bin .Sub V1 V0::N0)))^K0
def aHM:Sx:=.ret (.bin .BitOr (.ix V0 J0) (.ix V0 J1))^K0
def aBI:Sx:=.ret (.and (.cmp .Eq (.bin .BitAnd (.ix V0 J0) (.un .Invert (.ix V1 J0))) J0) (.and (.cmp .Eq (.bin .BitAnd (.ix V0 J1) (.un .Invert (.ix V1 J1))) J0) (.cmp .LtE (.ix V0 J2) (.ix V1 J2))))^K0
def wY:Sx:=.setT (.many [3,4,5]) V0^.set 2 (.call 22 (V5::V1::N0))^.ifs (.cmp .NotEq (.bin .BitAnd V3 V2) J0) (.set 3 (.bin .BitOr V3 V2)^K0) .skip^.ifs (.cmp .NotEq (.bin .BitAnd V4 V2) J0) (.set 4 (.bin .BitOr V4 V2)^K0) .skip^.ret (.tup (V3::V4::.blt .mx (V5::.call 4 (V3::V1::N0)::.call 4 (V4::V1::N0)::N0)::N0))^K0
def aLU:Sx:=.ret (.ix V0 J1)^K0
def aIa:Sx:=.ret (.bin .BitXor (.call 0 (V1::N0)) (.ix V0 J0))^K0
def aS0:Sx:=.ifs (.cmp .Eq V0 (.str "add")) (.ret (.bin .Add V1 V2)^K0) .skip^.ifs (.cmp .Eq V0 (.str "sub")) (.ret (.bin .Sub V1 V2)^K0) .skip^.ret (.bin .Mult V1 V2)^K0
def aQq:Sx:=.set 3 (.call 0 (.call 3 (.bin .BitAnd (.call 23 (V1::N0)) (.call 23 (V2::N0))::N0)::N0))^.set 4 (.bin .BitAnd (.call 28 (V0::.call 26 (V1::N0)::.call 26 (V2::N0)::N0)) V3)^.ret (.tup (.bin .BitXor V3 V4::V4::N0))^K0
def aO0:Sx:=.ifs (.cmp .NotEq V0 (.str "mul")) (.ret J0^K0) .skip^.ret (.call 0 (.blt .mn (V1::.bin .Add (.call 3 (.ix V2 J0::N0)) (.call 3 (.ix V3 J0::N0))::N0)::N0))^K0
def aUY:Sx:=.ifs (.cmp .Eq V0 (.str "sub")) (.ret (.tup (.bin .Sub (.call 26 (V2::N0)) (.call 27 (V3::V1::N0))::.bin .Sub (.call 27 (V2::V1::N0)) (.call 26 (V3::N0))::N0))^K0) .skip^.set 4 (.call 28 (V0::.call 26 (V2::N0)::.call 26 (V3::N0)::N0))^.set 5 (.call 28 (V0::.call 27 (V2::V1::N0)::.call 27 (V3::V1::N0)::N0))^.ret (.tup (V4::V5::N0))^K0
def aQs:Sx:=.setT (.many [4,5]) (.call 31 (V0::V1::V2::V3::N0))^.ifs (.or (.cmp .Lt V4 J0) (.cmp .Gt V5 (.call 0 (V1::N0)))) (.ret (.tup (J0::J0::N0))^K0) .skip^.ret (.call 6 (V4::V5::V1::N0))^K0
def aQd:Sx:=.ifs (.cmp .Eq V0 (.str "mul")) (.ret J1^K0) .skip^.ret (.blt .mx (J1::.bin .Sub (.blt .mn (.ix V1 J2::.ix V2 J2::N0)) J1::N0))^K0
def aRo:Sx:=.set 4 (.call 29 (V0::V2::V3::N0))^.set 5 (.call 32 (V0::V1::V2::V3::N0))^.set 6 (.bin .BitOr (.bin .BitOr (.ix V4 J0) (.ix V5 J0)) (.call 30 (V0::V1::V2::V3::N0)))^.ret (.tup (V6::.bin .BitOr (.ix V4 J1) (.ix V5 J1)::.call 33 (V0::V2::V3::N0)::N0))^K0
def aRg:Sx:=.ret (.tup (.bin .BitXor (.call 0 (V0::N0)) V1::V1::J1::N0))^K0
def aPd:Sx:=.ret (.bin .BitOr (.bin .BitAnd (.ix V0 J0) (.ix V1 J1)) (.bin .BitAnd (.ix V0 J1) (.ix V1 J0)))^K0
def aOX:Sx:=.set 3 (.blt .mn (.ix V1 J2::.ix V2 J2::N0))^.ifs (.cmp .Eq V0 (.str "and")) (.ret (.tup (.bin .BitOr (.ix V1 J0) (.ix V2 J0)::.bin .BitAnd (.ix V1 J1) (.ix V2 J1)::V3::N0))^K0) .skip^.ifs (.cmp .Eq V0 (.str "or")) (.ret (.tup (.bin .BitAnd (.ix V1 J0) (.ix V2 J0)::.bin .BitOr (.ix V1 J1) (.ix V2 J1)::V3::N0))^K0) .skip^.set 4 (.bin .BitOr (.bin .BitAnd (.ix V1 J0) (.ix V2 J0)) (.bin .BitAnd (.ix V1 J1) (.ix V2 J1)))^.ret (.tup (V4::.call 36 (V1::V2::N0)::V3::N0))^K0
def aQa:Sx:=.set 3 (.bin .BitOr (.bin .LShift (.ix V1 J0) V2) (.call 0 (V2::N0)))^.ret (.tup (.bin .BitAnd V3 (.call 0 (V0::N0))::.bin .BitAnd (.bin .LShift (.ix V1 J1) V2) (.call 0 (V0::N0))::.blt .mx (J1::.bin .Sub (.ix V1 J2) V2::N0)::N0))^K0
def aPu:Sx:=.set 3 (.bin .BitOr (.bin .RShift (.ix V1 J0) V2) (.call 22 (.blt .mn (V2::V0::N0)::V0::N0)))^.ret (.tup (V3::.bin .RShift (.ix V1 J1) V2::.ite (.cmp .Eq V2 J0) (.ix V1 J2) J1::N0))^K0
def aPg:Sx:=.set 3 (.bin .Add V0 V2)^.ret (.tup (.bin .RShift (.call 5 (.ix V1 J0::V0::V3::N0)) V2::.bin .RShift (.call 5 (.ix V1 J1::V0::V3::N0)) V2::.blt .mn (V0::.bin .Add (.ix V1 J2) V2::N0)::N0))^K0
def aPv:Sx:=.ifs (.cmp .Eq V0 (.str "left")) (.ret (.call 38 (V1::V2::V3::N0))^K0) .skip^.ifs (.cmp .Eq V0 (.str "right")) (.ret (.call 39 (V1::V2::V3::N0))^K0) .skip^.ret (.call 40 (V1::V2::V3::N0))^K0
def aRE:Sx:=.setT (.many [4,5,6]) V3^.ifs (.cmp .Eq V0 (.str "cut")) (.ret (.tup (.bin .BitAnd V4 (.call 0 (V2::N0))::.bin .BitAnd V5 (.call 0 (V2::N0))::.blt .mx (J1::.bin .Sub V6 (.bin .Sub V1 V2)::N0)::N0))^K0) .skip^.ifs (.cmp .Eq V0 (.str "wide")) (.ret (.tup (.bin .BitOr V4 (.call 22 (.bin .Sub V2 V1::V2::N0))::V5::.ite (.cmp .Eq V2 V1) V6 J1::N0))^K0) .skip^.ret (.tup (.call 5 (V4::V1::V2::N0)::.call 5 (V5::V1::V2::N0)::.bin .Add V6 (.bin .Sub V2 V1)::N0))^K0
def aQl:Sx:=.ifs (.cmp .NotEq (.call 36 (V1::V2::N0)) J0) (.ret (.con "NOUGHT" aDU)^K0) .skip^.ifs (.cmp .Eq (.bin .BitAnd (.call 23 (V1::N0)) (.call 23 (V2::N0))) (.call 0 (V0::N0))) (.ret (.con "ONE" aFk)^K0) .skip^.ret (.con "NOTHING" aBq)^K0
def aQh:Sx:=.ifs (.cmp .Lt (.call 27 (V1::V0::N0)) (.call 26 (V2::N0))) (.ret (.con "ONE" aFk)^K0) .skip^.ifs (.cmp .GtE (.call 26 (V1::N0)) (.call 27 (V2::V0::N0))) (.ret (.con "NOUGHT" aDU)^K0) .skip^.ret (.con "NOTHING" aBq)^K0
def aPy:Sx:=.setT (.many [3,4,5]) V0^.set 2 (.bin .BitAnd (.bin .BitXor V3 V4) (.call 22 (J1::V1::N0)))^.ret (.tup (.bin .BitXor V3 V2::.bin .BitXor V4 V2::V5::N0))^K0
def aOV:Sx:=.ifs (.cmp .Eq V0 (.str "same")) (.ret (.call 43 (V1::V2::V3::N0))^K0) .skip^.ifs (.cmp .Eq V0 (.str "less")) (.ret (.call 44 (V1::V2::V3::N0))^K0) .skip^.ret (.call 44 (V1::.call 45 (V2::V1::N0)::.call 45 (V3::V1::N0)::N0))^K0
def aQt:Sx:=.ifs (.cmp .Eq (.ix V0 J1) J1) (.ret V1^K0) .skip^.ifs (.cmp .Eq (.ix V0 J0) J1) (.ret V2^K0) .skip^.ret (.tup (.bin .BitAnd (.ix V1 J0) (.ix V2 J0)::.bin .BitAnd (.ix V1 J1) (.ix V2 J1)::.blt .mn (.ix V1 J2::.ix V2 J2::N0)::N0))^K0
def aBf:Sx:=.set 3 (.ix V0 J0)^.set 4 (.ix V0 J1)^.ifs (.cmp .Eq V3 (.str "in")) (.ret (.con "NOTHING" aBq)^K0) .skip^.ifs (.cmp .Eq V3 (.str "num")) (.ret (.call 35 (V4::.ix V0 J2::N0))^K0) .skip^.ifs (.cmp .Eq V3 (.str "not")) (.ret (.tup (.ix (.ix V2 J0) J1::.ix (.ix V2 J0) J0::.ix (.ix V2 J0) J2::N0))^K0) .skip^.ifs (.cmp .In V3 (.con "SUMS" aLZ)) (.ret (.call 34 (V3::V4::.ix V2 J0::.ix V2 J1::N0))^K0) .skip^.ifs (.cmp .In V3 (.con "SHIFTS" wS)) (.ret (.call 41 (V3::V4::.ix V2 J0::.ix V0 J3::N0))^K0) .skip^.ifs (.cmp .In V3 (.con "COMPARES" nT)) (.ret (.call 46 (V3::.ix V1 J0::.ix V2 J0::.ix V2 J1::N0))^K0) .skip^.ifs (.cmp .Eq V3 (.str "pick")) (.ret (.call 47 (.ix V2 J0::.ix V2 J1::.ix V2 J2::N0))^K0) .skip^.ifs (.cmp .In V3 (.tup (.str "and"::.str "or"::.str "xor"::N0))) (.ret (.call 37 (V3::.ix V2 J0::.ix V2 J1::N0))^K0) .skip^.ret (.call 42 (V3::.ix V1 J0::V4::.ix V2 J0::N0))^K0
def aYK:Sx:=.ret (.call 25 (.call 48 (V0::V1::V2::N0)::.ix V0 J1::N0))^K0
def aHo:E:=.it (.ix V0 J0)
def aHr:Sx:=.expr (.app V2 (.call 49 (V3::.call 9 (V3::V1::N0)::.call 9 (V3::V2::N0)::N0)))^K0
def aQC:Sx:=.set 1 (.call 11 (V0::N0))^.set 2 (.new (.lst .nil))^.loop (.one 3) aHo aHr^.ret (.blt .tup (V2::N0))^K0
def aA5:E:=.enm (.ix V0 J0)
def aA3:Sx:=.ifs (.not (.call 24 (.ix V1 V3::.call 49 (V4::.call 9 (V4::V2::N0)::.call 9 (V4::V1::N0)::N0)::N0))) (.ret V3^K0) .skip^K0
def aHK:Sx:=.set 2 (.call 11 (V0::N0))^.loop (.many [3,4]) aA5 aA3^.ret .non^K0
def aDH:Sx:=.setT (.many [5,6]) V0^.set 4 (.bin .RShift V2 V6)^.ifs (.cmp .Eq V4 J0) (.ret (.bl Z)^K0) .skip^.ifs (.cmp .Eq V5 (.str "nought")) (.ret (.cmp .Eq (.bin .BitAnd V4 (.un .Invert (.bin .RShift (.ix V1 J0) V6))) J0)^K0) .skip^.ret (.and (.cmp .Eq V5 (.str "sign")) (.and (.cmp .Eq (.bin .BitAnd (.bin .RShift V2 (.bin .Sub V6 J1)) J1) J1) (.cmp .LtE (.bin .Add (.bin .Sub V3 V6) J1) (.ix V1 J2))))^K0
def aGQ:E:=.comp V4 (.one 4) (.rng2 J1 (.bin .Add V3 J1)) (.call 52 (.tup (V0::V4::N0)::V1::V2::V3::N0))
def aO2:Sx:=.ret (.blt .mn (.fz aGQ::N0))^K0
def aDe:E:=.comp (.call 53 (V5::V0::V1::V2::N0)) (.one 5) (.it (.con "WORDS" aBD)) .no
def aPI:Sx:=.setC Ff 3 aDe^.set 4 (.blt .mn (V3::N0))^.ret (.tup (.ix (.con "WORDS" aBD) (.idx V3 V4)::V4::N0))^K0
def aRk:Sx:=.ifs (.cmp .Eq (.ix V0 J0) (.str "in")) (.ret (.tup (.str "cut"::.ix V0 J1::N0))^K0) .skip^.ifs (.cmp .Eq V2 J0) (.ret .non^K0) .skip^.ret (.call 54 (V1::V2::.ix V0 J1::N0))^K0
def aGO:E:=.comp (.call 55 (V3::V4::V5::N0)) (.many [3,4,5]) (.zip3 (.ix V0 J0) V1 V2) .no
def aHq:Sx:=.ret (.blt .tup (.fz aGO::N0))^K0
def aYC:Sx:=.ret (.call 56 (V0::V1::V2::N0))^K0
def aQB:Sx:=.ifs (.cmp .Eq (.ix V0 J0) (.str "in")) (.ret (.cmp .Eq V3 (.tup (.str "cut"::.ix V0 J1::N0)))^K0) .skip^.ifs (.or (.cmp .Eq V2 J0) (.cmp .Is V3 .non)) (.ret (.and (.cmp .Eq V2 J0) (.cmp .Is V3 .non))^K0) .skip^.ret (.call 52 (V3::V1::V2::.ix V0 J1::N0))^K0
def aG0:E:=.enm (.ix V0 J0)
def aG2:Sx:=.ifs (.not (.call 58 (V5::.ix V1 V4::.ix V2 V4::.ix V3 V4::N0))) (.ret V4^K0) .skip^K0
def aPi:Sx:=.loop (.many [4,5]) aG0 aG2^.ret .non^K0
def aZA:Sx:=.expr (.app (.fld V0 "rows") V1)^.ret (.bin .Sub (.blt .len (.fld V0 "rows"::N0)) J1)^K0
def aP7:Sx:=.ifs (.din Z V1 (.fld V0 "once")) (.dput (.fld V0 "once") V1 (.mth "make" 60 V0 (V1::N0))^K0) .skip^.ret (.dget (.fld V0 "once") V1)^K0
def aMi:Sx:=.set 3 (.ix (.fld V0 "stays") V1)^.ifs (.cmp .Is V3 .non) (.ret (.mth "make_once" 61 V0 (.tpl (.str "num"::V2::J0::N0)::N0))^K0) .skip^.setT (.many [4,5]) V3^.ifs (.cmp .Eq V5 V2) (.ret (.ix (.fld V0 "places") V1)^K0) .skip^.ifs (.cmp .Gt V5 V2) (.ret (.mth "make_once" 61 V0 (.tpl (.str "cut"::V2::.ix (.fld V0 "places") V1::N0)::N0))^K0) .skip^.ret (.mth "make_once" 61 V0 (.tpl (.ite (.cmp .Eq V4 (.str "sign")) (.str "sign") (.str "wide")::V2::.ix (.fld V0 "places") V1::N0)::N0))^K0
def aHA:Sx:=.set 3 (.blt .mn (.ix V1 J1::.bin .Add V2 (.ix V1 J3)::N0))^.set 4 (.mth "fetch" 62 V0 (.ix V1 J2::V3::N0))^.set 5 (.mth "make" 60 V0 (.tup (.ix V1 J0::V3::V4::.ix V1 J3::N0)::N0))^.ifs (.cmp .Gt V3 V2) (.ret (.mth "make_once" 61 V0 (.tpl (.str "cut"::V2::V5::N0)::N0))^K0) .skip^.ret V5^K0
def aOP:Sx:=.set 3 (.call 10 (.fld V0 "program"::.ix V1 J2::N0))^.ifs (.cmp .LtE V2 V3) (.ret (.mth "fetch" 62 V0 (.ix V1 J2::V2::N0))^K0) .skip^.ret (.mth "make_once" 61 V0 (.tpl (.ix V1 J0::V2::.mth "fetch" 62 V0 (.ix V1 J2::V3::N0)::N0)::N0))^K0
def aGX:Sx:=.set 4 (.blt .mx (.ix V1 J1::.ix V2 J1::N0))^.set 5 (.cou Ff (.ix V1 J0::.ix V2 J0::N0) (.str "sign"))^.ifs (.cmp .Eq V5 J1) (.ret V3^K0) .skip^.ifs (.and (.cmp .Eq V5 J0) (.cmp .Eq V0 (.str "under"))) (.ret (.blt .mn (V3::.bin .Add V4 J1::N0))^K0) .skip^.ret V4^K0
def aGI:E:=.comp (.mth "fetch" 62 V0 (V7::V3::N0)) (.one 7) (.it (.tup (V5::V6::N0))) .no
def aOU:Sx:=.setT (.many [5,6]) (.call 7 (V1::N0))^.set 2 (.call 10 (.fld V0 "program"::V5::N0))^.set 3 (.call 65 (.ix V1 J0::.ix (.fld V0 "stays") V5::.ix (.fld V0 "stays") V6::V2::N0))^.set 4 (.blt .tup (.fz aGI::N0))^.ret (.mth "make" 60 V0 (.bin .Add (.tup (.ix V1 J0::J1::N0)) V4::N0))^K0
def aHi:E:=.comp (.mth "fetch" 62 V0 (V4::V2::N0)) (.one 4) (.it (.call 7 (V1::N0))) .no
def aP8:Sx:=.setC Ff 3 aHi^.ret (.mth "make" 60 V0 (.call 8 (.bin .Add (.tup (.ix V1 J0::V2::N0)) (.sl V1 (J2::N0) .no)::.blt .tup (V3::N0)::N0)::N0))^K0
def aHh:E:=.comp (.mth "fetch" 62 V0 (V5::V2::N0)) (.one 5) (.it (.sl V1 (J3::N0) .no)) .no
def aP3:Sx:=.set 3 (.mth "fetch" 62 V0 (.ix V1 J2::J1::N0))^.set 4 (.blt .tup (.fz aHh::N0))^.ret (.mth "make" 60 V0 (.bin .Add (.tup (.str "pick"::V2::V3::N0)) V4::N0))^K0
def aIt:Sx:=.set 3 (.ix V1 J0)^.ifs (.cmp .Eq V3 (.str "in")) (.ret (.mth "make" 60 V0 (V1::N0))^K0) .skip^.ifs (.cmp .Eq V3 (.str "num")) (.ret (.mth "make" 60 V0 (.tup (.str "num"::V2::.bin .BitAnd (.ix V1 J2) (.call 0 (V2::N0))::N0)::N0))^K0) .skip^.ifs (.cmp .In V3 (.tup (.str "right"::.str "slide"::N0))) (.ret (.call 63 (V0::V1::V2::N0))^K0) .skip^.ifs (.cmp .Eq V3 (.str "cut")) (.ret (.mth "fetch" 62 V0 (.ix V1 J2::V2::N0))^K0) .skip^.ifs (.cmp .In V3 (.con "WIDENINGS" tG)) (.ret (.call 64 (V0::V1::V2::N0))^K0) .skip^.ifs (.cmp .In V3 (.con "COMPARES" nT)) (.ret (.call 66 (V0::V1::N0))^K0) .skip^.ifs (.cmp .Eq V3 (.str "pick")) (.ret (.call 68 (V0::V1::V2::N0))^K0) .skip^.ret (.call 67 (V0::V1::V2::N0))^K0
def aHC:E:=.comp (.mth "fetch" 62 V4 (V9::.call 10 (V0::V9::N0)::N0)) (.one 9) (.it (.ix V0 J1)) .no
def aDn:E:=.zip (.ix V0 J0) V3
def wF:Sx:=.set 8 (.ite (.cmp .Is V7 .non) .non (.call 69 (V4::V6::.ix V7 J1::N0)))^.expr (.app (.fld V4 "places") V8)^K0
def aJR:Sx:=.set 4 (.mk cl_ini 3 (V0::V3::N0))^.loop (.many [6,7]) aDn wF^.set 5 (.blt .tup (.fz aHC::N0))^.ret (.tup (.blt .tup (.fld V4 "rows"::N0)::V5::N0))^K0
def aG8:E:=.comp (.cmp .Eq V4 V3) (.one 4) (.it V1) .no
def aHs:Sx:=.set 2 (.ix V0 J0)^.set 3 (.ix V0 J1)^.ifs (.cmp .In V2 (.con "COMPARES" nT)) (.ret (.and (.cmp .Eq V3 J1) (.cmp .Eq (.ix V1 J0) (.ix V1 J1)))^K0) .skip^.ifs (.cmp .Eq V2 (.str "pick")) (.ret (.cmp .Eq V1 (.tup (J1::V3::V3::N0)))^K0) .skip^.ifs (.cmp .Eq V2 (.str "cut")) (.ret (.cmp .GtE (.ix V1 J0) V3)^K0) .skip^.ifs (.cmp .In V2 (.con "WIDENINGS" tG)) (.ret (.cmp .LtE (.ix V1 J0) V3)^K0) .skip^.ret (.blt .all (.fz aG8::N0))^K0
def aO1:Sx:=.ifs (.cmp .Eq (.ix V0 J0) (.str "num")) (.ret (.cmp .LtE (.ix V0 J2) (.call 0 (.ix V0 J1::N0)))^K0) .skip^.ifs (.cmp .In (.ix V0 J0) (.con "SHIFTS" wS)) (.ret (.cmp .LtE (.ix V0 J3) (.int 63))^K0) .skip^.ret (.bl Z)^K0
def aGR:E:=.comp (.ix V5 J1) (.one 5) (.it (.call 9 (V2::V0::N0))) .no
def aGL:E:=.comp (.cmp .GtE V4 V1) (.one 4) (.it (.call 7 (V2::N0))) .no
def aPe:Sx:=.set 2 (.ix V0 V1)^.ifs (.or (.cmp .Lt (.ix V2 J1) J1) (.cmp .Gt (.ix V2 J1) (.int 64))) (.nev^K0) .skip^.ifs (.blt .any (.fz aGL::N0)) (.nev^K0) .skip^.set 3 (.blt .tup (.fz aGR::N0))^.ifs (.not (.call 71 (V2::V3::N0))) (.nev^K0) .skip^.ifs (.not (.call 72 (V2::N0))) (.nev^K0) .skip^K0
def aI3:E:=.comp (.cmp .GtE V4 (.blt .len (V2::N0))) (.one 4) (.it V3) .no
def aDZ:E:=.rng1 (.blt .len (V2::N0))
def aIV:Sx:=.expr (.call 73 (V2::V1::N0))^K0
def bAV:Sx:=.setT (.many [2,3]) V0^.loop (.one 1) aDZ aIV^.ifs (.blt .any (.fz aI3::N0)) (.nev^K0) .skip^.ret (.bl Z)^K0
def aTI:Sx:=.ret (.bin .BitXor V0 (.bin .LShift J1 (.bin .Sub V1 J1)))^K0
def aRc:Sx:=.ifs (.cmp .Eq V0 (.str "same")) (.set 4 (.cmp .Eq V2 V3)^K0) (.ifs (.cmp .Eq V0 (.str "less")) (.set 4 (.cmp .Lt V2 V3)^K0) (.set 4 (.cmp .Lt (.call 75 (V2::V1::N0)) (.call 75 (V3::V1::N0)))^K0)^K0)^.ret (.ite V4 J1 J0)^K0
def aSH:Sx:=.ifs (.cmp .Eq V0 (.str "left")) (.ret (.bin .BitAnd (.bin .LShift V2 V3) (.call 0 (V1::N0)))^K0) .skip^.ifs (.cmp .Eq V0 (.str "right")) (.ret (.bin .RShift V2 V3)^K0) .skip^.ret (.bin .RShift (.call 5 (V2::V1::.bin .Add V1 V3::N0)) V3)^K0
def aRB:Sx:=.ifs (.cmp .Eq V0 (.str "and")) (.ret (.bin .BitAnd V2 V3)^K0) .skip^.ifs (.cmp .Eq V0 (.str "or")) (.ret (.bin .BitOr V2 V3)^K0) .skip^.ifs (.cmp .Eq V0 (.str "xor")) (.ret (.bin .BitXor V2 V3)^K0) .skip^.ifs (.cmp .Eq V0 (.str "add")) (.ret (.bin .BitAnd (.bin .Add V2 V3) (.call 0 (V1::N0)))^K0) .skip^.ifs (.cmp .Eq V0 (.str "sub")) (.ret (.bin .BitAnd (.bin .Sub V2 V3) (.call 0 (V1::N0)))^K0) .skip^.ret (.bin .BitAnd (.bin .Mult V2 V3) (.call 0 (V1::N0)))^K0
def bAo:Sx:=.set 3 (.ix V0 J0)^.set 4 (.ix V0 J1)^.ifs (.cmp .Eq V3 (.str "num")) (.ret (.ix V0 J2)^K0) .skip^.ifs (.cmp .Eq V3 (.str "not")) (.ret (.bin .BitXor (.ix V2 J0) (.call 0 (V4::N0)))^K0) .skip^.ifs (.cmp .In V3 (.con "SHIFTS" wS)) (.ret (.call 77 (V3::V4::.ix V2 J0::.ix V0 J3::N0))^K0) .skip^.ifs (.cmp .Eq V3 (.str "cut")) (.ret (.bin .BitAnd (.ix V2 J0) (.call 0 (V4::N0)))^K0) .skip^.ifs (.cmp .Eq V3 (.str "wide")) (.ret (.ix V2 J0)^K0) .skip^.ifs (.cmp .Eq V3 (.str "sign")) (.ret (.call 5 (.ix V2 J0::.ix V1 J0::V4::N0))^K0) .skip^.ifs (.cmp .In V3 (.con "COMPARES" nT)) (.ret (.call 76 (V3::.ix V1 J0::.ix V2 J0::.ix V2 J1::N0))^K0) .skip^.ifs (.cmp .Eq V3 (.str "pick")) (.ret (.ite (.cmp .Eq (.ix V2 J0) J1) (.ix V2 J1) (.ix V2 J2))^K0) .skip^.ret (.call 78 (V3::V4::.ix V2 J0::.ix V2 J1::N0))^K0
def aHQ:E:=.zip (.ix V0 J0) V2
def aHV:Sx:=.ifs (.cmp .Eq (.ix V6 J0) (.str "in")) (.set 8 (.ix V1 V5)^.set 5 (.bin .Add V5 J1)^K0) (.set 8 (.call 79 (V6::.call 9 (V6::V3::N0)::.call 9 (V6::V4::N0)::N0))^K0)^.expr (.app V4 (.bin .BitXor V8 V7))^K0
def aT8:Sx:=.set 3 (.call 11 (V0::N0))^.set 4 (.new (.lst .nil))^.set 5 J0^.loop (.many [6,7]) aHQ aHV^.ret (.blt .tup (V4::N0))^K0
def bBd:Sx:=.ret (.call 80 (V0::V1::.bin .Mult (.tup (J0::N0)) (.blt .len (.ix V0 J0::N0))::N0))^K0
def aHH:E:=.comp (.ix V1 V2) (.one 2) (.it (.ix V0 J1)) .no
def aJO:Sx:=.ret (.blt .tup (.fz aHH::N0))^K0
def aZ0:Sx:=.ret (.call 82 (V0::.call 81 (V0::V1::N0)::N0))^K0
def tJ:Sx:=.setT (.many [3,4]) (.sl V0 .no (J2::N0))^.put V0 J1 (.bin .Add V4 J1)^.ifs (.and (.cmp .Lt (.bin .Add (.bin .FloorDiv V4 (.int 12)) J1) (.blt .len (V3::N0))) (.cmp .Eq (.bin .Mod (.ix V3 J0) J2) J1)) (.ifs (.cmp .Eq (.bin .Mod V4 (.int 12)) J0) (.put V0 J2 (.ix V3 (.bin .Add (.bin .FloorDiv V4 (.int 12)) J1))^K0) .skip^.set 5 (.bin .Mod (.ix V0 J2) V1)^.put V0 J2 (.bin .FloorDiv (.ix V0 J2) V1)^.ret V5^K0) .skip^.ifs (.cmp .Lt V4 (.blt .len (V3::N0))) (.ret (.bin .Mod (.ix V3 V4) V1)^K0) .skip^.set 2 (.bin .Add (.bin .Mult V4 (.int 7919)) J5)^.ifs (.cmp .Gt (.blt .len (.ix V0 J0::N0)) J0) (.set 2 (.bin .Add V2 (.bin .Mult (.ix (.ix V0 J0) (.bin .Mod (.bin .Mult V4 J7) (.blt .len (.ix V0 J0::N0)))) (.bin .Add (.int 48271) V4)))^K0) .skip^.set 2 (.bin .Mod (.bin .Mult (.bin .Mod V2 (.int 2147483629)) (.bin .Add V4 J3)) (.int 2147483629))^.set 2 (.bin .Mod (.bin .Mult V2 V2) (.int 2147483587))^.ret (.bin .Mod (.bin .Mod (.bin .Mult V2 V2) (.int 1999999973)) V1)^K0
def aPf:Sx:=.ifs (.cmp .Lt V1 (.int 31)) (.ret (.call 84 (V0::.bin .LShift J1 V1::N0))^K0) .skip^.ret (.bin .Add (.call 84 (V0::.bin .LShift J1 (.int 30)::N0)) (.bin .LShift (.call 84 (V0::.bin .LShift J1 (.bin .Sub V1 (.int 30))::N0)) (.int 30)))^K0
def aPE:Sx:=.ret (.ix (.fz (.lst (J1::.int 64::.bin .Add J1 (.call 84 (V0::J8::N0))::.bin .Add J1 (.call 84 (V0::.int 64::N0))::N0))) (.call 84 (V0::J4::N0)))^K0
def aDx:Sx:=.set 2 (.call 84 (V0::J5::N0))^.set 3 (.fz (.lst (J0::.bin .Sub (.bin .LShift J1 V1) J1::.bin .LShift J1 (.call 84 (V0::V1::N0))::.bin .Sub (.bin .LShift J1 (.call 84 (V0::V1::N0))) J1::N0)))^.ifs (.cmp .Lt V2 J4) (.ret (.ix V3 V2)^K0) .skip^.ret (.call 85 (V0::V1::N0))^K0
def aIf:Sx:=.ifs (.cmp .Eq (.ix (.ix V1 V2) J1) V3) (.ret V2^K0) .skip^.set 4 (.ix (.fz (.lst (.str "wide"::.str "sign"::N0))) (.call 84 (V0::J2::N0)))^.ifs (.cmp .Gt (.ix (.ix V1 V2) J1) V3) (.set 4 (.str "cut")^K0) .skip^.expr (.app V1 (.tup (V4::V3::V2::N0)))^.ret (.bin .Sub (.blt .len (V1::N0)) J1)^K0
def aGJ:E:=.comp V4 (.one 4) (.rng1 (.blt .len (V1::N0))) (.cmp .Eq (.ix (.ix V1 V4) J1) V2)
def aDg:Sx:=.setC Ff 3 aGJ^.ifs (.and (.cmp .NotEq V3 (.fz (.lst .nil))) (.cmp .Gt (.call 84 (V0::J4::N0)) J0)) (.ret (.ix V3 (.bin .Sub (.bin .Sub (.blt .len (V3::N0)) J1) (.call 84 (V0::.blt .len (V3::N0)::N0))))^K0) .skip^.ret (.call 88 (V0::V1::.call 84 (V0::.blt .len (V1::N0)::N0)::V2::N0))^K0
def aOG:Sx:=.set 3 (.call 84 (V0::.blt .len (V1::N0)::N0))^.set 4 (.ix (.ix V1 V3) J1)^.ifs (.cmp .Eq V2 (.str "cut")) (.ret (.tup (.str "cut"::.bin .Add J1 (.call 84 (V0::V4::N0))::V3::N0))^K0) .skip^.ret (.tup (V2::.bin .Add V4 (.call 84 (V0::.bin .Sub (.int 65) V4::N0))::V3::N0))^K0
def aPD:Sx:=.set 4 (.ix (.fz (.lst (.call 84 (V0::V3::N0)::.call 84 (V0::.int 64::N0)::N0))) (.bin .FloorDiv (.call 84 (V0::J4::N0)) J3))^.ret (.tup (V2::V3::.call 89 (V0::V1::V3::N0)::V4::N0))^K0
def aHX:Sx:=.set 4 (.call 89 (V0::V1::V3::N0))^.set 5 (.call 89 (V0::V1::V3::N0))^.ifs (.cmp .In V2 (.tup (.str "same"::.str "less"::.str "under"::N0))) (.set 3 J1^K0) .skip^.ret (.tup (V2::V3::V4::V5::N0))^K0
def tK:Sx:=.set 2 (.fz (.lst (.str "in"::.str "num"::.str "num"::.str "not"::.str "and"::.str "or"::.str "xor"::.str "add"::.str "sub"::.str "mul"::.str "left"::.str "right"::.str "slide"::.str "cut"::N0)))^.set 2 (.bin .Add V2 (.fz (.lst (.str "wide"::.str "sign"::.str "same"::.str "less"::.str "under"::.str "pick"::N0))))^.set 3 (.ix V2 (.call 84 (V0::.int 20::N0)))^.set 4 (.ix (.ix V1 (.call 84 (V0::.blt .len (V1::N0)::N0))) J1)^.ifs (.cmp .Eq (.call 84 (V0::J4::N0)) J1) (.set 4 (.call 86 (V0::N0))^K0) .skip^.ifs (.cmp .Eq V3 (.str "in")) (.set 5 (.tup (.str "in"::V4::N0))^K0) (.ifs (.cmp .Eq V3 (.str "num")) (.set 5 (.tup (.str "num"::V4::.call 87 (V0::V4::N0)::N0))^K0) (.ifs (.cmp .Eq V3 (.str "not")) (.set 5 (.tup (.str "not"::V4::.call 89 (V0::V1::V4::N0)::N0))^K0) (.ifs (.cmp .In V3 (.tup (.str "left"::.str "right"::.str "slide"::N0))) (.set 5 (.call 91 (V0::V1::V3::V4::N0))^K0) (.ifs (.cmp .In V3 (.tup (.str "cut"::.str "wide"::.str "sign"::N0))) (.set 5 (.call 90 (V0::V1::V3::N0))^K0) (.ifs (.cmp .Eq V3 (.str "pick")) (.set 6 (.call 89 (V0::V1::J1::N0))^.set 5 (.bin .Add (.tup (.str "pick"::V4::V6::N0)) (.sl (.call 92 (V0::V1::V3::V4::N0)) (J2::N0) .no))^K0) (.set 5 (.call 92 (V0::V1::V3::V4::N0))^K0)^K0)^K0)^K0)^K0)^K0)^.expr (.app V1 V5)^K0
def aGF:E:=.rng1 (.ix (.fz (.lst (.call 84 (V0::J3::N0)::J7::N0))) (.blt .int (.cmp .Eq (.call 84 (V0::J8::N0)) J1::N0)))
def aGH:Sx:=.expr (.app V6 (.call 84 (V0::.blt .len (V3::N0)::N0)))^K0
def aGG:E:=.rng1 V1
def aGK:Sx:=.ifs (.cmp .Lt (.blt .len (V3::N0)) (.int 37)) (.expr (.call 93 (V0::V3::N0))^K0) .skip^K0
def aDh:Sx:=.set 2 (.call 86 (V0::N0))^.set 3 (.new (.lst (.tup (.str "in"::V2::N0)::N0)))^.ifs (.cmp .Eq (.call 84 (V0::J8::N0)) J1) (.set 3 (.new (.lst (.tup (.str "num"::V2::.call 87 (V0::V2::N0)::N0)::N0)))^K0) .skip^.loop (.one 4) aGG aGK^.set 5 (.fz (.lst (.bin .Sub (.blt .len (V3::N0)) J1::.call 84 (V0::.blt .len (V3::N0)::N0)::N0)))^.set 6 (.new (.lst (.ix V5 (.blt .int (.cmp .Eq (.call 84 (V0::J4::N0)) J1::N0))::N0)))^.loop (.one 4) aGF aGH^.ret (.tup (.blt .tup (V3::N0)::.blt .tup (V6::N0)::N0))^K0
def aGE:E:=.rng1 J2
def aA2:Sx:=.expr (.app V2 (.tup (.str "in"::.bin .Add J1 (.call 84 (V0::V1::N0))::N0)))^.expr (.app V2 (.tup (.ix (.fz (.lst (.str "wide"::.str "sign"::N0))) (.call 84 (V0::J2::N0))::V1::.bin .Sub (.blt .len (V2::N0)) J1::N0)))^.ifs (.cmp .Eq (.call 84 (V0::J3::N0)) J1) (.expr (.app V2 (.tup (.str "slide"::V1::.bin .Sub (.blt .len (V2::N0)) J1::.call 84 (V0::V1::N0)::N0)))^K0) .skip^.expr (.app V3 (.bin .Sub (.blt .len (V2::N0)) J1))^K0
def aON:Sx:=.set 1 (.bin .Add J2 (.call 84 (V0::.int 63::N0)))^.set 2 (.new (.lst .nil))^.set 3 (.new (.lst .nil))^.loop (.one 4) aGE aA2^.set 5 (.ix (.fz (.lst (.str "same"::.str "less"::.str "under"::N0))) (.call 84 (V0::J3::N0)))^.expr (.app V2 (.tup (V5::J1::.ix V3 J0::.ix V3 J1::N0)))^.expr (.app V2 (.tup (.str "pick"::V1::.bin .Sub (.blt .len (V2::N0)) J1::.ix V3 J1::.ix V3 J0::N0)))^.ret (.tup (.blt .tup (V2::N0)::.tup (.bin .Sub (.bin .Sub (.blt .len (V2::N0)) J1) (.call 84 (V0::J2::N0))::.bin .Sub (.blt .len (V2::N0)) J2::N0)::N0))^K0
def aOH:Sx:=.ifs (.cmp .Eq (.call 84 (V0::J6::N0)) J1) (.ret (.call 95 (V0::N0))^K0) .skip^.ret (.call 94 (V0::.bin .Add J1 (.blt .mn (.blt .len (.ix V0 J0::N0)::.int 24::N0))::N0))^K0
def aGN:E:=.it (.ix V1 J0)
def aGP:Sx:=.ifs (.cmp .Eq (.ix V3 J0) (.str "in")) (.expr (.app V2 (.call 87 (V0::.ix V3 J1::N0)))^K0) .skip^K0
def aO9:Sx:=.set 2 (.new (.lst .nil))^.loop (.one 3) aGN aGP^.ret (.blt .tup (V2::N0))^K0
def aDj:Sx:=.ifs (.cmp .Gt (.call 84 (V0::J3::N0)) J0) (.ret V1^K0) .skip^.set 3 (.bin .BitOr (.call 85 (V0::V2::N0)) (.call 85 (V0::V2::N0)))^.ret (.tup (.bin .BitAnd (.ix V1 J0) V3::.bin .BitAnd (.ix V1 J1) V3::.bin .Add J1 (.call 84 (V0::.ix V1 J2::N0))::N0))^K0
def aGW:E:=.comp (.ix (.ix (.ix V1 J0) V6) J1) (.one 6) (.it (.call 7 (V3::N0))) .no
def aOM:E:=.comp (.ix V2 V6) (.one 6) (.it (.call 7 (V3::N0))) .no
def aGV:E:=.it (.ix V1 J0)
def aG3:Sx:=.setC Ff 4 aOM^.setC Ff 5 aGW^.expr (.app V2 (.call 98 (V0::.call 49 (V3::.blt .tup (V5::N0)::.blt .tup (V4::N0)::N0)::.ix V3 J1::N0)))^K0
def aPh:Sx:=.ifs (.cmp .Eq (.call 84 (V0::J2::N0)) J1) (.ret (.call 50 (V1::N0))^K0) .skip^.set 2 (.new (.lst .nil))^.loop (.one 3) aGV aG3^.ret (.blt .tup (V2::N0))^K0
def aDd:E:=.comp (.ix V2 (.var 11)) (.one 11) (.it V7) .no
def aA6:E:=.zip V7 (.call 18 (V6::V8::.blt .tup (.fz aDd::N0)::.ix V3 V4::N0))
def aA7:Sx:=.put V3 V9 (.bin .BitOr (.ix V3 V9) (.var 10))^K0
def aGT:E:=.comp (.ix (.ix (.ix V1 J0) V9) J1) (.one 9) (.it V7) .no
def aG9:E:=.rng1 (.blt .len (V3::N0))
def aA4:Sx:=.set 4 (.bin .Sub (.bin .Sub (.blt .len (V3::N0)) J1) V5)^.set 6 (.ix (.ix V1 J0) V4)^.ifs (.cmp .Eq (.call 84 (V0::J8::N0)) J1) (.put V3 V4 (.bin .BitOr (.ix V3 V4) (.bin .LShift J1 (.call 84 (V0::.ix V6 J1::N0))))^K0) .skip^.set 7 (.call 7 (V6::N0))^.set 8 (.blt .tup (.fz aGT::N0))^.loop (.many [9,10]) aA6 aA7^K0
def aG6:E:=.it (.ix V1 J1)
def aHa:Sx:=.put V3 V4 (.bin .Sub (.bin .LShift J1 (.ix (.ix (.ix V1 J0) V4) J1)) J1)^K0
def aG5:E:=.comp J0 (.one 6) (.it (.ix V1 J0)) .no
def aPx:Sx:=.ifs (.cmp .Eq (.call 84 (V0::J2::N0)) J1) (.ret (.call 20 (V1::V2::N0))^K0) .skip^.setC Z 3 aG5^.loop (.one 4) aG6 aHa^.loop (.one 5) aG9 aA4^.ret (.blt .tup (V3::N0))^K0
def aDc:Sx:=.ifs (.or (.cmp .Eq (.ix V1 J0) (.str "in")) (.or (.cmp .Is V4 .non) (.cmp .Eq (.call 84 (V0::J2::N0)) J1))) (.ret V4^K0) .skip^.set 5 (.ix (.fz (.lst (.str "cut"::.str "nought"::.str "sign"::N0))) (.call 84 (V0::J3::N0)))^.set 6 (.blt .mn (.ix V1 J1::.bin .Add (.ix V4 J1) (.call 84 (V0::J4::N0))::N0))^.ifs (.cmp .Eq (.call 84 (V0::J4::N0)) J1) (.set 6 (.bin .Add J1 (.call 84 (V0::.ix V1 J1::N0)))^K0) .skip^.ifs (.call 52 (.tup (V5::V6::N0)::V2::V3::.ix V1 J1::N0)) (.ret (.tup (V5::V6::N0))^K0) .skip^.ret V4^K0
def aDf:E:=.rng1 (.blt .len (V4::N0))
def aHb:Sx:=.expr (.app V5 (.call 101 (V0::.ix (.ix V1 J0) V6::.ix V2 V6::.ix V3 V6::.ix V4 V6::N0)))^K0
def aHw:Sx:=.set 4 (.call 57 (V1::V2::V3::N0))^.set 5 (.new (.lst .nil))^.loop (.one 6) aDf aHb^.ret (.blt .tup (V5::N0))^K0
def aKN:E:=.rng1 J4
def aKa:Sx:=.set 8 (.call 97 (V1::V2::N0))^.ifs (.cmp .NotEq (.call 83 (V6::V8::N0)) (.call 83 (V2::V8::N0))) (.ret (.bl Ff)^K0) .skip^K0
def bBl:Sx:=.set 1 (.new (.lst (V0::J0::J0::N0)))^.set 2 (.call 96 (V1::N0))^.set 3 (.call 99 (V1::V2::N0))^.set 4 (.call 100 (V1::V2::V3::N0))^.set 5 (.call 102 (V1::V2::V3::V4::N0))^.ifs (.or (.cmp .IsNot (.call 51 (V2::V3::N0)) .non) (.cmp .IsNot (.call 21 (V2::V3::V4::N0)) .non)) (.ret (.bl Ff)^K0) .skip^.ifs (.cmp .IsNot (.call 59 (V2::V3::V4::V5::N0)) .non) (.ret (.bl Ff)^K0) .skip^.set 6 (.call 70 (V2::V3::V4::V5::N0))^.ifs (.cmp .IsNot (.call 74 (V6::N0)) (.bl Z)) (.ret (.bl Ff)^K0) .skip^.loop (.one 7) aKN aKa^.ret (.bl Z)^K0
end
abbrev Fw(a:Str)(b:Nat)(c:List Str)(d:Sx)(e:Stmt):Fn:=(a,b,c,d,e,Ff,a,)
def fns:G Fn:=[
 Fw "full" 1 ["width"] aNz (top 1),
 Fw "reach" 1 ["number"] aMr (top 2),
 Fw "below" 1 ["number"] aLA (top 3),
 Fw "low_run" 1 ["number"] aJf (top 4),
 Fw "top_run" 2 ["number","width"] aIR (top 5),
 Fw "stretched" 3 ["number","width","wider","top"] aQb (top 6),
 Fw "shared_top" 3 ["least","greatest","width","known","ones"] aPB (top 7),
 Fw "operands" 1 ["row"] aQ7 (top 14),
 Fw "with_operands" 2 ["row","numbers"] aG7 (top 15),
 Fw "of_operands" 2 ["row","values","k"] aHm (top 16),
 Fw "width_of" 2 ["program","k","rows"] aIq (top 17),
 Fw "widths_of" 1 ["program","row"] aHY (top 18),
 Fw "settled_need" 3 ["first","second","mask"] aHg (top 20),
 Fw "mul_need" 3 ["first","second","mask","h","u","g"] aRs (top 21),
 Fw "folded" 2 ["mask","width"] aVD (top 22),
 Fw "shift_need" 4 ["word","width","k","mask"] aPC (top 23),
 Fw "pick_need" 2 ["choice","mask"] aQp (top 24),
 Fw "asking_need" 4 ["row","widths","facts","mask","word"] aPc (top 25),
 Fw "need" 4 ["row","widths","facts","mask"] bAU (top 26),
 Fw "row_needs" 4 ["program","facts","k","mask","row","widths","needs","operand"] aPN (top 28),
 Fw "asked" 2 ["program","facts","masks","out","k","rows","outs","operand","mask"] aWe (top 29),
 Fw "wrong_mask" 3 ["program","facts","masks","k","rows","outs","out","operand","mask"] aPm (top 30),
 Fw "top_mask" 2 ["count","width"] aIL (top 32),
 Fw "known_bits" 1 ["fact"] aHM (top 33),
 Fw "weaker" 2 ["one","other"] aBI (top 34),
 Fw "closed" 2 ["fact","width","top","noughts","ones","alike"] wY (top 35),
 Fw "least" 1 ["fact"] aLU (top 36),
 Fw "greatest" 2 ["fact","width"] aIa (top 37),
 Fw "outcome" 3 ["word","one","other"] aS0 (top 39),
 Fw "low_masks" 3 ["word","one","other","low","ones"] aQq (top 40),
 Fw "low_noughts" 4 ["word","width","one","other"] aO0 (top 41),
 Fw "bounds" 4 ["word","width","one","other","lowest","highest"] aUY (top 42),
 Fw "top_masks" 4 ["word","width","one","other","lowest","highest"] aQs (top 43),
 Fw "sum_alike" 3 ["word","one","other"] aQd (top 44),
 Fw "sum_fact" 4 ["word","width","one","other","low","top","noughts"] aRo (top 45),
 Fw "num_fact" 2 ["width","number"] aRg (top 50),
 Fw "unlike_bits" 2 ["one","other"] aPd (top 51),
 Fw "bitwise_fact" 3 ["word","one","other","alike","noughts"] aOX (top 52),
 Fw "left_fact" 3 ["width","fact","k","noughts"] aQa (top 53),
 Fw "right_fact" 3 ["width","fact","k","noughts"] aPu (top 54),
 Fw "slide_fact" 3 ["width","fact","k","wider"] aPg (top 55),
 Fw "shift_fact" 4 ["word","width","fact","k"] aPv (top 56),
 Fw "fit_fact" 4 ["word","v","w","fact","noughts","ones","alike"] aRE (top 57),
 Fw "same_fact" 3 ["width","one","other"] aQl (top 58),
 Fw "less_fact" 3 ["width","one","other"] aQh (top 59),
 Fw "top_turned" 2 ["fact","width","turning","noughts","ones","alike"] aPy (top 60),
 Fw "compare_fact" 4 ["word","width","one","other"] aOV (top 61),
 Fw "pick_fact" 3 ["choice","one","other"] aQt (top 62),
 Fw "open_fact" 3 ["row","widths","facts","word","width"] aBf (top 63),
 Fw "rule" 3 ["row","widths","facts"] aYK (top 64),
 Fw "facts_of" 1 ["program","widths","facts","row"] aQC (top 65),
 Fw "wrong_fact" 2 ["program","facts","widths","k","row"] aHK (top 66),
 Fw "lets_by" 4 ["stay","fact","mask","width","above","word","kept"] aDH (top 69),
 Fw "least_width" 4 ["word","fact","mask","width","kept"] aO2 (top 70),
 Fw "least_stay" 3 ["fact","mask","width","widths","kept","word"] aPI (top 71),
 Fw "row_stay" 3 ["row","fact","mask"] aRk (top 72),
 Fw "least_stays" 3 ["program","facts","masks","row","fact","mask"] aHq (top 73),
 Fw "stays" 3 ["program","facts","masks"] aYC (top 74),
 Fw "is_right" 4 ["row","fact","mask","stay"] aQB (top 75),
 Fw "wrong_stay" 4 ["program","facts","masks","stays","k","row"] aPi (top 76),
 {name:="make",np:=2,N:=["self","row"],body:=aZA,st:=aCo (top 78) 1,me:=Z,qual:="Maker.make" },
 {name:="make_once",np:=2,N:=["self","row"],body:=aP7,st:=aCo (top 78) 2,me:=Z,qual:="Maker.make_once" },
 {name:="fetch",np:=3,N:=["self","k","width","stay","word","kept"],body:=aMi,st:=aCo (top 78) 3,me:=Z,qual:="Maker.fetch" },
 Fw "make_shift" 3 ["maker","row","width","wider","fetched","made"] aHA (top 79),
 Fw "make_widening" 3 ["maker","row","width","old"] aOP (top 80),
 Fw "compare_width" 4 ["word","one","other","old","greater","signs"] aGX (top 81),
 Fw "make_compare" 2 ["maker","row","old","width","fetched","one","other","k"] aOU (top 82),
 Fw "make_work" 3 ["maker","row","width","fetched","k"] aP8 (top 83),
 Fw "make_pick" 3 ["maker","row","width","choice","sides","k"] aP3 (top 84),
 Fw "make_row" 3 ["maker","row","width","word"] aIt (top 85),
 Fw "made_by" 4 ["program","facts","masks","stays","maker","outs","row","stay","place","out"] aJR (top 86),
 Fw "widths_fit" 2 ["row","widths","word","width","each"] aHs (top 94),
 Fw "number_fits" 1 ["row"] aO1 (top 95),
 Fw "look_at_row" 2 ["rows","k","row","widths","operand","ahead"] aPe (top 96),
 Fw "look" 1 ["program","k","rows","outs","out"] bAV (top 97),
 Fw "lifted" 2 ["number","width"] aTI (top 99),
 Fw "compared" 4 ["word","width","one","other","found"] aRc (top 100),
 Fw "shifted" 4 ["word","width","number","k"] aSH (top 101),
 Fw "combined" 4 ["word","width","one","other"] aRB (top 102),
 Fw "work" 3 ["row","widths","numbers","word","width"] bAo (top 103),
 Fw "turned" 3 ["program","inputs","masks","widths","numbers","taken","row","mask","number"] aT8 (top 105),
 Fw "run" 2 ["program","inputs"] bBd (top 106),
 Fw "of_outs" 2 ["program","numbers","out"] aJO (top 107),
 Fw "told" 2 ["program","inputs"] aZ0 (top 108),
 Fw "_law_draw" 2 ["_law_state","_law_many","_law_cell","_law_script","_law_k","_law_digit"] tJ (top 110),
 Fw "_law_number" 2 ["_law_state","_law_width_here"] aPf (top 111),
 Fw "_law_width" 1 ["_law_state"] aPE (top 112),
 Fw "_law_num" 2 ["_law_state","_law_width_here","_law_sort","_law_some"] aDx (top 113),
 Fw "_law_fit" 4 ["_law_state","_law_rows","_law_a","_law_width_here","_law_word"] aIf (top 114),
 Fw "_law_operand" 3 ["_law_state","_law_rows","_law_width_here","_law_some","_law_k"] aDg (top 115),
 Fw "_law_turned_width" 3 ["_law_state","_law_rows","_law_word","_law_a","_law_width_here"] aOG (top 116),
 Fw "_law_shift" 4 ["_law_state","_law_rows","_law_word","_law_width_here","_law_k"] aPD (top 117),
 Fw "_law_pair" 4 ["_law_state","_law_rows","_law_word","_law_width_here","_law_a","_law_b"] aHX (top 118),
 Fw "_law_row" 2 ["_law_state","_law_rows","_law_some","_law_word","_law_width_here","_law_row_here","_law_c"] tK (top 119),
 Fw "_law_program" 2 ["_law_state","_law_most","_law_width_here","_law_rows","_law_k","_law_last","_law_outs"] aDh (top 120),
 Fw "_law_compared" 1 ["_law_state","_law_width_here","_law_rows","_law_some","_law_turn","_law_word"] aON (top 121),
 Fw "_law_some_program" 1 ["_law_state"] aOH (top 122),
 Fw "_law_inputs" 2 ["_law_state","_law_program_here","_law_found","_law_row_here"] aO9 (top 123),
 Fw "_law_weaker" 3 ["_law_state","_law_fact","_law_width_here","_law_left"] aDj (top 124),
 Fw "_law_facts" 2 ["_law_state","_law_program_here","_law_facts_here","_law_row_here","_law_ahead","_law_widths","_law_k"] aPh (top 125),
 Fw "_law_masks" 3 ["_law_state","_law_program_here","_law_facts_here","_law_masks_here","_law_k","_law_back","_law_row_here","_law_ahead","_law_widths","_law_one","_law_more","_law_j"] aPx (top 126),
 Fw "_law_some_stay" 5 ["_law_state","_law_row_here","_law_fact","_law_mask","_law_stay","_law_word","_law_kept"] aDc (top 127),
 Fw "_law_stays" 4 ["_law_state","_law_program_here","_law_facts_here","_law_masks_here","_law_found","_law_some","_law_k"] aHw (top 128),
 Fw "law" 1 ["_law_script","_law_state","_law_program_here","_law_facts_here","_law_masks_here","_law_some","_law_made","_law_turn","_law_inputs_here"] bBl (top 129)]
variable {C:Calls}
def bW{cD:Sx}(h:tv C c env S=J (Ff,S1))(k:xs C cD env S1=r):xs C (.seq (.ifs c t .skip) cD) env S=r:=by rw[<- k];simp only[rJ,uH,aKC,kZ,pG,uW,h,oB,yAv,if_false]
def cJ{cD:Sx}(h:tv C c env S=J (Z,S1))(k:xs C t env S1=J (.rt w,S2)):xs C (.seq (.ifs c t e) cD) env S=J (.rt w,S2):=by simp only[rJ,uH,kZ,pG,h,oB,if_true,k]
def aN{cD:Sx}(h:ev C e env S=J (w,S1)):xs C (.seq (.ret e) cD) env S=J (.rt w,S1):=by simp only[rJ,aEP,kZ,qL,h,oB]
def bA{i:Nat}{e:E}{cD:Sx}{env aW:aY}{S S1:aD}{w:W}{r:Oz (Fl×aD)}(h:ev C e env S=J (w,S1))(he:env.set i (J w)=aW)(k:xs C cD aW S1=r):xs C (.seq (.set i e) cD) env S=r:=by subst he;rw[<- k];simp only[rJ,aEY,kZ,kY,h,oB]
def aLM(h:fs[f]?=J F)(d:Nat){ws:G W}{S S1:aD}(hw:↑ws=F.np)(he:ws.map J++yAg (↑F.N-↑ws) qx=env)(hS:S1.take ↑S=S1)(k:xs (aI fs d) F.body env S=J (.rt (.d x),S1)):cl fs (d+1) f ws S=J (.d x,S1):=by subst he;rw[dU h d ws S hw];simp only[gZ,k,oB,rZ,hS]
def kO{C:Calls}(h:env[i]?=J (J (.d a)))(hc:bO .Eq a (.str x)=J (.bool b)):tv C (.cmp .Eq (.var i) (.str x)) env S=J (b,S):=by erw[0,h,hc]
def uL(h:env[i]?=J (J (.d a)))(he:ev C e env S=J (.d t,S))(hc:bO .In a t=J (.bool b)):tv C (.cmp .In (.var i) e) env S=J (b,S):=by erw[0,h,he,hc]
def aWx(h:xs C a env S=J (.nx e1,S1)):xs C (.seq a r) env S=xs C r e1 S1:=by simp only[rJ,kZ,h,oB]
def rY{i j:Int}(h:i<j):bO .Lt (.int i) (.int j)=J (.bool Z):=by rw[xP,dqT h]
def pC{i j:Int}(h:¬ i<j):bO .Lt (.int i) (.int j)=J (.bool Ff):=by rw[xP,dqF h]
def aCE{i j:Int}(h:j<i):bO .Gt (.int i) (.int j)=J (.bool Z):=by rw[oF,dqT h]
def aCR{i j:Int}(h:¬ j<i):bO .Gt (.int i) (.int j)=J (.bool Ff):=by rw[oF,dqF h]
def jK{i j:Int}(h:i=j):bO .Eq (.int i) (.int j)=J (.bool Z):=by rw[gR,beq_iff_eq.mpr h]
def kA{i j:Int}(h:i≠j):bO .Eq (.int i) (.int j)=J (.bool Ff):=by rw[gR,beq_eq_false_iff_ne.mpr h]
def i01(b:Bool):∃ q:Nat,q<2/\B.int.g [.bool b]=J (.int q):=by
 cases b
 .exact(0,by decide,U,)
 .exact(1,by decide,U,)
def iZ(a b:Nat):cG .Add (.int a) (.int b)=J (.int (a+b:_)):=by rw[kM,Int.natCast_add]
def jC{a b:Nat}(h:b<=a):cG .Sub (.int a) (.int b)=J (.int (a-b:_)):=by rw[eO,Int.natCast_sub h]
def bV(h:env[i]?=J (#[j]))(k:ev C e env S=J (.d x,S1)):av C (.cons (.var i) (.cons e .nil)) env S=J ([.loc j,.d x],S1):=aE (aC h) (aE k aQ)
def aMY{env:aY}{S S1:aD}{e:E}{ds:G D}(h:ev C e env S=J (.d (Lz ds),S1)):lv C (.it e) env S=J (ds,S1):=by show jE (ev C e) env S=_;unfold jE;rw[h];rfl
def uM{env:aY}{S S1:aD}{e:E}{ds:G D}(h:ev C e env S=J (.d (Tz ds),S1)):lv C (.it e) env S=J (ds,S1):=by show jE (ev C e) env S=_;unfold jE;rw[h];rfl
def bL:Sx->Sx
 |.seq _ b=>b|x=>x
def pN:Sx->Sx
 |.seq a _=>a|x=>x
def iE(h:tv C c env S=J (Z,S1))(k:xs C a env S1=r):xs C (.ifs c a b) env S=r:=by rw[<- k];simp only[uH,pG,h,oB,if_true]
def gT(h:tv C c env S=J (Ff,S1))(k:xs C b env S1=r):xs C (.ifs c a b) env S=r:=by rw[<- k];simp only[uH,pG,h,oB,yAv,if_false]
def bX(h:xs C a env S=J (.nx e1,S1))(k:xs C b e1 S1=r):xs C (.seq a b) env S=r:=by rw[aWx h];exact k
def dW(h:xs C a env S=J (.nx e1,S1)):xs C (.seq a .skip) env S=J (.nx e1,S1):=bX h U
def gS(h:ev C e env S=J (w,S1)):xs C (.seq (.set i e) .skip) env S=J (.nx (env.set i (J w)),S1):=bA h U U
def zP{n:Nat}(h:n=0):bO .Eq (.int n) (.int 0)=J (.bool Z):=jK ()
def yU{n:Nat}(h:n≠0):bO .Eq (.int n) (.int 0)=J (.bool Ff):=kA ()
def rP{n:Nat}(h:n=1):bO .Eq (.int n) (.int 1)=J (.bool Z):=jK ()
def oK{n:Nat}(h:n≠1):bO .Eq (.int n) (.int 1)=J (.bool Ff):=kA ()
def bY(hi:env[i]?=J (J w))(hc:cl fs d f [w] S=J (v,S2)):ev (aI fs d) (.call f (.cons (.var i) .nil)) env S=J (v,S2):=aT (aE (aC hi) aQ) hc
def aM{j:Int}(hi:env[i]?=J (J (.d x)))(h:bM x (.int j)=J z):ev C (.ix (.var i) (.int j)) env S=J (.d z,S):=bT (aC hi) aF U h
def fU{t:B}(ha:ev C a env S=J (.d x,S1))(hb:ev C b env S1=J (.d y,S2))(hz:t.g [x,y]=J z):ev C (.blt t (.cons a (.cons b .nil))) env S=J (.d z,S2):=gB (aE ha (aE hb aQ)) (gY aCm (gY aCm iA)) hz
def eQ(ha:ev C a env S=J (.d x,S1))(hb:ev C b env S1=J (.d y,S2))(hc:ev C c env S2=J (.d z,S3)):ev C (.tup (.cons a (.cons b (.cons c .nil)))) env S=J (.d (Tz [x,y,z]),S3):=lV (aE ha (aE hb (aE hc aQ))) U (yAc U)
def fJ(ha:ev C a env S=J (.d x,S1))(hb:ev C b env S1=J (.d y,S2)):ev C (.tup (.cons a (.cons b .nil))) env S=J (.d (Tz [x,y]),S2):=lV (aE ha (aE hb aQ)) U (yAc U)
def cT(hi:env[i]?=J (J w))(hj:env[j]?=J (J u))(hc:cl fs d f [w,u] S=J (v,S2)):ev (aI fs d) (.call f (.cons (.var i) (.cons (.var j) .nil))) env S=J (v,S2):=aT (aE (aC hi) (aE (aC hj) aQ)) hc
def gF(hi:env[i]?=J (J w))(hj:env[j]?=J (J u))(hk:env[k]?=J (J x))(hc:cl fs d f [w,u,x] S=J (v,S2)):ev (aI fs d) (.call f (.cons (.var i) (.cons (.var j) (.cons (.var k) .nil)))) env S=J (v,S2):=aT (aE (aC hi) (aE (aC hj) (aE (aC hk) aQ))) hc
def jZ(hi:env[i]?=J (J w))(hj:env[j]?=J (J u))(hk:env[k]?=J (J x))(hl:env[l]?=J (J y))(hc:cl fs d f [w,u,x,y] S=J (v,S2)):ev (aI fs d) (.call f (.cons (.var i) (.cons (.var j) (.cons (.var k) (.cons (.var l) .nil))))) env S=J (v,S2):=aT (aE (aC hi) (aE (aC hj) (aE (aC hk) (aE (aC hl) aQ)))) hc
def cZ{t:B}(ha:ev C a env S=J (.d x,S1))(hz:t.g [x]=J z):ev C (.blt t (.cons a .nil)) env S=J (.d z,S1):=gB (aE ha aQ) (gY aCm iA) hz
def uZ(ha:ev C a env S=J (.d x,S1)):ev C (.tup (.cons a .nil)) env S=J (.d (Tz [x]),S1):=lV (aE ha aQ) U (yAc U)
def bAM{n:Nat}(h:n≠0):bO .NotEq (.int n) (.int 0)=J (.bool Z):=by rw[uF,beq_eq_false_iff_ne.mpr (show(n:_)≠0 by omega)];rfl
def aZ4{n:Nat}(h:n=0):bO .NotEq (.int n) (.int 0)=J (.bool Ff):=by rw[h];rfl
def aZD(ho:ev C o env S=J (wo,S1))(ha:ev C a env S1=J (wa,S2))(h:aAC S2 wo wa=J (w,S3)):ev C (.idx o a) env S=J (w,S3):=by show aAF (ev C o) (ev C a) env S=_;unfold aAF f2;rw[ho,oB,ha,oB,h]
def bH(ns:G Int)(k:Nat)(x:Int):G D:=[.list (ns.map Iz),.int k,.int x]
def aVC{α:Type}{S:List α}{a v:α}(h:S[n]?=J a):(S.set n v)[n]?=J v:=yAx (gIm h).1
def aQ2{α:Type}(S:List α)(n:Nat)(v:α):(S.set n v).take ↑S=S.set n v:=by rw[yCo];rw[yBd];simp_all
def tR{ns:G Int}(h:k<↑ns):bM (.list (ns.map Iz)) (.int k)=J (.int ns[k]):=mU (by rw[yAe,yAa h];rfl)
def cs1(h:b<a):(a:_)-1-(b:Int)=(a-1-b:_):=()
def aTq(i:Int){w:Nat}(hw:0<w):∃ r:Nat,i%(w:Int)=(r:Int)/\r<w:=by let h0:=Int.emod_nonneg i (show(w:Int)≠0 by omega);let h1:=yHe i (show(0:Int)<(w:Int) by omega);exact((i%(w:Int)).toNat,(),(),)
def aRZ(ns:G Int):↑(ns.map Iz)=↑ns:=yAf ..
def aBl(i:Int){p:Int}(hp:0<p)(hp2:p<=2147483647):∃ y:Int,(-(2^64)<y/\y<2^64)/\cG .Mod (.int i) (.int p)=J (.int y):=by let h0:=Int.emod_nonneg i (show p≠0 by omega);let h1:=yHe i hp;exact(i%p,((),(),),xA hp,)
def aCt(i:Int)(hm:0<m):∃ r:Nat,r<m/\cG .Mod (.int i) (.int m)=J (.int r):=by let(r,er,hr):=aTq i hm;exact(r,hr,by rw[xA (),er],)
def yM(ns:G Int):B.len.g [.list (ns.map Iz)]=J (.int ↑ns):=by show J (Iz (↑(ns.map Iz):Nat))=_;rw[aRZ]
def aFb{S:aD}{n:Nat}{l:G D}{i j:Nat}{x:D}(h:S[n]?=J (J l))(hj:kF ↑l i=J j):rX S (.loc n) (.d (Iz i)) (.d x)=J (S.set n (J (l.set j x))):=by show((S[n]?).bind λ o=>o.bind λ ds=>(kF ↑ds (i:_)).bind λ j=>J (S.set n (J (ds.set j x))))=_;rw[h,oB,oB,hj,oB]
noncomputable abbrev eW(n m k:Nat)(ns:List Int)(a b:Option W):aY:=[#[n],(m:),a,J (.d (Lz (ns.map Iz))),(k:),b]
def aJu{C:Calls}(c:Int)(hm:0<m)(hk:k<=100000):∃ r:Nat,r<m/\xs C (bL (bL (bL (bL (bL (bL tJ)))))) (eW n m k ns ((c:)) qx) S=J (.rt (.d (Iz r)),S):=by let(y1,b1,e1):=aBl c (p:=2147483629) (·) (·);let(y2,b2,e2):=aBl (y1*((k:Int)+3)) (p:=2147483629) (·) (·);let(y3,b3,e3):=aBl (y2*y2) (p:=2147483587) (·) (·);let(y4,_,e4):=aBl (y3*y3) (p:=1999999973) (·) (·);let(r,hr,e5):=aCt y4 hm;exact(r,hr,bA (aJ (aJ (aJ {} aF e1) (aJ {} aF U) (wM b1.1 b1.2)) aF e2) U (bA (aJ (aJ {} {} (wM b2.1 b2.2)) aF e3) U (aN (aJ (aJ (aJ {} {} (wM b3.1 b3.2)) aF e4) {} e5))),)
def aQ9{x:Int}(hS:S[n]?=J (J (bH ns (k+1) x)))(hm:0<m)(hk:k<=100000):∃ r:Nat,r<m/\xs C (bL (bL (bL tJ))) (eW n m k ns qx qx) S=J (.rt (.d (Iz r)),S):=by
 by_cases c1:k<↑ns
 .let(r,hr,er):=aCt ns[k] hm;exact(r,hr,cJ (aU {} (cZ {} (yM ns)) (rY ())) (aN (aJ (bT {} {} U (tR c1)) {} er)),)
 let p1:=λ {R} (e:xs C (bL (bL (bL (bL (bL tJ))))) (eW n m k ns ((((k:Int)*7919+5):)) qx) S=R)=>(bW (aU {} (cZ {} (yM ns)) (pC ())) (bA (aJ (aJ {} aF (aEj (·) (·))) aF U) U e):xs C (bL (bL (bL tJ))) (eW n m k ns qx qx) S=R)
 let l0:ev C (.blt .len (.cons (.ix (.var 0) (.int 0)) .nil)) (eW n m k ns ((((k:Int)*7919+5):)) qx) S=J (.d (Iz ↑ns),S):=cZ (bT {} aF (dM hS) U) (yM ns);by_cases c2:0<↑ns
 .let(q,hq,eq):=aCt ((k:Int)*7) c2;let(r,hr,er):=@aJu _ _ n ns S C ((k:Int)*7919+5+ns[q]*(48271+(k:Int))) hm hk;exact(r,hr,p1 (bX (iE (aU l0 aF (aCE ())) (gS (aJ {} (aJ (bT (bT {} aF (dM hS) U) (aJ (aJ {} aF (aEj (·) (·))) l0 eq) U (tR hq)) (aJ aF {} U) (aEj () ())) U))) er),)
 .let(r,hr,er):=@aJu _ _ n ns S C ((k:Int)*7919+5) hm hk;exact(r,hr,p1 (bX (gT (aU l0 aF (aCR ())) U) er),)
noncomputable abbrev aMN:E:=.and (.cmp .Lt (.bin .Add (.bin .FloorDiv (.var 4) (.int 12)) (.int 1)) (.blt .len (.cons (.var 3) .nil))) (.cmp .Eq (.bin .Mod (.ix (.var 3) (.int 0)) (.int 2)) (.int 1))
def aKW(d n k m:Nat)(ns:G Int)(x:Int)(S:aD)(hS:S[n]?=J (J (bH ns k x)))(hm:0<m)(hm2:m<2^64)(hk:k<=100000) :
 ∃ (r:Nat) (x':Int),r<m/\cl fns (d+1) 84 [.loc n,.d (Iz m)] S=J (.d (Iz r),S.set n (J (bH ns (k+1) x'))):=by
 let gs:=λ v=>aVC (v:=v) hS
 let pz:∀ y z:Int,rX (S.set n (J (bH ns (k+1) y))) (.loc n) (.d (Iz 2)) (.d (Iz z))=J (S.set n (J (bH ns (k+1) z))):=λ y z=>by
  have:=@aFb _ _ _ 2 2 (.int z) (gs (J (bH ns (k+1) y))) U;rw[List.set_set] at this;exact this
 let dv:cG .FloorDiv (.int k) (.int 12)=J (.int (k/12:_)):=aD6 (·) (·);let dA:∀ {r:Nat}{x':Int},r<m->xs (aI fns d) (bL (bL tJ)) (eW n m k ns qx qx) (S.set n (J (bH ns (k+1) x)))=J (.rt (.d (Iz r)),S.set n (J (bH ns (k+1) x')))->∃ (r:Nat) (x':Int),r<m/\cl fns (d+1) 84 [.loc n,.d (Iz m)] S=J (.d (Iz r),S.set n (J (bH ns (k+1) x'))):=λ {r x'} hr e=>(r,x',hr,aV U U U (bX (iV (aCz {} aCD (aB7 aF) (dM hS) U) U) (bX (qG (aJ {} aF U) {} aF (aFb (i:=1) hS U)) e)) (aQ2 S n _),)
 let tail:tv (aI fns d) aMN (eW n m k ns qx qx) (S.set n (J (bH ns (k+1) x)))=J (Ff,S.set n (J (bH ns (k+1) x)))->∃ (r:Nat) (x':Int),r<m/\cl fns (d+1) 84 [.loc n,.d (Iz m)] S=J (.d (Iz r),S.set n (J (bH ns (k+1) x'))):=λ h=>by
  let(r,hr,e):=aQ9 (C:=aI fns d) (gs (J (bH ns (k+1) x))) hm hk;exact dA hr (bW h e)
 by_cases c1:k/12+1<↑ns
 .have t2:tv (aI fns d) aMN (eW n m k ns qx qx) (S.set n (J (bH ns (k+1) x)))=J (ns[0]%2==1,S.set n (J (bH ns (k+1) x))):=oA (p:=Z) (aU (aJ (aJ {} aF dv) aF U) (cZ {} (yM ns)) (rY ())) (aU (aJ (aM U (tR (k:=0) ())) aF (xA (·))) aF U);rcases yFu (ns[0]%2==1) with c2|c2
  .rw[c2] at t2;obtain⟨z,e3⟩:∃ z:Int,xs (aI fns d) (.ifs (.cmp .Eq (.bin .Mod (.var 4) (.int 12)) (.int 0)) (.seq (.put (.var 0) (.int 2) (.ix (.var 3) (.bin .Add (.bin .FloorDiv (.var 4) (.int 12)) (.int 1)))) .skip) .skip) (eW n m k ns qx qx) (S.set n (J (bH ns (k+1) x)))=J (.nx (eW n m k ns qx qx),S.set n (J (bH ns (k+1) z))):=by
    rcases yFu ((k:Int)%12==0) with c3|c3
    .exact(ns[k/12+1],iE (aU (aJ {} aF (xA (·))) aF (by rw[gR,c3])) (dW (qG (bT {} (aJ (aJ {} aF dv) aF U) U (tR c1)) {} aF (pz _ _))),)
    .exact(x,gT (aU (aJ {} aF (xA (·))) aF (by rw[gR,c3])) U,)
   let(r,hr,er):=aCt z hm;exact dA (x':=z/(m:Int)) hr (cJ t2 (bX e3 (bA (aJ (bT {} aF (dM (gs _)) U) {} er) U (bX (qG (aJ (bT {} aF (dM (gs _)) U) {} (aD6 () ())) {} aF (pz _ _)) (aN {})))))
  .rw[c2] at t2;exact tail t2
 .exact tail (oA (p:=Ff) (aU (aJ (aJ {} aF dv) aF U) (cZ {} (yM ns)) (pC ())) U)
inductive Wd where
 | «in» |num|not|and|or|xor|add|sub|mul|left|right|slide|cut|wide|sign|same|less|under|pick
 deriving DecidableEq
def Wd.s:Wd->Str
 |.in => "in" |.num => "num" |.not => "not" |.and => "and" |.or => "or" |.xor => "xor" |.add => "add" |.sub => "sub" |.mul => "mul" |.left => "left" |.right => "right" |.slide => "slide"
 |.cut => "cut" |.wide => "wide" |.sign => "sign" |.same => "same" |.less => "less" |.under => "under" |.pick => "pick"
structure Rw where
 wd:Wd
 w:Nat
 args:List Nat
def nD(n:Nat):D:=.int n
def Rw.d(r:Rw):D:=.tuple (.str r.wd.s::nD r.w::r.args.map nD)
def fP(ws:G Nat)(r:Rw):Prop:=1<=r.w/\r.w<=64/\match r.wd,r.args with
 |.in,[]=>True|.num,[n]=>n<2^r.w|.not,[a]=>ws[a]?=J r.w
 |.and,[a,b]|.or,[a,b]|.xor,[a,b]|.add,[a,b]|.sub,[a,b]|.mul,[a,b]=>ws[a]?=J r.w/\ws[b]?=J r.w
 |.left,[a,k]|.right,[a,k]|.slide,[a,k]=>ws[a]?=J r.w/\k<64
 |.cut,[a]=>∃ v,ws[a]?=J v/\r.w<=v
 |.wide,[a]|.sign,[a]=>∃ v,ws[a]?=J v/\v<=r.w
 |.same,[a,b]|.less,[a,b]|.under,[a,b]=>r.w=1/\∃ v,ws[a]?=J v/\ws[b]?=J v
 |.pick,[c,a,b]=>ws[c]?=J 1/\ws[a]?=J r.w/\ws[b]?=J r.w|_,_=>False
def dG:G Nat->G Rw->Prop
 |_,[]=>True|ws,r::K=>fP ws r/\dG (ws++[r.w]) K
def tH:∀ {K:G Rw}{ws:G Nat}{r:Rw},dG ws K->fP (ws++K.map (·.w)) r->dG ws (K++[r])
 |[],ws,r,_,h=>(by simpa using h,True.intro,)|q::K,ws,r,⟨h1,h2⟩,h=>(h1,tH h2 (by simpa using h),)
def cL(S:aD)(n p:Nat)(ns:G Int)(k:Nat)(x:Int)(K:G Rw):aD:=(S.set n (J (bH ns k x))).set p (J (K.map Rw.d))
local macro_rules(kind:=«term_<*_»)|s=>return mqT "PyData.tuple" [mqT "List.cons" [mqT "PyData.tuple" [mqT "List.map" [mqI "Rw.d",s[0]]],mqT "List.cons" [s[2],mqI "List.nil"]]]
local macro_rules(kind:=«term~~~_»)|s=>let a:Lean.Term:=⟨s[1]⟩;`(List.map (·.w) $a)
local macro_rules(kind:=«term_*>_»)|s=>return mqT "PyData.tuple" [mqT "List.map" [s[2],s[0]]]
structure At0(S:aD)(n p:Nat):Prop where
 hn:n<↑S
 ne:n≠p
structure At(S:aD)(n p:Nat):Prop extends At0 S n p where
 hp:p<↑S
def At0.state{x:Int}(h:At0 S n p):(cL S n p ns k x K)[n]?=J (J (bH ns k x)):=by unfold cL;rw[yAy h.ne.symm,yAx h.hn]
def At.rows{x:Int}(h:At S n p):(cL S n p ns k x K)[p]?=J (J (K.map Rw.d)):=by unfold cL;rw[yAx (by rw[yBd];exact h.hp)]
def At.rowsT{x:Int}(h:At S n p)(T:aD):(cL S n p ns k x K++T)[p]?=J (J (K.map Rw.d)):=by rw[xAm (by simp[cL];exact h.hp)];exact h.rows
def At0.len{x:Int}(h:At0 S n p):↑(cL S n p ns k x K)=↑S:=by simp[cL]
def At0.take{x:Int}(h:At0 S n p)(k':Nat)(x':Int)(bF:G Rw):(cL S n p ns k' x' bF).take ↑(cL S n p ns k x K)=cL S n p ns k' x' bF:=by rw[h.len,yCo];rw[h.len];simp_all
def At0.put{x:Int}(h:At0 S n p)(k':Nat)(x':Int):(cL S n p ns k x K).set n (J (bH ns k' x'))=cL S n p ns k' x' K:=by unfold cL;rw[List.set_comm _ _ h.ne.symm,List.set_set]
def At.putR{x:Int}(h:At S n p)(r:Rw):(cL S n p ns k x K).set p (J (K.map Rw.d++[r.d]))=cL S n p ns k x (K++[r]):=by unfold cL;rw[List.set_set,yAu];rfl
def lK{x:Int}(h:At0 S n p)(d m:Nat)(hm:0<m)(hm2:m<2^64)(hk:k<=100000):∃ (r:Nat) (x':Int),r<m/\cl fns (d+1) 84 [.loc n,.d (Iz m)] (cL S n p ns k x K)=J (.d (Iz r),cL S n p ns (k+1) x' K):=by let(r,x',hr,e):=aKW d n k m ns x _ h.state hm hm2 hk;exact(r,x',hr,by rw[e,h.put],)
def aBt{x:Int}(h:At0 S n p)(d m:Nat){i:Int}(hi:i=(m:Nat))(hm:0<m)(hm2:m<2^64)(hk:k<=100000):∃ (r:Nat) (x':Int),r<m/\cl fns (d+1) 84 [.loc n,.d (Iz i)] (cL S n p ns k x K)=J (.d (Iz r),cL S n p ns (k+1) x' K):=by subst hi;exact lK h d m hm hm2 hk
def aIW(h:w<64):2^w<2^64:=yEh (·) h
def aIb{x:Int}(h:At0 S n p)(d w:Nat)(hw:w<=64)(hk:k<=99000):∃ (r k':Nat) (x':Int),r<2^w/\k'<=k+2/\cl fns (d+2) 85 [.loc n,.d (Iz w)] (cL S n p ns k x K)=J (.d (Iz r),cL S n p ns k' x' K):=by
 by_cases c:w<31
 .let(r,x',hr,e):=@lK _ _ _ k ns K x h d (2^w) (wX w) (aIW ()) ();exact(r,k+1,x',hr,(),aV U U U (cJ (aU {} aF (rY ())) (aN (aT (bV U (aJ aF {} (jR ()))) e))) (h.take _ _ _),)
 .let(r,x',hr,e):=@lK _ _ _ k ns K x h d (2^30) (·) (·) ();let(q,x2,hq,e'):=@lK _ _ _ (k+1) ns K x' h d (2^(w-30)) (wX _) (aIW ()) ();let hb:r+q*2^30<2^w:=by
   let e3:(2:Nat)^w=2^(w-30)*2^30:=by rw[<- yEq,show w-30+30=w by omega]
   grind
  exact(r+q*2^30,k+2,x2,hb,yAd _,aV U U U (bW (aU {} aF (pC ())) (aN (aJ (aT (bV U (aJ aF aF (@jR 30 (·)))) e) (aJ (aT (bV U (aJ aF (aJ {} aF (@jC _ 30 ())) (jR ()))) e') aF (@tX _ (w-30) 30 hq ())) (iZ _ _)))) (h.take _ _ _),)
def at4(a b c e:D){r:Nat}(h1:r<4):∃ x,(x=a\/x=b\/x=c\/x=e)/\bM (.list [a,b,c,e]) (.int r)=J x:=by
 have:r=0\/r=1\/r=2\/r=3:=();rcases this with rfl|rfl|rfl|rfl
 .exact(a,.inl U,U,)
 .exact(b,.inr (.inl U),U,)
 .exact(c,.inr (.inr (.inl U)),U,)
 .exact(e,.inr (.inr (.inr U)),U,)
def aIT{x:Int}(h:At0 S n p)(d:Nat)(hk:k<=99000):∃ (w:Nat) (x':Int),1<=w/\w<=64/\cl fns (d+2) 86 [.loc n] (cL S n p ns k x K)=J (.d (Iz w),cL S n p ns (k+3) x' K):=by
 let(r1,x1,h1,e1):=aBt (ns:=ns) (k:=k) (x:=x) (K:=K) h d 8 (i:=8) U (·) (·) ();let(r2,x2,h2,e2):=aBt (ns:=ns) (k:=k+1) (x:=x1) (K:=K) h d 64 (i:=64) U (·) (·) ();let(r3,x3,h3,e3):=aBt (ns:=ns) (k:=k+2) (x:=x2) (K:=K) h d 4 (i:=4) U (·) (·) ();let(y,hy,e):=at4 (.int 1) (.int 64) (.int (1+r1:_)) (.int (1+r2:_)) h3;obtain⟨w,cB,cO,rfl⟩:∃ w:Nat,1<=w/\w<=64/\y=.int w:=by
  rcases hy with rfl|rfl|rfl|rfl
  .exact(1,by decide,by decide,U,)
  .exact(64,by decide,by decide,U,)
  .exact(_,(),(),U,)
  .exact(_,(),(),U,)
 exact(w,x3,cB,cO,aV U U U (aN (bT (eD (eX (aE aF (aE aF (aE (aJ aF (aT (bV U aF) e1) (iZ 1 r1)) (aE (aJ aF (aT (bV U aF) e2) (iZ 1 r2)) aQ)))) U (yAc U))) (aT (bV U aF) e3) U e)) (h.take _ _ _),)
def aKe{t:Tg}{fb:FS}(P:Nat->aY->aD->Prop):∀ (ds:G D) (i:Nat) (env:aY) (S:aD),P i env S->(∀ j d env S,i<=j->j<i+↑ds->P j env S->∃ e1 aW S',t.put d env=J e1/\fb e1 S=J (.nx aW,S')/\P (j+1) aW S') ->
 ∃ aW S',mF t fb ds env S=J (.nx aW,S')/\P (i+↑ds) aW S'
 |[],i,env,S,h0,_=>(env,S,U,h0,)
 |d::ds,i,env,S,h0,h=>by
   let(e1,aW,S',h1,h2,h3):=h i d env S (yAd _) (by simp) h0;let(env2,S2,h4,h5):=aKe P ds (i+1) aW S' h3 λ j d' env S a b=>h j d' env S () (by simp at b ⊢;omega)
   refine(env2,S2,by simp only[mF,h1,oB,h2];exact h4,?_,);have:i+↑(d::ds)=i+1+↑ds:=by simp;omega
   rw[this];exact h5
def aBU{t:Tg}{fi:FL}{fb:FS}(P:Nat->aY->aD->Prop)(hi:fi env S=J (ds,S1))(h0:P 0 env S1)(h:∀ j d env S,j<↑ds->P j env S->∃ e1 aW S',t.put d env=J e1/\fb e1 S=J (.nx aW,S')/\P (j+1) aW S') :
 ∃ aW S',kW t fi fb env S=J (.nx aW,S')/\P ↑ds aW S':=by
 let(aW,S',h1,h2):=@aKe t fb P ds 0 env S1 h0 λ j d env S _ b=>h j d env S ()
 exact(aW,S',by unfold kW;rw[hi,oB];exact h1,by simpa using h2,)
def at2(a b:D){r:Nat}(h1:r<2):∃ x,(x=a\/x=b)/\bM (.list [a,b]) (.int r)=J x:=by
 have:r=0\/r=1:=();rcases this with rfl|rfl
 .exact(a,.inl U,U,)
 .exact(b,.inr U,U,)
def vT:At0 [qx] 0 1:=(by decide,by decide,)
noncomputable abbrev s0(ns:List Int)(k:Nat)(x:Int):aD:=[J (bH ns k x)]
def aR1(a:Nat):cG .BitAnd (.int a) (.int 1)=J (.int (a&&&1:_)):=dB a 1
def nP(n:Nat):((n:_)==0)=(n==0):=by rw[yCj,beq_iff_eq,beq_iff_eq];omega
def aEU{x:Int}(h:At0 S n p)(d w:Nat)(hw:1<=w)(cO:w<=64)(hk:k<=98000):∃ (r k':Nat) (x':Int),r<2^w/\k'<=k+5/\cl fns (d+3) 87 [.loc n,.d (Iz w)] (cL S n p ns k x K)=J (.d (Iz r),cL S n p ns k' x' K):=by
 let hw3:w<2^64:=();let hp:=wX w;let(r1,x1,h1,e1):=aBt (ns:=ns) (k:=k) (x:=x) (K:=K) h (d+1) 5 (i:=5) U (·) (·) ();let(r2,x2,h2,e2):=@lK _ _ _ (k+1) ns K x1 h (d+1) w () hw3 ();let(r3,x3,h3,e3):=@lK _ _ _ (k+2) ns K x2 h (d+1) w () hw3 ();let st:=λ {R} (z:xs (d<$>2) (bL (bL aDx)) [#[n],(w:),(r1:),J (.d (Lz [Iz 0,Iz (2^w-1:_),Iz (2^r2:_),Iz (2^r3-1:_)]))] (cL S n p ns (k+3) x3 K)=R)=>(bA (aT (bV U aF) e1) U (bA (eD (eX (aE aF (aE (aJ (aJ aF {} (jR ())) aF (by rw[eO,aBm])) (aE (aJ aF (aT (bV U {}) e2) (jR ())) (aE (aJ (aJ aF (aT (bV U {}) e3) (jR ())) aF (by rw[eO,aBm])) aQ)))) U (yAc U))) U z):xs (d<$>2) aDx [#[n],(w:),qx,qx] (cL S n p ns k x K)=R)
 by_cases c:r1<4
 .let(y,hy,e):=at4 (.int 0) (.int (2^w-1:_)) (.int (2^r2:_)) (.int (2^r3-1:_)) c;obtain⟨q,hq,rfl⟩:∃ q:Nat,q<2^w/\y=.int q:=by
   let l2:2^r2<2^w:=yEh (·) h2;let l3:2^r3<2^w:=yEh (·) h3;rcases hy with rfl|rfl|rfl|rfl
   .exact(0,hp,U,)
   .exact(_,(),U,)
   .exact(_,l2,U,)
   .exact(_,(),U,)
  exact(q,k+3,x3,hq,(),aV U U U (st (cJ (aU {} aF (rY ())) (aN (bT {} {} U e)))) (h.take _ _ _),)
 .let(r,k',x',hr,hk',e):=@aIb _ _ _ (k+3) ns K x3 h d w cO ();exact(r,k',x',hr,(),aV U U U (st (bW (aU {} aF (pC ())) (aN (aT (bV U {}) e)))) (h.take _ _ _),)
def aLg:∀ L:G Nat,yFh (L.map nD)=Z
 |[]=>rfl
 |a::r=>by
   let ih:=aLg r;simp only[yAm,yFh,ih,yCu];rfl
def aJN:∀ L:G Nat,yFe (L.map nD)=0
 |[]=>rfl
 |a::r=>by
   let ih:=aJN r;simp only[yAm,yFe,ih];rfl
def aWt(L:G Nat):bO .NotEq (.list (L.map nD)) (.list [])=J (.bool (!L.isEmpty)):=by
 let h1:(Lz (L.map nD)).canLay0=Z:=aLg L;let h2:(Lz (L.map nD)).depth<=60:=by
  show yFe (L.map nD)+1<=60;rw[aJN];decide
 unfold bO qM;simp only[];rw[if_pos (h1,U,h2,)];cases L<;>rfl
def fG(r:Rw):bM r.d (Iz 1)=J (.int r.w):=@dP (.str r.wd.s::nD r.w::r.args.map nD) 1 _ U
def wdE(a b:Wd):Bool:=match bO .Eq (.str a.s) (.str b.s) with|some (.bool c)=>c==decide (a=b)|_=>Ff
def aWS(a b:Wd):wdE a b=Z:=by
 let h:∀ i:Fin 19,∀ j:Fin 19,wdE (Wd.ofNat i) (Wd.ofNat j)=Z:=by decide +kernel
 let e:∀ a:Wd,∃ i:Fin 19,Wd.ofNat i=a:=λ a=>((a.ctorIdx,by cases a<;>decide,),Wd.ofNat_ctorIdx a,)
 let(i,U):=e a;let(j,U):=e b;exact h i j
def fS(a b:Wd):bO .Eq (.str a.s) (.str b.s)=J (.bool (decide (a=b))):=by
 let h:=aWS a b;unfold wdE at h;split at h
 .rename_i c e;rw[e,eq_of_beq h]
 .cases h
def aDO(a:Wd):bO .In (.str a.s) (.tuple [.str "left",.str "right",.str "slide"])=J (.bool (decide (a=.left\/a=.right\/a=.slide))):=by cases a<;>rfl
def aXg(a:Wd):bO .In (.str a.s) (.tuple [.str "cut",.str "wide",.str "sign"])=J (.bool (decide (a=.cut\/a=.wide\/a=.sign))):=by cases a<;>rfl
def aTH(a:Wd):bO .In (.str a.s) (.tuple [.str "same",.str "less",.str "under"])=J (.bool (decide (a=.same\/a=.less\/a=.under))):=by cases a<;>rfl
def nW{cD:Sx}{a:Wd}(y:Wd)(hx:env[i]?=J (J (.d (Sz a.s))))(hb:decide (a=y)=Ff)(k:xs C cD env S=r):xs C (.seq (.ifs (.cmp .Eq (.var i) (.str y.s)) t .skip) cD) env S=r:=bW (kO hx ((fS a y).trans (by rw[hb]))) k
def yW{cD:Sx}{a:Wd}(hx:env[i]?=J (J (.d (Sz a.s))))(k:xs C t env S=J (.rt w,S2)):xs C (.seq (.ifs (.cmp .Eq (.var i) (.str a.s)) t e) cD) env S=J (.rt w,S2):=cJ (kO hx ((fS a a).trans (by rw[dqT U]))) k
def nI{cD:Sx}(hx:env[i]?=J (J (.d a)))(he:ev C e env S=J (.d u,S))(hc:bO .In a u=J (.bool Ff))(k:xs C cD env S=r):xs C (.seq (.ifs (.cmp .In (.var i) e) t .skip) cD) env S=r:=bW (uL hx he hc) k
def yI{cD:Sx}(hx:env[i]?=J (J (.d a)))(he:ev C e env S=J (.d u,S))(hc:bO .In a u=J (.bool Z))(k:xs C t env S=J (.rt w,S2)):xs C (.seq (.ifs (.cmp .In (.var i) e) t z) cD) env S=J (.rt w,S2):=cJ (uL hx he hc) k
def sb1(K:G Rw)(r:Rw):cG .Sub (.int (↑(K++[r]):Nat)) (.int 1)=J (.int ↑K):=by rw[eO,xAn,Int.natCast_add];simp_all
def aSc(K:G Rw):↑(K.map Rw.d)=↑K:=yAf ..
def aWN{K:G Rw}{a:Nat}{r:Rw}(h:K[a]?=J r):bM (.list (K.map Rw.d)) (.int a)=J r.d:=mU (by rw[yAe,h];rfl)
def aAq{K:G Rw}{a:Nat}{r:Rw}(h:K[a]?=J r):(~~~K)[a]?=J r.w:=by rw[yAe,h];rfl
def bB7{K t:G Rw}{a w:Nat}(h:(~~~K)[a]?=J w):((K++t).map (·.w))[a]?=J w:=by rw[yAu,xAm (gIm h).1];exact h
def aMx{q:Nat}(hq:q<2):∃ wd:Wd,(wd=.wide\/wd=.sign)/\bM (.list [.str "wide",.str "sign"]) (.int q)=J (.str wd.s):=by
 rcases (show q=0\/q=1 by omega) with rfl|rfl
 .exact(.wide,.inl U,U,)
 .exact(.sign,.inr U,U,)
def gQ{K:G Rw}(hi:env[i]?=J (#[p]))(h:S[p]?=J (J (K.map Rw.d))):ev C (.blt .len (.cons (.var i) .nil)) env S=J (.d (Iz ↑K),S):=gB (aE (aC hi) aQ) (gY (dM h) iA) (by
 show J (Iz (↑(K.map Rw.d):Nat))=_;rw[yAf])
def qJ{env:aY}{S S1:aD}{i p a:Nat}{K:G Rw}{r:Rw}{e:E}(hi:env[i]?=J (#[p]))(hj:ev C e env S=J (.d (Iz a),S1))(h:S1[p]?=J (J (K.map Rw.d)))(hr:K[a]?=J r):ev C (.ix (.ix (.var i) e) (.int 1)) env S=J (.d (Iz r.w),S1):=bT (bT (aC hi) hj (dM h) (aWN hr)) aF U (fG r)
def aLK(h:lv C a env S=J (ds,S1))(hl:↑S1=n):ev C (.new a) env S=J (.loc n,S1++[J ds]):=by subst hl;exact kS h
namespace GP
structure Opd(n:Nat)(K bF:List Rw):Prop where
 ext:∃ t,bF=K++t/\↑t<=n
 ok:dG [] bF
def Opd.len(o:Opd n K bF):↑K<=↑bF/\↑bF<=↑K+n:=by let(t,U,h):=o.ext;rw[xAn];omega
def Opd.keep{n:Nat}{K bF:G Rw}{b v:Nat}(o:Opd n K bF)(h:(~~~K)[b]?=J v):(bF.map (·.w))[b]?=J v:=by let(t,U,_):=o.ext;exact bB7 h
def Opd.same(h:dG [] K):Opd n K K:=(([],(yBc _).symm,yBv _,),h,)
def Opd.on(a:Opd n K rs1)(b:Opd m rs1 rs2):Opd (n+m) K rs2:=by let(t1,U,h1):=a.ext;let(t2,U,h2):=b.ext;exact((t1++t2,yBg ..,by rw[xAn];omega,),b.ok,)
def Opd.up(a:Opd n K rs1)(h:n<=m):Opd m K rs1:=by let(t,e,l):=a.ext;exact((t,e,xAh l h,),a.ok,)
def aH0{K:G Rw}{ws:G Nat}{a:Nat}{r:Rw}(h:dG ws K)(e:K[a]?=J r):1<=r.w/\r.w<=64:=by
 induction K generalizing ws a with
 |nil=>cases e
 |cons q K ih=>
   let(h1,h2):=h;cases a with
   |zero=>cases e;exact(h1.1,h1.2.1,)|succ a=>exact ih h2 e
structure Cf where
 S:aD
 p:Nat
 ns:List Int
noncomputable abbrev zs(c:Cf)(k:Nat)(x:Int)(K:List Rw):aD:=cL c.S 0 c.p c.ns k x K
def Rn(c:Cf)(d f:Nat)(ws:G W)(k:Nat)(x:Int)(K:G Rw)(b:Nat)(P:D->G Rw->Prop):Prop:=∃ v k' x' bF,P v bF/\k'<=k+b/\cl fns d f ws (zs c k x K)=J (.d v,zs c k' x' bF)
section
variable {c:Cf}(h:At c.S 0 c.p)(k:Nat)(x:Int)(K:List Rw)
include h
theorem dw(d m:Nat)(hm:0<m)(hm2:m<2^64)(hk:k<=100000):∃ (r:Nat) (x':Int),r<m/\cl fns (d+1) 84 [.loc 0,.d (Iz m)] (zs c k x K)=J (.d (Iz r),zs c (k+1) x' K):=lK h.toAt0 d m hm hm2 hk
theorem aBy(hl:↑K<=1000)(r:Rw):eE (zs c k x K) (.loc c.p) (.d r.d)=J (.d .none,zs c k x (K++[r])):=by unfold eE;simp only[h.rows];rw[if_pos (by rw[aSc,zq];omega),h.putR]
variable (hr:dG [] K)(h0:0<↑K)
include hr
theorem aXK(d a w:Nat)(ha:a<↑K)(hl:↑K<=100)(hw:1<=w)(cO:w<=64)(hk:k<=99000):Rn c (d+2) 88 [.loc 0,.loc c.p,.d (Iz a),.d (Iz w)] k x K 1 λ v bF=>∃ a':Nat,v=.int a'/\Opd 1 K bF/\(bF.map (·.w))[a']?=J w:=by
 obtain⟨r,hra⟩:∃ r,K[a]?=J r:=(_,yAa ha,);by_cases c1:r.w=w
 .exact(_,k,x,K,(a,U,.same hr,by rw[aAq hra,c1],),yDe _ _,aV U U U (cJ (aU (qJ U {} h.rows hra) {} (jK (by rw[c1]))) (aN {})) (h.toAt0.take _ _ _),)
 let(q,x',hq,e):=dw h k x K d 2 (·) (·) ();let(wd,aP,ew):=aMx hq;obtain⟨wd',ok,s⟩:∃ wd',fP ([]++K.map (·.w)) ⟨wd',w,[a]⟩/\xs (d<$>1) (pN (bL (bL aIf))) [#[0],#[c.p],(a:),(w:),J (.d (Sz wd.s))] (zs c (k+1) x' K)=J (.nx [#[0],#[c.p],(a:),(w:),J (.d (Sz wd'.s))],zs c (k+1) x' K):=by
  by_cases c2:w<r.w
  .exact(.cut,(hw,cO,r.w,aAq hra,yCv c2,),iE (aU (qJ U {} h.rows hra) {} (aCE ())) (gS U),)
  .refine(wd,(hw,cO,?_,),gT (aU (qJ U {} h.rows hra) {} (aCR ())) U,);rcases aP with rfl|rfl<;>exact(r.w,aAq hra,yDg c2,)
 exact(_,k+1,x',K++[(wd',w,[a],)],(↑K,U,((_,U,yAd _,),tH hr ok,),by simp,),yAd _,aV U U U (bW (aU (qJ U {} h.rows hra) {} (kA ())) (bA (bT (eD (eX (aE cC (aE cC aQ)) U (yAc U))) (aT (bV U aF) e) U ew) U (bX s (bX (fZ (gW {} (eQ {} {} {}) (aBy h _ _ _ () (wd',w,[a],)))) (aN (aJ (gQ U h.rows) aF (sb1 _ _))))))) (h.toAt0.take _ _ _),)
include h0
theorem wJ(d w:Nat)(hl:↑K<=100)(hw:1<=w)(cO:w<=64)(hk:k<=98000):Rn c (d+3) 89 [.loc 0,.loc c.p,.d (Iz w)] k x K 3 λ v bF=>∃ a:Nat,v=.int a/\Opd 1 K bF/\(bF.map (·.w))[a]?=J w:=by
 obtain⟨L,hmem,cW,hc⟩:∃ L:G Nat,(∀ a∈L,(~~~K)[a]?=J w)/\↑L<=↑K/\lv (d<$>2) aGJ [#[0],#[c.p],(w:),qx,qx] (zs c k x K)=J (L.map nD,zs c k x K):=by
  refine((yBk ↑K).filter λ j=>(~~~K)[j]?==J w,λ a ha=>by grind,?_,?_,)
  .have:=List.length_filter_le (λ j=>(~~~K)[j]?==J w) (yBk ↑K);rw[yCi] at this;exact this
  .refine @aSp _ _ _ _ _ (lv (d<$>2) (.rng1 (.blt .len (.cons (.var 1) .nil)))) (tv (d<$>2) (.cmp .Eq (.ix (.ix (.var 1) (.var 4)) (.int 1)) (.var 2))) (ev (d<$>2) (.var 4)) nD nD (λ j=>(~~~K)[j]?==J w) (yBk ↑K) (nQ (gQ U h.rows) ()) (by rw[yCi,zq];omega) λ j hj=>?_
   let hj:=List.mem_range.mp hj;let hrj:K[j]?=J K[j]:=yAa hj;refine(_,U,λ aG=>aU (qJ U {} (h.rowsT _) hrj) {} ?_,λ _ aG=>aC U,);rw[gR,aAq hrj];congr 2;rw[yCj];simp;omega
 let ft:∀ k1 x1,k1<=k+1->∃ (a k':Nat) (x':Int) (bF:G Rw),(Opd 1 K bF/\(bF.map (·.w))[a]?=J w)/\k'<=k+3/\xs (d<$>2) (bL (bL aDg)) [#[0],#[c.p],(w:),J (.d (Lz (L.map nD))),qx] (zs c k1 x1 K)=J (.rt (.d (Iz a)),zs c k' x' bF):=λ k1 x1 hk1=>by
  let(q,x2,hq,e1):=dw h k1 x1 K (d+1) ↑K h0 () ();let(_,k',x',bF,(a,U,o),hk',e2):=aXK h (k1+1) x2 K hr d q w hq hl hw cO ();exact(a,k',x',bF,o,(),aN (aT (aE {} (aE {} (aE (aT (bV U (gQ U h.rows)) e1) (aE {} aQ)))) e2),)
 let nn:=aWt L;let go:∀ {a k' x' bF},Opd 1 K bF/\(bF.map (·.w))[a]?=J w->k'<=k+3->xs (d<$>2) (bL aDg) [#[0],#[c.p],(w:),J (.d (Lz (L.map nD))),qx] (zs c k x K)=J (.rt (.d (Iz (a:_))),zs c k' x' bF)->Rn c (d+3) 89 [.loc 0,.loc c.p,.d (Iz w)] k x K 3 λ v bF=>∃ a:Nat,v=.int a/\Opd 1 K bF/\(bF.map (·.w))[a]?=J w:=λ {a k' x' bF} o l e=>(_,k',x',bF,(a,U,o,),l,aV U U U (bX (tZ hc U) e) (h.toAt0.take _ _ _),)
 rcases yFu L.isEmpty with hE|hE
 .rw[hE] at nn;let(a,k',x',bF,o,l,e):=ft k x (yDe _ _);exact go o l (bW (oA (p:=Ff) (aU {} (eD (eX aQ U (yAc U))) nn) U) e)
 rw[hE] at nn;let hL0:0<↑L:=by
  grind
 let(q4,x1,hq4,e1):=dw h k x K (d+1) 4 (·) (·) ();by_cases c4:0<q4
 .let(q,x2,hq,e2):=dw h (k+1) x1 K (d+1) ↑L hL0 () ();let ha:L[↑L-1-q]?=J L[↑L-1-q]:=yAa ();let ln:B.len.g [.list (L.map nD)]=J (.int ↑L):=by
   show J (Iz (↑(L.map nD):Nat))=_;rw[yAf]
  exact go (.same hr,hmem _ (xAk ha),) () (cJ (oA (p:=Z) (aU {} (eD (eX aQ U (yAc U))) nn) (aU (aT (bV U aF) e1) aF (aCE ()))) (aN (bT {} (aJ (aJ (cZ {} ln) aF (eO _ _)) (aT (bV U (cZ {} ln)) e2) (by rw[eO,cs1 hq])) U (mU (by rw[yAe,ha];rfl)))))
 .let(a,k',x',bF,o,l,e):=ft (k+1) x1 (yAd _);exact go o l (bW (oA (p:=Z) (aU {} (eD (eX aQ U (yAc U))) nn) (aU (aT (bV U aF) e1) aF (aCR ()))) e)
theorem aBr(d:Nat)(wd:Wd)(aP:wd=.cut\/wd=.wide\/wd=.sign)(hl:↑K<=100)(hk:k<=98000):Rn c (d+2) 90 [.loc 0,.loc c.p,.d (Sz wd.s)] k x K 2 λ v bF=>bF=K/\∃ r:Rw,v=r.d/\fP (~~~K) r:=by
 let(a,x1,ha,e1):=dw h k x K d ↑K h0 () ();let hra:K[a]?=J K[a]:=yAa ha;let(cB,cO):=aH0 hr hra;let wr:=aAq hra;generalize K[a]=r at *;let cw:bO .Eq (.str wd.s) (.str "cut")=J (.bool (decide (wd=.cut))):=fS wd .cut;by_cases c1:wd=.cut
 .let(q,x2,hq,e2):=dw h (k+1) x1 K d r.w () () ();rw[dqT c1] at cw;exact(_,k+2,x2,K,(U,(.cut,1+q,[a],),U,by simp_all,by show 1+q<=64;omega,r.w,wr,by show 1+q<=r.w;omega,),yAd _,aV U U U (bA (aT (bV U (gQ U h.rows)) e1) U (bA (qJ U {} h.rows hra) U (cJ (kO U cw) (aN (eQ cC (aJ aF (aT (bV U {}) e2) (iZ 1 q)) {}))))) (h.toAt0.take _ _ _),)
 .let(q,x2,hq,e2):=dw h (k+1) x1 K d (65-r.w) () () ();rw[dqF c1] at cw;refine(_,k+2,x2,K,(U,(wd,r.w+q,[a],),U,by show 1<=r.w+q;omega,by show r.w+q<=64;omega,?_,),yAd _,aV U U U (bA (aT (bV U (gQ U h.rows)) e1) U (bA (qJ U {} h.rows hra) U (bW (kO U cw) (aN (eQ {} (aJ {} (aT (bV U (aJ aF {} (@jC 65 _ ()))) e2) (iZ _ q)) {}))))) (h.toAt0.take _ _ _),);erw[50,aP]
  .exact absurd U c1
  all_goals exact(r.w,wr,yDe _ _,)
theorem aD2(d w:Nat)(wd:Wd)(aP:wd=.left\/wd=.right\/wd=.slide)(hl:↑K<=90)(hw:1<=w)(cO:w<=64)(hk:k<=97000):Rn c (d+4) 91 [.loc 0,.loc c.p,.d (Sz wd.s),.d (Iz w)] k x K 6 λ v bF=>Opd 1 K bF/\∃ r:Rw,v=r.d/\fP (bF.map (·.w)) r:=by
 let(q1,x1,h1,e1):=dw h k x K (d+2) w () () ();let(q2,x2,h2,e2):=dw h (k+1) x1 K (d+2) 64 (·) (·) ();let(q3,x3,h3,e3):=dw h (k+2) x2 K (d+2) 4 (·) (·) ();let(_,k',x',bF,(a,U,o,wa),hk',e4):=wJ h (k+3) x3 K hr h0 d w () hw cO ();obtain⟨b,hb,eb⟩:∃ b:Nat,b<2/\cG .FloorDiv (.int q3) (.int 3)=J (.int b):=(q3/3,(),@aD6 _ 3 (·) (·),);let(y,hy,ey):=at2 (.int q1) (.int q2) hb;obtain⟨kk,hkk,rfl⟩:∃ kk:Nat,kk<64/\y=.int kk:=by
  rcases hy with rfl|rfl
  .exact(q1,(),U,)
  .exact(q2,h2,U,)
 refine(_,k',x',bF,(o,(wd,w,[a,kk],),U,hw,cO,?_,),(),aV U U U (bA (bT (eD (eX (aE (aT (bV U {}) e1) (aE (aT (bV U aF) e2) aQ)) U (yAc U))) (aJ (aT (bV U aF) e3) aF eb) U ey) U (aN (lV (aE {} (aE {} (aE (aT (aE {} (bV U {})) e4) (aE {} aQ)))) U (yAc U)))) (h.toAt0.take _ _ _),);erw[50,aP]<;>exact(wa,hkk,)
omit hr h0 in
theorem aVh(wd:Wd)(w:Nat)(S:aD)(C:Calls)(a b c e f:Oz W):xs C (pN (bL (bL aHX))) [a,b,J (.d (Sz wd.s)),(w:),e,f] S=J (.nx [a,b,J (.d (Sz wd.s)),(((if wd=.same\/wd=.less\/wd=.under then 1 else w:Nat):Int):),e,f],S):=by
 let is:=aTH wd;by_cases c:wd=.same\/wd=.less\/wd=.under
 .rw[dqT c] at is;rw[if_pos c];exact iE (uL U U is) (gS U)
 .rw[dqF c] at is;rw[if_neg c];exact gT (uL U U is) U
theorem aKu(d w:Nat)(wd:Wd)(hl:↑K<=90)(hw:1<=w)(cO:w<=64)(hk:k<=97000):Rn c (d+4) 92 [.loc 0,.loc c.p,.d (Sz wd.s),.d (Iz w)] k x K 6 λ v bF=>Opd 2 K bF/\∃ a b:Nat,v=.tuple [.str wd.s,.int ((if wd=.same\/wd=.less\/wd=.under then 1 else w:Nat):Int),.int a,.int b]/\(bF.map (·.w))[a]?=J w/\(bF.map (·.w))[b]?=J w:=by let(_,k1,x1,rs1,(a,U,o1,w1),hk1,e1):=wJ h k x K hr h0 d w () hw cO ();let l1:=o1.len;let(_,k2,x2,rs2,(b,U,o2,w2),hk2,e2):=wJ h k1 x1 rs1 o1.ok () d w () hw cO ();exact(_,k2,x2,rs2,(o1.on o2,a,b,U,o2.keep w1,w2,),(),aV U U U (bA (aT (aE {} (bV U {})) e1) U (bA (aT (aE {} (bV U {})) e2) U (bX (aVh h wd w _ _ _ _ qx _ _) (aN (lV (aE {} (aE {} (aE {} (aE {} aQ)))) U (yAc U)))))) (h.toAt0.take _ _ _),)
end
def aZG(a b c e f:D):cG .Add (.tuple [a,b,c]) (.tuple [e,f])=J (.tuple [a,b,c,e,f]):=by show(if ↑[a,b,c]+↑[e,f]<=qk then J (Tz ([a,b,c]++[e,f])) else qx)=_;rw[if_pos (by rw[zq];show 3+2<=16777216;decide)];rfl
noncomputable abbrev eR(c:Cf)(l:Option W)(wd:Wd)(w:Nat)(a b:Option W):aY:=[#[0],#[c.p],l,J (.d (Sz wd.s)),(w:),a,b]
def Ds(c:Cf)(k:Nat)(x:Int)(K:G Rw)(d w:Nat)(wd:Wd)(l:Oz W)(s:Sx):Prop:=∃ (r:Rw) (k':Nat) (x':Int) (bF:G Rw) (e:Oz W),Opd 3 K bF/\fP (bF.map (·.w)) r/\k'<=k+12/\xs (d<$>4) s (eR c l wd w qx qx) (zs c k x K)=J (.nx (eR c l wd w (J (.d r.d)) e),zs c k' x' bF)
def uK{c:Cf}{k:Nat}{x:Int}{K:G Rw}{d w:Nat}{wd:Wd}{l:Oz W}{p:Prop} [Decidable p]{t:E}{a b:Sx}(ht:tv (d<$>4) t (eR c l wd w qx qx) (zs c k x K)=J (decide p,zs c k x K))(h1:p->Ds c k x K d w wd l a)(h2:¬ p->Ds c k x K d w wd l b):Ds c k x K d w wd l (.ifs t a (.seq b .skip)):=by
 by_cases q:p
 .rw[dqT q] at ht;let(r,k',x',bF,e,o,ok,hk,s):=h1 q;exact(r,k',x',bF,e,o,ok,hk,iE ht s,)
 .rw[dqF q] at ht;let(r,k',x',bF,e,o,ok,hk,s):=h2 q;exact(r,k',x',bF,e,o,ok,hk,gT ht (dW s),)
def aUP{c:Cf}{x:Int}{wd:Wd}(h:At c.S 0 c.p)(hr:dG [] K)(h0:0<↑K)(hl:↑K<=80)(hw:1<=w)(cO:w<=64)(hk:k<=96000):Ds c k x K d w wd l (pN (bL (bL (bL (bL (bL tK)))))):=by
 refine uK (kO U (fS wd .in)) (λ e=>?_) λ n1=>uK (kO U (fS wd .num)) (λ e=>?_) λ n2=>uK (kO U (fS wd .not)) (λ e=>?_) λ n3=>uK (uL U U (aDO wd)) (λ e=>?_) λ n4=>uK (uL U U (aXg wd)) (λ e=>?_) λ n5=>uK (kO U (fS wd .pick)) (λ e=>?_) λ n6=>?_
 .exact((.in,w,[],),k,x,K,_,.same hr,(hw,cO,True.intro,),yDe _ _,gS (fJ cC {}),)
 .let(q,k',x',hq,hk',e):=@aEU _ _ _ k c.ns K x h.toAt0 (d+1) w hw cO ();exact((.num,w,[q],),k',x',K,_,.same hr,(hw,cO,hq,),(),gS (eQ cC {} (aT (bV U {}) e)),)
 .let(_,k',x',bF,(a,U,o,wa),hk',e):=wJ h k x K hr h0 (d+1) w () hw cO ();exact((.not,w,[a],),k',x',bF,_,o.up (·),(hw,cO,wa,),(),gS (eQ cC {} (aT (aE {} (bV U {})) e)),)
 .let(_,k',x',bF,(o,r,U,okr),hk',e):=aD2 h k x K hr h0 d w wd e () hw cO ();exact(r,k',x',bF,_,o.up (·),okr,(),gS (jZ U U U U e),)
 .let(_,k',x',bF,(U,r,U,okr),hk',e):=aBr h k x K hr h0 (d+2) wd e () ();exact(r,k',x',_,_,.same hr,okr,(),gS (aT (aE {} (bV U {})) e),)
 .let(_,k1,x1,rs1,(b,U,o1,w1),hk1,e1):=wJ h k x K hr h0 (d+1) 1 () (·) (·) ();let l1:=o1.len;let(_,k',x',bF,(o2,a,a',U,wa,wb),hk',e2):=aKu h k1 x1 rs1 o1.ok () d w wd () hw cO ();exact((.pick,w,[b,a,a'],),k',x',bF,_,o1.on o2,(hw,cO,o2.keep w1,wa,wb,),(),bA (aT (aE {} (bV U aF)) e1) U (gS (aJ (eQ cC {} {}) (aCz (jZ U U U U e2) (aB7 aF) aCD U U) (aZG _ _ _ _ _))),)
 .let(_,k',x',bF,(o,a,b,U,wa,wb),hk',e):=aKu h k x K hr h0 d w wd () hw cO ();refine((wd,if wd=.same\/wd=.less\/wd=.under then 1 else w,[a,b],),k',x',bF,_,o.up (·),?_,(),aNB (jZ U U U U e) U,);clear e;cases wd
  all_goals first|exact(hw,cO,wa,wb,)|exact(yAd 1,oqT U,U,w,wa,wb,)|exact absurd U n1|exact absurd U n2|exact absurd U n3|exact absurd U n6|exact absurd (.inl U) n4|exact absurd (.inr (.inl U)) n4|exact absurd (.inr (.inr U)) n4|exact absurd (.inl U) n5|exact absurd (.inr (.inl U)) n5|exact absurd (.inr (.inr U)) n5
def wds:G Wd:=[.in,.num,.num,.not,.and,.or,.xor,.add,.sub,.mul,.left,.right,.slide,.cut,.wide,.sign,.same,.less,.under,.pick]
def wdL:D:=.list (wds.map λ w=>Sz w.s)
def aZ9(C:Calls)(a b:Oz W)(S:aD)(r:Sx):xs C (.seq (pN tK) (.seq (pN (bL tK)) r)) [a,b,qx,qx,qx,qx,qx] S=xs C r [a,b,J (.d wdL),qx,qx,qx,qx] S:=by kernel_rfl
def row_ok{c:Cf}(h:At c.S 0 c.p)(k:Nat)(x:Int)(K:G Rw)(d:Nat)(hr:dG [] K)(h0:0<↑K)(hl:↑K<=80)(hk:k<=95000):Rn c (d+5) 93 [.loc 0,.loc c.p] k x K 20 λ v bF=>v=.none/\dG [] bF/\↑K<=↑bF/\↑bF<=↑K+4:=by
 let(q1,x1,h1,e1):=dw h k x K (d+3) 20 (·) (·) ();obtain⟨wd,aP⟩:∃ wd,wds[q1]?=J wd:=(_,yAa h1,);let gw:bM wdL (.int q1)=J (.str wd.s):=mU (by rw[yAe,aP];rfl);let(a,x2,ha,e2):=dw h (k+1) x1 K (d+3) ↑K h0 () ();let hra:K[a]?=J K[a]:=yAa ha;let(cB,cO):=aH0 hr hra;generalize K[a]=r at *;let(q3,x3,h3,e3):=dw h (k+2) x2 K (d+3) 4 (·) (·) ();obtain⟨w,k4,x4,hw3,hw4,hk4,s4⟩:∃ (w k4:Nat) (x4:Int),1<=w/\w<=64/\k4<=k+6/\xs (d<$>4) (pN (bL (bL (bL (bL tK))))) (eR c (J (.d wdL)) wd r.w qx qx) (zs c (k+2) x2 K)=J (.nx (eR c (J (.d wdL)) wd w qx qx),zs c k4 x4 K):=by
  by_cases q:q3=1
  .let(w,x4,g1,g2,e4):=@aIT _ _ _ (k+3) c.ns K x3 h.toAt0 (d+2) ();exact(w,k+6,x4,g1,g2,yAd _,iE (aU (aT (bV U aF) e3) aF (jK ())) (gS (bY U e4)),)
  .exact(r.w,k+3,x3,cB,cO,(),gT (aU (aT (bV U aF) e3) aF (kA ())) U,)
 let(rr,k',x',bF,e6,o,okr,hk',s5):=@aUP _ _ k4 d (J (.d wdL)) _ x4 wd h hr h0 hl hw3 hw4 ();let l:=o.len;refine(_,k',x',bF++[rr],(U,tH o.ok okr,by rw[xAn];omega,by rw[xAn];show ↑bF+1<=_;omega,),(),?_,);rw[dU U (d+4) _ _ U];exact aLs U ((aZ9 _ _ _ _ (bL (bL tK))).trans (bA (bT {} (aT (bV U aF) e1) U gw) U (bA (qJ U (aT (bV U (gQ U h.rows)) e2) h.rows hra) U (bX s4 (bX s5 (dW (fZ (gW {} {} (aBy h _ _ _ () rr))))))))) (h.toAt0.take _ _ _)
end GP
def tr(n w:Nat):Nat:=w-bl (n^^^(2^w-1))
def aYs(n w i:Nat):(n^^^(2^w-1))[i]! =(n[i]! ^^ decide (i<w)):=by rw[yAr,dF]
def aM1(n w:Nat):tr n w<=w:=yDx _ _
def aJT(hi:w-tr n w<=i)(hw:i<w):n[i]! =Z:=by
 let h1:bl (n^^^(2^w-1))<=i:=by unfold tr at hi;omega
 let h2:=cS (rQ (n^^^(2^w-1))) h1;rw[aYs,dqT hw] at h2;simp_all
def eU(a w:Nat):Nat:=(2^w-1)^^^(2^(w-a)-1)
def pQ:(eU a w)[i]! =(decide (w-a<=i)&&decide (i<w)):=by
 unfold eU;rw[yAr,dF,dF];by_cases h1:i<w<;>by_cases h2:i<w-a
 .rw[dqT h1,dqT h2,dqF ()];rfl
 .rw[dqT h1,dqF h2,dqT ()];rfl
 .omega
 .rw[dqF h1,dqF h2,yGj];rfl
def aEB:x&&&y≠0 ↔ ∃ i,x[i]! =Z/\y[i]! =Z:=by
 constructor
 .intro h;by_cases c:∃ i,x[i]! =Z/\y[i]! =Z
  .exact c
  .refine absurd ((lH _).mpr λ i=>?_) h;rw[yAi];cases h1:x[i]!<;>cases h2:y[i]!<;>first|rfl|exact absurd (i,h1,h2,) c
 .rintro ⟨i,h1,h2⟩ z;rw[lH] at z;simp_all
def dS(x a w:Nat):Nat:=if x&&&eU a w=0 then x else x|||eU a w
def aCf(h:x<2^w):dS x a w<2^w:=by
 unfold dS;split
 .exact h
 .exact yBi h (by
   apply yCt;intro i hi;rw[pQ,dqF (show ¬ i<w by omega),yGj])
def aB8:(dS x a w)[i]! =Z ↔ x[i]! =Z\/((w-a<=i/\i<w)/\∃ j,(w-a<=j/\j<w)/\x[j]! =Z):=by
 unfold dS;split
 .rename_i h;constructor
  .intro z;exact .inl z
  .rintro (z|⟨_,j,h1,h2⟩)
   .exact z
   .refine absurd h (aEB.mpr (j,h2,?_,));rw[pQ,dqT h1.1,dqT h1.2];rfl
 .rename_i h;let(j,h1,h2):=aEB.mp h;rw[pQ,yBf,decide_eq_true_eq,decide_eq_true_eq] at h2;rw[xAo,yFa,pQ,yBf,decide_eq_true_eq,decide_eq_true_eq];constructor
  .rintro (z|z)
   .exact .inl z
   .exact .inr (z,j,h2,h1,)
  .rintro (z|⟨z,_⟩)
   .exact .inl z
   .exact .inr z
def aAn(i j k:Nat):Nat:=max (max i j) k
structure Ft where
 N:Nat
 O:Nat
 A:Nat
def iN(f:Ft)(w:Nat):Ft:=(dS f.N f.A w,dS f.O f.A w,aAn f.A (tr (dS f.N f.A w) w) (tr (dS f.O f.A w) w),)
def Hd(f:Ft)(n w:Nat):Prop:=(∀ i,f.N[i]! =Z->n[i]! =Ff)/\(∀ i,f.O[i]! =Z->n[i]! =Z)/\((∀ i,w-f.A<=i->i<w->n[i]! =Z)\/(∀ i,w-f.A<=i->i<w->n[i]! =Ff))
structure FtOk(f:Ft)(w:Nat):Prop where
 lN:f.N<2^w
 lO:f.O<2^w
 a1:1<=f.A
 aw:f.A<=w
def bAO(h:FtOk f w):FtOk (iN f w) w:=by let h1:=aM1 (dS f.N f.A w) w;let h2:=aM1 (dS f.O f.A w) w;let h3:=h.a1;let h4:=h.aw;exact(aCf h.lN,aCf h.lO,xAh h3 (xAh (yBt _ _) (yBt _ _)),Nat.max_le.mpr (Nat.max_le.mpr (h4,h1,),h2,),)
def aSy(h:FtOk f w):Hd (iN f w) n w ↔ Hd f n w:=by
 let aA:f.A<=(iN f w).A:=xAh (yBt _ _) (yBt _ _);constructor
 .rintro ⟨h1,h2,h3⟩;refine(λ i hi=>h1 i (aB8.mpr (.inl hi)),λ i hi=>h2 i (aB8.mpr (.inl hi)),?_,);rcases h3 with h3|h3
  .exact .inl λ i a b=>h3 i (xAh (yFr aA _) a) b
  .exact .inr λ i a b=>h3 i (xAh (yFr aA _) a) b
 .rintro ⟨h1,h2,h3⟩;let hN:∀ i,(iN f w).N[i]! =Z->n[i]! =Ff:=λ i hi=>by
   rcases aB8.mp hi with z|⟨⟨a,b⟩,j,⟨c,d⟩,e⟩
   .exact h1 i z
   .rcases h3 with h3|h3
    .have x1:=h3 j c d;rw[h1 j e] at x1;cases x1
    .exact h3 i a b
  let hO:∀ i,(iN f w).O[i]! =Z->n[i]! =Z:=λ i hi=>by
   rcases aB8.mp hi with z|⟨⟨a,b⟩,j,⟨c,d⟩,e⟩
   .exact h2 i z
   .rcases h3 with h3|h3
    .exact h3 i a b
    .have x1:=h3 j c d;rw[h2 j e] at x1;cases x1
  refine(hN,hO,?_,);let cA:(iN f w).A=f.A\/(iN f w).A=tr (iN f w).N w\/(iN f w).A=tr (iN f w).O w:=by
   show max (max _ _) _=_\/max (max _ _) _=tr (dS f.N f.A w) w\/max (max _ _) _=tr (dS f.O f.A w) w;omega
  rcases cA with c|c|c
  .rw[c];exact h3
  .rw[c];exact .inr λ i a b=>hN i (aJT a b)
  .rw[c];exact .inl λ i a b=>hO i (aJT a b)
def bBL(h:Hd f n w):f.N&&&f.O=0:=by
 by_cases c:f.N&&&f.O=0
 .exact c
 .let(i,h1,h2):=aEB.mp c;let x:=h.1 i h1;rw[h.2.1 i h2] at x;cases x
def aBW(hn:n<2^w)(hi:i<w):(2^w-1-n)[i]! = !n[i]!:=by have:=mR hn i;unfold pK at this;rw[this,dqT hi,yAp]
def aS5(hn:n<2^w)(ha:a<=w):n/2^(w-a)=2^a-1 ↔ ∀ i,w-a<=i->i<w->n[i]! =Z:=by
 constructor
 .intro h i h1 h2;have:(n/2^(w-a))[(i-(w-a))]! =(2^a-1)[(i-(w-a))]!:=by rw[h]
  rw[fN,dF,show w-a+(i-(w-a))=i by omega,dqT ()] at this;exact this
 .intro h;apply xAl;intro i;rw[fN,dF];by_cases c:i<a
  .rw[h _ () (),dqT c]
  .rw[cS hn (),dqF c]
def aSF(hn:n<2^w)(ha:a<=w):n/2^(w-a)=0 ↔ ∀ i,w-a<=i->i<w->n[i]! =Ff:=by
 rw[aDk];constructor
 .intro h i h1 _;exact h i h1
 .intro h i h1;by_cases c:i<w
  .exact h i h1 c
  .exact cS hn ()
def aSz:(x&&&y=0) ↔ ∀ i,y[i]! =Z->x[i]! =Ff:=by
 rw[lH];constructor
 .intro h i hy;have:=h i;rw[yAi,hy,yCu] at this;exact this
 grind
def aH9{x y:Nat}:(x&&&y=y) ↔ ∀ i,y[i]! =Z->x[i]! =Z:=by
 constructor
 .grind
 .intro h;apply xAl;simp_all
def vO(f g:Ft):Bool:=(dQ f.N g.N==0)&&((dQ f.O g.O==0)&&decide (f.A<=g.A))
def dL(d w:Nat)(h:w<=100000)(S:aD):cl fns (d+1) 0 [.d (Iz w)] S=J (.d (Iz (2^w-1:_)),S):=by rw[dU U d _ S U];erw[11,aNz,jR h,eO,aBm]
def aU0(n:Nat):yAn (n:Int)=bl n:=aHy n
def aBw(d n:Nat)(S:aD):cl fns (d+1) 1 [.d (Iz n)] S=J (.d (Iz ((bl n:Nat):Int)),S):=by rw[dU U d _ S U];erw[11,aMr,aFB,aNe,aU0]
def lr(n:Nat):Nat:=bl (n^^^(n+1))-1
def aTz(n:Nat):lr n=nC (qA n (bl n+1)):=aHR (bl n+1) n (xAb (rQ n) (yAl (·) ()))
def aJP(d n:Nat)(S:aD)(h:n<2^10000):cl fns (d+2) 2 [.d (Iz n)] S=J (.d (Iz ((2^bl n-1:Nat):Int)),S):=by rw[dU U (d+1) _ S U];let hq1:=dL d (bl n) (xAh (uT h) (·));erw[11,aLA,aBw d n,hq1]
def aMd(h:n<2^w)(hw:w<=10000):n<2^10000:=xAb h (yAl (·) hw)
def yQ(d n:Nat)(S:aD):cl fns (d+2) 3 [.d (Iz n)] S=J (.d (Iz ((lr n:Nat):Int)),S):=by
 let h1:=aIN (aHx n);let e1:(n:Int)+1=(n+1:_):=();let e2:((bl (n^^^(n+1)):Nat):Int)-1=((lr n:Nat):Int):=by unfold lr;omega
 rw[dU U (d+1) _ S U];erw[11,aJf,kM,e1,gH,aBw d,eO,e2]
def Ft.d(f:Ft):D:=.tuple [.int f.N,.int f.O,.int f.A]
def sA(f:Ft):bM f.d (Iz 0)=J (.int f.N):=rfl
def zT(f:Ft):bM f.d (Iz 1)=J (.int f.O):=rfl
def aF6(f:Ft):bM f.d (Iz 2)=J (.int f.A):=rfl
def aSv(a b:Nat):((a:_)==(b:_))=(a==b):=by rw[yCj,beq_iff_eq,beq_iff_eq];omega
def aT9(a b:Nat):decide ((a:_)<=(b:_))=decide (a<=b):=by rw[decide_eq_decide];omega
def aIe(d n w:Nat)(S:aD)(hn:n<2^w)(hw:w<=64):cl fns (d+2) 4 [.d (Iz n),.d (Iz w)] S=J (.d (Iz ((tr n w:Nat):Int)),S):=by
 let h1:=uT (aPz hn);let e2:(w:Int)-((bl (n^^^(2^w-1)):Nat):Int)=((tr n w:Nat):Int):=by unfold tr;omega
 rw[dU U (d+1) _ S U];let hq2:=dL d w ();erw[11,aIR,hq2,gH,aBw d,eO,e2]
def qX(d a w:Nat)(S:aD)(ha:a<=w)(hw:w<=64):cl fns (d+2) 22 [.d (Iz a),.d (Iz w)] S=J (.d (Iz ((eU a w:Nat):Int)),S):=by let e:(w:Int)-(a:Int)=(w-a:_):=();rw[dU U (d+1) _ S U];let hq3:=dL d w ();let hq4:=dL d (w-a) ();erw[11,aIL,hq3,eO,e,hq4,gH]
def mxI(i j:Nat):(if (j:Int)>(i:Int) then (j:_) else (i:_))=((max i j:Nat):Int):=by
 by_cases h:(j:Int)>(i:Int)
 .rw[if_pos h];omega
 .rw[if_neg h];omega
def aBo(i j k:Nat):sH [.int i,.int j,.int k]=J (.int ((aAn i j k:Nat):Int)):=by
 show J (Iz (if (j:Int)>(i:Int) then (if (k:Int)>(j:Int) then (k:Int) else (j:Int)) else (if (k:Int)>(i:Int) then (k:Int) else (i:Int))))=_;rw[mxI,mxI];unfold aAn;by_cases h:(j:Int)>(i:Int)
 .rw[if_pos h,show max (max i j) k=max j k by omega]
 .rw[if_neg h,show max (max i j) k=max i k by omega]
def aE9(h:(x&&&eU a w==0)=Z):dS x a w=x:=by unfold dS;rw[if_pos (eq_of_beq h)]
def aEI(h:(x&&&eU a w==0)=Ff):dS x a w=x|||eU a w:=by unfold dS;rw[if_neg (by simpa using h)]
def aRz(d:Nat)(f:Ft)(w:Nat)(k:FtOk f w)(hw:w<=64)(S:aD):cl fns (d+3) 25 [.d f.d,.d (Iz w)] S=J (.d (iN f w).d,S):=by
 let t1:=aIe d (dS f.N f.A w) w S (aCf k.lN) hw;let t2:=aIe d (dS f.O f.A w) w S (aCf k.lO) hw;rw[dU U (d+2) _ S U];show _=J (W.d (Tz [Iz ((dS f.N f.A w:Nat):Int),Iz ((dS f.O f.A w:Nat):Int),Iz ((aAn f.A (tr (dS f.N f.A w) w) (tr (dS f.O f.A w) w):Nat):Int)]),S);cases c1:(f.N&&&eU f.A w==0) with
 |true=>
   rw[aE9 c1] at t1 ⊢;cases c2:(f.O&&&eU f.A w==0) with
   |true=>
     rw[aE9 c2] at t2 ⊢;erw[11,wY,Ft.d,qX (d:=d) (a:=f.A) (w:=w) (S:=S) k.aw hw,dB,uF,nP,c1,c2,t1,t2,aBo]
   |false=>
     rw[aEI c2] at t2 ⊢;erw[11,wY,Ft.d,qX (d:=d) (a:=f.A) (w:=w) (S:=S) k.aw hw,dB,uF,nP,c1,c2,fO,t1,t2,aBo]
 |false=>
   rw[aEI c1] at t1 ⊢;cases c2:(f.O&&&eU f.A w==0) with
   |true=>
     rw[aE9 c2] at t2 ⊢;erw[11,wY,Ft.d,qX (d:=d) (a:=f.A) (w:=w) (S:=S) k.aw hw,dB,uF,nP,c1,c2,fO,t1,t2,aBo]
   |false=>
     rw[aEI c2] at t2 ⊢;erw[11,wY,Ft.d,qX (d:=d) (a:=f.A) (w:=w) (S:=S) k.aw hw,dB,uF,nP,c1,c2,fO,t1,t2,aBo]
def aRl(d:Nat)(f g:Ft)(S:aD):cl fns (d+1) 24 [.d f.d,.d g.d] S=J (.d (Bz (vO f g)),S):=by
 rw[dU U d _ S U];unfold vO;cases c1:(dQ f.N g.N==0) with
 |false=>erw[20,gZ,aBI,sA,rE,rA,gR,nP,c1,yAw]
 |true=>
   cases c2:(dQ f.O g.O==0) with
   |false=>erw[20,gZ,aBI,sA,zT,rE,rA,gR,nP,c1,c2,yAw,yAp]|true=>erw[20,gZ,aBI,sA,zT,aF6,rE,rA,gR,nP,c1,c2,rO,aT9,yAp]
def tN(d:Nat)(f:Ft)(S:aD):cl fns (d+1) 26 [.d f.d] S=J (.d (Iz f.O),S):=by rw[dU U d _ S U];erw[11,aLU,zT]
def aBb(d:Nat)(f:Ft)(w:Nat)(lN:f.N<2^w)(hw:w<=64)(S:aD):cl fns (d+2) 27 [.d f.d,.d (Iz w)] S=J (.d (Iz (2^w-1-f.N:_)),S):=by
 let e:(2^w-1)^^^f.N=2^w-1-f.N:=by
  apply xAl;intro i;have:=mR lN i;unfold pK at this;rw[this,yAr,dF];by_cases c:i<w
  .rw[dqT c];cases f.N[i]!<;>rfl
  .rw[dqF c,cS lN ()];rfl
 rw[dU U (d+1) _ S U];let hq5:=dL d w ();erw[11,aIa,sA,hq5,gH,e]
def aA9(d n w v:Nat)(S:aD)(hw:0<w)(hv:v<=1000)(cO:w<=64):cl fns (d+2) 5 [.d (Iz n),.d (Iz w),.d (Iz v)] S=J (.d (Iz ((cI n w v:Nat):Int)),S):=by
 unfold cI;split
 .rename_i c;exact aV U U U (bA (aJ aF (aJ {} aF (jC hw)) (jR ())) U (cJ (aU (aJ {} {} (dB _ _)) aF (zP c)) (aN {}))) yAb
 .rename_i c;exact aV U U U (bA (aJ aF (aJ {} aF (jC hw)) (jR ())) U (bW (aU (aJ {} {} (dB _ _)) aF (yU c)) (aN (aJ {} (aJ (bY U (dL d v () S)) (bY U (dL d w () S)) (gH _ _)) (fO _ _))))) yAb
def aD1(a k:Nat):sH [.int 1,.int ((a:Nat)-(k:Nat):Int)]=J (.int ((max 1 (a-k):Nat):Int)):=by rw[aZS];congr 2;by_cases h1:(a:Int)-(k:Int)>1<;>simp only[h1,if_true,if_false]<;>omega
def nU(i j:Nat):kX [.int i,.int j]=J (.int ((min i j:Nat):Int)):=by rw[aZQ];congr 2;by_cases h1:(j:Int)<(i:Int)<;>simp only[h1,if_true,if_false]<;>omega
def zE(w:Nat)(f:Ft)(k:Nat):Ft:=((f.N*2^k|||(2^k-1))&&&(2^w-1),f.O*2^k&&&(2^w-1),max 1 (f.A-k),)
def aUe(d w:Nat)(f:Ft)(k:Nat)(hf:FtOk f w)(hw:w<=64)(hk:k<=1000)(S:aD):cl fns (d+2) 38 [.d (Iz w),.d f.d,.d (Iz k)] S=J (.d (zE w f k).d,S):=
 aV U U U (bA (aJ (aJ (aM U U) {} (tX hf.lN ())) (bY U (dL d k () S)) (fO _ _)) U (aN (eQ (aJ {} (bY U (dL d w () S)) (dB _ _)) (aJ (aJ (aM U U) {} (tX hf.lO ())) (bY U (dL d w () S)) (dB _ _)) (fU aF (aJ (aM U U) {} (eO _ _)) (aD1 _ _))))) yAb
def uA(w:Nat)(f:Ft)(k:Nat):Ft:=(f.N/2^k|||eU (min k w) w,f.O/2^k,if k=0 then f.A else 1,)
def aSt(d w:Nat)(f:Ft)(k:Nat)(hw:w<=64)(S:aD):cl fns (d+3) 39 [.d (Iz w),.d f.d,.d (Iz k)] S=J (.d (uA w f k).d,S):=by
 let go:∀ {x:Nat},ev (d<$>2) (.ite (.cmp .Eq (.var 2) (.int 0)) (.ix (.var 1) (.int 2)) (.int 1)) [(w:),J (.d f.d),(k:),(((f.N/2^k|||eU (min k w) w:Nat):Int):)] S=J (.d (Iz x),S)->cl fns (d+3) 39 [.d (Iz w),.d f.d,.d (Iz k)] S=J (.d (Ft.mk (f.N/2^k|||eU (min k w) w) (f.O/2^k) x).d,S):=λ h=>aV U U U (bA (aJ (aJ (aM U U) {} (kN _ _)) (aT (aE (fU {} {} (nU _ _)) (aE {} aQ)) (qX d (min k w) w S (yDd ..) hw)) (fO _ _)) U (aN (eQ {} (aJ (aM U U) {} (kN _ _)) h))) yAb
 unfold uA;split
 .rename_i c;exact go (oN (aU {} aF (zP c)) (oU (aM U U)))
 .rename_i c;exact go (x:=1) (oN (aU {} aF (yU c)) U)
def xW(w:Nat)(f:Ft)(k:Nat):Ft:=(cI f.N w (w+k)/2^k,cI f.O w (w+k)/2^k,min w (f.A+k),)
def aRO(d w:Nat)(f:Ft)(k:Nat)(cB:1<=w)(hw:w<=64)(hk:k<=900)(S:aD):cl fns (d+3) 40 [.d (Iz w),.d f.d,.d (Iz k)] S=J (.d (xW w f k).d,S):=by
 let st:=λ n=>aA9 d n w (w+k) S cB () hw
 exact aV U U U (bA (aJ {} {} (iZ _ _)) U (aN (eQ (aJ (aT (aE (aM U U) (aE {} (aE {} aQ))) (st f.N)) {} (kN _ _)) (aJ (aT (aE (aM U U) (aE {} (aE {} aQ))) (st f.O)) {} (kN _ _)) (fU {} (aJ (aM U U) {} (iZ _ _)) (nU _ _))))) yAb
def aAj(v w:Nat)(f:Ft):Ft:=(f.N&&&(2^w-1),f.O&&&(2^w-1),max 1 (f.A-(v-w)),)
def uQ(v w:Nat)(f:Ft):Ft:=(f.N|||eU (w-v) w,f.O,if w=v then f.A else 1,)
def zJ(v w:Nat)(f:Ft):Ft:=(cI f.N v w,cI f.O v w,f.A+(w-v),)
def aWA(d v w:Nat)(f:Ft)(hv:w<=v)(hw:w<=64)(S:aD):cl fns (d+2) 42 [.d (Sz "cut"),.d (Iz v),.d (Iz w),.d f.d] S=J (.d (aAj v w f).d,S):=
 aV U U U (bX (iV {} U) (yW (a:=.cut) U (aN (eQ (aJ {} (bY U (dL d w () S)) (dB _ _)) (aJ {} (bY U (dL d w () S)) (dB _ _)) (fU aF (aJ {} (aJ {} {} (jC hv)) (eO _ _)) (aD1 _ _)))))) yAb
def aUk(d v w:Nat)(f:Ft)(hv:v<=w)(hw:w<=64)(S:aD):cl fns (d+3) 42 [.d (Sz "wide"),.d (Iz v),.d (Iz w),.d f.d] S=J (.d (uQ v w f).d,S):=by
 let go:∀ {x:Nat},ev (d<$>2) (.ite (.cmp .Eq (.var 2) (.var 1)) (.var 6) (.int 1)) [J (.d (Sz "wide")),(v:),(w:),J (.d f.d),(f.N:),(f.O:),(f.A:)] S=J (.d (Iz x),S)->cl fns (d+3) 42 [.d (Sz "wide"),.d (Iz v),.d (Iz w),.d f.d] S=J (.d (Ft.mk (f.N|||eU (w-v) w) f.O x).d,S):=λ h=>aV U U U (bX (iV {} U) (nW (a:=.wide) .cut U U (yW (a:=.wide) U (aN (eQ (aJ {} (aT (aE (aJ {} {} (jC hv)) (aE {} aQ)) (qX d (w-v) w S (yDx ..) hw)) (fO _ _)) {} h))))) yAb
 unfold uQ;split
 .rename_i c;exact go (oN (aU {} {} (jK ())) (oU {}))
 .rename_i c;exact go (x:=1) (oN (aU {} {} (kA ())) U)
def aUL(d v w:Nat)(f:Ft)(hv1:1<=v)(hv:v<=w)(hw:w<=64)(S:aD):cl fns (d+3) 42 [.d (Sz "sign"),.d (Iz v),.d (Iz w),.d f.d] S=J (.d (zJ v w f).d,S):=by
 let st:=λ n=>aA9 d n v w S hv1 () ()
 exact aV U U U (bX (iV {} U) (nW (a:=.sign) .cut U U (nW (a:=.sign) .wide U U (aN (eQ (gF U U U (st f.N)) (gF U U U (st f.O)) (aJ {} (aJ {} {} (jC hv)) (iZ _ _))))))) yAb
def bwN(wd:Wd)(f g:Ft):Ft:=match wd with|.and=>(f.N|||g.N,f.O&&&g.O,min f.A g.A,)|.or=>(f.N&&&g.N,f.O|||g.O,min f.A g.A,)|_=>(f.N&&&g.N|||f.O&&&g.O,f.N&&&g.O|||f.O&&&g.N,min f.A g.A,)
def aIJ(d:Nat)(f g:Ft)(S:aD):cl fns (d+1) 36 [.d f.d,.d g.d] S=J (.d (Iz (f.N&&&g.O|||f.O&&&g.N:_)),S):=aV U U U (aN (aJ (aJ (aM U U) (aM U U) (dB _ _)) (aJ (aM U U) (aM U U) (dB _ _)) (fO _ _))) yAb
def aQe(d:Nat)(wd:Wd)(aP:wd=.and\/wd=.or\/wd=.xor)(f g:Ft)(S:aD):cl fns (d+2) 37 [.d (Sz wd.s),.d f.d,.d g.d] S=J (.d (bwN wd f g).d,S):=by
 let al:=nU f.A g.A;erw[50,aP]
 .exact aV U U U (bA (fU (aM U U) (aM U U) al) U (yW (a:=.and) U (aN (eQ (aJ (aM U U) (aM U U) (fO _ _)) (aJ (aM U U) (aM U U) (dB _ _)) {})))) yAb
 .exact aV U U U (bA (fU (aM U U) (aM U U) al) U (nW (a:=.or) .and U U (yW (a:=.or) U (aN (eQ (aJ (aM U U) (aM U U) (dB _ _)) (aJ (aM U U) (aM U U) (fO _ _)) {}))))) yAb
 .exact aV U U U (bA (fU (aM U U) (aM U U) al) U (nW (a:=.xor) .and U U (nW (a:=.xor) .or U U (bA (aJ (aJ (aM U U) (aM U U) (dB _ _)) (aJ (aM U U) (aM U U) (dB _ _)) (fO _ _)) U (aN (eQ {} (cT U U (aIJ d f g S)) {})))))) yAb
def dY(f:Ft)(k:Nat):Nat:=2-2*(f.N[k]!).toNat-(f.O[k]!).toNat
def iD{f:Ft}(hd:f.N&&&f.O=0)(k:Nat):(dY f k==0)=f.N[k]!:=by have:=(lH _).mp hd k;rw[yAi] at this;unfold dY;revert this;cases f.N[k]!<;>cases f.O[k]!<;>decide
def iI{f:Ft}(hd:f.N&&&f.O=0)(k:Nat):(dY f k==1)=f.O[k]!:=by have:=(lH _).mp hd k;rw[yAi] at this;unfold dY;revert this;cases f.N[k]!<;>cases f.O[k]!<;>decide
def xR(f:Ft)(k:Nat):dY f k<3:=by unfold dY;omega
def ntN(x:Nat):Nat:=[1,0,2].getD x 2
def aCk(f:Ft)(k i:Nat):Nat:=if i<k then 0 else dY f (i-k)
def aB5(f:Ft)(w k i:Nat):Nat:=if i+k<w then dY f (i+k) else 0
def aNG(f:Ft)(w i:Nat):Nat:=dY f (min i (w-1))
def aCr(f:Ft)(w i:Nat):Nat:=if i<w then dY f i else 0
structure Mk(t:Nat->Nat)(n:Nat)(g:Ft):Prop where
 lN:g.N<2^n
 lO:g.O<2^n
 b0:∀ i,i<n->g.N[i]! =(t i==0)
 b1:∀ i,i<n->g.O[i]! =(t i==1)
def aOo{f:Ft}(hd:f.N&&&f.O=0)(k:Nat):(ntN (dY f k)==0)=f.O[k]!:=by rw[<- iI hd k];have:=xR f k;revert this;generalize dY f k=x;intro h;have:x=0\/x=1\/x=2:=();erw[50,this]<;>rfl
def aOh{f:Ft}(hd:f.N&&&f.O=0)(k:Nat):(ntN (dY f k)==1)=f.N[k]!:=by rw[<- iD hd k];have:=xR f k;revert this;generalize dY f k=x;intro h;have:x=0\/x=1\/x=2:=();erw[50,this]<;>rfl
def aWF(hf:FtOk f w)(hd:f.N&&&f.O=0):Mk (λ i=>ntN (dY f i)) w (f.O,f.N,f.A,):=
 (hf.lO,hf.lN,λ i _=>(aOo hd i).symm,λ i _=>(aOh hd i).symm,)
def xG(w:Nat):2^w-1<2^w:=by have:=xAe w;omega
def aBh(n k i:Nat):(n*2^k)[i]! =(decide (k<=i)&&n[(i-k)]!):=by
 have:=@aHO 0 k n (xAe k) i;rw[yEn] at this;rw[this];by_cases c:i<k
 .rw[if_pos c,dqF (),yBh,yAw]
 .rw[if_neg c,dqT (),yAp]
def aK0{f:Ft}(k:Nat)(hd:f.N&&&f.O=0):Mk (aCk f k) w (zE w f k):=by
 refine(xAi yFo (xG w),xAi yFo (xG w),λ i hi=>?_,λ i hi=>?_,)
 .show((f.N*2^k|||(2^k-1))&&&(2^w-1))[i]! =_;rw[yAi,xAo,dF,dF,aBh,dqT hi,yCu];unfold aCk;by_cases c:i<k
  .rw[if_pos c,dqT c,yHz];rfl
  .rw[if_neg c,dqF c,yGq,dqT (),yAp,iD hd]
 .show(f.O*2^k&&&(2^w-1))[i]! =_;rw[yAi,dF,aBh,dqT hi,yCu];unfold aCk;by_cases c:i<k
  .rw[if_pos c,dqF (),yAw];rfl
  .rw[if_neg c,dqT (),yAp,iI hd]
def aFf(a w:Nat):eU a w<2^w:=by apply yCt;intro i hi;rw[pQ,dqF (show ¬ i<w by omega),yGj]
def aIA(h:n<2^w):n/2^k<2^w:=xAi (yGv _ _) h
def aJJ(k:Nat)(hf:FtOk f w)(hd:f.N&&&f.O=0):Mk (aB5 f w k) w (uA w f k):=by
 refine(yBi (aIA hf.lN) (aFf _ _),aIA hf.lO,λ i hi=>?_,λ i hi=>?_,)
 .show(f.N/2^k|||eU (min k w) w)[i]! =_;rw[xAo,fN,pQ,dqT hi,yCu];unfold aB5;by_cases c:i+k<w
  .rw[if_pos c,dqF (),yGq,iD hd,yDn]
  .rw[if_neg c,dqT (),yHz];rfl
 .show(f.O/2^k)[i]! =_;rw[fN];unfold aB5;by_cases c:i+k<w
  .rw[if_pos c,iI hd,yDn]
  .rw[if_neg c,cS hf.lO ()];rfl
def tS(h:n<2^w)(hw:0<w)(hv:w<=v)(hi:i<v):(cI n w v)[i]! =n[(min i (w-1))]!:=by
 rw[fX h hw hv];by_cases c:i<w
 .rw[if_pos c,yEj ()]
 .rw[if_neg c,dqT hi,yAp,yEt ()]
def aJM(k:Nat)(hw:1<=w)(hf:FtOk f w)(hd:f.N&&&f.O=0):Mk (λ i=>aNG f w (i+k)) w (xW w f k):=by
 let hl:∀ n,n<2^w->cI n w (w+k)/2^k<2^w:=λ n hn=>by
  rw[yEb (xAe k),<- yEq];exact mP hn hw ()
 refine(hl _ hf.lN,hl _ hf.lO,λ i hi=>?_,λ i hi=>?_,)
 .show(cI f.N w (w+k)/2^k)[i]! =(dY f (min (i+k) (w-1))==0);rw[fN,tS hf.lN hw () (),iD hd,yDn]
 .show(cI f.O w (w+k)/2^k)[i]! =(dY f (min (i+k) (w-1))==1);rw[fN,tS hf.lO hw () (),iI hd,yDn]
def aMv{f:Ft}(v w:Nat)(hd:f.N&&&f.O=0):Mk (dY f) w (aAj v w f):=by
 refine(xAi yFo (xG w),xAi yFo (xG w),λ i hi=>?_,λ i hi=>?_,)
 .show(f.N&&&(2^w-1))[i]! =_;rw[yAi,dF,dqT hi,yCu,iD hd]
 .show(f.O&&&(2^w-1))[i]! =_;rw[yAi,dF,dqT hi,yCu,iI hd]
def aKz(h:n<2^v)(hv:v<=w):n<2^w:=xAb h (yAl (·) hv)
def aKs(hv:v<=w)(hf:FtOk f v)(hd:f.N&&&f.O=0):Mk (aCr f v) w (uQ v w f):=by
 refine(yBi (aKz hf.lN hv) (aFf _ _),aKz hf.lO hv,λ i hi=>?_,λ i hi=>?_,)
 .show(f.N|||eU (w-v) w)[i]! =_;rw[xAo,pQ,dqT hi,yCu];unfold aCr;by_cases c:i<v
  .rw[if_pos c,dqF (),yGq,iD hd]
  .rw[if_neg c,dqT (),yHz];rfl
 .show f.O[i]! =_;unfold aCr;by_cases c:i<v
  .rw[if_pos c,iI hd]
  .rw[if_neg c,cS hf.lO ()];rfl
def aKq(h1:1<=v)(hv:v<=w)(hf:FtOk f v)(hd:f.N&&&f.O=0):Mk (aNG f v) w (zJ v w f):=by
 refine(mP hf.lN h1 hv,mP hf.lO h1 hv,λ i hi=>?_,λ i hi=>?_,)
 .show(cI f.N v w)[i]! =(dY f (min i (v-1))==0);rw[tS hf.lN h1 hv hi,iD hd]
 .show(cI f.O v w)[i]! =(dY f (min i (v-1))==1);rw[tS hf.lO h1 hv hi,iI hd]
def btN(b:Nat)(x y:Nat):Nat:=match b with
 |0=>if x=0\/y=0 then 0 else if x<2/\y<2 then x*y else 2
 |1=>if x=1\/y=1 then 1 else if x<2/\y<2 then x+y else 2
 |_=>if x<2/\y<2 then (if x=y then 0 else 1) else 2
def kP(f:Ft)(k:Nat):dY f k=0\/dY f k=1\/dY f k=2:=by have:=xR f k;omega
def vM(b:Nat)(f g:Ft):Ft:=match b with|0=>(f.N|||g.N,f.O&&&g.O,min f.A g.A,)|1=>(f.N&&&g.N,f.O|||g.O,min f.A g.A,)|_=>(f.N&&&g.N|||f.O&&&g.O,f.N&&&g.O|||f.O&&&g.N,min f.A g.A,)
def aMJ(b:Nat)(hb:b=0\/b=1\/b=2)(hf:FtOk f w)(hd:f.N&&&f.O=0)(hg:FtOk g w)(he:g.N&&&g.O=0):Mk (λ i=>btN b (dY f i) (dY g i)) w (vM b f g):=by
 let an:∀ {x y:Nat},x<2^w->x&&&y<2^w:=λ h=>xAi yCb h
 erw[50,hb]
 .refine(yBi hf.lN hg.lN,an hf.lO,λ i _=>?_,λ i _=>?_,)
  .show(f.N|||g.N)[i]! =_;rw[xAo,<- iD hd,<- iD he];rcases kP f i with h|h|h<;>rcases kP g i with h'|h'|h'<;>rw[h,h']<;>rfl
  .show(f.O&&&g.O)[i]! =_;rw[yAi,<- iI hd,<- iI he];rcases kP f i with h|h|h<;>rcases kP g i with h'|h'|h'<;>rw[h,h']<;>rfl
 .refine(an hf.lN,yBi hf.lO hg.lO,λ i _=>?_,λ i _=>?_,)
  .show(f.N&&&g.N)[i]! =_;rw[yAi,<- iD hd,<- iD he];rcases kP f i with h|h|h<;>rcases kP g i with h'|h'|h'<;>rw[h,h']<;>rfl
  .show(f.O|||g.O)[i]! =_;rw[xAo,<- iI hd,<- iI he];rcases kP f i with h|h|h<;>rcases kP g i with h'|h'|h'<;>rw[h,h']<;>rfl
 .refine(yBi (an hf.lN) (an hf.lO),yBi (an hf.lN) (an hf.lO),λ i _=>?_,λ i _=>?_,)
  .show(f.N&&&g.N|||f.O&&&g.O)[i]! =_;rw[xAo,yAi,yAi,<- iD hd,<- iD he,<- iI hd,<- iI he];rcases kP f i with h|h|h<;>rcases kP g i with h'|h'|h'<;>rw[h,h']<;>rfl
  .show(f.N&&&g.O|||f.O&&&g.N)[i]! =_;rw[xAo,yAi,yAi,<- iD hd,<- iD he,<- iI hd,<- iI he];rcases kP f i with h|h|h<;>rcases kP g i with h'|h'|h'<;>rw[h,h']<;>rfl
def cH(x:Int)(w:Nat):Nat:=(x%(2^w:_)).toNat
def pV(x:Int)(w:Nat):((cH x w:Nat):Int)=x%(2^w:_):=by
 unfold cH;have:(0:Int)<(2^w:_):=by have:=xAe w;omega
 have:=Int.emod_nonneg x (b:=(2^w:_)) ();omega
def qC(x:Int)(w:Nat):cH x w<2^w:=by
 let h:=pV x w;have:(0:Int)<(2^w:_):=by have:=xAe w;omega
 have:=yHe x this;omega
def aY5{x:Int}(h0:0<=x)(h1:x<(2^w:_)):((cH x w:Nat):Int)=x:=by rw[pV,Int.emod_eq_of_lt h0 h1]
def aEV(x:Int)(h:L<=w):cH x w%2^L=cH x L:=by
 let e:((cH x w%2^L:Nat):Int)=((cH x L:Nat):Int):=by
  rw[yBu,pV,pV];exact Int.emod_emod_of_dvd x (by
   have:(2:Nat)^L ∣ 2^w:=Nat.pow_dvd_pow 2 h;exact Int.natCast_dvd_natCast.mpr this)
 omega
def aWP(x:Int)(h:L<=w)(hi:i<L):(cH x w)[i]! =(cH x L)[i]!:=by rw[<- aEV x h,yAk,dqT hi,yAp]
def tU(h:i<lr n):n[i]! =Z:=by
 rw[aTz] at h;let h1:=aI7 _ i h;let h2:(qA n (bl n+1)).getD i Ff=Z:=by rw[xAg,h1];rfl
 rw[aQG,yBf] at h2;exact h2.2
def bAh(h:n<2^w):lr n<=w:=by
 by_cases c:lr n<=w
 .exact c
 .have:=@tU w n ();rw[cS h (yAd _)] at this;cases this
def aEm{x y:Nat}(h:∀ i,x[i]! =Z->y[i]! =Z):x<=y:=by
 have:y&&&x=x:=by
  rw[aH9];exact h
 rw[<- this];exact yCb
def aMc(hx:x<2^w)(hy:y<2^w)(h:∀ i,x[i]! =Z->y[i]! =Ff):y<=2^w-1-x:=by
 refine aEm (y:=pK x w) λ i hi=>?_
 let hiw:i<w:=by
  by_cases c:i<w
  .exact c
  .rw[cS hy ()] at hi;cases hi
 rw[mR hx,dqT hiw,yAp]
 grind
def aCp(h:Hd f n w):f.O<=n:=aEm h.2.1
def aCw(k:FtOk f w)(hn:n<2^w)(h:Hd f n w):n<=2^w-1-f.N:=aMc k.lN hn h.1
def aMj(h:Hd f n w)(hk:∀ i,i<L->(f.N|||f.O)[i]! =Z):n%2^L=f.O%2^L:=by
 apply xAl;intro i;rw[yAk,yAk];by_cases c:i<L
 .rw[dqT c,yAp,yAp];let q:=hk i c;rw[xAo] at q;cases o:f.O[i]! with
  |true=>exact h.2.1 i o
  |false=>
    rw[o,yGq] at q;exact h.1 i q
 .rw[dqF c,yAw,yAw]
inductive Sw where|add|sub|mul
def Sw.oc:Sw->Int->Int->Int
 |.add,a,b=>a+b|.sub,a,b=>a-b|.mul,a,b=>a*b
def aHW(h:a%2^L=b%2^L):(a:_)%(2^L:_)=(b:_)%(2^L:_):=by rw[<- yBu,<- yBu,h]
def aV4(s:Sw){a b c e:Nat}{L:Nat}(h1:a%2^L=c%2^L)(h2:b%2^L=e%2^L):cH (s.oc a b) L=cH (s.oc c e) L:=by
 let g1:=aHW h1;let g2:=aHW h2;have:s.oc a b%(2^L:_)=s.oc c e%(2^L:_):=by
  cases s with
  |add=>show((a:Nat)+(b:Nat):Int)%_=((c:Nat)+(e:Nat):Int)%_;rw[Int.add_emod,g1,g2,<- Int.add_emod]|sub=>show((a:Nat)-(b:Nat):Int)%_=((c:Nat)-(e:Nat):Int)%_;rw[Int.sub_emod,g1,g2,<- Int.sub_emod]|mul=>show((a:Nat)*(b:Nat):Int)%_=((c:Nat)*(e:Nat):Int)%_;rw[Int.mul_emod,g1,g2,<- Int.mul_emod]
 unfold cH;rw[this]
def iX(f g:Ft):Nat:=lr ((f.N|||f.O)&&&(g.N|||g.O))
def aEs(k:FtOk f w):iX f g<=w:=bAh (xAi yCb (yBi k.lN k.lO))
def nH(s:Sw)(f g:Ft):Nat:=cH (s.oc (f.O:Nat) (g.O:Nat)) (iX f g)
def vL(s:Sw)(f g:Ft):Nat:=(2^iX f g-1)^^^nH s f g
def aJE(s:Sw)(k:FtOk f w)(h1:Hd f a w)(h2:Hd g b w)(hi:i<iX f g):(cH (s.oc (a:Nat) (b:Nat)) w)[i]! =(nH s f g)[i]!:=by
 let hk:∀ i,i<iX f g->(f.N|||f.O)[i]! =Z/\(g.N|||g.O)[i]! =true:=λ i hi=>by
  have:=tU hi;rw[yAi,yBf] at this;exact this
 rw[aWP _ (aEs k) hi,aV4 s (aMj h1 λ i hi=>(hk i hi).1) (aMj h2 λ i hi=>(hk i hi).2)];rfl
def aSC(h:(nH s f g)[i]! =Z):i<iX f g:=by
 by_cases c:i<iX f g
 .exact c
 .have hl:nH s f g<2^iX f g:=qC _ _;rw[cS hl ()] at h;cases h
def aSa(h:(vL s f g)[i]! =Z):i<iX f g/\(nH s f g)[i]! =Ff:=by
 unfold vL at h;rw[yAr,dF] at h;let hl:nH s f g<2^iX f g:=qC _ _;by_cases c:i<iX f g
 .rw[dqT c] at h;simp_all
 .rw[dqF c,cS hl ()] at h;cases h
def hJ(s:Sw)(w:Nat)(f g:Ft):Int:=match s with|.sub=>(f.O:Nat)-(2^w-1-g.N:_)|s=>s.oc (f.O:Nat) (g.O:Nat)
def hG(s:Sw)(w:Nat)(f g:Ft):Int:=match s with|.sub=>(2^w-1-f.N:_)-(g.O:Nat)|s=>s.oc (2^w-1-f.N:_) (2^w-1-g.N:_)
def aM3(s:Sw)(kf:FtOk f w)(kg:FtOk g w)(ha:a<2^w)(hb:b<2^w)(h1:Hd f a w)(h2:Hd g b w):hJ s w f g<=s.oc (a:Nat) (b:Nat)/\s.oc (a:Nat) (b:Nat)<=hG s w f g:=by
 let l1:=aCp h1;let l2:=aCp h2;let m1:=aCw kf ha h1;let m2:=aCw kg hb h2;cases s with
 |add=>
   show((f.O:Nat)+(g.O:Nat):Int)<=(a:Nat)+(b:Nat)/\((a:Nat)+(b:Nat):Int)<=(2^w-1-f.N:_)+(2^w-1-g.N:_);generalize 2^w-1-f.N=F at *;generalize 2^w-1-g.N=G at *;omega
 |sub=>
   show((f.O:Nat)-(2^w-1-g.N:_))<=(a:Nat)-(b:Nat)/\((a:Nat)-(b:Nat):Int)<=(2^w-1-f.N:_)-(g.O:Nat);generalize 2^w-1-f.N=F at *;generalize 2^w-1-g.N=G at *;omega
 |mul=>
   show((f.O:Nat)*(g.O:Nat):Int)<=(a:Nat)*(b:Nat)/\((a:Nat)*(b:Nat):Int)<=(2^w-1-f.N:_)*(2^w-1-g.N:_);rw[<- yCk,<- yCk,<- yCk];exact(Int.ofNat_le.mpr (Nat.mul_le_mul l1 l2),Int.ofNat_le.mpr (Nat.mul_le_mul m1 m2),)
def sU(s:Sw)(w:Nat)(f g:Ft):Nat:=if hJ s w f g<0\/hG s w f g>(2^w-1:_) then 0 else wK (hJ s w f g).toNat (hG s w f g).toNat w
def sV(s:Sw)(w:Nat)(f g:Ft):Nat:=if hJ s w f g<0\/hG s w f g>(2^w-1:_) then 0 else qB (hJ s w f g).toNat (hG s w f g).toNat w
def aS1(hl:l<2^w)(hg:g<2^w):xS l g w<2^w:=by apply yCt;intro i hi;rw[aDt hl hg,dqF (),yAw]
def aJw(s:Sw)(kf:FtOk f w)(kg:FtOk g w)(ha:a<2^w)(hb:b<2^w)(h1:Hd f a w)(h2:Hd g b w) :
 (∀ i,(sU s w f g)[i]! =Z->(cH (s.oc (a:Nat) (b:Nat)) w)[i]! =Ff)/\(∀ i,(sV s w f g)[i]! =Z->(cH (s.oc (a:Nat) (b:Nat)) w)[i]! =Z)/\sU s w f g<2^w/\sV s w f g<2^w:=by
 let hb':=aM3 s kf kg ha hb h1 h2;let hp:=xAe w;unfold sU sV;by_cases c:hJ s w f g<0\/hG s w f g>(2^w-1:_)
 .rw[if_pos c,if_pos c];simp_all
 .rw[if_neg c,if_neg c];let e:=@aY5 w (s.oc (a:Nat) (b:Nat)) () ();let q1:(hJ s w f g).toNat<=cH (s.oc (a:Nat) (b:Nat)) w:=();let q2:cH (s.oc (a:Nat) (b:Nat)) w<=(hG s w f g).toNat:=();let q3:(hJ s w f g).toNat<2^w:=();let q4:(hG s w f g).toNat<2^w:=();let n1:=aOJ q3 q4 q1 q2;let n2:=aO5 q3 q4 q1 q2;rw[aSz] at n1;rw[aH9] at n2;let kl:=aS1 q3 q4;exact(n1,n2,yBy kl (xAi yCb kl),xAi yCb kl,)
def tD(s:Sw)(w:Nat)(f g:Ft):Nat:=match s with|.mul=>2^min w (lr f.N+lr g.N)-1|_=>0
def aJU{n:Nat}(h:∀ i,i<L->n[i]! =Ff):2^L ∣ n:=by
 have:n%2^L=0:=by
  rw[lH];simp_all
 exact Nat.dvd_of_mod_eq_zero this
def aUX(s:Sw)(h1:Hd f a w)(h2:Hd g b w):∀ i,(tD s w f g)[i]! =Z->(cH (s.oc (a:Nat) (b:Nat)) w)[i]! =Ff:=by
 intro i hi;cases s with
 |add=>rw[show tD .add w f g=0 from U,yBh] at hi;cases hi
 |sub=>rw[show tD .sub w f g=0 from U,yBh] at hi;cases hi
 |mul=>
   let hi':(2^min w (lr f.N+lr g.N)-1)[i]! =Z:=hi;rw[dF,decide_eq_true_eq] at hi';let(c,hc):=@aJU (lr f.N) a λ i hi=>h1.1 i (tU hi)
   let(e,he):=@aJU (lr g.N) b λ i hi=>h2.1 i (tU hi)
   let ex:cH (Sw.mul.oc (a:Nat) (b:Nat)) w=a*b%2^w:=by
    have:=pV (Sw.mul.oc (a:Nat) (b:Nat)) w;let e2:Sw.mul.oc (a:Nat) (b:Nat)=(a*b:_):=(yCk a b).symm;rw[e2,<- yBu] at this;rw[e2];omega
   rw[ex,yAk,dqT (),yAp];have:a*b=c*e*2^(lr f.N+lr g.N):=by
    rw[hc,he,yEq]
    grind
   rw[this,aBh,dqF (),yAw]
def aEH(hn:n<2^w)(ha:a<=w):((∀ i,w-a<=i->i<w->n[i]! =Z)\/(∀ i,w-a<=i->i<w->n[i]! =Ff)) ↔ 2^w-2^(w-a)<=n\/n<2^(w-a):=by
 let hp:=xAe (w-a);let e1:(2:Nat)^w=2^a*2^(w-a):=by rw[<- yEq,show a+(w-a)=w by omega]
 let hpa:=xAe a;rw[<- aS5 hn ha,<- aSF hn ha];let q0:n/2^(w-a)=0 ↔ n<2^(w-a):=by
  rw[Nat.div_eq_zero_iff];omega
 let q1:n/2^(w-a)=2^a-1 ↔ 2^w-2^(w-a)<=n:=by
  let es:(2^a-1)*2^(w-a)=2^w-2^(w-a):=by rw[Nat.sub_mul,Nat.one_mul,<- e1]
  constructor
  .intro h;have:=Nat.div_mul_le_self n (2^(w-a));rw[h,es] at this;exact this
  .intro h;let g1:2^a-1<=n/2^(w-a):=by
    rw[Nat.le_div_iff_mul_le hp,es];exact h
   let g2:n/2^(w-a)<2^a:=by
    rw[yEb hp,<- e1];exact hn
   omega
 rw[q0,q1]
def mL(s:Sw)(f g:Ft):Nat:=match s with|.mul=>1|_=>max 1 (min f.A g.A-1)
def tQ{n:Nat}(ha:m<=a)(h:(∀ i,w-a<=i->i<w->n[i]! =Z)\/(∀ i,w-a<=i->i<w->n[i]! =Ff)):(∀ i,w-m<=i->i<w->n[i]! =Z)\/(∀ i,w-m<=i->i<w->n[i]! =Ff):=by
 rcases h with h|h
 .exact .inl λ i a b=>h i (xAh (yFr ha _) a) b
 .exact .inr λ i a b=>h i (xAh (yFr ha _) a) b
def mV(n w:Nat):(∀ i,w-1<=i->i<w->n[i]! =Z)\/(∀ i,w-1<=i->i<w->n[i]! =Ff):=by
 cases c:n[(w-1)]! with
 |true=>exact .inl λ i h1 h2=>by rw[show i=w-1 by omega];exact c|false=>exact .inr λ i h1 h2=>by rw[show i=w-1 by omega];exact c
def aMu{W:Nat}(ha:a<W)(h:W-T<=a\/a<T)(hT:T<=W):∃ x k:Int,(a:_)=x+k*(W:_) /\ -(T:_)<=x/\x<(T:_):=by
 rcases h with h|h
 .exact((a:Int)-W,1,(),(),(),)
 .exact((a:Int),0,(),(),(),)
def aUB{x W T r k:Int}(h:r=x+k*W)(h1 : -(2*T)<=x)(h2:x<2*T)(hT:2*T<=W)(r0:0<=r)(rW:r<W):W-2*T<=r\/r<2*T:=by
 rcases (show k <= -1\/k=0\/k=1\/2<=k by omega) with c|rfl|rfl|c
 .have:k*W<=(-1)*W:=yGk c ();omega
 .exact .inr ()
 .exact .inl ()
 .have:2*W<=k*W:=yGk c ();omega
def aWK{x y k l W z:Int}:(x+k*W+(y+l*W))-W*z=x+y+(k+l-z)*W:=by rw[Int.sub_mul,Int.add_mul,Int.mul_comm W z];omega
def aV2{x y k l W z:Int}:(x+k*W-(y+l*W))-W*z=x-y+(k-l-z)*W:=by rw[Int.sub_mul,Int.sub_mul,Int.mul_comm W z];omega
def bB8(c:mL s f g≠1):(mL s f g=min f.A g.A-1/\2<=min f.A g.A-1)/\s≠.mul:=by
 cases s with
 |mul=>exact absurd U c
 |add=>
   let e:mL .add f g=max 1 (min f.A g.A-1):=rfl;exact⟨(),λ h=>nomatch h⟩
 |sub=>
   let e:mL .sub f g=max 1 (min f.A g.A-1):=rfl;exact⟨(),λ h=>nomatch h⟩
def aTh(s:Sw)(kf:FtOk f w)(kg:FtOk g w)(ha:a<2^w)(hb:b<2^w)(h1:Hd f a w)(h2:Hd g b w) :
 (∀ i,w-mL s f g<=i->i<w->(cH (s.oc (a:Nat) (b:Nat)) w)[i]! =Z)\/(∀ i,w-mL s f g<=i->i<w->(cH (s.oc (a:Nat) (b:Nat)) w)[i]! =Ff):=by
 by_cases c:mL s f g=1
 .rw[c];exact mV _ _
 .have hw:=kf.aw;let((hA,hm),hs):=bB8 c;let g1:min f.A g.A<=f.A:=yCa ..;let g2:min f.A g.A<=g.A:=yDd ..;rw[hA];generalize min f.A g.A=m at *;let hmw:m<=w:=xAh g1 hw;rw[aEH (qC _ _) (xAh (yDx m 1) hmw)];let a1:=(aEH ha hmw).mp (tQ g1 h1.2.2);let a2:=(aEH hb hmw).mp (tQ g2 h2.2.2);let e:(2:Nat)^(w-(m-1))=2*2^(w-m):=by
   rw[show w-(m-1)=w-m+1 by omega,yFc,yHx]
  let hT:2*2^(w-m)<=2^w:=by
   rw[<- e];exact yAl (·) (yDx ..)
  rw[e];let hT1:2^(w-m)<=2^w:=yAl (·) (yDx ..);let(x,k,e1,x1,x2):=aMu ha a1 hT1;let(y,l,e2,y1,y2):=aMu hb a2 hT1;let hr:=pV (s.oc (a:Nat) (b:Nat)) w;let hl:=qC (s.oc (a:Nat) (b:Nat)) w;rw[Int.emod_def] at hr;generalize cH (s.oc (a:Nat) (b:Nat)) w=r at *;generalize s.oc (a:Nat) (b:Nat)/(2^w:_)=z at *;generalize (2:Nat)^w=W at *;generalize (2:Nat)^(w-m)=T at *;clear a1 a2 h1 h2 e g1 g2 hmw hw hm hA c;let dA:∀ {x k:Int},(r:Int)=x+k*(W:Int) -> -(2*(T:Int))<=x->x<2*(T:Int)->W-2*T<=r\/r<2*T:=λ q1 q2 q3=>by
   rcases aUB q1 q2 q3 () () () with q|q
   .exact .inl ()
   .exact .inr ()
  cases s with
  |mul=>simp_all
  |add=>
    let hk:(r:Int)=(a:Int)+(b:Int)-(W:Int)*z:=hr;rw[e1,e2,aWK] at hk;exact dA hk () ()
  |sub=>
    let hk:(r:Int)=(a:Int)-(b:Int)-(W:Int)*z:=hr;rw[e1,e2,aV2] at hk;exact dA hk () ()
def zX(s:Sw)(w:Nat)(f g:Ft):Ft:=(vL s f g|||sU s w f g|||tD s w f g,nH s f g|||sV s w f g,mL s f g,)
def aR2(s:Sw)(kf:FtOk f w)(kg:FtOk g w)(ha:a<2^w)(hb:b<2^w)(h1:Hd f a w)(h2:Hd g b w):Hd (zX s w f g) (cH (s.oc (a:Nat) (b:Nat)) w) w:=by
 let(t1,t2,_,_):=aJw s kf kg ha hb h1 h2;refine(λ i hi=>?_,λ i hi=>?_,aTh s kf kg ha hb h1 h2,)
 .have hi':(vL s f g|||sU s w f g|||tD s w f g)[i]! =Z:=hi;rw[xAo,xAo,yFa,yFa] at hi';rcases hi' with (q|q)|q
  .let(q1,q2):=aSa q;rw[aJE s kf h1 h2 q1,q2]
  .exact t1 i q
  .exact aUX s h1 h2 i q
 .have hi':(nH s f g|||sV s w f g)[i]! =Z:=hi;rw[xAo,yFa] at hi';rcases hi' with q|q
  .rw[aJE s kf h1 h2 (aSC q),q]
  .exact t2 i q
def aDF(h:n<2^v)(hv:v<=w):n<2^w:=xAb h (yAl (·) hv)
def aXS(s:Sw)(kf:FtOk f w)(kg:FtOk g w)(ha:a<2^w)(hb:b<2^w)(h1:Hd f a w)(h2:Hd g b w):FtOk (zX s w f g) w:=by
 let(_,_,t3,t4):=aJw s kf kg ha hb h1 h2;let hL:=aEs (g:=g) kf;let hO:nH s f g<2^iX f g:=qC _ _;let hN:vL s f g<2^iX f g:=yBy (by have:=xAe (iX f g);omega) hO;let hl:tD s w f g<2^w:=by
  have:=xAe w;cases s with
  |add=>exact this|sub=>exact this|mul=>exact aDF (v:=min w (lr f.N+lr g.N)) (by show 2^min w (lr f.N+lr g.N)-1<_;have:=xAe (min w (lr f.N+lr g.N));omega) ()
 let q1:=kf.aw;let q2:=kf.a1;refine(yBi (yBi (aDF hN hL) t3) hl,yBi (aDF hO hL) t4,?_,?_,)
 .show 1<=mL s f g;cases s with|mul=>exact yAd 1|add=>exact yBt _ _|sub=>exact yBt _ _
 .show mL s f g<=w;cases s with|mul=>show 1<=w;omega|add=>exact Nat.max_le.mpr (xAh q2 q1,xAh (yDx _ _) (xAh (yCa _ _) q1),)|sub=>exact Nat.max_le.mpr (xAh q2 q1,xAh (yDx _ _) (xAh (yCa _ _) q1),)
def F1:Ft:=(0,1,1,)
def F0:Ft:=(1,0,1,)
def mI:Ft:=(0,0,1,)
def l3(a b c e:Int):Ft:=if b<c then F1 else if e<=a then F0 else mI
def aNR(a b c e:Int):l3 a b c e=F1\/l3 a b c e=F0\/l3 a b c e=mI:=by
 unfold l3;split
 .exact .inl U
 .split
  .exact .inr (.inl U)
  .exact .inr (.inr U)
def aBE(h:r<2^k):r^^^2^k=r+2^k:=by
 apply xAl;intro i;let e:r+2^k=r+1*2^k:=();rw[e,aHO h,yAr,yFq];by_cases c:i<k
 .rw[if_pos c,dqF (),Bool.xor_false]
 .rw[if_neg c,cS h (),Bool.false_xor];by_cases c2:k=i
  .simp_all
  .rw[dqF c2];have:1<2^(i-k):=Nat.one_lt_two_pow ();rw[cS this (yAd _)]
def aDK(h1:2^k<=n)(h2:n<2^(k+1)):n^^^2^k=n-2^k:=by
 let hr:n-2^k<2^k:=by rw[yFc] at h2;omega
 let e:(n-2^k)^^^2^k=n:=by rw[aBE hr];omega
 grind
def aNg(h:n<2^w)(hw:0<w):n[(w-1)]! =decide (2^(w-1)<=n):=by
 let hb:=aKH h hw;let hp:=xAe (w-1);cases c:n[(w-1)]! with
 |true=>
   rw[c] at hb;have:2^(w-1)<=n:=by
    by_cases q:n<2^(w-1)
    .rw[Nat.div_eq_of_lt q] at hb;simp_all
    .omega
   rw[dqT this]
 |false=>
   rw[c] at hb;simp_all
def tt(f:Ft)(w:Nat):Ft:=(f.N^^^((f.N^^^f.O)&&&eU 1 w),f.O^^^((f.N^^^f.O)&&&eU 1 w),f.A,)
def aJp(hw:1<=w):(eU 1 w)[i]! =decide (w-1=i):=by
 rw[pQ];by_cases c:w-1=i
 .rw[dqT c,dqT (),dqT ()];rfl
 .rw[dqF c];by_cases c2:w-1<=i
  .rw[dqF (show ¬ i<w by omega),yGj]
  .rw[dqF c2,yAw]
def aSZ(k:FtOk f w)(hd:f.N&&&f.O=0)(hw:1<=w) :
 (f.N<2^(w-1)/\f.O<2^(w-1)/\(tt f w).N=f.N/\(tt f w).O=f.O)\/(f.N<2^(w-1)/\2^(w-1)<=f.O/\(tt f w).N=f.N+2^(w-1)/\(tt f w).O=f.O-2^(w-1))\/(2^(w-1)<=f.N/\f.O<2^(w-1)/\(tt f w).N=f.N-2^(w-1)/\(tt f w).O=f.O+2^(w-1)):=by
 let hN:=aNg k.lN (show 0<w by omega);let hO:=aNg k.lO (show 0<w by omega);let lN:=k.lN;let lO:=k.lO;let e:w-1+1=w:=();let tb:∀ b:Bool,(f.N[(w-1)]! ^^ f.O[(w-1)]!)=b->(f.N^^^f.O)&&&eU 1 w=if b=Z then 2^(w-1) else 0:=λ b hb=>by
  apply xAl;intro i;rw[yAi,aJp hw,yAr]
  grind
 by_cases c1:2^(w-1)<=f.N
 .by_cases c2:2^(w-1)<=f.O
  .exfalso;have:=(lH _).mp hd (w-1);rw[yAi,hN,hO,dqT c1,dqT c2] at this;cases this
  .refine .inr (.inr (c1,(),?_,?_,))
   .show f.N^^^_=_;rw[tb Z (by rw[hN,hO,dqT c1,dqF c2];rfl),if_pos U,aDK c1 (by rw[e];exact lN)]
   .show f.O^^^_=_;rw[tb Z (by rw[hN,hO,dqT c1,dqF c2];rfl),if_pos U,aBE ()]
 .by_cases c2:2^(w-1)<=f.O
  .refine .inr (.inl ((),c2,?_,?_,))
   .show f.N^^^_=_;rw[tb Z (by rw[hN,hO,dqT c2,dqF c1];rfl),if_pos U,aBE ()]
   .show f.O^^^_=_;rw[tb Z (by rw[hN,hO,dqT c2,dqF c1];rfl),if_pos U,aDK c2 (by rw[e];exact lO)]
  .refine .inl ((),(),?_,?_,)
   .show f.N^^^_=_;rw[tb Ff (by rw[hN,hO,dqF c2,dqF c1];rfl),if_neg (·),yIa]
   .show f.O^^^_=_;rw[tb Ff (by rw[hN,hO,dqF c2,dqF c1];rfl),if_neg (·),yIa]
def aMB(k:FtOk f w)(hd:f.N&&&f.O=0)(hw:1<=w):(tt f w).N<2^w:=by
 let h2:(2:Nat)^w=2^(w-1)+2^(w-1):=by
  have:(2:Nat)^(w-1+1)=2^(w-1)*2:=yFc ..;rw[show w-1+1=w by omega] at this;omega
 let lN:=k.lN;rcases aSZ k hd hw with ⟨_,_,h,_⟩|⟨_,_,h,_⟩|⟨_,_,h,_⟩<;>rw[h]<;>omega
def pM(w:Nat)(f g:Ft):Ft:=if f.N&&&g.O|||f.O&&&g.N≠0 then F0 else if (f.N|||f.O)&&&(g.N|||g.O)=2^w-1 then F1 else mI
def bAn(w:Nat)(f g:Ft):pM w f g=F1\/pM w f g=F0\/pM w f g=mI:=by
 unfold pM
 grind
def qV(t f g:Ft):Ft:=if t.O=1 then f else if t.N=1 then g else (f.N&&&g.N,f.O&&&g.O,min f.A g.A,)
def bAY(hf:FtOk f w)(hg:FtOk g w):FtOk (qV t f g) w:=by
 unfold qV;split
 .exact hf
 .split
  .exact hg
  .have h1:=hf.a1;let h2:=hg.a1;let h3:=hf.aw;exact(xAi yCb hf.lN,xAi yCb hf.lO,by show 1<=min f.A g.A;omega,by show min f.A g.A<=w;omega,)
def Al(n w a:Nat):Prop:=(∀ i,w-a<=i->i<w->n[i]! =Z)\/(∀ i,w-a<=i->i<w->n[i]! =Ff)
def qE{f:Ft}(hd:f.N&&&f.O=0)(h:Hd f a w)(j:Nat):(dY f j=0->a[j]! =Ff)/\(dY f j=1->a[j]! =Z):=by
 refine(λ e=>h.1 j ?_,λ e=>h.2.1 j ?_,)
 .rw[<- iD hd j,beq_iff_eq];exact e
 .rw[<- iI hd j,beq_iff_eq];exact e
def pR{t:Nat->Nat}{z:Nat}(m:Mk t n g)(hz:∀ i,i<n->(t i=0->z[i]! =Ff)/\(t i=1->z[i]! =Z))(ha:Al z n g.A):Hd g z n:=by
 let hl:∀ {x:Nat},x<2^n->∀ i,x[i]! =Z->i<n:=λ {x} hx i hi=>by
  by_cases c:i<n
  .exact c
  .rw[cS hx ()] at hi;cases hi
 refine(λ i hi=>?_,λ i hi=>?_,ha,)
 .have c:=hl m.lN i hi;rw[m.b0 i c,beq_iff_eq] at hi;exact(hz i c).1 hi
 .have c:=hl m.lO i hi;rw[m.b1 i c,beq_iff_eq] at hi;exact(hz i c).2 hi
def aWy(n w:Nat):cH (n:_) w=n%2^w:=by have:=pV (n:_) w;rw[<- yBu] at this;omega
section
variable {f:Ft}{a w:Nat}(hf:FtOk f w)(hd:f.N&&&f.O=0)(ha:a<2 ^ w)(h:Hd f a w)
include hf hd ha h
theorem aSO:Hd (f.O,f.N,f.A,) (2^w-1-a) w:=by
 refine pR (aWF hf hd) (λ i hi=>?_) ?_
 .rw[aBW ha hi];refine(λ e=>?_,λ e=>?_,)
  .have:f.O[i]! =Z:=by rw[<- aOo hd i,beq_iff_eq];exact e
   rw[h.2.1 i this];rfl
  .have:f.N[i]! =Z:=by rw[<- aOh hd i,beq_iff_eq];exact e
   rw[h.1 i this];rfl
 .rcases h.2.2 with q|q
  .exact .inr λ i h1 h2=>by rw[aBW ha h2,q i h1 h2];rfl
  .exact .inl λ i h1 h2=>by rw[aBW ha h2,q i h1 h2];rfl
theorem aRe(k:Nat):Hd (zE w f k) (a*2^k%2^w) w:=by
 let hb:∀ i,i<w->(a*2^k%2^w)[i]! =(decide (k<=i)&&a[(i-k)]!):=λ i hi=>by
  rw[yAk,dqT hi,yAp,aBh]
 refine pR (aK0 k hd) (λ i hi=>?_) ?_
 .rw[hb i hi];unfold aCk;by_cases c:i<k
  .rw[if_pos c,dqF (),yAw];simp_all
  .rw[if_neg c,dqT (),yAp];exact qE hd h (i-k)
 .show Al _ w (max 1 (f.A-k));by_cases c:f.A-k<=1
  .rw[Nat.max_eq_left c];exact mV _ _
  .rw[Nat.max_eq_right ()];have:=hf.aw;rcases h.2.2 with q|q
   .exact .inl λ i h1 h2=>by rw[hb i h2,dqT (),yAp];exact q _ () ()
   .exact .inr λ i h1 h2=>by rw[hb i h2,dqT (),yAp];exact q _ () ()
theorem aPL(k:Nat):Hd (uA w f k) (a/2^k) w:=by
 refine pR (aJJ k hf hd) (λ i hi=>?_) ?_
 .rw[fN];unfold aB5;by_cases c:i+k<w
  .rw[if_pos c,yDn k i];exact qE hd h (i+k)
  .rw[if_neg c,cS ha ()];simp_all
 .show Al _ w (if k=0 then f.A else 1);by_cases c:k=0
  .subst c;rw[if_pos U,Nat.pow_zero,Nat.div_one];exact h.2.2
  .rw[if_neg c];exact mV _ _
theorem aQv(hw:1<=w)(k:Nat):Hd (xW w f k) (cI a w (w+k)/2^k) w:=by
 let hb:∀ i,i<w->(cI a w (w+k)/2^k)[i]! =a[(min (i+k) (w-1))]!:=λ i hi=>by
  rw[fN,tS ha hw () (),yDn]
 refine pR (aJM k hw hf hd) (λ i hi=>?_) ?_
 .rw[hb i hi];exact qE hd h _
 .have h1:=hf.a1;show Al _ w (min w (f.A+k));rcases h.2.2 with q|q
  .exact .inl λ i h1 h2=>by rw[hb i h2];exact q _ () ()
  .exact .inr λ i h1 h2=>by rw[hb i h2];exact q _ () ()
theorem aR0(hv:v<=w):Hd (aAj w v f) (a%2^v) v:=by
 let hb:∀ i,i<v->(a%2^v)[i]! =a[i]!:=λ i hi=>by rw[yAk,dqT hi,yAp]
 refine pR (aMv w v hd) (λ i hi=>?_) ?_
 .rw[hb i hi];exact qE hd h _
 .have h1:=hf.aw;show Al _ v (max 1 (f.A-(w-v)));by_cases c:f.A-(w-v)<=1
  .rw[Nat.max_eq_left c];exact mV _ _
  .rw[Nat.max_eq_right ()];rcases h.2.2 with q|q
   .exact .inl λ i h1 h2=>by rw[hb i h2];exact q _ () ()
   .exact .inr λ i h1 h2=>by rw[hb i h2];exact q _ () ()
theorem aQE(hv:w<=v):Hd (uQ w v f) a v:=by
 refine pR (aKs hv hf hd) (λ i hi=>?_) ?_
 .unfold aCr;by_cases c:i<w
  .rw[if_pos c];exact qE hd h i
  .rw[if_neg c,cS ha ()];simp_all
 .show Al _ v (if v=w then f.A else 1);by_cases c:v=w
  .subst c;rw[if_pos U];exact h.2.2
  .rw[if_neg c];exact mV _ _
theorem aQU(hw:1<=w)(hv:w<=v):Hd (zJ w v f) (cI a w v) v:=by
 let hb:∀ i,i<v->(cI a w v)[i]! =a[(min i (w-1))]!:=λ i hi=>tS ha hw hv hi
 refine pR (aKq hw hv hf hd) (λ i hi=>?_) ?_
 .rw[hb i hi];exact qE hd h _
 .have h1:=hf.a1;show Al _ v (f.A+(v-w));rcases h.2.2 with q|q
  .exact .inl λ i h1 h2=>by rw[hb i h2];exact q _ () ()
  .exact .inr λ i h1 h2=>by rw[hb i h2];exact q _ () ()
end
def bwv(b:Nat)(x y:Nat):Nat:=match b with|0=>x&&&y|1=>x|||y|_=>x^^^y
def bwB(b:Nat)(x y:Bool):Bool:=match b with|0=>x&&y|1=>x||y|_=>x ^^ y
def aEl(hb:b=0\/b=1\/b=2)(x y i:Nat):(bwv b x y)[i]! =bwB b (x[i]!) (y[i]!):=by
 erw[50,hb]
 .exact yAi ..
 .exact xAo ..
 .exact yAr ..
def aWu:∀ (b p q:Fin 3) (x y:Bool),(p.1=0->x=Ff)/\(p.1=1->x=Z)->(q.1=0->y=Ff)/\(q.1=1->y=Z)->(btN b.1 p.1 q.1=0->bwB b.1 x y=Ff)/\(btN b.1 p.1 q.1=1->bwB b.1 x y=Z):=by decide
def aVx(hb:b=0\/b=1\/b=2)(hf:FtOk f w)(hd:f.N&&&f.O=0)(h:Hd f x w)(hg:FtOk g w)(he:g.N&&&g.O=0)(h':Hd g y w):Hd (vM b f g) (bwv b x y) w:=by
 refine pR (aMJ b hb hf hd hg he) (λ i hi=>?_) ?_
 .rw[aEl hb];exact aWu (b,(),) (_,xR f i,) (_,xR g i,) _ _ (qE hd h i) (qE he h' i)
 .have hA:(vM b f g).A=min f.A g.A:=by erw[50,hb]<;>rfl
  rw[hA];let q1:Al x w (min f.A g.A):=tQ () h.2.2;let q2:Al y w (min f.A g.A):=tQ () h'.2.2;let go:∀ (p q:Bool),(∀ i,w-min f.A g.A<=i->i<w->x[i]! =p)->(∀ i,w-min f.A g.A<=i->i<w->y[i]! =q)->Al (bwv b x y) w (min f.A g.A):=λ p q hp hq=>by
   cases c:bwB b p q with
   |true=>exact .inl λ i h1 h2=>by rw[aEl hb,hp i h1 h2,hq i h1 h2,c]|false=>exact .inr λ i h1 h2=>by rw[aEl hb,hp i h1 h2,hq i h1 h2,c]
  rcases q1 with q1|q1<;>rcases q2 with q2|q2
  .exact go _ _ q1 q2
  .exact go _ _ q1 q2
  .exact go _ _ q1 q2
  .exact go _ _ q1 q2
def gG(a w:Nat):Int:=if 2^(w-1)<=a then (a:Nat)-(2^w:_) else (a:Nat)
def aW9(x:Int)(w:Nat)(q:Int):cH (x+(2^w:_)*q) w=cH x w:=by unfold cH;rw[Int.add_mul_emod_self_left]
def tV{i:Nat}{p:Prop}(h:(0:Nat)[i]! =Z):p:=by rw[yBh] at h;cases h
def aKt:Hd F1 1 1:=(λ i h=>tV h,λ i h=>h,mV _ _,)
def aKQ:Hd F0 0 1:=(λ i h=>yBh i,λ i h=>tV h,mV _ _,)
def aKA(z:Nat):Hd mI z 1:=(λ i h=>tV h,λ i h=>tV h,mV _ _,)
def aK7{a b c e x y:Int}(h1:a<=x)(h2:x<=b)(h3:c<=y)(h4:y<=e):Hd (l3 a b c e) (decide (x<y)).toNat 1:=by
 unfold l3;by_cases c1:b<c
 .rw[if_pos c1,dqT ()];exact aKt
 .rw[if_neg c1];by_cases c2:e<=a
  .rw[if_pos c2,dqF ()];exact aKQ
  .rw[if_neg c2];exact aKA _
def aRF(kf:FtOk f w)(kg:FtOk g w)(ha:a<2^w)(hb:b<2^w)(h1:Hd f a w)(h2:Hd g b w):Hd (l3 (f.O:Nat) (2^w-1-f.N:_) (g.O:Nat) (2^w-1-g.N:_)) (decide ((a:Int)<(b:Int))).toNat 1:=
 aK7 (Int.ofNat_le.mpr (aCp h1)) (Int.ofNat_le.mpr (aCw kf ha h1)) (Int.ofNat_le.mpr (aCp h2)) (Int.ofNat_le.mpr (aCw kg hb h2))
def aRx(kf:FtOk f w)(ha:a<2^w)(hb:b<2^w)(h1:Hd f a w)(h2:Hd g b w):Hd (pM w f g) (decide (a=b)).toNat 1:=by
 unfold pM;by_cases c1:f.N&&&g.O|||f.O&&&g.N=0
 .rw[if_neg (by simp[c1])];by_cases c2:(f.N|||f.O)&&&(g.N|||g.O)=2^w-1
  .rw[if_pos c2];have:a=b:=by
    apply xAl;intro i;by_cases c:i<w
    .have q:((f.N|||f.O)&&&(g.N|||g.O))[i]! =Z:=by rw[c2,dF,dqT c]
     let z:=(lH _).mp c1 i;rw[yAi,xAo,xAo] at q;rw[xAo,yAi,yAi] at z;let p1:=h1.1 i;let p2:=h1.2.1 i;let p3:=h2.1 i;let p4:=h2.2.1 i
     grind
    .rw[cS ha (),cS hb ()]
   rw[dqT this];exact aKt
  .rw[if_neg c2];exact aKA _
 .rw[if_pos c1];have:a≠b:=by
   rintro rfl;apply c1;rw[lH];intro i;rw[xAo,yAi,yAi];let p1:=h1.1 i;let p2:=h1.2.1 i;let p3:=h2.1 i;let p4:=h2.2.1 i
   grind
  rw[dqF this];exact aKQ
def tw(a w:Nat):Int:=gG a w+(2^(w-1):_)
def bAE(hw:1<=w):(2:Nat)^w=2^(w-1)+2^(w-1):=by have:(2:Nat)^(w-1+1)=2^(w-1)*2:=yFc ..;rw[show w-1+1=w by omega] at this;omega
def aE8(ha:a<2^w)(hw:1<=w):(a^^^2^(w-1):_)=tw a w:=by
 let h2:=bAE hw;unfold tw gG;by_cases c:2^(w-1)<=a
 .rw[if_pos c,aDK c (by rw[show w-1+1=w by omega];exact ha)];omega
 .rw[if_neg c,aBE ()];omega
def aK2(hw:1<=w)(h:Hd f a w)(i:Nat):((tt f w).N[i]! =Z->(a^^^2^(w-1))[i]! =Ff)/\((tt f w).O[i]! =Z->(a^^^2^(w-1))[i]! =Z):=by
 let h1:=h.1 i;let h2:=h.2.1 i;show((f.N^^^((f.N^^^f.O)&&&eU 1 w))[i]! =Z->_)/\((f.O^^^((f.N^^^f.O)&&&eU 1 w))[i]! =Z->_);simp only[yAr,yAi,aJp hw,yFq];let key:∀ b n o x:Bool,(n=Z->x=Ff)->(o=Z->x=Z)->((n ^^ ((n ^^ o)&&b))=Z->(x ^^ b)=Ff)/\((o ^^ ((n ^^ o)&&b))=Z->(x ^^ b)=Z):=by decide
 exact key _ _ _ _ h1 h2
def aM6(kf:FtOk f w)(hd:f.N&&&f.O=0)(hw:1<=w)(ha:a<2^w)(h:Hd f a w):(((tt f w).O:Nat):Int)<=tw a w/\tw a w<=((2^w-1-(tt f w).N:Nat):Int):=by let hp:2^(w-1)<2^w:=yEh (·) ();let lN:(tt f w).N<2^w:=yBy kf.lN (xAi yFo (aFf 1 w));rw[<- aE8 ha hw];exact(Int.ofNat_le.mpr (aEm λ i=>(aK2 hw h i).2),Int.ofNat_le.mpr (aMc lN (yBy ha hp) λ i=>(aK2 hw h i).1),)
def aPW(kf:FtOk f w)(kg:FtOk g w)(fd:f.N&&&f.O=0)(gd:g.N&&&g.O=0)(hw:1<=w)(ha:a<2^w)(hb:b<2^w)(h1:Hd f a w)(h2:Hd g b w):Hd (l3 ((tt f w).O:Nat) ((2^w-1-(tt f w).N:Nat):Int) ((tt g w).O:Nat) ((2^w-1-(tt g w).N:Nat):Int)) (decide (gG a w<gG b w)).toNat 1:=by
 let i1:=aM6 kf fd hw ha h1;let i2:=aM6 kg gd hw hb h2;let e:decide (gG a w<gG b w)=decide (tw a w<tw b w):=by
  rw[decide_eq_decide];unfold tw;omega
 rw[e];exact aK7 i1.1 i1.2 i2.1 i2.2
def aRd(ht:Hd t c 1)(hc:c<2)(h1:Hd f a w)(h2:Hd g b w):Hd (qV t f g) (if c=1 then a else b) w:=by
 unfold qV;by_cases c1:t.O=1
 .have:c=1:=by
   have:=ht.2.1 0 (by rw[c1];rfl);rcases (show c=0\/c=1 by omega) with rfl|rfl
   .cases this
   .rfl
  rw[if_pos c1,if_pos this];exact h1
 .rw[if_neg c1];by_cases c2:t.N=1
  .have:c=0:=by
    have:=ht.1 0 (by rw[c2];rfl);rcases (show c=0\/c=1 by omega) with rfl|rfl
    .rfl
    .cases this
   rw[if_pos c2,if_neg ()];exact h2
  .rw[if_neg c2];let go:∀ {z:Nat}{h:Ft},Hd h z w->(∀ i,(f.N&&&g.N)[i]! =Z->h.N[i]! =Z)->(∀ i,(f.O&&&g.O)[i]! =Z->h.O[i]! =Z)->min f.A g.A<=h.A->Hd ⟨f.N&&&g.N,f.O&&&g.O,min f.A g.A⟩ z w:=λ {z h} q q1 q2 q3=>
    (λ i hi=>q.1 i (q1 i hi),λ i hi=>q.2.1 i (q2 i hi),tQ q3 q.2.2,)
   let an:∀ {x y:Nat} i,(x&&&y)[i]! =Z->x[i]! =Z/\y[i]! =Z:=λ i hi=>by
    rw[yAi,yBf] at hi;exact hi
   split
   .exact go h1 (λ i hi=>(an i hi).1) (λ i hi=>(an i hi).1) ()
   .exact go h2 (λ i hi=>(an i hi).2) (λ i hi=>(an i hi).2) ()
noncomputable abbrev oe(R Wi Fs:D)(wd:Wd)(v:Int):aY:=[J (.d R),J (.d Wi),J (.d Fs),J (.d (Sz wd.s)),(v:)]
section
variable (d:Nat)(R Wi Fs:D)(v:Int)(S:aD)
theorem oQ{R Wi Fs:D}{v:Int}{S:aD}(wd:Wd){g:D}(e0:bM R (.int 0)=J (.str wd.s))(e1:bM R (.int 1)=J (.int v))(k:xs (aI fns d) (bL (bL aBf)) (oe R Wi Fs wd v) S=J (.rt (.d g),S)):cl fns (d+1) 48 [.d R,.d Wi,.d Fs] S=J (.d g,S):=aV U U U (bA (aM U e0) U (bA (aM U e1) U k)) yAb
theorem aSo(f:Ft)(e0:bM R (.int 0)=J (.str "not"))(e1:bM R (.int 1)=J (.int v))(ef:bM Fs (.int 0)=J f.d):cl fns (d+1) 48 [.d R,.d Wi,.d Fs] S=J (.d (Ft.mk f.O f.N f.A).d,S):=oQ d .not e0 e1 (nW .in rfl U (nW .num U U (yW (a:=.not) U (aN (eQ (bT (aM U ef) aF U U) (bT (aM U ef) aF U U) (bT (aM U ef) aF U U))))))
theorem aQc(wd:Wd)(aP:wd=.left\/wd=.right\/wd=.slide)(f:Ft)(k:Nat)(g:D)(e0:bM R (.int 0)=J (.str wd.s))(e1:bM R (.int 1)=J (.int v))(e3:bM R (.int 3)=J (.int k))(ef:bM Fs (.int 0)=J f.d)(hk:cl fns d 41 [.d (Sz wd.s),.d (Iz v),.d f.d,.d (Iz k)] S=J (.d g,S)):cl fns (d+1) 48 [.d R,.d Wi,.d Fs] S=J (.d g,S):=by erw[50,aP]<;>exact oQ d _ e0 e1 (nW .in rfl U (nW .num U U (nW .not U U (nI U U U (yI U U U (aN (aT (aE {} (aE {} (aE (aM U ef) (aE (aM U e3) aQ)))) hk)))))))
theorem aN3{R Wi Fs:D}{v:Int}{S:aD}{wd:Wd}{r:Oz (Fl×aD)}(h:wd=.and\/wd=.or\/wd=.xor\/wd=.cut\/wd=.wide\/wd=.sign)(k:xs C (bL (bL (bL (bL (bL (bL (bL (bL (bL aBf))))))))) (oe R Wi Fs wd v) S=r):xs C (bL (bL aBf)) (oe R Wi Fs wd v) S=r:=by rcases h with rfl|rfl|rfl|rfl|rfl|rfl<;>exact nW .in rfl U (nW .num U U (nW .not U U (nI U U U (nI U U U (nI U U U (nW .pick U U k))))))
theorem aUM(wd:Wd)(aP:wd=.and\/wd=.or\/wd=.xor)(f g:Ft)(e0:bM R (.int 0)=J (.str wd.s))(e1:bM R (.int 1)=J (.int v))(ef:bM Fs (.int 0)=J f.d)(eg:bM Fs (.int 1)=J g.d):cl fns (d+3) 48 [.d R,.d Wi,.d Fs] S=J (.d (bwN wd f g).d,S):=
 oQ (d+2) wd e0 e1 (aN3 (by rcases aP with h|h|h<;>simp[h]) (yI U U (by erw[50,aP]<;>rfl) (aN (aT (aE {} (aE (aM U ef) (aE (aM U eg) aQ))) (aQe d wd aP f g S)))))
theorem aDL(wd:Wd)(aP:wd=.cut\/wd=.wide\/wd=.sign)(f:Ft)(w:Int)(g:D)(e0:bM R (.int 0)=J (.str wd.s))(e1:bM R (.int 1)=J (.int v))(ew:bM Wi (.int 0)=J (.int w))(ef:bM Fs (.int 0)=J f.d)(hk:cl fns d 42 [.d (Sz wd.s),.d (Iz w),.d (Iz v),.d f.d] S=J (.d g,S)):cl fns (d+1) 48 [.d R,.d Wi,.d Fs] S=J (.d g,S):=
 oQ d wd e0 e1 (aN3 (by rcases aP with h|h|h<;>simp[h]) (nI U U (by erw[50,aP]<;>rfl) (aN (aT (aE {} (aE (aM U ew) (aE {} (aE (aM U ef) aQ)))) hk))))
theorem aEc(n:Nat)(g:Ft)(e1:bM R (.int 1)=J (.int n))(ho:cl fns (d+3) 48 [.d R,.d Wi,.d Fs] S=J (.d g.d,S))(hg:FtOk g n)(hn:n<=64):cl fns (d+4) 49 [.d R,.d Wi,.d Fs] S=J (.d (iN g n).d,S):=aV U U U (aN (aT (aE (gF U U U ho) (aE (aM U e1) aQ)) (aRz d g n hg hn S))) yAb
end
def shN(wd:Wd)(w:Nat)(f:Ft)(k:Nat):Ft:=match wd with|.left=>zE w f k|.right=>uA w f k|_=>xW w f k
def aD2(d:Nat)(wd:Wd)(aP:wd=.left\/wd=.right\/wd=.slide)(w:Nat)(f:Ft)(k:Nat)(hf:FtOk f w)(cB:1<=w)(hw:w<=64)(hk:k<=900)(S:aD):cl fns (d+4) 41 [.d (Sz wd.s),.d (Iz w),.d f.d,.d (Iz k)] S=J (.d (shN wd w f k).d,S):=by
 erw[50,aP]
 .exact aV U U U (yW (a:=.left) U (aN (gF U U U (aUe (d+1) w f k hf hw () S)))) yAb
 .exact aV U U U (nW (a:=.right) .left U U (yW (a:=.right) U (aN (gF U U U (aSt d w f k hw S))))) yAb
 .exact aV U U U (nW (a:=.slide) .left U U (nW (a:=.slide) .right U U (aN (gF U U U (aRO d w f k cB hw hk S))))) yAb
def tM(d:Nat)(f:Ft)(S:aD):cl fns (d+1) 23 [.d f.d] S=J (.d (Iz (f.N|||f.O:_)),S):=by rw[dU U d _ S U];erw[11,aHM,sA,zT,fO]
def aO4(n:Nat):((n:_)==1)=(n==1):=by rw[yCj,beq_iff_eq,beq_iff_eq];omega
def aKR(d w:Nat)(f g:Ft)(hf:f.N<2^w)(hg:g.N<2^w)(hw:w<=64)(S:aD):cl fns (d+3) 44 [.d (Iz w),.d f.d,.d g.d] S=J (.d (l3 (f.O:Nat) (2^w-1-f.N:_) (g.O:Nat) (2^w-1-g.N:_)).d,S):=by
 let g1:=aBb d f w hf hw S;let g2:=aBb d g w hg hw S;let l1:=tN (d+1) f S;let l2:=tN (d+1) g S;unfold l3;split
 .rename_i c;exact aV U U U (cJ (aU (cT U U g1) (bY U l2) (rY c)) (aN U)) yAb
 .rename_i c;split
  .rename_i e;exact aV U U U (bW (aU (cT U U g1) (bY U l2) (pC c)) (cJ (aU (bY U l1) (cT U U g2) (by rw[xU,dqT e])) (aN U))) yAb
  .rename_i e;exact aV U U U (bW (aU (cT U U g1) (bY U l2) (pC c)) (bW (aU (bY U l1) (cT U U g2) (by rw[xU,dqF e])) (aN U))) yAb
def aBr(d w:Nat)(f:Ft)(cB:1<=w)(hw:w<=64)(S:aD):cl fns (d+3) 45 [.d f.d,.d (Iz w)] S=J (.d (tt f w).d,S):=aV U U U (bX (iV {} U) (bA (aJ (aJ {} {} (gH _ _)) (aT (aE aF (aE {} aQ)) (qX d 1 w S cB hw)) (dB _ _)) U (aN (eQ (aJ {} {} (gH _ _)) (aJ {} {} (gH _ _)) {})))) yAb
def aTW(d w:Nat)(f g:Ft)(hw:w<=64)(S:aD):cl fns (d+3) 43 [.d (Iz w),.d f.d,.d g.d] S=J (.d (pM w f g).d,S):=by
 let un:=aIJ (d+1) f g S;let bd:=dB (f.N|||f.O) (g.N|||g.O);let fl:=dL (d+1) w () S;unfold pM;split
 .rename_i c;exact aV U U U (cJ (aU (cT U U un) aF (bAM c)) (aN U)) yAb
 .rename_i c;let n:tv (d<$>2) (.cmp .NotEq (.call 36 (.cons (.var 1) (.cons (.var 2) .nil))) (.int 0)) [(w:),J (.d f.d),J (.d g.d)] S=J (Ff,S):=aU (cT U U un) aF (aZ4 (Decidable.not_not.mp c));split
  .rename_i e;exact aV U U U (bW n (cJ (aU (aJ (bY U (tM (d+1) f S)) (bY U (tM (d+1) g S)) bd) (bY U fl) (jK ())) (aN U))) yAb
  .rename_i e;exact aV U U U (bW n (bW (aU (aJ (bY U (tM (d+1) f S)) (bY U (tM (d+1) g S)) bd) (bY U fl) (kA ())) (aN U))) yAb
def aTl(d:Nat)(t f g:Ft)(S:aD):cl fns (d+1) 47 [.d t.d,.d f.d,.d g.d] S=J (.d (qV t f g).d,S):=by
 unfold qV;split
 .rename_i c;exact aV U U U (cJ (aU (aM U U) aF (rP c)) (aN {})) yAb
 .rename_i c;split
  .rename_i e;exact aV U U U (bW (aU (aM U U) aF (oK c)) (cJ (aU (aM U U) aF (rP e)) (aN {}))) yAb
  .rename_i e;exact aV U U U (bW (aU (aM U U) aF (oK c)) (bW (aU (aM U U) aF (oK e)) (aN (eQ (aJ (aM U U) (aM U U) (dB _ _)) (aJ (aM U U) (aM U U) (dB _ _)) (fU (aM U U) (aM U U) (nU _ _)))))) yAb
def qQ(wd:Wd)(w:Nat)(f g:Ft):Ft:=match wd with|.same=>pM w f g|.less=>l3 (f.O:Nat) (2^w-1-f.N:_) (g.O:Nat) (2^w-1-g.N:_)|_=>l3 ((tt f w).O:Nat) ((2^w-1-(tt f w).N:Nat):Int) ((tt g w).O:Nat) ((2^w-1-(tt g w).N:Nat):Int)
def aY1(wd:Wd)(w:Nat)(f g:Ft):qQ wd w f g=F1\/qQ wd w f g=F0\/qQ wd w f g=mI:=by
 unfold qQ;split
 .exact bAn ..
 .exact aNR ..
 .exact aNR ..
structure Ftd(f:Ft)(w:Nat):Prop where
 ok:FtOk f w
 dj:f.N&&&f.O=0
def aP6(d:Nat)(wd:Wd)(aP:wd=.same\/wd=.less\/wd=.under)(w:Nat)(f g:Ft)(hf:Ftd f w)(hg:Ftd g w)(cB:1<=w)(hw:w<=64)(S:aD):cl fns (d+4) 46 [.d (Sz wd.s),.d (Iz w),.d f.d,.d g.d] S=J (.d (qQ wd w f g).d,S):=by
 erw[50,aP]
 .exact aV U U U (yW (a:=.same) U (aN (gF U U U (aTW d w f g hw S)))) yAb
 .exact aV U U U (nW (a:=.less) .same U U (yW (a:=.less) U (aN (gF U U U (aKR d w f g hf.ok.lN hg.ok.lN hw S))))) yAb
 .exact aV U U U (nW (a:=.under) .same U U (nW (a:=.under) .less U U (aN (aT (aE {} (aE (cT U U (aBr d w f cB hw S)) (aE (cT U U (aBr d w g cB hw S)) aQ))) (aKR d w (tt f w) (tt g w) (aMB hf.ok hf.dj cB) (aMB hg.ok hg.dj cB) hw S))))) yAb
def Sw.wd:Sw->Wd
 |.add=>.add|.sub=>.sub|.mul=>.mul
def aA8(x:Int)(L:Nat):cG .BitAnd (.int x) (.int (2^L-1:_))=J (.int ((cH x L:Nat):Int)):=by
 let hp:=xAe L;by_cases c:0<=x
 .obtain⟨n,rfl⟩:∃ n:Nat,x=(n:Nat):=(x.toNat,(),);rw[dB,aWy,yCz]
 .have h1:decide ((0:Int)<=x)=Ff:=dqF c;let h2:decide ((0:Int)<=(2^L-1:_))=Z:=dqT ();obtain⟨b,hb⟩:∃ b:Nat,yBo x=(b:Nat):=((yBo x).toNat,by unfold yBo;omega,);let hx:x = -(b:_)-1:=by unfold yBo at hb;omega
  let e:(2^L-1)&&&b=b%2^L:=by rw[Nat.and_comm,yCz]
  let hm:=yGh b hp;let hr:=pV x L;let e2:x%(2^L:_)=(2^L:_)-1-(b%2^L:_):=by
   let hd:(b:Int)=(2^L:_)*(b/2^L:_)+(b%2^L:_):=by
    rw[<- yCk,<- Int.natCast_add,yFd]
   let hx2:x=((2^L:_)-1-(b%2^L:_))+(2^L:_)*(-(b/2^L:_)-1):=by
    rw[hx,hd,Int.mul_sub,Int.mul_neg,Int.mul_one];omega
   rw[hx2,Int.add_mul_emod_self_left,Int.emod_eq_of_lt () ()]
  simp only[cG,mX];unfold yEu;rw[h1,h2];simp only[hb,yAt,e];congr 2;omega
def aDr(d:Nat)(s:Sw)(x y:Nat)(hx:x<2^64)(S:aD):cl fns (d+1) 28 [.d (Sz s.wd.s),.d (Iz x),.d (Iz y)] S=J (.d (Iz (s.oc (x:Nat) (y:Nat))),S):=by
 cases s with
 |add=>exact aV U U U (yW (a:=.add) U (aN (aJ {} {} (kM _ _)))) yAb|sub=>exact aV U U U (nW (a:=.sub) .add U U (yW (a:=.sub) U (aN (aJ {} {} (eO _ _))))) yAb|mul=>exact aV U U U (nW (a:=.mul) .add U U (nW (a:=.mul) .sub U U (aN (aJ {} {} (wM () ()))))) yAb
def p64(h:n<2^w)(hw:w<=64):n<2^64:=xAb h (yAl (·) hw)
def aVB(d:Nat)(s:Sw)(w:Nat)(f g:Ft)(hf:FtOk f w)(hw:w<=64)(S:aD):cl fns (d+3) 29 [.d (Sz s.wd.s),.d f.d,.d g.d] S=J (.d (Tz [Iz ((vL s f g:Nat):Int),Iz ((nH s f g:Nat):Int)]),S):=by let hL:=aEs (g:=g) hf;exact aV U U U (bA (aT (aE (aT (aE (aJ (bY U (tM (d+1) f S)) (bY U (tM (d+1) g S)) (dB _ _)) aQ) (yQ d _ S)) aQ) (dL (d+1) (iX f g) () S)) U (bA (aJ (aT (aE {} (aE (bY U (tN (d+1) f S)) (aE (bY U (tN (d+1) g S)) aQ))) (aDr (d+1) s f.O g.O (p64 hf.lO hw) S)) {} (aA8 _ _)) U (aN (fJ (aJ {} {} (gH _ _)) {})))) yAb
def aRf(d:Nat)(s:Sw)(w:Nat)(f g:Ft)(hf:FtOk f w)(hg:FtOk g w)(hw:w<=64)(S:aD):cl fns (d+3) 31 [.d (Sz s.wd.s),.d (Iz w),.d f.d,.d g.d] S=J (.d (Tz [Iz (hJ s w f g),Iz (hG s w f g)]),S):=by
 let g1:=aBb d f w hf.lN hw S;let g2:=aBb d g w hg.lN hw S;let l1:=tN (d+1) f S;let l2:=tN (d+1) g S;let hp:=xAe w;let o1:=aDr (d+1) s f.O g.O (p64 hf.lO hw) S;let o2:=aDr (d+1) s (2^w-1-f.N) (2^w-1-g.N) (@p64 _ w () hw) S;cases s with
 |sub=>exact aV U U U (yW (a:=.sub) U (aN (fJ (aJ (bY U l1) (cT U U g2) (eO _ _)) (aJ (cT U U g1) (bY U l2) (eO _ _))))) yAb|add=>exact aV U U U (nW (a:=.add) .sub U U (bA (aT (aE {} (aE (bY U l1) (aE (bY U l2) aQ))) o1) U (bA (aT (aE {} (aE (cT U U g1) (aE (cT U U g2) aQ))) o2) U (aN (fJ {} {}))))) yAb|mul=>exact aV U U U (nW (a:=.mul) .sub U U (bA (aT (aE {} (aE (bY U l1) (aE (bY U l2) aQ))) o1) U (bA (aT (aE {} (aE (cT U U g1) (aE (cT U U g2) aQ))) o2) U (aN (fJ {} {}))))) yAb
def aQD(d l g w:Nat)(S:aD)(hl:l<2^w)(hg:g<2^w)(hw:w<=64):cl fns (d+3) 6 [.d (Iz l),.d (Iz g),.d (Iz w)] S=J (.d (Tz [Iz (wK l g w:Nat),Iz (qB l g w:Nat)]),S):=aV U U U (bA (aJ (bY U (dL (d+1) w () S)) (aT (aE (aJ {} {} (gH _ _)) aQ) (aJP d (l^^^g) S (aMd (yBy hl hg) ()))) (gH _ _)) U (bA (aJ {} {} (dB _ _)) U (aN (fJ (aJ {} {} (gH _ _)) {})))) yAb
def aZl(s:Sw)(w:Nat)(f g:Ft)(hf:FtOk f w)(hg:FtOk g w)(ha:a<2^w)(hb:b<2^w)(h1:Hd f a w)(h2:Hd g b w):hJ s w f g<=hG s w f g:=by have:=aM3 s hf hg ha hb h1 h2;omega
def aT3(d:Nat)(s:Sw)(w:Nat)(f g:Ft)(hf:FtOk f w)(hg:FtOk g w)(hb:hJ s w f g<=hG s w f g)(hw:w<=64)(S:aD):cl fns (d+4) 32 [.d (Sz s.wd.s),.d (Iz w),.d f.d,.d g.d] S=J (.d (Tz [Iz ((sU s w f g:Nat):Int),Iz ((sV s w f g:Nat):Int)]),S):=by
 let b1:=aRf d s w f g hf hg hw S;let hp:=xAe w;let fl:=dL (d+2) w () S;unfold sU sV;by_cases c1:hJ s w f g<0
 .rw[if_pos (.inl c1),if_pos (.inl c1)];exact aV U U U (bX (iV (jZ U U U U b1) U) (cJ (iW (aU {} aF (rY c1)) U) U)) yAb
 .by_cases c2:(2^w-1:_)<hG s w f g
  .rw[if_pos (.inr c2),if_pos (.inr c2)];exact aV U U U (bX (iV (jZ U U U U b1) U) (cJ (iW (aU {} aF (pC c1)) (jB (aU {} (bY U fl) (aCE c2)))) U)) yAb
  .have c:¬ (hJ s w f g<0\/hG s w f g>(2^w-1:_)):=λ h=>h.elim c1 c2
   rw[if_neg c,if_neg c];obtain⟨l,hl⟩:∃ l:Nat,hJ s w f g=(l:Nat):=((hJ s w f g).toNat,(),);obtain⟨u,hu⟩:∃ u:Nat,hG s w f g=(u:Nat):=((hG s w f g).toNat,(),);rw[hl] at c1;rw[hu] at c2;rw[hl,hu] at b1 hb;rw[hl,hu,yAt,yAt];exact aV U U U (bX (iV (jZ U U U U b1) U) (bW (iW (aU {} aF (pC c1)) (jB (aU {} (bY U fl) (aCR c2)))) (aN (gF U U U (aQD d l u w S () () hw))))) yAb
def aVH(d:Nat)(s:Sw)(w:Nat)(f g:Ft)(hw:w<=64)(S:aD):cl fns (d+3) 30 [.d (Sz s.wd.s),.d (Iz w),.d f.d,.d g.d] S=J (.d (Iz ((tD s w f g:Nat):Int)),S):=by
 let ne:∀ {p:Bool},bO .NotEq (.str s.wd.s) (.str "mul")=J (.bool p)->tv (d<$>2) (.cmp .NotEq (.var 0) (.str "mul")) [J (.d (Sz s.wd.s)),(w:),J (.d f.d),J (.d g.d)] S=J (p,S):=λ h=>aU {} cC h
 cases s with
 |add=>exact aV U U U (cJ (ne (by kernel_rfl)) U) yAb|sub=>exact aV U U U (cJ (ne (by kernel_rfl)) U) yAb|mul=>exact aV U U U (bW (ne (by kernel_rfl)) (aN (aT (aE (fU {} (aJ (aT (aE (aM U U) aQ) (yQ d f.N S)) (aT (aE (aM U U) aQ) (yQ d g.N S)) (iZ _ _)) (nU _ _)) aQ) (dL (d+1) _ () S)))) yAb
def aQF(d:Nat)(s:Sw)(f g:Ft)(S:aD):cl fns (d+1) 33 [.d (Sz s.wd.s),.d f.d,.d g.d] S=J (.d (Iz ((mL s f g:Nat):Int)),S):=by
 let e:∀ m:Nat,sH [.int 1,.int ((m:_)-1)]=J (.int ((max 1 (m-1):Nat):Int)):=λ m=>aD1 m 1
 cases s with
 |add=>exact aV U U U (nW (a:=.add) .mul U U (aN (fU aF (aJ (fU (aM U U) (aM U U) (nU _ _)) aF (eO _ _)) (e _)))) yAb|sub=>exact aV U U U (nW (a:=.sub) .mul U U (aN (fU aF (aJ (fU (aM U U) (aM U U) (nU _ _)) aF (eO _ _)) (e _)))) yAb|mul=>exact aV U U U (yW (a:=.mul) U U) yAb
def aYx(d:Nat)(s:Sw)(w:Nat)(f g:Ft)(hf:FtOk f w)(hg:FtOk g w)(hb:hJ s w f g<=hG s w f g)(hw:w<=64)(S:aD):cl fns (d+5) 34 [.d (Sz s.wd.s),.d (Iz w),.d f.d,.d g.d] S=J (.d (zX s w f g).d,S):=aV U U U (bA (gF U U U (aVB (d+1) s w f g hf hw S)) U (bA (jZ U U U U (aT3 d s w f g hf hg hb hw S)) U (bA (aJ (aJ (aM U U) (aM U U) (fO _ _)) (jZ U U U U (aVH (d+1) s w f g hw S)) (fO _ _)) U (aN (eQ {} (aJ (aM U U) (aM U U) (fO _ _)) (gF U U U (aQF (d+3) s f g S))))))) yAb
section
variable (d:Nat)(R Wi Fs:D)(v:Nat)(S:aD)
theorem aRX(s:Sw)(f g:Ft)(e0:bM R (.int 0)=J (.str s.wd.s))(e1:bM R (.int 1)=J (.int v))(ef:bM Fs (.int 0)=J f.d)(eg:bM Fs (.int 1)=J g.d)(hf:FtOk f v)(hg:FtOk g v)(hb:hJ s v f g<=hG s v f g)(hv:v<=64):cl fns (d+6) 48 [.d R,.d Wi,.d Fs] S=J (.d (zX s v f g).d,S):=by cases s<;>exact oQ (d+5) _ e0 e1 (nW .in rfl U (nW .num U U (nW .not U U (yI U U U (aN (aT (aE {} (aE {} (aE (aM U ef) (aE (aM U eg) aQ)))) (aYx d _ v f g hf hg hb hv S)))))))
end
section
variable {f:Ft}{w:Nat}(hf:FtOk f w)(hd:f.N&&&f.O=0)(cB:1 <= w)
include hf hd cB
theorem aUG(k:Nat):FtOk (zE w f k) w:=by let m:=@aK0 w _ k hd;have:=hf.aw;exact(m.lN,m.lO,yBt _ _,Nat.max_le.mpr (cB,xAh (yDx _ _) this,),)
theorem aST(k:Nat):FtOk (uA w f k) w:=by
 let m:=aJJ k hf hd;let h1:=hf.aw;let h2:=hf.a1;refine(m.lN,m.lO,?_,?_,)
 .show 1<=if k=0 then f.A else 1
  split<;>omega
 .show(if k=0 then f.A else 1)<=w;split<;>omega
theorem aSg(k:Nat):FtOk (xW w f k) w:=by let m:=aJM k cB hf hd;let h1:=hf.a1;exact(m.lN,m.lO,by show 1<=min w (f.A+k);omega,by show min w (f.A+k)<=w;omega,)
theorem aWU(hv1:1<=v)(hv:v<=w):FtOk (aAj w v f) v:=by let m:=aMv w v hd;let h1:=hf.aw;exact(m.lN,m.lO,yBt _ _,by show max 1 (f.A-(w-v))<=v;omega,)
theorem aVo(hv:w<=v):FtOk (uQ w v f) v:=by
 let m:=aKs hv hf hd;let h1:=hf.aw;let h2:=hf.a1;refine(m.lN,m.lO,?_,?_,)
 .show 1<=if v=w then f.A else 1
  split<;>omega
 .show(if v=w then f.A else 1)<=v;split<;>omega
theorem aUZ(hv:w<=v):FtOk (zJ w v f) v:=by let m:=aKq cB hv hf hd;let h1:=hf.aw;let h2:=hf.a1;exact(m.lN,m.lO,by show 1<=f.A+(v-w);omega,by show f.A+(v-w)<=v;omega,)
end
def bAz(hb:b=0\/b=1\/b=2)(hf:FtOk f w)(hd:f.N&&&f.O=0)(hg:FtOk g w)(he:g.N&&&g.O=0):FtOk (vM b f g) w:=by let m:=aMJ b hb hf hd hg he;let h1:=hf.a1;let h2:=hg.a1;let h3:=hf.aw;erw[50,hb]<;>exact(m.lN,m.lO,by show 1<=min f.A g.A;omega,by show min f.A g.A<=w;omega,)
section
variable (d:Nat)(R Wi Fs:D)(v:Int)(S:aD)
theorem aRh(wd:Wd)(aP:wd=.same\/wd=.less\/wd=.under)(w:Nat)(f g:Ft)(e0:bM R (.int 0)=J (.str wd.s))(e1:bM R (.int 1)=J (.int v))(ew:bM Wi (.int 0)=J (.int w))(ef:bM Fs (.int 0)=J f.d)(eg:bM Fs (.int 1)=J g.d)(hf:Ftd f w)(hg:Ftd g w)(cB:1<=w)(hw:w<=64):cl fns (d+5) 48 [.d R,.d Wi,.d Fs] S=J (.d (qQ wd w f g).d,S):=by let hc:=aP6 d wd aP w f g hf hg cB hw S;erw[50,aP]<;>exact oQ (d+4) _ e0 e1 (nW .in rfl U (nW .num U U (nW .not U U (nI U U U (nI U U U (yI U U U (aN (aT (aE {} (aE (aM U ew) (aE (aM U ef) (aE (aM U eg) aQ)))) hc))))))))
theorem aQo(t f g:Ft)(e0:bM R (.int 0)=J (.str "pick"))(e1:bM R (.int 1)=J (.int v))(et:bM Fs (.int 0)=J t.d)(ef:bM Fs (.int 1)=J f.d)(eg:bM Fs (.int 2)=J g.d):cl fns (d+2) 48 [.d R,.d Wi,.d Fs] S=J (.d (qV t f g).d,S):=oQ (d+1) .pick e0 e1 (nW .in rfl U (nW .num U U (nW .not U U (nI U U U (nI U U U (nI U U U (yW (a:=.pick) U (aN (aT (aE (aM U et) (aE (aM U ef) (aE (aM U eg) aQ))) (aTl d t f g S))))))))))
end
structure Op(f:Ft)(w:Nat):Prop where
 ok:FtOk f w
 ho:∃ a,a<2^w/\Hd f a w
 w1:1<=w
 w2:w<=64
def Op.dj(o:Op f w):f.N&&&f.O=0:=by let(a,_,h):=o.ho;exact bBL h
def aZ:Wd->Nat
 |.in|.num=>0
 |.not|.left|.right|.slide|.cut|.wide|.sign=>1
 |.pick=>3|_=>2
def aU4(wd:Wd):aCL wC (.str wd.s)=J (.int (aZ wd:Nat)):=by cases wd<;>kernel_rfl
def gJ(r:Rw):bM r.d (Iz 0)=J (.str r.wd.s):=@dP (.str r.wd.s::nD r.w::r.args.map nD) 0 _ U
def aTy{fa:FE}{fl fh:FO}(r:Rw)(c:Nat)(h1:fa env S=J (.d r.d,S))(h2:fl env S=J (J 2,S))(h3:fh env S=J (J (2+c:_),S)):sQ fa fl fh env S=J (.d (Tz ((r.args.take c).map nD)),S):=by
 let i2:HT.sIx ↑(Sz r.wd.s::nD r.w::r.args.map nD) 0 (J 2)=2:=by
  rw[show(2:Int)=(2:_) from U,HT.sIx_nat];simp
 let e:gM (Sz r.wd.s::nD r.w::r.args.map nD) (J 2) (J (2+c:_))=(r.args.take c).map nD:=by
  unfold gM;rw[i2,HT.sIx_nat];simp only[List.drop_succ_cons,yGi,yAo,yAf];rw[List.map_take];rcases yHy c ↑r.args with z|z
  .rw[yEj (),show 2+c-2=c by omega]
  .rw[yEt (),yCo (by simp),yCo (by simpa using z)]
 unfold sQ;rw[h1,oB];simp only[];rw[h2,oB];simp only[];rw[h3,oB];simp only[dr,oB,Rw.d];rw[e]
def lG(d:Nat)(r:Rw)(S:aD):cl fns (d+1) 7 [.d r.d] S=J (.d (Tz ((r.args.take (aZ r.wd)).map nD)),S):=by
 let e2:(2:Int)+((aZ r.wd:Nat):Int)=((2+aZ r.wd:Nat):Int):=();let sl:ev (aI fns d) (.sl (.var 0) (.cons (.int 2) .nil) (.cons (.bin .Add (.int 2) (.tab "OPERAND_COUNTS" wC (.ix (.var 0) (.int 0)))) .nil)) [J (.d r.d)] S=J (.d (Tz ((r.args.take (aZ r.wd)).map nD)),S):=by
  simp only[aFm];refine aTy r (aZ r.wd) (by erw[20,True]) (by erw[20,uP,nG]) ?_;erw[0,uP,nG,gJ,aU4,kM,e2]
 rw[dU U d _ S U];show((kZ (qL (ev (aI fns d) (.sl (.var 0) (.cons (.int 2) .nil) (.cons (.bin .Add (.int 2) (.tab "OPERAND_COUNTS" wC (.ix (.var 0) (.int 0)))) .nil)))) uW) [J (.d r.d)] S).bind _=_;simp only[kZ,qL,sl,oB,rZ,yAb]
inductive RwOk:Rw->List Nat->Prop
 |inp {w:Nat} (h1:1<=w) (h2:w<=64):RwOk ⟨.in,w,[]⟩ []
 |num {w n:Nat} (h1:1<=w) (h2:w<=64) (hn:n<2^w):RwOk ⟨.num,w,[n]⟩ []
 |nt {w a:Nat} (h1:1<=w) (h2:w<=64):RwOk ⟨.not,w,[a]⟩ [w]
 |sh {wd:Wd}{w a k:Nat} (h1:1<=w) (h2:w<=64) (aP:wd=.left\/wd=.right\/wd=.slide) (hk:k<64):RwOk ⟨wd,w,[a,k]⟩ [w]
 |cut {w v a:Nat} (h1:1<=w) (hv:w<=v) (h2:v<=64):RwOk ⟨.cut,w,[a]⟩ [v]
 |wide {w v a:Nat} (h1:1<=v) (hv:v<=w) (h2:w<=64):RwOk ⟨.wide,w,[a]⟩ [v]
 |sign {w v a:Nat} (h1:1<=v) (hv:v<=w) (h2:w<=64):RwOk ⟨.sign,w,[a]⟩ [v]
 |bw {wd:Wd}{w a b:Nat} (h1:1<=w) (h2:w<=64) (aP:wd=.and\/wd=.or\/wd=.xor):RwOk ⟨wd,w,[a,b]⟩ [w,w]
 |sm {s:Sw}{w a b:Nat} (h1:1<=w) (h2:w<=64):RwOk ⟨s.wd,w,[a,b]⟩ [w,w]
 |cmp {wd:Wd}{v a b:Nat} (h1:1<=v) (h2:v<=64) (aP:wd=.same\/wd=.less\/wd=.under):RwOk ⟨wd,1,[a,b]⟩ [v,v]
 |pick {w c a b:Nat} (h1:1<=w) (h2:w<=64):RwOk ⟨.pick,w,[c,a,b]⟩ [1,w,w]
def lD:G Nat->G Nat->Prop
 |w::ws,n::ns=>n<2^w/\lD ws ns|[],[]=>True|_,_=>False
def gE(h:lD [w] ns):∃ a,ns=[a]/\a<2^w:=by
 rcases ns with _|⟨a,_|⟨b,r⟩⟩
 .exact h.elim
 .exact(a,U,h.1,)
 .exact h.2.elim
def mC(h:lD [w,v] ns):∃ a b,ns=[a,b]/\a<2^w/\b<2^v:=by
 rcases ns with _|⟨a,_|⟨b,_|⟨c,r⟩⟩⟩
 .exact h.elim
 .exact h.2.elim
 .exact(a,b,U,h.1,h.2.1,)
 .exact h.2.2.elim
def aCy(h:lD [w,v,u] ns):∃ a b c,ns=[a,b,c]/\a<2^w/\b<2^v/\c<2^u:=by
 rcases ns with _|⟨a,_|⟨b,_|⟨c,_|⟨e,r⟩⟩⟩⟩
 .exact h.elim
 .exact h.2.elim
 .exact h.2.2.elim
 .exact(a,b,c,U,h.1,h.2.1,h.2.2.1,)
 .exact h.2.2.2.elim
def sS(wd:Wd)(w a k:Nat):Nat:=match wd with|.left=>a*2^k%2^w|.right=>a/2^k|_=>cI a w (w+k)/2^k
def mM(wd:Wd)(w a b:Nat):Bool:=match wd with|.same=>decide (a=b)|.less=>decide ((a:Int)<(b:Int))|_=>decide (gG a w<gG b w)
def vP(wd:Wd)(w a b:Nat):Nat:=match wd with|.and=>a&&&b|.or=>a|||b|.xor=>a^^^b|.add=>cH ((a:Nat)+(b:Nat):Int) w|.sub=>cH ((a:Nat)-(b:Nat):Int) w|_=>cH ((a:Nat)*(b:Nat):Int) w
def g0(l:G Nat)(i:Nat):Nat:=l.getD i 0
def cV(r:Rw)(ws ns:G Nat):Nat:=match r.wd with
 |.in=>0|.num=>g0 r.args 0|.not=>2^r.w-1-g0 ns 0
 |.left|.right|.slide=>sS r.wd r.w (g0 ns 0) (g0 r.args 1)
 |.cut=>g0 ns 0%2^r.w|.wide=>g0 ns 0|.sign=>cI (g0 ns 0) (g0 ws 0) r.w
 |.same|.less|.under=>(mM r.wd (g0 ws 0) (g0 ns 0) (g0 ns 1)).toNat
 |.pick=>if g0 ns 0=1 then g0 ns 1 else g0 ns 2
 |wd=>vP wd r.w (g0 ns 0) (g0 ns 1)
def aKh(hn:n<2^w):n^^^(2^w-1)=2^w-1-n:=by
 apply xAl;intro i;rw[yAr,dF];have:=mR hn i;unfold pK at this;rw[this];by_cases c:i<w
 .rw[dqT c,yAp];cases n[i]!<;>rfl
 .rw[dqF c,cS hn ()];rfl
def aIB(d a w:Nat)(cB:1<=w)(hw:w<=64)(S:aD):cl fns (d+1) 75 [.d (Iz a),.d (Iz w)] S=J (.d (Iz (a^^^2^(w-1):_)),S):=aV U U U (aN (aJ {} (aJ aF (aJ {} aF (jC cB)) (jR ())) (gH _ _))) yAb
def aDN(h:env[i]?=J (J (.d (Bz b)))):ev C (.ite (.var i) (.int 1) (.int 0)) env S=J (.d (Iz (b.toNat:_)),S):=by
 cases b
 .erw[0,h]
 .erw[0,h]
def aPk(d:Nat)(wd:Wd)(aP:wd=.same\/wd=.less\/wd=.under)(w a b:Nat)(cB:1<=w)(hw:w<=64)(ha:a<2^w)(hb:b<2^w)(S:aD):cl fns (d+2) 76 [.d (Sz wd.s),.d (Iz w),.d (Iz a),.d (Iz b)] S=J (.d (Iz (((mM wd w a b).toNat:Nat):Int)),S):=by
 let t:=λ v=>@kO [J (.d (Sz wd.s)),(w:),(a:),(b:),qx] 0 _ v.s _ S (d<$>1) U (fS wd v)
 let t1:=t .same;let t2:=t .less;erw[50,aP]
 .exact aV U U U (bX (iE t1 (gS (dX {} {} (by rw[gR,aSv,show(a==b)=decide (a=b) by rw[yCj,beq_iff_eq,decide_eq_true_eq]];rfl)))) (aN (aDN U))) yAb
 .exact aV U U U (bX (gT t1 (dW (iE t2 (gS (dX {} {} (xP _ _)))))) (aN (aDN U))) yAb
 .refine aV U U U (bX (gT t1 (dW (gT t2 (gS (dX (cT U U (aIB d a w cB hw S)) (cT U U (aIB d b w cB hw S)) ?_))))) (aN (aDN U))) yAb;rw[xP,aE8 ha cB,aE8 hb cB,show decide (tw a w<tw b w)=decide (gG a w<gG b w) by rw[decide_eq_decide];unfold tw;omega];rfl
def aIK(n w:Nat):n&&&(2^w-1)=n%2^w:=yCz n w
def aP1(d:Nat)(wd:Wd)(aP:wd=.left\/wd=.right\/wd=.slide)(w a k:Nat)(cB:1<=w)(hw:w<=64)(ha:a<2^w)(hk:k<=900)(S:aD):cl fns (d+3) 77 [.d (Sz wd.s),.d (Iz w),.d (Iz a),.d (Iz k)] S=J (.d (Iz ((sS wd w a k:Nat):Int)),S):=by
 erw[50,aP]
 .exact aV U U U (yW (a:=.left) U (aN (aJ (aJ {} {} (tX ha ())) (bY U (dL (d+1) w () S)) (by rw[dB,aIK];rfl)))) yAb
 .exact aV U U U (nW (a:=.right) .left U U (yW (a:=.right) U (aN (aJ {} {} (kN _ _))))) yAb
 .exact aV U U U (nW (a:=.slide) .left U U (nW (a:=.slide) .right U U (aN (aJ (aT (aE {} (aE {} (aE (aJ {} {} (iZ _ _)) aQ))) (aA9 d a w (w+k) S cB () hw)) {} (kN _ _))))) yAb
def aHI(d:Nat)(wd:Wd)(aP:(wd=.and\/wd=.or\/wd=.xor)\/wd=.add\/wd=.sub\/wd=.mul)(w a b:Nat)(hw:w<=64)(ha:a<2^w)(S:aD):cl fns (d+2) 78 [.d (Sz wd.s),.d (Iz w),.d (Iz a),.d (Iz b)] S=J (.d (Iz ((vP wd w a b:Nat):Int)),S):=by
 let h64:=p64 ha hw;let fl:=dL d w () S;rcases aP with (rfl|rfl|rfl)|rfl|rfl|rfl<;>refine aV (env:=[J (.d (Sz _)),(w:),(a:),(b:)]) U U U ?_ yAb
 .exact yW (a:=.and) U (aN (aJ {} {} (dB _ _)))
 all_goals refine nW .and U U ?_
 .exact yW (a:=.or) U (aN (aJ {} {} (fO _ _)))
 all_goals refine nW .or U U ?_
 .exact yW (a:=.xor) U (aN (aJ {} {} (gH _ _)))
 all_goals refine nW .xor U U ?_
 .exact yW (a:=.add) U (aN (aJ (aJ {} {} (kM _ _)) (bY U fl) (aA8 _ _)))
 all_goals refine nW .add U U ?_
 .exact yW (a:=.sub) U (aN (aJ (aJ {} {} (eO _ _)) (bY U fl) (aA8 _ _)))
 .exact nW .sub U U (aN (aJ (aJ {} {} (wM () ())) (bY U fl) (aA8 _ _)))
def aT5(h:RwOk r ws)(hi:r.wd≠.in)(hl:lD ws ns)(d:Nat)(S:aD):cl fns (d+4) 79 [.d r.d,.d (ws*>nD),.d (ns*>nD)] S=J (.d (Iz ((cV r ws ns:Nat):Int)),S):=by
 let fl:=λ w (h:w<=64)=>dL (d+2) w () S
 refine aV (env:=oe r.d (ws*>nD) (ns*>nD) .in 0 |>.set 3 qx |>.set 4 qx) U U U (bA (aM U (gJ r)) U (bA (aM U (fG r)) U ?_)) yAb;cases h with
 |inp=>simp_all|num h1 h2 hn=>exact yW (a:=.num) U (aN (aM U U))
 |nt h1 h2=>
   let(x,U,hx):=gE hl;exact nW (a:=.not) .num U U (yW (a:=.not) U (aN (aJ (aM U U) (bY U (fl _ h2)) (by rw[nD,gH,aKh hx];rfl))))
 |sh h1 h2 aP hk=>
   let(x,U,hx):=gE hl;let q:=aP1 d _ aP _ x _ h1 h2 hx (yCv (yDm hk (by decide:64<900))) S;erw[50,aP]<;>exact nW .num U U (nW .not U U (yI U U U (aN (aT (aE {} (aE {} (aE (aM U U) (aE (aM U U) aQ)))) q))))
 |cut h1 hv h2=>
   let(x,U,hx):=gE hl;exact nW (a:=.cut) .num U U (nW .not U U (nI U U U (yW (a:=.cut) U (aN (aJ (aM U U) (bY U (fl _ (xAh hv h2))) (by rw[nD,dB,aIK];rfl))))))
 |wide h1 hv h2=>
   let(x,U,hx):=gE hl;exact nW (a:=.wide) .num U U (nW .not U U (nI U U U (nW .cut U U (yW (a:=.wide) U (aN (aM U U))))))
 |sign h1 hv h2=>
   let(x,U,hx):=gE hl;exact nW (a:=.sign) .num U U (nW .not U U (nI U U U (nW .cut U U (nW .wide U U (yW (a:=.sign) U (aN (aT (aE (aM U U) (aE (aM U U) (aE {} aQ))) (aA9 (d+1) x _ _ S h1 () ()))))))))
 |bw h1 h2 aP=>
   let(x,y,U,hx,hy):=mC hl;let q:=aHI (d+1) _ (.inl aP) _ x y h2 hx S;erw[50,aP]<;>exact nW .num U U (nW .not U U (nI U U U (nW .cut U U (nW .wide U U (nW .sign U U (nI U U U (nW .pick U U (aN (aT (aE {} (aE {} (aE (aM U U) (aE (aM U U) aQ)))) q)))))))))
 |sm h1 h2=>
   rename_i s w a b;let(x,y,U,hx,hy):=mC hl;let q:=aHI (d+1) s.wd (.inr (by cases s<;>simp[Sw.wd])) w x y h2 hx S;cases s<;>exact nW .num U U (nW .not U U (nI U U U (nW .cut U U (nW .wide U U (nW .sign U U (nI U U U (nW .pick U U (aN (aT (aE {} (aE {} (aE (aM U U) (aE (aM U U) aQ)))) q)))))))))
 |cmp h1 h2 aP=>
   let(x,y,U,hx,hy):=mC hl;let q:=aPk (d+1) _ aP _ x y h1 h2 hx hy S;erw[50,aP]<;>exact nW .num U U (nW .not U U (nI U U U (nW .cut U U (nW .wide U U (nW .sign U U (yI U U U (aN (aT (aE {} (aE (aM U U) (aE (aM U U) (aE (aM U U) aQ)))) q))))))))
 |pick h1 h2=>
   let(z,x,y,U,hz,hx,hy):=aCy hl;refine nW (a:=.pick) .num U U (nW .not U U (nI U U U (nW .cut U U (nW .wide U U (nW .sign U U (nI U U U (yW (a:=.pick) U (aN ?_))))))));by_cases c:z=1
   .rw[show cV (.pick,_,_,) _ [z,x,y]=x from if_pos c];exact oN (aU (aM U U) aF (rP c)) (oU (aM U U))
   .rw[show cV (.pick,_,_,) _ [z,x,y]=y from if_neg c];exact oN (aU (aM U U) aF (oK c)) (jB (aM U U))
def aLf(wd:Wd):aZ wd<=3:=by cases wd<;>decide
def wN(S0:aD)(l:G D)(x:D)(h:↑l<=1000):eE (S0++[J l]) (.loc ↑S0) (.d x)=J (.d .none,S0++[J (l++[x])]):=by unfold eE;simp only[yAh (yAd ↑S0),yBe,yDk];rw[if_pos (by rw[zq];omega)];rw[List.set_append_right _ _ (yAd _),yBe];rfl
def rC(S0:aD)(l:G D):(S0++[J l])[↑S0]?=J (J l):=by rw[yAh (yAd _),yBe];rfl
def bE(r:Rw)(l:G Nat):G Nat:=(r.args.take (aZ r.wd)).map (g0 l)
def aHZ{α:Type}{l:List α}{vs:G D}{f:α->D}(h1:↑vs=↑l)(h2:∀ (i:Nat) (a:α),l[i]?=J a->∃ v,vs[i]?=J v/\v=f a):vs=l.map f:=by
 apply List.ext_getElem?;intro i;rw[yAe];by_cases c:i<↑l
 .let(v,h3,U):=h2 i l[i] (yAa c);rw[h3,yAa c];rfl
 .rw[yBr (),yBr ()];rfl
def tL(d:Nat)(r:Rw)(w:W)(x:D)(f:Nat->D)(S:aD)(hv:∀ aG,dr (S++[J aG]) w=J x)(hx:∀ a∈r.args.take (aZ r.wd),bM x (nD a)=J (f a)):cl fns (d+2) 9 [.d r.d,w] S=J (.d (Tz ((r.args.take (aZ r.wd)).map f)),S):=by
 let cW:↑(r.args.take (aZ r.wd))<=3:=by have:=aLf r.wd;rw[yBl];omega
 let(vs,S',e1,hS',hI,hvl,hq):=@aJo [J (.d r.d),J w,qx] S S _ (.one 2) (lv (d<$>1) (.it (.call 7 (.cons (.var 0) .nil)))) (ev (d<$>1) (.ix (.var 1) (.var 2))) nD (λ _ S'=>S'=S) (λ a v=>v=f a) (r.args.take (aZ r.wd)) (by
  erw[20,lG d,jE]) (by rw[zq];omega) U (by
  intro a ha;refine(_,U,?_,);rintro j S' aG hj hS rfl;refine(f a,S',?_,U,U,U,);let hd:∀ {k:D->Oz (W×aD)},(dr (S'++[J aG]) w).bind k=k x:=λ {k}=>by rw[hv aG];rfl
  simp only[aFv,aFa,qP,f2,mB,jP,clr,Tg.slots,yDq,yHj,yEc,yDc,yDi,yDk,oB,hd];show((bM x (nD a)).bind λ z=>J (W.d z,S'++[J aG]))=_
  rw[hx a ha];rfl)
 subst hI;let e2:vs=(r.args.take (aZ r.wd)).map f:=aHZ hvl hq;subst e2;let e1':lv (d<$>1) aGM [J (.d r.d),J w,qx] S'=J ((r.args.take (aZ r.wd)).map f,S'):=e1;rw[dU U (d+1) _ S' U];erw[11,aHm,e1',oC,xX]
def aFo{l:G Nat}(h:a<↑l):(l.map nD)[a]?=J (nD (g0 l a)):=by rw[yAe,yAa h];show J (nD l[a])=J (nD (l.getD a 0));rw[xAg,yAa h];rfl
def aEd(d:Nat)(r:Rw)(l:G Nat)(S:aD)(h:∀ a∈r.args.take (aZ r.wd),a<↑l):cl fns (d+2) 9 [.d r.d,.d (l*>nD)] S=J (.d (Tz ((bE r l).map nD)),S):=by
 have:=tL d r (.d (l*>nD)) (l*>nD) (λ a=>nD (g0 l a)) S (λ _=>rfl) λ a ha=>dP (aFo (h a ha))
 rw[this,bE,yBa];rfl
def aS8(d:Nat)(r:Rw)(l:G Nat)(S0:aD)(h:∀ a∈r.args.take (aZ r.wd),a<↑l):cl fns (d+2) 9 [.d r.d,.loc ↑S0] (S0++[J (l.map nD)])=J (.d (Tz ((bE r l).map nD)),S0++[J (l.map nD)]):=by
 have:=tL d r (.loc ↑S0) (.list (l.map nD)) (λ a=>nD (g0 l a)) (S0++[J (l.map nD)]) (λ aG=>by
  show(match (S0++[J (l.map nD)]++[J aG])[↑S0]? with|some (J ds)=>J (Lz ds)|_=>qx)=_
  rw[yBg,yAh (yAd _),yBe];rfl) λ a ha=>mU (aFo (h a ha))
 rw[this,bE,yBa];rfl
def aDl(d:Nat)(K:G Rw)(o:D)(hl:↑K<=1000)(S:aD):cl fns (d+1) 11 [.d (K<*o)] S=J (.d (Tz ((~~~K).map nD)),S):=by
 let i0:bM (K<*o) (.int 0)=J (K*>Rw.d):=rfl;let hc:lv (aI fns d) aHd [J (.d (K<*o)),qx] S=J ((~~~K).map nD,S):=by
  rw[yBa];refine iU (fi:=lv (aI fns d) (.it (.ix (.var 0) (.int 0)))) (fe:=ev (aI fns d) (.ix (.var 1) (.int 1))) Rw.d (nD ∘ λ r=>r.w) K ?_ (by rw[zq];omega) λ r hr=>?_
  .erw[0,i0,jE]
  .refine(_,U,λ S'=>?_,);erw[0,clr,yDq,yHj,fG]
 rw[dU U d _ S U];erw[11,aHY,hc,oC,xX]
def cM:G Rw->G Nat->Prop
 |[],is=>is=[]
 |r::K,is=>if r.wd=.in then ∃ n is',is=n::is'/\n<2^r.w/\cM K is' else cM K is
def mD(K:G Rw):Prop:=∀ (j:Nat) (r:Rw),K[j]?=J r->RwOk r (bE r (~~~K))/\∀ a∈r.args.take (aZ r.wd),a<j
def xF{W:G Nat}(h:∀ (i a w:Nat),aG[i]?=J a->W[i]?=J w->a<2^w):∀ (l:G Nat),(∀ a∈l,a<↑aG/\a<↑W)->lD (l.map (g0 W)) (l.map (g0 aG))
 |[],_=>True.intro
 |a::l,hl=>by
   let(h1,h2):=hl a xAc;refine(h a _ _ ?_ ?_,xF h l λ b hb=>hl b (xAf _ hb),)
   .show aG[a]?=J (aG.getD a 0);rw[xAg,yAa h1];rfl
   .show W[a]?=J (W.getD a 0);rw[xAg,yAa h2];rfl
def aE2(h:RwOk r ws)(hl:lD ws ns):cV r ws ns<2^r.w:=by
 let hp:=xAe r.w;cases h with
 |inp=>exact hp|num h1 h2 hn=>exact hn
 |nt=>
   let(x,U,hx):=gE hl;exact xAi (yDx _ _) ()
 |sh h1 h2 aP hk=>
   let(x,U,hx):=gE hl;erw[50,aP]
   .exact yGh _ hp
   .exact xAi (yGv _ _) hx
   .rename_i w a k;show cI x w (w+k)/2^k<2^w;rw[yEb (xAe k),<- yEq];exact mP hx h1 ()
 |cut=>exact yGh _ hp
 |wide h1 hv h2=>
   let(x,U,hx):=gE hl;exact xAb hx (yAl (·) hv)
 |sign h1 hv h2=>
   let(x,U,hx):=gE hl;exact mP hx h1 hv
 |bw h1 h2 aP=>
   let(x,y,U,hx,hy):=mC hl;erw[50,aP]
   .exact xAi yCb hx
   .exact yBi hx hy
   .exact yBy hx hy
 |sm h1 h2=>
   let(x,y,U,hx,hy):=mC hl;rename_i s w a b;cases s
   .exact qC ((x:Int)+(y:Int)) w
   .exact qC ((x:Int)-(y:Int)) w
   .exact qC ((x:Int)*(y:Int)) w
 |cmp h1 h2 aP=>
   let q:∀ b:Bool,b.toNat<2^1:=λ b=>by cases b<;>decide
   erw[50,aP]<;>exact q _
 |pick h1 h2=>
   let(z,x,y,U,hz,hx,hy):=aCy hl;show(if z=1 then x else y)<_;split
   .exact hx
   .exact hy
def aBk{α:Type}{l:List α}{a:α}(h:l[j]?=J a):l.drop j=a::l.drop (j+1):=by let(hl,U):=gIm h;simp_all
def cN:G Rw->G Nat->G Nat->G Nat->G Nat
 |[],_,_,aG=>aG
 |r::K,W,is,aG=>if r.wd=.in then cN K W is.tail (aG++[g0 is 0]) else cN K W is (aG++[cV r (bE r W) (bE r aG)])
structure Prg(K:List Rw):Prop where
 l:↑K<=250
 fit:mD K
 ins:∃ is,cM K is
 ws:∀ (j:Nat) (r:Rw),K[j]?=J r->1<=r.w/\r.w<=64
def pT{l:G Nat}(h:a<↑l):l[a]?=J (g0 l a):=by show l[a]?=J (l.getD a 0);rw[xAg,yAa h];rfl
def wO:∀ (K:G Rw) (W is aG:G Nat),∃ t,cN K W is aG=aG++t
 |[],W,is,aG=>([],by simp[cN],)
 |r::K,W,is,aG=>by
   unfold cN;split
   .let(t,h):=wO K W is.tail (aG++[g0 is 0]);simp_all
   .let(t,h):=wO K W is (aG++[cV r (bE r W) (bE r aG)]);simp_all
def aEu:∀ (K:G Rw) (W is aG:G Nat) (j:Nat) (r:Rw),K[j]?=J r->r.wd≠.in->(cN K W is aG)[↑aG+j]?=J (cV r (bE r W) (bE r ((cN K W is aG).take (↑aG+j))))
 |[],W,is,aG,j,r,h,_=>by simp at h
 |q::K,W,is,aG,0,r,h,hw=>by
   cases h;unfold cN;rw[if_neg hw];let(t,ht):=wO K W is (aG++[cV q (bE q W) (bE q aG)]);rw[ht,yIb,yBg,yHk,yAh (yAd _),yBe];rfl
 |q::K,W,is,aG,j+1,r,h,hw=>by
   let h':K[j]?=J r:=by simpa using h
   unfold cN;split
   .have:=aEu K W is.tail (aG++[g0 is 0]) j r h' hw;rw[xAn,show ↑aG+↑[g0 is 0]+j=↑aG+(j+1) by simp;omega] at this;exact this
   .have:=aEu K W is (aG++[cV q (bE q W) (bE q aG)]) j r h' hw;rw[xAn,show ↑aG+↑[cV q (bE q W) (bE q aG)]+j=↑aG+(j+1) by simp;omega] at this;exact this
def aR9{r:Rw}{l:G Nat}(h:∀ a∈r.args.take (aZ r.wd),a<m):bE r (l.take m)=bE r l:=by
 unfold bE;refine yBs λ a ha=>?_
 show(l.take m).getD a 0=l.getD a 0;rw[xAg,xAg,yDa (h a ha)]
def aEE{K:G Rw}(hf:mD K)(is:G Nat){j:Nat}{r:Rw}(hr:K[j]?=J r)(hw:r.wd≠.in):(cN K (~~~K) is [])[j]?=J (cV r (bE r (~~~K)) (bE r (cN K (~~~K) is []))):=by have:=aEu K (~~~K) is [] j r hr hw;rw[yBz,yEn,aR9 (hf j r hr).2] at this;exact this
def wR:∀ (K:G Rw) (W is aG:G Nat),↑(cN K W is aG)=↑aG+↑K
 |[],_,_,_=>rfl
 |r::K,W,is,aG=>by
   unfold cN;split
   .rw[wR K,xAn];simp;omega
   .rw[wR K,xAn];simp;omega
def aKB{W:G Nat}(h:∀ (i a w:Nat),aG[i]?=J a->W[i]?=J w->a<2^w)(hw:W[↑aG]?=J w)(hz:z<2^w):∀ (i a w:Nat),(aG++[z])[i]?=J a->W[i]?=J w->a<2^w:=λ i a v h1 h2=>by
 by_cases c:i<↑aG
 .rw[xAm c] at h1;exact h i a v h1 h2
 .have ci:i=↑aG:=by
   have:=(gIm h1).1;simp at this;omega
  subst ci;rw[yAh (yAd _),yBe] at h1;cases h1;rw[hw] at h2;cases h2;exact hz
def aEi(hf:mD rs0):∀ (K:G Rw) (is aG:G Nat),K=rs0.drop ↑aG->cM K is->(∀ (i a w:Nat),aG[i]?=J a->(rs0.map (·.w))[i]?=J w->a<2^w)->∀ (i a w:Nat),(cN K (rs0.map (·.w)) is aG)[i]?=J a->(rs0.map (·.w))[i]?=J w->a<2^w
 |[],is,aG,_,_,hb=>hb
 |r::K,is,aG,hd,hi,hb=>by
   let hr:rs0[↑aG]?=J r:=by
    have:=congrArg (λ l=>l[0]?) hd;simp only[yDk,yHf,yIb] at this;exact this.symm
   let hd':∀ z:Nat,K=rs0.drop ↑(aG++[z]):=λ z=>by
    rw[xAn,yDy];have:=congrArg List.tail hd;rw[List.tail_drop] at this;exact this
   let hw:(rs0.map (·.w))[↑aG]?=J r.w:=by rw[yAe,hr];rfl
   let hj:↑aG<↑rs0:=(gIm hr).1;unfold cN;split
   .rename_i c;rw[cM,if_pos c] at hi;let(n,is',U,hn,hi'):=hi;exact aEi hf K is' (aG++[n]) (hd' n) hi' (aKB hb hw hn)
   .rename_i c;rw[cM,if_neg c] at hi;let(f1,f2):=hf _ r hr;let lt:=xF hb (r.args.take (aZ r.wd)) λ a ha=>(f2 a ha,by have:=f2 a ha;rw[yAf];omega,)
    exact aEi hf K is _ (hd' _) hi (aKB hb hw (aE2 f1 lt))
def aEb(p:Prg K)(hi:cM K is):↑(cN K (~~~K) is [])=↑K:=by rw[wR];simp
def aB4{K:G Rw}(p:Prg K){is:G Nat}(hi:cM K is){i a w:Nat}(h1:(cN K (~~~K) is [])[i]?=J a)(h2:(~~~K)[i]?=J w):a<2^w:=aEi p.fit K is [] U hi (λ i a w h=>by simp at h) i a w h1 h2
def jD:G Rw->G Nat->G Nat->G Nat->G Nat->G Nat
 |r::K,W,is,m::ms,aG=>if r.wd=.in then jD K W is.tail ms (aG++[g0 is 0^^^m]) else jD K W is ms (aG++[cV r (bE r W) (bE r aG)^^^m])
 |_,_,_,_,aG=>aG
structure MsOk(K:List Rw)(ms:List Nat):Prop where
 l:↑ms=↑K
 lt:∀ (j:Nat) (r:Rw) (m:Nat),K[j]?=J r->ms[j]?=J m->m<2^r.w
noncomputable abbrev eT(P:D)(is ms ws:List Nat)(n:Nat)(c5 c6 c7 c8:Option W):aY:=[J (.d P),J (.d (is*>nD)),J (.d (ms*>nD)),J (.d (ws*>nD)),#[n],c5,c6,c7,c8]
def aQf(d:Nat)(K:G Rw)(o:D)(is ms:G Nat)(hl:↑K<=250)(hf:mD K)(hi:cM K is)(hm:MsOk K ms)(S:aD):cl fns (d+6) 80 [.d (K<*o),.d (is*>nD),.d (ms*>nD)] S=J (.d (Tz ((jD K (~~~K) is ms []).map nD)),S)/\↑(jD K (~~~K) is ms [])=↑K/\∀ (i a w:Nat),(jD K (~~~K) is ms [])[i]?=J a->(~~~K)[i]?=J w->a<2^w:=by
 let(aW,S',p1,aG,tk,c6,c7,c8,U,U,al,ar,ai,ab):=jF (t:=.many [6,7]) (fi:=lv (d<$>5) aHQ) (fb:=xs (d<$>5) aHV) (env:=eT (K<*o) is ms (~~~K) ↑S ((0:)) qx qx qx) (S:=S++[J []]) (ds:=gK (K.map Rw.d) (ms.map nD))
  (λ j env S'=>∃ (aG:G Nat) (tk:Nat) (c6 c7 c8:Oz W),env=eT (K<*o) is ms (~~~K) ↑S ((tk:)) c6 c7 c8/\S'=S++[J (aG.map nD)]/\↑aG=j/\jD (K.drop j) (~~~K) (is.drop tk) (ms.drop j) aG=jD K (~~~K) is ms []/\cM (K.drop j) (is.drop tk)/\∀ (i a w:Nat),aG[i]?=J a->(~~~K)[i]?=J w->a<2^w)
  rfl ([],0,qx,qx,qx,U,U,U,U,hi,by simp,) (by
   rintro j dd env S' hd ⟨aG,tk,c6,c7,c8,rfl,rfl,al,ar,ai,ab⟩;let(a0,b0,ha,hb,U):=aDR _ _ j dd hd;rw[yAe] at ha hb;let(r,hr,U):=Option.map_eq_some_iff.mp ha;let(m,hmj,U):=Option.map_eq_some_iff.mp hb;let hmlt:=hm.lt j r m hr hmj;let(f1,f2):=hf j r hr;let hj:j<↑K:=(gIm hr).1;let hw:(~~~K)[j]?=J r.w:=by rw[yAe,hr];rfl
   let hWl:↑(~~~K)=↑K:=yAf ..;rw[aBk hr] at ar ai;rw[aBk hmj] at ar;let more:∀ z:Nat,z<2^r.w->∀ (i a w:Nat),(aG++[z^^^m])[i]?=J a->(~~~K)[i]?=J w->a<2^w:=λ z hz i a w h1 h2=>by
    by_cases c:i<↑aG
    .rw[xAm c] at h1;exact ab i a w h1 h2
    .have ci:i=j:=by
      have:=(gIm h1).1;simp at this;omega
     subst ci;rw[yAh (),show i-↑aG=0 by omega] at h1;cases h1;rw[hw] at h2;cases h2;exact yBy hz hmlt
   let ap:∀ z:Nat,eE (S++[J (aG.map nD)]) (.loc ↑S) (.d (Iz z))=J (.d .none,S++[J ((aG++[z]).map nD)]):=λ z=>by
    rw[wN S (aG.map nD) _ (by rw[yAf];omega),yAu];rfl
   by_cases c:r.wd=.in
   .have t:bO .Eq (.str r.wd.s) (.str "in")=J (.bool Z):=by rw[c];exact fS .in .in
    rw[cM,if_pos c] at ai;let(n,is',e1,hn,hi'):=ai;rw[jD,if_pos c,e1] at ar;let e2:is'=is.drop (tk+1):=by rw[<- List.tail_drop,e1];rfl
    let e3:bM (is*>nD) (.int tk)=J (.int n):=dP (by
     have:(is.drop tk)[0]?=J n:=by rw[e1];rfl
     rw[yHf,yIb] at this;rw[yAe,this];rfl)
    refine(_,_,_,U,bX (iE (aU (aM U (gJ r)) cC t) (bA (bT {} {} U e3) U (gS (aJ {} aF (iZ tk 1))))) (dW (fZ (gW {} (aJ {} {} (gH n m)) (ap _)))),aG++[n^^^m],tk+1,_,_,_,U,U,by simp[al],?_,?_,more n hn,)
    .rw[<- e2,<- ar];rfl
    simp_all
   .have t:bO .Eq (.str r.wd.s) (.str "in")=J (.bool Ff):=by
     have:=fS r.wd .in;rw[dqF c] at this;exact this
    rw[cM,if_neg c] at ai;rw[jD,if_neg c] at ar;let lt:=xF ab (r.args.take (aZ r.wd)) λ a ha=>(by have:=f2 a ha;omega,by have:=f2 a ha;omega,)
    let o1:=aEd (d+3) r (~~~K) (S++[J (aG.map nD)]) λ a ha=>by have:=f2 a ha;omega
    let o2:=aS8 (d+3) r aG S λ a ha=>by have:=f2 a ha;omega
    let wk:=aT5 f1 c lt (d+1) (S++[J (aG.map nD)]);let wl:=aE2 f1 lt;exact(_,_,_,U,bX (gT (aU (aM U (gJ r)) cC t) (gS (aT (aE {} (aE (cT U U o1) (aE (cT U U o2) aQ))) wk))) (dW (fZ (gW {} (aJ {} {} (gH _ m)) (ap _)))),_,tk,_,_,_,U,U,by simp[al],ar,ai,more _ wl,))
 let zl:↑(gK (K.map Rw.d) (ms.map nD))=↑K:=by
  rw[aBc,yAf,yAf,hm.l,Nat.min_self]
 rw[zl] at al ar;rw[yGl] at ar;let ar':aG=jD K (~~~K) is ms []:=by
  let e:jD [] (~~~K) (is.drop tk) (ms.drop ↑K) aG=aG:=by unfold jD;rfl
  rw[<- e];exact ar
 subst ar';exact(aV U U U (bA (bY U (aDl (d+4) K o () S)) U (bA (kS (eX aQ U (yAc U))) U (bA aF U (bX (hV p1) (aN (gB (aE {} aQ) (gY (dM (rC _ _)) iA) U)))))) yHk,al,ab,)
def aVG(K:G Rw):MsOk K (yAg ↑K 0):=⟨yCg,λ j r m h1 h2=>by
 rw[yEp] at h2;split at h2
 .cases h2;exact xAe _
 .cases h2⟩
def aU1(d:Nat)(K:G Rw)(o:D)(is:G Nat)(hl:↑K<=250)(hf:mD K)(hi:cM K is)(S:aD):cl fns (d+7) 81 [.d (K<*o),.d (is*>nD)] S=J (.d (Tz ((jD K (~~~K) is (yAg ↑K 0) []).map nD)),S):=by
 let ln:B.len.g [(K*>Rw.d)]=J (.int ↑K):=by
  show J (Iz ((↑(K.map Rw.d):Nat):Int))=_;rw[yAf]
 let e:=(aQf d K o is _ hl hf hi (aVG K) S).1;rw[yGb] at e;exact aV U U U (aN (aT (aE {} (aE {} (aE (aJ (uZ aF) (cZ (aM U U) ln) (aJA ())) aQ))) e)) yAb
def aSx(hn:n<2^w):(2^w-1)^^^n=2^w-1-n:=by rw[Nat.xor_comm];exact aKh hn
def vY(n w:Nat):Ft:=(2^w-1-n,n,1,)
def aNn(hn:n<2^w)(hw:1<=w):FtOk (vY n w) w:=(by show 2^w-1-n<2^w;have:=xAe w;omega,hn,yAd 1,hw,)
def aU7(hn:n<2^w):Hd (vY n w) n w:=by
 refine(λ i hi=>?_,λ i hi=>hi,mV _ _,);let hi':(2^w-1-n)[i]! =Z:=hi;by_cases c:i<w
 .rw[aBW hn c] at hi';simpa using hi'
 .exact cS hn ()
def aKr(hw:1<=w):iN mI w=mI:=by
 let u:dS 0 1 w=0:=by
  unfold dS;rw[Nat.zero_and,if_pos U]
 let t:tr 0 w=0:=by
  unfold tr;rw[Nat.zero_xor];have:bl (2^w-1)=w:=aH8 (xG w) (.inr (by rw[dF,dqT ()]));omega
 show Ft.mk (dS 0 1 w) (dS 0 1 w) (aAn 1 (tr (dS 0 1 w) w) (tr (dS 0 1 w) w))=(0,0,1,);rw[u,t];rfl
def aRQ(d n w:Nat)(hn:n<2^w)(cB:1<=w)(hw:w<=64)(S:aD):cl fns (d+4) 49 [.d (Tz [.str "num",.int w,.int n]),.d (Tz []),.d (Tz [])] S=J (.d (iN (vY n w) w).d,S):=by let nf:cl fns (d+2) 35 [.d (Iz w),.d (Iz n)] S=J (.d (vY n w).d,S):=aV U U U (aN (eQ (aJ (bY U (dL d w () S)) {} (by rw[gH,aSx hn];rfl)) {} aF)) yAb;exact aEc d _ _ _ S w (vY n w) U (oQ (d+2) .num U U (nW .in rfl U (yW (a:=.num) U (aN (aT (aE {} (aE (aM U U) aQ)) nf))))) (aNn hn cB) hw
def aUn(d w:Nat)(cB:1<=w)(hw:w<=64)(S:aD):cl fns (d+4) 49 [.d (Tz [.str "in",.int w]),.d (Tz []),.d (Tz [])] S=J (.d mI.d,S):=by let r:=aEc d (.tuple [.str "in",.int w]) (.tuple []) (.tuple []) S w mI U (oQ (d+2) .in rfl U (yW (a:=.in) U (aN U))) (xAe w,xAe w,yAd 1,cB,) hw;rw[aKr cB] at r;exact r
def sO:G Ft->G Nat->G Nat->Prop
 |f::Fs,w::ws,n::ns=>(n<2^w/\Hd f n w)/\sO Fs ws ns|[],[],[]=>True|_,_,_=>False
def vF:G Ft->G Nat->Prop
 |f::Fs,w::ws=>Op f w/\vF Fs ws|[],[]=>True|_,_=>False
structure RG(r:Rw)(ws:List Nat)(Fs:List Ft):Prop where
 g:∃ g:Ft,FtOk g r.w/\(∀ d S,cl fns (d+7) 49 [.d r.d,.d (ws*>nD),.d (Fs*>Ft.d)] S=J (.d (iN g r.w).d,S))/\(∀ ns,sO Fs ws ns->r.wd≠.in->Hd g (cV r ws ns) r.w)/\(r.wd=.in->∀ z,Hd g z r.w)
def aAh(h:vF Fs [w]):∃ f,Fs=[f]/\Op f w:=by
 rcases Fs with _|⟨a,_|⟨b,r⟩⟩
 .exact h.elim
 .exact(a,U,h.1,)
 .exact h.2.elim
def aFP(h:vF Fs [w,v]):∃ f g,Fs=[f,g]/\Op f w/\Op g v:=by
 rcases Fs with _|⟨a,_|⟨b,_|⟨c,r⟩⟩⟩
 .exact h.elim
 .exact h.2.elim
 .exact(a,b,U,h.1,h.2.1,)
 .exact h.2.2.elim
def bBR(h:vF Fs [w,v,u]):∃ f g k,Fs=[f,g,k]/\Op f w/\Op g v/\Op k u:=by
 rcases Fs with _|⟨a,_|⟨b,_|⟨c,_|⟨e,r⟩⟩⟩⟩
 .exact h.elim
 .exact h.2.elim
 .exact h.2.2.elim
 .exact(a,b,c,U,h.1,h.2.1,h.2.2.1,)
 .exact h.2.2.2.elim
def aAD(h:sO [f] [w] ns):∃ a,ns=[a]/\a<2^w/\Hd f a w:=by
 rcases ns with _|⟨a,_|⟨b,r⟩⟩
 .exact h.elim
 .exact(a,U,h.1,)
 .exact h.2.elim
def aFE(h:sO [f,g] [w,v] ns):∃ a b,ns=[a,b]/\(a<2^w/\Hd f a w)/\b<2^v/\Hd g b v:=by
 rcases ns with _|⟨a,_|⟨b,_|⟨c,r⟩⟩⟩
 .exact h.elim
 .exact h.2.elim
 .exact(a,b,U,h.1,h.2.1,)
 .exact h.2.2.elim
def bB9(h:sO [f,g,k] [w,v,u] ns):∃ a b c,ns=[a,b,c]/\(a<2^w/\Hd f a w)/\(b<2^v/\Hd g b v)/\c<2^u/\Hd k c u:=by
 rcases ns with _|⟨a,_|⟨b,_|⟨c,_|⟨e,r⟩⟩⟩⟩
 .exact h.elim
 .exact h.2.elim
 .exact h.2.2.elim
 .exact(a,b,c,U,h.1,h.2.1,h.2.2.1,)
 .exact h.2.2.2.elim
def oR{r:Rw}(hi:r.wd≠.in)(h2:r.w<=64)(g:Ft)(hg:FtOk g r.w)(ho:∀ d S,cl fns (d+6) 48 [.d r.d,.d (ws*>nD),.d (Fs*>Ft.d)] S=J (.d g.d,S))(hh:∀ ns,sO Fs ws ns->Hd g (cV r ws ns) r.w):RG r ws Fs:=
 (g,hg,λ d S=>aEc (d+3) _ _ _ S r.w g (fG r) (ho d S) hg h2,λ ns h _=>hh ns h,λ h=>absurd h hi,)
def aWJ(o:Op f w):RG (.not,w,[a],) [w] [f]:=
 oR (λ h=>nomatch h) o.w2 (f.O,f.N,f.A,) (o.ok.lO,o.ok.lN,o.ok.a1,o.ok.aw,) (λ d S=>aSo (d+5) _ _ _ (w:Nat) S f U U U) λ ns h=>by
  let(x,U,hx,hf):=aAD h;exact aSO o.ok o.dj hx hf
def aYL{wd:Wd}(h:wd=.left\/wd=.right\/wd=.slide):wd≠.in:=by erw[50,h]<;>decide
def aY6{wd:Wd}(h:wd=.and\/wd=.or\/wd=.xor):wd≠.in:=by erw[50,h]<;>decide
def aZk{wd:Wd}(h:wd=.same\/wd=.less\/wd=.under):wd≠.in:=by erw[50,h]<;>decide
def aY2(s:Sw):s.wd≠.in:=by cases s<;>decide
def aZ6(wd:Wd)(aP:wd=.left\/wd=.right\/wd=.slide)(hk:k<64)(o:Op f w):RG (wd,w,[a,k],) [w] [f]:=by
 refine oR (aYL aP) o.w2 (shN wd w f k) ?_ (λ d S=>aQc (d+5) _ _ _ (w:Nat) S wd aP f k _ U U U U (aD2 (d+1) wd aP w f k o.ok o.w1 o.w2 () S)) λ ns h=>?_
 .erw[50,aP]
  .exact aUG o.ok o.dj o.w1 k
  .exact aST o.ok o.dj o.w1 k
  .exact aSg o.ok o.dj o.w1 k
 .let(x,U,hx,hf):=aAD h;erw[50,aP]
  .exact aRe o.ok o.dj hx hf k
  .exact aPL o.ok o.dj hx hf k
  .exact aQv o.ok o.dj hx hf o.w1 k
def aYh(h1:1<=w)(hv:w<=v)(o:Op f v):RG (.cut,w,[a],) [v] [f]:=
 oR (λ h=>nomatch h) (xAh hv o.w2) (aAj v w f) (aWU o.ok o.dj o.w1 h1 hv) (λ d S=>aDL (d+5) _ _ _ (w:Nat) S .cut (.inl U) f (v:Nat) _ U U U U (aWA (d+3) v w f hv (xAh hv o.w2) S)) λ ns h=>by
  let(x,U,hx,hf):=aAD h;exact aR0 o.ok o.dj hx hf hv
def aUC(hv:v<=w)(h2:w<=64)(o:Op f v):RG (.wide,w,[a],) [v] [f]:=
 oR (λ h=>nomatch h) h2 (uQ v w f) (aVo o.ok o.dj o.w1 hv) (λ d S=>aDL (d+5) _ _ _ (w:Nat) S .wide (.inr (.inl U)) f (v:Nat) _ U U U U (aUk (d+2) v w f hv h2 S)) λ ns h=>by
  let(x,U,hx,hf):=aAD h;exact aQE o.ok o.dj hx hf hv
def aVy(hv:v<=w)(h2:w<=64)(o:Op f v):RG (.sign,w,[a],) [v] [f]:=
 oR (λ h=>nomatch h) h2 (zJ v w f) (aUZ o.ok o.dj o.w1 hv) (λ d S=>aDL (d+5) _ _ _ (w:Nat) S .sign (.inr (.inr U)) f (v:Nat) _ U U U U (aUL (d+2) v w f o.w1 hv h2 S)) λ ns h=>by
  let(x,U,hx,hf):=aAD h;exact aQU o.ok o.dj hx hf o.w1 hv
def aYZ(wd:Wd)(aP:wd=.and\/wd=.or\/wd=.xor)(o:Op f w)(o':Op g w):RG (wd,w,[a,b],) [w,w] [f,g]:=by
 obtain⟨n,hb',eb,ej⟩:∃ n,(n=0\/n=1\/n=2)/\bwN wd f g=vM n f g/\∀ x y:Nat,cV ⟨wd,w,[a,b]⟩ [w,w] [x,y]=bwv n x y:=by
  erw[50,aP]
  .exact(0,.inl U,U,λ x y=>rfl,)
  .exact(1,.inr (.inl U),U,λ x y=>rfl,)
  .exact(2,.inr (.inr U),U,λ x y=>rfl,)
 refine oR (aY6 aP) o.w2 (vM n f g) (bAz hb' o.ok o.dj o'.ok o'.dj) (λ d S=>?_) λ ns h=>?_
 .have q:=aUM (d+3) (Rw.mk wd w [a,b]).d (Tz [nD w,nD w]) (.tuple [f.d,g.d]) (w:Nat) S wd aP f g U U U U;rw[eb] at q;exact q
 .let(x,y,U,(hx,h1),hy,h2):=aFE h;rw[ej];exact aVx hb' o.ok o.dj h1 o'.ok o'.dj h2
def bAF(s:Sw)(o:Op f w)(o':Op g w):RG (s.wd,w,[a,b],) [w,w] [f,g]:=by
 let(p,hp,h):=o.ho;let(q,hq,h'):=o'.ho;refine oR (aY2 s) o.w2 (zX s w f g) (aXS s o.ok o'.ok hp hq h h') (λ d S=>aRX d _ _ _ w S s f g U U U U o.ok o'.ok (aZl s w f g o.ok o'.ok hp hq h h') o.w2) λ ns hn=>?_
 let(x,y,U,(hx,h1),hy,h2):=aFE hn;let e:cV (s.wd,w,[a,b],) [w,w] [x,y]=cH (s.oc (x:Nat) (y:Nat)) w:=by cases s<;>rfl
 rw[e];exact aR2 s o.ok o'.ok hx hy h1 h2
def aYm(wd:Wd)(aP:wd=.same\/wd=.less\/wd=.under)(o:Op f v)(o':Op g v):RG (wd,1,[a,b],) [v,v] [f,g]:=by
 let hk:FtOk (qQ wd v f g) 1:=by rcases aY1 wd v f g with h|h|h<;>rw[h]<;>exact(by decide,by decide,by decide,by decide,)
 refine oR (aZk aP) (show 1<=64 by omega) (qQ wd v f g) hk (λ d S=>aRh (d+1) _ _ _ (1:_) S wd aP v f g U U U U U (o.ok,o.dj,) (o'.ok,o'.dj,) o.w1 o.w2) λ ns hn=>?_
 let(x,y,U,(hx,h1),hy,h2):=aFE hn;erw[50,aP]
 .exact aRx o.ok hx hy h1 h2
 .exact aRF o.ok o'.ok hx hy h1 h2
 .exact aPW o.ok o'.ok o.dj o'.dj o.w1 hx hy h1 h2
def aTa(ot:Op t 1)(o:Op f w)(o':Op g w):RG (.pick,w,[c,a,b],) [1,w,w] [t,f,g]:=
 oR (λ h=>nomatch h) o.w2 (qV t f g) (bAY o.ok o'.ok) (λ d S=>aQo (d+4) _ _ _ (w:Nat) S t f g U U U U U) λ ns hn=>by
  let(z,x,y,U,(hz,h0),(hx,h1),hy,h2):=bB9 hn;exact aRd h0 hz h1 h2
def aVP(h1:1<=w)(h2:w<=64)(hn:n<2^w):RG (.num,w,[n],) [] []:=
 ⟨vY n w,aNn hn h1,λ d S=>aRQ (d+3) n w hn h1 h2 S,λ ns _ _=>aU7 hn,λ h=>nomatch h⟩
def aY3(h1:1<=w)(h2:w<=64):RG (.in,w,[],) [] []:=by refine(mI,(xAe w,xAe w,yAd 1,h1,),λ d S=>?_,λ ns _ h=>absurd U h,λ _ z=>(λ i h=>tV h,λ i h=>tV h,mV _ _,),);have:=aUn (d+3) w h1 h2 S;rw[aKr h1];exact this
def rg(h:RwOk r ws)(o:vF Fs ws):RG r ws Fs:=by
 cases h with
 |inp h1 h2=>
   rcases Fs with _|⟨f,Fs⟩
   .exact aY3 h1 h2
   .exact o.elim
 |num h1 h2 hn=>
   rcases Fs with _|⟨f,Fs⟩
   .exact aVP h1 h2 hn
   .exact o.elim
 |nt h1 h2=>
   let(f,U,o1):=aAh o;exact aWJ o1
 |sh h1 h2 aP hk=>
   let(f,U,o1):=aAh o;exact aZ6 _ aP hk o1
 |cut h1 hv h2=>
   let(f,U,o1):=aAh o;exact aYh h1 hv o1
 |wide h1 hv h2=>
   let(f,U,o1):=aAh o;exact aUC hv h2 o1
 |sign h1 hv h2=>
   let(f,U,o1):=aAh o;exact aVy hv h2 o1
 |bw h1 h2 aP=>
   let(f,g,U,o1,o2):=aFP o;exact aYZ _ aP o1 o2
 |sm h1 h2=>
   let(f,g,U,o1,o2):=aFP o;exact bAF _ o1 o2
 |cmp h1 h2 aP=>
   let(f,g,U,o1,o2):=aFP o;exact aYm _ aP o1 o2
 |pick h1 h2=>
   let(t,f,g,U,ot,o1,o2):=bBR o;exact aTa ot o1 o2
def f0(F:G Ft)(a:Nat):Ft:=F.getD a (0,0,1,)
def fQ(r:Rw)(F:G Ft):G Ft:=(r.args.take (aZ r.wd)).map (f0 F)
structure Snd(K:List Rw)(F:List Ft):Prop where
 ok:∀ (i:Nat) (f:Ft) (w:Nat),F[i]?=J f->(~~~K)[i]?=J w->FtOk f w
 hold:∀ is,cM K is->∀ (i:Nat) (f:Ft) (w n:Nat),F[i]?=J f->(~~~K)[i]?=J w->(cN K (~~~K) is [])[i]?=J n->Hd f n w
def jS{F:G Ft}(h:a<↑F):F[a]?=J (f0 F a):=by show F[a]?=J (F.getD a (0,0,1,));rw[xAg,yAa h];rfl
def aVe{K:G Rw}(p:Prg K){a w:Nat}(h:(~~~K)[a]?=J w):1<=w/\w<=64:=by rw[yAe] at h;let(r,hr,U):=Option.map_eq_some_iff.mp h;exact p.ws a r hr
def aKy(p:Prg K)(s:Snd K F):∀ (l:G Nat),(∀ a∈l,a<↑F/\a<↑K)->vF (l.map (f0 F)) (l.map (g0 (~~~K)))
 |[],_=>True.intro
 |a::l,h=>by
   let(h1,h2):=h a xAc;let hw:=@pT a (K.map (·.w)) (by rw[yAf];exact h2);let hf:=jS h1;let(is,hi):=p.ins;let hn:=@pT a (cN K (~~~K) is []) (by rw[aEb p hi];exact h2);let(w1,w2):=aVe p hw;exact((s.ok a _ _ hf hw,(_,aB4 p hi hn hw,s.hold is hi a _ _ _ hf hw hn,),w1,w2,),aKy p s l λ b hb=>h b (xAf _ hb),)
def aLz(p:Prg K)(s:Snd K F)(hi:cM K is):∀ (l:G Nat),(∀ a∈l,a<↑F/\a<↑K)->sO (l.map (f0 F)) (l.map (g0 (~~~K))) (l.map (g0 (cN K (~~~K) is [])))
 |[],_=>True.intro
 |a::l,h=>by
   let(h1,h2):=h a xAc;let hw:=@pT a (K.map (·.w)) (by rw[yAf];exact h2);let hf:=jS h1;let hn:=@pT a (cN K (~~~K) is []) (by rw[aEb p hi];exact h2);exact((aB4 p hi hn hw,s.hold is hi a _ _ _ hf hw hn,),aLz p s hi l λ b hb=>h b (xAf _ hb),)
structure Nx(K:List Rw)(F:List Ft)(j:Nat)(r:Rw)(g:Ft):Prop where
 ok:FtOk g r.w
 rule:∀ d S,cl fns (d+7) 49 [.d r.d,.d (Tz ((bE r (~~~K)).map nD)),.d (Tz ((fQ r F).map Ft.d))] S=J (.d g.d,S)
 hold:∀ is,cM K is->∀ n,(cN K (~~~K) is [])[j]?=J n->Hd g n r.w
def aIo(p:Prg K)(s:Snd K F)(hr:K[j]?=J r)(hF:j<=↑F):∃ g,Nx K F j r g:=by
 let(f1,f2):=p.fit j r hr;let hj:j<↑K:=(gIm hr).1;let hb:∀ a∈r.args.take (aZ r.wd),a<↑F/\a<↑K:=λ a ha=>by have:=f2 a ha;omega
 let(g,gk,rl,h1,h2):=(rg f1 (aKy p s _ hb)).g;refine(iN g r.w,bAO gk,rl,λ is hi n hn=>(aSy gk).mpr ?_,);by_cases c:r.wd=.in
 .exact h2 c n
 .have e:=aEE p.fit is hr c;rw[hn] at e;cases e;exact h1 _ (aLz p s hi _ hb) c
def aIX(s:Snd K F)(hr:K[↑F]?=J r)(nx:Nx K F ↑F r g)(fk:FtOk f r.w)(hN:∀ i,f.N[i]! =Z->g.N[i]! =Z)(hO:∀ i,f.O[i]! =Z->g.O[i]! =Z)(hA:f.A<=g.A):Snd K (F++[f]):=by
 let last:∀ {i:Nat}{x:Ft},(F++[f])[i]?=J x->F[i]?=J x\/(i=↑F/\x=f):=λ {i x} h=>by
  by_cases c:i<↑F
  .rw[xAm c] at h;exact .inl h
  .have hl:=(gIm h).1;simp at hl;have:i=↑F:=();subst this;rw[yAh (yAd _),yBe] at h;cases h;exact .inr (U,U,)
 let hw:(~~~K)[↑F]?=J r.w:=by rw[yAe,hr];rfl
 refine(λ i x w h1 h2=>?_,λ is hi i x w n h1 h2 h3=>?_,)
 .rcases last h1 with h|⟨rfl,rfl⟩
  .exact s.ok i x w h h2
  simp_all
 .rcases last h1 with h|⟨rfl,rfl⟩
  .exact s.hold is hi i x w n h h2 h3
  .rw[hw] at h2;cases h2;let q:=nx.hold is hi n h3;exact(λ i hi=>q.1 i (hN i hi),λ i hi=>q.2.1 i (hO i hi),tQ hA q.2.2,)
def aJ4(K:G Rw):Snd K []:=(λ i f w h=>by simp at h,λ is hi i f w n h=>by simp at h,)
def aTS(d:Nat)(r:Rw)(F:G Ft)(S0:aD)(h:∀ a∈r.args.take (aZ r.wd),a<↑F):cl fns (d+2) 9 [.d r.d,.loc ↑S0] (S0++[J (F.map Ft.d)])=J (.d (Tz ((fQ r F).map Ft.d)),S0++[J (F.map Ft.d)]):=by
 have:=tL d r (.loc ↑S0) (.list (F.map Ft.d)) (λ a=>(f0 F a).d) (S0++[J (F.map Ft.d)]) (λ aG=>by
  show(match (S0++[J (F.map Ft.d)]++[J aG])[↑S0]? with|some (J ds)=>J (Lz ds)|_=>qx)=_
  rw[yBg,yAh (yAd _),yBe];rfl) λ a ha=>mU (by rw[yAe,jS (h a ha)];rfl)
 rw[this,fQ,yBa];rfl
def aDY{r:Rw}{F:G Ft}(h:∀ a∈r.args.take (aZ r.wd),a<↑F):fQ r (F++[f])=fQ r F:=by
 unfold fQ;refine yBs λ a ha=>?_
 show(F++[f]).getD a (0,0,1,)=F.getD a (0,0,1,);rw[xAg,xAg,xAm (h a ha)]
def aL9{F:G Ft}(h:a<↑F):f0 (F++[f]) a=f0 F a:=by show(F++[f]).getD a (0,0,1,)=F.getD a (0,0,1,);rw[xAg,xAg,xAm h]
def aMk(F:G Ft)(f:Ft):f0 (F++[f]) ↑F=f:=by show(F++[f]).getD ↑F (0,0,1,)=f;rw[xAg,yAh (yAd _),yBe];rfl
def Own(K:G Rw)(F:G Ft):Prop:=∀ (i:Nat) (r:Rw),i<↑F->K[i]?=J r->∃ g,g=f0 F i/\Nx K F i r g
def aKJ(p:Prg K){F:G Ft}(hi:i<=↑F)(hr:K[i]?=J r)(nx:Nx K F i r g):Nx K (F++[f]) i r g:=by refine(nx.ok,?_,nx.hold,);rw[aDY λ a ha=>by have:=(p.fit i r hr).2 a ha;omega];exact nx.rule
def aRL(p:Prg K)(h:Own K F)(hr:K[↑F]?=J r)(nx:Nx K F ↑F r g):Own K (F++[g]):=λ i q hi hq=>by
 by_cases c:i<↑F
 .let(g',U,h1):=h i q c hq;exact(_,(aL9 c).symm,aKJ p () hq h1,)
 .have ci:i=↑F:=by simp at hi;omega
  subst ci;rw[hr] at hq;cases hq;exact(g,(aMk F g).symm,aKJ p (yAd _) hr nx,)
def aPH(d:Nat)(K:G Rw)(o:D)(p:Prg K)(S:aD):∃ F:G Ft,↑F=↑K/\Snd K F/\Own K F/\cl fns (d+9) 50 [.d (K<*o)] S=J (.d (F*>Ft.d),S):=by
 let pl:=p.l;let(aW,S',p1,F,c3,U,U,fl,fs,fo):=jF (t:=.one 3) (fi:=lv (d<$>8) aHo) (fb:=xs (d<$>8) aHr) (env:=[J (.d (K<*o)),J (.d (Tz ((~~~K).map nD))),J (.loc ↑S),qx]) (S:=S++[J []]) (ds:=K.map Rw.d)
  (λ j env S'=>∃ (F:G Ft) (c3:Oz W),env=[J (.d (K<*o)),J (.d (Tz ((~~~K).map nD))),J (.loc ↑S),c3]/\S'=S++[J (F.map Ft.d)]/\↑F=j/\Snd K F/\Own K F)
  rfl ([],qx,U,U,U,aJ4 K,λ i r hi=>absurd hi (yCy i),) (by
   rintro j dd env S' hd ⟨F,c3,rfl,rfl,fl,fs,fo⟩;rw[yAe] at hd;let(r,hr,U):=Option.map_eq_some_iff.mp hd;subst fl;let(f1,f2):=p.fit _ r hr;let hj:↑F<↑K:=(gIm hr).1;let hWl:↑(~~~K)=↑K:=yAf ..;let(g,nx):=aIo p fs hr (yAd _);let o1:=aEd (d+6) r (~~~K) (S++[J (F.map Ft.d)]) λ a ha=>by have:=f2 a ha;omega
   let o2:=aTS (d+6) r F S λ a ha=>f2 a ha
   let rl:=nx.rule (d+1) (S++[J (F.map Ft.d)]);let ap:eE (S++[J (F.map Ft.d)]) (.loc ↑S) (.d g.d)=J (.d .none,S++[J ((F++[g]).map Ft.d)]):=by
    rw[wN S (F.map Ft.d) _ (by rw[yAf];omega),yAu];rfl
   exact(_,_,_,U,dW (fZ (gW {} (aT (aE {} (aE (cT U U o1) (aE (cT U U o2) aQ))) rl) ap)),F++[g],_,U,U,by simp,aIX fs hr nx nx.ok (λ i h=>h) (λ i h=>h) (yAd _),aRL p fo hr nx,))
 rw[yAf] at fl;exact(F,fl,fs,fo,aV U U U (bA (bY U (aDl (d+7) K o () S)) U (bA (kS (eX aQ U (yAc U))) U (bX (hV p1) (aN (gB (aE {} aQ) (gY (dM (rC _ _)) iA) U))))) yHk,)
def aDw:∀ (K:G Rw) (ws:G Nat),dG ws K->∀ (j:Nat) (r:Rw),K[j]?=J r->fP (ws++(K.take j).map (·.w)) r
 |[],_,_,j,r,h=>by simp at h
 |q::K,ws,⟨h1,h2⟩,0,r,h=>by
   simp_all
 |q::K,ws,⟨h1,h2⟩,j+1,r,h=>by
   have:=aDw K (ws++[q.w]) h2 j r (by simpa using h);simp_all
def aNZ{a n:Nat}(h:a<n):∀ x∈[a],x<n:=λ x hx=>by
 rw[List.mem_singleton.mp hx];exact h
def aN7{a b n:Nat}(h:a<n)(h':b<n):∀ x∈[a,b],x<n:=λ x hx=>by
 rcases List.mem_cons.mp hx with rfl|hx
 .exact h
 .exact aNZ h' x hx
def bBI{a b c n:Nat}(h:a<n)(h':b<n)(h'':c<n):∀ x∈[a,b,c],x<n:=λ x hx=>by
 rcases List.mem_cons.mp hx with rfl|hx
 .exact h
 .exact aN7 h' h'' x hx
def aN2:∀ x∈([]:G Nat),x<n:=λ x hx=>by simp at hx
section
variable {ws W:List Nat}{n:Nat}(hw:∀ a v, ws[a]?=J v->g0 W a=v /\ 1 <= v /\ v <= 64 /\ a<n)
include hw
theorem rM{wd:Wd}{args:G Nat}(e:(args.take (aZ wd))=[a])(h:ws[a]?=J v)(k:RwOk (wd,w,args,) [v]):RwOk (wd,w,args,) (bE (wd,w,args,) W)/\∀ x∈args.take (aZ wd),x<n:=by
 let(e1,_,_,e4):=hw a v h;have:bE (wd,w,args,) W=[v]:=by
  show(args.take (aZ wd)).map (g0 W)=[v];rw[e,yAm,yEy,e1]
 rw[this,e];exact(k,aNZ e4,)
theorem rF{wd:Wd}{args:G Nat}(e:(args.take (aZ wd))=[a,b])(h:ws[a]?=J v)(h':ws[b]?=J u)(k:RwOk (wd,w,args,) [v,u]):RwOk (wd,w,args,) (bE (wd,w,args,) W)/\∀ x∈args.take (aZ wd),x<n:=by
 let(e1,_,_,e4):=hw a v h;let(d1,_,_,d4):=hw b u h';have:bE (wd,w,args,) W=[v,u]:=by
  show(args.take (aZ wd)).map (g0 W)=[v,u];rw[e,yAm,yAm,yEy,e1,d1]
 rw[this,e];exact(k,aN7 e4 d4,)
omit hw in
theorem aYR{wd:Wd}(h:fP ws (wd,w,[],)):RwOk (wd,w,[],) (bE (wd,w,[],) W)/\∀ x∈yFk (aZ wd) [],x<n:=by
 cases wd
 case «in» => exact(.inp h.1 h.2.1,aN2,)
 all_goals exact h.2.2.elim
theorem aZz{wd:Wd}(h:fP ws (wd,w,[a],)):RwOk (wd,w,[a],) (bE (wd,w,[a],) W)/\∀ x∈yFk (aZ wd) [a],x<n:=by
 cases wd
 case num=>exact(.num h.1 h.2.1 h.2.2,aN2,)
 case not=>exact rM hw U h.2.2 (.nt h.1 h.2.1)
 case cut=>
  let(v,q1,q2):=h.2.2;exact rM hw U q1 (.cut h.1 q2 (hw a v q1).2.2.1)
 case wide=>
  let(v,q1,q2):=h.2.2;exact rM hw U q1 (.wide (hw a v q1).2.1 q2 h.2.1)
 case sign=>
  let(v,q1,q2):=h.2.2;exact rM hw U q1 (.sign (hw a v q1).2.1 q2 h.2.1)
 all_goals exact h.2.2.elim
theorem aEG{wd:Wd}(aP:wd=.same\/wd=.less\/wd=.under)(q:w=1/\∃ v,ws[a]?=J v/\ws[b]?=J v)(e:aZ wd=2):RwOk ⟨wd,w,[a,b]⟩ (bE ⟨wd,w,[a,b]⟩ W)/\∀ x∈yFk (aZ wd) [a,b],x<n:=by let(U,v,q1,q2):=q;exact rF hw (by rw[e];rfl) q1 q2 (.cmp (hw a v q1).2.1 (hw a v q1).2.2.1 aP)
theorem bAJ{wd:Wd}(h:fP ws (wd,w,[a,b],)):RwOk (wd,w,[a,b],) (bE (wd,w,[a,b],) W)/\∀ x∈yFk (aZ wd) [a,b],x<n:=by
 cases wd
 case left=>exact rM hw U h.2.2.1 (.sh h.1 h.2.1 (.inl U) h.2.2.2)
 case right=>exact rM hw U h.2.2.1 (.sh h.1 h.2.1 (.inr (.inl U)) h.2.2.2)
 case slide=>exact rM hw U h.2.2.1 (.sh h.1 h.2.1 (.inr (.inr U)) h.2.2.2)
 case and=>exact rF hw U h.2.2.1 h.2.2.2 (.bw h.1 h.2.1 (.inl U))
 case or=>exact rF hw U h.2.2.1 h.2.2.2 (.bw h.1 h.2.1 (.inr (.inl U)))
 case xor=>exact rF hw U h.2.2.1 h.2.2.2 (.bw h.1 h.2.1 (.inr (.inr U)))
 case add=>exact rF hw U h.2.2.1 h.2.2.2 (.sm (s:=.add) h.1 h.2.1)
 case sub=>exact rF hw U h.2.2.1 h.2.2.2 (.sm (s:=.sub) h.1 h.2.1)
 case mul=>exact rF hw U h.2.2.1 h.2.2.2 (.sm (s:=.mul) h.1 h.2.1)
 case same=>exact aEG hw (.inl U) h.2.2 U
 case less=>exact aEG hw (.inr (.inl U)) h.2.2 U
 case under=>exact aEG hw (.inr (.inr U)) h.2.2 U
 all_goals exact h.2.2.elim
theorem bAK{wd:Wd}(h:fP ws (wd,w,[a,b,c],)):RwOk (wd,w,[a,b,c],) (bE (wd,w,[a,b,c],) W)/\∀ x∈yFk (aZ wd) [a,b,c],x<n:=by
 cases wd
 case pick=>
  let(q1,q2,q3):=h.2.2;let(e1,_,_,e4):=hw a _ q1;let(d1,_,_,d4):=hw b _ q2;let(c1,_,_,c4):=hw c _ q3;have:bE (.pick,w,[a,b,c],) W=[1,w,w]:=by
   show [g0 W a,g0 W b,g0 W c]=[1,w,w];rw[e1,d1,c1]
  rw[this];exact(.pick h.1 h.2.1,bBI e4 d4 c4,)
 all_goals exact h.2.2.elim
omit hw in
theorem aY8{wd:Wd}(h:fP ws (wd,w,a::b::c::e::t,)):False:=by
 cases wd
 all_goals exact h.2.2
theorem aKj(h:fP ws r):RwOk r (bE r W)/\∀ x∈r.args.take (aZ r.wd),x<n:=by
 let(wd,w,args):=r
 match args,h with
 |[],h=>exact aYR h|[a],h=>exact aZz hw h|[a,b],h=>exact bAJ hw h|[a,b,c],h=>exact bAK hw h|_::_::_::_::_,h=>exact(aY8 h).elim
end
def aI5:∀ K:G Rw,∃ is,cM K is
 |[]=>([],U,)
 |r::K=>by
   let(is,h):=aI5 K;by_cases c:r.wd=.in
   .refine(0::is,?_,);rw[cM,if_pos c];exact(0,is,U,xAe _,h,)
   .refine(is,?_,);rw[cM,if_neg c];exact h
def lL(h:dG [] K):mD K/\∀ (j:Nat) (r:Rw),K[j]?=J r->1<=r.w/\r.w<=64:=by
 let ws:∀ (j:Nat) (r:Rw),K[j]?=J r->1<=r.w/\r.w<=64:=λ j r hr=>by
  have:=aDw K [] h j r hr;exact(this.1,this.2.1,)
 refine(λ j r hr=>?_,ws,);let ok:=aDw K [] h j r hr;rw[yEk] at ok;refine aKj (n:=j) (λ a v ha=>?_) ok;let hj:j<↑K:=(gIm hr).1;let haj:a<j:=by
  have:=(gIm ha).1;rw[yAf,yBl] at this;omega
 rw[yAe,yDa haj] at ha;let(q,hq,U):=Option.map_eq_some_iff.mp ha;let(w1,w2):=ws a q hq;refine(?_,w1,w2,haj,);show(~~~K).getD a 0=q.w;rw[xAg,yAe,hq];rfl
def aEx(h:dG [] K)(hl:↑K<=250):Prg K:=(hl,(lL h).1,aI5 K,(lL h).2,)
noncomputable abbrev sT(T:aD)(ns:List Int)(k:Nat)(x:Int):aD:=J (bH ns k x)::T
def uR(T:aD)(ns:G Int)(k:Nat)(x:Int)(h:↑T<=40):cL (qx::T) 0 50 ns k x []=sT T ns k x:=by unfold cL;rw[yDc,yEi];simp;omega
def aFR(T:aD)(h:↑T<=40):At0 (qx::T) 0 50:=(by simp,by decide,)
def aZ1{x:Int}(T:aD)(hT:↑T<=40)(d w:Nat)(hw:1<=w)(cO:w<=64)(hk:k<=98000):∃ (r k':Nat) (x':Int),r<2^w/\k'<=k+5/\cl fns (d+3) 87 [.loc 0,.d (Iz w)] (sT T ns k x)=J (.d (Iz r),sT T ns k' x'):=by let(r,k',x',hr,hk',e):=@aEU _ _ _ k ns [] x (aFR T hT) d w hw cO hk;rw[uR T _ _ _ hT,uR T _ _ _ hT] at e;exact(r,k',x',hr,hk',e,)
def jH{x:Int}(T:aD)(hT:↑T<=40)(d m:Nat)(hm:0<m)(hm2:m<2^64)(hk:k<=100000):∃ (r:Nat) (x':Int),r<m/\cl fns (d+1) 84 [.loc 0,.d (Iz m)] (sT T ns k x)=J (.d (Iz r),sT T ns (k+1) x'):=by let(r,x',hr,e):=@lK _ _ _ k ns [] x (aFR T hT) d m hm hm2 hk;rw[uR T _ _ _ hT,uR T _ _ _ hT] at e;exact(r,x',hr,e,)
def aIZ{x:Int}(T:aD)(hT:↑T<=40)(d w:Nat)(cO:w<=64)(hk:k<=99000):∃ (r k':Nat) (x':Int),r<2^w/\k'<=k+2/\cl fns (d+2) 85 [.loc 0,.d (Iz w)] (sT T ns k x)=J (.d (Iz r),sT T ns k' x'):=by let(r,k',x',hr,hk',e):=@aIb _ _ _ k ns [] x (aFR T hT) d w cO hk;rw[uR T _ _ _ hT,uR T _ _ _ hT] at e;exact(r,k',x',hr,hk',e,)
def aRy{x:Int}(d:Nat)(K:G Rw)(o:D)(p:Prg K)(hk:k<=50000):∃ (is:G Nat) (k':Nat) (x':Int),cM K is/\k'<=k+5*↑K/\cl fns (d+4) 97 [.loc 0,.d (K<*o)] [J (bH ns k x)]=J (.d (is*>nD),[J (bH ns k' x')]):=by
 let pl:=p.l;let(aW,S',p1,is,k',x',c3,hk',al,hi,U,U):=jF (t:=.one 3) (fi:=lv (d<$>3) aGN) (fb:=xs (d<$>3) aGP) (env:=[#[0],J (.d (K<*o)),#[1],qx]) (S:=[J (bH ns k x),J []]) (ds:=K.map Rw.d)
  (λ j env S'=>∃ (is:G Nat) (k':Nat) (x':Int) (c3:Oz W),k'<=k+5*j/\↑is<=j/\(∀ is',cM (K.drop j) is'->cM K (is++is'))/\env=[#[0],J (.d (K<*o)),#[1],c3]/\S'=[J (bH ns k' x'),J (is.map nD)])
  rfl ([],k,x,qx,(),yAd _,λ is' h=>h,U,U,) (by
   rintro j dd env S' hd ⟨is,k',x',c3,hk',al,hi,rfl,rfl⟩;rw[yAe] at hd;let(r,hr,U):=Option.map_eq_some_iff.mp hd;let hj:j<↑K:=(gIm hr).1;let(w1,w2):=p.ws j r hr;by_cases c:r.wd=.in
   .have t:bO .Eq (.str r.wd.s) (.str "in")=J (.bool Z):=by rw[c];exact fS .in .in
    let(n,k2,x2,hn,hk2,e2):=@aZ1 k' ns x' [J (is.map nD)] (by simp) d r.w w1 w2 ();let ap:eE [J (bH ns k2 x2),J (is.map nD)] (.loc 1) (.d (Iz n))=J (.d .none,[J (bH ns k2 x2),J ((is++[n]).map nD)]):=by
     have:=wN [J (bH ns k2 x2)] (is.map nD) (.int n) (by rw[yAf];omega);rw[yAu];exact this
    refine(_,_,_,U,dW (iE (aU (aM U (gJ r)) cC t) (dW (fZ (gW {} (aT (bV U (aM U (fG r))) e2) ap)))),is++[n],k2,x2,_,(),by simp;omega,λ is' h=>?_,U,U,)
    have:=hi (n::is') (by
     rw[aBk hr,cM,if_pos c];exact(n,is',U,hn,h,))
    rw[yBg];exact this
   .have t:bO .Eq (.str r.wd.s) (.str "in")=J (.bool Ff):=by
     have:=fS r.wd .in;rw[dqF c] at this;exact this
    exact(_,_,_,U,dW (gT (aU (aM U (gJ r)) cC t) U),is,k',x',_,(),(),λ is' h=>hi is' (by rw[aBk hr,cM,if_neg c];exact h),U,U,))
 rw[yAf] at hk' hi;let hin:=hi [] (by rw[yGl];rfl);rw[yBc] at hin;exact(is,k',x',hin,hk',aV U U U (bA (kS (eX aQ U (yAc U))) U (bX (hV p1) (aN (gB (aE {} aQ) (gY (dM U) iA) U)))) U,)
def aFl{m:Nat}(h:m[i]! =Z):i<bl m:=by
 by_cases c:i<bl m
 .exact c
 .rw[cS (rQ m) ()] at h;cases h
def aTR(i t:Nat):(2^i)[t]! =decide (i=t):=yFq
def kQ(x w:Nat):Nat:=if x/2^w=0 then x else (x&&&(2^w-1))|||2^(w-1)
def aDS(hw:1<=w):(kQ x w)[t]! =Z ↔ (t<w/\x[t]! =Z)\/(t=w-1/\∃ j,w<=j/\x[j]! =Z):=by
 unfold kQ;split
 .rename_i h;rw[aDk] at h;constructor
  .intro z;refine .inl (?_,z,);by_cases c:t<w
   .exact c
   .rw[h t ()] at z;cases z
  .rintro (⟨_,z⟩|⟨_,j,h1,h2⟩)
   .exact z
   .rw[h j h1] at h2;cases h2
 .rename_i h;rw[xAo,yAi,dF,aTR];let h':∃ j,w<=j/\x[j]! =Z:=by
   rw[aDk] at h;simp_all
  constructor
  .intro z;simp only[yFa,yBf,decide_eq_true_eq] at z;rcases z with ⟨z1,z2⟩|z
   .exact .inl (z2,z1,)
   .exact .inr (z.symm,h',)
  .rintro (⟨z1,z2⟩|⟨z,_⟩)
   .simp[z1,z2]
   .simp[z]
def aJ5(hw:1<=w):kQ x w<2^w:=by
 apply yCt;intro i hi;cases q:(kQ x w)[i]! with
 |false=>rfl
 |true=>
   rcases (aDS hw).mp q with ⟨h,_⟩|⟨h,_⟩<;>omega
structure Fc where
 N:Nat
 O:Nat
 A:Nat
noncomputable instance:Inhabited Fc:=⟨(0,0,0,)⟩
def bR(wd:Wd)(w kk:Nat)(ws:G Nat)(fs:G Fc)(m:Nat):G Nat:=
 if m=0 then yAg (aZ wd) 0 else
 match wd with
 |.in|.num=>[]
 |.not|.cut=>[m]
 |.xor=>[m,m]|.and=>[dQ m (dQ (fs.getD 1 default).N (fs.getD 0 default).N),dQ m (fs.getD 0 default).N]|.or=>[dQ m (dQ (fs.getD 1 default).O (fs.getD 0 default).O),dQ m (fs.getD 0 default).O]
 |.add|.sub=>[2^bl m-1,2^bl m-1]
 |.mul=>[2^(bl m-min (bl m) (lr (fs.getD 1 default).N))-1,2^(bl m-min (bl m-min (bl m) (lr (fs.getD 1 default).N)) (lr (fs.getD 0 default).N))-1]|.left=>[m/2^kk]|.right=>[(m*2^kk)&&&(2^w-1)]|.slide=>[kQ (m*2^kk) w]|.wide=>[m&&&(2^ws.getD 0 0-1)]|.sign=>[kQ m (ws.getD 0 0)]
 |.same|.less|.under=>[2^ws.getD 0 0-1,2^ws.getD 1 0-1]
 |.pick=>if (fs.getD 0 default).O=1 then [1,m,0] else if (fs.getD 0 default).N=1 then [1,0,m] else [1,m,m]
def aCx(wd:Wd)(w:Nat)(ws:G Nat):Prop:=1<=w/\w<=64/\match wd with
 |.in|.num=>ws=[]
 |.not|.left|.right|.slide=>ws=[w]
 |.and|.or|.xor|.add|.sub|.mul=>ws=[w,w]
 |.cut=>∃ v,ws=[v]/\w<=v/\v<=64
 |.wide|.sign=>∃ v,ws=[v]/\v<=w/\1<=v
 |.same|.less|.under=>w=1/\∃ v,ws=[v,v]/\1<=v/\v<=64
 |.pick=>ws=[1,w,w]
def aJn{wd:Wd}:↑(bR wd w kk ws fs m)=aZ wd:=by
 unfold bR;split
 .simp
 .cases wd<;>first|rfl|(simp only;split<;>first|rfl|(split<;>rfl))
def aBa(x k t:Nat):(x*2^k)[t]! =(decide (k<=t)&&x[(t-k)]!):=by rw[Nat.testBit_mul_two_pow]
def jG(h:k<=v):2^k-1<2^v:=by let h1:=xAe k;let h2:(2:Nat)^k<=2^v:=yAl (·) h;omega
def aBN(h:m<2^v):dQ m y<2^v:=xAi (yDx _ _) h
def aT4(wd:Wd)(w kk:Nat)(ws:G Nat)(fs:G Fc)(m c v:Nat)(hk:aCx wd w ws)(hm:m<2^w)(hv:ws[c]?=J v):(bR wd w kk ws fs m).getD c 0<2^v:=by
 by_cases h0:m=0
 .subst h0;let e:(bR wd w kk ws fs 0).getD c 0=0:=by
   unfold bR;rw[if_pos U,xAg,yEp];split<;>rfl
  rw[e];exact xAe _
 let hb:bl m<=w:=uT hm;let e0:bR wd w kk ws fs m=_:=if_neg h0;rw[e0];let one:∀ {a u:Nat},ws=[u]->a<2^u->[a].getD c 0<2^v:=λ {a u} e h=>by
  subst e
  match c,hv with
  |0,hv=>cases hv;exact h|c+1,hv=>simp at hv
 let two:∀ {a b u x:Nat},ws=[u,x]->a<2^u->b<2^x->[a,b].getD c 0<2^v:=λ {a b u x} e h h2=>by
  subst e
  match c,hv with
  |0,hv=>cases hv;exact h|1,hv=>cases hv;exact h2|c+2,hv=>simp at hv
 let three:∀ {a b e u x y:Nat},ws=[u,x,y]->a<2^u->b<2^x->e<2^y->[a,b,e].getD c 0<2^v:=λ {a b e u x y} e' h h2 h3=>by
  subst e'
  match c,hv with
  |0,hv=>cases hv;exact h|1,hv=>cases hv;exact h2|2,hv=>simp_all|c+3,hv=>simp at hv
 let(cB,cO,hk):=hk;cases wd with
 | «in» => rw[hk] at hv;simp at hv|num=>rw[hk] at hv;simp at hv|not=>exact one hk hm
 |cut=>
   let(u,e,h1,h2):=hk;exact one e (xAb hm (yAl (·) h1))
 |xor=>exact two hk hm hm|and=>exact two hk (aBN hm) (aBN hm)|or=>exact two hk (aBN hm) (aBN hm)|add=>exact two hk (jG hb) (jG hb)|sub=>exact two hk (jG hb) (jG hb)|mul=>exact two hk (jG (xAh (yDx _ _) hb)) (jG (xAh (yDx _ _) hb))|left=>exact one hk (xAi (yGv _ _) hm)|right=>exact one hk (Nat.and_lt_two_pow _ (jG (yAd _)))|slide=>exact one hk (aJ5 cB)
 |wide=>
   let(u,e,h1,h2):=hk;subst e;exact one U (Nat.and_lt_two_pow _ (jG (yAd _)))
 |sign=>
   let(u,e,h1,h2):=hk;subst e;exact one U (aJ5 h2)
 |same=>
   let(_,u,e,h1,h2):=hk;subst e;exact two U (jG (yAd _)) (jG (yAd _))
 |less=>
   let(_,u,e,h1,h2):=hk;subst e;exact two U (jG (yAd _)) (jG (yAd _))
 |under=>
   let(_,u,e,h1,h2):=hk;subst e;exact two U (jG (yAd _)) (jG (yAd _))
 |pick=>
   simp only;split
   .exact three hk (·) hm (xAe _)
   .split
    .exact three hk (·) (xAe _) hm
    .exact three hk (·) hm hm
def Fc.d(f:Fc):D:=.tuple [.int f.N,.int f.O,.int f.A]
def aHS(d a b m:Nat)(S:aD):cl fns (d+1) 12 [.d (Iz a),.d (Iz b),.d (Iz m)] S=J (.d (Tz [Iz ((dQ m (dQ b a):Nat):Int),Iz ((dQ m a:Nat):Int)]),S):=by rw[dU U d _ S U];erw[11,aHg,rE,rA]
def aPs(d a b m:Nat)(hm:m<2^64)(S:aD):cl fns (d+3) 13 [.d (Iz a),.d (Iz b),.d (Iz m)] S=J (.d (Tz [Iz ((2^(bl m-min (bl m) (lr b))-1:Nat):Int),Iz ((2^(bl m-min (bl m-min (bl m) (lr b)) (lr a))-1:Nat):Int)]),S):=by let hb:=uT hm;exact aV U U U (bA (bY U (aBw (d+1) m S)) U (bA (fU {} (bY U (yQ d b S)) (nU _ _)) U (bA (fU (aJ {} {} (jC (yCa ..))) (bY U (yQ d a S)) (nU _ _)) U (aN (fJ (aT (aE (aJ {} {} (jC (yCa ..))) aQ) (dL (d+1) _ () S)) (aT (aE (aJ {} {} (jC ())) aQ) (dL (d+1) _ () S))))))) yAb
def aIv(d y w:Nat)(hw:1<=w)(cO:w<=1000)(S:aD):cl fns (d+2) 14 [.d (Iz y),.d (Iz w)] S=J (.d (Iz ((kQ y w:Nat):Int)),S):=by
 unfold kQ;split
 .rename_i c;exact aV U U U (cJ (aU (aJ {} {} (kN _ _)) aF (zP c)) (aN {})) yAb
 .rename_i c;exact aV U U U (bW (aU (aJ {} {} (kN _ _)) aF (yU c)) (aN (aJ (aJ {} (bY U (dL d w () S)) (dB _ _)) (aJ aF (aJ {} aF (jC hw)) (jR ())) (fO _ _)))) yAb
def aUW(d w kk m:Nat)(S:aD):cl fns (d+3) 15 [.d (Sz "left"),.d (Iz w),.d (Iz kk),.d (Iz m)] S=J (.d (Iz (m/2^kk:_)),S):=aV U U U (yW (a:=.left) U (aN (aJ {} {} (kN _ _)))) yAb
def aSL(d w kk m:Nat)(hw:w<=64)(hk:kk<=64)(hm:m<2^64)(S:aD):cl fns (d+3) 15 [.d (Sz "right"),.d (Iz w),.d (Iz kk),.d (Iz m)] S=J (.d (Iz (((m*2^kk)&&&(2^w-1):Nat):Int)),S):=aV U U U (nW (a:=.right) .left U U (yW (a:=.right) U (aN (aJ (aJ {} {} (tX hm ())) (bY U (dL (d+1) w () S)) (dB _ _))))) yAb
def aSn(d w kk m:Nat)(cB:1<=w)(hw:w<=64)(hk:kk<=64)(hm:m<2^64)(S:aD):cl fns (d+3) 15 [.d (Sz "slide"),.d (Iz w),.d (Iz kk),.d (Iz m)] S=J (.d (Iz ((kQ (m*2^kk) w:Nat):Int)),S):=aV U U U (nW (a:=.slide) .left U U (nW (a:=.slide) .right U U (aN (aT (aE (aJ {} {} (tX hm ())) (aE {} aQ)) (aIv d _ w cB () S))))) yAb
def aO3(d:Nat)(f:Fc)(m:Nat)(S:aD):cl fns (d+1) 16 [.d f.d,.d (Iz m)] S=J (.d (Tz ((if f.O=1 then [1,m,0] else if f.N=1 then [1,0,m] else [1,m,m]).map nD)),S):=by
 split
 .rename_i c;exact aV U U U (cJ (aU (aM U U) aF (rP c)) U) yAb
 .rename_i c;split
  .rename_i e;exact aV U U U (bW (aU (aM U U) aF (oK c)) (cJ (aU (aM U U) aF (rP e)) U)) yAb
  .rename_i e;exact aV U U U (bW (aU (aM U U) aF (oK c)) (bW (aU (aM U U) aF (oK e)) U)) yAb
def yB(wd:Wd)(args:G Nat)(kk:Nat):Prop:=match wd with
 |.in=>args=[]|.num=>∃ n,args=[n]
 |.not|.cut|.wide|.sign=>∃ a,args=[a]
 |.left|.right|.slide=>∃ a,args=[a,kk]/\kk<64
 |.pick=>∃ a b c,args=[a,b,c]|_=>∃ a b,args=[a,b]
def aBu{wd:Wd}(h:yB wd args kk):↑(args.take (aZ wd))=aZ wd:=by
 cases wd<;>first
  |(obtain rfl:=h;rfl)
  |(let(a,b,c,U):=h;rfl)
  |(let(a,b,U):=h;rfl)
  |(let(a,U,_):=h;rfl)
  |(let(a,U):=h;rfl)
def aFX{α:Type}{l:List α}(h:↑l=2):∃ a b,l=[a,b]:=by
 match l,h with
 |[a,b],_=>exact(a,b,U,)
def bBj{α:Type}{l:List α}(h:↑l=3):∃ a b c,l=[a,b,c]:=by
 match l,h with
 |[a,b,c],_=>exact(a,b,c,U,)
def aNo(m n:Nat)(h:n<=10):cG .Mult (.tuple [.int m]) (.int (n:_))=J (.tuple ((yAg n m).map nD)):=by rw[@aJA _ n (),yGb];rfl
def aQ4(d:Nat)(wd:Wd)(w:Nat)(args:G Nat)(kk:Nat)(ws:G Nat)(fs:G Fc)(m:Nat)(hk:aCx wd w ws)(hf:↑fs=aZ wd)(ha:yB wd args kk)(hm:m<2^w)(h0:m≠0)(S:aD) :
 cl fns (d+4) 17 [.d (Rw.mk wd w args).d,.d (ws*>nD),.d (fs*>Fc.d),.d (Iz m)] S=J (.d (Tz ((bR wd w kk ws fs m).map nD)),S):=by
 let hm64:m<2^64:=xAb hm (yAl (·) hk.2.1);let bm:m<2^10000:=aMd hm64 (·);let op:=lG (d+2) (wd,w,args,) S;let lop:nE [.tuple ((args.take (aZ wd)).map nD)]=J (.int ((aZ wd:Nat):Int)):=by
  rw[aE7,yAf,aBu ha]
 let fl:=λ v (hv:v<=64)=>dL (d+2) v () S
 let bl:=aJP (d+1) m S bm;refine aLM U (d+3) U U yAb (bA (S1:=S) (aM U (gJ _)) U ?_);let(cB,cO,hk):=hk;rw[show bR wd w kk ws fs m=_ from if_neg h0];let ft:∀ {f g:Fc},ev (d<$>3) (.ix (.var 2) (.int 0)) [J (.d (Rw.mk wd w args).d),J (.d (ws*>nD)),J (.d (Tz ([f,g].map Fc.d))),(m:),J (.d (Sz wd.s))] S=J (.d f.d,S):=aM U U;let sx:∀ {x:Wd}{a z:Nat}{R:Sx}{A B:D},cl fns (d+3) 15 [.d (Sz x.s),.d (Iz w),.d (Iz kk),.d (Iz m)] S=J (.d (Iz z),S)->xs (d<$>3) (.seq (.ret (.tup (.cons (.call 15 (.cons (.var 4) (.cons (.ix (.var 0) (.int 1)) (.cons (.ix (.var 0) (.int 3)) (.cons (.var 3) .nil))))) .nil))) R) [J (.d (Rw.mk x w [a,kk]).d),J (.d A),J (.d B),(m:),J (.d (Sz x.s))] S=J (.rt (.d (Tz ([z].map nD))),S):=λ e=>aN (uZ (aT (aE {} (aE (aM U U) (aE (aM U U) (aE {} aQ)))) e))
 cases wd
 case and=>
  let(f,g,U):=aFX hf;exact yW (a:=.and) U (aN (aT (aE (bT ft aF U U) (aE (bT (aM U U) aF U U) (aE {} aQ))) (aHS (d+2) f.N g.N m S)))
 all_goals refine nW .and U U ?_
 case or=>
  let(f,g,U):=aFX hf;exact yW (a:=.or) U (aN (aT (aE (bT ft aF U U) (aE (bT (aM U U) aF U U) (aE {} aQ))) (aHS (d+2) f.O g.O m S)))
 all_goals refine nW .or U U ?_
 case add|sub=>exact yI U U U (aN (fJ (bY U bl) (bY U bl)))
 all_goals refine nI U U U ?_
 case mul=>
  let(f,g,U):=aFX hf;exact yW (a:=.mul) U (aN (aT (aE (bT ft aF U U) (aE (bT (aM U U) aF U U) (aE {} aQ))) (aPs d f.N g.N m hm64 S)))
 all_goals refine nW .mul U U ?_
 case left=>
  let(a,U,hkk):=ha;exact yI U U U (sx (aUW d w kk m S))
 case right=>
  let(a,U,hkk):=ha;exact yI U U U (sx (aSL d w kk m cO () hm64 S))
 case slide=>
  let(a,U,hkk):=ha;exact yI U U U (sx (aSn d w kk m cB cO () hm64 S))
 all_goals refine nI U U U ?_
 case wide=>
  let(v,U,hv1,hv2):=hk;exact yW (a:=.wide) U (aN (uZ (aJ {} (aT (aE (aM U U) aQ) (fl v ())) (dB _ _))))
 all_goals refine nW .wide U U ?_
 case sign=>
  let(v,U,hv1,hv2):=hk;exact yW (a:=.sign) U (aN (uZ (aT (aE {} (aE (aM U U) aQ)) (aIv (d+1) m v () () S))))
 all_goals refine nW .sign U U ?_
 case same|less|under=>
  let(_,v,U,hv1,hv2):=hk;exact yI U U U (aN (fJ (aT (aE (aM U U) aQ) (fl v hv2)) (aT (aE (aM U U) aQ) (fl v hv2))))
 all_goals refine nI U U U ?_
 case pick=>
  let(f,g,h,U):=bBj hf;exact yW (a:=.pick) U (aN (aT (aE (aM U U) (aE {} aQ)) (aO3 (d+2) f m S)))
 all_goals exact nW .pick U U (aN (aJ (uZ {}) (cZ (bY U op) lop) (aNo m _ (·))))
def aK4(d:Nat)(wd:Wd)(w:Nat)(args:G Nat)(kk:Nat)(ws:G Nat)(fs:G Fc)(m:Nat)(hk:aCx wd w ws)(hf:↑fs=aZ wd)(ha:yB wd args kk)(hm:m<2^w)(S:aD) :
 cl fns (d+5) 18 [.d (Rw.mk wd w args).d,.d (ws*>nD),.d (fs*>Fc.d),.d (Iz m)] S=J (.d (Tz ((bR wd w kk ws fs m).map nD)),S):=by
 by_cases h0:m=0
 .rw[show bR wd w kk ws fs m=_ from if_pos h0];exact aV U U U (cJ (aU {} aF (zP h0)) (aN (aJ (uZ aF) (cZ (bY U (lG (d+3) (wd,w,args,) S)) (by show nE [.tuple ((args.take (aZ wd)).map nD)]=J (.int ((aZ wd:Nat):Int));rw[aE7,yAf,aBu ha])) (aNo 0 _ (by cases wd<;>decide))))) yAb
 .exact aV U U U (bW (aU {} aF (yU h0)) (aN (jZ U U U U (aQ4 d wd w args kk ws fs m hk hf ha hm h0 S)))) yAb
def aR4{l:G Nat}{q n:Nat}(h:∀ o∈l,o<n)(hq:q<n):∀ o∈l++[q],o<n:=λ o ho=>by
 rcases List.mem_append.mp ho with ho|ho
 .exact h o ho
 .rw[yDz] at ho;subst ho;exact hq
def aEO(h:At S 0 p)(ns:G Int)(k:Nat)(x:Int)(K:G Rw)(T:aD)(d m:Nat)(hm:0<m)(hm2:m<2^64)(hk:k<=100000):∃ (r:Nat) (x':Int),r<m/\cl fns (d+1) 84 [.loc 0,.d (Iz m)] (cL S 0 p ns k x K++T)=J (.d (Iz r),cL S 0 p ns (k+1) x' K++T):=by
 let l:0<↑(cL S 0 p ns k x K):=by rw[h.toAt0.len];exact h.hn
 let(r,x',hr,e):=aKW d 0 k m ns x (cL S 0 p ns k x K++T) (by rw[xAm l];exact h.toAt0.state) hm hm2 hk;exact(r,x',hr,by rw[e,List.set_append_left _ _ l,h.toAt0.put],)
def aS2(h:At S 0 p)(ns:G Int)(k:Nat)(x:Int)(K:G Rw)(T0:aD):∃ T,cL S 0 p ns k x K++T0=J (bH ns k x)::T:=by
 let hs:=h.toAt0.state (ns:=ns) (k:=k) (x:=x) (K:=K);rcases e:cL S 0 p ns k x K with _|⟨a,T⟩
 .rw[e] at hs;cases hs
 simp_all
noncomputable abbrev eP(most w p:Nat)(a b c:Option W):aY:=[#[0],(most:),(w:),#[p],a,b,c]
def PrO(ns:G Int)(b:Nat)(R:G Rw->G Nat->Nat->Int->Prop):Prop:=∃ K aH k x,dG [] K/\0<↑K/\↑K<=40/\k<=b/\(∀ o∈aH,o<↑K)/\↑aH<=8/\R K aH k x
def aMF(h:At S 0 p)(ns:G Int)(k:Nat)(x:Int)(K:G Rw)(d most w:Nat)(hm:most<=30)(ok:dG [] K)(l0:0<↑K)(l1:↑K<=40)(hk:k<=50000) :
 PrO ns (k+700) λ bF aH k' x'=>∃ T,xs (d<$>5) (bL (bL (bL aDh))) (eP most w p qx qx qx) (cL S 0 p ns k x K)=J (.rt (.d (bF<*(aH*>nD))),J (bH ns k' x')::T):=by
 let(env1,S1,p1,a4,bF,k1,x1,ok1,l0',l1',hk1,U,U):=aBU (t:=.one 4) (fi:=lv (d<$>5) aGG) (fb:=xs (d<$>5) aGK) (env:=eP most w p qx qx qx)
  (λ j env S'=>∃ (a4:Oz W) (K:G Rw) (k':Nat) (x:Int),dG [] K/\0<↑K/\↑K<=40/\k'<=k+20*j/\env=eP most w p a4 qx qx/\S'=cL S 0 p ns k' x K)
  (nQ (w:=most) U ()) (qx,K,k,x,ok,l0,l1,yAd _,U,U,) (by
    rintro j dd env S' hj ⟨a4,K,k',x,ok,l0,l1,hk',rfl,rfl⟩;let hj':j<most:=by simpa using hj
    by_cases c:↑K<37
    .let(_,k2,x',bF,(U,ok',g1,g2),hk2,e):=GP.row_ok (c:=(S,p,ns,)) h k' x K d ok l0 () ();exact(_,_,_,U,dW (iE (aU (gQ U h.rows) aF (rY ())) (dW (fZ (cT U U e)))),_,bF,k2,x',ok',(),(),(),U,U,)
    .exact(_,_,_,U,dW (gT (aU (gQ U h.rows) aF (pC ())) U),_,K,k',x,ok,l0,l1,(),U,U,))
 let hk2:k1<=k+600:=by
  rw[yAf,yCi] at hk1;omega
 let(q2,x2,hq2,e2):=@lK _ _ _ k1 ns bF x1 h.toAt0 (d+4) ↑bF l0' () ();let(q3,x3,hq3,e3):=@lK _ _ _ (k1+1) ns bF x2 h.toAt0 (d+4) 4 (·) (·) ();let(b3,hb3,eb3):=i01 ((q3:Int)==1);let(y,hy,ey):=at2 (.int ((↑bF:_)-1)) (.int q2) hb3;obtain⟨y0,hy0,rfl⟩:∃ y0:Nat,y0<↑bF/\y=nD y0:=by
  rcases hy with rfl|rfl
  .exact(↑bF-1,Nat.sub_lt l0' Nat.one_pos,by rw[nD,Int.natCast_sub l0'];rfl,)
  .exact(q2,hq2,U,)
 let(q4,x4,hq4,e4):=aEO h ns (k1+2) x3 bF [J [nD y0]] (d+4) 3 (·) (·) ();let(q5,x5,hq5,e5):=aEO h ns (k1+3) x4 bF [J [nD y0]] (d+4) 8 (·) (·) ();let(b5,hb5,eb5):=i01 ((q5:Int)==1);let(z,hz,ez):=at2 (.int q4) (.int 7) hb5;obtain⟨m,hm7,rfl⟩:∃ m:Nat,m<=7/\z=.int m:=by
  rcases hz with rfl|rfl
  .exact(_,(),U,)
  .exact(7,by decide,U,)
 let(env2,S2,p4,a4',aH,k6,x6,ol,oa,hk6,U,U):=aBU (t:=.one 4) (fi:=lv (d<$>5) aGF) (fb:=xs (d<$>5) aGH) (env:=eP most w p a4 (J (.d (Lz [Iz ((↑bF:_)-1),Iz q2]))) (J (.loc ↑S)))
  (λ j env S'=>∃ (a4:Oz W) (aH:G Nat) (k:Nat) (x:Int),↑aH=j+1/\(∀ o∈aH,o<↑bF)/\k<=k1+4+j/\env=eP most w p a4 (J (.d (Lz [Iz ((↑bF:_)-1),Iz q2]))) (J (.loc ↑S))/\S'=cL S 0 p ns k x bF++[J (aH.map nD)])
  (nQ (w:=m) (bT (eD (eX (aE (aT (bV U aF) e4) (aE aF aQ)) U (yAc U))) (cZ (dX (aT (bV U aF) e5) aF U) eb5) U ez) ())
  (a4,[y0],k1+4,x5,U,λ o ho=>by rw[yDz] at ho;simp_all,yAd _,U,U,) (by
   rintro j dd env S' hj ⟨a4,aH,k,x,ol,oa,hk,rfl,rfl⟩;let hj':j<m:=by simpa using hj
   let(q6,x6,hq6,e6):=aEO h ns k x bF [J (aH.map nD)] (d+4) ↑bF l0' () ();let ap:=wN (cL S 0 p ns (k+1) x6 bF) (aH.map nD) (.int q6) (by rw[yAf];omega)
   rw[h.toAt0.len] at ap;exact(_,_,_,U,dW (fZ (gW {} (aT (bV U (gQ U (h.rowsT _))) e6) ap)),_,aH++[q6],k+1,x6,by rw[xAn,ol];rfl,aR4 oa hq6,(),U,by rw[yAu];rfl,))
 rw[yAf,yCi] at ol hk6;let(T,hT):=aS2 h ns k6 x6 bF [J (aH.map nD)];let g2:=rC (cL S 0 p ns k6 x6 bF) (aH.map nD);rw[h.toAt0.len] at g2;refine(bF,aH,k6,x6,ok1,l0',l1',(),oa,(),T,?_,);rw[<- hT];exact bX (hV p1) (bA (eD (eX (aE (aJ (gQ U h.rows) aF (eO _ _)) (aE (aT (bV U (gQ U h.rows)) e2) aQ)) U (yAc U))) U (bA (aLK (eX (aE (bT {} (cZ (dX (aT (bV U aF) e3) aF U) eb3) U ey) aQ) U (yAc U)) h.toAt0.len) U (bX (hV p4) (aN (fJ (gB (aE {} aQ) (gY (dM (h.rowsT _)) iA) U) (gB (aE {} aQ) (gY (dM g2) iA) U))))))
def aWp(d most:Nat)(ns:G Int)(hm:most<=30)(kk:Nat)(xx:Int)(hkk:kk<=40000):∃ (K:G Rw) (aH:G Nat) (k:Nat) (x:Int),dG [] K/\0<↑K/\↑K<=40/\k<=kk+800/\(∀ o∈aH,o<↑K)/\↑aH<=8/\cl fns (d+6) 94 [.loc 0,.d (Iz most)] [J (bH ns kk xx)]=J (.d (K<*(aH*>nD)),[J (bH ns k x)]):=by
 let(w,x0,cB,cO,e0):=@aIT _ _ _ kk ns [] xx vT (d+3) ();let A2:At [qx,qx] 0 1:=((by decide,by decide,),by decide,);let(q,x1,hq,e1):=@lK _ _ _ (kk+3) ns [(.in,w,[],)] x0 A2.toAt0 (d+4) 8 (·) (·) ()
 suffices H:PrO ns (kk+800) λ K aH k x=>∃ T,xs (d<$>5) (bL (bL aDh)) (eP most w 1 qx qx qx) (cL [qx,qx] 0 1 ns (kk+3) x0 [⟨.in,w,[]⟩])=J (.rt (.d (K<*(aH*>nD))),J (bH ns k x)::T) by
  let(K,aH,k,x,h1,h2,h3,h4,h6,h7,T,h5):=H;exact(K,aH,k,x,h1,h2,h3,h4,h6,h7,aV U U U (bA (bY U e0) U (bA (kS (eX (aE (fJ cC {}) aQ) U (yAc U))) U h5)) U,)
 by_cases c:q=1
 .subst c;let(n,k2,x2,hn,hk2,e2):=@aEU _ _ _ (kk+3+1) ns [(.in,w,[],)] x1 A2.toAt0 (d+2) w cB cO ();let(K,aH,k,x,h1,h2,h3,h4,h6,h7,T,h5):=@aMF [qx,J ([((.in,w,[],):Rw)].map Rw.d),qx] 2 ((yAc U,by decide,),yAc U,) ns k2 x2 [(.num,w,[n],)] d most w hm ((cB,cO,hn,),True.intro,) Nat.one_pos (yAc U) ();exact(K,aH,k,x,h1,h2,h3,(),h6,h7,T,bX (iE (aU (aT (bV U aF) e1) aF U) (gS (aLK (eX (aE (eQ cC {} (aT (bV U {}) e2)) aQ) U (yAc U)) U))) h5,)
 .let(K,aH,k,x,h1,h2,h3,h4,h6,h7,T,h5):=aMF A2 ns (kk+3+1) x1 [(.in,w,[],)] d most w hm ((cB,cO,True.intro,),True.intro,) Nat.one_pos (yAc U) ()
  exact⟨K,aH,k,x,h1,h2,h3,(),h6,h7,T,bX (gT (aU (aT (bV U aF) e1) aF (by
   rw[gR,show((q:Int)==1)=Ff by rw[beq_eq_false_iff_ne];omega])) U) h5⟩
def aPQ(d:Nat)(K:D)(aH N:G Nat)(ho:∀ o∈aH,o<↑N)(hl:↑aH<=8)(S:aD):cl fns (d+1) 82 [.d (Tz [K,(aH*>nD)]),.d (N*>nD)] S=J (.d (Tz ((aH.map (g0 N)).map nD)),S):=by
 let i1:bM (.tuple [K,(aH*>nD)]) (.int 1)=J (aH*>nD):=rfl;let hc:lv (aI fns d) aHH [J (.d (Tz [K,(aH*>nD)])),J (.d (N*>nD)),qx] S=J ((aH.map (g0 N)).map nD,S):=by
  rw[yBa];refine iU (fi:=lv (aI fns d) (.it (.ix (.var 0) (.int 1)))) (fe:=ev (aI fns d) (.ix (.var 1) (.var 2))) nD (nD ∘ g0 N) aH ?_ (by rw[zq];omega) λ o h=>?_
  .erw[0,i1,jE]
  .refine(_,U,λ S'=>?_,);let e:bM (N*>nD) (nD o)=J (nD (g0 N o)):=dP (aFo (ho o h));erw[0,clr,yDq,yHj,e]
 rw[dU U d _ S U];erw[11,aJO,hc,oC,xX]
def bP(r:Rw):G Nat:=r.args.take (aZ r.wd)
def aAE(r:Rw):Nat:=r.args.getD 1 0
def mN(r:Rw)(F:G Ft):G Fc:=(fQ r F).map λ f=>(f.N,f.O,f.A,)
def mH(K:G Rw)(F:G Ft)(r:Rw)(m:Nat):G Nat:=bR r.wd r.w (aAE r) (bE r (~~~K)) (mN r F) m
def eJ(K:G Rw)(F:G Ft)(r:Rw)(m:Nat):G (Nat×Nat):=(bP r).zip (mH K F r m)
def pD(p:Nat×Nat):D:=.tuple [nD p.1,nD p.2]
def rS(h:RwOk r ws):aCx r.wd r.w ws/\yB r.wd r.args (aAE r):=by
 cases h with
 |inp h1 h2=>exact((h1,h2,U,),U,)|num h1 h2 hn=>exact((h1,h2,U,),_,U,)|nt h1 h2=>exact((h1,h2,U,),_,U,)
 |sh h1 h2 aP hk=>erw[50,aP]<;>exact((h1,h2,U,),_,U,hk,)
 |cut h1 hv h2=>exact((h1,xAh hv h2,_,U,hv,h2,),_,U,)|wide h1 hv h2=>exact((xAh h1 hv,h2,_,U,hv,h1,),_,U,)|sign h1 hv h2=>exact((xAh h1 hv,h2,_,U,hv,h1,),_,U,)
 |bw h1 h2 aP=>erw[50,aP]<;>exact((h1,h2,U,),_,_,U,)
 |sm h1 h2=>
   rename_i s w a b;cases s<;>exact((h1,h2,U,),_,_,U,)
 |cmp h1 h2 aP=>erw[50,aP]<;>exact((yAd 1,(show 1<=64 by decide),U,_,U,h1,h2,),_,_,U,)
 |pick h1 h2=>exact((h1,h2,U,),_,_,_,U,)
def aEZ:∀ as bs:G Nat,gK (as.map nD) (bs.map nD)=(as.zip bs).map pD
 |[],_=>by cases ‹G Nat› <;> rfl|_::_,[]=>rfl
 |a::as,b::bs=>by
   show Tz [nD a,nD b]::gK (as.map nD) (bs.map nD)=pD (a,b)::(as.zip bs).map pD;rw[aEZ as bs];rfl
def aNl(r:Rw)(F:G Ft):(mN r F).map Fc.d=(fQ r F).map Ft.d:=by unfold mN;rw[yBa];rfl
def uE(d a:Nat)(hr:K[a]?=J r)(o:D)(S:aD):cl fns (d+1) 10 [.d (K<*o),.d (Iz a)] S=J (.d (Iz r.w),S):=by let i0:bM (K<*o) (.int 0)=J (K*>Rw.d):=rfl;let e1:bM (K*>Rw.d) (.int a)=J r.d:=dP (by rw[yAe,hr];rfl);rw[dU U d _ S U];erw[11,aIq,i0,e1,fG]
def iK{K:G Rw}{a:Nat}{r:Rw}(hr:K[a]?=J r):g0 (~~~K) a=r.w:=by show(~~~K).getD a 0=_;rw[xAg,yAe,hr];rfl
def aVt{fa fb:FE}(h1:fa env S=J (.d (as*>nD),S1))(h2:fb env S1=J (.d (bs*>nD),S2))(hl:↑as<=1000):zM fa fb env S=J ((as.zip bs).map pD,S2):=by
 let e:sG fa fb env S=J ((as.zip bs).map pD,S2):=by
  unfold sG;rw[h1,oB,h2,oB,<- aEZ];rfl
 unfold zM aNE;rw[e,oB,if_pos];show↑((as.zip bs).map pD)<=1000000;rw[yAf,List.length_zip];omega
def tP(r:Rw):↑(bP r)<=3:=by have:=aLf r.wd;unfold bP;rw[yBl];omega
def aKZ{K:G Rw}{F:G Ft}{r:Rw}{k:Nat}(p:Prg K)(hr:K[k]?=J r):↑(mN r F)=aZ r.wd:=by let h:=(rS (p.fit k r hr).1).2;unfold mN fQ;rw[yAf,yAf];exact aBu h
def aHN{K:G Rw}{F:G Ft}{r:Rw}{k m:Nat}(d:Nat)(p:Prg K)(hr:K[k]?=J r)(hF:↑F=↑K)(hm:m<2^r.w)(o:D)(S:aD):cl fns (d+6) 19 [.d (K<*o),.d (F*>Ft.d),.d (Iz k),.d (Iz m)] S=J (.d (Lz ((eJ K F r m).map pD)),S):=by
 let e1:bM (K*>Rw.d) (.int k)=J r.d:=dP (by rw[yAe,hr];rfl);let(f1,f2'):=p.fit k r hr;let hk:k<↑K:=(gIm hr).1;let ol:=tP r;let hc:lv (d<$>5) aHe [J (.d (K<*o)),J (.d (F*>Ft.d)),(k:),(m:),J (.d r.d),qx,qx,qx] S=J ((bE r (~~~K)).map nD,S):=by
  unfold bE;rw[yBa];refine iU (fi:=lv (d<$>5) (.it (.call 7 (.cons (.var 4) .nil)))) (fe:=ev (d<$>5) (.call 10 (.cons (.var 0) (.cons (.var 7) .nil)))) nD (nD ∘ g0 (~~~K)) (r.args.take (aZ r.wd)) (uM (bY U (lG (d+4) r S))) (by rw[zq];have:↑(r.args.take (aZ r.wd))<=3:=ol;omega) λ a ha=>(_,U,λ S'=>?_,)
  let haj:=f2' a ha;let hq:K[a]?=J K[a]:=yAa ();show _=J (W.d (nD (g0 (~~~K) a)),S');rw[iK hq];exact cT U U (uE (d+4) a hq o S')
 let o2:=tL (d+3) r (.d (F*>Ft.d)) (F*>Ft.d) (λ a=>(f0 F a).d) S (λ _=>rfl) λ a ha=>dP (by rw[yAe,jS (by have:=f2' a ha;omega)];rfl)
 let o2':cl fns (d+5) 9 [.d r.d,.d (F*>Ft.d)] S=J (.d (Tz ((mN r F).map Fc.d)),S):=by
  rw[o2,aNl,fQ,yBa];rfl
 let(w1,w2):=rS f1;let nk:=aK4 d r.wd r.w r.args (aAE r) (bE r (~~~K)) (mN r F) m w1 (aKZ p hr) w2 hm S;exact aV U U U (bA (bT (aM U U) {} U e1) U (bA (cZ (eD hc) U) U (bA (aT (aE {} (aE {} (aE (cT U U o2') (aE {} aQ)))) nk) U (aN (eD (aVt (bY U (lG (d+4) r S)) (aJD U) ())))))) yAb
def cY(M:G Nat)(q:Nat×Nat):G Nat:=M.set q.1 (M.getD q.1 0|||q.2)
def gD(K:G Rw)(F:G Ft)(M:G Nat)(k:Nat):G Nat:=match K[k]? with|some r=>(eJ K F r (M.getD k 0)).foldl cY M|none=>M
def nJ(K:G Rw)(F:G Ft):Nat->G Nat->G Nat
 |0,M=>M|k+1,M=>nJ K F k (gD K F M k)
def eA(K:G Rw)(M:G Nat)(o:Nat):G Nat:=M.set o (2^g0 (~~~K) o-1)
def aCI(K:G Rw)(aH:G Nat):G Nat:=aH.foldl (eA K) (yAg ↑K 0)
def vB(K:G Rw)(F:G Ft)(aH:G Nat):G Nat:=nJ K F ↑K (aCI K aH)
structure Bd(K:List Rw)(M:List Nat):Prop where
 l:↑M=↑K
 lt:∀ (i:Nat) (r:Rw),K[i]?=J r->M.getD i 0<2^r.w
def aBg{α β:Type}{f:β->α->β}{l:List α}{q:α}(M:β)(h:l[j]?=J q):(l.take (j+1)).foldl f M=f ((l.take j).foldl f M) q:=by rw[List.take_add_one,h];simp
def tI{M:G Nat}(h:a≠i):(M.set a v).getD i 0=M.getD i 0:=by rw[xAg,xAg,yAy h]
def wE{M:G Nat}(h:a<↑M):(M.set a v).getD a 0=v:=by rw[xAg,yAx h];rfl
def xN{M:G Nat}(h:i<↑M):M[i]?=J (M.getD i 0):=by rw[xAg,yAa h];rfl
def rN(p:Prg K)(hr:K[k]?=J r)(hm:m<2^r.w)(q:Nat×Nat)(hq:q∈eJ K F r m):q.1<k/\∀ r',K[q.1]?=J r'->q.2<2^r'.w:=by
 let(f1,f2):=p.fit k r hr;let(w1,w2):=rS f1;let(c,hc):=yEg hq;let(a,b):=q;unfold eJ at hc;rw[List.getElem?_zip_eq_some] at hc;let(h1,h2):=hc;refine(f2 a (xAk h1),λ r' hr'=>?_,);let hv:(bE r (~~~K))[c]?=J r'.w:=by
  unfold bE;let h1':(r.args.take (aZ r.wd))[c]?=J a:=h1;rw[yAe,h1'];show J (g0 (~~~K) a)=_;rw[iK hr']
 have:=aT4 r.wd r.w (aAE r) (bE r (~~~K)) (mN r F) m c r'.w w1 hm hv;let e:(mH K F r m).getD c 0=b:=by
  rw[xAg,h2];rfl
 rw[<- e];exact this
def aCl(h:Bd K M){q:Nat×Nat}(h1:q.1<↑K)(h2:∀ r',K[q.1]?=J r'->q.2<2^r'.w):Bd K (cY M q):=by
 refine(by unfold cY;rw[yBd];exact h.l,λ i r hr=>?_,);unfold cY;by_cases c:q.1=i
 .rw[c] at h1 h2 ⊢;rw[wE (by rw[h.l];exact h1)];exact yBi (h.lt i r hr) (h2 r hr)
 .rw[tI c];exact h.lt i r hr
section
variable {K:List Rw}{F:List Ft}{r:Rw}{k m:Nat}
def aMl(p:Prg K)(hr:K[k]?=J r)(hm:m<2^r.w):∀ (l:G (Nat×Nat)) (M:G Nat),(∀ q∈l,q∈eJ K F r m)->Bd K M->Bd K (l.foldl cY M)
 |[],_,_,h=>h
 |q::l,M,hl,h=>by
   let hk:k<↑K:=(gIm hr).1;let(a,b):=rN p hr hm q (hl q xAc);exact aMl p hr hm l _ (λ x hx=>hl x (xAf _ hx)) (aCl h () b)
end
def aD8:Bd K (yAg ↑K 0):=by refine(yCg,λ i r hr=>?_,);let hi:i<↑K:=(gIm hr).1;rw[xAg,yEp,if_pos hi];exact xAe _
def aID(hr:K[o]?=J r):eA K M o=M.set o (2^r.w-1):=by unfold eA;rw[iK hr]
def aEv(h:Bd K M)(ho:o<↑K):Bd K (eA K M o):=by
 refine(by unfold eA;rw[yBd];exact h.l,λ i r hr=>?_,);unfold eA;by_cases c:o=i
 .subst c;rw[wE (by rw[h.l];exact ho),iK hr];have:=xAe r.w;omega
 .rw[tI c];exact h.lt i r hr
section
variable {K:List Rw}
def aKP:∀ (l:G Nat) (M:G Nat),(∀ o∈l,o<↑K)->Bd K M->Bd K (l.foldl (eA K) M)
 |[],_,_,h=>h|o::l,M,hl,h=>aKP l _ (λ x hx=>hl x (xAf _ hx)) (aEv h (hl o xAc))
end
def xL(S:aD)(M:G Nat)(a v:Nat)(ha:a<↑M):rX (S++[J (M.map nD)]) (.loc ↑S) (.d (Iz a)) (.d (Iz v))=J (S++[J ((M.set a v).map nD)]):=by rw[aFb (rC S _) (j:=a) (by unfold kF;rw[yAf,if_pos (),if_pos (),yAt]),List.set_append_right _ _ (yAd _),yBe,List.map_set];rfl
def yH{M:G Nat}(h:i<↑M):bM (.list (M.map nD)) (.int i)=J (.int ((M.getD i 0:Nat):Int)):=mU (by rw[yAe,xN h];rfl)
def bAH{fa fb:FE}{env:aY}{S:aD}{n:Nat}(h1:fa env S=J (.d (Lz [Iz 0]),S))(h2:fb env S=J (.d (Iz n),S))(hn:n<=1000):aAg fa fb env S=J ((yAg n 0).map nD,S):=by
 let hz:↑(([.int 0]:G D))*((n:Int)).toNat<=qk:=by rw[yAt,zq];simp;omega
 let hd:dr S (.d (Lz [Iz 0]))=J (.list [.int 0]):=rfl;unfold aAg;rw[h1,oB,h2,oB];show((dr S (.d (Lz [Iz 0]))).bind _)=_;rw[hd,oB];show(if (n:Int)<2^63 /\ -(2^63)<=(n:Int)/\↑(([.int 0]:G D))*((n:Int)).toNat<=qk then J (aCK ((n:Int)).toNat [Iz 0],S) else qx)=_;rw[if_pos ((),(),hz,),yAt,aSP,yGb];rfl
def bBZ{env:aY}{S:aD}{e:E}{n:Nat}(h:ev C e env S=J (.d (Iz n),S))(hn:n<=1000):lv C (.rng3 (.bin .Sub e (.int 1)) (.un .USub (.int 1)) (.un .USub (.int 1))) env S=J (mT ((n:Int)-1) n,S):=by let h2:ev C (.un .USub (.int 1)) env S=J (.d (Iz (-1)),S):=rfl;show zG (ev C (.bin .Sub e (.int 1))) (ev C (.un .USub (.int 1))) (ev C (.un .USub (.int 1))) env S=_;unfold zG;rw[aJ h aF (eO (n:Int) 1),oB];dsimp only;rw[h2,oB];dsimp only;rw[h2,oB];dsimp only;rw[nG,nG,nG,if_pos (((),(),by decide,by decide,),U,),show((n:Int)-1 - -1).toNat=n by omega]
noncomputable abbrev eK(P F:D)(n:Nat)(c3 c4 c5 c6 c7 c8:Option W):aY:=[J (.d P),J (.d F),#[n],c3,c4,c5,c6,c7,c8]
def aQy{F:G Ft}(d:Nat)(p:Prg K)(hr:K[k]?=J r)(hF:↑F=↑K)(o:D)(S:aD)(h:Bd K M)(c3 c5 c6 c7 c8:Oz W):∃ c7' c8':Oz W,Bd K (gD K F M k)/\xs (d<$>6) (.loop (.many [7,8]) aDG aDu) (eK (K<*o) (F*>Ft.d) ↑S c3 ((k:)) c5 c6 c7 c8) (S++[J (M.map nD)])=J (.nx (eK (K<*o) (F*>Ft.d) ↑S c3 ((k:)) c5 c6 c7' c8'),S++[J ((gD K F M k).map nD)]):=by
 let hk:k<↑K:=(gIm hr).1;let hm:=h.lt k r hr;let rn:=aHN d p hr hF hm o (S++[J (M.map nD)]);let eR:gD K F M k=(eJ K F r (M.getD k 0)).foldl cY M:=by unfold gD;rw[hr]
 let(aW,S',p1,c7',c8',hb,U,U):=jF (t:=.many [7,8]) (fi:=lv (d<$>6) aDG) (fb:=xs (d<$>6) aDu) (env:=eK (K<*o) (F*>Ft.d) ↑S c3 ((k:)) c5 c6 c7 c8) (ds:=(eJ K F r (M.getD k 0)).map pD)
  (λ j env S'=>∃ c7 c8:Oz W,Bd K (((eJ K F r (M.getD k 0)).take j).foldl cY M)/\env=eK (K<*o) (F*>Ft.d) ↑S c3 ((k:)) c5 c6 c7 c8/\S'=S++[J ((((eJ K F r (M.getD k 0)).take j).foldl cY M).map nD)])
  (aMY (aT (aE {} (aE {} (aE {} (aE (bT {} {} (dM (rC _ _)) (yH (by rw[h.l];exact hk))) aQ)))) rn)) (c7,c8,h,U,U,) (by
    rintro j dd env S' hd ⟨c7,c8,hb,rfl,rfl⟩;rw[yAe] at hd;let(q,hq,U):=Option.map_eq_some_iff.mp hd;let(q1,q2):=rN p hr hm q (xAk hq);rw[aBg (f:=cY) M hq];generalize ((eJ K F r (M.getD k 0)).take j).foldl cY M=N at *;let ql:q.1<↑N:=by rw[hb.l];omega
    exact(_,_,_,U,dW (qG (aJ (bT {} {} (dM (rC _ _)) (yH ql)) {} (fO _ _)) {} {} (xL S _ q.1 _ ql)),_,_,aCl hb () q2,U,U,))
 rw[yAf,yAb,<- eR] at hb p1;exact(c7',c8',hb,p1,)
def aR5{F:G Ft}(d:Nat)(p:Prg K)(hF:↑F=↑K)(aH:G Nat)(ho:∀ o∈aH,o<↑K)(S:aD):Bd K (vB K F aH)/\cl fns (d+7) 20 [.d (K<*(aH*>nD)),.d (F*>Ft.d)] S=J (.d (Tz ((vB K F aH).map nD)),S):=by
 let pl:=p.l;let lR:B.len.g [(K*>Rw.d)]=J (.int ↑K):=by
  show J (Iz ((↑(K.map Rw.d):Nat):Int))=_;rw[yAf]
 let(env1,S1,p1,c3,hb0,U,U):=jF (t:=.one 3) (fi:=lv (d<$>6) aIg) (fb:=xs (d<$>6) aIj) (env:=eK (K<*(aH*>nD)) (F*>Ft.d) ↑S qx qx (J (.d (K*>Rw.d))) (J (.d (aH*>nD))) qx qx) (S:=S++[J ((yAg ↑K 0).map nD)]) (ds:=aH.map nD)
  (λ j env S'=>∃ c3:Oz W,Bd K ((aH.take j).foldl (eA K) (yAg ↑K 0))/\env=eK (K<*(aH*>nD)) (F*>Ft.d) ↑S c3 qx (J (.d (K*>Rw.d))) (J (.d (aH*>nD))) qx qx/\S'=S++[J (((aH.take j).foldl (eA K) (yAg ↑K 0)).map nD)])
  rfl (qx,aD8,U,U,) (by
   rintro j dd env S' hd ⟨c3,hb,rfl,rfl⟩;rw[yAe] at hd;let(q,hq,U):=Option.map_eq_some_iff.mp hd;let hql:=ho q (xAk hq);let hr:K[q]?=J K[q]:=yAa hql;rw[aBg (f:=eA K) (yAg ↑K 0) hq];generalize (aH.take j).foldl (eA K) (yAg ↑K 0)=N at *;exact(_,_,_,U,dW (qG (aT (aE (cT U U (uE (d+5) q hr _ _)) aQ) (dL (d+5) _ (by have:=(p.ws q _ hr).2;omega) _)) {} {} (xL S _ q _ (by rw[hb.l];exact hql))),_,aEv hb hql,U,by rw[aID hr],))
 rw[yAf,yAb] at hb0 p1;let(env2,S2,p2,c4,c7,c8,M,hb,hM,U,U):=jF (t:=.one 4) (fi:=lv (d<$>6) aIO) (fb:=xs (d<$>6) aIu) (env:=eK (K<*(aH*>nD)) (F*>Ft.d) ↑S c3 qx (J (.d (K*>Rw.d))) (J (.d (aH*>nD))) qx qx) (S:=S++[J ((aCI K aH).map nD)]) (S1:=S++[J ((aCI K aH).map nD)]) (ds:=mT ((↑K:_)-1) ↑K)
  (λ j env S'=>∃ (c4 c7 c8:Oz W) (M:G Nat),Bd K M/\nJ K F (↑K-j) M=vB K F aH/\env=eK (K<*(aH*>nD)) (F*>Ft.d) ↑S c3 c4 (J (.d (K*>Rw.d))) (J (.d (aH*>nD))) c7 c8/\S'=S++[J (M.map nD)])
  (bBZ (cZ {} lR) ())
  (qx,qx,qx,aCI K aH,hb0,U,U,U,) (by
   rintro j dd env S' hd ⟨c4,c7,c8,M,hb,hM,rfl,rfl⟩;let hj:j<↑K:=by
    have:=(gIm hd).1;rw[tF] at this;exact this
   rw[aDq _ _ j hj,cs1 hj] at hd;cases hd;let(c7',c8',hb',e):=aQy d p (yAa (show ↑K-1-j<↑K by omega)) hF (aH*>nD) S hb c3 (J (.d (K*>Rw.d))) (J (.d (aH*>nD))) c7 c8;refine(_,_,_,U,dW e,_,_,_,_,hb',?_,U,U,);rw[<- hM,show ↑K-j=(↑K-1-j)+1 by omega,show ↑K-(j+1)=↑K-1-j by omega]
   rfl)
 rw[tF,yBe] at hM;let hM:M=vB K F aH:=hM;rw[hM] at hb p2;exact(hb,aV U U U (bX (iV {} U) (bA (kS (bAH U (cZ {} lR) ())) U (bX (hV p1) (bX (hV p2) (aN (gB (aE {} aQ) (gY (dM (rC _ _)) iA) U)))))) yHk,)
def aRr{α:Type}(g:α->Bool)(l:List α):lI (l.map λ x=>Bz (g x))=J (l.map g):=by
 induction l with
 |nil=>rfl|cons x r ih=>simp only[yAm,lI,ih,yCd]
def aVT{α:Type}(g:α->Bool)(l:List α):zY [.list (l.map λ x=>Bz (g x))]=J (.bool (l.any g)):=by simp only[aX8,aRr,oB];simp_all
def aBJ{M:G Nat}(h:i<↑M):bM (M*>nD) (.int i)=J (.int ((M.getD i 0:Nat):Int)):=dP (by rw[yAe,xN h];rfl)
def aDJ{n j:Nat}{dd:D}(h:((yBk n).map λ k=>Iz (k:_))[j]?=J dd):j<n/\dd=.int j:=by
 let hj:j<n:=by
  have:=(gIm h).1;simpa using this
 rw[yAe,List.getElem?_range hj] at h;cases h;exact(hj,U,)
def Sb(a b:Nat):Prop:=∀ i,a[i]! =Z->b[i]! =Z
def Sb.refl(a:Nat):Sb a a:=λ _ h=>h
def aJs:∀ (l:G (Nat×Nat)) (M:G Nat) (i:Nat),(∀ q∈l,q.1≠i)->(l.foldl cY M).getD i 0=M.getD i 0
 |[],_,_,_=>rfl
 |q::l,M,i,h=>by
   show(l.foldl cY (cY M q)).getD i 0=_;rw[aJs l (cY M q) i λ x hx=>h x (xAf _ hx)];unfold cY;exact tI (h q xAc)
def xK(hr:K[k]?=J r):gD K F M k=(eJ K F r (M.getD k 0)).foldl cY M:=by unfold gD;rw[hr]
def aKY(p:Prg K)(hk:k<↑K)(h:Bd K M):Bd K (gD K F M k):=by let hr:K[k]?=J K[k]:=yAa hk;rw[xK hr];exact aMl p hr (h.lt k _ hr) _ M (λ q hq=>hq) h
def aJy(p:Prg K)(h:Bd K M)(hi:k<=i)(hk:k<↑K):(gD K F M k).getD i 0=M.getD i 0:=by
 let hr:K[k]?=J K[k]:=yAa hk;rw[xK hr];refine aJs _ M i λ q hq=>?_
 have:=(rN p hr (h.lt k _ hr) q hq).1;omega
section
variable {K:List Rw}{F:List Ft}
def aJq(p:Prg K):∀ (k:Nat) (M:G Nat) (i:Nat),Bd K M->k<=↑K->k<=i+1->(nJ K F k M).getD i 0=M.getD i 0
 |0,_,_,_,_,_=>rfl
 |k+1,M,i,h,hk,hi=>by
   show(nJ K F k (gD K F M k)).getD i 0=_;rw[aJq p k _ i (aKY p () h) () (),aJy p h () ()]
end
def bBN(n b:Nat):((((n/2^b)&&&1:Nat):Int)==1)=n[b]!:=by
 rw[aO4,Nat.and_one_is_mod,yGc]
 grind
def xQ{a b:Nat}(h:∀ i,i<L->a[i]! =b[i]!):∃ q:Int,(a:_)=(b:Nat)+(2^L:_)*q:=by
 let e:a%2^L=b%2^L:=by
  apply xAl;intro i;rw[yAk,yAk];by_cases c:i<L
  .rw[h i c]
  .rw[dqF c,yAw,yAw]
 let h1:=yFd a (2^L);let h2:=yFd b (2^L);refine((a/2^L:_)-(b/2^L:_),?_,);rw[Int.mul_sub,<- yCk,<- yCk];generalize 2^L*(a/2^L)=x at *;generalize 2^L*(b/2^L)=y at *;omega
def aBY(ha:a<2^v)(hb:b<2^v)(h:∀ i,i<v->a[i]! =b[i]!):a=b:=by
 apply xAl;intro i;by_cases c:i<v
 .exact h i c
 .rw[cS ha (),cS hb ()]
def aMz(x:Int)(ht:t<w):(cH x w)[t]! =(cH x (t+1))[t]!:=by rw[<- aEV x (show t+1<=w by omega),yAk,dqT (show t<t+1 by omega),yAp]
def aEk{x y q:Int}(ht:t<w)(hh:t<h)(e:x=y+(2^h:_)*q):(cH x w)[t]! =(cH y w)[t]!:=by
 rw[aMz x ht,aMz y ht];let e2:x=y+(2^(t+1):_)*(((2^(h-(t+1)):Nat):Int)*q):=by
  rw[e,<- Int.mul_assoc,<- yCk,<- yEq,yEr (show t+1<=h by omega)]
 rw[e2,aW9]
def aJI{a:Nat}(h:∀ i,i<u->a[i]! =Ff):∃ y:Int,(a:_)=(2^u:_)*y:=by
 let(q,e):=@xQ u a 0 λ i hi=>by rw[h i hi,yBh]
 exact(q,by rw[e];omega,)
def vK(fs:G Fc)(ns:G Nat):Prop:=∀ c i,((fs.getD c default).N[i]! =Z->(g0 ns c)[i]! =Ff)/\((fs.getD c default).O[i]! =Z->(g0 ns c)[i]! =Z)
def Ag(want os ns:G Nat):Prop:=∀ c i,(want.getD c 0)[i]! =Z->(g0 os c)[i]! =(g0 ns c)[i]!
def an6:∀ n p a b c e:Bool,((!(p && !n))=Z->c=a)->((!n)=Z->e=b)->(n=Z->a=Ff)->(p=Z->b=Ff)->(c&&e)=(a&&b):=by decide
def or6:∀ n p a b c e:Bool,((!(p && !n))=Z->c=a)->((!n)=Z->e=b)->(n=Z->a=Z)->(p=Z->b=Z)->(c||e)=(a||b):=by decide
section
variable {w kk m t:Nat}{fs:List Fc}(hm:m<2 ^ w)(ht:m[t]! =Z)
include hm ht
theorem sE:t<w:=by
 by_cases c:t<w
 .exact c
 .rw[cS hm ()] at ht;cases ht
theorem jA:m≠0:=λ h=>by rw[h,yBh] at ht;cases ht
theorem aYB(ha:a<2^w)(hb:b<2^w)(ag:Ag (bR .not w kk [w] fs m) [b] [a]):(2^w-1-b)[t]! =(2^w-1-a)[t]!:=by
 let h0:=jA hm ht;let e:(bR .not w kk [w] fs m).getD 0 0=m:=by unfold bR;rw[if_neg h0];rfl
 let q:b[t]! =a[t]!:=ag 0 t (by rw[e];exact ht);let tl:=sE hm ht;let c1:=mR hb t;let c2:=mR ha t;unfold pK at c1 c2;rw[c1,c2,q]
theorem aTQ(ag:Ag (bR .left w kk [w] fs m) [b] [a]):(b*2^kk%2^w)[t]! =(a*2^kk%2^w)[t]!:=by
 let h0:=jA hm ht;let e:(bR .left w kk [w] fs m).getD 0 0=m/2^kk:=by unfold bR;rw[if_neg h0];rfl
 rw[yAk,yAk,aBa,aBa];by_cases c:kk<=t
 .have q:b[(t-kk)]! =a[(t-kk)]!:=ag 0 (t-kk) (by rw[e,fN,show kk+(t-kk)=t by omega];exact ht);rw[q]
 .rw[dqF c,yAw,yAw]
theorem aSY(ha:a<2^w)(hb:b<2^w)(ag:Ag (bR .right w kk [w] fs m) [b] [a]):(b/2^kk)[t]! =(a/2^kk)[t]!:=by
 let h0:=jA hm ht;let e:(bR .right w kk [w] fs m).getD 0 0=(m*2^kk)&&&(2^w-1):=by unfold bR;rw[if_neg h0];rfl
 rw[fN,fN];by_cases c:kk+t<w
 .exact ag 0 (kk+t) (by rw[e,yAi,dF,aBa,dqT c,dqT (show kk<=kk+t by omega),show kk+t-kk=t by omega,ht];rfl)
 .rw[cS ha (),cS hb ()]
theorem aKp{f a b:Nat}(hv:1<=v)(hj:f[j]! =Z)(ag:∀ i,(kQ f v)[i]! =Z->b[i]! =a[i]!):(if j<v then b[j]! else b[(v-1)]!)=(if j<v then a[j]! else a[(v-1)]!):=by
 by_cases c:j<v
 .rw[if_pos c,if_pos c];exact ag j ((aDS hv).mpr (.inl (c,hj,)))
 .rw[if_neg c,if_neg c];exact ag (v-1) ((aDS hv).mpr (.inr (U,j,(),hj,)))
theorem aRV(hw:1<=w)(ha:a<2^w)(hb:b<2^w)(ag:Ag (bR .slide w kk [w] fs m) [b] [a]):(cI b w (w+kk)/2^kk)[t]! =(cI a w (w+kk)/2^kk)[t]!:=by
 let h0:=jA hm ht;let tl:=sE hm ht;let e:(bR .slide w kk [w] fs m).getD 0 0=kQ (m*2^kk) w:=by unfold bR;rw[if_neg h0];rfl
 let hj:(m*2^kk)[(kk+t)]! =Z:=by rw[aBa,dqT (show kk<=kk+t by omega),show kk+t-kk=t by omega,ht];rfl
 let q:=aKp hm ht (v:=w) (a:=a) (b:=b) hw hj λ i hi=>ag 0 i (by rw[e];exact hi)
 rw[fN,fN,fX hb hw (),fX ha hw (),dqT (show kk+t<w+kk by omega),yAp,yAp];exact q
theorem aUi(hv:1<=v)(hvw:v<=w)(ha:a<2^v)(hb:b<2^v)(ag:Ag (bR .sign w kk [v] fs m) [b] [a]):(cI b v w)[t]! =(cI a v w)[t]!:=by
 let h0:=jA hm ht;let tl:=sE hm ht;let e:(bR .sign w kk [v] fs m).getD 0 0=kQ m v:=by unfold bR;rw[if_neg h0];rfl
 let q:=aKp hm ht (v:=v) (a:=a) (b:=b) hv ht λ i hi=>ag 0 i (by rw[e];exact hi)
 rw[fX hb hv hvw,fX ha hv hvw,dqT tl,yAp,yAp];exact q
theorem aWC(ag:Ag (bR .cut w kk [v] fs m) [b] [a]):(b%2^w)[t]! =(a%2^w)[t]!:=by
 let h0:=jA hm ht;let e:(bR .cut w kk [v] fs m).getD 0 0=m:=by unfold bR;rw[if_neg h0];rfl
 let q:b[t]! =a[t]!:=ag 0 t (by rw[e];exact ht);rw[yAk,yAk,q]
theorem aTK(ha:a<2^v)(hb:b<2^v)(ag:Ag (bR .wide w kk [v] fs m) [b] [a]):b[t]! =a[t]!:=by
 let h0:=jA hm ht;let e:(bR .wide w kk [v] fs m).getD 0 0=m&&&(2^v-1):=by unfold bR;rw[if_neg h0];rfl
 by_cases c:t<v
 .exact ag 0 t (by rw[e,yAi,dF,ht,dqT c];rfl)
 .rw[cS ha (),cS hb ()]
theorem aYD(ag:Ag (bR .xor w kk ws fs m) [c,e] [a,b]):(c^^^e)[t]! =(a^^^b)[t]!:=by
 let h0:=jA hm ht;let e0:(bR .xor w kk ws fs m).getD 0 0=m:=by unfold bR;rw[if_neg h0];rfl
 let e1:(bR .xor w kk ws fs m).getD 1 0=m:=by unfold bR;rw[if_neg h0];rfl
 let q:c[t]! =a[t]!:=ag 0 t (by rw[e0];exact ht);let r:e[t]! =b[t]!:=ag 1 t (by rw[e1];exact ht);rw[yAr,yAr,q,r]
theorem aYF(F:vK fs [a,b])(ag:Ag (bR .and w kk ws fs m) [c,e] [a,b]):(c&&&e)[t]! =(a&&&b)[t]!:=by
 let h0:=jA hm ht;let e0:(bR .and w kk ws fs m).getD 0 0=dQ m (dQ (fs.getD 1 default).N (fs.getD 0 default).N):=by unfold bR;rw[if_neg h0];rfl
 let e1:(bR .and w kk ws fs m).getD 1 0=dQ m (fs.getD 0 default).N:=by unfold bR;rw[if_neg h0];rfl
 let g0':=ag 0 t;let g1':=ag 1 t;let f0:=(F 0 t).1;let f1:=(F 1 t).1;rw[e0,nV,nV,ht,yAp] at g0';rw[e1,nV,ht,yAp] at g1';change _->c[t]! =a[t]! at g0';change _->e[t]! =b[t]! at g1';change _->a[t]! =Ff at f0;change _->b[t]! =Ff at f1;rw[yAi,yAi];exact an6 _ _ _ _ _ _ g0' g1' f0 f1
theorem aYJ(F:vK fs [a,b])(ag:Ag (bR .or w kk ws fs m) [c,e] [a,b]):(c|||e)[t]! =(a|||b)[t]!:=by
 let h0:=jA hm ht;let e0:(bR .or w kk ws fs m).getD 0 0=dQ m (dQ (fs.getD 1 default).O (fs.getD 0 default).O):=by unfold bR;rw[if_neg h0];rfl
 let e1:(bR .or w kk ws fs m).getD 1 0=dQ m (fs.getD 0 default).O:=by unfold bR;rw[if_neg h0];rfl
 let g0':=ag 0 t;let g1':=ag 1 t;let f0:=(F 0 t).2;let f1:=(F 1 t).2;rw[e0,nV,nV,ht,yAp] at g0';rw[e1,nV,ht,yAp] at g1';change _->c[t]! =a[t]! at g0';change _->e[t]! =b[t]! at g1';change _->a[t]! =Z at f0;change _->b[t]! =Z at f1;rw[xAo,xAo];exact or6 _ _ _ _ _ _ g0' g1' f0 f1
theorem aLW{wd:Wd}(aP:wd=.add\/wd=.sub)(ag:Ag (bR wd w kk ws fs m) [c,e] [a,b]):(∃ q:Int,(c:_)=(a:Nat)+((2^bl m:Nat):Int)*q)/\∃ q:Int,(e:_)=(b:Nat)+((2^bl m:Nat):Int)*q:=by
 let h0:=jA hm ht;let e0:(bR wd w kk ws fs m).getD 0 0=2^bl m-1:=by unfold bR;rw[if_neg h0];rcases aP with rfl|rfl<;>rfl
 let e1:(bR wd w kk ws fs m).getD 1 0=2^bl m-1:=by unfold bR;rw[if_neg h0];rcases aP with rfl|rfl<;>rfl
 exact(xQ λ i hi=>ag 0 i (by rw[e0,dF,dqT hi]),xQ λ i hi=>ag 1 i (by rw[e1,dF,dqT hi]),)
theorem aXs(ag:Ag (bR .add w kk ws fs m) [c,e] [a,b]):(cH ((c:Nat)+(e:Nat):Int) w)[t]! =(cH ((a:Nat)+(b:Nat):Int) w)[t]!:=by let((q,e1),r,e2):=aLW hm ht (.inl U) ag;refine aEk (q:=q+r) (sE hm ht) (aFl ht) ?_;rw[e1,e2,Int.mul_add];omega
theorem aVM(ag:Ag (bR .sub w kk ws fs m) [c,e] [a,b]):(cH ((c:Nat)-(e:Nat):Int) w)[t]! =(cH ((a:Nat)-(b:Nat):Int) w)[t]!:=by let((q,e1),r,e2):=aLW hm ht (.inr U) ag;refine aEk (q:=q-r) (sE hm ht) (aFl ht) ?_;rw[e1,e2,Int.mul_sub];omega
theorem aVQ(F:vK fs [a,b])(ag:Ag (bR .mul w kk ws fs m) [c,e] [a,b]):(cH ((c:Nat)*(e:Nat):Int) w)[t]! =(cH ((a:Nat)*(b:Nat):Int) w)[t]!:=by
 let h0:=jA hm ht;let e0:(bR .mul w kk ws fs m).getD 0 0=2^(bl m-min (bl m) (lr (fs.getD 1 default).N))-1:=by unfold bR;rw[if_neg h0];rfl
 let e1:(bR .mul w kk ws fs m).getD 1 0=2^(bl m-min (bl m-min (bl m) (lr (fs.getD 1 default).N)) (lr (fs.getD 0 default).N))-1:=by unfold bR;rw[if_neg h0];rfl
 obtain⟨u,hu⟩:∃ u,u=min (bl m) (lr (fs.getD 1 default).N):=(_,U,);obtain⟨g,hg⟩:∃ g,g=min (bl m-u) (lr (fs.getD 0 default).N):=(_,U,);rw[<- hu] at e0 e1;rw[<- hg] at e1;let a0:∀ i,i<bl m-u->c[i]! =a[i]!:=λ i hi=>ag 0 i (by rw[e0,dF,dqT hi])
 let a1:∀ i,i<bl m-g->e[i]! =b[i]!:=λ i hi=>ag 1 i (by rw[e1,dF,dqT hi])
 let zb:∀ i,i<u->b[i]! =Ff:=λ i hi=>(F 1 i).1 (tU (xAb hi (hu▸yDd _ _)))
 let za:∀ i,i<g->a[i]! =Ff:=λ i hi=>(F 0 i).1 (tU (xAb hi (hg▸yDd _ _)))
 let gu:g<=bl m-u:=hg▸yCa _ _;let ub:u<=bl m:=hu▸yCa _ _;let(q,eq):=xQ a0;let(r,er):=xQ a1;let(y,ey):=@aJI u e λ i hi=>by rw[a1 i (xAb hi (Nat.le_sub_of_add_le (yDn g u▸Nat.add_le_of_le_sub ub gu)))];exact zb i hi
 let(z,ez):=aJI za;let p1:((2^(bl m-u):Nat):Int)*(2^u:_)=((2^bl m:Nat):Int):=by rw[<- yCk,<- yEq,Nat.sub_add_cancel ub]
 let p2:(2^g:_)*((2^(bl m-g):Nat):Int)=((2^bl m:Nat):Int):=by rw[<- yCk,<- yEq,yEr (xAh gu (yDx _ _))]
 refine aEk (q:=q*y+z*r) (sE hm ht) (aFl ht) ?_;generalize ((2^(bl m-u):Nat):Int)=P1 at *;generalize ((2^(bl m-g):Nat):Int)=P2 at *;generalize ((2^bl m:Nat):Int)=P at *;generalize (2^u:_)=Q1 at *;generalize (2^g:_)=Q2 at *;generalize (a:Int)=A at *;generalize (b:Int)=B at *;generalize (c:Int)=C at *;generalize (e:Int)=E' at *;calc C*E'=A*E'+P1*q*E':=by rw[eq,Int.add_mul]
  _=A*(B+P2*r)+P1*q*(Q1*y):=by rw[<- er,<- ey]
  _=A*B+Q2*z*(P2*r)+P1*q*(Q1*y):=by rw[Int.mul_add,<- ez]
  _=A*B+P*(q*y+z*r):=by
   let h1:Q2*z*(P2*r)=P*(z*r):=by rw[<- p2];simp only[Int.mul_assoc,Int.mul_left_comm]
   let h2:P1*q*(Q1*y)=P*(q*y):=by rw[<- p1];simp only[Int.mul_assoc,Int.mul_left_comm]
   rw[h1,h2,Int.mul_add];omega
theorem aX5{wd:Wd}(aP:wd=.same\/wd=.less\/wd=.under)(ha:a<2^v)(hb:b<2^v)(hc:c<2^v)(he:e<2^v)(ag:Ag (bR wd w kk [v,v] fs m) [c,e] [a,b]):c=a/\e=b:=by
 let h0:=jA hm ht;let e0:(bR wd w kk [v,v] fs m).getD 0 0=2^v-1:=by unfold bR;rw[if_neg h0];erw[50,aP]<;>rfl
 let e1:(bR wd w kk [v,v] fs m).getD 1 0=2^v-1:=by unfold bR;rw[if_neg h0];erw[50,aP]<;>rfl
 exact(aBY hc ha λ i hi=>ag 0 i (by rw[e0,dF,dqT hi]),aBY he hb λ i hi=>ag 1 i (by rw[e1,dF,dqT hi]),)
theorem aVn(hz:z<2^1)(hz':z'<2^1)(F:vK fs [z,a,b])(ag:Ag (bR .pick w kk ws fs m) [z',c,e] [z,a,b]):(if z'=1 then c else e)[t]! =(if z=1 then a else b)[t]!:=by
 let h0:=jA hm ht;let en:bR .pick w kk ws fs m=if (fs.getD 0 default).O=1 then [1,m,0] else if (fs.getD 0 default).N=1 then [1,0,m] else [1,m,m]:=by unfold bR;rw[if_neg h0]
 let e0:(bR .pick w kk ws fs m).getD 0 0=1:=by rw[en];split;rfl;split<;>rfl
 let ez:z'=z:=aBY hz' hz λ i hi=>ag 0 i (by rw[e0,show i=0 by omega];rfl)
 subst ez;let o1:(fs.getD 0 default).O=1->z'=1:=λ h=>by
  have:=(F 0 0).2 (by rw[h];rfl);let q:z'[0]! =Z:=this;rcases (show z'=0\/z'=1 by omega) with rfl|rfl
  .cases q
  .rfl
 let n1:(fs.getD 0 default).N=1->z'≠1:=λ h=>by
  have:=(F 0 0).1 (by rw[h];rfl);let q:z'[0]! =Ff:=this;rintro rfl;cases q
 by_cases c1:z'=1
 .rw[if_pos c1,if_pos c1];refine ag 1 t ?_;rw[en];split
  .exact ht
  .rw[if_neg λ h=>n1 h c1];exact ht
 .rw[if_neg c1,if_neg c1];refine ag 2 t ?_;rw[en,if_neg λ h=>c1 (o1 h)];split
  .exact ht
  .exact ht
end
def aWW{wd:Wd}{os:G Nat}(h:RwOk (wd,w,args,) ws)(hk:yB wd args kk)(hm:m<2^w)(ht:m[t]! =Z)(ln:lD ws ns)(lo:lD ws os)(F:vK fs ns)(ag:Ag (bR wd w kk ws fs m) os ns):(cV (wd,w,args,) ws os)[t]! =(cV (wd,w,args,) ws ns)[t]!:=by
 cases h with
 |inp=>rfl|num=>rfl
 |nt h1 h2=>
   let(a,U,ha):=gE ln;let(b,U,hb):=gE lo;exact aYB hm ht ha hb ag
 |sh h1 h2 aP hk'=>
   rename_i a0 k;let(a,U,ha):=gE ln;let(b,U,hb):=gE lo;let ek:k=kk:=by
    erw[50,aP]
    all_goals
     let(a1,e,_):=hk;injection e with _ e
     injection e
   subst ek;erw[50,aP]
   .exact aTQ hm ht ag
   .exact aSY hm ht ha hb ag
   .exact aRV hm ht h1 ha hb ag
 |cut h1 hv h2=>
   let(a,U,ha):=gE ln;let(b,U,hb):=gE lo;exact aWC hm ht ag
 |wide h1 hv h2=>
   let(a,U,ha):=gE ln;let(b,U,hb):=gE lo;exact aTK hm ht ha hb ag
 |sign h1 hv h2=>
   let(a,U,ha):=gE ln;let(b,U,hb):=gE lo;exact aUi hm ht h1 hv ha hb ag
 |bw h1 h2 aP=>
   let(a,b,U,ha,hb):=mC ln;let(c,e,U,hc,he):=mC lo;erw[50,aP]
   .exact aYF hm ht F ag
   .exact aYJ hm ht F ag
   .exact aYD hm ht ag
 |sm h1 h2=>
   rename_i s _ _;let(a,b,U,ha,hb):=mC ln;let(c,e,U,hc,he):=mC lo;cases s with
   |add=>exact aXs hm ht ag|sub=>exact aVM hm ht ag|mul=>exact aVQ hm ht F ag
 |cmp h1 h2 aP=>
   let(a,b,U,ha,hb):=mC ln;let(c,e,U,hc,he):=mC lo;let(U,U):=aX5 hm ht aP ha hb hc he ag;rfl
 |pick h1 h2=>
   let(z,a,b,U,hz,ha,hb):=aCy ln;let(z',c,e,U,hz',hc,he):=aCy lo;exact aVn hm ht hz hz' F ag
def aRW{K:G Rw}{F:G Ft}{is:G Nat}(p:Prg K)(s:Snd K F)(hF:↑F=↑K)(hi:cM K is){k:Nat}{r:Rw}(hr:K[k]?=J r):vK (mN r F) (bE r (cN K (~~~K) is [])):=λ c i=>by
 let(f1,f2):=p.fit k r hr;let hk:k<↑K:=(gIm hr).1;unfold mN fQ bE g0;rw[yBa,xAg,xAg,yAe,yAe];cases e:(r.args.take (aZ r.wd))[c]? with
 |none=>exact(λ z=>absurd z (by rw[show((yIc _ qx:Oz Fc).getD default).N=0 from U,yBh];decide),λ z=>absurd z (by rw[show((yIc _ qx:Oz Fc).getD default).O=0 from U,yBh];decide),)
 |some a=>
   let ha:=f2 a (xAk e);let hw:=@pT a (K.map (·.w)) (by rw[yAf];omega);let hn:=@pT a (cN K (~~~K) is []) (by rw[aEb p hi];omega);let(h1,h2,_):=s.hold is hi a _ _ _ (jS ()) hw hn;exact(h1 i,h2 i,)
def aL7{f g:Ft}(hN:∀ i,f.N[i]! =Z->g.N[i]! =Z)(hO:∀ i,f.O[i]! =Z->g.O[i]! =Z)(hA:f.A<=g.A):vO f g=Z:=by unfold vO;rw[(aDC f.N g.N).mpr hN,(aDC f.O g.O).mpr hO,dqT hA];rfl
def vR(K:G Rw)(F:G Ft):Prop:=∀ (i:Nat) (r:Rw),i<↑F->K[i]?=J r->∃ g,(∀ d S,cl fns (d+7) 49 [.d r.d,.d (Tz ((bE r (~~~K)).map nD)),.d (Tz ((fQ r F).map Ft.d))] S=J (.d g.d,S))/\vO (f0 F i) g=Z
def aSV(p:Prg K)(h:vR K F)(hr:K[↑F]?=J r)(nx:Nx K F ↑F r g)(hw:vO f g=Z):vR K (F++[f]):=λ i q hi hq=>by
 by_cases c:i<↑F
 .let(g',h1,h2):=h i q c hq;refine(g',?_,by rw[aL9 c];exact h2,);rw[aDY λ a ha=>by have:=(p.fit i q hq).2 a ha;omega];exact h1
 .have ci:i=↑F:=by simp at hi;omega
  subst ci;rw[hr] at hq;cases hq;refine(g,?_,by rw[aMk];exact hw,);rw[aDY λ a ha=>(p.fit _ r hr).2 a ha];exact nx.rule
def aRH(d:Nat){F:G Ft}(p:Prg K)(hl:↑F=↑K)(hw:vR K F)(o:D)(S:aD):cl fns (d+9) 51 [.d (K<*o),.d (F*>Ft.d)] S=J (.d .none,S):=by
 let i0:bM (K<*o) (.int 0)=J (K*>Rw.d):=rfl;let pl:=p.l;let(aW,S',p1,c3,c4,U,U):=jF (t:=.many [3,4]) (fi:=lv (d<$>8) aA5) (fb:=xs (d<$>8) aA3) (env:=[J (.d (K<*o)),J (.d (F*>Ft.d)),J (.d (Tz ((~~~K).map nD))),qx,qx]) (S:=S) (S1:=S) (ds:=(K.map Rw.d).zipIdx.map (λ q=>Tz [.int (q.2:Nat),q.1]))
  (λ j env S'=>∃ c3 c4:Oz W,env=[J (.d (K<*o)),J (.d (F*>Ft.d)),J (.d (Tz ((~~~K).map nD))),c3,c4]/\S'=S)
  (by
    simp only[aA5,zK,xI,xC,xM,yN,yO,xD];exact aHn (by erw[20,i0])) (qx,qx,U,U,) (by
    rintro j dd env S' hd ⟨c3,c4,rfl,rfl⟩;obtain⟨r,hr,rfl⟩:∃ r,K[j]?=J r/\dd=.tuple [.int j,r.d]:=by
     simp only[yAe,yGp,Option.map_map] at hd;let(r,h1,h2):=Option.map_eq_some_iff.mp hd;exact(r,h1,by rw[<- h2];simp,)
    let hj:j<↑K:=(gIm hr).1;let hWl:↑(~~~K)=↑K:=yAf ..;let(f1,f2):=p.fit j r hr;let(g,rl,wk):=hw j r () hr;let o1:=aEd (d+6) r (~~~K) S' λ a ha=>by have:=f2 a ha;omega
    let o2:=tL (d+6) r (.d (F*>Ft.d)) (F*>Ft.d) (λ a=>(f0 F a).d) S' (λ _=>rfl) λ a ha=>dP (by rw[yAe,jS (by have:=f2 a ha;omega)];rfl)
    let o2':cl fns (d+8) 9 [.d r.d,.d (F*>Ft.d)] S'=J (.d (Tz ((fQ r F).map Ft.d)),S'):=by
     rw[o2,fQ,yBa];rfl
    let e3:bM (F*>Ft.d) (.int j)=J (f0 F j).d:=dP (by rw[yAe,jS ()];rfl)
    let e4:=aRl (d+7) (f0 F j) g S';rw[wk] at e4;refine(_,[J (.d (K<*o)),J (.d (F*>Ft.d)),J (.d (Tz ((~~~K).map nD))),(j:),J (.d r.d)],S',U,?_,_,_,U,U,);erw[20,aA3,e3,o1,o2',rl (d+1),e4])
 let p1':kW (.many [3,4]) (lv (d<$>8) aA5) (xs (d<$>8) aA3) [J (.d (K<*o)),J (.d (F*>Ft.d)),J (.d (Tz ((~~~K).map nD))),qx,qx] S'=J (.nx [J (.d (K<*o)),J (.d (F*>Ft.d)),J (.d (Tz ((~~~K).map nD))),c3,c4],S'):=p1;rw[dU U (d+8) _ S' U];let hq6:=aDl (d+7) K o ();erw[11,aHK,hq6,p1']
def aUI(oo:Own K O):vR K O:=λ i r hi hr=>by
 let(g,U,nx):=oo i r hi hr;exact(_,nx.rule,aL7 (λ _ h=>h) (λ _ h=>h) (yAd _),)
def aRT{x:Int}(d w:Nat)(T:aD)(hT:↑T<=40)(f:Ft)(hf:FtOk f w)(hw:w<=64)(hk:k<=90000):∃ (g:Ft) (k':Nat) (x':Int),FtOk g w/\(∀ i,g.N[i]! =Z->f.N[i]! =Z)/\(∀ i,g.O[i]! =Z->f.O[i]! =Z)/\g.A<=f.A/\k'<=k+6/\cl fns (d+3) 98 [.loc 0,.d f.d,.d (Iz w)] (sT T ns k x)=J (.d g.d,sT T ns k' x'):=by
 let(q,x1,hq,e1):=@jH k ns x T hT (d+1) 3 (·) (·) ();let e1':cl fns (d+2) 84 [.loc 0,.d (Iz 3)] (sT T ns k x)=J (.d (Iz q),sT T ns (k+1) x1):=e1;let tk:∀ (k':Nat) (x':Int),yFk (yFp T+1) (sT T ns k' x')=sT T ns k' x':=λ k' x'=>by
  rw[show ↑T+1=↑(sT T ns k' x') from U,yAb]
 let fa:=hf.a1;let fw:=hf.aw;by_cases c:0<q
 .have d1:decide ((0:Int)<(q:Int))=Z:=dqT ();refine(f,k+1,x1,hf,λ _ h=>h,λ _ h=>h,yAd _,(),?_,);rw[dU U (d+2) _ _ U];erw[11,aDj,e1',oF,d1,tk]
 .have d1:decide ((0:Int)<(q:Int))=Ff:=dqF ();let(n1,k2,x2,hn1,hk2,e2):=@aIZ (k+1) ns x1 T hT d w hw ();let(n2,k3,x3,hn2,hk3,e3):=@aIZ k2 ns x2 T hT d w hw ();let(u,x4,hu,e4):=@jH k3 ns x3 T hT (d+1) f.A () () ();let ea:(1:Int)+(u:Int)=(1+u:_):=();refine((f.N&&&(n1|||n2),f.O&&&(n1|||n2),1+u,),k3+1,x4,⟨xAi yCb hf.lN,xAi yCb hf.lO,by show 1<=1+u;omega,by show 1+u<=w;omega⟩,λ i h=>?_,λ i h=>?_,by show 1+u<=f.A;omega,(),?_,)
  .have h':(f.N&&&(n1|||n2))[i]! =Z:=h;rw[yAi,yBf] at h';exact h'.1
  .have h':(f.O&&&(n1|||n2))[i]! =Z:=h;rw[yAi,yBf] at h';exact h'.1
  .rw[dU U (d+2) _ _ U];erw[11,aDj,e1',oF,d1,e2,e3,fO,sA,zT,aF6,dB,e4,kM,ea,tk]
def aRM(F:G Ft)(f:Ft):(F++[f]).map Ft.d=F.map Ft.d++[f.d]:=by rw[yAu];rfl
def aRA{x:Int}(d:Nat)(K:G Rw)(o:D)(p:Prg K)(hk:k<=50000):∃ (F:G Ft) (k':Nat) (x':Int),↑F=↑K/\Snd K F/\vR K F/\k'<=k+1+6*↑K/\cl fns (d+10) 99 [.loc 0,.d (K<*o)] [J (bH ns k x)]=J (.d (F*>Ft.d),[J (bH ns k' x')]):=by
 let pl:=p.l;let(q,x1,hq,e1):=@jH k ns x [] (·) (d+8) 2 (·) (·) ();by_cases c:q=1
 .let(F,fl,fs,fo,eF):=aPH d K o p [J (bH ns (k+1) x1)];exact(F,k+1,x1,fl,fs,aUI fo,(),aV U U U (cJ (aU (aT (bV U aF) e1) aF (jK ())) (aN (bY U eF))) U,)
 .let(aW,S',p1,F,k',x',c3,c4,c5,fl,fs,fw,hk',U,U):=jF (t:=.one 3) (fi:=lv (d<$>9) aGV) (fb:=xs (d<$>9) aG3) (env:=[#[0],J (.d (K<*o)),#[1],qx,qx,qx,qx]) (S:=[J (bH ns (k+1) x1),J []]) (ds:=K.map Rw.d)
   (λ j env S'=>∃ (F:G Ft) (k':Nat) (x':Int) (c3 c4 c5:Oz W),↑F=j/\Snd K F/\vR K F/\k'<=k+1+6*j/\env=[#[0],J (.d (K<*o)),#[1],c3,c4,c5,qx]/\S'=[J (bH ns k' x'),J (F.map Ft.d)])
   rfl ([],k+1,x1,qx,qx,qx,U,aJ4 K,(λ i r hi=>absurd hi (yCy i)),(),U,U,) (by
    rintro j dd env S' hd ⟨F,k',x',c3,c4,c5,fl,fs,fw,hk',rfl,rfl⟩;rw[yAe] at hd;let(r,hr,U):=Option.map_eq_some_iff.mp hd;subst fl;let hj:↑F<↑K:=(gIm hr).1;let(w1,w2):=p.ws _ r hr;let(f1,f2'):=p.fit _ r hr;let ol:=tP r;let(g,nx):=aIo p fs hr (yAd _);let(vs,S2,ec,hS2,hI,hvl,hq):=@aJo [#[0],J (.d (K<*o)),#[1],J (.d r.d),c4,c5,qx] [J (bH ns k' x'),J (F.map Ft.d)] [J (bH ns k' x'),J (F.map Ft.d)] _ (.one 6) (lv (d<$>9) (.it (.call 7 (.cons (.var 3) .nil)))) (ev (d<$>9) (.ix (.var 2) (.var 6))) nD (λ _ S'=>S'=[J (bH ns k' x'),J (F.map Ft.d)]) (λ a v=>v=(f0 F a).d) (bP r) (uM (bY U (lG (d+8) r _))) (by rw[zq];omega) U (by
     intro a ha;refine(_,U,?_,);rintro i S3 aG hi hSl rfl;exact((f0 F a).d,_,bT {} {} (dM U) (mU (by rw[yAe,jS (f2' a ha)];rfl)),U,U,U,))
    subst hI;let ev1:vs=(fQ r F).map Ft.d:=by
     rw[aHZ hvl hq,fQ,yBa];rfl
    subst ev1;let hc:lv (d<$>9) aGW [#[0],J (.d (K<*o)),#[1],J (.d r.d),J (.d (Lz ((fQ r F).map Ft.d))),c5,qx] [J (bH ns k' x'),J (F.map Ft.d)]=J ((bE r (~~~K)).map nD,[J (bH ns k' x'),J (F.map Ft.d)]):=by
     unfold bE;rw[yBa];refine iU (fi:=lv (d<$>9) (.it (.call 7 (.cons (.var 3) .nil)))) (fe:=ev (d<$>9) (.ix (.ix (.ix (.var 1) (.int 0)) (.var 6)) (.int 1))) nD (nD ∘ g0 (~~~K)) (r.args.take (aZ r.wd)) (uM (bY U (lG (d+8) r _))) (by rw[zq];have:↑(r.args.take (aZ r.wd))<=3:=ol;omega) λ a ha=>(_,U,λ S'=>?_,)
     let haj:=f2' a ha;let hq:K[a]?=J K[a]:=yAa ();show _=J (W.d (nD (g0 (~~~K) a)),S');rw[iK hq];exact bT (bT (aM U U) {} U (dP (by rw[yAe,hq];rfl))) aF U (fG K[a])
    let rl:=nx.rule (d+2) [J (bH ns k' x'),J (F.map Ft.d)];let(f,k2,x2,fk,hN,hO,hA,hk2,ew):=@aRT k' ns x' (d+6) r.w [J (F.map Ft.d)] (by show 1<=40;decide) g nx.ok w2 ();let ap:=wN [J (bH ns k2 x2)] (F.map Ft.d) f.d (by rw[yAf];omega)
    exact(_,_,_,U,bX (tZ ec U) (bX (tZ hc U) (dW (fZ (gW {} (aT (aE {} (aE (aT (aE {} (aE (cZ {} U) (aE (cZ {} U) aQ))) rl) (aE (aM U (fG r)) aQ))) ew) ap)))),F++[f],k2,x2,_,_,_,by simp,aIX fs hr nx fk hN hO hA,aSV p fw hr nx (aL7 hN hO hA),(),U,by rw[aRM];rfl,))
  rw[yAf] at fl hk';exact(F,k',x',fl,fs,fw,hk',aV U U U (bW (aU (aT (bV U aF) e1) aF (kA ())) (bA (kS (eX aQ U (yAc U))) U (bX (hV p1) (aN (gB (aE {} aQ) (gY (dM U) iA) U))))) U,)
inductive Yw where
 |cut|nought|sign
 deriving DecidableEq
def Yw.s:Yw->Str
 |.cut => "cut" |.nought => "nought" |.sign => "sign"
def aEQ(a b:Yw):bO .Eq (.str a.s) (.str b.s)=J (.bool (decide (a=b))):=by cases a<;>cases b<;>kernel_rfl
def lb(wd:Yw)(kept:Nat)(f:Ft)(m w:Nat):Bool:=(m/2^kept==0)||(match wd with
 |.cut=>Ff|.nought=>dQ (m/2^kept) (f.N/2^kept)==0
 | .sign=>m[(kept-1)]!&&decide (w<kept+f.A))
def yD:Oz (Yw×Nat)->D
 |none=>.none|some (y,k)=>.tuple [.str y.s,.int k]
def aEg(d:Nat)(wd:Yw)(kept:Nat)(f:Ft)(m w:Nat)(hk:1<=kept)(hkw:kept<=w)(S:aD):cl fns (d+1) 52 [.d (Tz [Sz wd.s,Iz kept]),.d f.d,.d (Iz m),.d (Iz w)] S=J (.d (Bz (lb wd kept f m w)),S):=by
 let c1:bO .Eq (.str wd.s) (.str "nought")=J (.bool (decide (wd=.nought))):=aEQ wd .nought;let c2:bO .Eq (.str wd.s) (.str "sign")=J (.bool (decide (wd=.sign))):=aEQ wd .sign;let go:=λ {b:Bool} (e:xs (aI fns d) (bL (bL aDH)) [J (.d (Tz [Sz wd.s,Iz kept])),J (.d f.d),(m:),(w:),((m/2^kept:_):),J (.d (Sz wd.s)),(kept:)] S=J (.rt (.d (Bz b)),S))=>(aV U U U (bX (iV {} U) (bA (aJ {} {} (kN m kept)) U e)) yAb:cl fns (d+1) 52 [.d (Tz [Sz wd.s,Iz kept]),.d f.d,.d (Iz m),.d (Iz w)] S=J (.d (Bz b),S))
 unfold lb;by_cases q:m/2^kept=0
 .rw[beq_iff_eq.mpr q,Bool.true_or];exact go (cJ (aU {} aF (jK ())) (aN vA))
 rw[beq_eq_false_iff_ne.mpr q,yHq];let nq:=λ {b:Bool} (e:xs (aI fns d) (bL (bL (bL aDH))) [J (.d (Tz [Sz wd.s,Iz kept])),J (.d f.d),(m:),(w:),((m/2^kept:_):),J (.d (Sz wd.s)),(kept:)] S=J (.rt (.d (Bz b)),S))=>go (bW (aU {} aF (kA ())) e)
 cases wd with
 |cut=>exact nq (bW (kO U c1) (aN (uI (p:=Ff) (dX {} cC c2) U)))|nought=>exact nq (cJ (kO U c1) (aN (dX (aJ {} (aCB (aJ (aM U (sA f)) {} (kN f.N kept)) (rE _)) (rA _ _)) aF (by rw[gR,nP]))))
 |sign=>
   refine nq (bW (kO U c1) (aN (uI (p:=Z) (dX {} cC c2) (uI (p:=m[(kept-1)]!) (dX (aJ (aJ {} (aJ {} aF (@jC _ 1 hk)) (kN m _)) aF (aR1 _)) aF ?_) ?_))))
   .rw[gR,bBN]
   .cases m[(kept-1)]!
    .rfl
    .refine dX (aJ (aJ {} {} (eO _ _)) aF (kM _ _)) (aM U (aF6 f)) ?_;rw[rO];congr 2;rw[yAp,decide_eq_decide];omega
def sN(p:Nat->Bool):Nat->Nat->Nat
 |0,i=>i
 |n+1,i=>if p i=Z then i else sN p n (i+1)
def aKl(p:Nat->Bool):∀ n i,p (i+n)=Z->i<=sN p n i/\sN p n i<=i+n/\p (sN p n i)=Z/\∀ j,i<=j->j<sN p n i->p j=Ff
 |0,i,h=>(yAd _,yAd _,h,λ j h1 h2=>absurd h1 (yGn h2),)
 |n+1,i,h=>by
   unfold sN;by_cases c:p i=Z
   .rw[if_pos c];exact(yAd _,(),c,λ j h1 h2=>absurd h1 (yGn h2),)
   .rw[if_neg c];let(h1,h2,h3,h4):=aKl p n (i+1) (by rw[show i+1+n=i+(n+1) by omega];exact h);refine((),(),h3,λ j h5 h6=>?_,);by_cases e:i=j
    .subst e;exact Bool.eq_false_iff.mpr c
    .exact h4 j () h6
def lw(y:Yw)(f:Ft)(m w:Nat):Nat:=sN (λ k=>lb y k f m w) (w-1) 1
def aXb(h:m<2^w):lb y w f m w=Z:=by unfold lb;rw[Nat.div_eq_of_lt h];rfl
def aNm(y:Yw)(f:Ft)(hw:1<=w)(h:m<2^w):1<=lw y f m w/\lw y f m w<=w/\lb y (lw y f m w) f m w=Z/\∀ j,1<=j->j<lw y f m w->lb y j f m w=Ff:=by
 let(h1,h2,h3,h4):=aKl (λ k=>lb y k f m w) (w-1) 1 (by
  show lb y (1+(w-1)) f m w=Z;rw[show 1+(w-1)=w by omega]
  exact aXb h)
 exact(h1,by unfold lw;omega,h3,h4,)
def aDD:∀ l:G Nat,mS (l.map nD)=J (l.map λ n=>(n:_))
 |[]=>rfl
 |a::r=>by
   let ih:=aDD r;simp only[yAm,nD,mS];rw[show mS (r.map nD)=_ from ih,oB]
def aJF:∀ (l:G Nat) (a m:Nat),(m=a\/m∈l)->m<=a->(∀ b∈l,m<=b)->(l.map λ n=>(n:_)).foldl min (a:_)=(m:_)
 |[],a,m,h,_,_=>by
   simp_all
 |b::l,a,m,h,h1,h2=>by
   rw[yAm,yDq,show min (a:Int) (b:Int)=((min a b:Nat):Int) by omega];let hb:=h2 b xAc;refine aJF l (min a b) m ?_ () λ c hc=>h2 c (xAf _ hc)
   rcases h with rfl|h
   .exact .inl ()
   .rcases List.mem_cons.mp h with rfl|h
    .exact .inl ()
    .exact .inr h
def aL4{l:G Nat}{m:Nat}(h:m∈l)(h2:∀ b∈l,m<=b):kX [.list (l.map nD)]=J (.int m):=by
 let e:=aDD l;cases l with
 |nil=>cases h
 |cons a r=>
   let f:=aJF r a m (List.mem_cons.mp h) (h2 a xAc) λ b hb=>h2 b (xAf _ hb)
   rw[bAt,e,oB];exact congrArg (λ x=>J (Iz x)) f
def aRt(d:Nat)(y:Yw)(f:Ft)(m w:Nat)(cB:1<=w)(hw:w<=64)(hm:m<2^w)(S:aD):cl fns (d+2) 53 [.d (Sz y.s),.d f.d,.d (Iz m),.d (Iz w)] S=J (.d (Iz (lw y f m w:Nat)),S):=by
 let ea:(w:Int)+1=(w+1:_):=rfl;let hc:lv (d<$>1) aGQ [J (.d (Sz y.s)),J (.d f.d),(m:),(w:),qx] S=J ((((yBk w).filter λ k=>lb y (1+k) f m w).map λ k=>nD (1+k)),S):=by
  refine @aIU _ _ _ _ _ (lv (d<$>1) (.rng2 (.int 1) (.bin .Add (.var 3) (.int 1)))) (tv (d<$>1) (.call 52 (.cons (.tup (.cons (.var 0) (.cons (.var 4) .nil))) (.cons (.var 1) (.cons (.var 2) (.cons (.var 3) .nil)))))) (ev (d<$>1) (.var 4)) (λ k=>Iz (1+k:_)) (λ k=>nD (1+k)) (λ k=>lb y (1+k) f m w) (yBk w) ?_ (by rw[zq,yCi];omega) λ k hk=>?_
  .simp only[zK,xI,xC,xM,yN,yO,xD];have:=@aPw (ev (d<$>1) (.int 1)) (ev (d<$>1) (.bin .Add (.var 3) (.int 1))) [J (.d (Sz y.s)),J (.d f.d),(m:),(w:),qx] S S S 1 (w+1) U (by erw[20,kM,ea]) () ();rw[yFz] at this;exact this
  .have hk:=List.mem_range.mp hk;let l1:=λ S'=>aEg d y (1+k) f m w () () S'
   exact(_,U,λ S'=>nA U (aT (aE (fJ {} {}) (aE {} (aE {} (aE {} aQ)))) (l1 S')) U,λ _ S'=>rfl,)
 let(h1,h2,h3,h4):=aNm y f cB hm;let mn:kX [.list (((yBk w).filter λ k=>lb y (1+k) f m w).map λ k=>nD (1+k))]=J (.int (lw y f m w:Nat)):=by
  rw[show(((yBk w).filter λ k=>lb y (1+k) f m w).map λ k=>nD (1+k))=(((yBk w).filter λ k=>lb y (1+k) f m w).map λ k=>1+k).map nD by rw[yBa];rfl];refine aL4 (List.mem_map.mpr (lw y f m w-1,List.mem_filter.mpr (List.mem_range.mpr (),?_,),(),)) λ b hb=>?_
  .simp_all
  .let(k,hk,U):=List.mem_map.mp hb;refine yDg λ c=>?_
   have:=(List.mem_filter.mp hk).2;rw[h4 (1+k) () c] at this;cases this
 exact aV U U U (aN (cZ (eD hc) mn)) yAb
def fL(f:Ft)(m w:Nat):Nat:=min (lw .cut f m w) (min (lw .nought f m w) (lw .sign f m w))
def qR(f:Ft)(m w:Nat):Yw:=if lw .cut f m w=fL f m w then .cut else if lw .nought f m w=fL f m w then .nought else .sign
def bBS(a b c m:Nat)(h:m=a\/m=b\/m=c):([a,b,c].map λ n=>(n:_)).idxOf (m:_)=if a=m then 0 else if b=m then 1 else 2:=by
 let e:∀ x y:Nat,((x:_)==(y:_))=decide (x=y):=λ x y=>by
  rw[yCj,beq_iff_eq,decide_eq_true_eq];omega
 simp only[yAm,yEy,List.idxOf_cons,e];by_cases h1:a=m
 .rw[dqT h1,if_pos h1];rfl
 .rw[dqF h1,if_neg h1];by_cases h2:b=m
  .rw[dqT h2,if_pos h2];rfl
  .rw[dqF h2,if_neg h2];by_cases h3:c=m
   .rw[dqT h3];rfl
   .omega
def aUt(S:aD)(xs:G D)(k:Int):aAC S (.d (Lz xs)) (.d (Iz k))=(mS xs).bind λ ns=>if k∈ns then J (.d (Iz ((ns.idxOf k:Nat):Int)),S) else qx:=rfl
def aR3(d:Nat)(f:Ft)(m w:Nat)(cB:1<=w)(hw:w<=64)(hm:m<2^w)(S:aD):cl fns (d+3) 54 [.d f.d,.d (Iz m),.d (Iz w)] S=J (.d (yD (J (qR f m w,fL f m w))),S):=by
 let hc:lv (d<$>2) aDe [J (.d f.d),(m:),(w:),qx,qx,qx] S=J ([Yw.cut,.nought,.sign].map λ y=>nD (lw y f m w),S):=by
  refine iU (fi:=lv (d<$>2) (.it (.con "WORDS" aBD))) (fe:=ev (d<$>2) (.call 53 (.cons (.var 5) (.cons (.var 0) (.cons (.var 1) (.cons (.var 2) .nil)))))) (λ y:Yw=>Sz y.s) (λ y=>nD (lw y f m w)) [Yw.cut,.nought,.sign] ?_ (by rw[zq];show 3<=16777216;decide) λ y _=>?_
  .exact uM U
  .exact(_,U,λ S'=>jZ U U U U (aRt d y f m w cB hw hm S'),)
 let hc':lv (d<$>2) aDe [J (.d f.d),(m:),(w:),qx,qx,qx] S=J ([lw .cut f m w,lw .nought f m w,lw .sign f m w].map nD,S):=hc;let mi:fL f m w=lw .cut f m w\/fL f m w=lw .nought f m w\/fL f m w=lw .sign f m w:=by unfold fL;omega
 let mn:kX [.list ([lw .cut f m w,lw .nought f m w,lw .sign f m w].map nD)]=J (.int (fL f m w:Nat)):=by
  refine aL4 (by simp_all) λ b hb=>?_
  simp only[yEa,yDv,or_false] at hb;unfold fL;omega
 let ix:aAC S (.d (Lz ([lw .cut f m w,lw .nought f m w,lw .sign f m w].map nD))) (.d (Iz (fL f m w:Nat)))=J (.d (Iz ((if lw .cut f m w=fL f m w then 0 else if lw .nought f m w=fL f m w then 1 else 2:Nat):Int)),S):=by
  rw[aUt,aDD,oB,if_pos ?_,bBS _ _ _ _ mi]
  grind
 let wd:bM (.tuple [.str Yw.cut.s,.str Yw.nought.s,.str Yw.sign.s]) (.int ((if lw .cut f m w=fL f m w then 0 else if lw .nought f m w=fL f m w then 1 else 2:Nat):Int))=J (.str (qR f m w).s):=by
  unfold qR;split
  .rfl
  .split<;>rfl
 exact aV U U U (bX (tZ hc' U) (bA (cZ {} mn) U (aN (fJ (bT U (aZD {} {} ix) U wd) {})))) yAb
def gO(r:Rw)(f:Ft)(m:Nat):Oz (Yw×Nat):=if r.wd=.in then J (.cut,r.w) else if m=0 then qx else J (qR f m r.w,fL f m r.w)
def aLp(r:Rw):bM r.d (Iz 0)=J (.str r.wd.s):=@dP (.str r.wd.s::nD r.w::r.args.map nD) 0 _ U
def aRJ(d:Nat)(r:Rw)(f:Ft)(m:Nat)(cB:1<=r.w)(hw:r.w<=64)(hm:m<2^r.w)(S:aD):cl fns (d+4) 55 [.d r.d,.d f.d,.d (Iz m)] S=J (.d (yD (gO r f m)),S):=by
 let c1:bO .Eq (.str r.wd.s) (.str "in")=J (.bool (decide (r.wd=.in))):=fS r.wd .in;let rw0:=aLp r;unfold gO;split
 .rename_i c;rw[dqT c] at c1;exact aV U U U (cJ (aU (aM U rw0) cC c1) (aN (fJ cC (aM U (fG r))))) yAb
 .rename_i c;rw[dqF c] at c1;split
  .rename_i z;exact aV U U U (bW (aU (aM U rw0) cC c1) (cJ (aU {} aF (zP z)) (aN jJ))) yAb
  .rename_i z;exact aV U U U (bW (aU (aM U rw0) cC c1) (bW (aU {} aF (yU z)) (aN (aT (aE {} (aE {} (aE (aM U (fG r)) aQ))) (aR3 d f m r.w cB hw hm S))))) yAb
def z3:G Rw->G Ft->G Nat->G (Rw×Ft×Nat)
 |r::K,f::F,m::M=>(r,f,m)::z3 K F M|_,_,_=>[]
def aN0:∀ (K:G Rw) (F:G Ft) (M:G Nat),gX (K.map Rw.d) (F.map Ft.d) (M.map nD)=(z3 K F M).map λ t=>Tz [t.1.d,t.2.1.d,nD t.2.2]
 |[],_,_=>rfl|_::_,[],_=>rfl|_::_,_::_,[]=>rfl
 |r::K,f::F,m::M=>by
   let ih:=aN0 K F M;simp only[yAm,gX,z3,ih]
def aEw:∀ (K:G Rw) (F:G Ft) (M:G Nat) (k:Nat) (t:Rw×Ft×Nat),(z3 K F M)[k]?=J t ↔ K[k]?=J t.1/\F[k]?=J t.2.1/\M[k]?=J t.2.2
 |[],_,_,k,t=>by simp[z3]|_::_,[],_,k,t=>by simp[z3]|_::_,_::_,[],k,t=>by simp[z3]|r::K,f::F,m::M,0,(a,b,c)=>by simp[z3]
 |r::K,f::F,m::M,k+1,t=>by
   let ih:=aEw K F M k t;simpa [z3] using ih
def aFc:∀ (K:G Rw) (F:G Ft) (M:G Nat),↑F=↑K->↑M=↑K->↑(z3 K F M)=↑K
 |[],_,_,_,_=>rfl|_::_,[],_,h,_=>by cases h|_::_,_::_,[],_,h=>by cases h
 |r::K,f::F,m::M,h1,h2=>by
   let ih:=aFc K F M (Nat.succ.inj h1) (Nat.succ.inj h2);simp only[z3,yAo,ih]
def jO(K:G Rw)(F:G Ft)(M:G Nat):G (Oz (Yw×Nat)):=(z3 K F M).map λ t=>gO t.1 t.2.1 t.2.2
def aQK{F:G Ft}(d:Nat)(p:Prg K)(hF:↑F=↑K)(h:Bd K M)(o:D)(S:aD):cl fns (d+5) 56 [.d (K<*o),.d (F*>Ft.d),.d (M*>nD)] S=J (.d (Tz ((jO K F M).map yD)),S):=by
 let pl:=p.l;let zl:=aFc K F M hF h.l;let i0:bM (K<*o) (.int 0)=J (K*>Rw.d):=rfl;let hz:=aN0 K F M;let hc:lv (d<$>4) aGO [J (.d (K<*o)),J (.d (F*>Ft.d)),J (.d (M*>nD)),qx,qx,qx] S=J ((jO K F M).map yD,S):=by
  unfold jO;rw[yBa];refine iU (fi:=lv (d<$>4) (.zip3 (.ix (.var 0) (.int 0)) (.var 1) (.var 2))) (fe:=ev (d<$>4) (.call 55 (.cons (.var 3) (.cons (.var 4) (.cons (.var 5) .nil))))) (λ t:Rw×Ft×Nat=>Tz [t.1.d,t.2.1.d,nD t.2.2]) (yD ∘ λ t=>gO t.1 t.2.1 t.2.2) (z3 K F M) ?_ (by rw[zq];omega) λ t ht=>?_
  .erw[0,i0,hz]
  .let(k,hk):=yEg ht;let(h1,h2,h3):=(aEw K F M k t).mp hk;let(r,f,m):=t;let hw:=p.ws k r h1;let hm:m<2^r.w:=by
    have:=h.lt k r h1;rw[xAg,h3] at this;exact this
   let e1:=λ S'=>aRJ d r f m hw.1 hw.2 hm S'
   refine([J (.d (K<*o)),J (.d (F*>Ft.d)),J (.d (M*>nD)),J (.d r.d),J (.d f.d),(m:)],U,λ S'=>?_,);show _=J (W.d (yD (gO r f m)),S');erw[0,e1]
 rw[dU U (d+4) _ S U];erw[11,aHq,hc,oC,xX]
def aKU{K:G Rw}{F:G Ft}{M:G Nat}(hF:↑F=↑K)(hM:↑M=↑K):↑(jO K F M)=↑K:=by unfold jO;rw[yAf,aFc K F M hF hM]
def tO{F:G Ft}{M:G Nat}(hr:K[k]?=J r)(hF:↑F=↑K)(hM:↑M=↑K):(jO K F M)[k]?=J (gO r (f0 F k) (M.getD k 0)):=by let hk:k<↑K:=(gIm hr).1;unfold jO;rw[yAe,(aEw K F M k (r,f0 F k,M.getD k 0)).mpr (hr,jS (),xN (),)];rfl
def yE(a b:Oz (Yw×Nat)):Bool:=match a,b with|none,qx=>Z|some (x,k),J (y,l)=>decide (x=y)&&(k==l)|_,_=>Ff
def aZC(a b:Oz (Yw×Nat)):yE a b=decide (a=b):=by
 rcases a with _|⟨x,k⟩<;>rcases b with _|⟨y,l⟩
 .rfl
 .rfl
 .rfl
 .show(decide (x=y)&&(k==l))=_;rw[yCj,yBf,decide_eq_true_eq,beq_iff_eq,decide_eq_true_eq,Option.some.injEq,Prod.mk.injEq]
def bAq(x y:Yw):(x.s==y.s)=decide (x=y):=by cases x<;>cases y<;>kernel_rfl
def bAN(a b:Oz (Yw×Nat)):yEv (yD a) (yD b)=decide (a=b):=by
 rw[<- aZC];rcases a with _|⟨x,k⟩<;>rcases b with _|⟨y,l⟩
 .rfl
 .rfl
 .rfl
 .simp only[yD,yEv,PyData.eqvAll,yE,bAq,yCu];congr 1;rw[yCj,beq_iff_eq,beq_iff_eq];omega
def aNk(a:Oz (Yw×Nat)):(yD a).canLay0=Z:=by
 rcases a with _|⟨x,k⟩
 .rfl
 .cases x<;>kernel_rfl
def aYQ(a:Oz (Yw×Nat)):(yD a).depth<=1:=by
 rcases a with _|⟨x,k⟩
 .exact yBv _
 .simp[yD,PyData.depth,yFe]
def bAx(a b:Oz (Yw×Nat)):bO .Eq (yD a) (yD b)=J (.bool (decide (a=b))):=by unfold bO qM;simp only[];rw[if_pos (aNk a,aNk b,xAh (aYQ a) (·),),bAN];rfl
def zU(a:Oz (Yw×Nat)):bO .Is (yD a) .none=J (.bool a.isNone):=by rcases a with _|⟨x,k⟩<;>rfl
def rt(r:Rw)(f:Ft)(m:Nat)(y:Oz (Yw×Nat)):Bool:=if r.wd=.in then decide (y=J (.cut,r.w)) else if m=0 then y.isNone else match y with|none=>Ff|some (a,k)=>lb a k f m r.w
def sZ(w:Nat)(y:Oz (Yw×Nat)):Prop:=∀ a k,y=J (a,k)->1<=k/\k<=w
structure Yst(K:List Rw)(Y:List (Option (Yw×Nat))):Prop where
 l:↑Y=↑K
 ok:∀ (k:Nat) (r:Rw) (y:Option (Yw×Nat)),K[k]?=J r->Y[k]?=J y->sZ r.w y
def aXl(f:Ft)(m w:Nat):lw (qR f m w) f m w=fL f m w:=by
 unfold qR;by_cases h1:lw .cut f m w=fL f m w
 .rw[if_pos h1];exact h1
 .rw[if_neg h1];by_cases h2:lw .nought f m w=fL f m w
  .rw[if_pos h2];exact h2
  .rw[if_neg h2];unfold fL at h1 h2 ⊢;omega
def aLT(f:Ft)(hw:1<=w)(h:m<2^w):1<=fL f m w/\fL f m w<=w/\lb (qR f m w) (fL f m w) f m w=Z:=by have:=aNm (qR f m w) f hw h;rw[aXl] at this;simp_all
def aJd(r:Rw)(f:Ft)(m:Nat)(hw:1<=r.w)(h:m<2^r.w):sZ r.w (gO r f m):=by
 intro a k e;unfold gO at e;by_cases c:r.wd=.in
 .rw[if_pos c] at e;simp_all
 .rw[if_neg c] at e;by_cases z:m=0
  .rw[if_pos z] at e;cases e
  .rw[if_neg z] at e;cases e;have:=aLT f hw h;simp_all
def aU3{F:G Ft}(p:Prg K)(hF:↑F=↑K)(h:Bd K M):Yst K (jO K F M):=by refine(aKU hF h.l,λ k r y hr hy=>?_,);rw[tO hr hF h.l] at hy;cases hy;exact aJd r _ _ (p.ws k r hr).1 (h.lt k r hr)
def kB(w:Wd):Bool:=w==.same||w==.less||w==.under
def Aq(K:G Rw)(M:G Nat)(n:Nat):Prop:=∀ i r,n<=i->K[i]?=J r->kB r.wd=Z->M.getD i 0≠0->∀ a∈bP r,M.getD a 0≠0
def aXj{K:G Rw}{F:G Ft}(p:Prg K){k m:Nat}{r:Rw}(hr:K[k]?=J r)(hc:kB r.wd=Z)(hm:m≠0):∀ a∈bP r,∃ v,v≠0/\(a,v)∈eJ K F r m:=by
 let(f1,f2):=p.fit k r hr;let(w1,w2):=rS f1;let hw3:r.wd=.same\/r.wd=.less\/r.wd=.under:=by
  unfold kB at hc;cases hh:r.wd<;>rw[hh] at hc<;>first|exact .inl U|exact .inr (.inl U)|exact .inr (.inr U)|(exfalso;revert hc;decide)
 let two:∃ a b,bP r=[a,b]:=by
  let hl:↑(bE r (~~~K))=2:=by
   let w3:=w1.2.2;rcases hw3 with h|h|h<;>rw[h] at w3<;>(let(_,v,hv,_):=w3;rw[hv];rfl)
  unfold bE at hl;rw[yAf] at hl;change ↑(bP r)=2 at hl
  match h:bP r,hl with
  |[a,b],_=>exact(a,b,U,)
 let(a,b,e):=two;let hw:∀ x∈bP r,∃ u:Nat,1<=u/\g0 (~~~K) x=u:=λ x hx=>by
  let hx2:=f2 x hx;let hk:k<↑K:=(gIm hr).1;let hq:K[x]?=J K[x]:=yAa ();exact(_,(p.ws x _ hq).1,iK hq,)
 let eo:bE r (~~~K)=[g0 (~~~K) a,g0 (~~~K) b]:=by
  unfold bE;rw[show r.args.take (aZ r.wd)=[a,b] from e];rfl
 let nz:∀ u:Nat,1<=u->2^u-1≠0:=λ u hu=>by
  have:=yAl (show 1<=2 by decide) hu;omega
 let(u,u1,eu):=hw a (by rw[e];simp);let(v,v1,ev):=hw b (by rw[e];simp);let en:mH K F r m=[2^u-1,2^v-1]:=by
  unfold mH bR;rw[if_neg hm,eo,eu,ev];rcases hw3 with h|h|h<;>rw[h]<;>rfl
 intro x hx;unfold eJ;rw[en,e];rw[e] at hx;rcases List.mem_cons.mp hx with rfl|hx
 .exact(_,nz u u1,by simp,)
 .obtain rfl:=List.mem_singleton.mp hx;exact(_,nz v v1,by simp,)
def aAk(a b:G D)(h:↑a+↑b<=1000):cG .Add (.tuple a) (.tuple b)=J (.tuple (a++b)):=by
 cases a with
 |nil=>rfl
 |cons x r=>
   show(if ↑(x::r)+↑b<=qk then J (Tz ((x::r)++b)) else qx)=_;rw[if_pos (by rw[zq];omega)]
def aIY(a:G D)(k:Nat):gM a (J (k:Nat)) qx=a.drop k:=by
 unfold gM;rw[HT.sIx_none,HT.sIx_nat];rcases yHy k ↑a with h|h
 .rw[yEj h,yCo (by rw[yHr];omega)]
 simp_all
section
variable {K:List Rw}{F:List Ft}{M:List Nat}{Y:List (Option (Yw×Nat))}{k:Nat}{y:Option (Yw×Nat)}
end
abbrev Ys:=List (Option (Yw×Nat))
abbrev Es:=List (Rw×Nat)
abbrev Ps:=List (Option Nat)
noncomputable abbrev M3:=Nat×List Rw×Es
def kG(r:Rw):List bN:=.inr r.wd.s :: .inl (r.w:_)::r.args.map λ a=>.inl (a:_)
def aN6(r:Rw):W:=.tpl (.d (Sz r.wd.s) :: .d (nD r.w)::r.args.map λ a=>.d (nD a))
def iQ(E:Es):G (List bN×Int):=E.map λ p=>(kG p.1,(p.2:_))
def sX:Oz Nat->D
 |none=>.none|some k=>.int k
noncomputable abbrev dZ(P Y:D):W:=.ob [("program",.d P),("stays",.d Y),("rows",.loc 1),("places",.loc 2),("once",.dic 3)]
noncomputable abbrev sM(st:Option (List D))(R:List Rw)(Pl:Ps)(E:Es)(T:aD):aD:=st::J (R.map Rw.d)::J (Pl.map sX)::J ((iQ E).map pA)::T
noncomputable abbrev oX(st:Option (List D))(Pl:Ps)(T:aD)(x:M3):Option (W×aD):=J (.d (Iz (x.1:Nat)),sM st x.2.1 Pl x.2.2 T)
def aX4(l:G Nat):fV (l.map λ a=>W0.d (nD a))=J (l.map nD):=by
 induction l with
 |nil=>rfl|cons a r ih=>rw[yAm,fV,ih];rfl
def bAg(r:Rw):fV (.d (Sz r.wd.s) :: .d (nD r.w)::r.args.map λ a=>W0.d (nD a))=J (.str r.wd.s::nD r.w::r.args.map nD):=by rw[fV,fV,aX4];rfl
def aYn(l:G Nat):iG (l.map λ a=>W0.d (nD a))=J (l.map λ a=>.inl (a:_)):=by
 induction l with
 |nil=>rfl|cons a r ih=>rw[yAm,nD,iG,ih];rfl
def zH(r:Rw):iG (.d (Sz r.wd.s) :: .d (nD r.w)::r.args.map λ a=>W0.d (nD a))=J (kG r):=by rw[nD,iG,iG,aYn];rfl
def lC{a b c e a' b' c' e':Oz (G D)}{T:aD}:(a::b::c::e::T).take ↑(a'::b'::c'::e'::T)=a::b::c::e::T:=by simp
def aNH(b:Bool)(r:Rw):W:=match b with|false=>.d r.d|true=>aN6 r
def kK(R:G Rw)(E:Es)(r:Rw):M3:=match fK (iQ E) (kG r) with|some i=>(i.toNat,R,E)|none=>(↑R,R++[r],E++[(r,↑R)])
def aJB(E:Es)(r:Rw)(n:Nat):iQ (E++[(r,n)])=iQ E++[(kG r,(n:_))]:=by unfold iQ;rw[yAu];rfl
def aQ5{i:Int}(h:fK es k=qx):fK (es++[(k,i)]) k=J i:=by
 unfold fK at h ⊢;rw[List.find?_append];cases q:es.find? λ p=>decide (p.1=k) with
 |none=>simp|some p=>rw[q] at h;cases h
def aS4{E:Es}{i:Int}(h:fK (iQ E) k=J i):(i.toNat:_)=i:=by unfold fK iQ at h;let(p,h1,h2):=Option.map_eq_some_iff.mp h;have:=List.mem_of_find?_eq_some h1;let(q,_,U):=List.mem_map.mp this;subst h2;rfl
def aAb(st:Oz (G D))(R:G Rw)(Pl:Ps)(E:Es)(T:aD):nM (sM st R Pl E T) 3=J (iQ E):=by unfold nM;show J (((iQ E).map pA).filterMap zR)=_;rw[aF4]
def cR(Y:Ys)(Pl:Ps)(R:G Rw)(E:Es)(k w:Nat):M3:=match Y.getD k qx with
 |none=>kK R E (.num,w,[0],)
 |some (y,kept)=>if kept=w then ((Pl.getD k qx).getD 0,R,E) else if w<kept then kK R E (.cut,w,[(Pl.getD k qx).getD 0],) else kK R E (if y=.sign then .sign else .wide,w,[(Pl.getD k qx).getD 0],)
section
variable {st:Option (List D)}{R:List Rw}{Pl:Ps}{E:Es}{T:aD}{Y:Ys}{P YY:D}
def aBy(b:Bool)(r:Rw)(hz:↑R+↑E<=1900):eE (sM st R Pl E T) (.loc 1) (aNH b r)=J (.d .none,sM st (R++[r]) Pl E T):=by
 let h:vH (sM st R Pl E T) 1 r.d=J (.d .none,sM st (R++[r]) Pl E T):=by
  show(if ↑(R.map Rw.d)<qk then _ else qx)=_;rw[if_pos (by rw[yAf,zq];omega),show R.map Rw.d++[r.d]=(R++[r]).map Rw.d by rw[yAu];rfl];rfl
 cases b with
 |false=>exact h
 |true=>
   show(fV _).bind (λ l=>vH (sM st R Pl E T) 1 (.tuple l))=_;rw[bAg];exact h
def rD(d:Nat)(b:Bool)(r:Rw)(hz:↑R+↑E<=1900):cl fns (d+1) 60 [dZ P YY,aNH b r] (sM st R Pl E T)=oX st Pl T (↑R,R++[r],E):=by
 let ln:nE [.list ((R++[r]).map Rw.d)]=J (.int (↑R+1:_)):=by
  show J (Iz ((↑((R++[r]).map Rw.d):Nat):Int))=_;rw[yAf,xAn];rfl
 exact aV U U U (bX (fZ (gW (yR {} U) {} (aBy b r hz))) (aN (aJ (gB (aE (yR {} U) aQ) (gY (dM U) iA) ln) aF (by rw[eO,show(↑R+1:_)-1=(↑R:_) by omega])))) lC
def aEq(d:Nat)(r:Rw)(hz:↑R+↑E<=1900):cl fns (d+2) 61 [dZ P YY,aN6 r] (sM st R Pl E T)=oX st Pl T (kK R E r):=by
 let mk:=@rD st _ Pl _ T P YY d Z r hz;unfold kK;cases hv:fK (iQ E) (kG r) with
 |some i=>
   let hv':fK (iQ E) (kG r)=J (i.toNat:Int):=by rw[aS4 hv];exact hv
   exact aV U U U (bW (aEW {} (uC {} U) (zH r) (aAb st R Pl E T) (by rw[hv];rfl)) (aN (aEX (uC {} U) {} (zH r) (aAb st R Pl E T) hv'))) lC
 |none=>
   let pt:sF (iQ E) (kG r) (↑R:_)=iQ (E++[(r,↑R)]):=by
    unfold sF;rw[hv,if_neg (·),aJB]
   exact aV U U U (bX (iE (aEW {} (uC {} U) (zH r) (aAb st R Pl E T) (by rw[hv];rfl)) (dW (aLr (fD {} U (aE {} aQ) mk) (uC {} U) {} (zH r) (aAb st (R++[r]) Pl E T) (by unfold iQ;rw[yAf,zq];omega) (by rw[pt];rfl)))) (aN (aEX (uC {} U) {} (zH r) (aAb st (R++[r]) Pl (E++[(r,↑R)]) T) (by rw[aJB];exact aQ5 hv)))) lC
def fR(Y:Ys)(Pl:Ps)(k:Nat):Prop:=∃ y,Y[k]?=J y/\∀ a b,y=J (a,b)->∃ p,Pl[k]?=J (J p)
def pP(d:Nat)(w:Nat)(hk:fR Y Pl k)(hz:↑R+↑E<=1900):cl fns (d+3) 62 [dZ P (Y*>yD),.d (Iz k),.d (Iz w)] (sM st R Pl E T)=oX st Pl T (cR Y Pl R E k w):=by
 let(y,hy,hp):=hk;let on:=λ(r:Rw)=>@aEq st _ Pl _ T P (Y*>yD) d r hz
 let i0:bM (Y*>yD) (.int k)=J (yD y):=dP (by rw[yAe,hy];rfl);unfold cR;rw[show Y.getD k qx=y by rw[xAg,hy];rfl];cases y with
 |none=>exact aV U U U (bA (bT (rG {} U) {} U i0) U (cJ (aU {} jJ (zU qx)) (aN (fD {} U (aE (uO (aE cC (aE {} (aE aF aQ))) U (eq_true (yAc U))) aQ) (on (.num,w,[0],)))))) lC
 |some q=>
   let(a,kept):=q;let(p,hpl):=hp a kept U;let pa:bM (.list (Pl.map sX)) (.int k)=J (.int p):=mU (by rw[yAe,hpl];rfl);let gp:∀ {C:Calls}{c3 c4 c5:Oz W},ev C (.ix (.fld (.var 0) "places") (.var 1)) [J (dZ P (Y*>yD)),(k:),(w:),c3,c4,c5] (sM st R Pl E T)=J (.d (Iz p),sM st R Pl E T):=λ {C c3 c4 c5}=>bT (yR {} U) {} (dM U) pa
   dsimp only;rw[show(Pl.getD k qx).getD 0=p by rw[xAg,hpl];rfl];let go:∀ {x:M3},xs (d<$>2) (bL (bL (bL aMi))) [J (dZ P (Y*>yD)),(k:),(w:),J (.d (yD (J (a,kept)))),J (.d (Sz a.s)),(kept:)] (sM st R Pl E T)=J (.rt (.d (Iz (x.1:Nat))),sM st x.2.1 Pl x.2.2 T)->cl fns (d+3) 62 [dZ P (Y*>yD),.d (Iz k),.d (Iz w)] (sM st R Pl E T)=oX st Pl T x:=λ {x} h=>aV U U U (bA (bT (rG {} U) {} U i0) U (bW (aU {} jJ (zU (J (a,kept)))) (bX (iV {} U) h))) lC
   by_cases c:kept=w
   .rw[if_pos c];exact go (x:=(p,R,E)) (cJ (aU {} {} (by rw[gR,c,beq_self_eq_true])) (aN gp))
   .rw[if_neg c];let ce:bO .Eq (.int kept) (.int w)=J (.bool Ff):=by rw[gR,beq_eq_false_iff_ne.mpr ()]
    by_cases g:w<kept
    .rw[if_pos g];exact go (bW (aU {} {} ce) (cJ (aU {} {} (by rw[oF,dqT ()])) (aN (fD {} U (aE (uO (aE cC (aE {} (aE gp aQ))) U (eq_true (yAc U))) aQ) (on (.cut,w,[p],))))))
    .rw[if_neg g];let cg:bO .Gt (.int kept) (.int w)=J (.bool Ff):=by rw[oF,dqF ()]
     let ys:bO .Eq (.str a.s) (.str "sign")=J (.bool (decide (a=.sign))):=aEQ a .sign;let dA:∀ z:Wd,ev (d<$>2) (.ite (.cmp .Eq (.var 4) (.str "sign")) (.str "sign") (.str "wide")) [J (dZ P (Y*>yD)),(k:),(w:),J (.d (yD (J (a,kept)))),J (.d (Sz a.s)),(kept:)] (sM st R Pl E T)=J (.d (Sz z.s),sM st R Pl E T)->cl fns (d+3) 62 [dZ P (Y*>yD),.d (Iz k),.d (Iz w)] (sM st R Pl E T)=oX st Pl T (kK R E ⟨z,w,[p]⟩):=λ z h=>go (bW (aU {} {} ce) (bW (aU {} {} cg) (aN (fD {} U (aE (uO (aE h (aE {} (aE gp aQ))) U (eq_true (yAc U))) aQ) (on (z,w,[p],))))))
     by_cases z:a=.sign
     .rw[if_pos z];exact dA .sign (oN (aU {} cC (by rw[ys,dqT z])) U)
     .rw[if_neg z];exact dA .wide (oN (aU {} cC (by rw[ys,dqF z])) U)
end
inductive CRun (t:Tg) (fe:FE) (env:aY):List D->List D->aD->aD->Prop
 |nil {S:aD}:CRun t fe env [] [] S S
 |cons {x v:D}{e1:aY}{ds vs:List D}{S S1 S2:aD}:t.put x env=J e1->(∀ aG,fe e1 (S++[J aG])=J (.d v,S1++[J aG]))->↑S1=↑S->CRun t fe env ds vs S1 S2->CRun t fe env (x::ds) (v::vs) S S2
def aYd{fe:FE}(h:CRun t fe env ds vs S S2)(aG:G D)(hz:↑aG+↑ds<=qk):gU t lX fe ↑S env ds (S++[J aG])=J (S2++[J (aG++vs)])/\↑S2=↑S:=by
 induction h generalizing aG with
 |nil=>simp[gU]
 |cons h1 h2 h3 h4 ih=>
   rename_i _ v _ _ _ S S1 _;rw[yAo] at hz;let(i1,i2):=ih (aG++[v]) (by rw[xAn,yDy];omega);rw[h3] at i1 i2;let ea:eE (S1++[J aG]) (.loc ↑S) (.d v)=J (.d .none,S1++[J (aG++[v])]):=by
    unfold eE;rw[<- h3];simp only[yAh (yAd ↑S1),yBe,yDk];rw[if_pos (),aTF]
   refine(?_,i2,);simp only[gU,h1,lX,oB,if_true,h2,ea];rw[i1,yBg];rfl
def aBB{fi:FL}{fe:FE}(hi:fi env S=J (ds,S1))(hz:↑ds<=1000)(h:CRun t fe (clr t.slots env) ds vs S1 S2):jI t fi lX fe env S=J (vs,S2):=by let(i1,i2):=aYd h [] (by rw[zq,yBz];omega);unfold jI;rw[hi];simp_all
def cQ(Y:Ys)(Pl:Ps):G Rw->Es->G (Nat×Nat)->G Nat×G Rw×Es
 |R,E,[]=>([],R,E)|R,E,q::l=>((cR Y Pl R E q.1 q.2).1::(cQ Y Pl (cR Y Pl R E q.1 q.2).2.1 (cR Y Pl R E q.1 q.2).2.2 l).1,(cQ Y Pl (cR Y Pl R E q.1 q.2).2.1 (cR Y Pl R E q.1 q.2).2.2 l).2)
def aJS(R:G Rw)(E:Es)(r:Rw):(kK R E r).2.1.length+(kK R E r).2.2.length<=↑R+↑E+2:=by
 unfold kK;split<;>simp
 omega
def xE(Y:Ys)(Pl:Ps)(R:G Rw)(E:Es)(k w:Nat):(cR Y Pl R E k w).2.1.length+(cR Y Pl R E k w).2.2.length<=↑R+↑E+2:=by
 unfold cR;split
 .exact aJS _ _ _
 .split
  .simp
  .split<;>exact aJS _ _ _
def aBH(Y:Ys)(Pl:Ps):∀ (l:G (Nat×Nat)) (R:G Rw) (E:Es),(cQ Y Pl R E l).2.1.length+(cQ Y Pl R E l).2.2.length<=↑R+↑E+2*↑l/\(cQ Y Pl R E l).1.length=↑l
 |[],R,E=>(yAd _,U,)
 |q::l,R,E=>by
   let h:=xE Y Pl R E q.1 q.2;let(i1,i2):=aBH Y Pl l (cR Y Pl R E q.1 q.2).2.1 (cR Y Pl R E q.1 q.2).2.2;unfold cQ;simp only[yAo];omega
section
variable {st:Option (List D)}{R:List Rw}{Pl:Ps}{E:Es}{T:aD}{Y:Ys}{P YY:D}
def yL{t:Tg}{fe:FE}(enc:Nat×Nat->D)(e:Nat×Nat->aY)(hput:∀ q,t.put (enc q) env=J (e q)):∀ (l:G (Nat×Nat)) (R:G Rw) (E:Es),↑R+↑E+2*↑l<=1900->(∀ q∈l,∀ (R:G Rw) (E:Es) (T:aD),↑R+↑E<=1900->fe (e q) (sM st R Pl E T)=oX st Pl T (cR Y Pl R E q.1 q.2))->CRun t fe env (l.map enc) ((cQ Y Pl R E l).1.map nD) (sM st R Pl E T) (sM st (cQ Y Pl R E l).2.1 Pl (cQ Y Pl R E l).2.2 T)
 |[],R,E,_,_=>.nil
 |q::l,R,E,h1,h=>by
   rw[yAo] at h1;let ln:=xE Y Pl R E q.1 q.2;exact .cons (S1:=sM st (cR Y Pl R E q.1 q.2).2.1 Pl (cR Y Pl R E q.1 q.2).2.2 T) (hput q) (λ aG=>h q xAc R E (T++[J aG]) ()) (by simp) (yL enc e hput l _ _ () λ z hz=>h z (xAf _ hz))
def qS(Y:Ys)(Pl:Ps)(R:G Rw)(E:Es)(l:G (Nat×Nat))(f:G Nat->Rw):M3:=((cQ Y Pl R E l).2.1.length,(cQ Y Pl R E l).2.1++[f (cQ Y Pl R E l).1],(cQ Y Pl R E l).2.2)
def zS(Y:Ys)(Pl:Ps)(R:G Rw)(E:Es)(r:Rw)(a s w:Nat):M3:=
 let v:=min r.w (w+s);let q:=cR Y Pl R E a v
 if w<v then kK (q.2.1++[(r.wd,v,[q.1,s],)]) q.2.2 (.cut,w,[q.2.1.length],) else (q.2.1.length,q.2.1++[(r.wd,v,[q.1,s],)],q.2.2)
def aOj(a b:Nat):kX [.int (a:_),.int (b:_)]=J (.int ((min a b:Nat):Int)):=by show J (Iz (if (b:_)<(a:_) then (b:_) else (a:_)))=_;congr 2;split<;>omega
def aRn(d:Nat)(wd:Wd)(w0:Nat)(s w:Nat)(ha:fR Y Pl a)(hz:↑R+↑E<=1800):cl fns (d+4) 63 [dZ P (Y*>yD),.d (Rw.d (wd,w0,[a,s],)),.d (Iz w)] (sM st R Pl E T)=oX st Pl T (zS Y Pl R E (wd,w0,[a,s],) a s w):=by
 let mn:=aOj w0 (w+s);unfold zS;dsimp only;generalize min w0 (w+s)=v at mn ⊢;let l:=xE Y Pl R E a v;let f1:=@pP st _ _ _ T _ P _ d v ha (show ↑R+↑E<=1900 by omega);generalize cR Y Pl R E a v=q at l f1 ⊢;let(n,R1,E1):=q;dsimp only at l f1 ⊢;let m1:=@rD st _ Pl _ T P (Y*>yD) (d+2) Ff (wd,v,[n,s],) (show ↑R1+↑E1<=1900 by omega);let o1:=@aEq st (R1++[((wd,v,[n,s],):Rw)]) Pl E1 T P (Y*>yD) (d+1) (.cut,w,[↑R1],) (by rw[xAn,yDy];omega);let ad:cG .Add (.int w) (.int s)=J (.int (w+s:_)):=by rw[kM];rfl
 let go:∀ {x:M3},xs (d<$>3) (bL (bL (bL aHA))) [J (dZ P (Y*>yD)),J (.d (Rw.d ⟨wd,w0,[a,s]⟩)),(w:),(v:),(n:),(↑R1:)] (sM st (R1++[⟨wd,v,[n,s]⟩]) Pl E1 T)=J (.rt (.d (Iz (x.1:Nat))),sM st x.2.1 Pl x.2.2 T)->cl fns (d+4) 63 [dZ P (Y*>yD),.d (Rw.d ⟨wd,w0,[a,s]⟩),.d (Iz w)] (sM st R Pl E T)=oX st Pl T x:=λ {x} h=>aV U U U (bA (fU (aM U U) (aJ {} (aM U U) ad) mn) U (bA (fD {} U (aE (aM U U) (aE {} aQ)) f1) U (bA (fD {} U (aE (lV (aE (aM U U) (aE {} (aE {} (aE (aM U U) aQ)))) U (yAc U)) aQ) m1) U h))) lC
 by_cases c:w<v
 .rw[if_pos c];exact go (cJ (aU {} {} (by rw[oF,dqT ()])) (aN (fD {} U (aE (uO (aE cC (aE {} (aE {} aQ))) U (eq_true (yAc U))) aQ) o1)))
 .rw[if_neg c];exact go (x:=(↑R1,R1++[(wd,v,[n,s],)],E1)) (bW (aU {} {} (by rw[oF,dqF ()])) (aN {}))
def vW(Y:Ys)(Pl:Ps)(R:G Rw)(E:Es)(wd:Wd)(a old w:Nat):M3:=
 if w<=old then cR Y Pl R E a w else kK (cR Y Pl R E a old).2.1 (cR Y Pl R E a old).2.2 (wd,w,[(cR Y Pl R E a old).1],)
def aSI(d:Nat)(o:D)(wd:Wd)(w0:Nat)(w:Nat)(hra:K[a]?=J ra)(ha:fR Y Pl a)(hz:↑R+↑E<=1800):cl fns (d+4) 64 [dZ (K<*o) (Y*>yD),.d (Rw.d (wd,w0,[a],)),.d (Iz w)] (sM st R Pl E T)=oX st Pl T (vW Y Pl R E wd a ra.w w):=by
 let wo:=λ S=>uE (d+2) a hra o S
 generalize (Tz [(K*>Rw.d),o])=P at wo ⊢;let l:=xE Y Pl R E a ra.w;let f1:=λ v=>@pP st _ _ _ T _ P _ d v ha (show ↑R+↑E<=1900 by omega)
 unfold vW;let ow:ev (d<$>3) (.call 10 (.cons (.fld (.var 0) "program") (.cons (.ix (.var 1) (.int 2)) .nil))) [J (dZ P (Y*>yD)),J (.d (Rw.d (wd,w0,[a],))),(w:),qx] (sM st R Pl E T)=J (.d (Iz ra.w),sM st R Pl E T):=aT (aE (rG {} U) (aE (aM U U) aQ)) (wo _);by_cases c:w<=ra.w
 .rw[if_pos c];exact aV U U U (bA ow U (cJ (aU {} {} (by rw[rO,dqT ()])) (aN (fD {} U (aE (aM U U) (aE {} aQ)) (f1 w))))) lC
 .rw[if_neg c];let f2:=f1 ra.w;generalize cR Y Pl R E a ra.w=q at l f2 ⊢;let(n,R1,E1):=q;dsimp only at l f2 ⊢;exact aV U U U (bA ow U (bW (aU {} {} (by rw[rO,dqF ()])) (aN (fD {} U (aE (uO (aE (aM U U) (aE {} (aE (fD {} U (aE (aM U U) (aE {} aQ)) f2) aQ))) U (eq_true (yAc U))) aQ) (aEq (d+1) (wd,w,[n],) ()))))) lC
end
def mG(a b:Yw):Nat:=(if a=.sign then 1 else 0)+(if b=.sign then 1 else 0)
def iS(wd:Wd)(a b:Yw×Nat)(old:Nat):Nat:=if mG a.1 b.1=1 then old else if mG a.1 b.1=0/\wd=.under then min old (max a.2 b.2+1) else max a.2 b.2
def aWr(a b:Yw):aAz [.str a.s,.str b.s] (.str "sign")=J (.int (mG a b:Nat)):=by cases a<;>cases b<;>kernel_rfl
def aU6(wd:Wd)(h:kB wd=Z):bO .Eq (.str wd.s) (.str "under")=J (.bool (decide (wd=.under))):=by cases wd<;>first|kernel_rfl|(exfalso;revert h;decide)
def bB5(a b:Nat):sH [.int (a:_),.int (b:_)]=J (.int ((max a b:Nat):Int)):=by show J (Iz (if (b:_)>(a:_) then (b:_) else (a:_)))=_;congr 2;split<;>omega
def aQM(d:Nat)(wd:Wd)(hw:kB wd=Z)(a b:Yw×Nat)(old:Nat)(S:aD):cl fns (d+1) 65 [.d (Sz wd.s),.d (yD (J a)),.d (yD (J b)),.d (Iz old)] S=J (.d (Iz (iS wd a b old:Nat)),S):=by
 let(a,ka):=a;let(b,kb):=b;let mx:=bB5 ka kb;let cn:=aWr a b;let cu:=aU6 wd hw;unfold iS;dsimp only;generalize max ka kb=g at mx ⊢;generalize mG a b=n at cn ⊢;let go:∀ {v:Nat},xs (aI fns d) (bL (bL aGX)) [J (.d (Sz wd.s)),J (.d (yD (J (a,ka)))),J (.d (yD (J (b,kb)))),(old:),(g:),(n:)] S=J (.rt (.d (Iz v)),S)->cl fns (d+1) 65 [.d (Sz wd.s),.d (yD (J (a,ka))),.d (yD (J (b,kb))),.d (Iz old)] S=J (.d (Iz v),S):=λ {v} h=>aV U U U (bA (fU (aM U U) (aM U U) mx) U (bA (aNr (aE (aM U U) (aE (aM U U) aQ)) U (eq_true (yAc U)) cC U cn) U h)) yAb
 let ce:∀ i:Nat,bO .Eq (.int n) (.int i)=J (.bool (decide (n=i))):=λ i=>by
  rw[gR];congr 2;rw[yCj,beq_iff_eq,decide_eq_true_eq];omega
 let c1:=ce 1;let c0:=ce 0;by_cases c:n=1
 .rw[if_pos c];rw[dqT c] at c1;exact go (cJ (aU {} aF c1) (aN {}))
 .rw[if_neg c];rw[dqF c] at c1;by_cases q:n=0/\wd=.under
  .rw[if_pos q];rw[dqT q.1] at c0;rw[dqT q.2] at cu;exact go (bW (aU {} aF c1) (cJ (oA (aU {} aF c0) (aU {} cC cu)) (aN (fU {} (aJ {} aF (show cG .Add (.int g) (.int 1)=J (.int (g+1:_)) by rw[kM];rfl)) (aOj old (g+1))))))
  .rw[if_neg q];refine go (bW (aU {} aF c1) (bW (S1:=S) ?_ (aN {})));by_cases z:n=0
   .rw[dqT z] at c0;rw[dqF λ u=>q (z,u,)] at cu;exact oA (aU {} aF c0) (aU {} cC cu)
   .rw[dqF z] at c0;exact oA (aU {} aF c0) U
section
variable {st:Option (List D)}{R:List Rw}{Pl:Ps}{E:Es}{T:aD}{Y:Ys}{P YY:D}
def aCM(Y:Ys)(Pl:Ps)(R:G Rw)(E:Es)(wd:Wd)(a b v:Nat):M3:=qS Y Pl R E [(a,v),(b,v)] λ x=>(wd,1,x,)
def aPq(d:Nat)(o:D)(wd:Wd)(hw:kB wd=Z)(hcn:aZ wd=2)(w0:Nat)(hra:K[a]?=J ra)(ha:fR Y Pl a)(hb:fR Y Pl b)(hya:Y[a]?=J (J ya))(hyb:Y[b]?=J (J yb))(hz:↑R+↑E<=1800):cl fns (d+4) 66 [dZ (K<*o) (Y*>yD),.d (Rw.d (wd,w0,[a,b],))] (sM st R Pl E T)=oX st Pl T (aCM Y Pl R E wd a b (iS wd ya yb ra.w)):=by
 let op:∀ S,cl fns (d+3) 7 [.d (Rw.d ⟨wd,w0,[a,b]⟩)] S=J (.d (Tz [Iz a,Iz b]),S):=λ S=>by
  have:=lG (d+2) (wd,w0,[a,b],) S;rw[hcn] at this;exact this
 let wo:=λ S=>uE (d+2) a hra o S
 generalize (Tz [(K*>Rw.d),o])=P at wo ⊢;let ia:bM (Y*>yD) (.int a)=J (yD (J ya)):=dP (by rw[yAe,hya];rfl);let ib:bM (Y*>yD) (.int b)=J (yD (J yb)):=dP (by rw[yAe,hyb];rfl);let cw:=λ S=>aQM (d+2) wd hw ya yb ra.w S
 generalize iS wd ya yb ra.w=v at cw ⊢;let l:=aBH Y Pl [(a,v),(b,v)] R E;let hc:lv (d<$>3) aGI [J (dZ P (Y*>yD)),J (.d (Rw.d (wd,w0,[a,b],))),(ra.w:),(v:),qx,(a:),(b:),qx] (sM st R Pl E T)=J ((cQ Y Pl R E [(a,v),(b,v)]).1.map nD,sM st (cQ Y Pl R E [(a,v),(b,v)]).2.1 Pl (cQ Y Pl R E [(a,v),(b,v)]).2.2 T):=by
  refine @aBB _ _ ([(a,v),(b,v)].map λ q=>nD q.1) _ (.one 7) _ _ (lv (d<$>3) (.it (.tup (.cons (.var 5) (.cons (.var 6) .nil))))) (ev (d<$>3) (.mth "fetch" 62 (.var 0) (.cons (.var 7) (.cons (.var 3) .nil)))) U (yAc U) (yL (λ q=>nD q.1) _ (λ q=>rfl) _ R E (by simp;omega) λ q hq R E T h1=>?_);let hk:fR Y Pl q.1/\q.2=v:=by
   grind
  let(k,u):=q;let(hk,U):=hk;exact fD U U U (pP d u hk h1)
 let ct:cG .Add (.tuple [.str wd.s,.int 1]) (.tuple ((cQ Y Pl R E [(a,v),(b,v)]).1.map nD))=J (Rw.d (wd,1,(cQ Y Pl R E [(a,v),(b,v)]).1,)):=aAk _ _ (by rw[yAf,l.2];exact yAc U);exact aV U U U (bX (iV (bY U (op _)) U) (bA (aT (aE (rG {} U) (aE {} aQ)) (wo _)) U (bA (aT (aE (aM U U) (aE (bT (rG {} U) {} U ia) (aE (bT (rG {} U) {} U ib) (aE {} aQ)))) (cw _)) U (bA (cZ (eD hc) oC) U (aN (fD {} U (aE (aJ (fJ (aM U U) aF) {} ct) aQ) (rD (d+2) Ff (wd,1,(cQ Y Pl R E [(a,v),(b,v)]).1,) (by have:=l.1;simp at this;omega)))))))) lC
def wkM(Y:Ys)(Pl:Ps)(R:G Rw)(E:Es)(r:Rw)(w:Nat):M3:=qS Y Pl R E ((bP r).map λ k=>(k,w)) λ x=>(r.wd,w,x++r.args.drop (aZ r.wd),)
def pkM(Y:Ys)(Pl:Ps)(R:G Rw)(E:Es)(c a b w:Nat):M3:=qS Y Pl R E [(c,1),(a,w),(b,w)] λ x=>(.pick,w,x,)
def aSJ(d:Nat)(w0:Nat)(w:Nat)(hc:fR Y Pl c)(ha:fR Y Pl a)(hb:fR Y Pl b)(hz:↑R+↑E<=1800):cl fns (d+4) 68 [dZ P (Y*>yD),.d (Rw.d (.pick,w0,[c,a,b],)),.d (Iz w)] (sM st R Pl E T)=oX st Pl T (pkM Y Pl R E c a b w):=by
 let f1:=@pP st _ _ _ T _ P _ d 1 hc (show ↑R+↑E<=1900 by omega);let l1:=xE Y Pl R E c 1;let e:pkM Y Pl R E c a b w=((cQ Y Pl (cR Y Pl R E c 1).2.1 (cR Y Pl R E c 1).2.2 [(a,w),(b,w)]).2.1.length,(cQ Y Pl (cR Y Pl R E c 1).2.1 (cR Y Pl R E c 1).2.2 [(a,w),(b,w)]).2.1++[(.pick,w,(cR Y Pl R E c 1).1::(cQ Y Pl (cR Y Pl R E c 1).2.1 (cR Y Pl R E c 1).2.2 [(a,w),(b,w)]).1,)],(cQ Y Pl (cR Y Pl R E c 1).2.1 (cR Y Pl R E c 1).2.2 [(a,w),(b,w)]).2.2):=rfl;rw[e];generalize cR Y Pl R E c 1=q at f1 l1 ⊢;let(n,R1,E1):=q;dsimp only at f1 l1 ⊢;let l:=aBH Y Pl [(a,w),(b,w)] R1 E1;let hC:lv (d<$>3) aHh [J (dZ P (Y*>yD)),J (.d (Rw.d (.pick,w0,[c,a,b],))),(w:),(n:),qx,qx] (sM st R1 Pl E1 T)=J ((cQ Y Pl R1 E1 [(a,w),(b,w)]).1.map nD,sM st (cQ Y Pl R1 E1 [(a,w),(b,w)]).2.1 Pl (cQ Y Pl R1 E1 [(a,w),(b,w)]).2.2 T):=by
  refine @aBB _ _ ([(a,w),(b,w)].map λ q=>nD q.1) _ (.one 5) _ _ (lv (d<$>3) (.it (.sl (.var 1) (.cons (.int 3) .nil) .no))) (ev (d<$>3) (.mth "fetch" 62 (.var 0) (.cons (.var 5) (.cons (.var 2) .nil)))) U (yAc U) (yL (λ q=>nD q.1) _ (λ q=>rfl) _ R1 E1 (by simp;omega) λ q hq R E T h1=>?_);let hk:fR Y Pl q.1/\q.2=w:=by
   grind
  let(k,u):=q;let(hk,U):=hk;exact fD U U U (pP d u hk h1)
 let ct:cG .Add (.tuple [.str "pick",.int w,.int n]) (.tuple ((cQ Y Pl R1 E1 [(a,w),(b,w)]).1.map nD))=J (Rw.d (.pick,w,n::(cQ Y Pl R1 E1 [(a,w),(b,w)]).1,)):=aAk _ _ (by rw[yAf,l.2];exact yAc U);exact aV U U U (bA (fD {} U (aE (aM U U) (aE aF aQ)) f1) U (bA (cZ (eD hC) oC) U (aN (fD {} U (aE (aJ (eQ cC {} {}) {} ct) aQ) (rD (d+2) Ff (.pick,w,n::(cQ Y Pl R1 E1 [(a,w),(b,w)]).1,) (by have:=l.1;simp at this;omega)))))) lC
end
def bAS(a:G D)(k:Nat):gM a qx (J (k:Nat))=a.take k:=by
 unfold gM;let h0:HT.sIx ↑a 0 qx=0:=rfl;rw[h0];let h1:HT.sIx ↑a ↑a (J (k:Int))=min k ↑a:=by
  unfold HT.sIx;simp only[];split<;>omega
 rw[h1];simp_all
def aT1(d:Nat)(r:Rw)(ns:G Nat)(h:↑ns<=3)(ha:↑r.args<=10)(S:aD):cl fns (d+1) 8 [.d r.d,.d (ns*>nD)] S=J (.d (Rw.d (r.wd,r.w,ns++r.args.drop ↑ns,)),S):=by
 let lP:nE [(ns*>nD)]=J (.int ↑ns):=by
  show J (Iz ((↑(ns.map nD):Nat):Int))=_;rw[yAf]
 let ad:(2:Int)+(↑ns:_)=(2+↑ns:_):=();let rd:r.d=.tuple (.str r.wd.s::nD r.w::r.args.map nD):=rfl;let h1:gM (.str r.wd.s::nD r.w::r.args.map nD) qx (J 2)=[.str r.wd.s,nD r.w]:=(bAS _ 2).trans U;let h2:gM (.str r.wd.s::nD r.w::r.args.map nD) (J (2+↑ns:_)) qx=(r.args.drop ↑ns).map nD:=by
  rw[aIY,yDn 2,List.map_drop];rfl
 let h3:cG .Add (.tuple [.str r.wd.s,nD r.w]) (ns*>nD)=J (.tuple ([.str r.wd.s,nD r.w]++ns.map nD)):=aAk _ _ (by simp;omega);let h4:cG .Add (.tuple ([.str r.wd.s,nD r.w]++ns.map nD)) (.tuple ((r.args.drop ↑ns).map nD))=J (Rw.d (r.wd,r.w,ns++r.args.drop ↑ns,)):=by
  rw[aAk _ _ (by simp;omega)];show _=J (Tz (.str r.wd.s::nD r.w::(ns++r.args.drop ↑ns).map nD));rw[yAu];rfl
 rw[dU U d _ S U];rw[rd];erw[11,aG7,sQ,lP,kM,ad,h1,h2,h3,h4]
section
variable {st:Option (List D)}{R:List Rw}{Pl:Ps}{E:Es}{T:aD}{Y:Ys}{P YY:D}
def aRP(d:Nat)(r:Rw)(w:Nat)(hc:↑(bP r)=aZ r.wd)(hc3:aZ r.wd<=3)(hl:↑r.args<=10)(ho:∀ a∈bP r,fR Y Pl a)(hz:↑R+↑E<=1800):cl fns (d+4) 67 [dZ P (Y*>yD),.d r.d,.d (Iz w)] (sM st R Pl E T)=oX st Pl T (wkM Y Pl R E r w):=by
 let op:∀ S,cl fns (d+3) 7 [.d r.d] S=J (.d (Tz ((bP r).map nD)),S):=λ S=>lG (d+2) r S
 unfold wkM qS;let lm:↑((bP r).map λ k=>(k,w))=aZ r.wd:=by rw[yAf];exact hc
 let l:=aBH Y Pl ((bP r).map λ k=>(k,w)) R E;let h3:cG .Add (.tuple [.str r.wd.s,.int w]) (.tuple (r.args.map nD))=J (Rw.d (r.wd,w,r.args,)):=aAk _ _ (by rw[yAf];show 2+_<=_;omega);let hC:lv (d<$>3) aHi [J (dZ P (Y*>yD)),J (.d r.d),(w:),qx,qx] (sM st R Pl E T)=J ((cQ Y Pl R E ((bP r).map λ k=>(k,w))).1.map nD,sM st (cQ Y Pl R E ((bP r).map λ k=>(k,w))).2.1 Pl (cQ Y Pl R E ((bP r).map λ k=>(k,w))).2.2 T):=by
  refine @aBB _ _ (((bP r).map λ k=>(k,w)).map λ q=>nD q.1) _ (.one 4) _ _ (lv (d<$>3) (.it (.call 7 (.cons (.var 1) .nil)))) (ev (d<$>3) (.mth "fetch" 62 (.var 0) (.cons (.var 4) (.cons (.var 2) .nil)))) ?_ (by rw[yAf];omega) (yL (λ q=>nD q.1) _ (λ q=>rfl) _ R E () λ q hq R E T h1=>?_)
  .rw[yBa];erw[0,op,jE]
  .let(k,hk,U):=List.mem_map.mp hq;exact fD U U U (pP d w (ho k hk) h1)
 generalize cQ Y Pl R E ((bP r).map λ k=>(k,w))=q at l hC ⊢;let(ns,R1,E1):=q;dsimp only at l hC ⊢;let wp:=aT1 (d+2) (r.wd,w,r.args,) ns () hl (sM st R1 Pl E1 T);rw[show ↑ns=aZ r.wd by omega] at wp;exact aV U U U (bX (tZ hC U) (aN (fD {} U (aE (aT (aE (aJ (fJ (aM U (gJ r)) {}) (aCz {} (aB7 aF) aCD U (congrArg (J ∘ Tz) ((aIY _ 2).trans U))) h3) (aE (cZ {} oC) aQ)) wp) aQ) (rD (d+2) Ff (r.wd,w,ns++r.args.drop (aZ r.wd),) ())))) lC
end
def a0(r:Rw)(i:Nat):Nat:=r.args.getD i 0
def yo(Y:Ys)(a:Nat):Yw×Nat:=(Y.getD a qx).getD (.cut,0)
def fH(W:G Nat)(Y:Ys)(Pl:Ps)(R:G Rw)(E:Es)(r:Rw)(w:Nat):M3:=
 if (r.wd==.in)=Z then (↑R,R++[r],E) else
 if (r.wd==.num)=Z then (↑R,R++[(.num,w,[a0 r 0%2^w],)],E) else
 if (r.wd==.right||r.wd==.slide)=Z then zS Y Pl R E r (a0 r 0) (a0 r 1) w else
 if (r.wd==.cut)=Z then cR Y Pl R E (a0 r 0) w else
 if (r.wd==.wide||r.wd==.sign)=Z then vW Y Pl R E r.wd (a0 r 0) (g0 W (a0 r 0)) w else
 if kB r.wd=Z then aCM Y Pl R E r.wd (a0 r 0) (a0 r 1) (iS r.wd (yo Y (a0 r 0)) (yo Y (a0 r 1)) (g0 W (a0 r 0))) else
 if (r.wd==.pick)=Z then pkM Y Pl R E (a0 r 0) (a0 r 1) (a0 r 2) w else wkM Y Pl R E r w
def Cok(Y:Ys)(r:Rw):Prop:=kB r.wd=Z->∀ a∈bP r,∃ y,Y[a]?=J (J y)
section
variable {st:Option (List D)}{R:List Rw}{Pl:Ps}{E:Es}{T:aD}{Y:Ys}
def aUy(d:Nat)(f1:RwOk r ws)(o:D)(w:Nat)(hw:w<=64)(hr:∀ a∈bP r,∃ ra,K[a]?=J ra)(ho:∀ a∈bP r,fR Y Pl a)(hc:Cok Y r)(hz:↑R+↑E<=1800):cl fns (d+5) 69 [dZ (K<*o) (Y*>yD),.d (Rw.d r),.d (Iz w)] (sM st R Pl E T)=oX st Pl T (fH (~~~K) Y Pl R E r w):=by
 let wo:∀ {a:Nat}{ra:Rw},K[a]?=J ra->fR Y Pl a->∀ (wd:Wd) (w0:Nat),cl fns (d+4) 64 [dZ (K<*o) (Y*>yD),.d (Rw.d ⟨wd,w0,[a]⟩),.d (Iz w)] (sM st R Pl E T)=oX st Pl T (vW Y Pl R E wd a (g0 (~~~K) a) w):=λ hra ha wd w0=>by
  rw[iK hra];exact aSI d o wd w0 w hra ha hz
 let co:∀ {a b:Nat}{ra:Rw}{ya yb:Yw×Nat},K[a]?=J ra->fR Y Pl a->fR Y Pl b->Y[a]?=J (J ya)->Y[b]?=J (J yb)->∀ (wd:Wd) (w0:Nat),kB wd=Z->aZ wd=2->cl fns (d+4) 66 [dZ (K<*o) (Y*>yD),.d (Rw.d ⟨wd,w0,[a,b]⟩)] (sM st R Pl E T)=oX st Pl T (aCM Y Pl R E wd a b (iS wd (yo Y a) (yo Y b) (g0 (~~~K) a))):=λ {a b ra ya yb} hra ha hb hya hyb wd w0 hcw hcn=>by
  rw[iK hra,show yo Y a=ya by unfold yo;rw[xAg,hya];rfl,show yo Y b=yb by unfold yo;rw[xAg,hyb];rfl];exact aPq d o wd hcw hcn w0 hra ha hb hya hyb hz
 generalize (Tz [(K*>Rw.d),o])=P at wo co ⊢;let go:∀ {r:Rw}{x:M3},xs (d<$>4) (bL aIt) [J (dZ P (Y*>yD)),J (.d r.d),(w:),J (.d (Sz r.wd.s))] (sM st R Pl E T)=J (.rt (.d (Iz (x.1:Nat))),sM st x.2.1 Pl x.2.2 T)->cl fns (d+5) 69 [dZ P (Y*>yD),.d r.d,.d (Iz w)] (sM st R Pl E T)=oX st Pl T x:=λ {r x} h=>aV U U U (bA (aM U (gJ r)) U h) lC
 let wk:∀ r:Rw,decide (r.wd=.in)=Ff->decide (r.wd=.num)=Ff->bO .In (.str r.wd.s) (.tuple [.str "right",.str "slide"])=J (.bool Ff)->decide (r.wd=.cut)=Ff->bO .In (.str r.wd.s) (tG*>Tv.d)=J (.bool Ff)->bO .In (.str r.wd.s) (nT*>Tv.d)=J (.bool Ff)->decide (r.wd=.pick)=Ff->↑(bP r)=aZ r.wd->aZ r.wd<=3->↑r.args<=10->(∀ a∈bP r,fR Y Pl a)->cl fns (d+5) 69 [dZ P (Y*>yD),.d r.d,.d (Iz w)] (sM st R Pl E T)=oX st Pl T (wkM Y Pl R E r w):=λ r h1 h2 h3 h4 h5 h6 h7 i1 i2 i3 ho=>go (nW .in rfl h1 (nW .num U h2 (nI U U h3 (nW .cut U h4 (nI U U h5 (nI U U h6 (nW .pick U h7 (aN (gF U U U (aRP d r w i1 i2 i3 ho hz))))))))))
 let two:∀ wd w0 a b,(∀ x∈bP ⟨wd,w0,[a,b]⟩,fR Y Pl x)->bP ⟨wd,w0,[a,b]⟩=[a,b]->fR Y Pl a/\fR Y Pl b:=λ wd w0 a b h e=>by
  rw[e] at h;exact(h a xAc,h b (by simp),)
 cases f1 with
 |inp h1 h2=>exact go (yW (a:=.in) U (aN (fD {} U (aE {} aQ) (rD (d+3) Ff (.in,_,[],) ()))))
 |num h1 h2 hn=>
   rename_i w0 n;exact go (nW (a:=.num) .in rfl U (yW (a:=.num) U (aN (fD {} U (aE (eQ cC {} (aJ (aM U U) (bY U (dL (d+3) w () _)) (by rw[nD,dB,yCz];rfl))) aQ) (rD (d+3) Ff (.num,w,[n%2^w],) ())))))
 |nt h1 h2=>exact wk _ U U U U U U U U (yAc U) (yAc U) ho
 |sh h1 h2 aP hk=>
   erw[50,aP]
   .exact wk _ U U U U U U U U (yAc U) (yAc U) ho
   all_goals exact go (nW .in rfl U (nW .num U U (yI U U U (aN (gF U U U (aRn d _ _ _ w (ho _ xAc) hz))))))
 |cut h1 hv h2=>exact go (nW (a:=.cut) .in rfl U (nW .num U U (nI U U U (yW (a:=.cut) U (aN (fD {} U (aE (aM U U) (aE {} aQ)) (pP (d+1) w (ho _ xAc) ())))))))
 |wide h1 hv h2=>
   let(ra,hra):=hr _ xAc;exact go (nW (a:=.wide) .in rfl U (nW .num U U (nI U U U (nW .cut U U (yI U U U (aN (gF U U U (wo hra (ho _ xAc) _ _))))))))
 |sign h1 hv h2=>
   let(ra,hra):=hr _ xAc;exact go (nW (a:=.sign) .in rfl U (nW .num U U (nI U U U (nW .cut U U (yI U U U (aN (gF U U U (wo hra (ho _ xAc) _ _))))))))
 |bw h1 h2 aP=>erw[50,aP]<;>exact wk _ U U U U U U U U (yAc U) (yAc U) ho
 |sm h1 h2=>
   rename_i s _ _ _;cases s<;>exact wk _ U U U U U U U U (yAc U) (yAc U) ho
 |cmp h1 h2 aP=>
   rename_i wd v a b;let e:bP (wd,1,[a,b],)=[a,b]:=by erw[50,aP]<;>rfl
   let(fa,fb):=two wd 1 a b ho e;let(ra,hra):=hr a (by rw[e];simp);erw[50,aP]
   all_goals
    let(ya,hya):=hc U a (by rw[e];simp);let(yb,hyb):=hc U b (by rw[e];simp);exact go (nW .in rfl U (nW .num U U (nI U U U (nW .cut U U (nI U U U (yI U U U (aN (cT U U (co hra fa fb hya hyb _ 1 U U)))))))))
 |pick h1 h2=>
   rename_i w0 c a b;exact go (nW (a:=.pick) .in rfl U (nW .num U U (nI U U U (nW .cut U U (nI U U U (nI U U U (yW (a:=.pick) U (aN (gF U U U (aSJ d w0 w (ho c (by simp[bP,aZ])) (ho a (by simp[bP,aZ])) (ho b (by simp[bP,aZ])) hz))))))))))
end
def kH:G Rw->Nat
 |[]=>0
 |r::K=>if r.wd=.in then kH K+1 else kH K
def aBp(r:Rw)(K:G Rw)(W is aG:G Nat):cN (r::K) W is aG=if r.wd=.in then cN K W is.tail (aG++[g0 is 0]) else cN K W is (aG++[cV r (bE r W) (bE r aG)]):=rfl
def aI6(r:Rw)(K:G Rw):kH (r::K)=if r.wd=.in then kH K+1 else kH K:=rfl
def wV(W:G Nat):∀ (a b:G Rw) (is aG:G Nat),cN (a++b) W is aG=cN b W (is.drop (kH a)) (cN a W is aG)
 |[],b,is,aG=>rfl
 |r::a,b,is,aG=>by
   rw[yGm,aBp,aBp,aI6];by_cases c:r.wd=.in
   .rw[if_pos c,if_pos c,if_pos c,wV W a b,List.drop_tail]
   .rw[if_neg c,if_neg c,if_neg c,wV W a b]
def aKI{r:Rw}{W:G Nat}(h:∀ a∈r.args.take (aZ r.wd),a<↑W):bE r (W++X)=bE r W:=by
 unfold bE;refine yBs λ a ha=>?_
 show(W++X).getD a 0=W.getD a 0;rw[xAg,xAg,xAm (h a ha)]
def aFe{W:G Nat}:∀ (K:G Rw) (is aG:G Nat),(∀ r∈K,∀ a∈r.args.take (aZ r.wd),a<↑W)->cN K (W++X) is aG=cN K W is aG
 |[],is,aG,_=>rfl
 |r::K,is,aG,h=>by
   let ih:=λ is aG=>@aFe X _ K is aG λ q m=>h q (xAf _ m)
   unfold cN;split
   .exact ih _ _
   .rw[aKI (h r xAc)];exact ih _ _
noncomputable abbrev rn(K:List Rw)(is:List Nat):List Nat:=cN K (~~~K) is []
def vX(Q:G Rw)(is:G Nat)(r:Rw):Nat:=if r.wd=.in then g0 is (kH Q) else cV r (bE r (Q.map (·.w))) (bE r (rn Q is))
def aLN(hf:mD K):∀ r∈K,∀ a∈r.args.take (aZ r.wd),a<↑K:=λ r m a ha=>by
 let(j,hj):=yEg m;have:=(hf j r hj).2 a ha;have:=(gIm hj).1;omega
def pU(Q:G Rw)(is:G Nat):↑(rn Q is)=↑Q:=by unfold rn;rw[wR];simp
def aKG(l:G Nat)(n:Nat):g0 (l.drop n) 0=g0 l n:=by show(l.drop n).getD 0 0=l.getD n 0;rw[xAg,xAg,yHf,yIb]
def aKo{r:Rw}(hf:mD Q)(hr:∀ a∈r.args.take (aZ r.wd),a<↑Q)(is:G Nat):rn (Q++[r]) is=rn Q is++[vX Q is r]:=by
 let e:(Q++[r]).map (·.w)=Q.map (·.w)++[r.w]:=by rw[yAu];rfl
 unfold rn;rw[wV,e,aFe Q is [] λ q m a ha=>by rw[yAf];exact aLN hf q m a ha];rw[aBp];unfold vX;by_cases c:r.wd=.in
 .rw[if_pos c,if_pos c,aKG];rfl
 .rw[if_neg c,if_neg c,aKI λ a ha=>by rw[yAf];exact hr a ha];rfl
def aLn(l:G Nat)(x:Nat):g0 (l++[x]) ↑l=x:=by show(l++[x]).getD ↑l 0=x;rw[xAg,yAh (yAd _),yBe];rfl
def aWj(hr:K[j]?=J r)(hi:r.wd=.in)(is:G Nat):g0 (rn K is) j=g0 is (kH (K.take j)):=by
 let hj:=(gIm hr).1;let e:K=K.take j++r::K.drop (j+1):=by
  let h:=(gIm hr).2;rw[<- h,<- yEe hj,List.take_append_drop]
 let l:↑(cN (K.take j) (~~~K) is [])=j:=by
  rw[wR,yBl];simp;omega
 unfold rn
 conv=>lhs;rw[show cN K (~~~K) is []=cN (K.take j++r::K.drop (j+1)) (~~~K) is [] by rw[<- e]]
 rw[wV,aBp,if_pos hi];let(t,ht):=wO (K.drop (j+1)) (~~~K) (is.drop (kH (K.take j))).tail (cN (K.take j) (~~~K) is []++[g0 (is.drop (kH (K.take j))) 0]);rw[ht,aKG];show((_++[_])++t).getD j 0=_;rw[xAg,xAm (by simp;omega),yAh (),l,yBe];rfl
def dI(r:Rw):Bool:=decide (r.wd=.in)
def aEF:∀ l:G Rw,kH l=↑(l.filter dI)
 |[]=>rfl
 |r::l=>by
   rw[aI6,aEF l,yCe];unfold dI
   grind
noncomputable abbrev wQ(l:List Rw):List Nat:=l.map (·.w)
def aZB{K:G Rw}{j:Nat}{r:Rw}(hr:K[j]?=J r):K.take (j+1)=K.take j++[r]:=by rw[List.take_succ,hr];rfl
def aLP(p:Prg K)(hi:cM K is)(hr:K[j]?=J r):g0 (rn K is) j<2^r.w:=by let hj:=(gIm hr).1;exact aB4 p hi (pT (by rw[pU];exact hj)) (by rw[yAe,hr];rfl)
def pY(h:l[a]?=J v):g0 l a=v:=by show l.getD a 0=v;rw[xAg,h];rfl
def aVv(p:Prg K)(hr:K[j]?=J r)(ni:r.wd≠.in)(is:G Nat):g0 (rn K is) j=cV r (bE r (wQ K)) (bE r (rn K is)):=pY (aEE p.fit is hr ni)
def xT:∀ (K:G Rw) (is:G Nat),cM K is ↔ cM (K.filter dI) is
 |[],is=>Iff.rfl
 |r::K,is=>by
   by_cases c:r.wd=.in
   .have e:(r::K).filter dI=r::K.filter dI:=by rw[yCe,show dI r=Z from dqT c,if_pos U]
    rw[e];unfold cM;rw[if_pos c,if_pos c];constructor
    .rintro ⟨n,is',e1,e2,e3⟩;exact(n,is',e1,e2,(xT K is').mp e3,)
    .rintro ⟨n,is',e1,e2,e3⟩;exact(n,is',e1,e2,(xT K is').mpr e3,)
   .have e:(r::K).filter dI=K.filter dI:=by rw[yCe,show dI r=Ff from dqF c,if_neg (·)]
    rw[e];show(if r.wd=.in then _ else cM K is) ↔ _;rw[if_neg c];exact xT K is
def dO(y:Yw)(kept w u:Nat):Nat:=if y=.sign then cI u kept w else u
def eV(Y:Ys)(W:G Nat)(Pl:Ps)(U:G Nat)(a:Nat):Nat:=match Y.getD a qx with|none=>0|some (y,kept)=>dO y kept (g0 W a) (g0 U ((Pl.getD a qx).getD 0))
def aXw{l:G Nat}(h:a<↑l):g0 (l++t) a=g0 l a:=by show(l++t).getD a 0=l.getD a 0;rw[xAg,xAg,xAm h]
def uB(hf:mD R)(is:G Nat)(h:a<↑R):g0 (rn (R++X) is) a=g0 (rn R is) a:=by let e:(R++X).map (·.w)=R.map (·.w)++X.map (·.w):=yAu;unfold rn;rw[wV,e,aFe R is [] λ q m a ha=>by rw[yAf];exact aLN hf q m a ha];let(t,ht):=wO X (R.map (·.w)++X.map (·.w)) (is.drop (kH R)) (cN R (R.map (·.w)) is []);rw[ht,aXw (by rw[show↑(cN R (R.map (·.w)) is [])=↑R from pU R is];exact h)]
def yZ{R X:G Rw}{q v:Nat}(h:(wQ R)[q]?=J v):(wQ (R++X))[q]?=J v:=by unfold wQ at *;rw[yAu,xAm (gIm h).1];exact h
def pZ(h:(wQ R)[q]?=J v):q<↑R:=by have:=(gIm h).1;rw[yAf] at this;exact this
def aKE{R X:G Rw}{p:Nat}{r:Rw}(h:R[p]?=J r):(R++X)[p]?=J r:=by rw[xAm (gIm h).1];exact h
def aBG(R:G Rw)(r:Rw):(R++[r])[↑R]?=J r:=by rw[yAh (yAd _),yBe];rfl
def jW{r:Rw}(h:(r.wd==.in)=Ff):r.wd≠.in:=λ z=>by rw[z] at h;cases h
structure Pg(I:List Nat->Prop)(R:List Rw)(E:Es):Prop where
 ok:dG [] R
 bd:∀ is,I is->∀ q v,(wQ R)[q]?=J v->g0 (rn R is) q<2^v
 mi:∀ p∈E,R[p.2]?=J p.1
structure Gq(I:List Nat->Prop)(R:List Rw)(E:Es)(c w:Nat)(f:List Nat->Nat)(x:M3):Prop where
 g:Pg I x.2.1 x.2.2
 pre:∃ X,x.2.1=R++X
 ni:x.2.1.filter dI=R.filter dI
 r:x.2.1.length<=↑R+c
 e:x.2.2.length<=↑E+c
 w:(wQ x.2.1)[x.1]?=J w
 v:∀ is,I is->g0 (rn x.2.1 is) x.1=f is
def Gq.on{I:G Nat -> Prop}{R:G Rw}{E:Es}{R1:G Rw}{E1:Es}{a b c w:Nat}{f:G Nat->Nat}{x:M3}(h:Gq I R1 E1 b w f x)(p:∃ X,R1=R++X)(n:R1.filter dI=R.filter dI)(r:↑R1<=↑R+a)(e:↑E1<=↑E+a)(c1:a+b<=c):Gq I R E c w f x:=by let(X,U):=p;let(Z,hZ):=h.pre;have:=h.r;have:=h.e;exact(h.g,(X++Z,by rw[hZ,yBg],),h.ni.trans n,(),(),h.w,h.v,)
def Gq.f{I:G Nat -> Prop}{R:G Rw}{E:Es}{c w:Nat}{f f':G Nat->Nat}{x:M3}(h:Gq I R E c w f x)(e:∀ is,I is->f is=f' is):Gq I R E c w f' x:=(h.g,h.pre,h.ni,h.r,h.e,h.w,λ is hi=>(h.v is hi).trans (e is hi),)
def Gq.c{I:G Nat -> Prop}{R:G Rw}{E:Es}{c c' w:Nat}{f:G Nat->Nat}{x:M3}(h:Gq I R E c w f x)(e:c<=c'):Gq I R E c' w f x:=(h.g,h.pre,h.ni,xAh h.r (yDt e _),xAh h.e (yDt e _),h.w,h.v,)
def aUF(h:dG [] R)(hr:fP (wQ R) r):RwOk r (bE r (wQ R))/\∀ a∈r.args.take (aZ r.wd),a<↑R:=by
 have:=aKj (n:=↑R) (W:=wQ R) (λ a v e=>?_) hr
 .exact this
 .have hl:=pZ e;let e':=e;rw[yAe,yAa hl] at e';cases e';have:=(lL h).2 a _ (yAa hl);exact(pY e,this.1,this.2,hl,)
def aBX{I:G Nat -> Prop}{E:Es}(h:Pg I R E)(hr:fP (wQ R) r)(ni:r.wd≠.in):Gq I R E 1 r.w (λ is=>cV r (bE r (wQ R)) (bE r (rn R is))) (↑R,R++[r],E):=by
 let(f1,f2):=aUF h.ok hr;let fo:=(lL h.ok).1;let sn:=λ is=>aKo fo f2 is
 let vl:∀ is,vX R is r=cV r (bE r (wQ R)) (bE r (rn R is)):=λ is=>if_neg ni
 let new:∀ is,g0 (rn (R++[r]) is) ↑R=cV r (bE r (wQ R)) (bE r (rn R is)):=λ is=>by
  rw[sn,vl,<- pU R is,aLn]
 let we:(wQ (R++[r]))[↑R]?=J r.w:=by
  unfold wQ;rw[yAe,aBG];rfl
 refine((tH h.ok (by rw[yEk];exact hr),λ is hi q v hv=>?_,λ p hp=>aKE (h.mi p hp),),(_,U,),?_,by simp,yGg _,we,λ is _=>new is,)
 .by_cases c:q<↑R
  .rw[uB fo is c];refine h.bd is hi q v ?_
   grind
  .have:q=↑R:=by have:=pZ hv;simp at this;omega
   subst this;rw[we] at hv;cases hv;dsimp only;rw[new is];exact aE2 f1 (xF (λ i a w h1 h2=>by rw[<- pY h1];exact h.bd is hi i w h2) _ λ a ha=>(by rw[pU];exact f2 a ha,by rw[yAf];exact f2 a ha,))
 .rw[yEw,show [r].filter dI=[] by rw[yCe,show dI r=Ff from dqF ni];rfl,yBc]
def aVE(a b:Wd)(h:a.s=b.s):a=b:=by let e:=fS a b;rw[<- h,fS a a,dqT U] at e;simp_all
def aTE(h:kG q=kG r):q=r:=by
 let(a,b,c):=q;let(a',b',c'):=r;unfold kG at h;let(h1,h):=List.cons.inj h;let(h2,h3):=List.cons.inj h;let e1:a=a':=aVE _ _ (Sum.inr.inj h1);let e2:b=b':=by have:=Sum.inl.inj h2;omega
 let e3:c=c':=(List.map_inj_right (λ x y hxy=>by have:=Sum.inl.inj hxy;omega)).mp h3;rw[e1,e2,e3]
def tW{I:G Nat -> Prop}{E:Es}(h:Pg I R E)(hr:fP (wQ R) r)(ni:r.wd≠.in):Gq I R E 1 r.w (λ is=>cV r (bE r (wQ R)) (bE r (rn R is))) (kK R E r):=by
 unfold kK;cases hv:fK (iQ E) (kG r) with
 |none=>
   let a:=aBX h hr ni;refine((a.g.ok,a.g.bd,λ p hp=>?_,),a.pre,a.ni,a.r,by simp,a.w,a.v,);rcases List.mem_append.mp hp with hp|hp
   .exact a.g.mi p hp
   .obtain rfl:=List.mem_singleton.mp hp;exact aBG R r
 |some i=>
   unfold fK iQ at hv;let(p,h1,h2):=Option.map_eq_some_iff.mp hv;let hm:=List.mem_of_find?_eq_some h1;let hk:=List.find?_some h1;let(q,hq,U):=List.mem_map.mp hm;let g1:=h.mi q hq;rw[aTE (oqT hk:kG q.1=kG r)] at g1;subst h2;exact(h,([],by simp,),U,yGg _,yGg _,(by simp_all),λ is _=>pY (aEE (lL h.ok).1 is g1 ni),)
def HQ(Y:Ys)(W:G Nat)(Pl:Ps)(R:G Rw)(k:Nat):Prop:=∃ y,Y[k]?=J y/\∀ a b,y=J (a,b)->(1<=b/\b<=g0 W k)/\∃ p,Pl[k]?=J (J p)/\(wQ R)[p]?=J b
def HQ.pre{W:G Nat}(h:HQ Y W Pl R k):HQ Y W Pl (R++X) k:=by let(y,hy,hp):=h;refine(y,hy,λ a b e=>?_,);let(h0,p,h1,h2):=hp a b e;exact(h0,p,h1,yZ h2,)
def HQ.pl{W:G Nat}(x:Oz Nat)(h:HQ Y W Pl R k):HQ Y W (Pl++[x]) R k:=by let(y,hy,hp):=h;refine(y,hy,λ a b e=>?_,);let(h0,p,h1,h2):=hp a b e;exact(h0,p,by rw[xAm (gIm h1).1];exact h1,h2,)
def HQ.f{W:G Nat}(h:HQ Y W Pl R k):fR Y Pl k:=by let(y,hy,hp):=h;exact(y,hy,λ a b e=>let ⟨_,p,h1,_⟩:=hp a b e;(p,h1,),)
def HQ.is{W:G Nat}(h:HQ Y W Pl R k):(Y.getD k qx=qx/\∀ U,eV Y W Pl U k=0)\/∃ y b p,Y.getD k qx=J (y,b)/\1<=b/\b<=g0 W k/\Pl.getD k qx=J p/\(wQ R)[p]?=J b/\∀ U,eV Y W Pl U k=dO y b (g0 W k) (g0 U p):=by
 let(y,hy,hp):=h;let eY:Y.getD k qx=y:=by rw[xAg,hy];rfl
 unfold eV;rw[eY];cases y with
 |none=>exact .inl (rfl,λ _=>rfl,)
 |some q=>
   let(a,b):=q;let((h0,h0'),p,h1,h2):=hp a b rfl;let eP:Pl.getD k qx=J p:=by rw[xAg,h1];rfl
   refine .inr (a,b,p,rfl,h0,h0',eP,h2,λ U=>?_,);rw[eP];rfl
def aEJ(hu:u<2^b)(h1:1<=b)(hb:b<=w):dO y b w u<2^w:=by
 unfold dO;split
 .exact mP hu h1 hb
 .exact xAb hu (yAl (·) hb)
def rV{I:G Nat -> Prop}{E:Es}{W:G Nat}(h:Pg I R E)(hi:I is)(hk:HQ Y W Pl R k):eV Y W Pl (rn R is) k<2^g0 W k:=by
 rcases hk.is with ⟨_,e⟩|⟨y,b,p,_,h1,h2,_,h3,e⟩
 .rw[e];exact xAe _
 .rw[e];exact aEJ (h.bd is hi p b h3) h1 h2
def aED{W:G Nat}(hf:mD R)(is:G Nat)(hk:HQ Y W Pl R k):eV Y W Pl (rn (R++X) is) k=eV Y W Pl (rn R is) k:=by
 rcases hk.is with ⟨_,e⟩|⟨y,b,p,_,h1,h2,_,h3,e⟩
 .rw[e,e]
 .rw[e,e,uB hf is (pZ h3)]
def xB(hu:u<2^b)(h1:1<=b)(hb:b<=v)(hv:v<=w):cI u b w%2^v=cI u b v:=by
 apply xAl;intro i;rw[yAk,fX hu h1 (xAh hb hv),fX hu h1 hb];by_cases c:i<v
 .rw[dqT c,dqT (xAb c hv),yAp]
 .rw[dqF c,yAw,if_neg (),yAw]
def aEC(h:a<=b):e%2^b%2^a=e%2^a:=Nat.mod_mod_of_dvd _ (Nat.pow_dvd_pow 2 h)
def aKD(hu:u<2^b)(h1:1<=b)(hv:v<=b)(hw:b<=w):cI u b w%2^v=u%2^v:=by
 have:cI u b b=u:=by
  apply xAl;intro i;rw[fX hu h1 (yAd _)];by_cases c:i<b
  .rw[if_pos c]
  .rw[if_neg c,dqF c,yAw,cS hu (yDg c)]
 rw[<- aEC hv,xB hu h1 (yAd _) hw,this]
def aWG(hu:u<2^b)(h1:1<=b)(hw:b<=w):(v<=b->dO y b w u%2^v=u%2^v)/\(b<=v->v<=w->dO y b w u%2^v=dO y b v u):=by
 unfold dO;split
 .exact(λ h=>aKD hu h1 h hw,λ h h'=>xB hu h1 h h',)
 .exact(λ _=>rfl,λ h _=>yBm (xAb hu (yAl (·) h)),)
def wU{I:G Nat -> Prop}{E:Es}{W:G Nat}(h:Pg I R E)(hk:HQ Y W Pl R k)(h1:1<=w)(hw:w<=g0 W k)(h64:w<=64):Gq I R E 1 w (λ is=>eV Y W Pl (rn R is) k%2^w) (cR Y Pl R E k w):=by
 unfold cR;rcases hk.is with ⟨e0,e⟩|⟨y,b,p,e0,b1,b2,eP,h3,e⟩
 .rw[e0];dsimp only;refine(tW (r:=(.num,w,[0],)) h (h1,h64,xAe w,) (jW U)).f λ is _=>?_
  rw[e];exact(Nat.zero_mod _).symm
 .rw[e0];dsimp only;rw[eP];let bd:=λ is (hi:I is)=>h.bd is hi p b h3
  let xm:=λ is (hi:I is)=>@aWG _ _ _ w y (bd is hi) b1 b2
  by_cases c:b=w
  .rw[if_pos c];subst c;refine(h,([],by simp,),U,yGg _,yGg _,h3,λ is hi=>?_,);rw[e,(xm is hi).1 (yAd _),yBm (bd is hi)];rfl
  .rw[if_neg c];by_cases g:w<b
   .rw[if_pos g];refine(tW (r:=(.cut,w,[p],)) h (h1,h64,b,h3,yCv g,) (jW U)).f λ is hi=>?_
    rw[e,(xm is hi).1 (yCv g)];rfl
   .rw[if_neg g];by_cases s:y=.sign
    .rw[if_pos s];refine(tW (r:=(.sign,w,[p],)) h (h1,h64,b,h3,by show b<=w;omega,) (jW U)).f λ is hi=>?_
     rw[e,(xm is hi).2 () hw];unfold dO;rw[if_pos s];show cI (g0 (rn R is) p) (g0 (wQ R) p) w=_;rw[pY h3]
    .rw[if_neg s];refine(tW (r:=(.wide,w,[p],)) h (h1,h64,b,h3,by show b<=w;omega,) (jW U)).f λ is hi=>?_
     rw[e,(xm is hi).2 () hw];unfold dO;rw[if_neg s];rfl
abbrev Fq(Y:Ys)(W:List Nat)(Pl:Ps)(R:List Rw)(l:List (Nat×Nat)):Prop:=∀ q∈l,HQ Y W Pl R q.1/\1<=q.2/\q.2<=g0 W q.1/\q.2<=64
structure Gl(I:List Nat->Prop)(Y:Ys)(W:List Nat)(Pl:Ps)(R:List Rw)(E:Es)(l:List (Nat×Nat))(x:List Nat×List Rw×Es):Prop where
 g:Pg I x.2.1 x.2.2
 pre:∃ X,x.2.1=R++X
 ni:x.2.1.filter dI=R.filter dI
 r:x.2.1.length<=↑R+↑l
 e:x.2.2.length<=↑E+↑l
 at_:Paired (λ(q:Nat×Nat) n=>(wQ x.2.1)[n]?=J q.2/\∀ is,I is->g0 (rn x.2.1 is) n=eV Y W Pl (rn x.2.1 is) q.1%2^q.2) l x.1
section
variable {I:List Nat->Prop}{Y:Ys}{W:List Nat}{Pl:Ps}
def aE3:∀ (l:G (Nat×Nat)) {R:G Rw}{E:Es},Pg I R E->Fq Y W Pl R l->Gl I Y W Pl R E l (cQ Y Pl R E l)
 |[],R,E,h,_=>(h,([],(yBc _).symm,),U,yAd _,yAd _,.nil,)
 |q::l,R,E,h,ho=>by
   let(k1,k2,k3,k4):=ho q xAc;let a:=wU h k1 k2 k3 k4;unfold cQ;generalize cR Y Pl R E q.1 q.2=x at a ⊢;let(x0,R1,E1):=x;let(g,(X,hX),ni,r,e,w,v):=a;dsimp only at *;let b:=aE3 (R:=R1) (E:=E1) l g (λ z hz=>by
    let(j1,j2):=ho z (xAf _ hz);rw[hX];exact(j1.pre,j2,))
   let(g',(Z,hZ),ni',r',e',at'):=b;refine(g',(X++Z,by simp_all,),ni'.trans ni,by dsimp only;rw[yAo];omega,by dsimp only;rw[yAo];omega,.cons ?_ at',);dsimp only;rw[hZ];refine(yZ w,λ is hi=>(uB (lL g.ok).1 is (pZ w)).trans ((v is hi).trans ?_),);rw[hX,yBg,aED (lL h.ok).1 is k1]
end
def aMa{I:G Nat -> Prop}{E:Es}{W:G Nat}(h:Pg I R E)(l:G (Nat×Nat))(hl:Fq Y W Pl R l)(hc:↑l<=3)(f:G Nat->Rw)(w:Nat)(v:G Nat->Nat)(hf:∀ (W':G Nat) (ns:G Nat),Paired (λ(q:Nat×Nat) n=>W'[n]?=J q.2) l ns->fP W' (f ns)/\(f ns).w=w/\(f ns).wd≠.in)(hv:∀ (W' U ns is:G Nat),I is->Paired (λ(q:Nat×Nat) n=>W'[n]?=J q.2/\g0 U n=eV Y W Pl (rn R is) q.1%2^q.2) l ns->cV (f ns) (bE (f ns) W') (bE (f ns) U)=v is) :
 Gq I R E 4 w v (qS Y Pl R E l f):=by
 let a:=aE3 l h hl;unfold qS;generalize cQ Y Pl R E l=x at a ⊢;let(ns,R1,E1):=x;let(g,(X,hX),ni,r,e,at'):=a;dsimp only at *;let(f1,f2,f3):=hf (wQ R1) ns (L2.Paired.mapP at' λ _ _ z=>z.1);let n:=aBX g f1 f3;rw[f2] at n;refine(n.f λ is hi=>hv _ _ _ is hi ?_).on (X,hX,) ni r e (show ↑l+1<=4 by omega);let key:∀ (l:G (Nat×Nat)) (ns:G Nat),Fq Y W Pl R l->Paired (λ(q:Nat×Nat) n=>(wQ R1)[n]?=J q.2/\∀ is,I is->g0 (rn R1 is) n=eV Y W Pl (rn R1 is) q.1%2^q.2) l ns->Paired (λ(q:Nat×Nat) n=>(wQ R1)[n]?=J q.2/\g0 (rn R1 is) n=eV Y W Pl (rn R is) q.1%2^q.2) l ns:=λ l=>by
  induction l with
  |nil=>intro ns _ p;cases p;exact .nil
  |cons q l ih=>
    intro ns hq p;cases p with
    |cons p1 p2=>
      refine .cons (p1.1,?_,) (ih _ (λ z hz=>hq z (xAf _ hz)) p2);rw[p1.2 is hi]
      conv=>lhs;rw[hX]
      rw[aED (lL h.ok).1 is (hq q xAc).1]
 exact key l ns hl at'
def aUm(hq:q<=w)(he:e<2^w):2^q-1-e%2^q=(2^w-1-e)%2^q:=by
 apply xAl;intro i;let c1:=mR (yGh e (xAe q)) i;let c2:=mR he i;unfold pK at c1 c2;rw[yAk,c1,c2,yAk];by_cases c:i<q
 .rw[dqT c,dqT (xAb c hq)];cases e[i]!<;>rfl
 .rw[dqF c,yAw,yAw]
def aWV{wd:Wd}(hq:q<=w):vP wd q (a%2^q) (b%2^q)=vP wd w a b%2^q:=by
 let m:∀ {x y:Int},x%(2^q:_)=y%(2^q:_)->cH x q=cH y w%2^q:=λ {x y} e=>by
  rw[aEV y hq];unfold cH;rw[e]
 unfold vP;split
 .exact(Nat.and_mod_two_pow ..).symm
 .exact(Nat.or_mod_two_pow ..).symm
 .exact(Nat.xor_mod_two_pow ..).symm
 .exact m (by rw[yBu,yBu,<- Int.add_emod])
 .exact m (by rw[yBu,yBu,<- Int.sub_emod])
 .exact m (by rw[yBu,yBu,<- Int.mul_emod])
def aRG(hq:q<=w):a%2^q*2^k%2^q=a*2^k%2^w%2^q:=by rw[aEC hq,Nat.mod_mul_mod]
def aV7{wd:Wd}(aP:wd=.right\/wd=.slide)(h1:1<=q)(hq:q<=w)(he:e<2^w):sS wd (min w (q+s)) (e%2^min w (q+s)) s%2^q=sS wd w e s%2^q:=by
 by_cases c:w<=q+s
 .rw[yEj c,yBm he]
 .have c':q+s<=w:=();rw[yEt c'];let hm:=yGh e (xAe (q+s));apply xAl;intro i;rw[yAk,yAk];by_cases d:i<q
  .have b:(e%2^(q+s))[(s+i)]! =e[(s+i)]!:=by rw[yAk,dqT (show s+i<q+s by omega),yAp]
   rcases aP with rfl|rfl
   .show(_&&(_/2^s)[i]!)=(_&&(e/2^s)[i]!);rw[fN,fN,b]
   .show(_&&(cI _ (q+s) (q+s+s)/2^s)[i]!)=(_&&(cI e w (w+s)/2^s)[i]!);rw[fN,fN,fX hm () (),fX he () (),if_pos (show s+i<q+s by omega),if_pos (show s+i<w by omega),b]
  .rw[dqF d,yAw,yAw]
def bAf{wd:Wd}(aP:wd=.right\/wd=.slide)(h1:1<=v)(he:e<2^v):sS wd v e s<2^v:=by
 rcases aP with rfl|rfl
 .exact xAi (yGv _ _) he
 .show cI e v (v+s)/2^s<2^v;rw[yEb (xAe s),<- yEq];exact mP he h1 ()
def aEp(hx:x<2^g)(h1:1<=g)(hg:g<=w):cI x g w=if x<2^(g-1) then x else x+(2^w-2^g):=by
 let hp:2^g<=2^w:=yAl (·) hg;split
 .rename_i c;apply xAl;intro i;rw[fX hx h1 hg];by_cases d:i<g
  .rw[if_pos d]
  .rw[if_neg d,cS c (yAd _),yGj,cS hx (yDg d)]
 .rename_i c;let t:x[(g-1)]! =Z:=by
   let tb:=aKH hx h1;cases e:x[(g-1)]! with
   |true=>rfl
   |false=>
     rw[e] at tb;let z:x/2^(g-1)=0:=tb;exact absurd (Nat.lt_of_div_eq_zero (xAe _) z) c
  let e1:x+(2^w-2^g)=x+2^g*(2^(w-g)-1):=by rw[Nat.mul_sub,<- yEq,yEr hg,Nat.mul_one]
  apply xAl;intro i;rw[fX hx h1 hg,e1,yDn,Nat.testBit_two_pow_mul_add _ hx];by_cases d:i<g
  .rw[if_pos d,if_pos d]
  .rw[if_neg d,if_neg d,Nat.testBit_two_pow_sub_one,t,yCu,decide_eq_decide];omega
def aOk(h:1<=g):2^g=2*2^(g-1):=by conv=>lhs;rw[show g=g-1+1 by omega,yFc,yHx]
def aWQ{wd:Wd}(hx:x<2^g)(hy:y<2^g)(h1:1<=g)(hg:g<=w):mM wd g x y=mM wd w (cI x g w) (cI y g w):=by
 let hp:2^g<=2^w:=yAl (·) hg;let hq:2^(g-1)<=2^(w-1):=yAl (·) ();let d1:2^g=2*2^(g-1):=aOk h1;let d2:2^w=2*2^(w-1):=aOk (xAh h1 hg);let sg:∀ {z:Nat},z<2^g->gG (cI z g w) w=gG z g:=λ {z} hz=>by
  rw[aEp hz h1 hg];unfold gG;by_cases c:z<2^(g-1)
  .rw[if_pos c,if_neg (),if_neg ()]
  .rw[if_neg c,if_pos (),if_pos ()];omega
 let nx:=aEp hx h1 hg;let ny:=aEp hy h1 hg;unfold mM;split
 .rw[nx,ny,decide_eq_decide];split<;>split<;>omega
 .rw[nx,ny,decide_eq_decide];split<;>split<;>omega
 .rw[sg hx,sg hy]
def aBP(he:e<2^g)(h:g<w):gG e w=e:=by unfold gG;rw[if_neg (yGn (xAb he (yAl (·) ())))]
def aJW{wd:Wd}(hc:kB wd=Z)(hu:u<2^a)(hv:v<2^b)(a1:1<=a)(b1:1<=b)(aw:a<=w)(bw:b<=w):(1<=iS wd (y,a) (z,b) w/\iS wd (y,a) (z,b) w<=w)/\mM wd (iS wd (y,a) (z,b) w) (dO y a w u%2^iS wd (y,a) (z,b) w) (dO z b w v%2^iS wd (y,a) (z,b) w)=mM wd w (dO y a w u) (dO z b w v):=by
 let e1:=aEJ (y:=y) hu a1 aw;let e2:=aEJ (y:=z) hv b1 bw;let hg:max a b<=w:=();let ha:2^a<=2^max a b:=yAl (·) (yBt _ _);let hb:2^b<=2^max a b:=yAl (·) (yGo _ _);let full:(1<=w/\w<=w)/\mM wd w (dO y a w u%2^w) (dO z b w v%2^w)=mM wd w (dO y a w u) (dO z b w v):=(((),yAd _,),by rw[yBm e1,yBm e2],);unfold iS;dsimp only;by_cases c1:mG y z=1
 .rw[if_pos c1];exact full
 .rw[if_neg c1];by_cases s:y=.sign
  .have s2:z=.sign:=Decidable.byContradiction λ n=>c1 (by unfold mG;rw[if_pos s,if_neg n])
   let c0:¬ (mG y z=0/\wd=.under):=λ n=>by have:=n.1;unfold mG at this;rw[if_pos s] at this;omega
   rw[if_neg c0];refine(((),hg,),?_,);let x1:dO y a w u=cI u a w:=by unfold dO;rw[if_pos s]
   let x2:dO z b w v=cI v b w:=by unfold dO;rw[if_pos s2]
   rw[x1,x2,xB hu a1 (yBt _ _) hg,xB hv b1 (yGo _ _) hg,aWQ (w:=w) (mP hu a1 (yBt _ _)) (mP hv b1 (yGo _ _)) () hg,aGU hu a1 (yBt _ _) hg,aGU hv b1 (yGo _ _) hg]
  .have s2:z≠.sign:=λ n=>c1 (by unfold mG;rw[if_neg s,if_pos n])
   let x1:dO y a w u=u:=by unfold dO;rw[if_neg s]
   let x2:dO z b w v=v:=by unfold dO;rw[if_neg s2]
   let c0:mG y z=0:=by unfold mG;rw[if_neg s,if_neg s2]
   rw[x1,x2] at full ⊢;let low:∀ g,max a b<=g->u%2^g=u/\v%2^g=v:=λ g h=>by
    have:=yAl (show 0<2 by decide) h;exact(yBm (),yBm (),)
   by_cases un:wd=.under
   .rw[if_pos (c0,un,)];by_cases c:w<=max a b+1
    .rw[yEj c];exact full
    .rw[yEt ()];refine(((),(),),?_,);let(l1,l2):=low (max a b+1) ();rw[l1,l2];subst un;show decide (gG u (max a b+1)<gG v (max a b+1))=decide (gG u w<gG v w);rw[aBP (g:=max a b) () (),aBP (g:=max a b) () (),aBP (g:=max a b) () (show max a b<w by omega),aBP (g:=max a b) () (show max a b<w by omega)]
   .rw[if_neg λ n=>un n.2];let(l1,l2):=low (max a b) (yAd _);rw[l1,l2];refine(((),hg,),?_,);cases wd<;>first|rfl|exact absurd U un|(exfalso;revert hc;decide)
def p1l{α β:Type}{P:α->β->Prop}{x:α}{ns:List β}(p:Paired P [x] ns):∃ n,ns=[n]/\P x n:=by
 cases p with
 |cons p1 p2=>cases p2;exact(_,U,p1,)
def p2l{α β:Type}{P:α->β->Prop}{x y:α}{ns:List β}(p:Paired P [x,y] ns):∃ n m,ns=[n,m]/\P x n/\P y m:=by
 cases p with
 |cons p1 p2=>
   let(m,U,h):=p1l p2;exact(_,m,U,p1,h,)
def aCA{I:G Nat -> Prop}{E:Es}{W:G Nat}(h:Pg I R E)(ks:G Nat)(u:Nat)(hl:∀ k∈ks,HQ Y W Pl R k/\u<=g0 W k)(h1:1<=u)(h64:u<=64)(hc:↑ks<=3)(f:G Nat->Rw)(w:Nat)(v:G Nat->Nat)(hf:∀ (W':G Nat) (ns:G Nat),Paired (λ(q:Nat×Nat) n=>W'[n]?=J q.2) (ks.map λ k=>(k,u)) ns->fP W' (f ns)/\(f ns).w=w/\(f ns).wd≠.in)(hv:∀ (W' U ns is:G Nat),I is->Paired (λ(q:Nat×Nat) n=>W'[n]?=J q.2/\g0 U n=eV Y W Pl (rn R is) q.1%2^q.2) (ks.map λ k=>(k,u)) ns->cV (f ns) (bE (f ns) W') (bE (f ns) U)=v is) :
 Gq I R E 4 w v (qS Y Pl R E (ks.map λ k=>(k,u)) f):=
 aMa h (ks.map λ k=>(k,u)) (λ q hq=>by
  let(k,hk,rfl):=List.mem_map.mp hq;exact((hl k hk).1,h1,(hl k hk).2,h64,)) (by rw[yAf];exact hc) f w v hf hv
def aM7{I:G Nat -> Prop}{E:Es}{W:G Nat}{wd:Wd}(aP:wd=.right\/wd=.slide)(h1:1<=q)(hq:q<=w)(h64:w<=64)(hs:s<64)(h:Pg I R E)(ha:HQ Y W Pl R a)(hw:g0 W a=w):Gq I R E 4 q (λ is=>sS wd w (eV Y W Pl (rn R is) a) s%2^q) (zS Y Pl R E (wd,w,[a,s],) a s q):=by
 let lt:∀ is,I is->eV Y W Pl (rn R is) a<2^w:=λ is hi=>hw▸rV h hi ha
 let L:=λ is (hi:I is)=>aV7 (s:=s) aP h1 hq (lt is hi)
 let hv1:1<=min w (q+s):=();let hvq:q<=min w (q+s):=();let hvw:min w (q+s)<=w:=();unfold zS;dsimp only;generalize min w (q+s)=v at L hv1 hvq hvw ⊢;let f:=wU h ha hv1 (by rw[hw];exact hvw) ();generalize cR Y Pl R E a v=x at f ⊢;let(n,R1,E1):=x;let(fg,fp,fn,fr,fe,fw,fv):=f;dsimp only at *;let n1:=aBX (r:=(wd,v,[n,s],)) fg (by rcases aP with rfl|rfl<;>exact(hv1,by show v<=64;omega,fw,hs,)) (jW (by rcases aP with rfl|rfl<;>rfl));let n2:∀ is,I is->cV ⟨wd,v,[n,s]⟩ (bE ⟨wd,v,[n,s]⟩ (wQ R1)) (bE ⟨wd,v,[n,s]⟩ (rn R1 is))=sS wd v (eV Y W Pl (rn R is) a%2^v) s:=λ is hi=>by
  rw[<- fv is hi];rcases aP with rfl|rfl<;>rfl
 let n3:=n1.f n2;by_cases c:q<v
 .rw[if_pos c];let o:=tW (r:=(.cut,q,[↑R1],)) n3.g (h1,by show q<=64;omega,v,n3.w,hvq,) (jW U);refine(o.f λ is hi=>?_).on (n3.on (c:=2) fp fn fr fe (yAd _)).pre (n3.ni.trans fn) (n3.on (c:=2) fp fn fr fe (yAd _)).r (n3.on (c:=2) fp fn fr fe (yAd _)).e (·);rw[<- L is hi,<- n3.v is hi];rfl
 .rw[if_neg c];let e:v=q:=();subst e;refine((n3.f λ is hi=>?_).on fp fn fr fe (yAd _)).c (·);rw[<- L is hi,yBm (bAf aP hv1 (yGh _ (xAe _)))]
def aNx{I:G Nat -> Prop}{E:Es}{W:G Nat}{wd:Wd}(aP:wd=.wide\/wd=.sign)(h1:1<=q)(hq:q<=w)(h64:w<=64)(v1:1<=v)(hv:v<=w)(h:Pg I R E)(ha:HQ Y W Pl R a)(hw:g0 W a=v):Gq I R E 4 q (λ is=>cV (wd,w,[a],) [v] [eV Y W Pl (rn R is) a]%2^q) (vW Y Pl R E wd a (g0 W a) q):=by
 rw[hw];let lt:∀ is,I is->eV Y W Pl (rn R is) a<2^v:=λ is hi=>hw▸rV h hi ha
 unfold vW;by_cases c:q<=v
 .rw[if_pos c];refine((wU h ha h1 (by rw[hw];exact c) ()).f λ is hi=>?_).c (·);rcases aP with rfl|rfl
  .rfl
  .exact(aKD (lt is hi) v1 c hv).symm
 .rw[if_neg c];let f:=wU h ha v1 (by rw[hw];simp_all) ();generalize cR Y Pl R E a v=x at f ⊢;let(n,R1,E1):=x;let(fg,fp,fn,fr,fe,fw,fv):=f;dsimp only at *;let o:=tW (r:=(wd,q,[n],)) fg (by rcases aP with rfl|rfl<;>exact(h1,by show q<=64;omega,v,fw,by show v<=q;omega,)) (jW (by rcases aP with rfl|rfl<;>rfl));refine((o.f λ is hi=>?_).on fp fn fr fe (yAd _)).c (·);let e:=fv is hi;rw[yBm (lt is hi)] at e;rcases aP with rfl|rfl
  .show g0 (rn R1 is) n=eV Y W Pl (rn R is) a%2^q;rw[e,yBm (xAb (lt is hi) (yAl (·) ()))]
  .show cI (g0 (rn R1 is) n) (g0 (wQ R1) n) q=cI (eV Y W Pl (rn R is) a) v w%2^q;rw[e,pY fw,xB (lt is hi) v1 () hq]
def aXZ{I:G Nat -> Prop}{E:Es}{W:G Nat}{wd:Wd}(aP:wd=.same\/wd=.less\/wd=.under)(h2:v<=64)(h:Pg I R E)(ha:HQ Y W Pl R a)(hb:HQ Y W Pl R b)(wa:g0 W a=v)(wb:g0 W b=v)(ya:∃ y,Y[a]?=J (J y))(yb:∃ y,Y[b]?=J (J y)):Gq I R E 4 1 (λ is=>cV (wd,1,[a,b],) [v,v] [eV Y W Pl (rn R is) a,eV Y W Pl (rn R is) b]%2^1) (aCM Y Pl R E wd a b (iS wd (yo Y a) (yo Y b) (g0 W a))):=by
 rw[wa];let hc:kB wd=Z:=by erw[50,aP]<;>rfl
 let some_:∀ {k:Nat},HQ Y W Pl R k->(∃ y,Y[k]?=J (J y))->∃ y b p,yo Y k=(y,b)/\1<=b/\b<=g0 W k/\(wQ R)[p]?=J b/\∀ U,eV Y W Pl U k=dO y b (g0 W k) (g0 U p):=λ {k} hk ⟨z,hz⟩=>by
  rcases hk.is with ⟨e0,_⟩|⟨y,b,p,e0,b1,b2,_,h3,e⟩
  .rw[xAg,hz] at e0;cases e0
  .exact(y,b,p,by unfold yo;rw[e0];rfl,b1,b2,h3,e,)
 let(y,c,p,ey,c1,c2,c3,c4):=some_ ha ya;let(z,d,p',ez,d1,d2,d3,d4):=some_ hb yb;rw[ey,ez];rw[wa] at c2 c4;rw[wb] at d2 d4;let key:=λ is (hi:I is)=>@aJW _ _ _ _ v y z _ hc (h.bd is hi p c c3) (h.bd is hi p' d d3) c1 d1 c2 d2
 let rng:1<=iS wd (y,c) (z,d) v/\iS wd (y,c) (z,d) v<=v:=(aJW (y:=y) (z:=z) hc (xAe c) (xAe d) c1 d1 c2 d2).1;generalize iS wd (y,c) (z,d) v=u at key rng ⊢;refine aCA (W:=W) h [a,b] u (λ k hk=>?_) rng.1 (xAh rng.2 h2) (yAc rfl) (λ x=>(wd,1,x,)) 1 _ (λ W' ns p=>?_) λ W' U ns is hi p=>?_
 .rcases List.mem_cons.mp hk with rfl|hk
  .exact(ha,by rw[wa];exact rng.2,)
  .rw[List.mem_singleton.mp hk];exact(hb,by rw[wb];exact rng.2,)
 .let(n,m,rfl,e1,e2):=p2l p;erw[50,aP]<;>exact((yAd 1,(show(1:Nat)<=64 by decide),rfl,u,e1,e2,),rfl,jW rfl,)
 .let(n,m,rfl,(w1,e1),w2,e2):=p2l p;let k:=(key is hi).2;rw[<- c4,<- d4] at k;let t:∀ x:Bool,x.toNat%2^1=x.toNat:=λ x=>by cases x<;>rfl
  let g:(mM wd (g0 W' n) (g0 U n) (g0 U m)).toNat=(mM wd v (eV Y W Pl (rn R is) a) (eV Y W Pl (rn R is) b)).toNat%2^1:=by
   rw[t,<- k,pY w1];dsimp only at e1 e2;rw[e1,e2]
  erw[50,aP]<;>exact g
def uJ{I:G Nat -> Prop}{E:Es}{W:G Nat}{wd:Wd}(aP:(wd=.and\/wd=.or\/wd=.xor)\/wd=.add\/wd=.sub\/wd=.mul)(h1:1<=q)(hq:q<=w)(i2:w<=64)(h:Pg I R E)(ha:HQ Y W Pl R a)(hb:HQ Y W Pl R b)(hw:g0 W a=w/\g0 W b=w):Gq I R E 4 q (λ is=>vP wd w (eV Y W Pl (rn R is) a) (eV Y W Pl (rn R is) b)%2^q) (qS Y Pl R E [(a,q),(b,q)] λ x=>(wd,q,x++[],)):=by
 refine aCA (W:=W) h [a,b] q (λ k hk=>?_) h1 (xAh hq i2) (yAc rfl) (λ x=>(wd,q,x++[],)) q _ (λ W' ns p=>?_) λ W' U ns is hi p=>?_
 .grind
 .let(n,m,rfl,e1,e2):=p2l p;rcases aP with (rfl|rfl|rfl)|rfl|rfl|rfl<;>exact((h1,xAh hq i2,e1,e2,),rfl,jW rfl,)
 .let(n,m,rfl,(_,e1),_,e2):=p2l p;dsimp only at e1 e2;rw[<- aWV hq,<- e1,<- e2];rcases aP with (rfl|rfl|rfl)|rfl|rfl|rfl<;>rfl
def bAc{I:G Nat -> Prop}{E:Es}{W:G Nat}(h1:1<=q)(hq:q<=w)(i2:w<=64)(h:Pg I R E)(hc:HQ Y W Pl R c)(ha:HQ Y W Pl R a)(hb:HQ Y W Pl R b)(hw:g0 W c=1/\g0 W a=w/\g0 W b=w):Gq I R E 4 q (λ is=>(if eV Y W Pl (rn R is) c=1 then eV Y W Pl (rn R is) a else eV Y W Pl (rn R is) b)%2^q) (pkM Y Pl R E c a b q):=by
 let p3:∀ {P:Nat×Nat->Nat->Prop}{ns:G Nat},Paired P [(c,1),(a,q),(b,q)] ns->∃ k n m,ns=[k,n,m]/\P (c,1) k/\P (a,q) n/\P (b,q) m:=λ p=>by
  cases p with
  |cons p1 p2=>
    let(n,m,rfl,h):=p2l p2;exact(_,n,m,rfl,p1,h,)
 refine aMa (W:=W) h [(c,1),(a,q),(b,q)] (λ z hz=>?_) (yAc rfl) (λ x=>(.pick,q,x,)) q _ (λ W' ns p=>?_) λ W' U ns is hi p=>?_
 .rcases List.mem_cons.mp hz with rfl|hz
  .exact(hc,yAd 1,yEm hw.1.symm,yAc rfl,)
  .rcases List.mem_cons.mp hz with rfl|hz
   .exact(ha,h1,xAh hq (yEm hw.2.1.symm),xAh hq i2,)
   .rw[List.mem_singleton.mp hz];exact(hb,h1,xAh hq (yEm hw.2.2.symm),xAh hq i2,)
 .let(k,n,m,rfl,e1,e2,e3):=p3 p;exact((h1,xAh hq i2,e1,e2,e3,),rfl,jW rfl,)
 .let(k,n,m,rfl,(_,e1),(_,e2),_,e3):=p3 p;show(if g0 U k=1 then g0 U n else g0 U m)=_;let lt:eV Y W Pl (rn R is) c<2^1:=hw.1▸rV h hi hc;dsimp only at e1 e2 e3;rw[yBm lt] at e1;rw[e1,e2,e3];split<;>rfl
def aUJ{I:G Nat -> Prop}{E:Es}{W:G Nat}(f1:RwOk r (bE r W))(h1:1<=q)(hq:q<=r.w)(ni:r.wd≠.in)(h:Pg I R E)(ho:∀ a∈bP r,HQ Y W Pl R a)(hc:Cok Y r):Gq I R E 4 q (λ is=>cV r (bE r W) ((bP r).map (eV Y W Pl (rn R is)))%2^q) (fH W Y Pl R E r q):=by
 generalize hws:bE r W=ws at f1;let one:∀ {a v:Nat},[g0 W a]=[v]->g0 W a=v:=λ e=>(List.cons.inj e).1
 let two:∀ {a b v u:Nat},[g0 W a,g0 W b]=[v,u]->g0 W a=v/\g0 W b=u:=λ e=>((List.cons.inj e).1,(List.cons.inj (List.cons.inj e).2).1,)
 let lt:∀ {a v:Nat},HQ Y W Pl R a->g0 W a=v->∀ is,I is->eV Y W Pl (rn R is) a<2^v:=λ ha e is hi=>e▸rV h hi ha
 cases f1 with
 |inp=>simp_all
 |num i1 i2 hn=>
   rename_i w n;exact((aBX (r:=(.num,q,[n%2^q],)) h (h1,xAh hq i2,yGh _ (xAe _),) (jW rfl)).f λ is _=>rfl).c (·)
 |nt i1 i2=>
   rename_i w a;let ha:=ho a xAc;let hw:=one hws;refine aCA (W:=W) h [a] q (λ k hk=>?_) h1 (xAh hq i2) (yAc rfl) (λ x=>(.not,q,x++[],)) q _ (λ W' ns p=>?_) λ W' U ns is hi p=>?_
   .rw[List.mem_singleton.mp hk];exact(ha,by rw[hw];exact hq,)
   .let(n,rfl,e):=p1l p;exact((h1,xAh hq i2,e,),rfl,jW rfl,)
   .let(n,rfl,_,e):=p1l p;show 2^q-1-g0 U n=_;rw[e];exact aUm hq (lt ha hw is hi)
 |sh i1 i2 aP hk=>
   rename_i wd w a s;let left:wd=.left->Gq I R E 4 q (λ is=>cV (.left,w,[a,s],) [w] ((bP (.left,w,[a,s],)).map (eV Y W Pl (rn R is)))%2^q) (fH W Y Pl R E (.left,w,[a,s],) q):=λ z=>by
    subst z;let ha:=ho a xAc;let hw:=one hws;refine aCA (W:=W) h [a] q (λ k hk=>?_) h1 (xAh hq i2) (yAc rfl) (λ x=>(.left,q,x++[s],)) q _ (λ W' ns p=>?_) λ W' U ns is hi p=>?_
    .rw[List.mem_singleton.mp hk];exact(ha,by rw[hw];exact hq,)
    .let(n,rfl,e):=p1l p;exact((h1,xAh hq i2,e,hk,),rfl,jW rfl,)
    .let(n,rfl,_,e):=p1l p;show g0 U n*2^s%2^q=_;rw[e];exact aRG hq
   erw[50,aP]
   .exact left rfl
   .exact aM7 (.inl rfl) h1 hq i2 hk h (ho a xAc) (one hws)
   .exact aM7 (.inr rfl) h1 hq i2 hk h (ho a xAc) (one hws)
 |cut i1 hv i2=>
   rename_i w v a;refine((wU h (ho a xAc) h1 (by rw[one hws];exact xAh hq hv) (xAh hq (xAh hv i2))).f λ is _=>?_).c (·);exact(aEC hq).symm
 |wide i1 hv i2=>exact aNx (.inl rfl) h1 hq i2 i1 hv h (ho _ xAc) (one hws)|sign i1 hv i2=>exact aNx (.inr rfl) h1 hq i2 i1 hv h (ho _ xAc) (one hws)
 |bw i1 i2 aP=>
   rename_i wd w a b;erw[50,aP]
   .exact uJ (.inl (.inl rfl)) h1 hq i2 h (ho a (by simp[bP,aZ])) (ho b (by simp[bP,aZ])) (two hws)
   .exact uJ (.inl (.inr (.inl rfl))) h1 hq i2 h (ho a (by simp[bP,aZ])) (ho b (by simp[bP,aZ])) (two hws)
   .exact uJ (.inl (.inr (.inr rfl))) h1 hq i2 h (ho a (by simp[bP,aZ])) (ho b (by simp[bP,aZ])) (two hws)
 |sm i1 i2=>
   rename_i s w a b;cases s
   .exact uJ (wd:=.add) (.inr (.inl rfl)) h1 hq i2 h (ho a (by simp[bP,aZ,Sw.wd])) (ho b (by simp[bP,aZ,Sw.wd])) (two hws)
   .exact uJ (wd:=.sub) (.inr (.inr (.inl rfl))) h1 hq i2 h (ho a (by simp[bP,aZ,Sw.wd])) (ho b (by simp[bP,aZ,Sw.wd])) (two hws)
   .exact uJ (wd:=.mul) (.inr (.inr (.inr rfl))) h1 hq i2 h (ho a (by simp[bP,aZ,Sw.wd])) (ho b (by simp[bP,aZ,Sw.wd])) (two hws)
 |cmp i1 i2 aP=>
   rename_i wd v a b;let e:q=1:=by have:q<=1:=hq;omega
   subst e;let tw:bP (wd,1,[a,b],)=[a,b]:=by erw[50,aP]<;>rfl
   let hcw:kB wd=Z:=by erw[50,aP]<;>rfl
   let ma:a∈bP (wd,1,[a,b],):=by rw[tw];simp
   let mb:b∈bP (wd,1,[a,b],):=by rw[tw];simp
   let hw:g0 W a=v/\g0 W b=v:=two (by unfold bE at hws;rw[show((wd,1,[a,b],):Rw).args.take (aZ wd)=[a,b] from tw] at hws;exact hws);let k:=aXZ aP i2 h (ho a ma) (ho b mb) hw.1 hw.2 (hc hcw a ma) (hc hcw b mb);erw[50,aP]<;>exact k
 |pick i1 i2=>
   rename_i w c a b;let hw:g0 W c=1/\g0 W a=w/\g0 W b=w:=((List.cons.inj hws).1,two (List.cons.inj hws).2,);exact bAc h1 hq i2 h (ho c (by simp[bP,aZ])) (ho a (by simp[bP,aZ])) (ho b (by simp[bP,aZ])) hw
def Sb.trans(h:Sb a b)(k:Sb b c):Sb a c:=λ i x=>k i (h i x)
def aXY(a b:Nat):Sb a (a|||b):=λ i h=>by rw[xAo,h,Bool.true_or]
def aXG(a b:Nat):Sb b (a|||b):=λ i h=>by rw[xAo,h,yHz]
def aJ7(M:G Nat)(q:Nat×Nat)(i:Nat):Sb (M.getD i 0) ((cY M q).getD i 0):=by
 unfold cY;by_cases c:q.1=i
 .subst c;by_cases l:q.1<↑M
  .rw[wE l];exact aXY _ _
  .rw[yEi ()];exact Sb.refl _
 .rw[tI c];exact Sb.refl _
def aBK:∀ (l:G (Nat×Nat)) (M:G Nat) (i:Nat),Sb (M.getD i 0) ((l.foldl cY M).getD i 0)
 |[],_,_=>Sb.refl _|q::l,M,i=>(aJ7 M q i).trans (aBK l (cY M q) i)
def aSd(M:G Nat)(q:Nat×Nat):↑(cY M q)=↑M:=by unfold cY;rw[yBd]
def aEt:∀ (l:G (Nat×Nat)) (M:G Nat) (q:Nat×Nat),q∈l->q.1<↑M->Sb q.2 ((l.foldl cY M).getD q.1 0)
 |[],_,_,h,_=>by cases h
 |x::l,M,q,h,hl=>by
   rcases List.mem_cons.mp h with rfl|h
   .refine Sb.trans ?_ (aBK l (cY M q) q.1);unfold cY;rw[wE hl];exact aXG _ _
   .exact aEt l (cY M x) q h (by rw[aSd];exact hl)
section
variable {K:List Rw}{F:List Ft}
def aD7:∀ (k:Nat) (M:G Nat) (i:Nat),Sb (M.getD i 0) ((nJ K F k M).getD i 0)
 |0,_,_=>Sb.refl _
 |k+1,M,i=>by
   refine Sb.trans ?_ (aD7 k (gD K F M k) i);unfold gD;cases K[k]? with
   |none=>exact Sb.refl _|some r=>exact aBK _ M i
def aJa(p:Prg K):∀ (k:Nat) (M:G Nat),Bd K M->k<=↑K->∀ (j:Nat) (r:Rw),j<k->K[j]?=J r->∀ q∈eJ K F r ((nJ K F k M).getD j 0),Sb q.2 ((nJ K F k M).getD q.1 0)
 |0,_,_,_,j,_,hj,_,_,_=>absurd hj (yCy j)
 |k+1,M,h,hk,j,r,hj,hr,q,hq=>by
   let hb:=aKY (F:=F) p (show k<↑K by omega) h;by_cases c:j=k
   .subst c;let e:(nJ K F (j+1) M).getD j 0=M.getD j 0:=aJq p (j+1) M j h hk (yAd _);rw[e] at hq;let a:=(rN p hr (h.lt j r hr) q hq).1;show Sb q.2 ((nJ K F j (gD K F M j)).getD q.1 0);refine Sb.trans ?_ (aD7 j (gD K F M j) q.1);rw[xK hr];exact aEt _ M q hq (by rw[h.l];omega)
   .exact aJa p k (gD K F M k) hb () j r () hr q hq
end
section
variable {K:List Rw}
def aEo:∀ (l:G Nat) (M:G Nat) (o:Nat),o<↑M->(o∈l\/M.getD o 0=2^g0 (~~~K) o-1)->(l.foldl (eA K) M).getD o 0=2^g0 (~~~K) o-1
 |[],_,_,_,h=>by
   rcases h with h|h
   .cases h
   .exact h
 |x::l,M,o,hl,h=>by
   show(l.foldl (eA K) (eA K M x)).getD o 0=_;refine aEo l (eA K M x) o (by unfold eA;rw[yBd];exact hl) ?_;by_cases c:x=o
   .subst c;right;unfold eA;exact wE hl
   .rcases h with h|h
    .grind
    .right;unfold eA;rw[tI c];exact h
end
structure Yg(K:List Rw)(Y:Ys):Prop where
 st:Yst K Y
 inn:∀ (k:Nat) (r:Rw),K[k]?=J r->(r.wd==.in)=Z->Y[k]?=J (J (.cut,r.w))
 cok:∀ (k:Nat) (r:Rw) (q:Yw×Nat),K[k]?=J r->Y[k]?=J (J q)->Cok Y r
def aX(K:G Rw)(Y:Ys):Nat->Ps×G Rw×Es
 |0=>([],[],[])
 |j+1=>match K[j]?,Y[j]? with
   |some r,J (J q)=>((aX K Y j).1++[J (fH (~~~K) Y (aX K Y j).1 (aX K Y j).2.1 (aX K Y j).2.2 r q.2).1],(fH (~~~K) Y (aX K Y j).1 (aX K Y j).2.1 (aX K Y j).2.2 r q.2).2)|_,_=>((aX K Y j).1++[qx],(aX K Y j).2)
def aMw{K:G Rw}{Y:Ys}(g:Yg K Y){k:Nat}{r:Rw}{q:Yw×Nat}(hr:K[k]?=J r)(hq:Y[k]?=J (J q)):1<=q.2/\q.2<=r.w/\((r.wd==.in)=Z->q.2=r.w):=by let(h1,h2):=g.st.ok k r (J q) hr hq q.1 q.2 U;refine(h1,h2,λ h=>?_,);have:=g.inn k r hr h;rw[hq] at this;simp_all
def aMs{n:Nat}(h:n[t]! =Z):n≠0:=λ z=>by rw[z,yBh] at h;cases h
def aLC(c:t<h):(2^h-1)[t]! =Z:=by rw[dF,dqT c]
def aZ3{K:G Rw}(p:Prg K){k:Nat}{r:Rw}(hr:K[k]?=J r):↑(r.args.take (aZ r.wd))=aZ r.wd:=aBu (rS (p.fit k r hr).1).2
abbrev vU(K:List Rw)(F:List Ft)(M:List Nat):Prop:=∀ (j:Nat) (r:Rw),K[j]?=J r->∀ q∈eJ K F r (M.getD j 0),Sb q.2 (M.getD q.1 0)
def aYO{r:Rw}(l:G Nat)(h:(r.args.take (aZ r.wd))[c]?=J a):g0 (bE r l) c=g0 l a:=by show((r.args.take (aZ r.wd)).map (g0 l)).getD c 0=_;rw[xAg,yAe,h];rfl
def aZb{M:G Nat}(h:(mH K F r (M.getD j 0)).getD c 0≠0)(la:↑(r.args.take (aZ r.wd))=aZ r.wd):∃ a,(r.args.take (aZ r.wd))[c]?=J a/\(a,(mH K F r (M.getD j 0)).getD c 0)∈eJ K F r (M.getD j 0):=by
 let hcl:c<aZ r.wd:=by
  apply Decidable.byContradiction;intro z;apply h;rw[xAg,yBr (by unfold mH;rw[aJn];omega)];rfl
 let ha:(r.args.take (aZ r.wd))[c]?=J (r.args.take (aZ r.wd))[c]:=yAa ();refine(_,ha,xAk (i:=c) ?_,);unfold eJ bP;rw[List.getElem?_zip_eq_some];exact(ha,xN (by unfold mH;rw[aJn];omega),)
def aWd(p:Prg K)(met:vU K F M):Aq K M 0:=λ i r _ hr hc hz a ha=>by
 let(v,hv,hq):=aXj (F:=F) p hr hc hz a ha;exact aMs (met i r hr _ hq _ (aLk hv))
structure Mv(K:List Rw)(Y:Ys)(j:Nat)(z:Ps×List Rw×Es):Prop where
 l:z.1.length=j
 r:z.2.1.length<=4*j
 e:z.2.2.length<=4*j
 g:Pg (cM K) z.2.1 z.2.2
 ins:z.2.1.filter dI=(K.take j).filter dI
 pl:∀ a,a<j->HQ Y (wQ K) z.1 z.2.1 a
 v:∀ (a:Nat) (r:Rw) (q:Yw×Nat),a<j->K[a]?=J r->Y[a]?=J (J q)->∀ is,cM K is->g0 (rn z.2.1 is) ((z.1.getD a qx).getD 0)=if r.wd=.in then g0 (rn K is) a else cV r (bE r (wQ K)) ((bP r).map (eV Y (wQ K) z.1 (rn z.2.1 is)))%2^q.2
def aFC{W:G Nat}(hf:mD R)(is:G Nat)(x:Oz Nat)(hk:HQ Y W Pl R k):eV Y W (Pl++[x]) (rn (R++X) is) k=eV Y W Pl (rn R is) k/\(∀ q,Y.getD k qx=J q->((Pl++[x]).getD k qx).getD 0=(Pl.getD k qx).getD 0/\(Pl.getD k qx).getD 0<↑R):=by
 rcases hk.is with ⟨e0,e⟩|⟨y,b,p,e0,h1,h2,hp,h3,e⟩
 .refine⟨?_,λ q hq=>by rw[e0] at hq;cases hq⟩;unfold eV;rw[e0]
 .have hl:k<↑Pl:=Decidable.byContradiction λ c=>by
   rw[xAg,yBr ()] at hp;cases hp
  let ep:(Pl++[x]).getD k qx=J p:=by
   rw[xAg,xAm hl,<- xAg];exact hp
  refine(?_,λ q hq=>?_,)
  .unfold eV;rw[e0,ep,hp];dsimp only;rw[show(J p).getD 0=p from U,uB hf is (pZ h3)]
  .rw[ep,hp];exact(U,pZ h3,)
def aY0(s:Sw):s.wd≠.in:=by cases s<;>decide
def aW1(p:Prg K){E:Es}(h:Pg (cM K) R E)(ins:R.filter dI=(K.take j).filter dI)(hr:K[j]?=J r)(hi:r.wd=.in):Pg (cM K) (R++[r]) E/\(wQ (R++[r]))[↑R]?=J r.w/\∀ is,g0 (rn (R++[r]) is) ↑R=g0 (rn K is) j:=by
 let ok:=(p.fit j r hr).1;let w12:=p.ws j r hr;let ar:r.args=[]:=by
  generalize bE r (~~~K)=ws at ok;cases ok with
  |inp=>rfl
  |sh _ _ aP=>erw[50,aP]<;>cases hi
  |bw _ _ aP=>erw[50,aP]<;>cases hi
  |sm=>exact absurd hi (aY0 _)
  |cmp _ _ aP=>erw[50,aP]<;>cases hi
  |_=>cases hi
 let la:∀ a∈r.args.take (aZ r.wd),a<↑R:=λ a ha=>by rw[ar] at ha;simp at ha
 let okr:fP (wQ R) r:=(w12.1,w12.2,by rw[ar,hi];trivial,);let fo:=(lL h.ok).1;let new:∀ is,g0 (rn (R++[r]) is) ↑R=g0 (rn K is) j:=λ is=>by
  rw[aKo fo la is,show g0 (rn R is++[vX R is r]) ↑R=vX R is r by conv=>lhs;rw[<- pU R is,aLn],show vX R is r=g0 is (kH R) from if_pos hi,aWj hr hi,aEF,ins,<- aEF]
 let we:(wQ (R++[r]))[↑R]?=J r.w:=by
  unfold wQ;rw[yAe,aBG];rfl
 refine((tH h.ok (by rw[yEk];exact okr),λ is hs q v hv=>?_,λ z hz=>aKE (h.mi z hz),),we,new,);by_cases c:q<↑R
 .rw[uB fo is c];refine h.bd is hs q v ?_
  grind
 .have:q=↑R:=by have:=pZ hv;simp at this;omega
  subst this;rw[we] at hv;cases hv;rw[new is];exact aLP p hs hr
section
variable {K:List Rw}{Y:Ys}
def aBZ(p:Prg K)(g:Yg K Y):∀ j,j<=↑K->Mv K Y j (aX K Y j)
 |0,_=>(U,yAd _,yAd _,(trivial,λ _ _ q v h=>by simp[aX] at h,λ q hq=>by simp[aX] at hq,),U,λ a ha=>by omega,λ a _ _ ha=>by omega,)
 |j+1,hj=>by
   let ih:=aBZ p g j ();let hjr:j<↑K:=hj;let hjy:j<↑Y:=by rw[g.st.l];exact hj
   let hr:K[j]?=J K[j]:=yAa hjr;let hy:Y[j]?=J Y[j]:=yAa hjy;generalize K[j]=r at hr;generalize Y[j]=y at hy;let fo:=(lL ih.g.ok).1;let tk:=aZB hr;let gw:g0 (wQ K) j=r.w:=iK hr;let(f1,f2):=p.fit j r hr;let last:∀ x:Oz Nat,((aX K Y j).1++[x])[j]?=J x:=λ x=>by rw[yAh (by rw[ih.l];simp_all),ih.l,yBe];rfl
   let ir:=ih.r;let ie:=ih.e;unfold aX;rw[hr,hy];let old:∀ (x:Oz Nat) (X:G Rw) (a:Nat) (ra:Rw) (q:Yw×Nat),a<j->K[a]?=J ra->Y[a]?=J (J q)->∀ is,cM K is->g0 (rn ((aX K Y j).2.1++X) is) ((((aX K Y j).1++[x]).getD a qx).getD 0)=if ra.wd=.in then g0 (rn K is) a else cV ra (bE ra (wQ K)) ((bP ra).map (eV Y (wQ K) ((aX K Y j).1++[x]) (rn ((aX K Y j).2.1++X) is)))%2^q.2:=λ x X a ra q ha hra hya is hi=>by
    let eo:=(aFC (X:=X) fo is x (ih.pl a ha)).2 q (by rw[xAg,hya];rfl);let em:(bP ra).map (eV Y (wQ K) ((aX K Y j).1++[x]) (rn ((aX K Y j).2.1++X) is))=(bP ra).map (eV Y (wQ K) (aX K Y j).1 (rn (aX K Y j).2.1 is)):=yBs λ b hb=>(aFC (X:=X) fo is x (ih.pl b (yDm ((p.fit a ra hra).2 b hb) ha))).1
    rw[eo.1,uB fo is eo.2,em];exact ih.v a ra q ha hra hya is hi
   cases y with
   |none=>
     refine(by simp[ih.l],xAh ir (),xAh ie (),ih.g,?_,λ a ha=>?_,λ a ra q ha hra hya is hi=>?_,)
     .rw[tk,yEw,show [r].filter dI=[] by
       rw[yCe,show dI r=Ff from dqF λ c=>by rw[g.inn j r hr (beq_iff_eq.mpr c)] at hy;cases hy];rfl,yBc]
      exact ih.ins
     .by_cases c:a<j
      .exact(ih.pl a c).pl qx
      .obtain rfl:a=j:=();exact⟨qx,hy,λ _ _ e=>by cases e⟩
     .by_cases c:a<j
      .have:=old qx [] a ra q c hra hya is hi;rw[yBc] at this;exact this
      .obtain rfl:a=j:=();rw[hy] at hya;cases hya
   |some q=>
     dsimp only;let(k1,k2,k3):=aMw g hr hy;let key:Pg (cM K) (fH (~~~K) Y (aX K Y j).1 (aX K Y j).2.1 (aX K Y j).2.2 r q.2).2.1 (fH (~~~K) Y (aX K Y j).1 (aX K Y j).2.1 (aX K Y j).2.2 r q.2).2.2/\(∃ X,(fH (~~~K) Y (aX K Y j).1 (aX K Y j).2.1 (aX K Y j).2.2 r q.2).2.1=(aX K Y j).2.1++X)/\(fH (~~~K) Y (aX K Y j).1 (aX K Y j).2.1 (aX K Y j).2.2 r q.2).2.1.filter dI=(K.take (j+1)).filter dI/\(fH (~~~K) Y (aX K Y j).1 (aX K Y j).2.1 (aX K Y j).2.2 r q.2).2.1.length<=(aX K Y j).2.1.length+4/\(fH (~~~K) Y (aX K Y j).1 (aX K Y j).2.1 (aX K Y j).2.2 r q.2).2.2.length<=(aX K Y j).2.2.length+4/\(wQ (fH (~~~K) Y (aX K Y j).1 (aX K Y j).2.1 (aX K Y j).2.2 r q.2).2.1)[(fH (~~~K) Y (aX K Y j).1 (aX K Y j).2.1 (aX K Y j).2.2 r q.2).1]?=J q.2/\∀ is,cM K is->g0 (rn (fH (~~~K) Y (aX K Y j).1 (aX K Y j).2.1 (aX K Y j).2.2 r q.2).2.1 is) (fH (~~~K) Y (aX K Y j).1 (aX K Y j).2.1 (aX K Y j).2.2 r q.2).1=if r.wd=.in then g0 (rn K is) j else cV r (bE r (wQ K)) ((bP r).map (eV Y (wQ K) (aX K Y j).1 (rn (aX K Y j).2.1 is)))%2^q.2:=by
      by_cases c:r.wd=.in
      .have e:fH (~~~K) Y (aX K Y j).1 (aX K Y j).2.1 (aX K Y j).2.2 r q.2=((aX K Y j).2.1.length,(aX K Y j).2.1++[r],(aX K Y j).2.2):=by
        unfold fH;rw[if_pos (beq_iff_eq.mpr c)]
       rw[e,k3 (beq_iff_eq.mpr c)];let(i1,i2,i3):=aW1 p ih.g ih.ins hr c;exact(i1,(_,U,),by dsimp only;rw[tk,yEw,yEw,ih.ins],by simp,by simp,i2,λ is _=>by rw[if_pos c];exact i3 is,)
      .have m:=aUJ (W:=wQ K) f1 k1 k2 c ih.g (λ a ha=>ih.pl a (f2 a ha)) (g.cok j r q hr hy);refine(m.g,m.pre,?_,m.r,m.e,m.w,λ is hi=>by rw[if_neg c];exact m.v is hi,);rw[m.ni,tk,yEw,show [r].filter dI=[] by rw[yCe,show dI r=Ff from dqF c];rfl,yBc];exact ih.ins
     generalize fH (~~~K) Y (aX K Y j).1 (aX K Y j).2.1 (aX K Y j).2.2 r q.2=x at key ⊢;let(x0,R1,E1):=x;dsimp only at key ⊢;let(g1,(X,U),i1,r1,e1,w1,v1):=key;refine(by simp[ih.l],by dsimp only;omega,by dsimp only;omega,g1,i1,λ a ha=>?_,λ a ra q' ha hra hya is hi=>?_,)
     .by_cases c:a<j
      .exact((ih.pl a c).pl _).pre
      .obtain rfl:a=j:=();refine(J q,hy,λ u v e=>?_,);simp_all
     .by_cases c:a<j
      .exact old (J x0) X a ra q' c hra hya is hi
      .obtain rfl:a=j:=();rw[hy] at hya;cases hya;rw[hr] at hra;cases hra;let em:(bP r).map (eV Y (wQ K) ((aX K Y a).1++[J x0]) (rn ((aX K Y a).2.1++X) is))=(bP r).map (eV Y (wQ K) (aX K Y a).1 (rn (aX K Y a).2.1 is)):=yBs λ b hb=>(aFC (X:=X) fo is (J x0) (ih.pl b (f2 b hb))).1
       dsimp only;rw[show((aX K Y a).1++[J x0]).getD a qx=J x0 by rw[xAg,last];rfl,em];exact v1 is hi
end
def aXu{K:G Rw}{j:Nat}{r:Rw}(p:Prg K){is:G Nat}(hi:cM K is)(hr:K[j]?=J r):lD (bE r (wQ K)) (bE r (rn K is)):=by
 let hj:=(gIm hr).1;exact xF (λ i a w h1 h2=>aB4 p hi h1 h2) _ λ a ha=>by
  have:=(p.fit j r hr).2 a ha;exact(by rw[pU];omega,by rw[yAf];omega,)
def aS6(r:Rw)(f:Ft)(h:m≠0):∃ q,gO r f m=J q:=by
 unfold gO;by_cases c:r.wd=.in
 .rw[if_pos c];exact(_,U,)
 simp_all
def aXQ{r:Rw}(hc:kB r.wd=Z)(h:gO r f m=J q):m≠0:=by
 intro z;let c:r.wd≠.in:=λ e=>by rw[e] at hc;cases hc
 unfold gO at h;rw[if_neg c,if_pos z] at h;cases h
def aTs{F:G Ft}(p:Prg K)(hF:↑F=↑K)(h:Bd K M)(ha:Aq K M 0):Yg K (jO K F M):=by
 refine(aU3 p hF h,λ k r hr hi=>?_,λ k r q hr hq hc a hA=>?_,)
 .rw[tO hr hF h.l];unfold gO;rw[if_pos (eq_of_beq hi)]
 .rw[tO hr hF h.l] at hq;let m0:=aXQ hc (Option.some.inj hq);let ma:=ha k r (yBv _) hr hc m0 a hA;let hk:k<↑K:=(gIm hr).1;let hka:a<↑K:=yDm ((p.fit k r hr).2 a hA) hk;let(y,hy):=aS6 K[a] (f0 F a) ma;exact(y,by rw[tO (yAa hka) hF h.l,hy],)
def aUw{Z V:Nat}(hl:lb y kept f m w=Tt)(k1:1<=kept)(kw:kept<=w)(hm:m<2^w)(hd:Hd f V w)(ag:∀ t,m[t]! =Tt->Z[t]! =V[t]!)(ht:m[t]! =Tt):(dO y kept w (Z%2^kept))[t]! =V[t]!:=by
 let tw:=sE hm ht;let hZ:=yGh Z (xAe kept);let low:∀ {i},i<kept->(Z%2^kept)[i]! =Z[i]!:=λ {i} c=>by rw[yAk,dqT c,yAp]
 unfold dO;by_cases c:t<kept
 .split
  .rw[fX hZ k1 kw,if_pos c,low c,ag t ht]
  .rw[low c,ag t ht]
 .have b:(m/2^kept)[(t-kept)]! =Tt:=by rw[fN,yEr (yDg c)];exact ht
  let z:(m/2^kept==0)=Ff:=beq_eq_false_iff_ne.mpr λ e=>by rw[e,yBh] at b;cases b
  unfold lb at hl;rw[z,yHq] at hl;cases y with
  |cut=>cases hl
  |nought=>
    let e:=nV (m/2^kept) (f.N/2^kept) (t-kept);rw[beq_iff_eq.mp hl,yBh,b,fN,yEr (yDg c),yAp] at e;rw[if_neg (·),cS hZ (yDg c),hd.1 t (by grind)]
  |sign=>
    let(h1,h2):=Bool.and_eq_true_iff.mp hl;let h2:=oqT h2;rw[if_pos U,fX hZ k1 kw,if_neg c,dqT tw,yAp,low (),ag _ h1];rcases hd.2.2 with h|h
    .rw[h (kept-1) () (),h t () tw]
    .rw[h (kept-1) () (),h t () tw]
def aKx{W:G Nat}{e:Nat->Nat}:∀ l:G Nat,(∀ a∈l,e a<2^g0 W a)->lD (l.map (g0 W)) (l.map e)
 |[],_=>True.intro|a::l,h=>(h a xAc,aKx l λ b hb=>h b (xAf _ hb),)
def aMf(x:Oz Nat)(st:Oz (G D))(R:G Rw)(Pl:Ps)(hP:↑Pl<=1000)(E:Es)(T:aD):eE (sM st R Pl E T) (.loc 2) (.d (sX x))=J (.d .none,sM st R (Pl++[x]) E T):=by show(if ↑(Pl.map sX)<qk then _ else qx)=_;rw[if_pos (by rw[yAf,zq];omega),show Pl.map sX++[sX x]=(Pl++[x]).map sX by rw[yAu];rfl];rfl
def aMG:∀ (K:G Rw) (Y:Ys),gK (K.map Rw.d) (Y.map yD)=(K.zip Y).map λ q=>Tz [q.1.d,yD q.2]
 |[],Y=>by cases Y<;>rfl|r::K,[]=>rfl
 |r::K,y::Y=>by
   have:=aMG K Y;simp only[yAm,yHd,gK,this]
def aXf{K:G Rw}{Y:Ys}{j:Nat}{dd:D}(h:((K.zip Y).map λ q=>Tz [q.1.d,yD q.2])[j]?=J dd):∃ r y,K[j]?=J r/\Y[j]?=J y/\dd=.tuple [r.d,yD y]:=by rw[yAe] at h;let(q,hq,U):=Option.map_eq_some_iff.mp h;let(h1,h2):=List.getElem?_zip_eq_some.mp hq;exact(q.1,q.2,h1,h2,U,)
def nN(K:G Rw)(aH:G Nat):G (Nat×Nat):=aH.map λ o=>(o,g0 (~~~K) o)
def iO(K:G Rw)(Y:Ys)(aH:G Nat):G Nat×G Rw×Es:=cQ Y (aX K Y ↑K).1 (aX K Y ↑K).2.1 (aX K Y ↑K).2.2 (nN K aH)
def mdN(K:G Rw)(Y:Ys)(aH:G Nat):D:=.tuple [.tuple ((iO K Y aH).2.1.map Rw.d),.tuple ((iO K Y aH).1.map nD)]
noncomputable abbrev eB(P f m YY:D)(c5 c6 c7 c8:Option W):aY:=[J (.d P),J (.d f),J (.d m),J (.d YY),J (dZ P YY),c5,c6,c7,c8,qx]
def aSM(hr:K[j]?=J r)(hy:Y[j]?=J qx):aX K Y (j+1)=((aX K Y j).1++[qx],(aX K Y j).2):=by rw[aX,hr,hy]
def aRY(hr:K[j]?=J r)(hy:Y[j]?=J (J q)):aX K Y (j+1)=((aX K Y j).1++[J (fH (~~~K) Y (aX K Y j).1 (aX K Y j).2.1 (aX K Y j).2.2 r q.2).1],(fH (~~~K) Y (aX K Y j).1 (aX K Y j).2.1 (aX K Y j).2.2 r q.2).2):=by rw[aX,hr,hy]
def aUH(d:Nat)(p:Prg K)(hl:↑K<=60)(g:Yg K Y)(o f m:D)(st:Oz (G D))(hr:K[j]?=J r)(hy:Y[j]?=J y)(c8:Oz W):∃ c8':Oz W,xs (d<$>5) wF (eB (K<*o) f m (Y*>yD) qx (J (.d r.d)) (J (.d (yD y))) c8) (sM st (aX K Y j).2.1 (aX K Y j).1 (aX K Y j).2.2 [])=J (.nx (eB (K<*o) f m (Y*>yD) qx (J (.d r.d)) (J (.d (yD y))) c8'),sM st (aX K Y (j+1)).2.1 (aX K Y (j+1)).1 (aX K Y (j+1)).2.2 []):=by
 let hj:j<↑K:=(gIm hr).1;let mv:=aBZ p g j ();let isy:=zU y;let m1:=mv.l;let m2:=mv.r;let m3:=mv.e;cases y with
 |none=>
   let isy:bO .Is (yD qx) .none=J (.bool Z):=isy;let ap:eE (sM st (aX K Y j).2.1 (aX K Y j).1 (aX K Y j).2.2 []) (.loc 2) (.d .none)=_:=aMf qx st (aX K Y j).2.1 (aX K Y j).1 () (aX K Y j).2.2 [];refine(J (.d .none),?_,);rw[aSM hr hy];generalize (Tz [(K*>Rw.d),o])=P;erw[2,wF,eB,isy,ap]
 |some q=>
   let isy:bO .Is (yD (J q)) .none=J (.bool Ff):=isy;let(f1,f2):=p.fit j r hr;let(k1,k2,k3):=aMw g hr hy;let w64:=(p.ws j r hr).2;let mr:=@aUy st ((aX K Y j).2.1) ((aX K Y j).1) ((aX K Y j).2.2) [] Y _ _ K d f1 o q.2 () (λ a ha=>(_,yAa (yDm (f2 a ha) hj),)) (λ a ha=>(mv.pl a (f2 a ha)).f) (g.cok j r q hr hy) ();let x1:bM (yD (J q)) (.int 1)=J (.int (q.2:Nat)):=rfl;refine((((fH (~~~K) Y (aX K Y j).1 (aX K Y j).2.1 (aX K Y j).2.2 r q.2).1:Nat):),?_,);rw[aRY hr hy];generalize fH (~~~K) Y (aX K Y j).1 (aX K Y j).2.1 (aX K Y j).2.2 r q.2=x at mr ⊢;let(x0,R1,E1):=x;dsimp only at mr ⊢;let ap:eE (sM st R1 (aX K Y j).1 E1 []) (.loc 2) (.d (Iz x0))=_:=aMf (J x0) st R1 (aX K Y j).1 () E1 [];generalize (Tz [(K*>Rw.d),o])=P at mr ⊢;erw[2,wF,eB,isy,x1,mr,ap]
def aUz(d:Nat)(p:Prg K)(hl:↑K<=60)(g:Yg K Y)(aH:G Nat)(ho:∀ o∈aH,o<↑K)(hol:↑aH<=20)(f m:D)(st:Oz (G D)) :
 cl fns (d+6) 70 [.d (K<*(aH*>nD)),.d f,.d m,.d (Y*>yD)] [st]=J (.d (mdN K Y aH),[st]):=by
 let trn:=λ(j:Nat) (r:Rw) (y:Oz (Yw×Nat)) (hr:K[j]?=J r) (hy:Y[j]?=J y) (c8:Oz W)=>aUH d p hl g (aH*>nD) f m st hr hy c8
 let mv:=aBZ p g ↑K (yAd _);let i0:bM (K<*(aH*>nD)) (.int 0)=J (K*>Rw.d):=rfl;let i1:bM (K<*(aH*>nD)) (.int 1)=J (aH*>nD):=rfl;let wo:=λ(a:Nat) (ha:a<↑K) (S:aD)=>uE (d+4) a (yAa ha) (aH*>nD) S
 obtain⟨P,hP⟩:∃ P:D,P=(K<*(aH*>nD)):=(_,U,);simp only[<- hP] at trn i0 i1 wo ⊢;obtain⟨YY,hYY⟩:∃ YY:D,YY=(Y*>yD):=(_,U,);let it:lv (d<$>5) aDn (eB P f m YY qx qx qx qx) (sM st [] [] [] [])=J ((K.zip Y).map (λ q=>Tz [q.1.d,yD q.2]),sM st [] [] [] []):=by
  rw[<- aMG,hYY];erw[2,aDn,eB,i0]
 rw[<- hYY] at trn ⊢;let(env1,S1,p1,c6,c7,c8,U,U):=jF (t:=.many [6,7]) (fb:=xs (d<$>5) wF)
  (λ j env S'=>∃ c6 c7 c8:Oz W,env=eB P f m YY qx c6 c7 c8/\S'=sM st (aX K Y j).2.1 (aX K Y j).1 (aX K Y j).2.2 [])
  it (qx,qx,qx,U,U,) (by
   rintro j dd env S' hd ⟨c6,c7,c8,rfl,rfl⟩;let(r,y,hr,hy,U):=aXf hd;let(c8',e):=trn j r y hr hy c8;exact(_,_,_,U,e,J (.d r.d),J (.d (yD y)),c8',U,U,))
 rw[yAf,List.length_zip,g.st.l,Nat.min_self] at p1;let m2:=mv.r;let m3:=mv.e;let lo:↑(nN K aH)<=20:=by unfold nN;rw[yAf];exact hol
 let hh:∀ q∈nN K aH,fR Y (aX K Y ↑K).1 q.1/\q.1<↑K/\q.2=g0 (~~~K) q.1:=λ q hq=>by
  let(k,hk,U):=List.mem_map.mp hq;exact((mv.pl k (ho k hk)).f,ho k hk,U,)
 let hC:lv (d<$>5) aHC (eB P f m YY qx c6 c7 c8) (sM st (aX K Y ↑K).2.1 (aX K Y ↑K).1 (aX K Y ↑K).2.2 [])=J ((iO K Y aH).1.map nD,sM st (iO K Y aH).2.1 (aX K Y ↑K).1 (iO K Y aH).2.2 []):=by
  refine @aBB _ _ ((nN K aH).map λ q=>nD q.1) _ (.one 9) _ _ (lv (d<$>5) (.it (.ix (.var 0) (.int 1)))) (ev (d<$>5) (.mth "fetch" 62 (.var 4) (.cons (.var 9) (.cons (.call 10 (.cons (.var 0) (.cons (.var 9) .nil))) .nil)))) ?_ (by rw[yAf];omega) (yL (λ q=>nD q.1) (λ q=>_) (λ q=>rfl) _ _ _ () λ q hq R E T h1=>?_)
  .have:(nN K aH).map (λ q=>nD q.1)=aH.map nD:=by unfold nN;rw[yBa];rfl
   rw[this];erw[1,eB,i1,jE]
  .let(h3,h4,h5):=hh q hq;let w1:=λ S=>wo q.1 h4 S
   let ew:K[q.1].w=q.2:=by rw[h5,iK (yAa h4)]
   rw[ew] at w1;let ft:=@pP st _ _ _ T _ P _ (d+2) q.2 h3 h1;rw[<- hYY] at ft;exact fD U U (aE U (aE (aT U (w1 _)) U)) ft
 let tp1:rL [.list ((iO K Y aH).1.map nD)]=J (.tuple ((iO K Y aH).1.map nD)):=rfl;let tp2:rL [.list ((iO K Y aH).2.1.map Rw.d)]=J (.tuple ((iO K Y aH).2.1.map Rw.d)):=rfl;let mk1:ev (d<$>5) (.mk cl_ini 3 (.cons (.var 0) (.cons (.var 3) .nil))) [J (.d P),J (.d f),J (.d m),J (.d YY),qx,qx,qx,qx,qx,qx] [st]=J (dZ P YY,sM st [] [] [] []):=aN4 U U U U;let body:xs (d<$>5) aJR [J (.d P),J (.d f),J (.d m),J (.d YY),qx,qx,qx,qx,qx,qx] [st]=J (.rt (.d (mdN K Y aH)),sM st (iO K Y aH).2.1 (aX K Y ↑K).1 (iO K Y aH).2.2 []):=by
  refine bA mk1 U (bX p1 (bA (gB (aE (eD hC) U) U tp1) U (aN ?_)));exact lV (aE (gB (aE (yR U U) U) U tp2) U) U (by simp)
 exact aV U U U body U
structure Trd(K:List Rw)(aH:List Nat)(Q:List Rw)(os:List Nat):Prop where
 ok:dG [] Q
 le:↑Q<=250
 lt:∀ o∈os,o<↑Q
 ln:↑os=↑aH
 ins:Q.filter dI=K.filter dI
 ws:os.map (g0 (wQ Q))=aH.map (g0 (wQ K))
 told:∀ is,cM K is->cM Q is/\os.map (g0 (rn Q is))=aH.map (g0 (rn K is))
def aFg{P:Nat×Nat->Nat->Prop}{f:Nat->Nat×Nat}{h k:Nat->Nat}:∀ {l ns:G Nat},Paired P (l.map f) ns->(∀ o∈l,∀ n,P (f o) n->h n=k o)->ns.map h=l.map k
 |[],_,p,_=>by cases p;rfl
 |o::l,_,p,g=>by
   cases p with
   |cons p1 p2=>rw[yAm,yAm,g o xAc _ p1,aFg p2 λ x hx=>g x (xAf _ hx)]
def aLi{P:Nat×Nat->Nat->Prop}:∀ {l:G (Nat×Nat)}{ns:G Nat},Paired P l ns->↑ns=↑l/\∀ n∈ns,∃ q,P q n
 |[],_,p=>by cases p;simp_all
 |q::l,_,p=>by
   cases p with
   |cons p1 p2=>
     let(h1,h2):=aLi p2
     grind
def aXF(p:Prg K)(sd:Snd K F)(hF:↑F=↑K)(hb:Bd K M)(met:vU K F M)(g:Yg K Y)(hy:∀ (k:Nat) r y,K[k]?=J r->Y[k]?=J y->rt r (f0 F k) (M.getD k 0) y=Z)(mv:Mv K Y n z)(hn:n<=↑K)(hi:cM K is):∀ a,a<n->∀ t,(M.getD a 0)[t]! =Z->(eV Y (wQ K) z.1 (rn z.2.1 is) a)[t]! =(g0 (rn K is) a)[t]!:=λ a=>by
 induction a using Nat.strongRecOn with
 |ind a ih=>
   intro ha t ht;let hal:a<↑K:=xAb ha hn;let hr:K[a]?=J K[a]:=yAa hal;generalize K[a]=r at hr;let yl:a<↑Y:=by rw[g.st.l];exact hal
   let hya:Y[a]?=J Y[a]:=yAa yl;let rr:=hy a r _ hr hya;let yb:=g.st.ok a r _ hr hya;let hm:=hb.lt a r hr;let gw:g0 (wQ K) a=r.w:=iK hr;let val:=λ q hq=>mv.v a r q ha hr (hya.trans (congrArg J hq)) is hi
   let eY:Y.getD a qx=Y[a]:=by rw[xAg,hya];rfl
   generalize Y[a]=y at *;unfold eV;rw[eY];unfold rt at rr;by_cases c:r.wd=.in
   .rw[if_pos c] at rr;let e:=oqT rr;subst e;have:=val _ U;rw[if_pos c] at this;dsimp only;unfold dO;rw[if_neg (·),this]
   .rw[if_neg c,if_neg (jA hm ht)] at rr;rcases y with _|⟨b,kept⟩
    .cases rr
    let v:=val _ U;rw[if_neg c] at v;dsimp only at v rr ⊢;rw[v,gw];let(f1,f2):=p.fit a r hr;let(l1,l2):=yb b kept U;let hd:Hd (f0 F a) (g0 (rn K is) a) r.w:=sd.hold is hi a _ _ _ (jS ()) (by rw[yAe,hr];rfl) (pT (by rw[pU];exact hal));refine aUw rr l1 l2 hm hd (λ t ht=>?_) ht;rw[aVv p hr c];let ln:=aXu p hi hr;let fs:=aRW p sd hF hi hr;let lo:lD (bE r (wQ K)) ((bP r).map (eV Y (wQ K) z.1 (rn z.2.1 is))):=aKx _ λ b hbm=>rV mv.g hi (mv.pl b (yDm (f2 b hbm) ha))
    let ag:Ag (mH K F r (M.getD a 0)) ((bP r).map (eV Y (wQ K) z.1 (rn z.2.1 is))) (bE r (rn K is)):=λ k i hki=>by
     let(b,hbk,hq):=@aZb _ _ _ a k M (aMs hki) (aZ3 p hr);let hba:=f2 b (xAk hbk);rw[aYO _ hbk,show g0 ((bP r).map (eV Y (wQ K) z.1 (rn z.2.1 is))) k=eV Y (wQ K) z.1 (rn z.2.1 is) b by
      show((r.args.take (aZ r.wd)).map _).getD k 0=_;rw[xAg,yAe,hbk];rfl]
     exact ih b hba (yDm hba ha) i (met a r hr _ hq i hki)
    exact aWW (args:=r.args) f1 (rS f1).2 hm ht ln lo fs ag
def bBs(p:Prg K)(sd:Snd K F)(hF:↑F=↑K)(hb:Bd K M)(met:vU K F M)(g:Yg K Y)(hy:∀ (k:Nat) r y,K[k]?=J r->Y[k]?=J y->rt r (f0 F k) (M.getD k 0) y=Z)(fl:∀ o∈aH,∀ i,i<g0 (wQ K) o->(M.getD o 0)[i]! =Z)(ho:∀ o∈aH,o<↑K)(hl:↑K<=40)(hol:↑aH<=8):Trd K aH (iO K Y aH).2.1 (iO K Y aH).1:=by
 let mv:=aBZ p g ↑K (yAd _);let gw:∀ o∈aH,1<=g0 (wQ K) o/\g0 (wQ K) o<=64:=λ o mo=>by
  let ol:=ho o mo;let hr:K[o]?=J K[o]:=yAa ol;rw[show g0 (wQ K) o=K[o].w from iK hr];exact p.ws o _ hr
 let a:=aE3 (nN K aH) mv.g (λ q hq=>by
  let(o,mo,U):=List.mem_map.mp hq;exact(mv.pl o (ho o mo),(gw o mo).1,yAd _,(gw o mo).2,))
 let lo:↑(nN K aH)=↑aH:=yAf ..;let fo:=(lL mv.g.ok).1;let mr:=mv.r;unfold iO;let(X,hX):=a.pre;let(pl1,pl2):=aLi a.at_;let ar:=a.r;let ins:(cQ Y (aX K Y ↑K).1 (aX K Y ↑K).2.1 (aX K Y ↑K).2.2 (nN K aH)).2.1.filter dI=K.filter dI:=by
  rw[a.ni,mv.ins,yAb]
 refine(a.g.ok,(),λ n hn=>?_,pl1.trans lo,ins,?_,λ is hi=>((xT _ is).mpr (by rw[ins];exact(xT K is).mp hi),?_,),)
 .let(q,hq):=pl2 n hn;exact pZ hq.1
 .exact aFg a.at_ λ o _ n h=>pY h.1
 .refine aFg a.at_ λ o mo n h=>?_
  rw[h.2 is hi];dsimp only;let hq:=mv.pl o (ho o mo);rw[hX,aED fo is hq,yBm (rV mv.g hi hq)];let ol:=ho o mo;let hr:K[o]?=J K[o]:=yAa ol;refine aBY (rV mv.g hi hq) (by rw[show g0 (wQ K) o=K[o].w from iK hr];exact aLP p hi hr) λ i hi'=>aXF p sd hF hb met g hy mv (yAd _) hi o (ho o mo) i (fl o mo i hi')
noncomputable abbrev eM(P:D)(F:List Ft)(c4 c5 c6 c7 c8 c9 c10:Option W):aY:=[#[0],J (.d P),J (.d (F*>Ft.d)),#[1],c4,c5,c6,c7,c8,c9,c10,qx]
def aT2{F:G Ft}(d:Nat)(p:Prg K)(hr:K[k]?=J r)(hF:↑F=↑K)(P:D)(st:Oz (G D))(h:Bd K M)(c5 c9 c10:Oz W):∃ (M':G Nat) (c9' c10':Oz W),Bd K M'/\M'=gD K F M k/\kW (.many [9,10]) (lv (d<$>5) aA6) (xs (d<$>5) aA7) (eM P F ((k:)) c5 (J (.d r.d)) (J (.d (Tz ((bP r).map nD)))) (J (.d (Tz ((bE r (~~~K)).map nD)))) c9 c10) [st,J (M.map nD)]=J (.nx (eM P F ((k:)) c5 (J (.d r.d)) (J (.d (Tz ((bP r).map nD)))) (J (.d (Tz ((bE r (~~~K)).map nD)))) c9' c10'),[st,J (M'.map nD)]):=by
 let hk:k<↑K:=(gIm hr).1;let hm:=h.lt k r hr;let e0:=@yH k M (by rw[h.l];exact hk);let(f1,f2'):=p.fit k r hr;let ol:=tP r;let(w1,w2):=rS f1;let nk:=λ S=>aK4 d r.wd r.w r.args (aAE r) (bE r (~~~K)) (mN r F) (M.getD k 0) w1 (aKZ p hr) w2 hm S
 let nk':∀ S,cl fns (d+5) 18 [.d r.d,.d (Tz ((bE r (~~~K)).map nD)),.d (Tz ((fQ r F).map Ft.d)),.d (Iz ((M.getD k 0:Nat):Int))] S=J (.d (Tz ((mH K F r (M.getD k 0)).map nD)),S):=λ S=>by
  rw[<- aNl];exact nk S
 let hc:lv (d<$>5) aDd (eM P F ((k:)) c5 (J (.d r.d)) (J (.d (Tz ((bP r).map nD)))) (J (.d (Tz ((bE r (~~~K)).map nD)))) c9 c10) [st,J (M.map nD)]=J ((fQ r F).map Ft.d,[st,J (M.map nD)]):=by
  rw[fQ,yBa];refine iU (fi:=lv (d<$>5) (.it (.var 7))) (fe:=ev (d<$>5) (.ix (.var 2) (.var 11))) nD (Ft.d ∘ f0 F) (r.args.take (aZ r.wd)) ?_ (by rw[zq];have:↑(r.args.take (aZ r.wd))<=3:=ol;omega) λ a ha=>?_
  .erw[1,eM,jE]
  .refine(_,U,λ S'=>?_,);let hx:bM (F*>Ft.d) (nD a)=J (f0 F a).d:=dP (by rw[yAe,jS (by have:=f2' a ha;omega)];rfl);erw[0,clr,yDq,yHj,hx]
 let zp:gK ((bP r).map nD) ((mH K F r (M.getD k 0)).map nD)=(eJ K F r (M.getD k 0)).map pD:=aEZ _ _;let g1:([st,J (M.map nD)]:aD)[1]?=J (J (M.map nD)):=rfl;let it:lv (d<$>5) aA6 (eM P F ((k:)) c5 (J (.d r.d)) (J (.d (Tz ((bP r).map nD)))) (J (.d (Tz ((bE r (~~~K)).map nD)))) c9 c10) [st,J (M.map nD)]=J ((eJ K F r (M.getD k 0)).map pD,[st,J (M.map nD)]):=by
  let hc':lv (d<$>5) aDd [#[0],J (.d P),J (.d (F*>Ft.d)),#[1],(k:),c5,J (.d r.d),J (.d (Tz ((bP r).map nD))),J (.d (Tz ((bE r (~~~K)).map nD))),c9,c10,qx] [st,J (M.map nD)]=J ((fQ r F).map Ft.d,[st,J (M.map nD)]):=hc;erw[2,aA6,eM,hc',oC,xX,e0,nk',zp]
 let(aW,S',p1,c9',c10',hb,U,U):=jF (t:=.many [9,10]) (fb:=xs (d<$>5) aA7)
  (λ j env S'=>∃ c9 c10:Oz W,Bd K (((eJ K F r (M.getD k 0)).take j).foldl cY M)/\env=eM P F ((k:)) c5 (J (.d r.d)) (J (.d (Tz ((bP r).map nD)))) (J (.d (Tz ((bE r (~~~K)).map nD)))) c9 c10/\S'=[st,J ((((eJ K F r (M.getD k 0)).take j).foldl cY M).map nD)])
  it (c9,c10,h,U,U,) (by
   rintro j dd env S' hd ⟨c9,c10,hb,rfl,rfl⟩;rw[yAe] at hd;let(q,hq,U):=Option.map_eq_some_iff.mp hd;let(q1,q2):=rN p hr hm q (xAk hq);let ft:=aBg (f:=cY) M hq;generalize hM1:((eJ K F r (M.getD k 0)).take j).foldl cY M=M1 at hb ft ⊢;let ql:q.1<↑M1:=by rw[hb.l];omega
   let e1:=yH ql;let pe:rX [st,J (M1.map nD)] (.loc 1) (.d (Iz (q.1:Nat))) (.d (Iz ((M1.getD q.1 0|||q.2:Nat):Int)))=J [st,J ((cY M1 q).map nD)]:=xL [st] M1 q.1 _ ql;refine(eM P F ((k:)) c5 (J (.d r.d)) (J (.d (Tz ((bP r).map nD)))) (J (.d (Tz ((bE r (~~~K)).map nD)))) (((q.1:Nat):)) (((q.2:Nat):)),eM P F ((k:)) c5 (J (.d r.d)) (J (.d (Tz ((bP r).map nD)))) (J (.d (Tz ((bE r (~~~K)).map nD)))) (((q.1:Nat):)) (((q.2:Nat):)),[st,J ((cY M1 q).map nD)],U,?_,((q.1:Nat):),((q.2:Nat):),?_,U,by rw[ft],)
   .erw[2,aA7,eM,e1,fO,uX,pe]
   .rw[ft];exact aCl hb () q2)
 exact(_,c9',c10',hb,by rw[xK hr];grind,p1,)
def aVF{env aW:aY}{S S1:aD}{e:E}{i:Nat}{ds:G D}(h:lv C e env S=J (ds,S1))(he:env.set i (J (.loc ↑S1))=aW):xs C (.setC Z i e) env S=J (.nx aW,S1++[J ds]):=by rw[<- he];simp only[aD5,kY,oV,h,oB]
def Mf(K:G Rw)(F:G Ft)(M:G Nat)(a:Nat):Prop:=∀ (j:Nat) (r:Rw),a<=j->K[j]?=J r->∀ q∈eJ K F r (M.getD j 0),Sb q.2 (M.getD q.1 0)
def aLc(M:G Nat)(a i:Nat):Sb (M.getD i 0) ((gD K F M a).getD i 0):=by
 unfold gD;cases K[a]? with
 |none=>exact Sb.refl _|some r=>exact aBK _ M i
def aSA(p:Prg K){M:G Nat}(ha:a<↑K)(h1:Bd K M1)(he:∀ i,i≠a->M1.getD i 0=M.getD i 0)(hm:∀ i,Sb (M.getD i 0) (M1.getD i 0))(h:Mf K F M (a+1)):Mf K F (gD K F M1 a) a:=λ j r hj hr q hq=>by
 rw[aJy p h1 hj ha] at hq;by_cases c:j=a
 .subst c;rw[xK hr];exact aEt _ M1 q hq (by have:=(rN p hr (h1.lt j r hr) q hq).1;rw[h1.l];omega)
 .rw[he j c] at hq;exact((h j r () hr q hq).trans (hm q.1)).trans (aLc M1 a q.1)
def aTC{F:G Ft}{x:Int}(d:Nat)(p:Prg K)(hF:↑F=↑K)(o:D)(h:Bd K M)(hj:j<↑K)(hm:Mf K F M (↑K-j))(hk:k<=90000)(c4 c6 c7 c8 c9 c10:Oz W):∃ (M':G Nat) (k':Nat) (x':Int) (c4' c6' c7' c8' c9' c10':Oz W),Bd K M'/\Mf K F M' (↑K-1-j)/\(∀ i,Sb (M.getD i 0) (M'.getD i 0))/\k'<=k+2/\xs (d<$>5) aA4 (eM (K<*o) F c4 ((j:)) c6 c7 c8 c9 c10) [J (bH ns k x),J (M.map nD)]=J (.nx (eM (K<*o) F c4' ((j:)) c6' c7' c8' c9' c10'),[J (bH ns k' x'),J (M'.map nD)]):=by
 let ek:=cs1 hj;let m1:Mf K F M (↑K-1-j+1):=by rw[show ↑K-1-j+1=↑K-j by omega];exact hm
 let hal:↑K-1-j<↑K:=();generalize ↑K-1-j=a at *;let hr:K[a]?=J K[a]:=yAa hal;generalize K[a]=r at hr;let w1:=p.ws a r hr;let e1:bM (K*>Rw.d) (.int a)=J r.d:=dP (by rw[yAe,hr];rfl);let lM:B.len.g [.list (M.map nD)]=J (.int ↑K):=by
  show J (Iz ((↑(M.map nD):Nat):Int))=_;rw[yAf,h.l]
 let al:a<↑M:=by rw[h.l];exact hal
 let(q,x1,hq,d1):=@jH k ns x [J (M.map nD)] (by show 1<=40;decide) (d+4) 8 (·) (·) ();obtain⟨M1,k1,x2,hb,he,hs,hk1,e3⟩:∃ (M1:G Nat) (k1:Nat) (x2:Int),Bd K M1/\(∀ i,i≠a->M1.getD i 0=M.getD i 0)/\(∀ i,Sb (M.getD i 0) (M1.getD i 0))/\k1<=k+2/\xs (d<$>5) (pN (bL (bL aA4))) (eM (K<*o) F ((a:)) ((j:)) (J (.d r.d)) c7 c8 c9 c10) [J (bH ns k x),J (M.map nD)]=J (.nx (eM (K<*o) F ((a:)) ((j:)) (J (.d r.d)) c7 c8 c9 c10),[J (bH ns k1 x2),J (M1.map nD)]):=by
  by_cases c:q=1
  .let(u,x2,hu,d2):=@jH (k+1) ns x1 [J (M.map nD)] (by show 1<=40;decide) (d+4) r.w () () ();exact(cY M (a,2^u),k+1+1,x2,aCl h hal (λ r' hr'=>by rw[hr] at hr';cases hr';exact yEh (·) hu),λ i hi=>tI λ z=>hi z.symm,aJ7 M _,yAd _,iE (aU (aT (bV U aF) d1) aF (jK ())) (dW (qG (aJ (bT {} {} (dM U) (yH al)) (aJ aF (aT (bV U (aM U (fG r))) d2) (jR ())) (fO _ _)) {} {} (xL [J (bH ns (k+1+1) x2)] M a _ al))),)
  .exact(M,k+1,x1,h,λ _ _=>rfl,λ _=>Sb.refl _,(),gT (aU (aT (bV U aF) d1) aF (kA ())) U,)
 let(f1,f2'):=p.fit a r hr;let ol:=tP r;let hc:lv (d<$>5) aGT (eM (K<*o) F ((a:)) ((j:)) (J (.d r.d)) (J (.d (Tz ((bP r).map nD)))) c8 c9 c10) [J (bH ns k1 x2),J (M1.map nD)]=J ((bE r (~~~K)).map nD,[J (bH ns k1 x2),J (M1.map nD)]):=by
  unfold bE;rw[yBa];refine @iU _ _ _ _ (.one 9) (lv (d<$>5) (.it (.var 7))) (ev (d<$>5) (.ix (.ix (.ix (.var 1) (.int 0)) (.var 9)) (.int 1))) nD (nD ∘ g0 (~~~K)) (r.args.take (aZ r.wd)) ?_ (by rw[zq];have:↑(r.args.take (aZ r.wd))<=3:=ol;omega) λ b hb=>?_
  .exact uM {}
  .have haj:=f2' b hb;let hq:K[b]?=J K[b]:=yAa ();refine(_,U,λ S'=>?_,);show _=J (W.d (nD (g0 (~~~K) b)),S');rw[iK hq];exact bT (bT (aM U U) {} U (dP (by rw[yAe,hq];rfl))) aF U (fG K[b])
 let(M',c9',c10',hb',eM1,lp):=aT2 d p hr hF (K<*o) (J (bH ns k1 x2)) hb ((j:)) c9 c10;subst eM1;exact(_,k1,x2,_,_,_,_,c9',c10',hb',aSA p hal hb he hs m1,λ i=>(hs i).trans (aLc M1 a i),hk1,bA (aJ (aJ (gB (aE {} aQ) (gY (dM U) iA) lM) aF (eO _ _)) {} (by rw[eO,ek])) U (bA (bT (aM U U) {} U e1) U (bX e3 (bA (bY U (lG (d+4) r _)) U (bA (cZ (eD hc) U) U (dW (hV lp)))))),)
def aTN(p:Prg K)(ho:∀ o∈aH,o<↑K):vU K F (vB K F aH)/\∀ o∈aH,∀ i,i<g0 (wQ K) o->((vB K F aH).getD o 0)[i]! =Z:=by let b0:Bd K (aH.foldl (eA K) (yAg ↑K 0)):=aKP aH _ ho aD8;refine(λ j r hr q hq=>aJa p _ _ b0 (yAd _) j r (gIm hr).1 hr q hq,λ o mo i hi=>?_,);refine aD7 ↑K _ o i ?_;show((aH.foldl (eA K) (yAg ↑K 0)).getD o 0)[i]! =Z;rw[aEo aH _ o (by rw[yCg];exact ho o mo) (.inl mo)];exact aLC hi
def aRm{F:G Ft}{x:Int}(d:Nat)(p:Prg K)(hF:↑F=↑K)(aH:G Nat)(ho:∀ o∈aH,o<↑K)(hk:k<=50000):∃ (M:G Nat) (k':Nat) (x':Int),Bd K M/\vU K F M/\(∀ o∈aH,∀ i,i<g0 (wQ K) o->(M.getD o 0)[i]! =Z)/\k'<=k+1+2*↑K/\cl fns (d+8) 100 [.loc 0,.d (K<*(aH*>nD)),.d (F*>Ft.d)] [J (bH ns k x)]=J (.d (M*>nD),[J (bH ns k' x')]):=by
 let pl:=p.l;let(q,x1,hq,e1):=@jH k ns x [] (·) (d+6) 2 (·) (·) ();by_cases c:q=1
 .let(bd,ak):=aR5 d p hF aH ho [J (bH ns (k+1) x1)];let(m1,m2):=aTN (F:=F) p ho;exact(_,k+1,x1,bd,m1,m2,(),aV U U U (cJ (aU (aT (bV U aF) e1) aF (jK ())) (aN (cT U U ak))) U,)
 .have c0:lv (d<$>7) aG5 [#[0],J (.d (K<*(aH*>nD))),J (.d (F*>Ft.d)),qx,qx,qx,qx,qx,qx,qx,qx,qx] [J (bH ns (k+1) x1)]=J ((yAg ↑K 0).map nD,[J (bH ns (k+1) x1)]):=by
   rw[show(yAg ↑K 0).map nD=K.map λ _=>nD 0 by rw[yGb,List.map_const']];exact iU (fi:=lv (d<$>7) (.it (.ix (.var 1) (.int 0)))) (fe:=ev (d<$>7) (.int 0)) Rw.d (λ _=>nD 0) K U (by rw[zq];omega) λ a _=>(_,U,λ S'=>rfl,)
  let(env1,S1,p1,c4,hb1,U,U):=jF (t:=.one 4) (fi:=lv (d<$>7) aG6) (fb:=xs (d<$>7) aHa) (env:=eM (K<*(aH*>nD)) F qx qx qx qx qx qx qx) (S:=[J (bH ns (k+1) x1),J ((yAg ↑K 0).map nD)]) (ds:=aH.map nD)
   (λ j env S'=>∃ c4:Oz W,Bd K ((aH.take j).foldl (eA K) (yAg ↑K 0))/\env=eM (K<*(aH*>nD)) F c4 qx qx qx qx qx qx/\S'=[J (bH ns (k+1) x1),J (((aH.take j).foldl (eA K) (yAg ↑K 0)).map nD)])
   rfl (qx,aD8,U,U,) (by
    rintro j dd env S' hd ⟨c4,hb,rfl,rfl⟩;rw[yAe] at hd;let(u,hu,U):=Option.map_eq_some_iff.mp hd;let hul:=ho u (xAk hu);let hr:K[u]?=J K[u]:=yAa hul;let w1:=(p.ws u _ hr).2;rw[aBg (f:=eA K) (yAg ↑K 0) hu];generalize (aH.take j).foldl (eA K) (yAg ↑K 0)=N at *;exact(_,_,_,U,dW (qG (aJ (aJ aF (bT (bT (aM U U) {} U (dP (by rw[yAe,hr];rfl))) aF U (fG K[u])) (jR ())) aF (by rw[eO,aBm])) {} {} (xL [J (bH ns (k+1) x1)] N u _ (by rw[hb.l];exact hul))),_,aEv hb hul,U,by rw[aID hr];rfl,))
  rw[yAf,yAb] at hb1 p1;let fu:∀ o∈aH,∀ i,i<g0 (wQ K) o->((aH.foldl (eA K) (yAg ↑K 0)).getD o 0)[i]! =Z:=λ o mo i hi=>by
   rw[aEo aH _ o (by rw[yCg];exact ho o mo) (.inl mo)];exact aLC hi
  generalize aH.foldl (eA K) (yAg ↑K 0)=M1 at *;let lM1:B.len.g [.list (M1.map nD)]=J (.int ↑K):=by
   show J (Iz ((↑(M1.map nD):Nat):Int))=_;rw[yAf,hb1.l]
  let(env2,S2,p2,M2,k2,x2,a4,a5,a6,a7,a8,a9,a10,hb2,hq2,hs2,hk2,U,U):=jF (t:=.one 5) (fi:=lv (d<$>7) aG9) (fb:=xs (d<$>7) aA4) (env:=eM (K<*(aH*>nD)) F c4 qx qx qx qx qx qx) (S:=[J (bH ns (k+1) x1),J (M1.map nD)])
   (λ j env S'=>∃ (M:G Nat) (k':Nat) (x':Int) (c4 c5 c6 c7 c8 c9 c10:Oz W),Bd K M/\Mf K F M (↑K-j)/\(∀ i,Sb (M1.getD i 0) (M.getD i 0))/\k'<=k+1+2*j/\env=eM (K<*(aH*>nD)) F c4 c5 c6 c7 c8 c9 c10/\S'=[J (bH ns k' x'),J (M.map nD)])
   (nQ (w:=↑K) (gB (aE {} aQ) (gY (dM U) iA) lM1) ()) (M1,k+1,x1,c4,qx,qx,qx,qx,qx,qx,hb1,(λ i r hi hr=>absurd (gIm hr).1 ()),λ _=>Sb.refl _,(),U,U,) (by
     rintro j dd env S' hd ⟨M,k',x',c4,c5,c6,c7,c8,c9,c10,hb,hq,hs,hk',rfl,rfl⟩;let(hj,U):=aDJ hd;let(M',k2,x2,b4,b6,b7,b8,b9,b10,hb',hq',hs',hk2,e):=@aTC _ _ _ k' ns _ x' (d+2) p hF (aH*>nD) hb hj hq () c4 c6 c7 c8 c9 c10
     exact(_,_,_,U,e,M',k2,x2,b4,_,b6,b7,b8,b9,b10,hb',by rw[show ↑K-(j+1)=↑K-1-j by omega];exact hq',λ i=>(hs i).trans (hs' i),(),U,U,))
  rw[yAf,yCi] at hk2;rw[yAf,yCi,yBe] at hq2;exact(M2,k2,x2,hb2,λ j r hr=>hq2 j r (yBv _) hr,λ o mo i hi=>hs2 o i (fu o mo i hi),hk2,aV U U U (bW (aU (aT (bV U aF) e1) aF (kA ())) (bX (aVF c0 U) (bX (hV p1) (bX (hV p2) (aN (gB (aE {} aQ) (gY (dM U) iA) U)))))) U,)
def aUb{K:G Rw}{Y Y':G (Oz (Yw×Nat))}(g:Yg K Y)(hl:↑Y'=↑K)(h:∀ (k:Nat) (r:Rw) (y y':Oz (Yw×Nat)),K[k]?=J r->Y[k]?=J y->Y'[k]?=J y'->y'.isSome=y.isSome/\sZ r.w y'/\((r.wd==.in)=Z->y'=y))(p:Prg K):Yg K Y':=by
 let gl:=g.st.l;let vT:∀ k,k<↑K->∃ r y y',K[k]?=J r/\Y[k]?=J y/\Y'[k]?=J y':=λ k hk=>(_,_,_,yAa hk,yAa (),yAa (),)
 refine((hl,λ k r y' hr hy'=>?_,),λ k r hr hi=>?_,λ k r q hr hq hc a hA=>?_,)
 .let(r0,y,y1,h1,h2,h3):=vT k (gIm hr).1;exact(h k r y y' hr h2 hy').2.1
 .let(r0,y,y1,h1,h2,h3):=vT k (gIm hr).1;let e:=(h k r y y1 hr h2 h3).2.2 hi;rw[h3,e,<- h2];exact g.inn k r hr hi
 .have hk:k<↑K:=(gIm hr).1;let(r0,y,y1,h1,h2,h3):=vT k hk;let e:=(h k r y (J q) hr h2 hq).1;let(q0,hq0):=Option.isSome_iff_exists.mp e.symm;rw[hq0] at h2;let(ya,hya):=g.cok k r q0 hr h2 hc a hA;let(ra,y2,y3,g1,g2,g3):=vT a (yDm ((p.fit k r hr).2 a hA) hk);rw[hya] at g2;cases g2;let(q3,hq3):=Option.isSome_iff_exists.mp (h a ra _ y3 g1 hya g3).1;simp_all
def aXM(w v:Nat)(hw:1<=w)(hv:1<=v):∃ z:Nat,1<=z/\z<=w/\kX [.int (w:_),.int (v:_)]=J (.int z):=by
 let e:kX [.int (w:Int),.int (v:Int)]=J (.int (if (v:Int)<(w:Int) then (v:Int) else (w:Int))):=rfl;by_cases c:v<w
 .rw[if_pos (Int.ofNat_lt.mpr c)] at e;exact(v,hv,yCv c,e,)
 .rw[if_neg (λ h=>c (Int.ofNat_lt.mp h))] at e;exact(w,hw,yAd w,e,)
def aF5(r:Rw)(f:Ft)(m:Nat)(y y':Oz (Yw×Nat)):Prop:=y'.isSome=y.isSome/\sZ r.w y'/\((r.wd==.in)=Z->y'=y)/\(rt r f m y=Z->rt r f m y'=Z)
noncomputable abbrev eZ(r:Rw)(f:Ft)(m:Nat)(y:D)(c5 c6:Option W):aY:=[#[0],J (.d r.d),J (.d f.d),(m:),J (.d y),c5,c6]
def aUj(d:Nat)(r:Rw)(f:Ft)(m:Nat)(b a:Yw)(kk kept:Nat)(hy:sZ r.w (J (b,kk)))(hi:(r.wd==.in)=Ff)(h1:1<=kept)(h2:kept<=r.w)(S:aD):∃ y',aF5 r f m (J (b,kk)) y'/\xs (d<$>1) (bL (bL (bL (bL aDc)))) (eZ r f m (yD (J (b,kk))) (J (.d (Sz a.s))) ((kept:))) S=J (.rt (.d (yD y')),S):=by
 let le:=aEg d a kept f m r.w h1 h2 S;let lt:=λ {t:Bool} (e:cl fns (d+1) 52 [.d (Tz [Sz a.s,Iz kept]),.d f.d,.d (Iz m),.d (Iz r.w)] S=J (.d (Bz t),S))=>@nA (d<$>1) (eZ r f m (yD (J (b,kk))) (J (.d (Sz a.s))) ((kept:))) _ _ (.call 52 (.cons (.tup (.cons (.var 5) (.cons (.var 6) .nil))) (.cons (.var 2) (.cons (.var 3) (.cons (.ix (.var 1) (.int 1)) .nil))))) _ t U (aT (aE (fJ {} {}) (aE {} (aE {} (aE (aM U (fG r)) aQ)))) e) U
 generalize hl:lb a kept f m r.w=t at le;cases t with
 |true=>
   refine⟨J (a,kept),⟨rfl,λ a' k' e=>by simp_all,(λ h=>by rw[hi] at h;cases h),λ h=>by
    let c:r.wd≠.in:=beq_eq_false_iff_ne.mp hi;unfold rt at h ⊢;rw[if_neg c] at h ⊢
    simp_all⟩,?_⟩
   exact cJ (lt le) (aN (fJ {} {}))
 |false=>exact(J (b,kk),(U,hy,λ _=>rfl,λ h=>h,),bW (lt le) (aN {}),)
def aPt{x:Int}(d:Nat)(r:Rw)(f:Ft)(m:Nat)(y:Oz (Yw×Nat))(cB:1<=r.w)(hw:r.w<=64)(hy:sZ r.w y)(T:aD)(hT:↑T<=40)(hk:k<=90000):∃ (y':Oz (Yw×Nat)) (k':Nat) (x':Int),aF5 r f m y y'/\k'<=k+5/\cl fns (d+2) 101 [.loc 0,.d r.d,.d f.d,.d (Iz m),.d (yD y)] (sT T ns k x)=J (.d (yD y'),sT T ns k' x'):=by
 let tk:∀ (k':Nat) (x':Int),yFk (yFp T+1) (sT T ns k' x')=sT T ns k' x':=λ k' x'=>by
  rw[show ↑T+1=↑(sT T ns k' x') from U,yAb]
 let c1:bO .Eq (.str r.wd.s) (.str "in")=J (.bool (decide (r.wd=.in))):=fS r.wd .in;let rw0:=aLp r;let rw1:=fG r;let isy:=zU y;by_cases c:r.wd=.in
 .rw[dqT c] at c1;exact(y,k,x,(U,hy,λ _=>rfl,λ h=>h,),(),aV U U U (cJ (iW (aU (aM U rw0) cC c1) U) (aN {})) (tk k x),)
 .have hi:(r.wd==.in)=Ff:=beq_eq_false_iff_ne.mpr c;rw[dqF c] at c1;rcases y with _|⟨b,kk⟩
  .exact(qx,k,x,(U,hy,λ _=>rfl,λ h=>h,),(),aV U U U (cJ (iW (p:=Ff) (aU (aM U rw0) cC c1) (jB (iW (p:=Z) (aU {} jJ isy) U))) (aN {})) (tk k x),)
  .let(q,x1,hq,e1):=@jH k ns x T hT d 2 (·) (·) ();by_cases cq:q=1
   .exact(J (b,kk),k+1,x1,(U,hy,λ _=>rfl,λ h=>h,),(),aV U U U (cJ (iW (p:=Ff) (aU (aM U rw0) cC c1) (jB (iW (p:=Ff) (aU {} jJ isy) (jB (aU (aT (bV U aF) e1) aF (rP cq)))))) (aN {})) (tk (k+1) x1),)
   .let(v,x2,hv,e2):=@jH (k+1) ns x1 T hT d 3 (·) (·) ();let(u,x3,hu,e3):=@jH (k+1+1) ns x2 T hT d 4 (·) (·) ();let(t,x4,ht,e4):=@jH (k+1+1+1) ns x3 T hT d 4 (·) (·) ();obtain⟨a,ha⟩:∃ a:Yw,bM (.list [.str "cut",.str "nought",.str "sign"]) (.int v)=J (.str a.s):=by
     rcases (show v=0\/v=1\/v=2 by omega) with rfl|rfl|rfl
     .exact(.cut,U,)
     .exact(.nought,U,)
     .exact(.sign,U,)
    let(k1,k2):=hy b kk U;let(z,z1,z2,mn):=aXM r.w (kk+u) cB ();obtain⟨kept,k',x',h1,h2,hk',s3⟩:∃ (kept k':Nat) (x':Int),1<=kept/\kept<=r.w/\k'<=k+5/\xs (d<$>1) (pN (bL (bL (bL aDc)))) (eZ r f m (yD (J (b,kk))) (J (.d (Sz a.s))) ((z:))) (sT T ns (k+1+1+1) x3)=J (.nx (eZ r f m (yD (J (b,kk))) (J (.d (Sz a.s))) ((kept:))),sT T ns k' x'):=by
     by_cases ct:t=1
     .let(w,x5,hw5,e5):=@jH (k+1+1+1+1) ns x4 T hT d r.w () () ();exact(1+w,k+1+1+1+1+1,x5,(),(),(),iE (aU (aT (bV U aF) e4) aF (rP ct)) (gS (aJ aF (aT (bV U (aM U rw1)) e5) (iZ 1 w))),)
     .exact(z,k+1+1+1+1,x4,z1,z2,(),gT (aU (aT (bV U aF) e4) aF (oK ct)) U,)
    let(y',ok,s4):=aUj d r f m b a kk kept hy hi h1 h2 (sT T ns k' x');exact(y',k',x',ok,hk',aV U U U (bW (iW (p:=Ff) (aU (aM U rw0) cC c1) (jB (iW (p:=Ff) (aU {} jJ isy) (jB (aU (aT (bV U aF) e1) aF (oK cq)))))) (bA (bT (eD (eX (aE cC (aE cC (aE cC aQ))) U (yAc U))) (aT (bV U aF) e2) U ha) U (bA (fU (aM U rw1) (aJ (aM U U) (aT (bV U aF) e3) (iZ kk u)) mn) U (bX s3 s4)))) (tk k' x'),)
def aSK{F:G Ft}(d:Nat)(p:Prg K)(hF:↑F=↑K)(h:Bd K M)(o:D)(S:aD):cl fns (d+6) 57 [.d (K<*o),.d (F*>Ft.d),.d (M*>nD)] S=J (.d (Tz ((jO K F M).map yD)),S):=aV U U U (aN (gF U U U (aQK d p hF h o S))) yAb
def aUo{r:Rw}(f:Ft)(cB:1<=r.w)(hm:m<2^r.w):rt r f m (gO r f m)=Z:=by
 unfold rt gO;by_cases c:r.wd=.in
 .rw[if_pos c,if_pos c];simp_all
 .rw[if_neg c,if_neg c];by_cases m0:m=0
  .rw[if_pos m0,if_pos m0];rfl
  .rw[if_neg m0,if_neg m0];exact(aLT f cB hm).2.2
noncomputable abbrev vS(P FF MM YY:D)(c6:Option W):aY:=[#[0],J (.d P),J (.d FF),J (.d MM),J (.d YY),#[1],c6]
noncomputable abbrev sY(ns:List Int)(k:Nat)(x:Int)(Y:List (Option (Yw×Nat))):aD:=[J (bH ns k x),J (Y.map yD)]
def bAP{x:Int}(Y:G (Oz (Yw×Nat)))(hY:↑Y<=1000)(y:Oz (Yw×Nat)):eE (sY ns k x Y) (.loc 1) (.d (yD y))=J (.d .none,sY ns k x (Y++[y])):=by show(if ↑(Y.map yD)<qk then _ else qx)=_;rw[if_pos (by rw[yAf,zq];omega),show Y.map yD++[yD y]=(Y++[y]).map yD by rw[yAu];rfl];rfl
def aSq{F:G Ft}{x:Int}(d:Nat)(p:Prg K)(hF:↑F=↑K)(h:Bd K M)(ha:Aq K M 0)(o:D)(hk:k<=50000):∃ (Y:G (Oz (Yw×Nat))) (k':Nat) (x':Int),Yg K Y/\(∀ (i:Nat) r y,K[i]?=J r->Y[i]?=J y->rt r (f0 F i) (M.getD i 0) y=Z)/\k'<=k+5*↑K/\cl fns (d+7) 102 [.loc 0,.d (K<*o),.d (F*>Ft.d),.d (M*>nD)] [J (bH ns k x)]=J (.d (Y*>yD),[J (bH ns k' x')]):=by
 let pl:=p.l;let hM:=h.l;let g0:=aTs p hF h ha;let st:=λ S=>aSK d p hF h o S
 let lY:nE [.tuple ((jO K F M).map yD)]=J (.int ↑K):=by
  show J (Iz ((↑((jO K F M).map yD):Nat):Int))=_;rw[yAf,aKU hF h.l]
 let i0:bM (K<*o) (.int 0)=J (K*>Rw.d):=rfl;let ir:∀ (j:Nat) (r:Rw),K[j]?=J r->bM (K*>Rw.d) (.int j)=J r.d:=λ j r hr=>dP (by rw[yAe,hr];rfl)
 let iF:∀ j:Nat,j<↑K->bM (F*>Ft.d) (.int j)=J (f0 F j).d:=λ j hj=>dP (by rw[yAe,jS ()];rfl)
 let iM:∀ j:Nat,j<↑K->bM (M*>nD) (.int j)=J (.int ((M.getD j 0:Nat):Int)):=λ j hj=>dP (by rw[yAe,xN ()];rfl)
 let iY:∀ (j:Nat) (r:Rw),K[j]?=J r->bM (.tuple ((jO K F M).map yD)) (.int j)=J (yD (gO r (f0 F j) (M.getD j 0))):=λ j r hr=>dP (by rw[yAe,tO hr hF h.l];rfl)
 obtain⟨P,hP⟩:∃ P:D,P=(K<*o):=(_,U,);obtain⟨R,hR⟩:∃ R:D,R=(K*>Rw.d):=(_,U,);obtain⟨FF,hFF⟩:∃ FF:D,FF=(F*>Ft.d):=(_,U,);obtain⟨MM,hMM⟩:∃ MM:D,MM=(M*>nD):=(_,U,);obtain⟨YY,hYY⟩:∃ YY:D,YY=.tuple ((jO K F M).map yD):=(_,U,);rw[<- hP,<- hFF,<- hMM];simp only[<- hP] at st i0;simp only[<- hFF,<- hMM,<- hYY,<- hR] at st lY i0 ir iF iM iY;let it:lv (d<$>6) aDf (vS P FF MM YY qx) (sY ns k x [])=J ((yBk ↑K).map (λ k=>Iz (k:_)),sY ns k x []):=by
  simp only[aDf,zK,xI,xC,xM,yN,yO,xD];exact nQ (by erw[20,vS,lY]) ()
 let(env1,S1,p1,Y,k',x',c6,yl,ys,hk',U,U):=jF (t:=.one 6) (fb:=xs (d<$>6) aHb)
  (λ j env S'=>∃ (Y:G (Oz (Yw×Nat))) (k':Nat) (x':Int) (c6:Oz W),↑Y=j/\(∀ (i:Nat) (r:Rw) (y':Oz (Yw×Nat)),K[i]?=J r->Y[i]?=J y'->aF5 r (f0 F i) (M.getD i 0) (gO r (f0 F i) (M.getD i 0)) y')/\k'<=k+5*j/\env=vS P FF MM YY c6/\S'=sY ns k' x' Y)
  it ([],k,x,qx,U,(λ i r y' _ hy=>by cases hy),(),U,U,) (by
   rintro j dd env S' hd ⟨Y,k',x',c6,yl,ys,hk',rfl,rfl⟩;let(hj,U):=aDJ hd;let hr:K[j]?=J K[j]:=yAa hj;generalize K[j]=r at hr;let(w1,w2):=p.ws j r hr;let(y',k2,x2,ok,hk2,e):=@aPt k' ns x' (d+4) r (f0 F j) (M.getD j 0) (gO r (f0 F j) (M.getD j 0)) w1 w2 (aJd r _ _ w1 (h.lt j r hr)) [J (Y.map yD)] (yAc U) ();let ap:=@bAP ns k2 x2 Y () y';let r1:=ir j r hr;let f1:=iF j hj;let m1:=iM j hj;let y1:=iY j r hr;refine(vS P FF MM YY ((j:)),vS P FF MM YY ((j:)),sY ns k2 x2 (Y++[y']),U,?_,Y++[y'],k2,x2,_,by rw[xAn,yl];rfl,λ i r2 y2 hr2 hy2=>?_,(),U,U,)
   .have ev1:ev (d<$>6) (.call 101 (.cons (.var 0) (.cons (.ix (.ix (.var 1) (.int 0)) (.var 6)) (.cons (.ix (.var 2) (.var 6)) (.cons (.ix (.var 3) (.var 6)) (.cons (.ix (.var 4) (.var 6)) .nil)))))) (vS P FF MM YY ((j:))) (sY ns k' x' Y)=J (.d (yD y'),sY ns k2 x2 Y):=by
     exact aT (aE {} (aE (bT (aM U i0) {} U r1) (aE (bT {} {} U f1) (aE (bT {} {} U m1) (aE (bT {} {} U y1) U))))) e
    exact bX (fZ (gW {} ev1 ap)) U
   .rcases Nat.lt_trichotomy i j with hi|hi|hi
    .rw[xAm ()] at hy2;exact ys i r2 y2 hr2 hy2
    .simp_all
    .rw[yBr (by rw[xAn,yl];exact hi)] at hy2
     cases hy2)
 rw[yAf,yCi] at yl hk';refine(Y,k',x',aUb g0 yl (λ i r y y' hr hy hy'=>?_) p,(λ i r y hr hy=>(ys i r y hr hy).2.2.2 (aUo _ (p.ws i r hr).1 (h.lt i r hr))),hk',?_,)
 .rw[tO hr hF h.l] at hy;cases hy;let z:=ys i r y' hr hy';exact(z.1,z.2.1,z.2.2.1,)
 .have nw:ev (d<$>6) (.new (.lst .nil)) [#[0],J (.d P),J (.d FF),J (.d MM),J (.d YY),qx,qx] [J (bH ns k x)]=J (.loc 1,sY ns k x []):=kS (eX aQ U (yBv _));let tp:rL [.list (Y.map yD)]=J (Y*>yD):=rfl;let s0:ev (d<$>6) (.call 57 (.cons (.var 1) (.cons (.var 2) (.cons (.var 3) .nil)))) [#[0],J (.d P),J (.d FF),J (.d MM),qx,qx,qx] [J (bH ns k x)]=J (.d YY,[J (bH ns k x)]):=aT (aE {} (aE {} (aE {} U))) (st _);let body:xs (d<$>6) aHw [#[0],J (.d P),J (.d FF),J (.d MM),qx,qx,qx] [J (bH ns k x)]=J (.rt (.d (Y*>yD)),sY ns k' x' Y):=
   bA s0 U (bA nw U (bX p1 (aN (gB (aE {} U) U tp))))
  exact aV U U U body U
def bAa(d:Nat){r:Rw}(hy:sZ r.w y)(h:rt r f m y=Z)(S:aD):cl fns (d+2) 58 [.d r.d,.d f.d,.d (Iz m),.d (yD y)] S=J (.d (Bz Z),S):=by
 let c1:bO .Eq (.str r.wd.s) (.str "in")=J (.bool (decide (r.wd=.in))):=fS r.wd .in;let iy:=zU y;unfold rt at h;by_cases c:r.wd=.in
 .rw[dqT c] at c1;rw[if_pos c] at h;let cy:=bAx y (J (.cut,r.w));rw[h] at cy;exact aV U U U (cJ (aU (aM U (gJ r)) cC c1) (aN (dX {} (fJ cC (aM U (fG r))) cy))) yAb
 rw[dqF c] at c1;rw[if_neg c] at h;by_cases z:m=0
 .rw[if_pos z] at h;rw[h] at iy;exact aV U U U (bW (aU (aM U (gJ r)) cC c1) (cJ (iW (p:=Z) (aU {} aF (jK ())) U) (aN (uI (p:=Z) (dX {} aF (jK ())) (dX {} jJ iy))))) yAb
 .rw[if_neg z] at h;rcases y with _|⟨a,k⟩
  .cases h
  let(k1,k2):=hy a k U;let le:=aEg d a k f m r.w k1 k2 S;dsimp only at h;rw[h] at le;exact aV U U U (bW (aU (aM U (gJ r)) cC c1) (bW (iW (p:=Ff) (aU {} aF (kA ())) (aU {} jJ iy)) (aN (aT (aE {} (aE {} (aE {} (aE (aM U (fG r)) aQ)))) le)))) yAb
def aYq{ds:G D}{j:Nat}{dd:D}(h:(ds.zipIdx.map (λ p=>Tz [.int (p.2:Nat),p.1]))[j]?=J dd):∃ x,ds[j]?=J x/\dd=.tuple [.int j,x]:=by
 rw[yAe,yGp,yEn] at h;cases e:ds[j]? with
 |none=>rw[e] at h;cases h|some x=>rw[e] at h;cases h;exact(x,U,U,)
def aTt(d:Nat){K:G Rw}{F:G Ft}{M:G Nat}(hF:↑F=↑K)(hM:↑M=↑K){Y:Ys}(hY:Yst K Y)(h:∀ (i:Nat) r y,K[i]?=J r->Y[i]?=J y->rt r (f0 F i) (M.getD i 0) y=Z)(o:D)(S:aD):cl fns (d+3) 59 [.d (K<*o),.d (F*>Ft.d),.d (M*>nD),.d (Y*>yD)] S=J (.d .none,S):=by
 let(aW,p1,c4,c5,U):=@aMo [J (.d (K<*o)),J (.d (F*>Ft.d)),J (.d (M*>nD)),J (.d (Y*>yD)),qx,qx] S _ S (.many [4,5]) (lv (d<$>2) aG0) (xs (d<$>2) aG2) (λ env=>∃ c4 c5:Oz W,env=[J (.d (K<*o)),J (.d (F*>Ft.d)),J (.d (M*>nD)),J (.d (Y*>yD)),c4,c5]) (aHn (ds:=K.map Rw.d) (aM U U)) (qx,qx,U,) (by
  rintro dd hdd env ⟨c4,c5,rfl⟩;let(j,hj):=yEg hdd;let(z,hz,U):=aYq hj;rw[yAe] at hz;let(r,hr,U):=Option.map_eq_some_iff.mp hz;let hk:j<↑K:=(gIm hr).1;let hkY:j<↑Y:=by rw[hY.l];exact hk
  let hy:Y[j]?=J Y[j]:=yAa hkY;let e4:=bAa d (hY.ok j r _ hr hy) (h j r _ hr hy) S;exact(_,_,U,bW (aB1 (p:=Z) (nA U (aT (aE {} (aE (bT {} {} U (dP (by rw[yAe,jS ()];rfl))) (aE (bT {} {} U (aBJ ())) (aE (bT {} {} U (dP (by rw[yAe,hy];rfl))) aQ)))) e4) U)) U,_,_,U,))
 exact aV U U U (bX (hV p1) (aN jJ)) yAb
def aVz(d:Nat){F:G Ft}(p:Prg K)(hF:↑F=↑K)(ho:∀ o∈aH,o<↑K)(hol:↑aH<=8)(hb:Bd K M)(met:vU K F M)(fl:∀ o∈aH,∀ i,i<g0 (wQ K) o->(M.getD o 0)[i]! =Z)(S:aD):cl fns (d+7) 21 [.d (K<*(aH*>nD)),.d (F*>Ft.d),.d (M*>nD)] S=J (.d .none,S):=by
 let pl:=p.l;let lR:B.len.g [(K*>Rw.d)]=J (.int ↑K):=by
  show J (Iz ((↑(K.map Rw.d):Nat):Int))=_;rw[yAf]
 let ne0:∀ a b:Nat,Sb a b->bO .NotEq (.int ((dQ a b:Nat):Int)) (.int 0)=J (.bool Ff):=λ a b h=>by
  rw[uF,nP,(aDC a b).mpr h];rfl
 let af:∀ {α:Type} (l:List α),B.any.g [.list (l.map λ _=>Bz Ff)]=J (.bool Ff):=λ l=>by
  have:=aVT (λ _=>Ff) l;rw[show(l.any λ _=>Ff)=Ff by simp] at this;exact this
 let(aW,p1,c3,U):=aMo (t:=.one 3) (fi:=lv (d<$>6) aGS) (fb:=xs (d<$>6) aG4) (env:=[J (.d (K<*(aH*>nD))),J (.d (F*>Ft.d)),J (.d (M*>nD)),qx,J (.d (K*>Rw.d)),J (.d (aH*>nD)),qx,qx,qx]) (S:=S) (S1:=S)
  (λ env=>∃ c3:Oz W,env=[J (.d (K<*(aH*>nD))),J (.d (F*>Ft.d)),J (.d (M*>nD)),c3,J (.d (K*>Rw.d)),J (.d (aH*>nD)),qx,qx,qx]) (nQ (w:=↑K) (cZ {} lR) ()) (qx,U,) (by
    rintro dd hd env ⟨c3,rfl⟩;let(k,hk,U):=List.mem_map.mp hd;let hk:=List.mem_range.mp hk;let hr:K[k]?=J K[k]:=yAa hk;generalize K[k]=r at hr;let hm:=hb.lt k r hr;let ol:=tP r;let hc:lv (d<$>6) aHc [J (.d (K<*(aH*>nD))),J (.d (F*>Ft.d)),J (.d (M*>nD)),(k:),J (.d (K*>Rw.d)),J (.d (aH*>nD)),qx,qx,qx] S=J ((eJ K F r (M.getD k 0)).map λ _=>Bz Ff,S):=by
     refine @iU _ _ _ _ (.many [7,8]) (lv (d<$>6) (.it (.call 19 (.cons (.var 0) (.cons (.var 1) (.cons (.var 3) (.cons (.ix (.var 2) (.var 3)) .nil))))))) (ev (d<$>6) (.cmp .NotEq (.bin .BitAnd (.var 8) (.un .Invert (.ix (.var 2) (.var 7)))) (.int 0))) pD (λ _=>Bz Ff) (eJ K F r (M.getD k 0)) ?_ (by unfold eJ;rw[List.length_zip,zq];omega) λ q hq=>?_
     .exact aMY (aT (aE {} (aE {} (aE {} (aE (bT {} {} U (aBJ (by rw[hb.l];exact hk))) aQ)))) (aHN d p hr hF hm _ S))
     .let(q1,_):=rN p hr hm q hq;exact(_,U,λ S'=>dX (aJ {} (aCB (bT {} {} U (aBJ (by rw[hb.l];omega))) (rE _)) (rA _ _)) aF (ne0 _ _ (met k r hr q hq)),)
    exact(_,_,U,dW (gT (nA U (cZ (eD hc) (af _)) U) U),_,U,))
 let h0:lv (d<$>6) aG1 [J (.d (K<*(aH*>nD))),J (.d (F*>Ft.d)),J (.d (M*>nD)),c3,J (.d (K*>Rw.d)),J (.d (aH*>nD)),qx,qx,qx] S=J (aH.map λ _=>Bz Ff,S):=by
  refine @iU _ _ _ _ (.one 6) (lv (d<$>6) (.it (.var 5))) (ev (d<$>6) (.cmp .NotEq (.bin .BitAnd (.call 0 (.cons (.call 10 (.cons (.var 0) (.cons (.var 6) .nil))) .nil)) (.un .Invert (.ix (.var 2) (.var 6)))) (.int 0))) nD (λ _=>Bz Ff) aH ?_ (by rw[zq];omega) λ u hu=>?_
  .exact uM {}
  .have hul:=ho u hu;let hr:K[u]?=J K[u]:=yAa hul;let gw:g0 (wQ K) u=K[u].w:=iK hr;exact⟨_,rfl,λ S'=>dX (aJ (aT (aE (cT U U (uE (d+5) u hr _ _)) aQ) (dL (d+5) _ (by have:=(p.ws u _ hr).2;omega) _)) (aCB (bT {} {} U (aBJ (by rw[hb.l];exact hul))) (rE _)) (rA _ _)) aF (ne0 _ _ λ i hi=>fl u hu i (by
    rw[gw];rw[dF] at hi
    simp_all))⟩
 exact aV U U U (bX (iV {} U) (bX (hV p1) (bW (nA U (cZ (eD h0) (af _)) U) (aN jJ)))) yAb
noncomputable abbrev sC(ns:List Int)(k:Nat)(x:Int)(K:List Rw)(sm:List Nat):aD:=[J (bH ns k x),J (K.map Rw.d),J (sm.map nD)]
noncomputable abbrev eC(w:Nat)(c4 c5:Option W):aY:=[#[0],(w:),#[1],#[2],c4,c5]
def dC(ns:G Int)(k:Nat)(x:Int)(K:G Rw)(sm:G Nat)(d m:Nat)(hm:0<m)(hm2:m<2^64)(hk:k<=90000):∃ (r:Nat) (x':Int),r<m/\cl fns (d+1) 84 [.loc 0,.d (Iz m)] (sC ns k x K sm)=J (.d (Iz r),sC ns (k+1) x' K sm):=jH [J (K.map Rw.d),J (sm.map nD)] (by simp) d m hm hm2 ()
def apS{x:Int}{sm:G Nat}(a:Nat)(hl:↑sm<=900):eE (sC ns k x K sm) (.loc 2) (.d (Iz a))=J (.d .none,sC ns k x K (sm++[a])):=by show(if ↑(sm.map nD)<qk then _ else qx)=_;rw[if_pos (by rw[yAf,zq];omega),show sm.map nD++[Iz (a:Nat)]=(sm++[a]).map nD by rw[yAu];rfl];rfl
def aFA(K:G Rw)(r:Rw):(wQ (K++[r]))[↑K]?=J r.w:=by unfold wQ;rw[yAe,aBG];rfl
def aYu(h:dG [] K)(hr:fP (wQ K) r):dG [] (K++[r]):=tH h (by rw[yEk];exact hr)
def push(ok:dG [] K)(hr:fP (wQ K) r)(hl:↑K<=900):∃ R,dG [] R/\↑R=↑K+1/\(wQ R)[↑K]?=J r.w/\(∀ s v:Nat,(wQ K)[s]?=J v->(wQ R)[s]?=J v)/\∀ ns k x sm,eE (sC ns k x K sm) (.loc 1) (.d r.d)=J (.d .none,sC ns k x R sm):=by refine(K++[r],aYu ok hr,xAn,aFA K r,λ s v h=>yZ h,λ ns k x sm=>?_,);show(if ↑(K.map Rw.d)<qk then _ else qx)=_;rw[if_pos (by rw[yAf,zq];omega),show K.map Rw.d++[r.d]=(K++[r]).map Rw.d by rw[yAu];rfl];rfl
def vN(c:Nat)(h:a=b+c):cG .Sub (.int a) (.int c)=J (.int b):=by rw[jC (),h,yFz]
def aZf{sm:G Nat}(x:Int)(d:Nat)(w2:2<=w)(w64:w<=64)(hk:k<=80000)(ok:dG [] K)(lr:↑K<=20)(ls:↑sm<=20)(hs:∀ s∈sm,(wQ K)[s]?=J w)(c4 c5:Oz W):∃ (bF:G Rw) (sm':G Nat) (k':Nat) (x':Int),dG [] bF/\↑bF<=↑K+3/\↑sm'=↑sm+1/\(∀ s∈sm',(wQ bF)[s]?=J w)/\k'<=k+4/\xs (d<$>1) aA2 (eC w c4 c5) (sC ns k x K sm)=J (.nx (eC w c4 c5),sC ns k' x' bF sm'):=by
 let(q1,x1,h1,e1):=dC ns k x K sm d w () () ();let(R1,o1,l1,n1,k1,p1):=@push _ (.in,1+q1,[],) ok (by simp_all,by show 1+q1<=64;omega,trivial,) ();let(q2,x2,h2,e2):=dC ns (k+1) x1 R1 sm d 2 (·) (·) ();let(wd,aP,iw):=aMx h2;let(R2,o2,l2,n2,k2,p2):=@push _ (wd,w,[↑K],) o1 (by rcases aP with rfl|rfl<;>exact(by show 1<=w;omega,w64,1+q1,n1,by show 1+q1<=w;omega,)) ();let(q3,x3,h3,e3):=dC ns (k+2) x2 R2 sm d 3 (·) (·) ();obtain⟨R3,k3,x4,m,o3,l3,l4,hk3,at3,kp3,s3⟩:∃ (R3:G Rw) (k3:Nat) (x4:Int) (m:Nat),dG [] R3/\↑R3=m+1/\↑R3<=↑K+3/\k3<=k+4/\(wQ R3)[m]?=J w/\(∀ s v:Nat,(wQ R2)[s]?=J v->(wQ R3)[s]?=J v)/\xs (d<$>1) (pN (bL (bL aA2))) (eC w c4 c5) (sC ns (k+2) x2 R2 sm)=J (.nx (eC w c4 c5),sC ns k3 x4 R3 sm):=by
  by_cases c:q3=1
  .let(q4,x4,h4,e4):=dC ns (k+3) x3 R2 sm d w () () ();let(R3,o3,l3,n3,k3,p3):=@push _ (.slide,w,[↑R1,q4],) o2 (by show 1<=w;omega,w64,n2,(),) ();exact(R3,k+4,x4,↑R2,o3,l3,(),yAd _,n3,k3,iE (aU (aT (bV U aF) e3) aF (jK ())) (dW (fZ (gW {} (lV (aE cC (aE {} (aE (aJ (gQ U U) aF (vN 1 l2)) (aE (aT (bV U {}) e4) aQ)))) U (yAc U)) (p3 _ _ _ _)))),)
  .exact(R2,k+3,x3,↑R1,o2,l2,(),(),n2,λ s v h=>h,gT (aU (aT (bV U aF) e3) aF (kA ())) U,)
 refine(R3,sm++[m],k3,x4,o3,l4,xAn,λ s h=>?_,hk3,bX (fZ (gW {} (fJ cC (aJ aF (aT (bV U {}) e1) (iZ 1 q1))) (p1 _ _ _ _))) (bX (fZ (gW {} (eQ (bT (eD (eX (aE cC (aE cC aQ)) U (yAc U))) (aT (bV U aF) e2) U iw) {} (aJ (gQ U U) aF (vN 1 l1))) (p2 _ _ _ _))) (bX s3 (dW (fZ (gW {} (aJ (gQ U U) aF (vN 1 l3)) (apS m ())))))),);rcases List.mem_append.mp h with h|h
 .exact kp3 s w (k2 s w (k1 s w (hs s h)))
 .rw[List.mem_singleton.mp h];exact at3
def aSl{x:Int}(d:Nat)(hk:k<=70000):∃ (K:G Rw) (aH:G Nat) (k':Nat) (x':Int),dG [] K/\↑K<=40/\(∀ o∈aH,o<↑K)/\↑aH<=8/\k'<=k+20/\cl fns (d+2) 95 [.loc 0] [J (bH ns k x)]=J (.d (K<*(aH*>nD)),[J (bH ns k' x')]):=by
 let(q,x1,hq,e1):=@jH k ns x [] (·) d 63 (·) (·) ();obtain⟨w,hw⟩:∃ w,w=2+q:=(_,U,);let(aW,S',p1,a4,K,sm,k1,x2,ok,lr,ls,hs,hk1,U,U):=aBU (t:=.one 4) (fi:=lv (d<$>1) aGE) (fb:=xs (d<$>1) aA2) (env:=eC w qx qx) (S:=sC ns (k+1) x1 [] [])
  (λ j env S'=>∃ (a4:Oz W) (K:G Rw) (sm:G Nat) (k':Nat) (x':Int),dG [] K/\↑K<=3*j/\↑sm=j/\(∀ s∈sm,(wQ K)[s]?=J w)/\k'<=k+1+4*j/\env=eC w a4 qx/\S'=sC ns k' x' K sm)
  (nQ (w:=2) U ()) (qx,[],[],k+1,x1,trivial,yAd _,U,(λ s h=>by cases h),yAd _,U,U,) (by
    rintro j dd env S' hj ⟨a4,K,sm,k',x',ok,lr,ls,hs,hk',rfl,rfl⟩;let hj':j<2:=by simpa using hj
    let(bF,sm',k2,x2,ok',lr',ls',hs',hk2,e):=@aZf _ k' _ ns _ x' d (show 2<=w by omega) (show w<=64 by omega) () ok () () hs (J (.d dd)) qx
    exact(_,_,_,U,e,_,bF,sm',k2,x2,ok',(),(),hs',(),U,U,))
 rw[yAf,yCi] at lr ls hk1;obtain⟨s0,s1,rfl⟩:∃ a b,sm=[a,b]:=by
  match sm,ls with
  |[a,b],_=>exact(a,b,U,)
 let h0:=hs s0 xAc;let h1:=hs s1 (xAf _ xAc);let(q3,x3,hq3,e3):=dC ns k1 x2 K [s0,s1] d 3 (·) (·) ();obtain⟨wd,aP,iw⟩:∃ wd:Wd,(wd=.same\/wd=.less\/wd=.under)/\bM (.list [.str "same",.str "less",.str "under"]) (.int q3)=J (.str wd.s):=by
  rcases (show q3=0\/q3=1\/q3=2 by omega) with rfl|rfl|rfl
  .exact(.same,.inl U,U,)
  .exact(.less,.inr (.inl U),U,)
  .exact(.under,.inr (.inr U),U,)
 let(R1,o1,l1,n1,g1,p2):=@push _ (wd,1,[s0,s1],) ok (by erw[50,aP]<;>exact(yAd 1,(show(1:Nat)<=64 by decide),U,w,h0,h1,)) ();let(R2,o2,l2,_,_,p3):=@push _ (.pick,w,[↑K,s1,s0],) o1 (by show 1<=w;omega,by show w<=64;omega,n1,g1 _ _ h1,g1 _ _ h0,) ();let(q4,x4,hq4,e4):=dC ns (k1+1) x3 R2 [s0,s1] d 2 (·) (·) ();refine(R2,[↑R1-q4,↑K],k1+2,x4,o2,(),λ o h=>?_,by show 2<=8;decide,(),aV U U U (bA (aJ aF (aT (bV U aF) e1) (iZ 2 q)) U (bA (kS (eX aQ U (yAc U))) U (bA (kS (eX aQ U (yAc U))) (by rw[<- hw];rfl) (bX (hV p1) (bA (bT (eD (eX (aE cC (aE cC (aE cC aQ))) U (yAc U))) (aT (bV U aF) e3) U iw) U (bX (fZ (gW {} (lV (aE {} (aE aF (aE (bT {} aF (dM U) U) (aE (bT {} aF (dM U) U) aQ)))) U (yAc U)) (p2 _ _ _ _))) (bX (fZ (gW {} (lV (aE cC (aE {} (aE (aJ (gQ U U) aF (vN 1 l1)) (aE (bT {} aF (dM U) U) (aE (bT {} aF (dM U) U) aQ))))) U (yAc U)) (p3 _ _ _ _))) (aN (fJ (gB (aE {} aQ) (gY (dM U) iA) U) (fJ (aJ (aJ (gQ U U) aF (vN 1 l2)) (aT (bV U aF) e4) (jC ())) (aJ (gQ U U) aF (vN 2 ())))))))))))) U,);rcases List.mem_cons.mp h with rfl|h
 .omega
 .rw[List.mem_singleton.mp h];omega
def aSQ{ns:G Int}(d:Nat)(h1:↑ns<=63):∃ (K:G Rw) (aH:G Nat) (k:Nat) (x:Int),dG [] K/\↑K<=40/\(∀ o∈aH,o<↑K)/\↑aH<=8/\k<=900/\cl fns (d+7) 96 [.loc 0] [J (bH ns 0 0)]=J (.d (K<*(aH*>nD)),[J (bH ns k x)]):=by
 obtain⟨most,hm,et⟩:∃ t:Nat,t<=30/\(1:Int)+(if (24:Int)<(↑ns:_) then 24 else (↑ns:_))=(t:_):=by
  refine(1+min ↑ns 24,(),?_,);split<;>omega
 let(q,x1,hq,d1):=@jH 0 ns 0 [] (·) (d+5) 6 (·) (·) ();let mn:kX [.int (↑ns:_),.int 24]=J (.int (if (24:Int)<(↑ns:_) then 24 else (↑ns:_))):=rfl;let lN:nE [.list (ns.map Iz)]=J (.int ↑ns):=by
  show J (Iz ((↑(ns.map Iz):Nat):Int))=_;rw[yAf]
 let s0:bM (.list (bH ns 1 x1)) (.int 0)=J (.list (ns.map Iz)):=rfl;by_cases c:q=1
 .let(K,aH,k,x,ok,l1,ho,hol,hk,e):=@aSl 1 ns x1 (d+4) ();exact(K,aH,k,x,ok,l1,ho,hol,(),aV U U U (cJ (aU (aT (bV U aF) d1) aF (jK ())) (aN (bY U e))) U,)
 .let(K,aH,k,x,ok,l0,l1,hk,ho,hol,e):=aWp d most ns hm 1 x1 ();exact(K,aH,k,x,ok,l1,ho,hol,(),aV U U U (bW (aU (aT (bV U aF) d1) aF (kA ())) (aN (aT (aE {} (aE (aJ aF (fU (cZ (bT {} aF (dM U) s0) lN) aF mn) (by rw[kM,et])) aQ)) e))) U,)
structure Sm(n:Nat)(x:D):Prop where
 e:yEv x x=Z
 l:x.canLay0=Z
 d:x.depth<=n
def aLE:∀ {xs:G D},(∀ x∈xs,Sm n x)->PyData.eqvAll xs xs=Z/\yFh xs=Z/\yFe xs<=n
 |[],_=>(U,U,yBv _,)
 |x::xs,h=>by
   let(h1,h2,h3):=aLE (λ y hy=>h y (xAf _ hy));let hx:=h x xAc;simp only[PyData.eqvAll,yFh,yFe,h1,h2,hx.e,hx.l,yCu,true_and];exact Nat.max_le.mpr (hx.d,h3,)
def aLG{xs:G D}(h:∀ x∈xs,Sm n x):Sm (n+1) (.tuple xs):=by let(h1,h2,h3):=aLE h;exact(by simp only[yEv,h1],h2,Nat.succ_le_succ h3,)
def bAI(a:Nat):Sm 0 (nD a):=(by simp[nD,yEv],U,yAd _,)
def bAL(h:Sm n x)(hn:n<=60):bO .Eq x x=J (.bool Z):=by unfold bO qM;simp only[];rw[if_pos (h.l,h.l,xAh h.d hn,),h.e];rfl
def bAw(h:Sm n x)(hn:n<=60):bO .NotEq x x=J (.bool Ff):=by unfold bO qM;simp only[];rw[if_pos (h.l,h.l,xAh h.d hn,),h.e];rfl
def aNp(l:G Nat):∀ y∈l.map nD,Sm 0 y:=λ y hy=>by
 let(r,_,U):=List.mem_map.mp hy;exact bAI r
def aKf(b:Bool)(l:G Nat):lI (l.map λ _=>Bz b)=J (l.map λ _=>b):=by
 induction l with
 |nil=>rfl|cons a l ih=>simp only[yAm,lI,ih,oB]
def aXn(l:G Nat):aF0 [.list (l.map λ _=>Bz Z)]=J (.bool Z):=by show(lI _).bind _=_;rw[aKf,oB];simp
def aLy(l:G Nat):zY [.list (l.map λ _=>Bz Ff)]=J (.bool Ff):=by show(lI _).bind _=_;rw[aKf,oB];simp
def aTA(d:Nat)(h:RwOk r ws)(S:aD):cl fns (d+1) 71 [.d r.d,.d (ws*>nD)] S=J (.d (Bz Z),S):=by
 let run:∀ {r:Rw}{ws:G Nat},xs (aI fns d) (bL (bL aHs)) [J (.d r.d),J (.d (ws*>nD)),J (.d (Sz r.wd.s)),(r.w:),qx] S=J (.rt (.d (Bz Z)),S)->cl fns (d+1) 71 [.d r.d,.d (ws*>nD)] S=J (.d (Bz Z),S):=λ {r ws} k=>aV U U U (bA (aM U (gJ r)) U (bA (aM U (fG r)) U k)) yAb
 let els:∀ (wd:Wd) (w:Nat) (as ws:G Nat),bO .In (.str wd.s) (nT*>Tv.d)=J (.bool Ff)->decide (wd=.pick)=Ff->decide (wd=.cut)=Ff->bO .In (.str wd.s) (tG*>Tv.d)=J (.bool Ff)->↑ws<=3->(∀ v∈ws,v=w)->cl fns (d+1) 71 [.d (Rw.d ⟨wd,w,as⟩),.d (ws*>nD)] S=J (.d (Bz Z),S):=λ wd w as ws h6 h7 h4 h5 hl he=>run (by
  let hc:lv (aI fns d) aG8 [J (.d (Rw.d (wd,w,as,))),J (.d (ws*>nD)),J (.d (Sz wd.s)),(w:),qx] S=J (ws.map (λ _=>Bz Z),S):=
   iU (fi:=lv (aI fns d) (.it (.var 1))) (fe:=ev (aI fns d) (.cmp .Eq (.var 4) (.var 3))) nD (λ _=>Bz Z) ws U (by rw[zq];omega) λ v hv=>(_,U,λ S'=>dX {} {} (by rw[he v hv,nD,gR,beq_self_eq_true]),)
  exact nI U U h6 (nW .pick U h7 (nW .cut U h4 (nI U U h5 (aN (cZ (eD hc) (aXn ws)))))))
 let i1:∀ {w v:Nat},v∈[w]->v=w:=λ h=>List.mem_singleton.mp h
 let i2:∀ {w v:Nat},v∈[w,w]->v=w:=λ h=>by simpa using h
 let wi:∀ (wd:Wd) (w v a:Nat),v<=w->bO .In (.str wd.s) (nT*>Tv.d)=J (.bool Ff)->decide (wd=.pick)=Ff->decide (wd=.cut)=Ff->bO .In (.str wd.s) (tG*>Tv.d)=J (.bool Z)->cl fns (d+1) 71 [.d (Rw.d ⟨wd,w,[a]⟩),.d (Tz ([v].map nD))] S=J (.d (Bz Z),S):=λ wd w v a hv h6 h7 h4 h5=>run (nI U U h6 (nW .pick U h7 (nW .cut U h4 (yI U U h5 (aN (dX (aM U U) {} (by rw[nD,rO,dqT (by dsimp only;omega)])))))))
 cases h with
 |inp=>exact els .in _ _ [] U U U U (yBv _) λ v h=>by cases h|num=>exact els .num _ _ [] U U U U (yBv _) λ v h=>by cases h|nt=>exact els .not _ _ [_] U U U U (yAc U) λ v=>i1
 |sh _ _ aP=>erw[50,aP]<;>exact els _ _ _ [_] U U U U (yAc U) λ v=>i1
 |cut _ hv=>exact run (nI U U U (nW (a:=.cut) .pick U U (yW (a:=.cut) U (aN (dX (aM U U) {} (by rw[nD,xU,dqT (by dsimp only;omega)]))))))|wide _ hv=>exact wi .wide _ _ _ hv U U U U|sign _ hv=>exact wi .sign _ _ _ hv U U U U
 |bw _ _ aP=>erw[50,aP]<;>exact els _ _ _ [_,_] U U U U (yAc U) λ v=>i2
 |sm h1 h2=>
   rename_i s w a b;cases s
   .exact els .add _ _ [_,_] U U U U (yAc U) λ v=>i2
   .exact els .sub _ _ [_,_] U U U U (yAc U) λ v=>i2
   .exact els .mul _ _ [_,_] U U U U (yAc U) λ v=>i2
 |cmp h1 h2 aP=>
   rename_i wd v a b;refine run (yI U U (by erw[50,aP]<;>rfl) (aN (uI (p:=Z) (dX {} aF U) (dX (aM U U) (aM U U) ?_))));rw[nD,gR,beq_self_eq_true]
 |pick h1 h2=>
   rename_i w c a b;refine run (nI U U U (yW (a:=.pick) U (aN (dX {} (eQ aF {} {}) ?_))));exact bAL (aLG (aNp [1,w,w])) (·)
def aUx(d:Nat)(h:RwOk r ws)(S:aD):cl fns (d+2) 72 [.d r.d] S=J (.d (Bz Z),S):=by
 let els:∀ (wd:Wd) (w:Nat) (as:G Nat),decide (wd=.num)=Ff->decide (wd=.left\/wd=.right\/wd=.slide)=Ff->cl fns (d+2) 72 [.d (Rw.d ⟨wd,w,as⟩)] S=J (.d (Bz Z),S):=λ wd w as h1 h2=>aV U U U (bW (aU (aM U (gJ _)) cC ((fS wd .num).trans (by rw[h1]))) (bW (aU (aM U (gJ _)) U ((aDO wd).trans (by rw[h2]))) (aN vA))) yAb
 cases h with
 |num h1 h2 hn=>
   rename_i w n;exact aV U U U (cJ (aU (aM U (gJ _)) cC (fS .num .num)) (aN (dX (aM U U) (aT (aE (aM U (fG _)) aQ) (dL d w () S)) (by rw[nD,rO,dqT ()])))) yAb
 |sh h1 h2 aP hk=>
   rename_i wd w a k;refine aV U U U (bW (aU (aM U (gJ _)) cC ((fS wd .num).trans ?_)) (cJ (aU (aM U (gJ _)) U ((aDO wd).trans (by rw[dqT aP]))) (aN (dX (aM U U) aF (by rw[nD,rO,dqT ()]))))) yAb;erw[50,aP]<;>rfl
 |bw _ _ aP=>erw[50,aP]<;>exact els _ _ _ U U
 |sm h1 h2=>rename_i s _ _ _;cases s<;>exact els _ _ _ U U
 |cmp _ _ aP=>erw[50,aP]<;>exact els _ _ _ U U
 |_=>exact els _ _ _ U U
def lar(d:Nat){K:G Rw}{k:Nat}{r:Rw}(hr:K[k]?=J r)(p:Prg K)(S:aD):cl fns (d+3) 73 [.d (K*>Rw.d),.d (Iz k)] S=J (.d .none,S):=by
 let rk:bM (K*>Rw.d) (.int k)=J r.d:=dP (by rw[yAe,hr];rfl)
 let hk:k<↑K:=(gIm hr).1;let(f1,f2):=p.fit k r hr;let(w1,w2):=p.ws k r hr;let op:=lG (d+1) r S;let ol:↑(r.args.take (aZ r.wd))<=3:=tP r;let of':cl fns (d+2) 9 [.d r.d,.d (K*>Rw.d)] S=J (.d (Tz ((r.args.take (aZ r.wd)).map λ a=>(K.getD a r).d)),S):=tL d r (.d (K*>Rw.d)) (K*>Rw.d) (λ a=>(K.getD a r).d) S (λ _=>rfl) λ a ha=>dP (by
  let hal:a<↑K:=yDm (f2 a ha) hk;rw[yAe,xAg,yAa hal];rfl)
 let ha:lv (d<$>2) aGL [J (.d (K*>Rw.d)),(k:),J (.d r.d),qx,qx,qx] S=J ((r.args.take (aZ r.wd)).map (λ _=>Bz Ff),S):=
  iU (fi:=lv (d<$>2) (.it (.call 7 (.cons (.var 2) .nil)))) (fe:=ev (d<$>2) (.cmp .GtE (.var 4) (.var 1))) nD (λ _=>Bz Ff) (r.args.take (aZ r.wd)) (by erw[20,op,jE]) (by rw[zq];omega) λ a hm=>(_,U,λ S'=>dX {} {} (by have:=f2 a hm;rw[nD,xU,dqF ()]),)
 let hb:lv (d<$>2) aGR [J (.d (K*>Rw.d)),(k:),J (.d r.d),qx,qx,qx] S=J ((bE r (~~~K)).map nD,S):=by
  unfold bE;rw[yBa];refine iU (fi:=lv (d<$>2) (.it (.call 9 (.cons (.var 2) (.cons (.var 0) .nil))))) (fe:=ev (d<$>2) (.ix (.var 5) (.int 1))) (λ a=>(K.getD a r).d) (nD ∘ g0 (~~~K)) (r.args.take (aZ r.wd)) ?_ (by rw[zq];omega) λ a hm=>?_
  .erw[0,of',jE]
  refine(_,U,λ S'=>?_,);let hal:a<↑K:=yDm (f2 a hm) hk;let e:K[a]?=J (K.getD a r):=by rw[xAg,yAa hal];rfl
  show _=J (W.d (nD (g0 (~~~K) a)),S');rw[iK e];exact aM U (fG _)
 let d1:decide ((r.w:Int)<1)=Ff:=dqF ();let d2:decide ((64:Int)<(r.w:Int))=Ff:=dqF ();let c1:bO .Lt (.int r.w) (.int 1)=J (.bool Ff):=by rw[xP,d1]
 let c2:bO .Gt (.int r.w) (.int 64)=J (.bool Ff):=by rw[oF,d2]
 rw[dU U (d+2) _ S U];exact aLs U (bA (bT {} {} U rk) U (bW (iW (p:=Ff) (aU (aM U (fG r)) aF c1) (aU (aM U (fG r)) aF c2)) (bW (nA U (cZ (eD ha) (aLy _)) U) (bA (cZ (eD hb) oC) U (bW (aB1 (p:=Z) (nA U (cT U U (aTA (d+1) f1 S)) U)) (bW (aB1 (p:=Z) (nA U (bY U (aUx d f1 S)) U)) U)))))) yAb
def aUa(d:Nat)(K:G Rw)(aH:G Nat)(ok:dG [] K)(ho:∀ o∈aH,o<↑K)(hl:↑K<=250)(hol:↑aH<=1000)(S:aD):cl fns (d+4) 74 [.d (K<*(aH*>nD))] S=J (.d (Bz Z),S):=by
 let p:=aEx ok hl;let ll:nE [(K*>Rw.d)]=J (.int ↑K):=by rw[aE7,yAf]
 let it:lv (d<$>3) aDZ [J (.d (K<*(aH*>nD))),qx,J (.d (K*>Rw.d)),J (.d (aH*>nD)),qx] S=J ((yBk ↑K).map λ k=>Iz (k:_),S):=by
  simp only[aDZ,zK,xI,xC,xM,yN,yO,xD];exact nQ (cZ {} ll) ()
 let(aW,S',p1,a1,U,hS):=jF (t:=.one 1) (fb:=xs (d<$>3) aIV)
  (λ j env S'=>∃ a1:Oz W,env=[J (.d (K<*(aH*>nD))),a1,J (.d (K*>Rw.d)),J (.d (aH*>nD)),qx]/\S'=S)
  it (qx,U,U,) (by
   rintro j dd env S' hd ⟨a1,rfl,rfl⟩;let(hj,U):=aDJ hd;exact(_,_,_,U,dW (fZ (cT U U (lar d (yAa hj) p S'))),(j:),U,U,))
 rw[hS] at p1;let hc:lv (d<$>3) aI3 [J (.d (K<*(aH*>nD))),a1,J (.d (K*>Rw.d)),J (.d (aH*>nD)),qx] S=J (aH.map (λ _=>Bz Ff),S):=
  iU (fi:=lv (d<$>3) (.it (.var 3))) (fe:=ev (d<$>3) (.cmp .GtE (.var 4) (.blt .len (.cons (.var 2) .nil)))) nD (λ _=>Bz Ff) aH U (by rw[zq];omega) λ a hm=>(_,U,λ S'=>dX {} (cZ {} ll) (by have:=ho a hm;rw[nD,xU,dqF ()]),)
 exact aV U U U (bX (iV {} U) (bX p1 (bW (nA U (cZ (eD hc) (aLy _)) U) (aN vA)))) yAb
def aDy:∀ (K:G Rw) (W is aG:G Nat),jD K W is (yAg ↑K 0) aG=cN K W is aG
 |[],_,_,_=>rfl
 |r::K,W,is,aG=>by
   rw[yAo,yBj,jD,cN,yIa,yIa,aDy K,aDy K]
def aJ3(d:Nat)(p:Prg K)(hi:cM K is)(ho:∀ o∈aH,o<↑K)(hol:↑aH<=8)(S:aD):cl fns (d+8) 83 [.d (K<*(aH*>nD)),.d (is*>nD)] S=J (.d (Tz ((aH.map (g0 (rn K is))).map nD)),S):=by let rg:=aU1 d K (aH*>nD) is p.l p.fit hi S;rw[aDy] at rg;let oo:=aPQ (d+6) (K*>Rw.d) aH (rn K is) (by rw[pU];exact ho) hol S;refine aLM U (d+7) U U yAb (aN ?_);generalize Tz [(K*>Rw.d),(aH*>nD)]=P at *;generalize Tz (is.map nD)=I at *;generalize Tz ((aH.map (g0 (rn K is))).map nD)=O at *;let rg:cl fns (d+7) 81 [.d P,.d I] S=J (.d (Tz ((rn K is).map nD)),S):=rg;generalize Tz ((rn K is).map nD)=N at *;erw[0,rg,oo]
def aV3(d:Nat)(ns:G Int)(h1:↑ns<=63):∃ S',cl fns (d+11) 103 [.d (Lz (ns.map Iz))] []=J (.d (Bz Z),S'):=by
 let(K,aH,k0,x0,ok,l0,ho,hol,hk0,e0):=@aSQ ns (d+3) h1;let p:=aEx ok ();let(F,k1,x1,hF,sd,wk,hk1,e1):=@aRA k0 ns x0 d K (aH*>nD) p ();let(M,k2,x2,hb,met,fl,hk2,e2):=@aRm _ k1 ns _ x1 (d+2) p hF aH ho ();let(Y,k3,x3,g,hy,hk3,e3):=@aSq _ _ k2 ns _ x2 (d+3) p hF hb (aWd p met) (aH*>nD) ();let t:=bBs p sd hF hb met g hy fl ho l0 hol;let w1:cl fns (d+10) 51 [.d (K<*(aH*>nD)),.d (F*>Ft.d)] [J (bH ns k3 x3)]=J (.d .none,[J (bH ns k3 x3)]):=aRH (d+1) p hF wk (aH*>nD) [J (bH ns k3 x3)];let w2:cl fns (d+10) 21 [.d (K<*(aH*>nD)),.d (F*>Ft.d),.d (M*>nD)] [J (bH ns k3 x3)]=J (.d .none,[J (bH ns k3 x3)]):=aVz (d+3) p hF ho hol hb met fl [J (bH ns k3 x3)];let w3:cl fns (d+10) 59 [.d (K<*(aH*>nD)),.d (F*>Ft.d),.d (M*>nD),.d (Y*>yD)] [J (bH ns k3 x3)]=J (.d .none,[J (bH ns k3 x3)]):=aTt (d+7) hF hb.l g.st hy (aH*>nD) [J (bH ns k3 x3)];let mk:=aUz (d+4) p () g aH ho () (F*>Ft.d) (M*>nD) (J (bH ns k3 x3));unfold mdN at mk;generalize (iO K Y aH).2.1=Q at *;generalize (iO K Y aH).1=os at *;let le:=t.le;let pq:=aEx t.ok le;let lk:=aUa (d+6) Q os t.ok t.lt le (by rw[t.ln];omega) [J (bH ns k3 x3)];let nn:bO .IsNot .none .none=J (.bool Ff):=by kernel_rfl
 let nt:bO .IsNot (.bool Z) (.bool Z)=J (.bool Ff):=by kernel_rfl
 let(aW,S',p1,a7,a8,k',x',hk',U,U):=aBU (t:=.one 7) (fi:=lv (d<$>10) aKN) (fb:=xs (d<$>10) aKa) (env:=[J (.d (Lz (ns.map Iz))),#[0],J (.d (K<*(aH*>nD))),J (.d (F*>Ft.d)),J (.d (M*>nD)),J (.d (Y*>yD)),J (.d (Q<*(os*>nD))),qx,qx]) (S:=[J (bH ns k3 x3)])
  (λ j env S'=>∃ (a7 a8:Oz W) (k':Nat) (x':Int),k'<=k3+200*j/\env=[J (.d (Lz (ns.map Iz))),#[0],J (.d (K<*(aH*>nD))),J (.d (F*>Ft.d)),J (.d (M*>nD)),J (.d (Y*>yD)),J (.d (Q<*(os*>nD))),a7,a8]/\S'=[J (bH ns k' x')])
  (nQ (w:=4) U ()) (qx,qx,k3,x3,(),U,U,) (by
    rintro j dd env S' hj ⟨a7,a8,k',x',hk',rfl,rfl⟩;let hj':j<4:=by simpa using hj
    let(is,k4,x4,hi,hk4,ei):=@aRy k' ns x' (d+6) K (aH*>nD) p ();let(hq,et):=t.told is hi;let t1:=@aJ3 Q _ os (d+2) pq hq t.lt (by rw[t.ln];exact hol) [J (bH ns k4 x4)]
    let t2:=@aJ3 K _ aH (d+2) p hi ho hol [J (bH ns k4 x4)];rw[et] at t1;exact(_,_,_,U,bA (cT U U ei) U (bW (aU (cT U U t1) (cT U U t2) (bAw (aLG (aNp _)) (·))) U),_,_,k4,x4,(),U,U,))
 exact([],aV U U U (bA (kS (eX (aE {} (aE aF (aE aF aQ))) U (yAc U))) U (bA (bY U e0) U (bA (cT U U e1) U (bA (gF U U U e2) U (bA (jZ U U U U e3) U (bW (iW (p:=Ff) (aU (cT U U w1) jJ nn) (jB (aU (gF U U U w2) jJ nn))) (bW (aU (jZ U U U U w3) jJ nn) (bA (jZ U U U U mk) U (bW (aU (bY U lk) vA nt) (bX (hV p1) (aN vA))))))))))) U,)
def main(ns:G Int)(h1:↑ns<=63)(h2:∀ i∈ns,yAn i<=1048576):∃ call S',aI fns 12 103=J (1,call)/\call [.d (Lz (ns.map Iz))] []=J (.d (Bz Z),S'):=by let(S',e):=aV3 1 ns h1;exact aUr (d:=11) U U e
def oks:∀ F∈fns,aCG fns tbs F=Z:=by decide +kernel
def bok:∀ F∈fns,aMM F=Z:=by decide +kernel
def binds:∀ F∈fns,xH F:=λ F hF=>aIS (bok F hF)
def cok:∀ c,tbs.cl=J c->aAe c=Z/\xH c.fn:=λ c h=>by cases h;exact(by decide +kernel,aIS (by decide +kernel),)
end K75
namespace PySem.W.Fast
local macro_rules(kind:=Lean.Parser.Command.declaration)|s=>do
 let some t:=s.find? (·.isOfKind `str)|mqF
 let(l,_):=(t.isStrLit?.getD "").foldl (λ (l,v,a,i) c=>let v:=v*91+if c=='!' then 57 else if c==' ' then 29 else c.toNat-35;if i<8 then (l,v,a,i+1) else ((a+v)::l,0,a+v,0)) (([]:List Nat),0,0,0)
 return mqO (<-l.mapM λ n=>s.rewriteBottomUpM λ x=>return if x.isIdent then mqI s!"tw{n}" else if x.isOfKind `str then Lean.Syntax.mkNumLit "0" else x)
def t:="*Q#BM k.E#Repu)$K+)_o/:m0f&)_ody/5,+$YRi72trt&A9?baGwy(fx(VX4o2&T>'v,zf?'KiK, 'I:&O]`F^$c.%)&KMN%%g$gGm0X(C<#HMi[{3?n.MXF5-E5<)a0p?CYNR*IW)AwB;_/-1pVlY2I$zR=&J1zm%=8cuJeTk%j|>7nvnH#C=66S*:f%#}m2]TMx#%<U(Wm*|&bB2H f8K'n2TytEy#%_>YoI++a%O+Y=J}}G*35x|rsIL, wX9Xl%Z*w,Q$3*}u#iw>tqFN9#zief-A_^$b4mtUhbh+ oVLVw6_#+|md<v^.&B:4m 2kt0:uGNGCH3.p(U80#bO6h/bif(?C,]o?p-|5g+=Q7qfm.y%{*]RJq7v$x_`?Wjhy#W}Hv[PPt##L22MF[$)`'0M{D'6&ad,NM+'L&b'y}:$wo%?MiA=cz,#fed#,KPZ$W5'4;o7P#-QN7+6;5.iJU^]J2/=!7+ wRW(#,( ;Dsyu$?8r'rz%-'-T|txO+4%U&1AtT1e#JR.ZI0DQ$O|nMpWsY2+EJLrx4K$z_1|^Lc{$(<PG `g3%dkNaO:u(,e'EQp_]q%;{d)lNJA$}HzzHuUw(4>n+Ip;K#8*fBajy<(h))K;s32-);1m 1=%$sRu6wO){('ZlSl]<Y-2<.Ta|`30oOLmqo'l)gL|!NObx#3mUEV9#z%-`29qT'2#N4H]w5>k%1%LnAu$P&<9`[{Z]}&+X)d203!$^#=pr8(O(79+LP,i:$j_zb D&<%ci}(NiU-$a^}SN A:1DiCi>I|+#_RukPA_<+8rV(U Pg5HxBQ,1A1#P5%za<!T$Xtnphdu('7d[9;,&U-NzbJ#dSw%Z?x=L0uV0HAu,Hv.V#&kSr!)$-)M_Gc1&:M({zC?A?rX.mR^'gD8A3jZ&CM>Z</Tpo- _#F&VeQ#7zJp([K1_MKU(%s_8*5jT,%)'e]s(y;%96P)AbAZ)R^Pu((fl$8 %`d>k/%6HmEl&fM$MV>3=54+$kTqDSA)h#Nm>:qIS|(.]AcfDg:&M/m!UzO5##wz Jv7L#<*MeSb/u+:Y^8lJk<%|=b;4/vn/saDz1Y[s$Wd/W.ccy-{f1hg$F-&VNfR:`Lp#lJ?5ybB51vH_jR!h4#0X]+At,t$5K{XaiVZ(5mJB1<.)%p!'T^xw?%Qq.Ww4(/#CDDesskl$fWL)M8Zg&'y[G^Wpn+c*VJJI!:$rg0^G 7K#Uq=}F)M1,j]kX,LW>%DVLubjq %`D%40kaj&?y:Ss}+0(aAAU8G}^(By5OG3*p'Xzq]se *%0Wh6mks}%1s%DI+h3#&-4mnxZO#>]fizUHm+ULa3:lRD#|'SEh%j,%QS4sKC2g/WEOJ<]^'(4=4)yT4O0eh;S2$|a$d.my*F|z$NK[?ZVq-PSXRK6}1o(6B9=&vU#&1{=y(&Jt)ch!c&^X8(a'pjxW&s#tk>ZNOHB%6_Bn;Ju_+y#`;hja2,eqN>=/%*%U}IH}fsx&GpMd IX$71[hQ<0^h&lm'M?t=)#^F`I`$O/#$=xM|z2.&X#n=1(0N'ykR_ttPG$yDX<3Sg|11hEc$*m1$] qB,iqa(8.OK}}fT#/G$)*/#M$]2i>&1m_)=n<0^<Zs+N7)nb4_H# +]uWmi7)Iku1ZY6p+Be>9*$G4%=5YVp*M($HUGn>QYj& 4V.Lqqm#Bx6d]_D-#x*^#BsFU,3E(1fOeP(4_0[iLNO&K3N,5010#jlc0^];b(-N3UBf>1$XGH2`zBR#[bod_ZGs$wU8Sr%N'#aSd]l:5u&H`q]{ +T#!MIXTYT1+<tcyU9fI$Jh5`9bxR%uA{d.kGm$^hHwd y].?VJm)KX$%l{DX,W=t2XP{9.Ss%$WU)jJrDs)F2nLJGrH#^iFtA.,D#&o%8]kv/)A;VLoR%p%#w*eXZpR$:^AMcX%D$9OdK?hz[C(>bG>,?g.?)I$Z>Xq:%;q.Q|#k$W(|hX5-Y/H9lVFLGJ)**MiXzYR30S#;D6Q{&^4.vxq/l&^`=5o4)-*p2r5DT0h&wjKnRYU8$pS&lXQGZ.60bn|F86,ce!`sb[4's4RI=jM#';pm4MaH86OZRM=<kZ,X(p#QFF$&x_G `r8C*]Gs8`|{a%^pAhDAKA')'/$N_p)&09'`Zq/.(ICA(W{HZ%I^!Vp24a$|e{T5q,g##Aq2B`NR%:`aF3k5h(/K(]q:sI'R=QHWs5k#gYg2LN>h$H>XCD'9B*i'Q&rq5J%Z01TD-=Y'A;[KzeS3%UPJ*Q;^W#|s}lC9LV(/#N$OjqR$O)4&iEuO0aXMi;_zl#HWN.2I6G/Zp25plrx#TffVplA7%M&z(}ER7%'p*D)SDG#/}CTPc>`%`ren.<8F*%FxqQ3bw$upsE_2X7$N25C<zD8&FwdY;tW:$L5$$|h+a)d4D_o'IC&>O=rLS*F,H#H0k`-N$dCTi6y3u0`D$*_MZV$O+4jKy$84Pmbg:K!t%U|m9k6iZ#e7[VK/|d*:<PT&9^L+JOAw)FZF&+C)dG%C5%K<*l;j42-FGUU^XxG8rl!b3 *h)e0Vwl`K#&!A|!=b8n#h bZ[_T'-'4W/xeLO&H0QB_>rj.0_+UbU#H)v{Eiw4*3&sDpo%H2v#_SL/mj4=8TuU ^'-u)7NIpu>E2&=FvD'`qJ*.ADBc-L1%PuFl(3cf*'f|I&&5q#*:qTW9U]%00>Foe`x%SH>T|C*u'R+*2[7F3#m,wFC==N$Yjze!t^|&H2>bGpL.$C&.yHG)w%Bq^*HRrY$JS>0Z1)e&_mSH&+U9)}2k<T^WY1b16IFr:o%PV*u;n}N1#M5[bVv?%,*r=a&xX% %Qz`$5b#l5X(qu.p,vy|u6#PE#::/L-=!k$t%Y?ql<c%uHGQVvL>%lTM5?#Vf#30DtevU9)Cpx|U^Gq**4U!Zm<i%<-/vXSlX&i|%b<a96*f^2,go=N#gYrgcZ-;%qm<w1)Sa%8%jV<eOQ$xzt/aL'^/j4kx-4,U-HJ4F9'^g#9-:qjedX$ r7 POT>'b<rw>[>&#Zw*nt&Gk''GT82SCz#{vX{wQir$5MhN 2%g-4YKw)SI})0iMf=e&^#ae[wAnVk%n^MaH3E%8iW86#|07.)}3hao#a'QMsAlBu`37JDeKRJ)#0HHy=;B=#qw7XeR&j%ESH,?!i<&^</bue:x%-sQ$gq0g&VESI6(M`1XW{z3J3W#Lz$;#l?]1gJR{R(:R)}},bzrUN%jx}Yv #j.Ca]M?;Zs&gB`!dIT-+MVY]EJY^&r| }0_s,'khMih/BD4*)(R7!o_%P[;!+Ao..p8lNOaiU%MNZG*['J65<38D^8v-`.0Y81n}6#jGn()3l'Pkax)x'l%?*<X8v/N5'&B2UN)b%9}e)y]33#V,!j=a.S-0:1?d&gB%,{ +QSJ_'LYWBJ.]7#_%fdv!7A&p(YS6r5Z'e+oz<O=,#Lw^=dV1b1s}-Rv]'&#,Em[*qzG*Kc$ytC)V6g`Lz5cWk37Fv'{7bZ$d60y?2Yw#-$N'BdKs*mXo!grr`$8+tu,Z60%!>aw|pP_)?WDCic(e'19|1EFL!#oWEkyfQ)$0i/hke5T*X'_3DP/m+0!mk|]Ca)n;.O3uao+9x^%}9w+#`{taVK*23=zwS&I8g(VXN Hmy})`+$bs|.t8L`ynJK7[.;Ml+hO=0#=]U))EOa$FkY-z+q|)BQW_3)|I0&ssfs6R%)%Lc8+Y>s$%<yeb**P:k3WfvhE2*aLz-=H8Y#Ky>#I,NX$Nta44*Pn1GAW)hzw.1V&pu^G4g#F$AjT{-9%>mAH!$rF/?f..o+[d'DoXV&0Ez#r5yO&wgv)*7TkH}}A%f^j|Q`v-%zaR!h34v,0Q]+H.'Z%!3nr42/H$A5W]ES)C-PI|Xt#u $qf_eNe9*+vwMhf;iP*k?K*S>z1%%;rc*y32'i?!8cr5:+V!qA0$zS*Ac94Dr[X#oiCzmv/S$74'32v?/#D[]B'h[6&S6kQ$,jt(HJ}K5+yM&KcA=S-%&1I;id9woP(As&gnHDb2.2zz?/.,8``Pb>&rI(*WllM{7%$ t%ate=##{:Wq{CH5*Fa &rIsz%*56D_ggh#k}!pCSL]%}$&}}K'j.i>>%?/fx'i]YG:K;Z$)d-<ph<Y-FEL}u*=['.q$Jx<hw$hZ!MLB3f$^()jPL:..eG+_S+UR'Lk }/Rk:,lAiO3mna'qd<gGpxF($ez68f9'%,r='Clx|'7`CfOsmk$_[GRnNW:+*uB8p'Mi#P|8 N>'X$0{1OzISn(Xl%bDe3M&U#8];q.-#z,<Q[sk'.d{b.t*yI#P{2fH=LE%bB/(W3Tu%e+:MbyWX'|3] >Pe0&ORRi,7bj#>V,kT2F<)]*cg='?!$,kwxH|Qh1n*]L$I2H*?F^>VK9f*FvK#isDo4[hAKo0XA%]e34hu71$I{yZpe!`(aHL&jmn_%QukIl>*k*a&VVn7cT%wszItNV1%+cz$9p8o2;botg$B9%`F$^gU5S,>D/oF<0:+40=[`P5&*C/?!n4S37]#!fg&1l6yum|.Y3B0H]Q+)3&'$F]G%d6ea$biob{#h7#B6(C+chl&*H*K^TL=+vYMVs3t7%Cy}NjKh-%D|.[&Ig0#fRo/;^6r$:Mfi}[VK#eALV5-lO%Sjo45`(Z'VArU (; $jL6`tPJ2&)#H.rGQ.&/s>lN;md/H %GKL,b,fie}cZBV%XR)>r $$'%}KlFsn[$`<Na'akH$Eb#]HrOG*}}>N7xMr'Tp>.rZ|Z%kn>OM3,i'4b|O<x5m#QWI%!k5`&CD-T4]/e&[aR7/Hrq%yC!lbN&/&+(UD#-}z#Lc*'l`/H$/f.$K28k$H0ZFK6`7#vMOy.7{!&pSsc0Tu)(-SfX4c-L%aB** 4Y#(nGv]%r86(<[UvPu`d'$avGXo8%)(3Z6bNw.'xrvhcQ<k$]`K0D0Cg#h]9M>oa*#hUgxwhNt%,o3#51YP*J_6&jQQ#(Crd), 9c/a'/!}p#V&D86hnz&n$SX&SyLv_$|4uHv(Qd#wqkF-]X,#*HE|W,i-0JCwV]0IC#S)T?g[W6:qEvOTy3')BEG[TN(D#j])Ss^}r0<TB0ZlTo(Lgd%dRp]8mWp't-{4,KrIO9upj%DG9TPpu3&^_ebI&.t*lat[K%gt-yvM,Y+ $'&BBN(}bk#8UD%DqQQ1%O'-N-l(#.ZD>vITU$I_sZ|.j $0}g0y*E+%)e$5ei,W-7;?PRO#|&vMy=>mn8)1]p}Vfdb$2eI#z!+w%/K=%M7b5#a0UjD+jd$yi.FKgyj$tB7UGiU2)N'fF6>5$)Z*k,.3p`&hnQaZ4B^$dk<V;03C$DbmtQ0[-$i`GSR{9=)m?hz45:|#OAl|'&|?);v%duNN>#4/}5##4Z$wkb6Z1sy6gpfql|dm$Cs{^sFHe*ST78Uw58%HVz<KjZ2#.xZ[xz0Q&fHj],l!X#U-xN_9VX#.Wt.N-tS$N!D&s0FB#U'SSiP^3#p&]y,=lU(n|N&3dax)|x0;*2C;(ruYnul[p%#${z!(fc(H h:,w9e(g5jAsHoR#tlqkG+h]':a>A=6*`&Ic[;n9A5&h5_>{f2d/vs-==mfC'&sxki1R`-p)YJ<Bjp&6}2wHS{&&VE2$&H,+(^f!YjW)C(EEdxp;3]#7zlBXs0#*$X9}KO#K%&t{AxUK_'qE5fufi,#AZZk+a'S$=21w:Ih/%VPn5*z=U%jx$9<80#&DOV#)XKl#zY`'^A9z'u?}-HUKh$:))pJ*=Y$q!w2_def()jHM/i(n'L>k|-*Vy$L3|=o<&E-&h%B9TyE(xCjz*f27%`98|o{K-%v=2miJ7(*(5% -wBa#a9#dTkA)(f;!uu)e.$G2t$jBWb-.6&S+q6F(Xqgk$U[8#w:7V'U%),6DmJz43 2Fw|:83JW#.t!Ge2BQ#67WaX&`)$MWH%o*7s$igud/6uF%#)m9xiqc)c/_LLte,$Lk>GGGC!('6;.!f6]$C#8z*WuB#D}UY(bq6<bQ DRj]N%mkVkeR;%#IKES{:XG&//m  wZB'26f]5]-<.G?I4zEC%(r#c:`+sc&W'9Y3350$v}/6,Tp-&d$,BB%0p'HVde%}*`)E>+0<+rw'>K]v_({j2'ckG] eq$AG]O!JwF*fFx7t{w>#q%0+3zx;&AbC!TW`:+J^^2P6!c(+HVF%L'f+;R^%I3.G$vvkMr8($&3zn,jM0V#EfRC3- f-^cBrWy*b';_+{*_4B<46MGjXOx$ 2.gpGW[(+xDtq!?p$AVTVwVKQ$a#ms/[g^%:#oGr+Y`#u_R?);L1*z4q!ku5o=ul,-$ [O#D+ /{c58#.WhwG9?5$&]{sn:eE0VAQt,qEj*v*&QBd0D$!<0VRqRm#+][ G _f%#qU_t#o:(%Lai1Jav&a9!jSgMM%*+8TJJew. 54hxMUH%bGdDN3yD#_4GI{=2V%ZAu=[Lh(#K0HaX* z'jNuN^n!U%?$:{3UV&#J*Ey7^NG$v7{5k59D$IE:d0g75(G3M0Vn###16)TYS}j,*]_^,|6l(>PF=C(NZ$E:2-,|(5#KnWxEVX7'W_b5vcGn&7%mucncu$9n}ypvFY-gmjI-FF]%2E1 (tsn$fB-,GP7Z$aZ)'K!%i'XW WJ>g4+eY90ru;K'd(<K1Z)r*?vxX$;D|(Z 4_<H,]-]8apODp*,L+o3l[j*%MeUZ,bB0+)g)nt0l_)DVpyr(pP)=*^j[SMx#T- ),t/!*a'c>5BrE0*RZr*VAg6nW&xfcQj#8:Lq+-2m-Ld!2f]g$,9omNKst]%+y&%v[<r$dy]f,i9|$| iV9g0]'{Xui*UWg#a5'q9GAc0;3etKlGO%e|SQXxLe+!+e>Zt3'#1,R>Q]9}"
end PySem.W.Fast
set_option maxRecDepth 100000 in
set_option maxHeartbeats 0 in
theorem PySem.Challenge.cw_fewbits_k75_whole_made_by_any_stays_holds : PySem.Challenge.rw_fewbits_k75_whole_made_by_any_stays.Holds := by
 w_on;o_law;k_head;(case hw=>w_witness2)
 k_fill
 refine EV.law_of (l:=PySem.Challenge.rw_fewbits_k75_whole_made_by_any_stays) K75.fns K75.tbs 103 12 _ "_law_script" rfl rfl (rfl,by decide,by decide,) (λ w h Y=>PySem.W.kIn_of Y) K75.oks K75.binds rfl rfl rfl rfl ?top K75.cok ?clt ?tbl ?cnl ?stl ?tbn K75.main
 case top=>
  intro w h KX F hF;simp only[K75.fns,yEa,yDv,or_false] at hF;rcases hF with rfl|rfl|rfl|rfl|rfl|rfl|rfl|rfl|rfl|rfl|rfl|rfl|rfl|rfl|rfl|rfl|rfl|rfl|rfl|rfl|rfl|rfl|rfl|rfl|rfl|rfl|rfl|rfl|rfl|rfl|rfl|rfl|rfl|rfl|rfl|rfl|rfl|rfl|rfl|rfl|rfl|rfl|rfl|rfl|rfl|rfl|rfl|rfl|rfl|rfl|rfl|rfl|rfl|rfl|rfl|rfl|rfl|rfl|rfl|rfl|rfl|rfl|rfl|rfl|rfl|rfl|rfl|rfl|rfl|rfl|rfl|rfl|rfl|rfl|rfl|rfl|rfl|rfl|rfl|rfl|rfl|rfl|rfl|rfl|rfl|rfl|rfl|rfl|rfl|rfl|rfl|rfl|rfl|rfl|rfl|rfl|rfl|rfl|rfl|rfl|rfl|rfl|rfl|rfl
  all_goals
   first
   | (refine' .inl (EV.top_mk ?a1 ?l1 ?c1 ?k1 rfl)
      (case a1=>k_is)
      (case l1=>k_is)
      (case c1=>k_is)
      (case k1=>k_is))
   | (refine' .inr (EV.topm_mk ?a1 ?b1 ?b2 ?b3 ?b4 ?m1 ?m2 ?l1 ?c1 ?k1 rfl)
      (case a1=>k_is)
      (case m1=>k_is)
      (case l1=>k_is)
      (case b1=>k_is)
      (case b2=>k_is)
      (case b3=>k_is)
      (case b4=>k_is)
      (case m2=>k_is)
      (case c1=>k_is)
      (case k1=>k_is))
 case clt=>
  intro w h KX c hc;cases hc
  refine' EV.topc_mk ?a1 ?b1 ?b2 ?b3 ?b4 ?n1 ?m1 ?m2 ?m3 ?m4 ?l1 ?c1 ?k1
  (case a1=>k_is)
  (case m2=>k_is)
  (case l1=>k_is)
  (case b1=>k_is)
  (case b2=>k_is)
  (case b3=>k_is)
  (case b4=>k_is)
  (case m1=>k_is)
  (case m3=>k_is)
  (case m4=>k_is)
  (case c1=>k_is)
  (case k1=>k_is)
  (case n1=>
    intro p hp;simp only[K75.cl_ini,yEa,yDv,or_false] at hp;rcases hp with rfl|rfl|rfl|rfl|rfl
    all_goals
     unfold L2.NoAttr
     k_is)
 case tbl=>
  intro w h KX t ht;simp only[K75.tbs,yEa,yDv,or_false] at ht;rcases ht with rfl
  all_goals
   refine' EV.tab_mk ?a1 ?l1 ?c1 ?s1
   (case a1=>k_is)
   (case l1=>k_is)
   (case c1=>(repeat' (first|exact True.intro|apply And.intro))<;>first|rfl|exact(_,rfl,))
   (case s1=>decide)
 case cnl=>
  intro w h KX t ht;simp only[K75.tbs,yEa,yDv,or_false] at ht;rcases ht with rfl|rfl|rfl|rfl|rfl|rfl|rfl|rfl
  all_goals
   refine' EV.con_mk ?a1 ?l1 ?z1 ?c1
   (case a1=>k_is)
   (case l1=>k_is)
   (case z1=>decide)
   (case c1=>(repeat' (first|exact True.intro|apply And.intro))<;>first|rfl|exact(_,rfl,))
 case stl=>
  intro w h KX t ht;cases ht
 case tbn=>
  intro w h KX x hx;simp only[EV.bltNames,yEa,yDv,or_false] at hx;rcases hx with rfl|rfl|rfl|rfl|rfl|rfl|rfl|rfl|rfl|rfl|rfl|rfl|rfl|rfl|rfl|rfl|rfl|rfl|rfl
  all_goals k_is
